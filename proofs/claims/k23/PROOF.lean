import PyProof.Rows.All
import Wide.All
import OpenK.AllK
import Wide.FinOn
import PyProof.EqAt
import PyProof.EqKinds
import PyProof.TupleCall
import Lean
import PyProof.IsiTupleAll
import PyProof.Draws
import PySem.Challenge.RW_skylanes_k23_ends_of_too_near
set_option Elab.async false
set_option linter.all false
set_option maxRecDepth 100000
set_option maxHeartbeats 4000000
section
namespace PySem
open Sem (wp)
abbrev FK:=(Int×Int)×Int
section
variable {prog:Program} {w:World}
def Iz (prog:Program) (w:World) (h:Heap) (k:FK) (a:Addr):Prop:=∃o items n b u,h.get? a=some o/\o.cls= .type "tuple" /\o.data= .seq items n/\items.toList= [.ref b, .int k.2 u] /\IsTupleKey (intKind prog w) h [k.1.1,k.1.2] b
theorem Iz.typeIs {s:Shared} {k:FK} {a:Addr} (x:Iz prog w s.heap k a):s.TypeIs (.ref a) "tuple" :=let ⟨o,_,_,_,_,ho,hc,_⟩:=x;⟨o,ho,hc⟩
theorem Iz.inj {h:Heap} {a:Addr} {x y:FK} (hx:Iz prog w h x a) (hy:Iz prog w h y a):x=y:=by
 obtain ⟨o,items,n,b,u,ho,_,hd,hi,hk⟩:=hx
 obtain ⟨o',items',n',b',u',ZA,_,gc,UK,wG⟩:=hy
 obtain rfl:o=o':=Option.some.inj (ho.symm.trans ZA)
 rw [hd] at gc
 injection gc with h1 _
 subst h1
 rw [hi] at UK
 injection UK with h1 h2
 injection h1 with h1
 subst h1
 injection h2 with h2 _
 injection h2 with h2 _
 have:=hk.inj wG
 obtain ⟨⟨x1,x2⟩,x3⟩:=x
 obtain ⟨⟨y1,y2⟩,y3⟩:=y
 injection this with e1 e2
 injection e2 with e2 _
 simp only at h2 e1 e2
 subst h2;subst e1;subst e2
 rfl
theorem Iz.keeps {h h':Heap} {k:FK} {a d:Addr} {o:Obj} {es ep} (x:Iz prog w h k a) (ho:h.get? d=some o) (hd:o.data= .dict es ep) (hs:Heap.SameBut d h h'):Iz prog w h' k a:=by
 obtain ⟨o',items,n,b,u,ZA,hc,gc,hi,hk⟩:=x
 have QY:a≠d:=by
  rintro rfl
  obtain rfl:o'=o:=Option.some.inj (ZA.symm.trans ho)
  rw [hd] at gc;exact nomatch gc
 exact ⟨o',items,n,b,u,(hs.2 a QY).trans ZA,hc,gc,hi,hk.keeps ho hd hs⟩
def VZ (prog:Program) (w:World) (k:FK):Int:=reduceHash (Builtin.Tuple.tupleHashOf [tupleKeyHash (intKind prog w) [k.1.1,k.1.2],hashInt k.2])
variable {A:Around} {E:Value->Shared->Prop} {s:Shared}
theorem M3 {k:FK} {a:Addr} {Q:Int->Shared->Prop} (hu:A.units+1<cLine) (hk:Iz prog w s.heap k a) (h:Q (VZ prog w k) {s with toks:=s.toks+5}):
 wpAny (model prog w) A (pyHash (.ref a)) Q E s:=by
 have hT:=hk.typeIs
 obtain ⟨o,items,n,b,u,ho,_,hd,hi,dz⟩:=hk
 unfold pyHash
 first | unfold pyHashByItsType|skip
 first | refine wpAny_bind (wpAny_cRoomFor_or (.inr (by omega)) ?_)|skip
 refine wpAny_bind (wpAny_specialOf hT F.slot_tuple_hash.lookup ?_)
 show wpAny _ _ (if (some (Value.builtin "tuple.__hash__")==some Value.none)=true then _ else _) Q E s
 rw [if_neg (by rw [beq_builtin_none];exact Bool.false_ne_true)]
 refine wpAny_bind (wpAny_specialOf hT F.slot_tuple_hash.lookup ?_)
 show wpAny _ _ (callSpecialIfBoundUnlessNone? (.ref a) "__hash__" _ >>= _) Q E s
 refine wpAny_bind (wpAny_callSpecialIfBoundUnlessNone?_slot hT F.slot_tuple_hash (wpAny_call_entry F.slot_tuple_hash hT F.entry_tuple_hash ?_ (F.args_tuple_hash_1 _)))
 show wpAny _ _ (Builtin.Tuple.tupleItemsOf (.ref a) >>= _) _ _ s
 refine wpAny_bind (wpAny_tupleItemsOf ho hd ?_)
 refine wpAny_bind ?_
 rw [<-Array.forIn_toList,hi]
 refine wpAny_forIn_list _
  (λrest (r:Array Int) s'=>(rest= [.ref b, .int k.2 u] /\r.toList= [] /\s'=s)\/(rest= [.int k.2 u] /\r.toList= [tupleKeyHash (intKind prog w) [k.1.1,k.1.2]] /\s'={s with toks:=s.toks+3})\/
    (rest= [] /\r.toList= [tupleKeyHash (intKind prog w) [k.1.1,k.1.2],hashInt k.2] /\s'={s with toks:=s.toks+4}))
  _ ?_ ?_ _ _ (.inl ⟨rfl,rfl,rfl⟩)
 ·rintro x rest r s' (⟨e1,e2,rfl⟩|⟨e1,e2,rfl⟩|⟨e1,_⟩)
  ·cases e1
   refine wpAny_bind (wpAny_pyHash_tuple (knd:=intKind prog w) (by first | exact hu|omega) dz ?_)
   exact wpAny_pure (.inr (.inl ⟨rfl,by simp [e2],rfl⟩))
  ·cases e1
   refine wpAny_bind (wpAny_pyHash_int ?_)
   exact wpAny_pure (.inr (.inr ⟨rfl,by simp [e2],by simp [Nat.add_assoc]⟩))
  ·cases e1
 ·rintro r s' (⟨e1,_⟩|⟨e1,_⟩|⟨_,e2,rfl⟩)
  ·cases e1
  ·cases e1
  ·show wpAny _ _ (retInt (Builtin.Tuple.tupleHashOf r.toList)) _ _ _
   rw [e2]
   refine wpAny_ret_mkInt ?_
   show wpAny _ _ (if (decide (-(2:Int)^63<=Builtin.Tuple.tupleHashOf [tupleKeyHash (intKind prog w) [k.1.1,k.1.2],hashInt k.2])&&decide (Builtin.Tuple.tupleHashOf [tupleKeyHash (intKind prog w) [k.1.1,k.1.2],hashInt k.2] < 2^63))=true then _ else _) Q E _
   unfold VZ reduceHash at h
   by_cases hr:(decide (-(2:Int)^63<=Builtin.Tuple.tupleHashOf [tupleKeyHash (intKind prog w) [k.1.1,k.1.2],hashInt k.2])&&decide (Builtin.Tuple.tupleHashOf [tupleKeyHash (intKind prog w) [k.1.1,k.1.2],hashInt k.2] < 2^63))=true
   ·rw [if_pos hr]
    rw [if_pos hr] at h
    exact wpAny_pure (by simpa [Nat.add_assoc] using h)
   ·rw [if_neg hr]
    rw [if_neg hr] at h
    exact wpAny_bind (wpAny_rule (wpAny_pure (by simpa [Nat.add_assoc] using h)))
theorem Va {x y:FK} {a b:Addr} {P:Fin->Shared->Prop} (hu:A.units<cLine) (hx:Iz prog w s.heap x a) (hy:Iz prog w s.heap y b) (h:P (.done (.ret (.bool (decide (x=y))))) s):
 wpAny (model prog w) A (Builtin.«tuple.__eq__» ⟨[.ref a, .ref b], []⟩) P E s:=by
 have v7:=hy.typeIs
 obtain ⟨oa,xs,na,ba,ua,wU,_,wB,tG,wI⟩:=hx
 obtain ⟨ob,ys,nb,bb,ub,wV,_,hdb,tH,wJ⟩:=hy
 have sx:xs.size=2:=by rw [<-Array.length_toList,tG];rfl
 have sy:ys.size=2:=by rw [<-Array.length_toList,tH];rfl
 obtain ⟨⟨x1,x2⟩,x3⟩:=x
 obtain ⟨⟨y1,y2⟩,y3⟩:=y
 show wpAny _ _ (isInstance (.ref b) (.type "tuple") >>= _) _ _ s
 refine wpAny_bind (wpAny_isInstance v7 isSubtype_tuple_tuple ?_)
 simp only [Bool.not_true,Bool.false_eq_true,if_false]
 refine wpAny_bind (wpAny_tupleItemsOf wU wB ?_)
 refine wpAny_bind (wpAny_tupleItemsOf wV hdb ?_)
 refine wpAny_bind ?_
 rw [tG,tH]
 refine wpAny_forIn_list _
  (λrest r s'=>r.1=none/\s'=s/\(rest= [(.ref ba, .ref bb),(.int x3 ua, .int y3 ub)] \/(rest= [(.int x3 ua, .int y3 ub)] /\x1=y1/\x2=y2)\/(rest= [] /\x1=y1/\x2=y2/\x3=y3)))
  _ ?_ ?_ _ _ ⟨rfl,rfl, .inl rfl⟩
 ·rintro ⟨u,v⟩ rest r s' ⟨hr,rfl,(hz|⟨hz,e1,e2⟩|⟨hz,_⟩)⟩
  ·cases hz
   refine wpAny_bind (wpAny_eqBool_tuple (knd:=intKind prog w) (by first | exact hu|omega) wI wJ ?_)
   by_cases hk:x1=y1/\x2=y2
   ·rw [decide_eq_true (by rw [hk.1,hk.2])]
    simp only [Bool.not_true,Bool.false_eq_true,if_false]
    exact wpAny_pure ⟨rfl,rfl, .inr (.inl ⟨by first | trivial|rfl,hk⟩)⟩
   ·rw [decide_eq_false (by intro z;injection z with z1 z2;injection z2 with z2 _;exact hk ⟨z1,z2⟩)]
    simp only [Bool.not_false,if_true]
    have hf:decide ((((x1,x2),x3):FK)=((y1,y2),y3))=false:=by
     apply decide_eq_false
     intro z
     injection z with z1 z2
     injection z1 with z3 z4
     exact hk ⟨z3,z4⟩
    rw [hf] at h
    exact wpAny_bind (wpAny_pure (wpAny_pure (wpAny_pure h)))
  ·cases hz
   refine wpAny_bind (wpAny_eqBool_int ?_)
   by_cases hk:x3=y3
   ·rw [show (x3==y3)=true by simp [hk]]
    simp only [Bool.not_true,Bool.false_eq_true,if_false]
    exact wpAny_pure ⟨rfl,rfl, .inr (.inr ⟨by first | trivial|rfl,e1,e2,hk⟩)⟩
   ·rw [show (x3==y3)=false by simp [hk]]
    simp only [Bool.not_false,if_true]
    have hf:decide ((((x1,x2),x3):FK)=((y1,y2),y3))=false:=by
     apply decide_eq_false
     intro z
     injection z with z1 z2
     exact hk z2
    rw [hf] at h
    exact wpAny_bind (wpAny_pure (wpAny_pure (wpAny_pure h)))
  ·cases hz
 ·rintro ⟨r1,r2⟩ s' ⟨hr,rfl,(hz|⟨hz,_⟩|⟨_,e1,e2,e3⟩)⟩
  ·cases hz
  ·cases hz
  ·simp only at hr
   subst hr
   refine wpAny_pure ?_
   show P (.done (.ret (.bool (xs.size==ys.size)))) s'
   rw [sx,sy]
   rw [decide_eq_true (by rw [e1,e2,e3])] at h
   exact h
theorem M0 {x y:FK} {a b:Addr} {Q:Bool->Shared->Prop} (hu:A.units+1<cLine) (hx:Iz prog w s.heap x a) (hy:Iz prog w s.heap y b) (h:Q (decide (x=y)) s):
 wpAny (model prog w) A (eqBool (.ref a) (.ref b)) Q E s:=by
 unfold eqBool
 try with_reducible refine wpAny_holding ?_
 show wpAny _ _ (if (Value.ref a==Value.ref b)=true then _ else _) Q E s
 by_cases i5:(Value.ref a==Value.ref b)=true
 ·rw [if_pos i5]
  have e:a=b:=by have:=eq_of_beq i5;injection this
  subst e
  obtain rfl:=hx.inj hy
  exact wpAny_bind (wpAny_rule (wpAny_pure (by simpa using h)))
 ·rw [if_neg i5]
  exact wpAny_bind (wpAny_richCompare_same_room (op:= .Eq) hx.typeIs hy.typeIs F.slot_tuple_eq
   (wpAny_call_entry F.slot_tuple_eq hx.typeIs F.entry_tuple_eq (Va (by first | exact hu|omega) hx hy ⟨_,rfl,(λe=>nomatch e),wpAny_truthy_bool h⟩) (F.args_tuple_eq_2 _ _)) (by omega))
theorem Ge {K:Type} [DecidableEq K] {knd:KeyKind prog w K} {ks:List K} {a:Addr} {Q:Bool->Shared->Prop} (m:Nat) (hk:IsTupleKey knd s.heap ks a) (h:Q true s):wpAny (model prog w) A (eqIsQuiet (m+1) (.ref a)) Q E s:=by
 have hT:=hk.typeIs
 obtain ⟨o,items,n,ho,_,hd,hi⟩:=hk
 unfold eqIsQuiet
 refine wpAny_bind (wpAny_specialOf hT F.slot_tuple_eq.lookup ?_)
 show wpAny _ _ (isInstance (.ref a) (.type "tuple") >>= _) _ _ s
 refine wpAny_bind (wpAny_isInstance hT isSubtype_tuple_tuple ?_)
 simp only [Bool.not_true,Bool.false_eq_true,if_false]
 refine wpAny_bind (wpAny_seqItems ho hd ?_)
 refine wpAny_bind ?_
 show wpAny _ _ (forIn items _ _) _ _ s
 rw [<-Array.forIn_toList]
 refine wpAny_forIn_list _ (λrest r s'=>r.1=none/\s'=s/\∀v∈rest,carriedByValue v=true) _ ?_ ?_ _ _ ⟨rfl,rfl,hi.byValue⟩
 ·rintro v rest r s' ⟨hr,rfl,YJ⟩
  rw [eqIsQuiet_byValue _ (YJ v List.mem_cons_self)]
  refine wpAny_bind (wpAny_pure ?_)
  simp only [Bool.not_true,Bool.false_eq_true,if_false]
  exact wpAny_pure ⟨rfl,rfl,λu wa=>YJ u (List.mem_cons_of_mem _ wa)⟩
 ·rintro ⟨r1,r2⟩ s' ⟨hr,rfl,_⟩
  simp only at hr
  subst hr
  exact wpAny_pure h
theorem JU {k:FK} {a:Addr} {Q:Bool->Shared->Prop} (hk:Iz prog w s.heap k a) (h:Q true s):wpAny (model prog w) A (eqIsQuiet 8 (.ref a)) Q E s:=by
 have hT:=hk.typeIs
 obtain ⟨o,items,n,b,u,ho,_,hd,hi,dz⟩:=hk
 unfold eqIsQuiet
 refine wpAny_bind (wpAny_specialOf hT F.slot_tuple_eq.lookup ?_)
 show wpAny _ _ (isInstance (.ref a) (.type "tuple") >>= _) _ _ s
 refine wpAny_bind (wpAny_isInstance hT isSubtype_tuple_tuple ?_)
 simp only [Bool.not_true,Bool.false_eq_true,if_false]
 refine wpAny_bind (wpAny_seqItems ho hd ?_)
 refine wpAny_bind ?_
 show wpAny _ _ (forIn items _ _) _ _ s
 rw [<-Array.forIn_toList,hi]
 refine wpAny_forIn_list _ (λrest r s'=>r.1=none/\s'=s/\(rest= [.ref b, .int k.2 u] \/rest= [.int k.2 u] \/rest= [])) _ ?_ ?_ _ _ ⟨rfl,rfl, .inl rfl⟩
 ·rintro v rest r s' ⟨hr,rfl,(hz|hz|hz)⟩
  ·cases hz
   refine wpAny_bind (Ge (knd:=intKind prog w) 6 dz ?_)
   simp only [Bool.not_true,Bool.false_eq_true,if_false]
   exact wpAny_pure ⟨rfl,rfl, .inr (.inl (by first | trivial|rfl))⟩
  ·cases hz
   rw [eqIsQuiet_byValue _ rfl]
   refine wpAny_bind (wpAny_pure ?_)
   simp only [Bool.not_true,Bool.false_eq_true,if_false]
   exact wpAny_pure ⟨rfl,rfl, .inr (.inr (by first | trivial|rfl))⟩
  ·cases hz
 ·rintro ⟨r1,r2⟩ s' ⟨hr,rfl,_⟩
  simp only at hr
  subst hr
  exact wpAny_pure h
end
def fkKind (prog:Program) (w:World):HeapKind prog w FK where
 is:=Iz prog w
 hash:=VZ prog w
 draws:=λ_=>5
 room:=λA=>A.units+1<cLine
 inj:=λhx hy=>hx.inj hy
 keeps:=λx ho hd hs=>x.keeps ho hd hs
 pyHash:=λhu hk h=>M3 hu hk h
 eqBool:=λhu hx hy h=>M0 hu hx hy h
 quiet:=λhk h=>JU hk h
theorem DT {prog:Program} {w:World} {A:Around} (h:A.units+2<cLine):(fkKind prog w).room A.in1:=by
 show A.units+1+1<cLine
 omega
end PySem
end
namespace L2
open PySem PySem.Spec PyProof.Rows
abbrev Fj:=Sum Int Str
def gv:Fj->Value->Bool
 | .inl k,v=>Value.isInt k v
 | .inr x,v=>Value.isStrOf x v
def qX (w:World):Fj->Int
 | .inl k=>hashInt k
 | .inr x=>hashStr w x
theorem B5:∀{k:Fj} {v:Value},gv k v=true->(∃i t,k=Sum.inl i/\v=Value.int i t)\/(∃x t,k=Sum.inr x/\v=Value.str x t)
 | .inl i,v,h=>by
   obtain ⟨t,e⟩:=Value.isInt_shape (k:=i) (v:=v) h
   exact .inl ⟨i,t,rfl,e⟩
 | .inr x,v,h=>by
   obtain ⟨t,e⟩:=Value.isStrOf_shape (x:=x) (v:=v) h
   exact .inr ⟨x,t,rfl,e⟩
theorem jN (a b:Int):decide ((Sum.inl a:Fj)=Sum.inl b)=(a==b):=by
 by_cases e:a=b
 ·subst e;simp
 ·have h:¬(Sum.inl a:Fj)=Sum.inl b:=λq=>e (Sum.inl.inj q)
  rw [decide_eq_false h]
  exact (beq_eq_false_iff_ne.mpr e).symm
theorem jQ (a b:Str):decide ((Sum.inr a:Fj)=Sum.inr b)=decide (a=b):=by
 by_cases e:a=b
 ·subst e;simp
 ·have h:¬(Sum.inr a:Fj)=Sum.inr b:=λq=>e (Sum.inr.inj q)
  rw [decide_eq_false h,decide_eq_false e]
theorem jO (a:Int) (b:Str):decide ((Sum.inl a:Fj)=Sum.inr b)=false:=decide_eq_false (λq=>nomatch q)
theorem jP (a:Str) (b:Int):decide ((Sum.inr a:Fj)=Sum.inl b)=false:=decide_eq_false (λq=>nomatch q)
def Rp (prog:Program) (w:World):PySem.KeyKind prog w Fj where
 is:=gv
 hash:=qX w
 inj:=λv a b ha hb=>by
  rcases B5 ha with ⟨i,t,rfl,rfl⟩|⟨x,t,rfl,rfl⟩
  ·rcases B5 hb with ⟨j,u,rfl,e⟩|⟨y,u,rfl,e⟩
   ·injection e with e1 _;rw [e1]
   ·exact nomatch e
  ·rcases B5 hb with ⟨j,u,rfl,e⟩|⟨y,u,rfl,e⟩
   ·exact nomatch e
   ·injection e with e1 _;rw [e1]
 byValue:=λk v h=>by
  rcases B5 h with ⟨i,t,rfl,rfl⟩|⟨x,t,rfl,rfl⟩ <;> rfl
 pyHash:=λhv h=>by
  rcases B5 hv with ⟨i,t,rfl,rfl⟩|⟨x,t,rfl,rfl⟩
  ·exact wpAny_pyHash_int h
  ·exact wpAny_pyHash_str h
 eqBool:=λhu hv h=>by
  rcases B5 hu with ⟨i,t,rfl,rfl⟩|⟨x,t,rfl,rfl⟩
  ·rcases B5 hv with ⟨j,u,rfl,rfl⟩|⟨y,u,rfl,rfl⟩
   ·rw [jN] at h;exact wpAny_eqBool_int h
   ·rw [jO] at h;exact SeqAt.EqAt.int_str i t y u _ _ _ _ h
  ·rcases B5 hv with ⟨j,u,rfl,rfl⟩|⟨y,u,rfl,rfl⟩
   ·rw [jP] at h;exact SeqAt.EqAt.str_int x t j u _ _ _ _ h
   ·rw [jQ] at h;exact wpAny_eqBool_str h
 «strs»:=λk x t v h=>by
  rcases B5 h with ⟨i,u,rfl,e⟩|⟨y,u,rfl,e⟩
  ·exact nomatch e
  ·injection e with e1 _
   subst e1
   cases v <;> rfl
end L2
namespace L2
open PySem PySem.Spec PyProof.Rows
inductive V where
 | non|bl (b:Bool)|int (i:Int)|str (x:Str)|byt (b:Array UInt8)|flt (b:UInt64)|ref (a:Addr)|ty (n:String)
 deriving DecidableEq
def RelV:V->Value->Prop
 | .non,u=>u=Value.none
 | .bl b,u=>u=Value.bool b
 | .int i,u=>∃t,u=Value.int i t
 | .str x,u=>∃t,u=Value.str x t
 | .byt b,u=>∃t,u=Value.bytes b t
 | .flt b,u=>∃t,u=Value.float b t
 | .ref a,u=>u=Value.ref a
 | .ty n,u=>u=Value.type n
abbrev Ax:List V->List Value->Prop:=Paired RelV
theorem Ax.length {xs:List V} {us:List Value} (r:Ax xs us):xs.length=us.length:=Paired.length r
theorem Ax.get:∀{xs:List V} {us:List Value} {i:Nat} {x:V},Ax xs us->xs[i]? =some x->∃u,us[i]? =some u/\RelV x u
 | _,_,_,_, .nil,e=>by simp at e
 | _,_,0,_, .cons r _,e=>by simp at e;subst e;exact ⟨_,rfl,r⟩
 | _,_,i+1,x, .cons _ t,e=>by
   obtain ⟨u,h1,h2⟩:=Ax.get (i:=i) (x:=x) t (by simpa using e)
   exact ⟨u,by simpa using h1,h2⟩
theorem Ax.set {x:V} {u:Value} (r:RelV x u):∀{xs:List V} {us:List Value} (i:Nat),Ax xs us->Ax (xs.set i x) (us.set i u)
 | _,_,_, .nil=> .nil
 | _,_,0, .cons _ t=> .cons r t
 | _,_,i+1, .cons q t=> .cons q (Ax.set r i t)
theorem Ax.append:∀{xs ys:List V} {us ws:List Value},Ax xs us->Ax ys ws->Ax (xs++ys) (us++ws)
 | _,_,_,_, .nil,s=>s
 | _,_,_,_, .cons r t,s=> .cons r (Ax.append t s)
theorem Ax.take:∀{xs:List V} {us:List Value} (n:Nat),Ax xs us->Ax (xs.take n) (us.take n)
 | _,_,0,_=> .nil
 | _,_,_+1, .nil=> .nil
 | _,_,n+1, .cons r t=> .cons r (Ax.take n t)
theorem Ax.drop:∀{xs:List V} {us:List Value} (n:Nat),Ax xs us->Ax (xs.drop n) (us.drop n)
 | _,_,0,r=>r
 | _,_,_+1, .nil=> .nil
 | _,_,n+1, .cons _ t=>Ax.drop n t
theorem Ax.none_of:∀{xs:List V} {us:List Value} {i:Nat},Ax xs us->xs[i]? =none->us[i]? =none:=λ{xs us i} r e=>by
 have h1:=r.length
 have h2:xs.length<=i:=List.getElem?_eq_none_iff.mp e
 exact List.getElem?_eq_none_iff.mpr (by omega)
def Jo:Option V->Option Value->Prop
 | some v,some u=>RelV v u
 | none,none=>True
 | _,_=>False
def KV {κ:Type}:List (κ×V)->List (κ×Value)->Prop:=Paired λ(p:κ×V) (q:κ×Value)=>p.1=q.1/\RelV p.2 q.2
def kV:Fj->V
 | .inl i=> .int i
 | .inr x=> .str x
inductive HO where
 | lst (xs:List V)
 | tup (xs:List V)
 | dK (kvs:List (Fj×V))|dT (kvs:List (List Fj×V))|dN (K:PySem.W.Frag) (kvs:List (PySem.FK×V))
 | set (S:Int->Bool) (n:Nat)
 | ins (C dx:Addr) (fs:List (Str×V))
 | own (x:Addr)
 | xd (fs:List (Str×V))
 | met (f x:Addr)
 | rng (lo hi:Int)
 | frz (o:Obj) (u:HO)
 | tbl (ps:Array Value)
 | ext (φ:Heap->Prop)
abbrev Hp:=Addr->Option HO
def upd (H:Hp) (a:Addr) (o:HO):Hp:=λb=>if b=a then some o else H b
theorem Aj {H:Hp} {a:Addr} {o:HO}:upd H a o a=some o:=by unfold upd;rw [if_pos rfl]
theorem Ah {H:Hp} {a b:Addr} {o:HO} (h:b≠a):upd H a o b=H b:=by unfold upd;rw [if_neg h]
theorem nA {H:Hp} {a b:Addr} {o u:HO} (h:H a=some o) (h':H b=some u) (d:o≠u):a≠b:=by
 intro e;subst e;rw [h] at h';exact d (Option.some.inj h')
theorem Av {H:Hp} {a b:Addr} {o:HO} (h:H a=some o) (h':H b=none):a≠b:=by
 intro e;subst e;rw [h] at h';cases h'
def Zg (K:PySem.W.Frag) (H:Hp) (b:Addr) (t d:Int):Prop:=H b=some (.tup [.int t, .int d])\/∃(o:Obj) (its:Array Value) (n:Nat),K.lookup b=some o/\o.cls= .type "tuple" /\o.data= .seq its n/\Ax [.int t, .int d] its.toList
def GC (K:PySem.W.Frag) (H:Hp) (a:Addr) (k:PySem.FK):Prop:=∃b,H a=some (.tup [.ref b, .int k.2])/\Zg K H b k.1.1 k.1.2
theorem GC.stay {K:PySem.W.Frag} {H H':Hp} {a:Addr} {k:PySem.FK} (x:GC K H a k) (ht:∀b xs,H b=some (.tup xs)->H' b=some (.tup xs)):GC K H' a k:=let ⟨b,h1,h2⟩:=x;⟨b,ht _ _ h1,h2.elim (λz=> .inl (ht _ _ z)) .inr⟩
section
variable (P:Program) (w:World)
def DN (H:Hp) (h:Heap) (a:Addr):HO->Prop
 | .lst xs=>xs.length<=sizeLine/\∃(its:List Value) (n:Nat),Ax xs its/\h.get? a=some {cls:= .type "list",data:= .seq its.toArray n}
 | .tup xs=>xs.length<=sizeLine/\∃its:List Value,Ax xs its/\IsTup h a its.toArray
 | .dK kvs=>kvs.length<=sizeLine/\(a==sysModules)=false/\∃vs,KV kvs vs/\h.DictOf (Rp P w) a vs
 | .dT kvs=>kvs.length<=sizeLine/\(a==sysModules)=false/\∃xs:List (List Fj×Addr×Value),
     Paired (λ(p:List Fj×V) (q:List Fj×Addr×Value)=>p.1=q.1/\H q.2.1=some (.tup (p.1.map kV))/\RelV p.2 q.2.2) kvs xs/\
     ∃o es ep,h.get? a=some o/\o.ExactDict/\o.data= .dict es ep/\es.toList=xs.map (entryOfKey (tupleKind (Rp P w)))/\(xs.map (·.1)).Nodup
 | .dN K kvs=>kvs.length<=sizeLine/\(a==sysModules)=false/\∃xs:List (PySem.FK×Addr×Value),Paired (λ(p:PySem.FK×V) (q:PySem.FK×Addr×Value)=>p.1=q.1/\GC K H q.2.1 p.1/\RelV p.2 q.2.2) kvs xs/\∃o es ep,h.get? a=some o/\o.ExactDict/\o.data= .dict es ep/\es.toList=xs.map (entryOfKey (PySem.fkKind P w))/\(xs.map (·.1)).Nodup
 | .set S n=>h.SetOf (intKind P w) a S n
 | .ins C dx fs=>H dx=some (.own a)/\fs.length<=1000/\dx≠a/\h.get? a=some (PySem.W.instObj C dx)/\
     ∃mA,h.Ns1 dx mA/\(∀f,Jo (fs.lookup f) (mA f))/\PySem.Within mA (fs.map (·.1))
 | .own _=>∃o,h.get? a=some o
 | .xd fs=>∃mA,h.Ns1 a mA/\∀f,Jo (fs.lookup f) (mA f)
 | .rng lo hi=>∃t u v,h.get? a=some {cls:= .type "range",data:= .fields #[.int lo t, .int hi u, .int 1 v] }
 | .frz o u=>h.get? a=some o/\DN H h a u
 | .tbl ps=>h.get? a=some {cls:= .none,data:= .fields ps}
 | .met f x=>h.get? a=some (PySem.W.methodObj (.ref f) (.ref x))
 | .ext φ=>φ h/\(∃o,h.get? a=some o)/\∀h1 h2:Heap,φ h1->(∀o,h1.get? a=some o->h2.get? a=some o)->φ h2
def Mi (H:Hp) (h:Heap):Prop:=∀a o,H a=some o->DN P w H h a o
end
section
variable {P:Program} {w:World} {H H':Hp} {h h':Heap} {a:Addr} {o:HO}
theorem DN.lt (x:DN P w H h a o):a<h.objs.size:=by
 cases o with
 | lst xs=>obtain ⟨_,_,_,_,e⟩:=x;exact Heap.lt_size e
 | tup xs=>obtain ⟨_,_,_,p⟩:=x;exact p.lt
 | dK kvs=>obtain ⟨_,_,_,_,o,_,_,e,_⟩:=x;exact Heap.lt_size e
 | dT kvs=>obtain ⟨_,_,_,_,o,_,_,e,_⟩:=x;exact Heap.lt_size e
 | dN K kvs=>obtain ⟨_,_,_,_,o,_,_,e,_⟩:=x;exact Heap.lt_size e
 | set S n=>obtain ⟨o,_,_,_,e,_⟩:=x;exact Heap.lt_size e
 | ins C dx fs=>obtain ⟨_,_,_,e,_⟩:=x;exact Heap.lt_size e
 | own y=>obtain ⟨_,e⟩:=x;exact Heap.lt_size e
 | xd fs=>obtain ⟨_,⟨_,_,_,e,_⟩,_⟩:=x;exact Heap.lt_size e
 | rng lo hi=>obtain ⟨_,_,_,e⟩:=x;exact Heap.lt_size e
 | frz ob u=>obtain ⟨e,_⟩:=x;exact Heap.lt_size e
 | tbl ps=>exact Heap.lt_size (show h.get? a=some _ from x)
 | met f y=>exact Heap.lt_size (show h.get? a=some _ from x)
 | ext φ=>obtain ⟨_,⟨_,e⟩,_⟩:=x;exact Heap.lt_size e
theorem Paired.mapP {α β:Type} {F G:α->β->Prop}:∀{l₁:List α} {l₂:List β},Paired F l₁ l₂->(∀a b,F a b->G a b)->Paired G l₁ l₂
 | _,_, .nil,_=> .nil
 | _,_, .cons r t,f=> .cons (f _ _ r) (Paired.mapP t f)
theorem DN.stay (x:DN P w H h a o) (k:∀b u,(b=a\/H b=some (.own a))->h.get? b=some u->h'.get? b=some u)
 (ho:∀b,H b=some (.own a)->H' b=some (.own a)) (ht:∀b xs,H b=some (.tup xs)->H' b=some (.tup xs)):DN P w H' h' a o:=by
 induction o with
 | lst xs=>obtain ⟨z,its,n,r,e⟩:=x;exact ⟨z,its,n,r,k _ _ (.inl rfl) e⟩
 | tup xs=>obtain ⟨z,its,r,ob,e,c⟩:=x;exact ⟨z,its,r,ob,k _ _ (.inl rfl) e,c⟩
 | dK kvs=>obtain ⟨z,y,vs,r,ob,es,ep,e,c⟩:=x;exact ⟨z,y,vs,r,ob,es,ep,k _ _ (.inl rfl) e,c⟩
 | dT kvs=>
   obtain ⟨z,y,xs,r,ob,es,ep,e,c⟩:=x
   exact ⟨z,y,xs,Paired.mapP r λp q z=>⟨z.1,ht _ _ z.2.1,z.2.2⟩,ob,es,ep,k _ _ (.inl rfl) e,c⟩
 | dN K kvs=>
   obtain ⟨z,y,xs,r,ob,es,ep,e,c⟩:=x
   exact ⟨z,y,xs,Paired.mapP r λp q z=>⟨z.1,z.2.1.stay ht,z.2.2⟩,ob,es,ep,k _ _ (.inl rfl) e,c⟩
 | set S n=>obtain ⟨ob,es,ep,t,e,c⟩:=x;exact ⟨ob,es,ep,t,k _ _ (.inl rfl) e,c⟩
 | ins C dx fs=>
   obtain ⟨d,z,ne,e,mA,⟨od,es,ep,e2,c⟩,r⟩:=x
   exact ⟨ho _ d,z,ne,k _ _ (.inl rfl) e,mA,⟨od,es,ep,k _ _ (.inr d) e2,c⟩,r⟩
 | own y=>obtain ⟨ob,e⟩:=x;exact ⟨ob,k _ _ (.inl rfl) e⟩
 | xd fs=>obtain ⟨mA,⟨od,es,ep,e,c⟩,r⟩:=x;exact ⟨mA,⟨od,es,ep,k _ _ (.inl rfl) e,c⟩,r⟩
 | rng lo hi=>obtain ⟨t,u,v,e⟩:=x;exact ⟨t,u,v,k _ _ (.inl rfl) e⟩
 | frz ob u ih=>obtain ⟨e,q⟩:=x;exact ⟨k _ _ (.inl rfl) e,ih q⟩
 | tbl ps=>
   have e:h.get? a=some {cls:= .none,data:= .fields ps}:=x
   show h'.get? a=some {cls:= .none,data:= .fields ps}
   exact k a _ (.inl rfl) e
 | met f y=>
   have e:h.get? a=some (PySem.W.methodObj (.ref f) (.ref y)):=x
   show h'.get? a=some (PySem.W.methodObj (.ref f) (.ref y))
   exact k a _ (.inl rfl) e
 | ext φ=>obtain ⟨p,⟨o,e⟩,st⟩:=x;exact ⟨st _ _ p λo q=>k _ _ (.inl rfl) q,⟨o,k _ _ (.inl rfl) e⟩,st⟩
theorem Mi.lt (x:Mi P w H h) (e:H a=some o):a<h.objs.size:=(x a o e).lt
theorem Mi.fresh (x:Mi P w H h) (e:h.objs.size<=a):H a=none:=by
 cases q:H a with
 | none=>rfl
 | some u=>exact absurd (Nat.lt_of_lt_of_le (x.lt q) e) (Nat.lt_irrefl _)
theorem Mi.kept (x:Mi P w H h) (k:∀b u,h.get? b=some u->h'.get? b=some u):Mi P w H h':=λa o e=>
 (x a o e).stay (λb u _ q=>k b u q) (λ_ q=>q) λ_ _ q=>q
theorem Mi.laid (x:Mi P w H h) (k:∀b u,h.get? b=some u->h'.get? b=some u) (hp:h.objs.size<=a) (new:DN P w (upd H a o) h' a o):Mi P w (upd H a o) h':=λb u e=>by
 have hn:=x.fresh hp
 by_cases hb:b=a
 ·subst hb;rw [Aj] at e;cases e;exact new
 ·rw [Ah hb] at e
  exact (x b u e).stay (λc v _ q=>k c v q) (λc q=>by rw [Ah (Av q hn)];exact q) λc xs q=>by rw [Ah (Av q hn)];exact q
end
def Rd (H:Hp) (a:Addr) (u:HO):Prop:=H a=some u\/∃o,H a=some (.frz o u)
theorem Rd.of {H:Hp} {a:Addr} {u:HO} (h:H a=some u):Rd H a u:= .inl h
theorem Rd.ok {P:Program} {w:World} {H:Hp} {h:Heap} {a:Addr} {u:HO} (r:Rd H a u) (x:Mi P w H h):DN P w H h a u:=by
 rcases r with r|⟨o,r⟩
 ·exact x a u r
 ·obtain ⟨_,q⟩:=x a _ r
  exact q
def lh:Option HO->Prop
 | some (.lst _)=>True
 | some (.dK _)=>True
 | some (.dT _)=>True
 | some (.dN _ _)=>True
 | some (.set _ _)=>True
 | some (.ins _ _ _)=>True
 | some (.ext _)=>True
 | _=>False
section
variable {P:Program} {w:World} {H:Hp} {h h':Heap} {x e:Addr} {o':HO}
theorem Mi.write (ok:Mi P w H h) (mu:lh (H x)) (he:e=x\/H e=some (.own x)) (k:∀b u,b≠e->h.get? b=some u->h'.get? b=some u) (lB:∃u,h'.get? e=some u)
 (new:DN P w (upd H x o') h' x o'):Mi P w (upd H x o') h':=λb u q=>by
 have nown:∀c y,H c=some (.own y)->c≠x:=λc y r z=>by subst z;rw [r] at mu;exact mu
 have ntup:∀c xs,H c=some (.tup xs)->c≠x:=λc xs r z=>by subst z;rw [r] at mu;exact mu
 by_cases hb:b=x
 ·subst hb;rw [Aj] at q;cases q;exact new
 ·rw [Ah hb] at q
  by_cases O9:b=e
  ·have q':H b=some (.own x):=by
    rcases he with z|z
    ·exact absurd (O9.trans z) hb
    ·rw [O9];exact z
   rw [q] at q';cases q'
   obtain ⟨v,hv⟩:=lB
   exact ⟨v,by rw [O9];exact hv⟩
  ·refine (ok b u q).stay (λc v hc r=>k c v ?_ r) (λc r=>by rw [Ah (nown c b r)];exact r) λc xs r=>by rw [Ah (ntup c xs r)];exact r
   rcases hc with rfl|hc
   ·exact O9
   ·rintro rfl
    rcases he with z|z
    ·exact nown c b hc z
    ·rw [hc] at z;cases z;exact hb rfl
end
structure Un (fs ex:List Addr) (H H':Hp) (h h':Heap):Prop where
 keep:∀b o,h.get? b=some o->H b=none->b ∉ fs->b ∉ ex->h'.get? b=some o
 slot:∀b o,h.get? b=some o->H b=none->b∈fs->b ∉ ex->∃sl,h'.get? b=some {o with slots:=sl}
 free:∀b o,h.get? b=some o->H b=none->b ∉ ex->H' b=none
 there:∀b o,h.get? b=some o->b ∉ ex->∃o',h'.get? b=some o'
 tups:∀b xs,H b=some (.tup xs)->H' b=some (.tup xs)
 frzs:∀b o u,H b=some (.frz o u)->H' b=some (.frz o u)
 tbls:∀b ps,H b=some (.tbl ps)->∃more,H' b=some (.tbl (ps++more))
section
variable {fs fs' ex ex':List Addr} {H H1 H2:Hp} {h h1 h2 h':Heap} {a x e:Addr} {o:HO}
theorem Un.any (u:Un fs ex H H1 h h1) {b:Addr} {ob:Obj} (q:h.get? b=some ob) (n:H b=none) (hx:b ∉ ex):∃sl,h1.get? b=some {ob with slots:=sl}:=by
 by_cases hb:b∈fs
 ·exact u.slot b ob q n hb hx
 ·exact ⟨ob.slots,u.keep b ob q n hb hx⟩
theorem Un.trans (a:Un fs ex H H1 h h1) (b:Un fs ex H1 H2 h1 h2):Un fs ex H H2 h h2 where
 keep:=λc ob q n hc hx=>b.keep c ob (a.keep c ob q n hc hx) (a.free c ob q n hx) hc hx
 slot:=λc ob q n hc hx=>by
  obtain ⟨sl,e1⟩:=a.slot c ob q n hc hx
  obtain ⟨sl',e2⟩:=b.slot c _ e1 (a.free c ob q n hx) hc hx
  exact ⟨sl',e2⟩
 free:=λc ob q n hx=>by
  obtain ⟨o',e1⟩:=a.there c ob q hx
  exact b.free c o' e1 (a.free c ob q n hx) hx
 there:=λc ob q hx=>by
  obtain ⟨o',e1⟩:=a.there c ob q hx
  exact b.there c o' e1 hx
 tups:=λc xs q=>b.tups c xs (a.tups c xs q)
 frzs:=λc ob xs q=>b.frzs c ob xs (a.frzs c ob xs q)
 tbls:=λc ps q=>by
  obtain ⟨m1,e1⟩:=a.tbls c ps q
  obtain ⟨m2,e2⟩:=b.tbls c _ e1
  exact ⟨m1++m2,by rw [e2,Array.append_assoc]⟩
theorem Un.kept (k:∀b u,h.get? b=some u->h'.get? b=some u):Un fs ex H H h h':=
 ⟨λb ob q _ _ _=>k b ob q,λb ob q _ _ _=>⟨ob.slots,k b ob q⟩,λ_ _ _ n _=>n,λb ob q _=>⟨ob,k b ob q⟩,λ_ _ q=>q,λ_ _ _ q=>q,λ_ ps q=>⟨#[],by rw [q];simp⟩⟩
theorem Un.refl:Un fs ex H H h h:=Un.kept λ_ _ q=>q
theorem Un.laid (k:∀b u,h.get? b=some u->h'.get? b=some u) (hp:h.objs.size<=a) (hn:H a=none):Un fs ex H (upd H a o) h h' where
 keep:=λb u q _ _ _=>k b u q
 slot:=λb u q _ _ _=>⟨u.slots,k b u q⟩
 free:=λb u q n _=>by rw [Ah (Nat.ne_of_lt (Nat.lt_of_lt_of_le (Heap.lt_size q) hp))];exact n
 there:=λb u q _=>⟨u,k b u q⟩
 tups:=λb xs q=>by rw [Ah (Av q hn)];exact q
 frzs:=λb u xs q=>by rw [Ah (Av q hn)];exact q
 tbls:=λb ps q=>⟨#[],by rw [Ah (Av q hn),q];simp⟩
theorem Un.write (mu:lh (H x)) (he:e=x\/H e=some (.own x)) (k:∀b u,b≠e->h.get? b=some u->h'.get? b=some u) (lB:∃u,h'.get? e=some u):Un fs ex H (upd H x o) h h':=by
 have hx:∀b,H b=none->b≠x:=λb n z=>by subst z;rw [n] at mu;exact mu
 have hb:∀b,H b=none->b≠e:=λb n z=>by
  subst z
  rcases he with r|r
  ·exact hx b n r
  ·rw [n] at r;cases r
 have hm:∀b u,H b=some u->¬lh (some u)->b≠x:=λb u q nm z=>by subst z;rw [q] at mu;exact nm mu
 refine ⟨λb u q n _ _=>k b u (hb b n) q,λb u q n _ _=>⟨u.slots,k b u (hb b n) q⟩,λb u q n _=>by rw [Ah (hx b n)];exact n,λb u q _=> ?_,
  λb xs q=>by rw [Ah (hm b _ q λz=>z)];exact q,λb u xs q=>by rw [Ah (hm b _ q λz=>z)];exact q,λb ps q=>⟨#[],by rw [Ah (hm b _ q λz=>z),q];simp⟩⟩
 by_cases O9:b=e
 ·subst O9;exact lB
 ·exact ⟨u,k b u O9 q⟩
theorem Un.mono (u:Un fs ex H H1 h h1) (hs:∀b∈fs,b∈fs') (hx:∀b∈ex,b∈ex'):Un fs' ex' H H1 h h1:=
 ⟨λb ob q n hb he=>u.keep b ob q n (λz=>hb (hs b z)) λz=>he (hx b z),λ_ _ q n _ he=>u.any q n λz=>he (hx _ z),λb ob q n he=>u.free b ob q n λz=>he (hx b z),λb ob q he=>u.there b ob q λz=>he (hx b z),u.tups,u.frzs,u.tbls⟩
end
def oz (h:Heap) (H:Hp):List Addr:=(List.range h.objs.size).filter λa=>(H a).isSome
def Ra (h:Heap) (H:Hp):Heap:=PySem.W.hideAll h (oz h H)
theorem YK (h:Heap) (H:Hp):(Ra h H).objs.size=h.objs.size:=PySem.W.hideAll_size _ _
theorem aI {h:Heap} {H:Hp} {b:Addr} {o:Obj} (e:h.get? b=some o) (n:H b=none):(Ra h H).get? b=some o:=
 PySem.W.hideAll_get _ e λhm=>by
  have q:(H b).isSome=true:=(List.mem_filter.mp hm).2
  rw [n] at q;simp at q
theorem eU {h:Heap} {H:Hp} {b:Addr} {o:Obj} (e:(Ra h H).get? b=some o):h.get? b=some o/\H b=none:=by
 have e':h.get? b=some o:=PySem.W.of_hideAll (oz h H) e
 refine ⟨e', ?_⟩
 cases q:H b with
 | none=>rfl
 | some x=>
   have hm:b∈oz h H:=List.mem_filter.mpr ⟨List.mem_range.mpr (Heap.lt_size e'),by simp [q]⟩
   have z:(Ra h H).get? b=none:=PySem.W.hideAll_none (oz h H) hm
   rw [z] at e;cases e
def dM (g h:Heap) (L:Addr):List (Addr×Obj):=(List.range h.objs.size).filterMap λa=>if a=L\/(g.get? a).isSome=true then none else (h.get? a).map λo=>(a,o)
def rest (g h:Heap) (L d:Addr):List (Addr×Obj):=(dM g h L).filter λp=>decide (p.1≠d)
end L2
namespace L2
open PySem PySem.Spec PyProof.Rows
structure Mod (K:PySem.W.Frag) (mg:Str->Option Value) (base:Heap):Prop where
 kin:K.In base
 glob:base.Ns mainGlobals mg
 blt:∃mb,base.Ns builtinsNs mb/\∀x:Str,x≠"__name__" ->mb x=bootBuiltins x
 nolimit:base.NoLimit
structure Cx where
 prog:Program
 w:World
 K:PySem.W.Frag
 mg:Str->Option Value
 base:Heap
 A:Around
 N:List Str
 s₀:Shared
 H₀:Hp
 env:Env
 outer:List Env
 stack:List Env
 ex:List Addr
 fn:Str->Bool
 calm:Bool
 pn:List (Addr×Obj)
 xe:Value->Shared->Prop
def Y9 (l:List Env):List Addr:=l.filterMap (·.frame)
abbrev Cx.fs (X:Cx):List Addr:=Y9 X.outer
def iV (sc:Scope) (x:Str):Prop:=sc.names.lookup x=some .local\/sc.names.lookup x=some .cell\/sc.names.lookup x=some .free
def Loc (sc:Scope) (x:Str):Prop:=sc.names.lookup x=some .local\/sc.names.lookup x=some .cell
def Look (env:Env) (h:Heap) (m:Str->Option Value) (x:Str) (u:Value):Prop:=
 (env.kindOf x=some .local/\m x=some u)\/((env.kindOf x=some .cell\/env.kindOf x=some .free)/\∃c,env.cells.lookup x=some c/\h.IsCell c (some u))
structure Cx.Ok (X:Cx):Prop where
 mod:Mod X.K X.mg X.base
 kind:X.env.scope.kind= .function
 glob:X.env.globals=mainGlobals
 blt:X.env.builtins=builtinsNs
 above:X.s₀.heap.objs.size<=X.env.locals
 inj:∀x y c,X.env.cells.lookup x=some c->X.env.cells.lookup y=some c->x=y
 has:∀x,(X.env.kindOf x=some .cell\/X.env.kindOf x=some .free)->∃c,X.env.cells.lookup x=some c
 cab:∀x c,X.fn x=true->X.env.cells.lookup x=some c->X.s₀.heap.objs.size<=c
 hd:X.calm=true->X.A.handled=none
 frames:X.A.frames=some X.stack
 stk:X.stack=X.outer\/(X.stack=X.env::X.outer/\X.env.frame=some X.env.locals)
 exf:∀b∈X.ex,b≠X.env.locals/\∀x c,X.env.cells.lookup x=some c->c≠b
 bs:∀b o,X.base.get? b=some o->X.s₀.heap.get? b=some o/\X.H₀ b=none
 bsz:X.base.objs.size<=X.s₀.heap.objs.size
 noex:∀b o,X.base.get? b=some o->b ∉ X.ex
 exfs:∀b∈X.ex,b ∉ X.fs
 funs:X.s₀.heap.FunFrames X.base X.outer
 frf:∀b∈X.fs,X.H₀ b=none
structure Inv (X:Cx) (pins:List (Addr×Obj)) (σ:List (Option V)) (H:Hp) (s:Shared):Prop where
 ok:X.Ok
 os:s.os=X.s₀.os
 bare:AllBare s.gens
 base:Un X.fs X.ex X.H₀ H X.s₀.heap s.heap
 loc:∃m,s.heap.Ns X.env.locals m/\∀(i:Nat) (x:Str) (v:V),X.N[i]? =some x->σ[i]? =some (some v)->iV X.env.scope x->∃u,RelV v u/\Look X.env s.heap m x u
 cell:∀x c,X.env.cells.lookup x=some c->∃v,s.heap.IsCell c v
 free:H X.env.locals=none
 freeC:∀x c,X.env.cells.lookup x=some c->H c=none
 pin:∀p∈X.pn++pins,s.heap.get? p.1=some p.2/\H p.1=none/\p.1≠X.env.locals/\p.1 ∉ X.fs/\∀v,p.2.data≠ .cell v
 hok:Mi X.prog X.w H s.heap
 len:σ.length=X.N.length
section
variable {X:Cx} {pins:List (Addr×Obj)} {σ:List (Option V)} {H H':Hp} {s:Shared} {h':Heap}
theorem Cx.Ok.nofr (ok:X.Ok) {b:Addr} {o:Obj} (e:X.base.get? b=some o):b ∉ X.fs:=λhb=>by
 have:=(ok.funs.mem hb).1
 rw [e] at this;cases this
theorem Inv.bs (I:Inv X pins σ H s):∀b o,X.base.get? b=some o->s.heap.get? b=some o/\H b=none:=λb o e=>
 ⟨I.base.keep b o (I.ok.bs b o e).1 (I.ok.bs b o e).2 (I.ok.nofr e) (I.ok.noex b o e),I.base.free b o (I.ok.bs b o e).1 (I.ok.bs b o e).2 (I.ok.noex b o e)⟩
theorem Inv.bk (I:Inv X pins σ H s):∀b o,X.base.get? b=some o->s.heap.get? b=some o:=λb o e=>(I.bs b o e).1
theorem Inv.mod (I:Inv X pins σ H s):Mod X.K X.mg X.base:=I.ok.mod
theorem Inv.kIn (I:Inv X pins σ H s):X.K.In s.heap:=I.ok.mod.kin.keeps I.bk
theorem Inv.nolimit (I:Inv X pins σ H s):s.heap.NoLimit:=I.ok.mod.nolimit.keeps I.bk
theorem Inv.fr (I:Inv X pins σ H s):∃m,Fr X.base X.env.locals s.heap m:=
 let ⟨m,hn,_⟩:=I.loc
 ⟨m,hn,I.bk,Nat.le_trans I.ok.bsz I.ok.above⟩
theorem Inv.lt (I:Inv X pins σ H s):X.env.locals<s.heap.objs.size:=let ⟨_,hn,_⟩:=I.loc;hn.lt
theorem Inv.sz (I:Inv X pins σ H s):X.s₀.heap.objs.size<=s.heap.objs.size:=Nat.le_trans I.ok.above (Nat.le_of_lt I.lt)
theorem Inv.nofs (I:Inv X pins σ H s) {a:Addr} (h:s.heap.objs.size<=a):a ∉ X.fs:=λhb=>by
 obtain ⟨_,o,ho,_⟩:=I.ok.funs.mem hb
 exact absurd (Nat.lt_of_lt_of_le (Heap.lt_size ho) (Nat.le_trans I.sz h)) (Nat.lt_irrefl _)
theorem Inv.cne (I:Inv X pins σ H s):∀x c,X.env.cells.lookup x=some c->c≠X.env.locals:=λx c e z=>by
 obtain ⟨v,o,ho,hd⟩:=I.cell x c e
 obtain ⟨m,⟨o',es,ep,ZA,gc,_⟩,_⟩:=I.loc
 rw [z,ZA] at ho;cases ho;rw [gc] at hd;cases hd
theorem Inv.funs (I:Inv X pins σ H s):s.heap.FunFrames X.base X.outer:=by
 have all:∀(l:List Env),(∀b∈Y9 l,b∈X.fs)->X.s₀.heap.FunFrames X.base l->s.heap.FunFrames X.base l:=by
  intro l
  induction l with
  | nil=>intro _ _;trivial
  | cons env r ih=>
    intro hs hl
    obtain ⟨hk,⟨L,o,hf,hn,ho,hd⟩,hr⟩:=hl
    have hL:L∈X.fs:=hs L (by unfold Y9;rw [List.filterMap_cons,hf];exact List.mem_cons_self)
    obtain ⟨sl,e⟩:=I.base.slot L o ho (I.ok.frf L hL) hL λz=>I.ok.exfs L z hL
    exact ⟨hk,⟨L,_,hf,hn,e,hd⟩,ih (λb hb=>hs b (by unfold Y9;rw [List.filterMap_cons,hf];exact List.mem_cons_of_mem _ hb)) hr⟩
 exact all X.outer (λ_ hb=>hb) I.ok.funs
theorem Inv.stack (I:Inv X pins σ H s):s.heap.FunFrames X.base X.stack:=by
 rcases I.ok.stk with e|⟨e,hf⟩
 ·rw [e];exact I.funs
 ·rw [e]
  obtain ⟨m,hn,_⟩:=I.loc
  refine .cons (by rw [I.ok.kind];decide) hf hn ?_ I.funs
  exact Heap.get?_none_of_le (Nat.le_trans I.ok.bsz I.ok.above)
theorem Inv.stkSub (I:Inv X pins σ H s):∀b∈Y9 X.stack,b∈X.env.locals::X.fs:=λb hb=>by
 rcases I.ok.stk with e|⟨e,hf⟩
 ·rw [e] at hb;exact List.mem_cons_of_mem _ hb
 ·rw [e] at hb
  unfold Y9 at hb
  rw [List.filterMap_cons,hf] at hb
  exact hb
theorem Inv.stkFree (I:Inv X pins σ H s):∀b∈Y9 X.stack,H b=none:=λb hb=>by
 rcases List.mem_cons.mp (I.stkSub b hb) with e|hb
 ·rw [e];exact I.free
 ·obtain ⟨_,o,ho,_⟩:=I.ok.funs.mem hb
  exact I.base.free b o ho (I.ok.frf b hb) λz=>I.ok.exfs b z hb
theorem Inv.step {g':Array GenState} {t':Nat} {d':Drawn} {ch:List Addr} (I:Inv X pins σ H s)
 (M9:∀b∈ch,(b∈X.ex\/X.s₀.heap.objs.size<=b)/\b≠X.env.locals/\(∀x c,X.env.cells.lookup x=some c->c≠b)/\∀p∈X.pn++pins,p.1≠b)
 (keep:∀b o,b≠X.env.locals->b ∉ X.fs->b ∉ ch->s.heap.get? b=some o->H b=none->h'.get? b=some o)
 (slot:∀b o,b≠X.env.locals->b∈X.fs->b ∉ ch->s.heap.get? b=some o->H b=none->∃sl,h'.get? b=some {o with slots:=sl}) (free:∀b o,b ∉ ch->s.heap.get? b=some o->H b=none->H' b=none)
 (there:∀b o,b ∉ ch->s.heap.get? b=some o->∃o',h'.get? b=some o')
 (tups:∀b xs,H b=some (.tup xs)->H' b=some (.tup xs)) (frzs:∀b o u,H b=some (.frz o u)->H' b=some (.frz o u)) (tbls:∀b ps,H b=some (.tbl ps)->∃more,H' b=some (.tbl (ps++more)))
 (ns:∀m,s.heap.Ns X.env.locals m->h'.Ns X.env.locals m) (hok:Mi X.prog X.w H' h') (hg:AllBare g'):
 Inv X pins σ H' {s with heap:=h',gens:=g',drawn:=d',toks:=t'}:=by
 have neL:∀b o,X.s₀.heap.get? b=some o->b≠X.env.locals:=λb o e=>Nat.ne_of_lt (Nat.lt_of_lt_of_le (Heap.lt_size e) I.ok.above)
 have neC:∀b o,X.s₀.heap.get? b=some o->b ∉ X.ex->b ∉ ch:=λb o e hx hb=>by
  rcases (M9 b hb).1 with z|z
  ·exact hx z
  ·exact absurd (Nat.lt_of_lt_of_le (Heap.lt_size e) z) (Nat.lt_irrefl _)
 have cellK:∀x c,X.env.cells.lookup x=some c->∀v,s.heap.IsCell c v->h'.IsCell c v:=λx c e v ⟨o,ho,hd⟩=>by
  have nch:c ∉ ch:=λz=>(M9 c z).2.2.1 x c e rfl
  by_cases hc:c∈X.fs
  ·obtain ⟨sl,q⟩:=slot c o (I.cne x c e) hc nch ho (I.freeC x c e)
   exact ⟨_,q,hd⟩
  ·exact ⟨o,keep c o (I.cne x c e) hc nch ho (I.freeC x c e),hd⟩
 refine ⟨I.ok,I.os,hg,⟨λb o e n hb hx=> ?_,λb o e n hb hx=> ?_,λb o e n hx=> ?_,λb o e hx=> ?_,λb xs e=>tups b xs (I.base.tups b xs e),λb o xs e=>frzs b o xs (I.base.frzs b o xs e),λb ps e=> ?_⟩, ?_,λx c e=> ?_, ?_,λx c e=> ?_,λp hp=> ?_,hok,I.len⟩
 ·exact keep b o (neL b o e) hb (neC b o e hx) (I.base.keep b o e n hb hx) (I.base.free b o e n hx)
 ·obtain ⟨sl,e1⟩:=I.base.slot b o e n hb hx
  obtain ⟨sl',e2⟩:=slot b _ (neL b o e) hb (neC b o e hx) e1 (I.base.free b o e n hx)
  exact ⟨sl',e2⟩
 ·obtain ⟨o',e1⟩:=I.base.there b o e hx
  exact free b o' (neC b o e hx) e1 (I.base.free b o e n hx)
 ·obtain ⟨o',e1⟩:=I.base.there b o e hx
  exact there b o' (neC b o e hx) e1
 ·obtain ⟨m1,e1⟩:=I.base.tbls b ps e
  obtain ⟨m2,e2⟩:=tbls b _ e1
  exact ⟨m1++m2,by rw [e2,Array.append_assoc]⟩
 ·obtain ⟨m,hn,hl⟩:=I.loc
  refine ⟨m,ns m hn,λi x v e1 e2 e3=> ?_⟩
  obtain ⟨u,r,l⟩:=hl i x v e1 e2 e3
  refine ⟨u,r, ?_⟩
  rcases l with l|⟨k,c,e,z⟩
  ·exact .inl l
  ·exact .inr ⟨k,c,e,cellK x c e _ z⟩
 ·obtain ⟨v,z⟩:=I.cell x c e
  exact ⟨v,cellK x c e v z⟩
 ·obtain ⟨m,⟨o,_,_,ho,_⟩,_⟩:=I.loc
  exact free _ o (λz=>(M9 _ z).2.1 rfl) ho I.free
 ·obtain ⟨v,o,ho,hd⟩:=I.cell x c e
  exact free c o (λz=>(M9 c z).2.2.1 x c e rfl) ho (I.freeC x c e)
 ·obtain ⟨e,n,ne,nf,d⟩:=I.pin p hp
  have nch:p.1 ∉ ch:=λz=>(M9 p.1 z).2.2.2 p hp rfl
  exact ⟨keep p.1 p.2 ne nf nch e n,free p.1 p.2 nch e n,ne,nf,d⟩
theorem Inv.un {t':Nat} (I:Inv X pins σ H s) (u:Un X.fs [] H H' s.heap h') (hok:Mi X.prog X.w H' h'):Inv X pins σ H' {s with heap:=h',toks:=t'}:=by
 obtain ⟨m,⟨o,es,ep,ho,r⟩,_⟩:=id I.loc
 obtain ⟨sl,hL⟩:=u.any ho I.free (by simp)
 exact I.step (g':=s.gens) (d':=s.drawn) (ch:= []) (λ_ z=>nomatch z) (λb o _ hb _ e n=>u.keep b o e n hb (by simp)) (λb o _ hb _ e n=>u.slot b o e n hb (by simp)) (λb o _ e n=>u.free b o e n (by simp)) (λb o _ e=>u.there b o e (by simp)) u.tups u.frzs u.tbls (λm' hm=>by
  obtain ⟨o',es',ep',ZA,r'⟩:=hm
  rw [ho] at ZA;cases ZA
  exact ⟨_,es',ep',hL,r'⟩) hok I.bare
theorem Inv.call {g':Array GenState} {t':Nat} {d':Drawn} {ch:List Addr} (I:Inv X pins σ H s) (u:Un (Y9 X.stack) ch H H' s.heap h') (hok:Mi X.prog X.w H' h') (hg:AllBare g')
 (M9:∀b∈ch,(b∈X.ex\/X.s₀.heap.objs.size<=b)/\b≠X.env.locals/\(∀x c,X.env.cells.lookup x=some c->c≠b)/\∀p∈X.pn++pins,p.1≠b):
 Inv X pins σ H' {s with heap:=h',gens:=g',drawn:=d',toks:=t'}:=by
 obtain ⟨m,⟨o,es,ep,ho,r⟩,_⟩:=id I.loc
 obtain ⟨sl,hL⟩:=u.any ho I.free λz=>(M9 _ z).2.1 rfl
 exact I.step (ch:=ch) M9 (λb o hL hb hc e n=>u.keep b o e n (λz=>(List.mem_cons.mp (I.stkSub b z)).elim hL hb) hc) (λb o _ _ hc e n=>u.any e n hc) (λb o hc e n=>u.free b o e n hc) (λb o hc e=>u.there b o e hc) u.tups u.frzs u.tbls (λm' hm=>by
  obtain ⟨o',es',ep',ZA,r'⟩:=hm
  rw [ho] at ZA;cases ZA
  exact ⟨_,es',ep',hL,r'⟩) hok hg
theorem Inv.turned {t':Nat} {it:Addr} (I:Inv X pins σ H s) (k:∀b o,b≠it->s.heap.get? b=some o->h'.get? b=some o) (hn:H it=none) (hL:it≠X.env.locals)
 (h1:it∈X.ex\/X.s₀.heap.objs.size<=it) (h2:∀x c,X.env.cells.lookup x=some c->c≠it) (h3:∀p∈X.pn++pins,p.1≠it):Inv X pins σ H {s with heap:=h',toks:=t'}:=by
 have nit:∀b u,H b=some u->b≠it:=λb u e z=>by rw [z,hn] at e;cases e
 refine I.step (g':=s.gens) (d':=s.drawn) (ch:= [it]) (λb hb=> ?_) (λb o _ _ hc e _=>k b o (λz=>hc (by simp [z])) e) (λb o _ _ hc e _=>⟨o.slots,k b o (λz=>hc (by simp [z])) e⟩) (λ_ _ _ _ n=>n)
  (λb o hc e=>⟨o,k b o (λz=>hc (by simp [z])) e⟩) (λ_ _ e=>e) (λ_ _ _ e=>e) (λb ps e=>⟨#[],by rw [e];simp⟩) (λm hm=> ?_) (λb u e=> ?_) I.bare
 ·have e:b=it:=by simpa using hb
  subst e
  exact ⟨h1,hL,h2,h3⟩
 ·obtain ⟨o,es,ep,ho,r⟩:=hm
  exact ⟨o,es,ep,k _ o (Ne.symm hL) ho,r⟩
 ·refine (I.hok b u e).stay (λc v hc q=>k c v ?_ q) (λ_ q=>q) λ_ _ q=>q
  rcases hc with z|z
  ·rw [z];exact nit b u e
  ·exact nit c _ z
theorem Inv.tok (I:Inv X pins σ H s) (t:Nat):Inv X pins σ H {s with toks:=t}:=I.un (h':=s.heap) (t':=t) Un.refl I.hok
theorem Inv.kept {t':Nat} (I:Inv X pins σ H s) (k:∀b u,s.heap.get? b=some u->h'.get? b=some u):Inv X pins σ H {s with heap:=h',toks:=t'}:=I.un (Un.kept k) (I.hok.kept k)
theorem Inv.laid {a:Addr} {o:HO} {t':Nat} (I:Inv X pins σ H s) (k:∀b u,s.heap.get? b=some u->h'.get? b=some u) (hp:s.heap.objs.size<=a) (new:DN X.prog X.w (upd H a o) h' a o):
 Inv X pins σ (upd H a o) {s with heap:=h',toks:=t'}:=I.un (Un.laid k hp (I.hok.fresh hp)) (I.hok.laid k hp new)
theorem Inv.write {x e:Addr} {o:HO} {t':Nat} (I:Inv X pins σ H s) (mu:lh (H x)) (he:e=x\/H e=some (.own x)) (k:∀b u,b≠e->s.heap.get? b=some u->h'.get? b=some u) (lB:∃u,h'.get? e=some u)
 (new:DN X.prog X.w (upd H x o) h' x o):Inv X pins σ (upd H x o) {s with heap:=h',toks:=t'}:=I.un (Un.write mu he k lB) (I.hok.write mu he k lB new)
theorem Inv.weak {σ':List (Option V)} (I:Inv X pins σ H s) (hl:σ'.length=σ.length) (w:∀(i:Nat) v,σ'[i]? =some (some v)->σ[i]? =some (some v)):Inv X pins σ' H s:=
 ⟨I.ok,I.os,I.bare,I.base,let ⟨m,hn,wL⟩:=I.loc;⟨m,hn,λi x v e1 e2 e3=>wL i x v e1 (w i v e2) e3⟩,I.cell,I.free,I.freeC,I.pin,I.hok,hl.trans I.len⟩
theorem Inv.pins_of {pins':List (Addr×Obj)} (I:Inv X pins σ H s) (h:∀p∈pins',s.heap.get? p.1=some p.2/\H p.1=none/\p.1≠X.env.locals/\p.1 ∉ X.fs/\∀v,p.2.data≠ .cell v):Inv X pins' σ H s:=
 ⟨I.ok,I.os,I.bare,I.base,I.loc,I.cell,I.free,I.freeC,λp hp=>(List.mem_append.mp hp).elim (λz=>I.pin p (List.mem_append_left _ z)) (h p),I.hok,I.len⟩
theorem UR {N:List Str} (hN:N.Nodup) {i j:Nat} {x:Str} (a:N[i]? =some x) (b:N[j]? =some x):i=j:=by
 obtain ⟨h1,e1⟩:=List.getElem?_eq_some_iff.mp a
 obtain ⟨h2,e2⟩:=List.getElem?_eq_some_iff.mp b
 exact (List.getElem_inj hN).mp (e1.trans e2.symm)
theorem Qv {M:Model} {A:Around} {E:Value->Shared->Prop} {i:Nat} {x:Str} {v:V} {u:Value} {Q:Unit->Shared->Prop} (I:Inv X pins σ H s) (hN:X.N.Nodup) (hi:X.N[i]? =some x) (hx:Loc X.env.scope x) (r:RelV v u)
 (h:∀s',Inv X pins (σ.set i (some v)) H s'->(∃a,Heap.SameBut a s.heap s'.heap/\(a=X.env.locals\/X.env.cells.lookup x=some a))->Q () s') (hf:X.fn x=true\/X.env.scope.names.lookup x=some .local:=by first | exact .inl rfl|exact .inr rfl|assumption):wpAny M A (storeName X.env x u) Q E s:=by
 obtain ⟨m,hn,hl⟩:=id I.loc
 have qA:(X.env.scope.kind == .class||(X.env.scope.kind == .module&&X.env.locals != X.env.globals))=false:=by rw [I.ok.kind];rfl
 have hiσ:i<σ.length:=by rw [I.len];exact (List.getElem?_eq_some_iff.mp hi).1
 have cne:=I.cne
 have tracked:∀{a:Addr} {h':Heap},(∃o,s.heap.get? a=some o/\H a=none)->Heap.SameBut a s.heap h'->Mi X.prog X.w H h':=λ{a h'} ha hs b ob e=>by
  obtain ⟨_,_,gf⟩:=ha
  refine (I.hok b ob e).stay (λc w' hc q=>(hs.2 c ?_).trans q) (λ_ q=>q) λ_ _ q=>q
  rintro rfl
  rcases hc with rfl|hc
  ·rw [gf] at e;cases e
  ·rw [gf] at hc;cases hc
 rcases hx with hk|hk
 ·refine wpAny_storeName_local hk hn (λh' wQ hs=> ?_) qA
  obtain ⟨oL,_,_,wT,_⟩:=id hn
  refine h _ ⟨I.ok,I.os,I.bare,⟨λb o e n hb hx=> ?_,λb o e n hb hx=> ?_,I.base.free,λb o e hx=> ?_,I.base.tups,I.base.frzs,I.base.tbls⟩,⟨_,wQ,λj y v' e1 e2 e3=> ?_⟩,λy c e=> ?_,I.free,I.freeC,λp hp=> ?_,tracked ⟨oL,wT,I.free⟩ hs,by simpa using I.len⟩ ⟨_,hs, .inl rfl⟩
  ·exact (hs.2 b (Nat.ne_of_lt (Nat.lt_of_lt_of_le (Heap.lt_size e) I.ok.above))).trans (I.base.keep b o e n hb hx)
  ·obtain ⟨sl,e1⟩:=I.base.slot b o e n hb hx
   exact ⟨sl,(hs.2 b (Nat.ne_of_lt (Nat.lt_of_lt_of_le (Heap.lt_size e) I.ok.above))).trans e1⟩
  ·obtain ⟨o',e1⟩:=I.base.there b o e hx
   exact ⟨o',(hs.2 b (Nat.ne_of_lt (Nat.lt_of_lt_of_le (Heap.lt_size e) I.ok.above))).trans e1⟩
  ·by_cases hj:j=i
   ·subst hj
    rw [hi] at e1;cases e1
    rw [List.getElem?_set_self hiσ] at e2
    cases e2
    exact ⟨u,r, .inl ⟨hk,by simp⟩⟩
   ·rw [List.getElem?_set_ne (Ne.symm hj)] at e2
    obtain ⟨u',r',q⟩:=hl j y v' e1 e2 e3
    refine ⟨u',r', ?_⟩
    rcases q with ⟨k,e⟩|⟨k,c,e,z⟩
    ·refine .inl ⟨k, ?_⟩
     have:y≠x:=λe=>hj (UR hN e1 (e ▸ hi))
     simp [this,e]
    ·exact .inr ⟨k,c,e,z.sameBut hs (cne y c e)⟩
  ·obtain ⟨w',z⟩:=I.cell y c e
   exact ⟨w',z.sameBut hs (cne y c e)⟩
  ·obtain ⟨e,n,ne,nf,d⟩:=I.pin p hp
   exact ⟨(hs.2 p.1 ne).trans e,n,ne,nf,d⟩
 ·have qC:X.fn x=true:=by
   rcases hf with z|z
   ·exact z
   ·rw [z] at hk;cases hk
  obtain ⟨c,hc⟩:=I.ok.has x (.inl hk)
  obtain ⟨w',z⟩:=I.cell x c hc
  refine wpAny_storeName_cell I.ok.kind hk hc z (λh' sn hs=> ?_)
  obtain ⟨oc,tI,qL⟩:=id z
  refine h {s with heap:=h'} ⟨I.ok,I.os,I.bare,⟨λb o e n hb hx=> ?_,λb o e n hb hx=> ?_,I.base.free,λb o e hx=> ?_,I.base.tups,I.base.frzs,I.base.tbls⟩,⟨m,hn.sameBut hs (Ne.symm (cne x c hc)),λj y v' e1 e2 e3=> ?_⟩,λy c' e=> ?_,I.free,I.freeC,λp hp=> ?_,tracked ⟨oc,tI,I.freeC x c hc⟩ hs,by simpa using I.len⟩ ⟨c,hs, .inr hc⟩
  ·exact (hs.2 b (Nat.ne_of_lt (Nat.lt_of_lt_of_le (Heap.lt_size e) (I.ok.cab x c qC hc)))).trans (I.base.keep b o e n hb hx)
  ·obtain ⟨sl,e1⟩:=I.base.slot b o e n hb hx
   exact ⟨sl,(hs.2 b (Nat.ne_of_lt (Nat.lt_of_lt_of_le (Heap.lt_size e) (I.ok.cab x c qC hc)))).trans e1⟩
  ·obtain ⟨o',e1⟩:=I.base.there b o e hx
   exact ⟨o',(hs.2 b (Nat.ne_of_lt (Nat.lt_of_lt_of_le (Heap.lt_size e) (I.ok.cab x c qC hc)))).trans e1⟩
  ·by_cases hj:j=i
   ·subst hj
    rw [hi] at e1;cases e1
    rw [List.getElem?_set_self hiσ] at e2
    cases e2
    exact ⟨u,r, .inr ⟨.inl hk,c,hc,sn⟩⟩
   ·rw [List.getElem?_set_ne (Ne.symm hj)] at e2
    obtain ⟨u',r',q⟩:=hl j y v' e1 e2 e3
    refine ⟨u',r', ?_⟩
    rcases q with q|⟨k,c',e,z'⟩
    ·exact .inl q
    ·refine .inr ⟨k,c',e,z'.sameBut hs ?_⟩
     rintro rfl
     exact hj (UR hN e1 (I.ok.inj _ _ _ e hc ▸ hi))
  ·by_cases so:c'=c
   ·subst so;exact ⟨_,sn⟩
   ·obtain ⟨w2,z2⟩:=I.cell y c' e
    exact ⟨w2,z2.sameBut hs so⟩
  ·obtain ⟨e,n,ne,nf,d⟩:=I.pin p hp
   refine ⟨(hs.2 p.1 ?_).trans e,n,ne,nf,d⟩
   intro q
   rw [q,tI] at e
   have q':oc=p.2:=Option.some.inj e
   exact d w' (by rw [<-q'];exact qL)
theorem Hc {M:Model} {A:Around} {E:Value->Shared->Prop} {i:Nat} {x:Str} {v:V} {u:Value} {Q:Unit->Shared->Prop} (I:Inv X pins σ H s) (hN:X.N.Nodup) (hi:X.N[i]? =some x) (hx:Loc X.env.scope x) (r:RelV v u)
 (h:∀s',Inv X pins (σ.set i (some v)) H s'->Q () s') (hf:X.fn x=true\/X.env.scope.names.lookup x=some .local:=by first | exact .inl rfl|exact .inr rfl|assumption):wpAny M A (storeName X.env x u) Q E s:=
 Qv I hN hi hx r (λs' I' _=>h s' I') hf
theorem Inv.call' {s':Shared} {ch:List Addr} (I:Inv X pins σ H s) (ho:s'.os=s.os) (u:Un (Y9 X.stack) ch H H' s.heap s'.heap) (hok:Mi X.prog X.w H' s'.heap) (hg:AllBare s'.gens)
 (M9:∀b∈ch,(b∈X.ex\/X.s₀.heap.objs.size<=b)/\b≠X.env.locals/\(∀x c,X.env.cells.lookup x=some c->c≠b)/\∀p∈X.pn++pins,p.1≠b):Inv X pins σ H' s':=by
 obtain ⟨h',g',d',t',o'⟩:=s'
 have e:o'=s.os:=ho
 subst e
 exact I.call (g':=g') (t':=t') (d':=d') u hok hg M9
end
abbrev XK:=Value->Option Addr->Hp->Prop
abbrev St:=List (Option V)
abbrev VK:=V->Hp->Prop
abbrev TE:=St->Hp->VK->Prop
abbrev TT:=St->Hp->(Bool->Hp->Prop)->Prop
abbrev TA:=St->Hp->(List V->Hp->Prop)->Prop
structure Nv where
 nx:St->Hp->Prop
 rt:VK
 bk:St->Hp->Prop:=λ_ _=>False
 ct:St->Hp->Prop:=λ_ _=>False
abbrev TS:=Nv->St->Hp->Prop
def EP (X:Cx) (pins:List (Addr×Obj)) (σ:St) (Q:VK) (u:Value) (s':Shared):Prop:=∃v H',Inv X pins σ H' s'/\RelV v u/\Q v H'
def TP (X:Cx) (pins:List (Addr×Obj)) (σ:St) (Q:Bool->Hp->Prop) (b:Bool) (s':Shared):Prop:=∃H',Inv X pins σ H' s'/\Q b H'
def AP (X:Cx) (pins:List (Addr×Obj)) (σ:St) (Q:List V->Hp->Prop) (us:List Value) (s':Shared):Prop:=∃vs H',Inv X pins σ H' s'/\Ax vs us/\Q vs H'
def SP (X:Cx) (pins:List (Addr×Obj)) (D:Nv) (f:Flow) (s':Shared):Prop:=
 match f with
 | .next=>∃σ' H',Inv X pins σ' H' s'/\D.nx σ' H'
 | .brk=>∃σ' H',Inv X pins σ' H' s'/\D.bk σ' H'
 | .cont=>∃σ' H',Inv X pins σ' H' s'/\D.ct σ' H'
 | .ret u=>∃v σ' H',Inv X pins σ' H' s'/\RelV v u/\D.rt v H'
def PE (X:Cx) (e:Expr) (t:TE):Prop:=
 ∀(pins:List (Addr×Obj)) (s:Shared) (σ:St) (H:Hp) (Q:VK),Inv X pins σ H s->t σ H Q->wpAny (model X.prog X.w) X.A (eval e X.env) (EP X pins σ Q) X.xe s
def PT (X:Cx) (e:Expr) (t:TT):Prop:=
 ∀(pins:List (Addr×Obj)) (s:Shared) (σ:St) (H:Hp) (Q:Bool->Hp->Prop),Inv X pins σ H s->t σ H Q->wpAny (model X.prog X.w) X.A (isTrue e X.env (eval e X.env)) (TP X pins σ Q) X.xe s
def PW (X:Cx) (e:Expr) (t:TT):Prop:=
 ∀(whole:Sem Value) (pins:List (Addr×Obj)) (s:Shared) (σ:St) (H:Hp) (Q:Bool->Hp->Prop),Inv X pins σ H s->t σ H Q->wpAny (model X.prog X.w) X.A (isTrue e X.env whole) (TP X pins σ Q) X.xe s
theorem PW.pt {X:Cx} {e:Expr} {t:TT} (h:PW X e t):PT X e t:=h _
def PA (X:Cx) (es:List Expr) (t:TA):Prop:=
 ∀(pos:Pos) (pins:List (Addr×Obj)) (s:Shared) (σ:St) (H:Hp) (Q:List V->Hp->Prop),Inv X pins σ H s->t σ H Q->wpAny (model X.prog X.w) X.A (spliced (backTo pos (starEach es X.env))) (AP X pins σ Q) X.xe s
def PS (X:Cx) (st:Stmt) (t:TS):Prop:=
 ∀(pins:List (Addr×Obj)) (s:Shared) (σ:St) (H:Hp) (D:Nv),Inv X pins σ H s->t D σ H->wpAny (model X.prog X.w) X.A (exec st X.env) (SP X pins D) X.xe s
def Wc (X:Cx) (st:List Stmt) (t:TS):Prop:=
 ∀(pins:List (Addr×Obj)) (s:Shared) (σ:St) (H:Hp) (D:Nv),Inv X pins σ H s->t D σ H->wpAny (model X.prog X.w) X.A (execs st X.env) (SP X pins D) X.xe s
theorem Bg {α:Type} {t:Sem α} {Q Q':α->Shared->Prop} {M:Model} {A:Around} {E:Value->Shared->Prop} {s:Shared} (h:wpAny M A t Q E s) (hQ:∀a s,Q a s->Q' a s):wpAny M A t Q' E s:=wpAny_mono h hQ λ_ _ x=>x
end L2
namespace L2
open PySem PySem.Spec PyProof.Rows
section
variable {X:Cx}
def F1 (i:Nat):TE:=λσ H Q=>∃v,σ[i]? =some (some v)/\Q v H
def tC (v:V):TE:=λ_ H Q=>Q v H
theorem SC {i:Nat} {x:Str} {pos:Pos} (hN:X.N[i]? =some x) (hv:iV X.env.scope x) (hd:(x==("__debug__" :Str))=false:=by decide) (M8:(x==("__classdict__" :Str))=false:=by decide):PE X (.Name x pos) (F1 i):=by
 intro pins s σ H Q I h
 obtain ⟨v,e,h⟩:=h
 obtain ⟨m,hn,hl⟩:=I.loc
 obtain ⟨u,r,l⟩:=hl i x v hN e hv
 have fin:EP X pins σ Q u s:=⟨v,H,I,r,h⟩
 rcases l with ⟨hk,hm⟩|⟨hk,c,hc,W3⟩
 ·exact wpAny_Name (wpAny_loadName_local I.ok.kind hk hn hm fin) hd
 ·rcases hk with hk|hk
  ·exact wpAny_Name (wpAny_loadName_cell I.ok.kind hk hc W3 fin) hd
  ·exact wpAny_Name (wpAny_loadName_free I.ok.kind hk hc W3 fin M8) hd
theorem BG {i j pos}:PE X (.Constant (.int i) j pos) (tC (.int i)):=λ_ _ _ H _ I h=>wpAny_Constant_int ⟨.int i,H,I.tok _,⟨_,rfl⟩,h⟩
theorem nK {b j pos}:PE X (.Constant (.bool b) j pos) (tC (.bl b)):=λ_ _ _ H _ I h=>Constant_bool ⟨.bl b,H,I,rfl,h⟩
theorem bE {j pos}:PE X (.Constant .none j pos) (tC .non):=λ_ _ _ H _ I h=>Constant_none ⟨.non,H,I,rfl,h⟩
def Gl (X:Cx) (x:Str):Prop:=X.env.kindOf x=some .globalImplicit
theorem eJ {E:Value->Shared->Prop} {pins:List (Addr×Obj)} {s:Shared} {σ:St} {H:Hp} {x:Str} {u:Value} {pos:Pos} {Q:Value->Shared->Prop} (I:Inv X pins σ H s) (hg:Gl X x) (hm:X.mg x=some u) (h:Q u s)
 (hd:(x==("__debug__" :Str))=false:=by decide):wpAny (model X.prog X.w) X.A (eval (.Name x pos) X.env) Q E s:=
 Calls.Name_function_global I.ok.kind hg (Calls.loadGlobal_global (by rw [I.ok.glob];exact I.mod.glob.keeps I.bk) hm h) hd
theorem GL {E:Value->Shared->Prop} {pins:List (Addr×Obj)} {s:Shared} {σ:St} {H:Hp} {x:Str} {u:Value} {pos:Pos} {Q:Value->Shared->Prop} (I:Inv X pins σ H s) (hg:Gl X x) (hm:X.mg x=none) (hv:bootBuiltins x=some u) (h:Q u s)
 (hn:x≠"__name__" :=by decide) (hd:(x==("__debug__" :Str))=false:=by decide):wpAny (model X.prog X.w) X.A (eval (.Name x pos) X.env) Q E s:=by
 obtain ⟨mb,h1,h2⟩:=I.mod.blt
 exact Calls.Name_function_global I.ok.kind hg (Calls.loadGlobal_builtin (by rw [I.ok.glob];exact I.mod.glob.keeps I.bk) hm (by rw [I.ok.blt];exact h1.keeps I.bk) ((h2 x hn).trans hv) h) hd
theorem fA {x:Str} {v:V} {u:Value} {pos:Pos} (hg:Gl X x) (hm:X.mg x=none) (hv:bootBuiltins x=some u) (r:RelV v u) (hn:x≠"__name__" :=by decide) (hd:(x==("__debug__" :Str))=false:=by decide):PE X (.Name x pos) (tC v):=
 λ_ _ _ H _ I h=>GL I hg hm hv ⟨v,H,I,r,h⟩ hn hd
variable {a b:Expr} {ta tb:TE} {pos:Pos}
def PC (X:Cx) (op:CmpOp) (a b:Expr) (t:TE):Prop:=
 ∀(pins:List (Addr×Obj)) (s:Shared) (σ:St) (H:Hp) (Q:VK),Inv X pins σ H s->t σ H Q->
  wpAny (model X.prog X.w) X.A (eval a X.env) (λv s₁=>wpAny (model X.prog X.w) X.A (eval b X.env) (λu s₂=>wpAny (model X.prog X.w) X.A (compareOp op v u) (EP X pins σ Q) X.xe s₂) X.xe s₁) X.xe s
theorem af (b:Expr) {op:CmpOp} (h:op≠ .In) (h2:op≠ .NotIn):behindInMarks op b=false:=by
 have e1:(op==CmpOp.In)=false:=by cases op <;> first | rfl|exact absurd rfl h
 have e2:(op==CmpOp.NotIn)=false:=by cases op <;> first | rfl|exact absurd rfl h2
 cases b <;> simp [behindInMarks,e1,e2]
def tB (t:TE):TT:=λσ H Q=>t σ H λx H1=>∃c,x= .bl c/\Q c H1
theorem jx {op:CmpOp} {t:TE} (h:PC X op a b t) (h1:behindInMarks op b=false:=by first | exact af _ (by decide) (by decide)|rfl):PT X (.Compare a [op] [b] pos) (tB t):=by
 intro pins s σ H Q I hw
 refine wpAny_isTrue_Compare1 (Bg (h pins s σ H _ I hw) λv s1 h1=>Bg h1 λu s2 h2=>Bg h2 λc s3 ⟨x,H1,I1,r1,q1⟩=> ?_) h1
 obtain ⟨d,rfl,q⟩:=q1
 cases r1
 exact wpAny_truthy_bool ⟨H1,I1,q⟩
theorem j3 {e:Expr} {t:TE} (h:PE X e t) (he:∀whole,isTrue e X.env whole=(do let v <-whole;standAt e.pos;holding [v] (truthy v)):=by intro _;rfl):PT X e (tB t):=by
 intro pins s σ H Q I hw
 refine isTrue_plain (Bg (h pins s σ H _ I hw) λv s1 ⟨x,H1,I1,r1,q1⟩=> ?_) (he _)
 obtain ⟨d,rfl,q⟩:=q1
 cases r1
 exact wpAny_truthy_bool ⟨H1,I1,q⟩
variable {tA tB':TT} {rest:List Expr}
def qi (t u:TT):TT:=λσ H Q=>t σ H λc H1=>if c=true then u σ H1 Q else Q false H1
def wr (t u:TT):TT:=λσ H Q=>t σ H λc H1=>if c=true then Q true H1 else u σ H1 Q
def qm (t:TT):TT:=λσ H Q=>t σ H λc H1=>Q (!c) H1
theorem fP (ha:PT X a tA):PW X (.BoolOp .And [a] pos) tA:=by
 intro wh pins s σ H Q I h
 refine isTrue_and (Bg (ha pins s σ H Q I h) λc s1 e=> ?_)
 cases c with
 | true=>exact isTrue_and_nil e
 | false=>exact e
theorem j5 (ha:PT X a tA):PW X (.BoolOp .Or [a] pos) tA:=by
 intro wh pins s σ H Q I h
 refine isTrue_or (Bg (ha pins s σ H Q I h) λc s1 e=> ?_)
 cases c with
 | false=>exact isTrue_or_nil e
 | true=>exact e
theorem j4 (ha:PT X a tA) (hb:PW X (.BoolOp .And (b::rest) pos) tB'):PW X (.BoolOp .And (a::b::rest) pos) (qi tA tB'):=by
 intro wh pins s σ H Q I h
 refine isTrue_and (Bg (ha pins s σ H _ I h) λc s1 ⟨H1,I1,q1⟩=> ?_)
 cases c with
 | true=>exact hb wh pins s1 σ H1 Q I1 q1
 | false=>exact ⟨H1,I1,q1⟩
theorem nN (ha:PT X a tA) (hb:PW X (.BoolOp .Or (b::rest) pos) tB'):PW X (.BoolOp .Or (a::b::rest) pos) (wr tA tB'):=by
 intro wh pins s σ H Q I h
 refine isTrue_or (Bg (ha pins s σ H _ I h) λc s1 ⟨H1,I1,q1⟩=> ?_)
 cases c with
 | true=>exact ⟨H1,I1,q1⟩
 | false=>exact hb wh pins s1 σ H1 Q I1 q1
theorem jy (ha:PT X a tA):PT X (.UnaryOp .Not a pos) (qm tA):=by
 intro pins s σ H Q I h
 exact isTrue_not (ha pins s σ H (λc H1=>Q (!c) H1) I h)
def oB (ta tb:TE):TE:=λσ H Q=>ta σ H λx H1=>∃c,x= .bl c/\if c=true then tb σ H1 Q else Q (.bl false) H1
def oG (ta:TE):TE:=λσ H Q=>ta σ H λx H1=>∃c,x= .bl c/\Q (.bl (!c)) H1
theorem ju {op} {t:TE} (h:PE X a t):PE X (.BoolOp op [a] pos) t:=λpins s σ H Q I hw=>BoolOp_one (h pins s σ H Q I hw)
theorem jr (ha:PE X a ta) (hb:PE X (.BoolOp .And (b::rest) pos) tb):PE X (.BoolOp .And (a::b::rest) pos) (oB ta tb):=by
 intro pins s σ H Q I h
 refine BoolOp_and (Bg (ha pins s σ H _ I h) λv s1 ⟨x,H1,I1,r1,q1⟩=> ?_)
 obtain ⟨c,rfl,q1⟩:=q1
 cases r1
 refine wpAny_truthy_bool ?_
 cases c with
 | true=>exact hb pins s1 σ H1 Q I1 q1
 | false=>exact ⟨.bl false,H1,I1,rfl,q1⟩
theorem jt (ha:PE X a ta):PE X (.UnaryOp .Not a pos) (oG ta):=by
 intro pins s σ H Q I h
 refine UnaryOp_ (Bg (ha pins s σ H _ I h) λv s1 ⟨x,H1,I1,r1,q1⟩=> ?_)
 obtain ⟨c,rfl,q1⟩:=q1
 cases r1
 exact not_of (wpAny_truthy_bool ⟨.bl (!c),H1,I1,rfl,q1⟩)
def wq (t:TT) (ta tb:TE):TE:=λσ H Q=>t σ H λc H1=>if c=true then ta σ H1 Q else tb σ H1 Q
theorem bC {c:Expr} (hc:PT X c tA) (ha:PE X a ta) (hb:PE X b tb):PE X (.IfExp c a b pos) (wq tA ta tb):=by
 intro pins s σ H Q I h
 refine wpAny_IfExp (Bg (hc pins s σ H _ I h) λd s1 ⟨H1,I1,q1⟩=> ?_)
 cases d with
 | true=>exact ha pins s1 σ H1 Q I1 q1
 | false=>exact hb pins s1 σ H1 Q I1 q1
end
end L2
namespace L2
open PySem PySem.Spec PyProof.Rows
def F4 (K:PySem.W.Frag) (H:Hp) (a:Addr) (xs:List V):Prop:=
 Rd H a (.lst xs)\/
  ∃(o:Obj) (its:Array Value) (n:Nat),K.lookup a=some o/\o.cls= .type "list" /\o.dict=none/\o.data= .seq its n/\its.size<=sizeLine/\Ax xs its.toList
def Jr (K:PySem.W.Frag) (H:Hp) (a:Addr) (xs:List V):Prop:=
 Rd H a (.tup xs)\/
  ∃(o:Obj) (its:Array Value) (n:Nat),K.lookup a=some o/\o.cls= .type "tuple" /\o.data= .seq its n/\its.size<=sizeLine/\Ax xs its.toList
def pW:Value->Option V
 | .none=>some .non
 | .bool b=>some (.bl b)
 | .int i _=>some (.int i)
 | .str x _=>some (.str x)
 | .bytes b _=>some (.byt b)
 | .float b _=>some (.flt b)
 | .ref a=>some (.ref a)
 | .type n=>some (.ty n)
 | _=>none
theorem RelV.abs {x:V} {u:Value} (r:RelV x u):pW u=some x:=by
 cases x with
 | non=>cases r;rfl
 | bl _=>cases r;rfl
 | int _=>obtain ⟨t,rfl⟩:=r;rfl
 | str _=>obtain ⟨t,rfl⟩:=r;rfl
 | byt _=>obtain ⟨t,rfl⟩:=r;rfl
 | flt _=>obtain ⟨t,rfl⟩:=r;rfl
 | ref _=>cases r;rfl
 | ty _=>cases r;rfl
theorem RelV.inj {x y:V} {u:Value} (r:RelV x u) (q:RelV y u):x=y:=Option.some.inj (r.abs.symm.trans q.abs)
theorem Ax.inj:∀{xs ys:List V} {us:List Value},Ax xs us->Ax ys us->xs=ys
 | _,_,_, .nil, .nil=>rfl
 | _,_,_, .cons r t, .cons r' t'=>by rw [r.inj r',Ax.inj t t']
section
variable {X:Cx} {pins:List (Addr×Obj)} {σ:St} {H:Hp} {s:Shared} {a:Addr} {xs ys:List V}
theorem F4.of {K:PySem.W.Frag} (h:H a=some (.lst xs)):F4 K H a xs:= .inl (.inl h)
theorem Jr.of {K:PySem.W.Frag} (h:H a=some (.tup xs)):Jr K H a xs:= .inl (.inl h)
theorem Inv.list (I:Inv X pins σ H s) (h:F4 X.K H a xs):∃its:List Value,Ax xs its/\PlainL s.heap a its.toArray/\xs.length<=sizeLine:=by
 rcases h with h|⟨o,its,n,hk,hc,hd,hs,hz,r⟩
 ·obtain ⟨z,its,n,r,e⟩:=h.ok I.hok
  exact ⟨its,r,⟨_,n,e,rfl,rfl,rfl⟩,z⟩
 ·refine ⟨its.toList,r,⟨o,n,I.kIn a o hk,hc,hd,by simpa using hs⟩, ?_⟩
  have e:=r.length
  simp only [Array.length_toList] at e
  omega
theorem Inv.tuple (I:Inv X pins σ H s) (h:Jr X.K H a xs):∃its:List Value,Ax xs its/\IsTup s.heap a its.toArray/\xs.length<=sizeLine:=by
 rcases h with h|⟨o,its,n,hk,hc,hs,hz,r⟩
 ·obtain ⟨z,its,r,p⟩:=h.ok I.hok
  exact ⟨its,r,p,z⟩
 ·refine ⟨its.toList,r,⟨o,I.kIn a o hk,hc,n,by simpa using hs⟩, ?_⟩
  have e:=r.length
  simp only [Array.length_toList] at e
  omega
theorem Inv.list_inj (I:Inv X pins σ H s) (h:F4 X.K H a xs) (h':F4 X.K H a ys):xs=ys:=by
 obtain ⟨its,r,⟨o,n,e,_,_,d⟩,_⟩:=I.list h
 obtain ⟨its',r',⟨o',n',e',_,_,d'⟩,_⟩:=I.list h'
 rw [e] at e';cases e'
 rw [d] at d'
 injection d' with d1 _
 have:its=its':=by simpa using congrArg Array.toList d1
 subst this
 exact r.inj r'
theorem Inv.tuple_inj (I:Inv X pins σ H s) (h:Jr X.K H a xs) (h':Jr X.K H a ys):xs=ys:=by
 obtain ⟨its,r,⟨o,e,_,n,d⟩,_⟩:=I.tuple h
 obtain ⟨its',r',⟨o',e',_,n',d'⟩,_⟩:=I.tuple h'
 rw [e] at e';cases e'
 rw [d] at d'
 injection d' with d1 _
 have:its=its':=by simpa using congrArg Array.toList d1
 subst this
 exact r.inj r'
end
abbrev Cx.wish (X:Cx) (E:Value->Shared->Prop):Cx:={X with xe:=E}
abbrev Cx.nox (X:Cx):Cx:=X.wish λ_ _=>False
theorem Cx.Ok.wish {X:Cx} (ok:X.Ok) (E:Value->Shared->Prop):(X.wish E).Ok:=
 ⟨ok.mod,ok.kind,ok.glob,ok.blt,ok.above,ok.inj,ok.has,ok.cab,ok.hd,ok.frames,ok.stk,ok.exf,ok.bs,ok.bsz,ok.noex,ok.exfs,ok.funs,ok.frf⟩
theorem Cx.Ok.unwish {X:Cx} {E:Value->Shared->Prop} (ok:(X.wish E).Ok):X.Ok:=
 ⟨ok.mod,ok.kind,ok.glob,ok.blt,ok.above,ok.inj,ok.has,ok.cab,ok.hd,ok.frames,ok.stk,ok.exf,ok.bs,ok.bsz,ok.noex,ok.exfs,ok.funs,ok.frf⟩
section
variable {X:Cx} {pins:List (Addr×Obj)} {σ:St} {H:Hp} {s:Shared} {E:Value->Shared->Prop}
theorem Inv.wish (I:Inv X pins σ H s) (E:Value->Shared->Prop):Inv (X.wish E) pins σ H s:=⟨I.ok.wish E,I.os,I.bare,I.base,I.loc,I.cell,I.free,I.freeC,I.pin,I.hok,I.len⟩
theorem Inv.unwish (I:Inv (X.wish E) pins σ H s):Inv X pins σ H s:=⟨I.ok.unwish,I.os,I.bare,I.base,I.loc,I.cell,I.free,I.freeC,I.pin,I.hok,I.len⟩
theorem SP.unwish {D:Nv} {f:Flow} {s':Shared} (h:SP (X.wish E) pins D f s'):SP X pins D f s':=by
 cases f with
 | next=>obtain ⟨σ',H',I,q⟩:=h;exact ⟨σ',H',I.unwish,q⟩
 | brk=>obtain ⟨σ',H',I,q⟩:=h;exact ⟨σ',H',I.unwish,q⟩
 | cont=>obtain ⟨σ',H',I,q⟩:=h;exact ⟨σ',H',I.unwish,q⟩
 | ret u=>obtain ⟨v,σ',H',I,r,q⟩:=h;exact ⟨v,σ',H',I.unwish,r,q⟩
theorem PE.nox {e:Expr} {t:TE} (h:PE X.nox e t):PE X e t:=λpins s σ H Q I hw=>
 wpAny_mono (h pins s σ H Q (I.wish _) hw) (λ_ _ ⟨v,H',I',r,q⟩=>⟨v,H',I'.unwish,r,q⟩) λ_ _ z=>False.elim z
theorem PT.nox {e:Expr} {t:TT} (h:PT X.nox e t):PT X e t:=λpins s σ H Q I hw=>
 wpAny_mono (h pins s σ H Q (I.wish _) hw) (λ_ _ ⟨H',I',q⟩=>⟨H',I'.unwish,q⟩) λ_ _ z=>False.elim z
theorem Wc.nox {st:List Stmt} {t:TS} (h:Wc X.nox st t):Wc X st t:=λpins s σ H D I hw=>
 wpAny_mono (h pins s σ H D (I.wish _) hw) (λ_ _ q=>q.unwish) λ_ _ z=>False.elim z
end
section
variable {X:Cx} {st:Stmt} {rest:List Stmt} {t u:TS} {e:Expr} {te:TE} {pos:Pos}
def iC:TS:=λD σ H=>D.nx σ H
def Yw (t u:TS):TS:=λD σ H=>t {D with nx:=u D} σ H
theorem NE:Wc X [] iC:=λ_ _ σ H _ I h=>wpAny_execs_nil ⟨σ,H,I,h⟩
theorem B6 (h1:PS X st t) (h2:Wc X rest u):Wc X (st::rest) (Yw t u):=by
 intro pins s σ H D I h
 refine wpAny_execs_cons (Bg (h1 pins s σ H {D with nx:=u D} I h) λf s1 q=> ?_)
 cases f with
 | next=>
   obtain ⟨σ',H',I',q⟩:=q
   exact h2 pins s1 σ' H' D I' q
 | ret v=>exact q
 | brk=>exact q
 | cont=>exact q
theorem FH (h1:PS X st t):Wc X [st] t:=by
 intro pins s σ H D I h
 refine wpAny_execs_cons (Bg (h1 pins s σ H D I h) λf s1 q=> ?_)
 cases f with
 | next=>exact wpAny_execs_nil q
 | ret v=>exact q
 | brk=>exact q
 | cont=>exact q
theorem Inv.quiet {pins:List (Addr×Obj)} {σ:St} {H:Hp} {s:Shared} (I:Inv X pins σ H s):interactive X.env=false:=by simp [interactive,I.ok.kind]
def iA (te:TE):TS:=λD σ H=>te σ H λ_ H1=>D.nx σ H1
theorem fN (he:PE X e te) (hs:swapsWith e none pos.line X.env=pure false:=by rfl):PS X (.Expr e pos) (iA te):=by
 intro pins s σ H D I h
 exact wpAny_Expr_any (Bg (he pins s σ H _ I h) λv s1 ⟨x,H1,I1,r1,q1⟩=>⟨σ,H1,I1,q1⟩) I.quiet hs
def cS (te:TE):TS:=λD σ H=>te σ H D.rt
theorem OY (he:PE X e te):PS X (.Return (some e) pos) (cS te):=by
 intro pins s σ H D I h
 exact wpAny_Return_some (Bg (he pins s σ H _ I h) λv s1 ⟨x,H1,I1,r1,q1⟩=>⟨x,σ,H1,I1,r1,q1⟩)
def oD (c:TT) (t u:TS):TS:=λD σ H=>c σ H λb H1=>if b=true then t D σ H1 else u D σ H1
theorem XI {c:Expr} {a b:List Stmt} {tc:TT} (hc:PT X c tc) (ha:Wc X a t) (hb:Wc X b u):PS X (.If c a b pos) (oD tc t u):=by
 intro pins s σ H D I h
 refine wpAny_If (Bg (hc pins s σ H _ I h) λd s1 ⟨H1,I1,q1⟩=> ?_)
 cases d with
 | true=>exact ha pins s1 σ H1 D I1 q1
 | false=>exact hb pins s1 σ H1 D I1 q1
end
abbrev TG:=V->St->Hp->(St->Hp->Prop)->Prop
abbrev VE:=List V->St->Hp->(St->Hp->Prop)->Prop
def PG (X:Cx) (target:Expr) (t:TG):Prop:=
 ∀(pins:List (Addr×Obj)) (s:Shared) (σ:St) (H:Hp) (v:V) (u:Value) (Q:St->Hp->Prop),Inv X pins σ H s->RelV v u->t v σ H Q->
  wpAny (model X.prog X.w) X.A (assign target X.env u) (λ_ s'=>∃σ' H',Inv X pins σ' H' s'/\Q σ' H') X.xe s
def kq (X:Cx) (ts:List Expr) (t:VE):Prop:=
 ∀(pins:List (Addr×Obj)) (s:Shared) (σ:St) (H:Hp) (vs:List V) (us:List Value) (Q:St->Hp->Prop),Inv X pins σ H s->Ax vs us->t vs σ H Q->
  wpAny (model X.prog X.w) X.A (assignInOrder ((assignEach ts X.env).map (·.2)) us) (λ_ s'=>∃σ' H',Inv X pins σ' H' s'/\Q σ' H') X.xe s
abbrev iU:=V->V->V->Hp->(Hp->Prop)->Prop
def lj (X:Cx) (t:iU):Prop:=
 ∀(pins:List (Addr×Obj)) (s:Shared) (σ:St) (H:Hp) (o i v:V) (ov iv u:Value) (Q:Hp->Prop),Inv X pins σ H s->RelV o ov->RelV i iv->RelV v u->t o i v H Q->
  wpAny (model X.prog X.w) X.A (setItem ov iv u) (λ_ s'=>∃H',Inv X pins σ H' s'/\Q H') X.xe s
abbrev lp:=V->V->Hp->VK->Prop
def kr (X:Cx) (op:Operator) (t:lp):Prop:=
 ∀(pins:List (Addr×Obj)) (s:Shared) (σ:St) (H:Hp) (x y:V) (v u:Value) (Q:VK),Inv X pins σ H s->RelV x v->RelV y u->t x y H Q->
  wpAny (model X.prog X.w) X.A (inplaceOp op v u) (EP X pins σ Q) X.xe s
section
variable {X:Cx} {pos:Pos}
def DO (i:Nat):TG:=λv σ H Q=>Q (σ.set i (some v)) H
theorem KJ {i:Nat} {x:Str} (hN:X.N.Nodup) (hi:X.N[i]? =some x) (hx:Loc X.env.scope x) (hf:X.fn x=true\/X.env.scope.names.lookup x=some .local:=by first | exact .inl rfl|exact .inr rfl|assumption):PG X (.Name x pos) (DO i):=by
 intro pins s σ H v u Q I r h
 exact wpAny_assign_Name (Hc I hN hi hx r (λs' I'=>⟨_,H,I',h⟩) hf)
def T8:VE:=λvs σ H Q=>vs= [] /\Q σ H
def FC (t:TG) (u:VE):VE:=λvs σ H Q=>∃v r,vs=v::r/\t v σ H λσ' H'=>u r σ' H' Q
theorem SD:kq X [] T8:=by
 intro pins s σ H vs us Q I r h
 obtain ⟨e,h⟩:=h
 subst e
 cases r
 exact assignInOrder_nil ⟨σ,H,I,h⟩
theorem HP {e:Expr} {es:List Expr} {t:TG} {u:VE} (h1:PG X e t) (h2:kq X es u)
 (hs:(assignEach (e::es) X.env).map (·.2)=assign e X.env::(assignEach es X.env).map (·.2):=by rfl):kq X (e::es) (FC t u):=by
 intro pins s σ H vs us Q I r h
 obtain ⟨v,vr,e1,h⟩:=h
 subst e1
 cases r with
 | cons r rr=>
   rw [hs]
   refine assignInOrder_cons (Bg (h1 pins s σ H _ _ _ I r h) λ_ s1 ⟨σ1,H1,I1,q1⟩=> ?_)
   exact h2 pins s1 σ1 H1 _ _ Q I1 rr q1
def ph (to ti:TE) (t:iU):TG:=λv σ H Q=>to σ H λo H1=>ti σ H1 λi H2=>t o i v H2 λH3=>Q σ H3
theorem WB {o i:Expr} {to ti:TE} {t:iU} (ho:PE X o to) (hi:PE X i ti) (hs:lj X t)
 (ha:∀v,assign (.Subscript o i pos) X.env v=(do
   let ov <-holding [v] (eval o X.env)
   let iv <-holding [v,ov] (eval i X.env)
   standAt pos
   holding [v,ov,iv] (setItem ov iv v)
   release [v,ov,iv] []):=by intro _;rfl):PG X (.Subscript o i pos) (ph to ti t):=by
 intro pins s σ H v u Q I r h
 rw [ha]
 refine wpAny_bind (wpAny_holding (Bg (ho pins s σ H _ I h) λov s1 ⟨x,H1,I1,r1,q1⟩=> ?_))
 refine wpAny_bind (wpAny_holding (Bg (hi pins s1 σ H1 _ I1 q1) λiv s2 ⟨y,H2,I2,r2,q2⟩=> ?_))
 refine wpAny_bind (wpAny_standAt (wpAny_bind (wpAny_holding (Bg (hs pins s2 σ H2 x y v ov iv u _ I2 r1 r2 r q2) λ_ s3 ⟨H3,I3,q3⟩=> ?_))))
 exact wpAny_release ⟨σ,H3,I3,q3⟩
def Uy (te:TE) (g:TG):TS:=λD σ H=>te σ H λx H1=>g x σ H1 D.nx
theorem SH {tg e:Expr} {te:TE} {g:TG} (he:PE X e te) (hg:PG X tg g) (hs:swapsWithSole [tg] e pos.line X.env=pure false:=by rfl) (hw:swappedStores [tg] e X.env=pure none:=by rfl)
 (h1:(assignEach [tg] X.env).map (·.2)= [assign tg X.env] :=by rfl):PS X (.Assign [tg] e pos) (Uy te g):=by
 intro pins s σ H D I h
 refine wpAny_Assign_stores (Bg (he pins s σ H _ I h) λv s1 ⟨x,H1,I1,r1,q1⟩=> ?_) hs hw
 rw [h1]
 exact Bg (hg pins s1 σ H1 x v _ I1 r1 q1) λ_ s2 q=>q
theorem Fg {i:Nat} {x:Str} {e:Expr} {te:TE} {pos':Pos} (hN:X.N.Nodup) (hi:X.N[i]? =some x) (hx:Loc X.env.scope x) (he:PE X e te) (hs:swapsWith e (some (.Name x pos')) pos.line X.env=pure false:=by rfl) (hf:X.fn x=true\/X.env.scope.names.lookup x=some .local:=by first | exact .inl rfl|exact .inr rfl|assumption):
 PS X (.Assign [.Name x pos'] e pos) (Uy te (DO i)):=by
 intro pins s σ H D I h
 refine wpAny_Assign_Name (Bg (he pins s σ H _ I h) λv s1 ⟨y,H1,I1,r1,q1⟩=> ?_) hs
 exact Hc I1 hN hi hx r1 (λs2 I2=>⟨_,H1,I2,q1⟩) hf
def qo (i j:Nat) (ta:TA):TS:=λD σ H=>ta σ H λvs H1=>∃v w,vs= [v,w] /\D.nx ((σ.set i (some v)).set j (some w)) H1
theorem jw {i j:Nat} {x y:Str} {a b:Expr} {ta:TA} {px py pt:Pos} {kt k2 pt2} (hc:X.calm=true) (hN:X.N.Nodup) (hi:X.N[i]? =some x) (hj:X.N[j]? =some y) (qE:i≠j)
 (hx:X.env.scope.names.lookup x=some .local) (hy:X.env.scope.names.lookup y=some .local) (ha:PA X [a,b] ta)
 (hw:swappedStores [.Tuple [.Name x px, .Name y py] kt pt] (.Tuple [a,b] k2 pt2) X.env=pure (some [x,y]))
 (hs:swapsWithSole [.Tuple [.Name x px, .Name y py] kt pt] (.Tuple [a,b] k2 pt2) pos.line X.env=pure false:=by rfl):
 PS X (.Assign [.Tuple [.Name x px, .Name y py] kt pt] (.Tuple [a,b] k2 pt2) pos) (qo i j ta):=by
 intro pins s σ H D I h
 rw [exec_Assign_arm]
 refine wpAny_bind (wpAny_standAt ?_)
 rw [hs]
 refine wpAny_bind (wpAny_pure ?_)
 rw [if_neg (by decide)]
 refine wpAny_bind (Tuple_ (Bg (ha _ pins s σ H _ I h) λus s1 ⟨vs,H1,I1,r1,q1⟩=> ?_))
 obtain ⟨v,w,e1,q1⟩:=q1
 subst e1
 obtain ⟨u1,u2,rfl,rv,rw'⟩:∃u1 u2,us= [u1,u2] /\RelV v u1/\RelV w u2:=by
  cases r1 with
  | cons p q=>
    cases q with
    | cons p' q'=>
      cases q'
      exact ⟨_,_,rfl,p,p'⟩
 refine wpAny_newObj_type ?_ (by show 2<=sizeLine;decide)
 have I2:Inv X pins σ H1 {s1 with heap:=s1.heap.push {cls:= .type "tuple",data:= .seq [u1,u2].toArray}}:=I1.kept (t':=s1.toks) λb o e=>Heap.get?_push_of_some _ e
 rw [hw]
 refine wpAny_bind (wpAny_pure ?_)
 show wpAny (model X.prog X.w) X.A (do rule "assign.swapped-stores";let items <-unpackItems (.ref s1.heap.objs.size) 2 none;assignInOrder [λv=>bindName X.env y v,λv=>bindName X.env x v] items.reverse;pure Flow.next) _ _ _
 refine wpAny_bind (wpAny_rule (wpAny_bind (unpackItems_tuple (items:= #[u1,u2]) (I.ok.hd hc) (IsTup.new s1.heap _) λh' gk=> ?_)))
 have I3:=I2.kept (h':=h') (t':=s1.toks) λb o e=>gk b o (Nat.ne_of_lt (Heap.lt_size e)) e
 show wpAny _ _ (assignInOrder [λv=>bindName X.env y v,λv=>bindName X.env x v] [u2,u1] >>= λ_=>pure Flow.next) _ _ _
 refine wpAny_bind (assignInOrder_cons (wpAny_bindName (Hc I3 hN hj (.inl hy) rw' (λs2 I4=> ?_) (.inr hy))))
 refine assignInOrder_cons (wpAny_bindName (Hc I4 hN hi (.inl hx) rv (λs3 I5=>assignInOrder_nil (wpAny_pure ?_)) (.inr hx)))
 rw [List.set_comm _ _ (Ne.symm qE)] at I5
 exact ⟨_,H1,I5,q1⟩
def qj (i:Nat) (te:TE) (ti:lp):TS:=λD σ H=>∃x,σ[i]? =some (some x)/\te σ H λy H1=>ti x y H1 λz H2=>D.nx (σ.set i (some z)) H2
theorem jv {i:Nat} {x:Str} {e:Expr} {te:TE} {op:Operator} {ti:lp} {pos':Pos} (hN:X.N.Nodup) (hi:X.N[i]? =some x) (hx:Loc X.env.scope x) (he:PE X e te) (ho:kr X op ti) (hf:X.fn x=true\/X.env.scope.names.lookup x=some .local:=by first | exact .inl rfl|exact .inr rfl|assumption):
 PS X (.AugAssign (.Name x pos') op e pos) (qj i te ti):=by
 intro pins s σ H D I h
 obtain ⟨v,e1,h⟩:=h
 obtain ⟨m,hn,hl⟩:=I.loc
 have vis:iV X.env.scope x:=by rcases hx with k|k;exact .inl k;exact .inr (.inl k)
 obtain ⟨u,r,l⟩:=hl i x v hi e1 vis
 refine wpAny_AugAssign_Name ?_
 have go:wpAny (model X.prog X.w) X.A (eval e X.env) (λw s₂=>wpAny (model X.prog X.w) X.A (inplaceOp op u w) (λr s₃=>wpAny (model X.prog X.w) X.A (storeName X.env x r) (λ_=>SP X pins D .next) X.xe s₃) X.xe s₂) X.xe s:=by
  refine Bg (he pins s σ H _ I h) λw s1 ⟨y,H1,I1,r1,q1⟩=> ?_
  refine Bg (ho pins s1 σ H1 v y u w _ I1 r r1 q1) λz s2 ⟨zv,H2,I2,r2,q2⟩=> ?_
  exact Hc I2 hN hi hx r2 (λs3 I3=>⟨_,H2,I3,q2⟩) hf
 rcases l with ⟨hk,hm⟩|⟨hk,c,hc,W3⟩
 ·exact wpAny_loadName_local I.ok.kind hk hn hm go
 ·rcases hk with hk|hk
  ·exact wpAny_loadName_cell I.ok.kind hk hc W3 go
  ·rcases hx with k|k
   ·have:X.env.scope.names.lookup x=some .free:=hk
    rw [k] at this;cases this
   ·have:X.env.scope.names.lookup x=some .free:=hk
    rw [k] at this;cases this
def qW (f:Int->Int->Int):lp:=λx y H Q=>∃i j,x= .int i/\y= .int j/\Q (.int (f i j)) H
theorem jJ:kr X .Add (qW λi j=>i+j):=by
 intro pins s σ H x y v u Q I r1 r2 h
 obtain ⟨i,j,e1,e2,q⟩:=h
 subst e1;subst e2
 obtain ⟨t,rfl⟩:=r1
 obtain ⟨t',rfl⟩:=r2
 exact iadd_int ⟨.int _,H,I.tok _,⟨_,rfl⟩,q⟩
end
section
variable {X:Cx} {pos:Pos}
def kS (c:TT) (tb:TS):TS:=λD σ H=>∃W:Nat->St->Hp->Prop,(∃m,W m σ H)/\∀m σ H,W m σ H->
 c σ H λb H1=>if b=true then ∃N:St->Hp->Prop,(∀σ' H',N σ' H'->∃m',m'<m/\W m' σ' H')/\tb {D with nx:=N,ct:=N,bk:=D.nx} σ H1 else D.nx σ H1
theorem bL {c:Expr} {body:List Stmt} {tc:TT} {tb:TS} (hp:PassesOwn (model X.prog X.w) X.A X.env X.xe) (hc:PT X c tc) (hb:Wc X body tb):PS X (.While c body [] pos) (kS tc tb):=by
 intro pins s σ H D I h
 obtain ⟨W,⟨m0,w0⟩,turn⟩:=h
 refine wpAny_While (codeAny_whileLoop (λn s'=>∃σ' H',Inv X pins σ' H' s'/\W n σ' H') ?_ m0 ⟨σ,H,I,w0⟩)
 rintro n s1 ⟨σ1,H1,I1,w1⟩
 refine wpAny_passesOwn hp (Bg (hc pins s1 σ1 H1 _ I1 (turn n σ1 H1 w1)) λb s2 ⟨H2,I2,q2⟩=> ?_)
 cases b with
 | true=>
   obtain ⟨N,hN,q2⟩:=q2
   rw [if_pos rfl]
   refine wpAny_passesOwn hp (Bg (hb pins s2 σ1 H2 _ I2 q2) λf s3 q3=> ?_)
   cases f with
   | next=>
     obtain ⟨σ3,H3,I3,n3⟩:=q3
     obtain ⟨m',hm,w3⟩:=hN σ3 H3 n3
     exact ⟨m',hm,σ3,H3,I3,w3⟩
   | cont=>
     obtain ⟨σ3,H3,I3,n3⟩:=q3
     obtain ⟨m',hm,w3⟩:=hN σ3 H3 n3
     exact ⟨m',hm,σ3,H3,I3,w3⟩
   | brk=>exact q3
   | ret v=>exact q3
 | false=>
   rw [if_neg Bool.false_ne_true]
   exact wpAny_execs_nil ⟨σ1,H2,I2,q2⟩
end
structure It where
 go:Nat->Hp->Prop
 yld:Nat->Hp->V->Hp->Prop
 stop:Nat->Hp->Prop
def D7 (X:Cx) (pins:List (Addr×Obj)) (H:Hp) (b:Addr):Prop:=
 H b=none/\b≠X.env.locals/\b ∉ X.fs/\(b∈X.ex\/X.s₀.heap.objs.size<=b)/\(∀x c,X.env.cells.lookup x=some c->c≠b)/\∀p∈X.pn++pins,p.1≠b
theorem Inv.fpOk {X:Cx} {pins:List (Addr×Obj)} {σ:St} {H H':Hp} {s:Shared} {b:Addr} (I:Inv X pins σ H s) (hb:s.heap.objs.size<=b) (hn:H' b=none):D7 X pins H' b:=by
 refine ⟨hn,Nat.ne_of_gt (Nat.lt_of_lt_of_le I.lt hb),I.nofs hb, .inr (Nat.le_trans I.sz hb),λx c e z=> ?_,λp hp z=> ?_⟩
 ·obtain ⟨v,q⟩:=I.cell x c e
  exact absurd (Nat.lt_of_lt_of_le q.lt (by rw [z];exact hb)) (Nat.lt_irrefl _)
 ·exact absurd (Nat.lt_of_lt_of_le (Heap.lt_size (I.pin p hp).1) (by rw [z];exact hb)) (Nat.lt_irrefl _)
structure Js (P:Program) (w:World) (K:PySem.W.Frag) (tg:Expr) (J:It) (fp:List Addr) (it:Addr) (tn:Nat->Heap->Prop):Prop where
 mem:it∈fp
 obj:∀i h,tn i h->∀b∈fp,∃o,h.get? b=some o/\∀v,o.data≠ .cell v
 keep:∀i h h',tn i h->(∀b∈fp,∀o,h.get? b=some o->h'.get? b=some o)->tn i h'
 item:∀(X:Cx),X.prog=P->X.w=w->X.K=K->X.calm=true->∀(i:Nat) (pins:List (Addr×Obj)) (s:Shared) (σ:St) (H:Hp) (E:Value->Shared->Prop),Inv X pins σ H s->(∀b∈fp,D7 X pins H b)->tn i s.heap->J.go i H->
  wpAny (model P w) X.A (pyNext (.ref it)) (λr s1=>∃u,r=some u/\
   wpAny (model P w) X.A (letOwnedTupleGo tg (.ref it) u) (λ_ s2=>∃x H',Inv X pins σ H' s2/\RelV x u/\J.yld i H x H'/\tn (i+1) s2.heap/\∀b∈fp,H' b=none) E s1) E s
 done:∀(X:Cx),X.prog=P->X.w=w->X.K=K->X.calm=true->∀(i:Nat) (pins:List (Addr×Obj)) (s:Shared) (σ:St) (H:Hp) (E:Value->Shared->Prop),Inv X pins σ H s->(∀b∈fp,D7 X pins H b)->tn i s.heap->J.stop i H->
  wpAny (model P w) X.A (pyNext (.ref it)) (λr s1=>r=none/\Inv X pins σ H s1) E s
 self:∀(A:Around) (i:Nat) (s:Shared) (Q:Value->Shared->Prop) (E:Value->Shared->Prop),tn i s.heap->Q (.ref it) s->wpAny (model P w) A (pyIter (.ref it)) Q E s
abbrev TI:=St->Hp->(It->Hp->Prop)->Prop
def sU (X:Cx) (pins:List (Addr×Obj)) (σ:St) (tg:Expr) (R:It->Hp->Prop) (itv:Value) (s2:Shared):Prop:=
 ∃(it:Addr) (fp:List Addr) (tn:Nat->Heap->Prop) (J:It) (H':Hp),itv= .ref it/\Inv X pins σ H' s2/\Js X.prog X.w X.K tg J fp it tn/\tn 0 s2.heap/\(∀b∈fp,D7 X pins H' b)/\R J H'
def PI (X:Cx) (tg iter:Expr) (wi:TI):Prop:=
 ∀(pins:List (Addr×Obj)) (s:Shared) (σ:St) (H:Hp) (R:It->Hp->Prop),Inv X pins σ H s->wi σ H R->
  wpAny (model X.prog X.w) X.A (eval iter X.env) (λv s1=>wpAny (model X.prog X.w) X.A (pyIter v) (sU X pins σ tg R) X.xe s1) X.xe s
theorem aA {M:Model} {A:Around} {E:Value->Shared->Prop} {s:Shared} {tg:Expr} {it:Addr} {u:Value} {o:Obj} {n:String} {vs:Array Value} {Q:Unit->Shared->Prop} (ho:s.heap.get? it=some o) (hc:o.cls= .type n) (hd:o.data= .fields vs)
 (hn: ["enumerate","zip","dict_itemiterator","dict_reverseitemiterator","odict_iterator","itertools.zip_longest","itertools.pairwise"].contains n=false) (hQ:Q () s):wpAny M A (letOwnedTupleGo tg (.ref it) u) Q E s:=by
 unfold letOwnedTupleGo
 cases tg <;> first
  | exact wpAny_pure hQ
  | (cases u <;> first
      | exact wpAny_pure hQ
      | (refine wpAny_bind (wpAny_load ho ?_)
         rw [hc,hd]
         show wpAny M A (if (["enumerate","zip","dict_itemiterator","dict_reverseitemiterator","odict_iterator","itertools.zip_longest","itertools.pairwise"].contains n&&vs[0]?==some (rawInt _))=true then _ else _) Q E s
         rw [if_neg (by intro h;rw [hn,Bool.false_and] at h;cases h)]
         exact wpAny_pure hQ))
def pM (K:PySem.W.Frag) (a:Addr):It:=
 ⟨λi H=>∃xs x,F4 K H a xs/\xs[i]? =some x,λi H x H'=>H'=H/\∀xs,F4 K H a xs->xs[i]? =some x,λi H=>∃xs,F4 K H a xs/\xs.length<=i⟩
def pN (K:PySem.W.Frag) (a:Addr):It:=
 ⟨λi H=>∃xs x,Jr K H a xs/\xs[i]? =some x,λi H x H'=>H'=H/\∀xs,Jr K H a xs->xs[i]? =some x,λi H=>∃xs,Jr K H a xs/\xs.length<=i⟩
def lb (lo:Int) (n:Nat):It:=⟨λi _=>i<n,λi H x H'=>H'=H/\x= .int (lo+i),λi _=>n<=i⟩
theorem Y0 {P:Program} {w:World} {K:PySem.W.Frag} {tg:Expr} (a it:Addr):Js P w K tg (pM K a) [it] it (λi h=>h.IsListIter it a i) where
 mem:=by simp
 obj:=λi h st b hb=>by
  have e:b=it:=by simpa using hb
  subst e
  obtain ⟨o,e,c,d⟩:=st
  exact ⟨o,e,λv z=>by rw [d] at z;cases z⟩
 keep:=λi h h' st k=>st.at λo e=>k it (by simp) o e
 item:=by
  intro X hP hw hK hc i pins s σ H E I hf st hg
  subst hP hw hK
  obtain ⟨xs,x,hq,hx⟩:=hg
  obtain ⟨its,rv,p,hz⟩:=I.list hq
  obtain ⟨u,hu,ru⟩:=rv.get hx
  obtain ⟨f0,f1,f2,f3,f4,f5⟩:=hf it (by simp)
  refine wpAny_pyNext_list_item st p.isList (x:=u) (by simpa using hu) λh' st' sb=> ?_
  have I1:Inv X pins σ H {s with heap:=h'}:=I.turned (t':=s.toks) (λb o hb e=>(sb.2 b hb).trans e) f0 f1 f3 f4 f5
  obtain ⟨o,e,c,d⟩:=id st'
  exact ⟨u,rfl,aA (s:={s with heap:=h'}) e c d (by decide) ⟨x,H,I1,ru,⟨rfl,λys hy=>by rw [I.list_inj hy hq];exact hx⟩,st',λb hb=>(hf b hb).1⟩⟩
 done:=by
  intro X hP hw hK hc i pins s σ H E I hf st hg
  subst hP hw hK
  obtain ⟨xs,hq,hx⟩:=hg
  obtain ⟨its,rv,p,hz⟩:=I.list hq
  obtain ⟨f0,f1,f2,f3,f4,f5⟩:=hf it (by simp)
  have hl:=rv.length
  exact wpAny_pyNext_list_end (I.ok.hd hc) st p.isList (by simp;omega) λh' eb=>⟨rfl,I.turned (t':=s.toks) (λb o hb e=>eb b o hb e) f0 f1 f3 f4 f5⟩
 self:=λ_ _ _ _ _ st h=>wpAny_pyIter_listiter st h
theorem WU {P:Program} {w:World} {K:PySem.W.Frag} {tg:Expr} (a it:Addr):Js P w K tg (pN K a) [it] it (λi h=>h.IsTupleIter it a i) where
 mem:=by simp
 obj:=λi h st b hb=>by
  have e:b=it:=by simpa using hb
  subst e
  obtain ⟨o,e,c,d⟩:=st
  exact ⟨o,e,λv z=>by rw [d] at z;cases z⟩
 keep:=λi h h' st k=>st.at λo e=>k it (by simp) o e
 item:=by
  intro X hP hw hK hc i pins s σ H E I hf st hg
  subst hP hw hK
  obtain ⟨xs,x,hq,hx⟩:=hg
  obtain ⟨its,rv,p,hz⟩:=I.tuple hq
  obtain ⟨u,hu,ru⟩:=rv.get hx
  obtain ⟨f0,f1,f2,f3,f4,f5⟩:=hf it (by simp)
  refine wpAny_pyNext_tuple_item st (show s.heap.IsTuple a its.toArray from p) (x:=u) (by simpa using hu) λh' st' sb=> ?_
  have I1:Inv X pins σ H {s with heap:=h'}:=I.turned (t':=s.toks) (λb o hb e=>(sb.2 b hb).trans e) f0 f1 f3 f4 f5
  obtain ⟨o,e,c,d⟩:=id st'
  exact ⟨u,rfl,aA (s:={s with heap:=h'}) e c d (by decide) ⟨x,H,I1,ru,⟨rfl,λys hy=>by rw [I.tuple_inj hy hq];exact hx⟩,st',λb hb=>(hf b hb).1⟩⟩
 done:=by
  intro X hP hw hK hc i pins s σ H E I hf st hg
  subst hP hw hK
  obtain ⟨xs,hq,hx⟩:=hg
  obtain ⟨its,rv,p,hz⟩:=I.tuple hq
  obtain ⟨f0,f1,f2,f3,f4,f5⟩:=hf it (by simp)
  have hl:=rv.length
  exact wpAny_pyNext_tuple_end (I.ok.hd hc) st (show s.heap.IsTuple a its.toArray from p) (by simp;omega) λh' eb=>⟨rfl,I.turned (t':=s.toks) (λb o hb e=>eb b o hb e) f0 f1 f3 f4 f5⟩
 self:=λ_ _ _ _ _ st h=>wpAny_pyIter_tupleiter st h
theorem WT {P:Program} {w:World} {K:PySem.W.Frag} {tg:Expr} (it:Addr) (lo:Int) (n:Nat):Js P w K tg (lb lo n) [it] it (λi h=>IsRangeIter h it (lo+(i:Nat)*1) ((n:Int)-(i:Nat)) 1) where
 mem:=by simp
 obj:=λi h st b hb=>by
  have e:b=it:=by simpa using hb
  subst e
  exact ⟨_,st,λv z=>by
   have z':Data.fields _=Data.cell v:=z
   cases z'⟩
 keep:=λi h h' st k=>k it (by simp) _ st
 item:=by
  intro X hP hw hK hc i pins s σ H E I hf st hg
  subst hP hw hK
  obtain ⟨f0,f1,f2,f3,f4,f5⟩:=hf it (by simp)
  have W:=Walks.range (prog:=X.prog) (w:=X.w) (I.ok.hd hc) it lo 1 n
  refine W.item i s _ _ hg st λv h' tk hv st' kk=> ?_
  obtain ⟨t,rfl⟩:=hv
  have I1:Inv X pins σ H {s with heap:=h',toks:=tk}:=I.turned (λb o hb e=>kk b o (by simpa using hb) e) f0 f1 f3 f4 f5
  refine ⟨_,rfl,aA (s:={s with heap:=h',toks:=tk}) (n:="range_iterator") st' rfl rfl (by decide) ⟨.int (lo+i),H,I1,⟨t, ?_⟩,⟨rfl,rfl⟩,st',λb hb=>(hf b hb).1⟩⟩
  rw [Int.mul_one]
 done:=by
  intro X hP hw hK hc i pins s σ H E I hf st hg
  subst hP hw hK
  obtain ⟨f0,f1,f2,f3,f4,f5⟩:=hf it (by simp)
  exact wpAny_pyNext_range_end (I.ok.hd hc) st (by have:n<=i:=hg;omega) λh' eb=>⟨rfl,I.turned (t':=s.toks) (λb o hb e=>eb b o hb e) f0 f1 f3 f4 f5⟩
 self:=λ_ _ _ _ _ st h=>wpAny_pyIter_rangeiter st h
end L2
namespace L2
open PySem PySem.Spec PyProof.Rows
section
variable {X:Cx} {tg:Expr}
theorem Ue {pins:List (Addr×Obj)} {σ:St} {H:Hp} {s:Shared} {R:It->Hp->Prop} {E:Value->Shared->Prop} {lo hi:Int} {t u v:Tok} {tk:Nat} (I:Inv X pins σ H s) (h1: -(2^62)<=lo) (h2:lo<2^62) (h3: -(2^62)<=hi) (h4:hi<2^62)
 (q:R (lb lo (hi-lo).toNat) H):wpAny (model X.prog X.w) X.A (pyIter (.ref s.heap.objs.size)) (sU X pins σ tg R) E {s with heap:=s.heap.push {cls:= .type "range",data:= .fields #[.int lo t, .int hi u, .int 1 v] },toks:=tk}:=by
 refine wpAny_pyIter_range (IsRange.new ..) (small_one h1 h2 h3 h4) ?_
 have I1:Inv X pins σ H {s with heap:=s.heap.push {cls:= .type "range",data:= .fields #[.int lo t, .int hi u, .int 1 v] },toks:=tk}:=I.kept λb o e=>Heap.get?_push_of_some _ e
 refine ⟨(s.heap.push {cls:= .type "range",data:= .fields #[.int lo t, .int hi u, .int 1 v] }).objs.size, [(s.heap.push {cls:= .type "range",data:= .fields #[.int lo t, .int hi u, .int 1 v] }).objs.size],_,_,H,rfl,
  I1.kept (t':=tk) λb o e=>Heap.get?_push_of_some _ e,WT _ lo (hi-lo).toNat, ?_,λb hb=> ?_,q⟩
 ·have e1:lo+((0:Nat):Int)*1=lo:=by simp
  have e2:(((hi-lo).toNat:Nat):Int)-((0:Nat):Int)=Builtin.Range.rangeSize lo hi 1:=by rw [rangeSize_one];split <;> omega
  show IsRangeIter _ _ (lo+((0:Nat):Int)*1) ((((hi-lo).toNat:Nat):Int)-((0:Nat):Int)) 1
  rw [e1,e2]
  exact Heap.get?_push_size _ rfl
 ·have e:b=(s.heap.push {cls:= .type "range",data:= .fields #[.int lo t, .int hi u, .int 1 v] }).objs.size:=by simpa using hb
  subst e
  exact I1.fpOk (Nat.le_refl _) (I1.hok.fresh (Nat.le_refl _))
def mW (ta:TA):TI:=λσ H R=>ta σ H λvs H1=>∃j:Int,vs= [.int j] /\ -(2^62)<=j/\j<2^62/\R (lb 0 j.toNat) H1
def mX (ta:TA):TI:=λσ H R=>ta σ H λvs H1=>∃i j:Int,vs= [.int i, .int j] /\(-(2^62)<=i/\i<2^62/\ -(2^62)<=j/\j<2^62)/\R (lb i (j-i).toNat) H1
theorem Yi {a:Expr} {ta:TA} {p pos:Pos} (hg:Gl X "range") (hm:X.mg "range" =none) (ha:PA X [a] ta) (hs:starEach [a] X.env= [(false,eval a X.env)] :=by rfl):PI X tg (.Call (.Name "range" p) [a] [] pos) (mW ta):=by
 intro pins s σ H R I h
 refine Call_ (GL I hg hm boot_range (PyProof.Rows.callWith_type1 (Bg (ha pos pins s σ H _ I h) λus s1 ⟨vs,H1,I1,r1,q1⟩=> ?_) hs rfl))
 obtain ⟨j,e,q1,q2,q⟩:=q1
 subst e
 cases r1 with
 | cons r rr=>
   cases rr
   obtain ⟨t,rfl⟩:=r
   exact call_range_1 (Ue I1 (by omega) (by omega) q1 q2 (by simpa using q))
theorem Yj {a b:Expr} {ta:TA} {p pos:Pos} (hg:Gl X "range") (hm:X.mg "range" =none) (ha:PA X [a,b] ta) (hs:starEach [a,b] X.env= [(false,eval a X.env),(false,eval b X.env)] :=by rfl) (S6:starEach [b] X.env= [(false,eval b X.env)] :=by rfl):
 PI X tg (.Call (.Name "range" p) [a,b] [] pos) (mX ta):=by
 intro pins s σ H R I h
 refine Call_ (GL I hg hm boot_range (PyProof.Rows.callWith_type1 (Bg (ha pos pins s σ H _ I h) λus s1 ⟨vs,H1,I1,r1,q1⟩=> ?_) (by rw [hs,S6]) (by rw [S6];rfl)))
 obtain ⟨i,j,e,⟨q1,q2,q3,q4⟩,q⟩:=q1
 subst e
 cases r1 with
 | cons r rr=>
   cases rr with
   | cons r' rr=>
     cases rr
     obtain ⟨t,rfl⟩:=r
     obtain ⟨t',rfl⟩:=r'
     exact call_range_2 (Ue I1 q1 q2 q3 q4 q)
def oC (wi:TI) (g:TG) (tb:TS):TS:=λD σ H=>wi σ H λJ H1=>∃W:Nat->Nat->St->Hp->Prop,(∃m,W 0 m σ H1)/\∀i m σ H,W i m σ H->
 (J.stop i H/\D.nx σ H)\/(J.go i H/\∃N:St->Hp->Prop,(∀σ' H',N σ' H'->∃m',m'<m/\W (i+1) m' σ' H')/\∀x H',J.yld i H x H'->g x σ H' λσ2 H2=>tb {D with nx:=N,ct:=N,bk:=D.nx} σ2 H2)
def Ff (fp:List Addr) (h:Heap):List (Addr×Obj):=fp.filterMap λb=>(h.get? b).map λo=>(b,o)
theorem B7 {fp:List Addr} {h:Heap} {b:Addr} {o:Obj} (hb:b∈fp) (e:h.get? b=some o):(b,o)∈Ff fp h:=List.mem_filterMap.mpr ⟨b,hb,by rw [e];rfl⟩
theorem Ya {fp:List Addr} {h:Heap} {p:Addr×Obj} (hp:p∈Ff fp h):p.1∈fp/\h.get? p.1=some p.2:=by
 obtain ⟨b,hb,e⟩:=List.mem_filterMap.mp hp
 cases q:h.get? b with
 | none=>rw [q] at e;cases e
 | some o=>
   rw [q] at e
   have e':(b,o)=p:=Option.some.inj e
   subst e'
   exact ⟨hb,q⟩
theorem Inv.pinned {pins:List (Addr×Obj)} {σ:St} {H:Hp} {s:Shared} {fp:List Addr} (I:Inv X pins σ H s) (hf:∀b∈fp,D7 X pins H b) (ho:∀b∈fp,∃o,s.heap.get? b=some o/\∀v,o.data≠ .cell v):Inv X (pins++Ff fp s.heap) σ H s:=
 I.pins_of λp hp=>(List.mem_append.mp hp).elim (λz=>I.pin p (List.mem_append_right _ z)) λz=>by
   obtain ⟨hb,e⟩:=Ya z
   obtain ⟨f0,f1,f2,_⟩:=hf p.1 hb
   obtain ⟨o,e',d⟩:=ho p.1 hb
   rw [e] at e';cases e'
   exact ⟨e,f0,f1,f2,d⟩
theorem Inv.unpinned {pins pl:List (Addr×Obj)} {σ:St} {H:Hp} {s:Shared} (I:Inv X (pins++pl) σ H s):Inv X pins σ H s:=I.pins_of λp hp=>I.pin p (List.mem_append_right _ (List.mem_append_left _ hp))
theorem bK {iter:Expr} {body:List Stmt} {wi:TI} {g:TG} {tb:TS} {pos:Pos} (hp:PassesOwn (model X.prog X.w) X.A X.env X.xe) (hc:X.calm=true) (hi:PI X tg iter wi) (hg:PG X tg g) (hb:Wc X body tb)
 (hs:∀x,foldedSetIterable iter X.env x=pure x:=by intro _;rfl):PS X (.For tg iter body [] pos) (oC wi g tb):=by
 intro pins s σ H D I h
 refine wpAny_For (Bg (hi pins s σ H _ I h) λv s1 h1=>Bg h1 λitv s2 h2=> ?_) hs
 obtain ⟨it,fp,tn,J,H2,e,I2,T,st2,f2,W,⟨m0,w0⟩,turn⟩:=h2
 subst e
 have stat:∀{H':Hp},(∀b∈fp,H' b=none)->∀b∈fp,D7 X pins H' b:=λhn b hb=>⟨hn b hb,(f2 b hb).2⟩
 refine codeAny_forLoop_any (λn s'=>∃i σ' H',Inv X pins σ' H' s'/\tn i s'.heap/\(∀b∈fp,H' b=none)/\W i n σ' H') ?_ m0 ⟨0,σ,H2,I2,st2,λb hb=>(f2 b hb).1,w0⟩
 rintro n s3 ⟨i,σ3,H3,I3,st3,fr3,w3⟩
 rcases turn i n σ3 H3 w3 with ⟨stop,qn⟩|⟨go,N,hN,step⟩
 ·refine wpAny_passesOwn hp (Bg (T.done X rfl rfl rfl hc i pins s3 σ3 H3 X.xe I3 (stat fr3) st3 stop) λr s4 ⟨hr,I4⟩=> ?_)
  subst hr
  exact wpAny_execs_nil ⟨σ3,H3,I4,qn⟩
 ·refine wpAny_passesOwn hp (Bg (T.item X rfl rfl rfl hc i pins s3 σ3 H3 X.xe I3 (stat fr3) st3 go) λr s4 ⟨u,hr,h4⟩=> ?_)
  subst hr
  refine wpAny_passesOwn hp (Bg h4 λ_ s5 ⟨x,H5,I5,r5,y5,st5,fr5⟩=> ?_)
  have I5':=I5.pinned (stat fr5) (T.obj _ _ st5)
  refine wpAny_passesOwn hp (Bg (hg _ s5 σ3 H5 x u _ I5' r5 (step x H5 y5)) λ_ s6 ⟨σ6,H6,I6,q6⟩=> ?_)
  refine wpAny_passesOwn hp (Bg (hb _ s6 σ6 H6 _ I6 q6) λf s7 q7=> ?_)
  have again:∀{σ7:St} {H7:Hp},Inv X (pins++Ff fp s5.heap) σ7 H7 s7->N σ7 H7->∃m,m<n/\∃i σ' H',Inv X pins σ' H' s7/\tn i s7.heap/\(∀b∈fp,H' b=none)/\W i m σ' H':=λ{σ7 H7} I7 n7=>by
   obtain ⟨m',hm,w7⟩:=hN σ7 H7 n7
   refine ⟨m',hm,i+1,σ7,H7,I7.unpinned,T.keep _ _ _ st5 λb hb o e=>(I7.pin (b,o) (List.mem_append_right _ (List.mem_append_right _ (B7 hb e)))).1,λb hb=> ?_,w7⟩
   obtain ⟨o,e,d⟩:=T.obj _ _ st5 b hb
   exact (I7.pin (b,o) (List.mem_append_right _ (List.mem_append_right _ (B7 hb e)))).2.1
  cases f with
  | next=>obtain ⟨σ7,H7,I7,n7⟩:=q7;exact again I7 n7
  | cont=>obtain ⟨σ7,H7,I7,n7⟩:=q7;exact again I7 n7
  | brk=>obtain ⟨σ7,H7,I7,q7⟩:=q7;exact ⟨σ7,H7,I7.unpinned,q7⟩
  | ret v=>obtain ⟨x7,σ7,H7,I7,r7,q7⟩:=q7;exact ⟨x7,σ7,H7,I7.unpinned,r7,q7⟩
end
end L2
namespace L2
open PySem PySem.Spec PyProof.Rows
abbrev R2:=V->V->Hp->VK->Prop
def Eo (X:Cx) (f:Value->Value->Sem Value) (r:R2):Prop:=
 ∀(pins:List (Addr×Obj)) (s:Shared) (σ:St) (H:Hp) (x y:V) (v u:Value) (Q:VK),Inv X pins σ H s->RelV x v->RelV y u->r x y H Q->
  wpAny (model X.prog X.w) X.A (f v u) (EP X pins σ Q) X.xe s
def pU (X:Cx) (f:Value->Sem Value) (r:V->Hp->VK->Prop):Prop:=
 ∀(pins:List (Addr×Obj)) (s:Shared) (σ:St) (H:Hp) (x:V) (v:Value) (Q:VK),Inv X pins σ H s->RelV x v->r x H Q->
  wpAny (model X.prog X.w) X.A (f v) (EP X pins σ Q) X.xe s
def CH (X:Cx) (f:Value) (r:List V->Hp->VK->Prop):Prop:=
 ∀(pins:List (Addr×Obj)) (s:Shared) (σ:St) (H:Hp) (xs:List V) (us:List Value) (Q:VK),Inv X pins σ H s->Ax xs us->r xs H Q->
  wpAny (model X.prog X.w) X.A (call f us) (EP X pins σ Q) X.xe s
def pT (X:Cx) (r:V->Hp->(Bool->Hp->Prop)->Prop):Prop:=
 ∀(pins:List (Addr×Obj)) (s:Shared) (σ:St) (H:Hp) (x:V) (v:Value) (Q:Bool->Hp->Prop),Inv X pins σ H s->RelV x v->r x H Q->
  wpAny (model X.prog X.w) X.A (truthy v) (TP X pins σ Q) X.xe s
def gE (r:R2) (ta tb:TE):TE:=λσ H Q=>ta σ H λx H1=>tb σ H1 λy H2=>r x y H2 Q
def wu (r:V->Hp->VK->Prop) (ta:TE):TE:=λσ H Q=>ta σ H λx H1=>r x H1 Q
def rI (C:Int->Int->Prop) (g:Int->Int->V):R2:=λx y H Q=>∃i j,x= .int i/\y= .int j/\C i j/\Q (g i j) H
def Qe (g:Int->Int->V):R2:=λx y H Q=>∃i j,x= .int i/\y= .int j/\Q (g i j) H
def rU (g:Int->V):V->Hp->VK->Prop:=λx H Q=>∃i,x= .int i/\Q (g i) H
section
variable {X:Cx} {a b c:Expr} {ta tb tc:TE} {pos:Pos}
theorem ib (ha:PE X a ta) (hb:PE X b tb) {pins:List (Addr×Obj)} {s:Shared} {σ:St} {H:Hp} {R:V->V->Hp->Prop} (I:Inv X pins σ H s)
 (h:ta σ H λx H1=>tb σ H1 λy H2=>R x y H2) {Q:Value->Shared->Prop} {f:Value->Value->Sem Value}
 (hf:∀v u s2 x y H2,Inv X pins σ H2 s2->RelV x v->RelV y u->R x y H2->wpAny (model X.prog X.w) X.A (f v u) Q X.xe s2):
 wpAny (model X.prog X.w) X.A (eval a X.env) (λv s₁=>wpAny (model X.prog X.w) X.A (eval b X.env) (λu s₂=>wpAny (model X.prog X.w) X.A (f v u) Q X.xe s₂) X.xe s₁) X.xe s:=by
 refine Bg (ha pins s σ H _ I h) λv s1 ⟨x,H1,I1,r1,q1⟩=> ?_
 refine Bg (hb pins s1 σ H1 _ I1 q1) λu s2 ⟨y,H2,I2,r2,q2⟩=> ?_
 exact hf v u s2 x y H2 I2 r1 r2 q2
theorem CL {op:Operator} {r:R2} (ho:Eo X (binaryOp op) r) (ha:PE X a ta) (hb:PE X b tb):PE X (.BinOp a op b pos) (gE r ta tb):=by
 intro pins s σ H Q I h
 exact wpAny_BinOp (ib ha hb I h λv u s2 x y H2 I2 rx ry q=>ho pins s2 σ H2 x y v u Q I2 rx ry q)
theorem nM {op:UnaryOp} {r:V->Hp->VK->Prop} (ho:pU X (unaryOp op) r) (ha:PE X a ta):PE X (.UnaryOp op a pos) (wu r ta):=by
 intro pins s σ H Q I h
 exact UnaryOp_ (Bg (ha pins s σ H _ I h) λv s1 ⟨x,H1,I1,r1,q1⟩=>ho pins s1 σ H1 x v Q I1 r1 q1)
theorem jl {f:Value->Value->Sem Value} {C:Int->Int->Prop} {g:Int->Int->Int}
 (rule:∀(i j:Int) (t u:Tok) (s:Shared) (Q:Value->Shared->Prop) (E:Value->Shared->Prop),C i j->Q (.int (g i j) s.toks) {s with toks:=s.toks+1}->wpAny (model X.prog X.w) X.A (f (.int i t) (.int j u)) Q E s):
 Eo X f (rI C λi j=> .int (g i j)):=by
 intro pins s σ H x y v u Q I rx ry h
 obtain ⟨i,j,rfl,rfl,hc,q⟩:=h
 obtain ⟨t,rfl⟩:=rx
 obtain ⟨t',rfl⟩:=ry
 exact rule i j t t' s _ _ hc ⟨.int (g i j),H,I.tok _,⟨_,rfl⟩,q⟩
theorem nF {f:Value->Value->Sem Value} {g:Int->Int->Int}
 (rule:∀(i j:Int) (t u:Tok) (s:Shared) (Q:Value->Shared->Prop) (E:Value->Shared->Prop),Q (.int (g i j) s.toks) {s with toks:=s.toks+1}->wpAny (model X.prog X.w) X.A (f (.int i t) (.int j u)) Q E s):
 Eo X f (Qe λi j=> .int (g i j)):=by
 intro pins s σ H x y v u Q I rx ry h
 obtain ⟨i,j,rfl,rfl,q⟩:=h
 obtain ⟨t,rfl⟩:=rx
 obtain ⟨t',rfl⟩:=ry
 exact rule i j t t' s _ _ ⟨.int (g i j),H,I.tok _,⟨_,rfl⟩,q⟩
theorem jj {f:Value->Value->Sem Value} {g:Int->Int->Bool}
 (rule:∀(i j:Int) (t u:Tok) (s:Shared) (Q:Value->Shared->Prop) (E:Value->Shared->Prop),Q (.bool (g i j)) s->wpAny (model X.prog X.w) X.A (f (.int i t) (.int j u)) Q E s):
 Eo X f (Qe λi j=> .bl (g i j)):=by
 intro pins s σ H x y v u Q I rx ry h
 obtain ⟨i,j,rfl,rfl,q⟩:=h
 obtain ⟨t,rfl⟩:=rx
 obtain ⟨t',rfl⟩:=ry
 exact rule i j t t' s _ _ ⟨.bl (g i j),H,I,rfl,q⟩
def c7 (i j:Int):Prop:=0<=j/\j<=1000000/\i.natAbs<2^64
def Nn (i j:Int):Prop:=(-(2^64)<i/\i<2^64)\/(-(2^64)<j/\j<2^64)
theorem Nn.ok {i j:Int} (h:Nn i j):IntMulOk i j:=by
 rcases h with ⟨h1,h2⟩|⟨h1,h2⟩
 ·exact .of_left (intBits_le_64 h1 h2)
 ·exact .of_right (intBits_le_64 h1 h2)
theorem JN:Eo X (binaryOp .Add) (Qe λi j=> .int (i+j)):=nF λ_ _ _ _ _ _ _ q=>add_int q
theorem V8:Eo X (binaryOp .Sub) (Qe λi j=> .int (i-j)):=nF λ_ _ _ _ _ _ _ q=>sub_int q
theorem GO:Eo X (binaryOp .Mod) (rI (λ_ j=>0<j) λi j=> .int (i % j)):=jl λi j _ _ _ _ _ hc q=>by
 have h1:(0:Int)<j:=hc
 exact mod_int' (by omega) (by rw [Int.fmod_eq_emod_of_nonneg i (by omega)];exact q)
theorem e7:Eo X (binaryOp .Mod) (rI (λ_ j=>j≠0) λi j=> .int (i.fmod j)):=jl λ_ _ _ _ _ _ _ hc q=>mod_int' hc q
theorem aw:Eo X (binaryOp .Pow) (rI c7 λi j=> .int (i^j.toNat)):=jl λ_ _ _ _ _ _ _ hc q=>pow_int_small hc.1 hc.2.1 hc.2.2 q
theorem ww {f:Value->Sem Value} {g:Int->Int}
 (rule:∀(i:Int) (t:Tok) (s:Shared) (Q:Value->Shared->Prop) (E:Value->Shared->Prop),Q (.int (g i) s.toks) {s with toks:=s.toks+1}->wpAny (model X.prog X.w) X.A (f (.int i t)) Q E s):
 pU X f (rU λi=> .int (g i)):=by
 intro pins s σ H x v Q I rx h
 obtain ⟨i,rfl,q⟩:=h
 obtain ⟨t,rfl⟩:=rx
 exact rule i t s _ _ ⟨.int (g i),H,I.tok _,⟨_,rfl⟩,q⟩
theorem kY:pU X (unaryOp .USub) (rU λi=> .int (-i)):=ww λ_ _ _ _ _ q=>neg_int q
end
def fX:V->V->Bool
 | .non, .non=>true | .non, .int _=>true | .int _, .non=>true | .non, .bl _=>true | .bl _, .non=>true | .non, .str _=>true | .str _, .non=>true
 | .int _, .int _=>true | .bl _, .bl _=>true | .str _, .str _=>true | .byt _, .byt _=>true
 | .int _, .str _=>true | .str _, .int _=>true | .bl _, .str _=>true | .str _, .bl _=>true
 | _,_=>false
def tj:R2:=λx y H Q=>fX x y=true/\Q (.bl (decide (x=y))) H
def tq:R2:=λx y H Q=>fX x y=true/\Q (.bl (!decide (x=y))) H
theorem Ws {i j:Int}:decide (V.int i=V.int j)=(i==j):=by
 rw [Bool.eq_iff_iff]
 simp
theorem Zx {i j:Bool}:decide (V.bl i=V.bl j)=(i==j):=by
 rw [Bool.eq_iff_iff]
 simp
theorem Wt {i j:Str}:decide (V.str i=V.str j)=(i==j):=by
 rw [Bool.eq_iff_iff]
 simp
theorem Wr {i j:Array UInt8}:decide (V.byt i=V.byt j)=(i.toList==j.toList):=by
 rw [Bool.eq_iff_iff]
 cases i
 cases j
 simp
section
variable {X:Cx} {a b c:Expr} {ta tb tc:TE} {pos:Pos}
theorem BK {pins:List (Addr×Obj)} {σ:St} {H:Hp} {s:Shared} {Q:VK} {k k':Bool} (I:Inv X pins σ H s) (q:Q (.bl k) H) (e:k=k'):EP X pins σ Q (.bool k') s:=by
 subst e
 exact ⟨.bl k,H,I,rfl,q⟩
theorem nG:Eo X (compareOp .Eq) tj:=by
 intro pins s σ H x y v u Q I rx ry h
 obtain ⟨hs,q⟩:=h
 cases x with
 | non=>
   cases rx
   cases y with
   | non=>cases ry;exact PySem.EqNone.eq_none_none (BK I q (by simp))
   | bl j=>cases ry;exact PySem.EqNone.eq_none_bool (BK I q (by simp))
   | int j=>obtain ⟨t',rfl⟩:=ry;exact PySem.EqNone.eq_none_int (BK I q (by simp))
   | str j=>obtain ⟨t',rfl⟩:=ry;exact PySem.EqNone.eq_none_str (BK I q (by simp))
   | _=>exact absurd (show false=true from hs) Bool.false_ne_true
 | bl i=>
   cases rx
   cases y with
   | non=>cases ry;exact PySem.EqNone.eq_bool_none (BK I q (by simp))
   | bl j=>cases ry;exact eq_bool (BK I q Zx)
   | str j=>obtain ⟨t',rfl⟩:=ry;exact PySem.EqMixed.eq_bool_str (BK I q (by simp))
   | _=>exact absurd (show false=true from hs) Bool.false_ne_true
 | int i=>
   obtain ⟨t,rfl⟩:=rx
   cases y with
   | non=>cases ry;exact PySem.EqNone.eq_int_none (BK I q (by simp))
   | int j=>obtain ⟨t',rfl⟩:=ry;exact eq_int (BK I q Ws)
   | str j=>obtain ⟨t',rfl⟩:=ry;exact PySem.EqMixed.eq_int_str (BK I q (by simp))
   | _=>exact absurd (show false=true from hs) Bool.false_ne_true
 | str i=>
   obtain ⟨t,rfl⟩:=rx
   cases y with
   | non=>cases ry;exact PySem.EqNone.eq_str_none (BK I q (by simp))
   | bl j=>cases ry;exact PySem.EqMixed.eq_str_bool (BK I q (by simp))
   | int j=>obtain ⟨t',rfl⟩:=ry;exact PySem.EqMixed.eq_str_int (BK I q (by simp))
   | str j=>obtain ⟨t',rfl⟩:=ry;exact eq_str (BK I q Wt)
   | _=>exact absurd (show false=true from hs) Bool.false_ne_true
 | byt i=>
   obtain ⟨t,rfl⟩:=rx
   cases y with
   | byt j=>obtain ⟨t',rfl⟩:=ry;exact PySem.W.eq_bytes (BK I q Wr)
   | _=>exact absurd (show false=true from hs) Bool.false_ne_true
 | _=>cases y <;> exact absurd (show false=true from hs) Bool.false_ne_true
theorem nH:Eo X (compareOp .NotEq) tq:=by
 intro pins s σ H x y v u Q I rx ry h
 obtain ⟨hs,q⟩:=h
 cases x with
 | non=>
   cases rx
   cases y with
   | non=>cases ry;exact PySem.EqNone.ne_none_none (BK I q (by simp))
   | bl j=>cases ry;exact PySem.EqNone.ne_none_bool (BK I q (by simp))
   | int j=>obtain ⟨t',rfl⟩:=ry;exact PySem.EqNone.ne_none_int (BK I q (by simp))
   | str j=>obtain ⟨t',rfl⟩:=ry;exact PySem.EqNone.ne_none_str (BK I q (by simp))
   | _=>exact absurd (show false=true from hs) Bool.false_ne_true
 | bl i=>
   cases rx
   cases y with
   | non=>cases ry;exact PySem.EqNone.ne_bool_none (BK I q (by simp))
   | bl j=>cases ry;exact ne_bool (BK I q (congrArg not Zx))
   | str j=>obtain ⟨t',rfl⟩:=ry;exact PySem.EqMixed.ne_bool_str (BK I q (by simp))
   | _=>exact absurd (show false=true from hs) Bool.false_ne_true
 | int i=>
   obtain ⟨t,rfl⟩:=rx
   cases y with
   | non=>cases ry;exact PySem.EqNone.ne_int_none (BK I q (by simp))
   | int j=>obtain ⟨t',rfl⟩:=ry;exact ne_int (BK I q (congrArg not Ws))
   | str j=>obtain ⟨t',rfl⟩:=ry;exact PySem.EqMixed.ne_int_str (BK I q (by simp))
   | _=>exact absurd (show false=true from hs) Bool.false_ne_true
 | str i=>
   obtain ⟨t,rfl⟩:=rx
   cases y with
   | non=>cases ry;exact PySem.EqNone.ne_str_none (BK I q (by simp))
   | bl j=>cases ry;exact PySem.EqMixed.ne_str_bool (BK I q (by simp))
   | int j=>obtain ⟨t',rfl⟩:=ry;exact PySem.EqMixed.ne_str_int (BK I q (by simp))
   | str j=>obtain ⟨t',rfl⟩:=ry;exact ne_str (BK I q (congrArg not Wt))
   | _=>exact absurd (show false=true from hs) Bool.false_ne_true
 | byt i=>
   obtain ⟨t,rfl⟩:=rx
   cases y with
   | byt j=>obtain ⟨t',rfl⟩:=ry;exact PySem.W.ne_bytes (BK I q (congrArg not Wr))
   | _=>exact absurd (show false=true from hs) Bool.false_ne_true
 | _=>cases y <;> exact absurd (show false=true from hs) Bool.false_ne_true
theorem g9:Eo X (compareOp .Lt) (Qe λi j=> .bl (decide (i<j))):=jj λ_ _ _ _ _ _ _ q=>lt_int q
theorem g6:Eo X (compareOp .Gt) (Qe λi j=> .bl (decide (j<i))):=jj λ_ _ _ _ _ _ _ q=>gt_int q
theorem gz:Eo X (compareOp .GtE) (Qe λi j=> .bl (decide (j<=i))):=jj λ_ _ _ _ _ _ _ q=>ge_int q
theorem jo:Eo X (compareOp .Is) (λx y H Q=>y= .non/\Q (.bl (decide (x= .non))) H):=by
 intro pins s σ H x y v u Q I rx ry h
 obtain ⟨rfl,q⟩:=h
 cases ry
 refine is_none_gen (BK I q ?_)
 cases x <;> first
  | (cases rx;rfl)
  | (obtain ⟨t,rfl⟩:=rx;rfl)
theorem XG:Eo X (compareOp .IsNot) (λx y H Q=>y= .non/\Q (.bl (!decide (x= .non))) H):=by
 intro pins s σ H x y v u Q I rx ry h
 obtain ⟨rfl,q⟩:=h
 cases ry
 refine isnot_none_gen (BK I q ?_)
 cases x <;> first
  | (cases rx;rfl)
  | (obtain ⟨t,rfl⟩:=rx;rfl)
theorem Eo.or {f:Value->Value->Sem Value} {r r':R2} (h:Eo X f r) (h':Eo X f r'):Eo X f (λx y H Q=>r x y H Q\/r' x y H Q):=by
 intro pins s σ H x y v u Q I rx ry q
 rcases q with q|q
 ·exact h pins s σ H x y v u Q I rx ry q
 ·exact h' pins s σ H x y v u Q I rx ry q
theorem Cf (b:Expr) {op:CmpOp} (h:op≠ .In:=by decide) (h2:op≠ .NotIn:=by decide):behindInMarks op b=false:=by
 have e1:(op==CmpOp.In)=false:=by cases op <;> first | rfl|exact absurd rfl h
 have e2:(op==CmpOp.NotIn)=false:=by cases op <;> first | rfl|exact absurd rfl h2
 cases b <;> simp [behindInMarks,e1,e2]
theorem XH {op:CmpOp} {r:R2} (ho:Eo X (compareOp op) r) (ha:PE X a ta) (hb:PE X b tb) (hm:behindInMarks op b=false):PE X (.Compare a [op] [b] pos) (gE r ta tb):=by
 intro pins s σ H Q I h
 exact wpAny_Compare1 (ib ha hb I h λv u s2 x y H2 I2 rx ry q=>ho pins s2 σ H2 x y v u Q I2 rx ry q) hm
def cT (t:TE):TT:=λσ H Q=>t σ H λx H'=>∃k,x= .bl k/\Q k H'
theorem NF {op:CmpOp} {r:R2} (ho:Eo X (compareOp op) r) (ha:PE X a ta) (hb:PE X b tb) (hm:behindInMarks op b=false):PT X (.Compare a [op] [b] pos) (cT (gE r ta tb)):=by
 intro pins s σ H Q I h
 refine wpAny_isTrue_Compare1 (Bg (ha pins s σ H _ I h) λv s1 ⟨x,H1,I1,r1,q1⟩=>Bg (hb pins s1 σ H1 _ I1 q1) λu s2 ⟨y,H2,I2,r2,q2⟩=>
  Bg (ho pins s2 σ H2 x y v u _ I2 r1 r2 q2) λc s3 ⟨z,H3,I3,r3,k,e,q3⟩=> ?_) hm
 subst e
 cases r3
 exact wpAny_truthy_bool ⟨H3,I3,q3⟩
def lu (K:PySem.W.Frag) (x:V) (H:Hp) (k:Bool):Prop:=
 match x with
 | .non=>k=false
 | .bl b=>k=b
 | .int i=>k=(i != 0)
 | .str y=>y.length<=sizeLine/\k=((y.length:Int) != 0)
 | .byt y=>y.size<=sizeLine/\k=((y.size:Int) != 0)
 | .ref p=>(∃xs,F4 K H p xs/\k= !xs.isEmpty)\/(∃xs,Jr K H p xs/\k= !xs.isEmpty)\/∃kvs,H p=some (.dK kvs)/\k= !kvs.isEmpty
 | _=>False
theorem Vl {κ:Type} {kvs:List (κ×V)} {vs:List (κ×Value)} (r:KV kvs vs):(!vs.isEmpty)= !kvs.isEmpty:=by
 cases r <;> rfl
theorem OH {xs:List V} {its:List Value} (r:Ax xs its):(!its.toArray.isEmpty)= !xs.isEmpty:=by
 cases r <;> simp
theorem Lm:(sizeLine:Nat)<2^63:=by rw [sizeLine_eq];decide
theorem kT:pT X (λx H Q=>∃k,lu X.K x H k/\Q k H):=by
 intro pins s σ H x v Q I rx h
 obtain ⟨k,e,q⟩:=h
 have hl:=Lm
 have hs:sizeLine=16777216:=sizeLine_eq
 cases x with
 | non=>
   cases rx
   have e':k=false:=e
   subst e'
   exact truthy_none ⟨H,I,q⟩
 | bl b=>
   cases rx
   have e':k=b:=e
   subst e'
   exact wpAny_truthy_bool ⟨H,I,q⟩
 | int i=>
   obtain ⟨t,rfl⟩:=rx
   have e':k=(i != 0):=e
   subst e'
   exact PySem.P.truthy_int ⟨H,I,q⟩
 | str y=>
   obtain ⟨t,rfl⟩:=rx
   obtain ⟨hy,e'⟩:y.length<=sizeLine/\k=((y.length:Int) != 0):=e
   subst e'
   exact PySem.P.truthy_str (by omega) ⟨H,I.tok _,q⟩
 | byt y=>
   obtain ⟨t,rfl⟩:=rx
   obtain ⟨hy,e'⟩:y.size<=sizeLine/\k=((y.size:Int) != 0):=e
   subst e'
   exact PySem.W.truthy_bytes (by omega) ⟨H,I.tok _,q⟩
 | ref p=>
   cases rx
   have e':(∃xs,F4 X.K H p xs/\k= !xs.isEmpty)\/(∃xs,Jr X.K H p xs/\k= !xs.isEmpty)\/∃kvs,H p=some (.dK kvs)/\k= !kvs.isEmpty:=e
   rcases e' with ⟨xs,hx,e'⟩|⟨xs,hx,e'⟩|⟨kvs,hx,e'⟩
   ·subst e'
    obtain ⟨its,r,pl,hz⟩:=I.list hx
    have DH:=r.length
    exact wpAny_truthy_list pl.isList (by simp only [List.size_toArray];omega) ⟨H,I.tok _,by rw [OH r];exact q⟩
   ·subst e'
    obtain ⟨its,r,pl,hz⟩:=I.tuple hx
    have DH:=r.length
    exact truthy_tuple pl (by simp only [List.size_toArray];omega) ⟨H,I.tok _,by rw [OH r];exact q⟩
   ·subst e'
    obtain ⟨hz,hS,vs,r,m⟩:kvs.length<=sizeLine/\(p==sysModules)=false/\∃vs,KV kvs vs/\s.heap.DictOf (Rp X.prog X.w) p vs:=I.hok p _ hx
    have DH:kvs.length=vs.length:=Paired.length r
    exact wpAny_truthy_dict hS m (by omega) ⟨H,I.tok _,by rw [Vl r];exact q⟩
 | _=>exact (show False from e).elim
theorem bM (ha:PE X a ta) (he:∀whole,isTrue a X.env whole=(do let v <-whole;standAt a.pos;holding [v] (truthy v))):
 PT X a (λσ H Q=>ta σ H λx H'=>∃k,lu X.K x H' k/\Q k H'):=by
 intro pins s σ H Q I h
 exact isTrue_plain (Bg (ha pins s σ H _ I h) λv s1 ⟨x,H1,I1,r1,q1⟩=>kT pins s1 σ H1 x v Q I1 r1 q1) (he _)
theorem vals1 {x:V} {us:List Value} (r:Ax [x] us):∃u,us= [u] /\RelV x u:=by
 cases r with
 | cons r1 r2=>cases r2;exact ⟨_,rfl,r1⟩
theorem vals2 {x y:V} {us:List Value} (r:Ax [x,y] us):∃u w',us= [u,w'] /\RelV x u/\RelV y w':=by
 cases r with
 | cons r1 r2=>
   cases r2 with
   | cons r3 r4=>cases r4;exact ⟨_,_,rfl,r1,r3⟩
theorem N7:CH X (.builtin "abs") (λxs H Q=>∃i,xs= [.int i] /\Q (.int (if i<0 then -i else i)) H):=by
 intro pins s σ H xs us Q I r h
 obtain ⟨i,rfl,q⟩:=h
 obtain ⟨u,rfl,t,rfl⟩:=vals1 r
 exact call_abs_int λu tk=>⟨.int (if i<0 then -i else i),H,I.tok _,⟨_,rfl⟩,q⟩
theorem X3 (hc:X.calm=true):CH X (.builtin "min") (λxs H Q=>∃i j,xs= [.int i, .int j] /\Q (.int (if j<i then j else i)) H):=by
 intro pins s σ H xs us Q I r h
 obtain ⟨i,j,rfl,q⟩:=h
 obtain ⟨u,w',rfl,⟨t,rfl⟩,⟨t',rfl⟩⟩:=vals2 r
 refine min_two_ints (I.ok.hd hc) λh' tk k=>⟨_,H,I.kept k, ?_,q⟩
 by_cases hj:j<i
 ·rw [if_pos hj,if_pos hj];exact ⟨_,rfl⟩
 ·rw [if_neg hj,if_neg hj];exact ⟨_,rfl⟩
theorem QQ:CH X (.type "int") (λxs H Q=>(∃i,xs= [.int i] /\Q (.int i) H)\/∃k,xs= [.bl k] /\Q (.int (if k then 1 else 0)) H):=by
 intro pins s σ H xs us Q I r h
 rcases h with ⟨i,rfl,q⟩|⟨k,rfl,q⟩
 ·obtain ⟨u,rfl,t,rfl⟩:=vals1 r
  exact call_int_int ⟨.int i,H,I,⟨_,rfl⟩,q⟩
 ·obtain ⟨u,rfl,r1⟩:=vals1 r
  cases r1
  exact call_int_bool ⟨.int (if k then 1 else 0),H,I.tok _,⟨_,rfl⟩,q⟩
end
end L2
namespace L2
open PySem PySem.Spec PyProof.Rows
structure iP (h:Heap) (x dx C:Addr) (mA:Str->Option Value):Prop where
 obj:h.get? x=some (PySem.W.instObj C dx)
 ns:h.Ns1 dx mA
 ne:dx≠x
theorem YU {h:Heap} {dx:Addr} {mA:Str->Option Value} (n:h.Ns1 dx mA):∃od,h.get? dx=some od/\∀name,PySem.W.lookIn name od=some (mA name):=by
 obtain ⟨o,es,ep,ho,hd,hk,_,hm⟩:=n
 refine ⟨o,ho,λname=> ?_⟩
 have e:=hm name
 unfold nsFind findBy at e
 rw [<-Array.find?_toList] at e
 unfold PySem.W.lookIn
 rw [hd]
 dsimp only
 split
 ·rename_i y q
  rw [q] at e
  exact congrArg some e
 ·rename_i q
  rw [q] at e
  have a:es.toList.any (·.refKey)=false:=by
   rw [List.any_eq_false]
   intro y hy
   obtain ⟨z,t,qG⟩:=hk y (Array.mem_toList_iff.mp hy)
   simp [DictEntry.refKey,qG]
  have a':¬es.toList.any (·.refKey)=true:=by rw [a];exact Bool.false_ne_true
  rw [if_neg a']
  exact congrArg some e
theorem iP.look {h:Heap} {x dx C:Addr} {mA:Str->Option Value} (I:iP h x dx C mA):∃od,PySem.W.InstAt h x (PySem.W.instObj C dx) C (some od)/\∀name,PySem.W.lookIn name od=some (mA name):=
 let ⟨od,ho,hl⟩:=YU I.ns
 ⟨od,⟨I.obj,rfl,rfl,ho⟩,hl⟩
section
variable {prog:Program} {w:World} {A:Around} {E:Value->Shared->Prop} {s:Shared} {K:PySem.W.Frag} {x dx C f:Addr} {mA:Str->Option Value} {name:Str} {v:Value}
theorem GK {expr:Bool} {Q:Value->Shared->Prop} (X:K.In s.heap) (I:iP s.heap x dx C mA) (hg:PySem.W.plainGet K C name=true) (hh:PySem.W.hasDictIn K C=true)
 (ha:PySem.W.findIn K (.ref C) name=some none) (hv:mA name=some v) (mV:PySem.W.handedIn v=true) (h:Q v {s with toks:=s.toks+1}):
 wpAny (model prog w) A (getAttr (.ref x) name expr) Q E s:=by
 obtain ⟨od,J,hl⟩:=I.look
 exact PySem.W.get_value X J (PySem.W.plainGet_of hg).1 (PySem.W.findObj_own hh ha rfl (by rw [hl,hv])) mV h
end
theorem Jo.some_of {v:V} {o:Option Value} (r:Jo (some v) o):∃u,o=some u/\RelV v u:=by
 cases o with
 | none=>exact (show False from r).elim
 | some u=>exact ⟨u,rfl,r⟩
theorem Jo.none_of {o:Option Value} (r:Jo none o):o=none:=by
 cases o with
 | none=>rfl
 | some u=>exact (show False from r).elim
section
variable {P:Program} {w:World} {H H':Hp} {h h':Heap} {a C dx:Addr} {fs fs':List (Str×V)}
end
structure pK (K:PySem.W.Frag) (C:Addr):Prop where
 pg:PySem.W.plainGet K C Str.empty=true
 hd:PySem.W.hasDictIn K C=true
 po:PySem.W.plainOver K C=true
 sa:PySem.W.findIn K (.ref C) "__setattr__" =some (some (.builtin "object.__setattr__"))
theorem pK.get {K:PySem.W.Frag} {C:Addr} (c:pK K C) (f:Str):PySem.W.plainGet K C f=true:=c.pg
structure xO (K:PySem.W.Frag) (C:Addr) (f:Str) (v:V) (u:Value):Prop where
 at_:PySem.W.findIn K (.ref C) f=some (some u)
 rel:RelV v u
 get:PySem.W.specialIn K u "__get__" =some none
 cp:PySem.W.copiedNames.contains f=false
structure vi (K:PySem.W.Frag) (C:Addr) (m:Str) (f:Addr):Prop where
 at_:PySem.W.findIn K (.ref C) m=some (some (.ref f))
 fn:PySem.W.isFn K (.ref f)=true
 kp:PySem.W.keepIn K (.ref f)=true
section
variable {X:Cx} {pins:List (Addr×Obj)} {σ:St} {H:Hp} {s:Shared} {a C dx:Addr} {fs:List (Str×V)} {f:Str} {v:V} {A:Around} {E:Value->Shared->Prop}
theorem Inv.made (I:Inv X pins σ H s):Inv X pins σ (upd (upd H s.heap.objs.size (.own (s.heap.objs.size+1))) (s.heap.objs.size+1) (.ins C s.heap.objs.size []))
 {s with heap:=(s.heap.push PySem.W.emptyDict).push (PySem.W.instObj C s.heap.objs.size)}:=by
 have e1:(s.heap.push PySem.W.emptyDict).get? s.heap.objs.size=some PySem.W.emptyDict:=Heap.get?_push_size s.heap rfl
 have e2:((s.heap.push PySem.W.emptyDict).push (PySem.W.instObj C s.heap.objs.size)).get? (s.heap.objs.size+1)=some (PySem.W.instObj C s.heap.objs.size):=by
  have:=Heap.get?_push_size (s.heap.push PySem.W.emptyDict) (o:=PySem.W.instObj C s.heap.objs.size) rfl
  rwa [Heap.size_push] at this
 have e3:(s.heap.push PySem.W.emptyDict).Ns s.heap.objs.size (λ_=>none):=⟨PySem.W.emptyDict, #[],_,e1,rfl,(λe he=>absurd he (by simp)),λ_=>rfl⟩
 have I1:=I.laid (a:=s.heap.objs.size) (o:= .own (s.heap.objs.size+1)) (h':=s.heap.push PySem.W.emptyDict) (t':=s.toks) (λb u q=>Heap.get?_push_of_some _ q) (Nat.le_refl _) ⟨_,e1⟩
 refine I1.laid (a:=s.heap.objs.size+1) (o:= .ins C s.heap.objs.size []) (t':=s.toks) (λb u q=>Heap.get?_push_of_some _ q) (Nat.le_of_eq (Heap.size_push _ _)) ?_
 have ne:s.heap.objs.size≠s.heap.objs.size+1:=Nat.ne_of_lt (Nat.lt_succ_self _)
 refine ⟨by rw [Ah ne,Aj],Nat.zero_le _,ne,e2,λ_=>none,(Heap.Ns1.of_empty e3).at λo q=>Heap.get?_push_of_some _ q,λ_=>True.intro,λy hy=>absurd rfl hy⟩
end
section
variable {X:Cx} {o e value:Expr} {f:Str} {pos pos' tpos:Pos} {ta tv:TE}
end
section
variable {X:Cx} {pins:List (Addr×Obj)} {σ:St} {H:Hp} {s:Shared} {A:Around} {E:Value->Shared->Prop} {Q:Value->Shared->Prop} {c:Value} {b:Bool}
inductive N0 (K:PySem.W.Frag) (H:Hp):V->Value->Prop where
 | non:N0 K H .non (.type "NoneType")
 | bl (x:Bool):N0 K H (.bl x) (.type "bool")
 | int (i:Int):N0 K H (.int i) (.type "int")
 | str (x:Str):N0 K H (.str x) (.type "str")
 | flt (x:UInt64):N0 K H (.flt x) (.type "float")
 | lst {a:Addr} {xs:List V} (e:H a=some (.lst xs)):N0 K H (.ref a) (.type "list")
 | frz {a:Addr} {o:Obj} {xs:List V} (e:H a=some (.frz o (.lst xs))):N0 K H (.ref a) (.type "list")
 | tup {a:Addr} {xs:List V} (e:H a=some (.tup xs)):N0 K H (.ref a) (.type "tuple")
 | dK {a:Addr} {kvs:List (Fj×V)} (e:H a=some (.dK kvs)):N0 K H (.ref a) (.type "dict")
 | dT {a:Addr} {kvs:List (List Fj×V)} (e:H a=some (.dT kvs)):N0 K H (.ref a) (.type "dict")
 | ins {a C dx:Addr} {fs:List (Str×V)} (e:H a=some (.ins C dx fs)) (cl:pK K C) (ha:PySem.W.findIn K (.ref C) "__class__" =some (some (.builtin "object.__class__")))
    (hn:PySem.W.specialIn K (.builtin "object.__class__") "__get__" =some (some (.builtin "getset_descriptor.__get__"))) (xf:PySem.W.takesIn K (.builtin "object.__class__")=some true)
    (hm:PySem.W.mroIn K C (.type "object")=some true):N0 K H (.ref a) (.ref C)
end
end L2
namespace L2
open PySem PySem.Spec PyProof.Rows
structure Room (k:Nat) (A:Around):Prop where
 hd:A.handled=none
 dp:A.depth+3*k+5<recursionLimit
 un:A.units+16*k+200<cLine
 gd:A.guards=some []
theorem Room.mono {j k:Nat} {A:Around} (r:Room k A) (h:j<=k):Room j A:=⟨r.hd,by have:=r.dp;omega,by have:=r.un;omega,r.gd⟩
theorem Room.deeper {k:Nat} {A:Around} (r:Room (k+1) A) (env:Env):Room k (A.deeper env):=
 ⟨r.hd,by have:=r.dp;show A.depth+1+3*k+5<_;omega,by have:=r.un;show A.units+3+16*k+200<_;omega,r.gd⟩
theorem Room.in1 {k:Nat} {A:Around} (r:Room (k+1) A):Room k A.in1:=
 ⟨r.hd,by have:=r.dp;show A.depth+3*k+5<_;omega,by have:=r.un;show A.units+1+16*k+200<_;omega,r.gd⟩
theorem Vq {A:Around} {C:Addr} {us:List Value} {kw:List (Str×Value)}:(A.under (.builtin "type.__call__" ⟨.ref C::us,kw⟩)).depth=A.depth+1:=by
 first | rfl|simp [Around.under,Code.weight,Code.isCreation,Code.isGuard,Code.isCaller,Code.frames,Code.isFrame,guardIds]
theorem Vr {A:Around} {C:Addr} {us:List Value} {kw:List (Str×Value)}:(A.under (.builtin "type.__call__" ⟨.ref C::us,kw⟩)).units=A.units+1:=by
 first | rfl|simp [Around.under,Code.cUnits,Code.frames,Code.isFrame]
theorem Room.make {k:Nat} {A:Around} (r:Room (k+1) A) (C:Addr) (us:List Value) (kw:List (Str×Value)):Room k (A.under (.builtin "type.__call__" ⟨.ref C::us,kw⟩)):=
 ⟨r.hd,by have:=r.dp;rw [Vq];omega,by have:=r.un;rw [Vr];omega,by first | exact r.gd|simpa [Around.under,pushGuards,Code.guards,Code.isGuard,guardIds] using r.gd⟩
theorem Room.depth {k:Nat} {A:Around} (r:Room k A):A.depth<recursionLimit:=by have:=r.dp;omega
theorem Room.units {k:Nat} {A:Around} (r:Room k A):A.units+64<cLine:=by have:=r.un;omega
def gC:TA:=λ_ H Q=>Q [] H
def O3 (ta:TE) (tr:TA):TA:=λσ H Q=>ta σ H λx H1=>tr σ H1 λxs H2=>Q (x::xs) H2
section
variable {X:Cx} {e:Expr} {es:List Expr} {te:TE} {t:TA} {pos:Pos}
theorem Fe:PA X [] gC:=λ_ _ _ _ H Q I h=>Calls.spliced_nil ⟨[],H,I, .nil,h⟩
theorem CN (ha:PE X e te) (hr:PA X es t) (hs:starEach (e::es) X.env=(false,eval e X.env)::starEach es X.env:=by rfl):PA X (e::es) (O3 te t):=by
 intro pos pins s σ H Q I h
 rw [hs]
 show wpAny _ _ (spliced ((false,eval e X.env)::backTo pos (starEach es X.env))) _ _ s
 refine Calls.spliced_cons (Bg (ha pins s σ H _ I h) λu s1 ⟨x,H1,I1,r1,q1⟩=> ?_)
 exact Bg (hr pos pins s1 σ H1 _ I1 q1) λus s2 ⟨xs,H2,I2,r2,q2⟩=>⟨x::xs,H2,I2, .cons r1 r2,q2⟩
def gF (t:TA):TE:=λσ H Q=>t σ H λxs H1=>xs.length<=sizeLine/\∀p,H1 p=none->Q (.ref p) (upd H1 p (.tup xs))
def ql (t:TA):TE:=λσ H Q=>t σ H λxs H1=>xs.length<=sizeLine/\∀p,H1 p=none->Q (.ref p) (upd H1 p (.lst xs))
theorem OW {x1} (h:PA X es t):PE X (.Tuple es x1 pos) (gF t):=by
 intro pins s σ H Q I hq
 refine wpAny_Tuple_spliced (Bg (h pos pins s σ H _ I hq) λus s1 ⟨xs,H1,I1,r,z,q⟩=>⟨by rw [<-r.length];exact z, ?_⟩)
 have hf:H1 s1.heap.objs.size=none:=I1.hok.fresh (Nat.le_refl _)
 refine ⟨.ref s1.heap.objs.size,upd H1 s1.heap.objs.size (.tup xs),I1.laid (t':=s1.toks) (λb u e=>Heap.get?_push_of_some _ e) (Nat.le_refl _) ?_,rfl,q _ hf⟩
 exact ⟨z,us,r,⟨_,Heap.get?_push_size _ rfl,rfl,_,rfl⟩⟩
theorem bD (h:PA X es t):PE X (.List es pos) (ql t):=by
 intro pins s σ H Q I hq
 refine wpAny_List_spliced (Bg (h pos pins s σ H _ I hq) λus s1 ⟨xs,H1,I1,r,z,q⟩=>⟨by rw [<-r.length];exact z, ?_⟩)
 have hf:H1 s1.heap.objs.size=none:=I1.hok.fresh (Nat.le_refl _)
 refine ⟨.ref s1.heap.objs.size,upd H1 s1.heap.objs.size (.lst xs),I1.laid (t':=s1.toks) (λb u e=>Heap.get?_push_of_some _ e) (Nat.le_refl _) ?_,rfl,q _ hf⟩
 exact ⟨z,us,0,r,Heap.get?_push_size _ rfl⟩
end
abbrev Sp:=List V->Hp->VK->XK->Prop
abbrev Xp:=List Env->Hp->Shared->XK->Value->Shared->Prop
structure PY (P:Program) (w:World) (K:PySem.W.Frag) (mg:Str->Option Value) (base:Heap) (A:Around) (outer:List Env) (s:Shared) (H:Hp):Prop where
 frames:A.frames=some outer
 mod:Mod K mg base
 bs:∀b o,base.get? b=some o->s.heap.get? b=some o/\H b=none
 bsz:base.objs.size<=s.heap.objs.size
 funs:s.heap.FunFrames base outer
 frf:∀b∈Y9 outer,H b=none
 hok:Mi P w H s.heap
 bare:AllBare s.gens
def CE (outer:List Env) (P:Program) (w:World) (H:Hp) (s:Shared) (Q:VK) (u:Value) (s':Shared):Prop:=
 ∃v H',s'.os=s.os/\AllBare s'.gens/\Un (Y9 outer) [] H H' s.heap s'.heap/\Mi P w H' s'.heap/\RelV v u/\Q v H'
def CR (CX:Xp) (outer:List Env) (P:Program) (w:World) (H:Hp) (s:Shared) (Q:VK) (E:XK) (r:Result) (s':Shared):Prop:=
 match r with
 | .ok (.ret u)=>CE outer P w H s Q u s'
 | .ok _=>False
 | .error e=>CX outer H s E e s'
structure A8 (P:Program) (w:World) (K:PySem.W.Frag) (mg:Str->Option Value) (base:Heap) (CX:Xp) (k:Nat) (f:Addr) (fd:FuncData) (ps:List Str) (sp:Sp):Prop where
 len:∀vs H Q E,sp vs H Q E->vs.length=ps.length
 run:∀(A:Around) (outer:List Env) (s:Shared) (H:Hp) (args:Args) (us:List Value) (vs:List V) (Q:VK) (E:XK),Room k A->PY P w K mg base A outer s H->BindsTo s fd args (ps.zip us)->Ax vs us->sp vs H Q E->
  codeAny (model P w) A (.call (.ref f) args) (CR CX outer P w H s Q E) s
theorem A8.mono {P:Program} {w:World} {K:PySem.W.Frag} {mg:Str->Option Value} {base:Heap} {CX:Xp} {j k:Nat} {f:Addr} {fd:FuncData} {ps:List Str} {sp:Sp} (F:A8 P w K mg base CX j f fd ps sp) (h:j<=k):
 A8 P w K mg base CX k f fd ps sp:=⟨F.len,λA outer s H args us vs Q E hr=>F.run A outer s H args us vs Q E (hr.mono h)⟩
theorem A8.imp {P:Program} {w:World} {K:PySem.W.Frag} {mg:Str->Option Value} {base:Heap} {CX:Xp} {k:Nat} {f:Addr} {fd:FuncData} {ps:List Str} {sp sp':Sp} (F:A8 P w K mg base CX k f fd ps sp)
 (h:∀vs H Q E,sp' vs H Q E->sp vs H Q E):A8 P w K mg base CX k f fd ps sp':=
 ⟨λvs H Q E q=>F.len vs H Q E (h _ _ _ _ q),λA outer s H args us vs Q E hr he hb hv hs=>F.run A outer s H args us vs Q E hr he hb hv (h _ _ _ _ hs)⟩
theorem PY.make {P:Program} {w:World} {K:PySem.W.Frag} {mg:Str->Option Value} {base:Heap} {A:Around} {outer:List Env} {s:Shared} {H:Hp} (e:PY P w K mg base A outer s H) (C:Addr) (us:List Value) (kw:List (Str×Value)):
 PY P w K mg base (A.under (.builtin "type.__call__" ⟨.ref C::us,kw⟩)) outer s H:=⟨by first | exact e.frames|(simpa [Around.under,Code.envs,Code.isFrame,pushEnvs] using e.frames),e.mod,e.bs,e.bsz,e.funs,e.frf,e.hok,e.bare⟩
theorem PY.in1 {P:Program} {w:World} {K:PySem.W.Frag} {mg:Str->Option Value} {base:Heap} {A:Around} {outer:List Env} {s:Shared} {H:Hp} (e:PY P w K mg base A outer s H):
 PY P w K mg base A.in1 outer s H:=⟨e.frames,e.mod,e.bs,e.bsz,e.funs,e.frf,e.hok,e.bare⟩
section
variable {X:Cx} {pins:List (Addr×Obj)} {σ:St} {H:Hp} {s s':Shared}
theorem Inv.env0 (I:Inv X pins σ H s):PY X.prog X.w X.K X.mg X.base X.A X.stack s H:=
 ⟨I.ok.frames,I.ok.mod,I.bs,Nat.le_trans I.ok.bsz I.sz,I.stack,I.stkFree,I.hok,I.bare⟩
theorem Inv.after {Q:VK} {u:Value} (I:Inv X pins σ H s) (h:CE X.stack X.prog X.w H s Q u s'):EP X pins σ Q u s':=by
 obtain ⟨v,H',os,bare,un,hok,r,q⟩:=h
 obtain ⟨hh,g,d,t,os'⟩:=s'
 obtain rfl:os'=s.os:=os
 exact ⟨v,H',I.call (h':=hh) (g':=g) (d':=d) (t':=t) (ch:= []) un hok bare (λb z=>absurd z (by simp)),r,q⟩
end
def hZ (sp:Sp) (dvs:List V) (E:XK) (t:TA):TE:=λσ H Q=>t σ H λvs H1=>sp (vs++dvs) H1 Q E
def Binds (K:PySem.W.Frag) (fd:FuncData) (ps:List Str) (ds:List Value):Prop:=
 ∀(s:Shared) (us:List Value),K.In s.heap->(us++ds).length=ps.length->BindsTo s fd ⟨us, []⟩ (ps.zip (us++ds))
theorem Binds.all {K:PySem.W.Frag} {fd:FuncData} {ps:List Str} (h:∀us:List Value,us.length=ps.length->bindArgs fd ⟨us, []⟩=pure (ps.zip us)):Binds K fd ps [] :=λs us _ hl=>by
 rw [List.append_nil] at hl ⊢
 exact .of_eq (h us hl)
def Passes (CX:Xp) (X:Cx) (E:XK):Prop:=∀(pins:List (Addr×Obj)) (σ:St) (H:Hp) (s:Shared) (e:Value) (s':Shared),Inv X pins σ H s->CX X.stack H s E e s'->X.xe e s'
section
variable {X:Cx} {CX:Xp} {k:Nat} {f C:Addr} {fd:FuncData} {ps:List Str} {sp:Sp} {dvs:List V} {ds:List Value} {E:XK} {x m:Str} {p pos apos:Pos} {e o:Expr} {es:List Expr} {ta:TE} {t:TA}
theorem kA {pins:List (Addr×Obj)} {σ:St} {H:Hp} {s:Shared} {Q:VK} {us:List Value} {vs:List V} (F:A8 X.prog X.w X.K X.mg X.base CX k f fd ps sp) (hr:Room k X.A) (hb:Binds X.K fd ps ds) (hd:Ax dvs ds) (hx:Passes CX X E)
 (I:Inv X pins σ H s) (r:Ax vs us) (h:sp (vs++dvs) H Q E):wpAny (model X.prog X.w) X.A (call (.ref f) us) (EP X pins σ Q) X.xe s:=by
 have r2:Ax (vs++dvs) (us++ds):=r.append hd
 have hl:(us++ds).length=ps.length:=by rw [<-r2.length];exact F.len _ _ _ _ h
 refine wpAny_call (codeAny_mono (F.run X.A X.stack s H ⟨us, []⟩ (us++ds) (vs++dvs) Q E hr I.env0 (hb s us I.kIn hl) r2 h) λr s' hq=> ?_)
 cases r with
 | error e=>exact hx pins σ H s e s' I hq
 | ok fl=>
   cases fl with
   | ret u=>exact I.after hq
   | next=>exact False.elim hq
   | brk=>exact False.elim hq
   | cont=>exact False.elim hq
theorem fB (F:A8 X.prog X.w X.K X.mg X.base CX k f fd ps sp) (hr:Room k X.A) (hg:Gl X x) (hm:X.mg x=some (.ref f)) (hk:PySem.W.keepIn X.K (.ref f)=true) (hb:Binds X.K fd ps ds) (hd:Ax dvs ds) (hx:Passes CX X E)
 (ha:PA X (e::es) t) (hdb:(x==("__debug__" :Str))=false:=by decide) (he:starEach (e::es) X.env=(false,eval e X.env)::starEach es X.env:=by rfl) (hpl:(backTo pos (starEach es X.env)).any (·.1)=false:=by rfl):
 PE X (.Call (.Name x p) (e::es) [] pos) (hZ sp dvs E t):=by
 intro pins s σ H Q I h
 refine wpAny_Call_Name_kw (eJ I hg hm ?_ hdb)
 refine PySem.W.callWith_K (h₀:=X.base) I.ok.mod.kin hk (Bg (ha pos pins s σ H _ I h) λus s1 ⟨vs,H1,I1,r,q⟩=>⟨I1.kIn, ?_⟩) he hpl
 exact kA F hr hb hd hx I1 r q
structure Mk (K:PySem.W.Frag) (C f:Addr):Prop where
 makes:PySem.W.makesIn K C=true
 init:PySem.W.findIn K (.ref C) "__init__" =some (some (.ref f))
 fn:PySem.W.isFn K (.ref f)=true
 kp:PySem.W.keepIn K (.ref C)=true
end
section
variable {X:Cx} {CX:Xp} {k:Nat} {f C:Addr} {fd:FuncData} {ps ks:List Str} {sp:Sp} {E:XK} {x m:Str} {p pos apos kpos:Pos} {e o:Expr} {es:List Expr} {kws:List Keyword} {te ta:TE} {t tk:TA} {nm:Option Str}
structure pQ (K:PySem.W.Frag) (fd:FuncData) (ps ks:List Str) (g:List Value->List Value->List Value) (gV:List V->List V->List V):Prop where
 to:∀(s:Shared) (us ws:List Value),K.In s.heap->(g us ws).length=ps.length->BindsTo s fd ⟨us,ks.zip ws⟩ (ps.zip (g us ws))
 rel:∀{vs:List V} {us:List Value} {zs:List V} {ws:List Value},Ax vs us->Ax zs ws->Ax (gV vs zs) (g us ws)
variable {g:List Value->List Value->List Value} {gV:List V->List V->List V}
end
structure Aa (N P:List Str) (sc:Scope):Prop where
 kind:sc.kind= .function
 co:sc.isCoroutine=false
 gen:sc.isGenerator=false
 nd:N.Nodup
 pre:N.take P.length=P
 par:∀x∈P,sc.names.lookup x=some .local\/sc.names.lookup x=some .cell
 nofree:∀y∈sc.names,y.2≠ .free
theorem QP {kindOf:Str->Option NameKind} {x:Str}:∀{binds:List (Str×Value)} {m:Str->Option Value},(∀v,(x,v) ∉ binds)->bindL kindOf binds m x=m x
 | [],_,_=>rfl
 | (n,v)::r,m,h=>by
   unfold bindL
   rw [QP λw hw=>h w (List.mem_cons_of_mem _ hw)]
   split
   ·have:x≠n:=by rintro rfl;exact h v List.mem_cons_self
    simp [this]
   ·rfl
theorem QN {kindOf:Str->Option NameKind} {x:Str}:∀{binds:List (Str×Value)} {m:Str->Option Value},(∀v,(x,v) ∉ binds)->bindC kindOf binds m x=m x
 | [],_,_=>rfl
 | (n,v)::r,m,h=>by
   unfold bindC
   rw [QN λw hw=>h w (List.mem_cons_of_mem _ hw)]
   split
   ·rfl
   ·have:x≠n:=by rintro rfl;exact h v List.mem_cons_self
    simp [this]
theorem QO {kindOf:Str->Option NameKind} {x:Str} {v:Value}:∀{P:List Str} {vs:List Value} {i:Nat} {m:Str->Option Value},P.Nodup->P[i]? =some x->vs[i]? =some v->kindOf x=some .local->
 bindL kindOf (P.zip vs) m x=some v
 | [],_,_,_,_,h,_,_=>by simp at h
 | _::_, [],_,_,_,_,h,_=>by simp at h
 | p::P,w::vs,0,m,nd,h1,h2,hk=>by
   simp at h1 h2;subst h1;subst h2
   show bindL kindOf ((p,w)::P.zip vs) m p=_
   unfold bindL
   rw [QP λv hv=>(List.nodup_cons.mp nd).1 (List.of_mem_zip hv).1,if_pos hk]
   simp
 | p::P,w::vs,i+1,m,nd,h1,h2,hk=>by
   show bindL kindOf ((p,w)::P.zip vs) m x=_
   unfold bindL
   exact QO (i:=i) (List.nodup_cons.mp nd).2 (by simpa using h1) (by simpa using h2) hk
theorem QM {kindOf:Str->Option NameKind} {x:Str} {v:Value}:∀{P:List Str} {vs:List Value} {i:Nat} {m:Str->Option Value},P.Nodup->P[i]? =some x->vs[i]? =some v->kindOf x≠some .local->
 bindC kindOf (P.zip vs) m x=some v
 | [],_,_,_,_,h,_,_=>by simp at h
 | _::_, [],_,_,_,_,h,_=>by simp at h
 | p::P,w::vs,0,m,nd,h1,h2,hk=>by
   simp at h1 h2;subst h1;subst h2
   show bindC kindOf ((p,w)::P.zip vs) m p=_
   unfold bindC
   rw [QN λv hv=>(List.nodup_cons.mp nd).1 (List.of_mem_zip hv).1,if_neg hk]
   simp
 | p::P,w::vs,i+1,m,nd,h1,h2,hk=>by
   show bindC kindOf ((p,w)::P.zip vs) m x=_
   unfold bindC
   exact QM (i:=i) (List.nodup_cons.mp nd).2 (by simpa using h1) (by simpa using h2) hk
def start (N:List Str) (vs:List V):St:=vs.map some++List.replicate (N.length-vs.length) none
def VV (CX:Xp) (P:Program) (w:World) (K:PySem.W.Frag) (mg:Str->Option Value) (base:Heap) (N:List Str) (qual:Str) (scope:Scope) (f:Addr) (cd:Value) (A:Around) (outer:List Env) (s:Shared) (H:Hp) (E:XK):Cx where
 prog:=P
 w:=w
 K:=K
 mg:=mg
 base:=base
 A:=A.deeper (envOfC qual scope s.heap.objs.size f cd)
 N:=N
 s₀:=s
 H₀:=H
 env:=envOfC qual scope s.heap.objs.size f cd
 outer:=outer
 stack:=envOfC qual scope s.heap.objs.size f cd::outer
 ex:= []
 calm:=true
 fn:=λ_=>true
 pn:= []
 xe:=λe s'=>wpAny (model P w) (A.deeper (envOfC qual scope s.heap.objs.size f cd)) (leaving (envOfC qual scope s.heap.objs.size f cd) e) (λ_ s''=>CX outer H s E e s'') (λe' s''=>CX outer H s E e' s'') s'
theorem Tq {sc:Scope} {n:Nat} {x:Str} (h:sc.names.lookup x=some .cell):∃c,(cellsFrom n sc.names []).lookup x=some c:=by
 have q:=PySem.W.cellsFrom_some sc.names n [] (.inl h)
 exact Option.isSome_iff_exists.mp q
theorem YO {CX:Xp} {P:Program} {w:World} {K:PySem.W.Frag} {mg:Str->Option Value} {base:Heap} {N ps:List Str} {qual:Str} {scope:Scope} {f:Addr} {cd:Value} {A:Around} {outer:List Env} {s s1:Shared} {H:Hp} {E:XK} {us:List Value} {vs:List V}
 (S:Aa N ps scope) (hd:A.handled=none) (e0:PY P w K mg base A outer s H) (hl:vs.length=ps.length) (r:Ax vs us)
 (x:InCallC s s.heap.objs.size (bindL (envOfC qual scope s.heap.objs.size f cd).kindOf (ps.zip us) λ_=>none) (cellsFrom (s.heap.objs.size+1) scope.names []) (bindC (envOfC qual scope s.heap.objs.size f cd).kindOf (ps.zip us) λ_=>none) s1):
 Inv (VV CX P w K mg base N qual scope f cd A outer s H E) [] (start N vs) H s1:=by
 have hpl:ps.length<=N.length:=by have:=congrArg List.length S.pre;rw [List.length_take] at this;omega
 obtain ⟨h1,tk,rfl,hk⟩:=x.done
 have noA:∀b:Addr,b ∉ (VV CX P w K mg base N qual scope f cd A outer s H E).ex:=λb z=>absurd (show b∈([] :List Addr) from z) (by simp)
 refine ⟨⟨e0.mod,S.kind,rfl,rfl,Nat.le_refl _,λy z c h1 h2=> ?_,λy hy=> ?_,λy c _ h=> ?_,λ_=>hd,Around.frames_deeper e0.frames, .inr ⟨rfl,rfl⟩,λb z=>absurd z (noA b),e0.bs,e0.bsz,λb _ _=>noA b,λb z=>absurd z (noA b),e0.funs,e0.frf⟩,
  rfl,e0.bare,Un.kept hk,⟨_,x.toInCall.ns,λi y v h1 h2 h3=> ?_⟩,λy c h=>⟨_,x.cell y c h⟩,e0.hok.fresh (Nat.le_refl _),λy c h=> ?_,λp hp=>absurd (show p∈([] :List (Addr×Obj)) from hp) (by simp),e0.hok.kept hk, ?_⟩
 ·exact name_of_addr x.apart (PySem.mem_of_lookup h1) (PySem.mem_of_lookup h2)
 ·have hy:scope.names.lookup y=some .cell\/scope.names.lookup y=some .free:=hy
  rcases hy with hy|hy
  ·exact Tq hy
  ·exact absurd rfl (S.nofree _ (PySem.mem_of_lookup hy))
 ·exact Nat.le_of_lt (x.above y c (PySem.mem_of_lookup h))
 ·have hi:i<vs.length:=by
   unfold start at h2
   by_cases hi:i<vs.length
   ·exact hi
   ·rw [List.getElem?_append_right (by simpa using hi)] at h2
    rw [List.getElem?_replicate] at h2
    split at h2 <;> cases h2
  have ha:vs[i]? =some v:=by
   unfold start at h2
   rw [List.getElem?_append_left (by simpa using hi),List.getElem?_map] at h2
   cases e:vs[i]? with
   | none=>rw [e] at h2;cases h2
   | some a=>rw [e] at h2;cases h2;rfl
  obtain ⟨u,hu,rv⟩:=r.get ha
  have hp:ps[i]? =some y:=by
   rw [<-S.pre,List.getElem?_take_of_lt (by omega)];exact h1
  have ndP:ps.Nodup:=by rw [<-S.pre];exact S.nd.sublist (List.take_sublist _ _)
  refine ⟨u,rv, ?_⟩
  rcases S.par y (List.mem_of_getElem? hp) with k|k
  ·exact .inl ⟨k,QO ndP hp hu k⟩
  ·obtain ⟨c,e⟩:=Tq (n:=s.heap.objs.size+1) k
   refine .inr ⟨.inl k,c,e, ?_⟩
   have q:=x.cell y c e
   rw [QM ndP hp hu (by show scope.names.lookup y≠_;rw [k];decide)] at q
   exact q
 ·exact e0.hok.fresh (Nat.le_of_lt (x.above y c (PySem.mem_of_lookup h)))
 ·unfold start
  show _=N.length
  rw [List.length_append,List.length_map,List.length_replicate]
  omega
theorem l7 {CX:Xp} {P:Program} {w:World} {K:PySem.W.Frag} {mg:Str->Option Value} {base:Heap} {k:Nat} {f:Addr} {name qual:Str} {params:Arguments} {body:List Stmt} {scope:Scope} {dV kV doc pm cdv ct oc:Value} {an od:Option Addr}
 {osl:Array (Option Value)} {N ps:List Str} {sp:Sp} (lk:K.lookup f=some ⟨oc,od, .func (PySem.W.fnOf name qual params body scope dV kV doc pm an cdv ct),osl⟩) (M8:PySem.W.codeIn K cdv qual=true) (S:Aa N ps scope)
 (len:∀vs H Q E,sp vs H Q E->vs.length=ps.length)
 (UG:∀(A:Around) (outer:List Env) (s:Shared) (H:Hp) (vs:List V) (Q:VK) (E:XK),Room k (A.deeper (envOfC qual scope s.heap.objs.size f cdv))->sp vs H Q E->
   ∃t,Wc (VV CX P w K mg base N qual scope f cdv A outer s H E) body t/\t {nx:=λ_ H'=>Q .non H',rt:=Q} (start N vs) H):
 A8 P w K mg base CX (k+1) f (PySem.W.fnOf name qual params body scope dV kV doc pm an cdv ct) ps sp:=by
 refine ⟨len,λA outer s H args us vs Q E hr e0 hb r gj=> ?_⟩
 have hl:=len _ _ _ _ gj
 have KX:K.In s.heap:=e0.mod.kin.keeps λb o e=>(e0.bs b o e).1
 have lim:s.heap.NoLimit:=e0.mod.nolimit.keeps λb o e=>(e0.bs b o e).1
 have mK:∀y∈ps.zip us,scope.names.lookup y.1=some .local\/(scope.names.lookup y.1=some .cell/\((cellsFrom (s.heap.objs.size+1) scope.names []).lookup y.1).isSome=true):=λ⟨n,v⟩ hy=>by
  rcases S.par n (List.of_mem_zip hy).1 with q|q
  ·exact .inl q
  ·exact .inr ⟨q,PySem.W.cellsFrom_some _ _ _ (.inl q)⟩
 refine codeAny_call_function hr.depth (KX _ _ lk) rfl S.co S.gen rfl (PySem.W.codeRec_of KX M8) (hb _ _ _ _ ?_)
 refine wpAny_newFunctionEnv_cells S.kind mK λenv he s1 x=> ?_
 subst he
 refine ⟨lim.keeps x.toInCall.keep,codeAny_func ?_⟩
 obtain ⟨t,ht,hq⟩:=UG A outer s H vs Q E (hr.deeper _) gj
 have I:Inv (VV CX P w K mg base N qual scope f cdv A outer s H E) [] (start N vs) H s1:=YO S hr.hd e0 hl r x
 refine wpAny_mono (ht [] s1 (start N vs) H _ I hq) (λfl s' hs=> ?_) λe s' hs=>hs
 have fin:∀{σ':St} {H':Hp} {v:V} {u:Value},Inv (VV CX P w K mg base N qual scope f cdv A outer s H E) [] σ' H' s'->RelV v u->Q v H'->CE outer P w H s Q u s':=
  λ{σ' H' v u} J rv q=>⟨v,H',J.os,J.bare,J.base,J.hok,rv,q⟩
 cases fl with
 | ret u=>
   obtain ⟨v,σ',H',J,rv,q⟩:=hs
   exact fin J rv q
 | next=>
   obtain ⟨σ',H',J,q⟩:=hs
   exact fin (v:=V.non) (u:=Value.none) J rfl q
 | brk=>
   obtain ⟨_,_,_,q⟩:=hs
   exact False.elim q
 | cont=>
   obtain ⟨_,_,_,q⟩:=hs
   exact False.elim q
end L2
namespace L2
open PySem PySem.Spec PyProof.Rows
section
variable {X:Cx} {x:Str} {p pos:Pos} {e:Expr} {es:List Expr} {t:TA} {id T:String} {r:List V->Hp->VK->Prop}
def qk (r:List V->Hp->VK->Prop) (t:TA):TE:=λσ H Q=>t σ H λvs H1=>r vs H1 Q
theorem KI (hc:CH X (.builtin id) r) (hg:Gl X x) (hm:X.mg x=none) (hv:bootBuiltins x=some (.builtin id)) (ha:PA X (e::es) t) (hn:x≠"__name__" :=by decide) (hdb:(x==("__debug__" :Str))=false:=by decide)
 (he:starEach (e::es) X.env=(false,eval e X.env)::starEach es X.env:=by rfl) (hpl:(backTo pos (starEach es X.env)).any (·.1)=false:=by rfl):PE X (.Call (.Name x p) (e::es) [] pos) (qk r t):=by
 intro pins s σ H Q I h
 refine wpAny_Call_Name_kw (GL I hg hm hv ?_ hn hdb)
 exact PyProof.Rows.callWith_builtin1 (Bg (ha pos pins s σ H _ I h) λus s1 ⟨vs,H1,I1,r1,q1⟩=>hc pins s1 σ H1 vs us Q I1 r1 q1) he hpl
theorem Hr (hc:CH X (.type T) r) (hg:Gl X x) (hm:X.mg x=none) (hv:bootBuiltins x=some (.type T)) (ha:PA X (e::es) t) (hn:x≠"__name__" :=by decide) (hdb:(x==("__debug__" :Str))=false:=by decide)
 (he:starEach (e::es) X.env=(false,eval e X.env)::starEach es X.env:=by rfl) (hpl:(backTo pos (starEach es X.env)).any (·.1)=false:=by rfl):PE X (.Call (.Name x p) (e::es) [] pos) (qk r t):=by
 intro pins s σ H Q I h
 refine wpAny_Call_Name_kw (GL I hg hm hv ?_ hn hdb)
 exact PyProof.Rows.callWith_type1 (Bg (ha pos pins s σ H _ I h) λus s1 ⟨vs,H1,I1,r1,q1⟩=>hc pins s1 σ H1 vs us Q I1 r1 q1) he hpl
end
end L2
namespace HT
open PySem PyProof.Rows
section
open PySem.SeqAt
open PySem.AutoSeq1 (wpAny_loadPart')
open PySem.MeetsSeq PySem.MeetsSeq2 PySem.MeetsSeq3
end
section
variable {prog:Program} {w:World} {A:Around} {E:Value->Shared->Prop} {s:Shared}
theorem cat_tup {t b:Addr} {vs ws:List Value} {Q:Value->Shared->Prop} (ht:IsTup s.heap t vs.toArray) (hb:IsTup s.heap b ws.toArray) (hv:vs≠ [])
 (h1:ws= [] ->Q (.ref t) s) (h2:ws≠ [] ->Q (.ref s.heap.objs.size) {s with heap:=s.heap.push {cls:= .type "tuple",data:= .seq (vs++ws).toArray}})
 (hsz:vs.length+ws.length<=sizeLine):wpAny (model prog w) A (binaryOp .Add (.ref t) (.ref b)) Q E s:=by
 obtain ⟨⟨cls,dd,data,sl⟩,ho,hc,n,hd⟩:=id ht
 obtain ⟨⟨cls2,dd2,data2,sl2⟩,jC,Mq,n2,mD⟩:=id hb
 simp only at hc hd Mq mD
 subst hc hd Mq mD
 have e:vs.toArray++ws.toArray=(vs++ws).toArray:=by simp
 by_cases hw:ws= []
 ·exact concat_meets ⟨_,ho,rfl⟩ ⟨_,jC,rfl⟩ noFill_tuple_add seq_tuple_add PySem.F.slot_tuple_add PySem.F.entry_tuple_add (PySem.F.args_tuple_add_2 _ _)
   (tuple_addW1 t b vs.toArray ws.toArray n n2 dd dd2 sl sl2 (by simpa using hv) (by simp [hw])) ⟨ho,jC,h1 hw⟩
 ·refine concat_meets ⟨_,ho,rfl⟩ ⟨_,jC,rfl⟩ noFill_tuple_add seq_tuple_add PySem.F.slot_tuple_add PySem.F.entry_tuple_add (PySem.F.args_tuple_add_2 _ _)
   (tuple_addW2 t b vs.toArray ws.toArray n n2 dd dd2 sl sl2 (by simpa using hv) (by simpa using hw) (by rw [List.size_toArray,List.size_toArray];exact hsz)) ⟨ho,jC, ?_⟩
  rw [e]
  exact h2 hw
def sIx (n d:Nat):Option Int->Nat
 | none=>d
 | some v=>if v<0 then (v+(n:Int)).toNat else min v.toNat n
theorem sIx_none (n d:Nat):sIx n d none=d:=rfl
theorem sIx_nat (n d k:Nat):sIx n d (some (k:Int))=min k n:=by
 show (if (k:Int)<0 then ((k:Int)+(n:Int)).toNat else min (k:Int).toNat n)=min k n
 rw [if_neg (by omega),Int.toNat_natCast]
theorem kB (n d:Nat) (hd:d<=n) (o:Option Int):sIx n d o<=n:=by
 cases o with
 | none=>exact hd
 | some v=>
   show (if v<0 then (v+(n:Int)).toNat else min v.toNat n)<=n
   by_cases hv:v<0
   ·rw [if_pos hv];omega
   ·rw [if_neg hv];exact Nat.min_le_right _ _
theorem Wn (v:Int) (n d:Nat):(if v<0 then max (v+(n:Int)) 0 else min v (n:Int))=((sIx n d (some v):Nat):Int):=by
 show (if v<0 then max (v+(n:Int)) 0 else min v (n:Int))=(((if v<0 then (v+(n:Int)).toNat else min v.toNat n):Nat):Int)
 by_cases hv:v<0
 ·simp only [if_pos hv];omega
 ·simp only [if_neg hv];omega
theorem VJ (lo hi:Option Int) (n:Nat):Builtin.Slice.sliceAdjust lo hi 1 (n:Int)=(((sIx n 0 lo:Nat):Int),((sIx n n hi:Nat):Int)):=by
 have h1:¬((1:Int)<0):=by omega
 unfold Builtin.Slice.sliceAdjust
 simp only [h1,if_false]
 refine Prod.ext ?_ ?_
 ·cases lo with
  | none=>rfl
  | some v=>exact Wn v n 0
 ·cases hi with
  | none=>rfl
  | some v=>exact Wn v n n
theorem WC (i j:Nat):Builtin.Slice.slicePlaces (i:Int) (j:Int) 1=j-i:=by
 unfold Builtin.Slice.slicePlaces
 have h1:(1:Int)>0:=by omega
 simp only [h1,if_true,Int.ediv_one]
 split <;> omega
theorem Ot {v:Value} {o:Option Int} {Q:Option Int->Shared->Prop} (p:IsPart v o) (h:Q o s):wpAny (model prog w) A (Builtin.Slice.slicePartIndex v) Q E s:=by
 cases p with
 | none=>exact slicePart_none h
 | int i t=>exact slicePart_int h
theorem sliceApplied_gen {sl:Addr} {vl vu:Value} {lo hi:Option Int} {n:Nat} {Q:Int×Int×Nat->Shared->Prop} (hs:s.heap.IsSliceOf sl vl vu .none) (pl:IsPart vl lo) (pu:IsPart vu hi)
 (h:Q (((sIx n 0 lo:Nat):Int),1,sIx n n hi-sIx n 0 lo) s):wpAny (model prog w) A (Builtin.Slice.sliceApplied (.ref sl) (pure (n:Int))) Q E s:=by
 obtain ⟨os,jE,oZ,mI⟩:=id hs
 unfold Builtin.Slice.sliceApplied Builtin.Slice.sliceFields
 refine wpAny_bind (wpAny_bind (wpAny_field jE mI (x:=vl) rfl (wpAny_bind (wpAny_field jE mI (x:=vu) rfl (wpAny_bind (wpAny_field jE mI (x:= .none) rfl (wpAny_pure ?_)))))))
 refine wpAny_bind (slicePart_none ?_)
 show wpAny _ _ (if ((1:Int)==0)=true then _ else _) _ _ s
 rw [if_neg (by decide)]
 refine wpAny_bind (Ot pl (wpAny_bind (Ot pu (wpAny_bind (wpAny_pure ?_)))))
 show wpAny _ _ (match Builtin.Slice.sliceAdjust lo hi 1 (n:Int) with | (lo,hi)=>pure (lo,(1:Int),Builtin.Slice.slicePlaces lo hi 1)) _ _ s
 rw [VJ lo hi n]
 show wpAny _ _ (pure (((sIx n 0 lo:Nat):Int),(1:Int),Builtin.Slice.slicePlaces ((sIx n 0 lo:Nat):Int) ((sIx n n hi:Nat):Int) 1)) _ _ s
 rw [WC]
 exact wpAny_pure h
theorem bJ (xs:Array Value) (i k:Nat):((List.range k).filterMap λ(m:Nat)=>xs[((i:Int)+(m:Int)*1).toNat]?).toArray=((xs.toList.drop i).take k).toArray:=by
 have e:(λ(m:Nat)=>xs[((i:Int)+(m:Int)*1).toNat]?)=λm=>xs[i+m]? :=by
  funext m
  have:((i:Int)+(m:Int)*1).toNat=i+m:=by omega
  rw [this]
 rw [e]
 have:=pick_run xs i k
 rw [List.filterMap_map] at this
 have e2:((λx=>xs[x]?) ∘ λx=>i+x)=λm=>xs[i+m]? :=rfl
 rw [e2] at this
 rw [this]
theorem getItem_tuple_cut {t sl:Addr} {items:Array Value} {vl vu:Value} {lo hi:Option Int} {Q:Value->Shared->Prop} (ht:IsTup s.heap t items) (hs:s.heap.IsSliceOf sl vl vu .none) (pl:IsPart vl lo) (pu:IsPart vu hi)
 (hw:¬(sIx items.size 0 lo=0/\sIx items.size items.size hi=items.size))
 (h:Q (.ref s.heap.objs.size) {s with heap:=s.heap.push {cls:= .type "tuple",data:= .seq ((items.toList.drop (sIx items.size 0 lo)).take (sIx items.size items.size hi-sIx items.size 0 lo)).toArray}})
 (hsz:items.size<=sizeLine):wpAny (model prog w) A (getItem (.ref t) (.ref sl)) Q E s:=by
 have W8:sizeOk (.seq ((items.toList.drop (sIx items.size 0 lo)).take (sIx items.size items.size hi-sIx items.size 0 lo)).toArray):=by
  show ((items.toList.drop (sIx items.size 0 lo)).take (sIx items.size items.size hi-sIx items.size 0 lo)).toArray.size<=sizeLine
  rw [List.size_toArray,List.length_take,List.length_drop,Array.length_toList]
  omega
 have hj:sIx items.size items.size hi<=items.size:=kB _ _ (Nat.le_refl _) hi
 obtain ⟨os,jE,oZ,mI⟩:=id hs
 have p7:s.TypeIs (.ref sl) "slice" :=⟨os,jE,oZ⟩
 unfold getItem
 try with_reducible refine wpAny_holding ?_
 first | refine wpAny_bind (wpAny_pure ?_)|skip
 refine wpAny_bind (wpAny_sequenceKey ht.typeIs (by decide) ?_)
 refine wpAny_bind (wpAny_callSpecial?_slot (name:=Str.ofString "__getitem__") ht.typeIs PyProof.Rows.slot_tuple_getitem
  (wpAny_call_entry PyProof.Rows.slot_tuple_getitem ht.typeIs entry_tuple_getitem ?_ (args_tuple_getitem _ _)))
 show wpAny _ _ (Builtin.Tuple.tupleItemsOf (.ref t) >>= _) _ _ s
 refine wpAny_bind (tupleItemsOf_ ht ?_)
 refine wpAny_bind (wpAny_typeOf p7 ?_)
 rw [if_pos (by decide)]
 refine wpAny_bind (sliceApplied_gen hs pl pu ?_)
 have W7:¬((((sIx items.size 0 lo:Nat):Int)==0&&(1:Int)==1&&(sIx items.size items.size hi-sIx items.size 0 lo)==items.size)=true):=by
  intro q
  rw [Bool.and_eq_true,Bool.and_eq_true] at q
  have q1:((sIx items.size 0 lo:Nat):Int)=0:=eq_of_beq q.1.1
  have q2:sIx items.size items.size hi-sIx items.size 0 lo=items.size:=eq_of_beq q.2
  exact hw ⟨by omega,by omega⟩
 show wpAny _ _ (if (((sIx items.size 0 lo:Nat):Int)==0&&(1:Int)==1&&(sIx items.size items.size hi-sIx items.size 0 lo)==items.size)=true then _ else _) _ _ s
 rw [if_neg W7,bJ]
 first
  | exact wpAny_bind (m:=Builtin.Tuple.tupleExact _) (wpAny_newObj_type (wpAny_pure ⟨_,rfl,wpAny_pure h⟩) W8)
  | exact wpAny_bind (m:=Builtin.Tuple.tupleExact _) (wpAny_newObj_type (wpAny_bind (wpAny_pure (wpAny_pure ⟨_,rfl,wpAny_pure h⟩))) W8)
  | exact wpAny_bind (wpAny_bind (m:=Builtin.Tuple.tupleExact _) (wpAny_newObj_type (wpAny_pure (wpAny_pure ⟨_,rfl,wpAny_pure h⟩)) W8))
  | exact wpAny_bind (wpAny_bind (m:=Builtin.Tuple.tupleExact _) (wpAny_newObj_type (wpAny_pure ⟨_,rfl,wpAny_pure h⟩) W8))
end
end HT
namespace L2
open PySem PySem.Spec PyProof.Rows
abbrev TO:=St->Hp->(Option Int->Hp->Prop)->Prop
def PO (X:Cx) (e:Option Expr) (t:TO):Prop:=
 ∀(pins:List (Addr×Obj)) (s:Shared) (σ:St) (H:Hp) (Q:Option Int->Hp->Prop),Inv X pins σ H s->t σ H Q->
  wpAny (model X.prog X.w) X.A (evalPart e X.env) (λu s'=>∃o H',Inv X pins σ H' s'/\IsPart u o/\Q o H') X.xe s
def gD:TO:=λ_ H Q=>Q none H
def oH (t:TE):TO:=λσ H Q=>t σ H λx H1=>∃i,x= .int i/\Q (some i) H1
section
variable {X:Cx} {e:Expr} {te:TE} {lo hi:Option Expr} {tl th:TO} {pos p2:Pos}
theorem fK:PO X none gD:=by
 intro pins s σ H Q I h
 rw [evalPart_none]
 exact wpAny_pure ⟨none,H,I, .none,h⟩
theorem fL (h:PE X e te):PO X (some e) (oH te):=by
 intro pins s σ H Q I hw
 rw [evalPart_some]
 refine Bg (h pins s σ H _ I hw) λu s1 ⟨x,H1,I1,r1,q1⟩=> ?_
 obtain ⟨i,rfl,q⟩:=q1
 obtain ⟨t,rfl⟩:=r1
 exact ⟨some i,H1,I1, .int i t,q⟩
def gT (X:Cx) (r:V->Option Int->Option Int->Hp->VK->Prop):Prop:=
 ∀(pins:List (Addr×Obj)) (s:Shared) (σ:St) (H:Hp) (x:V) (v vl vu:Value) (lo hi:Option Int) (sl:Addr) (Q:VK),Inv X pins σ H s->RelV x v->s.heap.IsSliceOf sl vl vu .none->IsPart vl lo->IsPart vu hi->r x lo hi H Q->
  ∃T id,typeLookup (.type T) "__getitem__" =pure (some (.builtin id))/\s.TypeIs v T/\wpAny (model X.prog X.w) X.A (getItem v (.ref sl)) (EP X pins σ Q) X.xe s
theorem gT.or {r r':V->Option Int->Option Int->Hp->VK->Prop} (h:gT X r) (h':gT X r'):gT X (λx lo hi H Q=>r x lo hi H Q\/r' x lo hi H Q):=by
 intro pins s σ H x v vl vu lo hi sl Q I rx hs pl pu q
 rcases q with q|q
 ·exact h pins s σ H x v vl vu lo hi sl Q I rx hs pl pu q
 ·exact h' pins s σ H x v vl vu lo hi sl Q I rx hs pl pu q
def wt (r:V->Option Int->Option Int->Hp->VK->Prop) (te:TE) (tl th:TO):TE:=λσ H Q=>te σ H λx H1=>tl σ H1 λl H2=>th σ H2 λu H3=>r x l u H3 Q
theorem bF {r:V->Option Int->Option Int->Hp->VK->Prop} (hr:gT X r) (he:PE X e te) (hl:PO X lo tl) (hu:PO X hi th):PE X (.Subscript e (.Slice lo hi none p2) pos) (wt r te tl th):=by
 intro pins s σ H Q I h
 refine Subscript_ (Bg (he pins s σ H _ I h) λv s1 ⟨x,H1,I1,r1,q1⟩=> ?_)
 refine wpAny_Slice (Bg (hl pins s1 σ H1 _ I1 q1) λvl s2 ⟨l,H2,I2,pl,q2⟩=>Bg (hu pins s2 σ H2 _ I2 q2) λvu s3 ⟨u,H3,I3,pu,q3⟩=> ?_)
 rw [evalPart_none]
 refine wpAny_pure ?_
 have I4:Inv X pins σ H3 {s3 with heap:=s3.heap.push {cls:= .type "slice",data:= .fields #[vl,vu, .none] }}:=I3.kept (t':=s3.toks) λb ob q=>Heap.get?_push_of_some _ q
 obtain ⟨T,id,hT,ht,hg⟩:=hr pins {s3 with heap:=s3.heap.push {cls:= .type "slice",data:= .fields #[vl,vu, .none] }} σ H3 x v vl vu l u s3.heap.objs.size Q I4 r1 (Heap.IsSliceOf.new ..) pl pu q3
 show wpAny (model X.prog X.w) X.A (subscriptTail e (.Slice lo hi none p2) v (.ref s3.heap.objs.size)) (EP X pins σ Q) X.xe {s3 with heap:=s3.heap.push {cls:= .type "slice",data:= .fields #[vl,vu, .none] }}
 exact tail_any (ops:= [.ref s3.heap.objs.size,v]) ht hT hg (by with_unfolding_all rfl)
def Pg (xs:List V) (lo hi:Option Int):List V:=(xs.drop (HT.sIx xs.length 0 lo)).take (HT.sIx xs.length xs.length hi-HT.sIx xs.length 0 lo)
theorem ME (xs:List V) (lo hi:Option Int):(Pg xs lo hi).length<=xs.length:=by
 unfold Pg
 rw [List.length_take,List.length_drop]
 omega
def qe (K:PySem.W.Frag):V->Option Int->Option Int->Hp->VK->Prop:=λx lo hi H Q=>∃a xs,x= .ref a/\Jr K H a xs/\
 ¬(HT.sIx xs.length 0 lo=0/\HT.sIx xs.length xs.length hi=xs.length)/\∀p,H p=none->Q (.ref p) (upd H p (.tup (Pg xs lo hi)))
theorem kM:gT X (qe X.K):=by
 intro pins s σ H x v vl vu lo hi sl Q I rx hs pl pu h
 obtain ⟨a,xs,rfl,hx,hw,q⟩:=h
 cases rx
 obtain ⟨its,r,ht,hz⟩:=I.tuple hx
 have DH:its.toArray.size=xs.length:=by rw [List.size_toArray];exact r.length.symm
 refine ⟨"tuple",_,PyProof.Rows.slot_tuple_getitem.lookup,ht.typeIs, ?_⟩
 refine HT.getItem_tuple_cut ht hs pl pu (by rw [DH];exact hw) ?_ (by rw [DH];exact hz)
 rw [DH]
 refine ⟨.ref s.heap.objs.size,_,I.laid (t':=s.toks) (o:= .tup (Pg xs lo hi)) (λb ob q=>Heap.get?_push_of_some _ q) (Nat.le_refl _) ?_,rfl,q _ (I.hok.fresh (Nat.le_refl _))⟩
 exact ⟨Nat.le_trans (ME xs lo hi) hz,_,(r.drop (HT.sIx xs.length 0 lo)).take (HT.sIx xs.length xs.length hi-HT.sIx xs.length 0 lo),IsTup.new _ _⟩
def hI (K:PySem.W.Frag):R2:=λx y H Q=>∃a b xs ys,x= .ref a/\y= .ref b/\Jr K H a xs/\Jr K H b ys/\xs≠ [] /\xs.length+ys.length<=sizeLine/\
 (ys= [] ->Q (.ref a) H)/\(ys≠ [] ->∀p,H p=none->Q (.ref p) (upd H p (.tup (xs++ys))))
theorem Ax.nil_iff {xs:List V} {us:List Value} (r:Ax xs us):us= [] ↔xs= [] :=by
 cases r with
 | nil=>simp
 | cons _ _=>simp
theorem e6:Eo X (binaryOp .Add) (hI X.K):=by
 intro pins s σ H x y v u Q I rx ry h
 obtain ⟨a,b,xs,ys,rfl,rfl,ha,hb,hx,hz,q1,q2⟩:=h
 cases rx
 cases ry
 obtain ⟨its,r1,p1,_⟩:=I.tuple ha
 obtain ⟨its2,r2,p2,_⟩:=I.tuple hb
 refine HT.cat_tup p1 p2 (λz=>hx (r1.nil_iff.mp z)) (λz=>⟨.ref a,H,I,rfl,q1 (r2.nil_iff.mp z)⟩) (λz=> ?_) (by rw [<-r1.length,<-r2.length];exact hz)
 refine ⟨.ref s.heap.objs.size,_,I.laid (t':=s.toks) (o:= .tup (xs++ys)) (λb ob q=>Heap.get?_push_of_some _ q) (Nat.le_refl _) ?_,rfl,q2 (λw=>z (r2.nil_iff.mpr w)) _ (I.hok.fresh (Nat.le_refl _))⟩
 exact ⟨by rw [List.length_append];exact hz,_,r1.append r2,IsTup.new _ _⟩
end
end L2
namespace L2
open PySem PySem.Spec PyProof.Rows
def PB (n:Nat) (i:Int):Option Nat:=if 0<=i then (if i<n then some i.toNat else none) else if -(n:Int)<=i then some (i+n).toNat else none
def Hk {α:Type} (xs:List α) (i:Int):Option α:=(PB xs.length i).bind λj=>xs[j]?
theorem XC {n:Nat} {i:Int} {j:Nat} (h:PB n i=some j):seqIndex? i n=some j/\j<n/\ -(n:Int)<=i/\i<n:=by
 unfold PB at h
 by_cases h0:0<=i
 ·rw [if_pos h0] at h
  by_cases h1:i<n
  ·rw [if_pos h1] at h
   have e:i.toNat=j:=Option.some.inj h
   exact ⟨by rw [seqIndex_of h0 h1,e],by omega,by omega,h1⟩
  ·rw [if_neg h1] at h;cases h
 ·rw [if_neg h0] at h
  by_cases h1: -(n:Int)<=i
  ·rw [if_pos h1] at h
   have e:(i+n).toNat=j:=Option.some.inj h
   exact ⟨by rw [seqIndex_neg (by omega) h1,e],by omega,h1,by omega⟩
  ·rw [if_neg h1] at h;cases h
theorem Wi {α:Type} {xs:List α} {i:Int} {v:α} (h:Hk xs i=some v):∃j,seqIndex? i xs.length=some j/\xs[j]? =some v/\j<xs.length/\ -(xs.length:Int)<=i/\i<xs.length:=by
 unfold Hk at h
 cases e:PB xs.length i with
 | none=>rw [e] at h;cases h
 | some j=>
   rw [e] at h
   obtain ⟨h1,h2,h3,h4⟩:=XC e
   exact ⟨j,h1,h,h2,h3,h4⟩
theorem Cj {α:Type} {xs:List α} {j:Nat} {v:α} (h:xs[j]? =some v):Hk xs (j:Int)=some v:=by
 have hj:j<xs.length:=(List.getElem?_eq_some_iff.mp h).1
 have e:PB xs.length (j:Int)=some j:=by
  unfold PB
  rw [if_pos (by omega),if_pos (by omega)];simp
 unfold Hk;rw [e];exact h
def RM (b:Expr):Prop:=∀o i,subscripted b false o i=operate [o,i] (getItem o i)
def dD (X:Cx) (r:R2):Prop:=
 ∀(value slice:Expr) (pins:List (Addr×Obj)) (s:Shared) (σ:St) (H:Hp) (x y:V) (v u:Value) (Q:VK),Inv X pins σ H s->RelV x v->RelV y u->r x y H Q->
  subscripted slice false v u=operate [v,u] (getItem v u)->wpAny (model X.prog X.w) X.A (subscriptTail value slice v u) (EP X pins σ Q) X.xe s
def lg (X:Cx) (id:String) (r:V->List V->Hp->VK->Prop):Prop:=
 ∀(pins:List (Addr×Obj)) (s:Shared) (σ:St) (H:Hp) (x:V) (xs:List V) (v:Value) (us:List Value) (Q:VK),Inv X pins σ H s->RelV x v->Ax xs us->r x xs H Q->
  wpAny (model X.prog X.w) X.A (call (.builtin id) (v::us)) (EP X pins σ Q) X.xe s
section
variable {X:Cx} {a b:Expr} {ta tb:TE} {pos:Pos}
theorem dD.or {r r':R2} (h:dD X r) (h':dD X r'):dD X (λx y H Q=>r x y H Q\/r' x y H Q):=by
 intro value slice pins s σ H x y v u Q I rx ry q hs
 rcases q with q|q
 ·exact h value slice pins s σ H x y v u Q I rx ry q hs
 ·exact h' value slice pins s σ H x y v u Q I rx ry q hs
theorem lg.or {id:String} {r r':V->List V->Hp->VK->Prop} (h:lg X id r) (h':lg X id r'):lg X id (λx xs H Q=>r x xs H Q\/r' x xs H Q):=by
 intro pins s σ H x xs v us Q I rx rs q
 rcases q with q|q
 ·exact h pins s σ H x xs v us Q I rx rs q
 ·exact h' pins s σ H x xs v us Q I rx rs q
theorem MN {r:R2} (hr:dD X r) (ha:PE X a ta) (hb:PE X b tb) (hs:RM b):PE X (.Subscript a b pos) (gE r ta tb):=by
 intro pins s σ H Q I h
 exact Subscript_ (ib ha hb I h λv u s2 x y H2 I2 rx ry q=>hr a b pins s2 σ H2 x y v u Q I2 rx ry q (hs _ _))
def nQ (K:PySem.W.Frag):R2:=λx y H Q=>∃p xs i v,x= .ref p/\y= .int i/\F4 K H p xs/\Hk xs i=some v/\Q v H
def nS (K:PySem.W.Frag):R2:=λx y H Q=>∃p xs i v,x= .ref p/\y= .int i/\Jr K H p xs/\Hk xs i=some v/\Q v H
theorem FE:dD X (nQ X.K):=by
 intro value slice pins s σ H x y v u Q I rx ry h hs
 obtain ⟨p,xs,i,z,rfl,rfl,hq,he,q⟩:=h
 cases rx
 obtain ⟨t,rfl⟩:=ry
 obtain ⟨its,r,pl,hz⟩:=I.list hq
 obtain ⟨j,h1,h2,h3,h4,h5⟩:=Wi he
 obtain ⟨w,ew,rw'⟩:=r.get h2
 have hl:=r.length
 have hn:=Lm
 have fin:EP X pins σ Q w s:=⟨z,H,I,rw',q⟩
 by_cases h0:0<=i
 ·have hj:i.toNat=j:=by
   rw [seqIndex_of h0 h5] at h1
   exact Option.some.inj h1
  exact item_listR pl.isList h0 (by omega) (by rw [hj];simpa using ew) fin hs
 ·have hj:(i+(its.toArray.size:Int)).toNat=j:=by
   rw [seqIndex_neg (by omega) h4] at h1
   rw [List.size_toArray,<-hl]
   exact Option.some.inj h1
  exact subscriptTail_builtinR (x:=w) pl.isList.typeIs slot_list_getitem.lookup
   (wpAny_getItem_list_neg (Q:=λr s'=>r=w/\EP X pins σ Q r s') pl.isList (by omega) (by rw [List.size_toArray] <;> omega) (by omega) (by rw [hj];simpa using ew) ⟨rfl,fin⟩) hs
theorem jL:dD X (nS X.K):=by
 intro value slice pins s σ H x y v u Q I rx ry h hs
 obtain ⟨p,xs,i,z,rfl,rfl,hq,he,q⟩:=h
 cases rx
 obtain ⟨t,rfl⟩:=ry
 obtain ⟨its,r,pl,hz⟩:=I.tuple hq
 obtain ⟨j,h1,h2,h3,h4,h5⟩:=Wi he
 obtain ⟨w,ew,rw'⟩:=r.get h2
 have hl:=r.length
 have hn:=Lm
 have fin:EP X pins σ Q w s:=⟨z,H,I,rw',q⟩
 exact subscriptTail_builtinR (x:=w) pl.typeIs slot_tuple_getitem.lookup
  (getItem_tuple (j:=j) (Q:=λr s'=>r=w/\EP X pins σ Q r s') pl (by omega) (by omega) (by rw [List.size_toArray,<-hl];exact h1) (by simpa using ew) ⟨rfl,fin⟩) hs
theorem Vs (its:List Value) (n j:Nat) (u:Value):Obj.mapSeq (·.setIfInBounds j u) {cls:= .type "list",data:= .seq its.toArray n}={cls:= .type "list",data:= .seq (its.set j u).toArray n}:=by
 simp [Obj.mapSeq]
theorem Inv.lst {pins:List (Addr×Obj)} {σ:St} {H:Hp} {s:Shared} {p:Addr} {xs:List V} (I:Inv X pins σ H s) (h:H p=some (.lst xs)):
 ∃(its:List Value) (n:Nat),Ax xs its/\s.heap.get? p=some {cls:= .type "list",data:= .seq its.toArray n}/\xs.length<=sizeLine:=by
 obtain ⟨z,its,n,r,e⟩:=I.hok p _ h
 exact ⟨its,n,r,e,z⟩
theorem Inv.lstUpd {pins:List (Addr×Obj)} {σ:St} {H:Hp} {s:Shared} {p:Addr} {xs ys:List V} {its its':List Value} {n n':Nat} {f:Obj->Obj} (I:Inv X pins σ H s) (h:H p=some (.lst xs))
 (ho:s.heap.get? p=some {cls:= .type "list",data:= .seq its.toArray n}) (hf:f {cls:= .type "list",data:= .seq its.toArray n}={cls:= .type "list",data:= .seq its'.toArray n'}) (r:Ax ys its') (hz:ys.length<=sizeLine) (t:Nat):
 Inv X pins σ (upd H p (.lst ys)) {s with heap:=s.heap.update p f,toks:=t}:=by
 have e:(s.heap.update p f).get? p=some {cls:= .type "list",data:= .seq its'.toArray n'}:=by
  rw [Heap.get?_update_self f ho (by rw [hf] <;> rfl),hf]
 refine I.write (x:=p) (e:=p) (by rw [h];trivial) (.inl rfl) (λb u hb q=>(Heap.get?_update_other _ _ (Ne.symm hb)).trans q) ⟨_,e⟩ ?_
 exact ⟨hz,its',n',r,e⟩
def nW:V->V->V->Hp->(Hp->Prop)->Prop:=λo i v H Q=>∃p xs k j,o= .ref p/\i= .int k/\H p=some (.lst xs)/\PB xs.length k=some j/\Q (upd H p (.lst (xs.set j v)))
theorem Op:lj X nW:=by
 intro pins s σ H o i v ov iv u Q I ro ri rv h
 obtain ⟨p,xs,k,j,rfl,rfl,hp,hj,q⟩:=h
 cases ro
 obtain ⟨t,rfl⟩:=ri
 obtain ⟨its,n,r,ho,hz⟩:=I.lst hp
 obtain ⟨h1,h2,h3,h4⟩:=XC hj
 have hl:=r.length
 have hn:=Lm
 have I':Inv X pins σ (upd H p (.lst (xs.set j v))) {s with heap:=s.heap.update p (Obj.mapSeq (·.setIfInBounds j u))}:=
  I.lstUpd hp ho (Vs its n j u) (r.set rv j) (by rw [List.length_set];exact hz) s.toks
 by_cases h0:0<=k
 ·have hk:k.toNat=j:=by
   rw [seqIndex_of h0 h4] at h1
   exact Option.some.inj h1
  exact PySem.W.ki_setAt ho h0 (by omega) (by rw [List.size_toArray,<-hl];exact h4) (by rw [hk];exact ⟨_,I',q⟩)
 ·have hk:(k+(its.toArray.size:Int)).toNat=j:=by
   rw [seqIndex_neg (by omega) h3] at h1
   rw [List.size_toArray,<-hl]
   exact Option.some.inj h1
  exact PySem.W.ki_setBack ho (by omega) (by rw [List.size_toArray,<-hl];exact h3) (by omega) (by rw [hk];exact ⟨_,I',q⟩)
theorem Ss (lo hi:Option Int) (n:Nat):(sliceBounds lo hi none n).1=((HT.sIx n 0 lo:Nat):Int)/\(sliceBounds lo hi none n).2.1=((HT.sIx n n hi:Nat):Int)/\(sliceBounds lo hi none n).2.2=1:=by
 refine ⟨?_, ?_,rfl⟩
 ·cases lo with
  | none=>simp [sliceBounds,HT.sIx]
  | some i=>
    simp only [sliceBounds,HT.sIx,Option.getD_none,show (1:Int)>0 by decide,if_true]
    by_cases h:i<0
    ·simp only [h,if_true] <;> omega
    ·simp only [h,if_false] <;> omega
 ·cases hi with
  | none=>simp [sliceBounds,HT.sIx]
  | some i=>
    simp only [sliceBounds,HT.sIx,Option.getD_none,show (1:Int)>0 by decide,if_true]
    by_cases h:i<0
    ·simp only [h,if_true] <;> omega
    ·simp only [h,if_false] <;> omega
theorem P9 (its:List Value) (lo hi:Option Int):slicePick its.toArray lo hi none=((its.drop (HT.sIx its.length 0 lo)).take (HT.sIx its.length its.length hi-HT.sIx its.length 0 lo)).toArray:=by
 obtain ⟨h1,h2,h3⟩:=Ss lo hi its.toArray.size
 unfold slicePick
 rw [h1,h2,h3]
 simp only [sliceRange_one,pick_run,List.size_toArray] <;> rfl
def qd (K:PySem.W.Frag):V->Option Int->Option Int->Hp->VK->Prop:=λx lo hi H Q=>∃a xs,x= .ref a/\F4 K H a xs/\∀p,H p=none->Q (.ref p) (upd H p (.lst (Pg xs lo hi)))
theorem fu:gT X (qd X.K):=by
 intro pins s σ H x v vl vu lo hi sl Q I rx hs pl pu h
 obtain ⟨a,xs,rfl,hx,q⟩:=h
 cases rx
 obtain ⟨its,r,ht,hz⟩:=I.list hx
 have DH:=r.length
 refine ⟨"list",_,slot_list_getitem.lookup,ht.isList.typeIs, ?_⟩
 refine wpAny_getItem_list_slice ht.isList hs pl pu .none (by simp) ?_ (by rw [List.size_toArray] <;> omega)
 rw [P9,<-DH]
 refine ⟨.ref s.heap.objs.size,_,I.laid (t':=s.toks) (o:= .lst (Pg xs lo hi)) (λb ob q=>Heap.get?_push_of_some _ q) (Nat.le_refl _) ?_,rfl,q _ (I.hok.fresh (Nat.le_refl _))⟩
 exact ⟨Nat.le_trans (ME xs lo hi) hz,_,0,(r.drop (HT.sIx xs.length 0 lo)).take (HT.sIx xs.length xs.length hi-HT.sIx xs.length 0 lo),Heap.get?_push_size _ rfl⟩
theorem Jy:CH X (.builtin "len") (λxs H Q=>∃p ys,xs= [.ref p] /\(F4 X.K H p ys\/Jr X.K H p ys)/\Q (.int ys.length) H):=by
 intro pins s σ H xs us Q I r h
 obtain ⟨p,ys,rfl,hq,q⟩:=h
 obtain ⟨u,rfl,rx⟩:=vals1 r
 cases rx
 have hn:=Lm
 rcases hq with hq|hq
 ·obtain ⟨its,r',pl,hz⟩:=I.list hq
  have DH:=r'.length
  exact Calls.call_len_list pl.isList (by simp only [List.size_toArray] <;> omega) ⟨.int ys.length,H,I.tok _,⟨s.toks+1,by rw [List.size_toArray,DH]⟩,q⟩
 ·obtain ⟨its,r',pl,hz⟩:=I.tuple hq
  have DH:=r'.length
  exact len_tuple pl (by simp only [List.size_toArray] <;> omega) ⟨.int ys.length,H,I.tok _,⟨s.toks+1,by rw [List.size_toArray,DH]⟩,q⟩
theorem CH.or {f:Value} {r r':List V->Hp->VK->Prop} (h:CH X f r) (h':CH X f r'):CH X f (λxs H Q=>r xs H Q\/r' xs H Q):=by
 intro pins s σ H xs us Q I rs q
 rcases q with q|q
 ·exact h pins s σ H xs us Q I rs q
 ·exact h' pins s σ H xs us Q I rs q
theorem RP:CH X (.type "list") (λxs H Q=>∃p ys,xs= [.ref p] /\(F4 X.K H p ys\/Jr X.K H p ys)/\∀l,H l=none->Q (.ref l) (upd H l (.lst ys))):=by
 intro pins s σ H xs us Q I r h
 obtain ⟨p,ys,rfl,hq,q⟩:=h
 obtain ⟨u,rfl,rx⟩:=vals1 r
 cases rx
 have fin:∀(its:List Value),Ax ys its->ys.length<=sizeLine->∀(h':Heap) (c':Nat),(∀b o',s.heap.get? b=some o'->h'.get? b=some o')->
  h'.get? s.heap.objs.size=some {cls:= .type "list",dict:=none,data:= .seq its.toArray c',slots:= #[] }->EP X pins σ Q (.ref s.heap.objs.size) {s with heap:=h'}:=λits r' hz h' c' kp e=>
  ⟨.ref s.heap.objs.size,_,I.laid (t':=s.toks) kp (Nat.le_refl _) (show DN X.prog X.w _ h' _ (.lst ys) from ⟨hz,its,c',r',e⟩),rfl,q _ (I.hok.fresh (Nat.le_refl _))⟩
 rcases hq with hq|hq
 ·obtain ⟨its,r',pl,hz⟩:=I.list hq
  have DH:=r'.length
  obtain ⟨o,ho,hc,n,hd⟩:=pl.isList
  exact call_list_seq p (.inl rfl) ho hc hd (λh' c' kp e=>fin its r' hz h' c' kp e) (by simp only [List.size_toArray] <;> omega)
 ·obtain ⟨its,r',pl,hz⟩:=I.tuple hq
  have DH:=r'.length
  obtain ⟨o,ho,hc,n,hd⟩:=pl
  exact call_list_seq p (.inr rfl) ho hc hd (λh' c' kp e=>fin its r' hz h' c' kp e) (by simp only [List.size_toArray] <;> omega)
theorem Pf:CH X (.type "tuple") (λxs H Q=>∃p ys,xs= [.ref p] /\((F4 X.K H p ys/\∀l,H l=none->Q (.ref l) (upd H l (.tup ys)))\/(Jr X.K H p ys/\Q (.ref p) H))):=by
 intro pins s σ H xs us Q I r h
 obtain ⟨p,ys,rfl,h⟩:=h
 obtain ⟨u,rfl,rx⟩:=vals1 r
 cases rx
 rcases h with ⟨hq,q⟩|⟨hq,q⟩
 ·obtain ⟨its,r',pl,hz⟩:=I.list hq
  have DH:=r'.length
  refine call_tuple_list pl.isList (λh' kp=> ?_) (by simp only [List.size_toArray] <;> omega)
  have I1:Inv X pins σ H {s with heap:=h'}:=I.kept (t':=s.toks) kp
  have I2:Inv X pins σ (upd H h'.objs.size (.tup ys)) {s with heap:=h'.push {cls:= .type "tuple",data:= .seq its.toArray}}:=
   I1.laid (t':=s.toks) (λb o e=>Heap.get?_push_of_some _ e) (Nat.le_refl _) (show DN X.prog X.w _ _ _ (.tup ys) from ⟨hz,its,r',IsTup.new _ _⟩)
  exact ⟨.ref h'.objs.size,_,I2,rfl,q _ (I1.hok.fresh (Nat.le_refl _))⟩
 ·obtain ⟨its,r',pl,hz⟩:=I.tuple hq
  exact call_tuple_same pl ⟨.ref p,H,I,rfl,q⟩
def t5 (K:PySem.W.Frag) (T:String) (x:V) (H:Hp):Prop:=match x with
 | .str _=>T="str"
 | .int _=>T="int"
 | .ref p=>(T="list" /\∃xs,F4 K H p xs)\/(T="tuple" /\∃o,K.lookup p=some o/\o.cls= .type "tuple" /\o.dict=none)\/
     (T="dict" /\((∃kvs,H p=some (.dK kvs))\/∃kvs,H p=some (.dT kvs)))\/(T="set" /\∃S n,H p=some (.set S n))
 | _=>False
theorem kW {pins:List (Addr×Obj)} {σ:St} {H:Hp} {s:Shared} {T:String} {x:V} {v:Value} (I:Inv X pins σ H s) (r:RelV x v) (ty:t5 X.K T x H):
 s.TypeIs v T/\∀a,v= .ref a->∃ob,s.heap.get? a=some ob/\ob.dict=none:=by
 cases x with
 | str z=>
   obtain ⟨t,rfl⟩:=r
   cases (show T="str" from ty)
   exact ⟨typeIs_str s z t,λ_ e=>nomatch e⟩
 | int i=>
   obtain ⟨t,rfl⟩:=r
   cases (show T="int" from ty)
   exact ⟨typeIs_int s i t,λ_ e=>nomatch e⟩
 | ref p=>
   cases r
   rcases ty with ⟨rfl,xs,hq⟩|⟨rfl,o,hk,hc,hd⟩|⟨rfl,hk⟩|⟨rfl,S,n,hk⟩
   ·obtain ⟨its,_,pl,_⟩:=I.list hq
    refine ⟨pl.isList.typeIs,λa e=> ?_⟩
    cases e
    obtain ⟨o,n,e,c,hd,_⟩:=pl
    exact ⟨o,e,hd⟩
   ·refine ⟨⟨o,I.kIn p o hk,hc⟩,λa e=> ?_⟩
    cases e
    exact ⟨o,I.kIn _ o hk,hd⟩
   ·have z:∃o,s.heap.get? p=some o/\o.ExactDict:=by
     rcases hk with ⟨kvs,hk⟩|⟨kvs,hk⟩
     ·obtain ⟨_,_,_,_,o,_,_,e,ex,_⟩:=I.hok p _ hk
      exact ⟨o,e,ex⟩
     ·obtain ⟨_,_,_,_,o,_,_,e,ex,_⟩:=I.hok p _ hk
      exact ⟨o,e,ex⟩
    obtain ⟨o,e,ex⟩:=z
    refine ⟨⟨o,e,ex.1⟩,λa e2=> ?_⟩
    cases e2
    exact ⟨o,e,ex.2.1⟩
   ·obtain ⟨o,_,_,_,e,ex,_⟩:=I.hok p _ hk
    refine ⟨⟨o,e,ex.1⟩,λa e2=> ?_⟩
    cases e2
    exact ⟨o,e,ex.2.1⟩
 | _=>exact False.elim ty
def t0 (K:PySem.W.Frag) (T:String) (r:V->List V->Hp->VK->Prop) (to:TE) (t:TA):TE:=λσ H Q=>to σ H λx H1=>t5 K T x H1/\t σ H1 λxs H2=>r x xs H2 Q
variable {o e:Expr} {es:List Expr} {to:TE} {t:TA} {name:Str} {apos cpos:Pos} {T id:String} {r:V->List V->Hp->VK->Prop}
theorem nL (pa:PlainAttrs T) (slot:Slot T name id) (qR:typeOf (.builtin id)=pure (.type "method_descriptor")) (hm:lg X id r) (ho:PE X o to) (ha:PA X (e::es) t)
 (aH:attributeBase o name X.env (eval o X.env)=eval o X.env:=by rfl)
 (i8:((backTo cpos (starEach (e::es) X.env)).all (λx=> !x.1)&&(backToKw cpos (keywordEach [] X.env)).all (λx=>x.1.isSome)
   && decide ((e::es).length+([] :List Keyword).length+(if ([] :List Keyword).isEmpty then 0 else 1)<30))=true:=by rfl)
 (W6:(apos.endLine==cpos.line)=true:=by rfl) (hs:starEach (e::es) X.env=(false,eval e X.env)::starEach es X.env:=by rfl) (Vj:(backTo cpos (starEach es X.env)).any (·.1)=false:=by rfl):
 PE X (.Call (.Attribute o name apos) (e::es) [] cpos) (t0 X.K T r to t):=by
 intro pins s σ H Q I h
 refine wpAny_Call_method_late aH i8 W6 rfl (Bg (ho pins s σ H _ I h) λv s1 ⟨x,H1,I1,r1,ty,q1⟩=> ?_)
 obtain ⟨h1,h2⟩:=kW I1 r1 ty
 refine ⟨T,id,pa,slot,qR,h1,h2, ?_⟩
 have hA:=ha cpos pins s1 σ H1 _ I1 q1
 rw [hs] at hA ⊢
 refine Calls.callWith_builtin (by show (false||(backTo cpos (starEach es X.env)).any (·.1))=false;rw [Vj] <;> rfl) (Calls.evalArgs_plain ?_)
 exact Bg hA λus s2 ⟨vs,H2,I2,r2,q2⟩=>hm pins s2 σ H2 x vs v us Q I2 r1 r2 q2
end
end L2
namespace L2
open PySem PySem.Spec PyProof.Rows
def lc (X:Cx) (id:String) (r:V->List V->Hp->VK->Prop):Prop:=
 ∀(pins:List (Addr×Obj)) (s:Shared) (σ:St) (H:Hp) (x:V) (xs:List V) (v:Value) (us:List Value) (Q:VK),Inv X pins σ H s->RelV x v->Ax xs us->r x xs H Q->
  wpAny (model X.prog X.w) X.A (call (.builtin id) (v::us)) (EP X pins σ Q) X.xe s
theorem Ax.one:∀{x:V} {us:List Value},Ax [x] us->∃u,us= [u] /\RelV x u
 | _,_, .cons r .nil=>⟨_,rfl,r⟩
theorem Ax.two:∀{x y:V} {us:List Value},Ax [x,y] us->∃u v,us= [u,v] /\RelV x u/\RelV y v
 | _,_,_, .cons r (.cons q .nil)=>⟨_,_,rfl,r,q⟩
theorem Ax.zero:∀{us:List Value},Ax [] us->us= []
 | _, .nil=>rfl
theorem Ax.dropLast {xs:List V} {us:List Value} (h:Ax xs us):Ax xs.dropLast us.dropLast:=by
 induction h with
 | nil=>exact .nil
 | cons r t ih=>
   cases t with
   | nil=>exact .nil
   | cons q t'=>exact .cons r ih
theorem Ax.reverse {xs:List V} {us:List Value} (h:Ax xs us):Ax xs.reverse us.reverse:=by
 induction h with
 | nil=>exact .nil
 | cons r t ih=>rw [List.reverse_cons,List.reverse_cons];exact Ax.append ih (.cons r .nil)
section
variable {X:Cx} {pins:List (Addr×Obj)} {σ:St} {H:Hp} {s:Shared} {l b:Addr} {xs ys zs:List V}
theorem Inv.lset {its its':List Value} {n:Nat} {f:Array Value->Array Value} {t':Nat} (I:Inv X pins σ H s) (hH:H l=some (.lst xs))
 (e:s.heap.get? l=some {cls:= .type "list",data:= .seq its.toArray n}) (hf:f its.toArray=its'.toArray) (hv:Ax ys its') (hz:ys.length<=sizeLine):
 Inv X pins σ (upd H l (.lst ys)) {s with heap:=s.heap.update l (Obj.mapSeq f),toks:=t'}:=by
 have q:=PySem.IsL.update e f
 rw [hf] at q
 refine I.write (x:=l) (e:=l) (by rw [hH];exact trivial) (.inl rfl) (λb' u hb hu=>(Heap.get?_update_other s.heap (Obj.mapSeq f) (Ne.symm hb)).trans hu) ⟨_,q⟩ ?_
 exact ⟨hz,its',_,hv,q⟩
theorem Inv.lnew {its:List Value} {t':Nat} (I:Inv X pins σ H s) (hv:Ax ys its) (hz:ys.length<=sizeLine):
 Inv X pins σ (upd H s.heap.objs.size (.lst ys)) {s with heap:=s.heap.push {cls:= .type "list",data:= .seq its.toArray},toks:=t'}:=
 I.laid (λ_ _ q=>Heap.get?_push_of_some _ q) (Nat.le_refl _) ⟨hz,its,0,hv,Heap.get?_push_size _ rfl⟩
theorem Inv.fresh (I:Inv X pins σ H s):H s.heap.objs.size=none:=I.hok.fresh (Nat.le_refl _)
theorem Inv.lstM (I:Inv X pins σ H s) (hH:H l=some (.lst xs)):xs.length<=sizeLine/\∃(its:List Value) (n:Nat),Ax xs its/\xs.length=its.length/\s.heap.get? l=some {cls:= .type "list",data:= .seq its.toArray n}:=by
 obtain ⟨z,its,n,r,e⟩:=I.hok l _ hH
 exact ⟨z,its,n,r,r.length,e⟩
end
section
variable {X:Cx}
def SJ:V->List V->Hp->VK->Prop:=λx vs H Q=>∃l xs y,x= .ref l/\vs= [y] /\H l=some (.lst xs)/\xs.length<sizeLine/\Q .non (upd H l (.lst (xs ++ [y])))
theorem Ho:lc X "list.append" SJ:=by
 intro pins s σ H x vs v us Q I rx rv h
 obtain ⟨l,xs,y,rfl,rfl,hH,hz,q⟩:=h
 cases rx
 obtain ⟨u,rfl,ru⟩:=rv.one
 obtain ⟨z,its,n,r,hl,e⟩:=I.lstM hH
 refine call_meets F.slot_list_append ⟨_,e,rfl⟩ F.entry_list_append (F.args_list_append_2 _ _) (PySem.list_append l its.toArray n u (by rw [List.size_toArray];omega)) ⟨e, ?_⟩
 refine ⟨.non,_,I.lset (its':=its ++ [u]) hH e (by simp) (r.append (.cons ru .nil)) ?_,rfl,q⟩
 rw [List.length_append,List.length_singleton]
 omega
def nO:R2:=λx y H Q=>∃l b xs zs,x= .ref l/\y= .ref b/\H l=some (.lst xs)/\H b=some (.lst zs)/\xs.length+zs.length<=sizeLine/\∀p,H p=none->Q (.ref p) (upd H p (.lst (xs++zs)))
theorem jm:Eo X (binaryOp .Add) nO:=by
 intro pins s σ H x y v u Q I rx ry h
 obtain ⟨l,b,xs,zs,rfl,rfl,hH,hB,hz,q⟩:=h
 cases rx
 cases ry
 obtain ⟨z,its,n,r,hl,e⟩:=I.lstM hH
 obtain ⟨z2,its2,n2,r2,qI,e2⟩:=I.lstM hB
 refine PySem.P.add_list e e2 ?_ (by rw [List.size_toArray,List.size_toArray];omega)
 have ea:its.toArray++its2.toArray=(its++its2).toArray:=by simp
 rw [ea]
 exact ⟨.ref _,_,I.lnew (t':=s.toks) (r.append r2) (by rw [List.length_append];omega),rfl,q _ I.fresh⟩
end
section
variable {prog:Program} {w:World} {A:Around} {E:Value->Shared->Prop} {s:Shared}
set_option maxRecDepth 100000 in
end
section
variable {X:Cx}
end
end L2
namespace Att
open PySem PySem.W PySem.Calls PyProof.Rows
theorem Mr {P:Params} {h:Heap}:∀(ns:List Int) (vs:List Value),WellAll P h vs (ns.map WData.int)->IntsAre vs ns:=by
 intro ns
 induction ns with
 | nil=>
   intro vs w
   rw [List.map_nil] at w
   cases w
   exact .nil
 | cons n ns ih=>
   intro vs w
   rw [List.map_cons] at w
   cases w with
   | cons a b=>
     cases a
     exact .cons _ _ (ih _ b)
theorem Yq {l:OpenLaw} {n:Nat} (hn:l.most=some n) {P:Params} {h:Heap} {args:List WData} {vals:List Value}
 (d8:l.row.toRowW.claim.pre args=true) (qS:WellAll P h vals args):
 ∃a vs ns,vals= [Value.ref a] /\args= [WData.list (ns.map WData.int)] /\h.get? a=some {cls:= .type "list",data:= .seq vs.toArray}/\IntsAre vs ns/\ns.length<=n:=by
 have wX:WShape.hasAll [] args [.list .int] =true:=(pre_splitW d8).1
 have hc:l.pre.holds [] {args:=args}=true:=(pre_splitW d8).2
 obtain ⟨d,r,rfl,h1,h2⟩:=hasAllW_cons wX
 obtain rfl:=hasAllW_nil h2
 obtain ⟨xs,rfl,h3⟩:=hasW_list h1
 obtain ⟨ns,rfl⟩:=items_int h3
 have DH:ns.length<=n:=by
  unfold OpenLaw.pre at hc
  have h4:(WTm.not (.lt (.lit (.int (n:Int))) (.len (.arg 0)))).holds [] {args:= [.list (ns.map .int)] }=true:=by
   have h4:=(holds_andW hc).1
   rw [hn] at h4
   exact h4
  have h5:=condW_of h4 (w_not (w_lt w_lit (w_len_list (w_arg rfl))))
  rw [List.length_map] at h5
  refine Nat.le_of_not_lt λq=> ?_
  have q':(n:Int)<((ns.length:Nat):Int):=by omega
  first
   | (rw [decide_eq_true q'] at h5;exact absurd h5 (by decide))
   | (simp at h5;omega)
 cases qS with
 | cons w1 w2=>
   cases w2
   cases w1 with
   | list ho YJ=>exact ⟨_,_,ns,rfl,rfl,ho,Mr ns _ YJ,DH⟩
theorem Yl (l:OpenLaw) (args:List WData):l.row.toRowW.claim.post args (.bool true) args=true:=
 postW_of (r:=l.row.toRowW) (X:=(true==true))
  (show WShape.has [] (.bool true) .bool=true by first | rfl|decide|simp [WShape.has,WShape.arms,WShape.armsAll])
  (show (WTm.eq .res (.lit (.bool true))).value [] {args:=args,res:=some (.bool true),after:=args}=some (.bool (true==true)) from w_eq_bool (w_res rfl) w_lit) rfl
theorem attach_call {l:OpenLaw} {n:Nat} {q:Program} {loose:List Str} {XP:(Str->Option Value)->Heap->Prop} {YP:World->Heap->Prop} {d:DefRec}
 (hn:l.most=some n) (mH:d.params.defaults= [])
 (call:∀(w:World) (s₀ s₁:Shared) (mg mb:Str->Option Value) (fa:Addr) (o:Obj) (pm cd doc:Value) (a:Addr) (vs:List Value) (ns:List Int),
   Ground q loose [] XP w s₀ mg mb s₁.heap->YP w s₁.heap->
   s₁.heap.get? fa=some o->o.data= .func (docDef d.name d.params d.body d.scope pm cd doc)->s₁.heap.CodeRec cd d.name->mg d.name=some (.ref fa)->
   s₁.heap.get? a=some {cls:= .type "list",data:= .seq vs.toArray}->IntsAre vs ns->ns.length<=n->s₁.gens= #[] ->
   codeAny (model l.prog w) callerA (.call (.ref fa) ⟨[.ref a], []⟩) (λr s'=>r= .ok (.ret (.bool true))/\OldK s₁.heap s'.heap/\s'.os=s₁.os/\AllBare s'.gens) s₁):
 WalkO q loose XP YP l.row.toRowW d [] (λf vs=>PySem.call f vs):=by
 intro w s₀ s₁ mg mb G Y fa o pm cd doc dV kV ho hd M8 hD mM hg args vals as d8 wN xc qS xZ
 obtain rfl:dV= .none:=Dflts.none hD mH
 obtain rfl:kV= .none:=Dflts.noKw hD
 obtain ⟨a,vs,ns,rfl,rfl,jD,aJ,DH⟩:=Yq hn d8 qS
 refine enter_call (codeAny_mono (call w s₀ s₁ mg mb fa o pm cd doc a vs ns G Y ho (fd_plain hd) M8 mM jD aJ DH hg) λr s' hq=> ?_)
 obtain ⟨rfl,h2,h3,h4⟩:=hq
 exact ⟨.inl ⟨.bool true, .bool true, [],rfl,λ_=>rfl, .bool true,Yl l _,λ_=>⟨List.Pairwise.nil,λ_ hm=>(nomatch hm)⟩⟩,h2,h3,h4⟩
section
variable {prog:Program} {w:World} {A:Around} {E:Value->Shared->Prop} {s:Shared} {K:Frag}
def qY (h:Heap) (L d:Addr):List (Addr×Obj):=(List.range h.objs.size).filterMap λa=>if a=L\/a=d then none else (h.get? a).map λo=>(a,o)
end
end Att
namespace L2
open PySem PySem.Spec PyProof.Rows
theorem Qw:∀{vs:List Value} {ns:List Int},IntsAre vs ns->Ax (ns.map V.int) vs
 | _,_, .nil=> .nil
 | _,_, .cons n t h=> .cons ⟨t,rfl⟩ (Qw h)
def iQ (H:Hp):Prop:=∀b,H b=none\/∃o xs,H b=some (.frz o (.lst xs))
theorem aU {P:Program} {w:World} {K:PySem.W.Frag} {mg mb:Str->Option Value} {CX:Xp} {k:Nat} {fa a:Addr} {fd:FuncData} {x:Str} {sp:Sp} {s₁:Shared} {vs:List Value} {ns:List Int}
 (KX:K.In s₁.heap) (gi:s₁.heap.Ns mainGlobals mg) (hb:s₁.heap.Ns builtinsNs mb) (wA:∀x:Str,x≠"__name__" ->mb x=bootBuiltins x) (qJ:s₁.heap.NoLimit) (hg:s₁.gens= #[])
 (ha:s₁.heap.get? a=some {cls:= .type "list",data:= .seq vs.toArray}) (hi:IntsAre vs ns) (hl:ns.length<=sizeLine) (hr:Room k callerA)
 (F:∀base:Heap,K.In base->base.Ns mainGlobals mg->A8 P w K mg base CX k fa fd [x] sp) (mC:∀(s:Shared) (u:Value),BindsTo s fd ⟨[u], []⟩ [(x,u)])
 (gj:∀H:Hp,iQ H->F4 K H a (ns.map V.int)->sp [.ref a] H (λv _=>v= .bl true) λ_ _ _=>False)
 (pk:∀H e s',CX [] H s₁ (λ_ _ _=>False) e s'->False):
 codeAny (model P w) callerA (.call (.ref fa) ⟨[.ref a], []⟩) (λr s'=>r= .ok (.ret (.bool true))/\OldK s₁.heap s'.heap/\s'.os=s₁.os/\AllBare s'.gens) s₁:=by
 have rv:=Qw hi
 have lenV:=hi.length
 have core:∀H:Hp,iQ H->F4 K H a (ns.map V.int)->Mi P w H s₁.heap->(∀b,H b≠none->b=a)->(H a≠none->K.lookup a=none)->
  codeAny (model P w) callerA (.call (.ref fa) ⟨[.ref a], []⟩) (λr s'=>r= .ok (.ret (.bool true))/\OldK s₁.heap s'.heap/\s'.os=s₁.os/\AllBare s'.gens) s₁:=by
  intro H hO hS hok hA hK
  have base_of:∀{b:Addr} {o:Obj},s₁.heap.get? b=some o->H b=none->(Ra s₁.heap H).get? b=some o:=λe n=>aI e n
  have noA:∀{b:Addr} {o:Obj} {es:Array DictEntry} {ep:Nat},s₁.heap.get? b=some o->o.data= .dict es ep->H b=none:=λ{b o es ep} e d=>by
   cases q:H b with
   | none=>rfl
   | some u=>
     have e':b=a:=hA b (by rw [q];simp)
     subst e'
     rw [ha] at e;cases e
     have d':Data.seq vs.toArray _=Data.dict es ep:=d
     cases d'
  have nsK:∀{b:Addr} {m:Str->Option Value},s₁.heap.Ns b m->(Ra s₁.heap H).Ns b m:=λ{b m} ⟨o,es,ep,e,d,r⟩=>⟨o,es,ep,base_of e (noA e d),d,r⟩
  have sZ:K.In (Ra s₁.heap H):=λb o e=>base_of (KX b o e) (by
   cases q:H b with
   | none=>rfl
   | some u=>
     have e':b=a:=hA b (by rw [q];simp)
     subst e'
     rw [hK (by rw [q];simp)] at e;cases e)
  have hM:Mod K mg (Ra s₁.heap H):=⟨sZ,nsK gi,⟨mb,nsK hb,wA⟩,let ⟨mc,h1,h2⟩:=qJ;⟨mc,nsK h1,h2⟩⟩
  have e0:PY P w K mg (Ra s₁.heap H) callerA [] s₁ H:=⟨rfl,hM,λb o e=>eU e,Nat.le_of_eq (YK _ _),trivial,λb hb=>absurd (show b∈([] :List Addr) from hb) (by simp),hok, .of_eq hg⟩
  refine codeAny_mono ((F _ sZ (nsK gi)).run callerA [] s₁ H ⟨[.ref a], []⟩ [.ref a] [.ref a] _ _ hr e0 (mC s₁ (.ref a)) (.cons rfl .nil) (gj H hO hS)) λr s' h=> ?_
  cases r with
  | error e=>exact (pk H e s' h).elim
  | ok fl=>
    cases fl with
    | next=>exact False.elim h
    | brk=>exact False.elim h
    | cont=>exact False.elim h
    | ret u=>
      obtain ⟨v,H',os,bare,un,qM,r',q⟩:=h
      have q':v= .bl true:=q
      subst q'
      obtain rfl:u=Value.bool true:=r'
      refine ⟨rfl,OldK.of_keep λb o e=> ?_,os,bare⟩
      cases q:H b with
      | none=>exact un.keep b o e q (by intro z;exact absurd (show b∈([] :List Addr) from z) (by simp)) (by simp)
      | some u=>
        rcases hO b with z|⟨ob,xs,z⟩
        ·rw [q] at z;cases z
        ·have z2:=un.frzs b ob _ z
         obtain ⟨e1,_⟩:=hok b _ z
         obtain ⟨e2,_⟩:=qM b _ z2
         rw [e] at e1;cases e1
         exact e2
 cases hk:K.lookup a with
 | some o=>
   have e:=KX a o hk
   rw [ha] at e
   cases e
   refine core (λ_=>none) (λ_=> .inl rfl) (.inr ⟨_,vs.toArray,_,hk,rfl,rfl,rfl,by rw [List.size_toArray,lenV];exact hl,by simpa using rv⟩) (λb u z=>by have z':(none:Option HO)=some u:=z;cases z') (λb z=>absurd rfl z) λz=>absurd rfl z
 | none=>
   refine core (λb=>if b=a then some (.frz {cls:= .type "list",data:= .seq vs.toArray} (.lst (ns.map V.int))) else none) (λb=> ?_) (.inl (.inr ⟨{cls:= .type "list",data:= .seq vs.toArray},if_pos rfl⟩)) (λb u z=> ?_) (λb z=> ?_) λ_=>hk
   ·by_cases hb:b=a
    ·exact .inr ⟨_,_,if_pos hb⟩
    ·exact .inl (if_neg hb)
   ·by_cases hb:b=a
    ·have z':=(if_pos hb).symm.trans z
     cases z'
     subst hb
     exact ⟨ha,by rw [List.length_map];exact hl,vs,_,rv,ha⟩
    ·have z':=(if_neg hb).symm.trans z
     cases z'
   ·by_cases hb:b=a
    ·exact hb
    ·exact absurd (if_neg hb) z
end L2
namespace L2
open PySem PySem.Spec PyProof.Rows
abbrev xP {K:PySem.W.Frag} {h:Heap} (_:K.In h):PySem.W.Frag:=K
theorem walk_of {l:PySem.W.OpenLaw} {n k:Nat} {q:Program} {loose:List Str} {XP:(Str->Option Value)->Heap->Prop} {YP:World->Heap->Prop} {d:DefRec} {K:Params->PySem.W.Frag} {CX:World->Xp} {sp:World->Sp} {x:Str}
 (hn:l.most=some n) (wS:n<=sizeLine) (mH:d.params.defaults= []) (hr:Room k callerA)
 (hY:∀(w:World) (h:Heap),YP w h->(K w.params).In h)
 (F:∀(w:World) (mg:Str->Option Value) (fa:Addr) (h:Heap),(K w.params).In h->h.Ns mainGlobals mg->mg d.name=some (.ref fa)->
   ∃fd:FuncData,(∀(s:Shared) (u:Value),BindsTo s fd ⟨[u], []⟩ [(x,u)])/\
    ∀base:Heap,(K w.params).In base->base.Ns mainGlobals mg->A8 l.prog w (K w.params) mg base (CX w) k fa fd [x] (sp w))
 (gj:∀(w:World) (H:Hp) (a:Addr) (ns:List Int),ns.length<=n->iQ H->F4 (K w.params) H a (ns.map V.int)->sp w [.ref a] H (λv _=>v= .bl true) λ_ _ _=>False)
 (pk:∀(w:World) (H:Hp) (s:Shared) (e:Value) (s':Shared),CX w [] H s (λ_ _ _=>False) e s'->False):
 PySem.W.WalkO q loose XP YP l.row.toRowW d [] (λf vs=>PySem.call f vs):=by
 refine Att.attach_call hn mH λw s₀ s₁ mg mb fa o pm cd doc a vs ns G Y ho hd M8 mM jD aJ DH hg=> ?_
 have KX:=hY w _ Y
 obtain ⟨fd,hb,hF⟩:=F w mg fa _ KX G.T.g mM
 exact aU KX G.T.g G.T.b G.T.builtins G.T.nolimit hg jD aJ (Nat.le_trans DH wS) hr hF hb (λH hO hS=>gj w H a ns DH hO hS) λH e s'=>pk w H s₁ e s'
end L2
namespace L2
open PySem PySem.Spec PyProof.Rows
def GH (s:Stmt):Arguments:=match s with
 | .FunctionDef _ a _ _ _ _ _ _ _ _=>a
 | _=>{posonlyargs:= [],args:= [],vararg:=none,kwonlyargs:= [],kw_defaults:= [],kwarg:=none,defaults:= [] }
def Eb (s:Stmt):List Stmt:=match s with
 | .FunctionDef _ _ b _ _ _ _ _ _ _=>b
 | _=> []
def AU (s:Stmt):Scope:=match s with
 | .FunctionDef _ _ _ _ _ _ sc _ _ _=>sc
 | _=>{kind:= .function,names:= [],isGenerator:=false,isCoroutine:=false}
abbrev DB:Xp:=λ_ _ _ _ _ _=>False
abbrev E0:XK:=λ_ _ _=>False
theorem nI {X:Cx}:Passes DB X E0:=λ_ _ _ _ _ _ _ h=>h.elim
structure DE (K:PySem.W.Frag) (x qual:Str) (st:Stmt) (f:Addr) (fd:FuncData):Prop where
 ex:∃(oc:Value) (od:Option Addr) (kV doc pm:Value) (an:Option Addr) (cdv ct:Value) (osl:Array (Option Value)),
  fd=PySem.W.fnOf x qual (GH st) (Eb st) (AU st) .none kV doc pm an cdv ct/\K.lookup f=some ⟨oc,od, .func fd,osl⟩/\PySem.W.codeIn K cdv qual=true
 kp:PySem.W.keepIn K (.ref f)=true
section
variable {P:Program} {w:World} {K:PySem.W.Frag} {mg:Str->Option Value} {base:Heap}
theorem DE.ok {x qual:Str} {st:Stmt} {f:Addr} {fd:FuncData} {N ps:List Str} {k:Nat} {sp:Sp} (F:DE K x qual st f fd) (S:Aa N ps (AU st)) (len:∀vs H Q E,sp vs H Q E->vs.length=ps.length)
 (UG:∀(cdv:Value) (A:Around) (outer:List Env) (s:Shared) (H:Hp) (vs:List V) (Q:VK) (E:XK),Room k (A.deeper (envOfC qual (AU st) s.heap.objs.size f cdv))->sp vs H Q E->
   ∃t,Wc (VV DB P w K mg base N qual (AU st) f cdv A outer s H E).nox (Eb st) t/\t {nx:=λ_ H'=>Q .non H',rt:=Q} (start N vs) H):A8 P w K mg base DB (k+1) f fd ps sp:=by
 obtain ⟨oc,od,kV,doc,pm,an,cdv,ct,osl,rfl,lk,M8⟩:=F.ex
 refine l7 lk M8 S len λA outer s H vs Q E hr gj=> ?_
 obtain ⟨t,h,q⟩:=UG cdv A outer s H vs Q E hr gj
 exact ⟨t,h.nox,q⟩
theorem DE.binds {x qual:Str} {st:Stmt} {f:Addr} {fd:FuncData} {ps:List Str} (F:DE K x qual st f fd)
 (h:∀(kV doc pm:Value) (an:Option Addr) (cdv ct:Value) (us:List Value),us.length=ps.length->bindArgs (PySem.W.fnOf x qual (GH st) (Eb st) (AU st) .none kV doc pm an cdv ct) ⟨us, []⟩=pure (ps.zip us)):Binds K fd ps [] :=by
 obtain ⟨oc,od,kV,doc,pm,an,cdv,ct,osl,rfl,lk,M8⟩:=F.ex
 exact .all (h kV doc pm an cdv ct)
theorem Z4 {x qual:Str} {st:Stmt} {f:Addr} {oc:Value} {od an:Option Addr} {osl:Array (Option Value)} {kV doc pm cdv ct:Value} (l:K.lookup f=some ⟨oc,od, .func (PySem.W.fnOf x qual (GH st) (Eb st) (AU st) .none kV doc pm an cdv ct),osl⟩)
 (c:PySem.W.codeIn K cdv qual=true) (k:PySem.W.keepIn K (.ref f)=true):DE K x qual st f (PySem.W.fnOf x qual (GH st) (Eb st) (AU st) .none kV doc pm an cdv ct):=⟨⟨oc,od,kV,doc,pm,an,cdv,ct,osl,rfl,l,c⟩,k⟩
end
section
variable {X:Cx}
theorem pv (i:Nat) {x:Str} {pos:Pos} (hN:X.N[i]? =some x:=by rfl) (hv:iV X.env.scope x:=by first | exact Or.inl rfl|exact Or.inr (Or.inl rfl)|exact Or.inr (Or.inr rfl)) (hd:(x==("__debug__" :Str))=false:=by decide)
 (M8:(x==("__classdict__" :Str))=false:=by decide):PE X (.Name x pos) (F1 i):=SC hN hv hd M8
end
theorem ma {c A B:Prop} [Decidable c] (h1:c->A) (h2:¬c->B):if c then A else B:=by
 by_cases h:c
 ·rw [if_pos h]
  exact h1 h
 ·rw [if_neg h]
  exact h2 h
def Jp (H H':Hp):Prop:=∀b o,H b=some o->H' b=some o
theorem Jp.refl (H:Hp):Jp H H:=λ_ _ h=>h
theorem Jp.trans {H H1 H2:Hp} (a:Jp H H1) (b:Jp H1 H2):Jp H H2:=λc o h=>b c o (a c o h)
theorem Jp.free {H H':Hp} (e:Jp H H') {l:Addr} (h:H' l=Option.none):H l=Option.none:=by
 cases q:H l with
 | none=>rfl
 | some o=>
   rw [e l o q] at h
   cases h
theorem Jp.seq {K:PySem.W.Frag} {H H':Hp} {a:Addr} {xs:List V} (e:Jp H H') (h:F4 K H a xs):F4 K H' a xs:=by
 rcases h with (h|⟨o,h⟩)|h
 ·exact .inl (.inl (e _ _ h))
 ·exact .inl (.inr ⟨o,e _ _ h⟩)
 ·exact .inr h
end L2
section
namespace L2
open PySem PySem.Spec PyProof.Rows
theorem HL {κ α:Type} [BEq κ] [LawfulBEq κ] {k:κ} {a:α}:∀{l:List (κ×α)},l.lookup k=some a->(k,a)∈l
 | [],h=>by simp at h
 | (n,b)::r,h=>by
   rw [List.lookup_cons] at h
   cases e:k==n with
   | true=>
     rw [e] at h
     have e':k=n:=by simpa using e
     have hb:b=a:=by simpa using h
     subst e' hb
     exact List.mem_cons_self
   | false=>
     rw [e] at h
     exact List.mem_cons_of_mem _ (HL h)
theorem QZ {κ α:Type} [BEq κ] [LawfulBEq κ] {k:κ} {a:α}:∀{l:List (κ×α)},(k,a)∈l->∃b,l.lookup k=some b
 | [],h=>nomatch h
 | (n,b)::r,h=>by
   rw [List.lookup_cons]
   cases e:k==n with
   | true=>exact ⟨b,rfl⟩
   | false=>
     rcases List.mem_cons.mp h with z|z
     ·have:k=n:=congrArg Prod.fst z
      rw [this] at e
      simp at e
     ·exact QZ z
theorem HG {env:Env} {F:Str×NameKind->List (Str×Addr)->Sem (ForInStep (List (Str×Addr)))}
 (h1:∀n r c,env.cells.lookup n=some c->F (n, .free) r=pure (.yield ((n,c)::r)))
 (h2:∀n k r,k≠NameKind.free->F (n,k) r=pure (.yield r)):
 ∀(names:List (Str×NameKind)) (acc:List (Str×Addr)),(∀x∈names,x.2= .free->∃c,env.cells.lookup x.1=some c)->
  ∃cl,(forIn names acc F:Sem _)=pure cl/\(∀p∈cl,p∈acc\/env.cells.lookup p.1=some p.2)/\(∀p∈acc,p∈cl)/\∀x∈names,x.2= .free->∃c,(x.1,c)∈cl
 | [],acc,_=>⟨acc,rfl,λp hp=> .inl hp,λp hp=>hp,λx hx=>nomatch hx⟩
 | (n,k)::r,acc,h=>by
   by_cases hk:k= .free
   ·subst hk
    obtain ⟨c,hc⟩:=h (n, .free) List.mem_cons_self rfl
    obtain ⟨cl,e,a,b,d⟩:=HG h1 h2 r ((n,c)::acc) (λx hx=>h x (List.mem_cons_of_mem _ hx))
    refine ⟨cl, ?_,λp hp=> ?_,λp hp=>b p (List.mem_cons_of_mem _ hp),λx hx hf=> ?_⟩
    ·rw [List.forIn_cons,h1 n acc c hc]
     exact e
    ·rcases a p hp with z|z
     ·rcases List.mem_cons.mp z with z|z
      ·subst z
       exact .inr hc
      ·exact .inl z
     ·exact .inr z
    ·rcases List.mem_cons.mp hx with z|z
     ·subst z
      exact ⟨c,b _ List.mem_cons_self⟩
     ·exact d x z hf
   ·obtain ⟨cl,e,a,b,d⟩:=HG h1 h2 r acc (λx hx=>h x (List.mem_cons_of_mem _ hx))
    refine ⟨cl, ?_,a,b,λx hx hf=> ?_⟩
    ·rw [List.forIn_cons,h2 n k acc hk]
     exact e
    ·rcases List.mem_cons.mp hx with z|z
     ·subst z
      exact absurd hf hk
     ·exact d x z hf
theorem GF {env:Env} {scope:Scope} (h:∀x∈scope.names,x.2= .free->∃c,env.cells.lookup x.1=some c):
 ∃cl,closureFor scope env=pure cl/\(∀y c,cl.lookup y=some c->env.cells.lookup y=some c)/\∀y,(y,NameKind.free)∈scope.names->∃c,cl.lookup y=some c:=by
 obtain ⟨cl,e,a,_,d⟩:=HG (env:=env) (F:=λx cs=>match x with | (name,kind)=>if (kind==NameKind.free)=true then do let a <-cellOf env name;pure (ForInStep.yield ((name,a)::cs)) else pure (ForInStep.yield cs))
  (λn r c hc=>by
    show (do let a <-cellOf env n;pure (ForInStep.yield ((n,a)::r)):Sem _)=_
    unfold cellOf
    rw [hc]
    rfl)
  (λn k r hk=>by
    have:(k==NameKind.free)=false:=by simpa using hk
    simp [this]) scope.names [] h
 refine ⟨cl, ?_,λy c q=> ?_,λy hy=> ?_⟩
 ·unfold closureFor
  have e2:(forIn scope.names ([] :List (Str×Addr)) λx cs=>match x with | (name,kind)=>if (kind==NameKind.free)=true then do let a <-cellOf env name;pure (ForInStep.yield ((name,a)::cs)) else pure (ForInStep.yield cs):Sem _) >>= (λr=>pure r)=pure cl:=by
   rw [e];rfl
  exact e2
 ·rcases a _ (HL q) with z|z
  ·exact nomatch z
  ·exact z
 ·obtain ⟨c,hc⟩:=d (y, .free) hy rfl
  exact QZ hc
def Fa (env:Env) (sc:Scope) (cl:List (Str×Addr)) (C:Addr):Env:=
 {scope:=sc,locals:=C,globals:=env.globals,cells:=cl,qual:=env.qual,func:=none,code:=env.code,frame:=env.frame,builtins:=env.builtins}
def blk (X:Cx) (sc:Scope) (N:List Str) (cl:List (Str×Addr)) (C:Addr) (s:Shared) (H:Hp) (ex:List Addr) (pn:List (Addr×Obj)):Cx where
 prog:=X.prog
 w:=X.w
 K:=X.K
 mg:=X.mg
 base:=X.base
 A:=X.A
 N:=N
 s₀:=s
 H₀:=H
 env:=Fa X.env sc cl C
 outer:=X.stack
 stack:=X.stack
 ex:=ex
 fn:=λ_=>false
 calm:=X.calm
 pn:=pn
 xe:=λ_ _=>False
section
variable {X:Cx} {pins:List (Addr×Obj)} {σ:St} {H:Hp} {s:Shared} {fp:List Addr} {sc:Scope} {N:List Str} {cl:List (Str×Addr)}
theorem Inv.notStk (I:Inv X pins σ H s) {b:Addr} (h1:b≠X.env.locals) (h2:b ∉ X.fs):b ∉ Y9 X.stack:=λz=>by
 rcases List.mem_cons.mp (I.stkSub b z) with e|e
 ·exact h1 e
 ·exact h2 e
theorem Inv.szLt (I:Inv X pins σ H s) {x:Str} {c:Addr} (e:X.env.cells.lookup x=some c):c<s.heap.objs.size:=by
 obtain ⟨v,q⟩:=I.cell x c e
 exact q.lt
theorem ic (I:Inv X pins σ H s) (hf:∀b∈fp,D7 X pins H b) (EF:∀b∈fp,b<s.heap.objs.size) (hk:sc.kind= .function)
 (h1:∀y c,cl.lookup y=some c->X.env.cells.lookup y=some c) (h2:∀y,(sc.names.lookup y=some .cell\/sc.names.lookup y=some .free)->∃c,cl.lookup y=some c):
 (blk X sc N cl s.heap.objs.size s H fp (X.pn++pins)).Ok where
 mod:=I.ok.mod
 kind:=hk
 glob:=I.ok.glob
 blt:=I.ok.blt
 above:=Nat.le_refl _
 inj:=λx y c a b=>I.ok.inj x y c (h1 x c a) (h1 y c b)
 has:=λx hx=>h2 x hx
 cab:=λx c z=>nomatch z
 hd:=I.ok.hd
 frames:=I.ok.frames
 stk:= .inl rfl
 exf:=λb hb=>⟨Nat.ne_of_lt (EF b hb),λx c e=>(hf b hb).2.2.2.2.1 x c (h1 x c e)⟩
 bs:=I.bs
 bsz:=Nat.le_trans I.ok.bsz I.sz
 noex:=λb o e hb=>by
  rcases (hf b hb).2.2.2.1 with z|z
  ·exact I.ok.noex b o e z
  ·exact absurd (Nat.lt_of_lt_of_le (Heap.lt_size (I.ok.bs b o e).1) z) (Nat.lt_irrefl _)
 exfs:=λb hb=>I.notStk (hf b hb).2.1 (hf b hb).2.2.1
 funs:=I.stack
 frf:=I.stkFree
def B4 (own:Nat) (ix:List Nat) (σ:St):St:=List.replicate own none++ix.map λi=>(σ[i]?).getD none
theorem Le {own:Nat} {ix:List Nat} {σ:St}:(B4 own ix σ).length=own+ix.length:=by simp [B4]
theorem Ez {own:Nat} {ix:List Nat} {σ:St} {j:Nat} {v:V} (h:(B4 own ix σ)[j]? =some (some v)):own<=j/\∃i,ix[j-own]? =some i/\σ[i]? =some (some v):=by
 unfold B4 at h
 by_cases hj:j<own
 ·rw [List.getElem?_append_left (by simpa using hj),List.getElem?_replicate] at h
  simp [hj] at h
 ·have YM:own<=j:=by omega
  rw [List.getElem?_append_right (by simpa using YM),List.length_replicate,List.getElem?_map] at h
  refine ⟨YM, ?_⟩
  cases e:ix[j-own]? with
  | none=>rw [e] at h;simp at h
  | some i=>
    rw [e] at h
    refine ⟨i,rfl, ?_⟩
    have h':(σ[i]?).getD none=some v:=by simpa using h
    cases e2:σ[i]? with
    | none=>rw [e2] at h';simp at h'
    | some o=>
      rw [e2] at h'
      have:o=some v:=by simpa using h'
      rw [this]
structure QH (X:Cx) (sc:Scope) (own:Nat) (ix:List Nat) (N:List Str):Prop where
 len:N.length=own+ix.length
 out:∀j i,ix[j]? =some i->∃x,N[own+j]? =some x/\X.N[i]? =some x/\X.env.scope.names.lookup x=some .cell/\sc.names.lookup x=some .cell
theorem Zl {own:Nat} {ix:List Nat} {h':Heap} {m:Str->Option Value} {t':Nat} (I:Inv X pins σ H s) (hf:∀b∈fp,D7 X pins H b) (EF:∀b∈fp,b<s.heap.objs.size) (hk:sc.kind= .function)
 (h1:∀y c,cl.lookup y=some c->X.env.cells.lookup y=some c) (h2:∀y,(sc.names.lookup y=some .cell\/sc.names.lookup y=some .free)->∃c,cl.lookup y=some c) (F:QH X sc own ix N)
 (hn:h'.Ns s.heap.objs.size m) (k:∀b o,s.heap.get? b=some o->h'.get? b=some o):
 Inv (blk X sc N cl s.heap.objs.size s H fp (X.pn++pins)) [] (B4 own ix σ) H {s with heap:=h',toks:=t'} where
 ok:=ic I hf EF hk h1 h2
 os:=rfl
 bare:=I.bare
 base:=Un.kept k
 loc:=by
  refine ⟨m,hn,λi x v e1 e2 e3=> ?_⟩
  obtain ⟨YM,io,ei,es⟩:=Ez e2
  obtain ⟨y,ny,ey,oy,sy⟩:=F.out _ _ ei
  have exy:x=y:=by
   have e1':N[i]? =some x:=e1
   rw [show own+(i-own)=i by omega,e1'] at ny
   exact Option.some.inj ny
  subst exy
  obtain ⟨m0,wR,qH⟩:=I.loc
  obtain ⟨u,r,l⟩:=qH io x v ey es (.inr (.inl oy))
  refine ⟨u,r, ?_⟩
  rcases l with ⟨z,_⟩|⟨_,c,ec,z⟩
  ·have z':X.env.scope.names.lookup x=some .local:=z
   rw [oy] at z'
   cases z'
  ·obtain ⟨c',ec'⟩:=h2 x (.inl sy)
   have:=h1 x c' ec'
   rw [ec] at this
   cases this
   obtain ⟨o,ho,hd⟩:=z
   exact .inr ⟨.inl sy,c,ec',o,k c o ho,hd⟩
 cell:=λx c e=>by
  obtain ⟨v,o,ho,hd⟩:=I.cell x c (h1 x c e)
  exact ⟨v,o,k c o ho,hd⟩
 free:=I.hok.fresh (Nat.le_refl _)
 freeC:=λx c e=>I.freeC x c (h1 x c e)
 pin:=λp hp=>by
  have EN:p∈X.pn++pins:=by simpa [blk] using hp
  obtain ⟨a,b,c,d,e⟩:=I.pin p EN
  exact ⟨k _ _ a,b,Nat.ne_of_lt (Heap.lt_size a),I.notStk c d,e⟩
 hok:=I.hok.kept k
 len:=by rw [Le];exact F.len.symm
theorem Wk {own:Nat} {ix:List Nat} {σ':St} {H':Hp} {s':Shared} {pins':List (Addr×Obj)} (I:Inv X pins σ H s) (hf:∀b∈fp,D7 X pins H b) (EF:∀b∈fp,b<s.heap.objs.size)
 (B:Inv (blk X sc N cl s.heap.objs.size s H fp (X.pn++pins)) pins' σ' H' s'):Inv X pins σ H' s':=
 I.call' (ch:=fp) B.os B.base B.hok B.bare λb hb=>⟨(hf b hb).2.2.2.1,(hf b hb).2.1,(hf b hb).2.2.2.2.1,(hf b hb).2.2.2.2.2⟩
theorem N6 {H':Hp} {σ':St} {s':Shared} {C:Addr} {h':Heap} (I:Inv X pins σ H s) (hC:C=s.heap.objs.size) (I':Inv X pins σ' H' s') (hn:H' C=none) (hs:Heap.SameBut C s'.heap h'):Inv X pins σ' H' {s' with heap:=h'}:=by
 subst hC
 refine I'.turned (t':=s'.toks) (it:=s.heap.objs.size) (λb o hb e=>(hs.2 b hb).trans e) hn (Nat.ne_of_gt I.lt) (.inr I.sz) (λx c e=>Nat.ne_of_lt (I.szLt e)) λp hp=>Nat.ne_of_lt (Heap.lt_size (I.pin p hp).1)
end
def Wb (X:Cx) (ifs:List Expr) (t:TT):Prop:=
 ∀(pins:List (Addr×Obj)) (s:Shared) (σ:St) (H:Hp) (Q:Bool->Hp->Prop),Inv X pins σ H s->t σ H Q->
  wpAny (model X.prog X.w) X.A (forIn ifs true λc r=>if r=true then do let ok <-isTrue c X.env (eval c X.env);pure (ForInStep.yield ok) else pure (ForInStep.yield r)) (TP X pins σ Q) X.xe s
def qq:TT:=λ_ H Q=>Q true H
theorem fH {X:Cx}:Wb X [] qq:=λ_ _ _ H _ I h=>wpAny_tests_nil ⟨H,I,h⟩
theorem fJ {X:Cx} {c:Expr} {t:TT} (hc:PT X c t):Wb X [c] t:=λpins s σ H Q I h=>wpAny_tests_one (hc pins s σ H Q I h)
def HD (own:Nat) (g:TG):Prop:=∀v σ H Q,g v σ H Q->g v σ H λσ2 H2=>Q σ2 H2/\σ2.length=σ.length/\∀j,own<=j->σ2[j]? =σ[j]?
def Nz (own:Nat) (g:VE):Prop:=∀vs σ H Q,g vs σ H Q->g vs σ H λσ2 H2=>Q σ2 H2/\σ2.length=σ.length/\∀j,own<=j->σ2[j]? =σ[j]?
theorem de {own i:Nat} (h:i<own):HD own (DO i):=λv σ H Q q=>⟨q,by simp,λj hj=>List.getElem?_set_ne (by omega)⟩
theorem df {own:Nat}:Nz own T8:=λvs σ H Q q=>⟨q.1,q.2,rfl,λ_ _=>rfl⟩
theorem Z8 {own:Nat} {t:TG} {u:VE} (h1:HD own t) (m1:∀v σ H Q Q',(∀σ2 H2,Q σ2 H2->Q' σ2 H2)->t v σ H Q->t v σ H Q') (h2:Nz own u) (m2:∀v σ H Q Q',(∀σ2 H2,Q σ2 H2->Q' σ2 H2)->u v σ H Q->u v σ H Q'):Nz own (FC t u):=by
 intro vs σ H Q q
 obtain ⟨v,r,e,q⟩:=q
 refine ⟨v,r,e,m1 _ _ _ _ _ (λσ2 H2 z=> ?_) (h1 _ _ _ _ q)⟩
 obtain ⟨z,l,kk⟩:=z
 refine m2 _ _ _ _ _ (λσ3 H3 z3=> ?_) (h2 _ _ _ _ z)
 obtain ⟨z3,l3,k3⟩:=z3
 exact ⟨z3,l3.trans l,λj hj=>(k3 j hj).trans (kk j hj)⟩
theorem dg {i:Nat}:∀v σ H Q Q',(∀σ2 H2,Q σ2 H2->Q' σ2 H2)->DO i v σ H Q->DO i v σ H Q':=λ_ _ _ _ _ m q=>m _ _ q
theorem dh:∀v σ H Q Q',(∀σ2 H2,Q σ2 H2->Q' σ2 H2)->T8 v σ H Q->T8 v σ H Q':=λ_ _ _ _ _ m q=>⟨q.1,m _ _ q.2⟩
theorem Z9 {t:TG} {u:VE} (m1:∀v σ H Q Q',(∀σ2 H2,Q σ2 H2->Q' σ2 H2)->t v σ H Q->t v σ H Q') (m2:∀v σ H Q Q',(∀σ2 H2,Q σ2 H2->Q' σ2 H2)->u v σ H Q->u v σ H Q'):
 ∀v σ H Q Q',(∀σ2 H2,Q σ2 H2->Q' σ2 H2)->FC t u v σ H Q->FC t u v σ H Q':=λ_ _ _ _ _ m ⟨v,r,e,q⟩=>⟨v,r,e,m1 _ _ _ _ _ (λ_ _ z=>m2 _ _ _ _ _ m z) q⟩
def JD (J:It) (D:Addr) (σ0:St) (g:TG) (tt:TT) (te:TE) (Q:Hp->Prop) (W:Nat->Nat->Hp->Prop):Prop:=
 ∀i m H,W i m H->(J.stop i H/\Q H)\/(J.go i H/\∀x H',J.yld i H x H'->g x σ0 H' λσ2 H2=>tt σ2 H2 λok H3=>
  if ok=true then te σ2 H3 λy H4=>∃ys,H4 D=some (.lst ys)/\ys.length<sizeLine/\∃m',m'<m/\W (i+1) m' (upd H4 D (.lst (ys ++ [y]))) else ∃m',m'<m/\W (i+1) m' H3)
def Xh (wi:TI) (own:Nat) (ix:List Nat) (g:TG) (tt:TT) (te:TE):TE:=λσ H Q=>wi σ H λJ H1=>∀D,H1 D=none->
 ∃W:Nat->Nat->Hp->Prop,(∃m,W 0 m (upd H1 D (.lst [])))/\JD J D (B4 own ix σ) g tt te (Q (.ref D)) W
section
variable {X:Cx} {tg elt iter:Expr} {ifs:List Expr} {scope:Scope} {pos:Pos} {wi:TI} {own:Nat} {ix:List Nat} {N:List Str} {g:TG} {tt:TT} {te:TE}
structure LV (X:Cx) (tg elt:Expr) (ifs:List Expr) (scope:Scope) (own:Nat) (ix:List Nat) (N:List Str) (g:TG) (tt:TT) (te:TE):Prop where
 kind:scope.kind= .function
 nocell:∀y∈scope.names,y.2≠ .cell
 names:∀y∈scope.names,y.2= .local->scope.names.lookup y.1=some .local
 frees:∀y∈scope.names,y.2= .free->X.env.scope.names.lookup y.1=some .cell
 ins:QH X (relabel scope X.env) own ix N
 keep:HD own g
 tgt:∀cl C s H ex pn,PG (blk X (relabel scope X.env) N cl C s H ex pn) tg g
 tst:∀cl C s H ex pn,Wb (blk X (relabel scope X.env) N cl C s H ex pn) ifs tt
 val:∀cl C s H ex pn,PE (blk X (relabel scope X.env) N cl C s H ex pn) elt te
theorem FI {env:Env} {y:Str} {k:NameKind} (W7:∀y∈scope.names,y.2≠ .cell) (h:(y,k)∈(relabel scope env).names) (hk:k= .cell\/k= .free):(y,NameKind.free)∈scope.names:=by
 obtain ⟨⟨n,k'⟩,hm,e⟩:=List.mem_map.mp (show (y,k)∈scope.names.map _ from h)
 dsimp only at e
 split at e
 ·rename_i hc
  cases e
  have:k'= .free:=by
   cases k' <;> simp_all
  subst this
  exact hm
 ·cases e
  rcases hk with z|z
  ·subst z
   exact absurd rfl (W7 _ hm)
  ·subst z
   exact hm
theorem X7 {pins:List (Addr×Obj)} {σ:St} {H:Hp} {s:Shared} {fp:List Addr} {cl:List (Str×Addr)} {it:Addr} {tn:Nat->Heap->Prop} {J:It} {D:Addr} {R:Result->Shared->Prop} {Qh:Hp->Prop} {W:Nat->Nat->Hp->Prop}
 (hc:X.calm=true) (O:LV X tg elt ifs scope own ix N g tt te) (T:Js X.prog X.w X.K tg J fp it tn) (I:Inv X pins σ H s) (hf:∀b∈fp,D7 X pins H b) (EF:∀b∈fp,b<s.heap.objs.size)
 (hW:JD J D (B4 own ix σ) g tt te Qh W)
 (hR:∀σ' H' s',Inv (blk X (relabel scope X.env) N cl s.heap.objs.size s H fp (X.pn++pins)) [] σ' H' s'->Qh H'->R (.ok .next) s')
 (n:Nat) (s0:Shared) (h0:∃i H',Inv (blk X (relabel scope X.env) N cl s.heap.objs.size s H fp (X.pn++pins)) [] (B4 own ix σ) H' s0/\tn i s0.heap/\(∀b∈fp,H' b=none)/\W i n H'):
 codeAny (model X.prog X.w) X.A (.compLoop (.ListComp elt [⟨tg,iter,ifs,0⟩] scope pos) 0 (.ref it) (.ref D) (Fa X.env (relabel scope X.env) cl s.heap.objs.size)) R s0:=by
 refine codeAny_loop rfl (λn s'=>∃i H',Inv (blk X (relabel scope X.env) N cl s.heap.objs.size s H fp (X.pn++pins)) [] (B4 own ix σ) H' s'/\tn i s'.heap/\(∀b∈fp,H' b=none)/\W i n H') (λn s1 h1=> ?_) n h0
 obtain ⟨i,H1,B1,st1,fr1,w1⟩:=h1
 generalize hY:blk X (relabel scope X.env) N cl s.heap.objs.size s H fp (X.pn++pins)=Y at *
 have eA:Y.A=X.A:=by rw [<-hY];rfl
 have eP:Y.prog=X.prog:=by rw [<-hY];rfl
 have eW:Y.w=X.w:=by rw [<-hY];rfl
 have eK:Y.K=X.K:=by rw [<-hY];rfl
 have eE:Fa X.env (relabel scope X.env) cl s.heap.objs.size=Y.env:=by rw [<-hY];rfl
 have eX:Y.xe=λ_ _=>False:=by rw [<-hY];rfl
 have eC:Y.calm=true:=by rw [<-hY];exact hc
 have hg:PG Y tg g:=by rw [<-hY];exact O.tgt _ _ _ _ _ _
 have ht:Wb Y ifs tt:=by rw [<-hY];exact O.tst _ _ _ _ _ _
 have hv:PE Y elt te:=by rw [<-hY];exact O.val _ _ _ _ _ _
 have stat:∀{H':Hp},(∀b∈fp,H' b=none)->∀b∈fp,D7 Y [] H' b:=λ{H'} hn b hb=>by
  obtain ⟨_,a1,a2,a3,a4,a5⟩:=hf b hb
  refine ⟨hn b hb, ?_, ?_, ?_, ?_, ?_⟩
  ·rw [<-hY];exact Nat.ne_of_lt (EF b hb)
  ·rw [<-hY];exact I.notStk a1 a2
  ·rw [<-hY];exact .inl hb
  ·intro x c e
   exact (B1.ok.exf b (by rw [<-hY];exact hb)).2 x c e
  ·intro p hp
   have:p∈X.pn++pins:=by rw [<-hY] at hp;simpa [blk] using hp
   exact a5 p this
 rw [eE,<-eA,<-eP,<-eW]
 show wpAny _ _ ((compTurn (.ListComp elt [⟨tg,iter,ifs,0⟩] scope pos) 0 (.ref it) (.ref D) Y.env).onRaise (λx=>do noteFrame x Y.env;theTreesLotGoes x)) _ _ s1
 refine wpAny_noted ?_
 rw [compTurn_list]
 have ff:∀{α:Type} {t:Sem α} {Q:α->Shared->Prop} {E:Value->Shared->Prop} {s:Shared},wpAny (model Y.prog Y.w) Y.A t Q Y.xe s->wpAny (model Y.prog Y.w) Y.A t Q E s:=λh=>wpAny_mono h (λ_ _ q=>q) λ_ _ z=>by rw [eX] at z;exact z.elim
 refine wpAny_bind (wpAny_standAt (wpAny_bind ?_))
 rcases hW i n H1 w1 with ⟨stop,qn⟩|⟨go,step⟩
 ·have zd:=λE=>T.done Y eP eW eK eC i [] s1 _ H1 E B1 (stat fr1) st1 stop
  rw [<-eP,<-eW] at zd
  refine Bg (zd _) λr s4 ⟨hr,I4⟩=> ?_
  subst hr
  exact wpAny_pure (hR _ _ _ I4 qn)
 ·have zi:=λE=>T.item Y eP eW eK eC i [] s1 _ H1 E B1 (stat fr1) st1 go
  rw [<-eP,<-eW] at zi
  refine Bg (zi _) λr s4 ⟨u,hr,h4⟩=> ?_
  subst hr
  refine wpAny_bind (Bg h4 λ_ s5 ⟨x,H5,I5,r5,y5,st5,fr5⟩=> ?_)
  have I5':=I5.pinned (stat fr5) (T.obj _ _ st5)
  refine wpAny_bind (Bg (ff (hg _ s5 _ H5 x u _ I5' r5 (O.keep _ _ _ _ (step x H5 y5)))) λ_ s6 ⟨σ6,H6,I6,q6,l6,k6⟩=> ?_)
  refine wpAny_bind (Bg (ff (ht _ s6 σ6 H6 _ I6 q6)) λok s7 ⟨H7,I7,q7⟩=> ?_)
  have back:∀{H8:Hp} {s8:Shared} {m':Nat},Inv Y ([] ++ Ff fp s5.heap) σ6 H8 s8->m'<n->W (i+1) m' H8->
   ∃m,m<n/\∃i H',Inv Y [] (B4 own ix σ) H' s8/\tn i s8.heap/\(∀b∈fp,H' b=none)/\W i m H':=λ{H8 s8 m'} I8 hm w8=>by
   refine ⟨m',hm,i+1,H8,I8.unpinned.weak l6.symm (λj v hj=> ?_),T.keep _ _ _ st5 λb hb o e=>(I8.pin (b,o) (List.mem_append_right _ (List.mem_append_right _ (B7 hb e)))).1,λb hb=> ?_,w8⟩
   ·rw [k6 j (Ez hj).1]
    exact hj
   ·obtain ⟨o,e,d⟩:=T.obj _ _ st5 b hb
    exact (I8.pin (b,o) (List.mem_append_right _ (List.mem_append_right _ (B7 hb e)))).2.1
  cases ok with
  | false=>
    obtain ⟨m',hm,w8⟩:=q7
    exact wpAny_pure ⟨rfl,back I7 hm w8⟩
  | true=>
    refine wpAny_bind (wpAny_bind (Bg (ff (hv _ s7 σ6 H7 _ I7 q7)) λyv s8 ⟨y,H8,I8,r8,ys,hD,hz,m',hm,w8⟩=> ?_))
    refine wpAny_bind (Bg (ff (Ho _ s8 σ6 H8 (.ref D) [y] (.ref D) [yv] (λ_ H9=>H9=upd H8 D (.lst (ys ++ [y]))) I8 rfl (.cons r8 .nil) ⟨D,ys,y,rfl,rfl,hD,hz,rfl⟩)) λ_ s9 ⟨_,H9,I9,_,e9⟩=> ?_)
    subst e9
    exact wpAny_pure (wpAny_pure ⟨rfl,back I9 hm w8⟩)
theorem Tu {pins:List (Addr×Obj)} {σ:St} {H:Hp} {s:Shared} {use:Option (Value->Sem Unit)} {Q:Value->Shared->Prop} {it:Addr} {fp:List Addr} {cl:List (Str×Addr)} {tn:Nat->Heap->Prop} {J:It} {Qd:Addr->Hp->Prop}
 (hc:X.calm=true) (O:LV X tg elt ifs scope own ix N g tt te) (T:Js X.prog X.w X.K tg J fp it tn) (I:Inv X pins σ H s) (hf:∀b∈fp,D7 X pins H b) (st:tn 0 s.heap)
 (h1:∀y c,cl.lookup y=some c->X.env.cells.lookup y=some c) (h2:∀y,(y,NameKind.free)∈scope.names->∃c,cl.lookup y=some c)
 (hq:∀D,H D=none->∃W:Nat->Nat->Hp->Prop,(∃m,W 0 m (upd H D (.lst [])))/\JD J D (B4 own ix σ) g tt te (Qd D) W)
 (hR:∀D C H' s',(∃m,s'.heap.Ns C m)->Inv X pins σ H' s'->(∀σ2 s2,Inv X pins σ2 H' s2->∀h',Heap.SameBut C s2.heap h'->Inv X pins σ2 H' {s2 with heap:=h'})->C≠X.env.locals->(∀x c,X.env.cells.lookup x=some c->C≠c)->Qd D H'->
   compPost (model X.prog X.w) X.A X.xe use Q (.ref D) C (.ok .next) s'):
 wpAny (model X.prog X.w) X.A (newList []) (λacc s₃=>wpAny (model X.prog X.w) X.A (newFunctionEnv scope X.env.globals cl [] X.env.qual none .none (some X.env)) (λcenv s₄=>
  codeAny (model X.prog X.w) X.A (.compStart (.ListComp elt [⟨tg,iter,ifs,0⟩] scope pos) 0 (.ref it) acc {cenv with scope:=relabel scope X.env}) (compPost (model X.prog X.w) X.A X.xe use Q acc cenv.locals) s₄) X.xe s₃) X.xe s:=by
 refine wpAny_newObj_type ?_ (by simp [sizeOk])
 have I3:Inv X pins σ (upd H s.heap.objs.size (.lst [])) {s with heap:=s.heap.push {cls:= .type "list",data:= .seq ([] :List Value).toArray}}:=I.lnew (t':=s.toks) .nil (Nat.zero_le _)
 have UI:=I.fresh
 obtain ⟨W,⟨m0,w0⟩,hW⟩:=hq _ UI
 have aK:∀b∈fp,b<s.heap.objs.size:=λb hb=>by
  obtain ⟨o,e,_⟩:=T.obj _ _ st b hb
  exact Heap.lt_size e
 have W4:∀b∈fp,D7 X pins (upd H s.heap.objs.size (.lst [])) b:=λb hb=>by
  obtain ⟨a0,ar⟩:=hf b hb
  exact ⟨by rw [Ah (Nat.ne_of_lt (aK b hb))];exact a0,ar⟩
 generalize mR:({s with heap:=s.heap.push {cls:= .type "list",data:= .seq ([] :List Value).toArray}}:Shared)=s3 at I3
 have st3:tn 0 s3.heap:=T.keep _ _ _ st λb hb o e=>by rw [<-mR];exact Heap.get?_push_of_some _ e
 have EF:∀b∈fp,b<s3.heap.objs.size:=λb hb=>by
  obtain ⟨o,e,_⟩:=T.obj _ _ st3 b hb
  exact Heap.lt_size e
 refine wpAny_newFunctionEnv O.nocell (by intro y hy;simp at hy) (λh₁ gi qP=> ?_) O.kind
 have kp:∀b o,s3.heap.get? b=some o->h₁.get? b=some o:=λb o e=>qP.extBut b o (Nat.ne_of_lt (Heap.lt_size e)) (Heap.get?_push_of_some _ e)
 have mJ:∀y,((relabel scope X.env).names.lookup y=some .cell\/(relabel scope X.env).names.lookup y=some .free)->∃c,cl.lookup y=some c:=λy hy=>by
  rcases hy with z|z
  ·exact h2 y (FI O.nocell (HL z) (.inl rfl))
  ·exact h2 y (FI O.nocell (HL z) (.inr rfl))
 have B:=Zl (N:=N) (t':=s3.toks+([] :List (Str×Value)).length) I3 W4 EF (sc:=relabel scope X.env) O.kind h1 mJ O.ins gi kp
 have st4:tn 0 h₁:=T.keep _ _ _ st3 λb hb o e=>kp b o e
 have loop:∀s4:Shared,s4={s3 with heap:=h₁,toks:=s3.toks+([] :List (Str×Value)).length}->
  codeAny (model X.prog X.w) X.A (.compLoop (.ListComp elt [⟨tg,iter,ifs,0⟩] scope pos) 0 (.ref it) (.ref s.heap.objs.size) (Fa X.env (relabel scope X.env) cl s3.heap.objs.size)) (compPost (model X.prog X.w) X.A X.xe use Q (.ref s.heap.objs.size) s3.heap.objs.size) s4:=by
  rintro s4 rfl
  refine X7 (cl:=cl) (Qh:=Qd s.heap.objs.size) hc O T I3 W4 EF hW (λσ' H' s' B' q'=> ?_) m0 _ ⟨0,_,B,st4,λb hb=>(W4 b hb).1,w0⟩
  refine hR _ _ H' s' (let ⟨m,hm,_⟩:=B'.loc;⟨m,hm⟩) (Wk (own:=own) (ix:=ix) I3 W4 EF B') (λσ2 s2 I2 h' hs=>N6 I3 rfl I2 B'.free hs) (Nat.ne_of_gt I3.lt) (λx c e=>Nat.ne_of_gt (I3.szLt e)) q'
 exact codeAny_compStart_list (loop _ rfl) (T.self _ 0 _ _ _ st4 (loop _ rfl))
theorem fC (hc:X.calm=true) (hi:PI X tg iter wi) (O:LV X tg elt ifs scope own ix N g tt te) (hs:∀x,foldedSetIterable iter X.env x=pure x:=by intro _;rfl):
 PE X (.ListComp elt [⟨tg,iter,ifs,0⟩] scope pos) (Xh wi own ix g tt te):=by
 intro pins s σ H Q I h
 obtain ⟨cl,OG,h1,h2⟩:=GF (env:=X.env) (scope:=scope) λy hy e=>I.ok.has y.1 (.inl (O.frees y hy e))
 rw [eval_ListComp]
 refine wpAny_comprehension_free (use:=none) rfl hs OG O.kind O.names (Bg (hi pins s σ H _ I h) λv s1 hv=>Bg hv λitv s2 eB=> ?_)
 obtain ⟨it,fp,tn,J,H2,rfl,I2,T,st2,f2,q⟩:=eB
 exact Tu (Qd:=λD H'=>Q (.ref D) H') hc O T I2 f2 st2 h1 h2 q λD C H' s' hn I' gone nl nc q'=>by
  obtain ⟨m,hm⟩:=hn
  exact ⟨m,hm,λh' hs=>⟨.ref D,H',gone σ s' I' h' hs,rfl,q'⟩⟩
theorem fM {i:Nat} {x:Str} {pos' spos:Pos} (hc:X.calm=true) (hN:X.N.Nodup) (UK:X.N[i]? =some x) (hx:Loc X.env.scope x) (hi:PI X tg iter wi) (O:LV X tg elt ifs scope own ix N g tt te)
 (mU:swapsWith (.ListComp elt [⟨tg,iter,ifs,0⟩] scope pos) (some (.Name x pos')) spos.line X.env=pure true:=by rfl) (hs:∀x,foldedSetIterable iter X.env x=pure x:=by intro _;rfl)
 (hf:X.fn x=true\/X.env.scope.names.lookup x=some .local:=by first | exact .inl rfl|exact .inr rfl|assumption):
 PS X (.Assign [.Name x pos'] (.ListComp elt [⟨tg,iter,ifs,0⟩] scope pos) spos) (Uy (Xh wi own ix g tt te) (DO i)):=by
 intro pins s σ H D I h
 obtain ⟨cl,OG,h1,h2⟩:=GF (env:=X.env) (scope:=scope) λy hy e=>I.ok.has y.1 (.inl (O.frees y hy e))
 rw [exec_Assign_Name_used _ _ _ _ mU]
 refine wpAny_bind (wpAny_standAt (wpAny_bind ?_))
 show wpAny _ _ (do let _ <-comprehension (.ListComp elt [⟨tg,iter,ifs,0⟩] scope pos) scope X.env _ (newList []) false (eval iter X.env) (some (assign (.Name x pos') X.env))) _ _ s
 refine wpAny_bind (Bg (wpAny_comprehension_free (use:=some (assign (.Name x pos') X.env)) (Q:=λ_ s'=>SP X pins D .next s') rfl hs OG O.kind O.names (Bg (hi pins s σ H _ I h) λv s1 hv=>Bg hv λitv s2 eB=> ?_)) λ_ s' hq=>wpAny_pure (wpAny_pure hq))
 obtain ⟨it,fp,tn,J,H2,rfl,I2,T,st2,f2,q⟩:=eB
 refine Tu (Qd:=λD' H'=>DO i (.ref D') σ H' D.nx) hc O T I2 f2 st2 h1 h2 q λD' C H' s' hn I' gone nl nc q'=> ?_
 obtain ⟨m,hm⟩:=hn
 show wpAny _ _ (assign (.Name x pos') X.env (.ref D')) _ _ s'
 refine wpAny_assign_Name (Qv (v:= .ref D') I' hN UK hx rfl (λs4 I4 ⟨a,sb,ha⟩=> ?_) hf)
 have v5:C≠a:=by
  rcases ha with z|z
  ·rw [z];exact nl
  ·exact nc x a z
 exact ⟨m,hm.sameBut sb v5,λh' hs=>⟨_,H',gone _ s4 I4 h' hs,q'⟩⟩
end
end L2
end
section
namespace L2
open PySem PySem.Spec PyProof.Rows
theorem KC {n k:Nat} (h:n<2^k) (hk:0<k):n.log2<k:=by
 by_cases e:n=0
 ·subst e
  simpa using hk
 ·exact (Nat.log2_lt e).mpr h
theorem Hl {i:Int} {k:Nat} (h:i.natAbs<2^k):Builtin.Int.intBits i<=k:=by
 unfold Builtin.Int.intBits
 by_cases e:i=0
 ·subst e;simp
 ·have e2:(i==0)=false:=by simpa using e
  rw [e2]
  simp only [Bool.false_eq_true,if_false]
  have e3:i.natAbs≠0:=by omega
  have:=(Nat.log2_lt e3).mpr h
  omega
section
variable {X:Cx}
def pJ (i j:Int):Prop:=i.natAbs<2^8000/\j.natAbs<2^8000
def lX (i j:Int):Prop:=Nn i j\/pJ i j
theorem Hq:Eo X (binaryOp .Mult) (rI lX λi j=> .int (i*j)):=jl λ_ _ _ _ _ _ _ hc q=>mul_int q (by
 rcases hc with z|z
 ·exact z.ok
 ·exact .of_le (Hl z.1) (Hl z.2) (by decide))
def lW (_ j:Int):Prop:=0<j/\j.natAbs<2^8000
theorem au:Eo X (binaryOp .FloorDiv) (rI lW λi j=> .int (i/j)):=jl λi j _ _ _ _ _ hc q=>by
 have h1:(0:Int)<j:=hc.1
 refine floordiv_int (by omega) ?_ (.inl (PyProof.noPylong_of_log2 (Nat.lt_trans (KC hc.2 (by decide)) (by decide))))
 rw [Int.fdiv_eq_ediv_of_nonneg _ (Int.le_of_lt h1)]
 exact q
inductive Kd where
 | int|bl|non|str|lst|tup
 deriving DecidableEq
def sT (K:PySem.W.Frag) (x:V) (H:Hp):Kd->Prop
 | .int=>∃i,x= .int i
 | .bl=>∃b,x= .bl b
 | .non=>x= .non
 | .str=>∃z,x= .str z
 | .lst=>∃a ys,x= .ref a/\F4 K H a ys
 | .tup=>∃a ys,x= .ref a/\Jr K H a ys
def Rf:Kd->String->Bool
 | .int,T=>T == "int"
 | .bl,T=>T == "bool" || T == "int"
 | .non,_=>false
 | .str,_=>false
 | .lst,T=>T == "list"
 | .tup,T=>T == "tuple"
def aO (T:String):Prop:=T="int" \/T="bool" \/T="tuple" \/T="list"
def j6 (K:PySem.W.Frag):List V->Hp->VK->Prop:=λxs H Q=>∃x T k,xs= [x, .ty T] /\aO T/\sT K x H k/\Q (.bl (Rf k T)) H
theorem Zn:CH X (.builtin "isinstance") (j6 X.K):=by
 intro pins s σ H xs us Q I r h
 obtain ⟨x,T,k,rfl,hT,hk,q⟩:=h
 cases r with
 | cons rx rr=>
 cases rr with
 | cons rt rr=>
 cases rr
 cases rt
 have yes:Q (.bl true) H->EP X pins σ Q (.bool true) s:=λz=>⟨.bl true,H,I,rfl,z⟩
 have no:Q (.bl false) H->EP X pins σ Q (.bool false) {s with toks:=s.toks+1}:=λz=>⟨.bl false,H,I.tok _,rfl,z⟩
 cases k with
 | int=>
   obtain ⟨i,rfl⟩:=hk
   obtain ⟨t,rfl⟩:=rx
   rcases hT with rfl|rfl|rfl|rfl
   ·exact IsiPair.int_int (yes q)
   ·exact IsiPair.int_bool (no q)
   ·exact IsiPair.int_tuple (no q)
   ·exact IsiPair.int_list (no q)
 | bl=>
   obtain ⟨i,rfl⟩:=hk
   cases rx
   rcases hT with rfl|rfl|rfl|rfl
   ·exact IsiPair.bool_int (yes q)
   ·exact IsiPair.bool_bool (yes q)
   ·exact IsiPair.bool_tuple (no q)
   ·exact IsiPair.bool_list (no q)
 | non=>
   have e:x= .non:=hk
   subst e
   cases rx
   rcases hT with rfl|rfl|rfl|rfl
   ·exact IsiPair.NoneType_int (no q)
   ·exact IsiPair.NoneType_bool (no q)
   ·exact IsiPair.NoneType_tuple (no q)
   ·exact IsiPair.NoneType_list (no q)
 | str=>
   obtain ⟨i,rfl⟩:=hk
   obtain ⟨t,rfl⟩:=rx
   rcases hT with rfl|rfl|rfl|rfl
   ·exact IsiPair.str_int (no q)
   ·exact IsiPair.str_bool (no q)
   ·exact IsiPair.str_tuple (no q)
   ·exact IsiPair.str_list (no q)
 | lst=>
   obtain ⟨a,ys,rfl,hq⟩:=hk
   cases rx
   obtain ⟨its,r',pl,hz⟩:=I.list hq
   rcases hT with rfl|rfl|rfl|rfl
   ·exact IsiPair.isList_int pl.isList (λ_ _ e=>e) (no q)
   ·exact IsiPair.isList_bool pl.isList (λ_ _ e=>e) (no q)
   ·exact IsiPair.isList_tuple pl.isList (λ_ _ e=>e) (no q)
   ·exact IsiPair.isList_list pl.isList (λ_ _ e=>e) (yes q)
 | tup=>
   obtain ⟨a,ys,rfl,hq⟩:=hk
   cases rx
   obtain ⟨its,r',pl,hz⟩:=I.tuple hq
   have pl':s.heap.IsTuple a its.toArray:=pl
   rcases hT with rfl|rfl|rfl|rfl
   ·exact IsiPair.isTuple_int pl' (λ_ _ e=>e) (no q)
   ·exact IsiPair.isTuple_bool pl' (λ_ _ e=>e) (no q)
   ·exact IsiPair.isTuple_tuple pl' (λ_ _ e=>e) (yes q)
   ·exact IsiPair.isTuple_list pl' (λ_ _ e=>e) (no q)
theorem Ym (bs:List Bool):(List.range bs.length).all (λi=>bs.getD i true)=bs.all id:=by
 rw [Bool.eq_iff_iff,List.all_eq_true,List.all_eq_true]
 constructor
 ·intro h b hb
  obtain ⟨i,hi,e⟩:=List.mem_iff_getElem.mp hb
  have:=h i (List.mem_range.mpr hi)
  rw [List.getD_eq_getElem?_getD,List.getElem?_eq_getElem hi] at this
  subst e
  simpa using this
 ·intro h i hi
  have UK:=List.mem_range.mp hi
  rw [List.getD_eq_getElem?_getD,List.getElem?_eq_getElem UK]
  simpa using h _ (List.getElem_mem UK)
theorem Inv.walked {pins:List (Addr×Obj)} {σ:St} {H:Hp} {s s':Shared} {o:Obj} (I:Inv X pins σ H s) (m:Moved [s.heap.objs.size] (λa b=>b=a) {s with heap:=s.heap.push o} s'):Inv X pins σ H s':=by
 obtain ⟨h',g',d',t',o'⟩:=s'
 obtain ⟨hk,hg,hd,ho,_⟩:=m
 have wH:∀b u,s.heap.get? b=some u->h'.get? b=some u:=λb u e=>hk b u (by
  intro z
  have z':b=s.heap.objs.size:=by simpa using z
  exact absurd (Heap.lt_size e) (by rw [z'];exact Nat.lt_irrefl _)) (Heap.get?_push_of_some _ e)
 have hg:g'=s.gens:=hg
 have hd:d'=s.drawn:=hd
 have ho:o'=s.os:=ho
 subst hg hd ho
 exact I.kept (t':=t') wH
theorem cX {bs:List Bool} {its:List Value} {A:Around} (r:Ax (bs.map V.bl) its):TruthOf X.prog X.w A (λi v=>its.toArray[i]? =some v) (λi=>bs.getD i true):=by
 intro i v s Q E hv hQ
 have mV:its[i]? =some v:=by simpa using hv
 cases e:(bs.map V.bl)[i]? with
 | none=>rw [r.none_of e] at mV;cases mV
 | some x=>
   obtain ⟨u,hu,ru⟩:=r.get e
   rw [mV] at hu
   cases hu
   rw [List.getElem?_map] at e
   cases e2:bs[i]? with
   | none=>rw [e2] at e;cases e
   | some b=>
     rw [e2] at e
     cases e
     cases ru
     replace hQ:Q (bs.getD i true) s:=hQ
     rw [List.getD_eq_getElem?_getD,e2] at hQ
     unfold truthy
     exact wpAny_pure hQ
def fQ (K:PySem.W.Frag) (f:List Bool->Bool):List V->Hp->VK->Prop:=λxs H Q=>∃p bs,xs= [.ref p] /\F4 K H p (bs.map V.bl)/\Q (.bl (f bs)) H
theorem X1 (hc:X.calm=true):CH X (.builtin "all") (fQ X.K λbs=>bs.all id):=by
 intro pins s σ H xs us Q I r h
 obtain ⟨p,bs,rfl,hq,q⟩:=h
 obtain ⟨u,rfl,rx⟩:=vals1 r
 cases rx
 obtain ⟨its,r',pl,hz⟩:=I.list hq
 obtain ⟨ol,tK,qN⟩:=id pl.isList
 have QY:p≠s.heap.objs.size:=Nat.ne_of_lt (Heap.lt_size tK)
 have DH:its.toArray.size=bs.length:=by
  have:=r'.length
  simp at this
  simp [this]
 refine call_all_walkS (wpAny_pyIter_list pl.isList ?_)
 refine ⟨_,_,_,_,_,_,_,λi=>bs.getD i true,rfl,(Walks.list (A:=X.A.in1) (show X.A.in1.handled=none from I.ok.hd hc) s.heap.objs.size p QY its.toArray).toS,⟨⟨_,Heap.get?_push_size _ rfl,rfl,rfl⟩,⟨ol,Heap.get?_push_of_some _ tK,qN⟩⟩,cX r',λs' m=> ?_⟩
 rw [DH,Ym]
 exact ⟨.bl (bs.all id),H,I.walked m,rfl,q⟩
def eF (xs:List V) (k:Nat) (y:V):List V:=xs.take k++y::xs.drop k
theorem Ax.ins {xs:List V} {us:List Value} {y:V} {u:Value} (r:Ax xs us) (ry:RelV y u) (k:Nat):Ax (eF xs k y) (us.take k++u::us.drop k):=Ax.append (r.take k) (.cons ry (r.drop k))
def SL:V->List V->Hp->VK->Prop:=λx vs H Q=>∃l xs i y,x= .ref l/\vs= [.int i,y] /\H l=some (.lst xs)/\0<=i/\i<=(xs.length:Int)/\xs.length<sizeLine/\Q .non (upd H l (.lst (eF xs i.toNat y)))
theorem YW:lc X "list.insert" SL:=by
 intro pins s σ H x vs v us Q I rx rv h
 obtain ⟨l,xs,i,y,rfl,rfl,hH,h0,h1,hz,q⟩:=h
 cases rx
 cases rv with
 | cons ri rr=>
 cases rr with
 | cons ry rr=>
 cases rr
 rename_i uy
 obtain ⟨t,rfl⟩:=ri
 obtain ⟨z,its,n,r,hl,e⟩:=I.lstM hH
 have W6:=Lm
 have UH:¬(!Builtin.List.listFitsIndex i)=true:=by
  have:=fitsIndex_both (k:=i) (by omega) (by omega)
  simp [this]
 refine call_meets F.slot_list_insert ⟨_,e,rfl⟩ F.entry_list_insert (F.args_list_insert_3 _ _ _) (AutoSeq1.list_insert_list_int_val_1 l its.toArray n i t uy UH (by rw [List.size_toArray];omega)) ⟨e, ?_⟩
 refine ⟨.non,_,I.lset (ys:=eF xs i.toNat y) (its':=its.take i.toNat++uy::its.drop i.toNat) hH e ?_ (r.ins ry _) ?_,rfl,q⟩
 ·dsimp only
  rw [if_neg (by omega),List.size_toArray,Nat.min_eq_left (by omega)]
  apply Array.toList_inj.mp
  simp
  exact List.take_of_length_le (by simp)
 ·unfold eF
  simp
  omega
end
end L2
end
section
namespace L2
open PySem PySem.Spec PyProof.Rows
def La:Bool->Heap->Addr->Addr->Nat->Prop
 | true,h,q,l,k=>h.IsListIter q l k
 | false,h,q,l,k=>h.IsTupleIter q l k
def JA:Bool->Heap->Addr->Array Value->Prop
 | true,h,l,xs=>h.IsList l xs
 | false,h,l,xs=>h.IsTuple l xs
theorem La.mv {b:Bool} {h h':Heap} {q l:Addr} {k:Nat} (x:La b h q l k) (e:∀o,h.get? q=some o->h'.get? q=some o):La b h' q l k:=by
 cases b with
 | true=>obtain ⟨o,a,r⟩:=x;exact ⟨o,e o a,r⟩
 | false=>obtain ⟨o,a,r⟩:=x;exact ⟨o,e o a,r⟩
theorem La.obj {b:Bool} {h:Heap} {q l:Addr} {k:Nat} (x:La b h q l k):∃o,h.get? q=some o/\∀v,o.data≠ .cell v:=by
 cases b with
 | true=>
   obtain ⟨o,a,_,d⟩:=x
   exact ⟨o,a,λv z=>by rw [d] at z;cases z⟩
 | false=>
   obtain ⟨o,a,_,d⟩:=x
   exact ⟨o,a,λv z=>by rw [d] at z;cases z⟩
theorem JA.mv {b:Bool} {h h':Heap} {l:Addr} {xs:Array Value} (x:JA b h l xs) (e:∀o,h.get? l=some o->h'.get? l=some o):JA b h' l xs:=by
 cases b with
 | true=>obtain ⟨o,a,r⟩:=x;exact ⟨o,e o a,r⟩
 | false=>obtain ⟨o,a,r⟩:=x;exact ⟨o,e o a,r⟩
section
variable {prog:Program} {w:World} {A:Around} {E:Value->Shared->Prop} {s:Shared}
theorem HH {b:Bool} {q l:Addr} {k:Nat} {xs:Array Value} {x:Value} {Q:Value->Shared->Prop} (hq:La b s.heap q l k) (hl:JA b s.heap l xs) (hx:xs[k]? =some x)
 (hQ:∀h',La b h' q l (k+1)->Heap.SameBut q s.heap h'->Q x {s with heap:=h'}):wpAny (model prog w) A (Builtin.SmallTypes.nextOf (.ref q)) Q E s:=by
 cases b with
 | true=>exact wpAny_nextOf_list_item hq hl hx hQ
 | false=>
   have jG:s.heap.IsTupleIter q l k:=hq
   obtain ⟨oq,gq,cq,dq⟩:=id jG
   obtain ⟨ol,gl,_,nl,dl⟩:=hl
   unfold Builtin.SmallTypes.nextOf
   refine wpAny_bind (wpAny_callSpecial?_slot (name:=Str.ofString "__next__") jG.typeIs F.slot_tuple_iterator_next (wpAny_call_entry F.slot_tuple_iterator_next jG.typeIs F.entry_tuple_iterator_next ?_ (F.args_tuple_iterator_next_1 _)))
   show wpAny _ _ (field (.ref q) 0 >>= _) _ _ _
   refine wpAny_bind (wpAny_field gq dq (x:= .ref l) rfl ?_)
   show wpAny _ _ (if (Value.ref l==Value.none)=true then _ else _) _ _ _
   rw [if_neg (by intro z;cases z)]
   show wpAny _ _ (field (.ref q) 1 >>= _) _ _ _
   refine wpAny_bind (wpAny_field gq dq (x:= .int k 0) rfl ?_)
   show wpAny _ _ (seqItems? (.ref l) >>= _) _ _ _
   refine wpAny_bind (wpAny_seqItems gl dl ?_)
   simp only [Int.toNat_natCast,hx]
   refine wpAny_bind (wpAny_setField gq dq (by simp) (wpAny_pure ⟨x,rfl,wpAny_pure (hQ _ ?_ (Heap.SameBut.update ..))⟩))
   refine ⟨_,Heap.get?_update_self _ gq (Obj.isFreed_of_fields (Obj.data_mapFields dq _)),(Obj.cls_mapFields ..).trans cq, ?_⟩
   rw [Obj.data_mapFields dq]
   simp [rawInt]
theorem Fu {b:Bool} {q l:Addr} {k:Nat} {xs:Array Value} {Q:Value->Shared->Prop} (hh:A.handled=none) (hq:La b s.heap q l k) (hl:JA b s.heap l xs) (hx:xs[k]? =none)
 (hE:∀h' e,Heap.ExtBut q s.heap h'->(∃o,h'.get? e=some o/\o.cls= .type "StopIteration")->E (.ref e) {s with heap:=h'}):wpAny (model prog w) A (Builtin.SmallTypes.nextOf (.ref q)) Q E s:=by
 cases b with
 | true=>exact wpAny_nextOf_list_end hh hq hl hx hE
 | false=>
   have jG:s.heap.IsTupleIter q l k:=hq
   obtain ⟨oq,gq,cq,dq⟩:=id jG
   obtain ⟨ol,gl,_,nl,dl⟩:=hl
   unfold Builtin.SmallTypes.nextOf
   refine wpAny_bind (wpAny_callSpecial?_slot (name:=Str.ofString "__next__") jG.typeIs F.slot_tuple_iterator_next (wpAny_call_entry F.slot_tuple_iterator_next jG.typeIs F.entry_tuple_iterator_next ?_ (F.args_tuple_iterator_next_1 _)))
   show wpAny _ _ (field (.ref q) 0 >>= _) _ _ _
   refine wpAny_bind (wpAny_field gq dq (x:= .ref l) rfl ?_)
   show wpAny _ _ (if (Value.ref l==Value.none)=true then _ else _) _ _ _
   rw [if_neg (by intro z;cases z)]
   show wpAny _ _ (field (.ref q) 1 >>= _) _ _ _
   refine wpAny_bind (wpAny_field gq dq (x:= .int k 0) rfl ?_)
   show wpAny _ _ (seqItems? (.ref l) >>= _) _ _ _
   refine wpAny_bind (wpAny_seqItems gl dl ?_)
   simp only [Int.toNat_natCast,hx]
   refine wpAny_bind (wpAny_rule (wpAny_bind (wpAny_setField gq dq (by simp) ?_)))
   refine wpAny_bind (m:=newExc (.type "StopIteration") []) ?_
   simp only [newExc,newTuple]
   refine wpAny_bind (wpAny_newObj_type ?_ (by size_fits))
   refine wpAny_bind (m:=firstArgMember _ _) (wpAny_of_eq (a:=Value.none) (by first | rfl|(simp only [firstArgMember];rfl)) (wpAny_newObj_type ?_ (by size_fits)))
   simp only [raiseNew]
   refine wpAny_bind (wpAny_handled ?_)
   first | rw [show A.in1.handled=none from hh] | rw [hh]
   exact wpAny_bind (wpAny_pure (wpAny_throw (hE _ _ (((Heap.SameBut.update ..).extBut.push _).push _) ⟨_,Heap.get?_push_size _ rfl,rfl⟩)))
structure iW (b c:Bool) (z TI TO i j l m:Addr) (k:Nat) (f:Value) (h:Heap):Prop where
 zip:IsZip h z TI TO f
 its:IsPair h TI (.ref i) (.ref j)
 own:∃x y,IsPair h TO x y
 one:La b h i l k
 two:La c h j m k
theorem iW.mv {b c:Bool} {z TI TO i j l m:Addr} {k:Nat} {f:Value} {h h':Heap} (Z:iW b c z TI TO i j l m k f h) (e:∀p∈ [z,TI,TO,i,j],∀o,h.get? p=some o->h'.get? p=some o):iW b c z TI TO i j l m k f h':=by
 obtain ⟨a1,a2,⟨x,y,a3⟩,a4,a5⟩:=Z
 exact ⟨e z (by simp) _ a1,e TI (by simp) _ a2,⟨x,y,e TO (by simp) _ a3⟩,a4.mv (e i (by simp)),a5.mv (e j (by simp))⟩
variable {b c:Bool} {z TI TO i j l m:Addr} {k:Nat} {xs ys:Array Value}
theorem oP {x y:Value} {Q:Value->Shared->Prop} (D:ZipApart z TI TO i j l m) (Z:iW b c z TI TO i j l m k .none s.heap) (hl:JA b s.heap l xs) (hm:JA c s.heap m ys) (hx:xs[k]? =some x) (hy:ys[k]? =some y)
 (hQ:∀h',IsZip h' z TI TO (rawInt s.heap.objs.size)->IsPair h' TI (.ref i) (.ref j)->IsPair h' TO x y->La b h' i l (k+1)->La c h' j m (k+1)->IsPair h' s.heap.objs.size x y->
   (∀p o,p≠z->p≠TO->p≠i->p≠j->s.heap.get? p=some o->h'.get? p=some o)->Q (.ref s.heap.objs.size) {s with heap:=h'}):
 wpAny (model prog w) A (Builtin.«zip.__next__» ⟨[.ref z], []⟩) (λfin s'=>∃v,fin= .done (.ret v)/\Q v s') E s:=by
 obtain ⟨zz,zi,⟨x0,y0,zo⟩,z1,z2⟩:=Z
 show wpAny _ _ (field (.ref z) 2 >>= _) _ _ _
 refine wpAny_bind (wpAny_field zz rfl (x:= .bool false) rfl ?_)
 show wpAny _ _ (field (.ref z) 3 >>= _) _ _ _
 refine wpAny_bind (wpAny_field zz rfl (x:= .ref TI) rfl (wpAny_bind (wpAny_seqItems zi rfl ?_)))
 refine wpAny_bind (m:=Builtin.SmallTypes.ownedTupleIsFree (.ref z)) ?_
 unfold Builtin.SmallTypes.ownedTupleIsFree
 refine wpAny_bind (wpAny_field zz rfl (x:= .none) rfl (wpAny_pure ?_))
 simp only [if_true]
 refine wpAny_bind (wpAny_rule (wpAny_bind (wpAny_field zz rfl (x:= .ref TO) rfl (wpAny_bind (wpAny_setField_rec zz (by simp) λg1 e1 b1=> ?_)))))
 have e1:IsZip g1 z TI TO .ellipsis:=e1
 refine wpAny_bind ?_
 simp only [List.zipIdx_cons,List.zipIdx_nil,List.forIn_cons,List.forIn_nil]
 refine wpAny_bind (wpAny_bind (wpAny_onRaise ?_))
 refine wpAny_bind (m:=Builtin.SmallTypes.nextOf (.ref i)) (HH (z1.mv λo=>b1.extBut _ o D.i1z) (hl.mv λo=>b1.extBut _ o D.l1z) hx λg2 e2 b2=>wpAny_pure ?_)
 have o2:IsPair g2 TO x0 y0:=b2.extBut _ _ D.TOi1 (b1.extBut _ _ D.TOz zo)
 refine wpAny_bind (wpAny_seqItems o2 rfl (wpAny_bind (wpAny_updateSeq_pair o2 λg3 o3 b3=>wpAny_bind (wpAny_letGo (wpAny_pure ?_)))))
 have o3:IsPair g3 TO x y0:=o3
 refine wpAny_bind (wpAny_bind (wpAny_onRaise ?_))
 refine wpAny_bind (m:=Builtin.SmallTypes.nextOf (.ref j)) (HH (((z2.mv λo=>b1.extBut _ o D.i2z).mv λo=>b2.extBut _ o D.i12.symm).mv λo=>b3.extBut _ o D.TOi2.symm)
  (((hm.mv λo=>b1.extBut _ o D.l2z).mv λo=>b2.extBut _ o D.l2i1).mv λo=>b3.extBut _ o D.l2TO) hy λg4 e4 b4=>wpAny_pure ?_)
 have o4:IsPair g4 TO x y0:=b4.extBut _ _ D.TOi2 o3
 refine wpAny_bind (wpAny_seqItems o4 rfl (wpAny_bind (wpAny_updateSeq_pair o4 λg5 o5 b5=>wpAny_bind (wpAny_letGo (wpAny_pure (wpAny_pure ?_))))))
 have o5:IsPair g5 TO x y:=o5
 refine wpAny_bind (wpAny_seqItems o5 rfl (wpAny_bind (wpAny_newTuple ?_)))
 have sz:g5.objs.size=s.heap.objs.size:=by rw [b5.1,b4.1,b3.1,b2.1,b1.1]
 have k5:IsZip g5 z TI TO .ellipsis:=b5.extBut _ _ D.TOz.symm (b4.extBut _ _ D.i2z.symm (b3.extBut _ _ D.TOz.symm (b2.extBut _ _ D.i1z.symm e1)))
 have all5:∀p o,p≠z->p≠TO->p≠i->p≠j->s.heap.get? p=some o->g5.get? p=some o:=λp o q1 q2 q3 q4 e=>
  b5.extBut _ _ q2 (b4.extBut _ _ q4 (b3.extBut _ _ q2 (b2.extBut _ _ q3 (b1.extBut _ _ q1 e))))
 have one5:La b g5 i l (k+1):=((e2.mv λo=>b3.extBut _ o D.TOi1.symm).mv λo=>b4.extBut _ o D.i12).mv λo=>b5.extBut _ o D.TOi1.symm
 have two5:La c g5 j m (k+1):=e4.mv λo=>b5.extBut _ o D.TOi2.symm
 have zlt:z<g5.objs.size:=Heap.lt_size k5
 refine wpAny_bind (m:=Builtin.SmallTypes.ownedTupleHandOut (.ref z) (.ref g5.objs.size)) ?_
 unfold Builtin.SmallTypes.ownedTupleHandOut
 have k6:IsZip (g5.push {cls:= .type "tuple",data:= .seq #[x,y] }) z TI TO .ellipsis:=Heap.get?_push_of_some _ k5
 refine wpAny_bind (wpAny_setField_rec k6 (by simp) λg7 k7 b7=> ?_)
 have k7:IsZip g7 z TI TO (rawInt g5.objs.size):=k7
 refine wpAny_setField_rec k7 (by simp) λg8 k8 b8=> ?_
 have k8:IsZip g8 z TI TO (rawInt g5.objs.size):=k8
 have up:∀p o,p≠z->g5.get? p=some o->g8.get? p=some o:=λp o q e=>b8.extBut _ _ q (b7.extBut _ _ q (Heap.get?_push_of_some _ e))
 have new8:IsPair g8 g5.objs.size x y:=b8.extBut _ _ (Nat.ne_of_gt zlt) (b7.extBut _ _ (Nat.ne_of_gt zlt) (Heap.get?_push_size _ rfl))
 rw [sz] at k8 new8
 refine wpAny_pure ⟨_,rfl, ?_⟩
 show Q (.ref g5.objs.size) _
 rw [sz]
 exact hQ g8 k8 (up _ _ D.TIz (all5 _ _ D.TIz D.TITO D.TIi1 D.TIi2 zi)) (up _ _ D.TOz o5) (one5.mv λo=>up _ o D.i1z) (two5.mv λo=>up _ o D.i2z) new8 λp o q1 q2 q3 q4 e=>up p o q1 (all5 p o q1 q2 q3 q4 e)
theorem sK {Q:Fin->Shared->Prop} (hh:A.handled=none) (D:ZipApart z TI TO i j l m) (Z:iW b c z TI TO i j l m k .none s.heap) (hl:JA b s.heap l xs) (hm:JA c s.heap m ys) (i7:xs[k]? =none\/ys[k]? =none)
 (hE:∀h' e,(∀p o,p≠z->p≠TO->p≠i->p≠j->s.heap.get? p=some o->h'.get? p=some o)->(∃o,h'.get? e=some o/\o.cls= .type "StopIteration")->E (.ref e) {s with heap:=h'}):
 wpAny (model prog w) A (Builtin.«zip.__next__» ⟨[.ref z], []⟩) Q E s:=by
 obtain ⟨zz,zi,⟨x0,y0,zo⟩,z1,z2⟩:=Z
 show wpAny _ _ (field (.ref z) 2 >>= _) _ _ _
 refine wpAny_bind (wpAny_field zz rfl (x:= .bool false) rfl ?_)
 show wpAny _ _ (field (.ref z) 3 >>= _) _ _ _
 refine wpAny_bind (wpAny_field zz rfl (x:= .ref TI) rfl (wpAny_bind (wpAny_seqItems zi rfl ?_)))
 refine wpAny_bind (m:=Builtin.SmallTypes.ownedTupleIsFree (.ref z)) ?_
 unfold Builtin.SmallTypes.ownedTupleIsFree
 refine wpAny_bind (wpAny_field zz rfl (x:= .none) rfl (wpAny_pure ?_))
 simp only [if_true]
 refine wpAny_bind (wpAny_rule (wpAny_bind (wpAny_field zz rfl (x:= .ref TO) rfl (wpAny_bind (wpAny_setField_rec zz (by simp) λg1 e1 b1=> ?_)))))
 have e1:IsZip g1 z TI TO .ellipsis:=e1
 refine wpAny_bind ?_
 simp only [List.zipIdx_cons,List.zipIdx_nil,List.forIn_cons,List.forIn_nil]
 refine wpAny_bind (wpAny_bind (wpAny_onRaise ?_))
 cases hx:xs[k]? with
 | none=>
   refine wpAny_bind (m:=Builtin.SmallTypes.nextOf (.ref i)) (Fu hh (z1.mv λo=>b1.extBut _ o D.i1z) (hl.mv λo=>b1.extBut _ o D.l1z) hx λg2 e b2 he=> ?_)
   obtain ⟨oe,ge,ce⟩:=he
   have k2:IsZip g2 z TI TO .ellipsis:=b2 _ _ D.i1z.symm e1
   have ez:e≠z:=λq=>by subst q;rw [k2] at ge;cases ge;simp at ce
   refine wpAny_setField_rec k2 (by simp) λg3 _ b3=>hE g3 e (λp o q1 _ q3 _ q=>b3.extBut _ _ q1 (b2 _ _ q3 (b1.extBut _ _ q1 q))) ⟨oe,b3.extBut _ _ ez ge,ce⟩
 | some x=>
   have hy:ys[k]? =none:=by
    rcases i7 with q|q
    ·rw [hx] at q;cases q
    ·exact q
   refine wpAny_bind (m:=Builtin.SmallTypes.nextOf (.ref i)) (HH (z1.mv λo=>b1.extBut _ o D.i1z) (hl.mv λo=>b1.extBut _ o D.l1z) hx λg2 e2 b2=>wpAny_pure ?_)
   have o2:IsPair g2 TO x0 y0:=b2.extBut _ _ D.TOi1 (b1.extBut _ _ D.TOz zo)
   refine wpAny_bind (wpAny_seqItems o2 rfl (wpAny_bind (wpAny_updateSeq_pair o2 λg3 o3 b3=>wpAny_bind (wpAny_letGo (wpAny_pure ?_)))))
   refine wpAny_bind (wpAny_bind (wpAny_onRaise ?_))
   refine wpAny_bind (m:=Builtin.SmallTypes.nextOf (.ref j)) (Fu hh (((z2.mv λo=>b1.extBut _ o D.i2z).mv λo=>b2.extBut _ o D.i12.symm).mv λo=>b3.extBut _ o D.TOi2.symm)
    (((hm.mv λo=>b1.extBut _ o D.l2z).mv λo=>b2.extBut _ o D.l2i1).mv λo=>b3.extBut _ o D.l2TO) hy λg4 e b4 he=> ?_)
   obtain ⟨oe,ge,ce⟩:=he
   have k4:IsZip g4 z TI TO .ellipsis:=b4 _ _ D.i2z.symm (b3.extBut _ _ D.TOz.symm (b2.extBut _ _ D.i1z.symm e1))
   have ez:e≠z:=λq=>by subst q;rw [k4] at ge;cases ge;simp at ce
   refine wpAny_setField_rec k4 (by simp) λg5 _ b5=>hE g5 e (λp o q1 q2 q3 q4 q=>b5.extBut _ _ q1 (b4 _ _ q4 (b3.extBut _ _ q2 (b2.extBut _ _ q3 (b1.extBut _ _ q1 q))))) ⟨oe,b5.extBut _ _ ez ge,ce⟩
end
def S7 (b:Bool) (l:Addr):Obj:={cls:= .type (match b with | true=>"list_iterator" | false=>"tuple_iterator"),data:= .fields #[.ref l, .int 0 0] }
abbrev zA (b:Bool) (h:Heap) (l:Addr):Heap:=h.push (S7 b l)
abbrev zB (b c:Bool) (h:Heap) (l m:Addr):Heap:=(zA b h l).push (S7 c m)
abbrev zC (b c:Bool) (h:Heap) (l m:Addr):Heap:=(zB b c h l m).push {cls:= .type "tuple",data:= .seq #[.ref h.objs.size, .ref (zA b h l).objs.size] }
abbrev zD (b c:Bool) (h:Heap) (l m:Addr):Heap:=(zC b c h l m).push {cls:= .type "tuple",data:= .seq #[.none, .none] }
abbrev zF (b c:Bool) (h:Heap) (l m:Addr):Heap:=(zD b c h l m).push {cls:= .type "zip",data:= .fields #[.none, .bool false, .bool false, .ref (zB b c h l m).objs.size, .ref (zC b c h l m).objs.size] }
theorem JH {prog:Program} {w:World} {A:Around} {E:Value->Shared->Prop} {h:Heap} {g:Array GenState} {d:Drawn} {tk:Nat} {os:OsState} {b:Bool} {l:Addr} {xs:Array Value} {Q:Value->Shared->Prop} (hl:JA b h l xs)
 (q:Q (.ref h.objs.size) ⟨h.push (S7 b l),g,d,tk,os⟩):wpAny (model prog w) A (pyIter (.ref l)) Q E ⟨h,g,d,tk,os⟩:=by
 cases b with
 | true=>exact wpAny_pyIter_list (s:=⟨h,g,d,tk,os⟩) hl q
 | false=>exact wpAny_pyIter_tuple (s:=⟨h,g,d,tk,os⟩) hl q
theorem Y5 (b c:Bool) (l m:Addr) (xs ys:Array Value):Meets (Builtin.«zip.__new__» ⟨[.type "zip", .ref l, .ref m], []⟩) (λ_ R s=>JA b s.heap l xs/\JA c s.heap m ys/\R (.ok (.ret (.ref (zD b c s.heap l m).objs.size))) {s with heap:=zF b c s.heap l m}):=
 .of_wp λprog w A R s h=>by
   obtain ⟨hp,g,d,tk,os⟩:=s
   obtain ⟨hl,hm,h⟩:=h
   have mT:=sub_zip
   have gh:JA b hp l xs:=hl
   have qK:JA c (hp.push (S7 b l)) m ys:=hm.mv λo e=>Heap.get?_push_of_some _ e
   wp_walk using JH gh,JH qK
   exact ⟨_,rfl,h⟩
section
variable {prog:Program} {w:World} {A:Around} {E:Value->Shared->Prop} {s:Shared} {b c:Bool} {l m:Addr} {xs ys:Array Value}
theorem XB {h:Heap} {q:Addr} (e:h.get? q=some (S7 b l)):La b h q l 0:=by
 cases b with
 | true=>exact ⟨_,e,rfl,rfl⟩
 | false=>exact ⟨_,e,rfl,rfl⟩
theorem kg (hl:JA b s.heap l xs) (hm:JA c s.heap m ys) {Q:Value->Shared->Prop}
 (h:∀h',iW b c (s.heap.objs.size+4) (s.heap.objs.size+2) (s.heap.objs.size+3) s.heap.objs.size (s.heap.objs.size+1) l m 0 .none h'->(∀p o,s.heap.get? p=some o->h'.get? p=some o)->Q (.ref (s.heap.objs.size+4)) {s with heap:=h'}):
 wpAny (model prog w) A (call (.type "zip") [.ref l, .ref m]) Q E s:=by
 refine callType_new F.called_zip (by decide) (F.typeCall_zip_2 _ _) (F.newCall_zip_2 _ _) (λobj=>F.args_object_init_3 obj _ _) F.entry_zip_new (Y5 b c l m xs ys) ⟨hl,hm, ?_⟩
 have n1:(zA b s.heap l).objs.size=s.heap.objs.size+1:=Heap.size_push ..
 have n2:(zB b c s.heap l m).objs.size=s.heap.objs.size+2:=by rw [Heap.size_push,n1]
 have n3:(zC b c s.heap l m).objs.size=s.heap.objs.size+3:=by rw [Heap.size_push,n2]
 have n4:(zD b c s.heap l m).objs.size=s.heap.objs.size+4:=by rw [Heap.size_push,n3]
 have p5:(zF b c s.heap l m).get? (zD b c s.heap l m).objs.size=some _:=Heap.get?_push_size _ rfl
 have p4:(zF b c s.heap l m).get? (zC b c s.heap l m).objs.size=some _:=Heap.get?_push_of_some _ (Heap.get?_push_size _ rfl)
 have p3:(zF b c s.heap l m).get? (zB b c s.heap l m).objs.size=some _:=Heap.get?_push_of_some _ (Heap.get?_push_of_some _ (Heap.get?_push_size _ rfl))
 have p2:(zF b c s.heap l m).get? (zA b s.heap l).objs.size=some (S7 c m):=Heap.get?_push_of_some _ (Heap.get?_push_of_some _ (Heap.get?_push_of_some _ (Heap.get?_push_size _ rfl)))
 have p1:(zF b c s.heap l m).get? s.heap.objs.size=some (S7 b l):=Heap.get?_push_of_some _ (Heap.get?_push_of_some _ (Heap.get?_push_of_some _ (Heap.get?_push_of_some _ (Heap.get?_push_size _ rfl))))
 rw [n2,n3,n4] at p5
 rw [n1,n2] at p3
 rw [n3] at p4
 rw [n1] at p2
 show _/\_
 rw [n4]
 exact ⟨⟨_,p5,rfl⟩,h _ ⟨p5,p3,⟨_,_,p4⟩,XB p1,XB p2⟩ λp o e=>Heap.get?_push_of_some _ (Heap.get?_push_of_some _ (Heap.get?_push_of_some _ (Heap.get?_push_of_some _ (Heap.get?_push_of_some _ e))))⟩
end
def Sq (K:PySem.W.Frag):Bool->Hp->Addr->List V->Prop
 | true,H,a,xs=>F4 K H a xs
 | false,H,a,xs=>Jr K H a xs
section
variable {X:Cx} {pins:List (Addr×Obj)} {σ:St} {H:Hp} {s:Shared} {a:Addr} {ys xs:List V} {b:Bool} {h':Heap}
theorem Inv.sq (I:Inv X pins σ H s) (h:Sq X.K b H a xs):∃its:List Value,Ax xs its/\JA b s.heap a its.toArray/\xs.length<=sizeLine:=by
 cases b with
 | true=>
   obtain ⟨its,r,p,z⟩:=I.list h
   exact ⟨its,r,p.isList,z⟩
 | false=>
   obtain ⟨its,r,p,z⟩:=I.tuple h
   exact ⟨its,r,p,z⟩
theorem Inv.sq_inj (I:Inv X pins σ H s) (h:Sq X.K b H a xs) (h2:Sq X.K b H a ys):xs=ys:=by
 cases b with
 | true=>exact I.list_inj h h2
 | false=>exact I.tuple_inj h h2
theorem Inv.turnedL {ch:List Addr} {t':Nat} (I:Inv X pins σ H s) (M9:∀p∈ch,D7 X pins H p) (k:∀p o,p ∉ ch->s.heap.get? p=some o->h'.get? p=some o):Inv X pins σ H {s with heap:=h',toks:=t'}:=by
 have nit:∀p u,H p=some u->p ∉ ch:=λp u e z=>by rw [(M9 p z).1] at e;cases e
 refine I.step (g':=s.gens) (d':=s.drawn) (ch:=ch) (λp hp=>⟨(M9 p hp).2.2.2.1,(M9 p hp).2.1,(M9 p hp).2.2.2.2.1,(M9 p hp).2.2.2.2.2⟩) (λp o _ _ hc e _=>k p o hc e) (λp o _ _ hc e _=>⟨o.slots,k p o hc e⟩)
  (λ_ _ _ _ n=>n) (λp o hc e=>⟨o,k p o hc e⟩) (λ_ _ e=>e) (λ_ _ _ e=>e) (λp ps e=>⟨#[],by rw [e];simp⟩) (λm hm=> ?_) (λp u e=> ?_) I.bare
 ·obtain ⟨o,es,ep,ho,r⟩:=hm
  exact ⟨o,es,ep,k _ o (λz=>(M9 _ z).2.1 rfl) ho,r⟩
 ·refine (I.hok p u e).stay (λq v hq e2=>k q v ?_ e2) (λ_ q=>q) λ_ _ q=>q
  rcases hq with z|z
  ·rw [z];exact nit p u e
  ·exact nit q _ z
theorem Inv.turnedN {ch:List Addr} {t':Nat} {n:Addr} {o:HO} (I:Inv X pins σ H s) (M9:∀p∈ch,D7 X pins H p) (EF:∀p∈ch,p<s.heap.objs.size) (k:∀p o,p ∉ ch->s.heap.get? p=some o->h'.get? p=some o) (hn:s.heap.objs.size<=n)
 (new:DN X.prog X.w (upd H n o) h' n o):Inv X pins σ (upd H n o) {s with heap:=h',toks:=t'}:=by
 have I1:Inv X pins σ H {s with heap:=h',toks:=t'}:=I.turnedL M9 k
 have UI:H n=none:=I.hok.fresh hn
 have hx:∀p u,s.heap.get? p=some u->p≠n:=λp u e=>Nat.ne_of_lt (Nat.lt_of_lt_of_le (Heap.lt_size e) hn)
 refine I.step (g':=s.gens) (d':=s.drawn) (ch:=ch) (λp hp=>⟨(M9 p hp).2.2.2.1,(M9 p hp).2.1,(M9 p hp).2.2.2.2.1,(M9 p hp).2.2.2.2.2⟩) (λp o _ _ hc e _=>k p o hc e) (λp o _ _ hc e _=>⟨o.slots,k p o hc e⟩)
  (λp u _ e z=>by rw [Ah (hx p u e)];exact z) (λp o hc e=>⟨o,k p o hc e⟩) (λp xs e=>by rw [Ah (Av e UI)];exact e) (λp o xs e=>by rw [Ah (Av e UI)];exact e)
  (λp ps e=>⟨#[],by rw [Ah (Av e UI),e];simp⟩) (λm hm=> ?_) (λp u e=> ?_) I.bare
 ·obtain ⟨o,es,ep,ho,r⟩:=hm
  exact ⟨o,es,ep,k _ o (λz=>(M9 _ z).2.1 rfl) ho,r⟩
 ·by_cases hp:p=n
  ·subst hp
   rw [Aj] at e
   cases e
   exact new
  ·rw [Ah hp] at e
   exact (I1.hok p u e).stay (λ_ _ _ q=>q) (λq hq=>by rw [Ah (Av hq UI)];exact hq) λq xs hq=>by rw [Ah (Av hq UI)];exact hq
end
def pP (K:PySem.W.Frag) (b c:Bool) (l m:Addr):It:=
 ⟨λi H=>∃xs ys x y,Sq K b H l xs/\Sq K c H m ys/\xs[i]? =some x/\ys[i]? =some y,
  λi H v H'=>∃T x y,v= .ref T/\H T=none/\H'=upd H T (.tup [x,y])/\(∀xs,Sq K b H l xs->xs[i]? =some x)/\∀ys,Sq K c H m ys->ys[i]? =some y,
  λi H=>∃xs ys,Sq K b H l xs/\Sq K c H m ys/\(xs.length<=i\/ys.length<=i)⟩
theorem cY {P:Program} {w:World} {K:PySem.W.Frag} {es:List Expr} {x1:Nat} {pos:Pos} {b c:Bool} {z TI TO i j l m:Addr} (D:ZipApart z TI TO i j l m):
 Js P w K (.Tuple es x1 pos) (pP K b c l m) [z,TI,TO,i,j] z (λk h=>iW b c z TI TO i j l m k .none h) where
 mem:=by simp
 obj:=λk h Z p hp=>by
  have EN:p=z\/p=TI\/p=TO\/p=i\/p=j:=by simpa using hp
  rcases EN with e|e|e|e|e
  ·subst e;exact ⟨_,Z.zip,λv q=>nomatch q⟩
  ·subst e;exact ⟨_,Z.its,λv q=>nomatch q⟩
  ·subst e;obtain ⟨x,y,q⟩:=Z.own;exact ⟨_,q,λv q=>nomatch q⟩
  ·subst e;exact Z.one.obj
  ·subst e;exact Z.two.obj
 keep:=λk h h' Z e=>Z.mv e
 item:=by
  intro X hP hw hK hc k pins s σ H E I hf Z hg
  subst hP hw hK
  obtain ⟨xs,ys,x,y,hl,hm,hx,hy⟩:=hg
  obtain ⟨us,ru,su,_⟩:=I.sq hl
  obtain ⟨vs,rv,sv,_⟩:=I.sq hm
  obtain ⟨u,hu,rx⟩:=ru.get hx
  obtain ⟨v,hv,ry⟩:=rv.get hy
  have hT:s.TypeIs (.ref z) "zip" :=⟨_,Z.zip,rfl⟩
  unfold pyNext
  refine wpAny_bind (wpAny_attempt (wpAny_callSpecial?_slot (name:=Str.ofString "__next__") hT F.slot_zip_next (wpAny_call_entry F.slot_zip_next hT F.entry_zip_next
   (oP D Z su sv (x:=u) (y:=v) (by simpa using hu) (by simpa using hv) λh1 a1 a2 a3 a4 a5 a6 a7=>wpAny_pure ?_) (F.args_zip_next_1 _))))
  refine ⟨_,rfl,wpAny_letOwnedTupleGo_zip (s:={s with heap:=h1}) a1 λh2 c1 c2=> ?_⟩
  have nT:∀p∈ [z,TI,TO,i,j],p<s.heap.objs.size:=λp hp=>by
   have EN:p=z\/p=TI\/p=TO\/p=i\/p=j:=by simpa using hp
   rcases EN with e|e|e|e|e
   ·subst e;exact Heap.lt_size Z.zip
   ·subst e;exact Heap.lt_size Z.its
   ·subst e;obtain ⟨x,y,q⟩:=Z.own;exact Heap.lt_size q
   ·subst e;obtain ⟨o,q,_⟩:=Z.one.obj;exact Heap.lt_size q
   ·subst e;obtain ⟨o,q,_⟩:=Z.two.obj;exact Heap.lt_size q
  have c2':∀p o,p≠z->h1.get? p=some o->h2.get? p=some o:=λp o q e=>c2.extBut _ _ q e
  have kp:∀p o,p ∉ [z,TI,TO,i,j] ->s.heap.get? p=some o->h2.get? p=some o:=λp o hp e=>by
   have EN:p≠z/\p≠TI/\p≠TO/\p≠i/\p≠j:=by simpa using hp
   exact c2' p o EN.1 (a7 p o EN.1 EN.2.2.1 EN.2.2.2.1 EN.2.2.2.2 e)
  have qU:s.heap.objs.size≠z:=Nat.ne_of_gt (nT z (by simp))
  have I2:Inv X pins σ (upd H s.heap.objs.size (.tup [x,y])) {s with heap:=h2,toks:=s.toks}:=I.turnedN hf nT kp (Nat.le_refl _)
   ⟨(by show 2<=sizeLine;decide), [u,v], .cons rx (.cons ry .nil),⟨_,c2' _ _ qU a6,rfl,_,rfl⟩⟩
  have UI:H s.heap.objs.size=none:=I.fresh
  refine ⟨.ref s.heap.objs.size,upd H s.heap.objs.size (.tup [x,y]),I2,rfl,⟨_,x,y,rfl,UI,rfl,λxs' h'=> ?_,λys' h'=> ?_⟩, ?_,λp hp=> ?_⟩
  ·rw [I.sq_inj h' hl];exact hx
  ·rw [I.sq_inj h' hm];exact hy
  ·exact ⟨c1,c2' _ _ D.TIz a2,⟨_,_,c2' _ _ D.TOz a3⟩,a4.mv λo=>c2' _ o D.i1z,a5.mv λo=>c2' _ o D.i2z⟩
  ·rw [Ah (Nat.ne_of_lt (nT p hp))]
   exact (hf p hp).1
 done:=by
  intro X hP hw hK hc k pins s σ H E I hf Z hg
  subst hP hw hK
  obtain ⟨xs,ys,hl,hm,he⟩:=hg
  obtain ⟨us,ru,su,_⟩:=I.sq hl
  obtain ⟨vs,rv,sv,_⟩:=I.sq hm
  have e1:=ru.length
  have e2:=rv.length
  have i7:us.toArray[k]? =none\/vs.toArray[k]? =none:=by
   rcases he with q|q
   ·exact .inl (by simp;omega)
   ·exact .inr (by simp;omega)
  have hT:s.TypeIs (.ref z) "zip" :=⟨_,Z.zip,rfl⟩
  unfold pyNext
  refine wpAny_bind (wpAny_attempt (wpAny_callSpecial?_slot (name:=Str.ofString "__next__") hT F.slot_zip_next (wpAny_call_entry F.slot_zip_next hT F.entry_zip_next
   (sK (I.ok.hd hc) D Z su sv i7 λh1 e hk he=> ?_) (F.args_zip_next_1 _))))
  obtain ⟨o,ho,i6⟩:=he
  refine wpAny_bind (wpAny_isInstance (T:="StopIteration") (b:=true) ⟨o,ho,i6⟩ isSubtype_stop (wpAny_pure ⟨rfl, ?_⟩))
  exact I.turnedL (t':=s.toks) hf λp o hp e=>by
   have EN:p≠z/\p≠TI/\p≠TO/\p≠i/\p≠j:=by simpa using hp
   exact hk p o EN.1 EN.2.2.1 EN.2.2.2.1 EN.2.2.2.2 e
 self:=λ_ _ _ _ _ Z h=>wpAny_pyIter_zip Z.zip h
section
variable {X:Cx}
end
end L2
end
section
namespace L2
open PySem PySem.Spec PyProof.Rows
structure Has (P:Program) (w:World) (K:PySem.W.Frag) (mg:Str->Option Value) (base:Heap) (k:Nat) (x:Str) (ps:List Str) (sp:Sp):Prop where
 ex:∃f fd,mg x=some (.ref f)/\PySem.W.keepIn K (.ref f)=true/\Binds K fd ps [] /\A8 P w K mg base DB k f fd ps sp
theorem Has.mono {P:Program} {w:World} {K:PySem.W.Frag} {mg:Str->Option Value} {base:Heap} {j k:Nat} {x:Str} {ps:List Str} {sp:Sp} (h:Has P w K mg base j x ps sp) (hk:j<=k):Has P w K mg base k x ps sp:=by
 obtain ⟨f,fd,a,b,c,d⟩:=h.ex
 exact ⟨f,fd,a,b,c,d.mono hk⟩
section
variable {X:Cx} {x:Str} {p pos:Pos} {e:Expr} {es:List Expr} {t:TA} {k:Nat} {ps:List Str} {sp:Sp}
theorem js (D:Has X.prog X.w X.K X.mg X.base k x ps sp) (hr:Room k X.A) (hg:Gl X x) (ha:PA X (e::es) t)
 (hs:starEach (e::es) X.env=(false,eval e X.env)::starEach es X.env:=by rfl) (hpl:(backTo pos (starEach es X.env)).any (·.1)=false:=by rfl) (hd:(x==("__debug__" :Str))=false:=by decide):
 PE X (.Call (.Name x p) (e::es) [] pos) (hZ sp [] E0 t):=by
 obtain ⟨f,fd,mG,kG,bG,G⟩:=D.ex
 exact fB G hr hg mG kG bG .nil nI ha (hdb:=hd) (he:=hs) (hpl:=hpl)
end
section
variable {X:Cx} {tg elt:Expr} {ifs:List Expr} {scope:Scope} {own:Nat} {ix:List Nat} {N:List Str} {g:TG} {tt:TT} {te:TE}
def OB (X:Cx) (sc:Scope) (own:Nat) (ix:List Nat) (N:List Str):Bool:=
 (List.range ix.length).all λj=>match ix[j]? with
   | none=>false
   | some i=>match N[own+j]?,X.N[i]? with
     | some x,some y=>decide (x=y)&&decide (X.env.scope.names.lookup x=some .cell)&&decide (sc.names.lookup x=some .cell)
     | _,_=>false
theorem Tz {sc:Scope} (h1:N.length=own+ix.length) (h2:OB X sc own ix N=true):QH X sc own ix N:=by
 refine ⟨h1,λj i hj=> ?_⟩
 have EF:j<ix.length:=(List.getElem?_eq_some_iff.mp hj).1
 have h:=List.all_eq_true.mp h2 j (List.mem_range.mpr EF)
 rw [hj] at h
 dsimp only at h
 cases e1:N[own+j]? with
 | none=>rw [e1] at h;simp at h
 | some x=>
   cases e2:X.N[i]? with
   | none=>rw [e1,e2] at h;simp at h
   | some y=>
     rw [e1,e2] at h
     simp only [Bool.and_eq_true,decide_eq_true_eq] at h
     obtain ⟨⟨h3,h4⟩,h5⟩:=h
     subst h3
     exact ⟨x,rfl,rfl,h4,h5⟩
theorem Wo (h1:scope.kind= .function) (h2:(scope.names.all λy=> !decide (y.2= .cell))=true) (h3:(scope.names.all λy=> !decide (y.2= .local)||decide (scope.names.lookup y.1=some .local))=true)
 (h4:(scope.names.all λy=> !decide (y.2= .free)||decide (X.env.scope.names.lookup y.1=some .cell))=true) (h5:N.length=own+ix.length) (h6:OB X (relabel scope X.env) own ix N=true) (hk:HD own g)
 (tgt:∀cl C s H ex pn,PG (blk X (relabel scope X.env) N cl C s H ex pn) tg g)
 (tst:∀cl C s H ex pn,Wb (blk X (relabel scope X.env) N cl C s H ex pn) ifs tt)
 (val:∀cl C s H ex pn,PE (blk X (relabel scope X.env) N cl C s H ex pn) elt te):LV X tg elt ifs scope own ix N g tt te:=by
 refine ⟨h1,λy hy e=> ?_,λy hy e=> ?_,λy hy e=> ?_,Tz h5 h6,hk,tgt,tst,val⟩
 ·have:=List.all_eq_true.mp h2 y hy
  simp [e] at this
 ·have:=List.all_eq_true.mp h3 y hy
  simpa [e] using this
 ·have:=List.all_eq_true.mp h4 y hy
  simpa [e] using this
end
theorem Jp.new {H:Hp} {p:Addr} {o:HO} (h:H p=none):Jp H (upd H p o):=λb u q=>by rw [Ah (Av q h)];exact q
def cz (p:Addr) (H H':Hp):Prop:=∀b o,b≠p->H b=some o->H' b=some o
theorem cz.refl {p:Addr} {H:Hp}:cz p H H:=λ_ _ _ h=>h
theorem cz.trans {p:Addr} {H H1 H2:Hp} (a:cz p H H1) (b:cz p H1 H2):cz p H H2:=λc o n h=>b c o n (a c o n h)
theorem Jp.but {p:Addr} {H H1:Hp} (a:Jp H H1):cz p H H1:=λc o _ h=>a c o h
theorem cz.upd {p:Addr} {H:Hp} {o:HO}:cz p H (upd H p o):=λb u n q=>by rw [Ah n];exact q
end L2
end
section
namespace PL
open PySem PySem.Spec PyProof.Rows L2
inductive PV where
 | non|bl (b:Bool)|int (i:Int)|str (x:Str)|ty (n:String)
 | tup (xs:List PV)|lst (xs:List PV)|tape|scr (ns:List Int)|dct (kvs:List (FK×Int))
def Ey (H:Hp) (p:Addr):Prop:=∃d x:Int,H p=some (.lst [.int d, .int x])/\0<=d/\0<=x/\x<2147483647
def LY (o:HO):Prop:=(∀vs,o≠ .tup vs)/\∀q u,o≠ .frz q u
theorem LY.lst {xs:List V}:LY (.lst xs):=⟨(λ_ e=>nomatch e),(λ_ _ e=>nomatch e)⟩
theorem Ey.mut {H:Hp} {p:Addr} (h:Ey H p):∃o,H p=some o/\LY o:=by
 obtain ⟨d,x,e,_⟩:=h
 exact ⟨_,e,LY.lst⟩
def oV (K:PySem.W.Frag) (H:Hp) (a:Addr) (xs:List V):Prop:=H a=some (.tup xs)\/∃(o:Obj) (its:Array Value) (n:Nat),K.lookup a=some o/\o.cls= .type "tuple" /\o.data= .seq its n/\its.size<=sizeLine/\Ax xs its.toList
theorem oV.sq {K:PySem.W.Frag} {H:Hp} {a:Addr} {xs:List V} (h:oV K H a xs):Jr K H a xs:=h.elim (λz=> .inl (.inl z)) .inr
def B9 (kvs:List (FK×Int)):List (FK×V):=kvs.map λp=>(p.1,V.int p.2)
mutual
inductive CT (K:PySem.W.Frag) (T M:Addr->Prop) (H:Hp):V->PV->Prop where
 | non:CT K T M H .non .non
 | bl (b:Bool):CT K T M H (.bl b) (.bl b)
 | int (i:Int):CT K T M H (.int i) (.int i)
 | str (x:Str):CT K T M H (.str x) (.str x)
 | ty (n:String):CT K T M H (.ty n) (.ty n)
 | tup {a:Addr} {vs:List V} {xs:List PV} (h:oV K H a vs) (r:A6 K T M H vs xs):CT K T M H (.ref a) (.tup xs)
 | lst {a:Addr} {vs:List V} {xs:List PV} (h:H a=some (.lst vs)) (t:¬T a) (m:¬M a) (r:A6 K T M H vs xs):CT K T M H (.ref a) (.lst xs)
 | tape {a:Addr} (t:T a):CT K T M H (.ref a) .tape
 | dct {a:Addr} {kvs:List (FK×Int)} (h:H a=some (.dN K (B9 kvs))) (t:¬T a) (m:¬M a):CT K T M H (.ref a) (.dct kvs)
 | scr {a:Addr} {ns:List Int} (h:(Rd H a (.lst (ns.map V.int))/\¬T a/\¬M a)\/∀H,F4 K H a (ns.map V.int)):CT K T M H (.ref a) (.scr ns)
inductive A6 (K:PySem.W.Frag) (T M:Addr->Prop) (H:Hp):List V->List PV->Prop where
 | nil:A6 K T M H [] []
 | cons {v:V} {x:PV} {vs:List V} {xs:List PV} (h:CT K T M H v x) (t:A6 K T M H vs xs):A6 K T M H (v::vs) (x::xs)
end
structure G0 (T M:Addr->Prop) (H:Hp):Prop where
 tp:∀a,T a->Ey H a
 mu:∀a,M a->∃o,H a=some o/\LY o
theorem G0.noTup {T M:Addr->Prop} {H:Hp} (v:G0 T M H) {a:Addr} {vs:List V} (r:Rd H a (.tup vs)):¬T a/\¬M a:=by
 have go:∀o,H a=some o->LY o->False:=λo e m=>by
  rcases r with r|⟨q,r⟩
  ·rw [e] at r;cases r;exact m.1 _ rfl
  ·rw [e] at r;cases r;exact m.2 _ _ rfl
 exact ⟨λt=>let ⟨o,e,m⟩:=(v.tp a t).mut;go o e m,λt=>let ⟨o,e,m⟩:=v.mu a t;go o e m⟩
structure Mv (K:PySem.W.Frag) (T M:Addr->Prop) (H:Hp) (T' M':Addr->Prop) (H':Hp):Prop where
 va:G0 T M H
 keep:∀b o,¬T b->¬M b->H b=some o->H' b=some o
 sub:∀b,T b->T' b
 tn:∀b,H b≠none->T' b->T b
 mn:∀b,H b≠none->M' b->M b
theorem XM {H:Hp} {a:Addr} {u:HO} (r:Rd H a u):H a≠none:=by
 rcases r with r|⟨o,r⟩ <;> rw [r] <;> exact λe=>nomatch e
theorem nX {H H':Hp} {a:Addr} {u:HO} (r:Rd H a u) (k:∀o,H a=some o->H' a=some o):Rd H' a u:=by
 rcases r with r|⟨o,r⟩
 ·exact .inl (k _ r)
 ·exact .inr ⟨o,k _ r⟩
section
variable {K:PySem.W.Frag} {T M T' M':Addr->Prop} {H H':Hp}
mutual
theorem CT.mv (m:Mv K T M H T' M' H'):∀{v:V} {x:PV},CT K T M H v x->CT K T' M' H' v x
 | _,_, .non=> .non
 | _,_, .bl b=> .bl b
 | _,_, .int i=> .int i
 | _,_, .str x=> .str x
 | _,_, .ty n=> .ty n
 | _,_, .tup (a:=a) (vs:=vs) h r=>by
   refine .tup (vs:=vs) ?_ (A6.mv m r)
   rcases h with h|h
   ·obtain ⟨t,u⟩:=m.va.noTup (.inl h)
    exact .inl (m.keep _ _ t u h)
   ·exact .inr h
 | _,_, .lst (a:=a) h t u r=> .lst (m.keep _ _ t u h) (λz=>t (m.tn a (by rw [h];exact λe=>nomatch e) z)) (λz=>u (m.mn a (by rw [h];exact λe=>nomatch e) z)) (A6.mv m r)
 | _,_, .tape t=> .tape (m.sub _ t)
 | _,_, .dct (a:=a) h t u=> .dct (m.keep _ _ t u h) (λz=>t (m.tn a (by rw [h];exact λe=>nomatch e) z)) (λz=>u (m.mn a (by rw [h];exact λe=>nomatch e) z))
 | _,_, .scr (a:=a) (.inl ⟨h,t,u⟩)=> .scr (.inl ⟨nX h λo e=>m.keep _ o t u e,λz=>t (m.tn a (XM h) z),λz=>u (m.mn a (XM h) z)⟩)
 | _,_, .scr (.inr h)=> .scr (.inr h)
theorem A6.mv (m:Mv K T M H T' M' H'):∀{vs:List V} {xs:List PV},A6 K T M H vs xs->A6 K T' M' H' vs xs
 | _,_, .nil=> .nil
 | _,_, .cons h t=> .cons (CT.mv m h) (A6.mv m t)
end
end
theorem A6.length {K:PySem.W.Frag} {T M:Addr->Prop} {H:Hp}:∀{vs:List V} {xs:List PV},A6 K T M H vs xs->vs.length=xs.length
 | _,_, .nil=>rfl
 | _,_, .cons _ t=>by simp [t.length]
theorem A6.get {K:PySem.W.Frag} {T M:Addr->Prop} {H:Hp}:∀{vs:List V} {xs:List PV} {i:Nat} {x:PV},A6 K T M H vs xs->xs[i]? =some x->∃v,vs[i]? =some v/\CT K T M H v x
 | _,_,_,_, .nil,e=>by simp at e
 | _,_,0,_, .cons h _,e=>by simp at e;subst e;exact ⟨_,rfl,h⟩
 | _,_,i+1,x, .cons _ t,e=>by
   obtain ⟨u,h1,h2⟩:=A6.get (i:=i) (x:=x) t (by simpa using e)
   exact ⟨u,by simpa using h1,h2⟩
theorem A6.get' {K:PySem.W.Frag} {T M:Addr->Prop} {H:Hp} {vs:List V} {xs:List PV} {i:Nat} {v:V} (h:A6 K T M H vs xs) (e:vs[i]? =some v):∃x,xs[i]? =some x/\CT K T M H v x:=by
 have hl:=h.length
 have hi:i<vs.length:=(List.getElem?_eq_some_iff.mp e).1
 obtain ⟨w,e2,r⟩:=h.get (i:=i) (x:=xs[i]'(by omega)) (List.getElem?_eq_getElem (by omega))
 rw [e] at e2;cases e2
 exact ⟨_,List.getElem?_eq_getElem (by omega),r⟩
theorem A6.append {K:PySem.W.Frag} {T M:Addr->Prop} {H:Hp}:∀{vs ws:List V} {xs ys:List PV},A6 K T M H vs xs->A6 K T M H ws ys->A6 K T M H (vs++ws) (xs++ys)
 | _,_,_,_, .nil,s=>s
 | _,_,_,_, .cons h t,s=> .cons h (t.append s)
theorem A6.take {K:PySem.W.Frag} {T M:Addr->Prop} {H:Hp}:∀{vs:List V} {xs:List PV} (n:Nat),A6 K T M H vs xs->A6 K T M H (vs.take n) (xs.take n)
 | _,_,0,_=> .nil
 | _,_,_+1, .nil=> .nil
 | _,_,n+1, .cons r t=> .cons r (t.take n)
theorem A6.drop {K:PySem.W.Frag} {T M:Addr->Prop} {H:Hp}:∀{vs:List V} {xs:List PV} (n:Nat),A6 K T M H vs xs->A6 K T M H (vs.drop n) (xs.drop n)
 | _,_,0,r=>r
 | _,_,_+1, .nil=> .nil
 | _,_,n+1, .cons _ t=>t.drop n
theorem A6.set {K:PySem.W.Frag} {T M:Addr->Prop} {H:Hp} {v:V} {x:PV} (r:CT K T M H v x):∀{vs:List V} {xs:List PV} (i:Nat),A6 K T M H vs xs->A6 K T M H (vs.set i v) (xs.set i x)
 | _,_,_, .nil=> .nil
 | _,_,0, .cons _ t=> .cons r t
 | _,_,i+1, .cons q t=> .cons q (A6.set r i t)
theorem A6.nil_iff {K:PySem.W.Frag} {T M:Addr->Prop} {H:Hp} {vs:List V} {xs:List PV} (h:A6 K T M H vs xs):vs= [] ↔xs= [] :=by
 cases h <;> simp
theorem A6.reverse {K:PySem.W.Frag} {T M:Addr->Prop} {H:Hp} {vs:List V} {xs:List PV} (h:A6 K T M H vs xs):A6 K T M H vs.reverse xs.reverse:=by
 induction vs generalizing xs with
 | nil=>cases h;exact .nil
 | cons v vs ih=>
   cases h with
   | cons h t=>rw [List.reverse_cons,List.reverse_cons];exact (ih t).append (.cons h .nil)
structure Dm (T:Addr->Prop) (H:Hp) (T':Addr->Prop) (H':Hp):Prop where
 keep:∀b o,¬T b->H b=some o->H' b=some o
 sub:∀b,T b->T' b
 new:∀b,T' b->T b\/H b=none
 tp:∀a,T' a->Ey H' a
theorem Dm.refl {T:Addr->Prop} {H:Hp} (h:∀a,T a->Ey H a):Dm T H T H:=⟨λ_ _ _ e=>e,λ_ e=>e,λ_ e=> .inl e,h⟩
theorem Dm.some {T T':Addr->Prop} {H H':Hp} (s:Dm T H T' H') {b:Addr} (h:H b≠none):H' b≠none:=by
 by_cases t:T b
 ·obtain ⟨o,e,_⟩:=(s.tp b (s.sub b t)).mut
  rw [e];exact λe=>nomatch e
 ·cases e:H b with
  | none=>exact absurd e h
  | some o=>rw [s.keep b o t e];exact λe=>nomatch e
theorem Dm.none {T T':Addr->Prop} {H H':Hp} (s:Dm T H T' H') {b:Addr} (h:H' b=none):H b=none:=by
 cases e:H b with
 | none=>rfl
 | some o=>exact absurd h (s.some (by rw [e];exact λe=>nomatch e))
theorem Dm.trans {T T1 T2:Addr->Prop} {H H1 H2:Hp} (a:Dm T H T1 H1) (b:Dm T1 H1 T2 H2):Dm T H T2 H2 where
 keep:=λc o t e=>b.keep c o (λz=>(a.new c z).elim t λn=>by rw [n] at e;cases e) (a.keep c o t e)
 sub:=λc t=>b.sub c (a.sub c t)
 new:=λc t=>(b.new c t).elim (λz=>a.new c z) λz=> .inr (a.none z)
 tp:=b.tp
theorem Dm.lay {T:Addr->Prop} {H:Hp} {p:Addr} {o:HO} (h:∀a,T a->Ey H a) (hp:H p=Option.none):Dm T H T (upd H p o) where
 keep:=λb u _ e=>by rw [Ah (Av e hp)];exact e
 sub:=λ_ t=>t
 new:=λ_ t=> .inl t
 tp:=λa t=>by
  obtain ⟨d,x,e,z⟩:=h a t
  exact ⟨d,x,by rw [Ah (Av e hp)];exact e,z⟩
theorem Dm.mv {K:PySem.W.Frag} {T T' M:Addr->Prop} {H H':Hp} (s:Dm T H T' H') (v:G0 T M H):Mv K T M H T' M H' where
 va:=v
 keep:=λb o t _ e=>s.keep b o t e
 sub:=s.sub
 tn:=λb n t=>(s.new b t).elim id λz=>absurd z n
 mn:=λ_ _ z=>z
theorem G0.stp {T T' M:Addr->Prop} {H H':Hp} (v:G0 T M H) (s:Dm T H T' H') (d:∀a,M a->¬T a):G0 T' M H':=
 ⟨s.tp,λa m=>let ⟨o,e,q⟩:=v.mu a m;⟨o,s.keep a o (d a m) e,q⟩⟩
theorem CT.stp {K:PySem.W.Frag} {T T' M:Addr->Prop} {H H':Hp} {v:V} {x:PV} (r:CT K T M H v x) (s:Dm T H T' H') (va:G0 T M H):CT K T' M H' v x:=r.mv (s.mv va)
theorem A6.stp {K:PySem.W.Frag} {T T' M:Addr->Prop} {H H':Hp} {v:List V} {x:List PV} (r:A6 K T M H v x) (s:Dm T H T' H') (va:G0 T M H):A6 K T' M H' v x:=r.mv (s.mv va)
theorem Mv.anti {K:PySem.W.Frag} {T M M':Addr->Prop} {H:Hp} (v:G0 T M H) (h:∀a,M' a->M a):Mv K T M H T M' H:=⟨v,λ_ _ _ _ e=>e,λ_ t=>t,λ_ _ t=>t,λb _ t=>h b t⟩
inductive AV where
 | val (x:PV)
 | own (xs:List PV)
abbrev BE:=List (Option AV)
structure DD where
 T:Addr->Prop
 H:Hp
 M:Addr->Prop
def DD.add (B:DD) (p:Addr):DD:=⟨B.T,B.H,λa=>B.M a\/a=p⟩
def DP (σ:L2.St) (τ:BE) (p:Addr):Prop:=∃(i:Nat) (xs:List PV),τ[i]? =some (some (.own xs))/\σ[i]? =some (some (.ref p))
def mt (B:DD) (σ:L2.St) (τ:BE) (p:Addr):Prop:=B.M p\/DP σ τ p
structure SR (K:PySem.W.Frag) (B:DD) (T:Addr->Prop) (H:Hp) (σ:L2.St) (τ:BE):Prop where
 len:σ.length=τ.length
 val:∀(i:Nat) (x:PV),τ[i]? =some (some (.val x))->∃v,σ[i]? =some (some v)/\CT K T (mt B σ τ) H v x
 own:∀(i:Nat) (xs:List PV),τ[i]? =some (some (.own xs))->∃p vs,σ[i]? =some (some (.ref p))/\H p=some (.lst vs)/\A6 K T (mt B σ τ) H vs xs/\B.H p=none/\¬T p/\¬B.M p
 dist:∀(i j:Nat) (xs ys:List PV) (p:Addr),τ[i]? =some (some (.own xs))->τ[j]? =some (some (.own ys))->σ[i]? =some (some (.ref p))->σ[j]? =some (some (.ref p))->i=j
 tp:∀a,T a->Ey H a
 bm:∀a,B.M a->∃o,H a=some o/\LY o
 bt:∀a,B.M a->¬T a
 st:Dm B.T B.H T H
section
variable {K:PySem.W.Frag} {B:DD} {T T':Addr->Prop} {H H':Hp} {σ:L2.St} {τ:BE}
theorem SR.ownH (s:SR K B T H σ τ) {p:Addr} (o:DP σ τ p):∃vs,H p=some (.lst vs)/\B.H p=none/\¬T p/\¬B.M p:=by
 obtain ⟨i,xs,h1,h2⟩:=o
 obtain ⟨q,vs,e,h,_,b,t,m⟩:=s.own i xs h1
 rw [h2] at e;cases e
 exact ⟨vs,h,b,t,m⟩
theorem SR.va (s:SR K B T H σ τ):G0 T (mt B σ τ) H:=⟨s.tp,λa m=>m.elim (s.bm a) λo=>let ⟨vs,h,_⟩:=s.ownH o;⟨_,h,LY.lst⟩⟩
theorem SR.nt (s:SR K B T H σ τ) {a:Addr} (m:mt B σ τ a):¬T a:=m.elim (s.bt a) λo=>let ⟨_,_,_,t,_⟩:=s.ownH o;t
theorem SR.stp (s:SR K B T H σ τ) (p:Dm T H T' H'):SR K B T' H' σ τ where
 len:=s.len
 val:=λi x e=>let ⟨v,h,r⟩:=s.val i x e;⟨v,h,r.stp p s.va⟩
 own:=λi xs e=>by
  obtain ⟨q,vs,e1,h,r,b,t,m⟩:=s.own i xs e
  exact ⟨q,vs,e1,p.keep _ _ t h,r.stp p s.va,b,(λz=>(p.new q z).elim t λn=>by rw [n] at h;cases h),m⟩
 dist:=s.dist
 tp:=p.tp
 bm:=λa m=>let ⟨o,e,q⟩:=s.bm a m;⟨o,p.keep a o (s.bt a m) e,q⟩
 bt:=λa m z=>by
  obtain ⟨o,e,_⟩:=s.bm a m
  exact (p.new a z).elim (s.bt a m) λn=>by rw [n] at e;cases e
 st:=s.st.trans p
theorem SR.add {p:Addr} {o:HO} (s:SR K B T H σ τ) (q:Dm T H T' H') (hn:H p=none) (ho:H' p=some o) (hm:LY o) (ht:¬T' p):SR K (B.add p) T' H' σ τ:=by
 have s':=s.stp q
 have mv:Mv K T (mt B σ τ) H T' (mt (B.add p) σ τ) H':=⟨s.va,λb o t _ e=>q.keep b o t e,q.sub,λb n t=>(q.new b t).elim id λz=>absurd z n,λb n z=>by
  rcases z with (z|z)|z
  ·exact .inl z
  ·subst z;exact absurd hn n
  ·exact .inr z⟩
 refine ⟨s.len,λi x e=> ?_,λi xs e=> ?_,s.dist,s'.tp,λa m=> ?_,λa m=> ?_,s'.st⟩
 ·obtain ⟨v,h,r⟩:=s.val i x e
  exact ⟨v,h,r.mv mv⟩
 ·obtain ⟨a,vs,e1,h,r,b,t,m⟩:=s.own i xs e
  obtain ⟨a',vs',e1',h',_,b',t',m'⟩:=s'.own i xs e
  rw [e1] at e1';cases e1'
  rw [q.keep _ _ t h] at h';cases h'
  refine ⟨a,vs,e1,q.keep _ _ t h,r.mv mv,b,t',λz=> ?_⟩
  rcases z with z|z
  ·exact m z
  ·subst z;rw [hn] at h;cases h
 ·rcases m with m|m
  ·exact s'.bm a m
  ·subst m;exact ⟨o,ho,hm⟩
 ·rcases m with m|m
  ·exact s'.bt a m
  ·subst m;exact ht
theorem SR.drop {p:Addr} (s:SR K (B.add p) T H σ τ):SR K B T H σ τ:=by
 have mv:Mv K T (mt (B.add p) σ τ) H T (mt B σ τ) H:= .anti s.va λa m=>m.elim (λz=> .inl (.inl z)) .inr
 refine ⟨s.len,λi x e=>let ⟨v,h,r⟩:=s.val i x e;⟨v,h,r.mv mv⟩,λi xs e=> ?_,s.dist,s.tp,λa m=>s.bm a (.inl m),λa m=>s.bt a (.inl m),s.st⟩
 obtain ⟨a,vs,e1,h,r,b,t,m⟩:=s.own i xs e
 exact ⟨a,vs,e1,h,r.mv mv,b,t,λz=>m (.inl z)⟩
end
def db:Option AV->Option AV
 | some (.own xs)=>some (.val (.lst xs))
 | o=>o
def frz (τ:BE):BE:=τ.map db
theorem Wx {τ:BE} {i:Nat}:(frz τ)[i]? =(τ[i]?).map db:=by simp [frz]
theorem dc {τ:BE} {i:Nat} {x:PV} (h:(frz τ)[i]? =some (some (.val x))):τ[i]? =some (some (.val x))\/∃xs,x= .lst xs/\τ[i]? =some (some (.own xs)):=by
 rw [Wx] at h
 cases e:τ[i]? with
 | none=>rw [e] at h;cases h
 | some o=>
   rw [e] at h
   cases o with
   | none=>cases h
   | some a=>
     cases a with
     | val y=>cases h;exact .inl rfl
     | own xs=>cases h;exact .inr ⟨xs,rfl,rfl⟩
theorem RT {τ:BE} {i:Nat} {xs:List PV}:(frz τ)[i]? ≠some (some (.own xs)):=by
 rw [Wx]
 cases e:τ[i]? with
 | none=>exact λz=>nomatch z
 | some o=>
   cases o with
   | none=>exact λz=>nomatch z
   | some a=>cases a <;> exact λz=>nomatch z
theorem Ub {σ:L2.St} {τ:BE} {p:Addr}:¬DP σ (frz τ) p:=λ⟨_,_,h,_⟩=>RT h
section
variable {K:PySem.W.Frag} {B:DD} {T T':Addr->Prop} {H H':Hp} {σ:L2.St} {τ:BE}
theorem SR.frz (s:SR K B T H σ τ):SR K B T H σ (frz τ):=by
 have mv:Mv K T (mt B σ τ) H T (mt B σ (PL.frz τ)) H:= .anti s.va λa m=>m.elim .inl λz=>absurd z Ub
 refine ⟨by simp [PL.frz,s.len],λi x e=> ?_,λi xs e=>absurd e RT,λi j xs ys p e=>absurd e RT,s.tp,s.bm,s.bt,s.st⟩
 rcases dc e with e'|⟨xs,e0,e'⟩
 ·obtain ⟨v,h,r⟩:=s.val i x e'
  exact ⟨v,h,r.mv mv⟩
 ·subst e0
  obtain ⟨p,vs,e1,h,r,b,t,m⟩:=s.own i xs e'
  exact ⟨.ref p,e1, .lst h t (λz=>z.elim m Ub) (r.mv mv)⟩
end
mutual
def ZD:PV->Bool
 | .lst _=>false
 | .tape=>false
 | .scr _=>false
 | .dct _=>false
 | .tup xs=>eT xs
 | _=>true
def eT:List PV->Bool
 | [] =>true
 | x::xs=>ZD x&&eT xs
end
section
variable {K:PySem.W.Frag} {T M M':Addr->Prop} {H:Hp}
mutual
theorem CT.free:∀{v:V} {x:PV},ZD x=true->CT K T M H v x->CT K T M' H v x
 | _,_,_, .non=> .non
 | _,_,_, .bl b=> .bl b
 | _,_,_, .int i=> .int i
 | _,_,_, .str x=> .str x
 | _,_,_, .ty n=> .ty n
 | _,_,n, .tup h r=> .tup h (A6.free (by rw [ZD] at n;exact n) r)
 | _,_,n, .lst _ _ _ _=>by rw [ZD] at n;cases n
 | _,_,n, .tape _=>by rw [ZD] at n;cases n
 | _,_,n, .scr _=>by rw [ZD] at n;cases n
 | _,_,n, .dct _ _ _=>by rw [ZD] at n;cases n
theorem A6.free:∀{vs:List V} {xs:List PV},eT xs=true->A6 K T M H vs xs->A6 K T M' H vs xs
 | _,_,_, .nil=> .nil
 | _,_,n, .cons h t=>by
   rw [eT,Bool.and_eq_true] at n
   exact .cons (CT.free n.1 h) (A6.free n.2 t)
end
end
end PL
end
section
namespace PL
open PySem PySem.Spec PyProof.Rows L2
abbrev AE:=BE->(PV->Prop)->Prop
abbrev AT:=BE->(Bool->Prop)->Prop
abbrev AA:=BE->(List PV->Prop)->Prop
abbrev AF:=List PV->(PV->Prop)->Prop
def S8:BE->Nat->Option AV
 | [],_=>none
 | x::_,0=>x
 | _::r,n+1=>S8 r n
theorem OM:∀{τ:BE} {i:Nat} {a:AV},S8 τ i=some a->τ[i]? =some (some a)
 | [],_,_,h=>by simp [S8] at h
 | x::_,0,_,h=>by simpa [S8] using h
 | _::r,n+1,a,h=>by
   have:=OM (τ:=r) (i:=n) (a:=a) (by simpa [S8] using h)
   simpa using this
def ao (x:PV) (R:Int->Prop):Prop:=match x with | .int i=>R i|_=>False
def Yh (x y:PV) (R:Int->Int->Prop):Prop:=match x,y with | .int i, .int j=>R i j|_,_=>False
def jf (x:PV) (R:Bool->Prop):Prop:=match x with | .bl b=>R b|_=>False
def ZE (o:Option PV) (R:PV->Prop):Prop:=match o with | some z=>R z|none=>False
theorem ji {o:Option PV} {R:PV->Prop} (h:ZE o R):∃z,o=some z/\R z:=by
 cases o <;> first | exact ⟨_,rfl,h⟩|exact h.elim
def S9 (x:PV) (R:List PV->Prop):Prop:=match x with | .tup xs=>R xs | .lst xs=>R xs|_=>False
theorem R5 {x:PV} {R:Int->Prop} (h:ao x R):∃i,x= .int i/\R i:=by
 cases x <;> first | exact ⟨_,rfl,h⟩|exact h.elim
theorem ND {x y:PV} {R:Int->Int->Prop} (h:Yh x y R):∃i j,x= .int i/\y= .int j/\R i j:=by
 cases x <;> cases y <;> first | exact ⟨_,_,rfl,rfl,h⟩|exact h.elim
theorem V6 {x:PV} {R:Bool->Prop} (h:jf x R):∃b,x= .bl b/\R b:=by
 cases x <;> first | exact ⟨_,rfl,h⟩|exact h.elim
theorem JM {x:PV} {R:List PV->Prop} (h:S9 x R):∃xs,(x= .tup xs\/x= .lst xs)/\R xs:=by
 cases x <;> first | exact ⟨_, .inl rfl,h⟩|exact ⟨_, .inr rfl,h⟩|exact h.elim
theorem CT.toI {K:PySem.W.Frag} {T M:Addr->Prop} {H:Hp} {v:V} {i:Int} (r:CT K T M H v (.int i)):v= .int i:=by cases r;rfl
theorem CT.toB {K:PySem.W.Frag} {T M:Addr->Prop} {H:Hp} {v:V} {i:Bool} (r:CT K T M H v (.bl i)):v= .bl i:=by cases r;rfl
def GD (K:PySem.W.Frag) (t:TE) (a:AE):Prop:=∀(B:DD) (T:Addr->Prop) (σ:L2.St) (τ:BE) (H:Hp) (Q:VK) (AQ:PV->Prop),SR K B T H σ τ->a τ AQ->
 (∀v x T' H',Dm T H T' H'->CT K T' (mt B σ τ) H' v x->AQ x->Q v H')->t σ H Q
def Mj (K:PySem.W.Frag) (t:TT) (a:AT):Prop:=∀(B:DD) (T:Addr->Prop) (σ:L2.St) (τ:BE) (H:Hp) (Q:Bool->Hp->Prop) (AQ:Bool->Prop),SR K B T H σ τ->a τ AQ->
 (∀b T' H',Dm T H T' H'->AQ b->Q b H')->t σ H Q
def iT (K:PySem.W.Frag) (t:TA) (a:AA):Prop:=∀(B:DD) (T:Addr->Prop) (σ:L2.St) (τ:BE) (H:Hp) (Q:List V->Hp->Prop) (AQ:List PV->Prop),SR K B T H σ τ->a τ AQ->
 (∀vs xs T' H',Dm T H T' H'->A6 K T' (mt B σ τ) H' vs xs->AQ xs->Q vs H')->t σ H Q
def Ze (K:PySem.W.Frag) (t:TE) (a:AA):Prop:=∀(B:DD) (T:Addr->Prop) (σ:L2.St) (τ:BE) (H:Hp) (Q:VK) (AQ:List PV->Prop),SR K B T H σ τ->a τ AQ->
 (∀p vs xs T' H',Dm T H T' H'->SR K (B.add p) T' H' σ τ->H p=none->H' p=some (.lst vs)->¬T' p->A6 K T' (mt (B.add p) σ τ) H' vs xs->AQ xs->Q (.ref p) H')->t σ H Q
def SE (X:Cx) (e:Expr) (a:AE):Prop:=∃t,PE X e t/\GD X.K t a
def S5 (X:Cx) (e:Expr) (a:AT):Prop:=∃t,PT X e t/\Mj X.K t a
def SW (X:Cx) (e:Expr) (a:AT):Prop:=∃t,PW X e t/\Mj X.K t a
def SA (X:Cx) (es:List Expr) (a:AA):Prop:=∃t,PA X es t/\iT X.K t a
def SF (X:Cx) (e:Expr) (a:AA):Prop:=∃t,PE X e t/\Ze X.K t a
abbrev JW:=PV->PV->(PV->Prop)->Prop
def CZ (K:PySem.W.Frag) (r:R2) (f:JW):Prop:=∀(T M:Addr->Prop) (H:Hp) (u v:V) (x y:PV) (Q:VK) (AQ:PV->Prop),G0 T M H->CT K T M H u x->CT K T M H v y->f x y AQ->
 (∀w z T' H',Dm T H T' H'->CT K T' M H' w z->AQ z->Q w H')->r u v H Q
def Fs (K:PySem.W.Frag) (r:List V->Hp->VK->Prop) (f:AF):Prop:=∀(T M:Addr->Prop) (H:Hp) (us:List V) (xs:List PV) (Q:VK) (AQ:PV->Prop),G0 T M H->A6 K T M H us xs->f xs AQ->
 (∀w z T' H',Dm T H T' H'->CT K T' M H' w z->AQ z->Q w H')->r us H Q
section
variable {X:Cx} {a b c:Expr} {es:List Expr} {pos:Pos} {ta tb:AE} {tA tB':AT}
def aV (i:Nat):AE:=λτ Q=>match S8 τ i with | some (.val x)=>Q x|_=>False
theorem lw {i:Nat} {τ:BE} {Q:PV->Prop} (h:aV i τ Q):∃x,τ[i]? =some (some (.val x))/\Q x:=by
 unfold aV at h
 cases e:S8 τ i with
 | none=>rw [e] at h;exact h.elim
 | some z=>
   rw [e] at h
   cases z with
   | own xs=>exact h.elim
   | val x=>exact ⟨x,OM e,h⟩
theorem AJ (i:Nat) {x:Str} {pos:Pos} (hN:X.N[i]? =some x:=by rfl) (hv:iV X.env.scope x:=by first | exact Or.inl rfl|exact Or.inr (Or.inl rfl)|exact Or.inr (Or.inr rfl)) (hd:(x==("__debug__" :Str))=false:=by decide)
 (M8:(x==("__classdict__" :Str))=false:=by decide):SE X (.Name x pos) (aV i):=by
 refine ⟨_,SC hN hv hd M8,λB T σ τ H Q AQ s h k=> ?_⟩
 obtain ⟨x,e,q⟩:=lw h
 obtain ⟨v,e1,r⟩:=s.val i x e
 exact ⟨v,e1,k v x T H (.refl s.tp) r q⟩
def aC (x:PV):AE:=λ_ Q=>Q x
theorem XZ {v:V} {x:PV} (h:∀T M H,CT X.K T M H v x):GD X.K (tC v) (aC x):=λB T σ τ H Q AQ s h' k=>k v x T H (.refl s.tp) (h _ _ _) h'
theorem AH {i:Int} {j pos}:SE X (.Constant (.int i) j pos) (aC (.int i)):=⟨_,BG,XZ λ_ _ _=> .int i⟩
theorem Ur {i:Bool} {j pos}:SE X (.Constant (.bool i) j pos) (aC (.bl i)):=⟨_,nK,XZ λ_ _ _=> .bl i⟩
theorem B8 {j pos}:SE X (.Constant .none j pos) (aC .non):=⟨_,bE,XZ λ_ _ _=> .non⟩
theorem On {x:Str} {n:String} {u:Value} {pos:Pos} (hg:Gl X x) (hm:X.mg x=none) (hv:bootBuiltins x=some u) (r:RelV (.ty n) u) (hn:x≠"__name__" :=by decide) (hd:(x==("__debug__" :Str))=false:=by decide):SE X (.Name x pos) (aC (.ty n)):=
 ⟨_,fA (v:= .ty n) hg hm hv r hn hd,XZ λ_ _ _=> .ty n⟩
def AX (f:JW) (ta tb:AE):AE:=λτ Q=>ta τ λx=>tb τ λy=>f x y Q
theorem Sm {r:R2} {f:JW} {t u:TE} (hr:CZ X.K r f) (ha:GD X.K t ta) (hb:GD X.K u tb):GD X.K (gE r t u) (AX f ta tb):=by
 intro B T σ τ H Q AQ s h k
 refine ha B T σ τ H _ _ s h λv x T1 H1 s1 r1 h1=> ?_
 refine hb B T1 σ τ H1 _ _ (s.stp s1) h1 λw y T2 H2 s2 r2 h2=> ?_
 have s':=(s.stp s1).stp s2
 exact hr T2 _ H2 v w x y Q AQ s'.va (r1.stp s2 (s.stp s1).va) r2 h2 λw z T3 H3 s3 r3 q=>k w z T3 H3 ((s1.trans s2).trans s3) r3 q
theorem Ad {op:Operator} {r:R2} {f:JW} (ho:Eo X (binaryOp op) r/\CZ X.K r f) (ha:SE X a ta) (hb:SE X b tb):SE X (.BinOp a op b pos) (AX f ta tb):=
 let ⟨_,p,s⟩:=ha;let ⟨_,p',s'⟩:=hb;⟨_,CL ho.1 p p',Sm ho.2 s s'⟩
theorem EC {op:CmpOp} {r:R2} {f:JW} (ho:Eo X (compareOp op) r/\CZ X.K r f) (ha:SE X a ta) (hb:SE X b tb) (hm:behindInMarks op b=false):SE X (.Compare a [op] [b] pos) (AX f ta tb):=
 let ⟨_,p,s⟩:=ha;let ⟨_,p',s'⟩:=hb;⟨_,XH ho.1 p p' hm,Sm ho.2 s s'⟩
theorem nz {r:R2} {f:JW} (ho:dD X r/\CZ X.K r f) (ha:SE X a ta) (hb:SE X b tb) (hs:RM b):SE X (.Subscript a b pos) (AX f ta tb):=
 let ⟨_,p,s⟩:=ha;let ⟨_,p',s'⟩:=hb;⟨_,MN ho.1 p p' hs,Sm ho.2 s s'⟩
def fI (g:Int->Int->PV):JW:=λx y Q=>Yh x y λi j=>Q (g i j)
def lA (C:Int->Int->Prop) (g:Int->Int->PV):JW:=λx y Q=>Yh x y λi j=>C i j/\Q (g i j)
theorem XY {g:Int->Int->V} {g':Int->Int->PV} (hg:∀i j T M H,CT X.K T M H (g i j) (g' i j)):CZ X.K (Qe g) (fI g'):=by
 intro T M H u v x y Q AQ va ru rv h k
 obtain ⟨i,j,rfl,rfl,q⟩:=ND h
 exact ⟨i,j,ru.toI,rv.toI,k _ _ T H (.refl va.tp) (hg i j T M H) q⟩
theorem Sg {C:Int->Int->Prop} {g:Int->Int->V} {g':Int->Int->PV} (hg:∀i j T M H,CT X.K T M H (g i j) (g' i j)):CZ X.K (rI C g) (lA C g'):=by
 intro T M H u v x y Q AQ va ru rv h k
 obtain ⟨i,j,rfl,rfl,c,q⟩:=ND h
 exact ⟨i,j,ru.toI,rv.toI,c,k _ _ T H (.refl va.tp) (hg i j T M H) q⟩
abbrev l5:JW:=fI λi j=> .int (i+j)
abbrev G1:JW:=fI λi j=> .int (i-j)
abbrev Y8:JW:=fI λi j=> .bl (decide (i<j))
abbrev il:JW:=fI λi j=> .bl (decide (j<i))
abbrev k9:JW:=fI λi j=> .bl (decide (j<=i))
theorem Cz:Eo X (binaryOp .Sub) (Qe λi j=> .int (i-j))/\CZ X.K (Qe λi j=> .int (i-j)) G1:=⟨V8,XY λi j _ _ _=> .int _⟩
theorem HZ:Eo X (compareOp .Lt) (Qe λi j=> .bl (decide (i<j)))/\CZ X.K (Qe λi j=> .bl (decide (i<j))) Y8:=⟨g9,XY λi j _ _ _=> .bl _⟩
theorem Uv:Eo X (compareOp .Gt) (Qe λi j=> .bl (decide (j<i)))/\CZ X.K (Qe λi j=> .bl (decide (j<i))) il:=⟨g6,XY λi j _ _ _=> .bl _⟩
theorem Uu:Eo X (compareOp .GtE) (Qe λi j=> .bl (decide (j<=i)))/\CZ X.K (Qe λi j=> .bl (decide (j<=i))) k9:=⟨gz,XY λi j _ _ _=> .bl _⟩
structure MulOk (i j:Int):Prop where
 l:i.natAbs<2^1000000
 r:j.natAbs<2^1000000
theorem e8:Eo X (binaryOp .Mult) (rI MulOk λi j=> .int (i*j)):=jl λ_ _ _ _ _ _ _ hc q=>mul_int q (.of_le (Hl hc.l) (Hl hc.r) (by decide))
abbrev C7:JW:=lA MulOk λi j=> .int (i*j)
theorem BQ:Eo X (binaryOp .Mult) (rI MulOk λi j=> .int (i*j))/\CZ X.K (rI MulOk λi j=> .int (i*j)) C7:=⟨e8,Sg λi j _ _ _=> .int _⟩
structure Tf (i j:Int):Prop where
 ne:j≠0
 lt:j.natAbs<2^8900
theorem av:Eo X (binaryOp .FloorDiv) (rI Tf λi j=> .int (i.fdiv j)):=jl λi j _ _ _ _ _ hc q=>
 floordiv_int hc.ne q (.inl (PyProof.noPylong_of_log2 (Nat.lt_trans (KC hc.lt (by decide)) (by decide))))
abbrev RQ:JW:=lA Tf λi j=> .int (i.fdiv j)
theorem FW:Eo X (binaryOp .FloorDiv) (rI Tf λi j=> .int (i.fdiv j))/\CZ X.K (rI Tf λi j=> .int (i.fdiv j)) RQ:=⟨av,Sg λi j _ _ _=> .int _⟩
abbrev YA:JW:=lA (λ_ j=>j≠0) λi j=> .int (i.fmod j)
theorem WK:Eo X (binaryOp .Mod) (rI (λ_ j=>j≠0) λi j=> .int (i.fmod j))/\CZ X.K (rI (λ_ j=>j≠0) λi j=> .int (i.fmod j)) YA:=⟨e7,Sg λi j _ _ _=> .int _⟩
abbrev ip:JW:=lA c7 λi j=> .int (i^j.toNat)
theorem cJ:Eo X (binaryOp .Pow) (rI c7 λi j=> .int (i^j.toNat))/\CZ X.K (rI c7 λi j=> .int (i^j.toNat)) ip:=⟨aw,Sg λi j _ _ _=> .int _⟩
def og:PV->Bool | .non=>true|_=>false
def RR:JW:=λx y Q=>match y with | .non=>Q (.bl (og x))|_=>False
def MF:JW:=λx y Q=>match y with | .non=>Q (.bl (!og x))|_=>False
theorem XA {K:PySem.W.Frag} {T M:Addr->Prop} {H:Hp} {v:V} {x:PV} (r:CT K T M H v x):decide (v= .non)=og x:=by cases r <;> simp [og]
theorem Ov:Eo X (compareOp .Is) (λx y H Q=>y= .non/\Q (.bl (decide (x= .non))) H)/\CZ X.K (λx y H Q=>y= .non/\Q (.bl (decide (x= .non))) H) RR:=by
 refine ⟨jo,λT M H u v x y Q AQ va ru rv h k=> ?_⟩
 cases y <;> first | exact h.elim|skip
 cases rv
 refine ⟨rfl, ?_⟩
 rw [XA ru]
 exact k _ _ T H (.refl va.tp) (.bl _) h
theorem NP:Eo X (compareOp .IsNot) (λx y H Q=>y= .non/\Q (.bl (!decide (x= .non))) H)/\CZ X.K (λx y H Q=>y= .non/\Q (.bl (!decide (x= .non))) H) MF:=by
 refine ⟨XG,λT M H u v x y Q AQ va ru rv h k=> ?_⟩
 cases y <;> first | exact h.elim|skip
 cases rv
 refine ⟨rfl, ?_⟩
 rw [XA ru]
 exact k _ _ T H (.refl va.tp) (.bl _) h
def Ak:JW:=λx y Q=>S9 x λxs=>ao y λi=>ZE (Hk xs i) Q
theorem Wj {K:PySem.W.Frag} {T M:Addr->Prop} {H:Hp} {vs:List V} {xs:List PV} {i:Int} {z:PV} (r:A6 K T M H vs xs) (h:Hk xs i=some z):∃v,Hk vs i=some v/\CT K T M H v z:=by
 unfold Hk at h ⊢
 rw [r.length]
 cases e:PB xs.length i with
 | none=>rw [e] at h;cases h
 | some j=>
   rw [e] at h
   exact r.get h
def nR (K:PySem.W.Frag):R2:=λx y H Q=>nQ K x y H Q\/nS K x y H Q
theorem n9:dD X (nR X.K)/\CZ X.K (nR X.K) Ak:=by
 refine ⟨FE.or jL,λT M H u v x y Q AQ va ru rv h k=> ?_⟩
 obtain ⟨xs,hx,h1⟩:=JM h
 obtain ⟨i,rfl,h2⟩:=R5 h1
 cases rv.toI
 obtain ⟨z,e,q⟩:=ji h2
 rcases hx with rfl|rfl
 ·cases ru with
  | tup hq r=>
    obtain ⟨w,ew,rw'⟩:=Wj r e
    exact .inr ⟨_,_,i,w,rfl,rfl,hq.sq,ew,k w z T H (.refl va.tp) rw' q⟩
 ·cases ru with
  | lst hq t m r=>
    obtain ⟨w,ew,rw'⟩:=Wj r e
    exact .inl ⟨_,_,i,w,rfl,rfl, .inl (.inl hq),ew,k w z T H (.refl va.tp) rw' q⟩
def N2 (f:PV->(PV->Prop)->Prop) (ta:AE):AE:=λτ Q=>ta τ λx=>f x Q
def Fb (x:PV) (Q:PV->Prop):Prop:=ao x λi=>Q (.int (-i))
theorem CP (ha:SE X a ta):SE X (.UnaryOp .USub a pos) (N2 Fb ta):=by
 obtain ⟨t,p,s⟩:=ha
 refine ⟨_,nM kY p,λB T σ τ H Q AQ sr h k=>s B T σ τ H _ _ sr h λv x T1 H1 s1 r1 h1=> ?_⟩
 obtain ⟨i,rfl,q⟩:=R5 h1
 exact ⟨i,r1.toI,k _ _ T1 H1 s1 (.int _) q⟩
def im (x:PV) (Q:PV->Prop):Prop:=jf x λi=>Q (.bl (!i))
theorem kH (ha:SE X a ta):SE X (.UnaryOp .Not a pos) (N2 im ta):=by
 obtain ⟨t,p,s⟩:=ha
 refine ⟨_,jt p,λB T σ τ H Q AQ sr h k=>s B T σ τ H _ _ sr h λv x T1 H1 s1 r1 h1=> ?_⟩
 obtain ⟨i,rfl,q⟩:=V6 h1
 exact ⟨i,r1.toB,k _ _ T1 H1 s1 (.bl _) q⟩
def Xz (ta tb:AE):AE:=λτ Q=>ta τ λx=>jf x λc=>if c=true then tb τ Q else Q (.bl false)
theorem WI {op} (h:SE X a ta):SE X (.BoolOp op [a] pos) ta:=let ⟨_,p,s⟩:=h;⟨_,ju p,s⟩
theorem Sd {rest:List Expr} (ha:SE X a ta) (hb:SE X (.BoolOp .And (b::rest) pos) tb):SE X (.BoolOp .And (a::b::rest) pos) (Xz ta tb):=by
 obtain ⟨t,p,s⟩:=ha
 obtain ⟨t',p',s'⟩:=hb
 refine ⟨_,jr p p',λB T σ τ H Q AQ sr h k=>s B T σ τ H _ _ sr h λv x T1 H1 s1 r1 h1=> ?_⟩
 obtain ⟨i,rfl,q⟩:=V6 h1
 refine ⟨i,r1.toB, ?_⟩
 cases i with
 | true=>rw [if_pos rfl] at q ⊢;exact s' B T1 σ τ H1 _ _ (sr.stp s1) q λw y T2 H2 s2 r2 h2=>k w y T2 H2 (s1.trans s2) r2 h2
 | false=>rw [if_neg Bool.false_ne_true] at q ⊢;exact k _ _ T1 H1 s1 (.bl _) q
def A5 (ta:AE):AT:=λτ Q=>ta τ λx=>jf x Q
theorem Sn {t:TE} (s:GD X.K t ta):Mj X.K (cT t) (A5 ta):=λB T σ τ H Q AQ sr h k=>s B T σ τ H _ _ sr h λv x T1 H1 s1 r1 h1=>by
 obtain ⟨i,rfl,q⟩:=V6 h1
 exact ⟨i,r1.toB,k _ T1 H1 s1 q⟩
theorem kN {op:CmpOp} {r:R2} {f:JW} (ho:Eo X (compareOp op) r/\CZ X.K r f) (ha:SE X a ta) (hb:SE X b tb) (hm:behindInMarks op b=false):S5 X (.Compare a [op] [b] pos) (A5 (AX f ta tb)):=
 let ⟨_,p,s⟩:=ha;let ⟨_,p',s'⟩:=hb;⟨_,NF ho.1 p p' hm,Sn (Sm ho.2 s s')⟩
theorem Ba {e:Expr} (h:SE X e ta) (he:∀whole,isTrue e X.env whole=(do let v <-whole;standAt e.pos;holding [v] (truthy v)):=by intro _;rfl):S5 X e (A5 ta):=
 let ⟨_,p,s⟩:=h;⟨_,j3 p he,Sn s⟩
def Gr (t:AT):AT:=λτ Q=>t τ λc=>Q (!c)
def HE (t u:AT):AT:=λτ Q=>t τ λc=>if c=true then u τ Q else Q false
def Pa (t u:AT):AT:=λτ Q=>t τ λc=>if c=true then Q true else u τ Q
theorem Fh (ha:S5 X a tA):S5 X (.UnaryOp .Not a pos) (Gr tA):=by
 obtain ⟨t,p,s⟩:=ha
 exact ⟨_,jy p,λB T σ τ H Q AQ sr h k=>s B T σ τ H _ _ sr h λv T1 H1 s1 h1=>k _ T1 H1 s1 h1⟩
theorem Gd (ha:S5 X a tA):SW X (.BoolOp .And [a] pos) tA:=let ⟨_,p,s⟩:=ha;⟨_,fP p,s⟩
theorem He (ha:S5 X a tA):SW X (.BoolOp .Or [a] pos) tA:=let ⟨_,p,s⟩:=ha;⟨_,j5 p,s⟩
theorem Hd {rest:List Expr} (ha:S5 X a tA) (hb:SW X (.BoolOp .And (b::rest) pos) tB'):SW X (.BoolOp .And (a::b::rest) pos) (HE tA tB'):=by
 obtain ⟨t,p,s⟩:=ha
 obtain ⟨t',p',s'⟩:=hb
 refine ⟨_,j4 p p',λB T σ τ H Q AQ sr h k=>s B T σ τ H _ _ sr h λi T1 H1 s1 q=> ?_⟩
 cases i with
 | true=>rw [if_pos rfl] at q ⊢;exact s' B T1 σ τ H1 _ _ (sr.stp s1) q λb T2 H2 s2 h2=>k b T2 H2 (s1.trans s2) h2
 | false=>rw [if_neg Bool.false_ne_true] at q ⊢;exact k _ T1 H1 s1 q
theorem MY {rest:List Expr} (ha:S5 X a tA) (hb:SW X (.BoolOp .Or (b::rest) pos) tB'):SW X (.BoolOp .Or (a::b::rest) pos) (Pa tA tB'):=by
 obtain ⟨t,p,s⟩:=ha
 obtain ⟨t',p',s'⟩:=hb
 refine ⟨_,nN p p',λB T σ τ H Q AQ sr h k=>s B T σ τ H _ _ sr h λi T1 H1 s1 q=> ?_⟩
 cases i with
 | false=>rw [if_neg Bool.false_ne_true] at q ⊢;exact s' B T1 σ τ H1 _ _ (sr.stp s1) q λb T2 H2 s2 h2=>k b T2 H2 (s1.trans s2) h2
 | true=>rw [if_pos rfl] at q ⊢;exact k _ T1 H1 s1 q
theorem JS (h:SW X a tA):S5 X a tA:=let ⟨_,p,s⟩:=h;⟨_,p.pt,s⟩
def gW (t:AT) (ta tb:AE):AE:=λτ Q=>t τ λc=>if c=true then ta τ Q else tb τ Q
theorem Qo (hc:S5 X c tA) (ha:SE X a ta) (hb:SE X b tb):SE X (.IfExp c a b pos) (gW tA ta tb):=by
 obtain ⟨t,p,s⟩:=hc
 obtain ⟨t1,p1,s1'⟩:=ha
 obtain ⟨t2,p2,s2'⟩:=hb
 refine ⟨_,bC p p1 p2,λB T σ τ H Q AQ sr h k=>s B T σ τ H _ _ sr h λi T1 H1 s1 q=> ?_⟩
 cases i with
 | true=>rw [if_pos rfl] at q ⊢;exact s1' B T1 σ τ H1 _ _ (sr.stp s1) q λw y T2 H2 s2 r2 h2=>k w y T2 H2 (s1.trans s2) r2 h2
 | false=>rw [if_neg Bool.false_ne_true] at q ⊢;exact s2' B T1 σ τ H1 _ _ (sr.stp s1) q λw y T2 H2 s2 r2 h2=>k w y T2 H2 (s1.trans s2) r2 h2
def AL:AA:=λ_ Q=>Q []
def AB (ta:AE) (r:AA):AA:=λτ Q=>ta τ λx=>r τ λxs=>Q (x::xs)
theorem EA:SA X [] AL:=⟨_,Fe,λB T σ τ H Q AQ sr h k=>k [] [] T H (.refl sr.tp) .nil h⟩
theorem Bo {e:Expr} {r:AA} (ha:SE X e ta) (hr:SA X es r) (hs:starEach (e::es) X.env=(false,eval e X.env)::starEach es X.env:=by rfl):SA X (e::es) (AB ta r):=by
 obtain ⟨t,p,s⟩:=ha
 obtain ⟨t',p',s'⟩:=hr
 refine ⟨_,CN p p' hs,λB T σ τ H Q AQ sr h k=>s B T σ τ H _ _ sr h λv x T1 H1 s1 r1 h1=> ?_⟩
 exact s' B T1 σ τ H1 _ _ (sr.stp s1) h1 λvs xs T2 H2 s2 r2 h2=>k _ _ T2 H2 (s1.trans s2) (.cons (r1.stp s2 (sr.stp s1).va) r2) h2
def A3 (r:AA):AE:=λτ Q=>r τ λxs=>xs.length<=sizeLine/\Q (.tup xs)
theorem AZ {x1} {r:AA} (h:SA X es r):SE X (.Tuple es x1 pos) (A3 r):=by
 obtain ⟨t,p,s⟩:=h
 refine ⟨_,OW p,λB T σ τ H Q AQ sr h k=>s B T σ τ H _ _ sr h λvs xs T1 H1 s1 r1 h1=>⟨by rw [r1.length];exact h1.1,λq hq=> ?_⟩⟩
 have l:=Dm.lay (o:= .tup vs) (sr.stp s1).tp hq
 exact k _ _ T1 _ (s1.trans l) (.tup (.inl Aj) (r1.stp l (sr.stp s1).va)) h1.2
def DF (r:AA):AA:=λτ Q=>r τ λxs=>xs.length<=sizeLine/\Q xs
theorem Rl {K:PySem.W.Frag} {B:DD} {T:Addr->Prop} {H:Hp} {σ:L2.St} {τ:BE} {p:Addr} {vs:List V} {xs:List PV} (sr:SR K B T H σ τ) (hq:H p=none) (r:A6 K T (mt B σ τ) H vs xs):
 Dm T H T (upd H p (.lst vs))/\SR K (B.add p) T (upd H p (.lst vs)) σ τ/\¬T p/\A6 K T (mt (B.add p) σ τ) (upd H p (.lst vs)) vs xs:=by
 have l:=Dm.lay (o:= .lst vs) sr.tp hq
 have nt:¬T p:=λz=>by obtain ⟨o,e,_⟩:=(sr.tp p z).mut;rw [hq] at e;cases e
 refine ⟨l,sr.add l hq Aj LY.lst nt,nt,r.mv ⟨sr.va,λb o t _ e=>l.keep b o t e,l.sub,λb n t=>t,λb n z=> ?_⟩⟩
 rcases z with (z|z)|z
 ·exact .inl z
 ·subst z;exact absurd hq n
 ·exact .inr z
theorem BP {r:AA} (h:SA X es r):SF X (.List es pos) (DF r):=by
 obtain ⟨t,p,s⟩:=h
 refine ⟨_,bD p,λB T σ τ H Q AQ sr h k=>s B T σ τ H _ _ sr h λvs xs T1 H1 s1 r1 h1=>⟨by rw [r1.length];exact h1.1,λq hq=> ?_⟩⟩
 obtain ⟨l,sr2,nt,r2⟩:=Rl (sr.stp s1) hq r1
 exact k q vs xs T1 _ (s1.trans l) sr2 (s1.none hq) Aj nt r2 h1.2
def FZ (r:AA):AE:=λτ Q=>r τ λxs=>Q (.lst xs)
theorem cF {t:TE} {r:AA} (s:Ze X.K t r):GD X.K t (FZ r):=λB T σ τ H Q AQ sr h k=>s B T σ τ H _ _ sr h λp vs xs T1 H1 s1 sr1 hn hp nt r1 h1=>by
 have ho:¬DP σ τ p:=λo=>by obtain ⟨_,e,_⟩:=sr.ownH o;rw [hn] at e;cases e
 have hb:¬B.M p:=λo=>by obtain ⟨_,e,_⟩:=sr.bm p o;rw [hn] at e;cases e
 exact k _ _ T1 H1 s1 (.lst hp nt (λz=>z.elim hb ho) (r1.mv (.anti sr1.va λa m=>m.elim (λz=> .inl (.inl z)) .inr))) h1
theorem Cq {r:AA} (h:SF X a r):SE X a (FZ r):=let ⟨_,p,s⟩:=h;⟨_,p,cF s⟩
def BY (K:PySem.W.Frag) (n:Nat) (F:AF):Sp:=λvs H Q _=>∃(T M:Addr->Prop) (xs:List PV) (AQ:PV->Prop),G0 T M H/\(∀a,M a->¬T a)/\A6 K T M H vs xs/\xs.length=n/\F xs AQ/\
 ∀v x T' H',Dm T H T' H'->CT K T' M H' v x->AQ x->Q v H'
def AN (n:Nat) (F:AF) (r:AA):AE:=λτ Q=>r τ λxs=>xs.length=n/\F xs Q
theorem AK {x:Str} {p:Pos} {e:Expr} {k n:Nat} {ps:List Str} {F:AF} {r:AA} (D:Has X.prog X.w X.K X.mg X.base k x ps (BY X.K n F)) (hr:Room k X.A) (hg:Gl X x) (ha:SA X (e::es) r)
 (hs:starEach (e::es) X.env=(false,eval e X.env)::starEach es X.env:=by rfl) (hpl:(backTo pos (starEach es X.env)).any (·.1)=false:=by rfl) (hd:(x==("__debug__" :Str))=false:=by decide):
 SE X (.Call (.Name x p) (e::es) [] pos) (AN n F r):=by
 obtain ⟨t,pa,s⟩:=ha
 refine ⟨_,js D hr hg pa hs hpl hd,λB T σ τ H Q AQ sr h k=>s B T σ τ H _ _ sr h λvs xs T1 H1 s1 r1 h1=> ?_⟩
 rw [List.append_nil]
 exact ⟨T1,_,xs,AQ,(sr.stp s1).va,λa m=>(sr.stp s1).nt m,r1,h1.1,h1.2,λv x T2 H2 s2 r2 q=>k v x T2 H2 (s1.trans s2) r2 q⟩
def EX (f:AF) (r:AA):AE:=λτ Q=>r τ λxs=>f xs Q
theorem cE {rr:List V->Hp->VK->Prop} {f:AF} {t:TA} {r:AA} (hr:Fs X.K rr f) (s:iT X.K t r):GD X.K (qk rr t) (EX f r):=λB T σ τ H Q AQ sr h k=>s B T σ τ H _ _ sr h λvs xs T1 H1 s1 r1 h1=>
 hr T1 _ H1 vs xs Q AQ (sr.stp s1).va r1 h1 λw z T2 H2 s2 r2 q=>k w z T2 H2 (s1.trans s2) r2 q
theorem Aw {id:String} {x:Str} {p:Pos} {e:Expr} {rr:List V->Hp->VK->Prop} {f:AF} {r:AA} (hc:CH X (.builtin id) rr/\Fs X.K rr f) (hg:Gl X x) (hm:X.mg x=none) (hv:bootBuiltins x=some (.builtin id)) (ha:SA X (e::es) r)
 (hn:x≠"__name__" :=by decide) (hdb:(x==("__debug__" :Str))=false:=by decide) (he:starEach (e::es) X.env=(false,eval e X.env)::starEach es X.env:=by rfl) (hpl:(backTo pos (starEach es X.env)).any (·.1)=false:=by rfl):
 SE X (.Call (.Name x p) (e::es) [] pos) (EX f r):=by
 obtain ⟨t,pa,s⟩:=ha
 exact ⟨_,KI hc.1 hg hm hv pa hn hdb he hpl,cE hc.2 s⟩
theorem BS {T:String} {x:Str} {p:Pos} {e:Expr} {rr:List V->Hp->VK->Prop} {f:AF} {r:AA} (hc:CH X (.type T) rr/\Fs X.K rr f) (hg:Gl X x) (hm:X.mg x=none) (hv:bootBuiltins x=some (.type T)) (ha:SA X (e::es) r)
 (hn:x≠"__name__" :=by decide) (hdb:(x==("__debug__" :Str))=false:=by decide) (he:starEach (e::es) X.env=(false,eval e X.env)::starEach es X.env:=by rfl) (hpl:(backTo pos (starEach es X.env)).any (·.1)=false:=by rfl):
 SE X (.Call (.Name x p) (e::es) [] pos) (EX f r):=by
 obtain ⟨t,pa,s⟩:=ha
 exact ⟨_,Hr hc.1 hg hm hv pa hn hdb he hpl,cE hc.2 s⟩
end
end PL
end
section
namespace PL
open PySem PySem.Spec PyProof.Rows L2
section
variable {X:Cx}
theorem DI {K:PySem.W.Frag} {T M:Addr->Prop} {H:Hp} {v:V} {xs:List PV} (r:CT K T M H v (.tup xs)):∃a vs,v= .ref a/\Jr K H a vs/\A6 K T M H vs xs:=by
 cases r with
 | tup h r=>exact ⟨_,_,rfl,h.sq,r⟩
theorem cK {K:PySem.W.Frag} {T M:Addr->Prop} {H:Hp} {v:V} {xs:List PV} (r:CT K T M H v (.tup xs)):∃a vs,v= .ref a/\oV K H a vs/\A6 K T M H vs xs:=by
 cases r with
 | tup h r=>exact ⟨_,_,rfl,h,r⟩
theorem Dz {K:PySem.W.Frag} {T M:Addr->Prop} {H:Hp} {v:V} {xs:List PV} (r:CT K T M H v (.lst xs)):∃a vs,v= .ref a/\H a=some (.lst vs)/\¬T a/\¬M a/\A6 K T M H vs xs:=by
 cases r with
 | lst h t m r=>exact ⟨_,_,rfl,h,t,m,r⟩
theorem b6 {K:PySem.W.Frag} {T M:Addr->Prop} {H:Hp} {v:V} {ns:List Int} (r:CT K T M H v (.scr ns)):∃a,v= .ref a/\F4 K H a (ns.map V.int):=by
 cases r with
 | scr h=>
   rcases h with ⟨h,_,_⟩|h
   ·exact ⟨_,rfl, .inl h⟩
   ·exact ⟨_,rfl,h H⟩
def Fc:AF:=λxs Q=>match xs with | [.tup ys] =>Q (.int ys.length) | [.lst ys] =>Q (.int ys.length) | [.scr ns] =>Q (.int ns.length)|_=>False
def nU (K:PySem.W.Frag):List V->Hp->VK->Prop:=λxs H Q=>∃p ys,xs= [.ref p] /\(F4 K H p ys\/Jr K H p ys)/\Q (.int ys.length) H
theorem EB:CH X (.builtin "len") (nU X.K)/\Fs X.K (nU X.K) Fc:=by
 refine ⟨Jy,λT M H us xs Q AQ va r h k=> ?_⟩
 unfold Fc at h
 split at h <;> first | exact h.elim|skip
 ·rename_i ys
  cases r with | cons r t=>cases t;obtain ⟨a,vs,rfl,hq,r⟩:=DI r;refine ⟨a,vs,rfl, .inr hq, ?_⟩;rw [r.length];exact k _ _ T H (.refl va.tp) (.int _) h
 ·rename_i ys
  cases r with | cons r t=>cases t;obtain ⟨a,vs,rfl,hq,_,_,r⟩:=Dz r;refine ⟨a,vs,rfl, .inl (.inl (.inl hq)), ?_⟩;rw [r.length];exact k _ _ T H (.refl va.tp) (.int _) h
 ·rename_i ns
  cases r with | cons r t=>cases t;obtain ⟨a,rfl,hq⟩:=b6 r;refine ⟨a,_,rfl, .inl hq, ?_⟩;rw [List.length_map];exact k _ _ T H (.refl va.tp) (.int _) h
def RV:AF:=λxs Q=>match xs with | [.int i] =>Q (.int i.natAbs)|_=>False
theorem Ly:CH X (.builtin "abs") (λxs H Q=>∃i,xs= [.int i] /\Q (.int (if i<0 then -i else i)) H)/\Fs X.K (λxs H Q=>∃i,xs= [.int i] /\Q (.int (if i<0 then -i else i)) H) RV:=by
 refine ⟨N7,λT M H us xs Q AQ va r h k=> ?_⟩
 unfold RV at h
 split at h <;> first | exact h.elim|skip
 rename_i i
 cases r with
 | cons r t=>
   cases t
   cases r
   refine ⟨i,rfl, ?_⟩
   rw [show (if i<0 then -i else i)=(i.natAbs:Int) by split <;> omega]
   exact k _ _ T H (.refl va.tp) (.int _) h
def l8 (g:Int->Int->Int):AF:=λxs Q=>match xs with | [.int i, .int j] =>Q (.int (g i j))|_=>False
theorem kK {g g':Int->Int->Int} (hg:∀i j,g i j=g' i j):Fs X.K (λxs H Q=>∃i j,xs= [.int i, .int j] /\Q (.int (g i j)) H) (l8 g'):=by
 intro T M H us xs Q AQ va r h k
 unfold l8 at h
 split at h <;> first | exact h.elim|skip
 rename_i i j
 cases r with
 | cons r t=>
   cases t with
   | cons r2 t=>
     cases t;cases r;cases r2
     refine ⟨i,j,rfl, ?_⟩
     rw [hg]
     exact k _ _ T H (.refl va.tp) (.int _) h
theorem kF (hc:X.calm=true):CH X (.builtin "min") (λxs H Q=>∃i j,xs= [.int i, .int j] /\Q (.int (if j<i then j else i)) H)/\Fs X.K (λxs H Q=>∃i j,xs= [.int i, .int j] /\Q (.int (if j<i then j else i)) H) (l8 min):=
 ⟨X3 hc,kK λi j=>by split <;> omega⟩
def Pj:AF:=λxs Q=>match xs with | [.int i] =>Q (.int i) | [.bl k] =>Q (.int (if k then 1 else 0))|_=>False
theorem JP:CH X (.type "int") (λxs H Q=>(∃i,xs= [.int i] /\Q (.int i) H)\/∃k,xs= [.bl k] /\Q (.int (if k then 1 else 0)) H)/\Fs X.K (λxs H Q=>(∃i,xs= [.int i] /\Q (.int i) H)\/∃k,xs= [.bl k] /\Q (.int (if k then 1 else 0)) H) Pj:=by
 refine ⟨QQ,λT M H us xs Q AQ va r h k=> ?_⟩
 unfold Pj at h
 split at h <;> first | exact h.elim|skip
 ·cases r with | cons r t=>cases t;cases r;exact .inl ⟨_,rfl,k _ _ T H (.refl va.tp) (.int _) h⟩
 ·cases r with | cons r t=>cases t;cases r;exact .inr ⟨_,rfl,k _ _ T H (.refl va.tp) (.int _) h⟩
def Dt:AF:=λxs Q=>match xs with | [.tup ys] =>Q (.tup ys) | [.lst ys] =>Q (.tup ys)|_=>False
def bR (K:PySem.W.Frag):List V->Hp->VK->Prop:=λxs H Q=>∃p ys,xs= [.ref p] /\((F4 K H p ys/\∀l,H l=none->Q (.ref l) (upd H l (.tup ys)))\/(Jr K H p ys/\Q (.ref p) H))
theorem DR:CH X (.type "tuple") (bR X.K)/\Fs X.K (bR X.K) Dt:=by
 refine ⟨Pf,λT M H us xs Q AQ va r h k=> ?_⟩
 unfold Dt at h
 split at h <;> first | exact h.elim|skip
 ·cases r with | cons r t=>cases t;obtain ⟨a,vs,rfl,hq,r'⟩:=cK r;exact ⟨a,vs,rfl, .inr ⟨hq.sq,k _ _ T H (.refl va.tp) (.tup hq r') h⟩⟩
 ·cases r with
  | cons r t=>
    cases t
    obtain ⟨a,vs,rfl,hq,_,_,r'⟩:=Dz r
    refine ⟨a,vs,rfl, .inl ⟨.inl (.inl hq),λl hl=> ?_⟩⟩
    have s:=Dm.lay (o:= .tup vs) va.tp hl
    exact k _ _ T _ s (.tup (.inl Aj) (r'.stp s va)) h
def Wy (xs:List PV) (Q:List PV->Prop):Prop:=match xs with | [.tup ys] =>Q ys | [.lst ys] =>Q ys|_=>False
def Zh (r:AA):AA:=λτ Q=>r τ λxs=>Wy xs Q
theorem fZ {x:Str} {p pos:Pos} {e:Expr} {es:List Expr} {r:AA} (hg:Gl X x) (hm:X.mg x=none) (hv:bootBuiltins x=some (.type "list")) (ha:SA X (e::es) r)
 (hn:x≠"__name__" :=by decide) (hdb:(x==("__debug__" :Str))=false:=by decide) (he:starEach (e::es) X.env=(false,eval e X.env)::starEach es X.env:=by rfl) (hpl:(backTo pos (starEach es X.env)).any (·.1)=false:=by rfl):
 SF X (.Call (.Name x p) (e::es) [] pos) (Zh r):=by
 obtain ⟨t,pa,s⟩:=ha
 refine ⟨_,Hr RP hg hm hv pa hn hdb he hpl,λB T σ τ H Q AQ sr h k=>s B T σ τ H _ _ sr h λvs xs T1 H1 s1 r1 h1=> ?_⟩
 have go:∀(ws:List V) (ys:List PV),A6 X.K T1 (mt B σ τ) H1 ws ys->AQ ys->∀l,H1 l=none->Q (.ref l) (upd H1 l (.lst ws)):=λws ys rr q l hl=>by
  obtain ⟨l2,sr2,nt,r2⟩:=Rl (sr.stp s1) hl rr
  exact k l ws ys T1 _ (s1.trans l2) sr2 (s1.none hl) Aj nt r2 q
 unfold Wy at h1
 split at h1 <;> first | exact h1.elim|skip
 ·cases r1 with | cons r t=>cases t;obtain ⟨a,ws,rfl,hq,r'⟩:=DI r;exact ⟨a,ws,rfl, .inr hq,go ws _ r' h1⟩
 ·cases r1 with | cons r t=>cases t;obtain ⟨a,ws,rfl,hq,_,_,r'⟩:=Dz r;exact ⟨a,ws,rfl, .inl (.inl (.inl hq)),go ws _ r' h1⟩
def kdOf:PV->Option Kd
 | .non=>some .non | .bl _=>some .bl | .int _=>some .int | .str _=>some .str | .tup _=>some .tup | .lst _=>some .lst | .tape=>none | .scr _=>none | .ty _=>none | .dct _=>none
def Vb:AF:=λxs Q=>match xs with | [x, .ty T] =>aO T/\(match kdOf x with | some k=>Q (.bl (Rf k T))|none=>False)|_=>False
theorem Sa:CH X (.builtin "isinstance") (j6 X.K)/\Fs X.K (j6 X.K) Vb:=by
 refine ⟨Zn,λT M H us xs Q AQ va r h k=> ?_⟩
 unfold Vb at h
 split at h <;> first | exact h.elim|skip
 rename_i x ty
 obtain ⟨ht,h⟩:=h
 cases r with
 | cons r t=>
   cases t with
   | cons r2 t=>
     cases t;cases r2
     cases r with
     | non=>exact ⟨_,_, .non,rfl,ht,rfl,k _ _ T H (.refl va.tp) (.bl _) h⟩
     | bl b=>exact ⟨_,_, .bl,rfl,ht,⟨_,rfl⟩,k _ _ T H (.refl va.tp) (.bl _) h⟩
     | int b=>exact ⟨_,_, .int,rfl,ht,⟨_,rfl⟩,k _ _ T H (.refl va.tp) (.bl _) h⟩
     | str b=>exact ⟨_,_, .str,rfl,ht,⟨_,rfl⟩,k _ _ T H (.refl va.tp) (.bl _) h⟩
     | ty b=>exact h.elim
     | tup hq _=>exact ⟨_,_, .tup,rfl,ht,⟨_,_,rfl,hq.sq⟩,k _ _ T H (.refl va.tp) (.bl _) h⟩
     | lst hq _ _ _=>exact ⟨_,_, .lst,rfl,ht,⟨_,_,rfl, .inl (.inl hq)⟩,k _ _ T H (.refl va.tp) (.bl _) h⟩
     | tape _=>exact h.elim
     | scr _=>exact h.elim
     | dct _ _ _=>exact h.elim
def Jw:List PV->Option (List Bool)
 | [] =>some []
 | .bl b::r=>(Jw r).map (b :: ·)
 | _=>none
theorem Wm {K:PySem.W.Frag} {T M:Addr->Prop} {H:Hp}:∀{vs:List V} {xs:List PV} {bs:List Bool},A6 K T M H vs xs->Jw xs=some bs->vs=bs.map V.bl
 | _,_,_, .nil,e=>by simp [Jw] at e;subst e;rfl
 | _,_,bs, .cons h t,e=>by
   cases h <;> simp [Jw] at e
   obtain ⟨c,e1,e2⟩:=e
   subst e2
   simp [Wm t e1]
def Z5 (g:List Bool->Bool):AF:=λxs Q=>match xs with | [.lst ys] =>(match Jw ys with | some bs=>Q (.bl (g bs))|none=>False)|_=>False
theorem fh {g:List Bool->Bool}:Fs X.K (fQ X.K g) (Z5 g):=by
 intro T M H us xs Q AQ va r h k
 unfold Z5 at h
 split at h <;> first | exact h.elim|skip
 split at h <;> first | exact h.elim|skip
 rename_i bs e
 cases r with
 | cons r t=>
   cases t
   obtain ⟨a,ws,rfl,hq,_,_,r'⟩:=Dz r
   have:=Wm r' e
   subst this
   exact ⟨a,bs,rfl, .inl (.inl hq),k _ _ T H (.refl va.tp) (.bl _) h⟩
theorem kE (hc:X.calm=true):CH X (.builtin "all") (fQ X.K λbs=>bs.all id)/\Fs X.K (fQ X.K λbs=>bs.all id) (Z5 λbs=>bs.all id):=⟨X1 hc,fh⟩
def XV:PV->PV->Option Bool
 | .non, .non=>some true | .non, .int _=>some false | .int _, .non=>some false | .non, .bl _=>some false | .bl _, .non=>some false | .non, .str _=>some false | .str _, .non=>some false
 | .int i, .int j=>some (decide (i=j)) | .bl i, .bl j=>some (decide (i=j)) | .str i, .str j=>some (decide (i=j))
 | .int _, .str _=>some false | .str _, .int _=>some false | .bl _, .str _=>some false | .str _, .bl _=>some false
 | _,_=>none
theorem Uq {K:PySem.W.Frag} {T M:Addr->Prop} {H:Hp} {u v:V} {x y:PV} {b:Bool} (r:CT K T M H u x) (r2:CT K T M H v y) (e:XV x y=some b):fX u v=true/\decide (u=v)=b:=by
 cases r <;> cases r2 <;> simp [XV] at e <;> subst e <;> simp [fX]
def gJ:PV->Option Bool
 | .non=>some false | .bl b=>some b | .int i=>some (i != 0) | .tup xs=>some (!xs.isEmpty) | .lst xs=>some (!xs.isEmpty)|_=>none
def VI (ta:AE):AT:=λτ Q=>ta τ λx=>match gJ x with | some b=>Q b|none=>False
theorem J7 {K:PySem.W.Frag} {T M:Addr->Prop} {H:Hp} {vs:List V} {xs:List PV} (r:A6 K T M H vs xs):vs.isEmpty=xs.isEmpty:=by cases r <;> rfl
theorem O1 {a:Expr} {ta:AE} (ha:SE X a ta) (he:∀whole,isTrue a X.env whole=(do let v <-whole;standAt a.pos;holding [v] (truthy v)):=by intro _;rfl):S5 X a (VI ta):=by
 obtain ⟨t,p,s⟩:=ha
 refine ⟨_,bM p he,λB T σ τ H Q AQ sr h k=>s B T σ τ H _ _ sr h λv x T1 H1 s1 r1 h1=> ?_⟩
 cases e:gJ x with
 | none=>rw [e] at h1;exact h1.elim
 | some b=>
   rw [e] at h1
   refine ⟨b, ?_,k b T1 H1 s1 h1⟩
   cases r1 <;> simp [gJ] at e
   ·exact e
   ·exact e.symm
   ·exact e.symm
   ·rename_i hq rr;exact .inr (.inl ⟨_,hq.sq,by rw [J7 rr,e];simp⟩)
   ·rename_i hq _ _ rr;exact .inl ⟨_, .inl (.inl hq),by rw [J7 rr,e];simp⟩
end
end PL
end
section
namespace PL
open PySem PySem.Spec PyProof.Rows L2
structure G3 where
 nx:BE->Prop
 rt:PV->Prop
 bk:BE->Prop
 ct:BE->Prop
abbrev AS:=G3->BE->Prop
structure FX (T:Addr->Prop) (H:Hp) (σ:L2.St) (τ:BE) (T':Addr->Prop) (H':Hp) (σ':L2.St) (τ':BE):Prop where
 keep:∀b o,¬T b->¬DP σ τ b->H b=some o->H' b=some o
 sub:∀b,T b->T' b
 new:∀b,T' b->T b\/H b=none
 own:∀b,DP σ' τ' b->DP σ τ b\/H b=none
 some:∀b,H b≠none->H' b≠none
section
variable {K:PySem.W.Frag} {B:DD} {T T' T1 T2:Addr->Prop} {H H' H1 H2:Hp} {σ σ' σ1 σ2:L2.St} {τ τ' τ1 τ2:BE}
theorem FX.refl:FX T H σ τ T H σ τ:=⟨λ_ _ _ _ e=>e,λ_ t=>t,λ_ t=> .inl t,λ_ o=> .inl o,λ_ h=>h⟩
theorem FX.trans (a:FX T H σ τ T1 H1 σ1 τ1) (b:FX T1 H1 σ1 τ1 T2 H2 σ2 τ2):FX T H σ τ T2 H2 σ2 τ2 where
 keep:=λc o t w e=>b.keep c o (λz=>(a.new c z).elim t λn=>by rw [n] at e;cases e) (λz=>(a.own c z).elim w λn=>by rw [n] at e;cases e) (a.keep c o t w e)
 sub:=λc t=>b.sub c (a.sub c t)
 new:=λc t=>(b.new c t).elim (λz=>a.new c z) λz=> .inr (by
  cases e:H c with
  | none=>rfl
  | some o=>exact absurd z (a.some c (by rw [e];exact λe=>nomatch e)))
 own:=λc t=>(b.own c t).elim (λz=>a.own c z) λz=> .inr (by
  cases e:H c with
  | none=>rfl
  | some o=>exact absurd z (a.some c (by rw [e];exact λe=>nomatch e)))
 some:=λc h=>b.some c (a.some c h)
theorem Dm.prog (s:Dm T H T' H'):FX T H σ τ T' H' σ τ:=⟨λb o t _ e=>s.keep b o t e,s.sub,s.new,λ_ o=> .inl o,λ_ h=>s.some h⟩
theorem FX.less (h:∀b,DP σ' τ' b->DP σ τ b):FX T H σ τ T H σ' τ':=⟨λ_ _ _ _ e=>e,λ_ t=>t,λ_ t=> .inl t,λb o=> .inl (h b o),λ_ h=>h⟩
structure ER (K:PySem.W.Frag) (B:DD) (T:Addr->Prop) (H:Hp) (σ:L2.St) (τ:BE) (D:Nv) (AD:G3):Prop where
 nx:∀T' H' σ' τ',FX T H σ τ T' H' σ' τ'->SR K B T' H' σ' τ'->AD.nx τ'->D.nx σ' H'
 bk:∀T' H' σ' τ',FX T H σ τ T' H' σ' τ'->SR K B T' H' σ' τ'->AD.bk τ'->D.bk σ' H'
 ct:∀T' H' σ' τ',FX T H σ τ T' H' σ' τ'->SR K B T' H' σ' τ'->AD.ct τ'->D.ct σ' H'
 rt:∀v x T' H',Dm B.T B.H T' H'->CT K T' B.M H' v x->AD.rt x->D.rt v H'
theorem ER.shift {D:Nv} {AD:G3} (e:ER K B T H σ τ D AD) (p:FX T H σ τ T1 H1 σ1 τ1):ER K B T1 H1 σ1 τ1 D AD:=
 ⟨λ_ _ _ _ q=>e.nx _ _ _ _ (p.trans q),λ_ _ _ _ q=>e.bk _ _ _ _ (p.trans q),λ_ _ _ _ q=>e.ct _ _ _ _ (p.trans q),e.rt⟩
end
def Zf (K:PySem.W.Frag) (t:TS) (a:AS):Prop:=∀(B:DD) (T:Addr->Prop) (σ:L2.St) (τ:BE) (H:Hp) (D:Nv) (AD:G3),SR K B T H σ τ->a AD τ->ER K B T H σ τ D AD->t D σ H
def SS (X:Cx) (st:Stmt) (a:AS):Prop:=∃t,PS X st t/\Zf X.K t a
def dF (X:Cx) (st:List Stmt) (a:AS):Prop:=∃t,Wc X st t/\Zf X.K t a
theorem Bm {α:Type} {l:List α} {i j:Nat} {x y:α} (h:(l.set i x)[j]? =some y):(j=i/\y=x/\i<l.length)\/(j≠i/\l[j]? =some y):=by
 by_cases e:j=i
 ·subst e
  rw [List.getElem?_set] at h
  simp at h
  obtain ⟨h1,h2⟩:=h
  exact .inl ⟨rfl,h2.symm,h1⟩
 ·rw [List.getElem?_set_ne (λz=>e z.symm)] at h
  exact .inr ⟨e,h⟩
section
variable {K:PySem.W.Frag} {B:DD} {T:Addr->Prop} {H:Hp} {σ:L2.St} {τ:BE}
theorem Dj {i:Nat} {v:V} {x:PV} {b:Addr} (h:DP (σ.set i (some v)) (τ.set i (some (.val x))) b):DP σ τ b:=by
 obtain ⟨j,xs,h1,h2⟩:=h
 rcases Bm h1 with ⟨_,e,_⟩|⟨n,di⟩
 ·cases e
 ·rw [List.getElem?_set_ne (λz=>n z.symm)] at h2
  exact ⟨j,xs,di,h2⟩
theorem SR.set {i:Nat} {v:V} {x:PV} (s:SR K B T H σ τ) (r:CT K T (mt B σ τ) H v x):SR K B T H (σ.set i (some v)) (τ.set i (some (.val x))):=by
 have mv:Mv K T (mt B σ τ) H T (mt B (σ.set i (some v)) (τ.set i (some (.val x)))) H:= .anti s.va λa m=>m.elim .inl λz=> .inr (Dj z)
 refine ⟨by simp [s.len],λj y e=> ?_,λj ys e=> ?_,λj k ys zs p e1 e2 e3 e4=> ?_,s.tp,s.bm,s.bt,s.st⟩
 ·rcases Bm e with ⟨rfl,e',hl⟩|⟨n,e'⟩
  ·cases e'
   refine ⟨v,by rw [List.getElem?_set];simp [s.len,hl],r.mv mv⟩
  ·obtain ⟨w,hw,rw'⟩:=s.val j y e'
   exact ⟨w,by rw [List.getElem?_set_ne (λz=>n z.symm)];exact hw,rw'.mv mv⟩
 ·rcases Bm e with ⟨_,e',_⟩|⟨n,e'⟩
  ·cases e'
  ·obtain ⟨p,vs,h1,h2,h3,h4⟩:=s.own j ys e'
   exact ⟨p,vs,by rw [List.getElem?_set_ne (λz=>n z.symm)];exact h1,h2,h3.mv mv,h4⟩
 ·rcases Bm e1 with ⟨_,e',_⟩|⟨n,e1'⟩
  ·cases e'
  ·rcases Bm e2 with ⟨_,e',_⟩|⟨n2,e2'⟩
   ·cases e'
   ·rw [List.getElem?_set_ne (λz=>n z.symm)] at e3
    rw [List.getElem?_set_ne (λz=>n2 z.symm)] at e4
    exact s.dist j k ys zs p e1' e2' e3 e4
theorem MM {i:Nat} {p:Addr} {xs:List PV} {b:Addr} (h:DP (σ.set i (some (.ref p))) (τ.set i (some (.own xs))) b):DP σ τ b\/b=p:=by
 obtain ⟨j,ys,h1,h2⟩:=h
 rcases Bm h1 with ⟨rfl,e,_⟩|⟨n,di⟩
 ·rcases Bm h2 with ⟨_,e',_⟩|⟨n,_⟩
  ·cases e';exact .inr rfl
  ·exact absurd rfl n
 ·rw [List.getElem?_set_ne (λz=>n z.symm)] at h2
  exact .inl ⟨j,ys,di,h2⟩
theorem SR.take {i:Nat} {p:Addr} {vs:List V} {xs:List PV} (s:SR K (B.add p) T H σ τ) (hp:H p=some (.lst vs)) (nt:¬T p) (no:¬DP σ τ p) (nb:¬B.M p) (b0:B.H p=none) (r:A6 K T (mt (B.add p) σ τ) H vs xs):
 SR K B T H (σ.set i (some (.ref p))) (τ.set i (some (.own xs))):=by
 have mv:Mv K T (mt (B.add p) σ τ) H T (mt B (σ.set i (some (.ref p))) (τ.set i (some (.own xs)))) H:= .anti s.va λa m=>by
  rcases m with m|m
  ·exact .inl (.inl m)
  ·rcases MM m with z|z
   ·exact .inr z
   ·exact .inl (.inr z)
 refine ⟨by simp [s.len],λj y e=> ?_,λj ys e=> ?_,λj k ys zs q e1 e2 e3 e4=> ?_,s.tp,λa m=>s.bm a (.inl m),λa m=>s.bt a (.inl m),s.st⟩
 ·rcases Bm e with ⟨_,e',_⟩|⟨n,e'⟩
  ·cases e'
  ·obtain ⟨w,hw,rw'⟩:=s.val j y e'
   exact ⟨w,by rw [List.getElem?_set_ne (λz=>n z.symm)];exact hw,rw'.mv mv⟩
 ·rcases Bm e with ⟨rfl,e',hl⟩|⟨n,e'⟩
  ·cases e'
   exact ⟨p,vs,by rw [List.getElem?_set];simp [s.len,hl],hp,r.mv mv,b0,nt,nb⟩
  ·obtain ⟨q,ws,h1,h2,h3,h4,h5,h6⟩:=s.own j ys e'
   exact ⟨q,ws,by rw [List.getElem?_set_ne (λz=>n z.symm)];exact h1,h2,h3.mv mv,h4,h5,λz=>h6 (.inl z)⟩
 ·rcases Bm e1 with ⟨a1,_,_⟩|⟨n,e1'⟩
  ·rcases Bm e2 with ⟨a2,_,_⟩|⟨n2,e2'⟩
   ·rw [a1,a2]
   ·subst a1
    rw [List.getElem?_set_ne (λz=>n2 z.symm)] at e4
    rcases Bm e3 with ⟨_,e',_⟩|⟨n,_⟩
    ·cases e';exact absurd ⟨k,zs,e2',e4⟩ no
    ·exact absurd rfl n
  ·rw [List.getElem?_set_ne (λz=>n z.symm)] at e3
   rcases Bm e2 with ⟨a2,_,_⟩|⟨n2,e2'⟩
   ·subst a2
    rcases Bm e4 with ⟨_,e',_⟩|⟨n,_⟩
    ·cases e';exact absurd ⟨j,ys,e1',e3⟩ no
    ·exact absurd rfl n
   ·rw [List.getElem?_set_ne (λz=>n2 z.symm)] at e4
    exact s.dist j k ys zs q e1' e2' e3 e4
theorem SR.write {i:Nat} {p:Addr} {ws vs:List V} {xs ys:List PV} (s:SR K B T H σ τ) (ht:τ[i]? =some (some (.own xs))) (hs:σ[i]? =some (some (.ref p))) (hp:H p=some (.lst ws)) (r:A6 K T (mt B σ τ) H vs ys):
 SR K B T (upd H p (.lst vs)) σ (τ.set i (some (.own ys)))/\FX T H σ τ T (upd H p (.lst vs)) σ (τ.set i (some (.own ys))):=by
 obtain ⟨p',ws',e1,e2,r0,b0,nt,nb⟩:=s.own i xs ht
 rw [hs] at e1;cases e1
 have ZB:σ.set i (some (.ref p))=σ:=by
  apply List.ext_getElem?
  intro k
  by_cases hk:i=k
  ·subst hk
   rw [List.getElem?_set,hs]
   simp [(List.getElem?_eq_some_iff.mp hs).1]
  ·rw [List.getElem?_set_ne hk]
 have owp:DP σ τ p:=⟨i,xs,ht,hs⟩
 have ow:∀b,DP σ (τ.set i (some (.own ys))) b->DP σ τ b:=λb h=>by
  obtain ⟨j,zs,h1,h2⟩:=h
  rcases Bm h1 with ⟨rfl,e,_⟩|⟨n,di⟩
  ·exact ⟨j,xs,ht,h2⟩
  ·exact ⟨j,zs,di,h2⟩
 have mv:Mv K T (mt B σ τ) H T (mt B σ (τ.set i (some (.own ys)))) (upd H p (.lst vs)):=⟨s.va,λb o _ m e=>by
  rw [Ah (λz=>m (by subst z;exact .inr owp))];exact e,λ_ t=>t,λ_ _ t=>t,λb _ m=>m.elim .inl λz=> .inr (ow b z)⟩
 refine ⟨⟨by simp [s.len],λj y e=> ?_,λj zs e=> ?_,λj k zs us q h1 h2 h3 h4=> ?_,λa t=> ?_,λa m=> ?_,s.bt, ?_⟩,⟨λb o t w e=>by rw [Ah (λz=>w (by subst z;exact owp))];exact e,λ_ t=>t,λ_ t=> .inl t,λb o=> .inl (ow b o),λb h=> ?_⟩⟩
 ·rcases Bm e with ⟨_,e',_⟩|⟨n,e'⟩
  ·cases e'
  ·obtain ⟨v,h,rr⟩:=s.val j y e'
   exact ⟨v,h,rr.mv mv⟩
 ·rcases Bm e with ⟨rfl,e',_⟩|⟨n,e'⟩
  ·cases e'
   exact ⟨p,vs,hs,Aj,r.mv mv,b0,nt,nb⟩
  ·obtain ⟨q,us,h1,h2,h3,h4⟩:=s.own j zs e'
   have hq:q≠p:=λz=>by subst z;exact n (s.dist j i zs xs q e' ht h1 hs)
   exact ⟨q,us,h1,by rw [Ah hq];exact h2,h3.mv mv,h4⟩
 ·rcases Bm h1 with ⟨rfl,_,_⟩|⟨n,di⟩
  ·rcases Bm h2 with ⟨rfl,_,_⟩|⟨n2,oX⟩
   ·rfl
   ·exact s.dist _ k xs us q ht oX h3 h4
  ·rcases Bm h2 with ⟨rfl,_,_⟩|⟨n2,oX⟩
   ·exact s.dist j _ zs xs q di ht h3 h4
   ·exact s.dist j k zs us q di oX h3 h4
 ·obtain ⟨d,x,e,z⟩:=s.tp a t
  exact ⟨d,x,by rw [Ah (λw=>by subst w;exact nt t)];exact e,z⟩
 ·obtain ⟨o,e,z⟩:=s.bm a m
  exact ⟨o,by rw [Ah (λw=>by subst w;exact nb m)];exact e,z⟩
 ·refine ⟨λb o t e=> ?_,s.st.sub,s.st.new,λa t=> ?_⟩
  ·rw [Ah (λw=>by subst w;rw [b0] at e;cases e)];exact s.st.keep b o t e
  ·obtain ⟨d,x,e,z⟩:=s.tp a t
   exact ⟨d,x,by rw [Ah (λw=>by subst w;exact nt t)];exact e,z⟩
 ·by_cases z:b=p
  ·subst z;rw [Aj];exact λe=>nomatch e
  ·rw [Ah z];exact h
end
section
variable {X:Cx} {st:Stmt} {rest:List Stmt} {e:Expr} {pos:Pos} {a b:AS} {ta:AE}
def Tl (ta:AE):AE:=λτ Q=>ta (frz τ) λx=>ZD x=true/\Q x
theorem Om (h:SE X e ta):SE X e (Tl ta):=by
 obtain ⟨t,p,s⟩:=h
 refine ⟨t,p,λB T σ τ H Q AQ sr h k=>s B T σ (frz τ) H _ _ sr.frz h λv x T1 H1 s1 r1 h1=> ?_⟩
 exact k v x T1 H1 s1 (r1.free h1.1) h1.2
def Tn (tt:AT):AT:=λτ Q=>tt (frz τ) Q
theorem cO {tt:AT} (h:S5 X e tt):S5 X e (Tn tt):=by
 obtain ⟨t,p,s⟩:=h
 exact ⟨t,p,λB T σ τ H Q AQ sr h k=>s B T σ (frz τ) H _ _ sr.frz h λb T1 H1 s1 h1=>k b T1 H1 s1 h1⟩
def BM:AS:=λD τ=>D.nx τ
def Ab (a b:AS):AS:=λD τ=>a {D with nx:=b D} τ
theorem A4:dF X [] BM:=⟨_,NE,λB T σ τ H D AD sr h er=>er.nx T H σ τ .refl sr h⟩
theorem AM (h1:SS X st a) (h2:dF X rest b):dF X (st::rest) (Ab a b):=by
 obtain ⟨t,p,s⟩:=h1
 obtain ⟨t',p',s'⟩:=h2
 exact ⟨_,B6 p p',λB T σ τ H D AD sr h er=>s B T σ τ H _ _ sr h ⟨λT' H' σ' τ' q sr' h'=>s' B T' σ' τ' H' D AD sr' h' (er.shift q),er.bk,er.ct,er.rt⟩⟩
theorem AR (h1:SS X st a):dF X [st] a:=let ⟨_,p,s⟩:=h1;⟨_,FH p,s⟩
def Ar (ta:AE):AS:=λD τ=>ta (frz τ) D.rt
theorem AY (h:SE X e ta):SS X (.Return (some e) pos) (Ar ta):=by
 obtain ⟨t,p,s⟩:=h
 refine ⟨_,OY p,λB T σ τ H D AD sr h er=>s B T σ (frz τ) H _ _ sr.frz h λv x T1 H1 s1 r1 h1=> ?_⟩
 exact er.rt v x T1 H1 (sr.st.trans s1) (r1.mv (.anti (sr.frz.stp s1).va λa m=> .inl m)) h1
def Bz (c:AT) (a b:AS):AS:=λD τ=>c τ λk=>if k=true then a D τ else b D τ
theorem BF {c:Expr} {x y:List Stmt} {tc:AT} (hc:S5 X c tc) (ha:dF X x a) (hb:dF X y b):SS X (.If c x y pos) (Bz tc a b):=by
 obtain ⟨t,p,s⟩:=hc
 obtain ⟨t1,p1,s1'⟩:=ha
 obtain ⟨t2,p2,s2'⟩:=hb
 refine ⟨_,XI p p1 p2,λB T σ τ H D AD sr h er=>s B T σ τ H _ _ sr h λk T1 H1 s1 h1=> ?_⟩
 cases k with
 | true=>rw [if_pos rfl] at h1 ⊢;exact s1' B T1 σ τ H1 D AD (sr.stp s1) h1 (er.shift s1.prog)
 | false=>rw [if_neg Bool.false_ne_true] at h1 ⊢;exact s2' B T1 σ τ H1 D AD (sr.stp s1) h1 (er.shift s1.prog)
abbrev AG:=PV->BE->(BE->Prop)->Prop
abbrev U6:=List PV->BE->(BE->Prop)->Prop
def Jq (K:PySem.W.Frag) (g:TG) (ag:AG):Prop:=∀(B:DD) (T:Addr->Prop) (σ:L2.St) (τ:BE) (H:Hp) (v:V) (x:PV) (Q:L2.St->Hp->Prop) (AQ:BE->Prop),SR K B T H σ τ->CT K T (mt B σ τ) H v x->ag x τ AQ->
 (∀σ' τ',SR K B T H σ' τ'->(∀b,DP σ' τ' b->DP σ τ b)->AQ τ'->Q σ' H)->g v σ H Q
def QI (K:PySem.W.Frag) (g:VE) (ag:U6):Prop:=∀(B:DD) (T:Addr->Prop) (σ:L2.St) (τ:BE) (H:Hp) (vs:List V) (xs:List PV) (Q:L2.St->Hp->Prop) (AQ:BE->Prop),SR K B T H σ τ->A6 K T (mt B σ τ) H vs xs->ag xs τ AQ->
 (∀σ' τ',SR K B T H σ' τ'->(∀b,DP σ' τ' b->DP σ τ b)->AQ τ'->Q σ' H)->g vs σ H Q
def SG (X:Cx) (tg:Expr) (ag:AG):Prop:=∃g,PG X tg g/\Jq X.K g ag
def oT (X:Cx) (tg:List Expr) (ag:U6):Prop:=∃g,kq X tg g/\QI X.K g ag
def Au (i:Nat):AG:=λx τ Q=>Q (τ.set i (some (.val x)))
theorem Sk {K:PySem.W.Frag} {i:Nat}:Jq K (DO i) (Au i):=λB T σ τ H v x Q AQ sr r h k=>k _ _ (sr.set r) (λb o=>Dj o) h
theorem GX {i:Nat} {x:Str} (hN:X.N.Nodup) (hi:X.N[i]? =some x) (hx:Loc X.env.scope x) (hf:X.fn x=true\/X.env.scope.names.lookup x=some .local:=by first | exact .inl rfl|exact .inr rfl|assumption):SG X (.Name x pos) (Au i):=
 ⟨_,KJ hN hi hx hf,Sk⟩
def CJ:U6:=λxs τ Q=>match xs with | [] =>Q τ|_=>False
def Ai (g:AG) (r:U6):U6:=λxs τ Q=>match xs with | x::t=>g x τ λτ'=>r t τ' Q | [] =>False
theorem Ut {K:PySem.W.Frag}:QI K T8 CJ:=λB T σ τ H vs xs Q AQ sr r h k=>by
 cases r with
 | nil=>exact ⟨rfl,k σ τ sr (λ_ o=>o) h⟩
 | cons _ _=>exact h.elim
theorem Qq {K:PySem.W.Frag} {g:TG} {gs:VE} {ag:AG} {ags:U6} (h1:Jq K g ag) (h2:QI K gs ags):QI K (FC g gs) (Ai ag ags):=λB T σ τ H vs xs Q AQ sr r h k=>by
 cases r with
 | nil=>exact h.elim
 | cons r t=>
   refine ⟨_,_,rfl,h1 B T σ τ H _ _ _ _ sr r h λσ1 τ1 sr1 o1 q1=> ?_⟩
   exact h2 B T σ1 τ1 H _ _ Q AQ sr1 (t.mv (.anti sr.va λa m=>m.elim .inl λz=> .inr (o1 a z))) q1 λσ2 τ2 sr2 o2 q2=>k σ2 τ2 sr2 (λb o=>o1 b (o2 b o)) q2
theorem Co:oT X [] CJ:=⟨_,SD,Ut⟩
theorem An {es:List Expr} {ag:AG} {ags:U6} (h1:SG X e ag) (h2:oT X es ags) (hs:(assignEach (e::es) X.env).map (·.2)=assign e X.env::(assignEach es X.env).map (·.2):=by rfl):oT X (e::es) (Ai ag ags):=
 let ⟨_,p,s⟩:=h1;let ⟨_,p',s'⟩:=h2;⟨_,HP p p' hs,Qq s s'⟩
def Ao (ta:AE) (g:AG):AS:=λD τ=>ta τ λx=>g x τ D.nx
theorem Si {K:PySem.W.Frag} {t:TE} {g:TG} {ag:AG} (s:GD K t ta) (s':Jq K g ag):Zf K (Uy t g) (Ao ta ag):=λB T σ τ H D AD sr h er=>s B T σ τ H _ _ sr h λv x T1 H1 s1 r1 h1=>
 s' B T1 σ τ H1 v x _ _ (sr.stp s1) r1 h1 λσ2 τ2 sr2 o2 q2=>er.nx T1 H1 σ2 τ2 (s1.prog.trans (.less o2)) sr2 q2
theorem Oz {tg:Expr} {ag:AG} (he:SE X e ta) (hg:SG X tg ag) (hs:swapsWithSole [tg] e pos.line X.env=pure false:=by rfl) (hw:swappedStores [tg] e X.env=pure none:=by rfl)
 (h1:(assignEach [tg] X.env).map (·.2)= [assign tg X.env] :=by rfl):SS X (.Assign [tg] e pos) (Ao ta ag):=
 let ⟨_,p,s⟩:=he;let ⟨_,p',s'⟩:=hg;⟨_,SH p p' hs hw h1,Si s s'⟩
theorem Ha {i:Nat} {x:Str} {pos':Pos} (hN:X.N.Nodup) (hi:X.N[i]? =some x) (hx:Loc X.env.scope x) (he:SE X e ta) (hs:swapsWith e (some (.Name x pos')) pos.line X.env=pure false:=by rfl) (hf:X.fn x=true\/X.env.scope.names.lookup x=some .local:=by first | exact .inl rfl|exact .inr rfl|assumption):
 SS X (.Assign [.Name x pos'] e pos) (Ao ta (Au i)):=let ⟨_,p,s⟩:=he;⟨_,Fg hN hi hx p hs hf,Si s Sk⟩
def JB (r:AA) (i:Nat):AS:=λD τ=>r τ λxs=>D.nx (τ.set i (some (.own xs)))
theorem fj {K:PySem.W.Frag} {t:TE} {r:AA} {i:Nat} (s:Ze K t r):Zf K (Uy t (DO i)) (JB r i):=λB T σ τ H D AD sr h er=>s B T σ τ H _ _ sr h λp vs xs T1 H1 s1 sr1 hn hp nt r1 h1=>by
 have no:¬DP σ τ p:=λo=>by obtain ⟨_,e,_⟩:=sr.ownH o;rw [hn] at e;cases e
 have nb:¬B.M p:=λo=>by obtain ⟨_,e,_⟩:=sr.bm p o;rw [hn] at e;cases e
 refine er.nx T1 H1 _ _ ⟨λb o t _ e=>s1.keep b o t e,s1.sub,s1.new,λb o=> ?_,λb h=>s1.some h⟩ (sr1.take hp nt no nb (sr.st.none hn) r1) h1
 rcases MM o with z|z
 ·exact .inl z
 ·subst z;exact .inr hn
theorem EV {i:Nat} {x:Str} {pos':Pos} {r:AA} (hN:X.N.Nodup) (hi:X.N[i]? =some x) (hx:Loc X.env.scope x) (he:SF X e r) (hs:swapsWith e (some (.Name x pos')) pos.line X.env=pure false:=by rfl) (hf:X.fn x=true\/X.env.scope.names.lookup x=some .local:=by first | exact .inl rfl|exact .inr rfl|assumption):
 SS X (.Assign [.Name x pos'] e pos) (JB r i):=let ⟨_,p,s⟩:=he;⟨_,Fg hN hi hx p hs hf,fj s⟩
def Pb (i j:Nat) (r:AA):AS:=λD τ=>r τ λxs=>match xs with | [x,y] =>D.nx ((τ.set i (some (.val x))).set j (some (.val y)))|_=>False
theorem L1 {i j:Nat} {x y:Str} {c d:Expr} {r:AA} {px py pt:Pos} {kt k2 pt2} (hc:X.calm=true) (hN:X.N.Nodup) (hi:X.N[i]? =some x) (hj:X.N[j]? =some y) (qE:i≠j)
 (hx:X.env.scope.names.lookup x=some .local) (hy:X.env.scope.names.lookup y=some .local) (ha:SA X [c,d] r)
 (hw:swappedStores [.Tuple [.Name x px, .Name y py] kt pt] (.Tuple [c,d] k2 pt2) X.env=pure (some [x,y]))
 (hs:swapsWithSole [.Tuple [.Name x px, .Name y py] kt pt] (.Tuple [c,d] k2 pt2) pos.line X.env=pure false:=by rfl):
 SS X (.Assign [.Tuple [.Name x px, .Name y py] kt pt] (.Tuple [c,d] k2 pt2) pos) (Pb i j r):=by
 obtain ⟨t,p,s⟩:=ha
 refine ⟨_,jw hc hN hi hj qE hx hy p hw hs,λB T σ τ H D AD sr h er=>s B T σ τ H _ _ sr h λvs xs T1 H1 s1 r1 h1=> ?_⟩
 cases r1 with
 | nil=>exact h1.elim
 | cons ra ta=>
   cases ta with
   | nil=>exact h1.elim
   | cons rb tb=>
     cases tb with
     | cons _ _=>exact h1.elim
     | nil=>
       have sr1:=sr.stp s1
       refine ⟨_,_,rfl,er.nx T1 H1 _ _ ?_ ((sr1.set (i:=i) ra).set (i:=j) (rb.mv (.anti sr1.va λa m=>m.elim .inl λz=> .inr (Dj z)))) h1⟩
       exact s1.prog.trans (.less λb o=>Dj (Dj o))
def VF (i:Nat) (f:JW) (ta:AE):AS:=λD τ=>match S8 τ i with | some (.val x)=>ta τ λy=>f x y λz=>D.nx (τ.set i (some (.val z)))|_=>False
theorem cM {i:Nat} {x:Str} {op:Operator} {ti:lp} {f:JW} {pos':Pos} (hN:X.N.Nodup) (hi:X.N[i]? =some x) (hx:Loc X.env.scope x) (he:SE X e ta) (ho:kr X op ti/\CZ X.K ti f) (hf:X.fn x=true\/X.env.scope.names.lookup x=some .local:=by first | exact .inl rfl|exact .inr rfl|assumption):
 SS X (.AugAssign (.Name x pos') op e pos) (VF i f ta):=by
 obtain ⟨t,p,s⟩:=he
 refine ⟨_,jv hN hi hx p ho.1 hf,λB T σ τ H D AD sr h er=> ?_⟩
 unfold VF at h
 split at h <;> first | exact h.elim|skip
 rename_i y ey
 obtain ⟨v,ev,rv⟩:=sr.val i y (OM ey)
 refine ⟨v,ev,s B T σ τ H _ _ sr h λw z T1 H1 s1 r1 h1=> ?_⟩
 refine ho.2 T1 _ H1 v w y z _ _ (sr.stp s1).va (rv.stp s1 sr.va) r1 h1 λu q T2 H2 s2 r2 h2=> ?_
 exact er.nx T2 H2 _ _ ((s1.trans s2).prog.trans (.less λb o=>Dj o)) (((sr.stp s1).stp s2).set r2) h2
theorem kI:kr X .Add (qW λi j=>i+j)/\CZ X.K (qW λi j=>i+j) l5:=⟨jJ,λT M H u v x y Q AQ va ru rv h k=>by
 obtain ⟨i,j,rfl,rfl,q⟩:=ND h
 exact ⟨i,j,ru.toI,rv.toI,k _ _ T H (.refl va.tp) (.int _) q⟩⟩
def Ml (i:Nat) (τ:BE) (R:List PV->Prop):Prop:=match S8 τ i with | some (.own xs)=>R xs|_=>False
theorem Wd {i:Nat} {τ:BE} {R:List PV->Prop} (h:Ml i τ R):∃xs,τ[i]? =some (some (.own xs))/\R xs:=by
 unfold Ml at h
 cases e:S8 τ i with
 | none=>rw [e] at h;exact h.elim
 | some z=>
   rw [e] at h
   cases z with
   | val x=>exact h.elim
   | own xs=>exact ⟨xs,OM e,h⟩
abbrev iR:=List PV->List PV->(List PV->Prop)->Prop
def dH (K:PySem.W.Frag) (r:V->List V->Hp->VK->Prop) (f:iR):Prop:=∀(T M:Addr->Prop) (H:Hp) (l:Addr) (ws vs:List V) (xs ys:List PV) (Q:VK) (AQ:List PV->Prop),H l=some (.lst ws)->A6 K T M H ws xs->A6 K T M H vs ys->f xs ys AQ->
 (∀ws' xs',A6 K T M H ws' xs'->AQ xs'->Q .non (upd H l (.lst ws')))->r (.ref l) vs H Q
def EY (i:Nat) (f:iR) (r:AA):AS:=λD τ=>Ml i τ λxs=>r τ λys=>f xs ys λzs=>D.nx (τ.set i (some (.own zs)))
theorem cH {K:PySem.W.Frag} {i:Nat} {rr:V->List V->Hp->VK->Prop} {f:iR} {t:TA} {r:AA} (hm:dH K rr f) (s:iT K t r):Zf K (iA (t0 K "list" rr (F1 i) t)) (EY i f r):=λB T σ τ H D AD sr h er=>by
 obtain ⟨xs,e,h⟩:=Wd h
 obtain ⟨p,vs,e1,hp,r1,b0,nt,nb⟩:=sr.own i xs e
 refine ⟨.ref p,e1, .inl ⟨rfl,vs, .inl (.inl hp)⟩,s B T σ τ H _ _ sr h λus ys T1 H1 s1 r2 h2=> ?_⟩
 have sr1:=sr.stp s1
 refine hm T1 (mt B σ τ) H1 p vs us xs ys _ _ (s1.keep _ _ nt hp) (r1.stp s1 sr.va) r2 h2 λws' zs r3 h3=> ?_
 obtain ⟨sr3,pr3⟩:=sr1.write (i:=i) (xs:=xs) e e1 (s1.keep _ _ nt hp) r3
 exact er.nx T1 _ _ _ (s1.prog.trans pr3) sr3 h3
theorem DY {i:Nat} {x name:Str} {es:List Expr} {id:String} {rr:V->List V->Hp->VK->Prop} {f:iR} {r:AA} {p apos cpos:Pos} (slot:Slot "list" name id) (qR:typeOf (.builtin id)=pure (.type "method_descriptor")) (hm:lc X id rr/\dH X.K rr f) (ha:SA X (e::es) r)
 (hN:X.N[i]? =some x:=by rfl) (hv:iV X.env.scope x:=by first | exact Or.inl rfl|exact Or.inr (Or.inl rfl)|exact Or.inr (Or.inr rfl)) (hd:(x==("__debug__" :Str))=false:=by decide) (M8:(x==("__classdict__" :Str))=false:=by decide)
 (aH:attributeBase (.Name x p) name X.env (eval (.Name x p) X.env)=eval (.Name x p) X.env:=by rfl)
 (i8:((backTo cpos (starEach (e::es) X.env)).all (λx=> !x.1)&&(backToKw cpos (keywordEach [] X.env)).all (λx=>x.1.isSome)
   && decide ((e::es).length+([] :List Keyword).length+(if ([] :List Keyword).isEmpty then 0 else 1)<30))=true:=by rfl)
 (W6:(apos.endLine==cpos.line)=true:=by rfl) (hs:starEach (e::es) X.env=(false,eval e X.env)::starEach es X.env:=by rfl) (Vj:(backTo cpos (starEach es X.env)).any (·.1)=false:=by rfl)
 (mU:swapsWith (.Call (.Attribute (.Name x p) name apos) (e::es) [] cpos) none pos.line X.env=pure false:=by rfl):
 SS X (.Expr (.Call (.Attribute (.Name x p) name apos) (e::es) [] cpos) pos) (EY i f r):=by
 obtain ⟨t,pa,s⟩:=ha
 exact ⟨_,fN (nL PySem.F.plainAttrs_list slot qR hm.1 (SC hN hv hd M8) pa aH i8 W6 hs Vj) mU,cH hm.2 s⟩
def KD:iR:=λxs ys Q=>match ys with | [y] =>xs.length<sizeLine/\Q (xs ++ [y])|_=>False
theorem Cd:lc X "list.append" SJ/\dH X.K SJ KD:=by
 refine ⟨Ho,λT M H l ws vs xs ys Q AQ hl r1 r2 h k=> ?_⟩
 unfold KD at h
 split at h <;> first | exact h.elim|skip
 cases r2 with
 | cons ry t=>
   cases t
   exact ⟨l,ws,_,rfl,rfl,hl,by rw [r1.length];exact h.1,k _ _ (r1.append (.cons ry .nil)) h.2⟩
def aa:iR:=λxs ys Q=>match ys with | [.int i,y] =>(0<=i/\i<=(xs.length:Int)/\xs.length<sizeLine)/\Q (xs.take i.toNat++y::xs.drop i.toNat)|_=>False
theorem Qr:lc X "list.insert" SL/\dH X.K SL aa:=by
 refine ⟨YW,λT M H l ws vs xs ys Q AQ hl r1 r2 h k=> ?_⟩
 unfold aa at h
 split at h <;> first | exact h.elim|skip
 cases r2 with
 | cons ri t=>
   cases t with
   | cons ry t=>
     cases t;cases ri
     obtain ⟨⟨h1,h2,h3⟩,h4⟩:=h
     exact ⟨l,ws,_,_,rfl,rfl,hl,h1,by rw [r1.length];exact h2,by rw [r1.length];exact h3,k _ _ ((r1.take _).append (.cons ry (r1.drop _))) h4⟩
def ap (o:Option Nat) (R:Nat->Prop):Prop:=match o with | some j=>R j|none=>False
theorem jg {o:Option Nat} {R:Nat->Prop} (h:ap o R):∃z,o=some z/\R z:=by
 cases o <;> first | exact ⟨_,rfl,h⟩|exact h.elim
def VH (i:Nat) (ti ta:AE):AS:=λD τ=>ta τ λy=>Ml i τ λxs=>ti τ λk=>ao k λk=>ap (PB xs.length k) λj=>D.nx (τ.set i (some (.own (xs.set j y))))
theorem Sx {i:Nat} {x:Str} {ix:Expr} {ti:AE} {p tpos:Pos} (hi:SE X ix ti) (he:SE X e ta) (hN:X.N[i]? =some x:=by rfl) (hv:iV X.env.scope x:=by first | exact Or.inl rfl|exact Or.inr (Or.inl rfl)|exact Or.inr (Or.inr rfl)) (hd:(x==("__debug__" :Str))=false:=by decide) (M8:(x==("__classdict__" :Str))=false:=by decide)
 (ha:∀v,assign (.Subscript (.Name x p) ix tpos) X.env v=(do
   let ov <-holding [v] (eval (.Name x p) X.env)
   let iv <-holding [v,ov] (eval ix X.env)
   standAt tpos
   holding [v,ov,iv] (setItem ov iv v)
   release [v,ov,iv] []):=by intro _;rfl)
 (hs:swapsWithSole [.Subscript (.Name x p) ix tpos] e pos.line X.env=pure false:=by rfl) (hw:swappedStores [.Subscript (.Name x p) ix tpos] e X.env=pure none:=by rfl)
 (h1:(assignEach [.Subscript (.Name x p) ix tpos] X.env).map (·.2)= [assign (.Subscript (.Name x p) ix tpos) X.env] :=by rfl):SS X (.Assign [.Subscript (.Name x p) ix tpos] e pos) (VH i ti ta):=by
 obtain ⟨t,pt,s⟩:=hi
 obtain ⟨t',pt',s'⟩:=he
 refine ⟨_,SH pt' (WB (SC hN hv hd M8) pt Op ha) hs hw h1,λB T σ τ H D AD sr h er=>s' B T σ τ H _ _ sr h λv y T1 H1 s1 r1 h1=> ?_⟩
 have sr1:=sr.stp s1
 obtain ⟨xs,e,h1⟩:=Wd h1
 obtain ⟨q,vs,e1,hp,r2,b0,nt,nb⟩:=sr1.own i xs e
 refine ⟨.ref q,e1,s B T1 σ τ H1 _ _ sr1 h1 λw k T2 H2 s2 r3 h3=> ?_⟩
 obtain ⟨k,rfl,h3⟩:=R5 h3
 obtain ⟨j,ej,h3⟩:=jg h3
 cases r3.toI
 have sr2:=sr1.stp s2
 obtain ⟨sr4,pr4⟩:=sr2.write (i:=i) (xs:=xs) e e1 (s2.keep _ _ nt hp) (((r2.stp s2 sr1.va)).set (r1.stp s2 sr1.va) j)
 exact ⟨q,vs,k,j,rfl,rfl,s2.keep _ _ nt hp,by rw [r2.length];exact ej,er.nx T2 _ _ _ ((s1.trans s2).prog.trans pr4) sr4 h3⟩
end
end PL
end
section
namespace PL
open PySem PySem.Spec PyProof.Rows L2
section
variable {X:Cx} {st:Stmt} {e:Expr} {pos:Pos} {a b:AS} {ta:AE}
def U2 (c:AT) (b:AS) (D:G3):Nat->BE->Prop
 | 0,_=>False
 | n+1,τ=>c (frz τ) λk=>if k=true then b {D with nx:=U2 c b D n,ct:=U2 c b D n,bk:=D.nx} τ else D.nx τ
def Lb (c:AT) (b:AS):AS:=λD τ=>∃n,U2 c b D n τ
theorem K4 {c:Expr} {body:List Stmt} {tc:AT} (hp:PassesOwn (model X.prog X.w) X.A X.env X.xe) (hc:S5 X c tc) (hb:dF X body b):SS X (.While c body [] pos) (Lb tc b):=by
 obtain ⟨t,p,s⟩:=hc
 obtain ⟨t',p',s'⟩:=hb
 refine ⟨_,bL hp p p',λB T σ τ H D AD sr h er=> ?_⟩
 obtain ⟨n,h⟩:=h
 refine ⟨λm σ1 H1=>∃T1 τ1,SR X.K B T1 H1 σ1 τ1/\FX T H σ τ T1 H1 σ1 τ1/\U2 tc b AD m τ1,⟨n,T,τ,sr, .refl,h⟩, ?_⟩
 rintro m σ1 H1 ⟨T1,τ1,sr1,pr1,h1⟩
 cases m with
 | zero=>exact h1.elim
 | succ m=>
   refine s B T1 σ1 (frz τ1) H1 _ _ sr1.frz h1 λk T2 H2 s2 h2=> ?_
   have sr2:=sr1.stp s2
   have er2:=(er.shift pr1).shift s2.prog
   cases k with
   | false=>rw [if_neg Bool.false_ne_true] at h2 ⊢;exact er2.nx T2 H2 σ1 τ1 .refl sr2 h2
   | true=>
     rw [if_pos rfl] at h2 ⊢
     refine ⟨λσ' H'=>∃T' τ',SR X.K B T' H' σ' τ'/\FX T H σ τ T' H' σ' τ'/\U2 tc b AD m τ',λσ' H' q=>⟨m,Nat.lt_succ_self m,q⟩, ?_⟩
     exact s' B T2 σ1 τ1 H2 _ _ sr2 h2 ⟨λT' H' σ' τ' q sr' h'=>⟨T',τ',sr',(pr1.trans s2.prog).trans q,h'⟩,er2.nx,λT' H' σ' τ' q sr' h'=>⟨T',τ',sr',(pr1.trans s2.prog).trans q,h'⟩,er.rt⟩
abbrev AI:=BE->(List PV->Prop)->Prop
structure Tj (K:PySem.W.Frag) (M:Addr->Prop) (J:It) (xs:List PV) (T:Addr->Prop) (H:Hp):Prop where
 go:∀i y,xs[i]? =some y->J.go i H
 yld:∀i y v H',xs[i]? =some y->J.yld i H v H'->Dm T H T H'/\CT K T M H' v y
 stop:∀i,xs.length<=i->J.stop i H
def WZ (T:Addr->Prop) (H H2:Hp):Prop:=∀b o,¬T b->H b=some o->H2 b=some o
def Xy (K:PySem.W.Frag) (s:Bool) (wi:TI) (ai:AI):Prop:=∀(B:DD) (T:Addr->Prop) (σ:L2.St) (τ:BE) (H:Hp) (R:It->Hp->Prop) (AQ:List PV->Prop),SR K B T H σ τ->ai τ AQ->
 (∀J xs T' H',Dm T H T' H'->(∀M2 T2 H2,Mv K T' (mt B σ τ) H' T2 M2 H2->G0 T2 M2 H2->(s=true\/WZ T' H' H2)->Tj K M2 J xs T2 H2)->AQ xs->R J H')->wi σ H R
def SI (X:Cx) (tg iter:Expr) (s:Bool) (ai:AI):Prop:=∃wi,PI X tg iter wi/\Xy X.K s wi ai
def mY (K:PySem.W.Frag) (tl:TE):TI:=λσ H R=>tl σ H λx H1=>∃a,x= .ref a/\(((∃xs,F4 K H1 a xs)/\R (pM K a) H1)\/((∃xs,Jr K H1 a xs)/\R (pN K a) H1))
theorem bI {tg l:Expr} {tl:TE} (hl:PE X l tl):PI X tg l (mY X.K tl):=by
 intro pins s σ H R I h
 refine Bg (hl pins s σ H _ I h) λv s1 ⟨x,H1,I1,r1,q1⟩=> ?_
 obtain ⟨a,e,q⟩:=q1
 subst e
 cases r1
 rcases q with ⟨⟨xs,hq⟩,q⟩|⟨⟨xs,hq⟩,q⟩
 ·obtain ⟨its,rv,p,hz⟩:=I1.list hq
  refine wpAny_pyIter_list p.isList ?_
  refine ⟨s1.heap.objs.size, [s1.heap.objs.size],_,_,H1,rfl,I1.kept (t':=s1.toks) λb o e=>Heap.get?_push_of_some _ e,Y0 a _,⟨_,Heap.get?_push_size _ rfl,rfl,rfl⟩,λb hb=> ?_,q⟩
  have e:b=s1.heap.objs.size:=by simpa using hb
  subst e
  exact I1.fpOk (Nat.le_refl _) (I1.hok.fresh (Nat.le_refl _))
 ·obtain ⟨its,rv,p,hz⟩:=I1.tuple hq
  refine wpAny_pyIter_tuple (show s1.heap.IsTuple a its.toArray from p) ?_
  refine ⟨s1.heap.objs.size, [s1.heap.objs.size],_,_,H1,rfl,I1.kept (t':=s1.toks) λb o e=>Heap.get?_push_of_some _ e,WU a _,⟨_,Heap.get?_push_size _ rfl,rfl,rfl⟩,λb hb=> ?_,q⟩
  have e:b=s1.heap.objs.size:=by simpa using hb
  subst e
  exact I1.fpOk (Nat.le_refl _) (I1.hok.fresh (Nat.le_refl _))
def O8 (ta:AE):AI:=λτ Q=>ta τ λx=>S9 x Q
theorem aQ {K:PySem.W.Frag} {T M:Addr->Prop} {H:Hp} {a:Addr} {xs:List PV} (va:G0 T M H) (r:CT K T M H (.ref a) (.tup xs)):Tj K M (pN K a) xs T H:=by
 obtain ⟨a',vs,e,hq,rs⟩:=DI r
 cases e
 refine ⟨λi y h=> ?_,λi y v H' h yl=> ?_,λi h=>⟨vs,hq,by rw [rs.length];exact h⟩⟩
 ·obtain ⟨v,hv,_⟩:=rs.get h
  exact ⟨vs,v,hq,hv⟩
 ·obtain ⟨rfl,yl⟩:=yl
  obtain ⟨z,hz,rz⟩:=rs.get' (yl vs hq)
  rw [h] at hz;cases hz
  exact ⟨.refl va.tp,rz⟩
theorem aP {K:PySem.W.Frag} {T M:Addr->Prop} {H:Hp} {a:Addr} {vs:List V} {xs:List PV} (va:G0 T M H) (hq:H a=some (.lst vs)) (rs:A6 K T M H vs xs):Tj K M (pM K a) xs T H:=by
 have Rc:F4 K H a vs:= .inl (.inl hq)
 refine ⟨λi y h=> ?_,λi y v H' h yl=> ?_,λi h=>⟨vs,Rc,by rw [rs.length];exact h⟩⟩
 ·obtain ⟨v,hv,_⟩:=rs.get h
  exact ⟨vs,v,Rc,hv⟩
 ·obtain ⟨rfl,yl⟩:=yl
  obtain ⟨z,hz,rz⟩:=rs.get' (yl vs Rc)
  rw [h] at hz;cases hz
  exact ⟨.refl va.tp,rz⟩
theorem F0 {tg:Expr} (h:SE X e ta):SI X tg e true (O8 ta):=by
 obtain ⟨t,p,s⟩:=h
 refine ⟨_,bI p,λB T σ τ H R AQ sr h k=>s B T σ τ H _ _ sr h λv x T1 H1 s1 r1 h1=> ?_⟩
 obtain ⟨xs,hx,q⟩:=JM h1
 rcases hx with rfl|rfl
 ·obtain ⟨a,vs,rfl,hq,rs⟩:=DI r1
  refine ⟨a,rfl, .inr ⟨⟨vs,hq⟩,k _ xs T1 H1 s1 (λM2 T2 H2 mv va _=>aQ va (r1.mv mv)) q⟩⟩
 ·obtain ⟨a,vs,rfl,hq,nt,nm,rs⟩:=Dz r1
  refine ⟨a,rfl, .inl ⟨⟨vs, .inl (.inl hq)⟩,k _ xs T1 H1 s1 (λM2 T2 H2 mv va _=> ?_) q⟩⟩
  obtain ⟨a',vs',e',Rc,_,_,rs'⟩:=Dz (r1.mv mv)
  cases e'
  exact aP va Rc rs'
def rng (lo:Int) (n:Nat):List PV:=(List.range n).map λ(k:Nat)=> .int (lo+(k:Int))
theorem UL {K:PySem.W.Frag} {T M:Addr->Prop} {H:Hp} {lo:Int} {n:Nat} (va:G0 T M H):Tj K M (lb lo n) (rng lo n) T H:=by
 have hl:(rng lo n).length=n:=by simp [rng]
 refine ⟨λi y h=> ?_,λi y v H' h yl=> ?_,λi h=>by rw [hl] at h;exact h⟩
 ·have:=(List.getElem?_eq_some_iff.mp h).1
  rw [hl] at this
  exact this
 ·obtain ⟨rfl,rfl⟩:=yl
  have hi:=(List.getElem?_eq_some_iff.mp h).1
  rw [hl] at hi
  have:y= .int (lo+(i:Int)):=by
   simp [rng,List.getElem?_range hi] at h
   exact h.symm
  subst this
  exact ⟨.refl va.tp, .int _⟩
def Pd (r:AA):AI:=λτ Q=>r τ λxs=>match xs with | [.int j] =>(-(2^62)<=j/\j<2^62)/\Q (rng 0 j.toNat)|_=>False
def dL (r:AA):AI:=λτ Q=>r τ λxs=>match xs with | [.int i, .int j] =>(-(2^62)<=i/\i<2^62/\ -(2^62)<=j/\j<2^62)/\Q (rng i (j-i).toNat)|_=>False
theorem MW {tg c:Expr} {r:AA} {p:Pos} (hg:Gl X "range") (hm:X.mg "range" =none) (ha:SA X [c] r) (hs:starEach [c] X.env= [(false,eval c X.env)] :=by rfl):SI X tg (.Call (.Name "range" p) [c] [] pos) true (Pd r):=by
 obtain ⟨t,pa,s⟩:=ha
 refine ⟨_,Yi hg hm pa hs,λB T σ τ H R AQ sr h k=>s B T σ τ H _ _ sr h λvs xs T1 H1 s1 r1 h1=> ?_⟩
 split at h1 <;> first | exact h1.elim|skip
 cases r1 with
 | cons r t=>
   cases t;cases r
   exact ⟨_,rfl,h1.1.1,h1.1.2,k _ _ T1 H1 s1 (λM2 T2 H2 mv va _=>UL va) h1.2⟩
theorem hU {tg c d:Expr} {r:AA} {p:Pos} (hg:Gl X "range") (hm:X.mg "range" =none) (ha:SA X [c,d] r) (hs:starEach [c,d] X.env= [(false,eval c X.env),(false,eval d X.env)] :=by rfl) (S6:starEach [d] X.env= [(false,eval d X.env)] :=by rfl):
 SI X tg (.Call (.Name "range" p) [c,d] [] pos) true (dL r):=by
 obtain ⟨t,pa,s⟩:=ha
 refine ⟨_,Yj hg hm pa hs S6,λB T σ τ H R AQ sr h k=>s B T σ τ H _ _ sr h λvs xs T1 H1 s1 r1 h1=> ?_⟩
 split at h1 <;> first | exact h1.elim|skip
 cases r1 with
 | cons r t=>
   cases t with
   | cons r' t=>
     cases t;cases r;cases r'
     exact ⟨_,_,rfl,h1.1,k _ _ T1 H1 s1 (λM2 T2 H2 mv va _=>UL va) h1.2⟩
def ES (xs ys:List PV):List PV:=List.zipWith (λx y=> .tup [x,y]) xs ys
def mZ (K:PySem.W.Frag) (ta:TA):TI:=λσ H R=>ta σ H λvs H1=>∃b c l m,vs= [.ref l, .ref m] /\(∃xs,Sq K b H1 l xs)/\(∃ys,Sq K c H1 m ys)/\R (pP K b c l m) H1
theorem fF {e f:Expr} {ta:TA} {p pos tpos:Pos} {es:List Expr} {x1:Nat} (hg:Gl X "zip") (hm:X.mg "zip" =none) (ha:PA X [e,f] ta)
 (hs:starEach [e,f] X.env= [(false,eval e X.env),(false,eval f X.env)] :=by rfl) (S6:starEach [f] X.env= [(false,eval f X.env)] :=by rfl):
 PI X (.Tuple es x1 tpos) (.Call (.Name "zip" p) [e,f] [] pos) (mZ X.K ta):=by
 intro pins s σ H R I h
 refine Call_ (GL I hg hm boot_zip (PyProof.Rows.callWith_type1 (Bg (ha pos pins s σ H _ I h) λus s1 ⟨vs,H1,I1,r1,q1⟩=> ?_) (by rw [hs,S6]) (by rw [S6];rfl)))
 obtain ⟨b,c,l,m,rfl,⟨xs,hl⟩,⟨ys,jA⟩,q⟩:=q1
 cases r1 with
 | cons r rr=>
 cases rr with
 | cons r' rr=>
 cases rr
 cases r
 cases r'
 obtain ⟨us,ru,su,_⟩:=I1.sq hl
 obtain ⟨vs,rv,sv,_⟩:=I1.sq jA
 have llt:l<s1.heap.objs.size:=by cases b <;> (obtain ⟨o,e,_⟩:=su;exact Heap.lt_size e)
 have mlt:m<s1.heap.objs.size:=by cases c <;> (obtain ⟨o,e,_⟩:=sv;exact Heap.lt_size e)
 refine kg su sv λh1 Z kp=>wpAny_pyIter_zip Z.zip ?_
 refine ⟨_,_,_,_,H1,rfl,I1.kept (t':=s1.toks) kp,cY (zipApart_new llt mlt),Z,λp hp=> ?_,q⟩
 have EN:s1.heap.objs.size<=p:=by
  have jF:p=s1.heap.objs.size+4\/p=s1.heap.objs.size+2\/p=s1.heap.objs.size+3\/p=s1.heap.objs.size\/p=s1.heap.objs.size+1:=by simpa using hp
  rcases jF with e|e|e|e|e <;> (rw [e];omega)
 exact I1.fpOk EN (I1.hok.fresh EN)
def ia:PV->Bool | .lst _=>true|_=>false
theorem Qt {K:PySem.W.Frag} {T M:Addr->Prop} {H:Hp} {v:V} {x:PV} {xs:List PV} (hx:x= .tup xs\/x= .lst xs) (r:CT K T M H v x):∃a vs,v= .ref a/\Sq K (ia x) H a vs/\A6 K T M H vs xs:=by
 rcases hx with rfl|rfl
 ·obtain ⟨a,vs,rfl,hq,rs⟩:=DI r
  exact ⟨a,vs,rfl,hq,rs⟩
 ·obtain ⟨a,vs,rfl,hq,_,_,rs⟩:=Dz r
  exact ⟨a,vs,rfl, .inl (.inl hq),rs⟩
theorem aR {K:PySem.W.Frag} {T M:Addr->Prop} {H:Hp} {l m:Addr} {x y:PV} {xs ys:List PV} (va:G0 T M H) (hx:x= .tup xs\/x= .lst xs) (hy:y= .tup ys\/y= .lst ys) (r:CT K T M H (.ref l) x) (r2:CT K T M H (.ref m) y):
 Tj K M (pP K (ia x) (ia y) l m) (ES xs ys) T H:=by
 obtain ⟨_,vs,e,hq,rs⟩:=Qt hx r
 cases e
 obtain ⟨_,ws,e,Re,rs2⟩:=Qt hy r2
 cases e
 have hz:∀i z,(ES xs ys)[i]? =some z->∃a b,xs[i]? =some a/\ys[i]? =some b/\z=PV.tup [a,b] :=λi z h=>by
  unfold ES at h
  rw [List.getElem?_zipWith] at h
  cases e1:xs[i]? with
  | none=>rw [e1] at h;cases h
  | some a=>
    cases e2:ys[i]? with
    | none=>rw [e1,e2] at h;cases h
    | some b=>rw [e1,e2] at h;cases h;exact ⟨a,b,by first | rfl|exact e1,by first | rfl|exact e2,rfl⟩
 refine ⟨λi z h=> ?_,λi z v H' h yl=> ?_,λi h=>⟨vs,ws,hq,Re, ?_⟩⟩
 ·obtain ⟨a,b,ha,hb,_⟩:=hz i z h
  obtain ⟨u,hu,_⟩:=rs.get ha
  obtain ⟨w,hw,_⟩:=rs2.get hb
  exact ⟨vs,ws,u,w,hq,Re,hu,hw⟩
 ·obtain ⟨a,b,ha,hb,rfl⟩:=hz i z h
  obtain ⟨p,u,w,rfl,hn,rfl,hu,hw⟩:=yl
  obtain ⟨a',mB,ra⟩:=rs.get' (hu vs hq)
  obtain ⟨b',dy,rb⟩:=rs2.get' (hw ws Re)
  rw [ha] at mB;cases mB
  rw [hb] at dy;cases dy
  have st:=Dm.lay (o:= .tup [u,w]) va.tp hn
  exact ⟨st, .tup (.inl Aj) (.cons (ra.stp st va) (.cons (rb.stp st va) .nil))⟩
 ·rw [rs.length,rs2.length]
  have:(ES xs ys).length=min xs.length ys.length:=by simp [ES]
  omega
def gX (r:AA):AI:=λτ Q=>r τ λls=>match ls with | [x,y] =>S9 x λxs=>S9 y λys=>Q (ES xs ys)|_=>False
theorem Yt {e f:Expr} {r:AA} {p pos tpos:Pos} {es:List Expr} {x1:Nat} (hg:Gl X "zip") (hm:X.mg "zip" =none) (ha:SA X [e,f] r)
 (hs:starEach [e,f] X.env= [(false,eval e X.env),(false,eval f X.env)] :=by rfl) (S6:starEach [f] X.env= [(false,eval f X.env)] :=by rfl):
 SI X (.Tuple es x1 tpos) (.Call (.Name "zip" p) [e,f] [] pos) true (gX r):=by
 obtain ⟨t,pa,s⟩:=ha
 refine ⟨_,fF hg hm pa hs S6,λB T σ τ H R AQ sr h k=>s B T σ τ H _ _ sr h λvs xs T1 H1 s1 r1 h1=> ?_⟩
 split at h1 <;> first | exact h1.elim|skip
 rename_i x y
 obtain ⟨xs,hx,h2⟩:=JM h1
 obtain ⟨ys,hy,h3⟩:=JM h2
 cases r1 with
 | cons ra t=>
   cases t with
   | cons rb t=>
     cases t
     obtain ⟨l,us,rfl,hq,rs⟩:=Qt hx ra
     obtain ⟨m,ws,rfl,Re,rs2⟩:=Qt hy rb
     exact ⟨ia x,ia y,l,m,rfl,⟨us,hq⟩,⟨ws,Re⟩,k _ _ T1 H1 s1 (λM2 T2 H2 mv va _=>aR va hx hy (ra.mv mv) (rb.mv mv)) h3⟩
def Cm (g:AG) (b:AS) (D:G3):List PV->BE->Prop
 | [],τ=>D.nx τ
 | x::r,τ=>g x τ λτ1=>b {D with nx:=Cm g b D r,ct:=Cm g b D r,bk:=D.nx} τ1
def FY (ai:AI) (g:AG) (b:AS):AS:=λD τ=>ai τ λxs=>Cm g b D xs τ
theorem FX.mvv {K:PySem.W.Frag} {B:DD} {T T':Addr->Prop} {H H':Hp} {σ σ':L2.St} {τ τ':BE} (s:SR K B T H σ τ) (p:FX T H σ τ T' H' σ' τ'):Mv K T (mt B σ τ) H T' (mt B σ' τ') H':=
 ⟨s.va,λb o t m e=>p.keep b o t (λz=>m (.inr z)) e,p.sub,λb n t=>(p.new b t).elim id λz=>absurd z n,λb n m=>m.elim .inl λz=>(p.own b z).elim .inr λz=>absurd z n⟩
theorem CS {tg iter:Expr} {body:List Stmt} {ai:AI} {g:AG} (hp:PassesOwn (model X.prog X.w) X.A X.env X.xe) (hc:X.calm=true) (hi:SI X tg iter true ai) (hg:SG X tg g) (hb:dF X body b)
 (hs:∀x,foldedSetIterable iter X.env x=pure x:=by intro _;rfl):SS X (.For tg iter body [] pos) (FY ai g b):=by
 obtain ⟨wi,pi,si⟩:=hi
 obtain ⟨tg',pg,sg⟩:=hg
 obtain ⟨tb,pb,sb⟩:=hb
 refine ⟨_,bK hp hc pi pg pb hs,λB T σ τ H D AD sr h er=>si B T σ τ H _ _ sr h λJ xs T1 H1 s1 walk h1=> ?_⟩
 have sr1:=sr.stp s1
 refine ⟨λi m σ2 H2=>m=xs.length-i/\∃T2 τ2,SR X.K B T2 H2 σ2 τ2/\FX T1 H1 σ τ T2 H2 σ2 τ2/\Cm g b AD (xs.drop i) τ2,⟨_,rfl,T1,τ,sr1, .refl,h1⟩, ?_⟩
 rintro i m σ2 H2 ⟨rfl,T2,τ2,sr2,pr2,h2⟩
 have w:=walk _ T2 H2 (pr2.mvv sr1) sr2.va (.inl rfl)
 have er2:=(er.shift s1.prog).shift pr2
 by_cases EF:i<xs.length
 ·have UJ:xs[i]? =some xs[i] :=List.getElem?_eq_getElem EF
  rw [List.drop_eq_getElem_cons EF] at h2
  refine .inr ⟨w.go i _ UJ,λσ' H'=>∃T' τ',SR X.K B T' H' σ' τ'/\FX T1 H1 σ τ T' H' σ' τ'/\Cm g b AD (xs.drop (i+1)) τ',λσ' H' ⟨T',τ',q1,q2,q3⟩=>⟨_,by omega,rfl,T',τ',q1,q2,q3⟩,λv H3 yl=> ?_⟩
  obtain ⟨s3,r3⟩:=w.yld i _ v H3 UJ yl
  have sr3:=sr2.stp s3
  refine sg B T2 σ2 τ2 H3 v _ _ _ sr3 r3 h2 λσ4 τ4 sr4 o4 h4=> ?_
  have pr4:FX T1 H1 σ τ T2 H3 σ4 τ4:=(pr2.trans s3.prog).trans (.less o4)
  have er4:=(er.shift s1.prog).shift pr4
  exact sb B T2 σ4 τ4 H3 _ _ sr4 h4 ⟨λT' H' σ' τ' q sr' h'=>⟨T',τ',sr',pr4.trans q,h'⟩,er4.nx,λT' H' σ' τ' q sr' h'=>⟨T',τ',sr',pr4.trans q,h'⟩,er.rt⟩
 ·rw [List.drop_eq_nil_of_le (by omega)] at h2
  exact .inl ⟨w.stop i (by omega),er2.nx T2 H2 σ2 τ2 .refl sr2 h2⟩
def X0:Option AV->Option AV|some (.val x)=>some (.val x)|_=>none
def Jv (own:Nat) (ix:List Nat) (τ:BE):BE:=List.replicate own none++ix.map λi=>X0 (S8 τ i)
def Ck (g:AG) (t:AT) (te:AE) (τ0:BE) (Q:List PV->Prop):List PV->List PV->Prop
 | [],acc=>Q acc
 | x::r,acc=>g x τ0 λτ1=>t τ1 λok=>if ok=true then te τ1 λy=>Ck g t te τ0 Q r (acc ++ [y]) else Ck g t te τ0 Q r acc
def Cv (ai:AI) (own:Nat) (ix:List Nat) (g:AG) (t:AT) (te:AE):AA:=λτ Q=>ai τ λxs=>xs.length<sizeLine/\Ck g t te (Jv own ix τ) Q xs []
theorem Zj {own:Nat} {ix:List Nat} {τ:BE} {j:Nat} {x:PV} (h:(Jv own ix τ)[j]? =some (some (.val x))):own<=j/\∃i,ix[j-own]? =some i/\τ[i]? =some (some (.val x)):=by
 unfold Jv at h
 by_cases hj:j<own
 ·rw [List.getElem?_append_left (by simpa using hj),List.getElem?_replicate,if_pos hj] at h
  cases h
 ·rw [List.getElem?_append_right (by simpa using hj),List.length_replicate,List.getElem?_map] at h
  cases e:ix[j-own]? with
  | none=>rw [e] at h;cases h
  | some i=>
    rw [e] at h
    refine ⟨by omega,i,rfl,OM ?_⟩
    cases e2:S8 τ i with
    | none=>simp [e2,X0] at h
    | some z=>cases z <;> simp [e2,X0] at h;subst h;rfl
theorem Ft {own:Nat} {ix:List Nat} {τ:BE} {j:Nat} {xs:List PV}:(Jv own ix τ)[j]? ≠some (some (.own xs)):=λh=>by
 unfold Jv at h
 by_cases hj:j<own
 ·rw [List.getElem?_append_left (by simpa using hj),List.getElem?_replicate,if_pos hj] at h
  cases h
 ·rw [List.getElem?_append_right (by simpa using hj),List.length_replicate,List.getElem?_map] at h
  cases e:ix[j-own]? with
  | none=>rw [e] at h;cases h
  | some i=>
    rw [e] at h
    cases e2:S8 τ i with
    | none=>simp [e2,X0] at h
    | some z=>cases z <;> simp [e2,X0] at h
def DD.blk (B:DD) (σ:L2.St) (τ:BE) (D:Addr):DD:=⟨B.T,B.H,λa=>mt B σ τ a\/a=D⟩
theorem SR.blk {K:PySem.W.Frag} {B:DD} {T T':Addr->Prop} {H H':Hp} {σ:L2.St} {τ:BE} {D:Addr} {ws:List V} {own:Nat} {ix:List Nat} (s:SR K B T H σ τ) (q:Dm T H T' H') (hn:H D=none) (hd:H' D=some (.lst ws)) (nt:¬T' D):
 SR K (B.blk σ τ D) T' H' (B4 own ix σ) (Jv own ix τ):=by
 have s':=s.stp q
 have mv:Mv K T (mt B σ τ) H T' (mt (B.blk σ τ D) (B4 own ix σ) (Jv own ix τ)) H':=⟨s.va,λb o t _ e=>q.keep b o t e,q.sub,λb n t=>(q.new b t).elim id λz=>absurd z n,λb n z=>by
  rcases z with (z|z)|⟨_,_,z,_⟩
  ·exact z
  ·subst z;exact absurd hn n
  ·exact absurd z Ft⟩
 refine ⟨by simp [B4,Jv],λj x e=> ?_,λj xs e=>absurd e Ft,λj k xs ys p e=>absurd e Ft,s'.tp,λa m=> ?_,λa m=> ?_,s'.st⟩
 ·obtain ⟨hj,i,hi,e'⟩:=Zj e
  obtain ⟨v,hv,r⟩:=s.val i x e'
  refine ⟨v, ?_,r.mv mv⟩
  unfold B4
  rw [List.getElem?_append_right (by simpa using hj),List.length_replicate,List.getElem?_map,hi]
  simp [hv]
 ·rcases m with m|m
  ·exact s'.va.mu a m
  ·subst m;exact ⟨_,hd,LY.lst⟩
 ·rcases m with m|m
  ·exact s'.nt m
  ·subst m;exact nt
def gS (X:Cx) (ifs:List Expr) (t:AT):Prop:=∃tt,Wb X ifs tt/\Mj X.K tt t
def E7:AT:=λ_ Q=>Q true
theorem CC:gS X [] E7:=⟨_,fH,λB T σ τ H Q AQ sr h k=>k true T H (.refl sr.tp) h⟩
theorem Sf {c:Expr} {t:AT} (h:S5 X c t):gS X [c] t:=let ⟨_,p,s⟩:=h;⟨_,fJ p,s⟩
theorem Os {K:PySem.W.Frag} {s:Bool} {wi:TI} {ai:AI} {own:Nat} {ix:List Nat} {g:TG} {ag:AG} {tt:TT} {at':AT} {te:TE} (hi:Xy K s wi ai) (hg:Jq K g ag) (ht:Mj K tt at') (he:GD K te ta):
 Ze K (Xh wi own ix g tt te) (Cv ai own ix ag at' ta):=by
 intro B T σ τ H Q AQ sr h k
 refine hi B T σ τ H _ _ sr h λJ xs T1 H1 s1 walk h1 D hD=> ?_
 obtain ⟨hl,h1⟩:=h1
 have sr1:=sr.stp s1
 have nt1:¬T1 D:=λz=>by obtain ⟨o,e,_⟩:=(sr1.tp D z).mut;rw [hD] at e;cases e
 have lay:=Dm.lay (o:= .lst []) sr1.tp hD
 refine ⟨λi m H2=>m=xs.length-i/\∃T2 vs acc,Dm T1 H1 T2 H2/\H2 D=some (.lst vs)/\¬T2 D/\A6 K T2 (λa=>mt B σ τ a\/a=D) H2 vs acc/\acc.length<=i/\Ck ag at' ta (Jv own ix τ) AQ (xs.drop i) acc,
  ⟨_,rfl,T1, [], [],lay,Aj,nt1, .nil,Nat.le_refl _,h1⟩, ?_⟩
 rintro i m H2 ⟨rfl,T2,vs,acc,s2,dk,nt2,r2,dt,h2⟩
 have srb:=sr1.blk (own:=own) (ix:=ix) s2 hD dk nt2
 have va2:G0 T2 (λa=>mt B σ τ a\/a=D) H2:=⟨srb.tp,srb.bm⟩
 have w:=walk (λa=>mt B σ τ a\/a=D) T2 H2 ⟨sr1.va,λb o t _ e=>s2.keep b o t e,s2.sub,λb n t=>(s2.new b t).elim id λz=>absurd z n,λb n z=>z.elim id λz=>by subst z;exact absurd hD n⟩ va2 (.inr s2.keep)
 by_cases EF:i<xs.length
 ·have UJ:xs[i]? =some xs[i] :=List.getElem?_eq_getElem EF
  rw [List.drop_eq_getElem_cons EF] at h2
  refine .inr ⟨w.go i _ UJ,λv H3 yl=> ?_⟩
  obtain ⟨s3,r3⟩:=w.yld i _ v H3 UJ yl
  have sr3:=srb.stp s3
  refine hg _ T2 _ _ H3 v _ _ _ sr3 (r3.mv (.anti ⟨sr3.tp,sr3.bm⟩ λa z=>z.elim id λ⟨_,_,z,_⟩=>absurd z Ft)) h2 λσ4 τ4 sr4 o4 h4=> ?_
  refine ht _ T2 σ4 τ4 H3 _ _ sr4 h4 λok T5 H5 s5 h5=> ?_
  have sr5:=sr4.stp s5
  have i4:=s3.keep D _ nt2 dk
  have dm:=s5.keep D _ nt2 i4
  have nt5:¬T5 D:=λz=>(s5.new D z).elim nt2 λn=>by rw [n] at i4;cases i4
  have r5:=(r2.stp s3 va2).stp s5 ⟨sr3.tp,sr3.bm⟩
  cases ok with
  | false=>
    rw [if_neg Bool.false_ne_true] at h5 ⊢
    exact ⟨_,by omega,rfl,T5,vs,acc,(s2.trans s3).trans s5,dm,nt5,r5,by omega,h5⟩
  | true=>
    rw [if_pos rfl] at h5 ⊢
    refine he _ T5 σ4 τ4 H5 _ _ sr5 h5 λvy y T6 H6 s6 r6 h6=> ?_
    have sr6:=sr5.stp s6
    have pq:=s6.keep D _ nt5 dm
    have nt6:¬T6 D:=λz=>(s6.new D z).elim nt5 λn=>by rw [n] at dm;cases dm
    have va6:G0 T6 (λa=>mt B σ τ a\/a=D) H6:=⟨sr6.tp,sr6.bm⟩
    have r7:=r5.stp s6 ⟨sr5.tp,sr5.bm⟩
    have s7:=((s2.trans s3).trans s5).trans s6
    have tp8:∀a,T6 a->Ey (upd H6 D (.lst (vs ++ [vy]))) a:=λa t=>by
     obtain ⟨d,x,e,z⟩:=sr6.tp a t
     exact ⟨d,x,by rw [Ah (λw=>by subst w;exact nt6 t)];exact e,z⟩
    have mv8:Mv K T6 (λa=>mt B σ τ a\/a=D) H6 T6 (λa=>mt B σ τ a\/a=D) (upd H6 D (.lst (vs ++ [vy]))):=⟨va6,λb o _ m e=>by rw [Ah (λw=>m (.inr w))];exact e,λ_ t=>t,λ_ _ t=>t,λ_ _ z=>z⟩
    refine ⟨vs,pq,by rw [r2.length];omega,_,(by omega:xs.length-(i+1)<xs.length-i),rfl,T6,vs ++ [vy],acc ++ [y],⟨λb o t e=> ?_,s7.sub,s7.new,tp8⟩,Aj,nt6,(r7.append (.cons (r6.mv (.anti sr6.va λa z=> .inl z)) .nil)).mv mv8,by simp;omega,h6⟩
    rw [Ah (Av e hD)]
    exact s7.keep b o t e
 ·rw [List.drop_eq_nil_of_le (by omega)] at h2
  refine .inl ⟨w.stop i (by omega), ?_⟩
  exact k D vs acc T2 H2 (s1.trans s2) (sr1.add s2 hD dk LY.lst nt2) (s1.none hD) dk nt2 (r2.mv (.anti va2 λa z=>by
   rcases z with (z|z)|z
   ·exact .inl (.inl z)
   ·exact .inr z
   ·exact .inl (.inr z))) h2
structure ZO (X:Cx) (tg elt:Expr) (ifs:List Expr) (scope:Scope) (own:Nat) (ix:List Nat) (N:List Str) (g:AG) (t:AT) (te:AE):Prop where
 ex:∃g' t' te',LV X tg elt ifs scope own ix N g' t' te'/\Jq X.K g' g/\Mj X.K t' t/\GD X.K te' te
theorem DA {tg elt iter:Expr} {ifs:List Expr} {scope:Scope} {own:Nat} {ix:List Nat} {N:List Str} {g:AG} {t:AT} {s:Bool} {ai:AI} (hc:X.calm=true) (hi:SI X tg iter s ai) (O:ZO X tg elt ifs scope own ix N g t ta) (hs:∀x,foldedSetIterable iter X.env x=pure x:=by intro _;rfl):
 SF X (.ListComp elt [⟨tg,iter,ifs,0⟩] scope pos) (Cv ai own ix g t ta):=by
 obtain ⟨wi,pi,si⟩:=hi
 obtain ⟨g',t',te',O,sg,st,se⟩:=O.ex
 exact ⟨_,fC hc pi O hs,Os si sg st se⟩
theorem O0 {i:Nat} {x:Str} {pos' spos:Pos} {tg elt iter:Expr} {ifs:List Expr} {scope:Scope} {own:Nat} {ix:List Nat} {N:List Str} {g:AG} {t:AT} {s:Bool} {ai:AI} (hc:X.calm=true) (hN:X.N.Nodup) (UK:X.N[i]? =some x) (hx:Loc X.env.scope x) (hi:SI X tg iter s ai) (O:ZO X tg elt ifs scope own ix N g t ta)
 (mU:swapsWith (.ListComp elt [⟨tg,iter,ifs,0⟩] scope pos) (some (.Name x pos')) spos.line X.env=pure true:=by rfl) (hs:∀x,foldedSetIterable iter X.env x=pure x:=by intro _;rfl)
 (hf:X.fn x=true\/X.env.scope.names.lookup x=some .local:=by first | exact .inl rfl|exact .inr rfl|assumption):
 SS X (.Assign [.Name x pos'] (.ListComp elt [⟨tg,iter,ifs,0⟩] scope pos) spos) (Ao (FZ (Cv ai own ix g t ta)) (Au i)):=by
 obtain ⟨wi,pi,si⟩:=hi
 obtain ⟨g',t',te',O,sg,st,se⟩:=O.ex
 exact ⟨_,fM hc hN UK hx pi O mU hs hf,Si (cF (Os si sg st se)) Sk⟩
end
def L3 (N:Nat) (xs:List PV):BE:=xs.map (λx=>some (.val x))++List.replicate (N-xs.length) none
def A0 (N:Nat) (b:AS):AF:=λxs Q=>b {nx:=λ_=>Q .non,rt:=Q,bk:=λ_=>False,ct:=λ_=>False} (L3 N xs)
theorem cP {K:PySem.W.Frag} {T M:Addr->Prop} {H:Hp} {N:List Str} {vs:List V} {xs:List PV} (va:G0 T M H) (mt':∀a,M a->¬T a) (r:A6 K T M H vs xs):SR K ⟨T,H,M⟩ T H (start N vs) (L3 N.length xs):=by
 have no:∀(j:Nat) (ys:List PV),(L3 N.length xs)[j]? ≠some (some (.own ys)):=λj ys h=>by
  unfold L3 at h
  by_cases hj:j<xs.length
  ·rw [List.getElem?_append_left (by simpa using hj),List.getElem?_map,List.getElem?_eq_getElem hj] at h
   cases h
  ·rw [List.getElem?_append_right (by simpa using hj),List.getElem?_replicate] at h
   split at h <;> cases h
 refine ⟨by simp [L2.start,L3,r.length],λj x h=> ?_,λj ys h=>absurd h (no j ys),λj k ys zs p h=>absurd h (no j ys),va.tp,va.mu,mt', .refl va.tp⟩
 unfold L3 at h
 by_cases hj:j<xs.length
 ·rw [List.getElem?_append_left (by simpa using hj),List.getElem?_map,List.getElem?_eq_getElem hj] at h
  cases h
  obtain ⟨v,hv,rv⟩:=r.get (List.getElem?_eq_getElem hj)
  refine ⟨v, ?_,rv.mv (.anti va λa m=>m.elim id λ⟨_,_,z,_⟩=>absurd z (no _ _))⟩
  unfold L2.start
  rw [List.getElem?_append_left (by rw [List.length_map,r.length];exact hj),List.getElem?_map,hv]
  rfl
 ·rw [List.getElem?_append_right (by simpa using hj),List.getElem?_replicate] at h
  split at h <;> cases h
section
variable {P:Program} {w:World} {K:PySem.W.Frag} {mg:Str->Option Value} {base:Heap}
theorem Ae {x qual:Str} {st:Stmt} {f:Addr} {fd:FuncData} {N ps:List Str} {k n:Nat} {b:AS} (F:DE K x qual st f fd) (S:Aa N ps (AU st)) (hn:n=ps.length)
 (UG:∀(cdv:Value) (A:Around) (outer:List Env) (s:Shared) (H:Hp) (E:XK),Room k (A.deeper (envOfC qual (AU st) s.heap.objs.size f cdv))->
   dF (VV DB P w K mg base N qual (AU st) f cdv A outer s H E).nox (Eb st) b):A8 P w K mg base DB (k+1) f fd ps (BY K n (A0 N.length b)):=by
 refine F.ok S (λvs H Q E h=> ?_) (λcdv A outer s H vs Q E hr h=> ?_)
 ·obtain ⟨T,M,xs,AQ,_,_,r,hl,_⟩:=h
  rw [r.length,hl,hn]
 ·obtain ⟨T,M,xs,AQ,va,mt',r,hl,hF,hQ⟩:=h
  obtain ⟨t,p,sm⟩:=UG cdv A outer s H E hr
  refine ⟨t,p,sm ⟨T,H,M⟩ T _ _ H _ _ (cP va mt' r) hF ⟨λT' H' σ' τ' _ sr q=> ?_,λ_ _ _ _ _ _ q=>q.elim,λ_ _ _ _ _ _ q=>q.elim,λv x T' H' s' r' q=>hQ v x T' H' s' r' q⟩⟩
  exact hQ _ _ T' H' sr.st .non q
end
end PL
end
section
namespace PL
open PySem PySem.Spec PyProof.Rows L2
section
variable {X:Cx}
theorem Zs {prog:Program} {w:World} {A:Around} {E:Value->Shared->Prop} {s:Shared} {t b:Addr} {ws:List Value} {Q:Value->Shared->Prop} (ht:IsTup s.heap t #[]) (hb:IsTup s.heap b ws.toArray) (h0:Q (.ref b) s):wpAny (model prog w) A (binaryOp .Add (.ref t) (.ref b)) Q E s:=by
 obtain ⟨⟨cls,dd,data,sl⟩,ho,hc,n,hd⟩:=id ht
 obtain ⟨⟨cls2,dd2,data2,sl2⟩,jC,Mq,n2,mD⟩:=id hb
 simp only at hc hd Mq mD
 subst hc hd Mq mD
 exact concat_meets ⟨_,ho,rfl⟩ ⟨_,jC,rfl⟩ noFill_tuple_add seq_tuple_add PySem.F.slot_tuple_add PySem.F.entry_tuple_add (PySem.F.args_tuple_add_2 _ _)
  (tuple_addW0 t b #[] ws.toArray n n2 dd dd2 sl sl2 (by simp)) ⟨ho,jC,h0⟩
def bO (K:PySem.W.Frag):R2:=λx y H Q=>∃a b ys,x= .ref a/\y= .ref b/\Jr K H a [] /\Jr K H b ys/\Q (.ref b) H
theorem aq:Eo X (binaryOp .Add) (bO X.K):=by
 intro pins s σ H x y v u Q I rx ry h
 obtain ⟨a,b,ys,rfl,rfl,ha,hb,q⟩:=h
 cases rx
 cases ry
 obtain ⟨its,r1,p1,_⟩:=I.tuple ha
 obtain ⟨its2,r2,p2,_⟩:=I.tuple hb
 cases r1
 exact Zs p1 p2 ⟨.ref b,H,I,rfl,q⟩
def hG (K:PySem.W.Frag):R2:=λx y H Q=>((Qe (λi j=>V.int (i+j)) x y H Q\/nO x y H Q)\/hI K x y H Q)\/bO K x y H Q
def BJ:JW:=λx y Q=>match x,y with
 | .int i, .int j=>Q (.int (i+j))
 | .lst xs, .lst ys=>xs.length+ys.length<=sizeLine/\Q (.lst (xs++ys))
 | .tup xs, .tup ys=>xs.length+ys.length<=sizeLine/\Q (.tup (xs++ys))
 | _,_=>False
theorem Ay:Eo X (binaryOp .Add) (hG X.K)/\CZ X.K (hG X.K) BJ:=by
 refine ⟨((JN.or jm).or e6).or aq,λT M H u v x y Q AQ va ru rv h k=> ?_⟩
 unfold BJ at h
 split at h <;> first | exact h.elim|skip
 ·exact .inl (.inl (.inl ⟨_,_,ru.toI,rv.toI,k _ _ T H (.refl va.tp) (.int _) h⟩))
 ·obtain ⟨a,vs,rfl,hq,nt,nm,rs⟩:=Dz ru
  obtain ⟨b,ws,rfl,Re,nt2,nm2,rs2⟩:=Dz rv
  refine .inl (.inl (.inr ⟨a,b,vs,ws,rfl,rfl,hq,Re,by rw [rs.length,rs2.length];exact h.1,λp hp=> ?_⟩))
  have st:=Dm.lay (o:= .lst (vs++ws)) va.tp hp
  have np:¬T p:=λz=>by obtain ⟨o,e,_⟩:=(va.tp p z).mut;rw [hp] at e;cases e
  have nq:¬M p:=λz=>by obtain ⟨o,e,_⟩:=va.mu p z;rw [hp] at e;cases e
  exact k _ _ T _ st (.lst Aj np nq ((rs.append rs2).stp st va)) h.2
 ·obtain ⟨a,vs,rfl,hq,rs⟩:=DI ru
  obtain ⟨b,ws,rfl,Re,rs2⟩:=DI rv
  by_cases e:vs= []
  ·subst e
   cases rs
   exact .inr ⟨a,b,ws,rfl,rfl,hq,Re,k _ _ T H (.refl va.tp) rv (by simpa using h.2)⟩
  ·refine .inl (.inr ⟨a,b,vs,ws,rfl,rfl,hq,Re,e,by rw [rs.length,rs2.length];exact h.1,λz=> ?_,λz p hp=> ?_⟩)
   ·subst z
    cases rs2
    exact k _ _ T H (.refl va.tp) ru (by simpa using h.2)
   ·have st:=Dm.lay (o:= .tup (vs++ws)) va.tp hp
    exact k _ _ T _ st (.tup (.inl Aj) ((rs.append rs2).stp st va)) h.2
theorem IC {prog:Program} {w:World} {A:Around} {E:Value->Shared->Prop} {s:Shared} {t sl:Addr} {items:Array Value} {vl vu:Value} {lo hi:Option Int} {Q:Value->Shared->Prop} (ht:IsTup s.heap t items) (hs:s.heap.IsSliceOf sl vl vu .none) (pl:IsPart vl lo) (pu:IsPart vu hi)
 (hw:HT.sIx items.size 0 lo=0/\HT.sIx items.size items.size hi=items.size)
 (h:Q (.ref t) s):wpAny (model prog w) A (getItem (.ref t) (.ref sl)) Q E s:=by
 obtain ⟨os,jE,oZ,mI⟩:=id hs
 have p7:s.TypeIs (.ref sl) "slice" :=⟨os,jE,oZ⟩
 obtain ⟨ot,xb,xX,nt,xY⟩:=id ht
 unfold getItem
 try with_reducible refine wpAny_holding ?_
 first | refine wpAny_bind (wpAny_pure ?_)|skip
 refine wpAny_bind (wpAny_sequenceKey ht.typeIs (by decide) ?_)
 refine wpAny_bind (wpAny_callSpecial?_slot (name:=Str.ofString "__getitem__") ht.typeIs PyProof.Rows.slot_tuple_getitem
  (wpAny_call_entry PyProof.Rows.slot_tuple_getitem ht.typeIs entry_tuple_getitem ?_ (args_tuple_getitem _ _)))
 show wpAny _ _ (Builtin.Tuple.tupleItemsOf (.ref t) >>= _) _ _ s
 refine wpAny_bind (tupleItemsOf_ ht ?_)
 refine wpAny_bind (wpAny_typeOf p7 ?_)
 rw [if_pos (by decide)]
 refine wpAny_bind (HT.sliceApplied_gen hs pl pu ?_)
 have qT:((((HT.sIx items.size 0 lo:Nat):Int)==0&&(1:Int)==1&&(HT.sIx items.size items.size hi-HT.sIx items.size 0 lo)==items.size)=true):=by
  rw [hw.1,hw.2]
  simp
 show wpAny _ _ (if (((HT.sIx items.size 0 lo:Nat):Int)==0&&(1:Int)==1&&(HT.sIx items.size items.size hi-HT.sIx items.size 0 lo)==items.size)=true then _ else _) _ _ s
 rw [if_pos qT]
 unfold Builtin.Tuple.tupleIsExact
 simp only [bind_assoc,pure_bind]
 refine wpAny_bind (wpAny_typeOf ht.typeIs ?_)
 rw [if_pos (by decide)]
 exact wpAny_bind (wpAny_rule (wpAny_pure ⟨_,rfl,wpAny_pure h⟩))
def qf (K:PySem.W.Frag):V->Option Int->Option Int->Hp->VK->Prop:=λx lo hi H Q=>∃a xs,x= .ref a/\Jr K H a xs/\
 (HT.sIx xs.length 0 lo=0/\HT.sIx xs.length xs.length hi=xs.length)/\Q (.ref a) H
theorem fx:gT X (qf X.K):=by
 intro pins s σ H x v vl vu lo hi sl Q I rx hs pl pu h
 obtain ⟨a,xs,rfl,hx,hw,q⟩:=h
 cases rx
 obtain ⟨its,r,ht,hz⟩:=I.tuple hx
 have DH:its.toArray.size=xs.length:=by rw [List.size_toArray];exact r.length.symm
 refine ⟨"tuple",_,PyProof.Rows.slot_tuple_getitem.lookup,ht.typeIs, ?_⟩
 exact IC ht hs pl pu (by rw [DH];exact hw) ⟨.ref a,H,I,rfl,q⟩
def IB (xs:List PV) (lo hi:Option Int):List PV:=(xs.drop (HT.sIx xs.length 0 lo)).take (HT.sIx xs.length xs.length hi-HT.sIx xs.length 0 lo)
theorem Wq {K:PySem.W.Frag} {T M:Addr->Prop} {H:Hp} {vs:List V} {xs:List PV} (r:A6 K T M H vs xs) (lo hi:Option Int):A6 K T M H (Pg vs lo hi) (IB xs lo hi):=by
 unfold Pg IB
 rw [r.length]
 exact (r.drop _).take _
abbrev AO:=BE->(Option Int->Prop)->Prop
def pS (K:PySem.W.Frag) (t:TO) (a:AO):Prop:=∀(B:DD) (T:Addr->Prop) (σ:L2.St) (τ:BE) (H:Hp) (Q:Option Int->Hp->Prop) (AQ:Option Int->Prop),SR K B T H σ τ->a τ AQ->
 (∀o T' H',Dm T H T' H'->AQ o->Q o H')->t σ H Q
def SO (X:Cx) (e:Option Expr) (a:AO):Prop:=∃t,PO X e t/\pS X.K t a
def Wg:AO:=λ_ Q=>Q none
def Wh (ta:AE):AO:=λτ Q=>ta τ λx=>ao x λi=>Q (some i)
theorem ZF:SO X none Wg:=⟨_,fK,λB T σ τ H Q AQ sr h k=>k _ T H (.refl sr.tp) h⟩
theorem ZG {e:Expr} {ta:AE} (h:SE X e ta):SO X (some e) (Wh ta):=by
 obtain ⟨t,p,s⟩:=h
 refine ⟨_,fL p,λB T σ τ H Q AQ sr h k=>s B T σ τ H _ _ sr h λv x T1 H1 s1 r1 h1=> ?_⟩
 obtain ⟨i,rfl,q⟩:=R5 h1
 exact ⟨i,r1.toI,k _ T1 H1 s1 q⟩
@[irreducible] def VY (x:PV) (lo hi:Option Int) (Q:PV->Prop):Prop:=match x with | .tup xs=>Q (.tup (IB xs lo hi)) | .lst xs=>Q (.lst (IB xs lo hi))|_=>False
theorem GZ {xs:List PV} {lo hi:Option Int} {Q:PV->Prop} (h:Q (.tup (IB xs lo hi))):VY (.tup xs) lo hi Q:=by unfold VY;exact h
theorem Ek {xs:List PV} {lo hi:Option Int} {Q:PV->Prop} (h:Q (.lst (IB xs lo hi))):VY (.lst xs) lo hi Q:=by unfold VY;exact h
def We (ta:AE) (l h:AO):AE:=λτ Q=>ta τ λx=>l τ λlo=>h τ λhi=>VY x lo hi Q
theorem Gw {e:Expr} {lo hi:Option Expr} {p2 pos:Pos} {ta:AE} {l h:AO} (he:SE X e ta) (hl:SO X lo l) (hh:SO X hi h):SE X (.Subscript e (.Slice lo hi none p2) pos) (We ta l h):=by
 obtain ⟨t,p,s⟩:=he
 obtain ⟨t1,p1,s1'⟩:=hl
 obtain ⟨t2,p2',s2'⟩:=hh
 refine ⟨_,bF ((fu.or kM).or fx) p p1 p2',λB T σ τ H Q AQ sr h k=>s B T σ τ H _ _ sr h λv x T1 H1 s1 r1 h1=> ?_⟩
 refine s1' B T1 σ τ H1 _ _ (sr.stp s1) h1 λlo T2 H2 s2 h2=> ?_
 refine s2' B T2 σ τ H2 _ _ ((sr.stp s1).stp s2) h2 λhi T3 H3 s3 h3=> ?_
 have sr3:=((sr.stp s1).stp s2).stp s3
 have r3:=(r1.stp s2 (sr.stp s1).va).stp s3 ((sr.stp s1).stp s2).va
 have s123:=(s1.trans s2).trans s3
 unfold VY at h3
 split at h3 <;> first | exact h3.elim|skip
 ·obtain ⟨a,vs,rfl,hq,rs⟩:=DI r3
  by_cases hw:HT.sIx vs.length 0 lo=0/\HT.sIx vs.length vs.length hi=vs.length
  ·refine .inr ⟨a,vs,rfl,hq,hw,k _ _ T3 H3 s123 r3 ?_⟩
   rename_i xs
   have:IB xs lo hi=xs:=by
    unfold IB
    rw [<-rs.length,hw.1,hw.2,rs.length]
    simp
   rw [this] at h3
   exact h3
  ·refine .inl (.inr ⟨a,vs,rfl,hq,hw,λq Rc=> ?_⟩)
   have st:=Dm.lay (o:= .tup (Pg vs lo hi)) sr3.tp Rc
   exact k _ _ T3 _ (s123.trans st) (.tup (.inl Aj) ((Wq rs lo hi).stp st sr3.va)) h3
 ·obtain ⟨a,vs,rfl,hq,nt,nm,rs⟩:=Dz r3
  refine .inl (.inl ⟨a,vs,rfl, .inl (.inl hq),λq Rc=> ?_⟩)
  have st:=Dm.lay (o:= .lst (Pg vs lo hi)) sr3.tp Rc
  have np:¬T3 q:=λz=>by obtain ⟨o,e,_⟩:=(sr3.tp q z).mut;rw [Rc] at e;cases e
  have nq:¬mt B σ τ q:=λz=>by obtain ⟨o,e,_⟩:=sr3.va.mu q z;rw [Rc] at e;cases e
  exact k _ _ T3 _ (s123.trans st) (.lst Aj np nq ((Wq rs lo hi).stp st sr3.va)) h3
end
def BU:AF:=λxs Q=>match xs with | [.tape, .int m] =>(0<m/\m<4611686018427387904)/\∀r,0<=r->r<m->Q (.int r)|_=>False
def Nx:AF:=λxs Q=>match xs with | [.scr ns, .int k] =>(0<=k/\k<=1000)/\Q .tape|_=>False
end PL
end
section
namespace PL
open PySem PySem.Spec PyProof.Rows L2
def lZ (g:TG):Prop:=∀v σ H Q Q',(∀σ2 H2,Q σ2 H2->Q' σ2 H2)->g v σ H Q->g v σ H Q'
def iK (g:VE):Prop:=∀v σ H Q Q',(∀σ2 H2,Q σ2 H2->Q' σ2 H2)->g v σ H Q->g v σ H Q'
def SK (own:Nat) (X:Cx) (tg:Expr) (ag:AG):Prop:=∃g,PG X tg g/\Jq X.K g ag/\HD own g/\lZ g
def oU (own:Nat) (X:Cx) (tg:List Expr) (ag:U6):Prop:=∃g,kq X tg g/\QI X.K g ag/\Nz own g/\iK g
section
variable {X:Cx} {pos:Pos} {own:Nat}
theorem Xb {i:Nat} {x:Str} (hN:X.N.Nodup) (hi:X.N[i]? =some x) (hx:Loc X.env.scope x) (hk:i<own) (hf:X.fn x=true\/X.env.scope.names.lookup x=some .local:=by first | exact .inl rfl|exact .inr rfl|assumption):SK own X (.Name x pos) (Au i):=
 ⟨_,KJ hN hi hx hf,Sk,de hk,dg⟩
theorem NO:oU own X [] CJ:=⟨_,SD,Ut,df,dh⟩
theorem EQ {e:Expr} {es:List Expr} {ag:AG} {ags:U6} (h1:SK own X e ag) (h2:oU own X es ags) (hs:(assignEach (e::es) X.env).map (·.2)=assign e X.env::(assignEach es X.env).map (·.2):=by rfl):oU own X (e::es) (Ai ag ags):=
 let ⟨_,p,s,k,m⟩:=h1;let ⟨_,p',s',k',m'⟩:=h2;⟨_,HP p p' hs,Qq s s',Z8 k m k' m',Z9 m m'⟩
end
def iy (K:PySem.W.Frag) (own:Nat) (ag:AG):TG:=λv σ H Q=>∃(B:DD) (T:Addr->Prop) (τ:BE) (x:PV) (AQ:BE->Prop),SR K B T H σ τ/\CT K T (mt B σ τ) H v x/\ag x τ AQ/\
 ∀σ' τ',SR K B T H σ' τ'->(∀b,DP σ' τ' b->DP σ τ b)->AQ τ'->(σ'.length=σ.length/\∀j,own<=j->σ'[j]? =σ[j]?)->Q σ' H
def lF (K:PySem.W.Frag) (a:AT):TT:=λσ H Q=>∃(B:DD) (T:Addr->Prop) (τ:BE) (AQ:Bool->Prop),SR K B T H σ τ/\a τ AQ/\∀b T' H',Dm T H T' H'->AQ b->Q b H'
def ku (K:PySem.W.Frag) (a:AE):TE:=λσ H Q=>∃(B:DD) (T:Addr->Prop) (τ:BE) (AQ:PV->Prop),SR K B T H σ τ/\a τ AQ/\∀v x T' H',Dm T H T' H'->CT K T' (mt B σ τ) H' v x->AQ x->Q v H'
theorem NM {K:PySem.W.Frag} {own:Nat} {ag:AG}:Jq K (iy K own ag) ag:=λB T σ τ H v x Q AQ sr r h k=>⟨B,T,τ,x,AQ,sr,r,h,λσ' τ' s o q _=>k σ' τ' s o q⟩
theorem J9 {K:PySem.W.Frag} {own:Nat} {ag:AG}:HD own (iy K own ag):=λv σ H Q ⟨B,T,τ,x,AQ,sr,r,h,k⟩=>⟨B,T,τ,x,AQ,sr,r,h,λσ' τ' s o q z=>⟨k σ' τ' s o q z,z⟩⟩
theorem NN {K:PySem.W.Frag} {a:AT}:Mj K (lF K a) a:=λB T σ τ H Q AQ sr h k=>⟨B,T,τ,AQ,sr,h,k⟩
theorem Sj {K:PySem.W.Frag} {a:AE}:GD K (ku K a) a:=λB T σ τ H Q AQ sr h k=>⟨B,T,τ,AQ,sr,h,k⟩
section
variable {X:Cx}
theorem SK.of {own:Nat} {tg:Expr} {ag:AG} (h:SK own X tg ag):PG X tg (iy X.K own ag):=by
 obtain ⟨g,p,s,k,m⟩:=h
 intro pins sh σ H v u Q I r hw
 obtain ⟨B,T,τ,x,AQ,sr,rx,h,c⟩:=hw
 have h1:g v σ H λσ' H'=>H'=H/\∃τ',SR X.K B T H σ' τ'/\(∀b,DP σ' τ' b->DP σ τ b)/\AQ τ':=s B T σ τ H v x _ AQ sr rx h λσ' τ' s o q=>⟨rfl,τ',s,o,q⟩
 have h2:=k v σ H _ h1
 refine p pins sh σ H v u Q I r (m v σ H _ _ (λσ2 H2 q=> ?_) h2)
 obtain ⟨⟨rfl,τ',s',o',q'⟩,z⟩:=q
 exact c σ2 τ' s' o' q' z
theorem gS.of {ifs:List Expr} {a:AT} (h:gS X ifs a):Wb X ifs (lF X.K a):=by
 obtain ⟨t,p,s⟩:=h
 intro pins sh σ H Q I hw
 obtain ⟨B,T,τ,AQ,sr,h,c⟩:=hw
 exact p pins sh σ H Q I (s B T σ τ H Q AQ sr h c)
theorem SE.of {e:Expr} {a:AE} (h:SE X e a):PE X e (ku X.K a):=by
 obtain ⟨t,p,s⟩:=h
 intro pins sh σ H Q I hw
 obtain ⟨B,T,τ,AQ,sr,h,c⟩:=hw
 exact p pins sh σ H Q I (s B T σ τ H Q AQ sr h c)
theorem DG {tg elt:Expr} {ifs:List Expr} {scope:Scope} {own:Nat} {ix:List Nat} {N:List Str} {g:AG} {t:AT} {te:AE} (h1:scope.kind= .function) (h2:(scope.names.all λy=> !decide (y.2= .cell))=true) (h3:(scope.names.all λy=> !decide (y.2= .local)||decide (scope.names.lookup y.1=some .local))=true)
 (h4:(scope.names.all λy=> !decide (y.2= .free)||decide (X.env.scope.names.lookup y.1=some .cell))=true) (h5:N.length=own+ix.length) (h6:OB X (relabel scope X.env) own ix N=true)
 (tgt:∀cl C s H ex pn,SK own (blk X (relabel scope X.env) N cl C s H ex pn) tg g)
 (tst:∀cl C s H ex pn,gS (blk X (relabel scope X.env) N cl C s H ex pn) ifs t)
 (val:∀cl C s H ex pn,SE (blk X (relabel scope X.env) N cl C s H ex pn) elt te):ZO X tg elt ifs scope own ix N g t te:=
 ⟨iy X.K own g,lF X.K t,ku X.K te,Wo h1 h2 h3 h4 h5 h6 J9 (λcl C s H ex pn=>(tgt cl C s H ex pn).of) (λcl C s H ex pn=>(tst cl C s H ex pn).of) (λcl C s H ex pn=>(val cl C s H ex pn).of),NM,NN,Sj⟩
end
end PL
end
section
namespace PL
open PySem PySem.Spec PyProof.Rows L2
mutual
def pd:PV->PyData
 | .bl b=> .bool b
 | .int i=> .int i
 | .str x=> .str x
 | .tup xs=> .tuple (SB xs)
 | .lst xs=> .list (SB xs)
 | _=> .none
def SB:List PV->List PyData
 | [] => []
 | x::xs=>pd x::SB xs
end
mutual
def FG:Nat->PV->Bool
 | _, .non=>true
 | _, .bl _=>true
 | _, .int _=>true
 | _, .str x=>PyData.strOk x
 | n+1, .tup xs=>Lp n xs
 | n+1, .lst xs=>Lp n xs
 | _,_=>false
def Lp:Nat->List PV->Bool
 | _, [] =>true
 | n,x::xs=>FG n x&&Lp n xs
end
mutual
theorem KH:∀(n:Nat) (x:PV),FG n x=true->(pd x).canLay0=true/\(pd x).depth<=n/\(pd x).hasDict=false
 | n, .non,_=>⟨rfl,Nat.zero_le _,rfl⟩
 | n, .bl _,_=>⟨rfl,Nat.zero_le _,rfl⟩
 | n, .int _,_=>⟨rfl,Nat.zero_le _,rfl⟩
 | n, .str x,h=>⟨by simpa [pd,PyData.canLay0,FG] using h,Nat.zero_le _,rfl⟩
 | 0, .tup xs,h=>by simp [FG] at h
 | 0, .lst xs,h=>by simp [FG] at h
 | n+1, .tup xs,h=>by
   obtain ⟨a,b,c⟩:=OP n xs (by simpa [FG] using h)
   exact ⟨by simpa [pd,PyData.canLay0] using a,by simpa [pd,PyData.depth] using b,by simpa [pd,PyData.hasDict] using c⟩
 | n+1, .lst xs,h=>by
   obtain ⟨a,b,c⟩:=OP n xs (by simpa [FG] using h)
   exact ⟨by simpa [pd,PyData.canLay0] using a,by simpa [pd,PyData.depth] using b,by simpa [pd,PyData.hasDict] using c⟩
 | n, .tape,h=>by simp [FG] at h
 | n, .scr _,h=>by simp [FG] at h
 | n, .ty _,h=>by simp [FG] at h
theorem OP:∀(n:Nat) (xs:List PV),Lp n xs=true->PyData.canLayAll0 (SB xs)=true/\PyData.depthAll (SB xs)<=n/\PyData.hasDictAll (SB xs)=false
 | n, [],_=>⟨rfl,Nat.zero_le _,rfl⟩
 | n,x::xs,h=>by
   simp only [Lp,Bool.and_eq_true] at h
   obtain ⟨a,b,c⟩:=KH n x h.1
   obtain ⟨a',b',c'⟩:=OP n xs h.2
   exact ⟨by simp [SB,PyData.canLayAll0,a,a'],by simp only [SB,PyData.depthAll];omega,by simp [SB,PyData.hasDictAll,c,c']⟩
end
section
variable {X:Cx} {pins:List (Addr×Obj)} {σ:L2.St} {H:Hp} {s:Shared}
mutual
theorem HS (I:Inv X pins σ H s) {T M:Addr->Prop}:∀(n:Nat) {x:PV} {v:V} {u:Value},CT X.K T M H v x->FG n x=true->RelV v u->∃as,Reads s.heap u (pd x) as
 | _,_,_,_, .non,_,r=>by cases r;exact ⟨_, .none⟩
 | _,_,_,_, .bl b,_,r=>by cases r;exact ⟨_, .bool b⟩
 | _,_,_,_, .int i,_,r=>by obtain ⟨t,rfl⟩:=r;exact ⟨_, .int i t⟩
 | _,_,_,_, .str x,_,r=>by obtain ⟨t,rfl⟩:=r;exact ⟨_, .str x t⟩
 | _,_,_,_, .ty n,h,r=>by simp [FG] at h
 | 0,_,_,_, .tup hq rs,h,r=>by simp [FG] at h
 | 0,_,_,_, .lst hq t m rs,h,r=>by simp [FG] at h
 | n+1,_,_,_, .tup hq rs,h,r=>by
   cases r
   obtain ⟨its,rv,⟨o,ho,hc,k,hd⟩,_⟩:=I.tuple hq.sq
   obtain ⟨as,ra⟩:=HR I n rs (by simpa [FG] using h) rv
   exact ⟨_, .tuple ho hc hd (by simpa using ra)⟩
 | n+1,_,_,_, .lst hq t m rs,h,r=>by
   cases r
   obtain ⟨its,rv,⟨o,k,ho,hc,_,hd⟩,_⟩:=I.list (F4.of hq)
   obtain ⟨as,ra⟩:=HR I n rs (by simpa [FG] using h) rv
   exact ⟨_, .list ho hc hd (by simpa using ra)⟩
 | _,_,_,_, .tape _,h,r=>by simp [FG] at h
 | _,_,_,_, .scr _,h,r=>by simp [FG] at h
theorem HR (I:Inv X pins σ H s) {T M:Addr->Prop}:∀(n:Nat) {xs:List PV} {vs:List V} {us:List Value},A6 X.K T M H vs xs->Lp n xs=true->Ax vs us->∃as,ReadsAll s.heap us (SB xs) as
 | _,_,_,_, .nil,_,r=>by cases r;exact ⟨_, .nil⟩
 | n,_,_,_, .cons h t,hk,r=>by
   simp only [Lp,Bool.and_eq_true] at hk
   cases r with
   | cons r rr=>
     obtain ⟨as,ra⟩:=HS I n h hk.1 r
     obtain ⟨bs,rb⟩:=HR I n t hk.2 rr
     exact ⟨_, .cons ra rb⟩
end
end
section
variable {X:Cx}
def l0 (x y:PV):Bool:=PyData.eqv (pd x) (pd y)
def fR (K:PySem.W.Frag) (neg:Bool):R2:=λu v H Q=>∃(T M:Addr->Prop) (x y:PV),CT K T M H u x/\CT K T M H v y/\FG 30 x=true/\FG 30 y=true/\Q (.bl (if neg then !l0 x y else l0 x y)) H
theorem jn {k:Nat} (hr:Room k X.A):Eo X (compareOp .Eq) (fR X.K false):=by
 intro pins s σ H u v uu vv Q I ru rv h
 obtain ⟨T,M,x,y,rx,ry,kx,ky,q⟩:=h
 obtain ⟨as,ra⟩:=HS I 30 rx kx ru
 obtain ⟨bs,rb⟩:=HS I 30 ry ky rv
 obtain ⟨a1,a2,_⟩:=KH 30 x kx
 obtain ⟨b1,b2,_⟩:=KH 30 y ky
 exact SeqAt.compareEq_reads ra rb a1 b1 (by have:=hr.un;omega) ⟨.bl _,H,I,rfl,q⟩
theorem jp {k:Nat} (hr:Room k X.A):Eo X (compareOp .NotEq) (fR X.K true):=by
 intro pins s σ H u v uu vv Q I ru rv h
 obtain ⟨T,M,x,y,rx,ry,kx,ky,q⟩:=h
 obtain ⟨as,ra⟩:=HS I 30 rx kx ru
 obtain ⟨bs,rb⟩:=HS I 30 ry ky rv
 obtain ⟨a1,a2,_⟩:=KH 30 x kx
 obtain ⟨b1,b2,_⟩:=KH 30 y ky
 exact SeqAt.compareNe_reads ra rb a1 b1 (by have:=hr.un;omega) ⟨.bl _,H,I,rfl,q⟩
def M6:JW:=λx y Q=>match XV x y with | some b=>Q (.bl b)|none=>(FG 30 x=true/\FG 30 y=true)/\Q (.bl (l0 x y))
def cm:JW:=λx y Q=>match XV x y with | some b=>Q (.bl (!b))|none=>(FG 30 x=true/\FG 30 y=true)/\Q (.bl (!l0 x y))
def nP (K:PySem.W.Frag):R2:=λx y H Q=>tj x y H Q\/fR K false x y H Q
def nV (K:PySem.W.Frag):R2:=λx y H Q=>tq x y H Q\/fR K true x y H Q
theorem Dy {k:Nat} (hr:Room k X.A):Eo X (compareOp .Eq) (nP X.K)/\CZ X.K (nP X.K) M6:=by
 refine ⟨nG.or (jn hr),λT M H u v x y Q AQ va ru rv h k=> ?_⟩
 unfold M6 at h
 split at h
 ·rename_i b e
  obtain ⟨h1,h2⟩:=Uq ru rv e
  refine .inl ⟨h1, ?_⟩
  rw [h2]
  exact k _ _ T H (.refl va.tp) (.bl _) h
 ·exact .inr ⟨T,M,x,y,ru,rv,h.1.1,h.1.2,k _ _ T H (.refl va.tp) (.bl _) h.2⟩
theorem Xd {k:Nat} (hr:Room k X.A):Eo X (compareOp .NotEq) (nV X.K)/\CZ X.K (nV X.K) cm:=by
 refine ⟨nH.or (jp hr),λT M H u v x y Q AQ va ru rv h k=> ?_⟩
 unfold cm at h
 split at h
 ·rename_i b e
  obtain ⟨h1,h2⟩:=Uq ru rv e
  refine .inl ⟨h1, ?_⟩
  rw [h2]
  exact k _ _ T H (.refl va.tp) (.bl _) h
 ·exact .inr ⟨T,M,x,y,ru,rv,h.1.1,h.1.2,k _ _ T H (.refl va.tp) (.bl _) h.2⟩
structure iS (x:PV):Prop where
 ok:FG 30 x=true
 sh:(pd x).showable=true
 sz:(pd x).shown.length<=sizeLine
end
end PL
end
section
namespace PL
open PySem PySem.Spec PyProof.Rows L2
section
variable {prog:Program} {w:World} {A:Around} {E:Value->Shared->Prop} {s:Shared}
theorem MK {h:Heap} {l:Addr} {items:Array Value} (hl:h.IsList l items) (o:Obj):(h.push o).IsList l items:=by
 obtain ⟨ob,e,r⟩:=hl
 exact ⟨ob,Heap.get?_push_of_some _ e,r⟩
theorem QW {it t:Addr} {items:Array Value} (QY:t≠it):∀(n i:Nat) (s:Shared) (Q:List Value->Shared->Prop),s.heap.IsListIter it t i->s.heap.IsList t items->i+n<=items.size->
 (∀h',h'.IsListIter it t (i+n)->Heap.SameBut it s.heap h'->Q ((items.toList.drop i).take n) {s with heap:=h'})->wpAny (model prog w) A (draw (.ref it) n) Q E s
 | 0,i,s,Q,hit,_,_,hQ=>by
   show wpAny _ _ (pure []) Q E s
   exact wpAny_pure (by simpa using hQ s.heap hit (Heap.SameBut.refl ..))
 | n+1,i,s,Q,hit,ht,YM,hQ=>by
   have EF:i<items.size:=by omega
   show wpAny _ _ (pyNext (.ref it) >>= _) Q E s
   refine wpAny_bind (wpAny_pyNext_list_item hit ht (x:=items[i]) (by simp [EF]) λh₁ hit₁ hs₁=> ?_)
   refine wpAny_bind (wpAny_holding (QW QY n (i+1) _ _ hit₁ (ht.extBut hs₁.extBut QY) (by omega) λh₂ hit₂ hs₂=>wpAny_pure ?_))
   have hd:items.toList.drop i=items[i] :: items.toList.drop (i+1):=by simp [List.drop_eq_getElem_cons,EF]
   have:=hQ h₂ (by rw [show i+(n+1)=i+1+n by omega];exact hit₂) (hs₁.trans hs₂)
   rw [hd,List.take_succ_cons] at this
   exact this
theorem L5 {t:Addr} {items:Array Value} {Q:List Value->Shared->Prop} (hh:A.handled=none) (ht:s.heap.IsList t items)
 (hQ:∀h',Heap.ExtBut s.heap.objs.size s.heap h'->Q items.toList {s with heap:=h'}):wpAny (model prog w) A (unpackItems (.ref t) items.size none) Q E s:=by
 have EF:t≠s.heap.objs.size:=by obtain ⟨o,ho,_⟩:=ht;exact Nat.ne_of_lt (Heap.lt_size ho)
 unfold unpackItems
 refine wpAny_bind ?_
 ·unfold notIterableAtAll
  refine wpAny_bind (wpAny_specialOf ht.typeIs slot_list_iter.lookup ?_)
  refine wpAny_pure ?_
  simp only [Bool.false_eq_true,if_false]
  refine wpAny_bind (wpAny_holding (wpAny_pyIter_list ht ?_))
  refine wpAny_bind (wpAny_holding (QW EF items.size 0 _ _ ⟨_,Heap.get?_push_size _ rfl,rfl,rfl⟩ (MK ht _) (by omega) λh₁ hit₁ hs₁=> ?_))
  have YJ:List.take items.size (List.drop 0 items.toList)=items.toList:=by
   rw [List.drop_zero];exact List.take_of_length_le (by simp)
  rw [YJ]
  rw [if_neg (by simp)]
  have ht₁:h₁.IsList t items:=(MK ht _).extBut hs₁.extBut EF
  refine wpAny_bind (wpAny_holding (wpAny_pyNext_list_end hh hit₁ ht₁ (by simp) λh₂ he₂=> ?_))
  simp only [Option.isSome_none,Bool.false_eq_true,if_false]
  refine wpAny_pure (hQ h₂ λb o hb e=>he₂ b o hb (hs₁.extBut b o hb (Heap.get?_push_of_some _ e)))
theorem Ju {env:Env} {elts:List Expr} {x1} {pos:Pos} {t:Addr} {items:Array Value} {Q:Unit->Shared->Prop} (hh:A.handled=none) (ht:s.heap.IsList t items)
 (hn:(assignEach elts env).length=items.size) (mS:(assignEach elts env).findIdx? (·.1)=none)
 (h:∀h',Heap.ExtBut s.heap.objs.size s.heap h'->wpAny (model prog w) A (assignInOrder ((assignEach elts env).map (·.2)) items.toList) Q E {s with heap:=h'}):
 wpAny (model prog w) A (assign (.Tuple elts x1 pos) env (.ref t)) Q E s:=by
 rw [assign_Tuple]
 refine wpAny_bind (wpAny_standAt ?_)
 unfold unpack
 rw [hn,mS]
 exact wpAny_bind (wpAny_holding (L5 hh ht h))
end
section
variable {X:Cx} {pos:Pos}
def YB (K:PySem.W.Frag) (n:Nat) (t:VE):TG:=λv σ H Q=>∃a xs,v= .ref a/\(Jr K H a xs\/F4 K H a xs)/\xs.length=n/\t xs σ H Q
theorem WA {es:List Expr} {k:Nat} {t:VE} {n:Nat} (hc:X.calm=true) (h:kq X es t)
 (hn:(assignEach es X.env).length=n:=by rfl) (Vk:(assignEach es X.env).findIdx? (·.1)=none:=by rfl):PG X (.Tuple es k pos) (YB X.K n t):=by
 intro pins s σ H v u Q I r hw
 obtain ⟨a,xs,e1,hq,hl,hw⟩:=hw
 subst e1
 cases r
 rcases hq with hq|hq
 ·obtain ⟨its,rv,ht,hz⟩:=I.tuple hq
  refine assign_Tuple_tuple (I.ok.hd hc) ht (by simp [hn,<-hl,rv.length]) Vk λh' hx=> ?_
  have I1:Inv X pins σ H {s with heap:=h'}:=I.kept (t':=s.toks) λb o e=>hx b o (Nat.ne_of_lt (Heap.lt_size e)) e
  exact h pins _ σ H xs _ Q I1 (by simpa using rv) hw
 ·obtain ⟨its,rv,ht,hz⟩:=I.list hq
  refine Ju (I.ok.hd hc) ht.isList (by simp [hn,<-hl,rv.length]) Vk λh' hx=> ?_
  have I1:Inv X pins σ H {s with heap:=h'}:=I.kept (t':=s.toks) λb o e=>hx b o (Nat.ne_of_lt (Heap.lt_size e)) e
  exact h pins _ σ H xs _ Q I1 (by simpa using rv) hw
def MD (n:Nat) (r:U6):AG:=λx τ Q=>S9 x λxs=>xs.length=n/\r xs τ Q
theorem cG {K:PySem.W.Frag} {n:Nat} {gs:VE} {ags:U6} (s:QI K gs ags):Jq K (YB K n gs) (MD n ags):=λB T σ τ H v x Q AQ sr r h k=>by
 obtain ⟨xs,hx,h⟩:=JM h
 rcases hx with rfl|rfl
 ·obtain ⟨p,vs,rfl,hq,r'⟩:=DI r
  exact ⟨p,vs,rfl, .inl hq,by rw [r'.length];exact h.1,s B T σ τ H vs _ Q AQ sr r' h.2 k⟩
 ·obtain ⟨p,vs,rfl,hq,nt,nm,r'⟩:=Dz r
  exact ⟨p,vs,rfl, .inr (.inl (.inl hq)),by rw [r'.length];exact h.1,s B T σ τ H vs _ Q AQ sr r' h.2 k⟩
theorem Dx {es:List Expr} {k:Nat} {ags:U6} {n:Nat} (hc:X.calm=true) (h:oT X es ags) (hn:(assignEach es X.env).length=n:=by rfl) (Vk:(assignEach es X.env).findIdx? (·.1)=none:=by rfl):SG X (.Tuple es k pos) (MD n ags):=
 let ⟨_,p,s⟩:=h;⟨_,WA hc p hn Vk,cG s⟩
theorem i3 {own:Nat} {K:PySem.W.Frag} {n:Nat} {t:VE} (h:Nz own t):HD own (YB K n t):=λv σ H Q ⟨a,xs,e,h1,h2,h3⟩=>⟨a,xs,e,h1,h2,h xs σ H Q h3⟩
theorem So {own:Nat} {es:List Expr} {k:Nat} {ags:U6} {n:Nat} (hc:X.calm=true) (h:oU own X es ags) (hn:(assignEach es X.env).length=n:=by rfl) (Vk:(assignEach es X.env).findIdx? (·.1)=none:=by rfl):SK own X (.Tuple es k pos) (MD n ags):=
 let ⟨_,p,s,kp,m⟩:=h;⟨_,WA hc p hn Vk,cG s,i3 kp,λv σ H Q Q' z ⟨a,xs,e,h1,h2,h3⟩=>⟨a,xs,e,h1,h2,m _ _ _ _ _ z h3⟩⟩
theorem jK:kr X .Mult (λx y H Q=>∃i j,x= .int i/\y= .int j/\MulOk i j/\Q (.int (i*j)) H):=by
 intro pins s σ H x y v u Q I r1 r2 h
 obtain ⟨i,j,e1,e2,c,q⟩:=h
 subst e1;subst e2
 obtain ⟨t,rfl⟩:=r1
 obtain ⟨t',rfl⟩:=r2
 exact AutoIntOps.imul_0 (show (Made.int (i*j)).post _ _ from ⟨.int _,H,I.tok _,⟨_,rfl⟩,q⟩) (.of_le (Hl c.l) (Hl c.r) (by decide))
theorem kJ:kr X .Mult (λx y H Q=>∃i j,x= .int i/\y= .int j/\MulOk i j/\Q (.int (i*j)) H)/\CZ X.K (λx y H Q=>∃i j,x= .int i/\y= .int j/\MulOk i j/\Q (.int (i*j)) H) C7:=⟨jK,λT M H u v x y Q AQ va ru rv h k=>by
 obtain ⟨i,j,rfl,rfl,c,q⟩:=ND h
 exact ⟨i,j,ru.toI,rv.toI,c,k _ _ T H (.refl va.tp) (.int _) q⟩⟩
end
end PL
end
section
namespace PL
open PySem PySem.Spec PyProof.Rows L2
theorem Ou {i:Int} (a:0<=i) (b:i<2147483647): -(2^64)<i/\i<2^64:=⟨by omega,by omega⟩
theorem vj (b:Bool):(0:Int)<=(if b=true then 1 else 0):=by cases b <;> decide
theorem sW (b:Bool): -(2^64)<(if b=true then (1:Int) else 0)/\(if b=true then (1:Int) else 0)<2^64:=by cases b <;> decide
theorem cV {T:Addr->Prop} {H:Hp} {p:Addr} {d x:Int} (tp:∀a,T a->Ey H a) (t:T p) (d0:0<=d) (x0:0<=x) (x1:x<2147483647):Dm T H T (upd H p (.lst [.int d, .int x])) where
 keep:=λb o n e=>by rw [Ah (λz=>n (by subst z;exact t))];exact e
 sub:=λ_ t=>t
 new:=λ_ t=> .inl t
 tp:=λa ta=>by
  by_cases z:a=p
  ·subst z;exact ⟨d,x,Aj,d0,x0,x1⟩
  ·obtain ⟨d',x',e,q⟩:=tp a ta
   exact ⟨d',x',by rw [Ah z];exact e,q⟩
theorem cU {T:Addr->Prop} {H:Hp} {p:Addr} {d x:Int} (tp:∀a,T a->Ey H a) (hp:H p=none) (d0:0<=d) (x0:0<=x) (x1:x<2147483647):Dm T H (λb=>T b\/b=p) (upd H p (.lst [.int d, .int x])) where
 keep:=λb o n e=>by rw [Ah (Av e hp)];exact e
 sub:=λ_ t=> .inl t
 new:=λb t=>t.elim .inl λz=> .inr (by subst z;exact hp)
 tp:=λa ta=>by
  by_cases z:a=p
  ·subst z;exact ⟨d,x,Aj,d0,x0,x1⟩
  ·rcases ta with ta|ta
   ·obtain ⟨d',x',e,q⟩:=tp a ta
    exact ⟨d',x',by rw [Ah z];exact e,q⟩
   ·exact absurd ta z
theorem law_sp {K:PySem.W.Frag} {H:Hp} {a:Addr} {ns:List Int} {F:AF} (hS:F4 K H a (ns.map V.int)) (h:F [.scr ns] λx=>x= .bl true):BY K 1 F [.ref a] H (λv _=>v= .bl true) λ_ _ _=>False:=by
 refine ⟨λ_=>False,λ_=>False, [.scr ns],_,⟨λ_ z=>z.elim,λ_ z=>z.elim⟩,λ_ z=>z.elim, .cons (.scr ?_) .nil,rfl,h,λv x T' H' _ r e=> ?_⟩
 ·rcases hS with h|h
  ·exact .inl ⟨h,id,id⟩
  ·exact .inr λH=> .inr h
 ·subst e;cases r;rfl
theorem GJ {g:AG} {b:AS} {D:G3} (Pv:List PV->BE->Prop) (hd:∀τ,Pv [] τ->D.nx τ)
 (hs:∀x r τ (R:BE->Prop),(∀τ,Pv r τ->R τ)->Pv (x::r) τ->g x τ λτ1=>b {D with nx:=R,ct:=R,bk:=D.nx} τ1):
 ∀xs τ,Pv xs τ->Cm g b D xs τ
 | [],τ,h=>hd τ h
 | x::r,τ,h=>hs x r τ _ (λτ2 h2=>GJ Pv hd hs r τ2 h2) h
theorem WW {c:AT} {b:AS} {D:G3} (Pv:Nat->BE->Prop) (h0:∀τ,¬Pv 0 τ)
 (hs:∀n τ (R:BE->Prop),(∀τ,Pv n τ->R τ)->Pv (n+1) τ->c (frz τ) λk=>if k=true then b {D with nx:=R,ct:=R,bk:=D.nx} τ else D.nx τ):
 ∀n τ,Pv n τ->U2 c b D n τ
 | 0,τ,h=>absurd h (h0 τ)
 | n+1,τ,h=>hs n τ _ (λτ2 h2=>WW Pv h0 hs n τ2 h2) h
theorem KO (lo:Int) (n:Nat):rng lo (n+1)= .int lo::rng (lo+1) n:=by
 unfold rng
 rw [List.range_succ_eq_map,List.map_cons,List.map_map]
 congr 1
 ·simp
 ·apply List.map_congr_left
  intro k _
  simp only [Function.comp]
  congr 1
  omega
theorem WE (lo:Int) (n:Nat):(rng lo n).length=n:=by simp [rng]
end PL
end
section
namespace PL
open PySem L2 PyProof.Rows
def fr (r:Rat):PV:= .tup [.int r.num, .int (r.den:Int)]
theorem E8 {b:Bool} {A B:Prop} (h1:b=true->A) (h2:b=false->B):if b=true then A else B:=by
 cases b with
 | true=>rw [if_pos rfl];exact h1 rfl
 | false=>rw [if_neg Bool.false_ne_true];exact h2 rfl
structure Bd (n:Nat) (r:Rat):Prop where
 top:r.num.natAbs<2^n
 bot:r.den<2^n
theorem Bd.botI {n:Nat} {r:Rat} (b:Bd n r):(r.den:Int).natAbs<2^n:=by simpa using b.bot
theorem OX {m n:Nat} (h:m<=n):2^m<=2^n:=Nat.pow_le_pow_right (by decide) h
theorem Bd.mono {m n:Nat} {r:Rat} (b:Bd m r) (h:m<=n):Bd n r:=⟨Nat.lt_of_lt_of_le b.top (OX h),Nat.lt_of_lt_of_le b.bot (OX h)⟩
theorem ab {a b m n:Nat} (ha:a<2^m) (hb:b<2^n):a*b<2^(m+n):=by
 rw [Nat.pow_add]
 exact Nat.mul_lt_mul_of_lt_of_le ha (Nat.le_of_lt hb) (Nat.pos_of_ne_zero (by intro z;rw [z] at hb;omega)) |> λh=>h
theorem BH {a b:Int} {m n:Nat} (ha:a.natAbs<2^m) (hb:b.natAbs<2^n):(a*b).natAbs<2^(m+n):=by
 rw [Int.natAbs_mul];exact ab ha hb
theorem RN {a b:Int} {n:Nat} (ha:a.natAbs<2^n) (hb:b.natAbs<2^n):(a+b).natAbs<2^(n+1):=by
 rw [Nat.pow_succ];omega
theorem Sy {a b:Int} {n:Nat} (ha:a.natAbs<2^n) (hb:b.natAbs<2^n):(a-b).natAbs<2^(n+1):=by
 rw [Nat.pow_succ];omega
theorem Ap {a m n:Nat} (h:a<2^m) (hm:m<=n):a<2^n:=Nat.lt_of_lt_of_le h (OX hm)
theorem MulOk.of {a b:Int} {m n:Nat} (ha:a.natAbs<2^m) (hb:b.natAbs<2^n) (hm:m<=1000000:=by omega) (hn:n<=1000000:=by omega):MulOk a b:=⟨Ap ha hm,Ap hb hn⟩
theorem VX (t b:Int):(Rat.divInt t b).num.natAbs<=t.natAbs:=by
 rw [Rat.num_divInt]
 by_cases h:b=0
 ·subst h;simp
 ·have e:(b.gcd t:Int) ∣ b.sign*t:=Int.dvd_trans (Int.gcd_dvd_right ..) (Int.dvd_mul_left ..)
  rw [Int.natAbs_ediv_of_dvd e,Int.natAbs_mul]
  refine Nat.le_trans (Nat.div_le_self _ _) ?_
  rw [Int.natAbs_sign_of_ne_zero h]
  omega
theorem VW (t b:Int) (h:b≠0):(Rat.divInt t b).den<=b.natAbs:=by
 rw [Rat.den_divInt,if_neg h]
 exact Nat.div_le_self _ _
theorem Bd.divInt {n:Nat} {t b:Int} (h:b≠0) (ht:t.natAbs<2^n) (hb:b.natAbs<2^n):Bd n (Rat.divInt t b):=
 ⟨Nat.lt_of_le_of_lt (VX t b) ht,Nat.lt_of_le_of_lt (VW t b h) hb⟩
theorem BX (a:Rat):(a.den:Int)≠0:=by have:=a.den_pos;omega
theorem GE (a b:Rat):a+b=Rat.divInt (a.num*b.den+b.num*a.den) (a.den*b.den):=by
 have h:=Rat.divInt_add_divInt a.num b.num (BX a) (BX b)
 rw [Rat.num_divInt_den,Rat.num_divInt_den] at h
 exact h
theorem JT (a b:Rat):a-b=Rat.divInt (a.num*b.den-b.num*a.den) (a.den*b.den):=by
 have h:=Rat.divInt_sub_divInt a.num b.num (BX a) (BX b)
 rw [Rat.num_divInt_den,Rat.num_divInt_den] at h
 exact h
theorem JK (a b:Rat):a*b=Rat.divInt (a.num*b.num) (a.den*b.den):=by
 have h:=Rat.divInt_mul_divInt a.num b.num (d₁:=a.den) (d₂:=b.den)
 rw [Rat.num_divInt_den,Rat.num_divInt_den] at h
 exact h
theorem GI (a b:Rat):a/b=Rat.divInt (a.num*b.den) (a.den*b.num):=by
 rw [Rat.div_def,Rat.inv_def]
 have h:=Rat.divInt_mul_divInt a.num b.den (d₁:=a.den) (d₂:=b.num)
 rw [Rat.num_divInt_den] at h
 exact h
theorem CM {a b:Int} (ha:a≠0) (hb:b≠0):a*b≠0:=Int.mul_ne_zero ha hb
theorem Rq {b:Rat} (h:b≠0):b.num≠0:=λz=>h (Rat.num_eq_zero.mp z)
theorem Bd.add {m n:Nat} {a b:Rat} (ha:Bd m a) (hb:Bd n b):Bd (m+n+1) (a+b):=by
 rw [GE]
 refine .divInt (CM (BX a) (BX b)) (RN (BH ha.top (by simpa using hb.bot)) ?_) ?_
 ·rw [Nat.add_comm m n];exact BH hb.top (by simpa using ha.bot)
 ·exact Ap (BH (by simpa using ha.bot) (by simpa using hb.bot)) (by omega)
theorem Bd.sub {m n:Nat} {a b:Rat} (ha:Bd m a) (hb:Bd n b):Bd (m+n+1) (a-b):=by
 rw [JT]
 refine .divInt (CM (BX a) (BX b)) (Sy (BH ha.top (by simpa using hb.bot)) ?_) ?_
 ·rw [Nat.add_comm m n];exact BH hb.top (by simpa using ha.bot)
 ·exact Ap (BH (by simpa using ha.bot) (by simpa using hb.bot)) (by omega)
theorem Bd.mul {m n:Nat} {a b:Rat} (ha:Bd m a) (hb:Bd n b):Bd (m+n) (a*b):=by
 rw [JK]
 exact .divInt (CM (BX a) (BX b)) (BH ha.top hb.top) (BH (by simpa using ha.bot) (by simpa using hb.bot))
theorem Bd.div {m n:Nat} {a b:Rat} (h:b≠0) (ha:Bd m a) (hb:Bd n b):Bd (m+n) (a/b):=by
 rw [GI]
 exact .divInt (CM (BX a) (Rq h)) (BH ha.top (by simpa using hb.bot)) (BH (by simpa using ha.bot) hb.top)
theorem Bd.neg {n:Nat} {a:Rat} (ha:Bd n a):Bd n (-a):=⟨by show (-a.num).natAbs<_;rw [Int.natAbs_neg];exact ha.top,ha.bot⟩
theorem Z1 (n:Int):fr (n:Rat)= .tup [.int n, .int 1] :=by simp [fr]
theorem Bd.int {n:Int} {k:Nat} (h:n.natAbs<2^k) (hk:1<=k):Bd k (n:Rat):=⟨by simpa using h,by simp;omega⟩
def ZK:AS:=
 (Ab (Lb (A5 (AX cm (aV 1) (aC (.int 0)))) (Pb 0 1 (AB (aV 1) (AB (AX YA (aV 0) (aV 1)) AL))))
   (Ar (aV 0)))
def G9:AF:=A0 2 ZK
theorem MC (x y:Nat) (Q:PV->Prop) (h:Q (.int (Nat.gcd x y:Nat))):G9 [.int x, .int y] Q:=by
 have go:∀y x:Nat,∀D:G3,D.nx [some (.val (.int (Nat.gcd x y:Nat))),some (.val (.int 0))] ->∃n,U2 (A5 (AX cm (aV 1) (aC (.int 0)))) (Pb 0 1 (AB (aV 1) (AB (AX YA (aV 0) (aV 1)) AL))) D n [some (.val (.int x)),some (.val (.int y))] :=by
  intro y
  induction y using Nat.strongRecOn with
  | _ y ih=>
    intro x D hD
    by_cases hy:y=0
    ·subst hy
     refine ⟨1, ?_⟩
     rw [Nat.gcd_zero_right] at hD
     exact hD
    ·obtain ⟨n,hn⟩:=ih (x % y) (Nat.mod_lt _ (by omega)) y D (by rw [Nat.gcd_comm y,<-Nat.gcd_rec,Nat.gcd_comm y];exact hD)
     refine ⟨n+1, ?_⟩
     refine E8 (b:= !decide ((y:Int)=0)) (λ_=> ?_) (λz=> ?_)
     ·have e2:(x:Int).fmod (y:Int)=((x % y:Nat):Int):=by
       rw [Int.fmod_eq_emod_of_nonneg _ (by omega)];simp
      refine ⟨by omega, ?_⟩
      rw [<-e2] at hn
      exact hn
     ·have:(y:Int)=0:=by simpa using z
      omega
 obtain ⟨n,hn⟩:=go y x {nx:=λτ=>Ar (aV 0) {nx:=λ_=>Q .non,rt:=Q,bk:=λ_=>False,ct:=λ_=>False} τ,rt:=Q,bk:=λ_=>False,ct:=λ_=>False} h
 exact ⟨n,hn⟩
def Xn:AS:=
 (Ab (Bz (A5 (AX Y8 (aV 1) (aC (.int 0)))) (Ao (N2 Fb (aV 2)) (Au 2)) BM)
   (Ar (A3 (AB (AX RQ (aV 0) (aV 2)) (AB (AX RQ (aV 1) (aV 2)) AL)))))
def iG:AS:=
 (Ab (Ao (AN 2 G9 (AB (EX RV (AB (aV 0) AL)) (AB (EX RV (AB (aV 1) AL)) AL))) (Au 2))
   Xn)
def HB:AF:=A0 3 iG
theorem az (t b:Int) (hb:b≠0):∀s:Int,s=(if b<0 then -(Nat.gcd t.natAbs b.natAbs:Int) else (Nat.gcd t.natAbs b.natAbs:Int))->s≠0/\t.fdiv s=(Rat.divInt t b).num/\b.fdiv s=((Rat.divInt t b).den:Int):=by
 intro s hs
 have g0:0<Nat.gcd t.natAbs b.natAbs:=Nat.gcd_pos_of_pos_right _ (by omega)
 have eg:b.gcd t=Nat.gcd t.natAbs b.natAbs:=by rw [Int.gcd_eq_natAbs_gcd_natAbs,Nat.gcd_comm]
 have d1:(Nat.gcd t.natAbs b.natAbs:Int) ∣ t:=by rw [<-Int.dvd_natAbs];exact Int.ofNat_dvd.mpr (Nat.gcd_dvd_left ..)
 have d2:(Nat.gcd t.natAbs b.natAbs:Int) ∣ b:=by rw [<-Int.dvd_natAbs];exact Int.ofNat_dvd.mpr (Nat.gcd_dvd_right ..)
 have d1':s ∣ t:=by rw [hs];split <;> first | exact Int.neg_dvd.mpr d1|exact d1
 have d2':s ∣ b:=by rw [hs];split <;> first | exact Int.neg_dvd.mpr d2|exact d2
 refine ⟨by rw [hs];split <;> omega, ?_, ?_⟩
 ·rw [Int.fdiv_eq_ediv_of_dvd d1',Rat.num_divInt,eg,hs]
  by_cases h:b<0
  ·rw [if_pos h,Int.sign_eq_neg_one_of_neg h,Int.ediv_neg]
   have:(-1:Int)*t= -t:=by omega
   rw [this,Int.neg_ediv_of_dvd d1]
  ·rw [if_neg h,Int.sign_eq_one_of_pos (by omega),Int.one_mul]
 ·rw [Int.fdiv_eq_ediv_of_dvd d2',Rat.den_divInt,if_neg hb,eg,hs]
  by_cases h:b<0
  ·rw [if_pos h,Int.ediv_neg]
   have:(b.natAbs:Int)= -b:=by omega
   rw [Int.natCast_ediv,this,Int.neg_ediv_of_dvd d2]
  ·rw [if_neg h]
   have:(b.natAbs:Int)=b:=by omega
   rw [Int.natCast_ediv,this]
theorem Fo (t b:Int) (hb:b≠0) (hB:b.natAbs<2^8900) (Q:PV->Prop) (h:Q (fr (Rat.divInt t b))):HB [.int t, .int b] Q:=by
 have g0:0<Nat.gcd t.natAbs b.natAbs:=Nat.gcd_pos_of_pos_right _ (by omega)
 have gl:Nat.gcd t.natAbs b.natAbs<2^8900:=Nat.lt_of_le_of_lt (Nat.le_of_dvd (by omega) (Nat.gcd_dvd_right ..)) hB
 obtain ⟨s0,e1,e2⟩:=az t b hb _ rfl
 refine ⟨rfl,MC _ _ _ ?_⟩
 refine E8 (b:=decide (b<0)) (λz=> ?_) (λz=> ?_)
 ·have z':b<0:=of_decide_eq_true z
  rw [if_pos z'] at s0 e1 e2
  refine ⟨⟨s0,by rw [Int.natAbs_neg];exact gl⟩,⟨s0,by rw [Int.natAbs_neg];exact gl⟩,(show 2<=sizeLine by decide), ?_⟩
  unfold fr at h
  rw [<-e1,<-e2] at h
  exact h
 ·have z':¬b<0:=of_decide_eq_false z
  rw [if_neg z'] at s0 e1 e2
  refine ⟨⟨s0,gl⟩,⟨s0,gl⟩,(show 2<=sizeLine by decide), ?_⟩
  unfold fr at h
  rw [<-e1,<-e2] at h
  exact h
theorem Bd.mt {n:Nat} {a b:Rat} (ha:Bd 4000 a) (hb:Bd 4000 b):MulOk a.num b.den/\MulOk b.num a.den/\MulOk a.den b.den/\MulOk a.num b.num/\MulOk a.den b.num:=
 ⟨.of ha.top (by simpa using hb.bot), .of hb.top (by simpa using ha.bot), .of (by simpa using ha.bot) (by simpa using hb.bot), .of ha.top hb.top, .of (by simpa using ha.bot) hb.top⟩
theorem QU {a b:Rat} (ha:Bd 4000 a) (hb:Bd 4000 b):((a.den:Int)*(b.den:Int)).natAbs<2^8900:=Ap (BH (a:=(a.den:Int)) (by simpa using ha.bot) (by simpa using hb.bot)) (by omega)
def iH:AS:=
 (Ar (AN 2 HB (AB (AX BJ (AX C7 (AX Ak (aV 0) (aC (.int 0))) (AX Ak (aV 1) (aC (.int 1)))) (AX C7 (AX Ak (aV 1) (aC (.int 0))) (AX Ak (aV 0) (aC (.int 1))))) (AB (AX C7 (AX Ak (aV 0) (aC (.int 1))) (AX Ak (aV 1) (aC (.int 1)))) AL))))
def Iy:AF:=A0 2 iH
theorem QG {a b:Rat} (ha:Bd 4000 a) (hb:Bd 4000 b) {Q:PV->Prop} (h:Q (fr (a+b))):Iy [fr a,fr b] Q:=by
 obtain ⟨m1,m2,m3,_⟩:=Bd.mt (n:=0) ha hb
 refine ⟨m1,m2,m3,rfl,Fo _ _ (CM (BX a) (BX b)) (QU ha hb) _ ?_⟩
 rw [GE] at h
 exact h
def cx:AS:=
 (Ar (AN 2 HB (AB (AX G1 (AX C7 (AX Ak (aV 0) (aC (.int 0))) (AX Ak (aV 1) (aC (.int 1)))) (AX C7 (AX Ak (aV 1) (aC (.int 0))) (AX Ak (aV 0) (aC (.int 1))))) (AB (AX C7 (AX Ak (aV 0) (aC (.int 1))) (AX Ak (aV 1) (aC (.int 1)))) AL))))
def EE:AF:=A0 2 cx
theorem D5 {a b:Rat} (ha:Bd 4000 a) (hb:Bd 4000 b) {Q:PV->Prop} (h:Q (fr (a-b))):EE [fr a,fr b] Q:=by
 obtain ⟨m1,m2,m3,_⟩:=Bd.mt (n:=0) ha hb
 refine ⟨m1,m2,m3,rfl,Fo _ _ (CM (BX a) (BX b)) (QU ha hb) _ ?_⟩
 rw [JT] at h
 exact h
def cy:AS:=
 (Ar (AN 2 HB (AB (AX C7 (AX Ak (aV 0) (aC (.int 0))) (AX Ak (aV 1) (aC (.int 0)))) (AB (AX C7 (AX Ak (aV 0) (aC (.int 1))) (AX Ak (aV 1) (aC (.int 1)))) AL))))
def GB:AF:=A0 2 cy
theorem Ny {a b:Rat} (ha:Bd 4000 a) (hb:Bd 4000 b) {Q:PV->Prop} (h:Q (fr (a*b))):GB [fr a,fr b] Q:=by
 obtain ⟨_,_,m3,m4,_⟩:=Bd.mt (n:=0) ha hb
 refine ⟨m4,m3,rfl,Fo _ _ (CM (BX a) (BX b)) (QU ha hb) _ ?_⟩
 rw [JK] at h
 exact h
def iF:AS:=
 (Ar (AN 2 HB (AB (AX C7 (AX Ak (aV 0) (aC (.int 0))) (AX Ak (aV 1) (aC (.int 1)))) (AB (AX C7 (AX Ak (aV 0) (aC (.int 1))) (AX Ak (aV 1) (aC (.int 0)))) AL))))
def LW:AF:=A0 2 iF
theorem LX {a b:Rat} (h0:b≠0) (ha:Bd 4000 a) (hb:Bd 4000 b) {Q:PV->Prop} (h:Q (fr (a/b))):LW [fr a,fr b] Q:=by
 obtain ⟨m1,_,_,_,m5⟩:=Bd.mt (n:=0) ha hb
 refine ⟨m1,m5,rfl,Fo _ _ (CM (BX a) (Rq h0)) (Ap (BH (a:=(a.den:Int)) (by simpa using ha.bot) hb.top) (by omega)) _ ?_⟩
 rw [GI] at h
 exact h
def Na:AS:=
 (Ab (Ao (AX G1 (aC (.int 1)) (AX C7 (aC (.int 2)) (EX Pj (AB (AX Y8 (aV 1) (aC (.int 0))) AL)))) (Au 2))
   (Ar (A3 (AB (AX RQ (AX C7 (aV 2) (aV 0)) (aV 3)) (AB (AX RQ (AX C7 (aV 2) (aV 1)) (aV 3)) AL)))))
def NZ:AS:=
 (Ab (Lb (A5 (AX il (aV 4) (aC (.int 0)))) (Pb 3 4 (AB (aV 4) (AB (AX YA (aV 3) (aV 4)) AL))))
   Na)
def TD:AS:=
 (Ab (Pb 3 4 (AB (EX RV (AB (aV 0) AL)) (AB (EX RV (AB (aV 1) AL)) AL)))
   NZ)
def BB:AF:=A0 5 TD
theorem Ri (t b:Int) (hb:b≠0):∀s:Int,s=(if b<0 then -1 else 1)->(s*t).fdiv (Nat.gcd t.natAbs b.natAbs:Int)=(Rat.divInt t b).num/\(s*b).fdiv (Nat.gcd t.natAbs b.natAbs:Int)=((Rat.divInt t b).den:Int):=by
 intro s hs
 have g0:0<Nat.gcd t.natAbs b.natAbs:=Nat.gcd_pos_of_pos_right _ (by omega)
 have eg:b.gcd t=Nat.gcd t.natAbs b.natAbs:=by rw [Int.gcd_eq_natAbs_gcd_natAbs,Nat.gcd_comm]
 have es:b.sign=s:=by
  rw [hs];split
  ·rename_i h;exact Int.sign_eq_neg_one_of_neg h
  ·exact Int.sign_eq_one_of_pos (by omega)
 rw [Rat.num_divInt,Rat.den_divInt,if_neg hb,eg,es,Int.fdiv_eq_ediv_of_nonneg _ (by omega),Int.fdiv_eq_ediv_of_nonneg _ (by omega)]
 refine ⟨rfl, ?_⟩
 rw [Int.natCast_ediv]
 congr 1
 rw [hs];split <;> omega
theorem CF (t b:Int) (hb:b≠0) (hT:t.natAbs<2^900000) (hB:b.natAbs<2^8900) {Q:PV->Prop} (h:Q (fr (Rat.divInt t b))):BB [.int t, .int b] Q:=by
 have g0:0<Nat.gcd t.natAbs b.natAbs:=Nat.gcd_pos_of_pos_right _ (by omega)
 have gl:Nat.gcd t.natAbs b.natAbs<2^8900:=Nat.lt_of_le_of_lt (Nat.le_of_dvd (by omega) (Nat.gcd_dvd_right ..)) hB
 have sg:(1:Int)-2*(if decide (b<0)=true then 1 else 0)=(if b<0 then -1 else 1):=by
  by_cases z:b<0 <;> simp [z]
 obtain ⟨e1,e2⟩:=Ri t b hb _ sg
 have go:∀y x:Nat,∀D:G3,∀u v w,D.nx [u,v,w,some (.val (.int (Nat.gcd x y:Nat))),some (.val (.int 0))] ->∃n,U2 (A5 (AX il (aV 4) (aC (.int 0)))) (Pb 3 4 (AB (aV 4) (AB (AX YA (aV 3) (aV 4)) AL))) D n [u,v,w,some (.val (.int x)),some (.val (.int y))] :=by
  intro y
  induction y using Nat.strongRecOn with
  | _ y ih=>
    intro x D u v w hD
    by_cases hy:y=0
    ·subst hy
     refine ⟨1, ?_⟩
     rw [Nat.gcd_zero_right] at hD
     exact hD
    ·obtain ⟨n,hn⟩:=ih (x % y) (Nat.mod_lt _ (by omega)) y D u v w (by rw [Nat.gcd_comm y,<-Nat.gcd_rec,Nat.gcd_comm y];exact hD)
     refine ⟨n+1, ?_⟩
     refine E8 (b:=decide (0<(y:Int))) (λ_=> ?_) (λz=> ?_)
     ·have e2:(x:Int).fmod (y:Int)=((x % y:Nat):Int):=by
       rw [Int.fmod_eq_emod_of_nonneg _ (by omega)];simp
      refine ⟨by omega, ?_⟩
      rw [<-e2] at hn
      exact hn
     ·have:¬(0:Int)<y:=of_decide_eq_false z
      omega
 refine go b.natAbs t.natAbs _ (some (.val (.int t))) (some (.val (.int b))) none ?_
 have one:(1:Int).natAbs<2^1:=by decide
 have sb:((1:Int)-2*(if decide (b<0)=true then 1 else 0)).natAbs<2^1:=by rw [sg];split <;> decide
 refine ⟨.of (m:=2) (n:=1) (by decide) (by split <;> decide), .of sb hT,⟨by omega,gl⟩, .of sb hB,⟨by omega,gl⟩,(show 2<=sizeLine by decide), ?_⟩
 unfold fr at h
 rw [<-e1,<-e2] at h
 exact h
theorem C6 {m:Int} {Q:PV->Prop} (m0:0<m) (m1:m<4611686018427387904) (h:∀r,0<=r->r<m->Q (.int r)):BU [.tape, .int m] Q:=⟨⟨m0,m1⟩,h⟩
mutual
def wd:Nat->PV->Bool
 | 0,_=>false
 | _+1, .non=>true
 | _+1, .bl _=>true
 | _+1, .int _=>true
 | n+1, .tup xs=>nD n xs&&decide (xs.length<sizeLine)
 | _+1,_=>false
def nD:Nat->List PV->Bool
 | _, [] =>true
 | n,x::xs=>wd n x&&nD n xs
end
theorem gB {t:Int} {n:Nat} (h:t.natAbs<2^n) (hn:n<=900000:=by omega):t.natAbs<2^900000:=Ap h hn
section
variable {a b:Rat} {Q:PV->Prop}
theorem jT (ha:Bd 4000 a) (hb:Bd 4000 b) (h:Q (fr (a+b))):BB [.int (a.num*b.den+b.num*a.den), .int (a.den*b.den)] Q:=
 CF _ _ (CM (BX a) (BX b)) (gB (RN (n:=8000) (BH ha.top hb.botI) (BH hb.top ha.botI))) (QU ha hb) (by rw [<-GE];exact h)
theorem jW (ha:Bd 4000 a) (hb:Bd 4000 b) (h:Q (fr (a-b))):BB [.int (a.num*b.den-b.num*a.den), .int (a.den*b.den)] Q:=
 CF _ _ (CM (BX a) (BX b)) (gB (Sy (n:=8000) (BH ha.top hb.botI) (BH hb.top ha.botI))) (QU ha hb) (by rw [<-JT];exact h)
theorem jV (ha:Bd 4000 a) (hb:Bd 4000 b) (h:Q (fr (a*b))):BB [.int (a.num*b.num), .int (a.den*b.den)] Q:=
 CF _ _ (CM (BX a) (BX b)) (gB (BH ha.top hb.top)) (QU ha hb) (by rw [<-JK];exact h)
theorem jU (h0:b≠0) (ha:Bd 4000 a) (hb:Bd 4000 b) (h:Q (fr (a/b))):BB [.int (a.num*b.den), .int (a.den*b.num)] Q:=
 CF _ _ (CM (BX a) (Rq h0)) (gB (BH ha.top (by simpa using hb.bot))) (Ap (BH (a:=(a.den:Int)) (by simpa using ha.bot) hb.top) (by omega)) (by rw [<-GI];exact h)
end
theorem S3 {n:Int} {Q:PV->Prop} (h:Q (fr (n:Rat))):Q (.tup [.int n, .int 1]):=by rw [<-Z1];exact h
theorem Bd.part {t b:Int} {n:Nat} (h:b≠0) (ht:t.natAbs<2^n) (hb:b.natAbs<2^n):Bd n (Rat.divInt t b):= .divInt h ht hb
theorem lz {a b:Nat} (h:Nat.ble a b=true:=by rfl):a<=b:=Nat.le_of_ble_eq_true h
structure Sh (d n:Nat) (x:PV):Prop where
 ok:FG d x=true
 sh:(pd x).showable=true
 sz:(pd x).shown.length<=n
mutual
theorem ON:∀{d e:Nat} (x:PV),d<=e->FG d x=true->FG e x=true
 | _,_, .non,_,_=>by simp [FG]
 | _,_, .bl _,_,_=>by simp [FG]
 | _,_, .int _,_,_=>by simp [FG]
 | _,_, .str x,_,h=>by simpa [FG] using h
 | 0,_, .tup xs,_,h=>by simp [FG] at h
 | 0,_, .lst xs,_,h=>by simp [FG] at h
 | d+1,0, .tup xs,h,_=>by omega
 | d+1,0, .lst xs,h,_=>by omega
 | d+1,e+1, .tup xs,h,k=>by simp only [FG] at k ⊢;exact Lq xs (by omega) k
 | d+1,e+1, .lst xs,h,k=>by simp only [FG] at k ⊢;exact Lq xs (by omega) k
 | _,_, .tape,_,h=>by simp [FG] at h
 | _,_, .scr _,_,h=>by simp [FG] at h
 | _,_, .dct _,_,h=>by simp [FG] at h
 | _,_, .ty _,_,h=>by simp [FG] at h
theorem Lq:∀{d e:Nat} (xs:List PV),d<=e->Lp d xs=true->Lp e xs=true
 | _,_, [],_,_=>by simp [Lp]
 | _,_,x::xs,h,k=>by
   simp only [Lp,Bool.and_eq_true] at k ⊢
   exact ⟨ON x h k.1,Lq xs h k.2⟩
end
theorem Sh.mono {d n e m:Nat} {x:PV} (s:Sh d n x) (h1:d<=e) (h2:n<=m):Sh e m x:=⟨ON x h1 s.ok,s.sh,Nat.le_trans s.sz h2⟩
theorem Sh.go {d n:Nat} {x:PV} (s:Sh d n x) (h1:d<=30:=by omega) (h2:n<=16777216:=by omega):iS x:=⟨ON x h1 s.ok,s.sh,Nat.le_trans s.sz h2⟩
theorem Sh.int {i:Int} (h:i.natAbs<2^1900):Sh 0 1902 (.int i):=by
 refine ⟨rfl, ?_, ?_⟩
 ·show decide (i.natAbs.log2<1920)=true
  exact decide_eq_true (Nat.lt_trans (KC h (by decide)) (by decide))
 ·show (Str.ofString (toString i)).length<=1902
  rw [PySem.ofString_length]
  exact Nat.le_trans (int_text_length_le (k:=1900) (by decide) (KC h (by decide))) (by decide)
theorem OO {d:Nat}:∀{xs:List PV},(∀x∈xs,FG d x=true)->Lp d xs=true
 | [],_=>rfl
 | x::xs,h=>by
   simp only [Lp,Bool.and_eq_true]
   exact ⟨h x (by simp),OO λy hy=>h y (by simp [hy])⟩
theorem WJ:∀{xs:List PV},(∀x∈xs,(pd x).showable=true)->PyData.showableAll (SB xs)=true
 | [],_=>rfl
 | x::xs,h=>by
   simp only [SB,PyData.showableAll,Bool.and_eq_true]
   exact ⟨h x (by simp),WJ λy hy=>h y (by simp [hy])⟩
theorem S2 {n:Nat}:∀{xs:List PV},(∀x∈xs,(pd x).shown.length<=n)->((PyData.shownAll (SB xs)).map (·.length)).sum<=xs.length*n
 | [],_=>by simp [SB,PyData.shownAll]
 | x::xs,h=>by
   simp only [SB,PyData.shownAll,List.map_cons,List.sum_cons,List.length_cons]
   have h1:=h x (by simp)
   have h2:=S2 (n:=n) (xs:=xs) λy hy=>h y (by simp [hy])
   rw [Nat.succ_mul];omega
theorem GY:∀(xs:List PV),(PyData.shownAll (SB xs)).length=xs.length
 | [] =>rfl
 | x::xs=>by simp [SB,PyData.shownAll,GY xs]
theorem Sh.tup {d n:Nat} {xs:List PV} (h:∀x∈xs,Sh d n x):Sh (d+1) (xs.length*(n+2)+3) (.tup xs):=by
 refine ⟨by simp only [FG];exact OO λx hx=>(h x hx).ok,by simp only [pd,PyData.showable];exact WJ λx hx=>(h x hx).sh, ?_⟩
 have h1:=S2 (n:=n) (xs:=xs) λx hx=>(h x hx).sz
 have h2:=tupleText_len_le (PyData.shownAll (SB xs))
 rw [GY] at h2
 simp only [pd,PyData.shown]
 rw [Nat.mul_add]
 omega
theorem Sh.lst {d n:Nat} {xs:List PV} (h:∀x∈xs,Sh d n x):Sh (d+1) (xs.length*(n+2)+3) (.lst xs):=by
 refine ⟨by simp only [FG];exact OO λx hx=>(h x hx).ok,by simp only [pd,PyData.showable];exact WJ λx hx=>(h x hx).sh, ?_⟩
 have h1:=S2 (n:=n) (xs:=xs) λx hx=>(h x hx).sz
 have h2:=listText_len_le (PyData.shownAll (SB xs))
 rw [GY] at h2
 simp only [pd,PyData.shown]
 rw [Nat.mul_add]
 omega
theorem qa {α:Type} {P:α->Prop} {a b:α} (ha:P a) (hb:P b):∀x∈ [a,b],P x:=λx hx=>by
 simp only [List.mem_cons,List.not_mem_nil,or_false] at hx
 rcases hx with rfl|rfl
 ·exact ha
 ·exact hb
theorem mw {α:Type} {P:α->Prop} {a b c:α} (ha:P a) (hb:P b) (hc:P c):∀x∈ [a,b,c],P x:=λx hx=>by
 simp only [List.mem_cons,List.not_mem_nil,or_false] at hx
 rcases hx with rfl|rfl|rfl
 ·exact ha
 ·exact hb
 ·exact hc
theorem my {α:Type} {P:α->Prop} {a b c d:α} (ha:P a) (hb:P b) (hc:P c) (hd:P d):∀x∈ [a,b,c,d],P x:=λx hx=>by
 simp only [List.mem_cons,List.not_mem_nil,or_false] at hx
 rcases hx with rfl|rfl|rfl|rfl
 ·exact ha
 ·exact hb
 ·exact hc
 ·exact hd
theorem Sh.fr {r:Rat} (h:Bd 1900 r):Sh 1 4000 (fr r):=(Sh.tup (qa (Sh.int h.top) (Sh.int h.botI))).mono (by omega) lz
theorem ii (a b:Rat):l0 (fr a) (fr b)=decide (a=b):=by
 show (PyData.eqvAll [.int a.num, .int a.den] [.int b.num, .int b.den])=_
 simp only [PyData.eqvAll,PyData.eqv]
 by_cases h:a=b
 ·subst h;simp
 ·have:¬(a.num=b.num/\(a.den:Int)=b.den):=λz=>h (Rat.ext z.1 (by omega))
  rw [decide_eq_false h]
  simp only [Bool.and_true,Bool.and_eq_false_iff,beq_eq_false_iff_ne]
  by_cases h1:a.num=b.num
  ·exact .inr λz=>this ⟨h1,z⟩
  ·exact .inl h1
theorem gy (d:Nat) (a:Rat):FG (d+1) (fr a)=true:=rfl
theorem gx {a b:Rat}:decide (a.num*(b.den:Int)<b.num*(a.den:Int))=decide (a<b):=by
 rw [decide_eq_decide];exact (Rat.lt_iff a b).symm
def ZJ:AS:=
 (Ar (AX Y8 (AX C7 (AX Ak (aV 0) (aC (.int 0))) (AX Ak (aV 1) (aC (.int 1)))) (AX C7 (AX Ak (aV 1) (aC (.int 0))) (AX Ak (aV 0) (aC (.int 1))))))
def Am:AF:=A0 2 ZJ
section
variable {a b:Rat} {Q:PV->Prop}
theorem Bu (ha:Bd 4000 a) (hb:Bd 4000 b) (h:Q (.bl (decide (a<b)))):Am [fr a,fr b] Q:=by
 obtain ⟨m1,m2,_⟩:=Bd.mt (n:=0) ha hb
 refine ⟨m1,m2, ?_⟩
 rw [<-gx] at h
 exact h
def TC:AS:=
 (Ar (AX Y8 (AX C7 (AX Ak (aV 0) (aC (.int 0))) (AX Ak (aV 1) (aC (.int 1)))) (AX C7 (AX Ak (aV 1) (aC (.int 0))) (AX Ak (aV 0) (aC (.int 1))))))
def Th:AF:=A0 2 TC
def U8:AS:=
 (Ar (AN 2 BB (AB (AX BJ (AX C7 (AX Ak (aV 0) (aC (.int 0))) (AX Ak (aV 1) (aC (.int 1)))) (AX C7 (AX Ak (aV 1) (aC (.int 0))) (AX Ak (aV 0) (aC (.int 1))))) (AB (AX C7 (AX Ak (aV 0) (aC (.int 1))) (AX Ak (aV 1) (aC (.int 1)))) AL))))
def Bq:AF:=A0 2 U8
theorem DL (ha:Bd 4000 a) (hb:Bd 4000 b) (h:Q (fr (a+b))):Bq [fr a,fr b] Q:=by
 obtain ⟨m1,m2,m3,_⟩:=Bd.mt (n:=0) ha hb
 exact ⟨m1,m2,m3,rfl,jT ha hb h⟩
def U7:AS:=
 (Ar (AN 2 BB (AB (AX G1 (AX C7 (AX Ak (aV 0) (aC (.int 0))) (AX Ak (aV 1) (aC (.int 1)))) (AX C7 (AX Ak (aV 1) (aC (.int 0))) (AX Ak (aV 0) (aC (.int 1))))) (AB (AX C7 (AX Ak (aV 0) (aC (.int 1))) (AX Ak (aV 1) (aC (.int 1)))) AL))))
def BN:AF:=A0 2 U7
theorem Ca (ha:Bd 4000 a) (hb:Bd 4000 b) (h:Q (fr (a-b))):BN [fr a,fr b] Q:=by
 obtain ⟨m1,m2,m3,_⟩:=Bd.mt (n:=0) ha hb
 exact ⟨m1,m2,m3,rfl,jW ha hb h⟩
def Nc:AS:=
 (Ar (AN 2 BB (AB (AX C7 (AX Ak (aV 0) (aC (.int 0))) (AX Ak (aV 1) (aC (.int 0)))) (AB (AX C7 (AX Ak (aV 0) (aC (.int 1))) (AX Ak (aV 1) (aC (.int 1)))) AL))))
def BI:AF:=A0 2 Nc
theorem Ch (ha:Bd 4000 a) (hb:Bd 4000 b) (h:Q (fr (a*b))):BI [fr a,fr b] Q:=by
 obtain ⟨m1,m2,m3,m4,_⟩:=Bd.mt (n:=0) ha hb
 exact ⟨m4,m3,rfl,jV ha hb h⟩
def Q0:AS:=
 (Ar (AN 2 BB (AB (AX C7 (AX Ak (aV 0) (aC (.int 0))) (AX Ak (aV 1) (aC (.int 1)))) (AB (AX C7 (AX Ak (aV 0) (aC (.int 1))) (AX Ak (aV 1) (aC (.int 0)))) AL))))
def Bs:AF:=A0 2 Q0
theorem Gm (h0:b≠0) (ha:Bd 4000 a) (hb:Bd 4000 b) (h:Q (fr (a/b))):Bs [fr a,fr b] Q:=by
 obtain ⟨m1,m2,m3,m4,m5⟩:=Bd.mt (n:=0) ha hb
 exact ⟨m1,m5,rfl,jU h0 ha hb h⟩
end
theorem pZ {t b:Int} (ht:0<t) (hb:0<b):0<Rat.divInt t b:=by
 rw [Rat.lt_iff]
 have h1:=Rat.num_divInt t b
 show (0:Int)*_<_*1
 rw [Int.zero_mul,Int.mul_one,h1,Int.sign_eq_one_of_pos hb,Int.one_mul]
 have g:0<(b.gcd t:Int):=by have:=Int.gcd_pos_of_ne_zero_left t (show b≠0 by omega);omega
 exact Int.ediv_pos_of_pos_of_dvd ht (by omega) (Int.gcd_dvd_right ..)
theorem JR {t b:Int} {Q:PV->Prop} (k:Nat) (hb:b≠0) (ht:t.natAbs<2^k) (sj:b.natAbs<2^k) (hk:k<=2000) (h:Bd k (Rat.divInt t b)->Q (fr (Rat.divInt t b))):BB [.int t, .int b] Q:=
 CF t b hb (Ap ht (by omega)) (Ap sj (by omega)) (h (.part hb ht sj))
def Mul (D N:Nat) (a:Rat):Prop:=0<D/\∃k:Int,a=Rat.divInt k D/\k.natAbs<=N
theorem Mul.bd {D N n:Nat} {a:Rat} (h:Mul D N a) (h1:N<2^n) (h2:D<2^n):Bd n a:=by
 obtain ⟨h0,k,rfl,hk⟩:=h
 exact .divInt (by omega) (by omega) (by simpa using h2)
theorem Mul.part {t b:Int} {c:Nat} (hb:0<b) (hc:0<c) {N:Nat} (h:(t*c).natAbs<=N):Mul (b.toNat*c) N (Rat.divInt t b):=by
 refine ⟨Nat.mul_pos (by omega) hc,t*c, ?_,h⟩
 have e:((b.toNat*c:Nat):Int)=b*c:=by rw [Int.natCast_mul];congr 1;omega
 rw [e,(Rat.divInt_eq_divInt_iff (by omega) (CM (by omega) (by omega)))]
 rw [Int.mul_comm b,Int.mul_assoc]
theorem Mul.add {D N M:Nat} {a b:Rat} (ha:Mul D N a) (hb:Mul D M b):Mul D (N+M) (a+b):=by
 obtain ⟨h0,k,rfl,hk⟩:=ha
 obtain ⟨_,l,rfl,hl⟩:=hb
 refine ⟨h0,k+l, ?_,by omega⟩
 rw [Rat.divInt_add_divInt _ _ (by omega) (by omega),Rat.divInt_eq_divInt_iff (CM (by omega) (by omega)) (by omega)]
 rw [<-Int.add_mul,Int.mul_assoc]
theorem Mul.mono {D N M:Nat} {a:Rat} (h:Mul D N a) (hm:N<=M):Mul D M a:=⟨h.1,let ⟨k,e,hk⟩:=h.2;⟨k,e,by omega⟩⟩
theorem Mul.int {n:Int} {D N:Nat} (hD:0<D) (h:(n*D).natAbs<=N):Mul D N (n:Rat):=by
 have e:(n:Rat)=Rat.divInt n 1:=by rw [<-Rat.num_divInt_den (n:Rat)];simp
 rw [e]
 have:=Mul.part (t:=n) (b:=1) (c:=D) (by decide) hD h
 simpa using this
def Nd:AS:=
 (Ab (Bz (A5 (AX Y8 (aV 1) (aC (.int 3)))) (Ar (A3 (AB (AX BJ (aC (.int 1)) (AN 2 BU (AB (aV 0) (AB (aC (.int 5)) AL)))) (AB (aC (.int 1)) AL)))) BM)
   (Ar (AN 2 BB (AB (AX BJ (aC (.int 1)) (AN 2 BU (AB (aV 0) (AB (aC (.int 8)) AL)))) (AB (AX G1 (aV 1) (aC (.int 1))) AL)))))
def TF:AS:=
 (Ab (Ao (AN 2 BU (AB (aV 0) (AB (aC (.int 5)) AL))) (Au 1))
   Nd)
def CI:AF:=A0 2 TF
theorem Go {Q:PV->Prop} (h:∀a,Bd 8 a->0<a->Mul 6 48 a->Q (fr a)):CI [.tape] Q:=by
 refine ⟨rfl,C6 (by decide) (by decide) λw w0 w1=> ?_⟩
 refine E8 (b:=decide (w<3)) (λ_=> ?_) (λz=> ?_)
 ·refine ⟨rfl,C6 (by decide) (by decide) λr r0 r1=>⟨lz, ?_⟩⟩
  exact S3 (h _ (.int (by omega) (by decide)) (by exact_mod_cast (by omega:(0:Int)<1+r)) (.int (by decide) (by omega)))
 ·have z':¬w<3:=of_decide_eq_false z
  have hw:w-1=2\/w-1=3:=by omega
  refine ⟨rfl,C6 (by decide) (by decide) λr r0 r1=>⟨rfl, ?_⟩⟩
  refine JR 8 (by omega) (by omega) (by omega) (by decide) λb=>h _ b (pZ (by omega) (by omega)) ?_
  rcases hw with e|e
  ·rw [e];exact Mul.part (t:=1+r) (b:=2) (c:=3) (by decide) (by decide) (by omega)
  ·rw [e];exact Mul.part (t:=1+r) (b:=3) (c:=2) (by decide) (by decide) (by omega)
theorem Nw {Q:PV->Prop} (h:∀a,Bd 8 a->0<a->Q (fr a)):CI [.tape] Q:=Go λa b p _=>h a b p
def Mc:AS:=
 (Ab (Bz (A5 (AX M6 (aV 1) (aC (.int 6)))) (Ar (AN 2 BB (AB (AX G1 (AN 2 BU (AB (aV 0) (AB (aC (.int 25)) AL))) (aC (.int 6))) (AB (aC (.int 2)) AL)))) BM)
   (Ar (AN 2 BB (AB (AX G1 (AN 2 BU (AB (aV 0) (AB (aC (.int 31)) AL))) (aC (.int 9))) (AB (aC (.int 3)) AL)))))
def Mb:AS:=
 (Ab (Bz (A5 (AX Y8 (aV 1) (aC (.int 6)))) (Ar (A3 (AB (AX G1 (AN 2 BU (AB (aV 0) (AB (aC (.int 10)) AL))) (aC (.int 3))) (AB (aC (.int 1)) AL)))) BM)
   Mc)
def Qz:AS:=
 (Ab (Ao (AN 2 BU (AB (aV 0) (AB (aC (.int 8)) AL))) (Au 1))
   Mb)
def A9:AF:=A0 2 Qz
theorem BD {Q:PV->Prop} (h:∀a,Mul 6 60 a->Q (fr a)):A9 [.tape] Q:=by
 refine ⟨rfl,C6 (by decide) (by decide) λw w0 w1=> ?_⟩
 refine E8 (b:=decide (w<6)) (λ_=> ?_) (λz=> ?_)
 ·refine ⟨rfl,C6 (by decide) (by decide) λr r0 r1=>⟨lz, ?_⟩⟩
  exact S3 (h _ (.int (by decide) (by omega)))
 refine E8 (b:=decide (w=6)) (λ_=> ?_) (λz=> ?_)
 ·exact ⟨rfl,C6 (by decide) (by decide) λr r0 r1=>⟨rfl,JR 8 (by omega) (by omega) (by omega) (by decide) λb=>h _ (Mul.part (t:=r-6) (b:=2) (c:=3) (by decide) (by decide) (by omega))⟩⟩
 ·exact ⟨rfl,C6 (by decide) (by decide) λr r0 r1=>⟨rfl,JR 8 (by omega) (by omega) (by omega) (by decide) λb=>h _ (Mul.part (t:=r-9) (b:=3) (c:=2) (by decide) (by decide) (by omega))⟩⟩
abbrev C4:=Rat×Rat×Rat×Rat
def cor (c:C4):PV:= .tup [fr c.1,fr c.2.1,fr c.2.2.1,fr c.2.2.2]
def corL (c:C4):PV:= .lst [fr c.1,fr c.2.1,fr c.2.2.1,fr c.2.2.2]
def Ag (cs:List C4):PV:= .tup (cs.map cor)
structure EK (B:Nat) (c:C4):Prop where
 m:Bd B c.1
 x:Bd B c.2.1
 y:Bd B c.2.2.1
 z:Bd B c.2.2.2
theorem EK.mono {B B':Nat} {c:C4} (h:EK B c) (k:B<=B'):EK B' c:=⟨h.m.mono k,h.x.mono k,h.y.mono k,h.z.mono k⟩
structure Nn (D N:Nat) (c:C4):Prop where
 m:Mul D N c.1
 x:Mul D N c.2.1
 y:Mul D N c.2.2.1
 z:Mul D N c.2.2.2
theorem Nn.mono {D N M:Nat} {c:C4} (h:Nn D N c) (k:N<=M):Nn D M c:=⟨h.m.mono k,h.x.mono k,h.y.mono k,h.z.mono k⟩
theorem Nn.bd {D N n:Nat} {c:C4} (h:Nn D N c) (h1:N<2^n) (h2:D<2^n):EK n c:=⟨h.m.bd h1 h2,h.x.bd h1 h2,h.y.bd h1 h2,h.z.bd h1 h2⟩
def Hi (cs:List C4):Prop:=cs.Pairwise λa b=>a.1<b.1
structure Jn (n D N:Nat) (cs:List C4):Prop where
 two:2<=cs.length
 few:cs.length<=n
 mu:∀c∈cs,Nn D N c
 ris:Hi cs
structure Cu (n B:Nat) (cs:List C4):Prop where
 two:2<=cs.length
 few:cs.length<=n
 bd:∀c∈cs,EK B c
 ris:Hi cs
theorem bX {cs:List C4} {c d:C4} (h:Hi (cs ++ [c])) (hd:c.1<d.1):Hi (cs ++ [c] ++ [d]):=by
 refine List.pairwise_append.mpr ⟨h,by simp,λa ha b hb=> ?_⟩
 simp at hb;subst hb
 rcases List.mem_append.mp ha with ha|ha
 ·have:=(List.pairwise_append.mp h).2.2 a ha c (by simp)
  grind
 ·simp at ha;subst ha;exact hd
def mid (a b:Rat):Rat:=(a+b)/2
theorem Vv (a b:Rat):mid a b=Rat.divInt (a.num*b.den+b.num*a.den) (2*a.den*b.den):=by
 have h2:(2:Rat)=Rat.divInt 2 1:=rfl
 unfold mid
 rw [GE,Rat.div_def,h2,Rat.inv_divInt,Rat.divInt_mul_divInt,Int.mul_one]
 congr 1
 rw [Int.mul_comm _ 2,Int.mul_assoc]
theorem Bd.mid {B:Nat} {a b:Rat} (ha:Bd B a) (hb:Bd B b):Bd (2*B+2) (mid a b):=by
 rw [Vv]
 have h2:(2:Int)*a.den≠0:=CM (by decide) (BX a)
 refine .divInt (CM h2 (BX b)) (Ap (RN (n:=B+B) (BH ha.top hb.botI) (BH hb.top ha.botI)) (by omega)) ?_
 exact Ap (BH (BH (m:=2) (show (2:Int).natAbs<2^2 by decide) ha.botI) hb.botI) (by omega)
theorem ie {cs:List C4} {i:Int} {k:Nat} (hk:i=(k:Int)) (h:k<=cs.length):IB (cs.map cor) none (some i)=(cs.take k).map cor:=by
 unfold IB
 rw [hk,HT.sIx_none,HT.sIx_nat]
 rw [show min k (cs.map cor).length=k by simp;omega,List.map_take]
 simp
theorem Zw {cs:List C4} {i:Int} {k:Nat} (hk:i=(k:Int)) (h:k<=cs.length):IB (cs.map cor) (some i) none=(cs.drop k).map cor:=by
 unfold IB
 rw [hk,HT.sIx_none,HT.sIx_nat]
 rw [show min k (cs.map cor).length=k by simp;omega,List.map_drop]
 exact List.take_of_length_le (by simp)
theorem n8 {cs:List C4} {i:Int} {k:Nat} {Q:PV->Prop} (hk:i=(k:Int)) (h:k<=cs.length) (q:Q (Ag (cs.take k))):VY (Ag cs) none (some i) Q:=by
 refine GZ ?_
 rw [ie hk h];exact q
theorem Xc {cs:List C4} {i:Int} {k:Nat} {Q:PV->Prop} (hk:i=(k:Int)) (h:k<=cs.length) (q:Q (Ag (cs.drop k))):VY (Ag cs) (some i) none Q:=by
 refine GZ ?_
 rw [Zw hk h];exact q
theorem Tp {cs ds:List C4} {Q:PV->Prop} (h:cs.length+ds.length<=10000) (q:Q (Ag (cs++ds))):BJ (Ag cs) (Ag ds) Q:=by
 refine ⟨?_, ?_⟩
 ·simp only [List.length_map];exact Nat.le_trans h (by decide)
 ·show Q (.tup (cs.map cor++ds.map cor))
  rw [<-List.map_append];exact q
theorem Mul.mid {D N:Nat} {a b:Rat} (ha:Mul D N a) (hb:Mul D N b):Mul (2*D) (2*N) (mid a b):=by
 obtain ⟨h0,k,rfl,hk⟩:=ha
 obtain ⟨_,l,rfl,hl⟩:=hb
 refine ⟨by omega,k+l, ?_,by omega⟩
 have h2:(2:Rat)=Rat.divInt 2 1:=rfl
 unfold PL.mid
 rw [Rat.divInt_add_divInt _ _ (by omega) (by omega),Rat.div_def,h2,Rat.inv_divInt,Rat.divInt_mul_divInt,Int.mul_one,Rat.divInt_eq_divInt_iff (CM (CM (by omega) (by omega)) (by decide)) (by omega),<-Int.add_mul]
 have e:((2*D:Nat):Int)=2*(D:Int):=by omega
 rw [e,Int.mul_assoc,Int.mul_assoc,Int.mul_comm 2 (D:Int)]
theorem Jn.ok {n D N m:Nat} {cs:List C4} (p:Jn n D N cs) (h1:N<2^m) (h2:D<2^m):Cu n m cs:=⟨p.two,p.few,λc hc=>(p.mu c hc).bd h1 h2,p.ris⟩
def Ci (cs:List C4) (v:PV):Prop:=∃f:C4->PV,(f=cor\/f=corL)/\(v= .tup (cs.map f)\/v= .lst (cs.map f))
theorem Ci.self (cs:List C4):Ci cs (Ag cs):=⟨cor, .inl rfl, .inl rfl⟩
theorem Ci.lists (cs:List C4):Ci cs (.lst (cs.map corL)):=⟨corL, .inr rfl, .inr rfl⟩
theorem Ci.list (cs:List C4):Ci cs (.lst (cs.map cor)):=⟨cor, .inl rfl, .inr rfl⟩
theorem Ea {α β:Type} {g:AG} {te:AE} {τ0:BE} {Q:List PV->Prop} (f:α->PV) (k:β->PV) (e:α->β) (P:α->Prop)
 (hs:∀a,P a->∀R:PV->Prop,R (k (e a))->g (f a) τ0 λτ1=>te τ1 R):
 ∀(xs:List α) (acc:List PV),(∀a∈xs,P a)->Q (acc++(xs.map e).map k)->Ck g E7 te τ0 Q (xs.map f) acc
 | [],acc,_,h=>(by simpa using h:Q acc)
 | a::xs,acc,hp,h=>by
   refine hs a (hp a (by simp)) (λy=>Ck g E7 te τ0 Q (xs.map f) (acc ++ [y])) (Ea f k e P hs xs _ (λb hb=>hp b (by simp [hb])) ?_)
   simpa using h
theorem Sh.cor {c:C4} (h:EK 1900 c):Sh 2 17000 (cor c):=(Sh.tup (my (Sh.fr h.m) (Sh.fr h.x) (Sh.fr h.y) (Sh.fr h.z))).mono (by decide) lz
theorem Sh.corL {c:C4} (h:EK 1900 c):Sh 2 17000 (corL c):=(Sh.lst (my (Sh.fr h.m) (Sh.fr h.x) (Sh.fr h.y) (Sh.fr h.z))).mono (by decide) lz
abbrev T3:=Rat×Rat×Rat
def inter (a b:C4) (m:Rat):T3:=(a.2.1+(m-a.1)/(b.1-a.1)*(b.2.1-a.2.1),a.2.2.1+(m-a.1)/(b.1-a.1)*(b.2.2.1-a.2.2.1),a.2.2.2+(m-a.1)/(b.1-a.1)*(b.2.2.2-a.2.2.2))
def spotG:C4->List C4->Rat->Option T3
 | _, [],_=>none
 | a,b::r,m=>if b.1<m then spotG b r m else some (inter a b m)
def spotC:List C4->Rat->Option T3
 | [],_=>none
 | a::r,m=>if m<a.1 then none else spotG a r m
def lE (t:T3):PV:= .tup [fr t.1,fr t.2.1,fr t.2.2]
def IW:Option T3->PV
 | none=> .non
 | some t=>lE t
structure EW (B:Nat) (t:T3):Prop where
 x:Bd B t.1
 y:Bd B t.2.1
 z:Bd B t.2.2
theorem EW.mono {B B':Nat} {t:T3} (h:EW B t) (k:B<=B'):EW B' t:=⟨h.x.mono k,h.y.mono k,h.z.mono k⟩
section
variable {B M:Nat} {a b:C4} {m:Rat}
theorem S0 {x y:Rat} (h:x<y):y-x≠0:=by grind
theorem Bd.share (ha:EK B a) (hb:EK B b) (hm:Bd M m) (h:a.1<b.1):Bd (M+B+1+(B+B+1)) ((m-a.1)/(b.1-a.1)):=(hm.sub ha.m).div (S0 h) (hb.m.sub ha.m)
theorem EW.inter (ha:EK B a) (hb:EK B b) (hm:Bd M m) (h:a.1<b.1):EW (M+6*B+10) (inter a b m):=by
 have s:=Bd.share ha hb hm h
 exact ⟨(ha.x.add (s.mul (hb.x.sub ha.x))).mono (by omega),(ha.y.add (s.mul (hb.y.sub ha.y))).mono (by omega),(ha.z.add (s.mul (hb.z.sub ha.z))).mono (by omega)⟩
end
theorem EW.spotG {B M:Nat} {m:Rat} (hm:Bd M m):∀{a:C4} {r:List C4},Hi (a::r)->(∀c∈a::r,EK B c)->∀t,spotG a r m=some t->EW (M+6*B+10) t
 | a, [],_,_,t,e=>by cases e
 | a,b::r,hr,hb,t,e=>by
   unfold PL.spotG at e
   split at e
   ·exact EW.spotG hm (List.pairwise_cons.mp hr).2 (λc hc=>hb c (by simp [hc])) t e
   ·cases e
    exact .inter (hb a (by simp)) (hb b (by simp)) hm ((List.pairwise_cons.mp hr).1 b (by simp))
theorem EW.spotC {B M:Nat} {m:Rat} {cs:List C4} (hm:Bd M m) (hr:Hi cs) (hb:∀c∈cs,EK B c):∀t,spotC cs m=some t->EW (M+6*B+10) t:=λt e=>by
 cases cs with
 | nil=>cases e
 | cons a r=>
   simp only [PL.spotC] at e
   split at e
   ·cases e
   ·exact EW.spotG hm hr hb t e
theorem GK {f:C4->PV} {cs:List C4} {i:Int} {k:Nat} {c:C4} {Q:PV->Prop} (hk:i=(k:Int)) (e:cs[k]? =some c) (h:Q (f c)):ZE (Hk (cs.map f) i) Q:=by
 have q:Hk (cs.map f) ((k:Nat):Int)=some (f c):=Cj (by rw [List.getElem?_map,e] <;> rfl)
 rw [hk,q];exact h
theorem J1 {f:C4->PV} {cs:List C4} {c:C4} {Q:PV->Prop} (e:cs.getLast?=some c) (h:Q (f c)):ZE (Hk (cs.map f) (-1)) Q:=by
 have QY:cs≠ [] :=by intro z;subst z;cases e
 have hl:0<cs.length:=List.length_pos_iff.mpr QY
 have q:Hk (cs.map f) (-1)=some (f c):=by
  unfold Hk PB
  rw [List.length_map,if_neg (by decide),if_pos (by omega)]
  have e2:(-1+(cs.length:Int)).toNat=cs.length-1:=by omega
  rw [Option.bind_some,e2,List.getElem?_map,<-List.getLast?_eq_getElem?,e]
  rfl
 rw [q];exact h
def Ni:AS:=
 (Ab (Ao (AN 2 LW (AB (AN 2 EE (AB (aV 2) (AB (AX Ak (aV 0) (aC (.int 0))) AL))) (AB (AN 2 EE (AB (AX Ak (aV 1) (aC (.int 0))) (AB (AX Ak (aV 0) (aC (.int 0))) AL))) AL))) (Au 3))
   (Ar (EX Dt (AB (FZ (Cv (gX (AB (We (aV 0) (Wh (aC (.int 1))) Wg) (AB (We (aV 1) (Wh (aC (.int 1))) Wg) AL))) 2 [3] (MD 2 (Ai (Au 0) (Ai (Au 1) CJ))) E7 (AN 2 Iy (AB (aV 0) (AB (AN 2 GB (AB (aV 2) (AB (AN 2 EE (AB (aV 1) (AB (aV 0) AL))) AL))) AL))))) AL))))
def Ds:AF:=A0 4 Ni
theorem Jl {f:C4->PV} (hf:f=cor\/f=corL) {a b:C4} {B M:Nat} {m:Rat} (ha:EK B a) (hb:EK B b) (hm:Bd M m) (h:a.1<b.1) (hB:M+6*B+10<=3990) {Q:PV->Prop} (q:Q (lE (inter a b m))):Ds [f a,f b,fr m] Q:=by
 simp only [lE,inter] at q
 have s:=Bd.share ha hb hm h
 have key:Ck (MD 2 (Ai (Au 0) (Ai (Au 1) CJ))) E7 (AN 2 Iy (AB (aV 0) (AB (AN 2 GB (AB (aV 2) (AB (AN 2 EE (AB (aV 1) (AB (aV 0) AL))) AL))) AL))) [none,none,some (.val (fr ((m-a.1)/(b.1-a.1))))] (λxs=>Q (.tup xs))
  ([(a.2.1,b.2.1),(a.2.2.1,b.2.2.1),(a.2.2.2,b.2.2.2)].map λp:Rat×Rat=>PV.tup [fr p.1,fr p.2]) [] :=by
  refine Ea (λp:Rat×Rat=>PV.tup [fr p.1,fr p.2]) fr (λp=>p.1+(m-a.1)/(b.1-a.1)*(p.2-p.1)) (λp=>Bd B p.1/\Bd B p.2) (λp hp R hR=> ?_) _ [] (mw ⟨ha.x,hb.x⟩ ⟨ha.y,hb.y⟩ ⟨ha.z,hb.z⟩) q
  have bl:=hp.1
  have bh:=hp.2
  exact ⟨rfl,rfl,D5 (bh.mono (by omega)) (bl.mono (by omega)) ⟨rfl,Ny (s.mono (by omega)) ((bh.sub bl).mono (by omega)) ⟨rfl,QG (bl.mono (by omega)) ((s.mul (bh.sub bl)).mono (by omega)) hR⟩⟩⟩
 have m1:=hm.mono (n:=4000) (by omega)
 have a1:=ha.m.mono (n:=4000) (by omega)
 have b1:=hb.m.mono (n:=4000) (by omega)
 rcases hf with rfl|rfl
 ·exact ⟨rfl,D5 m1 a1 ⟨rfl,D5 b1 a1 ⟨rfl,LX (S0 h) ((hm.sub ha.m).mono (by omega)) ((hb.m.sub ha.m).mono (by omega)) (GZ (GZ ⟨lz,key⟩))⟩⟩⟩
 ·exact ⟨rfl,D5 m1 a1 ⟨rfl,D5 b1 a1 ⟨rfl,LX (S0 h) ((hm.sub ha.m).mono (by omega)) ((hb.m.sub ha.m).mono (by omega)) (Ek (Ek ⟨lz,key⟩))⟩⟩⟩
def RE:AS:=
 (Ab (FY (dL (AB (aC (.int 1)) (AB (EX Fc (AB (aV 0) AL)) AL))) (Au 2) (Bz (Gr (A5 (AN 2 Am (AB (AX Ak (AX Ak (aV 0) (aV 2)) (aC (.int 0))) (AB (aV 1) AL))))) (Ar (AN 3 Ds (AB (AX Ak (aV 0) (AX G1 (aV 2) (aC (.int 1)))) (AB (AX Ak (aV 0) (aV 2)) (AB (aV 1) AL))))) BM))
   (Ar (aC .non)))
def Xo:AS:=
 (Ab (Bz (A5 (AN 2 Am (AB (aV 1) (AB (AX Ak (AX Ak (aV 0) (aC (.int 0))) (aC (.int 0))) AL)))) (Ar (aC .non)) BM)
   RE)
def Fq:AF:=A0 3 Xo
theorem fU {cs:List C4} (h:Hi cs) {k:Nat} {a b:C4} (ea:cs[k]? =some a) (eb:cs[k+1]? =some b):a.1<b.1:=by
 have h1:=(List.getElem?_eq_some_iff.mp ea)
 have h2:=(List.getElem?_eq_some_iff.mp eb)
 obtain ⟨l1,rfl⟩:=h1
 obtain ⟨l2,rfl⟩:=h2
 exact List.pairwise_iff_getElem.mp h k (k+1) l1 l2 (by omega)
theorem Jk {cs:List C4} {v:PV} {B M:Nat} {m:Rat} (hv:Ci cs v) (hc:∀c∈cs,EK B c) (hr:Hi cs) (h0:cs≠ []) (hl:cs.length<=1000) (hm:Bd M m) (hB:M+6*B+10<=3990) {Q:PV->Prop} (q:Q (IW (spotC cs m))):Fq [v,fr m] Q:=by
 obtain ⟨f,hf,hv⟩:=hv
 have m1:=hm.mono (n:=4000) (by omega)
 cases cs with
 | nil=>exact absurd rfl h0
 | cons a r=>
   have ba:=hc a (by simp)
   have a1:=ba.m.mono (n:=4000) (by omega)
   simp only [spotC] at q
   have few:r.length+1<=1000:=hl
   have tF:∀(c:C4) (P:PV->Prop),P (fr c.1)->S9 (f c) λys=>ZE (Hk ys 0) P:=λc P hP=>by rcases hf with rfl|rfl <;> exact hP
   rcases hv with rfl|rfl
   all_goals
    refine GK (k:=0) (c:=a) rfl rfl (tF a _ ⟨rfl,Bu m1 a1 ?_⟩)
    refine E8 (b:=decide (m<a.1)) (λz=> ?_) (λz=> ?_)
    ·rw [if_pos (of_decide_eq_true z)] at q
     exact q
    ·rw [if_neg (of_decide_eq_false z)] at q
     have DH:∀f:C4->PV,((((a::r).map f).length:Nat):Int)=r.length+1:=λf=>by simp
     refine ⟨⟨by decide,by decide,by rw [DH];omega,by rw [DH];omega⟩, ?_⟩
     rw [DH,show ((r.length:Int)+1-1).toNat=r.length by omega]
     refine GJ (λrr τ=>∃(k:Nat) (z2:Option AV) (c:C4) (ds:List C4),rr=rng ((k:Int)+1) ds.length/\(a::r)[k]? =some c/\(a::r).drop (k+1)=ds/\spotG c ds m=spotG a r m/\τ= [some (.val _),some (.val (fr m)),z2]) ?_ ?_ _ _ ⟨0,none,a,r,rfl,rfl,rfl,rfl,rfl⟩
     ·rintro τ ⟨k,z2,c,ds,aM,ek,ed,es,rfl⟩
      have:ds= [] :=by
       cases ds with
       | nil=>rfl
       | cons d ds=>rw [List.length_cons,KO] at aM;cases aM
      subst this
      rw [<-es] at q
      exact q
     ·rintro x rr τ R hR ⟨k,z2,c,ds,aM,ek,ed,es,rfl⟩
      cases ds with
      | nil=>cases aM
      | cons d ds=>
        rw [List.length_cons,KO] at aM
        cases aM
        have ed':(a::r)[k+1]? =some d:=by
         have:=congrArg (λl=>l[0]?) ed
         simpa [List.getElem?_drop] using this
        have bd:=hc d (List.mem_of_getElem? ed')
        have bc:=hc c (List.mem_of_getElem? ek)
        refine GK (k:=k+1) (by omega) ed' (tF d _ ⟨rfl,Bu (bd.m.mono (by omega)) m1 ?_⟩)
        refine E8 (b:= !decide (d.1<m)) (λz=> ?_) (λz=> ?_)
        ·have z':¬d.1<m:=by simpa using z
         rw [<-es] at q
         simp only [spotG,if_neg z',IW] at q
         exact GK (k:=k) (by omega) ek (GK (k:=k+1) (by omega) ed' ⟨rfl,Jl hf bc bd hm (fU hr ek ed') hB q⟩)
        ·have z':d.1<m:=by simpa using z
         refine hR _ ⟨k+1,_,d,ds, ?_,ed', ?_, ?_,rfl⟩
         ·rw [show (((k+1:Nat):Int)+1)=(k:Int)+1+1 by omega]
         ·have:=congrArg List.tail ed
          simpa [List.tail_drop] using this
         ·rw [<-es];simp only [spotG,if_pos z']
theorem Ow {m:Rat}:∀{a:C4} {r:List C4},Hi (a::r)->(∀l,(a::r).getLast?=some l->l.1<m)->spotG a r m=none
 | a, [],_,_=>rfl
 | a,b::r,hr,h=>by
   have d9:Hi (b::r):=(List.pairwise_cons.mp hr).2
   have hb:b.1<m:=by
    cases r with
    | nil=>exact h b rfl
    | cons c r=>
      obtain ⟨l,hl⟩:∃l,(c::r).getLast?=some l:=⟨_,List.getLast?_eq_some_getLast (by simp)⟩
      have h1:l.1<m:=h l (by simpa [List.getLast?_cons_cons] using hl)
      have h2:b.1<l.1:=(List.pairwise_cons.mp d9).1 l (List.mem_of_getLast? hl)
      grind
   simp only [spotG,if_pos hb]
   exact Ow d9 λl hl=>h l (by simpa [List.getLast?_cons_cons] using hl)
theorem MJ {a b:C4} (h:a.1<b.1):inter a b a.1=a.2:=by
 have s:(a.1-a.1)/(b.1-a.1)=0:=by grind
 simp only [inter,s]
 obtain ⟨m,x,y,z⟩:=a
 show (x+0*(b.2.1-x),y+0*(b.2.2.1-y),z+0*(b.2.2.2-z))=(x,y,z)
 rw [show x+0*(b.2.1-x)=x by grind,show y+0*(b.2.2.1-y)=y by grind,show z+0*(b.2.2.2-z)=z by grind]
theorem JG {a b:C4} (h:a.1<b.1):inter a b b.1=b.2:=by
 have s:(b.1-a.1)/(b.1-a.1)=1:=by grind
 simp only [inter,s]
 obtain ⟨m,x,y,z⟩:=b
 show (a.2.1+1*(x-a.2.1),a.2.2.1+1*(y-a.2.2.1),a.2.2.2+1*(z-a.2.2.2))=(x,y,z)
 rw [show a.2.1+1*(x-a.2.1)=x by grind,show a.2.2.1+1*(y-a.2.2.1)=y by grind,show a.2.2.2+1*(z-a.2.2.2)=z by grind]
theorem K3:∀{a:C4} {r:List C4},Hi (a::r)->∀c∈r,spotG a r c.1=some c.2
 | a, [],_,c,hc=>by cases hc
 | a,b::r,hr,c,hc=>by
   have i5:=(List.pairwise_cons.mp hr).1 b (by simp)
   have d9:Hi (b::r):=(List.pairwise_cons.mp hr).2
   rcases List.mem_cons.mp hc with rfl|hc
   ·have:¬c.1<c.1:=by grind
    simp only [spotG,if_neg this,JG i5]
   ·have:b.1<c.1:=(List.pairwise_cons.mp d9).1 c hc
    simp only [spotG,if_pos this]
    exact K3 d9 c hc
theorem K2 {cs:List C4} (hr:Hi cs) (h2:2<=cs.length):∀c∈cs,spotC cs c.1=some c.2:=λc hc=>by
 match cs,hr,h2,hc with
 | a::b::r,hr,_,hc=>
   have i5:=(List.pairwise_cons.mp hr).1 b (by simp)
   rcases List.mem_cons.mp hc with rfl|hc
   ·have h1:¬c.1<c.1:=by grind
    have h3:¬b.1<c.1:=by grind
    simp only [spotC,spotG,if_neg h1,if_neg h3,MJ i5]
   ·have h1:¬c.1<a.1:=by have:=(List.pairwise_cons.mp hr).1 c hc;grind
    simp only [spotC,if_neg h1]
    exact K3 hr c hc
theorem Uw {a:C4} {r:List C4} {m:Rat} (h:m<a.1):spotC (a::r) m=none:=by simp only [spotC,if_pos h]
theorem Su {a:C4} {r:List C4} {m:Rat} (hr:Hi (a::r)) (h:∀l,(a::r).getLast?=some l->l.1<m):spotC (a::r) m=none:=by
 simp only [spotC]
 split
 ·rfl
 ·exact Ow hr h
def Jg:AS:=
 (Ab (Ao (FZ (Cv (O8 (A3 (AB (aC (.int 1)) (AB (aC (.int 2)) (AB (aC (.int 3)) AL))))) 1 [4,3,2] (Au 0) E7 (AN 2 BI (AB (aV 1) (AB (AN 2 BN (AB (AX Ak (aV 2) (aV 0)) (AB (AX Ak (aV 3) (aV 0)) AL))) AL))))) (Au 5))
   (Ar (EX Dt (AB (FZ (Cv (Pd (AB (aC (.int 3)) AL)) 1 [2,5] (Au 0) E7 (AN 2 Bq (AB (AX Ak (aV 1) (AX BJ (aV 0) (aC (.int 1)))) (AB (AX Ak (aV 2) (aV 0)) AL))))) AL))))
def Nf:AS:=
 (Ab (Ao (AN 2 Bs (AB (AN 2 BN (AB (aV 1) (AB (AX Ak (aV 2) (aC (.int 0))) AL))) (AB (AN 2 BN (AB (AX Ak (aV 3) (aC (.int 0))) (AB (AX Ak (aV 2) (aC (.int 0))) AL))) AL))) (Au 4))
   Jg)
def Ng:AS:=
 (Ab (FY (gX (AB (aV 0) (AB (We (aV 0) (Wh (aC (.int 1))) Wg) AL))) (MD 2 (Ai (Au 2) (Ai (Au 3) CJ))) (Bz (Gr (A5 (AN 2 Am (AB (AX Ak (aV 3) (aC (.int 0))) (AB (aV 1) AL))))) Nf BM))
   (Ar (aC .non)))
def TH:AS:=
 (Ab (Bz (Pa (A5 (AN 2 Am (AB (aV 1) (AB (AX Ak (AX Ak (aV 0) (aC (.int 0))) (aC (.int 0))) AL)))) (A5 (AN 2 Am (AB (AX Ak (AX Ak (aV 0) (N2 Fb (aC (.int 1)))) (aC (.int 0))) (AB (aV 1) AL))))) (Ar (aC .non)) BM)
   Ng)
def Ct:AF:=A0 6 TH
theorem Dq {cs:List C4} {B M:Nat} {m:Rat} (hc:∀c∈cs,EK B c) (hr:Hi cs) (h0:cs≠ []) (hl:cs.length<=1000) (hm:Bd M m) (hB:M+6*B+10<=3990) {Q:PV->Prop} (q:Q (IW (spotC cs m))):Ct [Ag cs,fr m] Q:=by
 have m1:=hm.mono (n:=4000) (by omega)
 cases cs with
 | nil=>exact absurd rfl h0
 | cons a r=>
   have ba:=hc a (by simp)
   have a1:=ba.m.mono (n:=4000) (by omega)
   obtain ⟨l,el⟩:∃l,(a::r).getLast?=some l:=⟨_,List.getLast?_eq_some_getLast (by simp)⟩
   have bl:=hc l (List.mem_of_getLast? el)
   refine GK (f:=cor) (k:=0) (c:=a) rfl rfl ⟨rfl,Bu m1 a1 ?_⟩
   refine E8 (b:=decide (m<a.1)) (λz=> ?_) (λz=> ?_)
   ·rw [Uw (of_decide_eq_true z)] at q
    exact q
   refine J1 (f:=cor) el ⟨rfl,Bu (bl.m.mono (by omega)) m1 ?_⟩
   refine E8 (b:=decide (l.1<m)) (λz2=> ?_) (λz2=> ?_)
   ·rw [Su hr (λl' e'=>by rw [el] at e';cases e';exact of_decide_eq_true z2)] at q
    exact q
   simp only [spotC,if_neg (of_decide_eq_false z)] at q
   have few:r.length+1<=1000:=hl
   refine Xc (cs:=a::r) (i:=1) (k:=1) rfl (by simp) ?_
   refine GJ (λrr τ=>∃(c:C4) (ds:List C4) (z2 z3 z4 z5:Option AV),rr=ES ((c::ds).map cor) (ds.map cor)/\Hi (c::ds)/\(∀d∈c::ds,EK B d)/\spotG c ds m=spotG a r m/\τ= [some (.val (Ag (a::r))),some (.val (fr m)),z2,z3,z4,z5]) ?_ ?_ _ _ ⟨a,r,none,none,none,none,rfl,hr,hc,rfl,rfl⟩
   ·rintro τ ⟨c,ds,z2,z3,z4,z5,aM,qO,hb,es,rfl⟩
    have:ds= [] :=by cases ds with | nil=>rfl|cons d ds=>cases aM
    subst this
    rw [<-es] at q
    exact q
   ·rintro x rr τ R hR ⟨c,ds,z2,z3,z4,z5,aM,qO,hb,es,rfl⟩
    cases ds with
    | nil=>cases aM
    | cons d ds=>
      cases aM
      have bc:=hb c (by simp)
      have bd:=hb d (by simp)
      have M8:=(List.pairwise_cons.mp qO).1 d (by simp)
      refine ⟨rfl,rfl,Bu (bd.m.mono (by omega)) m1 ?_⟩
      refine E8 (b:= !decide (d.1<m)) (λz=> ?_) (λz=> ?_)
      ·have z':¬d.1<m:=by simpa using z
       rw [<-es] at q
       simp only [spotG,if_neg z',IW,lE,inter] at q
       have s:=Bd.share bc bd hm M8
       refine ⟨rfl,Ca m1 (bc.m.mono (by omega)) ⟨rfl,Ca (bd.m.mono (by omega)) (bc.m.mono (by omega)) ⟨rfl,Gm (S0 M8) ((hm.sub bc.m).mono (by omega)) ((bd.m.sub bc.m).mono (by omega)) ?_⟩⟩⟩
       refine ⟨lz,lz, ?_⟩
       refine ⟨rfl,Ca (bd.x.mono (by omega)) (bc.x.mono (by omega)) ⟨rfl,Ch (s.mono (by omega)) ((bd.x.sub bc.x).mono (by omega)) ?_⟩⟩
       refine ⟨rfl,Ca (bd.y.mono (by omega)) (bc.y.mono (by omega)) ⟨rfl,Ch (s.mono (by omega)) ((bd.y.sub bc.y).mono (by omega)) ?_⟩⟩
       refine ⟨rfl,Ca (bd.z.mono (by omega)) (bc.z.mono (by omega)) ⟨rfl,Ch (s.mono (by omega)) ((bd.z.sub bc.z).mono (by omega)) ?_⟩⟩
       refine ⟨⟨by decide,by decide⟩,lz, ?_⟩
       refine ⟨rfl,DL (bc.x.mono (by omega)) ((s.mul (bd.x.sub bc.x)).mono (by omega)) ?_⟩
       refine ⟨rfl,DL (bc.y.mono (by omega)) ((s.mul (bd.y.sub bc.y)).mono (by omega)) ?_⟩
       exact ⟨rfl,DL (bc.z.mono (by omega)) ((s.mul (bd.z.sub bc.z)).mono (by omega)) q⟩
      ·have z':d.1<m:=by simpa using z
       exact hR _ ⟨d,ds,_,_,_,_,rfl,(List.pairwise_cons.mp qO).2,λe he=>hb e (by simp [he]),by rw [<-es];simp only [spotG,if_pos z'],rfl⟩
theorem iS.t3 {t:T3} (h:EW 1900 t):iS (lE t):=(Sh.tup (mw (Sh.fr h.x) (Sh.fr h.y) (Sh.fr h.z))).go (by decide) lz
def sp (cs:List C4) (m:Rat):C4:=(m,(spotC cs m).getD (0,0,0))
def Lf (f t:Rat) (c:C4):Bool:=decide (f<c.1)&&decide (c.1<t)
theorem Ox {m:Rat}:∀{a:C4} {r:List C4} {l:C4},r≠ [] ->(a::r).getLast?=some l->m<=l.1->∃t,spotG a r m=some t
 | a, [],l,h,_,_=>absurd rfl h
 | a,b::r,l,_,e,hm=>by
   simp only [spotG]
   split
   ·rename_i h
    cases r with
    | nil=>
      have:b=l:=by simpa using e
      subst this;grind
    | cons c r=>exact Ox (l:=l) (by simp) (by simpa [List.getLast?_cons_cons] using e) hm
   ·exact ⟨_,rfl⟩
theorem Gb {a:C4} {r:List C4} {l:C4} {m:Rat} (h2:r≠ []) (e:(a::r).getLast?=some l) (h0:a.1<=m) (h1:m<=l.1):∃t,spotC (a::r) m=some t:=by
 simp only [spotC]
 rw [if_neg (by grind)]
 exact Ox h2 e h1
theorem YR {a b l:C4} {r:List C4} (e:(a::b::r).getLast?=some l):(b::r).getLast?=some l:=by
 simpa [List.getLast?_cons_cons] using e
def mx (b a:Rat):Rat:=if b<a then a else b
def mn (e l:Rat):Rat:=if e<l then e else l
def NX:AS:=
 (Ar (gW (A5 (AN 2 Am (AB (aV 0) (AB (aV 1) AL)))) (aV 1) (aV 0)))
def Cs:AF:=A0 2 NX
theorem Jj {a b:Rat} (ha:Bd 4000 a) (hb:Bd 4000 b) {Q:PV->Prop} (q:Q (fr (mx a b))):Cs [fr a,fr b] Q:=by
 refine ⟨rfl,Bu ha hb ?_⟩
 refine E8 (b:=decide (a<b)) (λz=> ?_) (λz=> ?_)
 ·rw [mx,if_pos (of_decide_eq_true z)] at q;exact q
 ·rw [mx,if_neg (of_decide_eq_false z)] at q;exact q
def ZL:AS:=
 (Ar (gW (A5 (AN 2 Am (AB (aV 1) (AB (aV 0) AL)))) (aV 1) (aV 0)))
def Eu:AF:=A0 2 ZL
theorem Ti {a b:Rat} (ha:Bd 4000 a) (hb:Bd 4000 b) {Q:PV->Prop} (q:Q (fr (mn a b))):Eu [fr a,fr b] Q:=by
 refine ⟨rfl,Bu hb ha ?_⟩
 refine E8 (b:=decide (b<a)) (λz=> ?_) (λz=> ?_)
 ·have z':=of_decide_eq_true z
  rw [show mn a b=b by unfold mn;split <;> grind] at q;exact q
 ·have z':=of_decide_eq_false z
  rw [show mn a b=a by unfold mn;split <;> grind] at q;exact q
theorem D9 {α:Type} {g:AG} {tt:AT} {te:AE} {τ0:BE} {Q:List PV->Prop} (f k:α->PV) (p:α->Bool) (P:α->Prop)
 (hs:∀a,P a->∀(R:PV->Prop) (N:Prop),(p a=true->R (k a))->(p a=false->N)->g (f a) τ0 λτ1=>tt τ1 λok=>if ok=true then te τ1 R else N):
 ∀(xs:List α) (acc:List PV),(∀a∈xs,P a)->Q (acc++(xs.filter p).map k)->Ck g tt te τ0 Q (xs.map f) acc
 | [],acc,_,h=>(by simpa using h:Q acc)
 | a::xs,acc,hp,h=>by
   refine hs a (hp a (by simp)) (λy=>Ck g tt te τ0 Q (xs.map f) (acc ++ [y])) _ (λz=> ?_) (λz=> ?_)
   ·exact D9 f k p P hs xs _ (λb hb=>hp b (by simp [hb])) (by simpa [List.filter_cons,z] using h)
   ·exact D9 f k p P hs xs _ (λb hb=>hp b (by simp [hb])) (by simpa [List.filter_cons,z] using h)
theorem both {f t:Rat} {c:C4} {tt:(Bool->Prop)->Prop} {A:Prop} {N:Prop} (h1:Lf f t c=true->A) (h2:Lf f t c=false->N):
 if decide (f<c.1)=true then (if decide (c.1<t)=true then A else N) else N:=by
 unfold Lf at h1 h2
 refine E8 (λz=>E8 (λz2=>h1 (by rw [z,z2];rfl)) (λz2=>h2 (by rw [z,z2];rfl))) (λz=>h2 (by rw [z];rfl))
def Jh:AS:=
 (Ar (FZ (Cv (O8 (aV 0)) 1 [1,2] (Au 0) (HE (A5 (AN 2 Am (AB (aV 1) (AB (AX Ak (aV 0) (aC (.int 0))) AL)))) (A5 (AN 2 Am (AB (AX Ak (aV 0) (aC (.int 0))) (AB (aV 2) AL))))) (EX Dt (AB (aV 0) AL)))))
def B3:AF:=A0 3 Jh
theorem EM {cs:List C4} {v:PV} {B:Nat} {f t:Rat} (hv:Ci cs v) (hl:cs.length<=1000) (hc:∀c∈cs,EK B c) (hB:B<=4000) (hf:Bd 4000 f) (ht:Bd 4000 t) {Q:PV->Prop} (q:Q (.lst ((cs.filter (Lf f t)).map cor))):B3 [v,fr f,fr t] Q:=by
 obtain ⟨g,hg,hv⟩:=hv
 have few:(cs.map g).length<sizeLine:=by rw [List.length_map];exact Nat.lt_of_le_of_lt hl (by decide)
 have key:∀(c:C4),EK B c->∀(R:PV->Prop) (N:Prop),(Lf f t c=true->R (cor c))->(Lf f t c=false->N)->
  (Au 0) (g c) [none,some (.val (fr f)),some (.val (fr t))] λτ1=>(HE (A5 (AN 2 Am (AB (aV 1) (AB (AX Ak (aV 0) (aC (.int 0))) AL)))) (A5 (AN 2 Am (AB (AX Ak (aV 0) (aC (.int 0))) (AB (aV 2) AL))))) τ1 λok=>if ok=true then (EX Dt (AB (aV 0) AL)) τ1 R else N:=by
  intro c bc R N h1 h2
  have bm:=bc.m.mono hB
  rcases hg with rfl|rfl
  all_goals
   refine ⟨rfl,Bu hf bm ?_⟩
   refine E8 (b:=decide (f<c.1)) (λz=> ?_) (λz=>h2 (by unfold Lf;rw [z];rfl))
   refine ⟨rfl,Bu bm ht ?_⟩
   exact E8 (b:=decide (c.1<t)) (λz2=>h1 (by unfold Lf;rw [z,z2];rfl)) (λz2=>h2 (by unfold Lf;rw [z,z2];rfl))
 rcases hv with rfl|rfl
 ·exact ⟨few,D9 g cor (Lf f t) (EK B) key cs [] hc q⟩
 ·exact ⟨few,D9 g cor (Lf f t) (EK B) key cs [] hc q⟩
theorem Bd.mx {n:Nat} {a b:Rat} (ha:Bd n a) (hb:Bd n b):Bd n (mx a b):=by unfold PL.mx;split <;> assumption
theorem Bd.mn {n:Nat} {a b:Rat} (ha:Bd n a) (hb:Bd n b):Bd n (mn a b):=by unfold PL.mn;split <;> assumption
end PL
end
section
namespace PL
open PySem L2 PyProof.Rows
section
variable {a b:AS} {ta tb:AE} {tt tu:AT} {g:AG} {gs:U6} {nx bk ct:BE->Prop} {rt:PV->Prop} {τ:BE} {Q:PV->Prop} {QB:Bool->Prop} {QL:List PV->Prop} {QT:BE->Prop} {r:AA} {ai:AI} {F:AF} {n i j:Nat} {x y z:PV} {xs ys:List PV}
theorem nZ {f:JW} (e:S8 τ i=some (.val x)) (h:ta τ λy=>f x y λz=>nx (τ.set i (some (.val z)))):VF i f ta ⟨nx,rt,bk,ct⟩ τ:=by unfold VF;rw [e];exact h
theorem nv (e:S8 τ i=some (.own xs)) (h:QL xs):Ml i τ QL:=by unfold Ml;rw [e];exact h
theorem we (e:S8 τ i=some (.val x)) (h:Q x):aV i τ Q:=by unfold aV;rw [e];exact h
def tN (x:PV) (i:Int):Option PV:=match x with | .tup xs=>Hk xs i | .lst xs=>Hk xs i|_=>none
theorem qg {i:Int} (e:tN x i=some z) (h:Q z):Ak x (.int i) Q:=by
 cases x <;> first | (cases e;done)|(show ZE (Hk _ i) Q;rw [show Hk _ i=some z from e];exact h)
theorem bi {a:C4} {cs:List C4} (h:Q (cor a)):Ak (Ag (a::cs)) (.int 0) Q:=GK (k:=0) (c:=a) rfl rfl h
theorem kC {l:C4} {cs:List C4} (el:cs.getLast?=some l) (h:Q (cor l)):Ak (Ag cs) (.int (-1)) Q:=J1 el h
theorem nu {a b:Rat} (h:Q (.bl (!decide (a=b)))):cm (fr a) (fr b) Q:=⟨⟨gy 29 _,gy 29 _⟩,by rw [ii];exact h⟩
theorem kD {cs:List C4} (h:Q (.int cs.length)):Fc [Ag cs] Q:=by
 show Q (.int (cs.map cor).length);rw [List.length_map];exact h
theorem nr {T:String} {k:Kd} (ht:aO T) (e:kdOf x=some k) (h:Q (.bl (Rf k T))):Vb [x, .ty T] Q:=by
 refine ⟨ht, ?_⟩;rw [e];exact h
theorem hJ {g:List Bool->Bool} {bs:List Bool} (e:Jw xs=some bs) (h:Q (.bl (g bs))):Z5 g [.lst xs] Q:=by
 show (match Jw xs with | some bs=>Q (.bl (g bs))|none=>False);rw [e];exact h
theorem nh {c:Bool} {A B:Prop} (e:c=true) (h:A):if c=true then A else B:=by rw [if_pos e];exact h
theorem ng {c:Bool} {A B:Prop} (e:c=false) (h:B):if c=true then A else B:=by rw [if_neg (by rw [e];exact Bool.false_ne_true)];exact h
theorem nj {p:Prop} [Decidable p] {A B:Prop} (h1:p->A) (h2:¬p->B):if decide p=true then A else B:=by
 by_cases h:p
 ·rw [if_pos (decide_eq_true h)];exact h1 h
 ·rw [if_neg (by simp [h])];exact h2 h
theorem nk {p:Prop} [Decidable p] {A B:Prop} (h1:¬p->A) (h2:p->B):if (!decide p)=true then A else B:=by
 by_cases h:p
 ·rw [if_neg (by simp [h])];exact h2 h
 ·rw [if_pos (by simp [h])];exact h1 h
end
end PL
namespace PL
open PySem L2 PyProof.Rows
theorem Y7:Bd 1 (0:Rat):=⟨by decide,by decide⟩
theorem gY:Bd 1 (1:Rat):=⟨by decide,by decide⟩
end PL
namespace PL
open PySem L2 PyProof.Rows
section
variable {g:AG} {b:AS} {nx bk ct:BE->Prop} {rt:PV->Prop}
theorem RS (P:Nat->BE->Prop) {lo:Int} {n:Nat} (hd:∀τ,P n τ->nx τ)
 (hs:∀i,i<n->∀τ (R:BE->Prop),(∀τ,P (i+1) τ->R τ)->P i τ->g (.int (lo+i)) τ λτ1=>b ⟨R,rt,nx,R⟩ τ1) {τ:BE} (h0:P 0 τ):Cm g b ⟨nx,rt,bk,ct⟩ (rng lo n) τ:=by
 refine GJ (λr τ=>∃i,i<=n/\r=rng (lo+i) (n-i)/\P i τ) ?_ ?_ _ _ ⟨0,Nat.zero_le _,by simp,h0⟩
 ·rintro τ ⟨i,hi,hr,hp⟩
  have:n-i=0:=by
   cases e:n-i with
   | zero=>rfl
   | succ k=>rw [e,KO] at hr;cases hr
  have:i=n:=by omega
  subst this
  exact hd τ hp
 ·rintro x r τ R hR ⟨i,hi,hr,hp⟩
  cases e:n-i with
  | zero=>rw [e] at hr;cases hr
  | succ k=>
    rw [e,KO] at hr
    cases hr
    exact hs i (by omega) τ R (λτ2 h2=>hR τ2 ⟨i+1,by omega,by rw [show n-(i+1)=k by omega,show lo+((i+1:Nat):Int)=lo+i+1 by omega],h2⟩) hp
theorem FB {α:Type} (f:α->PV) (P:List α->List α->BE->Prop) {cs:List α} (hd:∀τ,P cs [] τ->nx τ)
 (hs:∀us c vs,us++c::vs=cs->∀τ (R:BE->Prop),(∀τ,P (us ++ [c]) vs τ->R τ)->P us (c::vs) τ->g (f c) τ λτ1=>b ⟨R,rt,nx,R⟩ τ1) {τ:BE} (h0:P [] cs τ):Cm g b ⟨nx,rt,bk,ct⟩ (cs.map f) τ:=by
 refine GJ (λr τ=>∃us vs,us++vs=cs/\r=vs.map f/\P us vs τ) ?_ ?_ _ _ ⟨[],cs,rfl,rfl,h0⟩
 ·rintro τ ⟨us,vs,e,hr,hp⟩
  cases vs with
  | nil=>rw [List.append_nil] at e;subst e;exact hd τ hp
  | cons v vs=>cases hr
 ·rintro x r τ R hR ⟨us,vs,e,hr,hp⟩
  cases vs with
  | nil=>cases hr
  | cons c vs=>
    cases hr
    exact hs us c vs e τ R (λτ2 h2=>hR τ2 ⟨us ++ [c],vs,by simpa using e,rfl,h2⟩) hp
theorem dZ (P:BE->Prop) {xs:List PV} (hd:∀τ,P τ->nx τ)
 (hs:∀x∈xs,∀τ (R:BE->Prop),(∀τ,P τ->R τ)->P τ->g x τ λτ1=>b ⟨R,rt,nx,R⟩ τ1) {τ:BE} (h0:P τ):Cm g b ⟨nx,rt,bk,ct⟩ xs τ:=by
 refine GJ (λr τ=>(∀x∈r,x∈xs)/\P τ) ?_ ?_ _ _ ⟨λ_ h=>h,h0⟩
 ·rintro τ ⟨_,hp⟩
  exact hd τ hp
 ·rintro x r τ R hR ⟨hm,hp⟩
  exact hs x (hm x (by simp)) τ R (λτ2 h2=>hR τ2 ⟨λy hy=>hm y (by simp [hy]),h2⟩) hp
theorem oO {c:AT} (P:Nat->BE->Prop)
 (hs:∀n τ (R:BE->Prop),(∀τ,P n τ->R τ)->P (n+1) τ->c (frz τ) λk=>if k=true then b ⟨R,rt,nx,R⟩ τ else nx τ) (vx:∀τ,¬P 0 τ) {n:Nat} {τ:BE} (h0:P n τ):Lb c b ⟨nx,rt,bk,ct⟩ τ:=
 ⟨n,WW P vx (λn τ R hR hp=>hs n τ R hR hp) n τ h0⟩
end
section
variable {g:AG} {tt:AT} {te:AE} {τ0:BE} {Q:List PV->Prop}
end
end PL
namespace PL
section
variable {p:Prop} [Decidable p] {A B:Prop}
end
end PL
end
section
namespace PL
open PySem PySem.Spec PyProof.Rows L2
section
variable {K:PySem.W.Frag} {T M:Addr->Prop} {H:Hp}
inductive KR (K:PySem.W.Frag):List Value->List PV->Prop where
 | nil:KR K [] []
 | cons {u:Value} {x:PV} {us:List Value} {xs:List PV} (h:∃V,RelV V u/\∀T M H,CT K T M H V x) (t:KR K us xs):KR K (u::us) (x::xs)
theorem KR.length:∀{us:List Value} {xs:List PV},KR K us xs->us.length=xs.length
 | _,_, .nil=>rfl
 | _,_, .cons _ t=>by simp [t.length]
end
def dE (K:PySem.W.Frag) (d:Addr):List (Str×PV)->Prop
 | [] =>True
 | p::r=>(∃(u:Value) (V:V),PySem.W.nsIn K d p.1=some (some u)/\RelV V u/\∀T M H,CT K T M H V p.2)/\dE K d r
theorem dE.get {K:PySem.W.Frag} {d:Addr}:∀{tb:List (Str×PV)},dE K d tb->∀s v,tb.lookup s=some v->∃(u:Value) (V:V),PySem.W.nsIn K d s=some (some u)/\RelV V u/\∀T M H,CT K T M H V v
 | [],_,s,v,e=>by cases e
 | (a,b)::r,h,s,v,e=>by
   rw [List.lookup_cons] at e
   split at e
   ·rename_i hb
    cases e
    have:s=a:=eq_of_beq hb
    subst this
    exact h.1
   ·exact dE.get h.2 s v e
section
variable {X:Cx}
end
end PL
end
section
namespace PL
open PySem L2 PyProof.Rows
class Wp (P:Prop) (P':outParam Prop):Prop where
 go:P'->P
class O7 (P:Prop) (C P':outParam Prop):Prop where
 go:C->P'->P
class gU (P:Prop) (P':outParam Prop):Prop where
 go:P'->P
class pV (P:Prop) (A B:outParam Prop):Prop where
 go:A->B->P
class gR (τ:BE) (i:Nat) (x:outParam AV):Prop where
 e:S8 τ i=some x
instance xg {v:AV} {r:BE}:gR (some v::r) 0 v:=⟨rfl⟩
instance xh {y:Option AV} {r:BE} {i:Nat} {v:AV} [h:gR r i v] :gR (y::r) (i+1) v:=⟨h.e⟩
class Zd (τ:BE) (i:Nat) (v:AV) (τ':outParam BE):Prop where
 e:τ.set i (some v)=τ'
instance wn {y:Option AV} {r:BE} {v:AV}:Zd (y::r) 0 v (some v::r):=⟨rfl⟩
instance wo {y:Option AV} {r r':BE} {i:Nat} {v:AV} [h:Zd r i v r'] :Zd (y::r) (i+1) v (y::r'):=⟨by rw [List.set_cons_succ,h.e]⟩
class Y6 (τ:BE) (τ':outParam BE):Prop where
 e:frz τ=τ'
instance vo:Y6 [] [] :=⟨rfl⟩
instance (priority:=low) vw {z:Option AV} {r r':BE} [h:Y6 r r'] :Y6 (z::r) (db z::r'):=⟨by rw [<-h.e];rfl⟩
instance vp {r r':BE} [h:Y6 r r'] :Y6 (none::r) (none::r'):=⟨by rw [<-h.e];rfl⟩
instance vt {x:PV} {r r':BE} [h:Y6 r r'] :Y6 (some (.val x)::r) (some (.val x)::r'):=⟨by rw [<-h.e];rfl⟩
instance vq {x:List PV} {r r':BE} [h:Y6 r r'] :Y6 (some (.own x)::r) (some (.val (.lst x))::r'):=⟨by rw [<-h.e];rfl⟩
class lV (ix:List Nat) (τ:BE) (τ':outParam BE):Prop where
 e:(ix.map λi=>X0 (S8 τ i))=τ'
instance xR {τ:BE}:lV [] τ [] :=⟨rfl⟩
instance xS {τ r:BE} {i:Nat} {ix:List Nat} {x:PV} [h:gR τ i (.val x)] [h2:lV ix τ r] :lV (i::ix) τ (some (.val x)::r):=⟨by rw [List.map_cons,h.e,h2.e];rfl⟩
class ln (n:Nat) (τ:outParam BE):Prop where
 e:List.replicate n none=τ
instance xi:ln 0 [] :=⟨rfl⟩
instance xj {n:Nat} {τ:BE} [h:ln n τ] :ln (n+1) (none::τ):=⟨by rw [List.replicate_succ,h.e]⟩
class ZM (xs ys:BE) (zs:outParam BE):Prop where
 e:xs++ys=zs
instance xT {ys:BE}:ZM [] ys ys:=⟨rfl⟩
instance xU {x:Option AV} {xs ys zs:BE} [h:ZM xs ys zs] :ZM (x::xs) ys (x::zs):=⟨by rw [List.cons_append,h.e]⟩
class ZN (xs ys:List PV) (zs:outParam (List PV)):Prop where
 e:xs++ys=zs
instance vk {ys:List PV}:ZN [] ys ys:=⟨rfl⟩
instance vm {x:PV} {xs ys zs:List PV} [h:ZN xs ys zs] :ZN (x::xs) ys (x::zs):=⟨by rw [List.cons_append,h.e]⟩
class dG (xs:List PV) (n:outParam Nat):Prop where
 e:xs.length=n
instance wg:dG [] 0:=⟨rfl⟩
instance wj {x:PV} {xs:List PV} {n:Nat} [h:dG xs n] :dG (x::xs) (n+1):=⟨by rw [List.length_cons,h.e]⟩
class Ix (x:PV) (i:Int) (y:outParam PV):Prop where
 e:tN x i=some y
class xN (xs:List PV) (n:Nat) (y:outParam PV):Prop where
 e:xs[n]? =some y
section
variable {a b:AS} {ta tb:AE} {tt tu:AT} {g:AG} {gs:U6} {nx bk ct:BE->Prop} {rt:PV->Prop} {τ τ' τ2:BE} {Q:PV->Prop} {QB:Bool->Prop} {QL:List PV->Prop} {QT:BE->Prop} {r:AA} {ai:AI} {F:AF} {n i j:Nat} {x y z:PV} {xs ys zs:List PV}
instance om {p0:PV} {q:List PV}:Ix (.tup (p0::q)) 0 p0:=⟨Cj (j:=0) rfl⟩
instance oh {p0:PV} {q:List PV}:Ix (.lst (p0::q)) 0 p0:=⟨Cj (j:=0) rfl⟩
instance oo {p0 p1:PV} {q:List PV}:Ix (.tup (p0::p1::q)) 1 p1:=⟨Cj (j:=1) rfl⟩
instance oi {p0 p1:PV} {q:List PV}:Ix (.lst (p0::p1::q)) 1 p1:=⟨Cj (j:=1) rfl⟩
instance ou {p0 p1 p2:PV} {q:List PV}:Ix (.tup (p0::p1::p2::q)) 2 p2:=⟨Cj (j:=2) rfl⟩
instance oj {p0 p1 p2:PV} {q:List PV}:Ix (.lst (p0::p1::p2::q)) 2 p2:=⟨Cj (j:=2) rfl⟩
instance tT {q:Rat}:Ix (fr q) 0 (.int q.num):=⟨rfl⟩
instance tU {q:Rat}:Ix (fr q) 1 (.int q.den):=⟨rfl⟩
instance tP {c:C4}:Ix (cor c) 0 (fr c.1):=⟨rfl⟩
instance tQ {c:C4}:Ix (cor c) 1 (fr c.2.1):=⟨rfl⟩
instance tR {c:C4}:Ix (cor c) 2 (fr c.2.2.1):=⟨rfl⟩
instance tS {c:C4}:Ix (cor c) 3 (fr c.2.2.2):=⟨rfl⟩
theorem pX {f:C4->PV} {c:C4} {cs:List C4}:Hk ((c::cs).map f) 0=some (f c):=Cj (j:=0) rfl
instance tV {c:C4} {cs:List C4}:Ix (Ag (c::cs)) 0 (cor c):=⟨pX⟩
instance um:Wp (Ab a b ⟨nx,rt,bk,ct⟩ τ) (a ⟨b ⟨nx,rt,bk,ct⟩,rt,bk,ct⟩ τ):=⟨id⟩
instance t8:Wp (Ao ta g ⟨nx,rt,bk,ct⟩ τ) (ta τ λx=>g x τ nx):=⟨id⟩
instance uk [h:Y6 τ τ'] :Wp (Ar ta ⟨nx,rt,bk,ct⟩ τ) (ta τ' rt):=⟨λk=>by unfold Ar;rw [h.e];exact k⟩
instance w_next:Wp (BM ⟨nx,rt,bk,ct⟩ τ) (nx τ):=⟨id⟩
instance uJ:Wp (Bz tt a b ⟨nx,rt,bk,ct⟩ τ) (tt τ λk=>if k=true then a ⟨nx,rt,bk,ct⟩ τ else b ⟨nx,rt,bk,ct⟩ τ):=⟨id⟩
def P8 (τ:BE) (i:Nat) (v:AV) (QT:BE->Prop):Prop:=QT (τ.set i (some v))
instance sB {v:AV} [h:Zd τ i v τ'] :Wp (P8 τ i v QT) (QT τ'):=⟨λk=>by unfold P8;rw [h.e];exact k⟩
instance uX:Wp (JB r i ⟨nx,rt,bk,ct⟩ τ) (r τ λxs=>P8 τ i (.own xs) nx):=⟨id⟩
instance w5 [h:Zd τ i (.val x) τ'] :Wp (Au i x τ QT) (QT τ'):=⟨λk=>by unfold Au;rw [h.e];exact k⟩
instance t9 {f:JW} [h:gR τ i (.val x)] :Wp (VF i f ta ⟨nx,rt,bk,ct⟩ τ) (ta τ λy=>f x y λz=>P8 τ i (.val z) nx):=⟨λk=>nZ h.e k⟩
instance uh [h:gR τ i (.own xs)] :Wp (Ml i τ QL) (QL xs):=⟨λk=>nv h.e k⟩
instance rZ {f:iR}:Wp (EY i f r ⟨nx,rt,bk,ct⟩ τ) (Ml i τ λxs=>r τ λys=>f xs ys λzs=>P8 τ i (.own zs) nx):=⟨id⟩
instance t7:Wp (KD xs [y] QL) (xs.length<sizeLine/\QL (xs ++ [y])):=⟨id⟩
instance qw {k:Int}:Wp (aa xs [.int k,y] QL) ((0<=k/\k<=(xs.length:Int)/\xs.length<sizeLine)/\QL (xs.take k.toNat++y::xs.drop k.toNat)):=⟨id⟩
instance uE:Wp (FY ai g b ⟨nx,rt,bk,ct⟩ τ) (ai τ λxs=>Cm g b ⟨nx,rt,bk,ct⟩ xs τ):=⟨id⟩
instance rB:Wp (Cm g b ⟨nx,rt,bk,ct⟩ [] τ) (nx τ):=⟨id⟩
instance rE {q:List PV}:gU (Cm g b ⟨nx,rt,bk,ct⟩ (x::q) τ) (g x τ λτ1=>b ⟨Cm g b ⟨nx,rt,bk,ct⟩ q,rt,nx,Cm g b ⟨nx,rt,bk,ct⟩ q⟩ τ1):=⟨id⟩
instance rG:Wp (CJ [] τ QT) (QT τ):=⟨id⟩
instance o8 {t:List PV}:Wp (Ai g gs (x::t) τ QT) (g x τ λτ'=>gs t τ' QT):=⟨id⟩
instance w6:Wp (MD n gs x τ QT) (S9 x λxs=>xs.length=n/\gs xs τ QT):=⟨id⟩
instance xn [h:gR τ i (.val x)] :Wp (aV i τ Q) (Q x):=⟨λk=>we h.e k⟩
instance xk:Wp (aC x τ Q) (Q x):=⟨id⟩
instance xH {f:JW}:Wp (AX f ta tb τ Q) (ta τ λx=>tb τ λy=>f x y Q):=⟨id⟩
instance xK {f:PV->(PV->Prop)->Prop}:Wp (N2 f ta τ Q) (ta τ λx=>f x Q):=⟨id⟩
instance w_and:Wp (Xz ta tb τ Q) (ta τ λx=>jf x λc=>if c=true then tb τ Q else Q (.bl false)):=⟨id⟩
instance u6:Wp (A5 ta τ QB) (ta τ λx=>jf x QB):=⟨id⟩
def tX (x:PV) (QB:Bool->Prop):Prop:=match gJ x with | some b=>QB b|none=>False
instance u5:Wp (VI ta τ QB) (ta τ λx=>tX x QB):=⟨id⟩
instance sE {c:Bool}:Wp (tX (.bl c) QB) (QB c):=⟨id⟩
instance rk:Wp (Gr tt τ QB) (tt τ λc=>QB (!c)):=⟨id⟩
instance qv:Wp (HE tt tu τ QB) (tt τ λc=>if c=true then tu τ QB else QB false):=⟨id⟩
instance ug:Wp (Pa tt tu τ QB) (tt τ λc=>if c=true then QB true else tu τ QB):=⟨id⟩
instance xC:Wp (gW tt ta tb τ Q) (tt τ λc=>if c=true then ta τ Q else tb τ Q):=⟨id⟩
instance u8:Wp (E7 τ QB) (QB true):=⟨id⟩
instance w_bor [h:Y6 τ τ'] :Wp (Tl ta τ Q) (ta τ' λx=>ZD x=true/\Q x):=⟨λk=>by unfold Tl;rw [h.e];exact k⟩
instance qy [h:Y6 τ τ'] :Wp (Tn tt τ QB) (tt τ' QB):=⟨λk=>by unfold Tn;rw [h.e];exact k⟩
instance uY:Wp (AL τ QL) (QL []):=⟨id⟩
instance q9:Wp (AB ta r τ QL) (ta τ λx=>r τ λxs=>QL (x::xs)):=⟨id⟩
def ZC (xs:List PV) (Q:PV->Prop):Prop:=xs.length<=sizeLine/\Q (.tup xs)
instance u7:Wp (A3 r τ Q) (r τ λxs=>ZC xs Q):=⟨id⟩
instance uM:Wp (DF r τ QL) (r τ λxs=>xs.length<=sizeLine/\QL xs):=⟨id⟩
instance w4:Wp (FZ r τ Q) (r τ λxs=>Q (.lst xs)):=⟨id⟩
instance w_call:Wp (AN n F r τ Q) (r τ λxs=>xs.length=n/\F xs Q):=⟨id⟩
instance wy:Wp (EX F r τ Q) (r τ λxs=>F xs Q):=⟨id⟩
instance rX:Wp (Zh r τ QL) (r τ λxs=>Wy xs QL):=⟨id⟩
instance q8 {own:Nat} {ix:List Nat} {te:AE} {τ3 τ4:BE} [h1:ln own τ3] [h2:lV ix τ τ4] [h3:ZM τ3 τ4 τ'] :Wp (Cv ai own ix g tt te τ QL) (ai τ λxs=>xs.length<sizeLine/\Ck g tt te τ' QL xs []):=⟨λk=>by unfold Cv Jv;rw [h1.e,h2.e,h3.e];exact k⟩
instance q0 {te:AE} {acc:List PV}:Wp (Ck g tt te τ QL [] acc) (QL acc):=⟨id⟩
instance q5 {te:AE} {acc q:List PV}:Wp (Ck g tt te τ QL (x::q) acc) (g x τ λτ1=>tt τ1 λok=>if ok=true then te τ1 λy=>Ck g tt te τ QL q (acc ++ [y]) else Ck g tt te τ QL q acc):=⟨id⟩
instance xA:Wp (O8 ta τ QL) (ta τ λx=>S9 x QL):=⟨id⟩
instance uG:Wp (Pd (AB ta AL) τ QL) (ta τ λx=>ao x λj=>(-(2^62)<=j/\j<2^62)/\QL (rng 0 j.toNat)):=⟨λh=>by have e:(λx=>ao x λj=>(-(2^62)<=j/\j<2^62)/\QL (rng 0 j.toNat))=(λx=>match [x] with | [.int j] =>(-(2^62)<=j/\j<2^62)/\QL (rng 0 j.toNat)|_=>False):=(funext λx=>by cases x <;> rfl);rw [e] at h;exact h⟩
instance uH:Wp (dL (AB ta (AB tb AL)) τ QL) (ta τ λx=>tb τ λy=>Yh x y λi j=>(-(2^62)<=i/\i<2^62/\ -(2^62)<=j/\j<2^62)/\QL (rng i (j-i).toNat)):=⟨λh=>by have e:(λx=>tb τ λy=>Yh x y λi j=>(-(2^62)<=i/\i<2^62/\ -(2^62)<=j/\j<2^62)/\QL (rng i (j-i).toNat))=(λx=>tb τ λy=>match [x,y] with | [.int i, .int j] =>(-(2^62)<=i/\i<2^62/\ -(2^62)<=j/\j<2^62)/\QL (rng i (j-i).toNat)|_=>False):=(funext λx=>congrArg (tb τ) (funext λy=>by cases x <;> cases y <;> rfl));rw [e] at h;exact h⟩
instance xB:Wp (gX (AB ta (AB tb AL)) τ QL) (ta τ λx=>tb τ λy=>S9 x λxs=>S9 y λys=>QL (ES xs ys)):=⟨id⟩
instance ui:Wp (Pb i j (AB ta (AB tb AL)) ⟨nx,rt,bk,ct⟩ τ) (ta τ λx=>tb τ λy=>P8 τ i (.val x) λτ1=>P8 τ1 j (.val y) nx):=⟨id⟩
instance uf {R:Int->Prop} {k:Int}:Wp (ao (.int k) R) (R k):=⟨id⟩
instance rm {R:Int->Int->Prop} {k l:Int}:Wp (Yh (.int k) (.int l) R) (R k l):=⟨id⟩
instance uc {R:Bool->Prop} {c:Bool}:Wp (jf (.bl c) R) (R c):=⟨id⟩
instance sA:Wp (S9 (.tup xs) QL) (QL xs):=⟨id⟩
instance rq:Wp (S9 (.lst xs) QL) (QL xs):=⟨id⟩
instance rp {q:Rat}:Wp (S9 (fr q) QL) (QL [.int q.num, .int q.den]):=⟨id⟩
instance r9 {cs:List C4}:Wp (S9 (Ag cs) QL) (QL (cs.map cor)):=⟨id⟩
instance xl {f:Int->Int->PV} {k l:Int}:Wp (fI f (.int k) (.int l) Q) (Q (f k l)):=⟨id⟩
instance wx {C:Int->Int->Prop} {f:Int->Int->PV} {k l:Int}:Wp (lA C f (.int k) (.int l) Q) (C k l/\Q (f k l)):=⟨id⟩
instance lH:Wp (RR .non .non Q) (Q (.bl true)):=⟨id⟩
instance lQ:Wp (MF .non .non Q) (Q (.bl false)):=⟨id⟩
instance lG {k:Int}:Wp (RR (.int k) .non Q) (Q (.bl false)):=⟨id⟩
instance lI:Wp (RR (.tup xs) .non Q) (Q (.bl false)):=⟨id⟩
instance lR:Wp (MF (.tup xs) .non Q) (Q (.bl true)):=⟨id⟩
instance oN {k:Rat}:Wp (MF (fr k) .non Q) (Q (.bl true)):=⟨id⟩
instance xD {k:Int} [h:Ix x k z] :Wp (Ak x (.int k) Q) (Q z):=⟨λq=>qg h.e q⟩
instance uW {k:Int}:Wp (Fb (.int k) Q) (Q (.int (-k))):=⟨id⟩
instance w_not {c:Bool}:Wp (im (.bl c) Q) (Q (.bl (!c))):=⟨id⟩
instance qt {k l:Int}:Wp (BJ (.int k) (.int l) Q) (Q (.int (k+l))):=⟨id⟩
instance (priority:=high) o6 [h:ZN xs ys zs] {n:Nat} [h2:dG zs n] :Wp (BJ (.tup xs) (.tup ys) Q) (n<=sizeLine/\Q (.tup zs)):=⟨λk=>⟨by have e:=h2.e;rw [<-h.e,List.length_append] at e;rw [e];exact k.1,by rw [h.e];exact k.2⟩⟩
instance qu:Wp (BJ (.lst xs) (.lst ys) Q) (xs.length+ys.length<=sizeLine/\Q (.lst (xs++ys))):=⟨id⟩
instance uC {k l:Int}:Wp (M6 (.int k) (.int l) Q) (Q (.bl (decide (k=l)))):=⟨id⟩
instance uV {k l:Int}:Wp (cm (.int k) (.int l) Q) (Q (.bl (!decide (k=l)))):=⟨id⟩
instance uB {k l:Bool}:Wp (M6 (.bl k) (.bl l) Q) (Q (.bl (decide (k=l)))):=⟨id⟩
instance uU {k l:Rat}:Wp (cm (fr k) (fr l) Q) (Q (.bl (!decide (k=l)))):=⟨nu⟩
instance rW:Wp (Fc [.tup xs] Q) (Q (.int xs.length)):=⟨id⟩
instance rT {ns:List Int}:Wp (Fc [.scr ns] Q) (Q (.int ns.length)):=⟨id⟩
instance rS {cs:List C4}:Wp (Fc [Ag cs] Q) (Q (.int cs.length)):=⟨kD⟩
instance (priority:=high) lK {α:Type} {f:α->PV} {cs:List α}:Wp (Fc [.tup (cs.map f)] Q) (Q (.int cs.length)):=⟨λh=>by show Q (.int (cs.map f).length);rw [List.length_map];exact h⟩
instance (priority:=high) lJ {α:Type} {f:α->PV} {cs:List α}:Wp (Fc [.lst (cs.map f)] Q) (Q (.int cs.length)):=⟨λh=>by show Q (.int (cs.map f).length);rw [List.length_map];exact h⟩
instance t6 {k:Int}:Wp (RV [.int k] Q) (Q (.int k.natAbs)):=⟨id⟩
instance w9 {f:Int->Int->Int} {k l:Int}:Wp (l8 f [.int k, .int l] Q) (Q (.int (f k l))):=⟨id⟩
instance rK {c:Bool}:Wp (Pj [.bl c] Q) (Q (.int (if c then 1 else 0))):=⟨id⟩
instance sF:Wp (Dt [.lst xs] Q) (Q (.tup xs)):=⟨id⟩
instance rY:Wp (Wy [.lst xs] QL) (QL xs):=⟨id⟩
instance uo {lo hi:Option Int}:Wp (VY (.lst xs) lo hi Q) (Q (.lst (IB xs lo hi))):=⟨Ek⟩
instance xJ {l h:AO}:Wp (We ta l h τ Q) (ta τ λx=>l τ λlo=>h τ λhi=>VY x lo hi Q):=⟨id⟩
instance xF {R:Option Int->Prop}:Wp (Wg τ R) (R none):=⟨id⟩
instance xG {R:Option Int->Prop}:Wp (Wh ta τ R) (ta τ λx=>ao x λi=>R (some i)):=⟨id⟩
instance uL {A B:Prop}:Wp (if true=true then A else B) (A):=⟨λh=>by rw [if_pos rfl];exact h⟩
instance uK {A B:Prop}:Wp (if false=true then A else B) (B):=⟨λh=>by rw [if_neg Bool.false_ne_true];exact h⟩
instance rJ {A B:Prop}:Wp (if (!true)=true then A else B) (B):=⟨λh=>h⟩
instance rH {A B:Prop}:Wp (if (!false)=true then A else B) (A):=⟨λh=>h⟩
instance xo {p A B:Prop} [Decidable p] :pV (if decide p=true then A else B) (p->A) (¬p->B):=⟨nj⟩
instance wz {p A B:Prop} [Decidable p] :pV (if (!decide p)=true then A else B) (¬p->A) (p->B):=⟨nk⟩
instance uv {A:Prop}:Wp (([] :List PV).length<=sizeLine/\A) (A):=⟨λh=>⟨lz,h⟩⟩
instance uq {A:Prop}:Wp (([] :List PV).length<sizeLine/\A) (A):=⟨λh=>⟨lz,h⟩⟩
instance rN {p0:PV} {A:Prop}:Wp ([p0].length=1/\A) (A):=⟨λh=>⟨rfl,h⟩⟩
instance uw {p0:PV} {A:Prop}:Wp ([p0].length<=sizeLine/\A) (A):=⟨λh=>⟨lz,h⟩⟩
instance rO {p0 p1:PV} {A:Prop}:Wp ([p0,p1].length=2/\A) (A):=⟨λh=>⟨rfl,h⟩⟩
instance ux {p0 p1:PV} {A:Prop}:Wp ([p0,p1].length<=sizeLine/\A) (A):=⟨λh=>⟨lz,h⟩⟩
instance ur {p0 p1:PV} {A:Prop}:Wp ([p0,p1].length<sizeLine/\A) (A):=⟨λh=>⟨lz,h⟩⟩
instance rP {p0 p1 p2:PV} {A:Prop}:Wp ([p0,p1,p2].length=3/\A) (A):=⟨λh=>⟨rfl,h⟩⟩
instance uz {p0 p1 p2:PV} {A:Prop}:Wp ([p0,p1,p2].length<=sizeLine/\A) (A):=⟨λh=>⟨lz,h⟩⟩
instance ut {p0 p1 p2:PV} {A:Prop}:Wp ([p0,p1,p2].length<sizeLine/\A) (A):=⟨λh=>⟨lz,h⟩⟩
instance rQ {p0 p1 p2 p3:PV} {A:Prop}:Wp ([p0,p1,p2,p3].length=4/\A) (A):=⟨λh=>⟨rfl,h⟩⟩
instance u0 {p0 p1 p2 p3:PV} {A:Prop}:Wp ([p0,p1,p2,p3].length<=sizeLine/\A) (A):=⟨λh=>⟨lz,h⟩⟩
instance rR {p0 p1 p2 p3 p4:PV} {A:Prop}:Wp ([p0,p1,p2,p3,p4].length=5/\A) (A):=⟨λh=>⟨rfl,h⟩⟩
instance u3 {p0 p1 p2 p3 p4:PV} {A:Prop}:Wp ([p0,p1,p2,p3,p4].length<=sizeLine/\A) (A):=⟨λh=>⟨lz,h⟩⟩
instance uN {p0:PV}:Wp (ZC [p0] Q) (Q (.tup [p0])):=⟨λh=>⟨lz,h⟩⟩
instance uO {p0 p1:PV}:Wp (ZC [p0,p1] Q) (Q (.tup [p0,p1])):=⟨λh=>⟨lz,h⟩⟩
instance uP {p0 p1 p2:PV}:Wp (ZC [p0,p1,p2] Q) (Q (.tup [p0,p1,p2])):=⟨λh=>⟨lz,h⟩⟩
instance uQ {p0 p1 p2 p3:PV}:Wp (ZC [p0,p1,p2,p3] Q) (Q (.tup [p0,p1,p2,p3])):=⟨λh=>⟨lz,h⟩⟩
instance (priority:=high+10) rc:Wp (ZC [.int 0, .int 1] Q) (Q (fr 0)):=⟨λh=>⟨lz,h⟩⟩
instance (priority:=high+10) rf:Wp (ZC [.int 1, .int 1] Q) (Q (fr 1)):=⟨λh=>⟨lz,h⟩⟩
instance (priority:=high) rh {k:Int}:Wp (ZC [.int k, .int 1] Q) (Q (fr (k:Rat))):=⟨λh=>⟨lz,S3 h⟩⟩
instance (priority:=high) u4 {k:Rat} {p q r:Rat}:Wp (BJ (.tup [fr k]) (.tup [fr p,fr q,fr r]) Q) (Q (cor (k,p,q,r))):=⟨λh=>⟨lz,h⟩⟩
theorem iq:PV.tup [.int 1, .int 2] =fr (1/2):=by unfold fr;rw [show ((1:Rat)/2).num=1 by decide +kernel,show ((1:Rat)/2).den=2 by decide +kernel];rfl
instance (priority:=high) lM:Wp (ZC [.int 1, .int 2] Q) (Q (fr (1/2))):=⟨λh=>⟨lz,by rw [iq];exact h⟩⟩
theorem ir:PV.tup [.int 1, .int 3] =fr (1/3):=by unfold fr;rw [show ((1:Rat)/3).num=1 by decide +kernel,show ((1:Rat)/3).den=3 by decide +kernel];rfl
instance (priority:=high) lN:Wp (ZC [.int 1, .int 3] Q) (Q (fr (1/3))):=⟨λh=>⟨lz,by rw [ir];exact h⟩⟩
theorem iu:PV.tup [.int 2, .int 3] =fr (2/3):=by unfold fr;rw [show ((2:Rat)/3).num=2 by decide +kernel,show ((2:Rat)/3).den=3 by decide +kernel];rfl
instance (priority:=high) lO:Wp (ZC [.int 2, .int 3] Q) (Q (fr (2/3))):=⟨λh=>⟨lz,by rw [iu];exact h⟩⟩
theorem iw:PV.tup [.int 3, .int 2] =fr (3/2):=by unfold fr;rw [show ((3:Rat)/2).num=3 by decide +kernel,show ((3:Rat)/2).den=2 by decide +kernel];rfl
instance (priority:=high) lP:Wp (ZC [.int 3, .int 2] Q) (Q (fr (3/2))):=⟨λh=>⟨lz,by rw [iw];exact h⟩⟩
instance uS {q:Rat} {A:Prop}:Wp (ZD (fr q)=true/\A) (A):=⟨λh=>⟨rfl,h⟩⟩
instance uT {k:Int} {A:Prop}:Wp (ZD (.int k)=true/\A) (A):=⟨λh=>⟨rfl,h⟩⟩
instance uR {k:C4} {A:Prop}:Wp (ZD (cor k)=true/\A) (A):=⟨λh=>⟨rfl,h⟩⟩
class Zp (xs ys:List PV) (zs:outParam (List PV)):Prop where
 e:ES xs ys=zs
instance xL:Zp [] [] [] :=⟨rfl⟩
instance xM [h:Zp xs ys zs] :Zp (x::xs) (y::ys) (.tup [x,y] :: zs):=⟨by rw [<-h.e];rfl⟩
instance sH [h:Zp xs ys zs] :Wp (Cm g b ⟨nx,rt,bk,ct⟩ (ES xs ys) τ) (Cm g b ⟨nx,rt,bk,ct⟩ zs τ):=⟨λk=>by rw [h.e];exact k⟩
instance sG {te:AE} {acc:List PV} [h:Zp xs ys zs] :Wp (Ck g tt te τ QL (ES xs ys) acc) (Ck g tt te τ QL zs acc):=⟨λk=>by rw [h.e];exact k⟩
instance u9 {A:Prop} [h:Zp xs ys zs] :Wp ((ES xs ys).length<sizeLine/\A) (zs.length<sizeLine/\A):=⟨λk=>by rw [h.e];exact k⟩
instance (priority:=high) qz {te:AE} {acc q zs:List PV} [h:ZN acc [y] zs] :Wp (Ck g tt te τ QL q (acc ++ [y])) (Ck g tt te τ QL q zs):=⟨λk=>by rw [h.e];exact k⟩
instance pG {m:Int}:O7 (BU [.tape, .int m] Q) (0<m/\m<4611686018427387904) (∀r,0<=r->r<m->Q (.int r)):=⟨λc h=>C6 c.1 c.2 h⟩
instance pI {ns:List Int} {k:Int}:O7 (Nx [.scr ns, .int k] Q) (0<=k/\k<=1000) (Q .tape):=⟨λc h=>⟨c,h⟩⟩
instance lT {a b:Rat}:O7 (Iy [fr a,fr b] Q) (Bd 4000 a/\Bd 4000 b) (Q (fr (a+b))):=⟨λc h=>QG c.1 c.2 h⟩
instance ka {a b:Rat}:O7 (EE [fr a,fr b] Q) (Bd 4000 a/\Bd 4000 b) (Q (fr (a-b))):=⟨λc h=>D5 c.1 c.2 h⟩
instance kb {a b:Rat}:O7 (GB [fr a,fr b] Q) (Bd 4000 a/\Bd 4000 b) (Q (fr (a*b))):=⟨λc h=>Ny c.1 c.2 h⟩
instance cu {a b:Rat}:O7 (Bq [fr a,fr b] Q) (Bd 4000 a/\Bd 4000 b) (Q (fr (a+b))):=⟨λc h=>DL c.1 c.2 h⟩
instance cr {a b:Rat}:O7 (BN [fr a,fr b] Q) (Bd 4000 a/\Bd 4000 b) (Q (fr (a-b))):=⟨λc h=>Ca c.1 c.2 h⟩
instance Xl {a b:Rat}:O7 (BI [fr a,fr b] Q) (Bd 4000 a/\Bd 4000 b) (Q (fr (a*b))):=⟨λc h=>Ch c.1 c.2 h⟩
instance Xk {a b:Rat}:O7 (Cs [fr a,fr b] Q) (Bd 4000 a/\Bd 4000 b) (Q (fr (mx a b))):=⟨λc h=>Jj c.1 c.2 h⟩
instance iE {a b:Rat}:O7 (Eu [fr a,fr b] Q) (Bd 4000 a/\Bd 4000 b) (Q (fr (mn a b))):=⟨λc h=>Ti c.1 c.2 h⟩
instance iD {a b:Rat}:O7 (Am [fr a,fr b] Q) (Bd 4000 a/\Bd 4000 b) (Q (.bl (decide (a<b)))):=⟨λc h=>Bu c.1 c.2 h⟩
instance lS {a b:Rat}:O7 (LW [fr a,fr b] Q) (b≠0/\Bd 4000 a/\Bd 4000 b) (Q (fr (a/b))):=⟨λc h=>LX c.1 c.2.1 c.2.2 h⟩
instance ZI {a b:Rat}:O7 (Bs [fr a,fr b] Q) (b≠0/\Bd 4000 a/\Bd 4000 b) (Q (fr (a/b))):=⟨λc h=>Gm c.1 c.2.1 c.2.2 h⟩
instance cg:O7 (CI [.tape] Q) (True) (∀a,Bd 8 a->0<a->Q (fr a)):=⟨λ_ h=>Nw h⟩
instance ZH:O7 (A9 [.tape] Q) (True) (∀a,Bd 8 a->Q (fr a)):=⟨λ_ h=>BD λa m=>h a (m.bd (by decide) (by decide))⟩
instance xI {lo:Int} {A:Prop}:Wp ((rng lo n).length<sizeLine/\A) (n<16777216/\A):=⟨λk=>⟨by rw [WE];exact k.1,k.2⟩⟩
instance xE {α:Type} {f:α->PV} {cs:List α} {A:Prop}:Wp ((cs.map f).length<sizeLine/\A) (cs.length<16777216/\A):=⟨λk=>⟨by rw [List.length_map];exact k.1,k.2⟩⟩
instance (priority:=high) oM {α:Type} {k:α} [Decidable (k=k)] {A B:Prop}:Wp (if (!decide (k=k))=true then A else B) B:=⟨λh=>by rw [if_neg (by simp)];exact h⟩
instance pH {cs:List C4} {k:Int}:O7 (VY (Ag cs) none (some k) Q) (0<=k/\k<=cs.length) (Q (Ag (cs.take k.toNat))):=⟨λc h=>n8 (k:=k.toNat) (by omega) (by omega) h⟩
instance lU {cs:List C4} {k:Int}:O7 (VY (Ag cs) (some k) none Q) (0<=k/\k<=cs.length) (Q (Ag (cs.drop k.toNat))):=⟨λc h=>Xc (k:=k.toNat) (by omega) (by omega) h⟩
instance pF {cs ds:List C4}:O7 (BJ (Ag cs) (Ag ds) Q) (cs.length+ds.length<=10000) (Q (Ag (cs++ds))):=⟨λc h=>Tp c h⟩
instance pE {cs:List C4} {c:C4}:O7 (BJ (Ag cs) (.tup [cor c]) Q) (cs.length<=9000) (Q (Ag (cs ++ [c]))):=⟨λk h=>Tp (ds:= [c]) (by simp;omega) h⟩
theorem gu {α:Type} {f:α->PV} {cs:List α} {k:Int} {R:PV->Prop} (c:0<=k/\k<cs.length) (h:∀c,cs[k.toNat]? =some c->c∈cs->R (f c)):ZE (Hk (cs.map f) k) R:=by
 have hk:k.toNat<cs.length:=by omega
 have e:Hk (cs.map f) ((k.toNat:Nat):Int)=some (f cs[k.toNat]):=Cj (by rw [List.getElem?_map,List.getElem?_eq_getElem hk] <;> rfl)
 rw [show k=((k.toNat:Nat):Int) by omega,e]
 exact h _ (List.getElem?_eq_getElem hk) (List.getElem_mem hk)
instance sJ {cs:List C4} {k:Int}:O7 (Ak (Ag cs) (.int k) Q) (0<=k/\k<cs.length) (∀c,cs[k.toNat]? =some c->c∈cs->Q (cor c)):=⟨λc h=>gu c h⟩
instance sI {α:Type} {f:α->PV} {cs:List α} {k:Int}:O7 (Ak (.lst (cs.map f)) (.int k) Q) (0<=k/\k<cs.length) (∀c,cs[k.toNat]? =some c->c∈cs->Q (f c)):=⟨λc h=>gu c h⟩
instance sD {c:C4}:Wp (VY (cor c) (some 1) none Q) (Q (.tup [fr c.2.1,fr c.2.2.1,fr c.2.2.2])):=⟨λh=>GZ h⟩
class Lk (tb:List (Str×PV)) (s:Str) (v:outParam PV):Prop where
 e:tb.lookup s=some v
end
end PL
end
section
namespace L2
open PySem PySem.Spec PyProof.Rows
abbrev ZZ (h:Heap) (T:Addr) (a b c:Value):Prop:=h.get? T=some {cls:= .type "tuple",data:= .seq #[a,b,c] }
structure xQ (z TI TO i j k l m n:Addr):Prop where
 TIz:TI≠z
 TOz:TO≠z
 iz:i≠z
 jz:j≠z
 kz:k≠z
 TITO:TI≠TO
 TIi:TI≠i
 TIj:TI≠j
 TIk:TI≠k
 TOi:TO≠i
 TOj:TO≠j
 TOk:TO≠k
 ij:i≠j
 ik:i≠k
 jk:j≠k
 lo:∀x∈ [l,m,n],x≠z/\x≠TI/\x≠TO/\x≠i/\x≠j/\x≠k
structure Z3 (b c d:Bool) (z TI TO i j k l m n:Addr) (t:Nat) (f:Value) (h:Heap):Prop where
 zip:IsZip h z TI TO f
 its:ZZ h TI (.ref i) (.ref j) (.ref k)
 own:∃x y w,ZZ h TO x y w
 one:La b h i l t
 two:La c h j m t
 tre:La d h k n t
theorem Z3.mv {b c d:Bool} {z TI TO i j k l m n:Addr} {t:Nat} {f:Value} {h h':Heap} (Z:Z3 b c d z TI TO i j k l m n t f h) (e:∀p∈ [z,TI,TO,i,j,k],∀o,h.get? p=some o->h'.get? p=some o):Z3 b c d z TI TO i j k l m n t f h':=by
 obtain ⟨a1,a2,⟨x,y,w,a3⟩,a4,a5,a6⟩:=Z
 exact ⟨e z (by simp) _ a1,e TI (by simp) _ a2,⟨x,y,w,e TO (by simp) _ a3⟩,a4.mv (e i (by simp)),a5.mv (e j (by simp)),a6.mv (e k (by simp))⟩
section
variable {prog:Program} {w:World} {A:Around} {E:Value->Shared->Prop} {s:Shared}
variable {b c d:Bool} {z TI TO i j k l m n:Addr} {t:Nat} {xs ys ws:Array Value}
end
abbrev y1 (b:Bool) (h:Heap) (l:Addr):Heap:=h.push (S7 b l)
abbrev y2 (b c:Bool) (h:Heap) (l m:Addr):Heap:=(y1 b h l).push (S7 c m)
abbrev y3 (b c d:Bool) (h:Heap) (l m n:Addr):Heap:=(y2 b c h l m).push (S7 d n)
abbrev y4 (b c d:Bool) (h:Heap) (l m n:Addr):Heap:=(y3 b c d h l m n).push {cls:= .type "tuple",data:= .seq #[.ref h.objs.size, .ref (y1 b h l).objs.size, .ref (y2 b c h l m).objs.size] }
abbrev y5 (b c d:Bool) (h:Heap) (l m n:Addr):Heap:=(y4 b c d h l m n).push {cls:= .type "tuple",data:= .seq #[.none, .none, .none] }
section
variable {prog:Program} {w:World} {A:Around} {E:Value->Shared->Prop} {s:Shared} {b c d:Bool} {l m n:Addr} {xs ys ws:Array Value}
end
section
variable {X:Cx}
end
end L2
end
section
namespace PL
open PySem PySem.Spec PyProof.Rows L2
section
variable {X:Cx}
end
end PL
end
section
namespace L2
open PySem PySem.Spec PyProof.Rows
theorem Uc:Manifest.owners.lookup (String.ofList ['d','e','s','r','e','v','e','r'].reverse)=some Manifest.sig_reversed:=by kernel_rfl
theorem Ga:Slot "reversed" "__next__" "reversed.__next__" :=
 .of (owner:="reversed") (n:="__next__") (by rw [typeLookup_type,builtinLookup_eq_fast];kernel_rfl) (by decide +kernel) (by decide +kernel) (by decide +kernel)
   (by first | exact .inl (by decide +kernel)|exact .inr (by decide +kernel)) (by rw [isSubtype_type];kernel_rfl)
theorem Pi:entryFor table "reversed.__next__" =some Builtin.«reversed.__next__»:=entryFor_of_tree (by kernel_rfl)
theorem N5 (a:Value):argsOk "reversed.__next__" ⟨[a], []⟩:=by
 unfold argsOk;rw [signature?_of (id:="reversed.__next__") (n:= ['_','_','t','x','e','n','_','_']) (o:= ['d','e','s','r','e','v','e','r']) (by kernel_rfl) Uc];kernel_rfl
theorem K1:Slot "reversed" "__iter__" "reversed.__iter__" :=
 .of (owner:="reversed") (n:="__iter__") (by rw [typeLookup_type,builtinLookup_eq_fast];kernel_rfl) (by decide +kernel) (by decide +kernel) (by decide +kernel)
   (by first | exact .inl (by decide +kernel)|exact .inr (by decide +kernel)) (by rw [isSubtype_type];kernel_rfl)
theorem N4 (a:Value):argsOk "reversed.__iter__" ⟨[a], []⟩:=by
 unfold argsOk;rw [signature?_of (id:="reversed.__iter__") (n:= ['_','_','r','e','t','i','_','_']) (o:= ['d','e','s','r','e','v','e','r']) (by kernel_rfl) Uc];kernel_rfl
theorem Ph:entryFor table "reversed.__iter__" =some Builtin.«dict_keyiterator.__iter__»:=
 entryFor_alias (id':="dict_keyiterator.__iter__") (by kernel_rfl) (by first | rfl|decide +kernel|(unfold String.splitOn;simp +decide [String.splitOnAux])) (by decide +kernel) (by kernel_rfl)
theorem Yz:typeLookup (.type "tuple") "__reversed__" =pure none:=by rw [typeLookup_type,builtinLookup_eq_fast];kernel_rfl
theorem S1:isSubtype (.type "tuple") (.type "dict")=pure false:=by rw [isSubtype_type];kernel_rfl
def cn (m:Addr) (i:Int):Obj:={cls:= .type "reversed",data:= .fields #[.ref m,rawInt i] }
def I0 (h:Heap) (q m:Addr) (i:Int):Prop:=h.get? q=some (cn m i)
section
variable {prog:Program} {w:World} {A:Around} {E:Value->Shared->Prop} {s:Shared}
theorem I0.typeIs {q m:Addr} {i:Int} (x:I0 s.heap q m i):s.TypeIs (.ref q) "reversed" :=⟨_,x,rfl⟩
end
theorem bZ (l:Addr) (items:Array Value) (UH:(items.size:Int)<2^63):Meets (Builtin.«reversed.__new__» ⟨[.type "reversed", .ref l], []⟩) (λ_ R s=>IsTup s.heap l items/\R (.ok (.ret (.ref s.heap.objs.size))) {s with heap:=s.heap.push (cn l ((items.size:Int)-1)),toks:=s.toks+1+1}):=
 .of_wp λprog w A R s h=>by
   obtain ⟨hl,h⟩:=h
   unfold Builtin.«reversed.__new__»
   refine wpAny_bind (wpAny_of_eq (newClass_reversed _) ?_)
   try dsimp only
   refine wpAny_bind (wpAny_of_eq (a:=()) (by first | rfl|kernel_rfl) ?_)
   refine wpAny_bind (wpAny_of_eq (a:=()) (by first | rfl|kernel_rfl) ?_)
   try dsimp only
   refine wpAny_bind (wpAny_specialOf hl.typeIs Yz ?_)
   try dsimp only
   refine wpAny_bind ?_
   wp_delta
   refine wpAny_bind (wpAny_isInstance (T:="tuple") (b:=false) hl.typeIs S1 ?_)
   rw [if_neg (by decide)]
   refine wpAny_bind (wpAny_specialOf hl.typeIs PyProof.Rows.slot_tuple_getitem.lookup ?_)
   dsimp only
   rw [if_pos (by decide +kernel)]
   refine wpAny_pure ?_
   rw [if_neg (by decide)]
   refine wpAny_bind (len_tuple hl UH ?_)
   refine wpAny_bind (wpAny_of_eq (a:=some (items.size:Int)) rfl ?_)
   dsimp only
   unfold Builtin.SmallTypes.newRecord
   refine wpAny_bind (wpAny_newObj_type (wpAny_pure ?_))
   exact ⟨_,rfl,h⟩
theorem fW:Slot "reversed" "__init__" "object.__init__" :=
 .of (owner:="object") (n:="__init__") (by rw [typeLookup_type,builtinLookup_eq_fast];kernel_rfl) (by decide +kernel) (by decide +kernel) (by decide +kernel)
   (by first | exact .inl (by decide +kernel)|exact .inr (by decide +kernel)) (by rw [isSubtype_type];kernel_rfl)
theorem X4:TypeCalled "reversed" "reversed.__new__" "object.__init__" :=
 ⟨by decide +kernel,by decide +kernel,⟨_,_,F.mro_reversed⟩,F.made_reversed,by decide +kernel,by rw [isSubtype_type];kernel_rfl,fW⟩
section
variable {prog:Program} {w:World} {A:Around} {E:Value->Shared->Prop} {s:Shared}
theorem dR {l:Addr} {items:Array Value} {Q:Value->Shared->Prop} (hl:IsTup s.heap l items) (UH:(items.size:Int)<2^63)
 (h:Q (.ref s.heap.objs.size) {s with heap:=s.heap.push (cn l ((items.size:Int)-1)),toks:=s.toks+1+1}):wpAny (model prog w) A (call (.type "reversed") [.ref l]) Q E s:=by
 refine callType_new X4 (by decide) (F.typeCall_reversed_1 _) (F.newCall_reversed_1 _) (λobj=>F.args_object_init_2 obj _) F.entry_reversed_new (bZ l items UH) ⟨hl, ?_⟩
 exact ⟨⟨_,Heap.get?_push_size _ rfl,rfl⟩,h⟩
theorem eG {q m:Addr} {i:Int} {Q:Value->Shared->Prop} (hq:I0 s.heap q m i) (h:Q (.ref q) s):wpAny (model prog w) A (pyIter (.ref q)) Q E s:=by
 refine wpAny_pyIter_slot hq.typeIs K1 (wpAny_call_entry K1 hq.typeIs Ph ?_ (N4 _))
 show wpAny _ _ (ret (.ref q)) _ _ s
 exact wpAny_pure ⟨_,rfl,"reversed",_,hq.typeIs,Ga.lookup,h⟩
theorem eO {q m:Addr} {k:Nat} {xs:Array Value} {x:Value} {Q:Value->Shared->Prop} (hq:I0 s.heap q m ((xs.size:Int)-1-k)) (hl:IsTup s.heap m xs) (UH:(xs.size:Int)<2^63) (hk:k<xs.size) (hx:xs[xs.size-1-k]? =some x)
 (hQ:∀h' tk,I0 h' q m ((xs.size:Int)-1-(k+1:Nat))->Heap.SameBut q s.heap h'->Q x {s with heap:=h',toks:=tk}):wpAny (model prog w) A (Builtin.SmallTypes.nextOf (.ref q)) Q E s:=by
 unfold Builtin.SmallTypes.nextOf
 refine wpAny_bind (wpAny_callSpecial?_slot (name:=Str.ofString "__next__") hq.typeIs Ga (wpAny_call_entry Ga hq.typeIs Pi ?_ (N5 _)))
 unfold Builtin.«reversed.__next__»
 refine wpAny_bind (wpAny_of_eq (a:=(Value.ref q, [])) rfl ?_)
 try dsimp only
 refine wpAny_bind (wpAny_field hq rfl (x:= .ref m) rfl ?_)
 refine wpAny_bind (wpAny_field hq rfl (x:=rawInt ((xs.size:Int)-1-k)) rfl ?_)
 show wpAny _ _ (if ((xs.size:Int)-1-k)<0 then _ else _) _ _ s
 rw [if_neg (by omega)]
 refine wpAny_bind (wpAny_specialOf hl.typeIs PyProof.Rows.slot_tuple_getitem.lookup ?_)
 rw [if_neg (by decide)]
 refine wpAny_bind (wpAny_mkInt ?_)
 have gk:seqIndex? ((xs.size:Int)-1-k) xs.size=some (xs.size-1-k):=by
  unfold seqIndex?
  have e0:¬((xs.size:Int)-1-k<0):=by omega
  have e1:(0:Int)<=(xs.size:Int)-1-k:=by omega
  have e2:(xs.size:Int)-1-k<xs.size:=by omega
  simp only [if_neg e0,e1,e2,decide_true,Bool.and_true,if_true]
  congr 1
  omega
 refine wpAny_bind (wpAny_attempt (getItem_tuple hl (by omega) (by omega) gk hx ?_))
 refine wpAny_bind (wpAny_field (s:={s with toks:=s.toks+1}) hq rfl (x:=rawInt ((xs.size:Int)-1-k)) rfl ?_)
 refine wpAny_bind (wpAny_setField (s:={s with toks:=s.toks+1}) hq rfl (by simp) (wpAny_pure ⟨x,rfl,wpAny_pure (hQ _ _ ?_ (Heap.SameBut.update ..))⟩))
 unfold I0
 rw [Heap.get?_update_self _ hq (Obj.isFreed_of_fields (Obj.data_mapFields rfl _))]
 rw [show (xs.size:Int)-1-(k+1:Nat)=(xs.size:Int)-1-k-1 by omega]
 rfl
end
structure ZR (z TI TO i j l m:Addr) (n:Nat) (k:Nat) (f:Value) (h:Heap):Prop where
 zip:IsZip h z TI TO f
 its:IsPair h TI (.ref i) (.ref j)
 own:∃x y,IsPair h TO x y
 one:La false h i l k
 two:I0 h j m ((n:Int)-1-k)
theorem ZR.mv {z TI TO i j l m:Addr} {n k:Nat} {f:Value} {h h':Heap} (Z:ZR z TI TO i j l m n k f h) (e:∀p∈ [z,TI,TO,i,j],∀o,h.get? p=some o->h'.get? p=some o):ZR z TI TO i j l m n k f h':=by
 obtain ⟨a1,a2,⟨x,y,a3⟩,a4,a5⟩:=Z
 exact ⟨e z (by simp) _ a1,e TI (by simp) _ a2,⟨x,y,e TO (by simp) _ a3⟩,a4.mv (e i (by simp)),e j (by simp) _ a5⟩
section
variable {prog:Program} {w:World} {A:Around} {E:Value->Shared->Prop} {s:Shared}
variable {z TI TO i j l m:Addr} {k:Nat} {xs ys:Array Value}
theorem kh {x y:Value} {Q:Value->Shared->Prop} (D:ZipApart z TI TO i j l m) (Z:ZR z TI TO i j l m ys.size k .none s.heap) (hl:JA false s.heap l xs) (hm:IsTup s.heap m ys) (UH:(ys.size:Int)<2^63) (hx:xs[k]? =some x) (hk:k<ys.size) (hy:ys[ys.size-1-k]? =some y)
 (hQ:∀h' tk,IsZip h' z TI TO (rawInt s.heap.objs.size)->IsPair h' TI (.ref i) (.ref j)->IsPair h' TO x y->La false h' i l (k+1)->I0 h' j m ((ys.size:Int)-1-(k+1:Nat))->IsPair h' s.heap.objs.size x y->
   (∀p o,p≠z->p≠TO->p≠i->p≠j->s.heap.get? p=some o->h'.get? p=some o)->Q (.ref s.heap.objs.size) {s with heap:=h',toks:=tk}):
 wpAny (model prog w) A (Builtin.«zip.__next__» ⟨[.ref z], []⟩) (λfin s'=>∃v,fin= .done (.ret v)/\Q v s') E s:=by
 obtain ⟨zz,zi,⟨x0,y0,zo⟩,z1,z2⟩:=Z
 show wpAny _ _ (field (.ref z) 2 >>= _) _ _ _
 refine wpAny_bind (wpAny_field zz rfl (x:= .bool false) rfl ?_)
 show wpAny _ _ (field (.ref z) 3 >>= _) _ _ _
 refine wpAny_bind (wpAny_field zz rfl (x:= .ref TI) rfl (wpAny_bind (wpAny_seqItems zi rfl ?_)))
 refine wpAny_bind (m:=Builtin.SmallTypes.ownedTupleIsFree (.ref z)) ?_
 unfold Builtin.SmallTypes.ownedTupleIsFree
 refine wpAny_bind (wpAny_field zz rfl (x:= .none) rfl (wpAny_pure ?_))
 simp only [if_true]
 refine wpAny_bind (wpAny_rule (wpAny_bind (wpAny_field zz rfl (x:= .ref TO) rfl (wpAny_bind (wpAny_setField_rec zz (by simp) λg1 e1 b1=> ?_)))))
 have e1:IsZip g1 z TI TO .ellipsis:=e1
 refine wpAny_bind ?_
 simp only [List.zipIdx_cons,List.zipIdx_nil,List.forIn_cons,List.forIn_nil]
 refine wpAny_bind (wpAny_bind (wpAny_onRaise ?_))
 refine wpAny_bind (m:=Builtin.SmallTypes.nextOf (.ref i)) (HH (z1.mv λo=>b1.extBut _ o D.i1z) (hl.mv λo=>b1.extBut _ o D.l1z) hx λg2 e2 b2=>wpAny_pure ?_)
 have o2:IsPair g2 TO x0 y0:=b2.extBut _ _ D.TOi1 (b1.extBut _ _ D.TOz zo)
 refine wpAny_bind (wpAny_seqItems o2 rfl (wpAny_bind (wpAny_updateSeq_pair o2 λg3 o3 b3=>wpAny_bind (wpAny_letGo (wpAny_pure ?_)))))
 have o3:IsPair g3 TO x y0:=o3
 refine wpAny_bind (wpAny_bind (wpAny_onRaise ?_))
 have jA:∀h h':Heap,(∀o,h.get? m=some o->h'.get? m=some o)->IsTup h m ys->IsTup h' m ys:=λh h' e x=>(show JA false h m ys from x).mv e
 have wO:IsTup g3 m ys:=jA _ _ (λo=>b3.extBut _ o D.l2TO) (jA _ _ (λo=>b2.extBut _ o D.l2i1) (jA _ _ (λo=>b1.extBut _ o D.l2z) hm))
 have z23:I0 g3 j m ((ys.size:Int)-1-k):=b3.extBut _ _ D.TOi2.symm (b2.extBut _ _ D.i12.symm (b1.extBut _ _ D.i2z z2))
 refine wpAny_bind (m:=Builtin.SmallTypes.nextOf (.ref j)) (eO z23 wO UH hk hy λg4 tk e4 b4=>wpAny_pure ?_)
 have o4:IsPair g4 TO x y0:=b4.extBut _ _ D.TOi2 o3
 refine wpAny_bind (wpAny_seqItems o4 rfl (wpAny_bind (wpAny_updateSeq_pair o4 λg5 o5 b5=>wpAny_bind (wpAny_letGo (wpAny_pure (wpAny_pure ?_))))))
 have o5:IsPair g5 TO x y:=o5
 refine wpAny_bind (wpAny_seqItems o5 rfl (wpAny_bind (wpAny_newTuple ?_)))
 have sz:g5.objs.size=s.heap.objs.size:=by rw [b5.1,b4.1,b3.1,b2.1,b1.1]
 have k5:IsZip g5 z TI TO .ellipsis:=b5.extBut _ _ D.TOz.symm (b4.extBut _ _ D.i2z.symm (b3.extBut _ _ D.TOz.symm (b2.extBut _ _ D.i1z.symm e1)))
 have all5:∀p o,p≠z->p≠TO->p≠i->p≠j->s.heap.get? p=some o->g5.get? p=some o:=λp o q1 q2 q3 q4 e=>
  b5.extBut _ _ q2 (b4.extBut _ _ q4 (b3.extBut _ _ q2 (b2.extBut _ _ q3 (b1.extBut _ _ q1 e))))
 have one5:La false g5 i l (k+1):=((e2.mv λo=>b3.extBut _ o D.TOi1.symm).mv λo=>b4.extBut _ o D.i12).mv λo=>b5.extBut _ o D.TOi1.symm
 have two5:I0 g5 j m ((ys.size:Int)-1-(k+1:Nat)):=b5.extBut _ _ D.TOi2.symm e4
 have zlt:z<g5.objs.size:=Heap.lt_size k5
 refine wpAny_bind (m:=Builtin.SmallTypes.ownedTupleHandOut (.ref z) (.ref g5.objs.size)) ?_
 unfold Builtin.SmallTypes.ownedTupleHandOut
 have k6:IsZip (g5.push {cls:= .type "tuple",data:= .seq #[x,y] }) z TI TO .ellipsis:=Heap.get?_push_of_some _ k5
 refine wpAny_bind (wpAny_setField_rec k6 (by simp) λg7 k7 b7=> ?_)
 have k7:IsZip g7 z TI TO (rawInt g5.objs.size):=k7
 refine wpAny_setField_rec k7 (by simp) λg8 k8 b8=> ?_
 have k8:IsZip g8 z TI TO (rawInt g5.objs.size):=k8
 have up:∀p o,p≠z->g5.get? p=some o->g8.get? p=some o:=λp o q e=>b8.extBut _ _ q (b7.extBut _ _ q (Heap.get?_push_of_some _ e))
 have new8:IsPair g8 g5.objs.size x y:=b8.extBut _ _ (Nat.ne_of_gt zlt) (b7.extBut _ _ (Nat.ne_of_gt zlt) (Heap.get?_push_size _ rfl))
 rw [sz] at k8 new8
 refine wpAny_pure ⟨_,rfl, ?_⟩
 show Q (.ref g5.objs.size) _
 rw [sz]
 exact hQ g8 tk k8 (up _ _ D.TIz (all5 _ _ D.TIz D.TITO D.TIi1 D.TIi2 zi)) (up _ _ D.TOz o5) (one5.mv λo=>up _ o D.i1z) (up _ _ D.i2z two5) new8 λp o q1 q2 q3 q4 e=>up p o q1 (all5 p o q1 q2 q3 q4 e)
theorem oQ {n:Nat} {Q:Fin->Shared->Prop} (hh:A.handled=none) (D:ZipApart z TI TO i j l m) (Z:ZR z TI TO i j l m n k .none s.heap) (hl:JA false s.heap l xs) (hx:xs[k]? =none)
 (hE:∀h' e,(∀p o,p≠z->p≠TO->p≠i->p≠j->s.heap.get? p=some o->h'.get? p=some o)->(∃o,h'.get? e=some o/\o.cls= .type "StopIteration")->E (.ref e) {s with heap:=h'}):
 wpAny (model prog w) A (Builtin.«zip.__next__» ⟨[.ref z], []⟩) Q E s:=by
 obtain ⟨zz,zi,⟨x0,y0,zo⟩,z1,z2⟩:=Z
 show wpAny _ _ (field (.ref z) 2 >>= _) _ _ _
 refine wpAny_bind (wpAny_field zz rfl (x:= .bool false) rfl ?_)
 show wpAny _ _ (field (.ref z) 3 >>= _) _ _ _
 refine wpAny_bind (wpAny_field zz rfl (x:= .ref TI) rfl (wpAny_bind (wpAny_seqItems zi rfl ?_)))
 refine wpAny_bind (m:=Builtin.SmallTypes.ownedTupleIsFree (.ref z)) ?_
 unfold Builtin.SmallTypes.ownedTupleIsFree
 refine wpAny_bind (wpAny_field zz rfl (x:= .none) rfl (wpAny_pure ?_))
 simp only [if_true]
 refine wpAny_bind (wpAny_rule (wpAny_bind (wpAny_field zz rfl (x:= .ref TO) rfl (wpAny_bind (wpAny_setField_rec zz (by simp) λg1 e1 b1=> ?_)))))
 have e1:IsZip g1 z TI TO .ellipsis:=e1
 refine wpAny_bind ?_
 simp only [List.zipIdx_cons,List.zipIdx_nil,List.forIn_cons,List.forIn_nil]
 refine wpAny_bind (wpAny_bind (wpAny_onRaise ?_))
 refine wpAny_bind (m:=Builtin.SmallTypes.nextOf (.ref i)) (Fu hh (z1.mv λo=>b1.extBut _ o D.i1z) (hl.mv λo=>b1.extBut _ o D.l1z) hx λg2 e b2 he=> ?_)
 obtain ⟨oe,ge,ce⟩:=he
 have k2:IsZip g2 z TI TO .ellipsis:=b2 _ _ D.i1z.symm e1
 have ez:e≠z:=λq=>by subst q;rw [k2] at ge;cases ge;simp at ce
 refine wpAny_setField_rec k2 (by simp) λg3 _ b3=>hE g3 e (λp o q1 _ q3 _ q=>b3.extBut _ _ q1 (b2 _ _ q3 (b1.extBut _ _ q1 q))) ⟨oe,b3.extBut _ _ ez ge,ce⟩
end
theorem gQ {n l m:Nat} (h1:l<n) (h2:m<n):ZipApart (n+4) (n+2) (n+3) (n+1) n l m where
 TIz:=(by omega:(n+2:Nat)≠n+4)
 TOz:=(by omega:(n+3:Nat)≠n+4)
 i1z:=(by omega:(n+1:Nat)≠n+4)
 i2z:=(by omega:(n:Nat)≠n+4)
 TITO:=(by omega:(n+2:Nat)≠n+3)
 TIi1:=(by omega:(n+2:Nat)≠n+1)
 TIi2:=(by omega:(n+2:Nat)≠n)
 TOi1:=(by omega:(n+3:Nat)≠n+1)
 TOi2:=(by omega:(n+3:Nat)≠n)
 i12:=(by omega:(n+1:Nat)≠n)
 l1z:=(by omega:(l:Nat)≠n+4)
 l1TO:=(by omega:(l:Nat)≠n+3)
 l1i1:=(by omega:(l:Nat)≠n+1)
 l1i2:=(by omega:(l:Nat)≠n)
 l2z:=(by omega:(m:Nat)≠n+4)
 l2TO:=(by omega:(m:Nat)≠n+3)
 l2i1:=(by omega:(m:Nat)≠n+1)
 l2i2:=(by omega:(m:Nat)≠n)
abbrev rA (h:Heap) (l:Addr):Heap:=h.push (S7 false l)
abbrev rC (h:Heap) (l r:Addr):Heap:=(rA h l).push {cls:= .type "tuple",data:= .seq #[.ref h.objs.size, .ref r] }
abbrev rD (h:Heap) (l r:Addr):Heap:=(rC h l r).push {cls:= .type "tuple",data:= .seq #[.none, .none] }
abbrev rF (h:Heap) (l r:Addr):Heap:=(rD h l r).push {cls:= .type "zip",data:= .fields #[.none, .bool false, .bool false, .ref (rA h l).objs.size, .ref (rC h l r).objs.size] }
theorem aS {prog:Program} {w:World} {A:Around} {E:Value->Shared->Prop} {h:Heap} {g:Array GenState} {d:Drawn} {tk:Nat} {os:OsState} {q m:Addr} {i:Int} {Q:Value->Shared->Prop} (hq:I0 h q m i)
 (k:Q (.ref q) ⟨h,g,d,tk,os⟩):wpAny (model prog w) A (pyIter (.ref q)) Q E ⟨h,g,d,tk,os⟩:=eG (s:=⟨h,g,d,tk,os⟩) hq k
theorem WX (l r m:Addr) (i:Int) (xs:Array Value):Meets (Builtin.«zip.__new__» ⟨[.type "zip", .ref l, .ref r], []⟩) (λ_ R s=>JA false s.heap l xs/\I0 s.heap r m i/\R (.ok (.ret (.ref (rD s.heap l r).objs.size))) {s with heap:=rF s.heap l r}):=
 .of_wp λprog w A R s h=>by
   obtain ⟨hp,g,d,tk,os⟩:=s
   obtain ⟨hl,hm,h⟩:=h
   have mT:=sub_zip
   have gh:JA false hp l xs:=hl
   have qK:I0 (hp.push (S7 false l)) r m i:=Heap.get?_push_of_some _ hm
   wp_walk using JH gh,aS qK
   exact ⟨_,rfl,h⟩
section
variable {prog:Program} {w:World} {A:Around} {E:Value->Shared->Prop} {s:Shared} {l m r:Addr} {xs:Array Value} {n:Nat}
theorem gO (hl:JA false s.heap l xs) (hr:I0 s.heap r m ((n:Int)-1)) {Q:Value->Shared->Prop}
 (h:∀h',ZR (s.heap.objs.size+3) (s.heap.objs.size+1) (s.heap.objs.size+2) s.heap.objs.size r l m n 0 .none h'->(∀p o,s.heap.get? p=some o->h'.get? p=some o)->Q (.ref (s.heap.objs.size+3)) {s with heap:=h'}):
 wpAny (model prog w) A (call (.type "zip") [.ref l, .ref r]) Q E s:=by
 refine callType_new F.called_zip (by decide) (F.typeCall_zip_2 _ _) (F.newCall_zip_2 _ _) (λobj=>F.args_object_init_3 obj _ _) F.entry_zip_new (WX l r m _ xs) ⟨hl,hr, ?_⟩
 have n1:(rA s.heap l).objs.size=s.heap.objs.size+1:=Heap.size_push ..
 have n3:(rC s.heap l r).objs.size=s.heap.objs.size+2:=by rw [Heap.size_push,n1]
 have n4:(rD s.heap l r).objs.size=s.heap.objs.size+3:=by rw [Heap.size_push,n3]
 have up:∀(g:Heap) (x:Obj) (p:Addr) (o:Obj),g.get? p=some o->(g.push x).get? p=some o:=λg x p o e=>Heap.get?_push_of_some _ e
 have p5:(rF s.heap l r).get? (rD s.heap l r).objs.size=some _:=Heap.get?_push_size _ rfl
 have p4:(rF s.heap l r).get? (rC s.heap l r).objs.size=some _:=up _ _ _ _ (Heap.get?_push_size _ rfl)
 have p3:(rF s.heap l r).get? (rA s.heap l).objs.size=some _:=up _ _ _ _ (up _ _ _ _ (Heap.get?_push_size _ rfl))
 have p1:(rF s.heap l r).get? s.heap.objs.size=some (S7 false l):=up _ _ _ _ (up _ _ _ _ (up _ _ _ _ (Heap.get?_push_size _ rfl)))
 have all:∀p o,s.heap.get? p=some o->(rF s.heap l r).get? p=some o:=λp o e=>up _ _ _ _ (up _ _ _ _ (up _ _ _ _ (up _ _ _ _ e)))
 rw [n1,n3,n4] at p5
 rw [n1] at p3
 rw [n3] at p4
 show _/\_
 rw [n4]
 exact ⟨⟨_,p5,rfl⟩,h _ ⟨p5,p3,⟨_,_,p4⟩,XB p1,by rw [show (n:Int)-1-(0:Nat)=(n:Int)-1 by omega];exact all _ _ hr⟩ all⟩
end
def pO (K:PySem.W.Frag) (l m:Addr) (n:Nat):It:=
 ⟨λi H=>∃xs ys x y,Sq K false H l xs/\Sq K false H m ys/\ys.length=n/\xs[i]? =some x/\i<n/\ys[n-1-i]? =some y,
  λi H v H'=>∃T x y,v= .ref T/\H T=none/\H'=upd H T (.tup [x,y])/\(∀xs,Sq K false H l xs->xs[i]? =some x)/\∀ys,Sq K false H m ys->ys[n-1-i]? =some y,
  λi H=>∃xs,Sq K false H l xs/\xs.length<=i⟩
theorem Y3 {P:Program} {w:World} {K:PySem.W.Frag} {es:List Expr} {x1:Nat} {pos:Pos} {z TI TO i j l m:Addr} {n:Nat} (D:ZipApart z TI TO i j l m):
 Js P w K (.Tuple es x1 pos) (pO K l m n) [z,TI,TO,i,j] z (λk h=>ZR z TI TO i j l m n k .none h) where
 mem:=by simp
 obj:=λk h Z p hp=>by
  have EN:p=z\/p=TI\/p=TO\/p=i\/p=j:=by simpa using hp
  rcases EN with e|e|e|e|e
  ·subst e;exact ⟨_,Z.zip,λv q=>nomatch q⟩
  ·subst e;exact ⟨_,Z.its,λv q=>nomatch q⟩
  ·subst e;obtain ⟨x,y,q⟩:=Z.own;exact ⟨_,q,λv q=>nomatch q⟩
  ·subst e;exact Z.one.obj
  ·subst e;exact ⟨_,Z.two,λv q=>nomatch q⟩
 keep:=λk h h' Z e=>Z.mv e
 item:=by
  intro X hP hw hK hc k pins s σ H E I hf Z hg
  subst hP hw hK
  obtain ⟨xs,ys,x,y,hl,hm,hn,hx,hk,hy⟩:=hg
  obtain ⟨us,ru,su,_⟩:=I.sq hl
  obtain ⟨vs,rv,sv,hz⟩:=I.sq hm
  obtain ⟨u,hu,rx⟩:=ru.get hx
  obtain ⟨v,hv,ry⟩:=rv.get hy
  have vn:vs.toArray.size=n:=by rw [List.size_toArray,<-rv.length];exact hn
  have hT:s.TypeIs (.ref z) "zip" :=⟨_,Z.zip,rfl⟩
  rw [<-vn] at Z
  unfold pyNext
  refine wpAny_bind (wpAny_attempt (wpAny_callSpecial?_slot (name:=Str.ofString "__next__") hT F.slot_zip_next (wpAny_call_entry F.slot_zip_next hT F.entry_zip_next
   (kh D Z su sv (by rw [vn,<-hn];exact Int.lt_of_le_of_lt (Int.ofNat_le.mpr hz) (by decide)) (x:=u) (y:=v) (by simpa using hu) (by rw [vn];exact hk) (by rw [vn];simpa using hv) λh1 tk a1 a2 a3 a4 a5 a6 a7=>wpAny_pure ?_) (F.args_zip_next_1 _))))
  refine ⟨_,rfl,wpAny_letOwnedTupleGo_zip (s:={s with heap:=h1,toks:=tk}) a1 λh2 c1 c2=> ?_⟩
  have nT:∀p∈ [z,TI,TO,i,j],p<s.heap.objs.size:=λp hp=>by
   have EN:p=z\/p=TI\/p=TO\/p=i\/p=j:=by simpa using hp
   rcases EN with e|e|e|e|e
   ·subst e;exact Heap.lt_size Z.zip
   ·subst e;exact Heap.lt_size Z.its
   ·subst e;obtain ⟨x,y,q⟩:=Z.own;exact Heap.lt_size q
   ·subst e;obtain ⟨o,q,_⟩:=Z.one.obj;exact Heap.lt_size q
   ·subst e;exact Heap.lt_size Z.two
  have c2':∀p o,p≠z->h1.get? p=some o->h2.get? p=some o:=λp o q e=>c2.extBut _ _ q e
  have kp:∀p o,p ∉ [z,TI,TO,i,j] ->s.heap.get? p=some o->h2.get? p=some o:=λp o hp e=>by
   have EN:p≠z/\p≠TI/\p≠TO/\p≠i/\p≠j:=by simpa using hp
   exact c2' p o EN.1 (a7 p o EN.1 EN.2.2.1 EN.2.2.2.1 EN.2.2.2.2 e)
  have qU:s.heap.objs.size≠z:=Nat.ne_of_gt (nT z (by simp))
  have I2:Inv X pins σ (upd H s.heap.objs.size (.tup [x,y])) {s with heap:=h2,toks:=tk}:=I.turnedN hf nT kp (Nat.le_refl _)
   ⟨(by show 2<=sizeLine;decide), [u,v], .cons rx (.cons ry .nil),⟨_,c2' _ _ qU a6,rfl,_,rfl⟩⟩
  have UI:H s.heap.objs.size=none:=I.fresh
  refine ⟨.ref s.heap.objs.size,upd H s.heap.objs.size (.tup [x,y]),I2,rfl,⟨_,x,y,rfl,UI,rfl,λxs' h'=> ?_,λys' h'=> ?_⟩, ?_,λp hp=> ?_⟩
  ·rw [I.sq_inj h' hl];exact hx
  ·rw [I.sq_inj h' hm];exact hy
  ·rw [vn] at a5
   exact ⟨c1,c2' _ _ D.TIz a2,⟨_,_,c2' _ _ D.TOz a3⟩,a4.mv λo=>c2' _ o D.i1z,c2' _ _ D.i2z a5⟩
  ·rw [Ah (Nat.ne_of_lt (nT p hp))]
   exact (hf p hp).1
 done:=by
  intro X hP hw hK hc k pins s σ H E I hf Z hg
  subst hP hw hK
  obtain ⟨xs,hl,he⟩:=hg
  obtain ⟨us,ru,su,_⟩:=I.sq hl
  have e1:=ru.length
  have hT:s.TypeIs (.ref z) "zip" :=⟨_,Z.zip,rfl⟩
  unfold pyNext
  refine wpAny_bind (wpAny_attempt (wpAny_callSpecial?_slot (name:=Str.ofString "__next__") hT F.slot_zip_next (wpAny_call_entry F.slot_zip_next hT F.entry_zip_next
   (oQ (I.ok.hd hc) D Z su (by simp;omega) λh1 e hk he=> ?_) (F.args_zip_next_1 _))))
  obtain ⟨o,ho,i6⟩:=he
  refine wpAny_bind (wpAny_isInstance (T:="StopIteration") (b:=true) ⟨o,ho,i6⟩ isSubtype_stop (wpAny_pure ⟨rfl, ?_⟩))
  exact I.turnedL (t':=s.toks) hf λp o hp e=>by
   have EN:p≠z/\p≠TI/\p≠TO/\p≠i/\p≠j:=by simpa using hp
   exact hk p o EN.1 EN.2.2.1 EN.2.2.2.1 EN.2.2.2.2 e
 self:=λ_ _ _ _ _ Z h=>wpAny_pyIter_zip Z.zip h
section
variable {X:Cx}
theorem fG {e f:Expr} {te tf:TE} {p p2 pos pos2 tpos:Pos} {es:List Expr} {x1:Nat} (hg:Gl X "zip") (hm:X.mg "zip" =none) (i9:Gl X "reversed") (jB:X.mg "reversed" =none) (he:PE X e te) (hf:PE X f tf)
 (hs:starEach [e, .Call (.Name "reversed" p2) [f] [] pos2] X.env= [(false,eval e X.env),(false,eval (.Call (.Name "reversed" p2) [f] [] pos2) X.env)] :=by rfl) (S6:starEach [f] X.env= [(false,eval f X.env)] :=by rfl):
 PI X (.Tuple es x1 tpos) (.Call (.Name "zip" p) [e, .Call (.Name "reversed" p2) [f] [] pos2] [] pos) (λσ H R=>te σ H λu H1=>tf σ H1 λv H2=>∃l m ys,u= .ref l/\v= .ref m/\(∃xs,Sq X.K false H2 l xs)/\Sq X.K false H2 m ys/\R (pO X.K l m ys.length) H2):=by
 intro pins s σ H R I h
 refine Call_ (GL I hg hm boot_zip (PyProof.Rows.callWith_type1 ?_ (by rw [hs];rfl) rfl))
 rw [hs]
 show wpAny _ _ (spliced ((false,eval e X.env) :: [(false,eval (.Call (.Name "reversed" p2) [f] [] pos2) X.env)])) _ _ s
 refine Calls.spliced_cons (Bg (he pins s σ H _ I h) λv s1 ⟨x,H1,I1,r1,q1⟩=> ?_)
 refine Calls.spliced_cons ?_
 refine Call_ (GL I1 i9 jB boot_reversed (PyProof.Rows.callWith_type1 ?_ (by rw [S6];rfl) rfl))
 rw [S6]
 show wpAny _ _ (spliced ((false,eval f X.env) :: [])) _ _ s1
 refine Calls.spliced_cons (Bg (hf pins s1 σ H1 _ I1 q1) λv2 s2 ⟨x2,H2,I2,r2,q2⟩=>Calls.spliced_nil ?_)
 obtain ⟨l,m,ys,rfl,rfl,⟨xs,hl⟩,jA,q⟩:=q2
 cases r1
 cases r2
 obtain ⟨us,ru,su,_⟩:=I2.sq hl
 obtain ⟨vs,rv,sv,hz⟩:=I2.sq jA
 have vn:vs.toArray.size=ys.length:=by rw [List.size_toArray,<-rv.length]
 have llt:l<s2.heap.objs.size:=by obtain ⟨o,e,_⟩:=su;exact Heap.lt_size e
 have mlt:m<s2.heap.objs.size:=by obtain ⟨o,e,_⟩:=sv;exact Heap.lt_size e
 refine dR sv (by rw [vn];exact Int.lt_of_le_of_lt (Int.ofNat_le.mpr hz) (by decide)) (Calls.spliced_nil ?_)
 have up:∀b o,s2.heap.get? b=some o->(s2.heap.push (cn m ((vs.toArray.size:Int)-1))).get? b=some o:=λb o e=>Heap.get?_push_of_some _ e
 have szp:(s2.heap.push (cn m ((vs.toArray.size:Int)-1))).objs.size=s2.heap.objs.size+1:=Heap.size_push ..
 have su':JA false (s2.heap.push (cn m ((vs.toArray.size:Int)-1))) l us.toArray:=su.mv λo e=>up _ o e
 have hR:I0 (s2.heap.push (cn m ((vs.toArray.size:Int)-1))) s2.heap.objs.size m ((ys.length:Int)-1):=by
  rw [<-vn];exact Heap.get?_push_size _ rfl
 refine gO (s:={s2 with heap:=s2.heap.push (cn m ((vs.toArray.size:Int)-1)),toks:=s2.toks+1+1}) su' hR λh1 Z kp=>wpAny_pyIter_zip Z.zip ?_
 have I3:Inv X pins σ H2 {s2 with heap:=h1,toks:=s2.toks+1+1}:=I2.kept (t':=s2.toks+1+1) λb ob q=>kp b ob (up b ob q)
 have Z':ZR (s2.heap.objs.size+4) (s2.heap.objs.size+2) (s2.heap.objs.size+3) (s2.heap.objs.size+1) s2.heap.objs.size l m ys.length 0 .none h1:=by
  have Z2:=Z
  rw [show ({s2 with heap:=s2.heap.push (cn m ((vs.toArray.size:Int)-1)),toks:=s2.toks+1+1}:Shared).heap.objs.size=s2.heap.objs.size+1 from szp] at Z2
  exact Z2
 refine ⟨_,_,_,_,H2, ?_,I3,Y3 (gQ llt mlt),Z',λp hp=> ?_,q⟩
 ·exact congrArg Value.ref (by show (s2.heap.push (cn m ((vs.toArray.size:Int)-1))).objs.size+3=_;rw [szp])
 have EN:s2.heap.objs.size<=p:=by
  have jF:p=s2.heap.objs.size+4\/p=s2.heap.objs.size+2\/p=s2.heap.objs.size+3\/p=s2.heap.objs.size+1\/p=s2.heap.objs.size:=by simpa using hp
  rcases jF with e|e|e|e|e <;> (rw [e];first | exact Nat.le_refl _|exact Nat.le_add_right _ _)
 exact I2.fpOk EN (I2.hok.fresh EN)
end
end L2
end
section
namespace PL
open PySem PySem.Spec PyProof.Rows L2
theorem U3 {xs ys:List PV} {i:Nat} {u:PV} (h:(ES xs ys)[i]? =some u):∃x y,xs[i]? =some x/\ys[i]? =some y/\u= .tup [x,y] :=by
 unfold ES at h
 rw [List.getElem?_zipWith] at h
 cases hx:xs[i]? with
 | none=>rw [hx] at h;simp at h
 | some x=>
   cases hy:ys[i]? with
   | none=>rw [hx,hy] at h;simp at h
   | some y=>rw [hx,hy] at h;simp at h;exact ⟨x,y,rfl,rfl,h.symm⟩
theorem YQ {K:PySem.W.Frag} {T M:Addr->Prop} {H:Hp} {l m:Addr} {xs ys:List PV} {n:Nat} (va:G0 T M H) (e1:xs.length=ys.length) (en:ys.length=n)
 (r:CT K T M H (.ref l) (.tup xs)) (r2:CT K T M H (.ref m) (.tup ys)):Tj K M (pO K l m n) (ES xs ys.reverse) T H:=by
 obtain ⟨_,vs,e,hq,rs⟩:=DI r
 cases e
 obtain ⟨_,ws,e,Re,rs2⟩:=DI r2
 cases e
 have wl:=rs2.length
 have rg:∀i b,ys.reverse[i]? =some b->i<n/\ys[n-1-i]? =some b:=λi b h=>by
  have hi:i<ys.reverse.length:=(List.getElem?_eq_some_iff.mp h).1
  rw [List.length_reverse] at hi
  rw [List.getElem?_reverse hi,en] at h
  exact ⟨by omega,h⟩
 refine ⟨λi w h=> ?_,λi w v H' h yl=> ?_,λi h=>⟨vs,hq, ?_⟩⟩
 ·obtain ⟨a,b,ha,hb,_⟩:=U3 h
  obtain ⟨hi,hb⟩:=rg i b hb
  obtain ⟨u1,h1,_⟩:=rs.get ha
  obtain ⟨u2,h2,_⟩:=rs2.get hb
  exact ⟨vs,ws,u1,u2,hq,Re,by omega,h1,hi,h2⟩
 ·obtain ⟨a,b,ha,hb,rfl⟩:=U3 h
  obtain ⟨hi,hb⟩:=rg i b hb
  obtain ⟨p,u1,u2,rfl,hn,rfl,h1,h2⟩:=yl
  obtain ⟨a',mB,ra⟩:=rs.get' (h1 vs hq)
  obtain ⟨b',dy,rb⟩:=rs2.get' (h2 ws Re)
  rw [ha] at mB;cases mB
  rw [hb] at dy;cases dy
  have st:=Dm.lay (o:= .tup [u1,u2]) va.tp hn
  exact ⟨st, .tup (.inl Aj) (.cons (ra.stp st va) (.cons (rb.stp st va) .nil))⟩
 ·have:(ES xs ys.reverse).length=xs.length:=by unfold ES;rw [List.length_zipWith,List.length_reverse];omega
  rw [this] at h
  rw [rs.length]
  exact h
section
variable {X:Cx}
def iZ (ta tb:AE):AI:=λτ Q=>ta τ λx=>tb τ λy=>match x,y with | .tup xs, .tup ys=>xs.length=ys.length/\Q (ES xs ys.reverse)|_,_=>False
theorem n6 {e f:Expr} {ta tb:AE} {p p2 pos pos2 tpos:Pos} {es:List Expr} {x1:Nat} (hg:Gl X "zip") (hm:X.mg "zip" =none) (i9:Gl X "reversed") (jB:X.mg "reversed" =none) (ha:SE X e ta) (hb:SE X f tb)
 (hs:starEach [e, .Call (.Name "reversed" p2) [f] [] pos2] X.env= [(false,eval e X.env),(false,eval (.Call (.Name "reversed" p2) [f] [] pos2) X.env)] :=by rfl) (S6:starEach [f] X.env= [(false,eval f X.env)] :=by rfl):
 SI X (.Tuple es x1 tpos) (.Call (.Name "zip" p) [e, .Call (.Name "reversed" p2) [f] [] pos2] [] pos) true (iZ ta tb):=by
 obtain ⟨t,pa,s⟩:=ha
 obtain ⟨t',pb,s'⟩:=hb
 refine ⟨_,fG hg hm i9 jB pa pb hs S6,λB T σ τ H R AQ sr h k=>s B T σ τ H _ _ sr h λu x T1 H1 s1 r1 h1=>s' B T1 σ τ H1 _ _ (sr.stp s1) h1 λv y T2 H2 s2 r2 h2=> ?_⟩
 split at h2 <;> first | exact h2.elim|skip
 obtain ⟨e1,h2⟩:=h2
 have r1':=r1.stp s2 (sr.stp s1).va
 obtain ⟨l,us,rfl,hq,rs⟩:=DI r1'
 obtain ⟨m,ws,rfl,Re,rs2⟩:=DI r2
 exact ⟨l,m,ws,rfl,rfl,⟨us,hq⟩,Re,k _ _ T2 H2 (s1.trans s2) (λM2 T3 H3 mv va _=>YQ va e1 (by rw [rs2.length]) (r1'.mv mv) (r2.mv mv)) h2⟩
end
end PL
end
section
namespace L2
open PySem PySem.Spec PyProof.Rows
section
variable {X:Cx}
def isStr:Kd->Bool | .str=>true|_=>false
def bP (K:PySem.W.Frag):List V->Hp->VK->Prop:=λxs H Q=>∃x k,xs= [x, .ty "str"] /\sT K x H k/\Q (.bl (isStr k)) H
theorem X2:CH X (.builtin "isinstance") (bP X.K):=by
 intro pins s σ H xs us Q I r h
 obtain ⟨x,k,rfl,hk,q⟩:=h
 cases r with
 | cons rx rr=>
 cases rr with
 | cons rt rr=>
 cases rr
 cases rt
 have yes:Q (.bl true) H->EP X pins σ Q (.bool true) s:=λz=>⟨.bl true,H,I,rfl,z⟩
 have no:Q (.bl false) H->EP X pins σ Q (.bool false) {s with toks:=s.toks+1}:=λz=>⟨.bl false,H,I.tok _,rfl,z⟩
 cases k with
 | int=>
   obtain ⟨i,rfl⟩:=hk
   obtain ⟨t,rfl⟩:=rx
   exact IsiPair.int_str (no q)
 | bl=>
   obtain ⟨i,rfl⟩:=hk
   cases rx
   exact IsiPair.bool_str (no q)
 | non=>
   have e:x= .non:=hk
   subst e
   cases rx
   exact IsiPair.NoneType_str (no q)
 | str=>
   obtain ⟨i,rfl⟩:=hk
   obtain ⟨t,rfl⟩:=rx
   exact IsiPair.str_str (yes q)
 | lst=>
   obtain ⟨a,ys,rfl,hq⟩:=hk
   cases rx
   obtain ⟨its,r',pl,hz⟩:=I.list hq
   exact IsiPair.isList_str pl.isList (λ_ _ e=>e) (no q)
 | tup=>
   obtain ⟨a,ys,rfl,hq⟩:=hk
   cases rx
   obtain ⟨its,r',pl,hz⟩:=I.tuple hq
   have pl':s.heap.IsTuple a its.toArray:=pl
   exact IsiPair.isTuple_str pl' (λ_ _ e=>e) (no q)
end
end L2
namespace PL
open PySem PySem.Spec PyProof.Rows L2
section
variable {X:Cx}
def tW (x:PV) (Q:PV->Prop):Prop:=match kdOf x with | some k=>Q (.bl (isStr k))|none=>False
def OC:AF:=λxs Q=>match xs with | [x, .ty T] =>T="str" /\tW x Q|_=>False
theorem Sc:CH X (.builtin "isinstance") (bP X.K)/\Fs X.K (bP X.K) OC:=by
 refine ⟨X2,λT M H us xs Q AQ va r h k=> ?_⟩
 unfold OC at h
 split at h <;> first | exact h.elim|skip
 rename_i x ty
 obtain ⟨ht,h⟩:=h
 subst ht
 unfold tW at h
 cases r with
 | cons r t=>
   cases t with
   | cons r2 t=>
     cases t;cases r2
     cases r with
     | non=>exact ⟨_, .non,rfl,rfl,k _ _ T H (.refl va.tp) (.bl _) h⟩
     | bl b=>exact ⟨_, .bl,rfl,⟨_,rfl⟩,k _ _ T H (.refl va.tp) (.bl _) h⟩
     | int b=>exact ⟨_, .int,rfl,⟨_,rfl⟩,k _ _ T H (.refl va.tp) (.bl _) h⟩
     | str b=>exact ⟨_, .str,rfl,⟨_,rfl⟩,k _ _ T H (.refl va.tp) (.bl _) h⟩
     | ty b=>exact h.elim
     | tup hq _=>exact ⟨_, .tup,rfl,⟨_,_,rfl,hq.sq⟩,k _ _ T H (.refl va.tp) (.bl _) h⟩
     | lst hq _ _ _=>exact ⟨_, .lst,rfl,⟨_,_,rfl, .inl (.inl hq)⟩,k _ _ T H (.refl va.tp) (.bl _) h⟩
     | tape _=>exact h.elim
     | scr _=>exact h.elim
     | dct _ _ _=>exact h.elim
end
end PL
end
section
namespace L2
open PySem PySem.Spec PyProof.Rows
def GN (h:Heap):Heap:=(h.push {cls:= .type "dict",data:= .dict #[] }).push {cls:= .type "cell",data:= .cell none}
theorem Pz {h:Heap} {b:Addr} {o:Obj} (e:h.get? b=some o):(GN h).get? b=some o:=Heap.get?_push_of_some _ (Heap.get?_push_of_some _ e)
theorem V7 {h:Heap}:(GN h).Ns h.objs.size (λ_=>none):=(Heap.Ns.new h (.type "dict")).keeps λb o e=>Heap.get?_push_of_some _ e
theorem R6 {h:Heap}:(GN h).IsCell (h.objs.size+1) none:=by
 have e:(h.push {cls:= .type "dict",data:= .dict #[] }).objs.size=h.objs.size+1:=Heap.size_push ..
 rw [<-e]
 exact ⟨_,Heap.get?_push_size _ rfl,rfl⟩
theorem ae {M:Model} {A:Around} {E:Value->Shared->Prop} {s:Shared} {scope:Scope} {y0:Str} {globals:Addr} {cl:List (Str×Addr)} {qual:Str} {env:Env} {Q:Env->Shared->Prop}
 (cf:∀n acc,cellsFrom n scope.names acc=(y0,n)::acc) (pc:∀h,pushCells h scope.names=h.push {cls:= .type "cell",data:= .cell none})
 (hQ:Q (newEnv scope s.heap.objs.size globals ((y0,s.heap.objs.size+1)::cl) qual none .none (some env) builtinsNs) {s with heap:=GN s.heap}):
 wpAny M A (newFunctionEnv scope globals cl [] qual none .none (some env)) Q E s:=by
 simp only [newFunctionEnv,Option.isSome_some,if_true]
 refine wpAny_bind (wpAny_alloc ?_)
 refine wpAny_bind (wpAny_layCells _ (λname kind cells=>by cases wK:kind==NameKind.cell <;> simp [wK]) _ _ _ _ ?_)
 rw [cf,pc]
 rw [show ({s with heap:=s.heap.push {cls:= .type "dict",data:= .dict #[] }}:Shared).heap.objs.size=s.heap.objs.size+1 from Heap.size_push ..]
 rw [List.forIn_nil]
 exact wpAny_bind (wpAny_pure (wpAny_pure hQ))
def JC (X:Cx) (sc:Scope) (N:List Str) (y0:Str) (cl:List (Str×Addr)) (C:Addr) (s:Shared) (H:Hp) (ex:List Addr) (pn:List (Addr×Obj)):Cx:=
 {blk X sc N ((y0,C+1)::cl) C s H ex pn with fn:=λx=>x==y0}
section
variable {X:Cx} {pins:List (Addr×Obj)} {σ:St} {H:Hp} {s:Shared} {fp:List Addr} {sc:Scope} {N:List Str} {cl:List (Str×Addr)} {y0:Str}
theorem gw {C:Addr} {y:Str} {c:Addr} (e:((y0,C+1)::cl).lookup y=some c):(y=y0/\c=C+1)\/cl.lookup y=some c:=by
 rw [List.lookup_cons] at e
 cases hb:y==y0 with
 | true=>rw [hb] at e;cases e;exact .inl ⟨beq_iff_eq.mp hb,rfl⟩
 | false=>rw [hb] at e;exact .inr e
theorem dQ (I:Inv X pins σ H s) (hf:∀b∈fp,D7 X pins H b) (EF:∀b∈fp,b<s.heap.objs.size) (hk:sc.kind= .function)
 (h1:∀y c,cl.lookup y=some c->X.env.cells.lookup y=some c) (h2:∀y,(sc.names.lookup y=some .cell\/sc.names.lookup y=some .free)->∃c,((y0,s.heap.objs.size+1)::cl).lookup y=some c):
 (JC X sc N y0 cl s.heap.objs.size s H fp (X.pn++pins)).Ok where
 mod:=I.ok.mod
 kind:=hk
 glob:=I.ok.glob
 blt:=I.ok.blt
 above:=Nat.le_refl _
 inj:=λx y c a b=>by
  have lo:∀y c,cl.lookup y=some c->c<s.heap.objs.size:=λy c e=>I.szLt (h1 y c e)
  rcases gw a with ⟨e1,e2⟩|a'
  ·rcases gw b with ⟨e3,e4⟩|b'
   ·rw [e1,e3]
   ·rw [e2] at b'
    exact absurd (lo _ _ b') (Nat.not_lt.mpr (Nat.le_succ _))
  ·rcases gw b with ⟨e3,e4⟩|b'
   ·rw [e4] at a'
    exact absurd (lo _ _ a') (Nat.not_lt.mpr (Nat.le_succ _))
   ·exact I.ok.inj x y c (h1 x c a') (h1 y c b')
 has:=λx hx=>h2 x hx
 cab:=λx c z e=>by
  have z:(x==y0)=true:=z
  rcases gw e with ⟨_,rfl⟩|e
  ·exact Nat.le_succ _
  ·have e':((y0,s.heap.objs.size+1)::cl).lookup x=some c:= ‹_›
   rw [List.lookup_cons,z] at e'
   cases e'
   exact Nat.le_succ _
 hd:=I.ok.hd
 frames:=I.ok.frames
 stk:= .inl rfl
 exf:=λb hb=>⟨Nat.ne_of_lt (EF b hb),λx c e=>by
  rcases gw e with ⟨_,rfl⟩|e
  ·exact Nat.ne_of_gt (Nat.lt_succ_of_lt (EF b hb))
  ·exact (hf b hb).2.2.2.2.1 x c (h1 x c e)⟩
 bs:=I.bs
 bsz:=Nat.le_trans I.ok.bsz I.sz
 noex:=λb o e hb=>by
  rcases (hf b hb).2.2.2.1 with z|z
  ·exact I.ok.noex b o e z
  ·exact absurd (Nat.lt_of_lt_of_le (Heap.lt_size (I.ok.bs b o e).1) z) (Nat.lt_irrefl _)
 exfs:=λb hb=>I.notStk (hf b hb).2.1 (hf b hb).2.2.1
 funs:=I.stack
 frf:=I.stkFree
theorem dP {own:Nat} {ix:List Nat} {h':Heap} {m:Str->Option Value} {t':Nat} (I:Inv X pins σ H s) (hf:∀b∈fp,D7 X pins H b) (EF:∀b∈fp,b<s.heap.objs.size) (hk:sc.kind= .function)
 (h1:∀y c,cl.lookup y=some c->X.env.cells.lookup y=some c) (h2:∀y,(sc.names.lookup y=some .cell\/sc.names.lookup y=some .free)->∃c,((y0,s.heap.objs.size+1)::cl).lookup y=some c) (F:QH X sc own ix N) (far:∀(j i:Nat) (x:Str),ix[j]? =some i->N[own+j]? =some x->x≠y0)
 (hn:h'.Ns s.heap.objs.size m) (i6:h'.IsCell (s.heap.objs.size+1) none) (k:∀b o,s.heap.get? b=some o->h'.get? b=some o):
 Inv (JC X sc N y0 cl s.heap.objs.size s H fp (X.pn++pins)) [] (B4 own ix σ) H {s with heap:=h',toks:=t'} where
 ok:=dQ I hf EF hk h1 h2
 os:=rfl
 bare:=I.bare
 base:=Un.kept k
 loc:=by
  refine ⟨m,hn,λi x v e1 e2 e3=> ?_⟩
  obtain ⟨YM,io,ei,es⟩:=Ez e2
  obtain ⟨y,ny,ey,oy,sy⟩:=F.out _ _ ei
  have exy:x=y:=by
   have e1':N[i]? =some x:=e1
   have ny':=ny
   rw [show own+(i-own)=i by omega,e1'] at ny'
   exact Option.some.inj ny'
  subst exy
  have ne:=far _ _ _ ei ny
  obtain ⟨m0,wR,qH⟩:=I.loc
  obtain ⟨u,r,l⟩:=qH io x v ey es (.inr (.inl oy))
  refine ⟨u,r, ?_⟩
  rcases l with ⟨z,_⟩|⟨_,c,ec,z⟩
  ·have z':X.env.scope.names.lookup x=some .local:=z
   rw [oy] at z'
   cases z'
  ·obtain ⟨c',ec'⟩:=h2 x (.inl sy)
   have ec2:cl.lookup x=some c':=by
    rcases gw ec' with ⟨e,_⟩|e
    ·exact absurd e ne
    ·exact e
   have:=h1 x c' ec2
   rw [ec] at this
   cases this
   obtain ⟨o,ho,hd⟩:=z
   exact .inr ⟨.inl sy,c,ec',o,k c o ho,hd⟩
 cell:=λx c e=>by
  rcases gw e with ⟨_,rfl⟩|e
  ·exact ⟨none,i6⟩
  ·obtain ⟨v,o,ho,hd⟩:=I.cell x c (h1 x c e)
   exact ⟨v,o,k c o ho,hd⟩
 free:=I.hok.fresh (Nat.le_refl _)
 freeC:=λx c e=>by
  rcases gw e with ⟨_,rfl⟩|e
  ·exact I.hok.fresh (Nat.le_succ _)
  ·exact I.freeC x c (h1 x c e)
 pin:=λp hp=>by
  have EN:p∈X.pn++pins:=by simpa [JC,blk] using hp
  obtain ⟨a,b,c,d,e⟩:=I.pin p EN
  exact ⟨k _ _ a,b,Nat.ne_of_lt (Heap.lt_size a),I.notStk c d,e⟩
 hok:=I.hok.kept k
 len:=by rw [Le];exact F.len.symm
theorem Zk {own:Nat} {ix:List Nat} {σ':St} {H':Hp} {s':Shared} {pins':List (Addr×Obj)} (I:Inv X pins σ H s) (hf:∀b∈fp,D7 X pins H b) (EF:∀b∈fp,b<s.heap.objs.size)
 (B:Inv (JC X sc N y0 cl s.heap.objs.size s H fp (X.pn++pins)) pins' σ' H' s'):Inv X pins σ H' s':=
 I.call' (ch:=fp) B.os B.base B.hok B.bare λb hb=>⟨(hf b hb).2.2.2.1,(hf b hb).2.1,(hf b hb).2.2.2.2.1,(hf b hb).2.2.2.2.2⟩
end
section
variable {X:Cx} {tg elt iter:Expr} {ifs:List Expr} {scope:Scope} {pos:Pos} {wi:TI} {own:Nat} {ix:List Nat} {N:List Str} {y0:Str} {g:TG} {tt:TT} {te:TE}
structure M5 (X:Cx) (tg elt:Expr) (ifs:List Expr) (scope:Scope) (own:Nat) (ix:List Nat) (N:List Str) (y0:Str) (g:TG) (tt:TT) (te:TE):Prop where
 kind:scope.kind= .function
 cells:∀y∈scope.names,y.2= .cell->y.1=y0
 cf:∀n acc,cellsFrom n scope.names acc=(y0,n)::acc
 pc:∀h,pushCells h scope.names=h.push {cls:= .type "cell",data:= .cell none}
 far:∀(j i:Nat) (x:Str),ix[j]? =some i->N[own+j]? =some x->x≠y0
 names:∀y∈scope.names,y.2= .local->scope.names.lookup y.1=some .local
 frees:∀y∈scope.names,y.2= .free->X.env.scope.names.lookup y.1=some .cell
 ins:QH X (relabel scope X.env) own ix N
 keep:HD own g
 tgt:∀cl C s H ex pn,PG (JC X (relabel scope X.env) N y0 cl C s H ex pn) tg g
 tst:∀cl C s H ex pn,Wb (JC X (relabel scope X.env) N y0 cl C s H ex pn) ifs tt
 val:∀cl C s H ex pn,PE (JC X (relabel scope X.env) N y0 cl C s H ex pn) elt te
theorem KM {env:Env} {y:Str} {k:NameKind} (W7:∀y∈scope.names,y.2= .cell->y.1=y0) (h:(y,k)∈(relabel scope env).names) (hk:k= .cell\/k= .free):(y,NameKind.free)∈scope.names\/y=y0:=by
 obtain ⟨⟨n,k'⟩,hm,e⟩:=List.mem_map.mp (show (y,k)∈scope.names.map _ from h)
 dsimp only at e
 split at e
 ·rename_i hc
  cases e
  have:k'= .free:=by
   cases k' <;> simp_all
  subst this
  exact .inl hm
 ·cases e
  rcases hk with z|z
  ·subst z
   exact .inr (W7 _ hm rfl)
  ·subst z
   exact .inl hm
theorem VS {pins:List (Addr×Obj)} {σ:St} {H:Hp} {s:Shared} {fp:List Addr} {cl:List (Str×Addr)} {it:Addr} {tn:Nat->Heap->Prop} {J:It} {D:Addr} {R:Result->Shared->Prop} {Qh:Hp->Prop} {W:Nat->Nat->Hp->Prop}
 (hc:X.calm=true) (O:M5 X tg elt ifs scope own ix N y0 g tt te) (T:Js X.prog X.w X.K tg J fp it tn) (I:Inv X pins σ H s) (hf:∀b∈fp,D7 X pins H b) (EF:∀b∈fp,b<s.heap.objs.size)
 (hW:JD J D (B4 own ix σ) g tt te Qh W)
 (hR:∀σ' H' s',Inv (JC X (relabel scope X.env) N y0 cl s.heap.objs.size s H fp (X.pn++pins)) [] σ' H' s'->Qh H'->R (.ok .next) s')
 (n:Nat) (s0:Shared) (h0:∃i H',Inv (JC X (relabel scope X.env) N y0 cl s.heap.objs.size s H fp (X.pn++pins)) [] (B4 own ix σ) H' s0/\tn i s0.heap/\(∀b∈fp,H' b=none)/\W i n H'):
 codeAny (model X.prog X.w) X.A (.compLoop (.ListComp elt [⟨tg,iter,ifs,0⟩] scope pos) 0 (.ref it) (.ref D) (Fa X.env (relabel scope X.env) ((y0,s.heap.objs.size+1)::cl) s.heap.objs.size)) R s0:=by
 refine codeAny_loop rfl (λn s'=>∃i H',Inv (JC X (relabel scope X.env) N y0 cl s.heap.objs.size s H fp (X.pn++pins)) [] (B4 own ix σ) H' s'/\tn i s'.heap/\(∀b∈fp,H' b=none)/\W i n H') (λn s1 h1=> ?_) n h0
 obtain ⟨i,H1,B1,st1,fr1,w1⟩:=h1
 generalize hY:JC X (relabel scope X.env) N y0 cl s.heap.objs.size s H fp (X.pn++pins)=Y at *
 have eA:Y.A=X.A:=by rw [<-hY];rfl
 have eP:Y.prog=X.prog:=by rw [<-hY];rfl
 have eW:Y.w=X.w:=by rw [<-hY];rfl
 have eK:Y.K=X.K:=by rw [<-hY];rfl
 have eE:Fa X.env (relabel scope X.env) ((y0,s.heap.objs.size+1)::cl) s.heap.objs.size=Y.env:=by rw [<-hY];rfl
 have eX:Y.xe=λ_ _=>False:=by rw [<-hY];rfl
 have eC:Y.calm=true:=by rw [<-hY];exact hc
 have hg:PG Y tg g:=by rw [<-hY];exact O.tgt _ _ _ _ _ _
 have ht:Wb Y ifs tt:=by rw [<-hY];exact O.tst _ _ _ _ _ _
 have hv:PE Y elt te:=by rw [<-hY];exact O.val _ _ _ _ _ _
 have stat:∀{H':Hp},(∀b∈fp,H' b=none)->∀b∈fp,D7 Y [] H' b:=λ{H'} hn b hb=>by
  obtain ⟨_,a1,a2,a3,a4,a5⟩:=hf b hb
  refine ⟨hn b hb, ?_, ?_, ?_, ?_, ?_⟩
  ·rw [<-hY];exact Nat.ne_of_lt (EF b hb)
  ·rw [<-hY];exact I.notStk a1 a2
  ·rw [<-hY];exact .inl hb
  ·intro x c e
   exact (B1.ok.exf b (by rw [<-hY];exact hb)).2 x c e
  ·intro p hp
   have:p∈X.pn++pins:=by rw [<-hY] at hp;simpa [JC,blk] using hp
   exact a5 p this
 rw [eE,<-eA,<-eP,<-eW]
 show wpAny _ _ ((compTurn (.ListComp elt [⟨tg,iter,ifs,0⟩] scope pos) 0 (.ref it) (.ref D) Y.env).onRaise (λx=>do noteFrame x Y.env;theTreesLotGoes x)) _ _ s1
 refine wpAny_noted ?_
 rw [compTurn_list]
 have ff:∀{α:Type} {t:Sem α} {Q:α->Shared->Prop} {E:Value->Shared->Prop} {s:Shared},wpAny (model Y.prog Y.w) Y.A t Q Y.xe s->wpAny (model Y.prog Y.w) Y.A t Q E s:=λh=>wpAny_mono h (λ_ _ q=>q) λ_ _ z=>by rw [eX] at z;exact z.elim
 refine wpAny_bind (wpAny_standAt (wpAny_bind ?_))
 rcases hW i n H1 w1 with ⟨stop,qn⟩|⟨go,step⟩
 ·have zd:=λE=>T.done Y eP eW eK eC i [] s1 _ H1 E B1 (stat fr1) st1 stop
  rw [<-eP,<-eW] at zd
  refine Bg (zd _) λr s4 ⟨hr,I4⟩=> ?_
  subst hr
  exact wpAny_pure (hR _ _ _ I4 qn)
 ·have zi:=λE=>T.item Y eP eW eK eC i [] s1 _ H1 E B1 (stat fr1) st1 go
  rw [<-eP,<-eW] at zi
  refine Bg (zi _) λr s4 ⟨u,hr,h4⟩=> ?_
  subst hr
  refine wpAny_bind (Bg h4 λ_ s5 ⟨x,H5,I5,r5,y5,st5,fr5⟩=> ?_)
  have I5':=I5.pinned (stat fr5) (T.obj _ _ st5)
  refine wpAny_bind (Bg (ff (hg _ s5 _ H5 x u _ I5' r5 (O.keep _ _ _ _ (step x H5 y5)))) λ_ s6 ⟨σ6,H6,I6,q6,l6,k6⟩=> ?_)
  refine wpAny_bind (Bg (ff (ht _ s6 σ6 H6 _ I6 q6)) λok s7 ⟨H7,I7,q7⟩=> ?_)
  have back:∀{H8:Hp} {s8:Shared} {m':Nat},Inv Y ([] ++ Ff fp s5.heap) σ6 H8 s8->m'<n->W (i+1) m' H8->
   ∃m,m<n/\∃i H',Inv Y [] (B4 own ix σ) H' s8/\tn i s8.heap/\(∀b∈fp,H' b=none)/\W i m H':=λ{H8 s8 m'} I8 hm w8=>by
   refine ⟨m',hm,i+1,H8,I8.unpinned.weak l6.symm (λj v hj=> ?_),T.keep _ _ _ st5 λb hb o e=>(I8.pin (b,o) (List.mem_append_right _ (List.mem_append_right _ (B7 hb e)))).1,λb hb=> ?_,w8⟩
   ·rw [k6 j (Ez hj).1]
    exact hj
   ·obtain ⟨o,e,d⟩:=T.obj _ _ st5 b hb
    exact (I8.pin (b,o) (List.mem_append_right _ (List.mem_append_right _ (B7 hb e)))).2.1
  cases ok with
  | false=>
    obtain ⟨m',hm,w8⟩:=q7
    exact wpAny_pure ⟨rfl,back I7 hm w8⟩
  | true=>
    refine wpAny_bind (wpAny_bind (Bg (ff (hv _ s7 σ6 H7 _ I7 q7)) λyv s8 ⟨y,H8,I8,r8,ys,hD,hz,m',hm,w8⟩=> ?_))
    refine wpAny_bind (Bg (ff (Ho _ s8 σ6 H8 (.ref D) [y] (.ref D) [yv] (λ_ H9=>H9=upd H8 D (.lst (ys ++ [y]))) I8 rfl (.cons r8 .nil) ⟨D,ys,y,rfl,rfl,hD,hz,rfl⟩)) λ_ s9 ⟨_,H9,I9,_,e9⟩=> ?_)
    subst e9
    exact wpAny_pure (wpAny_pure ⟨rfl,back I9 hm w8⟩)
theorem X9 {pins:List (Addr×Obj)} {σ:St} {H:Hp} {s:Shared} {use:Option (Value->Sem Unit)} {Q:Value->Shared->Prop} {it:Addr} {fp:List Addr} {cl:List (Str×Addr)} {tn:Nat->Heap->Prop} {J:It} {Qd:Addr->Hp->Prop}
 (hc:X.calm=true) (O:M5 X tg elt ifs scope own ix N y0 g tt te) (T:Js X.prog X.w X.K tg J fp it tn) (I:Inv X pins σ H s) (hf:∀b∈fp,D7 X pins H b) (st:tn 0 s.heap)
 (h1:∀y c,cl.lookup y=some c->X.env.cells.lookup y=some c) (h2:∀y,(y,NameKind.free)∈scope.names->∃c,cl.lookup y=some c)
 (hq:∀D,H D=none->∃W:Nat->Nat->Hp->Prop,(∃m,W 0 m (upd H D (.lst [])))/\JD J D (B4 own ix σ) g tt te (Qd D) W)
 (hR:∀D C H' s',(∃m,s'.heap.Ns C m)->Inv X pins σ H' s'->(∀σ2 s2,Inv X pins σ2 H' s2->∀h',Heap.SameBut C s2.heap h'->Inv X pins σ2 H' {s2 with heap:=h'})->C≠X.env.locals->(∀x c,X.env.cells.lookup x=some c->C≠c)->Qd D H'->
   compPost (model X.prog X.w) X.A X.xe use Q (.ref D) C (.ok .next) s'):
 wpAny (model X.prog X.w) X.A (newList []) (λacc s₃=>wpAny (model X.prog X.w) X.A (newFunctionEnv scope X.env.globals cl [] X.env.qual none .none (some X.env)) (λcenv s₄=>
  codeAny (model X.prog X.w) X.A (.compStart (.ListComp elt [⟨tg,iter,ifs,0⟩] scope pos) 0 (.ref it) acc {cenv with scope:=relabel scope X.env}) (compPost (model X.prog X.w) X.A X.xe use Q acc cenv.locals) s₄) X.xe s₃) X.xe s:=by
 refine wpAny_newObj_type ?_ (by simp [sizeOk])
 have I3:Inv X pins σ (upd H s.heap.objs.size (.lst [])) {s with heap:=s.heap.push {cls:= .type "list",data:= .seq ([] :List Value).toArray}}:=I.lnew (t':=s.toks) .nil (Nat.zero_le _)
 have UI:=I.fresh
 obtain ⟨W,⟨m0,w0⟩,hW⟩:=hq _ UI
 have aK:∀b∈fp,b<s.heap.objs.size:=λb hb=>by
  obtain ⟨o,e,_⟩:=T.obj _ _ st b hb
  exact Heap.lt_size e
 have W4:∀b∈fp,D7 X pins (upd H s.heap.objs.size (.lst [])) b:=λb hb=>by
  obtain ⟨a0,ar⟩:=hf b hb
  exact ⟨by rw [Ah (Nat.ne_of_lt (aK b hb))];exact a0,ar⟩
 generalize mR:({s with heap:=s.heap.push {cls:= .type "list",data:= .seq ([] :List Value).toArray}}:Shared)=s3 at I3
 have st3:tn 0 s3.heap:=T.keep _ _ _ st λb hb o e=>by rw [<-mR];exact Heap.get?_push_of_some _ e
 have EF:∀b∈fp,b<s3.heap.objs.size:=λb hb=>by
  obtain ⟨o,e,_⟩:=T.obj _ _ st3 b hb
  exact Heap.lt_size e
 refine ae O.cf O.pc ?_
 have kp:∀b o,s3.heap.get? b=some o->(GN s3.heap).get? b=some o:=λb o e=>Pz e
 have gi:=V7 (h:=s3.heap)
 have i6:=R6 (h:=s3.heap)
 have mJ:∀y,((relabel scope X.env).names.lookup y=some .cell\/(relabel scope X.env).names.lookup y=some .free)->∃c,((y0,s3.heap.objs.size+1)::cl).lookup y=some c:=λy hy=>by
  have go:(y,NameKind.free)∈scope.names\/y=y0:=by
   rcases hy with z|z
   ·exact KM O.cells (HL z) (.inl rfl)
   ·exact KM O.cells (HL z) (.inr rfl)
  rw [List.lookup_cons]
  cases hb:y==y0 with
  | true=>exact ⟨_,rfl⟩
  | false=>
    rcases go with z|z
    ·exact h2 y z
    ·rw [z] at hb;simp at hb
 have B:=dP (N:=N) (t':=s3.toks) I3 W4 EF (sc:=relabel scope X.env) O.kind h1 mJ O.ins O.far gi i6 kp
 have st4:tn 0 (GN s3.heap):=T.keep _ _ _ st3 λb hb o e=>kp b o e
 have loop:∀s4:Shared,s4={s3 with heap:=GN s3.heap}->
  codeAny (model X.prog X.w) X.A (.compLoop (.ListComp elt [⟨tg,iter,ifs,0⟩] scope pos) 0 (.ref it) (.ref s.heap.objs.size) (Fa X.env (relabel scope X.env) ((y0,s3.heap.objs.size+1)::cl) s3.heap.objs.size)) (compPost (model X.prog X.w) X.A X.xe use Q (.ref s.heap.objs.size) s3.heap.objs.size) s4:=by
  rintro s4 rfl
  refine VS (cl:=cl) (Qh:=Qd s.heap.objs.size) hc O T I3 W4 EF hW (λσ' H' s' B' q'=> ?_) m0 _ ⟨0,_,B,st4,λb hb=>(W4 b hb).1,w0⟩
  refine hR _ _ H' s' (let ⟨m,hm,_⟩:=B'.loc;⟨m,hm⟩) (Zk (own:=own) (ix:=ix) I3 W4 EF B') (λσ2 s2 I2 h' hs=>N6 I3 rfl I2 B'.free hs) (Nat.ne_of_gt I3.lt) (λx c e=>Nat.ne_of_gt (I3.szLt e)) q'
 exact codeAny_compStart_list (loop _ rfl) (T.self _ 0 _ _ _ st4 (loop _ rfl))
theorem bB (hc:X.calm=true) (hi:PI X tg iter wi) (O:M5 X tg elt ifs scope own ix N y0 g tt te) (hs:∀x,foldedSetIterable iter X.env x=pure x:=by intro _;rfl):
 PE X (.ListComp elt [⟨tg,iter,ifs,0⟩] scope pos) (Xh wi own ix g tt te):=by
 intro pins s σ H Q I h
 obtain ⟨cl,OG,h1,h2⟩:=GF (env:=X.env) (scope:=scope) λy hy e=>I.ok.has y.1 (.inl (O.frees y hy e))
 rw [eval_ListComp]
 refine wpAny_comprehension_free (use:=none) rfl hs OG O.kind O.names (Bg (hi pins s σ H _ I h) λv s1 hv=>Bg hv λitv s2 eB=> ?_)
 obtain ⟨it,fp,tn,J,H2,rfl,I2,T,st2,f2,q⟩:=eB
 exact X9 (Qd:=λD H'=>Q (.ref D) H') hc O T I2 f2 st2 h1 h2 q λD C H' s' hn I' gone nl nc q'=>by
  obtain ⟨m,hm⟩:=hn
  exact ⟨m,hm,λh' hs=>⟨.ref D,H',gone σ s' I' h' hs,rfl,q'⟩⟩
end
end L2
end
section
namespace PL
open PySem PySem.Spec PyProof.Rows L2
section
variable {X:Cx} {ta:AE} {pos:Pos}
structure ZQ (X:Cx) (tg elt:Expr) (ifs:List Expr) (scope:Scope) (own:Nat) (ix:List Nat) (N:List Str) (y0:Str) (g:AG) (t:AT) (te:AE):Prop where
 ex:∃g' t' te',M5 X tg elt ifs scope own ix N y0 g' t' te'/\Jq X.K g' g/\Mj X.K t' t/\GD X.K te' te
theorem cA {tg elt iter:Expr} {ifs:List Expr} {scope:Scope} {own:Nat} {ix:List Nat} {N:List Str} {y0:Str} {g:AG} {t:AT} {s:Bool} {ai:AI} (hc:X.calm=true) (hi:SI X tg iter s ai) (O:ZQ X tg elt ifs scope own ix N y0 g t ta) (hs:∀x,foldedSetIterable iter X.env x=pure x:=by intro _;rfl):
 SF X (.ListComp elt [⟨tg,iter,ifs,0⟩] scope pos) (Cv ai own ix g t ta):=by
 obtain ⟨wi,pi,si⟩:=hi
 obtain ⟨g',t',te',O,sg,st,se⟩:=O.ex
 exact ⟨_,bB hc pi O hs,Os si sg st se⟩
theorem dW {tg elt:Expr} {ifs:List Expr} {scope:Scope} {own:Nat} {ix:List Nat} {N:List Str} (y0:Str) {g:AG} {t:AT} {te:AE} (h1:scope.kind= .function) (h2:(scope.names.all λy=> !decide (y.2= .cell)||decide (y.1=y0))=true)
 (cf:∀n acc,cellsFrom n scope.names acc=(y0,n)::acc) (pc:∀h,pushCells h scope.names=h.push {cls:= .type "cell",data:= .cell none})
 (h3:(scope.names.all λy=> !decide (y.2= .local)||decide (scope.names.lookup y.1=some .local))=true)
 (h4:(scope.names.all λy=> !decide (y.2= .free)||decide (X.env.scope.names.lookup y.1=some .cell))=true) (h5:N.length=own+ix.length) (h6:OB X (relabel scope X.env) own ix N=true)
 (h7:((N.drop own).all λx=> !decide (x=y0))=true)
 (tgt:∀cl C s H ex pn,SK own (JC X (relabel scope X.env) N y0 cl C s H ex pn) tg g)
 (tst:∀cl C s H ex pn,gS (JC X (relabel scope X.env) N y0 cl C s H ex pn) ifs t)
 (val:∀cl C s H ex pn,SE (JC X (relabel scope X.env) N y0 cl C s H ex pn) elt te):ZQ X tg elt ifs scope own ix N y0 g t te:=by
 refine ⟨iy X.K own g,lF X.K t,ku X.K te,⟨h1,λy hy e=> ?_,cf,pc,λj i x hj hx=> ?_,λy hy e=> ?_,λy hy e=> ?_,Tz h5 h6,J9,λcl C s H ex pn=>(tgt cl C s H ex pn).of,λcl C s H ex pn=>(tst cl C s H ex pn).of,λcl C s H ex pn=>(val cl C s H ex pn).of⟩,NM,NN,Sj⟩
 ·have:=List.all_eq_true.mp h2 y hy
  simpa [e] using this
 ·have hm:x∈N.drop own:=List.mem_of_getElem? (i:=j) (by rw [List.getElem?_drop];exact hx)
  have:=List.all_eq_true.mp h7 x hm
  simpa using this
 ·have:=List.all_eq_true.mp h3 y hy
  simpa [e] using this
 ·have:=List.all_eq_true.mp h4 y hy
  simpa [e] using this
end
end PL
end
section
namespace L2
open PySem PySem.Spec PyProof.Rows
section
variable {X:Cx}
end
end L2
namespace PL
open PySem PySem.Spec PyProof.Rows L2
section
variable {X:Cx}
end
end PL
end
section
namespace PL
open PySem L2 PyProof.Rows
class Zc (Ts:List String):Prop where
 q:Ts.any (Rf .tup)=true/\Ts.any (Rf .lst)=true/\Ts.any (Rf .int)=false/\Ts.any (Rf .bl)=false/\Ts.any (Rf .non)=false/\Ts.any (Rf .str)=false
instance:Zc ["tuple","list"] :=⟨by decide⟩
instance:Zc ["list","tuple"] :=⟨by decide⟩
section
variable {Ts:List String} [h:Zc Ts] {Q:PV->Prop} {xs:List PV}
end
end PL
end
section
namespace L2
open PySem PySem.Spec PyProof.Rows
section
variable {κ:Type} [DecidableEq κ]
def E5 (kvs:List (κ×V)) (k:κ):Option V:=(kvs.find? λkv=>decide (kv.1=k)).map (·.2)
def HQ (kvs:List (κ×V)) (k:κ) (v:V):List (κ×V):=
 if (kvs.any λkv=>decide (kv.1=k))=true then kvs.map (λkv=>if kv.1=k then (kv.1,v) else kv) else kvs ++ [(k,v)]
def ga (kvs:List (κ×V)) (k:κ):List (κ×V):=kvs.filter λkv=>decide (kv.1≠k)
theorem K9 {p:κ×V} {r:List (κ×V)} {k:κ} (e:p.1=k):E5 (p::r) k=some p.2:=by simp [E5,List.find?_cons,e]
theorem K8 {p:κ×V} {r:List (κ×V)} {k:κ} (e:¬p.1=k):E5 (p::r) k=E5 r k:=by simp [E5,List.find?_cons,e]
theorem O5 (k:κ):∀kvs:List (κ×V),(kvs.any λkv=>decide (kv.1=k))=(E5 kvs k).isSome
 | [] =>rfl
 | p::r=>by
   rw [List.any_cons]
   by_cases e:p.1=k
   ·simp only [K9 e,decide_eq_true e,Bool.true_or,Option.isSome_some]
   ·rw [K8 e,decide_eq_false e,Bool.false_or];exact O5 k r
theorem UP (kvs:List (κ×V)) (k:κ) (v:V):(HQ kvs k v).length<=kvs.length+1:=by
 unfold HQ
 split
 ·rw [List.length_map];omega
 ·rw [List.length_append,List.length_cons,List.length_nil];omega
theorem Jo.isSome_eq {o:Option V} {u:Option Value} (r:Jo o u):o.isSome=u.isSome:=by
 cases o with
 | none=>cases u with
   | none=>rfl
   | some _=>exact (show False from r).elim
 | some _=>cases u with
   | none=>exact (show False from r).elim
   | some _=>rfl
theorem Jo.getD {o:Option V} {u:Option Value} {d:V} {d':Value} (r:Jo o u) (rd:RelV d d'):RelV (o.getD d) (u.getD d'):=by
 cases o with
 | none=>cases u with
   | none=>exact rd
   | some _=>exact (show False from r).elim
 | some _=>cases u with
   | none=>exact (show False from r).elim
   | some _=>exact r
theorem KV.val {kvs:List (κ×V)} {vs:List (κ×Value)} (r:KV kvs vs) (k:κ):Jo (E5 kvs k) (valueAt vs k):=by
 unfold KV at r
 induction r with
 | nil=>exact True.intro
 | @cons p q ps qs h t ih=>
   obtain ⟨h1,h2⟩:=h
   by_cases e:p.1=k
   ·have e':q.1=k:=h1.symm.trans e
    have b:valueAt (q::qs) k=some q.2:=by simp [valueAt,List.find?_cons,e']
    rw [K9 e,b];exact h2
   ·have e':¬q.1=k:=λz=>e (h1.trans z)
    have b:valueAt (q::qs) k=valueAt qs k:=by simp [valueAt,List.find?_cons,e']
    rw [K8 e,b];exact ih
theorem KV.any {kvs:List (κ×V)} {vs:List (κ×Value)} (r:KV kvs vs) (k:κ):(kvs.any λkv=>decide (kv.1=k))=vs.any λkv=>decide (kv.1=k):=by
 unfold KV at r
 induction r with
 | nil=>rfl
 | cons h t ih=>rw [List.any_cons,List.any_cons,ih,h.1]
theorem KV.repl {kvs:List (κ×V)} {vs:List (κ×Value)} (r:KV kvs vs) (k:κ) {y:V} {u:Value} (ry:RelV y u):
 KV (kvs.map λkv=>if kv.1=k then (kv.1,y) else kv) (vs.map λkv=>if kv.1=k then (kv.1,u) else kv):=by
 unfold KV at r ⊢
 induction r with
 | nil=>exact .nil
 | @cons p q ps qs h t ih=>
   rw [List.map_cons,List.map_cons]
   refine .cons ?_ ih
   obtain ⟨h1,h2⟩:=h
   by_cases e:p.1=k
   ·rw [if_pos e,if_pos (h1.symm.trans e)];exact ⟨h1,ry⟩
   ·rw [if_neg e,if_neg (λz=>e (h1.trans z))];exact ⟨h1,h2⟩
theorem KV.put {kvs:List (κ×V)} {vs:List (κ×Value)} (r:KV kvs vs) (k:κ) {y:V} {u:Value} (ry:RelV y u):KV (HQ kvs k y) (stored vs k u):=by
 unfold HQ stored
 rw [r.any k]
 by_cases e:(vs.any λkv=>decide (kv.1=k))=true
 ·rw [if_pos e,if_pos e];exact r.repl k ry
 ·rw [if_neg e,if_neg e];exact Paired.snoc r ⟨rfl,ry⟩
theorem KV.drop {kvs:List (κ×V)} {vs:List (κ×Value)} (r:KV kvs vs) (k:κ):KV (ga kvs k) (without vs k):=by
 unfold KV at r ⊢
 unfold ga without
 induction r with
 | nil=>exact .nil
 | @cons p q ps qs h t ih=>
   obtain ⟨h1,h2⟩:=h
   rw [List.filter_cons,List.filter_cons]
   by_cases e:p.1=k
   ·have a:¬decide (p.1≠k)=true:=by simp [e]
    have b:¬decide (q.1≠k)=true:=by simp [h1.symm.trans e]
    rw [if_neg a,if_neg b];exact ih
   ·have e':¬q.1=k:=λz=>e (h1.trans z)
    have a:decide (p.1≠k)=true:=by simp [e]
    have b:decide (q.1≠k)=true:=by simp [e']
    rw [if_pos a,if_pos b];exact .cons ⟨h1,h2⟩ ih
theorem KV.keys {kvs:List (κ×V)} {vs:List (κ×Value)} (r:KV kvs vs):kvs.map (·.1)=vs.map (·.1):=by
 unfold KV at r
 induction r with
 | nil=>rfl
 | cons h t ih=>rw [List.map_cons,List.map_cons,ih,h.1]
theorem KV.length {kvs:List (κ×V)} {vs:List (κ×Value)} (r:KV kvs vs):kvs.length=vs.length:=Paired.length r
end
abbrev KT (H:Hp):List (List Fj×V)->List (List Fj×Addr×Value)->Prop:=Paired λp q=>p.1=q.1/\H q.2.1=some (.tup (p.1.map kV))/\RelV p.2 q.2.2
theorem KT.val {H:Hp} {kvs:List (List Fj×V)} {xs:List (List Fj×Addr×Value)} (r:KT H kvs xs) (k:List Fj):Jo (E5 kvs k) ((atKey xs k).map (·.2)):=by
 induction r with
 | nil=>exact True.intro
 | @cons p q ps qs h t ih=>
   obtain ⟨h1,_,h2⟩:=h
   by_cases e:p.1=k
   ·have e':q.1=k:=h1.symm.trans e
    have b:atKey (q::qs) k=some q.2:=by simp [atKey,List.find?_cons,e']
    rw [K9 e,b];exact h2
   ·have e':¬q.1=k:=λz=>e (h1.trans z)
    have b:atKey (q::qs) k=atKey qs k:=by simp [atKey,List.find?_cons,e']
    rw [K8 e,b];exact ih
theorem KT.repl {H:Hp} {kvs:List (List Fj×V)} {xs:List (List Fj×Addr×Value)} (r:KT H kvs xs) (k:List Fj) {y:V} {u:Value} (ry:RelV y u):
 KT H (kvs.map λkv=>if kv.1=k then (kv.1,y) else kv) (xs.map (putAt k u)):=by
 induction r with
 | nil=>exact .nil
 | @cons p q ps qs h t ih=>
   rw [List.map_cons,List.map_cons]
   refine .cons ?_ ih
   obtain ⟨h1,h2,h3⟩:=h
   unfold putAt
   by_cases e:p.1=k
   ·rw [if_pos e,if_pos (h1.symm.trans e)];exact ⟨h1,h2,ry⟩
   ·rw [if_neg e,if_neg (λz=>e (h1.trans z))];exact ⟨h1,h2,h3⟩
theorem KT.put {H:Hp} {kvs:List (List Fj×V)} {xs:List (List Fj×Addr×Value)} (r:KT H kvs xs) (k:List Fj) {b:Addr} {y:V} {u:Value} (hb:H b=some (.tup (k.map kV))) (ry:RelV y u):
 KT H (HQ kvs k y) (storedH xs k b u):=by
 have e:(kvs.any λkv=>decide (kv.1=k))=(atKey xs k).isSome:=by
  rw [O5,(r.val k).isSome_eq,Option.isSome_map]
 unfold HQ storedH
 rw [e]
 by_cases q:(atKey xs k).isSome=true
 ·rw [if_pos q,if_pos q];exact r.repl k ry
 ·rw [if_neg q,if_neg q];exact Paired.snoc r ⟨rfl,hb,ry⟩
theorem KT.keeps {H H':Hp} {kvs:List (List Fj×V)} {xs:List (List Fj×Addr×Value)} (r:KT H kvs xs) (ht:∀b ys,H b=some (.tup ys)->H' b=some (.tup ys)):KT H' kvs xs:=
 Paired.mapP r λ_ _ z=>⟨z.1,ht _ _ z.2.1,z.2.2⟩
section
variable {P:Program} {w:World} {H:Hp} {h:Heap} {a:Addr}
end
def c9 (H:Hp) (a:Addr) (y:V) (r:Option V):Prop:=
 (∃kvs k,Rd H a (.dK kvs)/\y=kV k/\r=E5 kvs k)\/∃kvs k b,Rd H a (.dT kvs)/\y= .ref b/\H b=some (.tup (k.map kV))/\r=E5 kvs k
def dA (H:Hp) (a:Addr) (y v:V) (H':Hp):Prop:=
 (∃kvs k,H a=some (.dK kvs)/\y=kV k/\kvs.length<sizeLine/\H'=upd H a (.dK (HQ kvs k v)))\/
 ∃kvs k b,H a=some (.dT kvs)/\y= .ref b/\H b=some (.tup (k.map kV))/\kvs.length<sizeLine/\H'=upd H a (.dT (HQ kvs k v))
theorem c9.k {H:Hp} {a:Addr} {kvs:List (Fj×V)} {k:Fj} (e:H a=some (.dK kvs)):c9 H a (kV k) (E5 kvs k):= .inl ⟨kvs,k, .inl e,rfl,rfl⟩
theorem c9.t {H:Hp} {a b:Addr} {kvs:List (List Fj×V)} {k:List Fj} (e:H a=some (.dT kvs)) (eb:H b=some (.tup (k.map kV))):c9 H a (.ref b) (E5 kvs k):= .inr ⟨kvs,k,b, .inl e,rfl,eb,rfl⟩
theorem dA.k {H:Hp} {a:Addr} {kvs:List (Fj×V)} {k:Fj} {v:V} (e:H a=some (.dK kvs)) (hl:kvs.length<sizeLine):dA H a (kV k) v (upd H a (.dK (HQ kvs k v))):= .inl ⟨kvs,k,e,rfl,hl,rfl⟩
theorem dA.t {H:Hp} {a b:Addr} {kvs:List (List Fj×V)} {k:List Fj} {v:V} (e:H a=some (.dT kvs)) (eb:H b=some (.tup (k.map kV))) (hl:kvs.length<sizeLine):
 dA H a (.ref b) v (upd H a (.dT (HQ kvs k v))):= .inr ⟨kvs,k,b,e,rfl,eb,hl,rfl⟩
section
variable {X:Cx} {pins:List (Addr×Obj)} {σ:St} {H:Hp} {s:Shared} {a:Addr} {y v:V} {u r:Value} {o:Option V} {A:Around} {E:Value->Shared->Prop}
theorem Inv.big (I:Inv X pins σ H s):sysModules<s.heap.objs.size:=by
 have h:mainGlobals<s.heap.objs.size:=(I.mod.glob.keeps I.bk).lt
 exact Nat.lt_trans (by decide) h
theorem dX {h':Heap} {t':Nat} {ob:HO} (I:Inv X pins σ H s) (mu:lh (H a)) (hs:Heap.SameBut a s.heap h') (he:∃q,h'.get? a=some q) (new:DN X.prog X.w (upd H a ob) h' a ob):
 Inv X pins σ (upd H a ob) {s with heap:=h',toks:=t'}:=
 I.write (x:=a) (e:=a) mu (.inl rfl) (λb q hb z=>(hs.2 b hb).trans z) he new
end
section
variable {X:Cx} {pins:List (Addr×Obj)} {σ:St} {H:Hp} {s:Shared} {a:Addr} {kvs:List (Fj×V)} {k:Fj} {u:Value} {A:Around} {E:Value->Shared->Prop}
end
def iO (i:Expr):Prop:=∀ov iv,subscripted i false ov iv=operate [ov,iv] (getItem ov iv)
theorem gA {prog:Program} {w:World} {A:Around} {E:Value->Shared->Prop} {s:Shared} {env:Env} {value slice:Expr} {pos:Pos} {T id:String} {Q:Value->Shared->Prop}
 (hl:typeLookup (.type T) "__getitem__" =pure (some (.builtin id))) (hs:iO slice)
 (h:wpAny (model prog w) A (eval value env) (λo s₁=>wpAny (model prog w) A (eval slice env) (λi s₂=>s₂.TypeIs o T/\wpAny (model prog w) A (getItem o i) Q E s₂) E s₁) E s):
 wpAny (model prog w) A (eval (.Subscript value slice pos) env) Q E s:=by
 refine Subscript_ (wpAny_mono h (λo s₁ h₁=>wpAny_mono h₁ (λi s₂ h₂=> ?_) λ_ _ x=>x) λ_ _ x=>x)
 obtain ⟨hT,h₂⟩:=h₂
 unfold subscriptTail
 refine wpAny_bind ?_
 rw [getitemInPython_of_ne hT.not_modules]
 refine wpAny_bind (wpAny_specialOf hT hl ?_)
 have fin:wpAny (model prog w) A (subscripted slice false o i) (λr s₃=>wpAny (model prog w) A (letTemporaryGo value o r >>= λ_=>pure r) Q E s₃) E s₂:=by
  rw [hs o i]
  exact wpAny_operating (wpAny_mono h₂ (λr s₃ h₃=>wpAny_bind (wpAny_letTemporaryGo (wpAny_pure h₃))) λ_ _ x=>x)
 first
  | exact wpAny_pure (wpAny_bind fin)
  | exact wpAny_bind (wpAny_pure (wpAny_bind fin))
  | exact wpAny_bind fin
section
variable {X:Cx} {o i e value:Expr} {pos pos' tpos:Pos} {td ty tv:TE}
end
section
variable {X:Cx} {pos:Pos}
end
structure M1 (X:Cx) (o:Expr) (m:Str) (apos:Pos) (e:Expr) (cpos:Pos):Prop where
 base:attributeBase o m X.env (eval o X.env)=eval o X.env
 few:((backTo cpos (starEach [e] X.env)).all (λx=> !x.1)&&(backToKw cpos (keywordEach [] X.env)).all (λx=>x.1.isSome)
  && decide (([e] :List Expr).length+([] :List Keyword).length+(if ([] :List Keyword).isEmpty then 0 else 1)<30))=true
 line:(apos.endLine==cpos.line)=true
 trees:backTo cpos (starEach [e] X.env)= [(false,eval e X.env)]
structure M2 (X:Cx) (o:Expr) (m:Str) (apos:Pos) (e f:Expr) (cpos:Pos):Prop where
 base:attributeBase o m X.env (eval o X.env)=eval o X.env
 few:((backTo cpos (starEach [e,f] X.env)).all (λx=> !x.1)&&(backToKw cpos (keywordEach [] X.env)).all (λx=>x.1.isSome)
  && decide (([e,f] :List Expr).length+([] :List Keyword).length+(if ([] :List Keyword).isEmpty then 0 else 1)<30))=true
 line:(apos.endLine==cpos.line)=true
 trees:backTo cpos (starEach [e,f] X.env)= [(false,eval e X.env),(false,eval f X.env)]
section
variable {X:Cx} {pins:List (Addr×Obj)} {σ:St} {H:Hp} {s:Shared} {a:Addr} {y d:V} {u r:Value} {o:Option V} {A:Around} {E:Value->Shared->Prop}
end
section
variable {X:Cx} {o e f:Expr} {apos cpos:Pos} {td ty tx:TE}
end
section
variable {X:Cx} {pins:List (Addr×Obj)} {σ:St} {H:Hp} {s:Shared} {a:Addr} {kvs:List (Fj×V)} {A:Around} {E:Value->Shared->Prop}
end
section
variable {X:Cx} {pins:List (Addr×Obj)} {σ:St} {H:Hp} {s:Shared} {a:Addr} {y:V} {u:Value} {A:Around} {E:Value->Shared->Prop}
end
end L2
end
section
namespace L2
open PySem PySem.Spec PyProof.Rows
abbrev KN (K:PySem.W.Frag) (H:Hp):List (FK×V)->List (FK×Addr×Value)->Prop:=Paired λp q=>p.1=q.1/\GC K H q.2.1 p.1/\RelV p.2 q.2.2
theorem KN.val {K:PySem.W.Frag} {H:Hp} {kvs:List (FK×V)} {xs:List (FK×Addr×Value)} (r:KN K H kvs xs) (k:FK):Jo (E5 kvs k) ((atKey xs k).map (·.2)):=by
 induction r with
 | nil=>exact True.intro
 | @cons p q ps qs h t ih=>
   obtain ⟨h1,_,h2⟩:=h
   by_cases e:p.1=k
   ·have e':q.1=k:=h1.symm.trans e
    have b:atKey (q::qs) k=some q.2:=by simp [atKey,List.find?_cons,e']
    rw [K9 e,b];exact h2
   ·have e':¬q.1=k:=λz=>e (h1.trans z)
    have b:atKey (q::qs) k=atKey qs k:=by simp [atKey,List.find?_cons,e']
    rw [K8 e,b];exact ih
theorem KN.repl {K:PySem.W.Frag} {H:Hp} {kvs:List (FK×V)} {xs:List (FK×Addr×Value)} (r:KN K H kvs xs) (k:FK) {y:V} {u:Value} (ry:RelV y u):
 KN K H (kvs.map λkv=>if kv.1=k then (kv.1,y) else kv) (xs.map (putAt k u)):=by
 induction r with
 | nil=>exact .nil
 | @cons p q ps qs h t ih=>
   rw [List.map_cons,List.map_cons]
   refine .cons ?_ ih
   obtain ⟨h1,h2,h3⟩:=h
   unfold putAt
   by_cases e:p.1=k
   ·rw [if_pos e,if_pos (h1.symm.trans e)];exact ⟨h1,h2,ry⟩
   ·rw [if_neg e,if_neg (λz=>e (h1.trans z))];exact ⟨h1,h2,h3⟩
theorem KN.put {K:PySem.W.Frag} {H:Hp} {kvs:List (FK×V)} {xs:List (FK×Addr×Value)} (r:KN K H kvs xs) (k:FK) {b:Addr} {y:V} {u:Value} (hb:GC K H b k) (ry:RelV y u):
 KN K H (HQ kvs k y) (storedH xs k b u):=by
 have e:(kvs.any λkv=>decide (kv.1=k))=(atKey xs k).isSome:=by
  rw [O5,(r.val k).isSome_eq,Option.isSome_map]
 unfold HQ storedH
 rw [e]
 by_cases q:(atKey xs k).isSome=true
 ·rw [if_pos q,if_pos q];exact r.repl k ry
 ·rw [if_neg q,if_neg q];exact Paired.snoc r ⟨rfl,hb,ry⟩
theorem KN.keeps {K:PySem.W.Frag} {H H':Hp} {kvs:List (FK×V)} {xs:List (FK×Addr×Value)} (r:KN K H kvs xs) (ht:∀b ys,H b=some (.tup ys)->H' b=some (.tup ys)):KN K H' kvs xs:=
 Paired.mapP r λ_ _ z=>⟨z.1,z.2.1.stay ht,z.2.2⟩
section
variable {P:Program} {w:World} {H:Hp} {h:Heap} {a:Addr} {K:PySem.W.Frag}
theorem KB {k:FK} (ok:Mi P w H h) (kin:K.In h) (e:GC K H a k):(fkKind P w).is h k a:=by
 obtain ⟨b,h1,h2⟩:=e
 obtain ⟨_,its,r,o,g1,g2,n,g3⟩:=(show DN P w H h a (.tup [.ref b, .int k.2]) from ok a _ h1)
 cases r with
 | cons r1 r=>
 cases r with
 | cons r2 r=>
 cases r
 cases r1
 obtain ⟨u,rfl⟩:=r2
 have two:∀{us:List Value},Ax [.int k.1.1, .int k.1.2] us->ItemsAre (intKind P w) [k.1.1,k.1.2] us:=λhv=>by
  cases hv with
  | cons q1 hv=>
  cases hv with
  | cons q2 hv=>
  cases hv
  obtain ⟨u1,rfl⟩:=q1
  obtain ⟨u2,rfl⟩:=q2
  exact .cons (by simp [intKind,Value.isInt]) (.cons (by simp [intKind,Value.isInt]) .nil)
 refine ⟨o,_,n,b,u,g1,g2,g3,by simp, ?_⟩
 rcases h2 with h2|⟨ob,its2,n2,l1,l2,l3,l4⟩
 ·obtain ⟨_,its2,r2,o2,f1,f2,n2,f3⟩:=(show DN P w H h b (.tup [.int k.1.1, .int k.1.2]) from ok b _ h2)
  exact ⟨o2,its2.toArray,n2,f1,f2,f3,by simpa using two r2⟩
 ·exact ⟨ob,its2,n2,kin b ob l1,l2,l3,two l4⟩
theorem QV {kvs:List (FK×V)} (ok:Mi P w H h) (kin:K.In h) (e:H a=some (.dN K kvs)):kvs.length<=sizeLine/\(a==sysModules)=false/\∃xs,KN K H kvs xs/\h.DictOfH (fkKind P w) a xs:=by
 obtain ⟨z,y,xs,r,o,es,ep,h1,h2,h3,h4,h5⟩:=(show DN P w H h a (.dN K kvs) from ok a _ e)
 refine ⟨z,y,xs,r,o,es,ep,h1,h2,h3,h4,λx hx=> ?_,h5⟩
 have all:∀{l:List (FK×V)} {m:List (FK×Addr×Value)},KN K H l m->∀x∈m,(fkKind P w).is h x.1 x.2.1:=by
  intro l m q
  induction q with
  | nil=>intro x hx;exact nomatch hx
  | @cons p q ps qs hq t ih=>
    intro x hx
    rcases List.mem_cons.mp hx with e|hx
    ·subst e
     exact KB ok kin (by rw [<-hq.1];exact hq.2.1)
    ·exact ih x hx
 exact all r x hx
end
section
variable {X:Cx} {pins:List (Addr×Obj)} {σ:St} {H:Hp} {s:Shared} {a b:Addr} {v d:V} {r:Value} {kvs:List (FK×V)} {k:FK} {A:Around} {E:Value->Shared->Prop}
theorem YX {Q:Value->Shared->Prop} (hu:A.units+2<cLine) (I:Inv X pins σ H s) (e:H a=some (.dN X.K kvs)) (hb:GC X.K H b k) (l:E5 kvs k=some v) (h:∀w' s',Inv X pins σ H s'->RelV v w'->Q w' s'):
 wpAny (model X.prog X.w) A (getItem (.ref a) (.ref b)) Q E s:=by
 obtain ⟨z,hd,xs,rel,dd⟩:=QV I.hok I.kIn e
 obtain ⟨w',hw,rw'⟩:=Jo.some_of (v:=v) (o:=(atKey xs k).map (·.2)) (by rw [<-l];exact rel.val k)
 obtain ⟨p,hp,mQ⟩:=Option.map_eq_some_iff.mp hw
 refine wpAny_getItem_heap (DT hu) (KB I.hok I.kIn hb) dd hp ?_
 rw [mQ]
 exact h w' _ (I.tok _) rw'
theorem qb {Q:Value->Shared->Prop} (hu:A.units+2<cLine) (I:Inv X pins σ H s) (e:H a=some (.dN X.K kvs)) (hb:GC X.K H b k) (h:∀s',Inv X pins σ H s'->Q (.bool (E5 kvs k).isSome) s'):
 wpAny (model X.prog X.w) A (compareOp .In (.ref b) (.ref a)) Q E s:=by
 obtain ⟨z,hd,xs,rel,dd⟩:=QV I.hok I.kIn e
 refine wpAny_in_heap (DT hu) (KB I.hok I.kIn hb) hd dd ?_
 have q:=(rel.val k).isSome_eq
 rw [Option.isSome_map] at q
 rw [<-q]
 exact h _ (I.tok _)
theorem YY {Q:Unit->Shared->Prop} (hu:A.units+2<cLine) (I:Inv X pins σ H s) (e:H a=some (.dN X.K kvs)) (hb:GC X.K H b k) (hl:kvs.length<sizeLine) (rv:RelV v r) (h:∀s',Inv X pins σ (upd H a (.dN X.K (HQ kvs k v))) s'->Q () s'):
 wpAny (model X.prog X.w) A (setItem (.ref a) (.ref b) r) Q E s:=by
 obtain ⟨z,hd,xs,rel,dd⟩:=QV I.hok I.kIn e
 have hz:xs.length<=sizeLine:=by rw [<-Paired.length rel];exact z
 have hl:(HQ kvs k v).length<=sizeLine:=by have:=UP kvs k v;omega
 refine wpAny_setItem_heap (hsz:=hz) (DT hu) (KB I.hok I.kIn hb) dd λh' dd' hs=>h _ ?_
 obtain ⟨q,es,ep,hq,h2,h3,h4,_,h5⟩:=dd'
 refine dX I (by rw [e];exact True.intro) hs ⟨q,hq⟩ ⟨hl,hd,_,(rel.put k hb rv).keeps λc ys ec=> ?_,q,es,ep,hq,h2,h3,h4,h5⟩
 rw [Ah (nA ec e (λz=>nomatch z))]
 exact ec
theorem jX {Q:Value->Shared->Prop} (hu:A.units+2<cLine) (I:Inv X pins σ H s) (e:H a=some (.dN X.K kvs)) (hb:GC X.K H b k) (rd:RelV d r) (h:∀w' s',Inv X pins σ H s'->RelV ((E5 kvs k).getD d) w'->Q w' s'):
 wpAny (model X.prog X.w) A (call (.builtin "dict.get") [.ref a, .ref b,r]) Q E s:=by
 obtain ⟨z,hd,xs,rel,dd⟩:=QV I.hok I.kIn e
 refine call_meetsIn PySem.F.slot_dict_get dd.typeIs PySem.F.entry_dict_get (PySem.F.args_dict_get_3 _ _ _) (meetsH_dict_get_default (fkKind X.prog X.w) a b hd r) ⟨DT hu,k,xs,KB I.hok I.kIn hb,dd,h _ _ (I.tok _) ?_⟩
 exact (rel.val k).getD rd
end
def iB (K:PySem.W.Frag):TE:=λ_ H Q=>∀p,H p=none->Q (.ref p) (upd H p (.dN K []))
def oE (K:PySem.W.Frag) (td ty:TE):TE:=λσ H Q=>td σ H λx H1=>ty σ H1 λy H2=>∃a b kvs k v,x= .ref a/\y= .ref b/\H2 a=some (.dN K kvs)/\GC K H2 b k/\E5 kvs k=some v/\Q v H2
def oF (K:PySem.W.Frag) (ty td:TE):TE:=λσ H Q=>ty σ H λy H1=>td σ H1 λx H2=>∃a b kvs k,x= .ref a/\y= .ref b/\H2 a=some (.dN K kvs)/\GC K H2 b k/\Q (.bl (E5 kvs k).isSome) H2
def bg (K:PySem.W.Frag) (td ty tv:TE):TS:=λD σ H=>tv σ H λv H1=>td σ H1 λx H2=>ty σ H2 λy H3=>∃a b kvs k,x= .ref a/\y= .ref b/\H3 a=some (.dN K kvs)/\GC K H3 b k/\kvs.length<sizeLine/\D.nx σ (upd H3 a (.dN K (HQ kvs k v)))
def WR (K:PySem.W.Frag) (td ty tx:TE):TE:=λσ H Q=>td σ H λx H1=>∃a kvs,x= .ref a/\H1 a=some (.dN K kvs)/\ty σ H1 λy H2=>tx σ H2 λz H3=>∃b kvs k,y= .ref b/\H3 a=some (.dN K kvs)/\GC K H3 b k/\Q ((E5 kvs k).getD z) H3
section
variable {X:Cx} {o i e f value:Expr} {pos pos' apos cpos:Pos} {td ty tv tx:TE}
theorem Zy {P:Program} {w:World} {H:Hp} {K:PySem.W.Frag} (h:Heap) (hb:sysModules<h.objs.size):DN P w H (h.push {cls:= .type "dict",data:= .dict #[] }) h.objs.size (.dN K []):=
 ⟨Nat.zero_le _,beq_eq_false_iff_ne.mpr (Ne.symm (Nat.ne_of_lt hb)), [], .nil,_, #[],0,Heap.get?_push_size _ rfl,⟨rfl,rfl,rfl⟩,rfl,rfl,List.nodup_nil⟩
theorem fE:PE X (.Dict [] [] pos) (iB X.K):=λpins s σ H Q I h=>
 wpAny_Dict_empty ⟨.ref s.heap.objs.size,_,I.laid (a:=s.heap.objs.size) (o:= .dN X.K []) (t':=s.toks) (λ_ _ q=>Heap.get?_push_of_some _ q) (Nat.le_refl _) (Zy s.heap I.big),rfl,h _ (I.hok.fresh (Nat.le_refl _))⟩
theorem gZ {pins:List (Addr×Obj)} {σ:St} {H:Hp} {s:Shared} {a:Addr} {kvs:List (FK×V)} (I:Inv X pins σ H s) (e:H a=some (.dN X.K kvs)):
 s.TypeIs (.ref a) "dict" /\(∀b,Value.ref a= .ref b->∃ob,s.heap.get? b=some ob/\ob.dict=none):=by
 obtain ⟨_,hd,xs,_,dd⟩:=QV I.hok I.kIn e
 refine ⟨dd.typeIs,λb q=> ?_⟩
 cases q
 obtain ⟨ob,_,_,h1,h2,_⟩:=dd
 exact ⟨ob,h1,h2.2.1⟩
theorem fD (hu:X.A.units+2<cLine) (ho:PE X o td) (hi:PE X i ty) (hs:iO i):PE X (.Subscript o i pos) (oE X.K td ty):=by
 intro pins s σ H Q I h
 refine gA PySem.F.slot_dict_getitem.lookup hs (Bg (ho pins s σ H _ I h) λu s1 ⟨x,H1,I1,rx,q1⟩=>Bg (hi pins s1 σ H1 _ I1 q1) λiv s2 ⟨y,H2,I2,ry,a,b,kvs,k,v,ex,ey,e,hb,l,q2⟩=> ?_)
 subst ex ey
 obtain rfl:u=Value.ref a:=rx
 obtain rfl:iv=Value.ref b:=ry
 exact ⟨(gZ I2 e).1,YX hu I2 e hb l λw' s3 I3 rw'=>⟨v,H2,I3,rw',q2⟩⟩
theorem jq (hu:X.A.units+2<cLine) (hi:PE X i ty) (ho:PE X o td):PC X .In i o (oF X.K ty td):=by
 intro pins s σ H Q I h
 refine Bg (hi pins s σ H _ I h) λiv s1 ⟨y,H1,I1,ry,q1⟩=>Bg (ho pins s1 σ H1 _ I1 q1) λu s2 ⟨x,H2,I2,rx,a,b,kvs,k,ex,ey,e,hb,q2⟩=> ?_
 subst ex ey
 obtain rfl:u=Value.ref a:=rx
 obtain rfl:iv=Value.ref b:=ry
 exact qb hu I2 e hb λs3 I3=>⟨.bl _,H2,I3,rfl,q2⟩
theorem XJ (hu:X.A.units+2<cLine) (ho:PE X o td) (hi:PE X i ty) (hv:PE X value tv) (hs:swapsWith value (some (.Subscript o i pos')) pos.line X.env=pure false):
 PS X (.Assign [.Subscript o i pos'] value pos) (bg X.K td ty tv):=by
 intro pins s σ H D I h
 refine wpAny_Assign_Subscript (Bg (hv pins s σ H _ I h) λr s1 ⟨v,H1,I1,rv,q1⟩=>Bg (ho pins s1 σ H1 _ I1 q1) λu s2 ⟨x,H2,I2,rx,q2⟩=>Bg (hi pins s2 σ H2 _ I2 q2) λiv s3 ⟨y,H3,I3,ry,a,b,kvs,k,ex,ey,e,hb,hl,q3⟩=> ?_) hs
 subst ex ey
 obtain rfl:u=Value.ref a:=rx
 obtain rfl:iv=Value.ref b:=ry
 exact YY hu I3 e hb hl rv λs4 I4=>⟨σ,_,I4,q3⟩
theorem Ud (hu:X.A.units+2<cLine) (ho:PE X o td) (he:PE X e ty) (hf:PE X f tx) (m:M2 X o "get" apos e f cpos):PE X (.Call (.Attribute o "get" apos) [e,f] [] cpos) (WR X.K td ty tx):=by
 intro pins s σ H Q I h
 refine wpAny_Call_method m.base m.few m.line PySem.F.plainAttrs_dict PySem.F.slot_dict_get PySem.F.type_dict_get (Bg (ho pins s σ H _ I h) λu s1 ⟨x,H1,I1,rx,a,kvs0,ex,e0,q1⟩=> ?_)
 subst ex
 obtain rfl:u=Value.ref a:=rx
 obtain ⟨t1,t2⟩:=gZ I1 e0
 refine ⟨t1,t2, ?_⟩
 rw [m.trees]
 refine Calls.callWith_builtin rfl (Calls.evalArgs_plain (Calls.spliced_cons (Bg (he pins s1 σ H1 _ I1 q1) λiv s2 ⟨y,H2,I2,ry,q2⟩=>
  Calls.spliced_cons (Bg (hf pins s2 σ H2 _ I2 q2) λfv s3 ⟨z,H3,I3,rz,b,kvs,k,ey,e,hb,q3⟩=>Calls.spliced_nil ?_))))
 subst ey
 obtain rfl:iv=Value.ref b:=ry
 exact jX hu I3 e hb rz λw' s4 I4 rw'=>⟨_,H3,I4,rw',q3⟩
end
end L2
end
section
namespace PySem
open Sem (wp)
def LZ (h:Heap) (d:Addr) (es:Array DictEntry) (ep:Nat):Prop:=∃o,h.get? d=some o/\o.ExactDict/\o.data= .dict es ep
section
variable {prog:Program} {w:World} {A:Around} {E:Value->Shared->Prop} {s:Shared} {d it:Addr} {es:Array DictEntry} {ep i:Nat}
theorem LZ.typeIs (x:LZ s.heap d es ep):s.TypeIs (.ref d) "dict" :=let ⟨o,ho,hc,_⟩:=x;⟨o,ho,hc.1⟩
theorem LZ.at {h h':Heap} (x:LZ h d es ep) (e:∀o,h.get? d=some o->h'.get? d=some o):LZ h' d es ep:=let ⟨o,ho,r⟩:=x;⟨o,e _ ho,r⟩
theorem bT {Q:Value->Shared->Prop} (hd:(d==sysModules)=false) (hm:LZ s.heap d es ep)
 (hQ:Q (.ref s.heap.objs.size) {s with heap:=s.heap.push {cls:= .type "dict_keyiterator",data:= .fields #[.ref d, .int 0 0, .int es.size 0, .int ep 0] }}):wpAny (model prog w) A (pyIter (.ref d)) Q E s:=by
 have hT:=hm.typeIs
 obtain ⟨o,ho,hc,mE⟩:=hm
 refine wpAny_pyIter_slot hT F.slot_dict_iter (wpAny_call_entry F.slot_dict_iter hT F.entry_dict_iter ?_ (F.args_dict_iter_1 _))
 unfold Builtin.«dict.__iter__»
 refine wpAny_bind ?_
 unfold Builtin.Dict.dictSlotNone
 refine wpAny_bind (wpAny_notOrdered_dict hT (wpAny_pure ?_))
 show wpAny _ _ (Builtin.Dict.showsAll d >>= _) _ _ s
 unfold Builtin.Dict.showsAll
 rw [if_neg (by rw [hd];exact Bool.false_ne_true)]
 refine wpAny_bind (wpAny_pure (wpAny_bind (wpAny_dictEntries ho mE (wpAny_bind (wpAny_dictEpoch ho mE ?_)))))
 exact wpAny_bind (wpAny_newObj_type (wpAny_pure ⟨_,rfl,"dict_keyiterator",_,⟨_,Heap.get?_push_size _ rfl,rfl⟩,F.slot_dict_keyiterator_next.lookup,by simpa [rawInt] using hQ⟩))
theorem bU {Q:Option Value->Shared->Prop} (hit:s.heap.IsKeyIter it d i es.size ep) (hm:LZ s.heap d es ep) (EF:i<es.size)
 (hQ:∀h',h'.IsKeyIter it d (i+1) es.size ep->Heap.SameBut it s.heap h'->Q (some es[i].key) {s with heap:=h'}):wpAny (model prog w) A (pyNext (.ref it)) Q E s:=by
 have hT:=hit.typeIs
 obtain ⟨o,ho,hc,hd⟩:=hit
 obtain ⟨od,mP,M8,mF⟩:=hm
 unfold pyNext
 refine wpAny_bind (wpAny_attempt (wpAny_callSpecial?_slot (name:=Str.ofString "__next__") hT F.slot_dict_keyiterator_next (wpAny_call_entry F.slot_dict_keyiterator_next hT F.entry_dict_keyiterator_next ?_ (F.args_dict_keyiterator_next_1 _))))
 refine wpAny_bind (wpAny_pure (wpAny_bind (wpAny_bind ?_)))
 refine wpAny_bind (wpAny_typeNameOfWhole_keyiter hT (wpAny_pure (wpAny_bind (wpAny_fieldsOf ho hd ?_))))
 simp only [show Builtin.Dict_items.ownsTuple "dict_keyiterator" =false by decide,Bool.false_eq_true,if_false]
 show wpAny _ _ (if (Value.ref d==Value.none)=true then _ else _) _ _ s
 rw [if_neg (show ¬((Value.ref d==Value.none)=true) from Bool.false_ne_true)]
 refine wpAny_bind (wpAny_pure (wpAny_bind (wpAny_dictEntries mP mF ?_)))
 rw [if_neg (by simp)]
 refine wpAny_bind (wpAny_pure (wpAny_bind (wpAny_dictEpoch mP mF ?_)))
 rw [if_neg (by simp)]
 refine wpAny_pure ?_
 simp only [show ¬((i:Int)<0) from by omega,if_false,Int.toNat_natCast,Array.getElem?_eq_getElem EF]
 refine wpAny_bind ?_
 refine wpAny_bind (wpAny_typeNameOfWhole_keyiter hT (wpAny_pure (wpAny_bind (wpAny_isOneOf_keyiter hT ?_))))
 show wpAny _ _ (setField (.ref it) 1 (rawInt ((i:Int)+1)) >>= _) _ _ s
 refine wpAny_bind (wpAny_setField ho hd (by simp) ?_)
 have YL:(s.heap.update it (Obj.mapFields (·.setIfInBounds 1 (rawInt ((i:Int)+1))))).IsKeyIter it d (i+1) es.size ep:=
  ⟨_,Heap.get?_update_self _ ho (Obj.isFreed_of_fields (Obj.data_mapFields hd _)),(Obj.cls_mapFields ..).trans hc,by rw [Obj.data_mapFields hd];simp [rawInt]⟩
 refine wpAny_bind (wpAny_holding (wpAny_bind (wpAny_isOneOf_keyiter (s:={s with heap:=s.heap.update it (Obj.mapFields (·.setIfInBounds 1 (rawInt ((i:Int)+1))))}) YL.typeIs ?_)))
 show wpAny _ _ (pure es[i].key) _ _ _
 exact wpAny_pure (wpAny_pure ⟨_,rfl,wpAny_pure (hQ _ YL (Heap.SameBut.update ..))⟩)
theorem fS {Q:Option Value->Shared->Prop} (hh:A.handled=none) (hit:s.heap.IsKeyIter it d es.size es.size ep) (hm:LZ s.heap d es ep)
 (hQ:∀h',Heap.ExtBut it s.heap h'->Q none {s with heap:=h'}):wpAny (model prog w) A (pyNext (.ref it)) Q E s:=by
 have hT:=hit.typeIs
 obtain ⟨o,ho,hc,hd⟩:=hit
 obtain ⟨od,mP,M8,mF⟩:=hm
 unfold pyNext
 refine wpAny_bind (wpAny_attempt (wpAny_callSpecial?_slot (name:=Str.ofString "__next__") hT F.slot_dict_keyiterator_next (wpAny_call_entry F.slot_dict_keyiterator_next hT F.entry_dict_keyiterator_next ?_ (F.args_dict_keyiterator_next_1 _))))
 refine wpAny_bind (wpAny_pure (wpAny_bind (wpAny_bind ?_)))
 refine wpAny_bind (wpAny_typeNameOfWhole_keyiter hT (wpAny_pure (wpAny_bind (wpAny_fieldsOf ho hd ?_))))
 simp only [show Builtin.Dict_items.ownsTuple "dict_keyiterator" =false by decide,Bool.false_eq_true,if_false]
 show wpAny _ _ (if (Value.ref d==Value.none)=true then _ else _) _ _ s
 rw [if_neg (show ¬((Value.ref d==Value.none)=true) from Bool.false_ne_true)]
 refine wpAny_bind (wpAny_pure (wpAny_bind (wpAny_dictEntries mP mF ?_)))
 rw [if_neg (by simp)]
 refine wpAny_bind (wpAny_pure (wpAny_bind (wpAny_dictEpoch mP mF ?_)))
 rw [if_neg (by simp)]
 refine wpAny_pure ?_
 simp only [show ¬((es.size:Int)<0) from by omega,if_false,Int.toNat_natCast,Array.getElem?_eq_none (Nat.le_refl es.size)]
 refine wpAny_bind ?_
 refine wpAny_bind (wpAny_typeNameOfWhole_keyiter hT (wpAny_pure ?_))
 show wpAny _ _ (setField (.ref it) 0 .none >>= _) _ _ s
 refine wpAny_bind (wpAny_setField ho hd (by simp) ?_)
 show wpAny _ _ (newExc (.type "StopIteration") [] >>= _) _ _ _
 refine wpAny_bind ?_
 simp only [newExc,newTuple]
 refine wpAny_bind (wpAny_newObj_type ?_ (by size_fits))
 refine wpAny_bind (m:=firstArgMember _ _) (wpAny_of_eq (a:=Value.none) (by first | rfl|(simp only [firstArgMember];rfl)) (wpAny_newObj_type ?_ (by size_fits)))
 simp only [raiseNew]
 refine wpAny_bind (wpAny_handled ?_)
 rw [show A.in1.handled=none from hh]
 refine wpAny_bind (wpAny_pure (wpAny_throw ?_))
 refine wpAny_bind (wpAny_isInstance (T:="StopIteration") (b:=true) ⟨_,Heap.get?_push_size _ rfl,rfl⟩ isSubtype_stop ?_)
 exact wpAny_pure (hQ _ (((Heap.SameBut.update ..).extBut.push _).push _))
theorem Y4 (hh:A.handled=none) (QY:d≠it):
 Walks prog w A it [it,d] [it] es.size (λi v=>∃e,es[i]? =some e/\v=e.key) (λi h=>h.IsKeyIter it d i es.size ep/\LZ h d es ep) where
 sub:=λb hb=>by simp at hb;simp [hb]
 frame:=λ_ _ _ st hk=>⟨st.1.at λo e=>hk it (by simp) o e,st.2.at λo e=>hk d (by simp) o e⟩
 item:=λi s Q E hi st hQ=>bU st.1 st.2 hi λh' YL ZB=>
  hQ _ h' s.toks ⟨es[i],by simp [hi],rfl⟩ ⟨YL,st.2.at λo e=>ZB.extBut d o QY e⟩ λb o hb e=>ZB.extBut b o (λh=>hb (by simp [h])) e
 done:=λs Q E st hQ=>fS hh st.1 st.2 λh' wC=>hQ h' s.toks λb o hb e=>wC b o (λh=>hb (by simp [h])) e
 self:=λ_ _ _ _ st hQ=>wpAny_pyIter_keyiter st.1 hQ
end
theorem bS {prog:Program} {w:World} {A:Around} {E:Value->Shared->Prop} {s:Shared} {d:Addr} {es:Array DictEntry} {ep:Nat} {Q:Bool->Shared->Prop} (hm:LZ s.heap d es ep) (h:Q false s):wpAny (model prog w) A (Builtin.List.listLengthHint (.ref d)) Q E s:=by
 have hT:=hm.typeIs
 unfold Builtin.List.listLengthHint
 refine wpAny_bind (wpAny_specialOf hT F.slot_dict_len.lookup ?_)
 have hs:splitId "dict.__len__" =some ("dict","__len__"):=by decide +kernel
 simp only [hs]
 refine wpAny_bind (wpAny_isInstance hT (by rw [isSubtype_type];kernel_rfl:isSubtype (.type "dict") (.type "dict")=pure true) ?_)
 simp only [Bool.not_true,Bool.false_eq_true,if_false]
 rw [if_pos (by decide +kernel)]
 refine wpAny_bind (wpAny_typeOf hT ?_)
 exact wpAny_pure h
section
variable {prog:Program} {w:World} {A:Around} {s:Shared} {R:Result->Shared->Prop} {d:Addr} {es:Array DictEntry} {ep:Nat}
theorem WD (hh:A.handled=none) (S:Addr) (res:Value) (c₀:Nat) (hd:(d==sysModules)=false) (hm:LZ s.heap d es ep) (hn:es.size<=sizeLine) (QY:d≠S)
 (hS:s.heap.get? S=some {cls:= .type "list",data:= .seq #[] c₀})
 (hR:∀h' tk acc' c',(∀b o,b≠S->s.heap.get? b=some o->h'.get? b=some o)->h'.get? S=some {cls:= .type "list",dict:=none,data:= .seq acc' c',slots:= #[] }->ItemsOf (λi v=>∃e,es[i]? =some e/\v=e.key) acc' es.size->R (.ok (.ret res)) {s with heap:=h',toks:=tk}):
 wpAny (model prog w) A.in1 (Builtin.List.listExtendWith (.ref S) (.ref d) res)
  (λfin s'=>match fin with | .done f=>R (.ok f) s' | .again c'=>c'.quiet=true/\codeAny (model prog w) A c' R s') (λe s'=>R (.error e) s') s:=by
 have hT:=hm.typeIs
 unfold Builtin.List.listExtendWith
 refine wpAny_bind (wpAny_typeOf hT ?_)
 have h1:Builtin.List.listSameRef (.ref S) (.ref d)=false:=by simp [Builtin.List.listSameRef,Ne.symm QY]
 have h2:(Value.type "dict" == Value.type "list")=false:=by decide
 have h3:(Value.type "dict" == Value.type "tuple")=false:=by decide
 simp only [h1,h2,h3,Bool.or_false,Bool.false_eq_true,if_false]
 refine wpAny_bind (bT hd hm ?_)
 have EF:d<s.heap.objs.size:=let ⟨o,ho,_⟩:=hm;Heap.lt_size ho
 have wM:S<s.heap.objs.size:=Heap.lt_size hS
 have jB:LZ (s.heap.push {cls:= .type "dict_keyiterator",data:= .fields #[.ref d, .int 0 0, .int es.size 0, .int ep 0] }) d es ep:=hm.at λo e=>Heap.get?_push_of_some _ e
 refine wpAny_bind (wpAny_holding (bS (s:={s with heap:=s.heap.push {cls:= .type "dict_keyiterator",data:= .fields #[.ref d, .int 0 0, .int es.size 0, .int ep 0] }}) jB ?_))
 generalize qF:({cls:= .type "dict_keyiterator",data:= .fields #[.ref d, .int 0 0, .int es.size 0, .int ep 0] }:Obj)=io at jB ⊢
 have sf:(s.heap.push io).get? S=some {cls:= .type "list",data:= .seq #[] c₀}:=Heap.get?_push_of_some _ hS
 have v6:(s.heap.push io).get? s.heap.objs.size=some io:=Heap.get?_push_size _ (by rw [<-qF];rfl)
 have sd:S≠s.heap.objs.size:=Nat.ne_of_lt wM
 rw [if_pos (by decide +kernel)]
 refine wpAny_bind (wpAny_rule (wpAny_bind ?_))
 show wpAny _ A.in1 (updateSeq S (·.push .none) >>= λ_=>updateSeq S (·.pop)) _ _ _
 refine wpAny_bind (wpAny_updateSeq (s:={s with heap:=s.heap.push io}) sf rfl ?_)
 have hS₂:=Heap.get?_update_self (Obj.mapSeq (·.push Value.none)) sf rfl
 refine wpAny_updateSeq (hz:=by seq_fits) hS₂ rfl ?_
 have hS₃:=Heap.get?_update_self (Obj.mapSeq (·.pop)) hS₂ rfl
 have oth:∀b o,b≠S->(s.heap.push io).get? b=some o->(((s.heap.push io).update S (Obj.mapSeq (·.push Value.none))).update S (Obj.mapSeq (·.pop))).get? b=some o:=
  λb o hb e=>(Heap.get?_update_other _ _ (Ne.symm hb)).trans ((Heap.get?_update_other _ _ (Ne.symm hb)).trans e)
 have W:=(Y4 (prog:=prog) (w:=w) (A:=A.in1) (d:=d) (it:=s.heap.objs.size) (es:=es) (ep:=ep) hh (Nat.ne_of_lt EF)).toS
 refine wpAny_pure ⟨plainId_quiet F.plain_extend_loop _,codeAny_extend_loopS W hn S ?_ res es.size 0 _ _ _ rfl (Nat.zero_le _) ⟨⟨io,oth _ _ (Ne.symm sd) v6,by rw [<-qF],by rw [<-qF];rfl⟩,jB.at λo e=>oth _ _ QY e⟩ hS₃ (ItemsOf.nil _) λs' acc' c' wP p6 dt=> ?_⟩
 ·intro dz
  simp only [List.mem_cons,List.not_mem_nil,or_false] at dz
  rcases dz with e|e
  ·exact sd e
  ·exact QY e.symm
 ·obtain ⟨k1,k2,k3,k4,k5⟩:=wP
  have e:s'={s with heap:=s'.heap,toks:=s'.toks}:=by
   obtain ⟨a1,a2,a3,a4,a5⟩:=s'
   simp only at k2 k3 k4
   subst k2;subst k3;subst k4
   rfl
  rw [e]
  refine hR s'.heap s'.toks acc' c' (λb o hb eb=>k1 b o ?_ (oth b o hb (Heap.get?_push_of_some _ eb))) p6 dt
  intro dz
  simp only [List.mem_cons,List.not_mem_nil,or_false] at dz
  rcases dz with e|e
  ·exact hb e
  ·exact Nat.ne_of_lt (Heap.lt_size eb) e
end
section
variable {prog:Program} {w:World} {A:Around} {E:Value->Shared->Prop} {s:Shared} {d:Addr} {es:Array DictEntry} {ep:Nat}
theorem Pe {Q:Value->Shared->Prop} (hh:A.handled=none) (hd:(d==sysModules)=false) (hm:LZ s.heap d es ep) (hn:es.size<=sizeLine)
 (hQ:∀h' tk c',(∀b o,s.heap.get? b=some o->h'.get? b=some o)->h'.get? s.heap.objs.size=some {cls:= .type "list",dict:=none,data:= .seq (es.map (·.key)) c',slots:= #[] }->Q (.ref s.heap.objs.size) {s with heap:=h',toks:=tk}):
 wpAny (model prog w) A (call (.type "list") [.ref d]) Q E s:=by
 have EF:d<s.heap.objs.size:=let ⟨o,ho,_⟩:=hm;Heap.lt_size ho
 refine callType_codes (Q₁:=λobj s₁=>obj= .ref s.heap.objs.size/\s₁={s with heap:=s.heap.push {cls:= .type "list",data:= .seq #[] }}) F.called_list (F.typeCall_list_1 _) F.entry_list_init (code_list_new _ ⟨rfl,rfl⟩) λobj s₁ h₁=> ?_
 obtain ⟨rfl,rfl⟩:=h₁
 have hS:(s.heap.push {cls:= .type "list",data:= .seq #[] }).get? s.heap.objs.size=some {cls:= .type "list",data:= .seq #[] }:=Heap.get?_push_size _ rfl
 refine ⟨⟨_,hS,rfl⟩,F.args_list_init_2 _ _, ?_⟩
 show wpAny _ A.in1.in1 (do let old <-Builtin.List.listItems (.ref s.heap.objs.size);Builtin.List.listUpdate (.ref s.heap.objs.size) (λ_=> #[]);letGo old.toList.reverse;Builtin.List.listExtendWith (.ref s.heap.objs.size) (.ref d) .none) _ _ _
 refine wpAny_bind ?_
 unfold Builtin.List.listItems
 refine wpAny_bind (wpAny_seqItems hS rfl (wpAny_pure ?_))
 refine wpAny_bind (wpAny_updateSeq hS rfl ?_)
 have hS₂:=Heap.get?_update_self (Obj.mapSeq (λ_=>(#[] :Array Value))) hS rfl
 refine wpAny_bind (wpAny_letGo ?_)
 have oth:∀b o,s.heap.get? b=some o->((s.heap.push {cls:= .type "list",data:= .seq #[] }).update s.heap.objs.size (Obj.mapSeq (λ_=>(#[] :Array Value)))).get? b=some o:=λb o e=>by
  have hb:b≠s.heap.objs.size:=λz=>Nat.lt_irrefl _ (z ▸ Heap.lt_size e)
  exact (Heap.get?_update_other _ _ (Ne.symm hb)).trans (Heap.get?_push_of_some _ e)
 refine WD (s:={s with heap:=(s.heap.push {cls:= .type "list",data:= .seq #[] }).update s.heap.objs.size (Obj.mapSeq (λ_=>(#[] :Array Value)))}) (d:=d) (es:=es) (ep:=ep) (A:=A.in1) hh s.heap.objs.size .none _ hd (hm.at λo e=>oth d o e) hn (Nat.ne_of_lt EF) hS₂ ?_
 intro h' tk acc' c' kp p6 dt
 refine ⟨rfl,hQ h' tk c' (λb o e=>kp b o (λz=>Nat.lt_irrefl _ (z ▸ Heap.lt_size e)) (oth b o e)) ?_⟩
 have ea:acc'=es.map (·.key):=by
  obtain ⟨h1,h2⟩:=dt
  refine Array.ext (by simp [h1]) λi hi hj=> ?_
  obtain ⟨e,e1,e2⟩:=h2 i _ (by simp [hi] :acc'[i]? =some acc'[i])
  have wF:i<es.size:=by simpa using hj
  rw [Array.getElem?_eq_getElem wF] at e1
  cases e1
  rw [e2];simp
 rw [<-ea];exact p6
end
end PySem
end
section
namespace L2
open PySem PySem.Spec PyProof.Rows
section
variable {X:Cx}
def j7 (K:PySem.W.Frag):List V->Hp->VK->Prop:=λxs H Q=>∃p kvs,xs= [.ref p] /\H p=some (.dN K kvs)/\∀l cs,H l=none->Paired (λ(q:FK×V) (c:Addr)=>GC K H c q.1) kvs cs->Q (.ref l) (upd H l (.lst (cs.map V.ref)))
theorem VN {k:Nat} (hr:Room k X.A):CH X (.type "list") (j7 X.K):=by
 intro pins s σ H xs us Q I r h
 obtain ⟨p,kvs,rfl,hp,q⟩:=h
 obtain ⟨u,rfl,rx⟩:=vals1 r
 cases rx
 obtain ⟨z,hd,ys,rel,o,es,ep,h1,h2,h3,h4,h5,h6⟩:=QV I.hok I.kIn hp
 have hl:ys.length=kvs.length:=(Paired.length rel).symm
 have sw:es.size=ys.length:=by rw [<-Array.length_toList,h4,List.length_map]
 refine Pe (es:=es) (ep:=ep) hr.hd hd ⟨o,h1,h2,h3⟩ (by rw [sw,hl];exact z) λh' tk c' kp e=> ?_
 have ek:es.map (·.key)=((ys.map (·.2.1)).map Value.ref).toArray:=by
  apply Array.ext'
  rw [Array.toList_map,h4]
  simp [entryOfKey]
 rw [ek] at e
 have hv:∀l:List Addr,Ax (l.map V.ref) (l.map Value.ref):=λl=>by
  induction l with
  | nil=>exact .nil
  | cons a l ih=>exact .cons rfl ih
 refine ⟨.ref s.heap.objs.size,_,I.laid (t':=tk) kp (Nat.le_refl _) (show DN X.prog X.w _ h' _ (.lst ((ys.map (·.2.1)).map V.ref)) from ⟨by simp only [List.length_map];rw [hl];exact z,_,c',hv _,e⟩),rfl,q _ _ (I.hok.fresh (Nat.le_refl _)) ?_⟩
 clear q e ek h4 h6 h5 sw hl z hp
 induction rel with
 | nil=>exact .nil
 | cons h t ih=>exact .cons h.2.1 ih
end
end L2
namespace PL
open PySem PySem.Spec PyProof.Rows L2
def Vn (k:FK):PV:= .tup [.tup [.int k.1.1, .int k.1.2], .int k.2]
def BV (kvs:List (FK×Int)) (k:FK):Option Int:=(kvs.find? λp=>decide (p.1=k)).map (·.2)
theorem WV (kvs:List (FK×Int)) (k:FK):E5 (B9 kvs) k=(BV kvs k).map V.int:=by
 induction kvs with
 | nil=>rfl
 | cons p r ih=>
   by_cases e:p.1=k
   ·simp [BV,B9,E5,e]
   ·simpa [BV,B9,E5,e] using ih
section
variable {K:PySem.W.Frag} {T M:Addr->Prop} {H:Hp}
theorem NQ {v:V} {t d:Int} (r:CT K T M H v (.tup [.int t, .int d])):∃b,v= .ref b/\Zg K H b t d:=by
 obtain ⟨a,vs,rfl,hq,rs⟩:=cK r
 cases rs with
 | cons r1 rs=>
 cases rs with
 | cons r2 rs=>
 cases rs;cases r1;cases r2
 refine ⟨a,rfl, ?_⟩
 rcases hq with h|⟨o,its,n,h1,h2,h3,_,h4⟩
 ·exact .inl h
 ·exact .inr ⟨o,its,n,h1,h2,h3,h4⟩
theorem bW {b:Addr} {t d:Int} (h:Zg K H b t d):CT K T M H (.ref b) (.tup [.int t, .int d]):=by
 refine .tup (vs:= [.int t, .int d]) ?_ (.cons (.int _) (.cons (.int _) .nil))
 rcases h with h|⟨o,its,n,h1,h2,h3,h4⟩
 ·exact .inl h
 ·refine .inr ⟨o,its,n,h1,h2,h3, ?_,h4⟩
  have:=h4.length
  simp only [List.length_cons,List.length_nil,Array.length_toList] at this
  rw [<-this]
  exact Nat.le_of_ble_eq_true rfl
theorem bV {c:Addr} {k:FK} (h:GC K H c k):CT K T M H (.ref c) (Vn k):=by
 obtain ⟨b,h1,h2⟩:=h
 exact .tup (.inl h1) (.cons (bW h2) (.cons (.int _) .nil))
end
section
variable {X:Cx} {a b d:Expr} {pos p1:Pos} {ta tb td:AE}
def OU (x y:PV) (R:FK->Prop):Prop:=match x,y with | .tup [.int t, .int e], .int s=>R ((t,e),s)|_,_=>False
theorem Ua {x y:PV} {R:FK->Prop} (h:OU x y R):∃t e s,x= .tup [.int t, .int e] /\y= .int s/\R ((t,e),s):=by
 unfold OU at h
 split at h
 ·exact ⟨_,_,_,rfl,rfl,h⟩
 ·exact h.elim
def lD (m:PV) (R:List (FK×Int)->Prop):Prop:=match m with | .dct kvs=>R kvs|_=>False
theorem am {m:PV} {R:List (FK×Int)->Prop} (h:lD m R):∃kvs,m= .dct kvs/\R kvs:=by
 cases m <;> first | exact ⟨_,rfl,h⟩|exact h.elim
def dJ (ta tb td:AE):AE:=λτ Q=>ta τ λx=>tb τ λy=>td τ λm=>lD m λkvs=>OU x y λk=>Q (.bl (BV kvs k).isSome)
def Zi (td ta tb:AE):AE:=λτ Q=>td τ λm=>ta τ λx=>tb τ λy=>lD m λkvs=>OU x y λk=>match BV kvs k with | some i=>Q (.int i)|none=>False
theorem UN {K:PySem.W.Frag} {B:DD} {T:Addr->Prop} {H:Hp} {σ:L2.St} {τ:BE} {q:Addr} {vs:List V} (sr:SR K B T H σ τ) (hq:H q=none):Dm T H T (upd H q (.tup vs))/\¬T q:=by
 refine ⟨Dm.lay sr.tp hq,λz=> ?_⟩
 obtain ⟨o,e,_⟩:=(sr.tp q z).mut
 rw [hq] at e;cases e
theorem fk {t1 t2 t3:TE} (s1:GD X.K t1 ta) (s2:GD X.K t2 tb) (s3:GD X.K t3 td):GD X.K (oF X.K (gF (O3 t1 (O3 t2 gC))) t3) (dJ ta tb td):=by
 intro B T σ τ H Q AQ sr h k
 refine s1 B T σ τ H _ _ sr h λv x T1 H1 st1 r1 h1=> ?_
 have sr1:=sr.stp st1
 refine s2 B T1 σ τ H1 _ _ sr1 h1 λw y T2 H2 st2 r2 h2=> ?_
 have sr2:=sr1.stp st2
 refine ⟨Nat.le_of_ble_eq_true rfl,λq hq=> ?_⟩
 obtain ⟨st3,nt⟩:=UN (vs:= [v,w]) sr2 hq
 have sr3:=sr2.stp st3
 refine s3 B T2 σ τ _ _ _ sr3 h2 λu m T4 H4 st4 r4 h4=> ?_
 obtain ⟨kvs,rfl,h5⟩:=am h4
 obtain ⟨t,e,s,rfl,rfl,h6⟩:=Ua h5
 have rv:=((r1.stp st2 sr1.va).stp st3 sr2.va).stp st4 sr3.va
 obtain ⟨c,rfl,tn⟩:=NQ rv
 cases r2
 cases r4 with
 | dct hh _ _=>
   refine ⟨_,q,_,((t,e),s),rfl,rfl,hh,⟨c,st4.keep _ _ nt Aj,tn⟩, ?_⟩
   rw [WV,Option.isSome_map]
   exact k _ _ T4 H4 (((st1.trans st2).trans st3).trans st4) (.bl _) h6
theorem kO {x1:Nat} {k:Nat} (hr:Room k X.A) (ha:SE X a ta) (hb:SE X b tb) (hd:SE X d td) (hm:behindInMarks .In d=false:=by rfl) (e1:starEach (a :: [b]) X.env=(false,eval a X.env)::starEach [b] X.env:=by rfl) (e2:starEach [b] X.env=(false,eval b X.env)::starEach [] X.env:=by rfl):S5 X (.Compare (.Tuple [a,b] x1 p1) [.In] [d] pos) (A5 (dJ ta tb td)):=by
 obtain ⟨t1,q1,s1⟩:=ha
 obtain ⟨t2,q2,s2⟩:=hb
 obtain ⟨t3,q3,s3⟩:=hd
 exact ⟨_,jx (jq (by have:=hr.un;omega) (OW (CN q1 (CN q2 Fe e2) e1)) q3) hm,Sn (fk s1 s2 s3)⟩
theorem fY {x1:Nat} {k:Nat} (hr:Room k X.A) (hd:SE X d td) (ha:SE X a ta) (hb:SE X b tb) (hs:iO (.Tuple [a,b] x1 p1)) (e1:starEach (a :: [b]) X.env=(false,eval a X.env)::starEach [b] X.env:=by rfl) (e2:starEach [b] X.env=(false,eval b X.env)::starEach [] X.env:=by rfl):SE X (.Subscript d (.Tuple [a,b] x1 p1) pos) (Zi td ta tb):=by
 obtain ⟨t1,q1,s1⟩:=ha
 obtain ⟨t2,q2,s2⟩:=hb
 obtain ⟨t3,q3,s3⟩:=hd
 refine ⟨_,fD (by have:=hr.un;omega) q3 (OW (CN q1 (CN q2 Fe e2) e1)) hs,λB T σ τ H Q AQ sr h k=> ?_⟩
 refine s3 B T σ τ H _ _ sr h λu m T0 H0 st0 r0 h0=> ?_
 have sr0:=sr.stp st0
 refine s1 B T0 σ τ H0 _ _ sr0 h0 λv x T1 H1 st1 r1 h1=> ?_
 have sr1:=sr0.stp st1
 refine s2 B T1 σ τ H1 _ _ sr1 h1 λw y T2 H2 st2 r2 h2=> ?_
 have sr2:=sr1.stp st2
 refine ⟨Nat.le_of_ble_eq_true rfl,λq hq=> ?_⟩
 obtain ⟨st3,nt⟩:=UN (vs:= [v,w]) sr2 hq
 obtain ⟨kvs,rfl,h5⟩:=am h2
 obtain ⟨t,e,s,rfl,rfl,h6⟩:=Ua h5
 have rv:=(r1.stp st2 sr1.va).stp st3 sr2.va
 have r3:=((r0.stp st1 sr0.va).stp st2 sr1.va).stp st3 sr2.va
 obtain ⟨c,rfl,tn⟩:=NQ rv
 cases r2
 cases ev:BV kvs ((t,e),s) with
 | none=>rw [ev] at h6;exact h6.elim
 | some i=>
   rw [ev] at h6
   cases r3 with
   | dct hh _ _=>
     exact ⟨_,q,_,((t,e),s), .int i,rfl,rfl,hh,⟨c,Aj,tn⟩,by rw [WV,ev];rfl,k _ _ T2 _ (((st0.trans st1).trans st2).trans st3) (.int _) h6⟩
def VG (r:AA):AA:=λτ Q=>r τ λxs=>match xs with | [.dct kvs] =>Q (kvs.map λp=>Vn p.1)|_=>False
theorem cB {x:Str} {p pos:Pos} {e:Expr} {es:List Expr} {r:AA} {k:Nat} (hr:Room k X.A) (hg:Gl X x) (hm:X.mg x=none) (hv:bootBuiltins x=some (.type "list")) (ha:SA X (e::es) r)
 (hn:x≠"__name__" :=by decide) (hdb:(x==("__debug__" :Str))=false:=by decide) (he:starEach (e::es) X.env=(false,eval e X.env)::starEach es X.env:=by rfl) (hpl:(backTo pos (starEach es X.env)).any (·.1)=false:=by rfl):
 SF X (.Call (.Name x p) (e::es) [] pos) (VG r):=by
 obtain ⟨t,pa,s⟩:=ha
 refine ⟨_,Hr (VN hr) hg hm hv pa hn hdb he hpl,λB T σ τ H Q AQ sr h k=>s B T σ τ H _ _ sr h λvs xs T1 H1 s1 r1 h1=> ?_⟩
 have sr1:=sr.stp s1
 split at h1 <;> first | exact h1.elim|skip
 rename_i kvs
 cases r1 with
 | cons r t=>
   cases t
   cases r with
   | dct hh nt nm=>
     refine ⟨_,_,rfl,hh,λl cs hl pr=> ?_⟩
     have rr:A6 X.K T1 (mt B σ τ) H1 (cs.map V.ref) (kvs.map λp=>Vn p.1):=by
      clear h1 hh
      induction kvs generalizing cs with
      | nil=>cases pr;exact .nil
      | cons q r ih=>
        cases pr with
        | cons h t=>exact .cons (bV h) (ih _ t)
     obtain ⟨l2,sr2,nt2,r2⟩:=Rl sr1 hl rr
     exact k l _ _ T1 _ (s1.trans l2) sr2 (s1.none hl) Aj nt2 r2 h1
end
end PL
end
section
namespace PL
open PySem PySem.Spec PyProof.Rows L2
def P4 (m:List (FK×Int)) (k:FK) (v:Int):List (FK×Int):=if (m.any λp=>decide (p.1=k)) then m.map λp=>if p.1=k then (p.1,v) else p else m ++ [(k,v)]
def bump (m:List (FK×Int)) (k:FK) (d:Int):List (FK×Int):=P4 m k ((BV m k).getD 0+d)
theorem bN (m:List (FK×Int)) (k:FK) (v:Int):HQ (B9 m) k (.int v)=B9 (P4 m k v):=by
 unfold HQ P4
 have e:((B9 m).any λkv=>decide (kv.1=k))=(m.any λp=>decide (p.1=k)):=by
  unfold B9;rw [List.any_map];rfl
 rw [e]
 split
 ·unfold B9
  rw [List.map_map,List.map_map]
  apply List.map_congr_left
  intro p _
  by_cases h:p.1=k <;> simp [h]
 ·simp [B9]
theorem KL (m:List (FK×Int)) (k:FK) (v:Int):(P4 m k v).length<=m.length+1:=by
 unfold P4;split <;> simp
theorem Z7 (m:List (FK×Int)) (k:FK):(E5 (B9 m) k).getD (.int 0)= .int ((BV m k).getD 0):=by
 rw [WV];cases BV m k <;> rfl
def Wv:PV->Option (Option (Int×Int))
 | .non=>some none
 | .tup [.int t, .int d] =>some (some (t,d))
 | _=>none
def Ug (x:PV):Option ((Int×Int)×Int×Option (Int×Int)):=
 match x with
 | .tup [.tup [.int t, .int d], .int h,e] =>(Wv e).map λe=>((t,d),h,e)
 | .lst [.tup [.int t, .int d], .int h,e] =>(Wv e).map λe=>((t,d),h,e)
 | _=>none
def Gc (m:List (FK×Int)) (b:Int×Int) (h:Int) (e:Option (Int×Int)):List (FK×Int):=
 match e with
 | none=>bump m (b,1-h) 1
 | some e=>bump (bump m (b,1-h) 1) (e,0) (-1)
def Fi:List PV->List (FK×Int)->Option (List (FK×Int))
 | [],m=>some m
 | x::r,m=>match Ug x with | some (b,h,e)=>Fi r (Gc m b h e)|none=>none
def bQ:R2:=λx y H Q=>y= .non/\Q (.bl (!decide (x= .non))) H
def WO (K:PySem.W.Frag):TS:=
 Yw (Uy (gF (O3 (F1 2) (O3 (gE (Qe λi j=> .int (i-j)) (tC (.int 1)) (F1 3)) gC))) (DO 5))
  (Yw (bg K (F1 1) (F1 5) (gE (Qe λi j=> .int (i+j)) (WR K (F1 1) (F1 5) (tC (.int 0))) (tC (.int 1))))
    (oD (cT (gE bQ (F1 4) (tC .non)))
      (Yw (Uy (gF (O3 (F1 4) (O3 (tC (.int 0)) gC))) (DO 6))
        (bg K (F1 1) (F1 6) (gE (Qe λi j=> .int (i-j)) (WR K (F1 1) (F1 6) (tC (.int 0))) (tC (.int 1))))) iC))
def kP (K:PySem.W.Frag):TS:=
 Yw (Uy (iB K) (DO 1)) (Yw (oC (mY K (F1 0)) (YB K 3 (FC (DO 2) (FC (DO 3) (FC (DO 4) T8)))) (WO K)) (cS (F1 1)))
section
variable {K:PySem.W.Frag} {T M:Addr->Prop} {H H':Hp}
theorem G0.ext (va:G0 T M H) (ex:∀b o,H b=some o->H' b=some o):Mv K T M H T M H':=⟨va,λb o _ _ e=>ex b o e,λ_ t=>t,λ_ _ t=>t,λ_ _ m=>m⟩
theorem j9 {v:V} {x:PV} {b:Int×Int} {h:Int} {e:Option (Int×Int)} (r:CT K T M H v x) (hr:Ug x=some (b,h,e)):
 ∃a vb ve,v= .ref a/\(Jr K H a [vb, .int h,ve] \/F4 K H a [vb, .int h,ve])/\CT K T M H vb (.tup [.int b.1, .int b.2])/\((e=none/\ve= .non)\/∃t d,e=some (t,d)/\CT K T M H ve (.tup [.int t, .int d])):=by
 have fin:∀{ve:V} {ep:PV},CT K T M H ve ep->Wv ep=some e->((e=none/\ve= .non)\/∃t d,e=some (t,d)/\CT K T M H ve (.tup [.int t, .int d])):=by
  intro ve ep re he
  unfold Wv at he
  split at he
  ·cases he;cases re;exact .inl ⟨rfl,rfl⟩
  ·cases he;exact .inr ⟨_,_,rfl,re⟩
  ·cases he
 unfold Ug at hr
 split at hr
 ·rename_i t d h' ep
  obtain ⟨e2,he,e3⟩:=Option.map_eq_some_iff.mp hr
  cases e3
  obtain ⟨a,vs,rfl,hq,rs⟩:=DI r
  cases rs with
  | cons r1 rs=>
  cases rs with
  | cons r2 rs=>
  cases rs with
  | cons r3 rs=>
  cases rs;cases r2
  exact ⟨a,_,_,rfl, .inl hq,r1,fin r3 he⟩
 ·rename_i t d h' ep
  obtain ⟨e2,he,e3⟩:=Option.map_eq_some_iff.mp hr
  cases e3
  obtain ⟨a,vs,rfl,hq,_,_,rs⟩:=Dz r
  cases rs with
  | cons r1 rs=>
  cases rs with
  | cons r2 rs=>
  cases rs with
  | cons r3 rs=>
  cases rs;cases r2
  exact ⟨a,_,_,rfl, .inr (.inl (.inl hq)),r1,fin r3 he⟩
 ·cases hr
theorem WQ {D:Nv} {p:Addr} {z0 z2 z3 z4 z5 z6:Option V} {H0:Hp} {m:List (FK×Int)} {v:V} {b:Int×Int} {h:Int} {e:Option (Int×Int)} {x:PV} (va:G0 T M H) (ex:∀b o,H b=some o->H0 b=some o) (np:H p=none) (hp:H0 p=some (.dN K (B9 m))) (hl:m.length+2<sizeLine)
 (r:CT K T M H0 v x) (hr:Ug x=some (b,h,e))
 (nx:∀z2 z3 z4 z5 z6 H2,(∀b o,H b=some o->H2 b=some o)->H2 p=some (.dN K (B9 (Gc m b h e)))->D.nx [z0,some (.ref p),z2,z3,z4,z5,z6] H2):
 YB K 3 (FC (DO 2) (FC (DO 3) (FC (DO 4) T8))) v [z0,some (.ref p),z2,z3,z4,z5,z6] H0 λσ2 H2=>WO K D σ2 H2:=by
 obtain ⟨a,vb,ve,rfl,hq,rb,re⟩:=j9 r hr
 refine ⟨a,_,rfl,hq,rfl,_,_,rfl,_,_,rfl,_,_,rfl,rfl, ?_⟩
 have va0:G0 T M H:=va
 refine ⟨vb,rfl,_,rfl,_,_,rfl,rfl,Nat.le_of_ble_eq_true rfl,λq tL=> ?_⟩
 have ex1:∀b o,H0 b=some o->upd H0 q (.tup [vb, .int (1-h)]) b=some o:=λb o e=>by rw [Ah (Av e tL)];exact e
 have lC:upd H0 q (.tup [vb, .int (1-h)]) p=some (.dN K (B9 m)):=ex1 _ _ hp
 have qp:q≠p:=λz=>by subst z;rw [tL] at hp;cases hp
 obtain ⟨c,rfl,tn⟩:=NQ rb
 have tn1:Zg K (upd H0 q (.tup [.ref c, .int (1-h)])) c b.1 b.2:=tn.elim (λz=> .inl (ex1 _ _ z)) .inr
 have kn:GC K (upd H0 q (.tup [.ref c, .int (1-h)])) q (b,1-h):=⟨c,Aj,tn1⟩
 refine ⟨_,rfl,p,_,rfl,lC,_,rfl,q,_,(b,1-h),rfl,lC,kn,_,_,Z7 m (b,1-h),rfl,_,rfl,_,rfl,p,q,_,(b,1-h),rfl,rfl,lC,kn,by rw [B9,List.length_map];omega, ?_⟩
 rw [bN]
 have e1:B9 (P4 m (b,1-h) ((BV m (b,1-h)).getD 0+1))=B9 (bump m (b,1-h) 1):=rfl
 rw [e1]
 have hb:∀o,H0 p=some o->True:=λ_ _=>trivial
 have ext2:∀(X:HO) b o,H b=some o->upd (upd H0 q (.tup [.ref c, .int (1-h)])) p X b=some o:=λX b o e=>by
  rw [Ah (Av e np)];exact ex1 _ _ (ex _ _ e)
 have bl:(bump m (b,1-h) 1).length<=m.length+1:=KL _ _ _
 rcases re with ⟨rfl,rfl⟩|⟨t,d,rfl,re⟩
 ·refine ⟨_,rfl,rfl,false,rfl, ?_⟩
  exact nx _ _ _ _ _ _ (ext2 _) Aj
 ·obtain ⟨c2,rfl,tn2⟩:=NQ re
  refine ⟨_,rfl,rfl,true,rfl, ?_⟩
  refine ⟨_,rfl,Nat.le_of_ble_eq_true rfl,λq2 Re=> ?_⟩
  have q2p:p≠q2:=λz=>by subst z;rw [Aj] at Re;cases Re
  have ex3:∀(a:Addr) o,upd (upd H0 q (.tup [.ref c, .int (1-h)])) p (.dN K (B9 (bump m (b,1-h) 1))) a=some o->upd (upd (upd H0 q (.tup [.ref c, .int (1-h)])) p (.dN K (B9 (bump m (b,1-h) 1)))) q2 (.tup [.ref c2, .int 0]) a=some o:=λa o e=>by rw [Ah (Av e Re)];exact e
  have mQ:=ex3 p _ Aj
  have tn3:Zg K (upd (upd (upd H0 q (.tup [.ref c, .int (1-h)])) p (.dN K (B9 (bump m (b,1-h) 1)))) q2 (.tup [.ref c2, .int 0])) c2 t d:=tn2.elim (λz=> .inl (ex3 _ _ (by
   rw [Ah (λy=>by subst y;rw [hp] at z;cases z)]
   exact ex1 _ _ z))) .inr
  have kn2:GC K (upd (upd (upd H0 q (.tup [.ref c, .int (1-h)])) p (.dN K (B9 (bump m (b,1-h) 1)))) q2 (.tup [.ref c2, .int 0])) q2 ((t,d),0):=⟨c2,Aj,tn3⟩
  refine ⟨_,rfl,p,_,rfl,mQ,_,rfl,q2,_,((t,d),0),rfl,mQ,kn2,_,_,Z7 _ ((t,d),0),rfl,_,rfl,_,rfl,p,q2,_,((t,d),0),rfl,rfl,mQ,kn2,by rw [B9,List.length_map];omega, ?_⟩
  rw [bN]
  refine nx _ _ _ _ _ _ (λa o e=> ?_) Aj
  rw [Ah (Av e np)]
  exact ex3 _ _ (ext2 _ _ _ e)
theorem MX {m:List (FK×Int)} {b:Int×Int} {h:Int} {e:Option (Int×Int)}:(Gc m b h e).length<=m.length+2:=by
 unfold Gc
 cases e with
 | none=>have:=KL m (b,1-h) ((BV m (b,1-h)).getD 0+1);unfold bump;simp only;omega
 | some e=>
   have h1:=KL m (b,1-h) ((BV m (b,1-h)).getD 0+1)
   have h2:=KL (bump m (b,1-h) 1) (e,0) ((BV (bump m (b,1-h) 1) (e,0)).getD 0 + -1)
   unfold bump at *
   simp only
   omega
theorem XQ:∀{vs:List V} {ys:List PV},A6 K T M H vs ys->∀{i:Nat} {x:V},vs[i]? =some x->∃y,ys[i]? =some y/\CT K T M H x y
 | _,_, .nil,i,x,ev=>by simp at ev
 | _,_, .cons h t,0,x,ev=>by simp at ev;subst ev;exact ⟨_,rfl,h⟩
 | _,_, .cons h t,i+1,x,ev=>by simpa using XQ t (i:=i) (by simpa using ev)
theorem O2 {D:Nv} {J:It} {v0:V} {p:Addr} {ys:List PV} {mfin:List (FK×Int)} {H1:Hp} (va:G0 T M H) (np:H p=none)
 (go:∀H',(∀b o,H b=some o->H' b=some o)->∃vs,A6 K T M H' vs ys/\(∀i,i<ys.length->J.go i H')/\(∀i,ys.length<=i->J.stop i H')/\∀i x H2,J.yld i H' x H2->H2=H'/\vs[i]? =some x)
 (e1:∀b o,H b=some o->H1 b=some o) (hp:H1 p=some (.dN K (B9 []))) (hl:2*ys.length+2<sizeLine) (hs:Fi ys [] =some mfin)
 (fin:∀z2 z3 z4 z5 z6 H',(∀b o,H b=some o->H' b=some o)->H' p=some (.dN K (B9 mfin))->D.nx [some v0,some (.ref p),z2,z3,z4,z5,z6] H'):
 ∃W:Nat->Nat->L2.St->Hp->Prop,(∃m,W 0 m [some v0,some (.ref p),none,none,none,none,none] H1)/\∀i m σ H,W i m σ H->
  (J.stop i H/\D.nx σ H)\/(J.go i H/\∃N:L2.St->Hp->Prop,(∀σ' H',N σ' H'->∃m',m'<m/\W (i+1) m' σ' H')/\∀x H',J.yld i H x H'->YB K 3 (FC (DO 2) (FC (DO 3) (FC (DO 4) T8))) x σ H' λσ2 H2=>WO K {D with nx:=N,ct:=N,bk:=D.nx} σ2 H2):=by
 let W:Nat->Nat->L2.St->Hp->Prop:=λi m σ H'=>i+m=ys.length/\∃z2 z3 z4 z5 z6 mm,σ= [some v0,some (.ref p),z2,z3,z4,z5,z6] /\(∀b o,H b=some o->H' b=some o)/\H' p=some (.dN K (B9 mm))/\Fi (ys.drop i) mm=some mfin/\mm.length<=2*i
 refine ⟨W,⟨ys.length,Nat.zero_add _,_,_,_,_,_, [],rfl,e1,hp,hs,Nat.zero_le _⟩, ?_⟩
 rintro i m σ H' ⟨hi,z2,z3,z4,z5,z6,mm,rfl,ex,EN,Vk,xa⟩
 obtain ⟨vs,rs,g1,g2,g3⟩:=go H' ex
 cases m with
 | zero=>
   left
   refine ⟨g2 i (by omega),fin _ _ _ _ _ _ ex ?_⟩
   rw [List.drop_eq_nil_of_le (by omega)] at Vk
   cases Vk
   exact EN
 | succ m=>
   right
   refine ⟨g1 i (by omega),λσ' H'=>W (i+1) m σ' H',λσ' H' h=>⟨m,by omega,h⟩,λx H2 yl=> ?_⟩
   obtain ⟨rfl,ev⟩:=g3 i x H2 yl
   have hy:ys[i]? =some ys[i] :=List.getElem?_eq_getElem (by omega)
   obtain ⟨y,ey,ry⟩:=XQ rs ev
   rw [List.drop_eq_getElem_cons (by omega:i<ys.length)] at Vk
   have ey2:ys[i] =y:=by rw [hy] at ey;exact Option.some.inj ey
   rw [ey2] at Vk
   unfold Fi at Vk
   split at Vk
   ·rename_i b h e er
    refine WQ (H:=H) (m:=mm) (b:=b) (h:=h) (e:=e) (x:=y) va ex np EN (by omega) ry er λz2 z3 z4 z5 z6 H3 ex3 wW=>⟨by omega,z2,z3,z4,z5,z6,_,rfl,ex3,wW,Vk, ?_⟩
    ·have:=MX (m:=mm) (b:=b) (h:=h) (e:=e);omega
   ·cases Vk
theorem WP {D:Nv} {v0:V} {x:PV} {ys:List PV} {mfin:List (FK×Int)} (va:G0 T M H) (r:CT K T M H v0 x) (hx:x= .tup ys\/x= .lst ys) (hl:2*ys.length+2<sizeLine) (hs:Fi ys [] =some mfin)
 (fin:∀p H',(∀b o,H b=some o->H' b=some o)->H p=none->H' p=some (.dN K (B9 mfin))->D.rt (.ref p) H'):kP K D [some v0,none,none,none,none,none,none] H:=by
 intro p hp
 have e1:∀b o,H b=some o->upd H p (.dN K []) b=some o:=λb o e=>by rw [Ah (Av e hp)];exact e
 have last:∀z2 z3 z4 z5 z6 H',(∀b o,H b=some o->H' b=some o)->H' p=some (.dN K (B9 mfin))->(cS (F1 1)) D [some v0,some (.ref p),z2,z3,z4,z5,z6] H':=λz2 z3 z4 z5 z6 H' ex h=>⟨_,rfl,fin p H' ex hp h⟩
 rcases hx with rfl|rfl
 ·obtain ⟨a,vs,rfl,hq,rs⟩:=DI (r.mv (va.ext e1))
  refine ⟨_,rfl,a,rfl, .inr ⟨⟨vs,hq⟩, ?_⟩⟩
  refine O2 (D:={D with nx:=(cS (F1 1)) D}) va hp (λH' ex=> ?_) e1 Aj hl hs last
  obtain ⟨a',vs',e,Rc,rs'⟩:=DI (r.mv (va.ext ex))
  cases e
  refine ⟨vs',rs',λi hi=>⟨vs',vs'[i]'(by rw [rs'.length];exact hi),Rc,List.getElem?_eq_getElem _⟩,λi hi=>⟨vs',Rc,by rw [rs'.length];exact hi⟩,λi x H2 yl=>⟨yl.1,yl.2 vs' Rc⟩⟩
 ·obtain ⟨a,vs,rfl,hq,_,_,rs⟩:=Dz (r.mv (va.ext e1))
  refine ⟨_,rfl,a,rfl, .inl ⟨⟨vs, .inl (.inl hq)⟩, ?_⟩⟩
  refine O2 (D:={D with nx:=(cS (F1 1)) D}) va hp (λH' ex=> ?_) e1 Aj hl hs last
  obtain ⟨a',vs',e,Rc,_,_,rs'⟩:=Dz (r.mv (va.ext ex))
  cases e
  refine ⟨vs',rs',λi hi=>⟨vs',vs'[i]'(by rw [rs'.length];exact hi), .inl (.inl Rc),List.getElem?_eq_getElem _⟩,λi hi=>⟨vs', .inl (.inl Rc),by rw [rs'.length];exact hi⟩,λi x H2 yl=>⟨yl.1,yl.2 vs' (.inl (.inl Rc))⟩⟩
end
def Hh:AF:=λxs Q=>match xs with | [x] =>S9 x λys=>2*ys.length+2<sizeLine/\∃m,Fi ys [] =some m/\Q (.dct m)|_=>False
theorem VC {xs:List PV} {Q:PV->Prop} (h:Hh xs Q):∃x ys m,xs= [x] /\(x= .tup ys\/x= .lst ys)/\2*ys.length+2<sizeLine/\Fi ys [] =some m/\Q (.dct m):=by
 unfold Hh at h
 split at h
 ·obtain ⟨ys,hx,hz,m,hm,q⟩:=JM h
  exact ⟨_,ys,m,rfl,hx,hz,hm,q⟩
 ·exact h.elim
section
variable {K:PySem.W.Frag} {T M:Addr->Prop} {H H':Hp}
theorem fV {k:Nat} {A:Around} (hr:Room k A):A.units+2<cLine:=by have:=hr.un;omega
theorem fz (va:G0 T M H) (ex:∀b o,H b=some o->H' b=some o):Dm T H T H' where
 keep:=λb u _ e=>ex b u e
 sub:=λ_ t=>t
 new:=λ_ t=> .inl t
 tp:=λa t=>let ⟨d,x,e,q⟩:=va.tp a t;⟨d,x,ex _ _ e,q⟩
theorem fT {p:Addr} {m:List (FK×Int)} (va:G0 T M H) (np:H p=none) (hp:H' p=some (.dN K (B9 m))):CT K T M H' (.ref p) (.dct m):=by
 refine .dct hp (λz=> ?_) (λz=> ?_)
 ·obtain ⟨o,e,_⟩:=(va.tp p z).mut
  rw [np] at e;cases e
 ·obtain ⟨o,e,_⟩:=va.mu p z
  rw [np] at e;cases e
end
end PL
end
section
namespace L2
open PySem PySem.Spec PyProof.Rows
section
variable {X:Cx} {a b:Expr} {rest:List Expr} {pos:Pos} {ta tb:TE}
end
end L2
namespace PL
open PySem PySem.Spec PyProof.Rows L2
section
variable {X:Cx} {a b:Expr} {rest:List Expr} {pos:Pos} {ta tb:AE}
end
end PL
end
section
namespace L2
open PySem PySem.Spec PyProof.Rows
section
variable {elt tg iter tg2 iter2:Expr} {ifs ifs2:List Expr} {scope:Scope} {pos:Pos} {it acc:Value} {env:Env}
theorem Y1:compTurn (.ListComp elt [⟨tg,iter,ifs,0⟩,⟨tg2,iter2,ifs2,0⟩] scope pos) 0 it acc env=(do
 standAt iter.pos
 match <-pyNext it with
 | none=>pure (.done .next)
 | some v=>
   letOwnedTupleGo tg it v
   assign tg env v
   let mut ok:=true
   for c in ifs do
    if ok then ok <-isTrue c env (eval c env)
   if ok then
    let x <-eval iter2 env
    standAt iter2.pos
    let x <-foldedSetIterable iter2 env x
    let _ <-runOwn (.compStart (.ListComp elt [⟨tg,iter,ifs,0⟩,⟨tg2,iter2,ifs2,0⟩] scope pos) 1 (<-holding [x] (pyIter x)) acc env) env
   again (.compLoop (.ListComp elt [⟨tg,iter,ifs,0⟩,⟨tg2,iter2,ifs2,0⟩] scope pos) 0 it acc env)):=by rfl
theorem Y2:compTurn (.ListComp elt [⟨tg,iter,ifs,0⟩,⟨tg2,iter2,ifs2,0⟩] scope pos) 1 it acc env=(do
 standAt iter2.pos
 match <-pyNext it with
 | none=>pure (.done .next)
 | some v=>
   letOwnedTupleGo tg2 it v
   assign tg2 env v
   let mut ok:=true
   for c in ifs2 do
    if ok then ok <-isTrue c env (eval c env)
   if ok then
    (do let _ <-call (.builtin "list.append") [acc,<-eval elt env])
   again (.compLoop (.ListComp elt [⟨tg,iter,ifs,0⟩,⟨tg2,iter2,ifs2,0⟩] scope pos) 1 it acc env)):=by rfl
variable {prog:Program} {w:World} {A:Around} {R:Result->Shared->Prop} {s:Shared}
theorem WL
 (h0:codeAny (model prog w) A (.compLoop (.ListComp elt [⟨tg,iter,ifs,0⟩,⟨tg2,iter2,ifs2,0⟩] scope pos) 1 it acc env) R s)
 (h:wpAny (model prog w) A (pyIter it) (λit' s'=>codeAny (model prog w) A (.compLoop (.ListComp elt [⟨tg,iter,ifs,0⟩,⟨tg2,iter2,ifs2,0⟩] scope pos) 1 it' acc env) R s')
   (notedBy (model prog w) A env λx s'=>R (.error x) s') s):
 codeAny (model prog w) A (.compStart (.ListComp elt [⟨tg,iter,ifs,0⟩,⟨tg2,iter2,ifs2,0⟩] scope pos) 1 it acc env) R s:=by
 refine codeAny_of_tree ?_
 show wpAny _ _ ((compStart (.ListComp elt [⟨tg,iter,ifs,0⟩,⟨tg2,iter2,ifs2,0⟩] scope pos) 1 it acc env).onRaise (λx=>do noteFrame x env;standAt theWindowsPlace)) _ _ s
 refine wpAny_notedAt ?_
 unfold compStart
 show wpAny _ _ (ask >>= _) _ _ s
 refine wpAny_bind (wpAny_askSetting (wpAny_ite ?_))
 split
 ·first
   | exact wpAny_bind (wpAny_pure (wpAny_pure (And.intro rfl h0)))
   | exact wpAny_pure (And.intro rfl h0)
 ·first
   | exact wpAny_bind (wpAny_rule (wpAny_bind (wpAny_standAt (wpAny_bind (wpAny_mono h (λit' s' h'=>wpAny_pure (And.intro rfl h')) λ_ _ x=>x)))))
   | (refine wpAny_bind (wpAny_rule ?_);show wpAny _ _ (standAt iter2.pos >>= _) _ _ s;exact wpAny_bind (wpAny_standAt (wpAny_bind (wpAny_mono h (λit' s' h'=>wpAny_pure (And.intro rfl h')) λ_ _ x=>x))))
end
def Mm (own:Nat) (σ:St):St:=List.replicate own none++σ.drop own
theorem Lh {own:Nat} {σ:St} {j:Nat} {v:V} (h:(Mm own σ)[j]? =some (some v)):own<=j/\σ[j]? =some (some v):=by
 unfold Mm at h
 by_cases hj:j<own
 ·rw [List.getElem?_append_left (by simpa using hj),List.getElem?_replicate,if_pos hj] at h
  cases h
 ·have YM:own<=j:=by omega
  rw [List.getElem?_append_right (by simpa using YM),List.length_replicate,List.getElem?_drop] at h
  rw [show own+(j-own)=j by omega] at h
  exact ⟨YM,h⟩
theorem Tw {own:Nat} {σ:St} (h:own<=σ.length):(Mm own σ).length=σ.length:=by simp [Mm];omega
def RO (J:It) (D:Addr) (σ0:St) (g:TG) (tt:TT) (wi2:TI) (own2:Nat) (g2:TG) (tt2:TT) (te:TE) (Q:Hp->Prop) (W:Nat->Nat->Hp->Prop):Prop:=
 ∀i m H,W i m H->(J.stop i H/\Q H)\/(J.go i H/\∀x H',J.yld i H x H'->g x σ0 H' λσ2 H2=>tt σ2 H2 λok H3=>
  if ok=true then wi2 σ2 H3 λJ2 H4=>∃W2:Nat->Nat->Hp->Prop,(∃m2,W2 0 m2 H4)/\JD J2 D (Mm own2 σ2) g2 tt2 te (λH5=>∃m',m'<m/\W (i+1) m' H5) W2 else ∃m',m'<m/\W (i+1) m' H3)
def cR (wi:TI) (own:Nat) (ix:List Nat) (g:TG) (tt:TT) (wi2:TI) (own2:Nat) (g2:TG) (tt2:TT) (te:TE):TE:=λσ H Q=>wi σ H λJ H1=>∀D,H1 D=none->
 ∃W:Nat->Nat->Hp->Prop,(∃m,W 0 m (upd H1 D (.lst [])))/\RO J D (B4 own ix σ) g tt wi2 own2 g2 tt2 te (Q (.ref D)) W
section
variable {X:Cx} {tg elt iter tg2 iter2:Expr} {ifs ifs2:List Expr} {scope:Scope} {pos:Pos} {wi wi2:TI} {own own2:Nat} {ix:List Nat} {N:List Str} {g g2:TG} {tt tt2:TT} {te:TE}
structure M4 (X:Cx) (tg elt:Expr) (ifs:List Expr) (tg2 iter2:Expr) (ifs2:List Expr) (scope:Scope) (own:Nat) (ix:List Nat) (N:List Str) (g:TG) (tt:TT) (wi2:TI) (own2:Nat) (g2:TG) (tt2:TT) (te:TE):Prop where
 kind:scope.kind= .function
 nocell:∀y∈scope.names,y.2≠ .cell
 names:∀y∈scope.names,y.2= .local->scope.names.lookup y.1=some .local
 frees:∀y∈scope.names,y.2= .free->X.env.scope.names.lookup y.1=some .cell
 ins:QH X (relabel scope X.env) own ix N
 keep:HD own g
 keep2:HD own2 g2
 le2:own2<=own
 tgt:∀cl C s H ex pn,PG (blk X (relabel scope X.env) N cl C s H ex pn) tg g
 tst:∀cl C s H ex pn,Wb (blk X (relabel scope X.env) N cl C s H ex pn) ifs tt
 itr2:∀cl C s H ex pn,PI (blk X (relabel scope X.env) N cl C s H ex pn) tg2 iter2 wi2
 set2:∀cl C s H ex pn x,foldedSetIterable iter2 (blk X (relabel scope X.env) N cl C s H ex pn).env x=pure x
 tgt2:∀cl C s H ex pn,PG (blk X (relabel scope X.env) N cl C s H ex pn) tg2 g2
 tst2:∀cl C s H ex pn,Wb (blk X (relabel scope X.env) N cl C s H ex pn) ifs2 tt2
 val:∀cl C s H ex pn,PE (blk X (relabel scope X.env) N cl C s H ex pn) elt te
theorem dS {Y:Cx} {c0:Comprehension} {pins:List (Addr×Obj)} {σ0:St} {fp:List Addr} {it:Addr} {tn:Nat->Heap->Prop} {J:It} {D:Addr} {R:Result->Shared->Prop} {Qh:Hp->Prop} {W:Nat->Nat->Hp->Prop}
 (wZ:∀it acc,compTurn (.ListComp elt [c0,⟨tg2,iter2,ifs2,0⟩] scope pos) 1 it acc Y.env=(do
   standAt iter2.pos
   match <-pyNext it with
   | none=>pure (.done .next)
   | some v=>
     letOwnedTupleGo tg2 it v
     assign tg2 Y.env v
     let mut ok:=true
     for c in ifs2 do
      if ok then ok <-isTrue c Y.env (eval c Y.env)
     if ok then
      (do let _ <-call (.builtin "list.append") [acc,<-eval elt Y.env])
     again (.compLoop (.ListComp elt [c0,⟨tg2,iter2,ifs2,0⟩] scope pos) 1 it acc Y.env)))
 (eX:Y.xe=λ_ _=>False) (eC:Y.calm=true) (hg:PG Y tg2 g2) (hk:HD own2 g2) (ht:Wb Y ifs2 tt2) (hv:PE Y elt te) (T:Js Y.prog Y.w Y.K tg2 J fp it tn)
 (vz:∀j v,σ0[j]? =some (some v)->own2<=j) (stat:∀{H':Hp},(∀b∈fp,H' b=none)->∀b∈fp,D7 Y pins H' b)
 (hW:JD J D σ0 g2 tt2 te Qh W) (hR:∀H' s',Inv Y pins σ0 H' s'->Qh H'->R (.ok .next) s')
 (n:Nat) (s0:Shared) (h0:∃i H',Inv Y pins σ0 H' s0/\tn i s0.heap/\(∀b∈fp,H' b=none)/\W i n H'):
 codeAny (model Y.prog Y.w) Y.A (.compLoop (.ListComp elt [c0,⟨tg2,iter2,ifs2,0⟩] scope pos) 1 (.ref it) (.ref D) Y.env) R s0:=by
 refine codeAny_loop rfl (λn s'=>∃i H',Inv Y pins σ0 H' s'/\tn i s'.heap/\(∀b∈fp,H' b=none)/\W i n H') (λn s1 h1=> ?_) n h0
 obtain ⟨i,H1,B1,st1,fr1,w1⟩:=h1
 show wpAny _ _ ((compTurn (.ListComp elt [c0,⟨tg2,iter2,ifs2,0⟩] scope pos) 1 (.ref it) (.ref D) Y.env).onRaise (λx=>do noteFrame x Y.env;theTreesLotGoes x)) _ _ s1
 refine wpAny_noted ?_
 rw [wZ]
 have ff:∀{α:Type} {t:Sem α} {Q:α->Shared->Prop} {E:Value->Shared->Prop} {s:Shared},wpAny (model Y.prog Y.w) Y.A t Q Y.xe s->wpAny (model Y.prog Y.w) Y.A t Q E s:=λh=>wpAny_mono h (λ_ _ q=>q) λ_ _ z=>by rw [eX] at z;exact z.elim
 refine wpAny_bind (wpAny_standAt (wpAny_bind ?_))
 rcases hW i n H1 w1 with ⟨stop,qn⟩|⟨go,step⟩
 ·refine Bg (T.done Y rfl rfl rfl eC i pins s1 _ H1 _ B1 (stat fr1) st1 stop) λr s4 ⟨hr,I4⟩=> ?_
  subst hr
  exact wpAny_pure (hR _ _ I4 qn)
 ·refine Bg (T.item Y rfl rfl rfl eC i pins s1 _ H1 _ B1 (stat fr1) st1 go) λr s4 ⟨u,hr,h4⟩=> ?_
  subst hr
  refine wpAny_bind (Bg h4 λ_ s5 ⟨x,H5,I5,r5,y5,st5,fr5⟩=> ?_)
  have I5':=I5.pinned (stat fr5) (T.obj _ _ st5)
  refine wpAny_bind (Bg (ff (hg _ s5 _ H5 x u _ I5' r5 (hk _ _ _ _ (step x H5 y5)))) λ_ s6 ⟨σ6,H6,I6,q6,l6,k6⟩=> ?_)
  refine wpAny_bind (Bg (ff (ht _ s6 σ6 H6 _ I6 q6)) λok s7 ⟨H7,I7,q7⟩=> ?_)
  have back:∀{H8:Hp} {s8:Shared} {m':Nat},Inv Y (pins++Ff fp s5.heap) σ6 H8 s8->m'<n->W (i+1) m' H8->
   ∃m,m<n/\∃i H',Inv Y pins σ0 H' s8/\tn i s8.heap/\(∀b∈fp,H' b=none)/\W i m H':=λ{H8 s8 m'} I8 hm w8=>by
   refine ⟨m',hm,i+1,H8,I8.unpinned.weak l6.symm (λj v hj=> ?_),T.keep _ _ _ st5 λb hb o e=>(I8.pin (b,o) (List.mem_append_right _ (List.mem_append_right _ (B7 hb e)))).1,λb hb=> ?_,w8⟩
   ·rw [k6 j (vz j v hj)]
    exact hj
   ·obtain ⟨o,e,d⟩:=T.obj _ _ st5 b hb
    exact (I8.pin (b,o) (List.mem_append_right _ (List.mem_append_right _ (B7 hb e)))).2.1
  cases ok with
  | false=>
    obtain ⟨m',hm,w8⟩:=q7
    exact wpAny_pure ⟨rfl,back I7 hm w8⟩
  | true=>
    refine wpAny_bind (wpAny_bind (Bg (ff (hv _ s7 σ6 H7 _ I7 q7)) λyv s8 ⟨y,H8,I8,r8,ys,hD,hz,m',hm,w8⟩=> ?_))
    refine wpAny_bind (Bg (ff (Ho _ s8 σ6 H8 (.ref D) [y] (.ref D) [yv] (λ_ H9=>H9=upd H8 D (.lst (ys ++ [y]))) I8 rfl (.cons r8 .nil) ⟨D,ys,y,rfl,rfl,hD,hz,rfl⟩)) λ_ s9 ⟨_,H9,I9,_,e9⟩=> ?_)
    subst e9
    exact wpAny_pure (wpAny_pure ⟨rfl,back I9 hm w8⟩)
theorem VR {pins:List (Addr×Obj)} {σ:St} {H:Hp} {s:Shared} {fp:List Addr} {cl:List (Str×Addr)} {it:Addr} {tn:Nat->Heap->Prop} {J:It} {D:Addr} {R:Result->Shared->Prop} {Qh:Hp->Prop} {W:Nat->Nat->Hp->Prop}
 (hc:X.calm=true) (O:M4 X tg elt ifs tg2 iter2 ifs2 scope own ix N g tt wi2 own2 g2 tt2 te) (T:Js X.prog X.w X.K tg J fp it tn) (I:Inv X pins σ H s) (hf:∀b∈fp,D7 X pins H b) (EF:∀b∈fp,b<s.heap.objs.size)
 (hW:RO J D (B4 own ix σ) g tt wi2 own2 g2 tt2 te Qh W)
 (hR:∀σ' H' s',Inv (blk X (relabel scope X.env) N cl s.heap.objs.size s H fp (X.pn++pins)) [] σ' H' s'->Qh H'->R (.ok .next) s')
 (n:Nat) (s0:Shared) (h0:∃i H',Inv (blk X (relabel scope X.env) N cl s.heap.objs.size s H fp (X.pn++pins)) [] (B4 own ix σ) H' s0/\tn i s0.heap/\(∀b∈fp,H' b=none)/\W i n H'):
 codeAny (model X.prog X.w) X.A (.compLoop (.ListComp elt [⟨tg,iter,ifs,0⟩,⟨tg2,iter2,ifs2,0⟩] scope pos) 0 (.ref it) (.ref D) (Fa X.env (relabel scope X.env) cl s.heap.objs.size)) R s0:=by
 refine codeAny_loop rfl (λn s'=>∃i H',Inv (blk X (relabel scope X.env) N cl s.heap.objs.size s H fp (X.pn++pins)) [] (B4 own ix σ) H' s'/\tn i s'.heap/\(∀b∈fp,H' b=none)/\W i n H') (λn s1 h1=> ?_) n h0
 obtain ⟨i,H1,B1,st1,fr1,w1⟩:=h1
 have lenS:own2<=(B4 own ix σ).length:=by rw [Le];exact Nat.le_trans O.le2 (Nat.le_add_right _ _)
 generalize hY:blk X (relabel scope X.env) N cl s.heap.objs.size s H fp (X.pn++pins)=Y at *
 have eA:Y.A=X.A:=by rw [<-hY];rfl
 have eP:Y.prog=X.prog:=by rw [<-hY];rfl
 have eW:Y.w=X.w:=by rw [<-hY];rfl
 have eK:Y.K=X.K:=by rw [<-hY];rfl
 have eE:Fa X.env (relabel scope X.env) cl s.heap.objs.size=Y.env:=by rw [<-hY];rfl
 have eX:Y.xe=λ_ _=>False:=by rw [<-hY];rfl
 have eC:Y.calm=true:=by rw [<-hY];exact hc
 have hg:PG Y tg g:=by rw [<-hY];exact O.tgt _ _ _ _ _ _
 have ht:Wb Y ifs tt:=by rw [<-hY];exact O.tst _ _ _ _ _ _
 have qD:PI Y tg2 iter2 wi2:=by rw [<-hY];exact O.itr2 _ _ _ _ _ _
 have S6:∀x,foldedSetIterable iter2 Y.env x=pure x:=by rw [<-hY];exact O.set2 _ _ _ _ _ _
 have i9:PG Y tg2 g2:=by rw [<-hY];exact O.tgt2 _ _ _ _ _ _
 have qQ:Wb Y ifs2 tt2:=by rw [<-hY];exact O.tst2 _ _ _ _ _ _
 have hv:PE Y elt te:=by rw [<-hY];exact O.val _ _ _ _ _ _
 have stat:∀{H':Hp},(∀b∈fp,H' b=none)->∀b∈fp,D7 Y [] H' b:=λ{H'} hn b hb=>by
  obtain ⟨_,a1,a2,a3,a4,a5⟩:=hf b hb
  refine ⟨hn b hb, ?_, ?_, ?_, ?_, ?_⟩
  ·rw [<-hY];exact Nat.ne_of_lt (EF b hb)
  ·rw [<-hY];exact I.notStk a1 a2
  ·rw [<-hY];exact .inl hb
  ·intro x c e
   exact (B1.ok.exf b (by rw [<-hY];exact hb)).2 x c e
  ·intro p hp
   have:p∈X.pn++pins:=by rw [<-hY] at hp;simpa [blk] using hp
   exact a5 p this
 rw [eE,<-eA,<-eP,<-eW]
 show wpAny _ _ ((compTurn (.ListComp elt [⟨tg,iter,ifs,0⟩,⟨tg2,iter2,ifs2,0⟩] scope pos) 0 (.ref it) (.ref D) Y.env).onRaise (λx=>do noteFrame x Y.env;theTreesLotGoes x)) _ _ s1
 refine wpAny_noted ?_
 rw [Y1]
 have ff:∀{α:Type} {t:Sem α} {Q:α->Shared->Prop} {E:Value->Shared->Prop} {s:Shared},wpAny (model Y.prog Y.w) Y.A t Q Y.xe s->wpAny (model Y.prog Y.w) Y.A t Q E s:=λh=>wpAny_mono h (λ_ _ q=>q) λ_ _ z=>by rw [eX] at z;exact z.elim
 refine wpAny_bind (wpAny_standAt (wpAny_bind ?_))
 rcases hW i n H1 w1 with ⟨stop,qn⟩|⟨go,step⟩
 ·have zd:=λE=>T.done Y eP eW eK eC i [] s1 _ H1 E B1 (stat fr1) st1 stop
  rw [<-eP,<-eW] at zd
  refine Bg (zd _) λr s4 ⟨hr,I4⟩=> ?_
  subst hr
  exact wpAny_pure (hR _ _ _ I4 qn)
 ·have zi:=λE=>T.item Y eP eW eK eC i [] s1 _ H1 E B1 (stat fr1) st1 go
  rw [<-eP,<-eW] at zi
  refine Bg (zi _) λr s4 ⟨u,hr,h4⟩=> ?_
  subst hr
  refine wpAny_bind (Bg h4 λ_ s5 ⟨x,H5,I5,r5,y5,st5,fr5⟩=> ?_)
  have I5':=I5.pinned (stat fr5) (T.obj _ _ st5)
  refine wpAny_bind (Bg (ff (hg _ s5 _ H5 x u _ I5' r5 (O.keep _ _ _ _ (step x H5 y5)))) λ_ s6 ⟨σ6,H6,I6,q6,l6,k6⟩=> ?_)
  refine wpAny_bind (Bg (ff (ht _ s6 σ6 H6 _ I6 q6)) λok s7 ⟨H7,I7,q7⟩=> ?_)
  have back:∀{σ8:St} {H8:Hp} {s8:Shared} {m':Nat},Inv Y ([] ++ Ff fp s5.heap) σ8 H8 s8->σ8.length=σ6.length->(∀j v,own<=j->σ6[j]? =some (some v)->σ8[j]? =some (some v))->m'<n->W (i+1) m' H8->
   ∃m,m<n/\∃i H',Inv Y [] (B4 own ix σ) H' s8/\tn i s8.heap/\(∀b∈fp,H' b=none)/\W i m H':=λ{σ8 H8 s8 m'} I8 hl wY hm w8=>by
   refine ⟨m',hm,i+1,H8,I8.unpinned.weak (hl.trans l6).symm (λj v hj=> ?_),T.keep _ _ _ st5 λb hb o e=>(I8.pin (b,o) (List.mem_append_right _ (List.mem_append_right _ (B7 hb e)))).1,λb hb=> ?_,w8⟩
   ·have tJ:=(Ez hj).1
    exact wY j v tJ (by rw [k6 j tJ];exact hj)
   ·obtain ⟨o,e,d⟩:=T.obj _ _ st5 b hb
    exact (I8.pin (b,o) (List.mem_append_right _ (List.mem_append_right _ (B7 hb e)))).2.1
  cases ok with
  | false=>
    obtain ⟨m',hm,w8⟩:=q7
    exact wpAny_pure ⟨rfl,back I7 rfl (λ_ _ _ z=>z) hm w8⟩
  | true=>
    rw [if_pos rfl] at q7
    refine wpAny_bind (Bg (ff (qD _ s7 σ6 H7 _ I7 q7)) λv2 s8 eB=> ?_)
    refine wpAny_bind (wpAny_standAt (wpAny_bind (wpAny_of_eq (S6 v2) (wpAny_bind (wpAny_holding (Bg (ff eB) λitv s9 wb=> ?_))))))
    obtain ⟨it2,fp2,tn2,J2,H9,rfl,I9,T2,st9,f9,W2,⟨m2,w2⟩,v9⟩:=wb
    have I9':Inv Y ([] ++ Ff fp s5.heap) (Mm own2 σ6) H9 s9:=I9.weak (Tw (by rw [l6];exact lenS)) (λj v hj=>(Lh hj).2)
    have loop:codeAny (model Y.prog Y.w) Y.A (.compLoop (.ListComp elt [⟨tg,iter,ifs,0⟩,⟨tg2,iter2,ifs2,0⟩] scope pos) 1 (.ref it2) (.ref D) Y.env) (λr s'=>match r with | .ok f=>∃m,m<n/\∃i H',Inv Y [] (B4 own ix σ) H' s'/\tn i s'.heap/\(∀b∈fp,H' b=none)/\W i m H' | .error e=>cameBackBy (model Y.prog Y.w) Y.A Y.env (notedBy (model Y.prog Y.w) Y.A Y.env λx s'=>R (.error x) s') e s') s9:=by
     refine dS (own2:=own2) (pins:= [] ++ Ff fp s5.heap) (λ_ _=>Y2) eX eC i9 O.keep2 qQ hv T2 (λj v hj=>(Lh hj).1) (λhn b hb=>⟨hn b hb,(f9 b hb).2⟩) v9 (λH' s' I' q'=> ?_) m2 s9 ⟨0,H9,I9',st9,λb hb=>(f9 b hb).1,w2⟩
     obtain ⟨m',hm,w8⟩:=q'
     refine back I' (Tw (by rw [l6];exact lenS)) (λj v hj e=> ?_) hm w8
     have v4:own2<=j:=Nat.le_trans O.le2 hj
     unfold Mm
     rw [List.getElem?_append_right (by simpa using v4),List.length_replicate,List.getElem?_drop,show own2+(j-own2)=j by omega]
     exact e
    refine wpAny_bind (wpAny_runOwn (h:=none) (WL ?_ ?_))
    ·exact codeAny_mono loop (λr s' h'=>by
      cases r with
      | ok f=>exact wpAny_pure ⟨rfl,h'⟩
      | error e=>exact h')
    ·exact T2.self _ 0 _ _ _ st9 (codeAny_mono loop (λr s' h'=>by
      cases r with
      | ok f=>exact wpAny_pure ⟨rfl,h'⟩
      | error e=>exact h'))
theorem X8 {pins:List (Addr×Obj)} {σ:St} {H:Hp} {s:Shared} {use:Option (Value->Sem Unit)} {Q:Value->Shared->Prop} {it:Addr} {fp:List Addr} {cl:List (Str×Addr)} {tn:Nat->Heap->Prop} {J:It} {Qd:Addr->Hp->Prop}
 (hc:X.calm=true) (O:M4 X tg elt ifs tg2 iter2 ifs2 scope own ix N g tt wi2 own2 g2 tt2 te) (T:Js X.prog X.w X.K tg J fp it tn) (I:Inv X pins σ H s) (hf:∀b∈fp,D7 X pins H b) (st:tn 0 s.heap)
 (h1:∀y c,cl.lookup y=some c->X.env.cells.lookup y=some c) (h2:∀y,(y,NameKind.free)∈scope.names->∃c,cl.lookup y=some c)
 (hq:∀D,H D=none->∃W:Nat->Nat->Hp->Prop,(∃m,W 0 m (upd H D (.lst [])))/\RO J D (B4 own ix σ) g tt wi2 own2 g2 tt2 te (Qd D) W)
 (hR:∀D C H' s',(∃m,s'.heap.Ns C m)->Inv X pins σ H' s'->(∀σ2 s2,Inv X pins σ2 H' s2->∀h',Heap.SameBut C s2.heap h'->Inv X pins σ2 H' {s2 with heap:=h'})->C≠X.env.locals->(∀x c,X.env.cells.lookup x=some c->C≠c)->Qd D H'->
   compPost (model X.prog X.w) X.A X.xe use Q (.ref D) C (.ok .next) s'):
 wpAny (model X.prog X.w) X.A (newList []) (λacc s₃=>wpAny (model X.prog X.w) X.A (newFunctionEnv scope X.env.globals cl [] X.env.qual none .none (some X.env)) (λcenv s₄=>
  codeAny (model X.prog X.w) X.A (.compStart (.ListComp elt [⟨tg,iter,ifs,0⟩,⟨tg2,iter2,ifs2,0⟩] scope pos) 0 (.ref it) acc {cenv with scope:=relabel scope X.env}) (compPost (model X.prog X.w) X.A X.xe use Q acc cenv.locals) s₄) X.xe s₃) X.xe s:=by
 refine wpAny_newObj_type ?_ (by simp [sizeOk])
 have I3:Inv X pins σ (upd H s.heap.objs.size (.lst [])) {s with heap:=s.heap.push {cls:= .type "list",data:= .seq ([] :List Value).toArray}}:=I.lnew (t':=s.toks) .nil (Nat.zero_le _)
 have UI:=I.fresh
 obtain ⟨W,⟨m0,w0⟩,hW⟩:=hq _ UI
 have aK:∀b∈fp,b<s.heap.objs.size:=λb hb=>by
  obtain ⟨o,e,_⟩:=T.obj _ _ st b hb
  exact Heap.lt_size e
 have W4:∀b∈fp,D7 X pins (upd H s.heap.objs.size (.lst [])) b:=λb hb=>by
  obtain ⟨a0,ar⟩:=hf b hb
  exact ⟨by rw [Ah (Nat.ne_of_lt (aK b hb))];exact a0,ar⟩
 generalize mR:({s with heap:=s.heap.push {cls:= .type "list",data:= .seq ([] :List Value).toArray}}:Shared)=s3 at I3
 have st3:tn 0 s3.heap:=T.keep _ _ _ st λb hb o e=>by rw [<-mR];exact Heap.get?_push_of_some _ e
 have EF:∀b∈fp,b<s3.heap.objs.size:=λb hb=>by
  obtain ⟨o,e,_⟩:=T.obj _ _ st3 b hb
  exact Heap.lt_size e
 refine wpAny_newFunctionEnv O.nocell (by intro y hy;simp at hy) (λh₁ gi qP=> ?_) O.kind
 have kp:∀b o,s3.heap.get? b=some o->h₁.get? b=some o:=λb o e=>qP.extBut b o (Nat.ne_of_lt (Heap.lt_size e)) (Heap.get?_push_of_some _ e)
 have mJ:∀y,((relabel scope X.env).names.lookup y=some .cell\/(relabel scope X.env).names.lookup y=some .free)->∃c,cl.lookup y=some c:=λy hy=>by
  rcases hy with z|z
  ·exact h2 y (FI O.nocell (HL z) (.inl rfl))
  ·exact h2 y (FI O.nocell (HL z) (.inr rfl))
 have B:=Zl (N:=N) (t':=s3.toks+([] :List (Str×Value)).length) I3 W4 EF (sc:=relabel scope X.env) O.kind h1 mJ O.ins gi kp
 have st4:tn 0 h₁:=T.keep _ _ _ st3 λb hb o e=>kp b o e
 have loop:∀s4:Shared,s4={s3 with heap:=h₁,toks:=s3.toks+([] :List (Str×Value)).length}->
  codeAny (model X.prog X.w) X.A (.compLoop (.ListComp elt [⟨tg,iter,ifs,0⟩,⟨tg2,iter2,ifs2,0⟩] scope pos) 0 (.ref it) (.ref s.heap.objs.size) (Fa X.env (relabel scope X.env) cl s3.heap.objs.size)) (compPost (model X.prog X.w) X.A X.xe use Q (.ref s.heap.objs.size) s3.heap.objs.size) s4:=by
  rintro s4 rfl
  refine VR (cl:=cl) (Qh:=Qd s.heap.objs.size) hc O T I3 W4 EF hW (λσ' H' s' B' q'=> ?_) m0 _ ⟨0,_,B,st4,λb hb=>(W4 b hb).1,w0⟩
  refine hR _ _ H' s' (let ⟨m,hm,_⟩:=B'.loc;⟨m,hm⟩) (Wk (own:=own) (ix:=ix) I3 W4 EF B') (λσ2 s2 I2 h' hs=>N6 I3 rfl I2 B'.free hs) (Nat.ne_of_gt I3.lt) (λx c e=>Nat.ne_of_gt (I3.szLt e)) q'
 exact codeAny_compStart_list (loop _ rfl) (T.self _ 0 _ _ _ st4 (loop _ rfl))
theorem bA (hc:X.calm=true) (hi:PI X tg iter wi) (O:M4 X tg elt ifs tg2 iter2 ifs2 scope own ix N g tt wi2 own2 g2 tt2 te) (hs:∀x,foldedSetIterable iter X.env x=pure x:=by intro _;rfl):
 PE X (.ListComp elt [⟨tg,iter,ifs,0⟩,⟨tg2,iter2,ifs2,0⟩] scope pos) (cR wi own ix g tt wi2 own2 g2 tt2 te):=by
 intro pins s σ H Q I h
 obtain ⟨cl,OG,h1,h2⟩:=GF (env:=X.env) (scope:=scope) λy hy e=>I.ok.has y.1 (.inl (O.frees y hy e))
 rw [eval_ListComp]
 refine wpAny_comprehension_free (use:=none) rfl hs OG O.kind O.names (Bg (hi pins s σ H _ I h) λv s1 hv=>Bg hv λitv s2 eB=> ?_)
 obtain ⟨it,fp,tn,J,H2,rfl,I2,T,st2,f2,q⟩:=eB
 exact X8 (Qd:=λD H'=>Q (.ref D) H') hc O T I2 f2 st2 h1 h2 q λD C H' s' hn I' gone nl nc q'=>by
  obtain ⟨m,hm⟩:=hn
  exact ⟨m,hm,λh' hs=>⟨.ref D,H',gone σ s' I' h' hs,rfl,q'⟩⟩
end
end L2
end
section
namespace PL
open PySem PySem.Spec PyProof.Rows L2
def N9 (own:Nat) (τ:BE):BE:=List.replicate own none++τ.drop own
def JE (g:AG) (t:AT) (ai2:AI) (own2:Nat) (g2:AG) (t2:AT) (te:AE) (τ0:BE) (Q:List PV->Prop):List PV->List PV->Prop
 | [],acc=>Q acc
 | x::r,acc=>g x τ0 λτ1=>t τ1 λok=>if ok=true then ai2 τ1 λys=>acc.length+ys.length<sizeLine/\Ck g2 t2 te (N9 own2 τ1) (JE g t ai2 own2 g2 t2 te τ0 Q r) ys acc else JE g t ai2 own2 g2 t2 te τ0 Q r acc
def N1 (ai:AI) (own:Nat) (ix:List Nat) (g:AG) (t:AT) (ai2:AI) (own2:Nat) (g2:AG) (t2:AT) (te:AE):AA:=λτ Q=>ai τ λxs=>JE g t ai2 own2 g2 t2 te (Jv own ix τ) Q xs []
theorem SR.noOwn {K:PySem.W.Frag} {B:DD} {T:Addr->Prop} {H:Hp} {σ:L2.St} {τ:BE} (s:SR K B T H σ τ) (W7:∀b,¬DP σ τ b) {i:Nat} {xs:List PV}:τ[i]? ≠some (some (.own xs)):=λe=>by
 obtain ⟨p,vs,e2,_⟩:=s.own i xs e
 exact W7 p ⟨i,xs,e,e2⟩
theorem SR.swap {K:PySem.W.Frag} {B:DD} {T6 T7:Addr->Prop} {H6 H7:Hp} {σ σ0:L2.St} {τ τ0:BE} (s6:SR K B T6 H6 σ τ) (W7:∀b,¬DP σ τ b) (s7:SR K B T7 H7 σ0 τ0) (mv:Mv K T6 (mt B σ τ) H6 T7 (mt B σ τ) H7):SR K B T7 H7 σ τ:=
 ⟨s6.len,λi x e=>let ⟨v,h,r⟩:=s6.val i x e;⟨v,h,r.mv mv⟩,λi xs e=>absurd e (s6.noOwn W7),λi j xs ys p e=>absurd e (s6.noOwn W7),s7.tp,s7.bm,s7.bt,s7.st⟩
theorem J0 {own:Nat} {τ:BE} {j:Nat} {x:AV} (h:(N9 own τ)[j]? =some (some x)):own<=j/\τ[j]? =some (some x):=by
 unfold N9 at h
 by_cases hj:j<own
 ·rw [List.getElem?_append_left (by simpa using hj),List.getElem?_replicate,if_pos hj] at h
  cases h
 ·have YM:own<=j:=by omega
  rw [List.getElem?_append_right (by simpa using YM),List.length_replicate,List.getElem?_drop] at h
  rw [show own+(j-own)=j by omega] at h
  exact ⟨YM,h⟩
theorem SR.cut {K:PySem.W.Frag} {B:DD} {T:Addr->Prop} {H:Hp} {σ:L2.St} {τ:BE} {own:Nat} (s:SR K B T H σ τ) (W7:∀b,¬DP σ τ b):SR K B T H (Mm own σ) (N9 own τ)/\∀b,¬DP (Mm own σ) (N9 own τ) b:=by
 have mO:∀b,¬DP (Mm own σ) (N9 own τ) b:=λb ⟨i,xs,e1,e2⟩=>W7 b ⟨i,xs,(J0 e1).2,(Lh e2).2⟩
 refine ⟨⟨by simp [Mm,N9,s.len],λi x e=> ?_,λi xs e=>absurd (J0 e).2 (s.noOwn W7),λi j xs ys p e=>absurd (J0 e).2 (s.noOwn W7),s.tp,s.bm,s.bt,s.st⟩,mO⟩
 obtain ⟨YM,e2⟩:=J0 e
 obtain ⟨v,hv,r⟩:=s.val i x e2
 refine ⟨v, ?_,r.mv (.anti s.va λa z=>z.elim .inl λz=>absurd z (mO a))⟩
 unfold Mm
 rw [List.getElem?_append_right (by simpa using YM),List.length_replicate,List.getElem?_drop,show own+(i-own)=i by omega]
 exact hv
structure PZ (D:Addr) (T:Addr->Prop) (H:Hp) (T':Addr->Prop) (H':Hp):Prop where
 keep:∀b o,¬T b->b≠D->H b=some o->H' b=some o
 sub:∀b,T b->T' b
 new:∀b,T' b->T b\/H b=none
 tp:∀b,H b≠none->H' b≠none
theorem PZ.refl {D:Addr} {T:Addr->Prop} {H:Hp}:PZ D T H T H:=⟨λ_ _ _ _ e=>e,λ_ e=>e,λ_ e=> .inl e,λ_ e=>e⟩
theorem Dm.atD {D:Addr} {T T':Addr->Prop} {H H':Hp} (s:Dm T H T' H'):PZ D T H T' H':=⟨λb o t _ e=>s.keep b o t e,s.sub,s.new,λb e=>s.some e⟩
theorem PZ.upd {D:Addr} {T:Addr->Prop} {H:Hp} {o:HO}:PZ D T H T (upd H D o):=⟨λb o' _ n e=>by rw [Ah n];exact e,λ_ e=>e,λ_ e=> .inl e,λb e=>by
 by_cases h:b=D
 ·subst h;rw [Aj];exact λz=>nomatch z
 ·rw [Ah h];exact e⟩
theorem PZ.trans {D:Addr} {T T1 T2:Addr->Prop} {H H1 H2:Hp} (a:PZ D T H T1 H1) (b:PZ D T1 H1 T2 H2):PZ D T H T2 H2 where
 keep:=λx o t n e=>b.keep x o (λz=>(a.new x z).elim t λz=>by rw [e] at z;cases z) n (a.keep x o t n e)
 sub:=λx t=>b.sub x (a.sub x t)
 new:=λx t=>(b.new x t).elim (λz=>a.new x z) λz=> .inr (by
  cases e:H x with
  | none=>rfl
  | some o=>exact absurd z (a.tp x (by rw [e];exact λz=>nomatch z)))
 tp:=λx e=>b.tp x (a.tp x e)
theorem Yu {K:PySem.W.Frag} {s:Bool} {wi wi2:TI} {ai ai2:AI} {own own2:Nat} {ix:List Nat} {g g2:TG} {ag ag2:AG} {tt tt2:TT} {at' at2:AT} {te:TE} {ta:AE} (hi:Xy K s wi ai) (hg:Jq K g ag) (ht:Mj K tt at') (qD:Xy K true wi2 ai2) (i9:Jq K g2 ag2) (qQ:Mj K tt2 at2) (he:GD K te ta):
 Ze K (cR wi own ix g tt wi2 own2 g2 tt2 te) (N1 ai own ix ag at' ai2 own2 ag2 at2 ta):=by
 intro B T σ τ H Q AQ sr h k
 refine hi B T σ τ H _ _ sr h λJ xs T1 H1 s1 walk h1 D hD=> ?_
 have sr1:=sr.stp s1
 have nt1:¬T1 D:=λz=>by obtain ⟨o,e,_⟩:=(sr1.tp D z).mut;rw [hD] at e;cases e
 have lay:=Dm.lay (o:= .lst []) sr1.tp hD
 refine ⟨λi m H2=>m=xs.length-i/\∃T2 vs acc,Dm T1 H1 T2 H2/\H2 D=some (.lst vs)/\¬T2 D/\A6 K T2 (λa=>mt B σ τ a\/a=D) H2 vs acc/\JE ag at' ai2 own2 ag2 at2 ta (Jv own ix τ) AQ (xs.drop i) acc,
  ⟨_,rfl,T1, [], [],lay,Aj,nt1, .nil,h1⟩, ?_⟩
 rintro i m H2 ⟨rfl,T2,vs,acc,s2,dk,nt2,r2,h2⟩
 have srb:=sr1.blk (own:=own) (ix:=ix) s2 hD dk nt2
 have va2:G0 T2 (λa=>mt B σ τ a\/a=D) H2:=⟨srb.tp,srb.bm⟩
 have w:=walk (λa=>mt B σ τ a\/a=D) T2 H2 ⟨sr1.va,λb o t _ e=>s2.keep b o t e,s2.sub,λb n t=>(s2.new b t).elim id λz=>absurd z n,λb n z=>z.elim id λz=>by subst z;exact absurd hD n⟩ va2 (.inr s2.keep)
 by_cases EF:i<xs.length
 ·have UJ:xs[i]? =some xs[i] :=List.getElem?_eq_getElem EF
  rw [List.drop_eq_getElem_cons EF] at h2
  refine .inr ⟨w.go i _ UJ,λv H3 yl=> ?_⟩
  obtain ⟨s3,r3⟩:=w.yld i _ v H3 UJ yl
  have sr3:=srb.stp s3
  refine hg _ T2 _ _ H3 v _ _ _ sr3 (r3.mv (.anti ⟨sr3.tp,sr3.bm⟩ λa z=>z.elim id λ⟨_,_,z,_⟩=>absurd z Ft)) h2 λσ4 τ4 sr4 o4 h4=> ?_
  have no4:∀b,¬DP σ4 τ4 b:=λb z=>by obtain ⟨_,_,z,_⟩:=o4 b z;exact absurd z Ft
  refine ht _ T2 σ4 τ4 H3 _ _ sr4 h4 λok T5 H5 s5 h5=> ?_
  have sr5:=sr4.stp s5
  have i4:=s3.keep D _ nt2 dk
  have dm:=s5.keep D _ nt2 i4
  have nt5:¬T5 D:=λz=>(s5.new D z).elim nt2 λn=>by rw [n] at i4;cases i4
  have r5:=(r2.stp s3 va2).stp s5 ⟨sr3.tp,sr3.bm⟩
  cases ok with
  | false=>
    rw [if_neg Bool.false_ne_true] at h5 ⊢
    exact ⟨_,by omega,rfl,T5,vs,acc,(s2.trans s3).trans s5,dm,nt5,r5,h5⟩
  | true=>
    rw [if_pos rfl] at h5 ⊢
    refine qD _ T5 σ4 τ4 H5 _ _ sr5 h5 λJ2 ys T6 H6 s6 walk2 h6=> ?_
    obtain ⟨hl,h6⟩:=h6
    have sr6:=sr5.stp s6
    have pq:=s6.keep D _ nt5 dm
    have nt6:¬T6 D:=λz=>(s6.new D z).elim nt5 λn=>by rw [n] at dm;cases dm
    have va6:G0 T6 (λa=>mt B σ τ a\/a=D) H6:=⟨sr6.tp,sr6.bm⟩
    have r6:=r5.stp s6 ⟨sr5.tp,sr5.bm⟩
    have s06:=((s2.trans s3).trans s5).trans s6
    refine ⟨λi2 m2 H7=>m2=ys.length-i2/\∃T7 vs7 acc7,Dm T1 H1 T7 H7/\PZ D T6 H6 T7 H7/\H7 D=some (.lst vs7)/\¬T7 D/\A6 K T7 (λa=>mt B σ τ a\/a=D) H7 vs7 acc7/\acc7.length<=acc.length+i2/\
     Ck ag2 at2 ta (N9 own2 τ4) (JE ag at' ai2 own2 ag2 at2 ta (Jv own ix τ) AQ (xs.drop (i+1))) (ys.drop i2) acc7,
     ⟨_,rfl,T6,vs,acc,s06, .refl,pq,nt6,r6,Nat.le_refl _,h6⟩, ?_⟩
    rintro i2 m2 H7 ⟨rfl,T7,vs7,acc7,s7,d7,pw,nt7,r7,xW,h7⟩
    have srb7:=sr1.blk (own:=own) (ix:=ix) s7 hD pw nt7
    have mEq:∀a,mt (B.blk σ τ D) σ4 τ4 a->mt B σ τ a\/a=D:=λa z=>z.elim id λz=>absurd z (no4 a)
    have mv7:Mv K T6 (mt (B.blk σ τ D) σ4 τ4) H6 T7 (mt (B.blk σ τ D) σ4 τ4) H7:=⟨sr6.va,λb o t m e=>d7.keep b o t (λz=>m (.inl (.inr z))) e,d7.sub,λb n t=>(d7.new b t).elim id λz=>absurd z n,λ_ _ z=>z⟩
    have mv7':Mv K T6 (mt (B.blk σ τ D) σ4 τ4) H6 T7 (λa=>mt B σ τ a\/a=D) H7:=⟨sr6.va,λb o t m e=>d7.keep b o t (λz=>m (.inl (.inr z))) e,d7.sub,λb n t=>(d7.new b t).elim id λz=>absurd z n,λ_ _ z=> .inl z⟩
    have sr7:=sr6.swap no4 srb7 mv7
    have va7:G0 T7 (λa=>mt B σ τ a\/a=D) H7:=⟨srb7.tp,srb7.bm⟩
    obtain ⟨sc7,no7⟩:=sr7.cut (own:=own2) no4
    have w2:=walk2 (λa=>mt B σ τ a\/a=D) T7 H7 mv7' va7 (.inl rfl)
    by_cases mL:i2<ys.length
    ·have gg:ys[i2]? =some ys[i2] :=List.getElem?_eq_getElem mL
     rw [List.drop_eq_getElem_cons mL] at h7
     refine .inr ⟨w2.go i2 _ gg,λv8 H8 yl8=> ?_⟩
     obtain ⟨s8,r8⟩:=w2.yld i2 _ v8 H8 gg yl8
     have sr8:=sc7.stp s8
     refine i9 _ T7 _ _ H8 v8 _ _ _ sr8 (r8.mv (.anti ⟨sr8.tp,sr8.bm⟩ λa z=>z.elim id λz=>absurd z (no7 a))) h7 λσ9 τ9 sr9 o9 h9=> ?_
     refine qQ _ T7 σ9 τ9 H8 _ _ sr9 h9 λok T10 iL s10 oW=> ?_
     have sr10:=sr9.stp s10
     have pz:=s8.keep D _ nt7 pw
     have dj:=s10.keep D _ nt7 pz
     have nt10:¬T10 D:=λz=>(s10.new D z).elim nt7 λn=>by rw [n] at pz;cases pz
     have r10:=(r7.stp s8 va7).stp s10 ⟨sr8.tp,sr8.bm⟩
     cases ok with
     | false=>
       rw [if_neg Bool.false_ne_true] at oW ⊢
       exact ⟨_,by omega,rfl,T10,vs7,acc7,(s7.trans s8).trans s10,(d7.trans s8.atD).trans s10.atD,dj,nt10,r10,by omega,oW⟩
     | true=>
       rw [if_pos rfl] at oW ⊢
       refine he _ T10 σ9 τ9 iL _ _ sr10 oW λvy y T11 ko s11 r11 v3=> ?_
       have sr11:=sr10.stp s11
       have pp:=s11.keep D _ nt10 dj
       have nt11:¬T11 D:=λz=>(s11.new D z).elim nt10 λn=>by rw [n] at dj;cases dj
       have va11:G0 T11 (λa=>mt B σ τ a\/a=D) ko:=⟨sr11.tp,sr11.bm⟩
       have r12:=r10.stp s11 ⟨sr10.tp,sr10.bm⟩
       have s12:=((s7.trans s8).trans s10).trans s11
       have tp13:∀a,T11 a->Ey (upd ko D (.lst (vs7 ++ [vy]))) a:=λa t=>by
        obtain ⟨d,x,e,z⟩:=sr11.tp a t
        exact ⟨d,x,by rw [Ah (λw=>by subst w;exact nt11 t)];exact e,z⟩
       have mv13:Mv K T11 (λa=>mt B σ τ a\/a=D) ko T11 (λa=>mt B σ τ a\/a=D) (upd ko D (.lst (vs7 ++ [vy]))):=⟨va11,λb o _ m e=>by rw [Ah (λw=>m (.inr w))];exact e,λ_ t=>t,λ_ _ t=>t,λ_ _ z=>z⟩
       refine ⟨vs7,pp,by rw [r7.length];omega,_,(by omega:ys.length-(i2+1)<ys.length-i2),rfl,T11,vs7 ++ [vy],acc7 ++ [y],⟨λb o t e=> ?_,s12.sub,s12.new,tp13⟩,((((d7.trans s8.atD).trans s10.atD).trans s11.atD).trans .upd),Aj,nt11,(r12.append (.cons (r11.mv (.anti sr11.va λa z=> .inl z)) .nil)).mv mv13,by simp;omega,v3⟩
       rw [Ah (Av e hD)]
       exact s12.keep b o t e
    ·rw [List.drop_eq_nil_of_le (as:=ys) (i:=i2) (by omega)] at h7
     exact .inl ⟨w2.stop i2 (by omega),_,(by omega:xs.length-(i+1)<xs.length-i),rfl,T7,vs7,acc7,s7,pw,nt7,r7,h7⟩
 ·rw [List.drop_eq_nil_of_le (by omega)] at h2
  refine .inl ⟨w.stop i (by omega), ?_⟩
  exact k D vs acc T2 H2 (s1.trans s2) (sr1.add s2 hD dk LY.lst nt2) (s1.none hD) dk nt2 (r2.mv (.anti va2 λa z=>by
   rcases z with (z|z)|z
   ·exact .inl (.inl z)
   ·exact .inr z
   ·exact .inl (.inr z))) h2
def qV (K:PySem.W.Frag) (s:Bool) (a:AI):TI:=λσ H R=>∃(B:DD) (T:Addr->Prop) (τ:BE) (AQ:List PV->Prop),SR K B T H σ τ/\a τ AQ/\
 ∀J xs T' H',Dm T H T' H'->(∀M2 T2 H2,Mv K T' (mt B σ τ) H' T2 M2 H2->G0 T2 M2 H2->(s=true\/WZ T' H' H2)->Tj K M2 J xs T2 H2)->AQ xs->R J H'
theorem fi {K:PySem.W.Frag} {s:Bool} {a:AI}:Xy K s (qV K s a) a:=λB T σ τ H R AQ sr h k=>⟨B,T,τ,AQ,sr,h,k⟩
section
variable {X:Cx}
theorem SI.of {tg iter:Expr} {s:Bool} {a:AI} (h:SI X tg iter s a):PI X tg iter (qV X.K s a):=by
 obtain ⟨t,p,si⟩:=h
 intro pins sh σ H R I hw
 obtain ⟨B,T,τ,AQ,sr,h,c⟩:=hw
 exact p pins sh σ H R I (si B T σ τ H R AQ sr h c)
structure ZP (X:Cx) (tg elt:Expr) (ifs:List Expr) (tg2 iter2:Expr) (ifs2:List Expr) (scope:Scope) (own:Nat) (ix:List Nat) (N:List Str) (g:AG) (t:AT) (ai2:AI) (own2:Nat) (g2:AG) (t2:AT) (te:AE):Prop where
 ex:∃g' t' wi2 g2' t2' te',M4 X tg elt ifs tg2 iter2 ifs2 scope own ix N g' t' wi2 own2 g2' t2' te'/\Jq X.K g' g/\Mj X.K t' t/\Xy X.K true wi2 ai2/\Jq X.K g2' g2/\Mj X.K t2' t2/\GD X.K te' te
theorem b9 {tg elt iter tg2 iter2:Expr} {ifs ifs2:List Expr} {scope:Scope} {pos:Pos} {own own2:Nat} {ix:List Nat} {N:List Str} {g g2:AG} {t t2:AT} {s:Bool} {ai ai2:AI} {ta:AE} (hc:X.calm=true) (hi:SI X tg iter s ai) (O:ZP X tg elt ifs tg2 iter2 ifs2 scope own ix N g t ai2 own2 g2 t2 ta) (hs:∀x,foldedSetIterable iter X.env x=pure x:=by intro _;rfl):
 SF X (.ListComp elt [⟨tg,iter,ifs,0⟩,⟨tg2,iter2,ifs2,0⟩] scope pos) (N1 ai own ix g t ai2 own2 g2 t2 ta):=by
 obtain ⟨wi,pi,si⟩:=hi
 obtain ⟨g',t',wi2,g2',t2',te',O,sg,st,si2,sg2,st2,se⟩:=O.ex
 exact ⟨_,bA hc pi O hs,Yu si sg st si2 sg2 st2 se⟩
theorem dU {tg elt tg2 iter2:Expr} {ifs ifs2:List Expr} {scope:Scope} {own own2:Nat} {ix:List Nat} {N:List Str} {g g2:AG} {t t2:AT} {ai2:AI} {te:AE} (h1:scope.kind= .function) (h2:(scope.names.all λy=> !decide (y.2= .cell))=true) (h3:(scope.names.all λy=> !decide (y.2= .local)||decide (scope.names.lookup y.1=some .local))=true)
 (h4:(scope.names.all λy=> !decide (y.2= .free)||decide (X.env.scope.names.lookup y.1=some .cell))=true) (h5:N.length=own+ix.length) (h6:OB X (relabel scope X.env) own ix N=true) (h7:own2<=own)
 (tgt:∀cl C s H ex pn,SK own (blk X (relabel scope X.env) N cl C s H ex pn) tg g)
 (tst:∀cl C s H ex pn,gS (blk X (relabel scope X.env) N cl C s H ex pn) ifs t)
 (itr2:∀cl C s H ex pn,SI (blk X (relabel scope X.env) N cl C s H ex pn) tg2 iter2 true ai2)
 (tgt2:∀cl C s H ex pn,SK own2 (blk X (relabel scope X.env) N cl C s H ex pn) tg2 g2)
 (tst2:∀cl C s H ex pn,gS (blk X (relabel scope X.env) N cl C s H ex pn) ifs2 t2)
 (val:∀cl C s H ex pn,SE (blk X (relabel scope X.env) N cl C s H ex pn) elt te)
 (S6:∀cl C s H ex pn x,foldedSetIterable iter2 (blk X (relabel scope X.env) N cl C s H ex pn).env x=pure x:=by intro _ _ _ _ _ _ _;rfl):ZP X tg elt ifs tg2 iter2 ifs2 scope own ix N g t ai2 own2 g2 t2 te:=
 have O:=Wo (te:=ku X.K te) h1 h2 h3 h4 h5 h6 (J9 (K:=X.K) (ag:=g)) (λcl C s H ex pn=>(tgt cl C s H ex pn).of) (λcl C s H ex pn=>(tst cl C s H ex pn).of) (λcl C s H ex pn=>(val cl C s H ex pn).of)
 ⟨iy X.K own g,lF X.K t,qV X.K true ai2,iy X.K own2 g2,lF X.K t2,ku X.K te,⟨O.kind,O.nocell,O.names,O.frees,O.ins,O.keep,J9,h7,O.tgt,O.tst,λcl C s H ex pn=>(itr2 cl C s H ex pn).of,S6,λcl C s H ex pn=>(tgt2 cl C s H ex pn).of,λcl C s H ex pn=>(tst2 cl C s H ex pn).of,O.val⟩,NM,NN,fi,NM,NN,Sj⟩
end
end PL
end
section
namespace PL
open PySem PySem.Spec PyProof.Rows L2
section
variable {X:Cx}
end
end PL
end
section
namespace PL
open PySem L2 PyProof.Rows
class c8 (n:Nat) (τ:BE) (τ':outParam BE):Prop where
 e:N9 n τ=τ'
instance sX {τ:BE}:c8 0 τ τ:=⟨rfl⟩
instance sY {n:Nat} {x:Option AV} {r r':BE} [h:c8 n r r'] :c8 (n+1) (x::r) (none::r'):=⟨by rw [<-h.e];rfl⟩
section
variable {ai ai2:AI} {g g2:AG} {tt t2:AT} {te:AE} {τ τ':BE} {QL:List PV->Prop} {own own2:Nat} {ix:List Nat}
instance o7 {τ3 τ4:BE} [h1:ln own τ3] [h2:lV ix τ τ4] [h3:ZM τ3 τ4 τ'] :Wp (N1 ai own ix g tt ai2 own2 g2 t2 te τ QL) (ai τ λxs=>JE g tt ai2 own2 g2 t2 te τ' QL xs []):=⟨λk=>by unfold N1 Jv;rw [h1.e,h2.e,h3.e];exact k⟩
instance uA {acc ys:List PV} [h:c8 own2 τ τ'] :Wp (Ck g2 t2 te (N9 own2 τ) QL ys acc) (Ck g2 t2 te τ' QL ys acc):=⟨λk=>by rw [h.e];exact k⟩
instance uj {i:Nat} {ti ta:AE} {nx bk ct:BE->Prop} {rt:PV->Prop}:Wp (VH i ti ta ⟨nx,rt,bk,ct⟩ τ) (ta τ λy=>Ml i τ λxs=>ti τ λk=>ao k λk=>ap (PB xs.length k) λj=>P8 τ i (.own (xs.set j y)) nx):=⟨id⟩
theorem Tr (Pv:List PV->List PV->Prop) (hd:∀acc,Pv [] acc->QL acc)
 (hs:∀x r acc (R:List PV->Prop),(∀acc2,Pv r acc2->R acc2)->Pv (x::r) acc->g x τ λτ1=>tt τ1 λok=>if ok=true then ai2 τ1 λys=>acc.length+ys.length<sizeLine/\Ck g2 t2 te (N9 own2 τ1) R ys acc else R acc):
 ∀xs acc,Pv xs acc->JE g tt ai2 own2 g2 t2 te τ QL xs acc
 | [],acc,h=>hd acc h
 | x::r,acc,h=>hs x r acc _ (λacc2 h2=>Tr Pv hd hs r acc2 h2) h
theorem Zt {r:BE}:∀(ys acc:List PV),QL (acc++ys)->Ck (Au 0) E7 (aV 0) (none::r) QL ys acc
 | [],acc,h=>by rw [List.append_nil] at h;exact h
 | y::ys,acc,h=>Zt ys (acc ++ [y]) (by rw [List.append_assoc];exact h)
end
end PL
end
section
namespace L2
open PySem PySem.Spec PyProof.Rows
section
variable {X:Cx}
end
end L2
end
section
namespace PL
open PySem PySem.Spec PyProof.Rows L2
def FA (k:Nat):List PV->List PV
 | [] => []
 | x::r=> .tup [.int k,x] :: FA (k+1) r
theorem QX:∀(xs:List PV) (k:Nat),(FA k xs).length=xs.length
 | [],_=>rfl
 | _::r,k=>by rw [FA,List.length_cons,QX r,List.length_cons]
theorem Li:∀(xs:List PV) (k i:Nat) (z:PV),(FA k xs)[i]? =some z->∃x,xs[i]? =some x/\z= .tup [.int ((k+i:Nat):Int),x]
 | [],_,_,_,h=>by simp [FA] at h
 | x::r,k,0,z,h=>⟨x,rfl,by simp [FA] at h;rw [<-h];rfl⟩
 | x::r,k,i+1,z,h=>by
   obtain ⟨y,h1,h2⟩:=Li r (k+1) i z (by simpa [FA] using h)
   refine ⟨y,by simpa using h1, ?_⟩
   rw [h2,show k+1+i=k+(i+1) by omega]
section
variable {X:Cx}
end
end PL
end
section
namespace L2
open PySem PySem.Spec PyProof.Rows
theorem Zz {prog:Program} {w:World} {A:Around} (hh:A.handled=none) (b:Bool) (it l:Addr) (QY:l≠it) (items:Array Value):
 Draws prog w A it [it,l] items.size (λi v=>items[i]? =some v) (λi h=>La b h it l i/\JA b h l items) where
 live:=λ_ _ st=>let ⟨o,ho,_⟩:=st.1.obj;⟨o,ho⟩
 frame:=λ_ _ _ st hk=>⟨st.1.mv λo e=>hk it (by simp) o e,st.2.mv λo e=>hk l (by simp) o e⟩
 item:=λi s Q E hi st hQ=>by
  refine HH st.1 st.2 (x:=items[i]) (by simp [hi]) λh' YL ZB=> ?_
  exact hQ _ h' s.toks (by simp [hi]) ⟨YL,st.2.mv λo e=>ZB.extBut _ _ QY e⟩ ZB
 done:=λs Q E st hE=>Fu hh st.1 st.2 (by simp) hE
def iN (K:PySem.W.Frag) (b:Bool) (l:Addr):It:=
 ⟨λi H=>∃xs x,Sq K b H l xs/\xs[i]? =some x,
  λi H v H'=>∃T x,v= .ref T/\H T=none/\H'=upd H T (.tup [.int i,x])/\∀xs,Sq K b H l xs->xs[i]? =some x,
  λi H=>∃xs,Sq K b H l xs/\xs.length<=i⟩
theorem fo {b:Bool} {h:Heap} {q l:Addr} {k:Nat} (x:La b h q l k):∃o,h.get? q=some o/\(o.cls= .type "list_iterator" \/o.cls= .type "tuple_iterator"):=by
 cases b with
 | true=>obtain ⟨o,a,c,_⟩:=x;exact ⟨o,a, .inl c⟩
 | false=>obtain ⟨o,a,c,_⟩:=x;exact ⟨o,a, .inr c⟩
theorem fy {b:Bool} {h:Heap} {l:Addr} {xs:Array Value} (x:JA b h l xs):∃o,h.get? l=some o/\(o.cls= .type "list" \/o.cls= .type "tuple"):=by
 cases b with
 | true=>obtain ⟨o,a,c,_⟩:=x;exact ⟨o,a, .inl c⟩
 | false=>obtain ⟨o,a,c,_⟩:=x;exact ⟨o,a, .inr c⟩
theorem cN {b:Bool} {h:Heap} {e it l:Addr} {k:Nat} {i:Int} {old:Value} {xs:Array Value} (x:JA b h l xs) (y:La b h it l k) (z:IsEnum h e it i old):l≠it/\l≠e:=by
 obtain ⟨o,a,c⟩:=fy x
 obtain ⟨o2,a2,c2⟩:=fo y
 refine ⟨λq=> ?_,λq=> ?_⟩
 ·subst q
  rw [a] at a2;cases a2
  rcases c with c|c <;> rcases c2 with c2|c2 <;> (rw [c] at c2;simp at c2)
 ·subst q
  rw [z] at a;cases a
  rcases c with c|c <;> simp at c
theorem WS {P:Program} {w:World} {K:PySem.W.Frag} {es:List Expr} {x1:Nat} {pos:Pos} {b:Bool} {e it l:Addr} (QY:e≠it):
 Js P w K (.Tuple es x1 pos) (iN K b l) [e,it] e (λk h=>(∃old,IsEnum h e it (k:Nat) old)/\La b h it l k) where
 mem:=by simp
 obj:=λk h st p hp=>by
  obtain ⟨⟨old,he⟩,hi⟩:=st
  have EN:p=e\/p=it:=by simpa using hp
  rcases EN with q|q
  ·subst q;exact ⟨_,he,λv z=>nomatch z⟩
  ·subst q;exact hi.obj
 keep:=λk h h' st kp=>by
  obtain ⟨⟨old,he⟩,hi⟩:=st
  exact ⟨⟨old,kp e (by simp) _ he⟩,hi.mv λo a=>kp it (by simp) o a⟩
 item:=by
  intro X hP hw hK hc k pins s σ H E I hf st hg
  subst hP hw hK
  obtain ⟨⟨old,he⟩,hi⟩:=st
  obtain ⟨xs,x,hq,hx⟩:=hg
  obtain ⟨its,rv,p,hz⟩:=I.sq hq
  obtain ⟨u,hu,ru⟩:=rv.get hx
  have elt:e<s.heap.objs.size:=Heap.lt_size he
  have ilt:it<s.heap.objs.size:=by obtain ⟨o,a,_⟩:=hi.obj;exact Heap.lt_size a
  obtain ⟨n1,n2⟩:=cN p hi he
  have kl:k<its.toArray.size:=by
   have:=(List.getElem?_eq_some_iff.mp hu).1
   simpa using this
  refine wpAny_pyNext_enum_itemD (Zz (prog:=X.prog) (w:=X.w) (A:=X.A.in1) (I.ok.hd hc) b it l n1 its.toArray) he ⟨hi,p⟩ kl QY (by simp only [List.mem_cons,List.not_mem_nil,or_false];rintro (z|z);exact QY z;exact n2 z.symm) λy h1 tk hy a1 a2 a3 a4 a5=> ?_
  have wc:y=u:=by
   have:its[k]? =some y:=by simpa using hy
   rw [hu] at this;exact (Option.some.inj this).symm
  subst wc
  refine ⟨_,rfl,wpAny_letOwnedTupleGo_enum (s:={s with heap:=h1,toks:=tk+1}) a1 λh2 c1 c2=> ?_⟩
  have c2':∀p o,p≠e->h1.get? p=some o->h2.get? p=some o:=λp o q z=>c2.extBut _ _ q z
  have nT:∀p∈ [e,it],p<s.heap.objs.size:=λp hp=>by
   have EN:p=e\/p=it:=by simpa using hp
   rcases EN with q|q
   ·rw [q];exact elt
   ·rw [q];exact ilt
  have kp:∀p o,p ∉ [e,it] ->s.heap.get? p=some o->h2.get? p=some o:=λp o hp z=>by
   have EN:p≠e/\p≠it:=by simpa using hp
   exact c2' p o EN.1 (a5 p o EN.1 EN.2 z)
  have I2:Inv X pins σ (upd H s.heap.objs.size (.tup [.int k,x])) {s with heap:=h2,toks:=tk+1}:=I.turnedN hf nT kp (Nat.le_refl _)
   ⟨(by show 2<=sizeLine;decide), [.int k tk,y], .cons ⟨_,rfl⟩ (.cons ru .nil),⟨_,c2' _ _ (Nat.ne_of_gt elt) a3,rfl,_,rfl⟩⟩
  have UI:H s.heap.objs.size=none:=I.fresh
  refine ⟨.ref s.heap.objs.size,upd H s.heap.objs.size (.tup [.int k,x]),I2,rfl,⟨_,x,rfl,UI,rfl,λxs' h'=> ?_⟩,⟨⟨y, ?_⟩, ?_⟩,λp hp=> ?_⟩
  ·rw [I.sq_inj h' hq];exact hx
  ·have:((k+1:Nat):Int)=(k:Int)+1:=by push_cast;rfl
   rw [this];exact c1
  ·exact a2.1.mv λo z=>c2' it o QY.symm z
  ·rw [Ah (Nat.ne_of_lt (nT p hp))]
   exact (hf p hp).1
 done:=by
  intro X hP hw hK hc k pins s σ H E I hf st hg
  subst hP hw hK
  obtain ⟨⟨old,he⟩,hi⟩:=st
  obtain ⟨xs,hq,hx⟩:=hg
  obtain ⟨its,rv,p,hz⟩:=I.sq hq
  have hl:=rv.length
  have sz:its.toArray.size<=k:=by simp;omega
  obtain ⟨n1,n2⟩:=cN p hi he
  refine wpAny_pyNext_enum_endD (n:=k) (P:=λ_ _=>True) (St:=λi h=>i=k/\La b h it l k/\JA b h l its.toArray) (fp:= [it,l]) ⟨λ_ _ st=>let ⟨o,ho,_⟩:=st.2.1.obj;⟨o,ho⟩,λ_ _ _ st hk=>⟨st.1,st.2.1.mv λo e=>hk it (by simp) o e,st.2.2.mv λo e=>hk l (by simp) o e⟩,λi s Q E hi st hQ=>absurd hi (by rw [st.1];omega),λs Q E st hE=>Fu (A:=X.A.in1) (I.ok.hd hc) st.2.1 st.2.2 (by simp;simpa using sz) hE⟩ he ⟨rfl,hi,p⟩ λh' eb=>⟨rfl, ?_⟩
  exact I.turnedL (t':=s.toks) hf λp o hp z=>by
   have EN:p≠e/\p≠it:=by simpa using hp
   exact eb p o EN.2 z
 self:=λ_ _ _ _ _ st h=>by
  obtain ⟨⟨old,he⟩,_⟩:=st
  exact wpAny_pyIter_enum he h
theorem JJ (b:Bool) (l:Addr) (items:Array Value):
 Meets (Builtin.«enumerate.__new__» ⟨[.type "enumerate", .ref l], []⟩) (λ_ R s=>JA b s.heap l items/\
  R (.ok (.ret (.ref (s.heap.push (S7 b l)).objs.size)))
    {s with heap:=(s.heap.push (S7 b l)).push {cls:= .type "enumerate",data:= .fields #[.none, .bool false, .ref s.heap.objs.size,rawInt 0, .none, .none] }}):=
 .of_wp λprog w A R s h=>by
   obtain ⟨hp,g,d,tk,os⟩:=s;obtain ⟨hl,h⟩:=h
   have mT:=sub_enumerate
   have gh:JA b hp l items:=hl
   wp_walk using JH gh
   refine wpAny_stack_any λst=>wpAny_pure ?_
   split
   ·rename_i c _ _ _ _ _
    cases (c==Value.type "enumerate")
    ·wp_walk using JH gh
     exact ⟨_,rfl,h⟩
    ·wp_walk using JH gh
     exact ⟨_,rfl,h⟩
   ·wp_walk using JH gh
    exact ⟨_,rfl,h⟩
section
variable {prog:Program} {w:World} {A:Around} {E:Value->Shared->Prop} {s:Shared}
theorem Jx {b:Bool} {l:Addr} {items:Array Value} {Q:Value->Shared->Prop} (hL:JA b s.heap l items)
 (h:∀h',IsEnum h' (s.heap.objs.size+1) s.heap.objs.size 0 .none->La b h' s.heap.objs.size l 0->h'.objs.size=s.heap.objs.size+2->
   (∀b o,s.heap.get? b=some o->h'.get? b=some o)->Q (.ref (s.heap.objs.size+1)) {s with heap:=h'}):
 wpAny (model prog w) A (call (.type "enumerate") [.ref l]) Q E s:=by
 refine callType_new F.called_enumerate (by decide) (F.typeCall_enumerate_1 _) (F.newCall_enumerate_1 _) (λobj=>F.args_object_init_2 obj _) F.entry_enumerate_new
  (JJ b l items) ⟨hL, ?_⟩
 have hz:(s.heap.push (S7 b l)).objs.size=s.heap.objs.size+1:=Heap.size_push ..
 show _/\_
 rw [hz]
 have he:IsEnum ((s.heap.push (S7 b l)).push
  {cls:= .type "enumerate",data:= .fields #[.none, .bool false, .ref s.heap.objs.size,rawInt 0, .none, .none] }) (s.heap.objs.size+1) s.heap.objs.size 0 .none:=by
  have:=Heap.get?_push_size (s.heap.push (S7 b l))
   (o:={cls:= .type "enumerate",data:= .fields #[.none, .bool false, .ref s.heap.objs.size,rawInt 0, .none, .none] }) rfl
  rw [hz] at this;exact this
 exact ⟨⟨_,he,rfl⟩,h _ he (XB (Heap.get?_push_of_some _ (Heap.get?_push_size _ rfl))) (by rw [Heap.size_push,hz]) λb o x=>Heap.get?_push_of_some _ (Heap.get?_push_of_some _ x)⟩
end
section
variable {X:Cx}
def jI (K:PySem.W.Frag) (ta:TA):TI:=λσ H R=>ta σ H λvs H1=>∃b l,vs= [.ref l] /\(∃xs,Sq K b H1 l xs)/\R (iN K b l) H1
theorem bH {e:Expr} {ta:TA} {p pos tpos:Pos} {es:List Expr} {x1:Nat} (hg:Gl X "enumerate") (hm:X.mg "enumerate" =none) (ha:PA X [e] ta) (hs:starEach [e] X.env= [(false,eval e X.env)] :=by rfl):
 PI X (.Tuple es x1 tpos) (.Call (.Name "enumerate" p) [e] [] pos) (jI X.K ta):=by
 intro pins s σ H R I h
 refine Call_ (GL I hg hm boot_enumerate (PyProof.Rows.callWith_type1 (Bg (ha pos pins s σ H _ I h) λus s1 ⟨vs,H1,I1,r1,q1⟩=> ?_) (by rw [hs];rfl) rfl))
 obtain ⟨b,l,rfl,⟨xs,hl⟩,q⟩:=q1
 cases r1 with
 | cons r rr=>
 cases rr
 cases r
 obtain ⟨its,rv,p,hz⟩:=I1.sq hl
 refine Jx p λh' b1 b2 b3 b4=> ?_
 refine wpAny_pyIter_enum b1 ?_
 have mN:∀p∈ [s1.heap.objs.size+1,s1.heap.objs.size],s1.heap.objs.size<=p:=λp hp=>by
  have EN:p=s1.heap.objs.size+1\/p=s1.heap.objs.size:=by simpa using hp
  omega
 exact ⟨_,_,_,_,H1,rfl,I1.kept (t':=s1.toks) b4,WS (Nat.succ_ne_self _),⟨⟨.none,b1⟩,b2⟩,λp hp=>I1.fpOk (mN p hp) (I1.hok.fresh (mN p hp)),q⟩
end
end L2
end
section
namespace PL
open PySem PySem.Spec PyProof.Rows L2
theorem Vm {K:PySem.W.Frag} {T M:Addr->Prop} {H:Hp} {l:Addr} {x:PV} {xs:List PV} (va:G0 T M H) (hx:x= .tup xs\/x= .lst xs) (r:CT K T M H (.ref l) x):Tj K M (iN K (ia x) l) (FA 0 xs) T H:=by
 obtain ⟨_,vs,e,hq,rs⟩:=Qt hx r
 cases e
 refine ⟨λi z h=> ?_,λi z v H' h yl=> ?_,λi h=>⟨vs,hq, ?_⟩⟩
 ·obtain ⟨x,hx,_⟩:=Li xs 0 i z h
  obtain ⟨u,hu,_⟩:=rs.get hx
  exact ⟨vs,u,hq,hu⟩
 ·obtain ⟨x,hx,rfl⟩:=Li xs 0 i z h
  obtain ⟨p,u,rfl,hn,rfl,hu⟩:=yl
  obtain ⟨x',gk,rx⟩:=rs.get' (hu vs hq)
  rw [hx] at gk;cases gk
  have st:=Dm.lay (o:= .tup [.int (i:Nat),u]) va.tp hn
  rw [Nat.zero_add]
  exact ⟨st, .tup (.inl Aj) (.cons (.int _) (.cons (rx.stp st va) .nil))⟩
 ·rw [rs.length]
  rw [QX] at h
  exact h
section
variable {X:Cx}
def iY (r:AA):AI:=λτ Q=>r τ λls=>match ls with | [x] =>S9 x λxs=>Q (FA 0 xs)|_=>False
theorem n5 {e:Expr} {r:AA} {p pos tpos:Pos} {es:List Expr} {x1:Nat} (hg:Gl X "enumerate") (hm:X.mg "enumerate" =none) (ha:SA X [e] r) (hs:starEach [e] X.env= [(false,eval e X.env)] :=by rfl):
 SI X (.Tuple es x1 tpos) (.Call (.Name "enumerate" p) [e] [] pos) true (iY r):=by
 obtain ⟨t,pa,s⟩:=ha
 refine ⟨_,bH hg hm pa hs,λB T σ τ H R AQ sr h k=>s B T σ τ H _ _ sr h λvs xs T1 H1 s1 r1 h1=> ?_⟩
 split at h1 <;> first | exact h1.elim|skip
 rename_i x
 obtain ⟨xs,hx,h2⟩:=JM h1
 cases r1 with
 | cons ra t=>
   cases t
   obtain ⟨l,us,rfl,hq,rs⟩:=Qt hx ra
   exact ⟨ia x,l,rfl,⟨us,hq⟩,k _ _ T1 H1 s1 (λM2 T2 H2 mv va _=>Vm va hx (ra.mv mv)) h2⟩
end
instance uF {r:AA} {τ:BE} {QL:List PV->Prop}:Wp (iY r τ QL) (r τ λls=>match ls with | [x] =>S9 x λxs=>QL (FA 0 xs)|_=>False):=⟨id⟩
end PL
end
section
namespace PL
open PySem PySem.Spec PyProof.Rows L2
section
variable {X:Cx} {a b c d e:Expr} {ta tb tc td:AE} {pos:Pos}
theorem Bw (ha:SE X a ta) (h:starEach [a] X.env=(false,eval a X.env)::starEach [] X.env:=by rfl):SA X [a] (AB ta AL):=Bo ha EA h
theorem Al (ha:SE X a ta) (hb:SE X b tb) (h:starEach [a,b] X.env=(false,eval a X.env)::starEach [b] X.env:=by rfl) (h2:starEach [b] X.env=(false,eval b X.env)::starEach [] X.env:=by rfl):SA X [a,b] (AB ta (AB tb AL)):=Bo ha (Bw hb h2) h
theorem Ep (ha:SE X a ta) (hb:SE X b tb) (hc:SE X c tc) (h:starEach [a,b,c] X.env=(false,eval a X.env)::starEach [b,c] X.env:=by rfl) (h2:starEach [b,c] X.env=(false,eval b X.env)::starEach [c] X.env:=by rfl) (h3:starEach [c] X.env=(false,eval c X.env)::starEach [] X.env:=by rfl):SA X [a,b,c] (AB ta (AB tb (AB tc AL))):=Bo ha (Al hb hc h2 h3) h
theorem AW (ha:SE X a ta) (hb:SE X b tb) (hs:RM b:=by exact λ_ _=>rfl):SE X (.Subscript a b pos) (AX Ak ta tb):=nz n9 ha hb hs
theorem F6 {op:CmpOp} {r:R2} {f:JW} (ho:Eo X (compareOp op) r/\CZ X.K r f) (ha:SE X a ta) (hb:SE X b tb) (hm:behindInMarks op b=false:=by exact Cf _):S5 X (.Compare a [op] [b] pos) (A5 (AX f ta tb)):=kN ho ha hb hm
theorem C0 (i:Nat) {x:Str} {pos':Pos} (hN:X.N.Nodup) (he:SE X e ta) (hi:X.N[i]? =some x:=by rfl) (hx:Loc X.env.scope x:=by exact Or.inl rfl) (hs:swapsWith e (some (.Name x pos')) pos.line X.env=pure false:=by rfl) (hf:X.fn x=true\/X.env.scope.names.lookup x=some .local:=by first | exact .inl rfl|exact .inr rfl|assumption):
 SS X (.Assign [.Name x pos'] e pos) (Ao ta (Au i)):=Ha hN hi hx he hs hf
theorem G2 (i:Nat) {x:Str} (hN:X.N.Nodup) (hi:X.N[i]? =some x:=by rfl) (hx:Loc X.env.scope x:=by exact Or.inl rfl) (hf:X.fn x=true\/X.env.scope.names.lookup x=some .local:=by first | exact .inl rfl|exact .inr rfl|assumption):SG X (.Name x pos) (Au i):=GX hN hi hx hf
theorem PF (i:Nat) {own:Nat} {x:Str} (hN:X.N.Nodup) (hi:X.N[i]? =some x:=by rfl) (hx:Loc X.env.scope x:=by exact Or.inl rfl) (hk:i<own:=by decide) (hf:X.fn x=true\/X.env.scope.names.lookup x=some .local:=by first | exact .inl rfl|exact .inr rfl|assumption):SK own X (.Name x pos) (Au i):=Xb hN hi hx hk hf
end
theorem Bc {P:Program} {w:World} {K:PySem.W.Frag} {mg:Str->Option Value} {base:Heap} {k k':Nat} {x:Str} {ps:List Str} {sp:Sp} (H:Has P w K mg base k x ps sp) (h:k<=k':=by decide):Has P w K mg base k' x ps sp:=H.mono h
end PL
end
open PySem L2 PL PyProof.Rows
local macro_rules | `(tactic| decreasing_trivial_pre_omega)=> `(tactic| first | assumption|omega|((apply Bd.mono);(focus (repeat' (first | assumption|exact EK.m (by assumption)|exact EK.x (by assumption)|exact EK.y (by assumption)|exact EK.z (by assumption)|exact Y7|exact gY|with_reducible apply Bd.add|with_reducible apply Bd.sub|with_reducible apply Bd.mul|with_reducible apply Bd.neg|with_reducible apply Bd.mx|with_reducible apply Bd.mn)));first | omega|decide)|decide|(simp only [List.length_map,List.length_append,List.length_cons,List.length_nil,List.length_take,List.length_drop,List.length_zip,List.length_reverse];omega)|(show _<=16777216;simp only [List.length_map,List.length_append,List.length_cons,List.length_nil,List.length_take,List.length_drop,List.length_zip,List.length_reverse];omega)|(show _<16777216;simp only [List.length_map,List.length_append,List.length_cons,List.length_nil,List.length_take,List.length_drop,List.length_zip,List.length_reverse];omega)|(refine And.intro ?_ ?_ <;> decreasing_trivial_pre_omega)|exact rfl)
local macro_rules | `(tactic| array_mem_dec)=> `(tactic| first
 | refine Wp.go ?_
 | ((refine O7.go ?_ ?_);focus (first | exact True.intro|decreasing_trivial_pre_omega))
 | ((with_reducible apply And.intro);focus decreasing_trivial_pre_omega)
 | ((with_reducible apply s_ifdT);focus decide)
 | ((with_reducible apply s_ifdF);focus decide)
 | ((with_reducible apply s_ifnT);focus decide)
 | ((with_reducible apply s_ifnF);focus decide)
 | refine pV.go (λ_=> ?_) (λ_=> ?_)
 | ((with_reducible apply kC);focus assumption)
 | ((with_reducible apply hJ);focus exact rfl)
 | ((with_reducible apply nr);(focus (first | exact .inl rfl|exact .inr (.inl rfl)|exact .inr (.inr (.inl rfl))|exact .inr (.inr (.inr rfl))));(focus exact rfl))
 | ((with_reducible apply nh);focus exact rfl)
 | ((with_reducible apply ng);focus exact rfl)
 | intro _
 | with_reducible rfl)
local macro_rules | `(tactic| array_get_dec)=> `(tactic| first | array_mem_dec|refine gU.go ?_|fail)
local macro_rules | `(tactic| ac_rfl)=> `(tactic| repeat' array_mem_dec)
section
namespace PL
open PySem L2 PyProof.Rows
theorem Cu.open {n B:Nat} {cs:List C4} (p:Cu n B cs):∃a r l,cs=a::r/\r≠ [] /\(a::r).getLast?=some l/\a.1<l.1:=by
 obtain ⟨two,few,bd,ris⟩:=p
 match cs,two,ris with
 | a::b0::r,_,ris=>exact ⟨a,b0::r,_,rfl,by simp,List.getLast?_eq_some_getLast (by simp),(List.pairwise_cons.mp ris).1 _ (List.mem_of_getLast? (YR (List.getLast?_eq_some_getLast (by simp))))⟩
abbrev QF:AS:=
 (Ar (gW (A5 (AX M6 (aV 1) (aC (.int 2)))) (AX Ak (aV 0) (aC (.int 1))) (AX Ak (aV 0) (aC (.int 0)))))
def En:AF:=A0 2 QF
theorem Ul {x0 x1:PV} {Q:PV->Prop} (h:QF ⟨λ_=>Q .non,Q,λ_=>False,λ_=>False⟩ [some (.val x0),some (.val x1)]):En [x0,x1] Q:=h
def iI (b:T3) (v:PV):Prop:=v=lE b\/v= .lst [fr b.1,fr b.2.1,fr b.2.2]
def lY (cs:List C4) (b:T3) (v:PV):Prop:=∃p w,Ci cs p/\iI b w/\(v= .tup [p,w] \/v= .lst [p,w])
def cv (d:Rat×Rat) (v:PV):Prop:=v= .tup [fr d.1,fr d.2] \/v= .lst [fr d.1,fr d.2]
theorem tY {a:C4} {r:List C4} {v:PV} {R:PV->Prop} (hv:Ci (a::r) v) (h:∀x,(x=cor a\/x=corL a)->R x):Ak v (.int 0) R:=by
 obtain ⟨f,hf,hv⟩:=hv
 have hx:f a=cor a\/f a=corL a:=by rcases hf with rfl|rfl <;> simp
 rcases hv with rfl|rfl
 ·show ZE (Hk (f a::r.map f) 0) R
  rw [show Hk (f a::r.map f) 0=some (f a) from Cj (j:=0) rfl]
  exact h _ hx
 ·show ZE (Hk (f a::r.map f) 0) R
  rw [show Hk (f a::r.map f) 0=some (f a) from Cj (j:=0) rfl]
  exact h _ hx
theorem tZ {cs:List C4} {l:C4} {v:PV} {R:PV->Prop} (hv:Ci cs v) (el:cs.getLast?=some l) (h:∀x,(x=cor l\/x=corL l)->R x):Ak v (.int (-1)) R:=by
 obtain ⟨f,hf,hv⟩:=hv
 have hx:f l=cor l\/f l=corL l:=by rcases hf with rfl|rfl <;> simp
 rcases hv with rfl|rfl
 ·exact J1 el (h _ hx)
 ·exact J1 el (h _ hx)
theorem c0 {x:PV} {c:C4} {R:PV->Prop} (hx:x=cor c\/x=corL c) (h:R (fr c.1)):Ak x (.int 0) R:=by
 rcases hx with rfl|rfl <;> exact h
theorem f0 {cs:List C4} {b:T3} {v:PV} {R:PV->Prop} (hv:lY cs b v) (h:∀p,Ci cs p->R p):Ak v (.int 0) R:=by
 obtain ⟨p,w,hp,hw,hv⟩:=hv
 rcases hv with rfl|rfl <;> exact h p hp
theorem f1 {cs:List C4} {b:T3} {v:PV} {R:PV->Prop} (hv:lY cs b v) (h:∀w,iI b w->R w):Ak v (.int 1) R:=by
 obtain ⟨p,w,hp,hw,hv⟩:=hv
 rcases hv with rfl|rfl <;> exact h w hw
theorem b2 {b:T3} {w:PV} {R:PV->Prop} (hw:iI b w) (h:R (fr b.2.2)):Ak w (.int 2) R:=by
 rcases hw with rfl|rfl <;> exact h
theorem mr {k n:Nat} (h:k<=n) (hn:n<1000000):k<sizeLine:=Nat.lt_of_le_of_lt h (Nat.lt_of_lt_of_le hn (Nat.le_of_ble_eq_true rfl))
theorem fq {w:PV} {x y:Rat} {k:Int} (h0:∀{R:PV->Prop},R (fr x)->Ak w (.int 0) R) (h1:∀{R:PV->Prop},R (fr y)->Ak w (.int 1) R) {Q:PV->Prop} (q:Q (fr (if k=2 then y else x))):En [w, .int k] Q:=by
 apply Ul
 ac_rfl
 ·rename_i h
  rw [if_pos h] at q
  exact h1 q
 ·rename_i h
  rw [if_neg h] at q
  exact h0 q
theorem N3 {d:Rat×Rat} {w:PV} {k:Int} (hw:cv d w) {Q:PV->Prop} (q:Q (fr (if k=2 then d.2 else d.1))):En [w, .int k] Q:=
 fq (λh=>by rcases hw with rfl|rfl <;> exact h) (λh=>by rcases hw with rfl|rfl <;> exact h) q
def jY (x y z:Rat):Bool:=decide (x-y<z)&&decide (-(x-y)<z)
theorem iX (r:Rat):PV.tup [.int (r.num.natAbs:Int), .int r.den] =fr (if r<0 then -r else r):=by
 unfold fr
 by_cases h:r<0
 ·rw [if_pos h,Rat.neg_num,Rat.neg_den]
  have:¬0<=r.num:=λz=>by have:=Rat.num_nonneg.mp z;grind
  rw [show ((r.num.natAbs:Nat):Int)= -r.num by omega]
 ·rw [if_neg h]
  have:0<=r.num:=Rat.num_nonneg.mpr (by grind)
  rw [show ((r.num.natAbs:Nat):Int)=r.num by omega]
def G6:AS:=
 (Ab (Bz (A5 (AX il (aV 5) (aC (.int 3)))) (Ao (FZ (DF (AB (AN 1 A9 (AB (aV 0) AL)) (AB (AN 1 A9 (AB (aV 0) AL)) (AB (AN 1 A9 (AB (aV 0) AL)) AL))))) (Au 3)) (Bz (A5 (AX il (aV 5) (aC (.int 0)))) (Ao (AX BJ (AX BJ (We (aV 3) Wg (Wh (AX G1 (aV 5) (aC (.int 1))))) (FZ (DF (AB (AN 1 A9 (AB (aV 0) AL)) AL)))) (We (aV 3) (Wh (aV 5)) Wg)) (Au 3)) BM))
   (EY 4 KD (AB (A3 (AB (aV 2) (AB (AX Ak (aV 3) (aC (.int 0))) (AB (AX Ak (aV 3) (aC (.int 1))) (AB (AX Ak (aV 3) (aC (.int 2))) AL))))) AL)))
def G5:AS:=
 (Ab (Ao (AN 2 BU (AB (aV 0) (AB (aC (.int 6)) AL))) (Au 5))
   G6)
def JZ:AS:=
 (Ab (Ao (AN 2 Bq (AB (aV 2) (AB (AN 1 CI (AB (aV 0) AL)) AL))) (Au 2))
   G5)
def Jd:AS:=
 (Ab (Lb (A5 (AX Y8 (EX Fc (AB (aV 4) AL)) (aV 1))) JZ)
   (Ar (EX Dt (AB (aV 4) AL))))
def Jc:AS:=
 (Ab (JB (DF (AB (A3 (AB (aV 2) (AB (AX Ak (aV 3) (aC (.int 0))) (AB (AX Ak (aV 3) (aC (.int 1))) (AB (AX Ak (aV 3) (aC (.int 2))) AL))))) AL)) 4)
   Jd)
def Jb:AS:=
 (Ab (Ao (FZ (DF (AB (AN 1 A9 (AB (aV 0) AL)) (AB (AN 1 A9 (AB (aV 0) AL)) (AB (AN 1 A9 (AB (aV 0) AL)) AL))))) (Au 3))
   Jc)
def E9:AS:=
 (Ab (Ao (A3 (AB (AN 2 BU (AB (aV 0) (AB (aC (.int 12)) AL))) (AB (aC (.int 1)) AL))) (Au 2))
   Jb)
def Ja:AS:=
 (Ab (Bz (A5 (AX M6 (AN 2 BU (AB (aV 0) (AB (aC (.int 8)) AL))) (aC (.int 0)))) (Ao (AX Ak (FZ (DF (AB (aC (.int 7)) (AB (aC (.int 8)) (AB (aC (.int 9)) (AB (aC (.int 12)) AL)))))) (AN 2 BU (AB (aV 0) (AB (aC (.int 4)) AL)))) (Au 1)) BM)
   E9)
def Nb:AS:=
 (Ab (Ao (AX BJ (aC (.int 2)) (AN 2 BU (AB (aV 0) (AB (aC (.int 4)) AL)))) (Au 1))
   Ja)
def Bx:AF:=A0 6 Nb
theorem Fv (many:Int) (z2 z3 z5:Option AV) (z4:Option AV) (h0:2<=many) (h1:many<=12) {Q:PV->Prop} (h:∀cs,Jn 12 6 600 cs->Q (Ag cs)):
 E9 {nx:=λ_=>Q .non,rt:=Q,bk:=λ_=>False,ct:=λ_=>False} [some (.val .tape),some (.val (.int many)),z2,z3,z4,z5] :=by
 refine ⟨rfl,C6 (by decide) (by decide) λm m0 m1=>⟨lz, ?_⟩⟩
 refine ⟨rfl,BD λx hx=>⟨rfl,BD λy hy=>⟨rfl,BD λz hz=>⟨lz, ?_⟩⟩⟩⟩
 refine ⟨lz,lz, ?_⟩
 refine ⟨(many-1).toNat+1,WW (λn τ=>∃(cs:List C4) (c:C4) (z5:Option AV),n+(cs.length+1)=many.toNat+1/\1<=n/\(∀d∈cs ++ [c],Nn 6 (66+48*cs.length) d)/\(Mul 6 60 c.2.1/\Mul 6 60 c.2.2.1/\Mul 6 60 c.2.2.2)/\Hi (cs ++ [c])/\
  τ= [some (.val .tape),some (.val (.int many)),some (.val (fr c.1)),some (.val (.lst [fr c.2.1,fr c.2.2.1,fr c.2.2.2])),some (.own ((cs ++ [c]).map cor)),z5]) ?_ ?_ _ _ ⟨[],((m:Rat),x,y,z),z5, ?_, ?_, ?_, ?_, ?_, ?_⟩⟩
 ·rintro τ ⟨cs,c,z5,_,hn,_⟩
  omega
 ·rintro n τ R hR ⟨cs,c,z5,hn,di,hb,h8,hr,rfl⟩
  have DH:(((cs ++ [c]).map cor).length:Int)=(cs.length:Int)+1:=by simp
  refine E8 (b:=decide ((((cs ++ [c]).map cor).length:Int)<many)) (λz=> ?_) (λz=> ?_)
  ·have z':(((cs ++ [c]).map cor).length:Int)<many:=of_decide_eq_true z
   rw [DH] at z'
   have cb:=hb c (by simp)
   refine ⟨rfl,Go λs sb s0 sm=>⟨rfl,DL ((cb.m.bd (n:=12) (by omega) (by decide)).mono (by omega)) (sb.mono (by omega)) ?_⟩⟩
   refine ⟨rfl,C6 (by decide) (by decide) λw w0 w1=> ?_⟩
   have fin:∀(D':G3) (x y z:Rat) (z5:Option AV),D'.nx=R->Mul 6 60 x->Mul 6 60 y->Mul 6 60 z->EY 4 KD (AB (A3 (AB (aV 2) (AB (AX Ak (aV 3) (aC (.int 0))) (AB (AX Ak (aV 3) (aC (.int 1))) (AB (AX Ak (aV 3) (aC (.int 2))) AL))))) AL)
    D' [some (.val .tape),some (.val (.int many)),some (.val (fr (c.1+s))),some (.val (.lst [fr x,fr y,fr z])),some (.own ((cs ++ [c]).map cor)),z5] :=by
    intro D' x y z z5 eD bx by' bz
    refine ⟨lz, ?_, ?_⟩
    ·show _<16777216;omega
    ·rw [eD]
     have mb:Mul 6 (66+48*(cs.length+1)) (c.1+s):=(cb.m.add sm).mono (by omega)
     refine hR _ ⟨cs ++ [c],(c.1+s,x,y,z),z5,by simp;omega,by omega, ?_,⟨bx,by',bz⟩,bX hr ?_, ?_⟩
     ·intro d hd
      rcases List.mem_append.mp hd with hd|hd
      ·exact (hb d hd).mono (by simp;omega)
      ·simp at hd;subst hd
       have e:(cs ++ [c]).length=cs.length+1:=by simp
       rw [e]
       exact ⟨mb,bx.mono (by omega),by'.mono (by omega),bz.mono (by omega)⟩
     ·show c.1<c.1+s;grind
     ·rw [List.map_append (l₁:=cs ++ [c])];rfl
   refine E8 (b:=decide (3<w)) (λ_=> ?_) (λz3=> ?_)
   ·exact ⟨rfl,BD λx hx=>⟨rfl,BD λy hy=>⟨rfl,BD λz hz=>⟨lz,fin _ x y z _ rfl hx hy hz⟩⟩⟩⟩
   refine E8 (b:=decide (0<w)) (λz4=> ?_) (λz4=> ?_)
   ·have a3:¬3<w:=of_decide_eq_false z3
    have a4:0<w:=of_decide_eq_true z4
    have hw:w=1\/w=2\/w=3:=by omega
    rcases hw with rfl|rfl|rfl
    ·exact Ek ⟨rfl,BD λp hp=>⟨lz,lz,Ek ⟨lz,fin _ p _ _ _ rfl hp h8.2.1 h8.2.2⟩⟩⟩
    ·exact Ek ⟨rfl,BD λp hp=>⟨lz,lz,Ek ⟨lz,fin _ _ p _ _ rfl h8.1 hp h8.2.2⟩⟩⟩
    ·exact Ek ⟨rfl,BD λp hp=>⟨lz,lz,Ek ⟨lz,fin _ _ _ p _ rfl h8.1 h8.2.1 hp⟩⟩⟩
   ·exact fin _ _ _ _ _ rfl h8.1 h8.2.1 h8.2.2
  ·have z':¬(((cs ++ [c]).map cor).length:Int)<many:=of_decide_eq_false z
   rw [DH] at z'
   refine h (cs ++ [c]) ⟨by simp;omega,by simp;omega,λd hd=>(hb d hd).mono (by omega),hr⟩
 ·simp;omega
 ·omega
 ·intro d hd
  simp at hd;subst hd
  exact ⟨.int (by decide) (by simp;omega),hx.mono (by decide),hy.mono (by decide),hz.mono (by decide)⟩
 ·exact ⟨hx,hy,hz⟩
 ·exact List.pairwise_singleton _ _
 ·simp only [cor,Z1,List.nil_append,List.map_cons,List.map_nil]
  rfl
theorem Hs {Q:PV->Prop} (h:∀cs,Jn 12 6 600 cs->Q (Ag cs)):Bx [.tape] Q:=by
 refine ⟨rfl,C6 (by decide) (by decide) λa a0 a1=>⟨rfl,C6 (by decide) (by decide) λb b0 b1=> ?_⟩⟩
 refine E8 (b:=decide (b=0)) (λ_=> ?_) (λ_=> ?_)
 ·refine ⟨lz,rfl,C6 (by decide) (by decide) λc c0 c1=> ?_⟩
  have hc:c=0\/c=1\/c=2\/c=3:=by omega
  rcases hc with rfl|rfl|rfl|rfl
  ·exact Fv 7 _ _ _ _ (by omega) (by omega) h
  ·exact Fv 8 _ _ _ _ (by omega) (by omega) h
  ·exact Fv 9 _ _ _ _ (by omega) (by omega) h
  ·exact Fv 12 _ _ _ _ (by omega) (by omega) h
 ·exact Fv (2+a) _ _ _ _ (by omega) (by omega) h
abbrev Gg:AS:=
 (Ar (EX Dt (AB (FZ (Cv (O8 (aV 0)) 1 [1,2] (Au 0) E7 (AX BJ (A3 (AB (AN 2 Bq (AB (AX Ak (aV 0) (aC (.int 0))) (AB (aV 1) AL))) AL)) (EX Dt (AB (FZ (Cv (Pd (AB (aC (.int 3)) AL)) 1 [0,2] (Au 0) E7 (AN 2 Bq (AB (AX Ak (aV 1) (AX BJ (aV 0) (aC (.int 1)))) (AB (AX Ak (aV 2) (aV 0)) AL))))) AL))))) AL)))
def BC:AF:=A0 3 Gg
theorem FJ {x0 x1 x2:PV} {Q:PV->Prop} (h:Gg ⟨λ_=>Q .non,Q,λ_=>False,λ_=>False⟩ [some (.val x0),some (.val x1),some (.val x2)]):BC [x0,x1,x2] Q:=h
abbrev JX:AS:=
 (Ab (Ao (FZ (DF (AB (A3 (AB (aC (.int 1)) (AB (aC (.int 1)) AL))) (AB (A3 (AB (aC (.int 2)) (AB (aC (.int 1)) AL))) (AB (A3 (AB (aC (.int 3)) (AB (aC (.int 2)) AL))) (AB (A3 (AB (aC (.int 1)) (AB (aC (.int 3)) AL))) (AB (A3 (AB (aC (.int 5)) (AB (aC (.int 1)) AL))) AL))))))) (Au 1))
   (Ar (A3 (AB (AX Ak (aV 1) (AN 2 BU (AB (aV 0) (AB (aC (.int 5)) AL)))) (AB (AX Ak (aV 1) (AN 2 BU (AB (aV 0) (AB (aC (.int 5)) AL)))) AL)))))
def C5:AF:=A0 2 JX
theorem Oa {x0:PV} {Q:PV->Prop} (h:JX ⟨λ_=>Q .non,Q,λ_=>False,λ_=>False⟩ [some (.val x0),none]):C5 [x0] Q:=h
theorem eH {xs:List PV} {k:Int} {R:PV->Prop} (h0:0<=k) (h1:k<xs.length) (h:∀x∈xs,R x):Ak (.lst xs) (.int k) R:=by
 show ZE (Hk xs k) R
 have hk:xs[k.toNat]? =some (xs[k.toNat]'(by omega)):=List.getElem?_eq_getElem (by omega)
 have e:=Cj hk
 rw [show ((k.toNat:Nat):Int)=k by omega] at e
 rw [e]
 exact h _ (List.getElem_mem _)
theorem JI {xs:List Rat} {k:Int} {R:PV->Prop} (h0:0<=k) (h1:k<xs.length) (h:∀x∈xs,R (fr x)):Ak (.lst (xs.map fr)) (.int k) R:=by
 refine eH h0 (by simpa using h1) λx hx=> ?_
 obtain ⟨y,hy,rfl⟩:=List.mem_map.mp hx
 exact h y hy
theorem tz {r:Rat} (h:r.num.natAbs<2^8:=by decide +kernel) (h2:r.den<2^8:=by decide +kernel):Bd 8 r:=⟨h,h2⟩
abbrev C9 (t:Rat) (o:T3) (c:C4):C4:=(c.1+t,c.2.1+o.1,c.2.2.1+o.2.1,c.2.2.2+o.2.2)
theorem GM {cs:List C4} {t:Rat} {o:T3} {v:PV} {B m:Nat} (hv:v= .lst [fr o.1,fr o.2.1,fr o.2.2]) (hl:cs.length<=100) (hc:∀c∈cs,EK B c) (bt:Bd m t) (bo:EW m o) (hB:B<=4000) (hm:m<=4000) {Q:PV->Prop} (q:Q (Ag (cs.map (C9 t o)))):BC [Ag cs,fr t,v] Q:=by
 subst hv
 have bx:=bo.x
 have by':=bo.y
 have bz:=bo.z
 apply FJ
 ac_rfl
 refine Ea cor cor (C9 t o) (EK B) (λc bc R hR=> ?_) cs [] hc ?_
 ·ac_rfl
  rw [show rng 0 (Int.toNat 3)= [.int 0, .int 1, .int 2] from rfl]
  repeat' array_get_dec
  rw [show (0:Int)+1=1 from rfl]
  repeat' array_get_dec
  rw [show (1:Int)+1=2 from rfl]
  repeat' array_get_dec
  rw [show (2:Int)+1=3 from rfl]
  repeat' array_get_dec
  exact hR
 ac_rfl
 exact q
instance uI {ta tb:AE} {τ:BE} {QL:List PV->Prop}:Wp (iZ ta tb τ QL) (ta τ λx=>tb τ λy=>match x,y with | .tup xs, .tup ys=>xs.length=ys.length/\QL (ES xs ys.reverse)|_,_=>False):=⟨id⟩
section
variable {τ:BE}
instance pD {i:Nat} {ti ta:AE} {nx bk ct:BE->Prop} {rt:PV->Prop}:Wp (VH i ti ta ⟨nx,rt,bk,ct⟩ τ) (ta τ λy=>Ml i τ λxs=>ti τ λk=>ao k λk=>ap (PB xs.length k) λj=>P8 τ i (.own (xs.set j y)) nx):=⟨id⟩
instance pC {i:Nat} {xs:List PV} {P:List PV->Prop} [h:gR τ i (.own xs)] :Wp (Ml i τ P) (P xs):=⟨λk=>by unfold Ml;rw [h.e];exact k⟩
end
instance sC {c:C4} {Q:PV->Prop}:Wp (VY (cor c) none (some 1) Q) (Q (.tup [fr c.1])):=⟨λh=>GZ h⟩
abbrev LB:AS:=
 (Ab (Ao (AN 1 Bx (AB (aV 0) AL)) (Au 6))
   (Ar (AN 3 BC (AB (aV 6) (AB (AN 2 BN (AB (AX Ak (AX Ak (aV 1) (N2 Fb (aC (.int 1)))) (aC (.int 0))) (AB (AX Ak (AX Ak (aV 6) (aC (.int 0))) (aC (.int 0))) AL))) (AB (FZ (DF (AB (A3 (AB (aC (.int 0)) (AB (aC (.int 1)) AL))) (AB (A3 (AB (aC (.int 0)) (AB (aC (.int 1)) AL))) (AB (A3 (AB (aC (.int 0)) (AB (aC (.int 1)) AL))) AL))))) AL))))))
abbrev IA:AS:=
 (Ab (Ao (A3 (AB (AN 1 A9 (AB (aV 0) AL)) (AB (AN 1 A9 (AB (aV 0) AL)) (AB (AN 1 A9 (AB (aV 0) AL)) AL)))) (Au 8))
   (Ar (AX BJ (AX BJ (We (aV 1) Wg (Wh (aV 7))) (A3 (AB (AX BJ (We (AX Ak (aV 1) (aV 7)) Wg (Wh (aC (.int 1)))) (aV 8)) AL))) (We (aV 1) (Wh (AX BJ (aV 7) (aC (.int 1)))) Wg))))
abbrev LC:AS:=
 (Ab (Ao (AN 2 BU (AB (aV 0) (AB (EX Fc (AB (aV 1) AL)) AL))) (Au 7))
   IA)
abbrev LD:AS:=
 (Ab (Ao (We (AX Ak (aV 1) (AN 2 BU (AB (aV 0) (AB (EX Fc (AB (aV 1) AL)) AL)))) (Wh (aC (.int 1))) Wg) (Au 8))
   (Ar (A3 (AB (AX BJ (A3 (AB (AX Ak (AX Ak (aV 1) (aC (.int 0))) (aC (.int 0))) AL)) (aV 8)) (AB (AX BJ (A3 (AB (AN 2 Bq (AB (AX Ak (AX Ak (aV 1) (N2 Fb (aC (.int 1)))) (aC (.int 0))) (AB (AN 1 CI (AB (aV 0) AL)) AL))) AL)) (aV 8)) AL)))))
abbrev JY:AS:=
 (Ab (Bz (A5 (AX M6 (aV 3) (aC (.int 6)))) LD BM)
   (Ar (AN 1 Bx (AB (aV 0) AL))))
abbrev LM:AS:=
 (Ab (Bz (A5 (AX M6 (aV 3) (aC (.int 5)))) LC BM)
   JY)
abbrev LL:AS:=
 (Ab (Bz (A5 (AX M6 (aV 3) (aC (.int 4)))) LB BM)
   LM)
abbrev LK:AS:=
 (Ab (Bz (A5 (AX M6 (aV 3) (aC (.int 3)))) (Ar (EX Dt (AB (FZ (Cv (iZ (aV 1) (aV 1)) 2 [] (MD 2 (Ai (Au 0) (Ai (Au 1) CJ))) E7 (AX BJ (A3 (AB (AX Ak (aV 0) (aC (.int 0))) AL)) (We (aV 1) (Wh (aC (.int 1))) Wg)))) AL))) BM)
   LL)
abbrev LJ:AS:=
 (Ab (Bz (A5 (AX M6 (aV 3) (aC (.int 2)))) (Ar (AN 3 BC (AB (aV 1) (AB (AX Ak (FZ (DF (AB (AN 1 CI (AB (aV 0) AL)) (AB (A3 (AB (aC (.int 0)) (AB (aC (.int 1)) AL))) AL)))) (AN 2 BU (AB (aV 0) (AB (aC (.int 2)) AL)))) (AB (aV 4) AL))))) BM)
   LK)
abbrev Fk:AS:=
 (Ab (Bz (A5 (AX Y8 (aV 3) (aC (.int 2)))) (Ar (AN 3 BC (AB (aV 1) (AB (A3 (AB (aC (.int 0)) (AB (aC (.int 1)) AL))) (AB (aV 4) AL))))) BM)
   LJ)
abbrev LI:AS:=
 (Ab (Bz (A5 (AX M6 (aV 3) (aC (.int 0)))) (VH 4 (aV 5) (Tl (AN 2 BI (AB (AX Ak (aV 4) (aV 5)) (AB (AX Ak (FZ (DF (AB (A3 (AB (aC (.int 1)) (AB (aC (.int 2)) AL))) (AB (A3 (AB (N2 Fb (aC (.int 1))) (AB (aC (.int 1)) AL))) (AB (A3 (AB (N2 Fb (aC (.int 1))) (AB (aC (.int 3)) AL))) AL))))) (AN 2 BU (AB (aV 0) (AB (aC (.int 3)) AL)))) AL))))) BM)
   Fk)
abbrev LH:AS:=
 (Ab (VH 4 (aV 5) (AX Ak (aV 2) (EX Pj (AB (AX M6 (aV 5) (aC (.int 2))) AL))))
   LI)
abbrev LG:AS:=
 (Ab (Ao (AN 2 BU (AB (aV 0) (AB (aC (.int 3)) AL))) (Au 5))
   LH)
abbrev LF:AS:=
 (Ab (JB (DF (AB (A3 (AB (aC (.int 0)) (AB (aC (.int 1)) AL))) (AB (A3 (AB (aC (.int 0)) (AB (aC (.int 1)) AL))) (AB (A3 (AB (aC (.int 0)) (AB (aC (.int 1)) AL))) AL)))) 4)
   LG)
abbrev ID:AS:=
 (Ab (Ao (AN 2 BU (AB (aV 0) (AB (aC (.int 9)) AL))) (Au 3))
   LF)
def DJ:AF:=A0 9 ID
theorem Mw {x0 x1 x2:PV} {Q:PV->Prop} (h:ID ⟨λ_=>Q .non,Q,λ_=>False,λ_=>False⟩ [some (.val x0),some (.val x1),some (.val x2),none,none,none,none,none,none]):DJ [x0,x1,x2] Q:=h
theorem NG {cs ds:List C4} (h:Hi cs) (e:ds.map (·.1)=cs.map (·.1)):Hi ds:=by
 have h1:(cs.map (·.1)).Pairwise (· < ·):=List.pairwise_map.mpr h
 rw [<-e] at h1
 exact List.pairwise_map.mp h1
theorem gP (a b:List C4):ES (a.map cor) (b.map cor)=(a.zip b).map λp:C4×C4=> .tup [cor p.1,cor p.2] :=by
 unfold ES
 rw [List.zipWith_map,List.zip,List.map_zipWith]
theorem Mul.negQ {D N:Nat} {a:Rat} (h:Mul D N a):Mul D N (-a):=by
 obtain ⟨h0,k,rfl,hk⟩:=h
 exact ⟨h0, -k,by rw [Rat.neg_divInt],by omega⟩
theorem Mul.subQ {D N M:Nat} {a b:Rat} (ha:Mul D N a) (hb:Mul D M b):Mul D (N+M) (a-b):=by
 rw [Rat.sub_eq_add_neg];exact ha.add (Mul.negQ hb)
theorem gm {a b c:PV}:PB [a,b,c].length 0=some 0:=by show PB 3 0=_;decide
theorem gr {a b c:PV}:PB [a,b,c].length 1=some 1:=by show PB 3 1=_;decide
theorem gt {a b c:PV}:PB [a,b,c].length 2=some 2:=by show PB 3 2=_;decide
theorem MZ:PV.tup [.int (-1), .int 3] =fr (-1/3):=by
 unfold fr
 rw [show (-1/3:Rat).num= -1 by decide +kernel,show (-1/3:Rat).den=3 by decide +kernel]
 rfl
abbrev NV:AS:=
 (Ab (Bz (A5 (AX M6 (AN 2 BU (AB (aV 2) (AB (aC (.int 2)) AL))) (aC (.int 0)))) (Pb 4 5 (AB (aV 5) (AB (aV 4) AL))) BM)
   (Ar (A3 (AB (aV 2) (AB (aV 4) (AB (aV 5) (AB (aV 3) AL)))))))
abbrev NU:AS:=
 (Ab (Ao (AN 3 DJ (AB (aV 2) (AB (aV 4) (AB (aV 3) AL)))) (Au 5))
   NV)
abbrev NT:AS:=
 (Ab (Ao (AN 1 Bx (AB (aV 2) AL)) (Au 4))
   NU)
abbrev NR:AS:=
 (Ab (Ao (AN 1 C5 (AB (aV 2) AL)) (Au 3))
   NT)
abbrev L8:AS:=
 (Ab (Ao (AN 2 Nx (AB (aV 0) (AB (aV 1) AL))) (Au 2))
   NR)
def EL:AF:=A0 6 L8
theorem P5 {x0 x1:PV} {Q:PV->Prop} (h:L8 ⟨λ_=>Q .non,Q,λ_=>False,λ_=>False⟩ [some (.val x0),some (.val x1),none,none,none,none]):EL [x0,x1] Q:=h
abbrev PU:AS:=
 (Ab (Ao (AN 2 Eu (AB (AX Ak (AX Ak (aV 0) (N2 Fb (aC (.int 1)))) (aC (.int 0))) (AB (AX Ak (AX Ak (aV 1) (N2 Fb (aC (.int 1)))) (aC (.int 0))) AL))) (Au 3))
   (Ar (gW (A5 (AN 2 Am (AB (aV 2) (AB (aV 3) AL)))) (A3 (AB (aV 2) (AB (aV 3) AL))) (aC .non))))
abbrev Nj:AS:=
 (Ab (Ao (AN 2 Cs (AB (AX Ak (AX Ak (aV 0) (aC (.int 0))) (aC (.int 0))) (AB (AX Ak (AX Ak (aV 1) (aC (.int 0))) (aC (.int 0))) AL))) (Au 2))
   PU)
def D6:AF:=A0 4 Nj
theorem SQ {x0 x1:PV} {Q:PV->Prop} (h:Nj ⟨λ_=>Q .non,Q,λ_=>False,λ_=>False⟩ [some (.val x0),some (.val x1),none,none]):D6 [x0,x1] Q:=h
abbrev RD:AS:=
 (Ab (Ao (AN 2 Fq (AB (aV 1) (AB (aV 3) AL))) (Au 5))
   (Ar (FZ (Cv (Pd (AB (aC (.int 3)) AL)) 1 [2,4,5] (Au 0) E7 (AN 2 LW (AB (AN 2 EE (AB (AX Ak (aV 2) (aV 0)) (AB (AX Ak (aV 3) (aV 0)) AL))) (AB (AN 2 En (AB (aV 1) (AB (aV 0) AL))) AL)))))))
abbrev QE:AS:=
 (Ab (Ao (AN 2 Fq (AB (aV 0) (AB (aV 3) AL))) (Au 4))
   RD)
def Fn:AF:=A0 6 QE
theorem Uk {x0 x1 x2 x3:PV} {Q:PV->Prop} (h:QE ⟨λ_=>Q .non,Q,λ_=>False,λ_=>False⟩ [some (.val x0),some (.val x1),some (.val x2),some (.val x3),none,none]):Fn [x0,x1,x2,x3] Q:=h
abbrev Bt:AS:=
 (Ab (Ao (AN 2 Bs (AB (AN 2 BN (AB (AX Ak (aV 7) (aV 6)) (AB (AX Ak (aV 8) (aV 6)) AL))) (AB (AX Ak (aV 2) (EX Pj (AB (AX M6 (aV 6) (aC (.int 2))) AL))) AL))) (Au 9))
   (Bz (A5 (AN 2 Am (AB (aV 5) (AB (A3 (AB (EX RV (AB (AX Ak (aV 9) (aC (.int 0))) AL)) (AB (AX Ak (aV 9) (aC (.int 1))) AL))) AL)))) (Ao (A3 (AB (EX RV (AB (AX Ak (aV 9) (aC (.int 0))) AL)) (AB (AX Ak (aV 9) (aC (.int 1))) AL))) (Au 5)) BM))
abbrev PN:AS:=
 (Ab (FY (Pd (AB (aC (.int 3)) AL)) (Au 6) Bt)
   (Ar (aV 5)))
abbrev PM:AS:=
 (Ab (Ao (A3 (AB (aC (.int 0)) (AB (aC (.int 1)) AL))) (Au 5))
   PN)
abbrev PK:AS:=
 (Ab (Bz (Pa (A5 (AX RR (aV 7) (aC .non))) (A5 (AX RR (aV 8) (aC .non)))) (Ar (aC .non)) BM)
   PM)
abbrev PJ:AS:=
 (Ab (Pb 7 8 (AB (AN 2 Ct (AB (aV 0) (AB (aV 3) AL))) (AB (AN 2 Ct (AB (aV 1) (AB (aV 3) AL))) AL)))
   PK)
abbrev PH:AS:=
 (Ab (Bz (HE (Gr (VI (aV 4))) (Pa (Gr (A5 (AN 2 Am (AB (aV 3) (AB (AX Ak (AX Ak (aV 0) (N2 Fb (aC (.int 1)))) (aC (.int 0))) AL))))) (Gr (A5 (AN 2 Am (AB (aV 3) (AB (AX Ak (AX Ak (aV 1) (N2 Fb (aC (.int 1)))) (aC (.int 0))) AL))))))) (Ar (aC .non)) BM)
   PJ)
abbrev NW:AS:=
 (Ab (Bz (Pa (A5 (AN 2 Am (AB (aV 3) (AB (AX Ak (AX Ak (aV 0) (aC (.int 0))) (aC (.int 0))) AL)))) (A5 (AN 2 Am (AB (aV 3) (AB (AX Ak (AX Ak (aV 1) (aC (.int 0))) (aC (.int 0))) AL))))) (Ar (aC .non)) BM)
   PH)
def Et:AF:=A0 10 NW
theorem SM {x0 x1 x2 x3 x4:PV} {Q:PV->Prop} (h:NW ⟨λ_=>Q .non,Q,λ_=>False,λ_=>False⟩ [some (.val x0),some (.val x1),some (.val x2),some (.val x3),some (.val x4),none,none,none,none,none]):Et [x0,x1,x2,x3,x4] Q:=h
def absR (r:Rat):Rat:=if r<0 then -r else r
theorem Bd.absR {n:Nat} {r:Rat} (h:Bd n r):Bd n (absR r):=by unfold PL.absR;split;exact h.neg;exact h
def Fd (p q:T3) (d:Rat×Rat):T3:=((p.1-q.1)/d.1,(p.2.1-q.2.1)/d.1,(p.2.2-q.2.2)/d.2)
def Pk (o:T3):Rat:=mx (mx (mx 0 (absR o.1)) (absR o.2.1)) (absR o.2.2)
def De (a l a2 l2:C4) (m:Rat):Prop:=(¬m<a.1/\¬m<a2.1)/\m<l.1/\m<l2.1
instance {a l a2 l2:C4} {m:Rat}:Decidable (De a l a2 l2 m):=by unfold De;infer_instance
def i0:Option Rat->PV
 | none=> .non
 | some r=>fr r
def YC (a l a2 l2:C4) (cs ds:List C4) (d:Rat×Rat) (m:Rat):Option Rat:=if De a l a2 l2 m then some (Pk (Fd ((spotC cs m).getD (0,0,0)) ((spotC ds m).getD (0,0,0)) d)) else none
theorem eY {cs ds:List C4} {v w u:PV} {d:Rat×Rat} {m:Rat} {p q':T3} (hv:Ci cs v) (hw:Ci ds w) (hu:cv d u) (hc:∀c∈cs,EK 150 c) (Mq:∀c∈ds,EK 150 c) (hr:Hi cs) (jH:Hi ds) (h0:cs≠ []) (U4:ds≠ []) (hl:cs.length<=100) (qI:ds.length<=100) (bm:Bd 200 m) (b1:Bd 100 d.1) (b2:Bd 100 d.2) (p1:d.1≠0) (p2:d.2≠0)
 (e1:spotC cs m=some p) (e2:spotC ds m=some q') {Q:PV->Prop} (q:Q (.lst [fr (Fd p q' d).1,fr (Fd p q' d).2.1,fr (Fd p q' d).2.2])):Fn [v,w,u,fr m] Q:=by
 have t1:=EW.spotC bm hr hc p e1
 have t2:=EW.spotC bm jH Mq q' e2
 have x1:=t1.x
 have x2:=t1.y
 have x3:=t1.z
 have y1:=t2.x
 have y2:=t2.y
 have y3:=t2.z
 have z1:=x1.sub y1
 have z2:=x2.sub y2
 have z3:=x3.sub y3
 apply Uk
 ac_rfl
 refine Jk hv hc hr h0 (by omega) bm (by decide) ?_
 rw [e1,show IW (some p)= .tup [fr p.1,fr p.2.1,fr p.2.2] from rfl]
 ac_rfl
 refine Jk hw Mq jH U4 (by omega) bm (by decide) ?_
 rw [e2,show IW (some q')= .tup [fr q'.1,fr q'.2.1,fr q'.2.2] from rfl]
 ac_rfl
 rw [show rng 0 (Int.toNat 3)= [.int 0, .int 1, .int 2] from rfl]
 repeat' array_get_dec
 refine N3 hu ?_
 rw [if_neg (by decide)]
 repeat' array_get_dec
 refine N3 hu ?_
 rw [if_neg (by decide)]
 repeat' array_get_dec
 refine N3 hu ?_
 rw [if_pos (by decide)]
 repeat' array_get_dec
 exact q
theorem Lc (r:Rat):PV.tup [.int (r.num.natAbs:Int), .int r.den] =fr (absR r):=iX r
theorem Uz {a l a2 l2:C4} {r r2:List C4} {v w:PV} (hv:Ci (a::r) v) (hw:Ci (a2::r2) w) (el:(a::r).getLast?=some l) (el2:(a2::r2).getLast?=some l2) (ba:Bd 3000 a.1) (bl:Bd 3000 l.1) (ba2:Bd 3000 a2.1) (bl2:Bd 3000 l2.1)
 {Q:PV->Prop} (q1:mx a.1 a2.1<mn l.1 l2.1->Q (.tup [fr (mx a.1 a2.1),fr (mn l.1 l2.1)])) (q2:¬mx a.1 a2.1<mn l.1 l2.1->Q .non):D6 [v,w] Q:=by
 apply SQ
 ac_rfl
 refine tY hv λx hx=> ?_
 ac_rfl
 refine c0 hx ?_
 ac_rfl
 refine tY hw λx hx=> ?_
 ac_rfl
 refine c0 hx ?_
 ac_rfl
 refine tZ hv el λx hx=> ?_
 ac_rfl
 refine c0 hx ?_
 ac_rfl
 refine tZ hw el2 λx hx=> ?_
 ac_rfl
 refine c0 hx ?_
 ac_rfl
 ·exact q1 ‹_›
 ·exact q2 ‹_›
abbrev LP:AS:=
 (Ab (Ao (AX RQ (AX BJ (aV 2) (aV 3)) (aC (.int 2))) (Au 4))
   (Bz (A5 (AN 2 Am (AB (AX Ak (aV 0) (aV 4)) (AB (aV 1) AL)))) (Ao (AX BJ (aV 4) (aC (.int 1))) (Au 2)) (Ao (aV 4) (Au 3))))
abbrev LR:AS:=
 (Ab (Lb (A5 (AX Y8 (aV 2) (aV 3))) LP)
   (Ar (aV 2)))
abbrev LQ:AS:=
 (Ab (Ao (EX Fc (AB (aV 0) AL)) (Au 3))
   LR)
abbrev IG:AS:=
 (Ab (Ao (aC (.int 0)) (Au 2))
   LQ)
def DM:AF:=A0 5 IG
theorem Mz {x0 x1:PV} {Q:PV->Prop} (h:IG ⟨λ_=>Q .non,Q,λ_=>False,λ_=>False⟩ [some (.val x0),some (.val x1),none,none,none]):DM [x0,x1] Q:=h
abbrev MB:AS:=
 (Ab (Ao (Tl (AN 2 DM (AB (aV 1) (AB (aV 2) AL)))) (Au 3))
   (Bz (Tn (Pa (A5 (AX M6 (aV 3) (EX Fc (AB (aV 1) AL)))) (A5 (AX cm (AX Ak (aV 1) (aV 3)) (aV 2))))) (EY 1 aa (AB (aV 3) (AB (aV 2) AL))) BM))
abbrev Ta:AS:=
 (Ab (FY (O8 (aV 0)) (Au 2) MB)
   (Ar (aV 1)))
abbrev TZ:AS:=
 (Ab (JB (DF AL) 1)
   Ta)
def Fp:AF:=A0 4 TZ
theorem WH {x0:PV} {Q:PV->Prop} (h:TZ ⟨λ_=>Q .non,Q,λ_=>False,λ_=>False⟩ [some (.val x0),none,none,none]):Fp [x0] Q:=h
abbrev TK:AS:=
 (Ab (VF 3 l5 (Zi (aV 1) (aV 4) (aV 5)))
   (EY 2 KD (AB (A3 (AB (aV 4) (AB (aV 5) (AB (aV 3) AL)))) AL)))
abbrev TN:AS:=
 (Ab (FY (O8 (AN 1 Fp (AB (FZ (Cv (O8 (FZ (VG (AB (aV 1) AL)))) 2 [] (MD 2 (Ai (Au 0) (Ai (Au 1) CJ))) E7 (aV 0))) AL))) (Au 4) (FY (O8 (A3 (AB (aC (.int 0)) (AB (aC (.int 1)) AL)))) (Au 5) (Bz (A5 (dJ (aV 4) (aV 5) (aV 1))) TK BM)))
   (Ar (aV 2)))
abbrev TM:AS:=
 (Ab (Ao (aC (.int 0)) (Au 3))
   TN)
abbrev TL:AS:=
 (Ab (JB (DF AL) 2)
   TM)
abbrev TJ:AS:=
 (Ab (Ao (AN 1 Hh (AB (aV 0) AL)) (Au 1))
   TL)
def HA:AF:=A0 6 TJ
theorem WF {x0:PV} {Q:PV->Prop} (h:TJ ⟨λ_=>Q .non,Q,λ_=>False,λ_=>False⟩ [some (.val x0),none,none,none,none,none]):HA [x0] Q:=h
abbrev Q1:AS:=
 (Ab (EY 2 KD (AB (A3 (AB (AX Ak (aV 3) (aC (.int 0))) (AB (AX Ak (aV 3) (aC (.int 1))) (AB (aV 4) AL)))) AL))
   (Ao (aC .non) (Au 3)))
abbrev F8:AS:=
 (Ab (Bz (A5 (AX MF (aV 3) (aC .non))) (EY 2 KD (AB (A3 (AB (AX Ak (aV 3) (aC (.int 0))) (AB (AX Ak (aV 3) (aC (.int 1))) (AB (aC .non) AL)))) AL)) BM)
   (Ar (EX Dt (AB (aV 2) AL))))
abbrev Q3:AS:=
 (Ab (FY (O8 (AN 1 HA (AB (aV 0) AL))) (MD 3 (Ai (Au 4) (Ai (Au 5) (Ai (Au 6) CJ)))) (Bz (HE (A5 (AX RR (aV 3) (aC .non))) (A5 (AX k9 (aV 6) (aV 1)))) (Ao (A3 (AB (aV 4) (AB (AX G1 (aC (.int 1)) (aV 5)) AL))) (Au 3)) (Bz (HE (A5 (AX MF (aV 3) (aC .non))) (A5 (AX Y8 (aV 6) (aV 1)))) Q1 BM)))
   F8)
abbrev Q2:AS:=
 (Ab (Ao (aC .non) (Au 3))
   Q3)
abbrev QA:AS:=
 (Ab (JB (DF AL) 2)
   Q2)
def El:AF:=A0 7 QA
theorem Uh {x0 x1:PV} {Q:PV->Prop} (h:QA ⟨λ_=>Q .non,Q,λ_=>False,λ_=>False⟩ [some (.val x0),some (.val x1),none,none,none,none,none]):El [x0,x1] Q:=h
abbrev Nk:AS:=
 (Ar (AN 2 El (AB (aV 0) (AB (aC (.int 1)) AL))))
def Ew:AF:=A0 1 Nk
theorem SU {x0:PV} {Q:PV->Prop} (h:Nk ⟨λ_=>Q .non,Q,λ_=>False,λ_=>False⟩ [some (.val x0)]):Ew [x0] Q:=h
def ins:List Rat->Rat->List Rat
 | [],x=> [x]
 | q::r,x=>if q<x then q::ins r x else if q=x then q::r else x::q::r
abbrev O6 (qs:List Rat):Prop:=qs.Pairwise (· < ·)
theorem Ro {x y:Rat}:∀{qs:List Rat},y∈ins qs x↔y=x\/y∈qs
 | [] =>by simp [ins]
 | q::r=>by
   unfold ins
   split
   ·rw [List.mem_cons,Ro,List.mem_cons];grind
   ·split
    ·rename_i h;subst h;simp
    ·simp
theorem Xe {x:Rat}:∀{qs:List Rat},O6 qs->O6 (ins qs x)
 | [],_=>by simp [ins]
 | q::r,h=>by
   obtain ⟨h1,h2⟩:=List.pairwise_cons.mp h
   unfold ins
   split
   ·rename_i hq
    refine List.pairwise_cons.mpr ⟨λy hy=> ?_,Xe h2⟩
    rcases Ro.mp hy with rfl|hy
    ·exact hq
    ·exact h1 y hy
   ·split
    ·exact h
    ·refine List.pairwise_cons.mpr ⟨λy hy=> ?_,h⟩
     rcases List.mem_cons.mp hy with rfl|hy
     ·grind
     ·have:=h1 y hy;grind
theorem W9 {x:Rat}:∀{qs:List Rat},(ins qs x).length<=qs.length+1
 | [] =>by simp [ins]
 | q::r=>by
   have:=W9 (x:=x) (qs:=r)
   unfold ins
   split
   ·simp;omega
   ·split <;> simp
structure At (qs:List Rat) (x:Rat) (k:Nat):Prop where
 le:k<=qs.length
 lo:∀q∈qs.take k,q<x
 hi:∀q∈qs.drop k,¬q<x
theorem VL:∀{qs:List Rat} {x:Rat} {k:Nat},O6 qs->At qs x k->ins qs x=if qs[k]? =some x then qs else qs.take k++x::qs.drop k
 | [],x,k,_,h=>by
   have:=h.le
   simp at this
   subst this
   simp [ins]
 | q::r,x,0,_,h=>by
   have:=h.hi q (by simp)
   unfold ins
   rw [if_neg this]
   by_cases e:q=x
   ·rw [if_pos e,if_pos (by simp [e])]
   ·rw [if_neg e,if_neg (by simp [e])];rfl
 | q::r,x,k+1,hs,h=>by
   have hq:=h.lo q (by simp)
   have ih:=VL (qs:=r) (x:=x) (k:=k) (List.pairwise_cons.mp hs).2 ⟨by have:=h.le;simp at this;exact this,λy hy=>h.lo y (by simp [hy]),λy hy=>h.hi y (by simpa using hy)⟩
   unfold ins
   rw [if_pos hq,ih]
   simp only [List.getElem?_cons_succ,List.take_succ_cons,List.drop_succ_cons]
   split <;> rfl
theorem Sw:∀{a b:List Rat},O6 a->O6 b->(∀x,x∈a↔x∈b)->a=b
 | [], [],_,_,_=>rfl
 | [],y::b,_,_,h=>by have:=(h y).mpr (by simp);simp at this
 | x::a, [],_,_,h=>by have:=(h x).mp (by simp);simp at this
 | x::a,y::b,ha,hb,h=>by
   obtain ⟨a1,a2⟩:=List.pairwise_cons.mp ha
   obtain ⟨b1,b2⟩:=List.pairwise_cons.mp hb
   have exy:x=y:=by
    rcases List.mem_cons.mp ((h x).mp (by simp)) with e|e
    ·exact e
    ·rcases List.mem_cons.mp ((h y).mpr (by simp)) with e2|e2
     ·exact e2.symm
     ·have:=b1 x e;have:=a1 y e2;grind
   subst exy
   congr 1
   refine Sw a2 b2 λz=>⟨λhz=> ?_,λhz=> ?_⟩
   ·rcases List.mem_cons.mp ((h z).mp (by simp [hz])) with e|e
    ·subst e;have:=a1 z hz;grind
    ·exact e
   ·rcases List.mem_cons.mp ((h z).mpr (by simp [hz])) with e|e
    ·subst e;have:=b1 z hz;grind
    ·exact e
def CO (xs:List Rat):List Rat:=xs.foldl ins []
theorem NH:∀(xs qs:List Rat),O6 qs->O6 (xs.foldl ins qs)/\(∀y,y∈xs.foldl ins qs↔y∈xs\/y∈qs)/\(xs.foldl ins qs).length<=qs.length+xs.length
 | [],qs,h=>⟨h,by simp,by simp⟩
 | x::xs,qs,h=>by
   obtain ⟨h1,h2,h3⟩:=NH xs (ins qs x) (Xe h)
   refine ⟨h1,λy=> ?_, ?_⟩
   ·rw [List.foldl_cons,h2,Ro,List.mem_cons];grind
   ·have:=W9 (x:=x) (qs:=qs)
    rw [List.foldl_cons,List.length_cons];omega
theorem Bj {xs:List Rat}:O6 (CO xs):=(NH xs [] .nil).1
theorem Be {xs:List Rat} {y:Rat}:y∈CO xs↔y∈xs:=by rw [CO,(NH xs [] .nil).2.1];simp
theorem E2 {xs:List Rat}:(CO xs).length<=xs.length:=by have:=(NH xs [] .nil).2.2;unfold CO;simpa using this
theorem bY {a b:List Rat} (h:∀x,x∈a↔x∈b):CO a=CO b:=Sw Bj Bj λx=>by rw [Be,Be,h]
theorem Xi:∀{qs:List Rat} {m:Nat} {c x:Rat},O6 qs->qs[m]? =some c->c<x->∀q∈qs.take (m+1),q<x
 | [],m,c,x,_,e,_=>by simp at e
 | a::r,0,c,x,_,e,h=>by simp at e;subst e;simp [h]
 | a::r,m+1,c,x,hs,e,h=>by
   obtain ⟨h1,h2⟩:=List.pairwise_cons.mp hs
   have e':r[m]? =some c:=by simpa using e
   intro q hq
   rw [List.take_succ_cons] at hq
   rcases List.mem_cons.mp hq with rfl|hq
   ·have:=h1 c (List.mem_of_getElem? e');grind
   ·exact Xi h2 e' h q hq
theorem Wu:∀{qs:List Rat} {m:Nat} {c x:Rat},O6 qs->qs[m]? =some c->¬c<x->∀q∈qs.drop m,¬q<x
 | [],m,c,x,_,e,_=>by simp at e
 | a::r,0,c,x,hs,e,h=>by
   simp at e;subst e
   intro q hq
   rcases List.mem_cons.mp hq with rfl|hq
   ·exact h
   ·have:=(List.pairwise_cons.mp hs).1 q hq;grind
 | a::r,m+1,c,x,hs,e,h=>by
   intro q hq
   exact Wu (List.pairwise_cons.mp hs).2 (by simpa using e) h q (by simpa using hq)
theorem Zu {qs:List Rat} {x:Rat} {B M:Nat} (hs:O6 qs) (hl:qs.length<=1000000) (hq:∀q∈qs,Bd B q) (hx:Bd M x) (hB:B<=4000) (hM:M<=4000) {Q:PV->Prop} (q:∀k:Nat,At qs x k->Q (.int k)):DM [.lst (qs.map fr),fr x] Q:=by
 apply Mz
 repeat' array_get_dec
 refine oO (λn τ=>∃(lo hi:Nat) (z:Option AV),hi-lo<n/\lo<=hi/\hi<=qs.length/\(∀q∈qs.take lo,q<x)/\(∀q∈qs.drop hi,¬q<x)/\τ= [some (.val (.lst (qs.map fr))),some (.val (fr x)),some (.val (.int lo)),some (.val (.int hi)),z]) ?_ ?_ (n:=qs.length+1) ⟨0,qs.length,none,by omega,by omega,by omega,by simp,by simp,rfl⟩
 ·rintro n τ R hR ⟨lo,hi,z,h1,h2,h3,h4,h5,rfl⟩
  have ef:frz [some (.val (.lst (qs.map fr))),some (.val (fr x)),some (.val (.int lo)),some (.val (.int hi)),z] = [some (.val (.lst (qs.map fr))),some (.val (fr x)),some (.val (.int lo)),some (.val (.int hi)),db z] :=rfl
  rw [ef]
  repeat' array_get_dec
  ·rename_i EF
   refine ⟨⟨by decide,by decide⟩, ?_⟩
   have em:((lo:Int)+hi).fdiv 2=((lo+hi)/2:Nat):=by rw [Int.fdiv_eq_ediv_of_nonneg _ (by decide)];omega
   rw [em]
   have m1:(lo+hi)/2<hi:=by omega
   have m2:lo<=(lo+hi)/2:=by omega
   generalize (lo+hi)/2=m at *
   repeat' array_get_dec
   rename_i c ec hc
   have ec':qs[m]? =some c:=ec
   have bc:=hq c hc
   repeat' array_get_dec
   ·rename_i qB
    refine hR _ ⟨m+1,hi,_,by omega,by omega,h3,Xi hs ec' qB,h5,rfl⟩
   ·rename_i qB
    refine hR _ ⟨lo,m,_,by omega,m2,by omega,h4,Wu hs ec' qB,rfl⟩
  ·rename_i EF
   have e:lo=hi:=by omega
   subst e
   exact q lo ⟨by omega,h4,h5⟩
 ·rintro τ ⟨lo,hi,z,h,_⟩
  omega
theorem Qf {v:PV} {xs:List Rat} {B:Nat} (hv:v= .lst (xs.map fr)\/v= .tup (xs.map fr)) (hl:xs.length<=1000) (hx:∀x∈xs,Bd B x) (hB:B<=4000) {Q:PV->Prop} (q:Q (.lst ((CO xs).map fr))):Fp [v] Q:=by
 apply WH
 have key:∀{z2 z3:Option AV},Cm (Au 2) MB ⟨Ar (aV 1) ⟨λ_=>Q .non,Q,λ_=>False,λ_=>False⟩,Q,λ_=>False,λ_=>False⟩ (xs.map fr) [some (.val v),some (.own []),z2,z3] :=by
  intro z2 z3
  refine FB fr (λus vs τ=>∃z2 z3,τ= [some (.val v),some (.own ((CO us).map fr)),z2,z3]) ?_ ?_ ⟨_,_,rfl⟩
  ·rintro τ ⟨z2,z3,rfl⟩
   repeat' array_get_dec
   exact q
  ·rintro us c vs e τ R hR ⟨z2,z3,rfl⟩
   have ul:us.length<=1000:=by have:=congrArg List.length e;simp at this;omega
   have rl:=E2 (xs:=us)
   have bu:∀y∈CO us,Bd B y:=λy hy=>hx y (by rw [<-e];simp [Be.mp hy])
   have bc:Bd B c:=hx c (by rw [<-e];simp)
   have fin:∀(ws:List Rat) z2 z3,ws=ins (CO us) c->R [some (.val v),some (.own (ws.map fr)),z2,z3] :=λws z2 z3 h=>hR _ ⟨z2,z3,by rw [h,show CO (us ++ [c])=ins (CO us) c by unfold CO;rw [List.foldl_append];rfl]⟩
   repeat' array_get_dec
   refine Zu Bj (by omega) bu bc hB hB λk hk=> ?_
   have kl:=hk.le
   have ei:=VL Bj hk
   repeat' array_get_dec
   ·rename_i h1
    have e1:(CO us)[k]? =none:=List.getElem?_eq_none (by omega)
    rw [e1,if_neg (by simp)] at ei
    have:=fin _ (some (.val (fr c))) (some (.val (.int k))) ei.symm
    rw [List.map_append,List.map_cons,List.map_take,List.map_drop] at this
    exact this
   ·rename_i h1 d e1 _ h2
    have e1':(CO us)[k]? =some d:=e1
    rw [e1',if_neg (by simpa using h2)] at ei
    have:=fin _ (some (.val (fr c))) (some (.val (.int k))) ei.symm
    rw [List.map_append,List.map_cons,List.map_take,List.map_drop] at this
    exact this
   ·rename_i h1 d e1 _ h2
    have e1':(CO us)[k]? =some d:=e1
    rw [e1',if_pos (by rw [h2])] at ei
    exact fin _ _ _ ei.symm
 rcases hv with rfl|rfl
 all_goals
  ac_rfl
  exact key
abbrev Pl:=Rat×Int
abbrev Bi:=Rat×Int×Option Rat
def bp (s:Bi):Pl:=(s.1,1-s.2.1)
def ep (s:Bi):Option Pl:=s.2.2.map λe=>(e,0)
def FF (p:Pl):FK:=((p.1.num,p.1.den),p.2)
theorem Rg {p q:Pl} (h:FF p=FF q):p=q:=by
 obtain ⟨a,i⟩:=p
 obtain ⟨b,j⟩:=q
 unfold FF at h
 simp only [Prod.mk.injEq,Int.ofNat_inj] at h
 obtain ⟨⟨h1,h2⟩,h3⟩:=h
 have:a=b:=Rat.ext h1 h2
 rw [this,h3]
def Z0:Option Rat->PV|none=> .non|some e=>fr e
def Cg (s:Bi):PV:= .tup [fr s.1, .int s.2.1,Z0 s.2.2]
def nY (s:Bi):PV:= .lst [fr s.1, .int s.2.1,Z0 s.2.2]
theorem j8 {s:Bi} {x:PV} (h:x=Cg s\/x=nY s):Ug x=some ((s.1.num,(s.1.den:Int)),s.2.1,s.2.2.map λe=>(e.num,(e.den:Int))):=by
 obtain ⟨b,i,e⟩:=s
 rcases h with rfl|rfl <;> cases e <;> rfl
theorem ca {m:List (FK×Int)} {k k':FK} {v:Int}:BV (P4 m k v) k'=if k'=k then some v else BV m k':=by
 unfold P4
 by_cases hk:(m.any λp=>decide (p.1=k))=true
 ·rw [if_pos hk]
  induction m with
  | nil=>simp at hk
  | cons p r ih=>
    by_cases e:p.1=k
    ·by_cases e':k'=k
     ·subst e';simp [BV,e]
     ·have:¬k=k':=λz=>e' z.symm
      by_cases hr:(r.any λp=>decide (p.1=k))=true
      ·have:=ih hr
       simpa [BV,e,e',this, ‹¬k=k'›] using this
      ·have hm:r.map (λp=>if p.1=k then (p.1,v) else p)=r:=by
        conv=>rhs;rw [<-List.map_id r]
        apply List.map_congr_left
        intro q hq
        have:¬q.1=k:=λz=>hr (List.any_eq_true.mpr ⟨q,hq,by simpa using z⟩)
        rw [if_neg this];rfl
       simp only [List.map_cons,e,if_true,hm]
       simp [BV,e,e',this]
    ·have hr:(r.any λp=>decide (p.1=k))=true:=by simpa [e] using hk
     have:=ih hr
     by_cases e2:p.1=k'
     ·have:¬k'=k:=λz=>e (e2.trans z)
      simp [BV,e,e2,this]
     ·simpa [BV,e,e2] using this
 ·rw [if_neg hk]
  induction m with
  | nil=>
    by_cases e':k'=k
    ·subst e';simp [BV]
    ·have:¬k=k':=λz=>e' z.symm
     simp [BV,e',this]
  | cons p r ih=>
    have e:¬p.1=k:=λz=>hk (by simp [z])
    have hr:¬(r.any λp=>decide (p.1=k))=true:=λz=>hk (by simp only [List.any_cons,z,Bool.or_true])
    have:=ih hr
    by_cases e2:p.1=k'
    ·have:¬k'=k:=λz=>e (e2.trans z)
     simp [BV,e2,this]
    ·simpa [BV,e2] using this
theorem eI {m:List (FK×Int)} {k k':FK} {v:Int}:k'∈(P4 m k v).map (·.1)↔k'=k\/k'∈m.map (·.1):=by
 unfold P4
 split
 ·rename_i hk
  obtain ⟨q,hq,e⟩:=List.any_eq_true.mp hk
  have e:q.1=k:=by simpa using e
  have:(m.map λp=>if p.1=k then (p.1,v) else p).map (·.1)=m.map (·.1):=by
   rw [List.map_map]
   apply List.map_congr_left
   intro p _
   by_cases z:p.1=k <;> simp [z]
  rw [this]
  refine ⟨.inr,λh=>h.elim (λz=> ?_) id⟩
  rw [z,<-e];exact List.mem_map.mpr ⟨q,hq,rfl⟩
 ·rw [List.map_append,List.mem_append]
  simp only [List.map_cons,List.map_nil,List.mem_singleton]
  exact Or.comm
theorem gM {m:List (FK×Int)} {k:FK}:(BV m k).isSome=true↔k∈m.map (·.1):=by
 unfold BV
 rw [Option.isSome_map,List.find?_isSome,List.mem_map]
 constructor
 ·rintro ⟨p,hp,e⟩;exact ⟨p,hp,by simpa using e⟩
 ·rintro ⟨p,hp,e⟩;exact ⟨p,hp,by simpa using e⟩
def OV (s:Bi) (p:Pl):Int:=(if bp s=p then 1 else 0)-(if ep s=some p then 1 else 0)
def cnt (ss:List Bi) (p:Pl):Int:=(ss.map λs=>OV s p).sum
def J8 (ss:List Bi) (p:Pl):Prop:=∃s∈ss,bp s=p\/ep s=some p
theorem Ll {m:List (FK×Int)} {k k':FK} {d:Int}:(BV (bump m k d) k').getD 0=(BV m k').getD 0+if k'=k then d else 0:=by
 unfold bump
 rw [ca]
 by_cases e:k'=k
 ·subst e;simp
 ·simp [e]
theorem OI {m:List (FK×Int)} {k k':FK} {d:Int}:k'∈(bump m k d).map (·.1)↔k'=k\/k'∈m.map (·.1):=eI
inductive Gq:List PV->List Bi->Prop where
 | nil:Gq [] []
 | cons {x:PV} {s:Bi} {xs:List PV} {ss:List Bi} (h:x=Cg s\/x=nY s) (t:Gq xs ss):Gq (x::xs) (s::ss)
theorem Gq.length:∀{xs:List PV} {ss:List Bi},Gq xs ss->xs.length=ss.length
 | _,_, .nil=>rfl
 | _,_, .cons _ t=>by simp [t.length]
theorem Yo (ss:List Bi):Gq (ss.map Cg) ss:=by
 induction ss with
 | nil=>exact .nil
 | cons s ss ih=>exact .cons (.inl rfl) ih
theorem Ux {m:List (FK×Int)} {s:Bi}:(∀p,(BV (Gc m (s.1.num,(s.1.den:Int)) s.2.1 (s.2.2.map λe=>(e.num,(e.den:Int)))) (FF p)).getD 0=(BV m (FF p)).getD 0+OV s p)/\
 ∀k,k∈(Gc m (s.1.num,(s.1.den:Int)) s.2.1 (s.2.2.map λe=>(e.num,(e.den:Int)))).map (·.1)↔k∈m.map (·.1)\/∃p,(bp s=p\/ep s=some p)/\k=FF p:=by
 obtain ⟨b,h,e⟩:=s
 have eb:∀p:Pl,(FF p=((b.num,(b.den:Int)),1-h))↔bp (b,h,e)=p:=λp=>⟨λz=>(Rg (p:=p) (q:=(b,1-h)) z).symm,λz=>by rw [<-z];rfl⟩
 cases e with
 | none=>
   refine ⟨λp=> ?_,λk=> ?_⟩
   ·show (BV (bump m ((b.num,(b.den:Int)),1-h) 1) (FF p)).getD 0=_
    rw [Ll]
    simp only [eb,OV,ep]
    simp
   ·show k∈(bump m ((b.num,(b.den:Int)),1-h) 1).map (·.1)↔_
    rw [OI]
    constructor
    ·rintro (z|z)
     ·exact .inr ⟨_, .inl rfl,z⟩
     ·exact .inl z
    ·rintro (z|⟨p,z|z,hk⟩)
     ·exact .inr z
     ·exact .inl (by rw [hk,<-z];rfl)
     ·cases z
 | some e=>
   have ee:∀p:Pl,(FF p=((e.num,(e.den:Int)),0))↔ep (b,h,some e)=some p:=λp=>⟨λz=>by rw [<-Rg (p:=(e,0)) (q:=p) z.symm];rfl,λz=>by cases z;rfl⟩
   refine ⟨λp=> ?_,λk=> ?_⟩
   ·show (BV (bump (bump m ((b.num,(b.den:Int)),1-h) 1) ((e.num,(e.den:Int)),0) (-1)) (FF p)).getD 0=_
    rw [Ll,Ll]
    simp only [eb,ee,OV]
    split <;> split <;> omega
   ·show k∈(bump (bump m ((b.num,(b.den:Int)),1-h) 1) ((e.num,(e.den:Int)),0) (-1)).map (·.1)↔_
    rw [OI,OI]
    constructor
    ·rintro (z|z|z)
     ·exact .inr ⟨(e,0), .inr rfl,z⟩
     ·exact .inr ⟨_, .inl rfl,z⟩
     ·exact .inl z
    ·rintro (z|⟨p,z|z,hk⟩)
     ·exact .inr (.inr z)
     ·exact .inr (.inl (by rw [hk,<-z];rfl))
     ·exact .inl (by rw [hk];exact (ee p).mpr z)
theorem Qu:∀{xs:List PV} {ss:List Bi} (m0:List (FK×Int)),Gq xs ss->∃m,Fi xs m0=some m/\(∀p,(BV m (FF p)).getD 0=(BV m0 (FF p)).getD 0+cnt ss p)/\(∀k,k∈m.map (·.1)↔k∈m0.map (·.1)\/∃p,J8 ss p/\k=FF p)/\m.length<=m0.length+2*ss.length
 | _,_,m0, .nil=>⟨m0,rfl,λp=>by simp [cnt],λk=>by simp [J8],by simp⟩
 | x::xs,s::ss,m0, .cons h t=>by
   obtain ⟨m,h1,h2,h3,h4⟩:=Qu (Gc m0 (s.1.num,(s.1.den:Int)) s.2.1 (s.2.2.map λe=>(e.num,(e.den:Int)))) t
   obtain ⟨t1,t2⟩:=Ux (m:=m0) (s:=s)
   refine ⟨m, ?_,λp=> ?_,λk=> ?_, ?_⟩
   ·unfold Fi
    rw [j8 h]
    exact h1
   ·rw [h2,t1];simp [cnt];omega
   ·rw [h3,t2]
    constructor
    ·rintro ((z|⟨p,z,e⟩)|⟨p,⟨s',ZB,z⟩,e⟩)
     ·exact .inl z
     ·exact .inr ⟨p,⟨s,by simp,z⟩,e⟩
     ·exact .inr ⟨p,⟨s',by simp [ZB],z⟩,e⟩
    ·rintro (z|⟨p,⟨s',ZB,z⟩,e⟩)
     ·exact .inl (.inl z)
     ·rcases List.mem_cons.mp ZB with rfl|ZB
      ·exact .inl (.inr ⟨p,z,e⟩)
      ·exact .inr ⟨p,⟨s',ZB,z⟩,e⟩
   ·have:=MX (m:=m0) (b:=(s.1.num,(s.1.den:Int))) (h:=s.2.1) (e:=s.2.2.map λe=>(e.num,(e.den:Int)))
    simp only [List.length_cons];omega
def PD (x p:Pl):Bool:=decide (x.1<p.1)||(decide (x.1=p.1)&&decide (x.2<=p.2))
def Bf (s:Bi) (p:Pl):Bool:=(decide (s.1<p.1)||(decide (s.1=p.1)&&decide (0<s.2.1+p.2)))&&(match s.2.2 with | none=>true|some e=>decide (p.1<e))
structure Ce (B:Nat) (s:Bi):Prop where
 b:Bd B s.1
 h:s.2.1=0\/s.2.1=1
 e:∀e,s.2.2=some e->s.1<e/\Bd B e
def tm (s:Bi) (p:Pl):Int:=(if PD (bp s) p=true then 1 else 0)-(if (ep s).any (PD · p)=true then 1 else 0)
theorem oJ {B:Nat} {s:Bi} {p:Pl} (ok:Ce B s) (hp:0<=p.2):tm s p=if Bf s p=true then 1 else 0:=by
 obtain ⟨b,h,e⟩:=s
 obtain ⟨q,i⟩:=p
 have hh:h=0\/h=1:=ok.h
 have hp:0<=i:=hp
 have e1:PD (bp (b,h,e)) (q,i)=(decide (b<q)||(decide (b=q)&&decide (0<h+i))):=by
  unfold PD bp
  congr 2
  exact decide_eq_decide.mpr (by show 1-h<=i↔0<h+i;omega)
 cases e with
 | none=>
   unfold tm Bf
   rw [e1]
   simp [ep]
 | some e=>
   have O9:b<e:=(ok.e e rfl).1
   have e2:(ep (b,h,some e)).any (PD · (q,i))= !decide (q<e):=by
    show PD (e,0) (q,i)=_
    unfold PD
    by_cases z:q<e
    ·have z1:¬e<q:=by grind
     have z2:¬e=q:=by grind
     simp [z,z1,z2]
    ·by_cases z1:e<q
     ·simp [z,z1]
     ·have z2:e=q:=by grind
      simp [z2,hp]
   unfold tm Bf
   rw [e1,e2]
   by_cases z:q<e
   ·simp [z]
   ·have z1:b<q:=by grind
    simp [z,z1]
def Hn (ss:List Bi) (p:Pl):Nat:=(ss.filter (Bf · p)).length
theorem Vi {B:Nat} {p:Pl} (hp:0<=p.2):∀{ss:List Bi},(∀s∈ss,Ce B s)->(Hn ss p:Int)=(ss.map λs=>tm s p).sum
 | [],_=>rfl
 | s::ss,h=>by
   have ih:=Vi hp (ss:=ss) λx hx=>h x (by simp [hx])
   have e:=oJ (p:=p) (h s (by simp)) hp
   rw [List.map_cons,List.sum_cons,<-ih,e]
   unfold Hn
   rw [List.filter_cons]
   split
   ·simp;omega
   ·simp
def NB (x p:Pl):Prop:=x.1<p.1\/(x.1=p.1/\x.2<p.2)
theorem Ln {a b c:Pl} (h:NB a b) (h2:NB b c):NB a c:=by
 unfold NB at *
 rcases h with h|⟨h,h'⟩ <;> rcases h2 with h2|⟨h2,oX⟩
 ·left;grind
 ·left;grind
 ·left;grind
 ·right;exact ⟨by grind,by omega⟩
theorem HK {x p:Pl}:PD x p=true↔NB x p\/x=p:=by
 obtain ⟨a,i⟩:=x
 obtain ⟨b,j⟩:=p
 unfold PD NB
 simp only [Bool.or_eq_true,Bool.and_eq_true,decide_eq_true_iff,Prod.mk.injEq]
 constructor
 ·rintro (h|⟨h,h2⟩)
  ·exact .inl (.inl h)
  ·by_cases e:i=j
   ·exact .inr ⟨h,e⟩
   ·exact .inl (.inr ⟨h,by omega⟩)
 ·rintro ((h|⟨h,h2⟩)|⟨h,h2⟩)
  ·exact .inl h
  ·exact .inr ⟨h,by omega⟩
  ·exact .inr ⟨h,by omega⟩
theorem NC {p:Pl}:¬NB p p:=by
 unfold NB
 rintro (h|⟨_,h⟩)
 ·grind
 ·omega
def UO (x:Pl):Option Pl->Bool|none=>false|some p=>PD x p
def gG (s:Bi) (o:Option Pl):Int:=(if UO (bp s) o=true then 1 else 0)-(if (ep s).any (UO · o)=true then 1 else 0)
def qZ:Option Pl->Pl->Prop|none,_=>True|some q,p=>NB q p
theorem K5 {x p:Pl} {o:Option Pl} (hx:UO x o=true\/x=p\/NB p x) (ho:qZ o p):PD x p=(UO x o||decide (x=p))/\¬(UO x o=true/\x=p):=by
 have h1:UO x o=true->NB x p:=λh=>by
  cases o with
  | none=>cases h
  | some q=>rcases HK.mp h with h|h
            ·exact Ln h ho
            ·rw [h];exact ho
 refine ⟨?_,λh=>by rw [h.2] at h1;exact NC (h1 (h.2 ▸ h.1))⟩
 rw [Bool.eq_iff_iff,Bool.or_eq_true,decide_eq_true_iff,HK]
 constructor
 ·rintro (h|h)
  ·rcases hx with z|z|z
   ·exact .inl z
   ·exact .inr z
   ·exact absurd (Ln h z) NC
  ·exact .inr h
 ·rintro (h|h)
  ·exact .inl (h1 h)
  ·exact .inr h
theorem aN {A:Bool} {E:Prop} [Decidable E] (h:¬(A=true/\E)):(if (A||decide E)=true then (1:Int) else 0)=(if A=true then 1 else 0)+if E then 1 else 0:=by
 cases A <;> by_cases e:E <;> simp_all
theorem gH {s:Bi} {p:Pl} {o:Option Pl} (hb:UO (bp s) o=true\/bp s=p\/NB p (bp s)) (he:∀x,ep s=some x->UO x o=true\/x=p\/NB p x) (ho:qZ o p):tm s p=gG s o+OV s p:=by
 obtain ⟨b1,b2⟩:=K5 hb ho
 unfold tm gG OV
 rw [b1,aN b2]
 cases e:ep s with
 | none=>simp
 | some x=>
   obtain ⟨e1,e2⟩:=K5 (he x e) ho
   have h1:(if (some x).any (PD · p)=true then (1:Int) else 0)=(if UO x o=true then 1 else 0)+if x=p then 1 else 0:=by
    show (if PD x p=true then (1:Int) else 0)=_
    rw [e1,aN e2]
   rw [h1]
   show _=(_-(if UO x o=true then (1:Int) else 0))+(_-(if some x=some p then (1:Int) else 0))
   have h2:(if some x=some p then (1:Int) else 0)=if x=p then 1 else 0:=by by_cases z:x=p <;> simp [z]
   rw [h2]
   omega
def Xx (X:List Pl):Prop:=X.Pairwise NB
def Ir (ss:List Bi):Int->List Pl->Prop
 | _, [] =>True
 | c,p::r=>(Hn ss p:Int)=c+cnt ss p/\Ir ss (Hn ss p) r
theorem Xg {α:Type} (f g:α->Int):∀xs:List α,(xs.map λx=>f x+g x).sum=(xs.map f).sum+(xs.map g).sum
 | [] =>rfl
 | x::xs=>by simp only [List.map_cons,List.sum_cons,Xg f g xs];omega
theorem N8 {B:Nat} {ss:List Bi} (ok:∀s∈ss,Ce B s):∀(X:List Pl) (o:Option Pl),Xx X->(∀p∈X,qZ o p/\0<=p.2)->(∀s∈ss,(UO (bp s) o=true\/bp s∈X)/\∀x,ep s=some x->UO x o=true\/x∈X)->Ir ss ((ss.map λs=>gG s o).sum) X
 | [],_,_,_,_=>True.intro
 | p::r,o,hs,ho,hk=>by
   obtain ⟨h1,h2⟩:=List.pairwise_cons.mp hs
   obtain ⟨op,p0⟩:=ho p (by simp)
   have cls:∀x,(UO x o=true\/x∈p::r)->UO x o=true\/x=p\/NB p x:=λx h=>by
    rcases h with h|h
    ·exact .inl h
    ·rcases List.mem_cons.mp h with h|h
     ·exact .inr (.inl h)
     ·exact .inr (.inr (h1 x h))
   have e:(Hn ss p:Int)=(ss.map λs=>gG s o).sum+cnt ss p:=by
    rw [Vi p0 ok]
    unfold cnt
    rw [<-Xg]
    congr 1
    apply List.map_congr_left
    intro s hs
    exact gH (cls _ (hk s hs).1) (λx ex=>cls x ((hk s hs).2 x ex)) op
   refine ⟨e, ?_⟩
   have:=N8 ok r (some p) h2 (λq hq=>⟨h1 q hq,(ho q (by simp [hq])).2⟩) (λs hs=>⟨?_,λx ex=> ?_⟩)
   ·rw [show (ss.map λs=>gG s (some p)).sum=(Hn ss p:Int) from (Vi p0 ok).symm] at this
    exact this
   ·rcases cls _ (hk s hs).1 with z|z|z
    ·exact .inl (by rw [show UO (bp s) (some p)=PD (bp s) p from rfl,(K5 (.inl z) op).1,z];rfl)
    ·exact .inl (HK.mpr (.inr z))
    ·rcases (hk s hs).1 with y|y
     ·exact .inl (by rw [show UO (bp s) (some p)=PD (bp s) p from rfl,(K5 (.inl y) op).1,y];rfl)
     ·rcases List.mem_cons.mp y with y|y
      ·exact .inl (HK.mpr (.inr y))
      ·exact .inr y
   ·rcases (hk s hs).2 x ex with y|y
    ·exact .inl (by rw [show UO x (some p)=PD x p from rfl,(K5 (.inl y) op).1,y];rfl)
    ·rcases List.mem_cons.mp y with y|y
     ·exact .inl (HK.mpr (.inr y))
     ·exact .inr y
def places (qs:List Rat):List Pl:=qs.flatMap λq=> [(q,0),(q,1)]
theorem B0 {qs:List Rat} {p:Pl}:p∈places qs↔p.1∈qs/\(p.2=0\/p.2=1):=by
 obtain ⟨a,i⟩:=p
 unfold places
 simp only [List.mem_flatMap,List.mem_cons,List.not_mem_nil,or_false,Prod.mk.injEq]
 constructor
 ·rintro ⟨q,hq,⟨rfl,rfl⟩|⟨rfl,rfl⟩⟩
  ·exact ⟨hq, .inl rfl⟩
  ·exact ⟨hq, .inr rfl⟩
 ·rintro ⟨h,h2⟩
  exact ⟨a,h,h2.elim (λz=> .inl ⟨rfl,z⟩) (λz=> .inr ⟨rfl,z⟩)⟩
theorem ED:∀{qs:List Rat},O6 qs->Xx (places qs)
 | [],_=>List.Pairwise.nil
 | q::r,h=>by
   obtain ⟨h1,h2⟩:=List.pairwise_cons.mp h
   have ih:=ED h2
   have lt:∀(i:Int),∀p∈places r,NB (q,i) p:=λi p hp=> .inl (h1 _ (B0.mp hp).1)
   show Xx ((q,0)::(q,1)::places r)
   refine List.pairwise_cons.mpr ⟨λp hp=> ?_,List.pairwise_cons.mpr ⟨lt 1,ih⟩⟩
   rcases List.mem_cons.mp hp with rfl|hp
   ·exact .inr ⟨rfl,by show (0:Int)<1;decide⟩
   ·exact lt 0 p hp
def CK (ss:List Bi):List Rat:=ss.flatMap λs=>s.1::s.2.2.toList
def DS (ss:List Bi):List Pl:=places (CO (CK ss))
theorem OJ {B:Nat} {ss:List Bi} (ok:∀s∈ss,Ce B s) {s:Bi} (hs:s∈ss):bp s∈DS ss/\∀x,ep s=some x->x∈DS ss:=by
 refine ⟨B0.mpr ⟨Be.mpr (List.mem_flatMap.mpr ⟨s,hs,by simp [bp]⟩), ?_⟩,λx ex=> ?_⟩
 ·have:=(ok s hs).h;unfold bp;simp only;omega
 ·obtain ⟨e,he,rfl⟩:=Option.map_eq_some_iff.mp ex
  exact B0.mpr ⟨Be.mpr (List.mem_flatMap.mpr ⟨s,hs,by simp [he]⟩), .inl rfl⟩
theorem HF {B:Nat} {ss:List Bi} (ok:∀s∈ss,Ce B s):Ir ss 0 (DS ss):=by
 have h:=N8 ok (DS ss) none (ED Bj) (λp hp=>⟨True.intro,by rcases (B0.mp hp).2 with z|z <;> omega⟩) (λs hs=>⟨.inr (OJ ok hs).1,λx ex=> .inr ((OJ ok hs).2 x ex)⟩)
 have:(ss.map λs=>gG s none).sum=0:=by
  clear h ok
  induction ss with
  | nil=>rfl
  | cons s ss ih=>
    rw [List.map_cons,List.sum_cons,ih]
    unfold gG
    cases ep s <;> rfl
 rw [this] at h
 exact h
def Cp (val:Pl->Option Int) (st:List (Pl×Int)×Int) (p:Pl):List (Pl×Int)×Int:=match val p with | some v=>(st.1 ++ [(p,st.2+v)],st.2+v)|none=>st
theorem S4 {ss:List Bi} {val:Pl->Option Int} (h1:∀p v,val p=some v->v=cnt ss p) (h2:∀p,val p=none->cnt ss p=0):∀(X:List Pl) (acc:List (Pl×Int)) (c:Int),Ir ss c X->(X.foldl (Cp val) (acc,c)).1=acc++(X.filter λp=>(val p).isSome).map λp=>(p,(Hn ss p:Int))
 | [],acc,c,_=>by simp
 | p::r,acc,c,h=>by
   rw [List.foldl_cons]
   cases e:val p with
   | none=>
     have hc:(Hn ss p:Int)=c:=by rw [h.1,h2 p e];omega
     rw [show Cp val (acc,c) p=(acc,c) by unfold Cp;rw [e],S4 h1 h2 r acc c (hc ▸ h.2),List.filter_cons,if_neg (by rw [e];decide)]
   | some v=>
     have hc:c+v=(Hn ss p:Int):=by rw [h.1,h1 p v e]
     rw [show Cp val (acc,c) p=(acc ++ [(p,c+v)],c+v) by unfold Cp;rw [e],hc,S4 h1 h2 r _ _ h.2,List.filter_cons,if_pos (by rw [e];rfl),List.map_cons,List.append_assoc]
     rfl
section
variable {ta tb td:AE} {r:AA} {τ:BE} {Q:PV->Prop} {QL:List PV->Prop} {m:List (FK×Int)}
def nE (xs:List PV) (Q:List PV->Prop):Prop:=match xs with | [.dct kvs] =>Q (kvs.map λp=>Vn p.1)|_=>False
instance pA:Wp (VG r τ QL) (r τ λxs=>nE xs QL):=⟨id⟩
instance rn:Wp (nE [.dct m] QL) (QL (m.map λp=>Vn p.1)):=⟨id⟩
class dI (m:List (FK×Int)) (k:FK) (i:outParam Int):Prop where
 e:BV m k=some i
def qc (m:List (FK×Int)) (k:FK) (Q:PV->Prop):Prop:=match BV m k with | some i=>Q (.int i)|none=>False
instance uZ:Wp (dJ ta tb td τ Q) (ta τ λx=>tb τ λy=>td τ λm=>lD m λkvs=>OU x y λk=>Q (.bl (BV kvs k).isSome)):=⟨id⟩
instance rj:Wp (Zi td ta tb τ Q) (td τ λm=>ta τ λx=>tb τ λy=>lD m λkvs=>OU x y λk=>qc kvs k Q):=⟨id⟩
instance ue {k:FK} {i:Int} [h:dI m k i] :Wp (qc m k Q) (Q (.int i)):=⟨λz=>by unfold qc;rw [h.e];exact z⟩
instance ud {R:List (FK×Int)->Prop}:Wp (lD (.dct m) R) (R m):=⟨id⟩
instance pB {q:Rat} {i:Int} {R:FK->Prop}:Wp (OU (fr q) (.int i) R) (R (FF (q,i))):=⟨id⟩
end
theorem cQ {v:PV} {xs:List PV} {m:List (FK×Int)} (hv:v= .tup xs\/v= .lst xs) (hl:xs.length<=1000) (h:Fi xs [] =some m) {Q:PV->Prop} (q:Q (.dct m)):Hh [v] Q:=by
 have hz:2*xs.length+2<sizeLine:=Nat.lt_of_le_of_lt (by omega:_<=2002) (Nat.lt_of_lt_of_le (by decide:2002<2003) (Nat.le_of_ble_eq_true rfl))
 rcases hv with rfl|rfl
 ·exact ⟨hz,m,h,q⟩
 ·exact ⟨hz,m,h,q⟩
def un (k:FK):Rat:=mkRat k.1.1 k.1.2.toNat
theorem kX (p:Pl):un (FF p)=p.1:=by
 unfold un FF
 show mkRat p.1.num ((p.1.den:Int).toNat)=p.1
 rw [Int.toNat_natCast]
 exact Rat.mkRat_self p.1
theorem jM (p:Pl):Vn (FF p)= .tup [fr p.1, .int p.2] :=rfl
def ox (x:Pl×Int):PV:= .tup [fr x.1.1, .int x.1.2, .int x.2]
def Rn (ss:List Bi) (key:Pl->Bool):List (Pl×Int):=((DS ss).filter key).map λp=>(p,(Hn ss p:Int))
theorem YT {v:PV} {xs:List PV} {ss:List Bi} {B:Nat} (hv:v= .tup xs\/v= .lst xs) (hr:Gq xs ss) (ok:∀s∈ss,Ce B s) (hl:ss.length<=400) (hB:B<=4000) {Q:PV->Prop} (q:∀key:Pl->Bool,(∀p,key p=true↔J8 ss p)->Q (.lst ((Rn ss key).map ox))):HA [v] Q:=by
 obtain ⟨m,t1,t2,t3,t4⟩:=Qu [] hr
 have hx:=hr.length
 have kk:∀p:Pl,(BV m (FF p)).isSome=true↔J8 ss p:=λp=>by
  rw [gM,t3]
  constructor
  ·rintro (z|⟨p',z,e⟩)
   ·cases z
   ·rw [Rg e];exact z
  ·exact λz=> .inr ⟨p,z,rfl⟩
 have q':=q (λp=>(BV m (FF p)).isSome) kk
 have v1:∀p w,BV m (FF p)=some w->w=cnt ss p:=λp w e=>by
  have:=t2 p
  rw [e] at this
  simpa [BV] using this
 have v2:∀p,BV m (FF p)=none->cnt ss p=0:=λp e=>by
  have:=t2 p
  rw [e] at this
  simp [BV] at this
  omega
 have wk:=S4 v1 v2 (DS ss) [] 0 (HF ok)
 have mk:∀k∈m,∃p,k.1=FF p/\J8 ss p:=λk hk=>by
  rcases (t3 k.1).mp (List.mem_map.mpr ⟨k,hk,rfl⟩) with z|⟨p,z,e⟩
  ·cases z
  ·exact ⟨p,e,z⟩
 have ms:∀x,x∈m.map (λk=>un k.1)↔x∈CK ss:=λx=>by
  rw [List.mem_map]
  unfold CK
  rw [List.mem_flatMap]
  constructor
  ·rintro ⟨k,hk,rfl⟩
   obtain ⟨p,e,s,hs,z⟩:=mk k hk
   rw [e,kX]
   refine ⟨s,hs, ?_⟩
   rcases z with z|z
   ·rw [<-z];simp [bp]
   ·obtain ⟨e',he,rfl⟩:=Option.map_eq_some_iff.mp z
    simp [he]
  ·rintro ⟨s,hs,hx⟩
   have go:∀p:Pl,J8 ss p->∃a∈m,un a.1=p.1:=λp hp=>by
    obtain ⟨a,ha,e⟩:=List.mem_map.mp ((t3 (FF p)).mpr (.inr ⟨p,hp,rfl⟩))
    exact ⟨a,ha,by rw [e,kX]⟩
   rcases List.mem_cons.mp hx with rfl|hx
   ·exact go (bp s) ⟨s,hs, .inl rfl⟩
   ·have hx:s.2.2=some x:=by simpa using hx
    exact go (x,0) ⟨s,hs, .inr (by unfold ep;rw [hx];rfl)⟩
 have bm:∀x∈m.map (λk=>un k.1),Bd B x:=λx h=>by
  obtain ⟨s,hs,hx⟩:=List.mem_flatMap.mp ((ms x).mp h)
  rcases List.mem_cons.mp hx with rfl|hx
  ·exact (ok s hs).b
  ·exact ((ok s hs).e x (by simpa using hx)).2
 have er:CO (m.map λk=>un k.1)=CO (CK ss):=bY ms
 have ml:m.length<=800:=by simp at t4;omega
 apply WF
 ac_rfl
 refine cQ hv (by omega) t1 ?_
 ac_rfl
 refine Ea (λk:FK×Int=>Vn k.1) fr (λk=>un k.1) (λk=>k∈m) (λk hk R hR=> ?_) m [] (λ_ h=>h) ?_
 ·obtain ⟨p,e,_⟩:=mk k hk
  rw [e,kX] at hR
  rw [e,jM]
  repeat' array_get_dec
  exact hR
 ac_rfl
 rw [List.nil_append]
 refine Qf (.inl rfl) (by rw [List.length_map];omega) bm hB ?_
 rw [er]
 have rl:(CO (CK ss)).length<=800:=by rw [<-er];exact Nat.le_trans E2 (by rw [List.length_map];omega)
 ac_rfl
 refine FB fr (λus vs τ=>∃z4 z5,τ= [some (.val v),some (.val (.dct m)),some (.own (((places us).foldl (Cp λp=>BV m (FF p)) ([],0)).1.map ox)),some (.val (.int ((places us).foldl (Cp λp=>BV m (FF p)) ([],0)).2)),z4,z5]) ?_ ?_ ⟨_,_,rfl⟩
 ·rintro τ ⟨z4,z5,rfl⟩
  repeat' array_get_dec
  have e:Rn ss (λp=>(BV m (FF p)).isSome)=((places (CO (CK ss))).foldl (Cp λp=>BV m (FF p)) ([],0)).1:=by
   rw [show places (CO (CK ss))=DS ss from rfl,wk];rfl
  rw [e] at q'
  exact q'
 ·rintro us c vs e τ R hR ⟨z4,z5,rfl⟩
  have ep:places (us ++ [c])=places us ++ [(c,0),(c,1)] :=by unfold places;simp
  have es:(places (us ++ [c])).foldl (Cp λp=>BV m (FF p)) ([],0)=Cp (λp=>BV m (FF p)) (Cp (λp=>BV m (FF p)) ((places us).foldl (Cp λp=>BV m (FF p)) ([],0)) (c,0)) (c,1):=by rw [ep,List.foldl_append];rfl
  have al:((places us).foldl (Cp λp=>BV m (FF p)) ([],0)).1.length<=2*us.length:=by
   have go:∀(X:List Pl) (st:List (Pl×Int)×Int),(X.foldl (Cp λp=>BV m (FF p)) st).1.length<=st.1.length+X.length:=by
    intro X
    induction X with
    | nil=>intro st;simp
    | cons p X ih=>
      intro st
      have h1:=ih (Cp (λp=>BV m (FF p)) st p)
      have h2:(Cp (λp=>BV m (FF p)) st p).1.length<=st.1.length+1:=by
       unfold Cp;split <;> simp
      rw [List.foldl_cons,List.length_cons];omega
   have h1:=go (places us) ([],0)
   have h2:(places us).length=2*us.length:=by
    unfold places
    clear hR es ep e h1
    induction us with
    | nil=>rfl
    | cons u us ih=>rw [List.flatMap_cons,List.length_append,ih];simp;omega
   simp at h1;omega
  have ul:us.length<=800:=by have:=congrArg List.length e;simp at this;omega
  generalize (places us).foldl (Cp λp=>BV m (FF p)) ([],0)=st at *
  obtain ⟨L,n⟩:=st
  have fin:∀(L2:List (Pl×Int)) n2 z4 z5,(L2,n2)=Cp (λp=>BV m (FF p)) (Cp (λp=>BV m (FF p)) (L,n) (c,0)) (c,1)->R [some (.val v),some (.val (.dct m)),some (.own (L2.map ox)),some (.val (.int n2)),z4,z5] :=λL2 n2 z4 z5 h=>hR _ ⟨z4,z5,by rw [es,<-h]⟩
  clear hR
  have n0:(Rat.num 0:Int)=0:=rfl
  have d0:((Rat.den 0:Nat):Int)=1:=rfl
  have al':L.length<=1600:=by have h:L.length<=2*us.length:=al;omega
  cases e0:BV m (FF (c,0)) with
  | none=>
    cases e1:BV m (FF (c,1)) with
    | none=>
      have f:=fin L n
      repeat' array_get_dec
      simp only [n0,d0,e0]
      repeat' array_get_dec
      simp only [n0,d0,e1]
      repeat' array_get_dec
      exact f _ _ (by unfold Cp;simp only [e0,e1])
    | some v1=>
      have f:=fin (L ++ [((c,1),n+v1)]) (n+v1)
      rw [List.map_append] at f
      haveI:dI m (FF (c,1)) v1:=⟨e1⟩
      repeat' array_get_dec
      simp only [n0,d0,e0]
      repeat' array_get_dec
      simp only [n0,d0,e1]
      repeat' array_get_dec
      exact f _ _ (by unfold Cp;simp only [e0,e1])
  | some v0=>
    haveI:dI m (FF (c,0)) v0:=⟨e0⟩
    cases e1:BV m (FF (c,1)) with
    | none=>
      have f:=fin (L ++ [((c,0),n+v0)]) (n+v0)
      rw [List.map_append] at f
      repeat' array_get_dec
      simp only [n0,d0,e0]
      repeat' array_get_dec
      simp only [n0,d0,e1]
      repeat' array_get_dec
      exact f _ _ (by unfold Cp;simp only [e0,e1])
    | some v1=>
      have f:=fin (L ++ [((c,0),n+v0)] ++ [((c,1),n+v0+v1)]) (n+v0+v1)
      rw [List.map_append,List.map_append] at f
      haveI:dI m (FF (c,1)) v1:=⟨e1⟩
      repeat' array_get_dec
      simp only [n0,d0,e0]
      repeat' array_get_dec
      simp only [n0,d0,e1]
      repeat' array_get_dec
      exact f _ _ (by unfold Cp;simp only [e0,e1])
def stepI (st:List Bi×Option Pl) (x:Pl×Bool):List Bi×Option Pl:=
 match st.2,x.2 with
 | none,true=>(st.1,some x.1)
 | some b,false=>(st.1 ++ [(b.1,1-b.2,some x.1.1)],none)
 | _,_=>st
def Tx (st:List Bi×Option Pl):List Bi:=match st.2 with | none=>st.1|some b=>st.1 ++ [(b.1,1-b.2,none)]
def IN (X:List (Pl×Bool)):List Bi:=Tx (X.foldl stepI ([],none))
def ly:Option Pl->PV|none=> .non|some b=> .tup [fr b.1, .int (1-b.2)]
theorem Yv {st:List Bi×Option Pl} {x:Pl×Bool}:(stepI st x).1.length<=st.1.length+1:=by
 unfold stepI
 split <;> simp
theorem Lj:∀(X:List (Pl×Bool)) (st:List Bi×Option Pl),(X.foldl stepI st).1.length<=st.1.length+X.length
 | [],st=>by simp
 | x::X,st=>by
   have h1:=Lj X (stepI st x)
   have h2:=Yv (st:=st) (x:=x)
   rw [List.foldl_cons,List.length_cons];omega
theorem Lo:∀{ss:List Bi},(CK ss).length<=2*ss.length
 | [] =>by simp [CK]
 | s::ss=>by
   have ih:=Lo (ss:=ss)
   unfold CK at *
   rw [List.flatMap_cons,List.length_append,List.length_cons,List.length_cons]
   have:s.2.2.toList.length<=1:=by cases s.2.2 <;> simp
   omega
theorem JO:∀{qs:List Rat},(places qs).length=2*qs.length
 | [] =>rfl
 | q::qs=>by
   have ih:=JO (qs:=qs)
   unfold places at *
   rw [List.flatMap_cons,List.length_append,ih,List.length_cons];simp;omega
theorem aZ {ss:List Bi} {key:Pl->Bool}:(Rn ss key).length<=4*ss.length:=by
 unfold Rn DS
 rw [List.length_map]
 have h1:=List.length_filter_le key (places (CO (CK ss)))
 have h2:=JO (qs:=CO (CK ss))
 have h3:=E2 (xs:=CK ss)
 have h4:=Lo (ss:=ss)
 omega
theorem VU {v:PV} {xs:List PV} {ss:List Bi} {B:Nat} {n:Int} (hv:v= .tup xs\/v= .lst xs) (hr:Gq xs ss) (ok:∀s∈ss,Ce B s) (hl:ss.length<=400) (hB:B<=4000) {Q:PV->Prop} (q:∀key:Pl->Bool,(∀p,key p=true↔J8 ss p)->Q (.tup ((IN ((Rn ss key).map λx=>(x.1,decide (n<=x.2)))).map Cg))):El [v, .int n] Q:=by
 apply Uh
 ac_rfl
 refine YT hv hr ok hl hB λkey hk=> ?_
 have q':=q key hk
 have ll:(Rn ss key).length<=2000:=Nat.le_trans aZ (by omega)
 clear q
 generalize Rn ss key=Ls at *
 ac_rfl
 refine FB ox (λus vs τ=>∃z4 z5 z6,τ= [some (.val v),some (.val (.int n)),some (.own (((us.map λx=>(x.1,decide (n<=x.2))).foldl stepI ([],none)).1.map Cg)),some (.val (ly ((us.map λx=>(x.1,decide (n<=x.2))).foldl stepI ([],none)).2)),z4,z5,z6]) ?_ ?_ ⟨_,_,_,rfl⟩
 ·rintro τ ⟨z4,z5,z6,rfl⟩
  have al:=Lj (Ls.map λx=>(x.1,decide (n<=x.2))) ([],none)
  unfold IN at q'
  generalize (Ls.map λx=>(x.1,decide (n<=x.2))).foldl stepI ([],none)=st at *
  obtain ⟨L,b⟩:=st
  have al':L.length<=2000:=by have h:L.length<=0+_:=al;rw [List.length_map] at h;omega
  cases b with
  | none=>
    have q2:Q (.tup (L.map Cg)):=q'
    show F8 _ [some (.val v),some (.val (.int n)),some (.own (L.map Cg)),some (.val .non),z4,z5,z6]
    repeat' array_get_dec
    exact q2
  | some b=>
    have q2:Q (.tup ((L ++ [(b.1,1-b.2,none)]).map Cg)):=q'
    rw [List.map_append] at q2
    show F8 _ [some (.val v),some (.val (.int n)),some (.own (L.map Cg)),some (.val (.tup [fr b.1, .int (1-b.2)])),z4,z5,z6]
    repeat' array_get_dec
    exact q2
 ·rintro us c vs e τ R hR ⟨z4,z5,z6,rfl⟩
  have al:=Lj (us.map λx=>(x.1,decide (n<=x.2))) ([],none)
  have ul:us.length<=2000:=by have:=congrArg List.length e;simp at this;omega
  have es:((us ++ [c]).map λx=>(x.1,decide (n<=x.2))).foldl stepI ([],none)=stepI ((us.map λx=>(x.1,decide (n<=x.2))).foldl stepI ([],none)) (c.1,decide (n<=c.2)):=by rw [List.map_append,List.foldl_append];rfl
  generalize (us.map λx=>(x.1,decide (n<=x.2))).foldl stepI ([],none)=st at *
  obtain ⟨L,b⟩:=st
  have al':L.length<=2000:=by have h:L.length<=0+_:=al;rw [List.length_map] at h;omega
  have fin:∀L2 b2 z4 z5 z6,(L2,b2)=stepI (L,b) (c.1,decide (n<=c.2))->R [some (.val v),some (.val (.int n)),some (.own (L2.map Cg)),some (.val (ly b2)),z4,z5,z6] :=λL2 b2 z4 z5 z6 h=>hR _ ⟨z4,z5,z6,by rw [es,<-h]⟩
  clear hR
  obtain ⟨p,k⟩:=c
  show MD 3 (Ai (Au 4) (Ai (Au 5) (Ai (Au 6) CJ))) (.tup [fr p.1, .int p.2, .int k]) _ _
  cases b with
  | none=>
    show MD 3 (Ai (Au 4) (Ai (Au 5) (Ai (Au 6) CJ))) (.tup [fr p.1, .int p.2, .int k]) [some (.val v),some (.val (.int n)),some (.own (L.map Cg)),some (.val .non),z4,z5,z6] _
    repeat' array_get_dec
    ·rename_i h;exact fin L (some p) _ _ _ (by unfold stepI;simp only [decide_eq_true h])
    ·rename_i h;exact fin L none _ _ _ (by unfold stepI;simp only [decide_eq_false h])
  | some b=>
    show MD 3 (Ai (Au 4) (Ai (Au 5) (Ai (Au 6) CJ))) (.tup [fr p.1, .int p.2, .int k]) [some (.val v),some (.val (.int n)),some (.own (L.map Cg)),some (.val (.tup [fr b.1, .int (1-b.2)])),z4,z5,z6] _
    repeat' array_get_dec
    ·rename_i h
     have f:=fin (L ++ [(b.1,1-b.2,some p.1)]) none (some (.val (fr p.1))) (some (.val (.int p.2))) (some (.val (.int k))) (by unfold stepI;simp only [decide_eq_false (show ¬n<=k by omega)])
     rw [List.map_append] at f
     exact f
    ·rename_i h;exact fin L (some b) _ _ _ (by unfold stepI;simp only [decide_eq_true (show n<=k by omega)])
def VD (In key:Pl->Bool):Bool->List Pl->Prop
 | _, [] =>True
 | c,p::r=>(key p=false->In p=c)/\VD In key (In p) r
theorem WN {st:List Bi×Option Pl} {p:Pl} {i:Bool}:(stepI st (p,i)).2.isSome=i:=by
 obtain ⟨L,b⟩:=st
 cases b <;> cases i <;> rfl
theorem WM {st:List Bi×Option Pl} {p:Pl} {i:Bool} (h:i=st.2.isSome):stepI st (p,i)=st:=by
 obtain ⟨L,b⟩:=st
 cases b <;> cases i <;> first | rfl|cases h
theorem Ht {In key:Pl->Bool}:∀(X:List Pl) (st:List Bi×Option Pl),VD In key st.2.isSome X->(X.map λp=>(p,In p)).foldl stepI st=((X.filter key).map λp=>(p,In p)).foldl stepI st
 | [],st,_=>rfl
 | p::r,st,h=>by
   rw [List.map_cons,List.foldl_cons,List.filter_cons]
   cases k:key p with
   | true=>
     rw [if_pos rfl,List.map_cons,List.foldl_cons]
     exact Ht r _ (by rw [WN];exact h.2)
   | false=>
     have e:=h.1 k
     rw [if_neg (by decide),WM e]
     exact Ht r st (by have:=h.2;rw [e] at this;exact this)
theorem JQ {ss:List Bi} {key:Pl->Bool} {n:Int} (hk:∀p,key p=false->cnt ss p=0):∀(X:List Pl) (c:Int),Ir ss c X->VD (λp=>decide (n<=(Hn ss p:Int))) key (decide (n<=c)) X
 | [],_,_=>True.intro
 | p::r,c,h=>⟨λk=>(by show decide (n<=(Hn ss p:Int))=_;rw [h.1,hk p k,Int.add_zero]),JQ hk r _ h.2⟩
def canon (n:Int) (ss:List Bi):List Bi:=IN ((DS ss).map λp=>(p,decide (n<=(Hn ss p:Int))))
theorem Tt {ss:List Bi} {p:Pl} (h:¬J8 ss p):cnt ss p=0:=by
 have key:∀ss:List Bi,(∀s∈ss,¬(bp s=p\/ep s=some p))->cnt ss p=0:=by
  intro ss
  induction ss with
  | nil=>intro _;rfl
  | cons s ss ih=>
    intro h
    have h1:=h s (by simp)
    have e:cnt (s::ss) p=OV s p+cnt ss p:=by simp [cnt]
    rw [e,ih λx hx=>h x (by simp [hx])]
    unfold OV
    rw [if_neg λz=>h1 (.inl z),if_neg λz=>h1 (.inr z)]
    rfl
 exact key ss λs hs z=>h ⟨s,hs,z⟩
theorem Zo {ss:List Bi} {B:Nat} {n:Int} {key:Pl->Bool} (ok:∀s∈ss,Ce B s) (hn:0<n) (hk:∀p,key p=true↔J8 ss p):IN ((Rn ss key).map λx=>(x.1,decide (n<=x.2)))=canon n ss:=by
 unfold canon IN Rn
 rw [List.map_map]
 have h:=Ht (In:=λp=>decide (n<=(Hn ss p:Int))) (key:=key) (DS ss) ([],none) (by
  have:=JQ (n:=n) (key:=key) (λp z=>Tt λy=>by rw [(hk p).mpr y] at z;cases z) (DS ss) 0 (HF ok)
  rw [decide_eq_false (by omega)] at this
  exact this)
 rw [h]
 rfl
theorem VT {v:PV} {xs:List PV} {ss:List Bi} {B:Nat} {n:Int} (hv:v= .tup xs\/v= .lst xs) (hr:Gq xs ss) (ok:∀s∈ss,Ce B s) (hl:ss.length<=400) (hB:B<=4000) (hn:0<n) {Q:PV->Prop} (q:Q (.tup ((canon n ss).map Cg))):El [v, .int n] Q:=
 VU hv hr ok hl hB λkey hk=>by rw [Zo ok hn hk];exact q
theorem U0 {v:PV} {xs:List PV} {ss:List Bi} {B:Nat} (hv:v= .tup xs\/v= .lst xs) (hr:Gq xs ss) (ok:∀s∈ss,Ce B s) (hl:ss.length<=400) (hB:B<=4000) {Q:PV->Prop} (q:Q (.tup ((canon 1 ss).map Cg))):Ew [v] Q:=by
 apply SU
 repeat' array_get_dec
 exact VT hv hr ok hl hB (by decide) q
theorem Rb {ss:List Bi} {p:Pl}:decide ((1:Int)<=(Hn ss p:Int))=ss.any (Bf · p):=by
 rw [Bool.eq_iff_iff,decide_eq_true_iff,List.any_eq_true]
 unfold Hn
 constructor
 ·intro h
  obtain ⟨s,hs⟩:=List.exists_mem_of_length_pos (l:=ss.filter (Bf · p)) (by omega)
  have:=List.mem_filter.mp hs
  exact ⟨s,this.1,this.2⟩
 ·rintro ⟨s,hs,h⟩
  have:=List.length_pos_of_mem (List.mem_filter.mpr ⟨hs,h⟩:s∈ss.filter (Bf · p))
  omega
def DQ (In:Pl->Bool):List Pl->Option Pl->List Bi
 | [],none=> []
 | [],some b=> [(b.1,1-b.2,none)]
 | p::r,none=>if In p=true then DQ In r (some p) else DQ In r none
 | p::r,some b=>if In p=true then DQ In r (some b) else (b.1,1-b.2,some p.1)::DQ In r none
theorem OZ {In:Pl->Bool}:∀(X:List Pl) (acc:List Bi) (b:Option Pl),Tx ((X.map λp=>(p,In p)).foldl stepI (acc,b))=acc++DQ In X b
 | [],acc,none=>by simp [Tx,DQ]
 | [],acc,some b=>by simp [Tx,DQ]
 | p::r,acc,none=>by
   rw [List.map_cons,List.foldl_cons]
   unfold DQ
   cases e:In p with
   | true=>exact OZ r acc (some p)
   | false=>exact OZ r acc none
 | p::r,acc,some b=>by
   rw [List.map_cons,List.foldl_cons]
   unfold DQ
   cases e:In p with
   | true=>exact OZ r acc (some b)
   | false=>
     show Tx ((r.map λp=>(p,In p)).foldl stepI (acc ++ [(b.1,1-b.2,some p.1)],none))=acc++((b.1,1-b.2,some p.1)::DQ In r none)
     rw [OZ r _ none];simp
theorem Qg {In:Pl->Bool} {X:List Pl}:IN (X.map λp=>(p,In p))=DQ In X none:=by
 unfold IN;rw [OZ];rfl
theorem M7 {q p:Pl} {e:Option Rat} (hq:q.2=0\/q.2=1) (hp:0<=p.2):Bf (q.1,1-q.2,e) p=(PD q p&&(match e with | none=>true|some e=>decide (p.1<e))):=by
 unfold Bf PD
 congr 2
 congr 1
 exact decide_eq_decide.mpr (by show 0<1-q.2+p.2↔q.2<=p.2;omega)
def Iw (In:Pl->Bool):Bool->List Pl->Prop
 | _, [] =>True
 | c,p::r=>(c=true->In p=false->p.2=0)/\Iw In (In p) r
theorem XN {In:Pl->Bool}:∀(X:List Pl),Xx X->(∀x∈X,x.2=0\/x.2=1)->
 (Iw In false X->(∀p:Pl,0<=p.2->(∀x∈X,NB p x)->(DQ In X none).any (Bf · p)=false)/\∀p∈X,(DQ In X none).any (Bf · p)=In p)/\
 (Iw In true X->∀q:Pl,(q.2=0\/q.2=1)->(∀x∈X,NB q x)->(∀p:Pl,0<=p.2->(∀x∈X,NB p x)->(DQ In X (some q)).any (Bf · p)=PD q p)/\∀p∈X,(DQ In X (some q)).any (Bf · p)=In p)
 | [],_,_=>⟨λ_=>⟨λp _ _=>rfl,λp hp=>by cases hp⟩,λ_ q hq _=>⟨λp hp _=>by show (Bf (q.1,1-q.2,none) p||false)=_;rw [M7 hq hp];simp,λp hp=>by cases hp⟩⟩
 | x::r,hs,h01=>by
   obtain ⟨h1,h2⟩:=List.pairwise_cons.mp hs
   have ih:=XN (In:=In) r h2 λy hy=>h01 y (by simp [hy])
   have x01:=h01 x (by simp)
   have x0:0<=x.2:=by omega
   have lr:∀p:Pl,(∀y∈x::r,NB p y)->∀y∈r,NB p y:=λp h y hy=>h y (by simp [hy])
   have nl:∀p:Pl,NB p x->PD x p=false:=λp h=>by
    rw [<-Bool.not_eq_true,HK]
    rintro (z|z)
    ·exact NC (Ln z h)
    ·rw [z] at h;exact NC h
   have lx:PD x x=true:=HK.mpr (.inr rfl)
   refine ⟨λhd=> ?_,λhd q hq tM=> ?_⟩
   ·unfold DQ
    cases e:In x with
    | true=>
      have d2:=hd.2;rw [e] at d2
      obtain ⟨a1,a2⟩:=ih.2 d2 x x01 h1
      rw [if_pos rfl]
      refine ⟨λp p0 hp=> ?_,λp hp=> ?_⟩
      ·rw [a1 p p0 (lr p hp),nl p (hp x (by simp))]
      ·rcases List.mem_cons.mp hp with rfl|hp
       ·rw [a1 p x0 h1,lx,e]
       ·exact a2 p hp
    | false=>
      have d2:=hd.2;rw [e] at d2
      obtain ⟨a1,a2⟩:=ih.1 d2
      rw [if_neg (by decide)]
      refine ⟨λp p0 hp=>a1 p p0 (lr p hp),λp hp=> ?_⟩
      rcases List.mem_cons.mp hp with rfl|hp
      ·rw [a1 p x0 h1,e]
      ·exact a2 p hp
   ·unfold DQ
    have qx:PD q x=true:=HK.mpr (.inl (tM x (by simp)))
    cases e:In x with
    | true=>
      have d2:=hd.2;rw [e] at d2
      obtain ⟨a1,a2⟩:=ih.2 d2 q hq (lr q tM)
      rw [if_pos rfl]
      refine ⟨λp p0 hp=>a1 p p0 (lr p hp),λp hp=> ?_⟩
      rcases List.mem_cons.mp hp with rfl|hp
      ·rw [a1 p x0 h1,qx,e]
      ·exact a2 p hp
    | false=>
      have d2:=hd.2;rw [e] at d2
      obtain ⟨a1,a2⟩:=ih.1 d2
      have xz:=hd.1 rfl e
      rw [if_neg (by decide)]
      have off:∀p:Pl,(p=x\/NB x p)->¬p.1<x.1:=λp h=>by
       rcases h with h|h|⟨h,_⟩ <;> grind
      refine ⟨λp p0 hp=> ?_,λp hp=> ?_⟩
      ·have lt:p.1<x.1:=by
        rcases hp x (by simp) with z|⟨_,z⟩
        ·exact z
        ·omega
       show (Bf (q.1,1-q.2,some x.1) p||(DQ In r none).any (Bf · p))=_
       rw [M7 hq p0,a1 p p0 (lr p hp)]
       simp [lt]
      ·show (Bf (q.1,1-q.2,some x.1) p||(DQ In r none).any (Bf · p))=_
       rcases List.mem_cons.mp hp with rfl|hp
       ·rw [M7 hq x0,a1 p x0 h1,e]
        simp [off p (.inl rfl)]
       ·rw [M7 hq (by have:=h01 p (by simp [hp]);omega),a2 p hp]
        simp [off p (.inr (h1 p hp))]
theorem Uf {In:Pl->Bool} (P:Rat->Prop):∀(X:List Pl) (b:Option Pl),Xx X->(∀x∈X,(x.2=0\/x.2=1)/\P x.1)->Iw In b.isSome X->(∀q,b=some q->(q.2=0\/q.2=1)/\P q.1/\∀x∈X,NB q x)->
 ∀s∈DQ In X b,P s.1/\(s.2.1=0\/s.2.1=1)/\∀e,s.2.2=some e->s.1<e/\P e
 | [],none,_,_,_,_=>λs hs=>by cases hs
 | [],some q,_,_,_,hb=>λs hs=>by
   obtain ⟨h1,h2,_⟩:=hb q rfl
   simp only [DQ,List.mem_singleton] at hs
   subst hs
   exact ⟨h2,by show 1-q.2=0\/1-q.2=1;omega,λe he=>by cases he⟩
 | x::r,b,hs,h01,hd,hb=>by
   obtain ⟨h1,h2⟩:=List.pairwise_cons.mp hs
   have ih:=λb d hb=>Uf (In:=In) P r b h2 (λy hy=>h01 y (by simp [hy])) d hb
   have d2:=hd.2
   cases b with
   | none=>
     unfold DQ
     cases e:In x with
     | true=>
       rw [if_pos rfl]
       rw [e] at d2
       exact ih (some x) d2 λq hq=>by cases hq;exact ⟨(h01 x (by simp)).1,(h01 x (by simp)).2,h1⟩
     | false=>
       rw [if_neg (by decide)]
       rw [e] at d2
       exact ih none d2 λq hq=>by cases hq
   | some q=>
     obtain ⟨q1,q2,q3⟩:=hb q rfl
     unfold DQ
     cases e:In x with
     | true=>
       rw [if_pos rfl]
       rw [e] at d2
       exact ih (some q) d2 λq' hq=>by cases hq;exact ⟨q1,q2,λy hy=>q3 y (by simp [hy])⟩
     | false=>
       rw [if_neg (by decide)]
       rw [e] at d2
       have xz:=hd.1 rfl e
       intro s hs
       rcases List.mem_cons.mp hs with rfl|hs
       ·refine ⟨q2,by show 1-q.2=0\/1-q.2=1;omega,λe' he=> ?_⟩
        cases he
        refine ⟨?_,(h01 x (by simp)).2⟩
        rcases q3 x (by simp) with z|⟨_,z⟩
        ·exact z
        ·omega
       ·exact ih none d2 (λq hq=>by cases hq) s hs
theorem JF {ss:List Bi}:∀(X:List Pl) (c:Int),(∀x∈X,x.2=0\/x.2=1)->Ir ss c X->Iw (λp=>ss.any (Bf · p)) (decide (1<=c)) X
 | [],_,_,_=>True.intro
 | p::r,c,h01,h=>by
   have ih:=JF r (Hn ss p) (λx hx=>h01 x (by simp [hx])) h.2
   rw [Rb] at ih
   refine ⟨λhc hi=> ?_,ih⟩
   rcases h01 p (by simp) with z|z
   ·exact z
   ·have hc:1<=c:=by simpa using hc
    have hi:ss.any (Bf · p)=false:=hi
    rw [<-Rb] at hi
    have hi:¬(1:Int)<=Hn ss p:=by simpa using hi
    have c0:0<=cnt ss p:=by
     have go:∀ss:List Bi,0<=cnt ss p:=by
      intro ss
      induction ss with
      | nil=>exact Int.le_refl _
      | cons s ss ih=>
        have e:cnt (s::ss) p=OV s p+cnt ss p:=by simp [cnt]
        have o:0<=OV s p:=by
         unfold OV
         have:¬ep s=some p:=λy=>by
          obtain ⟨e',_,e2⟩:=Option.map_eq_some_iff.mp y
          have:(0:Int)=p.2:=congrArg Prod.snd e2
          omega
         rw [if_neg this]
         split <;> decide
        omega
     exact go ss
    have:=h.1
    omega
theorem Sv {ss:List Bi}:∀x∈DS ss,x.2=0\/x.2=1:=λx hx=>(B0.mp hx).2
theorem QR {ss:List Bi}:canon 1 ss=DQ (λp=>ss.any (Bf · p)) (DS ss) none:=by
 unfold canon
 rw [<-Qg]
 congr 1
 apply List.map_congr_left
 intro p _
 rw [Rb]
theorem Oy {ss:List Bi} {B:Nat} (ok:∀s∈ss,Ce B s):Iw (λp=>ss.any (Bf · p)) false (DS ss):=JF (DS ss) 0 Sv (HF ok)
theorem VQ {ss:List Bi} {B:Nat} (ok:∀s∈ss,Ce B s):∀s∈canon 1 ss,s.1∈CK ss/\(s.2.1=0\/s.2.1=1)/\∀e,s.2.2=some e->s.1<e/\e∈CK ss:=by
 rw [QR]
 exact Uf (· ∈CK ss) (DS ss) none (ED Bj) (λx hx=>⟨Sv x hx,Be.mp (B0.mp hx).1⟩) (Oy ok) λq hq=>by cases hq
theorem XE {ss:List Bi} {B:Nat} (ok:∀s∈ss,Ce B s):∀x∈CK ss,Bd B x:=λx h=>by
 obtain ⟨s,hs,hx⟩:=List.mem_flatMap.mp h
 rcases List.mem_cons.mp hx with rfl|hx
 ·exact (ok s hs).b
 ·exact ((ok s hs).e x (by simpa using hx)).2
theorem Zq {ss:List Bi} {B:Nat} (ok:∀s∈ss,Ce B s):∀s∈canon 1 ss,Ce B s:=λs hs=>by
 obtain ⟨h1,h2,h3⟩:=VQ ok s hs
 exact ⟨XE ok _ h1,h2,λe he=>⟨(h3 e he).1,XE ok _ (h3 e he).2⟩⟩
theorem IM (f:Rat->Bool):∀qs:List Rat,(places qs).filter (λp=>f p.1)=places (qs.filter f)
 | [] =>rfl
 | q::qs=>by
   show ((q,0)::(q,1)::places qs).filter (λp=>f p.1)=_
   rw [List.filter_cons,List.filter_cons,List.filter_cons,IM f qs]
   cases f q <;> rfl
theorem QK:∀{qs:List Rat} {x:Rat},O6 qs->At qs x (qs.filter λq=>decide (q<x)).length
 | [],x,_=>⟨Nat.le_refl _,by simp,by simp⟩
 | q::r,x,h=>by
   obtain ⟨h1,h2⟩:=List.pairwise_cons.mp h
   obtain ⟨a1,a2,a3⟩:=QK (x:=x) h2
   rw [List.filter_cons]
   by_cases e:q<x
   ·rw [if_pos (decide_eq_true e),List.length_cons]
    refine ⟨by rw [List.length_cons];omega,λy hy=> ?_,λy hy=>a3 y (by simpa using hy)⟩
    rw [List.take_succ_cons] at hy
    rcases List.mem_cons.mp hy with rfl|hy
    ·exact e
    ·exact a2 y hy
   ·have hn:∀y∈q::r,¬y<x:=λy hy=>by
     rcases List.mem_cons.mp hy with rfl|hy
     ·exact e
     ·have:=h1 y hy;grind
    have hf:r.filter (λq=>decide (q<x))= [] :=List.filter_eq_nil_iff.mpr λy hy=>by simpa using hn y (by simp [hy])
    rw [if_neg (by simpa using e),hf]
    exact ⟨Nat.zero_le _,by simp,λy hy=>hn y (by simpa using hy)⟩
def Dd (ms:List Rat) (ss:List Bi):List Pl:=places (CO (ms++CK ss))
theorem Jz {B:Nat} {ms:List Rat} {ss:List Bi} (ok:∀s∈ss,Ce B s):Ir ss 0 (Dd ms ss):=by
 have kin:∀s∈ss,bp s∈Dd ms ss/\∀x,ep s=some x->x∈Dd ms ss:=λs hs=>by
  obtain ⟨h1,h2⟩:=OJ ok hs
  have up:∀x∈DS ss,x∈Dd ms ss:=λx hx=>by
   obtain ⟨a,b⟩:=B0.mp hx
   exact B0.mpr ⟨Be.mpr (List.mem_append_right _ (Be.mp a)),b⟩
  exact ⟨up _ h1,λx ex=>up _ (h2 x ex)⟩
 have h:=N8 ok (Dd ms ss) none (ED Bj) (λp hp=>⟨True.intro,by rcases (B0.mp hp).2 with z|z <;> omega⟩) (λs hs=>⟨.inr (kin s hs).1,λx ex=> .inr ((kin s hs).2 x ex)⟩)
 have z:(ss.map λs=>gG s none).sum=0:=by
  clear h kin ok
  induction ss with
  | nil=>rfl
  | cons s ss ih=>
    rw [List.map_cons,List.sum_cons,ih]
    unfold gG
    cases ep s <;> rfl
 rw [z] at h
 exact h
theorem VP {B:Nat} {ms:List Rat} {ss:List Bi} {n:Int} (ok:∀s∈ss,Ce B s) (hn:0<n):IN ((Dd ms ss).map λp=>(p,decide (n<=(Hn ss p:Int))))=canon n ss:=by
 have hk:∀p:Pl,decide (p.1∈CK ss)=false->cnt ss p=0:=λp hp=>Tt λ⟨s,hs,z⟩=>by
  have hp:¬p.1∈CK ss:=by simpa using hp
  refine hp (List.mem_flatMap.mpr ⟨s,hs, ?_⟩)
  rcases z with z|z
  ·rw [<-z];simp [bp]
  ·obtain ⟨e',he,rfl⟩:=Option.map_eq_some_iff.mp z
   simp [he]
 have sk:=JQ (n:=n) (ss:=ss) (key:=λp=>decide (p.1∈CK ss)) hk (Dd ms ss) 0 (Jz ok)
 rw [decide_eq_false (by omega)] at sk
 have h:=Ht (Dd ms ss) ([],none) sk
 have e1:(Dd ms ss).filter (λp=>decide (p.1∈CK ss))=DS ss:=by
  unfold Dd DS
  rw [IM (λx=>decide (x∈CK ss))]
  congr 1
  refine Sw (Bj.filter _) Bj λx=> ?_
  rw [List.mem_filter,Be,Be,decide_eq_true_iff]
  exact ⟨λh=>h.2,λh=>⟨List.mem_append_right _ h,h⟩⟩
 rw [e1] at h
 show Tx _=Tx _
 rw [h]
theorem To {B:Nat} {ss:List Bi} (ok:∀s∈ss,Ce B s) {p:Pl} (hp:p.2=0\/p.2=1):(canon 1 ss).any (Bf · p)=ss.any (Bf · p):=by
 have hm:p∈Dd [p.1] ss:=B0.mpr ⟨Be.mpr (by simp),hp⟩
 have h01:∀x∈Dd [p.1] ss,x.2=0\/x.2=1:=λx hx=>(B0.mp hx).2
 have dr:=JF (Dd [p.1] ss) 0 h01 (Jz ok)
 have e:canon 1 ss=DQ (λp=>ss.any (Bf · p)) (Dd [p.1] ss) none:=by
  rw [<-VP (ms:= [p.1]) ok (by decide),<-Qg]
  congr 1
  apply List.map_congr_left
  intro q _
  rw [Rb]
 rw [e]
 exact ((XN (Dd [p.1] ss) (ED Bj) h01).1 dr).2 p hm
def hN (L:List Bi) (p:Pl):Nat:=(L.filter (Bf · p)).length
theorem Wl {α:Type} (f:α->Bool):∀xs:List α,Jw (xs.map λx=> .bl (f x))=some (xs.map f)
 | [] =>rfl
 | x::xs=>by
   show (Jw (xs.map λx=> .bl (f x))).map (f x :: ·)=_
   rw [Wl f xs];rfl
theorem pY (xs:List PV):IB xs (some 1) none=xs.drop 1:=by
 unfold IB
 rw [HT.sIx_none,show ((1:Int))=((1:Nat):Int) from rfl,HT.sIx_nat]
 cases xs with
 | nil=>rfl
 | cons x xs=>
   rw [Nat.min_eq_left (by simp)]
   simp
theorem cj (a b:List Rat):ES (a.map fr) (b.map fr)=(a.zip b).map λp=> .tup [fr p.1,fr p.2] :=by
 unfold ES
 rw [List.zipWith_map,List.zip,List.map_zipWith]
theorem OA:∀(X:List (Pl×Bool)) (st:List Bi×Option Pl),2*(X.foldl stepI st).1.length+(if (X.foldl stepI st).2.isSome then 1 else 0)<=2*st.1.length+(if st.2.isSome then 1 else 0)+X.length
 | [],st=>Nat.le_refl _
 | x::X,st=>by
   have h1:=OA X (stepI st x)
   have h2:2*(stepI st x).1.length+(if (stepI st x).2.isSome then 1 else 0)<=2*st.1.length+(if st.2.isSome then 1 else 0)+1:=by
    obtain ⟨L,b⟩:=st
    obtain ⟨p,c⟩:=x
    cases b <;> cases c <;> simp [stepI] <;> omega
   rw [List.foldl_cons,List.length_cons];omega
theorem Yn (X:List (Pl×Bool)):2*(IN X).length<=X.length+1:=by
 have h:=OA X ([],none)
 unfold IN
 generalize X.foldl stepI ([],none)=st at *
 obtain ⟨L,b⟩:=st
 cases b <;> simp [Tx] at * <;> omega
theorem VO {n:Int} {ss:List Bi}:(canon n ss).length<=2*ss.length:=by
 unfold canon DS
 have h:=Yn ((places (CO (CK ss))).map λp=>(p,decide (n<=(Hn ss p:Int))))
 have a1:=E2 (xs:=CK ss)
 have a2:=Lo (ss:=ss)
 have a3:=JO (qs:=CO (CK ss))
 rw [List.length_map] at h
 omega
inductive Tk:List PV->List (List Bi)->Prop where
 | nil:Tk [] []
 | cons {x:PV} {xs:List PV} {ss:List Bi} {r:List PV} {rs:List (List Bi)} (h:x= .tup xs\/x= .lst xs) (hr:Gq xs ss) (t:Tk r rs):Tk (x::r) (ss::rs)
theorem Tk.length:∀{xs:List PV} {ss:List (List Bi)},Tk xs ss->xs.length=ss.length
 | _,_, .nil=>rfl
 | _,_, .cons _ _ t=>by simp [t.length]
theorem lt_size {k n:Nat} (h:k<=n) (hn:n<1000000):k<sizeLine:=Nat.lt_of_le_of_lt h (Nat.lt_of_lt_of_le hn (Nat.le_of_ble_eq_true rfl))
def lin (p q:T3) (s:Rat):T3:=(p.1+s*(q.1-p.1),p.2.1+s*(q.2.1-p.2.1),p.2.2+s*(q.2.2-p.2.2))
theorem jR {a0 D b e m x X:Rat} (hD:D≠0) (h:e-b≠0):x+(m-a0)/D*X=(x+(b-a0)/D*X)+(m-b)/(e-b)*((x+(e-a0)/D*X)-(x+(b-a0)/D*X)):=by
 grind
theorem YN {a c:C4} {b e m:Rat} (h1:a.1<c.1) (h2:b<e):inter a c m=lin (inter a c b) (inter a c e) ((m-b)/(e-b)):=by
 have n1:c.1-a.1≠0:=by grind
 have n2:e-b≠0:=by grind
 simp only [inter,lin]
 rw [<-jR n1 n2,<-jR n1 n2,<-jR n1 n2]
theorem aX (p q:T3):lin p q 0=p:=by
 obtain ⟨a,b,c⟩:=p
 simp [lin,Rat.zero_mul,Rat.add_zero]
theorem L0 {b e m:Rat} {p q:T3} (O9:b<e) (h1:b<=m) (h2:m<=e):∀{a:C4} {r:List C4},Hi (a::r)->(∀c∈r,¬(b<c.1/\c.1<e))->spotG a r b=some p->spotG a r e=some q->spotG a r m=some (lin p q ((m-b)/(e-b)))
 | a, [],_,_,hp,_=>by cases hp
 | a,c::r,hr,hn,hp,hq=>by
   have p8:=(List.pairwise_cons.mp hr).1 c (by simp)
   have d9:Hi (c::r):=(List.pairwise_cons.mp hr).2
   by_cases k1:c.1<b
   ·simp only [spotG] at hp hq ⊢
    rw [if_pos k1] at hp
    rw [if_pos (by grind)] at hq ⊢
    exact L0 O9 h1 h2 d9 (λx hx=>hn x (by simp [hx])) hp hq
   ·simp only [spotG] at hp hq ⊢
    rw [if_neg k1] at hp
    by_cases k2:b=c.1
    ·subst k2
     rw [JG p8] at hp
     cases hp
     by_cases k3:c.1<m
     ·rw [if_pos k3]
      rw [if_pos (by grind)] at hq
      refine L0 O9 h1 h2 d9 (λx hx=>hn x (by simp [hx])) ?_ hq
      cases r with
      | nil=>cases hq
      | cons d r=>
        have M8:=(List.pairwise_cons.mp d9).1 d (by simp)
        simp only [spotG]
        rw [if_neg (by grind),MJ M8]
     ·have e1:m=c.1:=by grind
      subst e1
      rw [if_neg k3,JG p8]
      have z:(c.1-c.1)/(e-c.1)=0:=by grind
      rw [z,aX]
    ·have k4:¬c.1<e:=λz=>hn c (by simp) ⟨by grind,z⟩
     cases hp
     rw [if_neg k4] at hq
     cases hq
     rw [if_neg (by grind)]
     rw [<-YN p8 O9]
theorem Qs {b e m:Rat} {p q:T3} {cs:List C4} (hr:Hi cs) (O9:b<e) (h1:b<=m) (h2:m<=e) (hn:∀c∈cs,¬(b<c.1/\c.1<e)) (hp:spotC cs b=some p) (hq:spotC cs e=some q):spotC cs m=some (lin p q ((m-b)/(e-b))):=by
 cases cs with
 | nil=>cases hp
 | cons a r=>
   simp only [spotC] at hp hq ⊢
   by_cases k:b<a.1
   ·rw [if_pos k] at hp;cases hp
   ·rw [if_neg k] at hp
    rw [if_neg (by grind)] at hq ⊢
    exact L0 O9 h1 h2 hr (λc hc=>hn c (by simp [hc])) hp hq
theorem Ce.mono {B C:Nat} {s:Bi} (h:Ce B s) (k:B<=C):Ce C s:=⟨h.b.mono k,h.h,λe he=>⟨(h.e e he).1,(h.e e he).2.mono k⟩⟩
def l9 (r s:Bi):Prop:=∃e,r.2.2=some e/\(e<s.1\/(e=s.1/\s.2.1=0))
def Sep (ss:List Bi):Prop:=ss.Pairwise l9
theorem Zm (q:Pl) (e:Option Rat):bp (q.1,1-q.2,e)=q:=by
 obtain ⟨a,b⟩:=q
 show (a,1-(1-b))=(a,b)
 rw [show 1-(1-b)=b by omega]
theorem Fw {In:Pl->Bool}:∀(X:List Pl) (b:Option Pl),∀s∈DQ In X b,bp s∈X\/b=some (bp s)
 | [],none=>λs hs=>by cases hs
 | [],some q=>λs hs=>by
   simp only [DQ,List.mem_singleton] at hs
   subst hs
   exact .inr (by rw [Zm])
 | x::r,none=>λs hs=>by
   unfold DQ at hs
   split at hs
   ·rcases Fw r (some x) s hs with h|h
    ·exact .inl (by simp [h])
    ·cases h;exact .inl (by simp)
   ·rcases Fw r none s hs with h|h
    ·exact .inl (by simp [h])
    ·cases h
 | x::r,some q=>λs hs=>by
   unfold DQ at hs
   split at hs
   ·rcases Fw r (some q) s hs with h|h
    ·exact .inl (by simp [h])
    ·exact .inr h
   ·rcases List.mem_cons.mp hs with rfl|hs
    ·exact .inr (by rw [Zm])
    ·rcases Fw r none s hs with h|h
     ·exact .inl (by simp [h])
     ·cases h
theorem XO {In:Pl->Bool}:∀(X:List Pl) (b:Option Pl),Xx X->(∀x∈X,x.2=0\/x.2=1)->Iw In b.isSome X->Sep (DQ In X b)
 | [],none,_,_,_=> .nil
 | [],some q,_,_,_=>List.pairwise_singleton _ _
 | x::r,b,hs,h01,hd=>by
   obtain ⟨h1,h2⟩:=List.pairwise_cons.mp hs
   have ih:=λb d=>XO (In:=In) r b h2 (λy hy=>h01 y (by simp [hy])) d
   have d2:=hd.2
   cases b with
   | none=>
     unfold DQ
     cases e:In x with
     | true=>rw [if_pos rfl];rw [e] at d2;exact ih (some x) d2
     | false=>rw [if_neg (by decide)];rw [e] at d2;exact ih none d2
   | some q=>
     unfold DQ
     cases e:In x with
     | true=>rw [if_pos rfl];rw [e] at d2;exact ih (some q) d2
     | false=>
       rw [if_neg (by decide)]
       rw [e] at d2
       have xz:=hd.1 rfl e
       refine List.pairwise_cons.mpr ⟨λs hs=> ?_,ih none d2⟩
       rcases Fw r none s hs with h|h
       ·refine ⟨x.1,rfl, ?_⟩
        have k:=h1 _ h
        have k2:=h01 _ (List.mem_cons_of_mem x h)
        have k2:1-s.2.1=0\/1-s.2.1=1:=k2
        rcases k with k|⟨k,k3⟩
        ·exact .inl k
        ·have k3:x.2<1-s.2.1:=k3
         exact .inr ⟨k,by omega⟩
       ·cases h
theorem X6 {B:Nat} {ss:List Bi} (ok:∀s∈ss,Ce B s):Sep (canon 1 ss):=by
 rw [QR]
 exact XO (DS ss) none (ED Bj) Sv (Oy ok)
theorem C8 {B:Nat} {s:Bi} {m x:Rat} (os:Ce B s) (hx:s.2.2=some x):Bf s (m,0)=true↔(s.1<m\/(s.1=m/\s.2.1=1))/\m<x:=by
 unfold Bf
 rw [hx]
 have:0<s.2.1+0↔s.2.1=1:=by have:=os.h;omega
 simp only [Bool.and_eq_true,Bool.or_eq_true,decide_eq_true_eq,this]
section
variable {B:Nat} {s:Bi} {a:List Bi} {e:Rat}
theorem Dc (h:Sep (s::a)) (ok:∀t∈s::a,Ce B t) (fin:∀t∈s::a,∃x,t.2.2=some x) (he:s.2.2=some e) {m:Rat} (hm:m<=e):a.any (Bf · (m,0))=false:=by
 rw [List.any_eq_false]
 intro t ht z
 obtain ⟨x,hx⟩:=fin t (by simp [ht])
 have k:=(C8 (ok t (by simp [ht])) hx).mp z
 obtain ⟨e',h1,h2⟩:=(List.pairwise_cons.mp h).1 t ht
 rw [he] at h1
 cases h1
 rcases h2 with h2|⟨h2,h3⟩
 ·rcases k.1 with k1|⟨k1,k2⟩ <;> grind
 ·rcases k.1 with k1|⟨k1,k2⟩
  ·grind
  ·omega
end
theorem HM {a b:Rat} (h:a<b):a<(a+b)/2/\(a+b)/2<b:=⟨by grind,by grind⟩
theorem Qp {B C:Nat} {s t:Bi} {a b:List Bi} {e f:Rat} (ha:Sep (s::a)) (oka:∀x∈s::a,Ce B x) (fa:∀x∈s::a,∃y,x.2.2=some y) (hb:Sep (t::b)) (okb:∀x∈t::b,Ce C x) (fb:∀x∈t::b,∃y,x.2.2=some y) (he:s.2.2=some e) (hf:t.2.2=some f)
 (h:∀m:Rat,(s::a).any (Bf · (m,0))=(t::b).any (Bf · (m,0))):¬s.1<t.1:=by
 intro z
 have os:=oka s (by simp)
 have ot:=okb t (by simp)
 have l1:=(os.e e he).1
 have l2:=(ot.e f hf).1
 obtain ⟨m,m1,m2,m3⟩:∃m,s.1<m/\m<e/\m<t.1:=by
  by_cases w:e<t.1
  ·exact ⟨_,(HM l1).1,(HM l1).2,by have:=(HM l1).2;grind⟩
  ·exact ⟨_,(HM z).1,by have:=(HM z).2;grind,(HM z).2⟩
 have k:=h m
 rw [List.any_cons,List.any_cons,(C8 os he).mpr ⟨.inl m1,m2⟩,Dc hb okb fb hf (by grind)] at k
 have n:Bf t (m,0)=false:=Bool.eq_false_iff.mpr λy=>by
  have:=(C8 ot hf).mp y
  grind
 rw [n] at k
 simp at k
theorem Oo {B C:Nat}:∀{a b:List Bi},Sep a->Sep b->(∀x∈a,Ce B x)->(∀x∈b,Ce C x)->(∀x∈a,∃y,x.2.2=some y)->(∀x∈b,∃y,x.2.2=some y)->(∀m:Rat,a.any (Bf · (m,0))=b.any (Bf · (m,0)))->a=b
 | [], [],_,_,_,_,_,_,_=>rfl
 | s::a, [],_,_,ok,_,fa,_,h=>by
   obtain ⟨e,he⟩:=fa s (by simp)
   have os:=ok s (by simp)
   have l:=HM (os.e e he).1
   have k:=h ((s.1+e)/2)
   rw [List.any_cons,(C8 os he).mpr ⟨.inl l.1,l.2⟩] at k
   simp at k
 | [],s::a,_,_,_,ok,_,fa,h=>by
   obtain ⟨e,he⟩:=fa s (by simp)
   have os:=ok s (by simp)
   have l:=HM (os.e e he).1
   have k:=h ((s.1+e)/2)
   rw [List.any_cons,(C8 os he).mpr ⟨.inl l.1,l.2⟩] at k
   simp at k
 | s::a,t::b,ha,hb,oka,okb,fa,fb,h=>by
   obtain ⟨e,he⟩:=fa s (by simp)
   obtain ⟨f,hf⟩:=fb t (by simp)
   have os:=oka s (by simp)
   have ot:=okb t (by simp)
   have l1:=(os.e e he).1
   have l2:=(ot.e f hf).1
   have n1:=Qp ha oka fa hb okb fb he hf h
   have n2:=Qp hb okb fb ha oka fa hf he λm=>(h m).symm
   have e1:s.1=t.1:=by grind
   have A:∀m,(s::a).any (Bf · (m,0))=(Bf s (m,0)||a.any (Bf · (m,0))):=λm=>by rw [List.any_cons]
   have Bb:∀m,(t::b).any (Bf · (m,0))=(Bf t (m,0)||b.any (Bf · (m,0))):=λm=>by rw [List.any_cons]
   have e2:s.2.1=t.2.1:=by
    have k:=h s.1
    rw [A,Bb,Dc ha oka fa he (by grind),Dc hb okb fb hf (by grind),Bool.or_false,Bool.or_false] at k
    have k1:=C8 (m:=s.1) os he
    have k2:=C8 (m:=s.1) ot hf
    have:s.2.1=1↔t.2.1=1:=by
     constructor
     ·intro z
      have:=k2.mp (by rw [<-k];exact k1.mpr ⟨.inr ⟨rfl,z⟩,l1⟩)
      rcases this.1 with w|⟨_,w⟩
      ·grind
      ·exact w
     ·intro z
      have:=k1.mp (by rw [k];exact k2.mpr ⟨.inr ⟨e1.symm,z⟩,by grind⟩)
      rcases this.1 with w|⟨_,w⟩
      ·grind
      ·exact w
    have:=os.h
    have:=ot.h
    omega
   have e3:e=f:=by
    by_cases w:e<f
    ·have k:=h e
     rw [A,Bb,Dc ha oka fa he (by grind),(C8 ot hf).mpr ⟨.inl (by grind),w⟩] at k
     have n:Bf s (e,0)=false:=Bool.eq_false_iff.mpr λy=>by
      have:=(C8 os he).mp y
      grind
     rw [n] at k
     simp at k
    ·by_cases w2:f<e
     ·have k:=h f
      rw [A,Bb,Dc hb okb fb hf (by grind),(C8 os he).mpr ⟨.inl (by grind),w2⟩] at k
      have n:Bf t (f,0)=false:=Bool.eq_false_iff.mpr λy=>by
       have:=(C8 ot hf).mp y
       grind
      rw [n] at k
      simp at k
     ·grind
   have est:s=t:=by
    obtain ⟨x,y,z⟩:=s
    obtain ⟨x',y',z'⟩:=t
    simp only at e1 e2 he hf
    subst e1 e2 he hf e3
    rfl
   subst est
   congr 1
   refine Oo (List.pairwise_cons.mp ha).2 (List.pairwise_cons.mp hb).2 (λx hx=>oka x (by simp [hx])) (λx hx=>okb x (by simp [hx])) (λx hx=>fa x (by simp [hx])) (λx hx=>fb x (by simp [hx])) λm=> ?_
   by_cases w:m<=e
   ·rw [Dc ha oka fa he w,Dc hb okb fb he w]
   ·have k:=h m
    have n:Bf s (m,0)=false:=Bool.eq_false_iff.mpr λy=>by
     have:=(C8 os he).mp y
     grind
    rw [A,Bb,n] at k
    simpa using k
abbrev Iq:AS:=
 (Ab (FY (O8 (aV 0)) (MD 2 (Ai (Au 2) (Ai (Au 3) CJ))) (VF 1 C7 (AX RQ (aV 3) (AN 2 G9 (AB (aV 1) (AB (aV 3) AL))))))
   (Ar (aV 1)))
abbrev Gk:AS:=
 (Ab (Ao (aC (.int 1)) (Au 1))
   Iq)
def CY:AF:=A0 4 Gk
theorem KU {x0:PV} {Q:PV->Prop} (h:Gk ⟨λ_=>Q .non,Q,λ_=>False,λ_=>False⟩ [some (.val x0),none,none,none]):CY [x0] Q:=h
def Us (xs:List Rat):Nat:=xs.foldl (λN r=>N*(r.den/Nat.gcd N r.den)) 1
theorem XX (xs:List Rat) (r:Rat):Us (xs ++ [r])=Us xs*(r.den/Nat.gcd (Us xs) r.den):=by unfold Us;rw [List.foldl_append];rfl
theorem fg {N d:Nat} (hN:0<N) (hd:0<d):0<N*(d/Nat.gcd N d)/\N ∣ N*(d/Nat.gcd N d)/\d ∣ N*(d/Nat.gcd N d)/\N*(d/Nat.gcd N d)<=N*d:=by
 have g:Nat.gcd N d ∣ d:=Nat.gcd_dvd_right ..
 have gp:0<Nat.gcd N d:=Nat.gcd_pos_of_pos_right _ hd
 refine ⟨Nat.mul_pos hN (Nat.div_pos (Nat.le_of_dvd hd g) gp),Nat.dvd_mul_right .., ?_,Nat.mul_le_mul_left _ (Nat.div_le_self ..)⟩
 rw [<-Nat.mul_div_assoc _ g]
 exact Nat.dvd_lcm_right ..
theorem Se {W:Nat}:∀(n:Nat) (xs:List Rat),xs.length=n->(∀x∈xs,Bd W x)->0<Us xs/\(∀x∈xs,x.den ∣ Us xs)/\Us xs<2^(n*W+1)
 | 0,xs,e,_=>by
   have:xs= [] :=List.length_eq_zero_iff.mp e
   subst this
   exact ⟨by decide,by simp,by simp [Us]⟩
 | n+1,xs,e,h=>by
   obtain ⟨ys,r,rfl⟩:∃ys r,xs=ys ++ [r] :=⟨xs.dropLast,xs.getLast (by intro z;subst z;cases e),(List.dropLast_concat_getLast _).symm⟩
   have el:ys.length=n:=by simpa using e
   obtain ⟨h1,h2,h3⟩:=Se n ys el λx hx=>h x (by simp [hx])
   have br:=(h r (by simp)).bot
   rw [XX]
   obtain ⟨k1,k2,k3,k4⟩:=fg h1 r.den_pos
   refine ⟨k1,λx hx=> ?_, ?_⟩
   ·rcases List.mem_append.mp hx with hx|hx
    ·exact Nat.dvd_trans (h2 x hx) k2
    ·simp at hx;subst hx;exact k3
   ·refine Nat.lt_of_le_of_lt k4 ?_
    have:=ab h3 br
    rw [show n*W+1+W=(n+1)*W+1 by rw [Nat.succ_mul];omega] at this
    exact this
theorem Ys {v:PV} {xs:List Rat} {W:Nat} (hv:v= .lst (xs.map fr)) (hx:∀x∈xs,Bd W x) (hl:xs.length<=6) (hW:W<=1400) {Q:PV->Prop} (q:Q (.int (Us xs:Nat))):CY [v] Q:=by
 subst hv
 apply KU
 ac_rfl
 refine FB fr (λus vs τ=>∃z2 z3,τ= [some (.val (.lst (xs.map fr))),some (.val (.int (Us us:Nat))),z2,z3]) ?_ ?_ ⟨_,_,rfl⟩
 ·rintro τ ⟨z2,z3,rfl⟩
  ac_rfl
  exact q
 ·rintro us c vs e τ R hR ⟨z2,z3,rfl⟩
  have hu:∀x∈us,Bd W x:=λx gk=>hx x (by rw [<-e];simp [gk])
  have ul:us.length<=6:=by rw [<-e] at hl;simp at hl;omega
  obtain ⟨h1,h2,h3⟩:=Se us.length us rfl hu
  have bc:=(hx c (by rw [<-e];simp)).bot
  have mm:us.length*W<=6*1400:=Nat.mul_le_mul ul hW
  have g0:0<Nat.gcd (Us us) c.den:=Nat.gcd_pos_of_pos_right _ c.den_pos
  have gl:Nat.gcd (Us us) c.den<2^8900:=Ap (Nat.lt_of_le_of_lt (Nat.le_of_dvd c.den_pos (Nat.gcd_dvd_right ..)) bc) (by omega)
  ac_rfl
  refine MC _ _ _ ?_
  ac_rfl
  refine ⟨⟨by omega,by simpa using gl⟩, ?_⟩
  have ed:((c.den:Nat):Int).fdiv ((Nat.gcd (Us us) c.den:Nat):Int)=((c.den/Nat.gcd (Us us) c.den:Nat):Int):=by
   rw [Int.fdiv_eq_ediv_of_nonneg _ (by omega),Int.natCast_ediv]
  rw [ed]
  have dl:c.den/Nat.gcd (Us us) c.den<2^1400:=Ap (Nat.lt_of_le_of_lt (Nat.div_le_self ..) bc) hW
  ac_rfl
  refine ⟨MulOk.of (m:=8401) (n:=1400) (by simpa using Ap h3 (by omega)) (by rw [Int.natAbs_natCast];exact dl), ?_⟩
  exact hR _ ⟨some (.val (.int c.num)),some (.val (.int c.den)),by rw [XX,Int.natCast_mul];rfl⟩
abbrev LU:AS:=
 (Ab (EY 3 KD (AB (A3 (AB (aV 6) (AB (aV 7) AL))) AL))
   (EY 3 KD (AB (A3 (AB (N2 Fb (aV 6)) (AB (N2 Fb (aV 7)) AL))) AL)))
abbrev LS:AS:=
 (Ab (Ao (AX C7 (AX Ak (aV 5) (aC (.int 0))) (AX RQ (aV 2) (AX Ak (aV 5) (aC (.int 1))))) (Au 7))
   LU)
abbrev PP:AS:=
 (Ab (Ao (AX C7 (AX Ak (aV 4) (aC (.int 0))) (AX RQ (aV 2) (AX Ak (aV 4) (aC (.int 1))))) (Au 6))
   LS)
abbrev PR:AS:=
 (Ab (FY (gX (AB (aV 0) (AB (aV 1) AL))) (MD 2 (Ai (Au 4) (Ai (Au 5) CJ))) PP)
   (Ar (A3 (AB (aV 2) (AB (aV 3) AL)))))
abbrev PQ:AS:=
 (Ab (JB (DF AL) 3)
   PR)
abbrev Nh:AS:=
 (Ab (Ao (AN 1 CY (AB (AX BJ (aV 0) (aV 1)) AL)) (Au 2))
   PQ)
def Ev:AF:=A0 8 Nh
theorem SN {x0 x1:PV} {Q:PV->Prop} (h:Nh ⟨λ_=>Q .non,Q,λ_=>False,λ_=>False⟩ [some (.val x0),some (.val x1),none,none,none,none,none,none]):Ev [x0,x1] Q:=h
def Er (N:Nat) (r:Rat):Int:=r.num*((N:Int).fdiv (r.den:Int))
theorem HY {N:Nat} {r:Rat} (h:r.den ∣ N):(Er N r:Rat)=r*N:=by
 obtain ⟨k,rfl⟩:=h
 have hd:=r.den_pos
 unfold Er
 rw [Int.natCast_mul,Int.mul_fdiv_cancel_left _ (by omega),Rat.intCast_mul]
 have hn:((r.den:Int):Rat)≠0:=λz=>by
  have:(r.den:Int)=0:=Rat.intCast_inj.mp z
  omega
 have e:r=(r.num:Rat)/((r.den:Int):Rat):=by rw [<-Rat.divInt_eq_div,Rat.num_divInt_den]
 have e2:r*((r.den:Int):Rat)=r.num:=by
  conv=>lhs;arg 1;rw [e]
  grind
 rw [<-e2,show ((r.den*k:Nat):Rat)=((r.den:Int):Rat)*((k:Int):Rat) by rw [<-Rat.intCast_mul,<-Int.natCast_mul,Rat.intCast_natCast]]
 grind
abbrev NA (p:Int×Int):PV:= .tup [.int p.1, .int p.2]
def Vz (t:T3):PV:= .lst [fr t.1,fr t.2.1,fr t.2.2]
structure Pc where
 b:Rat
 e:Rat
 o0:T3
 o1:T3
def Pc.six (p:Pc):List Rat:= [p.o0.1,p.o0.2.1,p.o0.2.2,p.o1.1,p.o1.2.1,p.o1.2.2]
def Pc.N (p:Pc):Nat:=Us p.six
def Pc.lns (p:Pc):List (Int×Int):= [(Er p.N p.o0.1,Er p.N p.o1.1),(-Er p.N p.o0.1, -Er p.N p.o1.1),(Er p.N p.o0.2.1,Er p.N p.o1.2.1),(-Er p.N p.o0.2.1, -Er p.N p.o1.2.1),(Er p.N p.o0.2.2,Er p.N p.o1.2.2),(-Er p.N p.o0.2.2, -Er p.N p.o1.2.2)]
def nJ (p:Pc):PV:= .tup [fr p.b,fr p.e, .int p.N, .lst (p.lns.map NA)]
theorem cI {W:Nat} {p:Pc} (h0:EW W p.o0) (h1:EW W p.o1):∀x∈p.six,Bd W x:=by
 intro x hx
 simp only [Pc.six,List.mem_cons,List.not_mem_nil,or_false] at hx
 rcases hx with rfl|rfl|rfl|rfl|rfl|rfl
 ·exact h0.x
 ·exact h0.y
 ·exact h0.z
 ·exact h1.x
 ·exact h1.y
 ·exact h1.z
theorem Ww {N d k:Nat} (h:N<2^k):((N:Int).fdiv (d:Int)).natAbs<2^k:=by
 rw [Int.fdiv_eq_ediv_of_nonneg _ (by omega),<-Int.natCast_ediv,Int.natAbs_natCast]
 exact Nat.lt_of_le_of_lt (Nat.div_le_self ..) h
theorem aY {p:Pc} {W:Nat} (h0:EW W p.o0) (h1:EW W p.o1) (hW:W<=1400) {Q:PV->Prop} (q:Q (.tup [.int p.N, .lst (p.lns.map NA)])):Ev [Vz p.o0,Vz p.o1] Q:=by
 have hs:=cI h0 h1
 obtain ⟨k1,k2,k3⟩:=Se 6 p.six rfl hs
 have n0:(p.N:Nat)<2^8401:=Ap k3 (by omega)
 have dv:∀r:Rat,Bd W r->Tf (p.N:Int) (r.den:Int)/\MulOk r.num ((p.N:Int).fdiv (r.den:Int)):=λr br=>
  ⟨⟨BX r,by simpa using Ap br.bot (by omega)⟩,MulOk.of (m:=1400) (n:=8401) (Ap br.top hW) (Ww n0)⟩
 unfold Vz
 apply SN
 repeat' array_get_dec
 refine Ys (xs:=p.six) (W:=W) rfl hs (by show 6<=6;omega) hW ?_
 have q:Q (.tup [.int p.N, .lst [NA (Er p.N p.o0.1,Er p.N p.o1.1),NA (-Er p.N p.o0.1, -Er p.N p.o1.1),NA (Er p.N p.o0.2.1,Er p.N p.o1.2.1),NA (-Er p.N p.o0.2.1, -Er p.N p.o1.2.1),NA (Er p.N p.o0.2.2,Er p.N p.o1.2.2),NA (-Er p.N p.o0.2.2, -Er p.N p.o1.2.2)]]):=q
 unfold Er at q
 rw [show Us p.six=p.N from rfl]
 generalize p.N=N at *
 repeat' array_get_dec
 refine ⟨(dv _ h0.x).1,(dv _ h0.x).2, ?_⟩
 repeat' array_get_dec
 refine ⟨(dv _ h1.x).1,(dv _ h1.x).2, ?_⟩
 repeat' array_get_dec
 refine ⟨(dv _ h0.y).1,(dv _ h0.y).2, ?_⟩
 repeat' array_get_dec
 refine ⟨(dv _ h1.y).1,(dv _ h1.y).2, ?_⟩
 repeat' array_get_dec
 refine ⟨(dv _ h0.z).1,(dv _ h0.z).2, ?_⟩
 repeat' array_get_dec
 refine ⟨(dv _ h1.z).1,(dv _ h1.z).2, ?_⟩
 repeat' array_get_dec
 exact q
abbrev WY:AS:=
 (Ab (Ao (AX BJ (AN 3 B3 (AB (aV 0) (AB (aV 2) (AB (aV 3) AL)))) (AN 3 B3 (AB (aV 1) (AB (aV 2) (AB (aV 3) AL))))) (Au 4))
   (Ar (AN 1 Fp (AB (AX BJ (FZ (DF (AB (aV 2) (AB (aV 3) AL)))) (FZ (Cv (O8 (aV 4)) 1 [] (Au 0) E7 (AX Ak (aV 0) (aC (.int 0)))))) AL))))
def Jm:AF:=A0 5 WY
theorem Yp {x0 x1 x2 x3:PV} {Q:PV->Prop} (h:WY ⟨λ_=>Q .non,Q,λ_=>False,λ_=>False⟩ [some (.val x0),some (.val x1),some (.val x2),some (.val x3),none]):Jm [x0,x1,x2,x3] Q:=h
def E4 (cs ds:List C4) (b e:Rat):List Rat:=CO ([b,e] ++ ((cs.filter (Lf b e)++ds.filter (Lf b e)).map (·.1)))
theorem Dk {cs ds:List C4} {b e x:Rat}:x∈E4 cs ds b e↔x=b\/x=e\/(b<x/\x<e/\∃c,(c∈cs\/c∈ds)/\c.1=x):=by
 unfold E4
 rw [Be]
 simp only [List.cons_append,List.nil_append,List.mem_cons,List.mem_map,List.mem_append,List.mem_filter,Lf,Bool.and_eq_true,decide_eq_true_eq]
 constructor
 ·rintro (h|h|⟨c,h,rfl⟩)
  ·exact .inl h
  ·exact .inr (.inl h)
  ·rcases h with ⟨h1,h2,h3⟩|⟨h1,h2,h3⟩
   ·exact .inr (.inr ⟨h2,h3,c, .inl h1,rfl⟩)
   ·exact .inr (.inr ⟨h2,h3,c, .inr h1,rfl⟩)
 ·rintro (h|h|⟨h1,h2,c,h,rfl⟩)
  ·exact .inl h
  ·exact .inr (.inl h)
  ·exact .inr (.inr ⟨c,h.elim (λh=> .inl ⟨h,h1,h2⟩) (λh=> .inr ⟨h,h1,h2⟩),rfl⟩)
theorem L4 {cs ds:List C4} {b e:Rat}:(E4 cs ds b e).length<=2+(cs.length+ds.length):=by
 unfold E4
 refine Nat.le_trans E2 ?_
 have h1:=List.length_filter_le (Lf b e) cs
 have h2:=List.length_filter_le (Lf b e) ds
 simp only [List.length_append,List.length_map,List.length_cons,List.length_nil]
 omega
theorem cZ {cs ds:List C4} {v w:PV} {b e:Rat} {B:Nat} (hv:Ci cs v) (hw:Ci ds w) (hl:cs.length<=100) (qI:ds.length<=100) (hc:∀c∈cs,EK B c) (Mq:∀c∈ds,EK B c) (hB:B<=4000) (bb:Bd B b) (be:Bd B e) {Q:PV->Prop} (q:Q (.lst ((E4 cs ds b e).map fr))):Jm [v,w,fr b,fr e] Q:=by
 have h1:=List.length_filter_le (Lf b e) cs
 have h2:=List.length_filter_le (Lf b e) ds
 apply Yp
 ac_rfl
 refine EM hv (by omega) hc hB (bb.mono hB) (be.mono hB) ?_
 ac_rfl
 refine EM hw (by omega) Mq hB (bb.mono hB) (be.mono hB) ?_
 ac_rfl
 rw [<-List.map_append]
 ac_rfl
 refine Ea cor fr (λc=>c.1) (λ_=>True) (λc _ R hR=> ?_) _ [] (by simp) ?_
 ·ac_rfl
  exact hR
 rw [List.nil_append]
 ac_rfl
 refine Qf (xs:= [b,e] ++ (cs.filter (Lf b e)++ds.filter (Lf b e)).map (·.1)) (B:=B) (.inl rfl) (by simp only [List.length_append,List.length_map,List.length_cons,List.length_nil];omega) (λx hx=> ?_) hB q
 rcases List.mem_append.mp hx with hx|hx
 ·simp only [List.mem_cons,List.not_mem_nil,or_false] at hx
  rcases hx with rfl|rfl
  ·exact bb
  ·exact be
 ·obtain ⟨c,h,rfl⟩:=List.mem_map.mp hx
  rcases List.mem_append.mp h with h|h
  ·exact (hc c (List.mem_filter.mp h).1).m
  ·exact (Mq c (List.mem_filter.mp h).1).m
abbrev TR:AS:=
 (Ab (Ao (AN 2 Ev (AB (AX Ak (aV 5) (AX G1 (aV 7) (aC (.int 1)))) (AB (AX Ak (aV 5) (aV 7)) AL))) (MD 2 (Ai (Au 8) (Ai (Au 9) CJ))))
   (EY 6 KD (AB (A3 (AB (AX Ak (aV 4) (AX G1 (aV 7) (aC (.int 1)))) (AB (AX Ak (aV 4) (aV 7)) (AB (aV 8) (AB (aV 9) AL))))) AL)))
abbrev TY:AS:=
 (Ab (FY (dL (AB (aC (.int 1)) (AB (EX Fc (AB (aV 4) AL)) AL))) (Au 7) TR)
   (Ar (aV 6)))
abbrev TX:AS:=
 (Ab (JB (DF AL) 6)
   TY)
abbrev TW:AS:=
 (Ab (Ao (FZ (Cv (O8 (aV 4)) 1 [0,1,2] (Au 0) E7 (AN 4 Fn (AB (aV 1) (AB (aV 2) (AB (aV 3) (AB (aV 0) AL))))))) (Au 5))
   TX)
abbrev TV:AS:=
 (Ab (Ao (AN 4 Jm (AB (aV 0) (AB (aV 1) (AB (AX Ak (aV 3) (aC (.int 0))) (AB (AX Ak (aV 3) (aC (.int 1))) AL))))) (Au 4))
   TW)
abbrev TU:AS:=
 (Ab (Bz (A5 (AX RR (aV 3) (aC .non))) (Ar (FZ (DF AL))) BM)
   TV)
abbrev TQ:AS:=
 (Ab (Ao (AN 2 D6 (AB (aV 0) (AB (aV 1) AL))) (Au 3))
   TU)
def HC:AF:=A0 10 TQ
theorem WG {x0 x1 x2:PV} {Q:PV->Prop} (h:TQ ⟨λ_=>Q .non,Q,λ_=>False,λ_=>False⟩ [some (.val x0),some (.val x1),some (.val x2),none,none,none,none,none,none,none]):HC [x0,x1,x2] Q:=h
def F5 (cs ds:List C4) (d:Rat×Rat) (m:Rat):T3:=Fd ((spotC cs m).getD (0,0,0)) ((spotC ds m).getD (0,0,0)) d
def P3 (cs ds:List C4) (d:Rat×Rat) (ts:List Rat):List Pc:=(ts.zip ts.tail).map λp=>⟨p.1,p.2,F5 cs ds d p.1,F5 cs ds d p.2⟩
theorem zip_get {ts:List Rat} {i:Nat} {x y:Rat} (hx:ts[i]? =some x) (hy:ts[i+1]? =some y):(ts.zip ts.tail)[i]? =some (x,y):=by
 rw [List.getElem?_zip_eq_some]
 exact ⟨hx,by rw [List.getElem?_tail];exact hy⟩
structure lq (cs ds:List C4) (b e:Rat):Prop where
 lt:b<e
 one:∀m,b<=m->m<=e->∃t,spotC cs m=some t
 other:∀m,b<=m->m<=e->∃t,spotC ds m=some t
theorem cW {a l a2 l2:C4} {r r2:List C4} (h0:r≠ []) (U4:r2≠ []) (el:(a::r).getLast?=some l) (el2:(a2::r2).getLast?=some l2) (h:mx a.1 a2.1<mn l.1 l2.1):lq (a::r) (a2::r2) (mx a.1 a2.1) (mn l.1 l2.1):=by
 have e1:a.1<=mx a.1 a2.1:=by unfold mx;split <;> grind
 have e2:a2.1<=mx a.1 a2.1:=by unfold mx;split <;> grind
 have e3:mn l.1 l2.1<=l.1:=by unfold mn;split <;> grind
 have e4:mn l.1 l2.1<=l2.1:=by unfold mn;split <;> grind
 exact ⟨h,λm h1 h2=>Gb h0 el (by grind) (by grind),λm h1 h2=>Gb U4 el2 (by grind) (by grind)⟩
theorem jd {cs ds:List C4} {d:Rat×Rat} {b e m:Rat} {B M D:Nat} (tg:lq cs ds b e) (h1:b<=m) (h2:m<=e) (hr:Hi cs) (jH:Hi ds) (hc:∀c∈cs,EK B c) (Mq:∀c∈ds,EK B c) (bm:Bd M m) (b1:Bd D d.1) (b2:Bd D d.2) (p1:d.1≠0) (p2:d.2≠0):EW (2*(M+6*B+10)+1+D) (F5 cs ds d m):=by
 obtain ⟨s,es⟩:=tg.one m h1 h2
 obtain ⟨t,et⟩:=tg.other m h1 h2
 have k1:=EW.spotC bm hr hc s es
 have k2:=EW.spotC bm jH Mq t et
 unfold F5
 rw [es,et]
 exact ⟨(((k1.x.sub k2.x).div p1 b1)).mono (by omega),(((k1.y.sub k2.y).div p1 b1)).mono (by omega),(((k1.z.sub k2.z).div p2 b2)).mono (by omega)⟩
theorem tO {α:Type} {f:α->PV} {xs:List α} {k:Nat} {x:α} {R:PV->Prop} (e:xs[k]? =some x) (h:R (f x)):Ak (.lst (xs.map f)) (.int (k:Int)) R:=by
 show ZE (Hk (xs.map f) (k:Int)) R
 rw [Cj (v:=f x) (by rw [List.getElem?_map,e];rfl)]
 exact h
theorem Xm (ts:List Rat):(ts.zip ts.tail).length=ts.length-1:=by
 rw [List.length_zip,List.length_tail];omega
theorem R9 {cs ds:List C4} {d:Rat×Rat} {ts:List Rat}:(P3 cs ds d ts).length=ts.length-1:=by unfold P3;rw [List.length_map,Xm]
theorem F3 {cs ds:List C4} {b e:Rat}:O6 (E4 cs ds b e):=Bj
theorem F2 {cs ds:List C4} {b e x:Rat} (h:b<e) (hx:x∈E4 cs ds b e):b<=x/\x<=e:=by
 rcases Dk.mp hx with rfl|rfl|⟨h1,h2,_⟩ <;> exact ⟨by grind,by grind⟩
theorem K7 {cs ds:List C4} {b e x:Rat} {M:Nat} (hc:∀c∈cs,Bd M c.1) (Mq:∀c∈ds,Bd M c.1) (bb:Bd M b) (be:Bd M e) (hx:x∈E4 cs ds b e):Bd M x:=by
 rcases Dk.mp hx with rfl|rfl|⟨_,_,c,h,rfl⟩
 ·exact bb
 ·exact be
 ·rcases h with h|h
  ·exact hc c h
  ·exact Mq c h
def RU (cs:List C4):Rat:=(cs.head?.getD (0,0,0,0)).1
def lstM (cs:List C4):Rat:=(cs.getLast?.getD (0,0,0,0)).1
def Br (cs ds:List C4):Rat:=mx (RU cs) (RU ds)
def Bk (cs ds:List C4):Rat:=mn (lstM cs) (lstM ds)
def K6 (cs ds:List C4):List Rat:=E4 cs ds (Br cs ds) (Bk cs ds)
structure E6 (cs ds:List C4) (d:Rat×Rat) (M W:Nat):Prop where
 c1:∀c∈cs,EK 150 c
 c2:∀c∈ds,EK 150 c
 r1:Hi cs
 r2:Hi ds
 t1:2<=cs.length
 t2:2<=ds.length
 f1:cs.length<=100
 f2:ds.length<=100
 m1:∀c∈cs,Bd M c.1
 m2:∀c∈ds,Bd M c.1
 b1:Bd 100 d.1
 b2:Bd 100 d.2
 p1:0<d.1
 p2:0<d.2
 w:Br cs ds<Bk cs ds->∀m∈K6 cs ds,EW W (F5 cs ds d m)
 hM:M<=150
 hW:W<=1050
theorem open2 {cs:List C4} (h:2<=cs.length):∃a r l,cs=a::r/\r≠ [] /\(a::r).getLast?=some l:=by
 match cs,h with
 | a::b::r,_=>
   obtain ⟨l,el⟩:∃l,(a::b::r).getLast?=some l:=⟨_,List.getLast?_eq_some_getLast (by simp)⟩
   exact ⟨a,b::r,l,rfl,by simp,el⟩
theorem DU {a:C4} {r:List C4}:RU (a::r)=a.1:=rfl
theorem Bn {cs:List C4} {l:C4} (e:cs.getLast?=some l):lstM cs=l.1:=by unfold lstM;rw [e];rfl
section
variable {cs ds:List C4} {d:Rat×Rat} {M W:Nat}
theorem E6.fstB (D:E6 cs ds d M W):Bd M (RU cs):=by
 obtain ⟨a,r,l,rfl,h0,el⟩:=open2 D.t1
 exact D.m1 a (by simp)
theorem E6.fstB2 (D:E6 cs ds d M W):Bd M (RU ds):=by
 obtain ⟨a,r,l,rfl,h0,el⟩:=open2 D.t2
 exact D.m2 a (by simp)
theorem E6.lstB (D:E6 cs ds d M W):Bd M (lstM cs):=by
 obtain ⟨a,r,l,rfl,h0,el⟩:=open2 D.t1
 rw [Bn el]
 exact D.m1 l (List.mem_of_getLast? el)
theorem E6.lstB2 (D:E6 cs ds d M W):Bd M (lstM ds):=by
 obtain ⟨a,r,l,rfl,h0,el⟩:=open2 D.t2
 rw [Bn el]
 exact D.m2 l (List.mem_of_getLast? el)
theorem E6.begB (D:E6 cs ds d M W):Bd M (Br cs ds):=D.fstB.mx D.fstB2
theorem E6.endB (D:E6 cs ds d M W):Bd M (Bk cs ds):=D.lstB.mn D.lstB2
theorem E6.tog (D:E6 cs ds d M W) (h:Br cs ds<Bk cs ds):lq cs ds (Br cs ds) (Bk cs ds):=by
 obtain ⟨a,r,l,rfl,h0,el⟩:=open2 D.t1
 obtain ⟨a2,r2,l2,rfl,U4,el2⟩:=open2 D.t2
 unfold Br Bk at h ⊢
 rw [DU,DU,Bn el,Bn el2] at h ⊢
 exact cW h0 U4 el el2 h
end
theorem gI {cs ds:List C4} {d:Rat×Rat} {M W:Nat} (D:E6 cs ds d M W) {v w:PV} (hv:Ci cs v) (hw:Ci ds w) {Q:PV->Prop} (q1:Br cs ds<Bk cs ds->Q (.tup [fr (Br cs ds),fr (Bk cs ds)])) (q2:¬Br cs ds<Bk cs ds->Q .non):D6 [v,w] Q:=by
 have k1:=D.fstB
 have k2:=D.fstB2
 have k3:=D.lstB
 have k4:=D.lstB2
 have hM:=D.hM
 obtain ⟨a,r,l,rfl,h0,el⟩:=open2 D.t1
 obtain ⟨a2,r2,l2,rfl,U4,el2⟩:=open2 D.t2
 unfold Br Bk at q1 q2
 rw [DU,DU,Bn el,Bn el2] at q1 q2
 rw [Bn el] at k3
 rw [Bn el2] at k4
 exact Uz hv hw el el2 (k1.mono (by omega)) (k3.mono (by omega)) (k2.mono (by omega)) (k4.mono (by omega)) q1 q2
def Qc (cs ds:List C4) (d:Rat×Rat):List Pc:=if Br cs ds<Bk cs ds then P3 cs ds d (K6 cs ds) else []
theorem Yk {cs ds:List C4} {d:Rat×Rat} {M W:Nat} (D:E6 cs ds d M W) {v w u:PV} (hv:Ci cs v) (hw:Ci ds w) (hu:cv d u) {Q:PV->Prop} (q:Q (.lst ((Qc cs ds d).map nJ))):HC [v,w,u] Q:=by
 have hM:=D.hM
 have hW:=D.hW
 have tD:=D.f1
 have tE:=D.f2
 apply WG
 ac_rfl
 refine gI D hv hw (λh=> ?_) (λh=> ?_)
 rotate_left
 ·unfold Qc at q
  rw [if_neg h] at q
  ac_rfl
  exact q
 unfold Qc at q
 rw [if_pos h] at q
 have tg:=D.tog h
 ac_rfl
 refine cZ (B:=150) hv hw tD tE D.c1 D.c2 (by decide) (D.begB.mono hM) (D.endB.mono hM) ?_
 have tl:=L4 (cs:=cs) (ds:=ds) (b:=Br cs ds) (e:=Bk cs ds)
 have ti:∀x∈K6 cs ds,Br cs ds<=x/\x<=Bk cs ds:=λx hx=>F2 h hx
 have tb:∀x∈K6 cs ds,Bd M x:=λx hx=>K7 D.m1 D.m2 D.begB D.endB hx
 have tw:∀x∈K6 cs ds,EW W (F5 cs ds d x):=D.w h
 have tl':(K6 cs ds).length<=2+(cs.length+ds.length):=tl
 rw [show E4 cs ds (Br cs ds) (Bk cs ds)=K6 cs ds from rfl]
 generalize K6 cs ds=ts at *
 ac_rfl
 refine Ea fr Vz (F5 cs ds d) (λx=>x∈ts) (λx hx R hR=> ?_) ts [] (λx hx=>hx) ?_
 ·obtain ⟨s,es⟩:=tg.one x (ti x hx).1 (ti x hx).2
  obtain ⟨t,et⟩:=tg.other x (ti x hx).1 (ti x hx).2
  have hR:R (Vz (Fd ((spotC cs x).getD (0,0,0)) ((spotC ds x).getD (0,0,0)) d)):=hR
  rw [es,et] at hR
  ac_rfl
  exact eY hv hw hu D.c1 D.c2 D.r1 D.r2 (by have:=D.t1;intro z;subst z;simp at this) (by have:=D.t2;intro z;subst z;simp at this) tD tE ((tb x hx).mono (by omega)) D.b1 D.b2 (by have:=D.p1;grind) (by have:=D.p2;grind) es et hR
 rw [List.nil_append]
 ac_rfl
 refine RS (λi τ=>∃z8 z9 z10,τ= [some (.val v),some (.val w),some (.val u),some (.val (.tup [fr (Br cs ds),fr (Bk cs ds)])),some (.val (.lst (ts.map fr))),some (.val (.lst ((ts.map (F5 cs ds d)).map Vz))),some (.own (((P3 cs ds d ts).take i).map nJ)),z8,z9,z10]) ?_ ?_ ⟨_,_,_,rfl⟩
 ·rintro τ ⟨z8,z9,z10,rfl⟩
  rw [List.take_of_length_le (by rw [R9];omega)]
  ac_rfl
  exact q
 ·rintro i hi τ R hR ⟨z8,z9,z10,rfl⟩
  have UK:i+1<ts.length:=by omega
  obtain ⟨x,ex⟩:∃x,ts[i]? =some x:=⟨_,List.getElem?_eq_getElem (by omega)⟩
  obtain ⟨y,ey⟩:∃y,ts[i+1]? =some y:=⟨_,List.getElem?_eq_getElem UK⟩
  have pl:=R9 (cs:=cs) (ds:=ds) (d:=d) (ts:=ts)
  have k1:=tw x (List.mem_of_getElem? ex)
  have k2:=tw y (List.mem_of_getElem? ey)
  have ep:(P3 cs ds d ts).take (i+1)=(P3 cs ds d ts).take i ++ [⟨x,y,F5 cs ds d x,F5 cs ds d y⟩] :=by
   have e1:(P3 cs ds d ts)[i]? =some ⟨x,y,F5 cs ds d x,F5 cs ds d y⟩:=by
    unfold P3
    rw [List.getElem?_map,zip_get ex ey]
    rfl
   rw [List.take_succ,e1]
   rfl
  have t1:((1:Int)+(i:Int)-1).toNat=i:=by omega
  have t2:((1:Int)+(i:Int)).toNat=i+1:=by omega
  have fin:∀z8 z9 z10,R [some (.val v),some (.val w),some (.val u),some (.val (.tup [fr (Br cs ds),fr (Bk cs ds)])),some (.val (.lst (ts.map fr))),some (.val (.lst ((ts.map (F5 cs ds d)).map Vz))),some (.own (((P3 cs ds d ts).take i).map nJ ++ [nJ ⟨x,y,F5 cs ds d x,F5 cs ds d y⟩])),z8,z9,z10] :=λz8 z9 z10=>hR _ ⟨z8,z9,z10,by rw [ep,List.map_append];rfl⟩
  ac_rfl
  rename_i c1 ec1 _ c2 ec2 _
  rw [t1,List.getElem?_map,ex] at ec1
  rw [t2,List.getElem?_map,ey] at ec2
  cases ec1
  cases ec2
  refine aY (p:=⟨x,y,F5 cs ds d x,F5 cs ds d y⟩) k1 k2 (by omega) ?_
  ac_rfl
  rename_i c1 ec1 _ c2 ec2 _
  rw [t1,ex] at ec1
  cases ec1
  rw [t2,ey] at ec2
  cases ec2
  ac_rfl
  exact fin _ _ _
abbrev MA:AS:=
 (Ar (AN 2 Iy (AB (aV 0) (AB (AN 2 GB (AB (AN 2 HB (AB (AX Ak (aV 2) (aC (.int 0))) (AB (AX Ak (aV 2) (aC (.int 1))) AL))) (AB (AN 2 EE (AB (aV 1) (AB (aV 0) AL))) AL))) AL))))
def Dh:AF:=A0 3 MA
theorem P7 {x0 x1 x2:PV} {Q:PV->Prop} (h:MA ⟨λ_=>Q .non,Q,λ_=>False,λ_=>False⟩ [some (.val x0),some (.val x1),some (.val x2)]):Dh [x0,x1,x2] Q:=h
def sv (p:Int×Int):Rat:=(p.1:Rat)/(p.2:Rat)
theorem QS {i:Int} (h:0<i):(0:Rat)<(i:Rat):=by
 have:=Rat.intCast_lt_intCast.mpr h
 simpa using this
theorem oA {a b:Int×Int} (ha:0<a.2) (hb:0<b.2):sv a<sv b↔a.1*b.2<b.1*a.2:=by
 have h1:=QS ha
 have h2:=QS hb
 unfold sv
 rw [Rat.div_lt_iff h1,<-Rat.intCast_lt_intCast,Rat.intCast_mul,Rat.intCast_mul]
 have e:(b.1:Rat)/(b.2:Rat)*(a.2:Rat)=(b.1:Rat)*(a.2:Rat)/(b.2:Rat):=by grind
 rw [e,Rat.lt_div_iff h2]
structure Sz (p:Int×Int):Prop where
 pos:0<p.2
 t:p.1.natAbs<2^8850
 n:p.2.natAbs<2^8850
theorem Ld {a b:Int×Int} (ha:Sz a) (hb:Sz b) {Q:PV->Prop} (q:Q (.bl (decide (sv a<sv b)))):Am [NA a,NA b] Q:=by
 refine ⟨MulOk.of ha.t hb.n,MulOk.of hb.t ha.n, ?_⟩
 rw [decide_eq_decide.mpr (oA ha.pos hb.pos)] at q
 exact q
theorem YS {a b:Int×Int} (ha:Sz a) (hb:Sz b) {Q:PV->Prop} (q:Q (NA (if sv b<sv a then b else a))):Eu [NA a,NA b] Q:=by
 refine ⟨rfl,Ld hb ha ?_⟩
 refine E8 (b:=decide (sv b<sv a)) (λz=> ?_) (λz=> ?_)
 ·rw [if_pos (of_decide_eq_true z)] at q;exact q
 ·rw [if_neg (of_decide_eq_false z)] at q;exact q
theorem OK {b e:Rat} {p:Int×Int} {M S:Nat} (hp:Sz p) (bs:Bd S (sv p)) (bb:Bd M b) (be:Bd M e) (hM:M<=300) (hS:S<=3200) {Q:PV->Prop} (q:Q (fr (b+sv p*(e-b)))):Dh [fr b,fr e,NA p] Q:=by
 have ne:p.2≠0:=by have:=hp.pos;omega
 have es:Rat.divInt p.1 p.2=sv p:=Rat.divInt_eq_div ..
 have k:=be.sub bb
 have k2:=bs.mul k
 apply P7
 ac_rfl
 refine Fo _ _ ne (Ap hp.n (by decide)) _ ?_
 rw [es]
 ac_rfl
 exact q
def lv (l:Int×Int) (s:Rat):Rat:=(l.1:Rat)+s*((l.2:Rat)-(l.1:Rat))
structure NI (N:Nat) (S:Nat) (us:List (Int×Int)) (lo hi:Int×Int) (h:Int):Prop where
 l:Sz lo
 r:Sz hi
 bl:Bd S (sv lo)
 br:Bd S (sv hi)
 h01:h=0\/h=1
 lo0:0<=sv lo
 hi1:sv hi<=1
 sem:∀s,0<=s->s<1->((∀l∈us,lv l s<N)↔(sv lo<s\/(sv lo=s/\h=1))/\s<sv hi)
theorem kQ:sv (0,1)=0:=by decide +kernel
theorem kR:sv (1,1)=1:=by decide +kernel
theorem ja {N S:Nat} (hS:1<=S):NI N S [] (0,1) (1,1) 1:=by
 refine ⟨⟨by decide, ?_, ?_⟩,⟨by decide, ?_, ?_⟩, ?_, ?_, .inr rfl,by rw [kQ];grind,by rw [kR];grind,λs h0 h1=> ?_⟩
 ·exact Ap (m:=1) (by decide) (by decide)
 ·exact Ap (m:=1) (by decide) (by decide)
 ·exact Ap (m:=1) (by decide) (by decide)
 ·exact Ap (m:=1) (by decide) (by decide)
 ·rw [kQ];exact Y7.mono hS
 ·rw [kR];exact gY.mono hS
 ·rw [kQ,kR]
  exact ⟨λ_=>⟨by grind,h1⟩,λ_=>by simp⟩
structure RL (N W:Nat) (l:Int×Int):Prop where
 a:l.1.natAbs<2^8848
 b:l.2.natAbs<2^8848
 n:N<2^8848
 n0:0<N
 ex:∃u v:Rat,Bd W u/\Bd W v/\(l.1:Rat)=u*N/\(l.2:Rat)=v*N
theorem Za {N:Nat} (h:0<N):(0:Rat)<(N:Rat):=Rat.natCast_pos.mpr h
theorem Xf {a b:Int} {k:Nat} (ha:a.natAbs<2^k) (hb:b.natAbs<2^k):(a-b).natAbs<2^(k+1):=Sy ha hb
theorem Jt {us:List (Int×Int)} {l:Int×Int} {P:Int×Int->Prop}:(∀x∈us ++ [l],P x)↔(∀x∈us,P x)/\P l:=by
 constructor
 ·intro h
  exact ⟨λx hx=>h x (by simp [hx]),h l (by simp)⟩
 ·rintro ⟨h1,h2⟩ x hx
  rcases List.mem_append.mp hx with hx|hx
  ·exact h1 x hx
  ·simp at hx;subst hx;exact h2
theorem IJ (N:Nat):((N:Int):Rat)=(N:Rat):=Rat.intCast_natCast N
theorem Vp {N W:Nat} {l:Int×Int} (h:RL N W l) (h1:(N:Int)<=l.1) (h2:l.2<(N:Int)):Sz (l.1-N,l.1-l.2)/\Bd (3*W+3) (sv (l.1-N,l.1-l.2))/\0<=sv (l.1-N,l.1-l.2)/\∀s,lv l s<N↔sv (l.1-N,l.1-l.2)<s:=by
 obtain ⟨u,v,bu,bv,e1,e2⟩:=h.ex
 have hn:=Za h.n0
 have p2:0<l.1-l.2:=by omega
 have q1:((N:Rat))<=(l.1:Rat):=by rw [<-IJ];exact Rat.intCast_le_intCast.mpr h1
 have q2:(l.2:Rat)<(N:Rat):=by rw [<-IJ];exact Rat.intCast_lt_intCast.mpr h2
 have es:sv (l.1-N,l.1-l.2)=((l.1:Rat)-N)/((l.1:Rat)-l.2):=by
  unfold sv
  show ((l.1-(N:Int):Int):Rat)/((l.1-l.2:Int):Rat)=_
  rw [Rat.intCast_sub,Rat.intCast_sub,IJ]
 have d0:(0:Rat)<(l.1:Rat)-l.2:=by grind
 have ne:u-v≠0:=by
  intro z
  have:u=v:=by grind
  subst this
  grind
 have eu:sv (l.1-N,l.1-l.2)=(u-1)/(u-v):=by
  rw [es,e1,e2]
  have:u*(N:Rat)-v*N≠0:=by rw [e1,e2] at d0;grind
  have:(N:Rat)≠0:=by grind
  grind
 refine ⟨⟨p2,Ap (Xf h.a (by simpa using h.n)) (by decide),Ap (Xf h.a h.b) (by decide)⟩, ?_, ?_,λs=> ?_⟩
 ·rw [eu]
  exact ((bu.sub gY).div ne (bu.sub bv)).mono (by omega)
 ·rw [es,<-Rat.not_lt,Rat.div_lt_iff d0]
  grind
 ·rw [es,Rat.div_lt_iff d0]
  unfold lv
  constructor <;> intro z <;> grind
theorem W5 {N W:Nat} {l:Int×Int} (h:RL N W l) (h1:l.1<(N:Int)) (h2:(N:Int)<l.2):Sz (N-l.1,l.2-l.1)/\Bd (3*W+3) (sv (N-l.1,l.2-l.1))/\sv (N-l.1,l.2-l.1)<=1/\∀s,lv l s<N↔s<sv (N-l.1,l.2-l.1):=by
 obtain ⟨u,v,bu,bv,e1,e2⟩:=h.ex
 have hn:=Za h.n0
 have p2:0<l.2-l.1:=by omega
 have q1:(l.1:Rat)<(N:Rat):=by rw [<-IJ];exact Rat.intCast_lt_intCast.mpr h1
 have q2:(N:Rat)<(l.2:Rat):=by rw [<-IJ];exact Rat.intCast_lt_intCast.mpr h2
 have es:sv (N-l.1,l.2-l.1)=((N:Rat)-l.1)/((l.2:Rat)-l.1):=by
  unfold sv
  show (((N:Int)-l.1:Int):Rat)/((l.2-l.1:Int):Rat)=_
  rw [Rat.intCast_sub,Rat.intCast_sub,IJ]
 have d0:(0:Rat)<(l.2:Rat)-l.1:=by grind
 have ne:v-u≠0:=by
  intro z
  have:u=v:=by grind
  subst this
  grind
 have eu:sv (N-l.1,l.2-l.1)=(1-u)/(v-u):=by
  rw [es,e1,e2]
  have:v*(N:Rat)-u*N≠0:=by rw [e1,e2] at d0;grind
  have:(N:Rat)≠0:=by grind
  grind
 refine ⟨⟨p2,Ap (Xf (by simpa using h.n) h.a) (by decide),Ap (Xf h.b h.a) (by decide)⟩, ?_, ?_,λs=> ?_⟩
 ·rw [eu]
  exact ((gY.sub bu).div ne (bv.sub bu)).mono (by omega)
 ·rw [es,<-Rat.not_lt,Rat.lt_div_iff d0]
  grind
 ·rw [es,Rat.lt_div_iff d0]
  unfold lv
  constructor <;> intro z <;> grind
section
variable {N W:Nat} {us:List (Int×Int)} {lo hi l:Int×Int} {h:Int}
theorem jZ (i:NI N (3*W+3) us lo hi h) (o:RL N W l) (h1:(N:Int)<=l.1) (h2:l.2<(N:Int)) (k:¬sv (l.1-N,l.1-l.2)<sv lo):NI N (3*W+3) (us ++ [l]) (l.1-N,l.1-l.2) hi 0:=by
 obtain ⟨a,b,c,e⟩:=Vp o h1 h2
 refine ⟨a,i.r,b,i.br, .inl rfl,c,i.hi1,λs s0 s1=> ?_⟩
 rw [Jt,i.sem s s0 s1,e s]
 constructor
 ·rintro ⟨⟨x,y⟩,z⟩
  exact ⟨.inl z,y⟩
 ·rintro ⟨x|⟨_,x⟩,y⟩
  ·exact ⟨⟨.inl (by grind),y⟩,x⟩
  ·cases x
theorem eS (i:NI N (3*W+3) us lo hi h) (o:RL N W l) (h1:(N:Int)<=l.1) (h2:l.2<(N:Int)) (k:sv (l.1-N,l.1-l.2)<sv lo):NI N (3*W+3) (us ++ [l]) lo hi h:=by
 obtain ⟨a,b,c,e⟩:=Vp o h1 h2
 refine ⟨i.l,i.r,i.bl,i.br,i.h01,i.lo0,i.hi1,λs s0 s1=> ?_⟩
 rw [Jt,i.sem s s0 s1,e s]
 constructor
 ·rintro ⟨x,z⟩
  exact x
 ·rintro ⟨x,y⟩
  refine ⟨⟨x,y⟩, ?_⟩
  rcases x with x|⟨x,_⟩ <;> grind
theorem eQ (i:NI N (3*W+3) us lo hi h) (o:RL N W l) (h1:l.1<(N:Int)) (h2:(N:Int)<l.2):NI N (3*W+3) (us ++ [l]) lo (if sv (N-l.1,l.2-l.1)<sv hi then (N-l.1,l.2-l.1) else hi) h:=by
 obtain ⟨a,b,c,e⟩:=W5 o h1 h2
 by_cases k:sv (N-l.1,l.2-l.1)<sv hi
 ·rw [if_pos k]
  refine ⟨i.l,a,i.bl,b,i.h01,i.lo0,c,λs s0 s1=> ?_⟩
  rw [Jt,i.sem s s0 s1,e s]
  constructor
  ·rintro ⟨⟨x,y⟩,z⟩
   exact ⟨x,z⟩
  ·rintro ⟨x,y⟩
   exact ⟨⟨x,by grind⟩,y⟩
 ·rw [if_neg k]
  refine ⟨i.l,i.r,i.bl,i.br,i.h01,i.lo0,i.hi1,λs s0 s1=> ?_⟩
  rw [Jt,i.sem s s0 s1,e s]
  constructor
  ·rintro ⟨x,z⟩
   exact x
  ·rintro ⟨x,y⟩
   exact ⟨⟨x,y⟩,by grind⟩
theorem nB (i:NI N (3*W+3) us lo hi h) (h1:l.1<(N:Int)) (h2:¬(N:Int)<l.2):NI N (3*W+3) (us ++ [l]) lo hi h:=by
 have q1:(l.1:Rat)<(N:Rat):=by rw [<-IJ];exact Rat.intCast_lt_intCast.mpr h1
 have q2:(l.2:Rat)<=(N:Rat):=by rw [<-IJ];exact Rat.intCast_le_intCast.mpr (by omega)
 refine ⟨i.l,i.r,i.bl,i.br,i.h01,i.lo0,i.hi1,λs s0 s1=> ?_⟩
 rw [Jt,i.sem s s0 s1]
 constructor
 ·rintro ⟨x,z⟩
  exact x
 ·intro x
  refine ⟨x, ?_⟩
  have y:lv l s=(1-s)*(l.1:Rat)+s*(l.2:Rat):=by unfold lv;grind
  have k1:(1-s)*(l.1:Rat)<(1-s)*N:=Rat.mul_lt_mul_of_pos_left q1 (by grind)
  have k2:s*(l.2:Rat)<=s*N:=Rat.mul_le_mul_of_nonneg_left q2 s0
  rw [y]
  grind
end
abbrev Q5:AS:=
 (Ab (Ao (aV 10) (Au 1))
   (Ao (aC (.int 0)) (Au 2)))
abbrev Q6:AS:=
 (Ab (Ao (A3 (AB (AX G1 (aV 8) (aV 6)) (AB (AX G1 (aV 8) (aV 9)) AL))) (Au 10))
   (Bz (Gr (A5 (AN 2 Am (AB (aV 10) (AB (aV 1) AL))))) Q5 BM))
abbrev Q7:AS:=
 (Ab (Bz (HE (A5 (AX k9 (aV 8) (aV 6))) (A5 (AX k9 (aV 9) (aV 6)))) (Ar (FZ (DF AL))) BM)
   (Bz (A5 (AX k9 (aV 8) (aV 6))) Q6 (Bz (A5 (AX il (aV 9) (aV 6))) (Ao (AN 2 Eu (AB (aV 3) (AB (A3 (AB (AX G1 (aV 6) (aV 8)) (AB (AX G1 (aV 9) (aV 8)) AL))) AL))) (Au 3)) BM)))
abbrev RC:AS:=
 (Ab (Bz (Gr (A5 (AN 2 Am (AB (aV 1) (AB (aV 3) AL))))) (Ar (FZ (DF AL))) BM)
   (Ar (FZ (DF (AB (A3 (AB (AN 3 Dh (AB (aV 4) (AB (aV 5) (AB (aV 1) AL)))) (AB (aV 2) (AB (AN 3 Dh (AB (aV 4) (AB (aV 5) (AB (aV 3) AL)))) AL)))) AL)))))
abbrev RB:AS:=
 (Ab (FY (O8 (aV 7)) (MD 2 (Ai (Au 8) (Ai (Au 9) CJ))) Q7)
   RC)
abbrev RA:AS:=
 (Ab (Ao (A3 (AB (aC (.int 1)) (AB (aC (.int 1)) AL))) (Au 3))
   RB)
abbrev Q9:AS:=
 (Ab (Ao (aC (.int 1)) (Au 2))
   RA)
abbrev Q8:AS:=
 (Ab (Ao (A3 (AB (aC (.int 0)) (AB (aC (.int 1)) AL))) (Au 1))
   Q9)
abbrev QD:AS:=
 (Ab (Ao (aV 0) (MD 4 (Ai (Au 4) (Ai (Au 5) (Ai (Au 6) (Ai (Au 7) CJ))))))
   Q8)
def Fm:AF:=A0 11 QD
theorem Uj {x0:PV} {Q:PV->Prop} (h:QD ⟨λ_=>Q .non,Q,λ_=>False,λ_=>False⟩ [some (.val x0),none,none,none,none,none,none,none,none,none,none]):Fm [x0] Q:=h
def XF (N:Nat) (lns:List (Int×Int)) (b e m:Rat):Prop:=b<=m/\m<e/\∀l∈lns,lv l ((m-b)/(e-b))<N
structure Zb (N:Nat) (lns:List (Int×Int)) (b e:Rat) (B:Nat) (ss:List Bi):Prop where
 few:ss.length<=1
 ok:∀s∈ss,Ce B s
 fin:∀s∈ss,∃x,s.2.2=some x
 sem:∀m,ss.any (Bf · (m,0))=true↔XF N lns b e m
theorem Qa {N:Nat} {lns:List (Int×Int)} {b e:Rat} {B:Nat} (h:∀s,0<=s->s<1->¬∀l∈lns,lv l s<N) (O9:b<e):Zb N lns b e B [] :=by
 refine ⟨by simp,by simp,by simp,λm=> ?_⟩
 refine ⟨λz=>by simp at z,λz=> ?_⟩
 obtain ⟨h1,h2,h3⟩:=z
 have d0:0<e-b:=by grind
 refine absurd h3 (h _ ?_ ?_)
 ·rw [<-Rat.not_lt,Rat.div_lt_iff d0];grind
 ·rw [Rat.div_lt_iff d0];grind
theorem YZ {N S B M:Nat} {lns:List (Int×Int)} {b e:Rat} {lo hi:Int×Int} {h:Int} (i:NI N S lns lo hi h) (O9:b<e) (k:sv lo<sv hi) (bb:Bd M b) (be:Bd M e) (hB:3*M+S+3<=B):Zb N lns b e B [(b+sv lo*(e-b),h,some (b+sv hi*(e-b)))] :=by
 have d0:0<e-b:=by grind
 have mono:∀{x y:Rat},x<y->b+x*(e-b)<b+y*(e-b):=λ{x y} h=>by
  have:=Rat.mul_lt_mul_of_pos_right h d0
  grind
 refine ⟨by simp,λs hs=> ?_,λs hs=> ?_,λm=> ?_⟩
 ·simp at hs;subst hs
  refine ⟨(bb.add (i.bl.mul (be.sub bb))).mono (by omega),i.h01,λx hx=> ?_⟩
  cases hx
  exact ⟨mono k,(bb.add (i.br.mul (be.sub bb))).mono (by omega)⟩
 ·simp at hs;subst hs
  exact ⟨_,rfl⟩
 ·obtain ⟨s,rfl⟩:∃s,m=b+s*(e-b):=⟨(m-b)/(e-b),by grind⟩
  have es:(b+s*(e-b)-b)/(e-b)=s:=by grind
  unfold XF
  rw [es]
  have lt:∀x y:Rat,b+x*(e-b)<b+y*(e-b)↔x<y:=λx y=>by
   refine ⟨λz=> ?_,mono⟩
   by_cases w:x<y
   ·exact w
   ·by_cases w2:y<x
    ·have:=mono w2;grind
    ·have:x=y:=by grind
     subst this;grind
  have eq:∀x y:Rat,b+x*(e-b)=b+y*(e-b)↔x=y:=λx y=>by
   refine ⟨λz=> ?_,λz=>by rw [z]⟩
   by_cases w:x<y
   ·have:=mono w;grind
   ·by_cases w2:y<x
    ·have:=mono w2;grind
    ·grind
  have A: [((b+sv lo*(e-b),h,some (b+sv hi*(e-b))):Bi)].any (Bf · (b+s*(e-b),0))=true↔(sv lo<s\/(sv lo=s/\h=1))/\s<sv hi:=by
   simp only [List.any_cons,List.any_nil,Bool.or_false,Bf,Bool.and_eq_true,Bool.or_eq_true,decide_eq_true_eq,lt,eq]
   have:0<h+0↔h=1:=by have:=i.h01;omega
   rw [this]
  rw [A]
  constructor
  ·intro z
   have s0:0<=s:=by
    have:=i.lo0
    rcases z.1 with y|⟨y,_⟩ <;> grind
   have s1:s<1:=by have:=i.hi1;have:=z.2;grind
   refine ⟨?_, ?_,(i.sem s s0 s1).mpr z⟩
   ·have:=Rat.mul_nonneg s0 (show 0<=e-b by grind);grind
   ·have:=mono s1;grind
  ·rintro ⟨z1,z2,z3⟩
   have s0:0<=s:=by
    rw [<-Rat.not_lt]
    intro w
    have:=mono w;grind
   have s1:s<1:=by
    have:=(lt s 1).mp (by grind)
    exact this
   exact (i.sem s s0 s1).mp z3
theorem Vy {b e:Rat} {N M W:Nat} {lns:List (Int×Int)} (ok:∀l∈lns,RL N W l) (O9:b<e) (bb:Bd M b) (be:Bd M e) (hM:M<=300) (hW:W<=1050) (hl:lns.length<=1000) {Q:PV->Prop} (q:∀ss,Zb N lns b e (3*M+3*W+6) ss->Q (.lst (ss.map Cg))):Fm [.tup [fr b,fr e, .int N, .lst (lns.map NA)]] Q:=by
 apply Uj
 ac_rfl
 refine FB NA (λus vs τ=>∃lo hi h z8 z9 z10,NI N (3*W+3) us lo hi h/\τ= [some (.val (.tup [fr b,fr e, .int N, .lst (lns.map NA)])),some (.val (NA lo)),some (.val (.int h)),some (.val (NA hi)),some (.val (fr b)),some (.val (fr e)),some (.val (.int N)),some (.val (.lst (lns.map NA))),z8,z9,z10]) ?_ ?_ ⟨(0,1),(1,1),1,_,_,_,ja (by omega),rfl⟩
 ·rintro τ ⟨lo,hi,h,z8,z9,z10,i,rfl⟩
  ac_rfl
  refine Ld i.l i.r ?_
  ac_rfl
  ·rename_i k
   refine q [] (Qa (λs s0 s1=> ?_) O9)
   rw [i.sem s s0 s1]
   rintro ⟨x,y⟩
   rcases x with x|⟨x,_⟩ <;> grind
  ·rename_i k
   refine OK i.l i.bl bb be hM (by omega) ?_
   ac_rfl
   refine OK i.r i.br bb be hM (by omega) ?_
   ac_rfl
   exact q _ (YZ i O9 k bb be (by omega))
 ·rintro us l vs el τ R hR ⟨lo,hi,h,z8,z9,z10,i,rfl⟩
  have o:=ok l (by rw [<-el];simp)
  have fin:∀{lo hi h z8 z9 z10},NI N (3*W+3) (us ++ [l]) lo hi h->R [some (.val (.tup [fr b,fr e, .int N, .lst (lns.map NA)])),some (.val (NA lo)),some (.val (.int h)),some (.val (NA hi)),some (.val (fr b)),some (.val (fr e)),some (.val (.int N)),some (.val (.lst (lns.map NA))),z8,z9,z10] :=λ{lo hi h z8 z9 z10} k=>hR _ ⟨lo,hi,h,z8,z9,z10,k,rfl⟩
  ac_rfl
  all_goals first | (exfalso;omega)|skip
  ·rename_i k1 k2
   refine q [] (Qa (λs s0 s1 z=> ?_) O9)
   have z:=z l (by rw [<-el];simp)
   have q1:(N:Rat)<=(l.1:Rat):=by rw [<-IJ];exact Rat.intCast_le_intCast.mpr k1
   have q2:(N:Rat)<=(l.2:Rat):=by rw [<-IJ];exact Rat.intCast_le_intCast.mpr k2
   have y:lv l s=(1-s)*(l.1:Rat)+s*(l.2:Rat):=by unfold lv;grind
   have j1:(1-s)*N<=(1-s)*(l.1:Rat):=Rat.mul_le_mul_of_nonneg_left q1 (by grind)
   have j2:s*N<=s*(l.2:Rat):=Rat.mul_le_mul_of_nonneg_left q2 s0
   rw [y] at z
   grind
  ·rename_i k1 k2 k3
   obtain ⟨a,_,_,_⟩:=Vp o k1 (by omega)
   refine Ld a i.l ?_
   ac_rfl
   ·rename_i k4
    exact fin (jZ i o k1 (by omega) k4)
   ·rename_i k4
    exact fin (eS i o k1 (by omega) k4)
  ·rename_i k1 k2 k3
   obtain ⟨a,_,_,_⟩:=W5 o (by omega) k3
   refine YS i.r a ?_
   exact fin (eQ i o (by omega) k3)
  ·rename_i k1 k2 k3
   exact fin (nB i (by omega) k3)
abbrev Nm:AS:=
 (Ar (AN 1 Ew (AB (FZ (N1 (O8 (AN 3 HC (AB (aV 0) (AB (aV 1) (AB (aV 2) AL))))) 2 [] (Au 1) E7 (O8 (AN 1 Fm (AB (aV 1) AL))) 1 (Au 0) E7 (aV 0))) AL)))
def Ex:AF:=A0 3 Nm
theorem SV {x0 x1 x2:PV} {Q:PV->Prop} (h:Nm ⟨λ_=>Q .non,Q,λ_=>False,λ_=>False⟩ [some (.val x0),some (.val x1),some (.val x2)]):Ex [x0,x1,x2] Q:=h
theorem Hj {x:Rat}:absR x<1↔x<1/\ -x<1:=by unfold absR;split <;> grind
theorem Z6 {o:T3}:Pk o<1↔absR o.1<1/\absR o.2.1<1/\absR o.2.2<1:=by
 unfold Pk mx
 repeat' split
 all_goals grind
theorem Lz {N:Nat} {u v s:Rat} (h0:0<N) (h1:u.den ∣ N) (h2:v.den ∣ N):(lv (Er N u,Er N v) s<N↔u+s*(v-u)<1)/\(lv (-Er N u, -Er N v) s<N↔ -(u+s*(v-u))<1):=by
 have hn:=Za h0
 have e1:lv (Er N u,Er N v) s=(u+s*(v-u))*N:=by
  unfold lv
  show ((Er N u:Int):Rat)+s*(((Er N v:Int):Rat)-((Er N u:Int):Rat))=_
  rw [HY h1,HY h2];grind
 have e2:lv (-Er N u, -Er N v) s= -(u+s*(v-u))*N:=by
  unfold lv
  show ((-Er N u:Int):Rat)+s*(((-Er N v:Int):Rat)-((-Er N u:Int):Rat))=_
  rw [Rat.intCast_neg,Rat.intCast_neg,HY h1,HY h2];grind
 have key:∀x:Rat,x*N<N↔x<1:=λx=>by
  constructor
  ·intro z
   by_cases w:x<1
   ·exact w
   ·have:=Rat.mul_le_mul_of_nonneg_right (show 1<=x by grind) (show (0:Rat)<=N by grind)
    grind
  ·intro z
   have:=Rat.mul_lt_mul_of_pos_right z hn
   grind
 rw [e1,e2,key,key]
 exact ⟨Iff.rfl,Iff.rfl⟩
theorem Xa {W:Nat} {p:Pc} (h0:EW W p.o0) (h1:EW W p.o1):0<p.N/\(∀x∈p.six,x.den ∣ p.N)/\p.N<2^(6*W+1):=Se 6 p.six rfl (cI h0 h1)
theorem XD {W:Nat} {p:Pc} (h0:EW W p.o0) (h1:EW W p.o1) (s:Rat):(∀l∈p.lns,lv l s<p.N)↔Pk (lin p.o0 p.o1 s)<1:=by
 obtain ⟨n0,dv,_⟩:=Xa h0 h1
 have d1:=dv p.o0.1 (by simp [Pc.six])
 have d2:=dv p.o0.2.1 (by simp [Pc.six])
 have d3:=dv p.o0.2.2 (by simp [Pc.six])
 have d4:=dv p.o1.1 (by simp [Pc.six])
 have d5:=dv p.o1.2.1 (by simp [Pc.six])
 have d6:=dv p.o1.2.2 (by simp [Pc.six])
 rw [Z6,Hj,Hj,Hj]
 unfold Pc.lns lin
 simp only [List.mem_cons,List.not_mem_nil,or_false,forall_eq_or_imp,forall_eq]
 rw [(Lz n0 d1 d4).1,(Lz n0 d1 d4).2,(Lz n0 d2 d5).1,(Lz n0 d2 d5).2,(Lz n0 d3 d6).1,(Lz n0 d3 d6).2]
 constructor
 ·rintro ⟨a,b,c,d,e,f⟩;exact ⟨⟨a,b⟩,⟨c,d⟩,e,f⟩
 ·rintro ⟨⟨a,b⟩,⟨c,d⟩,e,f⟩;exact ⟨a,b,c,d,e,f⟩
theorem bw {N W:Nat} {r:Rat} (br:Bd W r) (hN:N<2^(6*W+1)):(Er N r).natAbs<2^(W+(6*W+1)):=BH br.top (Ww hN)
theorem jS {W:Nat} {p:Pc} (h0:EW W p.o0) (h1:EW W p.o1) (hW:W<=1200):∀l∈p.lns,RL p.N W l:=by
 obtain ⟨n0,dv,nl⟩:=Xa h0 h1
 have one:∀{u v:Rat},Bd W u->Bd W v->u.den ∣ p.N->v.den ∣ p.N->RL p.N W (Er p.N u,Er p.N v)/\RL p.N W (-Er p.N u, -Er p.N v):=λ{u v} bu bv du dv=>by
  have s1:=bw bu nl
  have s2:=bw bv nl
  have nn:=Ap (n:=8848) nl (by omega)
  refine ⟨⟨Ap s1 (by omega),Ap s2 (by omega),nn,n0,u,v,bu,bv,HY du,HY dv⟩,⟨Ap (by rw [Int.natAbs_neg];exact s1) (by omega),Ap (by rw [Int.natAbs_neg];exact s2) (by omega),nn,n0, -u, -v,bu.neg,bv.neg, ?_, ?_⟩⟩
  ·show ((-Er p.N u:Int):Rat)=_
   rw [Rat.intCast_neg,HY du];grind
  ·show ((-Er p.N v:Int):Rat)=_
   rw [Rat.intCast_neg,HY dv];grind
 have l1:=one h0.x h1.x (dv _ (by simp [Pc.six])) (dv _ (by simp [Pc.six]))
 have l2:=one h0.y h1.y (dv _ (by simp [Pc.six])) (dv _ (by simp [Pc.six]))
 have l3:=one h0.z h1.z (dv _ (by simp [Pc.six])) (dv _ (by simp [Pc.six]))
 intro l hl
 simp only [Pc.lns,List.mem_cons,List.not_mem_nil,or_false] at hl
 rcases hl with rfl|rfl|rfl|rfl|rfl|rfl
 ·exact l1.1
 ·exact l1.2
 ·exact l2.1
 ·exact l2.2
 ·exact l3.1
 ·exact l3.2
theorem eV {p q p' q':T3} {d:Rat×Rat} {s:Rat}:Fd (lin p q s) (lin p' q' s) d=lin (Fd p p' d) (Fd q q' d) s:=by
 unfold Fd lin
 simp only [Rat.div_def]
 congr 1
 ·grind
 ·congr 1 <;> grind
theorem LA {ts:List Rat} (h:O6 ts):∀p∈ts.zip ts.tail,p.1∈ts/\p.2∈ts/\p.1<p.2/\∀x∈ts,¬(p.1<x/\x<p.2):=by
 induction ts with
 | nil=>intro p hp;simp at hp
 | cons a r ih=>
   cases r with
   | nil=>intro p hp;simp at hp
   | cons b r=>
     have h1:=List.pairwise_cons.mp h
     intro p hp
     simp only [List.tail_cons,List.zip_cons_cons,List.mem_cons] at hp
     rcases hp with rfl|hp
     ·refine ⟨by simp,by simp,h1.1 b (by simp),λx hx z=> ?_⟩
      rcases List.mem_cons.mp hx with rfl|hx
      ·grind
      ·rcases List.mem_cons.mp hx with rfl|hx
       ·grind
       ·have:=(List.pairwise_cons.mp h1.2).1 x hx
        grind
     ·obtain ⟨k1,k2,k3,k4⟩:=ih h1.2 p hp
      refine ⟨by simp [k1],by simp [k2],k3,λx hx z=> ?_⟩
      rcases List.mem_cons.mp hx with rfl|hx
      ·have:=h1.1 p.1 k1;grind
      ·exact k4 x hx z
theorem Qy:∀{ts:List Rat} {m:Rat} {a z:Rat},O6 ts->ts.head?=some a->ts.getLast?=some z->a<=m->m<z->∃p∈ts.zip ts.tail,p.1<=m/\m<p.2
 | [],_,_,_,_,h,_,_,_=>by cases h
 | [a],m,_,_,_,h1,h2,h3,h4=>by simp at h1 h2;subst h1 h2;grind
 | a::b::r,m,x,z,h,h1,h2,h3,h4=>by
   simp at h1;subst h1
   by_cases k:m<b
   ·exact ⟨(a,b),by simp,h3,k⟩
   ·obtain ⟨p,hp,q⟩:=Qy (m:=m) (a:=b) (z:=z) (List.pairwise_cons.mp h).2 rfl (by simpa [List.getLast?_cons_cons] using h2) (by grind) h4
    exact ⟨p,by simp only [List.tail_cons,List.zip_cons_cons,List.mem_cons];exact .inr (by simpa using hp),q⟩
section
variable {cs ds:List C4} {d:Rat×Rat} {M W:Nat}
structure pR (cs ds:List C4) (d:Rat×Rat) (M W:Nat) (p:Pc):Prop where
 lt:p.b<p.e
 w0:EW W p.o0
 w1:EW W p.o1
 bb:Bd M p.b
 be:Bd M p.e
 lo:Br cs ds<=p.b
 hi:p.e<=Bk cs ds
 at0:p.o0=F5 cs ds d p.b
 sV:p.o1=F5 cs ds d p.e
 lin:∀m,p.b<=m->m<=p.e->F5 cs ds d m=lin p.o0 p.o1 ((m-p.b)/(p.e-p.b))
theorem E6.pc (D:E6 cs ds d M W):∀p∈Qc cs ds d,pR cs ds d M W p:=by
 intro p hp
 unfold Qc at hp
 by_cases h:Br cs ds<Bk cs ds
 ·rw [if_pos h] at hp
  have tg:=D.tog h
  have ti:∀x∈K6 cs ds,Br cs ds<=x/\x<=Bk cs ds:=λx hx=>F2 h hx
  have tb:∀x∈K6 cs ds,Bd M x:=λx hx=>K7 D.m1 D.m2 D.begB D.endB hx
  have tw:∀x∈K6 cs ds,EW W (F5 cs ds d x):=D.w h
  unfold P3 at hp
  obtain ⟨q,hq,rfl⟩:=List.mem_map.mp hp
  obtain ⟨k1,k2,k3,k4⟩:=LA F3 q hq
  have i1:=ti _ k1
  have i2:=ti _ k2
  refine ⟨k3,tw _ k1,tw _ k2,tb _ k1,tb _ k2,i1.1,i2.2,rfl,rfl,λm m1 m2=> ?_⟩
  have m1:q.1<=m:=m1
  have m2:m<=q.2:=m2
  have no:∀c,c∈cs\/c∈ds->¬(q.1<c.1/\c.1<q.2):=λc hc z=>by
   refine k4 c.1 (Dk.mpr (.inr (.inr ⟨by grind,by grind,c,hc,rfl⟩))) z
  obtain ⟨s1,e1⟩:=tg.one q.1 i1.1 i1.2
  obtain ⟨s2,e2⟩:=tg.one q.2 i2.1 i2.2
  obtain ⟨t1,f1⟩:=tg.other q.1 i1.1 i1.2
  obtain ⟨t2,f2⟩:=tg.other q.2 i2.1 i2.2
  have l1:=Qs D.r1 k3 m1 m2 (λc hc=>no c (.inl hc)) e1 e2
  have l2:=Qs D.r2 k3 m1 m2 (λc hc=>no c (.inr hc)) f1 f2
  show F5 cs ds d m=PL.lin (F5 cs ds d q.1) (F5 cs ds d q.2) ((m-q.1)/(q.2-q.1))
  unfold F5
  rw [l1,l2,e1,e2,f1,f2]
  exact eV
 ·rw [if_neg h] at hp;cases hp
theorem gK (h:Br cs ds<Bk cs ds):(K6 cs ds).head?=some (Br cs ds):=by
 have mb:Br cs ds∈K6 cs ds:=Dk.mpr (.inl rfl)
 have hs:O6 (K6 cs ds):=F3
 have hi:∀x∈K6 cs ds,Br cs ds<=x:=λx hx=>(F2 h hx).1
 generalize K6 cs ds=ts at *
 cases ts with
 | nil=>cases mb
 | cons a r=>
   rcases List.mem_cons.mp mb with e|e
   ·rw [e];rfl
   ·have:=(List.pairwise_cons.mp hs).1 _ e
    have:=hi a (by simp)
    grind
theorem gL (h:Br cs ds<Bk cs ds):(K6 cs ds).getLast?=some (Bk cs ds):=by
 have mb:Bk cs ds∈K6 cs ds:=Dk.mpr (.inr (.inl rfl))
 have hs:O6 (K6 cs ds):=F3
 have hi:∀x∈K6 cs ds,x<=Bk cs ds:=λx hx=>(F2 h hx).2
 generalize K6 cs ds=ts at *
 obtain ⟨l,el⟩:∃l,ts.getLast?=some l:=⟨_,List.getLast?_eq_some_getLast (by intro z;subst z;cases mb)⟩
 rw [el]
 have l1:=hi l (List.mem_of_getLast? el)
 obtain ⟨i,UK,e⟩:=List.mem_iff_getElem.mp mb
 rw [List.getLast?_eq_getElem?] at el
 obtain ⟨hl,el⟩:=List.getElem?_eq_some_iff.mp el
 by_cases k:i=ts.length-1
 ·subst k;rw [<-e,<-el]
 ·have:=List.pairwise_iff_getElem.mp hs i (ts.length-1) UK hl (by omega)
  rw [e,el] at this
  grind
theorem E6.cover (D:E6 cs ds d M W) {m:Rat} (h1:Br cs ds<=m) (h2:m<Bk cs ds):∃p∈Qc cs ds d,p.b<=m/\m<p.e:=by
 have h:Br cs ds<Bk cs ds:=by grind
 unfold Qc
 rw [if_pos h]
 obtain ⟨p,hp,k⟩:=Qy F3 (gK h) (gL h) h1 h2
 exact ⟨_,List.mem_map.mpr ⟨p,hp,rfl⟩,k⟩
def BO (cs ds:List C4) (d:Rat×Rat) (m:Rat):Prop:=Br cs ds<=m/\m<Bk cs ds/\Pk (F5 cs ds d m)<1
instance {m:Rat}:Decidable (BO cs ds d m):=by unfold BO;infer_instance
theorem E6.near_iff (D:E6 cs ds d M W) {m:Rat}:(∃p∈Qc cs ds d,XF p.N p.lns p.b p.e m)↔BO cs ds d m:=by
 constructor
 ·rintro ⟨p,hp,h1,h2,h3⟩
  have o:=D.pc p hp
  have lo:=o.lo
  have hi:=o.hi
  rw [XD o.w0 o.w1,<-o.lin m h1 (by grind)] at h3
  exact ⟨by grind,by grind,h3⟩
 ·rintro ⟨h1,h2,h3⟩
  obtain ⟨p,hp,k1,k2⟩:=D.cover h1 h2
  have o:=D.pc p hp
  refine ⟨p,hp,k1,k2, ?_⟩
  rw [XD o.w0 o.w1,<-o.lin m k1 (by grind)]
  exact h3
theorem R8 (D:E6 cs ds d M W):(Qc cs ds d).length<=201:=by
 have h1:=D.f1
 have h2:=D.f2
 unfold Qc
 split
 ·rw [R9]
  have:=L4 (cs:=cs) (ds:=ds) (b:=Br cs ds) (e:=Bk cs ds)
  unfold K6
  omega
 ·simp
structure Wa (cs ds:List C4) (d:Rat×Rat) (B:Nat) (ss:List Bi):Prop where
 few:ss.length<=201
 ok:∀s∈ss,Ce B s
 fin:∀s∈ss,∃x,s.2.2=some x
 sem:∀m,ss.any (Bf · (m,0))=true↔BO cs ds d m
theorem eM {p:Pc}:p.lns.length=6:=rfl
theorem Hf (D:E6 cs ds d M W) {v w u:PV} (hv:Ci cs v) (hw:Ci ds w) (hu:cv d u) {Q:PV->Prop} (q:∀ss,Wa cs ds d (3*M+3*W+6) ss->Q (.tup ((canon 1 ss).map Cg))):Ex [v,w,u] Q:=by
 have hM:=D.hM
 have hW:=D.hW
 have fw:=R8 D
 apply SV
 ac_rfl
 refine Yk D hv hw hu ?_
 ac_rfl
 refine Tr (λr acc=>∃us rs ss,us++rs=Qc cs ds d/\r=rs.map nJ/\acc=ss.map Cg/\ss.length<=us.length/\(∀s∈ss,Ce (3*M+3*W+6) s)/\(∀s∈ss,∃x,s.2.2=some x)/\∀m,ss.any (Bf · (m,0))=true↔∃p∈us,XF p.N p.lns p.b p.e m) ?_ ?_ _ _ ⟨[],_, [],rfl,rfl,rfl,by simp,by simp,by simp,by simp⟩
 ·rintro acc ⟨us,rs,ss,e,hr,rfl,h1,h2,h3,h4⟩
  have:rs= [] :=by cases rs with | nil=>rfl|cons _ _=>cases hr
  subst this
  rw [List.append_nil] at e
  subst e
  ac_rfl
  refine U0 (.inr rfl) (Yo ss) h2 (by omega) (by omega) ?_
  exact q ss ⟨by omega,h2,h3,λm=>by rw [h4,D.near_iff]⟩
 ·rintro y r acc R hR ⟨us,rs,ss,e,hr,rfl,h1,h2,h3,h4⟩
  cases rs with
  | nil=>cases hr
  | cons p rs=>
    cases hr
    have pm:p∈Qc cs ds d:=by rw [<-e];simp
    have ul:us.length+1<=201:=by rw [<-e] at fw;simp at fw;omega
    have o:=D.pc p pm
    repeat' array_get_dec
    refine Vy (jS o.w0 o.w1 (by omega)) o.lt o.bb o.be (by omega) hW (by rw [eM];decide) λtt nt=> ?_
    have tf:=nt.few
    repeat' array_get_dec
    refine Zt _ _ (hR _ ⟨us ++ [p],rs,ss++tt,by simpa using e,rfl,by rw [List.map_append],by simp;omega,λs hs=> ?_,λs hs=> ?_,λm=> ?_⟩)
    ·rcases List.mem_append.mp hs with hs|hs
     ·exact h2 s hs
     ·exact nt.ok s hs
    ·rcases List.mem_append.mp hs with hs|hs
     ·exact h3 s hs
     ·exact nt.fin s hs
    ·rw [List.any_append,Bool.or_eq_true,h4,nt.sem]
     constructor
     ·rintro (⟨x,hx,z⟩|z)
      ·exact ⟨x,by simp [hx],z⟩
      ·exact ⟨p,by simp,z⟩
     ·rintro ⟨x,hx,z⟩
      rcases List.mem_append.mp hx with hx|hx
      ·exact .inl ⟨x,hx,z⟩
      ·simp at hx;subst hx;exact .inr z
end
theorem D4 {a b:Rat} (h0:b≠0) (ha:Bd 8000 a) (hb:Bd 500 b) {Q:PV->Prop} (h:Q (fr (a/b))):Bs [fr a,fr b] Q:=by
 refine ⟨MulOk.of ha.top hb.botI,MulOk.of ha.botI hb.top,rfl,CF _ _ (CM (BX a) (Rq h0)) (Ap (BH ha.top hb.botI) (by omega)) (Ap (BH ha.botI hb.top) (by omega)) ?_⟩
 rw [GI] at h
 exact h
theorem EU {a b:Rat} (ha:Bd 8000 a) (hb:Bd 8000 b) {Q:PV->Prop} (h:Q (.bl (decide (a<b)))):Th [fr a,fr b] Q:=by
 refine ⟨MulOk.of ha.top hb.botI,MulOk.of hb.top ha.botI, ?_⟩
 rw [<-gx] at h
 exact h
theorem UM {B M:Nat} (xV:M+6*B+10<=3900) {a l a2 l2:C4} {r r2:List C4} {d:Rat×Rat} {m:Rat} (hc:∀c∈a::r,EK B c) (Mq:∀c∈a2::r2,EK B c) (hr:Hi (a::r)) (jH:Hi (a2::r2)) (h0:r≠ []) (U4:r2≠ []) (hl:(a::r).length<=100) (qI:(a2::r2).length<=100) (el:(a::r).getLast?=some l) (el2:(a2::r2).getLast?=some l2) (bm:Bd M m) (b1:Bd 100 d.1) (b2:Bd 100 d.2) (p1:d.1≠0) (p2:d.2≠0)
 {Q:PV->Prop} (q:Q (i0 (YC a l a2 l2 (a::r) (a2::r2) d m))):Et [Ag (a::r),Ag (a2::r2), .tup [fr d.1,fr d.2],fr m, .bl false] Q:=by
 have ba:=(hc a (by simp)).m
 have bl:=(hc l (List.mem_of_getLast? el)).m
 have ba2:=(Mq a2 (by simp)).m
 have bl2:=(Mq l2 (List.mem_of_getLast? el2)).m
 have no:¬De a l a2 l2 m->Q .non:=λh=>by unfold YC at q;rw [if_neg h] at q;exact q
 apply SM
 ac_rfl
 ·exact no λz=>by unfold De at z;grind
 ·exact no λz=>by unfold De at z;grind
 ·exact no λz=>by unfold De at z;grind
 ·exact no λz=>by unfold De at z;grind
 rename_i k1 k2 k3 k4
 have th:De a l a2 l2 m:=by
  unfold De
  exact ⟨⟨by grind,by grind⟩,by grind,by grind⟩
 have g1:a.1<=m/\m<=l.1:=by unfold De at th;exact ⟨by grind,by grind⟩
 have g2:a2.1<=m/\m<=l2.1:=by unfold De at th;exact ⟨by grind,by grind⟩
 obtain ⟨s1,es1⟩:=Gb h0 el g1.1 g1.2
 obtain ⟨s2,es2⟩:=Gb U4 el2 g2.1 g2.2
 have t1:=EW.spotC bm hr hc s1 es1
 have t2:=EW.spotC bm jH Mq s2 es2
 unfold YC at q
 rw [if_pos th,es1,es2] at q
 have q:Q (fr (Pk (Fd s1 s2 d))):=q
 have x1:=t1.x
 have x2:=t1.y
 have x3:=t1.z
 have y1:=t2.x
 have y2:=t2.y
 have y3:=t2.z
 have w1:=x1.sub y1
 have w2:=x2.sub y2
 have w3:=x3.sub y3
 have o1:Bd 8000 (absR (Fd s1 s2 d).1):=((w1.div p1 b1).absR).mono (by omega)
 have o2:Bd 8000 (absR (Fd s1 s2 d).2.1):=((w2.div p1 b1).absR).mono (by omega)
 have o3:Bd 8000 (absR (Fd s1 s2 d).2.2):=((w3.div p2 b2).absR).mono (by omega)
 have m0:Bd 8000 (0:Rat):=Y7.mono (by omega)
 have m1:=m0.mx o1
 have m2:=m1.mx o2
 refine Dq hc hr (by simp) (by omega) bm (by omega) ?_
 rw [es1,show IW (some s1)= .tup [fr s1.1,fr s1.2.1,fr s1.2.2] from rfl]
 ac_rfl
 refine Dq Mq jH (by simp) (by omega) bm (by omega) ?_
 rw [es2,show IW (some s2)= .tup [fr s2.1,fr s2.2.1,fr s2.2.2] from rfl]
 ac_rfl
 rw [show rng 0 (Int.toNat 3)= [.int 0, .int 1, .int 2] from rfl]
 unfold Pk at q
 have st:∀{ls:List PV} {g o:Rat} {τ:Option AV->Rat->Option AV->BE} (k:∀z6 z9 g',g'=mx g (absR o)->Cm (Au 6) Bt {nx:=Ar (aV 5) {nx:=λx=>Q PV.non,rt:=Q,bk:=λx=>False,ct:=λx=>False},rt:=Q,bk:=λx=>False,ct:=λx=>False} ls (τ z6 g' z9)),
  (g<absR o->∀z6 z9,Cm (Au 6) Bt {nx:=Ar (aV 5) {nx:=λx=>Q PV.non,rt:=Q,bk:=λx=>False,ct:=λx=>False},rt:=Q,bk:=λx=>False,ct:=λx=>False} ls (τ z6 (absR o) z9))/\(¬g<absR o->∀z6 z9,Cm (Au 6) Bt {nx:=Ar (aV 5) {nx:=λx=>Q PV.non,rt:=Q,bk:=λx=>False,ct:=λx=>False},rt:=Q,bk:=λx=>False,ct:=λx=>False} ls (τ z6 g z9)):=λk=>
  ⟨λh z6 z9=>k z6 z9 _ (by unfold mx;rw [if_pos h]),λh z6 z9=>k z6 z9 _ (by unfold mx;rw [if_neg h])⟩
 have d0:(if decide ((0:Int)=2)=true then (1:Int) else 0)=0:=rfl
 have d1:(if decide ((1:Int)=2)=true then (1:Int) else 0)=0:=rfl
 have d2:(if decide ((2:Int)=2)=true then (1:Int) else 0)=1:=rfl
 generalize Ag (a::r)=P1 at *
 generalize Ag (a2::r2)=P2 at *
 let S:Option AV->Rat->Option AV->BE:=λz6 g z9=> [some (.val P1),some (.val P2),some (.val (.tup [fr d.1,fr d.2])),some (.val (fr m)),some (.val (.bl false)),some (.val (fr g)),z6,some (.val (.tup [fr s1.1,fr s1.2.1,fr s1.2.2])),some (.val (.tup [fr s2.1,fr s2.2.1,fr s2.2.2])),z9]
 have k3:∀z6 z9 g,g=mx (mx (mx 0 (absR (Fd s1 s2 d).1)) (absR (Fd s1 s2 d).2.1)) (absR (Fd s1 s2 d).2.2)->Cm (Au 6) Bt {nx:=Ar (aV 5) {nx:=λx=>Q PV.non,rt:=Q,bk:=λx=>False,ct:=λx=>False},rt:=Q,bk:=λx=>False,ct:=λx=>False} [] (S z6 g z9):=by
  intro z6 z9 g e
  subst e
  dsimp only [S]
  ac_rfl
  exact q
 have o1':Bd 8000 (absR ((s1.1-s2.1)/d.1)):=o1
 have o2':Bd 8000 (absR ((s1.2.1-s2.2.1)/d.1)):=o2
 have o3':Bd 8000 (absR ((s1.2.2-s2.2.2)/d.2)):=o3
 have k2:∀z6 z9 g,g=mx (mx 0 (absR (Fd s1 s2 d).1)) (absR (Fd s1 s2 d).2.1)->Cm (Au 6) Bt {nx:=Ar (aV 5) {nx:=λx=>Q PV.non,rt:=Q,bk:=λx=>False,ct:=λx=>False},rt:=Q,bk:=λx=>False,ct:=λx=>False} [.int 2] (S z6 g z9):=by
  intro z6 z9 g e
  subst e
  obtain ⟨t1,t2⟩:=st k3
  dsimp only [S] at t1 t2 ⊢
  refine gU.go ?_
  ac_rfl
  rw [d2]
  ac_rfl
  refine D4 p2 (w3.mono (by omega)) (b2.mono (by omega)) ?_
  ac_rfl
  rw [Lc]
  refine EU (by first | exact m0|exact m1|exact m2) (by first | exact o1'|exact o2'|exact o3') ?_
  ac_rfl
  ·rename_i h
   rw [Lc]
   first | exact t1 h none none|exact t1 h _ _
  ·rename_i h
   first | exact t2 h none none|exact t2 h _ _
 have k1:∀z6 z9 g,g=mx 0 (absR (Fd s1 s2 d).1)->Cm (Au 6) Bt {nx:=Ar (aV 5) {nx:=λx=>Q PV.non,rt:=Q,bk:=λx=>False,ct:=λx=>False},rt:=Q,bk:=λx=>False,ct:=λx=>False} [.int 1, .int 2] (S z6 g z9):=by
  intro z6 z9 g e
  subst e
  obtain ⟨t1,t2⟩:=st k2
  dsimp only [S] at t1 t2 ⊢
  refine gU.go ?_
  ac_rfl
  rw [d1]
  ac_rfl
  refine D4 p1 (w2.mono (by omega)) (b1.mono (by omega)) ?_
  ac_rfl
  rw [Lc]
  refine EU (by first | exact m0|exact m1|exact m2) (by first | exact o1'|exact o2'|exact o3') ?_
  ac_rfl
  ·rename_i h
   rw [Lc]
   first | exact t1 h none none|exact t1 h _ _
  ·rename_i h
   first | exact t2 h none none|exact t2 h _ _
 have k0:∀z6 z9 g,g=0->Cm (Au 6) Bt {nx:=Ar (aV 5) {nx:=λx=>Q PV.non,rt:=Q,bk:=λx=>False,ct:=λx=>False},rt:=Q,bk:=λx=>False,ct:=λx=>False} [.int 0, .int 1, .int 2] (S z6 g z9):=by
  intro z6 z9 g e
  subst e
  obtain ⟨t1,t2⟩:=st k1
  dsimp only [S] at t1 t2 ⊢
  refine gU.go ?_
  ac_rfl
  rw [d0]
  ac_rfl
  refine D4 p1 (w1.mono (by omega)) (b1.mono (by omega)) ?_
  ac_rfl
  rw [Lc]
  refine EU (by first | exact m0|exact m1|exact m2) (by first | exact o1'|exact o2'|exact o3') ?_
  ac_rfl
  ·rename_i h
   rw [Lc]
   first | exact t1 h none none|exact t1 h _ _
  ·rename_i h
   first | exact t2 h none none|exact t2 h _ _
 exact k0 _ _ 0 rfl
abbrev LN:AS:=
 (Ab (Ao (Tl (EX Fc (AB (FZ (Cv (O8 (aV 1)) 1 [2] (Au 0) (A5 (AN 2 Am (AB (aV 0) (AB (aV 1) AL)))) (aV 0))) AL))) (Au 3))
   (Bz (Tn (Pa (A5 (AX M6 (aV 3) (EX Fc (AB (aV 1) AL)))) (A5 (AX cm (AX Ak (aV 1) (aV 3)) (aV 2))))) (EY 1 aa (AB (aV 3) (AB (aV 2) AL))) BM))
abbrev LO:AS:=
 (Ab (FY (O8 (aV 0)) (Au 2) LN)
   (Ar (aV 1)))
abbrev IF:AS:=
 (Ab (JB (DF AL) 1)
   LO)
def Cc:AF:=A0 4 IF
theorem My {x0:PV} {Q:PV->Prop} (h:IF ⟨λ_=>Q .non,Q,λ_=>False,λ_=>False⟩ [some (.val x0),none,none,none]):Cc [x0] Q:=h
abbrev IE:AS:=
 (Ar (AN 2 BI (AB (AN 2 Bq (AB (aV 0) (AB (aV 1) AL))) (AB (A3 (AB (aC (.int 1)) (AB (aC (.int 2)) AL))) AL))))
def DK:AF:=A0 2 IE
theorem Mx {x0 x1:PV} {Q:PV->Prop} (h:IE ⟨λ_=>Q .non,Q,λ_=>False,λ_=>False⟩ [some (.val x0),some (.val x1)]):DK [x0,x1] Q:=h
abbrev Me:AS:=
 (Ab (Ao (FZ (Cv (O8 (AX BJ (aV 0) (aV 1))) 1 [2,3] (Au 0) (HE (A5 (AN 2 Am (AB (aV 1) (AB (AX Ak (aV 0) (aC (.int 0))) AL)))) (A5 (AN 2 Am (AB (AX Ak (aV 0) (aC (.int 0))) (AB (aV 2) AL))))) (AX Ak (aV 0) (aC (.int 0))))) (Au 4))
   (Ar (AN 1 Cc (AB (AX BJ (FZ (DF (AB (aV 2) (AB (aV 3) AL)))) (aV 4)) AL))))
abbrev ET:AS:=
 (Ab (Bz (Gr (A5 (AN 2 Am (AB (aV 2) (AB (aV 3) AL))))) (Ar (FZ (DF AL))) BM)
   Me)
abbrev Gj:AS:=
 (Ab (Ao (gW (A5 (AN 2 Am (AB (AX Ak (AX Ak (aV 0) (N2 Fb (aC (.int 1)))) (aC (.int 0))) (AB (AX Ak (AX Ak (aV 1) (N2 Fb (aC (.int 1)))) (aC (.int 0))) AL)))) (AX Ak (AX Ak (aV 0) (N2 Fb (aC (.int 1)))) (aC (.int 0))) (AX Ak (AX Ak (aV 1) (N2 Fb (aC (.int 1)))) (aC (.int 0)))) (Au 3))
   ET)
abbrev F7:AS:=
 (Ab (Ao (gW (A5 (AN 2 Am (AB (AX Ak (AX Ak (aV 1) (aC (.int 0))) (aC (.int 0))) (AB (AX Ak (AX Ak (aV 0) (aC (.int 0))) (aC (.int 0))) AL)))) (AX Ak (AX Ak (aV 0) (aC (.int 0))) (aC (.int 0))) (AX Ak (AX Ak (aV 1) (aC (.int 0))) (aC (.int 0)))) (Au 2))
   Gj)
def Dr:AF:=A0 5 F7
theorem Oc {x0 x1:PV} {Q:PV->Prop} (h:F7 ⟨λ_=>Q .non,Q,λ_=>False,λ_=>False⟩ [some (.val x0),some (.val x1),none,none,none]):Dr [x0,x1] Q:=h
abbrev NY:AS:=
 (Ab (Ao (FZ (Cv (Pd (AB (aC (.int 3)) AL)) 1 [2,5,6] (Au 0) E7 (AN 2 Bs (AB (AN 2 BN (AB (AX Ak (aV 2) (aV 0)) (AB (AX Ak (aV 3) (aV 0)) AL))) (AB (AX Ak (aV 1) (EX Pj (AB (AX M6 (aV 0) (aC (.int 2))) AL))) AL))))) (Au 4))
   (Ar (AX BJ (aV 4) (FZ (Cv (O8 (aV 4)) 1 [] (Au 0) E7 (A3 (AB (N2 Fb (AX Ak (aV 0) (aC (.int 0)))) (AB (AX Ak (aV 0) (aC (.int 1))) AL))))))))
abbrev L9:AS:=
 (Ab (Ao (A3 (AB (AN 2 Ct (AB (aV 0) (AB (aV 3) AL))) (AB (AN 2 Ct (AB (aV 1) (AB (aV 3) AL))) AL))) (MD 2 (Ai (Au 5) (Ai (Au 6) CJ))))
   NY)
def Dg:AF:=A0 7 L9
theorem P6 {x0 x1 x2 x3:PV} {Q:PV->Prop} (h:L9 ⟨λ_=>Q .non,Q,λ_=>False,λ_=>False⟩ [some (.val x0),some (.val x1),some (.val x2),some (.val x3),none,none,none]):Dg [x0,x1,x2,x3] Q:=h
abbrev Md:AS:=
 (Ab (Ao (AN 2 Bs (AB (aV 0) (AB (AN 2 BN (AB (aV 0) (AB (aV 1) AL))) AL))) (Au 4))
   (Ar (AN 2 Bq (AB (aV 2) (AB (AN 2 BI (AB (aV 4) (AB (AN 2 BN (AB (aV 3) (AB (aV 2) AL))) AL))) AL)))))
abbrev Jf:AS:=
 (Ab (Bz (A5 (AX k9 (AX C7 (AX Ak (aV 0) (aC (.int 0))) (AX Ak (aV 1) (aC (.int 0)))) (aC (.int 0)))) (Ar (aC .non)) BM)
   Md)
def Dp:AF:=A0 5 Jf
theorem Ob {x0 x1 x2 x3:PV} {Q:PV->Prop} (h:Jf ⟨λ_=>Q .non,Q,λ_=>False,λ_=>False⟩ [some (.val x0),some (.val x1),some (.val x2),some (.val x3),none]):Dp [x0,x1,x2,x3] Q:=h
abbrev IX:AS:=
 (Ab (Ao (AN 4 Dp (AB (AN 2 BN (AB (aV 9) (AB (A3 (AB (aC (.int 1)) (AB (aC (.int 1)) AL))) AL))) (AB (AN 2 BN (AB (aV 10) (AB (A3 (AB (aC (.int 1)) (AB (aC (.int 1)) AL))) AL))) (AB (aV 5) (AB (aV 6) AL))))) (Au 11))
   (Bz (A5 (AX MF (aV 11) (aC .non))) (EY 4 KD (AB (aV 11) AL)) BM))
abbrev IY:AS:=
 (Ab (Pb 7 8 (AB (AN 4 Dg (AB (aV 0) (AB (aV 1) (AB (aV 2) (AB (aV 5) AL))))) (AB (AN 4 Dg (AB (aV 0) (AB (aV 1) (AB (aV 2) (AB (aV 6) AL))))) AL)))
   (FY (gX (AB (aV 7) (AB (aV 8) AL))) (MD 2 (Ai (Au 9) (Ai (Au 10) CJ))) IX))
abbrev Ia:AS:=
 (Ab (FY (gX (AB (aV 3) (AB (We (aV 3) (Wh (aC (.int 1))) Wg) AL))) (MD 2 (Ai (Au 5) (Ai (Au 6) CJ))) IY)
   (Ar (AN 1 Cc (AB (aV 4) AL))))
abbrev IZ:AS:=
 (Ab (JB (Zh (AB (aV 3) AL)) 4)
   Ia)
abbrev Gf:AS:=
 (Ab (Ao (AN 2 Dr (AB (aV 0) (AB (aV 1) AL))) (Au 3))
   IZ)
def CU:AF:=A0 12 Gf
theorem KP {x0 x1 x2:PV} {Q:PV->Prop} (h:Gf ⟨λ_=>Q .non,Q,λ_=>False,λ_=>False⟩ [some (.val x0),some (.val x1),some (.val x2),none,none,none,none,none,none,none,none,none]):CU [x0,x1,x2] Q:=h
abbrev G4:AS:=
 (Ab (Ao (AN 5 Et (AB (aV 0) (AB (aV 1) (AB (aV 2) (AB (aV 3) (AB (aC (.bl false)) AL)))))) (Au 4))
   (Ar (Xz (AX MF (aV 4) (aC .non)) (AX Y8 (AX Ak (aV 4) (aC (.int 0))) (AX Ak (aV 4) (aC (.int 1)))))))
def CD:AF:=A0 5 G4
theorem Lw {x0 x1 x2 x3:PV} {Q:PV->Prop} (h:G4 ⟨λ_=>Q .non,Q,λ_=>False,λ_=>False⟩ [some (.val x0),some (.val x1),some (.val x2),some (.val x3),none]):CD [x0,x1,x2,x3] Q:=h
theorem IL {v:PV} {ms:List Rat} {B:Nat} (hv:v= .lst (ms.map fr)) (hB:B<=4000) (hl:ms.length<=10000) (hb:∀m∈ms,Bd B m) {Q:PV->Prop} (q:Q (.lst ((CO ms).map fr))):Cc [v] Q:=by
 subst hv
 apply My
 ac_rfl
 refine FB fr (λus vs τ=>∃(z2 z3:Option AV),τ= [some (.val (.lst (ms.map fr))),some (.own ((CO us).map fr)),z2,z3]) ?_ ?_ ⟨_,_,rfl⟩
 ·rintro τ ⟨z2,z3,rfl⟩
  ac_rfl
  exact q
 ·rintro us m vs e τ R hR ⟨z2,z3,rfl⟩
  have ul:us.length<=10000:=by rw [<-e] at hl;simp at hl;omega
  have rl:=E2 (xs:=us)
  have bm:=hb m (by rw [<-e];simp)
  have bu:∀x∈CO us,Bd B x:=λx hx=>hb x (by rw [<-e];simp [Be.mp hx])
  have hs:O6 (CO us):=Bj
  have fin:∀(ws:List Rat) z2 z3,ws=ins (CO us) m->R [some (.val (.lst (ms.map fr))),some (.own (ws.map fr)),z2,z3] :=λws z2 z3 h=>hR _ ⟨z2,z3,by rw [h,show CO (us ++ [m])=ins (CO us) m by unfold CO;rw [List.foldl_append];rfl]⟩
  clear hR
  generalize CO us=rs at *
  ac_rfl
  refine D9 fr fr (λx=>decide (x<m)) (Bd B) (λx bx R N h1 h2=> ?_) rs [] bu ?_
  ·ac_rfl
   ·rename_i z;exact h1 (decide_eq_true z)
   ·rename_i z;exact h2 (decide_eq_false z)
  have fl:(rs.filter λx=>decide (x<m)).length<=rs.length:=List.length_filter_le _ _
  have ei:=VL hs (QK (x:=m) hs)
  rw [List.nil_append]
  generalize (rs.filter λx=>decide (x<m))=fs at *
  ac_rfl
  ·rename_i h1
   have e1:rs[fs.length]? =none:=List.getElem?_eq_none (by omega)
   rw [e1,if_neg (by simp)] at ei
   have:=fin _ (some (.val (fr m))) (some (.val (.int fs.length))) ei.symm
   rw [List.map_append,List.map_cons,List.map_take,List.map_drop] at this
   exact this
  ·rename_i h1 d e1 _ h2
   have e1':rs[fs.length]? =some d:=e1
   rw [e1',if_neg (by simpa using h2)] at ei
   have:=fin _ (some (.val (fr m))) (some (.val (.int fs.length))) ei.symm
   rw [List.map_append,List.map_cons,List.map_take,List.map_drop] at this
   exact this
  ·rename_i h1 d e1 _ h2
   have e1':rs[fs.length]? =some d:=e1
   rw [e1',if_pos (by rw [h2])] at ei
   exact fin _ _ _ ei.symm
theorem Pp {a b:Rat} (ba:Bd 3900 a) (bb:Bd 3900 b) (hb:Bd 4000 (a+b)) {Q:PV->Prop} (q:Q (fr ((a+b)*(1/2)))):DK [fr a,fr b] Q:=by
 have bh:Bd 8 (1/2:Rat):=tz
 apply Mx
 ac_rfl
 exact q
theorem m8 {a b:Rat} (h:b<a):a=mx a b:=by unfold mx;split <;> grind
theorem m9 {a b:Rat} (h:¬b<a):b=mx a b:=by unfold mx;split <;> grind
theorem m6 {a b:Rat} (h:a<b):a=mn a b:=by unfold mn;split <;> grind
theorem m7 {a b:Rat} (h:¬a<b):b=mn a b:=by unfold mn;split <;> grind
def TB (cs ds:List C4):List Rat:=if Br cs ds<Bk cs ds then K6 cs ds else []
theorem Rk {cs ds:List C4} {d:Rat×Rat} {M W:Nat} (D:E6 cs ds d M W) {Q:PV->Prop} (q:Q (.lst ((TB cs ds).map fr))):Dr [Ag cs,Ag ds] Q:=by
 have k1:=D.fstB
 have k2:=D.fstB2
 have k3:=D.lstB
 have k4:=D.lstB2
 have k5:=D.begB
 have k6:=D.endB
 have hM:=D.hM
 have f1:=D.f1
 have f2:=D.f2
 have hc:∀c∈cs++ds,Bd M c.1:=λc hc=>by
  rcases List.mem_append.mp hc with h|h
  ·exact D.m1 c h
  ·exact D.m2 c h
 unfold TB K6 E4 Br Bk at q
 unfold Br at k5
 unfold Bk at k6
 obtain ⟨a,r,l,ecs,h0,el⟩:=open2 D.t1
 obtain ⟨a2,r2,l2,eds,U4,el2⟩:=open2 D.t2
 have el':cs.getLast?=some l:=by rw [ecs];exact el
 have el2':ds.getLast?=some l2:=by rw [eds];exact el2
 rw [Bn el',Bn el2'] at q k6
 rw [show RU cs=a.1 by rw [ecs];rfl,show RU ds=a2.1 by rw [eds];rfl] at q k5
 rw [Bn el'] at k3
 rw [Bn el2'] at k4
 rw [show RU cs=a.1 by rw [ecs];rfl] at k1
 rw [show RU ds=a2.1 by rw [eds];rfl] at k2
 have P0:∀{Q:PV->Prop},Q (cor a)->Ak (Ag cs) (.int 0) Q:=λh=>by rw [ecs];exact bi h
 have P1:∀{Q:PV->Prop},Q (cor a2)->Ak (Ag ds) (.int 0) Q:=λh=>by rw [eds];exact bi h
 have rest:∀{f t:Rat} {z4:Option AV},f=mx a.1 a2.1->t=mn l.1 l2.1->ET ⟨λ_=>Q .non,Q,λ_=>False,λ_=>False⟩ [some (.val (Ag cs)),some (.val (Ag ds)),some (.val (fr f)),some (.val (fr t)),z4] :=by
  rintro f t z4 ef et
  rw [<-ef] at q k5
  rw [<-et] at q k6
  ac_rfl
  ·rename_i z
   rw [if_neg z] at q
   exact q
  ·rename_i z
   rw [if_pos z] at q
   refine D9 cor (λc=>fr c.1) (Lf f t) (λc=>Bd M c.1) (λc bc R N h1 h2=> ?_) (cs++ds) [] hc ?_
   ·ac_rfl
    ·rename_i y1 y2;exact h1 (by unfold Lf;rw [decide_eq_true y1,decide_eq_true y2];rfl)
    ·rename_i y1 y2;exact h2 (by unfold Lf;rw [decide_eq_true y1,decide_eq_false y2];rfl)
    ·rename_i y1;exact h2 (by unfold Lf;rw [decide_eq_false y1];rfl)
   rw [List.nil_append]
   have fl1:=List.length_filter_le (Lf f t) (cs++ds)
   rw [List.length_append] at fl1
   ac_rfl
   refine IL (ms:= [f,t] ++ (cs.filter (Lf f t)++ds.filter (Lf f t)).map (·.1)) (B:=M) ?_ (by omega) ?_ ?_ q
   ·rw [<-List.filter_append,List.map_append,List.map_map];rfl
   ·rw [<-List.filter_append]
    simp only [List.length_append,List.length_map,List.length_cons,List.length_nil]
    omega
   ·intro x hx
    rcases List.mem_append.mp hx with hx|hx
    ·simp only [List.mem_cons,List.not_mem_nil,or_false] at hx
     rcases hx with rfl|rfl
     ·exact k5
     ·exact k6
    ·obtain ⟨c,h,rfl⟩:=List.mem_map.mp hx
     rw [<-List.filter_append] at h
     exact hc c (List.mem_filter.mp h).1
 apply Oc
 unfold F7 Gj
 generalize ET=T at rest ⊢
 clear q
 ac_rfl
 refine P1 ?_
 ac_rfl
 refine P0 ?_
 ac_rfl
 ·rename_i z
  refine P0 ?_
  ac_rfl
  ·rename_i y
   exact rest (m8 z) (m6 y)
  ·rename_i y
   exact rest (m8 z) (m7 y)
 ·rename_i z
  refine P1 ?_
  ac_rfl
  ·rename_i y
   exact rest (m9 z) (m6 y)
  ·rename_i y
   exact rest (m9 z) (m7 y)
theorem hV (i:Int):0<=i*i:=by
 rcases Int.le_total 0 i with h|h
 ·exact Int.mul_nonneg h h
 ·exact Int.mul_nonneg_of_nonpos_of_nonpos h h
theorem kU {cs ds:List C4} (h:Br cs ds<Bk cs ds):TB cs ds=K6 cs ds:=if_pos h
def Pq (o:T3):List Rat:= [o.1,o.2.1,o.2.2, -o.1, -o.2.1, -o.2.2]
theorem ML {cs ds:List C4} {d:Rat×Rat} {M W:Nat} (D:E6 cs ds d M W) {b e m:Rat} (tg:lq cs ds b e) (h1:b<=m) (h2:m<=e) (bm:Bd M m) {Q:PV->Prop} (q:Q (.lst ((Pq (F5 cs ds d m)).map fr))):Dg [Ag cs,Ag ds, .tup [fr d.1,fr d.2],fr m] Q:=by
 have hM:=D.hM
 obtain ⟨s,es⟩:=tg.one m h1 h2
 obtain ⟨t,et⟩:=tg.other m h1 h2
 have t1:=(EW.spotC bm D.r1 D.c1 s es).mono (B':=1060) (by omega)
 have t2:=(EW.spotC bm D.r2 D.c2 t et).mono (B':=1060) (by omega)
 have x1:=t1.x
 have x2:=t1.y
 have x3:=t1.z
 have y1:=t2.x
 have y2:=t2.y
 have y3:=t2.z
 have z1:=x1.sub y1
 have z2:=x2.sub y2
 have z3:=x3.sub y3
 have b1:=D.b1
 have b2:=D.b2
 have n1:d.1≠0:=by have:=D.p1;grind
 have n2:d.2≠0:=by have:=D.p2;grind
 have f1:=D.f1
 have f2:=D.f2
 have k1:=D.t1
 have k2:=D.t2
 apply P6
 ac_rfl
 refine Dq D.c1 D.r1 (by intro z;subst z;simp at k1) (by omega) bm (by omega) ?_
 rw [es,show IW (some s)= .tup [fr s.1,fr s.2.1,fr s.2.2] from rfl]
 ac_rfl
 refine Dq D.c2 D.r2 (by intro z;subst z;simp at k2) (by omega) bm (by omega) ?_
 rw [et,show IW (some t)= .tup [fr t.1,fr t.2.1,fr t.2.2] from rfl]
 ac_rfl
 rw [show rng 0 (Int.toNat 3)= [.int 0, .int 1, .int 2] from rfl]
 repeat' array_get_dec
 rw [show (if decide ((0:Int)=2)=true then (1:Int) else 0)=0 from rfl]
 repeat' array_get_dec
 rw [show (if decide ((1:Int)=2)=true then (1:Int) else 0)=0 from rfl]
 repeat' array_get_dec
 rw [show (if decide ((2:Int)=2)=true then (1:Int) else 0)=1 from rfl]
 repeat' array_get_dec
 have q:Q (.lst ((Pq (Fd ((spotC cs m).getD (0,0,0)) ((spotC ds m).getD (0,0,0)) d)).map fr)):=q
 rw [es,et] at q
 exact q
def CQ (u v b e:Rat):Option Rat:=if 0<=u.num*v.num then none else some (b+u/(u-v)*(e-b))
theorem Rj {u v b e:Rat} {W M:Nat} (bu:Bd W u) (bv:Bd W v) (bb:Bd M b) (be:Bd M e) (hW:W<=1100) (hM:M<=150) {Q:PV->Prop} (q:Q (Z0 (CQ u v b e))):Dp [fr u,fr v,fr b,fr e] Q:=by
 apply Ob
 ac_rfl
 refine ⟨MulOk.of (m:=1100) (n:=1100) (Ap bu.top hW) (Ap bv.top hW), ?_⟩
 ac_rfl
 ·rename_i z
  unfold CQ at q
  rw [if_pos z] at q
  exact q
 ·rename_i z
  unfold CQ at q
  rw [if_neg z] at q
  have ne:u-v≠0:=λy=>by
   have:u=v:=by grind
   subst this
   exact z (hV _)
  have d1:=bu.sub bv
  have d2:=bu.div ne d1
  have d3:=be.sub bb
  have d4:=d2.mul d3
  ac_rfl
  exact q
def GG (p:Pc):List Rat:=((Pq p.o0).zip (Pq p.o1)).filterMap λx=>CQ (x.1-1) (x.2-1) p.b p.e
def Aq (cs ds:List C4) (d:Rat×Rat):List Rat:=CO (TB cs ds++(Qc cs ds d).flatMap GG)
theorem Lg (p:Pc):(GG p).length<=6:=Nat.le_trans (List.length_filterMap_le ..) (by show 6<=6;omega)
theorem Rm {W:Nat} {o:T3} (h:EW W o):∀x∈Pq o,Bd W x:=by
 intro x hx
 simp only [Pq,List.mem_cons,List.not_mem_nil,or_false] at hx
 rcases hx with rfl|rfl|rfl|rfl|rfl|rfl
 ·exact h.x
 ·exact h.y
 ·exact h.z
 ·exact h.x.neg
 ·exact h.y.neg
 ·exact h.z.neg
theorem cC {u v b e x:Rat} {W M:Nat} (bu:Bd W u) (bv:Bd W v) (bb:Bd M b) (be:Bd M e) (h:CQ u v b e=some x):Bd (3*W+3*M+3) x:=by
 unfold CQ at h
 split at h
 ·cases h
 ·rename_i z
  cases h
  have ne:u-v≠0:=λy=>by
   have:u=v:=by grind
   subst this
   exact z (hV _)
  exact (bb.add ((bu.div ne (bu.sub bv)).mul (be.sub bb))).mono (by omega)
theorem Zv {p:Pc} {W M:Nat} (h0:EW W p.o0) (h1:EW W p.o1) (bb:Bd M p.b) (be:Bd M p.e):∀x∈GG p,Bd (3*W+3*M+9) x:=by
 intro x hx
 unfold GG at hx
 obtain ⟨y,hy,e⟩:=List.mem_filterMap.mp hx
 have u:=Rm h0 y.1 (List.of_mem_zip hy).1
 have v:=Rm h1 y.2 (List.of_mem_zip hy).2
 exact (cC (u.sub gY) (v.sub gY) bb be e).mono (by omega)
abbrev ax (p:Rat×Rat):PV:= .tup [fr p.1,fr p.2]
theorem ck (ts:List Rat):ES (ts.map fr) (IB (ts.map fr) (some 1) none)=(ts.zip ts.tail).map ax:=by
 rw [pY,<-List.map_drop,cj]
 rw [List.drop_one]
def V9 (cs ds:List C4) (d:Rat×Rat) (p:Rat×Rat):Pc:=⟨p.1,p.2,F5 cs ds d p.1,F5 cs ds d p.2⟩
theorem Hm {α:Type} {f:α->List Rat} (h:∀a,(f a).length<=6):∀us:List α,(us.flatMap f).length<=6*us.length
 | [] =>by simp
 | a::r=>by
   have:=h a
   have:=Hm h r
   simp only [List.flatMap_cons,List.length_append,List.length_cons]
   omega
theorem UQ {cs ds:List C4} {d:Rat×Rat} {M W:Nat} (D:E6 cs ds d M W):∀x∈Aq cs ds d,Bd (3*W+3*M+9) x:=by
 intro x hx
 rcases List.mem_append.mp (Be.mp hx) with hx|hx
 ·unfold TB at hx
  split at hx
  ·exact (K7 D.m1 D.m2 D.begB D.endB hx).mono (by omega)
  ·cases hx
 ·obtain ⟨p,hp,hx⟩:=List.mem_flatMap.mp hx
  have o:=D.pc p hp
  exact Zv o.w0 o.w1 o.bb o.be x hx
theorem Xj {cs ds:List C4} {d:Rat×Rat} {M W:Nat} (D:E6 cs ds d M W):(TB cs ds).length<=202:=by
 have h1:=D.f1
 have h2:=D.f2
 unfold TB
 split
 ·have:=L4 (cs:=cs) (ds:=ds) (b:=Br cs ds) (e:=Bk cs ds)
  unfold K6
  omega
 ·simp
theorem YV {cs ds:List C4} {d:Rat×Rat} {M W:Nat} (D:E6 cs ds d M W):(Aq cs ds d).length<=1500:=by
 refine Nat.le_trans E2 ?_
 have h1:=Xj D
 have h2:=Hm Lg (Qc cs ds d)
 have h3:=R8 D
 rw [List.length_append]
 omega
theorem Rh {cs ds:List C4} {d:Rat×Rat} {M W:Nat} (D:E6 cs ds d M W) {Q:PV->Prop} (q:Q (.lst ((Aq cs ds d).map fr))):CU [Ag cs,Ag ds, .tup [fr d.1,fr d.2]] Q:=by
 have hM:=D.hM
 have hW:=D.hW
 have tf:=Xj D
 have mb:=UQ D
 apply KP
 ac_rfl
 refine Rk D ?_
 ac_rfl
 rw [ck]
 have ep:(Qc cs ds d)=((TB cs ds).zip (TB cs ds).tail).map (V9 cs ds d):=by
  unfold Qc TB
  split
  ·rfl
  ·rfl
 refine FB ax (λus vs τ=>∃z5 z6 z7 z8 z9 z10 z11,τ= [some (.val (Ag cs)),some (.val (Ag ds)),some (.val (.tup [fr d.1,fr d.2])),some (.val (.lst ((TB cs ds).map fr))),some (.own ((TB cs ds++us.flatMap λp=>GG (V9 cs ds d p)).map fr)),z5,z6,z7,z8,z9,z10,z11]) ?_ ?_ ⟨_,_,_,_,_,_,_,by rw [List.flatMap_nil,List.append_nil]⟩
 ·rintro τ ⟨z5,z6,z7,z8,z9,z10,z11,rfl⟩
  have fl:=Hm Lg (Qc cs ds d)
  have pf:=R8 D
  ac_rfl
  refine IL rfl (B:=3*W+3*M+9) (by omega) ?_ ?_ ?_
  ·rw [ep,List.flatMap_map,List.length_map] at fl
   rw [ep,List.length_map] at pf
   rw [List.length_append]
   omega
  ·intro m hm
   refine mb m (Be.mpr ?_)
   rw [ep,List.flatMap_map]
   exact hm
  ·unfold Aq at q
   rw [ep,List.flatMap_map] at q
   exact q
 ·rintro us p vs e τ R hR ⟨z5,z6,z7,z8,z9,z10,z11,rfl⟩
  have pm:V9 cs ds d p∈Qc cs ds d:=by rw [ep];exact List.mem_map.mpr ⟨p,by rw [<-e];simp,rfl⟩
  have h:Br cs ds<Bk cs ds:=by
   have o:=D.pc _ pm
   have:=o.lt
   have:=o.lo
   have:=o.hi
   grind
  have tg:=D.tog h
  have o:=D.pc _ pm
  have o1:Br cs ds<=p.1:=o.lo
  have o2:p.2<=Bk cs ds:=o.hi
  have o3:p.1<p.2:=o.lt
  have bb:Bd M p.1:=o.bb
  have be:Bd M p.2:=o.be
  have ul:us.length<=202:=by
   have h1:=congrArg List.length e
   rw [Xm] at h1
   simp at h1
   omega
  have fl:=Hm (λp=>Lg (V9 cs ds d p)) us
  ac_rfl
  refine ML D tg o1 (by grind) bb ?_
  ac_rfl
  refine ML D tg (by grind) o2 be ?_
  ac_rfl
  rw [cj]
  refine FB ax (λas bs τ=>∃z9 z10 z11,τ= [some (.val (Ag cs)),some (.val (Ag ds)),some (.val (.tup [fr d.1,fr d.2])),some (.val (.lst ((TB cs ds).map fr))),some (.own ((TB cs ds++(us.flatMap λp=>GG (V9 cs ds d p))++as.filterMap λx=>CQ (x.1-1) (x.2-1) p.1 p.2).map fr)),some (.val (fr p.1)),some (.val (fr p.2)),some (.val (.lst ((Pq (F5 cs ds d p.1)).map fr))),some (.val (.lst ((Pq (F5 cs ds d p.2)).map fr))),z9,z10,z11]) ?_ ?_ ⟨_,_,_,by rw [List.filterMap_nil,List.append_nil]⟩
  ·rintro τ ⟨z9,z10,z11,rfl⟩
   exact hR _ ⟨some (.val (fr p.1)),some (.val (fr p.2)),some (.val (.lst ((Pq (F5 cs ds d p.1)).map fr))),some (.val (.lst ((Pq (F5 cs ds d p.2)).map fr))),z9,z10,z11,by rw [List.flatMap_append,List.flatMap_cons,List.flatMap_nil,List.append_nil,<-List.append_assoc];rfl⟩
  ·rintro as x bs e2 τ R2 oY ⟨z9,z10,z11,rfl⟩
   have xm:x∈(Pq (F5 cs ds d p.1)).zip (Pq (F5 cs ds d p.2)):=by rw [<-e2];simp
   have al:as.length<=6:=by
    have h1:=congrArg List.length e2
    have h2:((Pq (F5 cs ds d p.1)).zip (Pq (F5 cs ds d p.2))).length=6:=rfl
    rw [h2] at h1
    simp at h1
    omega
   have fm:=List.length_filterMap_le (λx:Rat×Rat=>CQ (x.1-1) (x.2-1) p.1 p.2) as
   have bu:=Rm o.w0 x.1 (List.of_mem_zip xm).1
   have bv:=Rm o.w1 x.2 (List.of_mem_zip xm).2
   have fin:∀(o:Option Rat) z9 z10 z11,o=CQ (x.1-1) (x.2-1) p.1 p.2->R2 [some (.val (Ag cs)),some (.val (Ag ds)),some (.val (.tup [fr d.1,fr d.2])),some (.val (.lst ((TB cs ds).map fr))),some (.own ((TB cs ds++(us.flatMap λp=>GG (V9 cs ds d p))++(as.filterMap λx=>CQ (x.1-1) (x.2-1) p.1 p.2)).map fr++o.toList.map fr)),some (.val (fr p.1)),some (.val (fr p.2)),some (.val (.lst ((Pq (F5 cs ds d p.1)).map fr))),some (.val (.lst ((Pq (F5 cs ds d p.2)).map fr))),z9,z10,z11] :=λo z9 z10 z11 eo=>by
    refine oY _ ⟨z9,z10,z11, ?_⟩
    rw [<-List.map_append,List.append_assoc (TB cs ds++_),List.filterMap_append]
    have:List.filterMap (λx:Rat×Rat=>CQ (x.1-1) (x.2-1) p.1 p.2) [x] =o.toList:=by
     rw [List.filterMap_cons,<-eo]
     cases o <;> rfl
    rw [this]
   clear oY
   generalize (as.filterMap λx:Rat×Rat=>CQ (x.1-1) (x.2-1) p.1 p.2)=gs at *
   generalize (us.flatMap λp=>GG (V9 cs ds d p))=ff at *
   ac_rfl
   refine Rj (W:=W+2) (M:=M) ((bu.sub gY).mono (by omega)) ((bv.sub gY).mono (by omega)) bb be (by omega) hM ?_
   generalize hq:CQ (x.1-1) (x.2-1) p.1 p.2=q' at *
   cases q' with
   | none=>
     rw [show Z0 none= .non from rfl]
     ac_rfl
     have:=fin none (some (.val (fr x.1))) (some (.val (fr x.2))) (some (.val .non)) rfl
     rw [Option.toList_none,List.map_nil,List.append_nil] at this
     exact this
   | some m=>
     rw [show Z0 (some m)=fr m from rfl]
     ac_rfl
     exact fin (some m) _ _ _ rfl
theorem HJ {cs ds:List C4} {d:Rat×Rat} {M W:Nat} (D:E6 cs ds d M W) {B X:Nat} (hc:∀c∈cs,EK B c) (Mq:∀c∈ds,EK B c) {m:Rat} (bm:Bd X m) (hB:X+6*B+10<=3900) {Q:PV->Prop} (q:Q (.bl (decide (BO cs ds d m)))):CD [Ag cs,Ag ds, .tup [fr d.1,fr d.2],fr m] Q:=by
 have n1:d.1≠0:=by have:=D.p1;grind
 have n2:d.2≠0:=by have:=D.p2;grind
 have f1:=D.f1
 have f2:=D.f2
 have r1:=D.r1
 have r2:=D.r2
 have b1:=D.b1
 have b2:=D.b2
 have hq:∀o:Option Rat,(match o with | none=>False|some g=>g<1)=BO cs ds d m->Q (.bl (match o with | none=>false|some g=>decide (g<1))):=λo e=>by
  cases o with
  | none=>rw [decide_eq_false (by rw [<-e];exact λz=>z)] at q;exact q
  | some g=>rw [show decide (BO cs ds d m)=decide (g<1) from decide_eq_decide.mpr (by rw [<-e])] at q;exact q
 obtain ⟨a,r,l,rfl,h0,el⟩:=open2 D.t1
 obtain ⟨a2,r2',l2,rfl,U4,el2⟩:=open2 D.t2
 apply Lw
 ac_rfl
 refine UM hB hc Mq r1 r2 h0 U4 f1 f2 el el2 bm b1 b2 n1 n2 ?_
 have eg:(match YC a l a2 l2 (a::r) (a2::r2') d m with | none=>False|some g=>g<1)=BO (a::r) (a2::r2') d m:=by
  unfold YC BO Br Bk
  rw [DU,DU,Bn el,Bn el2]
  by_cases t:De a l a2 l2 m
  ·rw [if_pos t]
   unfold De at t
   obtain ⟨⟨t1,t2⟩,t3,t4⟩:=t
   have e1:mx a.1 a2.1<=m:=by unfold mx;split <;> grind
   have e2:m<mn l.1 l2.1:=by unfold mn;split <;> grind
   show (Pk _<1)=_
   simp only [e1,e2,true_and]
   rfl
  ·rw [if_neg t]
   show False=_
   refine (eq_false λz=>t ?_).symm
   obtain ⟨z1,z2,_⟩:=z
   unfold De
   have e1:a.1<=mx a.1 a2.1:=by unfold mx;split <;> grind
   have e2:a2.1<=mx a.1 a2.1:=by unfold mx;split <;> grind
   have e3:mn l.1 l2.1<=l.1:=by unfold mn;split <;> grind
   have e4:mn l.1 l2.1<=l2.1:=by unfold mn;split <;> grind
   exact ⟨⟨by grind,by grind⟩,by grind,by grind⟩
 have hq:=hq _ eg
 generalize YC a l a2 l2 (a::r) (a2::r2') d m=o at *
 cases o with
 | none=>
   rw [show i0 none= .non from rfl]
   ac_rfl
   exact hq
 | some g=>
   rw [show i0 (some g)=fr g from rfl]
   ac_rfl
   have e:decide (g.num<(g.den:Int))=decide (g<1):=decide_eq_decide.mpr (by rw [Rat.lt_iff];simp)
   rw [e]
   exact hq
theorem qh {r:Rat} (h:r.num.natAbs<2^3:=by decide +kernel) (h2:r.den<2^3:=by decide +kernel):Bd 3 r:=⟨h,h2⟩
theorem wm {r:Rat} (h:r.num.natAbs<2^2:=by decide +kernel) (h2:r.den<2^2:=by decide +kernel):Bd 2 r:=⟨h,h2⟩
theorem QJ {Q:PV->Prop} (q:∀d:Rat×Rat,Bd 3 d.1->Bd 3 d.2->1/3<=d.1->1/3<=d.2->Q (.tup [fr d.1,fr d.2])):C5 [.tape] Q:=by
 apply Oa
 have all:∀x∈ [(1:Rat),2,3/2,1/3,5],Bd 3 x/\1/3<=x:=by
  intro x hx
  simp only [List.mem_cons,List.not_mem_nil,or_false] at hx
  rcases hx with rfl|rfl|rfl|rfl|rfl <;> exact ⟨qh,by decide +kernel⟩
 ac_rfl
 refine JI (xs:= [(1:Rat),2,3/2,1/3,5]) (by omega) (by show _<(5:Int);omega) λx hx=> ?_
 ac_rfl
 refine JI (xs:= [(1:Rat),2,3/2,1/3,5]) (by omega) (by show _<(5:Int);omega) λy hy=> ?_
 ac_rfl
 exact q (x,y) (all x hx).1 (all y hy).1 (all x hx).2 (all y hy).2
theorem Vx {n:Nat} {cs:List C4} {t:Rat} {o:T3} (p:Cu n 10 cs) (bt:Bd 11 t) (bo:EW 11 o):Cu n 22 (cs.map (C9 t o)):=by
 refine ⟨by simpa using p.two,by simpa using p.few,λc hc=> ?_, ?_⟩
 ·obtain ⟨d,hd,rfl⟩:=List.mem_map.mp hc
  have b:=p.bd d hd
  exact ⟨(b.m.add bt).mono (by decide),(b.x.add bo.x).mono (by decide),(b.y.add bo.y).mono (by decide),(b.z.add bo.z).mono (by decide)⟩
 ·refine List.pairwise_map.mpr (p.ris.imp λ{a b} h=> ?_)
  show a.1+t<b.1+t
  grind
theorem D8 {cs:List C4} {w:Int} {o:T3} {z2 z5 z6 z7 z8:Option AV} {X Y Z:BE->Prop} (pm:Jn 12 6 600 cs) (bo:EW 11 o) {Q:PV->Prop} (q:∀ds,Cu 12 22 ds->Q (Ag ds)):
 Fk {nx:=X,rt:=Q,bk:=Y,ct:=Z} [some (.val .tape),some (.val (Ag cs)),z2,some (.val (.int w)),some (.own [fr o.1,fr o.2.1,fr o.2.2]),z5,z6,z7,z8] :=by
 have few:=pm.few
 have two:=pm.two
 have p12:Cu 12 10 cs:=pm.ok (by decide) (by decide)
 obtain ⟨a,r,l,ecs,h0,el,al⟩:=p12.open
 have el':cs.getLast?=some l:=by rw [ecs];exact el
 have ml:l∈cs:=List.mem_of_getLast? el'
 have bl:=(p12.bd l ml).m
 have b20:=Y7.mono (n:=11) (by decide)
 have ok40:∀{ds:List C4},Jn 12 6 600 ds->Cu 12 22 ds:=λp=>⟨p.two,p.few,λc hc=>(p.mu c hc).bd (by decide) (by decide),p.ris⟩
 ac_rfl
 ·exact GM rfl (by omega) p12.bd b20 bo (by decide) (by decide) (q _ (Vx p12 b20 bo))
 ·rename_i sp bs ps k k0 k1
  refine JI (xs:= [sp,0]) k0 k1 λt ht=> ?_
  have bt:Bd 11 t:=by
   simp only [List.mem_cons,List.not_mem_nil,or_false] at ht
   rcases ht with rfl|rfl
   ·exact bs.mono (by decide)
   ·exact b20
  ac_rfl
  exact GM rfl (by omega) p12.bd bt bo (by decide) (by decide) (q _ (Vx p12 bt bo))
 ·show (cs.map cor).length=(cs.map cor).length/\_
  refine ⟨rfl, ?_⟩
  rw [<-List.map_reverse,gP]
  refine ⟨mr (n:=12) (by simp;omega) (by decide), ?_⟩
  refine Ea (λp:C4×C4=> .tup [cor p.1,cor p.2]) cor (λp=>(p.1.1,p.2.2)) (λ_=>True) (λp _ R hR=> ?_) _ [] (by simp) ?_
  ·ac_rfl
   exact hR
  rw [List.nil_append]
  ac_rfl
  refine q _ ⟨by simp;omega,by simp;omega,λc hc=> ?_, ?_⟩
  ·obtain ⟨⟨u,v⟩,hu,rfl⟩:=List.mem_map.mp hc
   have h1:=p12.bd u (List.of_mem_zip hu).1
   have h2:=p12.bd v (List.mem_reverse.mp (List.of_mem_zip hu).2)
   exact ⟨h1.m.mono (by decide),h2.x.mono (by decide),h2.y.mono (by decide),h2.z.mono (by decide)⟩
  ·refine NG pm.ris ?_
   rw [List.map_map]
   have e:((λx:C4=>x.1) ∘ λp:C4×C4=>((p.1.1,p.2.2):C4))=(λx:C4=>x.1) ∘ Prod.fst:=rfl
   rw [e,<-List.map_map,List.map_fst_zip (by simp)]
 ·refine Hs λds pd=> ?_
  have pd12:Cu 12 10 ds:=pd.ok (by decide) (by decide)
  obtain ⟨a2,r2,l2,eds,U4,el2,al2⟩:=pd12.open
  have few2:=pd.few
  have ba2:=(pd12.bd a2 (by rw [eds];simp)).m
  subst eds
  have bt:Bd 11 (l.1-a2.1):=(Mul.subQ (pm.mu l ml).m (pd.mu a2 (by simp)).m).bd (by decide) (by decide)
  ac_rfl
  exact GM (o:=(0,0,0)) rfl (by omega) pd12.bd bt ⟨b20,b20,b20⟩ (by decide) (by decide) (q _ (Vx pd12 bt ⟨b20,b20,b20⟩))
 ·rename_i k k0 k1 x bx y by' z bz c ec mc
  have bc:=p12.bd c mc
  have hk:k.toNat<cs.length:=by omega
  have ec':cs[k.toNat] =c:=by rw [List.getElem?_eq_getElem hk] at ec;exact Option.some.inj ec
  rw [show (k+1).toNat=k.toNat+1 by omega]
  refine q _ ⟨by simp;omega,by simp;omega,λd hd=> ?_, ?_⟩
  ·rcases List.mem_append.mp hd with hd|hd
   ·rcases List.mem_append.mp hd with hd|hd
    ·exact (p12.bd d (List.mem_of_mem_take hd)).mono (by decide)
    ·simp at hd;subst hd
     exact ⟨bc.m.mono (by decide),bx.mono (by decide),by'.mono (by decide),bz.mono (by decide)⟩
   ·exact (p12.bd d (List.mem_of_mem_drop hd)).mono (by decide)
  ·refine NG pm.ris ?_
   have e:cs=cs.take k.toNat ++ [c] ++ cs.drop (k.toNat+1):=by
    rw [List.append_assoc,List.singleton_append,<-ec',<-List.drop_eq_getElem_cons hk,List.take_append_drop]
   conv=>rhs;rw [e]
   simp only [List.map_append,List.map_cons,List.map_nil]
 ·rename_i k k0 k1 c ec mc c0 ec0 mc0 sp bs ps
  have bc:=p12.bd c mc
  have bc0:=p12.bd c0 mc0
  have e0:c0=a:=by rw [ecs] at ec0;exact (Option.some.inj ec0).symm
  refine q [(c0.1,c.2.1,c.2.2.1,c.2.2.2),(l.1+sp,c.2.1,c.2.2.1,c.2.2.2)] ⟨by simp,by simp,λd hd=> ?_, ?_⟩
  ·simp only [List.mem_cons,List.not_mem_nil,or_false] at hd
   rcases hd with rfl|rfl
   ·exact ⟨bc0.m.mono (by decide),bc.x.mono (by decide),bc.y.mono (by decide),bc.z.mono (by decide)⟩
   ·exact ⟨(bl.add bs).mono (by decide),bc.x.mono (by decide),bc.y.mono (by decide),bc.z.mono (by decide)⟩
  ·refine List.pairwise_cons.mpr ⟨λd hd=> ?_,List.pairwise_singleton _ _⟩
   simp at hd;subst hd
   show c0.1<l.1+sp
   rw [e0]
   grind
 ·exact Hs λds pd=>q ds (ok40 pd)
theorem VM {cs:List C4} {d:Rat×Rat} (p:Jn 12 6 600 cs) (b1:Bd 3 d.1) (b2:Bd 3 d.2) {Q:PV->Prop} (q:∀ds,Cu 12 22 ds->Q (Ag ds)):DJ [.tape,Ag cs, .tup [fr d.1,fr d.2]] Q:=by
 have few:=p.few
 have two:=p.two
 apply Mw
 ac_rfl
 rename_i w w0 w1 r r0 r1
 have hr:r=0\/r=1\/r=2:=by omega
 have bz:Bd 11 (0:Rat):=Y7.mono (by decide)
 have fac:∀{k:Int} {R:PV->Prop},0<=k->k<3->(∀f:Rat,Bd 2 f->R (fr f))->Ak (.lst [fr (1/2),fr ((-1:Int):Rat), .tup [.int (-1), .int 3]]) (.int k) R:=λk0 k1 h=>by
  rw [MZ]
  refine JI (xs:= [(1/2:Rat),((-1:Int):Rat), -1/3]) k0 k1 λx hx=>h x ?_
  simp only [List.mem_cons,List.not_mem_nil,or_false] at hx
  rcases hx with rfl|rfl|rfl <;> exact wm
 rcases hr with rfl|rfl|rfl
 ·ac_rfl
  rw [show (if decide ((0:Int)=2)=true then (1:Int) else 0)=0 from rfl]
  ac_rfl
  simp only [gm,ap,List.set_cons_zero,List.set_cons_succ]
  repeat' (first | exact D8 (o:=(d.1,0,0)) p ⟨b1.mono (by decide),bz,bz⟩ q|array_mem_dec)
  refine fac (by omega) (by omega) λf bf=> ?_
  ac_rfl
  simp only [gm,ap,List.set_cons_zero,List.set_cons_succ]
  repeat' (first | exact D8 (o:=(d.1*f,0,0)) p ⟨(b1.mul bf).mono (by decide),bz,bz⟩ q|array_mem_dec)
 ·ac_rfl
  rw [show (if decide ((1:Int)=2)=true then (1:Int) else 0)=0 from rfl]
  ac_rfl
  simp only [gr,ap,List.set_cons_zero,List.set_cons_succ]
  repeat' (first | exact D8 (o:=(0,d.1,0)) p ⟨bz,b1.mono (by decide),bz⟩ q|array_mem_dec)
  refine fac (by omega) (by omega) λf bf=> ?_
  ac_rfl
  simp only [gr,ap,List.set_cons_zero,List.set_cons_succ]
  repeat' (first | exact D8 (o:=(0,d.1*f,0)) p ⟨bz,(b1.mul bf).mono (by decide),bz⟩ q|array_mem_dec)
 ·ac_rfl
  rw [show (if decide ((2:Int)=2)=true then (1:Int) else 0)=1 from rfl]
  ac_rfl
  simp only [gt,ap,List.set_cons_zero,List.set_cons_succ]
  repeat' (first | exact D8 (o:=(0,0,d.2)) p ⟨bz,bz,b2.mono (by decide)⟩ q|array_mem_dec)
  refine fac (by omega) (by omega) λf bf=> ?_
  ac_rfl
  simp only [gt,ap,List.set_cons_zero,List.set_cons_succ]
  repeat' (first | exact D8 (o:=(0,0,d.2*f)) p ⟨bz,bz,(b2.mul bf).mono (by decide)⟩ q|array_mem_dec)
theorem Zr {ns:List Int} {k:Nat} (hk:k<=1000) {Q:PV->Prop} (q:∀cs ds (d:Rat×Rat),Cu 12 22 cs->Cu 12 22 ds->Bd 3 d.1->Bd 3 d.2->1/3<=d.1->1/3<=d.2->Q (.tup [.tape,Ag cs,Ag ds, .tup [fr d.1,fr d.2]])):EL [.scr ns, .int k] Q:=by
 apply P5
 ac_rfl
 refine QJ λd b1 b2 p1 p2=> ?_
 ac_rfl
 refine Hs λcs pc=> ?_
 ac_rfl
 refine VM pc b1 b2 λds pd=> ?_
 have pc40:Cu 12 22 cs:=⟨pc.two,pc.few,λc hc=>(pc.mu c hc).bd (by decide) (by decide),pc.ris⟩
 ac_rfl
 ·exact q ds cs d pd pc40 b1 b2 p1 p2
 ·exact q cs ds d pc40 pd b1 b2 p1 p2
theorem Yx {cs ds:List C4} (t1:2<=cs.length) (t2:2<=ds.length) (h:Br cs ds<Bk cs ds):lq cs ds (Br cs ds) (Bk cs ds):=by
 obtain ⟨a,r,l,rfl,h0,el⟩:=open2 t1
 obtain ⟨a2,r2,l2,rfl,U4,el2⟩:=open2 t2
 unfold Br Bk at h ⊢
 rw [DU,DU,Bn el,Bn el2] at h ⊢
 exact cW h0 U4 el el2 h
theorem dY {cs ds:List C4} {M:Nat} (t1:2<=cs.length) (t2:2<=ds.length) (m1:∀c∈cs,Bd M c.1) (m2:∀c∈ds,Bd M c.1):Bd M (Br cs ds)/\Bd M (Bk cs ds):=by
 obtain ⟨a,r,l,rfl,h0,el⟩:=open2 t1
 obtain ⟨a2,r2,l2,rfl,U4,el2⟩:=open2 t2
 unfold Br Bk
 rw [DU,DU,Bn el,Bn el2]
 exact ⟨(m1 a (by simp)).mx (m2 a2 (by simp)),(m1 l (List.mem_of_getLast? el)).mn (m2 l2 (List.mem_of_getLast? el2))⟩
theorem ig {cs ds:List C4} {d:Rat×Rat} {n B D:Nat} (hn:n<=100) (p:Cu n B cs) (p2:Cu n B ds) (b1:Bd D d.1) (b2:Bd D d.2) (g1:0<d.1) (g2:0<d.2) (hB:B<=150) (hD:D<=100) (hW:2*(7*B+10)+1+D<=1050):E6 cs ds d B (2*(7*B+10)+1+D) where
 c1:=λc hc=>(p.bd c hc).mono hB
 c2:=λc hc=>(p2.bd c hc).mono hB
 r1:=p.ris
 r2:=p2.ris
 t1:=p.two
 t2:=p2.two
 f1:=Nat.le_trans p.few hn
 f2:=Nat.le_trans p2.few hn
 m1:=λc hc=>(p.bd c hc).m
 m2:=λc hc=>(p2.bd c hc).m
 b1:=b1.mono hD
 b2:=b2.mono hD
 p1:=g1
 p2:=g2
 w:=λh m hm=>by
  have tg:=Yx p.two p2.two h
  obtain ⟨e1,e2⟩:=dY p.two p2.two (λc hc=>(p.bd c hc).m) (λc hc=>(p2.bd c hc).m)
  have ti:=F2 h hm
  have bm:=K7 (λc hc=>(p.bd c hc).m) (λc hc=>(p2.bd c hc).m) e1 e2 hm
  exact (jd tg ti.1 ti.2 p.ris p2.ris p.bd p2.bd bm b1 b2 (by grind) (by grind)).mono (by omega)
 hM:=hB
 hW:=hW
theorem dw {ss:List Bi} (fin:∀s∈ss,∃x,s.2.2=some x) (k:Rat):∃m,k<m/\ss.any (Bf · (m,0))=false:=by
 induction ss with
 | nil=>exact ⟨k+1,by grind,rfl⟩
 | cons s ss ih=>
   obtain ⟨x,hx⟩:=fin s (by simp)
   have big:∀(tt:List Bi),(∀s∈tt,∃x,s.2.2=some x)->∃n:Rat,k<n/\∀s∈tt,∀x,s.2.2=some x->x<n:=by
    intro tt
    induction tt with
    | nil=>intro _;exact ⟨k+1,by grind,by simp⟩
    | cons t tt ih2=>
      intro hf
      obtain ⟨n,h1,h2⟩:=ih2 λs hs=>hf s (by simp [hs])
      obtain ⟨y,hy⟩:=hf t (by simp)
      by_cases z:y<n
      ·refine ⟨n,h1,λs hs x hx=> ?_⟩
       rcases List.mem_cons.mp hs with rfl|hs
       ·rw [hy] at hx;cases hx;exact z
       ·exact h2 s hs x hx
      ·refine ⟨y+1,by grind,λs hs x hx=> ?_⟩
       rcases List.mem_cons.mp hs with rfl|hs
       ·rw [hy] at hx;cases hx;grind
       ·have:=h2 s hs x hx;grind
   obtain ⟨n,h1,h2⟩:=big (s::ss) fin
   refine ⟨n,h1, ?_⟩
   rw [List.any_eq_false]
   intro t ht z
   obtain ⟨y,hy⟩:=fin t ht
   have:=h2 t ht y hy
   unfold Bf at z
   rw [hy] at z
   simp at z
   grind
theorem X5 {B:Nat} {ss:List Bi} (ok:∀s∈ss,Ce B s) (fin:∀s∈ss,∃x,s.2.2=some x):∀r∈canon 1 ss,∃x,r.2.2=some x:=by
 intro r hr
 cases e:r.2.2 with
 | some x=>exact ⟨x,rfl⟩
 | none=>
   exfalso
   obtain ⟨m,h1,h2⟩:=dw fin r.1
   rw [<-To ok (p:=(m,0)) (.inl rfl)] at h2
   rw [List.any_eq_false] at h2
   refine h2 r hr ?_
   unfold Bf
   rw [e]
   simp
   exact .inl h1
structure Told (P:Rat->Prop) (B:Nat) (cc:List Bi):Prop where
 ok:∀s∈cc,Ce B s
 fin:∀s∈cc,∃x,s.2.2=some x
 few:cc.length<=2000
 sem:∀m,cc.any (Bf · (m,0))=true↔P m
theorem Wa.told {cs ds:List C4} {d:Rat×Rat} {B:Nat} {ss:List Bi} (n:Wa cs ds d B ss):Told (BO cs ds d) B (canon 1 ss):=
 ⟨Zq n.ok,X5 n.ok n.fin,by have:=VO (n:=1) (ss:=ss);have:=n.few;omega,λm=>by rw [To n.ok (p:=(m,0)) (.inl rfl)];exact n.sem m⟩
theorem KF {a:Rat}:a.num<0↔a<0:=by
 rw [Rat.lt_iff];simp
theorem KG {a:Rat}:0<a.num↔0<a:=by
 rw [Rat.lt_iff];simp
theorem Oq {u v b e:Rat} (h:(u<0/\0<v)\/(0<u/\v<0)):CQ u v b e=some (b+u/(u-v)*(e-b)):=by
 unfold CQ
 rw [if_neg]
 intro z
 rcases h with ⟨h1,h2⟩|⟨h1,h2⟩
 ·have:=Int.mul_neg_of_neg_of_pos (KF.mpr h1) (KG.mpr h2);omega
 ·have:=Int.mul_neg_of_pos_of_neg (KG.mpr h1) (KF.mpr h2);omega
theorem Yr {u v b e x:Rat} (h:CQ u v b e=some x):((u<0/\0<v)\/(0<u/\v<0))/\x=b+u/(u-v)*(e-b):=by
 unfold CQ at h
 split at h
 ·cases h
 ·rename_i z
  cases h
  refine ⟨?_,rfl⟩
  by_cases h1:u.num<0
  ·by_cases h2:v.num<=0
   ·exact absurd (Int.mul_nonneg_of_nonpos_of_nonpos (by omega) h2) z
   ·exact .inl ⟨KF.mp h1,KG.mp (by omega)⟩
  ·by_cases h3:0<=v.num
   ·exact absurd (Int.mul_nonneg (by omega) h3) z
   ·by_cases h4:u.num=0
    ·rw [h4] at z;simp at z
    ·exact .inr ⟨KG.mp (by omega),KF.mp (by omega)⟩
theorem cD {u v b e x:Rat} (O9:b<e) (h:CQ u v b e=some x):b<x/\x<e:=by
 obtain ⟨k,rfl⟩:=Yr h
 have d0:0<e-b:=by grind
 have s:0<u/(u-v)/\u/(u-v)<1:=by
  rcases k with ⟨k1,k2⟩|⟨k1,k2⟩
  ·have e1:u/(u-v)=(-u)/(v-u):=by grind
   have p:0<v-u:=by grind
   rw [e1]
   exact ⟨by rw [Rat.lt_div_iff p];grind,by rw [Rat.div_lt_iff p];grind⟩
  ·have p:0<u-v:=by grind
   exact ⟨by rw [Rat.lt_div_iff p];grind,by rw [Rat.div_lt_iff p];grind⟩
 have a:=Rat.mul_pos s.1 d0
 have c:=Rat.mul_lt_mul_of_pos_right s.2 d0
 exact ⟨by grind,by grind⟩
theorem Vo {u v b e x y m1 m2:Rat} (O9:b<e) (hx:b<=x) (hy:y<=e) (h1:x<=m1) (h2:m1<y) (h3:x<m2) (h4:m2<y) (no:∀z,CQ (u-1) (v-1) b e=some z->¬(x<z/\z<y))
 (k:u+(m1-b)/(e-b)*(v-u)<1):u+(m2-b)/(e-b)*(v-u)<1:=by
 by_cases k2:u+(m2-b)/(e-b)*(v-u)<1
 ·exact k2
 exfalso
 have d0:0<e-b:=by grind
 obtain ⟨c,hc⟩:∃c,c=(v-u)/(e-b):=⟨_,rfl⟩
 have f:∀m,(m-b)/(e-b)*(v-u)=(m-b)*c:=λm=>by rw [hc];grind
 have fv:v=u+(e-b)*c:=by rw [hc];grind
 rw [f] at k k2
 have sl:0<(m2-m1)*c:=by grind
 have c0:c≠0:=λz=>by rw [z] at sl;grind
 obtain ⟨z,hz⟩:∃z,z=b+(1-u)/c:=⟨_,rfl⟩
 have ez:(z-b)*c=1-u:=by rw [hz];grind
 have g1:0<(z-m1)*c:=by grind
 have g2:0<=(m2-z)*c:=by grind
 have pos:∀{p q:Rat},0<p->0<p*q->0<q:=λ{p q} hp hq=>by
  by_cases w:0<q
  ·exact w
  ·have:=Rat.mul_le_mul_of_nonneg_left (show q<=0 by grind) (show 0<=p by grind);grind
 rcases (show 0<c\/c<0 by grind) with w|w
 ·have zm:m1<z:=by have:=pos w (by rw [Rat.mul_comm];exact g1);grind
  have mz:z<=m2:=by
   by_cases q:z<=m2
   ·exact q
   ·have:=Rat.mul_pos (show 0<z-m2 by grind) w;grind
  have ul:u<1:=by have:=Rat.mul_pos (show 0<z-b by grind) w;grind
  have vl:1<v:=by have:=Rat.mul_pos (show 0<e-z by grind) w;grind
  have s:=Oq (u:=u-1) (v:=v-1) (b:=b) (e:=e) (.inl ⟨by grind,by grind⟩)
  refine no _ s ?_
  have:b+(u-1)/(u-1-(v-1))*(e-b)=z:=by
   rw [hz,fv]
   have:(e-b)*c≠0:=by have:=Rat.mul_pos d0 w;grind
   grind
  rw [this]
  exact ⟨by grind,by grind⟩
 ·have nw:0 < -c:=by grind
  have zm:z<m1:=by have:=pos nw (show 0<(-c)*(m1-z) by grind);grind
  have mz:m2<=z:=by
   by_cases q:m2<=z
   ·exact q
   ·have:=Rat.mul_pos (show 0<m2-z by grind) nw;grind
  have ul:1<u:=by have:=Rat.mul_pos (show 0<z-b by grind) nw;grind
  have vl:v<1:=by have:=Rat.mul_pos (show 0<e-z by grind) nw;grind
  have s:=Oq (u:=u-1) (v:=v-1) (b:=b) (e:=e) (.inr ⟨by grind,by grind⟩)
  refine no _ s ?_
  have:b+(u-1)/(u-1-(v-1))*(e-b)=z:=by
   rw [hz,fv]
   have:(e-b)*c≠0:=by have:=Rat.mul_pos d0 nw;grind
   grind
  rw [this]
  exact ⟨by grind,by grind⟩
section
variable {cs ds:List C4} {d:Rat×Rat} {M W:Nat}
theorem KE (D:E6 cs ds d M W):∀x∈Aq cs ds d,Br cs ds<=x/\x<=Bk cs ds:=by
 intro x hx
 rcases List.mem_append.mp (Be.mp hx) with hx|hx
 ·unfold TB at hx
  split at hx
  ·rename_i h;exact F2 h hx
  ·cases hx
 ·obtain ⟨p,hp,hx⟩:=List.mem_flatMap.mp hx
  have o:=D.pc p hp
  obtain ⟨y,hy,e⟩:=List.mem_filterMap.mp hx
  have:=cD o.lt e
  have:=o.lo
  have:=o.hi
  exact ⟨by grind,by grind⟩
theorem O4 {x:Rat} (h:Br cs ds<Bk cs ds) (hx:x∈K6 cs ds):x∈Aq cs ds d:=Be.mpr (List.mem_append_left _ (by rw [kU h];exact hx))
theorem Tv {p:Pc} (hp:p∈Qc cs ds d) {x:Rat} (hx:x∈GG p):x∈Aq cs ds d:=Be.mpr (List.mem_append_right _ (List.mem_flatMap.mpr ⟨p,hp,hx⟩))
theorem pj {o:T3}:Pk o<1↔∀x∈Pq o,x<1:=by
 rw [Z6,Hj,Hj,Hj]
 simp only [Pq,List.mem_cons,List.not_mem_nil,or_false,forall_eq_or_imp,forall_eq]
 constructor
 ·rintro ⟨⟨a,b⟩,⟨c,d⟩,e,f⟩;exact ⟨a,c,e,b,d,f⟩
 ·rintro ⟨a,c,e,b,d,f⟩;exact ⟨⟨a,b⟩,⟨c,d⟩,e,f⟩
theorem Wz {p q:T3} {s:Rat}:Pk (lin p q s)<1↔∀x∈(Pq p).zip (Pq q),x.1+s*(x.2-x.1)<1:=by
 rw [pj]
 simp only [Pq,lin,List.zip_cons_cons,List.zip_nil_right,List.mem_cons,List.not_mem_nil,or_false,forall_eq_or_imp,forall_eq]
 have e:∀a b:Rat, -(a+s*(b-a))= -a+s*(-b - -a):=λa b=>by grind
 rw [e,e,e]
theorem OL (D:E6 cs ds d M W) {x y:Rat} (hp:(x,y)∈(Aq cs ds d).zip (Aq cs ds d).tail) {m1 m2:Rat} (h1:x<=m1) (h2:m1<y) (h3:x<m2) (h4:m2<y) (k:BO cs ds d m1):BO cs ds d m2:=by
 obtain ⟨q1,q2,q3,q4⟩:=LA (ts:=Aq cs ds d) Bj _ hp
 have q1:x∈Aq cs ds d:=q1
 have q2:y∈Aq cs ds d:=q2
 have q3:x<y:=q3
 have q4:∀z∈Aq cs ds d,¬(x<z/\z<y):=q4
 have i1:=KE D x q1
 have i2:=KE D y q2
 have h:Br cs ds<Bk cs ds:=by grind
 obtain ⟨p,pm,p1,p2⟩:=D.cover (m:=x) i1.1 (by grind)
 have o:=D.pc p pm
 have pe:p.e∈K6 cs ds:=by
  have pm':=pm
  unfold Qc at pm'
  rw [if_pos h] at pm'
  obtain ⟨w,hw,rfl⟩:=List.mem_map.mp pm'
  exact (LA F3 w hw).2.1
 have ye:y<=p.e:=by
  have:=q4 _ (O4 h pe)
  grind
 refine ⟨by grind,by grind, ?_⟩
 have k3:=k.2.2
 rw [o.lin m1 (by grind) (by grind),Wz] at k3
 rw [o.lin m2 (by grind) (by grind),Wz]
 intro z hz
 refine Vo o.lt p1 ye h1 h2 h3 h4 (λw hw=> ?_) (k3 z hz)
 exact q4 w (Tv pm (List.mem_filterMap.mpr ⟨z,hz,hw⟩))
end
abbrev Je (F:AF):AS:=
 (Ab (Bz (Pa (Gr (A5 (EX Vb (AB (aV 0) (AB (aC (.ty "tuple")) AL))))) (A5 (AX cm (EX Fc (AB (aV 0) AL)) (EX Fc (AB (aV 1) AL))))) (Ar (aC (.bl false))) BM)
   (Ar (EX (Z5 λbs=>bs.all id) (AB (FZ (Cv (gX (AB (aV 0) (AB (aV 1) AL))) 2 [] (MD 2 (Ai (Au 0) (Ai (Au 1) CJ))) E7 (AN 2 F (AB (aV 0) (AB (aV 1) AL))))) AL))))
abbrev G7 (F:AF):AS:=
 (Ab (Bz (A5 (EX Vb (AB (aV 1) (AB (aC (.ty "tuple")) AL)))) (Je F) BM)
   (Ab (Bz (Pa (A5 (AX RR (aV 1) (aC .non))) (A5 (EX OC (AB (aV 1) (AB (aC (.ty "str")) AL))))) (Ar (Xz (AX M6 (aV 0) (aV 1)) (AX M6 (EX OC (AB (aV 0) (AB (aC (.ty "str")) AL))) (EX OC (AB (aV 1) (AB (aC (.ty "str")) AL)))))) BM)
   (Ar (Xz (EX Vb (AB (aV 0) (AB (aC (.ty "int")) AL))) (Xz (N2 im (EX Vb (AB (aV 0) (AB (aC (.ty "bool")) AL)))) (AX M6 (aV 0) (aV 1)))))))
def Az:Nat->AF
 | 0=>λ_ _=>False
 | n+1=>A0 2 (G7 (Az n))
theorem CG {m:Nat} {x0 x1:PV} {Q:PV->Prop} (h:G7 (Az m) ⟨λ_=>Q .non,Q,λ_=>False,λ_=>False⟩ [some (.val x0),some (.val x1)]):Az (m+1) [x0,x1] Q:=h
instance rL {i:Int} {Q:PV->Prop}:Wp (OC [.int i, .ty "str"] Q) (Q (.bl false)):=⟨λh=>⟨rfl,h⟩⟩
instance rM {Q:PV->Prop}:Wp (OC [.non, .ty "str"] Q) (Q (.bl false)):=⟨λh=>⟨rfl,h⟩⟩
instance uD {Q:PV->Prop}:Wp (M6 .non .non Q) (Q (.bl true)):=⟨λh=>h⟩
theorem Oe {m:Nat} {i:Int} {Q:PV->Prop} (q:Q (.bl true)):Az (m+1) [.int i, .int i] Q:=by
 apply CG
 ac_rfl
 rw [decide_eq_true rfl]
 exact q
theorem bj {m:Nat} {Q:PV->Prop} (q:Q (.bl true)):Az (m+1) [.non, .non] Q:=by
 apply CG
 ac_rfl
 exact q
theorem XR {m:Nat} {r:Rat} {Q:PV->Prop} (q:Q (.bl true)):Az (m+2) [fr r,fr r] Q:=by
 unfold fr
 apply CG
 repeat' array_get_dec
 refine Oe ?_
 repeat' array_get_dec
 refine Oe ?_
 repeat' array_get_dec
 exact q
theorem bn {m:Nat} {s:Bi} {Q:PV->Prop} (q:Q (.bl true)):Az (m+3) [Cg s,Cg s] Q:=by
 obtain ⟨a,h,e⟩:=s
 unfold Cg
 apply CG
 repeat' array_get_dec
 refine XR ?_
 repeat' array_get_dec
 refine Oe ?_
 repeat' array_get_dec
 cases e with
 | none=>
   refine bj ?_
   repeat' array_get_dec
   exact q
 | some e=>
   refine XR ?_
   repeat' array_get_dec
   exact q
theorem Lx {m:Nat} {cc:List Bi} (hl:cc.length<=10000) {Q:PV->Prop} (q:Q (.bl true)):Az (m+4) [.tup (cc.map Cg), .tup (cc.map Cg)] Q:=by
 apply CG
 ac_rfl
 have ez:ES (cc.map Cg) (cc.map Cg)=cc.map λs=> .tup [Cg s,Cg s] :=by
  unfold ES
  rw [List.zipWith_map,List.zipWith_self]
 rw [ez]
 refine ⟨lt_size (n:=10000) (by rw [List.length_map];exact hl) (by decide), ?_⟩
 refine Ea (λs:Bi=> .tup [Cg s,Cg s]) (λ_:Bi=>PV.bl true) id (λ_=>True) (λs _ R hR=> ?_) cc [] (by simp) ?_
 ·ac_rfl
  refine bn ?_
  exact hR
 rw [List.map_id,List.nil_append]
 ac_rfl
 refine hJ (Wl (λ_:Bi=>true) cc) ?_
 rw [show (cc.map λ_=>true).all id=true by simp]
 exact q
abbrev Gy:AS:=
 (Ab (Bz (HE (VI (aV 8)) (HE (VI (aV 5)) (VI (aV 7)))) (VH 4 (N2 Fb (aC (.int 1))) (Tl (AX BJ (We (AX Ak (aV 4) (N2 Fb (aC (.int 1)))) Wg (Wh (aC (.int 2)))) (A3 (AB (AX Ak (aV 3) (AX BJ (aV 6) (aC (.int 1)))) AL))))) (Bz (VI (aV 8)) (EY 4 KD (AB (A3 (AB (AX Ak (aV 3) (aV 6)) (AB (EX Pj (AB (aV 7) AL)) (AB (AX Ak (aV 3) (AX BJ (aV 6) (aC (.int 1)))) AL)))) AL)) BM))
   (Ao (aV 8) (Au 5)))
abbrev Gx:AS:=
 (Ab (Ao (AN 4 CD (AB (aV 0) (AB (aV 1) (AB (aV 2) (AB (AN 2 DK (AB (AX Ak (aV 3) (aV 6)) (AB (AX Ak (aV 3) (AX BJ (aV 6) (aC (.int 1)))) AL))) AL))))) (Au 8))
   Gy)
abbrev Ib:AS:=
 (Ab (Ao (AN 4 CD (AB (aV 0) (AB (aV 1) (AB (aV 2) (AB (AX Ak (aV 3) (aV 6)) AL))))) (Au 7))
   Gx)
abbrev Ig:AS:=
 (Ab (FY (Pd (AB (AX G1 (EX Fc (AB (aV 3) AL)) (aC (.int 1))) AL)) (Au 6) Ib)
   (Ar (EX Dt (AB (aV 4) AL))))
abbrev Ie:AS:=
 (Ab (Ao (aC (.bl false)) (Au 5))
   Ig)
abbrev Ic:AS:=
 (Ab (JB (DF AL) 4)
   Ie)
abbrev Gh:AS:=
 (Ab (Ao (AN 3 CU (AB (aV 0) (AB (aV 1) (AB (aV 2) AL)))) (Au 3))
   Ic)
def CV:AF:=A0 9 Gh
theorem KQ {x0 x1 x2:PV} {Q:PV->Prop} (h:Gh ⟨λ_=>Q .non,Q,λ_=>False,λ_=>False⟩ [some (.val x0),some (.val x1),some (.val x2),none,none,none,none,none,none]):CV [x0,x1,x2] Q:=h
section
variable {cs ds:List C4} {d:Rat×Rat} {M W:Nat}
theorem Vt (h:Br cs ds<Bk cs ds) (D:E6 cs ds d M W):(Aq cs ds d).head?=some (Br cs ds):=by
 have mb:Br cs ds∈Aq cs ds d:=O4 h (Dk.mpr (.inl rfl))
 have hs:O6 (Aq cs ds d):=Bj
 have hi:∀x∈Aq cs ds d,Br cs ds<=x:=λx hx=>(KE D x hx).1
 generalize Aq cs ds d=ts at *
 cases ts with
 | nil=>cases mb
 | cons a r=>
   rcases List.mem_cons.mp mb with e|e
   ·rw [e];rfl
   ·have:=(List.pairwise_cons.mp hs).1 _ e
    have:=hi a (by simp)
    grind
theorem Vu (h:Br cs ds<Bk cs ds) (D:E6 cs ds d M W):(Aq cs ds d)[(Aq cs ds d).length-1]? =some (Bk cs ds):=by
 have mb:Bk cs ds∈Aq cs ds d:=O4 h (Dk.mpr (.inr (.inl rfl)))
 have hs:O6 (Aq cs ds d):=Bj
 have hi:∀x∈Aq cs ds d,x<=Bk cs ds:=λx hx=>(KE D x hx).2
 generalize Aq cs ds d=ts at *
 obtain ⟨i,UK,e⟩:=List.mem_iff_getElem.mp mb
 have hl:ts.length-1<ts.length:=by omega
 rw [List.getElem?_eq_getElem hl]
 by_cases k:i=ts.length-1
 ·subst k;rw [<-e]
 ·have k1:=List.pairwise_iff_getElem.mp hs i (ts.length-1) UK hl (by omega)
  have k2:=hi _ (List.getElem_mem hl)
  rw [e] at k1
  grind
structure NS (cs ds:List C4) (d:Rat×Rat) (X:Nat) (x:Option Rat) (ff:List Bi) (go:Bool):Prop where
 sep:Sep ff
 ok:∀s∈ff,Ce X s
 fin:∀s∈ff,∃e y,s.2.2=some e/\x=some y/\e<=y
 stop:go=false->∀s∈ff,∃e y,s.2.2=some e/\x=some y/\e<y
 on:go=true->∃f0 b h y,ff=f0 ++ [(b,h,some y)] /\x=some y
 sem:∀m,ff.any (Bf · (m,0))=true↔BO cs ds d m/\∃y,x=some y/\m<y
theorem XW {ff:List Bi} {s:Bi} (h:Sep ff) (k:∀r∈ff,l9 r s):Sep (ff ++ [s]):=List.pairwise_append.mpr ⟨h,List.pairwise_singleton _ _,λr hr t ht=>by simp at ht;subst ht;exact k r hr⟩
theorem R7 {B:Nat} {b e m:Rat} {h:Int} (os:Ce B (b,h,some e)): [((b,h,some e):Bi)].any (Bf · (m,0))=true↔(b<m\/(b=m/\h=1))/\m<e:=by
 rw [List.any_cons,List.any_nil,Bool.or_false,C8 os rfl]
theorem nC {X:Nat} {x y:Rat} {ff:List Bi} {go:Bool} (D:E6 cs ds d M W) (hp:(x,y)∈(Aq cs ds d).zip (Aq cs ds d).tail) (i:NS cs ds d X (some x) ff go) (U5:x<y) (hn:¬BO cs ds d ((x+y)*(1/2))):NS cs ds d X (some y) ff false:=by
 have mid:x<(x+y)*(1/2)/\(x+y)*(1/2)<y:=⟨by grind,by grind⟩
 refine ⟨i.sep,i.ok,λs hs=> ?_,λ_ s hs=> ?_,λh=>(by cases h),λm=> ?_⟩
 ·obtain ⟨e,z,h1,h2,h3⟩:=i.fin s hs
  cases h2
  exact ⟨e,y,h1,rfl,by grind⟩
 ·obtain ⟨e,z,h1,h2,h3⟩:=i.fin s hs
  cases h2
  exact ⟨e,y,h1,rfl,by grind⟩
 ·rw [i.sem]
  constructor
  ·rintro ⟨h1,z,h2,h3⟩
   cases h2
   exact ⟨h1,y,rfl,by grind⟩
  ·rintro ⟨h1,z,h2,h3⟩
   cases h2
   refine ⟨h1,x,rfl, ?_⟩
   by_cases w:m<x
   ·exact w
   ·exact absurd (OL D hp (m1:=m) (m2:=(x+y)*(1/2)) (by grind) h3 mid.1 mid.2 h1) hn
theorem Qb {x y:Rat} (D:E6 cs ds d M W) (hp:(x,y)∈(Aq cs ds d).zip (Aq cs ds d).tail) (hn:BO cs ds d ((x+y)*(1/2))) (U5:x<y) {m:Rat} (h1:x<m) (h2:m<y):BO cs ds d m:=
 OL D hp (m1:=(x+y)*(1/2)) (by grind) (by grind) h1 h2 hn
theorem jb {X:Nat} {x y b:Rat} {f0:List Bi} {h:Int} (D:E6 cs ds d M W) (hp:(x,y)∈(Aq cs ds d).zip (Aq cs ds d).tail) (by':Bd X y) (i:NS cs ds d X (some x) (f0 ++ [(b,h,some x)]) true) (U5:x<y) (hn:BO cs ds d ((x+y)*(1/2))) (hx:BO cs ds d x):NS cs ds d X (some y) (f0 ++ [(b,h,some y)]) true:=by
 have os:=i.ok (b,h,some x) (by simp)
 have lt:b<x:=(os.e x rfl).1
 have os2:Ce X (b,h,some y):=⟨os.b,os.h,λe he=>by cases he;exact ⟨by show b<y;grind,by'⟩⟩
 refine ⟨?_, ?_, ?_,λz=>(by cases z),λ_=>⟨f0,b,h,y,rfl,rfl⟩,λm=> ?_⟩
 ·have:=List.pairwise_append.mp i.sep
  refine XW this.1 λr hr=> ?_
  exact this.2.2 r hr (b,h,some x) (by simp)
 ·intro s hs
  rcases List.mem_append.mp hs with hs|hs
  ·exact i.ok s (by simp [hs])
  ·simp at hs;subst hs;exact os2
 ·intro s hs
  rcases List.mem_append.mp hs with hs|hs
  ·obtain ⟨e,z,h1,h2,h3⟩:=i.fin s (by simp [hs])
   cases h2
   exact ⟨e,y,h1,rfl,by grind⟩
  ·simp at hs;subst hs;exact ⟨y,y,rfl,rfl,by grind⟩
 ·have k:=i.sem m
  rw [List.any_append,Bool.or_eq_true,R7 os] at k
  rw [List.any_append,Bool.or_eq_true,R7 os2]
  constructor
  ·rintro (z|⟨z1,z2⟩)
   ·obtain ⟨k1,w,k2,k3⟩:=k.mp (.inl z)
    cases k2
    exact ⟨k1,y,rfl,by grind⟩
   ·refine ⟨?_,y,rfl,z2⟩
    by_cases w:m<x
    ·exact (k.mp (.inr ⟨z1,w⟩)).1
    ·by_cases w2:x<m
     ·exact Qb D hp hn U5 w2 z2
     ·have:m=x:=by grind
      rw [this];exact hx
  ·rintro ⟨z1,w,z2,z3⟩
   cases z2
   by_cases w:m<x
   ·rcases k.mpr ⟨z1,x,rfl,w⟩ with q|q
    ·exact .inl q
    ·exact .inr ⟨q.1,z3⟩
   ·exact .inr ⟨.inl (by grind),z3⟩
theorem jc {X:Nat} {x y:Rat} {ff:List Bi} {go:Bool} (D:E6 cs ds d M W) (hp:(x,y)∈(Aq cs ds d).zip (Aq cs ds d).tail) (bx:Bd X x) (by':Bd X y) (i:NS cs ds d X (some x) ff go) (U5:x<y) (hn:BO cs ds d ((x+y)*(1/2))) (hx:go=true->¬BO cs ds d x):
 NS cs ds d X (some y) (ff ++ [(x,(if decide (BO cs ds d x)=true then 1 else 0),some y)]) true:=by
 have h01:(if decide (BO cs ds d x)=true then (1:Int) else 0)=0\/(if decide (BO cs ds d x)=true then (1:Int) else 0)=1:=by split <;> simp
 have os:Ce X (x,(if decide (BO cs ds d x)=true then 1 else 0),some y):=⟨bx,h01,λe he=>by cases he;exact ⟨U5,by'⟩⟩
 refine ⟨?_, ?_, ?_,λz=>(by cases z),λ_=>⟨_,_,_,_,rfl,rfl⟩,λm=> ?_⟩
 ·refine XW i.sep λr hr=> ?_
  cases go with
  | true=>
    obtain ⟨e,z,h1,h2,h3⟩:=i.fin r hr
    cases h2
    refine ⟨e,h1, ?_⟩
    by_cases w:e<x
    ·exact .inl w
    ·exact .inr ⟨by show e=x;grind,if_neg (by simp [hx rfl])⟩
  | false=>
    obtain ⟨e,z,h1,h2,h3⟩:=i.stop rfl r hr
    cases h2
    exact ⟨e,h1, .inl h3⟩
 ·intro s hs
  rcases List.mem_append.mp hs with hs|hs
  ·exact i.ok s hs
  ·simp at hs;subst hs;simpa using os
 ·intro s hs
  rcases List.mem_append.mp hs with hs|hs
  ·obtain ⟨e,z,h1,h2,h3⟩:=i.fin s hs
   cases h2
   exact ⟨e,y,h1,rfl,by grind⟩
  ·simp at hs;subst hs;exact ⟨y,y,rfl,rfl,by grind⟩
 ·rw [List.any_append,Bool.or_eq_true,R7 os,i.sem]
  have hh:((if decide (BO cs ds d x)=true then (1:Int) else 0)=1)↔BO cs ds d x:=by
   by_cases w:BO cs ds d x
   ·simp [w]
   ·simp [w]
  rw [hh]
  constructor
  ·rintro (⟨z1,w,z2,z3⟩|⟨z1|⟨z1,z4⟩,z2⟩)
   ·cases z2
    exact ⟨z1,y,rfl,by grind⟩
   ·exact ⟨Qb D hp hn U5 z1 z2,y,rfl,z2⟩
   ·subst z1
    exact ⟨z4,y,rfl,z2⟩
  ·rintro ⟨z1,w,z2,z3⟩
   cases z2
   by_cases w:m<x
   ·exact .inl ⟨z1,x,rfl,w⟩
   ·by_cases w2:x<m
    ·exact .inr ⟨.inl w2,z3⟩
    ·have e:x=m:=by grind
     exact .inr ⟨.inr ⟨e,by rw [e];exact z1⟩,z3⟩
theorem aT {xs:List PV} {x:PV} {R:PV->Prop} (h:R x):Ak (.lst (xs ++ [x])) (.int (-1)) R:=by
 show ZE (Hk (xs ++ [x]) (-1)) R
 have q:Hk (xs ++ [x]) (-1)=some x:=by
  unfold Hk PB
  rw [List.length_append,List.length_singleton,if_neg (by decide),if_pos (by omega)]
  have e2:(-1+((xs.length+1:Nat):Int)).toNat=xs.length:=by omega
  rw [Option.bind_some,e2,List.getElem?_append_right (Nat.le_refl _),Nat.sub_self]
  rfl
 rw [q];exact h
theorem HN (D:E6 cs ds d M W) {B:Nat} (hc:∀c∈cs,EK B c) (Mq:∀c∈ds,EK B c) (hB:2*(3*W+3*M+9)+9+6*B+10<=3900) {Q:PV->Prop} (q:∀ff,Sep ff->Told (BO cs ds d) (3*W+3*M+9) ff->Q (.tup (ff.map Cg))):CV [Ag cs,Ag ds, .tup [fr d.1,fr d.2]] Q:=by
 have mb:=UQ D
 have mf:=YV D
 have mh:=λh=>Vt (d:=d) h D
 have ml:=λh=>Vu (d:=d) h D
 apply KQ
 ac_rfl
 refine Rh D ?_
 have hM:=D.hM
 have hW:=D.hW
 have ns0:NS cs ds d (3*W+3*M+9) ((Aq cs ds d)[0]?) [] false:=by
  refine ⟨.nil,by simp,by simp,by simp,λh=>(by cases h),λm=> ?_⟩
  refine ⟨λz=>(by simp at z),λz=> ?_⟩
  obtain ⟨z1,y,z2,z3⟩:=z
  have h:Br cs ds<Bk cs ds:=by have:=z1.1;have:=z1.2.1;grind
  rw [<-List.head?_eq_getElem?,mh h] at z2
  cases z2
  have:=z1.1
  grind
 have mp:∀i x y,(Aq cs ds d)[i]? =some x->(Aq cs ds d)[i+1]? =some y->(x,y)∈(Aq cs ds d).zip (Aq cs ds d).tail:=λi x y h1 h2=>List.mem_of_getElem? (zip_get h1 h2)
 have sr:O6 (Aq cs ds d):=Bj
 have C1:=λx y ff go (hp:(x,y)∈(Aq cs ds d).zip (Aq cs ds d).tail) i U5 hn=>nC (X:=3*W+3*M+9) (x:=x) (y:=y) (ff:=ff) (go:=go) D hp i U5 hn
 have C2:=λx y b f0 h (hp:(x,y)∈(Aq cs ds d).zip (Aq cs ds d).tail) by' i U5 hn hx=>jb (X:=3*W+3*M+9) (x:=x) (y:=y) (b:=b) (f0:=f0) (h:=h) D hp by' i U5 hn hx
 have C3:=λx y ff go (hp:(x,y)∈(Aq cs ds d).zip (Aq cs ds d).tail) bx by' i U5 hn hx=>jc (X:=3*W+3*M+9) (x:=x) (y:=y) (ff:=ff) (go:=go) D hp bx by' i U5 hn hx
 generalize hX:3*W+3*M+9=X at *
 generalize Aq cs ds d=mk at *
 ac_rfl
 refine RS (λi τ=>∃ff go z6 z7 z8,NS cs ds d X (mk[i]?) ff go/\ff.length<=i/\τ= [some (.val (Ag cs)),some (.val (Ag ds)),some (.val (.tup [fr d.1,fr d.2])),some (.val (.lst (mk.map fr))),some (.own (ff.map Cg)),some (.val (.bl go)),z6,z7,z8]) ?_ ?_ ⟨[],false,_,_,_,ns0,by simp,rfl⟩
 ·rintro τ ⟨ff,go,z6,z7,z8,i,fl,rfl⟩
  ac_rfl
  have en:((mk.length:Int)-1).toNat=mk.length-1:=by omega
  rw [en] at i fl
  refine q ff i.sep ⟨i.ok,λs hs=> ?_,by omega,λm=> ?_⟩
  ·obtain ⟨e,y,h1,_⟩:=i.fin s hs
   exact ⟨e,h1⟩
  ·rw [i.sem]
   refine ⟨λz=>z.1,λz=>⟨z,Bk cs ds, ?_,z.2.1⟩⟩
   exact ml (by have:=z.1;have:=z.2.1;grind)
 ·rintro i hi τ R hR ⟨ff,go,z6,z7,z8,ni,fl,rfl⟩
  have UK:i+1<mk.length:=by omega
  obtain ⟨x,ex⟩:∃x,mk[i]? =some x:=⟨_,List.getElem?_eq_getElem (by omega)⟩
  obtain ⟨y,ey⟩:∃y,mk[i+1]? =some y:=⟨_,List.getElem?_eq_getElem UK⟩
  have hp:=mp i x y ex ey
  have U5:x<y:=(LA sr _ hp).2.2.1
  have bx:=mb x (List.mem_of_getElem? ex)
  have by':=mb y (List.mem_of_getElem? ey)
  have bm:Bd (2*X+9) ((x+y)*(1/2)):=((bx.add by').mul (tz (r:=1/2))).mono (by omega)
  have t1:((0:Int)+(i:Int)).toNat=i:=by omega
  have t2:((0:Int)+(i:Int)+1).toNat=i+1:=by omega
  rw [ex] at ni
  rw [ey] at hR
  have I1:∀{Q:PV->Prop},Q (fr x)->Ak (.lst (mk.map fr)) (.int ((0:Int)+(i:Int))) Q:=λh=>by rw [show (0:Int)+(i:Int)=(i:Int) by omega];exact tO ex h
  have I2:∀{Q:PV->Prop},Q (fr y)->Ak (.lst (mk.map fr)) (.int ((0:Int)+(i:Int)+1)) Q:=λh=>by rw [show (0:Int)+(i:Int)+1=((i+1:Nat):Int) by omega];exact tO ey h
  repeat' (first | (with_reducible refine I1 ?_)|(with_reducible refine I2 ?_)|array_mem_dec)
  refine HJ D hc Mq bx (by omega) ?_
  repeat' (first | (with_reducible refine I1 ?_)|(with_reducible refine I2 ?_)|array_mem_dec)
  refine Pp (bx.mono (by omega)) (by'.mono (by omega)) ((bx.add by').mono (by omega)) ?_
  repeat' (first | (with_reducible refine I1 ?_)|(with_reducible refine I2 ?_)|array_mem_dec)
  refine HJ D hc Mq bm (by omega) ?_
  generalize hA:decide (BO cs ds d x)=A at *
  generalize hN:decide (BO cs ds d ((x+y)*(1/2)))=N at *
  cases N with
  | false=>
    have fin:=hR _ ⟨ff,false,some (.val (.int ((0:Int)+i))),some (.val (.bl A)),some (.val (.bl false)),C1 x y ff go hp ni U5 (of_decide_eq_false hN),by omega,rfl⟩
    clear hR
    ac_rfl
    exact fin
  | true=>
    have jY:=of_decide_eq_true hN
    have new:∀{z6 z7 z8},(go=true->A=false)->R [some (.val (Ag cs)),some (.val (Ag ds)),some (.val (.tup [fr d.1,fr d.2])),some (.val (.lst (mk.map fr))),some (.own (ff.map Cg ++ [.tup [fr x, .int (if A=true then 1 else 0),fr y]])),some (.val (.bl true)),z6,z7,z8] :=λ{z6 z7 z8} wE=>hR _ ⟨_,true,z6,z7,z8,C3 x y ff go hp bx by' ni U5 jY (λz=>of_decide_eq_false (hA.trans (wE z))),by simp;omega,by rw [List.map_append,hA];rfl⟩
    cases go with
    | false=>
      have new:=λ{z6 z7 z8}=> @new z6 z7 z8 (λz=>(by cases z))
      clear hR
      repeat' (first | (with_reducible refine I1 ?_)|(with_reducible refine I2 ?_)|array_mem_dec)
      exact new
    | true=>
      cases A with
      | false=>
        have new:=λ{z6 z7 z8}=> @new z6 z7 z8 (λ_=>rfl)
        clear hR
        repeat' (first | (with_reducible refine I1 ?_)|(with_reducible refine I2 ?_)|array_mem_dec)
        exact new
      | true=>
        obtain ⟨f0,b,h,y',e1,e2⟩:=ni.on rfl
        cases e2
        subst e1
        have fin:∀{z6 z7 z8},R [some (.val (Ag cs)),some (.val (Ag ds)),some (.val (.tup [fr d.1,fr d.2])),some (.val (.lst (mk.map fr))),some (.own (f0.map Cg ++ [.tup [fr b, .int h,fr y]])),some (.val (.bl true)),z6,z7,z8] :=λ{z6 z7 z8}=>hR _ ⟨f0 ++ [(b,h,some y)],true,z6,z7,z8,C2 x y b f0 h hp by' ni U5 jY (of_decide_eq_true hA),by simp at fl ⊢;omega,by rw [List.map_append];rfl⟩
        clear hR new
        repeat' (first | (with_reducible refine I1 ?_)|(with_reducible refine I2 ?_)|array_mem_dec)
        rw [List.map_append]
        refine aT ?_
        ac_rfl
        show VY (.tup [fr b, .int h,fr x]) none (some 2) _
        refine GZ ?_
        show A3 _ _ λy=>BJ (.tup [fr b, .int h]) y _
        repeat' (first | (with_reducible refine I1 ?_)|(with_reducible refine I2 ?_)|array_mem_dec)
        have ei:PB (List.map Cg f0++List.map Cg [(b,h,some x)]).length (-1)=some f0.length:=by
         unfold PB
         rw [List.length_append,List.length_map,List.length_map,List.length_singleton,if_neg (by decide),if_pos (by omega)]
         congr 1
         omega
        have es:(List.map Cg f0++List.map Cg [(b,h,some x)]).set f0.length (PV.tup [fr b,PV.int h,fr y])=List.map Cg f0 ++ [.tup [fr b, .int h,fr y]] :=by
         rw [List.set_append_right _ _ (by rw [List.length_map];exact Nat.le_refl _),List.length_map,Nat.sub_self]
         rfl
        rw [ei]
        show P8 _ _ _ _
        rw [es]
        ac_rfl
        exact fin
end
end PL
end
section
namespace PL.K23
open PySem L2 PL PyProof.Rows
abbrev Gz:AS:=
 (Ab (VH 11 (aV 3) (AX Ak (FZ (DF (AB (aV 6) (AB (aV 4) AL)))) (AX YA (AX BJ (aV 9) (AX C7 (AN 2 BU (AB (aV 0) (AB (aC (.int 2)) AL))) (EX Pj (AB (AX il (aV 9) (aC (.int 1))) AL)))) (aC (.int 2)))))
   (EY 7 KD (AB (Tl (AX BJ (A3 (AB (AX Ak (aV 10) (aC (.int 0))) AL)) (EX Dt (AB (FZ (Cv (Pd (AB (aC (.int 3)) AL)) 1 [10,11] (Au 0) E7 (AN 2 Bq (AB (AX Ak (aV 1) (AX BJ (aV 0) (aC (.int 1)))) (AB (AX Ak (aV 2) (aV 0)) AL))))) AL)))) AL)))
abbrev Ih:AS:=
 (Ab (JB (DF (AB (A3 (AB (aC (.int 0)) (AB (aC (.int 1)) AL))) (AB (A3 (AB (aC (.int 0)) (AB (aC (.int 1)) AL))) (AB (A3 (AB (aC (.int 0)) (AB (aC (.int 1)) AL))) AL)))) 11)
   Gz)
abbrev Ip:AS:=
 (Ab (Ao (AX Ak (FZ (DF (AB (A3 (AB (aC (.int 0)) (AB (aC (.int 1)) AL))) (AB (A3 (AB (aC (.int 0)) (AB (aC (.int 1)) AL))) (AB (A3 (AB (AX ip (aC (.int 10)) (aC (.int 17))) (AB (aC (.int 1)) AL))) AL))))) (AN 2 BU (AB (aV 0) (AB (aC (.int 3)) AL)))) (Au 8))
   (Ar (A3 (AB (AN 3 BC (AB (aV 2) (AB (A3 (AB (aC (.int 0)) (AB (aC (.int 1)) AL))) (AB (FZ (DF (AB (aV 8) (AB (aV 8) (AB (aV 8) AL))))) AL)))) (AB (AN 3 BC (AB (aV 7) (AB (A3 (AB (aC (.int 0)) (AB (aC (.int 1)) AL))) (AB (FZ (DF (AB (aV 8) (AB (aV 8) (AB (aV 8) AL))))) AL)))) AL)))))
abbrev Io:AS:=
 (Ab (FY (iY (AB (aV 2) AL)) (MD 2 (Ai (Au 9) (Ai (Au 10) CJ))) Ih)
   Ip)
abbrev Im:AS:=
 (Ab (JB (DF AL) 7)
   Io)
abbrev Il:AS:=
 (Ab (Ao (AX Ak (FZ (DF (AB (AN 2 BI (AB (aV 4) (AB (A3 (AB (aC (.int 1)) (AB (aC (.int 2)) AL))) AL))) (AB (A3 (AB (aC (.int 0)) (AB (aC (.int 1)) AL))) (AB (AN 2 BI (AB (aV 4) (AB (A3 (AB (aC (.int 2)) (AB (aC (.int 3)) AL))) AL))) (AB (aV 5) AL)))))) (AN 2 BU (AB (aV 0) (AB (aC (.int 4)) AL)))) (Au 6))
   Im)
abbrev Ik:AS:=
 (Ab (Ao (AN 2 BN (AB (aV 4) (AB (A3 (AB (aC (.int 1)) (AB (AX ip (aC (.int 10)) (aC (.int 19))) AL))) AL))) (Au 5))
   Il)
abbrev Ij:AS:=
 (Ab (Ao (AX Ak (aV 1) (EX Pj (AB (AX M6 (aV 3) (aC (.int 2))) AL))) (Au 4))
   Ik)
abbrev Ii:AS:=
 (Ab (Ao (AN 2 BU (AB (aV 0) (AB (aC (.int 3)) AL))) (Au 3))
   Ij)
abbrev Gi:AS:=
 (Ab (Ao (AN 1 Bx (AB (aV 0) AL)) (Au 2))
   Ii)
def CW:AF:=A0 12 Gi
theorem KS {x0 x1:PV} {Q:PV->Prop} (h:Gi ⟨λ_=>Q .non,Q,λ_=>False,λ_=>False⟩ [some (.val x0),some (.val x1),none,none,none,none,none,none,none,none,none,none]):CW [x0,x1] Q:=h
abbrev Mh:AS:=
 (Ab (Ao (AN 1 C5 (AB (aV 3) AL)) (Au 2))
   (FY (O8 (A3 (AB (A3 (AB (aV 4) (AB (aV 5) AL))) (AB (A3 (AB (aV 7) (AB (aV 8) AL))) (AB (A3 (AB (aV 8) (AB (aV 7) AL))) AL))))) (MD 2 (Ai (Au 9) (Ai (Au 10) CJ))) (FY (O8 (A3 (AB (aV 6) (AB (aV 2) (AB (aV 6) AL))))) (Au 11) (Bz (Gr (A5 (AN 2 (Az 12) (AB (AN 3 Ex (AB (aV 9) (AB (aV 10) (AB (aV 11) AL)))) (AB (AN 3 CV (AB (aV 9) (AB (aV 10) (AB (aV 11) AL)))) AL))))) (Ar (aC (.bl false))) BM))))
abbrev Mf:AS:=
 (Ab (Ao (AN 2 CW (AB (aV 3) (AB (aV 6) AL))) (MD 2 (Ai (Au 7) (Ai (Au 8) CJ))))
   Mh)
abbrev Q4:AS:=
 (Ab (Ao (AN 2 EL (AB (aV 0) (AB (aV 1) AL))) (MD 4 (Ai (Au 3) (Ai (Au 4) (Ai (Au 5) (Ai (Au 6) CJ))))))
   Mf)
abbrev QC:AS:=
 (Ab (FY (Pd (AB (AX BJ (aC (.int 1)) (EX (l8 min) (AB (aC (.int 2)) (AB (EX Fc (AB (aV 0) AL)) AL)))) AL)) (Au 1) Q4)
   (Ar (aC (.bl true))))
def Em:AF:=A0 12 QC
theorem Ui {x0:PV} {Q:PV->Prop} (h:QC ⟨λ_=>Q .non,Q,λ_=>False,λ_=>False⟩ [some (.val x0),none,none,none,none,none,none,none,none,none,none,none]):Em [x0] Q:=h
abbrev wv (p:C4×T3):C4:=(p.1.1,p.1.2.1+p.2.1,p.1.2.2.1+p.2.2.1,p.1.2.2.2+p.2.2.2)
theorem Vw {cs:List C4} {t:Rat} {o:T3} {v:PV} {B m:Nat} (hv:v= .lst [fr o.1,fr o.2.1,fr o.2.2]) (hl:cs.length<=100) (hc:∀c∈cs,EK B c) (bt:Bd m t) (bo:EW m o) (hB:B<=4000) (hm:m<=4000) {Q:PV->Prop} (q:Q (Ag (cs.map (C9 t o)))):BC [.lst (cs.map cor),fr t,v] Q:=by
 subst hv
 have bx:=bo.x
 have by':=bo.y
 have bz:=bo.z
 apply FJ
 ac_rfl
 refine Ea cor cor (C9 t o) (EK B) (λc bc R hR=> ?_) cs [] hc ?_
 ·ac_rfl
  rw [show rng 0 (Int.toNat 3)= [.int 0, .int 1, .int 2] from rfl]
  repeat' array_get_dec
  rw [show (0:Int)+1=1 from rfl]
  repeat' array_get_dec
  rw [show (1:Int)+1=2 from rfl]
  repeat' array_get_dec
  rw [show (2:Int)+1=3 from rfl]
  repeat' array_get_dec
  exact hR
 ac_rfl
 exact q
theorem dO {d:Rat×Rat} {r:Int} {R:PV->Prop} (b1:Bd 3 d.1) (b2:Bd 3 d.2) (h:∀f,Bd 3 f->R (fr f)):Ak (.tup [fr d.1,fr d.2]) (.int (if decide (r=2)=true then 1 else 0)) R:=by
 by_cases z:r=2
 ·rw [decide_eq_true z];exact h _ b2
 ·rw [decide_eq_false z];exact h _ b1
theorem oI:PV.tup [.int 1, .int (10^Int.toNat 19)] =fr (1/10000000000000000000):=by
 unfold fr
 rw [show (1/10000000000000000000:Rat).num=1 by decide +kernel,show (1/10000000000000000000:Rat).den=10000000000000000000 by decide +kernel]
 rfl
def oK (r:Int) (x:Rat):T3:=(if r=0 then x else 0,if r=1 then x else 0,if r=2 then x else 0)
theorem kZ {n:Nat} {r:Int} {x:Rat} (h:Bd n x) (hn:1<=n):EW n (oK r x):=by
 have z:Bd n (0:Rat):=Y7.mono hn
 have k:∀{p:Prop} [Decidable p],Bd n (if p then x else 0):=λ{p} _=>by split;exact h;exact z
 exact ⟨k,k,k⟩
theorem gN {r:Int} {x:Rat} (h0:0<=r) (h1:r<3): [fr 0,fr 0,fr 0].set r.toNat (fr x)= [fr (oK r x).1,fr (oK r x).2.1,fr (oK r x).2.2] :=by
 have:r=0\/r=1\/r=2:=by omega
 rcases this with rfl|rfl|rfl <;> rfl
theorem jh {j:Nat} {R:Nat->Prop} (h:R j):ap (some j) R:=h
theorem U1 {d:Rat×Rat} (b1:Bd 3 d.1) (b2:Bd 3 d.2) {Q:PV->Prop} (q:∀(bs:List C4) (vs:List T3) (o:T3),Jn 12 6 600 bs->vs.length=bs.length->(∀v∈vs,EW 72 v)->EW 60 o->Q (.tup [Ag (bs.map (C9 0 o)),Ag (((bs.zip vs).map wv).map (C9 0 o))])):CW [.tape, .tup [fr d.1,fr d.2]] Q:=by
 apply KS
 ac_rfl
 refine Hs λbs pm=> ?_
 have few:=pm.few
 have two:=pm.two
 have p10:Cu 12 10 bs:=pm.ok (by decide) (by decide)
 ac_rfl
 rename_i r r0 r1
 refine dO b1 b2 λf bf=> ?_
 have bt:Bd 64 (1/10000000000000000000:Rat):=⟨by decide +kernel,by decide +kernel⟩
 have bh:Bd 3 (1/2:Rat):=qh
 have b23:Bd 3 (2/3:Rat):=qh
 ac_rfl
 rw [oI]
 ac_rfl
 rename_i k k0 k1
 refine JI (xs:= [f*(1/2),0,f*(2/3),f-1/10000000000000000000]) k0 k1 λx hx=> ?_
 have bx:Bd 72 x:=by
  simp only [List.mem_cons,List.not_mem_nil,or_false] at hx
  rcases hx with rfl|rfl|rfl|rfl
  ·exact (bf.mul bh).mono (by decide)
  ·exact Y7.mono (by decide)
  ·exact (bf.mul b23).mono (by decide)
  ·exact (bf.sub bt).mono (by decide)
 ac_rfl
 refine GJ (λrr τ=>∃us ws vs z9 z10 z11,us++ws=bs/\rr=FA us.length (ws.map cor)/\vs.length=us.length/\(∀v∈vs,EW 72 v)/\τ= [some (.val .tape),some (.val (.tup [fr d.1,fr d.2])),some (.val (Ag bs)),some (.val (.int r)),some (.val (fr f)),some (.val (fr (f-1/10000000000000000000))),some (.val (fr x)),some (.own (((us.zip vs).map wv).map cor)),none,z9,z10,z11]) ?_ ?_ _ _ ⟨[],bs, [],_,_,_,rfl,rfl,rfl,by simp,rfl⟩
 ·rintro τ ⟨us,ws,vs,z9,z10,z11,e,hr,hl,hv,rfl⟩
  have:ws= [] :=by cases ws with | nil=>rfl|cons _ _=>simp [FA] at hr
  subst this
  rw [List.append_nil] at e
  subst e
  ac_rfl
  rename_i j j0 j1
  refine JI (xs:= [(0:Rat),0,((10^Int.toNat 17:Int):Rat)]) j0 j1 λo ho=> ?_
  have bo:Bd 60 o:=by
   simp only [List.mem_cons,List.not_mem_nil,or_false] at ho
   rcases ho with rfl|rfl|rfl
   ·exact Y7.mono (by decide)
   ·exact Y7.mono (by decide)
   ·exact .int (by decide) (by decide)
  have b0:Bd 60 (0:Rat):=Y7.mono (by decide)
  have cw:∀c∈(us.zip vs).map wv,EK 84 c:=λc hc=>by
   obtain ⟨p,hp,rfl⟩:=List.mem_map.mp hc
   have k1:=p10.bd p.1 (List.of_mem_zip hp).1
   have k2:=hv p.2 (List.of_mem_zip hp).2
   exact ⟨k1.m.mono (by decide),(k1.x.add k2.x).mono (by decide),(k1.y.add k2.y).mono (by decide),(k1.z.add k2.z).mono (by decide)⟩
  have zl:((us.zip vs).map wv).length<=12:=by rw [List.length_map,List.length_zip];omega
  ac_rfl
  refine GM (o:=(o,o,o)) rfl (by omega) p10.bd b0 ⟨bo,bo,bo⟩ (by decide) (by decide) ?_
  ac_rfl
  refine Vw (o:=(o,o,o)) rfl (by omega) cw b0 ⟨bo,bo,bo⟩ (by decide) (by decide) ?_
  ac_rfl
  exact q us vs (o,o,o) pm hl hv ⟨bo,bo,bo⟩
 ·rintro xx rr τ R hR ⟨us,ws,vs,z9,z10,z11,e,hr,hl,hv,rfl⟩
  cases ws with
  | nil=>simp [FA] at hr
  | cons c ws=>
    rw [List.map_cons,FA] at hr
    cases hr
    have bc:=p10.bd c (by rw [<-e];simp)
    have ul:us.length<=12:=by rw [<-e] at few;simp at few;omega
    ac_rfl
    rename_i w w0 w1
    generalize hg:(if decide ((1:Int)<us.length)=true then (1:Int) else 0)=g at *
    have g01:g=0\/g=1:=by rw [<-hg];split <;> simp
    refine ⟨MulOk.of (m:=2) (n:=2) (by omega) (by omega), ?_⟩
    ac_rfl
    have fm0:0<=((us.length:Int)+w*g).fmod 2:=Int.fmod_nonneg_of_pos _ (by decide)
    have fm1:((us.length:Int)+w*g).fmod 2<2:=Int.fmod_lt_of_pos _ (by decide)
    refine JI (xs:= [x,f]) fm0 fm1 λy hy=> ?_
    have by':Bd 72 y:=by
     simp only [List.mem_cons,List.not_mem_nil,or_false] at hy
     rcases hy with rfl|rfl
     ·exact bx
     ·exact bf.mono (by decide)
    have ei:PB [fr 0,fr 0,fr 0].length r=some r.toNat:=by
     have:r=0\/r=1\/r=2:=by omega
     rcases this with rfl|rfl|rfl <;> rfl
    ac_rfl
    rw [ei]
    refine jh ?_
    rw [gN r0 r1]
    have tv:=kZ (r:=r) by' (by decide)
    generalize oK r y=v at *
    have c1:=tv.x
    have c2:=tv.y
    have c3:=tv.z
    have c4:=bc.x
    have c5:=bc.y
    have c6:=bc.z
    have zl:(us.zip vs).length<=12:=by rw [List.length_zip];omega
    have fin:∀{z9 z10 z11},R [some (.val .tape),some (.val (.tup [fr d.1,fr d.2])),some (.val (Ag bs)),some (.val (.int r)),some (.val (fr f)),some (.val (fr (f-1/10000000000000000000))),some (.val (fr x)),some (.own (((us.zip vs).map wv).map cor ++ [cor (wv (c,v))])),none,z9,z10,z11] :=λ{z9 z10 z11}=>hR _ ⟨us ++ [c],ws,vs ++ [v],z9,z10,z11,by simpa using e,by simp,by simp [hl],λu hu=>by
     rcases List.mem_append.mp hu with hu|hu
     ·exact hv u hu
     ·simp at hu;subst hu;exact tv,by rw [List.zip_append hl.symm,List.map_append,List.map_append];rfl⟩
    clear hR
    ac_rfl
    rw [show rng 0 (Int.toNat 3)= [.int 0, .int 1, .int 2] from rfl]
    repeat' array_get_dec
    rw [show (0:Int)+1=1 from rfl]
    repeat' array_get_dec
    rw [show (1:Int)+1=2 from rfl]
    repeat' array_get_dec
    rw [show (2:Int)+1=3 from rfl]
    repeat' array_get_dec
    exact fin
theorem Yy {A C:List C4} (t1:2<=A.length) (t2:2<=C.length) {m:Rat} (h:m∈K6 A C):∃c,(c∈A\/c∈C)/\c.1=m:=by
 obtain ⟨a,r,l,rfl,h0,el⟩:=open2 t1
 obtain ⟨a2,r2,l2,rfl,U4,el2⟩:=open2 t2
 rcases Dk.mp h with e|e|⟨_,_,c,hc,e⟩
 ·unfold Br at e
  rw [DU,DU] at e
  unfold mx at e
  split at e
  ·exact ⟨a2, .inr (by simp),e.symm⟩
  ·exact ⟨a, .inl (by simp),e.symm⟩
 ·unfold Bk at e
  rw [Bn el,Bn el2] at e
  unfold mn at e
  split at e
  ·exact ⟨l, .inl (List.mem_of_getLast? el),e.symm⟩
  ·exact ⟨l2, .inr (List.mem_of_getLast? el2),e.symm⟩
 ·exact ⟨c,hc,e⟩
theorem gb {A C:List C4} {d:Rat×Rat} (c1:∀c∈A,EK 150 c) (c2:∀c∈C,EK 150 c) (r1:Hi A) (r2:Hi C) (t1:2<=A.length) (t2:2<=C.length) (f1:A.length<=12) (f2:C.length<=12) (m1:∀c∈A,Bd 12 c.1) (m2:∀c∈C,Bd 12 c.1) (b1:Bd 3 d.1) (b2:Bd 3 d.2) (g1:0<d.1) (g2:0<d.2)
 (H:∀c,c∈A\/c∈C->∃a e,a∈A/\e∈C/\a.1=c.1/\e.1=c.1/\EW 72 (a.2.1-e.2.1,a.2.2.1-e.2.2.1,a.2.2.2-e.2.2.2)):E6 A C d 12 80 where
 c1:=c1
 c2:=c2
 r1:=r1
 r2:=r2
 t1:=t1
 t2:=t2
 f1:=by omega
 f2:=by omega
 m1:=m1
 m2:=m2
 b1:=b1.mono (by decide)
 b2:=b2.mono (by decide)
 p1:=g1
 p2:=g2
 w:=λh m hm=>by
  obtain ⟨c,hc,rfl⟩:=Yy t1 t2 hm
  obtain ⟨a,e,ha,he,e1,e2,bd⟩:=H c hc
  have s1:spotC A c.1=some a.2:=by rw [<-e1];exact K2 r1 t1 a ha
  have s2:spotC C c.1=some e.2:=by rw [<-e2];exact K2 r2 t2 e he
  unfold F5
  rw [s1,s2]
  exact ⟨(bd.x.div (by grind) b1).mono (by decide),(bd.y.div (by grind) b1).mono (by decide),(bd.z.div (by grind) b2).mono (by decide)⟩
 hM:=by decide
 hW:=by decide
theorem ay {bs:List C4} {vs:List T3} {o:T3} (pm:Jn 12 6 600 bs) (vl:vs.length=bs.length) (vb:∀v∈vs,EW 72 v) (ob:EW 60 o) {d:Rat×Rat} (b1:Bd 3 d.1) (b2:Bd 3 d.2) (g1:0<d.1) (g2:0<d.2):
 (E6 (bs.map (C9 0 o)) (((bs.zip vs).map wv).map (C9 0 o)) d 12 80/\E6 (((bs.zip vs).map wv).map (C9 0 o)) (bs.map (C9 0 o)) d 12 80)/\(∀c∈bs.map (C9 0 o),EK 150 c)/\∀c∈((bs.zip vs).map wv).map (C9 0 o),EK 150 c:=by
 have p10:Cu 12 10 bs:=pm.ok (by decide) (by decide)
 have few:=pm.few
 have two:=pm.two
 have A1:∀c∈bs.map (C9 0 o),EK 150 c/\Bd 12 c.1:=λc hc=>by
  obtain ⟨b,hb,rfl⟩:=List.mem_map.mp hc
  have k:=p10.bd b hb
  have km:Bd 12 (b.1+0):=(k.m.add Y7).mono (by decide)
  exact ⟨⟨km.mono (by decide),(k.x.add ob.x).mono (by decide),(k.y.add ob.y).mono (by decide),(k.z.add ob.z).mono (by decide)⟩,km⟩
 have A2:∀c∈((bs.zip vs).map wv).map (C9 0 o),EK 150 c/\Bd 12 c.1:=λc hc=>by
  obtain ⟨b',dy,rfl⟩:=List.mem_map.mp hc
  obtain ⟨p,hp,rfl⟩:=List.mem_map.mp dy
  have k:=p10.bd p.1 (List.of_mem_zip hp).1
  have kv:=vb p.2 (List.of_mem_zip hp).2
  have km:Bd 12 (p.1.1+0):=(k.m.add Y7).mono (by decide)
  exact ⟨⟨km.mono (by decide),((k.x.add kv.x).add ob.x).mono (by decide),((k.y.add kv.y).add ob.y).mono (by decide),((k.z.add kv.z).add ob.z).mono (by decide)⟩,km⟩
 have mm:(((bs.zip vs).map wv).map (C9 0 o)).map (·.1)=(bs.map (C9 0 o)).map (·.1):=by
  rw [List.map_map,List.map_map,List.map_map]
  rw [show (((λx:C4=>x.1) ∘ C9 0 o) ∘ wv)=(λx:C4=>x.1+0) ∘ Prod.fst from rfl,<-List.map_map,List.map_fst_zip (by omega)]
  rfl
 have R1:Hi (bs.map (C9 0 o)):=NG pm.ris (by
  rw [List.map_map]
  apply List.map_congr_left
  intro c _
  show c.1+0=c.1
  grind)
 have R2:Hi (((bs.zip vs).map wv).map (C9 0 o)):=NG R1 mm
 have l1:(bs.map (C9 0 o)).length=bs.length:=by simp
 have l2:(((bs.zip vs).map wv).map (C9 0 o)).length=bs.length:=by simp [vl]
 have both:∀p∈bs.zip vs,C9 0 o p.1∈bs.map (C9 0 o)/\C9 0 o (wv p)∈((bs.zip vs).map wv).map (C9 0 o):=λp hp=>⟨List.mem_map.mpr ⟨p.1,(List.of_mem_zip hp).1,rfl⟩,List.mem_map.mpr ⟨wv p,List.mem_map.mpr ⟨p,hp,rfl⟩,rfl⟩⟩
 have src:∀c,c∈bs.map (C9 0 o)\/c∈((bs.zip vs).map wv).map (C9 0 o)->∃p∈bs.zip vs,c.1=p.1.1+0:=λc hc=>by
  rcases hc with hc|hc
  ·obtain ⟨b,hb,rfl⟩:=List.mem_map.mp hc
   rw [<-List.map_fst_zip (l₁:=bs) (l₂:=vs) (by omega)] at hb
   obtain ⟨p,hp,rfl⟩:=List.mem_map.mp hb
   exact ⟨p,hp,rfl⟩
  ·obtain ⟨b',dy,rfl⟩:=List.mem_map.mp hc
   obtain ⟨p,hp,rfl⟩:=List.mem_map.mp dy
   exact ⟨p,hp,rfl⟩
 have sb:∀a v o:Rat,(a+o)-(a+v+o)= -v:=λa v o=>by grind
 have sb2:∀a v o:Rat,(a+v+o)-(a+o)=v:=λa v o=>by grind
 refine ⟨⟨gb (λc hc=>(A1 c hc).1) (λc hc=>(A2 c hc).1) R1 R2 (by omega) (by omega) (by omega) (by omega) (λc hc=>(A1 c hc).2) (λc hc=>(A2 c hc).2) b1 b2 g1 g2 λc hc=> ?_,gb (λc hc=>(A2 c hc).1) (λc hc=>(A1 c hc).1) R2 R1 (by omega) (by omega) (by omega) (by omega) (λc hc=>(A2 c hc).2) (λc hc=>(A1 c hc).2) b1 b2 g1 g2 λc hc=> ?_⟩,λc hc=>(A1 c hc).1,λc hc=>(A2 c hc).1⟩
 ·obtain ⟨p,hp,e⟩:=src c hc
  have kv:=vb p.2 (List.of_mem_zip hp).2
  refine ⟨_,_,(both p hp).1,(both p hp).2,e.symm,e.symm, ?_⟩
  exact ⟨by show Bd 72 ((p.1.2.1+o.1)-(p.1.2.1+p.2.1+o.1));rw [sb];exact kv.x.neg,by show Bd 72 ((p.1.2.2.1+o.2.1)-(p.1.2.2.1+p.2.2.1+o.2.1));rw [sb];exact kv.y.neg,by show Bd 72 ((p.1.2.2.2+o.2.2)-(p.1.2.2.2+p.2.2.2+o.2.2));rw [sb];exact kv.z.neg⟩
 ·obtain ⟨p,hp,e⟩:=src c hc.symm
  have kv:=vb p.2 (List.of_mem_zip hp).2
  refine ⟨_,_,(both p hp).2,(both p hp).1,e.symm,e.symm, ?_⟩
  exact ⟨by show Bd 72 ((p.1.2.1+p.2.1+o.1)-(p.1.2.1+o.1));rw [sb2];exact kv.x,by show Bd 72 ((p.1.2.2.1+p.2.2.1+o.2.1)-(p.1.2.2.1+o.2.1));rw [sb2];exact kv.y,by show Bd 72 ((p.1.2.2.2+p.2.2.2+o.2.2)-(p.1.2.2.2+o.2.2));rw [sb2];exact kv.z⟩
theorem aW (ns:List Int) (hn:ns.length<=63):Em [.scr ns] λx=>x= .bl true:=by
 apply Ui
 repeat' array_get_dec
 refine RS (λi τ=>∃z1 z2 z3 z4 z5 z6 z7 z8 z9 z10 z11,τ= [some (.val (.scr ns)),z1,z2,z3,z4,z5,z6,z7,z8,z9,z10,z11]) ?_ ?_ ⟨_,_,_,_,_,_,_,_,_,_,_,rfl⟩
 ·rintro τ ⟨z1,z2,z3,z4,z5,z6,z7,z8,z9,z10,z11,rfl⟩
  repeat' array_get_dec
 ·rintro i hi τ R hR ⟨z1,z2,z3,z4,z5,z6,z7,z8,z9,z10,z11,rfl⟩
  have e0:(0:Int)+i=i:=by omega
  rw [e0]
  ac_rfl
  refine Zr (by omega) λcs ds d p p2 b1 b2 g1 g2=> ?_
  ac_rfl
  refine U1 b1 b2 λbs vs o pm vl vb ob=> ?_
  ac_rfl
  refine QJ λd2 b12 b22 g12 g22=> ?_
  ac_rfl
  have MZ:∀{e:Rat},1/3<=e->0<e:=λh=>by grind
  have G:∀xx∈ [PV.tup [Ag cs,Ag ds],PV.tup [Ag (bs.map (C9 0 o)),Ag (((bs.zip vs).map wv).map (C9 0 o))],PV.tup [Ag (((bs.zip vs).map wv).map (C9 0 o)),Ag (bs.map (C9 0 o))]],∃A C,xx= .tup [Ag A,Ag C] /\∀e:Rat×Rat,Bd 3 e.1->Bd 3 e.2->1/3<=e.1->1/3<=e.2->∃M W B,E6 A C e M W/\(∀c∈A,EK B c)/\(∀c∈C,EK B c)/\2*(3*W+3*M+9)+9+6*B+10<=3900:=λxx hx=>by
   simp only [List.mem_cons,List.not_mem_nil,or_false] at hx
   rcases hx with rfl|rfl|rfl
   ·exact ⟨_,_,rfl,λe h1 h2 h3 h4=>⟨_,_,_,ig (by decide) p p2 h1 h2 (MZ h3) (MZ h4) (by decide) (by decide) (by decide),p.bd,p2.bd,by decide⟩⟩
   ·exact ⟨_,_,rfl,λe h1 h2 h3 h4=>by
     obtain ⟨⟨k1,k2⟩,k3,k4⟩:=ay pm vl vb ob h1 h2 (MZ h3) (MZ h4)
     exact ⟨_,_,_,k1,k3,k4,by decide⟩⟩
   ·exact ⟨_,_,rfl,λe h1 h2 h3 h4=>by
     obtain ⟨⟨k1,k2⟩,k3,k4⟩:=ay pm vl vb ob h1 h2 (MZ h3) (MZ h4)
     exact ⟨_,_,_,k2,k4,k3,by decide⟩⟩
  generalize bs.map (C9 0 o)=P1 at *
  generalize ((bs.zip vs).map wv).map (C9 0 o)=P2 at *
  refine dZ (λτ=>∃z9 z10 z11,τ= [some (.val (.scr ns)),some (.val (.int i)),some (.val (.tup [fr d2.1,fr d2.2])),some (.val .tape),some (.val (Ag cs)),some (.val (Ag ds)),some (.val (.tup [fr d.1,fr d.2])),some (.val (Ag P1)),some (.val (Ag P2)),z9,z10,z11]) ?_ ?_ ⟨_,_,_,rfl⟩
  ·rintro τ ⟨z9,z10,z11,rfl⟩
   exact hR _ ⟨_,_,_,_,_,_,_,_,_,_,_,rfl⟩
  ·rintro xx hx τ R2 oY ⟨z9,z10,z11,rfl⟩
   obtain ⟨A,C,rfl,g⟩:=G xx hx
   clear G hx hR
   obtain ⟨M1,W1,B1,D1,x1,y1,h1⟩:=g d b1 b2 g1 g2
   obtain ⟨M2,W2,B2,D2,x2,y2,h2⟩:=g d2 b12 b22 g12 g22
   clear g
   have same:∀{e:Rat×Rat} {M W B:Nat} {ss ff:List Bi},Wa A C e B ss->Sep ff->Told (BO A C e) (3*W+3*M+9) ff->canon 1 ss=ff:=λn fs ft=>Oo (X6 n.ok) fs n.told.ok ft.ok n.told.fin ft.fin λm=>by rw [Bool.eq_iff_iff,n.told.sem,ft.sem]
   ac_rfl
   refine gU.go ?_
   ac_rfl
   refine Hf D1 (.self _) (.self _) (.inl rfl) λss n=> ?_
   ac_rfl
   refine HN D1 x1 y1 h1 λff fs ft=> ?_
   rw [same n fs ft]
   ac_rfl
   refine Lx (m:=8) (by have:=ft.few;omega) ?_
   ac_rfl
   refine gU.go ?_
   ac_rfl
   refine Hf D2 (.self _) (.self _) (.inl rfl) λss n=> ?_
   ac_rfl
   refine HN D2 x2 y2 h2 λff fs ft=> ?_
   rw [same n fs ft]
   ac_rfl
   refine Lx (m:=8) (by have:=ft.few;omega) ?_
   ac_rfl
   refine gU.go ?_
   ac_rfl
   refine Hf D1 (.self _) (.self _) (.inl rfl) λss n=> ?_
   ac_rfl
   refine HN D1 x1 y1 h1 λff fs ft=> ?_
   rw [same n fs ft]
   ac_rfl
   refine Lx (m:=8) (by have:=ft.few;omega) ?_
   ac_rfl
   exact oY _ ⟨_,_,_,rfl⟩
end PL.K23
end
section
namespace K23
open PySem L2 PL PL.K23 PyProof.Rows
def top (i:Nat):Stmt:=PySem.Challenge.pw_skylanes_k23_ends_of_too_near.main.body.getD i (.Pass ⟨0,0,0,0⟩)
theorem D0 {N Q:List Str} {s:Scope} (a:s.kind= .function:=by rfl) (b:s.isCoroutine=false:=by rfl) (c:s.isGenerator=false:=by rfl) (d:N.Nodup:=by decide +kernel) (e:N.take Q.length=Q:=by rfl) (f:∀x∈Q,s.names.lookup x=some .local\/s.names.lookup x=some .cell:=by decide +kernel) (g:∀y∈s.names,y.2≠ .free:=by decide +kernel):Aa N Q s:=⟨a,b,c,d,e,f,g⟩
abbrev FN:Stmt:=top 34
abbrev Ed:Stmt:=top 44
abbrev FQ:Stmt:=top 35
abbrev GR:Stmt:=top 37
abbrev Ef:Stmt:=top 46
abbrev GQ:Stmt:=top 38
abbrev Eg:Stmt:=top 41
abbrev FS:Stmt:=top 42
abbrev FR:Stmt:=top 43
abbrev Dv:Stmt:=top 39
abbrev EG:Stmt:=top 47
abbrev FU:Stmt:=top 33
abbrev FM:Stmt:=top 48
abbrev FO:Stmt:=top 36
abbrev Eh:Stmt:=top 40
abbrev FT:Stmt:=top 45
abbrev GP:Stmt:=top 49
abbrev Du:Stmt:=top 56
abbrev FP:Stmt:=top 52
abbrev EI:Stmt:=top 50
abbrev Ei:Stmt:=top 53
abbrev Ej:Stmt:=top 51
abbrev Ee:Stmt:=top 54
abbrev EH:Stmt:=top 55
abbrev DV:Stmt:=top 57
abbrev EO:Stmt:=top 58
abbrev DW:Stmt:=top 59
abbrev KW:Stmt:=top 7
abbrev KZ:Stmt:=top 8
abbrev KY:Stmt:=top 1
abbrev SY:Stmt:=top 2
abbrev NJ:Stmt:=top 4
abbrev SZ:Stmt:=top 3
abbrev NK:Stmt:=top 5
abbrev FV:Stmt:=top 29
abbrev Hw:Stmt:=top 30
abbrev DX:Stmt:=top 10
abbrev GS:Stmt:=top 27
abbrev SX:Stmt:=top 6
abbrev Hy:Stmt:=top 25
abbrev Dw:Stmt:=top 14
abbrev Hz:Stmt:=top 15
abbrev Hx:Stmt:=top 26
abbrev Hv:Stmt:=top 9
abbrev GU:Stmt:=top 23
abbrev Cn:Stmt:=top 16
abbrev EJ:Stmt:=top 11
abbrev Kg:Stmt:=top 12
abbrev NL:Stmt:=top 24
abbrev Kb:Stmt:=top 28
abbrev GT:Stmt:=top 18
abbrev Ka:Stmt:=top 19
abbrev Hu:Stmt:=top 20
abbrev GV:Stmt:=top 21
abbrev GW:Stmt:=top 31
abbrev Od:Stmt:=top 60
section
variable (P:Program) (w:World) (K:PySem.W.Frag) (mg:Str->Option Value) (base:Heap) (n:Nat)
abbrev Cw:=Has P w K mg base n "_law_draw" ["_law_tape_here","_law_many"] (BY K 2 BU)
abbrev J3:=Has P w K mg base n "_law_apart" ["_law_tape_here"] (BY K 1 C5)
abbrev Di:=Has P w K mg base n "_law_part" ["_law_top","_law_bottom"] (BY K 2 BB)
abbrev Db:=Has P w K mg base n "_law_sum" ["_law_one","_law_other"] (BY K 2 Bq)
abbrev J4:=Has P w K mg base n "_law_moved" ["_law_plan_here","_law_late","_law_by"] (BY K 3 BC)
abbrev DZ:=Has P w K mg base n "_law_off" ["_law_one","_law_other"] (BY K 2 BN)
abbrev J5:=Has P w K mg base n "_law_place" ["_law_tape_here"] (BY K 1 A9)
abbrev MH:=Has P w K mg base n "_law_span" ["_law_tape_here"] (BY K 1 CI)
abbrev HI:=Has P w K mg base n "_law_plan" ["_law_tape_here"] (BY K 1 Bx)
abbrev Cy:=Has P w K mg base n "_law_product" ["_law_one","_law_other"] (BY K 2 BI)
abbrev Pm:=Has P w K mg base n "_law_beside" ["_law_tape_here","_law_plan_here","_law_apart_here"] (BY K 3 DJ)
abbrev UB:=Has P w K mg base n "_law_tape" ["_law_script","_law_k"] (BY K 2 Nx)
abbrev T9:=Has P w K mg base n "_law_case" ["_law_script","_law_k"] (BY K 2 EL)
abbrev FD:=Has P w K mg base n "_law_less" ["_law_one","_law_other"] (BY K 2 Am)
abbrev Ec:=Has P w K mg base n "_law_ratio" ["_law_one","_law_other"] (BY K 2 Bs)
abbrev MI:=Has P w K mg base n "_law_spot" ["_law_plan_here","_law_m"] (BY K 2 Ct)
abbrev Vc:=Has P w K mg base n "_law_gap" ["_law_one","_law_other","_law_apart_here","_law_m","_law_end"] (BY K 5 Et)
abbrev OD:=Has P w K mg base n "_law_is_near" ["_law_one","_law_other","_law_apart_here","_law_m"] (BY K 4 CD)
abbrev UA:=Has P w K mg base n "_law_offs" ["_law_one","_law_other","_law_apart_here","_law_m"] (BY K 4 Dg)
abbrev IK:=Has P w K mg base n "_law_rising" ["_law_moments"] (BY K 1 Cc)
abbrev RX:=Has P w K mg base n "_law_share" ["_law_low","_law_high","_law_begin","_law_end"] (BY K 4 Dp)
abbrev RY:=Has P w K mg base n "_law_turns" ["_law_one","_law_other"] (BY K 2 Dr)
abbrev RW:=Has P w K mg base n "_law_marks" ["_law_one","_law_other","_law_apart_here"] (BY K 3 CU)
abbrev Pn:=Has P w K mg base n "_law_middle" ["_law_one","_law_other"] (BY K 2 DK)
abbrev Mn:=Has P w K mg base n "_law_near_set" ["_law_one","_law_other","_law_apart_here"] (BY K 3 CV)
abbrev MG (m:Nat):=Has P w K mg base n "_law_same" ["_law_found","_law_due"] (BY K 2 (Az m))
abbrev Mo:=Has P w K mg base n "_law_touching" ["_law_tape_here","_law_apart_here"] (BY K 2 CW)
abbrev E1:=Has P w K mg base n "before" ["one","other"] (BY K 2 Am)
abbrev UD:=Has P w K mg base n "lesser" ["one","other"] (BY K 2 Eu)
abbrev UC:=Has P w K mg base n "common" ["one","other"] (BY K 2 G9)
abbrev OE:=Has P w K mg base n "part" ["top","bottom"] (BY K 2 HB)
abbrev RZ:=Has P w K mg base n "minus" ["one","other"] (BY K 2 EE)
abbrev aF:=Has P w K mg base n "plus" ["one","other"] (BY K 2 Iy)
abbrev W0:=Has P w K mg base n "times" ["one","other"] (BY K 2 GB)
abbrev UE:=Has P w K mg base n "moment_at" ["begin","end","share"] (BY K 3 Dh)
abbrev YF:=Has P w K mg base n "near_in" ["piece"] (BY K 1 Fm)
abbrev Mp:=Has P w K mg base n "shared_bottom" ["numbers"] (BY K 1 CY)
abbrev Vd:=Has P w K mg base n "lines_of" ["first","last"] (BY K 2 Ev)
abbrev aD:=Has P w K mg base n "over" ["one","other"] (BY K 2 LW)
abbrev YH:=Has P w K mg base n "size_of" ["apart","side"] (BY K 2 En)
abbrev OF:=Has P w K mg base n "spot_between" ["former","latter","m"] (BY K 3 Ds)
abbrev YI:=Has P w K mg base n "spot_at" ["plan","m"] (BY K 2 Fq)
abbrev YG:=Has P w K mg base n "offs_at" ["one","other","apart","m"] (BY K 4 Fn)
abbrev YE:=Has P w K mg base n "greater" ["one","other"] (BY K 2 Cs)
abbrev Vf:=Has P w K mg base n "together" ["one","other"] (BY K 2 D6)
abbrev J6:=Has P w K mg base n "corners_between" ["plan","begin","end"] (BY K 3 B3)
abbrev Po:=Has P w K mg base n "count_below" ["numbers","number"] (BY K 2 DM)
abbrev UF:=Has P w K mg base n "rising" ["numbers"] (BY K 1 Fp)
abbrev dn:=Has P w K mg base n "turns" ["one","other","begin","end"] (BY K 4 Jm)
abbrev aE:=Has P w K mg base n "pieces" ["one","other","apart"] (BY K 3 HC)
abbrev Ve:=Has P w K mg base n "steps_of" ["stretches"] (BY K 1 Hh)
abbrev aB:=Has P w K mg base n "levels" ["stretches"] (BY K 1 HA)
abbrev YD:=Has P w K mg base n "counted" ["stretches","n"] (BY K 2 El)
abbrev Vg:=Has P w K mg base n "told_set" ["stretches"] (BY K 1 Ew)
abbrev Vh:=Has P w K mg base n "too_near" ["one","other","apart"] (BY K 3 Ex)
end
section
variable {P:Program} {w:World} {K:PySem.W.Frag} {mg:Str->Option Value} {base:Heap} {n m:Nat} {f:Addr} {fd:FuncData}
theorem Kk:Aa ["_law_tape_here","_law_many","_law_once","_law_found"] ["_law_tape_here","_law_many"] (AU FN):=D0
theorem Rs (F:DE K "_law_draw" "_law_draw" FN f fd):
 A8 P w K mg base DB (n+1) f fd ["_law_tape_here","_law_many"] (BY K 2 BU):=by
 have nd:=Kk.nd
 refine F.ok Kk (λvs H Q E h=> ?_) (λcdv A outer s H vs Q E hr h=> ?_)
 ·obtain ⟨T,M,xs,AQ,_,_,r,hl,_⟩:=h
  rw [r.length,hl] <;> rfl
 obtain ⟨T,M,xs,AQ,va,_,r,hl,hF,hQ⟩:=h
 unfold BU at hF
 split at hF <;> first | exact hF.elim|skip
 rename_i m
 obtain ⟨⟨m0,m1⟩,hF⟩:=hF
 cases r with
 | cons r rr=>
 cases rr with
 | cons r2 rr=>
 cases rr
 cases r2
 cases r with
 | tape tp=>
 rename_i p
 obtain ⟨d,x,hp,d0,x0,x1⟩:=va.tp p tp
 refine ⟨_,(B6 (XI (NF g6 (MN FE (pv 0) BG (λ_ _=>rfl)) BG (Cf _)) (B6 (Fg (i:=3) nd rfl (Or.inl rfl) (CL GO (MN FE (pv 0) BG (λ_ _=>rfl)) (pv 1)))
  (B6 (SH (CL au (MN FE (pv 0) BG (λ_ _=>rfl)) (pv 1)) (WB (pv 0) BG Op))
  (FH (OY (pv 3))))) NE)
  (B6 (SH (CL GO (CL JN (CL Hq (MN FE (pv 0) BG (λ_ _=>rfl)) BG) BG) BG) (WB (pv 0) BG Op))
  (B6 (Fg (i:=2) nd rfl (Or.inl rfl) (CL GO (CL Hq (MN FE (pv 0) BG (λ_ _=>rfl)) (CL JN (CL GO (MN FE (pv 0) BG (λ_ _=>rfl)) BG) BG)) BG))
  (FH (OY (CL GO (CL GO (CL Hq (pv 2) (CL JN (CL GO (pv 2) BG) BG)) BG) (pv 1))))))), ?_⟩
 have fin:∀(r d' x':Int),0<=r->r<m->0<=d'->0<=x'->x'<2147483647->Q (.int r) (upd H p (.lst [.int d', .int x'])):=λr d' x' r0 r1 a b c=>
  hQ _ (.int r) T _ (cV va.tp tp a b c) (.int r) (hF r r0 r1)
 refine ⟨_,rfl,p,_,_,_,rfl,rfl,F4.of hp,rfl,_,_,rfl,rfl,_,rfl, ?_⟩
 refine ma (λc=> ?_) (λc=> ?_)
 ·refine ⟨_,rfl,p,_,_,_,rfl,rfl,F4.of hp,rfl,_,rfl,_,_,rfl,rfl,m0, ?_⟩
  refine ⟨_,rfl,p,_,_,_,rfl,rfl,F4.of hp,rfl,_,rfl,_,_,rfl,rfl,⟨m0,by omega⟩, ?_⟩
  refine ⟨_,rfl,p,_,_,_,rfl,rfl,hp,rfl, ?_⟩
  exact ⟨_,rfl,fin _ _ _ (Int.emod_nonneg _ (by omega)) (Int.emod_lt_of_pos _ m0) (Int.ediv_nonneg d0 (by omega)) x0 x1⟩
 ·refine ⟨_,rfl,p,_,_,_,rfl,rfl,F4.of hp,rfl,_,_,rfl,rfl, .inl (.inr ⟨by decide,by decide⟩),_,_,rfl,rfl,_,_,rfl,rfl,(show (0:Int)<2147483647 by decide), ?_⟩
  refine ⟨_,rfl,p,_,_,_,rfl,rfl,hp,rfl, ?_⟩
  have y0:0<=(x*48271+12345) % 2147483647:=Int.emod_nonneg _ (by decide)
  have y1:(x*48271+12345) % 2147483647<2147483647:=Int.emod_lt_of_pos _ (by decide)
  have lC:upd H p (.lst ([V.int d,V.int x].set (Int.toNat 1) (V.int ((x*48271+12345) % 2147483647)))) p=some (.lst [.int d, .int ((x*48271+12345) % 2147483647)]):=Aj
  have z0:0<=(x*48271+12345) % 2147483647*((x*48271+12345) % 2147483647 % 1009+3) % 2147483629:=Int.emod_nonneg _ (by decide)
  have z1:(x*48271+12345) % 2147483647*((x*48271+12345) % 2147483647 % 1009+3) % 2147483629<2147483629:=Int.emod_lt_of_pos _ (by decide)
  refine ⟨_,rfl,p,_,_,_,rfl,rfl,F4.of lC,rfl,_,rfl,p,_,_,_,rfl,rfl,F4.of lC,rfl,_,_,rfl,rfl,(show (0:Int)<1009 by decide),_,_,rfl,rfl,_,_,rfl,rfl, .inl (.inl (Ou y0 y1)),_,_,rfl,rfl,(show (0:Int)<2147483629 by decide), ?_⟩
  refine ⟨_,rfl,_,rfl,_,_,rfl,rfl,(show (0:Int)<997 by decide),_,_,rfl,rfl,_,_,rfl,rfl, .inl (.inl (Ou z0 (Int.lt_trans z1 (by decide)))),_,_,rfl,rfl,(show (0:Int)<998244353 by decide),_,rfl,_,_,rfl,rfl,m0, ?_⟩
  exact fin _ _ _ (Int.emod_nonneg _ (by omega)) (Int.emod_lt_of_pos _ m0) d0 y0 y1
theorem IP:Aa ["_law_tape_here","_law_some"] ["_law_tape_here"] (AU Ed):=D0
theorem Pr (F:DE K "_law_apart" "_law_apart" Ed f fd) (Af:Cw P w K mg base n):
 A8 P w K mg base DB (n+1) f fd ["_law_tape_here"] (BY K 1 C5):=by
 have nd:=IP.nd
 exact Ae F IP rfl λ_ _ _ _ _ _ hr=>(AM (C0 1 nd (Cq (BP (Bo (AZ (Al AH AH)) (Bo (AZ (Al AH AH)) (Ep (AZ (Al AH AH)) (AZ (Al AH AH)) (AZ (Al AH AH)))))))) (AR (AY (AZ (Al (AW (AJ 1) (AK Af hr rfl (Al (AJ 0) AH))) (AW (AJ 1) (AK Af hr rfl (Al (AJ 0) AH))))))))
theorem Kr:Aa ["_law_top","_law_bottom","_law_sign","_law_one","_law_other"] ["_law_top","_law_bottom"] (AU FQ):=D0
theorem Rv (F:DE K "_law_part" "_law_part" FQ f fd) (EZ:mg "abs" =none) (CA:mg "int" =none):
 A8 P w K mg base DB (n+1) f fd ["_law_top","_law_bottom"] (BY K 2 BB):=by
 have nd:=Kr.nd
 exact Ae F Kr rfl λ_ _ _ _ _ _ hr=>(AM (L1 (i:=3) (j:=4) rfl nd rfl rfl (by decide) rfl rfl (Al (Aw Ly rfl EZ boot_abs (Bw (AJ 0))) (Aw Ly rfl EZ boot_abs (Bw (AJ 1)))) rfl) (AM (K4 PassesOwn.never (F6 Uv (AJ 4) AH) (AR (L1 (i:=3) (j:=4) rfl nd rfl rfl (by decide) rfl rfl (Al (AJ 4) (Ad WK (AJ 3) (AJ 4))) rfl))) (AM (C0 2 nd (Ad Cz AH (Ad BQ AH (BS JP rfl CA boot_int (Bw (EC HZ (AJ 1) AH (Cf _))))))) (AR (AY (AZ (Al (Ad FW (Ad BQ (AJ 2) (AJ 0)) (AJ 3)) (Ad FW (Ad BQ (AJ 2) (AJ 1)) (AJ 3)))))))))
theorem MQ:Aa ["_law_one","_law_other"] ["_law_one","_law_other"] (AU GR):=D0
theorem UU (F:DE K "_law_sum" "_law_sum" GR f fd) (Bp:Di P w K mg base n):
 A8 P w K mg base DB (n+1) f fd ["_law_one","_law_other"] (BY K 2 Bq):=by
 have nd:=MQ.nd
 exact Ae F MQ rfl λ_ _ _ _ _ _ hr=>(AR (AY (AK Bp hr rfl (Al (Ad Ay (Ad BQ (AW (AJ 0) AH) (AW (AJ 1) AH)) (Ad BQ (AW (AJ 1) AH) (AW (AJ 0) AH))) (Ad BQ (AW (AJ 0) AH) (AW (AJ 1) AH))))))
theorem IR:Aa ["_law_plan_here","_law_late","_law_by"] ["_law_plan_here","_law_late","_law_by"] (AU Ef):=D0
theorem Pt (F:DE K "_law_moved" "_law_moved" Ef f fd) (Bl:Db P w K mg base n) (A7:mg "range" =none) (As:mg "tuple" =none):
 A8 P w K mg base DB (n+1) f fd ["_law_plan_here","_law_late","_law_by"] (BY K 3 BC):=by
 have nd:=IR.nd
 have nd0:(["_law_one","_law_late","_law_by"] :List Str).Nodup:=by decide +kernel
 have nd1:(["_law_k","_law_one","_law_by"] :List Str).Nodup:=by decide +kernel
 exact Ae F IR rfl λ_ _ _ _ _ _ hr=>(AR (AY (BS DR rfl As boot_tuple (Bw (Cq (cA rfl (F0 (AJ 0)) (dW (own:=1) (ix:= [1,2]) (N:= ["_law_one","_law_late" ,"_law_by" ]) "_law_one" rfl rfl (λ_ _=>rfl) (λ_=>rfl) rfl rfl rfl rfl rfl (λ_ _ _ _ _ _=>(Xb (i:=0) nd0 rfl (Or.inr rfl) (by decide))) (λ_ _ _ _ _ _=>CC) (λ_ _ _ _ _ _=>(Ad Ay (AZ (Bw (AK Bl hr rfl (Al (AW (AJ 0) AH) (AJ 1))))) (BS DR rfl As boot_tuple (Bw (Cq (DA rfl (MW rfl A7 (Bw AH)) (DG (own:=1) (ix:= [0,2]) (N:= ["_law_k","_law_one" ,"_law_by" ]) rfl rfl rfl rfl rfl rfl (λ_ _ _ _ _ _=>(PF 0 nd1)) (λ_ _ _ _ _ _=>CC) (λ_ _ _ _ _ _=>(AK Bl hr rfl (Al (AW (AJ 1) (Ad Ay (AJ 0) AH)) (AW (AJ 2) (AJ 0)))))))))))))))))))
theorem MP:Aa ["_law_one","_law_other"] ["_law_one","_law_other"] (AU GQ):=D0
theorem UT (F:DE K "_law_off" "_law_off" GQ f fd) (Bp:Di P w K mg base n):
 A8 P w K mg base DB (n+1) f fd ["_law_one","_law_other"] (BY K 2 BN):=by
 have nd:=MP.nd
 exact Ae F MP rfl λ_ _ _ _ _ _ hr=>(AR (AY (AK Bp hr rfl (Al (Ad Cz (Ad BQ (AW (AJ 0) AH) (AW (AJ 1) AH)) (Ad BQ (AW (AJ 1) AH) (AW (AJ 0) AH))) (Ad BQ (AW (AJ 0) AH) (AW (AJ 1) AH))))))
theorem IS:Aa ["_law_tape_here","_law_kind"] ["_law_tape_here"] (AU Eg):=D0
theorem Pu (F:DE K "_law_place" "_law_place" Eg f fd) (Af:Cw P w K mg base n) (Bp:Di P w K mg base n):
 A8 P w K mg base DB (n+1) f fd ["_law_tape_here"] (BY K 1 A9):=by
 have nd:=IS.nd
 exact Ae F IS rfl λ_ _ _ _ _ _ hr=>(AM (C0 1 nd (AK Af hr rfl (Al (AJ 0) AH))) (AM (BF (F6 HZ (AJ 1) AH) (AR (AY (AZ (Al (Ad Cz (AK Af hr rfl (Al (AJ 0) AH)) AH) AH)))) A4) (AM (BF (F6 (Dy hr) (AJ 1) AH) (AR (AY (AK Bp hr rfl (Al (Ad Cz (AK Af hr rfl (Al (AJ 0) AH)) AH) AH)))) A4) (AR (AY (AK Bp hr rfl (Al (Ad Cz (AK Af hr rfl (Al (AJ 0) AH)) AH) AH)))))))
theorem Kx:Aa ["_law_tape_here","_law_way"] ["_law_tape_here"] (AU FS):=D0
theorem Rz (F:DE K "_law_span" "_law_span" FS f fd) (Af:Cw P w K mg base n) (Bp:Di P w K mg base n):
 A8 P w K mg base DB (n+1) f fd ["_law_tape_here"] (BY K 1 CI):=by
 have nd:=Kx.nd
 exact Ae F Kx rfl λ_ _ _ _ _ _ hr=>(AM (C0 1 nd (AK Af hr rfl (Al (AJ 0) AH))) (AM (BF (F6 HZ (AJ 1) AH) (AR (AY (AZ (Al (Ad Ay AH (AK Af hr rfl (Al (AJ 0) AH))) AH)))) A4) (AR (AY (AK Bp hr rfl (Al (Ad Ay AH (AK Af hr rfl (Al (AJ 0) AH))) (Ad Cz (AJ 1) AH)))))))
theorem Ku:Aa ["_law_tape_here","_law_many","_law_m","_law_spot_here","_law_corners","_law_way"] ["_law_tape_here"] (AU FR):=D0
theorem Rx (F:DE K "_law_plan" "_law_plan" FR f fd) (Af:Cw P w K mg base n) (Bh:J5 P w K mg base n) (GA:MH P w K mg base n) (Bl:Db P w K mg base n) (BZ:mg "len" =none) (As:mg "tuple" =none):
 A8 P w K mg base DB (n+1) f fd ["_law_tape_here"] (BY K 1 Bx):=by
 have nd:=Ku.nd
 exact Ae F Ku rfl λ_ _ _ _ _ _ hr=>(AM (C0 1 nd (Ad Ay AH (AK Af hr rfl (Al (AJ 0) AH)))) (AM (BF (F6 (Dy hr) (AK Af hr rfl (Al (AJ 0) AH)) AH) (AR (C0 1 nd (AW (Cq (BP (Bo AH (Ep AH AH AH)))) (AK Af hr rfl (Al (AJ 0) AH))))) A4) (AM (C0 2 nd (AZ (Al (AK Af hr rfl (Al (AJ 0) AH)) AH))) (AM (C0 3 nd (Cq (BP (Ep (AK Bh hr rfl (Bw (AJ 0))) (AK Bh hr rfl (Bw (AJ 0))) (AK Bh hr rfl (Bw (AJ 0))))))) (AM (EV (i:=4) nd rfl (Or.inl rfl) (BP (Bw (AZ (Bo (AJ 2) (Ep (AW (AJ 3) AH) (AW (AJ 3) AH) (AW (AJ 3) AH))))))) (AM (K4 PassesOwn.never (F6 HZ (Aw EB rfl BZ PySem.boot_len (Bw (AJ 4))) (AJ 1)) (AM (C0 2 nd (AK Bl hr rfl (Al (AJ 2) (AK GA hr rfl (Bw (AJ 0)))))) (AM (C0 5 nd (AK Af hr rfl (Al (AJ 0) AH))) (AM (BF (F6 Uv (AJ 5) AH) (AR (C0 3 nd (Cq (BP (Ep (AK Bh hr rfl (Bw (AJ 0))) (AK Bh hr rfl (Bw (AJ 0))) (AK Bh hr rfl (Bw (AJ 0)))))))) (AR (BF (F6 Uv (AJ 5) AH) (AR (C0 3 nd (Ad Ay (Ad Ay (Gw (AJ 3) ZF (ZG (Ad Cz (AJ 5) AH))) (Cq (BP (Bw (AK Bh hr rfl (Bw (AJ 0))))))) (Gw (AJ 3) (ZG (AJ 5)) ZF)))) A4))) (AR (DY (i:=4) PySem.F.slot_list_append PySem.F.type_list_append Cd (Bw (AZ (Bo (AJ 2) (Ep (AW (AJ 3) AH) (AW (AJ 3) AH) (AW (AJ 3) AH))))))))))) (AR (AY (BS DR rfl As boot_tuple (Bw (AJ 4)))))))))))
theorem Gu:Aa ["_law_one","_law_other"] ["_law_one","_law_other"] (AU Dv):=D0
theorem Mt (F:DE K "_law_product" "_law_product" Dv f fd) (Bp:Di P w K mg base n):
 A8 P w K mg base DB (n+1) f fd ["_law_one","_law_other"] (BY K 2 BI):=by
 have nd:=Gu.nd
 exact Ae F Gu rfl λ_ _ _ _ _ _ hr=>(AR (AY (AK Bp hr rfl (Al (Ad BQ (AW (AJ 0) AH) (AW (AJ 1) AH)) (Ad BQ (AW (AJ 0) AH) (AW (AJ 1) AH))))))
theorem HU:Aa ["_law_tape_here","_law_plan_here","_law_apart_here","_law_way","_law_by","_law_side","_law_other","_law_k","_law_spot_here"] ["_law_tape_here","_law_plan_here","_law_apart_here"] (AU EG):=D0
theorem OQ (F:DE K "_law_beside" "_law_beside" EG f fd) (Af:Cw P w K mg base n) (Df:J4 P w K mg base n) (BR:DZ P w K mg base n) (Bh:J5 P w K mg base n) (D3:HI P w K mg base n) (BW:Cy P w K mg base n) (GA:MH P w K mg base n) (Bl:Db P w K mg base n) (CA:mg "int" =none) (BZ:mg "len" =none) (JV:mg "reversed" =none) (As:mg "tuple" =none) (DC:mg "zip" =none):
 A8 P w K mg base DB (n+1) f fd ["_law_tape_here","_law_plan_here","_law_apart_here"] (BY K 3 DJ):=by
 have nd:=HU.nd
 have nd0:(["_law_one","_law_other"] :List Str).Nodup:=by decide +kernel
 exact Ae F HU rfl λ_ _ _ _ _ _ hr=>(AM (C0 3 nd (AK Af hr rfl (Al (AJ 0) AH))) (AM (EV (i:=4) nd rfl (Or.inl rfl) (BP (Ep (AZ (Al AH AH)) (AZ (Al AH AH)) (AZ (Al AH AH))))) (AM (C0 5 nd (AK Af hr rfl (Al (AJ 0) AH))) (AM (Sx (i:=4) (AJ 5) (AW (AJ 2) (BS JP rfl CA boot_int (Bw (EC (Dy hr) (AJ 5) AH (Cf _)))))) (AM (BF (F6 (Dy hr) (AJ 3) AH) (AR (Sx (i:=4) (AJ 5) (Om (AK BW hr rfl (Al (AW (AJ 4) (AJ 5)) (AW (Cq (BP (Ep (AZ (Al AH AH)) (AZ (Al (CP AH) AH)) (AZ (Al (CP AH) AH))))) (AK Af hr rfl (Al (AJ 0) AH)))))))) A4) (AM (BF (F6 HZ (AJ 3) AH) (AR (AY (AK Df hr rfl (Ep (AJ 1) (AZ (Al AH AH)) (AJ 4))))) A4) (AM (BF (F6 (Dy hr) (AJ 3) AH) (AR (AY (AK Df hr rfl (Ep (AJ 1) (AW (Cq (BP (Al (AK GA hr rfl (Bw (AJ 0))) (AZ (Al AH AH))))) (AK Af hr rfl (Al (AJ 0) AH))) (AJ 4))))) A4) (AM (BF (F6 (Dy hr) (AJ 3) AH) (AR (AY (BS DR rfl As boot_tuple (Bw (Cq (DA rfl (n6 rfl DC rfl JV (AJ 1) (AJ 1)) (DG (own:=2) (ix:= []) (N:= ["_law_one","_law_other" ]) rfl rfl rfl rfl rfl rfl (λ_ _ _ _ _ _=>(So (n:=2) rfl (EQ (PF 0 nd0) (EQ (PF 1 nd0) NO)))) (λ_ _ _ _ _ _=>CC) (λ_ _ _ _ _ _=>(Ad Ay (AZ (Bw (AW (AJ 0) AH))) (Gw (AJ 1) (ZG AH) ZF)))))))))) A4) (AM (BF (F6 (Dy hr) (AJ 3) AH) (AM (C0 6 nd (AK D3 hr rfl (Bw (AJ 0)))) (AR (AY (AK Df hr rfl (Ep (AJ 6) (AK BR hr rfl (Al (AW (AW (AJ 1) (CP AH)) AH) (AW (AW (AJ 6) AH) AH))) (Cq (BP (Ep (AZ (Al AH AH)) (AZ (Al AH AH)) (AZ (Al AH AH)))))))))) A4) (AM (BF (F6 (Dy hr) (AJ 3) AH) (AM (C0 7 nd (AK Af hr rfl (Al (AJ 0) (Aw EB rfl BZ PySem.boot_len (Bw (AJ 1)))))) (AM (C0 8 nd (AZ (Ep (AK Bh hr rfl (Bw (AJ 0))) (AK Bh hr rfl (Bw (AJ 0))) (AK Bh hr rfl (Bw (AJ 0)))))) (AR (AY (Ad Ay (Ad Ay (Gw (AJ 1) ZF (ZG (AJ 7))) (AZ (Bw (Ad Ay (Gw (AW (AJ 1) (AJ 7)) ZF (ZG AH)) (AJ 8))))) (Gw (AJ 1) (ZG (Ad Ay (AJ 7) AH)) ZF)))))) A4) (AM (BF (F6 (Dy hr) (AJ 3) AH) (AM (C0 8 nd (Gw (AW (AJ 1) (AK Af hr rfl (Al (AJ 0) (Aw EB rfl BZ PySem.boot_len (Bw (AJ 1)))))) (ZG AH) ZF)) (AR (AY (AZ (Al (Ad Ay (AZ (Bw (AW (AW (AJ 1) AH) AH))) (AJ 8)) (Ad Ay (AZ (Bw (AK Bl hr rfl (Al (AW (AW (AJ 1) (CP AH)) AH) (AK GA hr rfl (Bw (AJ 0))))))) (AJ 8))))))) A4) (AR (AY (AK D3 hr rfl (Bw (AJ 0))))))))))))))))
theorem Kz:Aa ["_law_script","_law_k","_law_cell","_law_digits"] ["_law_script","_law_k"] (AU FU):=D0
theorem R3 (F:DE K "_law_tape" "_law_tape" FU f fd) (EZ:mg "abs" =none) (CA:mg "int" =none) (BZ:mg "len" =none):
 A8 P w K mg base DB (n+1) f fd ["_law_script","_law_k"] (BY K 2 Nx):=by
 have nd:=Kz.nd
 refine F.ok Kz (λvs H Q E h=> ?_) (λcdv A outer s H vs Q E hr h=> ?_)
 ·obtain ⟨T,M,xs,AQ,_,_,r,hl,_⟩:=h
  rw [r.length,hl] <;> rfl
 obtain ⟨T,M,xs,AQ,va,_,r,hl,hF,hQ⟩:=h
 unfold Nx at hF
 split at hF <;> first | exact hF.elim|skip
 rename_i ns k
 obtain ⟨⟨k0,k1⟩,hF⟩:=hF
 cases r with
 | cons r rr=>
 cases rr with
 | cons r2 rr=>
 cases rr
 cases r2
 obtain ⟨a,rfl,hS⟩:=b6 r
 refine ⟨_,(B6 (Fg (i:=2) nd rfl (Or.inl rfl) BG)
  (B6 (XI (NF g9 (pv 1) (KI Jy rfl BZ PySem.boot_len (CN (pv 0) Fe)) (Cf _)) (FH (Fg (i:=2) nd rfl (Or.inl rfl) (MN FE (pv 0) (pv 1) (λ_ _=>rfl)))) NE)
  (B6 (Fg (i:=3) nd rfl (Or.inl rfl) (CL Hq (KI N7 rfl EZ boot_abs (CN (pv 2) Fe)) (Hr QQ rfl CA PyProof.Rows.boot_int (CN (XH gz (KI N7 rfl EZ boot_abs (CN (pv 2) Fe)) (CL aw BG BG) (Cf _)) Fe))))
  (FH (OY (bD (CN (pv 3) (CN (CL GO (CL Hq (CL GO (CL JN (CL JN (pv 2) (CL Hq BG (pv 1))) BG) BG) BG) BG) Fe)))))))), ?_⟩
 have hl:(ns.map V.int).length=ns.length:=List.length_map _
 have fin:∀(c:Int) (p:Addr),H p=none->Q (.ref p) (upd H p (.lst [.int ((if c<0 then -c else c)*(if decide ((10:Int)^18<=(if c<0 then -c else c)) then 1 else 0)), .int ((c+7919*k+1) % 2147483647*48271 % 2147483647)])):=λc p hp=>
  hQ _ .tape (λb=>T b\/b=p) _ (cU va.tp hp (Int.mul_nonneg (by split <;> omega) (vj _)) (Int.emod_nonneg _ (by decide)) (Int.emod_lt_of_pos _ (by decide))) (.tape (.inr rfl)) hF
 refine ⟨_,rfl,_,rfl,a,_,rfl, .inl hS,_,_,rfl,rfl,_,rfl, ?_⟩
 refine ma (λc=> ?_) (λc=> ?_)
 ·have c':k<(((ns.map V.int).length:Nat):Int):=of_decide_eq_true c
  rw [hl] at c'
  have hk:k.toNat<ns.length:=by omega
  have hv:Hk (ns.map V.int) k=some (.int ns[k.toNat]):=by
   have q:Hk (ns.map V.int) ((k.toNat:Nat):Int)=some (.int ns[k.toNat]):=Cj (by rw [List.getElem?_map,List.getElem?_eq_getElem hk] <;> rfl)
   rwa [show ((k.toNat:Nat):Int)=k by omega] at q
  refine ⟨_,rfl,_,rfl,a,_,_,_,rfl,rfl,hS,hv, ?_⟩
  refine ⟨_,rfl,_,rfl,_,rfl,_,rfl,_,_,rfl,rfl,⟨by decide,by decide,by decide⟩,_,_,rfl,rfl, .inr ⟨_,rfl,_,_,rfl,rfl, .inl (.inr (sW _)), ?_⟩⟩
  exact ⟨_,rfl,_,rfl,_,rfl,_,_,rfl,rfl, .inl (.inl ⟨by decide,by decide⟩),_,_,rfl,rfl,_,_,rfl,rfl,_,_,rfl,rfl,(show (0:Int)<2147483647 by decide),_,_,rfl,rfl, .inl (.inr ⟨by decide,by decide⟩),_,_,rfl,rfl,(show (0:Int)<2147483647 by decide),(show 2<=sizeLine by decide),λp hp=>fin _ p hp⟩
 ·refine ⟨_,rfl,_,rfl,_,rfl,_,rfl,_,_,rfl,rfl,⟨by decide,by decide,by decide⟩,_,_,rfl,rfl, .inr ⟨_,rfl,_,_,rfl,rfl, .inl (.inr (sW _)), ?_⟩⟩
  exact ⟨_,rfl,_,rfl,_,rfl,_,_,rfl,rfl, .inl (.inl ⟨by decide,by decide⟩),_,_,rfl,rfl,_,_,rfl,rfl,_,_,rfl,rfl,(show (0:Int)<2147483647 by decide),_,_,rfl,rfl, .inl (.inr ⟨by decide,by decide⟩),_,_,rfl,rfl,(show (0:Int)<2147483647 by decide),(show 2<=sizeLine by decide),λp hp=>fin 0 p hp⟩
theorem Kh:Aa ["_law_script","_law_k","_law_tape_here","_law_apart_here","_law_one","_law_other"] ["_law_script","_law_k"] (AU FM):=D0
theorem Rr (F:DE K "_law_case" "_law_case" FM f fd) (G8:J3 P w K mg base n) (RF:Pm P w K mg base n) (Af:Cw P w K mg base n) (D3:HI P w K mg base n) (VA:UB P w K mg base n):
 A8 P w K mg base DB (n+1) f fd ["_law_script","_law_k"] (BY K 2 EL):=by
 have nd:=Kh.nd
 exact Ae F Kh rfl λ_ _ _ _ _ _ hr=>(AM (C0 2 nd (AK VA hr rfl (Al (AJ 0) (AJ 1)))) (AM (C0 3 nd (AK G8 hr rfl (Bw (AJ 2)))) (AM (C0 4 nd (AK D3 hr rfl (Bw (AJ 2)))) (AM (C0 5 nd (AK RF hr rfl (Ep (AJ 2) (AJ 4) (AJ 3)))) (AM (BF (F6 (Dy hr) (AK Af hr rfl (Al (AJ 2) AH)) AH) (AR (L1 (i:=4) (j:=5) rfl nd rfl rfl (by decide) rfl rfl (Al (AJ 5) (AJ 4)) rfl)) A4) (AR (AY (AZ (Bo (AJ 2) (Ep (AJ 4) (AJ 5) (AJ 3)))))))))))
theorem Ko:Aa ["_law_one","_law_other"] ["_law_one","_law_other"] (AU FO):=D0
theorem Rt (F:DE K "_law_less" "_law_less" FO f fd):
 A8 P w K mg base DB (n+1) f fd ["_law_one","_law_other"] (BY K 2 Am):=by
 have nd:=Ko.nd
 exact Ae F Ko rfl λ_ _ _ _ _ _ hr=>(AR (AY (EC HZ (Ad BQ (AW (AJ 0) AH) (AW (AJ 1) AH)) (Ad BQ (AW (AJ 1) AH) (AW (AJ 0) AH)) (Cf _))))
theorem IT:Aa ["_law_one","_law_other"] ["_law_one","_law_other"] (AU Eh):=D0
theorem Pw (F:DE K "_law_ratio" "_law_ratio" Eh f fd) (Bp:Di P w K mg base n):
 A8 P w K mg base DB (n+1) f fd ["_law_one","_law_other"] (BY K 2 Bs):=by
 have nd:=IT.nd
 exact Ae F IT rfl λ_ _ _ _ _ _ hr=>(AR (AY (AK Bp hr rfl (Al (Ad BQ (AW (AJ 0) AH) (AW (AJ 1) AH)) (Ad BQ (AW (AJ 0) AH) (AW (AJ 1) AH))))))
theorem Ky:Aa ["_law_plan_here","_law_m","_law_one","_law_other","_law_share_here","_law_gone"] ["_law_plan_here","_law_m"] (AU FT):=D0
theorem R0 (F:DE K "_law_spot" "_law_spot" FT f fd) (BA:FD P w K mg base n) (BR:DZ P w K mg base n) (BW:Cy P w K mg base n) (Cr:Ec P w K mg base n) (Bl:Db P w K mg base n) (A7:mg "range" =none) (As:mg "tuple" =none) (DC:mg "zip" =none):
 A8 P w K mg base DB (n+1) f fd ["_law_plan_here","_law_m"] (BY K 2 Ct):=by
 have nd:=Ky.nd
 have nd0:(["_law_k","_law_share_here","_law_other","_law_one"] :List Str).Nodup:=by decide +kernel
 have nd1:(["_law_k","_law_one","_law_gone"] :List Str).Nodup:=by decide +kernel
 exact Ae F Ky rfl λ_ _ _ _ _ _ hr=>(AM (BF (JS (MY (Ba (AK BA hr rfl (Al (AJ 1) (AW (AW (AJ 0) AH) AH)))) (He (Ba (AK BA hr rfl (Al (AW (AW (AJ 0) (CP AH)) AH) (AJ 1))))))) (AR (AY B8)) A4) (AM (CS PassesOwn.never rfl (Yt rfl DC (Al (AJ 0) (Gw (AJ 0) (ZG AH) ZF))) (Dx (n:=2) rfl (An (GX (i:=2) nd rfl (Or.inr rfl)) (An (GX (i:=3) nd rfl (Or.inr rfl)) Co))) (AR (BF (Fh (Ba (AK BA hr rfl (Al (AW (AJ 3) AH) (AJ 1))))) (AM (Ha (i:=4) nd rfl (Or.inr rfl) (AK Cr hr rfl (Al (AK BR hr rfl (Al (AJ 1) (AW (AJ 2) AH))) (AK BR hr rfl (Al (AW (AJ 3) AH) (AW (AJ 2) AH)))))) (AM (Ha (i:=5) nd rfl (Or.inr rfl) (Cq (DA rfl (F0 (AZ (Ep AH AH AH))) (DG (own:=1) (ix:= [4,3,2]) (N:= ["_law_k","_law_share_here" ,"_law_other" ,"_law_one" ]) rfl rfl rfl rfl rfl rfl (λ_ _ _ _ _ _=>(PF 0 nd0)) (λ_ _ _ _ _ _=>CC) (λ_ _ _ _ _ _=>(AK BW hr rfl (Al (AJ 1) (AK BR hr rfl (Al (AW (AJ 2) (AJ 0)) (AW (AJ 3) (AJ 0))))))))))) (AR (AY (BS DR rfl As boot_tuple (Bw (Cq (DA rfl (MW rfl A7 (Bw AH)) (DG (own:=1) (ix:= [2,5]) (N:= ["_law_k","_law_one" ,"_law_gone" ]) rfl rfl rfl rfl rfl rfl (λ_ _ _ _ _ _=>(PF 0 nd1)) (λ_ _ _ _ _ _=>CC) (λ_ _ _ _ _ _=>(AK Bl hr rfl (Al (AW (AJ 1) (Ad Ay (AJ 0) AH)) (AW (AJ 2) (AJ 0)))))))))))))) A4))) (AR (AY B8))))
theorem MO:Aa ["_law_one","_law_other","_law_apart_here","_law_m","_law_end","_law_found","_law_k","_law_here","_law_there","_law_off_here"] ["_law_one","_law_other","_law_apart_here","_law_m","_law_end"] (AU GP):=D0
theorem US (F:DE K "_law_gap" "_law_gap" GP f fd) (BA:FD P w K mg base n) (BR:DZ P w K mg base n) (Cr:Ec P w K mg base n) (Es:MI P w K mg base n) (EZ:mg "abs" =none) (CA:mg "int" =none) (A7:mg "range" =none):
 A8 P w K mg base DB (n+1) f fd ["_law_one","_law_other","_law_apart_here","_law_m","_law_end"] (BY K 5 Et):=by
 have nd:=MO.nd
 exact Ae F MO rfl λ_ _ _ _ _ _ hr=>(AM (BF (JS (MY (Ba (AK BA hr rfl (Al (AJ 3) (AW (AW (AJ 0) AH) AH)))) (He (Ba (AK BA hr rfl (Al (AJ 3) (AW (AW (AJ 1) AH) AH))))))) (AR (AY B8)) A4) (AM (BF (JS (Hd (Fh (O1 (AJ 4))) (Gd (JS (MY (Fh (Ba (AK BA hr rfl (Al (AJ 3) (AW (AW (AJ 0) (CP AH)) AH))))) (He (Fh (Ba (AK BA hr rfl (Al (AJ 3) (AW (AW (AJ 1) (CP AH)) AH))))))))))) (AR (AY B8)) A4) (AM (L1 (i:=7) (j:=8) rfl nd rfl rfl (by decide) rfl rfl (Al (AK Es hr rfl (Al (AJ 0) (AJ 3))) (AK Es hr rfl (Al (AJ 1) (AJ 3)))) rfl) (AM (BF (JS (MY (F6 Ov (AJ 7) B8) (He (F6 Ov (AJ 8) B8)))) (AR (AY B8)) A4) (AM (C0 5 nd (AZ (Al AH AH))) (AM (CS PassesOwn.never rfl (MW rfl A7 (Bw AH)) (G2 6 nd) (AM (C0 9 nd (AK Cr hr rfl (Al (AK BR hr rfl (Al (AW (AJ 7) (AJ 6)) (AW (AJ 8) (AJ 6)))) (AW (AJ 2) (BS JP rfl CA boot_int (Bw (EC (Dy hr) (AJ 6) AH (Cf _)))))))) (AR (BF (Ba (AK BA hr rfl (Al (AJ 5) (AZ (Al (Aw Ly rfl EZ boot_abs (Bw (AW (AJ 9) AH))) (AW (AJ 9) AH)))))) (AR (C0 5 nd (AZ (Al (Aw Ly rfl EZ boot_abs (Bw (AW (AJ 9) AH))) (AW (AJ 9) AH))))) A4)))) (AR (AY (AJ 5)))))))))
theorem Gs:Aa ["_law_one","_law_other","_law_apart_here","_law_m","_law_gap_here"] ["_law_one","_law_other","_law_apart_here","_law_m"] (AU Du):=D0
theorem Ms (F:DE K "_law_is_near" "_law_is_near" Du f fd) (Xq:Vc P w K mg base n):
 A8 P w K mg base DB (n+1) f fd ["_law_one","_law_other","_law_apart_here","_law_m"] (BY K 4 CD):=by
 have nd:=Gs.nd
 exact Ae F Gs rfl λ_ _ _ _ _ _ hr=>(AM (C0 4 nd (AK Xq hr rfl (Bo (AJ 0) (Bo (AJ 1) (Ep (AJ 2) (AJ 3) Ur))))) (AR (AY (Sd (EC NP (AJ 4) B8 (Cf _)) (WI (EC HZ (AW (AJ 4) AH) (AW (AJ 4) AH) (Cf _)))))))
theorem Kq:Aa ["_law_one","_law_other","_law_apart_here","_law_m","_law_offs_here","_law_here","_law_there"] ["_law_one","_law_other","_law_apart_here","_law_m"] (AU FP):=D0
theorem Ru (F:DE K "_law_offs" "_law_offs" FP f fd) (BR:DZ P w K mg base n) (Cr:Ec P w K mg base n) (Es:MI P w K mg base n) (CA:mg "int" =none) (A7:mg "range" =none):
 A8 P w K mg base DB (n+1) f fd ["_law_one","_law_other","_law_apart_here","_law_m"] (BY K 4 Dg):=by
 have nd:=Kq.nd
 have nd0:(["_law_k","_law_apart_here","_law_here","_law_there"] :List Str).Nodup:=by decide +kernel
 have nd1:(["_law_off_here"] :List Str).Nodup:=by decide +kernel
 exact Ae F Kq rfl λ_ _ _ _ _ _ hr=>(AM (Oz (AZ (Al (AK Es hr rfl (Al (AJ 0) (AJ 3))) (AK Es hr rfl (Al (AJ 1) (AJ 3))))) (Dx (n:=2) rfl (An (GX (i:=5) nd rfl (Or.inr rfl)) (An (GX (i:=6) nd rfl (Or.inr rfl)) Co)))) (AM (O0 (i:=4) rfl nd rfl (Or.inl rfl) (MW rfl A7 (Bw AH)) (DG (own:=1) (ix:= [2,5,6]) (N:= ["_law_k","_law_apart_here" ,"_law_here" ,"_law_there" ]) rfl rfl rfl rfl rfl rfl (λ_ _ _ _ _ _=>(PF 0 nd0)) (λ_ _ _ _ _ _=>CC) (λ_ _ _ _ _ _=>(AK Cr hr rfl (Al (AK BR hr rfl (Al (AW (AJ 2) (AJ 0)) (AW (AJ 3) (AJ 0)))) (AW (AJ 1) (BS JP rfl CA boot_int (Bw (EC (Dy hr) (AJ 0) AH (Cf _)))))))))) (AR (AY (Ad Ay (AJ 4) (Cq (DA rfl (F0 (AJ 4)) (DG (own:=1) (ix:= []) (N:= ["_law_off_here"]) rfl rfl rfl rfl rfl rfl (λ_ _ _ _ _ _=>(PF 0 nd1)) (λ_ _ _ _ _ _=>CC) (λ_ _ _ _ _ _=>(AZ (Al (CP (AW (AJ 0) AH)) (AW (AJ 0) AH))))))))))))
theorem HW:Aa ["_law_moments","_law_found","_law_m","_law_at"] ["_law_moments"] (AU EI):=D0
theorem OS (F:DE K "_law_rising" "_law_rising" EI f fd) (BA:FD P w K mg base n) (BZ:mg "len" =none):
 A8 P w K mg base DB (n+1) f fd ["_law_moments"] (BY K 1 Cc):=by
 have nd:=HW.nd
 have nd0:(["_law_one","_law_m"] :List Str).Nodup:=by decide +kernel
 exact Ae F HW rfl λ_ _ _ _ _ _ hr=>(AM (EV (i:=1) nd rfl (Or.inl rfl) (BP EA)) (AM (CS PassesOwn.never rfl (F0 (AJ 0)) (GX (i:=2) nd rfl (Or.inr rfl)) (AM (C0 3 nd (Om (Aw EB rfl BZ PySem.boot_len (Bw (Cq (DA rfl (F0 (AJ 1)) (DG (own:=1) (ix:= [2]) (N:= ["_law_one","_law_m" ]) rfl rfl rfl rfl rfl rfl (λ_ _ _ _ _ _=>(PF 0 nd0)) (λ_ _ _ _ _ _=>(Sf (Ba (AK BA hr rfl (Al (AJ 0) (AJ 1)))))) (λ_ _ _ _ _ _=>(AJ 0))))))))) (AR (BF (cO (JS (MY (F6 (Dy hr) (AJ 3) (Aw EB rfl BZ PySem.boot_len (Bw (AJ 1)))) (He (F6 (Xd hr) (AW (AJ 1) (AJ 3)) (AJ 2)))))) (AR (DY (i:=1) PySem.F.slot_list_insert PySem.F.type_list_insert Qr (Al (AJ 3) (AJ 2)))) A4)))) (AR (AY (AJ 1)))))
theorem IU:Aa ["_law_low","_law_high","_law_begin","_law_end","_law_share_here"] ["_law_low","_law_high","_law_begin","_law_end"] (AU Ei):=D0
theorem Px (F:DE K "_law_share" "_law_share" Ei f fd) (BR:DZ P w K mg base n) (BW:Cy P w K mg base n) (Cr:Ec P w K mg base n) (Bl:Db P w K mg base n):
 A8 P w K mg base DB (n+1) f fd ["_law_low","_law_high","_law_begin","_law_end"] (BY K 4 Dp):=by
 have nd:=IU.nd
 exact Ae F IU rfl λ_ _ _ _ _ _ hr=>(AM (BF (F6 Uu (Ad BQ (AW (AJ 0) AH) (AW (AJ 1) AH)) AH) (AR (AY B8)) A4) (AM (C0 4 nd (AK Cr hr rfl (Al (AJ 0) (AK BR hr rfl (Al (AJ 0) (AJ 1)))))) (AR (AY (AK Bl hr rfl (Al (AJ 2) (AK BW hr rfl (Al (AJ 4) (AK BR hr rfl (Al (AJ 3) (AJ 2)))))))))))
theorem IV:Aa ["_law_one","_law_other","_law_first","_law_last","_law_inner"] ["_law_one","_law_other"] (AU Ej):=D0
theorem Py (F:DE K "_law_turns" "_law_turns" Ej f fd) (BA:FD P w K mg base n) (F9:IK P w K mg base n):
 A8 P w K mg base DB (n+1) f fd ["_law_one","_law_other"] (BY K 2 Dr):=by
 have nd:=IV.nd
 have nd0:(["_law_corner","_law_first","_law_last"] :List Str).Nodup:=by decide +kernel
 exact Ae F IV rfl λ_ _ _ _ _ _ hr=>(AM (Ha (i:=2) nd rfl (Or.inr rfl) (Qo (Ba (AK BA hr rfl (Al (AW (AW (AJ 1) AH) AH) (AW (AW (AJ 0) AH) AH)))) (AW (AW (AJ 0) AH) AH) (AW (AW (AJ 1) AH) AH))) (AM (Ha (i:=3) nd rfl (Or.inr rfl) (Qo (Ba (AK BA hr rfl (Al (AW (AW (AJ 0) (CP AH)) AH) (AW (AW (AJ 1) (CP AH)) AH)))) (AW (AW (AJ 0) (CP AH)) AH) (AW (AW (AJ 1) (CP AH)) AH))) (AM (BF (Fh (Ba (AK BA hr rfl (Al (AJ 2) (AJ 3))))) (AR (AY (Cq (BP EA)))) A4) (AM (O0 (i:=4) rfl nd rfl (Or.inl rfl) (F0 (Ad Ay (AJ 0) (AJ 1))) (DG (own:=1) (ix:= [2,3]) (N:= ["_law_corner","_law_first" ,"_law_last" ]) rfl rfl rfl rfl rfl rfl (λ_ _ _ _ _ _=>(PF 0 nd0)) (λ_ _ _ _ _ _=>(Sf (JS (Hd (Ba (AK BA hr rfl (Al (AJ 1) (AW (AJ 0) AH)))) (Gd (Ba (AK BA hr rfl (Al (AW (AJ 0) AH) (AJ 2))))))))) (λ_ _ _ _ _ _=>(AW (AJ 0) AH)))) (AR (AY (AK F9 hr rfl (Bw (Ad Ay (Cq (BP (Al (AJ 2) (AJ 3)))) (AJ 4))))))))))
theorem IQ:Aa ["_law_one","_law_other","_law_apart_here","_law_turns_here","_law_found","_law_begin","_law_end","_law_lows","_law_highs","_law_low","_law_high","_law_m"] ["_law_one","_law_other","_law_apart_here"] (AU Ee):=D0
theorem Ps (F:DE K "_law_marks" "_law_marks" Ee f fd) (BR:DZ P w K mg base n) (Nq:UA P w K mg base n) (F9:IK P w K mg base n) (Td:RX P w K mg base n) (Te:RY P w K mg base n) (L7:mg "list" =none) (DC:mg "zip" =none):
 A8 P w K mg base DB (n+1) f fd ["_law_one","_law_other","_law_apart_here"] (BY K 3 CU):=by
 have nd:=IQ.nd
 exact Ae F IQ rfl λ_ _ _ _ _ _ hr=>(AM (C0 3 nd (AK Te hr rfl (Al (AJ 0) (AJ 1)))) (AM (EV (i:=4) nd rfl (Or.inl rfl) (fZ rfl L7 boot_list (Bw (AJ 3)))) (AM (CS PassesOwn.never rfl (Yt rfl DC (Al (AJ 3) (Gw (AJ 3) (ZG AH) ZF))) (Dx (n:=2) rfl (An (G2 5 nd) (An (G2 6 nd) Co))) (AM (L1 (i:=7) (j:=8) rfl nd rfl rfl (by decide) rfl rfl (Al (AK Nq hr rfl (Bo (AJ 0) (Ep (AJ 1) (AJ 2) (AJ 5)))) (AK Nq hr rfl (Bo (AJ 0) (Ep (AJ 1) (AJ 2) (AJ 6))))) rfl) (AR (CS PassesOwn.never rfl (Yt rfl DC (Al (AJ 7) (AJ 8))) (Dx (n:=2) rfl (An (G2 9 nd) (An (G2 10 nd) Co))) (AM (C0 11 nd (AK Td hr rfl (Bo (AK BR hr rfl (Al (AJ 9) (AZ (Al AH AH)))) (Ep (AK BR hr rfl (Al (AJ 10) (AZ (Al AH AH)))) (AJ 5) (AJ 6))))) (AR (BF (F6 NP (AJ 11) B8) (AR (DY (i:=4) PySem.F.slot_list_append PySem.F.type_list_append Cd (Bw (AJ 11)))) A4))))))) (AR (AY (AK F9 hr rfl (Bw (AJ 4))))))))
theorem HV:Aa ["_law_one","_law_other"] ["_law_one","_law_other"] (AU EH):=D0
theorem OR (F:DE K "_law_middle" "_law_middle" EH f fd) (BW:Cy P w K mg base n) (Bl:Db P w K mg base n):
 A8 P w K mg base DB (n+1) f fd ["_law_one","_law_other"] (BY K 2 DK):=by
 have nd:=HV.nd
 exact Ae F HV rfl λ_ _ _ _ _ _ hr=>(AR (AY (AK BW hr rfl (Al (AK Bl hr rfl (Al (AJ 0) (AJ 1))) (AZ (Al AH AH))))))
theorem Fx:Aa ["_law_one","_law_other","_law_apart_here","_law_marks_here","_law_found","_law_going","_law_k","_law_held","_law_near"] ["_law_one","_law_other","_law_apart_here"] (AU DV):=D0
theorem Lr (F:DE K "_law_near_set" "_law_near_set" DV f fd) (IH:OD P w K mg base n) (Tc:RW P w K mg base n) (RG:Pn P w K mg base n) (CA:mg "int" =none) (BZ:mg "len" =none) (A7:mg "range" =none) (As:mg "tuple" =none):
 A8 P w K mg base DB (n+1) f fd ["_law_one","_law_other","_law_apart_here"] (BY K 3 CV):=by
 have nd:=Fx.nd
 exact Ae F Fx rfl λ_ _ _ _ _ _ hr=>(AM (C0 3 nd (AK Tc hr rfl (Ep (AJ 0) (AJ 1) (AJ 2)))) (AM (EV (i:=4) nd rfl (Or.inl rfl) (BP EA)) (AM (C0 5 nd Ur) (AM (CS PassesOwn.never rfl (MW rfl A7 (Bw (Ad Cz (Aw EB rfl BZ PySem.boot_len (Bw (AJ 3))) AH))) (G2 6 nd) (AM (C0 7 nd (AK IH hr rfl (Bo (AJ 0) (Ep (AJ 1) (AJ 2) (AW (AJ 3) (AJ 6)))))) (AM (C0 8 nd (AK IH hr rfl (Bo (AJ 0) (Ep (AJ 1) (AJ 2) (AK RG hr rfl (Al (AW (AJ 3) (AJ 6)) (AW (AJ 3) (Ad Ay (AJ 6) AH)))))))) (AM (BF (JS (Hd (O1 (AJ 8)) (Hd (O1 (AJ 5)) (Gd (O1 (AJ 7)))))) (AR (Sx (i:=4) (CP AH) (Om (Ad Ay (Gw (AW (AJ 4) (CP AH)) ZF (ZG AH)) (AZ (Bw (AW (AJ 3) (Ad Ay (AJ 6) AH)))))))) (AR (BF (O1 (AJ 8)) (AR (DY (i:=4) PySem.F.slot_list_append PySem.F.type_list_append Cd (Bw (AZ (Ep (AW (AJ 3) (AJ 6)) (BS JP rfl CA boot_int (Bw (AJ 7))) (AW (AJ 3) (Ad Ay (AJ 6) AH))))))) A4))) (AR (C0 5 nd (AJ 8))))))) (AR (AY (BS DR rfl As boot_tuple (Bw (AJ 4)))))))))
theorem Kv:Aa ["_law_found","_law_due"] ["_law_found","_law_due"] (AU EO):=D0
theorem Ry (F:DE K "_law_same" "_law_same" EO f fd) (Iu:MG P w K mg base n m) (Qx:mg "all" =none) (L6:mg "bool" =none) (CA:mg "int" =none) (BL:mg "isinstance" =none) (BZ:mg "len" =none) (Ma:mg "str" =none) (As:mg "tuple" =none) (DC:mg "zip" =none):
 A8 P w K mg base DB (n+1) f fd ["_law_found","_law_due"] (BY K 2 (Az (m+1))):=by
 have nd:=Kv.nd
 have nd0:(["_law_piece","_law_mate"] :List Str).Nodup:=by decide +kernel
 exact Ae F Kv rfl λ_ _ _ _ _ _ hr=>(AM (BF (Ba (Aw Sa rfl BL boot_isinstance (Al (AJ 1) (On (n:="tuple") rfl As boot_tuple rfl)))) (AM (BF (JS (MY (Fh (Ba (Aw Sa rfl BL boot_isinstance (Al (AJ 0) (On (n:="tuple") rfl As boot_tuple rfl))))) (He (F6 (Xd hr) (Aw EB rfl BZ PySem.boot_len (Bw (AJ 0))) (Aw EB rfl BZ PySem.boot_len (Bw (AJ 1))))))) (AR (AY Ur)) A4) (AR (AY (Aw (kE rfl) rfl Qx boot_all (Bw (Cq (DA rfl (Yt rfl DC (Al (AJ 0) (AJ 1))) (DG (own:=2) (ix:= []) (N:= ["_law_piece","_law_mate" ]) rfl rfl rfl rfl rfl rfl (λ_ _ _ _ _ _=>(So (n:=2) rfl (EQ (PF 0 nd0) (EQ (PF 1 nd0) NO)))) (λ_ _ _ _ _ _=>CC) (λ_ _ _ _ _ _=>(AK Iu hr rfl (Al (AJ 0) (AJ 1)))))))))))) A4) (AM (BF (JS (MY (F6 Ov (AJ 1) B8) (He (Ba (Aw Sc rfl BL boot_isinstance (Al (AJ 1) (On (n:="str") rfl Ma boot_str rfl))))))) (AR (AY (Sd (EC (Dy hr) (AJ 0) (AJ 1) (Cf _)) (WI (EC (Dy hr) (Aw Sc rfl BL boot_isinstance (Al (AJ 0) (On (n:="str") rfl Ma boot_str rfl))) (Aw Sc rfl BL boot_isinstance (Al (AJ 1) (On (n:="str") rfl Ma boot_str rfl))) (Cf _)))))) A4) (AR (AY (Sd (Aw Sa rfl BL boot_isinstance (Al (AJ 0) (On (n:="int") rfl CA boot_int rfl))) (Sd (kH (Aw Sa rfl BL boot_isinstance (Al (AJ 0) (On (n:="bool") rfl L6 boot_bool rfl)))) (WI (EC (Dy hr) (AJ 0) (AJ 1) (Cf _)))))))))
theorem Fy:Aa ["_law_tape_here","_law_apart_here","_law_plan_here","_law_side","_law_far","_law_little","_law_near","_law_corners","_law_off_here","_law_k","_law_corner","_law_by"] ["_law_tape_here","_law_apart_here"] (AU DW):=D0
theorem Lu (F:DE K "_law_touching" "_law_touching" DW f fd) (Af:Cw P w K mg base n) (Df:J4 P w K mg base n) (BR:DZ P w K mg base n) (D3:HI P w K mg base n) (BW:Cy P w K mg base n) (Bl:Db P w K mg base n) (Hg:mg "enumerate" =none) (CA:mg "int" =none) (A7:mg "range" =none) (As:mg "tuple" =none):
 A8 P w K mg base DB (n+1) f fd ["_law_tape_here","_law_apart_here"] (BY K 2 CW):=by
 have nd:=Fy.nd
 have nd0:(["_law_j","_law_corner","_law_by"] :List Str).Nodup:=by decide +kernel
 exact Ae F Fy rfl λ_ _ _ _ _ _ hr=>(AM (C0 2 nd (AK D3 hr rfl (Bw (AJ 0)))) (AM (C0 3 nd (AK Af hr rfl (Al (AJ 0) AH))) (AM (C0 4 nd (AW (AJ 1) (BS JP rfl CA boot_int (Bw (EC (Dy hr) (AJ 3) AH (Cf _)))))) (AM (C0 5 nd (AK BR hr rfl (Al (AJ 4) (AZ (Al AH (Ad cJ AH AH)))))) (AM (C0 6 nd (AW (Cq (BP (Bo (AK BW hr rfl (Al (AJ 4) (AZ (Al AH AH)))) (Ep (AZ (Al AH AH)) (AK BW hr rfl (Al (AJ 4) (AZ (Al AH AH)))) (AJ 5))))) (AK Af hr rfl (Al (AJ 0) AH)))) (AM (EV (i:=7) nd rfl (Or.inl rfl) (BP EA)) (AM (CS PassesOwn.never rfl (n5 rfl Hg (Bw (AJ 2))) (Dx (n:=2) rfl (An (G2 9 nd) (An (GX (i:=10) nd rfl (Or.inr rfl)) Co))) (AM (EV (i:=11) nd rfl (Or.inr rfl) (BP (Ep (AZ (Al AH AH)) (AZ (Al AH AH)) (AZ (Al AH AH))))) (AM (Sx (i:=11) (AJ 3) (AW (Cq (BP (Al (AJ 6) (AJ 4)))) (Ad WK (Ad Ay (AJ 9) (Ad BQ (AK Af hr rfl (Al (AJ 0) AH)) (BS JP rfl CA boot_int (Bw (EC Uv (AJ 9) AH (Cf _)))))) AH))) (AR (DY (i:=7) PySem.F.slot_list_append PySem.F.type_list_append Cd (Bw (Om (Ad Ay (AZ (Bw (AW (AJ 10) AH))) (BS DR rfl As boot_tuple (Bw (Cq (DA rfl (MW rfl A7 (Bw AH)) (DG (own:=1) (ix:= [10,11]) (N:= ["_law_j","_law_corner" ,"_law_by" ]) rfl rfl rfl rfl rfl rfl (λ_ _ _ _ _ _=>(PF 0 nd0)) (λ_ _ _ _ _ _=>CC) (λ_ _ _ _ _ _=>(AK Bl hr rfl (Al (AW (AJ 1) (Ad Ay (AJ 0) AH)) (AW (AJ 2) (AJ 0)))))))))))))))))) (AM (C0 8 nd (AW (Cq (BP (Ep (AZ (Al AH AH)) (AZ (Al AH AH)) (AZ (Al (Ad cJ AH AH) AH))))) (AK Af hr rfl (Al (AJ 0) AH)))) (AR (AY (AZ (Al (AK Df hr rfl (Ep (AJ 2) (AZ (Al AH AH)) (Cq (BP (Ep (AJ 8) (AJ 8) (AJ 8)))))) (AK Df hr rfl (Ep (AJ 7) (AZ (Al AH AH)) (Cq (BP (Ep (AJ 8) (AJ 8) (AJ 8))))))))))))))))))
theorem Qi:Aa ["one","other"] ["one","other"] (AU KW):=D0
theorem Yb (F:DE K "before" "before" KW f fd):
 A8 P w K mg base DB (n+1) f fd ["one","other"] (BY K 2 Am):=by
 have nd:=Qi.nd
 exact Ae F Qi rfl λ_ _ _ _ _ _ hr=>(AR (AY (EC HZ (Ad BQ (AW (AJ 0) AH) (AW (AJ 1) AH)) (Ad BQ (AW (AJ 1) AH) (AW (AJ 0) AH)) (Cf _))))
theorem Qk:Aa ["one","other"] ["one","other"] (AU KZ):=D0
theorem Yd (F:DE K "lesser" "lesser" KZ f fd) (CB:E1 P w K mg base n):
 A8 P w K mg base DB (n+1) f fd ["one","other"] (BY K 2 Eu):=by
 have nd:=Qk.nd
 exact Ae F Qk rfl λ_ _ _ _ _ _ hr=>(AR (AY (Qo (Ba (AK CB hr rfl (Al (AJ 1) (AJ 0)))) (AJ 1) (AJ 0))))
theorem Qj:Aa ["one","other"] ["one","other"] (AU KY):=D0
theorem Yc (F:DE K "common" "common" KY f fd):
 A8 P w K mg base DB (n+1) f fd ["one","other"] (BY K 2 G9):=by
 have nd:=Qj.nd
 exact Ae F Qj rfl λ_ _ _ _ _ _ hr=>(AM (K4 PassesOwn.never (F6 (Xd hr) (AJ 1) AH) (AR (L1 (i:=0) (j:=1) rfl nd rfl rfl (by decide) rfl rfl (Al (AJ 1) (Ad WK (AJ 0) (AJ 1))) rfl))) (AR (AY (AJ 0))))
theorem XT:Aa ["top","bottom","shared"] ["top","bottom"] (AU SY):=D0
theorem eh (F:DE K "part" "part" SY f fd) (RH:UC P w K mg base n) (EZ:mg "abs" =none):
 A8 P w K mg base DB (n+1) f fd ["top","bottom"] (BY K 2 HB):=by
 have nd:=XT.nd
 exact Ae F XT rfl λ_ _ _ _ _ _ hr=>(AM (C0 2 nd (AK RH hr rfl (Al (Aw Ly rfl EZ boot_abs (Bw (AJ 0))) (Aw Ly rfl EZ boot_abs (Bw (AJ 1)))))) (AM (BF (F6 HZ (AJ 1) AH) (AR (C0 2 nd (CP (AJ 2)))) A4) (AR (AY (AZ (Al (Ad FW (AJ 0) (AJ 2)) (Ad FW (AJ 1) (AJ 2))))))))
theorem Um:Aa ["one","other"] ["one","other"] (AU NJ):=D0
theorem ah (F:DE K "minus" "minus" NJ f fd) (Ji:OE P w K mg base n):
 A8 P w K mg base DB (n+1) f fd ["one","other"] (BY K 2 EE):=by
 have nd:=Um.nd
 exact Ae F Um rfl λ_ _ _ _ _ _ hr=>(AR (AY (AK Ji hr rfl (Al (Ad Cz (Ad BQ (AW (AJ 0) AH) (AW (AJ 1) AH)) (Ad BQ (AW (AJ 1) AH) (AW (AJ 0) AH))) (Ad BQ (AW (AJ 0) AH) (AW (AJ 1) AH))))))
theorem XU:Aa ["one","other"] ["one","other"] (AU SZ):=D0
theorem e5 (F:DE K "plus" "plus" SZ f fd) (Ji:OE P w K mg base n):
 A8 P w K mg base DB (n+1) f fd ["one","other"] (BY K 2 Iy):=by
 have nd:=XU.nd
 exact Ae F XU rfl λ_ _ _ _ _ _ hr=>(AR (AY (AK Ji hr rfl (Al (Ad Ay (Ad BQ (AW (AJ 0) AH) (AW (AJ 1) AH)) (Ad BQ (AW (AJ 1) AH) (AW (AJ 0) AH))) (Ad BQ (AW (AJ 0) AH) (AW (AJ 1) AH))))))
theorem Uo:Aa ["one","other"] ["one","other"] (AU NK):=D0
theorem aj (F:DE K "times" "times" NK f fd) (Ji:OE P w K mg base n):
 A8 P w K mg base DB (n+1) f fd ["one","other"] (BY K 2 GB):=by
 have nd:=Uo.nd
 exact Ae F Uo rfl λ_ _ _ _ _ _ hr=>(AR (AY (AK Ji hr rfl (Al (Ad BQ (AW (AJ 0) AH) (AW (AJ 1) AH)) (Ad BQ (AW (AJ 0) AH) (AW (AJ 1) AH))))))
theorem K0:Aa ["begin","end","share"] ["begin","end","share"] (AU FV):=D0
theorem R4 (F:DE K "moment_at" "moment_at" FV f fd) (Iv:RZ P w K mg base n) (Ji:OE P w K mg base n) (ZX:aF P w K mg base n) (VB:W0 P w K mg base n):
 A8 P w K mg base DB (n+1) f fd ["begin","end","share"] (BY K 3 Dh):=by
 have nd:=K0.nd
 exact Ae F K0 rfl λ_ _ _ _ _ _ hr=>(AR (AY (AK ZX hr rfl (Al (AJ 0) (AK VB hr rfl (Al (AK Ji hr rfl (Al (AW (AJ 2) AH) (AW (AJ 2) AH))) (AK Iv hr rfl (Al (AJ 1) (AJ 0)))))))))
theorem Oh:Aa ["piece","low","held","high","begin","end","bottom","lines","first","last","share"] ["piece"] (AU Hw):=D0
theorem V2 (F:DE K "near_in" "near_in" Hw f fd) (CB:E1 P w K mg base n) (RJ:UD P w K mg base n) (Nt:UE P w K mg base n):
 A8 P w K mg base DB (n+1) f fd ["piece"] (BY K 1 Fm):=by
 have nd:=Oh.nd
 exact Ae F Oh rfl λ_ _ _ _ _ _ hr=>(AM (Oz (AJ 0) (Dx (n:=4) rfl (An (G2 4 nd) (An (G2 5 nd) (An (G2 6 nd) (An (G2 7 nd) Co)))))) (AM (C0 1 nd (AZ (Al AH AH))) (AM (C0 2 nd AH) (AM (C0 3 nd (AZ (Al AH AH))) (AM (CS PassesOwn.never rfl (F0 (AJ 7)) (Dx (n:=2) rfl (An (G2 8 nd) (An (G2 9 nd) Co))) (AM (BF (JS (Hd (F6 Uu (AJ 8) (AJ 6)) (Gd (F6 Uu (AJ 9) (AJ 6))))) (AR (AY (Cq (BP EA)))) A4) (AR (BF (F6 Uu (AJ 8) (AJ 6)) (AM (C0 10 nd (AZ (Al (Ad Cz (AJ 8) (AJ 6)) (Ad Cz (AJ 8) (AJ 9))))) (AR (BF (Fh (Ba (AK CB hr rfl (Al (AJ 10) (AJ 1))))) (AM (C0 1 nd (AJ 10)) (AR (C0 2 nd AH))) A4))) (AR (BF (F6 Uv (AJ 9) (AJ 6)) (AR (C0 3 nd (AK RJ hr rfl (Al (AJ 3) (AZ (Al (Ad Cz (AJ 6) (AJ 8)) (Ad Cz (AJ 9) (AJ 8)))))))) A4)))))) (AM (BF (Fh (Ba (AK CB hr rfl (Al (AJ 1) (AJ 3))))) (AR (AY (Cq (BP EA)))) A4) (AR (AY (Cq (BP (Bw (AZ (Ep (AK Nt hr rfl (Ep (AJ 4) (AJ 5) (AJ 1))) (AJ 2) (AK Nt hr rfl (Ep (AJ 4) (AJ 5) (AJ 3))))))))))))))))
theorem Fz:Aa ["numbers","told","top","bottom"] ["numbers"] (AU DX):=D0
theorem Lv (F:DE K "shared_bottom" "shared_bottom" DX f fd) (RH:UC P w K mg base n):
 A8 P w K mg base DB (n+1) f fd ["numbers"] (BY K 1 CY):=by
 have nd:=Fz.nd
 exact Ae F Fz rfl λ_ _ _ _ _ _ hr=>(AM (C0 1 nd AH) (AM (CS PassesOwn.never rfl (F0 (AJ 0)) (Dx (n:=2) rfl (An (G2 2 nd) (An (G2 3 nd) Co))) (AR (cM (i:=1) nd rfl (Or.inl rfl) (Ad FW (AJ 3) (AK RH hr rfl (Al (AJ 1) (AJ 3)))) kJ))) (AR (AY (AJ 1)))))
theorem MR:Aa ["first","last","bottom","lines","former","latter","low","high"] ["first","last"] (AU GS):=D0
theorem UV (F:DE K "lines_of" "lines_of" GS f fd) (Nu:Mp P w K mg base n) (DC:mg "zip" =none):
 A8 P w K mg base DB (n+1) f fd ["first","last"] (BY K 2 Ev):=by
 have nd:=MR.nd
 exact Ae F MR rfl λ_ _ _ _ _ _ hr=>(AM (C0 2 nd (AK Nu hr rfl (Bw (Ad Ay (AJ 0) (AJ 1))))) (AM (EV (i:=3) nd rfl (Or.inl rfl) (BP EA)) (AM (CS PassesOwn.never rfl (Yt rfl DC (Al (AJ 0) (AJ 1))) (Dx (n:=2) rfl (An (G2 4 nd) (An (G2 5 nd) Co))) (AM (C0 6 nd (Ad BQ (AW (AJ 4) AH) (Ad FW (AJ 2) (AW (AJ 4) AH)))) (AM (C0 7 nd (Ad BQ (AW (AJ 5) AH) (Ad FW (AJ 2) (AW (AJ 5) AH)))) (AM (DY (i:=3) PySem.F.slot_list_append PySem.F.type_list_append Cd (Bw (AZ (Al (AJ 6) (AJ 7))))) (AR (DY (i:=3) PySem.F.slot_list_append PySem.F.type_list_append Cd (Bw (AZ (Al (CP (AJ 6)) (CP (AJ 7))))))))))) (AR (AY (AZ (Al (AJ 2) (AJ 3))))))))
theorem XS:Aa ["one","other"] ["one","other"] (AU SX):=D0
theorem eZ (F:DE K "over" "over" SX f fd) (Ji:OE P w K mg base n):
 A8 P w K mg base DB (n+1) f fd ["one","other"] (BY K 2 LW):=by
 have nd:=XS.nd
 exact Ae F XS rfl λ_ _ _ _ _ _ hr=>(AR (AY (AK Ji hr rfl (Al (Ad BQ (AW (AJ 0) AH) (AW (AJ 1) AH)) (Ad BQ (AW (AJ 0) AH) (AW (AJ 1) AH))))))
theorem Oj:Aa ["apart","side"] ["apart","side"] (AU Hy):=D0
theorem V4 (F:DE K "size_of" "size_of" Hy f fd):
 A8 P w K mg base DB (n+1) f fd ["apart","side"] (BY K 2 En):=by
 have nd:=Oj.nd
 exact Ae F Oj rfl λ_ _ _ _ _ _ hr=>(AR (AY (Qo (F6 (Dy hr) (AJ 1) AH) (AW (AJ 0) AH) (AW (AJ 0) AH))))
theorem Gv:Aa ["former","latter","m","share"] ["former","latter","m"] (AU Dw):=D0
theorem Mu (F:DE K "spot_between" "spot_between" Dw f fd) (Iv:RZ P w K mg base n) (ZW:aD P w K mg base n) (ZX:aF P w K mg base n) (VB:W0 P w K mg base n) (As:mg "tuple" =none) (DC:mg "zip" =none):
 A8 P w K mg base DB (n+1) f fd ["former","latter","m"] (BY K 3 Ds):=by
 have nd:=Gv.nd
 have nd0:(["low","high","share"] :List Str).Nodup:=by decide +kernel
 exact Ae F Gv rfl λ_ _ _ _ _ _ hr=>(AM (Ha (i:=3) nd rfl (Or.inr rfl) (AK ZW hr rfl (Al (AK Iv hr rfl (Al (AJ 2) (AW (AJ 0) AH))) (AK Iv hr rfl (Al (AW (AJ 1) AH) (AW (AJ 0) AH)))))) (AR (AY (BS DR rfl As boot_tuple (Bw (Cq (DA rfl (Yt rfl DC (Al (Gw (AJ 0) (ZG AH) ZF) (Gw (AJ 1) (ZG AH) ZF))) (DG (own:=2) (ix:= [3]) (N:= ["low","high" ,"share" ]) rfl rfl rfl rfl rfl rfl (λ_ _ _ _ _ _=>(So (n:=2) rfl (EQ (PF 0 nd0) (EQ (PF 1 nd0) NO)))) (λ_ _ _ _ _ _=>CC) (λ_ _ _ _ _ _=>(AK ZX hr rfl (Al (AJ 0) (AK VB hr rfl (Al (AJ 2) (AK Iv hr rfl (Al (AJ 1) (AJ 0))))))))))))))))
theorem Ol:Aa ["plan","m","at"] ["plan","m"] (AU Hz):=D0
theorem V5 (F:DE K "spot_at" "spot_at" Hz f fd) (CB:E1 P w K mg base n) (PX:OF P w K mg base n) (BZ:mg "len" =none) (A7:mg "range" =none):
 A8 P w K mg base DB (n+1) f fd ["plan","m"] (BY K 2 Fq):=by
 have nd:=Ol.nd
 exact Ae F Ol rfl λ_ _ _ _ _ _ hr=>(AM (BF (Ba (AK CB hr rfl (Al (AJ 1) (AW (AW (AJ 0) AH) AH)))) (AR (AY B8)) A4) (AM (CS PassesOwn.never rfl (hU rfl A7 (Al AH (Aw EB rfl BZ PySem.boot_len (Bw (AJ 0))))) (G2 2 nd) (AR (BF (Fh (Ba (AK CB hr rfl (Al (AW (AW (AJ 0) (AJ 2)) AH) (AJ 1))))) (AR (AY (AK PX hr rfl (Ep (AW (AJ 0) (Ad Cz (AJ 2) AH)) (AW (AJ 0) (AJ 2)) (AJ 1))))) A4))) (AR (AY B8))))
theorem Oi:Aa ["one","other","apart","m","here","there"] ["one","other","apart","m"] (AU Hx):=D0
theorem V3 (F:DE K "offs_at" "offs_at" Hx f fd) (Iv:RZ P w K mg base n) (ZW:aD P w K mg base n) (ZY:YH P w K mg base n) (Tg:YI P w K mg base n) (A7:mg "range" =none):
 A8 P w K mg base DB (n+1) f fd ["one","other","apart","m"] (BY K 4 Fn):=by
 have nd:=Oi.nd
 have nd0:(["side","apart","here","there"] :List Str).Nodup:=by decide +kernel
 exact Ae F Oi rfl λ_ _ _ _ _ _ hr=>(AM (Ha (i:=4) nd rfl (Or.inr rfl) (AK Tg hr rfl (Al (AJ 0) (AJ 3)))) (AM (Ha (i:=5) nd rfl (Or.inr rfl) (AK Tg hr rfl (Al (AJ 1) (AJ 3)))) (AR (AY (Cq (DA rfl (MW rfl A7 (Bw AH)) (DG (own:=1) (ix:= [2,4,5]) (N:= ["side","apart" ,"here" ,"there" ]) rfl rfl rfl rfl rfl rfl (λ_ _ _ _ _ _=>(PF 0 nd0)) (λ_ _ _ _ _ _=>CC) (λ_ _ _ _ _ _=>(AK ZW hr rfl (Al (AK Iv hr rfl (Al (AW (AJ 2) (AJ 0)) (AW (AJ 3) (AJ 0)))) (AK ZY hr rfl (Al (AJ 1) (AJ 0)))))))))))))
theorem Og:Aa ["one","other"] ["one","other"] (AU Hv):=D0
theorem V1 (F:DE K "greater" "greater" Hv f fd) (CB:E1 P w K mg base n):
 A8 P w K mg base DB (n+1) f fd ["one","other"] (BY K 2 Cs):=by
 have nd:=Og.nd
 exact Ae F Og rfl λ_ _ _ _ _ _ hr=>(AR (AY (Qo (Ba (AK CB hr rfl (Al (AJ 0) (AJ 1)))) (AJ 1) (AJ 0))))
theorem MT:Aa ["one","other","begin","end"] ["one","other"] (AU GU):=D0
theorem UX (F:DE K "together" "together" GU f fd) (CB:E1 P w K mg base n) (ZT:YE P w K mg base n) (RJ:UD P w K mg base n):
 A8 P w K mg base DB (n+1) f fd ["one","other"] (BY K 2 D6):=by
 have nd:=MT.nd
 exact Ae F MT rfl λ_ _ _ _ _ _ hr=>(AM (C0 2 nd (AK ZT hr rfl (Al (AW (AW (AJ 0) AH) AH) (AW (AW (AJ 1) AH) AH)))) (AM (C0 3 nd (AK RJ hr rfl (Al (AW (AW (AJ 0) (CP AH)) AH) (AW (AW (AJ 1) (CP AH)) AH)))) (AR (AY (Qo (Ba (AK CB hr rfl (Al (AJ 2) (AJ 3)))) (AZ (Al (AJ 2) (AJ 3))) B8)))))
theorem E3:Aa ["plan","begin","end"] ["plan","begin","end"] (AU Cn):=D0
theorem JL (F:DE K "corners_between" "corners_between" Cn f fd) (CB:E1 P w K mg base n) (As:mg "tuple" =none):
 A8 P w K mg base DB (n+1) f fd ["plan","begin","end"] (BY K 3 B3):=by
 have nd:=E3.nd
 have nd0:(["corner","begin","end"] :List Str).Nodup:=by decide +kernel
 exact Ae F E3 rfl λ_ _ _ _ _ _ hr=>(AR (AY (Cq (DA rfl (F0 (AJ 0)) (DG (own:=1) (ix:= [1,2]) (N:= ["corner","begin" ,"end" ]) rfl rfl rfl rfl rfl rfl (λ_ _ _ _ _ _=>(PF 0 nd0)) (λ_ _ _ _ _ _=>(Sf (JS (Hd (Ba (AK CB hr rfl (Al (AJ 1) (AW (AJ 0) AH)))) (Gd (Ba (AK CB hr rfl (Al (AW (AJ 0) AH) (AJ 2))))))))) (λ_ _ _ _ _ _=>(BS DR rfl As boot_tuple (Bw (AJ 0)))))))))
theorem HX:Aa ["numbers","number","low","high","middle"] ["numbers","number"] (AU EJ):=D0
theorem OT (F:DE K "count_below" "count_below" EJ f fd) (CB:E1 P w K mg base n) (BZ:mg "len" =none):
 A8 P w K mg base DB (n+1) f fd ["numbers","number"] (BY K 2 DM):=by
 have nd:=HX.nd
 exact Ae F HX rfl λ_ _ _ _ _ _ hr=>(AM (C0 2 nd AH) (AM (C0 3 nd (Aw EB rfl BZ PySem.boot_len (Bw (AJ 0)))) (AM (K4 PassesOwn.never (F6 HZ (AJ 2) (AJ 3)) (AM (C0 4 nd (Ad FW (Ad Ay (AJ 2) (AJ 3)) AH)) (AR (BF (Ba (AK CB hr rfl (Al (AW (AJ 0) (AJ 4)) (AJ 1)))) (AR (C0 2 nd (Ad Ay (AJ 4) AH))) (AR (C0 3 nd (AJ 4))))))) (AR (AY (AJ 2))))))
theorem Qn:Aa ["numbers","told","number","at"] ["numbers"] (AU Kg):=D0
theorem Yg (F:DE K "rising" "rising" Kg f fd) (RI:Po P w K mg base n) (BZ:mg "len" =none):
 A8 P w K mg base DB (n+1) f fd ["numbers"] (BY K 1 Fp):=by
 have nd:=Qn.nd
 exact Ae F Qn rfl λ_ _ _ _ _ _ hr=>(AM (EV (i:=1) nd rfl (Or.inl rfl) (BP EA)) (AM (CS PassesOwn.never rfl (F0 (AJ 0)) (G2 2 nd) (AM (C0 3 nd (Om (AK RI hr rfl (Al (AJ 1) (AJ 2))))) (AR (BF (cO (JS (MY (F6 (Dy hr) (AJ 3) (Aw EB rfl BZ PySem.boot_len (Bw (AJ 1)))) (He (F6 (Xd hr) (AW (AJ 1) (AJ 3)) (AJ 2)))))) (AR (DY (i:=1) PySem.F.slot_list_insert PySem.F.type_list_insert Qr (Al (AJ 3) (AJ 2)))) A4)))) (AR (AY (AJ 1)))))
theorem Up:Aa ["one","other","begin","end","corners"] ["one","other","begin","end"] (AU NL):=D0
theorem ak (F:DE K "turns" "turns" NL f fd) (Fl:J6 P w K mg base n) (RK:UF P w K mg base n):
 A8 P w K mg base DB (n+1) f fd ["one","other","begin","end"] (BY K 4 Jm):=by
 have nd:=Up.nd
 have nd0:(["corner"] :List Str).Nodup:=by decide +kernel
 exact Ae F Up rfl λ_ _ _ _ _ _ hr=>(AM (C0 4 nd (Ad Ay (AK Fl hr rfl (Ep (AJ 0) (AJ 2) (AJ 3))) (AK Fl hr rfl (Ep (AJ 1) (AJ 2) (AJ 3))))) (AR (AY (AK RK hr rfl (Bw (Ad Ay (Cq (BP (Al (AJ 2) (AJ 3)))) (Cq (DA rfl (F0 (AJ 4)) (DG (own:=1) (ix:= []) (N:= ["corner"]) rfl rfl rfl rfl rfl rfl (λ_ _ _ _ _ _=>(PF 0 nd0)) (λ_ _ _ _ _ _=>CC) (λ_ _ _ _ _ _=>(AW (AJ 0) AH)))))))))))
theorem Qm:Aa ["one","other","apart","span","moments","offs","told","at","bottom","lines"] ["one","other","apart"] (AU Kb):=D0
theorem Yf (F:DE K "pieces" "pieces" Kb f fd) (Xr:Vd P w K mg base n) (ZV:YG P w K mg base n) (Xu:Vf P w K mg base n) (iJ:dn P w K mg base n) (BZ:mg "len" =none) (A7:mg "range" =none):
 A8 P w K mg base DB (n+1) f fd ["one","other","apart"] (BY K 3 HC):=by
 have nd:=Qm.nd
 have nd0:(["m","one","other","apart"] :List Str).Nodup:=by decide +kernel
 exact Ae F Qm rfl λ_ _ _ _ _ _ hr=>(AM (C0 3 nd (AK Xu hr rfl (Al (AJ 0) (AJ 1)))) (AM (BF (F6 Ov (AJ 3) B8) (AR (AY (Cq (BP EA)))) A4) (AM (C0 4 nd (AK iJ hr rfl (Bo (AJ 0) (Ep (AJ 1) (AW (AJ 3) AH) (AW (AJ 3) AH))))) (AM (O0 (i:=5) rfl nd rfl (Or.inl rfl) (F0 (AJ 4)) (DG (own:=1) (ix:= [0,1,2]) (N:= ["m","one" ,"other" ,"apart" ]) rfl rfl rfl rfl rfl rfl (λ_ _ _ _ _ _=>(PF 0 nd0)) (λ_ _ _ _ _ _=>CC) (λ_ _ _ _ _ _=>(AK ZV hr rfl (Bo (AJ 1) (Ep (AJ 2) (AJ 3) (AJ 0))))))) (AM (EV (i:=6) nd rfl (Or.inl rfl) (BP EA)) (AM (CS PassesOwn.never rfl (hU rfl A7 (Al AH (Aw EB rfl BZ PySem.boot_len (Bw (AJ 4))))) (G2 7 nd) (AM (Oz (AK Xr hr rfl (Al (AW (AJ 5) (Ad Cz (AJ 7) AH)) (AW (AJ 5) (AJ 7)))) (Dx (n:=2) rfl (An (G2 8 nd) (An (G2 9 nd) Co)))) (AR (DY (i:=6) PySem.F.slot_list_append PySem.F.type_list_append Cd (Bw (AZ (Bo (AW (AJ 4) (Ad Cz (AJ 7) AH)) (Ep (AW (AJ 4) (AJ 7)) (AJ 8) (AJ 9))))))))) (AR (AY (AJ 6)))))))))
theorem MS:Aa ["stretches","steps","begin","held","end","first","last"] ["stretches"] (AU GT):=D0
theorem UW (F:DE K "steps_of" "steps_of" GT f fd):
 A8 P w K mg base DB (n+1) f fd ["stretches"] (BY K 1 Hh):=by
 have nd:=MS.nd
 refine F.ok MS (λvs H Q E h=> ?_) (λcdv A outer s H vs Q E hr h=> ?_)
 ·obtain ⟨T,M,xs,AQ,_,_,r,hl,_⟩:=h
  rw [r.length,hl] <;> rfl
 obtain ⟨T,M,xs,AQ,va,_,r,hl,hF,hQ⟩:=h
 have hu:=fV hr
 obtain ⟨x,ys,m,rfl,hx,hz,hm,hq⟩:=VC hF
 cases r with
 | cons r rr=>
 cases rr
 refine ⟨_,(B6 (Fg (i:=1) nd rfl (Or.inl rfl) fE) (B6 (bK PassesOwn.never rfl (bI (pv 0)) (WA rfl (HP (KJ (i:=2) nd rfl (Or.inl rfl)) (HP (KJ (i:=3) nd rfl (Or.inl rfl)) (HP (KJ (i:=4) nd rfl (Or.inl rfl)) SD)))) (B6 (Fg (i:=5) nd rfl (Or.inl rfl) (OW (CN (pv 2) (CN (CL V8 BG (pv 3)) Fe)))) (B6 (XJ hu (pv 1) (pv 5) (CL JN (Ud hu (pv 1) (pv 5) BG ⟨rfl,rfl,rfl,rfl⟩) BG) rfl) (FH (XI (NF XG (pv 4) bE (Cf _)) (B6 (Fg (i:=6) nd rfl (Or.inl rfl) (OW (CN (pv 4) (CN BG Fe)))) (FH (XJ hu (pv 1) (pv 6) (CL V8 (Ud hu (pv 1) (pv 6) BG ⟨rfl,rfl,rfl,rfl⟩) BG) rfl))) NE))))) (FH (OY (pv 1))))), ?_⟩
 exact WP va r hx hz hm λp H' ex np hp=>hQ _ (.dct m) T H' (fz va ex) (fT va np hp) hq
theorem Ql:Aa ["stretches","steps","told","count","moment","side"] ["stretches"] (AU Ka):=D0
theorem Ye (F:DE K "levels" "levels" Ka f fd) (RK:UF P w K mg base n) (Xs:Ve P w K mg base n) (L7:mg "list" =none):
 A8 P w K mg base DB (n+1) f fd ["stretches"] (BY K 1 HA):=by
 have nd:=Ql.nd
 have nd0:(["moment","side"] :List Str).Nodup:=by decide +kernel
 exact Ae F Ql rfl λ_ _ _ _ _ _ hr=>(AM (C0 1 nd (AK Xs hr rfl (Bw (AJ 0)))) (AM (EV (i:=2) nd rfl (Or.inl rfl) (BP EA)) (AM (C0 3 nd AH) (AM (CS PassesOwn.never rfl (F0 (AK RK hr rfl (Bw (Cq (DA rfl (F0 (Cq (cB hr rfl L7 boot_list (Bw (AJ 1))))) (DG (own:=2) (ix:= []) (N:= ["moment","side" ]) rfl rfl rfl rfl rfl rfl (λ_ _ _ _ _ _=>(So (n:=2) rfl (EQ (PF 0 nd0) (EQ (PF 1 nd0) NO)))) (λ_ _ _ _ _ _=>CC) (λ_ _ _ _ _ _=>(AJ 0)))))))) (G2 4 nd) (AR (CS PassesOwn.never rfl (F0 (AZ (Al AH AH))) (G2 5 nd) (AR (BF (kO hr (AJ 4) (AJ 5) (AJ 1)) (AM (cM (i:=3) nd rfl (Or.inl rfl) (fY hr (AJ 1) (AJ 4) (AJ 5) (λ_ _=>rfl)) kI) (AR (DY (i:=2) PySem.F.slot_list_append PySem.F.type_list_append Cd (Bw (AZ (Ep (AJ 4) (AJ 5) (AJ 3))))))) A4))))) (AR (AY (AJ 2)))))))
theorem Of:Aa ["stretches","n","told","begin","moment","side","count"] ["stretches","n"] (AU Hu):=D0
theorem V0 (F:DE K "counted" "counted" Hu f fd) (dB:aB P w K mg base n) (As:mg "tuple" =none):
 A8 P w K mg base DB (n+1) f fd ["stretches","n"] (BY K 2 El):=by
 have nd:=Of.nd
 exact Ae F Of rfl λ_ _ _ _ _ _ hr=>(AM (EV (i:=2) nd rfl (Or.inl rfl) (BP EA)) (AM (C0 3 nd B8) (AM (CS PassesOwn.never rfl (F0 (AK dB hr rfl (Bw (AJ 0)))) (Dx (n:=3) rfl (An (G2 4 nd) (An (G2 5 nd) (An (G2 6 nd) Co)))) (AR (BF (JS (Hd (F6 Ov (AJ 3) B8) (Gd (F6 Uu (AJ 6) (AJ 1))))) (AR (C0 3 nd (AZ (Al (AJ 4) (Ad Cz AH (AJ 5)))))) (AR (BF (JS (Hd (F6 NP (AJ 3) B8) (Gd (F6 HZ (AJ 6) (AJ 1))))) (AM (DY (i:=2) PySem.F.slot_list_append PySem.F.type_list_append Cd (Bw (AZ (Ep (AW (AJ 3) AH) (AW (AJ 3) AH) (AJ 4))))) (AR (C0 3 nd B8))) A4))))) (AM (BF (F6 NP (AJ 3) B8) (AR (DY (i:=2) PySem.F.slot_list_append PySem.F.type_list_append Cd (Bw (AZ (Ep (AW (AJ 3) AH) (AW (AJ 3) AH) B8))))) A4) (AR (AY (BS DR rfl As boot_tuple (Bw (AJ 2)))))))))
theorem MU:Aa ["stretches"] ["stretches"] (AU GV):=D0
theorem UY (F:DE K "told_set" "told_set" GV f fd) (ZS:YD P w K mg base n):
 A8 P w K mg base DB (n+1) f fd ["stretches"] (BY K 1 Ew):=by
 have nd:=MU.nd
 exact Ae F MU rfl λ_ _ _ _ _ _ hr=>(AR (AY (AK ZS hr rfl (Al (AJ 0) AH))))
theorem MV:Aa ["one","other","apart"] ["one","other","apart"] (AU GW):=D0
theorem UZ (F:DE K "too_near" "too_near" GW f fd) (ZU:YF P w K mg base n) (dC:aE P w K mg base n) (Xv:Vg P w K mg base n):
 A8 P w K mg base DB (n+1) f fd ["one","other","apart"] (BY K 3 Ex):=by
 have nd:=MV.nd
 have nd0:(["stretch","piece"] :List Str).Nodup:=by decide +kernel
 exact Ae F MV rfl λ_ _ _ _ _ _ hr=>(AR (AY (AK Xv hr rfl (Bw (Cq (b9 rfl (F0 (AK dC hr rfl (Ep (AJ 0) (AJ 1) (AJ 2)))) (dU (own:=2) (own2:=1) (ix:= []) (N:= ["stretch","piece" ]) rfl rfl rfl rfl rfl rfl (by decide) (λ_ _ _ _ _ _=>(PF 1 nd0)) (λ_ _ _ _ _ _=>CC) (λ_ _ _ _ _ _=>(F0 (AK ZU hr rfl (Bw (AJ 1))))) (λ_ _ _ _ _ _=>(PF 0 nd0)) (λ_ _ _ _ _ _=>CC) (λ_ _ _ _ _ _=>(AJ 0)))))))))
theorem bq:Aa ["_law_script","_law_k","_law_wide","_law_tape_here","_law_one","_law_other","_law_apart_here","_law_plan_here","_law_beside_here","_law_first","_law_second","_law_far"] ["_law_script"] (AU Od):=D0
theorem je (F:DE K "law" "law" Od f fd) (G8:J3 P w K mg base n) (U9:T9 P w K mg base n) (Np:Mn P w K mg base n) (Iu:MG P w K mg base n 12) (Nr:Mo P w K mg base n) (Xw:Vh P w K mg base n) (BZ:mg "len" =none) (ci:mg "min" =none) (A7:mg "range" =none):
 A8 P w K mg base DB (n+1) f fd ["_law_script"] (BY K 1 Em):=by
 have nd:=bq.nd
 exact Ae F bq rfl λ_ _ _ _ _ _ hr=>(AM (CS PassesOwn.never rfl (MW rfl A7 (Bw (Ad Ay AH (Aw (kF rfl) rfl ci boot_min (Al AH (Aw EB rfl BZ PySem.boot_len (Bw (AJ 0)))))))) (G2 1 nd) (AM (Oz (AK U9 hr rfl (Al (AJ 0) (AJ 1))) (Dx (n:=4) rfl (An (G2 3 nd) (An (G2 4 nd) (An (G2 5 nd) (An (G2 6 nd) Co)))))) (AM (Oz (AK Nr hr rfl (Al (AJ 3) (AJ 6))) (Dx (n:=2) rfl (An (G2 7 nd) (An (G2 8 nd) Co)))) (AM (C0 2 nd (AK G8 hr rfl (Bw (AJ 3)))) (AR (CS PassesOwn.never rfl (F0 (AZ (Ep (AZ (Al (AJ 4) (AJ 5))) (AZ (Al (AJ 7) (AJ 8))) (AZ (Al (AJ 8) (AJ 7)))))) (Dx (n:=2) rfl (An (G2 9 nd) (An (G2 10 nd) Co))) (AR (CS PassesOwn.never rfl (F0 (AZ (Ep (AJ 6) (AJ 2) (AJ 6)))) (G2 11 nd) (AR (BF (Fh (Ba (AK Iu hr rfl (Al (AK Xw hr rfl (Ep (AJ 9) (AJ 10) (AJ 11))) (AK Np hr rfl (Ep (AJ 9) (AJ 10) (AJ 11))))))) (AR (AY Ur)) A4)))))))))) (AR (AY Ur)))
end
theorem aG {P:Program} {w:World} {K:PySem.W.Frag} {mg:Str->Option Value} {base:Heap} {k:Nat} {x:Str} {st:Stmt} {ps:List Str} {sp:Sp} {f:Addr} {fd:FuncData} (F:DE K x x st f fd) (b:Binds K fd ps []) (m:mg x=some (.ref f)) (G:A8 P w K mg base DB k f fd ps sp):Has P w K mg base k x ps sp:=⟨f,fd,m,F.kp,b,G⟩
theorem II {P:Program} {w:World} {K:PySem.W.Frag} {mg:Str->Option Value} {base:Heap} {k0:Nat} {f:Addr} {fd:FuncData} (F:DE K "_law_same" "_law_same" EO f fd) (b:Binds K fd ["_law_found","_law_due"] []) (m:mg "_law_same" =some (.ref f)) (Qx:mg "all" =none) (L6:mg "bool" =none) (CA:mg "int" =none) (BL:mg "isinstance" =none) (BZ:mg "len" =none) (Ma:mg "str" =none) (As:mg "tuple" =none) (DC:mg "zip" =none):
 ∀n:Nat,A8 P w K mg base DB (k0+n) f fd ["_law_found","_law_due"] (BY K 2 (Az n))
 | 0=>by
   have no:∀vs H Q E,¬BY K 2 (Az 0) vs H Q E:=λvs H Q E h=>by
    obtain ⟨_,_,_,_,_,_,_,_,h,_⟩:=h
    exact h
   exact ⟨λvs H Q E h=>absurd h (no vs H Q E),λA outer s H args us vs Q E _ _ _ _ h=>absurd h (no vs H Q E)⟩
 | n+1=>Ry (n:=k0+n) F (aG F b m (II F b m Qx L6 CA BL BZ Ma As DC n)) Qx L6 CA BL BZ Ma As DC
theorem md {us:List Value} (hl:us.length=1):∃x0:Value,us= [x0] :=by
 match us,hl with | [x0],_=>exact ⟨_,rfl⟩
theorem me {us:List Value} (hl:us.length=2):∃x0 x1:Value,us= [x0,x1] :=by
 match us,hl with | [x0,x1],_=>exact ⟨_,_,rfl⟩
theorem mj {us:List Value} (hl:us.length=3):∃x0 x1 x2:Value,us= [x0,x1,x2] :=by
 match us,hl with | [x0,x1,x2],_=>exact ⟨_,_,_,rfl⟩
theorem mo {us:List Value} (hl:us.length=4):∃x0 x1 x2 x3:Value,us= [x0,x1,x2,x3] :=by
 match us,hl with | [x0,x1,x2,x3],_=>exact ⟨_,_,_,_,rfl⟩
theorem mq {us:List Value} (hl:us.length=5):∃x0 x1 x2 x3 x4:Value,us= [x0,x1,x2,x3,x4] :=by
 match us,hl with | [x0,x1,x2,x3,x4],_=>exact ⟨_,_,_,_,_,rfl⟩
def Dn (K:PySem.W.Frag) (x:Str) (st:Stmt) (f:Addr):Prop:=PySem.W.nsIn K mainGlobals x=some (some (.ref f))/\∃fd,DE K x x st f fd
theorem sV {K:PySem.W.Frag} {x:Str} {st:Stmt} {f:Addr} {oc:Value} {od an:Option Addr} {osl:Array (Option Value)} {kV doc pm cdv ct:Value} (a:PySem.W.nsIn K mainGlobals x=some (some (.ref f))) (l:K.lookup f=some ⟨oc,od, .func (PySem.W.fnOf x x (GH st) (Eb st) (AU st) .none kV doc pm an cdv ct),osl⟩) (c:PySem.W.codeIn K cdv x=true) (k:PySem.W.keepIn K (.ref f)=true):Dn K x st f:=⟨a,_,Z4 l c k⟩
theorem p9 {P:Program} {w:World} {K:PySem.W.Frag} {h base:Heap} {mg:Str->Option Value} {k:Nat} {x:Str} {st:Stmt} {ps:List Str} {sp:Sp} {f:Addr} (A:Dn K x st f) (X:K.In h) (G:h.Ns mainGlobals mg) (g:∀fd,DE K x x st f fd->Binds K fd ps [] ->mg x=some (.ref f)->A8 P w K mg base DB k f fd ps sp) (b:∀fd,DE K x x st f fd->Binds K fd ps [] :=by exact λ_ F=>F.binds λ_ _ _ _ _ _ us hl=>by first | (obtain ⟨_,rfl⟩:=md hl;rfl)|(obtain ⟨_,_,rfl⟩:=me hl;rfl)|(obtain ⟨_,_,_,rfl⟩:=mj hl;rfl)|(obtain ⟨_,_,_,_,rfl⟩:=mo hl;rfl)|(obtain ⟨_,_,_,_,_,rfl⟩:=mq hl;rfl)):Has P w K mg base k x ps sp:=
 let ⟨a,fd,F⟩:=A;aG F (b fd F) (PySem.W.mg_of X G a) (g fd F (b fd F) (PySem.W.mg_of X G a))
theorem all_mk {l:PySem.W.OpenLaw} {w:World} {K:PySem.W.Frag} {h:Heap} {mg:Str->Option Value} {fa f1 f2 f3 f4 f5 f6 f7 f8 f9 f10 f11 f12 f13 f14 f15 f16 f17 f18 f19 f20 f21 f22 f23 f24 f25 f26 f27 f28 f29 f30 f31 f32 f33 f34 f35 f36 f37 f38 f39 f40 f41 f42 f43 f44 f45 f46 f47 f48 f49 f50 f51 f52 f53 f54 f55 f56:Addr} (X:K.In h) (G:h.Ns mainGlobals mg) (wD:mg "law" =some (.ref fa))
 (a1:Dn K "_law_draw" FN f1) (a2:Dn K "_law_apart" Ed f2) (a3:Dn K "_law_part" FQ f3) (a4:Dn K "_law_sum" GR f4) (a5:Dn K "_law_moved" Ef f5) (a6:Dn K "_law_off" GQ f6) (a7:Dn K "_law_place" Eg f7) (a8:Dn K "_law_span" FS f8) (a9:Dn K "_law_plan" FR f9) (a10:Dn K "_law_product" Dv f10) (a11:Dn K "_law_beside" EG f11) (a12:Dn K "_law_tape" FU f12) (a13:Dn K "_law_case" FM f13) (a14:Dn K "_law_less" FO f14) (a15:Dn K "_law_ratio" Eh f15) (a16:Dn K "_law_spot" FT f16) (a17:Dn K "_law_gap" GP f17) (a18:Dn K "_law_is_near" Du f18) (a19:Dn K "_law_offs" FP f19) (a20:Dn K "_law_rising" EI f20) (a21:Dn K "_law_share" Ei f21) (a22:Dn K "_law_turns" Ej f22) (a23:Dn K "_law_marks" Ee f23) (a24:Dn K "_law_middle" EH f24) (a25:Dn K "_law_near_set" DV f25) (a26:Dn K "_law_same" EO f26) (a27:Dn K "_law_touching" DW f27) (a28:Dn K "before" KW f28) (a29:Dn K "lesser" KZ f29) (a30:Dn K "common" KY f30) (a31:Dn K "part" SY f31) (a32:Dn K "minus" NJ f32) (a33:Dn K "plus" SZ f33) (a34:Dn K "times" NK f34) (a35:Dn K "moment_at" FV f35) (a36:Dn K "near_in" Hw f36) (a37:Dn K "shared_bottom" DX f37) (a38:Dn K "lines_of" GS f38) (a39:Dn K "over" SX f39) (a40:Dn K "size_of" Hy f40) (a41:Dn K "spot_between" Dw f41) (a42:Dn K "spot_at" Hz f42) (a43:Dn K "offs_at" Hx f43) (a44:Dn K "greater" Hv f44) (a45:Dn K "together" GU f45) (a46:Dn K "corners_between" Cn f46) (a47:Dn K "count_below" EJ f47) (a48:Dn K "rising" Kg f48) (a49:Dn K "turns" NL f49) (a50:Dn K "pieces" Kb f50) (a51:Dn K "steps_of" GT f51) (a52:Dn K "levels" Ka f52) (a53:Dn K "counted" Hu f53) (a54:Dn K "told_set" GV f54) (a55:Dn K "too_near" GW f55) (a56:Dn K "law" Od f56)
 (y_abs:PySem.W.nsIn K mainGlobals "abs" =some none) (y_all:PySem.W.nsIn K mainGlobals "all" =some none) (y_bool:PySem.W.nsIn K mainGlobals "bool" =some none) (y_enumerate:PySem.W.nsIn K mainGlobals "enumerate" =some none) (y_int:PySem.W.nsIn K mainGlobals "int" =some none) (y_isinstance:PySem.W.nsIn K mainGlobals "isinstance" =some none) (y_len:PySem.W.nsIn K mainGlobals "len" =some none) (y_list:PySem.W.nsIn K mainGlobals "list" =some none) (y_min:PySem.W.nsIn K mainGlobals "min" =some none) (y_range:PySem.W.nsIn K mainGlobals "range" =some none) (y_reversed:PySem.W.nsIn K mainGlobals "reversed" =some none) (y_str:PySem.W.nsIn K mainGlobals "str" =some none) (y_tuple:PySem.W.nsIn K mainGlobals "tuple" =some none) (y_zip:PySem.W.nsIn K mainGlobals "zip" =some none):
 ∃fd:FuncData,(∀(s:Shared) (v:Value),BindsTo s fd ⟨[v], []⟩ [("_law_script",v)])/\∀base:Heap,K.In base->base.Ns mainGlobals mg->A8 l.prog w K mg base DB 13 fa fd ["_law_script"] (BY K 1 Em):=by
 have e:=wD.symm.trans (PySem.W.mg_of X G a56.1)
 cases e
 obtain ⟨aL,fdL,FL⟩:=a56
 obtain ⟨⟨oc,od,kV,doc,pm,an,cdv,ct,osl,eL,lL,cL⟩,kL⟩:=FL
 subst eL
 have FL:=Z4 lL cL kL
 have EZ:=PySem.W.mg_none_of X G y_abs
 have Qx:=PySem.W.mg_none_of X G y_all
 have L6:=PySem.W.mg_none_of X G y_bool
 have Hg:=PySem.W.mg_none_of X G y_enumerate
 have CA:=PySem.W.mg_none_of X G y_int
 have BL:=PySem.W.mg_none_of X G y_isinstance
 have BZ:=PySem.W.mg_none_of X G y_len
 have L7:=PySem.W.mg_none_of X G y_list
 have ci:=PySem.W.mg_none_of X G y_min
 have A7:=PySem.W.mg_none_of X G y_range
 have JV:=PySem.W.mg_none_of X G y_reversed
 have Ma:=PySem.W.mg_none_of X G y_str
 have As:=PySem.W.mg_none_of X G y_tuple
 have DC:=PySem.W.mg_none_of X G y_zip
 refine ⟨PySem.W.fnOf "law" "law" (GH Od) (Eb Od) (AU Od) .none kV doc pm an cdv ct,λs v=> .of_eq rfl,λbase _ _=> ?_⟩
 have hs:= @p9 l.prog w K h base mg
 have H1:=hs a1 X G λ_ F _ _=>Rs (n:=0) F
 have H2:=hs a2 X G λ_ F _ _=>Pr (n:=1) F (Bc H1)
 have H3:=hs a3 X G λ_ F _ _=>Rv (n:=0) F EZ CA
 have H4:=hs a4 X G λ_ F _ _=>UU (n:=1) F (Bc H3)
 have H5:=hs a5 X G λ_ F _ _=>Pt (n:=2) F (Bc H4) A7 As
 have H6:=hs a6 X G λ_ F _ _=>UT (n:=1) F (Bc H3)
 have H7:=hs a7 X G λ_ F _ _=>Pu (n:=1) F (Bc H1) (Bc H3)
 have H8:=hs a8 X G λ_ F _ _=>Rz (n:=1) F (Bc H1) (Bc H3)
 have H9:=hs a9 X G λ_ F _ _=>Rx (n:=2) F (Bc H1) (Bc H7) (Bc H8) (Bc H4) BZ As
 have iL:=hs a10 X G λ_ F _ _=>Mt (n:=1) F (Bc H3)
 have ko:=hs a11 X G λ_ F _ _=>OQ (n:=3) F (Bc H1) (Bc H5) (Bc H6) (Bc H7) (Bc H9) (Bc iL) (Bc H8) (Bc H4) CA BZ JV As DC
 have vA:=hs a12 X G λ_ F _ _=>R3 (n:=0) F EZ CA BZ
 have vB:=hs a13 X G λ_ F _ _=>Rr (n:=4) F (Bc H2) (Bc ko) (Bc H1) (Bc H9) (Bc vA)
 have oR:=hs a14 X G λ_ F _ _=>Rt (n:=0) F
 have oS:=hs a15 X G λ_ F _ _=>Pw (n:=1) F (Bc H3)
 have sL:=hs a16 X G λ_ F _ _=>R0 (n:=2) F (Bc oR) (Bc H6) (Bc iL) (Bc oS) (Bc H4) A7 As DC
 have vC:=hs a17 X G λ_ F _ _=>US (n:=3) F (Bc oR) (Bc H6) (Bc oS) (Bc sL) EZ CA A7
 have vD:=hs a18 X G λ_ F _ _=>Ms (n:=4) F (Bc vC)
 have vE:=hs a19 X G λ_ F _ _=>Ru (n:=3) F (Bc H6) (Bc oS) (Bc sL) CA A7
 have sM:=hs a20 X G λ_ F _ _=>OS (n:=1) F (Bc oR) BZ
 have vF:=hs a21 X G λ_ F _ _=>Px (n:=2) F (Bc H6) (Bc iL) (Bc oS) (Bc H4)
 have vG:=hs a22 X G λ_ F _ _=>Py (n:=2) F (Bc oR) (Bc sM)
 have vH:=hs a23 X G λ_ F _ _=>Ps (n:=4) F (Bc H6) (Bc vE) (Bc sM) (Bc vF) (Bc vG) L7 DC
 have vI:=hs a24 X G λ_ F _ _=>OR (n:=2) F (Bc iL) (Bc H4)
 have vJ:=hs a25 X G λ_ F _ _=>Lr (n:=5) F (Bc vD) (Bc vH) (Bc vI) CA BZ A7 As
 have vK:=hs a26 X G λ_ F b m=>II (k0:=0) F b m Qx L6 CA BL BZ Ma As DC 12
 have vL:=hs a27 X G λ_ F _ _=>Lu (n:=3) F (Bc H1) (Bc H5) (Bc H6) (Bc H9) (Bc iL) (Bc H4) Hg CA A7 As
 have iM:=hs a28 X G λ_ F _ _=>Yb (n:=0) F
 have sN:=hs a29 X G λ_ F _ _=>Yd (n:=1) F (Bc iM)
 have sO:=hs a30 X G λ_ F _ _=>Yc (n:=0) F
 have la:=hs a31 X G λ_ F _ _=>eh (n:=1) F (Bc sO) EZ
 have pL:=hs a32 X G λ_ F _ _=>ah (n:=2) F (Bc la)
 have sP:=hs a33 X G λ_ F _ _=>e5 (n:=2) F (Bc la)
 have sQ:=hs a34 X G λ_ F _ _=>aj (n:=2) F (Bc la)
 have vM:=hs a35 X G λ_ F _ _=>R4 (n:=3) F (Bc pL) (Bc la) (Bc sP) (Bc sQ)
 have vN:=hs a36 X G λ_ F _ _=>V2 (n:=4) F (Bc iM) (Bc sN) (Bc vM)
 have vO:=hs a37 X G λ_ F _ _=>Lv (n:=1) F (Bc sO)
 have vP:=hs a38 X G λ_ F _ _=>UV (n:=2) F (Bc vO) DC
 have sR:=hs a39 X G λ_ F _ _=>eZ (n:=2) F (Bc la)
 have vQ:=hs a40 X G λ_ F _ _=>V4 (n:=0) F
 have vR:=hs a41 X G λ_ F _ _=>Mu (n:=3) F (Bc pL) (Bc sR) (Bc sP) (Bc sQ) As DC
 have vS:=hs a42 X G λ_ F _ _=>V5 (n:=4) F (Bc iM) (Bc vR) BZ A7
 have vT:=hs a43 X G λ_ F _ _=>V3 (n:=5) F (Bc pL) (Bc sR) (Bc vQ) (Bc vS) A7
 have vU:=hs a44 X G λ_ F _ _=>V1 (n:=1) F (Bc iM)
 have vV:=hs a45 X G λ_ F _ _=>UX (n:=2) F (Bc iM) (Bc vU) (Bc sN)
 have vW:=hs a46 X G λ_ F _ _=>JL (n:=1) F (Bc iM) As
 have vX:=hs a47 X G λ_ F _ _=>OT (n:=1) F (Bc iM) BZ
 have sS:=hs a48 X G λ_ F _ _=>Yg (n:=2) F (Bc vX) BZ
 have vY:=hs a49 X G λ_ F _ _=>ak (n:=3) F (Bc vW) (Bc sS)
 have vZ:=hs a50 X G λ_ F _ _=>Yf (n:=6) F (Bc vP) (Bc vT) (Bc vV) (Bc vY) BZ A7
 have vc:=hs a51 X G λ_ F _ _=>UW (n:=0) F
 have vd:=hs a52 X G λ_ F _ _=>Ye (n:=3) F (Bc sS) (Bc vc) L7
 have vf:=hs a53 X G λ_ F _ _=>V0 (n:=4) F (Bc vd) As
 have vg:=hs a54 X G λ_ F _ _=>UY (n:=5) F (Bc vf)
 have vh:=hs a55 X G λ_ F _ _=>UZ (n:=7) F (Bc vN) (Bc vZ) (Bc vg)
 exact je (n:=12) FL (Bc H2) (Bc vB) (Bc vJ) (Bc vK) (Bc vL) (Bc vh) BZ ci A7
theorem walk {l:PySem.W.OpenLaw} {q:Program} {loose:List Str} {XP:(Str->Option Value)->Heap->Prop} {YP:World->Heap->Prop} {d:DefRec} {K:Params->PySem.W.Frag} (hn:l.most=some 63) (mH:d.params.defaults= [])
 (hY:∀(w:World) (h:Heap),YP w h->(K w.params).In h)
 (F:∀(w:World) (mg:Str->Option Value) (fa:Addr) (h:Heap),(K w.params).In h->h.Ns mainGlobals mg->mg d.name=some (.ref fa)->
   ∃fd:FuncData,(∀(s:Shared) (u:Value),BindsTo s fd ⟨[u], []⟩ [("_law_script",u)])/\∀base:Heap,(K w.params).In base->base.Ns mainGlobals mg->A8 l.prog w (K w.params) mg base DB 13 fa fd ["_law_script"] (BY (K w.params) 1 Em)):
 PySem.W.WalkO q loose XP YP l.row.toRowW d [] (λf vs=>PySem.call f vs):=
 L2.walk_of (n:=63) (k:=13) (x:="_law_script") (CX:=λ_=>DB) (sp:=λw=>BY (K w.params) 1 Em) hn (by decide) mH ⟨rfl,by decide,by decide,rfl⟩ hY F (λ_ _ a ns hl _ hS=>PL.law_sp hS (aW ns hl)) λ_ _ _ _ _ z=>z
def m0:String:="law_skylanes_k23_ends_of_too_near"
def m1:String:="skylanes.fractions"
def m2:String:="skylanes.nearness"
def m3:String:="skylanes.plans"
def m4:String:="skylanes.stretches"
def eN (P:Params) (x:String) (i:Nat) (v:Value):DictEntry:=⟨PyData.keyHash P (Str.ofString x), .str (Str.ofString x) i,v⟩
abbrev eR (P:Params) (x:String) (i f:Nat):=eN P x i (.ref f)
def fO (x:String) (s:Stmt) (m:String) (i c:Nat):Obj:=⟨.type "function",none, .func (PySem.W.fnOf (Str.ofString x) (Str.ofString x) (GH s) (Eb s) (AU s) .none .none .none (.str (Str.ofString m) i) none (.ref c) .none), #[]⟩
def rV:Nat->Value
 | 0=> .none
 | n+1=> .ref (n+1)
def fc (x:String) (s:Stmt) (m:String) (mi c f i l n g a1 a2 a3 a4 a5 u:Nat) (r:PySem.W.Frag):PySem.W.Frag:=
 (c,⟨.type "code",none, .fields #[.str (Str.ofString x) i, .str (Str.ofString x) (i+1), .str (Str.ofString "/claim/cut.py") (i+2), .int l 0, .int n 0, .int 0 0, .int 0 0, .int g 0,rV a1, .bool true, .int 181 0,rV a2, .none,rV a3,rV a4,rV a5, .int u 0, .int l 0, .str (Str.ofString "/claim/cut.py") (u+1)], #[]⟩) ::
 (f,fO x s m mi c)::r
theorem atK {K:PySem.W.Frag} {x:String} {s:Stmt} (m:String) (i c f:Nat) (a:PySem.W.nsIn K mainGlobals (Str.ofString x)=some (some (.ref f)):=by kernel_rfl) (l:K.lookup f=some (fO x s m i c):=by kernel_rfl) (d:PySem.W.codeIn K (.ref c) (Str.ofString x)=true:=by kernel_rfl) (k:PySem.W.keepIn K (.ref f)=true:=by kernel_rfl):Dn K (Str.ofString x) s f:=sV a l d k
def qr (P:Params):Obj:=⟨.type "dict",none, .dict #[eN P "__name__" 165 (.str (Str.ofString "law_skylanes_k23_ends_of_too_near") 441),eN P "__doc__" 166 .none,eN P "__package__" 167 .none,eN P "__loader__" 168 (.builtin "__main__.__loader__#opaque"),eN P "__spec__" 169 .none,eR P "__annotations__" 170 6,eR P "__builtins__" 171 4,eN P "__file__" 173 (.str (Str.ofString "/claim/cut.py") 172),eN P "__cached__" 174 .none,eR P "common" 196 21,eR P "part" 205 28,eR P "plus" 213 35,eR P "minus" 221 42,eR P "times" 229 49,eR P "over" 237 56,eR P "before" 245 63,eR P "lesser" 253 70,eR P "greater" 261 77,eR P "shared_bottom" 271 84,eR P "count_below" 282 91,eR P "rising" 292 98,eR P "spot_between" 300 103,eR P "spot_at" 309 110,eR P "corners_between" 315 115,eR P "steps_of" 330 122,eR P "levels" 336 127,eR P "counted" 349 134,eR P "told_set" 356 141,eR P "together" 368 148,eR P "turns" 374 153,eR P "size_of" 382 160,eR P "offs_at" 388 165,eR P "lines_of" 402 172,eR P "pieces" 408 177,eR P "moment_at" 417 184,eR P "near_in" 434 191,eR P "too_near" 440 196,eR P "_law_tape" 452 203,eR P "_law_draw" 462 210,eR P "_law_part" 473 217,eR P "_law_less" 481 224,eR P "_law_sum" 489 231,eR P "_law_off" 497 238,eR P "_law_product" 505 245,eR P "_law_ratio" 513 252,eR P "_law_place" 521 259,eR P "_law_span" 529 266,eR P "_law_plan" 541 273,eR P "_law_apart" 549 280,eR P "_law_spot" 555 285,eR P "_law_moved" 561 290,eR P "_law_beside" 567 295,eR P "_law_case" 579 302,eR P "_law_gap" 595 309,eR P "_law_rising" 601 314,eR P "_law_turns" 607 319,eR P "_law_offs" 613 324,eR P "_law_share" 624 331,eR P "_law_marks" 642 338,eR P "_law_middle" 650 345,eR P "_law_is_near" 661 352,eR P "_law_near_set" 676 359,eR P "_law_same" 682 364,eR P "_law_touching" 688 369,eR P "law" 706 376] 65, #[]⟩
def KK (P:Params):PySem.W.Frag:=(3,qr P)::(fc "_law_draw" FN m0 441 209 210 453 157 2 3 204 205 206 207 208 460 <| fc "_law_apart" Ed m0 441 279 280 542 209 1 3 274 275 276 277 278 547 <| fc "_law_part" FQ m0 441 216 217 463 165 2 3 211 212 213 214 215 471 <| fc "_law_sum" GR m0 441 230 231 482 173 2 3 225 226 227 228 229 487 <| fc "_law_moved" Ef m0 441 289 290 556 221 3 3 286 287 0 0 288 559 <| fc "_law_off" GQ m0 441 237 238 490 175 2 3 232 233 234 235 236 495 <| fc "_law_place" Eg m0 441 258 259 514 181 1 3 253 254 255 256 257 519 <| fc "_law_span" FS m0 441 265 266 522 188 1 3 260 261 262 263 264 527 <| fc "_law_plan" FR m0 441 272 273 530 193 1 3 267 268 269 270 271 539 <| fc "_law_product" Dv m0 441 244 245 498 177 2 3 239 240 241 242 243 503 <| fc "_law_beside" EG m0 441 294 295 562 223 3 3 291 292 0 0 293 565 <| fc "_law_tape" FU m0 441 202 203 443 151 2 3 197 198 199 200 201 450 <| fc "_law_case" FM m0 441 301 302 568 247 2 3 296 297 298 299 300 577 <| fc "_law_less" FO m0 441 223 224 474 171 2 3 218 219 220 221 222 479 <| fc "_law_ratio" Eh m0 441 251 252 506 179 2 3 246 247 248 249 250 511 <| fc "_law_spot" FT m0 441 284 285 550 212 2 3 281 282 0 0 283 553 <| fc "_law_gap" GP m0 441 308 309 580 255 5 3 303 304 305 306 307 593 <| fc "_law_is_near" Du m0 441 351 352 651 304 4 3 346 347 348 349 350 659 <| fc "_law_offs" FP m0 441 323 324 608 283 4 3 320 321 0 0 322 611 <| fc "_law_rising" EI m0 441 313 314 596 269 1 3 310 311 0 0 312 599 <| fc "_law_share" Ei m0 441 330 331 614 287 4 3 325 326 327 328 329 622 <| fc "_law_turns" Ej m0 441 318 319 602 276 2 3 315 316 0 0 317 605 <| fc "_law_marks" Ee m0 441 337 338 625 292 3 3 332 333 334 335 336 640 <| fc "_law_middle" EH m0 441 344 345 643 302 2 3 339 340 341 342 343 648 <| fc "_law_near_set" DV m0 441 358 359 662 307 3 3 353 354 355 356 357 674 <| fc "_law_same" EO m0 441 363 364 677 320 2 3 360 361 0 0 362 680 <| fc "_law_touching" DW m0 441 368 369 683 328 2 3 365 366 0 0 367 686 <| fc "before" KW m1 187 62 63 238 19 2 3 57 58 59 60 61 243 <| fc "lesser" KZ m1 187 69 70 246 21 2 3 64 65 66 67 68 251 <| fc "common" KY m1 187 20 21 189 2 2 3 15 16 17 18 19 194 <| fc "part" SY m1 187 27 28 197 6 2 3 22 23 24 25 26 203 <| fc "minus" NJ m1 187 41 42 214 13 2 3 36 37 38 39 40 219 <| fc "plus" SZ m1 187 34 35 206 11 2 3 29 30 31 32 33 211 <| fc "times" NK m1 187 48 49 222 15 2 3 43 44 45 46 47 227 <| fc "moment_at" FV m2 357 183 184 409 128 3 3 178 179 180 181 182 415 <| fc "near_in" Hw m2 357 190 191 418 130 1 3 185 186 187 188 189 432 <| fc "shared_bottom" DX m1 187 83 84 262 25 1 3 78 79 80 81 82 269 <| fc "lines_of" GS m2 357 171 172 389 108 2 3 166 167 168 169 170 400 <| fc "over" SX m1 187 55 56 230 17 2 3 50 51 52 53 54 235 <| fc "size_of" Hy m2 357 159 160 375 102 2 3 154 155 156 157 158 380 <| fc "spot_between" Dw m3 293 102 103 295 48 3 3 99 100 0 0 101 298 <| fc "spot_at" Hz m3 293 109 110 301 51 2 3 104 105 106 107 108 307 <| fc "offs_at" Hx m2 357 164 165 383 104 4 3 161 162 0 0 163 386 <| fc "greater" Hv m1 187 76 77 254 23 2 3 71 72 73 74 75 259 <| fc "together" GU m2 357 147 148 359 95 2 3 142 143 144 145 146 366 <| fc "corners_between" Cn m3 293 114 115 310 58 3 3 111 112 0 0 113 313 <| fc "count_below" EJ m1 187 90 91 272 30 2 3 85 86 87 88 89 280 <| fc "rising" Kg m1 187 97 98 283 40 1 3 92 93 94 95 96 290 <| fc "turns" NL m2 357 152 153 369 99 4 3 149 150 0 0 151 372 <| fc "pieces" Kb m2 357 176 177 403 117 3 3 173 174 0 0 175 406 <| fc "steps_of" GT m4 316 121 122 318 61 1 3 116 117 118 119 120 328 <| fc "levels" Ka m4 316 126 127 331 70 1 3 123 124 0 0 125 334 <| fc "counted" Hu m4 316 133 134 337 80 2 3 128 129 130 131 132 347 <| fc "told_set" GV m4 316 140 141 350 92 1 3 135 136 137 138 139 354 <| fc "too_near" GW m2 357 195 196 435 148 3 3 192 193 0 0 194 438 <| fc "law" Od m0 441 375 376 689 341 1 3 370 371 372 373 374 704 <| [])
def KA:List Addr:= [3,209,210,279,280,216,217,230,231,289,290,237,238,258,259,265,266,272,273,244,245,294,295,202,203,301,302,223,224,251,252,284,285,308,309,351,352,323,324,313,314,330,331,318,319,337,338,344,345,358,359,363,364,368,369,62,63,69,70,20,21,27,28,41,42,34,35,48,49,183,184,190,191,83,84,171,172,55,56,159,160,102,103,109,110,164,165,76,77,147,148,114,115,90,91,97,98,152,153,176,177,121,122,126,127,133,134,140,141,195,196,375,376]
def q:Program:={PySem.Challenge.pw_skylanes_k23_ends_of_too_near with main:={PySem.Challenge.pw_skylanes_k23_ends_of_too_near.main with body:= [top 1,top 2,top 3,top 4,top 5,top 6,top 7,top 8,top 9,top 10,top 11,top 12,top 14,top 15,top 16,top 18,top 19,top 20,top 21,top 23,top 24,top 25,top 26,top 27,top 28,top 29,top 30,top 31,top 33,top 34,top 35,top 36,top 37,top 38,top 39,top 40,top 41,top 42,top 43,top 44,top 45,top 46,top 47,top 48,top 49,top 50,top 51,top 52,top 53,top 54,top 55,top 56,top 57,top 58,top 59,top 60] }}
end K23
open PySem PySem.W PyProof.Rows
set_option maxRecDepth 100000 in
set_option maxHeartbeats 0 in
theorem K23.lf:∀w,(openEnds treeTable PySem.Challenge.pw_skylanes_k23_ends_of_too_near w 6000).map (λs=>(openSeen K23.q [] (importedModules (PySem.Challenge.pw_skylanes_k23_ends_of_too_near).main.body) (λs=>xlAt K23.q [] s&&recOk [] s) true s,K23.KA.map s.heap.get?))=some (openGood K23.q [],(K23.KK w.params).map λp=>some p.2):=by
 intro w;kernel_rfl
set_option maxRecDepth 100000 in
set_option maxHeartbeats 0 in
theorem PySem.Challenge.cw_skylanes_k23_ends_of_too_near_holds : PySem.Challenge.rw_skylanes_k23_ends_of_too_near.Holds := by
 w_on;o_law
 refine holds_open (q:=K23.q) (loose:= []) (Xt:=λs=>xlAt K23.q [] s&&recOk [] s) (XP:=XL K23.q []) (YP:=InK K23.KK) (N:=6000) K23.lf (InK.of (as:=K23.KA) λ_=>by kernel_rfl) InK.keeps (λs e=>xl_of s (Bool.and_eq_true_iff.mp e).1) XL.keeps (by rfl) (by rfl) (by rfl) (λs e=>recFacts_of (Bool.and_eq_true_iff.mp e).2) (by rfl) (by first | assumption|decide +kernel) (by decide +kernel) ⟨rfl,rfl,rfl,rfl,rfl,by decide +kernel⟩ ?hw ?hc
 (case hw=>w_witness2)
 case hc=>
 refine K23.walk (l:=PySem.Challenge.rw_skylanes_k23_ends_of_too_near) (K:=K23.KK) rfl rfl (λw h Y=>Y) ?F
 intro w mg fa h KX G mM
 exact K23.all_mk KX G mM (K23.atK K23.m0 441 209 210) (K23.atK K23.m0 441 279 280) (K23.atK K23.m0 441 216 217) (K23.atK K23.m0 441 230 231) (K23.atK K23.m0 441 289 290) (K23.atK K23.m0 441 237 238) (K23.atK K23.m0 441 258 259) (K23.atK K23.m0 441 265 266) (K23.atK K23.m0 441 272 273) (K23.atK K23.m0 441 244 245) (K23.atK K23.m0 441 294 295) (K23.atK K23.m0 441 202 203) (K23.atK K23.m0 441 301 302) (K23.atK K23.m0 441 223 224) (K23.atK K23.m0 441 251 252) (K23.atK K23.m0 441 284 285) (K23.atK K23.m0 441 308 309) (K23.atK K23.m0 441 351 352) (K23.atK K23.m0 441 323 324) (K23.atK K23.m0 441 313 314) (K23.atK K23.m0 441 330 331) (K23.atK K23.m0 441 318 319) (K23.atK K23.m0 441 337 338) (K23.atK K23.m0 441 344 345) (K23.atK K23.m0 441 358 359) (K23.atK K23.m0 441 363 364) (K23.atK K23.m0 441 368 369) (K23.atK K23.m1 187 62 63) (K23.atK K23.m1 187 69 70) (K23.atK K23.m1 187 20 21) (K23.atK K23.m1 187 27 28) (K23.atK K23.m1 187 41 42) (K23.atK K23.m1 187 34 35) (K23.atK K23.m1 187 48 49) (K23.atK K23.m2 357 183 184) (K23.atK K23.m2 357 190 191) (K23.atK K23.m1 187 83 84) (K23.atK K23.m2 357 171 172) (K23.atK K23.m1 187 55 56) (K23.atK K23.m2 357 159 160) (K23.atK K23.m3 293 102 103) (K23.atK K23.m3 293 109 110) (K23.atK K23.m2 357 164 165) (K23.atK K23.m1 187 76 77) (K23.atK K23.m2 357 147 148) (K23.atK K23.m3 293 114 115) (K23.atK K23.m1 187 90 91) (K23.atK K23.m1 187 97 98) (K23.atK K23.m2 357 152 153) (K23.atK K23.m2 357 176 177) (K23.atK K23.m4 316 121 122) (K23.atK K23.m4 316 126 127) (K23.atK K23.m4 316 133 134) (K23.atK K23.m4 316 140 141) (K23.atK K23.m2 357 195 196) (K23.atK K23.m0 441 375 376) (by kernel_rfl) (by kernel_rfl) (by kernel_rfl) (by kernel_rfl) (by kernel_rfl) (by kernel_rfl) (by kernel_rfl) (by kernel_rfl) (by kernel_rfl) (by kernel_rfl) (by kernel_rfl) (by kernel_rfl) (by kernel_rfl) (by kernel_rfl)
end
