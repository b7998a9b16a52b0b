import PyProof.Rows.All
import Wide.All
import OpenK.AllK
import Wide.FinOn
import PyProof.EqAt
import PyProof.EqKinds
import PyProof.TupleCall
import Lean
import PyProof.IsiTupleAll
import PyProof.Draws
import PyProof.IsRules
import PySem.Challenge.RW_skylanes_k19_shapes_keep_what_is_flown
set_option Elab.async false
set_option linter.all false
set_option maxRecDepth 100000
set_option maxHeartbeats 4000000
section
namespace PySem
open Sem (wp)
abbrev FK:=(Int×Int)×Int
section
variable {prog:Program} {w:World}
def Gv (prog:Program) (w:World) (h:Heap) (k:FK) (a:Addr):Prop:=∃o items n b u,h.get? a=some o/\o.cls= .type "tuple" /\o.data= .seq items n/\items.toList= [.ref b, .int k.2 u] /\IsTupleKey (intKind prog w) h [k.1.1,k.1.2] b
theorem Gv.typeIs {s:Shared} {k:FK} {a:Addr} (x:Gv prog w s.heap k a):s.TypeIs (.ref a) "tuple" :=let ⟨o,_,_,_,_,ho,hc,_⟩:=x;⟨o,ho,hc⟩
theorem Gv.inj {h:Heap} {a:Addr} {x y:FK} (hx:Gv prog w h x a) (hy:Gv prog w h y a):x=y:=by
 obtain ⟨o,items,n,b,u,ho,_,hd,hi,hk⟩:=hx
 obtain ⟨o',items',n',b',u',UU,_,Lw,bE,jQ⟩:=hy
 obtain rfl:o=o':=Option.some.inj (ho.symm.trans UU)
 rw [hd] at Lw
 injection Lw with h1 _
 subst h1
 rw [hi] at bE
 injection bE with h1 h2
 injection h1 with h1
 subst h1
 injection h2 with h2 _
 injection h2 with h2 _
 have:=hk.inj jQ
 obtain ⟨⟨x1,x2⟩,x3⟩:=x
 obtain ⟨⟨y1,y2⟩,y3⟩:=y
 injection this with e1 e2
 injection e2 with e2 _
 simp only at h2 e1 e2
 subst h2;subst e1;subst e2
 rfl
theorem Gv.keeps {h h':Heap} {k:FK} {a d:Addr} {o:Obj} {es ep} (x:Gv prog w h k a) (ho:h.get? d=some o) (hd:o.data= .dict es ep) (hs:Heap.SameBut d h h'):Gv prog w h' k a:=by
 obtain ⟨o',items,n,b,u,UU,hc,Lw,hi,hk⟩:=x
 have QK:a≠d:=by
  rintro rfl
  obtain rfl:o'=o:=Option.some.inj (UU.symm.trans ho)
  rw [hd] at Lw;exact nomatch Lw
 exact ⟨o',items,n,b,u,(hs.2 a QK).trans UU,hc,Lw,hi,hk.keeps ho hd hs⟩
def Qs (prog:Program) (w:World) (k:FK):Int:=reduceHash (Builtin.Tuple.tupleHashOf [tupleKeyHash (intKind prog w) [k.1.1,k.1.2],hashInt k.2])
variable {A:Around} {E:Value->Shared->Prop} {s:Shared}
theorem Jr {k:FK} {a:Addr} {Q:Int->Shared->Prop} (hu:A.units+1<cLine) (hk:Gv prog w s.heap k a) (h:Q (Qs prog w k) {s with toks:=s.toks+5}):
 wpAny (model prog w) A (pyHash (.ref a)) Q E s:=by
 have hT:=hk.typeIs
 obtain ⟨o,items,n,b,u,ho,_,hd,hi,gR⟩:=hk
 unfold pyHash
 first | unfold pyHashByItsType|skip
 first | refine wpAny_bind (wpAny_cRoomFor_or (.inr (by omega)) ?_)|skip
 refine wpAny_bind (wpAny_specialOf hT F.slot_tuple_hash.lookup ?_)
 show wpAny _ _ (if (some (Value.builtin "tuple.__hash__")==some Value.none)=true then _ else _) Q E s
 rw [if_neg (by rw [beq_builtin_none];exact Bool.false_ne_true)]
 refine wpAny_bind (wpAny_specialOf hT F.slot_tuple_hash.lookup ?_)
 show wpAny _ _ (callSpecialIfBoundUnlessNone? (.ref a) "__hash__" _ >>= _) Q E s
 refine wpAny_bind (wpAny_callSpecialIfBoundUnlessNone?_slot hT F.slot_tuple_hash (wpAny_call_entry F.slot_tuple_hash hT F.entry_tuple_hash ?_ (F.args_tuple_hash_1 _)))
 show wpAny _ _ (Builtin.Tuple.tupleItemsOf (.ref a) >>= _) _ _ s
 refine wpAny_bind (wpAny_tupleItemsOf ho hd ?_)
 refine wpAny_bind ?_
 rw [<-Array.forIn_toList,hi]
 refine wpAny_forIn_list _
  (λrest (r:Array Int) s'=>(rest= [.ref b, .int k.2 u] /\r.toList= [] /\s'=s)\/(rest= [.int k.2 u] /\r.toList= [tupleKeyHash (intKind prog w) [k.1.1,k.1.2]] /\s'={s with toks:=s.toks+3})\/
    (rest= [] /\r.toList= [tupleKeyHash (intKind prog w) [k.1.1,k.1.2],hashInt k.2] /\s'={s with toks:=s.toks+4}))
  _ ?_ ?_ _ _ (.inl ⟨rfl,rfl,rfl⟩)
 ·rintro x rest r s' (⟨e1,e2,rfl⟩|⟨e1,e2,rfl⟩|⟨e1,_⟩)
  ·cases e1
   refine wpAny_bind (wpAny_pyHash_tuple (knd:=intKind prog w) (by first | exact hu|omega) gR ?_)
   exact wpAny_pure (.inr (.inl ⟨rfl,by simp [e2],rfl⟩))
  ·cases e1
   refine wpAny_bind (wpAny_pyHash_int ?_)
   exact wpAny_pure (.inr (.inr ⟨rfl,by simp [e2],by simp [Nat.add_assoc]⟩))
  ·cases e1
 ·rintro r s' (⟨e1,_⟩|⟨e1,_⟩|⟨_,e2,rfl⟩)
  ·cases e1
  ·cases e1
  ·show wpAny _ _ (retInt (Builtin.Tuple.tupleHashOf r.toList)) _ _ _
   rw [e2]
   refine wpAny_ret_mkInt ?_
   show wpAny _ _ (if (decide (-(2:Int)^63<=Builtin.Tuple.tupleHashOf [tupleKeyHash (intKind prog w) [k.1.1,k.1.2],hashInt k.2])&&decide (Builtin.Tuple.tupleHashOf [tupleKeyHash (intKind prog w) [k.1.1,k.1.2],hashInt k.2] < 2^63))=true then _ else _) Q E _
   unfold Qs reduceHash at h
   by_cases hr:(decide (-(2:Int)^63<=Builtin.Tuple.tupleHashOf [tupleKeyHash (intKind prog w) [k.1.1,k.1.2],hashInt k.2])&&decide (Builtin.Tuple.tupleHashOf [tupleKeyHash (intKind prog w) [k.1.1,k.1.2],hashInt k.2] < 2^63))=true
   ·rw [if_pos hr]
    rw [if_pos hr] at h
    exact wpAny_pure (by simpa [Nat.add_assoc] using h)
   ·rw [if_neg hr]
    rw [if_neg hr] at h
    exact wpAny_bind (wpAny_rule (wpAny_pure (by simpa [Nat.add_assoc] using h)))
theorem Qt {x y:FK} {a b:Addr} {P:Fin->Shared->Prop} (hu:A.units<cLine) (hx:Gv prog w s.heap x a) (hy:Gv prog w s.heap y b) (h:P (.done (.ret (.bool (decide (x=y))))) s):
 wpAny (model prog w) A (Builtin.«tuple.__eq__» ⟨[.ref a, .ref b], []⟩) P E s:=by
 have lY:=hy.typeIs
 obtain ⟨oa,xs,na,ba,ua,mF,_,lp,jO,l0⟩:=hx
 obtain ⟨ob,ys,nb,bb,ub,mH,_,hdb,jP,l4⟩:=hy
 have sx:xs.size=2:=by rw [<-Array.length_toList,jO];rfl
 have sy:ys.size=2:=by rw [<-Array.length_toList,jP];rfl
 obtain ⟨⟨x1,x2⟩,x3⟩:=x
 obtain ⟨⟨y1,y2⟩,y3⟩:=y
 show wpAny _ _ (isInstance (.ref b) (.type "tuple") >>= _) _ _ s
 refine wpAny_bind (wpAny_isInstance lY isSubtype_tuple_tuple ?_)
 simp only [Bool.not_true,Bool.false_eq_true,if_false]
 refine wpAny_bind (wpAny_tupleItemsOf mF lp ?_)
 refine wpAny_bind (wpAny_tupleItemsOf mH hdb ?_)
 refine wpAny_bind ?_
 rw [jO,jP]
 refine wpAny_forIn_list _
  (λrest r s'=>r.1=none/\s'=s/\(rest= [(.ref ba, .ref bb),(.int x3 ua, .int y3 ub)] \/(rest= [(.int x3 ua, .int y3 ub)] /\x1=y1/\x2=y2)\/(rest= [] /\x1=y1/\x2=y2/\x3=y3)))
  _ ?_ ?_ _ _ ⟨rfl,rfl, .inl rfl⟩
 ·rintro ⟨u,v⟩ rest r s' ⟨hr,rfl,(hz|⟨hz,e1,e2⟩|⟨hz,_⟩)⟩
  ·cases hz
   refine wpAny_bind (wpAny_eqBool_tuple (knd:=intKind prog w) (by first | exact hu|omega) l0 l4 ?_)
   by_cases hk:x1=y1/\x2=y2
   ·rw [decide_eq_true (by rw [hk.1,hk.2])]
    simp only [Bool.not_true,Bool.false_eq_true,if_false]
    exact wpAny_pure ⟨rfl,rfl, .inr (.inl ⟨by first | trivial|rfl,hk⟩)⟩
   ·rw [decide_eq_false (by intro z;injection z with z1 z2;injection z2 with z2 _;exact hk ⟨z1,z2⟩)]
    simp only [Bool.not_false,if_true]
    have hf:decide ((((x1,x2),x3):FK)=((y1,y2),y3))=false:=by
     apply decide_eq_false
     intro z
     injection z with z1 z2
     injection z1 with z3 z4
     exact hk ⟨z3,z4⟩
    rw [hf] at h
    exact wpAny_bind (wpAny_pure (wpAny_pure (wpAny_pure h)))
  ·cases hz
   refine wpAny_bind (wpAny_eqBool_int ?_)
   by_cases hk:x3=y3
   ·rw [show (x3==y3)=true by simp [hk]]
    simp only [Bool.not_true,Bool.false_eq_true,if_false]
    exact wpAny_pure ⟨rfl,rfl, .inr (.inr ⟨by first | trivial|rfl,e1,e2,hk⟩)⟩
   ·rw [show (x3==y3)=false by simp [hk]]
    simp only [Bool.not_false,if_true]
    have hf:decide ((((x1,x2),x3):FK)=((y1,y2),y3))=false:=by
     apply decide_eq_false
     intro z
     injection z with z1 z2
     exact hk z2
    rw [hf] at h
    exact wpAny_bind (wpAny_pure (wpAny_pure (wpAny_pure h)))
  ·cases hz
 ·rintro ⟨r1,r2⟩ s' ⟨hr,rfl,(hz|⟨hz,_⟩|⟨_,e1,e2,e3⟩)⟩
  ·cases hz
  ·cases hz
  ·simp only at hr
   subst hr
   refine wpAny_pure ?_
   show P (.done (.ret (.bool (xs.size==ys.size)))) s'
   rw [sx,sy]
   rw [decide_eq_true (by rw [e1,e2,e3])] at h
   exact h
theorem Jq {x y:FK} {a b:Addr} {Q:Bool->Shared->Prop} (hu:A.units+1<cLine) (hx:Gv prog w s.heap x a) (hy:Gv prog w s.heap y b) (h:Q (decide (x=y)) s):
 wpAny (model prog w) A (eqBool (.ref a) (.ref b)) Q E s:=by
 unfold eqBool
 try with_reducible refine wpAny_holding ?_
 show wpAny _ _ (if (Value.ref a==Value.ref b)=true then _ else _) Q E s
 by_cases Qx:(Value.ref a==Value.ref b)=true
 ·rw [if_pos Qx]
  have e:a=b:=by have:=eq_of_beq Qx;injection this
  subst e
  obtain rfl:=hx.inj hy
  exact wpAny_bind (wpAny_rule (wpAny_pure (by simpa using h)))
 ·rw [if_neg Qx]
  exact wpAny_bind (wpAny_richCompare_same_room (op:= .Eq) hx.typeIs hy.typeIs F.slot_tuple_eq
   (wpAny_call_entry F.slot_tuple_eq hx.typeIs F.entry_tuple_eq (Qt (by first | exact hu|omega) hx hy ⟨_,rfl,(λe=>nomatch e),wpAny_truthy_bool h⟩) (F.args_tuple_eq_2 _ _)) (by omega))
theorem FN {K:Type} [DecidableEq K] {knd:KeyKind prog w K} {ks:List K} {a:Addr} {Q:Bool->Shared->Prop} (m:Nat) (hk:IsTupleKey knd s.heap ks a) (h:Q true s):wpAny (model prog w) A (eqIsQuiet (m+1) (.ref a)) Q E s:=by
 have hT:=hk.typeIs
 obtain ⟨o,items,n,ho,_,hd,hi⟩:=hk
 unfold eqIsQuiet
 refine wpAny_bind (wpAny_specialOf hT F.slot_tuple_eq.lookup ?_)
 show wpAny _ _ (isInstance (.ref a) (.type "tuple") >>= _) _ _ s
 refine wpAny_bind (wpAny_isInstance hT isSubtype_tuple_tuple ?_)
 simp only [Bool.not_true,Bool.false_eq_true,if_false]
 refine wpAny_bind (wpAny_seqItems ho hd ?_)
 refine wpAny_bind ?_
 show wpAny _ _ (forIn items _ _) _ _ s
 rw [<-Array.forIn_toList]
 refine wpAny_forIn_list _ (λrest r s'=>r.1=none/\s'=s/\∀v∈rest,carriedByValue v=true) _ ?_ ?_ _ _ ⟨rfl,rfl,hi.byValue⟩
 ·rintro v rest r s' ⟨hr,rfl,MA⟩
  rw [eqIsQuiet_byValue _ (MA v List.mem_cons_self)]
  refine wpAny_bind (wpAny_pure ?_)
  simp only [Bool.not_true,Bool.false_eq_true,if_false]
  exact wpAny_pure ⟨rfl,rfl,λu mO=>MA u (List.mem_cons_of_mem _ mO)⟩
 ·rintro ⟨r1,r2⟩ s' ⟨hr,rfl,_⟩
  simp only at hr
  subst hr
  exact wpAny_pure h
theorem G6 {k:FK} {a:Addr} {Q:Bool->Shared->Prop} (hk:Gv prog w s.heap k a) (h:Q true s):wpAny (model prog w) A (eqIsQuiet 8 (.ref a)) Q E s:=by
 have hT:=hk.typeIs
 obtain ⟨o,items,n,b,u,ho,_,hd,hi,gR⟩:=hk
 unfold eqIsQuiet
 refine wpAny_bind (wpAny_specialOf hT F.slot_tuple_eq.lookup ?_)
 show wpAny _ _ (isInstance (.ref a) (.type "tuple") >>= _) _ _ s
 refine wpAny_bind (wpAny_isInstance hT isSubtype_tuple_tuple ?_)
 simp only [Bool.not_true,Bool.false_eq_true,if_false]
 refine wpAny_bind (wpAny_seqItems ho hd ?_)
 refine wpAny_bind ?_
 show wpAny _ _ (forIn items _ _) _ _ s
 rw [<-Array.forIn_toList,hi]
 refine wpAny_forIn_list _ (λrest r s'=>r.1=none/\s'=s/\(rest= [.ref b, .int k.2 u] \/rest= [.int k.2 u] \/rest= [])) _ ?_ ?_ _ _ ⟨rfl,rfl, .inl rfl⟩
 ·rintro v rest r s' ⟨hr,rfl,(hz|hz|hz)⟩
  ·cases hz
   refine wpAny_bind (FN (knd:=intKind prog w) 6 gR ?_)
   simp only [Bool.not_true,Bool.false_eq_true,if_false]
   exact wpAny_pure ⟨rfl,rfl, .inr (.inl (by first | trivial|rfl))⟩
  ·cases hz
   rw [eqIsQuiet_byValue _ rfl]
   refine wpAny_bind (wpAny_pure ?_)
   simp only [Bool.not_true,Bool.false_eq_true,if_false]
   exact wpAny_pure ⟨rfl,rfl, .inr (.inr (by first | trivial|rfl))⟩
  ·cases hz
 ·rintro ⟨r1,r2⟩ s' ⟨hr,rfl,_⟩
  simp only at hr
  subst hr
  exact wpAny_pure h
end
def fkKind (prog:Program) (w:World):HeapKind prog w FK where
 is:=Gv prog w
 hash:=Qs prog w
 draws:=λ_=>5
 room:=λA=>A.units+1<cLine
 inj:=λhx hy=>hx.inj hy
 keeps:=λx ho hd hs=>x.keeps ho hd hs
 pyHash:=λhu hk h=>Jr hu hk h
 eqBool:=λhu hx hy h=>Jq hu hx hy h
 quiet:=λhk h=>G6 hk h
end PySem
end
namespace L2
open PySem PySem.Spec PyProof.Rows
abbrev C5:=Sum Int Str
def Mc:C5->Value->Bool
 | .inl k,v=>Value.isInt k v
 | .inr x,v=>Value.isStrOf x v
def gr (w:World):C5->Int
 | .inl k=>hashInt k
 | .inr x=>hashStr w x
theorem Bo:∀{k:C5} {v:Value},Mc k v=true->(∃i t,k=Sum.inl i/\v=Value.int i t)\/(∃x t,k=Sum.inr x/\v=Value.str x t)
 | .inl i,v,h=>by
   obtain ⟨t,e⟩:=Value.isInt_shape (k:=i) (v:=v) h
   exact .inl ⟨i,t,rfl,e⟩
 | .inr x,v,h=>by
   obtain ⟨t,e⟩:=Value.isStrOf_shape (x:=x) (v:=v) h
   exact .inr ⟨x,t,rfl,e⟩
theorem Tp (i:Int) (t:Tok):Mc (.inl i) (.int i t)=true:=by simp [Mc,Value.isInt]
theorem Tq (x:Str) (t:Tok):Mc (.inr x) (.str x t)=true:=by simp [Mc,Value.isStrOf]
theorem Ze (a b:Int):decide ((Sum.inl a:C5)=Sum.inl b)=(a==b):=by
 by_cases e:a=b
 ·subst e;simp
 ·have h:¬(Sum.inl a:C5)=Sum.inl b:=λq=>e (Sum.inl.inj q)
  rw [decide_eq_false h]
  exact (beq_eq_false_iff_ne.mpr e).symm
theorem Zh (a b:Str):decide ((Sum.inr a:C5)=Sum.inr b)=decide (a=b):=by
 by_cases e:a=b
 ·subst e;simp
 ·have h:¬(Sum.inr a:C5)=Sum.inr b:=λq=>e (Sum.inr.inj q)
  rw [decide_eq_false h,decide_eq_false e]
theorem Zf (a:Int) (b:Str):decide ((Sum.inl a:C5)=Sum.inr b)=false:=decide_eq_false (λq=>nomatch q)
theorem Zg (a:Str) (b:Int):decide ((Sum.inr a:C5)=Sum.inl b)=false:=decide_eq_false (λq=>nomatch q)
def CF (prog:Program) (w:World):PySem.KeyKind prog w C5 where
 is:=Mc
 hash:=gr w
 inj:=λv a b ha hb=>by
  rcases Bo ha with ⟨i,t,rfl,rfl⟩|⟨x,t,rfl,rfl⟩
  ·rcases Bo hb with ⟨j,u,rfl,e⟩|⟨y,u,rfl,e⟩
   ·injection e with e1 _;rw [e1]
   ·exact nomatch e
  ·rcases Bo hb with ⟨j,u,rfl,e⟩|⟨y,u,rfl,e⟩
   ·exact nomatch e
   ·injection e with e1 _;rw [e1]
 byValue:=λk v h=>by
  rcases Bo h with ⟨i,t,rfl,rfl⟩|⟨x,t,rfl,rfl⟩ <;> rfl
 pyHash:=λhv h=>by
  rcases Bo hv with ⟨i,t,rfl,rfl⟩|⟨x,t,rfl,rfl⟩
  ·exact wpAny_pyHash_int h
  ·exact wpAny_pyHash_str h
 eqBool:=λhu hv h=>by
  rcases Bo hu with ⟨i,t,rfl,rfl⟩|⟨x,t,rfl,rfl⟩
  ·rcases Bo hv with ⟨j,u,rfl,rfl⟩|⟨y,u,rfl,rfl⟩
   ·rw [Ze] at h;exact wpAny_eqBool_int h
   ·rw [Zf] at h;exact SeqAt.EqAt.int_str i t y u _ _ _ _ h
  ·rcases Bo hv with ⟨j,u,rfl,rfl⟩|⟨y,u,rfl,rfl⟩
   ·rw [Zg] at h;exact SeqAt.EqAt.str_int x t j u _ _ _ _ h
   ·rw [Zh] at h;exact wpAny_eqBool_str h
 «strs»:=λk x t v h=>by
  rcases Bo h with ⟨i,u,rfl,e⟩|⟨y,u,rfl,e⟩
  ·exact nomatch e
  ·injection e with e1 _
   subst e1
   cases v <;> rfl
theorem Pi (prog:Program) (w:World) (i:Int) (t:Tok):(CF prog w).is (.inl i) (.int i t)=true:=Tp i t
theorem Pj (prog:Program) (w:World) (x:Str) (t:Tok):(CF prog w).is (.inr x) (.str x t)=true:=Tq x t
end L2
namespace L2
open PySem PySem.Spec PyProof.Rows
inductive V where
 | non|bl (b:Bool)|int (i:Int)|str (x:Str)|byt (b:Array UInt8)|flt (b:UInt64)|ref (a:Addr)|ty (n:String)
 deriving DecidableEq
def RelV:V->Value->Prop
 | .non,u=>u=Value.none
 | .bl b,u=>u=Value.bool b
 | .int i,u=>∃t,u=Value.int i t
 | .str x,u=>∃t,u=Value.str x t
 | .byt b,u=>∃t,u=Value.bytes b t
 | .flt b,u=>∃t,u=Value.float b t
 | .ref a,u=>u=Value.ref a
 | .ty n,u=>u=Value.type n
abbrev Aq:List V->List Value->Prop:=Paired RelV
theorem Aq.length {xs:List V} {us:List Value} (r:Aq xs us):xs.length=us.length:=Paired.length r
theorem Aq.get:∀{xs:List V} {us:List Value} {i:Nat} {x:V},Aq xs us->xs[i]? =some x->∃u,us[i]? =some u/\RelV x u
 | _,_,_,_, .nil,e=>by simp at e
 | _,_,0,_, .cons r _,e=>by simp at e;subst e;exact ⟨_,rfl,r⟩
 | _,_,i+1,x, .cons _ t,e=>by
   obtain ⟨u,h1,h2⟩:=Aq.get (i:=i) (x:=x) t (by simpa using e)
   exact ⟨u,by simpa using h1,h2⟩
theorem Aq.set {x:V} {u:Value} (r:RelV x u):∀{xs:List V} {us:List Value} (i:Nat),Aq xs us->Aq (xs.set i x) (us.set i u)
 | _,_,_, .nil=> .nil
 | _,_,0, .cons _ t=> .cons r t
 | _,_,i+1, .cons q t=> .cons q (Aq.set r i t)
theorem Aq.append:∀{xs ys:List V} {us ws:List Value},Aq xs us->Aq ys ws->Aq (xs++ys) (us++ws)
 | _,_,_,_, .nil,s=>s
 | _,_,_,_, .cons r t,s=> .cons r (Aq.append t s)
theorem Aq.take:∀{xs:List V} {us:List Value} (n:Nat),Aq xs us->Aq (xs.take n) (us.take n)
 | _,_,0,_=> .nil
 | _,_,_+1, .nil=> .nil
 | _,_,n+1, .cons r t=> .cons r (Aq.take n t)
theorem Aq.drop:∀{xs:List V} {us:List Value} (n:Nat),Aq xs us->Aq (xs.drop n) (us.drop n)
 | _,_,0,r=>r
 | _,_,_+1, .nil=> .nil
 | _,_,n+1, .cons _ t=>Aq.drop n t
def Ib:Option V->Option Value->Prop
 | some v,some u=>RelV v u
 | none,none=>True
 | _,_=>False
def KV {κ:Type}:List (κ×V)->List (κ×Value)->Prop:=Paired λ(p:κ×V) (q:κ×Value)=>p.1=q.1/\RelV p.2 q.2
def kV:C5->V
 | .inl i=> .int i
 | .inr x=> .str x
inductive HO where
 | lst (xs:List V)
 | tup (xs:List V)
 | dK (kvs:List (C5×V))|dT (kvs:List (List C5×V))|dN (K:PySem.W.Frag) (kvs:List (PySem.FK×V))
 | set (S:Int->Bool) (n:Nat)
 | ins (C dx:Addr) (fs:List (Str×V))
 | own (x:Addr)
 | xd (fs:List (Str×V))
 | met (f x:Addr)
 | rng (lo hi:Int)
 | frz (o:Obj) (u:HO)
 | tbl (ps:Array Value)
 | ext (φ:Heap->Prop)
abbrev Hp:=Addr->Option HO
def upd (H:Hp) (a:Addr) (o:HO):Hp:=λb=>if b=a then some o else H b
theorem A1 {H:Hp} {a:Addr} {o:HO}:upd H a o a=some o:=by unfold upd;rw [if_pos rfl]
theorem Al {H:Hp} {a b:Addr} {o:HO} (h:b≠a):upd H a o b=H b:=by unfold upd;rw [if_neg h]
theorem YS {H:Hp} {a:Addr} {o u:HO}:upd (upd H a o) a u=upd H a u:=by
 funext b;unfold upd;split <;> rfl
theorem BG {H:Hp} {a b:Addr} {o:HO} (h:H a=some o) (h':H b=none):a≠b:=by
 intro e;subst e;rw [h] at h';cases h'
def fv (K:PySem.W.Frag) (H:Hp) (b:Addr) (t d:Int):Prop:=H b=some (.tup [.int t, .int d])\/∃(o:Obj) (its:Array Value) (n:Nat),K.lookup b=some o/\o.cls= .type "tuple" /\o.data= .seq its n/\Aq [.int t, .int d] its.toList
def TC (K:PySem.W.Frag) (H:Hp) (a:Addr) (k:PySem.FK):Prop:=∃b,H a=some (.tup [.ref b, .int k.2])/\fv K H b k.1.1 k.1.2
theorem TC.stay {K:PySem.W.Frag} {H H':Hp} {a:Addr} {k:PySem.FK} (x:TC K H a k) (ht:∀b xs,H b=some (.tup xs)->H' b=some (.tup xs)):TC K H' a k:=let ⟨b,h1,h2⟩:=x;⟨b,ht _ _ h1,h2.elim (λz=> .inl (ht _ _ z)) .inr⟩
section
variable (P:Program) (w:World)
def Cm (H:Hp) (h:Heap) (a:Addr):HO->Prop
 | .lst xs=>xs.length<=sizeLine/\∃(its:List Value) (n:Nat),Aq xs its/\h.get? a=some {cls:= .type "list",data:= .seq its.toArray n}
 | .tup xs=>xs.length<=sizeLine/\∃its:List Value,Aq xs its/\IsTup h a its.toArray
 | .dK kvs=>kvs.length<=sizeLine/\(a==sysModules)=false/\∃vs,KV kvs vs/\h.DictOf (CF P w) a vs
 | .dT kvs=>kvs.length<=sizeLine/\(a==sysModules)=false/\∃xs:List (List C5×Addr×Value),
     Paired (λ(p:List C5×V) (q:List C5×Addr×Value)=>p.1=q.1/\H q.2.1=some (.tup (p.1.map kV))/\RelV p.2 q.2.2) kvs xs/\
     ∃o es ep,h.get? a=some o/\o.ExactDict/\o.data= .dict es ep/\es.toList=xs.map (entryOfKey (tupleKind (CF P w)))/\(xs.map (·.1)).Nodup
 | .dN K kvs=>kvs.length<=sizeLine/\(a==sysModules)=false/\∃xs:List (PySem.FK×Addr×Value),Paired (λ(p:PySem.FK×V) (q:PySem.FK×Addr×Value)=>p.1=q.1/\TC K H q.2.1 p.1/\RelV p.2 q.2.2) kvs xs/\∃o es ep,h.get? a=some o/\o.ExactDict/\o.data= .dict es ep/\es.toList=xs.map (entryOfKey (PySem.fkKind P w))/\(xs.map (·.1)).Nodup
 | .set S n=>h.SetOf (intKind P w) a S n
 | .ins C dx fs=>H dx=some (.own a)/\fs.length<=1000/\dx≠a/\h.get? a=some (PySem.W.instObj C dx)/\
     ∃mA,h.Ns1 dx mA/\(∀f,Ib (fs.lookup f) (mA f))/\PySem.Within mA (fs.map (·.1))
 | .own _=>∃o,h.get? a=some o
 | .xd fs=>∃mA,h.Ns1 a mA/\∀f,Ib (fs.lookup f) (mA f)
 | .rng lo hi=>∃t u v,h.get? a=some {cls:= .type "range",data:= .fields #[.int lo t, .int hi u, .int 1 v] }
 | .frz o u=>h.get? a=some o/\Cm H h a u
 | .tbl ps=>h.get? a=some {cls:= .none,data:= .fields ps}
 | .met f x=>h.get? a=some (PySem.W.methodObj (.ref f) (.ref x))
 | .ext φ=>φ h/\(∃o,h.get? a=some o)/\∀h1 h2:Heap,φ h1->(∀o,h1.get? a=some o->h2.get? a=some o)->φ h2
def IM (H:Hp) (h:Heap):Prop:=∀a o,H a=some o->Cm P w H h a o
end
section
variable {P:Program} {w:World} {H H':Hp} {h h':Heap} {a:Addr} {o:HO}
theorem Cm.lt (x:Cm P w H h a o):a<h.objs.size:=by
 cases o with
 | lst xs=>obtain ⟨_,_,_,_,e⟩:=x;exact Heap.lt_size e
 | tup xs=>obtain ⟨_,_,_,p⟩:=x;exact p.lt
 | dK kvs=>obtain ⟨_,_,_,_,o,_,_,e,_⟩:=x;exact Heap.lt_size e
 | dT kvs=>obtain ⟨_,_,_,_,o,_,_,e,_⟩:=x;exact Heap.lt_size e
 | dN K kvs=>obtain ⟨_,_,_,_,o,_,_,e,_⟩:=x;exact Heap.lt_size e
 | set S n=>obtain ⟨o,_,_,_,e,_⟩:=x;exact Heap.lt_size e
 | ins C dx fs=>obtain ⟨_,_,_,e,_⟩:=x;exact Heap.lt_size e
 | own y=>obtain ⟨_,e⟩:=x;exact Heap.lt_size e
 | xd fs=>obtain ⟨_,⟨_,_,_,e,_⟩,_⟩:=x;exact Heap.lt_size e
 | rng lo hi=>obtain ⟨_,_,_,e⟩:=x;exact Heap.lt_size e
 | frz ob u=>obtain ⟨e,_⟩:=x;exact Heap.lt_size e
 | tbl ps=>exact Heap.lt_size (show h.get? a=some _ from x)
 | met f y=>exact Heap.lt_size (show h.get? a=some _ from x)
 | ext φ=>obtain ⟨_,⟨_,e⟩,_⟩:=x;exact Heap.lt_size e
theorem Paired.mapP {α β:Type} {F G:α->β->Prop}:∀{l₁:List α} {l₂:List β},Paired F l₁ l₂->(∀a b,F a b->G a b)->Paired G l₁ l₂
 | _,_, .nil,_=> .nil
 | _,_, .cons r t,f=> .cons (f _ _ r) (Paired.mapP t f)
theorem Cm.stay (x:Cm P w H h a o) (k:∀b u,(b=a\/H b=some (.own a))->h.get? b=some u->h'.get? b=some u)
 (ho:∀b,H b=some (.own a)->H' b=some (.own a)) (ht:∀b xs,H b=some (.tup xs)->H' b=some (.tup xs)):Cm P w H' h' a o:=by
 induction o with
 | lst xs=>obtain ⟨z,its,n,r,e⟩:=x;exact ⟨z,its,n,r,k _ _ (.inl rfl) e⟩
 | tup xs=>obtain ⟨z,its,r,ob,e,c⟩:=x;exact ⟨z,its,r,ob,k _ _ (.inl rfl) e,c⟩
 | dK kvs=>obtain ⟨z,y,vs,r,ob,es,ep,e,c⟩:=x;exact ⟨z,y,vs,r,ob,es,ep,k _ _ (.inl rfl) e,c⟩
 | dT kvs=>
   obtain ⟨z,y,xs,r,ob,es,ep,e,c⟩:=x
   exact ⟨z,y,xs,Paired.mapP r λp q z=>⟨z.1,ht _ _ z.2.1,z.2.2⟩,ob,es,ep,k _ _ (.inl rfl) e,c⟩
 | dN K kvs=>
   obtain ⟨z,y,xs,r,ob,es,ep,e,c⟩:=x
   exact ⟨z,y,xs,Paired.mapP r λp q z=>⟨z.1,z.2.1.stay ht,z.2.2⟩,ob,es,ep,k _ _ (.inl rfl) e,c⟩
 | set S n=>obtain ⟨ob,es,ep,t,e,c⟩:=x;exact ⟨ob,es,ep,t,k _ _ (.inl rfl) e,c⟩
 | ins C dx fs=>
   obtain ⟨d,z,ne,e,mA,⟨od,es,ep,e2,c⟩,r⟩:=x
   exact ⟨ho _ d,z,ne,k _ _ (.inl rfl) e,mA,⟨od,es,ep,k _ _ (.inr d) e2,c⟩,r⟩
 | own y=>obtain ⟨ob,e⟩:=x;exact ⟨ob,k _ _ (.inl rfl) e⟩
 | xd fs=>obtain ⟨mA,⟨od,es,ep,e,c⟩,r⟩:=x;exact ⟨mA,⟨od,es,ep,k _ _ (.inl rfl) e,c⟩,r⟩
 | rng lo hi=>obtain ⟨t,u,v,e⟩:=x;exact ⟨t,u,v,k _ _ (.inl rfl) e⟩
 | frz ob u ih=>obtain ⟨e,q⟩:=x;exact ⟨k _ _ (.inl rfl) e,ih q⟩
 | tbl ps=>
   have e:h.get? a=some {cls:= .none,data:= .fields ps}:=x
   show h'.get? a=some {cls:= .none,data:= .fields ps}
   exact k a _ (.inl rfl) e
 | met f y=>
   have e:h.get? a=some (PySem.W.methodObj (.ref f) (.ref y)):=x
   show h'.get? a=some (PySem.W.methodObj (.ref f) (.ref y))
   exact k a _ (.inl rfl) e
 | ext φ=>obtain ⟨p,⟨o,e⟩,st⟩:=x;exact ⟨st _ _ p λo q=>k _ _ (.inl rfl) q,⟨o,k _ _ (.inl rfl) e⟩,st⟩
theorem IM.lt (x:IM P w H h) (e:H a=some o):a<h.objs.size:=(x a o e).lt
theorem IM.fresh (x:IM P w H h) (e:h.objs.size<=a):H a=none:=by
 cases q:H a with
 | none=>rfl
 | some u=>exact absurd (Nat.lt_of_lt_of_le (x.lt q) e) (Nat.lt_irrefl _)
theorem IM.kept (x:IM P w H h) (k:∀b u,h.get? b=some u->h'.get? b=some u):IM P w H h':=λa o e=>
 (x a o e).stay (λb u _ q=>k b u q) (λ_ q=>q) λ_ _ q=>q
theorem IM.laid (x:IM P w H h) (k:∀b u,h.get? b=some u->h'.get? b=some u) (hp:h.objs.size<=a) (new:Cm P w (upd H a o) h' a o):IM P w (upd H a o) h':=λb u e=>by
 have hn:=x.fresh hp
 by_cases hb:b=a
 ·subst hb;rw [A1] at e;cases e;exact new
 ·rw [Al hb] at e
  exact (x b u e).stay (λc v _ q=>k c v q) (λc q=>by rw [Al (BG q hn)];exact q) λc xs q=>by rw [Al (BG q hn)];exact q
end
def Rd (H:Hp) (a:Addr) (u:HO):Prop:=H a=some u\/∃o,H a=some (.frz o u)
theorem Rd.of {H:Hp} {a:Addr} {u:HO} (h:H a=some u):Rd H a u:= .inl h
theorem Rd.ok {P:Program} {w:World} {H:Hp} {h:Heap} {a:Addr} {u:HO} (r:Rd H a u) (x:IM P w H h):Cm P w H h a u:=by
 rcases r with r|⟨o,r⟩
 ·exact x a u r
 ·obtain ⟨_,q⟩:=x a _ r
  exact q
def bV:Option HO->Prop
 | some (.lst _)=>True
 | some (.dK _)=>True
 | some (.dT _)=>True
 | some (.dN _ _)=>True
 | some (.set _ _)=>True
 | some (.ins _ _ _)=>True
 | some (.ext _)=>True
 | _=>False
section
variable {P:Program} {w:World} {H:Hp} {h h':Heap} {x e:Addr} {o':HO}
theorem IM.write (ok:IM P w H h) (mu:bV (H x)) (he:e=x\/H e=some (.own x)) (k:∀b u,b≠e->h.get? b=some u->h'.get? b=some u) (bD:∃u,h'.get? e=some u)
 (new:Cm P w (upd H x o') h' x o'):IM P w (upd H x o') h':=λb u q=>by
 have nown:∀c y,H c=some (.own y)->c≠x:=λc y r z=>by subst z;rw [r] at mu;exact mu
 have ntup:∀c xs,H c=some (.tup xs)->c≠x:=λc xs r z=>by subst z;rw [r] at mu;exact mu
 by_cases hb:b=x
 ·subst hb;rw [A1] at q;cases q;exact new
 ·rw [Al hb] at q
  by_cases R7:b=e
  ·have q':H b=some (.own x):=by
    rcases he with z|z
    ·exact absurd (R7.trans z) hb
    ·rw [R7];exact z
   rw [q] at q';cases q'
   obtain ⟨v,hv⟩:=bD
   exact ⟨v,by rw [R7];exact hv⟩
  ·refine (ok b u q).stay (λc v hc r=>k c v ?_ r) (λc r=>by rw [Al (nown c b r)];exact r) λc xs r=>by rw [Al (ntup c xs r)];exact r
   rcases hc with rfl|hc
   ·exact R7
   ·rintro rfl
    rcases he with z|z
    ·exact nown c b hc z
    ·rw [hc] at z;cases z;exact hb rfl
end
structure Un (fs ex:List Addr) (H H':Hp) (h h':Heap):Prop where
 keep:∀b o,h.get? b=some o->H b=none->b ∉ fs->b ∉ ex->h'.get? b=some o
 slot:∀b o,h.get? b=some o->H b=none->b∈fs->b ∉ ex->∃sl,h'.get? b=some {o with slots:=sl}
 free:∀b o,h.get? b=some o->H b=none->b ∉ ex->H' b=none
 there:∀b o,h.get? b=some o->b ∉ ex->∃o',h'.get? b=some o'
 tups:∀b xs,H b=some (.tup xs)->H' b=some (.tup xs)
 frzs:∀b o u,H b=some (.frz o u)->H' b=some (.frz o u)
 tbls:∀b ps,H b=some (.tbl ps)->∃more,H' b=some (.tbl (ps++more))
section
variable {fs fs' ex ex':List Addr} {H H1 H2:Hp} {h h1 h2 h':Heap} {a x e:Addr} {o:HO}
theorem Un.any (u:Un fs ex H H1 h h1) {b:Addr} {ob:Obj} (q:h.get? b=some ob) (n:H b=none) (hx:b ∉ ex):∃sl,h1.get? b=some {ob with slots:=sl}:=by
 by_cases hb:b∈fs
 ·exact u.slot b ob q n hb hx
 ·exact ⟨ob.slots,u.keep b ob q n hb hx⟩
theorem Un.trans (a:Un fs ex H H1 h h1) (b:Un fs ex H1 H2 h1 h2):Un fs ex H H2 h h2 where
 keep:=λc ob q n hc hx=>b.keep c ob (a.keep c ob q n hc hx) (a.free c ob q n hx) hc hx
 slot:=λc ob q n hc hx=>by
  obtain ⟨sl,e1⟩:=a.slot c ob q n hc hx
  obtain ⟨sl',e2⟩:=b.slot c _ e1 (a.free c ob q n hx) hc hx
  exact ⟨sl',e2⟩
 free:=λc ob q n hx=>by
  obtain ⟨o',e1⟩:=a.there c ob q hx
  exact b.free c o' e1 (a.free c ob q n hx) hx
 there:=λc ob q hx=>by
  obtain ⟨o',e1⟩:=a.there c ob q hx
  exact b.there c o' e1 hx
 tups:=λc xs q=>b.tups c xs (a.tups c xs q)
 frzs:=λc ob xs q=>b.frzs c ob xs (a.frzs c ob xs q)
 tbls:=λc ps q=>by
  obtain ⟨m1,e1⟩:=a.tbls c ps q
  obtain ⟨m2,e2⟩:=b.tbls c _ e1
  exact ⟨m1++m2,by rw [e2,Array.append_assoc]⟩
theorem Un.kept (k:∀b u,h.get? b=some u->h'.get? b=some u):Un fs ex H H h h':=
 ⟨λb ob q _ _ _=>k b ob q,λb ob q _ _ _=>⟨ob.slots,k b ob q⟩,λ_ _ _ n _=>n,λb ob q _=>⟨ob,k b ob q⟩,λ_ _ q=>q,λ_ _ _ q=>q,λ_ ps q=>⟨#[],by rw [q];simp⟩⟩
theorem Un.refl:Un fs ex H H h h:=Un.kept λ_ _ q=>q
theorem Un.laid (k:∀b u,h.get? b=some u->h'.get? b=some u) (hp:h.objs.size<=a) (hn:H a=none):Un fs ex H (upd H a o) h h' where
 keep:=λb u q _ _ _=>k b u q
 slot:=λb u q _ _ _=>⟨u.slots,k b u q⟩
 free:=λb u q n _=>by rw [Al (Nat.ne_of_lt (Nat.lt_of_lt_of_le (Heap.lt_size q) hp))];exact n
 there:=λb u q _=>⟨u,k b u q⟩
 tups:=λb xs q=>by rw [Al (BG q hn)];exact q
 frzs:=λb u xs q=>by rw [Al (BG q hn)];exact q
 tbls:=λb ps q=>⟨#[],by rw [Al (BG q hn),q];simp⟩
theorem Un.write (mu:bV (H x)) (he:e=x\/H e=some (.own x)) (k:∀b u,b≠e->h.get? b=some u->h'.get? b=some u) (bD:∃u,h'.get? e=some u):Un fs ex H (upd H x o) h h':=by
 have hx:∀b,H b=none->b≠x:=λb n z=>by subst z;rw [n] at mu;exact mu
 have hb:∀b,H b=none->b≠e:=λb n z=>by
  subst z
  rcases he with r|r
  ·exact hx b n r
  ·rw [n] at r;cases r
 have hm:∀b u,H b=some u->¬bV (some u)->b≠x:=λb u q nm z=>by subst z;rw [q] at mu;exact nm mu
 refine ⟨λb u q n _ _=>k b u (hb b n) q,λb u q n _ _=>⟨u.slots,k b u (hb b n) q⟩,λb u q n _=>by rw [Al (hx b n)];exact n,λb u q _=> ?_,
  λb xs q=>by rw [Al (hm b _ q λz=>z)];exact q,λb u xs q=>by rw [Al (hm b _ q λz=>z)];exact q,λb ps q=>⟨#[],by rw [Al (hm b _ q λz=>z),q];simp⟩⟩
 by_cases R7:b=e
 ·subst R7;exact bD
 ·exact ⟨u,k b u R7 q⟩
theorem Un.mono (u:Un fs ex H H1 h h1) (hs:∀b∈fs,b∈fs') (hx:∀b∈ex,b∈ex'):Un fs' ex' H H1 h h1:=
 ⟨λb ob q n hb he=>u.keep b ob q n (λz=>hb (hs b z)) λz=>he (hx b z),λ_ _ q n _ he=>u.any q n λz=>he (hx _ z),λb ob q n he=>u.free b ob q n λz=>he (hx b z),λb ob q he=>u.there b ob q λz=>he (hx b z),u.tups,u.frzs,u.tbls⟩
end
def fG (h:Heap) (H:Hp):List Addr:=(List.range h.objs.size).filter λa=>(H a).isSome
def Nd (h:Heap) (H:Hp):Heap:=PySem.W.hideAll h (fG h H)
theorem Tg (h:Heap) (H:Hp):(Nd h H).objs.size=h.objs.size:=PySem.W.hideAll_size _ _
theorem VN {h:Heap} {H:Hp} {b:Addr} {o:Obj} (e:h.get? b=some o) (n:H b=none):(Nd h H).get? b=some o:=
 PySem.W.hideAll_get _ e λhm=>by
  have q:(H b).isSome=true:=(List.mem_filter.mp hm).2
  rw [n] at q;simp at q
theorem Xj {h:Heap} {H:Hp} {b:Addr} {o:Obj} (e:(Nd h H).get? b=some o):h.get? b=some o/\H b=none:=by
 have e':h.get? b=some o:=PySem.W.of_hideAll (fG h H) e
 refine ⟨e', ?_⟩
 cases q:H b with
 | none=>rfl
 | some x=>
   have hm:b∈fG h H:=List.mem_filter.mpr ⟨List.mem_range.mpr (Heap.lt_size e'),by simp [q]⟩
   have z:(Nd h H).get? b=none:=PySem.W.hideAll_none (fG h H) hm
   rw [z] at e;cases e
def W5 (g h:Heap) (L:Addr):List (Addr×Obj):=(List.range h.objs.size).filterMap λa=>if a=L\/(g.get? a).isSome=true then none else (h.get? a).map λo=>(a,o)
def rest (g h:Heap) (L d:Addr):List (Addr×Obj):=(W5 g h L).filter λp=>decide (p.1≠d)
end L2
namespace L2
open PySem PySem.Spec PyProof.Rows
structure Mod (K:PySem.W.Frag) (mg:Str->Option Value) (base:Heap):Prop where
 kin:K.In base
 glob:base.Ns mainGlobals mg
 blt:∃mb,base.Ns builtinsNs mb/\∀x:Str,x≠"__name__" ->mb x=bootBuiltins x
 nolimit:base.NoLimit
structure Cx where
 prog:Program
 w:World
 K:PySem.W.Frag
 mg:Str->Option Value
 base:Heap
 A:Around
 N:List Str
 s₀:Shared
 H₀:Hp
 env:Env
 outer:List Env
 stack:List Env
 ex:List Addr
 fn:Str->Bool
 calm:Bool
 pn:List (Addr×Obj)
 xe:Value->Shared->Prop
def US (l:List Env):List Addr:=l.filterMap (·.frame)
abbrev Cx.fs (X:Cx):List Addr:=US X.outer
def bg (sc:Scope) (x:Str):Prop:=sc.names.lookup x=some .local\/sc.names.lookup x=some .cell\/sc.names.lookup x=some .free
def Loc (sc:Scope) (x:Str):Prop:=sc.names.lookup x=some .local\/sc.names.lookup x=some .cell
def Look (env:Env) (h:Heap) (m:Str->Option Value) (x:Str) (u:Value):Prop:=
 (env.kindOf x=some .local/\m x=some u)\/((env.kindOf x=some .cell\/env.kindOf x=some .free)/\∃c,env.cells.lookup x=some c/\h.IsCell c (some u))
structure Cx.Ok (X:Cx):Prop where
 mod:Mod X.K X.mg X.base
 kind:X.env.scope.kind= .function
 glob:X.env.globals=mainGlobals
 blt:X.env.builtins=builtinsNs
 above:X.s₀.heap.objs.size<=X.env.locals
 inj:∀x y c,X.env.cells.lookup x=some c->X.env.cells.lookup y=some c->x=y
 has:∀x,(X.env.kindOf x=some .cell\/X.env.kindOf x=some .free)->∃c,X.env.cells.lookup x=some c
 cab:∀x c,X.fn x=true->X.env.cells.lookup x=some c->X.s₀.heap.objs.size<=c
 hd:X.calm=true->X.A.handled=none
 frames:X.A.frames=some X.stack
 stk:X.stack=X.outer\/(X.stack=X.env::X.outer/\X.env.frame=some X.env.locals)
 exf:∀b∈X.ex,b≠X.env.locals/\∀x c,X.env.cells.lookup x=some c->c≠b
 bs:∀b o,X.base.get? b=some o->X.s₀.heap.get? b=some o/\X.H₀ b=none
 bsz:X.base.objs.size<=X.s₀.heap.objs.size
 noex:∀b o,X.base.get? b=some o->b ∉ X.ex
 exfs:∀b∈X.ex,b ∉ X.fs
 funs:X.s₀.heap.FunFrames X.base X.outer
 frf:∀b∈X.fs,X.H₀ b=none
structure Inv (X:Cx) (pins:List (Addr×Obj)) (σ:List (Option V)) (H:Hp) (s:Shared):Prop where
 ok:X.Ok
 os:s.os=X.s₀.os
 bare:AllBare s.gens
 base:Un X.fs X.ex X.H₀ H X.s₀.heap s.heap
 loc:∃m,s.heap.Ns X.env.locals m/\∀(i:Nat) (x:Str) (v:V),X.N[i]? =some x->σ[i]? =some (some v)->bg X.env.scope x->∃u,RelV v u/\Look X.env s.heap m x u
 cell:∀x c,X.env.cells.lookup x=some c->∃v,s.heap.IsCell c v
 free:H X.env.locals=none
 freeC:∀x c,X.env.cells.lookup x=some c->H c=none
 pin:∀p∈X.pn++pins,s.heap.get? p.1=some p.2/\H p.1=none/\p.1≠X.env.locals/\p.1 ∉ X.fs/\∀v,p.2.data≠ .cell v
 hok:IM X.prog X.w H s.heap
 len:σ.length=X.N.length
section
variable {X:Cx} {pins:List (Addr×Obj)} {σ:List (Option V)} {H H':Hp} {s:Shared} {h':Heap}
theorem Cx.Ok.nofr (ok:X.Ok) {b:Addr} {o:Obj} (e:X.base.get? b=some o):b ∉ X.fs:=λhb=>by
 have:=(ok.funs.mem hb).1
 rw [e] at this;cases this
theorem Inv.bs (I:Inv X pins σ H s):∀b o,X.base.get? b=some o->s.heap.get? b=some o/\H b=none:=λb o e=>
 ⟨I.base.keep b o (I.ok.bs b o e).1 (I.ok.bs b o e).2 (I.ok.nofr e) (I.ok.noex b o e),I.base.free b o (I.ok.bs b o e).1 (I.ok.bs b o e).2 (I.ok.noex b o e)⟩
theorem Inv.bk (I:Inv X pins σ H s):∀b o,X.base.get? b=some o->s.heap.get? b=some o:=λb o e=>(I.bs b o e).1
theorem Inv.mod (I:Inv X pins σ H s):Mod X.K X.mg X.base:=I.ok.mod
theorem Inv.kIn (I:Inv X pins σ H s):X.K.In s.heap:=I.ok.mod.kin.keeps I.bk
theorem Inv.nolimit (I:Inv X pins σ H s):s.heap.NoLimit:=I.ok.mod.nolimit.keeps I.bk
theorem Inv.fr (I:Inv X pins σ H s):∃m,Fr X.base X.env.locals s.heap m:=
 let ⟨m,hn,_⟩:=I.loc
 ⟨m,hn,I.bk,Nat.le_trans I.ok.bsz I.ok.above⟩
theorem Inv.lt (I:Inv X pins σ H s):X.env.locals<s.heap.objs.size:=let ⟨_,hn,_⟩:=I.loc;hn.lt
theorem Inv.sz (I:Inv X pins σ H s):X.s₀.heap.objs.size<=s.heap.objs.size:=Nat.le_trans I.ok.above (Nat.le_of_lt I.lt)
theorem Inv.nofs (I:Inv X pins σ H s) {a:Addr} (h:s.heap.objs.size<=a):a ∉ X.fs:=λhb=>by
 obtain ⟨_,o,ho,_⟩:=I.ok.funs.mem hb
 exact absurd (Nat.lt_of_lt_of_le (Heap.lt_size ho) (Nat.le_trans I.sz h)) (Nat.lt_irrefl _)
theorem Inv.cne (I:Inv X pins σ H s):∀x c,X.env.cells.lookup x=some c->c≠X.env.locals:=λx c e z=>by
 obtain ⟨v,o,ho,hd⟩:=I.cell x c e
 obtain ⟨m,⟨o',es,ep,UU,Lw,_⟩,_⟩:=I.loc
 rw [z,UU] at ho;cases ho;rw [Lw] at hd;cases hd
theorem Inv.funs (I:Inv X pins σ H s):s.heap.FunFrames X.base X.outer:=by
 have all:∀(l:List Env),(∀b∈US l,b∈X.fs)->X.s₀.heap.FunFrames X.base l->s.heap.FunFrames X.base l:=by
  intro l
  induction l with
  | nil=>intro _ _;trivial
  | cons env r ih=>
    intro hs hl
    obtain ⟨hk,⟨L,o,hf,hn,ho,hd⟩,hr⟩:=hl
    have hL:L∈X.fs:=hs L (by unfold US;rw [List.filterMap_cons,hf];exact List.mem_cons_self)
    obtain ⟨sl,e⟩:=I.base.slot L o ho (I.ok.frf L hL) hL λz=>I.ok.exfs L z hL
    exact ⟨hk,⟨L,_,hf,hn,e,hd⟩,ih (λb hb=>hs b (by unfold US;rw [List.filterMap_cons,hf];exact List.mem_cons_of_mem _ hb)) hr⟩
 exact all X.outer (λ_ hb=>hb) I.ok.funs
theorem Inv.stack (I:Inv X pins σ H s):s.heap.FunFrames X.base X.stack:=by
 rcases I.ok.stk with e|⟨e,hf⟩
 ·rw [e];exact I.funs
 ·rw [e]
  obtain ⟨m,hn,_⟩:=I.loc
  refine .cons (by rw [I.ok.kind];decide) hf hn ?_ I.funs
  exact Heap.get?_none_of_le (Nat.le_trans I.ok.bsz I.ok.above)
theorem Inv.stkSub (I:Inv X pins σ H s):∀b∈US X.stack,b∈X.env.locals::X.fs:=λb hb=>by
 rcases I.ok.stk with e|⟨e,hf⟩
 ·rw [e] at hb;exact List.mem_cons_of_mem _ hb
 ·rw [e] at hb
  unfold US at hb
  rw [List.filterMap_cons,hf] at hb
  exact hb
theorem Inv.stkFree (I:Inv X pins σ H s):∀b∈US X.stack,H b=none:=λb hb=>by
 rcases List.mem_cons.mp (I.stkSub b hb) with e|hb
 ·rw [e];exact I.free
 ·obtain ⟨_,o,ho,_⟩:=I.ok.funs.mem hb
  exact I.base.free b o ho (I.ok.frf b hb) λz=>I.ok.exfs b z hb
theorem Inv.step {g':Array GenState} {t':Nat} {d':Drawn} {ch:List Addr} (I:Inv X pins σ H s)
 (Jz:∀b∈ch,(b∈X.ex\/X.s₀.heap.objs.size<=b)/\b≠X.env.locals/\(∀x c,X.env.cells.lookup x=some c->c≠b)/\∀p∈X.pn++pins,p.1≠b)
 (keep:∀b o,b≠X.env.locals->b ∉ X.fs->b ∉ ch->s.heap.get? b=some o->H b=none->h'.get? b=some o)
 (slot:∀b o,b≠X.env.locals->b∈X.fs->b ∉ ch->s.heap.get? b=some o->H b=none->∃sl,h'.get? b=some {o with slots:=sl}) (free:∀b o,b ∉ ch->s.heap.get? b=some o->H b=none->H' b=none)
 (there:∀b o,b ∉ ch->s.heap.get? b=some o->∃o',h'.get? b=some o')
 (tups:∀b xs,H b=some (.tup xs)->H' b=some (.tup xs)) (frzs:∀b o u,H b=some (.frz o u)->H' b=some (.frz o u)) (tbls:∀b ps,H b=some (.tbl ps)->∃more,H' b=some (.tbl (ps++more)))
 (ns:∀m,s.heap.Ns X.env.locals m->h'.Ns X.env.locals m) (hok:IM X.prog X.w H' h') (hg:AllBare g'):
 Inv X pins σ H' {s with heap:=h',gens:=g',drawn:=d',toks:=t'}:=by
 have neL:∀b o,X.s₀.heap.get? b=some o->b≠X.env.locals:=λb o e=>Nat.ne_of_lt (Nat.lt_of_lt_of_le (Heap.lt_size e) I.ok.above)
 have neC:∀b o,X.s₀.heap.get? b=some o->b ∉ X.ex->b ∉ ch:=λb o e hx hb=>by
  rcases (Jz b hb).1 with z|z
  ·exact hx z
  ·exact absurd (Nat.lt_of_lt_of_le (Heap.lt_size e) z) (Nat.lt_irrefl _)
 have cellK:∀x c,X.env.cells.lookup x=some c->∀v,s.heap.IsCell c v->h'.IsCell c v:=λx c e v ⟨o,ho,hd⟩=>by
  have nch:c ∉ ch:=λz=>(Jz c z).2.2.1 x c e rfl
  by_cases hc:c∈X.fs
  ·obtain ⟨sl,q⟩:=slot c o (I.cne x c e) hc nch ho (I.freeC x c e)
   exact ⟨_,q,hd⟩
  ·exact ⟨o,keep c o (I.cne x c e) hc nch ho (I.freeC x c e),hd⟩
 refine ⟨I.ok,I.os,hg,⟨λb o e n hb hx=> ?_,λb o e n hb hx=> ?_,λb o e n hx=> ?_,λb o e hx=> ?_,λb xs e=>tups b xs (I.base.tups b xs e),λb o xs e=>frzs b o xs (I.base.frzs b o xs e),λb ps e=> ?_⟩, ?_,λx c e=> ?_, ?_,λx c e=> ?_,λp hp=> ?_,hok,I.len⟩
 ·exact keep b o (neL b o e) hb (neC b o e hx) (I.base.keep b o e n hb hx) (I.base.free b o e n hx)
 ·obtain ⟨sl,e1⟩:=I.base.slot b o e n hb hx
  obtain ⟨sl',e2⟩:=slot b _ (neL b o e) hb (neC b o e hx) e1 (I.base.free b o e n hx)
  exact ⟨sl',e2⟩
 ·obtain ⟨o',e1⟩:=I.base.there b o e hx
  exact free b o' (neC b o e hx) e1 (I.base.free b o e n hx)
 ·obtain ⟨o',e1⟩:=I.base.there b o e hx
  exact there b o' (neC b o e hx) e1
 ·obtain ⟨m1,e1⟩:=I.base.tbls b ps e
  obtain ⟨m2,e2⟩:=tbls b _ e1
  exact ⟨m1++m2,by rw [e2,Array.append_assoc]⟩
 ·obtain ⟨m,hn,hl⟩:=I.loc
  refine ⟨m,ns m hn,λi x v e1 e2 e3=> ?_⟩
  obtain ⟨u,r,l⟩:=hl i x v e1 e2 e3
  refine ⟨u,r, ?_⟩
  rcases l with l|⟨k,c,e,z⟩
  ·exact .inl l
  ·exact .inr ⟨k,c,e,cellK x c e _ z⟩
 ·obtain ⟨v,z⟩:=I.cell x c e
  exact ⟨v,cellK x c e v z⟩
 ·obtain ⟨m,⟨o,_,_,ho,_⟩,_⟩:=I.loc
  exact free _ o (λz=>(Jz _ z).2.1 rfl) ho I.free
 ·obtain ⟨v,o,ho,hd⟩:=I.cell x c e
  exact free c o (λz=>(Jz c z).2.2.1 x c e rfl) ho (I.freeC x c e)
 ·obtain ⟨e,n,ne,nf,d⟩:=I.pin p hp
  have nch:p.1 ∉ ch:=λz=>(Jz p.1 z).2.2.2 p hp rfl
  exact ⟨keep p.1 p.2 ne nf nch e n,free p.1 p.2 nch e n,ne,nf,d⟩
theorem Inv.un {t':Nat} (I:Inv X pins σ H s) (u:Un X.fs [] H H' s.heap h') (hok:IM X.prog X.w H' h'):Inv X pins σ H' {s with heap:=h',toks:=t'}:=by
 obtain ⟨m,⟨o,es,ep,ho,r⟩,_⟩:=id I.loc
 obtain ⟨sl,hL⟩:=u.any ho I.free (by simp)
 exact I.step (g':=s.gens) (d':=s.drawn) (ch:= []) (λ_ z=>nomatch z) (λb o _ hb _ e n=>u.keep b o e n hb (by simp)) (λb o _ hb _ e n=>u.slot b o e n hb (by simp)) (λb o _ e n=>u.free b o e n (by simp)) (λb o _ e=>u.there b o e (by simp)) u.tups u.frzs u.tbls (λm' hm=>by
  obtain ⟨o',es',ep',UU,r'⟩:=hm
  rw [ho] at UU;cases UU
  exact ⟨_,es',ep',hL,r'⟩) hok I.bare
theorem Inv.call {g':Array GenState} {t':Nat} {d':Drawn} {ch:List Addr} (I:Inv X pins σ H s) (u:Un (US X.stack) ch H H' s.heap h') (hok:IM X.prog X.w H' h') (hg:AllBare g')
 (Jz:∀b∈ch,(b∈X.ex\/X.s₀.heap.objs.size<=b)/\b≠X.env.locals/\(∀x c,X.env.cells.lookup x=some c->c≠b)/\∀p∈X.pn++pins,p.1≠b):
 Inv X pins σ H' {s with heap:=h',gens:=g',drawn:=d',toks:=t'}:=by
 obtain ⟨m,⟨o,es,ep,ho,r⟩,_⟩:=id I.loc
 obtain ⟨sl,hL⟩:=u.any ho I.free λz=>(Jz _ z).2.1 rfl
 exact I.step (ch:=ch) Jz (λb o hL hb hc e n=>u.keep b o e n (λz=>(List.mem_cons.mp (I.stkSub b z)).elim hL hb) hc) (λb o _ _ hc e n=>u.any e n hc) (λb o hc e n=>u.free b o e n hc) (λb o hc e=>u.there b o e hc) u.tups u.frzs u.tbls (λm' hm=>by
  obtain ⟨o',es',ep',UU,r'⟩:=hm
  rw [ho] at UU;cases UU
  exact ⟨_,es',ep',hL,r'⟩) hok hg
theorem Inv.turned {t':Nat} {it:Addr} (I:Inv X pins σ H s) (k:∀b o,b≠it->s.heap.get? b=some o->h'.get? b=some o) (hn:H it=none) (hL:it≠X.env.locals)
 (h1:it∈X.ex\/X.s₀.heap.objs.size<=it) (h2:∀x c,X.env.cells.lookup x=some c->c≠it) (h3:∀p∈X.pn++pins,p.1≠it):Inv X pins σ H {s with heap:=h',toks:=t'}:=by
 have nit:∀b u,H b=some u->b≠it:=λb u e z=>by rw [z,hn] at e;cases e
 refine I.step (g':=s.gens) (d':=s.drawn) (ch:= [it]) (λb hb=> ?_) (λb o _ _ hc e _=>k b o (λz=>hc (by simp [z])) e) (λb o _ _ hc e _=>⟨o.slots,k b o (λz=>hc (by simp [z])) e⟩) (λ_ _ _ _ n=>n)
  (λb o hc e=>⟨o,k b o (λz=>hc (by simp [z])) e⟩) (λ_ _ e=>e) (λ_ _ _ e=>e) (λb ps e=>⟨#[],by rw [e];simp⟩) (λm hm=> ?_) (λb u e=> ?_) I.bare
 ·have e:b=it:=by simpa using hb
  subst e
  exact ⟨h1,hL,h2,h3⟩
 ·obtain ⟨o,es,ep,ho,r⟩:=hm
  exact ⟨o,es,ep,k _ o (Ne.symm hL) ho,r⟩
 ·refine (I.hok b u e).stay (λc v hc q=>k c v ?_ q) (λ_ q=>q) λ_ _ q=>q
  rcases hc with z|z
  ·rw [z];exact nit b u e
  ·exact nit c _ z
theorem Inv.tok (I:Inv X pins σ H s) (t:Nat):Inv X pins σ H {s with toks:=t}:=I.un (h':=s.heap) (t':=t) Un.refl I.hok
theorem Inv.kept {t':Nat} (I:Inv X pins σ H s) (k:∀b u,s.heap.get? b=some u->h'.get? b=some u):Inv X pins σ H {s with heap:=h',toks:=t'}:=I.un (Un.kept k) (I.hok.kept k)
theorem Inv.laid {a:Addr} {o:HO} {t':Nat} (I:Inv X pins σ H s) (k:∀b u,s.heap.get? b=some u->h'.get? b=some u) (hp:s.heap.objs.size<=a) (new:Cm X.prog X.w (upd H a o) h' a o):
 Inv X pins σ (upd H a o) {s with heap:=h',toks:=t'}:=I.un (Un.laid k hp (I.hok.fresh hp)) (I.hok.laid k hp new)
theorem Inv.write {x e:Addr} {o:HO} {t':Nat} (I:Inv X pins σ H s) (mu:bV (H x)) (he:e=x\/H e=some (.own x)) (k:∀b u,b≠e->s.heap.get? b=some u->h'.get? b=some u) (bD:∃u,h'.get? e=some u)
 (new:Cm X.prog X.w (upd H x o) h' x o):Inv X pins σ (upd H x o) {s with heap:=h',toks:=t'}:=I.un (Un.write mu he k bD) (I.hok.write mu he k bD new)
theorem Inv.weak {σ':List (Option V)} (I:Inv X pins σ H s) (hl:σ'.length=σ.length) (w:∀(i:Nat) v,σ'[i]? =some (some v)->σ[i]? =some (some v)):Inv X pins σ' H s:=
 ⟨I.ok,I.os,I.bare,I.base,let ⟨m,hn,gU⟩:=I.loc;⟨m,hn,λi x v e1 e2 e3=>gU i x v e1 (w i v e2) e3⟩,I.cell,I.free,I.freeC,I.pin,I.hok,hl.trans I.len⟩
theorem Inv.pins_of {pins':List (Addr×Obj)} (I:Inv X pins σ H s) (h:∀p∈pins',s.heap.get? p.1=some p.2/\H p.1=none/\p.1≠X.env.locals/\p.1 ∉ X.fs/\∀v,p.2.data≠ .cell v):Inv X pins' σ H s:=
 ⟨I.ok,I.os,I.bare,I.base,I.loc,I.cell,I.free,I.freeC,λp hp=>(List.mem_append.mp hp).elim (λz=>I.pin p (List.mem_append_left _ z)) (h p),I.hok,I.len⟩
theorem Pk {N:List Str} (hN:N.Nodup) {i j:Nat} {x:Str} (a:N[i]? =some x) (b:N[j]? =some x):i=j:=by
 obtain ⟨h1,e1⟩:=List.getElem?_eq_some_iff.mp a
 obtain ⟨h2,e2⟩:=List.getElem?_eq_some_iff.mp b
 exact (List.getElem_inj hN).mp (e1.trans e2.symm)
theorem M7 {M:Model} {A:Around} {E:Value->Shared->Prop} {i:Nat} {x:Str} {v:V} {u:Value} {Q:Unit->Shared->Prop} (I:Inv X pins σ H s) (hN:X.N.Nodup) (hi:X.N[i]? =some x) (hx:Loc X.env.scope x) (r:RelV v u)
 (h:∀s',Inv X pins (σ.set i (some v)) H s'->(∃a,Heap.SameBut a s.heap s'.heap/\(a=X.env.locals\/X.env.cells.lookup x=some a))->Q () s') (hf:X.fn x=true\/X.env.scope.names.lookup x=some .local:=by first | exact .inl rfl|exact .inr rfl|assumption):wpAny M A (storeName X.env x u) Q E s:=by
 obtain ⟨m,hn,hl⟩:=id I.loc
 have gM:(X.env.scope.kind == .class||(X.env.scope.kind == .module&&X.env.locals != X.env.globals))=false:=by rw [I.ok.kind];rfl
 have hiσ:i<σ.length:=by rw [I.len];exact (List.getElem?_eq_some_iff.mp hi).1
 have cne:=I.cne
 have tracked:∀{a:Addr} {h':Heap},(∃o,s.heap.get? a=some o/\H a=none)->Heap.SameBut a s.heap h'->IM X.prog X.w H h':=λ{a h'} ha hs b ob e=>by
  obtain ⟨_,_,YY⟩:=ha
  refine (I.hok b ob e).stay (λc w' hc q=>(hs.2 c ?_).trans q) (λ_ q=>q) λ_ _ q=>q
  rintro rfl
  rcases hc with rfl|hc
  ·rw [YY] at e;cases e
  ·rw [YY] at hc;cases hc
 rcases hx with hk|hk
 ·refine wpAny_storeName_local hk hn (λh' mC hs=> ?_) gM
  obtain ⟨oL,_,_,mE,_⟩:=id hn
  refine h _ ⟨I.ok,I.os,I.bare,⟨λb o e n hb hx=> ?_,λb o e n hb hx=> ?_,I.base.free,λb o e hx=> ?_,I.base.tups,I.base.frzs,I.base.tbls⟩,⟨_,mC,λj y v' e1 e2 e3=> ?_⟩,λy c e=> ?_,I.free,I.freeC,λp hp=> ?_,tracked ⟨oL,mE,I.free⟩ hs,by simpa using I.len⟩ ⟨_,hs, .inl rfl⟩
  ·exact (hs.2 b (Nat.ne_of_lt (Nat.lt_of_lt_of_le (Heap.lt_size e) I.ok.above))).trans (I.base.keep b o e n hb hx)
  ·obtain ⟨sl,e1⟩:=I.base.slot b o e n hb hx
   exact ⟨sl,(hs.2 b (Nat.ne_of_lt (Nat.lt_of_lt_of_le (Heap.lt_size e) I.ok.above))).trans e1⟩
  ·obtain ⟨o',e1⟩:=I.base.there b o e hx
   exact ⟨o',(hs.2 b (Nat.ne_of_lt (Nat.lt_of_lt_of_le (Heap.lt_size e) I.ok.above))).trans e1⟩
  ·by_cases hj:j=i
   ·subst hj
    rw [hi] at e1;cases e1
    rw [List.getElem?_set_self hiσ] at e2
    cases e2
    exact ⟨u,r, .inl ⟨hk,by simp⟩⟩
   ·rw [List.getElem?_set_ne (Ne.symm hj)] at e2
    obtain ⟨u',r',q⟩:=hl j y v' e1 e2 e3
    refine ⟨u',r', ?_⟩
    rcases q with ⟨k,e⟩|⟨k,c,e,z⟩
    ·refine .inl ⟨k, ?_⟩
     have:y≠x:=λe=>hj (Pk hN e1 (e ▸ hi))
     simp [this,e]
    ·exact .inr ⟨k,c,e,z.sameBut hs (cne y c e)⟩
  ·obtain ⟨w',z⟩:=I.cell y c e
   exact ⟨w',z.sameBut hs (cne y c e)⟩
  ·obtain ⟨e,n,ne,nf,d⟩:=I.pin p hp
   exact ⟨(hs.2 p.1 ne).trans e,n,ne,nf,d⟩
 ·have gP:X.fn x=true:=by
   rcases hf with z|z
   ·exact z
   ·rw [z] at hk;cases hk
  obtain ⟨c,hc⟩:=I.ok.has x (.inl hk)
  obtain ⟨w',z⟩:=I.cell x c hc
  refine wpAny_storeName_cell I.ok.kind hk hc z (λh' em hs=> ?_)
  obtain ⟨oc,jS,gY⟩:=id z
  refine h {s with heap:=h'} ⟨I.ok,I.os,I.bare,⟨λb o e n hb hx=> ?_,λb o e n hb hx=> ?_,I.base.free,λb o e hx=> ?_,I.base.tups,I.base.frzs,I.base.tbls⟩,⟨m,hn.sameBut hs (Ne.symm (cne x c hc)),λj y v' e1 e2 e3=> ?_⟩,λy c' e=> ?_,I.free,I.freeC,λp hp=> ?_,tracked ⟨oc,jS,I.freeC x c hc⟩ hs,by simpa using I.len⟩ ⟨c,hs, .inr hc⟩
  ·exact (hs.2 b (Nat.ne_of_lt (Nat.lt_of_lt_of_le (Heap.lt_size e) (I.ok.cab x c gP hc)))).trans (I.base.keep b o e n hb hx)
  ·obtain ⟨sl,e1⟩:=I.base.slot b o e n hb hx
   exact ⟨sl,(hs.2 b (Nat.ne_of_lt (Nat.lt_of_lt_of_le (Heap.lt_size e) (I.ok.cab x c gP hc)))).trans e1⟩
  ·obtain ⟨o',e1⟩:=I.base.there b o e hx
   exact ⟨o',(hs.2 b (Nat.ne_of_lt (Nat.lt_of_lt_of_le (Heap.lt_size e) (I.ok.cab x c gP hc)))).trans e1⟩
  ·by_cases hj:j=i
   ·subst hj
    rw [hi] at e1;cases e1
    rw [List.getElem?_set_self hiσ] at e2
    cases e2
    exact ⟨u,r, .inr ⟨.inl hk,c,hc,em⟩⟩
   ·rw [List.getElem?_set_ne (Ne.symm hj)] at e2
    obtain ⟨u',r',q⟩:=hl j y v' e1 e2 e3
    refine ⟨u',r', ?_⟩
    rcases q with q|⟨k,c',e,z'⟩
    ·exact .inl q
    ·refine .inr ⟨k,c',e,z'.sameBut hs ?_⟩
     rintro rfl
     exact hj (Pk hN e1 (I.ok.inj _ _ _ e hc ▸ hi))
  ·by_cases jN:c'=c
   ·subst jN;exact ⟨_,em⟩
   ·obtain ⟨w2,z2⟩:=I.cell y c' e
    exact ⟨w2,z2.sameBut hs jN⟩
  ·obtain ⟨e,n,ne,nf,d⟩:=I.pin p hp
   refine ⟨(hs.2 p.1 ?_).trans e,n,ne,nf,d⟩
   intro q
   rw [q,jS] at e
   have q':oc=p.2:=Option.some.inj e
   exact d w' (by rw [<-q'];exact gY)
theorem IH {M:Model} {A:Around} {E:Value->Shared->Prop} {i:Nat} {x:Str} {v:V} {u:Value} {Q:Unit->Shared->Prop} (I:Inv X pins σ H s) (hN:X.N.Nodup) (hi:X.N[i]? =some x) (hx:Loc X.env.scope x) (r:RelV v u)
 (h:∀s',Inv X pins (σ.set i (some v)) H s'->Q () s') (hf:X.fn x=true\/X.env.scope.names.lookup x=some .local:=by first | exact .inl rfl|exact .inr rfl|assumption):wpAny M A (storeName X.env x u) Q E s:=
 M7 I hN hi hx r (λs' I' _=>h s' I') hf
theorem Inv.call' {s':Shared} {ch:List Addr} (I:Inv X pins σ H s) (ho:s'.os=s.os) (u:Un (US X.stack) ch H H' s.heap s'.heap) (hok:IM X.prog X.w H' s'.heap) (hg:AllBare s'.gens)
 (Jz:∀b∈ch,(b∈X.ex\/X.s₀.heap.objs.size<=b)/\b≠X.env.locals/\(∀x c,X.env.cells.lookup x=some c->c≠b)/\∀p∈X.pn++pins,p.1≠b):Inv X pins σ H' s':=by
 obtain ⟨h',g',d',t',o'⟩:=s'
 have e:o'=s.os:=ho
 subst e
 exact I.call (g':=g') (t':=t') (d':=d') u hok hg Jz
end
abbrev XK:=Value->Option Addr->Hp->Prop
abbrev St:=List (Option V)
abbrev VK:=V->Hp->Prop
abbrev TE:=St->Hp->VK->Prop
abbrev TT:=St->Hp->(Bool->Hp->Prop)->Prop
abbrev TA:=St->Hp->(List V->Hp->Prop)->Prop
structure Oy where
 nx:St->Hp->Prop
 rt:VK
 bk:St->Hp->Prop:=λ_ _=>False
 ct:St->Hp->Prop:=λ_ _=>False
abbrev TS:=Oy->St->Hp->Prop
def EP (X:Cx) (pins:List (Addr×Obj)) (σ:St) (Q:VK) (u:Value) (s':Shared):Prop:=∃v H',Inv X pins σ H' s'/\RelV v u/\Q v H'
def TP (X:Cx) (pins:List (Addr×Obj)) (σ:St) (Q:Bool->Hp->Prop) (b:Bool) (s':Shared):Prop:=∃H',Inv X pins σ H' s'/\Q b H'
def AP (X:Cx) (pins:List (Addr×Obj)) (σ:St) (Q:List V->Hp->Prop) (us:List Value) (s':Shared):Prop:=∃vs H',Inv X pins σ H' s'/\Aq vs us/\Q vs H'
def SP (X:Cx) (pins:List (Addr×Obj)) (D:Oy) (f:Flow) (s':Shared):Prop:=
 match f with
 | .next=>∃σ' H',Inv X pins σ' H' s'/\D.nx σ' H'
 | .brk=>∃σ' H',Inv X pins σ' H' s'/\D.bk σ' H'
 | .cont=>∃σ' H',Inv X pins σ' H' s'/\D.ct σ' H'
 | .ret u=>∃v σ' H',Inv X pins σ' H' s'/\RelV v u/\D.rt v H'
def PE (X:Cx) (e:Expr) (t:TE):Prop:=
 ∀(pins:List (Addr×Obj)) (s:Shared) (σ:St) (H:Hp) (Q:VK),Inv X pins σ H s->t σ H Q->wpAny (model X.prog X.w) X.A (eval e X.env) (EP X pins σ Q) X.xe s
def PT (X:Cx) (e:Expr) (t:TT):Prop:=
 ∀(pins:List (Addr×Obj)) (s:Shared) (σ:St) (H:Hp) (Q:Bool->Hp->Prop),Inv X pins σ H s->t σ H Q->wpAny (model X.prog X.w) X.A (isTrue e X.env (eval e X.env)) (TP X pins σ Q) X.xe s
def PW (X:Cx) (e:Expr) (t:TT):Prop:=
 ∀(whole:Sem Value) (pins:List (Addr×Obj)) (s:Shared) (σ:St) (H:Hp) (Q:Bool->Hp->Prop),Inv X pins σ H s->t σ H Q->wpAny (model X.prog X.w) X.A (isTrue e X.env whole) (TP X pins σ Q) X.xe s
theorem PW.pt {X:Cx} {e:Expr} {t:TT} (h:PW X e t):PT X e t:=h _
def PA (X:Cx) (es:List Expr) (t:TA):Prop:=
 ∀(pos:Pos) (pins:List (Addr×Obj)) (s:Shared) (σ:St) (H:Hp) (Q:List V->Hp->Prop),Inv X pins σ H s->t σ H Q->wpAny (model X.prog X.w) X.A (spliced (backTo pos (starEach es X.env))) (AP X pins σ Q) X.xe s
def PS (X:Cx) (st:Stmt) (t:TS):Prop:=
 ∀(pins:List (Addr×Obj)) (s:Shared) (σ:St) (H:Hp) (D:Oy),Inv X pins σ H s->t D σ H->wpAny (model X.prog X.w) X.A (exec st X.env) (SP X pins D) X.xe s
def Rn (X:Cx) (st:List Stmt) (t:TS):Prop:=
 ∀(pins:List (Addr×Obj)) (s:Shared) (σ:St) (H:Hp) (D:Oy),Inv X pins σ H s->t D σ H->wpAny (model X.prog X.w) X.A (execs st X.env) (SP X pins D) X.xe s
theorem Cd {α:Type} {t:Sem α} {Q Q':α->Shared->Prop} {M:Model} {A:Around} {E:Value->Shared->Prop} {s:Shared} (h:wpAny M A t Q E s) (hQ:∀a s,Q a s->Q' a s):wpAny M A t Q' E s:=wpAny_mono h hQ λ_ _ x=>x
end L2
namespace L2
open PySem PySem.Spec PyProof.Rows
section
variable {X:Cx}
def ah (i:Nat):TE:=λσ H Q=>∃v,σ[i]? =some (some v)/\Q v H
def tC (v:V):TE:=λ_ H Q=>Q v H
theorem RJ {i:Nat} {x:Str} {pos:Pos} (hN:X.N[i]? =some x) (hv:bg X.env.scope x) (hd:(x==("__debug__" :Str))=false:=by decide) (Ma:(x==("__classdict__" :Str))=false:=by decide):PE X (.Name x pos) (ah i):=by
 intro pins s σ H Q I h
 obtain ⟨v,e,h⟩:=h
 obtain ⟨m,hn,hl⟩:=I.loc
 obtain ⟨u,r,l⟩:=hl i x v hN e hv
 have fin:EP X pins σ Q u s:=⟨v,H,I,r,h⟩
 rcases l with ⟨hk,hm⟩|⟨hk,c,hc,YX⟩
 ·exact wpAny_Name (wpAny_loadName_local I.ok.kind hk hn hm fin) hd
 ·rcases hk with hk|hk
  ·exact wpAny_Name (wpAny_loadName_cell I.ok.kind hk hc YX fin) hd
  ·exact wpAny_Name (wpAny_loadName_free I.ok.kind hk hc YX fin Ma) hd
theorem A5 {i j pos}:PE X (.Constant (.int i) j pos) (tC (.int i)):=λ_ _ _ H _ I h=>wpAny_Constant_int ⟨.int i,H,I.tok _,⟨_,rfl⟩,h⟩
theorem dC {b j pos}:PE X (.Constant (.bool b) j pos) (tC (.bl b)):=λ_ _ _ H _ I h=>Constant_bool ⟨.bl b,H,I,rfl,h⟩
theorem Z6 {j pos}:PE X (.Constant .none j pos) (tC .non):=λ_ _ _ H _ I h=>Constant_none ⟨.non,H,I,rfl,h⟩
theorem G2 {x j pos}:PE X (.Constant (.str x) j pos) (tC (.str x)):=λ_ _ _ H _ I h=>Calls.Constant_str ⟨.str x,H,I.tok _,⟨_,rfl⟩,h⟩
def Gl (X:Cx) (x:Str):Prop:=X.env.kindOf x=some .globalImplicit
theorem SD {E:Value->Shared->Prop} {pins:List (Addr×Obj)} {s:Shared} {σ:St} {H:Hp} {x:Str} {u:Value} {pos:Pos} {Q:Value->Shared->Prop} (I:Inv X pins σ H s) (hg:Gl X x) (hm:X.mg x=some u) (h:Q u s)
 (hd:(x==("__debug__" :Str))=false:=by decide):wpAny (model X.prog X.w) X.A (eval (.Name x pos) X.env) Q E s:=
 Calls.Name_function_global I.ok.kind hg (Calls.loadGlobal_global (by rw [I.ok.glob];exact I.mod.glob.keeps I.bk) hm h) hd
theorem LM {E:Value->Shared->Prop} {pins:List (Addr×Obj)} {s:Shared} {σ:St} {H:Hp} {x:Str} {u:Value} {pos:Pos} {Q:Value->Shared->Prop} (I:Inv X pins σ H s) (hg:Gl X x) (hm:X.mg x=none) (hv:bootBuiltins x=some u) (h:Q u s)
 (hn:x≠"__name__" :=by decide) (hd:(x==("__debug__" :Str))=false:=by decide):wpAny (model X.prog X.w) X.A (eval (.Name x pos) X.env) Q E s:=by
 obtain ⟨mb,h1,h2⟩:=I.mod.blt
 exact Calls.Name_function_global I.ok.kind hg (Calls.loadGlobal_builtin (by rw [I.ok.glob];exact I.mod.glob.keeps I.bk) hm (by rw [I.ok.blt];exact h1.keeps I.bk) ((h2 x hn).trans hv) h) hd
theorem Xy {x:Str} {v:V} {u:Value} {pos:Pos} (hg:Gl X x) (hm:X.mg x=some u) (r:RelV v u) (hd:(x==("__debug__" :Str))=false:=by decide):PE X (.Name x pos) (tC v):=
 λ_ _ _ H _ I h=>SD I hg hm ⟨v,H,I,r,h⟩ hd
variable {a b:Expr} {ta tb:TE} {pos:Pos}
def tB (t:TE):TT:=λσ H Q=>t σ H λx H1=>∃c,x= .bl c/\Q c H1
theorem aE {e:Expr} {t:TE} (h:PE X e t) (he:∀whole,isTrue e X.env whole=(do let v <-whole;standAt e.pos;holding [v] (truthy v)):=by intro _;rfl):PT X e (tB t):=by
 intro pins s σ H Q I hw
 refine isTrue_plain (Cd (h pins s σ H _ I hw) λv s1 ⟨x,H1,I1,r1,q1⟩=> ?_) (he _)
 obtain ⟨d,rfl,q⟩:=q1
 cases r1
 exact wpAny_truthy_bool ⟨H1,I1,q⟩
variable {tA tB':TT} {rest:List Expr}
def hU (t u:TT):TT:=λσ H Q=>t σ H λc H1=>if c=true then u σ H1 Q else Q false H1
def mf (t u:TT):TT:=λσ H Q=>t σ H λc H1=>if c=true then Q true H1 else u σ H1 Q
def iB (t:TT):TT:=λσ H Q=>t σ H λc H1=>Q (!c) H1
theorem X7 (ha:PT X a tA):PW X (.BoolOp .And [a] pos) tA:=by
 intro wh pins s σ H Q I h
 refine isTrue_and (Cd (ha pins s σ H Q I h) λc s1 e=> ?_)
 cases c with
 | true=>exact isTrue_and_nil e
 | false=>exact e
theorem aG (ha:PT X a tA):PW X (.BoolOp .Or [a] pos) tA:=by
 intro wh pins s σ H Q I h
 refine isTrue_or (Cd (ha pins s σ H Q I h) λc s1 e=> ?_)
 cases c with
 | false=>exact isTrue_or_nil e
 | true=>exact e
theorem aF (ha:PT X a tA) (hb:PW X (.BoolOp .And (b::rest) pos) tB'):PW X (.BoolOp .And (a::b::rest) pos) (hU tA tB'):=by
 intro wh pins s σ H Q I h
 refine isTrue_and (Cd (ha pins s σ H _ I h) λc s1 ⟨H1,I1,q1⟩=> ?_)
 cases c with
 | true=>exact hb wh pins s1 σ H1 Q I1 q1
 | false=>exact ⟨H1,I1,q1⟩
theorem dG (ha:PT X a tA) (hb:PW X (.BoolOp .Or (b::rest) pos) tB'):PW X (.BoolOp .Or (a::b::rest) pos) (mf tA tB'):=by
 intro wh pins s σ H Q I h
 refine isTrue_or (Cd (ha pins s σ H _ I h) λc s1 ⟨H1,I1,q1⟩=> ?_)
 cases c with
 | true=>exact ⟨H1,I1,q1⟩
 | false=>exact hb wh pins s1 σ H1 Q I1 q1
theorem aD (ha:PT X a tA):PT X (.UnaryOp .Not a pos) (iB tA):=by
 intro pins s σ H Q I h
 exact isTrue_not (ha pins s σ H (λc H1=>Q (!c) H1) I h)
def iD (ta tb:TE):TE:=λσ H Q=>ta σ H λx H1=>∃c,x= .bl c/\if c=true then Q (.bl true) H1 else tb σ H1 Q
theorem Z7 {op} {t:TE} (h:PE X a t):PE X (.BoolOp op [a] pos) t:=λpins s σ H Q I hw=>BoolOp_one (h pins s σ H Q I hw)
theorem dE (ha:PE X a ta) (hb:PE X (.BoolOp .Or (b::rest) pos) tb):PE X (.BoolOp .Or (a::b::rest) pos) (iD ta tb):=by
 intro pins s σ H Q I h
 refine BoolOp_or (Cd (ha pins s σ H _ I h) λv s1 ⟨x,H1,I1,r1,q1⟩=> ?_)
 obtain ⟨c,rfl,q1⟩:=q1
 cases r1
 refine wpAny_truthy_bool ?_
 cases c with
 | false=>exact hb pins s1 σ H1 Q I1 q1
 | true=>exact ⟨.bl true,H1,I1,rfl,q1⟩
def me (t:TT) (ta tb:TE):TE:=λσ H Q=>t σ H λc H1=>if c=true then ta σ H1 Q else tb σ H1 Q
theorem Vv {c:Expr} (hc:PT X c tA) (ha:PE X a ta) (hb:PE X b tb):PE X (.IfExp c a b pos) (me tA ta tb):=by
 intro pins s σ H Q I h
 refine wpAny_IfExp (Cd (hc pins s σ H _ I h) λd s1 ⟨H1,I1,q1⟩=> ?_)
 cases d with
 | true=>exact ha pins s1 σ H1 Q I1 q1
 | false=>exact hb pins s1 σ H1 Q I1 q1
end
end L2
namespace L2
open PySem PySem.Spec PyProof.Rows
def Fc (K:PySem.W.Frag) (H:Hp) (a:Addr) (xs:List V):Prop:=
 Rd H a (.lst xs)\/
  ∃(o:Obj) (its:Array Value) (n:Nat),K.lookup a=some o/\o.cls= .type "list" /\o.dict=none/\o.data= .seq its n/\its.size<=sizeLine/\Aq xs its.toList
def JE (K:PySem.W.Frag) (H:Hp) (a:Addr) (xs:List V):Prop:=
 Rd H a (.tup xs)\/
  ∃(o:Obj) (its:Array Value) (n:Nat),K.lookup a=some o/\o.cls= .type "tuple" /\o.data= .seq its n/\its.size<=sizeLine/\Aq xs its.toList
def fz:Value->Option V
 | .none=>some .non
 | .bool b=>some (.bl b)
 | .int i _=>some (.int i)
 | .str x _=>some (.str x)
 | .bytes b _=>some (.byt b)
 | .float b _=>some (.flt b)
 | .ref a=>some (.ref a)
 | .type n=>some (.ty n)
 | _=>none
theorem RelV.abs {x:V} {u:Value} (r:RelV x u):fz u=some x:=by
 cases x with
 | non=>cases r;rfl
 | bl _=>cases r;rfl
 | int _=>obtain ⟨t,rfl⟩:=r;rfl
 | str _=>obtain ⟨t,rfl⟩:=r;rfl
 | byt _=>obtain ⟨t,rfl⟩:=r;rfl
 | flt _=>obtain ⟨t,rfl⟩:=r;rfl
 | ref _=>cases r;rfl
 | ty _=>cases r;rfl
theorem RelV.inj {x y:V} {u:Value} (r:RelV x u) (q:RelV y u):x=y:=Option.some.inj (r.abs.symm.trans q.abs)
theorem Aq.inj:∀{xs ys:List V} {us:List Value},Aq xs us->Aq ys us->xs=ys
 | _,_,_, .nil, .nil=>rfl
 | _,_,_, .cons r t, .cons r' t'=>by rw [r.inj r',Aq.inj t t']
section
variable {X:Cx} {pins:List (Addr×Obj)} {σ:St} {H:Hp} {s:Shared} {a:Addr} {xs ys:List V}
theorem Fc.of {K:PySem.W.Frag} (h:H a=some (.lst xs)):Fc K H a xs:= .inl (.inl h)
theorem JE.of {K:PySem.W.Frag} (h:H a=some (.tup xs)):JE K H a xs:= .inl (.inl h)
theorem Inv.list (I:Inv X pins σ H s) (h:Fc X.K H a xs):∃its:List Value,Aq xs its/\PlainL s.heap a its.toArray/\xs.length<=sizeLine:=by
 rcases h with h|⟨o,its,n,hk,hc,hd,hs,hz,r⟩
 ·obtain ⟨z,its,n,r,e⟩:=h.ok I.hok
  exact ⟨its,r,⟨_,n,e,rfl,rfl,rfl⟩,z⟩
 ·refine ⟨its.toList,r,⟨o,n,I.kIn a o hk,hc,hd,by simpa using hs⟩, ?_⟩
  have e:=r.length
  simp only [Array.length_toList] at e
  omega
theorem Inv.tuple (I:Inv X pins σ H s) (h:JE X.K H a xs):∃its:List Value,Aq xs its/\IsTup s.heap a its.toArray/\xs.length<=sizeLine:=by
 rcases h with h|⟨o,its,n,hk,hc,hs,hz,r⟩
 ·obtain ⟨z,its,r,p⟩:=h.ok I.hok
  exact ⟨its,r,p,z⟩
 ·refine ⟨its.toList,r,⟨o,I.kIn a o hk,hc,n,by simpa using hs⟩, ?_⟩
  have e:=r.length
  simp only [Array.length_toList] at e
  omega
theorem Inv.list_inj (I:Inv X pins σ H s) (h:Fc X.K H a xs) (h':Fc X.K H a ys):xs=ys:=by
 obtain ⟨its,r,⟨o,n,e,_,_,d⟩,_⟩:=I.list h
 obtain ⟨its',r',⟨o',n',e',_,_,d'⟩,_⟩:=I.list h'
 rw [e] at e';cases e'
 rw [d] at d'
 injection d' with d1 _
 have:its=its':=by simpa using congrArg Array.toList d1
 subst this
 exact r.inj r'
theorem Inv.tuple_inj (I:Inv X pins σ H s) (h:JE X.K H a xs) (h':JE X.K H a ys):xs=ys:=by
 obtain ⟨its,r,⟨o,e,_,n,d⟩,_⟩:=I.tuple h
 obtain ⟨its',r',⟨o',e',_,n',d'⟩,_⟩:=I.tuple h'
 rw [e] at e';cases e'
 rw [d] at d'
 injection d' with d1 _
 have:its=its':=by simpa using congrArg Array.toList d1
 subst this
 exact r.inj r'
end
abbrev Cx.wish (X:Cx) (E:Value->Shared->Prop):Cx:={X with xe:=E}
abbrev Cx.nox (X:Cx):Cx:=X.wish λ_ _=>False
theorem Cx.Ok.wish {X:Cx} (ok:X.Ok) (E:Value->Shared->Prop):(X.wish E).Ok:=
 ⟨ok.mod,ok.kind,ok.glob,ok.blt,ok.above,ok.inj,ok.has,ok.cab,ok.hd,ok.frames,ok.stk,ok.exf,ok.bs,ok.bsz,ok.noex,ok.exfs,ok.funs,ok.frf⟩
theorem Cx.Ok.unwish {X:Cx} {E:Value->Shared->Prop} (ok:(X.wish E).Ok):X.Ok:=
 ⟨ok.mod,ok.kind,ok.glob,ok.blt,ok.above,ok.inj,ok.has,ok.cab,ok.hd,ok.frames,ok.stk,ok.exf,ok.bs,ok.bsz,ok.noex,ok.exfs,ok.funs,ok.frf⟩
section
variable {X:Cx} {pins:List (Addr×Obj)} {σ:St} {H:Hp} {s:Shared} {E:Value->Shared->Prop}
theorem Inv.wish (I:Inv X pins σ H s) (E:Value->Shared->Prop):Inv (X.wish E) pins σ H s:=⟨I.ok.wish E,I.os,I.bare,I.base,I.loc,I.cell,I.free,I.freeC,I.pin,I.hok,I.len⟩
theorem Inv.unwish (I:Inv (X.wish E) pins σ H s):Inv X pins σ H s:=⟨I.ok.unwish,I.os,I.bare,I.base,I.loc,I.cell,I.free,I.freeC,I.pin,I.hok,I.len⟩
theorem SP.unwish {D:Oy} {f:Flow} {s':Shared} (h:SP (X.wish E) pins D f s'):SP X pins D f s':=by
 cases f with
 | next=>obtain ⟨σ',H',I,q⟩:=h;exact ⟨σ',H',I.unwish,q⟩
 | brk=>obtain ⟨σ',H',I,q⟩:=h;exact ⟨σ',H',I.unwish,q⟩
 | cont=>obtain ⟨σ',H',I,q⟩:=h;exact ⟨σ',H',I.unwish,q⟩
 | ret u=>obtain ⟨v,σ',H',I,r,q⟩:=h;exact ⟨v,σ',H',I.unwish,r,q⟩
theorem PE.nox {e:Expr} {t:TE} (h:PE X.nox e t):PE X e t:=λpins s σ H Q I hw=>
 wpAny_mono (h pins s σ H Q (I.wish _) hw) (λ_ _ ⟨v,H',I',r,q⟩=>⟨v,H',I'.unwish,r,q⟩) λ_ _ z=>False.elim z
theorem PT.nox {e:Expr} {t:TT} (h:PT X.nox e t):PT X e t:=λpins s σ H Q I hw=>
 wpAny_mono (h pins s σ H Q (I.wish _) hw) (λ_ _ ⟨H',I',q⟩=>⟨H',I'.unwish,q⟩) λ_ _ z=>False.elim z
theorem Rn.nox {st:List Stmt} {t:TS} (h:Rn X.nox st t):Rn X st t:=λpins s σ H D I hw=>
 wpAny_mono (h pins s σ H D (I.wish _) hw) (λ_ _ q=>q.unwish) λ_ _ z=>False.elim z
end
section
variable {X:Cx} {st:Stmt} {rest:List Stmt} {t u:TS} {e:Expr} {te:TE} {pos:Pos}
def dn:TS:=λD σ H=>D.nx σ H
def iG (t u:TS):TS:=λD σ H=>t {D with nx:=u D} σ H
theorem N4:Rn X [] dn:=λ_ _ σ H _ I h=>wpAny_execs_nil ⟨σ,H,I,h⟩
theorem DD (h1:PS X st t) (h2:Rn X rest u):Rn X (st::rest) (iG t u):=by
 intro pins s σ H D I h
 refine wpAny_execs_cons (Cd (h1 pins s σ H {D with nx:=u D} I h) λf s1 q=> ?_)
 cases f with
 | next=>
   obtain ⟨σ',H',I',q⟩:=q
   exact h2 pins s1 σ' H' D I' q
 | ret v=>exact q
 | brk=>exact q
 | cont=>exact q
theorem Hf (h1:PS X st t):Rn X [st] t:=by
 intro pins s σ H D I h
 refine wpAny_execs_cons (Cd (h1 pins s σ H D I h) λf s1 q=> ?_)
 cases f with
 | next=>exact wpAny_execs_nil q
 | ret v=>exact q
 | brk=>exact q
 | cont=>exact q
theorem Inv.quiet {pins:List (Addr×Obj)} {σ:St} {H:Hp} {s:Shared} (I:Inv X pins σ H s):interactive X.env=false:=by simp [interactive,I.ok.kind]
def Yl (te:TE):TS:=λD σ H=>te σ H λ_ H1=>D.nx σ H1
theorem X6 (he:PE X e te) (hs:swapsWith e none pos.line X.env=pure false:=by rfl):PS X (.Expr e pos) (Yl te):=by
 intro pins s σ H D I h
 exact wpAny_Expr_any (Cd (he pins s σ H _ I h) λv s1 ⟨x,H1,I1,r1,q1⟩=>⟨σ,H1,I1,q1⟩) I.quiet hs
def iF (te:TE):TS:=λD σ H=>te σ H D.rt
theorem N3 (he:PE X e te):PS X (.Return (some e) pos) (iF te):=by
 intro pins s σ H D I h
 exact wpAny_Return_some (Cd (he pins s σ H _ I h) λv s1 ⟨x,H1,I1,r1,q1⟩=>⟨x,σ,H1,I1,r1,q1⟩)
def h7 (c:TT) (t u:TS):TS:=λD σ H=>c σ H λb H1=>if b=true then t D σ H1 else u D σ H1
theorem V1 {c:Expr} {a b:List Stmt} {tc:TT} (hc:PT X c tc) (ha:Rn X a t) (hb:Rn X b u):PS X (.If c a b pos) (h7 tc t u):=by
 intro pins s σ H D I h
 refine wpAny_If (Cd (hc pins s σ H _ I h) λd s1 ⟨H1,I1,q1⟩=> ?_)
 cases d with
 | true=>exact ha pins s1 σ H1 D I1 q1
 | false=>exact hb pins s1 σ H1 D I1 q1
end
abbrev TG:=V->St->Hp->(St->Hp->Prop)->Prop
abbrev Qb:=List V->St->Hp->(St->Hp->Prop)->Prop
def PG (X:Cx) (target:Expr) (t:TG):Prop:=
 ∀(pins:List (Addr×Obj)) (s:Shared) (σ:St) (H:Hp) (v:V) (u:Value) (Q:St->Hp->Prop),Inv X pins σ H s->RelV v u->t v σ H Q->
  wpAny (model X.prog X.w) X.A (assign target X.env u) (λ_ s'=>∃σ' H',Inv X pins σ' H' s'/\Q σ' H') X.xe s
def az (X:Cx) (ts:List Expr) (t:Qb):Prop:=
 ∀(pins:List (Addr×Obj)) (s:Shared) (σ:St) (H:Hp) (vs:List V) (us:List Value) (Q:St->Hp->Prop),Inv X pins σ H s->Aq vs us->t vs σ H Q->
  wpAny (model X.prog X.w) X.A (assignInOrder ((assignEach ts X.env).map (·.2)) us) (λ_ s'=>∃σ' H',Inv X pins σ' H' s'/\Q σ' H') X.xe s
abbrev Y3:=V->V->V->Hp->(Hp->Prop)->Prop
def bX (X:Cx) (t:Y3):Prop:=
 ∀(pins:List (Addr×Obj)) (s:Shared) (σ:St) (H:Hp) (o i v:V) (ov iv u:Value) (Q:Hp->Prop),Inv X pins σ H s->RelV o ov->RelV i iv->RelV v u->t o i v H Q->
  wpAny (model X.prog X.w) X.A (setItem ov iv u) (λ_ s'=>∃H',Inv X pins σ H' s'/\Q H') X.xe s
section
variable {X:Cx} {pos:Pos}
def HW (i:Nat):TG:=λv σ H Q=>Q (σ.set i (some v)) H
theorem SM {i:Nat} {x:Str} (hN:X.N.Nodup) (hi:X.N[i]? =some x) (hx:Loc X.env.scope x) (hf:X.fn x=true\/X.env.scope.names.lookup x=some .local:=by first | exact .inl rfl|exact .inr rfl|assumption):PG X (.Name x pos) (HW i):=by
 intro pins s σ H v u Q I r h
 exact wpAny_assign_Name (IH I hN hi hx r (λs' I'=>⟨_,H,I',h⟩) hf)
def U6:Qb:=λvs σ H Q=>vs= [] /\Q σ H
def PP (t:TG) (u:Qb):Qb:=λvs σ H Q=>∃v r,vs=v::r/\t v σ H λσ' H'=>u r σ' H' Q
theorem SN:az X [] U6:=by
 intro pins s σ H vs us Q I r h
 obtain ⟨e,h⟩:=h
 subst e
 cases r
 exact assignInOrder_nil ⟨σ,H,I,h⟩
theorem Pt {e:Expr} {es:List Expr} {t:TG} {u:Qb} (h1:PG X e t) (h2:az X es u)
 (hs:(assignEach (e::es) X.env).map (·.2)=assign e X.env::(assignEach es X.env).map (·.2):=by rfl):az X (e::es) (PP t u):=by
 intro pins s σ H vs us Q I r h
 obtain ⟨v,vr,e1,h⟩:=h
 subst e1
 cases r with
 | cons r rr=>
   rw [hs]
   refine assignInOrder_cons (Cd (h1 pins s σ H _ _ _ I r h) λ_ s1 ⟨σ1,H1,I1,q1⟩=> ?_)
   exact h2 pins s1 σ1 H1 _ _ Q I1 rr q1
def gD (to ti:TE) (t:Y3):TG:=λv σ H Q=>to σ H λo H1=>ti σ H1 λi H2=>t o i v H2 λH3=>Q σ H3
theorem Vz {o i:Expr} {to ti:TE} {t:Y3} (ho:PE X o to) (hi:PE X i ti) (hs:bX X t)
 (ha:∀v,assign (.Subscript o i pos) X.env v=(do
   let ov <-holding [v] (eval o X.env)
   let iv <-holding [v,ov] (eval i X.env)
   standAt pos
   holding [v,ov,iv] (setItem ov iv v)
   release [v,ov,iv] []):=by intro _;rfl):PG X (.Subscript o i pos) (gD to ti t):=by
 intro pins s σ H v u Q I r h
 rw [ha]
 refine wpAny_bind (wpAny_holding (Cd (ho pins s σ H _ I h) λov s1 ⟨x,H1,I1,r1,q1⟩=> ?_))
 refine wpAny_bind (wpAny_holding (Cd (hi pins s1 σ H1 _ I1 q1) λiv s2 ⟨y,H2,I2,r2,q2⟩=> ?_))
 refine wpAny_bind (wpAny_standAt (wpAny_bind (wpAny_holding (Cd (hs pins s2 σ H2 x y v ov iv u _ I2 r1 r2 r q2) λ_ s3 ⟨H3,I3,q3⟩=> ?_))))
 exact wpAny_release ⟨σ,H3,I3,q3⟩
def WN (te:TE) (g:TG):TS:=λD σ H=>te σ H λx H1=>g x σ H1 D.nx
theorem RL {tg e:Expr} {te:TE} {g:TG} (he:PE X e te) (hg:PG X tg g) (hs:swapsWithSole [tg] e pos.line X.env=pure false:=by rfl) (hw:swappedStores [tg] e X.env=pure none:=by rfl)
 (h1:(assignEach [tg] X.env).map (·.2)= [assign tg X.env] :=by rfl):PS X (.Assign [tg] e pos) (WN te g):=by
 intro pins s σ H D I h
 refine wpAny_Assign_stores (Cd (he pins s σ H _ I h) λv s1 ⟨x,H1,I1,r1,q1⟩=> ?_) hs hw
 rw [h1]
 exact Cd (hg pins s1 σ H1 x v _ I1 r1 q1) λ_ s2 q=>q
theorem G3 {i:Nat} {x:Str} {e:Expr} {te:TE} {pos':Pos} (hN:X.N.Nodup) (hi:X.N[i]? =some x) (hx:Loc X.env.scope x) (he:PE X e te) (hs:swapsWith e (some (.Name x pos')) pos.line X.env=pure false:=by rfl) (hf:X.fn x=true\/X.env.scope.names.lookup x=some .local:=by first | exact .inl rfl|exact .inr rfl|assumption):
 PS X (.Assign [.Name x pos'] e pos) (WN te (HW i)):=by
 intro pins s σ H D I h
 refine wpAny_Assign_Name (Cd (he pins s σ H _ I h) λv s1 ⟨y,H1,I1,r1,q1⟩=> ?_) hs
 exact IH I1 hN hi hx r1 (λs2 I2=>⟨_,H1,I2,q1⟩) hf
def iE (i j:Nat) (ta:TA):TS:=λD σ H=>ta σ H λvs H1=>∃v w,vs= [v,w] /\D.nx ((σ.set i (some v)).set j (some w)) H1
theorem aB {i j:Nat} {x y:Str} {a b:Expr} {ta:TA} {px py pt:Pos} {kt k2 pt2} (hc:X.calm=true) (hN:X.N.Nodup) (hi:X.N[i]? =some x) (hj:X.N[j]? =some y) (gQ:i≠j)
 (hx:X.env.scope.names.lookup x=some .local) (hy:X.env.scope.names.lookup y=some .local) (ha:PA X [a,b] ta)
 (hw:swappedStores [.Tuple [.Name x px, .Name y py] kt pt] (.Tuple [a,b] k2 pt2) X.env=pure (some [x,y]))
 (hs:swapsWithSole [.Tuple [.Name x px, .Name y py] kt pt] (.Tuple [a,b] k2 pt2) pos.line X.env=pure false:=by rfl):
 PS X (.Assign [.Tuple [.Name x px, .Name y py] kt pt] (.Tuple [a,b] k2 pt2) pos) (iE i j ta):=by
 intro pins s σ H D I h
 rw [exec_Assign_arm]
 refine wpAny_bind (wpAny_standAt ?_)
 rw [hs]
 refine wpAny_bind (wpAny_pure ?_)
 rw [if_neg (by decide)]
 refine wpAny_bind (Tuple_ (Cd (ha _ pins s σ H _ I h) λus s1 ⟨vs,H1,I1,r1,q1⟩=> ?_))
 obtain ⟨v,w,e1,q1⟩:=q1
 subst e1
 obtain ⟨u1,u2,rfl,rv,rw'⟩:∃u1 u2,us= [u1,u2] /\RelV v u1/\RelV w u2:=by
  cases r1 with
  | cons p q=>
    cases q with
    | cons p' q'=>
      cases q'
      exact ⟨_,_,rfl,p,p'⟩
 refine wpAny_newObj_type ?_ (by show 2<=sizeLine;decide)
 have I2:Inv X pins σ H1 {s1 with heap:=s1.heap.push {cls:= .type "tuple",data:= .seq [u1,u2].toArray}}:=I1.kept (t':=s1.toks) λb o e=>Heap.get?_push_of_some _ e
 rw [hw]
 refine wpAny_bind (wpAny_pure ?_)
 show wpAny (model X.prog X.w) X.A (do rule "assign.swapped-stores";let items <-unpackItems (.ref s1.heap.objs.size) 2 none;assignInOrder [λv=>bindName X.env y v,λv=>bindName X.env x v] items.reverse;pure Flow.next) _ _ _
 refine wpAny_bind (wpAny_rule (wpAny_bind (unpackItems_tuple (items:= #[u1,u2]) (I.ok.hd hc) (IsTup.new s1.heap _) λh' mP=> ?_)))
 have I3:=I2.kept (h':=h') (t':=s1.toks) λb o e=>mP b o (Nat.ne_of_lt (Heap.lt_size e)) e
 show wpAny _ _ (assignInOrder [λv=>bindName X.env y v,λv=>bindName X.env x v] [u2,u1] >>= λ_=>pure Flow.next) _ _ _
 refine wpAny_bind (assignInOrder_cons (wpAny_bindName (IH I3 hN hj (.inl hy) rw' (λs2 I4=> ?_) (.inr hy))))
 refine assignInOrder_cons (wpAny_bindName (IH I4 hN hi (.inl hx) rv (λs3 I5=>assignInOrder_nil (wpAny_pure ?_)) (.inr hx)))
 rw [List.set_comm _ _ (Ne.symm gQ)] at I5
 exact ⟨_,H1,I5,q1⟩
end
section
variable {X:Cx} {pos:Pos}
def aj (c:TT) (tb:TS):TS:=λD σ H=>∃W:Nat->St->Hp->Prop,(∃m,W m σ H)/\∀m σ H,W m σ H->
 c σ H λb H1=>if b=true then ∃N:St->Hp->Prop,(∀σ' H',N σ' H'->∃m',m'<m/\W m' σ' H')/\tb {D with nx:=N,ct:=N,bk:=D.nx} σ H1 else D.nx σ H1
theorem V2 {c:Expr} {body:List Stmt} {tc:TT} {tb:TS} (hp:PassesOwn (model X.prog X.w) X.A X.env X.xe) (hc:PT X c tc) (hb:Rn X body tb):PS X (.While c body [] pos) (aj tc tb):=by
 intro pins s σ H D I h
 obtain ⟨W,⟨m0,w0⟩,turn⟩:=h
 refine wpAny_While (codeAny_whileLoop (λn s'=>∃σ' H',Inv X pins σ' H' s'/\W n σ' H') ?_ m0 ⟨σ,H,I,w0⟩)
 rintro n s1 ⟨σ1,H1,I1,w1⟩
 refine wpAny_passesOwn hp (Cd (hc pins s1 σ1 H1 _ I1 (turn n σ1 H1 w1)) λb s2 ⟨H2,I2,q2⟩=> ?_)
 cases b with
 | true=>
   obtain ⟨N,hN,q2⟩:=q2
   rw [if_pos rfl]
   refine wpAny_passesOwn hp (Cd (hb pins s2 σ1 H2 _ I2 q2) λf s3 q3=> ?_)
   cases f with
   | next=>
     obtain ⟨σ3,H3,I3,n3⟩:=q3
     obtain ⟨m',hm,w3⟩:=hN σ3 H3 n3
     exact ⟨m',hm,σ3,H3,I3,w3⟩
   | cont=>
     obtain ⟨σ3,H3,I3,n3⟩:=q3
     obtain ⟨m',hm,w3⟩:=hN σ3 H3 n3
     exact ⟨m',hm,σ3,H3,I3,w3⟩
   | brk=>exact q3
   | ret v=>exact q3
 | false=>
   rw [if_neg Bool.false_ne_true]
   exact wpAny_execs_nil ⟨σ1,H2,I2,q2⟩
end
structure It where
 go:Nat->Hp->Prop
 yld:Nat->Hp->V->Hp->Prop
 stop:Nat->Hp->Prop
def Gu (X:Cx) (pins:List (Addr×Obj)) (H:Hp) (b:Addr):Prop:=
 H b=none/\b≠X.env.locals/\b ∉ X.fs/\(b∈X.ex\/X.s₀.heap.objs.size<=b)/\(∀x c,X.env.cells.lookup x=some c->c≠b)/\∀p∈X.pn++pins,p.1≠b
theorem Inv.fpOk {X:Cx} {pins:List (Addr×Obj)} {σ:St} {H H':Hp} {s:Shared} {b:Addr} (I:Inv X pins σ H s) (hb:s.heap.objs.size<=b) (hn:H' b=none):Gu X pins H' b:=by
 refine ⟨hn,Nat.ne_of_gt (Nat.lt_of_lt_of_le I.lt hb),I.nofs hb, .inr (Nat.le_trans I.sz hb),λx c e z=> ?_,λp hp z=> ?_⟩
 ·obtain ⟨v,q⟩:=I.cell x c e
  exact absurd (Nat.lt_of_lt_of_le q.lt (by rw [z];exact hb)) (Nat.lt_irrefl _)
 ·exact absurd (Nat.lt_of_lt_of_le (Heap.lt_size (I.pin p hp).1) (by rw [z];exact hb)) (Nat.lt_irrefl _)
structure Qc (P:Program) (w:World) (K:PySem.W.Frag) (tg:Expr) (J:It) (fp:List Addr) (it:Addr) (tn:Nat->Heap->Prop):Prop where
 mem:it∈fp
 obj:∀i h,tn i h->∀b∈fp,∃o,h.get? b=some o/\∀v,o.data≠ .cell v
 keep:∀i h h',tn i h->(∀b∈fp,∀o,h.get? b=some o->h'.get? b=some o)->tn i h'
 item:∀(X:Cx),X.prog=P->X.w=w->X.K=K->X.calm=true->∀(i:Nat) (pins:List (Addr×Obj)) (s:Shared) (σ:St) (H:Hp) (E:Value->Shared->Prop),Inv X pins σ H s->(∀b∈fp,Gu X pins H b)->tn i s.heap->J.go i H->
  wpAny (model P w) X.A (pyNext (.ref it)) (λr s1=>∃u,r=some u/\
   wpAny (model P w) X.A (letOwnedTupleGo tg (.ref it) u) (λ_ s2=>∃x H',Inv X pins σ H' s2/\RelV x u/\J.yld i H x H'/\tn (i+1) s2.heap/\∀b∈fp,H' b=none) E s1) E s
 done:∀(X:Cx),X.prog=P->X.w=w->X.K=K->X.calm=true->∀(i:Nat) (pins:List (Addr×Obj)) (s:Shared) (σ:St) (H:Hp) (E:Value->Shared->Prop),Inv X pins σ H s->(∀b∈fp,Gu X pins H b)->tn i s.heap->J.stop i H->
  wpAny (model P w) X.A (pyNext (.ref it)) (λr s1=>r=none/\Inv X pins σ H s1) E s
 self:∀(A:Around) (i:Nat) (s:Shared) (Q:Value->Shared->Prop) (E:Value->Shared->Prop),tn i s.heap->Q (.ref it) s->wpAny (model P w) A (pyIter (.ref it)) Q E s
abbrev TI:=St->Hp->(It->Hp->Prop)->Prop
def jF (X:Cx) (pins:List (Addr×Obj)) (σ:St) (tg:Expr) (R:It->Hp->Prop) (itv:Value) (s2:Shared):Prop:=
 ∃(it:Addr) (fp:List Addr) (tn:Nat->Heap->Prop) (J:It) (H':Hp),itv= .ref it/\Inv X pins σ H' s2/\Qc X.prog X.w X.K tg J fp it tn/\tn 0 s2.heap/\(∀b∈fp,Gu X pins H' b)/\R J H'
def PI (X:Cx) (tg iter:Expr) (wi:TI):Prop:=
 ∀(pins:List (Addr×Obj)) (s:Shared) (σ:St) (H:Hp) (R:It->Hp->Prop),Inv X pins σ H s->wi σ H R->
  wpAny (model X.prog X.w) X.A (eval iter X.env) (λv s1=>wpAny (model X.prog X.w) X.A (pyIter v) (jF X pins σ tg R) X.xe s1) X.xe s
theorem U9 {M:Model} {A:Around} {E:Value->Shared->Prop} {s:Shared} {tg:Expr} {it:Addr} {u:Value} {o:Obj} {n:String} {vs:Array Value} {Q:Unit->Shared->Prop} (ho:s.heap.get? it=some o) (hc:o.cls= .type n) (hd:o.data= .fields vs)
 (hn: ["enumerate","zip","dict_itemiterator","dict_reverseitemiterator","odict_iterator","itertools.zip_longest","itertools.pairwise"].contains n=false) (hQ:Q () s):wpAny M A (letOwnedTupleGo tg (.ref it) u) Q E s:=by
 unfold letOwnedTupleGo
 cases tg <;> first
  | exact wpAny_pure hQ
  | (cases u <;> first
      | exact wpAny_pure hQ
      | (refine wpAny_bind (wpAny_load ho ?_)
         rw [hc,hd]
         show wpAny M A (if (["enumerate","zip","dict_itemiterator","dict_reverseitemiterator","odict_iterator","itertools.zip_longest","itertools.pairwise"].contains n&&vs[0]?==some (rawInt _))=true then _ else _) Q E s
         rw [if_neg (by intro h;rw [hn,Bool.false_and] at h;cases h)]
         exact wpAny_pure hQ))
def fZ (K:PySem.W.Frag) (a:Addr):It:=
 ⟨λi H=>∃xs x,Fc K H a xs/\xs[i]? =some x,λi H x H'=>H'=H/\∀xs,Fc K H a xs->xs[i]? =some x,λi H=>∃xs,Fc K H a xs/\xs.length<=i⟩
def fg (K:PySem.W.Frag) (a:Addr):It:=
 ⟨λi H=>∃xs x,JE K H a xs/\xs[i]? =some x,λi H x H'=>H'=H/\∀xs,JE K H a xs->xs[i]? =some x,λi H=>∃xs,JE K H a xs/\xs.length<=i⟩
def bS (lo:Int) (n:Nat):It:=⟨λi _=>i<n,λi H x H'=>H'=H/\x= .int (lo+i),λi _=>n<=i⟩
theorem UN {P:Program} {w:World} {K:PySem.W.Frag} {tg:Expr} (a it:Addr):Qc P w K tg (fZ K a) [it] it (λi h=>h.IsListIter it a i) where
 mem:=by simp
 obj:=λi h st b hb=>by
  have e:b=it:=by simpa using hb
  subst e
  obtain ⟨o,e,c,d⟩:=st
  exact ⟨o,e,λv z=>by rw [d] at z;cases z⟩
 keep:=λi h h' st k=>st.at λo e=>k it (by simp) o e
 item:=by
  intro X hP hw hK hc i pins s σ H E I hf st hg
  subst hP hw hK
  obtain ⟨xs,x,hq,hx⟩:=hg
  obtain ⟨its,rv,p,hz⟩:=I.list hq
  obtain ⟨u,hu,ru⟩:=rv.get hx
  obtain ⟨f0,f1,f2,f3,f4,f5⟩:=hf it (by simp)
  refine wpAny_pyNext_list_item st p.isList (x:=u) (by simpa using hu) λh' st' sb=> ?_
  have I1:Inv X pins σ H {s with heap:=h'}:=I.turned (t':=s.toks) (λb o hb e=>(sb.2 b hb).trans e) f0 f1 f3 f4 f5
  obtain ⟨o,e,c,d⟩:=id st'
  exact ⟨u,rfl,U9 (s:={s with heap:=h'}) e c d (by decide) ⟨x,H,I1,ru,⟨rfl,λys hy=>by rw [I.list_inj hy hq];exact hx⟩,st',λb hb=>(hf b hb).1⟩⟩
 done:=by
  intro X hP hw hK hc i pins s σ H E I hf st hg
  subst hP hw hK
  obtain ⟨xs,hq,hx⟩:=hg
  obtain ⟨its,rv,p,hz⟩:=I.list hq
  obtain ⟨f0,f1,f2,f3,f4,f5⟩:=hf it (by simp)
  have hl:=rv.length
  exact wpAny_pyNext_list_end (I.ok.hd hc) st p.isList (by simp;omega) λh' eb=>⟨rfl,I.turned (t':=s.toks) (λb o hb e=>eb b o hb e) f0 f1 f3 f4 f5⟩
 self:=λ_ _ _ _ _ st h=>wpAny_pyIter_listiter st h
theorem Rg {P:Program} {w:World} {K:PySem.W.Frag} {tg:Expr} (a it:Addr):Qc P w K tg (fg K a) [it] it (λi h=>h.IsTupleIter it a i) where
 mem:=by simp
 obj:=λi h st b hb=>by
  have e:b=it:=by simpa using hb
  subst e
  obtain ⟨o,e,c,d⟩:=st
  exact ⟨o,e,λv z=>by rw [d] at z;cases z⟩
 keep:=λi h h' st k=>st.at λo e=>k it (by simp) o e
 item:=by
  intro X hP hw hK hc i pins s σ H E I hf st hg
  subst hP hw hK
  obtain ⟨xs,x,hq,hx⟩:=hg
  obtain ⟨its,rv,p,hz⟩:=I.tuple hq
  obtain ⟨u,hu,ru⟩:=rv.get hx
  obtain ⟨f0,f1,f2,f3,f4,f5⟩:=hf it (by simp)
  refine wpAny_pyNext_tuple_item st (show s.heap.IsTuple a its.toArray from p) (x:=u) (by simpa using hu) λh' st' sb=> ?_
  have I1:Inv X pins σ H {s with heap:=h'}:=I.turned (t':=s.toks) (λb o hb e=>(sb.2 b hb).trans e) f0 f1 f3 f4 f5
  obtain ⟨o,e,c,d⟩:=id st'
  exact ⟨u,rfl,U9 (s:={s with heap:=h'}) e c d (by decide) ⟨x,H,I1,ru,⟨rfl,λys hy=>by rw [I.tuple_inj hy hq];exact hx⟩,st',λb hb=>(hf b hb).1⟩⟩
 done:=by
  intro X hP hw hK hc i pins s σ H E I hf st hg
  subst hP hw hK
  obtain ⟨xs,hq,hx⟩:=hg
  obtain ⟨its,rv,p,hz⟩:=I.tuple hq
  obtain ⟨f0,f1,f2,f3,f4,f5⟩:=hf it (by simp)
  have hl:=rv.length
  exact wpAny_pyNext_tuple_end (I.ok.hd hc) st (show s.heap.IsTuple a its.toArray from p) (by simp;omega) λh' eb=>⟨rfl,I.turned (t':=s.toks) (λb o hb e=>eb b o hb e) f0 f1 f3 f4 f5⟩
 self:=λ_ _ _ _ _ st h=>wpAny_pyIter_tupleiter st h
theorem Rf {P:Program} {w:World} {K:PySem.W.Frag} {tg:Expr} (it:Addr) (lo:Int) (n:Nat):Qc P w K tg (bS lo n) [it] it (λi h=>IsRangeIter h it (lo+(i:Nat)*1) ((n:Int)-(i:Nat)) 1) where
 mem:=by simp
 obj:=λi h st b hb=>by
  have e:b=it:=by simpa using hb
  subst e
  exact ⟨_,st,λv z=>by
   have z':Data.fields _=Data.cell v:=z
   cases z'⟩
 keep:=λi h h' st k=>k it (by simp) _ st
 item:=by
  intro X hP hw hK hc i pins s σ H E I hf st hg
  subst hP hw hK
  obtain ⟨f0,f1,f2,f3,f4,f5⟩:=hf it (by simp)
  have W:=Walks.range (prog:=X.prog) (w:=X.w) (I.ok.hd hc) it lo 1 n
  refine W.item i s _ _ hg st λv h' tk hv st' kk=> ?_
  obtain ⟨t,rfl⟩:=hv
  have I1:Inv X pins σ H {s with heap:=h',toks:=tk}:=I.turned (λb o hb e=>kk b o (by simpa using hb) e) f0 f1 f3 f4 f5
  refine ⟨_,rfl,U9 (s:={s with heap:=h',toks:=tk}) (n:="range_iterator") st' rfl rfl (by decide) ⟨.int (lo+i),H,I1,⟨t, ?_⟩,⟨rfl,rfl⟩,st',λb hb=>(hf b hb).1⟩⟩
  rw [Int.mul_one]
 done:=by
  intro X hP hw hK hc i pins s σ H E I hf st hg
  subst hP hw hK
  obtain ⟨f0,f1,f2,f3,f4,f5⟩:=hf it (by simp)
  exact wpAny_pyNext_range_end (I.ok.hd hc) st (by have:n<=i:=hg;omega) λh' eb=>⟨rfl,I.turned (t':=s.toks) (λb o hb e=>eb b o hb e) f0 f1 f3 f4 f5⟩
 self:=λ_ _ _ _ _ st h=>wpAny_pyIter_rangeiter st h
end L2
namespace L2
open PySem PySem.Spec PyProof.Rows
section
variable {X:Cx} {tg:Expr}
theorem Pu {pins:List (Addr×Obj)} {σ:St} {H:Hp} {s:Shared} {R:It->Hp->Prop} {E:Value->Shared->Prop} {lo hi:Int} {t u v:Tok} {tk:Nat} (I:Inv X pins σ H s) (h1: -(2^62)<=lo) (h2:lo<2^62) (h3: -(2^62)<=hi) (h4:hi<2^62)
 (q:R (bS lo (hi-lo).toNat) H):wpAny (model X.prog X.w) X.A (pyIter (.ref s.heap.objs.size)) (jF X pins σ tg R) E {s with heap:=s.heap.push {cls:= .type "range",data:= .fields #[.int lo t, .int hi u, .int 1 v] },toks:=tk}:=by
 refine wpAny_pyIter_range (IsRange.new ..) (small_one h1 h2 h3 h4) ?_
 have I1:Inv X pins σ H {s with heap:=s.heap.push {cls:= .type "range",data:= .fields #[.int lo t, .int hi u, .int 1 v] },toks:=tk}:=I.kept λb o e=>Heap.get?_push_of_some _ e
 refine ⟨(s.heap.push {cls:= .type "range",data:= .fields #[.int lo t, .int hi u, .int 1 v] }).objs.size, [(s.heap.push {cls:= .type "range",data:= .fields #[.int lo t, .int hi u, .int 1 v] }).objs.size],_,_,H,rfl,
  I1.kept (t':=tk) λb o e=>Heap.get?_push_of_some _ e,Rf _ lo (hi-lo).toNat, ?_,λb hb=> ?_,q⟩
 ·have e1:lo+((0:Nat):Int)*1=lo:=by simp
  have e2:(((hi-lo).toNat:Nat):Int)-((0:Nat):Int)=Builtin.Range.rangeSize lo hi 1:=by rw [rangeSize_one];split <;> omega
  show IsRangeIter _ _ (lo+((0:Nat):Int)*1) ((((hi-lo).toNat:Nat):Int)-((0:Nat):Int)) 1
  rw [e1,e2]
  exact Heap.get?_push_size _ rfl
 ·have e:b=(s.heap.push {cls:= .type "range",data:= .fields #[.int lo t, .int hi u, .int 1 v] }).objs.size:=by simpa using hb
  subst e
  exact I1.fpOk (Nat.le_refl _) (I1.hok.fresh (Nat.le_refl _))
def cR (ta:TA):TI:=λσ H R=>ta σ H λvs H1=>∃j:Int,vs= [.int j] /\ -(2^62)<=j/\j<2^62/\R (bS 0 j.toNat) H1
def cS (ta:TA):TI:=λσ H R=>ta σ H λvs H1=>∃i j:Int,vs= [.int i, .int j] /\(-(2^62)<=i/\i<2^62/\ -(2^62)<=j/\j<2^62)/\R (bS i (j-i).toNat) H1
theorem UC {a:Expr} {ta:TA} {p pos:Pos} (hg:Gl X "range") (hm:X.mg "range" =none) (ha:PA X [a] ta) (hs:starEach [a] X.env= [(false,eval a X.env)] :=by rfl):PI X tg (.Call (.Name "range" p) [a] [] pos) (cR ta):=by
 intro pins s σ H R I h
 refine Call_ (LM I hg hm boot_range (PyProof.Rows.callWith_type1 (Cd (ha pos pins s σ H _ I h) λus s1 ⟨vs,H1,I1,r1,q1⟩=> ?_) hs rfl))
 obtain ⟨j,e,q1,q2,q⟩:=q1
 subst e
 cases r1 with
 | cons r rr=>
   cases rr
   obtain ⟨t,rfl⟩:=r
   exact call_range_1 (Pu I1 (by omega) (by omega) q1 q2 (by simpa using q))
theorem UD {a b:Expr} {ta:TA} {p pos:Pos} (hg:Gl X "range") (hm:X.mg "range" =none) (ha:PA X [a,b] ta) (hs:starEach [a,b] X.env= [(false,eval a X.env),(false,eval b X.env)] :=by rfl) (XX:starEach [b] X.env= [(false,eval b X.env)] :=by rfl):
 PI X tg (.Call (.Name "range" p) [a,b] [] pos) (cS ta):=by
 intro pins s σ H R I h
 refine Call_ (LM I hg hm boot_range (PyProof.Rows.callWith_type1 (Cd (ha pos pins s σ H _ I h) λus s1 ⟨vs,H1,I1,r1,q1⟩=> ?_) (by rw [hs,XX]) (by rw [XX];rfl)))
 obtain ⟨i,j,e,⟨q1,q2,q3,q4⟩,q⟩:=q1
 subst e
 cases r1 with
 | cons r rr=>
   cases rr with
   | cons r' rr=>
     cases rr
     obtain ⟨t,rfl⟩:=r
     obtain ⟨t',rfl⟩:=r'
     exact call_range_2 (Pu I1 q1 q2 q3 q4 q)
def hZ (wi:TI) (g:TG) (tb:TS):TS:=λD σ H=>wi σ H λJ H1=>∃W:Nat->Nat->St->Hp->Prop,(∃m,W 0 m σ H1)/\∀i m σ H,W i m σ H->
 (J.stop i H/\D.nx σ H)\/(J.go i H/\∃N:St->Hp->Prop,(∀σ' H',N σ' H'->∃m',m'<m/\W (i+1) m' σ' H')/\∀x H',J.yld i H x H'->g x σ H' λσ2 H2=>tb {D with nx:=N,ct:=N,bk:=D.nx} σ2 H2)
def LU (fp:List Addr) (h:Heap):List (Addr×Obj):=fp.filterMap λb=>(h.get? b).map λo=>(b,o)
theorem FA {fp:List Addr} {h:Heap} {b:Addr} {o:Obj} (hb:b∈fp) (e:h.get? b=some o):(b,o)∈LU fp h:=List.mem_filterMap.mpr ⟨b,hb,by rw [e];rfl⟩
theorem Tv {fp:List Addr} {h:Heap} {p:Addr×Obj} (hp:p∈LU fp h):p.1∈fp/\h.get? p.1=some p.2:=by
 obtain ⟨b,hb,e⟩:=List.mem_filterMap.mp hp
 cases q:h.get? b with
 | none=>rw [q] at e;cases e
 | some o=>
   rw [q] at e
   have e':(b,o)=p:=Option.some.inj e
   subst e'
   exact ⟨hb,q⟩
theorem Inv.pinned {pins:List (Addr×Obj)} {σ:St} {H:Hp} {s:Shared} {fp:List Addr} (I:Inv X pins σ H s) (hf:∀b∈fp,Gu X pins H b) (ho:∀b∈fp,∃o,s.heap.get? b=some o/\∀v,o.data≠ .cell v):Inv X (pins++LU fp s.heap) σ H s:=
 I.pins_of λp hp=>(List.mem_append.mp hp).elim (λz=>I.pin p (List.mem_append_right _ z)) λz=>by
   obtain ⟨hb,e⟩:=Tv z
   obtain ⟨f0,f1,f2,_⟩:=hf p.1 hb
   obtain ⟨o,e',d⟩:=ho p.1 hb
   rw [e] at e';cases e'
   exact ⟨e,f0,f1,f2,d⟩
theorem Inv.unpinned {pins pl:List (Addr×Obj)} {σ:St} {H:Hp} {s:Shared} (I:Inv X (pins++pl) σ H s):Inv X pins σ H s:=I.pins_of λp hp=>I.pin p (List.mem_append_right _ (List.mem_append_left _ hp))
theorem aA {iter:Expr} {body:List Stmt} {wi:TI} {g:TG} {tb:TS} {pos:Pos} (hp:PassesOwn (model X.prog X.w) X.A X.env X.xe) (hc:X.calm=true) (hi:PI X tg iter wi) (hg:PG X tg g) (hb:Rn X body tb)
 (hs:∀x,foldedSetIterable iter X.env x=pure x:=by intro _;rfl):PS X (.For tg iter body [] pos) (hZ wi g tb):=by
 intro pins s σ H D I h
 refine wpAny_For (Cd (hi pins s σ H _ I h) λv s1 h1=>Cd h1 λitv s2 h2=> ?_) hs
 obtain ⟨it,fp,tn,J,H2,e,I2,T,st2,f2,W,⟨m0,w0⟩,turn⟩:=h2
 subst e
 have stat:∀{H':Hp},(∀b∈fp,H' b=none)->∀b∈fp,Gu X pins H' b:=λhn b hb=>⟨hn b hb,(f2 b hb).2⟩
 refine codeAny_forLoop_any (λn s'=>∃i σ' H',Inv X pins σ' H' s'/\tn i s'.heap/\(∀b∈fp,H' b=none)/\W i n σ' H') ?_ m0 ⟨0,σ,H2,I2,st2,λb hb=>(f2 b hb).1,w0⟩
 rintro n s3 ⟨i,σ3,H3,I3,st3,fr3,w3⟩
 rcases turn i n σ3 H3 w3 with ⟨stop,qn⟩|⟨go,N,hN,step⟩
 ·refine wpAny_passesOwn hp (Cd (T.done X rfl rfl rfl hc i pins s3 σ3 H3 X.xe I3 (stat fr3) st3 stop) λr s4 ⟨hr,I4⟩=> ?_)
  subst hr
  exact wpAny_execs_nil ⟨σ3,H3,I4,qn⟩
 ·refine wpAny_passesOwn hp (Cd (T.item X rfl rfl rfl hc i pins s3 σ3 H3 X.xe I3 (stat fr3) st3 go) λr s4 ⟨u,hr,h4⟩=> ?_)
  subst hr
  refine wpAny_passesOwn hp (Cd h4 λ_ s5 ⟨x,H5,I5,r5,y5,st5,fr5⟩=> ?_)
  have I5':=I5.pinned (stat fr5) (T.obj _ _ st5)
  refine wpAny_passesOwn hp (Cd (hg _ s5 σ3 H5 x u _ I5' r5 (step x H5 y5)) λ_ s6 ⟨σ6,H6,I6,q6⟩=> ?_)
  refine wpAny_passesOwn hp (Cd (hb _ s6 σ6 H6 _ I6 q6) λf s7 q7=> ?_)
  have again:∀{σ7:St} {H7:Hp},Inv X (pins++LU fp s5.heap) σ7 H7 s7->N σ7 H7->∃m,m<n/\∃i σ' H',Inv X pins σ' H' s7/\tn i s7.heap/\(∀b∈fp,H' b=none)/\W i m σ' H':=λ{σ7 H7} I7 n7=>by
   obtain ⟨m',hm,w7⟩:=hN σ7 H7 n7
   refine ⟨m',hm,i+1,σ7,H7,I7.unpinned,T.keep _ _ _ st5 λb hb o e=>(I7.pin (b,o) (List.mem_append_right _ (List.mem_append_right _ (FA hb e)))).1,λb hb=> ?_,w7⟩
   obtain ⟨o,e,d⟩:=T.obj _ _ st5 b hb
   exact (I7.pin (b,o) (List.mem_append_right _ (List.mem_append_right _ (FA hb e)))).2.1
  cases f with
  | next=>obtain ⟨σ7,H7,I7,n7⟩:=q7;exact again I7 n7
  | cont=>obtain ⟨σ7,H7,I7,n7⟩:=q7;exact again I7 n7
  | brk=>obtain ⟨σ7,H7,I7,q7⟩:=q7;exact ⟨σ7,H7,I7.unpinned,q7⟩
  | ret v=>obtain ⟨x7,σ7,H7,I7,r7,q7⟩:=q7;exact ⟨x7,σ7,H7,I7.unpinned,r7,q7⟩
end
end L2
namespace L2
open PySem PySem.Spec PyProof.Rows
abbrev R2:=V->V->Hp->VK->Prop
def Dc (X:Cx) (f:Value->Value->Sem Value) (r:R2):Prop:=
 ∀(pins:List (Addr×Obj)) (s:Shared) (σ:St) (H:Hp) (x y:V) (v u:Value) (Q:VK),Inv X pins σ H s->RelV x v->RelV y u->r x y H Q->
  wpAny (model X.prog X.w) X.A (f v u) (EP X pins σ Q) X.xe s
def fw (X:Cx) (f:Value->Sem Value) (r:V->Hp->VK->Prop):Prop:=
 ∀(pins:List (Addr×Obj)) (s:Shared) (σ:St) (H:Hp) (x:V) (v:Value) (Q:VK),Inv X pins σ H s->RelV x v->r x H Q->
  wpAny (model X.prog X.w) X.A (f v) (EP X pins σ Q) X.xe s
def DM (X:Cx) (f:Value) (r:List V->Hp->VK->Prop):Prop:=
 ∀(pins:List (Addr×Obj)) (s:Shared) (σ:St) (H:Hp) (xs:List V) (us:List Value) (Q:VK),Inv X pins σ H s->Aq xs us->r xs H Q->
  wpAny (model X.prog X.w) X.A (call f us) (EP X pins σ Q) X.xe s
def fu (X:Cx) (r:V->Hp->(Bool->Hp->Prop)->Prop):Prop:=
 ∀(pins:List (Addr×Obj)) (s:Shared) (σ:St) (H:Hp) (x:V) (v:Value) (Q:Bool->Hp->Prop),Inv X pins σ H s->RelV x v->r x H Q->
  wpAny (model X.prog X.w) X.A (truthy v) (TP X pins σ Q) X.xe s
def dt (r:R2) (ta tb:TE):TE:=λσ H Q=>ta σ H λx H1=>tb σ H1 λy H2=>r x y H2 Q
def mj (r:V->Hp->VK->Prop) (ta:TE):TE:=λσ H Q=>ta σ H λx H1=>r x H1 Q
def rI (C:Int->Int->Prop) (g:Int->Int->V):R2:=λx y H Q=>∃i j,x= .int i/\y= .int j/\C i j/\Q (g i j) H
def OX (g:Int->Int->V):R2:=λx y H Q=>∃i j,x= .int i/\y= .int j/\Q (g i j) H
def rU (g:Int->V):V->Hp->VK->Prop:=λx H Q=>∃i,x= .int i/\Q (g i) H
section
variable {X:Cx} {a b c:Expr} {ta tb tc:TE} {pos:Pos}
theorem Y8 (ha:PE X a ta) (hb:PE X b tb) {pins:List (Addr×Obj)} {s:Shared} {σ:St} {H:Hp} {R:V->V->Hp->Prop} (I:Inv X pins σ H s)
 (h:ta σ H λx H1=>tb σ H1 λy H2=>R x y H2) {Q:Value->Shared->Prop} {f:Value->Value->Sem Value}
 (hf:∀v u s2 x y H2,Inv X pins σ H2 s2->RelV x v->RelV y u->R x y H2->wpAny (model X.prog X.w) X.A (f v u) Q X.xe s2):
 wpAny (model X.prog X.w) X.A (eval a X.env) (λv s₁=>wpAny (model X.prog X.w) X.A (eval b X.env) (λu s₂=>wpAny (model X.prog X.w) X.A (f v u) Q X.xe s₂) X.xe s₁) X.xe s:=by
 refine Cd (ha pins s σ H _ I h) λv s1 ⟨x,H1,I1,r1,q1⟩=> ?_
 refine Cd (hb pins s1 σ H1 _ I1 q1) λu s2 ⟨y,H2,I2,r2,q2⟩=> ?_
 exact hf v u s2 x y H2 I2 r1 r2 q2
theorem CY {op:Operator} {r:R2} (ho:Dc X (binaryOp op) r) (ha:PE X a ta) (hb:PE X b tb):PE X (.BinOp a op b pos) (dt r ta tb):=by
 intro pins s σ H Q I h
 exact wpAny_BinOp (Y8 ha hb I h λv u s2 x y H2 I2 rx ry q=>ho pins s2 σ H2 x y v u Q I2 rx ry q)
theorem dF {op:UnaryOp} {r:V->Hp->VK->Prop} (ho:fw X (unaryOp op) r) (ha:PE X a ta):PE X (.UnaryOp op a pos) (mj r ta):=by
 intro pins s σ H Q I h
 exact UnaryOp_ (Cd (ha pins s σ H _ I h) λv s1 ⟨x,H1,I1,r1,q1⟩=>ho pins s1 σ H1 x v Q I1 r1 q1)
theorem Zw {f:Value->Value->Sem Value} {C:Int->Int->Prop} {g:Int->Int->Int}
 (rule:∀(i j:Int) (t u:Tok) (s:Shared) (Q:Value->Shared->Prop) (E:Value->Shared->Prop),C i j->Q (.int (g i j) s.toks) {s with toks:=s.toks+1}->wpAny (model X.prog X.w) X.A (f (.int i t) (.int j u)) Q E s):
 Dc X f (rI C λi j=> .int (g i j)):=by
 intro pins s σ H x y v u Q I rx ry h
 obtain ⟨i,j,rfl,rfl,hc,q⟩:=h
 obtain ⟨t,rfl⟩:=rx
 obtain ⟨t',rfl⟩:=ry
 exact rule i j t t' s _ _ hc ⟨.int (g i j),H,I.tok _,⟨_,rfl⟩,q⟩
theorem c5 {f:Value->Value->Sem Value} {g:Int->Int->Int}
 (rule:∀(i j:Int) (t u:Tok) (s:Shared) (Q:Value->Shared->Prop) (E:Value->Shared->Prop),Q (.int (g i j) s.toks) {s with toks:=s.toks+1}->wpAny (model X.prog X.w) X.A (f (.int i t) (.int j u)) Q E s):
 Dc X f (OX λi j=> .int (g i j)):=by
 intro pins s σ H x y v u Q I rx ry h
 obtain ⟨i,j,rfl,rfl,q⟩:=h
 obtain ⟨t,rfl⟩:=rx
 obtain ⟨t',rfl⟩:=ry
 exact rule i j t t' s _ _ ⟨.int (g i j),H,I.tok _,⟨_,rfl⟩,q⟩
theorem Xo {f:Value->Value->Sem Value} {g:Int->Int->Bool}
 (rule:∀(i j:Int) (t u:Tok) (s:Shared) (Q:Value->Shared->Prop) (E:Value->Shared->Prop),Q (.bool (g i j)) s->wpAny (model X.prog X.w) X.A (f (.int i t) (.int j u)) Q E s):
 Dc X f (OX λi j=> .bl (g i j)):=by
 intro pins s σ H x y v u Q I rx ry h
 obtain ⟨i,j,rfl,rfl,q⟩:=h
 obtain ⟨t,rfl⟩:=rx
 obtain ⟨t',rfl⟩:=ry
 exact rule i j t t' s _ _ ⟨.bl (g i j),H,I,rfl,q⟩
def Wn (i j:Int):Prop:=0<=j/\j<=1000000/\i.natAbs<2^64
def HD (i j:Int):Prop:=(-(2^64)<i/\i<2^64)\/(-(2^64)<j/\j<2^64)
theorem HD.ok {i j:Int} (h:HD i j):IntMulOk i j:=by
 rcases h with ⟨h1,h2⟩|⟨h1,h2⟩
 ·exact .of_left (intBits_le_64 h1 h2)
 ·exact .of_right (intBits_le_64 h1 h2)
theorem Io:Dc X (binaryOp .Add) (OX λi j=> .int (i+j)):=c5 λ_ _ _ _ _ _ _ q=>add_int q
theorem Z4:Dc X (binaryOp .Sub) (OX λi j=> .int (i-j)):=c5 λ_ _ _ _ _ _ _ q=>sub_int q
theorem FC:Dc X (binaryOp .Mod) (rI (λ_ j=>0<j) λi j=> .int (i % j)):=Zw λi j _ _ _ _ _ hc q=>by
 have h1:(0:Int)<j:=hc
 exact mod_int' (by omega) (by rw [Int.fmod_eq_emod_of_nonneg i (by omega)];exact q)
theorem Xq:Dc X (binaryOp .Mod) (rI (λ_ j=>j≠0) λi j=> .int (i.fmod j)):=Zw λ_ _ _ _ _ _ _ hc q=>mod_int' hc q
theorem Vs:Dc X (binaryOp .Pow) (rI Wn λi j=> .int (i^j.toNat)):=Zw λ_ _ _ _ _ _ _ hc q=>pow_int_small hc.1 hc.2.1 hc.2.2 q
theorem mm {f:Value->Sem Value} {g:Int->Int}
 (rule:∀(i:Int) (t:Tok) (s:Shared) (Q:Value->Shared->Prop) (E:Value->Shared->Prop),Q (.int (g i) s.toks) {s with toks:=s.toks+1}->wpAny (model X.prog X.w) X.A (f (.int i t)) Q E s):
 fw X f (rU λi=> .int (g i)):=by
 intro pins s σ H x v Q I rx h
 obtain ⟨i,rfl,q⟩:=h
 obtain ⟨t,rfl⟩:=rx
 exact rule i t s _ _ ⟨.int (g i),H,I.tok _,⟨_,rfl⟩,q⟩
theorem ap:fw X (unaryOp .USub) (rU λi=> .int (-i)):=mm λ_ _ _ _ _ q=>neg_int q
end
def YB:V->V->Bool
 | .non, .non=>true | .non, .int _=>true | .int _, .non=>true | .non, .bl _=>true | .bl _, .non=>true | .non, .str _=>true | .str _, .non=>true
 | .int _, .int _=>true | .bl _, .bl _=>true | .str _, .str _=>true | .byt _, .byt _=>true
 | .int _, .str _=>true | .str _, .int _=>true | .bl _, .str _=>true | .str _, .bl _=>true
 | _,_=>false
def je:R2:=λx y H Q=>YB x y=true/\Q (.bl (decide (x=y))) H
def jf:R2:=λx y H Q=>YB x y=true/\Q (.bl (!decide (x=y))) H
theorem Rv {i j:Int}:decide (V.int i=V.int j)=(i==j):=by
 rw [Bool.eq_iff_iff]
 simp
theorem Uw {i j:Bool}:decide (V.bl i=V.bl j)=(i==j):=by
 rw [Bool.eq_iff_iff]
 simp
theorem Rx {i j:Str}:decide (V.str i=V.str j)=(i==j):=by
 rw [Bool.eq_iff_iff]
 simp
theorem Ru {i j:Array UInt8}:decide (V.byt i=V.byt j)=(i.toList==j.toList):=by
 rw [Bool.eq_iff_iff]
 cases i
 cases j
 simp
section
variable {X:Cx} {a b c:Expr} {ta tb tc:TE} {pos:Pos}
theorem A9 {pins:List (Addr×Obj)} {σ:St} {H:Hp} {s:Shared} {Q:VK} {k k':Bool} (I:Inv X pins σ H s) (q:Q (.bl k) H) (e:k=k'):EP X pins σ Q (.bool k') s:=by
 subst e
 exact ⟨.bl k,H,I,rfl,q⟩
theorem c6:Dc X (compareOp .Eq) je:=by
 intro pins s σ H x y v u Q I rx ry h
 obtain ⟨hs,q⟩:=h
 cases x with
 | non=>
   cases rx
   cases y with
   | non=>cases ry;exact PySem.EqNone.eq_none_none (A9 I q (by simp))
   | bl j=>cases ry;exact PySem.EqNone.eq_none_bool (A9 I q (by simp))
   | int j=>obtain ⟨t',rfl⟩:=ry;exact PySem.EqNone.eq_none_int (A9 I q (by simp))
   | str j=>obtain ⟨t',rfl⟩:=ry;exact PySem.EqNone.eq_none_str (A9 I q (by simp))
   | _=>exact absurd (show false=true from hs) Bool.false_ne_true
 | bl i=>
   cases rx
   cases y with
   | non=>cases ry;exact PySem.EqNone.eq_bool_none (A9 I q (by simp))
   | bl j=>cases ry;exact eq_bool (A9 I q Uw)
   | str j=>obtain ⟨t',rfl⟩:=ry;exact PySem.EqMixed.eq_bool_str (A9 I q (by simp))
   | _=>exact absurd (show false=true from hs) Bool.false_ne_true
 | int i=>
   obtain ⟨t,rfl⟩:=rx
   cases y with
   | non=>cases ry;exact PySem.EqNone.eq_int_none (A9 I q (by simp))
   | int j=>obtain ⟨t',rfl⟩:=ry;exact eq_int (A9 I q Rv)
   | str j=>obtain ⟨t',rfl⟩:=ry;exact PySem.EqMixed.eq_int_str (A9 I q (by simp))
   | _=>exact absurd (show false=true from hs) Bool.false_ne_true
 | str i=>
   obtain ⟨t,rfl⟩:=rx
   cases y with
   | non=>cases ry;exact PySem.EqNone.eq_str_none (A9 I q (by simp))
   | bl j=>cases ry;exact PySem.EqMixed.eq_str_bool (A9 I q (by simp))
   | int j=>obtain ⟨t',rfl⟩:=ry;exact PySem.EqMixed.eq_str_int (A9 I q (by simp))
   | str j=>obtain ⟨t',rfl⟩:=ry;exact eq_str (A9 I q Rx)
   | _=>exact absurd (show false=true from hs) Bool.false_ne_true
 | byt i=>
   obtain ⟨t,rfl⟩:=rx
   cases y with
   | byt j=>obtain ⟨t',rfl⟩:=ry;exact PySem.W.eq_bytes (A9 I q Ru)
   | _=>exact absurd (show false=true from hs) Bool.false_ne_true
 | _=>cases y <;> exact absurd (show false=true from hs) Bool.false_ne_true
theorem c9:Dc X (compareOp .NotEq) jf:=by
 intro pins s σ H x y v u Q I rx ry h
 obtain ⟨hs,q⟩:=h
 cases x with
 | non=>
   cases rx
   cases y with
   | non=>cases ry;exact PySem.EqNone.ne_none_none (A9 I q (by simp))
   | bl j=>cases ry;exact PySem.EqNone.ne_none_bool (A9 I q (by simp))
   | int j=>obtain ⟨t',rfl⟩:=ry;exact PySem.EqNone.ne_none_int (A9 I q (by simp))
   | str j=>obtain ⟨t',rfl⟩:=ry;exact PySem.EqNone.ne_none_str (A9 I q (by simp))
   | _=>exact absurd (show false=true from hs) Bool.false_ne_true
 | bl i=>
   cases rx
   cases y with
   | non=>cases ry;exact PySem.EqNone.ne_bool_none (A9 I q (by simp))
   | bl j=>cases ry;exact ne_bool (A9 I q (congrArg not Uw))
   | str j=>obtain ⟨t',rfl⟩:=ry;exact PySem.EqMixed.ne_bool_str (A9 I q (by simp))
   | _=>exact absurd (show false=true from hs) Bool.false_ne_true
 | int i=>
   obtain ⟨t,rfl⟩:=rx
   cases y with
   | non=>cases ry;exact PySem.EqNone.ne_int_none (A9 I q (by simp))
   | int j=>obtain ⟨t',rfl⟩:=ry;exact ne_int (A9 I q (congrArg not Rv))
   | str j=>obtain ⟨t',rfl⟩:=ry;exact PySem.EqMixed.ne_int_str (A9 I q (by simp))
   | _=>exact absurd (show false=true from hs) Bool.false_ne_true
 | str i=>
   obtain ⟨t,rfl⟩:=rx
   cases y with
   | non=>cases ry;exact PySem.EqNone.ne_str_none (A9 I q (by simp))
   | bl j=>cases ry;exact PySem.EqMixed.ne_str_bool (A9 I q (by simp))
   | int j=>obtain ⟨t',rfl⟩:=ry;exact PySem.EqMixed.ne_str_int (A9 I q (by simp))
   | str j=>obtain ⟨t',rfl⟩:=ry;exact ne_str (A9 I q (congrArg not Rx))
   | _=>exact absurd (show false=true from hs) Bool.false_ne_true
 | byt i=>
   obtain ⟨t,rfl⟩:=rx
   cases y with
   | byt j=>obtain ⟨t',rfl⟩:=ry;exact PySem.W.ne_bytes (A9 I q (congrArg not Ru))
   | _=>exact absurd (show false=true from hs) Bool.false_ne_true
 | _=>cases y <;> exact absurd (show false=true from hs) Bool.false_ne_true
theorem Yf:Dc X (compareOp .Lt) (OX λi j=> .bl (decide (i<j))):=Xo λ_ _ _ _ _ _ _ q=>lt_int q
theorem c8:Dc X (compareOp .LtE) (OX λi j=> .bl (decide (i<=j))):=Xo λ_ _ _ _ _ _ _ q=>le_int q
theorem Ye:Dc X (compareOp .Gt) (OX λi j=> .bl (decide (j<i))):=Xo λ_ _ _ _ _ _ _ q=>gt_int q
theorem c7:Dc X (compareOp .GtE) (OX λi j=> .bl (decide (j<=i))):=Xo λ_ _ _ _ _ _ _ q=>ge_int q
theorem Z1:Dc X (compareOp .Is) (λx y H Q=>y= .non/\Q (.bl (decide (x= .non))) H):=by
 intro pins s σ H x y v u Q I rx ry h
 obtain ⟨rfl,q⟩:=h
 cases ry
 refine is_none_gen (A9 I q ?_)
 cases x <;> first
  | (cases rx;rfl)
  | (obtain ⟨t,rfl⟩:=rx;rfl)
theorem Dc.or {f:Value->Value->Sem Value} {r r':R2} (h:Dc X f r) (h':Dc X f r'):Dc X f (λx y H Q=>r x y H Q\/r' x y H Q):=by
 intro pins s σ H x y v u Q I rx ry q
 rcases q with q|q
 ·exact h pins s σ H x y v u Q I rx ry q
 ·exact h' pins s σ H x y v u Q I rx ry q
theorem DR (b:Expr) {op:CmpOp} (h:op≠ .In:=by decide) (h2:op≠ .NotIn:=by decide):behindInMarks op b=false:=by
 have e1:(op==CmpOp.In)=false:=by cases op <;> first | rfl|exact absurd rfl h
 have e2:(op==CmpOp.NotIn)=false:=by cases op <;> first | rfl|exact absurd rfl h2
 cases b <;> simp [behindInMarks,e1,e2]
theorem SL {op:CmpOp} {r:R2} (ho:Dc X (compareOp op) r) (ha:PE X a ta) (hb:PE X b tb) (hm:behindInMarks op b=false):PE X (.Compare a [op] [b] pos) (dt r ta tb):=by
 intro pins s σ H Q I h
 exact wpAny_Compare1 (Y8 ha hb I h λv u s2 x y H2 I2 rx ry q=>ho pins s2 σ H2 x y v u Q I2 rx ry q) hm
def Ym (t:TE):TT:=λσ H Q=>t σ H λx H'=>∃k,x= .bl k/\Q k H'
theorem N5 {op:CmpOp} {r:R2} (ho:Dc X (compareOp op) r) (ha:PE X a ta) (hb:PE X b tb) (hm:behindInMarks op b=false):PT X (.Compare a [op] [b] pos) (Ym (dt r ta tb)):=by
 intro pins s σ H Q I h
 refine wpAny_isTrue_Compare1 (Cd (ha pins s σ H _ I h) λv s1 ⟨x,H1,I1,r1,q1⟩=>Cd (hb pins s1 σ H1 _ I1 q1) λu s2 ⟨y,H2,I2,r2,q2⟩=>
  Cd (ho pins s2 σ H2 x y v u _ I2 r1 r2 q2) λc s3 ⟨z,H3,I3,r3,k,e,q3⟩=> ?_) hm
 subst e
 cases r3
 exact wpAny_truthy_bool ⟨H3,I3,q3⟩
def bZ (K:PySem.W.Frag) (x:V) (H:Hp) (k:Bool):Prop:=
 match x with
 | .non=>k=false
 | .bl b=>k=b
 | .int i=>k=(i != 0)
 | .str y=>y.length<=sizeLine/\k=((y.length:Int) != 0)
 | .byt y=>y.size<=sizeLine/\k=((y.size:Int) != 0)
 | .ref p=>(∃xs,Fc K H p xs/\k= !xs.isEmpty)\/(∃xs,JE K H p xs/\k= !xs.isEmpty)\/∃kvs,H p=some (.dK kvs)/\k= !kvs.isEmpty
 | _=>False
theorem Q4 {κ:Type} {kvs:List (κ×V)} {vs:List (κ×Value)} (r:KV kvs vs):(!vs.isEmpty)= !kvs.isEmpty:=by
 cases r <;> rfl
theorem LK {xs:List V} {its:List Value} (r:Aq xs its):(!its.toArray.isEmpty)= !xs.isEmpty:=by
 cases r <;> simp
theorem Ie:(sizeLine:Nat)<2^63:=by rw [sizeLine_eq];decide
theorem am:fu X (λx H Q=>∃k,bZ X.K x H k/\Q k H):=by
 intro pins s σ H x v Q I rx h
 obtain ⟨k,e,q⟩:=h
 have hl:=Ie
 have hs:sizeLine=16777216:=sizeLine_eq
 cases x with
 | non=>
   cases rx
   have e':k=false:=e
   subst e'
   exact truthy_none ⟨H,I,q⟩
 | bl b=>
   cases rx
   have e':k=b:=e
   subst e'
   exact wpAny_truthy_bool ⟨H,I,q⟩
 | int i=>
   obtain ⟨t,rfl⟩:=rx
   have e':k=(i != 0):=e
   subst e'
   exact PySem.P.truthy_int ⟨H,I,q⟩
 | str y=>
   obtain ⟨t,rfl⟩:=rx
   obtain ⟨hy,e'⟩:y.length<=sizeLine/\k=((y.length:Int) != 0):=e
   subst e'
   exact PySem.P.truthy_str (by omega) ⟨H,I.tok _,q⟩
 | byt y=>
   obtain ⟨t,rfl⟩:=rx
   obtain ⟨hy,e'⟩:y.size<=sizeLine/\k=((y.size:Int) != 0):=e
   subst e'
   exact PySem.W.truthy_bytes (by omega) ⟨H,I.tok _,q⟩
 | ref p=>
   cases rx
   have e':(∃xs,Fc X.K H p xs/\k= !xs.isEmpty)\/(∃xs,JE X.K H p xs/\k= !xs.isEmpty)\/∃kvs,H p=some (.dK kvs)/\k= !kvs.isEmpty:=e
   rcases e' with ⟨xs,hx,e'⟩|⟨xs,hx,e'⟩|⟨kvs,hx,e'⟩
   ·subst e'
    obtain ⟨its,r,pl,hz⟩:=I.list hx
    have B6:=r.length
    exact wpAny_truthy_list pl.isList (by simp only [List.size_toArray];omega) ⟨H,I.tok _,by rw [LK r];exact q⟩
   ·subst e'
    obtain ⟨its,r,pl,hz⟩:=I.tuple hx
    have B6:=r.length
    exact truthy_tuple pl (by simp only [List.size_toArray];omega) ⟨H,I.tok _,by rw [LK r];exact q⟩
   ·subst e'
    obtain ⟨hz,hS,vs,r,m⟩:kvs.length<=sizeLine/\(p==sysModules)=false/\∃vs,KV kvs vs/\s.heap.DictOf (CF X.prog X.w) p vs:=I.hok p _ hx
    have B6:kvs.length=vs.length:=Paired.length r
    exact wpAny_truthy_dict hS m (by omega) ⟨H,I.tok _,by rw [Q4 r];exact q⟩
 | _=>exact (show False from e).elim
theorem V3 (ha:PE X a ta) (he:∀whole,isTrue a X.env whole=(do let v <-whole;standAt a.pos;holding [v] (truthy v))):
 PT X a (λσ H Q=>ta σ H λx H'=>∃k,bZ X.K x H' k/\Q k H'):=by
 intro pins s σ H Q I h
 exact isTrue_plain (Cd (ha pins s σ H _ I h) λv s1 ⟨x,H1,I1,r1,q1⟩=>am pins s1 σ H1 x v Q I1 r1 q1) (he _)
theorem vals1 {x:V} {us:List Value} (r:Aq [x] us):∃u,us= [u] /\RelV x u:=by
 cases r with
 | cons r1 r2=>cases r2;exact ⟨_,rfl,r1⟩
theorem vals2 {x y:V} {us:List Value} (r:Aq [x,y] us):∃u w',us= [u,w'] /\RelV x u/\RelV y w':=by
 cases r with
 | cons r1 r2=>
   cases r2 with
   | cons r3 r4=>cases r4;exact ⟨_,_,rfl,r1,r3⟩
theorem K8:DM X (.builtin "abs") (λxs H Q=>∃i,xs= [.int i] /\Q (.int (if i<0 then -i else i)) H):=by
 intro pins s σ H xs us Q I r h
 obtain ⟨i,rfl,q⟩:=h
 obtain ⟨u,rfl,t,rfl⟩:=vals1 r
 exact call_abs_int λu tk=>⟨.int (if i<0 then -i else i),H,I.tok _,⟨_,rfl⟩,q⟩
theorem TR (hc:X.calm=true):DM X (.builtin "min") (λxs H Q=>∃i j,xs= [.int i, .int j] /\Q (.int (if j<i then j else i)) H):=by
 intro pins s σ H xs us Q I r h
 obtain ⟨i,j,rfl,q⟩:=h
 obtain ⟨u,w',rfl,⟨t,rfl⟩,⟨t',rfl⟩⟩:=vals2 r
 refine min_two_ints (I.ok.hd hc) λh' tk k=>⟨_,H,I.kept k, ?_,q⟩
 by_cases hj:j<i
 ·rw [if_pos hj,if_pos hj];exact ⟨_,rfl⟩
 ·rw [if_neg hj,if_neg hj];exact ⟨_,rfl⟩
theorem MU:DM X (.type "int") (λxs H Q=>(∃i,xs= [.int i] /\Q (.int i) H)\/∃k,xs= [.bl k] /\Q (.int (if k then 1 else 0)) H):=by
 intro pins s σ H xs us Q I r h
 rcases h with ⟨i,rfl,q⟩|⟨k,rfl,q⟩
 ·obtain ⟨u,rfl,t,rfl⟩:=vals1 r
  exact call_int_int ⟨.int i,H,I,⟨_,rfl⟩,q⟩
 ·obtain ⟨u,rfl,r1⟩:=vals1 r
  cases r1
  exact call_int_bool ⟨.int (if k then 1 else 0),H,I.tok _,⟨_,rfl⟩,q⟩
end
end L2
namespace L2
open PySem PySem.Spec PyProof.Rows
structure Yy (h:Heap) (x dx C:Addr) (mA:Str->Option Value):Prop where
 obj:h.get? x=some (PySem.W.instObj C dx)
 ns:h.Ns1 dx mA
 ne:dx≠x
theorem Tt {h:Heap} {dx:Addr} {mA:Str->Option Value} (n:h.Ns1 dx mA):∃od,h.get? dx=some od/\∀name,PySem.W.lookIn name od=some (mA name):=by
 obtain ⟨o,es,ep,ho,hd,hk,_,hm⟩:=n
 refine ⟨o,ho,λname=> ?_⟩
 have e:=hm name
 unfold nsFind findBy at e
 rw [<-Array.find?_toList] at e
 unfold PySem.W.lookIn
 rw [hd]
 dsimp only
 split
 ·rename_i y q
  rw [q] at e
  exact congrArg some e
 ·rename_i q
  rw [q] at e
  have a:es.toList.any (·.refKey)=false:=by
   rw [List.any_eq_false]
   intro y hy
   obtain ⟨z,t,gT⟩:=hk y (Array.mem_toList_iff.mp hy)
   simp [DictEntry.refKey,gT]
  have a':¬es.toList.any (·.refKey)=true:=by rw [a];exact Bool.false_ne_true
  rw [if_neg a']
  exact congrArg some e
theorem Yy.look {h:Heap} {x dx C:Addr} {mA:Str->Option Value} (I:Yy h x dx C mA):∃od,PySem.W.InstAt h x (PySem.W.instObj C dx) C (some od)/\∀name,PySem.W.lookIn name od=some (mA name):=
 let ⟨od,ho,hl⟩:=Tt I.ns
 ⟨od,⟨I.obj,rfl,rfl,ho⟩,hl⟩
section
variable {prog:Program} {w:World} {A:Around} {E:Value->Shared->Prop} {s:Shared} {K:PySem.W.Frag} {x dx C f:Addr} {mA:Str->Option Value} {name:Str} {v:Value}
theorem BY {expr:Bool} {Q:Value->Shared->Prop} (X:K.In s.heap) (I:Yy s.heap x dx C mA) (hg:PySem.W.plainGet K C name=true) (hh:PySem.W.hasDictIn K C=true)
 (ha:PySem.W.findIn K (.ref C) name=some none) (hv:mA name=some v) (XY:PySem.W.handedIn v=true) (h:Q v {s with toks:=s.toks+1}):
 wpAny (model prog w) A (getAttr (.ref x) name expr) Q E s:=by
 obtain ⟨od,J,hl⟩:=I.look
 exact PySem.W.get_value X J (PySem.W.plainGet_of hg).1 (PySem.W.findObj_own hh ha rfl (by rw [hl,hv])) XY h
end
theorem Ib.some_of {v:V} {o:Option Value} (r:Ib (some v) o):∃u,o=some u/\RelV v u:=by
 cases o with
 | none=>exact (show False from r).elim
 | some u=>exact ⟨u,rfl,r⟩
section
variable {P:Program} {w:World} {H H':Hp} {h h':Heap} {a C dx:Addr} {fs fs':List (Str×V)}
end
structure fT (K:PySem.W.Frag) (C:Addr):Prop where
 pg:PySem.W.plainGet K C Str.empty=true
 hd:PySem.W.hasDictIn K C=true
 po:PySem.W.plainOver K C=true
 sa:PySem.W.findIn K (.ref C) "__setattr__" =some (some (.builtin "object.__setattr__"))
theorem fT.get {K:PySem.W.Frag} {C:Addr} (c:fT K C) (f:Str):PySem.W.plainGet K C f=true:=c.pg
structure nM (K:PySem.W.Frag) (C:Addr) (f:Str) (v:V) (u:Value):Prop where
 at_:PySem.W.findIn K (.ref C) f=some (some u)
 rel:RelV v u
 get:PySem.W.specialIn K u "__get__" =some none
 cp:PySem.W.copiedNames.contains f=false
structure lG (K:PySem.W.Frag) (C:Addr) (m:Str) (f:Addr):Prop where
 at_:PySem.W.findIn K (.ref C) m=some (some (.ref f))
 fn:PySem.W.isFn K (.ref f)=true
 kp:PySem.W.keepIn K (.ref f)=true
section
variable {X:Cx} {pins:List (Addr×Obj)} {σ:St} {H:Hp} {s:Shared} {a C dx:Addr} {fs:List (Str×V)} {f:Str} {v:V} {A:Around} {E:Value->Shared->Prop}
theorem Inv.made (I:Inv X pins σ H s):Inv X pins σ (upd (upd H s.heap.objs.size (.own (s.heap.objs.size+1))) (s.heap.objs.size+1) (.ins C s.heap.objs.size []))
 {s with heap:=(s.heap.push PySem.W.emptyDict).push (PySem.W.instObj C s.heap.objs.size)}:=by
 have e1:(s.heap.push PySem.W.emptyDict).get? s.heap.objs.size=some PySem.W.emptyDict:=Heap.get?_push_size s.heap rfl
 have e2:((s.heap.push PySem.W.emptyDict).push (PySem.W.instObj C s.heap.objs.size)).get? (s.heap.objs.size+1)=some (PySem.W.instObj C s.heap.objs.size):=by
  have:=Heap.get?_push_size (s.heap.push PySem.W.emptyDict) (o:=PySem.W.instObj C s.heap.objs.size) rfl
  rwa [Heap.size_push] at this
 have e3:(s.heap.push PySem.W.emptyDict).Ns s.heap.objs.size (λ_=>none):=⟨PySem.W.emptyDict, #[],_,e1,rfl,(λe he=>absurd he (by simp)),λ_=>rfl⟩
 have I1:=I.laid (a:=s.heap.objs.size) (o:= .own (s.heap.objs.size+1)) (h':=s.heap.push PySem.W.emptyDict) (t':=s.toks) (λb u q=>Heap.get?_push_of_some _ q) (Nat.le_refl _) ⟨_,e1⟩
 refine I1.laid (a:=s.heap.objs.size+1) (o:= .ins C s.heap.objs.size []) (t':=s.toks) (λb u q=>Heap.get?_push_of_some _ q) (Nat.le_of_eq (Heap.size_push _ _)) ?_
 have ne:s.heap.objs.size≠s.heap.objs.size+1:=Nat.ne_of_lt (Nat.lt_succ_self _)
 refine ⟨by rw [Al ne,A1],Nat.zero_le _,ne,e2,λ_=>none,(Heap.Ns1.of_empty e3).at λo q=>Heap.get?_push_of_some _ q,λ_=>True.intro,λy hy=>absurd rfl hy⟩
end
section
variable {X:Cx} {o e value:Expr} {f:Str} {pos pos' tpos:Pos} {ta tv:TE}
end
section
variable {X:Cx} {pins:List (Addr×Obj)} {σ:St} {H:Hp} {s:Shared} {A:Around} {E:Value->Shared->Prop} {Q:Value->Shared->Prop} {c:Value} {b:Bool}
inductive K4 (K:PySem.W.Frag) (H:Hp):V->Value->Prop where
 | non:K4 K H .non (.type "NoneType")
 | bl (x:Bool):K4 K H (.bl x) (.type "bool")
 | int (i:Int):K4 K H (.int i) (.type "int")
 | str (x:Str):K4 K H (.str x) (.type "str")
 | flt (x:UInt64):K4 K H (.flt x) (.type "float")
 | lst {a:Addr} {xs:List V} (e:H a=some (.lst xs)):K4 K H (.ref a) (.type "list")
 | frz {a:Addr} {o:Obj} {xs:List V} (e:H a=some (.frz o (.lst xs))):K4 K H (.ref a) (.type "list")
 | tup {a:Addr} {xs:List V} (e:H a=some (.tup xs)):K4 K H (.ref a) (.type "tuple")
 | dK {a:Addr} {kvs:List (C5×V)} (e:H a=some (.dK kvs)):K4 K H (.ref a) (.type "dict")
 | dT {a:Addr} {kvs:List (List C5×V)} (e:H a=some (.dT kvs)):K4 K H (.ref a) (.type "dict")
 | ins {a C dx:Addr} {fs:List (Str×V)} (e:H a=some (.ins C dx fs)) (cl:fT K C) (ha:PySem.W.findIn K (.ref C) "__class__" =some (some (.builtin "object.__class__")))
    (hn:PySem.W.specialIn K (.builtin "object.__class__") "__get__" =some (some (.builtin "getset_descriptor.__get__"))) (ni:PySem.W.takesIn K (.builtin "object.__class__")=some true)
    (hm:PySem.W.mroIn K C (.type "object")=some true):K4 K H (.ref a) (.ref C)
end
end L2
namespace L2
open PySem PySem.Spec PyProof.Rows
structure Room (k:Nat) (A:Around):Prop where
 hd:A.handled=none
 dp:A.depth+3*k+5<recursionLimit
 un:A.units+16*k+200<cLine
 gd:A.guards=some []
theorem Room.mono {j k:Nat} {A:Around} (r:Room k A) (h:j<=k):Room j A:=⟨r.hd,by have:=r.dp;omega,by have:=r.un;omega,r.gd⟩
theorem Room.deeper {k:Nat} {A:Around} (r:Room (k+1) A) (env:Env):Room k (A.deeper env):=
 ⟨r.hd,by have:=r.dp;show A.depth+1+3*k+5<_;omega,by have:=r.un;show A.units+3+16*k+200<_;omega,r.gd⟩
theorem Room.in1 {k:Nat} {A:Around} (r:Room (k+1) A):Room k A.in1:=
 ⟨r.hd,by have:=r.dp;show A.depth+3*k+5<_;omega,by have:=r.un;show A.units+1+16*k+200<_;omega,r.gd⟩
theorem Q5 {A:Around} {C:Addr} {us:List Value} {kw:List (Str×Value)}:(A.under (.builtin "type.__call__" ⟨.ref C::us,kw⟩)).depth=A.depth+1:=by
 first | rfl|simp [Around.under,Code.weight,Code.isCreation,Code.isGuard,Code.isCaller,Code.frames,Code.isFrame,guardIds]
theorem Q6 {A:Around} {C:Addr} {us:List Value} {kw:List (Str×Value)}:(A.under (.builtin "type.__call__" ⟨.ref C::us,kw⟩)).units=A.units+1:=by
 first | rfl|simp [Around.under,Code.cUnits,Code.frames,Code.isFrame]
theorem Room.make {k:Nat} {A:Around} (r:Room (k+1) A) (C:Addr) (us:List Value) (kw:List (Str×Value)):Room k (A.under (.builtin "type.__call__" ⟨.ref C::us,kw⟩)):=
 ⟨r.hd,by have:=r.dp;rw [Q5];omega,by have:=r.un;rw [Q6];omega,by first | exact r.gd|simpa [Around.under,pushGuards,Code.guards,Code.isGuard,guardIds] using r.gd⟩
theorem Room.depth {k:Nat} {A:Around} (r:Room k A):A.depth<recursionLimit:=by have:=r.dp;omega
theorem Room.units {k:Nat} {A:Around} (r:Room k A):A.units+64<cLine:=by have:=r.un;omega
def iA:TA:=λ_ H Q=>Q [] H
def dj (ta:TE) (tr:TA):TA:=λσ H Q=>ta σ H λx H1=>tr σ H1 λxs H2=>Q (x::xs) H2
section
variable {X:Cx} {e:Expr} {es:List Expr} {te:TE} {t:TA} {pos:Pos}
theorem Ip:PA X [] iA:=λ_ _ _ _ H Q I h=>Calls.spliced_nil ⟨[],H,I, .nil,h⟩
theorem FD (ha:PE X e te) (hr:PA X es t) (hs:starEach (e::es) X.env=(false,eval e X.env)::starEach es X.env:=by rfl):PA X (e::es) (dj te t):=by
 intro pos pins s σ H Q I h
 rw [hs]
 show wpAny _ _ (spliced ((false,eval e X.env)::backTo pos (starEach es X.env))) _ _ s
 refine Calls.spliced_cons (Cd (ha pins s σ H _ I h) λu s1 ⟨x,H1,I1,r1,q1⟩=> ?_)
 exact Cd (hr pos pins s1 σ H1 _ I1 q1) λus s2 ⟨xs,H2,I2,r2,q2⟩=>⟨x::xs,H2,I2, .cons r1 r2,q2⟩
def iH (t:TA):TE:=λσ H Q=>t σ H λxs H1=>xs.length<=sizeLine/\∀p,H1 p=none->Q (.ref p) (upd H1 p (.tup xs))
def h9 (t:TA):TE:=λσ H Q=>t σ H λxs H1=>xs.length<=sizeLine/\∀p,H1 p=none->Q (.ref p) (upd H1 p (.lst xs))
theorem Z8 {x1} (h:PA X es t):PE X (.Tuple es x1 pos) (iH t):=by
 intro pins s σ H Q I hq
 refine wpAny_Tuple_spliced (Cd (h pos pins s σ H _ I hq) λus s1 ⟨xs,H1,I1,r,z,q⟩=>⟨by rw [<-r.length];exact z, ?_⟩)
 have hf:H1 s1.heap.objs.size=none:=I1.hok.fresh (Nat.le_refl _)
 refine ⟨.ref s1.heap.objs.size,upd H1 s1.heap.objs.size (.tup xs),I1.laid (t':=s1.toks) (λb u e=>Heap.get?_push_of_some _ e) (Nat.le_refl _) ?_,rfl,q _ hf⟩
 exact ⟨z,us,r,⟨_,Heap.get?_push_size _ rfl,rfl,_,rfl⟩⟩
theorem Vw (h:PA X es t):PE X (.List es pos) (h9 t):=by
 intro pins s σ H Q I hq
 refine wpAny_List_spliced (Cd (h pos pins s σ H _ I hq) λus s1 ⟨xs,H1,I1,r,z,q⟩=>⟨by rw [<-r.length];exact z, ?_⟩)
 have hf:H1 s1.heap.objs.size=none:=I1.hok.fresh (Nat.le_refl _)
 refine ⟨.ref s1.heap.objs.size,upd H1 s1.heap.objs.size (.lst xs),I1.laid (t':=s1.toks) (λb u e=>Heap.get?_push_of_some _ e) (Nat.le_refl _) ?_,rfl,q _ hf⟩
 exact ⟨z,us,0,r,Heap.get?_push_size _ rfl⟩
end
abbrev Sp:=List V->Hp->VK->XK->Prop
abbrev S8:=List Env->Hp->Shared->XK->Value->Shared->Prop
structure L4 (P:Program) (w:World) (K:PySem.W.Frag) (mg:Str->Option Value) (base:Heap) (A:Around) (outer:List Env) (s:Shared) (H:Hp):Prop where
 frames:A.frames=some outer
 mod:Mod K mg base
 bs:∀b o,base.get? b=some o->s.heap.get? b=some o/\H b=none
 bsz:base.objs.size<=s.heap.objs.size
 funs:s.heap.FunFrames base outer
 frf:∀b∈US outer,H b=none
 hok:IM P w H s.heap
 bare:AllBare s.gens
def CE (outer:List Env) (P:Program) (w:World) (H:Hp) (s:Shared) (Q:VK) (u:Value) (s':Shared):Prop:=
 ∃v H',s'.os=s.os/\AllBare s'.gens/\Un (US outer) [] H H' s.heap s'.heap/\IM P w H' s'.heap/\RelV v u/\Q v H'
def CR (CX:S8) (outer:List Env) (P:Program) (w:World) (H:Hp) (s:Shared) (Q:VK) (E:XK) (r:Result) (s':Shared):Prop:=
 match r with
 | .ok (.ret u)=>CE outer P w H s Q u s'
 | .ok _=>False
 | .error e=>CX outer H s E e s'
structure A4 (P:Program) (w:World) (K:PySem.W.Frag) (mg:Str->Option Value) (base:Heap) (CX:S8) (k:Nat) (f:Addr) (fd:FuncData) (ps:List Str) (sp:Sp):Prop where
 len:∀vs H Q E,sp vs H Q E->vs.length=ps.length
 run:∀(A:Around) (outer:List Env) (s:Shared) (H:Hp) (args:Args) (us:List Value) (vs:List V) (Q:VK) (E:XK),Room k A->L4 P w K mg base A outer s H->BindsTo s fd args (ps.zip us)->Aq vs us->sp vs H Q E->
  codeAny (model P w) A (.call (.ref f) args) (CR CX outer P w H s Q E) s
theorem A4.mono {P:Program} {w:World} {K:PySem.W.Frag} {mg:Str->Option Value} {base:Heap} {CX:S8} {j k:Nat} {f:Addr} {fd:FuncData} {ps:List Str} {sp:Sp} (F:A4 P w K mg base CX j f fd ps sp) (h:j<=k):
 A4 P w K mg base CX k f fd ps sp:=⟨F.len,λA outer s H args us vs Q E hr=>F.run A outer s H args us vs Q E (hr.mono h)⟩
theorem A4.imp {P:Program} {w:World} {K:PySem.W.Frag} {mg:Str->Option Value} {base:Heap} {CX:S8} {k:Nat} {f:Addr} {fd:FuncData} {ps:List Str} {sp sp':Sp} (F:A4 P w K mg base CX k f fd ps sp)
 (h:∀vs H Q E,sp' vs H Q E->sp vs H Q E):A4 P w K mg base CX k f fd ps sp':=
 ⟨λvs H Q E q=>F.len vs H Q E (h _ _ _ _ q),λA outer s H args us vs Q E hr he hb hv hs=>F.run A outer s H args us vs Q E hr he hb hv (h _ _ _ _ hs)⟩
theorem L4.make {P:Program} {w:World} {K:PySem.W.Frag} {mg:Str->Option Value} {base:Heap} {A:Around} {outer:List Env} {s:Shared} {H:Hp} (e:L4 P w K mg base A outer s H) (C:Addr) (us:List Value) (kw:List (Str×Value)):
 L4 P w K mg base (A.under (.builtin "type.__call__" ⟨.ref C::us,kw⟩)) outer s H:=⟨by first | exact e.frames|(simpa [Around.under,Code.envs,Code.isFrame,pushEnvs] using e.frames),e.mod,e.bs,e.bsz,e.funs,e.frf,e.hok,e.bare⟩
theorem L4.in1 {P:Program} {w:World} {K:PySem.W.Frag} {mg:Str->Option Value} {base:Heap} {A:Around} {outer:List Env} {s:Shared} {H:Hp} (e:L4 P w K mg base A outer s H):
 L4 P w K mg base A.in1 outer s H:=⟨e.frames,e.mod,e.bs,e.bsz,e.funs,e.frf,e.hok,e.bare⟩
section
variable {X:Cx} {pins:List (Addr×Obj)} {σ:St} {H:Hp} {s s':Shared}
theorem Inv.env0 (I:Inv X pins σ H s):L4 X.prog X.w X.K X.mg X.base X.A X.stack s H:=
 ⟨I.ok.frames,I.ok.mod,I.bs,Nat.le_trans I.ok.bsz I.sz,I.stack,I.stkFree,I.hok,I.bare⟩
theorem Inv.after {Q:VK} {u:Value} (I:Inv X pins σ H s) (h:CE X.stack X.prog X.w H s Q u s'):EP X pins σ Q u s':=by
 obtain ⟨v,H',os,bare,un,hok,r,q⟩:=h
 obtain ⟨hh,g,d,t,os'⟩:=s'
 obtain rfl:os'=s.os:=os
 exact ⟨v,H',I.call (h':=hh) (g':=g) (d':=d) (t':=t) (ch:= []) un hok bare (λb z=>absurd z (by simp)),r,q⟩
end
def Yk (sp:Sp) (dvs:List V) (E:XK) (t:TA):TE:=λσ H Q=>t σ H λvs H1=>sp (vs++dvs) H1 Q E
def Binds (K:PySem.W.Frag) (fd:FuncData) (ps:List Str) (ds:List Value):Prop:=
 ∀(s:Shared) (us:List Value),K.In s.heap->(us++ds).length=ps.length->BindsTo s fd ⟨us, []⟩ (ps.zip (us++ds))
theorem Binds.all {K:PySem.W.Frag} {fd:FuncData} {ps:List Str} (h:∀us:List Value,us.length=ps.length->bindArgs fd ⟨us, []⟩=pure (ps.zip us)):Binds K fd ps [] :=λs us _ hl=>by
 rw [List.append_nil] at hl ⊢
 exact .of_eq (h us hl)
def Passes (CX:S8) (X:Cx) (E:XK):Prop:=∀(pins:List (Addr×Obj)) (σ:St) (H:Hp) (s:Shared) (e:Value) (s':Shared),Inv X pins σ H s->CX X.stack H s E e s'->X.xe e s'
section
variable {X:Cx} {CX:S8} {k:Nat} {f C:Addr} {fd:FuncData} {ps:List Str} {sp:Sp} {dvs:List V} {ds:List Value} {E:XK} {x m:Str} {p pos apos:Pos} {e o:Expr} {es:List Expr} {ta:TE} {t:TA}
theorem aH {pins:List (Addr×Obj)} {σ:St} {H:Hp} {s:Shared} {Q:VK} {us:List Value} {vs:List V} (F:A4 X.prog X.w X.K X.mg X.base CX k f fd ps sp) (hr:Room k X.A) (hb:Binds X.K fd ps ds) (hd:Aq dvs ds) (hx:Passes CX X E)
 (I:Inv X pins σ H s) (r:Aq vs us) (h:sp (vs++dvs) H Q E):wpAny (model X.prog X.w) X.A (call (.ref f) us) (EP X pins σ Q) X.xe s:=by
 have r2:Aq (vs++dvs) (us++ds):=r.append hd
 have hl:(us++ds).length=ps.length:=by rw [<-r2.length];exact F.len _ _ _ _ h
 refine wpAny_call (codeAny_mono (F.run X.A X.stack s H ⟨us, []⟩ (us++ds) (vs++dvs) Q E hr I.env0 (hb s us I.kIn hl) r2 h) λr s' hq=> ?_)
 cases r with
 | error e=>exact hx pins σ H s e s' I hq
 | ok fl=>
   cases fl with
   | ret u=>exact I.after hq
   | next=>exact False.elim hq
   | brk=>exact False.elim hq
   | cont=>exact False.elim hq
theorem Xu (F:A4 X.prog X.w X.K X.mg X.base CX k f fd ps sp) (hr:Room k X.A) (hg:Gl X x) (hm:X.mg x=some (.ref f)) (hk:PySem.W.keepIn X.K (.ref f)=true) (hb:Binds X.K fd ps ds) (hd:Aq dvs ds) (hx:Passes CX X E)
 (ha:PA X (e::es) t) (hdb:(x==("__debug__" :Str))=false:=by decide) (he:starEach (e::es) X.env=(false,eval e X.env)::starEach es X.env:=by rfl) (hpl:(backTo pos (starEach es X.env)).any (·.1)=false:=by rfl):
 PE X (.Call (.Name x p) (e::es) [] pos) (Yk sp dvs E t):=by
 intro pins s σ H Q I h
 refine wpAny_Call_Name_kw (SD I hg hm ?_ hdb)
 refine PySem.W.callWith_K (h₀:=X.base) I.ok.mod.kin hk (Cd (ha pos pins s σ H _ I h) λus s1 ⟨vs,H1,I1,r,q⟩=>⟨I1.kIn, ?_⟩) he hpl
 exact aH F hr hb hd hx I1 r q
structure Mk (K:PySem.W.Frag) (C f:Addr):Prop where
 makes:PySem.W.makesIn K C=true
 init:PySem.W.findIn K (.ref C) "__init__" =some (some (.ref f))
 fn:PySem.W.isFn K (.ref f)=true
 kp:PySem.W.keepIn K (.ref C)=true
end
section
variable {X:Cx} {CX:S8} {k:Nat} {f C:Addr} {fd:FuncData} {ps ks:List Str} {sp:Sp} {E:XK} {x m:Str} {p pos apos kpos:Pos} {e o:Expr} {es:List Expr} {kws:List Keyword} {te ta:TE} {t tk:TA} {nm:Option Str}
structure fj (K:PySem.W.Frag) (fd:FuncData) (ps ks:List Str) (g:List Value->List Value->List Value) (gV:List V->List V->List V):Prop where
 to:∀(s:Shared) (us ws:List Value),K.In s.heap->(g us ws).length=ps.length->BindsTo s fd ⟨us,ks.zip ws⟩ (ps.zip (g us ws))
 rel:∀{vs:List V} {us:List Value} {zs:List V} {ws:List Value},Aq vs us->Aq zs ws->Aq (gV vs zs) (g us ws)
variable {g:List Value->List Value->List Value} {gV:List V->List V->List V}
end
structure Ad (N P:List Str) (sc:Scope):Prop where
 kind:sc.kind= .function
 co:sc.isCoroutine=false
 gen:sc.isGenerator=false
 nd:N.Nodup
 pre:N.take P.length=P
 par:∀x∈P,sc.names.lookup x=some .local\/sc.names.lookup x=some .cell
 nofree:∀y∈sc.names,y.2≠ .free
theorem MT {kindOf:Str->Option NameKind} {x:Str}:∀{binds:List (Str×Value)} {m:Str->Option Value},(∀v,(x,v) ∉ binds)->bindL kindOf binds m x=m x
 | [],_,_=>rfl
 | (n,v)::r,m,h=>by
   unfold bindL
   rw [MT λw hw=>h w (List.mem_cons_of_mem _ hw)]
   split
   ·have:x≠n:=by rintro rfl;exact h v List.mem_cons_self
    simp [this]
   ·rfl
theorem MR {kindOf:Str->Option NameKind} {x:Str}:∀{binds:List (Str×Value)} {m:Str->Option Value},(∀v,(x,v) ∉ binds)->bindC kindOf binds m x=m x
 | [],_,_=>rfl
 | (n,v)::r,m,h=>by
   unfold bindC
   rw [MR λw hw=>h w (List.mem_cons_of_mem _ hw)]
   split
   ·rfl
   ·have:x≠n:=by rintro rfl;exact h v List.mem_cons_self
    simp [this]
theorem MS {kindOf:Str->Option NameKind} {x:Str} {v:Value}:∀{P:List Str} {vs:List Value} {i:Nat} {m:Str->Option Value},P.Nodup->P[i]? =some x->vs[i]? =some v->kindOf x=some .local->
 bindL kindOf (P.zip vs) m x=some v
 | [],_,_,_,_,h,_,_=>by simp at h
 | _::_, [],_,_,_,_,h,_=>by simp at h
 | p::P,w::vs,0,m,nd,h1,h2,hk=>by
   simp at h1 h2;subst h1;subst h2
   show bindL kindOf ((p,w)::P.zip vs) m p=_
   unfold bindL
   rw [MT λv hv=>(List.nodup_cons.mp nd).1 (List.of_mem_zip hv).1,if_pos hk]
   simp
 | p::P,w::vs,i+1,m,nd,h1,h2,hk=>by
   show bindL kindOf ((p,w)::P.zip vs) m x=_
   unfold bindL
   exact MS (i:=i) (List.nodup_cons.mp nd).2 (by simpa using h1) (by simpa using h2) hk
theorem MQ {kindOf:Str->Option NameKind} {x:Str} {v:Value}:∀{P:List Str} {vs:List Value} {i:Nat} {m:Str->Option Value},P.Nodup->P[i]? =some x->vs[i]? =some v->kindOf x≠some .local->
 bindC kindOf (P.zip vs) m x=some v
 | [],_,_,_,_,h,_,_=>by simp at h
 | _::_, [],_,_,_,_,h,_=>by simp at h
 | p::P,w::vs,0,m,nd,h1,h2,hk=>by
   simp at h1 h2;subst h1;subst h2
   show bindC kindOf ((p,w)::P.zip vs) m p=_
   unfold bindC
   rw [MR λv hv=>(List.nodup_cons.mp nd).1 (List.of_mem_zip hv).1,if_neg hk]
   simp
 | p::P,w::vs,i+1,m,nd,h1,h2,hk=>by
   show bindC kindOf ((p,w)::P.zip vs) m x=_
   unfold bindC
   exact MQ (i:=i) (List.nodup_cons.mp nd).2 (by simpa using h1) (by simpa using h2) hk
def start (N:List Str) (vs:List V):St:=vs.map some++List.replicate (N.length-vs.length) none
def Qn (CX:S8) (P:Program) (w:World) (K:PySem.W.Frag) (mg:Str->Option Value) (base:Heap) (N:List Str) (qual:Str) (scope:Scope) (f:Addr) (cd:Value) (A:Around) (outer:List Env) (s:Shared) (H:Hp) (E:XK):Cx where
 prog:=P
 w:=w
 K:=K
 mg:=mg
 base:=base
 A:=A.deeper (envOfC qual scope s.heap.objs.size f cd)
 N:=N
 s₀:=s
 H₀:=H
 env:=envOfC qual scope s.heap.objs.size f cd
 outer:=outer
 stack:=envOfC qual scope s.heap.objs.size f cd::outer
 ex:= []
 calm:=true
 fn:=λ_=>true
 pn:= []
 xe:=λe s'=>wpAny (model P w) (A.deeper (envOfC qual scope s.heap.objs.size f cd)) (leaving (envOfC qual scope s.heap.objs.size f cd) e) (λ_ s''=>CX outer H s E e s'') (λe' s''=>CX outer H s E e' s'') s'
theorem PD {sc:Scope} {n:Nat} {x:Str} (h:sc.names.lookup x=some .cell):∃c,(cellsFrom n sc.names []).lookup x=some c:=by
 have q:=PySem.W.cellsFrom_some sc.names n [] (.inl h)
 exact Option.isSome_iff_exists.mp q
theorem Tn {CX:S8} {P:Program} {w:World} {K:PySem.W.Frag} {mg:Str->Option Value} {base:Heap} {N ps:List Str} {qual:Str} {scope:Scope} {f:Addr} {cd:Value} {A:Around} {outer:List Env} {s s1:Shared} {H:Hp} {E:XK} {us:List Value} {vs:List V}
 (S:Ad N ps scope) (hd:A.handled=none) (e0:L4 P w K mg base A outer s H) (hl:vs.length=ps.length) (r:Aq vs us)
 (x:InCallC s s.heap.objs.size (bindL (envOfC qual scope s.heap.objs.size f cd).kindOf (ps.zip us) λ_=>none) (cellsFrom (s.heap.objs.size+1) scope.names []) (bindC (envOfC qual scope s.heap.objs.size f cd).kindOf (ps.zip us) λ_=>none) s1):
 Inv (Qn CX P w K mg base N qual scope f cd A outer s H E) [] (start N vs) H s1:=by
 have hpl:ps.length<=N.length:=by have:=congrArg List.length S.pre;rw [List.length_take] at this;omega
 obtain ⟨h1,tk,rfl,hk⟩:=x.done
 have noA:∀b:Addr,b ∉ (Qn CX P w K mg base N qual scope f cd A outer s H E).ex:=λb z=>absurd (show b∈([] :List Addr) from z) (by simp)
 refine ⟨⟨e0.mod,S.kind,rfl,rfl,Nat.le_refl _,λy z c h1 h2=> ?_,λy hy=> ?_,λy c _ h=> ?_,λ_=>hd,Around.frames_deeper e0.frames, .inr ⟨rfl,rfl⟩,λb z=>absurd z (noA b),e0.bs,e0.bsz,λb _ _=>noA b,λb z=>absurd z (noA b),e0.funs,e0.frf⟩,
  rfl,e0.bare,Un.kept hk,⟨_,x.toInCall.ns,λi y v h1 h2 h3=> ?_⟩,λy c h=>⟨_,x.cell y c h⟩,e0.hok.fresh (Nat.le_refl _),λy c h=> ?_,λp hp=>absurd (show p∈([] :List (Addr×Obj)) from hp) (by simp),e0.hok.kept hk, ?_⟩
 ·exact name_of_addr x.apart (PySem.mem_of_lookup h1) (PySem.mem_of_lookup h2)
 ·have hy:scope.names.lookup y=some .cell\/scope.names.lookup y=some .free:=hy
  rcases hy with hy|hy
  ·exact PD hy
  ·exact absurd rfl (S.nofree _ (PySem.mem_of_lookup hy))
 ·exact Nat.le_of_lt (x.above y c (PySem.mem_of_lookup h))
 ·have hi:i<vs.length:=by
   unfold start at h2
   by_cases hi:i<vs.length
   ·exact hi
   ·rw [List.getElem?_append_right (by simpa using hi)] at h2
    rw [List.getElem?_replicate] at h2
    split at h2 <;> cases h2
  have ha:vs[i]? =some v:=by
   unfold start at h2
   rw [List.getElem?_append_left (by simpa using hi),List.getElem?_map] at h2
   cases e:vs[i]? with
   | none=>rw [e] at h2;cases h2
   | some a=>rw [e] at h2;cases h2;rfl
  obtain ⟨u,hu,rv⟩:=r.get ha
  have hp:ps[i]? =some y:=by
   rw [<-S.pre,List.getElem?_take_of_lt (by omega)];exact h1
  have ndP:ps.Nodup:=by rw [<-S.pre];exact S.nd.sublist (List.take_sublist _ _)
  refine ⟨u,rv, ?_⟩
  rcases S.par y (List.mem_of_getElem? hp) with k|k
  ·exact .inl ⟨k,MS ndP hp hu k⟩
  ·obtain ⟨c,e⟩:=PD (n:=s.heap.objs.size+1) k
   refine .inr ⟨.inl k,c,e, ?_⟩
   have q:=x.cell y c e
   rw [MQ ndP hp hu (by show scope.names.lookup y≠_;rw [k];decide)] at q
   exact q
 ·exact e0.hok.fresh (Nat.le_of_lt (x.above y c (PySem.mem_of_lookup h)))
 ·unfold start
  show _=N.length
  rw [List.length_append,List.length_map,List.length_replicate]
  omega
theorem cE {CX:S8} {P:Program} {w:World} {K:PySem.W.Frag} {mg:Str->Option Value} {base:Heap} {k:Nat} {f:Addr} {name qual:Str} {params:Arguments} {body:List Stmt} {scope:Scope} {dV kV doc pm cdv ct oc:Value} {an od:Option Addr}
 {osl:Array (Option Value)} {N ps:List Str} {sp:Sp} (lk:K.lookup f=some ⟨oc,od, .func (PySem.W.fnOf name qual params body scope dV kV doc pm an cdv ct),osl⟩) (Ma:PySem.W.codeIn K cdv qual=true) (S:Ad N ps scope)
 (len:∀vs H Q E,sp vs H Q E->vs.length=ps.length)
 (Pa:∀(A:Around) (outer:List Env) (s:Shared) (H:Hp) (vs:List V) (Q:VK) (E:XK),Room k (A.deeper (envOfC qual scope s.heap.objs.size f cdv))->sp vs H Q E->
   ∃t,Rn (Qn CX P w K mg base N qual scope f cdv A outer s H E) body t/\t {nx:=λ_ H'=>Q .non H',rt:=Q} (start N vs) H):
 A4 P w K mg base CX (k+1) f (PySem.W.fnOf name qual params body scope dV kV doc pm an cdv ct) ps sp:=by
 refine ⟨len,λA outer s H args us vs Q E hr e0 hb r YZ=> ?_⟩
 have hl:=len _ _ _ _ YZ
 have KX:K.In s.heap:=e0.mod.kin.keeps λb o e=>(e0.bs b o e).1
 have lim:s.heap.NoLimit:=e0.mod.nolimit.keeps λb o e=>(e0.bs b o e).1
 have cK:∀y∈ps.zip us,scope.names.lookup y.1=some .local\/(scope.names.lookup y.1=some .cell/\((cellsFrom (s.heap.objs.size+1) scope.names []).lookup y.1).isSome=true):=λ⟨n,v⟩ hy=>by
  rcases S.par n (List.of_mem_zip hy).1 with q|q
  ·exact .inl q
  ·exact .inr ⟨q,PySem.W.cellsFrom_some _ _ _ (.inl q)⟩
 refine codeAny_call_function hr.depth (KX _ _ lk) rfl S.co S.gen rfl (PySem.W.codeRec_of KX Ma) (hb _ _ _ _ ?_)
 refine wpAny_newFunctionEnv_cells S.kind cK λenv he s1 x=> ?_
 subst he
 refine ⟨lim.keeps x.toInCall.keep,codeAny_func ?_⟩
 obtain ⟨t,ht,hq⟩:=Pa A outer s H vs Q E (hr.deeper _) YZ
 have I:Inv (Qn CX P w K mg base N qual scope f cdv A outer s H E) [] (start N vs) H s1:=Tn S hr.hd e0 hl r x
 refine wpAny_mono (ht [] s1 (start N vs) H _ I hq) (λfl s' hs=> ?_) λe s' hs=>hs
 have fin:∀{σ':St} {H':Hp} {v:V} {u:Value},Inv (Qn CX P w K mg base N qual scope f cdv A outer s H E) [] σ' H' s'->RelV v u->Q v H'->CE outer P w H s Q u s':=
  λ{σ' H' v u} J rv q=>⟨v,H',J.os,J.bare,J.base,J.hok,rv,q⟩
 cases fl with
 | ret u=>
   obtain ⟨v,σ',H',J,rv,q⟩:=hs
   exact fin J rv q
 | next=>
   obtain ⟨σ',H',J,q⟩:=hs
   exact fin (v:=V.non) (u:=Value.none) J rfl q
 | brk=>
   obtain ⟨_,_,_,q⟩:=hs
   exact False.elim q
 | cont=>
   obtain ⟨_,_,_,q⟩:=hs
   exact False.elim q
end L2
namespace L2
open PySem PySem.Spec PyProof.Rows
section
variable {X:Cx} {x:Str} {p pos:Pos} {e:Expr} {es:List Expr} {t:TA} {id T:String} {r:List V->Hp->VK->Prop}
def hV (r:List V->Hp->VK->Prop) (t:TA):TE:=λσ H Q=>t σ H λvs H1=>r vs H1 Q
theorem Hd (hc:DM X (.builtin id) r) (hg:Gl X x) (hm:X.mg x=none) (hv:bootBuiltins x=some (.builtin id)) (ha:PA X (e::es) t) (hn:x≠"__name__" :=by decide) (hdb:(x==("__debug__" :Str))=false:=by decide)
 (he:starEach (e::es) X.env=(false,eval e X.env)::starEach es X.env:=by rfl) (hpl:(backTo pos (starEach es X.env)).any (·.1)=false:=by rfl):PE X (.Call (.Name x p) (e::es) [] pos) (hV r t):=by
 intro pins s σ H Q I h
 refine wpAny_Call_Name_kw (LM I hg hm hv ?_ hn hdb)
 exact PyProof.Rows.callWith_builtin1 (Cd (ha pos pins s σ H _ I h) λus s1 ⟨vs,H1,I1,r1,q1⟩=>hc pins s1 σ H1 vs us Q I1 r1 q1) he hpl
theorem Mi (hc:DM X (.type T) r) (hg:Gl X x) (hm:X.mg x=none) (hv:bootBuiltins x=some (.type T)) (ha:PA X (e::es) t) (hn:x≠"__name__" :=by decide) (hdb:(x==("__debug__" :Str))=false:=by decide)
 (he:starEach (e::es) X.env=(false,eval e X.env)::starEach es X.env:=by rfl) (hpl:(backTo pos (starEach es X.env)).any (·.1)=false:=by rfl):PE X (.Call (.Name x p) (e::es) [] pos) (hV r t):=by
 intro pins s σ H Q I h
 refine wpAny_Call_Name_kw (LM I hg hm hv ?_ hn hdb)
 exact PyProof.Rows.callWith_type1 (Cd (ha pos pins s σ H _ I h) λus s1 ⟨vs,H1,I1,r1,q1⟩=>hc pins s1 σ H1 vs us Q I1 r1 q1) he hpl
end
end L2
namespace HT
open PySem PyProof.Rows
section
open PySem.SeqAt
open PySem.AutoSeq1 (wpAny_loadPart')
open PySem.MeetsSeq PySem.MeetsSeq2 PySem.MeetsSeq3
end
section
variable {prog:Program} {w:World} {A:Around} {E:Value->Shared->Prop} {s:Shared}
theorem cat_tup {t b:Addr} {vs ws:List Value} {Q:Value->Shared->Prop} (ht:IsTup s.heap t vs.toArray) (hb:IsTup s.heap b ws.toArray) (hv:vs≠ [])
 (h1:ws= [] ->Q (.ref t) s) (h2:ws≠ [] ->Q (.ref s.heap.objs.size) {s with heap:=s.heap.push {cls:= .type "tuple",data:= .seq (vs++ws).toArray}})
 (jV:vs.length+ws.length<=sizeLine):wpAny (model prog w) A (binaryOp .Add (.ref t) (.ref b)) Q E s:=by
 obtain ⟨⟨cls,dd,data,sl⟩,ho,hc,n,hd⟩:=id ht
 obtain ⟨⟨cls2,dd2,data2,sl2⟩,ZW,VJ,n2,ZT⟩:=id hb
 simp only at hc hd VJ ZT
 subst hc hd VJ ZT
 have e:vs.toArray++ws.toArray=(vs++ws).toArray:=by simp
 by_cases hw:ws= []
 ·exact concat_meets ⟨_,ho,rfl⟩ ⟨_,ZW,rfl⟩ noFill_tuple_add seq_tuple_add PySem.F.slot_tuple_add PySem.F.entry_tuple_add (PySem.F.args_tuple_add_2 _ _)
   (tuple_addW1 t b vs.toArray ws.toArray n n2 dd dd2 sl sl2 (by simpa using hv) (by simp [hw])) ⟨ho,ZW,h1 hw⟩
 ·refine concat_meets ⟨_,ho,rfl⟩ ⟨_,ZW,rfl⟩ noFill_tuple_add seq_tuple_add PySem.F.slot_tuple_add PySem.F.entry_tuple_add (PySem.F.args_tuple_add_2 _ _)
   (tuple_addW2 t b vs.toArray ws.toArray n n2 dd dd2 sl sl2 (by simpa using hv) (by simpa using hw) (by rw [List.size_toArray,List.size_toArray];exact jV)) ⟨ho,ZW, ?_⟩
  rw [e]
  exact h2 hw
def sIx (n d:Nat):Option Int->Nat
 | none=>d
 | some v=>if v<0 then (v+(n:Int)).toNat else min v.toNat n
theorem sIx_none (n d:Nat):sIx n d none=d:=rfl
theorem sIx_nat (n d k:Nat):sIx n d (some (k:Int))=min k n:=by
 show (if (k:Int)<0 then ((k:Int)+(n:Int)).toNat else min (k:Int).toNat n)=min k n
 rw [if_neg (by omega),Int.toNat_natCast]
theorem aI (n d:Nat) (hd:d<=n) (o:Option Int):sIx n d o<=n:=by
 cases o with
 | none=>exact hd
 | some v=>
   show (if v<0 then (v+(n:Int)).toNat else min v.toNat n)<=n
   by_cases hv:v<0
   ·rw [if_pos hv];omega
   ·rw [if_neg hv];exact Nat.min_le_right _ _
theorem Rr (v:Int) (n d:Nat):(if v<0 then max (v+(n:Int)) 0 else min v (n:Int))=((sIx n d (some v):Nat):Int):=by
 show (if v<0 then max (v+(n:Int)) 0 else min v (n:Int))=(((if v<0 then (v+(n:Int)).toNat else min v.toNat n):Nat):Int)
 by_cases hv:v<0
 ·simp only [if_pos hv];omega
 ·simp only [if_neg hv];omega
theorem Qe (lo hi:Option Int) (n:Nat):Builtin.Slice.sliceAdjust lo hi 1 (n:Int)=(((sIx n 0 lo:Nat):Int),((sIx n n hi:Nat):Int)):=by
 have h1:¬((1:Int)<0):=by omega
 unfold Builtin.Slice.sliceAdjust
 simp only [h1,if_false]
 refine Prod.ext ?_ ?_
 ·cases lo with
  | none=>rfl
  | some v=>exact Rr v n 0
 ·cases hi with
  | none=>rfl
  | some v=>exact Rr v n n
theorem RK (i j:Nat):Builtin.Slice.slicePlaces (i:Int) (j:Int) 1=j-i:=by
 unfold Builtin.Slice.slicePlaces
 have h1:(1:Int)>0:=by omega
 simp only [h1,if_true,Int.ediv_one]
 split <;> omega
theorem Lm {v:Value} {o:Option Int} {Q:Option Int->Shared->Prop} (p:IsPart v o) (h:Q o s):wpAny (model prog w) A (Builtin.Slice.slicePartIndex v) Q E s:=by
 cases p with
 | none=>exact slicePart_none h
 | int i t=>exact slicePart_int h
theorem sliceApplied_gen {sl:Addr} {vl vu:Value} {lo hi:Option Int} {n:Nat} {Q:Int×Int×Nat->Shared->Prop} (hs:s.heap.IsSliceOf sl vl vu .none) (pl:IsPart vl lo) (pu:IsPart vu hi)
 (h:Q (((sIx n 0 lo:Nat):Int),1,sIx n n hi-sIx n 0 lo) s):wpAny (model prog w) A (Builtin.Slice.sliceApplied (.ref sl) (pure (n:Int))) Q E s:=by
 obtain ⟨os,ZY,eo,cI⟩:=id hs
 unfold Builtin.Slice.sliceApplied Builtin.Slice.sliceFields
 refine wpAny_bind (wpAny_bind (wpAny_field ZY cI (x:=vl) rfl (wpAny_bind (wpAny_field ZY cI (x:=vu) rfl (wpAny_bind (wpAny_field ZY cI (x:= .none) rfl (wpAny_pure ?_)))))))
 refine wpAny_bind (slicePart_none ?_)
 show wpAny _ _ (if ((1:Int)==0)=true then _ else _) _ _ s
 rw [if_neg (by decide)]
 refine wpAny_bind (Lm pl (wpAny_bind (Lm pu (wpAny_bind (wpAny_pure ?_)))))
 show wpAny _ _ (match Builtin.Slice.sliceAdjust lo hi 1 (n:Int) with | (lo,hi)=>pure (lo,(1:Int),Builtin.Slice.slicePlaces lo hi 1)) _ _ s
 rw [Qe lo hi n]
 show wpAny _ _ (pure (((sIx n 0 lo:Nat):Int),(1:Int),Builtin.Slice.slicePlaces ((sIx n 0 lo:Nat):Int) ((sIx n n hi:Nat):Int) 1)) _ _ s
 rw [RK]
 exact wpAny_pure h
theorem V0 (xs:Array Value) (i k:Nat):((List.range k).filterMap λ(m:Nat)=>xs[((i:Int)+(m:Int)*1).toNat]?).toArray=((xs.toList.drop i).take k).toArray:=by
 have e:(λ(m:Nat)=>xs[((i:Int)+(m:Int)*1).toNat]?)=λm=>xs[i+m]? :=by
  funext m
  have:((i:Int)+(m:Int)*1).toNat=i+m:=by omega
  rw [this]
 rw [e]
 have:=pick_run xs i k
 rw [List.filterMap_map] at this
 have e2:((λx=>xs[x]?) ∘ λx=>i+x)=λm=>xs[i+m]? :=rfl
 rw [e2] at this
 rw [this]
theorem getItem_tuple_cut {t sl:Addr} {items:Array Value} {vl vu:Value} {lo hi:Option Int} {Q:Value->Shared->Prop} (ht:IsTup s.heap t items) (hs:s.heap.IsSliceOf sl vl vu .none) (pl:IsPart vl lo) (pu:IsPart vu hi)
 (hw:¬(sIx items.size 0 lo=0/\sIx items.size items.size hi=items.size))
 (h:Q (.ref s.heap.objs.size) {s with heap:=s.heap.push {cls:= .type "tuple",data:= .seq ((items.toList.drop (sIx items.size 0 lo)).take (sIx items.size items.size hi-sIx items.size 0 lo)).toArray}})
 (jV:items.size<=sizeLine):wpAny (model prog w) A (getItem (.ref t) (.ref sl)) Q E s:=by
 have R9:sizeOk (.seq ((items.toList.drop (sIx items.size 0 lo)).take (sIx items.size items.size hi-sIx items.size 0 lo)).toArray):=by
  show ((items.toList.drop (sIx items.size 0 lo)).take (sIx items.size items.size hi-sIx items.size 0 lo)).toArray.size<=sizeLine
  rw [List.size_toArray,List.length_take,List.length_drop,Array.length_toList]
  omega
 have hj:sIx items.size items.size hi<=items.size:=aI _ _ (Nat.le_refl _) hi
 obtain ⟨os,ZY,eo,cI⟩:=id hs
 have gJ:s.TypeIs (.ref sl) "slice" :=⟨os,ZY,eo⟩
 unfold getItem
 try with_reducible refine wpAny_holding ?_
 first | refine wpAny_bind (wpAny_pure ?_)|skip
 refine wpAny_bind (wpAny_sequenceKey ht.typeIs (by decide) ?_)
 refine wpAny_bind (wpAny_callSpecial?_slot (name:=Str.ofString "__getitem__") ht.typeIs PyProof.Rows.slot_tuple_getitem
  (wpAny_call_entry PyProof.Rows.slot_tuple_getitem ht.typeIs entry_tuple_getitem ?_ (args_tuple_getitem _ _)))
 show wpAny _ _ (Builtin.Tuple.tupleItemsOf (.ref t) >>= _) _ _ s
 refine wpAny_bind (tupleItemsOf_ ht ?_)
 refine wpAny_bind (wpAny_typeOf gJ ?_)
 rw [if_pos (by decide)]
 refine wpAny_bind (sliceApplied_gen hs pl pu ?_)
 have XV:¬((((sIx items.size 0 lo:Nat):Int)==0&&(1:Int)==1&&(sIx items.size items.size hi-sIx items.size 0 lo)==items.size)=true):=by
  intro q
  rw [Bool.and_eq_true,Bool.and_eq_true] at q
  have q1:((sIx items.size 0 lo:Nat):Int)=0:=eq_of_beq q.1.1
  have q2:sIx items.size items.size hi-sIx items.size 0 lo=items.size:=eq_of_beq q.2
  exact hw ⟨by omega,by omega⟩
 show wpAny _ _ (if (((sIx items.size 0 lo:Nat):Int)==0&&(1:Int)==1&&(sIx items.size items.size hi-sIx items.size 0 lo)==items.size)=true then _ else _) _ _ s
 rw [if_neg XV,V0]
 first
  | exact wpAny_bind (m:=Builtin.Tuple.tupleExact _) (wpAny_newObj_type (wpAny_pure ⟨_,rfl,wpAny_pure h⟩) R9)
  | exact wpAny_bind (m:=Builtin.Tuple.tupleExact _) (wpAny_newObj_type (wpAny_bind (wpAny_pure (wpAny_pure ⟨_,rfl,wpAny_pure h⟩))) R9)
  | exact wpAny_bind (wpAny_bind (m:=Builtin.Tuple.tupleExact _) (wpAny_newObj_type (wpAny_pure (wpAny_pure ⟨_,rfl,wpAny_pure h⟩)) R9))
  | exact wpAny_bind (wpAny_bind (m:=Builtin.Tuple.tupleExact _) (wpAny_newObj_type (wpAny_pure ⟨_,rfl,wpAny_pure h⟩) R9))
end
end HT
namespace L2
open PySem PySem.Spec PyProof.Rows
abbrev TO:=St->Hp->(Option Int->Hp->Prop)->Prop
def PO (X:Cx) (e:Option Expr) (t:TO):Prop:=
 ∀(pins:List (Addr×Obj)) (s:Shared) (σ:St) (H:Hp) (Q:Option Int->Hp->Prop),Inv X pins σ H s->t σ H Q->
  wpAny (model X.prog X.w) X.A (evalPart e X.env) (λu s'=>∃o H',Inv X pins σ H' s'/\IsPart u o/\Q o H') X.xe s
def YN:TO:=λ_ H Q=>Q none H
def du (t:TE):TO:=λσ H Q=>t σ H λx H1=>∃i,x= .int i/\Q (some i) H1
section
variable {X:Cx} {e:Expr} {te:TE} {lo hi:Option Expr} {tl th:TO} {pos p2:Pos}
theorem X2:PO X none YN:=by
 intro pins s σ H Q I h
 rw [evalPart_none]
 exact wpAny_pure ⟨none,H,I, .none,h⟩
theorem X3 (h:PE X e te):PO X (some e) (du te):=by
 intro pins s σ H Q I hw
 rw [evalPart_some]
 refine Cd (h pins s σ H _ I hw) λu s1 ⟨x,H1,I1,r1,q1⟩=> ?_
 obtain ⟨i,rfl,q⟩:=q1
 obtain ⟨t,rfl⟩:=r1
 exact ⟨some i,H1,I1, .int i t,q⟩
def YU (X:Cx) (r:V->Option Int->Option Int->Hp->VK->Prop):Prop:=
 ∀(pins:List (Addr×Obj)) (s:Shared) (σ:St) (H:Hp) (x:V) (v vl vu:Value) (lo hi:Option Int) (sl:Addr) (Q:VK),Inv X pins σ H s->RelV x v->s.heap.IsSliceOf sl vl vu .none->IsPart vl lo->IsPart vu hi->r x lo hi H Q->
  ∃T id,typeLookup (.type T) "__getitem__" =pure (some (.builtin id))/\s.TypeIs v T/\wpAny (model X.prog X.w) X.A (getItem v (.ref sl)) (EP X pins σ Q) X.xe s
theorem YU.or {r r':V->Option Int->Option Int->Hp->VK->Prop} (h:YU X r) (h':YU X r'):YU X (λx lo hi H Q=>r x lo hi H Q\/r' x lo hi H Q):=by
 intro pins s σ H x v vl vu lo hi sl Q I rx hs pl pu q
 rcases q with q|q
 ·exact h pins s σ H x v vl vu lo hi sl Q I rx hs pl pu q
 ·exact h' pins s σ H x v vl vu lo hi sl Q I rx hs pl pu q
def mh (r:V->Option Int->Option Int->Hp->VK->Prop) (te:TE) (tl th:TO):TE:=λσ H Q=>te σ H λx H1=>tl σ H1 λl H2=>th σ H2 λu H3=>r x l u H3 Q
theorem Vx {r:V->Option Int->Option Int->Hp->VK->Prop} (hr:YU X r) (he:PE X e te) (hl:PO X lo tl) (hu:PO X hi th):PE X (.Subscript e (.Slice lo hi none p2) pos) (mh r te tl th):=by
 intro pins s σ H Q I h
 refine Subscript_ (Cd (he pins s σ H _ I h) λv s1 ⟨x,H1,I1,r1,q1⟩=> ?_)
 refine wpAny_Slice (Cd (hl pins s1 σ H1 _ I1 q1) λvl s2 ⟨l,H2,I2,pl,q2⟩=>Cd (hu pins s2 σ H2 _ I2 q2) λvu s3 ⟨u,H3,I3,pu,q3⟩=> ?_)
 rw [evalPart_none]
 refine wpAny_pure ?_
 have I4:Inv X pins σ H3 {s3 with heap:=s3.heap.push {cls:= .type "slice",data:= .fields #[vl,vu, .none] }}:=I3.kept (t':=s3.toks) λb ob q=>Heap.get?_push_of_some _ q
 obtain ⟨T,id,hT,ht,hg⟩:=hr pins {s3 with heap:=s3.heap.push {cls:= .type "slice",data:= .fields #[vl,vu, .none] }} σ H3 x v vl vu l u s3.heap.objs.size Q I4 r1 (Heap.IsSliceOf.new ..) pl pu q3
 show wpAny (model X.prog X.w) X.A (subscriptTail e (.Slice lo hi none p2) v (.ref s3.heap.objs.size)) (EP X pins σ Q) X.xe {s3 with heap:=s3.heap.push {cls:= .type "slice",data:= .fields #[vl,vu, .none] }}
 exact tail_any (ops:= [.ref s3.heap.objs.size,v]) ht hT hg (by with_unfolding_all rfl)
def L8 (xs:List V) (lo hi:Option Int):List V:=(xs.drop (HT.sIx xs.length 0 lo)).take (HT.sIx xs.length xs.length hi-HT.sIx xs.length 0 lo)
theorem JF (xs:List V) (lo hi:Option Int):(L8 xs lo hi).length<=xs.length:=by
 unfold L8
 rw [List.length_take,List.length_drop]
 omega
def gy (K:PySem.W.Frag):V->Option Int->Option Int->Hp->VK->Prop:=λx lo hi H Q=>∃a xs,x= .ref a/\JE K H a xs/\
 ¬(HT.sIx xs.length 0 lo=0/\HT.sIx xs.length xs.length hi=xs.length)/\∀p,H p=none->Q (.ref p) (upd H p (.tup (L8 xs lo hi)))
theorem aW:YU X (gy X.K):=by
 intro pins s σ H x v vl vu lo hi sl Q I rx hs pl pu h
 obtain ⟨a,xs,rfl,hx,hw,q⟩:=h
 cases rx
 obtain ⟨its,r,ht,hz⟩:=I.tuple hx
 have B6:its.toArray.size=xs.length:=by rw [List.size_toArray];exact r.length.symm
 refine ⟨"tuple",_,PyProof.Rows.slot_tuple_getitem.lookup,ht.typeIs, ?_⟩
 refine HT.getItem_tuple_cut ht hs pl pu (by rw [B6];exact hw) ?_ (by rw [B6];exact hz)
 rw [B6]
 refine ⟨.ref s.heap.objs.size,_,I.laid (t':=s.toks) (o:= .tup (L8 xs lo hi)) (λb ob q=>Heap.get?_push_of_some _ q) (Nat.le_refl _) ?_,rfl,q _ (I.hok.fresh (Nat.le_refl _))⟩
 exact ⟨Nat.le_trans (JF xs lo hi) hz,_,(r.drop (HT.sIx xs.length 0 lo)).take (HT.sIx xs.length xs.length hi-HT.sIx xs.length 0 lo),IsTup.new _ _⟩
def Yh (K:PySem.W.Frag):R2:=λx y H Q=>∃a b xs ys,x= .ref a/\y= .ref b/\JE K H a xs/\JE K H b ys/\xs≠ [] /\xs.length+ys.length<=sizeLine/\
 (ys= [] ->Q (.ref a) H)/\(ys≠ [] ->∀p,H p=none->Q (.ref p) (upd H p (.tup (xs++ys))))
theorem Aq.nil_iff {xs:List V} {us:List Value} (r:Aq xs us):us= [] ↔xs= [] :=by
 cases r with
 | nil=>simp
 | cons _ _=>simp
theorem Xp:Dc X (binaryOp .Add) (Yh X.K):=by
 intro pins s σ H x y v u Q I rx ry h
 obtain ⟨a,b,xs,ys,rfl,rfl,ha,hb,hx,hz,q1,q2⟩:=h
 cases rx
 cases ry
 obtain ⟨its,r1,p1,_⟩:=I.tuple ha
 obtain ⟨its2,r2,p2,_⟩:=I.tuple hb
 refine HT.cat_tup p1 p2 (λz=>hx (r1.nil_iff.mp z)) (λz=>⟨.ref a,H,I,rfl,q1 (r2.nil_iff.mp z)⟩) (λz=> ?_) (by rw [<-r1.length,<-r2.length];exact hz)
 refine ⟨.ref s.heap.objs.size,_,I.laid (t':=s.toks) (o:= .tup (xs++ys)) (λb ob q=>Heap.get?_push_of_some _ q) (Nat.le_refl _) ?_,rfl,q2 (λw=>z (r2.nil_iff.mpr w)) _ (I.hok.fresh (Nat.le_refl _))⟩
 exact ⟨by rw [List.length_append];exact hz,_,r1.append r2,IsTup.new _ _⟩
end
end L2
namespace L2
open PySem PySem.Spec PyProof.Rows
def UV (n:Nat) (i:Int):Option Nat:=if 0<=i then (if i<n then some i.toNat else none) else if -(n:Int)<=i then some (i+n).toNat else none
def EE {α:Type} (xs:List α) (i:Int):Option α:=(UV xs.length i).bind λj=>xs[j]?
theorem SC {n:Nat} {i:Int} {j:Nat} (h:UV n i=some j):seqIndex? i n=some j/\j<n/\ -(n:Int)<=i/\i<n:=by
 unfold UV at h
 by_cases h0:0<=i
 ·rw [if_pos h0] at h
  by_cases h1:i<n
  ·rw [if_pos h1] at h
   have e:i.toNat=j:=Option.some.inj h
   exact ⟨by rw [seqIndex_of h0 h1,e],by omega,by omega,h1⟩
  ·rw [if_neg h1] at h;cases h
 ·rw [if_neg h0] at h
  by_cases h1: -(n:Int)<=i
  ·rw [if_pos h1] at h
   have e:(i+n).toNat=j:=Option.some.inj h
   exact ⟨by rw [seqIndex_neg (by omega) h1,e],by omega,h1,by omega⟩
  ·rw [if_neg h1] at h;cases h
theorem Rp {α:Type} {xs:List α} {i:Int} {v:α} (h:EE xs i=some v):∃j,seqIndex? i xs.length=some j/\xs[j]? =some v/\j<xs.length/\ -(xs.length:Int)<=i/\i<xs.length:=by
 unfold EE at h
 cases e:UV xs.length i with
 | none=>rw [e] at h;cases h
 | some j=>
   rw [e] at h
   obtain ⟨h1,h2,h3,h4⟩:=SC e
   exact ⟨j,h1,h,h2,h3,h4⟩
theorem Ct {α:Type} {xs:List α} {j:Nat} {v:α} (h:xs[j]? =some v):EE xs (j:Int)=some v:=by
 have hj:j<xs.length:=(List.getElem?_eq_some_iff.mp h).1
 have e:UV xs.length (j:Int)=some j:=by
  unfold UV
  rw [if_pos (by omega),if_pos (by omega)];simp
 unfold EE;rw [e];exact h
def Jt (b:Expr):Prop:=∀o i,subscripted b false o i=operate [o,i] (getItem o i)
def Wa (X:Cx) (r:R2):Prop:=
 ∀(value slice:Expr) (pins:List (Addr×Obj)) (s:Shared) (σ:St) (H:Hp) (x y:V) (v u:Value) (Q:VK),Inv X pins σ H s->RelV x v->RelV y u->r x y H Q->
  subscripted slice false v u=operate [v,u] (getItem v u)->wpAny (model X.prog X.w) X.A (subscriptTail value slice v u) (EP X pins σ Q) X.xe s
def bU (X:Cx) (id:String) (r:V->List V->Hp->VK->Prop):Prop:=
 ∀(pins:List (Addr×Obj)) (s:Shared) (σ:St) (H:Hp) (x:V) (xs:List V) (v:Value) (us:List Value) (Q:VK),Inv X pins σ H s->RelV x v->Aq xs us->r x xs H Q->
  wpAny (model X.prog X.w) X.A (call (.builtin id) (v::us)) (EP X pins σ Q) X.xe s
section
variable {X:Cx} {a b:Expr} {ta tb:TE} {pos:Pos}
theorem Wa.or {r r':R2} (h:Wa X r) (h':Wa X r'):Wa X (λx y H Q=>r x y H Q\/r' x y H Q):=by
 intro value slice pins s σ H x y v u Q I rx ry q hs
 rcases q with q|q
 ·exact h value slice pins s σ H x y v u Q I rx ry q hs
 ·exact h' value slice pins s σ H x y v u Q I rx ry q hs
theorem bU.or {id:String} {r r':V->List V->Hp->VK->Prop} (h:bU X id r) (h':bU X id r'):bU X id (λx xs H Q=>r x xs H Q\/r' x xs H Q):=by
 intro pins s σ H x xs v us Q I rx rs q
 rcases q with q|q
 ·exact h pins s σ H x xs v us Q I rx rs q
 ·exact h' pins s σ H x xs v us Q I rx rs q
theorem He {r:R2} (hr:Wa X r) (ha:PE X a ta) (hb:PE X b tb) (hs:Jt b):PE X (.Subscript a b pos) (dt r ta tb):=by
 intro pins s σ H Q I h
 exact Subscript_ (Y8 ha hb I h λv u s2 x y H2 I2 rx ry q=>hr a b pins s2 σ H2 x y v u Q I2 rx ry q (hs _ _))
def dJ (K:PySem.W.Frag):R2:=λx y H Q=>∃p xs i v,x= .ref p/\y= .int i/\Fc K H p xs/\EE xs i=some v/\Q v H
def dM (K:PySem.W.Frag):R2:=λx y H Q=>∃p xs i v,x= .ref p/\y= .int i/\JE K H p xs/\EE xs i=some v/\Q v H
theorem EK:Wa X (dJ X.K):=by
 intro value slice pins s σ H x y v u Q I rx ry h hs
 obtain ⟨p,xs,i,z,rfl,rfl,hq,he,q⟩:=h
 cases rx
 obtain ⟨t,rfl⟩:=ry
 obtain ⟨its,r,pl,hz⟩:=I.list hq
 obtain ⟨j,h1,h2,h3,h4,h5⟩:=Rp he
 obtain ⟨w,ew,rw'⟩:=r.get h2
 have hl:=r.length
 have hn:=Ie
 have fin:EP X pins σ Q w s:=⟨z,H,I,rw',q⟩
 by_cases h0:0<=i
 ·have hj:i.toNat=j:=by
   rw [seqIndex_of h0 h5] at h1
   exact Option.some.inj h1
  exact item_listR pl.isList h0 (by omega) (by rw [hj];simpa using ew) fin hs
 ·have hj:(i+(its.toArray.size:Int)).toNat=j:=by
   rw [seqIndex_neg (by omega) h4] at h1
   rw [List.size_toArray,<-hl]
   exact Option.some.inj h1
  exact subscriptTail_builtinR (x:=w) pl.isList.typeIs slot_list_getitem.lookup
   (wpAny_getItem_list_neg (Q:=λr s'=>r=w/\EP X pins σ Q r s') pl.isList (by omega) (by rw [List.size_toArray] <;> omega) (by omega) (by rw [hj];simpa using ew) ⟨rfl,fin⟩) hs
theorem Zd:Wa X (dM X.K):=by
 intro value slice pins s σ H x y v u Q I rx ry h hs
 obtain ⟨p,xs,i,z,rfl,rfl,hq,he,q⟩:=h
 cases rx
 obtain ⟨t,rfl⟩:=ry
 obtain ⟨its,r,pl,hz⟩:=I.tuple hq
 obtain ⟨j,h1,h2,h3,h4,h5⟩:=Rp he
 obtain ⟨w,ew,rw'⟩:=r.get h2
 have hl:=r.length
 have hn:=Ie
 have fin:EP X pins σ Q w s:=⟨z,H,I,rw',q⟩
 exact subscriptTail_builtinR (x:=w) pl.typeIs slot_tuple_getitem.lookup
  (getItem_tuple (j:=j) (Q:=λr s'=>r=w/\EP X pins σ Q r s') pl (by omega) (by omega) (by rw [List.size_toArray,<-hl];exact h1) (by simpa using ew) ⟨rfl,fin⟩) hs
theorem Q7 (its:List Value) (n j:Nat) (u:Value):Obj.mapSeq (·.setIfInBounds j u) {cls:= .type "list",data:= .seq its.toArray n}={cls:= .type "list",data:= .seq (its.set j u).toArray n}:=by
 simp [Obj.mapSeq]
theorem Inv.lst {pins:List (Addr×Obj)} {σ:St} {H:Hp} {s:Shared} {p:Addr} {xs:List V} (I:Inv X pins σ H s) (h:H p=some (.lst xs)):
 ∃(its:List Value) (n:Nat),Aq xs its/\s.heap.get? p=some {cls:= .type "list",data:= .seq its.toArray n}/\xs.length<=sizeLine:=by
 obtain ⟨z,its,n,r,e⟩:=I.hok p _ h
 exact ⟨its,n,r,e,z⟩
theorem Inv.lstUpd {pins:List (Addr×Obj)} {σ:St} {H:Hp} {s:Shared} {p:Addr} {xs ys:List V} {its its':List Value} {n n':Nat} {f:Obj->Obj} (I:Inv X pins σ H s) (h:H p=some (.lst xs))
 (ho:s.heap.get? p=some {cls:= .type "list",data:= .seq its.toArray n}) (hf:f {cls:= .type "list",data:= .seq its.toArray n}={cls:= .type "list",data:= .seq its'.toArray n'}) (r:Aq ys its') (hz:ys.length<=sizeLine) (t:Nat):
 Inv X pins σ (upd H p (.lst ys)) {s with heap:=s.heap.update p f,toks:=t}:=by
 have e:(s.heap.update p f).get? p=some {cls:= .type "list",data:= .seq its'.toArray n'}:=by
  rw [Heap.get?_update_self f ho (by rw [hf] <;> rfl),hf]
 refine I.write (x:=p) (e:=p) (by rw [h];trivial) (.inl rfl) (λb u hb q=>(Heap.get?_update_other _ _ (Ne.symm hb)).trans q) ⟨_,e⟩ ?_
 exact ⟨hz,its',n',r,e⟩
def dQ:V->V->V->Hp->(Hp->Prop)->Prop:=λo i v H Q=>∃p xs k j,o= .ref p/\i= .int k/\H p=some (.lst xs)/\UV xs.length k=some j/\Q (upd H p (.lst (xs.set j v)))
theorem P6:bX X dQ:=by
 intro pins s σ H o i v ov iv u Q I ro ri rv h
 obtain ⟨p,xs,k,j,rfl,rfl,hp,hj,q⟩:=h
 cases ro
 obtain ⟨t,rfl⟩:=ri
 obtain ⟨its,n,r,ho,hz⟩:=I.lst hp
 obtain ⟨h1,h2,h3,h4⟩:=SC hj
 have hl:=r.length
 have hn:=Ie
 have I':Inv X pins σ (upd H p (.lst (xs.set j v))) {s with heap:=s.heap.update p (Obj.mapSeq (·.setIfInBounds j u))}:=
  I.lstUpd hp ho (Q7 its n j u) (r.set rv j) (by rw [List.length_set];exact hz) s.toks
 by_cases h0:0<=k
 ·have hk:k.toNat=j:=by
   rw [seqIndex_of h0 h4] at h1
   exact Option.some.inj h1
  exact PySem.W.ki_setAt ho h0 (by omega) (by rw [List.size_toArray,<-hl];exact h4) (by rw [hk];exact ⟨_,I',q⟩)
 ·have hk:(k+(its.toArray.size:Int)).toNat=j:=by
   rw [seqIndex_neg (by omega) h3] at h1
   rw [List.size_toArray,<-hl]
   exact Option.some.inj h1
  exact PySem.W.ki_setBack ho (by omega) (by rw [List.size_toArray,<-hl];exact h3) (by omega) (by rw [hk];exact ⟨_,I',q⟩)
theorem OI (lo hi:Option Int) (n:Nat):(sliceBounds lo hi none n).1=((HT.sIx n 0 lo:Nat):Int)/\(sliceBounds lo hi none n).2.1=((HT.sIx n n hi:Nat):Int)/\(sliceBounds lo hi none n).2.2=1:=by
 refine ⟨?_, ?_,rfl⟩
 ·cases lo with
  | none=>simp [sliceBounds,HT.sIx]
  | some i=>
    simp only [sliceBounds,HT.sIx,Option.getD_none,show (1:Int)>0 by decide,if_true]
    by_cases h:i<0
    ·simp only [h,if_true] <;> omega
    ·simp only [h,if_false] <;> omega
 ·cases hi with
  | none=>simp [sliceBounds,HT.sIx]
  | some i=>
    simp only [sliceBounds,HT.sIx,Option.getD_none,show (1:Int)>0 by decide,if_true]
    by_cases h:i<0
    ·simp only [h,if_true] <;> omega
    ·simp only [h,if_false] <;> omega
theorem ML (its:List Value) (lo hi:Option Int):slicePick its.toArray lo hi none=((its.drop (HT.sIx its.length 0 lo)).take (HT.sIx its.length its.length hi-HT.sIx its.length 0 lo)).toArray:=by
 obtain ⟨h1,h2,h3⟩:=OI lo hi its.toArray.size
 unfold slicePick
 rw [h1,h2,h3]
 simp only [sliceRange_one,pick_run,List.size_toArray] <;> rfl
def gx (K:PySem.W.Frag):V->Option Int->Option Int->Hp->VK->Prop:=λx lo hi H Q=>∃a xs,x= .ref a/\Fc K H a xs/\∀p,H p=none->Q (.ref p) (upd H p (.lst (L8 xs lo hi)))
theorem YJ:YU X (gx X.K):=by
 intro pins s σ H x v vl vu lo hi sl Q I rx hs pl pu h
 obtain ⟨a,xs,rfl,hx,q⟩:=h
 cases rx
 obtain ⟨its,r,ht,hz⟩:=I.list hx
 have B6:=r.length
 refine ⟨"list",_,slot_list_getitem.lookup,ht.isList.typeIs, ?_⟩
 refine wpAny_getItem_list_slice ht.isList hs pl pu .none (by simp) ?_ (by rw [List.size_toArray] <;> omega)
 rw [ML,<-B6]
 refine ⟨.ref s.heap.objs.size,_,I.laid (t':=s.toks) (o:= .lst (L8 xs lo hi)) (λb ob q=>Heap.get?_push_of_some _ q) (Nat.le_refl _) ?_,rfl,q _ (I.hok.fresh (Nat.le_refl _))⟩
 exact ⟨Nat.le_trans (JF xs lo hi) hz,_,0,(r.drop (HT.sIx xs.length 0 lo)).take (HT.sIx xs.length xs.length hi-HT.sIx xs.length 0 lo),Heap.get?_push_size _ rfl⟩
theorem HR:DM X (.builtin "len") (λxs H Q=>∃p ys,xs= [.ref p] /\(Fc X.K H p ys\/JE X.K H p ys)/\Q (.int ys.length) H):=by
 intro pins s σ H xs us Q I r h
 obtain ⟨p,ys,rfl,hq,q⟩:=h
 obtain ⟨u,rfl,rx⟩:=vals1 r
 cases rx
 have hn:=Ie
 rcases hq with hq|hq
 ·obtain ⟨its,r',pl,hz⟩:=I.list hq
  have B6:=r'.length
  exact Calls.call_len_list pl.isList (by simp only [List.size_toArray] <;> omega) ⟨.int ys.length,H,I.tok _,⟨s.toks+1,by rw [List.size_toArray,B6]⟩,q⟩
 ·obtain ⟨its,r',pl,hz⟩:=I.tuple hq
  have B6:=r'.length
  exact len_tuple pl (by simp only [List.size_toArray] <;> omega) ⟨.int ys.length,H,I.tok _,⟨s.toks+1,by rw [List.size_toArray,B6]⟩,q⟩
theorem DM.or {f:Value} {r r':List V->Hp->VK->Prop} (h:DM X f r) (h':DM X f r'):DM X f (λxs H Q=>r xs H Q\/r' xs H Q):=by
 intro pins s σ H xs us Q I rs q
 rcases q with q|q
 ·exact h pins s σ H xs us Q I rs q
 ·exact h' pins s σ H xs us Q I rs q
theorem L7:DM X (.type "tuple") (λxs H Q=>∃p ys,xs= [.ref p] /\((Fc X.K H p ys/\∀l,H l=none->Q (.ref l) (upd H l (.tup ys)))\/(JE X.K H p ys/\Q (.ref p) H))):=by
 intro pins s σ H xs us Q I r h
 obtain ⟨p,ys,rfl,h⟩:=h
 obtain ⟨u,rfl,rx⟩:=vals1 r
 cases rx
 rcases h with ⟨hq,q⟩|⟨hq,q⟩
 ·obtain ⟨its,r',pl,hz⟩:=I.list hq
  have B6:=r'.length
  refine call_tuple_list pl.isList (λh' kp=> ?_) (by simp only [List.size_toArray] <;> omega)
  have I1:Inv X pins σ H {s with heap:=h'}:=I.kept (t':=s.toks) kp
  have I2:Inv X pins σ (upd H h'.objs.size (.tup ys)) {s with heap:=h'.push {cls:= .type "tuple",data:= .seq its.toArray}}:=
   I1.laid (t':=s.toks) (λb o e=>Heap.get?_push_of_some _ e) (Nat.le_refl _) (show Cm X.prog X.w _ _ _ (.tup ys) from ⟨hz,its,r',IsTup.new _ _⟩)
  exact ⟨.ref h'.objs.size,_,I2,rfl,q _ (I1.hok.fresh (Nat.le_refl _))⟩
 ·obtain ⟨its,r',pl,hz⟩:=I.tuple hq
  exact call_tuple_same pl ⟨.ref p,H,I,rfl,q⟩
def jh (K:PySem.W.Frag) (T:String) (x:V) (H:Hp):Prop:=match x with
 | .str _=>T="str"
 | .int _=>T="int"
 | .ref p=>(T="list" /\∃xs,Fc K H p xs)\/(T="tuple" /\∃o,K.lookup p=some o/\o.cls= .type "tuple" /\o.dict=none)\/
     (T="dict" /\((∃kvs,H p=some (.dK kvs))\/∃kvs,H p=some (.dT kvs)))\/(T="set" /\∃S n,H p=some (.set S n))
 | _=>False
theorem ao {pins:List (Addr×Obj)} {σ:St} {H:Hp} {s:Shared} {T:String} {x:V} {v:Value} (I:Inv X pins σ H s) (r:RelV x v) (ty:jh X.K T x H):
 s.TypeIs v T/\∀a,v= .ref a->∃ob,s.heap.get? a=some ob/\ob.dict=none:=by
 cases x with
 | str z=>
   obtain ⟨t,rfl⟩:=r
   cases (show T="str" from ty)
   exact ⟨typeIs_str s z t,λ_ e=>nomatch e⟩
 | int i=>
   obtain ⟨t,rfl⟩:=r
   cases (show T="int" from ty)
   exact ⟨typeIs_int s i t,λ_ e=>nomatch e⟩
 | ref p=>
   cases r
   rcases ty with ⟨rfl,xs,hq⟩|⟨rfl,o,hk,hc,hd⟩|⟨rfl,hk⟩|⟨rfl,S,n,hk⟩
   ·obtain ⟨its,_,pl,_⟩:=I.list hq
    refine ⟨pl.isList.typeIs,λa e=> ?_⟩
    cases e
    obtain ⟨o,n,e,c,hd,_⟩:=pl
    exact ⟨o,e,hd⟩
   ·refine ⟨⟨o,I.kIn p o hk,hc⟩,λa e=> ?_⟩
    cases e
    exact ⟨o,I.kIn _ o hk,hd⟩
   ·have z:∃o,s.heap.get? p=some o/\o.ExactDict:=by
     rcases hk with ⟨kvs,hk⟩|⟨kvs,hk⟩
     ·obtain ⟨_,_,_,_,o,_,_,e,ex,_⟩:=I.hok p _ hk
      exact ⟨o,e,ex⟩
     ·obtain ⟨_,_,_,_,o,_,_,e,ex,_⟩:=I.hok p _ hk
      exact ⟨o,e,ex⟩
    obtain ⟨o,e,ex⟩:=z
    refine ⟨⟨o,e,ex.1⟩,λa e2=> ?_⟩
    cases e2
    exact ⟨o,e,ex.2.1⟩
   ·obtain ⟨o,_,_,_,e,ex,_⟩:=I.hok p _ hk
    refine ⟨⟨o,e,ex.1⟩,λa e2=> ?_⟩
    cases e2
    exact ⟨o,e,ex.2.1⟩
 | _=>exact False.elim ty
def jg (K:PySem.W.Frag) (T:String) (r:V->List V->Hp->VK->Prop) (to:TE) (t:TA):TE:=λσ H Q=>to σ H λx H1=>jh K T x H1/\t σ H1 λxs H2=>r x xs H2 Q
variable {o e:Expr} {es:List Expr} {to:TE} {t:TA} {name:Str} {apos cpos:Pos} {T id:String} {r:V->List V->Hp->VK->Prop}
theorem dD (pa:PlainAttrs T) (slot:Slot T name id) (gg:typeOf (.builtin id)=pure (.type "method_descriptor")) (hm:bU X id r) (ho:PE X o to) (ha:PA X (e::es) t)
 (VI:attributeBase o name X.env (eval o X.env)=eval o X.env:=by rfl)
 (ZV:((backTo cpos (starEach (e::es) X.env)).all (λx=> !x.1)&&(backToKw cpos (keywordEach [] X.env)).all (λx=>x.1.isSome)
   && decide ((e::es).length+([] :List Keyword).length+(if ([] :List Keyword).isEmpty then 0 else 1)<30))=true:=by rfl)
 (R8:(apos.endLine==cpos.line)=true:=by rfl) (hs:starEach (e::es) X.env=(false,eval e X.env)::starEach es X.env:=by rfl) (Qz:(backTo cpos (starEach es X.env)).any (·.1)=false:=by rfl):
 PE X (.Call (.Attribute o name apos) (e::es) [] cpos) (jg X.K T r to t):=by
 intro pins s σ H Q I h
 refine wpAny_Call_method_late VI ZV R8 rfl (Cd (ho pins s σ H _ I h) λv s1 ⟨x,H1,I1,r1,ty,q1⟩=> ?_)
 obtain ⟨h1,h2⟩:=ao I1 r1 ty
 refine ⟨T,id,pa,slot,gg,h1,h2, ?_⟩
 have hA:=ha cpos pins s1 σ H1 _ I1 q1
 rw [hs] at hA ⊢
 refine Calls.callWith_builtin (by show (false||(backTo cpos (starEach es X.env)).any (·.1))=false;rw [Qz] <;> rfl) (Calls.evalArgs_plain ?_)
 exact Cd hA λus s2 ⟨vs,H2,I2,r2,q2⟩=>hm pins s2 σ H2 x vs v us Q I2 r1 r2 q2
end
end L2
namespace L2
open PySem PySem.Spec PyProof.Rows
def bT (X:Cx) (id:String) (r:V->List V->Hp->VK->Prop):Prop:=
 ∀(pins:List (Addr×Obj)) (s:Shared) (σ:St) (H:Hp) (x:V) (xs:List V) (v:Value) (us:List Value) (Q:VK),Inv X pins σ H s->RelV x v->Aq xs us->r x xs H Q->
  wpAny (model X.prog X.w) X.A (call (.builtin id) (v::us)) (EP X pins σ Q) X.xe s
theorem Aq.one:∀{x:V} {us:List Value},Aq [x] us->∃u,us= [u] /\RelV x u
 | _,_, .cons r .nil=>⟨_,rfl,r⟩
theorem Aq.two:∀{x y:V} {us:List Value},Aq [x,y] us->∃u v,us= [u,v] /\RelV x u/\RelV y v
 | _,_,_, .cons r (.cons q .nil)=>⟨_,_,rfl,r,q⟩
theorem Aq.zero:∀{us:List Value},Aq [] us->us= []
 | _, .nil=>rfl
theorem Aq.dropLast {xs:List V} {us:List Value} (h:Aq xs us):Aq xs.dropLast us.dropLast:=by
 induction h with
 | nil=>exact .nil
 | cons r t ih=>
   cases t with
   | nil=>exact .nil
   | cons q t'=>exact .cons r ih
theorem Aq.reverse {xs:List V} {us:List Value} (h:Aq xs us):Aq xs.reverse us.reverse:=by
 induction h with
 | nil=>exact .nil
 | cons r t ih=>rw [List.reverse_cons,List.reverse_cons];exact Aq.append ih (.cons r .nil)
section
variable {X:Cx} {pins:List (Addr×Obj)} {σ:St} {H:Hp} {s:Shared} {l b:Addr} {xs ys zs:List V}
theorem Inv.lset {its its':List Value} {n:Nat} {f:Array Value->Array Value} {t':Nat} (I:Inv X pins σ H s) (hH:H l=some (.lst xs))
 (e:s.heap.get? l=some {cls:= .type "list",data:= .seq its.toArray n}) (hf:f its.toArray=its'.toArray) (hv:Aq ys its') (hz:ys.length<=sizeLine):
 Inv X pins σ (upd H l (.lst ys)) {s with heap:=s.heap.update l (Obj.mapSeq f),toks:=t'}:=by
 have q:=PySem.IsL.update e f
 rw [hf] at q
 refine I.write (x:=l) (e:=l) (by rw [hH];exact trivial) (.inl rfl) (λb' u hb hu=>(Heap.get?_update_other s.heap (Obj.mapSeq f) (Ne.symm hb)).trans hu) ⟨_,q⟩ ?_
 exact ⟨hz,its',_,hv,q⟩
theorem Inv.lnew {its:List Value} {t':Nat} (I:Inv X pins σ H s) (hv:Aq ys its) (hz:ys.length<=sizeLine):
 Inv X pins σ (upd H s.heap.objs.size (.lst ys)) {s with heap:=s.heap.push {cls:= .type "list",data:= .seq its.toArray},toks:=t'}:=
 I.laid (λ_ _ q=>Heap.get?_push_of_some _ q) (Nat.le_refl _) ⟨hz,its,0,hv,Heap.get?_push_size _ rfl⟩
theorem Inv.fresh (I:Inv X pins σ H s):H s.heap.objs.size=none:=I.hok.fresh (Nat.le_refl _)
theorem Inv.lstM (I:Inv X pins σ H s) (hH:H l=some (.lst xs)):xs.length<=sizeLine/\∃(its:List Value) (n:Nat),Aq xs its/\xs.length=its.length/\s.heap.get? l=some {cls:= .type "list",data:= .seq its.toArray n}:=by
 obtain ⟨z,its,n,r,e⟩:=I.hok l _ hH
 exact ⟨z,its,n,r,r.length,e⟩
end
section
variable {X:Cx}
def N6:V->List V->Hp->VK->Prop:=λx vs H Q=>∃l xs y,x= .ref l/\vs= [y] /\H l=some (.lst xs)/\xs.length<sizeLine/\Q .non (upd H l (.lst (xs ++ [y])))
theorem Mf:bT X "list.append" N6:=by
 intro pins s σ H x vs v us Q I rx rv h
 obtain ⟨l,xs,y,rfl,rfl,hH,hz,q⟩:=h
 cases rx
 obtain ⟨u,rfl,ru⟩:=rv.one
 obtain ⟨z,its,n,r,hl,e⟩:=I.lstM hH
 refine call_meets F.slot_list_append ⟨_,e,rfl⟩ F.entry_list_append (F.args_list_append_2 _ _) (PySem.list_append l its.toArray n u (by rw [List.size_toArray];omega)) ⟨e, ?_⟩
 refine ⟨.non,_,I.lset (its':=its ++ [u]) hH e (by simp) (r.append (.cons ru .nil)) ?_,rfl,q⟩
 rw [List.length_append,List.length_singleton]
 omega
def dH:R2:=λx y H Q=>∃l b xs zs,x= .ref l/\y= .ref b/\H l=some (.lst xs)/\H b=some (.lst zs)/\xs.length+zs.length<=sizeLine/\∀p,H p=none->Q (.ref p) (upd H p (.lst (xs++zs)))
theorem Zx:Dc X (binaryOp .Add) dH:=by
 intro pins s σ H x y v u Q I rx ry h
 obtain ⟨l,b,xs,zs,rfl,rfl,hH,hB,hz,q⟩:=h
 cases rx
 cases ry
 obtain ⟨z,its,n,r,hl,e⟩:=I.lstM hH
 obtain ⟨z2,its2,n2,r2,jR,e2⟩:=I.lstM hB
 refine PySem.P.add_list e e2 ?_ (by rw [List.size_toArray,List.size_toArray];omega)
 have ea:its.toArray++its2.toArray=(its++its2).toArray:=by simp
 rw [ea]
 exact ⟨.ref _,_,I.lnew (t':=s.toks) (r.append r2) (by rw [List.length_append];omega),rfl,q _ I.fresh⟩
end
section
variable {prog:Program} {w:World} {A:Around} {E:Value->Shared->Prop} {s:Shared}
set_option maxRecDepth 100000 in
end
section
variable {X:Cx}
end
end L2
namespace Att
open PySem PySem.W PySem.Calls PyProof.Rows
theorem Jj {P:Params} {h:Heap}:∀(ns:List Int) (vs:List Value),WellAll P h vs (ns.map WData.int)->IntsAre vs ns:=by
 intro ns
 induction ns with
 | nil=>
   intro vs w
   rw [List.map_nil] at w
   cases w
   exact .nil
 | cons n ns ih=>
   intro vs w
   rw [List.map_cons] at w
   cases w with
   | cons a b=>
     cases a
     exact .cons _ _ (ih _ b)
theorem UH {l:OpenLaw} {n:Nat} (hn:l.most=some n) {P:Params} {h:Heap} {args:List WData} {vals:List Value}
 (XW:l.row.toRowW.claim.pre args=true) (gi:WellAll P h vals args):
 ∃a vs ns,vals= [Value.ref a] /\args= [WData.list (ns.map WData.int)] /\h.get? a=some {cls:= .type "list",data:= .seq vs.toArray}/\IntsAre vs ns/\ns.length<=n:=by
 have mM:WShape.hasAll [] args [.list .int] =true:=(pre_splitW XW).1
 have hc:l.pre.holds [] {args:=args}=true:=(pre_splitW XW).2
 obtain ⟨d,r,rfl,h1,h2⟩:=hasAllW_cons mM
 obtain rfl:=hasAllW_nil h2
 obtain ⟨xs,rfl,h3⟩:=hasW_list h1
 obtain ⟨ns,rfl⟩:=items_int h3
 have B6:ns.length<=n:=by
  unfold OpenLaw.pre at hc
  have h4:(WTm.not (.lt (.lit (.int (n:Int))) (.len (.arg 0)))).holds [] {args:= [.list (ns.map .int)] }=true:=by
   have h4:=(holds_andW hc).1
   rw [hn] at h4
   exact h4
  have h5:=condW_of h4 (w_not (w_lt w_lit (w_len_list (w_arg rfl))))
  rw [List.length_map] at h5
  refine Nat.le_of_not_lt λq=> ?_
  have q':(n:Int)<((ns.length:Nat):Int):=by omega
  first
   | (rw [decide_eq_true q'] at h5;exact absurd h5 (by decide))
   | (simp at h5;omega)
 cases gi with
 | cons w1 w2=>
   cases w2
   cases w1 with
   | list ho MA=>exact ⟨_,_,ns,rfl,rfl,ho,Jj ns _ MA,B6⟩
theorem UE (l:OpenLaw) (args:List WData):l.row.toRowW.claim.post args (.bool true) args=true:=
 postW_of (r:=l.row.toRowW) (X:=(true==true))
  (show WShape.has [] (.bool true) .bool=true by first | rfl|decide|simp [WShape.has,WShape.arms,WShape.armsAll])
  (show (WTm.eq .res (.lit (.bool true))).value [] {args:=args,res:=some (.bool true),after:=args}=some (.bool (true==true)) from w_eq_bool (w_res rfl) w_lit) rfl
theorem attach_call {l:OpenLaw} {n:Nat} {q:Program} {loose:List Str} {XP:(Str->Option Value)->Heap->Prop} {YP:World->Heap->Prop} {d:DefRec}
 (hn:l.most=some n) (cH:d.params.defaults= [])
 (call:∀(w:World) (s₀ s₁:Shared) (mg mb:Str->Option Value) (fa:Addr) (o:Obj) (pm cd doc:Value) (a:Addr) (vs:List Value) (ns:List Int),
   Ground q loose [] XP w s₀ mg mb s₁.heap->YP w s₁.heap->
   s₁.heap.get? fa=some o->o.data= .func (docDef d.name d.params d.body d.scope pm cd doc)->s₁.heap.CodeRec cd d.name->mg d.name=some (.ref fa)->
   s₁.heap.get? a=some {cls:= .type "list",data:= .seq vs.toArray}->IntsAre vs ns->ns.length<=n->s₁.gens= #[] ->
   codeAny (model l.prog w) callerA (.call (.ref fa) ⟨[.ref a], []⟩) (λr s'=>r= .ok (.ret (.bool true))/\OldK s₁.heap s'.heap/\s'.os=s₁.os/\AllBare s'.gens) s₁):
 WalkO q loose XP YP l.row.toRowW d [] (λf vs=>PySem.call f vs):=by
 intro w s₀ s₁ mg mb G Y fa o pm cd doc dV kV ho hd Ma hD cM hg args vals as XW l8 nh gi nY
 obtain rfl:dV= .none:=Dflts.none hD cH
 obtain rfl:kV= .none:=Dflts.noKw hD
 obtain ⟨a,vs,ns,rfl,rfl,ZX,VO,B6⟩:=UH hn XW gi
 refine enter_call (codeAny_mono (call w s₀ s₁ mg mb fa o pm cd doc a vs ns G Y ho (fd_plain hd) Ma cM ZX VO B6 hg) λr s' hq=> ?_)
 obtain ⟨rfl,h2,h3,h4⟩:=hq
 exact ⟨.inl ⟨.bool true, .bool true, [],rfl,λ_=>rfl, .bool true,UE l _,λ_=>⟨List.Pairwise.nil,λ_ hm=>(nomatch hm)⟩⟩,h2,h3,h4⟩
section
variable {prog:Program} {w:World} {A:Around} {E:Value->Shared->Prop} {s:Shared} {K:Frag}
def gt (h:Heap) (L d:Addr):List (Addr×Obj):=(List.range h.objs.size).filterMap λa=>if a=L\/a=d then none else (h.get? a).map λo=>(a,o)
end
end Att
namespace L2
open PySem PySem.Spec PyProof.Rows
theorem M8:∀{vs:List Value} {ns:List Int},IntsAre vs ns->Aq (ns.map V.int) vs
 | _,_, .nil=> .nil
 | _,_, .cons n t h=> .cons ⟨t,rfl⟩ (M8 h)
def Yz (H:Hp):Prop:=∀b,H b=none\/∃o xs,H b=some (.frz o (.lst xs))
theorem Vc {P:Program} {w:World} {K:PySem.W.Frag} {mg mb:Str->Option Value} {CX:S8} {k:Nat} {fa a:Addr} {fd:FuncData} {x:Str} {sp:Sp} {s₁:Shared} {vs:List Value} {ns:List Int}
 (KX:K.In s₁.heap) (e8:s₁.heap.Ns mainGlobals mg) (hb:s₁.heap.Ns builtinsNs mb) (lc:∀x:Str,x≠"__name__" ->mb x=bootBuiltins x) (gW:s₁.heap.NoLimit) (hg:s₁.gens= #[])
 (ha:s₁.heap.get? a=some {cls:= .type "list",data:= .seq vs.toArray}) (hi:IntsAre vs ns) (hl:ns.length<=sizeLine) (hr:Room k callerA)
 (F:∀base:Heap,K.In base->base.Ns mainGlobals mg->A4 P w K mg base CX k fa fd [x] sp) (cG:∀(s:Shared) (u:Value),BindsTo s fd ⟨[u], []⟩ [(x,u)])
 (YZ:∀H:Hp,Yz H->Fc K H a (ns.map V.int)->sp [.ref a] H (λv _=>v= .bl true) λ_ _ _=>False)
 (gH:∀H e s',CX [] H s₁ (λ_ _ _=>False) e s'->False):
 codeAny (model P w) callerA (.call (.ref fa) ⟨[.ref a], []⟩) (λr s'=>r= .ok (.ret (.bool true))/\OldK s₁.heap s'.heap/\s'.os=s₁.os/\AllBare s'.gens) s₁:=by
 have rv:=M8 hi
 have lenV:=hi.length
 have core:∀H:Hp,Yz H->Fc K H a (ns.map V.int)->IM P w H s₁.heap->(∀b,H b≠none->b=a)->(H a≠none->K.lookup a=none)->
  codeAny (model P w) callerA (.call (.ref fa) ⟨[.ref a], []⟩) (λr s'=>r= .ok (.ret (.bool true))/\OldK s₁.heap s'.heap/\s'.os=s₁.os/\AllBare s'.gens) s₁:=by
  intro H hO hS hok hA hK
  have base_of:∀{b:Addr} {o:Obj},s₁.heap.get? b=some o->H b=none->(Nd s₁.heap H).get? b=some o:=λe n=>VN e n
  have noA:∀{b:Addr} {o:Obj} {es:Array DictEntry} {ep:Nat},s₁.heap.get? b=some o->o.data= .dict es ep->H b=none:=λ{b o es ep} e d=>by
   cases q:H b with
   | none=>rfl
   | some u=>
     have e':b=a:=hA b (by rw [q];simp)
     subst e'
     rw [ha] at e;cases e
     have d':Data.seq vs.toArray _=Data.dict es ep:=d
     cases d'
  have nsK:∀{b:Addr} {m:Str->Option Value},s₁.heap.Ns b m->(Nd s₁.heap H).Ns b m:=λ{b m} ⟨o,es,ep,e,d,r⟩=>⟨o,es,ep,base_of e (noA e d),d,r⟩
  have jJ:K.In (Nd s₁.heap H):=λb o e=>base_of (KX b o e) (by
   cases q:H b with
   | none=>rfl
   | some u=>
     have e':b=a:=hA b (by rw [q];simp)
     subst e'
     rw [hK (by rw [q];simp)] at e;cases e)
  have hM:Mod K mg (Nd s₁.heap H):=⟨jJ,nsK e8,⟨mb,nsK hb,lc⟩,let ⟨mc,h1,h2⟩:=gW;⟨mc,nsK h1,h2⟩⟩
  have e0:L4 P w K mg (Nd s₁.heap H) callerA [] s₁ H:=⟨rfl,hM,λb o e=>Xj e,Nat.le_of_eq (Tg _ _),trivial,λb hb=>absurd (show b∈([] :List Addr) from hb) (by simp),hok, .of_eq hg⟩
  refine codeAny_mono ((F _ jJ (nsK e8)).run callerA [] s₁ H ⟨[.ref a], []⟩ [.ref a] [.ref a] _ _ hr e0 (cG s₁ (.ref a)) (.cons rfl .nil) (YZ H hO hS)) λr s' h=> ?_
  cases r with
  | error e=>exact (gH H e s' h).elim
  | ok fl=>
    cases fl with
    | next=>exact False.elim h
    | brk=>exact False.elim h
    | cont=>exact False.elim h
    | ret u=>
      obtain ⟨v,H',os,bare,un,gZ,r',q⟩:=h
      have q':v= .bl true:=q
      subst q'
      obtain rfl:u=Value.bool true:=r'
      refine ⟨rfl,OldK.of_keep λb o e=> ?_,os,bare⟩
      cases q:H b with
      | none=>exact un.keep b o e q (by intro z;exact absurd (show b∈([] :List Addr) from z) (by simp)) (by simp)
      | some u=>
        rcases hO b with z|⟨ob,xs,z⟩
        ·rw [q] at z;cases z
        ·have z2:=un.frzs b ob _ z
         obtain ⟨e1,_⟩:=hok b _ z
         obtain ⟨e2,_⟩:=gZ b _ z2
         rw [e] at e1;cases e1
         exact e2
 cases hk:K.lookup a with
 | some o=>
   have e:=KX a o hk
   rw [ha] at e
   cases e
   refine core (λ_=>none) (λ_=> .inl rfl) (.inr ⟨_,vs.toArray,_,hk,rfl,rfl,rfl,by rw [List.size_toArray,lenV];exact hl,by simpa using rv⟩) (λb u z=>by have z':(none:Option HO)=some u:=z;cases z') (λb z=>absurd rfl z) λz=>absurd rfl z
 | none=>
   refine core (λb=>if b=a then some (.frz {cls:= .type "list",data:= .seq vs.toArray} (.lst (ns.map V.int))) else none) (λb=> ?_) (.inl (.inr ⟨{cls:= .type "list",data:= .seq vs.toArray},if_pos rfl⟩)) (λb u z=> ?_) (λb z=> ?_) λ_=>hk
   ·by_cases hb:b=a
    ·exact .inr ⟨_,_,if_pos hb⟩
    ·exact .inl (if_neg hb)
   ·by_cases hb:b=a
    ·have z':=(if_pos hb).symm.trans z
     cases z'
     subst hb
     exact ⟨ha,by rw [List.length_map];exact hl,vs,_,rv,ha⟩
    ·have z':=(if_neg hb).symm.trans z
     cases z'
   ·by_cases hb:b=a
    ·exact hb
    ·exact absurd (if_neg hb) z
end L2
namespace L2
open PySem PySem.Spec PyProof.Rows
abbrev nN {K:PySem.W.Frag} {h:Heap} (_:K.In h):PySem.W.Frag:=K
theorem walk_of {l:PySem.W.OpenLaw} {n k:Nat} {q:Program} {loose:List Str} {XP:(Str->Option Value)->Heap->Prop} {YP:World->Heap->Prop} {d:DefRec} {K:Params->PySem.W.Frag} {CX:World->S8} {sp:World->Sp} {x:Str}
 (hn:l.most=some n) (mD:n<=sizeLine) (cH:d.params.defaults= []) (hr:Room k callerA)
 (hY:∀(w:World) (h:Heap),YP w h->(K w.params).In h)
 (F:∀(w:World) (mg:Str->Option Value) (fa:Addr) (h:Heap),(K w.params).In h->h.Ns mainGlobals mg->mg d.name=some (.ref fa)->
   ∃fd:FuncData,(∀(s:Shared) (u:Value),BindsTo s fd ⟨[u], []⟩ [(x,u)])/\
    ∀base:Heap,(K w.params).In base->base.Ns mainGlobals mg->A4 l.prog w (K w.params) mg base (CX w) k fa fd [x] (sp w))
 (YZ:∀(w:World) (H:Hp) (a:Addr) (ns:List Int),ns.length<=n->Yz H->Fc (K w.params) H a (ns.map V.int)->sp w [.ref a] H (λv _=>v= .bl true) λ_ _ _=>False)
 (gH:∀(w:World) (H:Hp) (s:Shared) (e:Value) (s':Shared),CX w [] H s (λ_ _ _=>False) e s'->False):
 PySem.W.WalkO q loose XP YP l.row.toRowW d [] (λf vs=>PySem.call f vs):=by
 refine Att.attach_call hn cH λw s₀ s₁ mg mb fa o pm cd doc a vs ns G Y ho hd Ma cM ZX VO B6 hg=> ?_
 have KX:=hY w _ Y
 obtain ⟨fd,hb,hF⟩:=F w mg fa _ KX G.T.g cM
 exact Vc KX G.T.g G.T.b G.T.builtins G.T.nolimit hg ZX VO (Nat.le_trans B6 mD) hr hF hb (λH hO hS=>YZ w H a ns B6 hO hS) λH e s'=>gH w H s₁ e s'
end L2
namespace L2
open PySem PySem.Spec PyProof.Rows
def E6 (s:Stmt):Arguments:=match s with
 | .FunctionDef _ a _ _ _ _ _ _ _ _=>a
 | _=>{posonlyargs:= [],args:= [],vararg:=none,kwonlyargs:= [],kw_defaults:= [],kwarg:=none,defaults:= [] }
def Dp (s:Stmt):List Stmt:=match s with
 | .FunctionDef _ _ b _ _ _ _ _ _ _=>b
 | _=> []
def AU (s:Stmt):Scope:=match s with
 | .FunctionDef _ _ _ _ _ _ sc _ _ _=>sc
 | _=>{kind:= .function,names:= [],isGenerator:=false,isCoroutine:=false}
abbrev C7:S8:=λ_ _ _ _ _ _=>False
abbrev E0:XK:=λ_ _ _=>False
theorem dA {X:Cx}:Passes C7 X E0:=λ_ _ _ _ _ _ _ h=>h.elim
structure C8 (K:PySem.W.Frag) (x qual:Str) (st:Stmt) (f:Addr) (fd:FuncData):Prop where
 ex:∃(oc:Value) (od:Option Addr) (kV doc pm:Value) (an:Option Addr) (cdv ct:Value) (osl:Array (Option Value)),
  fd=PySem.W.fnOf x qual (E6 st) (Dp st) (AU st) .none kV doc pm an cdv ct/\K.lookup f=some ⟨oc,od, .func fd,osl⟩/\PySem.W.codeIn K cdv qual=true
 kp:PySem.W.keepIn K (.ref f)=true
section
variable {P:Program} {w:World} {K:PySem.W.Frag} {mg:Str->Option Value} {base:Heap}
theorem C8.ok {x qual:Str} {st:Stmt} {f:Addr} {fd:FuncData} {N ps:List Str} {k:Nat} {sp:Sp} (F:C8 K x qual st f fd) (S:Ad N ps (AU st)) (len:∀vs H Q E,sp vs H Q E->vs.length=ps.length)
 (Pa:∀(cdv:Value) (A:Around) (outer:List Env) (s:Shared) (H:Hp) (vs:List V) (Q:VK) (E:XK),Room k (A.deeper (envOfC qual (AU st) s.heap.objs.size f cdv))->sp vs H Q E->
   ∃t,Rn (Qn C7 P w K mg base N qual (AU st) f cdv A outer s H E).nox (Dp st) t/\t {nx:=λ_ H'=>Q .non H',rt:=Q} (start N vs) H):A4 P w K mg base C7 (k+1) f fd ps sp:=by
 obtain ⟨oc,od,kV,doc,pm,an,cdv,ct,osl,rfl,lk,Ma⟩:=F.ex
 refine cE lk Ma S len λA outer s H vs Q E hr YZ=> ?_
 obtain ⟨t,h,q⟩:=Pa cdv A outer s H vs Q E hr YZ
 exact ⟨t,h.nox,q⟩
theorem C8.binds {x qual:Str} {st:Stmt} {f:Addr} {fd:FuncData} {ps:List Str} (F:C8 K x qual st f fd)
 (h:∀(kV doc pm:Value) (an:Option Addr) (cdv ct:Value) (us:List Value),us.length=ps.length->bindArgs (PySem.W.fnOf x qual (E6 st) (Dp st) (AU st) .none kV doc pm an cdv ct) ⟨us, []⟩=pure (ps.zip us)):Binds K fd ps [] :=by
 obtain ⟨oc,od,kV,doc,pm,an,cdv,ct,osl,rfl,lk,Ma⟩:=F.ex
 exact .all (h kV doc pm an cdv ct)
theorem U5 {x qual:Str} {st:Stmt} {f:Addr} {oc:Value} {od an:Option Addr} {osl:Array (Option Value)} {kV doc pm cdv ct:Value} (l:K.lookup f=some ⟨oc,od, .func (PySem.W.fnOf x qual (E6 st) (Dp st) (AU st) .none kV doc pm an cdv ct),osl⟩)
 (c:PySem.W.codeIn K cdv qual=true) (k:PySem.W.keepIn K (.ref f)=true):C8 K x qual st f (PySem.W.fnOf x qual (E6 st) (Dp st) (AU st) .none kV doc pm an cdv ct):=⟨⟨oc,od,kV,doc,pm,an,cdv,ct,osl,rfl,l,c⟩,k⟩
end
section
variable {X:Cx}
theorem pv (i:Nat) {x:Str} {pos:Pos} (hN:X.N[i]? =some x:=by rfl) (hv:bg X.env.scope x:=by first | exact Or.inl rfl|exact Or.inr (Or.inl rfl)|exact Or.inr (Or.inr rfl)) (hd:(x==("__debug__" :Str))=false:=by decide)
 (Ma:(x==("__classdict__" :Str))=false:=by decide):PE X (.Name x pos) (ah i):=RJ hN hv hd Ma
end
theorem cW {c A B:Prop} [Decidable c] (h1:c->A) (h2:¬c->B):if c then A else B:=by
 by_cases h:c
 ·rw [if_pos h]
  exact h1 h
 ·rw [if_neg h]
  exact h2 h
def HK (H H':Hp):Prop:=∀b o,H b=some o->H' b=some o
theorem HK.refl (H:Hp):HK H H:=λ_ _ h=>h
theorem HK.trans {H H1 H2:Hp} (a:HK H H1) (b:HK H1 H2):HK H H2:=λc o h=>b c o (a c o h)
theorem HK.free {H H':Hp} (e:HK H H') {l:Addr} (h:H' l=Option.none):H l=Option.none:=by
 cases q:H l with
 | none=>rfl
 | some o=>
   rw [e l o q] at h
   cases h
theorem HK.seq {K:PySem.W.Frag} {H H':Hp} {a:Addr} {xs:List V} (e:HK H H') (h:Fc K H a xs):Fc K H' a xs:=by
 rcases h with (h|⟨o,h⟩)|h
 ·exact .inl (.inl (e _ _ h))
 ·exact .inl (.inr ⟨o,e _ _ h⟩)
 ·exact .inr h
end L2
section
namespace L2
open PySem PySem.Spec PyProof.Rows
theorem Nn {κ α:Type} [BEq κ] [LawfulBEq κ] {k:κ} {a:α}:∀{l:List (κ×α)},l.lookup k=some a->(k,a)∈l
 | [],h=>by simp at h
 | (n,b)::r,h=>by
   rw [List.lookup_cons] at h
   cases e:k==n with
   | true=>
     rw [e] at h
     have e':k=n:=by simpa using e
     have hb:b=a:=by simpa using h
     subst e' hb
     exact List.mem_cons_self
   | false=>
     rw [e] at h
     exact List.mem_cons_of_mem _ (Nn h)
theorem Md {κ α:Type} [BEq κ] [LawfulBEq κ] {k:κ} {a:α}:∀{l:List (κ×α)},(k,a)∈l->∃b,l.lookup k=some b
 | [],h=>nomatch h
 | (n,b)::r,h=>by
   rw [List.lookup_cons]
   cases e:k==n with
   | true=>exact ⟨b,rfl⟩
   | false=>
     rcases List.mem_cons.mp h with z|z
     ·have:k=n:=congrArg Prod.fst z
      rw [this] at e
      simp at e
     ·exact Md z
theorem Fp {env:Env} {F:Str×NameKind->List (Str×Addr)->Sem (ForInStep (List (Str×Addr)))}
 (h1:∀n r c,env.cells.lookup n=some c->F (n, .free) r=pure (.yield ((n,c)::r)))
 (h2:∀n k r,k≠NameKind.free->F (n,k) r=pure (.yield r)):
 ∀(names:List (Str×NameKind)) (acc:List (Str×Addr)),(∀x∈names,x.2= .free->∃c,env.cells.lookup x.1=some c)->
  ∃cl,(forIn names acc F:Sem _)=pure cl/\(∀p∈cl,p∈acc\/env.cells.lookup p.1=some p.2)/\(∀p∈acc,p∈cl)/\∀x∈names,x.2= .free->∃c,(x.1,c)∈cl
 | [],acc,_=>⟨acc,rfl,λp hp=> .inl hp,λp hp=>hp,λx hx=>nomatch hx⟩
 | (n,k)::r,acc,h=>by
   by_cases hk:k= .free
   ·subst hk
    obtain ⟨c,hc⟩:=h (n, .free) List.mem_cons_self rfl
    obtain ⟨cl,e,a,b,d⟩:=Fp h1 h2 r ((n,c)::acc) (λx hx=>h x (List.mem_cons_of_mem _ hx))
    refine ⟨cl, ?_,λp hp=> ?_,λp hp=>b p (List.mem_cons_of_mem _ hp),λx hx hf=> ?_⟩
    ·rw [List.forIn_cons,h1 n acc c hc]
     exact e
    ·rcases a p hp with z|z
     ·rcases List.mem_cons.mp z with z|z
      ·subst z
       exact .inr hc
      ·exact .inl z
     ·exact .inr z
    ·rcases List.mem_cons.mp hx with z|z
     ·subst z
      exact ⟨c,b _ List.mem_cons_self⟩
     ·exact d x z hf
   ·obtain ⟨cl,e,a,b,d⟩:=Fp h1 h2 r acc (λx hx=>h x (List.mem_cons_of_mem _ hx))
    refine ⟨cl, ?_,a,b,λx hx hf=> ?_⟩
    ·rw [List.forIn_cons,h2 n k acc hk]
     exact e
    ·rcases List.mem_cons.mp hx with z|z
     ·subst z
      exact absurd hf hk
     ·exact d x z hf
theorem LB {env:Env} {scope:Scope} (h:∀x∈scope.names,x.2= .free->∃c,env.cells.lookup x.1=some c):
 ∃cl,closureFor scope env=pure cl/\(∀y c,cl.lookup y=some c->env.cells.lookup y=some c)/\∀y,(y,NameKind.free)∈scope.names->∃c,cl.lookup y=some c:=by
 obtain ⟨cl,e,a,_,d⟩:=Fp (env:=env) (F:=λx cs=>match x with | (name,kind)=>if (kind==NameKind.free)=true then do let a <-cellOf env name;pure (ForInStep.yield ((name,a)::cs)) else pure (ForInStep.yield cs))
  (λn r c hc=>by
    show (do let a <-cellOf env n;pure (ForInStep.yield ((n,a)::r)):Sem _)=_
    unfold cellOf
    rw [hc]
    rfl)
  (λn k r hk=>by
    have:(k==NameKind.free)=false:=by simpa using hk
    simp [this]) scope.names [] h
 refine ⟨cl, ?_,λy c q=> ?_,λy hy=> ?_⟩
 ·unfold closureFor
  have e2:(forIn scope.names ([] :List (Str×Addr)) λx cs=>match x with | (name,kind)=>if (kind==NameKind.free)=true then do let a <-cellOf env name;pure (ForInStep.yield ((name,a)::cs)) else pure (ForInStep.yield cs):Sem _) >>= (λr=>pure r)=pure cl:=by
   rw [e];rfl
  exact e2
 ·rcases a _ (Nn q) with z|z
  ·exact nomatch z
  ·exact z
 ·obtain ⟨c,hc⟩:=d (y, .free) hy rfl
  exact Md hc
def NT (env:Env) (sc:Scope) (cl:List (Str×Addr)) (C:Addr):Env:=
 {scope:=sc,locals:=C,globals:=env.globals,cells:=cl,qual:=env.qual,func:=none,code:=env.code,frame:=env.frame,builtins:=env.builtins}
def blk (X:Cx) (sc:Scope) (N:List Str) (cl:List (Str×Addr)) (C:Addr) (s:Shared) (H:Hp) (ex:List Addr) (pn:List (Addr×Obj)):Cx where
 prog:=X.prog
 w:=X.w
 K:=X.K
 mg:=X.mg
 base:=X.base
 A:=X.A
 N:=N
 s₀:=s
 H₀:=H
 env:=NT X.env sc cl C
 outer:=X.stack
 stack:=X.stack
 ex:=ex
 fn:=λ_=>false
 calm:=X.calm
 pn:=pn
 xe:=λ_ _=>False
section
variable {X:Cx} {pins:List (Addr×Obj)} {σ:St} {H:Hp} {s:Shared} {fp:List Addr} {sc:Scope} {N:List Str} {cl:List (Str×Addr)}
theorem Inv.notStk (I:Inv X pins σ H s) {b:Addr} (h1:b≠X.env.locals) (h2:b ∉ X.fs):b ∉ US X.stack:=λz=>by
 rcases List.mem_cons.mp (I.stkSub b z) with e|e
 ·exact h1 e
 ·exact h2 e
theorem Inv.szLt (I:Inv X pins σ H s) {x:Str} {c:Addr} (e:X.env.cells.lookup x=some c):c<s.heap.objs.size:=by
 obtain ⟨v,q⟩:=I.cell x c e
 exact q.lt
theorem ZB (I:Inv X pins σ H s) (hf:∀b∈fp,Gu X pins H b) (Ft:∀b∈fp,b<s.heap.objs.size) (hk:sc.kind= .function)
 (h1:∀y c,cl.lookup y=some c->X.env.cells.lookup y=some c) (h2:∀y,(sc.names.lookup y=some .cell\/sc.names.lookup y=some .free)->∃c,cl.lookup y=some c):
 (blk X sc N cl s.heap.objs.size s H fp (X.pn++pins)).Ok where
 mod:=I.ok.mod
 kind:=hk
 glob:=I.ok.glob
 blt:=I.ok.blt
 above:=Nat.le_refl _
 inj:=λx y c a b=>I.ok.inj x y c (h1 x c a) (h1 y c b)
 has:=λx hx=>h2 x hx
 cab:=λx c z=>nomatch z
 hd:=I.ok.hd
 frames:=I.ok.frames
 stk:= .inl rfl
 exf:=λb hb=>⟨Nat.ne_of_lt (Ft b hb),λx c e=>(hf b hb).2.2.2.2.1 x c (h1 x c e)⟩
 bs:=I.bs
 bsz:=Nat.le_trans I.ok.bsz I.sz
 noex:=λb o e hb=>by
  rcases (hf b hb).2.2.2.1 with z|z
  ·exact I.ok.noex b o e z
  ·exact absurd (Nat.lt_of_lt_of_le (Heap.lt_size (I.ok.bs b o e).1) z) (Nat.lt_irrefl _)
 exfs:=λb hb=>I.notStk (hf b hb).2.1 (hf b hb).2.2.1
 funs:=I.stack
 frf:=I.stkFree
def D6 (own:Nat) (ix:List Nat) (σ:St):St:=List.replicate own none++ix.map λi=>(σ[i]?).getD none
theorem TN {own:Nat} {ix:List Nat} {σ:St}:(D6 own ix σ).length=own+ix.length:=by simp [D6]
theorem K7 {own:Nat} {ix:List Nat} {σ:St} {j:Nat} {v:V} (h:(D6 own ix σ)[j]? =some (some v)):own<=j/\∃i,ix[j-own]? =some i/\σ[i]? =some (some v):=by
 unfold D6 at h
 by_cases hj:j<own
 ·rw [List.getElem?_append_left (by simpa using hj),List.getElem?_replicate] at h
  simp [hj] at h
 ·have UT:own<=j:=by omega
  rw [List.getElem?_append_right (by simpa using UT),List.length_replicate,List.getElem?_map] at h
  refine ⟨UT, ?_⟩
  cases e:ix[j-own]? with
  | none=>rw [e] at h;simp at h
  | some i=>
    rw [e] at h
    refine ⟨i,rfl, ?_⟩
    have h':(σ[i]?).getD none=some v:=by simpa using h
    cases e2:σ[i]? with
    | none=>rw [e2] at h';simp at h'
    | some o=>
      rw [e2] at h'
      have:o=some v:=by simpa using h'
      rw [this]
structure O6 (X:Cx) (sc:Scope) (own:Nat) (ix:List Nat) (N:List Str):Prop where
 len:N.length=own+ix.length
 out:∀j i,ix[j]? =some i->∃x,N[own+j]? =some x/\X.N[i]? =some x/\X.env.scope.names.lookup x=some .cell/\sc.names.lookup x=some .cell
theorem ZA {own:Nat} {ix:List Nat} {h':Heap} {m:Str->Option Value} {t':Nat} (I:Inv X pins σ H s) (hf:∀b∈fp,Gu X pins H b) (Ft:∀b∈fp,b<s.heap.objs.size) (hk:sc.kind= .function)
 (h1:∀y c,cl.lookup y=some c->X.env.cells.lookup y=some c) (h2:∀y,(sc.names.lookup y=some .cell\/sc.names.lookup y=some .free)->∃c,cl.lookup y=some c) (F:O6 X sc own ix N)
 (hn:h'.Ns s.heap.objs.size m) (k:∀b o,s.heap.get? b=some o->h'.get? b=some o):
 Inv (blk X sc N cl s.heap.objs.size s H fp (X.pn++pins)) [] (D6 own ix σ) H {s with heap:=h',toks:=t'} where
 ok:=ZB I hf Ft hk h1 h2
 os:=rfl
 bare:=I.bare
 base:=Un.kept k
 loc:=by
  refine ⟨m,hn,λi x v e1 e2 e3=> ?_⟩
  obtain ⟨UT,io,ei,es⟩:=K7 e2
  obtain ⟨y,ny,ey,oy,sy⟩:=F.out _ _ ei
  have exy:x=y:=by
   have e1':N[i]? =some x:=e1
   rw [show own+(i-own)=i by omega,e1'] at ny
   exact Option.some.inj ny
  subst exy
  obtain ⟨m0,nZ,l5⟩:=I.loc
  obtain ⟨u,r,l⟩:=l5 io x v ey es (.inr (.inl oy))
  refine ⟨u,r, ?_⟩
  rcases l with ⟨z,_⟩|⟨_,c,ec,z⟩
  ·have z':X.env.scope.names.lookup x=some .local:=z
   rw [oy] at z'
   cases z'
  ·obtain ⟨c',ec'⟩:=h2 x (.inl sy)
   have:=h1 x c' ec'
   rw [ec] at this
   cases this
   obtain ⟨o,ho,hd⟩:=z
   exact .inr ⟨.inl sy,c,ec',o,k c o ho,hd⟩
 cell:=λx c e=>by
  obtain ⟨v,o,ho,hd⟩:=I.cell x c (h1 x c e)
  exact ⟨v,o,k c o ho,hd⟩
 free:=I.hok.fresh (Nat.le_refl _)
 freeC:=λx c e=>I.freeC x c (h1 x c e)
 pin:=λp hp=>by
  have Ng:p∈X.pn++pins:=by simpa [blk] using hp
  obtain ⟨a,b,c,d,e⟩:=I.pin p Ng
  exact ⟨k _ _ a,b,Nat.ne_of_lt (Heap.lt_size a),I.notStk c d,e⟩
 hok:=I.hok.kept k
 len:=by rw [TN];exact F.len.symm
theorem W7 {own:Nat} {ix:List Nat} {σ':St} {H':Hp} {s':Shared} {pins':List (Addr×Obj)} (I:Inv X pins σ H s) (hf:∀b∈fp,Gu X pins H b) (Ft:∀b∈fp,b<s.heap.objs.size)
 (B:Inv (blk X sc N cl s.heap.objs.size s H fp (X.pn++pins)) pins' σ' H' s'):Inv X pins σ H' s':=
 I.call' (ch:=fp) B.os B.base B.hok B.bare λb hb=>⟨(hf b hb).2.2.2.1,(hf b hb).2.1,(hf b hb).2.2.2.2.1,(hf b hb).2.2.2.2.2⟩
theorem Ur {H':Hp} {σ':St} {s':Shared} {C:Addr} {h':Heap} (I:Inv X pins σ H s) (hC:C=s.heap.objs.size) (I':Inv X pins σ' H' s') (hn:H' C=none) (hs:Heap.SameBut C s'.heap h'):Inv X pins σ' H' {s' with heap:=h'}:=by
 subst hC
 refine I'.turned (t':=s'.toks) (it:=s.heap.objs.size) (λb o hb e=>(hs.2 b hb).trans e) hn (Nat.ne_of_gt I.lt) (.inr I.sz) (λx c e=>Nat.ne_of_lt (I.szLt e)) λp hp=>Nat.ne_of_lt (Heap.lt_size (I.pin p hp).1)
end
def Wb (X:Cx) (ifs:List Expr) (t:TT):Prop:=
 ∀(pins:List (Addr×Obj)) (s:Shared) (σ:St) (H:Hp) (Q:Bool->Hp->Prop),Inv X pins σ H s->t σ H Q->
  wpAny (model X.prog X.w) X.A (forIn ifs true λc r=>if r=true then do let ok <-isTrue c X.env (eval c X.env);pure (ForInStep.yield ok) else pure (ForInStep.yield r)) (TP X pins σ Q) X.xe s
def iI:TT:=λ_ H Q=>Q true H
theorem X0 {X:Cx}:Wb X [] iI:=λ_ _ _ H _ I h=>wpAny_tests_nil ⟨H,I,h⟩
theorem X1 {X:Cx} {c:Expr} {t:TT} (hc:PT X c t):Wb X [c] t:=λpins s σ H Q I h=>wpAny_tests_one (hc pins s σ H Q I h)
def GN (own:Nat) (g:TG):Prop:=∀v σ H Q,g v σ H Q->g v σ H λσ2 H2=>Q σ2 H2/\σ2.length=σ.length/\∀j,own<=j->σ2[j]? =σ[j]?
def K2 (own:Nat) (g:Qb):Prop:=∀vs σ H Q,g vs σ H Q->g vs σ H λσ2 H2=>Q σ2 H2/\σ2.length=σ.length/\∀j,own<=j->σ2[j]? =σ[j]?
theorem XI {own i:Nat} (h:i<own):GN own (HW i):=λv σ H Q q=>⟨q,by simp,λj hj=>List.getElem?_set_ne (by omega)⟩
theorem XJ {own:Nat}:K2 own U6:=λvs σ H Q q=>⟨q.1,q.2,rfl,λ_ _=>rfl⟩
theorem U7 {own:Nat} {t:TG} {u:Qb} (h1:GN own t) (m1:∀v σ H Q Q',(∀σ2 H2,Q σ2 H2->Q' σ2 H2)->t v σ H Q->t v σ H Q') (h2:K2 own u) (m2:∀v σ H Q Q',(∀σ2 H2,Q σ2 H2->Q' σ2 H2)->u v σ H Q->u v σ H Q'):K2 own (PP t u):=by
 intro vs σ H Q q
 obtain ⟨v,r,e,q⟩:=q
 refine ⟨v,r,e,m1 _ _ _ _ _ (λσ2 H2 z=> ?_) (h1 _ _ _ _ q)⟩
 obtain ⟨z,l,kk⟩:=z
 refine m2 _ _ _ _ _ (λσ3 H3 z3=> ?_) (h2 _ _ _ _ z)
 obtain ⟨z3,l3,k3⟩:=z3
 exact ⟨z3,l3.trans l,λj hj=>(k3 j hj).trans (kk j hj)⟩
theorem XM {i:Nat}:∀v σ H Q Q',(∀σ2 H2,Q σ2 H2->Q' σ2 H2)->HW i v σ H Q->HW i v σ H Q':=λ_ _ _ _ _ m q=>m _ _ q
theorem XN:∀v σ H Q Q',(∀σ2 H2,Q σ2 H2->Q' σ2 H2)->U6 v σ H Q->U6 v σ H Q':=λ_ _ _ _ _ m q=>⟨q.1,m _ _ q.2⟩
theorem U8 {t:TG} {u:Qb} (m1:∀v σ H Q Q',(∀σ2 H2,Q σ2 H2->Q' σ2 H2)->t v σ H Q->t v σ H Q') (m2:∀v σ H Q Q',(∀σ2 H2,Q σ2 H2->Q' σ2 H2)->u v σ H Q->u v σ H Q'):
 ∀v σ H Q Q',(∀σ2 H2,Q σ2 H2->Q' σ2 H2)->PP t u v σ H Q->PP t u v σ H Q':=λ_ _ _ _ _ m ⟨v,r,e,q⟩=>⟨v,r,e,m1 _ _ _ _ _ (λ_ _ z=>m2 _ _ _ _ _ m z) q⟩
def Qg (J:It) (D:Addr) (σ0:St) (g:TG) (tt:TT) (te:TE) (Q:Hp->Prop) (W:Nat->Nat->Hp->Prop):Prop:=
 ∀i m H,W i m H->(J.stop i H/\Q H)\/(J.go i H/\∀x H',J.yld i H x H'->g x σ0 H' λσ2 H2=>tt σ2 H2 λok H3=>
  if ok=true then te σ2 H3 λy H4=>∃ys,H4 D=some (.lst ys)/\ys.length<sizeLine/\∃m',m'<m/\W (i+1) m' (upd H4 D (.lst (ys ++ [y]))) else ∃m',m'<m/\W (i+1) m' H3)
def WO (wi:TI) (own:Nat) (ix:List Nat) (g:TG) (tt:TT) (te:TE):TE:=λσ H Q=>wi σ H λJ H1=>∀D,H1 D=none->
 ∃W:Nat->Nat->Hp->Prop,(∃m,W 0 m (upd H1 D (.lst [])))/\Qg J D (D6 own ix σ) g tt te (Q (.ref D)) W
section
variable {X:Cx} {tg elt iter:Expr} {ifs:List Expr} {scope:Scope} {pos:Pos} {wi:TI} {own:Nat} {ix:List Nat} {N:List Str} {g:TG} {tt:TT} {te:TE}
structure IW (X:Cx) (tg elt:Expr) (ifs:List Expr) (scope:Scope) (own:Nat) (ix:List Nat) (N:List Str) (g:TG) (tt:TT) (te:TE):Prop where
 kind:scope.kind= .function
 nocell:∀y∈scope.names,y.2≠ .cell
 names:∀y∈scope.names,y.2= .local->scope.names.lookup y.1=some .local
 frees:∀y∈scope.names,y.2= .free->X.env.scope.names.lookup y.1=some .cell
 ins:O6 X (relabel scope X.env) own ix N
 keep:GN own g
 tgt:∀cl C s H ex pn,PG (blk X (relabel scope X.env) N cl C s H ex pn) tg g
 tst:∀cl C s H ex pn,Wb (blk X (relabel scope X.env) N cl C s H ex pn) ifs tt
 val:∀cl C s H ex pn,PE (blk X (relabel scope X.env) N cl C s H ex pn) elt te
theorem JK {env:Env} {y:Str} {k:NameKind} (XV:∀y∈scope.names,y.2≠ .cell) (h:(y,k)∈(relabel scope env).names) (hk:k= .cell\/k= .free):(y,NameKind.free)∈scope.names:=by
 obtain ⟨⟨n,k'⟩,hm,e⟩:=List.mem_map.mp (show (y,k)∈scope.names.map _ from h)
 dsimp only at e
 split at e
 ·rename_i hc
  cases e
  have:k'= .free:=by
   cases k' <;> simp_all
  subst this
  exact hm
 ·cases e
  rcases hk with z|z
  ·subst z
   exact absurd rfl (XV _ hm)
  ·subst z
   exact hm
theorem TW {pins:List (Addr×Obj)} {σ:St} {H:Hp} {s:Shared} {fp:List Addr} {cl:List (Str×Addr)} {it:Addr} {tn:Nat->Heap->Prop} {J:It} {D:Addr} {R:Result->Shared->Prop} {Qh:Hp->Prop} {W:Nat->Nat->Hp->Prop}
 (hc:X.calm=true) (O:IW X tg elt ifs scope own ix N g tt te) (T:Qc X.prog X.w X.K tg J fp it tn) (I:Inv X pins σ H s) (hf:∀b∈fp,Gu X pins H b) (Ft:∀b∈fp,b<s.heap.objs.size)
 (hW:Qg J D (D6 own ix σ) g tt te Qh W)
 (hR:∀σ' H' s',Inv (blk X (relabel scope X.env) N cl s.heap.objs.size s H fp (X.pn++pins)) [] σ' H' s'->Qh H'->R (.ok .next) s')
 (n:Nat) (s0:Shared) (h0:∃i H',Inv (blk X (relabel scope X.env) N cl s.heap.objs.size s H fp (X.pn++pins)) [] (D6 own ix σ) H' s0/\tn i s0.heap/\(∀b∈fp,H' b=none)/\W i n H'):
 codeAny (model X.prog X.w) X.A (.compLoop (.ListComp elt [⟨tg,iter,ifs,0⟩] scope pos) 0 (.ref it) (.ref D) (NT X.env (relabel scope X.env) cl s.heap.objs.size)) R s0:=by
 refine codeAny_loop rfl (λn s'=>∃i H',Inv (blk X (relabel scope X.env) N cl s.heap.objs.size s H fp (X.pn++pins)) [] (D6 own ix σ) H' s'/\tn i s'.heap/\(∀b∈fp,H' b=none)/\W i n H') (λn s1 h1=> ?_) n h0
 obtain ⟨i,H1,B1,st1,fr1,w1⟩:=h1
 generalize hY:blk X (relabel scope X.env) N cl s.heap.objs.size s H fp (X.pn++pins)=Y at *
 have eA:Y.A=X.A:=by rw [<-hY];rfl
 have eP:Y.prog=X.prog:=by rw [<-hY];rfl
 have eW:Y.w=X.w:=by rw [<-hY];rfl
 have eK:Y.K=X.K:=by rw [<-hY];rfl
 have eE:NT X.env (relabel scope X.env) cl s.heap.objs.size=Y.env:=by rw [<-hY];rfl
 have eX:Y.xe=λ_ _=>False:=by rw [<-hY];rfl
 have eC:Y.calm=true:=by rw [<-hY];exact hc
 have hg:PG Y tg g:=by rw [<-hY];exact O.tgt _ _ _ _ _ _
 have ht:Wb Y ifs tt:=by rw [<-hY];exact O.tst _ _ _ _ _ _
 have hv:PE Y elt te:=by rw [<-hY];exact O.val _ _ _ _ _ _
 have stat:∀{H':Hp},(∀b∈fp,H' b=none)->∀b∈fp,Gu Y [] H' b:=λ{H'} hn b hb=>by
  obtain ⟨_,a1,a2,a3,a4,a5⟩:=hf b hb
  refine ⟨hn b hb, ?_, ?_, ?_, ?_, ?_⟩
  ·rw [<-hY];exact Nat.ne_of_lt (Ft b hb)
  ·rw [<-hY];exact I.notStk a1 a2
  ·rw [<-hY];exact .inl hb
  ·intro x c e
   exact (B1.ok.exf b (by rw [<-hY];exact hb)).2 x c e
  ·intro p hp
   have:p∈X.pn++pins:=by rw [<-hY] at hp;simpa [blk] using hp
   exact a5 p this
 rw [eE,<-eA,<-eP,<-eW]
 show wpAny _ _ ((compTurn (.ListComp elt [⟨tg,iter,ifs,0⟩] scope pos) 0 (.ref it) (.ref D) Y.env).onRaise (λx=>do noteFrame x Y.env;theTreesLotGoes x)) _ _ s1
 refine wpAny_noted ?_
 rw [compTurn_list]
 have ff:∀{α:Type} {t:Sem α} {Q:α->Shared->Prop} {E:Value->Shared->Prop} {s:Shared},wpAny (model Y.prog Y.w) Y.A t Q Y.xe s->wpAny (model Y.prog Y.w) Y.A t Q E s:=λh=>wpAny_mono h (λ_ _ q=>q) λ_ _ z=>by rw [eX] at z;exact z.elim
 refine wpAny_bind (wpAny_standAt (wpAny_bind ?_))
 rcases hW i n H1 w1 with ⟨stop,qn⟩|⟨go,step⟩
 ·have zd:=λE=>T.done Y eP eW eK eC i [] s1 _ H1 E B1 (stat fr1) st1 stop
  rw [<-eP,<-eW] at zd
  refine Cd (zd _) λr s4 ⟨hr,I4⟩=> ?_
  subst hr
  exact wpAny_pure (hR _ _ _ I4 qn)
 ·have zi:=λE=>T.item Y eP eW eK eC i [] s1 _ H1 E B1 (stat fr1) st1 go
  rw [<-eP,<-eW] at zi
  refine Cd (zi _) λr s4 ⟨u,hr,h4⟩=> ?_
  subst hr
  refine wpAny_bind (Cd h4 λ_ s5 ⟨x,H5,I5,r5,y5,st5,fr5⟩=> ?_)
  have I5':=I5.pinned (stat fr5) (T.obj _ _ st5)
  refine wpAny_bind (Cd (ff (hg _ s5 _ H5 x u _ I5' r5 (O.keep _ _ _ _ (step x H5 y5)))) λ_ s6 ⟨σ6,H6,I6,q6,l6,k6⟩=> ?_)
  refine wpAny_bind (Cd (ff (ht _ s6 σ6 H6 _ I6 q6)) λok s7 ⟨H7,I7,q7⟩=> ?_)
  have back:∀{H8:Hp} {s8:Shared} {m':Nat},Inv Y ([] ++ LU fp s5.heap) σ6 H8 s8->m'<n->W (i+1) m' H8->
   ∃m,m<n/\∃i H',Inv Y [] (D6 own ix σ) H' s8/\tn i s8.heap/\(∀b∈fp,H' b=none)/\W i m H':=λ{H8 s8 m'} I8 hm w8=>by
   refine ⟨m',hm,i+1,H8,I8.unpinned.weak l6.symm (λj v hj=> ?_),T.keep _ _ _ st5 λb hb o e=>(I8.pin (b,o) (List.mem_append_right _ (List.mem_append_right _ (FA hb e)))).1,λb hb=> ?_,w8⟩
   ·rw [k6 j (K7 hj).1]
    exact hj
   ·obtain ⟨o,e,d⟩:=T.obj _ _ st5 b hb
    exact (I8.pin (b,o) (List.mem_append_right _ (List.mem_append_right _ (FA hb e)))).2.1
  cases ok with
  | false=>
    obtain ⟨m',hm,w8⟩:=q7
    exact wpAny_pure ⟨rfl,back I7 hm w8⟩
  | true=>
    refine wpAny_bind (wpAny_bind (Cd (ff (hv _ s7 σ6 H7 _ I7 q7)) λyv s8 ⟨y,H8,I8,r8,ys,hD,hz,m',hm,w8⟩=> ?_))
    refine wpAny_bind (Cd (ff (Mf _ s8 σ6 H8 (.ref D) [y] (.ref D) [yv] (λ_ H9=>H9=upd H8 D (.lst (ys ++ [y]))) I8 rfl (.cons r8 .nil) ⟨D,ys,y,rfl,rfl,hD,hz,rfl⟩)) λ_ s9 ⟨_,H9,I9,_,e9⟩=> ?_)
    subst e9
    exact wpAny_pure (wpAny_pure ⟨rfl,back I9 hm w8⟩)
theorem PH {pins:List (Addr×Obj)} {σ:St} {H:Hp} {s:Shared} {use:Option (Value->Sem Unit)} {Q:Value->Shared->Prop} {it:Addr} {fp:List Addr} {cl:List (Str×Addr)} {tn:Nat->Heap->Prop} {J:It} {Qd:Addr->Hp->Prop}
 (hc:X.calm=true) (O:IW X tg elt ifs scope own ix N g tt te) (T:Qc X.prog X.w X.K tg J fp it tn) (I:Inv X pins σ H s) (hf:∀b∈fp,Gu X pins H b) (st:tn 0 s.heap)
 (h1:∀y c,cl.lookup y=some c->X.env.cells.lookup y=some c) (h2:∀y,(y,NameKind.free)∈scope.names->∃c,cl.lookup y=some c)
 (hq:∀D,H D=none->∃W:Nat->Nat->Hp->Prop,(∃m,W 0 m (upd H D (.lst [])))/\Qg J D (D6 own ix σ) g tt te (Qd D) W)
 (hR:∀D C H' s',(∃m,s'.heap.Ns C m)->Inv X pins σ H' s'->(∀σ2 s2,Inv X pins σ2 H' s2->∀h',Heap.SameBut C s2.heap h'->Inv X pins σ2 H' {s2 with heap:=h'})->C≠X.env.locals->(∀x c,X.env.cells.lookup x=some c->C≠c)->Qd D H'->
   compPost (model X.prog X.w) X.A X.xe use Q (.ref D) C (.ok .next) s'):
 wpAny (model X.prog X.w) X.A (newList []) (λacc s₃=>wpAny (model X.prog X.w) X.A (newFunctionEnv scope X.env.globals cl [] X.env.qual none .none (some X.env)) (λcenv s₄=>
  codeAny (model X.prog X.w) X.A (.compStart (.ListComp elt [⟨tg,iter,ifs,0⟩] scope pos) 0 (.ref it) acc {cenv with scope:=relabel scope X.env}) (compPost (model X.prog X.w) X.A X.xe use Q acc cenv.locals) s₄) X.xe s₃) X.xe s:=by
 refine wpAny_newObj_type ?_ (by simp [sizeOk])
 have I3:Inv X pins σ (upd H s.heap.objs.size (.lst [])) {s with heap:=s.heap.push {cls:= .type "list",data:= .seq ([] :List Value).toArray}}:=I.lnew (t':=s.toks) .nil (Nat.zero_le _)
 have XU:=I.fresh
 obtain ⟨W,⟨m0,w0⟩,hW⟩:=hq _ XU
 have gX:∀b∈fp,b<s.heap.objs.size:=λb hb=>by
  obtain ⟨o,e,_⟩:=T.obj _ _ st b hb
  exact Heap.lt_size e
 have e7:∀b∈fp,Gu X pins (upd H s.heap.objs.size (.lst [])) b:=λb hb=>by
  obtain ⟨a0,ar⟩:=hf b hb
  exact ⟨by rw [Al (Nat.ne_of_lt (gX b hb))];exact a0,ar⟩
 generalize mK:({s with heap:=s.heap.push {cls:= .type "list",data:= .seq ([] :List Value).toArray}}:Shared)=s3 at I3
 have st3:tn 0 s3.heap:=T.keep _ _ _ st λb hb o e=>by rw [<-mK];exact Heap.get?_push_of_some _ e
 have Ft:∀b∈fp,b<s3.heap.objs.size:=λb hb=>by
  obtain ⟨o,e,_⟩:=T.obj _ _ st3 b hb
  exact Heap.lt_size e
 refine wpAny_newFunctionEnv O.nocell (by intro y hy;simp at hy) (λh₁ e8 mL=> ?_) O.kind
 have kp:∀b o,s3.heap.get? b=some o->h₁.get? b=some o:=λb o e=>mL.extBut b o (Nat.ne_of_lt (Heap.lt_size e)) (Heap.get?_push_of_some _ e)
 have lu:∀y,((relabel scope X.env).names.lookup y=some .cell\/(relabel scope X.env).names.lookup y=some .free)->∃c,cl.lookup y=some c:=λy hy=>by
  rcases hy with z|z
  ·exact h2 y (JK O.nocell (Nn z) (.inl rfl))
  ·exact h2 y (JK O.nocell (Nn z) (.inr rfl))
 have B:=ZA (N:=N) (t':=s3.toks+([] :List (Str×Value)).length) I3 e7 Ft (sc:=relabel scope X.env) O.kind h1 lu O.ins e8 kp
 have st4:tn 0 h₁:=T.keep _ _ _ st3 λb hb o e=>kp b o e
 have loop:∀s4:Shared,s4={s3 with heap:=h₁,toks:=s3.toks+([] :List (Str×Value)).length}->
  codeAny (model X.prog X.w) X.A (.compLoop (.ListComp elt [⟨tg,iter,ifs,0⟩] scope pos) 0 (.ref it) (.ref s.heap.objs.size) (NT X.env (relabel scope X.env) cl s3.heap.objs.size)) (compPost (model X.prog X.w) X.A X.xe use Q (.ref s.heap.objs.size) s3.heap.objs.size) s4:=by
  rintro s4 rfl
  refine TW (cl:=cl) (Qh:=Qd s.heap.objs.size) hc O T I3 e7 Ft hW (λσ' H' s' B' q'=> ?_) m0 _ ⟨0,_,B,st4,λb hb=>(e7 b hb).1,w0⟩
  refine hR _ _ H' s' (let ⟨m,hm,_⟩:=B'.loc;⟨m,hm⟩) (W7 (own:=own) (ix:=ix) I3 e7 Ft B') (λσ2 s2 I2 h' hs=>Ur I3 rfl I2 B'.free hs) (Nat.ne_of_gt I3.lt) (λx c e=>Nat.ne_of_gt (I3.szLt e)) q'
 exact codeAny_compStart_list (loop _ rfl) (T.self _ 0 _ _ _ st4 (loop _ rfl))
theorem Xv (hc:X.calm=true) (hi:PI X tg iter wi) (O:IW X tg elt ifs scope own ix N g tt te) (hs:∀x,foldedSetIterable iter X.env x=pure x:=by intro _;rfl):
 PE X (.ListComp elt [⟨tg,iter,ifs,0⟩] scope pos) (WO wi own ix g tt te):=by
 intro pins s σ H Q I h
 obtain ⟨cl,VL,h1,h2⟩:=LB (env:=X.env) (scope:=scope) λy hy e=>I.ok.has y.1 (.inl (O.frees y hy e))
 rw [eval_ListComp]
 refine wpAny_comprehension_free (use:=none) rfl hs VL O.kind O.names (Cd (hi pins s σ H _ I h) λv s1 hv=>Cd hv λitv s2 gh=> ?_)
 obtain ⟨it,fp,tn,J,H2,rfl,I2,T,st2,f2,q⟩:=gh
 exact PH (Qd:=λD H'=>Q (.ref D) H') hc O T I2 f2 st2 h1 h2 q λD C H' s' hn I' gone nl nc q'=>by
  obtain ⟨m,hm⟩:=hn
  exact ⟨m,hm,λh' hs=>⟨.ref D,H',gone σ s' I' h' hs,rfl,q'⟩⟩
theorem X5 {i:Nat} {x:Str} {pos' spos:Pos} (hc:X.calm=true) (hN:X.N.Nodup) (bE:X.N[i]? =some x) (hx:Loc X.env.scope x) (hi:PI X tg iter wi) (O:IW X tg elt ifs scope own ix N g tt te)
 (cP:swapsWith (.ListComp elt [⟨tg,iter,ifs,0⟩] scope pos) (some (.Name x pos')) spos.line X.env=pure true:=by rfl) (hs:∀x,foldedSetIterable iter X.env x=pure x:=by intro _;rfl)
 (hf:X.fn x=true\/X.env.scope.names.lookup x=some .local:=by first | exact .inl rfl|exact .inr rfl|assumption):
 PS X (.Assign [.Name x pos'] (.ListComp elt [⟨tg,iter,ifs,0⟩] scope pos) spos) (WN (WO wi own ix g tt te) (HW i)):=by
 intro pins s σ H D I h
 obtain ⟨cl,VL,h1,h2⟩:=LB (env:=X.env) (scope:=scope) λy hy e=>I.ok.has y.1 (.inl (O.frees y hy e))
 rw [exec_Assign_Name_used _ _ _ _ cP]
 refine wpAny_bind (wpAny_standAt (wpAny_bind ?_))
 show wpAny _ _ (do let _ <-comprehension (.ListComp elt [⟨tg,iter,ifs,0⟩] scope pos) scope X.env _ (newList []) false (eval iter X.env) (some (assign (.Name x pos') X.env))) _ _ s
 refine wpAny_bind (Cd (wpAny_comprehension_free (use:=some (assign (.Name x pos') X.env)) (Q:=λ_ s'=>SP X pins D .next s') rfl hs VL O.kind O.names (Cd (hi pins s σ H _ I h) λv s1 hv=>Cd hv λitv s2 gh=> ?_)) λ_ s' hq=>wpAny_pure (wpAny_pure hq))
 obtain ⟨it,fp,tn,J,H2,rfl,I2,T,st2,f2,q⟩:=gh
 refine PH (Qd:=λD' H'=>HW i (.ref D') σ H' D.nx) hc O T I2 f2 st2 h1 h2 q λD' C H' s' hn I' gone nl nc q'=> ?_
 obtain ⟨m,hm⟩:=hn
 show wpAny _ _ (assign (.Name x pos') X.env (.ref D')) _ _ s'
 refine wpAny_assign_Name (M7 (v:= .ref D') I' hN bE hx rfl (λs4 I4 ⟨a,sb,ha⟩=> ?_) hf)
 have lV:C≠a:=by
  rcases ha with z|z
  ·rw [z];exact nl
  ·exact nc x a z
 exact ⟨m,hm.sameBut sb lV,λh' hs=>⟨_,H',gone _ s4 I4 h' hs,q'⟩⟩
end
end L2
end
section
namespace L2
open PySem PySem.Spec PyProof.Rows
theorem Ha {n k:Nat} (h:n<2^k) (hk:0<k):n.log2<k:=by
 by_cases e:n=0
 ·subst e
  simpa using hk
 ·exact (Nat.log2_lt e).mpr h
theorem Jv {i:Int} {k:Nat} (h:i.natAbs<2^k):Builtin.Int.intBits i<=k:=by
 unfold Builtin.Int.intBits
 by_cases e:i=0
 ·subst e;simp
 ·have e2:(i==0)=false:=by simpa using e
  rw [e2]
  simp only [Bool.false_eq_true,if_false]
  have e3:i.natAbs≠0:=by omega
  have:=(Nat.log2_lt e3).mpr h
  omega
section
variable {X:Cx}
def fS (i j:Int):Prop:=i.natAbs<2^8000/\j.natAbs<2^8000
def bO (i j:Int):Prop:=HD i j\/fS i j
theorem F5:Dc X (binaryOp .Mult) (rI bO λi j=> .int (i*j)):=Zw λ_ _ _ _ _ _ _ hc q=>mul_int q (by
 rcases hc with z|z
 ·exact z.ok
 ·exact .of_le (Jv z.1) (Jv z.2) (by decide))
def bN (_ j:Int):Prop:=0<j/\j.natAbs<2^8000
theorem Vq:Dc X (binaryOp .FloorDiv) (rI bN λi j=> .int (i/j)):=Zw λi j _ _ _ _ _ hc q=>by
 have h1:(0:Int)<j:=hc.1
 refine floordiv_int (by omega) ?_ (.inl (PyProof.noPylong_of_log2 (Nat.lt_trans (Ha hc.2 (by decide)) (by decide))))
 rw [Int.fdiv_eq_ediv_of_nonneg _ (Int.le_of_lt h1)]
 exact q
inductive Kd where
 | int|bl|non|str|lst|tup
 deriving DecidableEq
def To:Kd->String->Bool
 | .int,T=>T == "int"
 | .bl,T=>T == "bool" || T == "int"
 | .non,_=>false
 | .str,_=>false
 | .lst,T=>T == "list"
 | .tup,T=>T == "tuple"
theorem Inv.walked {pins:List (Addr×Obj)} {σ:St} {H:Hp} {s s':Shared} {o:Obj} (I:Inv X pins σ H s) (m:Moved [s.heap.objs.size] (λa b=>b=a) {s with heap:=s.heap.push o} s'):Inv X pins σ H s':=by
 obtain ⟨h',g',d',t',o'⟩:=s'
 obtain ⟨hk,hg,hd,ho,_⟩:=m
 have gS:∀b u,s.heap.get? b=some u->h'.get? b=some u:=λb u e=>hk b u (by
  intro z
  have z':b=s.heap.objs.size:=by simpa using z
  exact absurd (Heap.lt_size e) (by rw [z'];exact Nat.lt_irrefl _)) (Heap.get?_push_of_some _ e)
 have hg:g'=s.gens:=hg
 have hd:d'=s.drawn:=hd
 have ho:o'=s.os:=ho
 subst hg hd ho
 exact I.kept (t':=t') gS
def XZ (xs:List V) (k:Nat) (y:V):List V:=xs.take k++y::xs.drop k
theorem Aq.ins {xs:List V} {us:List Value} {y:V} {u:Value} (r:Aq xs us) (ry:RelV y u) (k:Nat):Aq (XZ xs k y) (us.take k++u::us.drop k):=Aq.append (r.take k) (.cons ry (r.drop k))
def N7:V->List V->Hp->VK->Prop:=λx vs H Q=>∃l xs i y,x= .ref l/\vs= [.int i,y] /\H l=some (.lst xs)/\0<=i/\i<=(xs.length:Int)/\xs.length<sizeLine/\Q .non (upd H l (.lst (XZ xs i.toNat y)))
theorem Tu:bT X "list.insert" N7:=by
 intro pins s σ H x vs v us Q I rx rv h
 obtain ⟨l,xs,i,y,rfl,rfl,hH,h0,h1,hz,q⟩:=h
 cases rx
 cases rv with
 | cons ri rr=>
 cases rr with
 | cons ry rr=>
 cases rr
 rename_i uy
 obtain ⟨t,rfl⟩:=ri
 obtain ⟨z,its,n,r,hl,e⟩:=I.lstM hH
 have R8:=Ie
 have gO:¬(!Builtin.List.listFitsIndex i)=true:=by
  have:=fitsIndex_both (k:=i) (by omega) (by omega)
  simp [this]
 refine call_meets F.slot_list_insert ⟨_,e,rfl⟩ F.entry_list_insert (F.args_list_insert_3 _ _ _) (AutoSeq1.list_insert_list_int_val_1 l its.toArray n i t uy gO (by rw [List.size_toArray];omega)) ⟨e, ?_⟩
 refine ⟨.non,_,I.lset (ys:=XZ xs i.toNat y) (its':=its.take i.toNat++uy::its.drop i.toNat) hH e ?_ (r.ins ry _) ?_,rfl,q⟩
 ·dsimp only
  rw [if_neg (by omega),List.size_toArray,Nat.min_eq_left (by omega)]
  apply Array.toList_inj.mp
  simp
  exact List.take_of_length_le (by simp)
 ·unfold XZ
  simp
  omega
end
end L2
end
section
namespace L2
open PySem PySem.Spec PyProof.Rows
def NO:Bool->Heap->Addr->Addr->Nat->Prop
 | true,h,q,l,k=>h.IsListIter q l k
 | false,h,q,l,k=>h.IsTupleIter q l k
def O7:Bool->Heap->Addr->Array Value->Prop
 | true,h,l,xs=>h.IsList l xs
 | false,h,l,xs=>h.IsTuple l xs
theorem NO.mv {b:Bool} {h h':Heap} {q l:Addr} {k:Nat} (x:NO b h q l k) (e:∀o,h.get? q=some o->h'.get? q=some o):NO b h' q l k:=by
 cases b with
 | true=>obtain ⟨o,a,r⟩:=x;exact ⟨o,e o a,r⟩
 | false=>obtain ⟨o,a,r⟩:=x;exact ⟨o,e o a,r⟩
theorem NO.obj {b:Bool} {h:Heap} {q l:Addr} {k:Nat} (x:NO b h q l k):∃o,h.get? q=some o/\∀v,o.data≠ .cell v:=by
 cases b with
 | true=>
   obtain ⟨o,a,_,d⟩:=x
   exact ⟨o,a,λv z=>by rw [d] at z;cases z⟩
 | false=>
   obtain ⟨o,a,_,d⟩:=x
   exact ⟨o,a,λv z=>by rw [d] at z;cases z⟩
theorem O7.mv {b:Bool} {h h':Heap} {l:Addr} {xs:Array Value} (x:O7 b h l xs) (e:∀o,h.get? l=some o->h'.get? l=some o):O7 b h' l xs:=by
 cases b with
 | true=>obtain ⟨o,a,r⟩:=x;exact ⟨o,e o a,r⟩
 | false=>obtain ⟨o,a,r⟩:=x;exact ⟨o,e o a,r⟩
section
variable {prog:Program} {w:World} {A:Around} {E:Value->Shared->Prop} {s:Shared}
theorem LC {b:Bool} {q l:Addr} {k:Nat} {xs:Array Value} {x:Value} {Q:Value->Shared->Prop} (hq:NO b s.heap q l k) (hl:O7 b s.heap l xs) (hx:xs[k]? =some x)
 (hQ:∀h',NO b h' q l (k+1)->Heap.SameBut q s.heap h'->Q x {s with heap:=h'}):wpAny (model prog w) A (Builtin.SmallTypes.nextOf (.ref q)) Q E s:=by
 cases b with
 | true=>exact wpAny_nextOf_list_item hq hl hx hQ
 | false=>
   have ZZ:s.heap.IsTupleIter q l k:=hq
   obtain ⟨oq,gq,cq,dq⟩:=id ZZ
   obtain ⟨ol,gl,_,nl,dl⟩:=hl
   unfold Builtin.SmallTypes.nextOf
   refine wpAny_bind (wpAny_callSpecial?_slot (name:=Str.ofString "__next__") ZZ.typeIs F.slot_tuple_iterator_next (wpAny_call_entry F.slot_tuple_iterator_next ZZ.typeIs F.entry_tuple_iterator_next ?_ (F.args_tuple_iterator_next_1 _)))
   show wpAny _ _ (field (.ref q) 0 >>= _) _ _ _
   refine wpAny_bind (wpAny_field gq dq (x:= .ref l) rfl ?_)
   show wpAny _ _ (if (Value.ref l==Value.none)=true then _ else _) _ _ _
   rw [if_neg (by intro z;cases z)]
   show wpAny _ _ (field (.ref q) 1 >>= _) _ _ _
   refine wpAny_bind (wpAny_field gq dq (x:= .int k 0) rfl ?_)
   show wpAny _ _ (seqItems? (.ref l) >>= _) _ _ _
   refine wpAny_bind (wpAny_seqItems gl dl ?_)
   simp only [Int.toNat_natCast,hx]
   refine wpAny_bind (wpAny_setField gq dq (by simp) (wpAny_pure ⟨x,rfl,wpAny_pure (hQ _ ?_ (Heap.SameBut.update ..))⟩))
   refine ⟨_,Heap.get?_update_self _ gq (Obj.isFreed_of_fields (Obj.data_mapFields dq _)),(Obj.cls_mapFields ..).trans cq, ?_⟩
   rw [Obj.data_mapFields dq]
   simp [rawInt]
theorem MX {b:Bool} {q l:Addr} {k:Nat} {xs:Array Value} {Q:Value->Shared->Prop} (hh:A.handled=none) (hq:NO b s.heap q l k) (hl:O7 b s.heap l xs) (hx:xs[k]? =none)
 (hE:∀h' e,Heap.ExtBut q s.heap h'->(∃o,h'.get? e=some o/\o.cls= .type "StopIteration")->E (.ref e) {s with heap:=h'}):wpAny (model prog w) A (Builtin.SmallTypes.nextOf (.ref q)) Q E s:=by
 cases b with
 | true=>exact wpAny_nextOf_list_end hh hq hl hx hE
 | false=>
   have ZZ:s.heap.IsTupleIter q l k:=hq
   obtain ⟨oq,gq,cq,dq⟩:=id ZZ
   obtain ⟨ol,gl,_,nl,dl⟩:=hl
   unfold Builtin.SmallTypes.nextOf
   refine wpAny_bind (wpAny_callSpecial?_slot (name:=Str.ofString "__next__") ZZ.typeIs F.slot_tuple_iterator_next (wpAny_call_entry F.slot_tuple_iterator_next ZZ.typeIs F.entry_tuple_iterator_next ?_ (F.args_tuple_iterator_next_1 _)))
   show wpAny _ _ (field (.ref q) 0 >>= _) _ _ _
   refine wpAny_bind (wpAny_field gq dq (x:= .ref l) rfl ?_)
   show wpAny _ _ (if (Value.ref l==Value.none)=true then _ else _) _ _ _
   rw [if_neg (by intro z;cases z)]
   show wpAny _ _ (field (.ref q) 1 >>= _) _ _ _
   refine wpAny_bind (wpAny_field gq dq (x:= .int k 0) rfl ?_)
   show wpAny _ _ (seqItems? (.ref l) >>= _) _ _ _
   refine wpAny_bind (wpAny_seqItems gl dl ?_)
   simp only [Int.toNat_natCast,hx]
   refine wpAny_bind (wpAny_rule (wpAny_bind (wpAny_setField gq dq (by simp) ?_)))
   refine wpAny_bind (m:=newExc (.type "StopIteration") []) ?_
   simp only [newExc,newTuple]
   refine wpAny_bind (wpAny_newObj_type ?_ (by size_fits))
   refine wpAny_bind (m:=firstArgMember _ _) (wpAny_of_eq (a:=Value.none) (by first | rfl|(simp only [firstArgMember];rfl)) (wpAny_newObj_type ?_ (by size_fits)))
   simp only [raiseNew]
   refine wpAny_bind (wpAny_handled ?_)
   first | rw [show A.in1.handled=none from hh] | rw [hh]
   exact wpAny_bind (wpAny_pure (wpAny_throw (hE _ _ (((Heap.SameBut.update ..).extBut.push _).push _) ⟨_,Heap.get?_push_size _ rfl,rfl⟩)))
structure Y4 (b c:Bool) (z TI TO i j l m:Addr) (k:Nat) (f:Value) (h:Heap):Prop where
 zip:IsZip h z TI TO f
 its:IsPair h TI (.ref i) (.ref j)
 own:∃x y,IsPair h TO x y
 one:NO b h i l k
 two:NO c h j m k
theorem Y4.mv {b c:Bool} {z TI TO i j l m:Addr} {k:Nat} {f:Value} {h h':Heap} (Z:Y4 b c z TI TO i j l m k f h) (e:∀p∈ [z,TI,TO,i,j],∀o,h.get? p=some o->h'.get? p=some o):Y4 b c z TI TO i j l m k f h':=by
 obtain ⟨a1,a2,⟨x,y,a3⟩,a4,a5⟩:=Z
 exact ⟨e z (by simp) _ a1,e TI (by simp) _ a2,⟨x,y,e TO (by simp) _ a3⟩,a4.mv (e i (by simp)),a5.mv (e j (by simp))⟩
variable {b c:Bool} {z TI TO i j l m:Addr} {k:Nat} {xs ys:Array Value}
theorem eG {x y:Value} {Q:Value->Shared->Prop} (D:ZipApart z TI TO i j l m) (Z:Y4 b c z TI TO i j l m k .none s.heap) (hl:O7 b s.heap l xs) (hm:O7 c s.heap m ys) (hx:xs[k]? =some x) (hy:ys[k]? =some y)
 (hQ:∀h',IsZip h' z TI TO (rawInt s.heap.objs.size)->IsPair h' TI (.ref i) (.ref j)->IsPair h' TO x y->NO b h' i l (k+1)->NO c h' j m (k+1)->IsPair h' s.heap.objs.size x y->
   (∀p o,p≠z->p≠TO->p≠i->p≠j->s.heap.get? p=some o->h'.get? p=some o)->Q (.ref s.heap.objs.size) {s with heap:=h'}):
 wpAny (model prog w) A (Builtin.«zip.__next__» ⟨[.ref z], []⟩) (λfin s'=>∃v,fin= .done (.ret v)/\Q v s') E s:=by
 obtain ⟨zz,zi,⟨x0,y0,zo⟩,z1,z2⟩:=Z
 show wpAny _ _ (field (.ref z) 2 >>= _) _ _ _
 refine wpAny_bind (wpAny_field zz rfl (x:= .bool false) rfl ?_)
 show wpAny _ _ (field (.ref z) 3 >>= _) _ _ _
 refine wpAny_bind (wpAny_field zz rfl (x:= .ref TI) rfl (wpAny_bind (wpAny_seqItems zi rfl ?_)))
 refine wpAny_bind (m:=Builtin.SmallTypes.ownedTupleIsFree (.ref z)) ?_
 unfold Builtin.SmallTypes.ownedTupleIsFree
 refine wpAny_bind (wpAny_field zz rfl (x:= .none) rfl (wpAny_pure ?_))
 simp only [if_true]
 refine wpAny_bind (wpAny_rule (wpAny_bind (wpAny_field zz rfl (x:= .ref TO) rfl (wpAny_bind (wpAny_setField_rec zz (by simp) λg1 e1 b1=> ?_)))))
 have e1:IsZip g1 z TI TO .ellipsis:=e1
 refine wpAny_bind ?_
 simp only [List.zipIdx_cons,List.zipIdx_nil,List.forIn_cons,List.forIn_nil]
 refine wpAny_bind (wpAny_bind (wpAny_onRaise ?_))
 refine wpAny_bind (m:=Builtin.SmallTypes.nextOf (.ref i)) (LC (z1.mv λo=>b1.extBut _ o D.i1z) (hl.mv λo=>b1.extBut _ o D.l1z) hx λg2 e2 b2=>wpAny_pure ?_)
 have o2:IsPair g2 TO x0 y0:=b2.extBut _ _ D.TOi1 (b1.extBut _ _ D.TOz zo)
 refine wpAny_bind (wpAny_seqItems o2 rfl (wpAny_bind (wpAny_updateSeq_pair o2 λg3 o3 b3=>wpAny_bind (wpAny_letGo (wpAny_pure ?_)))))
 have o3:IsPair g3 TO x y0:=o3
 refine wpAny_bind (wpAny_bind (wpAny_onRaise ?_))
 refine wpAny_bind (m:=Builtin.SmallTypes.nextOf (.ref j)) (LC (((z2.mv λo=>b1.extBut _ o D.i2z).mv λo=>b2.extBut _ o D.i12.symm).mv λo=>b3.extBut _ o D.TOi2.symm)
  (((hm.mv λo=>b1.extBut _ o D.l2z).mv λo=>b2.extBut _ o D.l2i1).mv λo=>b3.extBut _ o D.l2TO) hy λg4 e4 b4=>wpAny_pure ?_)
 have o4:IsPair g4 TO x y0:=b4.extBut _ _ D.TOi2 o3
 refine wpAny_bind (wpAny_seqItems o4 rfl (wpAny_bind (wpAny_updateSeq_pair o4 λg5 o5 b5=>wpAny_bind (wpAny_letGo (wpAny_pure (wpAny_pure ?_))))))
 have o5:IsPair g5 TO x y:=o5
 refine wpAny_bind (wpAny_seqItems o5 rfl (wpAny_bind (wpAny_newTuple ?_)))
 have sz:g5.objs.size=s.heap.objs.size:=by rw [b5.1,b4.1,b3.1,b2.1,b1.1]
 have k5:IsZip g5 z TI TO .ellipsis:=b5.extBut _ _ D.TOz.symm (b4.extBut _ _ D.i2z.symm (b3.extBut _ _ D.TOz.symm (b2.extBut _ _ D.i1z.symm e1)))
 have all5:∀p o,p≠z->p≠TO->p≠i->p≠j->s.heap.get? p=some o->g5.get? p=some o:=λp o q1 q2 q3 q4 e=>
  b5.extBut _ _ q2 (b4.extBut _ _ q4 (b3.extBut _ _ q2 (b2.extBut _ _ q3 (b1.extBut _ _ q1 e))))
 have one5:NO b g5 i l (k+1):=((e2.mv λo=>b3.extBut _ o D.TOi1.symm).mv λo=>b4.extBut _ o D.i12).mv λo=>b5.extBut _ o D.TOi1.symm
 have two5:NO c g5 j m (k+1):=e4.mv λo=>b5.extBut _ o D.TOi2.symm
 have zlt:z<g5.objs.size:=Heap.lt_size k5
 refine wpAny_bind (m:=Builtin.SmallTypes.ownedTupleHandOut (.ref z) (.ref g5.objs.size)) ?_
 unfold Builtin.SmallTypes.ownedTupleHandOut
 have k6:IsZip (g5.push {cls:= .type "tuple",data:= .seq #[x,y] }) z TI TO .ellipsis:=Heap.get?_push_of_some _ k5
 refine wpAny_bind (wpAny_setField_rec k6 (by simp) λg7 k7 b7=> ?_)
 have k7:IsZip g7 z TI TO (rawInt g5.objs.size):=k7
 refine wpAny_setField_rec k7 (by simp) λg8 k8 b8=> ?_
 have k8:IsZip g8 z TI TO (rawInt g5.objs.size):=k8
 have up:∀p o,p≠z->g5.get? p=some o->g8.get? p=some o:=λp o q e=>b8.extBut _ _ q (b7.extBut _ _ q (Heap.get?_push_of_some _ e))
 have new8:IsPair g8 g5.objs.size x y:=b8.extBut _ _ (Nat.ne_of_gt zlt) (b7.extBut _ _ (Nat.ne_of_gt zlt) (Heap.get?_push_size _ rfl))
 rw [sz] at k8 new8
 refine wpAny_pure ⟨_,rfl, ?_⟩
 show Q (.ref g5.objs.size) _
 rw [sz]
 exact hQ g8 k8 (up _ _ D.TIz (all5 _ _ D.TIz D.TITO D.TIi1 D.TIi2 zi)) (up _ _ D.TOz o5) (one5.mv λo=>up _ o D.i1z) (two5.mv λo=>up _ o D.i2z) new8 λp o q1 q2 q3 q4 e=>up p o q1 (all5 p o q1 q2 q3 q4 e)
theorem i9 {Q:Fin->Shared->Prop} (hh:A.handled=none) (D:ZipApart z TI TO i j l m) (Z:Y4 b c z TI TO i j l m k .none s.heap) (hl:O7 b s.heap l xs) (hm:O7 c s.heap m ys) (ZU:xs[k]? =none\/ys[k]? =none)
 (hE:∀h' e,(∀p o,p≠z->p≠TO->p≠i->p≠j->s.heap.get? p=some o->h'.get? p=some o)->(∃o,h'.get? e=some o/\o.cls= .type "StopIteration")->E (.ref e) {s with heap:=h'}):
 wpAny (model prog w) A (Builtin.«zip.__next__» ⟨[.ref z], []⟩) Q E s:=by
 obtain ⟨zz,zi,⟨x0,y0,zo⟩,z1,z2⟩:=Z
 show wpAny _ _ (field (.ref z) 2 >>= _) _ _ _
 refine wpAny_bind (wpAny_field zz rfl (x:= .bool false) rfl ?_)
 show wpAny _ _ (field (.ref z) 3 >>= _) _ _ _
 refine wpAny_bind (wpAny_field zz rfl (x:= .ref TI) rfl (wpAny_bind (wpAny_seqItems zi rfl ?_)))
 refine wpAny_bind (m:=Builtin.SmallTypes.ownedTupleIsFree (.ref z)) ?_
 unfold Builtin.SmallTypes.ownedTupleIsFree
 refine wpAny_bind (wpAny_field zz rfl (x:= .none) rfl (wpAny_pure ?_))
 simp only [if_true]
 refine wpAny_bind (wpAny_rule (wpAny_bind (wpAny_field zz rfl (x:= .ref TO) rfl (wpAny_bind (wpAny_setField_rec zz (by simp) λg1 e1 b1=> ?_)))))
 have e1:IsZip g1 z TI TO .ellipsis:=e1
 refine wpAny_bind ?_
 simp only [List.zipIdx_cons,List.zipIdx_nil,List.forIn_cons,List.forIn_nil]
 refine wpAny_bind (wpAny_bind (wpAny_onRaise ?_))
 cases hx:xs[k]? with
 | none=>
   refine wpAny_bind (m:=Builtin.SmallTypes.nextOf (.ref i)) (MX hh (z1.mv λo=>b1.extBut _ o D.i1z) (hl.mv λo=>b1.extBut _ o D.l1z) hx λg2 e b2 he=> ?_)
   obtain ⟨oe,ge,ce⟩:=he
   have k2:IsZip g2 z TI TO .ellipsis:=b2 _ _ D.i1z.symm e1
   have ez:e≠z:=λq=>by subst q;rw [k2] at ge;cases ge;simp at ce
   refine wpAny_setField_rec k2 (by simp) λg3 _ b3=>hE g3 e (λp o q1 _ q3 _ q=>b3.extBut _ _ q1 (b2 _ _ q3 (b1.extBut _ _ q1 q))) ⟨oe,b3.extBut _ _ ez ge,ce⟩
 | some x=>
   have hy:ys[k]? =none:=by
    rcases ZU with q|q
    ·rw [hx] at q;cases q
    ·exact q
   refine wpAny_bind (m:=Builtin.SmallTypes.nextOf (.ref i)) (LC (z1.mv λo=>b1.extBut _ o D.i1z) (hl.mv λo=>b1.extBut _ o D.l1z) hx λg2 e2 b2=>wpAny_pure ?_)
   have o2:IsPair g2 TO x0 y0:=b2.extBut _ _ D.TOi1 (b1.extBut _ _ D.TOz zo)
   refine wpAny_bind (wpAny_seqItems o2 rfl (wpAny_bind (wpAny_updateSeq_pair o2 λg3 o3 b3=>wpAny_bind (wpAny_letGo (wpAny_pure ?_)))))
   refine wpAny_bind (wpAny_bind (wpAny_onRaise ?_))
   refine wpAny_bind (m:=Builtin.SmallTypes.nextOf (.ref j)) (MX hh (((z2.mv λo=>b1.extBut _ o D.i2z).mv λo=>b2.extBut _ o D.i12.symm).mv λo=>b3.extBut _ o D.TOi2.symm)
    (((hm.mv λo=>b1.extBut _ o D.l2z).mv λo=>b2.extBut _ o D.l2i1).mv λo=>b3.extBut _ o D.l2TO) hy λg4 e b4 he=> ?_)
   obtain ⟨oe,ge,ce⟩:=he
   have k4:IsZip g4 z TI TO .ellipsis:=b4 _ _ D.i2z.symm (b3.extBut _ _ D.TOz.symm (b2.extBut _ _ D.i1z.symm e1))
   have ez:e≠z:=λq=>by subst q;rw [k4] at ge;cases ge;simp at ce
   refine wpAny_setField_rec k4 (by simp) λg5 _ b5=>hE g5 e (λp o q1 q2 q3 q4 q=>b5.extBut _ _ q1 (b4 _ _ q4 (b3.extBut _ _ q2 (b2.extBut _ _ q3 (b1.extBut _ _ q1 q))))) ⟨oe,b5.extBut _ _ ez ge,ce⟩
end
def Wg (b:Bool) (l:Addr):Obj:={cls:= .type (match b with | true=>"list_iterator" | false=>"tuple_iterator"),data:= .fields #[.ref l, .int 0 0] }
abbrev zA (b:Bool) (h:Heap) (l:Addr):Heap:=h.push (Wg b l)
abbrev zB (b c:Bool) (h:Heap) (l m:Addr):Heap:=(zA b h l).push (Wg c m)
abbrev zC (b c:Bool) (h:Heap) (l m:Addr):Heap:=(zB b c h l m).push {cls:= .type "tuple",data:= .seq #[.ref h.objs.size, .ref (zA b h l).objs.size] }
abbrev zD (b c:Bool) (h:Heap) (l m:Addr):Heap:=(zC b c h l m).push {cls:= .type "tuple",data:= .seq #[.none, .none] }
abbrev zF (b c:Bool) (h:Heap) (l m:Addr):Heap:=(zD b c h l m).push {cls:= .type "zip",data:= .fields #[.none, .bool false, .bool false, .ref (zB b c h l m).objs.size, .ref (zC b c h l m).objs.size] }
theorem VW {prog:Program} {w:World} {A:Around} {E:Value->Shared->Prop} {h:Heap} {g:Array GenState} {d:Drawn} {tk:Nat} {os:OsState} {b:Bool} {l:Addr} {xs:Array Value} {Q:Value->Shared->Prop} (hl:O7 b h l xs)
 (q:Q (.ref h.objs.size) ⟨h.push (Wg b l),g,d,tk,os⟩):wpAny (model prog w) A (pyIter (.ref l)) Q E ⟨h,g,d,tk,os⟩:=by
 cases b with
 | true=>exact wpAny_pyIter_list (s:=⟨h,g,d,tk,os⟩) hl q
 | false=>exact wpAny_pyIter_tuple (s:=⟨h,g,d,tk,os⟩) hl q
theorem UQ (b c:Bool) (l m:Addr) (xs ys:Array Value):Meets (Builtin.«zip.__new__» ⟨[.type "zip", .ref l, .ref m], []⟩) (λ_ R s=>O7 b s.heap l xs/\O7 c s.heap m ys/\R (.ok (.ret (.ref (zD b c s.heap l m).objs.size))) {s with heap:=zF b c s.heap l m}):=
 .of_wp λprog w A R s h=>by
   obtain ⟨hp,g,d,tk,os⟩:=s
   obtain ⟨hl,hm,h⟩:=h
   have mN:=sub_zip
   have l7:O7 b hp l xs:=hl
   have mB:O7 c (hp.push (Wg b l)) m ys:=hm.mv λo e=>Heap.get?_push_of_some _ e
   wp_walk using VW l7,VW mB
   exact ⟨_,rfl,h⟩
section
variable {prog:Program} {w:World} {A:Around} {E:Value->Shared->Prop} {s:Shared} {b c:Bool} {l m:Addr} {xs ys:Array Value}
theorem Ya {h:Heap} {q:Addr} (e:h.get? q=some (Wg b l)):NO b h q l 0:=by
 cases b with
 | true=>exact ⟨_,e,rfl,rfl⟩
 | false=>exact ⟨_,e,rfl,rfl⟩
theorem aw (hl:O7 b s.heap l xs) (hm:O7 c s.heap m ys) {Q:Value->Shared->Prop}
 (h:∀h',Y4 b c (s.heap.objs.size+4) (s.heap.objs.size+2) (s.heap.objs.size+3) s.heap.objs.size (s.heap.objs.size+1) l m 0 .none h'->(∀p o,s.heap.get? p=some o->h'.get? p=some o)->Q (.ref (s.heap.objs.size+4)) {s with heap:=h'}):
 wpAny (model prog w) A (call (.type "zip") [.ref l, .ref m]) Q E s:=by
 refine callType_new F.called_zip (by decide) (F.typeCall_zip_2 _ _) (F.newCall_zip_2 _ _) (λobj=>F.args_object_init_3 obj _ _) F.entry_zip_new (UQ b c l m xs ys) ⟨hl,hm, ?_⟩
 have n1:(zA b s.heap l).objs.size=s.heap.objs.size+1:=Heap.size_push ..
 have n2:(zB b c s.heap l m).objs.size=s.heap.objs.size+2:=by rw [Heap.size_push,n1]
 have n3:(zC b c s.heap l m).objs.size=s.heap.objs.size+3:=by rw [Heap.size_push,n2]
 have n4:(zD b c s.heap l m).objs.size=s.heap.objs.size+4:=by rw [Heap.size_push,n3]
 have p5:(zF b c s.heap l m).get? (zD b c s.heap l m).objs.size=some _:=Heap.get?_push_size _ rfl
 have p4:(zF b c s.heap l m).get? (zC b c s.heap l m).objs.size=some _:=Heap.get?_push_of_some _ (Heap.get?_push_size _ rfl)
 have p3:(zF b c s.heap l m).get? (zB b c s.heap l m).objs.size=some _:=Heap.get?_push_of_some _ (Heap.get?_push_of_some _ (Heap.get?_push_size _ rfl))
 have p2:(zF b c s.heap l m).get? (zA b s.heap l).objs.size=some (Wg c m):=Heap.get?_push_of_some _ (Heap.get?_push_of_some _ (Heap.get?_push_of_some _ (Heap.get?_push_size _ rfl)))
 have p1:(zF b c s.heap l m).get? s.heap.objs.size=some (Wg b l):=Heap.get?_push_of_some _ (Heap.get?_push_of_some _ (Heap.get?_push_of_some _ (Heap.get?_push_of_some _ (Heap.get?_push_size _ rfl))))
 rw [n2,n3,n4] at p5
 rw [n1,n2] at p3
 rw [n3] at p4
 rw [n1] at p2
 show _/\_
 rw [n4]
 exact ⟨⟨_,p5,rfl⟩,h _ ⟨p5,p3,⟨_,_,p4⟩,Ya p1,Ya p2⟩ λp o e=>Heap.get?_push_of_some _ (Heap.get?_push_of_some _ (Heap.get?_push_of_some _ (Heap.get?_push_of_some _ (Heap.get?_push_of_some _ e))))⟩
end
def Sq (K:PySem.W.Frag):Bool->Hp->Addr->List V->Prop
 | true,H,a,xs=>Fc K H a xs
 | false,H,a,xs=>JE K H a xs
section
variable {X:Cx} {pins:List (Addr×Obj)} {σ:St} {H:Hp} {s:Shared} {a:Addr} {ys xs:List V} {b:Bool} {h':Heap}
theorem Inv.sq (I:Inv X pins σ H s) (h:Sq X.K b H a xs):∃its:List Value,Aq xs its/\O7 b s.heap a its.toArray/\xs.length<=sizeLine:=by
 cases b with
 | true=>
   obtain ⟨its,r,p,z⟩:=I.list h
   exact ⟨its,r,p.isList,z⟩
 | false=>
   obtain ⟨its,r,p,z⟩:=I.tuple h
   exact ⟨its,r,p,z⟩
theorem Inv.sq_inj (I:Inv X pins σ H s) (h:Sq X.K b H a xs) (h2:Sq X.K b H a ys):xs=ys:=by
 cases b with
 | true=>exact I.list_inj h h2
 | false=>exact I.tuple_inj h h2
theorem Inv.turnedL {ch:List Addr} {t':Nat} (I:Inv X pins σ H s) (Jz:∀p∈ch,Gu X pins H p) (k:∀p o,p ∉ ch->s.heap.get? p=some o->h'.get? p=some o):Inv X pins σ H {s with heap:=h',toks:=t'}:=by
 have nit:∀p u,H p=some u->p ∉ ch:=λp u e z=>by rw [(Jz p z).1] at e;cases e
 refine I.step (g':=s.gens) (d':=s.drawn) (ch:=ch) (λp hp=>⟨(Jz p hp).2.2.2.1,(Jz p hp).2.1,(Jz p hp).2.2.2.2.1,(Jz p hp).2.2.2.2.2⟩) (λp o _ _ hc e _=>k p o hc e) (λp o _ _ hc e _=>⟨o.slots,k p o hc e⟩)
  (λ_ _ _ _ n=>n) (λp o hc e=>⟨o,k p o hc e⟩) (λ_ _ e=>e) (λ_ _ _ e=>e) (λp ps e=>⟨#[],by rw [e];simp⟩) (λm hm=> ?_) (λp u e=> ?_) I.bare
 ·obtain ⟨o,es,ep,ho,r⟩:=hm
  exact ⟨o,es,ep,k _ o (λz=>(Jz _ z).2.1 rfl) ho,r⟩
 ·refine (I.hok p u e).stay (λq v hq e2=>k q v ?_ e2) (λ_ q=>q) λ_ _ q=>q
  rcases hq with z|z
  ·rw [z];exact nit p u e
  ·exact nit q _ z
theorem Inv.turnedN {ch:List Addr} {t':Nat} {n:Addr} {o:HO} (I:Inv X pins σ H s) (Jz:∀p∈ch,Gu X pins H p) (Ft:∀p∈ch,p<s.heap.objs.size) (k:∀p o,p ∉ ch->s.heap.get? p=some o->h'.get? p=some o) (hn:s.heap.objs.size<=n)
 (new:Cm X.prog X.w (upd H n o) h' n o):Inv X pins σ (upd H n o) {s with heap:=h',toks:=t'}:=by
 have I1:Inv X pins σ H {s with heap:=h',toks:=t'}:=I.turnedL Jz k
 have XU:H n=none:=I.hok.fresh hn
 have hx:∀p u,s.heap.get? p=some u->p≠n:=λp u e=>Nat.ne_of_lt (Nat.lt_of_lt_of_le (Heap.lt_size e) hn)
 refine I.step (g':=s.gens) (d':=s.drawn) (ch:=ch) (λp hp=>⟨(Jz p hp).2.2.2.1,(Jz p hp).2.1,(Jz p hp).2.2.2.2.1,(Jz p hp).2.2.2.2.2⟩) (λp o _ _ hc e _=>k p o hc e) (λp o _ _ hc e _=>⟨o.slots,k p o hc e⟩)
  (λp u _ e z=>by rw [Al (hx p u e)];exact z) (λp o hc e=>⟨o,k p o hc e⟩) (λp xs e=>by rw [Al (BG e XU)];exact e) (λp o xs e=>by rw [Al (BG e XU)];exact e)
  (λp ps e=>⟨#[],by rw [Al (BG e XU),e];simp⟩) (λm hm=> ?_) (λp u e=> ?_) I.bare
 ·obtain ⟨o,es,ep,ho,r⟩:=hm
  exact ⟨o,es,ep,k _ o (λz=>(Jz _ z).2.1 rfl) ho,r⟩
 ·by_cases hp:p=n
  ·subst hp
   rw [A1] at e
   cases e
   exact new
  ·rw [Al hp] at e
   exact (I1.hok p u e).stay (λ_ _ _ q=>q) (λq hq=>by rw [Al (BG hq XU)];exact hq) λq xs hq=>by rw [Al (BG hq XU)];exact hq
end
def fh (K:PySem.W.Frag) (b c:Bool) (l m:Addr):It:=
 ⟨λi H=>∃xs ys x y,Sq K b H l xs/\Sq K c H m ys/\xs[i]? =some x/\ys[i]? =some y,
  λi H v H'=>∃T x y,v= .ref T/\H T=none/\H'=upd H T (.tup [x,y])/\(∀xs,Sq K b H l xs->xs[i]? =some x)/\∀ys,Sq K c H m ys->ys[i]? =some y,
  λi H=>∃xs ys,Sq K b H l xs/\Sq K c H m ys/\(xs.length<=i\/ys.length<=i)⟩
theorem WS {P:Program} {w:World} {K:PySem.W.Frag} {es:List Expr} {x1:Nat} {pos:Pos} {b c:Bool} {z TI TO i j l m:Addr} (D:ZipApart z TI TO i j l m):
 Qc P w K (.Tuple es x1 pos) (fh K b c l m) [z,TI,TO,i,j] z (λk h=>Y4 b c z TI TO i j l m k .none h) where
 mem:=by simp
 obj:=λk h Z p hp=>by
  have Ng:p=z\/p=TI\/p=TO\/p=i\/p=j:=by simpa using hp
  rcases Ng with e|e|e|e|e
  ·subst e;exact ⟨_,Z.zip,λv q=>nomatch q⟩
  ·subst e;exact ⟨_,Z.its,λv q=>nomatch q⟩
  ·subst e;obtain ⟨x,y,q⟩:=Z.own;exact ⟨_,q,λv q=>nomatch q⟩
  ·subst e;exact Z.one.obj
  ·subst e;exact Z.two.obj
 keep:=λk h h' Z e=>Z.mv e
 item:=by
  intro X hP hw hK hc k pins s σ H E I hf Z hg
  subst hP hw hK
  obtain ⟨xs,ys,x,y,hl,hm,hx,hy⟩:=hg
  obtain ⟨us,ru,su,_⟩:=I.sq hl
  obtain ⟨vs,rv,sv,_⟩:=I.sq hm
  obtain ⟨u,hu,rx⟩:=ru.get hx
  obtain ⟨v,hv,ry⟩:=rv.get hy
  have hT:s.TypeIs (.ref z) "zip" :=⟨_,Z.zip,rfl⟩
  unfold pyNext
  refine wpAny_bind (wpAny_attempt (wpAny_callSpecial?_slot (name:=Str.ofString "__next__") hT F.slot_zip_next (wpAny_call_entry F.slot_zip_next hT F.entry_zip_next
   (eG D Z su sv (x:=u) (y:=v) (by simpa using hu) (by simpa using hv) λh1 a1 a2 a3 a4 a5 a6 a7=>wpAny_pure ?_) (F.args_zip_next_1 _))))
  refine ⟨_,rfl,wpAny_letOwnedTupleGo_zip (s:={s with heap:=h1}) a1 λh2 c1 c2=> ?_⟩
  have nT:∀p∈ [z,TI,TO,i,j],p<s.heap.objs.size:=λp hp=>by
   have Ng:p=z\/p=TI\/p=TO\/p=i\/p=j:=by simpa using hp
   rcases Ng with e|e|e|e|e
   ·subst e;exact Heap.lt_size Z.zip
   ·subst e;exact Heap.lt_size Z.its
   ·subst e;obtain ⟨x,y,q⟩:=Z.own;exact Heap.lt_size q
   ·subst e;obtain ⟨o,q,_⟩:=Z.one.obj;exact Heap.lt_size q
   ·subst e;obtain ⟨o,q,_⟩:=Z.two.obj;exact Heap.lt_size q
  have c2':∀p o,p≠z->h1.get? p=some o->h2.get? p=some o:=λp o q e=>c2.extBut _ _ q e
  have kp:∀p o,p ∉ [z,TI,TO,i,j] ->s.heap.get? p=some o->h2.get? p=some o:=λp o hp e=>by
   have Ng:p≠z/\p≠TI/\p≠TO/\p≠i/\p≠j:=by simpa using hp
   exact c2' p o Ng.1 (a7 p o Ng.1 Ng.2.2.1 Ng.2.2.2.1 Ng.2.2.2.2 e)
  have mQ:s.heap.objs.size≠z:=Nat.ne_of_gt (nT z (by simp))
  have I2:Inv X pins σ (upd H s.heap.objs.size (.tup [x,y])) {s with heap:=h2,toks:=s.toks}:=I.turnedN hf nT kp (Nat.le_refl _)
   ⟨(by show 2<=sizeLine;decide), [u,v], .cons rx (.cons ry .nil),⟨_,c2' _ _ mQ a6,rfl,_,rfl⟩⟩
  have XU:H s.heap.objs.size=none:=I.fresh
  refine ⟨.ref s.heap.objs.size,upd H s.heap.objs.size (.tup [x,y]),I2,rfl,⟨_,x,y,rfl,XU,rfl,λxs' h'=> ?_,λys' h'=> ?_⟩, ?_,λp hp=> ?_⟩
  ·rw [I.sq_inj h' hl];exact hx
  ·rw [I.sq_inj h' hm];exact hy
  ·exact ⟨c1,c2' _ _ D.TIz a2,⟨_,_,c2' _ _ D.TOz a3⟩,a4.mv λo=>c2' _ o D.i1z,a5.mv λo=>c2' _ o D.i2z⟩
  ·rw [Al (Nat.ne_of_lt (nT p hp))]
   exact (hf p hp).1
 done:=by
  intro X hP hw hK hc k pins s σ H E I hf Z hg
  subst hP hw hK
  obtain ⟨xs,ys,hl,hm,he⟩:=hg
  obtain ⟨us,ru,su,_⟩:=I.sq hl
  obtain ⟨vs,rv,sv,_⟩:=I.sq hm
  have e1:=ru.length
  have e2:=rv.length
  have ZU:us.toArray[k]? =none\/vs.toArray[k]? =none:=by
   rcases he with q|q
   ·exact .inl (by simp;omega)
   ·exact .inr (by simp;omega)
  have hT:s.TypeIs (.ref z) "zip" :=⟨_,Z.zip,rfl⟩
  unfold pyNext
  refine wpAny_bind (wpAny_attempt (wpAny_callSpecial?_slot (name:=Str.ofString "__next__") hT F.slot_zip_next (wpAny_call_entry F.slot_zip_next hT F.entry_zip_next
   (i9 (I.ok.hd hc) D Z su sv ZU λh1 e hk he=> ?_) (F.args_zip_next_1 _))))
  obtain ⟨o,ho,lj⟩:=he
  refine wpAny_bind (wpAny_isInstance (T:="StopIteration") (b:=true) ⟨o,ho,lj⟩ isSubtype_stop (wpAny_pure ⟨rfl, ?_⟩))
  exact I.turnedL (t':=s.toks) hf λp o hp e=>by
   have Ng:p≠z/\p≠TI/\p≠TO/\p≠i/\p≠j:=by simpa using hp
   exact hk p o Ng.1 Ng.2.2.1 Ng.2.2.2.1 Ng.2.2.2.2 e
 self:=λ_ _ _ _ _ Z h=>wpAny_pyIter_zip Z.zip h
section
variable {X:Cx}
end
end L2
end
section
namespace L2
open PySem PySem.Spec PyProof.Rows
structure Has (P:Program) (w:World) (K:PySem.W.Frag) (mg:Str->Option Value) (base:Heap) (k:Nat) (x:Str) (ps:List Str) (sp:Sp):Prop where
 ex:∃f fd,mg x=some (.ref f)/\PySem.W.keepIn K (.ref f)=true/\Binds K fd ps [] /\A4 P w K mg base C7 k f fd ps sp
theorem Has.mono {P:Program} {w:World} {K:PySem.W.Frag} {mg:Str->Option Value} {base:Heap} {j k:Nat} {x:Str} {ps:List Str} {sp:Sp} (h:Has P w K mg base j x ps sp) (hk:j<=k):Has P w K mg base k x ps sp:=by
 obtain ⟨f,fd,a,b,c,d⟩:=h.ex
 exact ⟨f,fd,a,b,c,d.mono hk⟩
section
variable {X:Cx} {x:Str} {p pos:Pos} {e:Expr} {es:List Expr} {t:TA} {k:Nat} {ps:List Str} {sp:Sp}
theorem Z5 (D:Has X.prog X.w X.K X.mg X.base k x ps sp) (hr:Room k X.A) (hg:Gl X x) (ha:PA X (e::es) t)
 (hs:starEach (e::es) X.env=(false,eval e X.env)::starEach es X.env:=by rfl) (hpl:(backTo pos (starEach es X.env)).any (·.1)=false:=by rfl) (hd:(x==("__debug__" :Str))=false:=by decide):
 PE X (.Call (.Name x p) (e::es) [] pos) (Yk sp [] E0 t):=by
 obtain ⟨f,fd,mG,kG,bG,G⟩:=D.ex
 exact Xu G hr hg mG kG bG .nil dA ha (hdb:=hd) (he:=hs) (hpl:=hpl)
end
section
variable {X:Cx} {tg elt:Expr} {ifs:List Expr} {scope:Scope} {own:Nat} {ix:List Nat} {N:List Str} {g:TG} {tt:TT} {te:TE}
def Qu (X:Cx) (sc:Scope) (own:Nat) (ix:List Nat) (N:List Str):Bool:=
 (List.range ix.length).all λj=>match ix[j]? with
   | none=>false
   | some i=>match N[own+j]?,X.N[i]? with
     | some x,some y=>decide (x=y)&&decide (X.env.scope.names.lookup x=some .cell)&&decide (sc.names.lookup x=some .cell)
     | _,_=>false
theorem U3 {sc:Scope} (h1:N.length=own+ix.length) (h2:Qu X sc own ix N=true):O6 X sc own ix N:=by
 refine ⟨h1,λj i hj=> ?_⟩
 have Ft:j<ix.length:=(List.getElem?_eq_some_iff.mp hj).1
 have h:=List.all_eq_true.mp h2 j (List.mem_range.mpr Ft)
 rw [hj] at h
 dsimp only at h
 cases e1:N[own+j]? with
 | none=>rw [e1] at h;simp at h
 | some x=>
   cases e2:X.N[i]? with
   | none=>rw [e1,e2] at h;simp at h
   | some y=>
     rw [e1,e2] at h
     simp only [Bool.and_eq_true,decide_eq_true_eq] at h
     obtain ⟨⟨h3,h4⟩,h5⟩:=h
     subst h3
     exact ⟨x,rfl,rfl,h4,h5⟩
theorem W9 (h1:scope.kind= .function) (h2:(scope.names.all λy=> !decide (y.2= .cell))=true) (h3:(scope.names.all λy=> !decide (y.2= .local)||decide (scope.names.lookup y.1=some .local))=true)
 (h4:(scope.names.all λy=> !decide (y.2= .free)||decide (X.env.scope.names.lookup y.1=some .cell))=true) (h5:N.length=own+ix.length) (h6:Qu X (relabel scope X.env) own ix N=true) (hk:GN own g)
 (tgt:∀cl C s H ex pn,PG (blk X (relabel scope X.env) N cl C s H ex pn) tg g)
 (tst:∀cl C s H ex pn,Wb (blk X (relabel scope X.env) N cl C s H ex pn) ifs tt)
 (val:∀cl C s H ex pn,PE (blk X (relabel scope X.env) N cl C s H ex pn) elt te):IW X tg elt ifs scope own ix N g tt te:=by
 refine ⟨h1,λy hy e=> ?_,λy hy e=> ?_,λy hy e=> ?_,U3 h5 h6,hk,tgt,tst,val⟩
 ·have:=List.all_eq_true.mp h2 y hy
  simp [e] at this
 ·have:=List.all_eq_true.mp h3 y hy
  simpa [e] using this
 ·have:=List.all_eq_true.mp h4 y hy
  simpa [e] using this
end
theorem HK.new {H:Hp} {p:Addr} {o:HO} (h:H p=none):HK H (upd H p o):=λb u q=>by rw [Al (BG q h)];exact q
def Wm (p:Addr) (H H':Hp):Prop:=∀b o,b≠p->H b=some o->H' b=some o
theorem Wm.refl {p:Addr} {H:Hp}:Wm p H H:=λ_ _ _ h=>h
theorem Wm.trans {p:Addr} {H H1 H2:Hp} (a:Wm p H H1) (b:Wm p H1 H2):Wm p H H2:=λc o n h=>b c o n (a c o n h)
theorem HK.but {p:Addr} {H H1:Hp} (a:HK H H1):Wm p H H1:=λc o _ h=>a c o h
theorem Wm.upd {p:Addr} {H:Hp} {o:HO}:Wm p H (upd H p o):=λb u n q=>by rw [Al n];exact q
theorem W6 {α:Type} {xs:List α} {x:Int} (h0:0<=x) (h1:x<(xs.length:Int)):∃v,v∈xs/\EE xs x=some v:=by
 have hk:x.toNat<xs.length:=by omega
 have q:EE xs ((x.toNat:Nat):Int)=some xs[x.toNat] :=Ct (List.getElem?_eq_getElem hk)
 rw [show ((x.toNat:Nat):Int)=x by omega] at q
 exact ⟨_,List.getElem_mem hk,q⟩
end L2
end
section
namespace PL
open PySem PySem.Spec PyProof.Rows L2
inductive PV where
 | non|bl (b:Bool)|int (i:Int)|str (x:Str)|ty (n:String)
 | tup (xs:List PV)|lst (xs:List PV)|tape|scr (ns:List Int)|dct (kvs:List (FK×Int))
def Ed (H:Hp) (p:Addr):Prop:=∃d x:Int,H p=some (.lst [.int d, .int x])/\0<=d/\0<=x/\x<2147483647
def Jb (o:HO):Prop:=(∀vs,o≠ .tup vs)/\∀q u,o≠ .frz q u
theorem Jb.lst {xs:List V}:Jb (.lst xs):=⟨(λ_ e=>nomatch e),(λ_ _ e=>nomatch e)⟩
theorem Ed.mut {H:Hp} {p:Addr} (h:Ed H p):∃o,H p=some o/\Jb o:=by
 obtain ⟨d,x,e,_⟩:=h
 exact ⟨_,e,Jb.lst⟩
def eY (K:PySem.W.Frag) (H:Hp) (a:Addr) (xs:List V):Prop:=H a=some (.tup xs)\/∃(o:Obj) (its:Array Value) (n:Nat),K.lookup a=some o/\o.cls= .type "tuple" /\o.data= .seq its n/\its.size<=sizeLine/\Aq xs its.toList
theorem eY.sq {K:PySem.W.Frag} {H:Hp} {a:Addr} {xs:List V} (h:eY K H a xs):JE K H a xs:=h.elim (λz=> .inl (.inl z)) .inr
def cU (kvs:List (FK×Int)):List (FK×V):=kvs.map λp=>(p.1,V.int p.2)
mutual
inductive Cg (K:PySem.W.Frag) (T M:Addr->Prop) (H:Hp):V->PV->Prop where
 | non:Cg K T M H .non .non
 | bl (b:Bool):Cg K T M H (.bl b) (.bl b)
 | int (i:Int):Cg K T M H (.int i) (.int i)
 | str (x:Str):Cg K T M H (.str x) (.str x)
 | ty (n:String):Cg K T M H (.ty n) (.ty n)
 | tup {a:Addr} {vs:List V} {xs:List PV} (h:eY K H a vs) (r:Ay K T M H vs xs):Cg K T M H (.ref a) (.tup xs)
 | lst {a:Addr} {vs:List V} {xs:List PV} (h:H a=some (.lst vs)) (t:¬T a) (m:¬M a) (r:Ay K T M H vs xs):Cg K T M H (.ref a) (.lst xs)
 | tape {a:Addr} (t:T a):Cg K T M H (.ref a) .tape
 | dct {a:Addr} {kvs:List (FK×Int)} (h:H a=some (.dN K (cU kvs))) (t:¬T a) (m:¬M a):Cg K T M H (.ref a) (.dct kvs)
 | scr {a:Addr} {ns:List Int} (h:(Rd H a (.lst (ns.map V.int))/\¬T a/\¬M a)\/∀H,Fc K H a (ns.map V.int)):Cg K T M H (.ref a) (.scr ns)
inductive Ay (K:PySem.W.Frag) (T M:Addr->Prop) (H:Hp):List V->List PV->Prop where
 | nil:Ay K T M H [] []
 | cons {v:V} {x:PV} {vs:List V} {xs:List PV} (h:Cg K T M H v x) (t:Ay K T M H vs xs):Ay K T M H (v::vs) (x::xs)
end
structure Jd (T M:Addr->Prop) (H:Hp):Prop where
 tp:∀a,T a->Ed H a
 mu:∀a,M a->∃o,H a=some o/\Jb o
theorem Jd.noTup {T M:Addr->Prop} {H:Hp} (v:Jd T M H) {a:Addr} {vs:List V} (r:Rd H a (.tup vs)):¬T a/\¬M a:=by
 have go:∀o,H a=some o->Jb o->False:=λo e m=>by
  rcases r with r|⟨q,r⟩
  ·rw [e] at r;cases r;exact m.1 _ rfl
  ·rw [e] at r;cases r;exact m.2 _ _ rfl
 exact ⟨λt=>let ⟨o,e,m⟩:=(v.tp a t).mut;go o e m,λt=>let ⟨o,e,m⟩:=v.mu a t;go o e m⟩
structure Mv (K:PySem.W.Frag) (T M:Addr->Prop) (H:Hp) (T' M':Addr->Prop) (H':Hp):Prop where
 va:Jd T M H
 keep:∀b o,¬T b->¬M b->H b=some o->H' b=some o
 sub:∀b,T b->T' b
 tn:∀b,H b≠none->T' b->T b
 mn:∀b,H b≠none->M' b->M b
theorem SU {H:Hp} {a:Addr} {u:HO} (r:Rd H a u):H a≠none:=by
 rcases r with r|⟨o,r⟩ <;> rw [r] <;> exact λe=>nomatch e
theorem dR {H H':Hp} {a:Addr} {u:HO} (r:Rd H a u) (k:∀o,H a=some o->H' a=some o):Rd H' a u:=by
 rcases r with r|⟨o,r⟩
 ·exact .inl (k _ r)
 ·exact .inr ⟨o,k _ r⟩
section
variable {K:PySem.W.Frag} {T M T' M':Addr->Prop} {H H':Hp}
mutual
theorem Cg.mv (m:Mv K T M H T' M' H'):∀{v:V} {x:PV},Cg K T M H v x->Cg K T' M' H' v x
 | _,_, .non=> .non
 | _,_, .bl b=> .bl b
 | _,_, .int i=> .int i
 | _,_, .str x=> .str x
 | _,_, .ty n=> .ty n
 | _,_, .tup (a:=a) (vs:=vs) h r=>by
   refine .tup (vs:=vs) ?_ (Ay.mv m r)
   rcases h with h|h
   ·obtain ⟨t,u⟩:=m.va.noTup (.inl h)
    exact .inl (m.keep _ _ t u h)
   ·exact .inr h
 | _,_, .lst (a:=a) h t u r=> .lst (m.keep _ _ t u h) (λz=>t (m.tn a (by rw [h];exact λe=>nomatch e) z)) (λz=>u (m.mn a (by rw [h];exact λe=>nomatch e) z)) (Ay.mv m r)
 | _,_, .tape t=> .tape (m.sub _ t)
 | _,_, .dct (a:=a) h t u=> .dct (m.keep _ _ t u h) (λz=>t (m.tn a (by rw [h];exact λe=>nomatch e) z)) (λz=>u (m.mn a (by rw [h];exact λe=>nomatch e) z))
 | _,_, .scr (a:=a) (.inl ⟨h,t,u⟩)=> .scr (.inl ⟨dR h λo e=>m.keep _ o t u e,λz=>t (m.tn a (SU h) z),λz=>u (m.mn a (SU h) z)⟩)
 | _,_, .scr (.inr h)=> .scr (.inr h)
theorem Ay.mv (m:Mv K T M H T' M' H'):∀{vs:List V} {xs:List PV},Ay K T M H vs xs->Ay K T' M' H' vs xs
 | _,_, .nil=> .nil
 | _,_, .cons h t=> .cons (Cg.mv m h) (Ay.mv m t)
end
end
theorem Ay.length {K:PySem.W.Frag} {T M:Addr->Prop} {H:Hp}:∀{vs:List V} {xs:List PV},Ay K T M H vs xs->vs.length=xs.length
 | _,_, .nil=>rfl
 | _,_, .cons _ t=>by simp [t.length]
theorem Ay.get {K:PySem.W.Frag} {T M:Addr->Prop} {H:Hp}:∀{vs:List V} {xs:List PV} {i:Nat} {x:PV},Ay K T M H vs xs->xs[i]? =some x->∃v,vs[i]? =some v/\Cg K T M H v x
 | _,_,_,_, .nil,e=>by simp at e
 | _,_,0,_, .cons h _,e=>by simp at e;subst e;exact ⟨_,rfl,h⟩
 | _,_,i+1,x, .cons _ t,e=>by
   obtain ⟨u,h1,h2⟩:=Ay.get (i:=i) (x:=x) t (by simpa using e)
   exact ⟨u,by simpa using h1,h2⟩
theorem Ay.get' {K:PySem.W.Frag} {T M:Addr->Prop} {H:Hp} {vs:List V} {xs:List PV} {i:Nat} {v:V} (h:Ay K T M H vs xs) (e:vs[i]? =some v):∃x,xs[i]? =some x/\Cg K T M H v x:=by
 have hl:=h.length
 have hi:i<vs.length:=(List.getElem?_eq_some_iff.mp e).1
 obtain ⟨w,e2,r⟩:=h.get (i:=i) (x:=xs[i]'(by omega)) (List.getElem?_eq_getElem (by omega))
 rw [e] at e2;cases e2
 exact ⟨_,List.getElem?_eq_getElem (by omega),r⟩
theorem Ay.append {K:PySem.W.Frag} {T M:Addr->Prop} {H:Hp}:∀{vs ws:List V} {xs ys:List PV},Ay K T M H vs xs->Ay K T M H ws ys->Ay K T M H (vs++ws) (xs++ys)
 | _,_,_,_, .nil,s=>s
 | _,_,_,_, .cons h t,s=> .cons h (t.append s)
theorem Ay.take {K:PySem.W.Frag} {T M:Addr->Prop} {H:Hp}:∀{vs:List V} {xs:List PV} (n:Nat),Ay K T M H vs xs->Ay K T M H (vs.take n) (xs.take n)
 | _,_,0,_=> .nil
 | _,_,_+1, .nil=> .nil
 | _,_,n+1, .cons r t=> .cons r (t.take n)
theorem Ay.drop {K:PySem.W.Frag} {T M:Addr->Prop} {H:Hp}:∀{vs:List V} {xs:List PV} (n:Nat),Ay K T M H vs xs->Ay K T M H (vs.drop n) (xs.drop n)
 | _,_,0,r=>r
 | _,_,_+1, .nil=> .nil
 | _,_,n+1, .cons _ t=>t.drop n
theorem Ay.set {K:PySem.W.Frag} {T M:Addr->Prop} {H:Hp} {v:V} {x:PV} (r:Cg K T M H v x):∀{vs:List V} {xs:List PV} (i:Nat),Ay K T M H vs xs->Ay K T M H (vs.set i v) (xs.set i x)
 | _,_,_, .nil=> .nil
 | _,_,0, .cons _ t=> .cons r t
 | _,_,i+1, .cons q t=> .cons q (Ay.set r i t)
theorem Ay.nil_iff {K:PySem.W.Frag} {T M:Addr->Prop} {H:Hp} {vs:List V} {xs:List PV} (h:Ay K T M H vs xs):vs= [] ↔xs= [] :=by
 cases h <;> simp
theorem Ay.reverse {K:PySem.W.Frag} {T M:Addr->Prop} {H:Hp} {vs:List V} {xs:List PV} (h:Ay K T M H vs xs):Ay K T M H vs.reverse xs.reverse:=by
 induction vs generalizing xs with
 | nil=>cases h;exact .nil
 | cons v vs ih=>
   cases h with
   | cons h t=>rw [List.reverse_cons,List.reverse_cons];exact (ih t).append (.cons h .nil)
structure Dh (T:Addr->Prop) (H:Hp) (T':Addr->Prop) (H':Hp):Prop where
 keep:∀b o,¬T b->H b=some o->H' b=some o
 sub:∀b,T b->T' b
 new:∀b,T' b->T b\/H b=none
 tp:∀a,T' a->Ed H' a
theorem Dh.refl {T:Addr->Prop} {H:Hp} (h:∀a,T a->Ed H a):Dh T H T H:=⟨λ_ _ _ e=>e,λ_ e=>e,λ_ e=> .inl e,h⟩
theorem Dh.some {T T':Addr->Prop} {H H':Hp} (s:Dh T H T' H') {b:Addr} (h:H b≠none):H' b≠none:=by
 by_cases t:T b
 ·obtain ⟨o,e,_⟩:=(s.tp b (s.sub b t)).mut
  rw [e];exact λe=>nomatch e
 ·cases e:H b with
  | none=>exact absurd e h
  | some o=>rw [s.keep b o t e];exact λe=>nomatch e
theorem Dh.none {T T':Addr->Prop} {H H':Hp} (s:Dh T H T' H') {b:Addr} (h:H' b=none):H b=none:=by
 cases e:H b with
 | none=>rfl
 | some o=>exact absurd h (s.some (by rw [e];exact λe=>nomatch e))
theorem Dh.trans {T T1 T2:Addr->Prop} {H H1 H2:Hp} (a:Dh T H T1 H1) (b:Dh T1 H1 T2 H2):Dh T H T2 H2 where
 keep:=λc o t e=>b.keep c o (λz=>(a.new c z).elim t λn=>by rw [n] at e;cases e) (a.keep c o t e)
 sub:=λc t=>b.sub c (a.sub c t)
 new:=λc t=>(b.new c t).elim (λz=>a.new c z) λz=> .inr (a.none z)
 tp:=b.tp
theorem Dh.lay {T:Addr->Prop} {H:Hp} {p:Addr} {o:HO} (h:∀a,T a->Ed H a) (hp:H p=Option.none):Dh T H T (upd H p o) where
 keep:=λb u _ e=>by rw [Al (BG e hp)];exact e
 sub:=λ_ t=>t
 new:=λ_ t=> .inl t
 tp:=λa t=>by
  obtain ⟨d,x,e,z⟩:=h a t
  exact ⟨d,x,by rw [Al (BG e hp)];exact e,z⟩
theorem Dh.mv {K:PySem.W.Frag} {T T' M:Addr->Prop} {H H':Hp} (s:Dh T H T' H') (v:Jd T M H):Mv K T M H T' M H' where
 va:=v
 keep:=λb o t _ e=>s.keep b o t e
 sub:=s.sub
 tn:=λb n t=>(s.new b t).elim id λz=>absurd z n
 mn:=λ_ _ z=>z
theorem Jd.stp {T T' M:Addr->Prop} {H H':Hp} (v:Jd T M H) (s:Dh T H T' H') (d:∀a,M a->¬T a):Jd T' M H':=
 ⟨s.tp,λa m=>let ⟨o,e,q⟩:=v.mu a m;⟨o,s.keep a o (d a m) e,q⟩⟩
theorem Cg.stp {K:PySem.W.Frag} {T T' M:Addr->Prop} {H H':Hp} {v:V} {x:PV} (r:Cg K T M H v x) (s:Dh T H T' H') (va:Jd T M H):Cg K T' M H' v x:=r.mv (s.mv va)
theorem Ay.stp {K:PySem.W.Frag} {T T' M:Addr->Prop} {H H':Hp} {v:List V} {x:List PV} (r:Ay K T M H v x) (s:Dh T H T' H') (va:Jd T M H):Ay K T' M H' v x:=r.mv (s.mv va)
theorem Mv.anti {K:PySem.W.Frag} {T M M':Addr->Prop} {H:Hp} (v:Jd T M H) (h:∀a,M' a->M a):Mv K T M H T M' H:=⟨v,λ_ _ _ _ e=>e,λ_ t=>t,λ_ _ t=>t,λb _ t=>h b t⟩
inductive AV where
 | val (x:PV)
 | own (xs:List PV)
abbrev BB:=List (Option AV)
structure Ck where
 T:Addr->Prop
 H:Hp
 M:Addr->Prop
def Ck.add (B:Ck) (p:Addr):Ck:=⟨B.T,B.H,λa=>B.M a\/a=p⟩
def Ch (σ:L2.St) (τ:BB) (p:Addr):Prop:=∃(i:Nat) (xs:List PV),τ[i]? =some (some (.own xs))/\σ[i]? =some (some (.ref p))
def mt (B:Ck) (σ:L2.St) (τ:BB) (p:Addr):Prop:=B.M p\/Ch σ τ p
structure SR (K:PySem.W.Frag) (B:Ck) (T:Addr->Prop) (H:Hp) (σ:L2.St) (τ:BB):Prop where
 len:σ.length=τ.length
 val:∀(i:Nat) (x:PV),τ[i]? =some (some (.val x))->∃v,σ[i]? =some (some v)/\Cg K T (mt B σ τ) H v x
 own:∀(i:Nat) (xs:List PV),τ[i]? =some (some (.own xs))->∃p vs,σ[i]? =some (some (.ref p))/\H p=some (.lst vs)/\Ay K T (mt B σ τ) H vs xs/\B.H p=none/\¬T p/\¬B.M p
 dist:∀(i j:Nat) (xs ys:List PV) (p:Addr),τ[i]? =some (some (.own xs))->τ[j]? =some (some (.own ys))->σ[i]? =some (some (.ref p))->σ[j]? =some (some (.ref p))->i=j
 tp:∀a,T a->Ed H a
 bm:∀a,B.M a->∃o,H a=some o/\Jb o
 bt:∀a,B.M a->¬T a
 st:Dh B.T B.H T H
section
variable {K:PySem.W.Frag} {B:Ck} {T T':Addr->Prop} {H H':Hp} {σ:L2.St} {τ:BB}
theorem SR.ownH (s:SR K B T H σ τ) {p:Addr} (o:Ch σ τ p):∃vs,H p=some (.lst vs)/\B.H p=none/\¬T p/\¬B.M p:=by
 obtain ⟨i,xs,h1,h2⟩:=o
 obtain ⟨q,vs,e,h,_,b,t,m⟩:=s.own i xs h1
 rw [h2] at e;cases e
 exact ⟨vs,h,b,t,m⟩
theorem SR.va (s:SR K B T H σ τ):Jd T (mt B σ τ) H:=⟨s.tp,λa m=>m.elim (s.bm a) λo=>let ⟨vs,h,_⟩:=s.ownH o;⟨_,h,Jb.lst⟩⟩
theorem SR.nt (s:SR K B T H σ τ) {a:Addr} (m:mt B σ τ a):¬T a:=m.elim (s.bt a) λo=>let ⟨_,_,_,t,_⟩:=s.ownH o;t
theorem SR.stp (s:SR K B T H σ τ) (p:Dh T H T' H'):SR K B T' H' σ τ where
 len:=s.len
 val:=λi x e=>let ⟨v,h,r⟩:=s.val i x e;⟨v,h,r.stp p s.va⟩
 own:=λi xs e=>by
  obtain ⟨q,vs,e1,h,r,b,t,m⟩:=s.own i xs e
  exact ⟨q,vs,e1,p.keep _ _ t h,r.stp p s.va,b,(λz=>(p.new q z).elim t λn=>by rw [n] at h;cases h),m⟩
 dist:=s.dist
 tp:=p.tp
 bm:=λa m=>let ⟨o,e,q⟩:=s.bm a m;⟨o,p.keep a o (s.bt a m) e,q⟩
 bt:=λa m z=>by
  obtain ⟨o,e,_⟩:=s.bm a m
  exact (p.new a z).elim (s.bt a m) λn=>by rw [n] at e;cases e
 st:=s.st.trans p
theorem SR.add {p:Addr} {o:HO} (s:SR K B T H σ τ) (q:Dh T H T' H') (hn:H p=none) (ho:H' p=some o) (hm:Jb o) (ht:¬T' p):SR K (B.add p) T' H' σ τ:=by
 have s':=s.stp q
 have mv:Mv K T (mt B σ τ) H T' (mt (B.add p) σ τ) H':=⟨s.va,λb o t _ e=>q.keep b o t e,q.sub,λb n t=>(q.new b t).elim id λz=>absurd z n,λb n z=>by
  rcases z with (z|z)|z
  ·exact .inl z
  ·subst z;exact absurd hn n
  ·exact .inr z⟩
 refine ⟨s.len,λi x e=> ?_,λi xs e=> ?_,s.dist,s'.tp,λa m=> ?_,λa m=> ?_,s'.st⟩
 ·obtain ⟨v,h,r⟩:=s.val i x e
  exact ⟨v,h,r.mv mv⟩
 ·obtain ⟨a,vs,e1,h,r,b,t,m⟩:=s.own i xs e
  obtain ⟨a',vs',e1',h',_,b',t',m'⟩:=s'.own i xs e
  rw [e1] at e1';cases e1'
  rw [q.keep _ _ t h] at h';cases h'
  refine ⟨a,vs,e1,q.keep _ _ t h,r.mv mv,b,t',λz=> ?_⟩
  rcases z with z|z
  ·exact m z
  ·subst z;rw [hn] at h;cases h
 ·rcases m with m|m
  ·exact s'.bm a m
  ·subst m;exact ⟨o,ho,hm⟩
 ·rcases m with m|m
  ·exact s'.bt a m
  ·subst m;exact ht
theorem SR.drop {p:Addr} (s:SR K (B.add p) T H σ τ):SR K B T H σ τ:=by
 have mv:Mv K T (mt (B.add p) σ τ) H T (mt B σ τ) H:= .anti s.va λa m=>m.elim (λz=> .inl (.inl z)) .inr
 refine ⟨s.len,λi x e=>let ⟨v,h,r⟩:=s.val i x e;⟨v,h,r.mv mv⟩,λi xs e=> ?_,s.dist,s.tp,λa m=>s.bm a (.inl m),λa m=>s.bt a (.inl m),s.st⟩
 obtain ⟨a,vs,e1,h,r,b,t,m⟩:=s.own i xs e
 exact ⟨a,vs,e1,h,r.mv mv,b,t,λz=>m (.inl z)⟩
end
def ZK:Option AV->Option AV
 | some (.own xs)=>some (.val (.lst xs))
 | o=>o
def frz (τ:BB):BB:=τ.map ZK
theorem R1 {τ:BB} {i:Nat}:(frz τ)[i]? =(τ[i]?).map ZK:=by simp [frz]
theorem XH {τ:BB} {i:Nat} {x:PV} (h:(frz τ)[i]? =some (some (.val x))):τ[i]? =some (some (.val x))\/∃xs,x= .lst xs/\τ[i]? =some (some (.own xs)):=by
 rw [R1] at h
 cases e:τ[i]? with
 | none=>rw [e] at h;cases h
 | some o=>
   rw [e] at h
   cases o with
   | none=>cases h
   | some a=>
     cases a with
     | val y=>cases h;exact .inl rfl
     | own xs=>cases h;exact .inr ⟨xs,rfl,rfl⟩
theorem NV {τ:BB} {i:Nat} {xs:List PV}:(frz τ)[i]? ≠some (some (.own xs)):=by
 rw [R1]
 cases e:τ[i]? with
 | none=>exact λz=>nomatch z
 | some o=>
   cases o with
   | none=>exact λz=>nomatch z
   | some a=>cases a <;> exact λz=>nomatch z
theorem Ps {σ:L2.St} {τ:BB} {p:Addr}:¬Ch σ (frz τ) p:=λ⟨_,_,h,_⟩=>NV h
section
variable {K:PySem.W.Frag} {B:Ck} {T T':Addr->Prop} {H H':Hp} {σ:L2.St} {τ:BB}
theorem SR.frz (s:SR K B T H σ τ):SR K B T H σ (frz τ):=by
 have mv:Mv K T (mt B σ τ) H T (mt B σ (PL.frz τ)) H:= .anti s.va λa m=>m.elim .inl λz=>absurd z Ps
 refine ⟨by simp [PL.frz,s.len],λi x e=> ?_,λi xs e=>absurd e NV,λi j xs ys p e=>absurd e NV,s.tp,s.bm,s.bt,s.st⟩
 rcases XH e with e'|⟨xs,e0,e'⟩
 ·obtain ⟨v,h,r⟩:=s.val i x e'
  exact ⟨v,h,r.mv mv⟩
 ·subst e0
  obtain ⟨p,vs,e1,h,r,b,t,m⟩:=s.own i xs e'
  exact ⟨.ref p,e1, .lst h t (λz=>z.elim m Ps) (r.mv mv)⟩
end
mutual
def Yc:PV->Bool
 | .lst _=>false
 | .tape=>false
 | .scr _=>false
 | .dct _=>false
 | .tup xs=>Xh xs
 | _=>true
def Xh:List PV->Bool
 | [] =>true
 | x::xs=>Yc x&&Xh xs
end
section
variable {K:PySem.W.Frag} {T M M':Addr->Prop} {H:Hp}
mutual
theorem Cg.free:∀{v:V} {x:PV},Yc x=true->Cg K T M H v x->Cg K T M' H v x
 | _,_,_, .non=> .non
 | _,_,_, .bl b=> .bl b
 | _,_,_, .int i=> .int i
 | _,_,_, .str x=> .str x
 | _,_,_, .ty n=> .ty n
 | _,_,n, .tup h r=> .tup h (Ay.free (by rw [Yc] at n;exact n) r)
 | _,_,n, .lst _ _ _ _=>by rw [Yc] at n;cases n
 | _,_,n, .tape _=>by rw [Yc] at n;cases n
 | _,_,n, .scr _=>by rw [Yc] at n;cases n
 | _,_,n, .dct _ _ _=>by rw [Yc] at n;cases n
theorem Ay.free:∀{vs:List V} {xs:List PV},Xh xs=true->Ay K T M H vs xs->Ay K T M' H vs xs
 | _,_,_, .nil=> .nil
 | _,_,n, .cons h t=>by
   rw [Xh,Bool.and_eq_true] at n
   exact .cons (Cg.free n.1 h) (Ay.free n.2 t)
end
end
end PL
end
section
namespace PL
open PySem PySem.Spec PyProof.Rows L2
abbrev AE:=BB->(PV->Prop)->Prop
abbrev AT:=BB->(Bool->Prop)->Prop
abbrev AA:=BB->(List PV->Prop)->Prop
abbrev AF:=List PV->(PV->Prop)->Prop
def QM:BB->Nat->Option AV
 | [],_=>none
 | x::_,0=>x
 | _::r,n+1=>QM r n
theorem LO:∀{τ:BB} {i:Nat} {a:AV},QM τ i=some a->τ[i]? =some (some a)
 | [],_,_,h=>by simp [QM] at h
 | x::_,0,_,h=>by simpa [QM] using h
 | _::r,n+1,a,h=>by
   have:=LO (τ:=r) (i:=n) (a:=a) (by simpa [QM] using h)
   simpa using this
def Yd (x:PV) (R:Int->Prop):Prop:=match x with | .int i=>R i|_=>False
def Zu (x y:PV) (R:Int->Int->Prop):Prop:=match x,y with | .int i, .int j=>R i j|_,_=>False
def Zt (x:PV) (R:Bool->Prop):Prop:=match x with | .bl b=>R b|_=>False
def MI (o:Option PV) (R:PV->Prop):Prop:=match o with | some z=>R z|none=>False
theorem RG {o:Option PV} {R:PV->Prop} (h:MI o R):∃z,o=some z/\R z:=by
 cases o <;> first | exact ⟨_,rfl,h⟩|exact h.elim
def RH (x:PV) (R:List PV->Prop):Prop:=match x with | .tup xs=>R xs | .lst xs=>R xs|_=>False
theorem RF {x:PV} {R:Int->Prop} (h:Yd x R):∃i,x= .int i/\R i:=by
 cases x <;> first | exact ⟨_,rfl,h⟩|exact h.elim
theorem SJ {x y:PV} {R:Int->Int->Prop} (h:Zu x y R):∃i j,x= .int i/\y= .int j/\R i j:=by
 cases x <;> cases y <;> first | exact ⟨_,_,rfl,rfl,h⟩|exact h.elim
theorem Vn {x:PV} {R:Bool->Prop} (h:Zt x R):∃b,x= .bl b/\R b:=by
 cases x <;> first | exact ⟨_,rfl,h⟩|exact h.elim
theorem Im {x:PV} {R:List PV->Prop} (h:RH x R):∃xs,(x= .tup xs\/x= .lst xs)/\R xs:=by
 cases x <;> first | exact ⟨_, .inl rfl,h⟩|exact ⟨_, .inr rfl,h⟩|exact h.elim
theorem Cg.toI {K:PySem.W.Frag} {T M:Addr->Prop} {H:Hp} {v:V} {i:Int} (r:Cg K T M H v (.int i)):v= .int i:=by cases r;rfl
theorem Cg.toB {K:PySem.W.Frag} {T M:Addr->Prop} {H:Hp} {v:V} {i:Bool} (r:Cg K T M H v (.bl i)):v= .bl i:=by cases r;rfl
def HL (K:PySem.W.Frag) (t:TE) (a:AE):Prop:=∀(B:Ck) (T:Addr->Prop) (σ:L2.St) (τ:BB) (H:Hp) (Q:VK) (AQ:PV->Prop),SR K B T H σ τ->a τ AQ->
 (∀v x T' H',Dh T H T' H'->Cg K T' (mt B σ τ) H' v x->AQ x->Q v H')->t σ H Q
def L5 (K:PySem.W.Frag) (t:TT) (a:AT):Prop:=∀(B:Ck) (T:Addr->Prop) (σ:L2.St) (τ:BB) (H:Hp) (Q:Bool->Hp->Prop) (AQ:Bool->Prop),SR K B T H σ τ->a τ AQ->
 (∀b T' H',Dh T H T' H'->AQ b->Q b H')->t σ H Q
def Y1 (K:PySem.W.Frag) (t:TA) (a:AA):Prop:=∀(B:Ck) (T:Addr->Prop) (σ:L2.St) (τ:BB) (H:Hp) (Q:List V->Hp->Prop) (AQ:List PV->Prop),SR K B T H σ τ->a τ AQ->
 (∀vs xs T' H',Dh T H T' H'->Ay K T' (mt B σ τ) H' vs xs->AQ xs->Q vs H')->t σ H Q
def W1 (K:PySem.W.Frag) (t:TE) (a:AA):Prop:=∀(B:Ck) (T:Addr->Prop) (σ:L2.St) (τ:BB) (H:Hp) (Q:VK) (AQ:List PV->Prop),SR K B T H σ τ->a τ AQ->
 (∀p vs xs T' H',Dh T H T' H'->SR K (B.add p) T' H' σ τ->H p=none->H' p=some (.lst vs)->¬T' p->Ay K T' (mt (B.add p) σ τ) H' vs xs->AQ xs->Q (.ref p) H')->t σ H Q
def SE (X:Cx) (e:Expr) (a:AE):Prop:=∃t,PE X e t/\HL X.K t a
def O8 (X:Cx) (e:Expr) (a:AT):Prop:=∃t,PT X e t/\L5 X.K t a
def SW (X:Cx) (e:Expr) (a:AT):Prop:=∃t,PW X e t/\L5 X.K t a
def SA (X:Cx) (es:List Expr) (a:AA):Prop:=∃t,PA X es t/\Y1 X.K t a
def SF (X:Cx) (e:Expr) (a:AA):Prop:=∃t,PE X e t/\W1 X.K t a
abbrev Ia:=PV->PV->(PV->Prop)->Prop
def CJ (K:PySem.W.Frag) (r:R2) (f:Ia):Prop:=∀(T M:Addr->Prop) (H:Hp) (u v:V) (x y:PV) (Q:VK) (AQ:PV->Prop),Jd T M H->Cg K T M H u x->Cg K T M H v y->f x y AQ->
 (∀w z T' H',Dh T H T' H'->Cg K T' M H' w z->AQ z->Q w H')->r u v H Q
def HM (K:PySem.W.Frag) (r:List V->Hp->VK->Prop) (f:AF):Prop:=∀(T M:Addr->Prop) (H:Hp) (us:List V) (xs:List PV) (Q:VK) (AQ:PV->Prop),Jd T M H->Ay K T M H us xs->f xs AQ->
 (∀w z T' H',Dh T H T' H'->Cg K T' M H' w z->AQ z->Q w H')->r us H Q
section
variable {X:Cx} {a b c:Expr} {es:List Expr} {pos:Pos} {ta tb:AE} {tA tB':AT}
def aV (i:Nat):AE:=λτ Q=>match QM τ i with | some (.val x)=>Q x|_=>False
theorem b6 {i:Nat} {τ:BB} {Q:PV->Prop} (h:aV i τ Q):∃x,τ[i]? =some (some (.val x))/\Q x:=by
 unfold aV at h
 cases e:QM τ i with
 | none=>rw [e] at h;exact h.elim
 | some z=>
   rw [e] at h
   cases z with
   | own xs=>exact h.elim
   | val x=>exact ⟨x,LO e,h⟩
theorem AJ (i:Nat) {x:Str} {pos:Pos} (hN:X.N[i]? =some x:=by rfl) (hv:bg X.env.scope x:=by first | exact Or.inl rfl|exact Or.inr (Or.inl rfl)|exact Or.inr (Or.inr rfl)) (hd:(x==("__debug__" :Str))=false:=by decide)
 (Ma:(x==("__classdict__" :Str))=false:=by decide):SE X (.Name x pos) (aV i):=by
 refine ⟨_,RJ hN hv hd Ma,λB T σ τ H Q AQ s h k=> ?_⟩
 obtain ⟨x,e,q⟩:=b6 h
 obtain ⟨v,e1,r⟩:=s.val i x e
 exact ⟨v,e1,k v x T H (.refl s.tp) r q⟩
def aC (x:PV):AE:=λ_ Q=>Q x
theorem Sg {v:V} {x:PV} (h:∀T M H,Cg X.K T M H v x):HL X.K (tC v) (aC x):=λB T σ τ H Q AQ s h' k=>k v x T H (.refl s.tp) (h _ _ _) h'
theorem AH {i:Int} {j pos}:SE X (.Constant (.int i) j pos) (aC (.int i)):=⟨_,A5,Sg λ_ _ _=> .int i⟩
theorem Mw {i:Bool} {j pos}:SE X (.Constant (.bool i) j pos) (aC (.bl i)):=⟨_,dC,Sg λ_ _ _=> .bl i⟩
theorem Fy {j pos}:SE X (.Constant .none j pos) (aC .non):=⟨_,Z6,Sg λ_ _ _=> .non⟩
theorem CN {i:Str} {j pos}:SE X (.Constant (.str i) j pos) (aC (.str i)):=⟨_,G2,Sg λ_ _ _=> .str i⟩
def AY (f:Ia) (ta tb:AE):AE:=λτ Q=>ta τ λx=>tb τ λy=>f x y Q
theorem OG {r:R2} {f:Ia} {t u:TE} (hr:CJ X.K r f) (ha:HL X.K t ta) (hb:HL X.K u tb):HL X.K (dt r t u) (AY f ta tb):=by
 intro B T σ τ H Q AQ s h k
 refine ha B T σ τ H _ _ s h λv x T1 H1 s1 r1 h1=> ?_
 refine hb B T1 σ τ H1 _ _ (s.stp s1) h1 λw y T2 H2 s2 r2 h2=> ?_
 have s':=(s.stp s1).stp s2
 exact hr T2 _ H2 v w x y Q AQ s'.va (r1.stp s2 (s.stp s1).va) r2 h2 λw z T3 H3 s3 r3 q=>k w z T3 H3 ((s1.trans s2).trans s3) r3 q
theorem AZ {op:Operator} {r:R2} {f:Ia} (ho:Dc X (binaryOp op) r/\CJ X.K r f) (ha:SE X a ta) (hb:SE X b tb):SE X (.BinOp a op b pos) (AY f ta tb):=
 let ⟨_,p,s⟩:=ha;let ⟨_,p',s'⟩:=hb;⟨_,CY ho.1 p p',OG ho.2 s s'⟩
theorem FH {op:CmpOp} {r:R2} {f:Ia} (ho:Dc X (compareOp op) r/\CJ X.K r f) (ha:SE X a ta) (hb:SE X b tb) (hm:behindInMarks op b=false):SE X (.Compare a [op] [b] pos) (AY f ta tb):=
 let ⟨_,p,s⟩:=ha;let ⟨_,p',s'⟩:=hb;⟨_,SL ho.1 p p' hm,OG ho.2 s s'⟩
theorem db {r:R2} {f:Ia} (ho:Wa X r/\CJ X.K r f) (ha:SE X a ta) (hb:SE X b tb) (hs:Jt b):SE X (.Subscript a b pos) (AY f ta tb):=
 let ⟨_,p,s⟩:=ha;let ⟨_,p',s'⟩:=hb;⟨_,He ho.1 p p' hs,OG ho.2 s s'⟩
def fI (g:Int->Int->PV):Ia:=λx y Q=>Zu x y λi j=>Q (g i j)
def bB (C:Int->Int->Prop) (g:Int->Int->PV):Ia:=λx y Q=>Zu x y λi j=>C i j/\Q (g i j)
theorem Sf {g:Int->Int->V} {g':Int->Int->PV} (hg:∀i j T M H,Cg X.K T M H (g i j) (g' i j)):CJ X.K (OX g) (fI g'):=by
 intro T M H u v x y Q AQ va ru rv h k
 obtain ⟨i,j,rfl,rfl,q⟩:=SJ h
 exact ⟨i,j,ru.toI,rv.toI,k _ _ T H (.refl va.tp) (hg i j T M H) q⟩
theorem OD {C:Int->Int->Prop} {g:Int->Int->V} {g':Int->Int->PV} (hg:∀i j T M H,Cg X.K T M H (g i j) (g' i j)):CJ X.K (rI C g) (bB C g'):=by
 intro T M H u v x y Q AQ va ru rv h k
 obtain ⟨i,j,rfl,rfl,c,q⟩:=SJ h
 exact ⟨i,j,ru.toI,rv.toI,c,k _ _ T H (.refl va.tp) (hg i j T M H) q⟩
abbrev E7:Ia:=fI λi j=> .int (i-j)
abbrev Wd:Ia:=fI λi j=> .bl (decide (i<j))
abbrev gC:Ia:=fI λi j=> .bl (decide (i<=j))
abbrev bA:Ia:=fI λi j=> .bl (decide (j<i))
abbrev lO:Ia:=fI λi j=> .bl (decide (j<=i))
theorem CO:Dc X (binaryOp .Sub) (OX λi j=> .int (i-j))/\CJ X.K (OX λi j=> .int (i-j)) E7:=⟨Z4,Sf λi j _ _ _=> .int _⟩
theorem GY:Dc X (compareOp .Lt) (OX λi j=> .bl (decide (i<j)))/\CJ X.K (OX λi j=> .bl (decide (i<j))) Wd:=⟨Yf,Sf λi j _ _ _=> .bl _⟩
theorem dh:Dc X (compareOp .LtE) (OX λi j=> .bl (decide (i<=j)))/\CJ X.K (OX λi j=> .bl (decide (i<=j))) gC:=⟨c8,Sf λi j _ _ _=> .bl _⟩
theorem Sm:Dc X (compareOp .Gt) (OX λi j=> .bl (decide (j<i)))/\CJ X.K (OX λi j=> .bl (decide (j<i))) bA:=⟨Ye,Sf λi j _ _ _=> .bl _⟩
structure MulOk (i j:Int):Prop where
 l:i.natAbs<2^1000000
 r:j.natAbs<2^1000000
theorem Xr:Dc X (binaryOp .Mult) (rI MulOk λi j=> .int (i*j)):=Zw λ_ _ _ _ _ _ _ hc q=>mul_int q (.of_le (Jv hc.l) (Jv hc.r) (by decide))
abbrev Co:Ia:=bB MulOk λi j=> .int (i*j)
theorem BA:Dc X (binaryOp .Mult) (rI MulOk λi j=> .int (i*j))/\CJ X.K (rI MulOk λi j=> .int (i*j)) Co:=⟨Xr,OD λi j _ _ _=> .int _⟩
structure Rl (i j:Int):Prop where
 ne:j≠0
 lt:j.natAbs<2^8900
theorem Vr:Dc X (binaryOp .FloorDiv) (rI Rl λi j=> .int (i.fdiv j)):=Zw λi j _ _ _ _ _ hc q=>
 floordiv_int hc.ne q (.inl (PyProof.noPylong_of_log2 (Nat.lt_trans (Ha hc.lt (by decide)) (by decide))))
abbrev Uz:Ia:=bB Rl λi j=> .int (i.fdiv j)
theorem KD:Dc X (binaryOp .FloorDiv) (rI Rl λi j=> .int (i.fdiv j))/\CJ X.K (rI Rl λi j=> .int (i.fdiv j)) Uz:=⟨Vr,OD λi j _ _ _=> .int _⟩
abbrev TZ:Ia:=bB (λ_ j=>j≠0) λi j=> .int (i.fmod j)
theorem RT:Dc X (binaryOp .Mod) (rI (λ_ j=>j≠0) λi j=> .int (i.fmod j))/\CJ X.K (rI (λ_ j=>j≠0) λi j=> .int (i.fmod j)) TZ:=⟨Xq,OD λi j _ _ _=> .int _⟩
abbrev XD:Ia:=bB Wn λi j=> .int (i^j.toNat)
theorem RU:Dc X (binaryOp .Pow) (rI Wn λi j=> .int (i^j.toNat))/\CJ X.K (rI Wn λi j=> .int (i^j.toNat)) XD:=⟨Vs,OD λi j _ _ _=> .int _⟩
def gm:PV->Bool | .non=>true|_=>false
def cD:Ia:=λx y Q=>match y with | .non=>Q (.bl (gm x))|_=>False
theorem Xa {K:PySem.W.Frag} {T M:Addr->Prop} {H:Hp} {v:V} {x:PV} (r:Cg K T M H v x):decide (v= .non)=gm x:=by cases r <;> simp [gm]
theorem aY:Dc X (compareOp .Is) (λx y H Q=>y= .non/\Q (.bl (decide (x= .non))) H)/\CJ X.K (λx y H Q=>y= .non/\Q (.bl (decide (x= .non))) H) cD:=by
 refine ⟨Z1,λT M H u v x y Q AQ va ru rv h k=> ?_⟩
 cases y <;> first | exact h.elim|skip
 cases rv
 refine ⟨rfl, ?_⟩
 rw [Xa ru]
 exact k _ _ T H (.refl va.tp) (.bl _) h
def Ah:Ia:=λx y Q=>RH x λxs=>Yd y λi=>MI (EE xs i) Q
theorem Rq {K:PySem.W.Frag} {T M:Addr->Prop} {H:Hp} {vs:List V} {xs:List PV} {i:Int} {z:PV} (r:Ay K T M H vs xs) (h:EE xs i=some z):∃v,EE vs i=some v/\Cg K T M H v z:=by
 unfold EE at h ⊢
 rw [r.length]
 cases e:UV xs.length i with
 | none=>rw [e] at h;cases h
 | some j=>
   rw [e] at h
   exact r.get h
def dL (K:PySem.W.Frag):R2:=λx y H Q=>dJ K x y H Q\/dM K x y H Q
theorem dg:Wa X (dL X.K)/\CJ X.K (dL X.K) Ah:=by
 refine ⟨EK.or Zd,λT M H u v x y Q AQ va ru rv h k=> ?_⟩
 obtain ⟨xs,hx,h1⟩:=Im h
 obtain ⟨i,rfl,h2⟩:=RF h1
 cases rv.toI
 obtain ⟨z,e,q⟩:=RG h2
 rcases hx with rfl|rfl
 ·cases ru with
  | tup hq r=>
    obtain ⟨w,ew,rw'⟩:=Rq r e
    exact .inr ⟨_,_,i,w,rfl,rfl,hq.sq,ew,k w z T H (.refl va.tp) rw' q⟩
 ·cases ru with
  | lst hq t m r=>
    obtain ⟨w,ew,rw'⟩:=Rq r e
    exact .inl ⟨_,_,i,w,rfl,rfl, .inl (.inl hq),ew,k w z T H (.refl va.tp) rw' q⟩
def OV (f:PV->(PV->Prop)->Prop) (ta:AE):AE:=λτ Q=>ta τ λx=>f x Q
def Fa (x:PV) (Q:PV->Prop):Prop:=Yd x λi=>Q (.int (-i))
theorem Cj (ha:SE X a ta):SE X (.UnaryOp .USub a pos) (OV Fa ta):=by
 obtain ⟨t,p,s⟩:=ha
 refine ⟨_,dF ap p,λB T σ τ H Q AQ sr h k=>s B T σ τ H _ _ sr h λv x T1 H1 s1 r1 h1=> ?_⟩
 obtain ⟨i,rfl,q⟩:=RF h1
 exact ⟨i,r1.toI,k _ _ T1 H1 s1 (.int _) q⟩
def fy (ta tb:AE):AE:=λτ Q=>ta τ λx=>Zt x λc=>if c=true then Q (.bl true) else tb τ Q
theorem aQ {op} (h:SE X a ta):SE X (.BoolOp op [a] pos) ta:=let ⟨_,p,s⟩:=h;⟨_,Z7 p,s⟩
theorem dc {rest:List Expr} (ha:SE X a ta) (hb:SE X (.BoolOp .Or (b::rest) pos) tb):SE X (.BoolOp .Or (a::b::rest) pos) (fy ta tb):=by
 obtain ⟨t,p,s⟩:=ha
 obtain ⟨t',p',s'⟩:=hb
 refine ⟨_,dE p p',λB T σ τ H Q AQ sr h k=>s B T σ τ H _ _ sr h λv x T1 H1 s1 r1 h1=> ?_⟩
 obtain ⟨i,rfl,q⟩:=Vn h1
 refine ⟨i,r1.toB, ?_⟩
 cases i with
 | false=>rw [if_neg Bool.false_ne_true] at q ⊢;exact s' B T1 σ τ H1 _ _ (sr.stp s1) q λw y T2 H2 s2 r2 h2=>k w y T2 H2 (s1.trans s2) r2 h2
 | true=>rw [if_pos rfl] at q ⊢;exact k _ _ T1 H1 s1 (.bl _) q
def A2 (ta:AE):AT:=λτ Q=>ta τ λx=>Zt x Q
theorem Sj {t:TE} (s:HL X.K t ta):L5 X.K (Ym t) (A2 ta):=λB T σ τ H Q AQ sr h k=>s B T σ τ H _ _ sr h λv x T1 H1 s1 r1 h1=>by
 obtain ⟨i,rfl,q⟩:=Vn h1
 exact ⟨i,r1.toB,k _ T1 H1 s1 q⟩
theorem Rb {op:CmpOp} {r:R2} {f:Ia} (ho:Dc X (compareOp op) r/\CJ X.K r f) (ha:SE X a ta) (hb:SE X b tb) (hm:behindInMarks op b=false):O8 X (.Compare a [op] [b] pos) (A2 (AY f ta tb)):=
 let ⟨_,p,s⟩:=ha;let ⟨_,p',s'⟩:=hb;⟨_,N5 ho.1 p p' hm,Sj (OG ho.2 s s')⟩
theorem BW {e:Expr} (h:SE X e ta) (he:∀whole,isTrue e X.env whole=(do let v <-whole;standAt e.pos;holding [v] (truthy v)):=by intro _;rfl):O8 X e (A2 ta):=
 let ⟨_,p,s⟩:=h;⟨_,aE p he,Sj s⟩
def Er (t:AT):AT:=λτ Q=>t τ λc=>Q (!c)
def K5 (t u:AT):AT:=λτ Q=>t τ λc=>if c=true then u τ Q else Q false
def TF (t u:AT):AT:=λτ Q=>t τ λc=>if c=true then Q true else u τ Q
theorem ED (ha:O8 X a tA):O8 X (.UnaryOp .Not a pos) (Er tA):=by
 obtain ⟨t,p,s⟩:=ha
 exact ⟨_,aD p,λB T σ τ H Q AQ sr h k=>s B T σ τ H _ _ sr h λv T1 H1 s1 h1=>k _ T1 H1 s1 h1⟩
theorem KE (ha:O8 X a tA):SW X (.BoolOp .And [a] pos) tA:=let ⟨_,p,s⟩:=ha;⟨_,X7 p,s⟩
theorem OO (ha:O8 X a tA):SW X (.BoolOp .Or [a] pos) tA:=let ⟨_,p,s⟩:=ha;⟨_,aG p,s⟩
theorem ON {rest:List Expr} (ha:O8 X a tA) (hb:SW X (.BoolOp .And (b::rest) pos) tB'):SW X (.BoolOp .And (a::b::rest) pos) (K5 tA tB'):=by
 obtain ⟨t,p,s⟩:=ha
 obtain ⟨t',p',s'⟩:=hb
 refine ⟨_,aF p p',λB T σ τ H Q AQ sr h k=>s B T σ τ H _ _ sr h λi T1 H1 s1 q=> ?_⟩
 cases i with
 | true=>rw [if_pos rfl] at q ⊢;exact s' B T1 σ τ H1 _ _ (sr.stp s1) q λb T2 H2 s2 h2=>k b T2 H2 (s1.trans s2) h2
 | false=>rw [if_neg Bool.false_ne_true] at q ⊢;exact k _ T1 H1 s1 q
theorem Sx {rest:List Expr} (ha:O8 X a tA) (hb:SW X (.BoolOp .Or (b::rest) pos) tB'):SW X (.BoolOp .Or (a::b::rest) pos) (TF tA tB'):=by
 obtain ⟨t,p,s⟩:=ha
 obtain ⟨t',p',s'⟩:=hb
 refine ⟨_,dG p p',λB T σ τ H Q AQ sr h k=>s B T σ τ H _ _ sr h λi T1 H1 s1 q=> ?_⟩
 cases i with
 | false=>rw [if_neg Bool.false_ne_true] at q ⊢;exact s' B T1 σ τ H1 _ _ (sr.stp s1) q λb T2 H2 s2 h2=>k b T2 H2 (s1.trans s2) h2
 | true=>rw [if_pos rfl] at q ⊢;exact k _ T1 H1 s1 q
theorem QD (h:SW X a tA):O8 X a tA:=let ⟨_,p,s⟩:=h;⟨_,p.pt,s⟩
def Y5 (t:AT) (ta tb:AE):AE:=λτ Q=>t τ λc=>if c=true then ta τ Q else tb τ Q
theorem P5 (hc:O8 X c tA) (ha:SE X a ta) (hb:SE X b tb):SE X (.IfExp c a b pos) (Y5 tA ta tb):=by
 obtain ⟨t,p,s⟩:=hc
 obtain ⟨t1,p1,s1'⟩:=ha
 obtain ⟨t2,p2,s2'⟩:=hb
 refine ⟨_,Vv p p1 p2,λB T σ τ H Q AQ sr h k=>s B T σ τ H _ _ sr h λi T1 H1 s1 q=> ?_⟩
 cases i with
 | true=>rw [if_pos rfl] at q ⊢;exact s1' B T1 σ τ H1 _ _ (sr.stp s1) q λw y T2 H2 s2 r2 h2=>k w y T2 H2 (s1.trans s2) r2 h2
 | false=>rw [if_neg Bool.false_ne_true] at q ⊢;exact s2' B T1 σ τ H1 _ _ (sr.stp s1) q λw y T2 H2 s2 r2 h2=>k w y T2 H2 (s1.trans s2) r2 h2
def AL:AA:=λ_ Q=>Q []
def AB (ta:AE) (r:AA):AA:=λτ Q=>ta τ λx=>r τ λxs=>Q (x::xs)
theorem Iu:SA X [] AL:=⟨_,Ip,λB T σ τ H Q AQ sr h k=>k [] [] T H (.refl sr.tp) .nil h⟩
theorem BE {e:Expr} {r:AA} (ha:SE X e ta) (hr:SA X es r) (hs:starEach (e::es) X.env=(false,eval e X.env)::starEach es X.env:=by rfl):SA X (e::es) (AB ta r):=by
 obtain ⟨t,p,s⟩:=ha
 obtain ⟨t',p',s'⟩:=hr
 refine ⟨_,FD p p' hs,λB T σ τ H Q AQ sr h k=>s B T σ τ H _ _ sr h λv x T1 H1 s1 r1 h1=> ?_⟩
 exact s' B T1 σ τ H1 _ _ (sr.stp s1) h1 λvs xs T2 H2 s2 r2 h2=>k _ _ T2 H2 (s1.trans s2) (.cons (r1.stp s2 (sr.stp s1).va) r2) h2
def B9 (r:AA):AE:=λτ Q=>r τ λxs=>xs.length<=sizeLine/\Q (.tup xs)
theorem Az {x1} {r:AA} (h:SA X es r):SE X (.Tuple es x1 pos) (B9 r):=by
 obtain ⟨t,p,s⟩:=h
 refine ⟨_,Z8 p,λB T σ τ H Q AQ sr h k=>s B T σ τ H _ _ sr h λvs xs T1 H1 s1 r1 h1=>⟨by rw [r1.length];exact h1.1,λq hq=> ?_⟩⟩
 have l:=Dh.lay (o:= .tup vs) (sr.stp s1).tp hq
 exact k _ _ T1 _ (s1.trans l) (.tup (.inl A1) (r1.stp l (sr.stp s1).va)) h1.2
def E3 (r:AA):AA:=λτ Q=>r τ λxs=>xs.length<=sizeLine/\Q xs
theorem Xb {K:PySem.W.Frag} {B:Ck} {T:Addr->Prop} {H:Hp} {σ:L2.St} {τ:BB} {p:Addr} {vs:List V} {xs:List PV} (sr:SR K B T H σ τ) (hq:H p=none) (r:Ay K T (mt B σ τ) H vs xs):
 Dh T H T (upd H p (.lst vs))/\SR K (B.add p) T (upd H p (.lst vs)) σ τ/\¬T p/\Ay K T (mt (B.add p) σ τ) (upd H p (.lst vs)) vs xs:=by
 have l:=Dh.lay (o:= .lst vs) sr.tp hq
 have nt:¬T p:=λz=>by obtain ⟨o,e,_⟩:=(sr.tp p z).mut;rw [hq] at e;cases e
 refine ⟨l,sr.add l hq A1 Jb.lst nt,nt,r.mv ⟨sr.va,λb o t _ e=>l.keep b o t e,l.sub,λb n t=>t,λb n z=> ?_⟩⟩
 rcases z with (z|z)|z
 ·exact .inl z
 ·subst z;exact absurd hq n
 ·exact .inr z
theorem Ca {r:AA} (h:SA X es r):SF X (.List es pos) (E3 r):=by
 obtain ⟨t,p,s⟩:=h
 refine ⟨_,Vw p,λB T σ τ H Q AQ sr h k=>s B T σ τ H _ _ sr h λvs xs T1 H1 s1 r1 h1=>⟨by rw [r1.length];exact h1.1,λq hq=> ?_⟩⟩
 obtain ⟨l,sr2,nt,r2⟩:=Xb (sr.stp s1) hq r1
 exact k q vs xs T1 _ (s1.trans l) sr2 (s1.none hq) A1 nt r2 h1.2
def IN (r:AA):AE:=λτ Q=>r τ λxs=>Q (.lst xs)
theorem WC {t:TE} {r:AA} (s:W1 X.K t r):HL X.K t (IN r):=λB T σ τ H Q AQ sr h k=>s B T σ τ H _ _ sr h λp vs xs T1 H1 s1 sr1 hn hp nt r1 h1=>by
 have ho:¬Ch σ τ p:=λo=>by obtain ⟨_,e,_⟩:=sr.ownH o;rw [hn] at e;cases e
 have hb:¬B.M p:=λo=>by obtain ⟨_,e,_⟩:=sr.bm p o;rw [hn] at e;cases e
 exact k _ _ T1 H1 s1 (.lst hp nt (λz=>z.elim hb ho) (r1.mv (.anti sr1.va λa m=>m.elim (λz=> .inl (.inl z)) .inr))) h1
theorem Eg {r:AA} (h:SF X a r):SE X a (IN r):=let ⟨_,p,s⟩:=h;⟨_,p,WC s⟩
def BS (K:PySem.W.Frag) (n:Nat) (F:AF):Sp:=λvs H Q _=>∃(T M:Addr->Prop) (xs:List PV) (AQ:PV->Prop),Jd T M H/\(∀a,M a->¬T a)/\Ay K T M H vs xs/\xs.length=n/\F xs AQ/\
 ∀v x T' H',Dh T H T' H'->Cg K T' M H' v x->AQ x->Q v H'
def AM (n:Nat) (F:AF) (r:AA):AE:=λτ Q=>r τ λxs=>xs.length=n/\F xs Q
theorem AK {x:Str} {p:Pos} {e:Expr} {k n:Nat} {ps:List Str} {F:AF} {r:AA} (D:Has X.prog X.w X.K X.mg X.base k x ps (BS X.K n F)) (hr:Room k X.A) (hg:Gl X x) (ha:SA X (e::es) r)
 (hs:starEach (e::es) X.env=(false,eval e X.env)::starEach es X.env:=by rfl) (hpl:(backTo pos (starEach es X.env)).any (·.1)=false:=by rfl) (hd:(x==("__debug__" :Str))=false:=by decide):
 SE X (.Call (.Name x p) (e::es) [] pos) (AM n F r):=by
 obtain ⟨t,pa,s⟩:=ha
 refine ⟨_,Z5 D hr hg pa hs hpl hd,λB T σ τ H Q AQ sr h k=>s B T σ τ H _ _ sr h λvs xs T1 H1 s1 r1 h1=> ?_⟩
 rw [List.append_nil]
 exact ⟨T1,_,xs,AQ,(sr.stp s1).va,λa m=>(sr.stp s1).nt m,r1,h1.1,h1.2,λv x T2 H2 s2 r2 q=>k v x T2 H2 (s1.trans s2) r2 q⟩
def Fd (f:AF) (r:AA):AE:=λτ Q=>r τ λxs=>f xs Q
theorem WB {rr:List V->Hp->VK->Prop} {f:AF} {t:TA} {r:AA} (hr:HM X.K rr f) (s:Y1 X.K t r):HL X.K (hV rr t) (Fd f r):=λB T σ τ H Q AQ sr h k=>s B T σ τ H _ _ sr h λvs xs T1 H1 s1 r1 h1=>
 hr T1 _ H1 vs xs Q AQ (sr.stp s1).va r1 h1 λw z T2 H2 s2 r2 q=>k w z T2 H2 (s1.trans s2) r2 q
theorem Be {id:String} {x:Str} {p:Pos} {e:Expr} {rr:List V->Hp->VK->Prop} {f:AF} {r:AA} (hc:DM X (.builtin id) rr/\HM X.K rr f) (hg:Gl X x) (hm:X.mg x=none) (hv:bootBuiltins x=some (.builtin id)) (ha:SA X (e::es) r)
 (hn:x≠"__name__" :=by decide) (hdb:(x==("__debug__" :Str))=false:=by decide) (he:starEach (e::es) X.env=(false,eval e X.env)::starEach es X.env:=by rfl) (hpl:(backTo pos (starEach es X.env)).any (·.1)=false:=by rfl):
 SE X (.Call (.Name x p) (e::es) [] pos) (Fd f r):=by
 obtain ⟨t,pa,s⟩:=ha
 exact ⟨_,Hd hc.1 hg hm hv pa hn hdb he hpl,WB hc.2 s⟩
theorem BO {T:String} {x:Str} {p:Pos} {e:Expr} {rr:List V->Hp->VK->Prop} {f:AF} {r:AA} (hc:DM X (.type T) rr/\HM X.K rr f) (hg:Gl X x) (hm:X.mg x=none) (hv:bootBuiltins x=some (.type T)) (ha:SA X (e::es) r)
 (hn:x≠"__name__" :=by decide) (hdb:(x==("__debug__" :Str))=false:=by decide) (he:starEach (e::es) X.env=(false,eval e X.env)::starEach es X.env:=by rfl) (hpl:(backTo pos (starEach es X.env)).any (·.1)=false:=by rfl):
 SE X (.Call (.Name x p) (e::es) [] pos) (Fd f r):=by
 obtain ⟨t,pa,s⟩:=ha
 exact ⟨_,Mi hc.1 hg hm hv pa hn hdb he hpl,WB hc.2 s⟩
end
end PL
end
section
namespace PL
open PySem PySem.Spec PyProof.Rows L2
section
variable {X:Cx}
theorem F0 {K:PySem.W.Frag} {T M:Addr->Prop} {H:Hp} {v:V} {xs:List PV} (r:Cg K T M H v (.tup xs)):∃a vs,v= .ref a/\JE K H a vs/\Ay K T M H vs xs:=by
 cases r with
 | tup h r=>exact ⟨_,_,rfl,h.sq,r⟩
theorem aa {K:PySem.W.Frag} {T M:Addr->Prop} {H:Hp} {v:V} {xs:List PV} (r:Cg K T M H v (.tup xs)):∃a vs,v= .ref a/\eY K H a vs/\Ay K T M H vs xs:=by
 cases r with
 | tup h r=>exact ⟨_,_,rfl,h,r⟩
theorem FM {K:PySem.W.Frag} {T M:Addr->Prop} {H:Hp} {v:V} {xs:List PV} (r:Cg K T M H v (.lst xs)):∃a vs,v= .ref a/\H a=some (.lst vs)/\¬T a/\¬M a/\Ay K T M H vs xs:=by
 cases r with
 | lst h t m r=>exact ⟨_,_,rfl,h,t,m,r⟩
theorem WA {K:PySem.W.Frag} {T M:Addr->Prop} {H:Hp} {v:V} {ns:List Int} (r:Cg K T M H v (.scr ns)):∃a,v= .ref a/\Fc K H a (ns.map V.int):=by
 cases r with
 | scr h=>
   rcases h with ⟨h,_,_⟩|h
   ·exact ⟨_,rfl, .inl h⟩
   ·exact ⟨_,rfl,h H⟩
def GF:AF:=λxs Q=>match xs with | [.tup ys] =>Q (.int ys.length) | [.lst ys] =>Q (.int ys.length) | [.scr ns] =>Q (.int ns.length)|_=>False
def dO (K:PySem.W.Frag):List V->Hp->VK->Prop:=λxs H Q=>∃p ys,xs= [.ref p] /\(Fc K H p ys\/JE K H p ys)/\Q (.int ys.length) H
theorem Ef:DM X (.builtin "len") (dO X.K)/\HM X.K (dO X.K) GF:=by
 refine ⟨HR,λT M H us xs Q AQ va r h k=> ?_⟩
 unfold GF at h
 split at h <;> first | exact h.elim|skip
 ·rename_i ys
  cases r with | cons r t=>cases t;obtain ⟨a,vs,rfl,hq,r⟩:=F0 r;refine ⟨a,vs,rfl, .inr hq, ?_⟩;rw [r.length];exact k _ _ T H (.refl va.tp) (.int _) h
 ·rename_i ys
  cases r with | cons r t=>cases t;obtain ⟨a,vs,rfl,hq,_,_,r⟩:=FM r;refine ⟨a,vs,rfl, .inl (.inl (.inl hq)), ?_⟩;rw [r.length];exact k _ _ T H (.refl va.tp) (.int _) h
 ·rename_i ns
  cases r with | cons r t=>cases t;obtain ⟨a,rfl,hq⟩:=WA r;refine ⟨a,_,rfl, .inl hq, ?_⟩;rw [List.length_map];exact k _ _ T H (.refl va.tp) (.int _) h
def Tc:AF:=λxs Q=>match xs with | [.int i] =>Q (.int i.natAbs)|_=>False
theorem OB:DM X (.builtin "abs") (λxs H Q=>∃i,xs= [.int i] /\Q (.int (if i<0 then -i else i)) H)/\HM X.K (λxs H Q=>∃i,xs= [.int i] /\Q (.int (if i<0 then -i else i)) H) Tc:=by
 refine ⟨K8,λT M H us xs Q AQ va r h k=> ?_⟩
 unfold Tc at h
 split at h <;> first | exact h.elim|skip
 rename_i i
 cases r with
 | cons r t=>
   cases t
   cases r
   refine ⟨i,rfl, ?_⟩
   rw [show (if i<0 then -i else i)=(i.natAbs:Int) by split <;> omega]
   exact k _ _ T H (.refl va.tp) (.int _) h
def cF (g:Int->Int->Int):AF:=λxs Q=>match xs with | [.int i, .int j] =>Q (.int (g i j))|_=>False
theorem aU {g g':Int->Int->Int} (hg:∀i j,g i j=g' i j):HM X.K (λxs H Q=>∃i j,xs= [.int i, .int j] /\Q (.int (g i j)) H) (cF g'):=by
 intro T M H us xs Q AQ va r h k
 unfold cF at h
 split at h <;> first | exact h.elim|skip
 rename_i i j
 cases r with
 | cons r t=>
   cases t with
   | cons r2 t=>
     cases t;cases r;cases r2
     refine ⟨i,j,rfl, ?_⟩
     rw [hg]
     exact k _ _ T H (.refl va.tp) (.int _) h
theorem aO (hc:X.calm=true):DM X (.builtin "min") (λxs H Q=>∃i j,xs= [.int i, .int j] /\Q (.int (if j<i then j else i)) H)/\HM X.K (λxs H Q=>∃i j,xs= [.int i, .int j] /\Q (.int (if j<i then j else i)) H) (cF min):=
 ⟨TR hc,aU λi j=>by split <;> omega⟩
def ZL:AF:=λxs Q=>match xs with | [.int i] =>Q (.int i) | [.bl k] =>Q (.int (if k then 1 else 0))|_=>False
theorem aN:DM X (.type "int") (λxs H Q=>(∃i,xs= [.int i] /\Q (.int i) H)\/∃k,xs= [.bl k] /\Q (.int (if k then 1 else 0)) H)/\HM X.K (λxs H Q=>(∃i,xs= [.int i] /\Q (.int i) H)\/∃k,xs= [.bl k] /\Q (.int (if k then 1 else 0)) H) ZL:=by
 refine ⟨MU,λT M H us xs Q AQ va r h k=> ?_⟩
 unfold ZL at h
 split at h <;> first | exact h.elim|skip
 ·cases r with | cons r t=>cases t;cases r;exact .inl ⟨_,rfl,k _ _ T H (.refl va.tp) (.int _) h⟩
 ·cases r with | cons r t=>cases t;cases r;exact .inr ⟨_,rfl,k _ _ T H (.refl va.tp) (.int _) h⟩
def CC:AF:=λxs Q=>match xs with | [.tup ys] =>Q (.tup ys) | [.lst ys] =>Q (.tup ys)|_=>False
def V5 (K:PySem.W.Frag):List V->Hp->VK->Prop:=λxs H Q=>∃p ys,xs= [.ref p] /\((Fc K H p ys/\∀l,H l=none->Q (.ref l) (upd H l (.tup ys)))\/(JE K H p ys/\Q (.ref p) H))
theorem Bp:DM X (.type "tuple") (V5 X.K)/\HM X.K (V5 X.K) CC:=by
 refine ⟨L7,λT M H us xs Q AQ va r h k=> ?_⟩
 unfold CC at h
 split at h <;> first | exact h.elim|skip
 ·cases r with | cons r t=>cases t;obtain ⟨a,vs,rfl,hq,r'⟩:=aa r;exact ⟨a,vs,rfl, .inr ⟨hq.sq,k _ _ T H (.refl va.tp) (.tup hq r') h⟩⟩
 ·cases r with
  | cons r t=>
    cases t
    obtain ⟨a,vs,rfl,hq,_,_,r'⟩:=FM r
    refine ⟨a,vs,rfl, .inl ⟨.inl (.inl hq),λl hl=> ?_⟩⟩
    have s:=Dh.lay (o:= .tup vs) va.tp hl
    exact k _ _ T _ s (.tup (.inl A1) (r'.stp s va)) h
def kdOf:PV->Option Kd
 | .non=>some .non | .bl _=>some .bl | .int _=>some .int | .str _=>some .str | .tup _=>some .tup | .lst _=>some .lst | .tape=>none | .scr _=>none | .ty _=>none | .dct _=>none
def Sd:PV->PV->Option Bool
 | .non, .non=>some true | .non, .int _=>some false | .int _, .non=>some false | .non, .bl _=>some false | .bl _, .non=>some false | .non, .str _=>some false | .str _, .non=>some false
 | .int i, .int j=>some (decide (i=j)) | .bl i, .bl j=>some (decide (i=j)) | .str i, .str j=>some (decide (i=j))
 | .int _, .str _=>some false | .str _, .int _=>some false | .bl _, .str _=>some false | .str _, .bl _=>some false
 | _,_=>none
theorem P4 {K:PySem.W.Frag} {T M:Addr->Prop} {H:Hp} {u v:V} {x y:PV} {b:Bool} (r:Cg K T M H u x) (r2:Cg K T M H v y) (e:Sd x y=some b):YB u v=true/\decide (u=v)=b:=by
 cases r <;> cases r2 <;> simp [Sd] at e <;> subst e <;> simp [YB]
def YR:PV->Option Bool
 | .non=>some false | .bl b=>some b | .int i=>some (i != 0) | .tup xs=>some (!xs.isEmpty) | .lst xs=>some (!xs.isEmpty)|_=>none
def Y6 (ta:AE):AT:=λτ Q=>ta τ λx=>match YR x with | some b=>Q b|none=>False
theorem HY {K:PySem.W.Frag} {T M:Addr->Prop} {H:Hp} {vs:List V} {xs:List PV} (r:Ay K T M H vs xs):vs.isEmpty=xs.isEmpty:=by cases r <;> rfl
theorem af {a:Expr} {ta:AE} (ha:SE X a ta) (he:∀whole,isTrue a X.env whole=(do let v <-whole;standAt a.pos;holding [v] (truthy v)):=by intro _;rfl):O8 X a (Y6 ta):=by
 obtain ⟨t,p,s⟩:=ha
 refine ⟨_,V3 p he,λB T σ τ H Q AQ sr h k=>s B T σ τ H _ _ sr h λv x T1 H1 s1 r1 h1=> ?_⟩
 cases e:YR x with
 | none=>rw [e] at h1;exact h1.elim
 | some b=>
   rw [e] at h1
   refine ⟨b, ?_,k b T1 H1 s1 h1⟩
   cases r1 <;> simp [YR] at e
   ·exact e
   ·exact e.symm
   ·exact e.symm
   ·rename_i hq rr;exact .inr (.inl ⟨_,hq.sq,by rw [HY rr,e];simp⟩)
   ·rename_i hq _ _ rr;exact .inl ⟨_, .inl (.inl hq),by rw [HY rr,e];simp⟩
end
end PL
end
section
namespace PL
open PySem PySem.Spec PyProof.Rows L2
structure DW where
 nx:BB->Prop
 rt:PV->Prop
 bk:BB->Prop
 ct:BB->Prop
abbrev AS:=DW->BB->Prop
structure Ec (T:Addr->Prop) (H:Hp) (σ:L2.St) (τ:BB) (T':Addr->Prop) (H':Hp) (σ':L2.St) (τ':BB):Prop where
 keep:∀b o,¬T b->¬Ch σ τ b->H b=some o->H' b=some o
 sub:∀b,T b->T' b
 new:∀b,T' b->T b\/H b=none
 own:∀b,Ch σ' τ' b->Ch σ τ b\/H b=none
 some:∀b,H b≠none->H' b≠none
section
variable {K:PySem.W.Frag} {B:Ck} {T T' T1 T2:Addr->Prop} {H H' H1 H2:Hp} {σ σ' σ1 σ2:L2.St} {τ τ' τ1 τ2:BB}
theorem Ec.refl:Ec T H σ τ T H σ τ:=⟨λ_ _ _ _ e=>e,λ_ t=>t,λ_ t=> .inl t,λ_ o=> .inl o,λ_ h=>h⟩
theorem Ec.trans (a:Ec T H σ τ T1 H1 σ1 τ1) (b:Ec T1 H1 σ1 τ1 T2 H2 σ2 τ2):Ec T H σ τ T2 H2 σ2 τ2 where
 keep:=λc o t w e=>b.keep c o (λz=>(a.new c z).elim t λn=>by rw [n] at e;cases e) (λz=>(a.own c z).elim w λn=>by rw [n] at e;cases e) (a.keep c o t w e)
 sub:=λc t=>b.sub c (a.sub c t)
 new:=λc t=>(b.new c t).elim (λz=>a.new c z) λz=> .inr (by
  cases e:H c with
  | none=>rfl
  | some o=>exact absurd z (a.some c (by rw [e];exact λe=>nomatch e)))
 own:=λc t=>(b.own c t).elim (λz=>a.own c z) λz=> .inr (by
  cases e:H c with
  | none=>rfl
  | some o=>exact absurd z (a.some c (by rw [e];exact λe=>nomatch e)))
 some:=λc h=>b.some c (a.some c h)
theorem Dh.prog (s:Dh T H T' H'):Ec T H σ τ T' H' σ τ:=⟨λb o t _ e=>s.keep b o t e,s.sub,s.new,λ_ o=> .inl o,λ_ h=>s.some h⟩
theorem Ec.less (h:∀b,Ch σ' τ' b->Ch σ τ b):Ec T H σ τ T H σ' τ':=⟨λ_ _ _ _ e=>e,λ_ t=>t,λ_ t=> .inl t,λb o=> .inl (h b o),λ_ h=>h⟩
structure ER (K:PySem.W.Frag) (B:Ck) (T:Addr->Prop) (H:Hp) (σ:L2.St) (τ:BB) (D:Oy) (AD:DW):Prop where
 nx:∀T' H' σ' τ',Ec T H σ τ T' H' σ' τ'->SR K B T' H' σ' τ'->AD.nx τ'->D.nx σ' H'
 bk:∀T' H' σ' τ',Ec T H σ τ T' H' σ' τ'->SR K B T' H' σ' τ'->AD.bk τ'->D.bk σ' H'
 ct:∀T' H' σ' τ',Ec T H σ τ T' H' σ' τ'->SR K B T' H' σ' τ'->AD.ct τ'->D.ct σ' H'
 rt:∀v x T' H',Dh B.T B.H T' H'->Cg K T' B.M H' v x->AD.rt x->D.rt v H'
theorem ER.shift {D:Oy} {AD:DW} (e:ER K B T H σ τ D AD) (p:Ec T H σ τ T1 H1 σ1 τ1):ER K B T1 H1 σ1 τ1 D AD:=
 ⟨λ_ _ _ _ q=>e.nx _ _ _ _ (p.trans q),λ_ _ _ _ q=>e.bk _ _ _ _ (p.trans q),λ_ _ _ _ q=>e.ct _ _ _ _ (p.trans q),e.rt⟩
end
def Uo (K:PySem.W.Frag) (t:TS) (a:AS):Prop:=∀(B:Ck) (T:Addr->Prop) (σ:L2.St) (τ:BB) (H:Hp) (D:Oy) (AD:DW),SR K B T H σ τ->a AD τ->ER K B T H σ τ D AD->t D σ H
def SS (X:Cx) (st:Stmt) (a:AS):Prop:=∃t,PS X st t/\Uo X.K t a
def W0 (X:Cx) (st:List Stmt) (a:AS):Prop:=∃t,Rn X st t/\Uo X.K t a
theorem BD {α:Type} {l:List α} {i j:Nat} {x y:α} (h:(l.set i x)[j]? =some y):(j=i/\y=x/\i<l.length)\/(j≠i/\l[j]? =some y):=by
 by_cases e:j=i
 ·subst e
  rw [List.getElem?_set] at h
  simp at h
  obtain ⟨h1,h2⟩:=h
  exact .inl ⟨rfl,h2.symm,h1⟩
 ·rw [List.getElem?_set_ne (λz=>e z.symm)] at h
  exact .inr ⟨e,h⟩
section
variable {K:PySem.W.Frag} {B:Ck} {T:Addr->Prop} {H:Hp} {σ:L2.St} {τ:BB}
theorem De {i:Nat} {v:V} {x:PV} {b:Addr} (h:Ch (σ.set i (some v)) (τ.set i (some (.val x))) b):Ch σ τ b:=by
 obtain ⟨j,xs,h1,h2⟩:=h
 rcases BD h1 with ⟨_,e,_⟩|⟨n,R5⟩
 ·cases e
 ·rw [List.getElem?_set_ne (λz=>n z.symm)] at h2
  exact ⟨j,xs,R5,h2⟩
theorem SR.set {i:Nat} {v:V} {x:PV} (s:SR K B T H σ τ) (r:Cg K T (mt B σ τ) H v x):SR K B T H (σ.set i (some v)) (τ.set i (some (.val x))):=by
 have mv:Mv K T (mt B σ τ) H T (mt B (σ.set i (some v)) (τ.set i (some (.val x)))) H:= .anti s.va λa m=>m.elim .inl λz=> .inr (De z)
 refine ⟨by simp [s.len],λj y e=> ?_,λj ys e=> ?_,λj k ys zs p e1 e2 e3 e4=> ?_,s.tp,s.bm,s.bt,s.st⟩
 ·rcases BD e with ⟨rfl,e',hl⟩|⟨n,e'⟩
  ·cases e'
   refine ⟨v,by rw [List.getElem?_set];simp [s.len,hl],r.mv mv⟩
  ·obtain ⟨w,hw,rw'⟩:=s.val j y e'
   exact ⟨w,by rw [List.getElem?_set_ne (λz=>n z.symm)];exact hw,rw'.mv mv⟩
 ·rcases BD e with ⟨_,e',_⟩|⟨n,e'⟩
  ·cases e'
  ·obtain ⟨p,vs,h1,h2,h3,h4⟩:=s.own j ys e'
   exact ⟨p,vs,by rw [List.getElem?_set_ne (λz=>n z.symm)];exact h1,h2,h3.mv mv,h4⟩
 ·rcases BD e1 with ⟨_,e',_⟩|⟨n,e1'⟩
  ·cases e'
  ·rcases BD e2 with ⟨_,e',_⟩|⟨n2,e2'⟩
   ·cases e'
   ·rw [List.getElem?_set_ne (λz=>n z.symm)] at e3
    rw [List.getElem?_set_ne (λz=>n2 z.symm)] at e4
    exact s.dist j k ys zs p e1' e2' e3 e4
theorem JJ {i:Nat} {p:Addr} {xs:List PV} {b:Addr} (h:Ch (σ.set i (some (.ref p))) (τ.set i (some (.own xs))) b):Ch σ τ b\/b=p:=by
 obtain ⟨j,ys,h1,h2⟩:=h
 rcases BD h1 with ⟨rfl,e,_⟩|⟨n,R5⟩
 ·rcases BD h2 with ⟨_,e',_⟩|⟨n,_⟩
  ·cases e';exact .inr rfl
  ·exact absurd rfl n
 ·rw [List.getElem?_set_ne (λz=>n z.symm)] at h2
  exact .inl ⟨j,ys,R5,h2⟩
theorem SR.take {i:Nat} {p:Addr} {vs:List V} {xs:List PV} (s:SR K (B.add p) T H σ τ) (hp:H p=some (.lst vs)) (nt:¬T p) (no:¬Ch σ τ p) (nb:¬B.M p) (b0:B.H p=none) (r:Ay K T (mt (B.add p) σ τ) H vs xs):
 SR K B T H (σ.set i (some (.ref p))) (τ.set i (some (.own xs))):=by
 have mv:Mv K T (mt (B.add p) σ τ) H T (mt B (σ.set i (some (.ref p))) (τ.set i (some (.own xs)))) H:= .anti s.va λa m=>by
  rcases m with m|m
  ·exact .inl (.inl m)
  ·rcases JJ m with z|z
   ·exact .inr z
   ·exact .inl (.inr z)
 refine ⟨by simp [s.len],λj y e=> ?_,λj ys e=> ?_,λj k ys zs q e1 e2 e3 e4=> ?_,s.tp,λa m=>s.bm a (.inl m),λa m=>s.bt a (.inl m),s.st⟩
 ·rcases BD e with ⟨_,e',_⟩|⟨n,e'⟩
  ·cases e'
  ·obtain ⟨w,hw,rw'⟩:=s.val j y e'
   exact ⟨w,by rw [List.getElem?_set_ne (λz=>n z.symm)];exact hw,rw'.mv mv⟩
 ·rcases BD e with ⟨rfl,e',hl⟩|⟨n,e'⟩
  ·cases e'
   exact ⟨p,vs,by rw [List.getElem?_set];simp [s.len,hl],hp,r.mv mv,b0,nt,nb⟩
  ·obtain ⟨q,ws,h1,h2,h3,h4,h5,h6⟩:=s.own j ys e'
   exact ⟨q,ws,by rw [List.getElem?_set_ne (λz=>n z.symm)];exact h1,h2,h3.mv mv,h4,h5,λz=>h6 (.inl z)⟩
 ·rcases BD e1 with ⟨a1,_,_⟩|⟨n,e1'⟩
  ·rcases BD e2 with ⟨a2,_,_⟩|⟨n2,e2'⟩
   ·rw [a1,a2]
   ·subst a1
    rw [List.getElem?_set_ne (λz=>n2 z.symm)] at e4
    rcases BD e3 with ⟨_,e',_⟩|⟨n,_⟩
    ·cases e';exact absurd ⟨k,zs,e2',e4⟩ no
    ·exact absurd rfl n
  ·rw [List.getElem?_set_ne (λz=>n z.symm)] at e3
   rcases BD e2 with ⟨a2,_,_⟩|⟨n2,e2'⟩
   ·subst a2
    rcases BD e4 with ⟨_,e',_⟩|⟨n,_⟩
    ·cases e';exact absurd ⟨j,ys,e1',e3⟩ no
    ·exact absurd rfl n
   ·rw [List.getElem?_set_ne (λz=>n2 z.symm)] at e4
    exact s.dist j k ys zs q e1' e2' e3 e4
theorem SR.write {i:Nat} {p:Addr} {ws vs:List V} {xs ys:List PV} (s:SR K B T H σ τ) (ht:τ[i]? =some (some (.own xs))) (hs:σ[i]? =some (some (.ref p))) (hp:H p=some (.lst ws)) (r:Ay K T (mt B σ τ) H vs ys):
 SR K B T (upd H p (.lst vs)) σ (τ.set i (some (.own ys)))/\Ec T H σ τ T (upd H p (.lst vs)) σ (τ.set i (some (.own ys))):=by
 obtain ⟨p',ws',e1,e2,r0,b0,nt,nb⟩:=s.own i xs ht
 rw [hs] at e1;cases e1
 have mJ:σ.set i (some (.ref p))=σ:=by
  apply List.ext_getElem?
  intro k
  by_cases hk:i=k
  ·subst hk
   rw [List.getElem?_set,hs]
   simp [(List.getElem?_eq_some_iff.mp hs).1]
  ·rw [List.getElem?_set_ne hk]
 have owp:Ch σ τ p:=⟨i,xs,ht,hs⟩
 have ow:∀b,Ch σ (τ.set i (some (.own ys))) b->Ch σ τ b:=λb h=>by
  obtain ⟨j,zs,h1,h2⟩:=h
  rcases BD h1 with ⟨rfl,e,_⟩|⟨n,R5⟩
  ·exact ⟨j,xs,ht,h2⟩
  ·exact ⟨j,zs,R5,h2⟩
 have mv:Mv K T (mt B σ τ) H T (mt B σ (τ.set i (some (.own ys)))) (upd H p (.lst vs)):=⟨s.va,λb o _ m e=>by
  rw [Al (λz=>m (by subst z;exact .inr owp))];exact e,λ_ t=>t,λ_ _ t=>t,λb _ m=>m.elim .inl λz=> .inr (ow b z)⟩
 refine ⟨⟨by simp [s.len],λj y e=> ?_,λj zs e=> ?_,λj k zs us q h1 h2 h3 h4=> ?_,λa t=> ?_,λa m=> ?_,s.bt, ?_⟩,⟨λb o t w e=>by rw [Al (λz=>w (by subst z;exact owp))];exact e,λ_ t=>t,λ_ t=> .inl t,λb o=> .inl (ow b o),λb h=> ?_⟩⟩
 ·rcases BD e with ⟨_,e',_⟩|⟨n,e'⟩
  ·cases e'
  ·obtain ⟨v,h,rr⟩:=s.val j y e'
   exact ⟨v,h,rr.mv mv⟩
 ·rcases BD e with ⟨rfl,e',_⟩|⟨n,e'⟩
  ·cases e'
   exact ⟨p,vs,hs,A1,r.mv mv,b0,nt,nb⟩
  ·obtain ⟨q,us,h1,h2,h3,h4⟩:=s.own j zs e'
   have hq:q≠p:=λz=>by subst z;exact n (s.dist j i zs xs q e' ht h1 hs)
   exact ⟨q,us,h1,by rw [Al hq];exact h2,h3.mv mv,h4⟩
 ·rcases BD h1 with ⟨rfl,_,_⟩|⟨n,R5⟩
  ·rcases BD h2 with ⟨rfl,_,_⟩|⟨n2,bC⟩
   ·rfl
   ·exact s.dist _ k xs us q ht bC h3 h4
  ·rcases BD h2 with ⟨rfl,_,_⟩|⟨n2,bC⟩
   ·exact s.dist j _ zs xs q R5 ht h3 h4
   ·exact s.dist j k zs us q R5 bC h3 h4
 ·obtain ⟨d,x,e,z⟩:=s.tp a t
  exact ⟨d,x,by rw [Al (λw=>by subst w;exact nt t)];exact e,z⟩
 ·obtain ⟨o,e,z⟩:=s.bm a m
  exact ⟨o,by rw [Al (λw=>by subst w;exact nb m)];exact e,z⟩
 ·refine ⟨λb o t e=> ?_,s.st.sub,s.st.new,λa t=> ?_⟩
  ·rw [Al (λw=>by subst w;rw [b0] at e;cases e)];exact s.st.keep b o t e
  ·obtain ⟨d,x,e,z⟩:=s.tp a t
   exact ⟨d,x,by rw [Al (λw=>by subst w;exact nt t)];exact e,z⟩
 ·by_cases z:b=p
  ·subst z;rw [A1];exact λe=>nomatch e
  ·rw [Al z];exact h
end
section
variable {X:Cx} {st:Stmt} {rest:List Stmt} {e:Expr} {pos:Pos} {a b:AS} {ta:AE}
def bo (ta:AE):AE:=λτ Q=>ta (frz τ) λx=>Yc x=true/\Q x
theorem aP (h:SE X e ta):SE X e (bo ta):=by
 obtain ⟨t,p,s⟩:=h
 refine ⟨t,p,λB T σ τ H Q AQ sr h k=>s B T σ (frz τ) H _ _ sr.frz h λv x T1 H1 s1 r1 h1=> ?_⟩
 exact k v x T1 H1 s1 (r1.free h1.1) h1.2
def Ro (tt:AT):AT:=λτ Q=>tt (frz τ) Q
theorem ae {tt:AT} (h:O8 X e tt):O8 X e (Ro tt):=by
 obtain ⟨t,p,s⟩:=h
 exact ⟨t,p,λB T σ τ H Q AQ sr h k=>s B T σ (frz τ) H _ _ sr.frz h λb T1 H1 s1 h1=>k b T1 H1 s1 h1⟩
def BM:AS:=λD τ=>D.nx τ
def Ag (a b:AS):AS:=λD τ=>a {D with nx:=b D} τ
theorem A0:W0 X [] BM:=⟨_,N4,λB T σ τ H D AD sr h er=>er.nx T H σ τ .refl sr h⟩
theorem AN (h1:SS X st a) (h2:W0 X rest b):W0 X (st::rest) (Ag a b):=by
 obtain ⟨t,p,s⟩:=h1
 obtain ⟨t',p',s'⟩:=h2
 exact ⟨_,DD p p',λB T σ τ H D AD sr h er=>s B T σ τ H _ _ sr h ⟨λT' H' σ' τ' q sr' h'=>s' B T' σ' τ' H' D AD sr' h' (er.shift q),er.bk,er.ct,er.rt⟩⟩
theorem AR (h1:SS X st a):W0 X [st] a:=let ⟨_,p,s⟩:=h1;⟨_,Hf p,s⟩
def An (ta:AE):AS:=λD τ=>ta (frz τ) D.rt
theorem Aa (h:SE X e ta):SS X (.Return (some e) pos) (An ta):=by
 obtain ⟨t,p,s⟩:=h
 refine ⟨_,N3 p,λB T σ τ H D AD sr h er=>s B T σ (frz τ) H _ _ sr.frz h λv x T1 H1 s1 r1 h1=> ?_⟩
 exact er.rt v x T1 H1 (sr.st.trans s1) (r1.mv (.anti (sr.frz.stp s1).va λa m=> .inl m)) h1
def Bx (c:AT) (a b:AS):AS:=λD τ=>c τ λk=>if k=true then a D τ else b D τ
theorem BK {c:Expr} {x y:List Stmt} {tc:AT} (hc:O8 X c tc) (ha:W0 X x a) (hb:W0 X y b):SS X (.If c x y pos) (Bx tc a b):=by
 obtain ⟨t,p,s⟩:=hc
 obtain ⟨t1,p1,s1'⟩:=ha
 obtain ⟨t2,p2,s2'⟩:=hb
 refine ⟨_,V1 p p1 p2,λB T σ τ H D AD sr h er=>s B T σ τ H _ _ sr h λk T1 H1 s1 h1=> ?_⟩
 cases k with
 | true=>rw [if_pos rfl] at h1 ⊢;exact s1' B T1 σ τ H1 D AD (sr.stp s1) h1 (er.shift s1.prog)
 | false=>rw [if_neg Bool.false_ne_true] at h1 ⊢;exact s2' B T1 σ τ H1 D AD (sr.stp s1) h1 (er.shift s1.prog)
abbrev AG:=PV->BB->(BB->Prop)->Prop
abbrev QN:=List PV->BB->(BB->Prop)->Prop
def Jc (K:PySem.W.Frag) (g:TG) (ag:AG):Prop:=∀(B:Ck) (T:Addr->Prop) (σ:L2.St) (τ:BB) (H:Hp) (v:V) (x:PV) (Q:L2.St->Hp->Prop) (AQ:BB->Prop),SR K B T H σ τ->Cg K T (mt B σ τ) H v x->ag x τ AQ->
 (∀σ' τ',SR K B T H σ' τ'->(∀b,Ch σ' τ' b->Ch σ τ b)->AQ τ'->Q σ' H)->g v σ H Q
def MP (K:PySem.W.Frag) (g:Qb) (ag:QN):Prop:=∀(B:Ck) (T:Addr->Prop) (σ:L2.St) (τ:BB) (H:Hp) (vs:List V) (xs:List PV) (Q:L2.St->Hp->Prop) (AQ:BB->Prop),SR K B T H σ τ->Ay K T (mt B σ τ) H vs xs->ag xs τ AQ->
 (∀σ' τ',SR K B T H σ' τ'->(∀b,Ch σ' τ' b->Ch σ τ b)->AQ τ'->Q σ' H)->g vs σ H Q
def SG (X:Cx) (tg:Expr) (ag:AG):Prop:=∃g,PG X tg g/\Jc X.K g ag
def eU (X:Cx) (tg:List Expr) (ag:QN):Prop:=∃g,az X tg g/\MP X.K g ag
def A8 (i:Nat):AG:=λx τ Q=>Q (τ.set i (some (.val x)))
theorem OF {K:PySem.W.Frag} {i:Nat}:Jc K (HW i) (A8 i):=λB T σ τ H v x Q AQ sr r h k=>k _ _ (sr.set r) (λb o=>De o) h
theorem OC {i:Nat} {x:Str} (hN:X.N.Nodup) (hi:X.N[i]? =some x) (hx:Loc X.env.scope x) (hf:X.fn x=true\/X.env.scope.names.lookup x=some .local:=by first | exact .inl rfl|exact .inr rfl|assumption):SG X (.Name x pos) (A8 i):=
 ⟨_,SM hN hi hx hf,OF⟩
def Dm:QN:=λxs τ Q=>match xs with | [] =>Q τ|_=>False
def Ap (g:AG) (r:QN):QN:=λxs τ Q=>match xs with | x::t=>g x τ λτ'=>r t τ' Q | [] =>False
theorem P9 {K:PySem.W.Frag}:MP K U6 Dm:=λB T σ τ H vs xs Q AQ sr r h k=>by
 cases r with
 | nil=>exact ⟨rfl,k σ τ sr (λ_ o=>o) h⟩
 | cons _ _=>exact h.elim
theorem Mz {K:PySem.W.Frag} {g:TG} {gs:Qb} {ag:AG} {ags:QN} (h1:Jc K g ag) (h2:MP K gs ags):MP K (PP g gs) (Ap ag ags):=λB T σ τ H vs xs Q AQ sr r h k=>by
 cases r with
 | nil=>exact h.elim
 | cons r t=>
   refine ⟨_,_,rfl,h1 B T σ τ H _ _ _ _ sr r h λσ1 τ1 sr1 o1 q1=> ?_⟩
   exact h2 B T σ1 τ1 H _ _ Q AQ sr1 (t.mv (.anti sr.va λa m=>m.elim .inl λz=> .inr (o1 a z))) q1 λσ2 τ2 sr2 o2 q2=>k σ2 τ2 sr2 (λb o=>o1 b (o2 b o)) q2
theorem ID:eU X [] Dm:=⟨_,SN,P9⟩
theorem CL {es:List Expr} {ag:AG} {ags:QN} (h1:SG X e ag) (h2:eU X es ags) (hs:(assignEach (e::es) X.env).map (·.2)=assign e X.env::(assignEach es X.env).map (·.2):=by rfl):eU X (e::es) (Ap ag ags):=
 let ⟨_,p,s⟩:=h1;let ⟨_,p',s'⟩:=h2;⟨_,Pt p p' hs,Mz s s'⟩
def Av (ta:AE) (g:AG):AS:=λD τ=>ta τ λx=>g x τ D.nx
theorem OE {K:PySem.W.Frag} {t:TE} {g:TG} {ag:AG} (s:HL K t ta) (s':Jc K g ag):Uo K (WN t g) (Av ta ag):=λB T σ τ H D AD sr h er=>s B T σ τ H _ _ sr h λv x T1 H1 s1 r1 h1=>
 s' B T1 σ τ H1 v x _ _ (sr.stp s1) r1 h1 λσ2 τ2 sr2 o2 q2=>er.nx T1 H1 σ2 τ2 (s1.prog.trans (.less o2)) sr2 q2
theorem RZ {tg:Expr} {ag:AG} (he:SE X e ta) (hg:SG X tg ag) (hs:swapsWithSole [tg] e pos.line X.env=pure false:=by rfl) (hw:swappedStores [tg] e X.env=pure none:=by rfl)
 (h1:(assignEach [tg] X.env).map (·.2)= [assign tg X.env] :=by rfl):SS X (.Assign [tg] e pos) (Av ta ag):=
 let ⟨_,p,s⟩:=he;let ⟨_,p',s'⟩:=hg;⟨_,RL p p' hs hw h1,OE s s'⟩
theorem G4 {i:Nat} {x:Str} {pos':Pos} (hN:X.N.Nodup) (hi:X.N[i]? =some x) (hx:Loc X.env.scope x) (he:SE X e ta) (hs:swapsWith e (some (.Name x pos')) pos.line X.env=pure false:=by rfl) (hf:X.fn x=true\/X.env.scope.names.lookup x=some .local:=by first | exact .inl rfl|exact .inr rfl|assumption):
 SS X (.Assign [.Name x pos'] e pos) (Av ta (A8 i)):=let ⟨_,p,s⟩:=he;⟨_,G3 hN hi hx p hs hf,OE s OF⟩
def NQ (r:AA) (i:Nat):AS:=λD τ=>r τ λxs=>D.nx (τ.set i (some (.own xs)))
theorem YG {K:PySem.W.Frag} {t:TE} {r:AA} {i:Nat} (s:W1 K t r):Uo K (WN t (HW i)) (NQ r i):=λB T σ τ H D AD sr h er=>s B T σ τ H _ _ sr h λp vs xs T1 H1 s1 sr1 hn hp nt r1 h1=>by
 have no:¬Ch σ τ p:=λo=>by obtain ⟨_,e,_⟩:=sr.ownH o;rw [hn] at e;cases e
 have nb:¬B.M p:=λo=>by obtain ⟨_,e,_⟩:=sr.bm p o;rw [hn] at e;cases e
 refine er.nx T1 H1 _ _ ⟨λb o t _ e=>s1.keep b o t e,s1.sub,s1.new,λb o=> ?_,λb h=>s1.some h⟩ (sr1.take hp nt no nb (sr.st.none hn) r1) h1
 rcases JJ o with z|z
 ·exact .inl z
 ·subst z;exact .inr hn
theorem Iy {i:Nat} {x:Str} {pos':Pos} {r:AA} (hN:X.N.Nodup) (hi:X.N[i]? =some x) (hx:Loc X.env.scope x) (he:SF X e r) (hs:swapsWith e (some (.Name x pos')) pos.line X.env=pure false:=by rfl) (hf:X.fn x=true\/X.env.scope.names.lookup x=some .local:=by first | exact .inl rfl|exact .inr rfl|assumption):
 SS X (.Assign [.Name x pos'] e pos) (NQ r i):=let ⟨_,p,s⟩:=he;⟨_,G3 hN hi hx p hs hf,YG s⟩
def TJ (i j:Nat) (r:AA):AS:=λD τ=>r τ λxs=>match xs with | [x,y] =>D.nx ((τ.set i (some (.val x))).set j (some (.val y)))|_=>False
theorem Ra {i j:Nat} {x y:Str} {c d:Expr} {r:AA} {px py pt:Pos} {kt k2 pt2} (hc:X.calm=true) (hN:X.N.Nodup) (hi:X.N[i]? =some x) (hj:X.N[j]? =some y) (gQ:i≠j)
 (hx:X.env.scope.names.lookup x=some .local) (hy:X.env.scope.names.lookup y=some .local) (ha:SA X [c,d] r)
 (hw:swappedStores [.Tuple [.Name x px, .Name y py] kt pt] (.Tuple [c,d] k2 pt2) X.env=pure (some [x,y]))
 (hs:swapsWithSole [.Tuple [.Name x px, .Name y py] kt pt] (.Tuple [c,d] k2 pt2) pos.line X.env=pure false:=by rfl):
 SS X (.Assign [.Tuple [.Name x px, .Name y py] kt pt] (.Tuple [c,d] k2 pt2) pos) (TJ i j r):=by
 obtain ⟨t,p,s⟩:=ha
 refine ⟨_,aB hc hN hi hj gQ hx hy p hw hs,λB T σ τ H D AD sr h er=>s B T σ τ H _ _ sr h λvs xs T1 H1 s1 r1 h1=> ?_⟩
 cases r1 with
 | nil=>exact h1.elim
 | cons ra ta=>
   cases ta with
   | nil=>exact h1.elim
   | cons rb tb=>
     cases tb with
     | cons _ _=>exact h1.elim
     | nil=>
       have sr1:=sr.stp s1
       refine ⟨_,_,rfl,er.nx T1 H1 _ _ ?_ ((sr1.set (i:=i) ra).set (i:=j) (rb.mv (.anti sr1.va λa m=>m.elim .inl λz=> .inr (De z)))) h1⟩
       exact s1.prog.trans (.less λb o=>De (De o))
def TH (i:Nat) (τ:BB) (R:List PV->Prop):Prop:=match QM τ i with | some (.own xs)=>R xs|_=>False
theorem W4 {i:Nat} {τ:BB} {R:List PV->Prop} (h:TH i τ R):∃xs,τ[i]? =some (some (.own xs))/\R xs:=by
 unfold TH at h
 cases e:QM τ i with
 | none=>rw [e] at h;exact h.elim
 | some z=>
   rw [e] at h
   cases z with
   | val x=>exact h.elim
   | own xs=>exact ⟨xs,LO e,h⟩
abbrev Y0:=List PV->List PV->(List PV->Prop)->Prop
def W2 (K:PySem.W.Frag) (r:V->List V->Hp->VK->Prop) (f:Y0):Prop:=∀(T M:Addr->Prop) (H:Hp) (l:Addr) (ws vs:List V) (xs ys:List PV) (Q:VK) (AQ:List PV->Prop),H l=some (.lst ws)->Ay K T M H ws xs->Ay K T M H vs ys->f xs ys AQ->
 (∀ws' xs',Ay K T M H ws' xs'->AQ xs'->Q .non (upd H l (.lst ws')))->r (.ref l) vs H Q
def GO (i:Nat) (f:Y0) (r:AA):AS:=λD τ=>TH i τ λxs=>r τ λys=>f xs ys λzs=>D.nx (τ.set i (some (.own zs)))
theorem WE {K:PySem.W.Frag} {i:Nat} {rr:V->List V->Hp->VK->Prop} {f:Y0} {t:TA} {r:AA} (hm:W2 K rr f) (s:Y1 K t r):Uo K (Yl (jg K "list" rr (ah i) t)) (GO i f r):=λB T σ τ H D AD sr h er=>by
 obtain ⟨xs,e,h⟩:=W4 h
 obtain ⟨p,vs,e1,hp,r1,b0,nt,nb⟩:=sr.own i xs e
 refine ⟨.ref p,e1, .inl ⟨rfl,vs, .inl (.inl hp)⟩,s B T σ τ H _ _ sr h λus ys T1 H1 s1 r2 h2=> ?_⟩
 have sr1:=sr.stp s1
 refine hm T1 (mt B σ τ) H1 p vs us xs ys _ _ (s1.keep _ _ nt hp) (r1.stp s1 sr.va) r2 h2 λws' zs r3 h3=> ?_
 obtain ⟨sr3,pr3⟩:=sr1.write (i:=i) (xs:=xs) e e1 (s1.keep _ _ nt hp) r3
 exact er.nx T1 _ _ _ (s1.prog.trans pr3) sr3 h3
theorem GC {i:Nat} {x name:Str} {es:List Expr} {id:String} {rr:V->List V->Hp->VK->Prop} {f:Y0} {r:AA} {p apos cpos:Pos} (slot:Slot "list" name id) (gg:typeOf (.builtin id)=pure (.type "method_descriptor")) (hm:bT X id rr/\W2 X.K rr f) (ha:SA X (e::es) r)
 (hN:X.N[i]? =some x:=by rfl) (hv:bg X.env.scope x:=by first | exact Or.inl rfl|exact Or.inr (Or.inl rfl)|exact Or.inr (Or.inr rfl)) (hd:(x==("__debug__" :Str))=false:=by decide) (Ma:(x==("__classdict__" :Str))=false:=by decide)
 (VI:attributeBase (.Name x p) name X.env (eval (.Name x p) X.env)=eval (.Name x p) X.env:=by rfl)
 (ZV:((backTo cpos (starEach (e::es) X.env)).all (λx=> !x.1)&&(backToKw cpos (keywordEach [] X.env)).all (λx=>x.1.isSome)
   && decide ((e::es).length+([] :List Keyword).length+(if ([] :List Keyword).isEmpty then 0 else 1)<30))=true:=by rfl)
 (R8:(apos.endLine==cpos.line)=true:=by rfl) (hs:starEach (e::es) X.env=(false,eval e X.env)::starEach es X.env:=by rfl) (Qz:(backTo cpos (starEach es X.env)).any (·.1)=false:=by rfl)
 (cP:swapsWith (.Call (.Attribute (.Name x p) name apos) (e::es) [] cpos) none pos.line X.env=pure false:=by rfl):
 SS X (.Expr (.Call (.Attribute (.Name x p) name apos) (e::es) [] cpos) pos) (GO i f r):=by
 obtain ⟨t,pa,s⟩:=ha
 exact ⟨_,X6 (dD PySem.F.plainAttrs_list slot gg hm.1 (RJ hN hv hd Ma) pa VI ZV R8 hs Qz) cP,WE hm.2 s⟩
def Pg:Y0:=λxs ys Q=>match ys with | [y] =>xs.length<sizeLine/\Q (xs ++ [y])|_=>False
theorem Ez:bT X "list.append" N6/\W2 X.K N6 Pg:=by
 refine ⟨Mf,λT M H l ws vs xs ys Q AQ hl r1 r2 h k=> ?_⟩
 unfold Pg at h
 split at h <;> first | exact h.elim|skip
 cases r2 with
 | cons ry t=>
   cases t
   exact ⟨l,ws,_,rfl,rfl,hl,by rw [r1.length];exact h.1,k _ _ (r1.append (.cons ry .nil)) h.2⟩
def Xc:Y0:=λxs ys Q=>match ys with | [.int i,y] =>(0<=i/\i<=(xs.length:Int)/\xs.length<sizeLine)/\Q (xs.take i.toNat++y::xs.drop i.toNat)|_=>False
theorem UJ:bT X "list.insert" N7/\W2 X.K N7 Xc:=by
 refine ⟨Tu,λT M H l ws vs xs ys Q AQ hl r1 r2 h k=> ?_⟩
 unfold Xc at h
 split at h <;> first | exact h.elim|skip
 cases r2 with
 | cons ri t=>
   cases t with
   | cons ry t=>
     cases t;cases ri
     obtain ⟨⟨h1,h2,h3⟩,h4⟩:=h
     exact ⟨l,ws,_,_,rfl,rfl,hl,h1,by rw [r1.length];exact h2,by rw [r1.length];exact h3,k _ _ ((r1.take _).append (.cons ry (r1.drop _))) h4⟩
def frz1 (i:Nat) (τ:BB):BB:=match QM τ i with | some (.own xs)=>τ.set i (some (.val (.lst xs)))|_=>τ
theorem SR.frz1 {K:PySem.W.Frag} {B:Ck} {T:Addr->Prop} {H:Hp} {σ:L2.St} {τ:BB} (s:SR K B T H σ τ) (i:Nat):SR K B T H σ (frz1 i τ)/\∀b,Ch σ (PL.frz1 i τ) b->Ch σ τ b:=by
 unfold PL.frz1
 split
 ·rename_i xs e
  have e:=LO e
  obtain ⟨p,vs,e1,hp,r1,b0,nt,nb⟩:=s.own i xs e
  have mJ:σ.set i (some (.ref p))=σ:=by
   apply List.ext_getElem?
   intro k
   by_cases hk:i=k
   ·subst hk
    rw [List.getElem?_set,e1]
    simp [(List.getElem?_eq_some_iff.mp e1).1]
   ·rw [List.getElem?_set_ne hk]
  have ow:∀b,Ch σ (τ.set i (some (.val (.lst xs)))) b->Ch σ τ b/\b≠p:=λb h=>by
   obtain ⟨j,ys,h1,h2⟩:=h
   rcases BD h1 with ⟨_,e',_⟩|⟨n,R5⟩
   ·cases e'
   ·exact ⟨⟨j,ys,R5,h2⟩,λz=>by subst z;exact n (s.dist j i ys xs b R5 e h2 e1)⟩
  have mv:Mv K T (mt B σ τ) H T (mt B σ (τ.set i (some (.val (.lst xs))))) H:= .anti s.va λa m=>m.elim .inl λz=> .inr (ow a z).1
  refine ⟨⟨by simp [s.len],λj y h=> ?_,λj ys h=> ?_,λj k ys zs q h1 h2 h3 h4=> ?_,s.tp,s.bm,s.bt,s.st⟩,λb h=>(ow b h).1⟩
  ·rcases BD h with ⟨rfl,e',_⟩|⟨n,h'⟩
   ·cases e'
    exact ⟨.ref p,e1, .lst hp nt (λz=>z.elim nb λo=>(ow p o).2 rfl) (r1.mv mv)⟩
   ·obtain ⟨v,hv,rv⟩:=s.val j y h'
    exact ⟨v,hv,rv.mv mv⟩
  ·rcases BD h with ⟨_,e',_⟩|⟨n,h'⟩
   ·cases e'
   ·obtain ⟨q,us,h1,h2,h3,h4⟩:=s.own j ys h'
    exact ⟨q,us,h1,h2,h3.mv mv,h4⟩
  ·rcases BD h1 with ⟨_,e',_⟩|⟨n,R5⟩
   ·cases e'
   ·rcases BD h2 with ⟨_,e',_⟩|⟨n2,bC⟩
    ·cases e'
    ·exact s.dist j k ys zs q R5 bC h3 h4
 ·exact ⟨s,λ_ o=>o⟩
def W3 (i:Nat) (a:AS):AS:=λD τ=>a D (frz1 i τ)
theorem ab (i:Nat) (h:SS X st a):SS X st (W3 i a):=by
 obtain ⟨t,p,s⟩:=h
 refine ⟨t,p,λB T σ τ H D AD sr h er=> ?_⟩
 obtain ⟨sr1,o1⟩:=sr.frz1 i
 exact s B T σ (frz1 i τ) H D AD sr1 h (er.shift (.less o1))
end
end PL
end
section
namespace PL
open PySem PySem.Spec PyProof.Rows L2
section
variable {X:Cx} {st:Stmt} {e:Expr} {pos:Pos} {a b:AS} {ta:AE}
def QH (c:AT) (b:AS) (D:DW):Nat->BB->Prop
 | 0,_=>False
 | n+1,τ=>c (frz τ) λk=>if k=true then b {D with nx:=QH c b D n,ct:=QH c b D n,bk:=D.nx} τ else D.nx τ
def Ic (c:AT) (b:AS):AS:=λD τ=>∃n,QH c b D n τ
theorem IF {c:Expr} {body:List Stmt} {tc:AT} (hp:PassesOwn (model X.prog X.w) X.A X.env X.xe) (hc:O8 X c tc) (hb:W0 X body b):SS X (.While c body [] pos) (Ic tc b):=by
 obtain ⟨t,p,s⟩:=hc
 obtain ⟨t',p',s'⟩:=hb
 refine ⟨_,V2 hp p p',λB T σ τ H D AD sr h er=> ?_⟩
 obtain ⟨n,h⟩:=h
 refine ⟨λm σ1 H1=>∃T1 τ1,SR X.K B T1 H1 σ1 τ1/\Ec T H σ τ T1 H1 σ1 τ1/\QH tc b AD m τ1,⟨n,T,τ,sr, .refl,h⟩, ?_⟩
 rintro m σ1 H1 ⟨T1,τ1,sr1,pr1,h1⟩
 cases m with
 | zero=>exact h1.elim
 | succ m=>
   refine s B T1 σ1 (frz τ1) H1 _ _ sr1.frz h1 λk T2 H2 s2 h2=> ?_
   have sr2:=sr1.stp s2
   have er2:=(er.shift pr1).shift s2.prog
   cases k with
   | false=>rw [if_neg Bool.false_ne_true] at h2 ⊢;exact er2.nx T2 H2 σ1 τ1 .refl sr2 h2
   | true=>
     rw [if_pos rfl] at h2 ⊢
     refine ⟨λσ' H'=>∃T' τ',SR X.K B T' H' σ' τ'/\Ec T H σ τ T' H' σ' τ'/\QH tc b AD m τ',λσ' H' q=>⟨m,Nat.lt_succ_self m,q⟩, ?_⟩
     exact s' B T2 σ1 τ1 H2 _ _ sr2 h2 ⟨λT' H' σ' τ' q sr' h'=>⟨T',τ',sr',(pr1.trans s2.prog).trans q,h'⟩,er2.nx,λT' H' σ' τ' q sr' h'=>⟨T',τ',sr',(pr1.trans s2.prog).trans q,h'⟩,er.rt⟩
abbrev AI:=BB->(List PV->Prop)->Prop
structure TB (K:PySem.W.Frag) (M:Addr->Prop) (J:It) (xs:List PV) (T:Addr->Prop) (H:Hp):Prop where
 go:∀i y,xs[i]? =some y->J.go i H
 yld:∀i y v H',xs[i]? =some y->J.yld i H v H'->Dh T H T H'/\Cg K T M H' v y
 stop:∀i,xs.length<=i->J.stop i H
def Rm (T:Addr->Prop) (H H2:Hp):Prop:=∀b o,¬T b->H b=some o->H2 b=some o
def Y2 (K:PySem.W.Frag) (s:Bool) (wi:TI) (ai:AI):Prop:=∀(B:Ck) (T:Addr->Prop) (σ:L2.St) (τ:BB) (H:Hp) (R:It->Hp->Prop) (AQ:List PV->Prop),SR K B T H σ τ->ai τ AQ->
 (∀J xs T' H',Dh T H T' H'->(∀M2 T2 H2,Mv K T' (mt B σ τ) H' T2 M2 H2->Jd T2 M2 H2->(s=true\/Rm T' H' H2)->TB K M2 J xs T2 H2)->AQ xs->R J H')->wi σ H R
def SI (X:Cx) (tg iter:Expr) (s:Bool) (ai:AI):Prop:=∃wi,PI X tg iter wi/\Y2 X.K s wi ai
def gk (K:PySem.W.Frag) (tl:TE):TI:=λσ H R=>tl σ H λx H1=>∃a,x= .ref a/\(((∃xs,Fc K H1 a xs)/\R (fZ K a) H1)\/((∃xs,JE K H1 a xs)/\R (fg K a) H1))
theorem Z9 {tg l:Expr} {tl:TE} (hl:PE X l tl):PI X tg l (gk X.K tl):=by
 intro pins s σ H R I h
 refine Cd (hl pins s σ H _ I h) λv s1 ⟨x,H1,I1,r1,q1⟩=> ?_
 obtain ⟨a,e,q⟩:=q1
 subst e
 cases r1
 rcases q with ⟨⟨xs,hq⟩,q⟩|⟨⟨xs,hq⟩,q⟩
 ·obtain ⟨its,rv,p,hz⟩:=I1.list hq
  refine wpAny_pyIter_list p.isList ?_
  refine ⟨s1.heap.objs.size, [s1.heap.objs.size],_,_,H1,rfl,I1.kept (t':=s1.toks) λb o e=>Heap.get?_push_of_some _ e,UN a _,⟨_,Heap.get?_push_size _ rfl,rfl,rfl⟩,λb hb=> ?_,q⟩
  have e:b=s1.heap.objs.size:=by simpa using hb
  subst e
  exact I1.fpOk (Nat.le_refl _) (I1.hok.fresh (Nat.le_refl _))
 ·obtain ⟨its,rv,p,hz⟩:=I1.tuple hq
  refine wpAny_pyIter_tuple (show s1.heap.IsTuple a its.toArray from p) ?_
  refine ⟨s1.heap.objs.size, [s1.heap.objs.size],_,_,H1,rfl,I1.kept (t':=s1.toks) λb o e=>Heap.get?_push_of_some _ e,Rg a _,⟨_,Heap.get?_push_size _ rfl,rfl,rfl⟩,λb hb=> ?_,q⟩
  have e:b=s1.heap.objs.size:=by simpa using hb
  subst e
  exact I1.fpOk (Nat.le_refl _) (I1.hok.fresh (Nat.le_refl _))
def Qf (ta:AE):AI:=λτ Q=>ta τ λx=>RH x Q
theorem VT {K:PySem.W.Frag} {T M:Addr->Prop} {H:Hp} {a:Addr} {xs:List PV} (va:Jd T M H) (r:Cg K T M H (.ref a) (.tup xs)):TB K M (fg K a) xs T H:=by
 obtain ⟨a',vs,e,hq,rs⟩:=F0 r
 cases e
 refine ⟨λi y h=> ?_,λi y v H' h yl=> ?_,λi h=>⟨vs,hq,by rw [rs.length];exact h⟩⟩
 ·obtain ⟨v,hv,_⟩:=rs.get h
  exact ⟨vs,v,hq,hv⟩
 ·obtain ⟨rfl,yl⟩:=yl
  obtain ⟨z,hz,rz⟩:=rs.get' (yl vs hq)
  rw [h] at hz;cases hz
  exact ⟨.refl va.tp,rz⟩
theorem VS {K:PySem.W.Frag} {T M:Addr->Prop} {H:Hp} {a:Addr} {vs:List V} {xs:List PV} (va:Jd T M H) (hq:H a=some (.lst vs)) (rs:Ay K T M H vs xs):TB K M (fZ K a) xs T H:=by
 have VP:Fc K H a vs:= .inl (.inl hq)
 refine ⟨λi y h=> ?_,λi y v H' h yl=> ?_,λi h=>⟨vs,VP,by rw [rs.length];exact h⟩⟩
 ·obtain ⟨v,hv,_⟩:=rs.get h
  exact ⟨vs,v,VP,hv⟩
 ·obtain ⟨rfl,yl⟩:=yl
  obtain ⟨z,hz,rz⟩:=rs.get' (yl vs VP)
  rw [h] at hz;cases hz
  exact ⟨.refl va.tp,rz⟩
theorem Iv {tg:Expr} (h:SE X e ta):SI X tg e true (Qf ta):=by
 obtain ⟨t,p,s⟩:=h
 refine ⟨_,Z9 p,λB T σ τ H R AQ sr h k=>s B T σ τ H _ _ sr h λv x T1 H1 s1 r1 h1=> ?_⟩
 obtain ⟨xs,hx,q⟩:=Im h1
 rcases hx with rfl|rfl
 ·obtain ⟨a,vs,rfl,hq,rs⟩:=F0 r1
  refine ⟨a,rfl, .inr ⟨⟨vs,hq⟩,k _ xs T1 H1 s1 (λM2 T2 H2 mv va _=>VT va (r1.mv mv)) q⟩⟩
 ·obtain ⟨a,vs,rfl,hq,nt,nm,rs⟩:=FM r1
  refine ⟨a,rfl, .inl ⟨⟨vs, .inl (.inl hq)⟩,k _ xs T1 H1 s1 (λM2 T2 H2 mv va _=> ?_) q⟩⟩
  obtain ⟨a',vs',e',VP,_,_,rs'⟩:=FM (r1.mv mv)
  cases e'
  exact VS va VP rs'
def rng (lo:Int) (n:Nat):List PV:=(List.range n).map λ(k:Nat)=> .int (lo+(k:Int))
theorem Pd {K:PySem.W.Frag} {T M:Addr->Prop} {H:Hp} {lo:Int} {n:Nat} (va:Jd T M H):TB K M (bS lo n) (rng lo n) T H:=by
 have hl:(rng lo n).length=n:=by simp [rng]
 refine ⟨λi y h=> ?_,λi y v H' h yl=> ?_,λi h=>by rw [hl] at h;exact h⟩
 ·have:=(List.getElem?_eq_some_iff.mp h).1
  rw [hl] at this
  exact this
 ·obtain ⟨rfl,rfl⟩:=yl
  have hi:=(List.getElem?_eq_some_iff.mp h).1
  rw [hl] at hi
  have:y= .int (lo+(i:Int)):=by
   simp [rng,List.getElem?_range hi] at h
   exact h.symm
  subst this
  exact ⟨.refl va.tp, .int _⟩
def NS (r:AA):AI:=λτ Q=>r τ λxs=>match xs with | [.int j] =>(-(2^62)<=j/\j<2^62)/\Q (rng 0 j.toNat)|_=>False
def Y7 (r:AA):AI:=λτ Q=>r τ λxs=>match xs with | [.int i, .int j] =>(-(2^62)<=i/\i<2^62/\ -(2^62)<=j/\j<2^62)/\Q (rng i (j-i).toNat)|_=>False
theorem Li {tg c:Expr} {r:AA} {p:Pos} (hg:Gl X "range") (hm:X.mg "range" =none) (ha:SA X [c] r) (hs:starEach [c] X.env= [(false,eval c X.env)] :=by rfl):SI X tg (.Call (.Name "range" p) [c] [] pos) true (NS r):=by
 obtain ⟨t,pa,s⟩:=ha
 refine ⟨_,UC hg hm pa hs,λB T σ τ H R AQ sr h k=>s B T σ τ H _ _ sr h λvs xs T1 H1 s1 r1 h1=> ?_⟩
 split at h1 <;> first | exact h1.elim|skip
 cases r1 with
 | cons r t=>
   cases t;cases r
   exact ⟨_,rfl,h1.1.1,h1.1.2,k _ _ T1 H1 s1 (λM2 T2 H2 mv va _=>Pd va) h1.2⟩
theorem Yj {tg c d:Expr} {r:AA} {p:Pos} (hg:Gl X "range") (hm:X.mg "range" =none) (ha:SA X [c,d] r) (hs:starEach [c,d] X.env= [(false,eval c X.env),(false,eval d X.env)] :=by rfl) (XX:starEach [d] X.env= [(false,eval d X.env)] :=by rfl):
 SI X tg (.Call (.Name "range" p) [c,d] [] pos) true (Y7 r):=by
 obtain ⟨t,pa,s⟩:=ha
 refine ⟨_,UD hg hm pa hs XX,λB T σ τ H R AQ sr h k=>s B T σ τ H _ _ sr h λvs xs T1 H1 s1 r1 h1=> ?_⟩
 split at h1 <;> first | exact h1.elim|skip
 cases r1 with
 | cons r t=>
   cases t with
   | cons r' t=>
     cases t;cases r;cases r'
     exact ⟨_,_,rfl,h1.1,k _ _ T1 H1 s1 (λM2 T2 H2 mv va _=>Pd va) h1.2⟩
def OT (xs ys:List PV):List PV:=List.zipWith (λx y=> .tup [x,y]) xs ys
def cT (K:PySem.W.Frag) (ta:TA):TI:=λσ H R=>ta σ H λvs H1=>∃b c l m,vs= [.ref l, .ref m] /\(∃xs,Sq K b H1 l xs)/\(∃ys,Sq K c H1 m ys)/\R (fh K b c l m) H1
theorem Xz {e f:Expr} {ta:TA} {p pos tpos:Pos} {es:List Expr} {x1:Nat} (hg:Gl X "zip") (hm:X.mg "zip" =none) (ha:PA X [e,f] ta)
 (hs:starEach [e,f] X.env= [(false,eval e X.env),(false,eval f X.env)] :=by rfl) (XX:starEach [f] X.env= [(false,eval f X.env)] :=by rfl):
 PI X (.Tuple es x1 tpos) (.Call (.Name "zip" p) [e,f] [] pos) (cT X.K ta):=by
 intro pins s σ H R I h
 refine Call_ (LM I hg hm boot_zip (PyProof.Rows.callWith_type1 (Cd (ha pos pins s σ H _ I h) λus s1 ⟨vs,H1,I1,r1,q1⟩=> ?_) (by rw [hs,XX]) (by rw [XX];rfl)))
 obtain ⟨b,c,l,m,rfl,⟨xs,hl⟩,⟨ys,l9⟩,q⟩:=q1
 cases r1 with
 | cons r rr=>
 cases rr with
 | cons r' rr=>
 cases rr
 cases r
 cases r'
 obtain ⟨us,ru,su,_⟩:=I1.sq hl
 obtain ⟨vs,rv,sv,_⟩:=I1.sq l9
 have llt:l<s1.heap.objs.size:=by cases b <;> (obtain ⟨o,e,_⟩:=su;exact Heap.lt_size e)
 have mlt:m<s1.heap.objs.size:=by cases c <;> (obtain ⟨o,e,_⟩:=sv;exact Heap.lt_size e)
 refine aw su sv λh1 Z kp=>wpAny_pyIter_zip Z.zip ?_
 refine ⟨_,_,_,_,H1,rfl,I1.kept (t':=s1.toks) kp,WS (zipApart_new llt mlt),Z,λp hp=> ?_,q⟩
 have Ng:s1.heap.objs.size<=p:=by
  have gf:p=s1.heap.objs.size+4\/p=s1.heap.objs.size+2\/p=s1.heap.objs.size+3\/p=s1.heap.objs.size\/p=s1.heap.objs.size+1:=by simpa using hp
  rcases gf with e|e|e|e|e <;> (rw [e];omega)
 exact I1.fpOk Ng (I1.hok.fresh Ng)
def b9:PV->Bool | .lst _=>true|_=>false
theorem So {K:PySem.W.Frag} {T M:Addr->Prop} {H:Hp} {v:V} {x:PV} {xs:List PV} (hx:x= .tup xs\/x= .lst xs) (r:Cg K T M H v x):∃a vs,v= .ref a/\Sq K (b9 x) H a vs/\Ay K T M H vs xs:=by
 rcases hx with rfl|rfl
 ·obtain ⟨a,vs,rfl,hq,rs⟩:=F0 r
  exact ⟨a,vs,rfl,hq,rs⟩
 ·obtain ⟨a,vs,rfl,hq,_,_,rs⟩:=FM r
  exact ⟨a,vs,rfl, .inl (.inl hq),rs⟩
theorem VU {K:PySem.W.Frag} {T M:Addr->Prop} {H:Hp} {l m:Addr} {x y:PV} {xs ys:List PV} (va:Jd T M H) (hx:x= .tup xs\/x= .lst xs) (hy:y= .tup ys\/y= .lst ys) (r:Cg K T M H (.ref l) x) (r2:Cg K T M H (.ref m) y):
 TB K M (fh K (b9 x) (b9 y) l m) (OT xs ys) T H:=by
 obtain ⟨_,vs,e,hq,rs⟩:=So hx r
 cases e
 obtain ⟨_,ws,e,We,rs2⟩:=So hy r2
 cases e
 have hz:∀i z,(OT xs ys)[i]? =some z->∃a b,xs[i]? =some a/\ys[i]? =some b/\z=PV.tup [a,b] :=λi z h=>by
  unfold OT at h
  rw [List.getElem?_zipWith] at h
  cases e1:xs[i]? with
  | none=>rw [e1] at h;cases h
  | some a=>
    cases e2:ys[i]? with
    | none=>rw [e1,e2] at h;cases h
    | some b=>rw [e1,e2] at h;cases h;exact ⟨a,b,by first | rfl|exact e1,by first | rfl|exact e2,rfl⟩
 refine ⟨λi z h=> ?_,λi z v H' h yl=> ?_,λi h=>⟨vs,ws,hq,We, ?_⟩⟩
 ·obtain ⟨a,b,ha,hb,_⟩:=hz i z h
  obtain ⟨u,hu,_⟩:=rs.get ha
  obtain ⟨w,hw,_⟩:=rs2.get hb
  exact ⟨vs,ws,u,w,hq,We,hu,hw⟩
 ·obtain ⟨a,b,ha,hb,rfl⟩:=hz i z h
  obtain ⟨p,u,w,rfl,hn,rfl,hu,hw⟩:=yl
  obtain ⟨a',jK,ra⟩:=rs.get' (hu vs hq)
  obtain ⟨b',jL,rb⟩:=rs2.get' (hw ws We)
  rw [ha] at jK;cases jK
  rw [hb] at jL;cases jL
  have st:=Dh.lay (o:= .tup [u,w]) va.tp hn
  exact ⟨st, .tup (.inl A1) (.cons (ra.stp st va) (.cons (rb.stp st va) .nil))⟩
 ·rw [rs.length,rs2.length]
  have:(OT xs ys).length=min xs.length ys.length:=by simp [OT]
  omega
def eZ (r:AA):AI:=λτ Q=>r τ λls=>match ls with | [x,y] =>RH x λxs=>RH y λys=>Q (OT xs ys)|_=>False
theorem aT {e f:Expr} {r:AA} {p pos tpos:Pos} {es:List Expr} {x1:Nat} (hg:Gl X "zip") (hm:X.mg "zip" =none) (ha:SA X [e,f] r)
 (hs:starEach [e,f] X.env= [(false,eval e X.env),(false,eval f X.env)] :=by rfl) (XX:starEach [f] X.env= [(false,eval f X.env)] :=by rfl):
 SI X (.Tuple es x1 tpos) (.Call (.Name "zip" p) [e,f] [] pos) true (eZ r):=by
 obtain ⟨t,pa,s⟩:=ha
 refine ⟨_,Xz hg hm pa hs XX,λB T σ τ H R AQ sr h k=>s B T σ τ H _ _ sr h λvs xs T1 H1 s1 r1 h1=> ?_⟩
 split at h1 <;> first | exact h1.elim|skip
 rename_i x y
 obtain ⟨xs,hx,h2⟩:=Im h1
 obtain ⟨ys,hy,h3⟩:=Im h2
 cases r1 with
 | cons ra t=>
   cases t with
   | cons rb t=>
     cases t
     obtain ⟨l,us,rfl,hq,rs⟩:=So hx ra
     obtain ⟨m,ws,rfl,We,rs2⟩:=So hy rb
     exact ⟨b9 x,b9 y,l,m,rfl,⟨us,hq⟩,⟨ws,We⟩,k _ _ T1 H1 s1 (λM2 T2 H2 mv va _=>VU va hx hy (ra.mv mv) (rb.mv mv)) h3⟩
def GP (g:AG) (b:AS) (D:DW):List PV->BB->Prop
 | [],τ=>D.nx τ
 | x::r,τ=>g x τ λτ1=>b {D with nx:=GP g b D r,ct:=GP g b D r,bk:=D.nx} τ1
def HN (ai:AI) (g:AG) (b:AS):AS:=λD τ=>ai τ λxs=>GP g b D xs τ
theorem Ec.mvv {K:PySem.W.Frag} {B:Ck} {T T':Addr->Prop} {H H':Hp} {σ σ':L2.St} {τ τ':BB} (s:SR K B T H σ τ) (p:Ec T H σ τ T' H' σ' τ'):Mv K T (mt B σ τ) H T' (mt B σ' τ') H':=
 ⟨s.va,λb o t m e=>p.keep b o t (λz=>m (.inr z)) e,p.sub,λb n t=>(p.new b t).elim id λz=>absurd z n,λb n m=>m.elim .inl λz=>(p.own b z).elim .inr λz=>absurd z n⟩
theorem Dk {tg iter:Expr} {body:List Stmt} {ai:AI} {g:AG} (hp:PassesOwn (model X.prog X.w) X.A X.env X.xe) (hc:X.calm=true) (hi:SI X tg iter true ai) (hg:SG X tg g) (hb:W0 X body b)
 (hs:∀x,foldedSetIterable iter X.env x=pure x:=by intro _;rfl):SS X (.For tg iter body [] pos) (HN ai g b):=by
 obtain ⟨wi,pi,si⟩:=hi
 obtain ⟨tg',pg,sg⟩:=hg
 obtain ⟨tb,pb,sb⟩:=hb
 refine ⟨_,aA hp hc pi pg pb hs,λB T σ τ H D AD sr h er=>si B T σ τ H _ _ sr h λJ xs T1 H1 s1 walk h1=> ?_⟩
 have sr1:=sr.stp s1
 refine ⟨λi m σ2 H2=>m=xs.length-i/\∃T2 τ2,SR X.K B T2 H2 σ2 τ2/\Ec T1 H1 σ τ T2 H2 σ2 τ2/\GP g b AD (xs.drop i) τ2,⟨_,rfl,T1,τ,sr1, .refl,h1⟩, ?_⟩
 rintro i m σ2 H2 ⟨rfl,T2,τ2,sr2,pr2,h2⟩
 have w:=walk _ T2 H2 (pr2.mvv sr1) sr2.va (.inl rfl)
 have er2:=(er.shift s1.prog).shift pr2
 by_cases Ft:i<xs.length
 ·have VM:xs[i]? =some xs[i] :=List.getElem?_eq_getElem Ft
  rw [List.drop_eq_getElem_cons Ft] at h2
  refine .inr ⟨w.go i _ VM,λσ' H'=>∃T' τ',SR X.K B T' H' σ' τ'/\Ec T1 H1 σ τ T' H' σ' τ'/\GP g b AD (xs.drop (i+1)) τ',λσ' H' ⟨T',τ',q1,q2,q3⟩=>⟨_,by omega,rfl,T',τ',q1,q2,q3⟩,λv H3 yl=> ?_⟩
  obtain ⟨s3,r3⟩:=w.yld i _ v H3 VM yl
  have sr3:=sr2.stp s3
  refine sg B T2 σ2 τ2 H3 v _ _ _ sr3 r3 h2 λσ4 τ4 sr4 o4 h4=> ?_
  have pr4:Ec T1 H1 σ τ T2 H3 σ4 τ4:=(pr2.trans s3.prog).trans (.less o4)
  have er4:=(er.shift s1.prog).shift pr4
  exact sb B T2 σ4 τ4 H3 _ _ sr4 h4 ⟨λT' H' σ' τ' q sr' h'=>⟨T',τ',sr',pr4.trans q,h'⟩,er4.nx,λT' H' σ' τ' q sr' h'=>⟨T',τ',sr',pr4.trans q,h'⟩,er.rt⟩
 ·rw [List.drop_eq_nil_of_le (by omega)] at h2
  exact .inl ⟨w.stop i (by omega),er2.nx T2 H2 σ2 τ2 .refl sr2 h2⟩
def TQ:Option AV->Option AV|some (.val x)=>some (.val x)|_=>none
def L6 (own:Nat) (ix:List Nat) (τ:BB):BB:=List.replicate own none++ix.map λi=>TQ (QM τ i)
def Cn (g:AG) (t:AT) (te:AE) (τ0:BB) (Q:List PV->Prop):List PV->List PV->Prop
 | [],acc=>Q acc
 | x::r,acc=>g x τ0 λτ1=>t τ1 λok=>if ok=true then te τ1 λy=>Cn g t te τ0 Q r (acc ++ [y]) else Cn g t te τ0 Q r acc
def DN (ai:AI) (own:Nat) (ix:List Nat) (g:AG) (t:AT) (te:AE):AA:=λτ Q=>ai τ λxs=>xs.length<sizeLine/\Cn g t te (L6 own ix τ) Q xs []
theorem Uq {own:Nat} {ix:List Nat} {τ:BB} {j:Nat} {x:PV} (h:(L6 own ix τ)[j]? =some (some (.val x))):own<=j/\∃i,ix[j-own]? =some i/\τ[i]? =some (some (.val x)):=by
 unfold L6 at h
 by_cases hj:j<own
 ·rw [List.getElem?_append_left (by simpa using hj),List.getElem?_replicate,if_pos hj] at h
  cases h
 ·rw [List.getElem?_append_right (by simpa using hj),List.length_replicate,List.getElem?_map] at h
  cases e:ix[j-own]? with
  | none=>rw [e] at h;cases h
  | some i=>
    rw [e] at h
    refine ⟨by omega,i,rfl,LO ?_⟩
    cases e2:QM τ i with
    | none=>simp [e2,TQ] at h
    | some z=>cases z <;> simp [e2,TQ] at h;subst h;rfl
theorem HQ {own:Nat} {ix:List Nat} {τ:BB} {j:Nat} {xs:List PV}:(L6 own ix τ)[j]? ≠some (some (.own xs)):=λh=>by
 unfold L6 at h
 by_cases hj:j<own
 ·rw [List.getElem?_append_left (by simpa using hj),List.getElem?_replicate,if_pos hj] at h
  cases h
 ·rw [List.getElem?_append_right (by simpa using hj),List.length_replicate,List.getElem?_map] at h
  cases e:ix[j-own]? with
  | none=>rw [e] at h;cases h
  | some i=>
    rw [e] at h
    cases e2:QM τ i with
    | none=>simp [e2,TQ] at h
    | some z=>cases z <;> simp [e2,TQ] at h
def Ck.blk (B:Ck) (σ:L2.St) (τ:BB) (D:Addr):Ck:=⟨B.T,B.H,λa=>mt B σ τ a\/a=D⟩
theorem SR.blk {K:PySem.W.Frag} {B:Ck} {T T':Addr->Prop} {H H':Hp} {σ:L2.St} {τ:BB} {D:Addr} {ws:List V} {own:Nat} {ix:List Nat} (s:SR K B T H σ τ) (q:Dh T H T' H') (hn:H D=none) (hd:H' D=some (.lst ws)) (nt:¬T' D):
 SR K (B.blk σ τ D) T' H' (D6 own ix σ) (L6 own ix τ):=by
 have s':=s.stp q
 have mv:Mv K T (mt B σ τ) H T' (mt (B.blk σ τ D) (D6 own ix σ) (L6 own ix τ)) H':=⟨s.va,λb o t _ e=>q.keep b o t e,q.sub,λb n t=>(q.new b t).elim id λz=>absurd z n,λb n z=>by
  rcases z with (z|z)|⟨_,_,z,_⟩
  ·exact z
  ·subst z;exact absurd hn n
  ·exact absurd z HQ⟩
 refine ⟨by simp [D6,L6],λj x e=> ?_,λj xs e=>absurd e HQ,λj k xs ys p e=>absurd e HQ,s'.tp,λa m=> ?_,λa m=> ?_,s'.st⟩
 ·obtain ⟨hj,i,hi,e'⟩:=Uq e
  obtain ⟨v,hv,r⟩:=s.val i x e'
  refine ⟨v, ?_,r.mv mv⟩
  unfold D6
  rw [List.getElem?_append_right (by simpa using hj),List.length_replicate,List.getElem?_map,hi]
  simp [hv]
 ·rcases m with m|m
  ·exact s'.va.mu a m
  ·subst m;exact ⟨_,hd,Jb.lst⟩
 ·rcases m with m|m
  ·exact s'.nt m
  ·subst m;exact nt
def bY (X:Cx) (ifs:List Expr) (t:AT):Prop:=∃tt,Wb X ifs tt/\L5 X.K tt t
def Fn:AT:=λ_ Q=>Q true
theorem Dv:bY X [] Fn:=⟨_,X0,λB T σ τ H Q AQ sr h k=>k true T H (.refl sr.tp) h⟩
theorem KB {c:Expr} {t:AT} (h:O8 X c t):bY X [c] t:=let ⟨_,p,s⟩:=h;⟨_,X1 p,s⟩
theorem P8 {K:PySem.W.Frag} {s:Bool} {wi:TI} {ai:AI} {own:Nat} {ix:List Nat} {g:TG} {ag:AG} {tt:TT} {at':AT} {te:TE} (hi:Y2 K s wi ai) (hg:Jc K g ag) (ht:L5 K tt at') (he:HL K te ta):
 W1 K (WO wi own ix g tt te) (DN ai own ix ag at' ta):=by
 intro B T σ τ H Q AQ sr h k
 refine hi B T σ τ H _ _ sr h λJ xs T1 H1 s1 walk h1 D hD=> ?_
 obtain ⟨hl,h1⟩:=h1
 have sr1:=sr.stp s1
 have nt1:¬T1 D:=λz=>by obtain ⟨o,e,_⟩:=(sr1.tp D z).mut;rw [hD] at e;cases e
 have lay:=Dh.lay (o:= .lst []) sr1.tp hD
 refine ⟨λi m H2=>m=xs.length-i/\∃T2 vs acc,Dh T1 H1 T2 H2/\H2 D=some (.lst vs)/\¬T2 D/\Ay K T2 (λa=>mt B σ τ a\/a=D) H2 vs acc/\acc.length<=i/\Cn ag at' ta (L6 own ix τ) AQ (xs.drop i) acc,
  ⟨_,rfl,T1, [], [],lay,A1,nt1, .nil,Nat.le_refl _,h1⟩, ?_⟩
 rintro i m H2 ⟨rfl,T2,vs,acc,s2,eh,nt2,r2,lZ,h2⟩
 have srb:=sr1.blk (own:=own) (ix:=ix) s2 hD eh nt2
 have va2:Jd T2 (λa=>mt B σ τ a\/a=D) H2:=⟨srb.tp,srb.bm⟩
 have w:=walk (λa=>mt B σ τ a\/a=D) T2 H2 ⟨sr1.va,λb o t _ e=>s2.keep b o t e,s2.sub,λb n t=>(s2.new b t).elim id λz=>absurd z n,λb n z=>z.elim id λz=>by subst z;exact absurd hD n⟩ va2 (.inr s2.keep)
 by_cases Ft:i<xs.length
 ·have VM:xs[i]? =some xs[i] :=List.getElem?_eq_getElem Ft
  rw [List.drop_eq_getElem_cons Ft] at h2
  refine .inr ⟨w.go i _ VM,λv H3 yl=> ?_⟩
  obtain ⟨s3,r3⟩:=w.yld i _ v H3 VM yl
  have sr3:=srb.stp s3
  refine hg _ T2 _ _ H3 v _ _ _ sr3 (r3.mv (.anti ⟨sr3.tp,sr3.bm⟩ λa z=>z.elim id λ⟨_,_,z,_⟩=>absurd z HQ)) h2 λσ4 τ4 sr4 o4 h4=> ?_
  refine ht _ T2 σ4 τ4 H3 _ _ sr4 h4 λok T5 H5 s5 h5=> ?_
  have sr5:=sr4.stp s5
  have gI:=s3.keep D _ nt2 eh
  have ej:=s5.keep D _ nt2 gI
  have nt5:¬T5 D:=λz=>(s5.new D z).elim nt2 λn=>by rw [n] at gI;cases gI
  have r5:=(r2.stp s3 va2).stp s5 ⟨sr3.tp,sr3.bm⟩
  cases ok with
  | false=>
    rw [if_neg Bool.false_ne_true] at h5 ⊢
    exact ⟨_,by omega,rfl,T5,vs,acc,(s2.trans s3).trans s5,ej,nt5,r5,by omega,h5⟩
  | true=>
    rw [if_pos rfl] at h5 ⊢
    refine he _ T5 σ4 τ4 H5 _ _ sr5 h5 λvy y T6 H6 s6 r6 h6=> ?_
    have sr6:=sr5.stp s6
    have lW:=s6.keep D _ nt5 ej
    have nt6:¬T6 D:=λz=>(s6.new D z).elim nt5 λn=>by rw [n] at ej;cases ej
    have va6:Jd T6 (λa=>mt B σ τ a\/a=D) H6:=⟨sr6.tp,sr6.bm⟩
    have r7:=r5.stp s6 ⟨sr5.tp,sr5.bm⟩
    have s7:=((s2.trans s3).trans s5).trans s6
    have tp8:∀a,T6 a->Ed (upd H6 D (.lst (vs ++ [vy]))) a:=λa t=>by
     obtain ⟨d,x,e,z⟩:=sr6.tp a t
     exact ⟨d,x,by rw [Al (λw=>by subst w;exact nt6 t)];exact e,z⟩
    have mv8:Mv K T6 (λa=>mt B σ τ a\/a=D) H6 T6 (λa=>mt B σ τ a\/a=D) (upd H6 D (.lst (vs ++ [vy]))):=⟨va6,λb o _ m e=>by rw [Al (λw=>m (.inr w))];exact e,λ_ t=>t,λ_ _ t=>t,λ_ _ z=>z⟩
    refine ⟨vs,lW,by rw [r2.length];omega,_,(by omega:xs.length-(i+1)<xs.length-i),rfl,T6,vs ++ [vy],acc ++ [y],⟨λb o t e=> ?_,s7.sub,s7.new,tp8⟩,A1,nt6,(r7.append (.cons (r6.mv (.anti sr6.va λa z=> .inl z)) .nil)).mv mv8,by simp;omega,h6⟩
    rw [Al (BG e hD)]
    exact s7.keep b o t e
 ·rw [List.drop_eq_nil_of_le (by omega)] at h2
  refine .inl ⟨w.stop i (by omega), ?_⟩
  exact k D vs acc T2 H2 (s1.trans s2) (sr1.add s2 hD eh Jb.lst nt2) (s1.none hD) eh nt2 (r2.mv (.anti va2 λa z=>by
   rcases z with (z|z)|z
   ·exact .inl (.inl z)
   ·exact .inr z
   ·exact .inl (.inr z))) h2
structure Uf (X:Cx) (tg elt:Expr) (ifs:List Expr) (scope:Scope) (own:Nat) (ix:List Nat) (N:List Str) (g:AG) (t:AT) (te:AE):Prop where
 ex:∃g' t' te',IW X tg elt ifs scope own ix N g' t' te'/\Jc X.K g' g/\L5 X.K t' t/\HL X.K te' te
theorem DV {tg elt iter:Expr} {ifs:List Expr} {scope:Scope} {own:Nat} {ix:List Nat} {N:List Str} {g:AG} {t:AT} {s:Bool} {ai:AI} (hc:X.calm=true) (hi:SI X tg iter s ai) (O:Uf X tg elt ifs scope own ix N g t ta) (hs:∀x,foldedSetIterable iter X.env x=pure x:=by intro _;rfl):
 SF X (.ListComp elt [⟨tg,iter,ifs,0⟩] scope pos) (DN ai own ix g t ta):=by
 obtain ⟨wi,pi,si⟩:=hi
 obtain ⟨g',t',te',O,sg,st,se⟩:=O.ex
 exact ⟨_,Xv hc pi O hs,P8 si sg st se⟩
theorem Lu {i:Nat} {x:Str} {pos' spos:Pos} {tg elt iter:Expr} {ifs:List Expr} {scope:Scope} {own:Nat} {ix:List Nat} {N:List Str} {g:AG} {t:AT} {s:Bool} {ai:AI} (hc:X.calm=true) (hN:X.N.Nodup) (bE:X.N[i]? =some x) (hx:Loc X.env.scope x) (hi:SI X tg iter s ai) (O:Uf X tg elt ifs scope own ix N g t ta)
 (cP:swapsWith (.ListComp elt [⟨tg,iter,ifs,0⟩] scope pos) (some (.Name x pos')) spos.line X.env=pure true:=by rfl) (hs:∀x,foldedSetIterable iter X.env x=pure x:=by intro _;rfl)
 (hf:X.fn x=true\/X.env.scope.names.lookup x=some .local:=by first | exact .inl rfl|exact .inr rfl|assumption):
 SS X (.Assign [.Name x pos'] (.ListComp elt [⟨tg,iter,ifs,0⟩] scope pos) spos) (Av (IN (DN ai own ix g t ta)) (A8 i)):=by
 obtain ⟨wi,pi,si⟩:=hi
 obtain ⟨g',t',te',O,sg,st,se⟩:=O.ex
 exact ⟨_,X5 hc hN bE hx pi O cP hs hf,OE (WC (P8 si sg st se)) OF⟩
end
def Iz (N:Nat) (xs:List PV):BB:=xs.map (λx=>some (.val x))++List.replicate (N-xs.length) none
def Au (N:Nat) (b:AS):AF:=λxs Q=>b {nx:=λ_=>Q .non,rt:=Q,bk:=λ_=>False,ct:=λ_=>False} (Iz N xs)
theorem WM {K:PySem.W.Frag} {T M:Addr->Prop} {H:Hp} {N:List Str} {vs:List V} {xs:List PV} (va:Jd T M H) (mt':∀a,M a->¬T a) (r:Ay K T M H vs xs):SR K ⟨T,H,M⟩ T H (start N vs) (Iz N.length xs):=by
 have no:∀(j:Nat) (ys:List PV),(Iz N.length xs)[j]? ≠some (some (.own ys)):=λj ys h=>by
  unfold Iz at h
  by_cases hj:j<xs.length
  ·rw [List.getElem?_append_left (by simpa using hj),List.getElem?_map,List.getElem?_eq_getElem hj] at h
   cases h
  ·rw [List.getElem?_append_right (by simpa using hj),List.getElem?_replicate] at h
   split at h <;> cases h
 refine ⟨by simp [L2.start,Iz,r.length],λj x h=> ?_,λj ys h=>absurd h (no j ys),λj k ys zs p h=>absurd h (no j ys),va.tp,va.mu,mt', .refl va.tp⟩
 unfold Iz at h
 by_cases hj:j<xs.length
 ·rw [List.getElem?_append_left (by simpa using hj),List.getElem?_map,List.getElem?_eq_getElem hj] at h
  cases h
  obtain ⟨v,hv,rv⟩:=r.get (List.getElem?_eq_getElem hj)
  refine ⟨v, ?_,rv.mv (.anti va λa m=>m.elim id λ⟨_,_,z,_⟩=>absurd z (no _ _))⟩
  unfold L2.start
  rw [List.getElem?_append_left (by rw [List.length_map,r.length];exact hj),List.getElem?_map,hv]
  rfl
 ·rw [List.getElem?_append_right (by simpa using hj),List.getElem?_replicate] at h
  split at h <;> cases h
section
variable {P:Program} {w:World} {K:PySem.W.Frag} {mg:Str->Option Value} {base:Heap}
theorem Ae {x qual:Str} {st:Stmt} {f:Addr} {fd:FuncData} {N ps:List Str} {k n:Nat} {b:AS} (F:C8 K x qual st f fd) (S:Ad N ps (AU st)) (hn:n=ps.length)
 (Pa:∀(cdv:Value) (A:Around) (outer:List Env) (s:Shared) (H:Hp) (E:XK),Room k (A.deeper (envOfC qual (AU st) s.heap.objs.size f cdv))->
   W0 (Qn C7 P w K mg base N qual (AU st) f cdv A outer s H E).nox (Dp st) b):A4 P w K mg base C7 (k+1) f fd ps (BS K n (Au N.length b)):=by
 refine F.ok S (λvs H Q E h=> ?_) (λcdv A outer s H vs Q E hr h=> ?_)
 ·obtain ⟨T,M,xs,AQ,_,_,r,hl,_⟩:=h
  rw [r.length,hl,hn]
 ·obtain ⟨T,M,xs,AQ,va,mt',r,hl,hF,hQ⟩:=h
  obtain ⟨t,p,sm⟩:=Pa cdv A outer s H E hr
  refine ⟨t,p,sm ⟨T,H,M⟩ T _ _ H _ _ (WM va mt' r) hF ⟨λT' H' σ' τ' _ sr q=> ?_,λ_ _ _ _ _ _ q=>q.elim,λ_ _ _ _ _ _ q=>q.elim,λv x T' H' s' r' q=>hQ v x T' H' s' r' q⟩⟩
  exact hQ _ _ T' H' sr.st .non q
end
end PL
end
section
namespace PL
open PySem PySem.Spec PyProof.Rows L2
section
variable {X:Cx}
theorem Ut {prog:Program} {w:World} {A:Around} {E:Value->Shared->Prop} {s:Shared} {t b:Addr} {ws:List Value} {Q:Value->Shared->Prop} (ht:IsTup s.heap t #[]) (hb:IsTup s.heap b ws.toArray) (h0:Q (.ref b) s):wpAny (model prog w) A (binaryOp .Add (.ref t) (.ref b)) Q E s:=by
 obtain ⟨⟨cls,dd,data,sl⟩,ho,hc,n,hd⟩:=id ht
 obtain ⟨⟨cls2,dd2,data2,sl2⟩,ZW,VJ,n2,ZT⟩:=id hb
 simp only at hc hd VJ ZT
 subst hc hd VJ ZT
 exact concat_meets ⟨_,ho,rfl⟩ ⟨_,ZW,rfl⟩ noFill_tuple_add seq_tuple_add PySem.F.slot_tuple_add PySem.F.entry_tuple_add (PySem.F.args_tuple_add_2 _ _)
  (tuple_addW0 t b #[] ws.toArray n n2 dd dd2 sl sl2 (by simp)) ⟨ho,ZW,h0⟩
def V4 (K:PySem.W.Frag):R2:=λx y H Q=>∃a b ys,x= .ref a/\y= .ref b/\JE K H a [] /\JE K H b ys/\Q (.ref b) H
theorem Vp:Dc X (binaryOp .Add) (V4 X.K):=by
 intro pins s σ H x y v u Q I rx ry h
 obtain ⟨a,b,ys,rfl,rfl,ha,hb,q⟩:=h
 cases rx
 cases ry
 obtain ⟨its,r1,p1,_⟩:=I.tuple ha
 obtain ⟨its2,r2,p2,_⟩:=I.tuple hb
 cases r1
 exact Ut p1 p2 ⟨.ref b,H,I,rfl,q⟩
def Yg (K:PySem.W.Frag):R2:=λx y H Q=>((OX (λi j=>V.int (i+j)) x y H Q\/dH x y H Q)\/Yh K x y H Q)\/V4 K x y H Q
def Am:Ia:=λx y Q=>match x,y with
 | .int i, .int j=>Q (.int (i+j))
 | .lst xs, .lst ys=>xs.length+ys.length<=sizeLine/\Q (.lst (xs++ys))
 | .tup xs, .tup ys=>xs.length+ys.length<=sizeLine/\Q (.tup (xs++ys))
 | _,_=>False
theorem Af:Dc X (binaryOp .Add) (Yg X.K)/\CJ X.K (Yg X.K) Am:=by
 refine ⟨((Io.or Zx).or Xp).or Vp,λT M H u v x y Q AQ va ru rv h k=> ?_⟩
 unfold Am at h
 split at h <;> first | exact h.elim|skip
 ·exact .inl (.inl (.inl ⟨_,_,ru.toI,rv.toI,k _ _ T H (.refl va.tp) (.int _) h⟩))
 ·obtain ⟨a,vs,rfl,hq,nt,nm,rs⟩:=FM ru
  obtain ⟨b,ws,rfl,We,nt2,nm2,rs2⟩:=FM rv
  refine .inl (.inl (.inr ⟨a,b,vs,ws,rfl,rfl,hq,We,by rw [rs.length,rs2.length];exact h.1,λp hp=> ?_⟩))
  have st:=Dh.lay (o:= .lst (vs++ws)) va.tp hp
  have np:¬T p:=λz=>by obtain ⟨o,e,_⟩:=(va.tp p z).mut;rw [hp] at e;cases e
  have nq:¬M p:=λz=>by obtain ⟨o,e,_⟩:=va.mu p z;rw [hp] at e;cases e
  exact k _ _ T _ st (.lst A1 np nq ((rs.append rs2).stp st va)) h.2
 ·obtain ⟨a,vs,rfl,hq,rs⟩:=F0 ru
  obtain ⟨b,ws,rfl,We,rs2⟩:=F0 rv
  by_cases e:vs= []
  ·subst e
   cases rs
   exact .inr ⟨a,b,ws,rfl,rfl,hq,We,k _ _ T H (.refl va.tp) rv (by simpa using h.2)⟩
  ·refine .inl (.inr ⟨a,b,vs,ws,rfl,rfl,hq,We,e,by rw [rs.length,rs2.length];exact h.1,λz=> ?_,λz p hp=> ?_⟩)
   ·subst z
    cases rs2
    exact k _ _ T H (.refl va.tp) ru (by simpa using h.2)
   ·have st:=Dh.lay (o:= .tup (vs++ws)) va.tp hp
    exact k _ _ T _ st (.tup (.inl A1) ((rs.append rs2).stp st va)) h.2
theorem GG {prog:Program} {w:World} {A:Around} {E:Value->Shared->Prop} {s:Shared} {t sl:Addr} {items:Array Value} {vl vu:Value} {lo hi:Option Int} {Q:Value->Shared->Prop} (ht:IsTup s.heap t items) (hs:s.heap.IsSliceOf sl vl vu .none) (pl:IsPart vl lo) (pu:IsPart vu hi)
 (hw:HT.sIx items.size 0 lo=0/\HT.sIx items.size items.size hi=items.size)
 (h:Q (.ref t) s):wpAny (model prog w) A (getItem (.ref t) (.ref sl)) Q E s:=by
 obtain ⟨os,ZY,eo,cI⟩:=id hs
 have gJ:s.TypeIs (.ref sl) "slice" :=⟨os,ZY,eo⟩
 obtain ⟨ot,ng,nU,nt,nV⟩:=id ht
 unfold getItem
 try with_reducible refine wpAny_holding ?_
 first | refine wpAny_bind (wpAny_pure ?_)|skip
 refine wpAny_bind (wpAny_sequenceKey ht.typeIs (by decide) ?_)
 refine wpAny_bind (wpAny_callSpecial?_slot (name:=Str.ofString "__getitem__") ht.typeIs PyProof.Rows.slot_tuple_getitem
  (wpAny_call_entry PyProof.Rows.slot_tuple_getitem ht.typeIs entry_tuple_getitem ?_ (args_tuple_getitem _ _)))
 show wpAny _ _ (Builtin.Tuple.tupleItemsOf (.ref t) >>= _) _ _ s
 refine wpAny_bind (tupleItemsOf_ ht ?_)
 refine wpAny_bind (wpAny_typeOf gJ ?_)
 rw [if_pos (by decide)]
 refine wpAny_bind (HT.sliceApplied_gen hs pl pu ?_)
 have gj:((((HT.sIx items.size 0 lo:Nat):Int)==0&&(1:Int)==1&&(HT.sIx items.size items.size hi-HT.sIx items.size 0 lo)==items.size)=true):=by
  rw [hw.1,hw.2]
  simp
 show wpAny _ _ (if (((HT.sIx items.size 0 lo:Nat):Int)==0&&(1:Int)==1&&(HT.sIx items.size items.size hi-HT.sIx items.size 0 lo)==items.size)=true then _ else _) _ _ s
 rw [if_pos gj]
 unfold Builtin.Tuple.tupleIsExact
 simp only [bind_assoc,pure_bind]
 refine wpAny_bind (wpAny_typeOf ht.typeIs ?_)
 rw [if_pos (by decide)]
 exact wpAny_bind (wpAny_rule (wpAny_pure ⟨_,rfl,wpAny_pure h⟩))
def gz (K:PySem.W.Frag):V->Option Int->Option Int->Hp->VK->Prop:=λx lo hi H Q=>∃a xs,x= .ref a/\JE K H a xs/\
 (HT.sIx xs.length 0 lo=0/\HT.sIx xs.length xs.length hi=xs.length)/\Q (.ref a) H
theorem YK:YU X (gz X.K):=by
 intro pins s σ H x v vl vu lo hi sl Q I rx hs pl pu h
 obtain ⟨a,xs,rfl,hx,hw,q⟩:=h
 cases rx
 obtain ⟨its,r,ht,hz⟩:=I.tuple hx
 have B6:its.toArray.size=xs.length:=by rw [List.size_toArray];exact r.length.symm
 refine ⟨"tuple",_,PyProof.Rows.slot_tuple_getitem.lookup,ht.typeIs, ?_⟩
 exact GG ht hs pl pu (by rw [B6];exact hw) ⟨.ref a,H,I,rfl,q⟩
def D7 (xs:List PV) (lo hi:Option Int):List PV:=(xs.drop (HT.sIx xs.length 0 lo)).take (HT.sIx xs.length xs.length hi-HT.sIx xs.length 0 lo)
theorem Rt {K:PySem.W.Frag} {T M:Addr->Prop} {H:Hp} {vs:List V} {xs:List PV} (r:Ay K T M H vs xs) (lo hi:Option Int):Ay K T M H (L8 vs lo hi) (D7 xs lo hi):=by
 unfold L8 D7
 rw [r.length]
 exact (r.drop _).take _
abbrev AO:=BB->(Option Int->Prop)->Prop
def fq (K:PySem.W.Frag) (t:TO) (a:AO):Prop:=∀(B:Ck) (T:Addr->Prop) (σ:L2.St) (τ:BB) (H:Hp) (Q:Option Int->Hp->Prop) (AQ:Option Int->Prop),SR K B T H σ τ->a τ AQ->
 (∀o T' H',Dh T H T' H'->AQ o->Q o H')->t σ H Q
def SO (X:Cx) (e:Option Expr) (a:AO):Prop:=∃t,PO X e t/\fq X.K t a
def TL:AO:=λ_ Q=>Q none
def TM (ta:AE):AO:=λτ Q=>ta τ λx=>Yd x λi=>Q (some i)
theorem WG:SO X none TL:=⟨_,X2,λB T σ τ H Q AQ sr h k=>k _ T H (.refl sr.tp) h⟩
theorem WH {e:Expr} {ta:AE} (h:SE X e ta):SO X (some e) (TM ta):=by
 obtain ⟨t,p,s⟩:=h
 refine ⟨_,X3 p,λB T σ τ H Q AQ sr h k=>s B T σ τ H _ _ sr h λv x T1 H1 s1 r1 h1=> ?_⟩
 obtain ⟨i,rfl,q⟩:=RF h1
 exact ⟨i,r1.toI,k _ T1 H1 s1 q⟩
@[irreducible] def UR (x:PV) (lo hi:Option Int) (Q:PV->Prop):Prop:=match x with | .tup xs=>Q (.tup (D7 xs lo hi)) | .lst xs=>Q (.lst (D7 xs lo hi))|_=>False
theorem FJ {xs:List PV} {lo hi:Option Int} {Q:PV->Prop} (h:Q (.tup (D7 xs lo hi))):UR (.tup xs) lo hi Q:=by unfold UR;exact h
theorem EZ {xs:List PV} {lo hi:Option Int} {Q:PV->Prop} (h:Q (.lst (D7 xs lo hi))):UR (.lst xs) lo hi Q:=by unfold UR;exact h
def TK (ta:AE) (l h:AO):AE:=λτ Q=>ta τ λx=>l τ λlo=>h τ λhi=>UR x lo hi Q
theorem Fz {e:Expr} {lo hi:Option Expr} {p2 pos:Pos} {ta:AE} {l h:AO} (he:SE X e ta) (hl:SO X lo l) (hh:SO X hi h):SE X (.Subscript e (.Slice lo hi none p2) pos) (TK ta l h):=by
 obtain ⟨t,p,s⟩:=he
 obtain ⟨t1,p1,s1'⟩:=hl
 obtain ⟨t2,p2',s2'⟩:=hh
 refine ⟨_,Vx ((YJ.or aW).or YK) p p1 p2',λB T σ τ H Q AQ sr h k=>s B T σ τ H _ _ sr h λv x T1 H1 s1 r1 h1=> ?_⟩
 refine s1' B T1 σ τ H1 _ _ (sr.stp s1) h1 λlo T2 H2 s2 h2=> ?_
 refine s2' B T2 σ τ H2 _ _ ((sr.stp s1).stp s2) h2 λhi T3 H3 s3 h3=> ?_
 have sr3:=((sr.stp s1).stp s2).stp s3
 have r3:=(r1.stp s2 (sr.stp s1).va).stp s3 ((sr.stp s1).stp s2).va
 have s123:=(s1.trans s2).trans s3
 unfold UR at h3
 split at h3 <;> first | exact h3.elim|skip
 ·obtain ⟨a,vs,rfl,hq,rs⟩:=F0 r3
  by_cases hw:HT.sIx vs.length 0 lo=0/\HT.sIx vs.length vs.length hi=vs.length
  ·refine .inr ⟨a,vs,rfl,hq,hw,k _ _ T3 H3 s123 r3 ?_⟩
   rename_i xs
   have:D7 xs lo hi=xs:=by
    unfold D7
    rw [<-rs.length,hw.1,hw.2,rs.length]
    simp
   rw [this] at h3
   exact h3
  ·refine .inl (.inr ⟨a,vs,rfl,hq,hw,λq VP=> ?_⟩)
   have st:=Dh.lay (o:= .tup (L8 vs lo hi)) sr3.tp VP
   exact k _ _ T3 _ (s123.trans st) (.tup (.inl A1) ((Rt rs lo hi).stp st sr3.va)) h3
 ·obtain ⟨a,vs,rfl,hq,nt,nm,rs⟩:=FM r3
  refine .inl (.inl ⟨a,vs,rfl, .inl (.inl hq),λq VP=> ?_⟩)
  have st:=Dh.lay (o:= .lst (L8 vs lo hi)) sr3.tp VP
  have np:¬T3 q:=λz=>by obtain ⟨o,e,_⟩:=(sr3.tp q z).mut;rw [VP] at e;cases e
  have nq:¬mt B σ τ q:=λz=>by obtain ⟨o,e,_⟩:=sr3.va.mu q z;rw [VP] at e;cases e
  exact k _ _ T3 _ (s123.trans st) (.lst A1 np nq ((Rt rs lo hi).stp st sr3.va)) h3
end
def A7:AF:=λxs Q=>match xs with | [.tape, .int m] =>(0<m/\m<4611686018427387904)/\∀r,0<=r->r<m->Q (.int r)|_=>False
def K1:AF:=λxs Q=>match xs with | [.scr ns, .int k] =>(0<=k/\k<=1000)/\Q .tape|_=>False
end PL
end
section
namespace PL
open PySem PySem.Spec PyProof.Rows L2
def bR (g:TG):Prop:=∀v σ H Q Q',(∀σ2 H2,Q σ2 H2->Q' σ2 H2)->g v σ H Q->g v σ H Q'
def Yt (g:Qb):Prop:=∀v σ H Q Q',(∀σ2 H2,Q σ2 H2->Q' σ2 H2)->g v σ H Q->g v σ H Q'
def SK (own:Nat) (X:Cx) (tg:Expr) (ag:AG):Prop:=∃g,PG X tg g/\Jc X.K g ag/\GN own g/\bR g
def eV (own:Nat) (X:Cx) (tg:List Expr) (ag:QN):Prop:=∃g,az X tg g/\MP X.K g ag/\K2 own g/\Yt g
section
variable {X:Cx} {pos:Pos} {own:Nat}
theorem YI {i:Nat} {x:Str} (hN:X.N.Nodup) (hi:X.N[i]? =some x) (hx:Loc X.env.scope x) (hk:i<own) (hf:X.fn x=true\/X.env.scope.names.lookup x=some .local:=by first | exact .inl rfl|exact .inr rfl|assumption):SK own X (.Name x pos) (A8 i):=
 ⟨_,SM hN hi hx hf,OF,XI hk,XM⟩
theorem KC:eV own X [] Dm:=⟨_,SN,P9,XJ,XN⟩
theorem Bq {e:Expr} {es:List Expr} {ag:AG} {ags:QN} (h1:SK own X e ag) (h2:eV own X es ags) (hs:(assignEach (e::es) X.env).map (·.2)=assign e X.env::(assignEach es X.env).map (·.2):=by rfl):eV own X (e::es) (Ap ag ags):=
 let ⟨_,p,s,k,m⟩:=h1;let ⟨_,p',s',k',m'⟩:=h2;⟨_,Pt p p' hs,Mz s s',U7 k m k' m',U8 m m'⟩
end
def ee (K:PySem.W.Frag) (own:Nat) (ag:AG):TG:=λv σ H Q=>∃(B:Ck) (T:Addr->Prop) (τ:BB) (x:PV) (AQ:BB->Prop),SR K B T H σ τ/\Cg K T (mt B σ τ) H v x/\ag x τ AQ/\
 ∀σ' τ',SR K B T H σ' τ'->(∀b,Ch σ' τ' b->Ch σ τ b)->AQ τ'->(σ'.length=σ.length/\∀j,own<=j->σ'[j]? =σ[j]?)->Q σ' H
def iC (K:PySem.W.Frag) (a:AT):TT:=λσ H Q=>∃(B:Ck) (T:Addr->Prop) (τ:BB) (AQ:Bool->Prop),SR K B T H σ τ/\a τ AQ/\∀b T' H',Dh T H T' H'->AQ b->Q b H'
def gB (K:PySem.W.Frag) (a:AE):TE:=λσ H Q=>∃(B:Ck) (T:Addr->Prop) (τ:BB) (AQ:PV->Prop),SR K B T H σ τ/\a τ AQ/\∀v x T' H',Dh T H T' H'->Cg K T' (mt B σ τ) H' v x->AQ x->Q v H'
theorem YF {K:PySem.W.Frag} {own:Nat} {ag:AG}:Jc K (ee K own ag) ag:=λB T σ τ H v x Q AQ sr r h k=>⟨B,T,τ,x,AQ,sr,r,h,λσ' τ' s o q _=>k σ' τ' s o q⟩
theorem Va {K:PySem.W.Frag} {own:Nat} {ag:AG}:GN own (ee K own ag):=λv σ H Q ⟨B,T,τ,x,AQ,sr,r,h,k⟩=>⟨B,T,τ,x,AQ,sr,r,h,λσ' τ' s o q z=>⟨k σ' τ' s o q z,z⟩⟩
theorem YH {K:PySem.W.Frag} {a:AT}:L5 K (iC K a) a:=λB T σ τ H Q AQ sr h k=>⟨B,T,τ,AQ,sr,h,k⟩
theorem YE {K:PySem.W.Frag} {a:AE}:HL K (gB K a) a:=λB T σ τ H Q AQ sr h k=>⟨B,T,τ,AQ,sr,h,k⟩
section
variable {X:Cx}
theorem SK.of {own:Nat} {tg:Expr} {ag:AG} (h:SK own X tg ag):PG X tg (ee X.K own ag):=by
 obtain ⟨g,p,s,k,m⟩:=h
 intro pins sh σ H v u Q I r hw
 obtain ⟨B,T,τ,x,AQ,sr,rx,h,c⟩:=hw
 have h1:g v σ H λσ' H'=>H'=H/\∃τ',SR X.K B T H σ' τ'/\(∀b,Ch σ' τ' b->Ch σ τ b)/\AQ τ':=s B T σ τ H v x _ AQ sr rx h λσ' τ' s o q=>⟨rfl,τ',s,o,q⟩
 have h2:=k v σ H _ h1
 refine p pins sh σ H v u Q I r (m v σ H _ _ (λσ2 H2 q=> ?_) h2)
 obtain ⟨⟨rfl,τ',s',o',q'⟩,z⟩:=q
 exact c σ2 τ' s' o' q' z
theorem bY.of {ifs:List Expr} {a:AT} (h:bY X ifs a):Wb X ifs (iC X.K a):=by
 obtain ⟨t,p,s⟩:=h
 intro pins sh σ H Q I hw
 obtain ⟨B,T,τ,AQ,sr,h,c⟩:=hw
 exact p pins sh σ H Q I (s B T σ τ H Q AQ sr h c)
theorem SE.of {e:Expr} {a:AE} (h:SE X e a):PE X e (gB X.K a):=by
 obtain ⟨t,p,s⟩:=h
 intro pins sh σ H Q I hw
 obtain ⟨B,T,τ,AQ,sr,h,c⟩:=hw
 exact p pins sh σ H Q I (s B T σ τ H Q AQ sr h c)
theorem DP {tg elt:Expr} {ifs:List Expr} {scope:Scope} {own:Nat} {ix:List Nat} {N:List Str} {g:AG} {t:AT} {te:AE} (h1:scope.kind= .function) (h2:(scope.names.all λy=> !decide (y.2= .cell))=true) (h3:(scope.names.all λy=> !decide (y.2= .local)||decide (scope.names.lookup y.1=some .local))=true)
 (h4:(scope.names.all λy=> !decide (y.2= .free)||decide (X.env.scope.names.lookup y.1=some .cell))=true) (h5:N.length=own+ix.length) (h6:Qu X (relabel scope X.env) own ix N=true)
 (tgt:∀cl C s H ex pn,SK own (blk X (relabel scope X.env) N cl C s H ex pn) tg g)
 (tst:∀cl C s H ex pn,bY (blk X (relabel scope X.env) N cl C s H ex pn) ifs t)
 (val:∀cl C s H ex pn,SE (blk X (relabel scope X.env) N cl C s H ex pn) elt te):Uf X tg elt ifs scope own ix N g t te:=
 ⟨ee X.K own g,iC X.K t,gB X.K te,W9 h1 h2 h3 h4 h5 h6 Va (λcl C s H ex pn=>(tgt cl C s H ex pn).of) (λcl C s H ex pn=>(tst cl C s H ex pn).of) (λcl C s H ex pn=>(val cl C s H ex pn).of),YF,YH,YE⟩
end
end PL
end
section
namespace PL
open PySem PySem.Spec PyProof.Rows L2
mutual
def pd:PV->PyData
 | .bl b=> .bool b
 | .int i=> .int i
 | .str x=> .str x
 | .tup xs=> .tuple (Jp xs)
 | .lst xs=> .list (Jp xs)
 | _=> .none
def Jp:List PV->List PyData
 | [] => []
 | x::xs=>pd x::Jp xs
end
mutual
def DL:Nat->PV->Bool
 | _, .non=>true
 | _, .bl _=>true
 | _, .int _=>true
 | _, .str x=>PyData.strOk x
 | n+1, .tup xs=>GH n xs
 | n+1, .lst xs=>GH n xs
 | _,_=>false
def GH:Nat->List PV->Bool
 | _, [] =>true
 | n,x::xs=>DL n x&&GH n xs
end
mutual
theorem FB:∀(n:Nat) (x:PV),DL n x=true->(pd x).canLay0=true/\(pd x).depth<=n/\(pd x).hasDict=false
 | n, .non,_=>⟨rfl,Nat.zero_le _,rfl⟩
 | n, .bl _,_=>⟨rfl,Nat.zero_le _,rfl⟩
 | n, .int _,_=>⟨rfl,Nat.zero_le _,rfl⟩
 | n, .str x,h=>⟨by simpa [pd,PyData.canLay0,DL] using h,Nat.zero_le _,rfl⟩
 | 0, .tup xs,h=>by simp [DL] at h
 | 0, .lst xs,h=>by simp [DL] at h
 | n+1, .tup xs,h=>by
   obtain ⟨a,b,c⟩:=Fv n xs (by simpa [DL] using h)
   exact ⟨by simpa [pd,PyData.canLay0] using a,by simpa [pd,PyData.depth] using b,by simpa [pd,PyData.hasDict] using c⟩
 | n+1, .lst xs,h=>by
   obtain ⟨a,b,c⟩:=Fv n xs (by simpa [DL] using h)
   exact ⟨by simpa [pd,PyData.canLay0] using a,by simpa [pd,PyData.depth] using b,by simpa [pd,PyData.hasDict] using c⟩
 | n, .tape,h=>by simp [DL] at h
 | n, .scr _,h=>by simp [DL] at h
 | n, .ty _,h=>by simp [DL] at h
theorem Fv:∀(n:Nat) (xs:List PV),GH n xs=true->PyData.canLayAll0 (Jp xs)=true/\PyData.depthAll (Jp xs)<=n/\PyData.hasDictAll (Jp xs)=false
 | n, [],_=>⟨rfl,Nat.zero_le _,rfl⟩
 | n,x::xs,h=>by
   simp only [GH,Bool.and_eq_true] at h
   obtain ⟨a,b,c⟩:=FB n x h.1
   obtain ⟨a',b',c'⟩:=Fv n xs h.2
   exact ⟨by simp [Jp,PyData.canLayAll0,a,a'],by simp only [Jp,PyData.depthAll];omega,by simp [Jp,PyData.hasDictAll,c,c']⟩
end
section
variable {X:Cx} {pins:List (Addr×Obj)} {σ:L2.St} {H:Hp} {s:Shared}
mutual
theorem CZ (I:Inv X pins σ H s) {T M:Addr->Prop}:∀(n:Nat) {x:PV} {v:V} {u:Value},Cg X.K T M H v x->DL n x=true->RelV v u->∃as,Reads s.heap u (pd x) as
 | _,_,_,_, .non,_,r=>by cases r;exact ⟨_, .none⟩
 | _,_,_,_, .bl b,_,r=>by cases r;exact ⟨_, .bool b⟩
 | _,_,_,_, .int i,_,r=>by obtain ⟨t,rfl⟩:=r;exact ⟨_, .int i t⟩
 | _,_,_,_, .str x,_,r=>by obtain ⟨t,rfl⟩:=r;exact ⟨_, .str x t⟩
 | _,_,_,_, .ty n,h,r=>by simp [DL] at h
 | 0,_,_,_, .tup hq rs,h,r=>by simp [DL] at h
 | 0,_,_,_, .lst hq t m rs,h,r=>by simp [DL] at h
 | n+1,_,_,_, .tup hq rs,h,r=>by
   cases r
   obtain ⟨its,rv,⟨o,ho,hc,k,hd⟩,_⟩:=I.tuple hq.sq
   obtain ⟨as,ra⟩:=Fw I n rs (by simpa [DL] using h) rv
   exact ⟨_, .tuple ho hc hd (by simpa using ra)⟩
 | n+1,_,_,_, .lst hq t m rs,h,r=>by
   cases r
   obtain ⟨its,rv,⟨o,k,ho,hc,_,hd⟩,_⟩:=I.list (Fc.of hq)
   obtain ⟨as,ra⟩:=Fw I n rs (by simpa [DL] using h) rv
   exact ⟨_, .list ho hc hd (by simpa using ra)⟩
 | _,_,_,_, .tape _,h,r=>by simp [DL] at h
 | _,_,_,_, .scr _,h,r=>by simp [DL] at h
theorem Fw (I:Inv X pins σ H s) {T M:Addr->Prop}:∀(n:Nat) {xs:List PV} {vs:List V} {us:List Value},Ay X.K T M H vs xs->GH n xs=true->Aq vs us->∃as,ReadsAll s.heap us (Jp xs) as
 | _,_,_,_, .nil,_,r=>by cases r;exact ⟨_, .nil⟩
 | n,_,_,_, .cons h t,hk,r=>by
   simp only [GH,Bool.and_eq_true] at hk
   cases r with
   | cons r rr=>
     obtain ⟨as,ra⟩:=CZ I n h hk.1 r
     obtain ⟨bs,rb⟩:=Fw I n t hk.2 rr
     exact ⟨_, .cons ra rb⟩
end
end
section
variable {X:Cx}
def Jf (x y:PV):Bool:=PyData.eqv (pd x) (pd y)
def X8 (K:PySem.W.Frag) (neg:Bool):R2:=λu v H Q=>∃(T M:Addr->Prop) (x y:PV),Cg K T M H u x/\Cg K T M H v y/\DL 30 x=true/\DL 30 y=true/\Q (.bl (if neg then !Jf x y else Jf x y)) H
theorem Zy {k:Nat} (hr:Room k X.A):Dc X (compareOp .Eq) (X8 X.K false):=by
 intro pins s σ H u v uu vv Q I ru rv h
 obtain ⟨T,M,x,y,rx,ry,kx,ky,q⟩:=h
 obtain ⟨as,ra⟩:=CZ I 30 rx kx ru
 obtain ⟨bs,rb⟩:=CZ I 30 ry ky rv
 obtain ⟨a1,a2,_⟩:=FB 30 x kx
 obtain ⟨b1,b2,_⟩:=FB 30 y ky
 exact SeqAt.compareEq_reads ra rb a1 b1 (by have:=hr.un;omega) ⟨.bl _,H,I,rfl,q⟩
theorem Z2 {k:Nat} (hr:Room k X.A):Dc X (compareOp .NotEq) (X8 X.K true):=by
 intro pins s σ H u v uu vv Q I ru rv h
 obtain ⟨T,M,x,y,rx,ry,kx,ky,q⟩:=h
 obtain ⟨as,ra⟩:=CZ I 30 rx kx ru
 obtain ⟨bs,rb⟩:=CZ I 30 ry ky rv
 obtain ⟨a1,a2,_⟩:=FB 30 x kx
 obtain ⟨b1,b2,_⟩:=FB 30 y ky
 exact SeqAt.compareNe_reads ra rb a1 b1 (by have:=hr.un;omega) ⟨.bl _,H,I,rfl,q⟩
def IP:Ia:=λx y Q=>match Sd x y with | some b=>Q (.bl b)|none=>(DL 30 x=true/\DL 30 y=true)/\Q (.bl (Jf x y))
def U0:Ia:=λx y Q=>match Sd x y with | some b=>Q (.bl (!b))|none=>(DL 30 x=true/\DL 30 y=true)/\Q (.bl (!Jf x y))
def dI (K:PySem.W.Frag):R2:=λx y H Q=>je x y H Q\/X8 K false x y H Q
def dP (K:PySem.W.Frag):R2:=λx y H Q=>jf x y H Q\/X8 K true x y H Q
theorem DJ {k:Nat} (hr:Room k X.A):Dc X (compareOp .Eq) (dI X.K)/\CJ X.K (dI X.K) IP:=by
 refine ⟨c6.or (Zy hr),λT M H u v x y Q AQ va ru rv h k=> ?_⟩
 unfold IP at h
 split at h
 ·rename_i b e
  obtain ⟨h1,h2⟩:=P4 ru rv e
  refine .inl ⟨h1, ?_⟩
  rw [h2]
  exact k _ _ T H (.refl va.tp) (.bl _) h
 ·exact .inr ⟨T,M,x,y,ru,rv,h.1.1,h.1.2,k _ _ T H (.refl va.tp) (.bl _) h.2⟩
theorem QA {k:Nat} (hr:Room k X.A):Dc X (compareOp .NotEq) (dP X.K)/\CJ X.K (dP X.K) U0:=by
 refine ⟨c9.or (Z2 hr),λT M H u v x y Q AQ va ru rv h k=> ?_⟩
 unfold U0 at h
 split at h
 ·rename_i b e
  obtain ⟨h1,h2⟩:=P4 ru rv e
  refine .inl ⟨h1, ?_⟩
  rw [h2]
  exact k _ _ T H (.refl va.tp) (.bl _) h
 ·exact .inr ⟨T,M,x,y,ru,rv,h.1.1,h.1.2,k _ _ T H (.refl va.tp) (.bl _) h.2⟩
structure fo (x:PV):Prop where
 ok:DL 30 x=true
 sh:(pd x).showable=true
 sz:(pd x).shown.length<=sizeLine
end
end PL
end
section
namespace PL
open PySem PySem.Spec PyProof.Rows L2
section
variable {prog:Program} {w:World} {A:Around} {E:Value->Shared->Prop} {s:Shared}
theorem JI {h:Heap} {l:Addr} {items:Array Value} (hl:h.IsList l items) (o:Obj):(h.push o).IsList l items:=by
 obtain ⟨ob,e,r⟩:=hl
 exact ⟨ob,Heap.get?_push_of_some _ e,r⟩
theorem MW {it t:Addr} {items:Array Value} (QK:t≠it):∀(n i:Nat) (s:Shared) (Q:List Value->Shared->Prop),s.heap.IsListIter it t i->s.heap.IsList t items->i+n<=items.size->
 (∀h',h'.IsListIter it t (i+n)->Heap.SameBut it s.heap h'->Q ((items.toList.drop i).take n) {s with heap:=h'})->wpAny (model prog w) A (draw (.ref it) n) Q E s
 | 0,i,s,Q,hit,_,_,hQ=>by
   show wpAny _ _ (pure []) Q E s
   exact wpAny_pure (by simpa using hQ s.heap hit (Heap.SameBut.refl ..))
 | n+1,i,s,Q,hit,ht,UT,hQ=>by
   have Ft:i<items.size:=by omega
   show wpAny _ _ (pyNext (.ref it) >>= _) Q E s
   refine wpAny_bind (wpAny_pyNext_list_item hit ht (x:=items[i]) (by simp [Ft]) λh₁ hit₁ hs₁=> ?_)
   refine wpAny_bind (wpAny_holding (MW QK n (i+1) _ _ hit₁ (ht.extBut hs₁.extBut QK) (by omega) λh₂ hit₂ hs₂=>wpAny_pure ?_))
   have hd:items.toList.drop i=items[i] :: items.toList.drop (i+1):=by simp [List.drop_eq_getElem_cons,Ft]
   have:=hQ h₂ (by rw [show i+(n+1)=i+1+n by omega];exact hit₂) (hs₁.trans hs₂)
   rw [hd,List.take_succ_cons] at this
   exact this
theorem JB {t:Addr} {items:Array Value} {Q:List Value->Shared->Prop} (hh:A.handled=none) (ht:s.heap.IsList t items)
 (hQ:∀h',Heap.ExtBut s.heap.objs.size s.heap h'->Q items.toList {s with heap:=h'}):wpAny (model prog w) A (unpackItems (.ref t) items.size none) Q E s:=by
 have Ft:t≠s.heap.objs.size:=by obtain ⟨o,ho,_⟩:=ht;exact Nat.ne_of_lt (Heap.lt_size ho)
 unfold unpackItems
 refine wpAny_bind ?_
 ·unfold notIterableAtAll
  refine wpAny_bind (wpAny_specialOf ht.typeIs slot_list_iter.lookup ?_)
  refine wpAny_pure ?_
  simp only [Bool.false_eq_true,if_false]
  refine wpAny_bind (wpAny_holding (wpAny_pyIter_list ht ?_))
  refine wpAny_bind (wpAny_holding (MW Ft items.size 0 _ _ ⟨_,Heap.get?_push_size _ rfl,rfl,rfl⟩ (JI ht _) (by omega) λh₁ hit₁ hs₁=> ?_))
  have MA:List.take items.size (List.drop 0 items.toList)=items.toList:=by
   rw [List.drop_zero];exact List.take_of_length_le (by simp)
  rw [MA]
  rw [if_neg (by simp)]
  have ht₁:h₁.IsList t items:=(JI ht _).extBut hs₁.extBut Ft
  refine wpAny_bind (wpAny_holding (wpAny_pyNext_list_end hh hit₁ ht₁ (by simp) λh₂ he₂=> ?_))
  simp only [Option.isSome_none,Bool.false_eq_true,if_false]
  refine wpAny_pure (hQ h₂ λb o hb e=>he₂ b o hb (hs₁.extBut b o hb (Heap.get?_push_of_some _ e)))
theorem HP {env:Env} {elts:List Expr} {x1} {pos:Pos} {t:Addr} {items:Array Value} {Q:Unit->Shared->Prop} (hh:A.handled=none) (ht:s.heap.IsList t items)
 (hn:(assignEach elts env).length=items.size) (cO:(assignEach elts env).findIdx? (·.1)=none)
 (h:∀h',Heap.ExtBut s.heap.objs.size s.heap h'->wpAny (model prog w) A (assignInOrder ((assignEach elts env).map (·.2)) items.toList) Q E {s with heap:=h'}):
 wpAny (model prog w) A (assign (.Tuple elts x1 pos) env (.ref t)) Q E s:=by
 rw [assign_Tuple]
 refine wpAny_bind (wpAny_standAt ?_)
 unfold unpack
 rw [hn,cO]
 exact wpAny_bind (wpAny_holding (JB hh ht h))
end
section
variable {X:Cx} {pos:Pos}
def ZM (K:PySem.W.Frag) (n:Nat) (t:Qb):TG:=λv σ H Q=>∃a xs,v= .ref a/\(JE K H a xs\/Fc K H a xs)/\xs.length=n/\t xs σ H Q
theorem Vy {es:List Expr} {k:Nat} {t:Qb} {n:Nat} (hc:X.calm=true) (h:az X es t)
 (hn:(assignEach es X.env).length=n:=by rfl) (bI:(assignEach es X.env).findIdx? (·.1)=none:=by rfl):PG X (.Tuple es k pos) (ZM X.K n t):=by
 intro pins s σ H v u Q I r hw
 obtain ⟨a,xs,e1,hq,hl,hw⟩:=hw
 subst e1
 cases r
 rcases hq with hq|hq
 ·obtain ⟨its,rv,ht,hz⟩:=I.tuple hq
  refine assign_Tuple_tuple (I.ok.hd hc) ht (by simp [hn,<-hl,rv.length]) bI λh' hx=> ?_
  have I1:Inv X pins σ H {s with heap:=h'}:=I.kept (t':=s.toks) λb o e=>hx b o (Nat.ne_of_lt (Heap.lt_size e)) e
  exact h pins _ σ H xs _ Q I1 (by simpa using rv) hw
 ·obtain ⟨its,rv,ht,hz⟩:=I.list hq
  refine HP (I.ok.hd hc) ht.isList (by simp [hn,<-hl,rv.length]) bI λh' hx=> ?_
  have I1:Inv X pins σ H {s with heap:=h'}:=I.kept (t':=s.toks) λb o e=>hx b o (Nat.ne_of_lt (Heap.lt_size e)) e
  exact h pins _ σ H xs _ Q I1 (by simpa using rv) hw
def QJ (n:Nat) (r:QN):AG:=λx τ Q=>RH x λxs=>xs.length=n/\r xs τ Q
theorem WD {K:PySem.W.Frag} {n:Nat} {gs:Qb} {ags:QN} (s:MP K gs ags):Jc K (ZM K n gs) (QJ n ags):=λB T σ τ H v x Q AQ sr r h k=>by
 obtain ⟨xs,hx,h⟩:=Im h
 rcases hx with rfl|rfl
 ·obtain ⟨p,vs,rfl,hq,r'⟩:=F0 r
  exact ⟨p,vs,rfl, .inl hq,by rw [r'.length];exact h.1,s B T σ τ H vs _ Q AQ sr r' h.2 k⟩
 ·obtain ⟨p,vs,rfl,hq,nt,nm,r'⟩:=FM r
  exact ⟨p,vs,rfl, .inr (.inl (.inl hq)),by rw [r'.length];exact h.1,s B T σ τ H vs _ Q AQ sr r' h.2 k⟩
theorem Lh {es:List Expr} {k:Nat} {ags:QN} {n:Nat} (hc:X.calm=true) (h:eU X es ags) (hn:(assignEach es X.env).length=n:=by rfl) (bI:(assignEach es X.env).findIdx? (·.1)=none:=by rfl):SG X (.Tuple es k pos) (QJ n ags):=
 let ⟨_,p,s⟩:=h;⟨_,Vy hc p hn bI,WD s⟩
theorem ZN {own:Nat} {K:PySem.W.Frag} {n:Nat} {t:Qb} (h:K2 own t):GN own (ZM K n t):=λv σ H Q ⟨a,xs,e,h1,h2,h3⟩=>⟨a,xs,e,h1,h2,h xs σ H Q h3⟩
theorem OH {own:Nat} {es:List Expr} {k:Nat} {ags:QN} {n:Nat} (hc:X.calm=true) (h:eV own X es ags) (hn:(assignEach es X.env).length=n:=by rfl) (bI:(assignEach es X.env).findIdx? (·.1)=none:=by rfl):SK own X (.Tuple es k pos) (QJ n ags):=
 let ⟨_,p,s,kp,m⟩:=h;⟨_,Vy hc p hn bI,WD s,ZN kp,λv σ H Q Q' z ⟨a,xs,e,h1,h2,h3⟩=>⟨a,xs,e,h1,h2,m _ _ _ _ _ z h3⟩⟩
end
end PL
end
section
namespace PL
open PySem PySem.Spec PyProof.Rows L2
theorem Ln {i:Int} (a:0<=i) (b:i<2147483647): -(2^64)<i/\i<2^64:=⟨by omega,by omega⟩
theorem lK (b:Bool):(0:Int)<=(if b=true then 1 else 0):=by cases b <;> decide
theorem jI (b:Bool): -(2^64)<(if b=true then (1:Int) else 0)/\(if b=true then (1:Int) else 0)<2^64:=by cases b <;> decide
theorem WQ {T:Addr->Prop} {H:Hp} {p:Addr} {d x:Int} (tp:∀a,T a->Ed H a) (t:T p) (d0:0<=d) (x0:0<=x) (x1:x<2147483647):Dh T H T (upd H p (.lst [.int d, .int x])) where
 keep:=λb o n e=>by rw [Al (λz=>n (by subst z;exact t))];exact e
 sub:=λ_ t=>t
 new:=λ_ t=> .inl t
 tp:=λa ta=>by
  by_cases z:a=p
  ·subst z;exact ⟨d,x,A1,d0,x0,x1⟩
  ·obtain ⟨d',x',e,q⟩:=tp a ta
   exact ⟨d',x',by rw [Al z];exact e,q⟩
theorem WP {T:Addr->Prop} {H:Hp} {p:Addr} {d x:Int} (tp:∀a,T a->Ed H a) (hp:H p=none) (d0:0<=d) (x0:0<=x) (x1:x<2147483647):Dh T H (λb=>T b\/b=p) (upd H p (.lst [.int d, .int x])) where
 keep:=λb o n e=>by rw [Al (BG e hp)];exact e
 sub:=λ_ t=> .inl t
 new:=λb t=>t.elim .inl λz=> .inr (by subst z;exact hp)
 tp:=λa ta=>by
  by_cases z:a=p
  ·subst z;exact ⟨d,x,A1,d0,x0,x1⟩
  ·rcases ta with ta|ta
   ·obtain ⟨d',x',e,q⟩:=tp a ta
    exact ⟨d',x',by rw [Al z];exact e,q⟩
   ·exact absurd ta z
theorem law_sp {K:PySem.W.Frag} {H:Hp} {a:Addr} {ns:List Int} {F:AF} (hS:Fc K H a (ns.map V.int)) (h:F [.scr ns] λx=>x= .bl true):BS K 1 F [.ref a] H (λv _=>v= .bl true) λ_ _ _=>False:=by
 refine ⟨λ_=>False,λ_=>False, [.scr ns],_,⟨λ_ z=>z.elim,λ_ z=>z.elim⟩,λ_ z=>z.elim, .cons (.scr ?_) .nil,rfl,h,λv x T' H' _ r e=> ?_⟩
 ·rcases hS with h|h
  ·exact .inl ⟨h,id,id⟩
  ·exact .inr λH=> .inr h
 ·subst e;cases r;rfl
theorem DA {g:AG} {b:AS} {D:DW} (Pv:List PV->BB->Prop) (hd:∀τ,Pv [] τ->D.nx τ)
 (hs:∀x r τ (R:BB->Prop),(∀τ,Pv r τ->R τ)->Pv (x::r) τ->g x τ λτ1=>b {D with nx:=R,ct:=R,bk:=D.nx} τ1):
 ∀xs τ,Pv xs τ->GP g b D xs τ
 | [],τ,h=>hd τ h
 | x::r,τ,h=>hs x r τ _ (λτ2 h2=>DA Pv hd hs r τ2 h2) h
theorem Rs {g:AG} {t:AT} {te:AE} {τ0:BB} {Q:List PV->Prop} (Pv:List PV->List PV->Prop) (hd:∀acc,Pv [] acc->Q acc)
 (hs:∀x r acc (R:List PV->Prop),(∀acc,Pv r acc->R acc)->Pv (x::r) acc->g x τ0 λτ1=>t τ1 λok=>if ok=true then te τ1 λy=>R (acc ++ [y]) else R acc):
 ∀xs acc,Pv xs acc->Cn g t te τ0 Q xs acc
 | [],acc,h=>hd acc h
 | x::r,acc,h=>hs x r acc _ (λacc2 h2=>Rs Pv hd hs r acc2 h2) h
theorem Ri {c:AT} {b:AS} {D:DW} (Pv:Nat->BB->Prop) (h0:∀τ,¬Pv 0 τ)
 (hs:∀n τ (R:BB->Prop),(∀τ,Pv n τ->R τ)->Pv (n+1) τ->c (frz τ) λk=>if k=true then b {D with nx:=R,ct:=R,bk:=D.nx} τ else D.nx τ):
 ∀n τ,Pv n τ->QH c b D n τ
 | 0,τ,h=>absurd h (h0 τ)
 | n+1,τ,h=>hs n τ _ (λτ2 h2=>Ri Pv h0 hs n τ2 h2) h
theorem B8 (lo:Int) (n:Nat):rng lo (n+1)= .int lo::rng (lo+1) n:=by
 unfold rng
 rw [List.range_succ_eq_map,List.map_cons,List.map_map]
 congr 1
 ·simp
 ·apply List.map_congr_left
  intro k _
  simp only [Function.comp]
  congr 1
  omega
theorem RN (lo:Int) (n:Nat):(rng lo n).length=n:=by simp [rng]
end PL
end
section
namespace PL
open PySem L2 PyProof.Rows
def fr (r:Rat):PV:= .tup [.int r.num, .int (r.den:Int)]
theorem Cq {b:Bool} {A B:Prop} (h1:b=true->A) (h2:b=false->B):if b=true then A else B:=by
 cases b with
 | true=>rw [if_pos rfl];exact h1 rfl
 | false=>rw [if_neg Bool.false_ne_true];exact h2 rfl
structure Bd (n:Nat) (r:Rat):Prop where
 top:r.num.natAbs<2^n
 bot:r.den<2^n
theorem Bd.botI {n:Nat} {r:Rat} (b:Bd n r):(r.den:Int).natAbs<2^n:=by simpa using b.bot
theorem LW {m n:Nat} (h:m<=n):2^m<=2^n:=Nat.pow_le_pow_right (by decide) h
theorem Bd.mono {m n:Nat} {r:Rat} (b:Bd m r) (h:m<=n):Bd n r:=⟨Nat.lt_of_lt_of_le b.top (LW h),Nat.lt_of_lt_of_le b.bot (LW h)⟩
theorem Zr {a b m n:Nat} (ha:a<2^m) (hb:b<2^n):a*b<2^(m+n):=by
 rw [Nat.pow_add]
 exact Nat.mul_lt_mul_of_lt_of_le ha (Nat.le_of_lt hb) (Nat.pos_of_ne_zero (by intro z;rw [z] at hb;omega)) |> λh=>h
theorem Aw {a b:Int} {m n:Nat} (ha:a.natAbs<2^m) (hb:b.natAbs<2^n):(a*b).natAbs<2^(m+n):=by
 rw [Int.natAbs_mul];exact Zr ha hb
theorem Ju {a b:Int} {n:Nat} (ha:a.natAbs<2^n) (hb:b.natAbs<2^n):(a+b).natAbs<2^(n+1):=by
 rw [Nat.pow_succ];omega
theorem Sv {a b:Int} {n:Nat} (ha:a.natAbs<2^n) (hb:b.natAbs<2^n):(a-b).natAbs<2^(n+1):=by
 rw [Nat.pow_succ];omega
theorem B0 {a m n:Nat} (h:a<2^m) (hm:m<=n):a<2^n:=Nat.lt_of_lt_of_le h (LW hm)
theorem MulOk.of {a b:Int} {m n:Nat} (ha:a.natAbs<2^m) (hb:b.natAbs<2^n) (hm:m<=1000000:=by omega) (hn:n<=1000000:=by omega):MulOk a b:=⟨B0 ha hm,B0 hb hn⟩
theorem Qp (t b:Int):(Rat.divInt t b).num.natAbs<=t.natAbs:=by
 rw [Rat.num_divInt]
 by_cases h:b=0
 ·subst h;simp
 ·have e:(b.gcd t:Int) ∣ b.sign*t:=Int.dvd_trans (Int.gcd_dvd_right ..) (Int.dvd_mul_left ..)
  rw [Int.natAbs_ediv_of_dvd e,Int.natAbs_mul]
  refine Nat.le_trans (Nat.div_le_self _ _) ?_
  rw [Int.natAbs_sign_of_ne_zero h]
  omega
theorem Qo (t b:Int) (h:b≠0):(Rat.divInt t b).den<=b.natAbs:=by
 rw [Rat.den_divInt,if_neg h]
 exact Nat.div_le_self _ _
theorem Bd.divInt {n:Nat} {t b:Int} (h:b≠0) (ht:t.natAbs<2^n) (hb:b.natAbs<2^n):Bd n (Rat.divInt t b):=
 ⟨Nat.lt_of_le_of_lt (Qp t b) ht,Nat.lt_of_le_of_lt (Qo t b h) hb⟩
theorem BJ (a:Rat):(a.den:Int)≠0:=by have:=a.den_pos;omega
theorem E4 (a b:Rat):a+b=Rat.divInt (a.num*b.den+b.num*a.den) (a.den*b.den):=by
 have h:=Rat.divInt_add_divInt a.num b.num (BJ a) (BJ b)
 rw [Rat.num_divInt_den,Rat.num_divInt_den] at h
 exact h
theorem G5 (a b:Rat):a-b=Rat.divInt (a.num*b.den-b.num*a.den) (a.den*b.den):=by
 have h:=Rat.divInt_sub_divInt a.num b.num (BJ a) (BJ b)
 rw [Rat.num_divInt_den,Rat.num_divInt_den] at h
 exact h
theorem G0 (a b:Rat):a*b=Rat.divInt (a.num*b.num) (a.den*b.den):=by
 have h:=Rat.divInt_mul_divInt a.num b.num (d₁:=a.den) (d₂:=b.den)
 rw [Rat.num_divInt_den,Rat.num_divInt_den] at h
 exact h
theorem Gx (a b:Rat):a/b=Rat.divInt (a.num*b.den) (a.den*b.num):=by
 rw [Rat.div_def,Rat.inv_def]
 have h:=Rat.divInt_mul_divInt a.num b.den (d₁:=a.den) (d₂:=b.num)
 rw [Rat.num_divInt_den] at h
 exact h
theorem B7 {a b:Int} (ha:a≠0) (hb:b≠0):a*b≠0:=Int.mul_ne_zero ha hb
theorem RA {b:Rat} (h:b≠0):b.num≠0:=λz=>h (Rat.num_eq_zero.mp z)
theorem Bd.add {m n:Nat} {a b:Rat} (ha:Bd m a) (hb:Bd n b):Bd (m+n+1) (a+b):=by
 rw [E4]
 refine .divInt (B7 (BJ a) (BJ b)) (Ju (Aw ha.top (by simpa using hb.bot)) ?_) ?_
 ·rw [Nat.add_comm m n];exact Aw hb.top (by simpa using ha.bot)
 ·exact B0 (Aw (by simpa using ha.bot) (by simpa using hb.bot)) (by omega)
theorem Bd.sub {m n:Nat} {a b:Rat} (ha:Bd m a) (hb:Bd n b):Bd (m+n+1) (a-b):=by
 rw [G5]
 refine .divInt (B7 (BJ a) (BJ b)) (Sv (Aw ha.top (by simpa using hb.bot)) ?_) ?_
 ·rw [Nat.add_comm m n];exact Aw hb.top (by simpa using ha.bot)
 ·exact B0 (Aw (by simpa using ha.bot) (by simpa using hb.bot)) (by omega)
theorem Bd.mul {m n:Nat} {a b:Rat} (ha:Bd m a) (hb:Bd n b):Bd (m+n) (a*b):=by
 rw [G0]
 exact .divInt (B7 (BJ a) (BJ b)) (Aw ha.top hb.top) (Aw (by simpa using ha.bot) (by simpa using hb.bot))
theorem Bd.div {m n:Nat} {a b:Rat} (h:b≠0) (ha:Bd m a) (hb:Bd n b):Bd (m+n) (a/b):=by
 rw [Gx]
 exact .divInt (B7 (BJ a) (RA h)) (Aw ha.top (by simpa using hb.bot)) (Aw (by simpa using ha.bot) hb.top)
theorem Bd.neg {n:Nat} {a:Rat} (ha:Bd n a):Bd n (-a):=⟨by show (-a.num).natAbs<_;rw [Int.natAbs_neg];exact ha.top,ha.bot⟩
theorem U2 (n:Int):fr (n:Rat)= .tup [.int n, .int 1] :=by simp [fr]
theorem Bd.int {n:Int} {k:Nat} (h:n.natAbs<2^k) (hk:1<=k):Bd k (n:Rat):=⟨by simpa using h,by simp;omega⟩
def Ua:AS:=
 (Ag (Ic (A2 (AY U0 (aV 1) (aC (.int 0)))) (TJ 0 1 (AB (aV 1) (AB (AY TZ (aV 0) (aV 1)) AL))))
   (An (aV 0)))
def HF:AF:=Au 2 Ua
theorem Oz (x y:Nat) (Q:PV->Prop) (h:Q (.int (Nat.gcd x y:Nat))):HF [.int x, .int y] Q:=by
 have go:∀y x:Nat,∀D:DW,D.nx [some (.val (.int (Nat.gcd x y:Nat))),some (.val (.int 0))] ->∃n,QH (A2 (AY U0 (aV 1) (aC (.int 0)))) (TJ 0 1 (AB (aV 1) (AB (AY TZ (aV 0) (aV 1)) AL))) D n [some (.val (.int x)),some (.val (.int y))] :=by
  intro y
  induction y using Nat.strongRecOn with
  | _ y ih=>
    intro x D hD
    by_cases hy:y=0
    ·subst hy
     refine ⟨1, ?_⟩
     rw [Nat.gcd_zero_right] at hD
     exact hD
    ·obtain ⟨n,hn⟩:=ih (x % y) (Nat.mod_lt _ (by omega)) y D (by rw [Nat.gcd_comm y,<-Nat.gcd_rec,Nat.gcd_comm y];exact hD)
     refine ⟨n+1, ?_⟩
     refine Cq (b:= !decide ((y:Int)=0)) (λ_=> ?_) (λz=> ?_)
     ·have e2:(x:Int).fmod (y:Int)=((x % y:Nat):Int):=by
       rw [Int.fmod_eq_emod_of_nonneg _ (by omega)];simp
      refine ⟨by omega, ?_⟩
      rw [<-e2] at hn
      exact hn
     ·have:(y:Int)=0:=by simpa using z
      omega
 obtain ⟨n,hn⟩:=go y x {nx:=λτ=>An (aV 0) {nx:=λ_=>Q .non,rt:=Q,bk:=λ_=>False,ct:=λ_=>False} τ,rt:=Q,bk:=λ_=>False,ct:=λ_=>False} h
 exact ⟨n,hn⟩
def S5:AS:=
 (Ag (Bx (A2 (AY Wd (aV 1) (aC (.int 0)))) (Av (OV Fa (aV 2)) (A8 2)) BM)
   (An (B9 (AB (AY Uz (aV 0) (aV 2)) (AB (AY Uz (aV 1) (aV 2)) AL)))))
def Yp:AS:=
 (Ag (Av (AM 2 HF (AB (Fd Tc (AB (aV 0) AL)) (AB (Fd Tc (AB (aV 1) AL)) AL))) (A8 2))
   S5)
def Gs:AF:=Au 3 Yp
theorem Vu (t b:Int) (hb:b≠0):∀s:Int,s=(if b<0 then -(Nat.gcd t.natAbs b.natAbs:Int) else (Nat.gcd t.natAbs b.natAbs:Int))->s≠0/\t.fdiv s=(Rat.divInt t b).num/\b.fdiv s=((Rat.divInt t b).den:Int):=by
 intro s hs
 have g0:0<Nat.gcd t.natAbs b.natAbs:=Nat.gcd_pos_of_pos_right _ (by omega)
 have eg:b.gcd t=Nat.gcd t.natAbs b.natAbs:=by rw [Int.gcd_eq_natAbs_gcd_natAbs,Nat.gcd_comm]
 have d1:(Nat.gcd t.natAbs b.natAbs:Int) ∣ t:=by rw [<-Int.dvd_natAbs];exact Int.ofNat_dvd.mpr (Nat.gcd_dvd_left ..)
 have d2:(Nat.gcd t.natAbs b.natAbs:Int) ∣ b:=by rw [<-Int.dvd_natAbs];exact Int.ofNat_dvd.mpr (Nat.gcd_dvd_right ..)
 have d1':s ∣ t:=by rw [hs];split <;> first | exact Int.neg_dvd.mpr d1|exact d1
 have d2':s ∣ b:=by rw [hs];split <;> first | exact Int.neg_dvd.mpr d2|exact d2
 refine ⟨by rw [hs];split <;> omega, ?_, ?_⟩
 ·rw [Int.fdiv_eq_ediv_of_dvd d1',Rat.num_divInt,eg,hs]
  by_cases h:b<0
  ·rw [if_pos h,Int.sign_eq_neg_one_of_neg h,Int.ediv_neg]
   have:(-1:Int)*t= -t:=by omega
   rw [this,Int.neg_ediv_of_dvd d1]
  ·rw [if_neg h,Int.sign_eq_one_of_pos (by omega),Int.one_mul]
 ·rw [Int.fdiv_eq_ediv_of_dvd d2',Rat.den_divInt,if_neg hb,eg,hs]
  by_cases h:b<0
  ·rw [if_pos h,Int.ediv_neg]
   have:(b.natAbs:Int)= -b:=by omega
   rw [Int.natCast_ediv,this,Int.neg_ediv_of_dvd d2]
  ·rw [if_neg h]
   have:(b.natAbs:Int)=b:=by omega
   rw [Int.natCast_ediv,this]
theorem F1 (t b:Int) (hb:b≠0) (hB:b.natAbs<2^8900) (Q:PV->Prop) (h:Q (fr (Rat.divInt t b))):Gs [.int t, .int b] Q:=by
 have g0:0<Nat.gcd t.natAbs b.natAbs:=Nat.gcd_pos_of_pos_right _ (by omega)
 have gl:Nat.gcd t.natAbs b.natAbs<2^8900:=Nat.lt_of_le_of_lt (Nat.le_of_dvd (by omega) (Nat.gcd_dvd_right ..)) hB
 obtain ⟨s0,e1,e2⟩:=Vu t b hb _ rfl
 refine ⟨rfl,Oz _ _ _ ?_⟩
 refine Cq (b:=decide (b<0)) (λz=> ?_) (λz=> ?_)
 ·have z':b<0:=of_decide_eq_true z
  rw [if_pos z'] at s0 e1 e2
  refine ⟨⟨s0,by rw [Int.natAbs_neg];exact gl⟩,⟨s0,by rw [Int.natAbs_neg];exact gl⟩,(show 2<=sizeLine by decide), ?_⟩
  unfold fr at h
  rw [<-e1,<-e2] at h
  exact h
 ·have z':¬b<0:=of_decide_eq_false z
  rw [if_neg z'] at s0 e1 e2
  refine ⟨⟨s0,gl⟩,⟨s0,gl⟩,(show 2<=sizeLine by decide), ?_⟩
  unfold fr at h
  rw [<-e1,<-e2] at h
  exact h
theorem Bd.mt {n:Nat} {a b:Rat} (ha:Bd 4000 a) (hb:Bd 4000 b):MulOk a.num b.den/\MulOk b.num a.den/\MulOk a.den b.den/\MulOk a.num b.num/\MulOk a.den b.num:=
 ⟨.of ha.top (by simpa using hb.bot), .of hb.top (by simpa using ha.bot), .of (by simpa using ha.bot) (by simpa using hb.bot), .of ha.top hb.top, .of (by simpa using ha.bot) hb.top⟩
theorem MV {a b:Rat} (ha:Bd 4000 a) (hb:Bd 4000 b):((a.den:Int)*(b.den:Int)).natAbs<2^8900:=B0 (Aw (a:=(a.den:Int)) (by simpa using ha.bot) (by simpa using hb.bot)) (by omega)
def Yq:AS:=
 (An (AM 2 Gs (AB (AY Am (AY Co (AY Ah (aV 0) (aC (.int 0))) (AY Ah (aV 1) (aC (.int 1)))) (AY Co (AY Ah (aV 1) (aC (.int 0))) (AY Ah (aV 0) (aC (.int 1))))) (AB (AY Co (AY Ah (aV 0) (aC (.int 1))) (AY Ah (aV 1) (aC (.int 1)))) AL))))
def Ci:AF:=Au 2 Yq
theorem CM {a b:Rat} (ha:Bd 4000 a) (hb:Bd 4000 b) {Q:PV->Prop} (h:Q (fr (a+b))):Ci [fr a,fr b] Q:=by
 obtain ⟨m1,m2,m3,_⟩:=Bd.mt (n:=0) ha hb
 refine ⟨m1,m2,m3,rfl,F1 _ _ (B7 (BJ a) (BJ b)) (MV ha hb) _ ?_⟩
 rw [E4] at h
 exact h
def Wk:AS:=
 (An (AM 2 Gs (AB (AY E7 (AY Co (AY Ah (aV 0) (aC (.int 0))) (AY Ah (aV 1) (aC (.int 1)))) (AY Co (AY Ah (aV 1) (aC (.int 0))) (AY Ah (aV 0) (aC (.int 1))))) (AB (AY Co (AY Ah (aV 0) (aC (.int 1))) (AY Ah (aV 1) (aC (.int 1)))) AL))))
def Cf:AF:=Au 2 Wk
theorem BV {a b:Rat} (ha:Bd 4000 a) (hb:Bd 4000 b) {Q:PV->Prop} (h:Q (fr (a-b))):Cf [fr a,fr b] Q:=by
 obtain ⟨m1,m2,m3,_⟩:=Bd.mt (n:=0) ha hb
 refine ⟨m1,m2,m3,rfl,F1 _ _ (B7 (BJ a) (BJ b)) (MV ha hb) _ ?_⟩
 rw [G5] at h
 exact h
def Wl:AS:=
 (An (AM 2 Gs (AB (AY Co (AY Ah (aV 0) (aC (.int 0))) (AY Ah (aV 1) (aC (.int 0)))) (AB (AY Co (AY Ah (aV 0) (aC (.int 1))) (AY Ah (aV 1) (aC (.int 1)))) AL))))
def DT:AF:=Au 2 Wl
theorem E2 {a b:Rat} (ha:Bd 4000 a) (hb:Bd 4000 b) {Q:PV->Prop} (h:Q (fr (a*b))):DT [fr a,fr b] Q:=by
 obtain ⟨_,_,m3,m4,_⟩:=Bd.mt (n:=0) ha hb
 refine ⟨m4,m3,rfl,F1 _ _ (B7 (BJ a) (BJ b)) (MV ha hb) _ ?_⟩
 rw [G0] at h
 exact h
def Yo:AS:=
 (An (AM 2 Gs (AB (AY Co (AY Ah (aV 0) (aC (.int 0))) (AY Ah (aV 1) (aC (.int 1)))) (AB (AY Co (AY Ah (aV 0) (aC (.int 1))) (AY Ah (aV 1) (aC (.int 0)))) AL))))
def NL:AF:=Au 2 Yo
theorem MN {a b:Rat} (h0:b≠0) (ha:Bd 4000 a) (hb:Bd 4000 b) {Q:PV->Prop} (h:Q (fr (a/b))):NL [fr a,fr b] Q:=by
 obtain ⟨m1,_,_,_,m5⟩:=Bd.mt (n:=0) ha hb
 refine ⟨m1,m5,rfl,F1 _ _ (B7 (BJ a) (RA h0)) (B0 (Aw (a:=(a.den:Int)) (by simpa using ha.bot) hb.top) (by omega)) _ ?_⟩
 rw [Gx] at h
 exact h
def KL:AS:=
 (Ag (Av (AY E7 (aC (.int 1)) (AY Co (aC (.int 2)) (Fd ZL (AB (AY Wd (aV 1) (aC (.int 0))) AL)))) (A8 2))
   (An (B9 (AB (AY Uz (AY Co (aV 2) (aV 0)) (aV 3)) (AB (AY Uz (AY Co (aV 2) (aV 1)) (aV 3)) AL)))))
def KJ:AS:=
 (Ag (Ic (A2 (AY bA (aV 4) (aC (.int 0)))) (TJ 3 4 (AB (aV 4) (AB (AY TZ (aV 3) (aV 4)) AL))))
   KL)
def OZ:AS:=
 (Ag (TJ 3 4 (AB (Fd Tc (AB (aV 0) AL)) (AB (Fd Tc (AB (aV 1) AL)) AL)))
   KJ)
def Aj:AF:=Au 5 OZ
theorem Nj (t b:Int) (hb:b≠0):∀s:Int,s=(if b<0 then -1 else 1)->(s*t).fdiv (Nat.gcd t.natAbs b.natAbs:Int)=(Rat.divInt t b).num/\(s*b).fdiv (Nat.gcd t.natAbs b.natAbs:Int)=((Rat.divInt t b).den:Int):=by
 intro s hs
 have g0:0<Nat.gcd t.natAbs b.natAbs:=Nat.gcd_pos_of_pos_right _ (by omega)
 have eg:b.gcd t=Nat.gcd t.natAbs b.natAbs:=by rw [Int.gcd_eq_natAbs_gcd_natAbs,Nat.gcd_comm]
 have es:b.sign=s:=by
  rw [hs];split
  ·rename_i h;exact Int.sign_eq_neg_one_of_neg h
  ·exact Int.sign_eq_one_of_pos (by omega)
 rw [Rat.num_divInt,Rat.den_divInt,if_neg hb,eg,es,Int.fdiv_eq_ediv_of_nonneg _ (by omega),Int.fdiv_eq_ediv_of_nonneg _ (by omega)]
 refine ⟨rfl, ?_⟩
 rw [Int.natCast_ediv]
 congr 1
 rw [hs];split <;> omega
theorem Bb (t b:Int) (hb:b≠0) (hT:t.natAbs<2^900000) (hB:b.natAbs<2^8900) {Q:PV->Prop} (h:Q (fr (Rat.divInt t b))):Aj [.int t, .int b] Q:=by
 have g0:0<Nat.gcd t.natAbs b.natAbs:=Nat.gcd_pos_of_pos_right _ (by omega)
 have gl:Nat.gcd t.natAbs b.natAbs<2^8900:=Nat.lt_of_le_of_lt (Nat.le_of_dvd (by omega) (Nat.gcd_dvd_right ..)) hB
 have sg:(1:Int)-2*(if decide (b<0)=true then 1 else 0)=(if b<0 then -1 else 1):=by
  by_cases z:b<0 <;> simp [z]
 obtain ⟨e1,e2⟩:=Nj t b hb _ sg
 have go:∀y x:Nat,∀D:DW,∀u v w,D.nx [u,v,w,some (.val (.int (Nat.gcd x y:Nat))),some (.val (.int 0))] ->∃n,QH (A2 (AY bA (aV 4) (aC (.int 0)))) (TJ 3 4 (AB (aV 4) (AB (AY TZ (aV 3) (aV 4)) AL))) D n [u,v,w,some (.val (.int x)),some (.val (.int y))] :=by
  intro y
  induction y using Nat.strongRecOn with
  | _ y ih=>
    intro x D u v w hD
    by_cases hy:y=0
    ·subst hy
     refine ⟨1, ?_⟩
     rw [Nat.gcd_zero_right] at hD
     exact hD
    ·obtain ⟨n,hn⟩:=ih (x % y) (Nat.mod_lt _ (by omega)) y D u v w (by rw [Nat.gcd_comm y,<-Nat.gcd_rec,Nat.gcd_comm y];exact hD)
     refine ⟨n+1, ?_⟩
     refine Cq (b:=decide (0<(y:Int))) (λ_=> ?_) (λz=> ?_)
     ·have e2:(x:Int).fmod (y:Int)=((x % y:Nat):Int):=by
       rw [Int.fmod_eq_emod_of_nonneg _ (by omega)];simp
      refine ⟨by omega, ?_⟩
      rw [<-e2] at hn
      exact hn
     ·have:¬(0:Int)<y:=of_decide_eq_false z
      omega
 refine go b.natAbs t.natAbs _ (some (.val (.int t))) (some (.val (.int b))) none ?_
 have one:(1:Int).natAbs<2^1:=by decide
 have sb:((1:Int)-2*(if decide (b<0)=true then 1 else 0)).natAbs<2^1:=by rw [sg];split <;> decide
 refine ⟨.of (m:=2) (n:=1) (by decide) (by split <;> decide), .of sb hT,⟨by omega,gl⟩, .of sb hB,⟨by omega,gl⟩,(show 2<=sizeLine by decide), ?_⟩
 unfold fr at h
 rw [<-e1,<-e2] at h
 exact h
theorem A3 {m:Int} {Q:PV->Prop} (m0:0<m) (m1:m<4611686018427387904) (h:∀r,0<=r->r<m->Q (.int r)):A7 [.tape, .int m] Q:=⟨⟨m0,m1⟩,h⟩
mutual
def mU:Nat->PV->Bool
 | 0,_=>false
 | _+1, .non=>true
 | _+1, .bl _=>true
 | _+1, .int _=>true
 | n+1, .tup xs=>cz n xs&&decide (xs.length<sizeLine)
 | _+1,_=>false
def cz:Nat->List PV->Bool
 | _, [] =>true
 | n,x::xs=>mU n x&&cz n xs
end
theorem VX {xs:List PV} {i:Int} {Q:PV->Prop} (h0:0<=i) (h1:i<(xs.length:Int)) (h:∀x∈xs,Q x):MI (EE xs i) Q:=by
 obtain ⟨v,hv,e⟩:=W6 h0 h1
 rw [e];exact h v hv
theorem UM {t:Int} {n:Nat} (h:t.natAbs<2^n) (hn:n<=900000:=by omega):t.natAbs<2^900000:=B0 h hn
section
variable {a b:Rat} {Q:PV->Prop}
theorem Zk (ha:Bd 4000 a) (hb:Bd 4000 b) (h:Q (fr (a+b))):Aj [.int (a.num*b.den+b.num*a.den), .int (a.den*b.den)] Q:=
 Bb _ _ (B7 (BJ a) (BJ b)) (UM (Ju (n:=8000) (Aw ha.top hb.botI) (Aw hb.top ha.botI))) (MV ha hb) (by rw [<-E4];exact h)
theorem Zo (ha:Bd 4000 a) (hb:Bd 4000 b) (h:Q (fr (a-b))):Aj [.int (a.num*b.den-b.num*a.den), .int (a.den*b.den)] Q:=
 Bb _ _ (B7 (BJ a) (BJ b)) (UM (Sv (n:=8000) (Aw ha.top hb.botI) (Aw hb.top ha.botI))) (MV ha hb) (by rw [<-G5];exact h)
theorem Zn (ha:Bd 4000 a) (hb:Bd 4000 b) (h:Q (fr (a*b))):Aj [.int (a.num*b.num), .int (a.den*b.den)] Q:=
 Bb _ _ (B7 (BJ a) (BJ b)) (UM (Aw ha.top hb.top)) (MV ha hb) (by rw [<-G0];exact h)
theorem Zl (h0:b≠0) (ha:Bd 4000 a) (hb:Bd 4000 b) (h:Q (fr (a/b))):Aj [.int (a.num*b.den), .int (a.den*b.num)] Q:=
 Bb _ _ (B7 (BJ a) (RA h0)) (UM (Aw ha.top (by simpa using hb.bot))) (B0 (Aw (a:=(a.den:Int)) (by simpa using ha.bot) hb.top) (by omega)) (by rw [<-Gx];exact h)
end
theorem OR {n:Int} {Q:PV->Prop} (h:Q (fr (n:Rat))):Q (.tup [.int n, .int 1]):=by rw [<-U2];exact h
theorem Bd.part {t b:Int} {n:Nat} (h:b≠0) (ht:t.natAbs<2^n) (hb:b.natAbs<2^n):Bd n (Rat.divInt t b):= .divInt h ht hb
theorem lz {a b:Nat} (h:Nat.ble a b=true:=by rfl):a<=b:=Nat.le_of_ble_eq_true h
structure Sh (d n:Nat) (x:PV):Prop where
 ok:DL d x=true
 sh:(pd x).showable=true
 sz:(pd x).shown.length<=n
mutual
theorem LP:∀{d e:Nat} (x:PV),d<=e->DL d x=true->DL e x=true
 | _,_, .non,_,_=>by simp [DL]
 | _,_, .bl _,_,_=>by simp [DL]
 | _,_, .int _,_,_=>by simp [DL]
 | _,_, .str x,_,h=>by simpa [DL] using h
 | 0,_, .tup xs,_,h=>by simp [DL] at h
 | 0,_, .lst xs,_,h=>by simp [DL] at h
 | d+1,0, .tup xs,h,_=>by omega
 | d+1,0, .lst xs,h,_=>by omega
 | d+1,e+1, .tup xs,h,k=>by simp only [DL] at k ⊢;exact Ii xs (by omega) k
 | d+1,e+1, .lst xs,h,k=>by simp only [DL] at k ⊢;exact Ii xs (by omega) k
 | _,_, .tape,_,h=>by simp [DL] at h
 | _,_, .scr _,_,h=>by simp [DL] at h
 | _,_, .dct _,_,h=>by simp [DL] at h
 | _,_, .ty _,_,h=>by simp [DL] at h
theorem Ii:∀{d e:Nat} (xs:List PV),d<=e->GH d xs=true->GH e xs=true
 | _,_, [],_,_=>by simp [GH]
 | _,_,x::xs,h,k=>by
   simp only [GH,Bool.and_eq_true] at k ⊢
   exact ⟨LP x h k.1,Ii xs h k.2⟩
end
theorem Sh.mono {d n e m:Nat} {x:PV} (s:Sh d n x) (h1:d<=e) (h2:n<=m):Sh e m x:=⟨LP x h1 s.ok,s.sh,Nat.le_trans s.sz h2⟩
theorem Sh.go {d n:Nat} {x:PV} (s:Sh d n x) (h1:d<=30:=by omega) (h2:n<=16777216:=by omega):fo x:=⟨LP x h1 s.ok,s.sh,Nat.le_trans s.sz h2⟩
theorem Sh.int {i:Int} (h:i.natAbs<2^1900):Sh 0 1902 (.int i):=by
 refine ⟨rfl, ?_, ?_⟩
 ·show decide (i.natAbs.log2<1920)=true
  exact decide_eq_true (Nat.lt_trans (Ha h (by decide)) (by decide))
 ·show (Str.ofString (toString i)).length<=1902
  rw [PySem.ofString_length]
  exact Nat.le_trans (int_text_length_le (k:=1900) (by decide) (Ha h (by decide))) (by decide)
theorem Hc {d:Nat}:∀{xs:List PV},(∀x∈xs,DL d x=true)->GH d xs=true
 | [],_=>rfl
 | x::xs,h=>by
   simp only [GH,Bool.and_eq_true]
   exact ⟨h x (by simp),Hc λy hy=>h y (by simp [hy])⟩
theorem RR:∀{xs:List PV},(∀x∈xs,(pd x).showable=true)->PyData.showableAll (Jp xs)=true
 | [],_=>rfl
 | x::xs,h=>by
   simp only [Jp,PyData.showableAll,Bool.and_eq_true]
   exact ⟨h x (by simp),RR λy hy=>h y (by simp [hy])⟩
theorem OM {n:Nat}:∀{xs:List PV},(∀x∈xs,(pd x).shown.length<=n)->((PyData.shownAll (Jp xs)).map (·.length)).sum<=xs.length*n
 | [],_=>by simp [Jp,PyData.shownAll]
 | x::xs,h=>by
   simp only [Jp,PyData.shownAll,List.map_cons,List.sum_cons,List.length_cons]
   have h1:=h x (by simp)
   have h2:=OM (n:=n) (xs:=xs) λy hy=>h y (by simp [hy])
   rw [Nat.succ_mul];omega
theorem FI:∀(xs:List PV),(PyData.shownAll (Jp xs)).length=xs.length
 | [] =>rfl
 | x::xs=>by simp [Jp,PyData.shownAll,FI xs]
theorem Sh.tup {d n:Nat} {xs:List PV} (h:∀x∈xs,Sh d n x):Sh (d+1) (xs.length*(n+2)+3) (.tup xs):=by
 refine ⟨by simp only [DL];exact Hc λx hx=>(h x hx).ok,by simp only [pd,PyData.showable];exact RR λx hx=>(h x hx).sh, ?_⟩
 have h1:=OM (n:=n) (xs:=xs) λx hx=>(h x hx).sz
 have h2:=tupleText_len_le (PyData.shownAll (Jp xs))
 rw [FI] at h2
 simp only [pd,PyData.shown]
 rw [Nat.mul_add]
 omega
theorem Sh.lst {d n:Nat} {xs:List PV} (h:∀x∈xs,Sh d n x):Sh (d+1) (xs.length*(n+2)+3) (.lst xs):=by
 refine ⟨by simp only [DL];exact Hc λx hx=>(h x hx).ok,by simp only [pd,PyData.showable];exact RR λx hx=>(h x hx).sh, ?_⟩
 have h1:=OM (n:=n) (xs:=xs) λx hx=>(h x hx).sz
 have h2:=listText_len_le (PyData.shownAll (Jp xs))
 rw [FI] at h2
 simp only [pd,PyData.shown]
 rw [Nat.mul_add]
 omega
theorem gv {α:Type} {P:α->Prop} {a b:α} (ha:P a) (hb:P b):∀x∈ [a,b],P x:=λx hx=>by
 simp only [List.mem_cons,List.not_mem_nil,or_false] at hx
 rcases hx with rfl|rfl
 ·exact ha
 ·exact hb
theorem gw {α:Type} {P:α->Prop} {a b c:α} (ha:P a) (hb:P b) (hc:P c):∀x∈ [a,b,c],P x:=λx hx=>by
 simp only [List.mem_cons,List.not_mem_nil,or_false] at hx
 rcases hx with rfl|rfl|rfl
 ·exact ha
 ·exact hb
 ·exact hc
theorem Xd {α:Type} {P:α->Prop} {a b c d:α} (ha:P a) (hb:P b) (hc:P c) (hd:P d):∀x∈ [a,b,c,d],P x:=λx hx=>by
 simp only [List.mem_cons,List.not_mem_nil,or_false] at hx
 rcases hx with rfl|rfl|rfl|rfl
 ·exact ha
 ·exact hb
 ·exact hc
 ·exact hd
theorem Sh.fr {r:Rat} (h:Bd 1900 r):Sh 1 4000 (fr r):=(Sh.tup (gv (Sh.int h.top) (Sh.int h.botI))).mono (by omega) lz
theorem Ee (a b:Rat):Jf (fr a) (fr b)=decide (a=b):=by
 show (PyData.eqvAll [.int a.num, .int a.den] [.int b.num, .int b.den])=_
 simp only [PyData.eqvAll,PyData.eqv]
 by_cases h:a=b
 ·subst h;simp
 ·have:¬(a.num=b.num/\(a.den:Int)=b.den):=λz=>h (Rat.ext z.1 (by omega))
  rw [decide_eq_false h]
  simp only [Bool.and_true,Bool.and_eq_false_iff,beq_eq_false_iff_ne]
  by_cases h1:a.num=b.num
  ·exact .inr λz=>this ⟨h1,z⟩
  ·exact .inl h1
theorem Mh (d:Nat) (a:Rat):DL (d+1) (fr a)=true:=rfl
theorem cv {a b:Rat}:decide (a.num*(b.den:Int)<b.num*(a.den:Int))=decide (a<b):=by
 rw [decide_eq_decide];exact (Rat.lt_iff a b).symm
def UZ:AS:=
 (An (AY Wd (AY Co (AY Ah (aV 0) (aC (.int 0))) (AY Ah (aV 1) (aC (.int 1)))) (AY Co (AY Ah (aV 1) (aC (.int 0))) (AY Ah (aV 0) (aC (.int 1))))))
def Ak:AF:=Au 2 UZ
section
variable {a b:Rat} {Q:PV->Prop}
theorem BR (ha:Bd 4000 a) (hb:Bd 4000 b) (h:Q (.bl (decide (a<b)))):Ak [fr a,fr b] Q:=by
 obtain ⟨m1,m2,_⟩:=Bd.mt (n:=0) ha hb
 refine ⟨m1,m2, ?_⟩
 rw [<-cv] at h
 exact h
def QP:AS:=
 (An (AM 2 Aj (AB (AY Am (AY Co (AY Ah (aV 0) (aC (.int 0))) (AY Ah (aV 1) (aC (.int 1)))) (AY Co (AY Ah (aV 1) (aC (.int 0))) (AY Ah (aV 0) (aC (.int 1))))) (AB (AY Co (AY Ah (aV 0) (aC (.int 1))) (AY Ah (aV 1) (aC (.int 1)))) AL))))
def BN:AF:=Au 2 QP
theorem Bw (ha:Bd 4000 a) (hb:Bd 4000 b) (h:Q (fr (a+b))):BN [fr a,fr b] Q:=by
 obtain ⟨m1,m2,m3,_⟩:=Bd.mt (n:=0) ha hb
 exact ⟨m1,m2,m3,rfl,Zk ha hb h⟩
def QO:AS:=
 (An (AM 2 Aj (AB (AY E7 (AY Co (AY Ah (aV 0) (aC (.int 0))) (AY Ah (aV 1) (aC (.int 1)))) (AY Co (AY Ah (aV 1) (aC (.int 0))) (AY Ah (aV 0) (aC (.int 1))))) (AB (AY Co (AY Ah (aV 0) (aC (.int 1))) (AY Ah (aV 1) (aC (.int 1)))) AL))))
def Ax:AF:=Au 2 QO
theorem BZ (ha:Bd 4000 a) (hb:Bd 4000 b) (h:Q (fr (a-b))):Ax [fr a,fr b] Q:=by
 obtain ⟨m1,m2,m3,_⟩:=Bd.mt (n:=0) ha hb
 exact ⟨m1,m2,m3,rfl,Zo ha hb h⟩
def KU:AS:=
 (An (AM 2 Aj (AB (AY Co (AY Ah (aV 0) (aC (.int 0))) (AY Ah (aV 1) (aC (.int 0)))) (AB (AY Co (AY Ah (aV 0) (aC (.int 1))) (AY Ah (aV 1) (aC (.int 1)))) AL))))
def BI:AF:=Au 2 KU
theorem Bi (ha:Bd 4000 a) (hb:Bd 4000 b) (h:Q (fr (a*b))):BI [fr a,fr b] Q:=by
 obtain ⟨m1,m2,m3,m4,_⟩:=Bd.mt (n:=0) ha hb
 exact ⟨m4,m3,rfl,Zn ha hb h⟩
def NB:AS:=
 (An (AM 2 Aj (AB (AY Co (AY Ah (aV 0) (aC (.int 0))) (AY Ah (aV 1) (aC (.int 1)))) (AB (AY Co (AY Ah (aV 0) (aC (.int 1))) (AY Ah (aV 1) (aC (.int 0)))) AL))))
def BX:AF:=Au 2 NB
theorem FP (h0:b≠0) (ha:Bd 4000 a) (hb:Bd 4000 b) (h:Q (fr (a/b))):BX [fr a,fr b] Q:=by
 obtain ⟨m1,m2,m3,m4,m5⟩:=Bd.mt (n:=0) ha hb
 exact ⟨m1,m5,rfl,Zl h0 ha hb h⟩
end
theorem cC {t b:Int} (ht:0<t) (hb:0<b):0<Rat.divInt t b:=by
 rw [Rat.lt_iff]
 have h1:=Rat.num_divInt t b
 show (0:Int)*_<_*1
 rw [Int.zero_mul,Int.mul_one,h1,Int.sign_eq_one_of_pos hb,Int.one_mul]
 have g:0<(b.gcd t:Int):=by have:=Int.gcd_pos_of_ne_zero_left t (show b≠0 by omega);omega
 exact Int.ediv_pos_of_pos_of_dvd ht (by omega) (Int.gcd_dvd_right ..)
theorem EB {t b:Int} {Q:PV->Prop} (k:Nat) (hb:b≠0) (ht:t.natAbs<2^k) (jM:b.natAbs<2^k) (hk:k<=2000) (h:Bd k (Rat.divInt t b)->Q (fr (Rat.divInt t b))):Aj [.int t, .int b] Q:=
 Bb t b hb (B0 ht (by omega)) (B0 jM (by omega)) (h (.part hb ht jM))
def Mul (D N:Nat) (a:Rat):Prop:=0<D/\∃k:Int,a=Rat.divInt k D/\k.natAbs<=N
theorem Mul.bd {D N n:Nat} {a:Rat} (h:Mul D N a) (h1:N<2^n) (h2:D<2^n):Bd n a:=by
 obtain ⟨h0,k,rfl,hk⟩:=h
 exact .divInt (by omega) (by omega) (by simpa using h2)
theorem Mul.part {t b:Int} {c:Nat} (hb:0<b) (hc:0<c) {N:Nat} (h:(t*c).natAbs<=N):Mul (b.toNat*c) N (Rat.divInt t b):=by
 refine ⟨Nat.mul_pos (by omega) hc,t*c, ?_,h⟩
 have e:((b.toNat*c:Nat):Int)=b*c:=by rw [Int.natCast_mul];congr 1;omega
 rw [e,(Rat.divInt_eq_divInt_iff (by omega) (B7 (by omega) (by omega)))]
 rw [Int.mul_comm b,Int.mul_assoc]
theorem Mul.add {D N M:Nat} {a b:Rat} (ha:Mul D N a) (hb:Mul D M b):Mul D (N+M) (a+b):=by
 obtain ⟨h0,k,rfl,hk⟩:=ha
 obtain ⟨_,l,rfl,hl⟩:=hb
 refine ⟨h0,k+l, ?_,by omega⟩
 rw [Rat.divInt_add_divInt _ _ (by omega) (by omega),Rat.divInt_eq_divInt_iff (B7 (by omega) (by omega)) (by omega)]
 rw [<-Int.add_mul,Int.mul_assoc]
theorem Mul.mono {D N M:Nat} {a:Rat} (h:Mul D N a) (hm:N<=M):Mul D M a:=⟨h.1,let ⟨k,e,hk⟩:=h.2;⟨k,e,by omega⟩⟩
theorem Mul.int {n:Int} {D N:Nat} (hD:0<D) (h:(n*D).natAbs<=N):Mul D N (n:Rat):=by
 have e:(n:Rat)=Rat.divInt n 1:=by rw [<-Rat.num_divInt_den (n:Rat)];simp
 rw [e]
 have:=Mul.part (t:=n) (b:=1) (c:=D) (by decide) hD h
 simpa using this
def KW:AS:=
 (Ag (Bx (A2 (AY Wd (aV 1) (aC (.int 3)))) (An (B9 (AB (AY Am (aC (.int 1)) (AM 2 A7 (AB (aV 0) (AB (aC (.int 5)) AL)))) (AB (aC (.int 1)) AL)))) BM)
   (An (AM 2 Aj (AB (AY Am (aC (.int 1)) (AM 2 A7 (AB (aV 0) (AB (aC (.int 8)) AL)))) (AB (AY E7 (aV 1) (aC (.int 1))) AL)))))
def Ob:AS:=
 (Ag (Av (AM 2 A7 (AB (aV 0) (AB (aC (.int 5)) AL))) (A8 1))
   KW)
def CA:AF:=Au 2 Ob
theorem FQ {Q:PV->Prop} (h:∀a,Bd 8 a->0<a->Mul 6 48 a->Q (fr a)):CA [.tape] Q:=by
 refine ⟨rfl,A3 (by decide) (by decide) λw w0 w1=> ?_⟩
 refine Cq (b:=decide (w<3)) (λ_=> ?_) (λz=> ?_)
 ·refine ⟨rfl,A3 (by decide) (by decide) λr r0 r1=>⟨lz, ?_⟩⟩
  exact OR (h _ (.int (by omega) (by decide)) (by exact_mod_cast (by omega:(0:Int)<1+r)) (.int (by decide) (by omega)))
 ·have z':¬w<3:=of_decide_eq_false z
  have hw:w-1=2\/w-1=3:=by omega
  refine ⟨rfl,A3 (by decide) (by decide) λr r0 r1=>⟨rfl, ?_⟩⟩
  refine EB 8 (by omega) (by omega) (by omega) (by decide) λb=>h _ b (cC (by omega) (by omega)) ?_
  rcases hw with e|e
  ·rw [e];exact Mul.part (t:=1+r) (b:=2) (c:=3) (by decide) (by decide) (by omega)
  ·rw [e];exact Mul.part (t:=1+r) (b:=3) (c:=2) (by decide) (by decide) (by omega)
theorem D3 {Q:PV->Prop} (h:∀a,Bd 8 a->0<a->Q (fr a)):CA [.tape] Q:=FQ λa b p _=>h a b p
def JT:AS:=
 (Ag (Bx (A2 (AY IP (aV 1) (aC (.int 6)))) (An (AM 2 Aj (AB (AY E7 (AM 2 A7 (AB (aV 0) (AB (aC (.int 25)) AL))) (aC (.int 6))) (AB (aC (.int 2)) AL)))) BM)
   (An (AM 2 Aj (AB (AY E7 (AM 2 A7 (AB (aV 0) (AB (aC (.int 31)) AL))) (aC (.int 9))) (AB (aC (.int 3)) AL)))))
def JS:AS:=
 (Ag (Bx (A2 (AY Wd (aV 1) (aC (.int 6)))) (An (B9 (AB (AY E7 (AM 2 A7 (AB (aV 0) (AB (aC (.int 10)) AL))) (aC (.int 3))) (AB (aC (.int 1)) AL)))) BM)
   JT)
def NA:AS:=
 (Ag (Av (AM 2 A7 (AB (aV 0) (AB (aC (.int 8)) AL))) (A8 1))
   JS)
def BP:AF:=Au 2 NA
theorem BC {Q:PV->Prop} (h:∀a,Mul 6 60 a->Q (fr a)):BP [.tape] Q:=by
 refine ⟨rfl,A3 (by decide) (by decide) λw w0 w1=> ?_⟩
 refine Cq (b:=decide (w<6)) (λ_=> ?_) (λz=> ?_)
 ·refine ⟨rfl,A3 (by decide) (by decide) λr r0 r1=>⟨lz, ?_⟩⟩
  exact OR (h _ (.int (by decide) (by omega)))
 refine Cq (b:=decide (w=6)) (λ_=> ?_) (λz=> ?_)
 ·exact ⟨rfl,A3 (by decide) (by decide) λr r0 r1=>⟨rfl,EB 8 (by omega) (by omega) (by omega) (by decide) λb=>h _ (Mul.part (t:=r-6) (b:=2) (c:=3) (by decide) (by decide) (by omega))⟩⟩
 ·exact ⟨rfl,A3 (by decide) (by decide) λr r0 r1=>⟨rfl,EB 8 (by omega) (by omega) (by omega) (by decide) λb=>h _ (Mul.part (t:=r-9) (b:=3) (c:=2) (by decide) (by decide) (by omega))⟩⟩
abbrev C4:=Rat×Rat×Rat×Rat
def cor (c:C4):PV:= .tup [fr c.1,fr c.2.1,fr c.2.2.1,fr c.2.2.2]
def corL (c:C4):PV:= .lst [fr c.1,fr c.2.1,fr c.2.2.1,fr c.2.2.2]
def AW (cs:List C4):PV:= .tup (cs.map cor)
structure Bt (B:Nat) (c:C4):Prop where
 m:Bd B c.1
 x:Bd B c.2.1
 y:Bd B c.2.2.1
 z:Bd B c.2.2.2
theorem Bt.mono {B B':Nat} {c:C4} (h:Bt B c) (k:B<=B'):Bt B' c:=⟨h.m.mono k,h.x.mono k,h.y.mono k,h.z.mono k⟩
structure HD (D N:Nat) (c:C4):Prop where
 m:Mul D N c.1
 x:Mul D N c.2.1
 y:Mul D N c.2.2.1
 z:Mul D N c.2.2.2
theorem HD.mono {D N M:Nat} {c:C4} (h:HD D N c) (k:N<=M):HD D M c:=⟨h.m.mono k,h.x.mono k,h.y.mono k,h.z.mono k⟩
theorem HD.bd {D N n:Nat} {c:C4} (h:HD D N c) (h1:N<2^n) (h2:D<2^n):Bt n c:=⟨h.m.bd h1 h2,h.x.bd h1 h2,h.y.bd h1 h2,h.z.bd h1 h2⟩
def Bk (cs:List C4):Prop:=cs.Pairwise λa b=>a.1<b.1
structure K3 (n D N:Nat) (cs:List C4):Prop where
 two:2<=cs.length
 few:cs.length<=n
 mu:∀c∈cs,HD D N c
 ris:Bk cs
structure D5 (n B:Nat) (cs:List C4):Prop where
 two:2<=cs.length
 few:cs.length<=n
 bd:∀c∈cs,Bt B c
 ris:Bk cs
theorem V7 {cs:List C4} {c d:C4} (h:Bk (cs ++ [c])) (hd:c.1<d.1):Bk (cs ++ [c] ++ [d]):=by
 refine List.pairwise_append.mpr ⟨h,by simp,λa ha b hb=> ?_⟩
 simp at hb;subst hb
 rcases List.mem_append.mp ha with ha|ha
 ·have:=(List.pairwise_append.mp h).2.2 a ha c (by simp)
  grind
 ·simp at ha;subst ha;exact hd
def G8:AS:=
 (Ag (Bx (A2 (AY bA (aV 5) (aC (.int 3)))) (Av (IN (E3 (AB (AM 1 BP (AB (aV 0) AL)) (AB (AM 1 BP (AB (aV 0) AL)) (AB (AM 1 BP (AB (aV 0) AL)) AL))))) (A8 3)) (Bx (A2 (AY bA (aV 5) (aC (.int 0)))) (Av (AY Am (AY Am (TK (aV 3) TL (TM (AY E7 (aV 5) (aC (.int 1))))) (IN (E3 (AB (AM 1 BP (AB (aV 0) AL)) AL)))) (TK (aV 3) (TM (aV 5)) TL)) (A8 3)) BM))
   (GO 4 Pg (AB (B9 (AB (aV 2) (AB (AY Ah (aV 3) (aC (.int 0))) (AB (AY Ah (aV 3) (aC (.int 1))) (AB (AY Ah (aV 3) (aC (.int 2))) AL))))) AL)))
def G7:AS:=
 (Ag (Av (AM 2 A7 (AB (aV 0) (AB (aC (.int 6)) AL))) (A8 5))
   G8)
def KM:AS:=
 (Ag (Av (AM 2 BN (AB (aV 2) (AB (AM 1 CA (AB (aV 0) AL)) AL))) (A8 2))
   G7)
def KS:AS:=
 (Ag (Ic (A2 (AY Wd (Fd GF (AB (aV 4) AL)) (aV 1))) KM)
   (An (Fd CC (AB (aV 4) AL))))
def KQ:AS:=
 (Ag (NQ (E3 (AB (B9 (AB (aV 2) (AB (AY Ah (aV 3) (aC (.int 0))) (AB (AY Ah (aV 3) (aC (.int 1))) (AB (AY Ah (aV 3) (aC (.int 2))) AL))))) AL)) 4)
   KS)
def KP:AS:=
 (Ag (Av (IN (E3 (AB (AM 1 BP (AB (aV 0) AL)) (AB (AM 1 BP (AB (aV 0) AL)) (AB (AM 1 BP (AB (aV 0) AL)) AL))))) (A8 3))
   KQ)
def Fh:AS:=
 (Ag (Av (B9 (AB (AM 2 A7 (AB (aV 0) (AB (aC (.int 12)) AL))) (AB (aC (.int 1)) AL))) (A8 2))
   KP)
def KO:AS:=
 (Ag (Bx (A2 (AY IP (AM 2 A7 (AB (aV 0) (AB (aC (.int 8)) AL))) (aC (.int 0)))) (Av (AY Am (aC (.int 7)) (AM 2 A7 (AB (aV 0) (AB (aC (.int 3)) AL)))) (A8 1)) BM)
   Fh)
def Oa:AS:=
 (Ag (Av (AY Am (aC (.int 2)) (AM 2 A7 (AB (aV 0) (AB (aC (.int 4)) AL)))) (A8 1))
   KO)
def EH:AF:=Au 6 Oa
theorem SQ (many:Int) (z2 z3 z5:Option AV) (z4:Option AV) (h0:2<=many) (h1:many<=9) {Q:PV->Prop} (h:∀cs,K3 9 6 512 cs->Q (AW cs)):
 Fh {nx:=λ_=>Q .non,rt:=Q,bk:=λ_=>False,ct:=λ_=>False} [some (.val .tape),some (.val (.int many)),z2,z3,z4,z5] :=by
 refine ⟨rfl,A3 (by decide) (by decide) λm m0 m1=>⟨lz, ?_⟩⟩
 refine ⟨rfl,BC λx hx=>⟨rfl,BC λy hy=>⟨rfl,BC λz hz=>⟨lz, ?_⟩⟩⟩⟩
 refine ⟨lz,lz, ?_⟩
 refine ⟨(many-1).toNat+1,Ri (λn τ=>∃(cs:List C4) (c:C4) (z5:Option AV),n+(cs.length+1)=many.toNat+1/\1<=n/\(∀d∈cs ++ [c],HD 6 (66+48*cs.length) d)/\(Mul 6 60 c.2.1/\Mul 6 60 c.2.2.1/\Mul 6 60 c.2.2.2)/\Bk (cs ++ [c])/\
  τ= [some (.val .tape),some (.val (.int many)),some (.val (fr c.1)),some (.val (.lst [fr c.2.1,fr c.2.2.1,fr c.2.2.2])),some (.own ((cs ++ [c]).map cor)),z5]) ?_ ?_ _ _ ⟨[],((m:Rat),x,y,z),z5, ?_, ?_, ?_, ?_, ?_, ?_⟩⟩
 ·rintro τ ⟨cs,c,z5,_,hn,_⟩
  omega
 ·rintro n τ R hR ⟨cs,c,z5,hn,R5,hb,h8,hr,rfl⟩
  have B6:(((cs ++ [c]).map cor).length:Int)=(cs.length:Int)+1:=by simp
  refine Cq (b:=decide ((((cs ++ [c]).map cor).length:Int)<many)) (λz=> ?_) (λz=> ?_)
  ·have z':(((cs ++ [c]).map cor).length:Int)<many:=of_decide_eq_true z
   rw [B6] at z'
   have cb:=hb c (by simp)
   refine ⟨rfl,FQ λs sb s0 sm=>⟨rfl,Bw ((cb.m.bd (n:=12) (by omega) (by decide)).mono (by omega)) (sb.mono (by omega)) ?_⟩⟩
   refine ⟨rfl,A3 (by decide) (by decide) λw w0 w1=> ?_⟩
   have fin:∀(D':DW) (x y z:Rat) (z5:Option AV),D'.nx=R->Mul 6 60 x->Mul 6 60 y->Mul 6 60 z->GO 4 Pg (AB (B9 (AB (aV 2) (AB (AY Ah (aV 3) (aC (.int 0))) (AB (AY Ah (aV 3) (aC (.int 1))) (AB (AY Ah (aV 3) (aC (.int 2))) AL))))) AL)
    D' [some (.val .tape),some (.val (.int many)),some (.val (fr (c.1+s))),some (.val (.lst [fr x,fr y,fr z])),some (.own ((cs ++ [c]).map cor)),z5] :=by
    intro D' x y z z5 eD bx by' bz
    refine ⟨lz, ?_, ?_⟩
    ·show _<16777216;omega
    ·rw [eD]
     have mb:Mul 6 (66+48*(cs.length+1)) (c.1+s):=(cb.m.add sm).mono (by omega)
     refine hR _ ⟨cs ++ [c],(c.1+s,x,y,z),z5,by simp;omega,by omega, ?_,⟨bx,by',bz⟩,V7 hr ?_, ?_⟩
     ·intro d hd
      rcases List.mem_append.mp hd with hd|hd
      ·exact (hb d hd).mono (by simp;omega)
      ·simp at hd;subst hd
       have e:(cs ++ [c]).length=cs.length+1:=by simp
       rw [e]
       exact ⟨mb,bx.mono (by omega),by'.mono (by omega),bz.mono (by omega)⟩
     ·show c.1<c.1+s;grind
     ·rw [List.map_append (l₁:=cs ++ [c])];rfl
   refine Cq (b:=decide (3<w)) (λ_=> ?_) (λz3=> ?_)
   ·exact ⟨rfl,BC λx hx=>⟨rfl,BC λy hy=>⟨rfl,BC λz hz=>⟨lz,fin _ x y z _ rfl hx hy hz⟩⟩⟩⟩
   refine Cq (b:=decide (0<w)) (λz4=> ?_) (λz4=> ?_)
   ·have a3:¬3<w:=of_decide_eq_false z3
    have a4:0<w:=of_decide_eq_true z4
    have hw:w=1\/w=2\/w=3:=by omega
    rcases hw with rfl|rfl|rfl
    ·exact EZ ⟨rfl,BC λp hp=>⟨lz,lz,EZ ⟨lz,fin _ p _ _ _ rfl hp h8.2.1 h8.2.2⟩⟩⟩
    ·exact EZ ⟨rfl,BC λp hp=>⟨lz,lz,EZ ⟨lz,fin _ _ p _ _ rfl h8.1 hp h8.2.2⟩⟩⟩
    ·exact EZ ⟨rfl,BC λp hp=>⟨lz,lz,EZ ⟨lz,fin _ _ _ p _ rfl h8.1 h8.2.1 hp⟩⟩⟩
   ·exact fin _ _ _ _ _ rfl h8.1 h8.2.1 h8.2.2
  ·have z':¬(((cs ++ [c]).map cor).length:Int)<many:=of_decide_eq_false z
   rw [B6] at z'
   refine h (cs ++ [c]) ⟨by simp;omega,by simp;omega,λd hd=>(hb d hd).mono (by omega),hr⟩
 ·simp;omega
 ·omega
 ·intro d hd
  simp at hd;subst hd
  exact ⟨.int (by decide) (by simp;omega),hx.mono (by decide),hy.mono (by decide),hz.mono (by decide)⟩
 ·exact ⟨hx,hy,hz⟩
 ·exact List.pairwise_singleton _ _
 ·simp only [cor,U2,List.nil_append,List.map_cons,List.map_nil]
  rfl
theorem Kz {Q:PV->Prop} (h:∀cs,K3 9 6 512 cs->Q (AW cs)):EH [.tape] Q:=by
 refine ⟨rfl,A3 (by decide) (by decide) λa a0 a1=>⟨rfl,A3 (by decide) (by decide) λb b0 b1=> ?_⟩⟩
 refine Cq (b:=decide (b=0)) (λ_=> ?_) (λ_=> ?_)
 ·exact ⟨rfl,A3 (by decide) (by decide) λc c0 c1=>SQ (7+c) _ _ _ _ (by omega) (by omega) h⟩
 ·exact SQ (2+a) _ _ _ _ (by omega) (by omega) h
def Gm:AS:=
 (Ag (HN (eZ (AB (AY Ah (aV 1) (aV 2)) (AB (AY Ah (aV 1) (AY Am (aV 2) (aC (.int 1)))) AL))) (QJ 2 (Ap (A8 4) (Ap (A8 5) Dm))) (GO 3 Pg (AB (AM 2 Aj (AB (AY Am (AY Co (AY Ah (aV 4) (aC (.int 0))) (AY Ah (aV 5) (aC (.int 1)))) (AY Co (AY Ah (aV 5) (aC (.int 0))) (AY Ah (aV 4) (aC (.int 1))))) (AB (AY Co (AY Co (aC (.int 2)) (AY Ah (aV 4) (aC (.int 1)))) (AY Ah (aV 5) (aC (.int 1)))) AL))) AL)))
   (An (AY Am (AY Am (TK (aV 1) TL (TM (AY Am (aV 2) (aC (.int 1))))) (B9 (AB (Fd CC (AB (aV 3) AL)) AL))) (TK (aV 1) (TM (AY Am (aV 2) (aC (.int 1)))) TL))))
def Gk:AS:=
 (Ag (NQ (E3 AL) 3)
   Gm)
def JY:AS:=
 (Ag (Av (AM 2 A7 (AB (aV 0) (AB (AY E7 (Fd GF (AB (aV 1) AL)) (aC (.int 1))) AL))) (A8 2))
   Gk)
def Cs:AF:=Au 6 JY
def mid (a b:Rat):Rat:=(a+b)/2
def Zq (a b:C4):C4:=(mid a.1 b.1,mid a.2.1 b.2.1,mid a.2.2.1 b.2.2.1,mid a.2.2.2 b.2.2.2)
theorem LN (a b:Rat):mid a b=Rat.divInt (a.num*b.den+b.num*a.den) (2*a.den*b.den):=by
 have h2:(2:Rat)=Rat.divInt 2 1:=rfl
 unfold mid
 rw [E4,Rat.div_def,h2,Rat.inv_divInt,Rat.divInt_mul_divInt,Int.mul_one]
 congr 1
 rw [Int.mul_comm _ 2,Int.mul_assoc]
theorem Bd.mid {B:Nat} {a b:Rat} (ha:Bd B a) (hb:Bd B b):Bd (2*B+2) (mid a b):=by
 rw [LN]
 have h2:(2:Int)*a.den≠0:=B7 (by decide) (BJ a)
 refine .divInt (B7 h2 (BJ b)) (B0 (Ju (n:=B+B) (Aw ha.top hb.botI) (Aw hb.top ha.botI)) (by omega)) ?_
 exact B0 (Aw (Aw (m:=2) (show (2:Int).natAbs<2^2 by decide) ha.botI) hb.botI) (by omega)
theorem Zm {a b:Rat} {Q:PV->Prop} (ha:Bd 4000 a) (hb:Bd 4000 b) (h:Q (fr (mid a b))):Aj [.int (a.num*b.den+b.num*a.den), .int (2*a.den*b.den)] Q:=by
 have h2:(2:Int)*a.den≠0:=B7 (by decide) (BJ a)
 refine Bb _ _ (B7 h2 (BJ b)) (UM (Ju (n:=8000) (Aw ha.top hb.botI) (Aw hb.top ha.botI))) (B0 (Aw (Aw (m:=2) (show (2:Int).natAbs<2^2 by decide) ha.botI) hb.botI) (by omega)) ?_
 rw [<-LN];exact h
theorem R4 {cs:List C4} {i:Int} {k:Nat} {c:C4} {Q:PV->Prop} (hk:i=(k:Int)) (e:cs[k]? =some c) (h:Q (cor c)):MI (EE (cs.map cor) i) Q:=by
 have q:EE (cs.map cor) ((k:Nat):Int)=some (cor c):=Ct (by rw [List.getElem?_map,e] <;> rfl)
 rw [hk,q];exact h
theorem ZE {cs:List C4} {i:Int} {k:Nat} (hk:i=(k:Int)) (h:k<=cs.length):D7 (cs.map cor) none (some i)=(cs.take k).map cor:=by
 unfold D7
 rw [hk,HT.sIx_none,HT.sIx_nat]
 rw [show min k (cs.map cor).length=k by simp;omega,List.map_take]
 simp
theorem Uv {cs:List C4} {i:Int} {k:Nat} (hk:i=(k:Int)) (h:k<=cs.length):D7 (cs.map cor) (some i) none=(cs.drop k).map cor:=by
 unfold D7
 rw [hk,HT.sIx_none,HT.sIx_nat]
 rw [show min k (cs.map cor).length=k by simp;omega,List.map_drop]
 exact List.take_of_length_le (by simp)
theorem de {cs:List C4} {i:Int} {k:Nat} {Q:PV->Prop} (hk:i=(k:Int)) (h:k<=cs.length) (q:Q (AW (cs.take k))):UR (AW cs) none (some i) Q:=by
 refine FJ ?_
 rw [ZE hk h];exact q
theorem Sk {cs:List C4} {i:Int} {k:Nat} {Q:PV->Prop} (hk:i=(k:Int)) (h:k<=cs.length) (q:Q (AW (cs.drop k))):UR (AW cs) (some i) none Q:=by
 refine FJ ?_
 rw [Uv hk h];exact q
theorem Fo {cs ds:List C4} {Q:PV->Prop} (h:cs.length+ds.length<=10000) (q:Q (AW (cs++ds))):Am (AW cs) (AW ds) Q:=by
 refine ⟨?_, ?_⟩
 ·simp only [List.length_map];exact Nat.le_trans h (by decide)
 ·show Q (.tup (cs.map cor++ds.map cor))
  rw [<-List.map_append];exact q
theorem Mul.mid {D N:Nat} {a b:Rat} (ha:Mul D N a) (hb:Mul D N b):Mul (2*D) (2*N) (mid a b):=by
 obtain ⟨h0,k,rfl,hk⟩:=ha
 obtain ⟨_,l,rfl,hl⟩:=hb
 refine ⟨by omega,k+l, ?_,by omega⟩
 have h2:(2:Rat)=Rat.divInt 2 1:=rfl
 unfold PL.mid
 rw [Rat.divInt_add_divInt _ _ (by omega) (by omega),Rat.div_def,h2,Rat.inv_divInt,Rat.divInt_mul_divInt,Int.mul_one,Rat.divInt_eq_divInt_iff (B7 (B7 (by omega) (by omega)) (by decide)) (by omega),<-Int.add_mul]
 have e:((2*D:Nat):Int)=2*(D:Int):=by omega
 rw [e,Int.mul_assoc,Int.mul_assoc,Int.mul_comm 2 (D:Int)]
theorem Gr {n B:Nat} {cs:List C4} (p:D5 n B cs) (hn:n<=1000) (hB:B<=1800) {Q:PV->Prop} (h:∀(i:Nat) (a b:C4),i+1<cs.length->cs[i]? =some a->cs[i+1]? =some b->Q (AW (cs.take (i+1) ++ [Zq a b] ++ cs.drop (i+1)))):Cs [.tape,AW cs] Q:=by
 have two:=p.two
 have few:=p.few
 have B6:((cs.map cor).length:Int)=cs.length:=by simp
 refine ⟨rfl,A3 (by rw [B6];omega) (by rw [B6];omega) λi i0 i1=> ?_⟩
 rw [B6] at i1
 obtain ⟨k,rfl⟩:∃k:Nat,i=(k:Int):=⟨i.toNat,by omega⟩
 have hk:k+1<cs.length:=by omega
 have ea:cs[k]? =some cs[k] :=List.getElem?_eq_getElem (by omega)
 have eb:cs[k+1]? =some cs[k+1] :=List.getElem?_eq_getElem (by omega)
 have ba:=p.bd cs[k] (List.getElem_mem _)
 have bb:=p.bd cs[k+1] (List.getElem_mem _)
 have key:=h k _ _ hk ea eb
 revert ea eb ba bb key
 generalize cs[k] =a
 generalize cs[k+1] =b
 intro ea eb ba bb key
 have one:∀{u v:Rat},Bd B u->Bd B v->MulOk u.num v.den/\MulOk v.num u.den/\MulOk 2 u.den/\MulOk (2*u.den) v.den:=λ{u v} hu hv=>
  ⟨.of hu.top hv.botI, .of hv.top hu.botI, .of (m:=2) (by decide) hu.botI, .of (Aw (m:=2) (show (2:Int).natAbs<2^2 by decide) hu.botI) hv.botI⟩
 have B4:∀{u:Rat},Bd B u->Bd 4000 u:=λh=>h.mono (by omega)
 have s0:∀k:Nat,k<=4->k<sizeLine:=λk hk=>Nat.lt_of_le_of_lt hk (by decide)
 refine ⟨lz, ?_⟩
 refine R4 rfl ea ?_
 refine R4 (k:=k+1) rfl eb ?_
 refine DA (λr τ=>∃(us vs ws:List Rat) (z4 z5:Option AV),r=OT (us.map fr) (vs.map fr)/\us.length=vs.length/\ws.length+us.length=4/\(∀u∈us,Bd B u)/\(∀u∈vs,Bd B u)/\ws++List.zipWith mid us vs= [mid a.1 b.1,mid a.2.1 b.2.1,mid a.2.2.1 b.2.2.1,mid a.2.2.2 b.2.2.2] /\
  τ= [some (.val .tape),some (.val (AW cs)),some (.val (.int k)),some (.own (ws.map fr)),z4,z5]) ?_ ?_ _ _ ⟨[a.1,a.2.1,a.2.2.1,a.2.2.2], [b.1,b.2.1,b.2.2.1,b.2.2.2], [],none,none,rfl,rfl,rfl,Xd ba.m ba.x ba.y ba.z,Xd bb.m bb.x bb.y bb.z,rfl,rfl⟩
 rotate_left
 ·rintro x r τ R hR ⟨us,vs,ws,z4,z5,hr,hl,h4,hu,hv,hw,rfl⟩
  cases us with
  | nil=>cases hr
  | cons u us=>
    cases vs with
    | nil=>cases hr
    | cons v vs=>
      cases hr
      have bu:=hu u (by simp)
      have bv:=hv v (by simp)
      obtain ⟨a1,a2,a3,a4⟩:=one bu bv
      have e4:ws.length+(us.length+1)=4:=h4
      refine ⟨rfl,a1,a2,a3,a4,rfl,Zm (B4 bu) (B4 bv) ⟨?_, ?_⟩⟩
      ·rw [List.length_map];exact s0 _ (by omega)
      ·refine hR _ ⟨us,vs,ws ++ [mid u v],some (.val (fr u)),some (.val (fr v)),rfl,by simpa using hl,by simp;omega,λc hc=>hu c (by simp [hc]),λc hc=>hv c (by simp [hc]), ?_, ?_⟩
       ·rw [<-hw];simp
       ·rw [List.map_append];rfl
 rintro τ ⟨us,vs,ws,z4,z5,hr,hl,h4,hu,hv,hw,rfl⟩
 have eus:us= [] :=by
  cases us with
  | nil=>rfl
  | cons u us=>cases vs with
    | nil=>cases hl
    | cons v vs=>cases hr
 subst eus
 simp only [List.zipWith_nil_left,List.append_nil] at hw
 subst hw
 refine de (cs:=cs) (i:=(k:Int)+1) (k:=k+1) (by omega) (by omega) ?_
 refine ⟨lz, ?_⟩
 refine Fo (ds:= [Zq a b]) (by simp;omega) ?_
 refine Sk (cs:=cs) (i:=(k:Int)+1) (k:=k+1) (by omega) (by omega) ?_
 exact Fo (by simp;omega) key
theorem Ph {a b:Rat} (h:a<b):a<mid a b/\mid a b<b:=by unfold mid;constructor <;> grind
theorem Mul.dbl {D N:Nat} {a:Rat} (h:Mul D N a):Mul (2*D) (2*N) a:=by
 have:=h.mid h
 rwa [show PL.mid a a=a by unfold PL.mid;grind] at this
theorem HD.dbl {D N:Nat} {c:C4} (h:HD D N c):HD (2*D) (2*N) c:=⟨h.m.dbl,h.x.dbl,h.y.dbl,h.z.dbl⟩
theorem QF {n D N:Nat} {cs:List C4} (p:K3 n D N cs) {i:Nat} {a b:C4} (hi:i+1<cs.length) (ea:cs[i]? =some a) (eb:cs[i+1]? =some b):K3 (n+1) (2*D) (2*N) (cs.take (i+1) ++ [Zq a b] ++ cs.drop (i+1)):=by
 have two:=p.two
 have few:=p.few
 have ma:a∈cs:=List.mem_of_getElem? ea
 have mb:b∈cs:=List.mem_of_getElem? eb
 have ba:=p.mu a ma
 have bb:=p.mu b mb
 have hr:Bk (cs.take (i+1)++cs.drop (i+1)):=by rw [List.take_append_drop];exact p.ris
 obtain ⟨r1,r2,r3⟩:=List.pairwise_append.mp hr
 have la:a∈cs.take (i+1):=by
  refine List.mem_of_getElem? (i:=i) ?_
  rw [List.getElem?_take,if_pos (by omega)];exact ea
 have lb:b∈cs.drop (i+1):=by
  refine List.mem_of_getElem? (i:=0) ?_
  rw [List.getElem?_drop];exact eb
 have Qx:a.1<b.1:=r3 a la b lb
 obtain ⟨m1,m2⟩:=Ph Qx
 have upto:∀c∈cs.take (i+1),c.1<=a.1:=λc hc=>by
  obtain ⟨j,hj⟩:=List.mem_iff_getElem?.mp hc
  have ly:j<i+1:=by have:=(List.getElem?_eq_some_iff.mp hj).1;simp at this;omega
  rw [List.getElem?_take,if_pos ly] at hj
  by_cases e:j=i
  ·subst e;rw [ea] at hj;cases hj;exact Rat.le_refl
  ·have:=List.pairwise_iff_getElem.mp p.ris j i (by omega) (by omega) (by omega)
   rw [List.getElem?_eq_getElem (by omega)] at hj ea
   cases hj;cases ea
   grind
 have from':∀c∈cs.drop (i+1),b.1<=c.1:=λc hc=>by
  obtain ⟨j,hj⟩:=List.mem_iff_getElem?.mp hc
  rw [List.getElem?_drop] at hj
  by_cases e:j=0
  ·subst e;rw [Nat.add_zero,eb] at hj;cases hj;exact Rat.le_refl
  ·have hl:=(List.getElem?_eq_some_iff.mp hj).1
   have:=List.pairwise_iff_getElem.mp p.ris (i+1) (i+1+j) (by omega) (by omega) (by omega)
   rw [List.getElem?_eq_getElem (by omega)] at hj eb
   cases hj;cases eb
   grind
 refine ⟨by simp;omega,by simp;omega,λc hc=> ?_, ?_⟩
 ·rcases List.mem_append.mp hc with hc|hc
  ·rcases List.mem_append.mp hc with hc|hc
   ·exact (p.mu c (List.mem_of_mem_take hc)).dbl
   ·simp at hc;subst hc;exact ⟨ba.m.mid bb.m,ba.x.mid bb.x,ba.y.mid bb.y,ba.z.mid bb.z⟩
  ·exact (p.mu c (List.mem_of_mem_drop hc)).dbl
 ·refine List.pairwise_append.mpr ⟨List.pairwise_append.mpr ⟨r1,by simp,λc hc d hd=> ?_⟩,r2,λc hc d hd=> ?_⟩
  ·simp at hd;subst hd
   have:=upto c hc
   show c.1<mid a.1 b.1
   grind
  ·have h2:=from' d hd
   rcases List.mem_append.mp hc with hc|hc
   ·have:=upto c hc;grind
   ·simp at hc;subst hc
    show mid a.1 b.1<d.1
    grind
def Gc:AS:=
 (Ag (Av (AY E7 (AM 2 A7 (AB (aV 0) (AB (aC (.int 1999999999)) AL))) (aC (.int 999999999))) (A8 6))
   (GO 4 Pg (AB (AM 2 Aj (AB (aV 6) (AB (AY Am (aC (.int 1)) (AM 2 A7 (AB (aV 0) (AB (aC (.int 1000)) AL)))) AL))) AL)))
def FZ:AS:=
 (Ag (GO 2 Pg (AB (bo (B9 (AB (AM 2 Aj (AB (aV 1) (AB (aC (.int 997)) AL))) (AB (AY Ah (aV 4) (aC (.int 0))) (AB (AY Ah (aV 4) (aC (.int 1))) (AB (AY Ah (aV 4) (aC (.int 2))) AL)))))) AL))
   (Av (AY Am (AY Am (aV 1) (aC (.int 1))) (AM 2 A7 (AB (aV 0) (AB (AY XD (aC (.int 10)) (aC (.int 5))) AL)))) (A8 1)))
def FY:AS:=
 (Ag (HN (NS (AB (aC (.int 3)) AL)) (A8 5) Gc)
   FZ)
def Gd:AS:=
 (Ag (NQ (E3 AL) 4)
   FY)
def Gf:AS:=
 (Ag (HN (NS (AB (AY Am (aC (.int 2)) (AM 2 A7 (AB (aV 0) (AB (aC (.int 3)) AL)))) AL)) (A8 3) Gd)
   (An (Fd CC (AB (aV 2) AL))))
def Ge:AS:=
 (Ag (NQ (E3 AL) 2)
   Gf)
def JR:AS:=
 (Ag (Av (AM 2 A7 (AB (aV 0) (AB (AY XD (aC (.int 10)) (aC (.int 6))) AL))) (A8 1))
   Ge)
def Cr:AF:=Au 7 JR
theorem PM {m:Int} (h0:0<=m):((m:Rat)/997)=Rat.divInt m 997:=by
 have h2:(997:Rat)=Rat.divInt 997 1:=rfl
 have h3:(m:Rat)=Rat.divInt m 1:=by rw [<-Rat.num_divInt_den (m:Rat)];simp
 rw [Rat.div_def,h2,Rat.inv_divInt,h3,Rat.divInt_mul_divInt,Int.mul_one,Int.one_mul]
theorem Gq {Q:PV->Prop} (h:∀cs,D5 4 40 cs->Q (AW cs)):Cr [.tape] Q:=by
 refine ⟨⟨by decide,by decide,by decide⟩,rfl,A3 (by decide) (by decide) λm m0 m1=>⟨lz, ?_⟩⟩
 have m1':m<1000000:=m1
 refine ⟨rfl,A3 (by decide) (by decide) λk k0 k1=>⟨⟨by omega,by omega⟩, ?_⟩⟩
 refine DA (λr τ=>∃(j:Nat) (lo m:Int) (cs:List C4) (z3 z4 z5 z6:Option AV),r=rng lo j/\j+cs.length=(2+k).toNat/\0<=m/\m<1000000+100001*cs.length/\(∀c∈cs,Bt 40 c/\c.1<(m:Rat)/997)/\Bk cs/\
  τ= [some (.val .tape),some (.val (.int m)),some (.own (cs.map cor)),z3,z4,z5,z6]) ?_ ?_ _ _ ⟨(2+k).toNat,0,m, [],none,none,none,none,rfl,by simp,m0,by simpa using m1',by simp,List.Pairwise.nil,rfl⟩
 ·rintro τ ⟨j,lo,m,cs,z3,z4,z5,z6,hr,hj,h0,h1,hb,Za,rfl⟩
  have:j=0:=by
   cases j with
   | zero=>rfl
   | succ j=>rw [B8] at hr;cases hr
  subst this
  exact h cs ⟨by omega,by omega,λc hc=>(hb c hc).1,Za⟩
 ·rintro x r τ R hR ⟨j,lo,m,cs,z3,z4,z5,z6,hr,hj,h0,h1,hb,Za,rfl⟩
  cases j with
  | zero=>cases hr
  | succ j=>
    rw [B8] at hr
    cases hr
    have hl:cs.length<=4:=by omega
    refine ⟨lz,⟨by decide,by decide⟩, ?_⟩
    refine DA (λr τ=>∃(i:Nat) (lo2:Int) (ws:List Rat) (z5 z6:Option AV),r=rng lo2 i/\i+ws.length=3/\(∀u∈ws,Bd 40 u)/\
     τ= [some (.val .tape),some (.val (.int m)),some (.own (cs.map cor)),some (.val (.int lo)),some (.own (ws.map fr)),z5,z6]) ?_ ?_ _ _ ⟨3,0, [],z5,z6,rfl,rfl,by simp,rfl⟩
    ·rintro τ ⟨i,lo2,ws,z5,z6,bH,hi,hw,rfl⟩
     have:i=0:=by
      cases i with
      | zero=>rfl
      | succ i=>rw [B8] at bH;cases bH
     subst this
     match ws,hi,hw with
     | [u,v,w],_,hw=>
       have mb:(m:Int).natAbs<2^40:=by omega
       have bm:Bd 40 ((m:Rat)/997):=by rw [PM h0];exact .part (by decide) mb (by decide)
       refine ⟨rfl,Bb m 997 (by decide) (UM mb) (B0 (m:=40) (by decide) (by omega)) ⟨lz,rfl, ?_, ?_⟩⟩
       ·rw [List.length_map];exact Nat.lt_of_le_of_lt hl (by decide)
       refine ⟨⟨by decide,by decide,by decide⟩,rfl,A3 (by decide) (by decide) λd d0 d1=> ?_⟩
       have d1':d<100000:=d1
       refine hR _ ⟨j,lo+1,m+1+d,cs ++ [((m:Rat)/997,u,v,w)],some (.val (.int lo)),some (.own ([u,v,w].map fr)),z5,z6,rfl,by simp;omega,by omega,by simp;omega, ?_, ?_, ?_⟩
       ·have lt:(m:Rat)/997<((m+1+d:Int):Rat)/997:=by
         have:(m:Rat)<((m+1+d:Int):Rat):=by exact_mod_cast (by omega:m<m+1+d)
         grind
        intro c hc
        rcases List.mem_append.mp hc with hc|hc
        ·exact ⟨(hb c hc).1,by have:=(hb c hc).2;grind⟩
        ·simp at hc;subst hc
         exact ⟨⟨bm,hw u (by simp),hw v (by simp),hw w (by simp)⟩,lt⟩
       ·refine List.pairwise_append.mpr ⟨Za,by simp,λc hc d hd=> ?_⟩
        simp at hd;subst hd
        exact (hb c hc).2
       ·rw [List.map_append,PM h0];rfl
    ·rintro x r τ R2 ZP ⟨i,lo2,ws,z5,z6,bH,hi,hw,rfl⟩
     cases i with
     | zero=>cases bH
     | succ i=>
       rw [B8] at bH
       cases bH
       refine ⟨rfl,A3 (by decide) (by decide) λt t0 t1=>⟨rfl,A3 (by decide) (by decide) λb b0 b1=>⟨rfl, ?_⟩⟩⟩
       refine EB 40 (by omega) (by omega) (by omega) (by decide) λbq=>⟨?_, ?_⟩
       ·rw [List.length_map];exact Nat.lt_of_le_of_lt (show ws.length<=3 by omega) (by decide)
       ·refine ZP _ ⟨i,lo2+1,ws ++ [Rat.divInt (t-999999999) (1+b)],some (.val (.int lo2)),some (.val (.int (t-999999999))),rfl,by simp;omega,λc hc=> ?_, ?_⟩
        ·rcases List.mem_append.mp hc with hc|hc
         ·exact hw c hc
         ·simp at hc;subst hc;exact bq
        ·rw [List.map_append];rfl
def Gb:AS:=
 (Ag (HN (NS (AB (AM 2 A7 (AB (aV 0) (AB (aC (.int 4)) AL))) AL)) (A8 2) (Av (AM 2 Cs (AB (aV 0) (AB (aV 1) AL))) (A8 1)))
   (An (aV 1)))
def Ga:AS:=
 (Ag (Av (AM 1 EH (AB (aV 0) AL)) (A8 1))
   Gb)
def JQ:AS:=
 (Ag (Bx (A2 (AY IP (AM 2 A7 (AB (aV 0) (AB (aC (.int 8)) AL))) (aC (.int 0)))) (An (AM 1 Cr (AB (aV 0) AL))) BM)
   Ga)
def CG:AF:=Au 3 JQ
theorem K3.ok {n D N m:Nat} {cs:List C4} (p:K3 n D N cs) (h1:N<2^m) (h2:D<2^m):D5 n m cs:=⟨p.two,p.few,λc hc=>(p.mu c hc).bd h1 h2,p.ris⟩
theorem Go {Q:PV->Prop} (h:∀cs,D5 12 40 cs->Q (AW cs)):CG [.tape] Q:=by
 refine ⟨rfl,A3 (by decide) (by decide) λa a0 a1=> ?_⟩
 refine Cq (b:=decide (a=0)) (λ_=> ?_) (λ_=> ?_)
 ·exact ⟨rfl,Gq λcs p=>h cs ⟨p.two,Nat.le_trans p.few (by decide),p.bd,p.ris⟩⟩
 refine ⟨rfl,Kz λcs p=>⟨rfl,A3 (by decide) (by decide) λk k0 k1=>⟨⟨by omega,by omega⟩, ?_⟩⟩⟩
 refine DA (λr τ=>∃(i t:Nat) (lo:Int) (cs:List C4) (z2:Option AV),r=rng lo i/\t+i=k.toNat/\K3 (9+t) (6*2^t) (512*2^t) cs/\τ= [some (.val .tape),some (.val (AW cs)),z2]) ?_ ?_ _ _ ⟨k.toNat,0,0,cs,none,rfl,by omega,p,rfl⟩
 ·rintro τ ⟨i,t,lo,cs,z2,hr,hi,p,rfl⟩
  have ht:t=0\/t=1\/t=2\/t=3:=by omega
  refine h cs ?_
  have q:D5 (9+t) 40 cs:=by
   rcases ht with rfl|rfl|rfl|rfl <;> exact p.ok (by decide) (by decide)
  exact ⟨q.two,Nat.le_trans q.few (by omega),q.bd,q.ris⟩
 ·rintro x r τ R hR ⟨i,t,lo,cs,z2,hr,hi,p,rfl⟩
  cases i with
  | zero=>cases hr
  | succ i=>
    rw [B8] at hr
    cases hr
    have ht:t=0\/t=1\/t=2:=by omega
    have q:D5 (9+t) 40 cs:=by
     rcases ht with rfl|rfl|rfl <;> exact p.ok (by decide) (by decide)
    refine ⟨rfl,Gr q (by omega) (by decide) λj u v hj eu ev=> ?_⟩
    have s:=QF p hj eu ev
    have e1:2*(6*2^t)=6*2^(t+1):=by rw [Nat.pow_succ];omega
    have e2:2*(512*2^t)=512*2^(t+1):=by rw [Nat.pow_succ];omega
    rw [e1,e2] at s
    exact hR _ ⟨i,t+1,lo+1,_,_,rfl,by omega,s,rfl⟩
def B5 (cs:List C4) (v:PV):Prop:=∃f:C4->PV,(f=cor\/f=corL)/\(v= .tup (cs.map f)\/v= .lst (cs.map f))
theorem B5.self (cs:List C4):B5 cs (AW cs):=⟨cor, .inl rfl, .inl rfl⟩
theorem B5.lists (cs:List C4):B5 cs (.lst (cs.map corL)):=⟨corL, .inr rfl, .inr rfl⟩
theorem B5.list (cs:List C4):B5 cs (.lst (cs.map cor)):=⟨cor, .inl rfl, .inr rfl⟩
def laterC (b:Rat) (cs:List C4):List C4:=cs.map λc=>(c.1+b,c.2)
def offC (x y z:Rat) (cs:List C4):List C4:=cs.map λc=>(c.1,c.2.1+x,c.2.2.1+y,c.2.2.2+z)
theorem Bt.laterC {B m:Nat} {b:Rat} {cs:List C4} (h:∀c∈cs,Bt B c) (hb:Bd m b):∀c∈laterC b cs,Bt (B+m+1) c:=λc hc=>by
 obtain ⟨d,hd,rfl⟩:=List.mem_map.mp hc
 have q:=h d hd
 exact ⟨q.m.add hb,q.x.mono (by omega),q.y.mono (by omega),q.z.mono (by omega)⟩
theorem Bt.offC {B m:Nat} {x y z:Rat} {cs:List C4} (h:∀c∈cs,Bt B c) (hx:Bd m x) (hy:Bd m y) (hz:Bd m z):∀c∈offC x y z cs,Bt (B+m+1) c:=λc hc=>by
 obtain ⟨d,hd,rfl⟩:=List.mem_map.mp hc
 have q:=h d hd
 exact ⟨q.m.mono (by omega),q.x.add hx,q.y.add hy,q.z.add hz⟩
theorem E5 {α β:Type} {g:AG} {te:AE} {τ0:BB} {Q:List PV->Prop} (f:α->PV) (k:β->PV) (e:α->β) (P:α->Prop)
 (hs:∀a,P a->∀R:PV->Prop,R (k (e a))->g (f a) τ0 λτ1=>te τ1 R):
 ∀(xs:List α) (acc:List PV),(∀a∈xs,P a)->Q (acc++(xs.map e).map k)->Cn g Fn te τ0 Q (xs.map f) acc
 | [],acc,_,h=>(by simpa using h:Q acc)
 | a::xs,acc,hp,h=>by
   refine hs a (hp a (by simp)) (λy=>Cn g Fn te τ0 Q (xs.map f) (acc ++ [y])) (E5 f k e P hs xs _ (λb hb=>hp b (by simp [hb])) ?_)
   simpa using h
def Wj:AS:=
 (An (Fd CC (AB (IN (DN (Qf (aV 0)) 4 [1] (QJ 4 (Ap (A8 0) (Ap (A8 1) (Ap (A8 2) (Ap (A8 3) Dm))))) Fn (B9 (AB (AM 2 Ci (AB (aV 0) (AB (aV 4) AL))) (AB (aV 1) (AB (aV 2) (AB (aV 3) AL))))))) AL)))
def Js:AF:=Au 2 Wj
theorem QY {cs:List C4} {v:PV} {B m:Nat} {b:Rat} (hv:B5 cs v) (hl:cs.length<=1000) (hc:∀c∈cs,Bt B c) (hb:Bd m b) (hB:B<=4000) (hm:m<=4000) {Q:PV->Prop} (h:Q (AW (laterC b cs))):Js [v,fr b] Q:=by
 obtain ⟨f,hf,hv⟩:=hv
 have go:cs.length<sizeLine/\Cn (QJ 4 (Ap (A8 0) (Ap (A8 1) (Ap (A8 2) (Ap (A8 3) Dm))))) Fn (B9 (AB (AM 2 Ci (AB (aV 0) (AB (aV 4) AL))) (AB (aV 1) (AB (aV 2) (AB (aV 3) AL)))))
  [none,none,none,none,some (.val (fr b))] (λxs=>Q (.tup xs)) (cs.map f) [] :=by
  refine ⟨Nat.lt_of_le_of_lt hl (by decide), ?_⟩
  refine E5 f cor (λc=>(c.1+b,c.2)) (Bt B) (λc bc R hR=> ?_) cs [] hc h
  rcases hf with rfl|rfl
  ·exact ⟨rfl,rfl,CM (bc.m.mono hB) (hb.mono hm) ⟨lz,hR⟩⟩
  ·exact ⟨rfl,rfl,CM (bc.m.mono hB) (hb.mono hm) ⟨lz,hR⟩⟩
 rw [show cs.length=(cs.map f).length by simp] at go
 rcases hv with rfl|rfl <;> exact go
def S6:AS:=
 (An (Fd CC (AB (IN (DN (Qf (aV 0)) 4 [1,2,3] (QJ 4 (Ap (A8 0) (Ap (A8 1) (Ap (A8 2) (Ap (A8 3) Dm))))) Fn (B9 (AB (aV 0) (AB (AM 2 Ci (AB (aV 1) (AB (aV 4) AL))) (AB (AM 2 Ci (AB (aV 2) (AB (aV 5) AL))) (AB (AM 2 Ci (AB (aV 3) (AB (aV 6) AL))) AL))))))) AL)))
def F2:AF:=Au 4 S6
theorem NM {cs:List C4} {v:PV} {B m:Nat} {x y z:Rat} (hv:B5 cs v) (hl:cs.length<=1000) (hc:∀c∈cs,Bt B c) (hx:Bd m x) (hy:Bd m y) (hz:Bd m z) (hB:B<=4000) (hm:m<=4000) {Q:PV->Prop} (h:Q (AW (offC x y z cs))):F2 [v,fr x,fr y,fr z] Q:=by
 obtain ⟨f,hf,hv⟩:=hv
 have go:cs.length<sizeLine/\Cn (QJ 4 (Ap (A8 0) (Ap (A8 1) (Ap (A8 2) (Ap (A8 3) Dm))))) Fn (B9 (AB (aV 0) (AB (AM 2 Ci (AB (aV 1) (AB (aV 4) AL))) (AB (AM 2 Ci (AB (aV 2) (AB (aV 5) AL))) (AB (AM 2 Ci (AB (aV 3) (AB (aV 6) AL))) AL)))))
  [none,none,none,none,some (.val (fr x)),some (.val (fr y)),some (.val (fr z))] (λxs=>Q (.tup xs)) (cs.map f) [] :=by
  refine ⟨Nat.lt_of_le_of_lt hl (by decide), ?_⟩
  refine E5 f cor (λc=>(c.1,c.2.1+x,c.2.2.1+y,c.2.2.2+z)) (Bt B) (λc bc R hR=> ?_) cs [] hc h
  rcases hf with rfl|rfl
  ·exact ⟨rfl,rfl,CM (bc.x.mono hB) (hx.mono hm) ⟨rfl,CM (bc.y.mono hB) (hy.mono hm) ⟨rfl,CM (bc.z.mono hB) (hz.mono hm) ⟨lz,hR⟩⟩⟩⟩
  ·exact ⟨rfl,rfl,CM (bc.x.mono hB) (hx.mono hm) ⟨rfl,CM (bc.y.mono hB) (hy.mono hm) ⟨rfl,CM (bc.z.mono hB) (hz.mono hm) ⟨lz,hR⟩⟩⟩⟩
 rw [show cs.length=(cs.map f).length by simp] at go
 rcases hv with rfl|rfl <;> exact go
def KI:AS:=
 (Ag (Bx (A2 (AY IP (aV 1) (aC (.int 1)))) (An (AM 2 Aj (AB (AY Am (aC (.int 1)) (AM 2 A7 (AB (aV 0) (AB (AY E7 (AY XD (aC (.int 10)) (aC (.int 9))) (aC (.int 1))) AL)))) (AB (AY Am (aC (.int 1)) (AM 2 A7 (AB (aV 0) (AB (aC (.int 1000)) AL)))) AL)))) BM)
   (An (AM 1 CA (AB (aV 0) AL))))
def KH:AS:=
 (Ag (Bx (A2 (AY IP (aV 1) (aC (.int 0)))) (An (B9 (AB (aC (.int 0)) (AB (aC (.int 1)) AL)))) BM)
   KI)
def OY:AS:=
 (Ag (Av (AM 2 A7 (AB (aV 0) (AB (aC (.int 8)) AL))) (A8 1))
   KH)
def DY:AF:=Au 2 OY
theorem Ky {Q:PV->Prop} (h:∀a,Bd 40 a->0<=a->Q (fr a)):DY [.tape] Q:=by
 refine ⟨rfl,A3 (by decide) (by decide) λw w0 w1=> ?_⟩
 refine Cq (b:=decide (w=0)) (λ_=> ?_) (λ_=> ?_)
 ·exact ⟨lz,h 0 ⟨by decide,by decide⟩ Rat.le_refl⟩
 refine Cq (b:=decide (w=1)) (λ_=> ?_) (λ_=> ?_)
 ·refine ⟨⟨by decide,by decide,by decide⟩,rfl,A3 (by decide) (by decide) λr r0 r1=>⟨rfl,A3 (by decide) (by decide) λb b0 b1=>⟨rfl, ?_⟩⟩⟩
  have r1':r<999999999:=r1
  exact EB 40 (by omega) (by omega) (by omega) (by decide) λq=>h _ q (by have:=cC (t:=1+r) (b:=1+b) (by omega) (by omega);grind)
 ·exact ⟨rfl,D3 λa b p=>h a (b.mono (by decide)) (by grind)⟩
theorem Sh.cor {c:C4} (h:Bt 1900 c):Sh 2 17000 (cor c):=(Sh.tup (Xd (Sh.fr h.m) (Sh.fr h.x) (Sh.fr h.y) (Sh.fr h.z))).mono (by decide) lz
theorem Sh.corL {c:C4} (h:Bt 1900 c):Sh 2 17000 (corL c):=(Sh.lst (Xd (Sh.fr h.m) (Sh.fr h.x) (Sh.fr h.y) (Sh.fr h.z))).mono (by decide) lz
abbrev T3:=Rat×Rat×Rat
def inter (a b:C4) (m:Rat):T3:=(a.2.1+(m-a.1)/(b.1-a.1)*(b.2.1-a.2.1),a.2.2.1+(m-a.1)/(b.1-a.1)*(b.2.2.1-a.2.2.1),a.2.2.2+(m-a.1)/(b.1-a.1)*(b.2.2.2-a.2.2.2))
def spotG:C4->List C4->Rat->Option T3
 | _, [],_=>none
 | a,b::r,m=>if b.1<m then spotG b r m else some (inter a b m)
def spotC:List C4->Rat->Option T3
 | [],_=>none
 | a::r,m=>if m<a.1 then none else spotG a r m
def Sy (t:T3):PV:= .tup [fr t.1,fr t.2.1,fr t.2.2]
def DK:Option T3->PV
 | none=> .non
 | some t=>Sy t
structure NP (B:Nat) (t:T3):Prop where
 x:Bd B t.1
 y:Bd B t.2.1
 z:Bd B t.2.2
theorem NP.mono {B B':Nat} {t:T3} (h:NP B t) (k:B<=B'):NP B' t:=⟨h.x.mono k,h.y.mono k,h.z.mono k⟩
section
variable {B M:Nat} {a b:C4} {m:Rat}
theorem OL {x y:Rat} (h:x<y):y-x≠0:=by grind
theorem Bd.share (ha:Bt B a) (hb:Bt B b) (hm:Bd M m) (h:a.1<b.1):Bd (M+B+1+(B+B+1)) ((m-a.1)/(b.1-a.1)):=(hm.sub ha.m).div (OL h) (hb.m.sub ha.m)
theorem NP.inter (ha:Bt B a) (hb:Bt B b) (hm:Bd M m) (h:a.1<b.1):NP (M+6*B+10) (inter a b m):=by
 have s:=Bd.share ha hb hm h
 exact ⟨(ha.x.add (s.mul (hb.x.sub ha.x))).mono (by omega),(ha.y.add (s.mul (hb.y.sub ha.y))).mono (by omega),(ha.z.add (s.mul (hb.z.sub ha.z))).mono (by omega)⟩
end
theorem NP.spotG {B M:Nat} {m:Rat} (hm:Bd M m):∀{a:C4} {r:List C4},Bk (a::r)->(∀c∈a::r,Bt B c)->∀t,spotG a r m=some t->NP (M+6*B+10) t
 | a, [],_,_,t,e=>by cases e
 | a,b::r,hr,hb,t,e=>by
   unfold PL.spotG at e
   split at e
   ·exact NP.spotG hm (List.pairwise_cons.mp hr).2 (λc hc=>hb c (by simp [hc])) t e
   ·cases e
    exact .inter (hb a (by simp)) (hb b (by simp)) hm ((List.pairwise_cons.mp hr).1 b (by simp))
theorem NP.spotC {B M:Nat} {m:Rat} {cs:List C4} (hm:Bd M m) (hr:Bk cs) (hb:∀c∈cs,Bt B c):∀t,spotC cs m=some t->NP (M+6*B+10) t:=λt e=>by
 cases cs with
 | nil=>cases e
 | cons a r=>
   simp only [PL.spotC] at e
   split at e
   ·cases e
   ·exact NP.spotG hm hr hb t e
theorem BY {f:C4->PV} {cs:List C4} {i:Int} {k:Nat} {c:C4} {Q:PV->Prop} (hk:i=(k:Int)) (e:cs[k]? =some c) (h:Q (f c)):MI (EE (cs.map f) i) Q:=by
 have q:EE (cs.map f) ((k:Nat):Int)=some (f c):=Ct (by rw [List.getElem?_map,e] <;> rfl)
 rw [hk,q];exact h
theorem Es {f:C4->PV} {cs:List C4} {c:C4} {Q:PV->Prop} (e:cs.getLast?=some c) (h:Q (f c)):MI (EE (cs.map f) (-1)) Q:=by
 have QK:cs≠ [] :=by intro z;subst z;cases e
 have hl:0<cs.length:=List.length_pos_iff.mpr QK
 have q:EE (cs.map f) (-1)=some (f c):=by
  unfold EE UV
  rw [List.length_map,if_neg (by decide),if_pos (by omega)]
  have e2:(-1+(cs.length:Int)).toNat=cs.length-1:=by omega
  rw [Option.bind_some,e2,List.getElem?_map,<-List.getLast?_eq_getElem?,e]
  rfl
 rw [q];exact h
def Ko:AS:=
 (Ag (Av (AM 2 NL (AB (AM 2 Cf (AB (aV 2) (AB (AY Ah (aV 0) (aC (.int 0))) AL))) (AB (AM 2 Cf (AB (AY Ah (aV 1) (aC (.int 0))) (AB (AY Ah (aV 0) (aC (.int 0))) AL))) AL))) (A8 3))
   (An (Fd CC (AB (IN (DN (eZ (AB (TK (aV 0) (TM (aC (.int 1))) TL) (AB (TK (aV 1) (TM (aC (.int 1))) TL) AL))) 2 [3] (QJ 2 (Ap (A8 0) (Ap (A8 1) Dm))) Fn (AM 2 Ci (AB (aV 0) (AB (AM 2 DT (AB (aV 2) (AB (AM 2 Cf (AB (aV 1) (AB (aV 0) AL))) AL))) AL))))) AL))))
def C9:AF:=Au 4 Ko
theorem HI {f:C4->PV} (hf:f=cor\/f=corL) {a b:C4} {B M:Nat} {m:Rat} (ha:Bt B a) (hb:Bt B b) (hm:Bd M m) (h:a.1<b.1) (hB:M+6*B+10<=3990) {Q:PV->Prop} (q:Q (Sy (inter a b m))):C9 [f a,f b,fr m] Q:=by
 simp only [Sy,inter] at q
 have s:=Bd.share ha hb hm h
 have key:Cn (QJ 2 (Ap (A8 0) (Ap (A8 1) Dm))) Fn (AM 2 Ci (AB (aV 0) (AB (AM 2 DT (AB (aV 2) (AB (AM 2 Cf (AB (aV 1) (AB (aV 0) AL))) AL))) AL))) [none,none,some (.val (fr ((m-a.1)/(b.1-a.1))))] (λxs=>Q (.tup xs))
  ([(a.2.1,b.2.1),(a.2.2.1,b.2.2.1),(a.2.2.2,b.2.2.2)].map λp:Rat×Rat=>PV.tup [fr p.1,fr p.2]) [] :=by
  refine E5 (λp:Rat×Rat=>PV.tup [fr p.1,fr p.2]) fr (λp=>p.1+(m-a.1)/(b.1-a.1)*(p.2-p.1)) (λp=>Bd B p.1/\Bd B p.2) (λp hp R hR=> ?_) _ [] (gw ⟨ha.x,hb.x⟩ ⟨ha.y,hb.y⟩ ⟨ha.z,hb.z⟩) q
  have bl:=hp.1
  have bh:=hp.2
  exact ⟨rfl,rfl,BV (bh.mono (by omega)) (bl.mono (by omega)) ⟨rfl,E2 (s.mono (by omega)) ((bh.sub bl).mono (by omega)) ⟨rfl,CM (bl.mono (by omega)) ((s.mul (bh.sub bl)).mono (by omega)) hR⟩⟩⟩
 have m1:=hm.mono (n:=4000) (by omega)
 have a1:=ha.m.mono (n:=4000) (by omega)
 have b1:=hb.m.mono (n:=4000) (by omega)
 rcases hf with rfl|rfl
 ·exact ⟨rfl,BV m1 a1 ⟨rfl,BV b1 a1 ⟨rfl,MN (OL h) ((hm.sub ha.m).mono (by omega)) ((hb.m.sub ha.m).mono (by omega)) (FJ (FJ ⟨lz,key⟩))⟩⟩⟩
 ·exact ⟨rfl,BV m1 a1 ⟨rfl,BV b1 a1 ⟨rfl,MN (OL h) ((hm.sub ha.m).mono (by omega)) ((hb.m.sub ha.m).mono (by omega)) (EZ (EZ ⟨lz,key⟩))⟩⟩⟩
def NH:AS:=
 (Ag (HN (Y7 (AB (aC (.int 1)) (AB (Fd GF (AB (aV 0) AL)) AL))) (A8 2) (Bx (Er (A2 (AM 2 Ak (AB (AY Ah (AY Ah (aV 0) (aV 2)) (aC (.int 0))) (AB (aV 1) AL))))) (An (AM 3 C9 (AB (AY Ah (aV 0) (AY E7 (aV 2) (aC (.int 1)))) (AB (AY Ah (aV 0) (aV 2)) (AB (aV 1) AL))))) BM))
   (An (aC .non)))
def S7:AS:=
 (Ag (Bx (A2 (AM 2 Ak (AB (aV 1) (AB (AY Ah (AY Ah (aV 0) (aC (.int 0))) (aC (.int 0))) AL)))) (An (aC .non)) BM)
   NH)
def F3:AF:=Au 3 S7
theorem X9 {cs:List C4} (h:Bk cs) {k:Nat} {a b:C4} (ea:cs[k]? =some a) (eb:cs[k+1]? =some b):a.1<b.1:=by
 have h1:=(List.getElem?_eq_some_iff.mp ea)
 have h2:=(List.getElem?_eq_some_iff.mp eb)
 obtain ⟨l1,rfl⟩:=h1
 obtain ⟨l2,rfl⟩:=h2
 exact List.pairwise_iff_getElem.mp h k (k+1) l1 l2 (by omega)
theorem NN {cs:List C4} {v:PV} {B M:Nat} {m:Rat} (hv:B5 cs v) (hc:∀c∈cs,Bt B c) (hr:Bk cs) (h0:cs≠ []) (hl:cs.length<=1000) (hm:Bd M m) (hB:M+6*B+10<=3990) {Q:PV->Prop} (q:Q (DK (spotC cs m))):F3 [v,fr m] Q:=by
 obtain ⟨f,hf,hv⟩:=hv
 have m1:=hm.mono (n:=4000) (by omega)
 cases cs with
 | nil=>exact absurd rfl h0
 | cons a r=>
   have ba:=hc a (by simp)
   have a1:=ba.m.mono (n:=4000) (by omega)
   simp only [spotC] at q
   have few:r.length+1<=1000:=hl
   have cJ:∀(c:C4) (P:PV->Prop),P (fr c.1)->RH (f c) λys=>MI (EE ys 0) P:=λc P hP=>by rcases hf with rfl|rfl <;> exact hP
   rcases hv with rfl|rfl
   all_goals
    refine BY (k:=0) (c:=a) rfl rfl (cJ a _ ⟨rfl,BR m1 a1 ?_⟩)
    refine Cq (b:=decide (m<a.1)) (λz=> ?_) (λz=> ?_)
    ·rw [if_pos (of_decide_eq_true z)] at q
     exact q
    ·rw [if_neg (of_decide_eq_false z)] at q
     have B6:∀f:C4->PV,((((a::r).map f).length:Nat):Int)=r.length+1:=λf=>by simp
     refine ⟨⟨by decide,by decide,by rw [B6];omega,by rw [B6];omega⟩, ?_⟩
     rw [B6,show ((r.length:Int)+1-1).toNat=r.length by omega]
     refine DA (λrr τ=>∃(k:Nat) (z2:Option AV) (c:C4) (ds:List C4),rr=rng ((k:Int)+1) ds.length/\(a::r)[k]? =some c/\(a::r).drop (k+1)=ds/\spotG c ds m=spotG a r m/\τ= [some (.val _),some (.val (fr m)),z2]) ?_ ?_ _ _ ⟨0,none,a,r,rfl,rfl,rfl,rfl,rfl⟩
     ·rintro τ ⟨k,z2,c,ds,OW,ek,ed,es,rfl⟩
      have:ds= [] :=by
       cases ds with
       | nil=>rfl
       | cons d ds=>rw [List.length_cons,B8] at OW;cases OW
      subst this
      rw [<-es] at q
      exact q
     ·rintro x rr τ R hR ⟨k,z2,c,ds,OW,ek,ed,es,rfl⟩
      cases ds with
      | nil=>cases OW
      | cons d ds=>
        rw [List.length_cons,B8] at OW
        cases OW
        have ed':(a::r)[k+1]? =some d:=by
         have:=congrArg (λl=>l[0]?) ed
         simpa [List.getElem?_drop] using this
        have bd:=hc d (List.mem_of_getElem? ed')
        have bc:=hc c (List.mem_of_getElem? ek)
        refine BY (k:=k+1) (by omega) ed' (cJ d _ ⟨rfl,BR (bd.m.mono (by omega)) m1 ?_⟩)
        refine Cq (b:= !decide (d.1<m)) (λz=> ?_) (λz=> ?_)
        ·have z':¬d.1<m:=by simpa using z
         rw [<-es] at q
         simp only [spotG,if_neg z',DK] at q
         exact BY (k:=k) (by omega) ek (BY (k:=k+1) (by omega) ed' ⟨rfl,HI hf bc bd hm (X9 hr ek ed') hB q⟩)
        ·have z':d.1<m:=by simpa using z
         refine hR _ ⟨k+1,_,d,ds, ?_,ed', ?_, ?_,rfl⟩
         ·rw [show (((k+1:Nat):Int)+1)=(k:Int)+1+1 by omega]
         ·have:=congrArg List.tail ed
          simpa [List.tail_drop] using this
         ·rw [<-es];simp only [spotG,if_pos z']
theorem Lp {m:Rat}:∀{a:C4} {r:List C4},Bk (a::r)->(∀l,(a::r).getLast?=some l->l.1<m)->spotG a r m=none
 | a, [],_,_=>rfl
 | a,b::r,hr,h=>by
   have bF:Bk (b::r):=(List.pairwise_cons.mp hr).2
   have hb:b.1<m:=by
    cases r with
    | nil=>exact h b rfl
    | cons c r=>
      obtain ⟨l,hl⟩:∃l,(c::r).getLast?=some l:=⟨_,List.getLast?_eq_some_getLast (by simp)⟩
      have h1:l.1<m:=h l (by simpa [List.getLast?_cons_cons] using hl)
      have h2:b.1<l.1:=(List.pairwise_cons.mp bF).1 l (List.mem_of_getLast? hl)
      grind
   simp only [spotG,if_pos hb]
   exact Lp bF λl hl=>h l (by simpa [List.getLast?_cons_cons] using hl)
theorem JH {a b:C4} (h:a.1<b.1):inter a b a.1=a.2:=by
 have s:(a.1-a.1)/(b.1-a.1)=0:=by grind
 simp only [inter,s]
 obtain ⟨m,x,y,z⟩:=a
 show (x+0*(b.2.1-x),y+0*(b.2.2.1-y),z+0*(b.2.2.2-z))=(x,y,z)
 rw [show x+0*(b.2.1-x)=x by grind,show y+0*(b.2.2.1-y)=y by grind,show z+0*(b.2.2.2-z)=z by grind]
theorem Gz {a b:C4} (h:a.1<b.1):inter a b b.1=b.2:=by
 have s:(b.1-a.1)/(b.1-a.1)=1:=by grind
 simp only [inter,s]
 obtain ⟨m,x,y,z⟩:=b
 show (a.2.1+1*(x-a.2.1),a.2.2.1+1*(y-a.2.2.1),a.2.2.2+1*(z-a.2.2.2))=(x,y,z)
 rw [show a.2.1+1*(x-a.2.1)=x by grind,show a.2.2.1+1*(y-a.2.2.1)=y by grind,show a.2.2.2+1*(z-a.2.2.2)=z by grind]
theorem Df {a:C4} {r:List C4} {m:Rat} (h:m<a.1):spotC (a::r) m=none:=by simp only [spotC,if_pos h]
theorem OJ {a:C4} {r:List C4} {m:Rat} (hr:Bk (a::r)) (h:∀l,(a::r).getLast?=some l->l.1<m):spotC (a::r) m=none:=by
 simp only [spotC]
 split
 ·rfl
 ·exact Lp hr h
def HB:AS:=
 (Ag (Av (IN (DN (Qf (B9 (AB (aC (.int 1)) (AB (aC (.int 2)) (AB (aC (.int 3)) AL))))) 1 [4,3,2] (A8 0) Fn (AM 2 BI (AB (aV 1) (AB (AM 2 Ax (AB (AY Ah (aV 2) (aV 0)) (AB (AY Ah (aV 3) (aV 0)) AL))) AL))))) (A8 5))
   (An (Fd CC (AB (IN (DN (NS (AB (aC (.int 3)) AL)) 1 [2,5] (A8 0) Fn (AM 2 BN (AB (AY Ah (aV 1) (AY Am (aV 0) (aC (.int 1)))) (AB (AY Ah (aV 2) (aV 0)) AL))))) AL))))
def KY:AS:=
 (Ag (Av (AM 2 BX (AB (AM 2 Ax (AB (aV 1) (AB (AY Ah (aV 2) (aC (.int 0))) AL))) (AB (AM 2 Ax (AB (AY Ah (aV 3) (aC (.int 0))) (AB (AY Ah (aV 2) (aC (.int 0))) AL))) AL))) (A8 4))
   HB)
def KZ:AS:=
 (Ag (HN (eZ (AB (aV 0) (AB (TK (aV 0) (TM (aC (.int 1))) TL) AL))) (QJ 2 (Ap (A8 2) (Ap (A8 3) Dm))) (Bx (Er (A2 (AM 2 Ak (AB (AY Ah (aV 3) (aC (.int 0))) (AB (aV 1) AL))))) KY BM))
   (An (aC .non)))
def Oc:AS:=
 (Ag (Bx (TF (A2 (AM 2 Ak (AB (aV 1) (AB (AY Ah (AY Ah (aV 0) (aC (.int 0))) (aC (.int 0))) AL)))) (A2 (AM 2 Ak (AB (AY Ah (AY Ah (aV 0) (OV Fa (aC (.int 1)))) (aC (.int 0))) (AB (aV 1) AL))))) (An (aC .non)) BM)
   KZ)
def Bj:AF:=Au 6 Oc
theorem B2 {cs:List C4} {B M:Nat} {m:Rat} (hc:∀c∈cs,Bt B c) (hr:Bk cs) (h0:cs≠ []) (hl:cs.length<=1000) (hm:Bd M m) (hB:M+6*B+10<=3990) {Q:PV->Prop} (q:Q (DK (spotC cs m))):Bj [AW cs,fr m] Q:=by
 have m1:=hm.mono (n:=4000) (by omega)
 cases cs with
 | nil=>exact absurd rfl h0
 | cons a r=>
   have ba:=hc a (by simp)
   have a1:=ba.m.mono (n:=4000) (by omega)
   obtain ⟨l,el⟩:∃l,(a::r).getLast?=some l:=⟨_,List.getLast?_eq_some_getLast (by simp)⟩
   have bl:=hc l (List.mem_of_getLast? el)
   refine BY (f:=cor) (k:=0) (c:=a) rfl rfl ⟨rfl,BR m1 a1 ?_⟩
   refine Cq (b:=decide (m<a.1)) (λz=> ?_) (λz=> ?_)
   ·rw [Df (of_decide_eq_true z)] at q
    exact q
   refine Es (f:=cor) el ⟨rfl,BR (bl.m.mono (by omega)) m1 ?_⟩
   refine Cq (b:=decide (l.1<m)) (λz2=> ?_) (λz2=> ?_)
   ·rw [OJ hr (λl' e'=>by rw [el] at e';cases e';exact of_decide_eq_true z2)] at q
    exact q
   simp only [spotC,if_neg (of_decide_eq_false z)] at q
   have few:r.length+1<=1000:=hl
   refine Sk (cs:=a::r) (i:=1) (k:=1) rfl (by simp) ?_
   refine DA (λrr τ=>∃(c:C4) (ds:List C4) (z2 z3 z4 z5:Option AV),rr=OT ((c::ds).map cor) (ds.map cor)/\Bk (c::ds)/\(∀d∈c::ds,Bt B d)/\spotG c ds m=spotG a r m/\τ= [some (.val (AW (a::r))),some (.val (fr m)),z2,z3,z4,z5]) ?_ ?_ _ _ ⟨a,r,none,none,none,none,rfl,hr,hc,rfl,rfl⟩
   ·rintro τ ⟨c,ds,z2,z3,z4,z5,OW,Za,hb,es,rfl⟩
    have:ds= [] :=by cases ds with | nil=>rfl|cons d ds=>cases OW
    subst this
    rw [<-es] at q
    exact q
   ·rintro x rr τ R hR ⟨c,ds,z2,z3,z4,z5,OW,Za,hb,es,rfl⟩
    cases ds with
    | nil=>cases OW
    | cons d ds=>
      cases OW
      have bc:=hb c (by simp)
      have bd:=hb d (by simp)
      have Ma:=(List.pairwise_cons.mp Za).1 d (by simp)
      refine ⟨rfl,rfl,BR (bd.m.mono (by omega)) m1 ?_⟩
      refine Cq (b:= !decide (d.1<m)) (λz=> ?_) (λz=> ?_)
      ·have z':¬d.1<m:=by simpa using z
       rw [<-es] at q
       simp only [spotG,if_neg z',DK,Sy,inter] at q
       have s:=Bd.share bc bd hm Ma
       refine ⟨rfl,BZ m1 (bc.m.mono (by omega)) ⟨rfl,BZ (bd.m.mono (by omega)) (bc.m.mono (by omega)) ⟨rfl,FP (OL Ma) ((hm.sub bc.m).mono (by omega)) ((bd.m.sub bc.m).mono (by omega)) ?_⟩⟩⟩
       refine ⟨lz,lz, ?_⟩
       refine ⟨rfl,BZ (bd.x.mono (by omega)) (bc.x.mono (by omega)) ⟨rfl,Bi (s.mono (by omega)) ((bd.x.sub bc.x).mono (by omega)) ?_⟩⟩
       refine ⟨rfl,BZ (bd.y.mono (by omega)) (bc.y.mono (by omega)) ⟨rfl,Bi (s.mono (by omega)) ((bd.y.sub bc.y).mono (by omega)) ?_⟩⟩
       refine ⟨rfl,BZ (bd.z.mono (by omega)) (bc.z.mono (by omega)) ⟨rfl,Bi (s.mono (by omega)) ((bd.z.sub bc.z).mono (by omega)) ?_⟩⟩
       refine ⟨⟨by decide,by decide⟩,lz, ?_⟩
       refine ⟨rfl,Bw (bc.x.mono (by omega)) ((s.mul (bd.x.sub bc.x)).mono (by omega)) ?_⟩
       refine ⟨rfl,Bw (bc.y.mono (by omega)) ((s.mul (bd.y.sub bc.y)).mono (by omega)) ?_⟩
       exact ⟨rfl,Bw (bc.z.mono (by omega)) ((s.mul (bd.z.sub bc.z)).mono (by omega)) q⟩
      ·have z':d.1<m:=by simpa using z
       exact hR _ ⟨d,ds,_,_,_,_,rfl,(List.pairwise_cons.mp Za).2,λe he=>hb e (by simp [he]),by rw [<-es];simp only [spotG,if_pos z'],rfl⟩
def Ka:AS:=
 (Ag (Av (AY Ah (IN (E3 (AB (B9 (AB (aC (.int 1)) (AB (aC (.int 2)) AL))) (AB (B9 (AB (aC (.int 1)) (AB (aC (.int 3)) AL))) (AB (B9 (AB (aC (.int 2)) (AB (aC (.int 3)) AL))) (AB (B9 (AB (aC (.int 1)) (AB (aC (.int 7)) AL))) AL)))))) (AM 2 A7 (AB (aV 0) (AB (aC (.int 4)) AL)))) (A8 5))
   (Av (AM 2 BN (AB (AY Ah (AY Ah (aV 1) (aV 3)) (aC (.int 0))) (AB (AM 2 BI (AB (aV 5) (AB (AM 2 Ax (AB (AY Ah (AY Ah (aV 1) (AY Am (aV 3) (aC (.int 1)))) (aC (.int 0))) (AB (AY Ah (AY Ah (aV 1) (aV 3)) (aC (.int 0))) AL))) AL))) AL))) (A8 4)))
def Kh:AS:=
 (Ag (Bx (A2 (AY IP (aV 2) (aC (.int 0)))) (Av (AM 2 Ax (AB (AY Ah (AY Ah (aV 1) (aC (.int 0))) (aC (.int 0))) (AB (AM 1 CA (AB (aV 0) AL)) AL))) (A8 4)) (Bx (A2 (AY IP (aV 2) (aC (.int 1)))) (Av (AM 2 BN (AB (AY Ah (AY Ah (aV 1) (OV Fa (aC (.int 1)))) (aC (.int 0))) (AB (AM 1 CA (AB (aV 0) AL)) AL))) (A8 4)) (Bx (A2 (AY Wd (aV 2) (aC (.int 4)))) (Av (AY Ah (IN (E3 (AB (AY Ah (AY Ah (aV 1) (aC (.int 0))) (aC (.int 0))) (AB (AY Ah (AY Ah (aV 1) (OV Fa (aC (.int 1)))) (aC (.int 0))) AL)))) (AY E7 (aV 2) (aC (.int 2)))) (A8 4)) (Bx (A2 (AY bA (aV 2) (aC (.int 4)))) Ka BM))))
   (An (Y5 (A2 (AY gC (AY Ah (aV 4) (aC (.int 1))) (aC (.int 1000)))) (aV 4) (AY Ah (AY Ah (aV 1) (aV 3)) (aC (.int 0))))))
def Kg:AS:=
 (Ag (Av (AY Ah (AY Ah (aV 1) (aV 3)) (aC (.int 0))) (A8 4))
   Kh)
def Kb:AS:=
 (Ag (Av (AM 2 A7 (AB (aV 0) (AB (AY E7 (Fd GF (AB (aV 1) AL)) (aC (.int 1))) AL))) (A8 3))
   Kg)
def Od:AS:=
 (Ag (Av (AM 2 A7 (AB (aV 0) (AB (aC (.int 9)) AL))) (A8 2))
   Kb)
def EI:AF:=Au 6 Od
theorem K0 {n B:Nat} {cs:List C4} (p:D5 n B cs) (hn:n<=1000) (hB:B<=100) {Q:PV->Prop} (h:∀m,Bd (4*B+30) m->Q (fr m)):EI [.tape,AW cs] Q:=by
 have two:=p.two
 have few:=p.few
 refine ⟨rfl,A3 (by decide) (by decide) λw w0 w1=> ?_⟩
 have B6:((cs.map cor).length:Int)=cs.length:=by simp
 refine ⟨rfl,A3 (by rw [B6];omega) (by rw [B6];omega) λi i0 i1=> ?_⟩
 rw [B6] at i1
 obtain ⟨k,rfl⟩:∃k:Nat,i=(k:Int):=⟨i.toNat,by omega⟩
 have ea:cs[k]? =some cs[k] :=List.getElem?_eq_getElem (by omega)
 have eb:cs[k+1]? =some cs[k+1] :=List.getElem?_eq_getElem (by omega)
 have e0:cs[0]? =some cs[0] :=List.getElem?_eq_getElem (by omega)
 have ba:=p.bd cs[k] (List.getElem_mem _)
 have bb:=p.bd cs[k+1] (List.getElem_mem _)
 have b0:=p.bd cs[0] (List.getElem_mem _)
 revert ea eb e0 ba bb b0
 generalize cs[k] =a
 generalize cs[k+1] =b
 generalize cs[0] =c
 intro ea eb e0 ba bb b0
 obtain ⟨l,el⟩:∃l,cs.getLast?=some l:=⟨_,List.getLast?_eq_some_getLast (by intro z;subst z;simp at two)⟩
 have bl:=p.bd l (List.mem_of_getLast? el)
 refine BY (f:=cor) (k:=k) rfl ea ?_
 have fin:∀(v:Rat) (z5:Option AV),Bd (4*B+30) v->An (Y5 (A2 (AY gC (AY Ah (aV 4) (aC (.int 1))) (aC (.int 1000)))) (aV 4) (AY Ah (AY Ah (aV 1) (aV 3)) (aC (.int 0)))) {nx:=λ_=>Q .non,rt:=Q,bk:=λ_=>False,ct:=λ_=>False} [some (.val .tape),some (.val (AW cs)),some (.val (.int w)),some (.val (.int k)),some (.val (fr v)),z5] :=λv z5 bv=>by
  refine Cq (b:=decide ((v.den:Int)<=1000)) (λ_=>h v bv) (λ_=> ?_)
  exact BY (f:=cor) (k:=k) rfl ea (h a.1 (ba.m.mono (by omega)))
 refine Cq (b:=decide (w=0)) (λ_=> ?_) (λn0=> ?_)
 ·refine BY (f:=cor) (k:=0) rfl e0 ⟨rfl,D3 λs bs s0=>⟨rfl,BZ (b0.m.mono (by omega)) (bs.mono (by omega)) ?_⟩⟩
  exact fin _ _ ((b0.m.sub bs).mono (by omega))
 refine Cq (b:=decide (w=1)) (λ_=> ?_) (λn1=> ?_)
 ·refine Es (f:=cor) el ⟨rfl,D3 λs bs s0=>⟨rfl,Bw (bl.m.mono (by omega)) (bs.mono (by omega)) ?_⟩⟩
  exact fin _ _ ((bl.m.add bs).mono (by omega))
 refine Cq (b:=decide (w<4)) (λz=> ?_) (λ_=> ?_)
 ·have z':w<4:=of_decide_eq_true z
  have n0':¬w=0:=of_decide_eq_false n0
  have n1':¬w=1:=of_decide_eq_false n1
  refine BY (f:=cor) (k:=0) rfl e0 (Es (f:=cor) el ⟨lz, ?_⟩)
  refine VX (by omega) (by show w-2<2;omega) ?_
  intro v hv
  have XY:∃m:Rat,Bd B m/\v=fr m:=by
   simp only [List.mem_cons,List.not_mem_nil,or_false] at hv
   rcases hv with rfl|rfl
   ·exact ⟨c.1,b0.m,rfl⟩
   ·exact ⟨l.1,bl.m,rfl⟩
  obtain ⟨m,bm,rfl⟩:=XY
  exact fin _ _ (bm.mono (by omega))
 refine Cq (b:=decide (4<w)) (λ_=> ?_) (λ_=> ?_)
 ·refine ⟨lz,lz,lz,lz,lz,rfl,A3 (by decide) (by decide) λj j0 j1=>VX j0 j1 ?_⟩
  intro v hv
  have XY:∃s:Rat,Bd 10 s/\v=fr s:=by
   simp only [List.mem_cons,List.not_mem_nil,or_false] at hv
   rcases hv with rfl|rfl|rfl|rfl
   ·exact ⟨⟨1,2,by decide,by decide⟩,⟨by decide,by decide⟩,rfl⟩
   ·exact ⟨⟨1,3,by decide,by decide⟩,⟨by decide,by decide⟩,rfl⟩
   ·exact ⟨⟨2,3,by decide,by decide⟩,⟨by decide,by decide⟩,rfl⟩
   ·exact ⟨⟨1,7,by decide,by decide⟩,⟨by decide,by decide⟩,rfl⟩
  obtain ⟨s,bs,rfl⟩:=XY
  refine BY (f:=cor) (k:=k) rfl ea (BY (f:=cor) (k:=k+1) (by omega) eb (BY (f:=cor) (k:=k) rfl ea ⟨rfl,BZ (bb.m.mono (by omega)) (ba.m.mono (by omega)) ⟨rfl,Bi (bs.mono (by omega)) ((bb.m.sub ba.m).mono (by omega)) ⟨rfl,Bw (ba.m.mono (by omega)) ((bs.mul (bb.m.sub ba.m)).mono (by omega)) ?_⟩⟩⟩))
  exact fin _ _ ((ba.m.add (bs.mul (bb.m.sub ba.m))).mono (by omega))
 ·exact fin _ _ (ba.m.mono (by omega))
def sp (cs:List C4) (m:Rat):C4:=(m,(spotC cs m).getD (0,0,0))
def Je (f t:Rat) (c:C4):Bool:=decide (f<c.1)&&decide (c.1<t)
def EL (cs:List C4) (f t:Rat):List C4:=sp cs f::(cs.filter (Je f t) ++ [sp cs t])
theorem Lq {m:Rat}:∀{a:C4} {r:List C4} {l:C4},r≠ [] ->(a::r).getLast?=some l->m<=l.1->∃t,spotG a r m=some t
 | a, [],l,h,_,_=>absurd rfl h
 | a,b::r,l,_,e,hm=>by
   simp only [spotG]
   split
   ·rename_i h
    cases r with
    | nil=>
      have:b=l:=by simpa using e
      subst this;grind
    | cons c r=>exact Lq (l:=l) (by simp) (by simpa [List.getLast?_cons_cons] using e) hm
   ·exact ⟨_,rfl⟩
theorem Cc {a:C4} {r:List C4} {l:C4} {m:Rat} (h2:r≠ []) (e:(a::r).getLast?=some l) (h0:a.1<=m) (h1:m<=l.1):∃t,spotC (a::r) m=some t:=by
 simp only [spotC]
 rw [if_neg (by grind)]
 exact Lq h2 e h1
def Px:C4->List C4->Rat->List C4
 | a, [],f=> [a]
 | a,b::r,f=>if b.1<=f then Px b r f else (f,inter a b f)::b::r
theorem Eu {a b l:C4} {r:List C4} (e:(a::b::r).getLast?=some l):(b::r).getLast?=some l:=by
 simpa [List.getLast?_cons_cons] using e
theorem GB {a b:C4} {r:List C4} {t:Rat} (h:Bk (a::b::r)) (hr:r≠ []) (ht:b.1<=t):spotC (b::r) t=spotC (a::b::r) t:=by
 have Qx:=(List.pairwise_cons.mp h).1 b (by simp)
 simp only [spotC]
 rw [if_neg (by grind),if_neg (by grind)]
 simp only [spotG]
 split
 ·rfl
 ·have e:t=b.1:=by grind
  subst e
  rw [Gz Qx]
  match r,hr with
  | c::r,_=>
    have lf:=(List.pairwise_cons.mp (List.pairwise_cons.mp h).2).1 c (by simp)
    simp only [spotG]
    rw [if_neg (by grind),JH lf]
theorem Q0 {a b f t xa xb:Rat} (h1:a<b) (h2:f<b):(xa+(f-a)/(b-a)*(xb-xa))+(t-f)/(b-f)*(xb-(xa+(f-a)/(b-a)*(xb-xa)))=xa+(t-a)/(b-a)*(xb-xa):=by
 have n1:b-a≠0:=by grind
 have n2:b-f≠0:=by grind
 grind
theorem Pb {a b:C4} {f t:Rat} (h1:a.1<b.1) (h2:f<b.1):inter (f,inter a b f) b t=inter a b t:=by
 simp only [inter]
 rw [Q0 h1 h2,Q0 h1 h2,Q0 h1 h2]
theorem LY:∀{a:C4} {r:List C4} {l:C4} {f t:Rat},Bk (a::r)->(a::r).getLast?=some l->a.1<=f->f<l.1->f<=t->spotC (Px a r f) t=spotC (a::r) t
 | a, [],l,f,t,_,e,h0,h1,_=>by
   have:a=l:=by simpa using e
   subst this;grind
 | a,b::r,l,f,t,h,e,h0,h1,ht=>by
   have hb:=(List.pairwise_cons.mp h).1
   have Qx:=hb b (by simp)
   have e':=Eu e
   have h':=(List.pairwise_cons.mp h).2
   simp only [Px]
   by_cases hf:b.1<=f
   ·rw [if_pos hf]
    have hr:r≠ [] :=by
     intro z;subst z
     have:b=l:=by simpa using e'
     subst this;grind
    rw [LY h' e' hf h1 ht]
    exact GB h hr (by grind)
   ·rw [if_neg hf]
    simp only [spotC,spotG]
    rw [if_neg (show ¬t<f by grind),if_neg (show ¬t<a.1 by grind),Pb Qx (by grind)]
def mx (b a:Rat):Rat:=if b<a then a else b
def mn (e l:Rat):Rat:=if e<l then e else l
def LR (cs:List C4) (f t:Rat):Option (List C4):=if f<t then some (EL cs f t) else none
def LS:Option (List C4)->PV
 | none=> .non
 | some ds=>AW ds
def KG:AS:=
 (An (Y5 (A2 (AM 2 Ak (AB (aV 0) (AB (aV 1) AL)))) (aV 1) (aV 0)))
def BH:AF:=Au 2 KG
theorem EG {a b:Rat} (ha:Bd 4000 a) (hb:Bd 4000 b) {Q:PV->Prop} (q:Q (fr (mx a b))):BH [fr a,fr b] Q:=by
 refine ⟨rfl,BR ha hb ?_⟩
 refine Cq (b:=decide (a<b)) (λz=> ?_) (λz=> ?_)
 ·rw [mx,if_pos (of_decide_eq_true z)] at q;exact q
 ·rw [mx,if_neg (of_decide_eq_false z)] at q;exact q
def Uc:AS:=
 (An (Y5 (A2 (AM 2 Ak (AB (aV 1) (AB (aV 0) AL)))) (aV 1) (aV 0)))
def HG:AF:=Au 2 Uc
theorem O2 {a b:Rat} (ha:Bd 4000 a) (hb:Bd 4000 b) {Q:PV->Prop} (q:Q (fr (mn a b))):HG [fr a,fr b] Q:=by
 refine ⟨rfl,BR hb ha ?_⟩
 refine Cq (b:=decide (b<a)) (λz=> ?_) (λz=> ?_)
 ·have z':=of_decide_eq_true z
  rw [show mn a b=b by unfold mn;split <;> grind] at q;exact q
 ·have z':=of_decide_eq_false z
  rw [show mn a b=a by unfold mn;split <;> grind] at q;exact q
theorem Cz {α:Type} {g:AG} {tt:AT} {te:AE} {τ0:BB} {Q:List PV->Prop} (f k:α->PV) (p:α->Bool) (P:α->Prop)
 (hs:∀a,P a->∀(R:PV->Prop) (N:Prop),(p a=true->R (k a))->(p a=false->N)->g (f a) τ0 λτ1=>tt τ1 λok=>if ok=true then te τ1 R else N):
 ∀(xs:List α) (acc:List PV),(∀a∈xs,P a)->Q (acc++(xs.filter p).map k)->Cn g tt te τ0 Q (xs.map f) acc
 | [],acc,_,h=>(by simpa using h:Q acc)
 | a::xs,acc,hp,h=>by
   refine hs a (hp a (by simp)) (λy=>Cn g tt te τ0 Q (xs.map f) (acc ++ [y])) _ (λz=> ?_) (λz=> ?_)
   ·exact Cz f k p P hs xs _ (λb hb=>hp b (by simp [hb])) (by simpa [List.filter_cons,z] using h)
   ·exact Cz f k p P hs xs _ (λb hb=>hp b (by simp [hb])) (by simpa [List.filter_cons,z] using h)
theorem both {f t:Rat} {c:C4} {tt:(Bool->Prop)->Prop} {A:Prop} {N:Prop} (h1:Je f t c=true->A) (h2:Je f t c=false->N):
 if decide (f<c.1)=true then (if decide (c.1<t)=true then A else N) else N:=by
 unfold Je at h1 h2
 refine Cq (λz=>Cq (λz2=>h1 (by rw [z,z2];rfl)) (λz2=>h2 (by rw [z,z2];rfl))) (λz=>h2 (by rw [z];rfl))
def HC:AS:=
 (An (IN (DN (Qf (aV 0)) 1 [1,2] (A8 0) (K5 (A2 (AM 2 Ak (AB (aV 1) (AB (AY Ah (aV 0) (aC (.int 0))) AL)))) (A2 (AM 2 Ak (AB (AY Ah (aV 0) (aC (.int 0))) (AB (aV 2) AL))))) (Fd CC (AB (aV 0) AL)))))
def CP:AF:=Au 3 HC
theorem Fj {cs:List C4} {v:PV} {B:Nat} {f t:Rat} (hv:B5 cs v) (hl:cs.length<=1000) (hc:∀c∈cs,Bt B c) (hB:B<=4000) (hf:Bd 4000 f) (ht:Bd 4000 t) {Q:PV->Prop} (q:Q (.lst ((cs.filter (Je f t)).map cor))):CP [v,fr f,fr t] Q:=by
 obtain ⟨g,hg,hv⟩:=hv
 have few:(cs.map g).length<sizeLine:=by rw [List.length_map];exact Nat.lt_of_le_of_lt hl (by decide)
 have key:∀(c:C4),Bt B c->∀(R:PV->Prop) (N:Prop),(Je f t c=true->R (cor c))->(Je f t c=false->N)->
  (A8 0) (g c) [none,some (.val (fr f)),some (.val (fr t))] λτ1=>(K5 (A2 (AM 2 Ak (AB (aV 1) (AB (AY Ah (aV 0) (aC (.int 0))) AL)))) (A2 (AM 2 Ak (AB (AY Ah (aV 0) (aC (.int 0))) (AB (aV 2) AL))))) τ1 λok=>if ok=true then (Fd CC (AB (aV 0) AL)) τ1 R else N:=by
  intro c bc R N h1 h2
  have bm:=bc.m.mono hB
  rcases hg with rfl|rfl
  all_goals
   refine ⟨rfl,BR hf bm ?_⟩
   refine Cq (b:=decide (f<c.1)) (λz=> ?_) (λz=>h2 (by unfold Je;rw [z];rfl))
   refine ⟨rfl,BR bm ht ?_⟩
   exact Cq (b:=decide (c.1<t)) (λz2=>h1 (by unfold Je;rw [z,z2];rfl)) (λz2=>h2 (by unfold Je;rw [z,z2];rfl))
 rcases hv with rfl|rfl
 ·exact ⟨few,Cz g cor (Je f t) (Bt B) key cs [] hc q⟩
 ·exact ⟨few,Cz g cor (Je f t) (Bt B) key cs [] hc q⟩
def Oe:AS:=
 (An (AY Am (B9 (AB (aV 1) AL)) (AM 2 F3 (AB (aV 0) (AB (aV 1) AL)))))
def C3:AF:=Au 2 Oe
theorem D4 {cs:List C4} {v:PV} {B M:Nat} {m:Rat} (hv:B5 cs v) (hc:∀c∈cs,Bt B c) (hr:Bk cs) (h0:cs≠ []) (hl:cs.length<=1000) (hm:Bd M m) (hB:M+6*B+10<=3990) (hs:∃t,spotC cs m=some t) {Q:PV->Prop} (q:Q (cor (sp cs m))):C3 [v,fr m] Q:=by
 obtain ⟨t,e⟩:=hs
 unfold sp at q
 rw [e] at q
 refine ⟨lz,rfl,NN hv hc hr h0 hl hm hB ?_⟩
 rw [e]
 exact ⟨lz,q⟩
theorem Qr {cs:List C4} {f t:Rat} (hl:cs.length<=1000):((cs.filter (Je f t)).map cor).length<=1000:=by
 rw [List.length_map];exact Nat.le_trans (List.length_filter_le _ _) hl
theorem Bd.mx {n:Nat} {a b:Rat} (ha:Bd n a) (hb:Bd n b):Bd n (mx a b):=by unfold PL.mx;split <;> assumption
theorem Bd.mn {n:Nat} {a b:Rat} (ha:Bd n a) (hb:Bd n b):Bd n (mn a b):=by unfold PL.mn;split <;> assumption
theorem Vf (b a:Rat):a<=mx b a:=by unfold mx;split <;> grind
theorem cw (e l:Rat):mn e l<=l:=by unfold mn;split <;> grind
def NG:AS:=
 (Ag (Av (AM 3 CP (AB (aV 0) (AB (aV 3) (AB (aV 4) AL)))) (A8 5))
   (An (Fd CC (AB (AY Am (AY Am (IN (E3 (AB (AM 2 C3 (AB (aV 0) (AB (aV 3) AL))) AL))) (aV 5)) (IN (E3 (AB (AM 2 C3 (AB (aV 0) (AB (aV 4) AL))) AL)))) AL))))
def NF:AS:=
 (Ag (Bx (Er (A2 (AM 2 Ak (AB (aV 3) (AB (aV 4) AL))))) (An (aC .non)) BM)
   NG)
def NE:AS:=
 (Ag (Av (AM 2 HG (AB (aV 2) (AB (AY Ah (AY Ah (aV 0) (OV Fa (aC (.int 1)))) (aC (.int 0))) AL))) (A8 4))
   NF)
def S4:AS:=
 (Ag (Av (AM 2 BH (AB (aV 1) (AB (AY Ah (AY Ah (aV 0) (aC (.int 0))) (aC (.int 0))) AL))) (A8 3))
   NE)
def Em:AF:=Au 6 S4
theorem HH {a l:C4} {r:List C4} {v:PV} {B M:Nat} {b e:Rat} (hv:B5 (a::r) v) (hc:∀c∈a::r,Bt B c) (hr:Bk (a::r)) (h0:r≠ []) (el:(a::r).getLast?=some l) (hl:(a::r).length<=1000) (hb:Bd M b) (he:Bd M e) (ha:Bd M a.1) (hL:Bd M l.1) (hB:M+6*B+10<=3990) {Q:PV->Prop} (q:Q (LS (LR (a::r) (mx b a.1) (mn e l.1)))):Em [v,fr b,fr e] Q:=by
 have XY:=hv
 obtain ⟨g,hg,hv⟩:=hv
 have bf:=hb.mx ha
 have bt:=he.mn hL
 have cJ:∀(c:C4) (P:PV->Prop),P (fr c.1)->RH (g c) λys=>MI (EE ys 0) P:=λc P hP=>by rcases hg with rfl|rfl <;> exact hP
 have g0:=Vf b a.1
 have g1:=cw e l.1
 have few:=Qr (cs:=a::r) (f:=mx b a.1) (t:=mn e l.1) hl
 have b4:∀{x:Rat},Bd M x->Bd 4000 x:=λh=>h.mono (by omega)
 rcases hv with rfl|rfl
 all_goals
  refine BY (k:=0) (c:=a) rfl rfl (cJ a _ ⟨rfl,EG (b4 hb) (b4 ha) ?_⟩)
  refine Es el (cJ l _ ⟨rfl,O2 (b4 he) (b4 hL) ?_⟩)
  revert q bf bt g0 g1 few
  generalize mx b a.1=f
  generalize mn e l.1=t
  intro q bf bt g0 g1 few
  refine ⟨rfl,BR (b4 bf) (b4 bt) ?_⟩
  refine Cq (b:= !decide (f<t)) (λz=> ?_) (λz=> ?_)
  ·have z':¬f<t:=by simpa using z
   rw [LR,if_neg z'] at q
   exact q
  ·have z':f<t:=by simpa using z
   rw [LR,if_pos z'] at q
   refine ⟨rfl,Fj XY hl hc (by omega) (b4 bf) (b4 bt) ?_⟩
   refine ⟨rfl,D4 XY hc hr (by simp) hl bf hB (Cc h0 el g0 (by grind)) ⟨lz, ?_⟩⟩
   refine ⟨Nat.le_trans (show _<=1001 by simp only [List.length_cons,List.length_nil];omega) (by decide), ?_⟩
   refine ⟨rfl,D4 XY hc hr (by simp) hl bt hB (Cc h0 el (by grind) g1) ⟨lz, ?_⟩⟩
   refine ⟨Nat.le_trans (show _<=1002 by simp only [List.length_append,List.length_cons,List.length_nil];omega) (by decide), ?_⟩
   have e2:LS (some (EL (a::r) f t))= .tup ([cor (sp (a::r) f)] ++ ((a::r).filter (Je f t)).map cor ++ [cor (sp (a::r) t)]):=by
    simp [LS,EL,AW]
   rw [e2] at q
   exact q
end PL
end
section
namespace PL
open PySem L2 PyProof.Rows
section
variable {a b:AS} {ta tb:AE} {tt tu:AT} {g:AG} {gs:QN} {nx bk ct:BB->Prop} {rt:PV->Prop} {τ:BB} {Q:PV->Prop} {QB:Bool->Prop} {QL:List PV->Prop} {QT:BB->Prop} {r:AA} {ai:AI} {F:AF} {n i j:Nat} {x y z:PV} {xs ys:List PV}
theorem mW (e:QM τ i=some (.val x)) (h:Q x):aV i τ Q:=by unfold aV;rw [e];exact h
def jW (x:PV) (i:Int):Option PV:=match x with | .tup xs=>EE xs i | .lst xs=>EE xs i|_=>none
theorem hI {i:Int} (e:jW x i=some z) (h:Q z):Ah x (.int i) Q:=by
 cases x <;> first | (cases e;done)|(show MI (EE _ i) Q;rw [show EE _ i=some z from e];exact h)
theorem aK {l:C4} {cs:List C4} (el:cs.getLast?=some l) (h:Q (cor l)):Ah (AW cs) (.int (-1)) Q:=Es el h
theorem dS {a b:Rat} (h:Q (.bl (decide (a=b)))):IP (fr a) (fr b) Q:=⟨⟨Mh 29 _,Mh 29 _⟩,by rw [Ee];exact h⟩
theorem dZ {a b:Rat} (h:Q (.bl (!decide (a=b)))):U0 (fr a) (fr b) Q:=⟨⟨Mh 29 _,Mh 29 _⟩,by rw [Ee];exact h⟩
theorem aM {cs:List C4} (h:Q (.int cs.length)):GF [AW cs] Q:=by
 show Q (.int (cs.map cor).length);rw [List.length_map];exact h
theorem dW {c:Bool} {A B:Prop} (e:c=true) (h:A):if c=true then A else B:=by rw [if_pos e];exact h
theorem dU {c:Bool} {A B:Prop} (e:c=false) (h:B):if c=true then A else B:=by rw [if_neg (by rw [e];exact Bool.false_ne_true)];exact h
theorem dX {p:Prop} [Decidable p] {A B:Prop} (h1:p->A) (h2:¬p->B):if decide p=true then A else B:=by
 by_cases h:p
 ·rw [if_pos (decide_eq_true h)];exact h1 h
 ·rw [if_neg (by simp [h])];exact h2 h
theorem dY {p:Prop} [Decidable p] {A B:Prop} (h1:¬p->A) (h2:p->B):if (!decide p)=true then A else B:=by
 by_cases h:p
 ·rw [if_neg (by simp [h])];exact h2 h
 ·rw [if_pos (by simp [h])];exact h1 h
end
end PL
namespace PL
open PySem L2 PyProof.Rows
theorem cA:Bd 1 (1:Rat):=⟨by decide,by decide⟩
end PL
namespace PL
open PySem L2 PyProof.Rows
section
variable {g:AG} {b:AS} {nx bk ct:BB->Prop} {rt:PV->Prop}
theorem Rz (P:Nat->BB->Prop) {lo:Int} {n:Nat} (hd:∀τ,P n τ->nx τ)
 (hs:∀i,i<n->∀τ (R:BB->Prop),(∀τ,P (i+1) τ->R τ)->P i τ->g (.int (lo+i)) τ λτ1=>b ⟨R,rt,nx,R⟩ τ1) {τ:BB} (h0:P 0 τ):GP g b ⟨nx,rt,bk,ct⟩ (rng lo n) τ:=by
 refine DA (λr τ=>∃i,i<=n/\r=rng (lo+i) (n-i)/\P i τ) ?_ ?_ _ _ ⟨0,Nat.zero_le _,by simp,h0⟩
 ·rintro τ ⟨i,hi,hr,hp⟩
  have:n-i=0:=by
   cases e:n-i with
   | zero=>rfl
   | succ k=>rw [e,B8] at hr;cases hr
  have:i=n:=by omega
  subst this
  exact hd τ hp
 ·rintro x r τ R hR ⟨i,hi,hr,hp⟩
  cases e:n-i with
  | zero=>rw [e] at hr;cases hr
  | succ k=>
    rw [e,B8] at hr
    cases hr
    exact hs i (by omega) τ R (λτ2 h2=>hR τ2 ⟨i+1,by omega,by rw [show n-(i+1)=k by omega,show lo+((i+1:Nat):Int)=lo+i+1 by omega],h2⟩) hp
theorem XG {α:Type} (f:α->PV) (P:List α->List α->BB->Prop) {cs:List α} (hd:∀τ,P cs [] τ->nx τ)
 (hs:∀us c vs,us++c::vs=cs->∀τ (R:BB->Prop),(∀τ,P (us ++ [c]) vs τ->R τ)->P us (c::vs) τ->g (f c) τ λτ1=>b ⟨R,rt,nx,R⟩ τ1) {τ:BB} (h0:P [] cs τ):GP g b ⟨nx,rt,bk,ct⟩ (cs.map f) τ:=by
 refine DA (λr τ=>∃us vs,us++vs=cs/\r=vs.map f/\P us vs τ) ?_ ?_ _ _ ⟨[],cs,rfl,rfl,h0⟩
 ·rintro τ ⟨us,vs,e,hr,hp⟩
  cases vs with
  | nil=>rw [List.append_nil] at e;subst e;exact hd τ hp
  | cons v vs=>cases hr
 ·rintro x r τ R hR ⟨us,vs,e,hr,hp⟩
  cases vs with
  | nil=>cases hr
  | cons c vs=>
    cases hr
    exact hs us c vs e τ R (λτ2 h2=>hR τ2 ⟨us ++ [c],vs,by simpa using e,rfl,h2⟩) hp
theorem XF (P:BB->Prop) {xs:List PV} (hd:∀τ,P τ->nx τ)
 (hs:∀x∈xs,∀τ (R:BB->Prop),(∀τ,P τ->R τ)->P τ->g x τ λτ1=>b ⟨R,rt,nx,R⟩ τ1) {τ:BB} (h0:P τ):GP g b ⟨nx,rt,bk,ct⟩ xs τ:=by
 refine DA (λr τ=>(∀x∈r,x∈xs)/\P τ) ?_ ?_ _ _ ⟨λ_ h=>h,h0⟩
 ·rintro τ ⟨_,hp⟩
  exact hd τ hp
 ·rintro x r τ R hR ⟨hm,hp⟩
  exact hs x (hm x (by simp)) τ R (λτ2 h2=>hR τ2 ⟨λy hy=>hm y (by simp [hy]),h2⟩) hp
theorem eF {c:AT} (P:Nat->BB->Prop)
 (hs:∀n τ (R:BB->Prop),(∀τ,P n τ->R τ)->P (n+1) τ->c (frz τ) λk=>if k=true then b ⟨R,rt,nx,R⟩ τ else nx τ) (lU:∀τ,¬P 0 τ) {n:Nat} {τ:BB} (h0:P n τ):Ic c b ⟨nx,rt,bk,ct⟩ τ:=
 ⟨n,Ri P lU (λn τ R hR hp=>hs n τ R hR hp) n τ h0⟩
end
section
variable {g:AG} {tt:AT} {te:AE} {τ0:BB} {Q:List PV->Prop}
theorem W8 (P:Nat->List PV->Prop) {lo:Int} {n:Nat} (hd:∀acc,P n acc->Q acc)
 (hs:∀i,i<n->∀acc (R:List PV->Prop),(∀acc,P (i+1) acc->R acc)->P i acc->g (.int (lo+i)) τ0 λτ1=>tt τ1 λok=>if ok=true then te τ1 λy=>R (acc ++ [y]) else R acc) (h0:P 0 []):Cn g tt te τ0 Q (rng lo n) [] :=by
 refine Rs (λr acc=>∃i,i<=n/\r=rng (lo+i) (n-i)/\P i acc) ?_ ?_ _ _ ⟨0,Nat.zero_le _,by simp,h0⟩
 ·rintro acc ⟨i,hi,hr,hp⟩
  have:n-i=0:=by
   cases e:n-i with
   | zero=>rfl
   | succ k=>rw [e,B8] at hr;cases hr
  have:i=n:=by omega
  subst this
  exact hd acc hp
 ·rintro x r acc R hR ⟨i,hi,hr,hp⟩
  cases e:n-i with
  | zero=>rw [e] at hr;cases hr
  | succ k=>
    rw [e,B8] at hr
    cases hr
    exact hs i (by omega) acc R (λτ2 h2=>hR τ2 ⟨i+1,by omega,by rw [show n-(i+1)=k by omega,show lo+((i+1:Nat):Int)=lo+i+1 by omega],h2⟩) hp
end
end PL
namespace PL
section
variable {p:Prop} [Decidable p] {A B:Prop}
theorem aJ (h:¬p) (a:B):if decide p=true then A else B:=by rw [if_neg (by simp [h])];exact a
end
end PL
end
section
namespace PL
open PySem PySem.Spec PyProof.Rows L2
def Kt (K:PySem.W.Frag) (P:Params) (mg:Str->Option Value) (x:Str) (tb:List (Str×PV)):Prop:=∃(d:Addr) (es:Array DictEntry) (n:Nat),mg x=some (.ref d)/\K.lookup d=some ⟨.type "dict",none, .dict es n, #[]⟩/\PySem.W.KeysLit P es.toList/\
 ∀s v,tb.lookup s=some v->∃(u:Value) (V:V),PySem.W.nsIn K d s=some (some u)/\RelV V u/\∀T M H,Cg K T M H V v
section
variable {K:PySem.W.Frag} {T M:Addr->Prop} {H:Hp}
theorem Bf {i:Int} {t:Tok}:∃V,RelV V (.int i t)/\∀T M H,Cg K T M H V (.int i):=⟨.int i,⟨t,rfl⟩,λ_ _ _=> .int i⟩
inductive KR (K:PySem.W.Frag):List Value->List PV->Prop where
 | nil:KR K [] []
 | cons {u:Value} {x:PV} {us:List Value} {xs:List PV} (h:∃V,RelV V u/\∀T M H,Cg K T M H V x) (t:KR K us xs):KR K (u::us) (x::xs)
theorem KR.reps:∀{us:List Value} {xs:List PV},KR K us xs->∃vs,Aq vs us/\∀T M H,Ay K T M H vs xs
 | _,_, .nil=>⟨[], .nil,λ_ _ _=> .nil⟩
 | _,_, .cons ⟨V,r,h⟩ t=>by
   obtain ⟨vs,r2,h2⟩:=KR.reps t
   exact ⟨V::vs, .cons r r2,λT M H=> .cons (h T M H) (h2 T M H)⟩
theorem KR.length:∀{us:List Value} {xs:List PV},KR K us xs->us.length=xs.length
 | _,_, .nil=>rfl
 | _,_, .cons _ t=>by simp [t.length]
theorem F6 {a:Addr} {us:List Value} {xs:List PV} {n:Nat} {dd:Option Addr} {sl:Array (Option Value)} (hl:K.lookup a=some ⟨.type "tuple",dd, .seq us.toArray n,sl⟩) (h:KR K us xs) (hs:xs.length<=sizeLine:=by decide):∃V,RelV V (.ref a)/\∀T M H,Cg K T M H V (.tup xs):=by
 obtain ⟨vs,r,q⟩:=h.reps
 refine ⟨.ref a,rfl,λT M H=> .tup (vs:=vs) (.inr ⟨_,us.toArray,n,hl,rfl,rfl, ?_,by simpa using r⟩) (q T M H)⟩
 rw [List.size_toArray,h.length];exact hs
end
def QZ (K:PySem.W.Frag) (d:Addr):List (Str×PV)->Prop
 | [] =>True
 | p::r=>(∃(u:Value) (V:V),PySem.W.nsIn K d p.1=some (some u)/\RelV V u/\∀T M H,Cg K T M H V p.2)/\QZ K d r
theorem Et {K:PySem.W.Frag} {d:Addr} {s:Str} {v:PV} {r:List (Str×PV)} {u:Value} (e:PySem.W.nsIn K d s=some (some u)) (h:∃V,RelV V u/\∀T M H,Cg K T M H V v) (t:QZ K d r):QZ K d ((s,v)::r):=let ⟨V,q1,q2⟩:=h;⟨⟨u,V,e,q1,q2⟩,t⟩
theorem QZ.get {K:PySem.W.Frag} {d:Addr}:∀{tb:List (Str×PV)},QZ K d tb->∀s v,tb.lookup s=some v->∃(u:Value) (V:V),PySem.W.nsIn K d s=some (some u)/\RelV V u/\∀T M H,Cg K T M H V v
 | [],_,s,v,e=>by cases e
 | (a,b)::r,h,s,v,e=>by
   rw [List.lookup_cons] at e
   split at e
   ·rename_i hb
    cases e
    have:s=a:=eq_of_beq hb
    subst this
    exact h.1
   ·exact QZ.get h.2 s v e
theorem cg {K:PySem.W.Frag} {P:Params} {mg:Str->Option Value} {x:Str} {d:Addr} {es:Array DictEntry} {n:Nat} {tb:List (Str×PV)} (hm:mg x=some (.ref d)) (hl:K.lookup d=some ⟨.type "dict",none, .dict es n, #[]⟩) (hk:PySem.W.KeysLit P es.toList) (h:QZ K d tb):Kt K P mg x tb:=⟨d,es,n,hm,hl,hk,h.get⟩
def Dw:List (Str×PV):= [("east", .tup [.int 1, .int 0, .int 0]),("west", .tup [.int (-1), .int 0, .int 0]),("north", .tup [.int 0, .int 1, .int 0]),("south", .tup [.int 0, .int (-1), .int 0]),("up", .tup [.int 0, .int 0, .int 1]),("down", .tup [.int 0, .int 0, .int (-1)])]
section
variable {X:Cx}
def Up (tb:List (Str×PV)) (ta:AE):AE:=λτ Q=>ta τ λx=>match x with | .str s=>MI (tb.lookup s) Q|_=>False
def g6 (K:PySem.W.Frag) (d:Addr):R2:=λx y H Q=>x= .ref d/\∃s V u,y= .str s/\PySem.W.nsIn K d s=some (some u)/\RelV V u/\Q V H
theorem Zc {d:Addr} {es:Array DictEntry} {n:Nat} (hl:X.K.lookup d=some ⟨.type "dict",none, .dict es n, #[]⟩) (hk:PySem.W.KeysLit X.w.params es.toList):Wa X (g6 X.K d):=by
 intro value slice pins s σ H x y v u Q I rx ry h hs
 obtain ⟨rfl,z,V,u',rfl,e,rV,q⟩:=h
 cases rx
 obtain ⟨t,rfl⟩:=ry
 have hm:=PySem.W.mapOf_K (prog:=X.prog) (w:=X.w) (h:=s.heap) (λa o e=>I.kIn a o e) hl hk
 exact tail_any hm.typeIs slot_dict_getitem.lookup (wpAny_getItem_of (strKind_is X.prog X.w z t) hm (PySem.W.find_K hl e) ⟨V,H,I.tok _,rV,q⟩) hs
theorem aR {x:Str} {p pos:Pos} {i:Expr} {ti:AE} {tb:List (Str×PV)} (c:Kt X.K X.w.params X.mg x tb) (hg:Gl X x) (hi:SE X i ti) (hs:Jt i) (hd:(x==("__debug__" :Str))=false:=by decide):SE X (.Subscript (.Name x p) i pos) (Up tb ti):=by
 obtain ⟨d,es,n,hm,hl,hk,ht⟩:=c
 obtain ⟨t,pt,s⟩:=hi
 refine ⟨_,He (Zc hl hk) (Xy (v:= .ref d) hg hm rfl hd) pt hs,λB T σ τ H Q AQ sr h k=> ?_⟩
 refine s B T σ τ H _ _ sr h λv x T1 H1 s1 r1 h1=> ?_
 cases r1 <;> first | exact h1.elim|skip
 obtain ⟨w,e,q⟩:=RG h1
 obtain ⟨u,V,e1,r,hr⟩:=ht _ _ e
 exact ⟨rfl,_,V,u,rfl,e1,r,k V w T1 H1 s1 (hr _ _ _) q⟩
def Zb (x:PV) (xs:List PV):Bool:=xs.any λy=>Jf y x
def XC (neg:Bool):Ia:=λx y Q=>RH y λys=>(DL 29 x=true/\GH 29 ys=true)/\Q (.bl (if neg then !Zb x ys else Zb x ys))
def RM (K:PySem.W.Frag) (neg:Bool):R2:=λu v H Q=>∃(T M:Addr->Prop) (x y:PV) (ys:List PV),Cg K T M H u x/\Cg K T M H v y/\(y= .tup ys\/y= .lst ys)/\DL 29 x=true/\GH 29 ys=true/\Q (.bl (if neg then !Zb x ys else Zb x ys)) H
theorem J4 (xs:List PV) (x:PV):(Jp xs).any (λy=>PyData.eqv y (pd x))=Zb x xs:=by
 induction xs with
 | nil=>rfl
 | cons y ys ih=>simp only [Jp,List.any_cons,ih,Zb,Jf]
theorem Zz {k:Nat} (hr:Room k X.A):Dc X (compareOp .In) (RM X.K false):=by
 intro pins s σ H u v uu vv Q I ru rv h
 obtain ⟨T,M,x,y,ys,rx,ry,hy,kx,ky,q⟩:=h
 obtain ⟨as,ra⟩:=CZ I 29 rx kx ru
 obtain ⟨a1,a2,_⟩:=FB 29 x kx
 obtain ⟨b1,b2,_⟩:=Fv 29 ys ky
 have hu:X.A.units+1+min (PyData.depthAll (Jp ys)) (pd x).depth<cLine:=by have:=hr.un;omega
 rcases hy with rfl|rfl
 ·obtain ⟨bs,rb⟩:=CZ I 30 ry (by simpa [DL] using ky) rv
  exact SeqAt.in_tuple_reads rb ra b1 a1 hu (by rw [J4];exact ⟨.bl _,H,I,rfl,q⟩)
 ·obtain ⟨bs,rb⟩:=CZ I 30 ry (by simpa [DL] using ky) rv
  exact SeqAt.in_list_reads rb ra b1 a1 hu (by rw [J4];exact ⟨.bl _,H,I,rfl,q⟩)
theorem Xs {k:Nat} (hr:Room k X.A):Dc X (compareOp .NotIn) (RM X.K true):=by
 intro pins s σ H u v uu vv Q I ru rv h
 obtain ⟨T,M,x,y,ys,rx,ry,hy,kx,ky,q⟩:=h
 obtain ⟨as,ra⟩:=CZ I 29 rx kx ru
 obtain ⟨a1,a2,_⟩:=FB 29 x kx
 obtain ⟨b1,b2,_⟩:=Fv 29 ys ky
 have hu:X.A.units+1+min (PyData.depthAll (Jp ys)) (pd x).depth<cLine:=by have:=hr.un;omega
 rcases hy with rfl|rfl
 ·obtain ⟨bs,rb⟩:=CZ I 30 ry (by simpa [DL] using ky) rv
  exact SeqAt.notIn_tuple_reads rb ra b1 a1 hu (by rw [J4];exact ⟨.bl _,H,I,rfl,q⟩)
 ·obtain ⟨bs,rb⟩:=CZ I 30 ry (by simpa [DL] using ky) rv
  exact SeqAt.notIn_list_reads rb ra b1 a1 hu (by rw [J4];exact ⟨.bl _,H,I,rfl,q⟩)
theorem Si {neg:Bool}:CJ X.K (RM X.K neg) (XC neg):=λT M H u v x y Q AQ va ru rv h k=>by
 obtain ⟨ys,hy,h1,q⟩:=Im h
 exact ⟨T,M,x,y,ys,ru,rv,hy,h1.1,h1.2,k _ _ T H (.refl va.tp) (.bl _) q⟩
theorem df {k:Nat} (hr:Room k X.A):Dc X (compareOp .In) (RM X.K false)/\CJ X.K (RM X.K false) (XC false):=⟨Zz hr,Si⟩
theorem aZ {k:Nat} (hr:Room k X.A):Dc X (compareOp .NotIn) (RM X.K true)/\CJ X.K (RM X.K true) (XC true):=⟨Xs hr,Si⟩
end
end PL
end
section
namespace PL
open PySem L2 PyProof.Rows
class Wp (P:Prop) (P':outParam Prop):Prop where
 go:P'->P
class OU (P:Prop) (C P':outParam Prop):Prop where
 go:C->P'->P
class lJ (P:Prop) (P':outParam Prop):Prop where
 go:P'->P
class fx (P:Prop) (A B:outParam Prop):Prop where
 go:A->B->P
class Yx (τ:BB) (i:Nat) (x:outParam AV):Prop where
 e:QM τ i=some x
instance nj {v:AV} {r:BB}:Yx (some v::r) 0 v:=⟨rfl⟩
instance nk {y:Option AV} {r:BB} {i:Nat} {v:AV} [h:Yx r i v] :Yx (y::r) (i+1) v:=⟨h.e⟩
class TD (τ:BB) (i:Nat) (v:AV) (τ':outParam BB):Prop where
 e:τ.set i (some v)=τ'
instance mY {y:Option AV} {r:BB} {v:AV}:TD (y::r) 0 v (some v::r):=⟨rfl⟩
instance mZ {y:Option AV} {r r':BB} {i:Nat} {v:AV} [h:TD r i v r'] :TD (y::r) (i+1) v (y::r'):=⟨by rw [List.set_cons_succ,h.e]⟩
class Ui (τ:BB) (τ':outParam BB):Prop where
 e:frz τ=τ'
instance lP:Ui [] [] :=⟨rfl⟩
instance (priority:=low) lT {z:Option AV} {r r':BB} [h:Ui r r'] :Ui (z::r) (ZK z::r'):=⟨by rw [<-h.e];rfl⟩
instance lQ {r r':BB} [h:Ui r r'] :Ui (none::r) (none::r'):=⟨by rw [<-h.e];rfl⟩
instance lS {x:PV} {r r':BB} [h:Ui r r'] :Ui (some (.val x)::r) (some (.val x)::r'):=⟨by rw [<-h.e];rfl⟩
instance lR {x:List PV} {r r':BB} [h:Ui r r'] :Ui (some (.own x)::r) (some (.val (.lst x))::r'):=⟨by rw [<-h.e];rfl⟩
class eH (ix:List Nat) (τ:BB) (τ':outParam BB):Prop where
 e:(ix.map λi=>TQ (QM τ i))=τ'
instance nP {τ:BB}:eH [] τ [] :=⟨rfl⟩
instance nQ {τ r:BB} {i:Nat} {ix:List Nat} {x:PV} [h:Yx τ i (.val x)] [h2:eH ix τ r] :eH (i::ix) τ (some (.val x)::r):=⟨by rw [List.map_cons,h.e,h2.e];rfl⟩
class eS (n:Nat) (τ:outParam BB):Prop where
 e:List.replicate n none=τ
instance nn:eS 0 [] :=⟨rfl⟩
instance nr {n:Nat} {τ:BB} [h:eS n τ] :eS (n+1) (none::τ):=⟨by rw [List.replicate_succ,h.e]⟩
class Wo (xs ys:BB) (zs:outParam BB):Prop where
 e:xs++ys=zs
instance nR {ys:BB}:Wo [] ys ys:=⟨rfl⟩
instance nS {x:Option AV} {xs ys zs:BB} [h:Wo xs ys zs] :Wo (x::xs) ys (x::zs):=⟨by rw [List.cons_append,h.e]⟩
class Wq (xs ys:List PV) (zs:outParam (List PV)):Prop where
 e:xs++ys=zs
instance lM {ys:List PV}:Wq [] ys ys:=⟨rfl⟩
instance lN {x:PV} {xs ys zs:List PV} [h:Wq xs ys zs] :Wq (x::xs) ys (x::zs):=⟨by rw [List.cons_append,h.e]⟩
class lH (xs:List PV) (n:outParam Nat):Prop where
 e:xs.length=n
class Ix (x:PV) (i:Int) (y:outParam PV):Prop where
 e:jW x i=some y
class nJ (xs:List PV) (n:Nat) (y:outParam PV):Prop where
 e:xs[n]? =some y
section
variable {a b:AS} {ta tb:AE} {tt tu:AT} {g:AG} {gs:QN} {nx bk ct:BB->Prop} {rt:PV->Prop} {τ τ' τ2:BB} {Q:PV->Prop} {QB:Bool->Prop} {QL:List PV->Prop} {QT:BB->Prop} {r:AA} {ai:AI} {F:AF} {n i j:Nat} {x y z:PV} {xs ys zs:List PV}
instance fA {p0:PV} {q:List PV}:Ix (.tup (p0::q)) 0 p0:=⟨Ct (j:=0) rfl⟩
instance fB {p0 p1:PV} {q:List PV}:Ix (.tup (p0::p1::q)) 1 p1:=⟨Ct (j:=1) rfl⟩
instance fC {p0 p1 p2:PV} {q:List PV}:Ix (.tup (p0::p1::p2::q)) 2 p2:=⟨Ct (j:=2) rfl⟩
instance jY {q:Rat}:Ix (fr q) 0 (.int q.num):=⟨rfl⟩
instance jZ {q:Rat}:Ix (fr q) 1 (.int q.den):=⟨rfl⟩
instance jX {c:C4}:Ix (cor c) 0 (fr c.1):=⟨rfl⟩
theorem gA {f:C4->PV} {c:C4} {cs:List C4}:EE ((c::cs).map f) 0=some (f c):=Ct (j:=0) rfl
instance ja {c:C4} {cs:List C4}:Ix (AW (c::cs)) 0 (cor c):=⟨gA⟩
instance kA:Wp (Ag a b ⟨nx,rt,bk,ct⟩ τ) (a ⟨b ⟨nx,rt,bk,ct⟩,rt,bk,ct⟩ τ):=⟨id⟩
instance ji:Wp (Av ta g ⟨nx,rt,bk,ct⟩ τ) (ta τ λx=>g x τ nx):=⟨id⟩
instance j9 [h:Ui τ τ'] :Wp (An ta ⟨nx,rt,bk,ct⟩ τ) (ta τ' rt):=⟨λk=>by unfold An;rw [h.e];exact k⟩
instance w_next:Wp (BM ⟨nx,rt,bk,ct⟩ τ) (nx τ):=⟨id⟩
instance jq:Wp (Bx tt a b ⟨nx,rt,bk,ct⟩ τ) (tt τ λk=>if k=true then a ⟨nx,rt,bk,ct⟩ τ else b ⟨nx,rt,bk,ct⟩ τ):=⟨id⟩
def YD (τ:BB) (i:Nat) (v:AV) (QT:BB->Prop):Prop:=QT (τ.set i (some v))
instance i3 {v:AV} [h:TD τ i v τ'] :Wp (YD τ i v QT) (QT τ'):=⟨λk=>by unfold YD;rw [h.e];exact k⟩
instance j4:Wp (NQ r i ⟨nx,rt,bk,ct⟩ τ) (r τ λxs=>YD τ i (.own xs) nx):=⟨id⟩
instance m6 [h:TD τ i (.val x) τ'] :Wp (A8 i x τ QT) (QT τ'):=⟨λk=>by unfold A8;rw [h.e];exact k⟩
instance ii {f:Y0}:Wp (GO i f r ⟨nx,rt,bk,ct⟩ τ) (TH i τ λxs=>r τ λys=>f xs ys λzs=>YD τ i (.own zs) nx):=⟨id⟩
instance iP {k:Int}:Wp (Xc xs [.int k,y] QL) ((0<=k/\k<=(xs.length:Int)/\xs.length<sizeLine)/\QL (xs.take k.toNat++y::xs.drop k.toNat)):=⟨id⟩
instance jo [h:Yx τ i (.own xs)] [h2:TD τ i (.val (.lst xs)) τ'] :Wp (W3 i a ⟨nx,rt,bk,ct⟩ τ) (a ⟨nx,rt,bk,ct⟩ τ'):=⟨λk=>by unfold W3 frz1;rw [h.e];show a ⟨nx,rt,bk,ct⟩ (τ.set i (some (.val (.lst xs))));rw [h2.e];exact k⟩
instance jn:Wp (HN ai g b ⟨nx,rt,bk,ct⟩ τ) (ai τ λxs=>GP g b ⟨nx,rt,bk,ct⟩ xs τ):=⟨id⟩
instance iW:Wp (Dm [] τ QT) (QT τ):=⟨id⟩
instance fJ {t:List PV}:Wp (Ap g gs (x::t) τ QT) (g x τ λτ'=>gs t τ' QT):=⟨id⟩
instance m7:Wp (QJ n gs x τ QT) (RH x λxs=>xs.length=n/\gs xs τ QT):=⟨id⟩
instance n5 [h:Yx τ i (.val x)] :Wp (aV i τ Q) (Q x):=⟨λk=>mW h.e k⟩
instance nu:Wp (aC x τ Q) (Q x):=⟨id⟩
instance nF {f:Ia}:Wp (AY f ta tb τ Q) (ta τ λx=>tb τ λy=>f x y Q):=⟨id⟩
instance nI {f:PV->(PV->Prop)->Prop}:Wp (OV f ta τ Q) (ta τ λx=>f x Q):=⟨id⟩
instance w_or:Wp (fy ta tb τ Q) (ta τ λx=>Zt x λc=>if c=true then Q (.bl true) else tb τ Q):=⟨id⟩
instance kI:Wp (A2 ta τ QB) (ta τ λx=>Zt x QB):=⟨id⟩
def jc (x:PV) (QB:Bool->Prop):Prop:=match YR x with | some b=>QB b|none=>False
instance kH:Wp (Y6 ta τ QB) (ta τ λx=>jc x QB):=⟨id⟩
instance i6 {cs:List C4}:Wp (jc (AW cs) QB) (QB (decide (cs≠ []))):=⟨λh=>by show QB (!(cs.map cor).isEmpty);cases cs <;> exact h⟩
instance iq:Wp (Er tt τ QB) (tt τ λc=>QB (!c)):=⟨id⟩
instance iO:Wp (K5 tt tu τ QB) (tt τ λc=>if c=true then tu τ QB else QB false):=⟨id⟩
instance j8:Wp (TF tt tu τ QB) (tt τ λc=>if c=true then QB true else tu τ QB):=⟨id⟩
instance nA:Wp (Y5 tt ta tb τ Q) (tt τ λc=>if c=true then ta τ Q else tb τ Q):=⟨id⟩
instance kK:Wp (Fn τ QB) (QB true):=⟨id⟩
instance iQ [h:Ui τ τ'] :Wp (Ro tt τ QB) (tt τ' QB):=⟨λk=>by unfold Ro;rw [h.e];exact k⟩
instance j5:Wp (AL τ QL) (QL []):=⟨id⟩
instance iV:Wp (AB ta r τ QL) (ta τ λx=>r τ λxs=>QL (x::xs)):=⟨id⟩
def Xe (xs:List PV) (Q:PV->Prop):Prop:=xs.length<=sizeLine/\Q (.tup xs)
instance kJ:Wp (B9 r τ Q) (r τ λxs=>Xe xs Q):=⟨id⟩
instance ju:Wp (E3 r τ QL) (r τ λxs=>xs.length<=sizeLine/\QL xs):=⟨id⟩
instance mw:Wp (IN r τ Q) (r τ λxs=>Q (.lst xs)):=⟨id⟩
instance w_call:Wp (AM n F r τ Q) (r τ λxs=>xs.length=n/\F xs Q):=⟨id⟩
instance mq:Wp (Fd F r τ Q) (r τ λxs=>F xs Q):=⟨id⟩
instance iU {own:Nat} {ix:List Nat} {te:AE} {τ3 τ4:BB} [h1:eS own τ3] [h2:eH ix τ τ4] [h3:Wo τ3 τ4 τ'] :Wp (DN ai own ix g tt te τ QL) (ai τ λxs=>xs.length<sizeLine/\Cn g tt te τ' QL xs []):=⟨λk=>by unfold DN L6;rw [h1.e,h2.e,h3.e];exact k⟩
instance iS {te:AE} {acc:List PV}:Wp (Cn g tt te τ QL [] acc) (QL acc):=⟨id⟩
instance iT {te:AE} {acc q:List PV}:Wp (Cn g tt te τ QL (x::q) acc) (g x τ λτ1=>tt τ1 λok=>if ok=true then te τ1 λy=>Cn g tt te τ QL q (acc ++ [y]) else Cn g tt te τ QL q acc):=⟨id⟩
instance m9:Wp (Qf ta τ QL) (ta τ λx=>RH x QL):=⟨id⟩
instance jp:Wp (NS (AB ta AL) τ QL) (ta τ λx=>Yd x λj=>(-(2^62)<=j/\j<2^62)/\QL (rng 0 j.toNat)):=⟨λh=>by have e:(λx=>Yd x λj=>(-(2^62)<=j/\j<2^62)/\QL (rng 0 j.toNat))=(λx=>match [x] with | [.int j] =>(-(2^62)<=j/\j<2^62)/\QL (rng 0 j.toNat)|_=>False):=(funext λx=>by cases x <;> rfl);rw [e] at h;exact h⟩
instance j7 {R:Int->Prop} {k:Int}:Wp (Yd (.int k) R) (R k):=⟨id⟩
instance j6 {R:Bool->Prop} {c:Bool}:Wp (Zt (.bl c) R) (R c):=⟨id⟩
instance iy:Wp (RH (.tup xs) QL) (QL xs):=⟨id⟩
instance iu:Wp (RH (.lst xs) QL) (QL xs):=⟨id⟩
instance ir {c:C4}:Wp (RH (cor c) QL) (QL [fr c.1,fr c.2.1,fr c.2.2.1,fr c.2.2.2]):=⟨id⟩
instance iw {cs:List C4}:Wp (RH (AW cs) QL) (QL (cs.map cor)):=⟨id⟩
instance nv {f:Int->Int->PV} {k l:Int}:Wp (fI f (.int k) (.int l) Q) (Q (f k l)):=⟨id⟩
instance mo {C:Int->Int->Prop} {f:Int->Int->PV} {k l:Int}:Wp (bB C f (.int k) (.int l) Q) (C k l/\Q (f k l)):=⟨id⟩
instance nB {k:Int} [h:Ix x k z] :Wp (Ah x (.int k) Q) (Q z):=⟨λq=>hI h.e q⟩
instance j3 {k:Int}:Wp (Fa (.int k) Q) (Q (.int (-k))):=⟨id⟩
instance iL {k l:Int}:Wp (Am (.int k) (.int l) Q) (Q (.int (k+l))):=⟨id⟩
instance iN:Wp (Am (.tup xs) (.tup ys) Q) (xs.length+ys.length<=sizeLine/\Q (.tup (xs++ys))):=⟨id⟩
instance iM:Wp (Am (.lst xs) (.lst ys) Q) (xs.length+ys.length<=sizeLine/\Q (.lst (xs++ys))):=⟨id⟩
instance jl {k l:Int}:Wp (IP (.int k) (.int l) Q) (Q (.bl (decide (k=l)))):=⟨id⟩
instance jm {k l:Str}:Wp (IP (.str k) (.str l) Q) (Q (.bl (decide (k=l)))):=⟨id⟩
instance jj {k l:Rat}:Wp (IP (fr k) (fr l) Q) (Q (.bl (decide (k=l)))):=⟨dS⟩
instance j2 {k l:Rat}:Wp (U0 (fr k) (fr l) Q) (Q (.bl (!decide (k=l)))):=⟨dZ⟩
instance ig {ns:List Int}:Wp (GF [.scr ns] Q) (Q (.int ns.length)):=⟨id⟩
instance ie {cs:List C4}:Wp (GF [AW cs] Q) (Q (.int cs.length)):=⟨aM⟩
instance (priority:=high) bJ {α:Type} {f:α->PV} {cs:List α}:Wp (GF [.lst (cs.map f)] Q) (Q (.int cs.length)):=⟨λh=>by show Q (.int (cs.map f).length);rw [List.length_map];exact h⟩
instance m8 {f:Int->Int->Int} {k l:Int}:Wp (cF f [.int k, .int l] Q) (Q (.int (f k l))):=⟨id⟩
instance i7:Wp (CC [.lst xs] Q) (Q (.tup xs)):=⟨id⟩
instance kB {lo hi:Option Int}:Wp (UR (.tup xs) lo hi Q) (Q (.tup (D7 xs lo hi))):=⟨FJ⟩
instance nH {l h:AO}:Wp (TK ta l h τ Q) (ta τ λx=>l τ λlo=>h τ λhi=>UR x lo hi Q):=⟨id⟩
instance nD {R:Option Int->Prop}:Wp (TL τ R) (R none):=⟨id⟩
instance nE {R:Option Int->Prop}:Wp (TM ta τ R) (ta τ λx=>Yd x λi=>R (some i)):=⟨id⟩
instance js {A B:Prop}:Wp (if true=true then A else B) (A):=⟨λh=>by rw [if_pos rfl];exact h⟩
instance jr {A B:Prop}:Wp (if false=true then A else B) (B):=⟨λh=>by rw [if_neg Bool.false_ne_true];exact h⟩
instance iX {A B:Prop}:Wp (if (!true)=true then A else B) (B):=⟨λh=>h⟩
instance n6 {p A B:Prop} [Decidable p] :fx (if decide p=true then A else B) (p->A) (¬p->B):=⟨dX⟩
instance mr {p A B:Prop} [Decidable p] :fx (if (!decide p)=true then A else B) (¬p->A) (p->B):=⟨dY⟩
instance kD {A:Prop}:Wp (([] :List PV).length<=sizeLine/\A) (A):=⟨λh=>⟨lz,h⟩⟩
instance iY {p0:PV} {A:Prop}:Wp ([p0].length=1/\A) (A):=⟨λh=>⟨rfl,h⟩⟩
instance kE {p0:PV} {A:Prop}:Wp ([p0].length<=sizeLine/\A) (A):=⟨λh=>⟨lz,h⟩⟩
instance iZ {p0 p1:PV} {A:Prop}:Wp ([p0,p1].length=2/\A) (A):=⟨λh=>⟨rfl,h⟩⟩
instance ia {p0 p1 p2:PV} {A:Prop}:Wp ([p0,p1,p2].length=3/\A) (A):=⟨λh=>⟨rfl,h⟩⟩
instance kC {p0 p1 p2:PV} {A:Prop}:Wp ([p0,p1,p2].length<sizeLine/\A) (A):=⟨λh=>⟨lz,h⟩⟩
instance ib {p0 p1 p2 p3:PV} {A:Prop}:Wp ([p0,p1,p2,p3].length=4/\A) (A):=⟨λh=>⟨rfl,h⟩⟩
instance ic {p0 p1 p2 p3 p4:PV} {A:Prop}:Wp ([p0,p1,p2,p3,p4].length=5/\A) (A):=⟨λh=>⟨rfl,h⟩⟩
instance kF {p0 p1 p2 p3 p4 p5 p6 p7:PV} {A:Prop}:Wp ([p0,p1,p2,p3,p4,p5,p6,p7].length<=sizeLine/\A) (A):=⟨λh=>⟨lz,h⟩⟩
instance jv {p0:PV}:Wp (Xe [p0] Q) (Q (.tup [p0])):=⟨λh=>⟨lz,h⟩⟩
instance jw {p0 p1:PV}:Wp (Xe [p0,p1] Q) (Q (.tup [p0,p1])):=⟨λh=>⟨lz,h⟩⟩
instance jx {p0 p1 p2:PV}:Wp (Xe [p0,p1,p2] Q) (Q (.tup [p0,p1,p2])):=⟨λh=>⟨lz,h⟩⟩
instance (priority:=high+10) il:Wp (Xe [.int 0, .int 1] Q) (Q (fr 0)):=⟨λh=>⟨lz,h⟩⟩
instance (priority:=high+10) im:Wp (Xe [.int 1, .int 1] Q) (Q (fr 1)):=⟨λh=>⟨lz,h⟩⟩
instance (priority:=high) ip {k:Int}:Wp (Xe [.int k, .int 1] Q) (Q (fr (k:Rat))):=⟨λh=>⟨lz,OR h⟩⟩
instance (priority:=high) jy {p q r t:Rat}:Wp (Xe [fr p,fr q,fr r,fr t] Q) (Q (cor (p,q,r,t))):=⟨λh=>⟨lz,h⟩⟩
theorem ZJ:PV.tup [.int 1, .int 2] =fr (1/2):=by unfold fr;rw [show ((1:Rat)/2).num=1 by decide +kernel,show ((1:Rat)/2).den=2 by decide +kernel];rfl
instance (priority:=high) bK:Wp (Xe [.int 1, .int 2] Q) (Q (fr (1/2))):=⟨λh=>⟨lz,by rw [ZJ];exact h⟩⟩
class Zp (xs ys:List PV) (zs:outParam (List PV)):Prop where
 e:OT xs ys=zs
instance (priority:=high) iR {te:AE} {acc q zs:List PV} [h:Wq acc [y] zs] :Wp (Cn g tt te τ QL q (acc ++ [y])) (Cn g tt te τ QL q zs):=⟨λk=>by rw [h.e];exact k⟩
instance fP {m:Int}:OU (A7 [.tape, .int m] Q) (0<m/\m<4611686018427387904) (∀r,0<=r->r<m->Q (.int r)):=⟨λc h=>A3 c.1 c.2 h⟩
instance fQ {ns:List Int} {k:Int}:OU (K1 [.scr ns, .int k] Q) (0<=k/\k<=1000) (Q .tape):=⟨λc h=>⟨c,h⟩⟩
instance bM {a b:Rat}:OU (Ci [fr a,fr b] Q) (Bd 4000 a/\Bd 4000 b) (Q (fr (a+b))):=⟨λc h=>CM c.1 c.2 h⟩
instance aq {a b:Rat}:OU (Cf [fr a,fr b] Q) (Bd 4000 a/\Bd 4000 b) (Q (fr (a-b))):=⟨λc h=>BV c.1 c.2 h⟩
instance au {a b:Rat}:OU (DT [fr a,fr b] Q) (Bd 4000 a/\Bd 4000 b) (Q (fr (a*b))):=⟨λc h=>E2 c.1 c.2 h⟩
instance Wi {a b:Rat}:OU (BN [fr a,fr b] Q) (Bd 4000 a/\Bd 4000 b) (Q (fr (a+b))):=⟨λc h=>Bw c.1 c.2 h⟩
instance Wh {a b:Rat}:OU (Ax [fr a,fr b] Q) (Bd 4000 a/\Bd 4000 b) (Q (fr (a-b))):=⟨λc h=>BZ c.1 c.2 h⟩
instance S2 {a b:Rat}:OU (BI [fr a,fr b] Q) (Bd 4000 a/\Bd 4000 b) (Q (fr (a*b))):=⟨λc h=>Bi c.1 c.2 h⟩
instance S1 {a b:Rat}:OU (BH [fr a,fr b] Q) (Bd 4000 a/\Bd 4000 b) (Q (fr (mx a b))):=⟨λc h=>EG c.1 c.2 h⟩
instance Yn {a b:Rat}:OU (Ak [fr a,fr b] Q) (Bd 4000 a/\Bd 4000 b) (Q (.bl (decide (a<b)))):=⟨λc h=>BR c.1 c.2 h⟩
instance UY {a b:Rat}:OU (BX [fr a,fr b] Q) (b≠0/\Bd 4000 a/\Bd 4000 b) (Q (fr (a/b))):=⟨λc h=>FP c.1 c.2.1 c.2.2 h⟩
instance WW:OU (DY [.tape] Q) (True) (∀a,Bd 40 a->0<=a->Q (fr a)):=⟨λ_ h=>Ky h⟩
instance Rh:OU (CG [.tape] Q) (True) (∀cs,D5 12 40 cs->Q (AW cs)):=⟨λ_ h=>Go h⟩
instance nG {lo:Int} {A:Prop}:Wp ((rng lo n).length<sizeLine/\A) (n<16777216/\A):=⟨λk=>⟨by rw [RN];exact k.1,k.2⟩⟩
instance nC {α:Type} {f:α->PV} {cs:List α} {A:Prop}:Wp ((cs.map f).length<sizeLine/\A) (cs.length<16777216/\A):=⟨λk=>⟨by rw [List.length_map];exact k.1,k.2⟩⟩
instance (priority:=high) fH {α:Type} {k:α} [Decidable (k=k)] {A B:Prop}:Wp (if decide (k=k)=true then A else B) A:=⟨λh=>by rw [if_pos (decide_eq_true rfl)];exact h⟩
theorem ZD (xs:List PV):D7 xs none (some (-1))=xs.dropLast:=by
 unfold D7
 rw [HT.sIx_none]
 cases xs with
 | nil=>rfl
 | cons x xs=>
   have e:HT.sIx (x::xs).length (x::xs).length (some (-1))=xs.length:=by
    simp only [HT.sIx,List.length_cons]
    rw [if_pos (by decide)]
    omega
   rw [e,List.dropLast_eq_take]
   simp
theorem ZC (xs:List PV):D7 xs (some (-1)) none=xs.drop (xs.length-1):=by
 unfold D7
 rw [HT.sIx_none]
 have e:HT.sIx xs.length 0 (some (-1))=xs.length-1:=by
  simp only [HT.sIx]
  rw [if_pos (by decide)]
  omega
 rw [e]
 exact List.take_of_length_le (by simp)
instance i5 {cs:List C4}:Wp (UR (AW cs) none (some (-1)) Q) (Q (AW cs.dropLast)):=⟨λh=>FJ (by rw [ZD,<-List.map_dropLast];exact h)⟩
instance i4 {cs:List C4}:Wp (UR (AW cs) (some (-1)) none Q) (Q (AW (cs.drop (cs.length-1)))):=⟨λh=>FJ (by rw [ZC,List.length_map,<-List.map_drop];exact h)⟩
instance KF {cs ds:List C4}:OU (Am (AW cs) (AW ds) Q) (cs.length+ds.length<=10000) (Q (AW (cs++ds))):=⟨λc h=>Fo c h⟩
instance fN {cs:List C4} {c:C4}:OU (Am (AW cs) (.tup [cor c]) Q) (cs.length<=9000) (Q (AW (cs ++ [c]))):=⟨λk h=>Fo (ds:= [c]) (by simp;omega) h⟩
instance fM {cs:List C4} {c:C4}:OU (Am (.tup [cor c]) (AW cs) Q) (cs.length<=9000) (Q (AW (c::cs))):=⟨λk h=>Fo (cs:= [c]) (by simp;omega) h⟩
theorem cX {α:Type} {f:α->PV} {cs:List α} {k:Int} {R:PV->Prop} (c:0<=k/\k<cs.length) (h:∀c,cs[k.toNat]? =some c->c∈cs->R (f c)):MI (EE (cs.map f) k) R:=by
 have hk:k.toNat<cs.length:=by omega
 have e:EE (cs.map f) ((k.toNat:Nat):Int)=some (f cs[k.toNat]):=Ct (by rw [List.getElem?_map,List.getElem?_eq_getElem hk] <;> rfl)
 rw [show k=((k.toNat:Nat):Int) by omega,e]
 exact h _ (List.getElem?_eq_getElem hk) (List.getElem_mem hk)
instance i8 {α:Type} {f:α->PV} {cs:List α} {k:Int}:OU (Ah (.lst (cs.map f)) (.int k) Q) (0<=k/\k<cs.length) (∀c,cs[k.toNat]? =some c->c∈cs->Q (f c)):=⟨λc h=>cX c h⟩
class Lk (tb:List (Str×PV)) (s:Str) (v:outParam PV):Prop where
 e:tb.lookup s=some v
def Vo (tb:List (Str×PV)) (x:PV) (Q:PV->Prop):Prop:=match x with | .str s=>MI (tb.lookup s) Q|_=>False
instance w_tab {tb:List (Str×PV)}:Wp (Up tb ta τ Q) (ta τ λx=>Vo tb x Q):=⟨id⟩
instance fK {tb:List (Str×PV)} {k:Str} [h:Lk tb k z] :Wp (Vo tb (.str k) Q) (Q z):=⟨λq=>by show MI (tb.lookup k) Q;rw [h.e];exact q⟩
instance fE:Lk Dw "east" (.tup [.int 1, .int 0, .int 0]):=⟨rfl⟩
instance fF:Lk Dw "west" (.tup [.int (-1), .int 0, .int 0]):=⟨rfl⟩
instance cr:Lk Dw "north" (.tup [.int 0, .int 1, .int 0]):=⟨rfl⟩
instance cu:Lk Dw "south" (.tup [.int 0, .int (-1), .int 0]):=⟨rfl⟩
instance jb:Lk Dw "up" (.tup [.int 0, .int 0, .int 1]):=⟨rfl⟩
instance fD:Lk Dw "down" (.tup [.int 0, .int 0, .int (-1)]):=⟨rfl⟩
end
end PL
end
section
namespace L2
open PySem PySem.Spec PyProof.Rows
abbrev Uj (h:Heap) (T:Addr) (a b c:Value):Prop:=h.get? T=some {cls:= .type "tuple",data:= .seq #[a,b,c] }
structure nO (z TI TO i j k l m n:Addr):Prop where
 TIz:TI≠z
 TOz:TO≠z
 iz:i≠z
 jz:j≠z
 kz:k≠z
 TITO:TI≠TO
 TIi:TI≠i
 TIj:TI≠j
 TIk:TI≠k
 TOi:TO≠i
 TOj:TO≠j
 TOk:TO≠k
 ij:i≠j
 ik:i≠k
 jk:j≠k
 lo:∀x∈ [l,m,n],x≠z/\x≠TI/\x≠TO/\x≠i/\x≠j/\x≠k
structure Z3 (b c d:Bool) (z TI TO i j k l m n:Addr) (t:Nat) (f:Value) (h:Heap):Prop where
 zip:IsZip h z TI TO f
 its:Uj h TI (.ref i) (.ref j) (.ref k)
 own:∃x y w,Uj h TO x y w
 one:NO b h i l t
 two:NO c h j m t
 tre:NO d h k n t
theorem Z3.mv {b c d:Bool} {z TI TO i j k l m n:Addr} {t:Nat} {f:Value} {h h':Heap} (Z:Z3 b c d z TI TO i j k l m n t f h) (e:∀p∈ [z,TI,TO,i,j,k],∀o,h.get? p=some o->h'.get? p=some o):Z3 b c d z TI TO i j k l m n t f h':=by
 obtain ⟨a1,a2,⟨x,y,w,a3⟩,a4,a5,a6⟩:=Z
 exact ⟨e z (by simp) _ a1,e TI (by simp) _ a2,⟨x,y,w,e TO (by simp) _ a3⟩,a4.mv (e i (by simp)),a5.mv (e j (by simp)),a6.mv (e k (by simp))⟩
section
variable {prog:Program} {w:World} {A:Around} {E:Value->Shared->Prop} {s:Shared}
variable {b c d:Bool} {z TI TO i j k l m n:Addr} {t:Nat} {xs ys ws:Array Value}
end
abbrev y1 (b:Bool) (h:Heap) (l:Addr):Heap:=h.push (Wg b l)
abbrev y2 (b c:Bool) (h:Heap) (l m:Addr):Heap:=(y1 b h l).push (Wg c m)
abbrev y3 (b c d:Bool) (h:Heap) (l m n:Addr):Heap:=(y2 b c h l m).push (Wg d n)
abbrev y4 (b c d:Bool) (h:Heap) (l m n:Addr):Heap:=(y3 b c d h l m n).push {cls:= .type "tuple",data:= .seq #[.ref h.objs.size, .ref (y1 b h l).objs.size, .ref (y2 b c h l m).objs.size] }
abbrev y5 (b c d:Bool) (h:Heap) (l m n:Addr):Heap:=(y4 b c d h l m n).push {cls:= .type "tuple",data:= .seq #[.none, .none, .none] }
section
variable {prog:Program} {w:World} {A:Around} {E:Value->Shared->Prop} {s:Shared} {b c d:Bool} {l m n:Addr} {xs ys ws:Array Value}
end
section
variable {X:Cx}
end
end L2
end
section
namespace PL
open PySem PySem.Spec PyProof.Rows L2
section
variable {X:Cx}
end
end PL
end
section
namespace L2
open PySem PySem.Spec PyProof.Rows
def mV (m:Addr) (i:Int):Obj:={cls:= .type "reversed",data:= .fields #[.ref m,rawInt i] }
def Yv (h:Heap) (q m:Addr) (i:Int):Prop:=h.get? q=some (mV m i)
section
variable {prog:Program} {w:World} {A:Around} {E:Value->Shared->Prop} {s:Shared}
theorem Yv.typeIs {q m:Addr} {i:Int} (x:Yv s.heap q m i):s.TypeIs (.ref q) "reversed" :=⟨_,x,rfl⟩
end
section
variable {prog:Program} {w:World} {A:Around} {E:Value->Shared->Prop} {s:Shared}
end
structure ZR (z TI TO i j l m:Addr) (n:Nat) (k:Nat) (f:Value) (h:Heap):Prop where
 zip:IsZip h z TI TO f
 its:IsPair h TI (.ref i) (.ref j)
 own:∃x y,IsPair h TO x y
 one:NO false h i l k
 two:Yv h j m ((n:Int)-1-k)
theorem ZR.mv {z TI TO i j l m:Addr} {n k:Nat} {f:Value} {h h':Heap} (Z:ZR z TI TO i j l m n k f h) (e:∀p∈ [z,TI,TO,i,j],∀o,h.get? p=some o->h'.get? p=some o):ZR z TI TO i j l m n k f h':=by
 obtain ⟨a1,a2,⟨x,y,a3⟩,a4,a5⟩:=Z
 exact ⟨e z (by simp) _ a1,e TI (by simp) _ a2,⟨x,y,e TO (by simp) _ a3⟩,a4.mv (e i (by simp)),e j (by simp) _ a5⟩
section
variable {prog:Program} {w:World} {A:Around} {E:Value->Shared->Prop} {s:Shared}
variable {z TI TO i j l m:Addr} {k:Nat} {xs ys:Array Value}
end
section
variable {prog:Program} {w:World} {A:Around} {E:Value->Shared->Prop} {s:Shared} {l m r:Addr} {xs:Array Value} {n:Nat}
end
section
variable {X:Cx}
end
end L2
end
section
namespace PL
open PySem PySem.Spec PyProof.Rows L2
section
variable {X:Cx}
end
end PL
end
section
namespace L2
open PySem PySem.Spec PyProof.Rows
section
variable {X:Cx}
def isStr:Kd->Bool | .str=>true|_=>false
end
end L2
namespace PL
open PySem PySem.Spec PyProof.Rows L2
section
variable {X:Cx}
def Zv (x:PV) (Q:PV->Prop):Prop:=match kdOf x with | some k=>Q (.bl (isStr k))|none=>False
end
end PL
end
section
namespace L2
open PySem PySem.Spec PyProof.Rows
def Y9 (X:Cx) (sc:Scope) (N:List Str) (y0:Str) (cl:List (Str×Addr)) (C:Addr) (s:Shared) (H:Hp) (ex:List Addr) (pn:List (Addr×Obj)):Cx:=
 {blk X sc N ((y0,C+1)::cl) C s H ex pn with fn:=λx=>x==y0}
section
variable {X:Cx} {pins:List (Addr×Obj)} {σ:St} {H:Hp} {s:Shared} {fp:List Addr} {sc:Scope} {N:List Str} {cl:List (Str×Addr)} {y0:Str}
end
section
variable {X:Cx} {tg elt iter:Expr} {ifs:List Expr} {scope:Scope} {pos:Pos} {wi:TI} {own:Nat} {ix:List Nat} {N:List Str} {y0:Str} {g:TG} {tt:TT} {te:TE}
structure Ws (X:Cx) (tg elt:Expr) (ifs:List Expr) (scope:Scope) (own:Nat) (ix:List Nat) (N:List Str) (y0:Str) (g:TG) (tt:TT) (te:TE):Prop where
 kind:scope.kind= .function
 cells:∀y∈scope.names,y.2= .cell->y.1=y0
 cf:∀n acc,cellsFrom n scope.names acc=(y0,n)::acc
 pc:∀h,pushCells h scope.names=h.push {cls:= .type "cell",data:= .cell none}
 far:∀(j i:Nat) (x:Str),ix[j]? =some i->N[own+j]? =some x->x≠y0
 names:∀y∈scope.names,y.2= .local->scope.names.lookup y.1=some .local
 frees:∀y∈scope.names,y.2= .free->X.env.scope.names.lookup y.1=some .cell
 ins:O6 X (relabel scope X.env) own ix N
 keep:GN own g
 tgt:∀cl C s H ex pn,PG (Y9 X (relabel scope X.env) N y0 cl C s H ex pn) tg g
 tst:∀cl C s H ex pn,Wb (Y9 X (relabel scope X.env) N y0 cl C s H ex pn) ifs tt
 val:∀cl C s H ex pn,PE (Y9 X (relabel scope X.env) N y0 cl C s H ex pn) elt te
end
end L2
end
section
namespace PL
open PySem PySem.Spec PyProof.Rows L2
section
variable {X:Cx} {ta:AE} {pos:Pos}
structure fV (X:Cx) (tg elt:Expr) (ifs:List Expr) (scope:Scope) (own:Nat) (ix:List Nat) (N:List Str) (y0:Str) (g:AG) (t:AT) (te:AE):Prop where
 ex:∃g' t' te',Ws X tg elt ifs scope own ix N y0 g' t' te'/\Jc X.K g' g/\L5 X.K t' t/\HL X.K te' te
end
end PL
end
section
namespace L2
open PySem PySem.Spec PyProof.Rows
section
variable {X:Cx}
end
end L2
namespace PL
open PySem PySem.Spec PyProof.Rows L2
section
variable {X:Cx}
end
end PL
end
section
namespace PL
open PySem L2 PyProof.Rows
class Um (Ts:List String):Prop where
 q:Ts.any (To .tup)=true/\Ts.any (To .lst)=true/\Ts.any (To .int)=false/\Ts.any (To .bl)=false/\Ts.any (To .non)=false/\Ts.any (To .str)=false
instance:Um ["tuple","list"] :=⟨by decide⟩
instance:Um ["list","tuple"] :=⟨by decide⟩
section
variable {Ts:List String} [h:Um Ts] {Q:PV->Prop} {xs:List PV}
end
end PL
end
section
namespace L2
open PySem PySem.Spec PyProof.Rows
section
variable {κ:Type} [DecidableEq κ]
def GK (kvs:List (κ×V)) (k:κ):Option V:=(kvs.find? λkv=>decide (kv.1=k)).map (·.2)
def GI (kvs:List (κ×V)) (k:κ) (v:V):List (κ×V):=
 if (kvs.any λkv=>decide (kv.1=k))=true then kvs.map (λkv=>if kv.1=k then (kv.1,v) else kv) else kvs ++ [(k,v)]
def YV (kvs:List (κ×V)) (k:κ):List (κ×V):=kvs.filter λkv=>decide (kv.1≠k)
theorem IJ {p:κ×V} {r:List (κ×V)} {k:κ} (e:p.1=k):GK (p::r) k=some p.2:=by simp [GK,List.find?_cons,e]
theorem II {p:κ×V} {r:List (κ×V)} {k:κ} (e:¬p.1=k):GK (p::r) k=GK r k:=by simp [GK,List.find?_cons,e]
theorem Lv (k:κ):∀kvs:List (κ×V),(kvs.any λkv=>decide (kv.1=k))=(GK kvs k).isSome
 | [] =>rfl
 | p::r=>by
   rw [List.any_cons]
   by_cases e:p.1=k
   ·simp only [IJ e,decide_eq_true e,Bool.true_or,Option.isSome_some]
   ·rw [II e,decide_eq_false e,Bool.false_or];exact Lv k r
theorem Pf (kvs:List (κ×V)) (k:κ) (v:V):(GI kvs k v).length<=kvs.length+1:=by
 unfold GI
 split
 ·rw [List.length_map];omega
 ·rw [List.length_append,List.length_cons,List.length_nil];omega
theorem Ib.isSome_eq {o:Option V} {u:Option Value} (r:Ib o u):o.isSome=u.isSome:=by
 cases o with
 | none=>cases u with
   | none=>rfl
   | some _=>exact (show False from r).elim
 | some _=>cases u with
   | none=>exact (show False from r).elim
   | some _=>rfl
theorem Ib.getD {o:Option V} {u:Option Value} {d:V} {d':Value} (r:Ib o u) (rd:RelV d d'):RelV (o.getD d) (u.getD d'):=by
 cases o with
 | none=>cases u with
   | none=>exact rd
   | some _=>exact (show False from r).elim
 | some _=>cases u with
   | none=>exact (show False from r).elim
   | some _=>exact r
theorem KV.val {kvs:List (κ×V)} {vs:List (κ×Value)} (r:KV kvs vs) (k:κ):Ib (GK kvs k) (valueAt vs k):=by
 unfold KV at r
 induction r with
 | nil=>exact True.intro
 | @cons p q ps qs h t ih=>
   obtain ⟨h1,h2⟩:=h
   by_cases e:p.1=k
   ·have e':q.1=k:=h1.symm.trans e
    have b:valueAt (q::qs) k=some q.2:=by simp [valueAt,List.find?_cons,e']
    rw [IJ e,b];exact h2
   ·have e':¬q.1=k:=λz=>e (h1.trans z)
    have b:valueAt (q::qs) k=valueAt qs k:=by simp [valueAt,List.find?_cons,e']
    rw [II e,b];exact ih
theorem KV.any {kvs:List (κ×V)} {vs:List (κ×Value)} (r:KV kvs vs) (k:κ):(kvs.any λkv=>decide (kv.1=k))=vs.any λkv=>decide (kv.1=k):=by
 unfold KV at r
 induction r with
 | nil=>rfl
 | cons h t ih=>rw [List.any_cons,List.any_cons,ih,h.1]
theorem KV.repl {kvs:List (κ×V)} {vs:List (κ×Value)} (r:KV kvs vs) (k:κ) {y:V} {u:Value} (ry:RelV y u):
 KV (kvs.map λkv=>if kv.1=k then (kv.1,y) else kv) (vs.map λkv=>if kv.1=k then (kv.1,u) else kv):=by
 unfold KV at r ⊢
 induction r with
 | nil=>exact .nil
 | @cons p q ps qs h t ih=>
   rw [List.map_cons,List.map_cons]
   refine .cons ?_ ih
   obtain ⟨h1,h2⟩:=h
   by_cases e:p.1=k
   ·rw [if_pos e,if_pos (h1.symm.trans e)];exact ⟨h1,ry⟩
   ·rw [if_neg e,if_neg (λz=>e (h1.trans z))];exact ⟨h1,h2⟩
theorem KV.put {kvs:List (κ×V)} {vs:List (κ×Value)} (r:KV kvs vs) (k:κ) {y:V} {u:Value} (ry:RelV y u):KV (GI kvs k y) (stored vs k u):=by
 unfold GI stored
 rw [r.any k]
 by_cases e:(vs.any λkv=>decide (kv.1=k))=true
 ·rw [if_pos e,if_pos e];exact r.repl k ry
 ·rw [if_neg e,if_neg e];exact Paired.snoc r ⟨rfl,ry⟩
theorem KV.drop {kvs:List (κ×V)} {vs:List (κ×Value)} (r:KV kvs vs) (k:κ):KV (YV kvs k) (without vs k):=by
 unfold KV at r ⊢
 unfold YV without
 induction r with
 | nil=>exact .nil
 | @cons p q ps qs h t ih=>
   obtain ⟨h1,h2⟩:=h
   rw [List.filter_cons,List.filter_cons]
   by_cases e:p.1=k
   ·have a:¬decide (p.1≠k)=true:=by simp [e]
    have b:¬decide (q.1≠k)=true:=by simp [h1.symm.trans e]
    rw [if_neg a,if_neg b];exact ih
   ·have e':¬q.1=k:=λz=>e (h1.trans z)
    have a:decide (p.1≠k)=true:=by simp [e]
    have b:decide (q.1≠k)=true:=by simp [e']
    rw [if_pos a,if_pos b];exact .cons ⟨h1,h2⟩ ih
theorem KV.keys {kvs:List (κ×V)} {vs:List (κ×Value)} (r:KV kvs vs):kvs.map (·.1)=vs.map (·.1):=by
 unfold KV at r
 induction r with
 | nil=>rfl
 | cons h t ih=>rw [List.map_cons,List.map_cons,ih,h.1]
theorem KV.length {kvs:List (κ×V)} {vs:List (κ×Value)} (r:KV kvs vs):kvs.length=vs.length:=Paired.length r
end
theorem VZ {P:Program} {w:World} {k:C5} {u:Value} (r:RelV (kV k) u):(CF P w).is k u=true:=by
 cases k with
 | inl i=>obtain ⟨t,e⟩:=(show ∃t,u=Value.int i t from r);subst e;exact Pi P w i t
 | inr x=>obtain ⟨t,e⟩:=(show ∃t,u=Value.str x t from r);subst e;exact Pj P w x t
theorem Mb {P:Program} {w:World}:∀{ks:List C5} {us:List Value},Aq (ks.map kV) us->ItemsAre (CF P w) ks us
 | [],_,r=>by rw [List.map_nil] at r;cases r;exact .nil
 | k::ks,_,r=>by
   rw [List.map_cons] at r
   cases r with
   | cons h t=>exact .cons (VZ h) (Mb t)
abbrev KT (H:Hp):List (List C5×V)->List (List C5×Addr×Value)->Prop:=Paired λp q=>p.1=q.1/\H q.2.1=some (.tup (p.1.map kV))/\RelV p.2 q.2.2
theorem KT.val {H:Hp} {kvs:List (List C5×V)} {xs:List (List C5×Addr×Value)} (r:KT H kvs xs) (k:List C5):Ib (GK kvs k) ((atKey xs k).map (·.2)):=by
 induction r with
 | nil=>exact True.intro
 | @cons p q ps qs h t ih=>
   obtain ⟨h1,_,h2⟩:=h
   by_cases e:p.1=k
   ·have e':q.1=k:=h1.symm.trans e
    have b:atKey (q::qs) k=some q.2:=by simp [atKey,List.find?_cons,e']
    rw [IJ e,b];exact h2
   ·have e':¬q.1=k:=λz=>e (h1.trans z)
    have b:atKey (q::qs) k=atKey qs k:=by simp [atKey,List.find?_cons,e']
    rw [II e,b];exact ih
theorem KT.repl {H:Hp} {kvs:List (List C5×V)} {xs:List (List C5×Addr×Value)} (r:KT H kvs xs) (k:List C5) {y:V} {u:Value} (ry:RelV y u):
 KT H (kvs.map λkv=>if kv.1=k then (kv.1,y) else kv) (xs.map (putAt k u)):=by
 induction r with
 | nil=>exact .nil
 | @cons p q ps qs h t ih=>
   rw [List.map_cons,List.map_cons]
   refine .cons ?_ ih
   obtain ⟨h1,h2,h3⟩:=h
   unfold putAt
   by_cases e:p.1=k
   ·rw [if_pos e,if_pos (h1.symm.trans e)];exact ⟨h1,h2,ry⟩
   ·rw [if_neg e,if_neg (λz=>e (h1.trans z))];exact ⟨h1,h2,h3⟩
theorem KT.put {H:Hp} {kvs:List (List C5×V)} {xs:List (List C5×Addr×Value)} (r:KT H kvs xs) (k:List C5) {b:Addr} {y:V} {u:Value} (hb:H b=some (.tup (k.map kV))) (ry:RelV y u):
 KT H (GI kvs k y) (storedH xs k b u):=by
 have e:(kvs.any λkv=>decide (kv.1=k))=(atKey xs k).isSome:=by
  rw [Lv,(r.val k).isSome_eq,Option.isSome_map]
 unfold GI storedH
 rw [e]
 by_cases q:(atKey xs k).isSome=true
 ·rw [if_pos q,if_pos q];exact r.repl k ry
 ·rw [if_neg q,if_neg q];exact Paired.snoc r ⟨rfl,hb,ry⟩
theorem KT.keeps {H H':Hp} {kvs:List (List C5×V)} {xs:List (List C5×Addr×Value)} (r:KT H kvs xs) (ht:∀b ys,H b=some (.tup ys)->H' b=some (.tup ys)):KT H' kvs xs:=
 Paired.mapP r λ_ _ z=>⟨z.1,ht _ _ z.2.1,z.2.2⟩
section
variable {P:Program} {w:World} {H:Hp} {h:Heap} {a:Addr}
theorem Yi {u:HO} (ok:IM P w H h) (e:Rd H a u):Cm P w H h a u:=e.ok ok
theorem Uy {kvs:List (C5×V)} (ok:IM P w H h) (e:Rd H a (.dK kvs)):kvs.length<=sizeLine/\(a==sysModules)=false/\∃vs,KV kvs vs/\h.DictOf (CF P w) a vs:=
 show Cm P w H h a (.dK kvs) from Yi ok e
theorem cB {kvs:List (C5×V)} (ok:IM P w H h) (e:H a=some (.dK kvs)):kvs.length<=sizeLine/\(a==sysModules)=false/\∃vs,KV kvs vs/\h.DictOf (CF P w) a vs:=Uy ok (.inl e)
theorem Vb {ks:List C5} (ok:IM P w H h) (e:H a=some (.tup (ks.map kV))):(tupleKind (CF P w)).is h ks a:=by
 obtain ⟨_,its,r,o,h1,h2,n,h3⟩:=(show Cm P w H h a (.tup (ks.map kV)) from ok a _ e)
 exact ⟨o,its.toArray,n,h1,h2,h3,by simpa using Mb r⟩
theorem YW {kvs:List (List C5×V)} (ok:IM P w H h) (e:Rd H a (.dT kvs)):kvs.length<=sizeLine/\(a==sysModules)=false/\
 ∃xs,KT H kvs xs/\h.DictOfH (tupleKind (CF P w)) a xs:=by
 obtain ⟨z,y,xs,r,o,es,ep,h1,h2,h3,h4,h5⟩:=(show Cm P w H h a (.dT kvs) from Yi ok e)
 refine ⟨z,y,xs,r,o,es,ep,h1,h2,h3,h4,λx hx=> ?_,h5⟩
 have all:∀{l:List (List C5×V)} {m:List (List C5×Addr×Value)},KT H l m->∀x∈m,(tupleKind (CF P w)).is h x.1 x.2.1:=by
  intro l m q
  induction q with
  | nil=>intro x hx;exact nomatch hx
  | @cons p q ps qs hq t ih=>
    intro x hx
    rcases List.mem_cons.mp hx with e|hx
    ·subst e
     exact Vb ok (by rw [<-hq.1];exact hq.2.1)
    ·exact ih x hx
 exact all r x hx
end
def QQ (H:Hp) (a:Addr) (y:V) (r:Option V):Prop:=
 (∃kvs k,Rd H a (.dK kvs)/\y=kV k/\r=GK kvs k)\/∃kvs k b,Rd H a (.dT kvs)/\y= .ref b/\H b=some (.tup (k.map kV))/\r=GK kvs k
def Wt (H:Hp) (a:Addr) (y v:V) (H':Hp):Prop:=
 (∃kvs k,H a=some (.dK kvs)/\y=kV k/\kvs.length<sizeLine/\H'=upd H a (.dK (GI kvs k v)))\/
 ∃kvs k b,H a=some (.dT kvs)/\y= .ref b/\H b=some (.tup (k.map kV))/\kvs.length<sizeLine/\H'=upd H a (.dT (GI kvs k v))
theorem QQ.k {H:Hp} {a:Addr} {kvs:List (C5×V)} {k:C5} (e:H a=some (.dK kvs)):QQ H a (kV k) (GK kvs k):= .inl ⟨kvs,k, .inl e,rfl,rfl⟩
theorem QQ.t {H:Hp} {a b:Addr} {kvs:List (List C5×V)} {k:List C5} (e:H a=some (.dT kvs)) (eb:H b=some (.tup (k.map kV))):QQ H a (.ref b) (GK kvs k):= .inr ⟨kvs,k,b, .inl e,rfl,eb,rfl⟩
theorem Wt.k {H:Hp} {a:Addr} {kvs:List (C5×V)} {k:C5} {v:V} (e:H a=some (.dK kvs)) (hl:kvs.length<sizeLine):Wt H a (kV k) v (upd H a (.dK (GI kvs k v))):= .inl ⟨kvs,k,e,rfl,hl,rfl⟩
theorem Wt.t {H:Hp} {a b:Addr} {kvs:List (List C5×V)} {k:List C5} {v:V} (e:H a=some (.dT kvs)) (eb:H b=some (.tup (k.map kV))) (hl:kvs.length<sizeLine):
 Wt H a (.ref b) v (upd H a (.dT (GI kvs k v))):= .inr ⟨kvs,k,b,e,rfl,eb,hl,rfl⟩
section
variable {X:Cx} {pins:List (Addr×Obj)} {σ:St} {H:Hp} {s:Shared} {a:Addr} {y v:V} {u r:Value} {o:Option V} {A:Around} {E:Value->Shared->Prop}
theorem Inv.big (I:Inv X pins σ H s):sysModules<s.heap.objs.size:=by
 have h:mainGlobals<s.heap.objs.size:=(I.mod.glob.keeps I.bk).lt
 exact Nat.lt_trans (by decide) h
theorem TY {Q:Value->Shared->Prop} (hu:A.units+1<cLine) (I:Inv X pins σ H s) (g:QQ H a y (some v)) (ry:RelV y u) (h:∀w' s',Inv X pins σ H s'->RelV v w'->Q w' s'):
 wpAny (model X.prog X.w) A (getItem (.ref a) u) Q E s:=by
 rcases g with ⟨kvs,k,e,ey,l⟩|⟨kvs,k,b,e,ey,eb,l⟩
 ·subst ey
  obtain ⟨z,hd,vs,rel,dd⟩:=Uy I.hok e
  obtain ⟨w',hw,rw'⟩:=Ib.some_of (v:=v) (o:=valueAt vs k) (by rw [l];exact rel.val k)
  exact wpAny_getItem_of (VZ ry) dd.mapOf hw (h w' _ (I.tok _) rw')
 ·subst ey
  cases (show u=Value.ref b from ry)
  obtain ⟨z,hd,xs,rel,dd⟩:=YW I.hok e
  obtain ⟨w',hw,rw'⟩:=Ib.some_of (v:=v) (o:=(atKey xs k).map (·.2)) (by rw [l];exact rel.val k)
  obtain ⟨p,hp,mI⟩:=Option.map_eq_some_iff.mp hw
  refine wpAny_getItem_heap (tupleKind_room_in1 hu) (Vb I.hok eb) dd hp ?_
  rw [mI]
  exact h w' _ (I.tok _) rw'
theorem XA {h':Heap} {t':Nat} {ob:HO} (I:Inv X pins σ H s) (mu:bV (H a)) (hs:Heap.SameBut a s.heap h') (he:∃q,h'.get? a=some q) (new:Cm X.prog X.w (upd H a ob) h' a ob):
 Inv X pins σ (upd H a ob) {s with heap:=h',toks:=t'}:=
 I.write (x:=a) (e:=a) mu (.inl rfl) (λb q hb z=>(hs.2 b hb).trans z) he new
theorem ZF {P:Program} {w:World} {H':Hp} {h':Heap} {kvs:List (C5×V)} {vs:List (C5×Value)} (z:kvs.length<=sizeLine) (hd:(a==sysModules)=false) (rel:KV kvs vs) (dd:h'.DictOf (CF P w) a vs):
 Cm P w H' h' a (.dK kvs):=⟨z,hd,vs,rel,dd⟩
end
section
variable {X:Cx} {pins:List (Addr×Obj)} {σ:St} {H:Hp} {s:Shared} {a:Addr} {kvs:List (C5×V)} {k:C5} {u:Value} {A:Around} {E:Value->Shared->Prop}
end
def Yw (i:Expr):Prop:=∀ov iv,subscripted i false ov iv=operate [ov,iv] (getItem ov iv)
theorem YM {prog:Program} {w:World} {A:Around} {E:Value->Shared->Prop} {s:Shared} {env:Env} {value slice:Expr} {pos:Pos} {T id:String} {Q:Value->Shared->Prop}
 (hl:typeLookup (.type T) "__getitem__" =pure (some (.builtin id))) (hs:Yw slice)
 (h:wpAny (model prog w) A (eval value env) (λo s₁=>wpAny (model prog w) A (eval slice env) (λi s₂=>s₂.TypeIs o T/\wpAny (model prog w) A (getItem o i) Q E s₂) E s₁) E s):
 wpAny (model prog w) A (eval (.Subscript value slice pos) env) Q E s:=by
 refine Subscript_ (wpAny_mono h (λo s₁ h₁=>wpAny_mono h₁ (λi s₂ h₂=> ?_) λ_ _ x=>x) λ_ _ x=>x)
 obtain ⟨hT,h₂⟩:=h₂
 unfold subscriptTail
 refine wpAny_bind ?_
 rw [getitemInPython_of_ne hT.not_modules]
 refine wpAny_bind (wpAny_specialOf hT hl ?_)
 have fin:wpAny (model prog w) A (subscripted slice false o i) (λr s₃=>wpAny (model prog w) A (letTemporaryGo value o r >>= λ_=>pure r) Q E s₃) E s₂:=by
  rw [hs o i]
  exact wpAny_operating (wpAny_mono h₂ (λr s₃ h₃=>wpAny_bind (wpAny_letTemporaryGo (wpAny_pure h₃))) λ_ _ x=>x)
 first
  | exact wpAny_pure (wpAny_bind fin)
  | exact wpAny_bind (wpAny_pure (wpAny_bind fin))
  | exact wpAny_bind fin
theorem PJ {X:Cx} {pins:List (Addr×Obj)} {σ:St} {H:Hp} {s:Shared} {a:Addr} {y:V} {o:Option V} (I:Inv X pins σ H s) (g:QQ H a y o):s.TypeIs (.ref a) "dict" :=by
 rcases g with ⟨kvs,k,e,_,_⟩|⟨kvs,k,b,e,_,_,_⟩
 ·obtain ⟨_,_,vs,_,dd⟩:=Uy I.hok e
  exact dd.typeIs
 ·obtain ⟨_,_,xs,_,dd⟩:=YW I.hok e
  exact dd.typeIs
def dk (td ty:TE):TE:=λσ H Q=>td σ H λx H1=>ty σ H1 λy H2=>∃a v,x= .ref a/\QQ H2 a y (some v)/\Q v H2
section
variable {X:Cx} {o i e value:Expr} {pos pos' tpos:Pos} {td ty tv:TE}
theorem Xw (hu:X.A.units+1<cLine) (ho:PE X o td) (hi:PE X i ty) (hs:Yw i):PE X (.Subscript o i pos) (dk td ty):=by
 intro pins s σ H Q I h
 refine YM PySem.F.slot_dict_getitem.lookup hs (Cd (ho pins s σ H _ I h) λu s1 ⟨x,H1,I1,rx,q1⟩=>Cd (hi pins s1 σ H1 _ I1 q1) λiv s2 ⟨y,H2,I2,ry,a,v,ex,g,q2⟩=> ?_)
 subst ex
 obtain rfl:u=Value.ref a:=rx
 exact ⟨PJ I2 g,TY hu I2 g ry λw' s3 I3 rw'=>⟨v,H2,I3,rw',q2⟩⟩
end
theorem Ux {P:Program} {w:World} {H:Hp} (h:Heap) (hb:sysModules<h.objs.size):Cm P w H (h.push {cls:= .type "dict",data:= .dict #[] }) h.objs.size (.dK []):=
 ⟨Nat.zero_le _,beq_eq_false_iff_ne.mpr (Ne.symm (Nat.ne_of_lt hb)), [], .nil,Heap.DictOf.new h⟩
section
variable {X:Cx} {pos:Pos}
end
def OP:List (TE×TE)->St->Hp->(List (V×V)->Hp->Prop)->Prop
 | [],_,H,Q=>Q [] H
 | (tk,tv)::r,σ,H,Q=>tk σ H λx H1=>tv σ H1 λy H2=>OP r σ H2 λps H3=>Q ((x,y)::ps) H3
abbrev VV:List (V×V)->List (Value×Value)->Prop:=Paired λp q=>RelV p.1 q.1/\RelV p.2 q.2
def bW (X:Cx) (pos:Pos) (keys:List (Option Expr)) (values:List Expr) (trs:List (TE×TE)):Prop:=
 ∀(pins:List (Addr×Obj)) (s:Shared) (σ:St) (H:Hp) (Q:List (V×V)->Hp->Prop),Inv X pins σ H s->OP trs σ H Q->
  wpAny (model X.prog X.w) X.A (evalPairs (pairTrees keys values X.env pos)) (λvs s'=>∃ps H',Inv X pins σ H' s'/\VV ps vs/\Q ps H') X.xe s
theorem X4 {X:Cx} {pos:Pos}:bW X pos [] [] [] :=λpins s σ H Q I h=>pairTrees_nil_walk ⟨[],H,I, .nil,h⟩
theorem Ev {X:Cx} {pos:Pos} {k v:Expr} {ks:List (Option Expr)} {vs:List Expr} {tk tv:TE} {trs:List (TE×TE)} (hk:PE X k tk) (hv:PE X v tv) (hr:bW X pos ks vs trs):
 bW X pos (some k::ks) (v::vs) ((tk,tv)::trs):=λpins s σ H Q I h=>
 pairTrees_cons_walk (Cd (hk pins s σ H _ I h) λu s1 ⟨x,H1,I1,rx,q1⟩=>Cd (hv pins s1 σ H1 _ I1 q1) λw2 s2 ⟨y,H2,I2,ry,q2⟩=>
  Cd (hr pins s2 σ H2 _ I2 q2) λws s3 ⟨ps,H3,I3,rel,q3⟩=>⟨(x,y)::ps,H3,I3, .cons ⟨rx,ry⟩ rel,q3⟩)
def Ih (kvs more:List (C5×V)):List (C5×V):=more.foldl (λacc kv=>GI acc kv.1 kv.2) kvs
theorem KV.merge:∀{more:List (C5×V)} {rs:List (C5×Value)} {kvs:List (C5×V)} {vs:List (C5×Value)},KV more rs->KV kvs vs->KV (Ih kvs more) (merged vs rs):=by
 intro more rs kvs vs r
 unfold KV at r
 induction r generalizing kvs vs with
 | nil=>intro q;exact q
 | @cons p q ps qs h t ih=>
   intro r0
   have e:KV (GI kvs p.1 p.2) (stored vs q.1 q.2):=by
    have:=r0.put p.1 h.2
    rw [<-h.1];exact this
   exact ih e
theorem GR:∀(more kvs:List (C5×V)),(Ih kvs more).length<=kvs.length+more.length
 | [],kvs=>by show kvs.length<=kvs.length+0;omega
 | p::r,kvs=>by
   have h1:=GR r (GI kvs p.1 p.2)
   have h2:=Pf kvs p.1 p.2
   show (Ih (GI kvs p.1 p.2) r).length<=_
   rw [List.length_cons];omega
theorem K9 {P:Program} {w:World}:∀{kvs:List (C5×V)} {ws:List (Value×Value)},VV (kvs.map λkv=>(kV kv.1,kv.2)) ws->∃rs,Carries (CF P w) ws rs/\KV kvs rs
 | [],_,r=>by rw [List.map_nil] at r;cases r;exact ⟨[],True.intro, .nil⟩
 | p::kvs,_,r=>by
   rw [List.map_cons] at r
   cases r with
   | @cons a b as bs h t=>
     obtain ⟨rs,c,q⟩:=K9 (P:=P) (w:=w) t
     obtain ⟨b1,b2⟩:=b
     exact ⟨(p.1,b2)::rs,⟨VZ h.1,rfl,c⟩, .cons ⟨rfl,h.2⟩ q⟩
def dm (trs:List (TE×TE)):TE:=λσ H Q=>∀p,H p=none->OP trs σ (upd H p (.dK [])) λps H2=>H2 p=some (.dK [])/\∃kvs:List (C5×V),ps=kvs.map (λkv=>(kV kv.1,kv.2))/\kvs.length<=15/\Q (.ref p) (upd H2 p (.dK (Ih [] kvs)))
theorem Xx {X:Cx} {pos:Pos} {keys:List (Option Expr)} {values:List Expr} {trs:List (TE×TE)} (h:bW X pos keys values trs) (MA:keys.all (·.isSome)=true) (hl:keys.length=values.length) (h0:keys≠ [])
 (gG:keys.length<=15):PE X (.Dict keys values pos) (dm trs):=by
 intro pins s σ H Q I q
 have hn:=I.hok.fresh (Nat.le_refl s.heap.objs.size)
 have I1:=I.laid (a:=s.heap.objs.size) (o:= .dK []) (h':=s.heap.push {cls:= .type "dict",data:= .dict #[] }) (t':=s.toks) (λ_ _ q=>Heap.get?_push_of_some _ q) (Nat.le_refl _) (Ux s.heap I.big)
 refine wpAny_Dict_walk (knd:=CF X.prog X.w) MA hl h0 gG (Cd (h pins _ σ _ _ I1 (q _ hn)) λws s2 ⟨ps,H2,I2,rel,e,kvs,ep,lk,q2⟩=> ?_)
 subst ep
 obtain ⟨rs,c,rk⟩:=K9 (P:=X.prog) (w:=X.w) rel
 obtain ⟨z,hd,vs0,r0,dd⟩:=cB I2.hok e
 cases r0
 refine ⟨rs,c,dd,λh' dd' hs=>⟨.ref s.heap.objs.size,_, ?_,rfl,q2⟩⟩
 have hz:(Ih [] kvs).length<=sizeLine:=by
  have h1:=GR kvs []
  rw [List.length_nil] at h1
  rw [sizeLine_eq];omega
 have he:∃q,h'.get? s.heap.objs.size=some q:=let ⟨q,_,_,hq,_⟩:=dd';⟨q,hq⟩
 exact XA I2 (by rw [e];exact True.intro) hs he (ZF hz hd (rk.merge .nil) dd')
structure M1 (X:Cx) (o:Expr) (m:Str) (apos:Pos) (e:Expr) (cpos:Pos):Prop where
 base:attributeBase o m X.env (eval o X.env)=eval o X.env
 few:((backTo cpos (starEach [e] X.env)).all (λx=> !x.1)&&(backToKw cpos (keywordEach [] X.env)).all (λx=>x.1.isSome)
  && decide (([e] :List Expr).length+([] :List Keyword).length+(if ([] :List Keyword).isEmpty then 0 else 1)<30))=true
 line:(apos.endLine==cpos.line)=true
 trees:backTo cpos (starEach [e] X.env)= [(false,eval e X.env)]
structure M2 (X:Cx) (o:Expr) (m:Str) (apos:Pos) (e f:Expr) (cpos:Pos):Prop where
 base:attributeBase o m X.env (eval o X.env)=eval o X.env
 few:((backTo cpos (starEach [e,f] X.env)).all (λx=> !x.1)&&(backToKw cpos (keywordEach [] X.env)).all (λx=>x.1.isSome)
  && decide (([e,f] :List Expr).length+([] :List Keyword).length+(if ([] :List Keyword).isEmpty then 0 else 1)<30))=true
 line:(apos.endLine==cpos.line)=true
 trees:backTo cpos (starEach [e,f] X.env)= [(false,eval e X.env),(false,eval f X.env)]
section
variable {X:Cx} {pins:List (Addr×Obj)} {σ:St} {H:Hp} {s:Shared} {a:Addr} {y d:V} {u r:Value} {o:Option V} {A:Around} {E:Value->Shared->Prop}
end
section
variable {X:Cx} {o e f:Expr} {apos cpos:Pos} {td ty tx:TE}
end
section
variable {X:Cx} {pins:List (Addr×Obj)} {σ:St} {H:Hp} {s:Shared} {a:Addr} {kvs:List (C5×V)} {A:Around} {E:Value->Shared->Prop}
end
section
variable {X:Cx} {pins:List (Addr×Obj)} {σ:St} {H:Hp} {s:Shared} {a:Addr} {y:V} {u:Value} {A:Around} {E:Value->Shared->Prop}
end
end L2
end
section
namespace L2
open PySem PySem.Spec PyProof.Rows
abbrev KN (K:PySem.W.Frag) (H:Hp):List (FK×V)->List (FK×Addr×Value)->Prop:=Paired λp q=>p.1=q.1/\TC K H q.2.1 p.1/\RelV p.2 q.2.2
theorem KN.val {K:PySem.W.Frag} {H:Hp} {kvs:List (FK×V)} {xs:List (FK×Addr×Value)} (r:KN K H kvs xs) (k:FK):Ib (GK kvs k) ((atKey xs k).map (·.2)):=by
 induction r with
 | nil=>exact True.intro
 | @cons p q ps qs h t ih=>
   obtain ⟨h1,_,h2⟩:=h
   by_cases e:p.1=k
   ·have e':q.1=k:=h1.symm.trans e
    have b:atKey (q::qs) k=some q.2:=by simp [atKey,List.find?_cons,e']
    rw [IJ e,b];exact h2
   ·have e':¬q.1=k:=λz=>e (h1.trans z)
    have b:atKey (q::qs) k=atKey qs k:=by simp [atKey,List.find?_cons,e']
    rw [II e,b];exact ih
theorem KN.repl {K:PySem.W.Frag} {H:Hp} {kvs:List (FK×V)} {xs:List (FK×Addr×Value)} (r:KN K H kvs xs) (k:FK) {y:V} {u:Value} (ry:RelV y u):
 KN K H (kvs.map λkv=>if kv.1=k then (kv.1,y) else kv) (xs.map (putAt k u)):=by
 induction r with
 | nil=>exact .nil
 | @cons p q ps qs h t ih=>
   rw [List.map_cons,List.map_cons]
   refine .cons ?_ ih
   obtain ⟨h1,h2,h3⟩:=h
   unfold putAt
   by_cases e:p.1=k
   ·rw [if_pos e,if_pos (h1.symm.trans e)];exact ⟨h1,h2,ry⟩
   ·rw [if_neg e,if_neg (λz=>e (h1.trans z))];exact ⟨h1,h2,h3⟩
theorem KN.put {K:PySem.W.Frag} {H:Hp} {kvs:List (FK×V)} {xs:List (FK×Addr×Value)} (r:KN K H kvs xs) (k:FK) {b:Addr} {y:V} {u:Value} (hb:TC K H b k) (ry:RelV y u):
 KN K H (GI kvs k y) (storedH xs k b u):=by
 have e:(kvs.any λkv=>decide (kv.1=k))=(atKey xs k).isSome:=by
  rw [Lv,(r.val k).isSome_eq,Option.isSome_map]
 unfold GI storedH
 rw [e]
 by_cases q:(atKey xs k).isSome=true
 ·rw [if_pos q,if_pos q];exact r.repl k ry
 ·rw [if_neg q,if_neg q];exact Paired.snoc r ⟨rfl,hb,ry⟩
theorem KN.keeps {K:PySem.W.Frag} {H H':Hp} {kvs:List (FK×V)} {xs:List (FK×Addr×Value)} (r:KN K H kvs xs) (ht:∀b ys,H b=some (.tup ys)->H' b=some (.tup ys)):KN K H' kvs xs:=
 Paired.mapP r λ_ _ z=>⟨z.1,z.2.1.stay ht,z.2.2⟩
section
variable {P:Program} {w:World} {H:Hp} {h:Heap} {a:Addr} {K:PySem.W.Frag}
end
section
variable {X:Cx} {pins:List (Addr×Obj)} {σ:St} {H:Hp} {s:Shared} {a b:Addr} {v d:V} {r:Value} {kvs:List (FK×V)} {k:FK} {A:Around} {E:Value->Shared->Prop}
end
section
variable {X:Cx} {o i e f value:Expr} {pos pos' apos cpos:Pos} {td ty tv tx:TE}
end
end L2
end
section
namespace PySem
open Sem (wp)
def Ul (h:Heap) (d:Addr) (es:Array DictEntry) (ep:Nat):Prop:=∃o,h.get? d=some o/\o.ExactDict/\o.data= .dict es ep
section
variable {prog:Program} {w:World} {A:Around} {E:Value->Shared->Prop} {s:Shared} {d it:Addr} {es:Array DictEntry} {ep i:Nat}
theorem Ul.typeIs (x:Ul s.heap d es ep):s.TypeIs (.ref d) "dict" :=let ⟨o,ho,hc,_⟩:=x;⟨o,ho,hc.1⟩
theorem Ul.at {h h':Heap} (x:Ul h d es ep) (e:∀o,h.get? d=some o->h'.get? d=some o):Ul h' d es ep:=let ⟨o,ho,r⟩:=x;⟨o,e _ ho,r⟩
end
section
variable {prog:Program} {w:World} {A:Around} {s:Shared} {R:Result->Shared->Prop} {d:Addr} {es:Array DictEntry} {ep:Nat}
end
section
variable {prog:Program} {w:World} {A:Around} {E:Value->Shared->Prop} {s:Shared} {d:Addr} {es:Array DictEntry} {ep:Nat}
end
end PySem
end
section
namespace L2
open PySem PySem.Spec PyProof.Rows
section
variable {X:Cx}
end
end L2
namespace PL
open PySem PySem.Spec PyProof.Rows L2
def iK (kvs:List (FK×Int)) (k:FK):Option Int:=(kvs.find? λp=>decide (p.1=k)).map (·.2)
section
variable {K:PySem.W.Frag} {T M:Addr->Prop} {H:Hp}
end
section
variable {X:Cx} {a b d:Expr} {pos p1:Pos} {ta tb td:AE}
end
end PL
end
section
namespace PL
open PySem PySem.Spec PyProof.Rows L2
section
variable {K:PySem.W.Frag} {T M:Addr->Prop} {H H':Hp}
theorem Jd.ext (va:Jd T M H) (ex:∀b o,H b=some o->H' b=some o):Mv K T M H T M H':=⟨va,λb o _ _ e=>ex b o e,λ_ t=>t,λ_ _ t=>t,λ_ _ m=>m⟩
end
section
variable {K:PySem.W.Frag} {T M:Addr->Prop} {H H':Hp}
end
end PL
end
section
namespace L2
open PySem PySem.Spec PyProof.Rows
section
variable {X:Cx} {a b:Expr} {rest:List Expr} {pos:Pos} {ta tb:TE}
end
end L2
namespace PL
open PySem PySem.Spec PyProof.Rows L2
section
variable {X:Cx} {a b:Expr} {rest:List Expr} {pos:Pos} {ta tb:AE}
end
end PL
end
section
namespace L2
open PySem PySem.Spec PyProof.Rows
section
variable {elt tg iter tg2 iter2:Expr} {ifs ifs2:List Expr} {scope:Scope} {pos:Pos} {it acc:Value} {env:Env}
variable {prog:Program} {w:World} {A:Around} {R:Result->Shared->Prop} {s:Shared}
end
def Qm (own:Nat) (σ:St):St:=List.replicate own none++σ.drop own
theorem TX {own:Nat} {σ:St} {j:Nat} {v:V} (h:(Qm own σ)[j]? =some (some v)):own<=j/\σ[j]? =some (some v):=by
 unfold Qm at h
 by_cases hj:j<own
 ·rw [List.getElem?_append_left (by simpa using hj),List.getElem?_replicate,if_pos hj] at h
  cases h
 ·have UT:own<=j:=by omega
  rw [List.getElem?_append_right (by simpa using UT),List.length_replicate,List.getElem?_drop] at h
  rw [show own+(j-own)=j by omega] at h
  exact ⟨UT,h⟩
section
variable {X:Cx} {tg elt iter tg2 iter2:Expr} {ifs ifs2:List Expr} {scope:Scope} {pos:Pos} {wi wi2:TI} {own own2:Nat} {ix:List Nat} {N:List Str} {g g2:TG} {tt tt2:TT} {te:TE}
structure Wr (X:Cx) (tg elt:Expr) (ifs:List Expr) (tg2 iter2:Expr) (ifs2:List Expr) (scope:Scope) (own:Nat) (ix:List Nat) (N:List Str) (g:TG) (tt:TT) (wi2:TI) (own2:Nat) (g2:TG) (tt2:TT) (te:TE):Prop where
 kind:scope.kind= .function
 nocell:∀y∈scope.names,y.2≠ .cell
 names:∀y∈scope.names,y.2= .local->scope.names.lookup y.1=some .local
 frees:∀y∈scope.names,y.2= .free->X.env.scope.names.lookup y.1=some .cell
 ins:O6 X (relabel scope X.env) own ix N
 keep:GN own g
 keep2:GN own2 g2
 le2:own2<=own
 tgt:∀cl C s H ex pn,PG (blk X (relabel scope X.env) N cl C s H ex pn) tg g
 tst:∀cl C s H ex pn,Wb (blk X (relabel scope X.env) N cl C s H ex pn) ifs tt
 itr2:∀cl C s H ex pn,PI (blk X (relabel scope X.env) N cl C s H ex pn) tg2 iter2 wi2
 set2:∀cl C s H ex pn x,foldedSetIterable iter2 (blk X (relabel scope X.env) N cl C s H ex pn).env x=pure x
 tgt2:∀cl C s H ex pn,PG (blk X (relabel scope X.env) N cl C s H ex pn) tg2 g2
 tst2:∀cl C s H ex pn,Wb (blk X (relabel scope X.env) N cl C s H ex pn) ifs2 tt2
 val:∀cl C s H ex pn,PE (blk X (relabel scope X.env) N cl C s H ex pn) elt te
end
end L2
end
section
namespace PL
open PySem PySem.Spec PyProof.Rows L2
def Ql (own:Nat) (τ:BB):BB:=List.replicate own none++τ.drop own
theorem SR.noOwn {K:PySem.W.Frag} {B:Ck} {T:Addr->Prop} {H:Hp} {σ:L2.St} {τ:BB} (s:SR K B T H σ τ) (XV:∀b,¬Ch σ τ b) {i:Nat} {xs:List PV}:τ[i]? ≠some (some (.own xs)):=λe=>by
 obtain ⟨p,vs,e2,_⟩:=s.own i xs e
 exact XV p ⟨i,xs,e,e2⟩
theorem HU {own:Nat} {τ:BB} {j:Nat} {x:AV} (h:(Ql own τ)[j]? =some (some x)):own<=j/\τ[j]? =some (some x):=by
 unfold Ql at h
 by_cases hj:j<own
 ·rw [List.getElem?_append_left (by simpa using hj),List.getElem?_replicate,if_pos hj] at h
  cases h
 ·have UT:own<=j:=by omega
  rw [List.getElem?_append_right (by simpa using UT),List.length_replicate,List.getElem?_drop] at h
  rw [show own+(j-own)=j by omega] at h
  exact ⟨UT,h⟩
theorem SR.cut {K:PySem.W.Frag} {B:Ck} {T:Addr->Prop} {H:Hp} {σ:L2.St} {τ:BB} {own:Nat} (s:SR K B T H σ τ) (XV:∀b,¬Ch σ τ b):SR K B T H (Qm own σ) (Ql own τ)/\∀b,¬Ch (Qm own σ) (Ql own τ) b:=by
 have cN:∀b,¬Ch (Qm own σ) (Ql own τ) b:=λb ⟨i,xs,e1,e2⟩=>XV b ⟨i,xs,(HU e1).2,(TX e2).2⟩
 refine ⟨⟨by simp [Qm,Ql,s.len],λi x e=> ?_,λi xs e=>absurd (HU e).2 (s.noOwn XV),λi j xs ys p e=>absurd (HU e).2 (s.noOwn XV),s.tp,s.bm,s.bt,s.st⟩,cN⟩
 obtain ⟨UT,e2⟩:=HU e
 obtain ⟨v,hv,r⟩:=s.val i x e2
 refine ⟨v, ?_,r.mv (.anti s.va λa z=>z.elim .inl λz=>absurd z (cN a))⟩
 unfold Qm
 rw [List.getElem?_append_right (by simpa using UT),List.length_replicate,List.getElem?_drop,show own+(i-own)=i by omega]
 exact hv
structure PB (D:Addr) (T:Addr->Prop) (H:Hp) (T':Addr->Prop) (H':Hp):Prop where
 keep:∀b o,¬T b->b≠D->H b=some o->H' b=some o
 sub:∀b,T b->T' b
 new:∀b,T' b->T b\/H b=none
 tp:∀b,H b≠none->H' b≠none
theorem PB.refl {D:Addr} {T:Addr->Prop} {H:Hp}:PB D T H T H:=⟨λ_ _ _ _ e=>e,λ_ e=>e,λ_ e=> .inl e,λ_ e=>e⟩
theorem PB.upd {D:Addr} {T:Addr->Prop} {H:Hp} {o:HO}:PB D T H T (upd H D o):=⟨λb o' _ n e=>by rw [Al n];exact e,λ_ e=>e,λ_ e=> .inl e,λb e=>by
 by_cases h:b=D
 ·subst h;rw [A1];exact λz=>nomatch z
 ·rw [Al h];exact e⟩
theorem PB.trans {D:Addr} {T T1 T2:Addr->Prop} {H H1 H2:Hp} (a:PB D T H T1 H1) (b:PB D T1 H1 T2 H2):PB D T H T2 H2 where
 keep:=λx o t n e=>b.keep x o (λz=>(a.new x z).elim t λz=>by rw [e] at z;cases z) n (a.keep x o t n e)
 sub:=λx t=>b.sub x (a.sub x t)
 new:=λx t=>(b.new x t).elim (λz=>a.new x z) λz=> .inr (by
  cases e:H x with
  | none=>rfl
  | some o=>exact absurd z (a.tp x (by rw [e];exact λz=>nomatch z)))
 tp:=λx e=>b.tp x (a.tp x e)
def mR (K:PySem.W.Frag) (s:Bool) (a:AI):TI:=λσ H R=>∃(B:Ck) (T:Addr->Prop) (τ:BB) (AQ:List PV->Prop),SR K B T H σ τ/\a τ AQ/\
 ∀J xs T' H',Dh T H T' H'->(∀M2 T2 H2,Mv K T' (mt B σ τ) H' T2 M2 H2->Jd T2 M2 H2->(s=true\/Rm T' H' H2)->TB K M2 J xs T2 H2)->AQ xs->R J H'
section
variable {X:Cx}
theorem SI.of {tg iter:Expr} {s:Bool} {a:AI} (h:SI X tg iter s a):PI X tg iter (mR X.K s a):=by
 obtain ⟨t,p,si⟩:=h
 intro pins sh σ H R I hw
 obtain ⟨B,T,τ,AQ,sr,h,c⟩:=hw
 exact p pins sh σ H R I (si B T σ τ H R AQ sr h c)
structure fU (X:Cx) (tg elt:Expr) (ifs:List Expr) (tg2 iter2:Expr) (ifs2:List Expr) (scope:Scope) (own:Nat) (ix:List Nat) (N:List Str) (g:AG) (t:AT) (ai2:AI) (own2:Nat) (g2:AG) (t2:AT) (te:AE):Prop where
 ex:∃g' t' wi2 g2' t2' te',Wr X tg elt ifs tg2 iter2 ifs2 scope own ix N g' t' wi2 own2 g2' t2' te'/\Jc X.K g' g/\L5 X.K t' t/\Y2 X.K true wi2 ai2/\Jc X.K g2' g2/\L5 X.K t2' t2/\HL X.K te' te
end
end PL
end
section
namespace PL
open PySem PySem.Spec PyProof.Rows L2
section
variable {X:Cx}
end
end PL
end
section
namespace PL
open PySem L2 PyProof.Rows
class kM (n:Nat) (τ:BB) (τ':outParam BB):Prop where
 e:Ql n τ=τ'
section
variable {ai ai2:AI} {g g2:AG} {tt t2:AT} {te:AE} {τ τ':BB} {QL:List PV->Prop} {own own2:Nat} {ix:List Nat}
end
end PL
end
section
namespace L2
open PySem PySem.Spec PyProof.Rows
section
variable {X:Cx}
end
end L2
end
section
namespace PL
open PySem PySem.Spec PyProof.Rows L2
section
variable {X:Cx}
end
end PL
end
section
namespace L2
open PySem PySem.Spec PyProof.Rows
section
variable {prog:Program} {w:World} {A:Around} {E:Value->Shared->Prop} {s:Shared}
end
section
variable {X:Cx}
end
end L2
end
section
namespace PL
open PySem PySem.Spec PyProof.Rows L2
section
variable {X:Cx}
end
end PL
end
section
namespace PL
open PySem PySem.Spec PyProof.Rows L2
section
variable {X:Cx} {a b c:Expr} {ta tb tc:AE} {pos:Pos}
end
end PL
end
section
namespace PL
open PySem L2 PyProof.Rows
variable {X:Cx}
theorem Z0:Dc X (compareOp .Is) (λx y H Q=>∃b c,x= .bl b/\y= .bl c/\Q (.bl (b==c)) H):=by
 intro pins s σ H x y v u Q I rx ry h
 obtain ⟨b,c,rfl,rfl,q⟩:=h
 cases rx
 cases ry
 exact is_bool (A9 I q rfl)
def ZI:Ia:=λx y Q=>match x,y with | .bl b, .bl c=>Q (.bl (b==c))|_,_=>False
theorem aX:Dc X (compareOp .Is) (λx y H Q=>∃b c,x= .bl b/\y= .bl c/\Q (.bl (b==c)) H)/\CJ X.K (λx y H Q=>∃b c,x= .bl b/\y= .bl c/\Q (.bl (b==c)) H) ZI:=by
 refine ⟨Z0,λT M H u v x y Q AQ va ru rv h k=> ?_⟩
 cases x <;> first | exact h.elim|skip
 cases y <;> first | exact h.elim|skip
 cases ru
 cases rv
 exact ⟨_,_,rfl,rfl,k _ _ T H (.refl va.tp) (.bl _) h⟩
variable {Q:PV->Prop} {b:Bool}
instance jt:Wp (ZI (.bl b) (.bl true) Q) (Q (.bl b)):=⟨λh=>by cases b <;> exact h⟩
end PL
end
section
namespace PL
open PySem PySem.Spec PyProof.Rows L2
def d9 (tb:List (Str×Int)):List (TE×TE):=tb.map λp=>(tC (.str p.1),tC (.int p.2))
def Nh (tb:List (Str×Int)):List (C5×V):=tb.map λp=>(.inr p.1, .int p.2)
theorem QG:∀(tb:List (Str×Int)) (σ:L2.St) (H:Hp) (Q:List (V×V)->Hp->Prop),Q ((Nh tb).map λkv=>(kV kv.1,kv.2)) H->OP (d9 tb) σ H Q
 | [],_,_,_,h=>h
 | p::r,σ,H,Q,h=>QG r σ H _ h
theorem WV:∀(tb:List (Str×Int)) (s:Str) (v:PV),(tb.map λp=>(p.1,PV.int p.2)).lookup s=some v->∃i,v= .int i/\GK (Nh tb) (.inr s)=some (.int i)
 | [],_,_,e=>by cases e
 | (a,b)::r,s,v,e=>by
   rw [List.map_cons,List.lookup_cons] at e
   split at e
   ·rename_i hb
    cases e
    have:s=a:=eq_of_beq hb
    subst this
    exact ⟨b,rfl,by simp [Nh,GK]⟩
   ·rename_i hb
    obtain ⟨i,e1,e2⟩:=WV r s v e
    refine ⟨i,e1, ?_⟩
    have:¬a=s:=λz=>by subst z;simp at hb
    simpa [Nh,GK,this] using e2
section
variable {X:Cx}
theorem YC {keys:List (Option Expr)} {values:List Expr} {i:Expr} {p pos:Pos} {ti:AE} (tb:List (Str×Int)) {k:Nat} (hr:Room k X.A) (h:bW X p keys values (d9 tb)) (hi:SE X i ti) (hs:Yw i)
 (hm:Ih [] (Nh tb)=Nh tb:=by rfl) (hn:tb.length<=15:=by decide) (MA:keys.all (·.isSome)=true:=by rfl) (hl:keys.length=values.length:=by rfl) (h0:keys≠ [] :=by exact List.cons_ne_nil _ _) (gG:keys.length<=15:=by exact Nat.le_of_ble_eq_true rfl):
 SE X (.Subscript (.Dict keys values p) i pos) (Up (tb.map λp=>(p.1,PV.int p.2)) ti):=by
 obtain ⟨t,pt,s⟩:=hi
 refine ⟨_,Xw (by have:=hr.un;omega) (Xx h MA hl h0 gG) pt hs,λB T σ τ H Q AQ sr q kk=> ?_⟩
 intro a ha
 refine QG tb σ _ _ ⟨A1,Nh tb,rfl,by simpa [Nh] using hn, ?_⟩
 rw [hm,YS]
 have st1:Dh T H T (upd H a (.dK (Nh tb))):=Dh.lay sr.tp ha
 have sr1:=sr.stp st1
 have nt:¬T a:=λz=>by
  obtain ⟨o,e,_⟩:=(sr.tp a z).mut
  rw [ha] at e;cases e
 refine s B T σ τ _ _ _ sr1 q λv x T1 H1 s1 r1 h1=> ?_
 cases r1 <;> first | exact h1.elim|skip
 obtain ⟨w,e,q2⟩:=RG h1
 obtain ⟨j,rfl,e2⟩:=WV tb _ _ e
 exact ⟨a, .int j,rfl, .inl ⟨_, .inr _, .of (s1.keep _ _ nt A1),rfl,e2.symm⟩,kk _ _ T1 H1 (st1.trans s1) (.int _) q2⟩
end
end PL
end
section
namespace PL
open PySem PySem.Spec PyProof.Rows L2
section
variable {X:Cx} {a b c d e:Expr} {ta tb tc td:AE} {pos:Pos}
theorem CK (ha:SE X a ta) (h:starEach [a] X.env=(false,eval a X.env)::starEach [] X.env:=by rfl):SA X [a] (AB ta AL):=BE ha Iu h
theorem Ao (ha:SE X a ta) (hb:SE X b tb) (h:starEach [a,b] X.env=(false,eval a X.env)::starEach [b] X.env:=by rfl) (h2:starEach [b] X.env=(false,eval b X.env)::starEach [] X.env:=by rfl):SA X [a,b] (AB ta (AB tb AL)):=BE ha (CK hb h2) h
theorem IQ (ha:SE X a ta) (hb:SE X b tb) (hc:SE X c tc) (h:starEach [a,b,c] X.env=(false,eval a X.env)::starEach [b,c] X.env:=by rfl) (h2:starEach [b,c] X.env=(false,eval b X.env)::starEach [c] X.env:=by rfl) (h3:starEach [c] X.env=(false,eval c X.env)::starEach [] X.env:=by rfl):SA X [a,b,c] (AB ta (AB tb (AB tc AL))):=BE ha (Ao hb hc h2 h3) h
theorem AX (ha:SE X a ta) (hb:SE X b tb) (hs:Jt b:=by exact λ_ _=>rfl):SE X (.Subscript a b pos) (AY Ah ta tb):=db dg ha hb hs
theorem GZ {op:CmpOp} {r:R2} {f:Ia} (ho:Dc X (compareOp op) r/\CJ X.K r f) (ha:SE X a ta) (hb:SE X b tb) (hm:behindInMarks op b=false:=by exact DR _):O8 X (.Compare a [op] [b] pos) (A2 (AY f ta tb)):=Rb ho ha hb hm
theorem Dg (i:Nat) {x:Str} {pos':Pos} (hN:X.N.Nodup) (he:SE X e ta) (hi:X.N[i]? =some x:=by rfl) (hx:Loc X.env.scope x:=by exact Or.inl rfl) (hs:swapsWith e (some (.Name x pos')) pos.line X.env=pure false:=by rfl) (hf:X.fn x=true\/X.env.scope.names.lookup x=some .local:=by first | exact .inl rfl|exact .inr rfl|assumption):
 SS X (.Assign [.Name x pos'] e pos) (Av ta (A8 i)):=G4 hN hi hx he hs hf
theorem Mx (i:Nat) {x:Str} (hN:X.N.Nodup) (hi:X.N[i]? =some x:=by rfl) (hx:Loc X.env.scope x:=by exact Or.inl rfl) (hf:X.fn x=true\/X.env.scope.names.lookup x=some .local:=by first | exact .inl rfl|exact .inr rfl|assumption):SG X (.Name x pos) (A8 i):=OC hN hi hx hf
theorem Ll (i:Nat) {own:Nat} {x:Str} (hN:X.N.Nodup) (hi:X.N[i]? =some x:=by rfl) (hx:Loc X.env.scope x:=by exact Or.inl rfl) (hk:i<own:=by decide) (hf:X.fn x=true\/X.env.scope.names.lookup x=some .local:=by first | exact .inl rfl|exact .inr rfl|assumption):SK own X (.Name x pos) (A8 i):=YI hN hi hx hk hf
end
theorem map_pair {α β:Type} {o:Option α} {f g:α->Option β} {x y:Option β} (h1:o.map f=some x) (h2:o.map g=some y):o.map (λs=>(f s,g s))=some (x,y):=by
 cases o with
 | none=>cases h1
 | some s=>cases h1;cases h2;rfl
theorem BQ {P:Program} {w:World} {K:PySem.W.Frag} {mg:Str->Option Value} {base:Heap} {k k':Nat} {x:Str} {ps:List Str} {sp:Sp} (H:Has P w K mg base k x ps sp) (h:k<=k':=by decide):Has P w K mg base k' x ps sp:=H.mono h
end PL
end
open PySem L2 PL PyProof.Rows
local macro_rules | `(tactic| decreasing_trivial_pre_omega)=> `(tactic| first | assumption|omega|((apply Bd.mono);(focus (repeat' (first | assumption|exact Bt.m (by assumption)|exact Bt.x (by assumption)|exact Bt.y (by assumption)|exact Bt.z (by assumption)|exact bd0|exact cA|with_reducible apply Bd.add|with_reducible apply Bd.sub|with_reducible apply Bd.mul|with_reducible apply Bd.neg|with_reducible apply Bd.mx|with_reducible apply Bd.mn)));first | omega|decide)|decide|(simp only [List.length_map,List.length_append,List.length_cons,List.length_nil,List.length_take,List.length_drop,List.length_zip,List.length_reverse];omega)|(show _<=16777216;simp only [List.length_map,List.length_append,List.length_cons,List.length_nil,List.length_take,List.length_drop,List.length_zip,List.length_reverse];omega)|(show _<16777216;simp only [List.length_map,List.length_append,List.length_cons,List.length_nil,List.length_take,List.length_drop,List.length_zip,List.length_reverse];omega)|(refine And.intro ?_ ?_ <;> decreasing_trivial_pre_omega)|exact rfl)
local macro_rules | `(tactic| array_mem_dec)=> `(tactic| first
 | refine Wp.go ?_
 | ((refine OU.go ?_ ?_);focus (first | exact True.intro|decreasing_trivial_pre_omega))
 | ((with_reducible apply And.intro);focus decreasing_trivial_pre_omega)
 | ((with_reducible apply s_ifdT);focus decide)
 | ((with_reducible apply aJ);focus decide)
 | ((with_reducible apply s_ifnT);focus decide)
 | ((with_reducible apply s_ifnF);focus decide)
 | refine fx.go (λ_=> ?_) (λ_=> ?_)
 | ((with_reducible apply aK);focus assumption)
 | ((with_reducible apply s_all);focus exact rfl)
 | ((with_reducible apply s_isi);(focus (first | exact .inl rfl|exact .inr (.inl rfl)|exact .inr (.inr (.inl rfl))|exact .inr (.inr (.inr rfl))));(focus exact rfl))
 | ((with_reducible apply dW);focus exact rfl)
 | ((with_reducible apply dU);focus exact rfl)
 | intro _
 | with_reducible rfl)
local macro_rules | `(tactic| array_get_dec)=> `(tactic| first | array_mem_dec|refine lJ.go ?_|fail)
local macro_rules | `(tactic| ac_rfl)=> `(tactic| repeat' array_mem_dec)
section
namespace PL
open PySem L2 PyProof.Rows
def Bg (cs:List C4) (n:Rat):List C4:=cs.filter λc=>decide (c.1<n)
def CB (cs:List C4) (n:Rat):List C4:=cs.filter λc=>decide (n<c.1)
def FW (f:List C4) (c:C4) (l:List C4) (x:Rat):List C4:=if f= [] then laterC x (c::l) else f ++ [c] ++ laterC x (c::l)
def JO (f:List C4) (c:C4) (l:List C4) (x:Rat):List C4:=f ++ [c] ++ l.map λd=>(c.1+(1+x)*(d.1-c.1),d.2)
def Ue:AS:=
 (An (Fd CC (AB (IN (DN (Qf (aV 0)) 1 [] (A8 0) Fn (Fd CC (AB (aV 0) AL)))) AL)))
def Eo:AF:=Au 1 Ue
theorem HJ {cs:List C4} {v:PV} (hv:B5 cs v) (hl:cs.length<=1000) {Q:PV->Prop} (q:Q (AW cs)):Eo [v] Q:=by
 obtain ⟨f,hf,hv⟩:=hv
 have go:cs.length<sizeLine/\Cn (A8 0) Fn (Fd CC (AB (aV 0) AL)) [none] (λxs=>Q (.tup xs)) (cs.map f) [] :=by
  refine ⟨Nat.lt_of_le_of_lt hl (by decide), ?_⟩
  refine E5 f cor (λc=>c) (λ_=>True) (λc _ R hR=> ?_) cs [] (λ_ _=>trivial) ?_
  ·rcases hf with rfl|rfl <;> exact hR
  ·rw [List.map_id',List.nil_append]
   exact q
 rw [show cs.length=(cs.map f).length by simp] at go
 rcases hv with rfl|rfl <;> exact go
theorem QC {cs:List C4} {B M:Nat} {m:Rat} (hm:Bd M m) (hr:Bk cs) (hb:∀c∈cs,Bt B c):Bt (M+6*B+10) (sp cs m):=by
 have t:NP (M+6*B+10) ((spotC cs m).getD (0,0,0)):=by
  cases e:spotC cs m with
  | none=>
    have z:Bd (M+6*B+10) (0:Rat):=Bd.mono (m:=2) ⟨by decide,by decide⟩ (by omega)
    exact ⟨z,z,z⟩
  | some t=>exact NP.spotC hm hr hb t e
 exact ⟨hm.mono (by omega),t.x,t.y,t.z⟩
abbrev Rj:AS:=
 (An (B9 (AB (aV 0) (AB (aC (.int 1)) AL))))
def F4:AF:=Au 1 Rj
theorem UG {x0:PV} {Q:PV->Prop} (h:Rj ⟨λ_=>Q .non,Q,λ_=>False,λ_=>False⟩ [some (.val x0)]):F4 [x0] Q:=h
instance av {k:Int} {Q:PV->Prop}:Wp (F4 [.int k] Q) (Q (fr (k:Rat))):=⟨λh=>by
 apply UG
 repeat' array_get_dec
 exact h⟩
abbrev Ot:AS:=
 (Ag (Bx (Y6 (aV 0)) (An (AY Am (AY Am (aV 0) (B9 (AB (aV 1) AL))) (aV 4))) BM)
   (An (aV 4)))
abbrev Os:AS:=
 (Ag (Av (AM 2 Js (AB (AY Am (B9 (AB (aV 1) AL)) (aV 2)) (AB (aV 3) AL))) (A8 4))
   Ot)
def Fm:AF:=Au 5 Os
theorem RQ {x0 x1 x2 x3:PV} {Q:PV->Prop} (h:Os ⟨λ_=>Q .non,Q,λ_=>False,λ_=>False⟩ [some (.val x0),some (.val x1),some (.val x2),some (.val x3),none]):Fm [x0,x1,x2,x3] Q:=h
theorem O5 {f l:List C4} {c:C4} {x:Rat} {B m:Nat} (hf:f.length<=100) (hl:l.length<=100) (bc:Bt B c) (bl:∀d∈l,Bt B d) (bx:Bd m x) (hB:B<=4000) (hm:m<=4000) {Q:PV->Prop} (q:Q (AW (FW f c l x))):Fm [AW f,cor c,AW l,fr x] Q:=by
 apply RQ
 repeat' array_get_dec
 refine QY (cs:=c::l) (.self _) (by simp;omega) (B:=B) (m:=m) ?_ bx hB hm ?_
 ·intro d hd
  rcases List.mem_cons.mp hd with rfl|hd
  ·exact bc
  ·exact bl d hd
 repeat' array_get_dec
 ·rename_i gN
  refine KF |>.go (by simp [laterC];omega) ?_
  rw [FW,if_neg gN] at q
  exact q
 ·rename_i gN
  rw [FW,if_pos (by simpa using gN)] at q;exact q
abbrev Oq:AS:=
 (Ag (Av (IN (DN (Qf (aV 2)) 4 [5,4] (QJ 4 (Ap (A8 0) (Ap (A8 1) (Ap (A8 2) (Ap (A8 3) Dm))))) Fn (B9 (AB (AM 2 Ci (AB (aV 4) (AB (AM 2 DT (AB (aV 5) (AB (AM 2 Cf (AB (aV 0) (AB (aV 4) AL))) AL))) AL))) (AB (aV 1) (AB (aV 2) (AB (aV 3) AL))))))) (A8 6))
   (An (AY Am (AY Am (aV 0) (B9 (AB (aV 1) AL))) (Fd CC (AB (aV 6) AL)))))
abbrev Op:AS:=
 (Ag (Av (AY Ah (aV 1) (aC (.int 0))) (A8 5))
   Oq)
abbrev Oo:AS:=
 (Ag (Av (AM 2 Ci (AB (AM 1 F4 (AB (aC (.int 1)) AL)) (AB (aV 3) AL))) (A8 4))
   Op)
def Fl:AF:=Au 7 Oo
theorem RP {x0 x1 x2 x3:PV} {Q:PV->Prop} (h:Oo ⟨λ_=>Q .non,Q,λ_=>False,λ_=>False⟩ [some (.val x0),some (.val x1),some (.val x2),some (.val x3),none,none,none]):Fl [x0,x1,x2,x3] Q:=h
theorem O3 {f l:List C4} {c:C4} {x:Rat} {B m:Nat} (hf:f.length<=100) (hl:l.length<=100) (bc:Bt B c) (bl:∀d∈l,Bt B d) (bx:Bd m x) (hB:3*B+m+10<=4000) {Q:PV->Prop} (q:Q (AW (JO f c l x))):Fl [AW f,cor c,AW l,fr x] Q:=by
 apply RP
 repeat' array_get_dec
 refine E5 cor cor (λd=>(c.1+(1+x)*(d.1-c.1),d.2)) (Bt B) (λd bd R hR=> ?_) l [] bl ?_
 ·have b1:Bd 1 ((1:Int):Rat):=cA
  repeat' array_get_dec
  exact hR
 repeat' array_get_dec
 refine KF (cs:=f ++ [c]) (ds:=l.map λd=>((c.1+(1+x)*(d.1-c.1),d.2):C4)) |>.go (by simp;omega) ?_
 exact q
abbrev Oh:AS:=
 (Ag (Av (Fd CC (AB (IN (DN (Qf (aV 0)) 1 [2] (A8 0) (A2 (AM 2 Ak (AB (aV 1) (AB (AY Ah (aV 0) (aC (.int 0))) AL)))) (aV 0))) AL)) (A8 4))
   (An (B9 (AB (aV 3) (AB (AM 2 C3 (AB (aV 0) (AB (aV 2) AL))) (AB (aV 4) AL))))))
abbrev Og:AS:=
 (Ag (Av (Fd CC (AB (IN (DN (Qf (aV 0)) 1 [2] (A8 0) (A2 (AM 2 Ak (AB (AY Ah (aV 0) (aC (.int 0))) (AB (aV 1) AL)))) (aV 0))) AL)) (A8 3))
   Oh)
abbrev Of:AS:=
 (Ag (Av (AM 2 BH (AB (aV 1) (AB (AY Ah (AY Ah (aV 0) (aC (.int 0))) (aC (.int 0))) AL))) (A8 2))
   Og)
def Fk:AF:=Au 5 Of
theorem RO {x0 x1:PV} {Q:PV->Prop} (h:Of ⟨λ_=>Q .non,Q,λ_=>False,λ_=>False⟩ [some (.val x0),some (.val x1),none,none,none]):Fk [x0,x1] Q:=h
theorem O0 {a l:C4} {r:List C4} {B M:Nat} {n:Rat} (hc:∀c∈a::r,Bt B c) (hr:Bk (a::r)) (h0:r≠ []) (el:(a::r).getLast?=some l) (hl:(a::r).length<=100) (hn:Bd M n) (ha:Bd M a.1) (Ft:n<l.1) (hB:M+6*B+10<=3000) {Q:PV->Prop}
 (q:Q (.tup [AW (Bg (a::r) (mx n a.1)),cor (sp (a::r) (mx n a.1)),AW (CB (a::r) (mx n a.1))])):Fk [AW (a::r),fr n] Q:=by
 have gU:r.length+1<=100:=hl
 have bn:=hn.mx ha
 have g0:=Vf n a.1
 have al:a.1<l.1:=by
  cases r with
  | nil=>exact absurd rfl h0
  | cons b r=>exact (List.pairwise_cons.mp hr).1 l (List.mem_of_getLast? (Eu el))
 have g1:mx n a.1<l.1:=by unfold mx;split <;> assumption
 apply RO
 repeat' array_get_dec
 revert q bn g0 g1
 generalize mx n a.1=b
 intro q bn g0 g1
 refine Cz cor cor (λc=>decide (c.1<b)) (Bt B) (λc bc R N h1 h2=> ?_) (a::r) [] hc ?_
 ·repeat' array_get_dec
  ·rename_i z;exact h1 (decide_eq_true z)
  ·rename_i z;exact h2 (decide_eq_false z)
 repeat' array_get_dec
 refine Cz cor cor (λc=>decide (b<c.1)) (Bt B) (λc bc R N h1 h2=> ?_) (a::r) [] hc ?_
 ·repeat' array_get_dec
  ·rename_i z;exact h1 (decide_eq_true z)
  ·rename_i z;exact h2 (decide_eq_false z)
 repeat' array_get_dec
 refine D4 (.self _) hc hr (by simp) (by omega) bn (by omega) (Cc h0 el g0 (by grind)) ?_
 repeat' array_get_dec
 exact q
abbrev Kk:AS:=
 (Ag (Av (IN (DN (Qf (aV 3)) 1 [4] (A8 0) Fn (AM 2 DT (AB (AM 1 F4 (AB (aV 0) AL)) (AB (aV 1) AL))))) (QJ 3 (Ap (A8 5) (Ap (A8 6) (Ap (A8 7) Dm)))))
   (An (AY Am (AY Am (AY Am (aV 0) (B9 (AB (aV 1) AL))) (AM 4 F2 (AB (TK (aV 2) TL (TM (OV Fa (aC (.int 1))))) (AB (aV 5) (AB (aV 6) (AB (aV 7) AL)))))) (TK (aV 2) (TM (OV Fa (aC (.int 1)))) TL))))
abbrev JC:AS:=
 (Ag (Bx (A2 (AY Wd (Fd GF (AB (aV 2) AL)) (aC (.int 2)))) (An (aC .non)) BM)
   Kk)
def Db:AF:=Au 8 JC
theorem MK {x0 x1 x2 x3 x4:PV} {Q:PV->Prop} (h:JC ⟨λ_=>Q .non,Q,λ_=>False,λ_=>False⟩ [some (.val x0),some (.val x1),some (.val x2),some (.val x3),some (.val x4),none,none,none]):Db [x0,x1,x2,x3,x4] Q:=h
def IK:Str->Option (Rat×Rat×Rat)
 | w=>if w="east" then some (1,0,0) else if w="west" then some (-1,0,0) else if w="north" then some (0,1,0) else if w="south" then some (0, -1,0) else if w="up" then some (0,0,1) else if w="down" then some (0,0, -1) else none
def Nm (f:List C4) (c:C4) (l:List C4) (w:Rat×Rat×Rat) (x:Rat):Option (List C4):=if l.length<2 then none else some (f ++ [c] ++ offC (w.1*x) (w.2.1*x) (w.2.2*x) l.dropLast++l.drop (l.length-1))
theorem B3 {f l:List C4} {c:C4} {x:Rat} {i j k:Int} {B m:Nat} (hi:i=0\/i=1\/i= -1) (hj:j=0\/j=1\/j= -1) (hk:k=0\/k=1\/k= -1) (hf:f.length<=100) (hl:l.length<=100) (bc:Bt B c) (bl:∀d∈l,Bt B d) (bx:Bd m x) (hB:B+m+10<=3900) {Q:PV->Prop} (q:Q (LS (Nm f c l (i,j,k) x))):Db [AW f,cor c,AW l, .tup [.int i, .int j, .int k],fr x] Q:=by
 have bs:∀{i:Int},(i=0\/i=1\/i= -1)->Bd 1 (i:Rat):=λh=>by rcases h with rfl|rfl|rfl <;> exact ⟨by decide,by decide⟩
 have bi:=bs hi
 have bj:=bs hj
 have bk:=bs hk
 apply MK
 repeat' array_get_dec
 ·rename_i z
  rw [Nm,if_pos (by omega)] at q;exact q
 ·rename_i z
  rw [Nm,if_neg (by omega)] at q
  have bd:∀d∈l.dropLast,Bt B d:=λd hd=>bl d (List.dropLast_subset l hd)
  repeat' array_get_dec
  refine NM (.self _) (by simp;omega) (m:=m+1) bd ((bi.mul bx).mono (by omega)) ((bj.mul bx).mono (by omega)) ((bk.mul bx).mono (by omega)) (by omega) (by omega) ?_
  repeat' array_get_dec
  refine KF |>.go (by simp [offC];omega) ?_
  repeat' array_get_dec
  refine KF |>.go (by simp [offC];omega) ?_
  exact q
abbrev On:AS:=
 (Ag (Bx (A2 (AY IP (aV 4) (aC (.str "slow")))) (An (AM 4 Fl (AB (aV 6) (AB (aV 7) (AB (aV 8) (AB (aV 5) AL)))))) BM)
   (An (AM 5 Db (AB (aV 6) (AB (aV 7) (AB (aV 8) (AB (Up Dw (aV 4)) (AB (aV 5) AL))))))))
abbrev Om:AS:=
 (Ag (Bx (A2 (AY IP (aV 4) (aC (.str "wait")))) (An (AM 4 Fm (AB (aV 6) (AB (aV 7) (AB (aV 8) (AB (aV 5) AL)))))) BM)
   On)
abbrev Ol:AS:=
 (Ag (Av (AM 2 Fk (AB (aV 3) (AB (aV 2) AL))) (QJ 3 (Ap (A8 6) (Ap (A8 7) (Ap (A8 8) Dm)))))
   Om)
abbrev Oj:AS:=
 (Ag (Bx (TF (A2 (AY IP (AY Ah (aV 5) (aC (.int 0))) (aC (.int 0)))) (Er (A2 (AM 2 Ak (AB (aV 2) (AB (AY Ah (AY Ah (aV 3) (OV Fa (aC (.int 1)))) (aC (.int 0))) AL)))))) (An (aV 3)) BM)
   Ol)
abbrev JD:AS:=
 (Ag (Av (AM 1 Eo (AB (aV 0) AL)) (A8 3))
   Oj)
abbrev Ud:AS:=
 (Ag (Av (aV 1) (QJ 2 (Ap (A8 4) (Ap (A8 5) Dm))))
   JD)
def En:AF:=Au 9 Ud
theorem My {v w:PV} {n x:Rat} {wd:Str} {Q:PV->Prop} (hw:w= .tup [.str wd,fr x] \/w= .lst [.str wd,fr x])
 (h:JD ⟨λ_=>Q .non,Q,λ_=>False,λ_=>False⟩ [some (.val v),some (.val w),some (.val (fr n)),none,some (.val (.str wd)),some (.val (fr x)),none,none,none]):En [v,w,fr n] Q:=by
 rcases hw with rfl|rfl
 ·exact ⟨rfl,h⟩
 ·exact ⟨rfl,h⟩
theorem P7 {cs:List C4} {v w:PV} {n x:Rat} {l:C4} {wd:Str} {M m B:Nat} (hv:B5 cs v) (hw:w= .tup [.str wd,fr x] \/w= .lst [.str wd,fr x]) (hl:cs.length<=1000) (el:cs.getLast?=some l) (hn:Bd M n) (bl:Bd B l.1) (hM:M<=4000) (hB:B<=4000) (hs:x=0\/¬n<l.1) {Q:PV->Prop} (q:Q (AW cs)):En [v,w,fr n] Q:=by
 refine My hw ?_
 all_goals
  repeat' array_get_dec
  refine HJ hv hl ?_
  repeat' array_get_dec
  ·exact q
  ·exact q
  ·rename_i z1 z2
   rcases hs with hs|hs
   ·subst hs;exact absurd rfl z1
   ·exact absurd z2 hs
theorem Xi {x:Rat} (h:x≠0):¬x.num=0:=λz=>h (Rat.num_eq_zero.mp z)
theorem UI {a l:C4} {r:List C4} {v w:PV} {n x:Rat} {wd:Str} {M m B:Nat} (hv:B5 (a::r) v) (hw:w= .tup [.str wd,fr x] \/w= .lst [.str wd,fr x]) (hc:∀c∈a::r,Bt B c) (hr:Bk (a::r)) (h0:r≠ []) (hl:(a::r).length<=100) (el:(a::r).getLast?=some l) (hn:Bd M n) (ha:Bd M a.1) (bx:Bd m x) (hB:3*(M+6*B+10)+m+20<=3900) (hx:x≠0) (Ft:n<l.1) {Q:PV->Prop}
 (q:∀b f c t,b=mx n a.1->f=Bg (a::r) b->c=sp (a::r) b->t=CB (a::r) b->(wd="wait" ->Q (AW (FW f c t x)))/\(wd="slow" ->Q (AW (JO f c t x)))/\∀ways,IK wd=some ways->Q (LS (Nm f c t ways x)))
 (cQ:wd="wait" \/wd="slow" \/∃ways,IK wd=some ways):En [v,w,fr n] Q:=by
 have gU:r.length+1<=100:=hl
 have bl:=hc l (List.mem_of_getLast? el)
 have nx0:=Xi hx
 refine My hw ?_
 all_goals
  repeat' array_get_dec
  refine HJ hv (by omega) ?_
  repeat' array_get_dec
  ·exact absurd ‹x.num=0› nx0
  ·exact absurd Ft ‹_›
  refine O0 hc hr h0 el hl hn ha Ft (by omega) ?_
  have bn:=hn.mx ha
  have bco:Bt (M+6*B+10) (sp (a::r) (mx n a.1)):=QC bn hr hc
  have fl:(Bg (a::r) (mx n a.1)).length<=100:=Nat.le_trans (List.length_filter_le _ _) hl
  have tl:(CB (a::r) (mx n a.1)).length<=100:=Nat.le_trans (List.length_filter_le _ _) hl
  have bt:∀c∈CB (a::r) (mx n a.1),Bt (M+6*B+10) c:=λc hk=>(hc c (List.mem_filter.mp hk).1).mono (by omega)
  obtain ⟨q1,q2,q3⟩:=q _ _ _ _ rfl rfl rfl rfl
  repeat' array_get_dec
  ·exact O5 fl tl bco bt bx (by omega) (by omega) (q1 ‹_›)
  ·exact O3 fl tl bco bt bx (by omega) (q2 ‹_›)
  ·rename_i z1 z2
   rcases cQ with h|h|⟨ways,h⟩
   ·exact absurd h z1
   ·exact absurd h z2
   ·have q4:=q3 ways h
    unfold IK at h
    by_cases e1:wd="east"
    ·rw [if_pos e1] at h;cases h;subst e1
     repeat' array_get_dec
     exact B3 (by decide) (by decide) (by decide) fl tl bco bt bx (by omega) q4
    rw [if_neg e1] at h
    by_cases e2:wd="west"
    ·rw [if_pos e2] at h;cases h;subst e2
     repeat' array_get_dec
     exact B3 (by decide) (by decide) (by decide) fl tl bco bt bx (by omega) q4
    rw [if_neg e2] at h
    by_cases e3:wd="north"
    ·rw [if_pos e3] at h;cases h;subst e3
     repeat' array_get_dec
     exact B3 (by decide) (by decide) (by decide) fl tl bco bt bx (by omega) q4
    rw [if_neg e3] at h
    by_cases e4:wd="south"
    ·rw [if_pos e4] at h;cases h;subst e4
     repeat' array_get_dec
     exact B3 (by decide) (by decide) (by decide) fl tl bco bt bx (by omega) q4
    rw [if_neg e4] at h
    by_cases e5:wd="up"
    ·rw [if_pos e5] at h;cases h;subst e5
     repeat' array_get_dec
     exact B3 (by decide) (by decide) (by decide) fl tl bco bt bx (by omega) q4
    rw [if_neg e5] at h
    by_cases e6:wd="down"
    ·rw [if_pos e6] at h;cases h;subst e6
     repeat' array_get_dec
     exact B3 (by decide) (by decide) (by decide) fl tl bco bt bx (by omega) q4
    rw [if_neg e6] at h
    cases h
def Jw (a b c:C4) (x y z:Rat):Bool:=decide ((y-x)*(c.1-b.1)=(z-y)*(b.1-a.1))
def OK (a b c:C4):Bool:=Jw a b c a.2.1 b.2.1 c.2.1&&(Jw a b c a.2.2.1 b.2.2.1 c.2.2.1&&Jw a b c a.2.2.2 b.2.2.2 c.2.2.2)
def fewG:C4->List C4->List C4
 | _, [] => []
 | _, [l] => [l]
 | a,b::c::r=>if OK a b c then fewG b (c::r) else b::fewG b (c::r)
def XE:List C4->List C4
 | [] => []
 | a::r=>a::fewG a r
def GE:AS:=
 (Ag (Av (AM 2 Cf (AB (AY Ah (aV 2) (aV 5)) (AB (AY Ah (aV 1) (aV 5)) AL))) (A8 7))
   (Bx (A2 (AY U0 (AM 2 DT (AB (aV 6) (AB (aV 4) AL))) (AM 2 DT (AB (aV 7) (AB (aV 3) AL))))) (An (aC (.bl false))) BM))
def Ek:AS:=
 (Ag (Av (AM 2 Cf (AB (AY Ah (aV 1) (aV 5)) (AB (AY Ah (aV 0) (aV 5)) AL))) (A8 6))
   GE)
def El:AS:=
 (Ag (HN (Qf (B9 (AB (aC (.int 1)) (AB (aC (.int 2)) (AB (aC (.int 3)) AL))))) (A8 5) Ek)
   (An (aC (.bl true))))
def IU:AS:=
 (Ag (Av (AM 2 Cf (AB (AY Ah (aV 2) (aC (.int 0))) (AB (AY Ah (aV 1) (aC (.int 0))) AL))) (A8 4))
   El)
def Ly:AS:=
 (Ag (Av (AM 2 Cf (AB (AY Ah (aV 1) (aC (.int 0))) (AB (AY Ah (aV 0) (aC (.int 0))) AL))) (A8 3))
   IU)
def DS:AF:=Au 8 Ly
theorem cx {a b:Rat} {A N:Prop} (h1:a=b->N) (h2:¬a=b->A):Zt (.bl (!Jf (fr a) (fr b))) λc=>if c=true then A else N:=by
 rw [Ee]
 exact Cq (b:= !decide (a=b)) (λz=>h2 (by simpa using z)) (λz=>h1 (by simpa using z))
theorem Ei {D:DW} {va vb vc:PV} {a b c x y z:Rat} {i:Int} {B:Nat} {z6 z7:Option AV} (ga:∀P:PV->Prop,P (fr x)->Ah va (.int i) P) (gb:∀P:PV->Prop,P (fr y)->Ah vb (.int i) P) (gc:∀P:PV->Prop,P (fr z)->Ah vc (.int i) P)
 (hx:Bd B x) (hy:Bd B y) (hz:Bd B z) (h1:Bd 4000 (b-a)) (h2:Bd 4000 (c-b)) (hB:B<=900)
 (yes:(y-x)*(c-b)=(z-y)*(b-a)->∀w6 w7,D.nx [some (.val va),some (.val vb),some (.val vc),some (.val (fr (b-a))),some (.val (fr (c-b))),some (.val (.int i)),w6,w7]) (no:¬(y-x)*(c-b)=(z-y)*(b-a)->D.rt (.bl false)):
 Ek D [some (.val va),some (.val vb),some (.val vc),some (.val (fr (b-a))),some (.val (fr (c-b))),some (.val (.int i)),z6,z7] :=by
 have w:∀{x:Rat},Bd B x->Bd 4000 x:=λh=>h.mono (by omega)
 refine gb _ (ga _ ⟨rfl,BV (w hy) (w hx) (gc _ (gb _ ⟨rfl,BV (w hz) (w hy) ⟨rfl,E2 ((hy.sub hx).mono (by omega)) h2 ⟨rfl,E2 ((hz.sub hy).mono (by omega)) h1 ⟨⟨Mh 29 _,Mh 29 _⟩,cx (λh=> ?_) no⟩⟩⟩⟩))⟩)
 exact yes h _ _
theorem QE {D:DW} {va vb vc:PV} {a b c:C4} {B:Nat} (ha:Bt B a) (hb:Bt B b) (hc:Bt B c) (hB:B<=900) (s:Bool) (hs:s=OK a b c)
 (ga:∀P:PV->Prop,(P (fr a.2.1)->Ah va (.int 1) P)/\(P (fr a.2.2.1)->Ah va (.int 2) P)/\(P (fr a.2.2.2)->Ah va (.int 3) P))
 (gb:∀P:PV->Prop,(P (fr b.2.1)->Ah vb (.int 1) P)/\(P (fr b.2.2.1)->Ah vb (.int 2) P)/\(P (fr b.2.2.2)->Ah vb (.int 3) P))
 (gc:∀P:PV->Prop,(P (fr c.2.1)->Ah vc (.int 1) P)/\(P (fr c.2.2.1)->Ah vc (.int 2) P)/\(P (fr c.2.2.2)->Ah vc (.int 3) P))
 (q:D.rt (.bl s)):
 El D [some (.val va),some (.val vb),some (.val vc),some (.val (fr (b.1-a.1))),some (.val (fr (c.1-b.1))),none,none,none] :=by
 have w2:∀{x y:Rat},Bd B x->Bd B y->Bd 4000 (x-y):=λh k=>(h.sub k).mono (by omega)
 have q0:OK a b c=false->D.rt (.bl false):=λh=>by rw [hs,h] at q;exact q
 have q4:OK a b c=true->D.rt (.bl true):=λh=>by rw [hs,h] at q;exact q
 unfold OK Jw at q0 q4
 refine ⟨lz, ?_⟩
 refine Ei (λP=>(ga P).1) (λP=>(gb P).1) (λP=>(gc P).1) ha.x hb.x hc.x (w2 hb.m ha.m) (w2 hc.m hb.m) hB (λh1 w6 w7=> ?_) (λh1=>q0 (by rw [decide_eq_false h1];rfl))
 refine Ei (λP=>(ga P).2.1) (λP=>(gb P).2.1) (λP=>(gc P).2.1) ha.y hb.y hc.y (w2 hb.m ha.m) (w2 hc.m hb.m) hB (λh2 w6 w7=> ?_) (λh2=>q0 (by rw [decide_eq_false h2];simp))
 refine Ei (λP=>(ga P).2.2) (λP=>(gb P).2.2) (λP=>(gc P).2.2) ha.z hb.z hc.z (w2 hb.m ha.m) (w2 hc.m hb.m) hB (λh3 w6 w7=> ?_) (λh3=>q0 (by rw [decide_eq_false h3];simp))
 exact q4 (by rw [decide_eq_true h1,decide_eq_true h2,decide_eq_true h3];rfl)
theorem IZ {f:C4->PV} (hf:f=cor\/f=corL) {a b c:C4} {B:Nat} (ha:Bt B a) (hb:Bt B b) (hc:Bt B c) (hB:B<=900) {Q:PV->Prop} (q:Q (.bl (OK a b c))):DS [f a,f b,f c] Q:=by
 have w:∀{x:Rat},Bd B x->Bd 4000 x:=λh=>h.mono (by omega)
 have go:=QE (D:={nx:=λ_=>Q .non,rt:=Q,bk:=λ_=>False,ct:=λ_=>False}) (va:=f a) (vb:=f b) (vc:=f c) ha hb hc hB _ rfl
  (λP=>by rcases hf with rfl|rfl <;> exact ⟨λh=>h,λh=>h,λh=>h⟩) (λP=>by rcases hf with rfl|rfl <;> exact ⟨λh=>h,λh=>h,λh=>h⟩) (λP=>by rcases hf with rfl|rfl <;> exact ⟨λh=>h,λh=>h,λh=>h⟩) q
 rcases hf with rfl|rfl
 ·exact ⟨rfl,BV (w hb.m) (w ha.m) ⟨rfl,BV (w hc.m) (w hb.m) go⟩⟩
 ·exact ⟨rfl,BV (w hb.m) (w ha.m) ⟨rfl,BV (w hc.m) (w hb.m) go⟩⟩
theorem O4 {f:C4->PV} (hf:f=cor\/f=corL) {cs:List C4} (hl:cs.length<=1000) {Q:PV->Prop} (q:Q (AW cs)):Eo [.lst (cs.map f)] Q:=by
 refine ⟨by rw [List.length_map];exact Nat.lt_of_le_of_lt hl (by decide), ?_⟩
 refine E5 f cor (λc=>c) (λ_=>True) (λc _ R hR=> ?_) cs [] (λ_ _=>trivial) ?_
 ·rcases hf with rfl|rfl <;> exact hR
 ·show Q (.tup ([] ++ (cs.map λc=>c).map cor))
  rw [List.map_id',List.nil_append]
  exact q
def Oi:AS:=
 (Ag (HN (Y7 (AB (aC (.int 1)) (AB (AY E7 (Fd GF (AB (aV 0) AL)) (aC (.int 1))) AL))) (A8 2) (Bx (Er (A2 (AM 3 DS (AB (AY Ah (aV 0) (AY E7 (aV 2) (aC (.int 1)))) (AB (AY Ah (aV 0) (aV 2)) (AB (AY Ah (aV 0) (AY Am (aV 2) (aC (.int 1)))) AL)))))) (GO 1 Pg (AB (AY Ah (aV 0) (aV 2)) AL)) BM))
   (An (AM 1 Eo (AB (AY Am (AY Am (IN (E3 (AB (AY Ah (aV 0) (aC (.int 0))) AL))) (aV 1)) (IN (E3 (AB (AY Ah (aV 0) (OV Fa (aC (.int 1)))) AL)))) AL))))
def Ub:AS:=
 (Ag (NQ (E3 AL) 1)
   Oi)
def DZ:AF:=Au 3 Ub
theorem O1 {a l:C4} {r:List C4} {v:PV} {B:Nat} (hv:B5 (a::r) v) (hc:∀c∈a::r,Bt B c) (h0:r≠ []) (el:(a::r).getLast?=some l) (hl:(a::r).length<=500) (hB:B<=900) {Q:PV->Prop} (q:Q (AW (XE (a::r)))):DZ [v] Q:=by
 obtain ⟨f,hf,hv⟩:=hv
 have few:r.length+1<=500:=hl
 have B6:∀f:C4->PV,((((a::r).map f).length:Nat):Int)=r.length+1:=λf=>by simp
 obtain ⟨b0,r0,rfl⟩:∃b r',r=b::r':=by
  cases r with
  | nil=>exact absurd rfl h0
  | cons b r=>exact ⟨b,r,rfl⟩
 have few':r0.length+2<=500:=few
 rcases hv with rfl|rfl
 all_goals
  refine ⟨lz, ?_⟩
  refine ⟨⟨by decide,by decide,by rw [B6];simp only [List.length_cons];omega,by rw [B6];simp only [List.length_cons];omega⟩, ?_⟩
  rw [B6,show ((((b0::r0).length:Nat):Int)+1-1-1).toNat=r0.length by simp only [List.length_cons];omega]
  refine DA (λrr τ=>∃(k:Nat) (us ds:List C4) (p b:C4) (z2:Option AV),rr=rng ((k:Int)+1) ds.length/\us.length<=k/\k+ds.length<=500/\(a::b0::r0)[k]? =some p/\(a::b0::r0).drop (k+1)=b::ds/\us++fewG p (b::ds)=fewG a (b0::r0)/\τ= [some (.val _),some (.own (us.map f)),z2]) ?_ ?_ _ _ ⟨0, [],r0,a,b0,none,rfl,by simp,by omega,rfl,rfl,rfl,rfl⟩
  ·rintro τ ⟨k,us,ds,p,b,z2,OW,hu,hk,ep,ed,es,rfl⟩
   have:ds= [] :=by
    cases ds with
    | nil=>rfl
    | cons d ds=>rw [List.length_cons,B8] at OW;cases OW
   subst this
   have lh:b=l:=by
    have e1:((a::b0::r0).drop (k+1)).getLast?=some b:=by rw [ed];rfl
    have Ft:k+1<(a::b0::r0).length:=by
     have:=congrArg List.length ed
     simp only [List.length_drop,List.length_cons,List.length_nil] at this ⊢
     omega
    rw [List.getLast?_drop,if_neg (by omega),el] at e1
    cases e1;rfl
   subst lh
   have e2:([f a] ++ us.map f) ++ [f b] =(a::(us ++ [b])).map f:=by simp
   refine BY (k:=0) (c:=a) rfl rfl ⟨lz, ?_⟩
   refine ⟨Nat.le_trans (show _<=1001 by simp only [List.length_cons,List.length_nil,List.length_map];omega) (by decide), ?_⟩
   refine Es el ⟨lz, ?_⟩
   refine ⟨Nat.le_trans (show _<=1002 by simp only [List.length_append,List.length_cons,List.length_nil,List.length_map];omega) (by decide), ?_⟩
   rw [e2]
   refine ⟨rfl,O4 hf (by simp only [List.length_cons,List.length_append,List.length_nil];omega) ?_⟩
   have e3:us ++ [b] =fewG a (b0::r0):=es
   rw [e3];exact q
  ·rintro x rr τ R hR ⟨k,us,ds,p,b,z2,OW,hu,hk,ep,ed,es,rfl⟩
   cases ds with
   | nil=>cases OW
   | cons d ds=>
     rw [List.length_cons,B8] at OW
     cases OW
     have eb:(a::b0::r0)[k+1]? =some b:=by
      have:=congrArg (λl=>l[0]?) ed
      simpa [List.getElem?_drop] using this
     have edd:(a::b0::r0)[k+2]? =some d:=by
      have:=congrArg (λl=>l[1]?) ed
      simpa [List.getElem?_drop] using this
     have jQ:k+(ds.length+1)<=500:=hk
     refine BY (k:=k) (by omega) ep (BY (k:=k+1) (by omega) eb (BY (k:=k+2) (by omega) edd ⟨rfl,IZ hf (hc _ (List.mem_of_getElem? ep)) (hc _ (List.mem_of_getElem? eb)) (hc _ (List.mem_of_getElem? edd)) hB ?_⟩))
     have nx:(a::b0::r0).drop (k+1+1)=d::ds:=by
      have:=congrArg List.tail ed
      simpa [List.tail_drop] using this
     have cst:(((k+1:Nat):Int)+1)=(k:Int)+1+1:=by omega
     refine Cq (b:= !OK p b d) (λz=> ?_) (λz=> ?_)
     ·have z':OK p b d=false:=by simpa using z
      refine BY (k:=k+1) (by omega) eb ⟨Nat.lt_of_le_of_lt (show _<=500 by rw [List.length_map];omega) (by decide), ?_⟩
      refine hR _ ⟨k+1,us ++ [b],ds,b,d,_,by rw [cst],by simp;omega,by omega,eb,nx, ?_,by rw [List.map_append];rfl⟩
      rw [<-es]
      simp only [fewG,z']
      simp
     ·have z':OK p b d=true:=by simpa using z
      refine hR _ ⟨k+1,us,ds,b,d,_,by rw [cst],by omega,by omega,eb,nx, ?_,rfl⟩
      rw [<-es]
      simp only [fewG,z',if_true]
theorem D5.open {n B:Nat} {cs:List C4} (p:D5 n B cs):∃a r l,cs=a::r/\r≠ [] /\(a::r).getLast?=some l/\a.1<l.1:=by
 obtain ⟨two,few,bd,ris⟩:=p
 match cs,two,ris with
 | a::b0::r,_,ris=>exact ⟨a,b0::r,_,rfl,by simp,List.getLast?_eq_some_getLast (by simp),(List.pairwise_cons.mp ris).1 _ (List.mem_of_getLast? (Eu (List.getLast?_eq_some_getLast (by simp))))⟩
def Yr (b:T3) (v:PV):Prop:=v=Sy b\/v= .lst [fr b.1,fr b.2.1,fr b.2.2]
def bQ (cs:List C4) (b:T3) (v:PV):Prop:=∃p w,B5 cs p/\Yr b w/\(v= .tup [p,w] \/v= .lst [p,w])
theorem c0 {x:PV} {c:C4} {R:PV->Prop} (hx:x=cor c\/x=corL c) (h:R (fr c.1)):Ah x (.int 0) R:=by
 rcases hx with rfl|rfl <;> exact h
theorem f0 {cs:List C4} {b:T3} {v:PV} {R:PV->Prop} (hv:bQ cs b v) (h:∀p,B5 cs p->R p):Ah v (.int 0) R:=by
 obtain ⟨p,w,hp,hw,hv⟩:=hv
 rcases hv with rfl|rfl <;> exact h p hp
theorem f1 {cs:List C4} {b:T3} {v:PV} {R:PV->Prop} (hv:bQ cs b v) (h:∀w,Yr b w->R w):Ah v (.int 1) R:=by
 obtain ⟨p,w,hp,hw,hv⟩:=hv
 rcases hv with rfl|rfl <;> exact h w hw
theorem b2 {b:T3} {w:PV} {R:PV->Prop} (hw:Yr b w) (h:R (fr b.2.2)):Ah w (.int 2) R:=by
 rcases hw with rfl|rfl <;> exact h
def mT (x y z:Rat):Bool:=decide (x-y<z)&&decide (-(x-y)<z)
abbrev MC (t:Rat) (o:T3) (c:C4):C4:=(c.1+t,c.2.1+o.1,c.2.2.1+o.2.1,c.2.2.2+o.2.2)
section
variable {τ:BB}
instance fL {i:Nat} {xs:List PV} {P:List PV->Prop} [h:Yx τ i (.own xs)] :Wp (TH i τ P) (P xs):=⟨λk=>by unfold TH;rw [h.e];exact k⟩
end
theorem SX {cs ds:List C4} (h:Bk cs) (e:ds.map (·.1)=cs.map (·.1)):Bk ds:=by
 have h1:(cs.map (·.1)).Pairwise (· < ·):=List.pairwise_map.mpr h
 rw [<-e] at h1
 exact List.pairwise_map.mp h1
def absR (r:Rat):Rat:=if r<0 then -r else r
theorem Bd.absR {n:Nat} {r:Rat} (h:Bd n r):Bd n (absR r):=by unfold PL.absR;split;exact h.neg;exact h
def Vi (p q:T3) (d:Rat×Rat):T3:=((p.1-q.1)/d.1,(p.2.1-q.2.1)/d.1,(p.2.2-q.2.2)/d.2)
def gE (o:T3):Rat:=mx (mx (mx 0 (absR o.1)) (absR o.2.1)) (absR o.2.2)
def WR (a l a2 l2:C4) (m:Rat):Prop:=(¬m<a.1/\¬m<a2.1)/\m<l.1/\m<l2.1
instance {a l a2 l2:C4} {m:Rat}:Decidable (WR a l a2 l2 m):=by unfold WR;infer_instance
def ins:List Rat->Rat->List Rat
 | [],x=> [x]
 | q::r,x=>if q<x then q::ins r x else if q=x then q::r else x::q::r
abbrev Wc (qs:List Rat):Prop:=qs.Pairwise (· < ·)
theorem Np {x y:Rat}:∀{qs:List Rat},y∈ins qs x↔y=x\/y∈qs
 | [] =>by simp [ins]
 | q::r=>by
   unfold ins
   split
   ·rw [List.mem_cons,Np,List.mem_cons];grind
   ·split
    ·rename_i h;subst h;simp
    ·simp
theorem Su {x:Rat}:∀{qs:List Rat},Wc qs->Wc (ins qs x)
 | [],_=>by simp [ins]
 | q::r,h=>by
   obtain ⟨h1,h2⟩:=List.pairwise_cons.mp h
   unfold ins
   split
   ·rename_i hq
    refine List.pairwise_cons.mpr ⟨λy hy=> ?_,Su h2⟩
    rcases Np.mp hy with rfl|hy
    ·exact hq
    ·exact h1 y hy
   ·split
    ·exact h
    ·refine List.pairwise_cons.mpr ⟨λy hy=> ?_,h⟩
     rcases List.mem_cons.mp hy with rfl|hy
     ·grind
     ·have:=h1 y hy;grind
theorem SB {x:Rat}:∀{qs:List Rat},(ins qs x).length<=qs.length+1
 | [] =>by simp [ins]
 | q::r=>by
   have:=SB (x:=x) (qs:=r)
   unfold ins
   split
   ·simp;omega
   ·split <;> simp
structure At (qs:List Rat) (x:Rat) (k:Nat):Prop where
 le:k<=qs.length
 lo:∀q∈qs.take k,q<x
 hi:∀q∈qs.drop k,¬q<x
theorem Ss:∀{a b:List Rat},Wc a->Wc b->(∀x,x∈a↔x∈b)->a=b
 | [], [],_,_,_=>rfl
 | [],y::b,_,_,h=>by have:=(h y).mpr (by simp);simp at this
 | x::a, [],_,_,h=>by have:=(h x).mp (by simp);simp at this
 | x::a,y::b,ha,hb,h=>by
   obtain ⟨a1,a2⟩:=List.pairwise_cons.mp ha
   obtain ⟨b1,b2⟩:=List.pairwise_cons.mp hb
   have exy:x=y:=by
    rcases List.mem_cons.mp ((h x).mp (by simp)) with e|e
    ·exact e
    ·rcases List.mem_cons.mp ((h y).mpr (by simp)) with e2|e2
     ·exact e2.symm
     ·have:=b1 x e;have:=a1 y e2;grind
   subst exy
   congr 1
   refine Ss a2 b2 λz=>⟨λhz=> ?_,λhz=> ?_⟩
   ·rcases List.mem_cons.mp ((h z).mp (by simp [hz])) with e|e
    ·subst e;have:=a1 z hz;grind
    ·exact e
   ·rcases List.mem_cons.mp ((h z).mpr (by simp [hz])) with e|e
    ·subst e;have:=b1 z hz;grind
    ·exact e
def MJ (xs:List Rat):List Rat:=xs.foldl ins []
theorem J5:∀(xs qs:List Rat),Wc qs->Wc (xs.foldl ins qs)/\(∀y,y∈xs.foldl ins qs↔y∈xs\/y∈qs)/\(xs.foldl ins qs).length<=qs.length+xs.length
 | [],qs,h=>⟨h,by simp,by simp⟩
 | x::xs,qs,h=>by
   obtain ⟨h1,h2,h3⟩:=J5 xs (ins qs x) (Su h)
   refine ⟨h1,λy=> ?_, ?_⟩
   ·rw [List.foldl_cons,h2,Np,List.mem_cons];grind
   ·have:=SB (x:=x) (qs:=qs)
    rw [List.foldl_cons,List.length_cons];omega
theorem D9 {xs:List Rat}:Wc (MJ xs):=(J5 xs [] .nil).1
theorem DC {xs:List Rat} {y:Rat}:y∈MJ xs↔y∈xs:=by rw [MJ,(J5 xs [] .nil).2.1];simp
theorem V8 {xs:List Rat}:(MJ xs).length<=xs.length:=by have:=(J5 xs [] .nil).2.2;unfold MJ;simpa using this
abbrev Pl:=Rat×Int
abbrev CT:=Rat×Int×Option Rat
def bp (s:CT):Pl:=(s.1,1-s.2.1)
def ep (s:CT):Option Pl:=s.2.2.map λe=>(e,0)
def ZG:Option Rat->PV|none=> .non|some e=>fr e
def hG (s:CT):PV:= .tup [fr s.1, .int s.2.1,ZG s.2.2]
def g9 (s:CT):PV:= .lst [fr s.1, .int s.2.1,ZG s.2.2]
def Pr (s:CT) (p:Pl):Int:=(if bp s=p then 1 else 0)-(if ep s=some p then 1 else 0)
def cnt (ss:List CT) (p:Pl):Int:=(ss.map λs=>Pr s p).sum
def cV (ss:List CT) (p:Pl):Prop:=∃s∈ss,bp s=p\/ep s=some p
inductive MO:List PV->List CT->Prop where
 | nil:MO [] []
 | cons {x:PV} {s:CT} {xs:List PV} {ss:List CT} (h:x=hG s\/x=g9 s) (t:MO xs ss):MO (x::xs) (s::ss)
theorem MO.length:∀{xs:List PV} {ss:List CT},MO xs ss->xs.length=ss.length
 | _,_, .nil=>rfl
 | _,_, .cons _ t=>by simp [t.length]
def Lx (x p:Pl):Bool:=decide (x.1<p.1)||(decide (x.1=p.1)&&decide (x.2<=p.2))
def Cp (s:CT) (p:Pl):Bool:=(decide (s.1<p.1)||(decide (s.1=p.1)&&decide (0<s.2.1+p.2)))&&(match s.2.2 with | none=>true|some e=>decide (p.1<e))
structure Ep (B:Nat) (s:CT):Prop where
 b:Bd B s.1
 h:s.2.1=0\/s.2.1=1
 e:∀e,s.2.2=some e->s.1<e/\Bd B e
def tm (s:CT) (p:Pl):Int:=(if Lx (bp s) p=true then 1 else 0)-(if (ep s).any (Lx · p)=true then 1 else 0)
theorem d8 {B:Nat} {s:CT} {p:Pl} (ok:Ep B s) (hp:0<=p.2):tm s p=if Cp s p=true then 1 else 0:=by
 obtain ⟨b,h,e⟩:=s
 obtain ⟨q,i⟩:=p
 have hh:h=0\/h=1:=ok.h
 have hp:0<=i:=hp
 have e1:Lx (bp (b,h,e)) (q,i)=(decide (b<q)||(decide (b=q)&&decide (0<h+i))):=by
  unfold Lx bp
  congr 2
  exact decide_eq_decide.mpr (by show 1-h<=i↔0<h+i;omega)
 cases e with
 | none=>
   unfold tm Cp
   rw [e1]
   simp [ep]
 | some e=>
   have R7:b<e:=(ok.e e rfl).1
   have e2:(ep (b,h,some e)).any (Lx · (q,i))= !decide (q<e):=by
    show Lx (e,0) (q,i)=_
    unfold Lx
    by_cases z:q<e
    ·have z1:¬e<q:=by grind
     have z2:¬e=q:=by grind
     simp [z,z1,z2]
    ·by_cases z1:e<q
     ·simp [z,z1]
     ·have z2:e=q:=by grind
      simp [z2,hp]
   unfold tm Cp
   rw [e1,e2]
   by_cases z:q<e
   ·simp [z]
   ·have z1:b<q:=by grind
    simp [z,z1]
def Hn (ss:List CT) (p:Pl):Nat:=(ss.filter (Cp · p)).length
theorem Qy {B:Nat} {p:Pl} (hp:0<=p.2):∀{ss:List CT},(∀s∈ss,Ep B s)->(Hn ss p:Int)=(ss.map λs=>tm s p).sum
 | [],_=>rfl
 | s::ss,h=>by
   have ih:=Qy hp (ss:=ss) λx hx=>h x (by simp [hx])
   have e:=d8 (p:=p) (h s (by simp)) hp
   rw [List.map_cons,List.sum_cons,<-ih,e]
   unfold Hn
   rw [List.filter_cons]
   split
   ·simp;omega
   ·simp
def J1 (x p:Pl):Prop:=x.1<p.1\/(x.1=p.1/\x.2<p.2)
theorem Ig {a b c:Pl} (h:J1 a b) (h2:J1 b c):J1 a c:=by
 unfold J1 at *
 rcases h with h|⟨h,h'⟩ <;> rcases h2 with h2|⟨h2,bC⟩
 ·left;grind
 ·left;grind
 ·left;grind
 ·right;exact ⟨by grind,by omega⟩
theorem Fu {x p:Pl}:Lx x p=true↔J1 x p\/x=p:=by
 obtain ⟨a,i⟩:=x
 obtain ⟨b,j⟩:=p
 unfold Lx J1
 simp only [Bool.or_eq_true,Bool.and_eq_true,decide_eq_true_iff,Prod.mk.injEq]
 constructor
 ·rintro (h|⟨h,h2⟩)
  ·exact .inl (.inl h)
  ·by_cases e:i=j
   ·exact .inr ⟨h,e⟩
   ·exact .inl (.inr ⟨h,by omega⟩)
 ·rintro ((h|⟨h,h2⟩)|⟨h,h2⟩)
  ·exact .inl h
  ·exact .inr ⟨h,by omega⟩
  ·exact .inr ⟨h,by omega⟩
theorem J2 {p:Pl}:¬J1 p p:=by
 unfold J1
 rintro (h|⟨_,h⟩)
 ·grind
 ·omega
def Pe (x:Pl):Option Pl->Bool|none=>false|some p=>Lx x p
def YO (s:CT) (o:Option Pl):Int:=(if Pe (bp s) o=true then 1 else 0)-(if (ep s).any (Pe · o)=true then 1 else 0)
def gu:Option Pl->Pl->Prop|none,_=>True|some q,p=>J1 q p
theorem IG {x p:Pl} {o:Option Pl} (hx:Pe x o=true\/x=p\/J1 p x) (ho:gu o p):Lx x p=(Pe x o||decide (x=p))/\¬(Pe x o=true/\x=p):=by
 have h1:Pe x o=true->J1 x p:=λh=>by
  cases o with
  | none=>cases h
  | some q=>rcases Fu.mp h with h|h
            ·exact Ig h ho
            ·rw [h];exact ho
 refine ⟨?_,λh=>by rw [h.2] at h1;exact J2 (h1 (h.2 ▸ h.1))⟩
 rw [Bool.eq_iff_iff,Bool.or_eq_true,decide_eq_true_iff,Fu]
 constructor
 ·rintro (h|h)
  ·rcases hx with z|z|z
   ·exact .inl z
   ·exact .inr z
   ·exact absurd (Ig h z) J2
  ·exact .inr h
 ·rintro (h|h)
  ·exact .inl (h1 h)
  ·exact .inr h
theorem VQ {A:Bool} {E:Prop} [Decidable E] (h:¬(A=true/\E)):(if (A||decide E)=true then (1:Int) else 0)=(if A=true then 1 else 0)+if E then 1 else 0:=by
 cases A <;> by_cases e:E <;> simp_all
theorem YQ {s:CT} {p:Pl} {o:Option Pl} (hb:Pe (bp s) o=true\/bp s=p\/J1 p (bp s)) (he:∀x,ep s=some x->Pe x o=true\/x=p\/J1 p x) (ho:gu o p):tm s p=YO s o+Pr s p:=by
 obtain ⟨b1,b2⟩:=IG hb ho
 unfold tm YO Pr
 rw [b1,VQ b2]
 cases e:ep s with
 | none=>simp
 | some x=>
   obtain ⟨e1,e2⟩:=IG (he x e) ho
   have h1:(if (some x).any (Lx · p)=true then (1:Int) else 0)=(if Pe x o=true then 1 else 0)+if x=p then 1 else 0:=by
    show (if Lx x p=true then (1:Int) else 0)=_
    rw [e1,VQ e2]
   rw [h1]
   show _=(_-(if Pe x o=true then (1:Int) else 0))+(_-(if some x=some p then (1:Int) else 0))
   have h2:(if some x=some p then (1:Int) else 0)=if x=p then 1 else 0:=by by_cases z:x=p <;> simp [z]
   rw [h2]
   omega
def Uk (X:List Pl):Prop:=X.Pairwise J1
def IV (ss:List CT):Int->List Pl->Prop
 | _, [] =>True
 | c,p::r=>(Hn ss p:Int)=c+cnt ss p/\IV ss (Hn ss p) r
theorem Sw {α:Type} (f g:α->Int):∀xs:List α,(xs.map λx=>f x+g x).sum=(xs.map f).sum+(xs.map g).sum
 | [] =>rfl
 | x::xs=>by simp only [List.map_cons,List.sum_cons,Sw f g xs];omega
theorem LA {B:Nat} {ss:List CT} (ok:∀s∈ss,Ep B s):∀(X:List Pl) (o:Option Pl),Uk X->(∀p∈X,gu o p/\0<=p.2)->(∀s∈ss,(Pe (bp s) o=true\/bp s∈X)/\∀x,ep s=some x->Pe x o=true\/x∈X)->IV ss ((ss.map λs=>YO s o).sum) X
 | [],_,_,_,_=>True.intro
 | p::r,o,hs,ho,hk=>by
   obtain ⟨h1,h2⟩:=List.pairwise_cons.mp hs
   obtain ⟨op,p0⟩:=ho p (by simp)
   have cls:∀x,(Pe x o=true\/x∈p::r)->Pe x o=true\/x=p\/J1 p x:=λx h=>by
    rcases h with h|h
    ·exact .inl h
    ·rcases List.mem_cons.mp h with h|h
     ·exact .inr (.inl h)
     ·exact .inr (.inr (h1 x h))
   have e:(Hn ss p:Int)=(ss.map λs=>YO s o).sum+cnt ss p:=by
    rw [Qy p0 ok]
    unfold cnt
    rw [<-Sw]
    congr 1
    apply List.map_congr_left
    intro s hs
    exact YQ (cls _ (hk s hs).1) (λx ex=>cls x ((hk s hs).2 x ex)) op
   refine ⟨e, ?_⟩
   have:=LA ok r (some p) h2 (λq hq=>⟨h1 q hq,(ho q (by simp [hq])).2⟩) (λs hs=>⟨?_,λx ex=> ?_⟩)
   ·rw [show (ss.map λs=>YO s (some p)).sum=(Hn ss p:Int) from (Qy p0 ok).symm] at this
    exact this
   ·rcases cls _ (hk s hs).1 with z|z|z
    ·exact .inl (by rw [show Pe (bp s) (some p)=Lx (bp s) p from rfl,(IG (.inl z) op).1,z];rfl)
    ·exact .inl (Fu.mpr (.inr z))
    ·rcases (hk s hs).1 with y|y
     ·exact .inl (by rw [show Pe (bp s) (some p)=Lx (bp s) p from rfl,(IG (.inl y) op).1,y];rfl)
     ·rcases List.mem_cons.mp y with y|y
      ·exact .inl (Fu.mpr (.inr y))
      ·exact .inr y
   ·rcases (hk s hs).2 x ex with y|y
    ·exact .inl (by rw [show Pe x (some p)=Lx x p from rfl,(IG (.inl y) op).1,y];rfl)
    ·rcases List.mem_cons.mp y with y|y
     ·exact .inl (Fu.mpr (.inr y))
     ·exact .inr y
def places (qs:List Rat):List Pl:=qs.flatMap λq=> [(q,0),(q,1)]
theorem Bc {qs:List Rat} {p:Pl}:p∈places qs↔p.1∈qs/\(p.2=0\/p.2=1):=by
 obtain ⟨a,i⟩:=p
 unfold places
 simp only [List.mem_flatMap,List.mem_cons,List.not_mem_nil,or_false,Prod.mk.injEq]
 constructor
 ·rintro ⟨q,hq,⟨rfl,rfl⟩|⟨rfl,rfl⟩⟩
  ·exact ⟨hq, .inl rfl⟩
  ·exact ⟨hq, .inr rfl⟩
 ·rintro ⟨h,h2⟩
  exact ⟨a,h,h2.elim (λz=> .inl ⟨rfl,z⟩) (λz=> .inr ⟨rfl,z⟩)⟩
theorem EC:∀{qs:List Rat},Wc qs->Uk (places qs)
 | [],_=>List.Pairwise.nil
 | q::r,h=>by
   obtain ⟨h1,h2⟩:=List.pairwise_cons.mp h
   have ih:=EC h2
   have lt:∀(i:Int),∀p∈places r,J1 (q,i) p:=λi p hp=> .inl (h1 _ (Bc.mp hp).1)
   show Uk ((q,0)::(q,1)::places r)
   refine List.pairwise_cons.mpr ⟨λp hp=> ?_,List.pairwise_cons.mpr ⟨lt 1,ih⟩⟩
   rcases List.mem_cons.mp hp with rfl|hp
   ·exact .inr ⟨rfl,by show (0:Int)<1;decide⟩
   ·exact lt 0 p hp
def Dd (ss:List CT):List Rat:=ss.flatMap λs=>s.1::s.2.2.toList
def Ea (ss:List CT):List Pl:=places (MJ (Dd ss))
theorem LL {B:Nat} {ss:List CT} (ok:∀s∈ss,Ep B s) {s:CT} (hs:s∈ss):bp s∈Ea ss/\∀x,ep s=some x->x∈Ea ss:=by
 refine ⟨Bc.mpr ⟨DC.mpr (List.mem_flatMap.mpr ⟨s,hs,by simp [bp]⟩), ?_⟩,λx ex=> ?_⟩
 ·have:=(ok s hs).h;unfold bp;simp only;omega
 ·obtain ⟨e,he,rfl⟩:=Option.map_eq_some_iff.mp ex
  exact Bc.mpr ⟨DC.mpr (List.mem_flatMap.mpr ⟨s,hs,by simp [he]⟩), .inl rfl⟩
theorem PF {B:Nat} {ss:List CT} (ok:∀s∈ss,Ep B s):IV ss 0 (Ea ss):=by
 have h:=LA ok (Ea ss) none (EC D9) (λp hp=>⟨True.intro,by rcases (Bc.mp hp).2 with z|z <;> omega⟩) (λs hs=>⟨.inr (LL ok hs).1,λx ex=> .inr ((LL ok hs).2 x ex)⟩)
 have:(ss.map λs=>YO s none).sum=0:=by
  clear h ok
  induction ss with
  | nil=>rfl
  | cons s ss ih=>
    rw [List.map_cons,List.sum_cons,ih]
    unfold YO
    cases ep s <;> rfl
 rw [this] at h
 exact h
section
variable {ta tb td:AE} {r:AA} {τ:BB} {Q:PV->Prop} {QL:List PV->Prop} {m:List (FK×Int)}
class lI (m:List (FK×Int)) (k:FK) (i:outParam Int):Prop where
 e:iK m k=some i
end
def un (k:FK):Rat:=mkRat k.1.1 k.1.2.toNat
def stepI (st:List CT×Option Pl) (x:Pl×Bool):List CT×Option Pl:=
 match st.2,x.2 with
 | none,true=>(st.1,some x.1)
 | some b,false=>(st.1 ++ [(b.1,1-b.2,some x.1.1)],none)
 | _,_=>st
def PN (st:List CT×Option Pl):List CT:=match st.2 with | none=>st.1|some b=>st.1 ++ [(b.1,1-b.2,none)]
def Mj (X:List (Pl×Bool)):List CT:=PN (X.foldl stepI ([],none))
theorem Me:∀{ss:List CT},(Dd ss).length<=2*ss.length
 | [] =>by simp [Dd]
 | s::ss=>by
   have ih:=Me (ss:=ss)
   unfold Dd at *
   rw [List.flatMap_cons,List.length_append,List.length_cons,List.length_cons]
   have:s.2.2.toList.length<=1:=by cases s.2.2 <;> simp
   omega
theorem LV:∀{qs:List Rat},(places qs).length=2*qs.length
 | [] =>rfl
 | q::qs=>by
   have ih:=LV (qs:=qs)
   unfold places at *
   rw [List.flatMap_cons,List.length_append,ih,List.length_cons];simp;omega
def Qa (In key:Pl->Bool):Bool->List Pl->Prop
 | _, [] =>True
 | c,p::r=>(key p=false->In p=c)/\Qa In key (In p) r
theorem Re {st:List CT×Option Pl} {p:Pl} {i:Bool}:(stepI st (p,i)).2.isSome=i:=by
 obtain ⟨L,b⟩:=st
 cases b <;> cases i <;> rfl
theorem Rc {st:List CT×Option Pl} {p:Pl} {i:Bool} (h:i=st.2.isSome):stepI st (p,i)=st:=by
 obtain ⟨L,b⟩:=st
 cases b <;> cases i <;> first | rfl|cases h
theorem Iq {In key:Pl->Bool}:∀(X:List Pl) (st:List CT×Option Pl),Qa In key st.2.isSome X->(X.map λp=>(p,In p)).foldl stepI st=((X.filter key).map λp=>(p,In p)).foldl stepI st
 | [],st,_=>rfl
 | p::r,st,h=>by
   rw [List.map_cons,List.foldl_cons,List.filter_cons]
   cases k:key p with
   | true=>
     rw [if_pos rfl,List.map_cons,List.foldl_cons]
     exact Iq r _ (by rw [Re];exact h.2)
   | false=>
     have e:=h.1 k
     rw [if_neg (by decide),Rc e]
     exact Iq r st (by have:=h.2;rw [e] at this;exact this)
theorem Lj {ss:List CT} {key:Pl->Bool} {n:Int} (hk:∀p,key p=false->cnt ss p=0):∀(X:List Pl) (c:Int),IV ss c X->Qa (λp=>decide (n<=(Hn ss p:Int))) key (decide (n<=c)) X
 | [],_,_=>True.intro
 | p::r,c,h=>⟨λk=>(by show decide (n<=(Hn ss p:Int))=_;rw [h.1,hk p k,Int.add_zero]),Lj hk r _ h.2⟩
def canon (n:Int) (ss:List CT):List CT:=Mj ((Ea ss).map λp=>(p,decide (n<=(Hn ss p:Int))))
theorem Uu {ss:List CT} {p:Pl} (h:¬cV ss p):cnt ss p=0:=by
 have key:∀ss:List CT,(∀s∈ss,¬(bp s=p\/ep s=some p))->cnt ss p=0:=by
  intro ss
  induction ss with
  | nil=>intro _;rfl
  | cons s ss ih=>
    intro h
    have h1:=h s (by simp)
    have e:cnt (s::ss) p=Pr s p+cnt ss p:=by simp [cnt]
    rw [e,ih λx hx=>h x (by simp [hx])]
    unfold Pr
    rw [if_neg λz=>h1 (.inl z),if_neg λz=>h1 (.inr z)]
    rfl
 exact key ss λs hs z=>h ⟨s,hs,z⟩
theorem Nf {ss:List CT} {p:Pl}:decide ((1:Int)<=(Hn ss p:Int))=ss.any (Cp · p):=by
 rw [Bool.eq_iff_iff,decide_eq_true_iff,List.any_eq_true]
 unfold Hn
 constructor
 ·intro h
  obtain ⟨s,hs⟩:=List.exists_mem_of_length_pos (l:=ss.filter (Cp · p)) (by omega)
  have:=List.mem_filter.mp hs
  exact ⟨s,this.1,this.2⟩
 ·rintro ⟨s,hs,h⟩
  have:=List.length_pos_of_mem (List.mem_filter.mpr ⟨hs,h⟩:s∈ss.filter (Cp · p))
  omega
def Dj (In:Pl->Bool):List Pl->Option Pl->List CT
 | [],none=> []
 | [],some b=> [(b.1,1-b.2,none)]
 | p::r,none=>if In p=true then Dj In r (some p) else Dj In r none
 | p::r,some b=>if In p=true then Dj In r (some b) else (b.1,1-b.2,some p.1)::Dj In r none
theorem LX {In:Pl->Bool}:∀(X:List Pl) (acc:List CT) (b:Option Pl),PN ((X.map λp=>(p,In p)).foldl stepI (acc,b))=acc++Dj In X b
 | [],acc,none=>by simp [PN,Dj]
 | [],acc,some b=>by simp [PN,Dj]
 | p::r,acc,none=>by
   rw [List.map_cons,List.foldl_cons]
   unfold Dj
   cases e:In p with
   | true=>exact LX r acc (some p)
   | false=>exact LX r acc none
 | p::r,acc,some b=>by
   rw [List.map_cons,List.foldl_cons]
   unfold Dj
   cases e:In p with
   | true=>exact LX r acc (some b)
   | false=>
     show PN ((r.map λp=>(p,In p)).foldl stepI (acc ++ [(b.1,1-b.2,some p.1)],none))=acc++((b.1,1-b.2,some p.1)::Dj In r none)
     rw [LX r _ none];simp
theorem Ml {In:Pl->Bool} {X:List Pl}:Mj (X.map λp=>(p,In p))=Dj In X none:=by
 unfold Mj;rw [LX];rfl
theorem Jy {q p:Pl} {e:Option Rat} (hq:q.2=0\/q.2=1) (hp:0<=p.2):Cp (q.1,1-q.2,e) p=(Lx q p&&(match e with | none=>true|some e=>decide (p.1<e))):=by
 unfold Cp Lx
 congr 2
 congr 1
 exact decide_eq_decide.mpr (by show 0<1-q.2+p.2↔q.2<=p.2;omega)
def IY (In:Pl->Bool):Bool->List Pl->Prop
 | _, [] =>True
 | c,p::r=>(c=true->In p=false->p.2=0)/\IY In (In p) r
theorem SV {In:Pl->Bool}:∀(X:List Pl),Uk X->(∀x∈X,x.2=0\/x.2=1)->
 (IY In false X->(∀p:Pl,0<=p.2->(∀x∈X,J1 p x)->(Dj In X none).any (Cp · p)=false)/\∀p∈X,(Dj In X none).any (Cp · p)=In p)/\
 (IY In true X->∀q:Pl,(q.2=0\/q.2=1)->(∀x∈X,J1 q x)->(∀p:Pl,0<=p.2->(∀x∈X,J1 p x)->(Dj In X (some q)).any (Cp · p)=Lx q p)/\∀p∈X,(Dj In X (some q)).any (Cp · p)=In p)
 | [],_,_=>⟨λ_=>⟨λp _ _=>rfl,λp hp=>by cases hp⟩,λ_ q hq _=>⟨λp hp _=>by show (Cp (q.1,1-q.2,none) p||false)=_;rw [Jy hq hp];simp,λp hp=>by cases hp⟩⟩
 | x::r,hs,Qv=>by
   obtain ⟨h1,h2⟩:=List.pairwise_cons.mp hs
   have ih:=SV (In:=In) r h2 λy hy=>Qv y (by simp [hy])
   have x01:=Qv x (by simp)
   have x0:0<=x.2:=by omega
   have lr:∀p:Pl,(∀y∈x::r,J1 p y)->∀y∈r,J1 p y:=λp h y hy=>h y (by simp [hy])
   have nl:∀p:Pl,J1 p x->Lx x p=false:=λp h=>by
    rw [<-Bool.not_eq_true,Fu]
    rintro (z|z)
    ·exact J2 (Ig z h)
    ·rw [z] at h;exact J2 h
   have lx:Lx x x=true:=Fu.mpr (.inr rfl)
   refine ⟨λhd=> ?_,λhd q hq jU=> ?_⟩
   ·unfold Dj
    cases e:In x with
    | true=>
      have d2:=hd.2;rw [e] at d2
      obtain ⟨a1,a2⟩:=ih.2 d2 x x01 h1
      rw [if_pos rfl]
      refine ⟨λp p0 hp=> ?_,λp hp=> ?_⟩
      ·rw [a1 p p0 (lr p hp),nl p (hp x (by simp))]
      ·rcases List.mem_cons.mp hp with rfl|hp
       ·rw [a1 p x0 h1,lx,e]
       ·exact a2 p hp
    | false=>
      have d2:=hd.2;rw [e] at d2
      obtain ⟨a1,a2⟩:=ih.1 d2
      rw [if_neg (by decide)]
      refine ⟨λp p0 hp=>a1 p p0 (lr p hp),λp hp=> ?_⟩
      rcases List.mem_cons.mp hp with rfl|hp
      ·rw [a1 p x0 h1,e]
      ·exact a2 p hp
   ·unfold Dj
    have qx:Lx q x=true:=Fu.mpr (.inl (jU x (by simp)))
    cases e:In x with
    | true=>
      have d2:=hd.2;rw [e] at d2
      obtain ⟨a1,a2⟩:=ih.2 d2 q hq (lr q jU)
      rw [if_pos rfl]
      refine ⟨λp p0 hp=>a1 p p0 (lr p hp),λp hp=> ?_⟩
      rcases List.mem_cons.mp hp with rfl|hp
      ·rw [a1 p x0 h1,qx,e]
      ·exact a2 p hp
    | false=>
      have d2:=hd.2;rw [e] at d2
      obtain ⟨a1,a2⟩:=ih.1 d2
      have xz:=hd.1 rfl e
      rw [if_neg (by decide)]
      have off:∀p:Pl,(p=x\/J1 x p)->¬p.1<x.1:=λp h=>by
       rcases h with h|h|⟨h,_⟩ <;> grind
      refine ⟨λp p0 hp=> ?_,λp hp=> ?_⟩
      ·have lt:p.1<x.1:=by
        rcases hp x (by simp) with z|⟨_,z⟩
        ·exact z
        ·omega
       show (Cp (q.1,1-q.2,some x.1) p||(Dj In r none).any (Cp · p))=_
       rw [Jy hq p0,a1 p p0 (lr p hp)]
       simp [lt]
      ·show (Cp (q.1,1-q.2,some x.1) p||(Dj In r none).any (Cp · p))=_
       rcases List.mem_cons.mp hp with rfl|hp
       ·rw [Jy hq x0,a1 p x0 h1,e]
        simp [off p (.inl rfl)]
       ·rw [Jy hq (by have:=Qv p (by simp [hp]);omega),a2 p hp]
        simp [off p (.inr (h1 p hp))]
theorem Pw {In:Pl->Bool} (P:Rat->Prop):∀(X:List Pl) (b:Option Pl),Uk X->(∀x∈X,(x.2=0\/x.2=1)/\P x.1)->IY In b.isSome X->(∀q,b=some q->(q.2=0\/q.2=1)/\P q.1/\∀x∈X,J1 q x)->
 ∀s∈Dj In X b,P s.1/\(s.2.1=0\/s.2.1=1)/\∀e,s.2.2=some e->s.1<e/\P e
 | [],none,_,_,_,_=>λs hs=>by cases hs
 | [],some q,_,_,_,hb=>λs hs=>by
   obtain ⟨h1,h2,_⟩:=hb q rfl
   simp only [Dj,List.mem_singleton] at hs
   subst hs
   exact ⟨h2,by show 1-q.2=0\/1-q.2=1;omega,λe he=>by cases he⟩
 | x::r,b,hs,Qv,hd,hb=>by
   obtain ⟨h1,h2⟩:=List.pairwise_cons.mp hs
   have ih:=λb d hb=>Pw (In:=In) P r b h2 (λy hy=>Qv y (by simp [hy])) d hb
   have d2:=hd.2
   cases b with
   | none=>
     unfold Dj
     cases e:In x with
     | true=>
       rw [if_pos rfl]
       rw [e] at d2
       exact ih (some x) d2 λq hq=>by cases hq;exact ⟨(Qv x (by simp)).1,(Qv x (by simp)).2,h1⟩
     | false=>
       rw [if_neg (by decide)]
       rw [e] at d2
       exact ih none d2 λq hq=>by cases hq
   | some q=>
     obtain ⟨q1,q2,q3⟩:=hb q rfl
     unfold Dj
     cases e:In x with
     | true=>
       rw [if_pos rfl]
       rw [e] at d2
       exact ih (some q) d2 λq' hq=>by cases hq;exact ⟨q1,q2,λy hy=>q3 y (by simp [hy])⟩
     | false=>
       rw [if_neg (by decide)]
       rw [e] at d2
       have xz:=hd.1 rfl e
       intro s hs
       rcases List.mem_cons.mp hs with rfl|hs
       ·refine ⟨q2,by show 1-q.2=0\/1-q.2=1;omega,λe' he=> ?_⟩
        cases he
        refine ⟨?_,(Qv x (by simp)).2⟩
        rcases q3 x (by simp) with z|⟨_,z⟩
        ·exact z
        ·omega
       ·exact ih none d2 (λq hq=>by cases hq) s hs
theorem Gy {ss:List CT}:∀(X:List Pl) (c:Int),(∀x∈X,x.2=0\/x.2=1)->IV ss c X->IY (λp=>ss.any (Cp · p)) (decide (1<=c)) X
 | [],_,_,_=>True.intro
 | p::r,c,Qv,h=>by
   have ih:=Gy r (Hn ss p) (λx hx=>Qv x (by simp [hx])) h.2
   rw [Nf] at ih
   refine ⟨λhc hi=> ?_,ih⟩
   rcases Qv p (by simp) with z|z
   ·exact z
   ·have hc:1<=c:=by simpa using hc
    have hi:ss.any (Cp · p)=false:=hi
    rw [<-Nf] at hi
    have hi:¬(1:Int)<=Hn ss p:=by simpa using hi
    have c0:0<=cnt ss p:=by
     have go:∀ss:List CT,0<=cnt ss p:=by
      intro ss
      induction ss with
      | nil=>exact Int.le_refl _
      | cons s ss ih=>
        have e:cnt (s::ss) p=Pr s p+cnt ss p:=by simp [cnt]
        have o:0<=Pr s p:=by
         unfold Pr
         have:¬ep s=some p:=λy=>by
          obtain ⟨e',_,e2⟩:=Option.map_eq_some_iff.mp y
          have:(0:Int)=p.2:=congrArg Prod.snd e2
          omega
         rw [if_neg this]
         split <;> decide
        omega
     exact go ss
    have:=h.1
    omega
theorem Sn {ss:List CT}:∀x∈Ea ss,x.2=0\/x.2=1:=λx hx=>(Bc.mp hx).2
theorem TV {ss:List CT}:canon 1 ss=Dj (λp=>ss.any (Cp · p)) (Ea ss) none:=by
 unfold canon
 rw [<-Ml]
 congr 1
 apply List.map_congr_left
 intro p _
 rw [Nf]
theorem RY {ss:List CT} {B:Nat} (ok:∀s∈ss,Ep B s):IY (λp=>ss.any (Cp · p)) false (Ea ss):=Gy (Ea ss) 0 Sn (PF ok)
theorem Qk {ss:List CT} {B:Nat} (ok:∀s∈ss,Ep B s):∀s∈canon 1 ss,s.1∈Dd ss/\(s.2.1=0\/s.2.1=1)/\∀e,s.2.2=some e->s.1<e/\e∈Dd ss:=by
 rw [TV]
 exact Pw (· ∈Dd ss) (Ea ss) none (EC D9) (λx hx=>⟨Sn x hx,DC.mp (Bc.mp hx).1⟩) (RY ok) λq hq=>by cases hq
theorem SH {ss:List CT} {B:Nat} (ok:∀s∈ss,Ep B s):∀x∈Dd ss,Bd B x:=λx h=>by
 obtain ⟨s,hs,hx⟩:=List.mem_flatMap.mp h
 rcases List.mem_cons.mp hx with rfl|hx
 ·exact (ok s hs).b
 ·exact ((ok s hs).e x (by simpa using hx)).2
theorem Us {ss:List CT} {B:Nat} (ok:∀s∈ss,Ep B s):∀s∈canon 1 ss,Ep B s:=λs hs=>by
 obtain ⟨h1,h2,h3⟩:=Qk ok s hs
 exact ⟨SH ok _ h1,h2,λe he=>⟨(h3 e he).1,SH ok _ (h3 e he).2⟩⟩
theorem GS (f:Rat->Bool):∀qs:List Rat,(places qs).filter (λp=>f p.1)=places (qs.filter f)
 | [] =>rfl
 | q::qs=>by
   show ((q,0)::(q,1)::places qs).filter (λp=>f p.1)=_
   rw [List.filter_cons,List.filter_cons,List.filter_cons,GS f qs]
   cases f q <;> rfl
theorem VY {xs:List PV} {k:Int} {R:PV->Prop} (h0:0<=k) (h1:k<xs.length) (h:∀x∈xs,R x):Ah (.lst xs) (.int k) R:=by
 have hk:k.toNat<xs.length:=by omega
 have e:EE xs ((k.toNat:Nat):Int)=some xs[k.toNat] :=Ct (List.getElem?_eq_getElem hk)
 rw [show ((k.toNat:Nat):Int)=k by omega] at e
 show MI (EE xs k) R
 rw [e]
 exact h _ (List.getElem_mem hk)
def C1 (ms:List Rat) (ss:List CT):List Pl:=places (MJ (ms++Dd ss))
theorem HS {B:Nat} {ms:List Rat} {ss:List CT} (ok:∀s∈ss,Ep B s):IV ss 0 (C1 ms ss):=by
 have kin:∀s∈ss,bp s∈C1 ms ss/\∀x,ep s=some x->x∈C1 ms ss:=λs hs=>by
  obtain ⟨h1,h2⟩:=LL ok hs
  have up:∀x∈Ea ss,x∈C1 ms ss:=λx hx=>by
   obtain ⟨a,b⟩:=Bc.mp hx
   exact Bc.mpr ⟨DC.mpr (List.mem_append_right _ (DC.mp a)),b⟩
  exact ⟨up _ h1,λx ex=>up _ (h2 x ex)⟩
 have h:=LA ok (C1 ms ss) none (EC D9) (λp hp=>⟨True.intro,by rcases (Bc.mp hp).2 with z|z <;> omega⟩) (λs hs=>⟨.inr (kin s hs).1,λx ex=> .inr ((kin s hs).2 x ex)⟩)
 have z:(ss.map λs=>YO s none).sum=0:=by
  clear h kin ok
  induction ss with
  | nil=>rfl
  | cons s ss ih=>
    rw [List.map_cons,List.sum_cons,ih]
    unfold YO
    cases ep s <;> rfl
 rw [z] at h
 exact h
theorem Qj {B:Nat} {ms:List Rat} {ss:List CT} {n:Int} (ok:∀s∈ss,Ep B s) (hn:0<n):Mj ((C1 ms ss).map λp=>(p,decide (n<=(Hn ss p:Int))))=canon n ss:=by
 have hk:∀p:Pl,decide (p.1∈Dd ss)=false->cnt ss p=0:=λp hp=>Uu λ⟨s,hs,z⟩=>by
  have hp:¬p.1∈Dd ss:=by simpa using hp
  refine hp (List.mem_flatMap.mpr ⟨s,hs, ?_⟩)
  rcases z with z|z
  ·rw [<-z];simp [bp]
  ·obtain ⟨e',he,rfl⟩:=Option.map_eq_some_iff.mp z
   simp [he]
 have sk:=Lj (n:=n) (ss:=ss) (key:=λp=>decide (p.1∈Dd ss)) hk (C1 ms ss) 0 (HS ok)
 rw [decide_eq_false (by omega)] at sk
 have h:=Iq (C1 ms ss) ([],none) sk
 have e1:(C1 ms ss).filter (λp=>decide (p.1∈Dd ss))=Ea ss:=by
  unfold C1 Ea
  rw [GS (λx=>decide (x∈Dd ss))]
  congr 1
  refine Ss (D9.filter _) D9 λx=> ?_
  rw [List.mem_filter,DC,DC,decide_eq_true_iff]
  exact ⟨λh=>h.2,λh=>⟨List.mem_append_right _ h,h⟩⟩
 rw [e1] at h
 show PN _=PN _
 rw [h]
theorem PC {B:Nat} {ss:List CT} (ok:∀s∈ss,Ep B s) {p:Pl} (hp:p.2=0\/p.2=1):(canon 1 ss).any (Cp · p)=ss.any (Cp · p):=by
 have hm:p∈C1 [p.1] ss:=Bc.mpr ⟨DC.mpr (by simp),hp⟩
 have Qv:∀x∈C1 [p.1] ss,x.2=0\/x.2=1:=λx hx=>(Bc.mp hx).2
 have dr:=Gy (C1 [p.1] ss) 0 Qv (HS ok)
 have e:canon 1 ss=Dj (λp=>ss.any (Cp · p)) (C1 [p.1] ss) none:=by
  rw [<-Qj (ms:= [p.1]) ok (by decide),<-Ml]
  congr 1
  apply List.map_congr_left
  intro q _
  rw [Nf]
 rw [e]
 exact ((SV (C1 [p.1] ss) (EC D9) Qv).1 dr).2 p hm
def hN (L:List CT) (p:Pl):Nat:=(L.filter (Cp · p)).length
theorem LF:∀(X:List (Pl×Bool)) (st:List CT×Option Pl),2*(X.foldl stepI st).1.length+(if (X.foldl stepI st).2.isSome then 1 else 0)<=2*st.1.length+(if st.2.isSome then 1 else 0)+X.length
 | [],st=>Nat.le_refl _
 | x::X,st=>by
   have h1:=LF X (stepI st x)
   have h2:2*(stepI st x).1.length+(if (stepI st x).2.isSome then 1 else 0)<=2*st.1.length+(if st.2.isSome then 1 else 0)+1:=by
    obtain ⟨L,b⟩:=st
    obtain ⟨p,c⟩:=x
    cases b <;> cases c <;> simp [stepI] <;> omega
   rw [List.foldl_cons,List.length_cons];omega
theorem UF (X:List (Pl×Bool)):2*(Mj X).length<=X.length+1:=by
 have h:=LF X ([],none)
 unfold Mj
 generalize X.foldl stepI ([],none)=st at *
 obtain ⟨L,b⟩:=st
 cases b <;> simp [PN] at * <;> omega
theorem Qi {n:Int} {ss:List CT}:(canon n ss).length<=2*ss.length:=by
 unfold canon Ea
 have h:=UF ((places (MJ (Dd ss))).map λp=>(p,decide (n<=(Hn ss p:Int))))
 have a1:=V8 (xs:=Dd ss)
 have a2:=Me (ss:=ss)
 have a3:=LV (qs:=MJ (Dd ss))
 rw [List.length_map] at h
 omega
inductive O9:List PV->List (List CT)->Prop where
 | nil:O9 [] []
 | cons {x:PV} {xs:List PV} {ss:List CT} {r:List PV} {rs:List (List CT)} (h:x= .tup xs\/x= .lst xs) (hr:MO xs ss) (t:O9 r rs):O9 (x::r) (ss::rs)
theorem O9.length:∀{xs:List PV} {ss:List (List CT)},O9 xs ss->xs.length=ss.length
 | _,_, .nil=>rfl
 | _,_, .cons _ _ t=>by simp [t.length]
theorem lt_size {k n:Nat} (h:k<=n) (hn:n<1000000):k<sizeLine:=Nat.lt_of_le_of_lt h (Nat.lt_of_lt_of_le hn (Nat.le_of_ble_eq_true rfl))
def lin (p q:T3) (s:Rat):T3:=(p.1+s*(q.1-p.1),p.2.1+s*(q.2.1-p.2.1),p.2.2+s*(q.2.2-p.2.2))
theorem Zj {a0 D b e m x X:Rat} (hD:D≠0) (h:e-b≠0):x+(m-a0)/D*X=(x+(b-a0)/D*X)+(m-b)/(e-b)*((x+(e-a0)/D*X)-(x+(b-a0)/D*X)):=by
 grind
theorem Ti {a c:C4} {b e m:Rat} (h1:a.1<c.1) (h2:b<e):inter a c m=lin (inter a c b) (inter a c e) ((m-b)/(e-b)):=by
 have n1:c.1-a.1≠0:=by grind
 have n2:e-b≠0:=by grind
 simp only [inter,lin]
 rw [<-Zj n1 n2,<-Zj n1 n2,<-Zj n1 n2]
theorem Ve (p q:T3):lin p q 0=p:=by
 obtain ⟨a,b,c⟩:=p
 simp [lin,Rat.zero_mul,Rat.add_zero]
theorem Iw {b e m:Rat} {p q:T3} (R7:b<e) (h1:b<=m) (h2:m<=e):∀{a:C4} {r:List C4},Bk (a::r)->(∀c∈r,¬(b<c.1/\c.1<e))->spotG a r b=some p->spotG a r e=some q->spotG a r m=some (lin p q ((m-b)/(e-b)))
 | a, [],_,_,hp,_=>by cases hp
 | a,c::r,hr,hn,hp,hq=>by
   have gK:=(List.pairwise_cons.mp hr).1 c (by simp)
   have bF:Bk (c::r):=(List.pairwise_cons.mp hr).2
   by_cases k1:c.1<b
   ·simp only [spotG] at hp hq ⊢
    rw [if_pos k1] at hp
    rw [if_pos (by grind)] at hq ⊢
    exact Iw R7 h1 h2 bF (λx hx=>hn x (by simp [hx])) hp hq
   ·simp only [spotG] at hp hq ⊢
    rw [if_neg k1] at hp
    by_cases k2:b=c.1
    ·subst k2
     rw [Gz gK] at hp
     cases hp
     by_cases k3:c.1<m
     ·rw [if_pos k3]
      rw [if_pos (by grind)] at hq
      refine Iw R7 h1 h2 bF (λx hx=>hn x (by simp [hx])) ?_ hq
      cases r with
      | nil=>cases hq
      | cons d r=>
        have Ma:=(List.pairwise_cons.mp bF).1 d (by simp)
        simp only [spotG]
        rw [if_neg (by grind),JH Ma]
     ·have e1:m=c.1:=by grind
      subst e1
      rw [if_neg k3,Gz gK]
      have z:(c.1-c.1)/(e-c.1)=0:=by grind
      rw [z,Ve]
    ·have k4:¬c.1<e:=λz=>hn c (by simp) ⟨by grind,z⟩
     cases hp
     rw [if_neg k4] at hq
     cases hq
     rw [if_neg (by grind)]
     rw [<-Ti gK R7]
theorem M0 {b e m:Rat} {p q:T3} {cs:List C4} (hr:Bk cs) (R7:b<e) (h1:b<=m) (h2:m<=e) (hn:∀c∈cs,¬(b<c.1/\c.1<e)) (hp:spotC cs b=some p) (hq:spotC cs e=some q):spotC cs m=some (lin p q ((m-b)/(e-b))):=by
 cases cs with
 | nil=>cases hp
 | cons a r=>
   simp only [spotC] at hp hq ⊢
   by_cases k:b<a.1
   ·rw [if_pos k] at hp;cases hp
   ·rw [if_neg k] at hp
    rw [if_neg (by grind)] at hq ⊢
    exact Iw R7 h1 h2 hr (λc hc=>hn c (by simp [hc])) hp hq
theorem Ep.mono {B C:Nat} {s:CT} (h:Ep B s) (k:B<=C):Ep C s:=⟨h.b.mono k,h.h,λe he=>⟨(h.e e he).1,(h.e e he).2.mono k⟩⟩
section
variable {B:Nat} {s:CT} {a:List CT} {e:Rat}
end
def mX (xs:List Rat):Nat:=xs.foldl (λN r=>N*(r.den/Nat.gcd N r.den)) 1
def UX (N:Nat) (r:Rat):Int:=r.num*((N:Int).fdiv (r.den:Int))
structure Pc where
 b:Rat
 e:Rat
 o0:T3
 o1:T3
def Pc.six (p:Pc):List Rat:= [p.o0.1,p.o0.2.1,p.o0.2.2,p.o1.1,p.o1.2.1,p.o1.2.2]
def Pc.N (p:Pc):Nat:=mX p.six
def Pc.lns (p:Pc):List (Int×Int):= [(UX p.N p.o0.1,UX p.N p.o1.1),(-UX p.N p.o0.1, -UX p.N p.o1.1),(UX p.N p.o0.2.1,UX p.N p.o1.2.1),(-UX p.N p.o0.2.1, -UX p.N p.o1.2.1),(UX p.N p.o0.2.2,UX p.N p.o1.2.2),(-UX p.N p.o0.2.2, -UX p.N p.o1.2.2)]
def I0 (cs ds:List C4) (b e:Rat):List Rat:=MJ ([b,e] ++ ((cs.filter (Je b e)++ds.filter (Je b e)).map (·.1)))
theorem JA {cs ds:List C4} {b e x:Rat}:x∈I0 cs ds b e↔x=b\/x=e\/(b<x/\x<e/\∃c,(c∈cs\/c∈ds)/\c.1=x):=by
 unfold I0
 rw [DC]
 simp only [List.cons_append,List.nil_append,List.mem_cons,List.mem_map,List.mem_append,List.mem_filter,Je,Bool.and_eq_true,decide_eq_true_eq]
 constructor
 ·rintro (h|h|⟨c,h,rfl⟩)
  ·exact .inl h
  ·exact .inr (.inl h)
  ·rcases h with ⟨h1,h2,h3⟩|⟨h1,h2,h3⟩
   ·exact .inr (.inr ⟨h2,h3,c, .inl h1,rfl⟩)
   ·exact .inr (.inr ⟨h2,h3,c, .inr h1,rfl⟩)
 ·rintro (h|h|⟨h1,h2,c,h,rfl⟩)
  ·exact .inl h
  ·exact .inr (.inl h)
  ·exact .inr (.inr ⟨c,h.elim (λh=> .inl ⟨h,h1,h2⟩) (λh=> .inr ⟨h,h1,h2⟩),rfl⟩)
def UW (cs ds:List C4) (d:Rat×Rat) (m:Rat):T3:=Vi ((spotC cs m).getD (0,0,0)) ((spotC ds m).getD (0,0,0)) d
def dB (cs ds:List C4) (d:Rat×Rat) (ts:List Rat):List Pc:=(ts.zip ts.tail).map λp=>⟨p.1,p.2,UW cs ds d p.1,UW cs ds d p.2⟩
structure jG (cs ds:List C4) (b e:Rat):Prop where
 lt:b<e
 one:∀m,b<=m->m<=e->∃t,spotC cs m=some t
 other:∀m,b<=m->m<=e->∃t,spotC ds m=some t
theorem ak {a l a2 l2:C4} {r r2:List C4} (h0:r≠ []) (gF:r2≠ []) (el:(a::r).getLast?=some l) (el2:(a2::r2).getLast?=some l2) (h:mx a.1 a2.1<mn l.1 l2.1):jG (a::r) (a2::r2) (mx a.1 a2.1) (mn l.1 l2.1):=by
 have e1:a.1<=mx a.1 a2.1:=by unfold mx;split <;> grind
 have e2:a2.1<=mx a.1 a2.1:=by unfold mx;split <;> grind
 have e3:mn l.1 l2.1<=l.1:=by unfold mn;split <;> grind
 have e4:mn l.1 l2.1<=l2.1:=by unfold mn;split <;> grind
 exact ⟨h,λm h1 h2=>Cc h0 el (by grind) (by grind),λm h1 h2=>Cc gF el2 (by grind) (by grind)⟩
theorem mS {α:Type} {f:α->PV} {xs:List α} {k:Nat} {x:α} {R:PV->Prop} (e:xs[k]? =some x) (h:R (f x)):Ah (.lst (xs.map f)) (.int (k:Int)) R:=by
 show MI (EE (xs.map f) (k:Int)) R
 rw [Ct (v:=f x) (by rw [List.getElem?_map,e];rfl)]
 exact h
theorem UO {cs ds:List C4} {b e:Rat}:Wc (I0 cs ds b e):=D9
theorem WU {cs ds:List C4} {b e x:Rat} (h:b<e) (hx:x∈I0 cs ds b e):b<=x/\x<=e:=by
 rcases JA.mp hx with rfl|rfl|⟨h1,h2,_⟩ <;> exact ⟨by grind,by grind⟩
theorem WT {cs ds:List C4} {b e x:Rat} {M:Nat} (hc:∀c∈cs,Bd M c.1) (VJ:∀c∈ds,Bd M c.1) (bb:Bd M b) (be:Bd M e) (hx:x∈I0 cs ds b e):Bd M x:=by
 rcases JA.mp hx with rfl|rfl|⟨_,_,c,h,rfl⟩
 ·exact bb
 ·exact be
 ·rcases h with h|h
  ·exact hc c h
  ·exact VJ c h
def U4 (cs:List C4):Rat:=(cs.head?.getD (0,0,0,0)).1
def lstM (cs:List C4):Rat:=(cs.getLast?.getD (0,0,0,0)).1
def K6 (cs ds:List C4):Rat:=mx (U4 cs) (U4 ds)
def LD (cs ds:List C4):Rat:=mn (lstM cs) (lstM ds)
def eB (cs ds:List C4):List Rat:=I0 cs ds (K6 cs ds) (LD cs ds)
structure QI (cs ds:List C4) (d:Rat×Rat) (M W:Nat):Prop where
 c1:∀c∈cs,Bt 150 c
 c2:∀c∈ds,Bt 150 c
 r1:Bk cs
 r2:Bk ds
 t1:2<=cs.length
 t2:2<=ds.length
 f1:cs.length<=100
 f2:ds.length<=100
 m1:∀c∈cs,Bd M c.1
 m2:∀c∈ds,Bd M c.1
 b1:Bd 100 d.1
 b2:Bd 100 d.2
 p1:0<d.1
 p2:0<d.2
 w:K6 cs ds<LD cs ds->∀m∈eB cs ds,NP W (UW cs ds d m)
 hM:M<=150
 hW:W<=1050
theorem open2 {cs:List C4} (h:2<=cs.length):∃a r l,cs=a::r/\r≠ [] /\(a::r).getLast?=some l:=by
 match cs,h with
 | a::b::r,_=>
   obtain ⟨l,el⟩:∃l,(a::b::r).getLast?=some l:=⟨_,List.getLast?_eq_some_getLast (by simp)⟩
   exact ⟨a,b::r,l,rfl,by simp,el⟩
theorem R3 {a:C4} {r:List C4}:U4 (a::r)=a.1:=rfl
theorem J0 {cs:List C4} {l:C4} (e:cs.getLast?=some l):lstM cs=l.1:=by unfold lstM;rw [e];rfl
section
variable {cs ds:List C4} {d:Rat×Rat} {M W:Nat}
theorem QI.fstB (D:QI cs ds d M W):Bd M (U4 cs):=by
 obtain ⟨a,r,l,rfl,h0,el⟩:=open2 D.t1
 exact D.m1 a (by simp)
theorem QI.fstB2 (D:QI cs ds d M W):Bd M (U4 ds):=by
 obtain ⟨a,r,l,rfl,h0,el⟩:=open2 D.t2
 exact D.m2 a (by simp)
theorem QI.lstB (D:QI cs ds d M W):Bd M (lstM cs):=by
 obtain ⟨a,r,l,rfl,h0,el⟩:=open2 D.t1
 rw [J0 el]
 exact D.m1 l (List.mem_of_getLast? el)
theorem QI.lstB2 (D:QI cs ds d M W):Bd M (lstM ds):=by
 obtain ⟨a,r,l,rfl,h0,el⟩:=open2 D.t2
 rw [J0 el]
 exact D.m2 l (List.mem_of_getLast? el)
theorem QI.begB (D:QI cs ds d M W):Bd M (K6 cs ds):=D.fstB.mx D.fstB2
theorem QI.endB (D:QI cs ds d M W):Bd M (LD cs ds):=D.lstB.mn D.lstB2
theorem QI.tog (D:QI cs ds d M W) (h:K6 cs ds<LD cs ds):jG cs ds (K6 cs ds) (LD cs ds):=by
 obtain ⟨a,r,l,rfl,h0,el⟩:=open2 D.t1
 obtain ⟨a2,r2,l2,rfl,gF,el2⟩:=open2 D.t2
 unfold K6 LD at h ⊢
 rw [R3,R3,J0 el,J0 el2] at h ⊢
 exact ak h0 gF el el2 h
end
def jd (cs ds:List C4) (d:Rat×Rat):List Pc:=if K6 cs ds<LD cs ds then dB cs ds d (eB cs ds) else []
def sv (p:Int×Int):Rat:=(p.1:Rat)/(p.2:Rat)
structure Sz (p:Int×Int):Prop where
 pos:0<p.2
 t:p.1.natAbs<2^8850
 n:p.2.natAbs<2^8850
def lv (l:Int×Int) (s:Rat):Rat:=(l.1:Rat)+s*((l.2:Rat)-(l.1:Rat))
structure NI (N:Nat) (S:Nat) (us:List (Int×Int)) (lo hi:Int×Int) (h:Int):Prop where
 l:Sz lo
 r:Sz hi
 bl:Bd S (sv lo)
 br:Bd S (sv hi)
 Qv:h=0\/h=1
 lo0:0<=sv lo
 nW:sv hi<=1
 sem:∀s,0<=s->s<1->((∀l∈us,lv l s<N)↔(sv lo<s\/(sv lo=s/\h=1))/\s<sv hi)
structure lF (N W:Nat) (l:Int×Int):Prop where
 a:l.1.natAbs<2^8848
 b:l.2.natAbs<2^8848
 n:N<2^8848
 n0:0<N
 ex:∃u v:Rat,Bd W u/\Bd W v/\(l.1:Rat)=u*N/\(l.2:Rat)=v*N
section
variable {N W:Nat} {us:List (Int×Int)} {lo hi l:Int×Int} {h:Int}
end
def cy (N:Nat) (lns:List (Int×Int)) (b e m:Rat):Prop:=b<=m/\m<e/\∀l∈lns,lv l ((m-b)/(e-b))<N
structure jE (N:Nat) (lns:List (Int×Int)) (b e:Rat) (B:Nat) (ss:List CT):Prop where
 few:ss.length<=1
 ok:∀s∈ss,Ep B s
 fin:∀s∈ss,∃x,s.2.2=some x
 sem:∀m,ss.any (Cp · (m,0))=true↔cy N lns b e m
theorem Xk {p q p' q':T3} {d:Rat×Rat} {s:Rat}:Vi (lin p q s) (lin p' q' s) d=lin (Vi p p' d) (Vi q q' d) s:=by
 unfold Vi lin
 simp only [Rat.div_def]
 congr 1
 ·grind
 ·congr 1 <;> grind
theorem WZ {ts:List Rat} (h:Wc ts):∀p∈ts.zip ts.tail,p.1∈ts/\p.2∈ts/\p.1<p.2/\∀x∈ts,¬(p.1<x/\x<p.2):=by
 induction ts with
 | nil=>intro p hp;simp at hp
 | cons a r ih=>
   cases r with
   | nil=>intro p hp;simp at hp
   | cons b r=>
     have h1:=List.pairwise_cons.mp h
     intro p hp
     simp only [List.tail_cons,List.zip_cons_cons,List.mem_cons] at hp
     rcases hp with rfl|hp
     ·refine ⟨by simp,by simp,h1.1 b (by simp),λx hx z=> ?_⟩
      rcases List.mem_cons.mp hx with rfl|hx
      ·grind
      ·rcases List.mem_cons.mp hx with rfl|hx
       ·grind
       ·have:=(List.pairwise_cons.mp h1.2).1 x hx
        grind
     ·obtain ⟨k1,k2,k3,k4⟩:=ih h1.2 p hp
      refine ⟨by simp [k1],by simp [k2],k3,λx hx z=> ?_⟩
      rcases List.mem_cons.mp hx with rfl|hx
      ·have:=h1.1 p.1 k1;grind
      ·exact k4 x hx z
section
variable {cs ds:List C4} {d:Rat×Rat} {M W:Nat}
structure fk (cs ds:List C4) (d:Rat×Rat) (M W:Nat) (p:Pc):Prop where
 lt:p.b<p.e
 w0:NP W p.o0
 w1:NP W p.o1
 bb:Bd M p.b
 be:Bd M p.e
 lo:K6 cs ds<=p.b
 hi:p.e<=LD cs ds
 at0:p.o0=UW cs ds d p.b
 jH:p.o1=UW cs ds d p.e
 lin:∀m,p.b<=m->m<=p.e->UW cs ds d m=lin p.o0 p.o1 ((m-p.b)/(p.e-p.b))
theorem QI.pc (D:QI cs ds d M W):∀p∈jd cs ds d,fk cs ds d M W p:=by
 intro p hp
 unfold jd at hp
 by_cases h:K6 cs ds<LD cs ds
 ·rw [if_pos h] at hp
  have tg:=D.tog h
  have ti:∀x∈eB cs ds,K6 cs ds<=x/\x<=LD cs ds:=λx hx=>WU h hx
  have tb:∀x∈eB cs ds,Bd M x:=λx hx=>WT D.m1 D.m2 D.begB D.endB hx
  have tw:∀x∈eB cs ds,NP W (UW cs ds d x):=D.w h
  unfold dB at hp
  obtain ⟨q,hq,rfl⟩:=List.mem_map.mp hp
  obtain ⟨k1,k2,k3,k4⟩:=WZ UO q hq
  have i1:=ti _ k1
  have i2:=ti _ k2
  refine ⟨k3,tw _ k1,tw _ k2,tb _ k1,tb _ k2,i1.1,i2.2,rfl,rfl,λm m1 m2=> ?_⟩
  have m1:q.1<=m:=m1
  have m2:m<=q.2:=m2
  have no:∀c,c∈cs\/c∈ds->¬(q.1<c.1/\c.1<q.2):=λc hc z=>by
   refine k4 c.1 (JA.mpr (.inr (.inr ⟨by grind,by grind,c,hc,rfl⟩))) z
  obtain ⟨s1,e1⟩:=tg.one q.1 i1.1 i1.2
  obtain ⟨s2,e2⟩:=tg.one q.2 i2.1 i2.2
  obtain ⟨t1,f1⟩:=tg.other q.1 i1.1 i1.2
  obtain ⟨t2,f2⟩:=tg.other q.2 i2.1 i2.2
  have l1:=M0 D.r1 k3 m1 m2 (λc hc=>no c (.inl hc)) e1 e2
  have l2:=M0 D.r2 k3 m1 m2 (λc hc=>no c (.inr hc)) f1 f2
  show UW cs ds d m=PL.lin (UW cs ds d q.1) (UW cs ds d q.2) ((m-q.1)/(q.2-q.1))
  unfold UW
  rw [l1,l2,e1,e2,f1,f2]
  exact Xk
 ·rw [if_neg h] at hp;cases hp
def Nq (cs ds:List C4) (d:Rat×Rat) (m:Rat):Prop:=K6 cs ds<=m/\m<LD cs ds/\gE (UW cs ds d m)<1
instance {m:Rat}:Decidable (Nq cs ds d m):=by unfold Nq;infer_instance
structure YT (cs ds:List C4) (d:Rat×Rat) (B:Nat) (ss:List CT):Prop where
 few:ss.length<=201
 ok:∀s∈ss,Ep B s
 fin:∀s∈ss,∃x,s.2.2=some x
 sem:∀m,ss.any (Cp · (m,0))=true↔Nq cs ds d m
end
abbrev JX:AS:=
 (Ag (Av (AM 2 BX (AB (aV 0) (AB (AM 2 Ax (AB (aV 0) (AB (aV 1) AL))) AL))) (A8 4))
   (An (AM 2 BN (AB (aV 2) (AB (AM 2 BI (AB (aV 4) (AB (AM 2 Ax (AB (aV 3) (AB (aV 2) AL))) AL))) AL)))))
abbrev HA:AS:=
 (Ag (Bx (A2 (AY lO (AY Co (AY Ah (aV 0) (aC (.int 0))) (AY Ah (aV 1) (aC (.int 0)))) (aC (.int 0)))) (An (aC .non)) BM)
   JX)
def HE:AF:=Au 5 HA
theorem Lb {x0 x1 x2 x3:PV} {Q:PV->Prop} (h:HA ⟨λ_=>Q .non,Q,λ_=>False,λ_=>False⟩ [some (.val x0),some (.val x1),some (.val x2),some (.val x3),none]):HE [x0,x1,x2,x3] Q:=h
theorem di (i:Int):0<=i*i:=by
 rcases Int.le_total 0 i with h|h
 ·exact Int.mul_nonneg h h
 ·exact Int.mul_nonneg_of_nonpos_of_nonpos h h
def RS (u v b e:Rat):Option Rat:=if 0<=u.num*v.num then none else some (b+u/(u-v)*(e-b))
theorem CD {u v b e:Rat} {W M:Nat} (bu:Bd W u) (bv:Bd W v) (bb:Bd M b) (be:Bd M e) (hW:W<=1100) (hM:M<=150) {Q:PV->Prop} (q:Q (ZG (RS u v b e))):HE [fr u,fr v,fr b,fr e] Q:=by
 apply Lb
 ac_rfl
 refine ⟨MulOk.of (m:=1100) (n:=1100) (B0 bu.top hW) (B0 bv.top hW), ?_⟩
 ac_rfl
 ·rename_i z
  unfold RS at q
  rw [if_pos z] at q
  exact q
 ·rename_i z
  unfold RS at q
  rw [if_neg z] at q
  have ne:u-v≠0:=λy=>by
   have:u=v:=by grind
   subst this
   exact z (di _)
  have d1:=bu.sub bv
  have d2:=bu.div ne d1
  have d3:=be.sub bb
  have d4:=d2.mul d3
  ac_rfl
  exact q
theorem XS {ss:List CT} (fin:∀s∈ss,∃x,s.2.2=some x) (k:Rat):∃m,k<m/\ss.any (Cp · (m,0))=false:=by
 induction ss with
 | nil=>exact ⟨k+1,by grind,rfl⟩
 | cons s ss ih=>
   obtain ⟨x,hx⟩:=fin s (by simp)
   have big:∀(tt:List CT),(∀s∈tt,∃x,s.2.2=some x)->∃n:Rat,k<n/\∀s∈tt,∀x,s.2.2=some x->x<n:=by
    intro tt
    induction tt with
    | nil=>intro _;exact ⟨k+1,by grind,by simp⟩
    | cons t tt ih2=>
      intro hf
      obtain ⟨n,h1,h2⟩:=ih2 λs hs=>hf s (by simp [hs])
      obtain ⟨y,hy⟩:=hf t (by simp)
      by_cases z:y<n
      ·refine ⟨n,h1,λs hs x hx=> ?_⟩
       rcases List.mem_cons.mp hs with rfl|hs
       ·rw [hy] at hx;cases hx;exact z
       ·exact h2 s hs x hx
      ·refine ⟨y+1,by grind,λs hs x hx=> ?_⟩
       rcases List.mem_cons.mp hs with rfl|hs
       ·rw [hy] at hx;cases hx;grind
       ·have:=h2 s hs x hx;grind
   obtain ⟨n,h1,h2⟩:=big (s::ss) fin
   refine ⟨n,h1, ?_⟩
   rw [List.any_eq_false]
   intro t ht z
   obtain ⟨y,hy⟩:=fin t ht
   have:=h2 t ht y hy
   unfold Cp at z
   rw [hy] at z
   simp at z
   grind
theorem TU {B:Nat} {ss:List CT} (ok:∀s∈ss,Ep B s) (fin:∀s∈ss,∃x,s.2.2=some x):∀r∈canon 1 ss,∃x,r.2.2=some x:=by
 intro r hr
 cases e:r.2.2 with
 | some x=>exact ⟨x,rfl⟩
 | none=>
   exfalso
   obtain ⟨m,h1,h2⟩:=XS fin r.1
   rw [<-PC ok (p:=(m,0)) (.inl rfl)] at h2
   rw [List.any_eq_false] at h2
   refine h2 r hr ?_
   unfold Cp
   rw [e]
   simp
   exact .inl h1
structure Told (P:Rat->Prop) (B:Nat) (cc:List CT):Prop where
 ok:∀s∈cc,Ep B s
 fin:∀s∈cc,∃x,s.2.2=some x
 few:cc.length<=2000
 sem:∀m,cc.any (Cp · (m,0))=true↔P m
theorem YT.told {cs ds:List C4} {d:Rat×Rat} {B:Nat} {ss:List CT} (n:YT cs ds d B ss):Told (Nq cs ds d) B (canon 1 ss):=
 ⟨Us n.ok,TU n.ok n.fin,by have:=Qi (n:=1) (ss:=ss);have:=n.few;omega,λm=>by rw [PC n.ok (p:=(m,0)) (.inl rfl)];exact n.sem m⟩
structure nK (Bm Bs:Nat) (c:C4):Prop where
 m:Bd Bm c.1
 p:NP Bs c.2
def J3 (o p:T3):T3:=(p.1+o.1,p.2.1+o.2.1,p.2.2+o.2.2)
theorem Tj {a b:C4} {t m:Rat} {o:T3}:inter (MC t o a) (MC t o b) m=J3 o (inter a b (m-t)):=by
 have e1:m-(a.1+t)=m-t-a.1:=by grind
 have e2:b.1+t-(a.1+t)=b.1-a.1:=by grind
 have e3:∀x y z:Rat,y+z-(x+z)=y-x:=λx y z=>by grind
 simp only [inter,J3,MC]
 rw [e1,e2,e3,e3,e3]
 have e4:∀x y z:Rat,x+z+y=x+y+z:=λx y z=>by grind
 rw [e4,e4 a.2.2.1,e4 a.2.2.2]
theorem M4 {t m:Rat} {o:T3}:∀{a:C4} {r:List C4},spotG (MC t o a) (r.map (MC t o)) m=(spotG a r (m-t)).map (J3 o)
 | a, [] =>rfl
 | a,b::r=>by
   simp only [List.map_cons,spotG]
   have e:(MC t o b).1<m↔b.1<m-t:=by show b.1+t<m↔_;constructor <;> intro h <;> grind
   by_cases h:b.1<m-t
   ·rw [if_pos h,if_pos (e.mpr h)]
    exact M4
   ·rw [if_neg h,if_neg (λz=>h (e.mp z)),Tj]
    rfl
theorem UK {t m:Rat} {o:T3} {cs:List C4}:spotC (cs.map (MC t o)) m=(spotC cs (m-t)).map (J3 o):=by
 cases cs with
 | nil=>rfl
 | cons a r=>
   simp only [List.map_cons,spotC]
   have e:m<(MC t o a).1↔m-t<a.1:=by show m<a.1+t↔_;constructor <;> intro h <;> grind
   by_cases h:m-t<a.1
   ·rw [if_pos h,if_pos (e.mpr h)]
    rfl
   ·rw [if_neg h,if_neg (λz=>h (e.mp z))]
    exact M4
theorem C0 {c:C4} {B:List C4} {m:Rat} (hB:B≠ []) (hm:c.1<=m):∀{A:List C4},Bk (A++c::B)->spotC (A++c::B) m=spotC (c::B) m
 | [],_=>rfl
 | [a],h=>(GB h hB hm).symm
 | a::b::A,h=>by
   have h':Bk (b::A++c::B):=(List.pairwise_cons.mp h).2
   have hb:b.1<c.1:=(List.pairwise_cons.mp h').1 c (by simp)
   have:=GB (r:=A++c::B) h (by simp) (show b.1<=m by grind)
   show spotC (a::b::(A++c::B)) m=_
   rw [<-this]
   exact C0 hB hm h'
theorem JP {c:C4} {B:List C4} {m:Rat} (hm:m<=c.1):∀{a:C4} {A:List C4},spotG a (A++c::B) m=spotG a (A ++ [c]) m
 | a, [] =>by
   show spotG a (c::B) m=spotG a [c] m
   simp only [spotG]
   rw [if_neg (by grind),if_neg (by grind)]
 | a,b::A=>by
   show spotG a (b::(A++c::B)) m=spotG a (b::(A ++ [c])) m
   simp only [spotG]
   rw [JP hm]
theorem Lr {c:C4} {B:List C4} {m:Rat} (hm:m<=c.1) {A:List C4} (hA:A≠ []):spotC (A++c::B) m=spotC (A ++ [c]) m:=by
 match A,hA with
 | a::A,_=>
   show spotC (a::(A++c::B)) m=spotC (a::(A ++ [c])) m
   simp only [spotC]
   rw [JP hm]
theorem Q1 {a b f t xa xb:Rat} (h1:a<b) (h2:a<f):xa+(t-a)/(f-a)*((xa+(f-a)/(b-a)*(xb-xa))-xa)=xa+(t-a)/(b-a)*(xb-xa):=by
 have n1:b-a≠0:=by grind
 have n2:f-a≠0:=by grind
 grind
theorem Th {a b:C4} {f t:Rat} (h1:a.1<b.1) (h2:a.1<f):inter a (f,inter a b f) t=inter a b t:=by
 simp only [inter]
 rw [Q1 h1 h2,Q1 h1 h2,Q1 h1 h2]
def EJ (cs:List C4) (n:Rat):List C4:=cs.filter λc=>decide (c.1<n)
theorem Gw {b:C4} {r:List C4} {n:Rat} (h:Bk (b::r)) (hb:¬b.1<n):EJ (b::r) n= [] :=by
 unfold EJ
 rw [List.filter_eq_nil_iff]
 intro c hc
 rcases List.mem_cons.mp hc with rfl|hc
 ·simpa using hb
 ·have:=(List.pairwise_cons.mp h).1 c hc
  simp
  grind
theorem M3 {n m:Rat} {s:T3} (hm:m<=n):∀{a:C4} {r:List C4},Bk (a::r)->a.1<n->spotG a r n=some s->spotG a (EJ r n ++ [(n,s)]) m=spotG a r m
 | a, [],_,_,e=>by cases e
 | a,b::r,h,ha,e=>by
   have Qx:=(List.pairwise_cons.mp h).1 b (by simp)
   have h':=(List.pairwise_cons.mp h).2
   by_cases hb:b.1<n
   ·have e1:EJ (b::r) n=b::EJ r n:=by unfold EJ;rw [List.filter_cons,if_pos (by simpa using hb)]
    rw [e1]
    show spotG a (b::(EJ r n ++ [(n,s)])) m=_
    simp only [spotG] at e ⊢
    rw [if_pos hb] at e
    rw [M3 hm h' hb e]
   ·rw [Gw h' hb]
    simp only [spotG,List.nil_append] at e ⊢
    rw [if_neg hb] at e
    cases e
    rw [if_neg (by grind),if_neg (by grind),Th Qx ha]
theorem WJ {cs:List C4} {n m:Rat} {s:T3} (hr:Bk cs) (hm:m<=n) (h0:EJ cs n≠ []) (e:spotC cs n=some s):spotC (EJ cs n ++ [(n,s)]) m=spotC cs m:=by
 cases cs with
 | nil=>exact absurd rfl h0
 | cons a r=>
   by_cases ha:a.1<n
   ·have e1:EJ (a::r) n=a::EJ r n:=by unfold EJ;rw [List.filter_cons,if_pos (by simpa using ha)]
    rw [e1]
    show spotC (a::(EJ r n ++ [(n,s)])) m=_
    simp only [spotC] at e ⊢
    rw [if_neg (by grind)] at e
    rw [M3 hm hr ha e]
   ·exact absurd (Gw hr ha) h0
theorem Q3 {n k m:Rat} {s:T3}:inter (n,s) (k,s) m=s:=by
 simp only [inter]
 obtain ⟨x,y,z⟩:=s
 simp only [Prod.mk.injEq]
 exact ⟨by grind,by grind,by grind⟩
def Eh (n f:Rat) (c:C4):C4:=(n+f*(c.1-n),c.2)
theorem Tl {n f m:Rat} {a b:C4} (hf:0<f) (h:a.1<b.1):inter (Eh n f a) (Eh n f b) m=inter a b (n+(m-n)/f):=by
 have e:(m-(n+f*(a.1-n)))/((n+f*(b.1-n))-(n+f*(a.1-n)))=(n+(m-n)/f-a.1)/(b.1-a.1):=by
  have n1:f≠0:=by grind
  have n2:b.1-a.1≠0:=by grind
  have e1:(n+f*(b.1-n))-(n+f*(a.1-n))=f*(b.1-a.1):=by grind
  have e2:m-(n+f*(a.1-n))=f*(n+(m-n)/f-a.1):=by grind
  rw [e1,e2]
  have n3:f*(b.1-a.1)≠0:=by
   intro z
   rcases Rat.mul_eq_zero.mp z with z|z
   ·exact n1 z
   ·exact n2 z
  grind
 simp only [inter,Eh,e]
theorem WF {n f m x:Rat} (hf:0<f):n+f*(x-n)<m↔x<n+(m-n)/f:=by
 have n1:f≠0:=by grind
 have e:m=n+f*((n+(m-n)/f)-n):=by grind
 generalize n+(m-n)/f=k at *
 subst e
 constructor
 ·intro h
  rw [<-Rat.not_le]
  intro z
  have:=Rat.mul_le_mul_of_nonneg_left (show k-n<=x-n by grind) (show 0<=f by grind)
  grind
 ·intro h
  have:=Rat.mul_lt_mul_of_pos_left (show x-n<k-n by grind) hf
  grind
theorem M5 {n f m:Rat} (hf:0<f):∀{a:C4} {r:List C4},Bk (a::r)->spotG (Eh n f a) (r.map (Eh n f)) m=spotG a r (n+(m-n)/f)
 | a, [],_=>rfl
 | a,b::r,h=>by
   have Qx:=(List.pairwise_cons.mp h).1 b (by simp)
   have h':=(List.pairwise_cons.mp h).2
   simp only [List.map_cons,spotG]
   rw [M5 hf h',Tl hf Qx]
   by_cases z:b.1<n+(m-n)/f
   ·rw [if_pos z,if_pos (show (Eh n f b).1<m from (WF hf).mpr z)]
   ·rw [if_neg z,if_neg (show ¬(Eh n f b).1<m from λw=>z ((WF hf).mp w))]
theorem WL {n f m:Rat} {cs:List C4} (hf:0<f) (h:Bk cs):spotC (cs.map (Eh n f)) m=spotC cs (n+(m-n)/f):=by
 cases cs with
 | nil=>rfl
 | cons a r=>
   simp only [List.map_cons,spotC]
   rw [M5 hf h]
   have e:m<(Eh n f a).1↔n+(m-n)/f<a.1:=by
    have n1:f≠0:=by grind
    have e:m=n+f*((n+(m-n)/f)-n):=by grind
    show m<n+f*(a.1-n)↔_
    generalize n+(m-n)/f=k at *
    subst e
    constructor
    ·intro h
     rw [<-Rat.not_le]
     intro z
     have:=Rat.mul_le_mul_of_nonneg_left (show a.1-n<=k-n by grind) (show 0<=f by grind)
     grind
    ·intro h
     have:=Rat.mul_lt_mul_of_pos_left (show k-n<a.1-n by grind) hf
     grind
   simp only [e]
theorem Py:∀{a:C4} {r:List C4} {l:C4} {f:Rat},Bk (a::r)->(a::r).getLast?=some l->a.1<=f->f<l.1->Px a r f=sp (a::r) f::CB (a::r) f
 | a, [],l,f,_,e,h0,h1=>by
   have:a=l:=by simpa using e
   subst this;grind
 | a,b::r,l,f,h,e,h0,h1=>by
   have hb:=(List.pairwise_cons.mp h).1
   have Qx:=hb b (by simp)
   have e':=Eu e
   have h':=(List.pairwise_cons.mp h).2
   have qa:¬f<a.1:=by grind
   have ea:CB (a::b::r) f=CB (b::r) f:=by unfold CB;rw [List.filter_cons,if_neg (by simpa using qa)]
   rw [ea]
   simp only [Px]
   by_cases hf:b.1<=f
   ·rw [if_pos hf]
    have hr:r≠ [] :=by
     intro z;subst z
     have:b=l:=by simpa using e'
     subst this;grind
    rw [Py h' e' hf h1]
    simp only [sp]
    rw [GB h hr hf]
   ·rw [if_neg hf]
    have e1:spotC (a::b::r) f=some (inter a b f):=by
     simp only [spotC,spotG]
     rw [if_neg qa,if_neg (by grind)]
    have e2:CB (b::r) f=b::r:=by
     unfold CB
     rw [List.filter_eq_self]
     intro c hc
     rcases List.mem_cons.mp hc with rfl|hc
     ·simp;grind
     ·have:=(List.pairwise_cons.mp h').1 c hc
      simp;grind
    simp only [sp,e1,e2,Option.getD_some]
section
variable {a l:C4} {r:List C4} {b x m:Rat}
theorem IE (hr:Bk (a::r)) (el:(a::r).getLast?=some l) (h0:a.1<=b) (h1:b<l.1) (hm:b<=m):spotC (sp (a::r) b::CB (a::r) b) m=spotC (a::r) m:=by
 rw [<-Py hr el h0 h1]
 exact LY hr el h0 h1 hm
theorem M6 (hr:Bk (a::r)) (h0:r≠ []) (el:(a::r).getLast?=some l) (h1:a.1<b) (h2:b<l.1) (hm:m<=b):spotC (Bg (a::r) b ++ [sp (a::r) b]) m=spotC (a::r) m:=by
 obtain ⟨t,et⟩:=Cc h0 el (show a.1<=b by grind) (show b<=l.1 by grind)
 have e:sp (a::r) b=(b,t):=by simp only [sp,et,Option.getD_some]
 rw [e]
 refine WJ hr hm ?_ et
 have:a∈EJ (a::r) b:=List.mem_filter.mpr ⟨by simp,by simpa using h1⟩
 exact List.ne_nil_of_mem this
theorem NU (h1:a.1<b):Bg (a::r) b≠ [] :=List.ne_nil_of_mem (a:=a) (List.mem_filter.mpr ⟨by simp,by simpa using h1⟩)
theorem HV (hr:Bk (a::r)) (h:¬a.1<b):Bg (a::r) b= [] :=Gw hr h
theorem NR (el:(a::r).getLast?=some l) (h:b<l.1):CB (a::r) b≠ [] :=List.ne_nil_of_mem (List.mem_filter.mpr ⟨List.mem_of_getLast? el,by simpa using h⟩)
theorem Dy (hr:Bk (a::r)):Bk (Bg (a::r) b++sp (a::r) b::CB (a::r) b):=by
 refine List.pairwise_append.mpr ⟨hr.filter _,List.pairwise_cons.mpr ⟨λc hc=> ?_,hr.filter _⟩,λc hc d hd=> ?_⟩
 ·exact of_decide_eq_true (List.mem_filter.mp hc).2
 ·have h1:c.1<b:=of_decide_eq_true (List.mem_filter.mp hc).2
  rcases List.mem_cons.mp hd with rfl|hd
  ·exact h1
  ·have h2:b<d.1:=of_decide_eq_true (List.mem_filter.mp hd).2
   grind
theorem Tr (cs:List C4):laterC x cs=cs.map (MC x (0,0,0)):=by
 unfold laterC
 refine List.map_congr_left λc _=> ?_
 simp only [MC]
 obtain ⟨m,p,q,z⟩:=c
 simp only [Prod.mk.injEq]
 exact ⟨by grind,by grind,by grind,by grind⟩
theorem Ls {cs:List C4}:spotC (laterC x cs) m=spotC cs (m-x):=by
 rw [Tr,UK]
 cases spotC cs (m-x) with
 | none=>rfl
 | some t=>
   obtain ⟨p,q,z⟩:=t
   simp only [Option.map_some,J3,Option.some.injEq,Prod.mk.injEq]
   exact ⟨by grind,by grind,by grind⟩
theorem SY {n f:Rat} {cs:List C4} (hf:0<f) (h:Bk cs):Bk (cs.map (Eh n f)):=by
 refine List.pairwise_map.mpr (h.imp λ{c d} k=> ?_)
 show n+f*(c.1-n)<n+f*(d.1-n)
 have:=Rat.mul_lt_mul_of_pos_left (show c.1-n<d.1-n by grind) hf
 grind
theorem YL (f:List C4) (c:C4) (t:List C4):JO f c t x=f++(c::t).map (Eh c.1 (1+x)):=by
 have e:Eh c.1 (1+x) c=c:=by
  obtain ⟨m,s⟩:=c
  simp only [Eh,Prod.mk.injEq,and_true]
  grind
 unfold JO
 rw [List.map_cons,e,List.append_assoc]
 rfl
theorem RV (hx:0<1+x) (hr:Bk (a::r)) (el:(a::r).getLast?=some l) (h1:a.1<=b) (h2:b<l.1) (hm:b<=m):spotC (JO (Bg (a::r) b) (sp (a::r) b) (CB (a::r) b) x) m=spotC (a::r) (b+(m-b)/(1+x)):=by
 have rp:=Dy (b:=b) hr
 have rt:Bk (sp (a::r) b::CB (a::r) b):=(List.pairwise_append.mp rp).2.1
 have hd:0<=(m-b)/(1+x):=by rw [<-Rat.not_lt,Rat.div_lt_iff hx];grind
 have e0:spotC ((sp (a::r) b::CB (a::r) b).map (Eh b (1+x))) m=spotC (a::r) (b+(m-b)/(1+x)):=by
  rw [WL hx rt]
  exact IE hr el h1 h2 (by grind)
 rw [<-e0,YL]
 have ec:Eh b (1+x) (sp (a::r) b)=sp (a::r) b:=by
  simp only [Eh,sp,Prod.mk.injEq,and_true]
  grind
 show spotC (Bg (a::r) b++(sp (a::r) b::CB (a::r) b).map (Eh b (1+x))) m=_
 rw [List.map_cons,ec]
 refine C0 (c:=sp (a::r) b) ?_ hm ?_
 ·intro z
  exact NR el h2 (List.map_eq_nil_iff.mp z)
 ·refine List.pairwise_append.mpr ⟨hr.filter _, ?_,λc hc d hd=> ?_⟩
  ·have:=SY (n:=b) hx rt
   rw [List.map_cons,ec] at this
   exact this
  ·have h1:c.1<b:=of_decide_eq_true (List.mem_filter.mp hc).2
   rcases List.mem_cons.mp hd with rfl|hd
   ·exact h1
   ·obtain ⟨d',Lw,rfl⟩:=List.mem_map.mp hd
    have h2:b<d'.1:=of_decide_eq_true (List.mem_filter.mp Lw).2
    show c.1<b+(1+x)*(d'.1-b)
    have:=Rat.mul_pos hx (show 0<d'.1-b by grind)
    grind
theorem RW (hr:Bk (a::r)) (el:(a::r).getLast?=some l) (h1:b=a.1) (h2:b<l.1):spotC (FW (Bg (a::r) b) (sp (a::r) b) (CB (a::r) b) x) m=if m-x<b then none else spotC (a::r) (m-x):=by
 unfold FW
 rw [if_pos (HV hr (by grind)),Ls]
 split
 ·rename_i k
  exact Df (a:=sp (a::r) b) k
 ·rename_i k
  exact IE hr el (by grind) h2 (by grind)
theorem OS (h1:a.1<b):FW (Bg (a::r) b) (sp (a::r) b) (CB (a::r) b) x=Bg (a::r) b++sp (a::r) b::laterC x (sp (a::r) b::CB (a::r) b):=by
 unfold FW
 rw [if_neg (NU h1),List.append_assoc]
 rfl
theorem LZ (hx:0<x) (hr:Bk (a::r)):Bk (Bg (a::r) b++sp (a::r) b::laterC x (sp (a::r) b::CB (a::r) b)):=by
 have rp:=Dy (b:=b) hr
 have rt:Bk (sp (a::r) b::CB (a::r) b):=(List.pairwise_append.mp rp).2.1
 have hl:∀d∈laterC x (sp (a::r) b::CB (a::r) b),b<d.1:=λd hd=>by
  obtain ⟨d',Lw,rfl⟩:=List.mem_map.mp hd
  show b<d'.1+x
  rcases List.mem_cons.mp Lw with rfl|Lw
  ·show b<b+x
   grind
  ·have h2:b<d'.1:=of_decide_eq_true (List.mem_filter.mp Lw).2
   grind
 refine List.pairwise_append.mpr ⟨hr.filter _,List.pairwise_cons.mpr ⟨hl, ?_⟩,λc hc d hd=> ?_⟩
 ·refine List.pairwise_map.mpr (rt.imp λ{c d} k=> ?_)
  show c.1+x<d.1+x
  grind
 ·have h1:c.1<b:=of_decide_eq_true (List.mem_filter.mp hc).2
  rcases List.mem_cons.mp hd with rfl|hd
  ·exact h1
  ·have:=hl d hd
   grind
theorem RX (hx:0<x) (hr:Bk (a::r)) (el:(a::r).getLast?=some l) (h1:a.1<b) (h2:b<l.1) (hm:b<=m):spotC (FW (Bg (a::r) b) (sp (a::r) b) (CB (a::r) b) x) m=if m-x<b then some (sp (a::r) b).2 else spotC (a::r) (m-x):=by
 rw [OS h1,C0 (c:=sp (a::r) b) (by simp [laterC]) hm (LZ hx hr)]
 by_cases k:m-x<b
 ·rw [if_pos k]
  show (if m<b then none else spotG (sp (a::r) b) ((b+x,(sp (a::r) b).2)::laterC x (CB (a::r) b)) m)=_
  rw [if_neg (by grind)]
  simp only [spotG]
  rw [if_neg (by grind)]
  exact congrArg some Q3
 ·rw [if_neg k,<-IE hr el (show a.1<=b by grind) h2 (show b<=m-x by grind),<-Ls]
  have rw2:Bk ([sp (a::r) b] ++ laterC x (sp (a::r) b::CB (a::r) b)):=(List.pairwise_append.mp (LZ hx hr)).2.1
  refine C0 (A:= [sp (a::r) b]) (c:=(b+x,(sp (a::r) b).2)) (B:=laterC x (CB (a::r) b)) ?_ (by grind) rw2
  intro z
  exact NR el h2 (List.map_eq_nil_iff.mp z)
def CQ (o:T3) (c:C4):C4:=(c.1,J3 o c.2)
def Fb (k:Rat) (o:T3):T3:=(k*o.1,k*o.2.1,k*o.2.2)
theorem Tk {o:T3} {c d:C4}:inter (CQ o c) (CQ o d) m=J3 o (inter c d m):=by
 simp only [inter,CQ,J3,Prod.mk.injEq]
 exact ⟨by grind,by grind,by grind⟩
theorem VR {o:T3} {c d:C4}:inter c (CQ o d) m=J3 (Fb ((m-c.1)/(d.1-c.1)) o) (inter c d m):=by
 simp only [inter,CQ,J3,Fb,Prod.mk.injEq]
 exact ⟨by grind,by grind,by grind⟩
theorem Q2 {o:T3} {c d:C4} (h:c.1<d.1):inter (CQ o c) d m=J3 (Fb ((d.1-m)/(d.1-c.1)) o) (inter c d m):=by
 have e:(d.1-m)/(d.1-c.1)=1-(m-c.1)/(d.1-c.1):=by
  have:d.1-c.1≠0:=by grind
  grind
 simp only [inter,CQ,J3,Fb,e,Prod.mk.injEq]
 exact ⟨by grind,by grind,by grind⟩
theorem hJ (o:T3):Fb 1 o=o:=by
 obtain ⟨x,y,z⟩:=o
 simp only [Fb,Prod.mk.injEq]
 exact ⟨by grind,by grind,by grind⟩
theorem Lo {o:T3} {z y:C4} (hz:m<=z.1):∀{c:C4} {t:List C4},(c::t).getLast?=some y->Bk (c::(t ++ [z]))->c.1<=m->spotG (CQ o c) (t.map (CQ o) ++ [z]) m=(spotG c (t ++ [z]) m).map (J3 (Fb (if y.1<m then (z.1-m)/(z.1-y.1) else 1) o))
 | c, [],ey,h,hm=>by
   have hc:c.1<z.1:=(List.pairwise_cons.mp h).1 z (by simp)
   have:c=y:=by simpa using ey
   subst this
   show (if z.1<m then spotG z [] m else some (inter (CQ o c) z m))=Option.map _ (if z.1<m then spotG z [] m else some (inter c z m))
   have nz:¬z.1<m:=by grind
   rw [if_neg nz,if_neg nz,Q2 hc]
   by_cases q:c.1<m
   ·rw [if_pos q];rfl
   ·rw [if_neg q]
    have e:(z.1-m)/(z.1-c.1)=1:=by
     have e1:m=c.1:=by grind
     have:z.1-c.1≠0:=by grind
     rw [e1];grind
    rw [e];rfl
 | c,d::t,ey,h,hm=>by
   have h':Bk (d::(t ++ [z])):=(List.pairwise_cons.mp h).2
   have ey':(d::t).getLast?=some y:=Eu ey
   show (if d.1<m then spotG (CQ o d) (t.map (CQ o) ++ [z]) m else some (inter (CQ o c) (CQ o d) m))=Option.map _ (if d.1<m then spotG d (t ++ [z]) m else some (inter c d m))
   by_cases q:d.1<m
   ·rw [if_pos q,if_pos q]
    exact Lo hz ey' h' (by grind)
   ·rw [if_neg q,if_neg q,Tk]
    have dy:d.1<=y.1:=by
     have hy:=List.mem_of_getLast? ey'
     rcases List.mem_cons.mp hy with e|e
     ·rw [e];exact Rat.le_refl
     ·have:=(List.pairwise_cons.mp h').1 y (by simp [e])
      grind
    rw [if_neg (by grind),hJ]
    rfl
theorem UL {o:T3} {z y c d:C4} {t:List C4} (hz:m<=z.1) (ey:(d::t).getLast?=some y) (h:Bk (c::d::(t ++ [z]))) (hm:c.1<=m):spotG c ((d::t).map (CQ o) ++ [z]) m=(spotG c (d::(t ++ [z])) m).map (J3 (Fb (if m<=d.1 then (m-c.1)/(d.1-c.1) else if m<=y.1 then 1 else (z.1-m)/(z.1-y.1)) o)):=by
 have h':Bk (d::(t ++ [z])):=(List.pairwise_cons.mp h).2
 show (if d.1<m then spotG (CQ o d) (t.map (CQ o) ++ [z]) m else some (inter c (CQ o d) m))=Option.map _ (if d.1<m then spotG d (t ++ [z]) m else some (inter c d m))
 by_cases q:d.1<m
 ·have n1:¬m<=d.1:=by grind
  have n3:d.1<=m:=by grind
  rw [if_pos q,if_pos q,Lo hz ey h' n3,if_neg n1]
  by_cases k:y.1<m
  ·have n2:¬m<=y.1:=by grind
   rw [if_pos k,if_neg n2]
  ·have n2:m<=y.1:=by grind
   rw [if_neg k,if_pos n2]
 ·have n1:m<=d.1:=by grind
  rw [if_neg q,if_neg q,if_pos n1,VR]
  rfl
theorem Zi {f t:List C4} {c d z:C4} {w:Rat×Rat×Rat}:Nm f c (d::(t ++ [z])) w x=some (f++c::((d::t).map (CQ (w.1*x,w.2.1*x,w.2.2*x)) ++ [z])):=by
 unfold Nm
 rw [if_neg (by simp)]
 have e1:(d::(t ++ [z])).dropLast=d::t:=by
  show ((d::t) ++ [z]).dropLast=_
  exact List.dropLast_concat
 have e2:(d::(t ++ [z])).drop ((d::(t ++ [z])).length-1)= [z] :=by
  show ((d::t) ++ [z]).drop (((d::t) ++ [z]).length-1)= [z]
  rw [List.length_append,List.length_singleton,Nat.add_sub_cancel]
  exact List.drop_left
 rw [e1,e2,List.append_assoc,List.append_assoc]
 rfl
end
def D2:AS:=
 (An (AY IP (AM 1 DZ (AB (aV 0) AL)) (AM 1 DZ (AB (aV 1) AL))))
def CW:AF:=Au 2 D2
instance UP {D:DW} {τ:BB}:Wp (D2 D τ) ((An (AY IP (AM 1 DZ (AB (aV 0) AL)) (AM 1 DZ (AB (aV 1) AL)))) D τ):=⟨id⟩
theorem Ir {x0 x1:PV} {Q:PV->Prop} (h:D2 ⟨λ_=>Q .non,Q,λ_=>False,λ_=>False⟩ [some (.val x0),some (.val x1)]):CW [x0,x1] Q:=h
structure ax (n B:Nat) (cs:List C4):Prop where
 two:2<=cs.length
 few:cs.length<=n
 bd:∀c∈cs,Bt B c
theorem ax.open {n B:Nat} {cs:List C4} (p:ax n B cs):∃a b0 r l,cs=a::b0::r/\(a::b0::r).getLast?=some l:=by
 obtain ⟨two,few,bd⟩:=p
 match cs,two with
 | a::b0::r,_=>exact ⟨a,b0,r,_,rfl,List.getLast?_eq_some_getLast (by simp)⟩
theorem MY {cs:List C4} {v:PV} {n B:Nat} (hv:B5 cs v) (p:ax n B cs) (hn:n<=500) (hB:B<=900) {Q:PV->Prop} (q:Q (AW (XE cs))):DZ [v] Q:=by
 obtain ⟨a,b0,r,l,rfl,el⟩:=p.open
 exact O1 hv p.bd (by simp) el (Nat.le_trans p.few hn) hB q
theorem Ry (c d:C4):Jf (cor c) (cor d)=decide (c=d):=by
 have h:Jf (cor c) (cor d)=(Jf (fr c.1) (fr d.1)&&(Jf (fr c.2.1) (fr d.2.1)&&(Jf (fr c.2.2.1) (fr d.2.2.1)&&(Jf (fr c.2.2.2) (fr d.2.2.2)&&true)))):=rfl
 rw [h,Ee,Ee,Ee,Ee]
 obtain ⟨c1,c2,c3,c4⟩:=c
 obtain ⟨d1,d2,d3,d4⟩:=d
 by_cases h1:c1=d1 <;> by_cases h2:c2=d2 <;> by_cases h3:c3=d3 <;> by_cases h4:c4=d4 <;> simp [h1,h2,h3,h4]
theorem PK:∀(xs ys:List C4),Jf (AW xs) (AW ys)=decide (xs=ys)
 | [], [] =>rfl
 | [],_::_=>by simp [Jf,AW,pd,Jp,PyData.eqv,PyData.eqvAll]
 | _::_, [] =>by simp [Jf,AW,pd,Jp,PyData.eqv,PyData.eqvAll]
 | x::xs,y::ys=>by
   have h:Jf (AW (x::xs)) (AW (y::ys))=(Jf (cor x) (cor y)&&Jf (AW xs) (AW ys)):=rfl
   rw [h,Ry,PK xs ys]
   by_cases h1:x=y <;> by_cases h2:xs=ys <;> simp [h1,h2]
theorem Pm (d:Nat) (cs:List C4):DL (d+3) (AW cs)=true:=by
 simp only [AW,DL]
 exact Hc λx hx=>by
  obtain ⟨c,_,rfl⟩:=List.mem_map.mp hx
  rfl
theorem Qq {xs ys:List C4} {Q:PV->Prop} (q:Q (.bl (decide (xs=ys)))):IP (AW xs) (AW ys) Q:=⟨⟨Pm 27 _,Pm 27 _⟩,by rw [PK];exact q⟩
theorem YA {xs ys:List C4} {v w:PV} {n m B:Nat} (hv:B5 xs v) (hw:B5 ys w) (p:ax n B xs) (p2:ax m B ys) (hn:n<=500) (hm:m<=500) (hB:B<=900) {Q:PV->Prop} (q:Q (.bl (decide (XE xs=XE ys)))):CW [v,w] Q:=by
 apply Ir
 repeat' array_get_dec
 refine MY hv p hn hB ?_
 repeat' array_get_dec
 refine MY hw p2 hm hB ?_
 exact Qq q
end PL
end
section
namespace PL.K19
open PySem L2 PL PyProof.Rows
abbrev Gj:AS:=
 (Ag (Bx (Er (A2 (AM 2 Ak (AB (AY Ah (aV 3) (OV Fa (aC (.int 2)))) (AB (aV 2) AL))))) (An (B9 (AB (aC (.int 1)) (AB (aC (.int 1)) AL)))) BM)
   (An (AM 2 BX (AB (AM 2 Ax (AB (AY Ah (aV 3) (OV Fa (aC (.int 1)))) (AB (aV 2) AL))) (AB (AM 2 Ax (AB (AY Ah (aV 3) (OV Fa (aC (.int 1)))) (AB (AY Ah (aV 3) (OV Fa (aC (.int 2)))) AL))) AL)))))
abbrev Gi:AS:=
 (Ag (Bx (Er (A2 (AM 2 Ak (AB (AY Ah (aV 3) (aC (.int 0))) (AB (aV 2) AL))))) (An (AM 2 BX (AB (AM 2 Ax (AB (aV 2) (AB (aV 1) AL))) (AB (AM 2 Ax (AB (AY Ah (aV 3) (aC (.int 0))) (AB (aV 1) AL))) AL)))) BM)
   Gj)
abbrev FO:AS:=
 (Ag (Av (IN (DN (Qf (aV 0)) 1 [1] (A8 0) (A2 (AM 2 Ak (AB (aV 1) (AB (AY Ah (aV 0) (aC (.int 0))) AL)))) (AY Ah (aV 0) (aC (.int 0))))) (A8 3))
   Gi)
def CI:AF:=Au 4 FO
theorem Hh {x0 x1 x2:PV} {Q:PV->Prop} (h:FO ⟨λ_=>Q .non,Q,λ_=>False,λ_=>False⟩ [some (.val x0),some (.val x1),some (.val x2),none]):CI [x0,x1,x2] Q:=h
abbrev JW:AS:=
 (Ag (Bx (A2 (AY (XC false) (aV 1) (B9 (AB (aC (.str "west")) (AB (aC (.str "south")) (AB (aC (.str "down")) AL)))))) (Av (B9 (AB (AY E7 (aC (.int 0)) (AY Ah (aV 7) (aC (.int 0)))) (AB (AY Ah (aV 7) (aC (.int 1))) AL))) (A8 7)) BM)
   (An (AY Am (AY Am (TK (aV 5) TL (TM (aV 6))) (B9 (AB (AM 2 BN (AB (AY Ah (aV 5) (aV 6)) (AB (aV 7) AL))) AL))) (TK (aV 5) (TM (AY Am (aV 6) (aC (.int 1)))) TL))))
abbrev JV:AS:=
 (Ag (Av (AM 2 BI (AB (aV 2) (AB (AM 3 CI (AB (aV 0) (AB (aV 3) (AB (aV 4) AL)))) AL))) (A8 7))
   JW)
abbrev JU:AS:=
 (Ag (Av (Up (List.map (λp=>(p.1,PV.int p.2)) ([("east",(0:Int)),("west",(0:Int)),("north",(1:Int)),("south",(1:Int)),("up",(2:Int)),("down",(2:Int))] :List (Str×Int))) (aV 1)) (A8 6))
   JV)
abbrev G9:AS:=
 (Ag (Av (AM 2 Bj (AB (aV 0) (AB (aV 4) AL))) (A8 5))
   JU)
def Ce:AF:=Au 8 G9
theorem La {x0 x1 x2 x3 x4:PV} {Q:PV->Prop} (h:G9 ⟨λ_=>Q .non,Q,λ_=>False,λ_=>False⟩ [some (.val x0),some (.val x1),some (.val x2),some (.val x3),some (.val x4),none,none,none]):Ce [x0,x1,x2,x3,x4] Q:=h
abbrev GD:AS:=
 (Ag (Bx (A2 (AM 2 Ak (AB (aV 5) (AB (aV 3) AL)))) (An (Y5 (A2 (AY U0 (aV 3) (AY Ah (AY Ah (aV 0) (aC (.int 0))) (aC (.int 0))))) (AM 2 Bj (AB (aV 0) (AB (aV 3) AL))) (aC .non))) BM)
   (An (AM 2 Bj (AB (aV 0) (AB (aV 5) AL)))))
abbrev IR:AS:=
 (Ag (Av (AM 2 Ax (AB (aV 4) (AB (aV 2) AL))) (A8 5))
   GD)
abbrev IT:AS:=
 (Ag (Bx (A2 (AY IP (aV 1) (aC (.str "slow")))) (An (AM 2 Bj (AB (aV 0) (AB (AM 2 BN (AB (aV 3) (AB (AM 2 BX (AB (AM 2 Ax (AB (aV 4) (AB (aV 3) AL))) (AB (AM 2 BN (AB (B9 (AB (aC (.int 1)) (AB (aC (.int 1)) AL))) (AB (aV 2) AL))) AL))) AL))) AL)))) BM)
   (An (AM 5 Ce (AB (aV 0) (AB (aV 1) (AB (aV 2) (AB (aV 3) (AB (aV 4) AL))))))))
abbrev IS:AS:=
 (Ag (Bx (A2 (AY IP (aV 1) (aC (.str "wait")))) IR BM)
   IT)
abbrev GL:AS:=
 (Ag (Bx (A2 (AM 2 Ak (AB (aV 4) (AB (aV 3) AL)))) (An (AM 2 Bj (AB (aV 0) (AB (aV 4) AL)))) BM)
   IS)
def A6:AF:=Au 6 GL
theorem Cu {x0 x1 x2 x3 x4:PV} {Q:PV->Prop} (h:GL ⟨λ_=>Q .non,Q,λ_=>False,λ_=>False⟩ [some (.val x0),some (.val x1),some (.val x2),some (.val x3),some (.val x4),none]):A6 [x0,x1,x2,x3,x4] Q:=h
abbrev Ej:AS:=
 (Ag (Ic (K5 (A2 (AY Wd (aV 5) (Fd GF (AB (aV 2) AL)))) (A2 (AM 2 Ak (AB (AY Ah (aV 2) (aV 5)) (AB (AY Ah (aV 3) (aC (.int 0))) AL))))) (Av (AY Am (aV 5) (aC (.int 1))) (A8 5)))
   (Bx (Ro (TF (A2 (AY IP (aV 5) (Fd GF (AB (aV 2) AL)))) (A2 (AY U0 (AY Ah (aV 2) (aV 5)) (AY Ah (aV 3) (aC (.int 0))))))) (GO 2 Xc (AB (aV 5) (AB (AY Ah (aV 3) (aC (.int 0))) AL))) BM))
abbrev Fe:AS:=
 (Ag (Av (aC (.int 0)) (A8 5))
   Ej)
abbrev Fg:AS:=
 (Ag (W3 2 (Av (IN (DN (NS (AB (AY E7 (Fd GF (AB (aV 2) AL)) (aC (.int 1))) AL)) 1 [2] (A8 0) Fn (AM 2 BI (AB (B9 (AB (aC (.int 1)) (AB (aC (.int 2)) AL))) (AB (AM 2 BN (AB (AY Ah (aV 1) (aV 0)) (AB (AY Ah (aV 1) (AY Am (aV 0) (aC (.int 1)))) AL))) AL))))) (A8 4)))
   (An (AY Am (aV 2) (aV 4))))
abbrev Ff:AS:=
 (Ag (HN (Qf (AY Am (aV 0) (aV 1))) (A8 3) Fe)
   Fg)
abbrev EF:AS:=
 (Ag (NQ (E3 AL) 2)
   Ff)
def Bh:AF:=Au 6 EF
theorem GJ {x0 x1:PV} {Q:PV->Prop} (h:EF ⟨λ_=>Q .non,Q,λ_=>False,λ_=>False⟩ [some (.val x0),some (.val x1),none,none,none,none]):Bh [x0,x1] Q:=h
abbrev Gh:AS:=
 (Ag (Bx (A2 (AY IP (aV 5) (AY Ah (AY Ah (aV 0) (aC (.int 0))) (aC (.int 0))))) (An (fy (AY IP (aV 1) (aC (.str "wait"))) (AY IP (AY Ah (aV 4) (aC (.int 0))) (AY Ah (aV 0) (aC (.int 0)))))) BM)
   (An (AY ZI (AM 2 CW (AB (AM 3 Em (AB (aV 4) (AB (AY Ah (AY Ah (aV 0) (aC (.int 0))) (aC (.int 0))) (AB (aV 5) AL)))) (AB (AM 3 Em (AB (aV 0) (AB (AY Ah (AY Ah (aV 0) (aC (.int 0))) (aC (.int 0))) (AB (aV 5) AL)))) AL))) (aC (.bl true)))))
abbrev Gg:AS:=
 (Ag (HN (Qf (AY Am (AM 2 Bh (AB (aV 0) (AB (aV 4) AL))) (IN (E3 (AB (aV 5) AL))))) (A8 7) (Bx (K5 (Er (A2 (AM 2 Ak (AB (aV 6) (AB (aV 7) AL))))) (A2 (AY U0 (AM 2 Bj (AB (aV 4) (AB (aV 7) AL))) (AM 5 A6 (AB (aV 0) (AB (aV 1) (AB (aV 2) (AB (aV 5) (AB (aV 7) AL))))))))) (An (aC (.bl false))) BM))
   Gh)
abbrev BF:AS:=
 (Ag (Av (AY Ah (AY Ah (aV 4) (OV Fa (aC (.int 1)))) (aC (.int 0))) (A8 6))
   Gg)
abbrev D1:AS:=
 (Ag (Bx (K5 (A2 (AY (XC true) (aV 1) (B9 (AB (aC (.str "wait")) (AB (aC (.str "slow")) AL))))) (Er (A2 (AM 2 Ak (AB (aV 5) (AB (AY Ah (AY Ah (aV 0) (OV Fa (aC (.int 2)))) (aC (.int 0))) AL)))))) (An (AY cD (aV 4) (aC .non))) BM)
   BF)
abbrev D0:AS:=
 (Ag (Av (AM 2 BH (AB (aV 3) (AB (AY Ah (AY Ah (aV 0) (aC (.int 0))) (aC (.int 0))) AL))) (A8 5))
   D1)
abbrev Dz:AS:=
 (Ag (Bx (TF (A2 (AY IP (aV 2) (B9 (AB (aC (.int 0)) (AB (aC (.int 1)) AL))))) (Er (A2 (AM 2 Ak (AB (aV 3) (AB (AY Ah (AY Ah (aV 0) (OV Fa (aC (.int 1)))) (aC (.int 0))) AL)))))) (An (AY IP (aV 4) (aV 0))) BM)
   D0)
abbrev Di:AS:=
 (Ag (Av (AM 3 En (AB (aV 0) (AB (B9 (AB (aV 1) (AB (aV 2) AL))) (AB (aV 3) AL)))) (A8 4))
   Dz)
def CH:AF:=Au 8 Di
theorem Hg {x0 x1 x2 x3:PV} {Q:PV->Prop} (h:Di ⟨λ_=>Q .non,Q,λ_=>False,λ_=>False⟩ [some (.val x0),some (.val x1),some (.val x2),some (.val x3),none,none,none,none]):CH [x0,x1,x2,x3] Q:=h
abbrev NC:AS:=
 (Ag (Av (AY Ah (IN (E3 (AB (aC (.str "wait")) (AB (aC (.str "slow")) (AB (aC (.str "east")) (AB (aC (.str "west")) (AB (aC (.str "north")) (AB (aC (.str "south")) (AB (aC (.str "up")) (AB (aC (.str "down")) AL)))))))))) (AY TZ (AY Am (aV 4) (AY Co (aC (.int 3)) (aV 5))) (aC (.int 8)))) (A8 6))
   (Bx (Er (A2 (AM 4 CH (AB (aV 3) (AB (aV 6) (AB (AM 1 DY (AB (aV 2) AL)) (AB (AM 2 EI (AB (aV 2) (AB (aV 3) AL))) AL))))))) (An (aC (.bl false))) BM))
abbrev Ja:AS:=
 (Ag (Av (AM 2 A7 (AB (aV 2) (AB (aC (.int 8)) AL))) (A8 4))
   (HN (NS (AB (aC (.int 3)) AL)) (A8 5) NC))
abbrev JZ:AS:=
 (Ag (Av (AM 1 CG (AB (aV 2) AL)) (A8 3))
   Ja)
abbrev ND:AS:=
 (Ag (Av (AM 2 K1 (AB (aV 0) (AB (aV 1) AL))) (A8 2))
   JZ)
abbrev MM:AS:=
 (Ag (HN (NS (AB (AY Am (aC (.int 1)) (Fd (cF min) (AB (aC (.int 9)) (AB (Fd GF (AB (aV 0) AL)) AL)))) AL)) (A8 1) ND)
   (An (aC (.bl true))))
def Dx:AF:=Au 7 MM
theorem Pz {x0:PV} {Q:PV->Prop} (h:MM ⟨λ_=>Q .non,Q,λ_=>False,λ_=>False⟩ [some (.val x0),none,none,none,none,none,none]):Dx [x0] Q:=h
def Se (n:Rat) (d y z:C4) (m:Rat):Rat:=if m<=d.1 then (m-n)/(d.1-n) else if m<=y.1 then 1 else (z.1-m)/(z.1-y.1)
theorem cY {xs:List PV} {x:PV} {R:PV->Prop} (h:R x):Ah (.lst (xs ++ [x])) (.int (-1)) R:=by
 show MI (EE (xs ++ [x]) (-1)) R
 have q:EE (xs ++ [x]) (-1)=some x:=by
  unfold EE UV
  rw [List.length_append,List.length_singleton,if_neg (by decide),if_pos (by omega)]
  have e2:(-1+((xs.length+1:Nat):Int)).toNat=xs.length:=by omega
  rw [Option.bind_some,e2,List.getElem?_append_right (Nat.le_refl _),Nat.sub_self]
  rfl
 rw [q];exact h
theorem cZ {xs:List PV} {x y:PV} {R:PV->Prop} (h:R x):Ah (.lst (xs ++ [x,y])) (.int (-2)) R:=by
 show MI (EE (xs ++ [x,y]) (-2)) R
 have q:EE (xs ++ [x,y]) (-2)=some x:=by
  unfold EE UV
  have el:(xs ++ [x,y]).length=xs.length+2:=by simp
  rw [el,if_neg (by decide),if_pos (by omega)]
  have e2:(-2+((xs.length+2:Nat):Int)).toNat=xs.length:=by omega
  rw [Option.bind_some,e2,List.getElem?_append_right (Nat.le_refl _),Nat.sub_self]
  rfl
 rw [q];exact h
theorem CD {cs t:List C4} {n m:Rat} {d y z:C4} {B M:Nat} (hl:cs.length<=100) (hc:∀c∈cs,Bd B c.1) (hr:Bk cs) (et:CB cs n=d::(t ++ [z])) (ey:(d::t).getLast?=some y) (bn:Bd M n) (bm:Bd M m) (hB:B<=400) (hM:M<=1000) {Q:PV->Prop} (q:Q (fr (Se n d y z m))):CI [AW cs,fr n,fr m] Q:=by
 have mem:∀c∈CB cs n,c∈cs/\n<c.1:=λc hc=>⟨(List.mem_filter.mp hc).1,of_decide_eq_true (List.mem_filter.mp hc).2⟩
 have md:=mem d (by rw [et];simp)
 have mz:=mem z (by rw [et];simp)
 have my:=mem y (by rw [et];have:=List.mem_of_getLast? ey;rcases List.mem_cons.mp this with e|e <;> simp [e])
 have yz:y.1<z.1:=by
  have h:Bk (CB cs n):=hr.filter _
  rw [et] at h
  have h2:Bk ((d::t) ++ [z]):=h
  exact (List.pairwise_append.mp h2).2.2 y (List.mem_of_getLast? ey) z (by simp)
 have bd:=hc d md.1
 have by':=hc y my.1
 have bz:=hc z mz.1
 obtain ⟨u,eu⟩:∃u,d::t=u ++ [y] :=by
  obtain ⟨v,hv⟩:=List.getLast?_eq_some_iff.mp ey
  exact ⟨v,hv⟩
 have e0:(CB cs n).map (λc=>fr c.1)=u.map (λc=>fr c.1) ++ [fr y.1,fr z.1] :=by
  rw [et]
  show ((d::t) ++ [z]).map _=_
  rw [eu,List.map_append,List.map_append,List.append_assoc]
  rfl
 have e1:(CB cs n).map (λc=>fr c.1)=(u.map (λc=>fr c.1) ++ [fr y.1]) ++ [fr z.1] :=by rw [e0,List.append_assoc];rfl
 have e2:(CB cs n).map (λc=>fr c.1)=fr d.1::(t ++ [z]).map (λc=>fr c.1):=by rw [et];rfl
 have k1:=bm.sub bn
 have k2:=bd.sub bn
 have k3:=bz.sub bm
 have k4:=bz.sub by'
 have ne1:d.1-n≠0:=by have:=md.2;grind
 have ne2:z.1-y.1≠0:=by grind
 apply Hh
 ac_rfl
 refine Cz cor (λc=>fr c.1) (λc=>decide (n<c.1)) (λc=>c∈cs) (λc VJ R N h1 h2=> ?_) cs [] (λc h=>h) ?_
 ·have bc:=hc c VJ
  ac_rfl
  ·rename_i k
   exact h1 (decide_eq_true k)
  ·rename_i k
   exact h2 (decide_eq_false k)
 ·show A8 3 (PV.lst ((CB cs n).map λc=>fr c.1)) _ _
  have i0:∀{R:PV->Prop},R (fr d.1)->Ah (.lst ((CB cs n).map λc=>fr c.1)) (.int 0) R:=λh=>by rw [et];exact mS (f:=λc:C4=>fr c.1) (k:=0) (x:=d) rfl h
  have i1:∀{R:PV->Prop},R (fr z.1)->Ah (.lst ((CB cs n).map λc=>fr c.1)) (.int (-1)) R:=λh=>by rw [e1];exact cY h
  have i2:∀{R:PV->Prop},R (fr y.1)->Ah (.lst ((CB cs n).map λc=>fr c.1)) (.int (-2)) R:=λh=>by rw [e0];exact cZ h
  generalize (CB cs n).map (λc=>fr c.1)=L at *
  ac_rfl
  refine i0 ?_
  ac_rfl
  ·rename_i k
   refine i0 ?_
   ac_rfl
   have n1:m<=d.1:=by grind
   unfold Se at q
   rw [if_pos n1] at q
   exact q
  ·rename_i k
   refine i2 ?_
   ac_rfl
   ·rename_i k5
    have n1:¬m<=d.1:=by grind
    have n2:m<=y.1:=by grind
    unfold Se at q
    rw [if_neg n1,if_pos n2] at q
    exact q
   ·rename_i k5
    refine i1 ?_
    ac_rfl
    refine i1 ?_
    ac_rfl
    refine i2 ?_
    ac_rfl
    have n1:¬m<=d.1:=by grind
    have n2:¬m<=y.1:=by grind
    unfold Se at q
    rw [if_neg n1,if_neg n2] at q
    exact q
abbrev OQ:List (Str×PV):=List.map (λp=>(p.1,PV.int p.2)) ([("east",(0:Int)),("west",(0:Int)),("north",(1:Int)),("south",(1:Int)),("up",(2:Int)),("down",(2:Int))] :List (Str×Int))
theorem dv:OQ.lookup (Str.ofString "east")=some (PV.int 0):=by rfl
theorem dw:OQ.lookup (Str.ofString "west")=some (PV.int 0):=by rfl
theorem dz:OQ.lookup (Str.ofString "north")=some (PV.int 1):=by rfl
theorem d5:OQ.lookup (Str.ofString "south")=some (PV.int 1):=by rfl
theorem d6:OQ.lookup (Str.ofString "up")=some (PV.int 2):=by rfl
theorem d7:OQ.lookup (Str.ofString "down")=some (PV.int 2):=by rfl
theorem Zv {k:Str} {x:PV} {Q:PV->Prop} (e:OQ.lookup k=some x) (q:Q x):Vo OQ (.str k) Q:=by show MI (OQ.lookup k) Q;rw [e];exact q
theorem aS {cs t:List C4} {n m:Rat} {d y z:C4} {B M:Nat} (hc:∀c∈cs,Bd B c.1) (hr:Bk cs) (et:CB cs n=d::(t ++ [z])) (ey:(d::t).getLast?=some y) (bn:Bd M n) (bm:Bd M m):Bd (3*M+3*B+4) (Se n d y z m):=by
 have mem:∀c∈CB cs n,c∈cs/\n<c.1:=λc hc=>⟨(List.mem_filter.mp hc).1,of_decide_eq_true (List.mem_filter.mp hc).2⟩
 have md:=mem d (by rw [et];simp)
 have mz:=mem z (by rw [et];simp)
 have my:=mem y (by rw [et];have:=List.mem_of_getLast? ey;rcases List.mem_cons.mp this with e|e <;> simp [e])
 have yz:y.1<z.1:=by
  have h:Bk (CB cs n):=hr.filter _
  rw [et] at h
  have h2:Bk ((d::t) ++ [z]):=h
  exact (List.pairwise_append.mp h2).2.2 y (List.mem_of_getLast? ey) z (by simp)
 have bd:=hc d md.1
 have by':=hc y my.1
 have bz:=hc z mz.1
 unfold Se
 split
 ·exact ((bm.sub bn).div (by have:=md.2;grind) (bd.sub bn)).mono (by omega)
 ·split
  ·exact cA.mono (by omega)
  ·exact ((bz.sub bm).div (by grind) (bz.sub by')).mono (by omega)
theorem Nk {cs t:List C4} {n m x:Rat} {d y z:C4} {p:T3} {wd:Str} {ways:Rat×Rat×Rat} {B M X:Nat} (hw:IK wd=some ways) (hl:cs.length<=100) (h0:cs≠ []) (hc:∀c∈cs,Bt B c) (hr:Bk cs) (et:CB cs n=d::(t ++ [z])) (ey:(d::t).getLast?=some y) (ep:spotC cs m=some p) (bn:Bd M n) (bm:Bd M m) (bx:Bd X x) (hB:B<=40) (hM:M<=950) (hX:X<=40) {Q:PV->Prop} (q:Q (Sy (J3 (Fb (Se n d y z m) (ways.1*x,ways.2.1*x,ways.2.2*x)) p))):Ce [AW cs, .str wd,fr x,fr n,fr m] Q:=by
 have bp:=NP.spotC bm hr hc p ep
 obtain ⟨b1,b2,b3⟩:=bp
 apply La
 ac_rfl
 refine B2 hc hr h0 (by omega) bm (by omega) ?_
 rw [ep,show DK (some p)= .tup [fr p.1,fr p.2.1,fr p.2.2] from rfl]
 ac_rfl
 have way:(wd="east" /\ways=(1,0,0))\/(wd="west" /\ways=(-1,0,0))\/(wd="north" /\ways=(0,1,0))\/(wd="south" /\ways=(0, -1,0))\/(wd="up" /\ways=(0,0,1))\/(wd="down" /\ways=(0,0, -1)):=by
  simp only [IK] at hw
  grind
 have bs:Bd 2974 (Se n d y z m):=(aS (λc h=>(hc c h).m) hr et ey bn bm).mono (by omega)
 have bk:=bx.mul bs
 clear hw
 have en:PV.tup [PV.int (0-(x*Se n d y z m).num),PV.int ((x*Se n d y z m).den:Int)] =fr (-(x*Se n d y z m)):=by
  rw [Int.zero_sub]
  rfl
 have bk2:=bk.neg
 have c0:D7 [fr p.1,fr p.2.1,fr p.2.2] none (some 0)= [] :=rfl
 have c1:D7 [fr p.1,fr p.2.1,fr p.2.2] none (some 1)= [fr p.1] :=rfl
 have c2:D7 [fr p.1,fr p.2.1,fr p.2.2] none (some 2)= [fr p.1,fr p.2.1] :=rfl
 have d0:D7 [fr p.1,fr p.2.1,fr p.2.2] (some (0+1)) none= [fr p.2.1,fr p.2.2] :=rfl
 have d1:D7 [fr p.1,fr p.2.1,fr p.2.2] (some (1+1)) none= [fr p.2.2] :=rfl
 have d2:D7 [fr p.1,fr p.2.1,fr p.2.2] (some (2+1)) none= [] :=rfl
 rcases way with ⟨rfl,rfl⟩|⟨rfl,rfl⟩|⟨rfl,rfl⟩|⟨rfl,rfl⟩|⟨rfl,rfl⟩|⟨rfl,rfl⟩
 ·refine Zv dv ?_
  repeat' array_get_dec
  refine CD hl (λc h=>(hc c h).m) hr et ey bn bm (by omega) (by omega) ?_
  repeat' array_get_dec
  refine ⟨⟨by decide +kernel,by decide +kernel⟩, ?_⟩
  repeat' array_get_dec
  rw [c0]
  try refine ⟨by show _<=sizeLine;simp only [List.length_cons,List.length_nil];decide, ?_⟩
  repeat' array_get_dec
  rw [d0]
  try refine ⟨by show _<=sizeLine;simp only [List.length_append,List.length_cons,List.length_nil];decide, ?_⟩
  refine cast (congrArg Q ?_) q
  simp only [Sy,J3,Fb,List.cons_append,List.nil_append]
  refine congrArg PV.tup (congr (congrArg List.cons ?_) (congr (congrArg List.cons ?_) (congrArg (λx=> [x]) ?_))) <;> refine congrArg fr ?_ <;> grind
 ·refine Zv dw ?_
  repeat' array_get_dec
  refine CD hl (λc h=>(hc c h).m) hr et ey bn bm (by omega) (by omega) ?_
  repeat' array_get_dec
  refine ⟨⟨by decide +kernel,by decide +kernel⟩, ?_⟩
  repeat' array_get_dec
  rw [en]
  repeat' array_get_dec
  rw [c0]
  try refine ⟨by show _<=sizeLine;simp only [List.length_cons,List.length_nil];decide, ?_⟩
  repeat' array_get_dec
  rw [d0]
  try refine ⟨by show _<=sizeLine;simp only [List.length_append,List.length_cons,List.length_nil];decide, ?_⟩
  refine cast (congrArg Q ?_) q
  simp only [Sy,J3,Fb,List.cons_append,List.nil_append]
  refine congrArg PV.tup (congr (congrArg List.cons ?_) (congr (congrArg List.cons ?_) (congrArg (λx=> [x]) ?_))) <;> refine congrArg fr ?_ <;> grind
 ·refine Zv dz ?_
  repeat' array_get_dec
  refine CD hl (λc h=>(hc c h).m) hr et ey bn bm (by omega) (by omega) ?_
  repeat' array_get_dec
  refine ⟨⟨by decide +kernel,by decide +kernel⟩, ?_⟩
  repeat' array_get_dec
  rw [c1]
  try refine ⟨by show _<=sizeLine;simp only [List.length_cons,List.length_nil];decide, ?_⟩
  repeat' array_get_dec
  rw [d1]
  try refine ⟨by show _<=sizeLine;simp only [List.length_append,List.length_cons,List.length_nil];decide, ?_⟩
  refine cast (congrArg Q ?_) q
  simp only [Sy,J3,Fb,List.cons_append,List.nil_append]
  refine congrArg PV.tup (congr (congrArg List.cons ?_) (congr (congrArg List.cons ?_) (congrArg (λx=> [x]) ?_))) <;> refine congrArg fr ?_ <;> grind
 ·refine Zv d5 ?_
  repeat' array_get_dec
  refine CD hl (λc h=>(hc c h).m) hr et ey bn bm (by omega) (by omega) ?_
  repeat' array_get_dec
  refine ⟨⟨by decide +kernel,by decide +kernel⟩, ?_⟩
  repeat' array_get_dec
  rw [en]
  repeat' array_get_dec
  rw [c1]
  try refine ⟨by show _<=sizeLine;simp only [List.length_cons,List.length_nil];decide, ?_⟩
  repeat' array_get_dec
  rw [d1]
  try refine ⟨by show _<=sizeLine;simp only [List.length_append,List.length_cons,List.length_nil];decide, ?_⟩
  refine cast (congrArg Q ?_) q
  simp only [Sy,J3,Fb,List.cons_append,List.nil_append]
  refine congrArg PV.tup (congr (congrArg List.cons ?_) (congr (congrArg List.cons ?_) (congrArg (λx=> [x]) ?_))) <;> refine congrArg fr ?_ <;> grind
 ·refine Zv d6 ?_
  repeat' array_get_dec
  refine CD hl (λc h=>(hc c h).m) hr et ey bn bm (by omega) (by omega) ?_
  repeat' array_get_dec
  refine ⟨⟨by decide +kernel,by decide +kernel⟩, ?_⟩
  repeat' array_get_dec
  rw [c2]
  try refine ⟨by show _<=sizeLine;simp only [List.length_cons,List.length_nil];decide, ?_⟩
  repeat' array_get_dec
  rw [d2]
  try refine ⟨by show _<=sizeLine;simp only [List.length_append,List.length_cons,List.length_nil];decide, ?_⟩
  refine cast (congrArg Q ?_) q
  simp only [Sy,J3,Fb,List.cons_append,List.nil_append]
  refine congrArg PV.tup (congr (congrArg List.cons ?_) (congr (congrArg List.cons ?_) (congrArg (λx=> [x]) ?_))) <;> refine congrArg fr ?_ <;> grind
 ·refine Zv d7 ?_
  repeat' array_get_dec
  refine CD hl (λc h=>(hc c h).m) hr et ey bn bm (by omega) (by omega) ?_
  repeat' array_get_dec
  refine ⟨⟨by decide +kernel,by decide +kernel⟩, ?_⟩
  repeat' array_get_dec
  rw [en]
  repeat' array_get_dec
  rw [c2]
  try refine ⟨by show _<=sizeLine;simp only [List.length_cons,List.length_nil];decide, ?_⟩
  repeat' array_get_dec
  rw [d2]
  try refine ⟨by show _<=sizeLine;simp only [List.length_append,List.length_cons,List.length_nil];decide, ?_⟩
  refine cast (congrArg Q ?_) q
  simp only [Sy,J3,Fb,List.cons_append,List.nil_append]
  refine congrArg PV.tup (congr (congrArg List.cons ?_) (congr (congrArg List.cons ?_) (congrArg (λx=> [x]) ?_))) <;> refine congrArg fr ?_ <;> grind
theorem GQ {cs:List C4} {n m x:Rat} {wd:Str} {B M:Nat} (hl:cs.length<=100) (h0:cs≠ []) (hc:∀c∈cs,Bt B c) (hr:Bk cs) (bn:Bd M n) (bm:Bd M m) (hB:B<=40) (hM:M<=950) (h:m<n) {Q:PV->Prop} (q:Q (DK (spotC cs m))):A6 [AW cs, .str wd,fr x,fr n,fr m] Q:=by
 apply Cu
 ac_rfl
 ·refine B2 hc hr h0 (by omega) bm (by omega) ?_
  ac_rfl
  exact q
 all_goals exact absurd h ‹¬m<n›
theorem HZ {a:C4} {r:List C4} {n m x:Rat} {B M X:Nat} (hl:(a::r).length<=100) (hc:∀c∈a::r,Bt B c) (hr:Bk (a::r)) (bn:Bd M n) (bm:Bd M m) (bx:Bd X x) (hB:B<=40) (hM:M<=950) (hX:X<=40) (h:¬m<n) {Q:PV->Prop} (q:Q (DK (if m-x<n then (if n=a.1 then none else spotC (a::r) n) else spotC (a::r) (m-x)))):A6 [AW (a::r), .str "wait",fr x,fr n,fr m] Q:=by
 have k1':=bm.sub bx
 have ba:=(hc a (by simp)).m
 apply Cu
 ac_rfl
 ·exact absurd ‹m<n› h
 ·rename_i k1 k2
  refine B2 hc hr (by simp) (by omega) bn (by omega) ?_
  rw [if_pos k1,if_neg k2] at q
  exact q
 ·rename_i k1 k2
  rw [if_pos k1,if_pos k2] at q
  exact q
 ·rename_i k1
  refine B2 hc hr (by simp) (by omega) k1' (by omega) ?_
  rw [if_neg k1] at q
  exact q
theorem Ni {cs:List C4} {n m x:Rat} {B M X:Nat} (hl:cs.length<=100) (h0:cs≠ []) (hc:∀c∈cs,Bt B c) (hr:Bk cs) (bn:Bd M n) (bm:Bd M m) (bx:Bd X x) (hB:B<=40) (hM:M<=950) (hX:X<=40) (hx:0<1+x) (h:¬m<n) {Q:PV->Prop} (q:Q (DK (spotC cs (n+(m-n)/(1+x))))):A6 [AW cs, .str "slow",fr x,fr n,fr m] Q:=by
 have k1:=bm.sub bn
 have k2:=cA.add bx
 have ne:(1:Rat)+x≠0:=by grind
 have k3:=k1.div ne k2
 have k4:=bn.add k3
 apply Cu
 ac_rfl
 all_goals first | exact absurd ‹m<n› h|skip
 refine B2 hc hr h0 (by omega) k4 (by omega) ?_
 exact q
theorem S3 {wd:Str} {ways:Rat×Rat×Rat} (hw:IK wd=some ways):wd="east" \/wd="west" \/wd="north" \/wd="south" \/wd="up" \/wd="down" :=by
 simp only [IK] at hw
 grind
theorem MB {cs t:List C4} {n m x:Rat} {d y z:C4} {p:T3} {wd:Str} {ways:Rat×Rat×Rat} {B M X:Nat} (hw:IK wd=some ways) (hl:cs.length<=100) (h0:cs≠ []) (hc:∀c∈cs,Bt B c) (hr:Bk cs) (et:CB cs n=d::(t ++ [z])) (ey:(d::t).getLast?=some y) (ep:spotC cs m=some p) (bn:Bd M n) (bm:Bd M m) (bx:Bd X x) (hB:B<=40) (hM:M<=950) (hX:X<=40) (h:¬m<n) {Q:PV->Prop} (q:Q (Sy (J3 (Fb (Se n d y z m) (ways.1*x,ways.2.1*x,ways.2.2*x)) p))):A6 [AW cs, .str wd,fr x,fr n,fr m] Q:=by
 have R:∀{Q:PV->Prop},Q (Sy (J3 (Fb (Se n d y z m) (ways.1*x,ways.2.1*x,ways.2.2*x)) p))->Ce [AW cs, .str wd,fr x,fr n,fr m] Q:=λq=>Nk hw hl h0 hc hr et ey ep bn bm bx hB hM hX q
 have w6:=S3 hw
 clear hw
 apply Cu
 rcases w6 with rfl|rfl|rfl|rfl|rfl|rfl
 all_goals
  ac_rfl
 all_goals first | exact absurd ‹m<n› h|exact R q|skip
end PL.K19
end
section
namespace PL.K19
open PySem L2 PL PyProof.Rows
theorem Q8 {xs ys:List C4} {B:Nat} (hl:xs.length+ys.length<=300) (hx:∀c∈xs++ys,Bd B c.1) (hB:B<=1900) {Q:PV->Prop} (q:∀ms:List Rat,ms.length<=700->(∀m∈ms,Bd (2*B+5) m)->Q (.lst (ms.map fr))):Bh [AW xs,AW ys] Q:=by
 apply GJ
 ac_rfl
 refine XG cor (λus vs τ=>∃(ks:List Rat) (z3 z5:Option AV),ks.length<=us.length/\(∀k∈ks,Bd B k)/\τ= [some (.val (AW xs)),some (.val (AW ys)),some (.own (ks.map fr)),z3,none,z5]) ?_ ?_ ⟨[],_,_,Nat.le_refl _,by simp,rfl⟩
 ·rintro τ ⟨ks,z3,z5,hk,bk,rfl⟩
  rw [List.length_append] at hk
  ac_rfl
  refine W8 (λi acc=>∃us:List Rat,acc=us.map fr/\us.length<=i/\∀m∈us,Bd (2*B+5) m) ?_ ?_ ⟨[],rfl,Nat.le_refl _,by simp⟩
  ·rintro acc ⟨us,rfl,ul,ub⟩
   ac_rfl
   rw [<-List.map_append]
   refine q _ ?_ ?_
   ·rw [List.length_append];omega
   ·intro m hm
    rcases List.mem_append.mp hm with h|h
    ·exact (bk m h).mono (by omega)
    ·exact ub m h
  ·rintro i hi acc R hR ⟨us,rfl,ul,ub⟩
   ac_rfl
   rename_i c1 e1 m1 c2 e2 m2
   have b1:=bk c1 m1
   have b2:=bk c2 m2
   ac_rfl
   have bh:Bd 2 (1/2:Rat):=⟨by decide +kernel,by decide +kernel⟩
   have b3:=bh.mul (b1.add b2)
   ac_rfl
   refine hR _ ⟨us ++ [1/2*(c1+c2)],by simp,by simp;omega,λm hm=> ?_⟩
   rcases List.mem_append.mp hm with h|h
   ·exact ub m h
   ·rcases List.mem_singleton.mp h with rfl
    exact b3.mono (by omega)
 ·rintro us c vs e τ R hR ⟨ks,z3,z5,hk,bk,rfl⟩
  have bc:=hx c (by rw [<-e];simp)
  have jR:=congrArg List.length e
  simp only [List.length_append,List.length_cons] at jR
  have fin:∀(ks':List Rat) (z3 z5:Option AV),ks'.length<=ks.length+1->(∀k∈ks',Bd B k)->R [some (.val (AW xs)),some (.val (AW ys)),some (.own (ks'.map fr)),z3,none,z5] :=λks' z3 z5 h1 h2=>hR _ ⟨ks',z3,z5,by rw [List.length_append,List.length_singleton];omega,h2,rfl⟩
  clear hR q
  ac_rfl
  refine eF (λn τ=>∃k:Nat,n+k=ks.length+1/\k<=ks.length/\τ= [some (.val (AW xs)),some (.val (AW ys)),some (.own (ks.map fr)),some (.val (cor c)),none,some (.val (.int k))]) ?_ ?_ (n:=ks.length+1) ⟨0,by omega,by omega,rfl⟩
  ·rintro n τ R2 ZP ⟨k,hn,gS,rfl⟩
   rw [show frz [some (AV.val (AW xs)),some (AV.val (AW ys)),some (AV.own (ks.map fr)),some (AV.val (cor c)),none,some (AV.val (PV.int k))] = [some (AV.val (AW xs)),some (AV.val (AW ys)),some (AV.val (.lst (ks.map fr))),some (AV.val (cor c)),none,some (AV.val (PV.int k))] from rfl]
   have put:∀z3 z5,R [some (.val (AW xs)),some (.val (AW ys)),some (.own (List.take (k:Int).toNat (ks.map fr)++fr c.1::List.drop (k:Int).toNat (ks.map fr))),z3,none,z5] :=λz3 z5=>by
    have:=fin (ks.take k++c.1::ks.drop k) z3 z5 (by simp;omega) (λx hx=>by
     rcases List.mem_append.mp hx with h|h
     ·exact bk x (List.mem_of_mem_take h)
     ·rcases List.mem_cons.mp h with rfl|h
      ·exact bc
      ·exact bk x (List.mem_of_mem_drop h))
    rw [List.map_append,List.map_cons,List.map_take,List.map_drop] at this
    exact this
   have keep:∀z3 z5,R [some (.val (AW xs)),some (.val (AW ys)),some (.own (ks.map fr)),z3,none,z5] :=λz3 z5=>fin ks z3 z5 (by omega) bk
   have more:k<ks.length->R2 [some (.val (AW xs)),some (.val (AW ys)),some (.own (ks.map fr)),some (.val (cor c)),none,some (.val (.int ((k:Int)+1)))] :=λh=>ZP _ ⟨k+1,by omega,by omega,by rw [show (((k+1:Nat)):Int)=(k:Int)+1 by omega]⟩
   clear ZP fin
   ac_rfl
   ·rename_i kp c1 e1 m1
    have b1:=bk c1 m1
    ac_rfl
    ·exact more (by omega)
    ·exact put _ _
    ·exact put _ _
    ·exact keep _ _
   ·exact put _ _
   ·exfalso;omega
   ·exfalso;omega
  ·rintro τ ⟨k,hn,gS,_⟩
   omega
theorem XB:∀o:Option T3,Jf (DK o) (DK o)=true
 | none=>rfl
 | some (x,y,z)=>by
   have h:Jf (DK (some (x,y,z))) (DK (some (x,y,z)))=(Jf (fr x) (fr x)&&(Jf (fr y) (fr y)&&(Jf (fr z) (fr z)&&true))):=rfl
   rw [h,Ee,Ee,Ee];simp
theorem Pn (d:Nat):∀o:Option T3,DL (d+2) (DK o)=true
 | none=>rfl
 | some _=>rfl
theorem Xf {o:Option T3} {Q:PV->Prop} (q:Q (.bl false)):U0 (DK o) (DK o) Q:=by
 cases o with
 | none=>exact q
 | some t=>exact ⟨⟨Pn 28 _,Pn 28 _⟩,by rw [XB];exact q⟩
theorem ZH {c:C4} {Q:PV->Prop} (q:Q (.bl true)):IP (cor c) (cor c) Q:=⟨⟨rfl,rfl⟩,by rw [Ry,decide_eq_true rfl];exact q⟩
theorem Vt {a l:C4} {r:List C4} {n:Rat} (hc:∀c∈a::r,Bt 40 c) (hr:Bk (a::r)) (hl:(a::r).length<=12) (bn:Bd 190 n):ax 14 440 (EL (a::r) a.1 n):=by
 unfold EL
 refine ⟨by simp, ?_, ?_⟩
 ·rw [List.length_cons,List.length_append,List.length_singleton]
  have:=List.length_filter_le (Je a.1 n) (a::r)
  omega
 ·intro c h
  rcases List.mem_cons.mp h with rfl|h
  ·exact (QC (hc a (by simp)).m hr hc).mono (by decide)
  ·rcases List.mem_append.mp h with h|h
   ·exact (hc c (List.mem_filter.mp h).1).mono (by decide)
   ·rcases List.mem_singleton.mp h with rfl
    exact (QC bn hr hc).mono (by decide)
theorem S0 {a l L f0:C4} {r ft:List C4} {n x:Rat} {wd:Str} {D:DW} {z6 z7:Option AV} (hc:∀c∈a::r,Bt 40 c) (hr:Bk (a::r)) (h0:r≠ []) (el:(a::r).getLast?=some l) (hl:(a::r).length<=12) (bn:Bd 190 n) (an:a.1<=n) (nl:n<l.1) {nw:PV}
 (f1:ft≠ []) (eL:(f0::ft).getLast?=some L) (fl:(f0::ft).length<=100) (fb:∀c∈f0::ft,Bt 470 c) (fR:Bk (f0::ft))
 (due:∀m,Bd 945 m->m<=L.1->∀R:PV->Prop,R (DK (spotC (f0::ft) m))->A6 [AW (a::r), .str wd,fr x,fr n,fr m] R)
 (fin1:n=a.1->wd="wait" \/f0=a) (fin2:a.1<n->f0.1=a.1/\n<L.1/\EL (f0::ft) a.1 n=EL (a::r) a.1 n) (q:D.rt (.bl true)):
 BF D [some (.val (AW (a::r))),some (.val (.str wd)),some (.val (fr x)),some (.val nw),some (.val (AW (f0::ft))),some (.val (fr n)),z6,z7] :=by
 obtain ⟨nx,rt,bk,ct⟩:=D
 have bL:=fb L (List.mem_of_getLast? eL)
 have ba:=hc a (by simp)
 ac_rfl
 refine Q8 (B:=470) (by omega) ?_ (by decide) λms ml mb=> ?_
 ·intro c VJ
  rcases List.mem_append.mp VJ with h|h
  ·exact (hc c h).m.mono (by decide)
  ·exact (fb c h).m
 ac_rfl
 refine XF (λτ=>∃z7,τ= [some (.val (AW (a::r))),some (.val (.str wd)),some (.val (fr x)),some (.val nw),some (.val (AW (f0::ft))),some (.val (fr n)),some (.val (fr L.1)),z7]) ?_ ?_ ⟨_,rfl⟩
 ·rintro τ ⟨z7,rfl⟩
  ac_rfl
  ·exact q
  ·rename_i k1 k2
   rcases fin1 k1 with h|h
   ·exact absurd h k2
   ·subst h
    exact ZH q
  ·rename_i k
   obtain ⟨g1,g2,g3⟩:=fin2 (by grind)
   have bf:=fb f0 (by simp)
   have bl:=hc l (List.mem_of_getLast? el)
   refine HH (B5.self _) fb fR f1 eL (by omega) (M:=470) (ba.m.mono (by decide)) (bn.mono (by decide)) bf.m bL.m (by decide) ?_
   have e1:LS (LR (f0::ft) (mx a.1 f0.1) (mn n L.1))=AW (EL (a::r) a.1 n):=by
    have e2:mx a.1 f0.1=a.1:=by unfold mx;split <;> grind
    have e3:mn n L.1=n:=by unfold mn;split <;> grind
    rw [e2,e3,<-g3]
    unfold LR
    rw [if_pos (by grind)]
    rfl
   rw [e1]
   ac_rfl
   refine HH (B5.self _) hc hr h0 el (by omega) (M:=190) (ba.m.mono (by decide)) bn (ba.m.mono (by decide)) (bl.m.mono (by decide)) (by decide) ?_
   have e4:LS (LR (a::r) (mx a.1 a.1) (mn n l.1))=AW (EL (a::r) a.1 n):=by
    have e2:mx a.1 a.1=a.1:=by unfold mx;split <;> grind
    have e3:mn n l.1=n:=by unfold mn;split <;> grind
    rw [e2,e3]
    unfold LR
    rw [if_pos (by grind)]
    rfl
   rw [e4]
   ac_rfl
   have bag:=Vt (l:=l) hc hr hl bn
   refine YA (B5.self _) (B5.self _) bag bag (by decide) (by decide) (by decide) ?_
   rw [decide_eq_true rfl]
   ac_rfl
   exact q
 ·intro v hv τ R hR hp
  obtain ⟨z7,rfl⟩:=hp
  obtain ⟨m,rfl,bm⟩:∃m,v=fr m/\Bd 945 m:=by
   rcases List.mem_append.mp hv with h|h
   ·obtain ⟨m,hm,rfl⟩:=List.mem_map.mp h
    exact ⟨m,rfl,mb m hm⟩
   ·rcases List.mem_singleton.mp h with rfl
    exact ⟨n,rfl,bn.mono (by decide)⟩
  have again:∀z7,R [some (.val (AW (a::r))),some (.val (.str wd)),some (.val (fr x)),some (.val nw),some (.val (AW (f0::ft))),some (.val (fr n)),some (.val (fr L.1)),z7] :=λz7=>hR _ ⟨z7,rfl⟩
  clear hR
  ac_rfl
  rotate_left
  ·exact again _
  ·rename_i k
   refine B2 fb fR (by simp) (by omega) bm (by decide) ?_
   ac_rfl
   refine due m bm (by grind) _ ?_
   refine Xf ?_
   ac_rfl
   exact again _
theorem RI {a l:C4} {r:List C4} {n:Rat} (el:(a::r).getLast?=some l) (nl:n<l.1):(CB (a::r) n).getLast?=some l:=by
 obtain ⟨u,hu⟩:=List.getLast?_eq_some_iff.mp el
 unfold CB
 rw [hu,List.filter_append,List.filter_cons,if_pos (by simpa using nl),List.filter_nil]
 exact List.getLast?_concat
theorem Ta {a:C4} {r:List C4} {n:Rat} (an:a.1<n):Bg (a::r) n=a::Bg r n:=by
 unfold Bg
 rw [List.filter_cons,if_pos (by simpa using an)]
theorem U1 {cs:List C4} {f n:Rat}:(Bg cs n).filter (Je f n)=cs.filter (Je f n):=by
 unfold Bg
 rw [List.filter_filter]
 refine List.filter_congr λc _=> ?_
 unfold Je
 by_cases h:c.1<n <;> simp [h]
theorem UB {a l:C4} {r ft:List C4} {n:Rat} (hr:Bk (a::r)) (h0:r≠ []) (el:(a::r).getLast?=some l) (an:a.1<n) (nl:n<l.1) (hR:Bk (Bg (a::r) n++sp (a::r) n::ft)) (ne:ft≠ []):EL (Bg (a::r) n++sp (a::r) n::ft) a.1 n=EL (a::r) a.1 n:=by
 have sm:∀m,m<=n->spotC (Bg (a::r) n++sp (a::r) n::ft) m=spotC (a::r) m:=λm hm=>by
  rw [Lr (c:=sp (a::r) n) hm (NU an)]
  exact M6 hr h0 el an nl hm
 have e1:∀m,m<=n->sp (Bg (a::r) n++sp (a::r) n::ft) m=sp (a::r) m:=λm hm=>by
  have:=sm m hm
  simp only [sp] at this ⊢
  rw [this]
 have e2:(Bg (a::r) n++sp (a::r) n::ft).filter (Je a.1 n)=(a::r).filter (Je a.1 n):=by
  rw [List.filter_append,U1]
  have:(sp (a::r) n::ft).filter (Je a.1 n)= [] :=by
   rw [List.filter_eq_nil_iff]
   intro c hc
   have h2:=(List.pairwise_append.mp hR).2.1
   have:¬c.1<n:=by
    rcases List.mem_cons.mp hc with rfl|h
    ·show ¬n<n;grind
    ·have:=(List.pairwise_cons.mp h2).1 c h
     have:n<c.1:=this
     grind
   unfold Je
   simp [this]
  rw [this,List.append_nil]
 unfold EL
 rw [e1 _ (by grind),e1 _ (by grind),e2]
theorem ca {u:List C4} {y z:C4} {R:PV->Prop} (h:R (cor y)):Ah (AW (u ++ [y,z])) (.int (-2)) R:=by
 show MI (EE ((u ++ [y,z]).map cor) (-2)) R
 rw [List.map_append]
 have q:EE (u.map cor ++ [cor y,cor z]) (-2)=some (cor y):=by
  unfold EE UV
  have el:(u.map cor ++ [cor y,cor z]).length=(u.map cor).length+2:=by simp
  rw [el,if_neg (by decide),if_pos (by omega)]
  have e2:(-2+(((u.map cor).length+2:Nat):Int)).toNat=(u.map cor).length:=by omega
  rw [Option.bind_some,e2,List.getElem?_append_right (Nat.le_refl _),Nat.sub_self]
  rfl
 show MI (EE (u.map cor ++ [cor y,cor z]) (-2)) R
 rw [q];exact h
theorem Yb:∀{cs:List C4},2<=cs.length->∃u y z,cs=u ++ [y,z]
 | [],h=>by simp at h
 | [_],h=>by simp at h
 | [a,b],_=>⟨[],a,b,rfl⟩
 | a::b::c::r,_=>by
   obtain ⟨u,y,z,e⟩:=Yb (cs:=b::c::r) (by simp)
   exact ⟨a::u,y,z,by rw [e];rfl⟩
theorem WK {a l:C4} {r ft:List C4} {n m:Rat} (hr:Bk (a::r)) (h0:r≠ []) (el:(a::r).getLast?=some l) (an:a.1<=n) (nl:n<l.1) (hm:m<n):spotC (Bg (a::r) n++sp (a::r) n::ft) m=spotC (a::r) m:=by
 by_cases h:a.1<n
 ·rw [Lr (c:=sp (a::r) n) (show m<=n by grind) (NU h)]
  exact M6 hr h0 el h nl (by grind)
 ·rw [HV hr h]
  have e1:spotC (a::r) m=none:=Df (by grind)
  rw [e1]
  exact Df (a:=sp (a::r) n) hm
theorem WI {a:C4} {r:List C4} (hr:Bk (a::r)) (h0:r≠ []):sp (a::r) a.1=a:=by
 obtain ⟨b,t,rfl⟩:=List.exists_cons_of_ne_nil h0
 have Qx:=(List.pairwise_cons.mp hr).1 b (by simp)
 have e:spotC (a::b::t) a.1=some a.2:=by
  simp only [spotC,spotG]
  rw [if_neg (by grind),if_neg (by grind)]
  obtain ⟨m,x,y,z⟩:=a
  simp only [inter,Option.some.injEq,Prod.mk.injEq]
  exact ⟨by grind,by grind,by grind⟩
 simp only [sp,e,Option.getD_some]
theorem XT {a:C4} {r ft:List C4} {n:Rat} (hr:Bk (a::r)) (an:a.1<=n):∃f0 t,Bg (a::r) n++sp (a::r) n::ft=f0::t/\(ft≠ [] ->t≠ [])/\(a.1<n->f0=a)/\(¬a.1<n->f0=sp (a::r) n):=by
 by_cases h:a.1<n
 ·rw [Ta h]
  exact ⟨a,_,rfl,λ_=>by simp,λ_=>rfl,λk=>absurd h k⟩
 ·rw [HV hr h]
  exact ⟨_,_,rfl,λk=>k,λk=>absurd k h,λ_=>rfl⟩
theorem VA {a l:C4} {r ft:List C4} {n x:Rat} {wd:Str} {D:DW} {z6 z7:Option AV} (hc:∀c∈a::r,Bt 40 c) (hr:Bk (a::r)) (h0:r≠ []) (el:(a::r).getLast?=some l) (hl:(a::r).length<=12) (bn:Bd 190 n) (an:a.1<=n) (nl:n<l.1) {nw:PV}
 (ne:ft≠ []) (fl:ft.length<=20) (fb:∀c∈ft,Bt 470 c) (fR:Bk (Bg (a::r) n++sp (a::r) n::ft))
 (due:∀m L,ft.getLast?=some L->Bd 945 m->¬m<n->m<=L.1->∀R:PV->Prop,R (DK (spotC (sp (a::r) n::ft) m))->A6 [AW (a::r), .str wd,fr x,fr n,fr m] R)
 (q:D.rt (.bl true)):
 BF D [some (.val (AW (a::r))),some (.val (.str wd)),some (.val (fr x)),some (.val nw),some (.val (AW (Bg (a::r) n++sp (a::r) n::ft))),some (.val (fr n)),z6,z7] :=by
 obtain ⟨u,L,eu⟩:∃u L,ft=u ++ [L] :=⟨_,_,(List.dropLast_concat_getLast ne).symm⟩
 have eL0:ft.getLast?=some L:=by rw [eu];exact List.getLast?_concat
 have eL1:(Bg (a::r) n++sp (a::r) n::ft).getLast?=some L:=by
  rw [eu,<-List.cons_append,<-List.append_assoc];exact List.getLast?_concat
 have nL:n<L.1:=(List.pairwise_cons.mp (List.pairwise_append.mp fR).2.1).1 L (by rw [eu];simp)
 have b1:∀c∈Bg (a::r) n++sp (a::r) n::ft,Bt 470 c:=λc h=>by
  rcases List.mem_append.mp h with h|h
  ·exact (hc c (List.mem_filter.mp h).1).mono (by decide)
  ·rcases List.mem_cons.mp h with rfl|h
   ·exact (QC bn hr hc).mono (by decide)
   ·exact fb c h
 have l1:(Bg (a::r) n++sp (a::r) n::ft).length<=100:=by
  rw [List.length_append,List.length_cons]
  have:(Bg (a::r) n).length<=(a::r).length:=List.length_filter_le _ _
  omega
 have d1:∀m,Bd 945 m->m<=L.1->∀R:PV->Prop,R (DK (spotC (Bg (a::r) n++sp (a::r) n::ft) m))->A6 [AW (a::r), .str wd,fr x,fr n,fr m] R:=λm bm hm R hR=>by
  by_cases h:m<n
  ·rw [WK hr h0 el an nl h] at hR
   exact GQ (M:=945) (by omega) (by simp) hc hr (bn.mono (by decide)) bm (by decide) (by decide) h hR
  ·refine due m L eL0 bm h hm R ?_
   rw [C0 (c:=sp (a::r) n) ne (show n<=m by grind) fR] at hR
   exact hR
 have p1:a.1<n->EL (Bg (a::r) n++sp (a::r) n::ft) a.1 n=EL (a::r) a.1 n:=λh=>UB hr h0 el h nl fR ne
 obtain ⟨f0,t,e,ht,ln,ZT⟩:=XT (ft:=ft) (n:=n) hr an
 rw [e] at eL1 b1 l1 d1 p1 fR ⊢
 refine S0 hc hr h0 el hl bn an nl (ht ne) eL1 l1 b1 fR d1 ?_ ?_ q
 ·intro h
  refine .inr ?_
  rw [ZT (by grind),h]
  exact WI hr h0
 ·intro h
  exact ⟨by rw [ln h],nL,p1 h⟩
theorem SX {L L':List C4} (e:L.map (·.1)=L'.map (·.1)) (h:Bk L):Bk L':=by
 have h1:(L.map (·.1)).Pairwise (· < ·):=List.pairwise_map.mpr h
 rw [e] at h1
 exact List.pairwise_map.mp h1
theorem Bt.of {B:Nat} {c:C4} (h1:Bd B c.1) (h2:Bd B c.2.1) (h3:Bd B c.2.2.1) (h4:Bd B c.2.2.2):Bt B c:=⟨h1,h2,h3,h4⟩
section
variable {a l:C4} {r:List C4} {n x:Rat} {D:DW} {z6 z7:Option AV} {nw:PV}
theorem XO (hc:∀c∈a::r,Bt 40 c) (hr:Bk (a::r)) (h0:r≠ []) (el:(a::r).getLast?=some l) (hl:(a::r).length<=12) (bn:Bd 190 n) (an:a.1<=n) (nl:n<l.1) (bx:Bd 40 x) (hx:0<x) (q:D.rt (.bl true)):
 BF D [some (.val (AW (a::r))),some (.val (.str "slow")),some (.val (fr x)),some (.val nw),some (.val (AW (JO (Bg (a::r) n) (sp (a::r) n) (CB (a::r) n) x))),some (.val (fr n)),z6,z7] :=by
 have ef:0<1+x:=by grind
 have e:JO (Bg (a::r) n) (sp (a::r) n) (CB (a::r) n) x=Bg (a::r) n++sp (a::r) n::(CB (a::r) n).map (Eh n (1+x)):=by
  unfold JO
  rw [List.append_assoc]
  rfl
 have QK:(CB (a::r) n).map (Eh n (1+x))≠ [] :=λz=>NR el nl (List.map_eq_nil_iff.mp z)
 have R0:Bk (Bg (a::r) n++sp (a::r) n::(CB (a::r) n).map (Eh n (1+x))):=by
  have rp:=Dy (b:=n) hr
  have rt:Bk (sp (a::r) n::CB (a::r) n):=(List.pairwise_append.mp rp).2.1
  have up:∀d∈(CB (a::r) n).map (Eh n (1+x)),n<d.1:=λd hd=>by
   obtain ⟨d',Lw,rfl⟩:=List.mem_map.mp hd
   have h2:n<d'.1:=of_decide_eq_true (List.mem_filter.mp Lw).2
   show n<n+(1+x)*(d'.1-n)
   have:=Rat.mul_pos ef (show 0<d'.1-n by grind)
   grind
  refine List.pairwise_append.mpr ⟨hr.filter _,List.pairwise_cons.mpr ⟨up,SY ef (List.pairwise_cons.mp rt).2⟩,λc hc d hd=> ?_⟩
  have h1:c.1<n:=of_decide_eq_true (List.mem_filter.mp hc).2
  rcases List.mem_cons.mp hd with rfl|hd
  ·exact h1
  ·have:=up d hd
   grind
 rw [e]
 refine VA hc hr h0 el hl bn an nl QK ?_ ?_ R0 ?_ q
 ·rw [List.length_map]
  have:(CB (a::r) n).length<=(a::r).length:=List.length_filter_le _ _
  omega
 ·intro d hd
  obtain ⟨d',Lw,rfl⟩:=List.mem_map.mp hd
  have b:=hc d' (List.mem_filter.mp Lw).1
  exact Bt.of ((bn.add ((cA.add bx).mul (b.m.sub bn))).mono (by decide)) (b.x.mono (by decide)) (b.y.mono (by decide)) (b.z.mono (by decide))
 ·intro m L eL bm hm _ R hR
  have k:=RV (m:=m) ef hr el an nl (by grind)
  rw [e,C0 (c:=sp (a::r) n) QK (show n<=m by grind) R0] at k
  rw [k] at hR
  exact Ni (M:=945) (by omega) (by simp) hc hr (bn.mono (by decide)) bm bx (by decide) (by decide) (by decide) ef hm hR
theorem XQ (hc:∀c∈a::r,Bt 40 c) (hr:Bk (a::r)) (h0:r≠ []) (el:(a::r).getLast?=some l) (hl:(a::r).length<=12) (bn:Bd 190 n) (an:a.1<=n) (nl:n<l.1) (bx:Bd 40 x) (hx:0<x) (q:D.rt (.bl true)):
 BF D [some (.val (AW (a::r))),some (.val (.str "wait")),some (.val (fr x)),some (.val nw),some (.val (AW (FW (Bg (a::r) n) (sp (a::r) n) (CB (a::r) n) x))),some (.val (fr n)),z6,z7] :=by
 have bw:∀d∈laterC x (sp (a::r) n::CB (a::r) n),Bt 470 d:=λd hd=>by
  obtain ⟨d',Lw,rfl⟩:=List.mem_map.mp hd
  rcases List.mem_cons.mp Lw with rfl|Lw
  ·have b:=QC bn hr hc
   exact Bt.of ((bn.add bx).mono (by decide)) (b.x.mono (by decide)) (b.y.mono (by decide)) (b.z.mono (by decide))
  ·have b:=hc d' (List.mem_filter.mp Lw).1
   exact Bt.of ((b.m.add bx).mono (by decide)) (b.x.mono (by decide)) (b.y.mono (by decide)) (b.z.mono (by decide))
 have lw:(laterC x (sp (a::r) n::CB (a::r) n)).length<=20:=by
  unfold laterC
  rw [List.length_map,List.length_cons]
  have:(CB (a::r) n).length<=(a::r).length:=List.length_filter_le _ _
  omega
 by_cases h:a.1<n
 ·have R0:=LZ (b:=n) hx hr
  have QK:laterC x (sp (a::r) n::CB (a::r) n)≠ [] :=by simp [laterC]
  rw [OS h]
  refine VA hc hr h0 el hl bn an nl QK lw bw R0 ?_ q
  intro m L eL bm hm _ R hR
  have k:=RX (m:=m) hx hr el h nl (by grind)
  rw [OS h,C0 (c:=sp (a::r) n) QK (show n<=m by grind) R0] at k
  refine HZ (M:=945) (by omega) hc hr (bn.mono (by decide)) bm bx (by decide) (by decide) (by decide) hm ?_
  rw [if_neg (show ¬n=a.1 by grind)]
  rw [k] at hR
  obtain ⟨t,et⟩:=Cc h0 el an (show n<=l.1 by grind)
  have es:some (sp (a::r) n).2=spotC (a::r) n:=by simp only [sp,et,Option.getD_some]
  rw [es] at hR
  exact hR
 ·have na:n=a.1:=by grind
  have lX:Bk (laterC x (sp (a::r) n::CB (a::r) n)):=by
   have rp:=Dy (b:=n) hr
   have rt:Bk (sp (a::r) n::CB (a::r) n):=(List.pairwise_append.mp rp).2.1
   refine List.pairwise_map.mpr (rt.imp λ{c d} k=> ?_)
   show c.1+x<d.1+x
   grind
  have ew:FW (Bg (a::r) n) (sp (a::r) n) (CB (a::r) n) x=laterC x (sp (a::r) n::CB (a::r) n):=by
   unfold FW
   rw [if_pos (HV hr h)]
  have k0:∀m,spotC (laterC x (sp (a::r) n::CB (a::r) n)) m=if m-x<n then none else spotC (a::r) (m-x):=λm=>by
   rw [<-ew]
   exact RW hr el na nl
  rw [ew]
  obtain ⟨L,eL⟩:∃L,(laterC x (sp (a::r) n::CB (a::r) n)).getLast?=some L:=⟨_,List.getLast?_eq_some_getLast (by simp [laterC])⟩
  have QK:laterC x (CB (a::r) n)≠ [] :=λz=>NR el nl (List.map_eq_nil_iff.mp z)
  refine S0 (f0:=(n+x,(sp (a::r) n).2)) (ft:=laterC x (CB (a::r) n)) (L:=L) hc hr h0 el hl bn an nl QK eL ?_ bw lX ?_ (λ_=> .inl rfl) (λz=>absurd z h) q
  ·exact Nat.le_trans lw (by decide)
  ·intro m bm _ R hR
   have k1:=k0 m
   have hR:R (DK (spotC (laterC x (sp (a::r) n::CB (a::r) n)) m)):=hR
   rw [k1] at hR
   by_cases g:m<n
   ·rw [if_pos (by grind)] at hR
    have e1:spotC (a::r) m=none:=Df (by grind)
    rw [<-e1] at hR
    exact GQ (M:=945) (by omega) (by simp) hc hr (bn.mono (by decide)) bm (by decide) (by decide) g hR
   ·refine HZ (M:=945) (by omega) hc hr (bn.mono (by decide)) bm bx (by decide) (by decide) (by decide) g ?_
    rw [if_pos na]
    exact hR
theorem ZO {d y z:C4} {t:List C4} {wd:Str} {ways:Rat×Rat×Rat} (hw:IK wd=some ways) (et:CB (a::r) n=d::(t ++ [z])) (ey:(d::t).getLast?=some y) (hc:∀c∈a::r,Bt 40 c) (hr:Bk (a::r)) (h0:r≠ []) (el:(a::r).getLast?=some l) (hl:(a::r).length<=12) (bn:Bd 190 n) (an:a.1<=n) (nl:n<l.1) (bx:Bd 40 x) (q:D.rt (.bl true)):
 BF D [some (.val (AW (a::r))),some (.val (.str wd)),some (.val (fr x)),some (.val nw),some (.val (AW (Bg (a::r) n++sp (a::r) n::((d::t).map (CQ (ways.1*x,ways.2.1*x,ways.2.2*x)) ++ [z])))),some (.val (fr n)),z6,z7] :=by
 have rp:=Dy (b:=n) hr
 have zl:z=l:=by
  have:=RI el nl
  rw [et,<-List.cons_append,List.getLast?_concat] at this
  exact Option.some.inj this
 have R0:Bk (Bg (a::r) n++sp (a::r) n::((d::t).map (CQ (ways.1*x,ways.2.1*x,ways.2.2*x)) ++ [z])):=by
  refine SX ?_ rp
  rw [et]
  simp only [List.map_append,List.map_cons,List.map_map,List.map_nil]
  rfl
 have rt:Bk (sp (a::r) n::d::(t ++ [z])):=by rw [<-et];exact (List.pairwise_append.mp rp).2.1
 have QK:(d::t).map (CQ (ways.1*x,ways.2.1*x,ways.2.2*x)) ++ [z] ≠ [] :=by simp
 have bway:Bd 1 ways.1/\Bd 1 ways.2.1/\Bd 1 ways.2.2:=by
  simp only [IK] at hw
  have b0:Bd 1 (0:Rat):=⟨by decide,by decide⟩
  have b1:Bd 1 (1:Rat):=⟨by decide,by decide⟩
  have b2:Bd 1 (-1:Rat):=⟨by decide,by decide⟩
  repeat' split at hw
  all_goals first | (cases hw;exact ⟨by assumption,by assumption,by assumption⟩)|cases hw
 refine VA hc hr h0 el hl bn an nl QK ?_ ?_ R0 ?_ q
 ·have h1:(CB (a::r) n).length<=(a::r).length:=List.length_filter_le _ _
  rw [et] at h1
  rw [List.length_append,List.length_map,List.length_singleton]
  simp only [List.length_cons,List.length_append,List.length_nil] at h1 hl ⊢
  omega
 ·intro c h
  have mem:∀c∈d::(t ++ [z]),Bt 40 c:=λc h=>hc c (List.mem_filter.mp (by rw [<-et] at h;exact h)).1
  rcases List.mem_append.mp h with h|h
  ·obtain ⟨c',em,rfl⟩:=List.mem_map.mp h
   have b:=mem c' (by rw [<-List.cons_append];exact List.mem_append_left _ em)
   exact Bt.of (b.m.mono (by decide)) ((b.x.add (bway.1.mul bx)).mono (by decide)) ((b.y.add (bway.2.1.mul bx)).mono (by decide)) ((b.z.add (bway.2.2.mul bx)).mono (by decide))
  ·exact (mem c (by rw [<-List.cons_append];exact List.mem_append_right _ h)).mono (by decide)
 ·intro m L eL bm hm hL R hR
  rw [List.getLast?_concat] at eL
  cases eL
  obtain ⟨p,ep⟩:=Cc h0 el (show a.1<=m by grind) (show m<=l.1 by rw [<-zl];exact hL)
  have k:spotC (sp (a::r) n::((d::t).map (CQ (ways.1*x,ways.2.1*x,ways.2.2*x)) ++ [z])) m=(spotC (a::r) m).map (J3 (Fb (Se n d y z m) (ways.1*x,ways.2.1*x,ways.2.2*x))):=by
   rw [<-IE hr el an nl (show n<=m by grind),et]
   show (if m<n then none else spotG (sp (a::r) n) _ m)=(if m<n then none else spotG (sp (a::r) n) _ m).map _
   rw [if_neg hm,if_neg hm]
   exact UL hL ey rt (show n<=m by grind)
  rw [k,ep] at hR
  exact MB (M:=945) hw (by omega) (by simp) hc hr et ey ep (bn.mono (by decide)) bm bx (by decide) (by decide) (by decide) hm hR
end
theorem Q9 {wd:Str} {b:Bool} {Q:PV->Prop} (h1:DL 29 (.str wd)=true) (h2:(!Zb (.str wd) [.str "wait", .str "slow"])=b) (q:Q (.bl b)):XC true (.str wd) (.tup [.str "wait", .str "slow"]) Q:=by
 refine ⟨⟨h1,by simp only [GH,DL];decide +kernel⟩, ?_⟩
 rw [if_pos rfl,h2]
 exact q
theorem Vh {Q:PV->Prop} (q:Q (.bl false)):XC true (.str "wait") (.tup [.str "wait", .str "slow"]) Q:=Q9 (by simp only [DL];decide +kernel) (by decide +kernel) q
theorem Vg {Q:PV->Prop} (q:Q (.bl false)):XC true (.str "slow") (.tup [.str "wait", .str "slow"]) Q:=Q9 (by simp only [DL];decide +kernel) (by decide +kernel) q
theorem Xg {wd:Str} {w:T3} {Q:PV->Prop} (h:IK wd=some w) (q:Q (.bl true)):XC true (.str wd) (.tup [.str "wait", .str "slow"]) Q:=by
 rcases S3 h with rfl|rfl|rfl|rfl|rfl|rfl <;> exact Q9 (by simp only [DL];decide +kernel) (by decide +kernel) q
theorem V6 {cs:List C4} {n x:Rat} {wd:Str} (p:D5 12 40 cs) (bx:Bd 40 x) (x0:0<=x) (bn:Bd 190 n) (cQ:wd="wait" \/wd="slow" \/∃ways,IK wd=some ways) {Q:PV->Prop} (q:Q (.bl true)):CH [AW cs, .str wd,fr x,fr n] Q:=by
 have few:=p.few
 have two:=p.two
 have hr:=p.ris
 have hc:=p.bd
 obtain ⟨u,y,z,e2⟩:=Yb two
 obtain ⟨a,r,l,rfl,h0,el,al⟩:=p.open
 have bl:=hc l (List.mem_of_getLast? el)
 have ba:=hc a (by simp)
 have byy:=hc y (by rw [e2];simp)
 have zl:z=l:=by
  have:=el
  rw [e2,show u ++ [y,z] =(u ++ [y]) ++ [z] by simp,List.getLast?_concat] at this
  exact Option.some.inj this
 have I2:∀{R:PV->Prop},R (cor y)->Ah (AW (a::r)) (.int (-2)) R:=λh=>by rw [e2];exact ca h
 apply Hg
 unfold Di Dz D0 D1
 generalize eT:BF=T
 ac_rfl
 by_cases hs:x=0\/¬n<l.1
 ·refine P7 (m:=0) (B5.self _) (.inl rfl) (by omega) el bn bl.m (by decide) (by decide) hs ?_
  ac_rfl
  ·exact Qq (by rw [decide_eq_true rfl];exact q)
  ·exact Qq (by rw [decide_eq_true rfl];exact q)
  ·rename_i k1 k2
   rcases hs with h|h
   ·exact absurd h k1
   ·exact absurd k2 h
 ·have hx:x≠0:=λz=>hs (.inl z)
  have Ft:n<l.1:=Classical.byContradiction λz=>hs (.inr z)
  have bm:=bn.mx (ba.m.mono (by decide):Bd 190 a.1)
  have an:=Vf n a.1
  have nl:mx n a.1<l.1:=by unfold mx;split <;> assumption
  have xp:0<x:=by grind
  refine UI (B5.self _) (.inl rfl) hc hr h0 (by omega) el bn (ba.m.mono (by decide)) bx (by decide) hx Ft ?_ cQ
  rintro b f c t rfl rfl rfl rfl
  refine ⟨?_, ?_, ?_⟩
  ·rintro rfl
   ac_rfl
   ·exact absurd ‹x=0› hx
   ·exact absurd Ft ‹_›
   ·refine Vh ?_
    subst eT
    exact XQ hc hr h0 el few bm an nl bx xp q
  ·rintro rfl
   ac_rfl
   ·exact absurd ‹x=0› hx
   ·exact absurd Ft ‹_›
   ·refine Vg ?_
    subst eT
    exact XO hc hr h0 el few bm an nl bx xp q
  ·intro ways hw
   have rp:=Dy (b:=mx n a.1) hr
   ac_rfl
   ·exact absurd ‹x=0› hx
   ·exact absurd Ft ‹_›
   ·refine Xg hw ?_
    ac_rfl
    refine I2 ?_
    ac_rfl
    rotate_left
    ·rename_i k
     have ea:CB (a::r) (mx n a.1)=CB u (mx n a.1) ++ [y,z] :=by
      rw [e2]
      unfold CB
      have kz:mx n a.1<z.1:=by rw [zl];exact nl
      rw [List.filter_append,List.filter_cons,if_pos (by simpa using k),List.filter_cons,if_pos (by simpa using kz),List.filter_nil]
     obtain ⟨d,t,edt⟩:∃d t,CB u (mx n a.1) ++ [y] =d::t:=by
      cases CB u (mx n a.1) with
      | nil=>exact ⟨y, [],rfl⟩
      | cons d t=>exact ⟨d,t ++ [y],rfl⟩
     have et:CB (a::r) (mx n a.1)=d::(t ++ [z]):=by
      rw [ea,<-List.cons_append,<-edt]
      simp
     have ey:(d::t).getLast?=some y:=by rw [<-edt];exact List.getLast?_concat
     have elC:Nm (Bg (a::r) (mx n a.1)) (sp (a::r) (mx n a.1)) (CB (a::r) (mx n a.1)) ways x=some (Bg (a::r) (mx n a.1)++sp (a::r) (mx n a.1)::((d::t).map (CQ (ways.1*x,ways.2.1*x,ways.2.2*x)) ++ [z])):=by
      rw [et];exact Zi
     rw [elC]
     subst eT
     exact ZO hw et ey hc hr h0 el few bm an nl bx q
    ·rename_i k
     have elC:Nm (Bg (a::r) (mx n a.1)) (sp (a::r) (mx n a.1)) (CB (a::r) (mx n a.1)) ways x=none:=by
      unfold Nm
      rw [if_pos]
      have:CB u (mx n a.1)= [] :=by
       unfold CB
       rw [List.filter_eq_nil_iff]
       intro c ll
       have:c.1<y.1:=by
        have h2:=hr
        rw [e2] at h2
        exact (List.pairwise_append.mp h2).2.2 c ll y (by simp)
       simp
       grind
      rw [e2]
      unfold CB at this ⊢
      rw [List.filter_append,this,List.filter_cons,if_neg (by simpa using k)]
      have:=List.length_filter_le (λc:C4=>decide (mx n a.1<c.1)) [z]
      simp only [List.length_append,List.length_nil,List.length_singleton] at this ⊢
      omega
     rw [elC]
     exact q
theorem VY {xs:List PV} {k:Int} {R:PV->Prop} (h0:0<=k) (h1:k<xs.length) (h:∀x∈xs,R x):Ah (.lst xs) (.int k) R:=by
 show MI (EE xs k) R
 have hk:xs[k.toNat]? =some (xs[k.toNat]'(by omega)):=List.getElem?_eq_getElem (by omega)
 have e:=Ct hk
 rw [show ((k.toNat:Nat):Int)=k by omega] at e
 rw [e]
 exact h _ (List.getElem_mem _)
theorem WX {k:Int} {R:PV->Prop} (h0:0<=k) (h1:k<8) (h:∀wd:Str,(wd="wait" \/wd="slow" \/∃ways,IK wd=some ways)->R (.str wd)):Ah (.lst [.str "wait", .str "slow", .str "east", .str "west", .str "north", .str "south", .str "up", .str "down"]) (.int k) R:=by
 refine VY h0 h1 λx hx=> ?_
 have wy:∀{wd:Str} {w:T3},IK wd=some w->R (.str wd):=λe=>h _ (.inr (.inr ⟨_,e⟩))
 simp only [List.mem_cons,List.not_mem_nil,or_false] at hx
 rcases hx with rfl|rfl|rfl|rfl|rfl|rfl|rfl|rfl
 ·exact h _ (.inl rfl)
 ·exact h _ (.inr (.inl rfl))
 ·exact wy (w:=(1,0,0)) (by decide +kernel)
 ·exact wy (w:=(-1,0,0)) (by decide +kernel)
 ·exact wy (w:=(0,1,0)) (by decide +kernel)
 ·exact wy (w:=(0, -1,0)) (by decide +kernel)
 ·exact wy (w:=(0,0,1)) (by decide +kernel)
 ·exact wy (w:=(0,0, -1)) (by decide +kernel)
theorem Vd (ns:List Int) (hn:ns.length<=63):Dx [.scr ns] λx=>x= .bl true:=by
 apply Pz
 repeat' array_get_dec
 refine Rz (λi τ=>∃z1 z2 z3 z4 z5 z6,τ= [some (.val (.scr ns)),z1,z2,z3,z4,z5,z6]) ?_ ?_ ⟨_,_,_,_,_,_,rfl⟩
 ·rintro τ ⟨z1,z2,z3,z4,z5,z6,rfl⟩
  repeat' array_get_dec
 ·rintro i hi τ R hR ⟨z1,z2,z3,z4,z5,z6,rfl⟩
  have again:∀z1 z2 z3 z4 z5 z6,R [some (.val (.scr ns)),z1,z2,z3,z4,z5,z6] :=λz1 z2 z3 z4 z5 z6=>hR _ ⟨z1,z2,z3,z4,z5,z6,rfl⟩
  clear hR
  ac_rfl
  rename_i cs p fi f0 f1
  refine Rz (λj τ=>∃z5 z6,τ= [some (.val (.scr ns)),some (.val (.int (0+(i:Int)))),some (.val .tape),some (.val (AW cs)),some (.val (.int fi)),z5,z6]) ?_ ?_ ⟨_,_,rfl⟩
  ·rintro τ ⟨z5,z6,rfl⟩
   exact again _ _ _ _ _ _
  ·rintro j hj τ R2 ZP ⟨z5,z6,rfl⟩
   have again2:∀z5 z6,R2 [some (.val (.scr ns)),some (.val (.int (0+(i:Int)))),some (.val .tape),some (.val (AW cs)),some (.val (.int fi)),z5,z6] :=λz5 z6=>ZP _ ⟨z5,z6,rfl⟩
   clear ZP
   have nX:j<3:=hj
   have fm:∀k:Int,0<=k.fmod 8/\k.fmod 8<8:=λk=>by
    rw [Int.fmod_eq_emod_of_nonneg _ (by decide)]
    exact ⟨Int.emod_nonneg _ (by decide),Int.emod_lt_of_pos _ (by decide)⟩
   ac_rfl
   refine ⟨MulOk.of (n:=10) (m:=10) (by decide) (by omega) (by decide) (by decide), ?_⟩
   ac_rfl
   refine WX (fm _).1 (fm _).2 λwd cQ=> ?_
   ac_rfl
   refine K0 p (by decide) (by decide) λn bn=> ?_
   ac_rfl
   refine V6 p ‹_› ‹_› bn cQ ?_
   ac_rfl
   exact again2 _ _
end PL.K19
end
section
namespace K19
open PySem L2 PL PL.K19 PyProof.Rows
def top (i:Nat):Stmt:=PySem.Challenge.pw_skylanes_k19_shapes_keep_what_is_flown.main.body.getD i (.Pass ⟨0,0,0,0⟩)
theorem Dn {N Q:List Str} {s:Scope} (a:s.kind= .function:=by rfl) (b:s.isCoroutine=false:=by rfl) (c:s.isGenerator=false:=by rfl) (d:N.Nodup:=by decide +kernel) (e:N.take Q.length=Q:=by rfl) (f:∀x∈Q,s.names.lookup x=some .local\/s.names.lookup x=some .cell:=by decide +kernel) (g:∀y∈s.names,y.2≠ .free:=by decide +kernel):Ad N Q s:=⟨a,b,c,d,e,f,g⟩
abbrev EM:Stmt:=top 32
abbrev EQ:Stmt:=top 33
abbrev Cw:Stmt:=top 43
abbrev Dq:Stmt:=top 39
abbrev ET:Stmt:=top 40
abbrev FG:Stmt:=top 35
abbrev ES:Stmt:=top 41
abbrev Cy:Stmt:=top 42
abbrev Cv:Stmt:=top 44
abbrev EO:Stmt:=top 46
abbrev EN:Stmt:=top 34
abbrev FF:Stmt:=top 36
abbrev Dr:Stmt:=top 38
abbrev DG:Stmt:=top 37
abbrev Du:Stmt:=top 49
abbrev EU:Stmt:=top 48
abbrev Dt:Stmt:=top 50
abbrev FE:Stmt:=top 51
abbrev DE:Stmt:=top 47
abbrev DF:Stmt:=top 52
abbrev Hi:Stmt:=top 8
abbrev Hj:Stmt:=top 1
abbrev N9:Stmt:=top 2
abbrev J7:Stmt:=top 5
abbrev N8:Stmt:=top 7
abbrev OA:Stmt:=top 4
abbrev J8:Stmt:=top 6
abbrev DI:Stmt:=top 13
abbrev GA:Stmt:=top 14
abbrev EX:Stmt:=top 15
abbrev CS:Stmt:=top 18
abbrev F7:Stmt:=top 10
abbrev Hm:Stmt:=top 9
abbrev F8:Stmt:=top 19
abbrev DU:Stmt:=top 20
abbrev Hr:Stmt:=top 12
abbrev Hl:Stmt:=top 21
abbrev DH:Stmt:=top 22
abbrev Hk:Stmt:=top 28
abbrev F9:Stmt:=top 17
abbrev J9:Stmt:=top 3
abbrev EY:Stmt:=top 27
abbrev Hq:Stmt:=top 26
abbrev J6:Stmt:=top 16
abbrev Hs:Stmt:=top 25
abbrev Ho:Stmt:=top 29
abbrev Ds:Stmt:=top 53
abbrev EV:Stmt:=top 31
abbrev EW:Stmt:=top 45
abbrev Lc:Stmt:=top 54
section
variable (P:Program) (w:World) (K:PySem.W.Frag) (mg:Str->Option Value) (base:Heap) (n:Nat)
abbrev Bl:=Has P w K mg base n "_law_draw" ["_law_tape_here","_law_many"] (BS K 2 A7)
abbrev Bn:=Has P w K mg base n "_law_part" ["_law_top","_law_bottom"] (BS K 2 Aj)
abbrev Jh:=Has P w K mg base n "_law_far_plan" ["_law_tape_here"] (BS K 1 Cr)
abbrev NW:=Has P w K mg base n "_law_place" ["_law_tape_here"] (BS K 1 BP)
abbrev Fq:=Has P w K mg base n "_law_span" ["_law_tape_here"] (BS K 1 CA)
abbrev DQ:=Has P w K mg base n "_law_sum" ["_law_one","_law_other"] (BS K 2 BN)
abbrev PR:=Has P w K mg base n "_law_plan" ["_law_tape_here"] (BS K 1 EH)
abbrev Ji:=Has P w K mg base n "_law_straight" ["_law_tape_here","_law_plan_here"] (BS K 2 Cs)
abbrev Jg:=Has P w K mg base n "_law_any_plan" ["_law_tape_here"] (BS K 1 CG)
abbrev PQ:=Has P w K mg base n "_law_much" ["_law_tape_here"] (BS K 1 DY)
abbrev C6:=Has P w K mg base n "_law_less" ["_law_one","_law_other"] (BS K 2 Ak)
abbrev E8:=Has P w K mg base n "_law_off" ["_law_one","_law_other"] (BS K 2 Ax)
abbrev E9:=Has P w K mg base n "_law_ratio" ["_law_one","_law_other"] (BS K 2 BX)
abbrev DB:=Has P w K mg base n "_law_product" ["_law_one","_law_other"] (BS K 2 BI)
abbrev NZ:=Has P w K mg base n "_law_share" ["_law_plan_here","_law_n","_law_m"] (BS K 3 CI)
abbrev Fs:=Has P w K mg base n "_law_spot" ["_law_plan_here","_law_m"] (BS K 2 Bj)
abbrev NY:=Has P w K mg base n "_law_round" ["_law_plan_here","_law_word","_law_amount","_law_n","_law_m"] (BS K 5 Ce)
abbrev Qw:=Has P w K mg base n "_law_due" ["_law_plan_here","_law_word","_law_amount","_law_n","_law_m"] (BS K 5 A6)
abbrev LG:=Has P w K mg base n "_law_greater" ["_law_one","_law_other"] (BS K 2 BH)
abbrev LH:=Has P w K mg base n "_law_moments" ["_law_one","_law_other"] (BS K 2 Bh)
abbrev D8:=Has P w K mg base n "before" ["one","other"] (BS K 2 Ak)
abbrev VB:=Has P w K mg base n "common" ["one","other"] (BS K 2 HF)
abbrev Nb:=Has P w K mg base n "part" ["top","bottom"] (BS K 2 Gs)
abbrev Na:=Has P w K mg base n "minus" ["one","other"] (BS K 2 Cf)
abbrev ZQ:=Has P w K mg base n "over" ["one","other"] (BS K 2 NL)
abbrev Nc:=Has P w K mg base n "plus" ["one","other"] (BS K 2 Ci)
abbrev Jx:=Has P w K mg base n "times" ["one","other"] (BS K 2 DT)
abbrev LJ:=Has P w K mg base n "spot_between" ["former","latter","m"] (BS K 3 C9)
abbrev Tf:=Has P w K mg base n "spot_at" ["plan","m"] (BS K 2 F3)
abbrev JG:=Has P w K mg base n "corner_at" ["plan","m"] (BS K 2 C3)
abbrev HX:=Has P w K mg base n "corners_between" ["plan","begin","end"] (BS K 3 CP)
abbrev MZ:=Has P w K mg base n "greater" ["one","other"] (BS K 2 BH)
abbrev VE:=Has P w K mg base n "lesser" ["one","other"] (BS K 2 HG)
abbrev Td:=Has P w K mg base n "part_of" ["plan","begin","end"] (BS K 3 Em)
abbrev L9:=Has P w K mg base n "is_straight" ["former","corner","latter"] (BS K 3 DS)
abbrev PZ:=Has P w K mg base n "tupled" ["rows"] (BS K 1 Eo)
abbrev VD:=Has P w K mg base n "fewest" ["plan"] (BS K 1 DZ)
abbrev LI:=Has P w K mg base n "same_flights" ["one","other"] (BS K 2 CW)
abbrev VC:=Has P w K mg base n "cut_at" ["corners","now"] (BS K 2 Fk)
abbrev Te:=Has P w K mg base n "put_off" ["plan","x","y","z"] (BS K 4 F2)
abbrev R6:=Has P w K mg base n "whole" ["n"] (BS K 1 F4)
abbrev PY:=Has P w K mg base n "led_round" ["former","corner","latter","way","amount"] (BS K 5 Db)
abbrev VG:=Has P w K mg base n "slowed" ["former","corner","latter","amount"] (BS K 4 Fl)
abbrev XR:=Has P w K mg base n "later" ["plan","by"] (BS K 2 Js)
abbrev VH:=Has P w K mg base n "waited" ["former","corner","latter","amount"] (BS K 4 Fm)
abbrev VF:=Has P w K mg base n "shaped" ["plan","shape","now"] (BS K 3 En)
abbrev NX:=Has P w K mg base n "_law_right" ["_law_plan_here","_law_word","_law_amount","_law_now"] (BS K 4 CH)
abbrev PU:=Has P w K mg base n "_law_tape" ["_law_script","_law_k"] (BS K 2 K1)
abbrev PX:=Has P w K mg base n "_law_when" ["_law_tape_here","_law_plan_here"] (BS K 2 EI)
end
section
variable {P:Program} {w:World} {K:PySem.W.Frag} {mg:Str->Option Value} {base:Heap} {n m:Nat} {f:Addr} {fd:FuncData}
theorem Ht:Ad ["_law_tape_here","_law_many","_law_once","_law_found"] ["_law_tape_here","_law_many"] (AU EM):=Dn
theorem Nr (F:C8 K "_law_draw" "_law_draw" EM f fd):
 A4 P w K mg base C7 (n+1) f fd ["_law_tape_here","_law_many"] (BS K 2 A7):=by
 have nd:=Ht.nd
 refine F.ok Ht (λvs H Q E h=> ?_) (λcdv A outer s H vs Q E hr h=> ?_)
 ·obtain ⟨T,M,xs,AQ,_,_,r,hl,_⟩:=h
  rw [r.length,hl] <;> rfl
 obtain ⟨T,M,xs,AQ,va,_,r,hl,hF,hQ⟩:=h
 unfold A7 at hF
 split at hF <;> first | exact hF.elim|skip
 rename_i m
 obtain ⟨⟨m0,m1⟩,hF⟩:=hF
 cases r with
 | cons r rr=>
 cases rr with
 | cons r2 rr=>
 cases rr
 cases r2
 cases r with
 | tape tp=>
 rename_i p
 obtain ⟨d,x,hp,d0,x0,x1⟩:=va.tp p tp
 refine ⟨_,(DD (V1 (N5 Ye (He EK (pv 0) A5 (λ_ _=>rfl)) A5 (DR _)) (DD (G3 (i:=3) nd rfl (Or.inl rfl) (CY FC (He EK (pv 0) A5 (λ_ _=>rfl)) (pv 1)))
  (DD (RL (CY Vq (He EK (pv 0) A5 (λ_ _=>rfl)) (pv 1)) (Vz (pv 0) A5 P6))
  (Hf (N3 (pv 3))))) N4)
  (DD (RL (CY FC (CY Io (CY F5 (He EK (pv 0) A5 (λ_ _=>rfl)) A5) A5) A5) (Vz (pv 0) A5 P6))
  (DD (G3 (i:=2) nd rfl (Or.inl rfl) (CY FC (CY F5 (He EK (pv 0) A5 (λ_ _=>rfl)) (CY Io (CY FC (He EK (pv 0) A5 (λ_ _=>rfl)) A5) A5)) A5))
  (Hf (N3 (CY FC (CY FC (CY F5 (pv 2) (CY Io (CY FC (pv 2) A5) A5)) A5) (pv 1))))))), ?_⟩
 have fin:∀(r d' x':Int),0<=r->r<m->0<=d'->0<=x'->x'<2147483647->Q (.int r) (upd H p (.lst [.int d', .int x'])):=λr d' x' r0 r1 a b c=>
  hQ _ (.int r) T _ (WQ va.tp tp a b c) (.int r) (hF r r0 r1)
 refine ⟨_,rfl,p,_,_,_,rfl,rfl,Fc.of hp,rfl,_,_,rfl,rfl,_,rfl, ?_⟩
 refine cW (λc=> ?_) (λc=> ?_)
 ·refine ⟨_,rfl,p,_,_,_,rfl,rfl,Fc.of hp,rfl,_,rfl,_,_,rfl,rfl,m0, ?_⟩
  refine ⟨_,rfl,p,_,_,_,rfl,rfl,Fc.of hp,rfl,_,rfl,_,_,rfl,rfl,⟨m0,by omega⟩, ?_⟩
  refine ⟨_,rfl,p,_,_,_,rfl,rfl,hp,rfl, ?_⟩
  exact ⟨_,rfl,fin _ _ _ (Int.emod_nonneg _ (by omega)) (Int.emod_lt_of_pos _ m0) (Int.ediv_nonneg d0 (by omega)) x0 x1⟩
 ·refine ⟨_,rfl,p,_,_,_,rfl,rfl,Fc.of hp,rfl,_,_,rfl,rfl, .inl (.inr ⟨by decide,by decide⟩),_,_,rfl,rfl,_,_,rfl,rfl,(show (0:Int)<2147483647 by decide), ?_⟩
  refine ⟨_,rfl,p,_,_,_,rfl,rfl,hp,rfl, ?_⟩
  have y0:0<=(x*48271+12345) % 2147483647:=Int.emod_nonneg _ (by decide)
  have y1:(x*48271+12345) % 2147483647<2147483647:=Int.emod_lt_of_pos _ (by decide)
  have jT:upd H p (.lst ([V.int d,V.int x].set (Int.toNat 1) (V.int ((x*48271+12345) % 2147483647)))) p=some (.lst [.int d, .int ((x*48271+12345) % 2147483647)]):=A1
  have z0:0<=(x*48271+12345) % 2147483647*((x*48271+12345) % 2147483647 % 1009+3) % 2147483629:=Int.emod_nonneg _ (by decide)
  have z1:(x*48271+12345) % 2147483647*((x*48271+12345) % 2147483647 % 1009+3) % 2147483629<2147483629:=Int.emod_lt_of_pos _ (by decide)
  refine ⟨_,rfl,p,_,_,_,rfl,rfl,Fc.of jT,rfl,_,rfl,p,_,_,_,rfl,rfl,Fc.of jT,rfl,_,_,rfl,rfl,(show (0:Int)<1009 by decide),_,_,rfl,rfl,_,_,rfl,rfl, .inl (.inl (Ln y0 y1)),_,_,rfl,rfl,(show (0:Int)<2147483629 by decide), ?_⟩
  refine ⟨_,rfl,_,rfl,_,_,rfl,rfl,(show (0:Int)<997 by decide),_,_,rfl,rfl,_,_,rfl,rfl, .inl (.inl (Ln z0 (Int.lt_trans z1 (by decide)))),_,_,rfl,rfl,(show (0:Int)<998244353 by decide),_,rfl,_,_,rfl,rfl,m0, ?_⟩
  exact fin _ _ _ (Int.emod_nonneg _ (by omega)) (Int.emod_lt_of_pos _ m0) d0 y0 y1
theorem Hw:Ad ["_law_top","_law_bottom","_law_sign","_law_one","_law_other"] ["_law_top","_law_bottom"] (AU EQ):=Dn
theorem Nv (F:C8 K "_law_part" "_law_part" EQ f fd) (FX:mg "abs" =none) (M9:mg "int" =none):
 A4 P w K mg base C7 (n+1) f fd ["_law_top","_law_bottom"] (BS K 2 Aj):=by
 have nd:=Hw.nd
 exact Ae F Hw rfl λ_ _ _ _ _ _ hr=>(AN (Ra (i:=3) (j:=4) rfl nd rfl rfl (by decide) rfl rfl (Ao (Be OB rfl FX boot_abs (CK (AJ 0))) (Be OB rfl FX boot_abs (CK (AJ 1)))) rfl) (AN (IF PassesOwn.never (GZ Sm (AJ 4) AH) (AR (Ra (i:=3) (j:=4) rfl nd rfl rfl (by decide) rfl rfl (Ao (AJ 4) (AZ RT (AJ 3) (AJ 4))) rfl))) (AN (Dg 2 nd (AZ CO AH (AZ BA AH (BO aN rfl M9 boot_int (CK (FH GY (AJ 1) AH (DR _))))))) (AR (Aa (Az (Ao (AZ KD (AZ BA (AJ 2) (AJ 0)) (AJ 3)) (AZ KD (AZ BA (AJ 2) (AJ 1)) (AJ 3)))))))))
theorem Ex:Ad ["_law_tape_here","_law_m","_law_corners","_law_k","_law_spot_here","_law_side","_law_top"] ["_law_tape_here"] (AU Cw):=Dn
theorem Ik (F:C8 K "_law_far_plan" "_law_far_plan" Cw f fd) (Ab:Bl P w K mg base n) (Ar:Bn P w K mg base n) (BL:mg "range" =none) (Ai:mg "tuple" =none):
 A4 P w K mg base C7 (n+1) f fd ["_law_tape_here"] (BS K 1 Cr):=by
 have nd:=Ex.nd
 exact Ae F Ex rfl λ_ _ _ _ _ _ hr=>(AN (Dg 1 nd (AK Ab hr rfl (Ao (AJ 0) (AZ RU AH AH)))) (AN (Iy (i:=2) nd rfl (Or.inl rfl) (Ca Iu)) (AN (Dk PassesOwn.never rfl (Li rfl BL (CK (AZ Af AH (AK Ab hr rfl (Ao (AJ 0) AH))))) (Mx 3 nd) (AN (Iy (i:=4) nd rfl (Or.inl rfl) (Ca Iu)) (AN (Dk PassesOwn.never rfl (Li rfl BL (CK AH)) (Mx 5 nd) (AN (Dg 6 nd (AZ CO (AK Ab hr rfl (Ao (AJ 0) AH)) AH)) (AR (GC (i:=4) PySem.F.slot_list_append PySem.F.type_list_append Ez (CK (AK Ar hr rfl (Ao (AJ 6) (AZ Af AH (AK Ab hr rfl (Ao (AJ 0) AH)))))))))) (AN (GC (i:=2) PySem.F.slot_list_append PySem.F.type_list_append Ez (CK (aP (Az (BE (AK Ar hr rfl (Ao (AJ 1) AH)) (IQ (AX (AJ 4) AH) (AX (AJ 4) AH) (AX (AJ 4) AH))))))) (AR (Dg 1 nd (AZ Af (AZ Af (AJ 1) AH) (AK Ab hr rfl (Ao (AJ 0) (AZ RU AH AH)))))))))) (AR (Aa (BO Bp rfl Ai boot_tuple (CK (AJ 2))))))))
theorem GT:Ad ["_law_tape_here","_law_kind"] ["_law_tape_here"] (AU Dq):=Dn
theorem MD (F:C8 K "_law_place" "_law_place" Dq f fd) (Ab:Bl P w K mg base n) (Ar:Bn P w K mg base n):
 A4 P w K mg base C7 (n+1) f fd ["_law_tape_here"] (BS K 1 BP):=by
 have nd:=GT.nd
 exact Ae F GT rfl λ_ _ _ _ _ _ hr=>(AN (Dg 1 nd (AK Ab hr rfl (Ao (AJ 0) AH))) (AN (BK (GZ GY (AJ 1) AH) (AR (Aa (Az (Ao (AZ CO (AK Ab hr rfl (Ao (AJ 0) AH)) AH) AH)))) A0) (AN (BK (GZ (DJ hr) (AJ 1) AH) (AR (Aa (AK Ar hr rfl (Ao (AZ CO (AK Ab hr rfl (Ao (AJ 0) AH)) AH) AH)))) A0) (AR (Aa (AK Ar hr rfl (Ao (AZ CO (AK Ab hr rfl (Ao (AJ 0) AH)) AH) AH)))))))
theorem Hy:Ad ["_law_tape_here","_law_way"] ["_law_tape_here"] (AU ET):=Dn
theorem Nx (F:C8 K "_law_span" "_law_span" ET f fd) (Ab:Bl P w K mg base n) (Ar:Bn P w K mg base n):
 A4 P w K mg base C7 (n+1) f fd ["_law_tape_here"] (BS K 1 CA):=by
 have nd:=Hy.nd
 exact Ae F Hy rfl λ_ _ _ _ _ _ hr=>(AN (Dg 1 nd (AK Ab hr rfl (Ao (AJ 0) AH))) (AN (BK (GZ GY (AJ 1) AH) (AR (Aa (Az (Ao (AZ Af AH (AK Ab hr rfl (Ao (AJ 0) AH))) AH)))) A0) (AR (Aa (AK Ar hr rfl (Ao (AZ Af AH (AK Ab hr rfl (Ao (AJ 0) AH))) (AZ CO (AJ 1) AH)))))))
theorem JN:Ad ["_law_one","_law_other"] ["_law_one","_law_other"] (AU FG):=Dn
theorem Pq (F:C8 K "_law_sum" "_law_sum" FG f fd) (Ar:Bn P w K mg base n):
 A4 P w K mg base C7 (n+1) f fd ["_law_one","_law_other"] (BS K 2 BN):=by
 have nd:=JN.nd
 exact Ae F JN rfl λ_ _ _ _ _ _ hr=>(AR (Aa (AK Ar hr rfl (Ao (AZ Af (AZ BA (AX (AJ 0) AH) (AX (AJ 1) AH)) (AZ BA (AX (AJ 1) AH) (AX (AJ 0) AH))) (AZ BA (AX (AJ 0) AH) (AX (AJ 1) AH))))))
theorem Hx:Ad ["_law_tape_here","_law_many","_law_m","_law_spot_here","_law_corners","_law_way"] ["_law_tape_here"] (AU ES):=Dn
theorem Nw (F:C8 K "_law_plan" "_law_plan" ES f fd) (Ab:Bl P w K mg base n) (CU:NW P w K mg base n) (DO:Fq P w K mg base n) (Ba:DQ P w K mg base n) (Br:mg "len" =none) (Ai:mg "tuple" =none):
 A4 P w K mg base C7 (n+1) f fd ["_law_tape_here"] (BS K 1 EH):=by
 have nd:=Hx.nd
 exact Ae F Hx rfl λ_ _ _ _ _ _ hr=>(AN (Dg 1 nd (AZ Af AH (AK Ab hr rfl (Ao (AJ 0) AH)))) (AN (BK (GZ (DJ hr) (AK Ab hr rfl (Ao (AJ 0) AH)) AH) (AR (Dg 1 nd (AZ Af AH (AK Ab hr rfl (Ao (AJ 0) AH))))) A0) (AN (Dg 2 nd (Az (Ao (AK Ab hr rfl (Ao (AJ 0) AH)) AH))) (AN (Dg 3 nd (Eg (Ca (IQ (AK CU hr rfl (CK (AJ 0))) (AK CU hr rfl (CK (AJ 0))) (AK CU hr rfl (CK (AJ 0))))))) (AN (Iy (i:=4) nd rfl (Or.inl rfl) (Ca (CK (Az (BE (AJ 2) (IQ (AX (AJ 3) AH) (AX (AJ 3) AH) (AX (AJ 3) AH))))))) (AN (IF PassesOwn.never (GZ GY (Be Ef rfl Br PySem.boot_len (CK (AJ 4))) (AJ 1)) (AN (Dg 2 nd (AK Ba hr rfl (Ao (AJ 2) (AK DO hr rfl (CK (AJ 0)))))) (AN (Dg 5 nd (AK Ab hr rfl (Ao (AJ 0) AH))) (AN (BK (GZ Sm (AJ 5) AH) (AR (Dg 3 nd (Eg (Ca (IQ (AK CU hr rfl (CK (AJ 0))) (AK CU hr rfl (CK (AJ 0))) (AK CU hr rfl (CK (AJ 0)))))))) (AR (BK (GZ Sm (AJ 5) AH) (AR (Dg 3 nd (AZ Af (AZ Af (Fz (AJ 3) WG (WH (AZ CO (AJ 5) AH))) (Eg (Ca (CK (AK CU hr rfl (CK (AJ 0))))))) (Fz (AJ 3) (WH (AJ 5)) WG)))) A0))) (AR (GC (i:=4) PySem.F.slot_list_append PySem.F.type_list_append Ez (CK (Az (BE (AJ 2) (IQ (AX (AJ 3) AH) (AX (AJ 3) AH) (AX (AJ 3) AH))))))))))) (AR (Aa (BO Bp rfl Ai boot_tuple (CK (AJ 4)))))))))))
theorem Ey:Ad ["_law_tape_here","_law_plan_here","_law_k","_law_middle","_law_one","_law_other"] ["_law_tape_here","_law_plan_here"] (AU Cy):=Dn
theorem Il (F:C8 K "_law_straight" "_law_straight" Cy f fd) (Ab:Bl P w K mg base n) (Ar:Bn P w K mg base n) (Br:mg "len" =none) (Ai:mg "tuple" =none) (IL:mg "zip" =none):
 A4 P w K mg base C7 (n+1) f fd ["_law_tape_here","_law_plan_here"] (BS K 2 Cs):=by
 have nd:=Ey.nd
 exact Ae F Ey rfl λ_ _ _ _ _ _ hr=>(AN (Dg 2 nd (AK Ab hr rfl (Ao (AJ 0) (AZ CO (Be Ef rfl Br PySem.boot_len (CK (AJ 1))) AH)))) (AN (Iy (i:=3) nd rfl (Or.inl rfl) (Ca Iu)) (AN (Dk PassesOwn.never rfl (aT rfl IL (Ao (AX (AJ 1) (AJ 2)) (AX (AJ 1) (AZ Af (AJ 2) AH)))) (Lh (n:=2) rfl (CL (Mx 4 nd) (CL (Mx 5 nd) ID))) (AR (GC (i:=3) PySem.F.slot_list_append PySem.F.type_list_append Ez (CK (AK Ar hr rfl (Ao (AZ Af (AZ BA (AX (AJ 4) AH) (AX (AJ 5) AH)) (AZ BA (AX (AJ 5) AH) (AX (AJ 4) AH))) (AZ BA (AZ BA AH (AX (AJ 4) AH)) (AX (AJ 5) AH)))))))) (AR (Aa (AZ Af (AZ Af (Fz (AJ 1) WG (WH (AZ Af (AJ 2) AH))) (Az (CK (BO Bp rfl Ai boot_tuple (CK (AJ 3)))))) (Fz (AJ 1) (WH (AZ Af (AJ 2) AH)) WG)))))))
theorem Ew:Ad ["_law_tape_here","_law_plan_here","_law_k"] ["_law_tape_here"] (AU Cv):=Dn
theorem Ij (F:C8 K "_law_any_plan" "_law_any_plan" Cv f fd) (Ab:Bl P w K mg base n) (Kr:Jh P w K mg base n) (QS:PR P w K mg base n) (Ku:Ji P w K mg base n) (BL:mg "range" =none):
 A4 P w K mg base C7 (n+1) f fd ["_law_tape_here"] (BS K 1 CG):=by
 have nd:=Ew.nd
 exact Ae F Ew rfl λ_ _ _ _ _ _ hr=>(AN (BK (GZ (DJ hr) (AK Ab hr rfl (Ao (AJ 0) AH)) AH) (AR (Aa (AK Kr hr rfl (CK (AJ 0))))) A0) (AN (Dg 1 nd (AK QS hr rfl (CK (AJ 0)))) (AN (Dk PassesOwn.never rfl (Li rfl BL (CK (AK Ab hr rfl (Ao (AJ 0) AH)))) (Mx 2 nd) (AR (Dg 1 nd (AK Ku hr rfl (Ao (AJ 0) (AJ 1)))))) (AR (Aa (AJ 1))))))
theorem Hv:Ad ["_law_tape_here","_law_way"] ["_law_tape_here"] (AU EO):=Dn
theorem Nu (F:C8 K "_law_much" "_law_much" EO f fd) (Ab:Bl P w K mg base n) (Ar:Bn P w K mg base n) (DO:Fq P w K mg base n):
 A4 P w K mg base C7 (n+1) f fd ["_law_tape_here"] (BS K 1 DY):=by
 have nd:=Hv.nd
 exact Ae F Hv rfl λ_ _ _ _ _ _ hr=>(AN (Dg 1 nd (AK Ab hr rfl (Ao (AJ 0) AH))) (AN (BK (GZ (DJ hr) (AJ 1) AH) (AR (Aa (Az (Ao AH AH)))) A0) (AN (BK (GZ (DJ hr) (AJ 1) AH) (AR (Aa (AK Ar hr rfl (Ao (AZ Af AH (AK Ab hr rfl (Ao (AJ 0) (AZ CO (AZ RU AH AH) AH)))) (AZ Af AH (AK Ab hr rfl (Ao (AJ 0) AH))))))) A0) (AR (Aa (AK DO hr rfl (CK (AJ 0))))))))
theorem Hu:Ad ["_law_one","_law_other"] ["_law_one","_law_other"] (AU EN):=Dn
theorem Nt (F:C8 K "_law_less" "_law_less" EN f fd):
 A4 P w K mg base C7 (n+1) f fd ["_law_one","_law_other"] (BS K 2 Ak):=by
 have nd:=Hu.nd
 exact Ae F Hu rfl λ_ _ _ _ _ _ hr=>(AR (Aa (FH GY (AZ BA (AX (AJ 0) AH) (AX (AJ 1) AH)) (AZ BA (AX (AJ 1) AH) (AX (AJ 0) AH)) (DR _))))
theorem JM:Ad ["_law_one","_law_other"] ["_law_one","_law_other"] (AU FF):=Dn
theorem Pp (F:C8 K "_law_off" "_law_off" FF f fd) (Ar:Bn P w K mg base n):
 A4 P w K mg base C7 (n+1) f fd ["_law_one","_law_other"] (BS K 2 Ax):=by
 have nd:=JM.nd
 exact Ae F JM rfl λ_ _ _ _ _ _ hr=>(AR (Aa (AK Ar hr rfl (Ao (AZ CO (AZ BA (AX (AJ 0) AH) (AX (AJ 1) AH)) (AZ BA (AX (AJ 1) AH) (AX (AJ 0) AH))) (AZ BA (AX (AJ 0) AH) (AX (AJ 1) AH))))))
theorem GU:Ad ["_law_one","_law_other"] ["_law_one","_law_other"] (AU Dr):=Dn
theorem ME (F:C8 K "_law_ratio" "_law_ratio" Dr f fd) (Ar:Bn P w K mg base n):
 A4 P w K mg base C7 (n+1) f fd ["_law_one","_law_other"] (BS K 2 BX):=by
 have nd:=GU.nd
 exact Ae F GU rfl λ_ _ _ _ _ _ hr=>(AR (Aa (AK Ar hr rfl (Ao (AZ BA (AX (AJ 0) AH) (AX (AJ 1) AH)) (AZ BA (AX (AJ 0) AH) (AX (AJ 1) AH))))))
theorem FT:Ad ["_law_one","_law_other"] ["_law_one","_law_other"] (AU DG):=Dn
theorem Jm (F:C8 K "_law_product" "_law_product" DG f fd) (Ar:Bn P w K mg base n):
 A4 P w K mg base C7 (n+1) f fd ["_law_one","_law_other"] (BS K 2 BI):=by
 have nd:=FT.nd
 exact Ae F FT rfl λ_ _ _ _ _ _ hr=>(AR (Aa (AK Ar hr rfl (Ao (AZ BA (AX (AJ 0) AH) (AX (AJ 1) AH)) (AZ BA (AX (AJ 0) AH) (AX (AJ 1) AH))))))
theorem GX:Ad ["_law_plan_here","_law_n","_law_m","_law_moments_here"] ["_law_plan_here","_law_n","_law_m"] (AU Du):=Dn
theorem MH (F:C8 K "_law_share" "_law_share" Du f fd) (As:C6 P w K mg base n) (BU:E8 P w K mg base n) (C2:E9 P w K mg base n):
 A4 P w K mg base C7 (n+1) f fd ["_law_plan_here","_law_n","_law_m"] (BS K 3 CI):=by
 have nd:=GX.nd
 have nd0:(["_law_corner","_law_n"] :List Str).Nodup:=by decide +kernel
 exact Ae F GX rfl λ_ _ _ _ _ _ hr=>(AN (Lu (i:=3) rfl nd rfl (Or.inl rfl) (Iv (AJ 0)) (DP (own:=1) (ix:= [1]) (N:= ["_law_corner","_law_n" ]) rfl rfl rfl rfl rfl rfl (λ_ _ _ _ _ _=>(Ll 0 nd0)) (λ_ _ _ _ _ _=>(KB (BW (AK As hr rfl (Ao (AJ 1) (AX (AJ 0) AH)))))) (λ_ _ _ _ _ _=>(AX (AJ 0) AH)))) (AN (BK (ED (BW (AK As hr rfl (Ao (AX (AJ 3) AH) (AJ 2))))) (AR (Aa (AK C2 hr rfl (Ao (AK BU hr rfl (Ao (AJ 2) (AJ 1))) (AK BU hr rfl (Ao (AX (AJ 3) AH) (AJ 1))))))) A0) (AN (BK (ED (BW (AK As hr rfl (Ao (AX (AJ 3) (Cj AH)) (AJ 2))))) (AR (Aa (Az (Ao AH AH)))) A0) (AR (Aa (AK C2 hr rfl (Ao (AK BU hr rfl (Ao (AX (AJ 3) (Cj AH)) (AJ 2))) (AK BU hr rfl (Ao (AX (AJ 3) (Cj AH)) (AX (AJ 3) (Cj AH)))))))))))
theorem Hz:Ad ["_law_plan_here","_law_m","_law_one","_law_other","_law_share_here","_law_gone"] ["_law_plan_here","_law_m"] (AU EU):=Dn
theorem Ny (F:C8 K "_law_spot" "_law_spot" EU f fd) (As:C6 P w K mg base n) (BU:E8 P w K mg base n) (Bu:DB P w K mg base n) (C2:E9 P w K mg base n) (Ba:DQ P w K mg base n) (BL:mg "range" =none) (Ai:mg "tuple" =none) (IL:mg "zip" =none):
 A4 P w K mg base C7 (n+1) f fd ["_law_plan_here","_law_m"] (BS K 2 Bj):=by
 have nd:=Hz.nd
 have nd0:(["_law_k","_law_share_here","_law_other","_law_one"] :List Str).Nodup:=by decide +kernel
 have nd1:(["_law_k","_law_one","_law_gone"] :List Str).Nodup:=by decide +kernel
 exact Ae F Hz rfl λ_ _ _ _ _ _ hr=>(AN (BK (QD (Sx (BW (AK As hr rfl (Ao (AJ 1) (AX (AX (AJ 0) AH) AH)))) (OO (BW (AK As hr rfl (Ao (AX (AX (AJ 0) (Cj AH)) AH) (AJ 1))))))) (AR (Aa Fy)) A0) (AN (Dk PassesOwn.never rfl (aT rfl IL (Ao (AJ 0) (Fz (AJ 0) (WH AH) WG))) (Lh (n:=2) rfl (CL (OC (i:=2) nd rfl (Or.inr rfl)) (CL (OC (i:=3) nd rfl (Or.inr rfl)) ID))) (AR (BK (ED (BW (AK As hr rfl (Ao (AX (AJ 3) AH) (AJ 1))))) (AN (G4 (i:=4) nd rfl (Or.inr rfl) (AK C2 hr rfl (Ao (AK BU hr rfl (Ao (AJ 1) (AX (AJ 2) AH))) (AK BU hr rfl (Ao (AX (AJ 3) AH) (AX (AJ 2) AH)))))) (AN (G4 (i:=5) nd rfl (Or.inr rfl) (Eg (DV rfl (Iv (Az (IQ AH AH AH))) (DP (own:=1) (ix:= [4,3,2]) (N:= ["_law_k","_law_share_here" ,"_law_other" ,"_law_one" ]) rfl rfl rfl rfl rfl rfl (λ_ _ _ _ _ _=>(Ll 0 nd0)) (λ_ _ _ _ _ _=>Dv) (λ_ _ _ _ _ _=>(AK Bu hr rfl (Ao (AJ 1) (AK BU hr rfl (Ao (AX (AJ 2) (AJ 0)) (AX (AJ 3) (AJ 0))))))))))) (AR (Aa (BO Bp rfl Ai boot_tuple (CK (Eg (DV rfl (Li rfl BL (CK AH)) (DP (own:=1) (ix:= [2,5]) (N:= ["_law_k","_law_one" ,"_law_gone" ]) rfl rfl rfl rfl rfl rfl (λ_ _ _ _ _ _=>(Ll 0 nd1)) (λ_ _ _ _ _ _=>Dv) (λ_ _ _ _ _ _=>(AK Ba hr rfl (Ao (AX (AJ 1) (AZ Af (AJ 0) AH)) (AX (AJ 2) (AJ 0)))))))))))))) A0))) (AR (Aa Fy))))
theorem GW:Ad ["_law_plan_here","_law_word","_law_amount","_law_n","_law_m","_law_spot_here","_law_side","_law_by"] ["_law_plan_here","_law_word","_law_amount","_law_n","_law_m"] (AU Dt):=Dn
theorem MG (F:C8 K "_law_round" "_law_round" Dt f fd) (Bu:DB P w K mg base n) (Ow:NZ P w K mg base n) (CV:Fs P w K mg base n) (Ba:DQ P w K mg base n):
 A4 P w K mg base C7 (n+1) f fd ["_law_plan_here","_law_word","_law_amount","_law_n","_law_m"] (BS K 5 Ce):=by
 have nd:=GW.nd
 exact Ae F GW rfl λ_ _ _ _ _ _ hr=>(AN (Dg 5 nd (AK CV hr rfl (Ao (AJ 0) (AJ 4)))) (AN (Dg 6 nd (YC [ ("east" ,(0:Int)),("west" ,(0:Int)),("north" ,(1:Int)),("south" ,(1:Int)),("up" ,(2:Int)),("down" ,(2:Int)) ] hr (Ev G2 A5 (Ev G2 A5 (Ev G2 A5 (Ev G2 A5 (Ev G2 A5 (Ev G2 A5 X4)))))) (AJ 1) (λ_ _=>rfl))) (AN (Dg 7 nd (AK Bu hr rfl (Ao (AJ 2) (AK Ow hr rfl (IQ (AJ 0) (AJ 3) (AJ 4)))))) (AN (BK (Rb (df hr) (AJ 1) (Az (IQ CN CN CN)) rfl) (AR (Dg 7 nd (Az (Ao (AZ CO AH (AX (AJ 7) AH)) (AX (AJ 7) AH))))) A0) (AR (Aa (AZ Af (AZ Af (Fz (AJ 5) WG (WH (AJ 6))) (Az (CK (AK Ba hr rfl (Ao (AX (AJ 5) (AJ 6)) (AJ 7)))))) (Fz (AJ 5) (WH (AZ Af (AJ 6) AH)) WG))))))))
theorem JL:Ad ["_law_plan_here","_law_word","_law_amount","_law_n","_law_m","_law_ahead"] ["_law_plan_here","_law_word","_law_amount","_law_n","_law_m"] (AU FE):=Dn
theorem Po (F:C8 K "_law_due" "_law_due" FE f fd) (As:C6 P w K mg base n) (BU:E8 P w K mg base n) (C2:E9 P w K mg base n) (Ov:NY P w K mg base n) (CV:Fs P w K mg base n) (Ba:DQ P w K mg base n):
 A4 P w K mg base C7 (n+1) f fd ["_law_plan_here","_law_word","_law_amount","_law_n","_law_m"] (BS K 5 A6):=by
 have nd:=JL.nd
 exact Ae F JL rfl λ_ _ _ _ _ _ hr=>(AN (BK (BW (AK As hr rfl (Ao (AJ 4) (AJ 3)))) (AR (Aa (AK CV hr rfl (Ao (AJ 0) (AJ 4))))) A0) (AN (BK (GZ (DJ hr) (AJ 1) CN) (AN (Dg 5 nd (AK BU hr rfl (Ao (AJ 4) (AJ 2)))) (AN (BK (BW (AK As hr rfl (Ao (AJ 5) (AJ 3)))) (AR (Aa (P5 (GZ (QA hr) (AJ 3) (AX (AX (AJ 0) AH) AH)) (AK CV hr rfl (Ao (AJ 0) (AJ 3))) Fy))) A0) (AR (Aa (AK CV hr rfl (Ao (AJ 0) (AJ 5))))))) A0) (AN (BK (GZ (DJ hr) (AJ 1) CN) (AR (Aa (AK CV hr rfl (Ao (AJ 0) (AK Ba hr rfl (Ao (AJ 3) (AK C2 hr rfl (Ao (AK BU hr rfl (Ao (AJ 4) (AJ 3))) (AK Ba hr rfl (Ao (Az (Ao AH AH)) (AJ 2))))))))))) A0) (AR (Aa (AK Ov hr rfl (BE (AJ 0) (BE (AJ 1) (IQ (AJ 2) (AJ 3) (AJ 4))))))))))
theorem FR:Ad ["_law_one","_law_other"] ["_law_one","_law_other"] (AU DE):=Dn
theorem Jk (F:C8 K "_law_greater" "_law_greater" DE f fd) (As:C6 P w K mg base n):
 A4 P w K mg base C7 (n+1) f fd ["_law_one","_law_other"] (BS K 2 BH):=by
 have nd:=FR.nd
 exact Ae F FR rfl λ_ _ _ _ _ _ hr=>(AR (Aa (P5 (BW (AK As hr rfl (Ao (AJ 0) (AJ 1)))) (AJ 1) (AJ 0))))
theorem FS:Ad ["_law_one","_law_other","_law_some","_law_corner","_law_middles","_law_k"] ["_law_one","_law_other"] (AU DF):=Dn
theorem Jl (F:C8 K "_law_moments" "_law_moments" DF f fd) (As:C6 P w K mg base n) (Bu:DB P w K mg base n) (Ba:DQ P w K mg base n) (Br:mg "len" =none) (BL:mg "range" =none):
 A4 P w K mg base C7 (n+1) f fd ["_law_one","_law_other"] (BS K 2 Bh):=by
 have nd:=FS.nd
 have nd0:(["_law_k","_law_some"] :List Str).Nodup:=by decide +kernel
 exact Ae F FS rfl λ_ _ _ _ _ _ hr=>(AN (Iy (i:=2) nd rfl (Or.inr rfl) (Ca Iu)) (AN (Dk PassesOwn.never rfl (Iv (AZ Af (AJ 0) (AJ 1))) (Mx 3 nd) (AN (Dg 5 nd AH) (AN (IF PassesOwn.never (QD (ON (GZ GY (AJ 5) (Be Ef rfl Br PySem.boot_len (CK (AJ 2)))) (KE (BW (AK As hr rfl (Ao (AX (AJ 2) (AJ 5)) (AX (AJ 3) AH))))))) (AR (Dg 5 nd (AZ Af (AJ 5) AH)))) (AR (BK (ae (QD (Sx (GZ (DJ hr) (AJ 5) (Be Ef rfl Br PySem.boot_len (CK (AJ 2)))) (OO (GZ (QA hr) (AX (AJ 2) (AJ 5)) (AX (AJ 3) AH)))))) (AR (GC (i:=2) PySem.F.slot_list_insert PySem.F.type_list_insert UJ (Ao (AJ 5) (AX (AJ 3) AH)))) A0))))) (AN (ab 2 (Lu (i:=4) rfl nd rfl (Or.inl rfl) (Li rfl BL (CK (AZ CO (Be Ef rfl Br PySem.boot_len (CK (AJ 2))) AH))) (DP (own:=1) (ix:= [2]) (N:= ["_law_k","_law_some" ]) rfl rfl rfl rfl rfl rfl (λ_ _ _ _ _ _=>(Ll 0 nd0)) (λ_ _ _ _ _ _=>Dv) (λ_ _ _ _ _ _=>(AK Bu hr rfl (Ao (Az (Ao AH AH)) (AK Ba hr rfl (Ao (AX (AJ 1) (AJ 0)) (AX (AJ 1) (AZ Af (AJ 0) AH)))))))))) (AR (Aa (AZ Af (AJ 2) (AJ 4)))))))
theorem Mm:Ad ["one","other"] ["one","other"] (AU Hi):=Dn
theorem Tw (F:C8 K "before" "before" Hi f fd):
 A4 P w K mg base C7 (n+1) f fd ["one","other"] (BS K 2 Ak):=by
 have nd:=Mm.nd
 exact Ae F Mm rfl λ_ _ _ _ _ _ hr=>(AR (Aa (FH GY (AZ BA (AX (AJ 0) AH) (AX (AJ 1) AH)) (AZ BA (AX (AJ 1) AH) (AX (AJ 0) AH)) (DR _))))
theorem Mn:Ad ["one","other"] ["one","other"] (AU Hj):=Dn
theorem Tx (F:C8 K "common" "common" Hj f fd):
 A4 P w K mg base C7 (n+1) f fd ["one","other"] (BS K 2 HF):=by
 have nd:=Mn.nd
 exact Ae F Mn rfl λ_ _ _ _ _ _ hr=>(AN (IF PassesOwn.never (GZ (QA hr) (AJ 1) AH) (AR (Ra (i:=0) (j:=1) rfl nd rfl rfl (by decide) rfl rfl (Ao (AJ 1) (AZ RT (AJ 0) (AJ 1))) rfl))) (AR (Aa (AJ 0))))
theorem Sa:Ad ["top","bottom","shared"] ["top","bottom"] (AU N9):=Dn
theorem Xm (F:C8 K "part" "part" N9 f fd) (Wu:VB P w K mg base n) (FX:mg "abs" =none):
 A4 P w K mg base C7 (n+1) f fd ["top","bottom"] (BS K 2 Gs):=by
 have nd:=Sa.nd
 exact Ae F Sa rfl λ_ _ _ _ _ _ hr=>(AN (Dg 2 nd (AK Wu hr rfl (Ao (Be OB rfl FX boot_abs (CK (AJ 0))) (Be OB rfl FX boot_abs (CK (AJ 1)))))) (AN (BK (GZ GY (AJ 1) AH) (AR (Dg 2 nd (Cj (AJ 2)))) A0) (AR (Aa (Az (Ao (AZ KD (AJ 0) (AJ 2)) (AZ KD (AJ 1) (AJ 2))))))))
theorem P1:Ad ["one","other"] ["one","other"] (AU J7):=Dn
theorem Vk (F:C8 K "minus" "minus" J7 f fd) (Kx:Nb P w K mg base n):
 A4 P w K mg base C7 (n+1) f fd ["one","other"] (BS K 2 Cf):=by
 have nd:=P1.nd
 exact Ae F P1 rfl λ_ _ _ _ _ _ hr=>(AR (Aa (AK Kx hr rfl (Ao (AZ CO (AZ BA (AX (AJ 0) AH) (AX (AJ 1) AH)) (AZ BA (AX (AJ 1) AH) (AX (AJ 0) AH))) (AZ BA (AX (AJ 0) AH) (AX (AJ 1) AH))))))
theorem SZ:Ad ["one","other"] ["one","other"] (AU N8):=Dn
theorem Xl (F:C8 K "over" "over" N8 f fd) (Kx:Nb P w K mg base n):
 A4 P w K mg base C7 (n+1) f fd ["one","other"] (BS K 2 NL):=by
 have nd:=SZ.nd
 exact Ae F SZ rfl λ_ _ _ _ _ _ hr=>(AR (Aa (AK Kx hr rfl (Ao (AZ BA (AX (AJ 0) AH) (AX (AJ 1) AH)) (AZ BA (AX (AJ 0) AH) (AX (AJ 1) AH))))))
theorem Sc:Ad ["one","other"] ["one","other"] (AU OA):=Dn
theorem Xn (F:C8 K "plus" "plus" OA f fd) (Kx:Nb P w K mg base n):
 A4 P w K mg base C7 (n+1) f fd ["one","other"] (BS K 2 Ci):=by
 have nd:=Sc.nd
 exact Ae F Sc rfl λ_ _ _ _ _ _ hr=>(AR (Aa (AK Kx hr rfl (Ao (AZ Af (AZ BA (AX (AJ 0) AH) (AX (AJ 1) AH)) (AZ BA (AX (AJ 1) AH) (AX (AJ 0) AH))) (AZ BA (AX (AJ 0) AH) (AX (AJ 1) AH))))))
theorem P2:Ad ["one","other"] ["one","other"] (AU J8):=Dn
theorem Vl (F:C8 K "times" "times" J8 f fd) (Kx:Nb P w K mg base n):
 A4 P w K mg base C7 (n+1) f fd ["one","other"] (BS K 2 DT):=by
 have nd:=P2.nd
 exact Ae F P2 rfl λ_ _ _ _ _ _ hr=>(AR (Aa (AK Kx hr rfl (Ao (AZ BA (AX (AJ 0) AH) (AX (AJ 1) AH)) (AZ BA (AX (AJ 0) AH) (AX (AJ 1) AH))))))
theorem FV:Ad ["former","latter","m","share"] ["former","latter","m"] (AU DI):=Dn
theorem Jo (F:C8 K "spot_between" "spot_between" DI f fd) (Eb:Na P w K mg base n) (bP:ZQ P w K mg base n) (GM:Nc P w K mg base n) (Fi:Jx P w K mg base n) (Ai:mg "tuple" =none) (IL:mg "zip" =none):
 A4 P w K mg base C7 (n+1) f fd ["former","latter","m"] (BS K 3 C9):=by
 have nd:=FV.nd
 have nd0:(["low","high","share"] :List Str).Nodup:=by decide +kernel
 exact Ae F FV rfl λ_ _ _ _ _ _ hr=>(AN (G4 (i:=3) nd rfl (Or.inr rfl) (AK bP hr rfl (Ao (AK Eb hr rfl (Ao (AJ 2) (AX (AJ 0) AH))) (AK Eb hr rfl (Ao (AX (AJ 1) AH) (AX (AJ 0) AH)))))) (AR (Aa (BO Bp rfl Ai boot_tuple (CK (Eg (DV rfl (aT rfl IL (Ao (Fz (AJ 0) (WH AH) WG) (Fz (AJ 1) (WH AH) WG))) (DP (own:=2) (ix:= [3]) (N:= ["low","high" ,"share" ]) rfl rfl rfl rfl rfl rfl (λ_ _ _ _ _ _=>(OH (n:=2) rfl (Bq (Ll 0 nd0) (Bq (Ll 1 nd0) KC)))) (λ_ _ _ _ _ _=>Dv) (λ_ _ _ _ _ _=>(AK GM hr rfl (Ao (AJ 0) (AK Fi hr rfl (Ao (AJ 2) (AK Eb hr rfl (Ao (AJ 1) (AJ 0))))))))))))))))
theorem Lg:Ad ["plan","m","at"] ["plan","m"] (AU GA):=Dn
theorem RE (F:C8 K "spot_at" "spot_at" GA f fd) (Bz:D8 P w K mg base n) (L3:LJ P w K mg base n) (Br:mg "len" =none) (BL:mg "range" =none):
 A4 P w K mg base C7 (n+1) f fd ["plan","m"] (BS K 2 F3):=by
 have nd:=Lg.nd
 exact Ae F Lg rfl λ_ _ _ _ _ _ hr=>(AN (BK (BW (AK Bz hr rfl (Ao (AJ 1) (AX (AX (AJ 0) AH) AH)))) (AR (Aa Fy)) A0) (AN (Dk PassesOwn.never rfl (Yj rfl BL (Ao AH (Be Ef rfl Br PySem.boot_len (CK (AJ 0))))) (Mx 2 nd) (AR (BK (ED (BW (AK Bz hr rfl (Ao (AX (AX (AJ 0) (AJ 2)) AH) (AJ 1))))) (AR (Aa (AK L3 hr rfl (IQ (AX (AJ 0) (AZ CO (AJ 2) AH)) (AX (AJ 0) (AJ 2)) (AJ 1))))) A0))) (AR (Aa Fy))))
theorem IB:Ad ["plan","m"] ["plan","m"] (AU EX):=Dn
theorem N1 (F:C8 K "corner_at" "corner_at" EX f fd) (Uh:Tf P w K mg base n):
 A4 P w K mg base C7 (n+1) f fd ["plan","m"] (BS K 2 C3):=by
 have nd:=IB.nd
 exact Ae F IB rfl λ_ _ _ _ _ _ hr=>(AR (Aa (AZ Af (Az (CK (AJ 1))) (AK Uh hr rfl (Ao (AJ 0) (AJ 1))))))
theorem EA:Ad ["plan","begin","end"] ["plan","begin","end"] (AU CS):=Dn
theorem G1 (F:C8 K "corners_between" "corners_between" CS f fd) (Bz:D8 P w K mg base n) (Ai:mg "tuple" =none):
 A4 P w K mg base C7 (n+1) f fd ["plan","begin","end"] (BS K 3 CP):=by
 have nd:=EA.nd
 have nd0:(["corner","begin","end"] :List Str).Nodup:=by decide +kernel
 exact Ae F EA rfl λ_ _ _ _ _ _ hr=>(AR (Aa (Eg (DV rfl (Iv (AJ 0)) (DP (own:=1) (ix:= [1,2]) (N:= ["corner","begin" ,"end" ]) rfl rfl rfl rfl rfl rfl (λ_ _ _ _ _ _=>(Ll 0 nd0)) (λ_ _ _ _ _ _=>(KB (QD (ON (BW (AK Bz hr rfl (Ao (AJ 1) (AX (AJ 0) AH)))) (KE (BW (AK Bz hr rfl (Ao (AX (AJ 0) AH) (AJ 2))))))))) (λ_ _ _ _ _ _=>(BO Bp rfl Ai boot_tuple (CK (AJ 0)))))))))
theorem Ld:Ad ["one","other"] ["one","other"] (AU F7):=Dn
theorem RB (F:C8 K "greater" "greater" F7 f fd) (Bz:D8 P w K mg base n):
 A4 P w K mg base C7 (n+1) f fd ["one","other"] (BS K 2 BH):=by
 have nd:=Ld.nd
 exact Ae F Ld rfl λ_ _ _ _ _ _ hr=>(AR (Aa (P5 (BW (AK Bz hr rfl (Ao (AJ 0) (AJ 1)))) (AJ 1) (AJ 0))))
theorem Mq:Ad ["one","other"] ["one","other"] (AU Hm):=Dn
theorem T4 (F:C8 K "lesser" "lesser" Hm f fd) (Bz:D8 P w K mg base n):
 A4 P w K mg base C7 (n+1) f fd ["one","other"] (BS K 2 HG):=by
 have nd:=Mq.nd
 exact Ae F Mq rfl λ_ _ _ _ _ _ hr=>(AR (Aa (P5 (BW (AK Bz hr rfl (Ao (AJ 1) (AJ 0)))) (AJ 1) (AJ 0))))
theorem Le:Ad ["plan","begin","end","first","last","inner"] ["plan","begin","end"] (AU F8):=Dn
theorem RC (F:C8 K "part_of" "part_of" F8 f fd) (Bz:D8 P w K mg base n) (E1:JG P w K mg base n) (IX:HX P w K mg base n) (Kv:MZ P w K mg base n) (Ww:VE P w K mg base n) (Ai:mg "tuple" =none):
 A4 P w K mg base C7 (n+1) f fd ["plan","begin","end"] (BS K 3 Em):=by
 have nd:=Le.nd
 exact Ae F Le rfl λ_ _ _ _ _ _ hr=>(AN (Dg 3 nd (AK Kv hr rfl (Ao (AJ 1) (AX (AX (AJ 0) AH) AH)))) (AN (Dg 4 nd (AK Ww hr rfl (Ao (AJ 2) (AX (AX (AJ 0) (Cj AH)) AH)))) (AN (BK (ED (BW (AK Bz hr rfl (Ao (AJ 3) (AJ 4))))) (AR (Aa Fy)) A0) (AN (Dg 5 nd (AK IX hr rfl (IQ (AJ 0) (AJ 3) (AJ 4)))) (AR (Aa (BO Bp rfl Ai boot_tuple (CK (AZ Af (AZ Af (Eg (Ca (CK (AK E1 hr rfl (Ao (AJ 0) (AJ 3)))))) (AJ 5)) (Eg (Ca (CK (AK E1 hr rfl (Ao (AJ 0) (AJ 4)))))))))))))))
theorem Fx:Ad ["former","corner","latter","ahead","behind","side","way_in","way_out"] ["former","corner","latter"] (AU DU):=Dn
theorem LQ (F:C8 K "is_straight" "is_straight" DU f fd) (Eb:Na P w K mg base n) (Fi:Jx P w K mg base n):
 A4 P w K mg base C7 (n+1) f fd ["former","corner","latter"] (BS K 3 DS):=by
 have nd:=Fx.nd
 exact Ae F Fx rfl λ_ _ _ _ _ _ hr=>(AN (Dg 3 nd (AK Eb hr rfl (Ao (AX (AJ 1) AH) (AX (AJ 0) AH)))) (AN (Dg 4 nd (AK Eb hr rfl (Ao (AX (AJ 2) AH) (AX (AJ 1) AH)))) (AN (Dk PassesOwn.never rfl (Iv (Az (IQ AH AH AH))) (Mx 5 nd) (AN (Dg 6 nd (AK Eb hr rfl (Ao (AX (AJ 1) (AJ 5)) (AX (AJ 0) (AJ 5))))) (AN (Dg 7 nd (AK Eb hr rfl (Ao (AX (AJ 2) (AJ 5)) (AX (AJ 1) (AJ 5))))) (AR (BK (GZ (QA hr) (AK Fi hr rfl (Ao (AJ 6) (AJ 4))) (AK Fi hr rfl (Ao (AJ 7) (AJ 3)))) (AR (Aa Mw)) A0))))) (AR (Aa Mw)))))
theorem Mt:Ad ["rows"] ["rows"] (AU Hr):=Dn
theorem T9 (F:C8 K "tupled" "tupled" Hr f fd) (Ai:mg "tuple" =none):
 A4 P w K mg base C7 (n+1) f fd ["rows"] (BS K 1 Eo):=by
 have nd:=Mt.nd
 have nd0:(["row"] :List Str).Nodup:=by decide +kernel
 exact Ae F Mt rfl λ_ _ _ _ _ _ hr=>(AR (Aa (BO Bp rfl Ai boot_tuple (CK (Eg (DV rfl (Iv (AJ 0)) (DP (own:=1) (ix:= []) (N:= ["row"]) rfl rfl rfl rfl rfl rfl (λ_ _ _ _ _ _=>(Ll 0 nd0)) (λ_ _ _ _ _ _=>Dv) (λ_ _ _ _ _ _=>(BO Bp rfl Ai boot_tuple (CK (AJ 0)))))))))))
theorem Mp:Ad ["plan","inner","at"] ["plan"] (AU Hl):=Dn
theorem T0 (F:C8 K "fewest" "fewest" Hl f fd) (NJ:L9 P w K mg base n) (NK:PZ P w K mg base n) (Br:mg "len" =none) (BL:mg "range" =none):
 A4 P w K mg base C7 (n+1) f fd ["plan"] (BS K 1 DZ):=by
 have nd:=Mp.nd
 exact Ae F Mp rfl λ_ _ _ _ _ _ hr=>(AN (Iy (i:=1) nd rfl (Or.inl rfl) (Ca Iu)) (AN (Dk PassesOwn.never rfl (Yj rfl BL (Ao AH (AZ CO (Be Ef rfl Br PySem.boot_len (CK (AJ 0))) AH))) (Mx 2 nd) (AR (BK (ED (BW (AK NJ hr rfl (IQ (AX (AJ 0) (AZ CO (AJ 2) AH)) (AX (AJ 0) (AJ 2)) (AX (AJ 0) (AZ Af (AJ 2) AH)))))) (AR (GC (i:=1) PySem.F.slot_list_append PySem.F.type_list_append Ez (CK (AX (AJ 0) (AJ 2))))) A0))) (AR (Aa (AK NK hr rfl (CK (AZ Af (AZ Af (Eg (Ca (CK (AX (AJ 0) AH)))) (AJ 1)) (Eg (Ca (CK (AX (AJ 0) (Cj AH))))))))))))
theorem FU:Ad ["one","other"] ["one","other"] (AU DH):=Dn
theorem Jn (F:C8 K "same_flights" "same_flights" DH f fd) (Rk:VD P w K mg base n):
 A4 P w K mg base C7 (n+1) f fd ["one","other"] (BS K 2 CW):=by
 have nd:=FU.nd
 exact Ae F FU rfl λ_ _ _ _ _ _ hr=>(AR (Aa (FH (DJ hr) (AK Rk hr rfl (CK (AJ 0))) (AK Rk hr rfl (CK (AJ 1))) (DR _))))
theorem Mo:Ad ["corners","now","begin","former","latter"] ["corners","now"] (AU Hk):=Dn
theorem Tz (F:C8 K "cut_at" "cut_at" Hk f fd) (Bz:D8 P w K mg base n) (E1:JG P w K mg base n) (Kv:MZ P w K mg base n) (Ai:mg "tuple" =none):
 A4 P w K mg base C7 (n+1) f fd ["corners","now"] (BS K 2 Fk):=by
 have nd:=Mo.nd
 have nd0:(["corner","begin"] :List Str).Nodup:=by decide +kernel
 have nd1:(["corner","begin"] :List Str).Nodup:=by decide +kernel
 exact Ae F Mo rfl λ_ _ _ _ _ _ hr=>(AN (G4 (i:=2) nd rfl (Or.inr rfl) (AK Kv hr rfl (Ao (AJ 1) (AX (AX (AJ 0) AH) AH)))) (AN (Dg 3 nd (BO Bp rfl Ai boot_tuple (CK (Eg (DV rfl (Iv (AJ 0)) (DP (own:=1) (ix:= [2]) (N:= ["corner","begin" ]) rfl rfl rfl rfl rfl rfl (λ_ _ _ _ _ _=>(Ll 0 nd0)) (λ_ _ _ _ _ _=>(KB (BW (AK Bz hr rfl (Ao (AX (AJ 0) AH) (AJ 1)))))) (λ_ _ _ _ _ _=>(AJ 0)))))))) (AN (Dg 4 nd (BO Bp rfl Ai boot_tuple (CK (Eg (DV rfl (Iv (AJ 0)) (DP (own:=1) (ix:= [2]) (N:= ["corner","begin" ]) rfl rfl rfl rfl rfl rfl (λ_ _ _ _ _ _=>(Ll 0 nd1)) (λ_ _ _ _ _ _=>(KB (BW (AK Bz hr rfl (Ao (AJ 1) (AX (AJ 0) AH)))))) (λ_ _ _ _ _ _=>(AJ 0)))))))) (AR (Aa (Az (IQ (AJ 3) (AK E1 hr rfl (Ao (AJ 0) (AJ 2))) (AJ 4))))))))
theorem Lf:Ad ["plan","x","y","z"] ["plan","x","y","z"] (AU F9):=Dn
theorem RD (F:C8 K "put_off" "put_off" F9 f fd) (GM:Nc P w K mg base n) (Ai:mg "tuple" =none):
 A4 P w K mg base C7 (n+1) f fd ["plan","x","y","z"] (BS K 4 F2):=by
 have nd:=Lf.nd
 have nd0:(["m","east","north","high","x","y","z"] :List Str).Nodup:=by decide +kernel
 exact Ae F Lf rfl λ_ _ _ _ _ _ hr=>(AR (Aa (BO Bp rfl Ai boot_tuple (CK (Eg (DV rfl (Iv (AJ 0)) (DP (own:=4) (ix:= [1,2,3]) (N:= ["m","east" ,"north" ,"high" ,"x" ,"y" ,"z" ]) rfl rfl rfl rfl rfl rfl (λ_ _ _ _ _ _=>(OH (n:=4) rfl (Bq (Ll 0 nd0) (Bq (Ll 1 nd0) (Bq (Ll 2 nd0) (Bq (Ll 3 nd0) KC)))))) (λ_ _ _ _ _ _=>Dv) (λ_ _ _ _ _ _=>(Az (BE (AJ 0) (IQ (AK GM hr rfl (Ao (AJ 1) (AJ 4))) (AK GM hr rfl (Ao (AJ 2) (AJ 5))) (AK GM hr rfl (Ao (AJ 3) (AJ 6))))))))))))))
theorem P3:Ad ["n"] ["n"] (AU J9):=Dn
theorem Vm (F:C8 K "whole" "whole" J9 f fd):
 A4 P w K mg base C7 (n+1) f fd ["n"] (BS K 1 F4):=by
 have nd:=P3.nd
 exact Ae F P3 rfl λ_ _ _ _ _ _ hr=>(AR (Aa (Az (Ao (AJ 0) AH))))
theorem IC:Ad ["former","corner","latter","way","amount","x","y","z"] ["former","corner","latter","way","amount"] (AU EY):=Dn
theorem N2 (F:C8 K "led_round" "led_round" EY f fd) (Ug:Te P w K mg base n) (Fi:Jx P w K mg base n) (QX:R6 P w K mg base n) (Br:mg "len" =none):
 A4 P w K mg base C7 (n+1) f fd ["former","corner","latter","way","amount"] (BS K 5 Db):=by
 have nd:=IC.nd
 have nd0:(["sign","amount"] :List Str).Nodup:=by decide +kernel
 exact Ae F IC rfl λ_ _ _ _ _ _ hr=>(AN (BK (GZ GY (Be Ef rfl Br PySem.boot_len (CK (AJ 2))) AH) (AR (Aa Fy)) A0) (AN (RZ (Eg (DV rfl (Iv (AJ 3)) (DP (own:=1) (ix:= [4]) (N:= ["sign","amount" ]) rfl rfl rfl rfl rfl rfl (λ_ _ _ _ _ _=>(Ll 0 nd0)) (λ_ _ _ _ _ _=>Dv) (λ_ _ _ _ _ _=>(AK Fi hr rfl (Ao (AK QX hr rfl (CK (AJ 0))) (AJ 1))))))) (Lh (n:=3) rfl (CL (Mx 5 nd) (CL (Mx 6 nd) (CL (Mx 7 nd) ID))))) (AR (Aa (AZ Af (AZ Af (AZ Af (AJ 0) (Az (CK (AJ 1)))) (AK Ug hr rfl (BE (Fz (AJ 2) WG (WH (Cj AH))) (IQ (AJ 5) (AJ 6) (AJ 7))))) (Fz (AJ 2) (WH (Cj AH)) WG))))))
theorem Ms:Ad ["former","corner","latter","amount","factor","begin","behind"] ["former","corner","latter","amount"] (AU Hq):=Dn
theorem T8 (F:C8 K "slowed" "slowed" Hq f fd) (Eb:Na P w K mg base n) (GM:Nc P w K mg base n) (Fi:Jx P w K mg base n) (QX:R6 P w K mg base n) (Ai:mg "tuple" =none):
 A4 P w K mg base C7 (n+1) f fd ["former","corner","latter","amount"] (BS K 4 Fl):=by
 have nd:=Ms.nd
 have nd0:(["m","x","y","z","begin","factor"] :List Str).Nodup:=by decide +kernel
 exact Ae F Ms rfl λ_ _ _ _ _ _ hr=>(AN (G4 (i:=4) nd rfl (Or.inr rfl) (AK GM hr rfl (Ao (AK QX hr rfl (CK AH)) (AJ 3)))) (AN (G4 (i:=5) nd rfl (Or.inr rfl) (AX (AJ 1) AH)) (AN (Lu (i:=6) rfl nd rfl (Or.inl rfl) (Iv (AJ 2)) (DP (own:=4) (ix:= [5,4]) (N:= ["m","x" ,"y" ,"z" ,"begin" ,"factor" ]) rfl rfl rfl rfl rfl rfl (λ_ _ _ _ _ _=>(OH (n:=4) rfl (Bq (Ll 0 nd0) (Bq (Ll 1 nd0) (Bq (Ll 2 nd0) (Bq (Ll 3 nd0) KC)))))) (λ_ _ _ _ _ _=>Dv) (λ_ _ _ _ _ _=>(Az (BE (AK GM hr rfl (Ao (AJ 4) (AK Fi hr rfl (Ao (AJ 5) (AK Eb hr rfl (Ao (AJ 0) (AJ 4))))))) (IQ (AJ 1) (AJ 2) (AJ 3))))))) (AR (Aa (AZ Af (AZ Af (AJ 0) (Az (CK (AJ 1)))) (BO Bp rfl Ai boot_tuple (CK (AJ 6)))))))))
theorem P0:Ad ["plan","by"] ["plan","by"] (AU J6):=Dn
theorem Vj (F:C8 K "later" "later" J6 f fd) (GM:Nc P w K mg base n) (Ai:mg "tuple" =none):
 A4 P w K mg base C7 (n+1) f fd ["plan","by"] (BS K 2 Js):=by
 have nd:=P0.nd
 have nd0:(["m","x","y","z","by"] :List Str).Nodup:=by decide +kernel
 exact Ae F P0 rfl λ_ _ _ _ _ _ hr=>(AR (Aa (BO Bp rfl Ai boot_tuple (CK (Eg (DV rfl (Iv (AJ 0)) (DP (own:=4) (ix:= [1]) (N:= ["m","x" ,"y" ,"z" ,"by" ]) rfl rfl rfl rfl rfl rfl (λ_ _ _ _ _ _=>(OH (n:=4) rfl (Bq (Ll 0 nd0) (Bq (Ll 1 nd0) (Bq (Ll 2 nd0) (Bq (Ll 3 nd0) KC)))))) (λ_ _ _ _ _ _=>Dv) (λ_ _ _ _ _ _=>(Az (BE (AK GM hr rfl (Ao (AJ 0) (AJ 4))) (IQ (AJ 1) (AJ 2) (AJ 3))))))))))))
theorem Mu:Ad ["former","corner","latter","amount","delayed"] ["former","corner","latter","amount"] (AU Hs):=Dn
theorem UA (F:C8 K "waited" "waited" Hs f fd) (Ys:XR P w K mg base n):
 A4 P w K mg base C7 (n+1) f fd ["former","corner","latter","amount"] (BS K 4 Fm):=by
 have nd:=Mu.nd
 exact Ae F Mu rfl λ_ _ _ _ _ _ hr=>(AN (Dg 4 nd (AK Ys hr rfl (Ao (AZ Af (Az (CK (AJ 1))) (AJ 2)) (AJ 3)))) (AN (BK (af (AJ 0)) (AR (Aa (AZ Af (AZ Af (AJ 0) (Az (CK (AJ 1)))) (AJ 4)))) A0) (AR (Aa (AJ 4)))))
theorem Mr:Ad ["plan","shape","now","corners","word","amount","former","corner","latter"] ["plan","shape","now"] (AU Ho):=Dn
theorem T7 (F:C8 K "shaped" "shaped" Ho f fd) (Bz:D8 P w K mg base n) (Wv:VC P w K mg base n) (QW:PY P w K mg base n) (Wy:VG P w K mg base n) (NK:PZ P w K mg base n) (Wz:VH P w K mg base n) (t_WAYS:Kt K w.params mg "WAYS" Dw):
 A4 P w K mg base C7 (n+1) f fd ["plan","shape","now"] (BS K 3 En):=by
 have nd:=Mr.nd
 exact Ae F Mr rfl λ_ _ _ _ _ _ hr=>(AN (RZ (AJ 1) (Lh (n:=2) rfl (CL (Mx 4 nd) (CL (Mx 5 nd) ID)))) (AN (Dg 3 nd (AK NK hr rfl (CK (AJ 0)))) (AN (BK (QD (Sx (GZ (DJ hr) (AX (AJ 5) AH) AH) (OO (ED (BW (AK Bz hr rfl (Ao (AJ 2) (AX (AX (AJ 3) (Cj AH)) AH)))))))) (AR (Aa (AJ 3))) A0) (AN (RZ (AK Wv hr rfl (Ao (AJ 3) (AJ 2))) (Lh (n:=3) rfl (CL (Mx 6 nd) (CL (Mx 7 nd) (CL (Mx 8 nd) ID))))) (AN (BK (GZ (DJ hr) (AJ 4) CN) (AR (Aa (AK Wz hr rfl (BE (AJ 6) (IQ (AJ 7) (AJ 8) (AJ 5)))))) A0) (AN (BK (GZ (DJ hr) (AJ 4) CN) (AR (Aa (AK Wy hr rfl (BE (AJ 6) (IQ (AJ 7) (AJ 8) (AJ 5)))))) A0) (AR (Aa (AK QW hr rfl (BE (AJ 6) (BE (AJ 7) (IQ (AJ 8) (aR t_WAYS rfl (AJ 4) (λ_ _=>rfl)) (AJ 5)))))))))))))
theorem GV:Ad ["_law_plan_here","_law_word","_law_amount","_law_now","_law_found","_law_n","_law_last","_law_m"] ["_law_plan_here","_law_word","_law_amount","_law_now"] (AU Ds):=Dn
theorem MF (F:C8 K "_law_right" "_law_right" Ds f fd) (S9:Qw P w K mg base n) (Lz:LG P w K mg base n) (As:C6 P w K mg base n) (L0:LH P w K mg base n) (CV:Fs P w K mg base n) (Ox:Td P w K mg base n) (L1:LI P w K mg base n) (Wx:VF P w K mg base n):
 A4 P w K mg base C7 (n+1) f fd ["_law_plan_here","_law_word","_law_amount","_law_now"] (BS K 4 CH):=by
 have nd:=GV.nd
 exact Ae F GV rfl λ_ _ _ _ _ _ hr=>(AN (Dg 4 nd (AK Wx hr rfl (IQ (AJ 0) (Az (Ao (AJ 1) (AJ 2))) (AJ 3)))) (AN (BK (QD (Sx (GZ (DJ hr) (AJ 2) (Az (Ao AH AH))) (OO (ED (BW (AK As hr rfl (Ao (AJ 3) (AX (AX (AJ 0) (Cj AH)) AH)))))))) (AR (Aa (FH (DJ hr) (AJ 4) (AJ 0) (DR _)))) A0) (AN (Dg 5 nd (AK Lz hr rfl (Ao (AJ 3) (AX (AX (AJ 0) AH) AH)))) (AN (BK (QD (ON (Rb (aZ hr) (AJ 1) (Az (Ao CN CN)) rfl) (KE (ED (BW (AK As hr rfl (Ao (AJ 5) (AX (AX (AJ 0) (Cj AH)) AH)))))))) (AR (Aa (FH aY (AJ 4) Fy (DR _)))) A0) (AN (Dg 6 nd (AX (AX (AJ 4) (Cj AH)) AH)) (AN (Dk PassesOwn.never rfl (Iv (AZ Af (AK L0 hr rfl (Ao (AJ 0) (AJ 4))) (Eg (Ca (CK (AJ 5)))))) (Mx 7 nd) (AR (BK (QD (ON (ED (BW (AK As hr rfl (Ao (AJ 6) (AJ 7))))) (KE (GZ (QA hr) (AK CV hr rfl (Ao (AJ 4) (AJ 7))) (AK S9 hr rfl (BE (AJ 0) (BE (AJ 1) (IQ (AJ 2) (AJ 5) (AJ 7))))))))) (AR (Aa Mw)) A0))) (AN (BK (GZ (DJ hr) (AJ 5) (AX (AX (AJ 0) AH) AH)) (AR (Aa (dc (FH (DJ hr) (AJ 1) CN (DR _)) (aQ (FH (DJ hr) (AX (AJ 4) AH) (AX (AJ 0) AH) (DR _)))))) A0) (AR (Aa (FH aX (AK L1 hr rfl (Ao (AK Ox hr rfl (IQ (AJ 4) (AX (AX (AJ 0) AH) AH) (AJ 5))) (AK Ox hr rfl (IQ (AJ 0) (AX (AX (AJ 0) AH) AH) (AJ 5))))) Mw (DR _)))))))))))
theorem H0:Ad ["_law_script","_law_k","_law_cell","_law_digits"] ["_law_script","_law_k"] (AU EV):=Dn
theorem Nz (F:C8 K "_law_tape" "_law_tape" EV f fd) (FX:mg "abs" =none) (M9:mg "int" =none) (Br:mg "len" =none):
 A4 P w K mg base C7 (n+1) f fd ["_law_script","_law_k"] (BS K 2 K1):=by
 have nd:=H0.nd
 refine F.ok H0 (λvs H Q E h=> ?_) (λcdv A outer s H vs Q E hr h=> ?_)
 ·obtain ⟨T,M,xs,AQ,_,_,r,hl,_⟩:=h
  rw [r.length,hl] <;> rfl
 obtain ⟨T,M,xs,AQ,va,_,r,hl,hF,hQ⟩:=h
 unfold K1 at hF
 split at hF <;> first | exact hF.elim|skip
 rename_i ns k
 obtain ⟨⟨k0,k1⟩,hF⟩:=hF
 cases r with
 | cons r rr=>
 cases rr with
 | cons r2 rr=>
 cases rr
 cases r2
 obtain ⟨a,rfl,hS⟩:=WA r
 refine ⟨_,(DD (G3 (i:=2) nd rfl (Or.inl rfl) A5)
  (DD (V1 (N5 Yf (pv 1) (Hd HR rfl Br PySem.boot_len (FD (pv 0) Ip)) (DR _)) (Hf (G3 (i:=2) nd rfl (Or.inl rfl) (He EK (pv 0) (pv 1) (λ_ _=>rfl)))) N4)
  (DD (G3 (i:=3) nd rfl (Or.inl rfl) (CY F5 (Hd K8 rfl FX boot_abs (FD (pv 2) Ip)) (Mi MU rfl M9 PyProof.Rows.boot_int (FD (SL c7 (Hd K8 rfl FX boot_abs (FD (pv 2) Ip)) (CY Vs A5 A5) (DR _)) Ip))))
  (Hf (N3 (Vw (FD (pv 3) (FD (CY FC (CY F5 (CY FC (CY Io (CY Io (pv 2) (CY F5 A5 (pv 1))) A5) A5) A5) A5) Ip)))))))), ?_⟩
 have hl:(ns.map V.int).length=ns.length:=List.length_map _
 have fin:∀(c:Int) (p:Addr),H p=none->Q (.ref p) (upd H p (.lst [.int ((if c<0 then -c else c)*(if decide ((10:Int)^18<=(if c<0 then -c else c)) then 1 else 0)), .int ((c+7919*k+1) % 2147483647*48271 % 2147483647)])):=λc p hp=>
  hQ _ .tape (λb=>T b\/b=p) _ (WP va.tp hp (Int.mul_nonneg (by split <;> omega) (lK _)) (Int.emod_nonneg _ (by decide)) (Int.emod_lt_of_pos _ (by decide))) (.tape (.inr rfl)) hF
 refine ⟨_,rfl,_,rfl,a,_,rfl, .inl hS,_,_,rfl,rfl,_,rfl, ?_⟩
 refine cW (λc=> ?_) (λc=> ?_)
 ·have c':k<(((ns.map V.int).length:Nat):Int):=of_decide_eq_true c
  rw [hl] at c'
  have hk:k.toNat<ns.length:=by omega
  have hv:EE (ns.map V.int) k=some (.int ns[k.toNat]):=by
   have q:EE (ns.map V.int) ((k.toNat:Nat):Int)=some (.int ns[k.toNat]):=Ct (by rw [List.getElem?_map,List.getElem?_eq_getElem hk] <;> rfl)
   rwa [show ((k.toNat:Nat):Int)=k by omega] at q
  refine ⟨_,rfl,_,rfl,a,_,_,_,rfl,rfl,hS,hv, ?_⟩
  refine ⟨_,rfl,_,rfl,_,rfl,_,rfl,_,_,rfl,rfl,⟨by decide,by decide,by decide⟩,_,_,rfl,rfl, .inr ⟨_,rfl,_,_,rfl,rfl, .inl (.inr (jI _)), ?_⟩⟩
  exact ⟨_,rfl,_,rfl,_,rfl,_,_,rfl,rfl, .inl (.inl ⟨by decide,by decide⟩),_,_,rfl,rfl,_,_,rfl,rfl,_,_,rfl,rfl,(show (0:Int)<2147483647 by decide),_,_,rfl,rfl, .inl (.inr ⟨by decide,by decide⟩),_,_,rfl,rfl,(show (0:Int)<2147483647 by decide),(show 2<=sizeLine by decide),λp hp=>fin _ p hp⟩
 ·refine ⟨_,rfl,_,rfl,_,rfl,_,rfl,_,_,rfl,rfl,⟨by decide,by decide,by decide⟩,_,_,rfl,rfl, .inr ⟨_,rfl,_,_,rfl,rfl, .inl (.inr (jI _)), ?_⟩⟩
  exact ⟨_,rfl,_,rfl,_,rfl,_,_,rfl,rfl, .inl (.inl ⟨by decide,by decide⟩),_,_,rfl,rfl,_,_,rfl,rfl,_,_,rfl,rfl,(show (0:Int)<2147483647 by decide),_,_,rfl,rfl, .inl (.inr ⟨by decide,by decide⟩),_,_,rfl,rfl,(show (0:Int)<2147483647 by decide),(show 2<=sizeLine by decide),λp hp=>fin 0 p hp⟩
theorem IA:Ad ["_law_tape_here","_law_plan_here","_law_way","_law_k","_law_found","_law_share_here"] ["_law_tape_here","_law_plan_here"] (AU EW):=Dn
theorem N0 (F:C8 K "_law_when" "_law_when" EW f fd) (Ab:Bl P w K mg base n) (BU:E8 P w K mg base n) (Bu:DB P w K mg base n) (DO:Fq P w K mg base n) (Ba:DQ P w K mg base n) (Br:mg "len" =none):
 A4 P w K mg base C7 (n+1) f fd ["_law_tape_here","_law_plan_here"] (BS K 2 EI):=by
 have nd:=IA.nd
 exact Ae F IA rfl λ_ _ _ _ _ _ hr=>(AN (Dg 2 nd (AK Ab hr rfl (Ao (AJ 0) AH))) (AN (Dg 3 nd (AK Ab hr rfl (Ao (AJ 0) (AZ CO (Be Ef rfl Br PySem.boot_len (CK (AJ 1))) AH)))) (AN (Dg 4 nd (AX (AX (AJ 1) (AJ 3)) AH)) (AN (BK (GZ (DJ hr) (AJ 2) AH) (AR (Dg 4 nd (AK BU hr rfl (Ao (AX (AX (AJ 1) AH) AH) (AK DO hr rfl (CK (AJ 0))))))) (AR (BK (GZ (DJ hr) (AJ 2) AH) (AR (Dg 4 nd (AK Ba hr rfl (Ao (AX (AX (AJ 1) (Cj AH)) AH) (AK DO hr rfl (CK (AJ 0))))))) (AR (BK (GZ GY (AJ 2) AH) (AR (Dg 4 nd (AX (Eg (Ca (Ao (AX (AX (AJ 1) AH) AH) (AX (AX (AJ 1) (Cj AH)) AH)))) (AZ CO (AJ 2) AH)))) (AR (BK (GZ Sm (AJ 2) AH) (AN (Dg 5 nd (AX (Eg (Ca (BE (Az (Ao AH AH)) (IQ (Az (Ao AH AH)) (Az (Ao AH AH)) (Az (Ao AH AH)))))) (AK Ab hr rfl (Ao (AJ 0) AH)))) (AR (Dg 4 nd (AK Ba hr rfl (Ao (AX (AX (AJ 1) (AJ 3)) AH) (AK Bu hr rfl (Ao (AJ 5) (AK BU hr rfl (Ao (AX (AX (AJ 1) (AZ Af (AJ 3) AH)) AH) (AX (AX (AJ 1) (AJ 3)) AH)))))))))) A0))))))) (AR (Aa (P5 (GZ dh (AX (AJ 4) AH) AH) (AJ 4) (AX (AX (AJ 1) (AJ 3)) AH))))))))
theorem V9:Ad ["_law_script","_law_k","_law_tape_here","_law_plan_here","_law_first","_law_turn","_law_word"] ["_law_script"] (AU Lc):=Dn
theorem Zs (F:C8 K "law" "law" Lc f fd) (Kq:Jg P w K mg base n) (Ab:Bl P w K mg base n) (QR:PQ P w K mg base n) (Ou:NX P w K mg base n) (QU:PU P w K mg base n) (QV:PX P w K mg base n) (Br:mg "len" =none) (WY:mg "min" =none) (BL:mg "range" =none):
 A4 P w K mg base C7 (n+1) f fd ["_law_script"] (BS K 1 Dx):=by
 have nd:=V9.nd
 exact Ae F V9 rfl λ_ _ _ _ _ _ hr=>(AN (Dk PassesOwn.never rfl (Li rfl BL (CK (AZ Af AH (Be (aO rfl) rfl WY boot_min (Ao AH (Be Ef rfl Br PySem.boot_len (CK (AJ 0)))))))) (Mx 1 nd) (AN (Dg 2 nd (AK QU hr rfl (Ao (AJ 0) (AJ 1)))) (AN (Dg 3 nd (AK Kq hr rfl (CK (AJ 2)))) (AN (Dg 4 nd (AK Ab hr rfl (Ao (AJ 2) AH))) (AR (Dk PassesOwn.never rfl (Li rfl BL (CK AH)) (Mx 5 nd) (AN (Dg 6 nd (AX (Eg (Ca (BE CN (BE CN (BE CN (BE CN (BE CN (IQ CN CN CN)))))))) (AZ RT (AZ Af (AJ 4) (AZ BA AH (AJ 5))) AH))) (AR (BK (ED (BW (AK Ou hr rfl (BE (AJ 3) (IQ (AJ 6) (AK QR hr rfl (CK (AJ 2))) (AK QV hr rfl (Ao (AJ 2) (AJ 3)))))))) (AR (Aa Mw)) A0))))))))) (AR (Aa Mw)))
end
theorem ZS {P:Program} {w:World} {K:PySem.W.Frag} {mg:Str->Option Value} {base:Heap} {k:Nat} {x:Str} {st:Stmt} {ps:List Str} {sp:Sp} {f:Addr} {fd:FuncData} (F:C8 K x x st f fd) (b:Binds K fd ps []) (m:mg x=some (.ref f)) (G:A4 P w K mg base C7 k f fd ps sp):Has P w K mg base k x ps sp:=⟨f,fd,m,F.kp,b,G⟩
theorem ci {us:List Value} (hl:us.length=1):∃x0:Value,us= [x0] :=by
 match us,hl with | [x0],_=>exact ⟨_,rfl⟩
theorem cj {us:List Value} (hl:us.length=2):∃x0 x1:Value,us= [x0,x1] :=by
 match us,hl with | [x0,x1],_=>exact ⟨_,_,rfl⟩
theorem ck {us:List Value} (hl:us.length=3):∃x0 x1 x2:Value,us= [x0,x1,x2] :=by
 match us,hl with | [x0,x1,x2],_=>exact ⟨_,_,_,rfl⟩
theorem cm {us:List Value} (hl:us.length=4):∃x0 x1 x2 x3:Value,us= [x0,x1,x2,x3] :=by
 match us,hl with | [x0,x1,x2,x3],_=>exact ⟨_,_,_,_,rfl⟩
theorem cn {us:List Value} (hl:us.length=5):∃x0 x1 x2 x3 x4:Value,us= [x0,x1,x2,x3,x4] :=by
 match us,hl with | [x0,x1,x2,x3,x4],_=>exact ⟨_,_,_,_,_,rfl⟩
def DX (K:PySem.W.Frag) (x:Str) (st:Stmt) (f:Addr):Prop:=PySem.W.nsIn K mainGlobals x=some (some (.ref f))/\∃fd,C8 K x x st f fd
theorem jH {K:PySem.W.Frag} {x:Str} {st:Stmt} {f:Addr} {oc:Value} {od an:Option Addr} {osl:Array (Option Value)} {kV doc pm cdv ct:Value} (a:PySem.W.nsIn K mainGlobals x=some (some (.ref f))) (l:K.lookup f=some ⟨oc,od, .func (PySem.W.fnOf x x (E6 st) (Dp st) (AU st) .none kV doc pm an cdv ct),osl⟩) (c:PySem.W.codeIn K cdv x=true) (k:PySem.W.keepIn K (.ref f)=true):DX K x st f:=⟨a,_,U5 l c k⟩
theorem gL {P:Program} {w:World} {K:PySem.W.Frag} {h base:Heap} {mg:Str->Option Value} {k:Nat} {x:Str} {st:Stmt} {ps:List Str} {sp:Sp} {f:Addr} (A:DX K x st f) (X:K.In h) (G:h.Ns mainGlobals mg) (g:∀fd,C8 K x x st f fd->Binds K fd ps [] ->mg x=some (.ref f)->A4 P w K mg base C7 k f fd ps sp) (b:∀fd,C8 K x x st f fd->Binds K fd ps [] :=by exact λ_ F=>F.binds λ_ _ _ _ _ _ us hl=>by first | (obtain ⟨_,rfl⟩:=ci hl;rfl)|(obtain ⟨_,_,rfl⟩:=cj hl;rfl)|(obtain ⟨_,_,_,rfl⟩:=ck hl;rfl)|(obtain ⟨_,_,_,_,rfl⟩:=cm hl;rfl)|(obtain ⟨_,_,_,_,_,rfl⟩:=cn hl;rfl)):Has P w K mg base k x ps sp:=
 let ⟨a,fd,F⟩:=A;ZS F (b fd F) (PySem.W.mg_of X G a) (g fd F (b fd F) (PySem.W.mg_of X G a))
theorem all_mk {l:PySem.W.OpenLaw} {w:World} {K:PySem.W.Frag} {h:Heap} {mg:Str->Option Value} {fa f1 f2 f3 f4 f5 f6 f7 f8 f9 f10 f11 f12 f13 f14 f15 f16 f17 f18 f19 f20 f21 f22 f23 f24 f25 f26 f27 f28 f29 f30 f31 f32 f33 f34 f35 f36 f37 f38 f39 f40 f41 f42 f43 f44 f45 f46 f47 f48 f49 f50:Addr} (X:K.In h) (G:h.Ns mainGlobals mg) (lq:mg "law" =some (.ref fa))
 (a1:DX K "_law_draw" EM f1) (a2:DX K "_law_part" EQ f2) (a3:DX K "_law_far_plan" Cw f3) (a4:DX K "_law_place" Dq f4) (a5:DX K "_law_span" ET f5) (a6:DX K "_law_sum" FG f6) (a7:DX K "_law_plan" ES f7) (a8:DX K "_law_straight" Cy f8) (a9:DX K "_law_any_plan" Cv f9) (a10:DX K "_law_much" EO f10) (a11:DX K "_law_less" EN f11) (a12:DX K "_law_off" FF f12) (a13:DX K "_law_ratio" Dr f13) (a14:DX K "_law_product" DG f14) (a15:DX K "_law_share" Du f15) (a16:DX K "_law_spot" EU f16) (a17:DX K "_law_round" Dt f17) (a18:DX K "_law_due" FE f18) (a19:DX K "_law_greater" DE f19) (a20:DX K "_law_moments" DF f20) (a21:DX K "before" Hi f21) (a22:DX K "common" Hj f22) (a23:DX K "part" N9 f23) (a24:DX K "minus" J7 f24) (a25:DX K "over" N8 f25) (a26:DX K "plus" OA f26) (a27:DX K "times" J8 f27) (a28:DX K "spot_between" DI f28) (a29:DX K "spot_at" GA f29) (a30:DX K "corner_at" EX f30) (a31:DX K "corners_between" CS f31) (a32:DX K "greater" F7 f32) (a33:DX K "lesser" Hm f33) (a34:DX K "part_of" F8 f34) (a35:DX K "is_straight" DU f35) (a36:DX K "tupled" Hr f36) (a37:DX K "fewest" Hl f37) (a38:DX K "same_flights" DH f38) (a39:DX K "cut_at" Hk f39) (a40:DX K "put_off" F9 f40) (a41:DX K "whole" J9 f41) (a42:DX K "led_round" EY f42) (a43:DX K "slowed" Hq f43) (a44:DX K "later" J6 f44) (a45:DX K "waited" Hs f45) (a46:DX K "shaped" Ho f46) (a47:DX K "_law_right" Ds f47) (a48:DX K "_law_tape" EV f48) (a49:DX K "_law_when" EW f49) (a50:DX K "law" Lc f50)
 (y_abs:PySem.W.nsIn K mainGlobals "abs" =some none) (y_int:PySem.W.nsIn K mainGlobals "int" =some none) (y_len:PySem.W.nsIn K mainGlobals "len" =some none) (y_min:PySem.W.nsIn K mainGlobals "min" =some none) (y_range:PySem.W.nsIn K mainGlobals "range" =some none) (y_tuple:PySem.W.nsIn K mainGlobals "tuple" =some none) (y_zip:PySem.W.nsIn K mainGlobals "zip" =some none)
 {d_WAYS:Addr} {e_WAYS:Array DictEntry} {n_WAYS:Nat} {wWAYS0_2:Tok} {wWAYS0_3:Tok} {wWAYS0_4:Tok} {wWAYS0_1:Addr} {wWAYS0_1n:Nat} {wWAYS0_1d:Option Addr} {wWAYS0_1s:Array (Option Value)} {wWAYS1_6:Tok} {wWAYS1_7:Tok} {wWAYS1_8:Tok} {wWAYS1_5:Addr} {wWAYS1_5n:Nat} {wWAYS1_5d:Option Addr} {wWAYS1_5s:Array (Option Value)} {wWAYS2_10:Tok} {wWAYS2_11:Tok} {wWAYS2_12:Tok} {wWAYS2_9:Addr} {wWAYS2_9n:Nat} {wWAYS2_9d:Option Addr} {wWAYS2_9s:Array (Option Value)} {wWAYS3_14:Tok} {wWAYS3_15:Tok} {wWAYS3_16:Tok} {wWAYS3_13:Addr} {wWAYS3_13n:Nat} {wWAYS3_13d:Option Addr} {wWAYS3_13s:Array (Option Value)} {wWAYS4_18:Tok} {wWAYS4_19:Tok} {wWAYS4_20:Tok} {wWAYS4_17:Addr} {wWAYS4_17n:Nat} {wWAYS4_17d:Option Addr} {wWAYS4_17s:Array (Option Value)} {wWAYS5_22:Tok} {wWAYS5_23:Tok} {wWAYS5_24:Tok} {wWAYS5_21:Addr} {wWAYS5_21n:Nat} {wWAYS5_21d:Option Addr} {wWAYS5_21s:Array (Option Value)}
 (a_WAYS:PySem.W.nsIn K mainGlobals "WAYS" =some (some (.ref d_WAYS))) (l_WAYS:K.lookup d_WAYS=some ⟨.type "dict",none, .dict e_WAYS n_WAYS, #[]⟩) (kk_WAYS:PySem.W.KeysLit w.params e_WAYS.toList) (n_WAYS0:PySem.W.nsIn K d_WAYS "east" =some (some (.ref wWAYS0_1))) (h_wWAYS0_1:K.lookup wWAYS0_1=some ⟨.type "tuple",wWAYS0_1d, .seq (List.toArray [(.int 1 wWAYS0_2),(.int 0 wWAYS0_3),(.int 0 wWAYS0_4)]) wWAYS0_1n,wWAYS0_1s⟩) (n_WAYS1:PySem.W.nsIn K d_WAYS "west" =some (some (.ref wWAYS1_5))) (h_wWAYS1_5:K.lookup wWAYS1_5=some ⟨.type "tuple",wWAYS1_5d, .seq (List.toArray [(.int (-1) wWAYS1_6),(.int 0 wWAYS1_7),(.int 0 wWAYS1_8)]) wWAYS1_5n,wWAYS1_5s⟩) (n_WAYS2:PySem.W.nsIn K d_WAYS "north" =some (some (.ref wWAYS2_9))) (h_wWAYS2_9:K.lookup wWAYS2_9=some ⟨.type "tuple",wWAYS2_9d, .seq (List.toArray [(.int 0 wWAYS2_10),(.int 1 wWAYS2_11),(.int 0 wWAYS2_12)]) wWAYS2_9n,wWAYS2_9s⟩) (n_WAYS3:PySem.W.nsIn K d_WAYS "south" =some (some (.ref wWAYS3_13))) (h_wWAYS3_13:K.lookup wWAYS3_13=some ⟨.type "tuple",wWAYS3_13d, .seq (List.toArray [(.int 0 wWAYS3_14),(.int (-1) wWAYS3_15),(.int 0 wWAYS3_16)]) wWAYS3_13n,wWAYS3_13s⟩) (n_WAYS4:PySem.W.nsIn K d_WAYS "up" =some (some (.ref wWAYS4_17))) (h_wWAYS4_17:K.lookup wWAYS4_17=some ⟨.type "tuple",wWAYS4_17d, .seq (List.toArray [(.int 0 wWAYS4_18),(.int 0 wWAYS4_19),(.int 1 wWAYS4_20)]) wWAYS4_17n,wWAYS4_17s⟩) (n_WAYS5:PySem.W.nsIn K d_WAYS "down" =some (some (.ref wWAYS5_21))) (h_wWAYS5_21:K.lookup wWAYS5_21=some ⟨.type "tuple",wWAYS5_21d, .seq (List.toArray [(.int 0 wWAYS5_22),(.int 0 wWAYS5_23),(.int (-1) wWAYS5_24)]) wWAYS5_21n,wWAYS5_21s⟩):
 ∃fd:FuncData,(∀(s:Shared) (v:Value),BindsTo s fd ⟨[v], []⟩ [("_law_script",v)])/\∀base:Heap,K.In base->base.Ns mainGlobals mg->A4 l.prog w K mg base C7 10 fa fd ["_law_script"] (BS K 1 Dx):=by
 have e:=lq.symm.trans (PySem.W.mg_of X G a50.1)
 cases e
 obtain ⟨aL,fdL,FL⟩:=a50
 obtain ⟨⟨oc,od,kV,doc,pm,an,cdv,ct,osl,eL,lL,cL⟩,kL⟩:=FL
 subst eL
 have FL:=U5 lL cL kL
 have FX:=PySem.W.mg_none_of X G y_abs
 have M9:=PySem.W.mg_none_of X G y_int
 have Br:=PySem.W.mg_none_of X G y_len
 have WY:=PySem.W.mg_none_of X G y_min
 have BL:=PySem.W.mg_none_of X G y_range
 have Ai:=PySem.W.mg_none_of X G y_tuple
 have IL:=PySem.W.mg_none_of X G y_zip
 have t_WAYS:Kt K w.params mg "WAYS" Dw:=cg (PySem.W.mg_of X G a_WAYS) l_WAYS kk_WAYS (Et n_WAYS0 (F6 h_wWAYS0_1 (.cons Bf (.cons Bf (.cons Bf .nil)))) (Et n_WAYS1 (F6 h_wWAYS1_5 (.cons Bf (.cons Bf (.cons Bf .nil)))) (Et n_WAYS2 (F6 h_wWAYS2_9 (.cons Bf (.cons Bf (.cons Bf .nil)))) (Et n_WAYS3 (F6 h_wWAYS3_13 (.cons Bf (.cons Bf (.cons Bf .nil)))) (Et n_WAYS4 (F6 h_wWAYS4_17 (.cons Bf (.cons Bf (.cons Bf .nil)))) (Et n_WAYS5 (F6 h_wWAYS5_21 (.cons Bf (.cons Bf (.cons Bf .nil)))) trivial))))))
 refine ⟨PySem.W.fnOf "law" "law" (E6 Lc) (Dp Lc) (AU Lc) .none kV doc pm an cdv ct,λs v=> .of_eq rfl,λbase _ _=> ?_⟩
 have hs:= @gL l.prog w K h base mg
 have H1:=hs a1 X G λ_ F _ _=>Nr (n:=0) F
 have H2:=hs a2 X G λ_ F _ _=>Nv (n:=0) F FX M9
 have H3:=hs a3 X G λ_ F _ _=>Ik (n:=1) F (BQ H1) (BQ H2) BL Ai
 have H4:=hs a4 X G λ_ F _ _=>MD (n:=1) F (BQ H1) (BQ H2)
 have H5:=hs a5 X G λ_ F _ _=>Nx (n:=1) F (BQ H1) (BQ H2)
 have H6:=hs a6 X G λ_ F _ _=>Pq (n:=1) F (BQ H2)
 have H7:=hs a7 X G λ_ F _ _=>Nw (n:=2) F (BQ H1) (BQ H4) (BQ H5) (BQ H6) Br Ai
 have H8:=hs a8 X G λ_ F _ _=>Il (n:=1) F (BQ H1) (BQ H2) Br Ai IL
 have H9:=hs a9 X G λ_ F _ _=>Ij (n:=3) F (BQ H1) (BQ H3) (BQ H7) (BQ H8) BL
 have kN:=hs a10 X G λ_ F _ _=>Nu (n:=2) F (BQ H1) (BQ H2) (BQ H5)
 have ay:=hs a11 X G λ_ F _ _=>Nt (n:=0) F
 have eI:=hs a12 X G λ_ F _ _=>Pp (n:=1) F (BQ H2)
 have fW:=hs a13 X G λ_ F _ _=>ME (n:=1) F (BQ H2)
 have eJ:=hs a14 X G λ_ F _ _=>Jm (n:=1) F (BQ H2)
 have kO:=hs a15 X G λ_ F _ _=>MH (n:=2) F (BQ ay) (BQ eI) (BQ fW)
 have fX:=hs a16 X G λ_ F _ _=>Ny (n:=2) F (BQ ay) (BQ eI) (BQ eJ) (BQ fW) (BQ H6) BL Ai IL
 have kP:=hs a17 X G λ_ F _ _=>MG (n:=3) F (BQ eJ) (BQ kO) (BQ fX) (BQ H6)
 have kQ:=hs a18 X G λ_ F _ _=>Po (n:=4) F (BQ ay) (BQ eI) (BQ fW) (BQ kP) (BQ fX) (BQ H6)
 have kR:=hs a19 X G λ_ F _ _=>Jk (n:=1) F (BQ ay)
 have kS:=hs a20 X G λ_ F _ _=>Jl (n:=2) F (BQ ay) (BQ eJ) (BQ H6) Br BL
 have Yu:=hs a21 X G λ_ F _ _=>Tw (n:=0) F
 have kT:=hs a22 X G λ_ F _ _=>Tx (n:=0) F
 have eM:=hs a23 X G λ_ F _ _=>Xm (n:=1) F (BQ kT) FX
 have fY:=hs a24 X G λ_ F _ _=>Vk (n:=2) F (BQ eM)
 have kU:=hs a25 X G λ_ F _ _=>Xl (n:=2) F (BQ eM)
 have eO:=hs a26 X G λ_ F _ _=>Xn (n:=2) F (BQ eM)
 have eQ:=hs a27 X G λ_ F _ _=>Vl (n:=2) F (BQ eM)
 have kW:=hs a28 X G λ_ F _ _=>Jo (n:=3) F (BQ fY) (BQ kU) (BQ eO) (BQ eQ) Ai IL
 have kX:=hs a29 X G λ_ F _ _=>RE (n:=4) F (BQ Yu) (BQ kW) Br BL
 have jA:=hs a30 X G λ_ F _ _=>N1 (n:=5) F (BQ kX)
 have kY:=hs a31 X G λ_ F _ _=>G1 (n:=1) F (BQ Yu) Ai
 have jB:=hs a32 X G λ_ F _ _=>RB (n:=1) F (BQ Yu)
 have kZ:=hs a33 X G λ_ F _ _=>T4 (n:=1) F (BQ Yu)
 have ka:=hs a34 X G λ_ F _ _=>RC (n:=6) F (BQ Yu) (BQ jA) (BQ kY) (BQ jB) (BQ kZ) Ai
 have kb:=hs a35 X G λ_ F _ _=>LQ (n:=3) F (BQ fY) (BQ eQ)
 have jC:=hs a36 X G λ_ F _ _=>T9 (n:=0) F Ai
 have kg:=hs a37 X G λ_ F _ _=>T0 (n:=4) F (BQ kb) (BQ jC) Br BL
 have kh:=hs a38 X G λ_ F _ _=>Jn (n:=5) F (BQ kg)
 have ko:=hs a39 X G λ_ F _ _=>Tz (n:=6) F (BQ Yu) (BQ jA) (BQ jB) Ai
 have kq:=hs a40 X G λ_ F _ _=>RD (n:=3) F (BQ eO) Ai
 have jD:=hs a41 X G λ_ F _ _=>Vm (n:=0) F
 have kr:=hs a42 X G λ_ F _ _=>N2 (n:=4) F (BQ kq) (BQ eQ) (BQ jD) Br
 have ku:=hs a43 X G λ_ F _ _=>T8 (n:=3) F (BQ fY) (BQ eO) (BQ eQ) (BQ jD) Ai
 have k9:=hs a44 X G λ_ F _ _=>Vj (n:=3) F (BQ eO) Ai
 have lA:=hs a45 X G λ_ F _ _=>UA (n:=4) F (BQ k9)
 have lB:=hs a46 X G λ_ F _ _=>T7 (n:=7) F (BQ Yu) (BQ ko) (BQ kr) (BQ ku) (BQ jC) (BQ lA) t_WAYS
 have lC:=hs a47 X G λ_ F _ _=>MF (n:=8) F (BQ kQ) (BQ kR) (BQ ay) (BQ kS) (BQ fX) (BQ ka) (BQ kh) (BQ lB)
 have lD:=hs a48 X G λ_ F _ _=>Nz (n:=0) F FX M9 Br
 have lE:=hs a49 X G λ_ F _ _=>N0 (n:=2) F (BQ H1) (BQ eI) (BQ eJ) (BQ H5) (BQ H6) Br
 exact Zs (n:=9) FL (BQ H9) (BQ H1) (BQ kN) (BQ lC) (BQ lD) (BQ lE) Br WY BL
theorem walk {l:PySem.W.OpenLaw} {q:Program} {loose:List Str} {XP:(Str->Option Value)->Heap->Prop} {YP:World->Heap->Prop} {d:DefRec} {K:Params->PySem.W.Frag} (hn:l.most=some 63) (cH:d.params.defaults= [])
 (hY:∀(w:World) (h:Heap),YP w h->(K w.params).In h)
 (F:∀(w:World) (mg:Str->Option Value) (fa:Addr) (h:Heap),(K w.params).In h->h.Ns mainGlobals mg->mg d.name=some (.ref fa)->
   ∃fd:FuncData,(∀(s:Shared) (u:Value),BindsTo s fd ⟨[u], []⟩ [("_law_script",u)])/\∀base:Heap,(K w.params).In base->base.Ns mainGlobals mg->A4 l.prog w (K w.params) mg base C7 10 fa fd ["_law_script"] (BS (K w.params) 1 Dx)):
 PySem.W.WalkO q loose XP YP l.row.toRowW d [] (λf vs=>PySem.call f vs):=
 L2.walk_of (n:=63) (k:=10) (x:="_law_script") (CX:=λ_=>C7) (sp:=λw=>BS (K w.params) 1 Dx) hn (by decide) cH ⟨rfl,by decide,by decide,rfl⟩ hY F (λ_ _ a ns hl _ hS=>PL.law_sp hS (Vd ns hl)) λ_ _ _ _ _ z=>z
def m0:String:="law_skylanes_k19_shapes_keep_what_is_flown"
def m1:String:="skylanes.fractions"
def m2:String:="skylanes.plans"
def m3:String:="skylanes.shapes"
def eN (P:Params) (x:String) (i:Nat) (v:Value):DictEntry:=⟨PyData.keyHash P (Str.ofString x), .str (Str.ofString x) i,v⟩
abbrev eR (P:Params) (x:String) (i f:Nat):=eN P x i (.ref f)
def fO (x:String) (s:Stmt) (m:String) (i c:Nat):Obj:=⟨.type "function",none, .func (PySem.W.fnOf (Str.ofString x) (Str.ofString x) (E6 s) (Dp s) (AU s) .none .none .none (.str (Str.ofString m) i) none (.ref c) .none), #[]⟩
def rV:Nat->Value
 | 0=> .none
 | n+1=> .ref (n+1)
def fc (x:String) (s:Stmt) (m:String) (mi c f i l n g a1 a2 a3 a4 a5 u:Nat) (r:PySem.W.Frag):PySem.W.Frag:=
 (c,⟨.type "code",none, .fields #[.str (Str.ofString x) i, .str (Str.ofString x) (i+1), .str (Str.ofString "/claim/cut.py") (i+2), .int l 0, .int n 0, .int 0 0, .int 0 0, .int g 0,rV a1, .bool true, .int 181 0,rV a2, .none,rV a3,rV a4,rV a5, .int u 0, .int l 0, .str (Str.ofString "/claim/cut.py") (u+1)], #[]⟩) ::
 (f,fO x s m mi c)::r
theorem atK {K:PySem.W.Frag} {x:String} {s:Stmt} (m:String) (i c f:Nat) (a:PySem.W.nsIn K mainGlobals (Str.ofString x)=some (some (.ref f)):=by kernel_rfl) (l:K.lookup f=some (fO x s m i c):=by kernel_rfl) (d:PySem.W.codeIn K (.ref c) (Str.ofString x)=true:=by kernel_rfl) (k:PySem.W.keepIn K (.ref f)=true:=by kernel_rfl):DX K (Str.ofString x) s f:=jH a l d k
def iJ (P:Params):Obj:=⟨.type "dict",none, .dict #[eN P "__name__" 165 (.str (Str.ofString "law_skylanes_k19_shapes_keep_what_is_flown") 441),eN P "__doc__" 166 .none,eN P "__package__" 167 .none,eN P "__loader__" 168 (.builtin "__main__.__loader__#opaque"),eN P "__spec__" 169 .none,eR P "__annotations__" 170 6,eR P "__builtins__" 171 4,eN P "__file__" 173 (.str (Str.ofString "/claim/cut.py") 172),eN P "__cached__" 174 .none,eR P "common" 196 21,eR P "part" 205 28,eR P "whole" 212 35,eR P "plus" 220 42,eR P "minus" 228 49,eR P "times" 236 56,eR P "over" 244 63,eR P "before" 252 70,eR P "lesser" 260 77,eR P "greater" 268 84,eR P "tupled" 276 89,eR P "spot_between" 282 94,eR P "spot_at" 291 101,eR P "corner_at" 299 108,eR P "later" 305 113,eR P "put_off" 311 118,eR P "corners_between" 317 123,eR P "part_of" 329 130,eR P "is_straight" 343 137,eR P "fewest" 352 144,eR P "same_flights" 360 151,eR P "WAYS" 396 152,eR P "waited" 407 165,eR P "slowed" 413 170,eR P "led_round" 419 175,eR P "cut_at" 425 180,eR P "shaped" 440 187,eR P "_law_tape" 452 194,eR P "_law_draw" 462 201,eR P "_law_part" 473 208,eR P "_law_less" 481 215,eR P "_law_sum" 489 222,eR P "_law_off" 497 229,eR P "_law_product" 505 236,eR P "_law_ratio" 513 243,eR P "_law_place" 521 250,eR P "_law_span" 529 257,eR P "_law_plan" 541 264,eR P "_law_straight" 553 271,eR P "_law_far_plan" 566 278,eR P "_law_any_plan" 575 285,eR P "_law_when" 587 292,eR P "_law_much" 595 299,eR P "_law_greater" 603 306,eR P "_law_spot" 609 311,eR P "_law_share" 615 316,eR P "_law_round" 629 323,eR P "_law_due" 641 330,eR P "_law_moments" 647 335,eR P "_law_right" 661 342,eR P "law" 674 349] 60, #[]⟩
def KK (P:Params):PySem.W.Frag:=(3,iJ P)::(fc "_law_draw" EM m0 441 200 201 453 112 2 3 195 196 197 198 199 460 <| fc "_law_part" EQ m0 441 207 208 463 120 2 3 202 203 204 205 206 471 <| fc "_law_far_plan" Cw m0 441 277 278 554 170 1 3 272 273 274 275 276 564 <| fc "_law_place" Dq m0 441 249 250 514 136 1 3 244 245 246 247 248 519 <| fc "_law_span" ET m0 441 256 257 522 143 1 3 251 252 253 254 255 527 <| fc "_law_sum" FG m0 441 221 222 482 128 2 3 216 217 218 219 220 487 <| fc "_law_plan" ES m0 441 263 264 530 148 1 3 258 259 260 261 262 539 <| fc "_law_straight" Cy m0 441 270 271 542 164 2 3 265 266 267 268 269 551 <| fc "_law_any_plan" Cv m0 441 284 285 567 181 1 3 279 280 281 282 283 573 <| fc "_law_much" EO m0 441 298 299 588 202 1 3 293 294 295 296 297 593 <| fc "_law_less" EN m0 441 214 215 474 126 2 3 209 210 211 212 213 479 <| fc "_law_off" FF m0 441 228 229 490 130 2 3 223 224 225 226 227 495 <| fc "_law_ratio" Dr m0 441 242 243 506 134 2 3 237 238 239 240 241 511 <| fc "_law_product" DG m0 441 235 236 498 132 2 3 230 231 232 233 234 503 <| fc "_law_share" Du m0 441 315 316 610 220 3 3 312 313 0 0 314 613 <| fc "_law_spot" EU m0 441 310 311 604 211 2 3 307 308 0 0 309 607 <| fc "_law_round" Dt m0 441 322 323 616 227 5 3 317 318 319 320 321 627 <| fc "_law_due" FE m0 441 329 330 630 234 5 3 324 325 326 327 328 639 <| fc "_law_greater" DE m0 441 305 306 596 209 2 3 300 301 302 303 304 601 <| fc "_law_moments" DF m0 441 334 335 642 245 2 3 331 332 0 0 333 645 <| fc "before" Hi m1 187 69 70 245 21 2 3 64 65 66 67 68 250 <| fc "common" Hj m1 187 20 21 189 2 2 3 15 16 17 18 19 194 <| fc "part" N9 m1 187 27 28 197 6 2 3 22 23 24 25 26 203 <| fc "minus" J7 m1 187 48 49 221 15 2 3 43 44 45 46 47 226 <| fc "over" N8 m1 187 62 63 237 19 2 3 57 58 59 60 61 242 <| fc "plus" OA m1 187 41 42 213 13 2 3 36 37 38 39 40 218 <| fc "times" J8 m1 187 55 56 229 17 2 3 50 51 52 53 54 234 <| fc "spot_between" DI m2 269 93 94 277 30 3 3 90 91 0 0 92 280 <| fc "spot_at" GA m2 269 100 101 283 33 2 3 95 96 97 98 99 289 <| fc "corner_at" EX m2 269 107 108 292 40 2 3 102 103 104 105 106 297 <| fc "corners_between" CS m2 269 122 123 312 46 3 3 119 120 0 0 121 315 <| fc "greater" F7 m1 187 83 84 261 25 2 3 78 79 80 81 82 266 <| fc "lesser" Hm m1 187 76 77 253 23 2 3 71 72 73 74 75 258 <| fc "part_of" F8 m2 269 129 130 318 48 3 3 124 125 126 127 128 327 <| fc "is_straight" DU m2 269 136 137 330 55 3 3 131 132 133 134 135 341 <| fc "tupled" Hr m2 269 88 89 271 28 1 3 85 86 0 0 87 274 <| fc "fewest" Hl m2 269 143 144 344 64 1 3 138 139 140 141 142 350 <| fc "same_flights" DH m2 269 150 151 353 70 2 3 145 146 147 148 149 358 <| fc "cut_at" Hk m3 361 179 180 420 89 2 3 176 177 0 0 178 423 <| fc "put_off" F9 m2 269 117 118 306 44 4 3 114 115 0 0 116 309 <| fc "whole" J9 m1 187 34 35 206 11 1 3 29 30 31 32 33 210 <| fc "led_round" EY m3 361 174 175 414 84 5 3 171 172 0 0 173 417 <| fc "slowed" Hq m3 361 169 170 408 79 4 3 166 167 0 0 168 411 <| fc "later" J6 m2 269 112 113 300 42 2 3 109 110 0 0 111 303 <| fc "waited" Hs m3 361 164 165 397 74 4 3 159 160 161 162 163 405 <| fc "shaped" Ho m3 361 186 187 426 94 3 3 181 182 183 184 185 438 <| fc "_law_right" Ds m0 441 341 342 648 255 4 3 336 337 338 339 340 659 <| fc "_law_tape" EV m0 441 193 194 443 106 2 3 188 189 190 191 192 450 <| fc "_law_when" EW m0 441 291 292 576 188 2 3 286 287 288 289 290 585 <| fc "law" Lc m0 441 348 349 662 269 1 3 343 344 345 346 347 672 <| [(152,⟨.type "dict",none, .dict #[eN P "east" 363 (.ref 153),eN P "west" 367 (.ref 154),eN P "north" 372 (.ref 155),eN P "south" 376 (.ref 156),eN P "up" 381 (.ref 157),eN P "down" 385 (.ref 158)] 6, #[]⟩),(153,⟨.type "tuple",none, .seq #[(.int 1 364),(.int 0 365),(.int 0 366)] 0, #[]⟩),(154,⟨.type "tuple",none, .seq #[(.int (-1) 369),(.int 0 370),(.int 0 371)] 0, #[]⟩),(155,⟨.type "tuple",none, .seq #[(.int 0 373),(.int 1 374),(.int 0 375)] 0, #[]⟩),(156,⟨.type "tuple",none, .seq #[(.int 0 377),(.int (-1) 379),(.int 0 380)] 0, #[]⟩),(157,⟨.type "tuple",none, .seq #[(.int 0 382),(.int 0 383),(.int 1 384)] 0, #[]⟩),(158,⟨.type "tuple",none, .seq #[(.int 0 386),(.int 0 387),(.int (-1) 389)] 0, #[]⟩)])
def KA:List Addr:= [3,200,201,207,208,277,278,249,250,256,257,221,222,263,264,270,271,284,285,298,299,214,215,228,229,242,243,235,236,315,316,310,311,322,323,329,330,305,306,334,335,69,70,20,21,27,28,48,49,62,63,41,42,55,56,93,94,100,101,107,108,122,123,83,84,76,77,129,130,136,137,88,89,143,144,150,151,179,180,117,118,34,35,174,175,169,170,112,113,164,165,186,187,341,342,193,194,291,292,348,349,152,153,154,155,156,157,158]
def q:Program:={PySem.Challenge.pw_skylanes_k19_shapes_keep_what_is_flown with main:={PySem.Challenge.pw_skylanes_k19_shapes_keep_what_is_flown.main with body:= [top 1,top 2,top 3,top 4,top 5,top 6,top 7,top 8,top 9,top 10,top 12,top 13,top 14,top 15,top 16,top 17,top 18,top 19,top 20,top 21,top 22,top 24,top 25,top 26,top 27,top 28,top 29,top 31,top 32,top 33,top 34,top 35,top 36,top 37,top 38,top 39,top 40,top 41,top 42,top 43,top 44,top 45,top 46,top 47,top 48,top 49,top 50,top 51,top 52,top 53,top 54] }}
end K19
open PySem PySem.W PyProof.Rows
set_option maxRecDepth 100000 in
set_option maxHeartbeats 0 in
def K19.se (w:World) (b:Bool) (s:Shared):=(topFrom treeTable PySem.Challenge.pw_skylanes_k19_shapes_keep_what_is_flown (w.withFollow "special-get-raises" b) 6000 s).map (λs=>(openSeen K19.q ["WAYS"] (importedModules (PySem.Challenge.pw_skylanes_k19_shapes_keep_what_is_flown).main.body) (λs=>xlAt K19.q [] s&&recOk [] s) true s,K19.KA.map s.heap.get?))
def K19.go (w:World) (b:Bool):=some (openGood K19.q ["WAYS"],(K19.KK (w.withFollow "special-get-raises" b).params).map λp=>some p.2)
set_option maxRecDepth 100000 in
set_option maxHeartbeats 0 in
theorem K19.lf_false:∀w:World,(fencedOpening treeTable PySem.Challenge.pw_skylanes_k19_shapes_keep_what_is_flown w 6000).map (K19.se w false)=some (K19.go w false):=by
 intro w;kernel_rfl
set_option maxRecDepth 100000 in
set_option maxHeartbeats 0 in
theorem K19.lf_true:∀w:World,(fencedOpening treeTable PySem.Challenge.pw_skylanes_k19_shapes_keep_what_is_flown w 6000).map (K19.se w true)=some (K19.go w true):=by
 intro w;kernel_rfl
theorem K19.lg:LeftO PySem.Challenge.pw_skylanes_k19_shapes_keep_what_is_flown K19.q ["WAYS"] (λs=>xlAt K19.q [] s&&recOk [] s) (λs=>K19.KA.map s.heap.get?) (λw=>(K19.KK w.params).map λp=>some p.2) 6000:=LeftO.of_split "special-get-raises" λw=>PL.map_pair (K19.lf_false w) (K19.lf_true w)
set_option maxRecDepth 100000 in
set_option maxHeartbeats 0 in
theorem PySem.Challenge.cw_skylanes_k19_shapes_keep_what_is_flown_holds : PySem.Challenge.rw_skylanes_k19_shapes_keep_what_is_flown.Holds := by
 w_on;o_law
 refine PySem.W.holds_open (q:=K19.q) (loose:= ["WAYS"]) (Xt:=λs=>xlAt K19.q [] s&&recOk [] s) (XP:=XL K19.q []) (YP:=InK K19.KK) (N:=6000) K19.lg (InK.of (as:=K19.KA) λ_=>by kernel_rfl) InK.keeps (λs e=>xl_of s (Bool.and_eq_true_iff.mp e).1) XL.keeps (by rfl) (by rfl) (by rfl) (λs e=>recFacts_of (Bool.and_eq_true_iff.mp e).2) (by rfl) (by first | assumption|decide +kernel) (by decide +kernel) ⟨rfl,rfl,rfl,rfl,rfl,by decide +kernel⟩ ?hw ?hc
 (case hw=>w_witness2)
 case hc=>
 refine K19.walk (l:=PySem.Challenge.rw_skylanes_k19_shapes_keep_what_is_flown) (K:=K19.KK) rfl rfl (λw h Y=>Y) ?F
 intro w mg fa h KX G cM
 refine' K19.all_mk KX G cM (K19.atK K19.m0 441 200 201) (K19.atK K19.m0 441 207 208) (K19.atK K19.m0 441 277 278) (K19.atK K19.m0 441 249 250) (K19.atK K19.m0 441 256 257) (K19.atK K19.m0 441 221 222) (K19.atK K19.m0 441 263 264) (K19.atK K19.m0 441 270 271) (K19.atK K19.m0 441 284 285) (K19.atK K19.m0 441 298 299) (K19.atK K19.m0 441 214 215) (K19.atK K19.m0 441 228 229) (K19.atK K19.m0 441 242 243) (K19.atK K19.m0 441 235 236) (K19.atK K19.m0 441 315 316) (K19.atK K19.m0 441 310 311) (K19.atK K19.m0 441 322 323) (K19.atK K19.m0 441 329 330) (K19.atK K19.m0 441 305 306) (K19.atK K19.m0 441 334 335) (K19.atK K19.m1 187 69 70) (K19.atK K19.m1 187 20 21) (K19.atK K19.m1 187 27 28) (K19.atK K19.m1 187 48 49) (K19.atK K19.m1 187 62 63) (K19.atK K19.m1 187 41 42) (K19.atK K19.m1 187 55 56) (K19.atK K19.m2 269 93 94) (K19.atK K19.m2 269 100 101) (K19.atK K19.m2 269 107 108) (K19.atK K19.m2 269 122 123) (K19.atK K19.m1 187 83 84) (K19.atK K19.m1 187 76 77) (K19.atK K19.m2 269 129 130) (K19.atK K19.m2 269 136 137) (K19.atK K19.m2 269 88 89) (K19.atK K19.m2 269 143 144) (K19.atK K19.m2 269 150 151) (K19.atK K19.m3 361 179 180) (K19.atK K19.m2 269 117 118) (K19.atK K19.m1 187 34 35) (K19.atK K19.m3 361 174 175) (K19.atK K19.m3 361 169 170) (K19.atK K19.m2 269 112 113) (K19.atK K19.m3 361 164 165) (K19.atK K19.m3 361 186 187) (K19.atK K19.m0 441 341 342) (K19.atK K19.m0 441 193 194) (K19.atK K19.m0 441 291 292) (K19.atK K19.m0 441 348 349) (by kernel_rfl) (by kernel_rfl) (by kernel_rfl) (by kernel_rfl) (by kernel_rfl) (by kernel_rfl) (by kernel_rfl) ?a_WAYS ?l_WAYS ?kk_WAYS ?n_WAYS0 ?h_wWAYS0_1 ?n_WAYS1 ?h_wWAYS1_5 ?n_WAYS2 ?h_wWAYS2_9 ?n_WAYS3 ?h_wWAYS3_13 ?n_WAYS4 ?h_wWAYS4_17 ?n_WAYS5 ?h_wWAYS5_21 (wWAYS0_1:=153) (wWAYS0_1n:=0) (wWAYS0_1d:=none) (wWAYS0_1s:= #[]) (wWAYS0_2:=364) (wWAYS0_3:=365) (wWAYS0_4:=366) (wWAYS1_5:=154) (wWAYS1_5n:=0) (wWAYS1_5d:=none) (wWAYS1_5s:= #[]) (wWAYS1_6:=369) (wWAYS1_7:=370) (wWAYS1_8:=371) (wWAYS2_9:=155) (wWAYS2_9n:=0) (wWAYS2_9d:=none) (wWAYS2_9s:= #[]) (wWAYS2_10:=373) (wWAYS2_11:=374) (wWAYS2_12:=375) (wWAYS3_13:=156) (wWAYS3_13n:=0) (wWAYS3_13d:=none) (wWAYS3_13s:= #[]) (wWAYS3_14:=377) (wWAYS3_15:=379) (wWAYS3_16:=380) (wWAYS4_17:=157) (wWAYS4_17n:=0) (wWAYS4_17d:=none) (wWAYS4_17s:= #[]) (wWAYS4_18:=382) (wWAYS4_19:=383) (wWAYS4_20:=384) (wWAYS5_21:=158) (wWAYS5_21n:=0) (wWAYS5_21d:=none) (wWAYS5_21s:= #[]) (wWAYS5_22:=386) (wWAYS5_23:=387) (wWAYS5_24:=389) (d_WAYS:=152) (n_WAYS:=6) (e_WAYS:= #[K19.eN w.params "east" 363 (.ref 153),K19.eN w.params "west" 367 (.ref 154),K19.eN w.params "north" 372 (.ref 155),K19.eN w.params "south" 376 (.ref 156),K19.eN w.params "up" 381 (.ref 157),K19.eN w.params "down" 385 (.ref 158)])
 (case a_WAYS=>kernel_rfl)
 (case l_WAYS=>kernel_rfl)
 (case kk_WAYS=>repeat (first | exact trivial|refine ⟨⟨_,_,rfl,rfl⟩, ?_⟩))
 (case n_WAYS0=>kernel_rfl)
 (case h_wWAYS0_1=>kernel_rfl)
 (case n_WAYS1=>kernel_rfl)
 (case h_wWAYS1_5=>kernel_rfl)
 (case n_WAYS2=>kernel_rfl)
 (case h_wWAYS2_9=>kernel_rfl)
 (case n_WAYS3=>kernel_rfl)
 (case h_wWAYS3_13=>kernel_rfl)
 (case n_WAYS4=>kernel_rfl)
 (case h_wWAYS4_17=>kernel_rfl)
 (case n_WAYS5=>kernel_rfl)
 (case h_wWAYS5_21=>kernel_rfl)
end
