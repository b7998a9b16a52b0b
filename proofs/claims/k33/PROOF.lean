import PyProof.Rows.All
import KE.KItem
import KE.KDictList
import KE.IntBitsLaws
import PySem.Challenge.RW_skylanes_k33_without_bounds
set_option Elab.async false
set_option linter.all false
set_option maxRecDepth 100000
set_option maxHeartbeats 0
set_option compiler.extract_closed false
noncomputable section
local macro_rules|`(↑$x)=>`(by simpa using $x)
local macro_rules|`(!0)=>`(by omega)
local macro_rules|`(!1)=>`(by decide)
local macro_rules|`(!2)=>`(by simp)
local macro_rules|`(!3)=>`(by grind)
local macro_rules|`(!4)=>`(by decide +kernel)
abbrev km:=@List
abbrev kj:=PySem.Value
abbrev ki:=PySem.Shared
abbrev kf:=PySem.Addr
abbrev ke:=@Option
abbrev kd:=PySem.Expr
abbrev kc:=Bool
abbrev gn:=PySem.Program
abbrev fe:=PySem.World
abbrev Wf:=PySem.Heap
abbrev Tb:=PySem.Around
abbrev AAI:=@PySem.wpAny_bind
abbrev AAJ:=PySem.W.Frag
abbrev AAK:=@PySem.wpAny_pure
abbrev AAL:=@if_neg
abbrev AAM:=@if_pos
abbrev AAN:=@PySem.Heap.lt_size
abbrev AAO:=@List.mem_cons
abbrev AAP:=@PySem.Heap.get?_push_of_some
abbrev AAQ:=@Nat.ne_of_lt
abbrev AAR:=@Nat.le_refl
abbrev AAS:=@List.mem_map
abbrev AAT:=@List.length_map
abbrev AAU:=@List.pairwise_cons
abbrev AAV:=@PySem.Heap.get?_push_size
abbrev AAW:=@List.map_cons
abbrev AAX:=@List.mem_append
abbrev AAY:=@Bool.false_ne_true
abbrev AAe:=@PySem.PassesOwn.never
abbrev AAf:=@Nat.lt_of_lt_of_le
abbrev AAg:=@Nat.le_trans
abbrev AAh:=@List.size_toArray
abbrev AAi:=@List.getElem?_eq_getElem
abbrev AAj:=@List.mem_append_right
abbrev AAk:=@List.length_cons
abbrev AAl:=@decide_eq_true
abbrev AAm:=@PySem.wpAny_field
abbrev AAn:=@if_false
abbrev AAo:=@decide_eq_false
abbrev AAp:=@PySem.wpAny_holding
abbrev AAq:=@Nat.lt_of_le_of_lt
abbrev AAr:=@List.mem_filter
abbrev AAs:=@List.getElem?_set_ne
abbrev AAt:=@Option.some.inj
abbrev AAu:=@List.getElem?_map
abbrev AAv:=@List.map_append
abbrev AAw:=@List.mem_singleton
abbrev AAx:=@Nat.ne_of_gt
abbrev AA4:=@Bool.false_eq_true
abbrev AA5:=@PySem.wpAny_seqItems
abbrev AA6:=@Ne.symm
abbrev AA7:=@Bool.and_eq_true
abbrev AA8:=@List.not_mem_nil
abbrev ABA:=@or_false
abbrev AB7:=@PySem.wpAny_call_entry
abbrev AB8:=@List.getElem?_eq_some_iff
abbrev AB9:=@PySem.wpAny_newObj_type
abbrev ACA:=@PySem.Heap.size_push
abbrev ACB:=@Nat.zero_le
abbrev ACC:=@Nat.le_of_ble_eq_true
abbrev ACD:=@Int.natAbs_natCast
abbrev ACE:=@PySem.wpAny_mono
abbrev ACF:=@PySem.wpAny_standAt
abbrev ACG:=@List.length_append
abbrev ACH:=@of_decide_eq_true
abbrev ACI:=@PySem.F.slot_list_append
abbrev ACJ:=@PySem.F.type_list_append
abbrev ACK:=@PySem.wpAny_rule
abbrev ACL:=@if_true
abbrev ACN:=@List.mem_of_getElem?
abbrev ACO:=@Nat.mul_pos
abbrev ACP:=@Nat.le_add_right
abbrev ACQ:=@List.foldl_cons
abbrev ACR:=@List.mem_flatMap
abbrev ACS:=@Rat.intCast_lt_intCast
abbrev ACT:=@PySem.W.mg_none_of
abbrev ACU:=@List.getElem?_append_right
abbrev ACV:=@PySem.wpAny_setField_rec
abbrev ACW:=@Int.natAbs_mul
abbrev ACX:=@Rat.num_divInt_den
abbrev ACY:=@List.length_filter_le
abbrev ACZ:=@Nat.mul_assoc
abbrev ACa:=@PyProof.Rows.boot_tuple
abbrev ACb:=@Bool.not_true
abbrev ACc:=@List.mem_cons_of_mem
abbrev ACd:=@Nat.lt_irrefl
abbrev ACe:=@PySem.wpAny_callSpecial?_slot
abbrev ACf:=@List.nil_append
abbrev ACg:=@PySem.boot_len
abbrev ACh:=@List.getElem?_append_left
abbrev ACi:=@List.length_replicate
abbrev ACj:=@PySem.Heap.get?_update_self
abbrev ACk:=@Int.fdiv_eq_ediv_of_nonneg
abbrev ACl:=@Int.natAbs_neg
abbrev ACm:=@of_decide_eq_false
abbrev ACo:=@List.sum_cons
abbrev ACq:=@List.filter_cons
abbrev ACr:=@PySem.wpAny_setState_of
abbrev ACu:=@Nat.mul_le_mul_left
abbrev ACv:=@Rat.intCast_mul
abbrev ACy:=@Nat.mul_comm
abbrev AC4:=@PySem.wpAny_specialOf
abbrev AC5:=@Array.length_toList
abbrev AC6:=@PySem.wpAny_isInstance
abbrev AC7:=@PySem.codeAny_mono
abbrev AC8:=@List.getElem?_replicate
abbrev AC9:=@List.forIn_cons
abbrev ADA:=@List.take_of_length_le
abbrev ADB:=@PySem.wpAny_of_eq
abbrev ADC:=@PySem.wpAny_onRaise
abbrev ADD:=@PySem.F.slot_zip_next
abbrev ADE:=@decide_eq_true_eq
abbrev ADF:=@List.map_map
abbrev ADG:=@List.map_congr_left
abbrev ADH:=@Nat.div_le_self
abbrev ADI:=@Int.natCast_ediv
abbrev ADJ:=@List.find?_cons
abbrev ADK:=@List.any_cons
abbrev ADL:=@Option.map_eq_some_iff
abbrev ADM:=@List.foldl_append
abbrev ADN:=@List.mem_of_getLast?
abbrev ADO:=@List.any_eq_true
abbrev ADQ:=@Nat.mul_le_mul
abbrev ADR:=@Int.mul_pos
abbrev ADS:=@PySem.W.mg_of
abbrev ADT:=@PySem.wpAny_truthy_bool
abbrev ADU:=@List.mem_cons_self
abbrev ADV:=@PySem.wpAny_passesOwn
abbrev ADW:=@Int.mul_one
abbrev ADX:=@Bool.eq_iff_iff
abbrev ADY:=@PySem.wpAny_letGo
abbrev ADZ:=@Rat.div_def
abbrev ADa:=@Nat.gcd_pos_of_pos_right
abbrev ADb:=@Nat.gcd_dvd_right
abbrev ADc:=@Nat.le_of_dvd
abbrev ADd:=@Rat.intCast_natCast
abbrev ADe:=@Rat.intCast_zero
abbrev ADf:=@Rat.div_lt_iff
abbrev ADg:=@List.mem_range
abbrev ADh:=@List.getElem?_set_self
abbrev ADi:=@PyProof.Rows.callWith_type1
abbrev ADj:=@Int.toNat_natCast
abbrev ADk:=@PyProof.Rows.slot_tuple_getitem
abbrev ADr:=@List.forIn_nil
abbrev ADs:=@PySem.wpAny_attempt
abbrev ADt:=@List.drop_eq_getElem_cons
abbrev ADu:=@Nat.gcd_comm
abbrev ADv:=@Nat.succ_mul
abbrev AEH:=@Bool.true_and
abbrev AEI:=@Bool.or_eq_true
abbrev AEJ:=@Rat.divInt_eq_div
abbrev AEK:=@Rat.mul_pos
abbrev AEL:=@Rat.mul_pos_iff_of_pos_left
abbrev AEM:=@Rat.mul_eq_zero
abbrev AEN:=@Rat.intCast_sub
abbrev AEO:=@Nat.mul_le_mul_right
abbrev AEP:=@beq_eq_false_iff_ne
abbrev AEQ:=@PySem.Paired.length
abbrev AER:=@Nat.le_of_lt
abbrev AES:=@PySem.sizeLine_eq
abbrev AET:=@PySem.Calls.spliced_cons
abbrev AEU:=@List.append_nil
abbrev AEV:=@PySem.wpAny_call
abbrev AEW:=@PySem.mem_of_lookup
abbrev AEX:=@Prod.ext
abbrev AEY:=@PySem.wpAny_typeOf
abbrev AEZ:=@PySem.Heap.get?_update_other
abbrev AEa:=@PySem.Calls.callWith_builtin
abbrev AEb:=@List.map_nil
abbrev AEc:=@Nat.lt_trans
abbrev AEd:=@PySem.Heap.SameBut.update
abbrev AEe:=@List.drop_eq_nil_of_le
abbrev AEf:=@Nat.pow_add
abbrev AEg:=@decide_eq_decide
abbrev AEh:=@Int.natCast_mul
abbrev AEi:=@List.getElem?_drop
abbrev AEj:=@List.getLast?_cons_cons
abbrev AEk:=@List.length_nil
abbrev AEl:=@Option.isSome_map
abbrev AEm:=@PySem.call_meetsIn
abbrev AEn:=@PySem.F.slot_dict_get
abbrev AEo:=@PySem.F.slot_dict_keyiterator_next
abbrev AEp:=@PySem.wpAny_askSetting
abbrev AEq:=@PySem.F.called_set
abbrev AEr:=@Rat.intCast_neg
abbrev AEs:=@Bool.eq_false_iff
abbrev AEt:=@Int.emod_nonneg
abbrev AEu:=@Int.emod_lt_of_pos
abbrev AEv:=@PySem.F.slot_tuple_hash
abbrev AEw:=@Array.forIn_toList
abbrev AEx:=@PySem.wpAny_forIn_list
abbrev AEy:=@PySem.F.slot_tuple_eq
abbrev AEz:=@PySem.wpAny_execs_nil
abbrev AE0:=@List.nodup_cons
abbrev AE1:=@List.reverse_cons
abbrev AE2:=@PySem.codeAny_loop
abbrev AE3:=@PySem.wpAny_noted
abbrev AE4:=@PySem.wpAny_comprehension_free
abbrev AE5:=@PySem.F.slot_tuple_iterator_next
abbrev AE6:=@PySem.wpAny_setField
abbrev AE7:=@PySem.Obj.data_mapFields
abbrev AE8:=@List.zipIdx_cons
abbrev AE9:=@List.zipIdx_nil
abbrev AFA:=@PySem.F.entry_zip_next
abbrev AFB:=@PySem.F.args_zip_next_1
abbrev AFC:=@PySem.wpAny_pyIter_zip
abbrev AFD:=@List.all_eq_true
abbrev AFE:=@List.getElem?_set
abbrev AFF:=@Rat.num_divInt
abbrev AFG:=@Rat.divInt_eq_divInt_iff
abbrev AFH:=@Int.mul_comm
abbrev AFI:=@Int.mul_assoc
abbrev AFJ:=@List.set_cons_succ
abbrev AFK:=@List.getElem_mem
abbrev AFL:=@PySem.wpAny_updateSeq
abbrev AFM:=@PySem.wpAny_Call_method
abbrev AFN:=@PySem.F.plainAttrs_dict
abbrev AFO:=@PySem.wpAny_typeNameOfWhole_keyiter
abbrev AFP:=@Nat.zero_add
abbrev AFQ:=@PySem.Heap.get?_update_ne
abbrev AFR:=@List.getLast?_eq_some_getLast
abbrev AFS:=@decide_eq_true_iff
abbrev AFT:=@Int.le_refl
abbrev AFU:=@List.any_eq_false
abbrev AFV:=@Rat.intCast_inj
abbrev AFW:=@Rat.le_refl
abbrev AFX:=@Rat.intCast_le_intCast
abbrev AFY:=@Rat.not_lt
abbrev AFZ:=@decide_eq_false_iff_not
abbrev AFa:=@List.length_flatMap
abbrev AFb:=@Nat.mul_lt_mul''
abbrev AFc:=@PySem.wpAny_tupleItemsOf
abbrev AFd:=@Nat.add_assoc
abbrev AFe:=@PySem.isSubtype_tuple_tuple
abbrev AFf:=@Bool.not_false
abbrev AFg:=@List.filterMap_cons
abbrev AFh:=@PySem.wpAny_assign_Name
abbrev AFi:=@Int.fmod_eq_emod_of_nonneg
abbrev AFj:=@PySem.Calls.spliced_nil
abbrev AFk:=@PySem.wpAny_Call_Name_kw
abbrev AFl:=@List.of_mem_zip
abbrev AFm:=@List.length_take
abbrev AFn:=@PySem.noFill_tuple_add
abbrev AFo:=@PySem.F.slot_tuple_add
abbrev AFp:=@PySem.F.entry_tuple_add
abbrev AFq:=@PySem.F.args_tuple_add_2
abbrev AFr:=@PySem.Calls.evalArgs_plain
abbrev AFs:=@PySem.wpAny_newFunctionEnv
abbrev AFt:=@PySem.wpAny_updateSeq_pair
abbrev AFu:=@PySem.wpAny_pyIter_list
abbrev AFv:=@List.take_succ_cons
abbrev AFw:=@Nat.pow_succ
abbrev AFx:=@Rat.den_divInt
abbrev AFy:=@Rat.divInt_add_divInt
abbrev AFz:=@Rat.divInt_mul_divInt
abbrev AF0:=@Int.sign_eq_one_of_pos
abbrev AF1:=@List.map_take
abbrev AF2:=@List.cons_append
abbrev AF3:=@PySem.tupleKind_room_in1
abbrev AF4:=@PySem.F.entry_dict_get
abbrev AF5:=@PySem.F.args_dict_get_3
abbrev AF6:=@PySem.wpAny_dictEntries
abbrev AF7:=@PySem.wpAny_dictEpoch
abbrev AF8:=@Option.bind_eq_some_iff
abbrev AF9:=@PySem.codeAny_builtin
abbrev AGA:=@PySem.F.slot_set_init
abbrev AGB:=@Prod.mk.injEq
abbrev AGC:=@List.flatMap_cons
abbrev AGD:=@List.length_eq_zero_iff
abbrev AGE:=@List.dropLast_concat_getLast
abbrev AGF:=@List.getElem?_zip_eq_some
abbrev AGG:=@List.getElem?_tail
abbrev AGH:=@Rat.div_mul_cancel
abbrev AGI:=@Rat.lt_div_iff
abbrev AGJ:=@Rat.mul_le_mul_of_nonneg_left
abbrev AGK:=@List.set_cons_zero
abbrev AGL:=@Int.lt_trichotomy
abbrev AGM:=@Nat.two_pow_pos
abbrev AGN:=@Rat.natCast_mul
abbrev AGO:=@PySem.W.cellsFrom_some
abbrev AGP:=@PyProof.noPylong_of_log2
abbrev AGQ:=@PySem.F.entry_tuple_iterator_next
abbrev AGR:=@PySem.F.args_tuple_iterator_next_1
abbrev AGS:=@Int.gcd_eq_natAbs_gcd_natAbs
abbrev AGT:=@Int.fdiv_eq_ediv_of_dvd
abbrev AGU:=@Int.sign_eq_neg_one_of_neg
abbrev AGV:=@List.pairwise_singleton
abbrev AGW:=@List.getLast?_eq_getElem?
abbrev AGX:=@List.pairwise_iff_getElem
abbrev AGY:=@PySem.F.slot_dict_getitem
abbrev AGZ:=@PySem.F.type_dict_get
abbrev AGa:=@PySem.F.entry_dict_keyiterator_next
abbrev AGb:=@PySem.F.args_dict_keyiterator_next_1
abbrev AGc:=@Array.getElem?_eq_getElem
abbrev AGd:=@PySem.F.slot_dict_itemiterator_iter
abbrev AGe:=@List.getElem?_eq_none_iff
abbrev AGf:=@PySem.F.slot_dict_items
abbrev AGg:=@PyProof.Rows.boot_set
abbrev AGh:=@PySem.F.plain_list_iadd
abbrev AGi:=@PySem.F.slot_dict_values
abbrev AGj:=@Rat.mul_lt_mul_of_pos_left
abbrev AGk:=@Rat.mul_lt_mul_of_pos_right
section
namespace L2
open PySem
noncomputable def EE (s:Stmt):Arguments:=match s with
 | .FunctionDef _ a _ _ _ _ _ _ _ _=>a
 | _=>{posonlyargs:= [],args:= [],vararg:=none,kwonlyargs:= [],kw_defaults:= [],kwarg:=none,defaults:= [] }
def CJ (s:Stmt):km Stmt:=match s with
 | .FunctionDef _ _ b _ _ _ _ _ _ _=>b
 | _=> []
noncomputable def Ar (s:Stmt):Scope:=match s with
 | .FunctionDef _ _ _ _ _ _ sc _ _ _=>sc
 | _=>{kind:= .function,names:= [],isGenerator:=false,isCoroutine:=false}
end L2
namespace K33
open PySem L2 PyProof.Rows
abbrev pwA:=PySem.Challenge.pw_skylanes_k33_without_bounds
noncomputable def top (i:Nat):Stmt:=K33.pwA.main.body.getD i (.Pass ⟨0,0,0,0⟩)
abbrev FW:Stmt:=top 69
abbrev GX:Stmt:=top 80
abbrev HS:Stmt:=top 71
abbrev LF:Stmt:=top 82
abbrev HU:Stmt:=top 70
abbrev FA:Stmt:=top 74
abbrev Io:Stmt:=top 72
abbrev FX:Stmt:=top 68
abbrev Fj:Stmt:=top 79
abbrev GY:Stmt:=top 76
abbrev HW:Stmt:=top 77
abbrev HV:Stmt:=top 78
abbrev Ip:Stmt:=top 81
abbrev OZ:Stmt:=top 8
abbrev Oa:Stmt:=top 1
abbrev YE:Stmt:=top 2
abbrev Tg:Stmt:=top 5
abbrev Iw:Stmt:=top 51
abbrev Fn:Stmt:=top 61
abbrev Iu:Stmt:=top 60
abbrev YF:Stmt:=top 4
abbrev LP:Stmt:=top 39
abbrev I0:Stmt:=top 54
abbrev YD:Stmt:=top 7
abbrev Th:Stmt:=top 6
abbrev FB:Stmt:=top 28
abbrev LQ:Stmt:=top 29
abbrev LK:Stmt:=top 62
abbrev Og:Stmt:=top 16
abbrev LH:Stmt:=top 17
abbrev Ir:Stmt:=top 20
abbrev LR:Stmt:=top 21
abbrev GZ:Stmt:=top 22
abbrev JA:Stmt:=top 23
abbrev Iq:Stmt:=top 24
abbrev HZ:Stmt:=top 57
abbrev Ha:Stmt:=top 56
abbrev LI:Stmt:=top 58
abbrev Oe:Stmt:=top 19
abbrev EV:Stmt:=top 11
abbrev Iy:Stmt:=top 15
abbrev Tj:Stmt:=top 3
abbrev FC:Stmt:=top 64
abbrev Iz:Stmt:=top 25
abbrev JE:Stmt:=top 26
abbrev Dq:Stmt:=top 63
abbrev Hs:Stmt:=top 18
abbrev LL:Stmt:=top 65
abbrev EU:Stmt:=top 52
abbrev HY:Stmt:=top 53
abbrev Hc:Stmt:=top 55
abbrev LM:Stmt:=top 66
abbrev Ob:Stmt:=top 9
abbrev HX:Stmt:=top 43
abbrev LN:Stmt:=top 44
abbrev Iv:Stmt:=top 41
abbrev LO:Stmt:=top 40
abbrev LJ:Stmt:=top 10
abbrev JB:Stmt:=top 37
abbrev Dp:Stmt:=top 30
abbrev Fk:Stmt:=top 12
abbrev Of:Stmt:=top 13
abbrev Ti:Stmt:=top 38
abbrev Od:Stmt:=top 42
abbrev Ga:Stmt:=top 32
abbrev Oc:Stmt:=top 33
abbrev LG:Stmt:=top 34
abbrev JC:Stmt:=top 35
abbrev JD:Stmt:=top 45
abbrev RD:Stmt:=top 83
def m0:String:="law_skylanes_k33_without_bounds"
def m1:String:="skylanes.fractions"
def m2:String:="skylanes.wedges"
def m3:String:="skylanes.meets"
def m4:String:="skylanes.nearness"
def m5:String:="skylanes.plans"
def m6:String:="skylanes.planes"
def m7:String:="skylanes.stretches"
noncomputable def eN (P:Params)(x:String)(i:Nat)(v:kj):DictEntry:=⟨PyData.keyHash P (Str.ofString x), .str (Str.ofString x) i,v⟩
abbrev eR (P:Params)(x:String)(i f:Nat):=eN P x i (.ref f)
noncomputable def fO (x:String)(s:Stmt)(m:String)(i c:Nat):Obj:=⟨.type "function",none, .func (PySem.W.fnOf (Str.ofString x) (Str.ofString x) (EE s) (CJ s) (Ar s) .none .none .none (.str (Str.ofString m) i) none (.ref c) .none), #[]⟩
noncomputable def fOD (t:Nat)(x:String)(s:Stmt)(m:String)(i c:Nat):Obj:=⟨.type "function",none, .func (PySem.W.fnOf (Str.ofString x) (Str.ofString x) (EE s) (CJ s) (Ar s) (.ref t) .none .none (.str (Str.ofString m) i) none (.ref c) .none), #[]⟩
noncomputable def rV:Nat->kj
 | 0=> .none
 | n+1=> .ref (n+1)
noncomputable def fc (x:String)(s:Stmt)(m:String)(a c f i l n g b d e h j u:Nat)(r:AAJ):AAJ:=
 (c,⟨.type "code",none, .fields #[.str (Str.ofString x) i, .str (Str.ofString x) (i+1), .str (Str.ofString "/claim/cut.py") (i+2), .int l 0, .int n 0, .int 0 0, .int 0 0, .int g 0,rV b, .bool true, .int 181 0,rV d, .none,rV e,rV h,rV j, .int u 0, .int l 0, .str (Str.ofString "/claim/cut.py") (u+1)], #[]⟩) ::
 (f,fO x s m a c)::r
noncomputable def fcD (t:Nat)(x:String)(s:Stmt)(m:String)(a c f i l n g b d e h j u:Nat)(r:AAJ):AAJ:=
 (c,⟨.type "code",none, .fields #[.str (Str.ofString x) i, .str (Str.ofString x) (i+1), .str (Str.ofString "/claim/cut.py") (i+2), .int l 0, .int n 0, .int 0 0, .int 0 0, .int g 0,rV b, .bool true, .int 181 0,rV d, .none,rV e,rV h,rV j, .int u 0, .int l 0, .str (Str.ofString "/claim/cut.py") (u+1)], #[]⟩) ::
 (f,fOD t x s m a c)::r
noncomputable def zH (P:Params):Obj:=⟨.type "dict",none, .dict #[eN P "__name__" 165 (.str (Str.ofString "law_skylanes_k33_without_bounds") 752),eN P "__doc__" 166 .none,eN P "__package__" 167 .none,eN P "__loader__" 168 (.builtin "__main__.__loader__#opaque"),eN P "__spec__" 169 .none,eR P "__annotations__" 170 6,eR P "__builtins__" 171 4,eN P "__file__" 173 (.str (Str.ofString "/claim/cut.py") 172),eN P "__cached__" 174 .none,eR P "common" 196 21,eR P "part" 205 28,eR P "whole" 212 35,eR P "plus" 220 42,eR P "minus" 228 49,eR P "times" 236 56,eR P "over" 244 63,eR P "before" 252 70,eR P "lesser" 260 77,eR P "greater" 268 84,eR P "shared_bottom" 278 91,eR P "count_below" 289 98,eR P "rising" 299 105,eR P "plane_of" 307 110,eR P "summed" 313 115,eR P "crossed" 322 122,eR P "without" 329 128,eR P "placed" 335 133,eR P "is_never" 343 140,eR P "turn_of" 353 147,eR P "is_tighter" 364 154,eR P "tightest" 375 161,eR P "fault_in" 386 168,eR P "range_in" 398 175,eR P "value_in" 409 182,eR P "spot_between" 417 187,eR P "spot_at" 426 194,eR P "corners_between" 432 199,eR P "steps_of" 447 206,eR P "levels" 453 211,eR P "counted" 466 218,eR P "told_set" 473 225,eR P "together" 485 232,eR P "turns" 491 237,eR P "size_of" 499 244,eR P "offs_at" 505 249,eR P "lines_of" 519 256,eR P "pieces" 525 261,eR P "moment_at" 534 268,eR P "near_in" 551 275,eR P "too_near" 557 280,eR P "NOUGHT" 562 281,eR P "ONCE" 565 282,eR P "BACK" 569 283,eR P "STRICT" 582 284,eR P "negative" 589 291,eR P "piece_between" 602 298,eR P "pieces_of" 608 303,eR P "sizes_of" 620 310,eR P "wedges_of" 637 317,eR P "time_form" 650 324,eR P "side_form" 668 331,eR P "form_of" 676 338,eR P "is_there" 686 345,eR P "is_one_time" 697 352,eR P "is_meet" 713 359,eR P "weights_by_time" 724 366,eR P "told_weights" 730 371,eR P "meet_in" 736 376,eR P "meet_of" 751 383,eR P "_law_tape" 763 390,eR P "_law_draw" 773 397,eR P "_law_part" 784 404,eR P "_law_less" 792 411,eR P "_law_sum" 800 418,eR P "_law_off" 808 425,eR P "_law_product" 816 432,eR P "_law_ratio" 824 439,eR P "_law_place" 832 446,eR P "_law_span" 840 453,eR P "_law_plan" 852 460,eR P "_law_bounds" 860 467,eR P "_law_apart" 868 474,eR P "_law_two" 874 479,eR P "_law_in" 885 486,eR P "law" 891 491] 85, #[]⟩
noncomputable def KK (P:Params):AAJ:=(3,zH P)::(fc "_law_draw" FW m0 752 396 397 764 320 2 3 391 392 393 394 395 771 <| fc "_law_apart" GX m0 752 473 474 861 377 1 3 468 469 470 471 472 866 <| fc "_law_less" HS m0 752 410 411 785 334 2 3 405 406 407 408 409 790 <| fc "_law_in" LF m0 752 485 486 875 394 2 3 480 481 482 483 484 883 <| fc "_law_part" HU m0 752 403 404 774 328 2 3 398 399 400 401 402 782 <| fc "_law_product" FA m0 752 431 432 809 340 2 3 426 427 428 429 430 814 <| fc "_law_sum" Io m0 752 417 418 793 336 2 3 412 413 414 415 416 798 <| fc "_law_tape" FX m0 752 389 390 754 314 2 3 384 385 386 387 388 761 <| fc "_law_bounds" Fj m0 752 466 467 853 372 1 3 461 462 463 464 465 858 <| fc "_law_place" GY m0 752 445 446 825 344 1 3 440 441 442 443 444 830 <| fc "_law_span" HW m0 752 452 453 833 351 1 3 447 448 449 450 451 838 <| fc "_law_plan" HV m0 752 459 460 841 356 1 3 454 455 456 457 458 850 <| fc "_law_two" Ip m0 752 478 479 869 380 1 3 475 476 0 0 477 872 <| fc "before" OZ m1 187 69 70 245 21 2 3 64 65 66 67 68 250 <| fc "common" Oa m1 187 20 21 189 2 2 3 15 16 17 18 19 194 <| fc "part" YE m1 187 27 28 197 6 2 3 22 23 24 25 26 203 <| fc "minus" Tg m1 187 48 49 221 15 2 3 43 44 45 46 47 226 <| fc "negative" Iw m2 558 290 291 583 227 1 3 285 286 287 288 289 587 <| fc "is_one_time" Fn m3 677 351 352 687 271 4 3 346 347 348 349 350 695 <| fc "is_there" Iu m3 677 344 345 679 269 2 3 339 340 341 342 343 684 <| fc "plus" YF m1 187 41 42 213 13 2 3 36 37 38 39 40 218 <| fc "size_of" LP m4 474 243 244 492 174 2 3 238 239 240 241 242 497 <| fc "sizes_of" I0 m2 558 309 310 609 238 3 3 304 305 306 307 308 618 <| fc "over" YD m1 187 62 63 237 19 2 3 57 58 59 60 61 242 <| fc "times" Th m1 187 55 56 229 17 2 3 50 51 52 53 54 234 <| fc "spot_between" FB m5 410 186 187 412 120 3 3 183 184 0 0 185 415 <| fc "spot_at" LQ m5 410 193 194 418 123 2 3 188 189 190 191 192 424 <| fc "is_meet" LK m3 677 358 359 698 274 5 3 353 354 355 356 357 711 <| fc "summed" Og m6 300 114 115 308 54 4 3 111 112 0 0 113 311 <| fc "crossed" LH m6 300 121 122 314 60 3 3 116 117 118 119 120 320 <| fc "is_never" Ir m6 300 139 140 336 77 1 3 134 135 136 137 138 341 <| fc "turn_of" LR m6 300 146 147 344 80 2 3 141 142 143 144 145 351 <| fc "is_tighter" GZ m6 300 153 154 354 84 3 3 148 149 150 151 152 362 <| fc "tightest" JA m6 300 160 161 365 92 3 3 155 156 157 158 159 373 <| fc "fault_in" Iq m6 300 167 168 376 98 2 3 162 163 164 165 166 384 <| fc "side_form" HZ m2 558 330 331 651 257 2 3 325 326 327 328 329 666 <| fc "time_form" Ha m2 558 323 324 638 253 2 3 318 319 320 321 322 648 <| fc "form_of" LI m2 558 337 338 669 266 2 3 332 333 334 335 336 674 <| fc "placed" Oe m6 300 132 133 330 71 3 3 129 130 0 0 131 333 <| fc "shared_bottom" EV m1 187 90 91 269 27 1 3 85 86 87 88 89 276 <| fc "plane_of" Iy m6 300 109 110 302 50 3 3 106 107 0 0 108 305 <| fc "whole" Tj m1 187 34 35 206 11 1 3 29 30 31 32 33 210 <| fc "told_weights" FC m3 677 370 371 725 289 1 3 367 368 0 0 369 728 <| fc "range_in" Iz m6 300 174 175 387 107 2 3 169 170 171 172 173 396 <| fc "value_in" JE m6 300 181 182 399 116 2 3 176 177 178 179 180 407 <| fc "weights_by_time" Dq m3 677 365 366 714 282 1 3 360 361 362 363 364 722 <| fcD 123 "without" Hs m6 300 127 128 324 62 3 3 124 125 0 0 126 327 <| fc "meet_in" LL m3 677 375 376 731 294 1 3 372 373 0 0 374 734 <| fc "piece_between" EU m2 558 297 298 590 229 2 3 292 293 294 295 296 600 <| fc "pieces_of" HY m2 558 302 303 603 236 1 3 299 300 0 0 301 606 <| fc "wedges_of" Hc m2 558 316 317 621 244 3 3 311 312 313 314 315 635 <| fc "meet_of" LM m3 677 382 383 737 305 3 3 377 378 379 380 381 749 <| fc "lesser" Ob m1 187 76 77 253 23 2 3 71 72 73 74 75 258 <| fc "moment_at" HX m4 474 267 268 526 200 3 3 262 263 264 265 266 532 <| fc "near_in" LN m4 474 274 275 535 202 1 3 269 270 271 272 273 549 <| fc "lines_of" Iv m4 474 255 256 506 180 2 3 250 251 252 253 254 517 <| fc "offs_at" LO m4 474 248 249 500 176 4 3 245 246 0 0 247 503 <| fc "greater" LJ m1 187 83 84 261 25 2 3 78 79 80 81 82 266 <| fc "together" JB m4 474 231 232 476 167 2 3 226 227 228 229 230 483 <| fc "corners_between" Dp m5 410 198 199 427 130 3 3 195 196 0 0 197 430 <| fc "count_below" Fk m1 187 97 98 279 32 2 3 92 93 94 95 96 287 <| fc "rising" Of m1 187 104 105 290 42 1 3 99 100 101 102 103 297 <| fc "turns" Ti m4 474 236 237 486 171 4 3 233 234 0 0 235 489 <| fc "pieces" Od m4 474 260 261 520 189 3 3 257 258 0 0 259 523 <| fc "steps_of" Ga m7 433 205 206 435 133 1 3 200 201 202 203 204 445 <| fc "levels" Oc m7 433 210 211 448 142 1 3 207 208 0 0 209 451 <| fc "counted" LG m7 433 217 218 454 152 2 3 212 213 214 215 216 464 <| fc "told_set" JC m7 433 224 225 467 164 1 3 219 220 221 222 223 471 <| fc "too_near" JD m4 474 279 280 552 220 3 3 276 277 0 0 278 555 <| fc "law" RD m0 752 490 491 886 399 1 3 487 488 0 0 489 889 <| [(284,⟨.type "tuple",none, .seq #[(.int 0 570),(.int 1 571),(.int 0 572),(.int 1 573),(.int 0 574),(.int 0 575),(.int 1 576),(.int 1 577),(.int 1 578),(.int 1 579),(.int 1 580),(.int 1 581)] 0, #[]⟩),(282,⟨.type "tuple",none, .seq #[(.int 1 563),(.int 1 564)] 0, #[]⟩),(281,⟨.type "tuple",none, .seq #[(.int 0 560),(.int 1 561)] 0, #[]⟩),(283,⟨.type "tuple",none, .seq #[(.int (-1) 567),(.int 1 568)] 0, #[]⟩),(123,⟨.type "tuple",none, .seq #[(.int 2 323)] 0, #[]⟩)])
noncomputable def KA:km kf:= [3,396,397,473,474,410,411,485,486,403,404,431,432,417,418,389,390,466,467,445,446,452,453,459,460,478,479,69,70,20,21,27,28,48,49,290,291,351,352,344,345,41,42,243,244,309,310,62,63,55,56,186,187,193,194,358,359,114,115,121,122,139,140,146,147,153,154,160,161,167,168,330,331,323,324,337,338,132,133,90,91,109,110,34,35,370,371,174,175,181,182,365,366,127,128,375,376,297,298,302,303,316,317,382,383,76,77,267,268,274,275,255,256,248,249,83,84,231,232,198,199,97,98,104,105,236,237,260,261,205,206,210,211,217,218,224,225,279,280,490,491,284,282,281,283,123]
noncomputable def q:gn:={K33.pwA with main:={K33.pwA.main with body:= [top 0,top 1,top 2,top 3,top 4,top 5,top 6,top 7,top 8,top 9,top 10,top 11,top 12,top 13,top 14,top 15,top 16,top 17,top 18,top 19,top 20,top 21,top 22,top 23,top 24,top 25,top 26,top 27,top 28,top 29,top 30,top 31,top 32,top 33,top 34,top 35,top 36,top 37,top 38,top 39,top 40,top 41,top 42,top 43,top 44,top 45,top 46,top 47,top 48,top 49,top 50,top 51,top 52,top 53,top 54,top 55,top 56,top 57,top 58,top 59,top 60,top 61,top 62,top 63,top 64,top 65,top 66,top 67,top 68,top 69,top 70,top 71,top 72,top 73,top 74,top 75,top 76,top 77,top 78,top 79,top 80,top 81,top 82,top 83] }}
end K33
open PySem PySem.W PyProof.Rows
noncomputable def K33.se (s:ki):=openSeen K33.q [] (importedModules (K33.pwA).main.body) (λs=>xlAt K33.q [] s&&recOk [] s) true s
noncomputable def K33.go:=openGood K33.q []
noncomputable def K33.rn (w:fe):=openEnds treeTable K33.pwA w 6000
def K33.l0:∀w,(K33.rn w).map (λs=>(K33.se s).1)=some (K33.go.1):=by intro w;kernel_rfl
def K33.l1:∀w,(K33.rn w).map (λs=>(K33.se s).2.1)=some (K33.go.2.1):=by intro w;kernel_rfl
def K33.l2:∀w,(K33.rn w).map (λs=>(K33.se s).2.2.1)=some (K33.go.2.2.1):=by intro w;kernel_rfl
def K33.l3:∀w,(K33.rn w).map (λs=>(K33.se s).2.2.2.1)=some (K33.go.2.2.2.1):=by intro w;kernel_rfl
def K33.l4:∀w,(K33.rn w).map (λs=>(K33.se s).2.2.2.2)=some (K33.go.2.2.2.2):=by intro w;kernel_rfl
def K33.l5:∀w,(K33.rn w).map (λs=>K33.KA.map s.heap.get?)=some ((K33.KK w.params).map λp=>some p.2):=by intro w;kernel_rfl
def K33.w1:PySem.Challenge.rw_skylanes_k33_without_bounds.wellSaid=true:=by
 kernel_rfl
def K33.w0:PySem.Challenge.rw_skylanes_k33_without_bounds.row.wellSaid=true:=by
 kernel_rfl
end
namespace PySem
open Sem (wp)
abbrev FK:=(Int×Int)×Int
section
variable {prog:gn}{w:fe}
def IV (prog:gn)(w:fe)(h:Wf)(k:FK)(a:kf):Prop:=∃o items n b u,h.get? a=some o/\o.cls= .type "tuple" /\o.data= .seq items n/\items.toList= [.ref b, .int k.2 u] /\IsTupleKey (intKind prog w) h [k.1.1,k.1.2] b
def IV.typeIs {s:ki}{k:FK}(x:IV prog w s.heap k a):s.TypeIs (.ref a) "tuple" :=let ⟨o,_,_,_,_,b,hc,_⟩:=x;⟨o,b,hc⟩
def IV.inj {y:FK}(hx:IV prog w h x a)(hy:IV prog w h y a):x=y:=by obtain⟨o,items,n,b,u,j,_,hd,hi,hk⟩:=hx;obtain⟨k,c,m,p,r,l,_,f,g,e⟩:=hy;obtain rfl:o=k:=AAt (j.symm.trans l);rw[hd] at f;injection f with h1 _;subst h1;rw[hi] at g;injection g with h1 h2;injection h1 with h1;subst h1;injection h2 with h2 _;injection h2 with h2 _;have:=hk.inj e;obtain⟨⟨s,t⟩,v⟩:=x;obtain⟨⟨y1,y2⟩,y3⟩:=y;injection this with i d;injection d with d _;simp only at h2 i d;subst h2;subst i;subst d;rfl
def IV.keeps {k:FK}{es ep}(x:IV prog w h k a)(e:h.get? d=some o)(hd:o.data= .dict es ep)(hs:Heap.SameBut d h h'):IV prog w h' k a:=by
 obtain⟨f,items,n,b,u,g,hc,c,hi,hk⟩:=x;have i:a≠d:=by rintro rfl;obtain rfl:f=o:=AAt (g.symm.trans e);rw[hd] at c;exact nomatch c
 exact⟨f,items,n,b,u,(hs.2 a i).trans g,hc,c,hi,hk.keeps e hd hs⟩
noncomputable def XB (prog:gn)(w:fe)(k:FK):Int:=reduceHash (Builtin.Tuple.tupleHashOf [tupleKeyHash (intKind prog w) [k.1.1,k.1.2],hashInt k.2])
variable {A:Tb}{E:kj->ki->Prop}{s:ki}
def MO {k:FK}{Q:Int->ki->Prop}(hu:A.units+1<cLine)(hk:IV prog w s.heap k a)(h:Q (XB prog w k) {s with toks:=s.toks+5}):wpAny (model prog w) A (pyHash (.ref a)) Q E s:=by
 have f:=hk.typeIs;obtain⟨o,items,n,b,u,i,_,hd,hi,j⟩:=hk;unfold pyHash;first | unfold pyHashByItsType|skip
 first | refine AAI (wpAny_cRoomFor_or (.inr (!0)) ?_)|skip
 refine AAI (AC4 f AEv.lookup ?_);show wpAny _ _ (if (some (Value.builtin "tuple.__hash__")==some Value.none)=true then _ else _) Q E s;rw[AAL (by rw[beq_builtin_none];exact AAY)];refine AAI (AC4 f AEv.lookup ?_);show wpAny _ _ (callSpecialIfBoundUnlessNone? (.ref a) "__hash__" _ >>= _) Q E s;refine AAI (wpAny_callSpecialIfBoundUnlessNone?_slot f AEv (AB7 AEv f F.entry_tuple_hash ?_ (F.args_tuple_hash_1 _)));show wpAny _ _ (Builtin.Tuple.tupleItemsOf (.ref a) >>= _) _ _ s;refine AAI (AFc i hd ?_);refine AAI ?_;rw[<-AEw,hi];refine AEx _
  (λrest (r:Array Int) d=>(rest= [.ref b, .int k.2 u] /\r.toList= [] /\d=s)\/(rest= [.int k.2 u] /\r.toList= [tupleKeyHash (intKind prog w) [k.1.1,k.1.2]] /\d={s with toks:=s.toks+3})\/
    (rest= [] /\r.toList= [tupleKeyHash (intKind prog w) [k.1.1,k.1.2],hashInt k.2] /\d={s with toks:=s.toks+4}))
  _ ?_ ?_ _ _ (.inl ⟨rfl,rfl,rfl⟩)
 .rintro x rest r d (⟨c,e,rfl⟩|⟨c,e,rfl⟩|⟨c,_⟩)
  .cases c;refine AAI (wpAny_pyHash_tuple (knd:=intKind prog w) (by first | exact hu|omega) j ?_);exact AAK (.inr (.inl ⟨rfl,by simp[e],rfl⟩))
  .cases c;refine AAI (wpAny_pyHash_int ?_);exact AAK (.inr (.inr ⟨rfl,by simp[e],by simp[AFd]⟩))
  .cases c
 .rintro r d (⟨c,_⟩|⟨c,_⟩|⟨_,e,rfl⟩)
  .cases c
  .cases c
  .show wpAny _ _ (retInt (Builtin.Tuple.tupleHashOf r.toList)) _ _ _;rw[e];refine wpAny_ret_mkInt ?_;show wpAny _ _ (if (decide (-(2:Int)^63<=Builtin.Tuple.tupleHashOf [tupleKeyHash (intKind prog w) [k.1.1,k.1.2],hashInt k.2])&&decide (Builtin.Tuple.tupleHashOf [tupleKeyHash (intKind prog w) [k.1.1,k.1.2],hashInt k.2] < 2^63))=true then _ else _) Q E _;unfold XB reduceHash at h;by_cases g:(decide (-(2:Int)^63<=Builtin.Tuple.tupleHashOf [tupleKeyHash (intKind prog w) [k.1.1,k.1.2],hashInt k.2])&&decide (Builtin.Tuple.tupleHashOf [tupleKeyHash (intKind prog w) [k.1.1,k.1.2],hashInt k.2] < 2^63))=true
   .rw [AAM g];rw[AAM g] at h;exact AAK (by simpa[AFd] using h)
   .rw [AAL g];rw[AAL g] at h;exact AAI (ACK (AAK (by simpa[AFd] using h)))
def XC {y:FK}{P:Fin->ki->Prop}(hu:A.units<cLine)(hx:IV prog w s.heap x a)(hy:IV prog w s.heap y b)(h:P (.done (.ret (.bool (decide (x=y))))) s):wpAny (model prog w) A (Builtin.«tuple.__eq__» ⟨[.ref a, .ref b], []⟩) P E s:=by
 have l:=hy.typeIs;obtain⟨O,xs,Q,ba,G,m,_,n,e,o⟩:=hx;obtain⟨R,ys,S,I,H,p,_,hdb,f,t⟩:=hy;have J:xs.size=2:=by rw[<-AC5,e];rfl
 have K:ys.size=2:=by rw[<-AC5,f];rfl
 obtain⟨⟨g,i⟩,c⟩:=x;obtain⟨⟨y1,y2⟩,y3⟩:=y;show wpAny _ _ (isInstance (.ref b) (.type "tuple") >>= _) _ _ s;refine AAI (AC6 l AFe ?_);simp only[ACb,AA4,AAn];refine AAI (AFc m n ?_);refine AAI (AFc p hdb ?_);refine AAI ?_;rw[e,f];refine AEx _
  (λrest r j=>r.1=none/\j=s/\(rest= [(.ref ba, .ref I),(.int c G, .int y3 H)] \/(rest= [(.int c G, .int y3 H)] /\g=y1/\i=y2)\/(rest= [] /\g=y1/\i=y2/\c=y3)))
  _ ?_ ?_ _ _ ⟨rfl,rfl, .inl rfl⟩
 .rintro ⟨u,v⟩ rest r j ⟨B,rfl,(hz|⟨hz,C,D⟩|⟨hz,_⟩)⟩
  .cases hz;refine AAI (wpAny_eqBool_tuple (knd:=intKind prog w) (by first | exact hu|omega) o t ?_);by_cases hk:g=y1/\i=y2
   .rw [AAl (by rw[hk.1,hk.2])];simp only[ACb,AA4,AAn];exact AAK ⟨rfl,rfl, .inr (.inl ⟨by first | trivial|rfl,hk⟩)⟩
   .rw [AAo (by intro z;injection z with k d;injection d with d _;exact hk ⟨k,d⟩)];simp only[AFf,ACL];have F:decide ((((g,i),c):FK)=((y1,y2),y3))=false:=by apply AAo;intro z;injection z with k d;injection k with L M;exact hk ⟨L,M⟩
    rw[F] at h;exact AAI (AAK (AAK (AAK h)))
  .cases hz;refine AAI (wpAny_eqBool_int ?_);by_cases hk:c=y3
   .rw [show (c==y3)=true by simp[hk]];simp only[ACb,AA4,AAn];exact AAK ⟨rfl,rfl, .inr (.inr ⟨by first | trivial|rfl,C,D,hk⟩)⟩
   .rw [show (c==y3)=false by simp[hk]];simp only[AFf,ACL];have F:decide ((((g,i),c):FK)=((y1,y2),y3))=false:=by apply AAo;intro z;injection z with k d;exact hk d
    rw[F] at h;exact AAI (AAK (AAK (AAK h)))
  .cases hz
 .rintro ⟨r1,r2⟩ j ⟨B,rfl,(hz|⟨hz,_⟩|⟨_,C,D,N⟩)⟩
  .cases hz
  .cases hz
  .simp only at B;subst B;refine AAK ?_;show P (.done (.ret (.bool (xs.size==ys.size)))) j;rw[J,K];rw[AAl (by rw[C,D,N])] at h;exact h
def MN {y:FK}{Q:kc->ki->Prop}(hu:A.units+1<cLine)(hx:IV prog w s.heap x a)(hy:IV prog w s.heap y b)(h:Q (decide (x=y)) s):wpAny (model prog w) A (eqBool (.ref a) (.ref b)) Q E s:=by
 unfold eqBool;try with_reducible refine AAp ?_
 show wpAny _ _ (if (Value.ref a==Value.ref b)=true then _ else _) Q E s;by_cases c:(Value.ref a==Value.ref b)=true
 .rw [AAM c];have e:a=b:=by have:=eq_of_beq c;injection this
  subst e;obtain rfl:=hx.inj hy;exact AAI (ACK (AAK (↑h)))
 .rw [AAL c];exact AAI (wpAny_richCompare_same_room (op:= .Eq) hx.typeIs hy.typeIs AEy
   (AB7 AEy hx.typeIs F.entry_tuple_eq (XC (by first | exact hu|omega) hx hy ⟨_,rfl,(λe=>nomatch e),ADT h⟩) (F.args_tuple_eq_2 _ _)) (!0))
def Gf {K:Type}[DecidableEq K]{knd:KeyKind prog w K}{g:km K}{a:kf}{Q:kc->ki->Prop}(m:Nat)(hk:IsTupleKey knd s.heap g a)(h:Q true s):wpAny (model prog w) A (eqIsQuiet (m+1) (.ref a)) Q E s:=by
 have e:=hk.typeIs;obtain⟨o,items,n,i,_,hd,hi⟩:=hk;unfold eqIsQuiet;refine AAI (AC4 e AEy.lookup ?_);show wpAny _ _ (isInstance (.ref a) (.type "tuple") >>= _) _ _ s;refine AAI (AC6 e AFe ?_);simp only[ACb,AA4,AAn];refine AAI (AA5 i hd ?_);refine AAI ?_;show wpAny _ _ (forIn items _ _) _ _ s;rw[<-AEw];refine AEx _ (λrest r b=>r.1=none/\b=s/\∀v∈rest,carriedByValue v=true) _ ?_ ?_ _ _ ⟨rfl,rfl,hi.byValue⟩
 .rintro v rest r b ⟨c,rfl,f⟩;rw[eqIsQuiet_byValue _ (f v ADU)];refine AAI (AAK ?_);simp only[ACb,AA4,AAn];exact AAK ⟨rfl,rfl,λu d=>f u (ACc _ d)⟩
 .rintro ⟨r1,r2⟩ b ⟨c,rfl,_⟩;simp only at c;subst c;exact AAK h
def JI {k:FK}{Q:kc->ki->Prop}(hk:IV prog w s.heap k a)(h:Q true s):wpAny (model prog w) A (eqIsQuiet 8 (.ref a)) Q E s:=by
 have e:=hk.typeIs;obtain⟨o,items,n,b,u,f,_,hd,hi,g⟩:=hk;unfold eqIsQuiet;refine AAI (AC4 e AEy.lookup ?_);show wpAny _ _ (isInstance (.ref a) (.type "tuple") >>= _) _ _ s;refine AAI (AC6 e AFe ?_);simp only[ACb,AA4,AAn];refine AAI (AA5 f hd ?_);refine AAI ?_;show wpAny _ _ (forIn items _ _) _ _ s;rw[<-AEw,hi];refine AEx _ (λrest r c=>r.1=none/\c=s/\(rest= [.ref b, .int k.2 u] \/rest= [.int k.2 u] \/rest= [])) _ ?_ ?_ _ _ ⟨rfl,rfl, .inl rfl⟩
 .rintro v rest r c ⟨d,rfl,(hz|hz|hz)⟩
  .cases hz;refine AAI (Gf (knd:=intKind prog w) 6 g ?_);simp only[ACb,AA4,AAn];exact AAK ⟨rfl,rfl, .inr (.inl (by first | trivial|rfl))⟩
  .cases hz;rw[eqIsQuiet_byValue _ rfl];refine AAI (AAK ?_);simp only[ACb,AA4,AAn];exact AAK ⟨rfl,rfl, .inr (.inr (by first | trivial|rfl))⟩
  .cases hz
 .rintro ⟨r1,r2⟩ c ⟨d,rfl,_⟩;simp only at d;subst d;exact AAK h
end
noncomputable def fkKind (prog:gn)(w:fe):HeapKind prog w FK where
 is:=IV prog w
 hash:=XB prog w
 draws:=λ_=>5
 room:=λA=>A.units+1<cLine
 inj:=λhx hy=>hx.inj hy
 keeps:=λx a hd hs=>x.keeps a hd hs
 pyHash:=λhu hk h=>MO hu hk h
 eqBool:=λhu hx hy h=>MN hu hx hy h
 quiet:=λhk h=>JI hk h
def DM {prog:gn}{A:Tb}(h:A.units+2<cLine):(fkKind prog w).room A.in1:=by show A.units+1+1<cLine;omega
end PySem
namespace L2
open PySem PySem.Spec PyProof.Rows
abbrev CD:=Sum Int Str
noncomputable def Q1:CD->kj->kc
 | .inl k,v=>Value.isInt k v
 | .inr x,v=>Value.isStrOf x v
noncomputable def yj (w:fe):CD->Int
 | .inl k=>hashInt k
 | .inr x=>hashStr w x
def BQ:∀{k:CD} {v:kj},Q1 k v=true->(∃i t,k=Sum.inl i/\v=Value.int i t)\/(∃x t,k=Sum.inr x/\v=Value.str x t)
 | .inl i,v,h=>by obtain⟨t,e⟩:=Value.isInt_shape (k:=i) (v:=v) h;exact .inl ⟨i,t,rfl,e⟩
 | .inr x,v,h=>by obtain⟨t,e⟩:=Value.isStrOf_shape (x:=x) (v:=v) h;exact .inr ⟨x,t,rfl,e⟩
def bZ (i:Int)(t:Tok):Q1 (.inl i) (.int i t)=true:=by simp[Q1,Value.isInt]
def bf (x:Str)(t:Tok):Q1 (.inr x) (.str x t)=true:=by simp[Q1,Value.isStrOf]
def p7 (a b:Int):decide ((Sum.inl a:CD)=Sum.inl b)=(a==b):=by
 by_cases e:a=b
 .subst e;simp
 .have h:¬(Sum.inl a:CD)=Sum.inl b:=λq=>e (Sum.inl.inj q);rw[AAo h];exact(AEP.mpr e).symm
def qA (a b:Str):decide ((Sum.inr a:CD)=Sum.inr b)=decide (a=b):=by
 by_cases e:a=b
 .subst e;simp
 .have h:¬(Sum.inr a:CD)=Sum.inr b:=λq=>e (Sum.inr.inj q);rw[AAo h,AAo e]
def p8 (a:Int)(b:Str):decide ((Sum.inl a:CD)=Sum.inr b)=false:=AAo (λq=>nomatch q)
def p9 (a:Str)(b:Int):decide ((Sum.inr a:CD)=Sum.inl b)=false:=AAo (λq=>nomatch q)
noncomputable def Ax (prog:gn)(w:fe):PySem.KeyKind prog w CD where
 is:=Q1
 hash:=yj w
 inj:=λv a b ha hb=>by
  rcases BQ ha with⟨i,t,rfl,rfl⟩|⟨x,t,rfl,rfl⟩
  .rcases BQ hb with⟨j,u,rfl,e⟩|⟨y,u,rfl,e⟩
   .injection e with c _;rw[c]
   .exact nomatch e
  .rcases BQ hb with⟨j,u,rfl,e⟩|⟨y,u,rfl,e⟩
   .exact nomatch e
   .injection e with c _;rw[c]
 byValue:=λk v h=>by rcases BQ h with⟨i,t,rfl,rfl⟩|⟨x,t,rfl,rfl⟩ <;> rfl
 pyHash:=λhv h=>by
  rcases BQ hv with⟨i,t,rfl,rfl⟩|⟨x,t,rfl,rfl⟩
  .exact wpAny_pyHash_int h
  .exact wpAny_pyHash_str h
 eqBool:=λhu hv h=>by
  rcases BQ hu with⟨i,t,rfl,rfl⟩|⟨x,t,rfl,rfl⟩
  .rcases BQ hv with⟨j,u,rfl,rfl⟩|⟨y,u,rfl,rfl⟩
   .rw [p7] at h;exact wpAny_eqBool_int h
   .rw [p8] at h;exact SeqAt.EqAt.int_str i t y u _ _ _ _ h
  .rcases BQ hv with⟨j,u,rfl,rfl⟩|⟨y,u,rfl,rfl⟩
   .rw [p9] at h;exact SeqAt.EqAt.str_int x t j u _ _ _ _ h
   .rw [qA] at h;exact wpAny_eqBool_str h
 «strs»:=λk x t v h=>by
  rcases BQ h with⟨i,u,rfl,e⟩|⟨y,u,rfl,e⟩
  .exact nomatch e
  .injection e with c _;subst c;cases v <;> rfl
def VW (prog:gn)(w:fe)(i:Int)(t:Tok):(Ax prog w).is (.inl i) (.int i t)=true:=bZ i t
def VX (prog:gn)(w:fe)(x:Str)(t:Tok):(Ax prog w).is (.inr x) (.str x t)=true:=bf x t
inductive V where
 | non|bl (b:Bool)|int (i:Int)|str (x:Str)|byt (b:Array UInt8)|flt (b:UInt64)|ref (a:Addr)|ty (n:String)
 deriving DecidableEq
def RelV:V->kj->Prop
 | .non,u=>u=Value.none
 | .bl b,u=>u=Value.bool b
 | .int i,u=>∃t,u=Value.int i t
 | .str x,u=>∃t,u=Value.str x t
 | .byt b,u=>∃t,u=Value.bytes b t
 | .flt b,u=>∃t,u=Value.float b t
 | .ref a,u=>u=Value.ref a
 | .ty n,u=>u=Value.type n
abbrev Au:km V->km kj->Prop:=Paired RelV
def Au.length (r:Au xs a):xs.length=a.length:=AEQ r
theorem Au.get:∀{xs:km V} {a:km kj} {i:Nat} {x:V},Au xs a->xs[i]? =some x->∃u,a[i]? =some u/\RelV x u
 | _,_,_,_, .nil,e=>by simp at e
 | _,_,0,_, .cons r _,e=>by simp at e;subst e;exact⟨_,rfl,r⟩
 | _,_,i+1,x, .cons _ t,e=>by obtain⟨u,h1,h2⟩:=Au.get (i:=i) (x:=x) t (↑e);exact⟨u,↑h1,h2⟩
theorem Au.set (r:RelV x u):∀{xs:km V} {a:km kj} (i:Nat),Au xs a->Au (xs.set i x) (a.set i u)
 | _,_,_, .nil=> .nil
 | _,_,0, .cons _ t=> .cons r t
 | _,_,i+1, .cons q t=> .cons q (Au.set r i t)
theorem Au.append:∀{xs ys:km V} {a b:km kj},Au xs a->Au ys b->Au (xs++ys) (a++b)
 | _,_,_,_, .nil,s=>s
 | _,_,_,_, .cons r t,s=> .cons r (Au.append t s)
theorem Au.take:∀{xs:km V} {a:km kj} (n:Nat),Au xs a->Au (xs.take n) (a.take n)
 | _,_,0,_=> .nil
 | _,_,_+1, .nil=> .nil
 | _,_,n+1, .cons r t=> .cons r (Au.take n t)
theorem Au.drop:∀{xs:km V} {a:km kj} (n:Nat),Au xs a->Au (xs.drop n) (a.drop n)
 | _,_,0,r=>r
 | _,_,_+1, .nil=> .nil
 | _,_,n+1, .cons _ t=>Au.drop n t
def Ja:ke V->ke kj->Prop
 | some v,some u=>RelV v u
 | none,none=>True
 | _,_=>False
def KV {a:Type}:km (a×V)->km (a×kj)->Prop:=Paired λ(p:a×V) (q:a×kj)=>p.1=q.1/\RelV p.2 q.2
noncomputable def kV:CD->V
 | .inl i=> .int i
 | .inr x=> .str x
inductive HO where
 | lst (xs:List V)
 | tup (xs:List V)
 | dK (kvs:List (CD×V))|dT (kvs:List (List CD×V))|dN (K:AAJ) (kvs:List (PySem.FK×V))
 | set (S:Int->Bool) (n:Nat)
 | ins (C dx:Addr) (fs:List (Str×V))
 | own (x:Addr)
 | xd (fs:List (Str×V))
 | met (f x:Addr)
 | rng (lo hi:Int)
 | frz (o:Obj) (u:HO)
 | tbl (ps:Array Value)
 | ext (φ:Heap->Prop)
abbrev Hp:=kf->ke HO
noncomputable def upd (H:Hp)(a:kf)(o:HO):Hp:=λb=>if b=a then some o else H b
def Ad:upd H a o a=some o:=by unfold upd;rw[AAM rfl]
def Ae {H:Hp}{a b:kf}(h:b≠a):upd H a o b=H b:=by unfold upd;rw[AAL h]
def nY {H:Hp}(h:H a=some o)(h':H b=some u)(d:o≠u):a≠b:=by intro e;subst e;rw[h] at h';exact d (AAt h')
def Al {H:Hp}(h:H a=some o)(h':H b=none):a≠b:=by intro e;subst e;rw[h] at h';cases h'
def eS (K:AAJ)(H:Hp)(b:kf)(t d:Int):Prop:=H b=some (.tup [.int t, .int d])\/∃(o:Obj) (a:Array kj) (n:Nat),K.lookup b=some o/\o.cls= .type "tuple" /\o.data= .seq a n/\Au [.int t, .int d] a.toList
def GL (K:AAJ)(H:Hp)(a:kf)(k:PySem.FK):Prop:=∃b,H a=some (.tup [.ref b, .int k.2])/\eS K H b k.1.1 k.1.2
def GL.stay {K:AAJ}{H c:Hp}{k:PySem.FK}(x:GL K H a k)(d:∀b xs,H b=some (.tup xs)->c b=some (.tup xs)):GL K c a k:=let ⟨b,h1,h2⟩:=x;⟨b,d _ _ h1,h2.elim (λz=> .inl (d _ _ z)) .inr⟩
section
variable (P:gn)(w:fe)
def Bz (H:Hp)(h:Wf)(a:kf):HO->Prop
 | .lst xs=>xs.length<=sizeLine/\∃(b:km kj) (n:Nat),Au xs b/\h.get? a=some {cls:= .type "list",data:= .seq b.toArray n}
 | .tup xs=>xs.length<=sizeLine/\∃b:km kj,Au xs b/\IsTup h a b.toArray
 | .dK kvs=>kvs.length<=sizeLine/\(a==sysModules)=false/\∃vs,KV kvs vs/\h.DictOf (Ax P w) a vs
 | .dT kvs=>kvs.length<=sizeLine/\(a==sysModules)=false/\∃xs:km (km CD×kf×kj),
     Paired (λ(p:km CD×V) (q:km CD×kf×kj)=>p.1=q.1/\H q.2.1=some (.tup (p.1.map kV))/\RelV p.2 q.2.2) kvs xs/\
     ∃o es ep,h.get? a=some o/\o.ExactDict/\o.data= .dict es ep/\es.toList=xs.map (entryOfKey (tupleKind (Ax P w)))/\(xs.map (·.1)).Nodup
 | .dN K kvs=>kvs.length<=sizeLine/\(a==sysModules)=false/\∃xs:km (PySem.FK×kf×kj),Paired (λ(p:PySem.FK×V) (q:PySem.FK×kf×kj)=>p.1=q.1/\GL K H q.2.1 p.1/\RelV p.2 q.2.2) kvs xs/\∃o es ep,h.get? a=some o/\o.ExactDict/\o.data= .dict es ep/\es.toList=xs.map (entryOfKey (PySem.fkKind P w))/\(xs.map (·.1)).Nodup
 | .set S n=>h.SetOf (intKind P w) a S n
 | .ins C e d=>H e=some (.own a)/\d.length<=1000/\e≠a/\h.get? a=some (PySem.W.instObj C e)/\
     ∃c,h.Ns1 e c/\(∀f,Ja (d.lookup f) (c f))/\PySem.Within c (d.map (·.1))
 | .own _=>∃o,h.get? a=some o
 | .xd d=>∃c,h.Ns1 a c/\∀f,Ja (d.lookup f) (c f)
 | .rng lo hi=>∃t u v,h.get? a=some {cls:= .type "range",data:= .fields #[.int lo t, .int hi u, .int 1 v] }
 | .frz o u=>h.get? a=some o/\Bz H h a u
 | .tbl ps=>h.get? a=some {cls:= .none,data:= .fields ps}
 | .met f x=>h.get? a=some (PySem.W.methodObj (.ref f) (.ref x))
 | .ext g=>g h/\(∃o,h.get? a=some o)/\∀h1 h2:Wf,g h1->(∀o,h1.get? a=some o->h2.get? a=some o)->g h2
def IU (H:Hp)(h:Wf):Prop:=∀a o,H a=some o->Bz P w H h a o
end
section
variable {P:gn}{w:fe}{H H':Hp}{h h':Wf}{a:kf}{o:HO}
def Bz.lt (x:Bz P w H h a o):a<h.objs.size:=by
 cases o with
 | lst xs=>obtain⟨_,_,_,_,e⟩:=x;exact AAN e
 | tup xs=>obtain⟨_,_,_,p⟩:=x;exact p.lt
 | dK kvs=>obtain⟨_,_,_,_,o,_,_,e,_⟩:=x;exact AAN e
 | dT kvs=>obtain⟨_,_,_,_,o,_,_,e,_⟩:=x;exact AAN e
 | dN K kvs=>obtain⟨_,_,_,_,o,_,_,e,_⟩:=x;exact AAN e
 | set S n=>obtain⟨o,_,_,_,e,_⟩:=x;exact AAN e
 | ins C c b=>obtain⟨_,_,_,e,_⟩:=x;exact AAN e
 | own y=>obtain⟨_,e⟩:=x;exact AAN e
 | xd b=>obtain⟨_,⟨_,_,_,e,_⟩,_⟩:=x;exact AAN e
 | rng lo hi=>obtain⟨_,_,_,e⟩:=x;exact AAN e
 | frz d u=>obtain⟨e,_⟩:=x;exact AAN e
 | tbl ps=>exact AAN (show h.get? a=some _ from x)
 | met f y=>exact AAN (show h.get? a=some _ from x)
 | ext g=>obtain⟨_,⟨_,e⟩,_⟩:=x;exact AAN e
theorem Paired.mapP {d e:Type}{F G:d->e->Prop}:∀{l₁:km d} {c:km e},Paired F l₁ c->(∀a b,F a b->G a b)->Paired G l₁ c
 | _,_, .nil,_=> .nil
 | _,_, .cons r t,f=> .cons (f _ _ r) (Paired.mapP t f)
def Bz.stay (x:Bz P w H h a o)(k:∀b u,(b=a\/H b=some (.own a))->h.get? b=some u->h'.get? b=some u)(s:∀b,H b=some (.own a)->H' b=some (.own a))(m:∀b xs,H b=some (.tup xs)->H' b=some (.tup xs)):Bz P w H' h' a o:=by
 induction o with
 | lst xs=>obtain⟨z,i,n,r,e⟩:=x;exact⟨z,i,n,r,k _ _ (.inl rfl) e⟩
 | tup xs=>obtain⟨z,i,r,g,e,c⟩:=x;exact⟨z,i,r,g,k _ _ (.inl rfl) e,c⟩
 | dK kvs=>obtain⟨z,y,vs,r,g,es,ep,e,c⟩:=x;exact⟨z,y,vs,r,g,es,ep,k _ _ (.inl rfl) e,c⟩
 | dT kvs=> obtain⟨z,y,xs,r,g,es,ep,e,c⟩:=x;exact⟨z,y,xs,Paired.mapP r λp q z=>⟨z.1,m _ _ z.2.1,z.2.2⟩,g,es,ep,k _ _ (.inl rfl) e,c⟩
 | dN K kvs=> obtain⟨z,y,xs,r,g,es,ep,e,c⟩:=x;exact⟨z,y,xs,Paired.mapP r λp q z=>⟨z.1,z.2.1.stay m,z.2.2⟩,g,es,ep,k _ _ (.inl rfl) e,c⟩
 | set S n=>obtain⟨g,es,ep,t,e,c⟩:=x;exact⟨g,es,ep,t,k _ _ (.inl rfl) e,c⟩
 | ins C E A=> obtain⟨d,z,B,e,j,⟨l,es,ep,D,c⟩,r⟩:=x;exact⟨s _ d,z,B,k _ _ (.inl rfl) e,j,⟨l,es,ep,k _ _ (.inr d) D,c⟩,r⟩
 | own y=>obtain⟨g,e⟩:=x;exact⟨g,k _ _ (.inl rfl) e⟩
 | xd A=>obtain⟨j,⟨l,es,ep,e,c⟩,r⟩:=x;exact⟨j,⟨l,es,ep,k _ _ (.inl rfl) e,c⟩,r⟩
 | rng lo hi=>obtain⟨t,u,v,e⟩:=x;exact⟨t,u,v,k _ _ (.inl rfl) e⟩
 | frz g u ih=>obtain⟨e,q⟩:=x;exact⟨k _ _ (.inl rfl) e,ih q⟩
 | tbl ps=> have e:h.get? a=some {cls:= .none,data:= .fields ps}:=x;show h'.get? a=some {cls:= .none,data:= .fields ps};exact k a _ (.inl rfl) e
 | met f y=> have e:h.get? a=some (PySem.W.methodObj (.ref f) (.ref y)):=x;show h'.get? a=some (PySem.W.methodObj (.ref f) (.ref y));exact k a _ (.inl rfl) e
 | ext F=>obtain⟨p,⟨o,e⟩,st⟩:=x;exact⟨st _ _ p λo q=>k _ _ (.inl rfl) q,⟨o,k _ _ (.inl rfl) e⟩,st⟩
def IU.lt (x:IU P w H h)(e:H a=some o):a<h.objs.size:=(x a o e).lt
def IU.fresh (x:IU P w H h)(e:h.objs.size<=a):H a=none:=by
 cases q:H a with
 | none=>rfl
 | some u=>exact absurd (AAf (x.lt q) e) (ACd _)
def IU.kept (x:IU P w H h)(k:∀b u,h.get? b=some u->h'.get? b=some u):IU P w H h':=λa o e=>
 (x a o e).stay (λb u _ q=>k b u q) (λ_ q=>q) λ_ _ q=>q
def IU.laid (x:IU P w H h)(k:∀b u,h.get? b=some u->h'.get? b=some u)(hp:h.objs.size<=a)(new:Bz P w (upd H a o) h' a o):IU P w (upd H a o) h':=λb u e=>by
 have d:=x.fresh hp;by_cases hb:b=a
 .subst hb;rw[Ad] at e;cases e;exact new
 .rw [Ae hb] at e;exact(x b u e).stay (λc v _ q=>k c v q) (λc q=>by rw[Ae (Al q d)];exact q) λc xs q=>by rw[Ae (Al q d)];exact q
end
def Rd (H:Hp)(a:kf)(u:HO):Prop:=H a=some u\/∃o,H a=some (.frz o u)
def Rd.ok (r:Rd H a u)(x:IU P w H h):Bz P w H h a u:=by
 rcases r with r|⟨o,r⟩
 .exact x a u r
 .obtain ⟨_,q⟩:=x a _ r;exact q
def tY:ke HO->Prop
 | some (.lst _)=>True
 | some (.dK _)=>True
 | some (.dT _)=>True
 | some (.dN _ _)=>True
 | some (.set _ _)=>True
 | some (.ins _ _ _)=>True
 | some (.ext _)=>True
 | _=>False
section
variable {P:gn}{w:fe}{H:Hp}{h h':Wf}{x e:kf}{o':HO}
def IU.write (ok:IU P w H h)(f:tY (H x))(he:e=x\/H e=some (.own x))(k:∀b u,b≠e->h.get? b=some u->h'.get? b=some u)(j:∃u,h'.get? e=some u)(new:Bz P w (upd H x o') h' x o'):IU P w (upd H x o') h':=λb u q=>by
 have a:∀c y,H c=some (.own y)->c≠x:=λc y r z=>by subst z;rw[r] at f;exact f
 have d:∀c xs,H c=some (.tup xs)->c≠x:=λc xs r z=>by subst z;rw[r] at f;exact f
 by_cases hb:b=x
 .subst hb;rw[Ad] at q;cases q;exact new
 .rw [Ae hb] at q;by_cases g:b=e
  .have i:H b=some (.own x):=by
    rcases he with z|z
    .exact absurd (g.trans z) hb
    .rw [g];exact z
   rw[q] at i;cases i;obtain⟨v,hv⟩:=j;exact⟨v,by rw[g];exact hv⟩
  .refine (ok b u q).stay (λc v hc r=>k c v ?_ r) (λc r=>by rw[Ae (a c b r)];exact r) λc xs r=>by rw[Ae (d c xs r)];exact r
   rcases hc with rfl|hc
   .exact g
   .rintro rfl;rcases he with z|z
    .exact a c b hc z
    .rw [hc] at z;cases z;exact hb rfl
end
structure Un (fs ex:List Addr) (H H':Hp) (h h':Heap):Prop where
 keep:∀b o,h.get? b=some o->H b=none->b ∉ fs->b ∉ ex->h'.get? b=some o
 slot:∀b o,h.get? b=some o->H b=none->b∈fs->b ∉ ex->∃sl,h'.get? b=some {o with slots:=sl}
 free:∀b o,h.get? b=some o->H b=none->b ∉ ex->H' b=none
 there:∀b o,h.get? b=some o->b ∉ ex->∃o',h'.get? b=some o'
 tups:∀b xs,H b=some (.tup xs)->H' b=some (.tup xs)
 frzs:∀b o u,H b=some (.frz o u)->H' b=some (.frz o u)
 tbls:∀b ps,H b=some (.tbl ps)->∃more,H' b=some (.tbl (ps++more))
section
variable {fs fs' ex ex':km kf}{H H1 H2:Hp}{h h1 h2 h':Wf}{a x e:kf}{o:HO}
def Un.any (u:Un fs ex H H1 h h1)(q:h.get? b=some c)(n:H b=none)(hx:b ∉ ex):∃sl,h1.get? b=some {c with slots:=sl}:=by
 by_cases hb:b∈fs
 .exact u.slot b c q n hb hx
 .exact ⟨c.slots,u.keep b c q n hb hx⟩
def Un.kept (k:∀b u,h.get? b=some u->h'.get? b=some u):Un fs ex H H h h':=
 ⟨λb c q _ _ _=>k b c q,λb c q _ _ _=>⟨c.slots,k b c q⟩,λ_ _ _ n _=>n,λb c q _=>⟨c,k b c q⟩,λ_ _ q=>q,λ_ _ _ q=>q,λ_ ps q=>⟨#[],by rw[q];simp⟩⟩
def Un.refl:Un fs ex H H h h:=Un.kept λ_ _ q=>q
def Un.laid (k:∀b u,h.get? b=some u->h'.get? b=some u)(hp:h.objs.size<=a)(c:H a=none):Un fs ex H (upd H a o) h h' where
 keep:=λb u q _ _ _=>k b u q
 slot:=λb u q _ _ _=>⟨u.slots,k b u q⟩
 free:=λb u q n _=>by rw[Ae (AAQ (AAf (AAN q) hp))];exact n
 there:=λb u q _=>⟨u,k b u q⟩
 tups:=λb xs q=>by rw[Ae (Al q c)];exact q
 frzs:=λb u xs q=>by rw[Ae (Al q c)];exact q
 tbls:=λb ps q=>⟨#[],by rw[Ae (Al q c),q];simp⟩
def Un.write (c:tY (H x))(he:e=x\/H e=some (.own x))(k:∀b u,b≠e->h.get? b=some u->h'.get? b=some u)(g:∃u,h'.get? e=some u):Un fs ex H (upd H x o) h h':=by
 have hx:∀b,H b=none->b≠x:=λb n z=>by subst z;rw[n] at c;exact c
 have hb:∀b,H b=none->b≠e:=λb n z=>by
  subst z;rcases he with r|r
  .exact hx b n r
  .rw [n] at r;cases r
 have d:∀b u,H b=some u->¬tY (some u)->b≠x:=λb u q i z=>by subst z;rw[q] at c;exact i c
 refine⟨λb u q n _ _=>k b u (hb b n) q,λb u q n _ _=>⟨u.slots,k b u (hb b n) q⟩,λb u q n _=>by rw[Ae (hx b n)];exact n,λb u q _=> ?_,
  λb xs q=>by rw[Ae (d b _ q λz=>z)];exact q,λb u xs q=>by rw[Ae (d b _ q λz=>z)];exact q,λb ps q=>⟨#[],by rw[Ae (d b _ q λz=>z),q];simp⟩⟩
 by_cases f:b=e
 .subst f;exact g
 .exact ⟨u,k b u f q⟩
end
noncomputable def xB (h:Wf)(H:Hp):km kf:=(List.range h.objs.size).filter λa=>(H a).isSome
def Se (h:Wf)(H:Hp):Wf:=PySem.W.hideAll h (xB h H)
def bR (h:Wf)(H:Hp):(Se h H).objs.size=h.objs.size:=PySem.W.hideAll_size _ _
def fq {h:Wf}{H:Hp}(e:h.get? b=some o)(n:H b=none):(Se h H).get? b=some o:=
 PySem.W.hideAll_get _ e λa=>by have q:(H b).isSome=true:=(AAr.mp a).2;rw[n] at q;simp at q
def kh {H:Hp}(e:(Se h H).get? b=some o):h.get? b=some o/\H b=none:=by
 have a:h.get? b=some o:=PySem.W.of_hideAll (xB h H) e;refine⟨a, ?_⟩;cases q:H b with
 | none=>rfl
 | some x=> have c:b∈xB h H:=AAr.mpr ⟨ADg.mpr (AAN a),by simp[q]⟩;have z:(Se h H).get? b=none:=PySem.W.hideAll_none (xB h H) c;rw[z] at e;cases e
noncomputable def jq (g h:Wf)(L:kf):km (kf×Obj):=(List.range h.objs.size).filterMap λa=>if a=L\/(g.get? a).isSome=true then none else (h.get? a).map λo=>(a,o)
noncomputable def rest (g h:Wf)(L d:kf):km (kf×Obj):=(jq g h L).filter λp=>decide (p.1≠d)
structure Mod (K:AAJ) (mg:Str->Option Value) (base:Heap):Prop where
 kin:K.In base
 glob:base.Ns mainGlobals mg
 blt:∃mb,base.Ns builtinsNs mb/\∀x:Str,x≠"__name__" ->mb x=bootBuiltins x
 nolimit:base.NoLimit
structure Cx where
 prog:Program
 w:World
 K:AAJ
 mg:Str->Option Value
 base:Heap
 A:Around
 N:List Str
 s₀:Shared
 H₀:Hp
 env:Env
 outer:List Env
 stack:List Env
 ex:List Addr
 fn:Str->Bool
 calm:Bool
 pn:List (Addr×Obj)
 xe:Value->Shared->Prop
noncomputable def dS (l:km Env):km kf:=l.filterMap (·.frame)
abbrev Cx.fs (X:Cx):km kf:=dS X.outer
def nK (sc:Scope)(x:Str):Prop:=sc.names.lookup x=some .local\/sc.names.lookup x=some .cell\/sc.names.lookup x=some .free
def Loc (sc:Scope)(x:Str):Prop:=sc.names.lookup x=some .local\/sc.names.lookup x=some .cell
def Look (env:Env)(h:Wf)(m:Str->ke kj)(x:Str)(u:kj):Prop:=
 (env.kindOf x=some .local/\m x=some u)\/((env.kindOf x=some .cell\/env.kindOf x=some .free)/\∃c,env.cells.lookup x=some c/\h.IsCell c (some u))
structure Cx.Ok (X:Cx):Prop where
 mod:Mod X.K X.mg X.base
 kind:X.env.scope.kind= .function
 glob:X.env.globals=mainGlobals
 blt:X.env.builtins=builtinsNs
 above:X.s₀.heap.objs.size<=X.env.locals
 inj:∀x y c,X.env.cells.lookup x=some c->X.env.cells.lookup y=some c->x=y
 has:∀x,(X.env.kindOf x=some .cell\/X.env.kindOf x=some .free)->∃c,X.env.cells.lookup x=some c
 cab:∀x c,X.fn x=true->X.env.cells.lookup x=some c->X.s₀.heap.objs.size<=c
 hd:X.calm=true->X.A.handled=none
 frames:X.A.frames=some X.stack
 stk:X.stack=X.outer\/(X.stack=X.env::X.outer/\X.env.frame=some X.env.locals)
 exf:∀b∈X.ex,b≠X.env.locals/\∀x c,X.env.cells.lookup x=some c->c≠b
 bs:∀b o,X.base.get? b=some o->X.s₀.heap.get? b=some o/\X.H₀ b=none
 bsz:X.base.objs.size<=X.s₀.heap.objs.size
 noex:∀b o,X.base.get? b=some o->b ∉ X.ex
 exfs:∀b∈X.ex,b ∉ X.fs
 funs:X.s₀.heap.FunFrames X.base X.outer
 frf:∀b∈X.fs,X.H₀ b=none
structure Inv (X:Cx) (Sr:List (Addr×Obj)) (σ:List (Option V)) (H:Hp) (s:Shared):Prop where
 ok:X.Ok
 os:s.os=X.s₀.os
 bare:AllBare s.gens
 base:Un X.fs X.ex X.H₀ H X.s₀.heap s.heap
 loc:∃m,s.heap.Ns X.env.locals m/\∀(i:Nat) (x:Str) (v:V),X.N[i]? =some x->σ[i]? =some (some v)->nK X.env.scope x->∃u,RelV v u/\Look X.env s.heap m x u
 cell:∀x c,X.env.cells.lookup x=some c->∃v,s.heap.IsCell c v
 free:H X.env.locals=none
 freeC:∀x c,X.env.cells.lookup x=some c->H c=none
 pin:∀p∈X.pn++Sr,s.heap.get? p.1=some p.2/\H p.1=none/\p.1≠X.env.locals/\p.1 ∉ X.fs/\∀v,p.2.data≠ .cell v
 hok:IU X.prog X.w H s.heap
 len:σ.length=X.N.length
section
variable {X:Cx}{Sr:km (kf×Obj)}{σ:km (ke V)}{H H':Hp}{s:ki}{h':Wf}
def Cx.Ok.nofr (ok:X.Ok)(e:X.base.get? b=some o):b ∉ X.fs:=λhb=>by have:=(ok.funs.mem hb).1;rw[e] at this;cases this
def Inv.bs (I:Inv X Sr σ H s):∀b o,X.base.get? b=some o->s.heap.get? b=some o/\H b=none:=λb o e=>
 ⟨I.base.keep b o (I.ok.bs b o e).1 (I.ok.bs b o e).2 (I.ok.nofr e) (I.ok.noex b o e),I.base.free b o (I.ok.bs b o e).1 (I.ok.bs b o e).2 (I.ok.noex b o e)⟩
def Inv.bk (I:Inv X Sr σ H s):∀b o,X.base.get? b=some o->s.heap.get? b=some o:=λb o e=>(I.bs b o e).1
def Inv.mod (I:Inv X Sr σ H s):Mod X.K X.mg X.base:=I.ok.mod
def Inv.kIn (I:Inv X Sr σ H s):X.K.In s.heap:=I.ok.mod.kin.keeps I.bk
def Inv.nolimit (I:Inv X Sr σ H s):s.heap.NoLimit:=I.ok.mod.nolimit.keeps I.bk
def Inv.fr (I:Inv X Sr σ H s):∃m,Fr X.base X.env.locals s.heap m:=
 let ⟨m,a,_⟩:=I.loc
 ⟨m,a,I.bk,AAg I.ok.bsz I.ok.above⟩
def Inv.lt (I:Inv X Sr σ H s):X.env.locals<s.heap.objs.size:=let ⟨_,a,_⟩:=I.loc;a.lt
def Inv.sz (I:Inv X Sr σ H s):X.s₀.heap.objs.size<=s.heap.objs.size:=AAg I.ok.above (AER I.lt)
def Inv.nofs (I:Inv X Sr σ H s){a:kf}(h:s.heap.objs.size<=a):a ∉ X.fs:=λhb=>by obtain⟨_,o,b,_⟩:=I.ok.funs.mem hb;exact absurd (AAf (AAN b) (AAg I.sz h)) (ACd _)
def Inv.cne (I:Inv X Sr σ H s):∀x c,X.env.cells.lookup x=some c->c≠X.env.locals:=λx c e z=>by obtain⟨v,o,a,hd⟩:=I.cell x c e;obtain⟨m,⟨f,es,ep,b,d,_⟩,_⟩:=I.loc;rw[z,b] at a;cases a;rw[d] at hd;cases hd
def Inv.funs (I:Inv X Sr σ H s):s.heap.FunFrames X.base X.outer:=by
 have all:∀(l:km Env),(∀b∈dS l,b∈X.fs)->X.s₀.heap.FunFrames X.base l->s.heap.FunFrames X.base l:=by
  intro l;induction l with
  | nil=>intro _ _;trivial
  | cons env r ih=> intro hs hl;obtain⟨hk,⟨L,o,a,d,f,hd⟩,g⟩:=hl;have c:L∈X.fs:=hs L (by unfold dS;rw[AFg,a];exact ADU);obtain⟨sl,e⟩:=I.base.slot L o f (I.ok.frf L c) c λz=>I.ok.exfs L z c;exact⟨hk,⟨L,_,a,d,e,hd⟩,ih (λb hb=>hs b (by unfold dS;rw[AFg,a];exact ACc _ hb)) g⟩
 exact all X.outer (λ_ hb=>hb) I.ok.funs
def Inv.stack (I:Inv X Sr σ H s):s.heap.FunFrames X.base X.stack:=by
 rcases I.ok.stk with e|⟨e,a⟩
 .rw [e];exact I.funs
 .rw [e];obtain⟨m,b,_⟩:=I.loc;refine .cons (by rw[I.ok.kind];decide) a b ?_ I.funs;exact Heap.get?_none_of_le (AAg I.ok.bsz I.ok.above)
def Inv.stkSub (I:Inv X Sr σ H s):∀b∈dS X.stack,b∈X.env.locals::X.fs:=λb hb=>by
 rcases I.ok.stk with e|⟨e,a⟩
 .rw [e] at hb;exact ACc _ hb
 .rw [e] at hb;unfold dS at hb;rw[AFg,a] at hb;exact hb
def Inv.stkFree (I:Inv X Sr σ H s):∀b∈dS X.stack,H b=none:=λb hb=>by
 rcases AAO.mp (I.stkSub b hb) with e|hb
 .rw [e];exact I.free
 .obtain ⟨_,o,a,_⟩:=I.ok.funs.mem hb;exact I.base.free b o a (I.ok.frf b hb) λz=>I.ok.exfs b z hb
def Inv.step {t':Nat}{d':Drawn}{ch:km kf}(I:Inv X Sr σ H s)(j:∀b∈ch,(b∈X.ex\/X.s₀.heap.objs.size<=b)/\b≠X.env.locals/\(∀x c,X.env.cells.lookup x=some c->c≠b)/\∀p∈X.pn++Sr,p.1≠b)(keep:∀b o,b≠X.env.locals->b ∉ X.fs->b ∉ ch->s.heap.get? b=some o->H b=none->h'.get? b=some o)(slot:∀b o,b≠X.env.locals->b∈X.fs->b ∉ ch->s.heap.get? b=some o->H b=none->∃sl,h'.get? b=some {o with slots:=sl})(free:∀b o,b ∉ ch->s.heap.get? b=some o->H b=none->H' b=none)(there:∀b o,b ∉ ch->s.heap.get? b=some o->∃t,h'.get? b=some t)(tups:∀b xs,H b=some (.tup xs)->H' b=some (.tup xs))(frzs:∀b o u,H b=some (.frz o u)->H' b=some (.frz o u))(tbls:∀b ps,H b=some (.tbl ps)->∃more,H' b=some (.tbl (ps++more)))(D:∀m,s.heap.Ns X.env.locals m->h'.Ns X.env.locals m)(hok:IU X.prog X.w H' h')(E:AllBare g'):Inv X Sr σ H' {s with heap:=h',gens:=g',drawn:=d',toks:=t'}:=by
 have y:∀b o,X.s₀.heap.get? b=some o->b≠X.env.locals:=λb o e=>AAQ (AAf (AAN e) I.ok.above);have f:∀b o,X.s₀.heap.get? b=some o->b ∉ X.ex->b ∉ ch:=λb o e hx hb=>by
  rcases (j b hb).1 with z|z
  .exact hx z
  .exact absurd (AAf (AAN e) z) (ACd _)
 have cellK:∀x c,X.env.cells.lookup x=some c->∀v,s.heap.IsCell c v->h'.IsCell c v:=λx c e v ⟨o,h,hd⟩=>by
  have a:c ∉ ch:=λz=>(j c z).2.2.1 x c e rfl;by_cases hc:c∈X.fs
  .obtain ⟨sl,q⟩:=slot c o (I.cne x c e) hc a h (I.freeC x c e);exact⟨_,q,hd⟩
  .exact ⟨o,keep c o (I.cne x c e) hc a h (I.freeC x c e),hd⟩
 refine⟨I.ok,I.os,E,⟨λb o e n hb hx=> ?_,λb o e n hb hx=> ?_,λb o e n hx=> ?_,λb o e hx=> ?_,λb xs e=>tups b xs (I.base.tups b xs e),λb o xs e=>frzs b o xs (I.base.frzs b o xs e),λb ps e=> ?_⟩, ?_,λx c e=> ?_, ?_,λx c e=> ?_,λp hp=> ?_,hok,I.len⟩
 .exact keep b o (y b o e) hb (f b o e hx) (I.base.keep b o e n hb hx) (I.base.free b o e n hx)
 .obtain ⟨sl,g⟩:=I.base.slot b o e n hb hx;obtain⟨dX,A⟩:=slot b _ (y b o e) hb (f b o e hx) g (I.base.free b o e n hx);exact⟨dX,A⟩
 .obtain ⟨t,g⟩:=I.base.there b o e hx;exact free b t (f b o e hx) g (I.base.free b o e n hx)
 .obtain ⟨t,g⟩:=I.base.there b o e hx;exact there b t (f b o e hx) g
 .obtain ⟨m1,g⟩:=I.base.tbls b ps e;obtain⟨m2,A⟩:=tbls b _ g;exact⟨m1++m2,by rw[A,Array.append_assoc]⟩
 .obtain ⟨m,F,hl⟩:=I.loc;refine⟨m,D m F,λi x v g A G=> ?_⟩;obtain⟨u,r,l⟩:=hl i x v g A G;refine⟨u,r, ?_⟩;rcases l with l|⟨k,c,e,z⟩
  .exact .inl l
  .exact .inr ⟨k,c,e,cellK x c e _ z⟩
 .obtain ⟨v,z⟩:=I.cell x c e;exact⟨v,cellK x c e v z⟩
 .obtain ⟨m,⟨o,_,_,h,_⟩,_⟩:=I.loc;exact free _ o (λz=>(j _ z).2.1 rfl) h I.free
 .obtain ⟨v,o,h,hd⟩:=I.cell x c e;exact free c o (λz=>(j c z).2.2.1 x c e rfl) h (I.freeC x c e)
 .obtain ⟨e,n,B,C,d⟩:=I.pin p hp;have a:p.1 ∉ ch:=λz=>(j p.1 z).2.2.2 p hp rfl;exact⟨keep p.1 p.2 B C a e n,free p.1 p.2 a e n,B,C,d⟩
def Inv.un {t':Nat}(I:Inv X Sr σ H s)(u:Un X.fs [] H H' s.heap h')(hok:IU X.prog X.w H' h'):Inv X Sr σ H' {s with heap:=h',toks:=t'}:=by
 obtain⟨m,⟨o,es,ep,d,r⟩,_⟩:=id I.loc;obtain⟨sl,g⟩:=u.any d I.free (!2);exact I.step (g':=s.gens) (d':=s.drawn) (ch:= []) (λ_ z=>nomatch z) (λb o _ hb _ e n=>u.keep b o e n hb (!2)) (λb o _ hb _ e n=>u.slot b o e n hb (!2)) (λb o _ e n=>u.free b o e n (!2)) (λb o _ e=>u.there b o e (!2)) u.tups u.frzs u.tbls (λj h=>by
  obtain⟨k,a,c,f,i⟩:=h;rw[d] at f;cases f;exact⟨_,a,c,g,i⟩) hok I.bare
def Inv.call {t':Nat}{d':Drawn}(I:Inv X Sr σ H s)(u:Un (dS X.stack) ch H H' s.heap h')(hok:IU X.prog X.w H' h')(j:AllBare g')(g:∀b∈ch,(b∈X.ex\/X.s₀.heap.objs.size<=b)/\b≠X.env.locals/\(∀x c,X.env.cells.lookup x=some c->c≠b)/\∀p∈X.pn++Sr,p.1≠b):Inv X Sr σ H' {s with heap:=h',gens:=g',drawn:=d',toks:=t'}:=by
 obtain⟨m,⟨o,es,ep,h,r⟩,_⟩:=id I.loc;obtain⟨sl,a⟩:=u.any h I.free λz=>(g _ z).2.1 rfl;exact I.step (ch:=ch) g (λb o a hb hc e n=>u.keep b o e n (λz=>(AAO.mp (I.stkSub b z)).elim a hb) hc) (λb o _ _ hc e n=>u.any e n hc) (λb o hc e n=>u.free b o e n hc) (λb o hc e=>u.there b o e hc) u.tups u.frzs u.tbls (λt k=>by
  obtain⟨v,d,f,i,l⟩:=k;rw[h] at i;cases i;exact⟨_,d,f,a,l⟩) hok j
def Inv.turned {t':Nat}{it:kf}(I:Inv X Sr σ H s)(k:∀b o,b≠it->s.heap.get? b=some o->h'.get? b=some o)(f:H it=none)(d:it≠X.env.locals)(h1:it∈X.ex\/X.s₀.heap.objs.size<=it)(h2:∀x c,X.env.cells.lookup x=some c->c≠it)(h3:∀p∈X.pn++Sr,p.1≠it):Inv X Sr σ H {s with heap:=h',toks:=t'}:=by
 have a:∀b u,H b=some u->b≠it:=λb u e z=>by rw[z,f] at e;cases e
 refine I.step (g':=s.gens) (d':=s.drawn) (ch:= [it]) (λb hb=> ?_) (λb o _ _ hc e _=>k b o (λz=>hc (by simp[z])) e) (λb o _ _ hc e _=>⟨o.slots,k b o (λz=>hc (by simp[z])) e⟩) (λ_ _ _ _ n=>n)
  (λb o hc e=>⟨o,k b o (λz=>hc (by simp[z])) e⟩) (λ_ _ e=>e) (λ_ _ _ e=>e) (λb ps e=>⟨#[],by rw[e];simp⟩) (λm g=> ?_) (λb u e=> ?_) I.bare
 .have e:b=it:=↑hb
  subst e;exact⟨h1,d,h2,h3⟩
 .obtain ⟨o,es,ep,h,r⟩:=g;exact⟨o,es,ep,k _ o (AA6 d) h,r⟩
 .refine (I.hok b u e).stay (λc v hc q=>k c v ?_ q) (λ_ q=>q) λ_ _ q=>q;rcases hc with z|z
  .rw [z];exact a b u e
  .exact a c _ z
def Inv.tok (I:Inv X Sr σ H s)(t:Nat):Inv X Sr σ H {s with toks:=t}:=I.un (h':=s.heap) (t':=t) Un.refl I.hok
def Inv.kept {t':Nat}(I:Inv X Sr σ H s)(k:∀b u,s.heap.get? b=some u->h'.get? b=some u):Inv X Sr σ H {s with heap:=h',toks:=t'}:=I.un (Un.kept k) (I.hok.kept k)
def Inv.laid {a:kf}{t':Nat}(I:Inv X Sr σ H s)(k:∀b u,s.heap.get? b=some u->h'.get? b=some u)(hp:s.heap.objs.size<=a)(new:Bz X.prog X.w (upd H a o) h' a o):Inv X Sr σ (upd H a o) {s with heap:=h',toks:=t'}:=I.un (Un.laid k hp (I.hok.fresh hp)) (I.hok.laid k hp new)
def Inv.write {e:kf}{t':Nat}(I:Inv X Sr σ H s)(a:tY (H x))(he:e=x\/H e=some (.own x))(k:∀b u,b≠e->s.heap.get? b=some u->h'.get? b=some u)(c:∃u,h'.get? e=some u)(new:Bz X.prog X.w (upd H x o) h' x o):Inv X Sr σ (upd H x o) {s with heap:=h',toks:=t'}:=I.un (Un.write a he k c) (I.hok.write a he k c new)
def Inv.weak {σ':km (ke V)}(I:Inv X Sr σ H s)(hl:σ'.length=σ.length)(w:∀(i:Nat) v,σ'[i]? =some (some v)->σ[i]? =some (some v)):Inv X Sr σ' H s:=
 ⟨I.ok,I.os,I.bare,I.base,let ⟨m,a,b⟩:=I.loc;⟨m,a,λi x v c d e=>b i x v c (w i v d) e⟩,I.cell,I.free,I.freeC,I.pin,I.hok,hl.trans I.len⟩
def Inv.pins_of {a:km (kf×Obj)}(I:Inv X Sr σ H s)(h:∀p∈a,s.heap.get? p.1=some p.2/\H p.1=none/\p.1≠X.env.locals/\p.1 ∉ X.fs/\∀v,p.2.data≠ .cell v):Inv X a σ H s:=
 ⟨I.ok,I.os,I.bare,I.base,I.loc,I.cell,I.free,I.freeC,λp hp=>(AAX.mp hp).elim (λz=>I.pin p (List.mem_append_left _ z)) (h p),I.hok,I.len⟩
def Va {N:km Str}(hN:N.Nodup){i j:Nat}(a:N[i]? =some x)(b:N[j]? =some x):i=j:=by obtain⟨h1,c⟩:=AB8.mp a;obtain⟨h2,d⟩:=AB8.mp b;exact(List.getElem_inj hN).mp (c.trans d.symm)
def LW {i:Nat}{Q:Unit->ki->Prop}(I:Inv X Sr σ H s)(hN:X.N.Nodup)(hi:X.N[i]? =some x)(hx:Loc X.env.scope x)(r:RelV v u)(h:∀J,Inv X Sr (σ.set i (some v)) H J->(∃a,Heap.SameBut a s.heap J.heap/\(a=X.env.locals\/X.env.cells.lookup x=some a))->Q () J)(hf:X.fn x=true\/X.env.scope.names.lookup x=some .local:=by first | exact .inl rfl|exact .inr rfl|assumption):wpAny M A (storeName X.env x u) Q E s:=by
 obtain⟨m,K,hl⟩:=id I.loc;have yH:(X.env.scope.kind == .class||(X.env.scope.kind == .module&&X.env.locals != X.env.globals))=false:=by rw[I.ok.kind];rfl
 have l:i<σ.length:=by rw[I.len];exact(AB8.mp hi).1
 have t:=I.cne;have tracked:∀{a:kf} {h':Wf},(∃o,s.heap.get? a=some o/\H a=none)->Heap.SameBut a s.heap h'->IU X.prog X.w H h':=λ{a h'} ha hs b ob e=>by
  obtain⟨_,_,Z⟩:=ha;refine(I.hok b ob e).stay (λc D hc q=>(hs.2 c ?_).trans q) (λ_ q=>q) λ_ _ q=>q;rintro rfl;rcases hc with rfl|hc
  .rw [Z] at e;cases e
  .rw [Z] at hc;cases hc
 rcases hx with hk|hk
 .refine wpAny_storeName_local hk K (λh' L hs=> ?_) yH;obtain⟨oL,_,_,O,_⟩:=id K;refine h _ ⟨I.ok,I.os,I.bare,⟨λb o e n hb hx=> ?_,λb o e n hb hx=> ?_,I.base.free,λb o e hx=> ?_,I.base.tups,I.base.frzs,I.base.tbls⟩,⟨_,L,λj y P f g R=> ?_⟩,λy c e=> ?_,I.free,I.freeC,λp hp=> ?_,tracked ⟨oL,O,I.free⟩ hs,↑I.len⟩ ⟨_,hs, .inl rfl⟩
  .exact (hs.2 b (AAQ (AAf (AAN e) I.ok.above))).trans (I.base.keep b o e n hb hx)
  .obtain ⟨sl,f⟩:=I.base.slot b o e n hb hx;exact⟨sl,(hs.2 b (AAQ (AAf (AAN e) I.ok.above))).trans f⟩
  .obtain ⟨S,f⟩:=I.base.there b o e hx;exact⟨S,(hs.2 b (AAQ (AAf (AAN e) I.ok.above))).trans f⟩
  .by_cases hj:j=i
   .subst hj;rw[hi] at f;cases f;rw[ADh l] at g;cases g;exact⟨u,r, .inl ⟨hk,!2⟩⟩
   .rw [AAs (AA6 hj)] at g;obtain⟨T,U,q⟩:=hl j y P f g R;refine⟨T,U, ?_⟩;rcases q with⟨k,e⟩|⟨k,c,e,z⟩
    .refine .inl ⟨k, ?_⟩;have:y≠x:=λe=>hj (Va hN f (e ▸ hi));simp[this,e]
    .exact .inr ⟨k,c,e,z.sameBut hs (t y c e)⟩
  .obtain ⟨D,z⟩:=I.cell y c e;exact⟨D,z.sameBut hs (t y c e)⟩
  .obtain ⟨e,n,F,W,d⟩:=I.pin p hp;exact⟨(hs.2 p.1 F).trans e,n,F,W,d⟩
 .have Y:X.fn x=true:=by
   rcases hf with z|z
   .exact z
   .rw [z] at hk;cases hk
  obtain⟨c,hc⟩:=I.ok.has x (.inl hk);obtain⟨D,z⟩:=I.cell x c hc;refine wpAny_storeName_cell I.ok.kind hk hc z (λh' fo hs=> ?_);obtain⟨oc,B,yR⟩:=id z;refine h {s with heap:=h'} ⟨I.ok,I.os,I.bare,⟨λb o e n hb hx=> ?_,λb o e n hb hx=> ?_,I.base.free,λb o e hx=> ?_,I.base.tups,I.base.frzs,I.base.tbls⟩,⟨m,K.sameBut hs (AA6 (t x c hc)),λj y P f g R=> ?_⟩,λy G e=> ?_,I.free,I.freeC,λp hp=> ?_,tracked ⟨oc,B,I.freeC x c hc⟩ hs,↑I.len⟩ ⟨c,hs, .inr hc⟩
  .exact (hs.2 b (AAQ (AAf (AAN e) (I.ok.cab x c Y hc)))).trans (I.base.keep b o e n hb hx)
  .obtain ⟨sl,f⟩:=I.base.slot b o e n hb hx;exact⟨sl,(hs.2 b (AAQ (AAf (AAN e) (I.ok.cab x c Y hc)))).trans f⟩
  .obtain ⟨S,f⟩:=I.base.there b o e hx;exact⟨S,(hs.2 b (AAQ (AAf (AAN e) (I.ok.cab x c Y hc)))).trans f⟩
  .by_cases hj:j=i
   .subst hj;rw[hi] at f;cases f;rw[ADh l] at g;cases g;exact⟨u,r, .inr ⟨.inl hk,c,hc,fo⟩⟩
   .rw [AAs (AA6 hj)] at g;obtain⟨T,U,q⟩:=hl j y P f g R;refine⟨T,U, ?_⟩;rcases q with q|⟨k,G,e,z'⟩
    .exact .inl q
    .refine .inr ⟨k,G,e,z'.sameBut hs ?_⟩;rintro rfl;exact hj (Va hN f (I.ok.inj _ _ _ e hc ▸ hi))
  .by_cases C:G=c
   .subst C;exact⟨_,fo⟩
   .obtain ⟨w2,z2⟩:=I.cell y G e;exact⟨w2,z2.sameBut hs C⟩
  .obtain ⟨e,n,F,W,d⟩:=I.pin p hp;refine⟨(hs.2 p.1 ?_).trans e,n,F,W,d⟩;intro q;rw[q,B] at e;have q':oc=p.2:=AAt e;exact d D (by rw[<-q'];exact yR)
def He {i:Nat}{Q:Unit->ki->Prop}(I:Inv X Sr σ H s)(hN:X.N.Nodup)(hi:X.N[i]? =some x)(hx:Loc X.env.scope x)(r:RelV v u)(h:∀a,Inv X Sr (σ.set i (some v)) H a->Q () a)(b:X.fn x=true\/X.env.scope.names.lookup x=some .local:=by first | exact .inl rfl|exact .inr rfl|assumption):wpAny M A (storeName X.env x u) Q E s:=
 LW I hN hi hx r (λa c _=>h a c) b
def Inv.call' {a:ki}(I:Inv X Sr σ H s)(d:a.os=s.os)(u:Un (dS X.stack) ch H H' s.heap a.heap)(hok:IU X.prog X.w H' a.heap)(f:AllBare a.gens)(g:∀b∈ch,(b∈X.ex\/X.s₀.heap.objs.size<=b)/\b≠X.env.locals/\(∀x c,X.env.cells.lookup x=some c->c≠b)/\∀p∈X.pn++Sr,p.1≠b):Inv X Sr σ H' a:=by obtain⟨h',g',d',t',h⟩:=a;have e:h=s.os:=d;subst e;exact I.call (g':=g') (t':=t') (d':=d') u hok f g
end
abbrev XK:=kj->ke kf->Hp->Prop
abbrev St:=km (ke V)
abbrev VK:=V->Hp->Prop
abbrev TE:=St->Hp->VK->Prop
abbrev TT:=St->Hp->(kc->Hp->Prop)->Prop
abbrev TA:=St->Hp->(km V->Hp->Prop)->Prop
structure L6 where
 nx:St->Hp->Prop
 rt:VK
 bk:St->Hp->Prop:=λ_ _=>False
 ct:St->Hp->Prop:=λ_ _=>False
abbrev TS:=L6->St->Hp->Prop
def EP (X:Cx)(Sr:km (kf×Obj))(b:St)(Q:VK)(u:kj)(c:ki):Prop:=∃v a,Inv X Sr b a c/\RelV v u/\Q v a
def TP (X:Cx)(Sr:km (kf×Obj))(c:St)(Q:kc->Hp->Prop)(b:kc)(d:ki):Prop:=∃a,Inv X Sr c a d/\Q b a
def AP (X:Cx)(Sr:km (kf×Obj))(b:St)(Q:km V->Hp->Prop)(c:km kj)(d:ki):Prop:=∃vs a,Inv X Sr b a d/\Au vs c/\Q vs a
def SP (X:Cx)(Sr:km (kf×Obj))(D:L6)(f:Flow)(b:ki):Prop:=
 match f with
 | .next=>∃σ' a,Inv X Sr σ' a b/\D.nx σ' a
 | .brk=>∃σ' a,Inv X Sr σ' a b/\D.bk σ' a
 | .cont=>∃σ' a,Inv X Sr σ' a b/\D.ct σ' a
 | .ret u=>∃v σ' a,Inv X Sr σ' a b/\RelV v u/\D.rt v a
def PE (X:Cx)(e:kd)(t:TE):Prop:=
 ∀(Sr:km (kf×Obj)) (s:ki) (a:St) (H:Hp) (Q:VK),Inv X Sr a H s->t a H Q->wpAny (model X.prog X.w) X.A (eval e X.env) (EP X Sr a Q) X.xe s
def PT (X:Cx)(e:kd)(t:TT):Prop:=
 ∀(Sr:km (kf×Obj)) (s:ki) (a:St) (H:Hp) (Q:kc->Hp->Prop),Inv X Sr a H s->t a H Q->wpAny (model X.prog X.w) X.A (isTrue e X.env (eval e X.env)) (TP X Sr a Q) X.xe s
def PW (X:Cx)(e:kd)(t:TT):Prop:=
 ∀(whole:Sem kj) (Sr:km (kf×Obj)) (s:ki) (a:St) (H:Hp) (Q:kc->Hp->Prop),Inv X Sr a H s->t a H Q->wpAny (model X.prog X.w) X.A (isTrue e X.env whole) (TP X Sr a Q) X.xe s
def PW.pt {t:TT}(h:PW X e t):PT X e t:=h _
def PA (X:Cx)(es:km kd)(t:TA):Prop:=
 ∀(pos:Pos) (Sr:km (kf×Obj)) (s:ki) (a:St) (H:Hp) (Q:km V->Hp->Prop),Inv X Sr a H s->t a H Q->wpAny (model X.prog X.w) X.A (spliced (backTo pos (starEach es X.env))) (AP X Sr a Q) X.xe s
def PS (X:Cx)(st:Stmt)(t:TS):Prop:=
 ∀(Sr:km (kf×Obj)) (s:ki) (a:St) (H:Hp) (D:L6),Inv X Sr a H s->t D a H->wpAny (model X.prog X.w) X.A (exec st X.env) (SP X Sr D) X.xe s
def Ul (X:Cx)(st:km Stmt)(t:TS):Prop:=
 ∀(Sr:km (kf×Obj)) (s:ki) (a:St) (H:Hp) (D:L6),Inv X Sr a H s->t D a H->wpAny (model X.prog X.w) X.A (execs st X.env) (SP X Sr D) X.xe s
def BA {b:Type}{t:Sem b}{Q c:b->ki->Prop}{M:Model}{A:Tb}{E:kj->ki->Prop}{s:ki}(h:wpAny M A t Q E s)(hQ:∀a s,Q a s->c a s):wpAny M A t c E s:=ACE h hQ λ_ _ x=>x
section
variable {X:Cx}
def DI (i:Nat):TE:=λa H Q=>∃v,a[i]? =some (some v)/\Q v H
def tC (v:V):TE:=λ_ H Q=>Q v H
def OQ {i:Nat}(hN:X.N[i]? =some x)(hv:nK X.env.scope x)(hd:(x==("__debug__" :Str))=false:=by decide)(d:(x==("__classdict__" :Str))=false:=by decide):PE X (.Name x pos) (DI i):=by
 intro Sr s f H Q I h;obtain⟨v,e,h⟩:=h;obtain⟨m,g,hl⟩:=I.loc;obtain⟨u,r,l⟩:=hl i x v hN e hv;have a:EP X Sr f Q u s:=⟨v,H,I,r,h⟩;rcases l with⟨hk,j⟩|⟨hk,c,hc,b⟩
 .exact wpAny_Name (wpAny_loadName_local I.ok.kind hk g j a) hd
 .rcases hk with hk|hk
  .exact wpAny_Name (wpAny_loadName_cell I.ok.kind hk hc b a) hd
  .exact wpAny_Name (wpAny_loadName_free I.ok.kind hk hc b a d) hd
def A8 {i j pos}:PE X (.Constant (.int i) j pos) (tC (.int i)):=λ_ _ _ H _ I h=>wpAny_Constant_int ⟨.int i,H,I.tok _,⟨_,rfl⟩,h⟩
def vF {b j pos}:PE X (.Constant (.bool b) j pos) (tC (.bl b)):=λ_ _ _ H _ I h=>Constant_bool ⟨.bl b,H,I,rfl,h⟩
def gv {j pos}:PE X (.Constant .none j pos) (tC .non):=λ_ _ _ H _ I h=>Constant_none ⟨.non,H,I,rfl,h⟩
def qg {x j pos}:PE X (.Constant (.str x) j pos) (tC (.str x)):=λ_ _ _ H _ I h=>Calls.Constant_str ⟨.str x,H,I.tok _,⟨_,rfl⟩,h⟩
def Gl (X:Cx)(x:Str):Prop:=X.env.kindOf x=some .globalImplicit
def ZU {Q:kj->ki->Prop}(I:Inv X Sr a H s)(b:Gl X x)(c:X.mg x=some u)(h:Q u s)(hd:(x==("__debug__" :Str))=false:=by decide):wpAny (model X.prog X.w) X.A (eval (.Name x pos) X.env) Q E s:=
 Calls.Name_function_global I.ok.kind b (Calls.loadGlobal_global (by rw[I.ok.glob];exact I.mod.glob.keeps I.bk) c h) hd
def Ih {Q:kj->ki->Prop}(I:Inv X Sr a H s)(b:Gl X x)(c:X.mg x=none)(hv:bootBuiltins x=some u)(h:Q u s)(d:x≠"__name__" :=by decide)(hd:(x==("__debug__" :Str))=false:=by decide):wpAny (model X.prog X.w) X.A (eval (.Name x pos) X.env) Q E s:=by obtain⟨e,h1,h2⟩:=I.mod.blt;exact Calls.Name_function_global I.ok.kind b (Calls.loadGlobal_builtin (by rw[I.ok.glob];exact I.mod.glob.keeps I.bk) c (by rw[I.ok.blt];exact h1.keeps I.bk) ((h2 x d).trans hv) h) hd
def lN (a:Gl X x)(b:X.mg x=some u)(r:RelV v u)(hd:(x==("__debug__" :Str))=false:=by decide):PE X (.Name x pos) (tC v):=
 λ_ _ _ H _ I h=>ZU I a b ⟨v,H,I,r,h⟩ hd
variable {a b:kd}{ta tb:TE}{pos:Pos}
def PC (X:Cx)(op:CmpOp)(a b:kd)(t:TE):Prop:=
 ∀(Sr:km (kf×Obj)) (s:ki) (e:St) (H:Hp) (Q:VK),Inv X Sr e H s->t e H Q->
  wpAny (model X.prog X.w) X.A (eval a X.env) (λv c=>wpAny (model X.prog X.w) X.A (eval b X.env) (λu d=>wpAny (model X.prog X.w) X.A (compareOp op v u) (EP X Sr e Q) X.xe d) X.xe c) X.xe s
def gP (b:kd){op:CmpOp}(h:op≠ .In)(h2:op≠ .NotIn):behindInMarks op b=false:=by
 have c:(op==CmpOp.In)=false:=by cases op <;> first | rfl|exact absurd rfl h
 have d:(op==CmpOp.NotIn)=false:=by cases op <;> first | rfl|exact absurd rfl h2
 cases b <;> simp[behindInMarks,c,d]
def tB (t:TE):TT:=λd H Q=>t d H λx H1=>∃c,x= .bl c/\Q c H1
def qk {t:TE}(h:PC X op a b t)(h1:behindInMarks op b=false:=by first | exact gP _ (!1) (!1)|rfl):PT X (.Compare a [op] [b] pos) (tB t):=by intro Sr s e H Q I hw;refine wpAny_isTrue_Compare1 (BA (h Sr s e H _ I hw) λv i h1=>BA h1 λu j h2=>BA h2 λc k ⟨x,H1,f,r1,g⟩=> ?_) h1;obtain⟨d,rfl,q⟩:=g;cases r1;exact ADT ⟨H1,f,q⟩
def qo {t:TE}(h:PE X e t)(he:∀whole,isTrue e X.env whole=(do let v <-whole;standAt e.pos;holding [v] (truthy v)):=by intro _;rfl):PT X e (tB t):=by intro Sr s c H Q I hw;refine isTrue_plain (BA (h Sr s c H _ I hw) λv i ⟨x,H1,f,r1,g⟩=> ?_) (he _);obtain⟨d,rfl,q⟩:=g;cases r1;exact ADT ⟨H1,f,q⟩
variable {tA tB':TT}{rest:km kd}
def yy (t u:TT):TT:=λd H Q=>t d H λc H1=>if c=true then u d H1 Q else Q false H1
def tOr (t u:TT):TT:=λd H Q=>t d H λc H1=>if c=true then Q true H1 else u d H1 Q
def y9 (t:TT):TT:=λd H Q=>t d H λc H1=>Q (!c) H1
def lu (ha:PT X a tA):PW X (.BoolOp .And [a] pos) tA:=by
 intro f Sr s d H Q I h;refine isTrue_and (BA (ha Sr s d H Q I h) λc g e=> ?_);cases c with
 | true=>exact isTrue_and_nil e
 | false=>exact e
def qt (ha:PT X a tA):PW X (.BoolOp .Or [a] pos) tA:=by
 intro f Sr s d H Q I h;refine isTrue_or (BA (ha Sr s d H Q I h) λc g e=> ?_);cases c with
 | false=>exact isTrue_or_nil e
 | true=>exact e
def qr (ha:PT X a tA)(hb:PW X (.BoolOp .And (b::rest) pos) tB'):PW X (.BoolOp .And (a::b::rest) pos) (yy tA tB'):=by
 intro g Sr s d H Q I h;refine isTrue_and (BA (ha Sr s d H _ I h) λc i ⟨H1,e,f⟩=> ?_);cases c with
 | true=>exact hb g Sr i d H1 Q e f
 | false=>exact⟨H1,e,f⟩
def vK (ha:PT X a tA)(hb:PW X (.BoolOp .Or (b::rest) pos) tB'):PW X (.BoolOp .Or (a::b::rest) pos) (tOr tA tB'):=by
 intro g Sr s d H Q I h;refine isTrue_or (BA (ha Sr s d H _ I h) λc i ⟨H1,e,f⟩=> ?_);cases c with
 | true=>exact⟨H1,e,f⟩
 | false=>exact hb g Sr i d H1 Q e f
def ql (ha:PT X a tA):PT X (.UnaryOp .Not a pos) (y9 tA):=by intro Sr s d H Q I h;exact isTrue_not (ha Sr s d H (λc H1=>Q (!c) H1) I h)
def wD (ta tb:TE):TE:=λd H Q=>ta d H λx H1=>∃c,x= .bl c/\if c=true then tb d H1 Q else Q (.bl false) H1
def zE (ta tb:TE):TE:=λd H Q=>ta d H λx H1=>∃c,x= .bl c/\if c=true then Q (.bl true) H1 else tb d H1 Q
def wJ (ta:TE):TE:=λd H Q=>ta d H λx H1=>∃c,x= .bl c/\Q (.bl (!c)) H1
def qe {op}{t:TE}(h:PE X a t):PE X (.BoolOp op [a] pos) t:=λSr s c H Q I hw=>BoolOp_one (h Sr s c H Q I hw)
def qb (ha:PE X a ta)(hb:PE X (.BoolOp .And (b::rest) pos) tb):PE X (.BoolOp .And (a::b::rest) pos) (wD ta tb):=by
 intro Sr s e H Q I h;refine BoolOp_and (BA (ha Sr s e H _ I h) λv g ⟨x,H1,f,r1,d⟩=> ?_);obtain⟨c,rfl,d⟩:=d;cases r1;refine ADT ?_;cases c with
 | true=>exact hb Sr g e H1 Q f d
 | false=>exact⟨.bl false,H1,f,rfl,d⟩
def vH (ha:PE X a ta)(hb:PE X (.BoolOp .Or (b::rest) pos) tb):PE X (.BoolOp .Or (a::b::rest) pos) (zE ta tb):=by
 intro Sr s e H Q I h;refine BoolOp_or (BA (ha Sr s e H _ I h) λv g ⟨x,H1,f,r1,d⟩=> ?_);obtain⟨c,rfl,d⟩:=d;cases r1;refine ADT ?_;cases c with
 | false=>exact hb Sr g e H1 Q f d
 | true=>exact⟨.bl true,H1,f,rfl,d⟩
def qd (ha:PE X a ta):PE X (.UnaryOp .Not a pos) (wJ ta):=by intro Sr s e H Q I h;refine UnaryOp_ (BA (ha Sr s e H _ I h) λv g ⟨x,H1,f,r1,d⟩=> ?_);obtain⟨c,rfl,d⟩:=d;cases r1;exact not_of (ADT ⟨.bl (!c),H1,f,rfl,d⟩)
def tIf (t:TT)(ta tb:TE):TE:=λd H Q=>t d H λc H1=>if c=true then ta d H1 Q else tb d H1 Q
def gt (hc:PT X c tA)(ha:PE X a ta)(hb:PE X b tb):PE X (.IfExp c a b pos) (tIf tA ta tb):=by
 intro Sr s e H Q I h;refine wpAny_IfExp (BA (hc Sr s e H _ I h) λd f ⟨H1,g,i⟩=> ?_);cases d with
 | true=>exact ha Sr f e H1 Q g i
 | false=>exact hb Sr f e H1 Q g i
end
def GH (K:AAJ)(H:Hp)(a:kf)(xs:km V):Prop:=
 Rd H a (.lst xs)\/
  ∃(o:Obj) (b:Array kj) (n:Nat),K.lookup a=some o/\o.cls= .type "list" /\o.dict=none/\o.data= .seq b n/\b.size<=sizeLine/\Au xs b.toList
def Nj (K:AAJ)(H:Hp)(a:kf)(xs:km V):Prop:=
 Rd H a (.tup xs)\/
  ∃(o:Obj) (b:Array kj) (n:Nat),K.lookup a=some o/\o.cls= .type "tuple" /\o.data= .seq b n/\b.size<=sizeLine/\Au xs b.toList
noncomputable def xo:kj->ke V
 | .none=>some .non
 | .bool b=>some (.bl b)
 | .int i _=>some (.int i)
 | .str x _=>some (.str x)
 | .bytes b _=>some (.byt b)
 | .float b _=>some (.flt b)
 | .ref a=>some (.ref a)
 | .type n=>some (.ty n)
 | _=>none
def RelV.abs (r:RelV x u):xo u=some x:=by
 cases x with
 | non=>cases r;rfl
 | bl _=>cases r;rfl
 | int _=>obtain⟨t,rfl⟩:=r;rfl
 | str _=>obtain⟨t,rfl⟩:=r;rfl
 | byt _=>obtain⟨t,rfl⟩:=r;rfl
 | flt _=>obtain⟨t,rfl⟩:=r;rfl
 | ref _=>cases r;rfl
 | ty _=>cases r;rfl
def RelV.inj {y:V}(r:RelV x u)(q:RelV y u):x=y:=AAt (r.abs.symm.trans q.abs)
theorem Au.inj:∀{xs ys:km V} {a:km kj},Au xs a->Au ys a->xs=ys
 | _,_,_, .nil, .nil=>rfl
 | _,_,_, .cons r t, .cons b t'=>by rw[r.inj b,Au.inj t t']
section
variable {X:Cx}{Sr:km (kf×Obj)}{σ:St}{H:Hp}{s:ki}{a:kf}{xs ys:km V}
def GH.of {K:AAJ}(h:H a=some (.lst xs)):GH K H a xs:= .inl (.inl h)
def Inv.list (I:Inv X Sr σ H s)(h:GH X.K H a xs):∃b:km kj,Au xs b/\PlainL s.heap a b.toArray/\xs.length<=sizeLine:=by
 rcases h with h|⟨o,b,n,hk,hc,hd,hs,hz,r⟩
 .obtain ⟨z,b,n,r,e⟩:=h.ok I.hok;exact⟨b,r,⟨_,n,e,rfl,rfl,rfl⟩,z⟩
 .refine ⟨b.toList,r,⟨o,n,I.kIn a o hk,hc,hd,↑hs⟩, ?_⟩;have e:=r.length;simp only[AC5] at e;omega
def Inv.tuple (I:Inv X Sr σ H s)(h:Nj X.K H a xs):∃b:km kj,Au xs b/\IsTup s.heap a b.toArray/\xs.length<=sizeLine:=by
 rcases h with h|⟨o,b,n,hk,hc,hs,hz,r⟩
 .obtain ⟨z,b,r,p⟩:=h.ok I.hok;exact⟨b,r,p,z⟩
 .refine ⟨b.toList,r,⟨o,I.kIn a o hk,hc,n,↑hs⟩, ?_⟩;have e:=r.length;simp only[AC5] at e;omega
def Inv.list_inj (I:Inv X Sr σ H s)(h:GH X.K H a xs)(h':GH X.K H a ys):xs=ys:=by
 obtain⟨b,r,⟨o,n,e,_,_,d⟩,_⟩:=I.list h;obtain⟨its',f,⟨i,j,c,_,_,d'⟩,_⟩:=I.list h';rw[e] at c;cases c;rw[d] at d';injection d' with g _;have:b=its':=by simpa using congrArg Array.toList g
 subst this;exact r.inj f
def Inv.tuple_inj (I:Inv X Sr σ H s)(h:Nj X.K H a xs)(h':Nj X.K H a ys):xs=ys:=by
 obtain⟨b,r,⟨o,e,_,n,d⟩,_⟩:=I.tuple h;obtain⟨its',f,⟨i,c,_,j,d'⟩,_⟩:=I.tuple h';rw[e] at c;cases c;rw[d] at d';injection d' with g _;have:b=its':=by simpa using congrArg Array.toList g
 subst this;exact r.inj f
end
noncomputable abbrev Cx.wish (X:Cx)(E:kj->ki->Prop):Cx:={X with xe:=E}
noncomputable abbrev Cx.nox (X:Cx):Cx:=X.wish λ_ _=>False
def Cx.Ok.wish {X:Cx}(ok:X.Ok)(E:kj->ki->Prop):(X.wish E).Ok:=
 ⟨ok.mod,ok.kind,ok.glob,ok.blt,ok.above,ok.inj,ok.has,ok.cab,ok.hd,ok.frames,ok.stk,ok.exf,ok.bs,ok.bsz,ok.noex,ok.exfs,ok.funs,ok.frf⟩
def Cx.Ok.unwish {X:Cx}(ok:(X.wish E).Ok):X.Ok:=
 ⟨ok.mod,ok.kind,ok.glob,ok.blt,ok.above,ok.inj,ok.has,ok.cab,ok.hd,ok.frames,ok.stk,ok.exf,ok.bs,ok.bsz,ok.noex,ok.exfs,ok.funs,ok.frf⟩
section
variable {X:Cx}{Sr:km (kf×Obj)}{σ:St}{H:Hp}{s:ki}{E:kj->ki->Prop}
def Inv.wish (I:Inv X Sr σ H s)(E:kj->ki->Prop):Inv (X.wish E) Sr σ H s:=⟨I.ok.wish E,I.os,I.bare,I.base,I.loc,I.cell,I.free,I.freeC,I.pin,I.hok,I.len⟩
def Inv.unwish (I:Inv (X.wish E) Sr σ H s):Inv X Sr σ H s:=⟨I.ok.unwish,I.os,I.bare,I.base,I.loc,I.cell,I.free,I.freeC,I.pin,I.hok,I.len⟩
def SP.unwish (h:SP (X.wish E) Sr D f b):SP X Sr D f b:=by
 cases f with
 | next=>obtain⟨σ',a,I,q⟩:=h;exact⟨σ',a,I.unwish,q⟩
 | brk=>obtain⟨σ',a,I,q⟩:=h;exact⟨σ',a,I.unwish,q⟩
 | cont=>obtain⟨σ',a,I,q⟩:=h;exact⟨σ',a,I.unwish,q⟩
 | ret u=>obtain⟨v,σ',a,I,r,q⟩:=h;exact⟨v,σ',a,I.unwish,r,q⟩
def Ul.nox {st:km Stmt}{t:TS}(h:Ul X.nox st t):Ul X st t:=λSr s σ H D I hw=>
 ACE (h Sr s σ H D (I.wish _) hw) (λ_ _ q=>q.unwish) λ_ _ z=>False.elim z
end
section
variable {X:Cx}{st:Stmt}{rest:km Stmt}{t u:TS}{e:kd}{te:TE}{pos:Pos}
def oG:TS:=λD a H=>D.nx a H
def Yb (t u:TS):TS:=λD a H=>t {D with nx:=u D} a H
def Mc:Ul X [] oG:=λ_ _ a H _ I h=>AEz ⟨a,H,I,h⟩
def BW (h1:PS X st t)(h2:Ul X rest u):Ul X (st::rest) (Yb t u):=by
 intro Sr s a H D I h;refine wpAny_execs_cons (BA (h1 Sr s a H {D with nx:=u D} I h) λf b q=> ?_);cases f with
 | next=> obtain⟨σ',c,d,q⟩:=q;exact h2 Sr b σ' c D d q
 | ret v=>exact q
 | brk=>exact q
 | cont=>exact q
def Ej (h1:PS X st t):Ul X [st] t:=by
 intro Sr s a H D I h;refine wpAny_execs_cons (BA (h1 Sr s a H D I h) λf b q=> ?_);cases f with
 | next=>exact AEz q
 | ret v=>exact q
 | brk=>exact q
 | cont=>exact q
def Inv.quiet (I:Inv X Sr a H s):interactive X.env=false:=by simp[interactive,I.ok.kind]
def oE (te:TE):TS:=λD a H=>te a H λ_ H1=>D.nx a H1
def lh (he:PE X e te)(hs:swapsWith e none pos.line X.env=pure false:=by rfl):PS X (.Expr e pos) (oE te):=by intro Sr s a H D I h;exact wpAny_Expr_any (BA (he Sr s a H _ I h) λv d ⟨x,H1,b,r1,c⟩=>⟨a,H1,b,c⟩) I.quiet hs
def i0 (te:TE):TS:=λD a H=>te a H D.rt
def OT (he:PE X e te):PS X (.Return (some e) pos) (i0 te):=by intro Sr s a H D I h;exact wpAny_Return_some (BA (he Sr s a H _ I h) λv d ⟨x,H1,b,r1,c⟩=>⟨x,a,H1,b,r1,c⟩)
def wG (c:TT)(t u:TS):TS:=λD a H=>c a H λb H1=>if b=true then t D a H1 else u D a H1
def Zk (hc:PT X c g)(ha:Ul X a t)(hb:Ul X b u):PS X (.If c a b pos) (wG g t u):=by
 intro Sr s f H D I h;refine wpAny_If (BA (hc Sr s f H _ I h) λd i ⟨H1,j,k⟩=> ?_);cases d with
 | true=>exact ha Sr i f H1 D j k
 | false=>exact hb Sr i f H1 D j k
end
abbrev TG:=V->St->Hp->(St->Hp->Prop)->Prop
abbrev Wq:=km V->St->Hp->(St->Hp->Prop)->Prop
def PG (X:Cx)(target:kd)(t:TG):Prop:=
 ∀(Sr:km (kf×Obj)) (s:ki) (a:St) (H:Hp) (v:V) (u:kj) (Q:St->Hp->Prop),Inv X Sr a H s->RelV v u->t v a H Q->
  wpAny (model X.prog X.w) X.A (assign target X.env u) (λ_ c=>∃σ' b,Inv X Sr σ' b c/\Q σ' b) X.xe s
def sP (X:Cx)(ts:km kd)(t:Wq):Prop:=
 ∀(Sr:km (kf×Obj)) (s:ki) (a:St) (H:Hp) (vs:km V) (b:km kj) (Q:St->Hp->Prop),Inv X Sr a H s->Au vs b->t vs a H Q->
  wpAny (model X.prog X.w) X.A (assignInOrder ((assignEach ts X.env).map (·.2)) b) (λ_ d=>∃σ' c,Inv X Sr σ' c d/\Q σ' c) X.xe s
abbrev eQ:=V->V->V->Hp->(Hp->Prop)->Prop
def oU (X:Cx)(t:eQ):Prop:=
 ∀(Sr:km (kf×Obj)) (s:ki) (a:St) (H:Hp) (o i v:V) (b c u:kj) (Q:Hp->Prop),Inv X Sr a H s->RelV o b->RelV i c->RelV v u->t o i v H Q->
  wpAny (model X.prog X.w) X.A (setItem b c u) (λ_ e=>∃d,Inv X Sr a d e/\Q d) X.xe s
abbrev og:=V->V->Hp->VK->Prop
def oT (X:Cx)(op:Operator)(t:og):Prop:=
 ∀(Sr:km (kf×Obj)) (s:ki) (a:St) (H:Hp) (x y:V) (v u:kj) (Q:VK),Inv X Sr a H s->RelV x v->RelV y u->t x y H Q->
  wpAny (model X.prog X.w) X.A (inplaceOp op v u) (EP X Sr a Q) X.xe s
section
variable {X:Cx}{pos:Pos}
def BV (i:Nat):TG:=λv a H Q=>Q (a.set i (some v)) H
def Eh {i:Nat}(hN:X.N.Nodup)(hi:X.N[i]? =some x)(hx:Loc X.env.scope x)(a:X.fn x=true\/X.env.scope.names.lookup x=some .local:=by first | exact .inl rfl|exact .inr rfl|assumption):PG X (.Name x pos) (BV i):=by intro Sr s c H v u Q I r h;exact AFh (He I hN hi hx r (λd b=>⟨_,H,b,h⟩) a)
def MD:Wq:=λvs a H Q=>vs= [] /\Q a H
def C3 (t:TG)(u:Wq):Wq:=λvs a H Q=>∃v r,vs=v::r/\t v a H λσ' b=>u r σ' b Q
def J3:sP X [] MD:=by intro Sr s a H vs b Q I r h;obtain⟨e,h⟩:=h;subst e;cases r;exact assignInOrder_nil ⟨a,H,I,h⟩
def Dm {t:TG}(h1:PG X e t)(h2:sP X es u)(hs:(assignEach (e::es) X.env).map (·.2)=assign e X.env::(assignEach es X.env).map (·.2):=by rfl):sP X (e::es) (C3 t u):=by
 intro Sr s b H vs j Q I r h;obtain⟨v,k,c,h⟩:=h;subst c;cases r with
 | cons r d=> rw[hs];refine assignInOrder_cons (BA (h1 Sr s b H _ _ _ I r h) λ_ f ⟨a,H1,g,i⟩=> ?_);exact h2 Sr f a H1 _ _ Q g d i
def xv (b c:TE)(t:eQ):TG:=λv a H Q=>b a H λo H1=>c a H1 λi d=>t o i v d λe=>Q a e
def X2 {t:eQ}(f:PE X o d)(hi:PE X i e)(hs:oU X t)(ha:∀v,assign (.Subscript o i pos) X.env v=(do
   let a <-holding [v] (eval o X.env);let b <-holding [v,a] (eval i X.env)
   standAt pos
   holding [v,a,b] (setItem a b v)
   release [v,a,b] []):=by intro _;rfl):PG X (.Subscript o i pos) (xv d e t):=by intro Sr s c H v u Q I r h;rw[ha];refine AAI (AAp (BA (f Sr s c H _ I h) λa g ⟨x,H1,j,r1,k⟩=> ?_));refine AAI (AAp (BA (hi Sr g c H1 _ j k) λb l ⟨y,m,n,r2,p⟩=> ?_));refine AAI (ACF (AAI (AAp (BA (hs Sr l c m x y v a b u _ n r1 r2 r p) λ_ B ⟨w,z,A⟩=> ?_))));exact wpAny_release ⟨c,w,z,A⟩
def QF (te:TE)(g:TG):TS:=λD a H=>te a H λx H1=>g x a H1 D.nx
def TH (he:PE X e te)(c:PG X a g)(hs:swapsWithSole [a] e pos.line X.env=pure false:=by rfl)(hw:swappedStores [a] e X.env=pure none:=by rfl)(h1:(assignEach [a] X.env).map (·.2)= [assign a X.env] :=by rfl):PS X (.Assign [a] e pos) (QF te g):=by intro Sr s b H D I h;refine wpAny_Assign_stores (BA (he Sr s b H _ I h) λv d ⟨x,H1,f,r1,i⟩=> ?_) hs hw;rw[h1];exact BA (c Sr d b H1 x v _ f r1 i) λ_ j q=>q
def Fh {i:Nat}(hN:X.N.Nodup)(hi:X.N[i]? =some x)(hx:Loc X.env.scope x)(he:PE X e te)(hs:swapsWith e (some (.Name x pos')) pos.line X.env=pure false:=by rfl)(a:X.fn x=true\/X.env.scope.names.lookup x=some .local:=by first | exact .inl rfl|exact .inr rfl|assumption):PS X (.Assign [.Name x pos'] e pos) (QF te (BV i)):=by intro Sr s b H D I h;refine wpAny_Assign_Name (BA (he Sr s b H _ I h) λv g ⟨y,H1,c,r1,d⟩=> ?_) hs;exact He c hN hi hx r1 (λj f=>⟨_,H1,f,d⟩) a
def zG (i j:Nat)(b:TA):TS:=λD a H=>b a H λvs H1=>∃v w,vs= [v,w] /\D.nx ((a.set i (some v)).set j (some w)) H1
def qj {i j:Nat}{y:Str}{a b:kd}{k:Pos}{kt k2 pt2}(hc:X.calm=true)(hN:X.N.Nodup)(hi:X.N[i]? =some x)(hj:X.N[j]? =some y)(z:i≠j)(hx:X.env.scope.names.lookup x=some .local)(hy:X.env.scope.names.lookup y=some .local)(ha:PA X [a,b] r)(hw:swappedStores [.Tuple [.Name x g, .Name y k] kt l] (.Tuple [a,b] k2 pt2) X.env=pure (some [x,y]))(hs:swapsWithSole [.Tuple [.Name x g, .Name y k] kt l] (.Tuple [a,b] k2 pt2) pos.line X.env=pure false:=by rfl):PS X (.Assign [.Tuple [.Name x g, .Name y k] kt l] (.Tuple [a,b] k2 pt2) pos) (zG i j r):=by
 intro Sr s t H D I h;rw[exec_Assign_arm];refine AAI (ACF ?_);rw[hs];refine AAI (AAK ?_);rw[AAL (!1)];refine AAI (Tuple_ (BA (ha _ Sr s t H _ I h) λB c ⟨vs,H1,C,r1,m⟩=> ?_));obtain⟨v,w,E,m⟩:=m;subst E;obtain⟨d,f,rfl,rv,n⟩:∃d f,B= [d,f] /\RelV v d/\RelV w f:=by
  cases r1 with
  | cons p q=>
    cases q with
    | cons F G=> cases G;exact⟨_,_,rfl,p,F⟩
 refine AB9 ?_ (by show 2<=sizeLine;decide);have J:Inv X Sr t H1 {c with heap:=c.heap.push {cls:= .type "tuple",data:= .seq [d,f].toArray}}:=C.kept (t':=c.toks) λb o e=>AAP _ e;rw[hw];refine AAI (AAK ?_);show wpAny (model X.prog X.w) X.A (do rule "assign.swapped-stores";let items <-unpackItems (.ref c.heap.objs.size) 2 none;assignInOrder [λv=>bindName X.env y v,λv=>bindName X.env x v] items.reverse;pure Flow.next) _ _ _;refine AAI (ACK (AAI (unpackItems_tuple (items:= #[d,f]) (I.ok.hd hc) (IsTup.new c.heap _) λh' K=> ?_)));have L:=J.kept (h':=h') (t':=c.toks) λb o e=>K b o (AAQ (AAN e)) e;show wpAny _ _ (assignInOrder [λv=>bindName X.env y v,λv=>bindName X.env x v] [f,d] >>= λ_=>pure Flow.next) _ _ _;refine AAI (assignInOrder_cons (wpAny_bindName (He L hN hj (.inl hy) n (λO M=> ?_) (.inr hy))));refine assignInOrder_cons (wpAny_bindName (He M hN hi (.inl hx) rv (λP u=>assignInOrder_nil (AAK ?_)) (.inr hx)));rw[List.set_comm _ _ (AA6 z)] at u;exact⟨_,H1,u,m⟩
def yz (i:Nat)(te:TE)(b:og):TS:=λD a H=>∃x,a[i]? =some (some x)/\te a H λy H1=>b x y H1 λz c=>D.nx (a.set i (some z)) c
def qi {i:Nat}(hN:X.N.Nodup)(hi:X.N[i]? =some x)(hx:Loc X.env.scope x)(he:PE X e te)(j:oT X op f)(n:X.fn x=true\/X.env.scope.names.lookup x=some .local:=by first | exact .inl rfl|exact .inr rfl|assumption):PS X (.AugAssign (.Name x pos') op e pos) (yz i te f):=by
 intro Sr s g H D I h;obtain⟨v,o,h⟩:=h;obtain⟨m,p,hl⟩:=I.loc;have d:nK X.env.scope x:=by rcases hx with k|k;exact .inl k;exact .inr (.inl k)
 obtain⟨u,r,l⟩:=hl i x v hi o d;refine wpAny_AugAssign_Name ?_;have go:wpAny (model X.prog X.w) X.A (eval e X.env) (λw a=>wpAny (model X.prog X.w) X.A (inplaceOp op u w) (λr b=>wpAny (model X.prog X.w) X.A (storeName X.env x r) (λ_=>SP X Sr D .next) X.xe b) X.xe a) X.xe s:=by refine BA (he Sr s g H _ I h) λw t ⟨y,H1,B,r1,C⟩=> ?_;refine BA (j Sr t g H1 v y u w _ B r r1 C) λz M ⟨O,E,F,r2,G⟩=> ?_;exact He F hN hi hx r2 (λP J=>⟨_,E,J,G⟩) n
 rcases l with⟨hk,K⟩|⟨hk,c,hc,L⟩
 .exact wpAny_loadName_local I.ok.kind hk p K go
 .rcases hk with hk|hk
  .exact wpAny_loadName_cell I.ok.kind hk hc L go
  .rcases hx with k|k
   .have:X.env.scope.names.lookup x=some .free:=hk;rw[k] at this;cases this
   .have:X.env.scope.names.lookup x=some .free:=hk;rw[k] at this;cases this
def wE (e f te:TE)(a:V->V->Hp->VK->Prop)(d:og)(b:eQ):TS:=λD c H=>e c H λo H1=>f c H1 λi g=>a o i g λx h=>te c h λy j=>d x y j λz k=>b o i z k λl=>D.nx c l
def tq (X:Cx)(t:V->V->Hp->VK->Prop):Prop:=
 ∀(Sr:km (kf×Obj)) (s:ki) (a:St) (H:Hp) (o i:V) (b c:kj) (Q:VK),Inv X Sr a H s->RelV o b->RelV i c->t o i H Q->
  wpAny (model X.prog X.w) X.A (getItem b c) (EP X Sr a Q) X.xe s
def lc (r:PE X o l)(hi:PE X i m)(t:tq X a)(he:PE X e te)(hp:oT X op g)(hs:oU X b)(ha:∀c d new,augStore i c d new=(do holding [new,c,d] (setItem c d new);release [new,c,d] [];pure .next):=by intros;rfl):PS X (.AugAssign (.Subscript o i j) op e pos) (wE l m te a g b):=by intro Sr s f H D I h;refine wpAny_AugAssign_SubscriptAny (BA (r Sr s f H _ I h) λc u ⟨n,H1,w,r1,x⟩=> ?_) ha;refine BA (hi Sr u f H1 _ w x) λd y ⟨p,z,A,r2,B⟩=> ?_;refine BA (t Sr y f z n p c d _ A r1 r2 B) λk C ⟨E,F,G,J,K⟩=> ?_;refine BA (he Sr C f F _ G K) λv L ⟨M,N,O,P,Q⟩=> ?_;refine BA (hp Sr L f N E M k v _ O J P Q) λnew R ⟨S,T,U,W,Y⟩=> ?_;exact BA (hs Sr R f T n p S c d new _ U r1 r2 W Y) λ_ s6 ⟨Z,I6,q6⟩=>⟨f,Z,I6,q6⟩
def ye (f:Int->Int->Int):og:=λx y H Q=>∃i j,x= .int i/\y= .int j/\Q (.int (f i j)) H
def gA:oT X .Add (ye λi j=>i+j):=by intro Sr s c H x y v u Q I r1 r2 h;obtain⟨i,j,a,b,q⟩:=h;subst a;subst b;obtain⟨t,rfl⟩:=r1;obtain⟨t',rfl⟩:=r2;exact iadd_int ⟨.int _,H,I.tok _,⟨_,rfl⟩,q⟩
def sA (c:TT)(f:TS):TS:=λD a H=>∃W:Nat->St->Hp->Prop,(∃m,W m a H)/\∀m a H,W m a H->
 c a H λb H1=>if b=true then ∃N:St->Hp->Prop,(∀σ' d,N σ' d->∃e,e<m/\W e σ' d)/\f {D with nx:=N,ct:=N,bk:=D.nx} a H1 else D.nx a H1
def hZ (hp:PassesOwn (model X.prog X.w) X.A X.env X.xe)(hc:PT X c p)(hb:Ul X body r):PS X (.While c body [] pos) (sA p r):=by
 intro Sr s y H D I h;obtain⟨W,⟨m0,z⟩,turn⟩:=h;refine wpAny_While (codeAny_whileLoop (λn B=>∃σ' t,Inv X Sr σ' t B/\W n σ' t) ?_ m0 ⟨y,H,I,z⟩);rintro n C ⟨d,H1,E,F⟩;refine ADV hp (BA (hc Sr C d H1 _ E (turn n d H1 F)) λb G ⟨u,x,g⟩=> ?_);cases b with
 | true=>
   obtain⟨N,hN,g⟩:=g;rw[AAM rfl];refine ADV hp (BA (hb Sr G d u _ x g) λf J i=> ?_);cases f with
   | next=> obtain⟨a,e,j,k⟩:=i;obtain⟨l,m,o⟩:=hN a e k;exact⟨l,m,a,e,j,o⟩
   | cont=> obtain⟨a,e,j,k⟩:=i;obtain⟨l,m,o⟩:=hN a e k;exact⟨l,m,a,e,j,o⟩
   | brk=>exact i
   | ret v=>exact i
 | false=> rw[AAL AAY];exact AEz ⟨d,u,x,g⟩
end
structure It where
 go:Nat->Hp->Prop
 yld:Nat->Hp->V->Hp->Prop
 stop:Nat->Hp->Prop
def Ef (X:Cx)(Sr:km (kf×Obj))(H:Hp)(b:kf):Prop:=
 H b=none/\b≠X.env.locals/\b ∉ X.fs/\(b∈X.ex\/X.s₀.heap.objs.size<=b)/\(∀x c,X.env.cells.lookup x=some c->c≠b)/\∀p∈X.pn++Sr,p.1≠b
def Inv.fpOk {a:Hp}{b:kf}(I:Inv X Sr d H s)(hb:s.heap.objs.size<=b)(f:a b=none):Ef X Sr a b:=by
 refine⟨f,AAx (AAf I.lt hb),I.nofs hb, .inr (AAg I.sz hb),λx c e z=> ?_,λp hp z=> ?_⟩
 .obtain ⟨v,q⟩:=I.cell x c e;exact absurd (AAf q.lt (by rw[z];exact hb)) (ACd _)
 .exact absurd (AAf (AAN (I.pin p hp).1) (by rw[z];exact hb)) (ACd _)
structure Hu (P:Program) (w:World) (K:AAJ) (tg:Expr) (J:It) (fp:List Addr) (it:Addr) (tn:Nat->Heap->Prop):Prop where
 mem:it∈fp
 obj:∀i h,tn i h->∀b∈fp,∃o,h.get? b=some o/\∀v,o.data≠ .cell v
 keep:∀i h h',tn i h->(∀b∈fp,∀o,h.get? b=some o->h'.get? b=some o)->tn i h'
 item:∀(X:Cx),X.prog=P->X.w=w->X.K=K->X.calm=true->∀(i:Nat) (Sr:List (Addr×Obj)) (s:Shared) (σ:St) (H:Hp) (E:Value->Shared->Prop),Inv X Sr σ H s->(∀b∈fp,Ef X Sr H b)->tn i s.heap->J.go i H->
  wpAny (model P w) X.A (pyNext (.ref it)) (λr s1=>∃u,r=some u/\
   wpAny (model P w) X.A (letOwnedTupleGo tg (.ref it) u) (λ_ s2=>∃x H',Inv X Sr σ H' s2/\RelV x u/\J.yld i H x H'/\tn (i+1) s2.heap/\∀b∈fp,H' b=none) E s1) E s
 done:∀(X:Cx),X.prog=P->X.w=w->X.K=K->X.calm=true->∀(i:Nat) (Sr:List (Addr×Obj)) (s:Shared) (σ:St) (H:Hp) (E:Value->Shared->Prop),Inv X Sr σ H s->(∀b∈fp,Ef X Sr H b)->tn i s.heap->J.stop i H->
  wpAny (model P w) X.A (pyNext (.ref it)) (λr s1=>r=none/\Inv X Sr σ H s1) E s
 self:∀(A:Around) (i:Nat) (s:Shared) (Q:Value->Shared->Prop) (E:Value->Shared->Prop),tn i s.heap->Q (.ref it) s->wpAny (model P w) A (pyIter (.ref it)) Q E s
abbrev TI:=St->Hp->(It->Hp->Prop)->Prop
def PIE (X:Cx)(Sr:km (kf×Obj))(f:St)(g:kd)(R:It->Hp->Prop)(a:kj)(d:ki):Prop:=
 ∃(it:kf) (e:km kf) (tn:Nat->Wf->Prop) (J:It) (c:Hp),a= .ref it/\Inv X Sr f c d/\Hu X.prog X.w X.K g J e it tn/\tn 0 d.heap/\(∀b∈e,Ef X Sr c b)/\R J c
def PI (X:Cx)(b iter:kd)(c:TI):Prop:=
 ∀(Sr:km (kf×Obj)) (s:ki) (a:St) (H:Hp) (R:It->Hp->Prop),Inv X Sr a H s->c a H R->
  wpAny (model X.prog X.w) X.A (eval iter X.env) (λv d=>wpAny (model X.prog X.w) X.A (pyIter v) (PIE X Sr a b R) X.xe d) X.xe s
def ZD {s:ki}{Q:Unit->ki->Prop}(b:s.heap.get? it=some o)(hc:o.cls= .type n)(hd:o.data= .fields vs)(c: ["enumerate","zip","dict_itemiterator","dict_reverseitemiterator","odict_iterator","itertools.zip_longest","itertools.pairwise"].contains n=false)(hQ:Q () s):wpAny M A (letOwnedTupleGo a (.ref it) u) Q E s:=by
 unfold letOwnedTupleGo;cases a <;> first
  | exact AAK hQ
  | (cases u <;> first
      | exact AAK hQ
      | (refine AAI (wpAny_load b ?_)
         rw[hc,hd];show wpAny M A (if (["enumerate","zip","dict_itemiterator","dict_reverseitemiterator","odict_iterator","itertools.zip_longest","itertools.pairwise"].contains n&&vs[0]?==some (rawInt _))=true then _ else _) Q E s;rw[AAL (by intro h;rw[c,Bool.false_and] at h;cases h)];exact AAK hQ))
def xY (K:AAJ)(a:kf):It:=
 ⟨λi H=>∃xs x,GH K H a xs/\xs[i]? =some x,λi H x b=>b=H/\∀xs,GH K H a xs->xs[i]? =some x,λi H=>∃xs,GH K H a xs/\xs.length<=i⟩
def xZ (K:AAJ)(a:kf):It:=
 ⟨λi H=>∃xs x,Nj K H a xs/\xs[i]? =some x,λi H x b=>b=H/\∀xs,Nj K H a xs->xs[i]? =some x,λi H=>∃xs,Nj K H a xs/\xs.length<=i⟩
def tV (lo:Int)(n:Nat):It:=⟨λi _=>i<n,λi H x a=>a=H/\x= .int (lo+i),λi _=>n<=i⟩
def dC {K:AAJ}(a it:kf):Hu P w K B (xY K a) [it] it (λi h=>h.IsListIter it a i) where
 mem:=!2
 obj:=λi h st b hb=>by
  have e:b=it:=↑hb
  subst e;obtain⟨o,e,c,d⟩:=st;exact⟨o,e,λv z=>by rw[d] at z;cases z⟩
 keep:=λi h h' st k=>st.at λo e=>k it (!2) o e
 item:=by intro X j hw l hc i Sr s A H E I g st m;subst j hw l;obtain⟨xs,x,hq,hx⟩:=m;obtain⟨n,rv,p,hz⟩:=I.list hq;obtain⟨u,hu,C⟩:=rv.get hx;obtain⟨f0,f1,f2,r,t,y⟩:=g it (!2);refine wpAny_pyNext_list_item st p.isList (x:=u) (↑hu) λh' f D=> ?_;have F:Inv X Sr A H {s with heap:=h'}:=I.turned (t':=s.toks) (λb o hb e=>(D.2 b hb).trans e) f0 f1 r t y;obtain⟨o,e,c,d⟩:=id f;exact⟨u,rfl,ZD (s:={s with heap:=h'}) e c d (!1) ⟨x,H,F,C,⟨rfl,λys hy=>by rw[I.list_inj hy hq];exact hx⟩,f,λb hb=>(g b hb).1⟩⟩
 done:=by intro X j hw l hc i Sr s A H E I g st m;subst j hw l;obtain⟨xs,hq,hx⟩:=m;obtain⟨n,rv,p,hz⟩:=I.list hq;obtain⟨f0,f1,f2,r,t,y⟩:=g it (!2);have hl:=rv.length;exact wpAny_pyNext_list_end (I.ok.hd hc) st p.isList (by simp;omega) λh' G=>⟨rfl,I.turned (t':=s.toks) (λb o hb e=>G b o hb e) f0 f1 r t y⟩
 self:=λ_ _ _ _ _ st h=>wpAny_pyIter_listiter st h
def Yi {K:AAJ}(a it:kf):Hu P w K B (xZ K a) [it] it (λi h=>h.IsTupleIter it a i) where
 mem:=!2
 obj:=λi h st b hb=>by
  have e:b=it:=↑hb
  subst e;obtain⟨o,e,c,d⟩:=st;exact⟨o,e,λv z=>by rw[d] at z;cases z⟩
 keep:=λi h h' st k=>st.at λo e=>k it (!2) o e
 item:=by intro X l hw m hc i Sr s A H E I j st n;subst l hw m;obtain⟨xs,x,hq,hx⟩:=n;obtain⟨f,rv,p,hz⟩:=I.tuple hq;obtain⟨u,hu,C⟩:=rv.get hx;obtain⟨f0,f1,f2,r,t,y⟩:=j it (!2);refine wpAny_pyNext_tuple_item st (show s.heap.IsTuple a f.toArray from p) (x:=u) (↑hu) λh' g D=> ?_;have F:Inv X Sr A H {s with heap:=h'}:=I.turned (t':=s.toks) (λb o hb e=>(D.2 b hb).trans e) f0 f1 r t y;obtain⟨o,e,c,d⟩:=id g;exact⟨u,rfl,ZD (s:={s with heap:=h'}) e c d (!1) ⟨x,H,F,C,⟨rfl,λys hy=>by rw[I.tuple_inj hy hq];exact hx⟩,g,λb hb=>(j b hb).1⟩⟩
 done:=by intro X l hw m hc i Sr s A H E I j st n;subst l hw m;obtain⟨xs,hq,hx⟩:=n;obtain⟨f,rv,p,hz⟩:=I.tuple hq;obtain⟨f0,f1,f2,r,t,y⟩:=j it (!2);have hl:=rv.length;exact wpAny_pyNext_tuple_end (I.ok.hd hc) st (show s.heap.IsTuple a f.toArray from p) (by simp;omega) λh' G=>⟨rfl,I.turned (t':=s.toks) (λb o hb e=>G b o hb e) f0 f1 r t y⟩
 self:=λ_ _ _ _ _ st h=>wpAny_pyIter_tupleiter st h
def Yh {P:gn}{K:AAJ}(it:kf)(lo:Int)(n:Nat):Hu P w K u (tV lo n) [it] it (λi h=>IsRangeIter h it (lo+(i:Nat)*1) ((n:Int)-(i:Nat)) 1) where
 mem:=!2
 obj:=λi h st b hb=>by
  have e:b=it:=↑hb
  subst e;exact⟨_,st,λv z=>by
   have x:Data.fields _=Data.cell v:=z;cases x⟩
 keep:=λi h h' st k=>k it (!2) _ st
 item:=by intro X d hw f hc i Sr s p H E I c st g;subst d hw f;obtain⟨f0,f1,f2,j,l,m⟩:=c it (!2);have W:=Walks.range (prog:=X.prog) (w:=X.w) (I.ok.hd hc) it lo 1 n;refine W.item i s _ _ g st λv h' r hv a y=> ?_;obtain⟨t,rfl⟩:=hv;have A:Inv X Sr p H {s with heap:=h',toks:=r}:=I.turned (λb o hb e=>y b o (↑hb) e) f0 f1 j l m;refine⟨_,rfl,ZD (s:={s with heap:=h',toks:=r}) (n:="range_iterator") a rfl rfl (!1) ⟨.int (lo+i),H,A,⟨t, ?_⟩,⟨rfl,rfl⟩,a,λb hb=>(c b hb).1⟩⟩;rw[ADW]
 done:=by intro X d hw f hc i Sr s p H E I c st g;subst d hw f;obtain⟨f0,f1,f2,j,l,m⟩:=c it (!2);exact wpAny_pyNext_range_end (I.ok.hd hc) st (by have:n<=i:=g;omega) λh' B=>⟨rfl,I.turned (t':=s.toks) (λb o hb e=>B b o hb e) f0 f1 j l m⟩
 self:=λ_ _ _ _ _ st h=>wpAny_pyIter_rangeiter st h
section
variable {X:Cx}{tg:kd}
def Vy {R:It->Hp->Prop}{lo hi:Int}{t u v:Tok}{c:Nat}(I:Inv X Sr a H s)(h1: -(2^62)<=lo)(h2:lo<2^62)(h3: -(2^62)<=hi)(f:hi<2^62)(q:R (tV lo (hi-lo).toNat) H):wpAny (model X.prog X.w) X.A (pyIter (.ref s.heap.objs.size)) (PIE X Sr a tg R) E {s with heap:=s.heap.push {cls:= .type "range",data:= .fields #[.int lo t, .int hi u, .int 1 v] },toks:=c}:=by
 refine wpAny_pyIter_range (IsRange.new ..) (small_one h1 h2 h3 f) ?_;have d:Inv X Sr a H {s with heap:=s.heap.push {cls:= .type "range",data:= .fields #[.int lo t, .int hi u, .int 1 v] },toks:=c}:=I.kept λb o e=>AAP _ e;refine⟨(s.heap.push {cls:= .type "range",data:= .fields #[.int lo t, .int hi u, .int 1 v] }).objs.size, [(s.heap.push {cls:= .type "range",data:= .fields #[.int lo t, .int hi u, .int 1 v] }).objs.size],_,_,H,rfl,
  d.kept (t':=c) λb o e=>AAP _ e,Yh _ lo (hi-lo).toNat, ?_,λb hb=> ?_,q⟩
 .have g:lo+((0:Nat):Int)*1=lo:=!2
  have h:(((hi-lo).toNat:Nat):Int)-((0:Nat):Int)=Builtin.Range.rangeSize lo hi 1:=by rw[rangeSize_one];split <;> omega
  show IsRangeIter _ _ (lo+((0:Nat):Int)*1) ((((hi-lo).toNat:Nat):Int)-((0:Nat):Int)) 1;rw[g,h];exact AAV _ rfl
 .have e:b=(s.heap.push {cls:= .type "range",data:= .fields #[.int lo t, .int hi u, .int 1 v] }).objs.size:=↑hb
  subst e;exact d.fpOk (AAR _) (d.hok.fresh (AAR _))
def ui (a:TA):TI:=λb H R=>a b H λvs H1=>∃j:Int,vs= [.int j] /\ -(2^62)<=j/\j<2^62/\R (tV 0 j.toNat) H1
def uj (a:TA):TI:=λb H R=>a b H λvs H1=>∃i j:Int,vs= [.int i, .int j] /\(-(2^62)<=i/\i<2^62/\ -(2^62)<=j/\j<2^62)/\R (tV i (j-i).toNat) H1
def cX {a:kd}{p:Pos}(d:Gl X "range")(f:X.mg "range" =none)(ha:PA X [a] c)(hs:starEach [a] X.env= [(false,eval a X.env)] :=by rfl):PI X tg (.Call (.Name "range" p) [a] [] pos) (ui c):=by
 intro Sr s g H R I h;refine Call_ (Ih I d f boot_range (ADi (BA (ha pos Sr s g H _ I h) λm n ⟨vs,H1,i,r1,b⟩=> ?_) hs rfl));obtain⟨j,e,b,k,q⟩:=b;subst e;cases r1 with
 | cons r l=> cases l;obtain⟨t,rfl⟩:=r;exact call_range_1 (Vy i (!0) (!0) b k (↑q))
def cY {a b:kd}{p:Pos}(k:Gl X "range")(l:X.mg "range" =none)(ha:PA X [a,b] f)(hs:starEach [a,b] X.env= [(false,eval a X.env),(false,eval b X.env)] :=by rfl)(g:starEach [b] X.env= [(false,eval b X.env)] :=by rfl):PI X tg (.Call (.Name "range" p) [a,b] [] pos) (uj f):=by
 intro Sr s m H R I h;refine Call_ (Ih I k l boot_range (ADi (BA (ha pos Sr s m H _ I h) λx y ⟨vs,H1,n,r1,c⟩=> ?_) (by rw[hs,g]) (by rw[g];rfl)));obtain⟨i,j,e,⟨c,o,u,v⟩,q⟩:=c;subst e;cases r1 with
 | cons r d=>
   cases d with
   | cons w d=> cases d;obtain⟨t,rfl⟩:=r;obtain⟨t',rfl⟩:=w;exact call_range_2 (Vy n c o u v q)
def rm (e:TI)(g:TG)(f:TS):TS:=λD a H=>e a H λJ H1=>∃W:Nat->Nat->St->Hp->Prop,(∃m,W 0 m a H1)/\∀i m a H,W i m a H->
 (J.stop i H/\D.nx a H)\/(J.go i H/\∃N:St->Hp->Prop,(∀σ' b,N σ' b->∃d,d<m/\W (i+1) d σ' b)/\∀x b,J.yld i H x b->g x a b λc h=>f {D with nx:=N,ct:=N,bk:=D.nx} c h)
noncomputable def Ff (a:km kf)(h:Wf):km (kf×Obj):=a.filterMap λb=>(h.get? b).map λo=>(b,o)
def B5 {a:km kf}{h:Wf}{b:kf}(hb:b∈a)(e:h.get? b=some o):(b,o)∈Ff a h:=List.mem_filterMap.mpr ⟨b,hb,by rw[e];rfl⟩
def cK {p:kf×Obj}(hp:p∈Ff a h):p.1∈a/\h.get? p.1=some p.2:=by
 obtain⟨b,hb,e⟩:=List.mem_filterMap.mp hp;cases q:h.get? b with
 | none=>rw[q] at e;cases e
 | some o=> rw[q] at e;have c:(b,o)=p:=AAt e;subst c;exact⟨hb,q⟩
def Inv.pinned {a:km kf}(I:Inv X Sr c H s)(g:∀b∈a,Ef X Sr H b)(h:∀b∈a,∃o,s.heap.get? b=some o/\∀v,o.data≠ .cell v):Inv X (Sr++Ff a s.heap) c H s:=
 I.pins_of λp hp=>(AAX.mp hp).elim (λz=>I.pin p (AAj _ z)) λz=>by obtain⟨hb,e⟩:=cK z;obtain⟨f0,f1,f2,_⟩:=g p.1 hb;obtain⟨o,f,d⟩:=h p.1 hb;rw[e] at f;cases f;exact⟨e,f0,f1,f2,d⟩
def Inv.unpinned {Sr b:km (kf×Obj)}(I:Inv X (Sr++b) a H s):Inv X Sr a H s:=I.pins_of λp hp=>I.pin p (AAj _ (List.mem_append_left _ hp))
def X5 {iter:kd}(hp:PassesOwn (model X.prog X.w) X.A X.env X.xe)(hc:X.calm=true)(hi:PI X tg iter Q)(hg:PG X tg g)(hb:Ul X body R)(hs:∀x,foldedSetIterable iter X.env x=pure x:=by intro _;rfl):PS X (.For tg iter body [] pos) (rm Q g R):=by
 intro Sr s S H D I h;refine wpAny_For (BA (hi Sr s S H _ I h) λv s1 h1=>BA h1 λitv s2 h2=> ?_) hs;obtain⟨it,z,tn,J,H2,e,I2,T,G,f2,W,⟨m0,w0⟩,turn⟩:=h2;subst e;have c:∀{p:Hp},(∀b∈z,p b=none)->∀b∈z,Ef X Sr p b:=λhn b hb=>⟨hn b hb,(f2 b hb).2⟩;refine codeAny_forLoop_any (λn U=>∃i σ' p,Inv X Sr σ' p U/\tn i U.heap/\(∀b∈z,p b=none)/\W i n σ' p) ?_ m0 ⟨0,S,H2,I2,G,λb hb=>(f2 b hb).1,w0⟩;rintro n Y ⟨i,j,F,Z,B,C,w3⟩;rcases turn i n j F w3 with⟨stop,qn⟩|⟨go,N,hN,step⟩
 .refine ADV hp (BA (T.done X rfl rfl rfl hc i Sr Y j F X.xe Z (c C) B stop) λr s4 ⟨K,I4⟩=> ?_);subst K;exact AEz ⟨j,F,I4,qn⟩
 .refine ADV hp (BA (T.item X rfl rfl rfl hc i Sr Y j F X.xe Z (c C) B go) λr s4 ⟨u,K,h4⟩=> ?_);subst K;refine ADV hp (BA h4 λ_ s5 ⟨x,H5,I5,r5,y5,y,L⟩=> ?_);have M:=I5.pinned (c L) (T.obj _ _ y);refine ADV hp (BA (hg _ s5 j H5 x u _ M r5 (step x H5 y5)) λ_ s6 ⟨O,H6,I6,q6⟩=> ?_);refine ADV hp (BA (hb _ s6 O H6 _ I6 q6) λf P t=> ?_);have again:∀{a:St} {k:Hp},Inv X (Sr++Ff z s5.heap) a k P->N a k->∃m,m<n/\∃i σ' p,Inv X Sr σ' p P/\tn i P.heap/\(∀b∈z,p b=none)/\W i m σ' p:=λ{a k} l E=>by obtain⟨m',hm,w7⟩:=hN a k E;refine⟨m',hm,i+1,a,k,l.unpinned,T.keep _ _ _ y λb hb o e=>(l.pin (b,o) (AAj _ (AAj _ (B5 hb e)))).1,λb hb=> ?_,w7⟩;obtain⟨o,e,d⟩:=T.obj _ _ y b hb;exact(l.pin (b,o) (AAj _ (AAj _ (B5 hb e)))).2.1
  cases f with
  | next=>obtain⟨a,k,l,E⟩:=t;exact again l E
  | cont=>obtain⟨a,k,l,E⟩:=t;exact again l E
  | brk=>obtain⟨a,k,l,t⟩:=t;exact⟨a,k,l.unpinned,t⟩
  | ret v=>obtain⟨x7,a,k,l,r7,t⟩:=t;exact⟨x7,a,k,l.unpinned,r7,t⟩
end
abbrev R2:=V->V->Hp->VK->Prop
def Ea (X:Cx)(f:kj->kj->Sem kj)(r:R2):Prop:=
 ∀(Sr:km (kf×Obj)) (s:ki) (a:St) (H:Hp) (x y:V) (v u:kj) (Q:VK),Inv X Sr a H s->RelV x v->RelV y u->r x y H Q->
  wpAny (model X.prog X.w) X.A (f v u) (EP X Sr a Q) X.xe s
def xl (X:Cx)(f:kj->Sem kj)(r:V->Hp->VK->Prop):Prop:=
 ∀(Sr:km (kf×Obj)) (s:ki) (a:St) (H:Hp) (x:V) (v:kj) (Q:VK),Inv X Sr a H s->RelV x v->r x H Q->
  wpAny (model X.prog X.w) X.A (f v) (EP X Sr a Q) X.xe s
def C8 (X:Cx)(f:kj)(r:km V->Hp->VK->Prop):Prop:=
 ∀(Sr:km (kf×Obj)) (s:ki) (a:St) (H:Hp) (xs:km V) (b:km kj) (Q:VK),Inv X Sr a H s->Au xs b->r xs H Q->
  wpAny (model X.prog X.w) X.A (call f b) (EP X Sr a Q) X.xe s
def c6 (r:R2)(b c:TE):TE:=λa H Q=>b a H λx H1=>c a H1 λy d=>r x y d Q
def tUn (r:V->Hp->VK->Prop)(a:TE):TE:=λb H Q=>a b H λx H1=>r x H1 Q
def rI (C:Int->Int->Prop)(g:Int->Int->V):R2:=λx y H Q=>∃i j,x= .int i/\y= .int j/\C i j/\Q (g i j) H
def Me (g:Int->Int->V):R2:=λx y H Q=>∃i j,x= .int i/\y= .int j/\Q (g i j) H
def rU (g:Int->V):V->Hp->VK->Prop:=λx H Q=>∃i,x= .int i/\Q (g i) H
section
variable {X:Cx}{a b c:kd}{ta tb tc:TE}{pos:Pos}
def pA (ha:PE X a ta)(hb:PE X b tb){R:V->V->Hp->Prop}(I:Inv X Sr d H s)(h:ta d H λx H1=>tb d H1 λy e=>R x y e){f:kj->kj->Sem kj}(k:∀v u j x y e,Inv X Sr d e j->RelV x v->RelV y u->R x y e->wpAny (model X.prog X.w) X.A (f v u) Q X.xe j):wpAny (model X.prog X.w) X.A (eval a X.env) (λv g=>wpAny (model X.prog X.w) X.A (eval b X.env) (λu i=>wpAny (model X.prog X.w) X.A (f v u) Q X.xe i) X.xe g) X.xe s:=by refine BA (ha Sr s d H _ I h) λv l ⟨x,H1,m,r1,n⟩=> ?_;refine BA (hb Sr l d H1 _ m n) λu j ⟨y,e,o,r2,p⟩=> ?_;exact k v u j x y e o r1 r2 p
def Bn {op:Operator}(d:Ea X (binaryOp op) r)(ha:PE X a ta)(hb:PE X b tb):PE X (.BinOp a op b pos) (c6 r ta tb):=by intro Sr s e H Q I h;exact wpAny_BinOp (pA ha hb I h λv u f x y g i j k q=>d Sr f e g x y v u Q i j k q)
def vI (e:xl X (unaryOp op) r)(ha:PE X a ta):PE X (.UnaryOp op a pos) (tUn r ta):=by intro Sr s d H Q I h;exact UnaryOp_ (BA (ha Sr s d H _ I h) λv f ⟨x,H1,g,r1,i⟩=>e Sr f d H1 x v Q g r1 i)
def qS {f:kj->kj->Sem kj}{C:Int->Int->Prop}{g:Int->Int->Int}(rule:∀(i j:Int) (t u:Tok) (s:ki) (Q:kj->ki->Prop) (E:kj->ki->Prop),C i j->Q (.int (g i j) s.toks) {s with toks:=s.toks+1}->wpAny (model X.prog X.w) X.A (f (.int i t) (.int j u)) Q E s):Ea X f (rI C λi j=> .int (g i j)):=by intro Sr s k H x y v u Q I d e h;obtain⟨i,j,rfl,rfl,hc,q⟩:=h;obtain⟨t,rfl⟩:=d;obtain⟨t',rfl⟩:=e;exact rule i j t t' s _ _ hc ⟨.int (g i j),H,I.tok _,⟨_,rfl⟩,q⟩
def u9 {f:kj->kj->Sem kj}{g:Int->Int->Int}(rule:∀(i j:Int) (t u:Tok) (s:ki) (Q:kj->ki->Prop) (E:kj->ki->Prop),Q (.int (g i j) s.toks) {s with toks:=s.toks+1}->wpAny (model X.prog X.w) X.A (f (.int i t) (.int j u)) Q E s):Ea X f (Me λi j=> .int (g i j)):=by intro Sr s k H x y v u Q I d e h;obtain⟨i,j,rfl,rfl,q⟩:=h;obtain⟨t,rfl⟩:=d;obtain⟨t',rfl⟩:=e;exact rule i j t t' s _ _ ⟨.int (g i j),H,I.tok _,⟨_,rfl⟩,q⟩
def lF {f:kj->kj->Sem kj}{g:Int->Int->kc}(rule:∀(i j:Int) (t u:Tok) (s:ki) (Q:kj->ki->Prop) (E:kj->ki->Prop),Q (.bool (g i j)) s->wpAny (model X.prog X.w) X.A (f (.int i t) (.int j u)) Q E s):Ea X f (Me λi j=> .bl (g i j)):=by intro Sr s k H x y v u Q I d e h;obtain⟨i,j,rfl,rfl,q⟩:=h;obtain⟨t,rfl⟩:=d;obtain⟨t',rfl⟩:=e;exact rule i j t t' s _ _ ⟨.bl (g i j),H,I,rfl,q⟩
def xQ (i j:Int):Prop:=0<=j/\j<=1000000/\i.natAbs<2^64
def Gz (i j:Int):Prop:=(-(2^64)<i/\i<2^64)\/(-(2^64)<j/\j<2^64)
def Gz.ok (h:Gz i j):IntMulOk i j:=by
 rcases h with⟨h1,h2⟩|⟨h1,h2⟩
 .exact .of_left (intBits_le_64 h1 h2)
 .exact .of_right (intBits_le_64 h1 h2)
def HM:Ea X (binaryOp .Add) (Me λi j=> .int (i+j)):=u9 λ_ _ _ _ _ _ _ q=>add_int q
def X1:Ea X (binaryOp .Sub) (Me λi j=> .int (i-j)):=u9 λ_ _ _ _ _ _ _ q=>sub_int q
def GW:Ea X (binaryOp .Mod) (rI (λ_ j=>0<j) λi j=> .int (i % j)):=qS λi j _ _ _ _ _ hc q=>by have h1:(0:Int)<j:=hc;exact mod_int' (!0) (by rw[AFi i (!0)];exact q)
def lH:Ea X (binaryOp .Mod) (rI (λ_ j=>j≠0) λi j=> .int (i.fmod j)):=qS λ_ _ _ _ _ _ _ hc q=>mod_int' hc q
def qY:Ea X (binaryOp .Pow) (rI xQ λi j=> .int (i^j.toNat)):=qS λ_ _ _ _ _ _ _ hc q=>pow_int_small hc.1 hc.2.1 hc.2.2 q
def unI {f:kj->Sem kj}{g:Int->Int}(rule:∀(i:Int) (t:Tok) (s:ki) (Q:kj->ki->Prop) (E:kj->ki->Prop),Q (.int (g i) s.toks) {s with toks:=s.toks+1}->wpAny (model X.prog X.w) X.A (f (.int i t)) Q E s):xl X f (rU λi=> .int (g i)):=by intro Sr s e H x v Q I d h;obtain⟨i,rfl,q⟩:=h;obtain⟨t,rfl⟩:=d;exact rule i t s _ _ ⟨.int (g i),H,I.tok _,⟨_,rfl⟩,q⟩
def sE:xl X (unaryOp .USub) (rU λi=> .int (-i)):=unI λ_ _ _ _ _ q=>neg_int q
end
noncomputable def rF:V->V->kc
 | .non, .non=>true | .non, .int _=>true | .int _, .non=>true | .non, .bl _=>true | .bl _, .non=>true | .non, .str _=>true | .str _, .non=>true
 | .int _, .int _=>true | .bl _, .bl _=>true | .str _, .str _=>true | .byt _, .byt _=>true
 | .int _, .str _=>true | .str _, .int _=>true | .bl _, .str _=>true | .str _, .bl _=>true
 | _,_=>false
def rEq:R2:=λx y H Q=>rF x y=true/\Q (.bl (decide (x=y))) H
def rNe:R2:=λx y H Q=>rF x y=true/\Q (.bl (!decide (x=y))) H
def Y3 {i j:Int}:decide (V.int i=V.int j)=(i==j):=by rw[ADX];simp
def fK:decide (V.bl i=V.bl j)=(i==j):=by rw[ADX];simp
def Y4:decide (V.str i=V.str j)=(i==j):=by rw[ADX];simp
def Y2 {i j:Array UInt8}:decide (V.byt i=V.byt j)=(i.toList==j.toList):=by rw[ADX];cases i;cases j;simp
section
variable {X:Cx}{a b c:kd}{ta tb tc:TE}{pos:Pos}
def BB {Q:VK}{k f:kc}(I:Inv X Sr d H s)(q:Q (.bl k) H)(e:k=f):EP X Sr d Q (.bool f) s:=by subst e;exact⟨.bl k,H,I,rfl,q⟩
def vA:Ea X (compareOp .Eq) rEq:=by
 intro Sr s f H x y v u Q I e d h;obtain⟨hs,q⟩:=h;cases x with
 | non=>
   cases e;cases y with
   | non=>cases d;exact PySem.EqNone.eq_none_none (BB I q (!2))
   | bl j=>cases d;exact PySem.EqNone.eq_none_bool (BB I q (!2))
   | int j=>obtain⟨t',rfl⟩:=d;exact PySem.EqNone.eq_none_int (BB I q (!2))
   | str j=>obtain⟨t',rfl⟩:=d;exact PySem.EqNone.eq_none_str (BB I q (!2))
   | _=>exact absurd (show false=true from hs) AAY
 | bl i=>
   cases e;cases y with
   | non=>cases d;exact PySem.EqNone.eq_bool_none (BB I q (!2))
   | bl j=>cases d;exact eq_bool (BB I q fK)
   | str j=>obtain⟨t',rfl⟩:=d;exact PySem.EqMixed.eq_bool_str (BB I q (!2))
   | _=>exact absurd (show false=true from hs) AAY
 | int i=>
   obtain⟨t,rfl⟩:=e;cases y with
   | non=>cases d;exact PySem.EqNone.eq_int_none (BB I q (!2))
   | int j=>obtain⟨t',rfl⟩:=d;exact eq_int (BB I q Y3)
   | str j=>obtain⟨t',rfl⟩:=d;exact PySem.EqMixed.eq_int_str (BB I q (!2))
   | _=>exact absurd (show false=true from hs) AAY
 | str i=>
   obtain⟨t,rfl⟩:=e;cases y with
   | non=>cases d;exact PySem.EqNone.eq_str_none (BB I q (!2))
   | bl j=>cases d;exact PySem.EqMixed.eq_str_bool (BB I q (!2))
   | int j=>obtain⟨t',rfl⟩:=d;exact PySem.EqMixed.eq_str_int (BB I q (!2))
   | str j=>obtain⟨t',rfl⟩:=d;exact eq_str (BB I q Y4)
   | _=>exact absurd (show false=true from hs) AAY
 | byt i=>
   obtain⟨t,rfl⟩:=e;cases y with
   | byt j=>obtain⟨t',rfl⟩:=d;exact PySem.W.eq_bytes (BB I q Y2)
   | _=>exact absurd (show false=true from hs) AAY
 | _=>cases y <;> exact absurd (show false=true from hs) AAY
def vC:Ea X (compareOp .NotEq) rNe:=by
 intro Sr s f H x y v u Q I e d h;obtain⟨hs,q⟩:=h;cases x with
 | non=>
   cases e;cases y with
   | non=>cases d;exact PySem.EqNone.ne_none_none (BB I q (!2))
   | bl j=>cases d;exact PySem.EqNone.ne_none_bool (BB I q (!2))
   | int j=>obtain⟨t',rfl⟩:=d;exact PySem.EqNone.ne_none_int (BB I q (!2))
   | str j=>obtain⟨t',rfl⟩:=d;exact PySem.EqNone.ne_none_str (BB I q (!2))
   | _=>exact absurd (show false=true from hs) AAY
 | bl i=>
   cases e;cases y with
   | non=>cases d;exact PySem.EqNone.ne_bool_none (BB I q (!2))
   | bl j=>cases d;exact ne_bool (BB I q (congrArg not fK))
   | str j=>obtain⟨t',rfl⟩:=d;exact PySem.EqMixed.ne_bool_str (BB I q (!2))
   | _=>exact absurd (show false=true from hs) AAY
 | int i=>
   obtain⟨t,rfl⟩:=e;cases y with
   | non=>cases d;exact PySem.EqNone.ne_int_none (BB I q (!2))
   | int j=>obtain⟨t',rfl⟩:=d;exact ne_int (BB I q (congrArg not Y3))
   | str j=>obtain⟨t',rfl⟩:=d;exact PySem.EqMixed.ne_int_str (BB I q (!2))
   | _=>exact absurd (show false=true from hs) AAY
 | str i=>
   obtain⟨t,rfl⟩:=e;cases y with
   | non=>cases d;exact PySem.EqNone.ne_str_none (BB I q (!2))
   | bl j=>cases d;exact PySem.EqMixed.ne_str_bool (BB I q (!2))
   | int j=>obtain⟨t',rfl⟩:=d;exact PySem.EqMixed.ne_str_int (BB I q (!2))
   | str j=>obtain⟨t',rfl⟩:=d;exact ne_str (BB I q (congrArg not Y4))
   | _=>exact absurd (show false=true from hs) AAY
 | byt i=>
   obtain⟨t,rfl⟩:=e;cases y with
   | byt j=>obtain⟨t',rfl⟩:=d;exact PySem.W.ne_bytes (BB I q (congrArg not Y2))
   | _=>exact absurd (show false=true from hs) AAY
 | _=>cases y <;> exact absurd (show false=true from hs) AAY
def nh:Ea X (compareOp .Lt) (Me λi j=> .bl (decide (i<j))):=lF λ_ _ _ _ _ _ _ q=>lt_int q
def vB:Ea X (compareOp .LtE) (Me λi j=> .bl (decide (i<=j))):=lF λ_ _ _ _ _ _ _ q=>le_int q
def ng:Ea X (compareOp .Gt) (Me λi j=> .bl (decide (j<i))):=lF λ_ _ _ _ _ _ _ q=>gt_int q
def nZ:Ea X (compareOp .GtE) (Me λi j=> .bl (decide (j<=i))):=lF λ_ _ _ _ _ _ _ q=>ge_int q
def qV:Ea X (compareOp .Is) (λx y H Q=>y= .non/\Q (.bl (decide (x= .non))) H):=by
 intro Sr s f H x y v u Q I d e h;obtain⟨rfl,q⟩:=h;cases e;refine is_none_gen (BB I q ?_);cases x <;> first
  | (cases d;rfl)
  | (obtain⟨t,rfl⟩:=d;rfl)
def Ze:Ea X (compareOp .IsNot) (λx y H Q=>y= .non/\Q (.bl (!decide (x= .non))) H):=by
 intro Sr s f H x y v u Q I d e h;obtain⟨rfl,q⟩:=h;cases e;refine isnot_none_gen (BB I q ?_);cases x <;> first
  | (cases d;rfl)
  | (obtain⟨t,rfl⟩:=d;rfl)
def Ea.or {r d:R2}(h:Ea X f r)(h':Ea X f d):Ea X f (λx y H Q=>r x y H Q\/d x y H Q):=by
 intro Sr s e H x y v u Q I g i q;rcases q with q|q
 .exact h Sr s e H x y v u Q I g i q
 .exact h' Sr s e H x y v u Q I g i q
def Cs (b:kd){op:CmpOp}(h:op≠ .In:=by decide)(h2:op≠ .NotIn:=by decide):behindInMarks op b=false:=by
 have d:(op==CmpOp.In)=false:=by cases op <;> first | rfl|exact absurd rfl h
 have e:(op==CmpOp.NotIn)=false:=by cases op <;> first | rfl|exact absurd rfl h2
 cases b <;> simp[behindInMarks,d,e]
def Zg (d:Ea X (compareOp op) r)(ha:PE X a ta)(hb:PE X b tb)(e:behindInMarks op b=false):PE X (.Compare a [op] [b] pos) (c6 r ta tb):=by intro Sr s f H Q I h;exact wpAny_Compare1 (pA ha hb I h λv u g x y i j k l q=>d Sr g f i x y v u Q j k l q) e
def i4 (t:TE):TT:=λd H Q=>t d H λx e=>∃k,x= .bl k/\Q k e
def Md (f:Ea X (compareOp op) r)(ha:PE X a ta)(hb:PE X b tb)(g:behindInMarks op b=false):PT X (.Compare a [op] [b] pos) (i4 (c6 r ta tb)):=by
 intro Sr s d H Q I h;refine wpAny_isTrue_Compare1 (BA (ha Sr s d H _ I h) λv i ⟨x,H1,j,r1,l⟩=>BA (hb Sr i d H1 _ j l) λu m ⟨y,n,o,r2,p⟩=>
  BA (f Sr m d n x y v u _ o r1 r2 p) λc C ⟨z,t,w,A,k,e,B⟩=> ?_) g
 subst e;cases A;exact ADT ⟨t,w,B⟩
def K5:(sizeLine:Nat)<2^63:=by rw[AES];decide
def vals1 {x:V}(r:Au [x] d):∃u,d= [u] /\RelV x u:=by
 cases r with
 | cons r1 r2=>cases r2;exact⟨_,rfl,r1⟩
def vals2 {x y:V}(r:Au [x,y] d):∃u e,d= [u,e] /\RelV x u/\RelV y e:=by
 cases r with
 | cons r1 r2=>
   cases r2 with
   | cons f g=>cases g;exact⟨_,_,rfl,r1,f⟩
def Nr:C8 X (.builtin "abs") (λxs H Q=>∃i,xs= [.int i] /\Q (.int (if i<0 then -i else i)) H):=by intro Sr s d H xs e Q I r h;obtain⟨i,rfl,q⟩:=h;obtain⟨u,rfl,t,rfl⟩:=vals1 r;exact call_abs_int λu f=>⟨.int (if i<0 then -i else i),H,I.tok _,⟨_,rfl⟩,q⟩
def am (hc:X.calm=true):C8 X (.builtin "max") (λxs H Q=>∃i j,xs= [.int i, .int j] /\Q (.int (if j>i then j else i)) H):=by
 intro Sr s d H xs e Q I r h;obtain⟨i,j,rfl,q⟩:=h;obtain⟨u,f,rfl,⟨t,rfl⟩,⟨t',rfl⟩⟩:=vals2 r;refine max_two_ints (I.ok.hd hc) λh' g k=>⟨_,H,I.kept k, ?_,q⟩;by_cases hj:j>i
 .rw [AAM hj,AAM hj];exact⟨_,rfl⟩
 .rw [AAL hj,AAL hj];exact⟨_,rfl⟩
def ao (hc:X.calm=true):C8 X (.builtin "min") (λxs H Q=>∃i j,xs= [.int i, .int j] /\Q (.int (if j<i then j else i)) H):=by
 intro Sr s d H xs e Q I r h;obtain⟨i,j,rfl,q⟩:=h;obtain⟨u,f,rfl,⟨t,rfl⟩,⟨t',rfl⟩⟩:=vals2 r;refine min_two_ints (I.ok.hd hc) λh' g k=>⟨_,H,I.kept k, ?_,q⟩;by_cases hj:j<i
 .rw [AAM hj,AAM hj];exact⟨_,rfl⟩
 .rw [AAL hj,AAL hj];exact⟨_,rfl⟩
def Qj:C8 X (.type "int") (λxs H Q=>(∃i,xs= [.int i] /\Q (.int i) H)\/∃k,xs= [.bl k] /\Q (.int (if k then 1 else 0)) H):=by
 intro Sr s d H xs e Q I r h;rcases h with⟨i,rfl,q⟩|⟨k,rfl,q⟩
 .obtain ⟨u,rfl,t,rfl⟩:=vals1 r;exact call_int_int ⟨.int i,H,I,⟨_,rfl⟩,q⟩
 .obtain ⟨u,rfl,r1⟩:=vals1 r;cases r1;exact call_int_bool ⟨.int (if k then 1 else 0),H,I.tok _,⟨_,rfl⟩,q⟩
end
structure ACp (h:Heap) (x dx C:Addr) (mA:Str->Option Value):Prop where
 obj:h.get? x=some (PySem.W.instObj C dx)
 ns:h.Ns1 dx mA
 ne:dx≠x
def Ja.some_of (r:Ja (some v) o):∃u,o=some u/\RelV v u:=by
 cases o with
 | none=>exact(show False from r).elim
 | some u=>exact⟨u,rfl,r⟩
structure Cls (K:AAJ) (C:Addr):Prop where
 pg:PySem.W.plainGet K C Str.empty=true
 hd:PySem.W.hasDictIn K C=true
 po:PySem.W.plainOver K C=true
 sa:PySem.W.findIn K (.ref C) "__setattr__" =some (some (.builtin "object.__setattr__"))
structure Con (K:AAJ) (C:Addr) (f:Str) (v:V) (u:Value):Prop where
 at_:PySem.W.findIn K (.ref C) f=some (some u)
 rel:RelV v u
 get:PySem.W.specialIn K u "__get__" =some none
 cp:PySem.W.copiedNames.contains f=false
structure ACn (K:AAJ) (C:Addr) (m:Str) (f:Addr):Prop where
 at_:PySem.W.findIn K (.ref C) m=some (some (.ref f))
 fn:PySem.W.isFn K (.ref f)=true
 kp:PySem.W.keepIn K (.ref f)=true
section
variable {X:Cx}{Sr:km (kf×Obj)}{σ:St}{H:Hp}{s:ki}{a C dx:kf}{fs:km (Str×V)}{f:Str}{v:V}{A:Tb}{E:kj->ki->Prop}
def Inv.made (I:Inv X Sr σ H s):Inv X Sr σ (upd (upd H s.heap.objs.size (.own (s.heap.objs.size+1))) (s.heap.objs.size+1) (.ins C s.heap.objs.size [])) {s with heap:=(s.heap.push PySem.W.emptyDict).push (PySem.W.instObj C s.heap.objs.size)}:=by
 have c:(s.heap.push PySem.W.emptyDict).get? s.heap.objs.size=some PySem.W.emptyDict:=AAV s.heap rfl;have g:((s.heap.push PySem.W.emptyDict).push (PySem.W.instObj C s.heap.objs.size)).get? (s.heap.objs.size+1)=some (PySem.W.instObj C s.heap.objs.size):=by
  have:=AAV (s.heap.push PySem.W.emptyDict) (o:=PySem.W.instObj C s.heap.objs.size) rfl
  rwa [ACA] at this
 have h:(s.heap.push PySem.W.emptyDict).Ns s.heap.objs.size (λ_=>none):=⟨PySem.W.emptyDict, #[],_,c,rfl,(λe he=>absurd he (!2)),λ_=>rfl⟩;have i:=I.laid (a:=s.heap.objs.size) (o:= .own (s.heap.objs.size+1)) (h':=s.heap.push PySem.W.emptyDict) (t':=s.toks) (λb u q=>AAP _ q) (AAR _) ⟨_,c⟩;refine i.laid (a:=s.heap.objs.size+1) (o:= .ins C s.heap.objs.size []) (t':=s.toks) (λb u q=>AAP _ q) (Nat.le_of_eq (ACA _ _)) ?_;have d:s.heap.objs.size≠s.heap.objs.size+1:=AAQ (Nat.lt_succ_self _);refine⟨by rw[Ae d,Ad],ACB _,d,g,λ_=>none,(Heap.Ns1.of_empty h).at λo q=>AAP _ q,λ_=>True.intro,λy hy=>absurd rfl hy⟩
end
section
variable {X:Cx}{Sr:km (kf×Obj)}{σ:St}{H:Hp}{s:ki}{A:Tb}{E:kj->ki->Prop}{Q:kj->ki->Prop}{c:kj}{b:kc}
inductive Nk (K:AAJ) (H:Hp):V->Value->Prop where
 | non:Nk K H .non (.type "NoneType")
 | bl (x:Bool):Nk K H (.bl x) (.type "bool")
 | int (i:Int):Nk K H (.int i) (.type "int")
 | str (x:Str):Nk K H (.str x) (.type "str")
 | flt (x:UInt64):Nk K H (.flt x) (.type "float")
 | lst {a:Addr} {xs:List V} (e:H a=some (.lst xs)):Nk K H (.ref a) (.type "list")
 | frz {a:Addr} {o:Obj} {xs:List V} (e:H a=some (.frz o (.lst xs))):Nk K H (.ref a) (.type "list")
 | tup {a:Addr} {xs:List V} (e:H a=some (.tup xs)):Nk K H (.ref a) (.type "tuple")
 | dK {a:Addr} {kvs:List (CD×V)} (e:H a=some (.dK kvs)):Nk K H (.ref a) (.type "dict")
 | dT {a:Addr} {kvs:List (List CD×V)} (e:H a=some (.dT kvs)):Nk K H (.ref a) (.type "dict")
 | ins {a C dx:Addr} {fs:List (Str×V)} (e:H a=some (.ins C dx fs)) (cl:Cls K C) (ha:PySem.W.findIn K (.ref C) "__class__" =some (some (.builtin "object.__class__")))
    (hn:PySem.W.specialIn K (.builtin "object.__class__") "__get__" =some (some (.builtin "getset_descriptor.__get__"))) (htk:PySem.W.takesIn K (.builtin "object.__class__")=some true)
    (hm:PySem.W.mroIn K C (.type "object")=some true):Nk K H (.ref a) (.ref C)
end
structure Room (k:Nat) (A:Around):Prop where
 hd:A.handled=none
 dp:A.depth+3*k+5<recursionLimit
 un:A.units+16*k+200<cLine
 gd:A.guards=some []
def Room.mono {j k:Nat}(r:Room k A)(h:j<=k):Room j A:=⟨r.hd,by have:=r.dp;omega,by have:=r.un;omega,r.gd⟩
def Room.deeper {k:Nat}(r:Room (k+1) A)(env:Env):Room k (A.deeper env):=
 ⟨r.hd,by have:=r.dp;show A.depth+1+3*k+5<_;omega,by have:=r.un;show A.units+3+16*k+200<_;omega,r.gd⟩
def Room.in1 {k:Nat}(r:Room (k+1) A):Room k A.in1:=
 ⟨r.hd,by have:=r.dp;show A.depth+3*k+5<_;omega,by have:=r.un;show A.units+1+16*k+200<_;omega,r.gd⟩
def Xb {A:Tb}{a:km kj}{b:km (Str×kj)}:(A.under (.builtin "type.__call__" ⟨.ref C::a,b⟩)).depth=A.depth+1:=by first | rfl|simp[Around.under,Code.weight,Code.isCreation,Code.isGuard,Code.isCaller,Code.frames,Code.isFrame,guardIds]
def Xc {A:Tb}{a:km kj}{b:km (Str×kj)}:(A.under (.builtin "type.__call__" ⟨.ref C::a,b⟩)).units=A.units+1:=by first | rfl|simp[Around.under,Code.cUnits,Code.frames,Code.isFrame]
def Room.make {k:Nat}(r:Room (k+1) A)(C:kf)(a:km kj)(b:km (Str×kj)):Room k (A.under (.builtin "type.__call__" ⟨.ref C::a,b⟩)):=
 ⟨r.hd,by have:=r.dp;rw[Xb];omega,by have:=r.un;rw[Xc];omega,by first | exact r.gd|simpa[Around.under,pushGuards,Code.guards,Code.isGuard,guardIds] using r.gd⟩
def Room.depth {k:Nat}(r:Room k A):A.depth<recursionLimit:=by have:=r.dp;omega
def Room.units {k:Nat}(r:Room k A):A.units+64<cLine:=by have:=r.un;omega
def mV:TA:=λ_ H Q=>Q [] H
def Oy (b:TE)(c:TA):TA:=λa H Q=>b a H λx H1=>c a H1 λxs d=>Q (x::xs) d
section
variable {X:Cx}{e:kd}{es:km kd}{te:TE}{t:TA}{pos:Pos}
def D9:PA X [] mV:=λ_ _ _ _ H Q I h=>AFj ⟨[],H,I, .nil,h⟩
def Bj (ha:PE X e te)(b:PA X es t)(hs:starEach (e::es) X.env=(false,eval e X.env)::starEach es X.env:=by rfl):PA X (e::es) (Oy te t):=by intro pos Sr s a H Q I h;rw[hs];show wpAny _ _ (spliced ((false,eval e X.env)::backTo pos (starEach es X.env))) _ _ s;refine AET (BA (ha Sr s a H _ I h) λu c ⟨x,H1,d,r1,f⟩=> ?_);exact BA (b pos Sr c a H1 _ d f) λk l ⟨xs,g,i,r2,j⟩=>⟨x::xs,g,i, .cons r1 r2,j⟩
def mX (t:TA):TE:=λa H Q=>t a H λxs H1=>xs.length<=sizeLine/\∀p,H1 p=none->Q (.ref p) (upd H1 p (.tup xs))
def y8 (t:TA):TE:=λa H Q=>t a H λxs H1=>xs.length<=sizeLine/\∀p,H1 p=none->Q (.ref p) (upd H1 p (.lst xs))
def OP {x1}(h:PA X es t):PE X (.Tuple es x1 pos) (mX t):=by intro Sr s d H Q I hq;refine wpAny_Tuple_spliced (BA (h pos Sr s d H _ I hq) λf a ⟨xs,H1,c,r,z,q⟩=>⟨by rw[<-r.length];exact z, ?_⟩);have g:H1 a.heap.objs.size=none:=c.hok.fresh (AAR _);refine⟨.ref a.heap.objs.size,upd H1 a.heap.objs.size (.tup xs),c.laid (t':=a.toks) (λb u e=>AAP _ e) (AAR _) ?_,rfl,q _ g⟩;exact⟨z,f,r,⟨_,AAV _ rfl,rfl,_,rfl⟩⟩
def gu (h:PA X es t):PE X (.List es pos) (y8 t):=by intro Sr s d H Q I hq;refine wpAny_List_spliced (BA (h pos Sr s d H _ I hq) λf a ⟨xs,H1,c,r,z,q⟩=>⟨by rw[<-r.length];exact z, ?_⟩);have g:H1 a.heap.objs.size=none:=c.hok.fresh (AAR _);refine⟨.ref a.heap.objs.size,upd H1 a.heap.objs.size (.lst xs),c.laid (t':=a.toks) (λb u e=>AAP _ e) (AAR _) ?_,rfl,q _ g⟩;exact⟨z,f,0,r,AAV _ rfl⟩
end
abbrev Sp:=km V->Hp->VK->XK->Prop
abbrev aN:=km Env->Hp->ki->XK->kj->ki->Prop
structure Pk (P:Program) (w:World) (K:AAJ) (mg:Str->Option Value) (base:Heap) (A:Around) (outer:List Env) (s:Shared) (H:Hp):Prop where
 frames:A.frames=some outer
 mod:Mod K mg base
 bs:∀b o,base.get? b=some o->s.heap.get? b=some o/\H b=none
 bsz:base.objs.size<=s.heap.objs.size
 funs:s.heap.FunFrames base outer
 frf:∀b∈dS outer,H b=none
 hok:IU P w H s.heap
 bare:AllBare s.gens
def CE (outer:km Env)(P:gn)(w:fe)(H:Hp)(s:ki)(Q:VK)(u:kj)(a:ki):Prop:=
 ∃v b,a.os=s.os/\AllBare a.gens/\Un (dS outer) [] H b s.heap a.heap/\IU P w b a.heap/\RelV v u/\Q v b
def CR (CX:aN)(outer:km Env)(P:gn)(w:fe)(H:Hp)(s:ki)(Q:VK)(E:XK)(r:Result)(a:ki):Prop:=
 match r with
 | .ok (.ret u)=>CE outer P w H s Q u a
 | .ok _=>False
 | .error e=>CX outer H s E e a
structure Du (P:Program) (w:World) (K:AAJ) (mg:Str->Option Value) (base:Heap) (CX:aN) (k:Nat) (f:Addr) (fd:FuncData) (ps:List Str) (sp:Sp):Prop where
 len:∀vs H Q E,sp vs H Q E->vs.length=ps.length
 run:∀(A:Around) (outer:List Env) (s:Shared) (H:Hp) (args:Args) (us:List Value) (vs:List V) (Q:VK) (E:XK),Room k A->Pk P w K mg base A outer s H->BindsTo s fd args (ps.zip us)->Au vs us->sp vs H Q E->
  codeAny (model P w) A (.call (.ref f) args) (CR CX outer P w H s Q E) s
def Du.mono {K:AAJ}{k:Nat}{sp:Sp}(F:Du P w K mg base CX j f a ps sp)(h:j<=k):Du P w K mg base CX k f a ps sp:=⟨F.len,λA outer s H args b vs Q E c=>F.run A outer s H args b vs Q E (c.mono h)⟩
def Du.imp {K:AAJ}{k:Nat}{sp a:Sp}(F:Du P w K mg base CX k f b ps sp)(h:∀vs H Q E,a vs H Q E->sp vs H Q E):Du P w K mg base CX k f b ps a:=
 ⟨λvs H Q E q=>F.len vs H Q E (h _ _ _ _ q),λA outer s H args c vs Q E d he hb hv hs=>F.run A outer s H args c vs Q E d he hb hv (h _ _ _ _ hs)⟩
def Pk.make {K:AAJ}(e:Pk P w K mg base A outer s H)(C:kf)(a:km kj)(b:km (Str×kj)):Pk P w K mg base (A.under (.builtin "type.__call__" ⟨.ref C::a,b⟩)) outer s H:=⟨by first | exact e.frames|(simpa[Around.under,Code.envs,Code.isFrame,pushEnvs] using e.frames),e.mod,e.bs,e.bsz,e.funs,e.frf,e.hok,e.bare⟩
def Pk.in1 {K:AAJ}(e:Pk P w K mg base A outer s H):Pk P w K mg base A.in1 outer s H:=⟨e.frames,e.mod,e.bs,e.bsz,e.funs,e.frf,e.hok,e.bare⟩
section
variable {X:Cx}{Sr:km (kf×Obj)}{σ:St}{H:Hp}{s s':ki}
def Inv.env0 (I:Inv X Sr σ H s):Pk X.prog X.w X.K X.mg X.base X.A X.stack s H:=
 ⟨I.ok.frames,I.ok.mod,I.bs,AAg I.ok.bsz I.sz,I.stack,I.stkFree,I.hok,I.bare⟩
def Inv.after (I:Inv X Sr σ H s)(h:CE X.stack X.prog X.w H s Q u s'):EP X Sr σ Q u s':=by obtain⟨v,c,os,bare,un,hok,r,q⟩:=h;obtain⟨e,g,d,t,a⟩:=s';obtain rfl:a=s.os:=os;exact⟨v,c,I.call (h':=e) (g':=g) (d':=d) (t':=t) (ch:= []) un hok bare (λb z=>absurd z (!2)),r,q⟩
end
def ip (sp:Sp)(a:km V)(E:XK)(t:TA):TE:=λb H Q=>t b H λvs H1=>sp (vs++a) H1 Q E
def Binds (K:AAJ)(b:FuncData)(ps:km Str)(ds:km kj):Prop:=
 ∀(s:ki) (a:km kj),K.In s.heap->(a++ds).length=ps.length->BindsTo s b ⟨a, []⟩ (ps.zip (a++ds))
def Binds.all {K:AAJ}{b:FuncData}{ps:km Str}(h:∀a:km kj,a.length=ps.length->bindArgs b ⟨a, []⟩=pure (ps.zip a)):Binds K b ps [] :=λs a _ hl=>by rw[AEU] at hl ⊢;exact .of_eq (h a hl)
def Passes (CX:aN)(X:Cx)(E:XK):Prop:=∀(Sr:km (kf×Obj)) (b:St) (H:Hp) (s:ki) (e:kj) (a:ki),Inv X Sr b H s->CX X.stack H s E e a->X.xe e a
section
variable {X:Cx}{CX:aN}{k:Nat}{f C:kf}{fd:FuncData}{ps:km Str}{sp:Sp}{dvs:km V}{ds:km kj}{E:XK}{x m:Str}{p pos apos:Pos}{e o:kd}{es:km kd}{ta:TE}{t:TA}
theorem qy (F:Du X.prog X.w X.K X.mg X.base CX k f fd ps sp)(c:Room k X.A)(hb:Binds X.K fd ps ds)(hd:Au dvs ds)(hx:Passes CX X E)(I:Inv X Sr b H s)(r:Au vs a)(h:sp (vs++dvs) H Q E):wpAny (model X.prog X.w) X.A (call (.ref f) a) (EP X Sr b Q) X.xe s:=by
 have r2:Au (vs++dvs) (a++ds):=r.append hd;have hl:(a++ds).length=ps.length:=by rw[<-r2.length];exact F.len _ _ _ _ h
 refine AEV (AC7 (F.run X.A X.stack s H ⟨a, []⟩ (a++ds) (vs++dvs) Q E c I.env0 (hb s a I.kIn hl) r2 h) λr d hq=> ?_);cases r with
 | error e=>exact hx Sr b H s e d I hq
 | ok g=>
   cases g with
   | ret u=>exact I.after hq
   | next=>exact False.elim hq
   | brk=>exact False.elim hq
   | cont=>exact False.elim hq
theorem Zf (F:Du X.prog X.w X.K X.mg X.base CX k f fd ps sp)(b:Room k X.A)(c:Gl X x)(d:X.mg x=some (.ref f))(hk:PySem.W.keepIn X.K (.ref f)=true)(hb:Binds X.K fd ps ds)(hd:Au dvs ds)(hx:Passes CX X E)(ha:PA X (e::es) t)(hdb:(x==("__debug__" :Str))=false:=by decide)(he:starEach (e::es) X.env=(false,eval e X.env)::starEach es X.env:=by rfl)(hpl:(backTo pos (starEach es X.env)).any (·.1)=false:=by rfl):PE X (.Call (.Name x p) (e::es) [] pos) (ip sp dvs E t):=by intro Sr s g H Q I h;refine AFk (ZU I c d ?_ hdb);refine PySem.W.callWith_K (h₀:=X.base) I.ok.mod.kin hk (BA (ha pos Sr s g H _ I h) λi j ⟨vs,H1,a,r,q⟩=>⟨a.kIn, ?_⟩) he hpl;exact qy F b hb hd hx a r q
structure Mk (K:AAJ) (C f:Addr):Prop where
 makes:PySem.W.makesIn K C=true
 init:PySem.W.findIn K (.ref C) "__init__" =some (some (.ref f))
 fn:PySem.W.isFn K (.ref f)=true
 kp:PySem.W.keepIn K (.ref C)=true
end
section
variable {X:Cx}{CX:aN}{k:Nat}{f C:kf}{fd:FuncData}{ps ks:km Str}{sp:Sp}{E:XK}{x m:Str}{p pos apos kpos:Pos}{e o:kd}{es:km kd}{kws:km Keyword}{te ta:TE}{t tk:TA}{nm:ke Str}
structure xf (K:AAJ) (fd:FuncData) (ps ks:List Str) (g:List Value->List Value->List Value) (gV:List V->List V->List V):Prop where
 to:∀(s:Shared) (us ws:List Value),K.In s.heap->(g us ws).length=ps.length->BindsTo s fd ⟨us,ks.zip ws⟩ (ps.zip (g us ws))
 rel:∀{vs:List V} {us:List Value} {zs:List V} {ws:List Value},Au vs us->Au zs ws->Au (gV vs zs) (g us ws)
variable {g:km kj->km kj->km kj}{gV:km V->km V->km V}
end
structure DK (N P:List Str) (sc:Scope):Prop where
 kind:sc.kind= .function
 co:sc.isCoroutine=false
 gen:sc.isGenerator=false
 nd:N.Nodup
 pre:N.take P.length=P
 par:∀x∈P,sc.names.lookup x=some .local\/sc.names.lookup x=some .cell
 nofree:∀y∈sc.names,y.2≠ .free
theorem Qf {kindOf:Str->ke NameKind}{x:Str}:∀{binds:km (Str×kj)} {m:Str->ke kj},(∀v,(x,v) ∉ binds)->bindL kindOf binds m x=m x
 | [],_,_=>rfl
 | (n,v)::r,m,h=>by
   unfold bindL;rw[Qf λw hw=>h w (ACc _ hw)];split
   .have:x≠n:=by rintro rfl;exact h v ADU
    simp[this]
   .rfl
theorem Qc {kindOf:Str->ke NameKind}{x:Str}:∀{binds:km (Str×kj)} {m:Str->ke kj},(∀v,(x,v) ∉ binds)->bindC kindOf binds m x=m x
 | [],_,_=>rfl
 | (n,v)::r,m,h=>by
   unfold bindC;rw[Qc λw hw=>h w (ACc _ hw)];split
   .rfl
   .have:x≠n:=by rintro rfl;exact h v ADU
    simp[this]
theorem Qe {kindOf:Str->ke NameKind}:∀{P:km Str} {vs:km kj} {i:Nat} {m:Str->ke kj},P.Nodup->P[i]? =some x->vs[i]? =some v->kindOf x=some .local-> bindL kindOf (P.zip vs) m x=some v
 | [],_,_,_,_,h,_,_=>by simp at h
 | _::_, [],_,_,_,_,h,_=>by simp at h
 | p::P,w::vs,0,m,nd,h1,h2,hk=>by simp at h1 h2;subst h1;subst h2;show bindL kindOf ((p,w)::P.zip vs) m p=_;unfold bindL;rw[Qf λv hv=>(AE0.mp nd).1 (AFl hv).1,AAM hk];simp
 | p::P,w::vs,i+1,m,nd,h1,h2,hk=>by show bindL kindOf ((p,w)::P.zip vs) m x=_;unfold bindL;exact Qe (i:=i) (AE0.mp nd).2 (↑h1) (↑h2) hk
theorem Qb {kindOf:Str->ke NameKind}:∀{P:km Str} {vs:km kj} {i:Nat} {m:Str->ke kj},P.Nodup->P[i]? =some x->vs[i]? =some v->kindOf x≠some .local-> bindC kindOf (P.zip vs) m x=some v
 | [],_,_,_,_,h,_,_=>by simp at h
 | _::_, [],_,_,_,_,h,_=>by simp at h
 | p::P,w::vs,0,m,nd,h1,h2,hk=>by simp at h1 h2;subst h1;subst h2;show bindC kindOf ((p,w)::P.zip vs) m p=_;unfold bindC;rw[Qc λv hv=>(AE0.mp nd).1 (AFl hv).1,AAL hk];simp
 | p::P,w::vs,i+1,m,nd,h1,h2,hk=>by show bindC kindOf ((p,w)::P.zip vs) m x=_;unfold bindC;exact Qb (i:=i) (AE0.mp nd).2 (↑h1) (↑h2) hk
noncomputable def start (N:km Str)(vs:km V):St:=vs.map some++List.replicate (N.length-vs.length) none
noncomputable def Pt (CX:aN)(P:gn)(w:fe)(K:AAJ)(mg:Str->ke kj)(base:Wf)(N:km Str)(qual:Str)(scope:Scope)(f:kf)(b:kj)(A:Tb)(outer:km Env)(s:ki)(H:Hp)(E:XK):Cx where
 prog:=P
 w:=w
 K:=K
 mg:=mg
 base:=base
 A:=A.deeper (envOfC qual scope s.heap.objs.size f b)
 N:=N
 s₀:=s
 H₀:=H
 env:=envOfC qual scope s.heap.objs.size f b
 outer:=outer
 stack:=envOfC qual scope s.heap.objs.size f b::outer
 ex:= []
 calm:=true
 fn:=λ_=>true
 pn:= []
 xe:=λe c=>wpAny (model P w) (A.deeper (envOfC qual scope s.heap.objs.size f b)) (leaving (envOfC qual scope s.heap.objs.size f b) e) (λ_ a=>CX outer H s E e a) (λd a=>CX outer H s E d a) c
def Ut {sc:Scope}(h:sc.names.lookup x=some .cell):∃c,(cellsFrom n sc.names []).lookup x=some c:=by have q:=AGO sc.names n [] (.inl h);exact Option.isSome_iff_exists.mp q
def bT {K:AAJ}{N:km Str}{A:Tb}{vs:km V}(S:DK N ps scope)(hd:A.handled=none)(d:Pk P w K mg base A outer s H)(hl:vs.length=ps.length)(r:Au vs m)(x:InCallC s s.heap.objs.size (bindL (envOfC qual scope s.heap.objs.size f l).kindOf (ps.zip m) λ_=>none) (cellsFrom (s.heap.objs.size+1) scope.names []) (bindC (envOfC qual scope s.heap.objs.size f l).kindOf (ps.zip m) λ_=>none) o):Inv (Pt CX P w K mg base N qual scope f l A outer s H E) [] (start N vs) H o:=by
 have hpl:ps.length<=N.length:=by have:=congrArg List.length S.pre;rw[AFm] at this;omega
 obtain⟨h1,t,rfl,hk⟩:=x.done;have g:∀b:kf,b ∉ (Pt CX P w K mg base N qual scope f l A outer s H E).ex:=λb z=>absurd (show b∈([] :km kf) from z) (!2);refine⟨⟨d.mod,S.kind,rfl,rfl,AAR _,λy z c h1 h2=> ?_,λy hy=> ?_,λy c _ h=> ?_,λ_=>hd,Around.frames_deeper d.frames, .inr ⟨rfl,rfl⟩,λb z=>absurd z (g b),d.bs,d.bsz,λb _ _=>g b,λb z=>absurd z (g b),d.funs,d.frf⟩,
  rfl,d.bare,Un.kept hk,⟨_,x.toInCall.ns,λi y v h1 h2 h3=> ?_⟩,λy c h=>⟨_,x.cell y c h⟩,d.hok.fresh (AAR _),λy c h=> ?_,λp hp=>absurd (show p∈([] :km (kf×Obj)) from hp) (!2),d.hok.kept hk, ?_⟩
 .exact name_of_addr x.apart (AEW h1) (AEW h2)
 .have hy:scope.names.lookup y=some .cell\/scope.names.lookup y=some .free:=hy;rcases hy with hy|hy
  .exact Ut hy
  .exact absurd rfl (S.nofree _ (AEW hy))
 .exact AER (x.above y c (AEW h))
 .have hi:i<vs.length:=by
   unfold start at h2;by_cases hi:i<vs.length
   .exact hi
   .rw [ACU (↑hi)] at h2;rw[AC8] at h2;split at h2 <;> cases h2
  have ha:vs[i]? =some v:=by
   unfold start at h2;rw[ACh (↑hi),AAu] at h2;cases e:vs[i]? with
   | none=>rw[e] at h2;cases h2
   | some a=>rw[e] at h2;cases h2;rfl
  obtain⟨u,hu,rv⟩:=r.get ha;have hp:ps[i]? =some y:=by rw[<-S.pre,List.getElem?_take_of_lt (!0)];exact h1
  have j:ps.Nodup:=by rw[<-S.pre];exact S.nd.sublist (List.take_sublist _ _)
  refine⟨u,rv, ?_⟩;rcases S.par y (ACN hp) with k|k
  .exact .inl ⟨k,Qe j hp hu k⟩
  .obtain ⟨c,e⟩:=Ut (n:=s.heap.objs.size+1) k;refine .inr ⟨.inl k,c,e, ?_⟩;have q:=x.cell y c e;rw[Qb j hp hu (by show scope.names.lookup y≠_;rw[k];decide)] at q;exact q
 .exact d.hok.fresh (AER (x.above y c (AEW h)))
 .unfold start;show _=N.length;rw[ACG,AAT,ACi];omega
def nN {K:AAJ}{k:Nat}{kV G:kj}{L:ke kf}{i:Array (ke kj)}{N:km Str}{sp:Sp}(M:K.lookup f=some ⟨G,L, .func (PySem.W.fnOf name qual params body scope p kV d z B a ct),i⟩)(O:PySem.W.codeIn K a qual=true)(S:DK N ps scope)(len:∀vs H Q E,sp vs H Q E->vs.length=ps.length)(R:∀(A:Tb) (outer:km Env) (s:ki) (H:Hp) (vs:km V) (Q:VK) (E:XK),Room k (A.deeper (envOfC qual scope s.heap.objs.size f a))->sp vs H Q E-> ∃t,Ul (Pt CX P w K mg base N qual scope f a A outer s H E) body t/\t {nx:=λ_ c=>Q .non c,rt:=Q} (start N vs) H):Du P w K mg base CX (k+1) f (PySem.W.fnOf name qual params body scope p kV d z B a ct) ps sp:=by
 refine⟨len,λA outer s H args T vs Q E j g hb r C=> ?_⟩;have hl:=len _ _ _ _ C;have D:K.In s.heap:=g.mod.kin.keeps λb o e=>(g.bs b o e).1;have l:s.heap.NoLimit:=g.mod.nolimit.keeps λb o e=>(g.bs b o e).1;have U:∀y∈ps.zip T,scope.names.lookup y.1=some .local\/(scope.names.lookup y.1=some .cell/\((cellsFrom (s.heap.objs.size+1) scope.names []).lookup y.1).isSome=true):=λ⟨n,v⟩ hy=>by
  rcases S.par n (AFl hy).1 with q|q
  .exact .inl q
  .exact .inr ⟨q,AGO _ _ _ (.inl q)⟩
 refine codeAny_call_function j.depth (D _ _ M) rfl S.co S.gen rfl (PySem.W.codeRec_of D O) (hb _ _ _ _ ?_);refine wpAny_newFunctionEnv_cells S.kind U λenv he F x=> ?_;subst he;refine⟨l.keeps x.toInCall.keep,codeAny_func ?_⟩;obtain⟨t,X,hq⟩:=R A outer s H vs Q E (j.deeper _) C;have I:Inv (Pt CX P w K mg base N qual scope f a A outer s H E) [] (start N vs) H F:=bT S j.hd g hl r x;refine ACE (X [] F (start N vs) H _ I hq) (λY m hs=> ?_) λe m hs=>hs;have h:∀{σ':St} {c:Hp} {v:V} {u:kj},Inv (Pt CX P w K mg base N qual scope f a A outer s H E) [] σ' c m->RelV v u->Q v c->CE outer P w H s Q u m:=
  λ{σ' c v u} J rv q=>⟨v,c,J.os,J.bare,J.base,J.hok,rv,q⟩
 cases Y with
 | ret u=> obtain⟨v,σ',c,J,rv,q⟩:=hs;exact h J rv q
 | next=> obtain⟨σ',c,J,q⟩:=hs;exact h (v:=V.non) (u:=Value.none) J rfl q
 | brk=> obtain⟨_,_,_,q⟩:=hs;exact False.elim q
 | cont=> obtain⟨_,_,_,q⟩:=hs;exact False.elim q
section
variable {X:Cx}{x:Str}{p pos:Pos}{e:kd}{es:km kd}{t:TA}{id T:String}{r:km V->Hp->VK->Prop}
def y7 (r:km V->Hp->VK->Prop)(t:TA):TE:=λa H Q=>t a H λvs H1=>r vs H1 Q
def HN (hc:C8 X (.builtin id) r)(b:Gl X x)(c:X.mg x=none)(hv:bootBuiltins x=some (.builtin id))(ha:PA X (e::es) t)(d:x≠"__name__" :=by decide)(hdb:(x==("__debug__" :Str))=false:=by decide)(he:starEach (e::es) X.env=(false,eval e X.env)::starEach es X.env:=by rfl)(hpl:(backTo pos (starEach es X.env)).any (·.1)=false:=by rfl):PE X (.Call (.Name x p) (e::es) [] pos) (y7 r t):=by intro Sr s a H Q I h;refine AFk (Ih I b c hv ?_ d hdb);exact PyProof.Rows.callWith_builtin1 (BA (ha pos Sr s a H _ I h) λf g ⟨vs,H1,i,r1,j⟩=>hc Sr g a H1 vs f Q i r1 j) he hpl
def F7 (hc:C8 X (.type T) r)(b:Gl X x)(c:X.mg x=none)(hv:bootBuiltins x=some (.type T))(ha:PA X (e::es) t)(d:x≠"__name__" :=by decide)(hdb:(x==("__debug__" :Str))=false:=by decide)(he:starEach (e::es) X.env=(false,eval e X.env)::starEach es X.env:=by rfl)(hpl:(backTo pos (starEach es X.env)).any (·.1)=false:=by rfl):PE X (.Call (.Name x p) (e::es) [] pos) (y7 r t):=by intro Sr s a H Q I h;refine AFk (Ih I b c hv ?_ d hdb);exact ADi (BA (ha pos Sr s a H _ I h) λf g ⟨vs,H1,i,r1,j⟩=>hc Sr g a H1 vs f Q i r1 j) he hpl
end
end L2
namespace HT
open PySem PyProof.Rows
section
variable {prog:gn}{w:fe}{A:Tb}{E:kj->ki->Prop}{s:ki}
def cat_tup {t:kf}{vs a:km kj}{Q:kj->ki->Prop}(m:IsTup s.heap t vs.toArray)(hb:IsTup s.heap b a.toArray)(hv:vs≠ [])(h1:a= [] ->Q (.ref t) s)(h2:a≠ [] ->Q (.ref s.heap.objs.size) {s with heap:=s.heap.push {cls:= .type "tuple",data:= .seq (vs++a).toArray}})(hsz:vs.length+a.length<=sizeLine):wpAny (model prog w) A (binaryOp .Add (.ref t) (.ref b)) Q E s:=by
 obtain⟨⟨cls,h,data,sl⟩,f,hc,n,hd⟩:=id m;obtain⟨⟨i,c,data2,d⟩,g,j,k,l⟩:=id hb;simp only at hc hd j l;subst hc hd j l;have e:vs.toArray++a.toArray=(vs++a).toArray:=!2
 by_cases hw:a= []
 .exact concat_meets ⟨_,f,rfl⟩ ⟨_,g,rfl⟩ AFn seq_tuple_add AFo AFp (AFq _ _)
   (tuple_addW1 t b vs.toArray a.toArray n k h c sl d (↑hv) (by simp[hw])) ⟨f,g,h1 hw⟩
 .refine concat_meets ⟨_,f,rfl⟩ ⟨_,g,rfl⟩ AFn seq_tuple_add AFo AFp (AFq _ _)
   (tuple_addW2 t b vs.toArray a.toArray n k h c sl d (↑hv) (↑hw) (by rw[AAh,AAh];exact hsz)) ⟨f,g, ?_⟩
  rw[e];exact h2 hw
noncomputable def sIx (n d:Nat):ke Int->Nat
 | none=>d
 | some v=>if v<0 then (v+(n:Int)).toNat else min v.toNat n
def sIx_none (n d:Nat):sIx n d none=d:=rfl
def sIx_nat (n d k:Nat):sIx n d (some (k:Int))=min k n:=by show (if (k:Int)<0 then ((k:Int)+(n:Int)).toNat else min (k:Int).toNat n)=min k n;rw[AAL (!0),ADj]
def qz (n d:Nat)(hd:d<=n)(o:ke Int):sIx n d o<=n:=by
 cases o with
 | none=>exact hd
 | some v=>
   show (if v<0 then (v+(n:Int)).toNat else min v.toNat n)<=n;by_cases hv:v<0
   .rw [AAM hv];omega
   .rw [AAL hv];exact Nat.min_le_right _ _
def Yx (v:Int)(n d:Nat):(if v<0 then max (v+(n:Int)) 0 else min v (n:Int))=((sIx n d (some v):Nat):Int):=by
 show (if v<0 then max (v+(n:Int)) 0 else min v (n:Int))=(((if v<0 then (v+(n:Int)).toNat else min v.toNat n):Nat):Int);by_cases hv:v<0
 .simp only[AAM hv];omega
 .simp only[AAL hv];omega
def Wv (lo hi:ke Int)(n:Nat):Builtin.Slice.sliceAdjust lo hi 1 (n:Int)=(((sIx n 0 lo:Nat):Int),((sIx n n hi:Nat):Int)):=by
 have h1:¬((1:Int)<0):=!0
 unfold Builtin.Slice.sliceAdjust;simp only[h1,AAn];refine AEX ?_ ?_
 .cases lo with
  | none=>rfl
  | some v=>exact Yx v n 0
 .cases hi with
  | none=>rfl
  | some v=>exact Yx v n n
def X4 (i j:Nat):Builtin.Slice.slicePlaces (i:Int) (j:Int) 1=j-i:=by
 unfold Builtin.Slice.slicePlaces;have h1:(1:Int)>0:=!0
 simp only[h1,ACL,Int.ediv_one];split <;> omega
def Op {Q:ke Int->ki->Prop}(p:IsPart v o)(h:Q o s):wpAny (model prog w) A (Builtin.Slice.slicePartIndex v) Q E s:=by
 cases p with
 | none=>exact slicePart_none h
 | int i t=>exact slicePart_int h
def sliceApplied_gen {sl:kf}{lo hi:ke Int}{Q:Int×Int×Nat->ki->Prop}(hs:s.heap.IsSliceOf sl a b .none)(e:IsPart a lo)(f:IsPart b hi)(h:Q (((sIx n 0 lo:Nat):Int),1,sIx n n hi-sIx n 0 lo) s):wpAny (model prog w) A (Builtin.Slice.sliceApplied (.ref sl) (pure (n:Int))) Q E s:=by obtain⟨os,c,g,d⟩:=id hs;unfold Builtin.Slice.sliceApplied Builtin.Slice.sliceFields;refine AAI (AAI (AAm c d (x:=a) rfl (AAI (AAm c d (x:=b) rfl (AAI (AAm c d (x:= .none) rfl (AAK ?_)))))));refine AAI (slicePart_none ?_);show wpAny _ _ (if ((1:Int)==0)=true then _ else _) _ _ s;rw[AAL (!1)];refine AAI (Op e (AAI (Op f (AAI (AAK ?_)))));show wpAny _ _ (match Builtin.Slice.sliceAdjust lo hi 1 (n:Int) with | (lo,hi)=>pure (lo,(1:Int),Builtin.Slice.slicePlaces lo hi 1)) _ _ s;rw[Wv lo hi n];show wpAny _ _ (pure (((sIx n 0 lo:Nat):Int),(1:Int),Builtin.Slice.slicePlaces ((sIx n 0 lo:Nat):Int) ((sIx n n hi:Nat):Int) 1)) _ _ s;rw[X4];exact AAK h
def gz (xs:Array kj)(i k:Nat):((List.range k).filterMap λ(m:Nat)=>xs[((i:Int)+(m:Int)*1).toNat]?).toArray=((xs.toList.drop i).take k).toArray:=by
 have e:(λ(m:Nat)=>xs[((i:Int)+(m:Int)*1).toNat]?)=λm=>xs[i+m]? :=by
  funext m
  have:((i:Int)+(m:Int)*1).toNat=i+m:=!0
  rw[this]
 rw[e];have:=pick_run xs i k;rw[List.filterMap_map] at this;have a:((λx=>xs[x]?) ∘ λx=>i+x)=λm=>xs[i+m]? :=rfl;rw[a] at this;rw[this]
def getItem_tuple_cut {t sl:kf}{lo hi:ke Int}{Q:kj->ki->Prop}(a:IsTup s.heap t items)(hs:s.heap.IsSliceOf sl c d .none)(e:IsPart c lo)(f:IsPart d hi)(hw:¬(sIx items.size 0 lo=0/\sIx items.size items.size hi=items.size))(h:Q (.ref s.heap.objs.size) {s with heap:=s.heap.push {cls:= .type "tuple",data:= .seq ((items.toList.drop (sIx items.size 0 lo)).take (sIx items.size items.size hi-sIx items.size 0 lo)).toArray}})(hsz:items.size<=sizeLine):wpAny (model prog w) A (getItem (.ref t) (.ref sl)) Q E s:=by
 have b:sizeOk (.seq ((items.toList.drop (sIx items.size 0 lo)).take (sIx items.size items.size hi-sIx items.size 0 lo)).toArray):=by show ((items.toList.drop (sIx items.size 0 lo)).take (sIx items.size items.size hi-sIx items.size 0 lo)).toArray.size<=sizeLine;rw[AAh,AFm,List.length_drop,AC5];omega
 have hj:sIx items.size items.size hi<=items.size:=qz _ _ (AAR _) hi;obtain⟨os,g,i,l⟩:=id hs;have j:s.TypeIs (.ref sl) "slice" :=⟨os,g,i⟩;unfold getItem;try with_reducible refine AAp ?_
 first | refine AAI (AAK ?_)|skip
 refine AAI (wpAny_sequenceKey a.typeIs (!1) ?_);refine AAI (ACe (name:=Str.ofString "__getitem__") a.typeIs ADk
  (AB7 ADk a.typeIs entry_tuple_getitem ?_ (args_tuple_getitem _ _)))
 show wpAny _ _ (Builtin.Tuple.tupleItemsOf (.ref t) >>= _) _ _ s;refine AAI (tupleItemsOf_ a ?_);refine AAI (AEY j ?_);rw[AAM (!1)];refine AAI (sliceApplied_gen hs e f ?_);have k:¬((((sIx items.size 0 lo:Nat):Int)==0&&(1:Int)==1&&(sIx items.size items.size hi-sIx items.size 0 lo)==items.size)=true):=by intro q;rw[AA7,AA7] at q;have n:((sIx items.size 0 lo:Nat):Int)=0:=eq_of_beq q.1.1;have o:sIx items.size items.size hi-sIx items.size 0 lo=items.size:=eq_of_beq q.2;exact hw ⟨!0,!0⟩
 show wpAny _ _ (if (((sIx items.size 0 lo:Nat):Int)==0&&(1:Int)==1&&(sIx items.size items.size hi-sIx items.size 0 lo)==items.size)=true then _ else _) _ _ s;rw[AAL k,gz];first
  | exact AAI (m:=Builtin.Tuple.tupleExact _) (AB9 (AAK ⟨_,rfl,AAK h⟩) b)
  | exact AAI (m:=Builtin.Tuple.tupleExact _) (AB9 (AAI (AAK (AAK ⟨_,rfl,AAK h⟩))) b)
  | exact AAI (AAI (m:=Builtin.Tuple.tupleExact _) (AB9 (AAK (AAK ⟨_,rfl,AAK h⟩)) b))
  | exact AAI (AAI (m:=Builtin.Tuple.tupleExact _) (AB9 (AAK ⟨_,rfl,AAK h⟩) b))
end
end HT
namespace L2
open PySem PySem.Spec PyProof.Rows
abbrev TO:=St->Hp->(ke Int->Hp->Prop)->Prop
def PO (X:Cx)(e:ke kd)(t:TO):Prop:=
 ∀(Sr:km (kf×Obj)) (s:ki) (a:St) (H:Hp) (Q:ke Int->Hp->Prop),Inv X Sr a H s->t a H Q->
  wpAny (model X.prog X.w) X.A (evalPart e X.env) (λu c=>∃o b,Inv X Sr a b c/\IsPart u o/\Q o b) X.xe s
def mW:TO:=λ_ H Q=>Q none H
def wL (t:TE):TO:=λa H Q=>t a H λx H1=>∃i,x= .int i/\Q (some i) H1
section
variable {X:Cx}{e:kd}{te:TE}{lo hi:ke kd}{tl th:TO}{pos p2:Pos}
def lV:PO X none mW:=by intro Sr s a H Q I h;rw[evalPart_none];exact AAK ⟨none,H,I, .none,h⟩
def lW (h:PE X e te):PO X (some e) (wL te):=by intro Sr s a H Q I hw;rw[evalPart_some];refine BA (h Sr s a H _ I hw) λu d ⟨x,H1,b,r1,c⟩=> ?_;obtain⟨i,rfl,q⟩:=c;obtain⟨t,rfl⟩:=r1;exact⟨some i,H1,b, .int i t,q⟩
def nJ (X:Cx)(r:V->ke Int->ke Int->Hp->VK->Prop):Prop:=
 ∀(Sr:km (kf×Obj)) (s:ki) (a:St) (H:Hp) (x:V) (v b c:kj) (lo hi:ke Int) (sl:kf) (Q:VK),Inv X Sr a H s->RelV x v->s.heap.IsSliceOf sl b c .none->IsPart b lo->IsPart c hi->r x lo hi H Q->
  ∃T id,typeLookup (.type T) "__getitem__" =pure (some (.builtin id))/\s.TypeIs v T/\wpAny (model X.prog X.w) X.A (getItem v (.ref sl)) (EP X Sr a Q) X.xe s
def nJ.or {r a:V->ke Int->ke Int->Hp->VK->Prop}(h:nJ X r)(h':nJ X a):nJ X (λx lo hi H Q=>r x lo hi H Q\/a x lo hi H Q):=by
 intro Sr s b H x v c d lo hi sl Q I f hs g i q;rcases q with q|q
 .exact h Sr s b H x v c d lo hi sl Q I f hs g i q
 .exact h' Sr s b H x v c d lo hi sl Q I f hs g i q
def tSl (r:V->ke Int->ke Int->Hp->VK->Prop)(te:TE)(tl th:TO):TE:=λa H Q=>te a H λx H1=>tl a H1 λl b=>th a b λu c=>r x l u c Q
def gw (i:nJ X r)(he:PE X e te)(hl:PO X lo tl)(hu:PO X hi th):PE X (.Subscript e (.Slice lo hi none p2) pos) (tSl r te tl th):=by intro Sr s c H Q I h;refine Subscript_ (BA (he Sr s c H _ I h) λv j ⟨x,H1,k,r1,m⟩=> ?_);refine wpAny_Slice (BA (hl Sr j c H1 _ k m) λd n ⟨l,o,p,t,y⟩=>BA (hu Sr n c o _ p y) λf a ⟨u,g,z,B,C⟩=> ?_);rw[evalPart_none];refine AAK ?_;have D:Inv X Sr c g {a with heap:=a.heap.push {cls:= .type "slice",data:= .fields #[d,f, .none] }}:=z.kept (t':=a.toks) λb J q=>AAP _ q;obtain⟨T,id,E,F,G⟩:=i Sr {a with heap:=a.heap.push {cls:= .type "slice",data:= .fields #[d,f, .none] }} c g x v d f l u a.heap.objs.size Q D r1 (Heap.IsSliceOf.new ..) t B C;show wpAny (model X.prog X.w) X.A (subscriptTail e (.Slice lo hi none p2) v (.ref a.heap.objs.size)) (EP X Sr c Q) X.xe {a with heap:=a.heap.push {cls:= .type "slice",data:= .fields #[d,f, .none] }};exact tail_any (ops:= [.ref a.heap.objs.size,v]) F E G (by with_unfolding_all rfl)
noncomputable def Ps (xs:km V)(lo hi:ke Int):km V:=(xs.drop (HT.sIx xs.length 0 lo)).take (HT.sIx xs.length xs.length hi-HT.sIx xs.length 0 lo)
def Lh (xs:km V)(lo hi:ke Int):(Ps xs lo hi).length<=xs.length:=by unfold Ps;rw[AFm,List.length_drop];omega
def yw (K:AAJ):V->ke Int->ke Int->Hp->VK->Prop:=λx lo hi H Q=>∃a xs,x= .ref a/\Nj K H a xs/\
 ¬(HT.sIx xs.length 0 lo=0/\HT.sIx xs.length xs.length hi=xs.length)/\∀p,H p=none->Q (.ref p) (upd H p (.tup (Ps xs lo hi)))
def rP:nJ X (yw X.K):=by
 intro Sr s k H x v l m lo hi sl Q I g hs i j h;obtain⟨a,xs,rfl,hx,hw,q⟩:=h;cases g;obtain⟨c,r,f,hz⟩:=I.tuple hx;have d:c.toArray.size=xs.length:=by rw[AAh];exact r.length.symm
 refine⟨"tuple",_,ADk.lookup,f.typeIs, ?_⟩;refine HT.getItem_tuple_cut f hs i j (by rw[d];exact hw) ?_ (by rw[d];exact hz);rw[d];refine⟨.ref s.heap.objs.size,_,I.laid (t':=s.toks) (o:= .tup (Ps xs lo hi)) (λb n q=>AAP _ q) (AAR _) ?_,rfl,q _ (I.hok.fresh (AAR _))⟩;exact⟨AAg (Lh xs lo hi) hz,_,(r.drop (HT.sIx xs.length 0 lo)).take (HT.sIx xs.length xs.length hi-HT.sIx xs.length 0 lo),IsTup.new _ _⟩
def n8 (K:AAJ):R2:=λx y H Q=>∃a b xs ys,x= .ref a/\y= .ref b/\Nj K H a xs/\Nj K H b ys/\xs≠ [] /\xs.length+ys.length<=sizeLine/\
 (ys= [] ->Q (.ref a) H)/\(ys≠ [] ->∀p,H p=none->Q (.ref p) (upd H p (.tup (xs++ys))))
def Au.nil_iff (r:Au xs a):a= [] ↔xs= [] :=by
 cases r with
 | nil=>simp
 | cons _ _=>simp
def lG:Ea X (binaryOp .Add) (n8 X.K):=by intro Sr s k H x y v u Q I d f h;obtain⟨a,b,xs,ys,rfl,rfl,ha,hb,hx,hz,g,i⟩:=h;cases d;cases f;obtain⟨j,r1,p1,_⟩:=I.tuple ha;obtain⟨c,r2,p2,_⟩:=I.tuple hb;refine HT.cat_tup p1 p2 (λz=>hx (r1.nil_iff.mp z)) (λz=>⟨.ref a,H,I,rfl,g (r2.nil_iff.mp z)⟩) (λz=> ?_) (by rw[<-r1.length,<-r2.length];exact hz);refine⟨.ref s.heap.objs.size,_,I.laid (t':=s.toks) (o:= .tup (xs++ys)) (λb l q=>AAP _ q) (AAR _) ?_,rfl,i (λw=>z (r2.nil_iff.mpr w)) _ (I.hok.fresh (AAR _))⟩;exact⟨by rw[ACG];exact hz,_,r1.append r2,IsTup.new _ _⟩
end
noncomputable def ZQ (n:Nat)(i:Int):ke Nat:=if 0<=i then (if i<n then some i.toNat else none) else if -(n:Int)<=i then some (i+n).toNat else none
noncomputable def Jf {a:Type}(xs:km a)(i:Int):ke a:=(ZQ xs.length i).bind λj=>xs[j]?
def ZR (h:ZQ n i=some j):seqIndex? i n=some j/\j<n/\ -(n:Int)<=i/\i<n:=by
 unfold ZQ at h;by_cases a:0<=i
 .rw [AAM a] at h;by_cases h1:i<n
  .rw [AAM h1] at h;have e:i.toNat=j:=AAt h;exact⟨by rw[seqIndex_of a h1,e],!0,!0,h1⟩
  .rw [AAL h1] at h;cases h
 .rw [AAL a] at h;by_cases h1: -(n:Int)<=i
  .rw [AAM h1] at h;have e:(i+n).toNat=j:=AAt h;exact⟨by rw[seqIndex_neg (!0) h1,e],!0,h1,!0⟩
  .rw [AAL h1] at h;cases h
def Yv {a:Type}{xs:km a}{i:Int}{v:a}(h:Jf xs i=some v):∃j,seqIndex? i xs.length=some j/\xs[j]? =some v/\j<xs.length/\ -(xs.length:Int)<=i/\i<xs.length:=by
 unfold Jf at h;cases e:ZQ xs.length i with
 | none=>rw[e] at h;cases h
 | some j=> rw[e] at h;obtain⟨h1,h2,h3,b⟩:=ZR e;exact⟨j,h1,h,h2,h3,b⟩
def DL {a:Type}{xs:km a}{j:Nat}{v:a}(h:xs[j]? =some v):Jf xs (j:Int)=some v:=by
 have hj:j<xs.length:=(AB8.mp h).1;have e:ZQ xs.length (j:Int)=some j:=by unfold ZQ;rw[AAM (!0),AAM (!0)];simp
 unfold Jf;rw[e];exact h
def R4 (b:kd):Prop:=∀o i,subscripted b false o i=operate [o,i] (getItem o i)
def je (X:Cx)(r:R2):Prop:=
 ∀(value slice:kd) (Sr:km (kf×Obj)) (s:ki) (a:St) (H:Hp) (x y:V) (v u:kj) (Q:VK),Inv X Sr a H s->RelV x v->RelV y u->r x y H Q->
  subscripted slice false v u=operate [v,u] (getItem v u)->wpAny (model X.prog X.w) X.A (subscriptTail value slice v u) (EP X Sr a Q) X.xe s
def MtR (X:Cx)(id:String)(r:V->km V->Hp->VK->Prop):Prop:=
 ∀(Sr:km (kf×Obj)) (s:ki) (a:St) (H:Hp) (x:V) (xs:km V) (v:kj) (b:km kj) (Q:VK),Inv X Sr a H s->RelV x v->Au xs b->r x xs H Q->
  wpAny (model X.prog X.w) X.A (call (.builtin id) (v::b)) (EP X Sr a Q) X.xe s
section
variable {X:Cx}{a b:kd}{ta tb:TE}{pos:Pos}
def je.or {r c:R2}(h:je X r)(h':je X c):je X (λx y H Q=>r x y H Q\/c x y H Q):=by
 intro value slice Sr s d H x y v u Q I e f q hs;rcases q with q|q
 .exact h value slice Sr s d H x y v u Q I e f q hs
 .exact h' value slice Sr s d H x y v u Q I e f q hs
def Ln (c:je X r)(ha:PE X a ta)(hb:PE X b tb)(hs:R4 b):PE X (.Subscript a b pos) (c6 r ta tb):=by intro Sr s d H Q I h;exact Subscript_ (pA ha hb I h λv u e x y f g i j q=>c a b Sr e d f x y v u Q g i j q (hs _ _))
def vO (K:AAJ):R2:=λx y H Q=>∃p xs i v,x= .ref p/\y= .int i/\GH K H p xs/\Jf xs i=some v/\Q v H
def vQ (K:AAJ):R2:=λx y H Q=>∃p xs i v,x= .ref p/\y= .int i/\Nj K H p xs/\Jf xs i=some v/\Q v H
def FT:je X (vO X.K):=by
 intro value slice Sr s g H x y v u Q I l m h hs;obtain⟨p,xs,i,z,rfl,rfl,hq,he,q⟩:=h;cases l;obtain⟨t,rfl⟩:=m;obtain⟨d,r,e,hz⟩:=I.list hq;obtain⟨j,h1,h2,h3,n,o⟩:=Yv he;obtain⟨w,ew,f⟩:=r.get h2;have hl:=r.length;have B:=K5;have c:EP X Sr g Q w s:=⟨z,H,I,f,q⟩;by_cases k:0<=i
 .have hj:i.toNat=j:=by rw[seqIndex_of k o] at h1;exact AAt h1
  exact item_listR e.isList k (!0) (by rw[hj];simpa using ew) c hs
 .have hj:(i+(d.toArray.size:Int)).toNat=j:=by rw[seqIndex_neg (!0) n] at h1;rw[AAh,<-hl];exact AAt h1
  exact subscriptTail_builtinR (x:=w) e.isList.typeIs slot_list_getitem.lookup
   (wpAny_getItem_list_neg (Q:=λr A=>r=w/\EP X Sr g Q r A) e.isList (!0) (by rw[AAh] <;> omega) (!0) (by rw[hj];simpa using ew) ⟨rfl,c⟩) hs
def pq:je X (vQ X.K):=by
 intro value slice Sr s e H x y v u Q I g k h hs;obtain⟨p,xs,i,z,rfl,rfl,hq,he,q⟩:=h;cases g;obtain⟨t,rfl⟩:=k;obtain⟨l,r,f,hz⟩:=I.tuple hq;obtain⟨j,h1,h2,h3,n,o⟩:=Yv he;obtain⟨w,ew,c⟩:=r.get h2;have hl:=r.length;have A:=K5;have d:EP X Sr e Q w s:=⟨z,H,I,c,q⟩;exact subscriptTail_builtinR (x:=w) f.typeIs slot_tuple_getitem.lookup
  (getItem_tuple (j:=j) (Q:=λr m=>r=w/\EP X Sr e Q r m) f (!0) (!0) (by rw[AAh,<-hl];exact h1) (↑ew) ⟨rfl,d⟩) hs
def Xd (c:km kj)(n j:Nat)(u:kj):Obj.mapSeq (·.setIfInBounds j u) {cls:= .type "list",data:= .seq c.toArray n}={cls:= .type "list",data:= .seq (c.set j u).toArray n}:=by simp[Obj.mapSeq]
def Inv.lst {H:Hp}(I:Inv X Sr d H s)(h:H p=some (.lst xs)):∃(c:km kj) (n:Nat),Au xs c/\s.heap.get? p=some {cls:= .type "list",data:= .seq c.toArray n}/\xs.length<=sizeLine:=by obtain⟨z,c,n,r,e⟩:=I.hok p _ h;exact⟨c,n,r,e,z⟩
def Inv.lstUpd {H:Hp}{c its':km kj}{f:Obj->Obj}(I:Inv X Sr g H s)(h:H p=some (.lst xs))(j:s.heap.get? p=some {cls:= .type "list",data:= .seq c.toArray n})(i:f {cls:= .type "list",data:= .seq c.toArray n}={cls:= .type "list",data:= .seq its'.toArray d})(r:Au ys its')(hz:ys.length<=sizeLine)(t:Nat):Inv X Sr g (upd H p (.lst ys)) {s with heap:=s.heap.update p f,toks:=t}:=by
 have e:(s.heap.update p f).get? p=some {cls:= .type "list",data:= .seq its'.toArray d}:=by rw[ACj f j (by rw[i] <;> rfl),i]
 refine I.write (x:=p) (e:=p) (by rw[h];trivial) (.inl rfl) (λb u hb q=>(AEZ _ _ (AA6 hb)).trans q) ⟨_,e⟩ ?_;exact⟨hz,its',d,r,e⟩
def vV:V->V->V->Hp->(Hp->Prop)->Prop:=λo i v H Q=>∃p xs k j,o= .ref p/\i= .int k/\H p=some (.lst xs)/\ZQ xs.length k=some j/\Q (upd H p (.lst (xs.set j v)))
def KF:oU X vV:=by
 intro Sr s l H o i v x y u Q I m w rv h;obtain⟨p,xs,k,j,rfl,rfl,hp,hj,q⟩:=h;cases m;obtain⟨t,rfl⟩:=w;obtain⟨c,n,r,d,hz⟩:=I.lst hp;obtain⟨h1,h2,h3,e⟩:=ZR hj;have hl:=r.length;have z:=K5;have f:Inv X Sr l (upd H p (.lst (xs.set j v))) {s with heap:=s.heap.update p (Obj.mapSeq (·.setIfInBounds j u))}:=
  I.lstUpd hp d (Xd c n j u) (r.set rv j) (by rw[List.length_set];exact hz) s.toks
 by_cases g:0<=k
 .have hk:k.toNat=j:=by rw[seqIndex_of g e] at h1;exact AAt h1
  exact PySem.W.ki_setAt d g (!0) (by rw[AAh,<-hl];exact e) (by rw[hk];exact⟨_,f,q⟩)
 .have hk:(k+(c.toArray.size:Int)).toNat=j:=by rw[seqIndex_neg (!0) h3] at h1;rw[AAh,<-hl];exact AAt h1
  exact PySem.W.ki_setBack d (!0) (by rw[AAh,<-hl];exact h3) (!0) (by rw[hk];exact⟨_,f,q⟩)
def Tx (lo hi:ke Int)(n:Nat):(sliceBounds lo hi none n).1=((HT.sIx n 0 lo:Nat):Int)/\(sliceBounds lo hi none n).2.1=((HT.sIx n n hi:Nat):Int)/\(sliceBounds lo hi none n).2.2=1:=by
 refine⟨?_, ?_,rfl⟩
 .cases lo with
  | none=>simp[sliceBounds,HT.sIx]
  | some i=>
    simp only[sliceBounds,HT.sIx,Option.getD_none,show (1:Int)>0 by decide,ACL];by_cases h:i<0
    .simp only[h,ACL] <;> omega
    .simp only[h,AAn] <;> omega
 .cases hi with
  | none=>simp[sliceBounds,HT.sIx]
  | some i=>
    simp only[sliceBounds,HT.sIx,Option.getD_none,show (1:Int)>0 by decide,ACL];by_cases h:i<0
    .simp only[h,ACL] <;> omega
    .simp only[h,AAn] <;> omega
def QE (c:km kj)(lo hi:ke Int):slicePick c.toArray lo hi none=((c.drop (HT.sIx c.length 0 lo)).take (HT.sIx c.length c.length hi-HT.sIx c.length 0 lo)).toArray:=by obtain⟨h1,h2,h3⟩:=Tx lo hi c.toArray.size;unfold slicePick;rw[h1,h2,h3];simp only[sliceRange_one,pick_run,AAh] <;> rfl
def yu (K:AAJ):V->ke Int->ke Int->Hp->VK->Prop:=λx lo hi H Q=>∃a xs,x= .ref a/\GH K H a xs/\∀p,H p=none->Q (.ref p) (upd H p (.lst (Ps xs lo hi)))
def mQ:nJ X (yu X.K):=by intro Sr s j H x v k l lo hi sl Q I d hs e f h;obtain⟨a,xs,rfl,hx,q⟩:=h;cases d;obtain⟨g,r,c,hz⟩:=I.list hx;have i:=r.length;refine⟨"list",_,slot_list_getitem.lookup,c.isList.typeIs, ?_⟩;refine wpAny_getItem_list_slice c.isList hs e f .none (!2) ?_ (by rw[AAh] <;> omega);rw[QE,<-i];refine⟨.ref s.heap.objs.size,_,I.laid (t':=s.toks) (o:= .lst (Ps xs lo hi)) (λb m q=>AAP _ q) (AAR _) ?_,rfl,q _ (I.hok.fresh (AAR _))⟩;exact⟨AAg (Lh xs lo hi) hz,_,0,(r.drop (HT.sIx xs.length 0 lo)).take (HT.sIx xs.length xs.length hi-HT.sIx xs.length 0 lo),AAV _ rfl⟩
def Ji:C8 X (.builtin "len") (λxs H Q=>∃p ys,xs= [.ref p] /\(GH X.K H p ys\/Nj X.K H p ys)/\Q (.int ys.length) H):=by
 intro Sr s i H xs j Q I r h;obtain⟨p,ys,rfl,hq,q⟩:=h;obtain⟨u,rfl,g⟩:=vals1 r;cases g;have k:=K5;rcases hq with hq|hq
 .obtain ⟨c,d,e,hz⟩:=I.list hq;have f:=d.length;exact Calls.call_len_list e.isList (by simp only[AAh] <;> omega) ⟨.int ys.length,H,I.tok _,⟨s.toks+1,by rw[AAh,f]⟩,q⟩
 .obtain ⟨c,d,e,hz⟩:=I.tuple hq;have f:=d.length;exact len_tuple e (by simp only[AAh] <;> omega) ⟨.int ys.length,H,I.tok _,⟨s.toks+1,by rw[AAh,f]⟩,q⟩
def Pp:C8 X (.type "tuple") (λxs H Q=>∃p ys,xs= [.ref p] /\((GH X.K H p ys/\∀l,H l=none->Q (.ref l) (upd H l (.tup ys)))\/(Nj X.K H p ys/\Q (.ref p) H))):=by
 intro Sr s g H xs n Q I r h;obtain⟨p,ys,rfl,h⟩:=h;obtain⟨u,rfl,j⟩:=vals1 r;cases j;rcases h with⟨hq,q⟩|⟨hq,q⟩
 .obtain ⟨c,d,f,hz⟩:=I.list hq;have t:=d.length;refine call_tuple_list f.isList (λh' k=> ?_) (by simp only[AAh] <;> omega);have i:Inv X Sr g H {s with heap:=h'}:=I.kept (t':=s.toks) k;have m:Inv X Sr g (upd H h'.objs.size (.tup ys)) {s with heap:=h'.push {cls:= .type "tuple",data:= .seq c.toArray}}:=
   i.laid (t':=s.toks) (λb o e=>AAP _ e) (AAR _) (show Bz X.prog X.w _ _ _ (.tup ys) from⟨hz,c,d,IsTup.new _ _⟩)
  exact⟨.ref h'.objs.size,_,m,rfl,q _ (i.hok.fresh (AAR _))⟩
 .obtain ⟨c,d,f,hz⟩:=I.tuple hq;exact call_tuple_same f ⟨.ref p,H,I,rfl,q⟩
def tyV (K:AAJ)(T:String)(x:V)(H:Hp):Prop:=match x with
 | .str _=>T="str"
 | .int _=>T="int"
 | .ref p=>(T="list" /\∃xs,GH K H p xs)\/(T="tuple" /\∃o,K.lookup p=some o/\o.cls= .type "tuple" /\o.dict=none)\/
     (T="dict" /\((∃kvs,H p=some (.dK kvs))\/∃kvs,H p=some (.dT kvs)))\/(T="set" /\∃S n,H p=some (.set S n))
 | _=>False
def sB (I:Inv X Sr j H s)(r:RelV x v)(d:tyV X.K T x H):s.TypeIs v T/\∀a,v= .ref a->∃g,s.heap.get? a=some g/\g.dict=none:=by
 cases x with
 | str z=> obtain⟨t,rfl⟩:=r;cases (show T="str" from d);exact⟨typeIs_str s z t,λ_ e=>nomatch e⟩
 | int i=> obtain⟨t,rfl⟩:=r;cases (show T="int" from d);exact⟨typeIs_int s i t,λ_ e=>nomatch e⟩
 | ref p=>
   cases r;rcases d with⟨rfl,xs,hq⟩|⟨rfl,o,hk,hc,hd⟩|⟨rfl,hk⟩|⟨rfl,S,n,hk⟩
   .obtain ⟨k,_,h,_⟩:=I.list hq;refine⟨h.isList.typeIs,λa e=> ?_⟩;cases e;obtain⟨o,n,e,c,hd,_⟩:=h;exact⟨o,e,hd⟩
   .refine ⟨⟨o,I.kIn p o hk,hc⟩,λa e=> ?_⟩;cases e;exact⟨o,I.kIn _ o hk,hd⟩
   .have z:∃o,s.heap.get? p=some o/\o.ExactDict:=by
     rcases hk with⟨kvs,hk⟩|⟨kvs,hk⟩
     .obtain ⟨_,_,_,_,o,_,_,e,ex,_⟩:=I.hok p _ hk;exact⟨o,e,ex⟩
     .obtain ⟨_,_,_,_,o,_,_,e,ex,_⟩:=I.hok p _ hk;exact⟨o,e,ex⟩
    obtain⟨o,e,ex⟩:=z;refine⟨⟨o,e,ex.1⟩,λa f=> ?_⟩;cases f;exact⟨o,e,ex.2.1⟩
   .obtain ⟨o,_,_,_,e,ex,_⟩:=I.hok p _ hk;refine⟨⟨o,e,ex.1⟩,λa f=> ?_⟩;cases f;exact⟨o,e,ex.2.1⟩
 | _=>exact False.elim d
def tBM (K:AAJ)(T:String)(r:V->km V->Hp->VK->Prop)(d:TE)(t:TA):TE:=λc H Q=>d c H λx H1=>tyV K T x H1/\t c H1 λxs e=>r x xs e Q
variable {o e:kd}{es:km kd}{to:TE}{t:TA}{name:Str}{apos cpos:Pos}{T id:String}{r:V->km V->Hp->VK->Prop}
def vG (g:PlainAttrs T)(slot:Slot T name id)(i:typeOf (.builtin id)=pure (.type "method_descriptor"))(j:MtR X id r)(k:PE X o to)(ha:PA X (e::es) t)(l:attributeBase o name X.env (eval o X.env)=eval o X.env:=by rfl)(m:((backTo cpos (starEach (e::es) X.env)).all (λx=> !x.1)&&(backToKw cpos (keywordEach [] X.env)).all (λx=>x.1.isSome) && decide ((e::es).length+([] :km Keyword).length+(if ([] :km Keyword).isEmpty then 0 else 1)<30))=true:=by rfl)(n:(apos.endLine==cpos.line)=true:=by rfl)(hs:starEach (e::es) X.env=(false,eval e X.env)::starEach es X.env:=by rfl)(p:(backTo cpos (starEach es X.env)).any (·.1)=false:=by rfl):PE X (.Call (.Attribute o name apos) (e::es) [] cpos) (tBM X.K T r to t):=by intro Sr s c H Q I h;refine wpAny_Call_method_late l m n rfl (BA (k Sr s c H _ I h) λv u ⟨x,H1,d,r1,w,y⟩=> ?_);obtain⟨h1,h2⟩:=sB d r1 w;refine⟨T,id,g,slot,i,h1,h2, ?_⟩;have f:=ha cpos Sr u c H1 _ d y;rw[hs] at f ⊢;refine AEa (by show (false||(backTo cpos (starEach es X.env)).any (·.1))=false;rw[p] <;> rfl) (AFr ?_);exact BA f λz A ⟨vs,B,C,r2,D⟩=>j Sr A c B x vs v z Q C r1 r2 D
end
def tX (X:Cx)(id:String)(r:V->km V->Hp->VK->Prop):Prop:=
 ∀(Sr:km (kf×Obj)) (s:ki) (a:St) (H:Hp) (x:V) (xs:km V) (v:kj) (b:km kj) (Q:VK),Inv X Sr a H s->RelV x v->Au xs b->r x xs H Q->
  wpAny (model X.prog X.w) X.A (call (.builtin id) (v::b)) (EP X Sr a Q) X.xe s
def Au.one:∀{x:V} {a:km kj},Au [x] a->∃u,a= [u] /\RelV x u
 | _,_, .cons r .nil=>⟨_,rfl,r⟩
def Au.two:∀{x y:V} {a:km kj},Au [x,y] a->∃u v,a= [u,v] /\RelV x u/\RelV y v
 | _,_,_, .cons r (.cons q .nil)=>⟨_,_,rfl,r,q⟩
def Au.zero:∀{a:km kj},Au [] a->a= []
 | _, .nil=>rfl
def Au.dropLast (h:Au xs a):Au xs.dropLast a.dropLast:=by
 induction h with
 | nil=>exact .nil
 | cons r t ih=>
   cases t with
   | nil=>exact .nil
   | cons q t'=>exact .cons r ih
def Au.reverse (h:Au xs a):Au xs.reverse a.reverse:=by
 induction h with
 | nil=>exact .nil
 | cons r t ih=>rw[AE1,AE1];exact Au.append ih (.cons r .nil)
section
variable {X:Cx}{Sr:km (kf×Obj)}{σ:St}{H:Hp}{s:ki}{l b:kf}{xs ys zs:km V}
def Inv.lset {a its':km kj}{f:Array kj->Array kj}{t':Nat}(I:Inv X Sr σ H s)(c:H l=some (.lst xs))(e:s.heap.get? l=some {cls:= .type "list",data:= .seq a.toArray n})(d:f a.toArray=its'.toArray)(hv:Au ys its')(hz:ys.length<=sizeLine):Inv X Sr σ (upd H l (.lst ys)) {s with heap:=s.heap.update l (Obj.mapSeq f),toks:=t'}:=by have q:=PySem.IsL.update e f;rw[d] at q;refine I.write (x:=l) (e:=l) (by rw[c];exact trivial) (.inl rfl) (λg u hb hu=>(AEZ s.heap (Obj.mapSeq f) (AA6 hb)).trans hu) ⟨_,q⟩ ?_;exact⟨hz,its',_,hv,q⟩
def Inv.lnew {t':Nat}(I:Inv X Sr σ H s)(hv:Au ys a)(hz:ys.length<=sizeLine):Inv X Sr σ (upd H s.heap.objs.size (.lst ys)) {s with heap:=s.heap.push {cls:= .type "list",data:= .seq a.toArray},toks:=t'}:=
 I.laid (λ_ _ q=>AAP _ q) (AAR _) ⟨hz,a,0,hv,AAV _ rfl⟩
def Inv.fresh (I:Inv X Sr σ H s):H s.heap.objs.size=none:=I.hok.fresh (AAR _)
def Inv.lstM (I:Inv X Sr σ H s)(c:H l=some (.lst xs)):xs.length<=sizeLine/\∃(a:km kj) (n:Nat),Au xs a/\xs.length=a.length/\s.heap.get? l=some {cls:= .type "list",data:= .seq a.toArray n}:=by obtain⟨z,a,n,r,e⟩:=I.hok l _ c;exact⟨z,a,n,r,r.length,e⟩
end
section
variable {X:Cx}
def TJ:V->km V->Hp->VK->Prop:=λx vs H Q=>∃l xs y,x= .ref l/\vs= [y] /\H l=some (.lst xs)/\xs.length<sizeLine/\Q .non (upd H l (.lst (xs ++ [y])))
def K8:tX X "list.append" TJ:=by intro Sr s f H x vs v g Q I c rv h;obtain⟨l,xs,y,rfl,rfl,b,hz,q⟩:=h;cases c;obtain⟨u,rfl,d⟩:=rv.one;obtain⟨z,a,n,r,hl,e⟩:=I.lstM b;refine call_meets F.slot_list_append ⟨_,e,rfl⟩ F.entry_list_append (F.args_list_append_2 _ _) (PySem.list_append l a.toArray n u (by rw[AAh];omega)) ⟨e, ?_⟩;refine⟨.non,_,I.lset (its':=a ++ [u]) b e (!2) (r.append (.cons d .nil)) ?_,rfl,q⟩;rw[ACG,List.length_singleton];omega
def vL:R2:=λx y H Q=>∃l b xs a,x= .ref l/\y= .ref b/\H l=some (.lst xs)/\H b=some (.lst a)/\xs.length+a.length<=sizeLine/\∀p,H p=none->Q (.ref p) (upd H p (.lst (xs++a)))
def qT:Ea X (binaryOp .Add) vL:=by
 intro Sr s m H x y v u Q I d f h;obtain⟨l,b,xs,o,rfl,rfl,g,i,hz,q⟩:=h;cases d;cases f;obtain⟨z,c,n,r,hl,e⟩:=I.lstM g;obtain⟨p,a,t,r2,w,j⟩:=I.lstM i;refine PySem.P.add_list e j ?_ (by rw[AAh,AAh];omega);have k:c.toArray++a.toArray=(c++a).toArray:=!2
 rw[k];exact⟨.ref _,_,I.lnew (t':=s.toks) (r.append r2) (by rw[ACG];omega),rfl,q _ I.fresh⟩
end
section
variable {prog:gn}{w:fe}{A:Tb}{E:kj->ki->Prop}{s:ki}
set_option maxRecDepth 100000 in
end
end L2
namespace Att
open PySem PySem.W PySem.Calls PyProof.Rows
def MF:∀(c:km Int) (vs:km kj),WellAll P h vs (c.map WData.int)->IntsAre vs c:=by
 intro c;induction c with
 | nil=> intro vs w;rw[AEb] at w;cases w;exact .nil
 | cons n c ih=>
   intro vs w;rw[AAW] at w;cases w with
   | cons a b=> cases a;exact .cons _ _ (ih _ b)
def cv {l:OpenLaw}(i:l.most=some n)(g:l.row.toRowW.claim.pre args=true)(j:WellAll P h vals args):∃a vs b,vals= [Value.ref a] /\args= [WData.list (b.map WData.int)] /\h.get? a=some {cls:= .type "list",data:= .seq vs.toArray}/\IntsAre vs b/\b.length<=n:=by
 have f:WShape.hasAll [] args [.list .int] =true:=(pre_splitW g).1;have hc:l.pre.holds [] {args:=args}=true:=(pre_splitW g).2;obtain⟨d,r,rfl,h1,h2⟩:=hasAllW_cons f;obtain rfl:=hasAllW_nil h2;obtain⟨xs,rfl,h3⟩:=hasW_list h1;obtain⟨b,rfl⟩:=items_int h3;have k:b.length<=n:=by
  unfold OpenLaw.pre at hc;have c:(WTm.not (.lt (.lit (.int (n:Int))) (.len (.arg 0)))).holds [] {args:= [.list (b.map .int)] }=true:=by have c:=(holds_andW hc).1;rw[i] at c;exact c
  have e:=condW_of c (w_not (w_lt w_lit (w_len_list (w_arg rfl))));rw[AAT] at e;refine Nat.le_of_not_lt λq=> ?_;have m:(n:Int)<((b.length:Nat):Int):=!0
  first
   | (rw[AAl m] at e;exact absurd e (!1))
   | (simp at e;omega)
 cases j with
 | cons o p=>
   cases p;cases o with
   | list s t=>exact⟨_,_,b,rfl,rfl,s,MF b _ t,k⟩
def cg (l:OpenLaw)(args:km WData):l.row.toRowW.claim.post args (.bool true) args=true:=
 postW_of (r:=l.row.toRowW) (X:=(true==true))
  (show WShape.has [] (.bool true) .bool=true by first | rfl|decide|simp[WShape.has,WShape.arms,WShape.armsAll])
  (show (WTm.eq .res (.lit (.bool true))).value [] {args:=args,res:=some (.bool true),after:=args}=some (.bool (true==true)) from w_eq_bool (w_res rfl) w_lit) rfl
def attach_call {l:OpenLaw}{q:gn}{loose:km Str}{YP:fe->Wf->Prop}{d:DefRec}(p:l.most=some n)(s:d.params.defaults= [])(call:∀(w:fe) (s₀ b:ki) (mg j:Str->ke kj) (e:kf) (o:Obj) (k g c:kj) (a:kf) (vs:km kj) (h:km Int),Ground q loose [] XP w s₀ mg j b.heap->YP w b.heap-> b.heap.get? e=some o->o.data= .func (docDef d.name d.params d.body d.scope k g c)->b.heap.CodeRec g d.name->mg d.name=some (.ref e)-> b.heap.get? a=some {cls:= .type "list",data:= .seq vs.toArray}->IntsAre vs h->h.length<=n->b.gens= #[] -> codeAny (model l.prog w) callerA (.call (.ref e) ⟨[.ref a], []⟩) (λr i=>r= .ok (.ret (.bool true))/\OldK b.heap i.heap/\i.os=b.os/\AllBare i.gens) b):WalkO q loose XP YP l.row.toRowW d [] (λf vs=>PySem.call f vs):=by intro w s₀ b mg j G Y e o k g c t kV u hd v m x y args vals as z A B C D;obtain rfl:t= .none:=Dflts.none m s;obtain rfl:kV= .none:=Dflts.noKw m;obtain⟨a,vs,h,rfl,rfl,E,F,H⟩:=cv p z C;refine enter_call (AC7 (call w s₀ b mg j e o k g c a vs h G Y u (fd_plain hd) v x E F H y) λr i hq=> ?_);obtain⟨rfl,h2,h3,I⟩:=hq;exact⟨.inl ⟨.bool true, .bool true, [],rfl,λ_=>rfl, .bool true,cg l _,λ_=>⟨List.Pairwise.nil,λ_ J=>(nomatch J)⟩⟩,h2,h3,I⟩
section
variable {prog:gn}{w:fe}{A:Tb}{E:kj->ki->Prop}{s:ki}{K:Frag}
noncomputable def yk (h:Wf)(L d:kf):km (kf×Obj):=(List.range h.objs.size).filterMap λa=>if a=L\/a=d then none else (h.get? a).map λo=>(a,o)
end
end Att
namespace L2
open PySem PySem.Spec PyProof.Rows
theorem RL:∀{vs:km kj} {a:km Int},IntsAre vs a->Au (a.map V.int) vs
 | _,_, .nil=> .nil
 | _,_, .cons n t h=> .cons ⟨t,rfl⟩ (RL h)
def oR (H:Hp):Prop:=∀b,H b=none\/∃o xs,H b=some (.frz o (.lst xs))
def gG {K:AAJ}{y:Str->ke kj}{CX:aN}{k:Nat}{x:Str}{sp:Sp}{c:ki}{vs:km kj}(G:K.In c.heap)(I:c.heap.Ns mainGlobals mg)(hb:c.heap.Ns builtinsNs y)(B:∀x:Str,x≠"__name__" ->y x=bootBuiltins x)(N:c.heap.NoLimit)(O:c.gens= #[])(ha:c.heap.get? a=some {cls:= .type "list",data:= .seq vs.toArray})(hi:IntsAre vs j)(hl:j.length<=sizeLine)(Q:Room k callerA)(F:∀base:Wf,K.In base->base.Ns mainGlobals mg->Du P w K mg base CX k A E [x] sp)(R:∀(s:ki) (u:kj),BindsTo s E ⟨[u], []⟩ [(x,u)])(S:∀H:Hp,oR H->GH K H a (j.map V.int)->sp [.ref a] H (λv _=>v= .bl true) λ_ _ _=>False)(T:∀H e g,CX [] H c (λ_ _ _=>False) e g->False):codeAny (model P w) callerA (.call (.ref A) ⟨[.ref a], []⟩) (λr g=>r= .ok (.ret (.bool true))/\OldK c.heap g.heap/\g.os=c.os/\AllBare g.gens) c:=by
 have rv:=RL hi;have l:=hi.length;have core:∀H:Hp,oR H->GH K H a (j.map V.int)->IU P w H c.heap->(∀b,H b≠none->b=a)->(H a≠none->K.lookup a=none)->
  codeAny (model P w) callerA (.call (.ref A) ⟨[.ref a], []⟩) (λr g=>r= .ok (.ret (.bool true))/\OldK c.heap g.heap/\g.os=c.os/\AllBare g.gens) c:=by
  intro H J U hok L W;have f:∀{b:kf} {o:Obj},c.heap.get? b=some o->H b=none->(Se c.heap H).get? b=some o:=λe n=>fq e n;have C:∀{b:kf} {o:Obj} {es:Array DictEntry} {ep:Nat},c.heap.get? b=some o->o.data= .dict es ep->H b=none:=λ{b o es ep} e d=>by
   cases q:H b with
   | none=>rfl
   | some u=> have D:b=a:=L b (by rw[q];simp);subst D;rw[ha] at e;cases e;have d':Data.seq vs.toArray _=Data.dict es ep:=d;cases d'
  have i:∀{b:kf} {m:Str->ke kj},c.heap.Ns b m->(Se c.heap H).Ns b m:=λ{b m} ⟨o,es,ep,e,d,r⟩=>⟨o,es,ep,f e (C e d),d,r⟩;have p:K.In (Se c.heap H):=λb o e=>f (G b o e) (by
   cases q:H b with
   | none=>rfl
   | some u=>
     have D:b=a:=L b (by rw[q];simp);subst D;rw[W (by rw[q];simp)] at e;cases e)
  have hM:Mod K mg (Se c.heap H):=⟨p,i I,⟨y,i hb,B⟩,let ⟨X,h1,h2⟩:=N;⟨X,i h1,h2⟩⟩;have Y:Pk P w K mg (Se c.heap H) callerA [] c H:=⟨rfl,hM,λb o e=>kh e,Nat.le_of_eq (bR _ _),trivial,λb hb=>absurd (show b∈([] :km kf) from hb) (!2),hok, .of_eq O⟩;refine AC7 ((F _ p (i I)).run callerA [] c H ⟨[.ref a], []⟩ [.ref a] [.ref a] _ _ Q Y (R c (.ref a)) (.cons rfl .nil) (S H J U)) λr g h=> ?_;cases r with
  | error e=>exact(T H e g h).elim
  | ok Z=>
    cases Z with
    | next=>exact False.elim h
    | brk=>exact False.elim h
    | cont=>exact False.elim h
    | ret u=>
      obtain⟨v,H',os,bare,un,yS,r',q⟩:=h;have q':v= .bl true:=q;subst q';obtain rfl:u=Value.bool true:=r';refine⟨rfl,OldK.of_keep λb o e=> ?_,os,bare⟩;cases q:H b with
      | none=>exact un.keep b o e q (by intro z;exact absurd (show b∈([] :km kf) from z) (!2)) (!2)
      | some u=>
        rcases J b with z|⟨ob,xs,z⟩
        .rw [q] at z;cases z
        .have z2:=un.frzs b ob _ z;obtain⟨M,_⟩:=hok b _ z;obtain⟨e2,_⟩:=yS b _ z2;rw[e] at M;cases M;exact e2
 cases hk:K.lookup a with
 | some o=> have e:=G a o hk;rw[ha] at e;cases e;refine core (λ_=>none) (λ_=> .inl rfl) (.inr ⟨_,vs.toArray,_,hk,rfl,rfl,rfl,by rw[AAh,l];exact hl,↑rv⟩) (λb u z=>by have t:(none:ke HO)=some u:=z;cases t) (λb z=>absurd rfl z) λz=>absurd rfl z
 | none=>
   refine core (λb=>if b=a then some (.frz {cls:= .type "list",data:= .seq vs.toArray} (.lst (j.map V.int))) else none) (λb=> ?_) (.inl (.inr ⟨{cls:= .type "list",data:= .seq vs.toArray},AAM rfl⟩)) (λb u z=> ?_) (λb z=> ?_) λ_=>hk
   .by_cases hb:b=a
    .exact .inr ⟨_,_,AAM hb⟩
    .exact .inl (AAL hb)
   .by_cases hb:b=a
    .have t:=(AAM hb).symm.trans z;cases t;subst hb;exact⟨ha,by rw[AAT];exact hl,vs,_,rv,ha⟩
    .have t:=(AAL hb).symm.trans z;cases t
   .by_cases hb:b=a
    .exact hb
    .exact absurd (AAL hb) z
abbrev KOf {K:AAJ}{h:Wf}(_:K.In h):AAJ:=K
def walk_of {l:PySem.W.OpenLaw}{k:Nat}{q:gn}{loose:km Str}{YP:fe->Wf->Prop}{d:DefRec}{K:Params->AAJ}{CX:fe->aN}{sp:fe->Sp}{x:Str}(z:l.most=some n)(m:n<=sizeLine)(A:d.params.defaults= [])(B:Room k callerA)(C:∀(w:fe) (h:Wf),YP w h->(K w.params).In h)(F:∀(w:fe) (mg:Str->ke kj) (i:kf) (h:Wf),(K w.params).In h->h.Ns mainGlobals mg->mg d.name=some (.ref i)-> ∃p:FuncData,(∀(s:ki) (u:kj),BindsTo s p ⟨[u], []⟩ [(x,u)])/\ ∀base:Wf,(K w.params).In base->base.Ns mainGlobals mg->Du l.prog w (K w.params) mg base (CX w) k i p [x] (sp w))(D:∀(w:fe) (H:Hp) (a:kf) (j:km Int),j.length<=n->oR H->GH (K w.params) H a (j.map V.int)->sp w [.ref a] H (λv _=>v= .bl true) λ_ _ _=>False)(E:∀(w:fe) (H:Hp) (s:ki) (e:kj) (r:ki),CX w [] H s (λ_ _ _=>False) e r->False):PySem.W.WalkO q loose XP YP l.row.toRowW d [] (λf vs=>PySem.call f vs):=by refine Att.attach_call z A λw s₀ c mg Q i o R S I a vs j G Y U hd X J L M t N=> ?_;have y:=C w _ Y;obtain⟨p,hb,hF⟩:=F w mg i _ y G.T.g J;exact gG y G.T.g G.T.b G.T.builtins G.T.nolimit N L M (AAg t m) B hF hb (λH O P=>D w H a j t O P) λH e r=>E w H c e r
abbrev MP:aN:=λ_ _ _ _ _ _=>False
abbrev E0:XK:=λ_ _ _=>False
def nu:Passes MP X E0:=λ_ _ _ _ _ _ _ h=>h.elim
structure Wm (K:AAJ) (x qual:Str) (st:Stmt) (f:Addr) (fd:FuncData):Prop where
 ex:∃(oc:Value) (od:Option Addr) (kV doc pm:Value) (an:Option Addr) (cdv ct:Value) (osl:Array (Option Value)),
  fd=PySem.W.fnOf x qual (EE st) (CJ st) (Ar st) .none kV doc pm an cdv ct/\K.lookup f=some ⟨oc,od, .func fd,osl⟩/\PySem.W.codeIn K cdv qual=true
 kp:PySem.W.keepIn K (.ref f)=true
section
variable {P:gn}{w:fe}{K:AAJ}{mg:Str->ke kj}{base:Wf}
def Wm.ok {st:Stmt}{N:km Str}{k:Nat}{sp:Sp}(F:Wm K x qual st f b)(S:DK N ps (Ar st))(len:∀vs H Q E,sp vs H Q E->vs.length=ps.length)(c:∀(a:kj) (A:Tb) (outer:km Env) (s:ki) (H:Hp) (vs:km V) (Q:VK) (E:XK),Room k (A.deeper (envOfC qual (Ar st) s.heap.objs.size f a))->sp vs H Q E-> ∃t,Ul (Pt MP P w K mg base N qual (Ar st) f a A outer s H E).nox (CJ st) t/\t {nx:=λ_ d=>Q .non d,rt:=Q} (start N vs) H):Du P w K mg base MP (k+1) f b ps sp:=by obtain⟨n,o,kV,e,p,r,a,ct,g,rfl,i,j⟩:=F.ex;refine nN i j S len λA outer s H vs Q E l m=> ?_;obtain⟨t,h,q⟩:=c a A outer s H vs Q E l m;exact⟨t,h.nox,q⟩
def Wm.binds {st:Stmt}{ps:km Str}(F:Wm K x qual st f g)(h:∀(kV a c:kj) (d:ke kf) (b ct:kj) (e:km kj),e.length=ps.length->bindArgs (PySem.W.fnOf x qual (EE st) (CJ st) (Ar st) .none kV a c d b ct) ⟨e, []⟩=pure (ps.zip e)):Binds K g ps [] :=by obtain⟨j,k,kV,a,c,d,b,ct,i,rfl,l,m⟩:=F.ex;exact .all (h kV a c d b ct)
def fU {st:Stmt}{h:kj}{i:ke kf}{d:Array (ke kj)}{kV:kj}(l:K.lookup f=some ⟨h,i, .func (PySem.W.fnOf x qual (EE st) (CJ st) (Ar st) .none kV b g e a ct),d⟩)(c:PySem.W.codeIn K a qual=true)(k:PySem.W.keepIn K (.ref f)=true):Wm K x qual st f (PySem.W.fnOf x qual (EE st) (CJ st) (Ar st) .none kV b g e a ct):=⟨⟨h,i,kV,b,g,e,a,ct,d,rfl,l,c⟩,k⟩
end
section
variable {X:Cx}
def pv (i:Nat)(hN:X.N[i]? =some x:=by rfl)(hv:nK X.env.scope x:=by first | exact Or.inl rfl|exact Or.inr (Or.inl rfl)|exact Or.inr (Or.inr rfl))(hd:(x==("__debug__" :Str))=false:=by decide)(a:(x==("__classdict__" :Str))=false:=by decide):PE X (.Name x pos) (DI i):=OQ hN hv hd a
end
def uo {c A B:Prop}[Decidable c](h1:c->A)(h2:¬c->B):if c then A else B:=by
 by_cases h:c
 .rw [AAM h];exact h1 h
 .rw [AAL h];exact h2 h
def Uo (H a:Hp):Prop:=∀b o,H b=some o->a b=some o
def Uo.free {H a:Hp}(e:Uo H a)(h:a l=Option.none):H l=Option.none:=by
 cases q:H l with
 | none=>rfl
 | some o=> rw[e l o q] at h;cases h
def Uo.seq {K:AAJ}(e:Uo H b)(h:GH K H a xs):GH K b a xs:=by
 rcases h with(h|⟨o,h⟩)|h
 .exact .inl (.inl (e _ _ h))
 .exact .inl (.inr ⟨o,e _ _ h⟩)
 .exact .inr h
theorem HI {c d:Type}[BEq c][LawfulBEq c]{k:c}{a:d}:∀{l:km (c×d)},l.lookup k=some a->(k,a)∈l
 | [],h=>by simp at h
 | (n,b)::r,h=>by
   rw[List.lookup_cons] at h;cases e:k==n with
   | true=>
     rw[e] at h;have f:k=n:=↑e
     have hb:b=a:=↑h
     subst f hb;exact ADU
   | false=> rw[e] at h;exact ACc _ (HI h)
theorem Q2 {c d:Type}[BEq c][LawfulBEq c]{k:c}{a:d}:∀{l:km (c×d)},(k,a)∈l->∃b,l.lookup k=some b
 | [],h=>nomatch h
 | (n,b)::r,h=>by
   rw[List.lookup_cons];cases e:k==n with
   | true=>exact⟨b,rfl⟩
   | false=>
     rcases AAO.mp h with z|z
     .have:k=n:=congrArg Prod.fst z;rw[this] at e;simp at e
     .exact Q2 z
theorem HE {env:Env}{F:Str×NameKind->km (Str×kf)->Sem (ForInStep (km (Str×kf)))}(h1:∀n r c,env.cells.lookup n=some c->F (n, .free) r=pure (.yield ((n,c)::r)))(h2:∀n k r,k≠NameKind.free->F (n,k) r=pure (.yield r)):∀(names:km (Str×NameKind)) (f:km (Str×kf)),(∀x∈names,x.2= .free->∃c,env.cells.lookup x.1=some c)-> ∃cl,(forIn names f F:Sem _)=pure cl/\(∀p∈cl,p∈f\/env.cells.lookup p.1=some p.2)/\(∀p∈f,p∈cl)/\∀x∈names,x.2= .free->∃c,(x.1,c)∈cl
 | [],f,_=>⟨f,rfl,λp hp=> .inl hp,λp hp=>hp,λx hx=>nomatch hx⟩
 | (n,k)::r,f,h=>by
   by_cases hk:k= .free
   .subst hk;obtain⟨c,hc⟩:=h (n, .free) ADU rfl;obtain⟨cl,e,a,b,d⟩:=HE h1 h2 r ((n,c)::f) (λx hx=>h x (ACc _ hx));refine⟨cl, ?_,λp hp=> ?_,λp hp=>b p (ACc _ hp),λx hx g=> ?_⟩
    .rw [AC9,h1 n f c hc];exact e
    .rcases a p hp with z|z
     .rcases AAO.mp z with z|z
      .subst z;exact .inr hc
      .exact .inl z
     .exact .inr z
    .rcases AAO.mp hx with z|z
     .subst z;exact⟨c,b _ ADU⟩
     .exact d x z g
   .obtain ⟨cl,e,a,b,d⟩:=HE h1 h2 r f (λx hx=>h x (ACc _ hx));refine⟨cl, ?_,a,b,λx hx g=> ?_⟩
    .rw [AC9,h2 n k f hk];exact e
    .rcases AAO.mp hx with z|z
     .subst z;exact absurd g hk
     .exact d x z g
def GO {env:Env}{scope:Scope}(h:∀x∈scope.names,x.2= .free->∃c,env.cells.lookup x.1=some c):∃cl,closureFor scope env=pure cl/\(∀y c,cl.lookup y=some c->env.cells.lookup y=some c)/\∀y,(y,NameKind.free)∈scope.names->∃c,cl.lookup y=some c:=by
 obtain⟨cl,e,a,_,d⟩:=HE (env:=env) (F:=λx cs=>match x with | (name,kind)=>if (kind==NameKind.free)=true then do let a <-cellOf env name;pure (ForInStep.yield ((name,a)::cs)) else pure (ForInStep.yield cs))
  (λn r c hc=>by
    show (do let a <-cellOf env n;pure (ForInStep.yield ((n,a)::r)):Sem _)=_;unfold cellOf;rw[hc];rfl)
  (λn k r hk=>by
    have:(k==NameKind.free)=false:=↑hk
    simp[this]) scope.names [] h
 refine⟨cl, ?_,λy c q=> ?_,λy hy=> ?_⟩
 .unfold closureFor;have b:(forIn scope.names ([] :km (Str×kf)) λx cs=>match x with | (name,kind)=>if (kind==NameKind.free)=true then do let a <-cellOf env name;pure (ForInStep.yield ((name,a)::cs)) else pure (ForInStep.yield cs):Sem _) >>= (λr=>pure r)=pure cl:=by rw[e];rfl
  exact b
 .rcases a _ (HI q) with z|z
  .exact nomatch z
  .exact z
 .obtain ⟨c,hc⟩:=d (y, .free) hy rfl;exact Q2 hc
noncomputable def Fd (env:Env)(sc:Scope)(cl:km (Str×kf))(C:kf):Env:=
 {scope:=sc,locals:=C,globals:=env.globals,cells:=cl,qual:=env.qual,func:=none,code:=env.code,frame:=env.frame,builtins:=env.builtins}
noncomputable def blk (X:Cx)(sc:Scope)(N:km Str)(cl:km (Str×kf))(C:kf)(s:ki)(H:Hp)(ex:km kf)(pn:km (kf×Obj)):Cx where
 prog:=X.prog
 w:=X.w
 K:=X.K
 mg:=X.mg
 base:=X.base
 A:=X.A
 N:=N
 s₀:=s
 H₀:=H
 env:=Fd X.env sc cl C
 outer:=X.stack
 stack:=X.stack
 ex:=ex
 fn:=λ_=>false
 calm:=X.calm
 pn:=pn
 xe:=λ_ _=>False
section
variable {X:Cx}{Sr:km (kf×Obj)}{σ:St}{H:Hp}{s:ki}{fp:km kf}{sc:Scope}{N:km Str}{cl:km (Str×kf)}
def Inv.notStk (I:Inv X Sr σ H s){b:kf}(h1:b≠X.env.locals)(h2:b ∉ X.fs):b ∉ dS X.stack:=λz=>by
 rcases AAO.mp (I.stkSub b z) with e|e
 .exact h1 e
 .exact h2 e
def Inv.szLt (I:Inv X Sr σ H s)(e:X.env.cells.lookup x=some c):c<s.heap.objs.size:=by obtain⟨v,q⟩:=I.cell x c e;exact q.lt
def pB (I:Inv X Sr σ H s)(d:∀b∈fp,Ef X Sr H b)(f:∀b∈fp,b<s.heap.objs.size)(hk:sc.kind= .function)(h1:∀y c,cl.lookup y=some c->X.env.cells.lookup y=some c)(h2:∀y,(sc.names.lookup y=some .cell\/sc.names.lookup y=some .free)->∃c,cl.lookup y=some c):(blk X sc N cl s.heap.objs.size s H fp (X.pn++Sr)).Ok where
 mod:=I.ok.mod
 kind:=hk
 glob:=I.ok.glob
 blt:=I.ok.blt
 above:=AAR _
 inj:=λx y c a b=>I.ok.inj x y c (h1 x c a) (h1 y c b)
 has:=λx hx=>h2 x hx
 cab:=λx c z=>nomatch z
 hd:=I.ok.hd
 frames:=I.ok.frames
 stk:= .inl rfl
 exf:=λb hb=>⟨AAQ (f b hb),λx c e=>(d b hb).2.2.2.2.1 x c (h1 x c e)⟩
 bs:=I.bs
 bsz:=AAg I.ok.bsz I.sz
 noex:=λb o e hb=>by
  rcases (d b hb).2.2.2.1 with z|z
  .exact I.ok.noex b o e z
  .exact absurd (AAf (AAN (I.ok.bs b o e).1) z) (ACd _)
 exfs:=λb hb=>I.notStk (d b hb).2.1 (d b hb).2.2.1
 funs:=I.stack
 frf:=I.stkFree
noncomputable def Bc (own:Nat)(ix:km Nat)(σ:St):St:=List.replicate own none++ix.map λi=>(σ[i]?).getD none
def Qg {own:Nat}:(Bc own ix σ).length=own+ix.length:=by simp[Bc]
def GN {own:Nat}{j:Nat}(h:(Bc own ix σ)[j]? =some (some v)):own<=j/\∃i,ix[j-own]? =some i/\σ[i]? =some (some v):=by
 unfold Bc at h;by_cases hj:j<own
 .rw [ACh (↑hj),AC8] at h;simp[hj] at h
 .have dU:own<=j:=!0
  rw[ACU (↑dU),ACi,AAu] at h;refine⟨dU, ?_⟩;cases e:ix[j-own]? with
  | none=>rw[e] at h;simp at h
  | some i=>
    rw[e] at h;refine⟨i,rfl, ?_⟩;have h':(σ[i]?).getD none=some v:=↑h
    cases a:σ[i]? with
    | none=>rw[a] at h';simp at h'
    | some o=>
      rw[a] at h';have:o=some v:=↑h'
      rw[this]
structure Yq (X:Cx) (sc:Scope) (own:Nat) (ix:List Nat) (N:List Str):Prop where
 len:N.length=own+ix.length
 out:∀j i,ix[j]? =some i->∃x,N[own+j]? =some x/\X.N[i]? =some x/\X.env.scope.names.lookup x=some .cell/\sc.names.lookup x=some .cell
def Wx {own:Nat}{h':Wf}{t':Nat}(I:Inv X Sr σ H s)(C:∀b∈fp,Ef X Sr H b)(D:∀b∈fp,b<s.heap.objs.size)(hk:sc.kind= .function)(h1:∀y c,cl.lookup y=some c->X.env.cells.lookup y=some c)(h2:∀y,(sc.names.lookup y=some .cell\/sc.names.lookup y=some .free)->∃c,cl.lookup y=some c)(F:Yq X sc own ix N)(E:h'.Ns s.heap.objs.size m)(k:∀b o,s.heap.get? b=some o->h'.get? b=some o):Inv (blk X sc N cl s.heap.objs.size s H fp (X.pn++Sr)) [] (Bc own ix σ) H {s with heap:=h',toks:=t'} where
 ok:=pB I C D hk h1 h2
 os:=rfl
 bare:=I.bare
 base:=Un.kept k
 loc:=by
  refine⟨m,E,λi x v G J S=> ?_⟩;obtain⟨dU,K,L,es⟩:=GN J;obtain⟨y,t,M,w,A⟩:=F.out _ _ L;have g:x=y:=by have h:N[i]? =some x:=G;rw[show own+(i-own)=i by omega,h] at t;exact AAt t
  subst g;obtain⟨m0,O,j⟩:=I.loc;obtain⟨u,r,l⟩:=j K x v M es (.inr (.inl w));refine⟨u,r, ?_⟩;rcases l with⟨z,_⟩|⟨_,c,P,z⟩
  .have B:X.env.scope.names.lookup x=some .local:=z;rw[w] at B;cases B
  .obtain ⟨Q,f⟩:=h2 x (.inl A);have:=h1 x Q f;rw[P] at this;cases this;obtain⟨o,n,hd⟩:=z;exact .inr ⟨.inl A,c,f,o,k c o n,hd⟩
 cell:=λx c e=>by obtain⟨v,o,n,hd⟩:=I.cell x c (h1 x c e);exact⟨v,o,k c o n,hd⟩
 free:=I.hok.fresh (AAR _)
 freeC:=λx c e=>I.freeC x c (h1 x c e)
 pin:=λp hp=>by
  have R:p∈X.pn++Sr:=by simpa[blk] using hp
  obtain⟨a,b,c,d,e⟩:=I.pin p R;exact⟨k _ _ a,b,AAQ (AAN a),I.notStk c d,e⟩
 hok:=I.hok.kept k
 len:=by rw[Qg];exact F.len.symm
def SB {own:Nat}{ix:km Nat}(I:Inv X Sr σ H s)(c:∀b∈fp,Ef X Sr H b)(f:∀b∈fp,b<s.heap.objs.size)(B:Inv (blk X sc N cl s.heap.objs.size s H fp (X.pn++Sr)) a σ' d e):Inv X Sr σ d e:=
 I.call' (ch:=fp) B.os B.base B.hok B.bare λb hb=>⟨(c b hb).2.2.2.1,(c b hb).2.1,(c b hb).2.2.2.2.1,(c b hb).2.2.2.2.2⟩
def Np {d:Hp}{C:kf}(I:Inv X Sr σ H s)(f:C=s.heap.objs.size)(g:Inv X Sr σ' d a)(h:d C=none)(hs:Heap.SameBut C a.heap h'):Inv X Sr σ' d {a with heap:=h'}:=by subst f;refine g.turned (t':=a.toks) (it:=s.heap.objs.size) (λb o hb e=>(hs.2 b hb).trans e) h (AAx I.lt) (.inr I.sz) (λx c e=>AAQ (I.szLt e)) λp hp=>AAQ (AAN (I.pin p hp).1)
end
def aZ (X:Cx)(a:km kd)(t:TT):Prop:=
 ∀(Sr:km (kf×Obj)) (s:ki) (b:St) (H:Hp) (Q:kc->Hp->Prop),Inv X Sr b H s->t b H Q->
  wpAny (model X.prog X.w) X.A (forIn a true λc r=>if r=true then do let ok <-isTrue c X.env (eval c X.env);pure (ForInStep.yield ok) else pure (ForInStep.yield r)) (TP X Sr b Q) X.xe s
def mY:TT:=λ_ H Q=>Q true H
def Zh:aZ X [] mY:=λ_ _ _ H _ I h=>wpAny_tests_nil ⟨H,I,h⟩
def lU {t:TT}(hc:PT X c t):aZ X [c] t:=λSr s a H Q I h=>wpAny_tests_one (hc Sr s a H Q I h)
def IE (own:Nat)(g:TG):Prop:=∀v b H Q,g v b H Q->g v b H λa c=>Q a c/\a.length=b.length/\∀j,own<=j->a[j]? =b[j]?
def Nh (own:Nat)(g:Wq):Prop:=∀vs b H Q,g vs b H Q->g vs b H λa c=>Q a c/\a.length=b.length/\∀j,own<=j->a[j]? =b[j]?
def SX {own i:Nat}(h:i<own):IE own (BV i):=λv a H Q q=>⟨q,!2,λj hj=>AAs (!0)⟩
def ZC {own:Nat}:Nh own MD:=λvs a H Q q=>⟨q.1,q.2,rfl,λ_ _=>rfl⟩
def Nx {own:Nat}{t:TG}{u:Wq}(h1:IE own t)(m1:∀v b H Q d,(∀a c,Q a c->d a c)->t v b H Q->t v b H d)(h2:Nh own u)(m2:∀v b H Q d,(∀a c,Q a c->d a c)->u v b H Q->u v b H d):Nh own (C3 t u):=by intro vs b H Q q;obtain⟨v,r,e,q⟩:=q;refine⟨v,r,e,m1 _ _ _ _ _ (λa c z=> ?_) (h1 _ _ _ _ q)⟩;obtain⟨z,l,g⟩:=z;refine m2 _ _ _ _ _ (λh m f=> ?_) (h2 _ _ _ _ z);obtain⟨f,i,k⟩:=f;exact⟨f,i.trans l,λj hj=>(k j hj).trans (g j hj)⟩
def MU:∀v b H Q c,(∀a d,Q a d->c a d)->BV i v b H Q->BV i v b H c:=λ_ _ _ _ _ m q=>m _ _ q
def SY:∀v b H Q c,(∀a d,Q a d->c a d)->MD v b H Q->MD v b H c:=λ_ _ _ _ _ m q=>⟨q.1,m _ _ q.2⟩
def U8 {t:TG}{u:Wq}(m1:∀v b H Q c,(∀a d,Q a d->c a d)->t v b H Q->t v b H c)(m2:∀v b H Q c,(∀a d,Q a d->c a d)->u v b H Q->u v b H c):∀v b H Q c,(∀a d,Q a d->c a d)->C3 t u v b H Q->C3 t u v b H c:=λ_ _ _ _ _ m ⟨v,r,e,q⟩=>⟨v,r,e,m1 _ _ _ _ _ (λ_ _ z=>m2 _ _ _ _ _ m z) q⟩
def Nq (J:It)(D:kf)(σ0:St)(g:TG)(f:TT)(te:TE)(Q:Hp->Prop)(W:Nat->Nat->Hp->Prop):Prop:=
 ∀i m H,W i m H->(J.stop i H/\Q H)\/(J.go i H/\∀x c,J.yld i H x c->g x σ0 c λa h=>f a h λok d=>
  if ok=true then te a d λy e=>∃ys,e D=some (.lst ys)/\ys.length<sizeLine/\∃b,b<m/\W (i+1) b (upd e D (.lst (ys ++ [y]))) else ∃b,b<m/\W (i+1) b d)
def iq (b:TI)(own:Nat)(ix:km Nat)(g:TG)(c:TT)(te:TE):TE:=λa H Q=>b a H λJ H1=>∀D,H1 D=none->
 ∃W:Nat->Nat->Hp->Prop,(∃m,W 0 m (upd H1 D (.lst [])))/\Nq J D (Bc own ix a) g c te (Q (.ref D)) W
section
variable {X:Cx}{tg elt iter:kd}{ifs:km kd}{scope:Scope}{pos:Pos}{wi:TI}{own:Nat}{ix:km Nat}{N:km Str}{g:TG}{tt:TT}{te:TE}
structure GJ (X:Cx) (tg elt:Expr) (ifs:List Expr) (scope:Scope) (own:Nat) (ix:List Nat) (N:List Str) (g:TG) (tt:TT) (te:TE):Prop where
 kind:scope.kind= .function
 nocell:∀y∈scope.names,y.2≠ .cell
 names:∀y∈scope.names,y.2= .local->scope.names.lookup y.1=some .local
 frees:∀y∈scope.names,y.2= .free->X.env.scope.names.lookup y.1=some .cell
 ins:Yq X (relabel scope X.env) own ix N
 keep:IE own g
 tgt:∀cl C s H ex pn,PG (blk X (relabel scope X.env) N cl C s H ex pn) tg g
 tst:∀cl C s H ex pn,aZ (blk X (relabel scope X.env) N cl C s H ex pn) ifs tt
 val:∀cl C s H ex pn,PE (blk X (relabel scope X.env) N cl C s H ex pn) elt te
def Dg {y:Str}{k:NameKind}(c:∀y∈scope.names,y.2≠ .cell)(h:(y,k)∈(relabel scope env).names)(hk:k= .cell\/k= .free):(y,NameKind.free)∈scope.names:=by
 obtain⟨⟨n,b⟩,a,e⟩:=AAS.mp (show (y,k)∈scope.names.map _ from h);dsimp only at e;split at e
 .rename_i hc;cases e;have:b= .free:=by cases b <;> simp_all
  subst this;exact a
 .cases e;rcases hk with z|z
  .subst z;exact absurd rfl (c _ a)
  .subst z;exact a
def av {k:km kf}{tn:Nat->Wf->Prop}{R:Result->ki->Prop}{Qh:Hp->Prop}{W:Nat->Nat->Hp->Prop}(hc:X.calm=true)(O:GJ X tg elt ifs scope own ix N g tt te)(T:Hu X.prog X.w X.K tg J k it tn)(I:Inv X Sr M H s)(hf:∀b∈k,Ef X Sr H b)(Es:∀b∈k,b<s.heap.objs.size)(hW:Nq J D (Bc own ix M) g tt te Qh W)(hR:∀σ' a P,Inv (blk X (relabel scope X.env) N cl s.heap.objs.size s H k (X.pn++Sr)) [] σ' a P->Qh a->R (.ok .next) P)(n:Nat)(s0:ki)(h0:∃i a,Inv (blk X (relabel scope X.env) N cl s.heap.objs.size s H k (X.pn++Sr)) [] (Bc own ix M) a s0/\tn i s0.heap/\(∀b∈k,a b=none)/\W i n a):codeAny (model X.prog X.w) X.A (.compLoop (.ListComp elt [⟨tg,iter,ifs,0⟩] scope pos) 0 (.ref it) (.ref D) (Fd X.env (relabel scope X.env) cl s.heap.objs.size)) R s0:=by
 refine AE2 rfl (λn P=>∃i a,Inv (blk X (relabel scope X.env) N cl s.heap.objs.size s H k (X.pn++Sr)) [] (Bc own ix M) a P/\tn i P.heap/\(∀b∈k,a b=none)/\W i n a) (λn s1 h1=> ?_) n h0;obtain⟨i,H1,B1,S,U,w1⟩:=h1;generalize f:blk X (relabel scope X.env) N cl s.heap.objs.size s H k (X.pn++Sr)=Y at *;have eA:Y.A=X.A:=by rw[<-f];rfl
 have Z:Y.prog=X.prog:=by rw[<-f];rfl
 have eW:Y.w=X.w:=by rw[<-f];rfl
 have eK:Y.K=X.K:=by rw[<-f];rfl
 have eE:Fd X.env (relabel scope X.env) cl s.heap.objs.size=Y.env:=by rw[<-f];rfl
 have eX:Y.xe=λ_ _=>False:=by rw[<-f];rfl
 have eC:Y.calm=true:=by rw[<-f];exact hc
 have hg:PG Y tg g:=by rw[<-f];exact O.tgt _ _ _ _ _ _
 have ht:aZ Y ifs tt:=by rw[<-f];exact O.tst _ _ _ _ _ _
 have hv:PE Y elt te:=by rw[<-f];exact O.val _ _ _ _ _ _
 have l:∀{a:Hp},(∀b∈k,a b=none)->∀b∈k,Ef Y [] a b:=λ{a} hn b hb=>by
  obtain⟨_,a1,a2,a3,a4,a5⟩:=hf b hb;refine⟨hn b hb, ?_, ?_, ?_, ?_, ?_⟩
  .rw [<-f];exact AAQ (Es b hb)
  .rw [<-f];exact I.notStk a1 a2
  .rw [<-f];exact .inl hb
  .intro x c e;exact(B1.ok.exf b (by rw[<-f];exact hb)).2 x c e
  .intro p hp;have:p∈X.pn++Sr:=by rw[<-f] at hp;simpa[blk] using hp
   exact a5 p this
 rw[eE,<-eA,<-Z,<-eW];show wpAny _ _ ((compTurn (.ListComp elt [⟨tg,iter,ifs,0⟩] scope pos) 0 (.ref it) (.ref D) Y.env).onRaise (λx=>do noteFrame x Y.env;theTreesLotGoes x)) _ _ s1;refine AE3 ?_;rw[compTurn_list];have ff:∀{α:Type} {t:Sem α} {Q:α->ki->Prop} {E:kj->ki->Prop} {s:ki},wpAny (model Y.prog Y.w) Y.A t Q Y.xe s->wpAny (model Y.prog Y.w) Y.A t Q E s:=λh=>ACE h (λ_ _ q=>q) λ_ _ z=>by rw[eX] at z;exact z.elim
 refine AAI (ACF (AAI ?_));rcases hW i n H1 w1 with⟨stop,qn⟩|⟨go,step⟩
 .have zd:=λE=>T.done Y Z eW eK eC i [] s1 _ H1 E B1 (l U) S stop;rw[<-Z,<-eW] at zd;refine BA (zd _) λr s4 ⟨hr,I4⟩=> ?_;subst hr;exact AAK (hR _ _ _ I4 qn)
 .have zi:=λE=>T.item Y Z eW eK eC i [] s1 _ H1 E B1 (l U) S go;rw[<-Z,<-eW] at zi;refine BA (zi _) λr s4 ⟨u,hr,h4⟩=> ?_;subst hr;refine AAI (BA h4 λ_ s5 ⟨x,H5,I5,r5,y5,C,fr5⟩=> ?_);have I5':=I5.pinned (l fr5) (T.obj _ _ C);refine AAI (BA (ff (hg _ s5 _ H5 x u _ I5' r5 (O.keep _ _ _ _ (step x H5 y5)))) λ_ s6 ⟨B,H6,I6,q6,l6,k6⟩=> ?_);refine AAI (BA (ff (ht _ s6 B H6 _ I6 q6)) λok s7 ⟨H7,I7,q7⟩=> ?_);have back:∀{F:Hp} {G:ki} {L:Nat},Inv Y ([] ++ Ff k s5.heap) B F G->L<n->W (i+1) L F->
   ∃m,m<n/\∃i a,Inv Y [] (Bc own ix M) a G/\tn i G.heap/\(∀b∈k,a b=none)/\W i m a:=λ{F G L} I8 hm w8=>by
   refine⟨L,hm,i+1,F,I8.unpinned.weak l6.symm (λj v hj=> ?_),T.keep _ _ _ C λb hb o e=>(I8.pin (b,o) (AAj _ (AAj _ (B5 hb e)))).1,λb hb=> ?_,w8⟩
   .rw [k6 j (GN hj).1];exact hj
   .obtain ⟨o,e,d⟩:=T.obj _ _ C b hb;exact(I8.pin (b,o) (AAj _ (AAj _ (B5 hb e)))).2.1
  cases ok with
  | false=> obtain⟨L,hm,w8⟩:=q7;exact AAK ⟨rfl,back I7 hm w8⟩
  | true=> refine AAI (AAI (BA (ff (hv _ s7 B H7 _ I7 q7)) λyv G ⟨y,F,I8,r8,ys,hD,hz,L,hm,w8⟩=> ?_));refine AAI (BA (ff (K8 _ G B F (.ref D) [y] (.ref D) [yv] (λ_ H9=>H9=upd F D (.lst (ys ++ [y]))) I8 rfl (.cons r8 .nil) ⟨D,ys,y,rfl,rfl,hD,hz,rfl⟩)) λ_ s9 ⟨_,H9,I9,_,e9⟩=> ?_);subst e9;exact AAK (AAK ⟨rfl,back I9 hm w8⟩)
def Uw {H:Hp}{cl:km (Str×kf)}{tn:Nat->Wf->Prop}{Qd:kf->Hp->Prop}(hc:X.calm=true)(O:GJ X tg elt ifs scope own ix N g tt te)(T:Hu X.prog X.w X.K tg J j it tn)(I:Inv X Sr u H s)(P:∀b∈j,Ef X Sr H b)(st:tn 0 s.heap)(h1:∀y c,cl.lookup y=some c->X.env.cells.lookup y=some c)(h2:∀y,(y,NameKind.free)∈scope.names->∃c,cl.lookup y=some c)(hq:∀D,H D=none->∃W:Nat->Nat->Hp->Prop,(∃m,W 0 m (upd H D (.lst [])))/\Nq J D (Bc own ix u) g tt te (Qd D) W)(R:∀D C i k,(∃m,k.heap.Ns C m)->Inv X Sr u i k->(∀f v,Inv X Sr f i v->∀h',Heap.SameBut C v.heap h'->Inv X Sr f i {v with heap:=h'})->C≠X.env.locals->(∀x c,X.env.cells.lookup x=some c->C≠c)->Qd D i-> compPost (model X.prog X.w) X.A X.xe use Q (.ref D) C (.ok .next) k):wpAny (model X.prog X.w) X.A (newList []) (λl n=>wpAny (model X.prog X.w) X.A (newFunctionEnv scope X.env.globals cl [] X.env.qual none .none (some X.env)) (λd p=> codeAny (model X.prog X.w) X.A (.compStart (.ListComp elt [⟨tg,iter,ifs,0⟩] scope pos) 0 (.ref it) l {d with scope:=relabel scope X.env}) (compPost (model X.prog X.w) X.A X.xe use Q l d.locals) p) X.xe n) X.xe s:=by
 refine AB9 ?_ (by simp[sizeOk]);have h:Inv X Sr u (upd H s.heap.objs.size (.lst [])) {s with heap:=s.heap.push {cls:= .type "list",data:= .seq ([] :km kj).toArray}}:=I.lnew (t':=s.toks) .nil (ACB _);have S:=I.fresh;obtain⟨W,⟨m0,U⟩,hW⟩:=hq _ S;have Y:∀b∈j,b<s.heap.objs.size:=λb hb=>by obtain⟨o,e,_⟩:=T.obj _ _ st b hb;exact AAN e
 have E:∀b∈j,Ef X Sr (upd H s.heap.objs.size (.lst [])) b:=λb hb=>by obtain⟨Z,ar⟩:=P b hb;exact⟨by rw[Ae (AAQ (Y b hb))];exact Z,ar⟩
 generalize ue:({s with heap:=s.heap.push {cls:= .type "list",data:= .seq ([] :km kj).toArray}}:ki)=s3 at h;have r:tn 0 s3.heap:=T.keep _ _ _ st λb hb o e=>by rw[<-ue];exact AAP _ e
 have F:∀b∈j,b<s3.heap.objs.size:=λb hb=>by obtain⟨o,e,_⟩:=T.obj _ _ r b hb;exact AAN e
 refine AFs O.nocell (by intro y hy;simp at hy) (λa nS uf=> ?_) O.kind;have M:∀b o,s3.heap.get? b=some o->a.get? b=some o:=λb o e=>uf.extBut b o (AAQ (AAN e)) (AAP _ e);have jO:∀y,((relabel scope X.env).names.lookup y=some .cell\/(relabel scope X.env).names.lookup y=some .free)->∃c,cl.lookup y=some c:=λy hy=>by
  rcases hy with z|z
  .exact h2 y (Dg O.nocell (HI z) (.inl rfl))
  .exact h2 y (Dg O.nocell (HI z) (.inr rfl))
 have B:=Wx (N:=N) (t':=s3.toks+([] :km (Str×kj)).length) h E F (sc:=relabel scope X.env) O.kind h1 jO O.ins nS M;have t:tn 0 a:=T.keep _ _ _ r λb hb o e=>M b o e;have loop:∀G:ki,G={s3 with heap:=a,toks:=s3.toks+([] :km (Str×kj)).length}->
  codeAny (model X.prog X.w) X.A (.compLoop (.ListComp elt [⟨tg,iter,ifs,0⟩] scope pos) 0 (.ref it) (.ref s.heap.objs.size) (Fd X.env (relabel scope X.env) cl s3.heap.objs.size)) (compPost (model X.prog X.w) X.A X.xe use Q (.ref s.heap.objs.size) s3.heap.objs.size) G:=by rintro G rfl;refine av (cl:=cl) (Qh:=Qd s.heap.objs.size) hc O T h E F hW (λσ' i k L q'=> ?_) m0 _ ⟨0,_,B,t,λb hb=>(E b hb).1,U⟩;refine R _ _ i k (let ⟨m,hm,_⟩:=L.loc;⟨m,hm⟩) (SB (own:=own) (ix:=ix) h E F L) (λf v I2 h' hs=>Np h rfl I2 L.free hs) (AAx h.lt) (λx c e=>AAx (h.szLt e)) q'
 exact codeAny_compStart_list (loop _ rfl) (T.self _ 0 _ _ _ t (loop _ rfl))
def lK (hc:X.calm=true)(hi:PI X tg iter wi)(O:GJ X tg elt ifs scope own ix N g tt te)(hs:∀x,foldedSetIterable iter X.env x=pure x:=by intro _;rfl):PE X (.ListComp elt [⟨tg,iter,ifs,0⟩] scope pos) (iq wi own ix g tt te):=by intro Sr s c H Q I h;obtain⟨cl,d,h1,h2⟩:=GO (env:=X.env) (scope:=scope) λy hy e=>I.ok.has y.1 (.inl (O.frees y hy e));rw[eval_ListComp];refine AE4 (use:=none) rfl hs d O.kind O.names (BA (hi Sr s c H _ I h) λv r hv=>BA hv λf t i=> ?_);obtain⟨it,u,tn,J,w,rfl,j,T,a,f2,q⟩:=i;exact Uw (Qd:=λD b=>Q (.ref D) b) hc O T j f2 a h1 h2 q λD C b k l n gone z A o=>by obtain⟨m,p⟩:=l;exact⟨m,p,λh' hs=>⟨.ref D,b,gone c k n h' hs,rfl,o⟩⟩
def Zj {i:Nat}{b:Pos}(hc:X.calm=true)(hN:X.N.Nodup)(l:X.N[i]? =some x)(hx:Loc X.env.scope x)(hi:PI X tg iter wi)(O:GJ X tg elt ifs scope own ix N g tt te)(n:swapsWith (.ListComp elt [⟨tg,iter,ifs,0⟩] scope pos) (some (.Name x pos')) b.line X.env=pure true:=by rfl)(hs:∀x,foldedSetIterable iter X.env x=pure x:=by intro _;rfl)(o:X.fn x=true\/X.env.scope.names.lookup x=some .local:=by first | exact .inl rfl|exact .inr rfl|assumption):PS X (.Assign [.Name x pos'] (.ListComp elt [⟨tg,iter,ifs,0⟩] scope pos) b) (QF (iq wi own ix g tt te) (BV i)):=by
 intro Sr s k H D I h;obtain⟨cl,p,h1,h2⟩:=GO (env:=X.env) (scope:=scope) λy hy e=>I.ok.has y.1 (.inl (O.frees y hy e));rw[exec_Assign_Name_used _ _ _ _ n];refine AAI (ACF (AAI ?_));show wpAny _ _ (do let _ <-comprehension (.ListComp elt [⟨tg,iter,ifs,0⟩] scope pos) scope X.env _ (newList []) false (eval iter X.env) (some (assign (.Name x pos') X.env))) _ _ s;refine AAI (BA (AE4 (use:=some (assign (.Name x pos') X.env)) (Q:=λ_ c=>SP X Sr D .next c) rfl hs p O.kind O.names (BA (hi Sr s k H _ I h) λv R hv=>BA hv λr S t=> ?_)) λ_ c hq=>AAK (AAK hq));obtain⟨it,U,tn,J,W,rfl,u,T,f,f2,q⟩:=t;refine Uw (Qd:=λd j=>BV i (.ref d) k j D.nx) hc O T u f2 f h1 h2 q λd C j c w A gone B E F=> ?_;obtain⟨m,G⟩:=w;show wpAny _ _ (assign (.Name x pos') X.env (.ref d)) _ _ c;refine AFh (LW (v:= .ref d) A hN l hx rfl (λK L ⟨a,M,ha⟩=> ?_) o);have P:C≠a:=by
  rcases ha with z|z
  .rw [z];exact B
  .exact E x a z
 exact⟨m,G.sameBut M P,λh' hs=>⟨_,j,gone _ K L h' hs,F⟩⟩
end
def Jx {n k:Nat}(h:n<2^k)(hk:0<k):n.log2<k:=by
 by_cases e:n=0
 .subst e;simpa using hk
 .exact (Nat.log2_lt e).mpr h
def Hk {i:Int}{k:Nat}(h:i.natAbs<2^k):Builtin.Int.intBits i<=k:=by
 unfold Builtin.Int.intBits;by_cases e:i=0
 .subst e;simp
 .have a:(i==0)=false:=↑e
  rw[a];simp only[AA4,AAn];have b:i.natAbs≠0:=!0
  have:=(Nat.log2_lt b).mpr h;omega
section
variable {X:Cx}
def xP (i j:Int):Prop:=i.natAbs<2^8000/\j.natAbs<2^8000
def tS (i j:Int):Prop:=Gz i j\/xP i j
def Hq:Ea X (binaryOp .Mult) (rI tS λi j=> .int (i*j)):=qS λ_ _ _ _ _ _ _ hc q=>mul_int q (by
 rcases hc with z|z
 .exact z.ok
 .exact .of_le (Hk z.1) (Hk z.2) (!1))
def tR (_ j:Int):Prop:=0<j/\j.natAbs<2^8000
def gc:Ea X (binaryOp .FloorDiv) (rI tR λi j=> .int (i/j)):=qS λi j _ _ _ _ _ hc q=>by have h1:(0:Int)<j:=hc.1;refine floordiv_int (!0) ?_ (.inl (AGP (AEc (Jx hc.2 (!1)) (!1))));rw[ACk _ (Int.le_of_lt h1)];exact q
inductive Kd where
 | int|bl|non|str|lst|tup
 deriving DecidableEq
noncomputable def bV:Kd->String->kc
 | .int,T=>T == "int"
 | .bl,T=>T == "bool" || T == "int"
 | .non,_=>false
 | .str,_=>false
 | .lst,T=>T == "list"
 | .tup,T=>T == "tuple"
def Inv.walked (I:Inv X Sr h H s)(m:Moved [s.heap.objs.size] (λa b=>b=a) {s with heap:=s.heap.push o} c):Inv X Sr h H c:=by
 obtain⟨h',g',d',t',i⟩:=c;obtain⟨hk,d,hd,f,_⟩:=m;have g:∀b u,s.heap.get? b=some u->h'.get? b=some u:=λb u e=>hk b u (by
  intro z;have j:b=s.heap.objs.size:=↑z
  exact absurd (AAN e) (by rw[j];exact ACd _)) (AAP _ e)
 have d:g'=s.gens:=d;have hd:d'=s.drawn:=hd;have f:i=s.os:=f;subst d hd f;exact I.kept (t':=t') g
noncomputable def kO (xs:km V)(k:Nat)(y:V):km V:=xs.take k++y::xs.drop k
def Au.ins {y:V}(r:Au xs a)(b:RelV y u)(k:Nat):Au (kO xs k y) (a.take k++u::a.drop k):=Au.append (r.take k) (.cons b (r.drop k))
def TK:V->km V->Hp->VK->Prop:=λx vs H Q=>∃l xs i y,x= .ref l/\vs= [.int i,y] /\H l=some (.lst xs)/\0<=i/\i<=(xs.length:Int)/\xs.length<sizeLine/\Q .non (upd H l (.lst (kO xs i.toNat y)))
def cD:tX X "list.insert" TK:=by
 intro Sr s o H x vs v p Q I f rv h;obtain⟨l,xs,i,y,rfl,rfl,c,u,h1,hz,q⟩:=h;cases f;cases rv with
 | cons g b=>
 cases b with
 | cons j b=>
 cases b;rename_i d;obtain⟨t,rfl⟩:=g;obtain⟨z,a,n,r,hl,e⟩:=I.lstM c;have w:=K5;have m:¬(!Builtin.List.listFitsIndex i)=true:=by have:=fitsIndex_both (k:=i) (!0) (!0);simp[this]
 refine call_meets F.slot_list_insert ⟨_,e,rfl⟩ F.entry_list_insert (F.args_list_insert_3 _ _ _) (AutoSeq1.list_insert_list_int_val_1 l a.toArray n i t d m (by rw[AAh];omega)) ⟨e, ?_⟩;refine⟨.non,_,I.lset (ys:=kO xs i.toNat y) (its':=a.take i.toNat++d::a.drop i.toNat) c e ?_ (r.ins j _) ?_,rfl,q⟩
 .dsimp only;rw[AAL (!0),AAh,Nat.min_eq_left (!0)];apply Array.toList_inj.mp;simp;exact ADA (!2)
 .unfold kO;simp;omega
end
def Pm:kc->Wf->kf->kf->Nat->Prop
 | true,h,q,l,k=>h.IsListIter q l k
 | false,h,q,l,k=>h.IsTupleIter q l k
def JK:kc->Wf->kf->Array kj->Prop
 | true,h,l,xs=>h.IsList l xs
 | false,h,l,xs=>h.IsTuple l xs
def Pm.mv {h':Wf}{q:kf}{k:Nat}(x:Pm b h q l k)(e:∀o,h.get? q=some o->h'.get? q=some o):Pm b h' q l k:=by
 cases b with
 | true=>obtain⟨o,a,r⟩:=x;exact⟨o,e o a,r⟩
 | false=>obtain⟨o,a,r⟩:=x;exact⟨o,e o a,r⟩
def Pm.obj {q:kf}{k:Nat}(x:Pm b h q l k):∃o,h.get? q=some o/\∀v,o.data≠ .cell v:=by
 cases b with
 | true=> obtain⟨o,a,_,d⟩:=x;exact⟨o,a,λv z=>by rw[d] at z;cases z⟩
 | false=> obtain⟨o,a,_,d⟩:=x;exact⟨o,a,λv z=>by rw[d] at z;cases z⟩
def JK.mv {h':Wf}(x:JK b h l xs)(e:∀o,h.get? l=some o->h'.get? l=some o):JK b h' l xs:=by
 cases b with
 | true=>obtain⟨o,a,r⟩:=x;exact⟨o,e o a,r⟩
 | false=>obtain⟨o,a,r⟩:=x;exact⟨o,e o a,r⟩
section
variable {prog:gn}{w:fe}{A:Tb}{E:kj->ki->Prop}{s:ki}
def F4 {q:kf}{k:Nat}{Q:kj->ki->Prop}(hq:Pm b s.heap q l k)(hl:JK b s.heap l xs)(hx:xs[k]? =some x)(hQ:∀h',Pm b h' q l (k+1)->Heap.SameBut q s.heap h'->Q x {s with heap:=h'}):wpAny (model prog w) A (Builtin.SmallTypes.nextOf (.ref q)) Q E s:=by
 cases b with
 | true=>exact wpAny_nextOf_list_item hq hl hx hQ
 | false=> have d:s.heap.IsTupleIter q l k:=hq;obtain⟨f,c,e,a⟩:=id d;obtain⟨ol,gl,_,g,dl⟩:=hl;unfold Builtin.SmallTypes.nextOf;refine AAI (ACe (name:=Str.ofString "__next__") d.typeIs AE5 (AB7 AE5 d.typeIs AGQ ?_ (AGR _)));show wpAny _ _ (field (.ref q) 0 >>= _) _ _ _;refine AAI (AAm c a (x:= .ref l) rfl ?_);show wpAny _ _ (if (Value.ref l==Value.none)=true then _ else _) _ _ _;rw[AAL (by intro z;cases z)];show wpAny _ _ (field (.ref q) 1 >>= _) _ _ _;refine AAI (AAm c a (x:= .int k 0) rfl ?_);show wpAny _ _ (seqItems? (.ref l) >>= _) _ _ _;refine AAI (AA5 gl dl ?_);simp only[ADj,hx];refine AAI (AE6 c a (!2) (AAK ⟨x,rfl,AAK (hQ _ ?_ (AEd ..))⟩));refine⟨_,ACj _ c (Obj.isFreed_of_fields (AE7 a _)),(Obj.cls_mapFields ..).trans e, ?_⟩;rw[AE7 a];simp[rawInt]
def Ky {q:kf}{k:Nat}(c:A.handled=none)(hq:Pm b s.heap q l k)(hl:JK b s.heap l xs)(hx:xs[k]? =none)(h:∀h' e,Heap.ExtBut q s.heap h'->(∃o,h'.get? e=some o/\o.cls= .type "StopIteration")->E (.ref e) {s with heap:=h'}):wpAny (model prog w) A (Builtin.SmallTypes.nextOf (.ref q)) Q E s:=by
 cases b with
 | true=>exact wpAny_nextOf_list_end c hq hl hx h
 | false=>
   have d:s.heap.IsTupleIter q l k:=hq;obtain⟨i,f,j,g⟩:=id d;obtain⟨ol,gl,_,n,dl⟩:=hl;unfold Builtin.SmallTypes.nextOf;refine AAI (ACe (name:=Str.ofString "__next__") d.typeIs AE5 (AB7 AE5 d.typeIs AGQ ?_ (AGR _)));show wpAny _ _ (field (.ref q) 0 >>= _) _ _ _;refine AAI (AAm f g (x:= .ref l) rfl ?_);show wpAny _ _ (if (Value.ref l==Value.none)=true then _ else _) _ _ _;rw[AAL (by intro z;cases z)];show wpAny _ _ (field (.ref q) 1 >>= _) _ _ _;refine AAI (AAm f g (x:= .int k 0) rfl ?_);show wpAny _ _ (seqItems? (.ref l) >>= _) _ _ _;refine AAI (AA5 gl dl ?_);simp only[ADj,hx];refine AAI (ACK (AAI (AE6 f g (!2) ?_)));refine AAI (m:=newExc (.type "StopIteration") []) ?_;simp only[newExc,newTuple];refine AAI (AB9 ?_ (by size_fits));refine AAI (m:=firstArgMember _ _) (ADB (a:=Value.none) (by first | rfl|(simp only[firstArgMember];rfl)) (AB9 ?_ (by size_fits)));simp only[raiseNew];refine AAI (wpAny_handled ?_);first | rw[show A.in1.handled=none from c] | rw[c]
   exact AAI (AAK (wpAny_throw (h _ _ (((AEd ..).extBut.push _).push _) ⟨_,AAV _ rfl,rfl⟩)))
structure oj (b c:Bool) (z TI TO i j l m:Addr) (k:Nat) (f:Value) (h:Heap):Prop where
 zip:IsZip h z TI TO f
 its:IsPair h TI (.ref i) (.ref j)
 own:∃x y,IsPair h TO x y
 one:Pm b h i l k
 two:Pm c h j m k
def oj.mv {TI TO:kf}{k:Nat}{h':Wf}(Z:oj b c z TI TO i j l m k f h)(e:∀p∈ [z,TI,TO,i,j],∀o,h.get? p=some o->h'.get? p=some o):oj b c z TI TO i j l m k f h':=by obtain⟨a,d,⟨x,y,g⟩,n,r⟩:=Z;exact⟨e z (!2) _ a,e TI (!2) _ d,⟨x,y,e TO (!2) _ g⟩,n.mv (e i (!2)),r.mv (e j (!2))⟩
variable {b c:kc}{z TI TO i j l m:kf}{k:Nat}{xs ys:Array kj}
def wU {y:kj}{Q:kj->ki->Prop}(D:ZipApart z TI TO i j l m)(Z:oj b c z TI TO i j l m k .none s.heap)(hl:JK b s.heap l xs)(Y:JK c s.heap m ys)(hx:xs[k]? =some x)(hy:ys[k]? =some y)(hQ:∀h',IsZip h' z TI TO (rawInt s.heap.objs.size)->IsPair h' TI (.ref i) (.ref j)->IsPair h' TO x y->Pm b h' i l (k+1)->Pm c h' j m (k+1)->IsPair h' s.heap.objs.size x y-> (∀p o,p≠z->p≠TO->p≠i->p≠j->s.heap.get? p=some o->h'.get? p=some o)->Q (.ref s.heap.objs.size) {s with heap:=h'}):wpAny (model prog w) A (Builtin.«zip.__next__» ⟨[.ref z], []⟩) (λK s'=>∃v,K= .done (.ret v)/\Q v s') E s:=by
 obtain⟨h,R,⟨x0,L,zo⟩,z1,z2⟩:=Z;show wpAny _ _ (field (.ref z) 2 >>= _) _ _ _;refine AAI (AAm h rfl (x:= .bool false) rfl ?_);show wpAny _ _ (field (.ref z) 3 >>= _) _ _ _;refine AAI (AAm h rfl (x:= .ref TI) rfl (AAI (AA5 R rfl ?_)));refine AAI (m:=Builtin.SmallTypes.ownedTupleIsFree (.ref z)) ?_;unfold Builtin.SmallTypes.ownedTupleIsFree;refine AAI (AAm h rfl (x:= .none) rfl (AAK ?_));simp only[ACL];refine AAI (ACK (AAI (AAm h rfl (x:= .ref TO) rfl (AAI (ACV h (!2) λg1 M b1=> ?_)))));have M:IsZip g1 z TI TO .ellipsis:=M;refine AAI ?_;simp only[AE8,AE9,AC9,ADr];refine AAI (AAI (ADC ?_));refine AAI (m:=Builtin.SmallTypes.nextOf (.ref i)) (F4 (z1.mv λo=>b1.extBut _ o D.i1z) (hl.mv λo=>b1.extBut _ o D.l1z) hx λg2 e2 b2=>AAK ?_);have S:IsPair g2 TO x0 L:=b2.extBut _ _ D.TOi1 (b1.extBut _ _ D.TOz zo);refine AAI (AA5 S rfl (AAI (AFt S λg3 o3 g=>AAI (ADY (AAK ?_)))));have o3:IsPair g3 TO x L:=o3;refine AAI (AAI (ADC ?_));refine AAI (m:=Builtin.SmallTypes.nextOf (.ref j)) (F4 (((z2.mv λo=>b1.extBut _ o D.i2z).mv λo=>b2.extBut _ o D.i12.symm).mv λo=>g.extBut _ o D.TOi2.symm)
  (((Y.mv λo=>b1.extBut _ o D.l2z).mv λo=>b2.extBut _ o D.l2i1).mv λo=>g.extBut _ o D.l2TO) hy λg4 e4 n=>AAK ?_)
 have T:IsPair g4 TO x L:=n.extBut _ _ D.TOi2 o3;refine AAI (AA5 T rfl (AAI (AFt T λa F r=>AAI (ADY (AAK (AAK ?_))))));have F:IsPair a TO x y:=F;refine AAI (AA5 F rfl (AAI (wpAny_newTuple ?_)));have sz:a.objs.size=s.heap.objs.size:=by rw[r.1,n.1,g.1,b2.1,b1.1]
 have U:IsZip a z TI TO .ellipsis:=r.extBut _ _ D.TOz.symm (n.extBut _ _ D.i2z.symm (g.extBut _ _ D.TOz.symm (b2.extBut _ _ D.i1z.symm M)));have d:∀p o,p≠z->p≠TO->p≠i->p≠j->s.heap.get? p=some o->a.get? p=some o:=λp o G H N O e=>
  r.extBut _ _ H (n.extBut _ _ O (g.extBut _ _ H (b2.extBut _ _ N (b1.extBut _ _ G e))))
 have t:Pm b a i l (k+1):=((e2.mv λo=>g.extBut _ o D.TOi1.symm).mv λo=>n.extBut _ o D.i12).mv λo=>r.extBut _ o D.TOi1.symm;have u:Pm c a j m (k+1):=e4.mv λo=>r.extBut _ o D.TOi2.symm;have B:z<a.objs.size:=AAN U;refine AAI (m:=Builtin.SmallTypes.ownedTupleHandOut (.ref z) (.ref a.objs.size)) ?_;unfold Builtin.SmallTypes.ownedTupleHandOut;have k6:IsZip (a.push {cls:= .type "tuple",data:= .seq #[x,y] }) z TI TO .ellipsis:=AAP _ U;refine AAI (ACV k6 (!2) λg7 P W=> ?_);have P:IsZip g7 z TI TO (rawInt a.objs.size):=P;refine ACV P (!2) λI J X=> ?_;have J:IsZip I z TI TO (rawInt a.objs.size):=J;have C:∀p o,p≠z->a.get? p=some o->I.get? p=some o:=λp o q e=>X.extBut _ _ q (W.extBut _ _ q (AAP _ e));have f:IsPair I a.objs.size x y:=X.extBut _ _ (AAx B) (W.extBut _ _ (AAx B) (AAV _ rfl));rw[sz] at J f;refine AAK ⟨_,rfl, ?_⟩;show Q (.ref a.objs.size) _;rw[sz];exact hQ I J (C _ _ D.TIz (d _ _ D.TIz D.TITO D.TIi1 D.TIi2 R)) (C _ _ D.TOz F) (t.mv λo=>C _ o D.i1z) (u.mv λo=>C _ o D.i2z) f λp o G H N O e=>C p o G (d p o G H N O e)
def AAH (y:A.handled=none)(D:ZipApart z TI TO i j l m)(Z:oj b c z TI TO i j l m k .none s.heap)(hl:JK b s.heap l xs)(L:JK c s.heap m ys)(M:xs[k]? =none\/ys[k]? =none)(B:∀h' e,(∀p o,p≠z->p≠TO->p≠i->p≠j->s.heap.get? p=some o->h'.get? p=some o)->(∃o,h'.get? e=some o/\o.cls= .type "StopIteration")->E (.ref e) {s with heap:=h'}):wpAny (model prog w) A (Builtin.«zip.__next__» ⟨[.ref z], []⟩) Q E s:=by
 obtain⟨f,N,⟨O,P,R⟩,C,S⟩:=Z;show wpAny _ _ (field (.ref z) 2 >>= _) _ _ _;refine AAI (AAm f rfl (x:= .bool false) rfl ?_);show wpAny _ _ (field (.ref z) 3 >>= _) _ _ _;refine AAI (AAm f rfl (x:= .ref TI) rfl (AAI (AA5 N rfl ?_)));refine AAI (m:=Builtin.SmallTypes.ownedTupleIsFree (.ref z)) ?_;unfold Builtin.SmallTypes.ownedTupleIsFree;refine AAI (AAm f rfl (x:= .none) rfl (AAK ?_));simp only[ACL];refine AAI (ACK (AAI (AAm f rfl (x:= .ref TO) rfl (AAI (ACV f (!2) λT n b1=> ?_)))));have n:IsZip T z TI TO .ellipsis:=n;refine AAI ?_;simp only[AE8,AE9,AC9,ADr];refine AAI (AAI (ADC ?_));cases hx:xs[k]? with
 | none=>
   refine AAI (m:=Builtin.SmallTypes.nextOf (.ref i)) (Ky y (C.mv λo=>b1.extBut _ o D.i1z) (hl.mv λo=>b1.extBut _ o D.l1z) hx λr e b2 he=> ?_);obtain⟨t,a,g⟩:=he;have F:IsZip r z TI TO .ellipsis:=b2 _ _ D.i1z.symm n;have u:e≠z:=λq=>by subst q;rw[F] at a;cases a;simp at g
   refine ACV F (!2) λG _ d=>B G e (λp o h _ v _ q=>d.extBut _ _ h (b2 _ _ v (b1.extBut _ _ h q))) ⟨t,d.extBut _ _ u a,g⟩
 | some x=>
   have hy:ys[k]? =none:=by
    rcases M with q|q
    .rw [hx] at q;cases q
    .exact q
   refine AAI (m:=Builtin.SmallTypes.nextOf (.ref i)) (F4 (C.mv λo=>b1.extBut _ o D.i1z) (hl.mv λo=>b1.extBut _ o D.l1z) hx λr e2 b2=>AAK ?_);have H:IsPair r TO O P:=b2.extBut _ _ D.TOi1 (b1.extBut _ _ D.TOz R);refine AAI (AA5 H rfl (AAI (AFt H λG o3 d=>AAI (ADY (AAK ?_)))));refine AAI (AAI (ADC ?_));refine AAI (m:=Builtin.SmallTypes.nextOf (.ref j)) (Ky y (((S.mv λo=>b1.extBut _ o D.i2z).mv λo=>b2.extBut _ o D.i12.symm).mv λo=>d.extBut _ o D.TOi2.symm)
    (((L.mv λo=>b1.extBut _ o D.l2z).mv λo=>b2.extBut _ o D.l2i1).mv λo=>d.extBut _ o D.l2TO) hy λU e I he=> ?_)
   obtain⟨t,a,g⟩:=he;have J:IsZip U z TI TO .ellipsis:=I _ _ D.i2z.symm (d.extBut _ _ D.TOz.symm (b2.extBut _ _ D.i1z.symm n));have u:e≠z:=λq=>by subst q;rw[J] at a;cases a;simp at g
   refine ACV J (!2) λW _ K=>B W e (λp o h X v Y q=>K.extBut _ _ h (I _ _ Y (d.extBut _ _ X (b2.extBut _ _ v (b1.extBut _ _ h q))))) ⟨t,K.extBut _ _ u a,g⟩
end
noncomputable def WZ (b:kc)(l:kf):Obj:={cls:= .type (match b with | true=>"list_iterator" | false=>"tuple_iterator"),data:= .fields #[.ref l, .int 0 0] }
abbrev zA (b:kc)(h:Wf)(l:kf):Wf:=h.push (WZ b l)
abbrev zB (b c:kc)(h:Wf)(l m:kf):Wf:=(zA b h l).push (WZ c m)
noncomputable abbrev zC (b c:kc)(h:Wf)(l m:kf):Wf:=(zB b c h l m).push {cls:= .type "tuple",data:= .seq #[.ref h.objs.size, .ref (zA b h l).objs.size] }
noncomputable abbrev zD (b c:kc)(h:Wf)(l m:kf):Wf:=(zC b c h l m).push {cls:= .type "tuple",data:= .seq #[.none, .none] }
noncomputable abbrev zF (b c:kc)(h:Wf)(l m:kf):Wf:=(zD b c h l m).push {cls:= .type "zip",data:= .fields #[.none, .bool false, .bool false, .ref (zB b c h l m).objs.size, .ref (zC b c h l m).objs.size] }
def N6 {prog:gn}{g:Array GenState}{d:Drawn}{a:Nat}{os:OsState}{Q:kj->ki->Prop}(hl:JK b h l xs)(q:Q (.ref h.objs.size) ⟨h.push (WZ b l),g,d,a,os⟩):wpAny (model prog w) A (pyIter (.ref l)) Q E ⟨h,g,d,a,os⟩:=by
 cases b with
 | true=>exact AFu (s:=⟨h,g,d,a,os⟩) hl q
 | false=>exact wpAny_pyIter_tuple (s:=⟨h,g,d,a,os⟩) hl q
def dL (b c:kc)(l m:kf)(xs ys:Array kj):Meets (Builtin.«zip.__new__» ⟨[.type "zip", .ref l, .ref m], []⟩) (λ_ R s=>JK b s.heap l xs/\JK c s.heap m ys/\R (.ok (.ret (.ref (zD b c s.heap l m).objs.size))) {s with heap:=zF b c s.heap l m}):=
 .of_wp λprog w A R s h=>by
   obtain⟨hp,g,d,j,os⟩:=s;obtain⟨hl,a,h⟩:=h;have k:=sub_zip;have f:JK b hp l xs:=hl;have i:JK c (hp.push (WZ b l)) m ys:=a.mv λo e=>AAP _ e
   wp_walk using N6 f,N6 i
   exact⟨_,rfl,h⟩
section
variable {prog:gn}{w:fe}{A:Tb}{E:kj->ki->Prop}{s:ki}{b c:kc}{l m:kf}{xs ys:Array kj}
def VQ {h:Wf}{q:kf}(e:h.get? q=some (WZ b l)):Pm b h q l 0:=by
 cases b with
 | true=>exact⟨_,e,rfl,rfl⟩
 | false=>exact⟨_,e,rfl,rfl⟩
def sL (hl:JK b s.heap l xs)(n:JK c s.heap m ys){Q:kj->ki->Prop}(h:∀h',oj b c (s.heap.objs.size+4) (s.heap.objs.size+2) (s.heap.objs.size+3) s.heap.objs.size (s.heap.objs.size+1) l m 0 .none h'->(∀p o,s.heap.get? p=some o->h'.get? p=some o)->Q (.ref (s.heap.objs.size+4)) {s with heap:=h'}):wpAny (model prog w) A (call (.type "zip") [.ref l, .ref m]) Q E s:=by
 refine callType_new F.called_zip (!1) (F.typeCall_zip_2 _ _) (F.newCall_zip_2 _ _) (λobj=>F.args_object_init_3 obj _ _) F.entry_zip_new (dL b c l m xs ys) ⟨hl,n, ?_⟩;have a:(zA b s.heap l).objs.size=s.heap.objs.size+1:=ACA ..;have d:(zB b c s.heap l m).objs.size=s.heap.objs.size+2:=by rw[ACA,a]
 have f:(zC b c s.heap l m).objs.size=s.heap.objs.size+3:=by rw[ACA,d]
 have i:(zD b c s.heap l m).objs.size=s.heap.objs.size+4:=by rw[ACA,f]
 have g:(zF b c s.heap l m).get? (zD b c s.heap l m).objs.size=some _:=AAV _ rfl;have j:(zF b c s.heap l m).get? (zC b c s.heap l m).objs.size=some _:=AAP _ (AAV _ rfl);have k:(zF b c s.heap l m).get? (zB b c s.heap l m).objs.size=some _:=AAP _ (AAP _ (AAV _ rfl));have p2:(zF b c s.heap l m).get? (zA b s.heap l).objs.size=some (WZ c m):=AAP _ (AAP _ (AAP _ (AAV _ rfl)));have p1:(zF b c s.heap l m).get? s.heap.objs.size=some (WZ b l):=AAP _ (AAP _ (AAP _ (AAP _ (AAV _ rfl))));rw[d,f,i] at g;rw[a,d] at k;rw[f] at j;rw[a] at p2;show _/\_;rw[i];exact⟨⟨_,g,rfl⟩,h _ ⟨g,k,⟨_,_,j⟩,VQ p1,VQ p2⟩ λp o e=>AAP _ (AAP _ (AAP _ (AAP _ (AAP _ e))))⟩
end
def Sq (K:AAJ):kc->Hp->kf->km V->Prop
 | true,H,a,xs=>GH K H a xs
 | false,H,a,xs=>Nj K H a xs
section
variable {X:Cx}{Sr:km (kf×Obj)}{σ:St}{H:Hp}{s:ki}{a:kf}{ys xs:km V}{b:kc}{h':Wf}
def Inv.sq (I:Inv X Sr σ H s)(h:Sq X.K b H a xs):∃c:km kj,Au xs c/\JK b s.heap a c.toArray/\xs.length<=sizeLine:=by
 cases b with
 | true=> obtain⟨c,r,p,z⟩:=I.list h;exact⟨c,r,p.isList,z⟩
 | false=> obtain⟨c,r,p,z⟩:=I.tuple h;exact⟨c,r,p,z⟩
def Inv.sq_inj (I:Inv X Sr σ H s)(h:Sq X.K b H a xs)(h2:Sq X.K b H a ys):xs=ys:=by
 cases b with
 | true=>exact I.list_inj h h2
 | false=>exact I.tuple_inj h h2
def Inv.turnedL {ch:km kf}{t':Nat}(I:Inv X Sr σ H s)(c:∀p∈ch,Ef X Sr H p)(k:∀p o,p ∉ ch->s.heap.get? p=some o->h'.get? p=some o):Inv X Sr σ H {s with heap:=h',toks:=t'}:=by
 have d:∀p u,H p=some u->p ∉ ch:=λp u e z=>by rw[(c p z).1] at e;cases e
 refine I.step (g':=s.gens) (d':=s.drawn) (ch:=ch) (λp hp=>⟨(c p hp).2.2.2.1,(c p hp).2.1,(c p hp).2.2.2.2.1,(c p hp).2.2.2.2.2⟩) (λp o _ _ hc e _=>k p o hc e) (λp o _ _ hc e _=>⟨o.slots,k p o hc e⟩)
  (λ_ _ _ _ n=>n) (λp o hc e=>⟨o,k p o hc e⟩) (λ_ _ e=>e) (λ_ _ _ e=>e) (λp ps e=>⟨#[],by rw[e];simp⟩) (λm f=> ?_) (λp u e=> ?_) I.bare
 .obtain ⟨o,es,ep,g,r⟩:=f;exact⟨o,es,ep,k _ o (λz=>(c _ z).2.1 rfl) g,r⟩
 .refine (I.hok p u e).stay (λq v hq h=>k q v ?_ h) (λ_ q=>q) λ_ _ q=>q;rcases hq with z|z
  .rw [z];exact d p u e
  .exact d q _ z
def Inv.turnedN {ch:km kf}{t':Nat}{n:kf}{o:HO}(I:Inv X Sr σ H s)(c:∀p∈ch,Ef X Sr H p)(j:∀p∈ch,p<s.heap.objs.size)(k:∀p o,p ∉ ch->s.heap.get? p=some o->h'.get? p=some o)(f:s.heap.objs.size<=n)(new:Bz X.prog X.w (upd H n o) h' n o):Inv X Sr σ (upd H n o) {s with heap:=h',toks:=t'}:=by
 have g:Inv X Sr σ H {s with heap:=h',toks:=t'}:=I.turnedL c k;have d:H n=none:=I.hok.fresh f;have hx:∀p u,s.heap.get? p=some u->p≠n:=λp u e=>AAQ (AAf (AAN e) f);refine I.step (g':=s.gens) (d':=s.drawn) (ch:=ch) (λp hp=>⟨(c p hp).2.2.2.1,(c p hp).2.1,(c p hp).2.2.2.2.1,(c p hp).2.2.2.2.2⟩) (λp o _ _ hc e _=>k p o hc e) (λp o _ _ hc e _=>⟨o.slots,k p o hc e⟩)
  (λp u _ e z=>by rw[Ae (hx p u e)];exact z) (λp o hc e=>⟨o,k p o hc e⟩) (λp xs e=>by rw[Ae (Al e d)];exact e) (λp o xs e=>by rw[Ae (Al e d)];exact e)
  (λp ps e=>⟨#[],by rw[Ae (Al e d),e];simp⟩) (λm h=> ?_) (λp u e=> ?_) I.bare
 .obtain ⟨o,es,ep,i,r⟩:=h;exact⟨o,es,ep,k _ o (λz=>(c _ z).2.1 rfl) i,r⟩
 .by_cases hp:p=n
  .subst hp;rw[Ad] at e;cases e;exact new
  .rw [Ae hp] at e;exact(g.hok p u e).stay (λ_ _ _ q=>q) (λq hq=>by rw[Ae (Al hq d)];exact hq) λq xs hq=>by rw[Ae (Al hq d)];exact hq
end
noncomputable def xb (K:AAJ)(b c:kc)(l m:kf):It:=
 ⟨λi H=>∃xs ys x y,Sq K b H l xs/\Sq K c H m ys/\xs[i]? =some x/\ys[i]? =some y,
  λi H v a=>∃T x y,v= .ref T/\H T=none/\a=upd H T (.tup [x,y])/\(∀xs,Sq K b H l xs->xs[i]? =some x)/\∀ys,Sq K c H m ys->ys[i]? =some y,
  λi H=>∃xs ys,Sq K b H l xs/\Sq K c H m ys/\(xs.length<=i\/ys.length<=i)⟩
def jB {K:AAJ}{TI TO:kf}(D:ZipApart z TI TO i j l m):Hu P w K (.Tuple es L pos) (xb K b c l m) [z,TI,TO,i,j] z (λk h=>oj b c z TI TO i j l m k .none h) where
 mem:=!2
 obj:=λk h Z p hp=>by
  have a:p=z\/p=TI\/p=TO\/p=i\/p=j:=↑hp
  rcases a with e|e|e|e|e
  .subst e;exact⟨_,Z.zip,λv q=>nomatch q⟩
  .subst e;exact⟨_,Z.its,λv q=>nomatch q⟩
  .subst e;obtain⟨x,y,q⟩:=Z.own;exact⟨_,q,λv q=>nomatch q⟩
  .subst e;exact Z.one.obj
  .subst e;exact Z.two.obj
 keep:=λk h h' Z e=>Z.mv e
 item:=by
  intro X r hw t hc k Sr s G H E I g Z A;subst r hw t;obtain⟨xs,ys,x,y,hl,n,hx,hy⟩:=A;obtain⟨J,B,C,_⟩:=I.sq hl;obtain⟨vs,rv,sv,_⟩:=I.sq n;obtain⟨u,hu,M⟩:=B.get hx;obtain⟨v,hv,N⟩:=rv.get hy;have f:s.TypeIs (.ref z) "zip" :=⟨_,Z.zip,rfl⟩;unfold pyNext;refine AAI (ADs (ACe (name:=Str.ofString "__next__") f ADD (AB7 ADD f AFA
   (wU D Z C sv (x:=u) (y:=v) (↑hu) (↑hv) λh1 O Q R S U W Y=>AAK ?_) (AFB _))))
  refine⟨_,rfl,wpAny_letOwnedTupleGo_zip (s:={s with heap:=h1}) O λh2 c1 c2=> ?_⟩;have F:∀p∈ [z,TI,TO,i,j],p<s.heap.objs.size:=λp hp=>by
   have a:p=z\/p=TI\/p=TO\/p=i\/p=j:=↑hp
   rcases a with e|e|e|e|e
   .subst e;exact AAN Z.zip
   .subst e;exact AAN Z.its
   .subst e;obtain⟨x,y,q⟩:=Z.own;exact AAN q
   .subst e;obtain⟨o,q,_⟩:=Z.one.obj;exact AAN q
   .subst e;obtain⟨o,q,_⟩:=Z.two.obj;exact AAN q
  have d:∀p o,p≠z->h1.get? p=some o->h2.get? p=some o:=λp o q e=>c2.extBut _ _ q e;have kp:∀p o,p ∉ [z,TI,TO,i,j] ->s.heap.get? p=some o->h2.get? p=some o:=λp o hp e=>by
   have a:p≠z/\p≠TI/\p≠TO/\p≠i/\p≠j:=↑hp
   exact d p o a.1 (Y p o a.1 a.2.2.1 a.2.2.2.1 a.2.2.2.2 e)
  have yc:s.heap.objs.size≠z:=AAx (F z (!2));have I2:Inv X Sr G (upd H s.heap.objs.size (.tup [x,y])) {s with heap:=h2,toks:=s.toks}:=I.turnedN g F kp (AAR _)
   ⟨(by show 2<=sizeLine;decide), [u,v], .cons M (.cons N .nil),⟨_,d _ _ yc W,rfl,_,rfl⟩⟩
  have VM:H s.heap.objs.size=none:=I.fresh;refine⟨.ref s.heap.objs.size,upd H s.heap.objs.size (.tup [x,y]),I2,rfl,⟨_,x,y,rfl,VM,rfl,λxs' h'=> ?_,λys' h'=> ?_⟩, ?_,λp hp=> ?_⟩
  .rw [I.sq_inj h' hl];exact hx
  .rw [I.sq_inj h' n];exact hy
  .exact ⟨c1,d _ _ D.TIz Q,⟨_,_,d _ _ D.TOz R⟩,S.mv λo=>d _ o D.i1z,U.mv λo=>d _ o D.i2z⟩
  .rw [Ae (AAQ (F p hp))];exact(g p hp).1
 done:=by
  intro X r hw t hc k Sr s G H E I g Z A;subst r hw t;obtain⟨xs,ys,hl,n,he⟩:=A;obtain⟨J,B,C,_⟩:=I.sq hl;obtain⟨vs,rv,sv,_⟩:=I.sq n;have e1:=B.length;have e2:=rv.length;have pS:J.toArray[k]? =none\/vs.toArray[k]? =none:=by
   rcases he with q|q
   .exact .inl (by simp;omega)
   .exact .inr (by simp;omega)
  have f:s.TypeIs (.ref z) "zip" :=⟨_,Z.zip,rfl⟩;unfold pyNext;refine AAI (ADs (ACe (name:=Str.ofString "__next__") f ADD (AB7 ADD f AFA
   (AAH (I.ok.hd hc) D Z C sv pS λh1 e hk he=> ?_) (AFB _))))
  obtain⟨o,ho,uP⟩:=he;refine AAI (AC6 (T:="StopIteration") (b:=true) ⟨o,ho,uP⟩ isSubtype_stop (AAK ⟨rfl, ?_⟩));exact I.turnedL (t':=s.toks) g λp o hp e=>by
   have a:p≠z/\p≠TI/\p≠TO/\p≠i/\p≠j:=↑hp
   exact hk p o a.1 a.2.2.1 a.2.2.2.1 a.2.2.2.2 e
 self:=λ_ _ _ _ _ Z h=>AFC Z.zip h
structure Has (P:Program) (w:World) (K:AAJ) (mg:Str->Option Value) (base:Heap) (k:Nat) (x:Str) (ps:List Str) (sp:Sp):Prop where
 ex:∃f fd,mg x=some (.ref f)/\PySem.W.keepIn K (.ref f)=true/\Binds K fd ps [] /\Du P w K mg base MP k f fd ps sp
def Has.mono {K:AAJ}{k:Nat}{sp:Sp}(h:Has P w K mg base j x ps sp)(hk:j<=k):Has P w K mg base k x ps sp:=by obtain⟨f,e,a,b,c,d⟩:=h.ex;exact⟨f,e,a,b,c,d.mono hk⟩
section
variable {X:Cx}{x:Str}{p pos:Pos}{e:kd}{es:km kd}{t:TA}{k:Nat}{ps:km Str}{sp:Sp}
def qc (D:Has X.prog X.w X.K X.mg X.base k x ps sp)(a:Room k X.A)(b:Gl X x)(ha:PA X (e::es) t)(hs:starEach (e::es) X.env=(false,eval e X.env)::starEach es X.env:=by rfl)(hpl:(backTo pos (starEach es X.env)).any (·.1)=false:=by rfl)(hd:(x==("__debug__" :Str))=false:=by decide):PE X (.Call (.Name x p) (e::es) [] pos) (ip sp [] E0 t):=by obtain⟨f,h,c,d,g,G⟩:=D.ex;exact Zf G a b c d g .nil nu ha (hdb:=hd) (he:=hs) (hpl:=hpl)
end
section
variable {X:Cx}{tg elt:kd}{ifs:km kd}{scope:Scope}{own:Nat}{ix:km Nat}{N:km Str}{g:TG}{tt:TT}{te:TE}
noncomputable def SQ (X:Cx)(sc:Scope)(own:Nat)(ix:km Nat)(N:km Str):kc:=
 (List.range ix.length).all λj=>match ix[j]? with
   | none=>false
   | some i=>match N[own+j]?,X.N[i]? with
     | some x,some y=>decide (x=y)&&decide (X.env.scope.names.lookup x=some .cell)&&decide (sc.names.lookup x=some .cell)
     | _,_=>false
def fS (h1:N.length=own+ix.length)(h2:SQ X sc own ix N=true):Yq X sc own ix N:=by
 refine⟨h1,λj i hj=> ?_⟩;have c:j<ix.length:=(AB8.mp hj).1;have h:=AFD.mp h2 j (ADg.mpr c);rw[hj] at h;dsimp only at h;cases a:N[own+j]? with
 | none=>rw[a] at h;simp at h
 | some x=>
   cases b:X.N[i]? with
   | none=>rw[a,b] at h;simp at h
   | some y=> rw[a,b] at h;simp only[AA7,ADE] at h;obtain⟨⟨h3,d⟩,e⟩:=h;subst h3;exact⟨x,rfl,rfl,d,e⟩
def SD (h1:scope.kind= .function)(h2:(scope.names.all λy=> !decide (y.2= .cell))=true)(h3:(scope.names.all λy=> !decide (y.2= .local)||decide (scope.names.lookup y.1=some .local))=true)(c:(scope.names.all λy=> !decide (y.2= .free)||decide (X.env.scope.names.lookup y.1=some .cell))=true)(d:N.length=own+ix.length)(f:SQ X (relabel scope X.env) own ix N=true)(hk:IE own g)(a:∀cl C s H ex pn,PG (blk X (relabel scope X.env) N cl C s H ex pn) tg g)(b:∀cl C s H ex pn,aZ (blk X (relabel scope X.env) N cl C s H ex pn) ifs tt)(val:∀cl C s H ex pn,PE (blk X (relabel scope X.env) N cl C s H ex pn) elt te):GJ X tg elt ifs scope own ix N g tt te:=by
 refine⟨h1,λy hy e=> ?_,λy hy e=> ?_,λy hy e=> ?_,fS d f,hk,a,b,val⟩
 .have:=AFD.mp h2 y hy;simp[e] at this
 .have:=AFD.mp h3 y hy;simpa[e] using this
 .have:=AFD.mp c y hy;simpa[e] using this
end
def Uo.new {H:Hp}(h:H p=none):Uo H (upd H p o):=λb u q=>by rw[Ae (Al q h)];exact q
def But (p:kf)(H a:Hp):Prop:=∀b o,b≠p->H b=some o->a b=some o
def Uo.but (a:Uo H H1):But p H H1:=λc o _ h=>a c o h
end L2
namespace PL
open PySem PySem.Spec PyProof.Rows L2
inductive PV where
 | non|bl (b:Bool)|int (i:Int)|str (x:Str)|ty (n:String)
 | tup (xs:List PV)|lst (xs:List PV)|tape|scr (ns:List Int)|dct (kvs:List (FK×Int))|dk (kvs:List (Int×Int))
def E8 (H:Hp)(p:kf):Prop:=∃d x:Int,H p=some (.lst [.int d, .int x])/\0<=d/\0<=x/\x<2147483647
def Ko (o:HO):Prop:=(∀vs,o≠ .tup vs)/\∀q u,o≠ .frz q u
def Ko.lst:Ko (.lst xs):=⟨(λ_ e=>nomatch e),(λ_ _ e=>nomatch e)⟩
def E8.mut {H:Hp}(h:E8 H p):∃o,H p=some o/\Ko o:=by obtain⟨d,x,e,_⟩:=h;exact⟨_,e,Ko.lst⟩
def we (K:AAJ)(H:Hp)(a:kf)(xs:km V):Prop:=H a=some (.tup xs)\/∃(o:Obj) (b:Array kj) (n:Nat),K.lookup a=some o/\o.cls= .type "tuple" /\o.data= .seq b n/\b.size<=sizeLine/\Au xs b.toList
def we.sq {K:AAJ}(h:we K H a xs):Nj K H a xs:=h.elim (λz=> .inl (.inl z)) .inr
def B7 (kvs:km (FK×Int)):km (FK×V):=kvs.map λp=>(p.1,V.int p.2)
def F6 (kvs:km (Int×Int)):km (CD×V):=kvs.map λp=>(.inl p.1,V.int p.2)
mutual
inductive B8 (K:AAJ) (T M:Addr->Prop) (H:Hp):V->PV->Prop where
 | non:B8 K T M H .non .non
 | bl (b:Bool):B8 K T M H (.bl b) (.bl b)
 | int (i:Int):B8 K T M H (.int i) (.int i)
 | str (x:Str):B8 K T M H (.str x) (.str x)
 | ty (n:String):B8 K T M H (.ty n) (.ty n)
 | tup {a:Addr} {vs:List V} {xs:List PV} (h:we K H a vs) (r:Az K T M H vs xs):B8 K T M H (.ref a) (.tup xs)
 | lst {a:Addr} {vs:List V} {xs:List PV} (h:H a=some (.lst vs)) (t:¬T a) (m:¬M a) (r:Az K T M H vs xs):B8 K T M H (.ref a) (.lst xs)
 | tape {a:Addr} (t:T a):B8 K T M H (.ref a) .tape
 | dct {a:Addr} {kvs:List (FK×Int)} (h:H a=some (.dN K (B7 kvs))) (t:¬T a) (m:¬M a):B8 K T M H (.ref a) (.dct kvs)
 | dk {a:Addr} {o:Obj} {es:Array DictEntry} {ep:Nat} {kvs:List (Int×Int)} (h:H a=some (.frz o (.dK (F6 kvs)))) (e:o.data= .dict es ep):B8 K T M H (.ref a) (.dk kvs)
 | scr {a:Addr} {ns:List Int} (h:(Rd H a (.lst (ns.map V.int))/\¬T a/\¬M a)\/∀H,GH K H a (ns.map V.int)):B8 K T M H (.ref a) (.scr ns)
inductive Az (K:AAJ) (T M:Addr->Prop) (H:Hp):List V->List PV->Prop where
 | nil:Az K T M H [] []
 | cons {v:V} {x:PV} {vs:List V} {xs:List PV} (h:B8 K T M H v x) (t:Az K T M H vs xs):Az K T M H (v::vs) (x::xs)
end
structure Gs (T M:Addr->Prop) (H:Hp):Prop where
 tp:∀a,T a->E8 H a
 mu:∀a,M a->∃o,H a=some o/\Ko o
def Gs.noFrz {T M:kf->Prop}{H:Hp}(v:Gs T M H){q:Obj}(r:H a=some (.frz q u)):¬T a/\¬M a:=by
 refine⟨λz=> ?_,λz=> ?_⟩
 .obtain ⟨o,e,_,n⟩:=(v.tp a z).mut;rw[r] at e;cases e;exact n _ _ rfl
 .obtain ⟨o,e,_,n⟩:=v.mu a z;rw[r] at e;cases e;exact n _ _ rfl
def Gs.noTup {T M:kf->Prop}(v:Gs T M H)(r:Rd H a (.tup vs)):¬T a/\¬M a:=by
 have go:∀o,H a=some o->Ko o->False:=λo e m=>by
  rcases r with r|⟨q,r⟩
  .rw [e] at r;cases r;exact m.1 _ rfl
  .rw [e] at r;cases r;exact m.2 _ _ rfl
 exact⟨λt=>let ⟨o,e,m⟩:=(v.tp a t).mut;go o e m,λt=>let ⟨o,e,m⟩:=v.mu a t;go o e m⟩
structure Mv (K:AAJ) (T M:Addr->Prop) (H:Hp) (T' M':Addr->Prop) (H':Hp):Prop where
 va:Gs T M H
 keep:∀b o,¬T b->¬M b->H b=some o->H' b=some o
 sub:∀b,T b->T' b
 tn:∀b,H b≠none->T' b->T b
 mn:∀b,H b≠none->M' b->M b
def Zn {H:Hp}(r:Rd H a u):H a≠none:=by rcases r with r|⟨o,r⟩ <;> rw[r] <;> exact λe=>nomatch e
def vW {H b:Hp}(r:Rd H a u)(k:∀o,H a=some o->b a=some o):Rd b a u:=by
 rcases r with r|⟨o,r⟩
 .exact .inl (k _ r)
 .exact .inr ⟨o,k _ r⟩
section
variable {K:AAJ}{T M T' M':kf->Prop}{H H':Hp}
mutual
theorem B8.mv (m:Mv K T M H T' M' H'):∀{v:V} {x:PV},B8 K T M H v x->B8 K T' M' H' v x
 | _,_, .non=> .non
 | _,_, .bl b=> .bl b
 | _,_, .int i=> .int i
 | _,_, .str x=> .str x
 | _,_, .ty n=> .ty n
 | _,_, .tup (a:=a) (vs:=vs) h r=>by
   refine .tup (vs:=vs) ?_ (Az.mv m r);rcases h with h|h
   .obtain ⟨t,u⟩:=m.va.noTup (.inl h);exact .inl (m.keep _ _ t u h)
   .exact .inr h
 | _,_, .lst (a:=a) h t u r=> .lst (m.keep _ _ t u h) (λz=>t (m.tn a (by rw[h];exact λe=>nomatch e) z)) (λz=>u (m.mn a (by rw[h];exact λe=>nomatch e) z)) (Az.mv m r)
 | _,_, .tape t=> .tape (m.sub _ t)
 | _,_, .dct (a:=a) h t u=> .dct (m.keep _ _ t u h) (λz=>t (m.tn a (by rw[h];exact λe=>nomatch e) z)) (λz=>u (m.mn a (by rw[h];exact λe=>nomatch e) z))
 | _,_, .dk h e=>by obtain⟨t,u⟩:=m.va.noFrz h;exact .dk (m.keep _ _ t u h) e
 | _,_, .scr (a:=a) (.inl ⟨h,t,u⟩)=> .scr (.inl ⟨vW h λo e=>m.keep _ o t u e,λz=>t (m.tn a (Zn h) z),λz=>u (m.mn a (Zn h) z)⟩)
 | _,_, .scr (.inr h)=> .scr (.inr h)
theorem Az.mv (m:Mv K T M H T' M' H'):∀{vs:km V} {xs:km PV},Az K T M H vs xs->Az K T' M' H' vs xs
 | _,_, .nil=> .nil
 | _,_, .cons h t=> .cons (B8.mv m h) (Az.mv m t)
end
end
def Az.length {K:AAJ}:∀{vs:km V} {xs:km PV},Az K T M H vs xs->vs.length=xs.length
 | _,_, .nil=>rfl
 | _,_, .cons _ t=>by simp[t.length]
theorem Az.get {K:AAJ}:∀{vs:km V} {xs:km PV} {i:Nat} {x:PV},Az K T M H vs xs->xs[i]? =some x->∃v,vs[i]? =some v/\B8 K T M H v x
 | _,_,_,_, .nil,e=>by simp at e
 | _,_,0,_, .cons h _,e=>by simp at e;subst e;exact⟨_,rfl,h⟩
 | _,_,i+1,x, .cons _ t,e=>by obtain⟨u,h1,h2⟩:=Az.get (i:=i) (x:=x) t (↑e);exact⟨u,↑h1,h2⟩
def Az.get' {K:AAJ}{i:Nat}(h:Az K T M H vs xs)(e:vs[i]? =some v):∃x,xs[i]? =some x/\B8 K T M H v x:=by have hl:=h.length;have hi:i<vs.length:=(AB8.mp e).1;obtain⟨w,a,r⟩:=h.get (i:=i) (x:=xs[i]'(!0)) (AAi (!0));rw[e] at a;cases a;exact⟨_,AAi (!0),r⟩
def Az.append {K:AAJ}:∀{vs a:km V} {xs ys:km PV},Az K T M H vs xs->Az K T M H a ys->Az K T M H (vs++a) (xs++ys)
 | _,_,_,_, .nil,s=>s
 | _,_,_,_, .cons h t,s=> .cons h (t.append s)
def Az.take {K:AAJ}:∀{vs:km V} {xs:km PV} (n:Nat),Az K T M H vs xs->Az K T M H (vs.take n) (xs.take n)
 | _,_,0,_=> .nil
 | _,_,_+1, .nil=> .nil
 | _,_,n+1, .cons r t=> .cons r (t.take n)
def Az.drop {K:AAJ}:∀{vs:km V} {xs:km PV} (n:Nat),Az K T M H vs xs->Az K T M H (vs.drop n) (xs.drop n)
 | _,_,0,r=>r
 | _,_,_+1, .nil=> .nil
 | _,_,n+1, .cons _ t=>t.drop n
theorem Az.set {K:AAJ}(r:B8 K T M H v x):∀{vs:km V} {xs:km PV} (i:Nat),Az K T M H vs xs->Az K T M H (vs.set i v) (xs.set i x)
 | _,_,_, .nil=> .nil
 | _,_,0, .cons _ t=> .cons r t
 | _,_,i+1, .cons q t=> .cons q (Az.set r i t)
def Az.reverse {K:AAJ}(h:Az K T M H vs xs):Az K T M H vs.reverse xs.reverse:=by
 induction vs generalizing xs with
 | nil=>cases h;exact .nil
 | cons v vs ih=>
   cases h with
   | cons h t=>rw[AE1,AE1];exact(ih t).append (.cons h .nil)
structure Cq (T:Addr->Prop) (H:Hp) (T':Addr->Prop) (H':Hp):Prop where
 keep:∀b o,¬T b->H b=some o->H' b=some o
 sub:∀b,T b->T' b
 new:∀b,T' b->T b\/H b=none
 tp:∀a,T' a->E8 H' a
def Cq.refl {T:kf->Prop}(h:∀a,T a->E8 H a):Cq T H T H:=⟨λ_ _ _ e=>e,λ_ e=>e,λ_ e=> .inl e,h⟩
def Cq.some {H a:Hp}(s:Cq T H c a)(h:H b≠none):a b≠none:=by
 by_cases t:T b
 .obtain ⟨o,e,_⟩:=(s.tp b (s.sub b t)).mut;rw[e];exact λe=>nomatch e
 .cases e:H b with
  | none=>exact absurd e h
  | some o=>rw[s.keep b o t e];exact λe=>nomatch e
def Cq.none {H a:Hp}(s:Cq T H c a)(h:a b=none):H b=none:=by
 cases e:H b with
 | none=>rfl
 | some o=>exact absurd h (s.some (by rw[e];exact λe=>nomatch e))
def Cq.trans {T1:kf->Prop}(a:Cq T H T1 H1)(b:Cq T1 H1 d f):Cq T H d f where
 keep:=λc o t e=>b.keep c o (λz=>(a.new c z).elim t λn=>by rw[n] at e;cases e) (a.keep c o t e)
 sub:=λc t=>b.sub c (a.sub c t)
 new:=λc t=>(b.new c t).elim (λz=>a.new c z) λz=> .inr (a.none z)
 tp:=b.tp
def Cq.lay {T:kf->Prop}{H:Hp}(h:∀a,T a->E8 H a)(hp:H p=Option.none):Cq T H T (upd H p o) where
 keep:=λb u _ e=>by rw[Ae (Al e hp)];exact e
 sub:=λ_ t=>t
 new:=λ_ t=> .inl t
 tp:=λa t=>by obtain⟨d,x,e,z⟩:=h a t;exact⟨d,x,by rw[Ae (Al e hp)];exact e,z⟩
def Cq.mv {K:AAJ}(s:Cq T H a c)(v:Gs T M H):Mv K T M H a M c where
 va:=v
 keep:=λb o t _ e=>s.keep b o t e
 sub:=s.sub
 tn:=λb n t=>(s.new b t).elim id λz=>absurd z n
 mn:=λ_ _ z=>z
def B8.stp {K:AAJ}(r:B8 K T M H v x)(s:Cq T H a b)(va:Gs T M H):B8 K a M b v x:=r.mv (s.mv va)
def Az.stp {K:AAJ}(r:Az K T M H v x)(s:Cq T H a b)(va:Gs T M H):Az K a M b v x:=r.mv (s.mv va)
def Mv.anti {K:AAJ}{M c:kf->Prop}(v:Gs T M H)(h:∀a,c a->M a):Mv K T M H T c H:=⟨v,λ_ _ _ _ e=>e,λ_ t=>t,λ_ _ t=>t,λb _ t=>h b t⟩
inductive AV where
 | val (x:PV)
 | own (xs:List PV)
abbrev A4:=km (ke AV)
structure C0 where
 T:Addr->Prop
 H:Hp
 M:Addr->Prop
noncomputable def C0.add (B:C0)(p:kf):C0:=⟨B.T,B.H,λa=>B.M a\/a=p⟩
def Ch (a:L2.St)(τ:A4)(p:kf):Prop:=∃(i:Nat) (xs:km PV),τ[i]? =some (some (.own xs))/\a[i]? =some (some (.ref p))
def mt (B:C0)(a:L2.St)(τ:A4)(p:kf):Prop:=B.M p\/Ch a τ p
structure SR (K:AAJ) (B:C0) (T:Addr->Prop) (H:Hp) (σ:L2.St) (τ:A4):Prop where
 len:σ.length=τ.length
 val:∀(i:Nat) (x:PV),τ[i]? =some (some (.val x))->∃v,σ[i]? =some (some v)/\B8 K T (mt B σ τ) H v x
 own:∀(i:Nat) (xs:List PV),τ[i]? =some (some (.own xs))->∃p vs,σ[i]? =some (some (.ref p))/\H p=some (.lst vs)/\Az K T (mt B σ τ) H vs xs/\B.H p=none/\¬T p/\¬B.M p
 dist:∀(i j:Nat) (xs ys:List PV) (p:Addr),τ[i]? =some (some (.own xs))->τ[j]? =some (some (.own ys))->σ[i]? =some (some (.ref p))->σ[j]? =some (some (.ref p))->i=j
 tp:∀a,T a->E8 H a
 bm:∀a,B.M a->∃o,H a=some o/\Ko o
 bt:∀a,B.M a->¬T a
 st:Cq B.T B.H T H
section
variable {K:AAJ}{B:C0}{T T':kf->Prop}{H H':Hp}{σ:L2.St}{τ:A4}
def SR.ownH (s:SR K B T H σ τ)(o:Ch σ τ p):∃vs,H p=some (.lst vs)/\B.H p=none/\¬T p/\¬B.M p:=by obtain⟨i,xs,h1,h2⟩:=o;obtain⟨q,vs,e,h,_,b,t,m⟩:=s.own i xs h1;rw[h2] at e;cases e;exact⟨vs,h,b,t,m⟩
def SR.va (s:SR K B T H σ τ):Gs T (mt B σ τ) H:=⟨s.tp,λa m=>m.elim (s.bm a) λo=>let ⟨vs,h,_⟩:=s.ownH o;⟨_,h,Ko.lst⟩⟩
def SR.nt (s:SR K B T H σ τ)(m:mt B σ τ a):¬T a:=m.elim (s.bt a) λo=>let ⟨_,_,_,t,_⟩:=s.ownH o;t
def SR.stp (s:SR K B T H σ τ)(p:Cq T H T' H'):SR K B T' H' σ τ where
 len:=s.len
 val:=λi x e=>let ⟨v,h,r⟩:=s.val i x e;⟨v,h,r.stp p s.va⟩
 own:=λi xs e=>by obtain⟨q,vs,c,h,r,b,t,m⟩:=s.own i xs e;exact⟨q,vs,c,p.keep _ _ t h,r.stp p s.va,b,(λz=>(p.new q z).elim t λn=>by rw[n] at h;cases h),m⟩
 dist:=s.dist
 tp:=p.tp
 bm:=λa m=>let ⟨o,e,q⟩:=s.bm a m;⟨o,p.keep a o (s.bt a m) e,q⟩
 bt:=λa m z=>by obtain⟨o,e,_⟩:=s.bm a m;exact(p.new a z).elim (s.bt a m) λn=>by rw[n] at e;cases e
 st:=s.st.trans p
def SR.add (s:SR K B T H σ τ)(q:Cq T H T' H')(f:H p=none)(k:H' p=some o)(l:Ko o)(u:¬T' p):SR K (B.add p) T' H' σ τ:=by
 have c:=s.stp q;have g:Mv K T (mt B σ τ) H T' (mt (B.add p) σ τ) H':=⟨s.va,λb o t _ e=>q.keep b o t e,q.sub,λb n t=>(q.new b t).elim id λz=>absurd z n,λb n z=>by
  rcases z with(z|z)|z
  .exact .inl z
  .subst z;exact absurd f n
  .exact .inr z⟩
 refine⟨s.len,λi x e=> ?_,λi xs e=> ?_,s.dist,c.tp,λa m=> ?_,λa m=> ?_,c.st⟩
 .obtain ⟨v,h,r⟩:=s.val i x e;exact⟨v,h,r.mv g⟩
 .obtain ⟨a,vs,j,h,r,b,t,m⟩:=s.own i xs e;obtain⟨y,w,d,h',_,A,t',C⟩:=c.own i xs e;rw[j] at d;cases d;rw[q.keep _ _ t h] at h';cases h';refine⟨a,vs,j,q.keep _ _ t h,r.mv g,b,t',λz=> ?_⟩;rcases z with z|z
  .exact m z
  .subst z;rw[f] at h;cases h
 .rcases m with m|m
  .exact c.bm a m
  .subst m;exact⟨o,k,l⟩
 .rcases m with m|m
  .exact c.bt a m
  .subst m;exact u
end
noncomputable def j5:ke AV->ke AV
 | some (.own xs)=>some (.val (.lst xs))
 | o=>o
def frz (τ:A4):A4:=τ.map j5
def Y9 {i:Nat}:(frz τ)[i]? =(τ[i]?).map j5:=by simp[frz]
def j6 {i:Nat}(h:(frz τ)[i]? =some (some (.val x))):τ[i]? =some (some (.val x))\/∃xs,x= .lst xs/\τ[i]? =some (some (.own xs)):=by
 rw[Y9] at h;cases e:τ[i]? with
 | none=>rw[e] at h;cases h
 | some o=>
   rw[e] at h;cases o with
   | none=>cases h
   | some a=>
     cases a with
     | val y=>cases h;exact .inl rfl
     | own xs=>cases h;exact .inr ⟨xs,rfl,rfl⟩
def SU {i:Nat}:(frz τ)[i]? ≠some (some (.own xs)):=by
 rw[Y9];cases e:τ[i]? with
 | none=>exact λz=>nomatch z
 | some o=>
   cases o with
   | none=>exact λz=>nomatch z
   | some a=>cases a <;> exact λz=>nomatch z
def Vt:¬Ch a (frz τ) p:=λ⟨_,_,h,_⟩=>SU h
section
variable {K:AAJ}{B:C0}{T T':kf->Prop}{H H':Hp}{σ:L2.St}{τ:A4}
def SR.frz (s:SR K B T H σ τ):SR K B T H σ (frz τ):=by
 have d:Mv K T (mt B σ τ) H T (mt B σ (PL.frz τ)) H:= .anti s.va λa m=>m.elim .inl λz=>absurd z Vt;refine⟨by simp[PL.frz,s.len],λi x e=> ?_,λi xs e=>absurd e SU,λi j xs ys p e=>absurd e SU,s.tp,s.bm,s.bt,s.st⟩;rcases j6 e with c|⟨xs,f,c⟩
 .obtain ⟨v,h,r⟩:=s.val i x c;exact⟨v,h,r.mv d⟩
 .subst f;obtain⟨p,vs,g,h,r,b,t,m⟩:=s.own i xs c;exact⟨.ref p,g, .lst h t (λz=>z.elim m Vt) (r.mv d)⟩
end
mutual
noncomputable def gO:PV->kc
 | .lst _=>false
 | .tape=>false
 | .scr _=>false
 | .dct _=>false
 | .tup xs=>cI xs
 | _=>true
noncomputable def cI:km PV->kc
 | [] =>true
 | x::xs=>gO x&&cI xs
end
section
variable {K:AAJ}{T M M':kf->Prop}{H:Hp}
mutual
theorem B8.free:∀{v:V} {x:PV},gO x=true->B8 K T M H v x->B8 K T M' H v x
 | _,_,_, .non=> .non
 | _,_,_, .bl b=> .bl b
 | _,_,_, .int i=> .int i
 | _,_,_, .str x=> .str x
 | _,_,_, .ty n=> .ty n
 | _,_,n, .tup h r=> .tup h (Az.free (by rw[gO] at n;exact n) r)
 | _,_,n, .lst _ _ _ _=>by rw[gO] at n;cases n
 | _,_,n, .tape _=>by rw[gO] at n;cases n
 | _,_,n, .scr _=>by rw[gO] at n;cases n
 | _,_,n, .dct _ _ _=>by rw[gO] at n;cases n
 | _,_,_, .dk h e=> .dk h e
theorem Az.free:∀{vs:km V} {xs:km PV},cI xs=true->Az K T M H vs xs->Az K T M' H vs xs
 | _,_,_, .nil=> .nil
 | _,_,n, .cons h t=>by rw[cI,AA7] at n;exact .cons (B8.free n.1 h) (Az.free n.2 t)
end
end
abbrev AE:=A4->(PV->Prop)->Prop
abbrev AT:=A4->(kc->Prop)->Prop
abbrev AA:=A4->(km PV->Prop)->Prop
abbrev AF:=km PV->(PV->Prop)->Prop
noncomputable def UH:A4->Nat->ke AV
 | [],_=>none
 | x::_,0=>x
 | _::r,n+1=>UH r n
theorem OF:∀{τ:A4} {i:Nat} {a:AV},UH τ i=some a->τ[i]? =some (some a)
 | [],_,_,h=>by simp[UH] at h
 | x::_,0,_,h=>by simpa[UH] using h
 | _::r,n+1,a,h=>by have:=OF (τ:=r) (i:=n) (a:=a) (by simpa[UH] using h);simpa using this
def UI (x:PV)(R:Int->Prop):Prop:=match x with | .int i=>R i|_=>False
def cU (x y:PV)(R:Int->Int->Prop):Prop:=match x,y with | .int i, .int j=>R i j|_,_=>False
def gY (x:PV)(R:kc->Prop):Prop:=match x with | .bl b=>R b|_=>False
def jS (o:ke PV)(R:PV->Prop):Prop:=match o with | some z=>R z|none=>False
def qR {R:PV->Prop}(h:jS o R):∃z,o=some z/\R z:=by cases o <;> first | exact⟨_,rfl,h⟩|exact h.elim
def Mb (x:PV)(R:km PV->Prop):Prop:=match x with | .tup xs=>R xs | .lst xs=>R xs|_=>False
def HL {R:Int->Prop}(h:UI x R):∃i,x= .int i/\R i:=by cases x <;> first | exact⟨_,rfl,h⟩|exact h.elim
def Ma {y:PV}{R:Int->Int->Prop}(h:cU x y R):∃i j,x= .int i/\y= .int j/\R i j:=by cases x <;> cases y <;> first | exact⟨_,_,rfl,rfl,h⟩|exact h.elim
def S8 {R:kc->Prop}(h:gY x R):∃b,x= .bl b/\R b:=by cases x <;> first | exact⟨_,rfl,h⟩|exact h.elim
def GV {R:km PV->Prop}(h:Mb x R):∃xs,(x= .tup xs\/x= .lst xs)/\R xs:=by cases x <;> first | exact⟨_, .inl rfl,h⟩|exact⟨_, .inr rfl,h⟩|exact h.elim
def B8.toI {K:AAJ}{i:Int}(r:B8 K T M H v (.int i)):v= .int i:=by cases r;rfl
def B8.toB {K:AAJ}(r:B8 K T M H v (.bl i)):v= .bl i:=by cases r;rfl
def Gr (K:AAJ)(t:TE)(a:AE):Prop:=∀(B:C0) (T:kf->Prop) (b:L2.St) (τ:A4) (H:Hp) (Q:VK) (d:PV->Prop),SR K B T H b τ->a τ d->
 (∀v x e c,Cq T H e c->B8 K e (mt B b τ) c v x->d x->Q v c)->t b H Q
def Ni (K:AAJ)(t:TT)(a:AT):Prop:=∀(B:C0) (T:kf->Prop) (c:L2.St) (τ:A4) (H:Hp) (Q:kc->Hp->Prop) (d:kc->Prop),SR K B T H c τ->a τ d->
 (∀b f e,Cq T H f e->d b->Q b e)->t c H Q
def oY (K:AAJ)(t:TA)(a:AA):Prop:=∀(B:C0) (T:kf->Prop) (b:L2.St) (τ:A4) (H:Hp) (Q:km V->Hp->Prop) (d:km PV->Prop),SR K B T H b τ->a τ d->
 (∀vs xs e c,Cq T H e c->Az K e (mt B b τ) c vs xs->d xs->Q vs c)->t b H Q
def eJ (K:AAJ)(t:TE)(a:AA):Prop:=∀(B:C0) (T:kf->Prop) (c:L2.St) (τ:A4) (H:Hp) (Q:VK) (e:km PV->Prop),SR K B T H c τ->a τ e->
 (∀p vs xs d b,Cq T H d b->SR K (B.add p) d b c τ->H p=none->b p=some (.lst vs)->¬d p->Az K d (mt (B.add p) c τ) b vs xs->e xs->Q (.ref p) b)->t c H Q
def SE (X:Cx)(e:kd)(a:AE):Prop:=∃t,PE X e t/\Gr X.K t a
def Um (X:Cx)(e:kd)(a:AT):Prop:=∃t,PT X e t/\Ni X.K t a
def SW (X:Cx)(e:kd)(a:AT):Prop:=∃t,PW X e t/\Ni X.K t a
def SA (X:Cx)(es:km kd)(a:AA):Prop:=∃t,PA X es t/\oY X.K t a
def SF (X:Cx)(e:kd)(a:AA):Prop:=∃t,PE X e t/\eJ X.K t a
abbrev IW:=PV->PV->(PV->Prop)->Prop
def CN (K:AAJ)(r:R2)(f:IW):Prop:=∀(T M:kf->Prop) (H:Hp) (u v:V) (x y:PV) (Q:VK) (b:PV->Prop),Gs T M H->B8 K T M H u x->B8 K T M H v y->f x y b->
 (∀w z c a,Cq T H c a->B8 K c M a w z->b z->Q w a)->r u v H Q
def G8 (K:AAJ)(r:km V->Hp->VK->Prop)(f:AF):Prop:=∀(T M:kf->Prop) (H:Hp) (b:km V) (xs:km PV) (Q:VK) (c:PV->Prop),Gs T M H->Az K T M H b xs->f xs c->
 (∀w z d a,Cq T H d a->B8 K d M a w z->c z->Q w a)->r b H Q
section
variable {X:Cx}{a b c:kd}{es:km kd}{pos:Pos}{ta tb:AE}{tA tB':AT}
def aV (i:Nat):AE:=λτ Q=>match UH τ i with | some (.val x)=>Q x|_=>False
def t9 {Q:PV->Prop}(h:aV i τ Q):∃x,τ[i]? =some (some (.val x))/\Q x:=by
 unfold aV at h;cases e:UH τ i with
 | none=>rw[e] at h;exact h.elim
 | some z=>
   rw[e] at h;cases z with
   | own xs=>exact h.elim
   | val x=>exact⟨x,OF e,h⟩
def AJ (i:Nat)(hN:X.N[i]? =some x:=by rfl)(hv:nK X.env.scope x:=by first | exact Or.inl rfl|exact Or.inr (Or.inl rfl)|exact Or.inr (Or.inr rfl))(hd:(x==("__debug__" :Str))=false:=by decide)(d:(x==("__classdict__" :Str))=false:=by decide):SE X (.Name x pos) (aV i):=by refine⟨_,OQ hN hv hd d,λB T g τ H Q j s h k=> ?_⟩;obtain⟨x,e,q⟩:=t9 h;obtain⟨v,f,r⟩:=s.val i x e;exact⟨v,f,k v x T H (.refl s.tp) r q⟩
def aC (x:PV):AE:=λ_ Q=>Q x
def WG (h:∀T M H,B8 X.K T M H v x):Gr X.K (tC v) (aC x):=λB T d τ H Q e s h' k=>k v x T H (.refl s.tp) (h _ _ _) h'
def AH {i:Int}{j pos}:SE X (.Constant (.int i) j pos) (aC (.int i)):=⟨_,A8,WG λ_ _ _=> .int i⟩
def IK {j pos}:SE X (.Constant (.bool i) j pos) (aC (.bl i)):=⟨_,vF,WG λ_ _ _=> .bl i⟩
def BZ {j pos}:SE X (.Constant .none j pos) (aC .non):=⟨_,gv,WG λ_ _ _=> .non⟩
def Tl {j pos}:SE X (.Constant (.str i) j pos) (aC (.str i)):=⟨_,qg,WG λ_ _ _=> .str i⟩
def AY (f:IW)(ta tb:AE):AE:=λτ Q=>ta τ λx=>tb τ λy=>f x y Q
def Tr {t:TE}(i:CN X.K r f)(ha:Gr X.K t ta)(hb:Gr X.K u tb):Gr X.K (c6 r t u) (AY f ta tb):=by intro B T g τ H Q j s h k;refine ha B T g τ H _ _ s h λv x T1 H1 d r1 h1=> ?_;refine hb B T1 g τ H1 _ _ (s.stp d) h1 λw y l m e r2 h2=> ?_;have n:=(s.stp d).stp e;exact i l _ m v w x y Q j n.va (r1.stp e (s.stp d).va) r2 h2 λw z T3 o p A q=>k w z T3 o ((d.trans e).trans p) A q
def Ag {op:Operator}(d:Ea X (binaryOp op) r/\CN X.K r f)(ha:SE X a ta)(hb:SE X b tb):SE X (.BinOp a op b pos) (AY f ta tb):=
 let ⟨_,p,s⟩:=ha;let ⟨_,e,g⟩:=hb;⟨_,Bn d.1 p e,Tr d.2 s g⟩
def EW (d:Ea X (compareOp op) r/\CN X.K r f)(ha:SE X a ta)(hb:SE X b tb)(e:behindInMarks op b=false):SE X (.Compare a [op] [b] pos) (AY f ta tb):=
 let ⟨_,p,s⟩:=ha;let ⟨_,g,h⟩:=hb;⟨_,Zg d.1 p g e,Tr d.2 s h⟩
def vq (d:je X r/\CN X.K r f)(ha:SE X a ta)(hb:SE X b tb)(hs:R4 b):SE X (.Subscript a b pos) (AY f ta tb):=
 let ⟨_,p,s⟩:=ha;let ⟨_,e,g⟩:=hb;⟨_,Ln d.1 p e hs,Tr d.2 s g⟩
def fI (g:Int->Int->PV):IW:=λx y Q=>cU x y λi j=>Q (g i j)
def uL (C:Int->Int->Prop)(g:Int->Int->PV):IW:=λx y Q=>cU x y λi j=>C i j/\Q (g i j)
def WF {g:Int->Int->V}{g':Int->Int->PV}(d:∀i j T M H,B8 X.K T M H (g i j) (g' i j)):CN X.K (Me g) (fI g'):=by intro T M H u v x y Q f va e rv h k;obtain⟨i,j,rfl,rfl,q⟩:=Ma h;exact⟨i,j,e.toI,rv.toI,k _ _ T H (.refl va.tp) (d i j T M H) q⟩
def YN {g:Int->Int->V}{g':Int->Int->PV}(d:∀i j T M H,B8 X.K T M H (g i j) (g' i j)):CN X.K (rI C g) (uL C g'):=by intro T M H u v x y Q f va e rv h k;obtain⟨i,j,rfl,rfl,c,q⟩:=Ma h;exact⟨i,j,e.toI,rv.toI,c,k _ _ T H (.refl va.tp) (d i j T M H) q⟩
abbrev uJ:IW:=fI λi j=> .int (i+j)
abbrev F5:IW:=fI λi j=> .int (i-j)
abbrev bA:IW:=fI λi j=> .bl (decide (i<j))
abbrev fLe:IW:=fI λi j=> .bl (decide (i<=j))
abbrev dR:IW:=fI λi j=> .bl (decide (j<i))
abbrev uK:IW:=fI λi j=> .bl (decide (j<=i))
def CL:Ea X (binaryOp .Sub) (Me λi j=> .int (i-j))/\CN X.K (Me λi j=> .int (i-j)) F5:=⟨X1,WF λi j _ _ _=> .int _⟩
def GB:Ea X (compareOp .Lt) (Me λi j=> .bl (decide (i<j)))/\CN X.K (Me λi j=> .bl (decide (i<j))) bA:=⟨nh,WF λi j _ _ _=> .bl _⟩
def v6:Ea X (compareOp .LtE) (Me λi j=> .bl (decide (i<=j)))/\CN X.K (Me λi j=> .bl (decide (i<=j))) fLe:=⟨vB,WF λi j _ _ _=> .bl _⟩
def IL:Ea X (compareOp .Gt) (Me λi j=> .bl (decide (j<i)))/\CN X.K (Me λi j=> .bl (decide (j<i))) dR:=⟨ng,WF λi j _ _ _=> .bl _⟩
def Z4:Ea X (compareOp .GtE) (Me λi j=> .bl (decide (j<=i)))/\CN X.K (Me λi j=> .bl (decide (j<=i))) uK:=⟨nZ,WF λi j _ _ _=> .bl _⟩
structure MulOk (i j:Int):Prop where
 l:i.natAbs<2^1000000
 r:j.natAbs<2^1000000
def S9:Ea X (binaryOp .Mult) (rI MulOk λi j=> .int (i*j)):=qS λ_ _ _ _ _ _ _ hc q=>mul_int q (.of_le (Hk hc.l) (Hk hc.r) (!1))
abbrev C6:IW:=uL MulOk λi j=> .int (i*j)
def BG:Ea X (binaryOp .Mult) (rI MulOk λi j=> .int (i*j))/\CN X.K (rI MulOk λi j=> .int (i*j)) C6:=⟨S9,YN λi j _ _ _=> .int _⟩
structure Uj (i j:Int):Prop where
 ne:j≠0
 lt:j.natAbs<2^8900
def gf:Ea X (binaryOp .FloorDiv) (rI Uj λi j=> .int (i.fdiv j)):=qS λi j _ _ _ _ _ hc q=>
 floordiv_int hc.ne q (.inl (AGP (AEc (Jx hc.lt (!1)) (!1))))
abbrev MC:IW:=uL Uj λi j=> .int (i.fdiv j)
def Ds:Ea X (binaryOp .FloorDiv) (rI Uj λi j=> .int (i.fdiv j))/\CN X.K (rI Uj λi j=> .int (i.fdiv j)) MC:=⟨gf,YN λi j _ _ _=> .int _⟩
abbrev bB:IW:=uL (λ_ j=>j≠0) λi j=> .int (i.fmod j)
def YQ:Ea X (binaryOp .Mod) (rI (λ_ j=>j≠0) λi j=> .int (i.fmod j))/\CN X.K (rI (λ_ j=>j≠0) λi j=> .int (i.fmod j)) bB:=⟨lH,YN λi j _ _ _=> .int _⟩
def wq:PV->kc | .non=>true|_=>false
def SM:IW:=λx y Q=>match y with | .non=>Q (.bl (wq x))|_=>False
def Jo:IW:=λx y Q=>match y with | .non=>Q (.bl (!wq x))|_=>False
def ZP {K:AAJ}(r:B8 K T M H v x):decide (v= .non)=wq x:=by cases r <;> simp[wq]
def Os:Ea X (compareOp .Is) (λx y H Q=>y= .non/\Q (.bl (decide (x= .non))) H)/\CN X.K (λx y H Q=>y= .non/\Q (.bl (decide (x= .non))) H) SM:=by
 refine⟨qV,λT M H u v x y Q e va d rv h k=> ?_⟩;cases y <;> first | exact h.elim|skip
 cases rv;refine⟨rfl, ?_⟩;rw[ZP d];exact k _ _ T H (.refl va.tp) (.bl _) h
def KG:Ea X (compareOp .IsNot) (λx y H Q=>y= .non/\Q (.bl (!decide (x= .non))) H)/\CN X.K (λx y H Q=>y= .non/\Q (.bl (!decide (x= .non))) H) Jo:=by
 refine⟨Ze,λT M H u v x y Q e va d rv h k=> ?_⟩;cases y <;> first | exact h.elim|skip
 cases rv;refine⟨rfl, ?_⟩;rw[ZP d];exact k _ _ T H (.refl va.tp) (.bl _) h
def Ai:IW:=λx y Q=>Mb x λxs=>UI y λi=>jS (Jf xs i) Q
def Yw {K:AAJ}(r:Az K T M H vs xs)(h:Jf xs i=some z):∃v,Jf vs i=some v/\B8 K T M H v z:=by
 unfold Jf at h ⊢;rw[r.length];cases e:ZQ xs.length i with
 | none=>rw[e] at h;cases h
 | some j=> rw[e] at h;exact r.get h
def vP (K:AAJ):R2:=λx y H Q=>vO K x y H Q\/vQ K x y H Q
def v5:je X (vP X.K)/\CN X.K (vP X.K) Ai:=by
 refine⟨FT.or pq,λT M H u v x y Q g va f rv h k=> ?_⟩;obtain⟨xs,hx,h1⟩:=GV h;obtain⟨i,rfl,h2⟩:=HL h1;cases rv.toI;obtain⟨z,e,q⟩:=qR h2;rcases hx with rfl|rfl
 .cases f with
  | tup hq r=> obtain⟨w,ew,d⟩:=Yw r e;exact .inr ⟨_,_,i,w,rfl,rfl,hq.sq,ew,k w z T H (.refl va.tp) d q⟩
 .cases f with
  | lst hq t m r=> obtain⟨w,ew,d⟩:=Yw r e;exact .inl ⟨_,_,i,w,rfl,rfl, .inl (.inl hq),ew,k w z T H (.refl va.tp) d q⟩
def UE (f:PV->(PV->Prop)->Prop)(ta:AE):AE:=λτ Q=>ta τ λx=>f x Q
def Jn (x:PV)(Q:PV->Prop):Prop:=UI x λi=>Q (.int (-i))
def EX (ha:SE X a ta):SE X (.UnaryOp .USub a pos) (UE Jn ta):=by obtain⟨t,p,s⟩:=ha;refine⟨_,vI sE p,λB T d τ H Q g e h k=>s B T d τ H _ _ e h λv x T1 H1 f r1 h1=> ?_⟩;obtain⟨i,rfl,q⟩:=HL h1;exact⟨i,r1.toI,k _ _ T1 H1 f (.int _) q⟩
def fN (x:PV)(Q:PV->Prop):Prop:=gY x λi=>Q (.bl (!i))
def YJ (ha:SE X a ta):SE X (.UnaryOp .Not a pos) (UE fN ta):=by obtain⟨t,p,s⟩:=ha;refine⟨_,qd p,λB T d τ H Q g e h k=>s B T d τ H _ _ e h λv x T1 H1 f r1 h1=> ?_⟩;obtain⟨i,rfl,q⟩:=S8 h1;exact⟨i,r1.toB,k _ _ T1 H1 f (.bl _) q⟩
def eT (ta tb:AE):AE:=λτ Q=>ta τ λx=>gY x λc=>if c=true then tb τ Q else Q (.bl false)
def xn (ta tb:AE):AE:=λτ Q=>ta τ λx=>gY x λc=>if c=true then Q (.bl true) else tb τ Q
def Tk {op}(h:SE X a ta):SE X (.BoolOp op [a] pos) ta:=let ⟨_,p,s⟩:=h;⟨_,qe p,s⟩
def YI {rest:km kd}(ha:SE X a ta)(hb:SE X (.BoolOp .And (b::rest) pos) tb):SE X (.BoolOp .And (a::b::rest) pos) (eT ta tb):=by
 obtain⟨t,p,s⟩:=ha;obtain⟨t',g,j⟩:=hb;refine⟨_,qb p g,λB T e τ H Q o f h k=>s B T e τ H _ _ f h λv x T1 H1 d r1 h1=> ?_⟩;obtain⟨i,rfl,q⟩:=S8 h1;refine⟨i,r1.toB, ?_⟩;cases i with
 | true=>rw[AAM rfl] at q ⊢;exact j B T1 e τ H1 _ _ (f.stp d) q λw y l m n r2 h2=>k w y l m (d.trans n) r2 h2
 | false=>rw[AAL AAY] at q ⊢;exact k _ _ T1 H1 d (.bl _) q
def vt {rest:km kd}(ha:SE X a ta)(hb:SE X (.BoolOp .Or (b::rest) pos) tb):SE X (.BoolOp .Or (a::b::rest) pos) (xn ta tb):=by
 obtain⟨t,p,s⟩:=ha;obtain⟨t',g,j⟩:=hb;refine⟨_,vH p g,λB T e τ H Q o f h k=>s B T e τ H _ _ f h λv x T1 H1 d r1 h1=> ?_⟩;obtain⟨i,rfl,q⟩:=S8 h1;refine⟨i,r1.toB, ?_⟩;cases i with
 | false=>rw[AAL AAY] at q ⊢;exact j B T1 e τ H1 _ _ (f.stp d) q λw y l m n r2 h2=>k w y l m (d.trans n) r2 h2
 | true=>rw[AAM rfl] at q ⊢;exact k _ _ T1 H1 d (.bl _) q
def As (ta:AE):AT:=λτ Q=>ta τ λx=>gY x Q
def Tu {t:TE}(s:Gr X.K t ta):Ni X.K (i4 t) (As ta):=λB T d τ H Q g e h k=>s B T d τ H _ _ e h λv x T1 H1 f r1 h1=>by obtain⟨i,rfl,q⟩:=S8 h1;exact⟨i,r1.toB,k _ T1 H1 f q⟩
def rW (d:Ea X (compareOp op) r/\CN X.K r f)(ha:SE X a ta)(hb:SE X b tb)(e:behindInMarks op b=false):Um X (.Compare a [op] [b] pos) (As (AY f ta tb)):=
 let ⟨_,p,s⟩:=ha;let ⟨_,g,h⟩:=hb;⟨_,Md d.1 p g e,Tu (Tr d.2 s h)⟩
def BR (h:SE X e ta)(he:∀whole,isTrue e X.env whole=(do let v <-whole;standAt e.pos;holding [v] (truthy v)):=by intro _;rfl):Um X e (As ta):=
 let ⟨_,p,s⟩:=h;⟨_,qo p he,Tu s⟩
def F2 (t:AT):AT:=λτ Q=>t τ λc=>Q (!c)
def Gm (t u:AT):AT:=λτ Q=>t τ λc=>if c=true then u τ Q else Q false
def R6 (t u:AT):AT:=λτ Q=>t τ λc=>if c=true then Q true else u τ Q
def FH (ha:Um X a tA):Um X (.UnaryOp .Not a pos) (F2 tA):=by obtain⟨t,p,s⟩:=ha;exact⟨_,ql p,λB T d τ H Q g e h k=>s B T d τ H _ _ e h λv T1 H1 f h1=>k _ T1 H1 f h1⟩
def Ek (ha:Um X a tA):SW X (.BoolOp .And [a] pos) tA:=let ⟨_,p,s⟩:=ha;⟨_,lu p,s⟩
def LX (ha:Um X a tA):SW X (.BoolOp .Or [a] pos) tA:=let ⟨_,p,s⟩:=ha;⟨_,qt p,s⟩
def Ge {rest:km kd}(ha:Um X a tA)(hb:SW X (.BoolOp .And (b::rest) pos) tB'):SW X (.BoolOp .And (a::b::rest) pos) (Gm tA tB'):=by
 obtain⟨t,p,s⟩:=ha;obtain⟨t',g,j⟩:=hb;refine⟨_,qr p g,λB T e τ H Q o f h k=>s B T e τ H _ _ f h λi T1 H1 d q=> ?_⟩;cases i with
 | true=>rw[AAM rfl] at q ⊢;exact j B T1 e τ H1 _ _ (f.stp d) q λb l m n h2=>k b l m (d.trans n) h2
 | false=>rw[AAL AAY] at q ⊢;exact k _ T1 H1 d q
def Ox {rest:km kd}(ha:Um X a tA)(hb:SW X (.BoolOp .Or (b::rest) pos) tB'):SW X (.BoolOp .Or (a::b::rest) pos) (R6 tA tB'):=by
 obtain⟨t,p,s⟩:=ha;obtain⟨t',g,j⟩:=hb;refine⟨_,vK p g,λB T e τ H Q o f h k=>s B T e τ H _ _ f h λi T1 H1 d q=> ?_⟩;cases i with
 | false=>rw[AAL AAY] at q ⊢;exact j B T1 e τ H1 _ _ (f.stp d) q λb l m n h2=>k b l m (d.trans n) h2
 | true=>rw[AAM rfl] at q ⊢;exact k _ T1 H1 d q
def JH (h:SW X a tA):Um X a tA:=let ⟨_,p,s⟩:=h;⟨_,p.pt,s⟩
def jl (t:AT)(ta tb:AE):AE:=λτ Q=>t τ λc=>if c=true then ta τ Q else tb τ Q
def Ol (hc:Um X c tA)(ha:SE X a ta)(hb:SE X b tb):SE X (.IfExp c a b pos) (jl tA ta tb):=by
 obtain⟨t,p,s⟩:=hc;obtain⟨t1,p1,e⟩:=ha;obtain⟨t2,p2,f⟩:=hb;refine⟨_,gt p p1 p2,λB T g τ H Q o j h k=>s B T g τ H _ _ j h λi T1 H1 d q=> ?_⟩;cases i with
 | true=>rw[AAM rfl] at q ⊢;exact e B T1 g τ H1 _ _ (j.stp d) q λw y l m n r2 h2=>k w y l m (d.trans n) r2 h2
 | false=>rw[AAL AAY] at q ⊢;exact f B T1 g τ H1 _ _ (j.stp d) q λw y l m n r2 h2=>k w y l m (d.trans n) r2 h2
def AM:AA:=λ_ Q=>Q []
def AB (ta:AE)(r:AA):AA:=λτ Q=>ta τ λx=>r τ λxs=>Q (x::xs)
def DV:SA X [] AM:=⟨_,D9,λB T e τ H Q f d h k=>k [] [] T H (.refl d.tp) .nil h⟩
def A5 (ha:SE X e ta)(j:SA X es r)(hs:starEach (e::es) X.env=(false,eval e X.env)::starEach es X.env:=by rfl):SA X (e::es) (AB ta r):=by obtain⟨t,p,s⟩:=ha;obtain⟨t',l,m⟩:=j;refine⟨_,Bj p l hs,λB T g τ H Q u d h k=>s B T g τ H _ _ d h λv x T1 H1 f r1 h1=> ?_⟩;exact m B T1 g τ H1 _ _ (d.stp f) h1 λvs xs n o i r2 h2=>k _ _ n o (f.trans i) (.cons (r1.stp i (d.stp f).va) r2) h2
def Ap (r:AA):AE:=λτ Q=>r τ λxs=>xs.length<=sizeLine/\Q (.tup xs)
def AW {x1}(h:SA X es r):SE X (.Tuple es x1 pos) (Ap r):=by obtain⟨t,p,s⟩:=h;refine⟨_,OP p,λB T f τ H Q g d h k=>s B T f τ H _ _ d h λvs xs T1 H1 e r1 h1=>⟨by rw[r1.length];exact h1.1,λq hq=> ?_⟩⟩;have l:=Cq.lay (o:= .tup vs) (d.stp e).tp hq;exact k _ _ T1 _ (e.trans l) (.tup (.inl Ad) (r1.stp l (d.stp e).va)) h1.2
def ET (r:AA):AA:=λτ Q=>r τ λxs=>xs.length<=sizeLine/\Q xs
def ZT {K:AAJ}{T:kf->Prop}{H:Hp}(f:SR K B T H d τ)(hq:H p=none)(r:Az K T (mt B d τ) H vs xs):Cq T H T (upd H p (.lst vs))/\SR K (B.add p) T (upd H p (.lst vs)) d τ/\¬T p/\Az K T (mt (B.add p) d τ) (upd H p (.lst vs)) vs xs:=by
 have l:=Cq.lay (o:= .lst vs) f.tp hq;have g:¬T p:=λz=>by obtain⟨o,e,_⟩:=(f.tp p z).mut;rw[hq] at e;cases e
 refine⟨l,f.add l hq Ad Ko.lst g,g,r.mv ⟨f.va,λb o t _ e=>l.keep b o t e,l.sub,λb n t=>t,λb n z=> ?_⟩⟩;rcases z with(z|z)|z
 .exact .inl z
 .subst z;exact absurd hq n
 .exact .inr z
def Bh (h:SA X es r):SF X (.List es pos) (ET r):=by obtain⟨t,p,s⟩:=h;refine⟨_,gu p,λB T g τ H Q j f h k=>s B T g τ H _ _ f h λvs xs T1 H1 d r1 h1=>⟨by rw[r1.length];exact h1.1,λq hq=> ?_⟩⟩;obtain⟨l,e,i,r2⟩:=ZT (f.stp d) hq r1;exact k q vs xs T1 _ (d.trans l) e (d.none hq) Ad i r2 h1.2
def G9 (r:AA):AE:=λτ Q=>r τ λxs=>Q (.lst xs)
def iY {t:TE}(s:eJ X.K t r):Gr X.K t (G9 r):=λB T g τ H Q u d h k=>s B T g τ H _ _ d h λp vs xs T1 H1 j f i hp l r1 h1=>by
 have n:¬Ch g τ p:=λo=>by obtain⟨_,e,_⟩:=d.ownH o;rw[i] at e;cases e
 have hb:¬B.M p:=λo=>by obtain⟨_,e,_⟩:=d.bm p o;rw[i] at e;cases e
 exact k _ _ T1 H1 j (.lst hp l (λz=>z.elim hb n) (r1.mv (.anti f.va λa m=>m.elim (λz=> .inl (.inl z)) .inr))) h1
def EB (h:SF X a r):SE X a (G9 r):=let ⟨_,p,s⟩:=h;⟨_,p,iY s⟩
def CA (K:AAJ)(n:Nat)(F:AF):Sp:=λvs H Q _=>∃(T M:kf->Prop) (xs:km PV) (e:PV->Prop),Gs T M H/\(∀a,M a->¬T a)/\Az K T M H vs xs/\xs.length=n/\F xs e/\
 ∀v x f d,Cq T H f d->B8 K f M d v x->e x->Q v d
def AN (n:Nat)(F:AF)(r:AA):AE:=λτ Q=>r τ λxs=>xs.length=n/\F xs Q
def AK {e:kd}{k:Nat}(D:Has X.prog X.w X.K X.mg X.base k x ps (CA X.K n F))(g:Room k X.A)(i:Gl X x)(ha:SA X (e::es) r)(hs:starEach (e::es) X.env=(false,eval e X.env)::starEach es X.env:=by rfl)(hpl:(backTo pos (starEach es X.env)).any (·.1)=false:=by rfl)(hd:(x==("__debug__" :Str))=false:=by decide):SE X (.Call (.Name x p) (e::es) [] pos) (AN n F r):=by obtain⟨t,j,s⟩:=ha;refine⟨_,qc D g i j hs hpl hd,λB T l τ H Q o d h k=>s B T l τ H _ _ d h λvs xs T1 H1 f r1 h1=> ?_⟩;rw[AEU];exact⟨T1,_,xs,o,(d.stp f).va,λa m=>(d.stp f).nt m,r1,h1.1,h1.2,λv x u y z r2 q=>k v x u y (f.trans z) r2 q⟩
def Hj (f:AF)(r:AA):AE:=λτ Q=>r τ λxs=>f xs Q
def iX {t:TA}(i:G8 X.K d f)(s:oY X.K t r):Gr X.K (y7 d t) (Hj f r):=λB T j τ H Q l e h k=>s B T j τ H _ _ e h λvs xs T1 H1 g r1 h1=>
 i T1 _ H1 vs xs Q l (e.stp g).va r1 h1 λw z m n o r2 q=>k w z m n (g.trans o) r2 q
def BX {id:String}{e:kd}{d:km V->Hp->VK->Prop}(hc:C8 X (.builtin id) d/\G8 X.K d f)(g:Gl X x)(h:X.mg x=none)(hv:bootBuiltins x=some (.builtin id))(ha:SA X (e::es) r)(i:x≠"__name__" :=by decide)(hdb:(x==("__debug__" :Str))=false:=by decide)(he:starEach (e::es) X.env=(false,eval e X.env)::starEach es X.env:=by rfl)(hpl:(backTo pos (starEach es X.env)).any (·.1)=false:=by rfl):SE X (.Call (.Name x p) (e::es) [] pos) (Hj f r):=by obtain⟨t,j,s⟩:=ha;exact⟨_,HN hc.1 g h hv j i hdb he hpl,iX hc.2 s⟩
def Bt {e:kd}(hc:C8 X (.type T) d/\G8 X.K d f)(g:Gl X x)(h:X.mg x=none)(hv:bootBuiltins x=some (.type T))(ha:SA X (e::es) r)(i:x≠"__name__" :=by decide)(hdb:(x==("__debug__" :Str))=false:=by decide)(he:starEach (e::es) X.env=(false,eval e X.env)::starEach es X.env:=by rfl)(hpl:(backTo pos (starEach es X.env)).any (·.1)=false:=by rfl):SE X (.Call (.Name x p) (e::es) [] pos) (Hj f r):=by obtain⟨t,j,s⟩:=ha;exact⟨_,F7 hc.1 g h hv j i hdb he hpl,iX hc.2 s⟩
end
section
variable {X:Cx}
def FE {K:AAJ}(r:B8 K T M H v (.tup xs)):∃a vs,v= .ref a/\Nj K H a vs/\Az K T M H vs xs:=by
 cases r with
 | tup h r=>exact⟨_,_,rfl,h.sq,r⟩
def ic {K:AAJ}(r:B8 K T M H v (.tup xs)):∃a vs,v= .ref a/\we K H a vs/\Az K T M H vs xs:=by
 cases r with
 | tup h r=>exact⟨_,_,rfl,h,r⟩
def Dt {K:AAJ}{T M:kf->Prop}{H:Hp}(r:B8 K T M H v (.lst xs)):∃a vs,v= .ref a/\H a=some (.lst vs)/\¬T a/\¬M a/\Az K T M H vs xs:=by
 cases r with
 | lst h t m r=>exact⟨_,_,rfl,h,t,m,r⟩
def iQ {K:AAJ}(r:B8 K T M H v (.scr b)):∃a,v= .ref a/\GH K H a (b.map V.int):=by
 cases r with
 | scr h=>
   rcases h with⟨h,_,_⟩|h
   .exact ⟨_,rfl, .inl h⟩
   .exact ⟨_,rfl,h H⟩
def Ib:AF:=λxs Q=>match xs with | [.tup ys] =>Q (.int ys.length) | [.lst ys] =>Q (.int ys.length) | [.scr ns] =>Q (.int ns.length)|_=>False
def vR (K:AAJ):km V->Hp->VK->Prop:=λxs H Q=>∃p ys,xs= [.ref p] /\(GH K H p ys\/Nj K H p ys)/\Q (.int ys.length) H
def Hd:C8 X (.builtin "len") (vR X.K)/\G8 X.K (vR X.K) Ib:=by
 refine⟨Ji,λT M H b xs Q c va r h k=> ?_⟩;unfold Ib at h;split at h <;> first | exact h.elim|skip
 .rename_i ys;cases r with | cons r t=>cases t;obtain⟨a,vs,rfl,hq,r⟩:=FE r;refine⟨a,vs,rfl, .inr hq, ?_⟩;rw[r.length];exact k _ _ T H (.refl va.tp) (.int _) h
 .rename_i ys;cases r with | cons r t=>cases t;obtain⟨a,vs,rfl,hq,_,_,r⟩:=Dt r;refine⟨a,vs,rfl, .inl (.inl (.inl hq)), ?_⟩;rw[r.length];exact k _ _ T H (.refl va.tp) (.int _) h
 .rename_i d;cases r with | cons r t=>cases t;obtain⟨a,rfl,hq⟩:=iQ r;refine⟨a,_,rfl, .inl hq, ?_⟩;rw[AAT];exact k _ _ T H (.refl va.tp) (.int _) h
def U6:AF:=λxs Q=>match xs with | [.int i] =>Q (.int i.natAbs)|_=>False
def Oh:C8 X (.builtin "abs") (λxs H Q=>∃i,xs= [.int i] /\Q (.int (if i<0 then -i else i)) H)/\G8 X.K (λxs H Q=>∃i,xs= [.int i] /\Q (.int (if i<0 then -i else i)) H) U6:=by
 refine⟨Nr,λT M H a xs Q b va r h k=> ?_⟩;unfold U6 at h;split at h <;> first | exact h.elim|skip
 rename_i i;cases r with
 | cons r t=> cases t;cases r;refine⟨i,rfl, ?_⟩;rw[show (if i<0 then -i else i)=(i.natAbs:Int) by split <;> omega];exact k _ _ T H (.refl va.tp) (.int _) h
def pN (g:Int->Int->Int):AF:=λxs Q=>match xs with | [.int i, .int j] =>Q (.int (g i j))|_=>False
def iW {g g':Int->Int->Int}(a:∀i j,g i j=g' i j):G8 X.K (λxs H Q=>∃i j,xs= [.int i, .int j] /\Q (.int (g i j)) H) (pN g'):=by
 intro T M H b xs Q c va r h k;unfold pN at h;split at h <;> first | exact h.elim|skip
 rename_i i j;cases r with
 | cons r t=>
   cases t with
   | cons r2 t=> cases t;cases r;cases r2;refine⟨i,j,rfl, ?_⟩;rw[a];exact k _ _ T H (.refl va.tp) (.int _) h
def rE (hc:X.calm=true):C8 X (.builtin "min") (λxs H Q=>∃i j,xs= [.int i, .int j] /\Q (.int (if j<i then j else i)) H)/\G8 X.K (λxs H Q=>∃i j,xs= [.int i, .int j] /\Q (.int (if j<i then j else i)) H) (pN min):=
 ⟨ao hc,iW λi j=>by split <;> omega⟩
def rD (hc:X.calm=true):C8 X (.builtin "max") (λxs H Q=>∃i j,xs= [.int i, .int j] /\Q (.int (if j>i then j else i)) H)/\G8 X.K (λxs H Q=>∃i j,xs= [.int i, .int j] /\Q (.int (if j>i then j else i)) H) (pN max):=
 ⟨am hc,iW λi j=>by split <;> omega⟩
def pO:AF:=λxs Q=>match xs with | [.int i] =>Q (.int i) | [.bl k] =>Q (.int (if k then 1 else 0))|_=>False
def rC:C8 X (.type "int") (λxs H Q=>(∃i,xs= [.int i] /\Q (.int i) H)\/∃k,xs= [.bl k] /\Q (.int (if k then 1 else 0)) H)/\G8 X.K (λxs H Q=>(∃i,xs= [.int i] /\Q (.int i) H)\/∃k,xs= [.bl k] /\Q (.int (if k then 1 else 0)) H) pO:=by
 refine⟨Qj,λT M H a xs Q b va r h k=> ?_⟩;unfold pO at h;split at h <;> first | exact h.elim|skip
 .cases r with | cons r t=>cases t;cases r;exact .inl ⟨_,rfl,k _ _ T H (.refl va.tp) (.int _) h⟩
 .cases r with | cons r t=>cases t;cases r;exact .inr ⟨_,rfl,k _ _ T H (.refl va.tp) (.int _) h⟩
def DP:AF:=λxs Q=>match xs with | [.tup ys] =>Q (.tup ys) | [.lst ys] =>Q (.tup ys)|_=>False
def iD (K:AAJ):km V->Hp->VK->Prop:=λxs H Q=>∃p ys,xs= [.ref p] /\((GH K H p ys/\∀l,H l=none->Q (.ref l) (upd H l (.tup ys)))\/(Nj K H p ys/\Q (.ref p) H))
def Cu:C8 X (.type "tuple") (iD X.K)/\G8 X.K (iD X.K) DP:=by
 refine⟨Pp,λT M H c xs Q d va r h k=> ?_⟩;unfold DP at h;split at h <;> first | exact h.elim|skip
 .cases r with | cons r t=>cases t;obtain⟨a,vs,rfl,hq,b⟩:=ic r;exact⟨a,vs,rfl, .inr ⟨hq.sq,k _ _ T H (.refl va.tp) (.tup hq b) h⟩⟩
 .cases r with
  | cons r t=> cases t;obtain⟨a,vs,rfl,hq,_,_,b⟩:=Dt r;refine⟨a,vs,rfl, .inl ⟨.inl (.inl hq),λl hl=> ?_⟩⟩;have s:=Cq.lay (o:= .tup vs) va.tp hl;exact k _ _ T _ s (.tup (.inl Ad) (b.stp s va)) h
noncomputable def iN:PV->PV->ke kc
 | .non, .non=>some true | .non, .int _=>some false | .int _, .non=>some false | .non, .bl _=>some false | .bl _, .non=>some false | .non, .str _=>some false | .str _, .non=>some false
 | .int i, .int j=>some (decide (i=j)) | .bl i, .bl j=>some (decide (i=j)) | .str i, .str j=>some (decide (i=j))
 | .int _, .str _=>some false | .str _, .int _=>some false | .bl _, .str _=>some false | .str _, .bl _=>some false
 | _,_=>none
def WD {K:AAJ}{y:PV}(r:B8 K T M H u x)(r2:B8 K T M H v y)(e:iN x y=some b):rF u v=true/\decide (u=v)=b:=by cases r <;> cases r2 <;> first | (cases e;done)|(cases e;exact⟨rfl,rfl⟩)|(cases e;exact⟨rfl,!2⟩)
end
structure Gu where
 nx:A4->Prop
 rt:PV->Prop
 bk:A4->Prop
 ct:A4->Prop
abbrev AS:=Gu->A4->Prop
structure Fc (T:Addr->Prop) (H:Hp) (σ:L2.St) (τ:A4) (T':Addr->Prop) (H':Hp) (σ':L2.St) (τ':A4):Prop where
 keep:∀b o,¬T b->¬Ch σ τ b->H b=some o->H' b=some o
 sub:∀b,T b->T' b
 new:∀b,T' b->T b\/H b=none
 own:∀b,Ch σ' τ' b->Ch σ τ b\/H b=none
 some:∀b,H b≠none->H' b≠none
section
variable {K:AAJ}{B:C0}{T T' T1 T2:kf->Prop}{H H' H1 H2:Hp}{σ σ' σ1 σ2:L2.St}{τ τ' τ1 τ2:A4}
def Fc.refl:Fc T H σ τ T H σ τ:=⟨λ_ _ _ _ e=>e,λ_ t=>t,λ_ t=> .inl t,λ_ o=> .inl o,λ_ h=>h⟩
def Fc.trans (a:Fc T H σ τ T1 H1 σ1 τ1)(b:Fc T1 H1 σ1 τ1 T2 H2 σ2 τ2):Fc T H σ τ T2 H2 σ2 τ2 where
 keep:=λc o t w e=>b.keep c o (λz=>(a.new c z).elim t λn=>by rw[n] at e;cases e) (λz=>(a.own c z).elim w λn=>by rw[n] at e;cases e) (a.keep c o t w e)
 sub:=λc t=>b.sub c (a.sub c t)
 new:=λc t=>(b.new c t).elim (λz=>a.new c z) λz=> .inr (by
  cases e:H c with
  | none=>rfl
  | some o=>exact absurd z (a.some c (by rw[e];exact λe=>nomatch e)))
 own:=λc t=>(b.own c t).elim (λz=>a.own c z) λz=> .inr (by
  cases e:H c with
  | none=>rfl
  | some o=>exact absurd z (a.some c (by rw[e];exact λe=>nomatch e)))
 some:=λc h=>b.some c (a.some c h)
def Cq.prog (s:Cq T H T' H'):Fc T H σ τ T' H' σ τ:=⟨λb o t _ e=>s.keep b o t e,s.sub,s.new,λ_ o=> .inl o,λ_ h=>s.some h⟩
def Fc.less (h:∀b,Ch σ' τ' b->Ch σ τ b):Fc T H σ τ T H σ' τ':=⟨λ_ _ _ _ e=>e,λ_ t=>t,λ_ t=> .inl t,λb o=> .inl (h b o),λ_ h=>h⟩
structure ER (K:AAJ) (B:C0) (T:Addr->Prop) (H:Hp) (σ:L2.St) (τ:A4) (D:L6) (AD:Gu):Prop where
 nx:∀T' H' σ' τ',Fc T H σ τ T' H' σ' τ'->SR K B T' H' σ' τ'->AD.nx τ'->D.nx σ' H'
 bk:∀T' H' σ' τ',Fc T H σ τ T' H' σ' τ'->SR K B T' H' σ' τ'->AD.bk τ'->D.bk σ' H'
 ct:∀T' H' σ' τ',Fc T H σ τ T' H' σ' τ'->SR K B T' H' σ' τ'->AD.ct τ'->D.ct σ' H'
 rt:∀v x T' H',Cq B.T B.H T' H'->B8 K T' B.M H' v x->AD.rt x->D.rt v H'
def ER.shift (e:ER K B T H σ τ D a)(p:Fc T H σ τ T1 H1 σ1 τ1):ER K B T1 H1 σ1 τ1 D a:=
 ⟨λ_ _ _ _ q=>e.nx _ _ _ _ (p.trans q),λ_ _ _ _ q=>e.bk _ _ _ _ (p.trans q),λ_ _ _ _ q=>e.ct _ _ _ _ (p.trans q),e.rt⟩
end
def eM (K:AAJ)(t:TS)(a:AS):Prop:=∀(B:C0) (T:kf->Prop) (b:L2.St) (τ:A4) (H:Hp) (D:L6) (c:Gu),SR K B T H b τ->a c τ->ER K B T H b τ D c->t D b H
def SS (X:Cx)(st:Stmt)(a:AS):Prop:=∃t,PS X st t/\eM X.K t a
def ab (X:Cx)(st:km Stmt)(a:AS):Prop:=∃t,Ul X st t/\eM X.K t a
def BJ {a:Type}{l:km a}{i j:Nat}{x y:a}(h:(l.set i x)[j]? =some y):(j=i/\y=x/\i<l.length)\/(j≠i/\l[j]? =some y):=by
 by_cases e:j=i
 .subst e;rw[AFE] at h;simp at h;obtain⟨h1,h2⟩:=h;exact .inl ⟨rfl,h2.symm,h1⟩
 .rw [AAs (λz=>e z.symm)] at h;exact .inr ⟨e,h⟩
section
variable {K:AAJ}{B:C0}{T:kf->Prop}{H:Hp}{σ:L2.St}{τ:A4}
def Ct (h:Ch (σ.set i (some v)) (τ.set i (some (.val x))) b):Ch σ τ b:=by
 obtain⟨j,xs,h1,h2⟩:=h;rcases BJ h1 with⟨_,e,_⟩|⟨n,a⟩
 .cases e
 .rw [AAs (λz=>n z.symm)] at h2;exact⟨j,xs,a,h2⟩
def SR.set (s:SR K B T H σ τ)(r:B8 K T (mt B σ τ) H v x):SR K B T H (σ.set i (some v)) (τ.set i (some (.val x))):=by
 have c:Mv K T (mt B σ τ) H T (mt B (σ.set i (some v)) (τ.set i (some (.val x)))) H:= .anti s.va λa m=>m.elim .inl λz=> .inr (Ct z);refine⟨by simp[s.len],λj y e=> ?_,λj ys e=> ?_,λj k ys o p t u h l=> ?_,s.tp,s.bm,s.bt,s.st⟩
 .rcases BJ e with⟨rfl,b,hl⟩|⟨n,b⟩
  .cases b;refine⟨v,by rw[AFE];simp[s.len,hl],r.mv c⟩
  .obtain ⟨w,hw,d⟩:=s.val j y b;exact⟨w,by rw[AAs (λz=>n z.symm)];exact hw,d.mv c⟩
 .rcases BJ e with⟨_,b,_⟩|⟨n,b⟩
  .cases b
  .obtain ⟨p,vs,h1,h2,h3,A⟩:=s.own j ys b;exact⟨p,vs,by rw[AAs (λz=>n z.symm)];exact h1,h2,h3.mv c,A⟩
 .rcases BJ t with⟨_,b,_⟩|⟨n,f⟩
  .cases b
  .rcases BJ u with⟨_,b,_⟩|⟨C,g⟩
   .cases b
   .rw [AAs (λz=>n z.symm)] at h;rw[AAs (λz=>C z.symm)] at l;exact s.dist j k ys o p f g h l
def Lm (h:Ch (σ.set i (some (.ref p))) (τ.set i (some (.own xs))) b):Ch σ τ b\/b=p:=by
 obtain⟨j,ys,h1,h2⟩:=h;rcases BJ h1 with⟨rfl,e,_⟩|⟨n,a⟩
 .rcases BJ h2 with⟨_,c,_⟩|⟨n,_⟩
  .cases c;exact .inr rfl
  .exact absurd rfl n
 .rw [AAs (λz=>n z.symm)] at h2;exact .inl ⟨j,ys,a,h2⟩
def SR.take (s:SR K (B.add p) T H σ τ)(hp:H p=some (.lst vs))(C:¬T p)(u:¬Ch σ τ p)(D:¬B.M p)(E:B.H p=none)(r:Az K T (mt (B.add p) σ τ) H vs xs):SR K B T H (σ.set i (some (.ref p))) (τ.set i (some (.own xs))):=by
 have h:Mv K T (mt (B.add p) σ τ) H T (mt B (σ.set i (some (.ref p))) (τ.set i (some (.own xs)))) H:= .anti s.va λa m=>by
  rcases m with m|m
  .exact .inl (.inl m)
  .rcases Lm m with z|z
   .exact .inr z
   .exact .inl (.inr z)
 refine⟨by simp[s.len],λj y e=> ?_,λj ys e=> ?_,λj k ys v q F x g d=> ?_,s.tp,λa m=>s.bm a (.inl m),λa m=>s.bt a (.inl m),s.st⟩
 .rcases BJ e with⟨_,b,_⟩|⟨n,b⟩
  .cases b
  .obtain ⟨w,hw,l⟩:=s.val j y b;exact⟨w,by rw[AAs (λz=>n z.symm)];exact hw,l.mv h⟩
 .rcases BJ e with⟨rfl,b,hl⟩|⟨n,b⟩
  .cases b;exact⟨p,vs,by rw[AFE];simp[s.len,hl],hp,r.mv h,E,C,D⟩
  .obtain ⟨q,G,h1,h2,h3,I,J,L⟩:=s.own j ys b;exact⟨q,G,by rw[AAs (λz=>n z.symm)];exact h1,h2,h3.mv h,I,J,λz=>L (.inl z)⟩
 .rcases BJ F with⟨A,_,_⟩|⟨n,f⟩
  .rcases BJ x with⟨o,_,_⟩|⟨t,c⟩
   .rw [A,o]
   .subst A;rw[AAs (λz=>t z.symm)] at d;rcases BJ g with⟨_,b,_⟩|⟨n,_⟩
    .cases b;exact absurd ⟨k,v,c,d⟩ u
    .exact absurd rfl n
  .rw [AAs (λz=>n z.symm)] at g;rcases BJ x with⟨o,_,_⟩|⟨t,c⟩
   .subst o;rcases BJ d with⟨_,b,_⟩|⟨n,_⟩
    .cases b;exact absurd ⟨j,ys,f,g⟩ u
    .exact absurd rfl n
   .rw [AAs (λz=>t z.symm)] at d;exact s.dist j k ys v q f c g d
def SR.write {i:Nat}(s:SR K B T H σ τ)(g:τ[i]? =some (some (.own xs)))(hs:σ[i]? =some (some (.ref p)))(hp:H p=some (.lst M))(r:Az K T (mt B σ τ) H vs ys):SR K B T (upd H p (.lst vs)) σ (τ.set i (some (.own ys)))/\Fc T H σ τ T (upd H p (.lst vs)) σ (τ.set i (some (.own ys))):=by
 obtain⟨Q,N,G,R,S,I,D,J⟩:=s.own i xs g;rw[hs] at G;cases G;have U:σ.set i (some (.ref p))=σ:=by
  apply List.ext_getElem?;intro k;by_cases hk:i=k
  .subst hk;rw[AFE,hs];simp[(AB8.mp hs).1]
  .rw [AAs hk]
 have l:Ch σ τ p:=⟨i,xs,g,hs⟩;have L:∀b,Ch σ (τ.set i (some (.own ys))) b->Ch σ τ b:=λb h=>by
  obtain⟨j,f,h1,h2⟩:=h;rcases BJ h1 with⟨rfl,e,_⟩|⟨n,A⟩
  .exact ⟨j,xs,g,h2⟩
  .exact ⟨j,f,A,h2⟩
 have E:Mv K T (mt B σ τ) H T (mt B σ (τ.set i (some (.own ys)))) (upd H p (.lst vs)):=⟨s.va,λb o _ m e=>by
  rw[Ae (λz=>m (by subst z;exact .inr l))];exact e,λ_ t=>t,λ_ _ t=>t,λb _ m=>m.elim .inl λz=> .inr (L b z)⟩
 refine⟨⟨by simp[s.len],λj y e=> ?_,λj f e=> ?_,λj k f C q h1 h2 h3 u=> ?_,λa t=> ?_,λa m=> ?_,s.bt, ?_⟩,⟨λb o t w e=>by rw[Ae (λz=>w (by subst z;exact l))];exact e,λ_ t=>t,λ_ t=> .inl t,λb o=> .inl (L b o),λb h=> ?_⟩⟩
 .rcases BJ e with⟨_,c,_⟩|⟨n,c⟩
  .cases c
  .obtain ⟨v,h,O⟩:=s.val j y c;exact⟨v,h,O.mv E⟩
 .rcases BJ e with⟨rfl,c,_⟩|⟨n,c⟩
  .cases c;exact⟨p,vs,hs,Ad,r.mv E,I,D,J⟩
  .obtain ⟨q,C,h1,h2,h3,u⟩:=s.own j f c;have hq:q≠p:=λz=>by subst z;exact n (s.dist j i f xs q c g h1 hs)
   exact⟨q,C,h1,by rw[Ae hq];exact h2,h3.mv E,u⟩
 .rcases BJ h1 with⟨rfl,_,_⟩|⟨n,A⟩
  .rcases BJ h2 with⟨rfl,_,_⟩|⟨P,F⟩
   .rfl
   .exact s.dist _ k xs C q g F h3 u
  .rcases BJ h2 with⟨rfl,_,_⟩|⟨P,F⟩
   .exact s.dist j _ f xs q A g h3 u
   .exact s.dist j k f C q A F h3 u
 .obtain ⟨d,x,e,z⟩:=s.tp a t;exact⟨d,x,by rw[Ae (λw=>by subst w;exact D t)];exact e,z⟩
 .obtain ⟨o,e,z⟩:=s.bm a m;exact⟨o,by rw[Ae (λw=>by subst w;exact J m)];exact e,z⟩
 .refine ⟨λb o t e=> ?_,s.st.sub,s.st.new,λa t=> ?_⟩
  .rw [Ae (λw=>by subst w;rw[I] at e;cases e)];exact s.st.keep b o t e
  .obtain ⟨d,x,e,z⟩:=s.tp a t;exact⟨d,x,by rw[Ae (λw=>by subst w;exact D t)];exact e,z⟩
 .by_cases z:b=p
  .subst z;rw[Ad];exact λe=>nomatch e
  .rw [Ae z];exact h
end
section
variable {X:Cx}{st:Stmt}{rest:km Stmt}{e:kd}{pos:Pos}{a b:AS}{ta:AE}
def eU (ta:AE):AE:=λτ Q=>ta (frz τ) λx=>gO x=true/\Q x
def iR (h:SE X e ta):SE X e (eU ta):=by obtain⟨t,p,s⟩:=h;refine⟨t,p,λB T c τ H Q g d h k=>s B T c (frz τ) H _ _ d.frz h λv x T1 H1 f r1 h1=> ?_⟩;exact k v x T1 H1 f (r1.free h1.1) h1.2
def Yt (c:AT):AT:=λτ Q=>c (frz τ) Q
def rT (h:Um X e c):Um X e (Yt c):=by obtain⟨t,p,s⟩:=h;exact⟨t,p,λB T d τ H Q i f h k=>s B T d (frz τ) H _ _ f.frz h λb T1 H1 g h1=>k b T1 H1 g h1⟩
def BD:AS:=λD τ=>D.nx τ
def Aa (a b:AS):AS:=λD τ=>a {D with nx:=b D} τ
def Ay:ab X [] BD:=⟨_,Mc,λB T c τ H D g d h f=>f.nx T H c τ .refl d h⟩
def AL (h1:SS X st a)(h2:ab X rest b):ab X (st::rest) (Aa a b):=by obtain⟨t,p,s⟩:=h1;obtain⟨t',f,g⟩:=h2;exact⟨_,BW p f,λB T i τ H D j k h c=>s B T i τ H _ _ k h ⟨λl m σ' τ' q d h'=>g B l σ' τ' m D j d h' (c.shift q),c.bk,c.ct,c.rt⟩⟩
def AR (h1:SS X st a):ab X [st] a:=let ⟨_,p,s⟩:=h1;⟨_,Ej p,s⟩
def Aq (ta:AE):AS:=λD τ=>ta (frz τ) D.rt
def AX (h:SE X e ta):SS X (.Return (some e) pos) (Aq ta):=by obtain⟨t,p,s⟩:=h;refine⟨_,OT p,λB T f τ H D i c h g=>s B T f (frz τ) H _ _ c.frz h λv x T1 H1 d r1 h1=> ?_⟩;exact g.rt v x T1 H1 (c.st.trans d) (r1.mv (.anti (c.frz.stp d).va λa m=> .inl m)) h1
def Bf (c:AT)(a b:AS):AS:=λD τ=>c τ λk=>if k=true then a D τ else b D τ
def A9 {y:km Stmt}(hc:Um X c l)(ha:ab X x a)(hb:ab X y b):SS X (.If c x y pos) (Bf l a b):=by
 obtain⟨t,p,s⟩:=hc;obtain⟨t1,p1,f⟩:=ha;obtain⟨t2,p2,g⟩:=hb;refine⟨_,Zk p p1 p2,λB T i τ H D m j h n=>s B T i τ H _ _ j h λk T1 H1 d h1=> ?_⟩;cases k with
 | true=>rw[AAM rfl] at h1 ⊢;exact f B T1 i τ H1 D m (j.stp d) h1 (n.shift d.prog)
 | false=>rw[AAL AAY] at h1 ⊢;exact g B T1 i τ H1 D m (j.stp d) h1 (n.shift d.prog)
abbrev AG:=PV->A4->(A4->Prop)->Prop
abbrev Wa:=km PV->A4->(A4->Prop)->Prop
def Kr (K:AAJ)(g:TG)(ag:AG):Prop:=∀(B:C0) (T:kf->Prop) (c:L2.St) (τ:A4) (H:Hp) (v:V) (x:PV) (Q:L2.St->Hp->Prop) (d:A4->Prop),SR K B T H c τ->B8 K T (mt B c τ) H v x->ag x τ d->
 (∀σ' τ',SR K B T H σ' τ'->(∀b,Ch σ' τ' b->Ch c τ b)->d τ'->Q σ' H)->g v c H Q
def Qa (K:AAJ)(g:Wq)(ag:Wa):Prop:=∀(B:C0) (T:kf->Prop) (c:L2.St) (τ:A4) (H:Hp) (vs:km V) (xs:km PV) (Q:L2.St->Hp->Prop) (d:A4->Prop),SR K B T H c τ->Az K T (mt B c τ) H vs xs->ag xs τ d->
 (∀σ' τ',SR K B T H σ' τ'->(∀b,Ch σ' τ' b->Ch c τ b)->d τ'->Q σ' H)->g vs c H Q
def SG (X:Cx)(c:kd)(ag:AG):Prop:=∃g,PG X c g/\Kr X.K g ag
def wY (X:Cx)(c:km kd)(ag:Wa):Prop:=∃g,sP X c g/\Qa X.K g ag
def Ak (i:Nat):AG:=λx τ Q=>Q (τ.set i (some (.val x)))
def Tp {K:AAJ}:Kr K (BV i) (Ak i):=λB T d τ H v x Q f c r h k=>k _ _ (c.set r) (λb o=>Ct o) h
def Tn {i:Nat}(hN:X.N.Nodup)(hi:X.N[i]? =some x)(hx:Loc X.env.scope x)(c:X.fn x=true\/X.env.scope.names.lookup x=some .local:=by first | exact .inl rfl|exact .inr rfl|assumption):SG X (.Name x pos) (Ak i):=
 ⟨_,Eh hN hi hx c,Tp⟩
def BP:Wa:=λxs τ Q=>match xs with | [] =>Q τ|_=>False
def Ab (g:AG)(r:Wa):Wa:=λxs τ Q=>match xs with | x::t=>g x τ λτ'=>r t τ' Q | [] =>False
def WH {K:AAJ}:Qa K MD BP:=λB T c τ H vs xs Q f d r h k=>by
 cases r with
 | nil=>exact⟨rfl,k c τ d (λ_ o=>o) h⟩
 | cons _ _=>exact h.elim
def RE {K:AAJ}(h1:Kr K g ag)(h2:Qa K p c):Qa K (C3 g p) (Ab ag c):=λB T v τ H vs xs Q w s r h k=>by
 cases r with
 | nil=>exact h.elim
 | cons r t=> refine⟨_,_,rfl,h1 B T v τ H _ _ _ _ s r h λd f i u x=> ?_⟩;exact h2 B T d f H _ _ Q w i (t.mv (.anti s.va λa m=>m.elim .inl λz=> .inr (u a z))) x λj l n y A=>k j l n (λb o=>u b (y b o)) A
def BL:wY X [] BP:=⟨_,J3,WH⟩
def AZ (h1:SG X e ag)(h2:wY X es c)(hs:(assignEach (e::es) X.env).map (·.2)=assign e X.env::(assignEach es X.env).map (·.2):=by rfl):wY X (e::es) (Ab ag c):=
 let ⟨_,p,s⟩:=h1;let ⟨_,d,f⟩:=h2;⟨_,Dm p d hs,RE s f⟩
def Aj (ta:AE)(g:AG):AS:=λD τ=>ta τ λx=>g x τ D.nx
def To {K:AAJ}{t:TE}(s:Gr K t ta)(l:Kr K g ag):eM K (QF t g) (Aj ta ag):=λB T i τ H D p j h m=>s B T i τ H _ _ j h λv x T1 H1 k r1 h1=>
 l B T1 i τ H1 v x _ _ (j.stp k) r1 h1 λc d f n o=>m.nx T1 H1 c d (k.prog.trans (.less n)) f o
def EY (he:SE X e ta)(d:SG X c ag)(hs:swapsWithSole [c] e pos.line X.env=pure false:=by rfl)(hw:swappedStores [c] e X.env=pure none:=by rfl)(h1:(assignEach [c] X.env).map (·.2)= [assign c X.env] :=by rfl):SS X (.Assign [c] e pos) (Aj ta ag):=
 let ⟨_,p,s⟩:=he;let ⟨_,f,g⟩:=d;⟨_,TH p f hs hw h1,To s g⟩
def FG {i:Nat}(hN:X.N.Nodup)(hi:X.N[i]? =some x)(hx:Loc X.env.scope x)(he:SE X e ta)(hs:swapsWith e (some (.Name x pos')) pos.line X.env=pure false:=by rfl)(c:X.fn x=true\/X.env.scope.names.lookup x=some .local:=by first | exact .inl rfl|exact .inr rfl|assumption):SS X (.Assign [.Name x pos'] e pos) (Aj ta (Ak i)):=let ⟨_,p,s⟩:=he;⟨_,Fh hN hi hx p hs c,To s Tp⟩
def HA (r:AA)(i:Nat):AS:=λD τ=>r τ λxs=>D.nx (τ.set i (some (.own xs)))
def Zy {K:AAJ}{t:TE}(s:eJ K t r):eM K (QF t (BV i)) (HA r i):=λB T j τ H D u c h k=>s B T j τ H _ _ c h λp vs xs T1 H1 d g f hp l r1 h1=>by
 have m:¬Ch j τ p:=λo=>by obtain⟨_,e,_⟩:=c.ownH o;rw[f] at e;cases e
 have n:¬B.M p:=λo=>by obtain⟨_,e,_⟩:=c.bm p o;rw[f] at e;cases e
 refine k.nx T1 H1 _ _ ⟨λb o t _ e=>d.keep b o t e,d.sub,d.new,λb o=> ?_,λb h=>d.some h⟩ (g.take hp l m n (c.st.none f) r1) h1;rcases Lm o with z|z
 .exact .inl z
 .subst z;exact .inr f
def FF {i:Nat}(hN:X.N.Nodup)(hi:X.N[i]? =some x)(hx:Loc X.env.scope x)(he:SF X e r)(hs:swapsWith e (some (.Name x pos')) pos.line X.env=pure false:=by rfl)(c:X.fn x=true\/X.env.scope.names.lookup x=some .local:=by first | exact .inl rfl|exact .inr rfl|assumption):SS X (.Assign [.Name x pos'] e pos) (HA r i):=let ⟨_,p,s⟩:=he;⟨_,Fh hN hi hx p hs c,Zy s⟩
def af (i j:Nat)(r:AA):AS:=λD τ=>r τ λxs=>match xs with | [x,y] =>D.nx ((τ.set i (some (.val x))).set j (some (.val y)))|_=>False
def YR {i j:Nat}{y:Str}{c d:kd}{k:Pos}{kt k2 pt2}(hc:X.calm=true)(hN:X.N.Nodup)(hi:X.N[i]? =some x)(hj:X.N[j]? =some y)(v:i≠j)(hx:X.env.scope.names.lookup x=some .local)(hy:X.env.scope.names.lookup y=some .local)(ha:SA X [c,d] r)(hw:swappedStores [.Tuple [.Name x g, .Name y k] kt l] (.Tuple [c,d] k2 pt2) X.env=pure (some [x,y]))(hs:swapsWithSole [.Tuple [.Name x g, .Name y k] kt l] (.Tuple [c,d] k2 pt2) pos.line X.env=pure false:=by rfl):SS X (.Assign [.Tuple [.Name x g, .Name y k] kt l] (.Tuple [c,d] k2 pt2) pos) (af i j r):=by
 obtain⟨t,p,s⟩:=ha;refine⟨_,qj hc hN hi hj v hx hy p hw hs,λB T w τ H D F n h A=>s B T w τ H _ _ n h λvs xs T1 H1 u r1 h1=> ?_⟩;cases r1 with
 | nil=>exact h1.elim
 | cons ra ta=>
   cases ta with
   | nil=>exact h1.elim
   | cons C E=>
     cases E with
     | cons _ _=>exact h1.elim
     | nil=> have f:=n.stp u;refine⟨_,_,rfl,A.nx T1 H1 _ _ ?_ ((f.set (i:=i) ra).set (i:=j) (C.mv (.anti f.va λa m=>m.elim .inl λz=> .inr (Ct z)))) h1⟩;exact u.prog.trans (.less λb o=>Ct (Ct o))
def Wt (i:Nat)(f:IW)(ta:AE):AS:=λD τ=>match UH τ i with | some (.val x)=>ta τ λy=>f x y λz=>D.nx (τ.set i (some (.val z)))|_=>False
def ie {i:Nat}(hN:X.N.Nodup)(hi:X.N[i]? =some x)(hx:Loc X.env.scope x)(he:SE X e ta)(j:oT X op g/\CN X.K g f)(l:X.fn x=true\/X.env.scope.names.lookup x=some .local:=by first | exact .inl rfl|exact .inr rfl|assumption):SS X (.AugAssign (.Name x pos') op e pos) (Wt i f ta):=by
 obtain⟨t,p,s⟩:=he;refine⟨_,qi hN hi hx p j.1 l,λB T m τ H D E c h n=> ?_⟩;unfold Wt at h;split at h <;> first | exact h.elim|skip
 rename_i y r;obtain⟨v,ev,rv⟩:=c.val i y (OF r);refine⟨v,ev,s B T m τ H _ _ c h λw z T1 H1 d r1 h1=> ?_⟩;refine j.2 T1 _ H1 v w y z _ _ (c.stp d).va (rv.stp d c.va) r1 h1 λu q A C k r2 h2=> ?_;exact n.nx A C _ _ ((d.trans k).prog.trans (.less λb o=>Ct o)) (((c.stp d).stp k).set r2) h2
def rJ:oT X .Add (ye λi j=>i+j)/\CN X.K (ye λi j=>i+j) uJ:=⟨gA,λT M H u v x y Q d va c rv h k=>by
 obtain⟨i,j,rfl,rfl,q⟩:=Ma h;exact⟨i,j,c.toI,rv.toI,k _ _ T H (.refl va.tp) (.int _) q⟩⟩
def L8 (i:Nat)(τ:A4)(R:km PV->Prop):Prop:=match UH τ i with | some (.own xs)=>R xs|_=>False
def R7 {R:km PV->Prop}(h:L8 i τ R):∃xs,τ[i]? =some (some (.own xs))/\R xs:=by
 unfold L8 at h;cases e:UH τ i with
 | none=>rw[e] at h;exact h.elim
 | some z=>
   rw[e] at h;cases z with
   | val x=>exact h.elim
   | own xs=>exact⟨xs,OF e,h⟩
abbrev oS:=km PV->km PV->(km PV->Prop)->Prop
def jh (K:AAJ)(r:V->km V->Hp->VK->Prop)(f:oS):Prop:=∀(T M:kf->Prop) (H:Hp) (l:kf) (g vs:km V) (xs ys:km PV) (Q:VK) (h:km PV->Prop),H l=some (.lst g)->Az K T M H g xs->Az K T M H vs ys->f xs ys h->
 (∀c d,Az K T M H c d->h d->Q .non (upd H l (.lst c)))->r (.ref l) vs H Q
def Dx (i:Nat)(f:oS)(r:AA):AS:=λD τ=>L8 i τ λxs=>r τ λys=>f xs ys λc=>D.nx (τ.set i (some (.own c)))
def ia {K:AAJ}{t:TA}(u:jh K l f)(s:oY K t r):eM K (oE (tBM K "list" l (DI i) t)) (Dx i f r):=λB T m τ H D z d h v=>by obtain⟨xs,e,h⟩:=R7 h;obtain⟨p,vs,n,hp,r1,A,o,C⟩:=d.own i xs e;refine⟨.ref p,n, .inl ⟨rfl,vs, .inl (.inl hp)⟩,s B T m τ H _ _ d h λw ys T1 H1 c r2 h2=> ?_⟩;have g:=d.stp c;refine u T1 (mt B m τ) H1 p vs w xs ys _ _ (c.keep _ _ o hp) (r1.stp c d.va) r2 h2 λx E y h3=> ?_;obtain⟨j,k⟩:=g.write (i:=i) (xs:=xs) e n (c.keep _ _ o hp) y;exact v.nx T1 _ _ _ (c.prog.trans k) j h3
def Ce {i:Nat}{name:Str}{es:km kd}{id:String}{apos:Pos}(slot:Slot "list" name id)(h:typeOf (.builtin id)=pure (.type "method_descriptor"))(g:tX X id d/\jh X.K d f)(ha:SA X (e::es) r)(hN:X.N[i]? =some x:=by rfl)(hv:nK X.env.scope x:=by first | exact Or.inl rfl|exact Or.inr (Or.inl rfl)|exact Or.inr (Or.inr rfl))(hd:(x==("__debug__" :Str))=false:=by decide)(j:(x==("__classdict__" :Str))=false:=by decide)(k:attributeBase (.Name x p) name X.env (eval (.Name x p) X.env)=eval (.Name x p) X.env:=by rfl)(l:((backTo c (starEach (e::es) X.env)).all (λx=> !x.1)&&(backToKw c (keywordEach [] X.env)).all (λx=>x.1.isSome) && decide ((e::es).length+([] :km Keyword).length+(if ([] :km Keyword).isEmpty then 0 else 1)<30))=true:=by rfl)(m:(apos.endLine==c.line)=true:=by rfl)(hs:starEach (e::es) X.env=(false,eval e X.env)::starEach es X.env:=by rfl)(n:(backTo c (starEach es X.env)).any (·.1)=false:=by rfl)(o:swapsWith (.Call (.Attribute (.Name x p) name apos) (e::es) [] c) none pos.line X.env=pure false:=by rfl):SS X (.Expr (.Call (.Attribute (.Name x p) name apos) (e::es) [] c) pos) (Dx i f r):=by obtain⟨t,u,s⟩:=ha;exact⟨_,lh (vG PySem.F.plainAttrs_list slot h g.1 (OQ hN hv hd j) u k l m hs n) o,ia g.2 s⟩
def HJ:oS:=λxs ys Q=>match ys with | [y] =>xs.length<sizeLine/\Q (xs ++ [y])|_=>False
def Be:tX X "list.append" TJ/\jh X.K TJ HJ:=by
 refine⟨K8,λT M H l c vs xs ys Q f hl r1 r2 h k=> ?_⟩;unfold HJ at h;split at h <;> first | exact h.elim|skip
 cases r2 with
 | cons d t=> cases t;exact⟨l,c,_,rfl,rfl,hl,by rw[r1.length];exact h.1,k _ _ (r1.append (.cons d .nil)) h.2⟩
def kT:oS:=λxs ys Q=>match ys with | [.int i,y] =>(0<=i/\i<=(xs.length:Int)/\xs.length<sizeLine)/\Q (xs.take i.toNat++y::xs.drop i.toNat)|_=>False
def c4:tX X "list.insert" TK/\jh X.K TK kT:=by
 refine⟨cD,λT M H l c vs xs ys Q i hl r1 r2 h k=> ?_⟩;unfold kT at h;split at h <;> first | exact h.elim|skip
 cases r2 with
 | cons d t=>
   cases t with
   | cons f t=> cases t;cases d;obtain⟨⟨h1,h2,h3⟩,g⟩:=h;exact⟨l,c,_,_,rfl,rfl,hl,h1,by rw[r1.length];exact h2,by rw[r1.length];exact h3,k _ _ ((r1.take _).append (.cons f (r1.drop _))) g⟩
def wz (o:ke Nat)(R:Nat->Prop):Prop:=match o with | some j=>R j|none=>False
def qQ {R:Nat->Prop}(h:wz o R):∃z,o=some z/\R z:=by cases o <;> first | exact⟨_,rfl,h⟩|exact h.elim
def om (i:Nat)(c ta:AE):AS:=λD τ=>ta τ λy=>L8 i τ λxs=>c τ λk=>UI k λk=>wz (ZQ xs.length k) λj=>D.nx (τ.set i (some (.own (xs.set j y))))
def rS {i:Nat}(hi:SE X ix u)(he:SE X e ta)(hN:X.N[i]? =some x:=by rfl)(hv:nK X.env.scope x:=by first | exact Or.inl rfl|exact Or.inr (Or.inl rfl)|exact Or.inr (Or.inr rfl))(hd:(x==("__debug__" :Str))=false:=by decide)(G:(x==("__classdict__" :Str))=false:=by decide)(ha:∀v,assign (.Subscript (.Name x p) ix c) X.env v=(do
   let g <-holding [v] (eval (.Name x p) X.env);let l <-holding [v,g] (eval ix X.env)
   standAt c
   holding [v,g,l] (setItem g l v)
   release [v,g,l] []):=by intro _;rfl)(hs:swapsWithSole [.Subscript (.Name x p) ix c] e pos.line X.env=pure false:=by rfl)(hw:swappedStores [.Subscript (.Name x p) ix c] e X.env=pure none:=by rfl)(h1:(assignEach [.Subscript (.Name x p) ix c] X.env).map (·.2)= [assign (.Subscript (.Name x p) ix c) X.env] :=by rfl):SS X (.Assign [.Subscript (.Name x p) ix c] e pos) (om i u ta):=by obtain⟨t,I,s⟩:=hi;obtain⟨t',m,J⟩:=he;refine⟨_,TH m (X2 (OQ hN hv hd G) I KF ha) hs hw h1,λB T z τ H D P A h K=>J B T z τ H _ _ A h λv y T1 H1 C r1 h1=> ?_⟩;have d:=A.stp C;obtain⟨xs,e,h1⟩:=R7 h1;obtain⟨q,vs,E,hp,r2,Q,F,R⟩:=d.own i xs e;refine⟨.ref q,E,s B T1 z τ H1 _ _ d h1 λw k L S f M h3=> ?_⟩;obtain⟨k,rfl,h3⟩:=HL h3;obtain⟨j,O,h3⟩:=qQ h3;cases M.toI;have n:=d.stp f;obtain⟨o,r⟩:=n.write (i:=i) (xs:=xs) e E (f.keep _ _ F hp) (((r2.stp f d.va)).set (r1.stp f d.va) j);exact⟨q,vs,k,j,rfl,rfl,f.keep _ _ F hp,by rw[r2.length];exact O,K.nx L _ _ _ ((C.trans f).prog.trans r) o h3⟩
end
section
variable {X:Cx}{st:Stmt}{e:kd}{pos:Pos}{a b:AS}{ta:AE}
def WU (c:AT)(b:AS)(D:Gu):Nat->A4->Prop
 | 0,_=>False
 | n+1,τ=>c (frz τ) λk=>if k=true then b {D with nx:=WU c b D n,ct:=WU c b D n,bk:=D.nx} τ else D.nx τ
def Ku (c:AT)(b:AS):AS:=λD τ=>∃n,WU c b D n τ
def KI (hp:PassesOwn (model X.prog X.w) X.A X.env X.xe)(hc:Um X c v)(hb:ab X body b):SS X (.While c body [] pos) (Ku v b):=by
 obtain⟨t,p,s⟩:=hc;obtain⟨t',G,I⟩:=hb;refine⟨_,hZ hp p G,λB T y τ H D z J h C=> ?_⟩;obtain⟨n,h⟩:=h;refine⟨λm f H1=>∃T1 d,SR X.K B T1 H1 f d/\Fc T H y τ T1 H1 f d/\WU v b z m d,⟨n,T,τ,J, .refl,h⟩, ?_⟩;rintro m f H1 ⟨T1,d,l,g,h1⟩;cases m with
 | zero=>exact h1.elim
 | succ m=>
   refine s B T1 f (frz d) H1 _ _ l.frz h1 λk E F x h2=> ?_;have o:=l.stp x;have r:=(C.shift g).shift x.prog;cases k with
   | false=>rw[AAL AAY] at h2 ⊢;exact r.nx E F f d .refl o h2
   | true=> rw[AAM rfl] at h2 ⊢;refine⟨λσ' u=>∃j τ',SR X.K B j u σ' τ'/\Fc T H y τ j u σ' τ'/\WU v b z m τ',λσ' u q=>⟨m,Nat.lt_succ_self m,q⟩, ?_⟩;exact I B E f d F _ _ o h2 ⟨λj u σ' τ' q i h'=>⟨j,τ',i,(g.trans x.prog).trans q,h'⟩,r.nx,λj u σ' τ' q i h'=>⟨j,τ',i,(g.trans x.prog).trans q,h'⟩,C.rt⟩
abbrev AI:=A4->(km PV->Prop)->Prop
structure R1 (K:AAJ) (M:Addr->Prop) (J:It) (xs:List PV) (T:Addr->Prop) (H:Hp):Prop where
 go:∀i y,xs[i]? =some y->J.go i H
 yld:∀i y v H',xs[i]? =some y->J.yld i H v H'->Cq T H T H'/\B8 K T M H' v y
 stop:∀i,xs.length<=i->J.stop i H
def Yr (T:kf->Prop)(H c:Hp):Prop:=∀b o,¬T b->H b=some o->c b=some o
def ae (K:AAJ)(s:kc)(j:TI)(k:AI):Prop:=∀(B:C0) (T:kf->Prop) (f:L2.St) (τ:A4) (H:Hp) (R:It->Hp->Prop) (i:km PV->Prop),SR K B T H f τ->k τ i->
 (∀J xs g c,Cq T H g c->(∀M2 h d,Mv K g (mt B f τ) c h M2 d->Gs h M2 d->(s=true\/Yr g c d)->R1 K M2 J xs h d)->i xs->R J c)->j f H R
def SI (X:Cx)(d iter:kd)(s:kc)(f:AI):Prop:=∃c,PI X d iter c/\ae X.K s c f
def uk (K:AAJ)(c:TE):TI:=λd H R=>c d H λx H1=>∃a,x= .ref a/\(((∃xs,GH K H1 a xs)/\R (xY K a) H1)\/((∃xs,Nj K H1 a xs)/\R (xZ K a) H1))
def gx (hl:PE X l g):PI X i l (uk X.K g):=by
 intro Sr s j H R I h;refine BA (hl Sr s j H _ I h) λv c ⟨x,H1,d,r1,k⟩=> ?_;obtain⟨a,e,q⟩:=k;subst e;cases r1;rcases q with⟨⟨xs,hq⟩,q⟩|⟨⟨xs,hq⟩,q⟩
 .obtain ⟨f,rv,p,hz⟩:=d.list hq;refine AFu p.isList ?_;refine⟨c.heap.objs.size, [c.heap.objs.size],_,_,H1,rfl,d.kept (t':=c.toks) λb o e=>AAP _ e,dC a _,⟨_,AAV _ rfl,rfl,rfl⟩,λb hb=> ?_,q⟩;have e:b=c.heap.objs.size:=↑hb
  subst e;exact d.fpOk (AAR _) (d.hok.fresh (AAR _))
 .obtain ⟨f,rv,p,hz⟩:=d.tuple hq;refine wpAny_pyIter_tuple (show c.heap.IsTuple a f.toArray from p) ?_;refine⟨c.heap.objs.size, [c.heap.objs.size],_,_,H1,rfl,d.kept (t':=c.toks) λb o e=>AAP _ e,Yi a _,⟨_,AAV _ rfl,rfl,rfl⟩,λb hb=> ?_,q⟩;have e:b=c.heap.objs.size:=↑hb
  subst e;exact d.fpOk (AAR _) (d.hok.fresh (AAR _))
def JL (ta:AE):AI:=λτ Q=>ta τ λx=>Mb x Q
def gC {K:AAJ}{a:kf}(va:Gs T M H)(r:B8 K T M H (.ref a) (.tup xs)):R1 K M (xZ K a) xs T H:=by
 obtain⟨g,vs,e,hq,c⟩:=FE r;cases e;refine⟨λi y h=> ?_,λi y v j h d=> ?_,λi h=>⟨vs,hq,by rw[c.length];exact h⟩⟩
 .obtain ⟨v,hv,_⟩:=c.get h;exact⟨vs,v,hq,hv⟩
 .obtain ⟨rfl,d⟩:=d;obtain⟨z,hz,f⟩:=c.get' (d vs hq);rw[h] at hz;cases hz;exact⟨.refl va.tp,f⟩
def gB {K:AAJ}{H:Hp}{a:kf}(va:Gs T M H)(hq:H a=some (.lst vs))(c:Az K T M H vs xs):R1 K M (xY K a) xs T H:=by
 have d:GH K H a vs:= .inl (.inl hq);refine⟨λi y h=> ?_,λi y v j h f=> ?_,λi h=>⟨vs,d,by rw[c.length];exact h⟩⟩
 .obtain ⟨v,hv,_⟩:=c.get h;exact⟨vs,v,d,hv⟩
 .obtain ⟨rfl,f⟩:=f;obtain⟨z,hz,g⟩:=c.get' (f vs d);rw[h] at hz;cases hz;exact⟨.refl va.tp,g⟩
def Dv (h:SE X e ta):SI X g e true (JL ta):=by
 obtain⟨t,p,s⟩:=h;refine⟨_,gx p,λB T i τ H R w j h k=>s B T i τ H _ _ j h λv x T1 H1 f r1 h1=> ?_⟩;obtain⟨xs,hx,q⟩:=GV h1;rcases hx with rfl|rfl
 .obtain ⟨a,vs,rfl,hq,l⟩:=FE r1;refine⟨a,rfl, .inr ⟨⟨vs,hq⟩,k _ xs T1 H1 f (λM2 m n c va _=>gC va (r1.mv c)) q⟩⟩
 .obtain ⟨a,vs,rfl,hq,y,z,l⟩:=Dt r1;refine⟨a,rfl, .inl ⟨⟨vs, .inl (.inl hq)⟩,k _ xs T1 H1 f (λM2 m n c va _=> ?_) q⟩⟩;obtain⟨A,o,r,u,_,_,d⟩:=Dt (r1.mv c);cases r;exact gB va u d
def rng (lo:Int)(n:Nat):km PV:=(List.range n).map λ(k:Nat)=> .int (lo+(k:Int))
def VP {K:AAJ}{lo:Int}(va:Gs T M H):R1 K M (tV lo n) (rng lo n) T H:=by
 have hl:(rng lo n).length=n:=by simp[rng]
 refine⟨λi y h=> ?_,λi y v d h c=> ?_,λi h=>by rw[hl] at h;exact h⟩
 .have:=(AB8.mp h).1;rw[hl] at this;exact this
 .obtain ⟨rfl,rfl⟩:=c;have hi:=(AB8.mp h).1;rw[hl] at hi;have:y= .int (lo+(i:Int)):=by simp[rng,List.getElem?_range hi] at h;exact h.symm
  subst this;exact⟨.refl va.tp, .int _⟩
def R8 (r:AA):AI:=λτ Q=>r τ λxs=>match xs with | [.int j] =>(-(2^62)<=j/\j<2^62)/\Q (rng 0 j.toNat)|_=>False
def jp (r:AA):AI:=λτ Q=>r τ λxs=>match xs with | [.int i, .int j] =>(-(2^62)<=i/\i<2^62/\ -(2^62)<=j/\j<2^62)/\Q (rng i (j-i).toNat)|_=>False
def On {c:kd}{p:Pos}(f:Gl X "range")(g:X.mg "range" =none)(ha:SA X [c] r)(hs:starEach [c] X.env= [(false,eval c X.env)] :=by rfl):SI X d (.Call (.Name "range" p) [c] [] pos) true (R8 r):=by
 obtain⟨t,i,s⟩:=ha;refine⟨_,cX f g i hs,λB T j τ H R n l h k=>s B T j τ H _ _ l h λvs xs T1 H1 m r1 h1=> ?_⟩;split at h1 <;> first | exact h1.elim|skip
 cases r1 with
 | cons r t=> cases t;cases r;exact⟨_,rfl,h1.1.1,h1.1.2,k _ _ T1 H1 m (λM2 o u v va _=>VP va) h1.2⟩
def oB {c d:kd}{p:Pos}(g:Gl X "range")(i:X.mg "range" =none)(ha:SA X [c,d] r)(hs:starEach [c,d] X.env= [(false,eval c X.env),(false,eval d X.env)] :=by rfl)(j:starEach [d] X.env= [(false,eval d X.env)] :=by rfl):SI X f (.Call (.Name "range" p) [c,d] [] pos) true (jp r):=by
 obtain⟨t,l,s⟩:=ha;refine⟨_,cY g i l hs j,λB T m τ H R v n h k=>s B T m τ H _ _ n h λvs xs T1 H1 o r1 h1=> ?_⟩;split at h1 <;> first | exact h1.elim|skip
 cases r1 with
 | cons r t=>
   cases t with
   | cons u t=> cases t;cases r;cases u;exact⟨_,_,rfl,h1.1,k _ _ T1 H1 o (λM2 w x y va _=>VP va) h1.2⟩
noncomputable def O6 (xs ys:km PV):km PV:=List.zipWith (λx y=> .tup [x,y]) xs ys
def um (K:AAJ)(ta:TA):TI:=λd H R=>ta d H λvs H1=>∃b c l m,vs= [.ref l, .ref m] /\(∃xs,Sq K b H1 l xs)/\(∃ys,Sq K c H1 m ys)/\R (xb K b c l m) H1
def lT {e f:kd}{ta:TA}{p:Pos}(x:Gl X "zip")(y:X.mg "zip" =none)(ha:PA X [e,f] ta)(hs:starEach [e,f] X.env= [(false,eval e X.env),(false,eval f X.env)] :=by rfl)(t:starEach [f] X.env= [(false,eval f X.env)] :=by rfl):PI X (.Tuple es w g) (.Call (.Name "zip" p) [e,f] [] pos) (um X.K ta):=by
 intro Sr s z H R I h;refine Call_ (Ih I x y boot_zip (ADi (BA (ha pos Sr s z H _ I h) λA d ⟨vs,H1,i,r1,B⟩=> ?_) (by rw[hs,t]) (by rw[t];rfl)));obtain⟨b,c,l,m,rfl,⟨xs,hl⟩,⟨ys,C⟩,q⟩:=B;cases r1 with
 | cons r j=>
 cases j with
 | cons D j=>
 cases j;cases r;cases D;obtain⟨A,G,u,_⟩:=i.sq hl;obtain⟨vs,rv,sv,_⟩:=i.sq C;have k:l<d.heap.objs.size:=by cases b <;> (obtain⟨o,e,_⟩:=u;exact AAN e)
 have n:m<d.heap.objs.size:=by cases c <;> (obtain⟨o,e,_⟩:=sv;exact AAN e)
 refine sL u sv λh1 Z E=>AFC Z.zip ?_;refine⟨_,_,_,_,H1,rfl,i.kept (t':=d.toks) E,jB (zipApart_new k n),Z,λp hp=> ?_,q⟩;have v:d.heap.objs.size<=p:=by
  have F:p=d.heap.objs.size+4\/p=d.heap.objs.size+2\/p=d.heap.objs.size+3\/p=d.heap.objs.size\/p=d.heap.objs.size+1:=↑hp
  rcases F with e|e|e|e|e <;> (rw[e];omega)
 exact i.fpOk v (i.hok.fresh v)
def e8:PV->kc | .lst _=>true|_=>false
def IM {K:AAJ}{x:PV}(hx:x= .tup xs\/x= .lst xs)(r:B8 K T M H v x):∃a vs,v= .ref a/\Sq K (e8 x) H a vs/\Az K T M H vs xs:=by
 rcases hx with rfl|rfl
 .obtain ⟨a,vs,rfl,hq,c⟩:=FE r;exact⟨a,vs,rfl,hq,c⟩
 .obtain ⟨a,vs,rfl,hq,_,_,c⟩:=Dt r;exact⟨a,vs,rfl, .inl (.inl hq),c⟩
def gD {K:AAJ}{x y:PV}(va:Gs T M H)(hx:x= .tup xs\/x= .lst xs)(hy:y= .tup ys\/y= .lst ys)(r:B8 K T M H (.ref l) x)(r2:B8 K T M H (.ref m) y):R1 K M (xb K (e8 x) (e8 y) l m) (O6 xs ys) T H:=by
 obtain⟨_,vs,e,hq,f⟩:=IM hx r;cases e;obtain⟨_,g,e,j,c⟩:=IM hy r2;cases e;have hz:∀i z,(O6 xs ys)[i]? =some z->∃a b,xs[i]? =some a/\ys[i]? =some b/\z=PV.tup [a,b] :=λi z h=>by
  unfold O6 at h;rw[List.getElem?_zipWith] at h;cases d:xs[i]? with
  | none=>rw[d] at h;cases h
  | some a=>
    cases k:ys[i]? with
    | none=>rw[d,k] at h;cases h
    | some b=>rw[d,k] at h;cases h;exact⟨a,b,by first | rfl|exact d,by first | rfl|exact k,rfl⟩
 refine⟨λi z h=> ?_,λi z v C h t=> ?_,λi h=>⟨vs,g,hq,j, ?_⟩⟩
 .obtain ⟨a,b,ha,hb,_⟩:=hz i z h;obtain⟨u,hu,_⟩:=f.get ha;obtain⟨w,hw,_⟩:=c.get hb;exact⟨vs,g,u,w,hq,j,hu,hw⟩
 .obtain ⟨a,b,ha,hb,rfl⟩:=hz i z h;obtain⟨p,u,w,rfl,A,rfl,hu,hw⟩:=t;obtain⟨D,n,ra⟩:=f.get' (hu vs hq);obtain⟨E,s,B⟩:=c.get' (hw g j);rw[ha] at n;cases n;rw[hb] at s;cases s;have st:=Cq.lay (o:= .tup [u,w]) va.tp A;exact⟨st, .tup (.inl Ad) (.cons (ra.stp st va) (.cons (B.stp st va) .nil))⟩
 .rw [f.length,c.length];have:(O6 xs ys).length=min xs.length ys.length:=by simp[O6]
  omega
def sR (r:AA):AI:=λτ Q=>r τ λc=>match c with | [x,y] =>Mb x λxs=>Mb y λys=>Q (O6 xs ys)|_=>False
def mI {e f:kd}{p:Pos}(j:Gl X "zip")(n:X.mg "zip" =none)(ha:SA X [e,f] r)(hs:starEach [e,f] X.env= [(false,eval e X.env),(false,eval f X.env)] :=by rfl)(o:starEach [f] X.env= [(false,eval f X.env)] :=by rfl):SI X (.Tuple es i c) (.Call (.Name "zip" p) [e,f] [] pos) true (sR r):=by
 obtain⟨t,u,s⟩:=ha;refine⟨_,lT j n u hs o,λB T v τ H R F w h k=>s B T v τ H _ _ w h λvs xs T1 H1 z r1 h1=> ?_⟩;split at h1 <;> first | exact h1.elim|skip
 rename_i x y;obtain⟨xs,hx,h2⟩:=GV h1;obtain⟨ys,hy,h3⟩:=GV h2;cases r1 with
 | cons ra t=>
   cases t with
   | cons d t=> cases t;obtain⟨l,A,rfl,hq,G⟩:=IM hx ra;obtain⟨m,C,rfl,D,E⟩:=IM hy d;exact⟨e8 x,e8 y,l,m,rfl,⟨A,hq⟩,⟨C,D⟩,k _ _ T1 H1 z (λM2 I J g va _=>gD va hx hy (ra.mv g) (d.mv g)) h3⟩
def DB (g:AG)(b:AS)(D:Gu):km PV->A4->Prop
 | [],τ=>D.nx τ
 | x::r,τ=>g x τ λc=>b {D with nx:=DB g b D r,ct:=DB g b D r,bk:=D.nx} c
def EK (c:AI)(g:AG)(b:AS):AS:=λD τ=>c τ λxs=>DB g b D xs τ
def Fc.mvv {K:AAJ}(s:SR K B T H c τ)(p:Fc T H c τ d f σ' τ'):Mv K T (mt B c τ) H d (mt B σ' τ') f:=
 ⟨s.va,λb o t m e=>p.keep b o t (λz=>m (.inr z)) e,p.sub,λb n t=>(p.new b t).elim id λz=>absurd z n,λb n m=>m.elim .inl λz=>(p.own b z).elim .inr λz=>absurd z n⟩
def Ba {iter:kd}{N:AI}(hp:PassesOwn (model X.prog X.w) X.A X.env X.xe)(hc:X.calm=true)(hi:SI X C iter true N)(U:SG X C g)(hb:ab X body b)(hs:∀x,foldedSetIterable iter X.env x=pure x:=by intro _;rfl):SS X (.For C iter body [] pos) (EK N g b):=by
 obtain⟨wi,W,Y⟩:=hi;obtain⟨Z,pg,sg⟩:=U;obtain⟨tb,pb,sb⟩:=hb;refine⟨_,X5 hp hc W pg pb hs,λB T y τ H D O P h E=>Y B T y τ H _ _ P h λJ xs T1 H1 F walk h1=> ?_⟩;have p:=P.stp F;refine⟨λi m d r=>m=xs.length-i/\∃f c,SR X.K B f r d c/\Fc T1 H1 y τ f r d c/\DB g b O (xs.drop i) c,⟨_,rfl,T1,τ,p, .refl,h1⟩, ?_⟩;rintro i m d r ⟨rfl,f,c,k,l,h2⟩;have w:=walk _ f r (l.mvv p) k.va (.inl rfl);have G:=(E.shift F.prog).shift l;by_cases Q:i<xs.length
 .have R:xs[i]? =some xs[i] :=AAi Q;rw[ADt Q] at h2;refine .inr ⟨w.go i _ R,λσ' s=>∃j τ',SR X.K B j s σ' τ'/\Fc T1 H1 y τ j s σ' τ'/\DB g b O (xs.drop (i+1)) τ',λσ' s ⟨j,τ',q1,q2,q3⟩=>⟨_,!0,rfl,j,τ',q1,q2,q3⟩,λv z yl=> ?_⟩;obtain⟨S,r3⟩:=w.yld i _ v z R yl;have I:=k.stp S;refine sg B f d c z v _ _ _ I r3 h2 λt u L o4 h4=> ?_;have n:Fc T1 H1 y τ f z t u:=(l.trans S.prog).trans (.less o4);have M:=(E.shift F.prog).shift n;exact sb B f t u z _ _ L h4 ⟨λj s σ' τ' q o h'=>⟨j,τ',o,n.trans q,h'⟩,M.nx,λj s σ' τ' q o h'=>⟨j,τ',o,n.trans q,h'⟩,E.rt⟩
 .rw [AEe (!0)] at h2;exact .inl ⟨w.stop i (!0),G.nx f r d c .refl k h2⟩
noncomputable def aj:ke AV->ke AV|some (.val x)=>some (.val x)|_=>none
noncomputable def Jg (own:Nat)(ix:km Nat)(τ:A4):A4:=List.replicate own none++ix.map λi=>aj (UH τ i)
def B9 (g:AG)(t:AT)(te:AE)(c:A4)(Q:km PV->Prop):km PV->km PV->Prop
 | [],acc=>Q acc
 | x::r,acc=>g x c λd=>t d λok=>if ok=true then te d λy=>B9 g t te c Q r (acc ++ [y]) else B9 g t te c Q r acc
def CO (c:AI)(own:Nat)(ix:km Nat)(g:AG)(t:AT)(te:AE):AA:=λτ Q=>c τ λxs=>xs.length<sizeLine/\B9 g t te (Jg own ix τ) Q xs []
def fB {own:Nat}{j:Nat}(h:(Jg own ix τ)[j]? =some (some (.val x))):own<=j/\∃i,ix[j-own]? =some i/\τ[i]? =some (some (.val x)):=by
 unfold Jg at h;by_cases hj:j<own
 .rw [ACh (↑hj),AC8,AAM hj] at h;cases h
 .rw [ACU (↑hj),ACi,AAu] at h;cases e:ix[j-own]? with
  | none=>rw[e] at h;cases h
  | some i=>
    rw[e] at h;refine⟨!0,i,rfl,OF ?_⟩;cases c:UH τ i with
    | none=>simp[c,aj] at h
    | some z=>cases z <;> simp[c,aj] at h;subst h;rfl
def F3 {own:Nat}{j:Nat}:(Jg own ix τ)[j]? ≠some (some (.own xs)):=λh=>by
 unfold Jg at h;by_cases hj:j<own
 .rw [ACh (↑hj),AC8,AAM hj] at h;cases h
 .rw [ACU (↑hj),ACi,AAu] at h;cases e:ix[j-own]? with
  | none=>rw[e] at h;cases h
  | some i=>
    rw[e] at h;cases c:UH τ i with
    | none=>simp[c,aj] at h
    | some z=>cases z <;> simp[c,aj] at h
noncomputable def C0.blk (B:C0)(c:L2.St)(τ:A4)(D:kf):C0:=⟨B.T,B.H,λa=>mt B c τ a\/a=D⟩
def SR.blk {K:AAJ}{d:kf->Prop}{H f:Hp}{own:Nat}(s:SR K B T H c τ)(q:Cq T H d f)(l:H D=none)(hd:f D=some (.lst h))(u:¬d D):SR K (B.blk c τ D) d f (Bc own ix c) (Jg own ix τ):=by
 have g:=s.stp q;have w:Mv K T (mt B c τ) H d (mt (B.blk c τ D) (Bc own ix c) (Jg own ix τ)) f:=⟨s.va,λb o t _ e=>q.keep b o t e,q.sub,λb n t=>(q.new b t).elim id λz=>absurd z n,λb n z=>by
  rcases z with(z|z)|⟨_,_,z,_⟩
  .exact z
  .subst z;exact absurd l n
  .exact absurd z F3⟩
 refine⟨by simp[Bc,Jg],λj x e=> ?_,λj xs e=>absurd e F3,λj k xs ys p e=>absurd e F3,g.tp,λa m=> ?_,λa m=> ?_,g.st⟩
 .obtain ⟨hj,i,hi,y⟩:=fB e;obtain⟨v,hv,r⟩:=s.val i x y;refine⟨v, ?_,r.mv w⟩;unfold Bc;rw[ACU (↑hj),ACi,AAu,hi];simp[hv]
 .rcases m with m|m
  .exact g.va.mu a m
  .subst m;exact⟨_,hd,Ko.lst⟩
 .rcases m with m|m
  .exact g.nt m
  .subst m;exact u
def oW (X:Cx)(c:km kd)(t:AT):Prop:=∃d,aZ X c d/\Ni X.K d t
def Eg:AT:=λ_ Q=>Q true
def B3:oW X [] Eg:=⟨_,Zh,λB T d τ H Q f c h k=>k true T H (.refl c.tp) h⟩
def Mj {t:AT}(h:Um X c t):oW X [c] t:=let ⟨_,p,s⟩:=h;⟨_,lU p,s⟩
def Oo {K:AAJ}{own:Nat}(hi:ae K s wi ai)(hg:Kr K g ag)(ht:Ni K tt C)(he:Gr K te ta):eJ K (iq wi own ix g tt te) (CO ai own ix ag C ta):=by
 intro B T E τ H Q AQ sr h k;refine hi B T E τ H _ _ sr h λJ xs T1 H1 s1 walk h1 D F=> ?_;obtain⟨hl,h1⟩:=h1;have j:=sr.stp s1;have nt1:¬T1 D:=λz=>by obtain⟨o,e,_⟩:=(j.tp D z).mut;rw[F] at e;cases e
 have lay:=Cq.lay (o:= .lst []) j.tp F;refine⟨λi m G=>m=xs.length-i/\∃p vs c,Cq T1 H1 p G/\G D=some (.lst vs)/\¬p D/\Az K p (λa=>mt B E τ a\/a=D) G vs c/\c.length<=i/\B9 ag C ta (Jg own ix τ) AQ (xs.drop i) c,
  ⟨_,rfl,T1, [], [],lay,Ad,nt1, .nil,AAR _,h1⟩, ?_⟩
 rintro i m G ⟨rfl,p,vs,c,r,Z,f,r2,XT,h2⟩;have I:=j.blk (own:=own) (ix:=ix) r F Z f;have L:Gs p (λa=>mt B E τ a\/a=D) G:=⟨I.tp,I.bm⟩;have w:=walk (λa=>mt B E τ a\/a=D) p G ⟨j.va,λb o t _ e=>r.keep b o t e,r.sub,λb n t=>(r.new b t).elim id λz=>absurd z n,λb n z=>z.elim id λz=>by subst z;exact absurd F n⟩ L (.inr r.keep);by_cases Es:i<xs.length
 .have VN:xs[i]? =some xs[i] :=AAi Es;rw[ADt Es] at h2;refine .inr ⟨w.go i _ VN,λv H3 yl=> ?_⟩;obtain⟨P,r3⟩:=w.yld i _ v H3 VN yl;have l:=I.stp P;refine hg _ p _ _ H3 v _ _ _ l (r3.mv (.anti ⟨l.tp,l.bm⟩ λa z=>z.elim id λ⟨_,_,z,_⟩=>absurd z F3)) h2 λR S U o4 h4=> ?_;refine ht _ p R S H3 _ _ U h4 λok T5 H5 N h5=> ?_;have u:=U.stp N;have jK:=P.keep D _ f Z;have kA:=N.keep D _ f jK;have M:¬T5 D:=λz=>(N.new D z).elim f λn=>by rw[n] at jK;cases jK
  have r5:=(r2.stp P L).stp N ⟨l.tp,l.bm⟩;cases ok with
  | false=> rw[AAL AAY] at h5 ⊢;exact⟨_,!0,rfl,T5,vs,c,(r.trans P).trans N,kA,M,r5,!0,h5⟩
  | true=>
    rw[AAM rfl] at h5 ⊢;refine he _ T5 R S H5 _ _ u h5 λvy y O H6 W r6 h6=> ?_;have A:=u.stp W;have yB:=W.keep D _ M kA;have Y:¬O D:=λz=>(W.new D z).elim M λn=>by rw[n] at kA;cases kA
    have va6:Gs O (λa=>mt B E τ a\/a=D) H6:=⟨A.tp,A.bm⟩;have r7:=r5.stp W ⟨u.tp,u.bm⟩;have s7:=((r.trans P).trans N).trans W;have tp8:∀a,O a->E8 (upd H6 D (.lst (vs ++ [vy]))) a:=λa t=>by obtain⟨d,x,e,z⟩:=A.tp a t;exact⟨d,x,by rw[Ae (λw=>by subst w;exact Y t)];exact e,z⟩
    have mv8:Mv K O (λa=>mt B E τ a\/a=D) H6 O (λa=>mt B E τ a\/a=D) (upd H6 D (.lst (vs ++ [vy]))):=⟨va6,λb o _ m e=>by rw[Ae (λw=>m (.inr w))];exact e,λ_ t=>t,λ_ _ t=>t,λ_ _ z=>z⟩;refine⟨vs,yB,by rw[r2.length];omega,_,(by omega:xs.length-(i+1)<xs.length-i),rfl,O,vs ++ [vy],c ++ [y],⟨λb o t e=> ?_,s7.sub,s7.new,tp8⟩,Ad,Y,(r7.append (.cons (r6.mv (.anti A.va λa z=> .inl z)) .nil)).mv mv8,by simp;omega,h6⟩;rw[Ae (Al e F)];exact s7.keep b o t e
 .rw [AEe (!0)] at h2;refine .inl ⟨w.stop i (!0), ?_⟩;exact k D vs c p G (s1.trans r) (j.add r F Z Ko.lst f) (s1.none F) Z f (r2.mv (.anti L λa z=>by
   rcases z with(z|z)|z
   .exact .inl (.inl z)
   .exact .inr z
   .exact .inl (.inr z))) h2
structure Yp (X:Cx) (tg elt:Expr) (ifs:List Expr) (scope:Scope) (own:Nat) (ix:List Nat) (N:List Str) (g:AG) (t:AT) (te:AE):Prop where
 ex:∃g' t' te',GJ X tg elt ifs scope own ix N g' t' te'/\Kr X.K g' g/\Ni X.K t' t/\Gr X.K te' te
def C2 {iter:kd}{own:Nat}{N:km Str}{t:AT}(hc:X.calm=true)(hi:SI X f iter s h)(O:Yp X f c d scope own ix N g t ta)(hs:∀x,foldedSetIterable iter X.env x=pure x:=by intro _;rfl):SF X (.ListComp c [⟨f,iter,d,0⟩] scope pos) (CO h own ix g t ta):=by obtain⟨m,i,j⟩:=hi;obtain⟨g',t',k,O,sg,st,l⟩:=O.ex;exact⟨_,lK hc i O hs,Oo j sg st l⟩
def WK {i:Nat}{c:Pos}{iter:kd}{own:Nat}{N:km Str}{t:AT}(hc:X.calm=true)(hN:X.N.Nodup)(k:X.N[i]? =some x)(hx:Loc X.env.scope x)(hi:SI X h iter s j)(O:Yp X h d f scope own ix N g t ta)(l:swapsWith (.ListComp d [⟨h,iter,f,0⟩] scope pos) (some (.Name x pos')) c.line X.env=pure true:=by rfl)(hs:∀x,foldedSetIterable iter X.env x=pure x:=by intro _;rfl)(m:X.fn x=true\/X.env.scope.names.lookup x=some .local:=by first | exact .inl rfl|exact .inr rfl|assumption):SS X (.Assign [.Name x pos'] (.ListComp d [⟨h,iter,f,0⟩] scope pos) c) (HA (CO j own ix g t ta) i):=by obtain⟨u,n,o⟩:=hi;obtain⟨g',t',p,O,sg,st,r⟩:=O.ex;exact⟨_,Zj hc hN k hx n O l hs m,Zy (Oo o sg st r)⟩
def KH {i:Nat}{c:Pos}{iter:kd}{own:Nat}{N:km Str}{t:AT}(hc:X.calm=true)(hN:X.N.Nodup)(k:X.N[i]? =some x)(hx:Loc X.env.scope x)(hi:SI X h iter s j)(O:Yp X h d f scope own ix N g t ta)(l:swapsWith (.ListComp d [⟨h,iter,f,0⟩] scope pos) (some (.Name x pos')) c.line X.env=pure true:=by rfl)(hs:∀x,foldedSetIterable iter X.env x=pure x:=by intro _;rfl)(m:X.fn x=true\/X.env.scope.names.lookup x=some .local:=by first | exact .inl rfl|exact .inr rfl|assumption):SS X (.Assign [.Name x pos'] (.ListComp d [⟨h,iter,f,0⟩] scope pos) c) (Aj (G9 (CO j own ix g t ta)) (Ak i)):=by obtain⟨u,n,o⟩:=hi;obtain⟨g',t',p,O,sg,st,r⟩:=O.ex;exact⟨_,Zj hc hN k hx n O l hs m,To (iY (Oo o sg st r)) Tp⟩
end
noncomputable def LV (N:Nat)(xs:km PV):A4:=xs.map (λx=>some (.val x))++List.replicate (N-xs.length) none
def An (N:Nat)(b:AS):AF:=λxs Q=>b {nx:=λ_=>Q .non,rt:=Q,bk:=λ_=>False,ct:=λ_=>False} (LV N xs)
def WL {K:AAJ}{T M:kf->Prop}{N:km Str}(va:Gs T M H)(b:∀a,M a->¬T a)(r:Az K T M H vs xs):SR K ⟨T,H,M⟩ T H (start N vs) (LV N.length xs):=by
 have c:∀(j:Nat) (ys:km PV),(LV N.length xs)[j]? ≠some (some (.own ys)):=λj ys h=>by
  unfold LV at h;by_cases hj:j<xs.length
  .rw [ACh (↑hj),AAu,AAi hj] at h;cases h
  .rw [ACU (↑hj),AC8] at h;split at h <;> cases h
 refine⟨by simp[L2.start,LV,r.length],λj x h=> ?_,λj ys h=>absurd h (c j ys),λj k ys d p h=>absurd h (c j ys),va.tp,va.mu,b, .refl va.tp⟩;unfold LV at h;by_cases hj:j<xs.length
 .rw [ACh (↑hj),AAu,AAi hj] at h;cases h;obtain⟨v,hv,rv⟩:=r.get (AAi hj);refine⟨v, ?_,rv.mv (.anti va λa m=>m.elim id λ⟨_,_,z,_⟩=>absurd z (c _ _))⟩;unfold L2.start;rw[ACh (by rw[AAT,r.length];exact hj),AAu,hv];rfl
 .rw [ACU (↑hj),AC8] at h;split at h <;> cases h
section
variable {P:gn}{w:fe}{K:AAJ}{mg:Str->ke kj}{base:Wf}
def j3 {st:Stmt}{N:km Str}{k n:Nat}(F:Wm K x qual st f g)(S:DK N ps (Ar st))(i:n=ps.length)(j:∀(a:kj) (A:Tb) (outer:km Env) (s:ki) (H:Hp) (E:XK),Room k (A.deeper (envOfC qual (Ar st) s.heap.objs.size f a))-> ab (Pt MP P w K mg base N qual (Ar st) f a A outer s H E).nox (CJ st) b):Du P w K mg base MP (k+1) f g ps (CA K n (An N.length b)):=by
 refine F.ok S (λvs H Q E h=> ?_) (λa A outer s H vs Q E l h=> ?_)
 .obtain ⟨T,M,xs,m,_,_,r,hl,_⟩:=h;rw[r.length,hl,i]
 .obtain ⟨T,M,xs,m,va,c,r,hl,hF,hQ⟩:=h;obtain⟨t,p,o⟩:=j a A outer s H E l;refine⟨t,p,o ⟨T,H,M⟩ T _ _ H _ _ (WL va c r) hF ⟨λd e σ' τ' _ u q=> ?_,λ_ _ _ _ _ _ q=>q.elim,λ_ _ _ _ _ _ q=>q.elim,λv x d e y z q=>hQ v x d e y z q⟩⟩;exact hQ _ _ d e u.st .non q
end
section
variable {X:Cx}
def fG {prog:gn}{s:ki}{t:kf}{d:km kj}{Q:kj->ki->Prop}(j:IsTup s.heap t #[])(hb:IsTup s.heap b d.toArray)(k:Q (.ref b) s):wpAny (model prog w) A (binaryOp .Add (.ref t) (.ref b)) Q E s:=by
 obtain⟨⟨cls,l,data,sl⟩,e,hc,n,hd⟩:=id j;obtain⟨⟨f,a,data2,c⟩,g,h,m,i⟩:=id hb;simp only at hc hd h i;subst hc hd h i;exact concat_meets ⟨_,e,rfl⟩ ⟨_,g,rfl⟩ AFn seq_tuple_add AFo AFp (AFq _ _)
  (tuple_addW0 t b #[] d.toArray n m l a sl c (!2)) ⟨e,g,k⟩
def iB (K:AAJ):R2:=λx y H Q=>∃a b ys,x= .ref a/\y= .ref b/\Nj K H a [] /\Nj K H b ys/\Q (.ref b) H
def gb:Ea X (binaryOp .Add) (iB X.K):=by intro Sr s g H x y v u Q I d e h;obtain⟨a,b,ys,rfl,rfl,ha,hb,q⟩:=h;cases d;cases e;obtain⟨f,r1,p1,_⟩:=I.tuple ha;obtain⟨c,r2,p2,_⟩:=I.tuple hb;cases r1;exact fG p1 p2 ⟨.ref b,H,I,rfl,q⟩
def nw (K:AAJ):R2:=λx y H Q=>((Me (λi j=>V.int (i+j)) x y H Q\/vL x y H Q)\/n8 K x y H Q)\/iB K x y H Q
def Cc:IW:=λx y Q=>match x,y with
 | .int i, .int j=>Q (.int (i+j))
 | .lst xs, .lst ys=>xs.length+ys.length<=sizeLine/\Q (.lst (xs++ys))
 | .tup xs, .tup ys=>xs.length+ys.length<=sizeLine/\Q (.tup (xs++ys))
 | _,_=>False
def Bl:Ea X (binaryOp .Add) (nw X.K)/\CN X.K (nw X.K) Cc:=by
 refine⟨((HM.or qT).or lG).or gb,λT M H u v x y Q r va g rv h k=> ?_⟩;unfold Cc at h;split at h <;> first | exact h.elim|skip
 .exact .inl (.inl (.inl ⟨_,_,g.toI,rv.toI,k _ _ T H (.refl va.tp) (.int _) h⟩))
 .obtain ⟨a,vs,rfl,hq,s,t,d⟩:=Dt g;obtain⟨b,f,rfl,i,j,l,c⟩:=Dt rv;refine .inl (.inl (.inr ⟨a,b,vs,f,rfl,rfl,hq,i,by rw[d.length,c.length];exact h.1,λp hp=> ?_⟩));have st:=Cq.lay (o:= .lst (vs++f)) va.tp hp;have m:¬T p:=λz=>by obtain⟨o,e,_⟩:=(va.tp p z).mut;rw[hp] at e;cases e
  have n:¬M p:=λz=>by obtain⟨o,e,_⟩:=va.mu p z;rw[hp] at e;cases e
  exact k _ _ T _ st (.lst Ad m n ((d.append c).stp st va)) h.2
 .obtain ⟨a,vs,rfl,hq,d⟩:=FE g;obtain⟨b,f,rfl,i,c⟩:=FE rv;by_cases e:vs= []
  .subst e;cases d;exact .inr ⟨a,b,f,rfl,rfl,hq,i,k _ _ T H (.refl va.tp) rv (↑h.2)⟩
  .refine .inl (.inr ⟨a,b,vs,f,rfl,rfl,hq,i,e,by rw[d.length,c.length];exact h.1,λz=> ?_,λz p hp=> ?_⟩)
   .subst z;cases c;exact k _ _ T H (.refl va.tp) g (↑h.2)
   .have st:=Cq.lay (o:= .tup (vs++f)) va.tp hp;exact k _ _ T _ st (.tup (.inl Ad) ((d.append c).stp st va)) h.2
def Hv {prog:gn}{s:ki}{t sl:kf}{lo hi:ke Int}{Q:kj->ki->Prop}(a:IsTup s.heap t items)(hs:s.heap.IsSliceOf sl b c .none)(d:IsPart b lo)(e:IsPart c hi)(hw:HT.sIx items.size 0 lo=0/\HT.sIx items.size items.size hi=items.size)(h:Q (.ref t) s):wpAny (model prog w) A (getItem (.ref t) (.ref sl)) Q E s:=by
 obtain⟨os,f,g,n⟩:=id hs;have i:s.TypeIs (.ref sl) "slice" :=⟨os,f,g⟩;obtain⟨o,j,k,p,l⟩:=id a;unfold getItem;try with_reducible refine AAp ?_
 first | refine AAI (AAK ?_)|skip
 refine AAI (wpAny_sequenceKey a.typeIs (!1) ?_);refine AAI (ACe (name:=Str.ofString "__getitem__") a.typeIs ADk
  (AB7 ADk a.typeIs entry_tuple_getitem ?_ (args_tuple_getitem _ _)))
 show wpAny _ _ (Builtin.Tuple.tupleItemsOf (.ref t) >>= _) _ _ s;refine AAI (tupleItemsOf_ a ?_);refine AAI (AEY i ?_);rw[AAM (!1)];refine AAI (HT.sliceApplied_gen hs d e ?_);have m:((((HT.sIx items.size 0 lo:Nat):Int)==0&&(1:Int)==1&&(HT.sIx items.size items.size hi-HT.sIx items.size 0 lo)==items.size)=true):=by rw[hw.1,hw.2];simp
 show wpAny _ _ (if (((HT.sIx items.size 0 lo:Nat):Int)==0&&(1:Int)==1&&(HT.sIx items.size items.size hi-HT.sIx items.size 0 lo)==items.size)=true then _ else _) _ _ s;rw[AAM m];unfold Builtin.Tuple.tupleIsExact;simp only[bind_assoc,pure_bind];refine AAI (AEY a.typeIs ?_);rw[AAM (!1)];exact AAI (ACK (AAK ⟨_,rfl,AAK h⟩))
def yx (K:AAJ):V->ke Int->ke Int->Hp->VK->Prop:=λx lo hi H Q=>∃a xs,x= .ref a/\Nj K H a xs/\
 (HT.sIx xs.length 0 lo=0/\HT.sIx xs.length xs.length hi=xs.length)/\Q (.ref a) H
def mR:nJ X (yx X.K):=by
 intro Sr s i H x v j k lo hi sl Q I d hs e f h;obtain⟨a,xs,rfl,hx,hw,q⟩:=h;cases d;obtain⟨b,r,c,hz⟩:=I.tuple hx;have g:b.toArray.size=xs.length:=by rw[AAh];exact r.length.symm
 refine⟨"tuple",_,ADk.lookup,c.typeIs, ?_⟩;exact Hv c hs e f (by rw[g];exact hw) ⟨.ref a,H,I,rfl,q⟩
noncomputable def L9 (xs:km PV)(lo hi:ke Int):km PV:=(xs.drop (HT.sIx xs.length 0 lo)).take (HT.sIx xs.length xs.length hi-HT.sIx xs.length 0 lo)
def Y1 {K:AAJ}(r:Az K T M H vs xs)(lo hi:ke Int):Az K T M H (Ps vs lo hi) (L9 xs lo hi):=by unfold Ps L9;rw[r.length];exact(r.drop _).take _
abbrev AO:=A4->(ke Int->Prop)->Prop
def xj (K:AAJ)(t:TO)(a:AO):Prop:=∀(B:C0) (T:kf->Prop) (b:L2.St) (τ:A4) (H:Hp) (Q:ke Int->Hp->Prop) (c:ke Int->Prop),SR K B T H b τ->a τ c->
 (∀o e d,Cq T H e d->c o->Q o d)->t b H Q
def SO (X:Cx)(e:ke kd)(a:AO):Prop:=∃t,PO X e t/\xj X.K t a
def jr:AO:=λ_ Q=>Q none
def jt (a:AE):AO:=λτ Q=>a τ λx=>UI x λi=>Q (some i)
def rQ:SO X none jr:=⟨_,lV,λB T b τ H Q c a h k=>k _ T H (.refl a.tp) h⟩
def rR (h:SE X e a):SO X (some e) (jt a):=by obtain⟨t,p,s⟩:=h;refine⟨_,lW p,λB T b τ H Q f c h k=>s B T b τ H _ _ c h λv x T1 H1 d r1 h1=> ?_⟩;obtain⟨i,rfl,q⟩:=HL h1;exact⟨i,r1.toI,k _ T1 H1 d q⟩
@[irreducible] def jI (x:PV)(lo hi:ke Int)(Q:PV->Prop):Prop:=match x with | .tup xs=>Q (.tup (L9 xs lo hi)) | .lst xs=>Q (.lst (L9 xs lo hi))|_=>False
def Mm {lo hi:ke Int}{Q:PV->Prop}(h:Q (.tup (L9 xs lo hi))):jI (.tup xs) lo hi Q:=by unfold jI;exact h
def EF {lo hi:ke Int}{Q:PV->Prop}(h:Q (.lst (L9 xs lo hi))):jI (.lst xs) lo hi Q:=by unfold jI;exact h
def jo (a:AE)(l h:AO):AE:=λτ Q=>a τ λx=>l τ λlo=>h τ λhi=>jI x lo hi Q
def Om {lo hi:ke kd}(he:SE X e A)(hl:SO X lo l)(C:SO X hi h):SE X (.Subscript e (.Slice lo hi none p2) pos) (jo A l h):=by
 obtain⟨t,p,s⟩:=he;obtain⟨t1,p1,n⟩:=hl;obtain⟨t2,r,u⟩:=C;refine⟨_,gw ((mQ.or rP).or mR) p p1 r,λB T m τ H Q J d h k=>s B T m τ H _ _ d h λv x T1 H1 f r1 h1=> ?_⟩;refine n B T1 m τ H1 _ _ (d.stp f) h1 λlo D E g h2=> ?_;refine u B D m τ E _ _ ((d.stp f).stp g) h2 λhi T3 F w h3=> ?_;have b:=((d.stp f).stp g).stp w;have y:=(r1.stp g (d.stp f).va).stp w ((d.stp f).stp g).va;have c:=(f.trans g).trans w;unfold jI at h3;split at h3 <;> first | exact h3.elim|skip
 .obtain ⟨a,vs,rfl,hq,i⟩:=FE y;by_cases hw:HT.sIx vs.length 0 lo=0/\HT.sIx vs.length vs.length hi=vs.length
  .refine .inr ⟨a,vs,rfl,hq,hw,k _ _ T3 F c y ?_⟩;rename_i xs;have:L9 xs lo hi=xs:=by unfold L9;rw[<-i.length,hw.1,hw.2,i.length];simp
   rw[this] at h3;exact h3
  .refine .inl (.inr ⟨a,vs,rfl,hq,hw,λq j=> ?_⟩);have st:=Cq.lay (o:= .tup (Ps vs lo hi)) b.tp j;exact k _ _ T3 _ (c.trans st) (.tup (.inl Ad) ((Y1 i lo hi).stp st b.va)) h3
 .obtain ⟨a,vs,rfl,hq,K,L,i⟩:=Dt y;refine .inl (.inl ⟨a,vs,rfl, .inl (.inl hq),λq j=> ?_⟩);have st:=Cq.lay (o:= .lst (Ps vs lo hi)) b.tp j;have G:¬T3 q:=λz=>by obtain⟨o,e,_⟩:=(b.tp q z).mut;rw[j] at e;cases e
  have I:¬mt B m τ q:=λz=>by obtain⟨o,e,_⟩:=b.va.mu q z;rw[j] at e;cases e
  exact k _ _ T3 _ (c.trans st) (.lst Ad G I ((Y1 i lo hi).stp st b.va)) h3
end
def BI:AF:=λxs Q=>match xs with | [.tape, .int m] =>(0<m/\m<4611686018427387904)/\∀r,0<=r->r<m->Q (.int r)|_=>False
def Nf:AF:=λxs Q=>match xs with | [.scr ns, .int k] =>(0<=k/\k<=1000)/\Q .tape|_=>False
def tU (g:TG):Prop:=∀v b H Q c,(∀a d,Q a d->c a d)->g v b H Q->g v b H c
def oO (g:Wq):Prop:=∀v b H Q c,(∀a d,Q a d->c a d)->g v b H Q->g v b H c
def SK (own:Nat)(X:Cx)(a:kd)(ag:AG):Prop:=∃g,PG X a g/\Kr X.K g ag/\IE own g/\tU g
def wd (own:Nat)(X:Cx)(a:km kd)(ag:Wa):Prop:=∃g,sP X a g/\Qa X.K g ag/\Nh own g/\oO g
section
variable {X:Cx}{pos:Pos}{own:Nat}
def mO {i:Nat}(hN:X.N.Nodup)(hi:X.N[i]? =some x)(hx:Loc X.env.scope x)(hk:i<own)(a:X.fn x=true\/X.env.scope.names.lookup x=some .local:=by first | exact .inl rfl|exact .inr rfl|assumption):SK own X (.Name x pos) (Ak i):=
 ⟨_,Eh hN hi hx a,Tp,SX hk,MU⟩
def Ml:wd own X [] BP:=⟨_,J3,WH,ZC,SY⟩
def EO (h1:SK own X e ag)(h2:wd own X es a)(hs:(assignEach (e::es) X.env).map (·.2)=assign e X.env::(assignEach es X.env).map (·.2):=by rfl):wd own X (e::es) (Ab ag a):=
 let ⟨_,p,s,k,m⟩:=h1;let ⟨_,c,d,f,b⟩:=h2;⟨_,Dm p c hs,RE s d,Nx k m f b,U8 m b⟩
end
def sS (K:AAJ)(own:Nat)(ag:AG):TG:=λv a H Q=>∃(B:C0) (T:kf->Prop) (τ:A4) (x:PV) (c:A4->Prop),SR K B T H a τ/\B8 K T (mt B a τ) H v x/\ag x τ c/\
 ∀σ' τ',SR K B T H σ' τ'->(∀b,Ch σ' τ' b->Ch a τ b)->c τ'->(σ'.length=a.length/\∀j,own<=j->σ'[j]? =a[j]?)->Q σ' H
def wK (K:AAJ)(a:AT):TT:=λe H Q=>∃(B:C0) (T:kf->Prop) (τ:A4) (c:kc->Prop),SR K B T H e τ/\a τ c/\∀b f d,Cq T H f d->c b->Q b d
def uH (K:AAJ)(a:AE):TE:=λc H Q=>∃(B:C0) (T:kf->Prop) (τ:A4) (d:PV->Prop),SR K B T H c τ/\a τ d/\∀v x e b,Cq T H e b->B8 K e (mt B c τ) b v x->d x->Q v b
def Tq {K:AAJ}{own:Nat}:Kr K (sS K own ag) ag:=λB T c τ H v x Q a b r h k=>⟨B,T,τ,x,a,b,r,h,λσ' τ' s o q _=>k σ' τ' s o q⟩
def N7 {K:AAJ}{own:Nat}:IE own (sS K own ag):=λv c H Q ⟨B,T,τ,x,a,b,r,h,k⟩=>⟨B,T,τ,x,a,b,r,h,λσ' τ' s o q z=>⟨k σ' τ' s o q z,z⟩⟩
def Tt {K:AAJ}:Ni K (wK K a) a:=λB T d τ H Q b c h k=>⟨B,T,τ,b,c,h,k⟩
def Zx {K:AAJ}:Gr K (uH K a) a:=λB T d τ H Q b c h k=>⟨B,T,τ,b,c,h,k⟩
section
variable {X:Cx}
def SK.of {own:Nat}(h:SK own X e ag):PG X e (sS X.K own ag):=by obtain⟨g,p,s,k,m⟩:=h;intro Sr i a H v u Q I r hw;obtain⟨B,T,τ,x,f,j,l,h,c⟩:=hw;have h1:g v a H λσ' n=>n=H/\∃τ',SR X.K B T H σ' τ'/\(∀b,Ch σ' τ' b->Ch a τ b)/\f τ':=s B T a τ H v x _ f j l h λσ' τ' s o q=>⟨rfl,τ',s,o,q⟩;have h2:=k v a H _ h1;refine p Sr i a H v u Q I r (m v a H _ _ (λd A q=> ?_) h2);obtain⟨⟨rfl,τ',t,w,y⟩,z⟩:=q;exact c d τ' t w y z
def oW.of (h:oW X b a):aZ X b (wK X.K a):=by obtain⟨t,p,s⟩:=h;intro Sr e d H Q I hw;obtain⟨B,T,τ,f,g,h,c⟩:=hw;exact p Sr e d H Q I (s B T d τ H Q f g h c)
def SE.of (h:SE X e a):PE X e (uH X.K a):=by obtain⟨t,p,s⟩:=h;intro Sr d b H Q I hw;obtain⟨B,T,τ,f,g,h,c⟩:=hw;exact p Sr d b H Q I (s B T b τ H Q f g h c)
def CI {scope:Scope}{own:Nat}{ix:km Nat}{N:km Str}{t:AT}(h1:scope.kind= .function)(h2:(scope.names.all λy=> !decide (y.2= .cell))=true)(h3:(scope.names.all λy=> !decide (y.2= .local)||decide (scope.names.lookup y.1=some .local))=true)(f:(scope.names.all λy=> !decide (y.2= .free)||decide (X.env.scope.names.lookup y.1=some .cell))=true)(h:N.length=own+ix.length)(i:SQ X (relabel scope X.env) own ix N=true)(c:∀cl C s H ex pn,SK own (blk X (relabel scope X.env) N cl C s H ex pn) e g)(d:∀cl C s H ex pn,oW (blk X (relabel scope X.env) N cl C s H ex pn) b t)(val:∀cl C s H ex pn,SE (blk X (relabel scope X.env) N cl C s H ex pn) a te):Yp X e a b scope own ix N g t te:=
 ⟨sS X.K own g,wK X.K t,uH X.K te,SD h1 h2 h3 f h i N7 (λcl C s H ex pn=>(c cl C s H ex pn).of) (λcl C s H ex pn=>(d cl C s H ex pn).of) (λcl C s H ex pn=>(val cl C s H ex pn).of),Tq,Tt,Zx⟩
end
mutual
noncomputable def pd:PV->PyData
 | .bl b=> .bool b
 | .int i=> .int i
 | .str x=> .str x
 | .tup xs=> .tuple (TD xs)
 | .lst xs=> .list (TD xs)
 | _=> .none
noncomputable def TD:km PV->km PyData
 | [] => []
 | x::xs=>pd x::TD xs
end
mutual
noncomputable def EN:Nat->PV->kc
 | _, .non=>true
 | _, .bl _=>true
 | _, .int _=>true
 | _, .str x=>PyData.strOk x
 | n+1, .tup xs=>Jz n xs
 | n+1, .lst xs=>Jz n xs
 | _,_=>false
noncomputable def Jz:Nat->km PV->kc
 | _, [] =>true
 | n,x::xs=>EN n x&&Jz n xs
end
mutual
theorem Jy:∀(n:Nat) (x:PV),EN n x=true->(pd x).canLay0=true/\(pd x).depth<=n/\(pd x).hasDict=false
 | n, .non,_=>⟨rfl,ACB _,rfl⟩
 | n, .bl _,_=>⟨rfl,ACB _,rfl⟩
 | n, .int _,_=>⟨rfl,ACB _,rfl⟩
 | n, .str x,h=>⟨by simpa[pd,PyData.canLay0,EN] using h,ACB _,rfl⟩
 | 0, .tup xs,h=>by simp[EN] at h
 | 0, .lst xs,h=>by simp[EN] at h
 | n+1, .tup xs,h=>by obtain⟨a,b,c⟩:=OH n xs (by simpa[EN] using h);exact⟨by simpa[pd,PyData.canLay0] using a,by simpa[pd,PyData.depth] using b,by simpa[pd,PyData.hasDict] using c⟩
 | n+1, .lst xs,h=>by obtain⟨a,b,c⟩:=OH n xs (by simpa[EN] using h);exact⟨by simpa[pd,PyData.canLay0] using a,by simpa[pd,PyData.depth] using b,by simpa[pd,PyData.hasDict] using c⟩
 | n, .tape,h=>by simp[EN] at h
 | n, .scr _,h=>by simp[EN] at h
 | n, .ty _,h=>by simp[EN] at h
 | n, .dct _,h=>by simp[EN] at h
 | n, .dk _,h=>by simp[EN] at h
theorem OH:∀(n:Nat) (xs:km PV),Jz n xs=true->PyData.canLayAll0 (TD xs)=true/\PyData.depthAll (TD xs)<=n/\PyData.hasDictAll (TD xs)=false
 | n, [],_=>⟨rfl,ACB _,rfl⟩
 | n,x::xs,h=>by simp only[Jz,AA7] at h;obtain⟨a,b,c⟩:=Jy n x h.1;obtain⟨d,f,e⟩:=OH n xs h.2;exact⟨by simp[TD,PyData.canLayAll0,a,d],by simp only[TD,PyData.depthAll];omega,by simp[TD,PyData.hasDictAll,c,e]⟩
end
section
variable {X:Cx}{Sr:km (kf×Obj)}{σ:L2.St}{H:Hp}{s:ki}
mutual
theorem HQ (I:Inv X Sr σ H s):∀(n:Nat) {x:PV} {v:V} {u:kj},B8 X.K T M H v x->EN n x=true->RelV v u->∃as,Reads s.heap u (pd x) as
 | _,_,_,_, .non,_,r=>by cases r;exact⟨_, .none⟩
 | _,_,_,_, .bl b,_,r=>by cases r;exact⟨_, .bool b⟩
 | _,_,_,_, .int i,_,r=>by obtain⟨t,rfl⟩:=r;exact⟨_, .int i t⟩
 | _,_,_,_, .str x,_,r=>by obtain⟨t,rfl⟩:=r;exact⟨_, .str x t⟩
 | _,_,_,_, .ty n,h,r=>by simp[EN] at h
 | 0,_,_,_, .tup hq rs,h,r=>by simp[EN] at h
 | 0,_,_,_, .lst hq t m rs,h,r=>by simp[EN] at h
 | n+1,_,_,_, .tup hq rs,h,r=>by cases r;obtain⟨a,rv,⟨o,c,hc,k,hd⟩,_⟩:=I.tuple hq.sq;obtain⟨as,ra⟩:=HP I n rs (by simpa[EN] using h) rv;exact⟨_, .tuple c hc hd (↑ra)⟩
 | n+1,_,_,_, .lst hq t m rs,h,r=>by cases r;obtain⟨a,rv,⟨o,k,c,hc,_,hd⟩,_⟩:=I.list (GH.of hq);obtain⟨as,ra⟩:=HP I n rs (by simpa[EN] using h) rv;exact⟨_, .list c hc hd (↑ra)⟩
 | _,_,_,_, .tape _,h,r=>by simp[EN] at h
 | _,_,_,_, .scr _,h,r=>by simp[EN] at h
 | _,_,_,_, .dct _ _ _,h,r=>by simp[EN] at h
 | _,_,_,_, .dk _ _,h,r=>by simp[EN] at h
theorem HP (I:Inv X Sr σ H s):∀(n:Nat) {xs:km PV} {vs:km V} {a:km kj},Az X.K T M H vs xs->Jz n xs=true->Au vs a->∃as,ReadsAll s.heap a (TD xs) as
 | _,_,_,_, .nil,_,r=>by cases r;exact⟨_, .nil⟩
 | n,_,_,_, .cons h t,hk,r=>by
   simp only[Jz,AA7] at hk;cases r with
   | cons r b=> obtain⟨as,ra⟩:=HQ I n h hk.1 r;obtain⟨bs,c⟩:=HP I n t hk.2 b;exact⟨_, .cons ra c⟩
end
end
section
variable {X:Cx}
noncomputable def uI (x y:PV):kc:=PyData.eqv (pd x) (pd y)
def lw (K:AAJ)(neg:kc):R2:=λu v H Q=>∃(T M:kf->Prop) (x y:PV),B8 K T M H u x/\B8 K T M H v y/\EN 30 x=true/\EN 30 y=true/\Q (.bl (if neg then !uI x y else uI x y)) H
def qU {k:Nat}(c:Room k X.A):Ea X (compareOp .Eq) (lw X.K false):=by intro Sr s j H u v l m Q I d rv h;obtain⟨T,M,x,y,e,f,a,b,q⟩:=h;obtain⟨as,ra⟩:=HQ I 30 e a d;obtain⟨bs,g⟩:=HQ I 30 f b rv;obtain⟨i,n,_⟩:=Jy 30 x a;obtain⟨b1,b2,_⟩:=Jy 30 y b;exact SeqAt.compareEq_reads ra g i b1 (by have:=c.un;omega) ⟨.bl _,H,I,rfl,q⟩
def qW {k:Nat}(c:Room k X.A):Ea X (compareOp .NotEq) (lw X.K true):=by intro Sr s j H u v l m Q I d rv h;obtain⟨T,M,x,y,e,f,a,b,q⟩:=h;obtain⟨as,ra⟩:=HQ I 30 e a d;obtain⟨bs,g⟩:=HQ I 30 f b rv;obtain⟨i,n,_⟩:=Jy 30 x a;obtain⟨b1,b2,_⟩:=Jy 30 y b;exact SeqAt.compareNe_reads ra g i b1 (by have:=c.un;omega) ⟨.bl _,H,I,rfl,q⟩
def O9:IW:=λx y Q=>match iN x y with | some b=>Q (.bl b)|none=>(EN 30 x=true/\EN 30 y=true)/\Q (.bl (uI x y))
def bC:IW:=λx y Q=>match iN x y with | some b=>Q (.bl (!b))|none=>(EN 30 x=true/\EN 30 y=true)/\Q (.bl (!uI x y))
def vM (K:AAJ):R2:=λx y H Q=>rEq x y H Q\/lw K false x y H Q
def vT (K:AAJ):R2:=λx y H Q=>rNe x y H Q\/lw K true x y H Q
def Ec {k:Nat}(c:Room k X.A):Ea X (compareOp .Eq) (vM X.K)/\CN X.K (vM X.K) O9:=by
 refine⟨vA.or (qU c),λT M H u v x y Q d va a rv h k=> ?_⟩;unfold O9 at h;split at h
 .rename_i b e;obtain⟨h1,h2⟩:=WD a rv e;refine .inl ⟨h1, ?_⟩;rw[h2];exact k _ _ T H (.refl va.tp) (.bl _) h
 .exact .inr ⟨T,M,x,y,a,rv,h.1.1,h.1.2,k _ _ T H (.refl va.tp) (.bl _) h.2⟩
def RF {k:Nat}(c:Room k X.A):Ea X (compareOp .NotEq) (vT X.K)/\CN X.K (vT X.K) bC:=by
 refine⟨vC.or (qW c),λT M H u v x y Q d va a rv h k=> ?_⟩;unfold bC at h;split at h
 .rename_i b e;obtain⟨h1,h2⟩:=WD a rv e;refine .inl ⟨h1, ?_⟩;rw[h2];exact k _ _ T H (.refl va.tp) (.bl _) h
 .exact .inr ⟨T,M,x,y,a,rv,h.1.1,h.1.2,k _ _ T H (.refl va.tp) (.bl _) h.2⟩
structure oX (x:PV):Prop where
 ok:EN 30 x=true
 sh:(pd x).showable=true
 sz:(pd x).shown.length<=sizeLine
end
section
variable {prog:gn}{w:fe}{A:Tb}{E:kj->ki->Prop}{s:ki}
def Ll {h:Wf}(hl:h.IsList l items)(o:Obj):(h.push o).IsList l items:=by obtain⟨a,e,r⟩:=hl;exact⟨a,AAP _ e,r⟩
theorem Qp {it t:kf}(f:t≠it):∀(n i:Nat) (s:ki) (Q:km kj->ki->Prop),s.heap.IsListIter it t i->s.heap.IsList t items->i+n<=items.size-> (∀h',h'.IsListIter it t (i+n)->Heap.SameBut it s.heap h'->Q ((items.toList.drop i).take n) {s with heap:=h'})->wpAny (model prog w) A (draw (.ref it) n) Q E s
 | 0,i,s,Q,hit,_,_,hQ=>by show wpAny _ _ (pure []) Q E s;exact AAK (by simpa using hQ s.heap hit (Heap.SameBut.refl ..))
 | n+1,i,s,Q,hit,ht,dU,hQ=>by
   have g:i<items.size:=!0
   show wpAny _ _ (pyNext (.ref it) >>= _) Q E s;refine AAI (wpAny_pyNext_list_item hit ht (x:=items[i]) (by simp[g]) λh b a=> ?_);refine AAI (AAp (Qp f n (i+1) _ _ b (ht.extBut a.extBut f) (!0) λe c d=>AAK ?_));have hd:items.toList.drop i=items[i] :: items.toList.drop (i+1):=by simp[ADt,g]
   have:=hQ e (by rw[show i+(n+1)=i+1+n by omega];exact c) (a.trans d);rw[hd,AFv] at this;exact this
def LY {t:kf}{Q:km kj->ki->Prop}(k:A.handled=none)(g:s.heap.IsList t items)(hQ:∀h',Heap.ExtBut s.heap.objs.size s.heap h'->Q items.toList {s with heap:=h'}):wpAny (model prog w) A (unpackItems (.ref t) items.size none) Q E s:=by
 have j:t≠s.heap.objs.size:=by obtain⟨o,l,_⟩:=g;exact AAQ (AAN l)
 unfold unpackItems;refine AAI ?_
 .unfold notIterableAtAll;refine AAI (AC4 g.typeIs slot_list_iter.lookup ?_);refine AAK ?_;simp only[AA4,AAn];refine AAI (AAp (AFu g ?_));refine AAI (AAp (Qp j items.size 0 _ _ ⟨_,AAV _ rfl,rfl,rfl⟩ (Ll g _) (!0) λh c a=> ?_));have m:List.take items.size (List.drop 0 items.toList)=items.toList:=by rw[List.drop_zero];exact ADA (!2)
  rw[m];rw[AAL (!2)];have d:h.IsList t items:=(Ll g _).extBut a.extBut j;refine AAI (AAp (wpAny_pyNext_list_end k c d (!2) λi f=> ?_));simp only[Option.isSome_none,AA4,AAn];refine AAK (hQ i λb o hb e=>f b o hb (a.extBut b o hb (AAP _ e)))
def Je {x1}{t:kf}(a:A.handled=none)(b:s.heap.IsList t items)(c:(assignEach elts env).length=items.size)(d:(assignEach elts env).findIdx? (·.1)=none)(h:∀h',Heap.ExtBut s.heap.objs.size s.heap h'->wpAny (model prog w) A (assignInOrder ((assignEach elts env).map (·.2)) items.toList) Q E {s with heap:=h'}):wpAny (model prog w) A (assign (.Tuple elts x1 pos) env (.ref t)) Q E s:=by rw[assign_Tuple];refine AAI (ACF ?_);unfold unpack;rw[c,d];exact AAI (AAp (LY a b h))
end
section
variable {X:Cx}{pos:Pos}
def Pw (K:AAJ)(n:Nat)(t:Wq):TG:=λv b H Q=>∃a xs,v= .ref a/\(Nj K H a xs\/GH K H a xs)/\xs.length=n/\t xs b H Q
def OR {k:Nat}{t:Wq}{n:Nat}(hc:X.calm=true)(h:sP X es t)(i:(assignEach es X.env).length=n:=by rfl)(j:(assignEach es X.env).findIdx? (·.1)=none:=by rfl):PG X (.Tuple es k pos) (Pw X.K n t):=by
 intro Sr s c H v u Q I r hw;obtain⟨a,xs,l,hq,hl,hw⟩:=hw;subst l;cases r;rcases hq with hq|hq
 .obtain ⟨d,rv,f,hz⟩:=I.tuple hq;refine assign_Tuple_tuple (I.ok.hd hc) f (by simp[i,<-hl,rv.length]) j λh' hx=> ?_;have g:Inv X Sr c H {s with heap:=h'}:=I.kept (t':=s.toks) λb o e=>hx b o (AAQ (AAN e)) e;exact h Sr _ c H xs _ Q g (↑rv) hw
 .obtain ⟨d,rv,f,hz⟩:=I.list hq;refine Je (I.ok.hd hc) f.isList (by simp[i,<-hl,rv.length]) j λh' hx=> ?_;have g:Inv X Sr c H {s with heap:=h'}:=I.kept (t':=s.toks) λb o e=>hx b o (AAQ (AAN e)) e;exact h Sr _ c H xs _ Q g (↑rv) hw
def HB (n:Nat)(r:Wa):AG:=λx τ Q=>Mb x λxs=>xs.length=n/\r xs τ Q
def iZ {K:AAJ}(s:Qa K c a):Kr K (Pw K n c) (HB n a):=λB T d τ H v x Q e f r h k=>by
 obtain⟨xs,hx,h⟩:=GV h;rcases hx with rfl|rfl
 .obtain ⟨p,vs,rfl,hq,b⟩:=FE r;exact⟨p,vs,rfl, .inl hq,by rw[b.length];exact h.1,s B T d τ H vs _ Q e f b h.2 k⟩
 .obtain ⟨p,vs,rfl,hq,g,i,b⟩:=Dt r;exact⟨p,vs,rfl, .inr (.inl (.inl hq)),by rw[b.length];exact h.1,s B T d τ H vs _ Q e f b h.2 k⟩
def Bi {k:Nat}{n:Nat}(hc:X.calm=true)(h:wY X es a)(b:(assignEach es X.env).length=n:=by rfl)(c:(assignEach es X.env).findIdx? (·.1)=none:=by rfl):SG X (.Tuple es k pos) (HB n a):=
 let ⟨_,p,s⟩:=h;⟨_,OR hc p b c,iZ s⟩
def fb {own:Nat}{K:AAJ}{t:Wq}(h:Nh own t):IE own (Pw K n t):=λv b H Q ⟨a,xs,e,h1,h2,h3⟩=>⟨a,xs,e,h1,h2,h xs b H Q h3⟩
def Tw {own:Nat}{k:Nat}{n:Nat}(hc:X.calm=true)(h:wd own X es b)(c:(assignEach es X.env).length=n:=by rfl)(d:(assignEach es X.env).findIdx? (·.1)=none:=by rfl):SK own X (.Tuple es k pos) (HB n b):=
 let ⟨_,p,s,f,m⟩:=h;⟨_,OR hc p c d,iZ s,fb f,λv g H Q i z ⟨a,xs,e,h1,h2,h3⟩=>⟨a,xs,e,h1,h2,m _ _ _ _ _ z h3⟩⟩
def pk:oT X .Mult (λx y H Q=>∃i j,x= .int i/\y= .int j/\MulOk i j/\Q (.int (i*j)) H):=by intro Sr s d H x y v u Q I r1 r2 h;obtain⟨i,j,a,b,c,q⟩:=h;subst a;subst b;obtain⟨t,rfl⟩:=r1;obtain⟨t',rfl⟩:=r2;exact AutoIntOps.imul_0 (show (Made.int (i*j)).post _ _ from⟨.int _,H,I.tok _,⟨_,rfl⟩,q⟩) (.of_le (Hk c.l) (Hk c.r) (!1))
def rK:oT X .Mult (λx y H Q=>∃i j,x= .int i/\y= .int j/\MulOk i j/\Q (.int (i*j)) H)/\CN X.K (λx y H Q=>∃i j,x= .int i/\y= .int j/\MulOk i j/\Q (.int (i*j)) H) C6:=⟨pk,λT M H u v x y Q b va a rv h k=>by
 obtain⟨i,j,rfl,rfl,c,q⟩:=Ma h;exact⟨i,j,a.toI,rv.toI,c,k _ _ T H (.refl va.tp) (.int _) q⟩⟩
end
def Oq {i:Int}(a:0<=i)(b:i<2147483647): -(2^64)<i/\i<2^64:=⟨!0,!0⟩
def b01 (b:kc):(0:Int)<=(if b=true then 1 else 0):=by cases b <;> decide
def b64 (b:kc): -(2^64)<(if b=true then (1:Int) else 0)/\(if b=true then (1:Int) else 0)<2^64:=by cases b <;> decide
def i6 {T:kf->Prop}{d x:Int}(tp:∀a,T a->E8 H a)(t:T p)(c:0<=d)(f:0<=x)(g:x<2147483647):Cq T H T (upd H p (.lst [.int d, .int x])) where
 keep:=λb o n e=>by rw[Ae (λz=>n (by subst z;exact t))];exact e
 sub:=λ_ t=>t
 new:=λ_ t=> .inl t
 tp:=λa h=>by
  by_cases z:a=p
  .subst z;exact⟨d,x,Ad,c,f,g⟩
  .obtain ⟨d',i,e,q⟩:=tp a h;exact⟨d',i,by rw[Ae z];exact e,q⟩
def i5 {T:kf->Prop}{H:Hp}{d x:Int}(tp:∀a,T a->E8 H a)(hp:H p=none)(f:0<=d)(g:0<=x)(h:x<2147483647):Cq T H (λb=>T b\/b=p) (upd H p (.lst [.int d, .int x])) where
 keep:=λb o n e=>by rw[Ae (Al e hp)];exact e
 sub:=λ_ t=> .inl t
 new:=λb t=>t.elim .inl λz=> .inr (by subst z;exact hp)
 tp:=λa c=>by
  by_cases z:a=p
  .subst z;exact⟨d,x,Ad,f,g,h⟩
  .rcases c with c|c
   .obtain ⟨d',i,e,q⟩:=tp a c;exact⟨d',i,by rw[Ae z];exact e,q⟩
   .exact absurd c z
def law_sp {K:AAJ}{b:km Int}{F:AF}(c:GH K H a (b.map V.int))(h:F [.scr b] λx=>x= .bl true):CA K 1 F [.ref a] H (λv _=>v= .bl true) λ_ _ _=>False:=by
 refine⟨λ_=>False,λ_=>False, [.scr b],_,⟨λ_ z=>z.elim,λ_ z=>z.elim⟩,λ_ z=>z.elim, .cons (.scr ?_) .nil,rfl,h,λv x d f _ r e=> ?_⟩
 .rcases c with h|h
  .exact .inl ⟨h,id,id⟩
  .exact .inr λH=> .inr h
 .subst e;cases r;rfl
theorem MT {g:AG}{b:AS}{D:Gu}(a:km PV->A4->Prop)(hd:∀τ,a [] τ->D.nx τ)(hs:∀x r τ (R:A4->Prop),(∀τ,a r τ->R τ)->a (x::r) τ->g x τ λc=>b {D with nx:=R,ct:=R,bk:=D.nx} c):∀xs τ,a xs τ->DB g b D xs τ
 | [],τ,h=>hd τ h
 | x::r,τ,h=>hs x r τ _ (λd h2=>MT a hd hs r d h2) h
theorem Yy {g:AG}{t:AT}{te:AE}{Q:km PV->Prop}(c:km PV->km PV->Prop)(hd:∀a,c [] a->Q a)(hs:∀x r a (R:km PV->Prop),(∀a,c r a->R a)->c (x::r) a->g x b λd=>t d λok=>if ok=true then te d λy=>R (a ++ [y]) else R a):∀xs a,c xs a->B9 g t te b Q xs a
 | [],a,h=>hd a h
 | x::r,a,h=>hs x r a _ (λe h2=>Yy c hd hs r e h2) h
theorem Yk {c:AT}{b:AS}{D:Gu}(a:Nat->A4->Prop)(e:∀τ,¬a 0 τ)(hs:∀n τ (R:A4->Prop),(∀τ,a n τ->R τ)->a (n+1) τ->c (frz τ) λk=>if k=true then b {D with nx:=R,ct:=R,bk:=D.nx} τ else D.nx τ):∀n τ,a n τ->WU c b D n τ
 | 0,τ,h=>absurd h (e τ)
 | n+1,τ,h=>hs n τ _ (λd h2=>Yk a e hs n d h2) h
def F9 (lo:Int)(n:Nat):rng lo (n+1)= .int lo::rng (lo+1) n:=by
 unfold rng;rw[List.range_succ_eq_map,AAW,ADF];congr 1
 .simp
 .apply ADG;intro k _;simp only[Function.comp];congr 1;omega
def X8 (lo:Int)(n:Nat):(rng lo n).length=n:=by simp[rng]
end PL
namespace PL
open PySem L2 PyProof.Rows
noncomputable def fr (r:Rat):PV:= .tup [.int r.num, .int (r.den:Int)]
def GS {b:kc}{A B:Prop}(h1:b=true->A)(h2:b=false->B):if b=true then A else B:=by
 cases b with
 | true=>rw[AAM rfl];exact h1 rfl
 | false=>rw[AAL AAY];exact h2 rfl
structure Bd (n:Nat) (r:Rat):Prop where
 top:r.num.natAbs<2^n
 bot:r.den<2^n
def Bd.botI (b:Bd n r):(r.den:Int).natAbs<2^n:=↑b.bot
def OS {m n:Nat}(h:m<=n):2^m<=2^n:=Nat.pow_le_pow_right (!1) h
def Bd.mono {n:Nat}(b:Bd m r)(h:m<=n):Bd n r:=⟨AAf b.top (OS h),AAf b.bot (OS h)⟩
def Xh {a b m n:Nat}(ha:a<2^m)(hb:b<2^n):a*b<2^(m+n):=by rw[AEf];exact Nat.mul_lt_mul_of_lt_of_le ha (AER hb) (Nat.pos_of_ne_zero (by intro z;rw[z] at hb;omega)) |> λh=>h
def B2 {a b:Int}{m n:Nat}(ha:a.natAbs<2^m)(hb:b.natAbs<2^n):(a*b).natAbs<2^(m+n):=by rw[ACW];exact Xh ha hb
def Yu {a b:Int}{n:Nat}(ha:a.natAbs<2^n)(hb:b.natAbs<2^n):(a+b).natAbs<2^(n+1):=by rw[AFw];omega
def aA {a b:Int}{n:Nat}(ha:a.natAbs<2^n)(hb:b.natAbs<2^n):(a-b).natAbs<2^(n+1):=by rw[AFw];omega
def Af {a m n:Nat}(h:a<2^m)(b:m<=n):a<2^n:=AAf h (OS b)
def MulOk.of {a b:Int}{m n:Nat}(ha:a.natAbs<2^m)(hb:b.natAbs<2^n)(c:m<=1000000:=by omega)(d:n<=1000000:=by omega):MulOk a b:=⟨Af ha c,Af hb d⟩
def W9 (t b:Int):(Rat.divInt t b).num.natAbs<=t.natAbs:=by
 rw[AFF];by_cases h:b=0
 .subst h;simp
 .have e:(b.gcd t:Int) ∣ b.sign*t:=Int.dvd_trans (Int.gcd_dvd_right ..) (Int.dvd_mul_left ..);rw[Int.natAbs_ediv_of_dvd e,ACW];refine AAg (ADH _ _) ?_;rw[Int.natAbs_sign_of_ne_zero h];omega
def W8 (t b:Int)(h:b≠0):(Rat.divInt t b).den<=b.natAbs:=by rw[AFx,AAL h];exact ADH _ _
def Bd.divInt {n:Nat}{t b:Int}(h:b≠0)(a:t.natAbs<2^n)(hb:b.natAbs<2^n):Bd n (Rat.divInt t b):=
 ⟨AAq (W9 t b) a,AAq (W8 t b h) hb⟩
def BY (a:Rat):(a.den:Int)≠0:=by have:=a.den_pos;omega
def IX (a b:Rat):a+b=Rat.divInt (a.num*b.den+b.num*a.den) (a.den*b.den):=by have h:=AFy a.num b.num (BY a) (BY b);rw[ACX,ACX] at h;exact h
def Ow (a b:Rat):a-b=Rat.divInt (a.num*b.den-b.num*a.den) (a.den*b.den):=by have h:=Rat.divInt_sub_divInt a.num b.num (BY a) (BY b);rw[ACX,ACX] at h;exact h
def Ii (a b:Rat):a*b=Rat.divInt (a.num*b.num) (a.den*b.den):=by have h:=AFz a.num b.num (d₁:=a.den) (d₂:=b.den);rw[ACX,ACX] at h;exact h
def IZ (a b:Rat):a/b=Rat.divInt (a.num*b.den) (a.den*b.num):=by rw[ADZ,Rat.inv_def];have h:=AFz a.num b.den (d₁:=a.den) (d₂:=b.num);rw[ACX] at h;exact h
def DR {a b:Int}(ha:a≠0)(hb:b≠0):a*b≠0:=Int.mul_ne_zero ha hb
def Xj {b:Rat}(h:b≠0):b.num≠0:=λz=>h (Rat.num_eq_zero.mp z)
def Bd.add (ha:Bd m a)(hb:Bd n b):Bd (m+n+1) (a+b):=by
 rw[IX];refine .divInt (DR (BY a) (BY b)) (Yu (B2 ha.top (↑hb.bot)) ?_) ?_
 .rw [Nat.add_comm m n];exact B2 hb.top (↑ha.bot)
 .exact Af (B2 (↑ha.bot) (↑hb.bot)) (!0)
def Bd.sub (ha:Bd m a)(hb:Bd n b):Bd (m+n+1) (a-b):=by
 rw[Ow];refine .divInt (DR (BY a) (BY b)) (aA (B2 ha.top (↑hb.bot)) ?_) ?_
 .rw [Nat.add_comm m n];exact B2 hb.top (↑ha.bot)
 .exact Af (B2 (↑ha.bot) (↑hb.bot)) (!0)
def Bd.mul (ha:Bd m a)(hb:Bd n b):Bd (m+n) (a*b):=by rw[Ii];exact .divInt (DR (BY a) (BY b)) (B2 ha.top hb.top) (B2 (↑ha.bot) (↑hb.bot))
def Bd.div {b:Rat}(h:b≠0)(ha:Bd m a)(hb:Bd n b):Bd (m+n) (a/b):=by rw[IZ];exact .divInt (DR (BY a) (Xj h)) (B2 ha.top (↑hb.bot)) (B2 (↑ha.bot) hb.top)
def Bd.neg (ha:Bd n a):Bd n (-a):=⟨by show (-a.num).natAbs<_;rw[ACl];exact ha.top,ha.bot⟩
def fR (n:Int):fr (n:Rat)= .tup [.int n, .int 1] :=by simp[fr]
def Bd.int {n:Int}{k:Nat}(h:n.natAbs<2^k)(hk:1<=k):Bd k (n:Rat):=⟨↑h,by simp;omega⟩
def dZ:AS:=
 (Aa (Ku (As (AY bC (aV 1) (aC (.int 0)))) (af 0 1 (AB (aV 1) (AB (AY bB (aV 0) (aV 1)) AM))))
   (Aq (aV 0)))
def Fw:AF:=An 2 dZ
def FQ (x y:Nat)(Q:PV->Prop)(h:Q (.int (Nat.gcd x y:Nat))):Fw [.int x, .int y] Q:=by
 have go:∀y x:Nat,∀D:Gu,D.nx [some (.val (.int (Nat.gcd x y:Nat))),some (.val (.int 0))] ->∃n,WU (As (AY bC (aV 1) (aC (.int 0)))) (af 0 1 (AB (aV 1) (AB (AY bB (aV 0) (aV 1)) AM))) D n [some (.val (.int x)),some (.val (.int y))] :=by
  intro y;induction y using Nat.strongRecOn with
  | _ y ih=>
    intro x D c;by_cases hy:y=0
    .subst hy;refine⟨1, ?_⟩;rw[Nat.gcd_zero_right] at c;exact c
    .obtain ⟨n,a⟩:=ih (x % y) (Nat.mod_lt _ (!0)) y D (by rw[ADu y,<-Nat.gcd_rec,ADu y];exact c);refine⟨n+1, ?_⟩;refine GS (b:= !decide ((y:Int)=0)) (λ_=> ?_) (λz=> ?_)
     .have d:(x:Int).fmod (y:Int)=((x % y:Nat):Int):=by rw[AFi _ (!0)];simp
      refine⟨!0, ?_⟩;rw[<-d] at a;exact a
     .have:(y:Int)=0:=↑z
      omega
 obtain⟨n,a⟩:=go y x {nx:=λτ=>Aq (aV 0) {nx:=λ_=>Q .non,rt:=Q,bk:=λ_=>False,ct:=λ_=>False} τ,rt:=Q,bk:=λ_=>False,ct:=λ_=>False} h;exact⟨n,a⟩
def aJ:AS:=
 (Aa (Bf (As (AY bA (aV 1) (aC (.int 0)))) (Aj (UE Jn (aV 2)) (Ak 2)) BD)
   (Aq (Ap (AB (AY MC (aV 0) (aV 2)) (AB (AY MC (aV 1) (aV 2)) AM)))))
def oK:AS:=
 (Aa (Aj (AN 2 Fw (AB (Hj U6 (AB (aV 0) AM)) (AB (Hj U6 (AB (aV 1) AM)) AM))) (Ak 2))
   aJ)
def Fa:AF:=An 3 oK
def gi (t b:Int)(hb:b≠0):∀s:Int,s=(if b<0 then -(Nat.gcd t.natAbs b.natAbs:Int) else (Nat.gcd t.natAbs b.natAbs:Int))->s≠0/\t.fdiv s=(Rat.divInt t b).num/\b.fdiv s=((Rat.divInt t b).den:Int):=by
 intro s hs;have g:0<Nat.gcd t.natAbs b.natAbs:=ADa _ (!0);have f:b.gcd t=Nat.gcd t.natAbs b.natAbs:=by rw[AGS,ADu]
 have a:(Nat.gcd t.natAbs b.natAbs:Int) ∣ t:=by rw[<-Int.dvd_natAbs];exact Int.ofNat_dvd.mpr (Nat.gcd_dvd_left ..)
 have c:(Nat.gcd t.natAbs b.natAbs:Int) ∣ b:=by rw[<-Int.dvd_natAbs];exact Int.ofNat_dvd.mpr (ADb ..)
 have d:s ∣ t:=by rw[hs];split <;> first | exact Int.neg_dvd.mpr a|exact a
 have e:s ∣ b:=by rw[hs];split <;> first | exact Int.neg_dvd.mpr c|exact c
 refine⟨by rw[hs];split <;> omega, ?_, ?_⟩
 .rw [AGT d,AFF,f,hs];by_cases h:b<0
  .rw [AAM h,AGU h,Int.ediv_neg];have:(-1:Int)*t= -t:=!0
   rw[this,Int.neg_ediv_of_dvd a]
  .rw [AAL h,AF0 (!0),Int.one_mul]
 .rw [AGT e,AFx,AAL hb,f,hs];by_cases h:b<0
  .rw [AAM h,Int.ediv_neg];have:(b.natAbs:Int)= -b:=!0
   rw[ADI,this,Int.neg_ediv_of_dvd c]
  .rw [AAL h];have:(b.natAbs:Int)=b:=!0
   rw[ADI,this]
def Db (t b:Int)(hb:b≠0)(f:b.natAbs<2^8900)(Q:PV->Prop)(h:Q (fr (Rat.divInt t b))):Fa [.int t, .int b] Q:=by
 have g:0<Nat.gcd t.natAbs b.natAbs:=ADa _ (!0);have gl:Nat.gcd t.natAbs b.natAbs<2^8900:=AAq (ADc (!0) (ADb ..)) f;obtain⟨a,c,d⟩:=gi t b hb _ rfl;refine⟨rfl,FQ _ _ _ ?_⟩;refine GS (b:=decide (b<0)) (λz=> ?_) (λz=> ?_)
 .have e:b<0:=ACH z;rw[AAM e] at a c d;refine⟨⟨a,by rw[ACl];exact gl⟩,⟨a,by rw[ACl];exact gl⟩,(show 2<=sizeLine by decide), ?_⟩;unfold fr at h;rw[<-c,<-d] at h;exact h
 .have e:¬b<0:=ACm z;rw[AAL e] at a c d;refine⟨⟨a,gl⟩,⟨a,gl⟩,(show 2<=sizeLine by decide), ?_⟩;unfold fr at h;rw[<-c,<-d] at h;exact h
def Bd.mt {n:Nat}(ha:Bd 4000 a)(hb:Bd 4000 b):MulOk a.num b.den/\MulOk b.num a.den/\MulOk a.den b.den/\MulOk a.num b.num/\MulOk a.den b.num:=
 ⟨.of ha.top (↑hb.bot), .of hb.top (↑ha.bot), .of (↑ha.bot) (↑hb.bot), .of ha.top hb.top, .of (↑ha.bot) hb.top⟩
def Uz (ha:Bd 4000 a)(hb:Bd 4000 b):((a.den:Int)*(b.den:Int)).natAbs<2^8900:=Af (B2 (a:=(a.den:Int)) (↑ha.bot) (↑hb.bot)) (!0)
def oM:AS:=
 (Aq (AN 2 Fa (AB (AY Cc (AY C6 (AY Ai (aV 0) (aC (.int 0))) (AY Ai (aV 1) (aC (.int 1)))) (AY C6 (AY Ai (aV 1) (aC (.int 0))) (AY Ai (aV 0) (aC (.int 1))))) (AB (AY C6 (AY Ai (aV 0) (aC (.int 1))) (AY Ai (aV 1) (aC (.int 1)))) AM))))
def D4:AF:=An 2 oM
def QZ (ha:Bd 4000 a)(hb:Bd 4000 b){Q:PV->Prop}(h:Q (fr (a+b))):D4 [fr a,fr b] Q:=by obtain⟨m1,m2,m3,_⟩:=Bd.mt (n:=0) ha hb;refine⟨m1,m2,m3,rfl,Db _ _ (DR (BY a) (BY b)) (Uz ha hb) _ ?_⟩;rw[IX] at h;exact h
def jV:AS:=
 (Aq (AN 2 Fa (AB (AY F5 (AY C6 (AY Ai (aV 0) (aC (.int 0))) (AY Ai (aV 1) (aC (.int 1)))) (AY C6 (AY Ai (aV 1) (aC (.int 0))) (AY Ai (aV 0) (aC (.int 1))))) (AB (AY C6 (AY Ai (aV 0) (aC (.int 1))) (AY Ai (aV 1) (aC (.int 1)))) AM))))
def Bw:AF:=An 2 jV
def D3 (ha:Bd 4000 a)(hb:Bd 4000 b){Q:PV->Prop}(h:Q (fr (a-b))):Bw [fr a,fr b] Q:=by obtain⟨m1,m2,m3,_⟩:=Bd.mt (n:=0) ha hb;refine⟨m1,m2,m3,rfl,Db _ _ (DR (BY a) (BY b)) (Uz ha hb) _ ?_⟩;rw[Ow] at h;exact h
def jX:AS:=
 (Aq (AN 2 Fa (AB (AY C6 (AY Ai (aV 0) (aC (.int 0))) (AY Ai (aV 1) (aC (.int 0)))) (AB (AY C6 (AY Ai (aV 0) (aC (.int 1))) (AY Ai (aV 1) (aC (.int 1)))) AM))))
def FR:AF:=An 2 jX
def Ng (ha:Bd 4000 a)(hb:Bd 4000 b){Q:PV->Prop}(h:Q (fr (a*b))):FR [fr a,fr b] Q:=by obtain⟨_,_,m3,m4,_⟩:=Bd.mt (n:=0) ha hb;refine⟨m4,m3,rfl,Db _ _ (DR (BY a) (BY b)) (Uz ha hb) _ ?_⟩;rw[Ii] at h;exact h
def oJ:AS:=
 (Aq (AN 2 Fa (AB (AY C6 (AY Ai (aV 0) (aC (.int 0))) (AY Ai (aV 1) (aC (.int 1)))) (AB (AY C6 (AY Ai (aV 0) (aC (.int 1))) (AY Ai (aV 1) (aC (.int 0)))) AM))))
def GK:AF:=An 2 oJ
def Kk {b:Rat}(c:b≠0)(ha:Bd 4000 a)(hb:Bd 4000 b){Q:PV->Prop}(h:Q (fr (a/b))):GK [fr a,fr b] Q:=by obtain⟨m1,_,_,_,m5⟩:=Bd.mt (n:=0) ha hb;refine⟨m1,m5,rfl,Db _ _ (DR (BY a) (Xj c)) (Af (B2 (a:=(a.den:Int)) (↑ha.bot) hb.top) (!0)) _ ?_⟩;rw[IZ] at h;exact h
def Mr:AS:=
 (Aa (Aj (AY F5 (aC (.int 1)) (AY C6 (aC (.int 2)) (Hj pO (AB (AY bA (aV 1) (aC (.int 0))) AM)))) (Ak 2))
   (Aq (Ap (AB (AY MC (AY C6 (aV 2) (aV 0)) (aV 3)) (AB (AY MC (AY C6 (aV 2) (aV 1)) (aV 3)) AM)))))
def Mq:AS:=
 (Aa (Ku (As (AY dR (aV 4) (aC (.int 0)))) (af 3 4 (AB (aV 4) (AB (AY bB (aV 3) (aV 4)) AM))))
   Mr)
def UK:AS:=
 (Aa (af 3 4 (AB (Hj U6 (AB (aV 0) AM)) (AB (Hj U6 (AB (aV 1) AM)) AM)))
   Mq)
def BM:AF:=An 5 UK
def So (t b:Int)(hb:b≠0):∀s:Int,s=(if b<0 then -1 else 1)->(s*t).fdiv (Nat.gcd t.natAbs b.natAbs:Int)=(Rat.divInt t b).num/\(s*b).fdiv (Nat.gcd t.natAbs b.natAbs:Int)=((Rat.divInt t b).den:Int):=by
 intro s hs;have c:0<Nat.gcd t.natAbs b.natAbs:=ADa _ (!0);have a:b.gcd t=Nat.gcd t.natAbs b.natAbs:=by rw[AGS,ADu]
 have es:b.sign=s:=by
  rw[hs];split
  .rename_i h;exact AGU h
  .exact AF0 (!0)
 rw[AFF,AFx,AAL hb,a,es,ACk _ (!0),ACk _ (!0)];refine⟨rfl, ?_⟩;rw[ADI];congr 1;rw[hs];split <;> omega
def Ex (t b:Int)(hb:b≠0)(g:t.natAbs<2^900000)(d:b.natAbs<2^8900){Q:PV->Prop}(h:Q (fr (Rat.divInt t b))):BM [.int t, .int b] Q:=by
 have j:0<Nat.gcd t.natAbs b.natAbs:=ADa _ (!0);have gl:Nat.gcd t.natAbs b.natAbs<2^8900:=AAq (ADc (!0) (ADb ..)) d;have sg:(1:Int)-2*(if decide (b<0)=true then 1 else 0)=(if b<0 then -1 else 1):=by by_cases z:b<0 <;> simp[z]
 obtain⟨i,a⟩:=So t b hb _ sg;have go:∀y x:Nat,∀D:Gu,∀u v w,D.nx [u,v,w,some (.val (.int (Nat.gcd x y:Nat))),some (.val (.int 0))] ->∃n,WU (As (AY dR (aV 4) (aC (.int 0)))) (af 3 4 (AB (aV 4) (AB (AY bB (aV 3) (aV 4)) AM))) D n [u,v,w,some (.val (.int x)),some (.val (.int y))] :=by
  intro y;induction y using Nat.strongRecOn with
  | _ y ih=>
    intro x D u v w c;by_cases hy:y=0
    .subst hy;refine⟨1, ?_⟩;rw[Nat.gcd_zero_right] at c;exact c
    .obtain ⟨n,e⟩:=ih (x % y) (Nat.mod_lt _ (!0)) y D u v w (by rw[ADu y,<-Nat.gcd_rec,ADu y];exact c);refine⟨n+1, ?_⟩;refine GS (b:=decide (0<(y:Int))) (λ_=> ?_) (λz=> ?_)
     .have a:(x:Int).fmod (y:Int)=((x % y:Nat):Int):=by rw[AFi _ (!0)];simp
      refine⟨!0, ?_⟩;rw[<-a] at e;exact e
     .have:¬(0:Int)<y:=ACm z;omega
 refine go b.natAbs t.natAbs _ (some (.val (.int t))) (some (.val (.int b))) none ?_;have one:(1:Int).natAbs<2^1:=!1
 have f:((1:Int)-2*(if decide (b<0)=true then 1 else 0)).natAbs<2^1:=by rw[sg];split <;> decide
 refine⟨.of (m:=2) (n:=1) (!1) (by split <;> decide), .of f g,⟨!0,gl⟩, .of f d,⟨!0,gl⟩,(show 2<=sizeLine by decide), ?_⟩;unfold fr at h;rw[<-i,<-a] at h;exact h
def C1 {m:Int}{Q:PV->Prop}(m0:0<m)(m1:m<4611686018427387904)(h:∀r,0<=r->r<m->Q (.int r)):BI [.tape, .int m] Q:=⟨⟨m0,m1⟩,h⟩
mutual
noncomputable def okS:Nat->PV->kc
 | 0,_=>false
 | _+1, .non=>true
 | _+1, .bl _=>true
 | _+1, .int _=>true
 | n+1, .tup xs=>u7 n xs&&decide (xs.length<sizeLine)
 | _+1,_=>false
noncomputable def u7:Nat->km PV->kc
 | _, [] =>true
 | n,x::xs=>okS n x&&u7 n xs
end
def wC {t:Int}{n:Nat}(h:t.natAbs<2^n)(a:n<=900000:=by omega):t.natAbs<2^900000:=Af h a
section
variable {a b:Rat}{Q:PV->Prop}
theorem qE (ha:Bd 4000 a)(hb:Bd 4000 b)(h:Q (fr (a+b))):BM [.int (a.num*b.den+b.num*a.den), .int (a.den*b.den)] Q:=
 Ex _ _ (DR (BY a) (BY b)) (wC (Yu (n:=8000) (B2 ha.top hb.botI) (B2 hb.top ha.botI))) (Uz ha hb) (by rw[<-IX];exact h)
theorem qF (ha:Bd 4000 a)(hb:Bd 4000 b)(h:Q (fr (a*b))):BM [.int (a.num*b.num), .int (a.den*b.den)] Q:=
 Ex _ _ (DR (BY a) (BY b)) (wC (B2 ha.top hb.top)) (Uz ha hb) (by rw[<-Ii];exact h)
end
def UB {n:Int}{Q:PV->Prop}(h:Q (fr (n:Rat))):Q (.tup [.int n, .int 1]):=by rw[<-fR];exact h
def Bd.part {t b:Int}{n:Nat}(h:b≠0)(a:t.natAbs<2^n)(hb:b.natAbs<2^n):Bd n (Rat.divInt t b):= .divInt h a hb
def lz {a:Nat}(h:Nat.ble a b=true:=by rfl):a<=b:=ACC h
structure Sh (d n:Nat) (x:PV):Prop where
 ok:EN d x=true
 sh:(pd x).showable=true
 sz:(pd x).shown.length<=n
mutual
theorem OG:∀{d e:Nat} (x:PV),d<=e->EN d x=true->EN e x=true
 | _,_, .non,_,_=>by simp[EN]
 | _,_, .bl _,_,_=>by simp[EN]
 | _,_, .int _,_,_=>by simp[EN]
 | _,_, .str x,_,h=>by simpa[EN] using h
 | 0,_, .tup xs,_,h=>by simp[EN] at h
 | 0,_, .lst xs,_,h=>by simp[EN] at h
 | d+1,0, .tup xs,h,_=>by omega
 | d+1,0, .lst xs,h,_=>by omega
 | d+1,e+1, .tup xs,h,k=>by simp only[EN] at k ⊢;exact LA xs (!0) k
 | d+1,e+1, .lst xs,h,k=>by simp only[EN] at k ⊢;exact LA xs (!0) k
 | _,_, .tape,_,h=>by simp[EN] at h
 | _,_, .scr _,_,h=>by simp[EN] at h
 | _,_, .dct _,_,h=>by simp[EN] at h
 | _,_, .dk _,_,h=>by simp[EN] at h
 | _,_, .ty _,_,h=>by simp[EN] at h
theorem LA:∀{d e:Nat} (xs:km PV),d<=e->Jz d xs=true->Jz e xs=true
 | _,_, [],_,_=>by simp[Jz]
 | _,_,x::xs,h,k=>by simp only[Jz,AA7] at k ⊢;exact⟨OG x h k.1,LA xs h k.2⟩
end
def Sh.mono {e m:Nat}(s:Sh d n x)(h1:d<=e)(h2:n<=m):Sh e m x:=⟨OG x h1 s.ok,s.sh,AAg s.sz h2⟩
def Sh.go (s:Sh d n x)(h1:d<=30:=by omega)(h2:n<=16777216:=by omega):oX x:=⟨OG x h1 s.ok,s.sh,AAg s.sz h2⟩
def Sh.int {i:Int}(h:i.natAbs<2^1900):Sh 0 1902 (.int i):=by
 refine⟨rfl, ?_, ?_⟩
 .show decide (i.natAbs.log2<1920)=true;exact AAl (AEc (Jx h (!1)) (!1))
 .show (Str.ofString (toString i)).length<=1902;rw[PySem.ofString_length];exact AAg (int_text_length_le (k:=1900) (!1) (Jx h (!1))) (!1)
theorem J1:∀{xs:km PV},(∀x∈xs,EN d x=true)->Jz d xs=true
 | [],_=>rfl
 | x::xs,h=>by simp only[Jz,AA7];exact⟨h x (!2),J1 λy hy=>h y (by simp[hy])⟩
theorem YL:∀{xs:km PV},(∀x∈xs,(pd x).showable=true)->PyData.showableAll (TD xs)=true
 | [],_=>rfl
 | x::xs,h=>by simp only[TD,PyData.showableAll,AA7];exact⟨h x (!2),YL λy hy=>h y (by simp[hy])⟩
theorem T9 {n:Nat}:∀{xs:km PV},(∀x∈xs,(pd x).shown.length<=n)->((PyData.shownAll (TD xs)).map (·.length)).sum<=xs.length*n
 | [],_=>by simp[TD,PyData.shownAll]
 | x::xs,h=>by simp only[TD,PyData.shownAll,AAW,ACo,AAk];have h1:=h x (!2);have h2:=T9 (n:=n) (xs:=xs) λy hy=>h y (by simp[hy]);rw[ADv];omega
theorem Gb:∀(xs:km PV),(PyData.shownAll (TD xs)).length=xs.length
 | [] =>rfl
 | x::xs=>by simp[TD,PyData.shownAll,Gb xs]
def Sh.tup {xs:km PV}(h:∀x∈xs,Sh d n x):Sh (d+1) (xs.length*(n+2)+3) (.tup xs):=by refine⟨by simp only[EN];exact J1 λx hx=>(h x hx).ok,by simp only[pd,PyData.showable];exact YL λx hx=>(h x hx).sh, ?_⟩;have h1:=T9 (n:=n) (xs:=xs) λx hx=>(h x hx).sz;have h2:=tupleText_len_le (PyData.shownAll (TD xs));rw[Gb] at h2;simp only[pd,PyData.shown];rw[Nat.mul_add];omega
def Sh.lst {xs:km PV}(h:∀x∈xs,Sh d n x):Sh (d+1) (xs.length*(n+2)+3) (.lst xs):=by refine⟨by simp only[EN];exact J1 λx hx=>(h x hx).ok,by simp only[pd,PyData.showable];exact YL λx hx=>(h x hx).sh, ?_⟩;have h1:=T9 (n:=n) (xs:=xs) λx hx=>(h x hx).sz;have h2:=listText_len_le (PyData.shownAll (TD xs));rw[Gb] at h2;simp only[pd,PyData.shown];rw[Nat.mul_add];omega
def yn {c:Type}{P:c->Prop}{a b:c}(ha:P a)(hb:P b):∀x∈ [a,b],P x:=λx hx=>by
 simp only[AAO,AA8,ABA] at hx;rcases hx with rfl|rfl
 .exact ha
 .exact hb
def uz {d:Type}{P:d->Prop}{a b c:d}(ha:P a)(hb:P b)(hc:P c):∀x∈ [a,b,c],P x:=λx hx=>by
 simp only[AAO,AA8,ABA] at hx;rcases hx with rfl|rfl|rfl
 .exact ha
 .exact hb
 .exact hc
def u4 {e:Type}{P:e->Prop}{a b c d:e}(ha:P a)(hb:P b)(hc:P c)(hd:P d):∀x∈ [a,b,c,d],P x:=λx hx=>by
 simp only[AAO,AA8,ABA] at hx;rcases hx with rfl|rfl|rfl|rfl
 .exact ha
 .exact hb
 .exact hc
 .exact hd
def Sh.fr (h:Bd 1900 r):Sh 1 4000 (fr r):=(Sh.tup (yn (Sh.int h.top) (Sh.int h.botI))).mono (!0) lz
def fM (a b:Rat):uI (fr a) (fr b)=decide (a=b):=by
 show (PyData.eqvAll [.int a.num, .int a.den] [.int b.num, .int b.den])=_;simp only[PyData.eqvAll,PyData.eqv];by_cases h:a=b
 .subst h;simp
 .have:¬(a.num=b.num/\(a.den:Int)=b.den):=λz=>h (Rat.ext z.1 (!0));rw[AAo h];simp only[Bool.and_true,Bool.and_eq_false_iff,AEP];by_cases h1:a.num=b.num
  .exact .inr λz=>this ⟨h1,z⟩
  .exact .inl h1
def Zb (d:Nat)(a:Rat):EN (d+1) (fr a)=true:=rfl
def nX {a b:Rat}:decide (a.num*(b.den:Int)<b.num*(a.den:Int))=decide (a<b):=by rw[AEg];exact(Rat.lt_iff a b).symm
def dY:AS:=
 (Aq (AY bA (AY C6 (AY Ai (aV 0) (aC (.int 0))) (AY Ai (aV 1) (aC (.int 1)))) (AY C6 (AY Ai (aV 1) (aC (.int 0))) (AY Ai (aV 0) (aC (.int 1))))))
def Am:AF:=An 2 dY
section
variable {a b:Rat}{Q:PV->Prop}
theorem CC (ha:Bd 4000 a)(hb:Bd 4000 b)(h:Q (.bl (decide (a<b)))):Am [fr a,fr b] Q:=by obtain⟨m1,m2,_⟩:=Bd.mt (n:=0) ha hb;refine⟨m1,m2, ?_⟩;rw[<-nX] at h;exact h
def Wb:AS:=
 (Aq (AN 2 BM (AB (AY Cc (AY C6 (AY Ai (aV 0) (aC (.int 0))) (AY Ai (aV 1) (aC (.int 1)))) (AY C6 (AY Ai (aV 1) (aC (.int 0))) (AY Ai (aV 0) (aC (.int 1))))) (AB (AY C6 (AY Ai (aV 0) (aC (.int 1))) (AY Ai (aV 1) (aC (.int 1)))) AM))))
def Cm:AF:=An 2 Wb
theorem ID (ha:Bd 4000 a)(hb:Bd 4000 b)(h:Q (fr (a+b))):Cm [fr a,fr b] Q:=by obtain⟨m1,m2,m3,_⟩:=Bd.mt (n:=0) ha hb;exact⟨m1,m2,m3,rfl,qE ha hb h⟩
def My:AS:=
 (Aq (AN 2 BM (AB (AY C6 (AY Ai (aV 0) (aC (.int 0))) (AY Ai (aV 1) (aC (.int 0)))) (AB (AY C6 (AY Ai (aV 0) (aC (.int 1))) (AY Ai (aV 1) (aC (.int 1)))) AM))))
def Ck:AF:=An 2 My
theorem JX (ha:Bd 4000 a)(hb:Bd 4000 b)(h:Q (fr (a*b))):Ck [fr a,fr b] Q:=by obtain⟨m1,m2,m3,m4,_⟩:=Bd.mt (n:=0) ha hb;exact⟨m4,m3,rfl,qF ha hb h⟩
end
def xu {t b:Int}(a:0<t)(hb:0<b):0<Rat.divInt t b:=by
 rw[Rat.lt_iff];have h1:=AFF t b;show (0:Int)*_<_*1;rw[Int.zero_mul,ADW,h1,AF0 hb,Int.one_mul];have g:0<(b.gcd t:Int):=by have:=Int.gcd_pos_of_ne_zero_left t (show b≠0 by omega);omega
 exact Int.ediv_pos_of_pos_of_dvd a (!0) (Int.gcd_dvd_right ..)
def Gc {t b:Int}{Q:PV->Prop}(k:Nat)(hb:b≠0)(a:t.natAbs<2^k)(c:b.natAbs<2^k)(hk:k<=2000)(h:Bd k (Rat.divInt t b)->Q (fr (Rat.divInt t b))):BM [.int t, .int b] Q:=
 Ex t b hb (Af a (!0)) (Af c (!0)) (h (.part hb a c))
def Mul (D N:Nat)(a:Rat):Prop:=0<D/\∃k:Int,a=Rat.divInt k D/\k.natAbs<=N
def Mul.bd {N n:Nat}(h:Mul D N a)(h1:N<2^n)(h2:D<2^n):Bd n a:=by obtain⟨b,k,rfl,hk⟩:=h;exact .divInt (!0) (!0) (↑h2)
def Mul.part {t b:Int}{c:Nat}(hb:0<b)(hc:0<c){N:Nat}(h:(t*c).natAbs<=N):Mul (b.toNat*c) N (Rat.divInt t b):=by
 refine⟨ACO (!0) hc,t*c, ?_,h⟩;have e:((b.toNat*c:Nat):Int)=b*c:=by rw[AEh];congr 1;omega
 rw[e,(AFG (!0) (DR (!0) (!0)))];rw[AFH b,AFI]
def Mul.add {N:Nat}(ha:Mul D N a)(hb:Mul D M b):Mul D (N+M) (a+b):=by obtain⟨c,k,rfl,hk⟩:=ha;obtain⟨_,l,rfl,hl⟩:=hb;refine⟨c,k+l, ?_,!0⟩;rw[AFy _ _ (!0) (!0),AFG (DR (!0) (!0)) (!0)];rw[<-Int.add_mul,AFI]
def Mul.mono {N M:Nat}(h:Mul D N a)(b:N<=M):Mul D M a:=⟨h.1,let ⟨k,e,hk⟩:=h.2;⟨k,e,!0⟩⟩
def Mul.int {n:Int}{D N:Nat}(a:0<D)(h:(n*D).natAbs<=N):Mul D N (n:Rat):=by
 have e:(n:Rat)=Rat.divInt n 1:=by rw[<-ACX (n:Rat)];simp
 rw[e];have:=Mul.part (t:=n) (b:=1) (c:=D) (!1) a h;simpa using this
def Mz:AS:=
 (Aa (Bf (As (AY bA (aV 1) (aC (.int 3)))) (Aq (Ap (AB (AY Cc (aC (.int 1)) (AN 2 BI (AB (aV 0) (AB (aC (.int 5)) AM)))) (AB (aC (.int 1)) AM)))) BD)
   (Aq (AN 2 BM (AB (AY Cc (aC (.int 1)) (AN 2 BI (AB (aV 0) (AB (aC (.int 8)) AM)))) (AB (AY F5 (aV 1) (aC (.int 1))) AM)))))
def UM:AS:=
 (Aa (Aj (AN 2 BI (AB (aV 0) (AB (aC (.int 5)) AM))) (Ak 1))
   Mz)
def FP:AF:=An 2 UM
def L7 {Q:PV->Prop}(h:∀a,Bd 8 a->0<a->Mul 6 48 a->Q (fr a)):FP [.tape] Q:=by
 refine⟨rfl,C1 (!1) (!1) λw f g=> ?_⟩;refine GS (b:=decide (w<3)) (λ_=> ?_) (λz=> ?_)
 .refine ⟨rfl,C1 (!1) (!1) λr d r1=>⟨lz, ?_⟩⟩;exact UB (h _ (.int (!0) (!1)) (by exact_mod_cast (by omega:(0:Int)<1+r)) (.int (!1) (!0)))
 .have i:¬w<3:=ACm z;have hw:w-1=2\/w-1=3:=!0
  refine⟨rfl,C1 (!1) (!1) λr d r1=>⟨rfl, ?_⟩⟩;refine Gc 8 (!0) (!0) (!0) (!1) λb=>h _ b (xu (!0) (!0)) ?_;rcases hw with e|e
  .rw [e];exact Mul.part (t:=1+r) (b:=2) (c:=3) (!1) (!1) (!0)
  .rw [e];exact Mul.part (t:=1+r) (b:=3) (c:=2) (!1) (!1) (!0)
def Lr:AS:=
 (Aa (Bf (As (AY O9 (aV 1) (aC (.int 6)))) (Aq (AN 2 BM (AB (AY F5 (AN 2 BI (AB (aV 0) (AB (aC (.int 25)) AM))) (aC (.int 6))) (AB (aC (.int 2)) AM)))) BD)
   (Aq (AN 2 BM (AB (AY F5 (AN 2 BI (AB (aV 0) (AB (aC (.int 31)) AM))) (aC (.int 9))) (AB (aC (.int 3)) AM)))))
def Lq:AS:=
 (Aa (Bf (As (AY bA (aV 1) (aC (.int 6)))) (Aq (Ap (AB (AY F5 (AN 2 BI (AB (aV 0) (AB (aC (.int 10)) AM))) (aC (.int 3))) (AB (aC (.int 1)) AM)))) BD)
   Lr)
def RP:AS:=
 (Aa (Aj (AN 2 BI (AB (aV 0) (AB (aC (.int 8)) AM))) (Ak 1))
   Lq)
def A7:AF:=An 2 RP
def A6 {Q:PV->Prop}(h:∀a,Mul 6 60 a->Q (fr a)):A7 [.tape] Q:=by
 refine⟨rfl,C1 (!1) (!1) λw e f=> ?_⟩;refine GS (b:=decide (w<6)) (λ_=> ?_) (λz=> ?_)
 .refine ⟨rfl,C1 (!1) (!1) λr d r1=>⟨lz, ?_⟩⟩;exact UB (h _ (.int (!1) (!0)))
 refine GS (b:=decide (w=6)) (λ_=> ?_) (λz=> ?_)
 .exact ⟨rfl,C1 (!1) (!1) λr d r1=>⟨rfl,Gc 8 (!0) (!0) (!0) (!1) λb=>h _ (Mul.part (t:=r-6) (b:=2) (c:=3) (!1) (!1) (!0))⟩⟩
 .exact ⟨rfl,C1 (!1) (!1) λr d r1=>⟨rfl,Gc 8 (!0) (!0) (!0) (!1) λb=>h _ (Mul.part (t:=r-9) (b:=3) (c:=2) (!1) (!1) (!0))⟩⟩
abbrev C4:=Rat×Rat×Rat×Rat
noncomputable def cor (c:C4):PV:= .tup [fr c.1,fr c.2.1,fr c.2.2.1,fr c.2.2.2]
noncomputable def corL (c:C4):PV:= .lst [fr c.1,fr c.2.1,fr c.2.2.1,fr c.2.2.2]
def DE (cs:km C4):PV:= .tup (cs.map cor)
structure Ed (B:Nat) (c:C4):Prop where
 m:Bd B c.1
 x:Bd B c.2.1
 y:Bd B c.2.2.1
 z:Bd B c.2.2.2
def Ed.mono {a:Nat}(h:Ed B c)(k:B<=a):Ed a c:=⟨h.m.mono k,h.x.mono k,h.y.mono k,h.z.mono k⟩
structure Gz (D N:Nat) (c:C4):Prop where
 m:Mul D N c.1
 x:Mul D N c.2.1
 y:Mul D N c.2.2.1
 z:Mul D N c.2.2.2
def Gz.mono {N M:Nat}(h:Gz D N c)(k:N<=M):Gz D M c:=⟨h.m.mono k,h.x.mono k,h.y.mono k,h.z.mono k⟩
def Gz.bd {N n:Nat}(h:Gz D N c)(h1:N<2^n)(h2:D<2^n):Ed n c:=⟨h.m.bd h1 h2,h.x.bd h1 h2,h.y.bd h1 h2,h.z.bd h1 h2⟩
def Gk (cs:km C4):Prop:=cs.Pairwise λa b=>a.1<b.1
structure B6 (n D N:Nat) (cs:List C4):Prop where
 two:2<=cs.length
 few:cs.length<=n
 mu:∀c∈cs,Gz D N c
 ris:Gk cs
structure GM (n B:Nat) (cs:List C4):Prop where
 two:2<=cs.length
 few:cs.length<=n
 bd:∀c∈cs,Ed B c
 ris:Gk cs
def iJ {cs:km C4}{c d:C4}(h:Gk (cs ++ [c]))(hd:c.1<d.1):Gk (cs ++ [c] ++ [d]):=by
 refine List.pairwise_append.mpr ⟨h,!2,λa ha b hb=> ?_⟩;simp at hb;subst hb;rcases AAX.mp ha with ha|ha
 .have:=(List.pairwise_append.mp h).2.2 a ha c (!2);grind
 .simp at ha;subst ha;exact hd
def JQ:AS:=
 (Aa (Bf (As (AY dR (aV 5) (aC (.int 3)))) (Aj (G9 (ET (AB (AN 1 A7 (AB (aV 0) AM)) (AB (AN 1 A7 (AB (aV 0) AM)) (AB (AN 1 A7 (AB (aV 0) AM)) AM))))) (Ak 3)) (Bf (As (AY dR (aV 5) (aC (.int 0)))) (Aj (AY Cc (AY Cc (jo (aV 3) jr (jt (AY F5 (aV 5) (aC (.int 1))))) (G9 (ET (AB (AN 1 A7 (AB (aV 0) AM)) AM)))) (jo (aV 3) (jt (aV 5)) jr)) (Ak 3)) BD))
   (Dx 4 HJ (AB (Ap (AB (aV 2) (AB (AY Ai (aV 3) (aC (.int 0))) (AB (AY Ai (aV 3) (aC (.int 1))) (AB (AY Ai (aV 3) (aC (.int 2))) AM))))) AM)))
def JP:AS:=
 (Aa (Aj (AN 2 BI (AB (aV 0) (AB (aC (.int 6)) AM))) (Ak 5))
   JQ)
def Ms:AS:=
 (Aa (Aj (AN 2 Cm (AB (aV 2) (AB (AN 1 FP (AB (aV 0) AM)) AM))) (Ak 2))
   JP)
def Mx:AS:=
 (Aa (Ku (As (AY bA (Hj Ib (AB (aV 4) AM)) (aV 1))) Ms)
   (Aq (Hj DP (AB (aV 4) AM))))
def Mw:AS:=
 (Aa (HA (ET (AB (Ap (AB (aV 2) (AB (AY Ai (aV 3) (aC (.int 0))) (AB (AY Ai (aV 3) (aC (.int 1))) (AB (AY Ai (aV 3) (aC (.int 2))) AM))))) AM)) 4)
   Mx)
def Mu:AS:=
 (Aa (Aj (G9 (ET (AB (AN 1 A7 (AB (aV 0) AM)) (AB (AN 1 A7 (AB (aV 0) AM)) (AB (AN 1 A7 (AB (aV 0) AM)) AM))))) (Ak 3))
   Mw)
def Gv:AS:=
 (Aa (Aj (Ap (AB (AN 2 BI (AB (aV 0) (AB (aC (.int 12)) AM))) (AB (aC (.int 1)) AM))) (Ak 2))
   Mu)
def Mt:AS:=
 (Aa (Bf (As (AY O9 (AN 2 BI (AB (aV 0) (AB (aC (.int 8)) AM))) (aC (.int 0)))) (Aj (AY Cc (aC (.int 7)) (AN 2 BI (AB (aV 0) (AB (aC (.int 3)) AM)))) (Ak 1)) BD)
   Gv)
def UL:AS:=
 (Aa (Aj (AY Cc (aC (.int 2)) (AN 2 BI (AB (aV 0) (AB (aC (.int 4)) AM)))) (Ak 1))
   Mt)
def EG:AF:=An 6 UL
def Zi (many:Int)(B k f:ke AV)(j:ke AV)(I:2<=many)(h1:many<=9){Q:PV->Prop}(h:∀cs,B6 9 6 512 cs->Q (DE cs)):Gv {nx:=λ_=>Q .non,rt:=Q,bk:=λ_=>False,ct:=λ_=>False} [some (.val .tape),some (.val (.int many)),B,k,j,f] :=by
 refine⟨rfl,C1 (!1) (!1) λm m0 m1=>⟨lz, ?_⟩⟩;refine⟨rfl,A6 λx hx=>⟨rfl,A6 λy hy=>⟨rfl,A6 λz hz=>⟨lz, ?_⟩⟩⟩⟩;refine⟨lz,lz, ?_⟩;refine⟨(many-1).toNat+1,Yk (λn τ=>∃(cs:km C4) (c:C4) (f:ke AV),n+(cs.length+1)=many.toNat+1/\1<=n/\(∀d∈cs ++ [c],Gz 6 (66+48*cs.length) d)/\(Mul 6 60 c.2.1/\Mul 6 60 c.2.2.1/\Mul 6 60 c.2.2.2)/\Gk (cs ++ [c])/\
  τ= [some (.val .tape),some (.val (.int many)),some (.val (fr c.1)),some (.val (.lst [fr c.2.1,fr c.2.2.1,fr c.2.2.2])),some (.own ((cs ++ [c]).map cor)),f]) ?_ ?_ _ _ ⟨[],((m:Rat),x,y,z),f, ?_, ?_, ?_, ?_, ?_, ?_⟩⟩
 .rintro τ ⟨cs,c,f,_,C,_⟩;omega
 .rintro n τ R D ⟨cs,c,f,C,J,hb,g,r,rfl⟩;have t:(((cs ++ [c]).map cor).length:Int)=(cs.length:Int)+1:=!2
  refine GS (b:=decide ((((cs ++ [c]).map cor).length:Int)<many)) (λz=> ?_) (λz=> ?_)
  .have l:(((cs ++ [c]).map cor).length:Int)<many:=ACH z;rw[t] at l;have u:=hb c (!2);refine⟨rfl,L7 λs E K F=>⟨rfl,ID ((u.m.bd (n:=12) (!0) (!1)).mono (!0)) (E.mono (!0)) ?_⟩⟩;refine⟨rfl,C1 (!1) (!1) λw L M=> ?_⟩;have a:∀(o:Gu) (x y z:Rat) (f:ke AV),o.nx=R->Mul 6 60 x->Mul 6 60 y->Mul 6 60 z->Dx 4 HJ (AB (Ap (AB (aV 2) (AB (AY Ai (aV 3) (aC (.int 0))) (AB (AY Ai (aV 3) (aC (.int 1))) (AB (AY Ai (aV 3) (aC (.int 2))) AM))))) AM)
    o [some (.val .tape),some (.val (.int many)),some (.val (fr (c.1+s))),some (.val (.lst [fr x,fr y,fr z])),some (.own ((cs ++ [c]).map cor)),f] :=by
    intro o x y z f G v i A;refine⟨lz, ?_, ?_⟩
    .show _<16777216;omega
    .rw [G];have H:Mul 6 (66+48*(cs.length+1)) (c.1+s):=(u.m.add F).mono (!0);refine D _ ⟨cs ++ [c],(c.1+s,x,y,z),f,by simp;omega,!0, ?_,⟨v,i,A⟩,iJ r ?_, ?_⟩
     .intro d hd;rcases AAX.mp hd with hd|hd
      .exact (hb d hd).mono (by simp;omega)
      .simp at hd;subst hd;have e:(cs ++ [c]).length=cs.length+1:=!2
       rw[e];exact⟨H,v.mono (!0),i.mono (!0),A.mono (!0)⟩
     .show c.1<c.1+s;grind
     .rw [AAv (l₁:=cs ++ [c])];rfl
   refine GS (b:=decide (3<w)) (λ_=> ?_) (λk=> ?_)
   .exact ⟨rfl,A6 λx hx=>⟨rfl,A6 λy hy=>⟨rfl,A6 λz hz=>⟨lz,a _ x y z _ rfl hx hy hz⟩⟩⟩⟩
   refine GS (b:=decide (0<w)) (λj=> ?_) (λj=> ?_)
   .have N:¬3<w:=ACm k;have O:0<w:=ACH j;have hw:w=1\/w=2\/w=3:=!0
    rcases hw with rfl|rfl|rfl
    .exact EF ⟨rfl,A6 λp hp=>⟨lz,lz,EF ⟨lz,a _ p _ _ _ rfl hp g.2.1 g.2.2⟩⟩⟩
    .exact EF ⟨rfl,A6 λp hp=>⟨lz,lz,EF ⟨lz,a _ _ p _ _ rfl g.1 hp g.2.2⟩⟩⟩
    .exact EF ⟨rfl,A6 λp hp=>⟨lz,lz,EF ⟨lz,a _ _ _ p _ rfl g.1 g.2.1 hp⟩⟩⟩
   .exact a _ _ _ _ _ rfl g.1 g.2.1 g.2.2
  .have l:¬(((cs ++ [c]).map cor).length:Int)<many:=ACm z;rw[t] at l;refine h (cs ++ [c]) ⟨by simp;omega,by simp;omega,λd hd=>(hb d hd).mono (!0),r⟩
 .simp;omega
 .omega
 .intro d hd;simp at hd;subst hd;exact⟨.int (!1) (by simp;omega),hx.mono (!1),hy.mono (!1),hz.mono (!1)⟩
 .exact ⟨hx,hy,hz⟩
 .exact AGV _ _
 .simp only[cor,fR,ACf,AAW,AEb];rfl
def G3 {Q:PV->Prop}(h:∀cs,B6 9 6 512 cs->Q (DE cs)):EG [.tape] Q:=by
 refine⟨rfl,C1 (!1) (!1) λa d e=>⟨rfl,C1 (!1) (!1) λb f b1=> ?_⟩⟩;refine GS (b:=decide (b=0)) (λ_=> ?_) (λ_=> ?_)
 .exact ⟨rfl,C1 (!1) (!1) λc c0 c1=>Zi (7+c) _ _ _ _ (!0) (!0) h⟩
 .exact Zi (2+a) _ _ _ _ (!0) (!0) h
noncomputable def mid (a b:Rat):Rat:=(a+b)/2
def pE {cs:km C4}{i:Int}{k:Nat}(hk:i=(k:Int))(h:k<=cs.length):L9 (cs.map cor) none (some i)=(cs.take k).map cor:=by unfold L9;rw[hk,HT.sIx_none,HT.sIx_nat];rw[show min k (cs.map cor).length=k by simp;omega,AF1];simp
def Mul.mid {N:Nat}(ha:Mul D N a)(hb:Mul D N b):Mul (2*D) (2*N) (mid a b):=by
 obtain⟨c,k,rfl,hk⟩:=ha;obtain⟨_,l,rfl,hl⟩:=hb;refine⟨!0,k+l, ?_,!0⟩;have h2:(2:Rat)=Rat.divInt 2 1:=rfl;unfold PL.mid;rw[AFy _ _ (!0) (!0),ADZ,h2,Rat.inv_divInt,AFz,ADW,AFG (DR (DR (!0) (!0)) (!1)) (!0),<-Int.add_mul];have e:((2*D:Nat):Int)=2*(D:Int):=!0
 rw[e,AFI,AFI,AFH 2 (D:Int)]
def Mul.dbl {N:Nat}(h:Mul D N a):Mul (2*D) (2*N) a:=by
 have:=h.mid h
 rwa [show PL.mid a a=a by unfold PL.mid;grind] at this
def Gz.dbl {N:Nat}(h:Gz D N c):Gz (2*D) (2*N) c:=⟨h.m.dbl,h.x.dbl,h.y.dbl,h.z.dbl⟩
def B6.ok {N m:Nat}(p:B6 n D N cs)(h1:N<2^m)(h2:D<2^m):GM n m cs:=⟨p.two,p.few,λc hc=>(p.mu c hc).bd h1 h2,p.ris⟩
def CM (cs:km C4)(v:PV):Prop:=∃f:C4->PV,(f=cor\/f=corL)/\(v= .tup (cs.map f)\/v= .lst (cs.map f))
def CM.self (cs:km C4):CM cs (DE cs):=⟨cor, .inl rfl, .inl rfl⟩
def CM.lists (cs:km C4):CM cs (.lst (cs.map corL)):=⟨corL, .inr rfl, .inr rfl⟩
theorem GP {i l:Type}{g:AG}{te:AE}{d:A4}{Q:km PV->Prop}(f:i->PV)(k:l->PV)(e:i->l)(P:i->Prop)(hs:∀a,P a->∀R:PV->Prop,R (k (e a))->g (f a) d λj=>te j R):∀(xs:km i) (c:km PV),(∀a∈xs,P a)->Q (c++(xs.map e).map k)->B9 g Eg te d Q (xs.map f) c
 | [],c,_,h=>(by simpa using h:Q c)
 | a::xs,c,hp,h=>by refine hs a (hp a (!2)) (λy=>B9 g Eg te d Q (xs.map f) (c ++ [y])) (GP f k e P hs xs _ (λb hb=>hp b (by simp[hb])) ?_);simpa using h
def Sh.cor (h:Ed 1900 c):Sh 2 17000 (cor c):=(Sh.tup (u4 (Sh.fr h.m) (Sh.fr h.x) (Sh.fr h.y) (Sh.fr h.z))).mono (!1) lz
def Sh.corL (h:Ed 1900 c):Sh 2 17000 (corL c):=(Sh.lst (u4 (Sh.fr h.m) (Sh.fr h.x) (Sh.fr h.y) (Sh.fr h.z))).mono (!1) lz
abbrev T3:=Rat×Rat×Rat
noncomputable def inter (a b:C4)(m:Rat):T3:=(a.2.1+(m-a.1)/(b.1-a.1)*(b.2.1-a.2.1),a.2.2.1+(m-a.1)/(b.1-a.1)*(b.2.2.1-a.2.2.1),a.2.2.2+(m-a.1)/(b.1-a.1)*(b.2.2.2-a.2.2.2))
noncomputable def spotG:C4->km C4->Rat->ke T3
 | _, [],_=>none
 | a,b::r,m=>if b.1<m then spotG b r m else some (inter a b m)
noncomputable def spotC:km C4->Rat->ke T3
 | [],_=>none
 | a::r,m=>if m<a.1 then none else spotG a r m
def sn (t:T3):PV:= .tup [fr t.1,fr t.2.1,fr t.2.2]
def RI:ke T3->PV
 | none=> .non
 | some t=>sn t
structure Dw (B:Nat) (t:T3):Prop where
 x:Bd B t.1
 y:Bd B t.2.1
 z:Bd B t.2.2
def Dw.mono {a:Nat}{t:T3}(h:Dw B t)(k:B<=a):Dw a t:=⟨h.x.mono k,h.y.mono k,h.z.mono k⟩
section
variable {B M:Nat}{a b:C4}{m:Rat}
theorem YY {x y:Rat}(h:x<y):y-x≠0:=!3
theorem Bd.share (ha:Ed B a)(hb:Ed B b)(c:Bd M m)(h:a.1<b.1):Bd (M+B+1+(B+B+1)) ((m-a.1)/(b.1-a.1)):=(c.sub ha.m).div (YY h) (hb.m.sub ha.m)
theorem Dw.inter (ha:Ed B a)(hb:Ed B b)(c:Bd M m)(h:a.1<b.1):Dw (M+6*B+10) (inter a b m):=by have s:=Bd.share ha hb c h;exact⟨(ha.x.add (s.mul (hb.x.sub ha.x))).mono (!0),(ha.y.add (s.mul (hb.y.sub ha.y))).mono (!0),(ha.z.add (s.mul (hb.z.sub ha.z))).mono (!0)⟩
end
theorem Dw.spotG (d:Bd M m):∀{a:C4} {r:km C4},Gk (a::r)->(∀c∈a::r,Ed B c)->∀t,spotG a r m=some t->Dw (M+6*B+10) t
 | a, [],_,_,t,e=>by cases e
 | a,b::r,hr,hb,t,e=>by
   unfold PL.spotG at e;split at e
   .exact Dw.spotG d (AAU.mp hr).2 (λc hc=>hb c (by simp[hc])) t e
   .cases e;exact .inter (hb a (!2)) (hb b (!2)) d ((AAU.mp hr).1 b (!2))
def Dw.spotC (b:Bd M m)(d:Gk cs)(hb:∀c∈cs,Ed B c):∀t,spotC cs m=some t->Dw (M+6*B+10) t:=λt e=>by
 cases cs with
 | nil=>cases e
 | cons a r=>
   simp only[PL.spotC] at e;split at e
   .cases e
   .exact Dw.spotG b d hb t e
def Ho {f:C4->PV}{cs:km C4}{i:Int}{k:Nat}{Q:PV->Prop}(hk:i=(k:Int))(e:cs[k]? =some c)(h:Q (f c)):jS (Jf (cs.map f) i) Q:=by have q:Jf (cs.map f) ((k:Nat):Int)=some (f c):=DL (by rw[AAu,e] <;> rfl);rw[hk,q];exact h
def U7 {f:C4->PV}{cs:km C4}{Q:PV->Prop}(e:cs.getLast?=some c)(h:Q (f c)):jS (Jf (cs.map f) (-1)) Q:=by
 have a:cs≠ [] :=by intro z;subst z;cases e
 have hl:0<cs.length:=List.length_pos_iff.mpr a;have q:Jf (cs.map f) (-1)=some (f c):=by
  unfold Jf ZQ;rw[AAT,AAL (!1),AAM (!0)];have b:(-1+(cs.length:Int)).toNat=cs.length-1:=!0
  rw[Option.bind_some,b,AAu,<-AGW,e];rfl
 rw[q];exact h
def NH:AS:=
 (Aa (Aj (AN 2 GK (AB (AN 2 Bw (AB (aV 2) (AB (AY Ai (aV 0) (aC (.int 0))) AM))) (AB (AN 2 Bw (AB (AY Ai (aV 1) (aC (.int 0))) (AB (AY Ai (aV 0) (aC (.int 0))) AM))) AM))) (Ak 3))
   (Aq (Hj DP (AB (G9 (CO (sR (AB (jo (aV 0) (jt (aC (.int 1))) jr) (AB (jo (aV 1) (jt (aC (.int 1))) jr) AM))) 2 [3] (HB 2 (Ab (Ak 0) (Ab (Ak 1) BP))) Eg (AN 2 D4 (AB (aV 0) (AB (AN 2 FR (AB (aV 2) (AB (AN 2 Bw (AB (aV 1) (AB (aV 0) AM))) AM))) AM))))) AM))))
def Dk:AF:=An 4 NH
def JY {f:C4->PV}(i:f=cor\/f=corL)(ha:Ed B a)(hb:Ed B b)(c:Bd M m)(h:a.1<b.1)(k:M+6*B+10<=3990){Q:PV->Prop}(q:Q (sn (inter a b m))):Dk [f a,f b,fr m] Q:=by
 simp only[sn,inter] at q;have s:=Bd.share ha hb c h;have key:B9 (HB 2 (Ab (Ak 0) (Ab (Ak 1) BP))) Eg (AN 2 D4 (AB (aV 0) (AB (AN 2 FR (AB (aV 2) (AB (AN 2 Bw (AB (aV 1) (AB (aV 0) AM))) AM))) AM))) [none,none,some (.val (fr ((m-a.1)/(b.1-a.1))))] (λxs=>Q (.tup xs))
  ([(a.2.1,b.2.1),(a.2.2.1,b.2.2.1),(a.2.2.2,b.2.2.2)].map λp:Rat×Rat=>PV.tup [fr p.1,fr p.2]) [] :=by refine GP (λp:Rat×Rat=>PV.tup [fr p.1,fr p.2]) fr (λp=>p.1+(m-a.1)/(b.1-a.1)*(p.2-p.1)) (λp=>Bd B p.1/\Bd B p.2) (λp hp R j=> ?_) _ [] (uz ⟨ha.x,hb.x⟩ ⟨ha.y,hb.y⟩ ⟨ha.z,hb.z⟩) q;have d:=hp.1;have g:=hp.2;exact⟨rfl,rfl,D3 (g.mono (!0)) (d.mono (!0)) ⟨rfl,Ng (s.mono (!0)) ((g.sub d).mono (!0)) ⟨rfl,QZ (d.mono (!0)) ((s.mul (g.sub d)).mono (!0)) j⟩⟩⟩
 have m1:=c.mono (n:=4000) (!0);have e:=ha.m.mono (n:=4000) (!0);have b1:=hb.m.mono (n:=4000) (!0);rcases i with rfl|rfl
 .exact ⟨rfl,D3 m1 e ⟨rfl,D3 b1 e ⟨rfl,Kk (YY h) ((c.sub ha.m).mono (!0)) ((hb.m.sub ha.m).mono (!0)) (Mm (Mm ⟨lz,key⟩))⟩⟩⟩
 .exact ⟨rfl,D3 m1 e ⟨rfl,D3 b1 e ⟨rfl,Kk (YY h) ((c.sub ha.m).mono (!0)) ((hb.m.sub ha.m).mono (!0)) (EF (EF ⟨lz,key⟩))⟩⟩⟩
def Rq:AS:=
 (Aa (EK (jp (AB (aC (.int 1)) (AB (Hj Ib (AB (aV 0) AM)) AM))) (Ak 2) (Bf (F2 (As (AN 2 Am (AB (AY Ai (AY Ai (aV 0) (aV 2)) (aC (.int 0))) (AB (aV 1) AM))))) (Aq (AN 3 Dk (AB (AY Ai (aV 0) (AY F5 (aV 2) (aC (.int 1)))) (AB (AY Ai (aV 0) (aV 2)) (AB (aV 1) AM))))) BD))
   (Aq (aC .non)))
def aK:AS:=
 (Aa (Bf (As (AN 2 Am (AB (aV 1) (AB (AY Ai (AY Ai (aV 0) (aC (.int 0))) (aC (.int 0))) AM)))) (Aq (aC .non)) BD)
   Rq)
def D6:AF:=An 3 aK
def TL (h:Gk cs){k:Nat}(c:cs[k]? =some a)(d:cs[k+1]? =some b):a.1<b.1:=by have h1:=(AB8.mp c);have h2:=(AB8.mp d);obtain⟨e,rfl⟩:=h1;obtain⟨f,rfl⟩:=h2;exact AGX.mp h k (k+1) e f (!0)
def Ee (hv:CM cs v)(hc:∀c∈cs,Ed B c)(A:Gk cs)(C:cs≠ [])(hl:cs.length<=1000)(t:Bd M m)(D:M+6*B+10<=3990){Q:PV->Prop}(q:Q (RI (spotC cs m))):D6 [v,fr m] Q:=by
 obtain⟨f,u,hv⟩:=hv;have m1:=t.mono (n:=4000) (!0);cases cs with
 | nil=>exact absurd rfl C
 | cons a r=>
   have ba:=hc a (!2);have E:=ba.m.mono (n:=4000) (!0);simp only[spotC] at q;have F:r.length+1<=1000:=hl;have h:∀(c:C4) (P:PV->Prop),P (fr c.1)->Mb (f c) λys=>jS (Jf ys 0) P:=λc P G=>by rcases u with rfl|rfl <;> exact G
   rcases hv with rfl|rfl;all_goals
    refine Ho (k:=0) (c:=a) rfl rfl (h a _ ⟨rfl,CC m1 E ?_⟩);refine GS (b:=decide (m<a.1)) (λz=> ?_) (λz=> ?_)
    .rw [AAM (ACH z)] at q;exact q
    .rw [AAL (ACm z)] at q;have j:∀f:C4->PV,((((a::r).map f).length:Nat):Int)=r.length+1:=λf=>!2
     refine⟨⟨!1,!1,by rw[j];omega,by rw[j];omega⟩, ?_⟩;rw[j,show ((r.length:Int)+1-1).toNat=r.length by omega];refine MT (λw τ=>∃(k:Nat) (o:ke AV) (c:C4) (ds:km C4),w=rng ((k:Int)+1) ds.length/\(a::r)[k]? =some c/\(a::r).drop (k+1)=ds/\spotG c ds m=spotG a r m/\τ= [some (.val _),some (.val (fr m)),o]) ?_ ?_ _ _ ⟨0,none,a,r,rfl,rfl,rfl,rfl,rfl⟩
     .rintro τ ⟨k,o,c,ds,g,i,p,es,rfl⟩;have:ds= [] :=by
       cases ds with
       | nil=>rfl
       | cons d ds=>rw[AAk,F9] at g;cases g
      subst this;rw[<-es] at q;exact q
     .rintro x w τ R H ⟨k,o,c,ds,g,i,p,es,rfl⟩;cases ds with
      | nil=>cases g
      | cons d ds=>
        rw[AAk,F9] at g;cases g;have e:(a::r)[k+1]? =some d:=by have:=congrArg (λl=>l[0]?) p;simpa[AEi] using this
        have y:=hc d (ACN e);have I:=hc c (ACN i);refine Ho (k:=k+1) (!0) e (h d _ ⟨rfl,CC (y.m.mono (!0)) m1 ?_⟩);refine GS (b:= !decide (d.1<m)) (λz=> ?_) (λz=> ?_)
        .have s:¬d.1<m:=↑z
         rw[<-es] at q;simp only[spotG,AAL s,RI] at q;exact Ho (k:=k) (!0) i (Ho (k:=k+1) (!0) e ⟨rfl,JY u I y t (TL A i e) D q⟩)
        .have s:d.1<m:=↑z
         refine H _ ⟨k+1,_,d,ds, ?_,e, ?_, ?_,rfl⟩
         .rw [show (((k+1:Nat):Int)+1)=(k:Int)+1+1 by omega]
         .have:=congrArg List.tail p;simpa[List.tail_drop] using this
         .rw [<-es];simp only[spotG,AAM s]
def Lj {a b:C4}(h:a.1<b.1):inter a b a.1=a.2:=by
 have s:(a.1-a.1)/(b.1-a.1)=0:=!3
 simp only[inter,s];obtain⟨m,x,y,z⟩:=a;show (x+0*(b.2.1-x),y+0*(b.2.2.1-y),z+0*(b.2.2.2-z))=(x,y,z);rw[show x+0*(b.2.1-x)=x by grind,show y+0*(b.2.2.1-y)=y by grind,show z+0*(b.2.2.2-z)=z by grind]
def Ig {a b:C4}(h:a.1<b.1):inter a b b.1=b.2:=by
 have s:(b.1-a.1)/(b.1-a.1)=1:=!3
 simp only[inter,s];obtain⟨m,x,y,z⟩:=b;show (a.2.1+1*(x-a.2.1),a.2.2.1+1*(y-a.2.2.1),a.2.2.2+1*(z-a.2.2.2))=(x,y,z);rw[show a.2.1+1*(x-a.2.1)=x by grind,show a.2.2.1+1*(y-a.2.2.1)=y by grind,show a.2.2.2+1*(z-a.2.2.2)=z by grind]
def EQ {a:C4}{r:km C4}{m:Rat}(h:m<a.1):spotC (a::r) m=none:=by simp only[spotC,AAM h]
def oX.t3 {t:T3}(h:Dw 1900 t):oX (sn t):=(Sh.tup (uz (Sh.fr h.x) (Sh.fr h.y) (Sh.fr h.z))).go (!1) lz
noncomputable def sp (cs:km C4)(m:Rat):C4:=(m,(spotC cs m).getD (0,0,0))
noncomputable def Qi (f t:Rat)(c:C4):kc:=decide (f<c.1)&&decide (c.1<t)
theorem Ot {m:Rat}:∀{a:C4} {r:km C4} {l:C4},r≠ [] ->(a::r).getLast?=some l->m<=l.1->∃t,spotG a r m=some t
 | a, [],l,h,_,_=>absurd rfl h
 | a,b::r,l,_,e,hm=>by
   simp only[spotG];split
   .rename_i h;cases r with
    | nil=>
      have:b=l:=↑e
      subst this;grind
    | cons c r=>exact Ot (l:=l) (!2) (by simpa[AEj] using e) hm
   .exact ⟨_,rfl⟩
def Cw {a:C4}{r:km C4}{m:Rat}(h2:r≠ [])(e:(a::r).getLast?=some l)(b:a.1<=m)(h1:m<=l.1):∃t,spotC (a::r) m=some t:=by simp only[spotC];rw[AAL (!3)];exact Ot h2 e h1
def bg {a b:C4}{r:km C4}(e:(a::b::r).getLast?=some l):(b::r).getLast?=some l:=by simpa[AEj] using e
def mx (b a:Rat):Rat:=if b<a then a else b
def mn (e l:Rat):Rat:=if e<l then e else l
def Mp:AS:=
 (Aq (jl (As (AN 2 Am (AB (aV 0) (AB (aV 1) AM)))) (aV 1) (aV 0)))
def Cj:AF:=An 2 Mp
def JW (ha:Bd 4000 a)(hb:Bd 4000 b){Q:PV->Prop}(q:Q (fr (mx a b))):Cj [fr a,fr b] Q:=by
 refine⟨rfl,CC ha hb ?_⟩;refine GS (b:=decide (a<b)) (λz=> ?_) (λz=> ?_)
 .rw [mx,AAM (ACH z)] at q;exact q
 .rw [mx,AAL (ACm z)] at q;exact q
def db:AS:=
 (Aq (jl (As (AN 2 Am (AB (aV 1) (AB (aV 0) AM)))) (aV 1) (aV 0)))
def Ez:AF:=An 2 db
def Uk (ha:Bd 4000 a)(hb:Bd 4000 b){Q:PV->Prop}(q:Q (fr (mn a b))):Ez [fr a,fr b] Q:=by
 refine⟨rfl,CC hb ha ?_⟩;refine GS (b:=decide (b<a)) (λz=> ?_) (λz=> ?_)
 .have c:=ACH z;rw[show mn a b=b by unfold mn;split <;> grind] at q;exact q
 .have c:=ACm z;rw[show mn a b=a by unfold mn;split <;> grind] at q;exact q
theorem DO {i:Type}{g:AG}{j:AT}{te:AE}{d:A4}{Q:km PV->Prop}(f k:i->PV)(p:i->kc)(P:i->Prop)(hs:∀a,P a->∀(R:PV->Prop) (N:Prop),(p a=true->R (k a))->(p a=false->N)->g (f a) d λe=>j e λok=>if ok=true then te e R else N):∀(xs:km i) (c:km PV),(∀a∈xs,P a)->Q (c++(xs.filter p).map k)->B9 g j te d Q (xs.map f) c
 | [],c,_,h=>(by simpa using h:Q c)
 | a::xs,c,hp,h=>by
   refine hs a (hp a (!2)) (λy=>B9 g j te d Q (xs.map f) (c ++ [y])) _ (λz=> ?_) (λz=> ?_)
   .exact DO f k p P hs xs _ (λb hb=>hp b (by simp[hb])) (by simpa[ACq,z] using h)
   .exact DO f k p P hs xs _ (λb hb=>hp b (by simp[hb])) (by simpa[ACq,z] using h)
def both {t:Rat}{b:(kc->Prop)->Prop}{A:Prop}{N:Prop}(h1:Qi f t c=true->A)(h2:Qi f t c=false->N):if decide (f<c.1)=true then (if decide (c.1<t)=true then A else N) else N:=by unfold Qi at h1 h2;refine GS (λz=>GS (λa=>h1 (by rw[z,a];rfl)) (λa=>h2 (by rw[z,a];rfl))) (λz=>h2 (by rw[z];rfl))
def JR:AS:=
 (Aq (G9 (CO (JL (aV 0)) 1 [1,2] (Ak 0) (Gm (As (AN 2 Am (AB (aV 1) (AB (AY Ai (aV 0) (aC (.int 0))) AM)))) (As (AN 2 Am (AB (AY Ai (aV 0) (aC (.int 0))) (AB (aV 2) AM))))) (Hj DP (AB (aV 0) AM)))))
def Bu:AF:=An 3 JR
def EH {t:Rat}(hv:CM cs v)(hl:cs.length<=1000)(hc:∀c∈cs,Ed B c)(h:B<=4000)(i:Bd 4000 f)(j:Bd 4000 t){Q:PV->Prop}(q:Q (.lst ((cs.filter (Qi f t)).map cor))):Bu [v,fr f,fr t] Q:=by
 obtain⟨g,k,hv⟩:=hv;have a:(cs.map g).length<sizeLine:=by rw[AAT];exact AAq hl (!1)
 have key:∀(c:C4),Ed B c->∀(R:PV->Prop) (N:Prop),(Qi f t c=true->R (cor c))->(Qi f t c=false->N)->
  (Ak 0) (g c) [none,some (.val (fr f)),some (.val (fr t))] λd=>(Gm (As (AN 2 Am (AB (aV 1) (AB (AY Ai (aV 0) (aC (.int 0))) AM)))) (As (AN 2 Am (AB (AY Ai (aV 0) (aC (.int 0))) (AB (aV 2) AM))))) d λok=>if ok=true then (Hj DP (AB (aV 0) AM)) d R else N:=by
  intro c l R N h1 h2;have bm:=l.m.mono h;rcases k with rfl|rfl;all_goals
   refine⟨rfl,CC i bm ?_⟩;refine GS (b:=decide (f<c.1)) (λz=> ?_) (λz=>h2 (by unfold Qi;rw[z];rfl));refine⟨rfl,CC bm j ?_⟩;exact GS (b:=decide (c.1<t)) (λe=>h1 (by unfold Qi;rw[z,e];rfl)) (λe=>h2 (by unfold Qi;rw[z,e];rfl))
 rcases hv with rfl|rfl
 .exact ⟨a,DO g cor (Qi f t) (Ed B) key cs [] hc q⟩
 .exact ⟨a,DO g cor (Qi f t) (Ed B) key cs [] hc q⟩
def Bd.mx (ha:Bd n a)(hb:Bd n b):Bd n (mx a b):=by unfold PL.mx;split <;> assumption
def Bd.mn (ha:Bd n a)(hb:Bd n b):Bd n (mn a b):=by unfold PL.mn;split <;> assumption
section
variable {a b:AS}{ta tb:AE}{tt tu:AT}{g:AG}{gs:Wa}{nx bk ct:A4->Prop}{rt:PV->Prop}{τ:A4}{Q:PV->Prop}{QB:kc->Prop}{QL:km PV->Prop}{QT:A4->Prop}{r:AA}{ai:AI}{F:AF}{n i j:Nat}{x y z:PV}{xs ys:km PV}
def vY {f:IW}(e:UH τ i=some (.val x))(h:ta τ λy=>f x y λz=>nx (τ.set i (some (.val z)))):Wt i f ta ⟨nx,rt,bk,ct⟩ τ:=by unfold Wt;rw[e];exact h
def vn (e:UH τ i=some (.own xs))(h:QL xs):L8 i τ QL:=by unfold L8;rw[e];exact h
def s_V (e:UH τ i=some (.val x))(h:Q x):aV i τ Q:=by unfold aV;rw[e];exact h
noncomputable def ixE (x:PV)(i:Int):ke PV:=match x with | .tup xs=>Jf xs i | .lst xs=>Jf xs i|_=>none
def vh {i:Int}(e:ixE x i=some z)(h:Q z):Ai x (.int i) Q:=by cases x <;> first | (cases e;done)|(show jS (Jf _ i) Q;rw[show Jf _ i=some z from e];exact h)
def vZ {a b:Rat}(h:Q (.bl (decide (a=b)))):O9 (fr a) (fr b) Q:=⟨⟨Zb 29 _,Zb 29 _⟩,by rw[fM];exact h⟩
def vk {a b:Rat}(h:Q (.bl (!decide (a=b)))):bC (fr a) (fr b) Q:=⟨⟨Zb 29 _,Zb 29 _⟩,by rw[fM];exact h⟩
def rB {cs:km C4}(h:Q (.int cs.length)):Ib [DE cs] Q:=by show Q (.int (cs.map cor).length);rw[AAT];exact h
def vd {c:kc}{A B:Prop}(e:c=true)(h:A):if c=true then A else B:=by rw[AAM e];exact h
def vc {c:kc}{A B:Prop}(e:c=false)(h:B):if c=true then A else B:=by rw[AAL (by rw[e];exact AAY)];exact h
def vf {p:Prop}[Decidable p]{A B:Prop}(h1:p->A)(h2:¬p->B):if decide p=true then A else B:=by
 by_cases h:p
 .rw [AAM (AAl h)];exact h1 h
 .rw [AAL (by simp[h])];exact h2 h
def vg {p:Prop}[Decidable p]{A B:Prop}(h1:¬p->A)(h2:p->B):if (!decide p)=true then A else B:=by
 by_cases h:p
 .rw [AAL (by simp[h])];exact h2 h
 .rw [AAM (by simp[h])];exact h1 h
end
def uB:Bd 1 (0:Rat):=⟨!1,!1⟩
def uC:Bd 1 (1:Rat):=⟨!1,!1⟩
section
variable {g:AG}{b:AS}{nx bk ct:A4->Prop}{rt:PV->Prop}
def SN (P:Nat->A4->Prop){lo:Int}(hd:∀τ,P n τ->nx τ)(hs:∀i,i<n->∀τ (R:A4->Prop),(∀τ,P (i+1) τ->R τ)->P i τ->g (.int (lo+i)) τ λc=>b ⟨R,rt,nx,R⟩ c){τ:A4}(f:P 0 τ):DB g b ⟨nx,rt,bk,ct⟩ (rng lo n) τ:=by
 refine MT (λr τ=>∃i,i<=n/\r=rng (lo+i) (n-i)/\P i τ) ?_ ?_ _ _ ⟨0,ACB _,!2,f⟩
 .rintro τ ⟨i,hi,a,hp⟩;have:n-i=0:=by
   cases e:n-i with
   | zero=>rfl
   | succ k=>rw[e,F9] at a;cases a
  have:i=n:=!0
  subst this;exact hd τ hp
 .rintro x r τ R h ⟨i,hi,a,hp⟩;cases e:n-i with
  | zero=>rw[e] at a;cases a
  | succ k=> rw[e,F9] at a;cases a;exact hs i (!0) τ R (λd h2=>h d ⟨i+1,!0,by rw[show n-(i+1)=k by omega,show lo+((i+1:Nat):Int)=lo+i+1 by omega],h2⟩) hp
def B0 {d:Type}(f:d->PV)(P:km d->km d->A4->Prop){cs:km d}(hd:∀τ,P cs [] τ->nx τ)(hs:∀a c vs,a++c::vs=cs->∀τ (R:A4->Prop),(∀τ,P (a ++ [c]) vs τ->R τ)->P a (c::vs) τ->g (f c) τ λi=>b ⟨R,rt,nx,R⟩ i){τ:A4}(k:P [] cs τ):DB g b ⟨nx,rt,bk,ct⟩ (cs.map f) τ:=by
 refine MT (λr τ=>∃a vs,a++vs=cs/\r=vs.map f/\P a vs τ) ?_ ?_ _ _ ⟨[],cs,rfl,rfl,k⟩
 .rintro τ ⟨a,vs,e,h,hp⟩;cases vs with
  | nil=>rw[AEU] at e;subst e;exact hd τ hp
  | cons v vs=>cases h
 .rintro x r τ R l ⟨a,vs,e,h,hp⟩;cases vs with
  | nil=>cases h
  | cons c vs=> cases h;exact hs a c vs e τ R (λj h2=>l j ⟨a ++ [c],vs,↑e,rfl,h2⟩) hp
def wR {c:AT}(P:Nat->A4->Prop)(hs:∀n τ (R:A4->Prop),(∀τ,P n τ->R τ)->P (n+1) τ->c (frz τ) λk=>if k=true then b ⟨R,rt,nx,R⟩ τ else nx τ)(a:∀τ,¬P 0 τ){n:Nat}{τ:A4}(d:P n τ):Ku c b ⟨nx,rt,bk,ct⟩ τ:=
 ⟨n,Yk P a (λn τ R e hp=>hs n τ R e hp) n τ d⟩
end
section
variable {g:AG}{tt:AT}{te:AE}{τ0:A4}{Q:km PV->Prop}
def Yz (P:Nat->km PV->Prop){lo:Int}(hd:∀a,P n a->Q a)(hs:∀i,i<n->∀a (R:km PV->Prop),(∀a,P (i+1) a->R a)->P i a->g (.int (lo+i)) τ0 λc=>tt c λok=>if ok=true then te c λy=>R (a ++ [y]) else R a)(f:P 0 []):B9 g tt te τ0 Q (rng lo n) [] :=by
 refine Yy (λr a=>∃i,i<=n/\r=rng (lo+i) (n-i)/\P i a) ?_ ?_ _ _ ⟨0,ACB _,!2,f⟩
 .rintro a ⟨i,hi,b,hp⟩;have:n-i=0:=by
   cases e:n-i with
   | zero=>rfl
   | succ k=>rw[e,F9] at b;cases b
  have:i=n:=!0
  subst this;exact hd a hp
 .rintro x r a R h ⟨i,hi,b,hp⟩;cases e:n-i with
  | zero=>rw[e] at b;cases b
  | succ k=> rw[e,F9] at b;cases b;exact hs i (!0) a R (λd h2=>h d ⟨i+1,!0,by rw[show n-(i+1)=k by omega,show lo+((i+1:Nat):Int)=lo+i+1 by omega],h2⟩) hp
end
end PL
namespace PL
section
variable {p:Prop}[Decidable p]{A B:Prop}
def q9 (h:p)(a:A):if decide p=true then A else B:=by rw[AAM (AAl h)];exact a
def q0 (h:¬p)(a:B):if decide p=true then A else B:=by rw[AAL (by simp[h])];exact a
def rA (h:p)(a:B):if (!decide p)=true then A else B:=by rw[AAL (by simp[h])];exact a
end
end PL
namespace PL
open PySem PySem.Spec PyProof.Rows L2
def Kc (K:AAJ)(mg:Str->ke kj)(x:Str)(v:PV):Prop:=∃(u:kj) (V:V),mg x=some u/\RelV V u/\∀T M H,B8 K T M H V v
section
variable {K:AAJ}{T M:kf->Prop}{H:Hp}
def Bk {i:Int}{t:Tok}:∃V,RelV V (.int i t)/\∀T M H,B8 K T M H V (.int i):=⟨.int i,⟨t,rfl⟩,λ_ _ _=> .int i⟩
inductive KR (K:AAJ):List Value->List PV->Prop where
 | nil:KR K [] []
 | cons {u:Value} {x:PV} {us:List Value} {xs:List PV} (h:∃V,RelV V u/\∀T M H,B8 K T M H V x) (t:KR K us xs):KR K (u::us) (x::xs)
theorem KR.reps:∀{a:km kj} {xs:km PV},KR K a xs->∃vs,Au vs a/\∀T M H,Az K T M H vs xs
 | _,_, .nil=>⟨[], .nil,λ_ _ _=> .nil⟩
 | _,_, .cons ⟨V,r,h⟩ t=>by obtain⟨vs,r2,h2⟩:=KR.reps t;exact⟨V::vs, .cons r r2,λT M H=> .cons (h T M H) (h2 T M H)⟩
def KR.length:∀{a:km kj} {xs:km PV},KR K a xs->a.length=xs.length
 | _,_, .nil=>rfl
 | _,_, .cons _ t=>by simp[t.length]
def Mf {b:km kj}{c:ke kf}{sl:Array (ke kj)}(hl:K.lookup a=some ⟨.type "tuple",c, .seq b.toArray n,sl⟩)(h:KR K b xs)(hs:xs.length<=sizeLine:=by decide):∃V,RelV V (.ref a)/\∀T M H,B8 K T M H V (.tup xs):=by obtain⟨vs,r,q⟩:=h.reps;refine⟨.ref a,rfl,λT M H=> .tup (vs:=vs) (.inr ⟨_,b.toArray,n,hl,rfl,rfl, ?_,↑r⟩) (q T M H)⟩;rw[AAh,h.length];exact hs
end
def ZS {K:AAJ}{mg:Str->ke kj}(a:mg x=some u)(h:∃V,RelV V u/\∀T M H,B8 K T M H V v):Kc K mg x v:=let ⟨V,r,q⟩:=h;⟨u,V,a,r,q⟩
section
variable {X:Cx}
def BK (c:Kc X.K X.mg x v)(a:Gl X x)(hd:(x==("__debug__" :Str))=false:=by decide):SE X (.Name x pos) (aC v):=by obtain⟨u,V,b,r,h⟩:=c;exact⟨_,lN a b r hd,WG h⟩
end
end PL
namespace PL
open PySem L2 PyProof.Rows
class Wp (P:Prop) (P':outParam Prop):Prop where
 go:P'->P
class Ws (P:Prop) (C P':outParam Prop):Prop where
 go:C->P'->P
class WpU (P:Prop) (P':outParam Prop):Prop where
 go:P'->P
class xm (P:Prop) (A B:outParam Prop):Prop where
 go:A->B->P
class aY (τ:A4) (i:Nat) (x:outParam AV):Prop where
 e:UH τ i=some x
instance{r:A4}:aY (some v::r) 0 v:=⟨rfl⟩
instance{y:ke AV}[h:aY r i v] :aY (y::r) (i+1) v:=⟨h.e⟩
instance{a b c d:ke AV}[h:aY r i v] :aY (a::b::c::d::r) (i+4) v:=⟨h.e⟩
instance{a b c d e f g k:ke AV}[h:aY r i v] :aY (a::b::c::d::e::f::g::k::r) (i+8) v:=⟨h.e⟩
class R5 (τ:A4) (i:Nat) (v:AV) (τ':outParam A4):Prop where
 e:τ.set i (some v)=τ'
instance{y:ke AV}{r:A4}:R5 (y::r) 0 v (some v::r):=⟨rfl⟩
instance{y:ke AV}[h:R5 r i v a] :R5 (y::r) (i+1) v (y::a):=⟨by rw[AFJ,h.e]⟩
instance{a b c d:ke AV}[h:R5 r i v f] :R5 (a::b::c::d::r) (i+4) v (a::b::c::d::f):=⟨by rw[<-h.e];rfl⟩
instance{a b c d e f g k:ke AV}[h:R5 r i v j] :R5 (a::b::c::d::e::f::g::k::r) (i+8) v (a::b::c::d::e::f::g::k::j):=⟨by rw[<-h.e];rfl⟩
class dM (τ:A4) (τ':outParam A4):Prop where
 e:frz τ=τ'
instance:dM [] [] :=⟨rfl⟩
instance (priority:=low){z:ke AV}[h:dM r a] :dM (z::r) (j5 z::a):=⟨by rw[<-h.e];rfl⟩
instance[h:dM r a] :dM (none::r) (none::a):=⟨by rw[<-h.e];rfl⟩
instance[h:dM r a] :dM (some (.val x)::r) (some (.val x)::a):=⟨by rw[<-h.e];rfl⟩
instance[h:dM r a] :dM (some (.own x)::r) (some (.val (.lst x))::a):=⟨by rw[<-h.e];rfl⟩
class tQ (ix:List Nat) (τ:A4) (τ':outParam A4):Prop where
 e:(ix.map λi=>aj (UH τ i))=τ'
instance:tQ [] τ [] :=⟨rfl⟩
instance[h:aY τ i (.val x)][h2:tQ ix τ r] :tQ (i::ix) τ (some (.val x)::r):=⟨by rw[AAW,h.e,h2.e];rfl⟩
class t8 (n:Nat) (τ:outParam A4):Prop where
 e:List.replicate n none=τ
instance:t8 0 [] :=⟨rfl⟩
instance[h:t8 n τ] :t8 (n+1) (none::τ):=⟨by rw[List.replicate_succ,h.e]⟩
class dc (xs ys:A4) (zs:outParam A4):Prop where
 e:xs++ys=zs
instance:dc [] ys ys:=⟨rfl⟩
instance{x:ke AV}[h:dc xs ys a] :dc (x::xs) ys (x::a):=⟨by rw[AF2,h.e]⟩
class jY (xs ys:List PV) (zs:outParam (List PV)):Prop where
 e:xs++ys=zs
instance:jY [] ys ys:=⟨rfl⟩
instance{x:PV}[h:jY xs ys a] :jY (x::xs) ys (x::a):=⟨by rw[AF2,h.e]⟩
class jg (xs:List PV) (n:outParam Nat):Prop where
 e:xs.length=n
instance:jg [] 0:=⟨rfl⟩
instance{x:PV}[h:jg xs n] :jg (x::xs) (n+1):=⟨by rw[AAk,h.e]⟩
class Ix (x:PV) (i:Int) (y:outParam PV):Prop where
 e:ixE x i=some y
section
variable {a b:AS}{ta tb:AE}{tt tu:AT}{g:AG}{gs:Wa}{nx bk ct:A4->Prop}{rt:PV->Prop}{τ τ' τ2:A4}{Q:PV->Prop}{QB:kc->Prop}{QL:km PV->Prop}{QT:A4->Prop}{r:AA}{ai:AI}{F:AF}{n i j:Nat}{x y z:PV}{xs ys zs:km PV}
instance{c:PV}{q:km PV}:Ix (.tup (c::q)) 0 c:=⟨DL (j:=0) rfl⟩
instance{c:PV}{q:km PV}:Ix (.lst (c::q)) 0 c:=⟨DL (j:=0) rfl⟩
instance{c p1:PV}{q:km PV}:Ix (.tup (c::p1::q)) 1 p1:=⟨DL (j:=1) rfl⟩
instance{c p1:PV}{q:km PV}:Ix (.lst (c::p1::q)) 1 p1:=⟨DL (j:=1) rfl⟩
instance{c p1 p2:PV}{q:km PV}:Ix (.tup (c::p1::p2::q)) 2 p2:=⟨DL (j:=2) rfl⟩
instance{c p1 p2:PV}{q:km PV}:Ix (.lst (c::p1::p2::q)) 2 p2:=⟨DL (j:=2) rfl⟩
instance{q:Rat}:Ix (fr q) 0 (.int q.num):=⟨rfl⟩
instance{q:Rat}:Ix (fr q) 1 (.int q.den):=⟨rfl⟩
instance:Ix (cor c) 0 (fr c.1):=⟨rfl⟩
instance:Ix (corL c) 0 (fr c.1):=⟨rfl⟩
instance:Ix (cor c) 1 (fr c.2.1):=⟨rfl⟩
instance:Ix (cor c) 2 (fr c.2.2.1):=⟨rfl⟩
instance:Ix (cor c) 3 (fr c.2.2.2):=⟨rfl⟩
instance:Wp (Aa a b ⟨nx,rt,bk,ct⟩ τ) (a ⟨b ⟨nx,rt,bk,ct⟩,rt,bk,ct⟩ τ):=⟨id⟩
instance:Wp (Aj ta g ⟨nx,rt,bk,ct⟩ τ) (ta τ λx=>g x τ nx):=⟨id⟩
instance[h:dM τ τ'] :Wp (Aq ta ⟨nx,rt,bk,ct⟩ τ) (ta τ' rt):=⟨λk=>by unfold Aq;rw[h.e];exact k⟩
instance:Wp (BD ⟨nx,rt,bk,ct⟩ τ) (nx τ):=⟨id⟩
instance:Wp (Bf tt a b ⟨nx,rt,bk,ct⟩ τ) (tt τ λk=>if k=true then a ⟨nx,rt,bk,ct⟩ τ else b ⟨nx,rt,bk,ct⟩ τ):=⟨id⟩
def WE (τ:A4)(i:Nat)(v:AV)(QT:A4->Prop):Prop:=QT (τ.set i (some v))
instance[h:R5 τ i v τ'] :Wp (WE τ i v QT) (QT τ'):=⟨λk=>by unfold WE;rw[h.e];exact k⟩
instance:Wp (HA r i ⟨nx,rt,bk,ct⟩ τ) (r τ λxs=>WE τ i (.own xs) nx):=⟨id⟩
instance[h:R5 τ i (.val x) τ'] :Wp (Ak i x τ QT) (QT τ'):=⟨λk=>by unfold Ak;rw[h.e];exact k⟩
instance{f:IW}[h:aY τ i (.val x)] :Wp (Wt i f ta ⟨nx,rt,bk,ct⟩ τ) (ta τ λy=>f x y λz=>WE τ i (.val z) nx):=⟨λk=>vY h.e k⟩
instance[h:aY τ i (.own xs)] :Wp (L8 i τ QL) (QL xs):=⟨λk=>vn h.e k⟩
instance{f:oS}:Wp (Dx i f r ⟨nx,rt,bk,ct⟩ τ) (L8 i τ λxs=>r τ λys=>f xs ys λzs=>WE τ i (.own zs) nx):=⟨id⟩
instance:Wp (HJ xs [y] QL) (xs.length<sizeLine/\QL (xs ++ [y])):=⟨id⟩
instance{k:Int}:Wp (kT xs [.int k,y] QL) ((0<=k/\k<=(xs.length:Int)/\xs.length<sizeLine)/\QL (xs.take k.toNat++y::xs.drop k.toNat)):=⟨id⟩
instance:Wp (EK ai g b ⟨nx,rt,bk,ct⟩ τ) (ai τ λxs=>DB g b ⟨nx,rt,bk,ct⟩ xs τ):=⟨id⟩
instance:Wp (DB g b ⟨nx,rt,bk,ct⟩ [] τ) (nx τ):=⟨id⟩
instance{q:km PV}:WpU (DB g b ⟨nx,rt,bk,ct⟩ (x::q) τ) (g x τ λc=>b ⟨DB g b ⟨nx,rt,bk,ct⟩ q,rt,nx,DB g b ⟨nx,rt,bk,ct⟩ q⟩ c):=⟨id⟩
instance:Wp (BP [] τ QT) (QT τ):=⟨id⟩
instance{t:km PV}:Wp (Ab g gs (x::t) τ QT) (g x τ λτ'=>gs t τ' QT):=⟨id⟩
instance:Wp (HB n gs x τ QT) (Mb x λxs=>xs.length=n/\gs xs τ QT):=⟨id⟩
instance[h:aY τ i (.val x)] :Wp (aV i τ Q) (Q x):=⟨λk=>s_V h.e k⟩
instance:Wp (aC x τ Q) (Q x):=⟨id⟩
instance{f:IW}:Wp (AY f ta tb τ Q) (ta τ λx=>tb τ λy=>f x y Q):=⟨id⟩
instance{f:PV->(PV->Prop)->Prop}:Wp (UE f ta τ Q) (ta τ λx=>f x Q):=⟨id⟩
instance:Wp (eT ta tb τ Q) (ta τ λx=>gY x λc=>if c=true then tb τ Q else Q (.bl false)):=⟨id⟩
instance:Wp (xn ta tb τ Q) (ta τ λx=>gY x λc=>if c=true then Q (.bl true) else tb τ Q):=⟨id⟩
instance:Wp (As ta τ QB) (ta τ λx=>gY x QB):=⟨id⟩
instance:Wp (F2 tt τ QB) (tt τ λc=>QB (!c)):=⟨id⟩
instance:Wp (Gm tt tu τ QB) (tt τ λc=>if c=true then tu τ QB else QB false):=⟨id⟩
instance:Wp (R6 tt tu τ QB) (tt τ λc=>if c=true then QB true else tu τ QB):=⟨id⟩
instance:Wp (jl tt ta tb τ Q) (tt τ λc=>if c=true then ta τ Q else tb τ Q):=⟨id⟩
instance:Wp (Eg τ QB) (QB true):=⟨id⟩
instance[h:dM τ τ'] :Wp (eU ta τ Q) (ta τ' λx=>gO x=true/\Q x):=⟨λk=>by unfold eU;rw[h.e];exact k⟩
instance[h:dM τ τ'] :Wp (Yt tt τ QB) (tt τ' QB):=⟨λk=>by unfold Yt;rw[h.e];exact k⟩
instance:Wp (AM τ QL) (QL []):=⟨id⟩
instance:Wp (AB ta r τ QL) (ta τ λx=>r τ λxs=>QL (x::xs)):=⟨id⟩
def cC (xs:km PV)(Q:PV->Prop):Prop:=xs.length<=sizeLine/\Q (.tup xs)
instance:Wp (Ap r τ Q) (r τ λxs=>cC xs Q):=⟨id⟩
instance:Wp (ET r τ QL) (r τ λxs=>xs.length<=sizeLine/\QL xs):=⟨id⟩
instance:Wp (G9 r τ Q) (r τ λxs=>Q (.lst xs)):=⟨id⟩
instance:Wp (AN n F r τ Q) (r τ λxs=>xs.length=n/\F xs Q):=⟨id⟩
instance:Wp (Hj F r τ Q) (r τ λxs=>F xs Q):=⟨id⟩
instance{own:Nat}[h1:t8 own c][h2:tQ ix τ d][h3:dc c d τ'] :Wp (CO ai own ix g tt te τ QL) (ai τ λxs=>xs.length<sizeLine/\B9 g tt te τ' QL xs []):=⟨λk=>by unfold CO Jg;rw[h1.e,h2.e,h3.e];exact k⟩
instance:Wp (B9 g tt te τ QL [] c) (QL c):=⟨id⟩
instance{q:km PV}:Wp (B9 g tt te τ QL (x::q) c) (g x τ λd=>tt d λok=>if ok=true then te d λy=>B9 g tt te τ QL q (c ++ [y]) else B9 g tt te τ QL q c):=⟨id⟩
instance:Wp (JL ta τ QL) (ta τ λx=>Mb x QL):=⟨id⟩
instance:Wp (R8 (AB ta AM) τ QL) (ta τ λx=>UI x λj=>(-(2^62)<=j/\j<2^62)/\QL (rng 0 j.toNat)):=⟨λh=>by have e:(λx=>UI x λj=>(-(2^62)<=j/\j<2^62)/\QL (rng 0 j.toNat))=(λx=>match [x] with | [.int j] =>(-(2^62)<=j/\j<2^62)/\QL (rng 0 j.toNat)|_=>False):=(funext λx=>by cases x <;> rfl);rw[e] at h;exact h⟩
instance:Wp (jp (AB ta (AB tb AM)) τ QL) (ta τ λx=>tb τ λy=>cU x y λi j=>(-(2^62)<=i/\i<2^62/\ -(2^62)<=j/\j<2^62)/\QL (rng i (j-i).toNat)):=⟨λh=>by have e:(λx=>tb τ λy=>cU x y λi j=>(-(2^62)<=i/\i<2^62/\ -(2^62)<=j/\j<2^62)/\QL (rng i (j-i).toNat))=(λx=>tb τ λy=>match [x,y] with | [.int i, .int j] =>(-(2^62)<=i/\i<2^62/\ -(2^62)<=j/\j<2^62)/\QL (rng i (j-i).toNat)|_=>False):=(funext λx=>congrArg (tb τ) (funext λy=>by cases x <;> cases y <;> rfl));rw[e] at h;exact h⟩
instance:Wp (sR (AB ta (AB tb AM)) τ QL) (ta τ λx=>tb τ λy=>Mb x λxs=>Mb y λys=>QL (O6 xs ys)):=⟨id⟩
instance{R:Int->Prop}{k:Int}:Wp (UI (.int k) R) (R k):=⟨id⟩
instance{R:Int->Int->Prop}{k l:Int}:Wp (cU (.int k) (.int l) R) (R k l):=⟨id⟩
instance{R:kc->Prop}:Wp (gY (.bl c) R) (R c):=⟨id⟩
instance:Wp (Mb (.tup xs) QL) (QL xs):=⟨id⟩
instance:Wp (Mb (.lst xs) QL) (QL xs):=⟨id⟩
instance{q:Rat}:Wp (Mb (fr q) QL) (QL [.int q.num, .int q.den]):=⟨id⟩
instance:Wp (Mb (DE cs) QL) (QL (cs.map cor)):=⟨id⟩
instance{f:Int->Int->PV}{k l:Int}:Wp (fI f (.int k) (.int l) Q) (Q (f k l)):=⟨id⟩
instance{C:Int->Int->Prop}{f:Int->Int->PV}{k l:Int}:Wp (uL C f (.int k) (.int l) Q) (C k l/\Q (f k l)):=⟨id⟩
instance:Wp (SM .non .non Q) (Q (.bl true)):=⟨id⟩
instance:Wp (Jo .non .non Q) (Q (.bl false)):=⟨id⟩
instance:Wp (SM (.tup xs) .non Q) (Q (.bl false)):=⟨id⟩
instance:Wp (Jo (.tup xs) .non Q) (Q (.bl true)):=⟨id⟩
instance{k:Int}[h:Ix x k z] :Wp (Ai x (.int k) Q) (Q z):=⟨λq=>vh h.e q⟩
instance{k:Int}:Wp (Jn (.int k) Q) (Q (.int (-k))):=⟨id⟩
instance w_not:Wp (fN (.bl c) Q) (Q (.bl (!c))):=⟨id⟩
instance{k l:Int}:Wp (Cc (.int k) (.int l) Q) (Q (.int (k+l))):=⟨id⟩
instance:Wp (Cc (.lst xs) (.lst ys) Q) (xs.length+ys.length<=sizeLine/\Q (.lst (xs++ys))):=⟨id⟩
instance{k l:Int}:Wp (O9 (.int k) (.int l) Q) (Q (.bl (decide (k=l)))):=⟨id⟩
instance{k:Str}:Wp (O9 (.str k) (.str l) Q) (Q (.bl (decide (k=l)))):=⟨id⟩
instance{k:kc}:Wp (bC (.bl k) (.bl l) Q) (Q (.bl (!decide (k=l)))):=⟨id⟩
instance{k:Rat}:Wp (O9 (fr k) (fr l) Q) (Q (.bl (decide (k=l)))):=⟨vZ⟩
instance{k:Rat}:Wp (bC (fr k) (fr l) Q) (Q (.bl (!decide (k=l)))):=⟨vk⟩
instance:Wp (Ib [.scr c] Q) (Q (.int c.length)):=⟨id⟩
instance:Wp (Ib [DE cs] Q) (Q (.int cs.length)):=⟨rB⟩
instance (priority:=high){c:Type}{f:c->PV}{cs:km c}:Wp (Ib [.tup (cs.map f)] Q) (Q (.int cs.length)):=⟨λh=>by show Q (.int (cs.map f).length);rw[AAT];exact h⟩
instance (priority:=high){c:Type}{f:c->PV}{cs:km c}:Wp (Ib [.lst (cs.map f)] Q) (Q (.int cs.length)):=⟨λh=>by show Q (.int (cs.map f).length);rw[AAT];exact h⟩
instance{k:Int}:Wp (U6 [.int k] Q) (Q (.int k.natAbs)):=⟨id⟩
instance{f:Int->Int->Int}{k l:Int}:Wp (pN f [.int k, .int l] Q) (Q (.int (f k l))):=⟨id⟩
instance:Wp (DP [.lst xs] Q) (Q (.tup xs)):=⟨id⟩
instance{l h:AO}:Wp (jo ta l h τ Q) (ta τ λx=>l τ λlo=>h τ λhi=>jI x lo hi Q):=⟨id⟩
instance{R:ke Int->Prop}:Wp (jr τ R) (R none):=⟨id⟩
instance{R:ke Int->Prop}:Wp (jt ta τ R) (ta τ λx=>UI x λi=>R (some i)):=⟨id⟩
instance{A B:Prop}:Wp (if true=true then A else B) (A):=⟨λh=>by rw[AAM rfl];exact h⟩
instance{A B:Prop}:Wp (if false=true then A else B) (B):=⟨λh=>by rw[AAL AAY];exact h⟩
instance{A B:Prop}:Wp (if (!true)=true then A else B) (B):=⟨λh=>h⟩
instance{A B:Prop}:Wp (if (!false)=true then A else B) (A):=⟨λh=>h⟩
instance{p A B:Prop}[Decidable p] :xm (if decide p=true then A else B) (p->A) (¬p->B):=⟨vf⟩
instance{p A B:Prop}[Decidable p] :xm (if (!decide p)=true then A else B) (¬p->A) (p->B):=⟨vg⟩
instance{A:Prop}:Wp (([] :km PV).length<=sizeLine/\A) (A):=⟨λh=>⟨lz,h⟩⟩
instance{A:Prop}:Wp (([] :km PV).length<sizeLine/\A) (A):=⟨λh=>⟨lz,h⟩⟩
instance{c:PV}{A:Prop}:Wp ([c].length=1/\A) (A):=⟨λh=>⟨rfl,h⟩⟩
instance{c:PV}{A:Prop}:Wp ([c].length<=sizeLine/\A) (A):=⟨λh=>⟨lz,h⟩⟩
instance{c p1:PV}{A:Prop}:Wp ([c,p1].length=2/\A) (A):=⟨λh=>⟨rfl,h⟩⟩
instance{c p1:PV}{A:Prop}:Wp ([c,p1].length<=sizeLine/\A) (A):=⟨λh=>⟨lz,h⟩⟩
instance{c p1:PV}{A:Prop}:Wp ([c,p1].length<sizeLine/\A) (A):=⟨λh=>⟨lz,h⟩⟩
instance{c p1 p2:PV}{A:Prop}:Wp ([c,p1,p2].length=3/\A) (A):=⟨λh=>⟨rfl,h⟩⟩
instance{c p1 p2:PV}{A:Prop}:Wp ([c,p1,p2].length<=sizeLine/\A) (A):=⟨λh=>⟨lz,h⟩⟩
instance{c p1 p2:PV}{A:Prop}:Wp ([c,p1,p2].length<sizeLine/\A) (A):=⟨λh=>⟨lz,h⟩⟩
instance{c p1 p2 d:PV}{A:Prop}:Wp ([c,p1,p2,d].length=4/\A) (A):=⟨λh=>⟨rfl,h⟩⟩
instance{c p1 p2 d e:PV}{A:Prop}:Wp ([c,p1,p2,d,e].length<=sizeLine/\A) (A):=⟨λh=>⟨lz,h⟩⟩
instance{c p1 p2 d e f:PV}{A:Prop}:Wp ([c,p1,p2,d,e,f].length<=sizeLine/\A) (A):=⟨λh=>⟨lz,h⟩⟩
instance:Wp (cC [] Q) (Q (.tup [])):=⟨λh=>⟨lz,h⟩⟩
instance{c:PV}:Wp (cC [c] Q) (Q (.tup [c])):=⟨λh=>⟨lz,h⟩⟩
instance{c p1:PV}:Wp (cC [c,p1] Q) (Q (.tup [c,p1])):=⟨λh=>⟨lz,h⟩⟩
instance{c p1 p2:PV}:Wp (cC [c,p1,p2] Q) (Q (.tup [c,p1,p2])):=⟨λh=>⟨lz,h⟩⟩
instance{c p1 p2 d:PV}:Wp (cC [c,p1,p2,d] Q) (Q (.tup [c,p1,p2,d])):=⟨λh=>⟨lz,h⟩⟩
instance{c p1 p2 d e f:PV}:Wp (cC [c,p1,p2,d,e,f] Q) (Q (.tup [c,p1,p2,d,e,f])):=⟨λh=>⟨lz,h⟩⟩
instance (priority:=high+10):Wp (cC [.int 0, .int 1] Q) (Q (fr 0)):=⟨λh=>⟨lz,h⟩⟩
instance (priority:=high+10):Wp (cC [.int 1, .int 1] Q) (Q (fr 1)):=⟨λh=>⟨lz,h⟩⟩
instance (priority:=high){k:Int}:Wp (cC [.int k, .int 1] Q) (Q (fr (k:Rat))):=⟨λh=>⟨lz,UB h⟩⟩
instance (priority:=high){k:Rat}{q r:Rat}:Wp (Cc (.tup [fr k]) (.tup [fr p,fr q,fr r]) Q) (Q (cor (k,p,q,r))):=⟨λh=>⟨lz,h⟩⟩
def pK:PV.tup [.int 1, .int 2] =fr (1/2):=by unfold fr;rw[show ((1:Rat)/2).num=1 by decide +kernel,show ((1:Rat)/2).den=2 by decide +kernel];rfl
instance (priority:=high):Wp (cC [.int 1, .int 2] Q) (Q (fr (1/2))):=⟨λh=>⟨lz,by rw[pK];exact h⟩⟩
def pL:PV.tup [.int 1, .int 3] =fr (1/3):=by unfold fr;rw[show ((1:Rat)/3).num=1 by decide +kernel,show ((1:Rat)/3).den=3 by decide +kernel];rfl
instance (priority:=high):Wp (cC [.int 1, .int 3] Q) (Q (fr (1/3))):=⟨λh=>⟨lz,by rw[pL];exact h⟩⟩
def pM:PV.tup [.int 3, .int 2] =fr (3/2):=by unfold fr;rw[show ((3:Rat)/2).num=3 by decide +kernel,show ((3:Rat)/2).den=2 by decide +kernel];rfl
instance (priority:=high):Wp (cC [.int 3, .int 2] Q) (Q (fr (3/2))):=⟨λh=>⟨lz,by rw[pM];exact h⟩⟩
instance{k:Int}{A:Prop}:Wp (gO (.int k)=true/\A) (A):=⟨λh=>⟨rfl,h⟩⟩
class Zp (xs ys:List PV) (zs:outParam (List PV)):Prop where
 e:O6 xs ys=zs
instance:Zp [] [] [] :=⟨rfl⟩
instance[h:Zp xs ys zs] :Zp (x::xs) (y::ys) (.tup [x,y] :: zs):=⟨by rw[<-h.e];rfl⟩
instance[h:Zp xs ys zs] :Wp (DB g b ⟨nx,rt,bk,ct⟩ (O6 xs ys) τ) (DB g b ⟨nx,rt,bk,ct⟩ zs τ):=⟨λk=>by rw[h.e];exact k⟩
instance[h:Zp xs ys zs] :Wp (B9 g tt te τ QL (O6 xs ys) c) (B9 g tt te τ QL zs c):=⟨λk=>by rw[h.e];exact k⟩
instance{A:Prop}[h:Zp xs ys zs] :Wp ((O6 xs ys).length<sizeLine/\A) (zs.length<sizeLine/\A):=⟨λk=>by rw[h.e];exact k⟩
instance (priority:=high){q:km PV}[h:jY c [y] zs] :Wp (B9 g tt te τ QL q (c ++ [y])) (B9 g tt te τ QL q zs):=⟨λk=>by rw[h.e];exact k⟩
instance{m:Int}:Ws (BI [.tape, .int m] Q) (0<m/\m<4611686018427387904) (∀r,0<=r->r<m->Q (.int r)):=⟨λc h=>C1 c.1 c.2 h⟩
instance{k:Int}:Ws (Nf [.scr d, .int k] Q) (0<=k/\k<=1000) (Q .tape):=⟨λc h=>⟨c,h⟩⟩
instance{a b:Rat}:Ws (D4 [fr a,fr b] Q) (Bd 4000 a/\Bd 4000 b) (Q (fr (a+b))):=⟨λc h=>QZ c.1 c.2 h⟩
instance{a b:Rat}:Ws (Bw [fr a,fr b] Q) (Bd 4000 a/\Bd 4000 b) (Q (fr (a-b))):=⟨λc h=>D3 c.1 c.2 h⟩
instance{a b:Rat}:Ws (FR [fr a,fr b] Q) (Bd 4000 a/\Bd 4000 b) (Q (fr (a*b))):=⟨λc h=>Ng c.1 c.2 h⟩
instance{a b:Rat}:Ws (Cm [fr a,fr b] Q) (Bd 4000 a/\Bd 4000 b) (Q (fr (a+b))):=⟨λc h=>ID c.1 c.2 h⟩
instance{a b:Rat}:Ws (Ck [fr a,fr b] Q) (Bd 4000 a/\Bd 4000 b) (Q (fr (a*b))):=⟨λc h=>JX c.1 c.2 h⟩
instance{a b:Rat}:Ws (Cj [fr a,fr b] Q) (Bd 4000 a/\Bd 4000 b) (Q (fr (mx a b))):=⟨λc h=>JW c.1 c.2 h⟩
instance{a b:Rat}:Ws (Ez [fr a,fr b] Q) (Bd 4000 a/\Bd 4000 b) (Q (fr (mn a b))):=⟨λc h=>Uk c.1 c.2 h⟩
instance{a b:Rat}:Ws (Am [fr a,fr b] Q) (Bd 4000 a/\Bd 4000 b) (Q (.bl (decide (a<b)))):=⟨λc h=>CC c.1 c.2 h⟩
instance{a b:Rat}:Ws (GK [fr a,fr b] Q) (b≠0/\Bd 4000 a/\Bd 4000 b) (Q (fr (a/b))):=⟨λc h=>Kk c.1 c.2.1 c.2.2 h⟩
instance{lo:Int}{A:Prop}:Wp ((rng lo n).length<sizeLine/\A) (n<16777216/\A):=⟨λk=>⟨by rw[X8];exact k.1,k.2⟩⟩
instance{c:Type}{f:c->PV}{cs:km c}{A:Prop}:Wp ((cs.map f).length<sizeLine/\A) (cs.length<16777216/\A):=⟨λk=>⟨by rw[AAT];exact k.1,k.2⟩⟩
instance (priority:=high){c:Type}{k:c}[Decidable (k=k)]{A B:Prop}:Wp (if decide (k=k)=true then A else B) A:=⟨λh=>by rw[AAM (AAl rfl)];exact h⟩
instance (priority:=high){c:Type}{k:c}[Decidable (k=k)]{A B:Prop}:Wp (if (!decide (k=k))=true then A else B) B:=⟨λh=>by rw[AAL (!2)];exact h⟩
def uq {d:Type}{f:d->PV}{cs:km d}{k:Int}{R:PV->Prop}(c:0<=k/\k<cs.length)(h:∀c,cs[k.toNat]? =some c->c∈cs->R (f c)):jS (Jf (cs.map f) k) R:=by
 have hk:k.toNat<cs.length:=!0
 have e:Jf (cs.map f) ((k.toNat:Nat):Int)=some (f cs[k.toNat]):=DL (by rw[AAu,AAi hk] <;> rfl);rw[show k=((k.toNat:Nat):Int) by omega,e];exact h _ (AAi hk) (AFK hk)
instance{d:Type}{f:d->PV}{cs:km d}{k:Int}:Ws (Ai (.lst (cs.map f)) (.int k) Q) (0<=k/\k<cs.length) (∀c,cs[k.toNat]? =some c->c∈cs->Q (f c)):=⟨λc h=>uq c h⟩
instance:Wp (jI (cor c) (some 1) none Q) (Q (.tup [fr c.2.1,fr c.2.2.1,fr c.2.2.2])):=⟨λh=>Mm h⟩
class Ev (ta:AE) (τ:A4) (x:outParam PV):Prop where
 go:∀{Q:PV->Prop},Q x->ta τ Q
instance[h:aY τ i (.val x)] :Ev (aV i) τ x:=⟨λk=>s_V h.e k⟩
instance:Ev (aC x) τ x:=⟨id⟩
instance{k:Int}[h1:Ev ta τ x][h2:Ev tb τ (.int k)][h3:Ix x k z] :Ev (AY Ai ta tb) τ z:=⟨λq=>h1.go (h2.go (vh h3.e q))⟩
class tT (r:AA) (τ:A4) (xs:outParam (List PV)):Prop where
 go:∀{Q:List PV->Prop},Q xs->r τ Q
instance:tT AM τ [] :=⟨id⟩
instance[h:Ev ta τ x][h2:tT r τ xs] :tT (AB ta r) τ (x::xs):=⟨λq=>h.go (h2.go q)⟩
instance (priority:=high)[h:tT r τ xs][h2:jg xs n] :Wp (AN n F r τ Q) (F xs Q):=⟨λq=>h.go ⟨h2.e,q⟩⟩
instance (priority:=high)[h:tT r τ xs] :Wp (Hj F r τ Q) (F xs Q):=⟨λq=>h.go q⟩
instance (priority:=high){f:IW}[h:Ev ta τ x][h2:Ev tb τ y] :Wp (AY f ta tb τ Q) (f x y Q):=⟨λq=>h.go (h2.go q)⟩
instance (priority:=high):Wp (Aa (Aj ta (Ak i)) b ⟨nx,rt,bk,ct⟩ τ) (ta τ λx=>Ak i x τ (b ⟨nx,rt,bk,ct⟩)):=⟨id⟩
instance (priority:=high):Wp (Bf (As ta) a b ⟨nx,rt,bk,ct⟩ τ) (ta τ λx=>gY x λk=>if k=true then a ⟨nx,rt,bk,ct⟩ τ else b ⟨nx,rt,bk,ct⟩ τ):=⟨id⟩
end
end PL
namespace L2
open PySem PySem.Spec PyProof.Rows
abbrev E7 (h:Wf)(T:kf)(a b c:kj):Prop:=h.get? T=some {cls:= .type "tuple",data:= .seq #[a,b,c] }
structure wg (z TI TO i j k l m n:Addr):Prop where
 TIz:TI≠z
 TOz:TO≠z
 iz:i≠z
 jz:j≠z
 kz:k≠z
 TITO:TI≠TO
 TIi:TI≠i
 TIj:TI≠j
 TIk:TI≠k
 TOi:TO≠i
 TOj:TO≠j
 TOk:TO≠k
 ij:i≠j
 ik:i≠k
 jk:j≠k
 lo:∀x∈ [l,m,n],x≠z/\x≠TI/\x≠TO/\x≠i/\x≠j/\x≠k
def nE {s l m n:Nat}(hl:l<s)(b:m<s)(c:n<s):wg (s+5) (s+3) (s+4) s (s+1) (s+2) l m n where
 TIz:=(by omega:(s+3:Nat)≠s+5)
 TOz:=(by omega:(s+4:Nat)≠s+5)
 iz:=(by omega:(s:Nat)≠s+5)
 jz:=(by omega:(s+1:Nat)≠s+5)
 kz:=(by omega:(s+2:Nat)≠s+5)
 TITO:=(by omega:(s+3:Nat)≠s+4)
 TIi:=(by omega:(s+3:Nat)≠s)
 TIj:=(by omega:(s+3:Nat)≠s+1)
 TIk:=(by omega:(s+3:Nat)≠s+2)
 TOi:=(by omega:(s+4:Nat)≠s)
 TOj:=(by omega:(s+4:Nat)≠s+1)
 TOk:=(by omega:(s+4:Nat)≠s+2)
 ij:=(by omega:(s:Nat)≠s+1)
 ik:=(by omega:(s:Nat)≠s+2)
 jk:=(by omega:(s+1:Nat)≠s+2)
 lo:=λx hx=>by
  have h:x=l\/x=m\/x=n:=↑hx
  have a:(x:Nat)<s:=by rcases h with e|e|e <;> (rw[e];assumption)
  exact⟨AAQ (AAf a (ACP _ _)),AAQ (AAf a (ACP _ _)),AAQ (AAf a (ACP _ _)),AAQ a,AAQ (AAf a (ACP _ _)),AAQ (AAf a (ACP _ _))⟩
structure Z3 (b c d:Bool) (z TI TO i j k l m n:Addr) (t:Nat) (f:Value) (h:Heap):Prop where
 zip:IsZip h z TI TO f
 its:E7 h TI (.ref i) (.ref j) (.ref k)
 own:∃x y w,E7 h TO x y w
 one:Pm b h i l t
 two:Pm c h j m t
 tre:Pm d h k n t
def Z3.mv {TI TO k:kf}{t:Nat}{h':Wf}(Z:Z3 b c d z TI TO i j k l m n t f h)(e:∀p∈ [z,TI,TO,i,j,k],∀o,h.get? p=some o->h'.get? p=some o):Z3 b c d z TI TO i j k l m n t f h':=by obtain⟨a,g,⟨x,y,w,r⟩,s,u,v⟩:=Z;exact⟨e z (!2) _ a,e TI (!2) _ g,⟨x,y,w,e TO (!2) _ r⟩,s.mv (e i (!2)),u.mv (e j (!2)),v.mv (e k (!2))⟩
section
variable {prog:gn}{w:fe}{A:Tb}{E:kj->ki->Prop}{s:ki}
def O2 {k:Nat}{Q:Unit->ki->Prop}(d:E7 s.heap T a b c)(h:∀h',h'.get? T=some {cls:= .type "tuple",data:= .seq ((#[a,b,c] :Array kj).setIfInBounds k x)}->Heap.SameBut T s.heap h'->Q () {s with heap:=h'}):wpAny (model prog w) A (updateSeq T (·.setIfInBounds k x)) Q E s:=by refine AFL d rfl (h _ (by rw[ACj _ d rfl];simp[Obj.mapSeq]) (AEd ..))
variable {b c d:kc}{z TI TO i j k l m n:kf}{t:Nat}{xs ys ws:Array kj}
def sK {y:kj}{Q:kj->ki->Prop}(D:wg z TI TO i j k l m n)(Z:Z3 b c d z TI TO i j k l m n t .none s.heap)(hl:JK b s.heap l xs)(hm:JK c s.heap m ys)(hn:JK d s.heap n ws)(hx:xs[t]? =some x)(hy:ys[t]? =some y)(hv:ws[t]? =some v)(hQ:∀h',Z3 b c d z TI TO i j k l m n (t+1) (rawInt s.heap.objs.size) h'->E7 h' s.heap.objs.size x y v-> (∀p o,p≠z->p≠TO->p≠i->p≠j->p≠k->s.heap.get? p=some o->h'.get? p=some o)->Q (.ref s.heap.objs.size) {s with heap:=h'}):wpAny (model prog w) A (Builtin.«zip.__next__» ⟨[.ref z], []⟩) (λX s'=>∃v,X= .done (.ret v)/\Q v s') E s:=by
 obtain⟨I,zi,⟨x0,Y,J,zo⟩,z1,z2,z3⟩:=Z;obtain⟨lz,lTI,lTO,li,lj,lk⟩:=D.lo l (!2);obtain⟨mz,mTI,mTO,mi,mj,mk⟩:=D.lo m (!2);obtain⟨nz,nTI,nTO,ni,nj,nk⟩:=D.lo n (!2);refine AAI (m:=field (.ref z) 2) (AAm I rfl (x:= .bool false) rfl ?_);refine AAI (m:=field (.ref z) 3) (AAm I rfl (x:= .ref TI) rfl (AAI (AA5 zi rfl ?_)));refine AAI (m:=Builtin.SmallTypes.ownedTupleIsFree (.ref z)) ?_;unfold Builtin.SmallTypes.ownedTupleIsFree;refine AAI (AAm I rfl (x:= .none) rfl (AAK ?_));simp only[ACL];refine AAI (ACK (AAI (AAm I rfl (x:= .ref TO) rfl (AAI (ACV I (!2) λg1 e1 b1=> ?_)))));have e1:IsZip g1 z TI TO .ellipsis:=e1;refine AAI ?_;simp only[AE8,AE9,AC9,ADr];refine AAI (AAI (ADC ?_));refine AAI (m:=Builtin.SmallTypes.nextOf (.ref i)) (F4 (z1.mv λo=>b1.extBut _ o D.iz) (hl.mv λo=>b1.extBut _ o lz) hx λg2 e2 b2=>AAK ?_);have k2:∀p o,p≠z->p≠i->s.heap.get? p=some o->g2.get? p=some o:=λp o g h e=>b2.extBut _ _ h (b1.extBut _ _ g e);have o2:E7 g2 TO x0 Y J:=k2 _ _ D.TOz D.TOi zo;refine AAI (AA5 o2 rfl (AAI (O2 o2 λg3 o3 U=>AAI (ADY (AAK ?_)))));have o3:E7 g3 TO x Y J:=o3;have k3:∀p o,p≠z->p≠i->p≠TO->s.heap.get? p=some o->g3.get? p=some o:=λp o g h B e=>U.extBut _ _ B (k2 p o g h e);refine AAI (AAI (ADC ?_));refine AAI (m:=Builtin.SmallTypes.nextOf (.ref j)) (F4 (z2.mv λo=>k3 _ o D.jz D.ij.symm D.TOj.symm) (hm.mv λo=>k3 _ o mz mi mTO) hy λg4 e4 K=>AAK ?_);have o4:E7 g4 TO x Y J:=K.extBut _ _ D.TOj o3;refine AAI (AA5 o4 rfl (AAI (O2 o4 λg5 o5 L=>AAI (ADY (AAK ?_)))));have o5:E7 g5 TO x y J:=o5;have k5:∀p o,p≠z->p≠i->p≠TO->p≠j->s.heap.get? p=some o->g5.get? p=some o:=λp o g h B M e=>L.extBut _ _ B (K.extBut _ _ M (k3 p o g h B e));refine AAI (AAI (ADC ?_));refine AAI (m:=Builtin.SmallTypes.nextOf (.ref k)) (F4 (z3.mv λo=>k5 _ o D.kz D.ik.symm D.TOk.symm D.jk.symm) (hn.mv λo=>k5 _ o nz ni nTO nj) hv λg6 e6 F=>AAK ?_);have o6:E7 g6 TO x y J:=F.extBut _ _ D.TOk o5;refine AAI (AA5 o6 rfl (AAI (O2 o6 λa W G=>AAI (ADY (AAK (AAK ?_))))));have W:E7 a TO x y v:=W;refine AAI (AA5 W rfl (AAI (wpAny_newTuple ?_)));have sz:a.objs.size=s.heap.objs.size:=by rw[G.1,F.1,L.1,K.1,U.1,b2.1,b1.1]
 have C:∀p o,p≠z->p≠TO->p≠i->p≠j->p≠k->s.heap.get? p=some o->a.get? p=some o:=λp o g h B M q5 e=>G.extBut _ _ h (F.extBut _ _ q5 (k5 p o g B h M e));have N:IsZip a z TI TO .ellipsis:=G.extBut _ _ D.TOz.symm (F.extBut _ _ D.kz.symm (L.extBut _ _ D.TOz.symm (K.extBut _ _ D.jz.symm (U.extBut _ _ D.TOz.symm (b2.extBut _ _ D.iz.symm e1)))));have O:Pm b a i l (t+1):=e2.mv λo e=>G.extBut _ _ D.TOi.symm (F.extBut _ _ D.ik (L.extBut _ _ D.TOi.symm (K.extBut _ _ D.ij (U.extBut _ _ D.TOi.symm e))));have P:Pm c a j m (t+1):=e4.mv λo e=>G.extBut _ _ D.TOj.symm (F.extBut _ _ D.jk (L.extBut _ _ D.TOj.symm e));have R:Pm d a k n (t+1):=e6.mv λo e=>G.extBut _ _ D.TOk.symm e;have S:z<a.objs.size:=AAN N;refine AAI (m:=Builtin.SmallTypes.ownedTupleHandOut (.ref z) (.ref a.objs.size)) ?_;unfold Builtin.SmallTypes.ownedTupleHandOut;have k8:IsZip (a.push {cls:= .type "tuple",data:= .seq #[x,y,v] }) z TI TO .ellipsis:=AAP _ N;refine AAI (ACV k8 (!2) λg9 k9 b9=> ?_);have k9:IsZip g9 z TI TO (rawInt a.objs.size):=k9;refine ACV k9 (!2) λr u T=> ?_;have u:IsZip r z TI TO (rawInt a.objs.size):=u;have H:∀p o,p≠z->a.get? p=some o->r.get? p=some o:=λp o q e=>T.extBut _ _ q (b9.extBut _ _ q (AAP _ e));have f:E7 r a.objs.size x y v:=T.extBut _ _ (AAx S) (b9.extBut _ _ (AAx S) (AAV _ rfl));rw[sz] at u f;refine AAK ⟨_,rfl, ?_⟩;show Q (.ref a.objs.size) _;rw[sz];exact hQ r ⟨u,H _ _ D.TIz (C _ _ D.TIz D.TITO D.TIi D.TIj D.TIk zi),⟨_,_,_,H _ _ D.TOz W⟩,O.mv λo=>H _ o D.iz,P.mv λo=>H _ o D.jz,R.mv λo=>H _ o D.kz⟩ f λp o g h B M q5 e=>H p o g (C p o g h B M q5 e)
def wT (y:A.handled=none)(D:wg z TI TO i j k l m n)(Z:Z3 b c d z TI TO i j k l m n t .none s.heap)(hl:JK b s.heap l xs)(hx:xs[t]? =none)(B:∀h' e,(∀p o,p≠z->p≠i->s.heap.get? p=some o->h'.get? p=some o)->(∃o,h'.get? e=some o/\o.cls= .type "StopIteration")->E (.ref e) {s with heap:=h'}):wpAny (model prog w) A (Builtin.«zip.__next__» ⟨[.ref z], []⟩) Q E s:=by
 obtain⟨a,C,⟨O,P,R,S⟩,F,T,U⟩:=Z;obtain⟨lz,G,H,li,W,X⟩:=D.lo l (!2);refine AAI (m:=field (.ref z) 2) (AAm a rfl (x:= .bool false) rfl ?_);refine AAI (m:=field (.ref z) 3) (AAm a rfl (x:= .ref TI) rfl (AAI (AA5 C rfl ?_)));refine AAI (m:=Builtin.SmallTypes.ownedTupleIsFree (.ref z)) ?_;unfold Builtin.SmallTypes.ownedTupleIsFree;refine AAI (AAm a rfl (x:= .none) rfl (AAK ?_));simp only[ACL];refine AAI (ACK (AAI (AAm a rfl (x:= .ref TO) rfl (AAI (ACV a (!2) λI f b1=> ?_)))));have f:IsZip I z TI TO .ellipsis:=f;refine AAI ?_;simp only[AE8,AE9,AC9,ADr];refine AAI (AAI (ADC ?_));refine AAI (m:=Builtin.SmallTypes.nextOf (.ref i)) (Ky y (F.mv λo=>b1.extBut _ o D.iz) (hl.mv λo=>b1.extBut _ o lz) hx λJ e b2 he=> ?_);obtain⟨K,g,h⟩:=he;have r:IsZip J z TI TO .ellipsis:=b2 _ _ D.iz.symm f;have L:e≠z:=λq=>by subst q;rw[r] at g;cases g;simp at h
 refine ACV r (!2) λM _ u=>B M e (λp o v N q=>u.extBut _ _ v (b2 _ _ N (b1.extBut _ _ v q))) ⟨K,u.extBut _ _ L g,h⟩
end
abbrev y1 (b:kc)(h:Wf)(l:kf):Wf:=h.push (WZ b l)
abbrev y2 (b c:kc)(h:Wf)(l m:kf):Wf:=(y1 b h l).push (WZ c m)
noncomputable abbrev y3 (b c d:kc)(h:Wf)(l m n:kf):Wf:=(y2 b c h l m).push (WZ d n)
noncomputable abbrev y4 (b c d:kc)(h:Wf)(l m n:kf):Wf:=(y3 b c d h l m n).push {cls:= .type "tuple",data:= .seq #[.ref h.objs.size, .ref (y1 b h l).objs.size, .ref (y2 b c h l m).objs.size] }
noncomputable abbrev y5 (b c d:kc)(h:Wf)(l m n:kf):Wf:=(y4 b c d h l m n).push {cls:= .type "tuple",data:= .seq #[.none, .none, .none] }
noncomputable abbrev y6 (b c d:kc)(h:Wf)(l m n:kf):Wf:=(y5 b c d h l m n).push {cls:= .type "zip",data:= .fields #[.none, .bool false, .bool false, .ref (y3 b c d h l m n).objs.size, .ref (y4 b c d h l m n).objs.size] }
def Ym (b c d:kc)(l m n:kf)(xs ys f:Array kj):Meets (Builtin.«zip.__new__» ⟨[.type "zip", .ref l, .ref m, .ref n], []⟩) (λ_ R s=>JK b s.heap l xs/\JK c s.heap m ys/\JK d s.heap n f/\R (.ok (.ret (.ref (y5 b c d s.heap l m n).objs.size))) {s with heap:=y6 b c d s.heap l m n}):=
 .of_wp λprog w A R s h=>by
   obtain⟨hp,g,r,t,os⟩:=s;obtain⟨hl,i,j,h⟩:=h;have u:=sub_zip;have k:JK b hp l xs:=hl;have p:JK c (hp.push (WZ b l)) m ys:=i.mv λo e=>AAP _ e;have a:JK d ((hp.push (WZ b l)).push (WZ c m)) n f:=j.mv λo e=>AAP _ (AAP _ e)
   wp_walk using N6 k,N6 p,N6 a
   exact⟨_,rfl,h⟩
def QG (a b c:kj):checkTypeCall "zip" ⟨[a,b,c], []⟩=pure ():=by kernel_rfl
def UD (a b c:kj):checkBuiltinCall "zip.__new__" ⟨[.type "zip",a,b,c], []⟩=pure ():=by kernel_rfl
def cJ (o a b c:kj):argsOk "object.__init__" ⟨[o,a,b,c], []⟩:=by unfold argsOk;kernel_rfl
section
variable {prog:gn}{w:fe}{A:Tb}{E:kj->ki->Prop}{s:ki}{b c d:kc}{l m n:kf}{xs ys ws:Array kj}
def nF (hl:JK b s.heap l xs)(z:JK c s.heap m ys)(B:JK d s.heap n ws){Q:kj->ki->Prop}(h:∀h',Z3 b c d (s.heap.objs.size+5) (s.heap.objs.size+3) (s.heap.objs.size+4) s.heap.objs.size (s.heap.objs.size+1) (s.heap.objs.size+2) l m n 0 .none h'->(∀p o,s.heap.get? p=some o->h'.get? p=some o)->Q (.ref (s.heap.objs.size+5)) {s with heap:=h'}):wpAny (model prog w) A (call (.type "zip") [.ref l, .ref m, .ref n]) Q E s:=by
 refine callType_new F.called_zip (!1) (QG _ _ _) (UD _ _ _) (λobj=>cJ obj _ _ _) F.entry_zip_new (Ym b c d l m n xs ys ws) ⟨hl,z,B, ?_⟩;have f:(y1 b s.heap l).objs.size=s.heap.objs.size+1:=ACA ..;have i:(y2 b c s.heap l m).objs.size=s.heap.objs.size+2:=by rw[ACA,f]
 have j:(y3 b c d s.heap l m n).objs.size=s.heap.objs.size+3:=by rw[ACA,i]
 have k:(y4 b c d s.heap l m n).objs.size=s.heap.objs.size+4:=by rw[ACA,j]
 have t:(y5 b c d s.heap l m n).objs.size=s.heap.objs.size+5:=by rw[ACA,k]
 have a:∀(g:Wf) (x:Obj) (p:kf) (o:Obj),g.get? p=some o->(g.push x).get? p=some o:=λg x p o e=>AAP _ e;have r:(y6 b c d s.heap l m n).get? (y5 b c d s.heap l m n).objs.size=some _:=AAV _ rfl;have u:(y6 b c d s.heap l m n).get? (y4 b c d s.heap l m n).objs.size=some _:=a _ _ _ _ (AAV _ rfl);have v:(y6 b c d s.heap l m n).get? (y3 b c d s.heap l m n).objs.size=some _:=a _ _ _ _ (a _ _ _ _ (AAV _ rfl));have y:(y6 b c d s.heap l m n).get? (y2 b c s.heap l m).objs.size=some (WZ d n):=a _ _ _ _ (a _ _ _ _ (a _ _ _ _ (AAV _ rfl)));have p2:(y6 b c d s.heap l m n).get? (y1 b s.heap l).objs.size=some (WZ c m):=a _ _ _ _ (a _ _ _ _ (a _ _ _ _ (a _ _ _ _ (AAV _ rfl))));have p1:(y6 b c d s.heap l m n).get? s.heap.objs.size=some (WZ b l):=a _ _ _ _ (a _ _ _ _ (a _ _ _ _ (a _ _ _ _ (a _ _ _ _ (AAV _ rfl)))));rw[j,k,t] at r;rw[f,i,j] at v;rw[k] at u;rw[i] at y;rw[f] at p2;show _/\_;rw[t];exact⟨⟨_,r,rfl⟩,h _ ⟨r,v,⟨_,_,_,u⟩,VQ p1,VQ p2,VQ y⟩ λp o e=>a _ _ _ _ (a _ _ _ _ (a _ _ _ _ (a _ _ _ _ (a _ _ _ _ (a _ _ _ _ e)))))⟩
end
noncomputable def xW (K:AAJ)(b c d:kc)(l m n:kf):It:=
 ⟨λi H=>∃xs ys a x y v,Sq K b H l xs/\Sq K c H m ys/\Sq K d H n a/\xs[i]? =some x/\ys[i]? =some y/\a[i]? =some v,
  λi H u e=>∃T x y v,u= .ref T/\H T=none/\e=upd H T (.tup [x,y,v])/\(∀xs,Sq K b H l xs->xs[i]? =some x)/\(∀ys,Sq K c H m ys->ys[i]? =some y)/\∀a,Sq K d H n a->a[i]? =some v,
  λi H=>∃xs,Sq K b H l xs/\xs.length<=i⟩
def qI {p z TI TO i j k:kf}(h:p∈ [z,TI,TO,i,j,k]):p=z\/p=TI\/p=TO\/p=i\/p=j\/p=k:=↑h
def dG {K:AAJ}{TI TO k:kf}(D:wg z TI TO i j k l m n):Hu P w K (.Tuple es U pos) (xW K b c d l m n) [z,TI,TO,i,j,k] z (λt h=>Z3 b c d z TI TO i j k l m n t .none h) where
 mem:=!2
 obj:=λt h Z p hp=>by
  rcases qI hp with e|e|e|e|e|e
  .subst e;exact⟨_,Z.zip,λv q=>nomatch q⟩
  .subst e;exact⟨_,Z.its,λv q=>nomatch q⟩
  .subst e;obtain⟨x,y,u,q⟩:=Z.own;exact⟨_,q,λv q=>nomatch q⟩
  .subst e;exact Z.one.obj
  .subst e;exact Z.two.obj
  .subst e;exact Z.tre.obj
 keep:=λt h h' Z e=>Z.mv e
 item:=by
  intro X A hw B hc t Sr s L H E I r Z C;subst A hw B;obtain⟨xs,ys,ws,x,y,v,hl,M,N,hx,hy,hv⟩:=C;obtain⟨W,F,G,_⟩:=I.sq hl;obtain⟨vs,rv,sv,_⟩:=I.sq M;obtain⟨qs,Y,sq,_⟩:=I.sq N;obtain⟨O,hu1,r1⟩:=F.get hx;obtain⟨Q,hu2,r2⟩:=rv.get hy;obtain⟨R,hu3,r3⟩:=Y.get hv;have g:s.TypeIs (.ref z) "zip" :=⟨_,Z.zip,rfl⟩;have J:∀p∈ [z,TI,TO,i,j,k],p<s.heap.objs.size:=λp hp=>by
   rcases qI hp with e|e|e|e|e|e
   .subst e;exact AAN Z.zip
   .subst e;exact AAN Z.its
   .subst e;obtain⟨x,y,u,q⟩:=Z.own;exact AAN q
   .subst e;obtain⟨o,q,_⟩:=Z.one.obj;exact AAN q
   .subst e;obtain⟨o,q,_⟩:=Z.two.obj;exact AAN q
   .subst e;obtain⟨o,q,_⟩:=Z.tre.obj;exact AAN q
  unfold pyNext;refine AAI (ADs (ACe (name:=Str.ofString "__next__") g ADD (AB7 ADD g AFA (sK D Z G sv sq (x:=O) (y:=Q) (v:=R) (↑hu1) (↑hu2) (↑hu3) λh1 S a6 a7=>AAK ?_) (AFB _))));refine⟨_,rfl,wpAny_letOwnedTupleGo_zip (s:={s with heap:=h1}) S.zip λh2 c1 c2=> ?_⟩;have a:∀p o,p≠z->h1.get? p=some o->h2.get? p=some o:=λp o q e=>c2.extBut _ _ q e;have kp:∀p o,p ∉ [z,TI,TO,i,j,k] ->s.heap.get? p=some o->h2.get? p=some o:=λp o hp e=>by
   have f:p≠z/\p≠TI/\p≠TO/\p≠i/\p≠j/\p≠k:=↑hp
   exact a p o f.1 (a7 p o f.1 f.2.2.1 f.2.2.2.1 f.2.2.2.2.1 f.2.2.2.2.2 e)
  have yc:s.heap.objs.size≠z:=AAx (J z (!2));have I2:Inv X Sr L (upd H s.heap.objs.size (.tup [x,y,v])) {s with heap:=h2,toks:=s.toks}:=I.turnedN r J kp (AAR _)
   ⟨(by show 3<=sizeLine;decide), [O,Q,R], .cons r1 (.cons r2 (.cons r3 .nil)),⟨_,a _ _ yc a6,rfl,_,rfl⟩⟩
  have VM:H s.heap.objs.size=none:=I.fresh;refine⟨.ref s.heap.objs.size,upd H s.heap.objs.size (.tup [x,y,v]),I2,rfl,⟨_,x,y,v,rfl,VM,rfl,λxs' h'=> ?_,λys' h'=> ?_,λws' h'=> ?_⟩, ?_,λp hp=> ?_⟩
  .rw [I.sq_inj h' hl];exact hx
  .rw [I.sq_inj h' M];exact hy
  .rw [I.sq_inj h' N];exact hv
  .obtain ⟨b1,b2,⟨q1,q2,q3,b3⟩,b4,b5,b6⟩:=S;exact⟨c1,a _ _ D.TIz b2,⟨_,_,_,a _ _ D.TOz b3⟩,b4.mv λo=>a _ o D.iz,b5.mv λo=>a _ o D.jz,b6.mv λo=>a _ o D.kz⟩
  .rw [Ae (AAQ (J p hp))];exact(r p hp).1
 done:=by
  intro X A hw B hc t Sr s L H E I r Z C;subst A hw B;obtain⟨xs,hl,he⟩:=C;obtain⟨W,F,G,_⟩:=I.sq hl;have e1:=F.length;have g:s.TypeIs (.ref z) "zip" :=⟨_,Z.zip,rfl⟩;unfold pyNext;refine AAI (ADs (ACe (name:=Str.ofString "__next__") g ADD (AB7 ADD g AFA (wT (I.ok.hd hc) D Z G (by simp;omega) λh1 e hk he=> ?_) (AFB _))));obtain⟨o,ho,uP⟩:=he;refine AAI (AC6 (T:="StopIteration") (b:=true) ⟨o,ho,uP⟩ isSubtype_stop (AAK ⟨rfl, ?_⟩));exact I.turnedL (t':=s.toks) r λp o hp e=>by
   have f:p≠z/\p≠TI/\p≠TO/\p≠i/\p≠j/\p≠k:=↑hp
   exact hk p o f.1 f.2.2.2.1 e
 self:=λ_ _ _ _ _ Z h=>AFC Z.zip h
section
variable {X:Cx}
def gy {e f g:kd}{y:TA}{p:Pos}(E:Gl X "zip")(F:X.mg "zip" =none)(ha:PA X [e,f,g] y)(hs:starEach [e,f,g] X.env=(false,eval e X.env)::starEach [f,g] X.env:=by rfl)(hpl:(backTo pos (starEach [f,g] X.env)).any (·.1)=false:=by rfl):PI X (.Tuple es D i) (.Call (.Name "zip" p) [e,f,g] [] pos) (λt H R=>y t H λvs H1=>∃b c d l m n,vs= [.ref l, .ref m, .ref n] /\(∃xs,Sq X.K b H1 l xs)/\(∃ys,Sq X.K c H1 m ys)/\(∃z,Sq X.K d H1 n z)/\R (xW X.K b c d l m n) H1):=by
 intro Sr s t H R I h;refine Call_ (Ih I E F boot_zip (ADi (BA (ha pos Sr s t H _ I h) λG j ⟨vs,H1,a,r1,J⟩=> ?_) hs hpl));obtain⟨b,c,d,l,m,n,rfl,⟨xs,hl⟩,⟨ys,L⟩,⟨z,M⟩,q⟩:=J;cases r1 with
 | cons r k=>
 cases k with
 | cons N k=>
 cases k with
 | cons u k=>
 cases k;cases r;cases N;cases u;obtain⟨G,P,A,_⟩:=a.sq hl;obtain⟨vs,rv,sv,_⟩:=a.sq L;obtain⟨qs,Q,B,_⟩:=a.sq M;have v:l<j.heap.objs.size:=by cases b <;> (obtain⟨o,e,_⟩:=A;exact AAN e)
 have w:m<j.heap.objs.size:=by cases c <;> (obtain⟨o,e,_⟩:=sv;exact AAN e)
 have x:n<j.heap.objs.size:=by cases d <;> (obtain⟨o,e,_⟩:=B;exact AAN e)
 refine nF A sv B λh1 Z O=>AFC Z.zip ?_;refine⟨_,_,_,_,H1,rfl,a.kept (t':=j.toks) O,dG (nE v w x),Z,λp hp=> ?_,q⟩;have C:j.heap.objs.size<=p:=by rcases qI hp with e|e|e|e|e|e <;> (rw[e];first | exact AAR _|exact ACP _ _)
 exact a.fpOk C (a.hok.fresh C)
end
end L2
namespace PL
open PySem PySem.Spec PyProof.Rows L2
noncomputable def GG:km PV->km PV->km PV->km PV
 | x::xs,y::ys,z::zs=> .tup [x,y,z] :: GG xs ys zs
 | _,_,_=> []
theorem O5:∀(xs ys d:km PV) (i:Nat) (u:PV),(GG xs ys d)[i]? =some u->∃x y z,xs[i]? =some x/\ys[i]? =some y/\d[i]? =some z/\u= .tup [x,y,z]
 | x::xs,y::ys,z::d,0,u,h=>⟨x,y,z,rfl,rfl,rfl,by simp[GG] at h;exact h.symm⟩
 | x::xs,y::ys,z::d,i+1,u,h=>by obtain⟨a,b,c,h1,h2,h3,e⟩:=O5 xs ys d i u (by simpa[GG] using h);exact⟨a,b,c,↑h1,↑h2,↑h3,e⟩
 | [],_,_,_,_,h=>by simp[GG] at h
 | _::_, [],_,_,_,h=>by simp[GG] at h
 | _::_,_::_, [],_,_,h=>by simp[GG] at h
theorem WW:∀(xs ys a:km PV),xs.length=ys.length->xs.length=a.length->(GG xs ys a).length=xs.length
 | [],_,_,_,_=>by simp[GG]
 | x::xs,y::ys,z::a,h1,h2=>by rw[GG,AAk,WW xs ys a (↑h1) (↑h2),AAk]
 | _::_, [],_,h1,_=>by simp at h1
 | _::_,_::_, [],_,h2=>by simp at h2
def bY {K:AAJ}{x y z:PV}(va:Gs T M H)(hx:x= .tup xs\/x= .lst xs)(hy:y= .tup ys\/y= .lst ys)(hz:z= .tup d\/z= .lst d)(G:xs.length=ys.length)(I:xs.length=d.length)(r:B8 K T M H (.ref l) x)(r2:B8 K T M H (.ref m) y)(J:B8 K T M H (.ref n) z):R1 K M (xW K (e8 x) (e8 y) (e8 z) l m n) (GG xs ys d) T H:=by
 obtain⟨_,vs,e,hq,j⟩:=IM hx r;cases e;obtain⟨_,u,e,A,f⟩:=IM hy r2;cases e;obtain⟨_,B,e,C,g⟩:=IM hz J;cases e;refine⟨λi w h=> ?_,λi w v Q h L=> ?_,λi h=>⟨vs,hq, ?_⟩⟩
 .obtain ⟨a,b,c,ha,hb,hc,_⟩:=O5 xs ys d i w h;obtain⟨k,h1,_⟩:=j.get ha;obtain⟨s,h2,_⟩:=f.get hb;obtain⟨t,h3,_⟩:=g.get hc;exact⟨vs,u,B,k,s,t,hq,A,C,h1,h2,h3⟩
 .obtain ⟨a,b,c,ha,hb,hc,rfl⟩:=O5 xs ys d i w h;obtain⟨p,k,s,t,rfl,N,rfl,h1,h2,h3⟩:=L;obtain⟨R,D,ra⟩:=j.get' (h1 vs hq);obtain⟨S,E,O⟩:=f.get' (h2 u A);obtain⟨U,F,P⟩:=g.get' (h3 B C);rw[ha] at D;cases D;rw[hb] at E;cases E;rw[hc] at F;cases F;have st:=Cq.lay (o:= .tup [k,s,t]) va.tp N;exact⟨st, .tup (.inl Ad) (.cons (ra.stp st va) (.cons (O.stp st va) (.cons (P.stp st va) .nil)))⟩
 .rw [WW xs ys d G I] at h;rw[j.length];exact h
section
variable {X:Cx}
def ox (r:AA):AI:=λτ Q=>r τ λb=>match b with | [x,y,z] =>Mb x λxs=>Mb y λys=>Mb z λa=>(xs.length=ys.length/\xs.length=a.length)/\Q (GG xs ys a)|_=>False
def v4 {e f g:kd}{p:Pos}(o:Gl X "zip")(u:X.mg "zip" =none)(ha:SA X [e,f,g] r)(hs:starEach [e,f,g] X.env=(false,eval e X.env)::starEach [f,g] X.env:=by rfl)(hpl:(backTo pos (starEach [f,g] X.env)).any (·.1)=false:=by rfl):SI X (.Tuple es j a) (.Call (.Name "zip" p) [e,f,g] [] pos) true (ox r):=by
 obtain⟨t,v,s⟩:=ha;refine⟨_,gy o u v hs hpl,λB T w τ H R M A h k=>s B T w τ H _ _ A h λvs xs T1 H1 C r1 h1=> ?_⟩;split at h1 <;> first | exact h1.elim|skip
 rename_i x y z;obtain⟨xs,hx,h2⟩:=GV h1;obtain⟨ys,hy,h3⟩:=GV h2;obtain⟨N,hz,b⟩:=GV h3;obtain⟨⟨D,E⟩,b⟩:=b;cases r1 with
 | cons ra t=>
   cases t with
   | cons d t=>
     cases t with
     | cons i t=> cases t;obtain⟨l,F,rfl,hq,O⟩:=IM hx ra;obtain⟨m,G,rfl,I,J⟩:=IM hy d;obtain⟨n,qs,rfl,K,L⟩:=IM hz i;exact⟨e8 x,e8 y,e8 z,l,m,n,rfl,⟨F,hq⟩,⟨G,I⟩,⟨qs,K⟩,k _ _ T1 H1 C (λM2 P Q c va _=>bY va hx hy hz D E (ra.mv c) (d.mv c) (i.mv c)) b⟩
end
end PL
namespace PL
open PySem L2 PyProof.Rows
class eI (Ts:List String):Prop where
 q:Ts.any (bV .tup)=true/\Ts.any (bV .lst)=true/\Ts.any (bV .int)=false/\Ts.any (bV .bl)=false/\Ts.any (bV .non)=false/\Ts.any (bV .str)=false
instance:eI ["tuple","list"] :=⟨!1⟩
instance:eI ["list","tuple"] :=⟨!1⟩
end PL
namespace L2
open PySem PySem.Spec PyProof.Rows
section
variable {κ:Type}[DecidableEq κ]
noncomputable def EZ (kvs:km (κ×V))(k:κ):ke V:=(kvs.find? λa=>decide (a.1=k)).map (·.2)
noncomputable def EA (kvs:km (κ×V))(k:κ)(v:V):km (κ×V):=
 if (kvs.any λa=>decide (a.1=k))=true then kvs.map (λa=>if a.1=k then (a.1,v) else a) else kvs ++ [(k,v)]
def GF {p:κ×V}{r:km (κ×V)}{k:κ}(e:p.1=k):EZ (p::r) k=some p.2:=by simp[EZ,ADJ,e]
def GE {p:κ×V}{r:km (κ×V)}{k:κ}(e:¬p.1=k):EZ (p::r) k=EZ r k:=by simp[EZ,ADJ,e]
theorem O3 (k:κ):∀kvs:km (κ×V),(kvs.any λa=>decide (a.1=k))=(EZ kvs k).isSome
 | [] =>rfl
 | p::r=>by
   rw[ADK];by_cases e:p.1=k
   .simp only[GF e,AAl e,Bool.true_or,Option.isSome_some]
   .rw [GE e,AAo e,Bool.false_or];exact O3 k r
def EM (kvs:km (κ×V))(k:κ)(v:V):(EA kvs k v).length<=kvs.length+1:=by
 unfold EA;split
 .rw [AAT];omega
 .rw [ACG,AAk,AEk];omega
def Ja.isSome_eq (r:Ja o u):o.isSome=u.isSome:=by
 cases o with
 | none=>cases u with
   | none=>rfl
   | some _=>exact(show False from r).elim
 | some _=>cases u with
   | none=>exact(show False from r).elim
   | some _=>rfl
def Ja.getD (r:Ja o u)(a:RelV d d'):RelV (o.getD d) (u.getD d'):=by
 cases o with
 | none=>cases u with
   | none=>exact a
   | some _=>exact(show False from r).elim
 | some _=>cases u with
   | none=>exact(show False from r).elim
   | some _=>exact r
def KV.val {kvs:km (κ×V)}{vs:km (κ×kj)}(r:KV kvs vs)(k:κ):Ja (EZ kvs k) (valueAt vs k):=by
 unfold KV at r;induction r with
 | nil=>exact True.intro
 | @cons p q ps qs h t ih=>
   obtain⟨h1,h2⟩:=h;by_cases e:p.1=k
   .have a:q.1=k:=h1.symm.trans e;have b:valueAt (q::qs) k=some q.2:=by simp[valueAt,ADJ,a]
    rw[GF e,b];exact h2
   .have a:¬q.1=k:=λz=>e (h1.trans z);have b:valueAt (q::qs) k=valueAt qs k:=by simp[valueAt,ADJ,a]
    rw[GE e,b];exact ih
def KV.any {kvs:km (κ×V)}{vs:km (κ×kj)}(r:KV kvs vs)(k:κ):(kvs.any λa=>decide (a.1=k))=vs.any λa=>decide (a.1=k):=by
 unfold KV at r;induction r with
 | nil=>rfl
 | cons h t ih=>rw[ADK,ADK,ih,h.1]
def KV.repl {kvs:km (κ×V)}{vs:km (κ×kj)}(r:KV kvs vs)(k:κ){y:V}(b:RelV y u):KV (kvs.map λa=>if a.1=k then (a.1,y) else a) (vs.map λa=>if a.1=k then (a.1,u) else a):=by
 unfold KV at r ⊢;induction r with
 | nil=>exact .nil
 | @cons p q ps qs h t ih=>
   rw[AAW,AAW];refine .cons ?_ ih;obtain⟨h1,h2⟩:=h;by_cases e:p.1=k
   .rw [AAM e,AAM (h1.symm.trans e)];exact⟨h1,b⟩
   .rw [AAL e,AAL (λz=>e (h1.trans z))];exact⟨h1,h2⟩
def KV.put {kvs:km (κ×V)}{vs:km (κ×kj)}(r:KV kvs vs)(k:κ){y:V}(a:RelV y u):KV (EA kvs k y) (stored vs k u):=by
 unfold EA stored;rw[r.any k];by_cases e:(vs.any λb=>decide (b.1=k))=true
 .rw [AAM e,AAM e];exact r.repl k a
 .rw [AAL e,AAL e];exact Paired.snoc r ⟨rfl,a⟩
def KV.keys {kvs:km (κ×V)}{vs:km (κ×kj)}(r:KV kvs vs):kvs.map (·.1)=vs.map (·.1):=by
 unfold KV at r;induction r with
 | nil=>rfl
 | cons h t ih=>rw[AAW,AAW,ih,h.1]
def KV.length {kvs:km (κ×V)}{vs:km (κ×kj)}(r:KV kvs vs):kvs.length=vs.length:=AEQ r
end
def Q0 {k:CD}(r:RelV (kV k) u):(Ax P w).is k u=true:=by
 cases k with
 | inl i=>obtain⟨t,e⟩:=(show ∃t,u=Value.int i t from r);subst e;exact VW P w i t
 | inr x=>obtain⟨t,e⟩:=(show ∃t,u=Value.str x t from r);subst e;exact VX P w x t
theorem Qz:∀{a:km CD} {b:km kj},Au (a.map kV) b->ItemsAre (Ax P w) a b
 | [],_,r=>by rw[AEb] at r;cases r;exact .nil
 | k::a,_,r=>by
   rw[AAW] at r;cases r with
   | cons h t=>exact .cons (Q0 h) (Qz t)
abbrev KT (H:Hp):km (km CD×V)->km (km CD×kf×kj)->Prop:=Paired λp q=>p.1=q.1/\H q.2.1=some (.tup (p.1.map kV))/\RelV p.2 q.2.2
def KT.val (r:KT H kvs xs)(k:km CD):Ja (EZ kvs k) ((atKey xs k).map (·.2)):=by
 induction r with
 | nil=>exact True.intro
 | @cons p q ps qs h t ih=>
   obtain⟨h1,_,h2⟩:=h;by_cases e:p.1=k
   .have a:q.1=k:=h1.symm.trans e;have b:atKey (q::qs) k=some q.2:=by simp[atKey,ADJ,a]
    rw[GF e,b];exact h2
   .have a:¬q.1=k:=λz=>e (h1.trans z);have b:atKey (q::qs) k=atKey qs k:=by simp[atKey,ADJ,a]
    rw[GE e,b];exact ih
def KT.repl (r:KT H kvs xs)(k:km CD){y:V}(b:RelV y u):KT H (kvs.map λa=>if a.1=k then (a.1,y) else a) (xs.map (putAt k u)):=by
 induction r with
 | nil=>exact .nil
 | @cons p q ps qs h t ih=>
   rw[AAW,AAW];refine .cons ?_ ih;obtain⟨h1,h2,h3⟩:=h;unfold putAt;by_cases e:p.1=k
   .rw [AAM e,AAM (h1.symm.trans e)];exact⟨h1,h2,b⟩
   .rw [AAL e,AAL (λz=>e (h1.trans z))];exact⟨h1,h2,h3⟩
def KT.put {H:Hp}(r:KT H kvs xs)(k:km CD){y:V}(hb:H b=some (.tup (k.map kV)))(a:RelV y u):KT H (EA kvs k y) (storedH xs k b u):=by
 have e:(kvs.any λc=>decide (c.1=k))=(atKey xs k).isSome:=by rw[O3,(r.val k).isSome_eq,AEl]
 unfold EA storedH;rw[e];by_cases q:(atKey xs k).isSome=true
 .rw [AAM q,AAM q];exact r.repl k a
 .rw [AAL q,AAL q];exact Paired.snoc r ⟨rfl,hb,a⟩
def KT.keeps {H a:Hp}(r:KT H kvs xs)(c:∀b ys,H b=some (.tup ys)->a b=some (.tup ys)):KT a kvs xs:=
 Paired.mapP r λ_ _ z=>⟨z.1,c _ _ z.2.1,z.2.2⟩
section
variable {P:gn}{w:fe}{H:Hp}{h:Wf}{a:kf}
def n9 (ok:IU P w H h)(e:Rd H a u):Bz P w H h a u:=e.ok ok
def U3 (ok:IU P w H h)(e:Rd H a (.dK kvs)):kvs.length<=sizeLine/\(a==sysModules)=false/\∃vs,KV kvs vs/\h.DictOf (Ax P w) a vs:=
 show Bz P w H h a (.dK kvs) from n9 ok e
def Y6 (ok:IU P w H h)(e:H a=some (.dK kvs)):kvs.length<=sizeLine/\(a==sysModules)=false/\∃vs,KV kvs vs/\h.DictOf (Ax P w) a vs:=U3 ok (.inl e)
def Sm {b:km CD}(ok:IU P w H h)(e:H a=some (.tup (b.map kV))):(tupleKind (Ax P w)).is h b a:=by obtain⟨_,c,r,o,h1,h2,n,h3⟩:=(show Bz P w H h a (.tup (b.map kV)) from ok a _ e);exact⟨o,c.toArray,n,h1,h2,h3,by simpa using Qz r⟩
def U4 (ok:IU P w H h)(e:Rd H a (.dT kvs)):kvs.length<=sizeLine/\(a==sysModules)=false/\ ∃xs,KT H kvs xs/\h.DictOfH (tupleKind (Ax P w)) a xs:=by
 obtain⟨z,y,xs,r,o,es,ep,h1,h2,h3,b,c⟩:=(show Bz P w H h a (.dT kvs) from n9 ok e);refine⟨z,y,xs,r,o,es,ep,h1,h2,h3,b,λx hx=> ?_,c⟩;have all:∀{l:km (km CD×V)} {m:km (km CD×kf×kj)},KT H l m->∀x∈m,(tupleKind (Ax P w)).is h x.1 x.2.1:=by
  intro l m q;induction q with
  | nil=>intro x hx;exact nomatch hx
  | @cons p q ps qs hq t ih=>
    intro x hx;rcases AAO.mp hx with e|hx
    .subst e;exact Sm ok (by rw[<-hq.1];exact hq.2.1)
    .exact ih x hx
 exact all r x hx
def uF (ok:IU P w H h)(e:H a=some (.dT kvs)):kvs.length<=sizeLine/\(a==sysModules)=false/\ ∃xs,KT H kvs xs/\h.DictOfH (tupleKind (Ax P w)) a xs:=U4 ok (.inl e)
end
def Pg (H:Hp)(a:kf)(y:V)(r:ke V):Prop:=
 (∃kvs k,Rd H a (.dK kvs)/\y=kV k/\r=EZ kvs k)\/∃kvs k b,Rd H a (.dT kvs)/\y= .ref b/\H b=some (.tup (k.map kV))/\r=EZ kvs k
def Wc (H:Hp)(a:kf)(y v:V)(c:Hp):Prop:=
 (∃kvs k,H a=some (.dK kvs)/\y=kV k/\kvs.length<sizeLine/\c=upd H a (.dK (EA kvs k v)))\/
 ∃kvs k b,H a=some (.dT kvs)/\y= .ref b/\H b=some (.tup (k.map kV))/\kvs.length<sizeLine/\c=upd H a (.dT (EA kvs k v))
def Pg.k {H:Hp}{k:CD}(e:H a=some (.dK kvs)):Pg H a (kV k) (EZ kvs k):= .inl ⟨kvs,k, .inl e,rfl,rfl⟩
def Pg.t {H:Hp}{k:km CD}(e:H a=some (.dT kvs))(c:H b=some (.tup (k.map kV))):Pg H a (.ref b) (EZ kvs k):= .inr ⟨kvs,k,b, .inl e,rfl,c,rfl⟩
def Wc.k {H:Hp}{k:CD}(e:H a=some (.dK kvs))(hl:kvs.length<sizeLine):Wc H a (kV k) v (upd H a (.dK (EA kvs k v))):= .inl ⟨kvs,k,e,rfl,hl,rfl⟩
def Wc.t {H:Hp}{k:km CD}(e:H a=some (.dT kvs))(c:H b=some (.tup (k.map kV)))(hl:kvs.length<sizeLine):Wc H a (.ref b) v (upd H a (.dT (EA kvs k v))):= .inr ⟨kvs,k,b,e,rfl,c,hl,rfl⟩
section
variable {X:Cx}{Sr:km (kf×Obj)}{σ:St}{H:Hp}{s:ki}{a:kf}{y v:V}{u r:kj}{o:ke V}{A:Tb}{E:kj->ki->Prop}
def Inv.big (I:Inv X Sr σ H s):sysModules<s.heap.objs.size:=by have h:mainGlobals<s.heap.objs.size:=(I.mod.glob.keeps I.bk).lt;exact AEc (!1) h
def ax {Q:kj->ki->Prop}(hu:A.units+1<cLine)(I:Inv X Sr σ H s)(g:Pg H a y (some v))(m:RelV y u)(h:∀f n,Inv X Sr σ H n->RelV v f->Q f n):wpAny (model X.prog X.w) A (getItem (.ref a) u) Q E s:=by
 rcases g with⟨kvs,k,e,i,l⟩|⟨kvs,k,b,e,i,t,l⟩
 .subst i;obtain⟨z,hd,vs,c,j⟩:=U3 I.hok e;obtain⟨f,hw,d⟩:=Ja.some_of (v:=v) (o:=valueAt vs k) (by rw[l];exact c.val k);exact wpAny_getItem_of (Q0 m) j.mapOf hw (h f _ (I.tok _) d)
 .subst i;cases (show u=Value.ref b from m);obtain⟨z,hd,xs,c,j⟩:=U4 I.hok e;obtain⟨f,hw,d⟩:=Ja.some_of (v:=v) (o:=(atKey xs k).map (·.2)) (by rw[l];exact c.val k);obtain⟨p,hp,x⟩:=ADL.mp hw;refine wpAny_getItem_heap (AF3 hu) (Sm I.hok t) j hp ?_;rw[x];exact h f _ (I.tok _) d
def Hl {t':Nat}(I:Inv X Sr σ H s)(d:tY (H a))(hs:Heap.SameBut a s.heap h')(he:∃q,h'.get? a=some q)(new:Bz X.prog X.w (upd H a c) h' a c):Inv X Sr σ (upd H a c) {s with heap:=h',toks:=t'}:=
 I.write (x:=a) (e:=a) d (.inl rfl) (λb q hb z=>(hs.2 b hb).trans z) he new
def SJ {h':Wf}{kvs:km (CD×V)}(z:kvs.length<=sizeLine)(hd:(a==sysModules)=false)(b:KV kvs vs)(d:h'.DictOf (Ax P w) a vs):Bz P w c h' a (.dK kvs):=⟨z,hd,vs,b,d⟩
def ay {Q:Unit->ki->Prop}(hu:A.units+1<cLine)(I:Inv X Sr σ H s)(g:Wc H a y v n)(p:RelV y u)(rv:RelV v r)(h:∀t,Inv X Sr σ n t->Q () t):wpAny (model X.prog X.w) A (setItem (.ref a) u r) Q E s:=by
 rcases g with⟨kvs,k,e,i,l,j⟩|⟨kvs,k,b,e,i,x,l,j⟩
 .subst i j;obtain⟨z,hd,vs,d,m⟩:=Y6 I.hok e;have hz:vs.length<=sizeLine:=by rw[<-d.length];exact z
  have hl:(EA kvs k v).length<=sizeLine:=by have:=EM kvs k v;omega
  refine wpAny_setItem_pairs (hsz:=hz) (Q0 p) m λh' f hs=>h _ ?_;have he:∃q,h'.get? a=some q:=let ⟨q,_,_,hq,_⟩:=f;⟨q,hq⟩;exact Hl I (by rw[e];exact True.intro) hs he (SJ hl hd (d.put k rv) f)
 .subst i j;cases (show u=Value.ref b from p);obtain⟨z,hd,xs,d,m⟩:=uF I.hok e;have hz:xs.length<=sizeLine:=by rw[<-AEQ d];exact z
  have hl:(EA kvs k v).length<=sizeLine:=by have:=EM kvs k v;omega
  refine wpAny_setItem_heap (hsz:=hz) (AF3 hu) (Sm I.hok x) m λh' f hs=>h _ ?_;obtain⟨q,es,ep,hq,h2,h3,C,_,D⟩:=f;refine Hl I (by rw[e];exact True.intro) hs ⟨q,hq⟩ ⟨hl,hd,_,(d.put k x rv).keeps λc ys B=> ?_,q,es,ep,hq,h2,h3,C,D⟩;rw[Ae (nY B e (λz=>nomatch z))];exact B
end
def eB (i:kd):Prop:=∀a b,subscripted i false a b=operate [a,b] (getItem a b)
def Z8 {prog:gn}{id:String}(hl:typeLookup (.type T) "__getitem__" =pure (some (.builtin id)))(hs:eB slice)(h:wpAny (model prog w) A (eval value env) (λo c=>wpAny (model prog w) A (eval slice env) (λi a=>a.TypeIs o T/\wpAny (model prog w) A (getItem o i) Q E a) E c) E s):wpAny (model prog w) A (eval (.Subscript value slice pos) env) Q E s:=by
 refine Subscript_ (ACE h (λo c f=>ACE f (λi a b=> ?_) λ_ _ x=>x) λ_ _ x=>x);obtain⟨j,b⟩:=b;unfold subscriptTail;refine AAI ?_;rw[getitemInPython_of_ne j.not_modules];refine AAI (AC4 j hl ?_);have e:wpAny (model prog w) A (subscripted slice false o i) (λr d=>wpAny (model prog w) A (letTemporaryGo value o r >>= λ_=>pure r) Q E d) E a:=by rw[hs o i];exact wpAny_operating (ACE b (λr d g=>AAI (wpAny_letTemporaryGo (AAK g))) λ_ _ x=>x)
 first
  | exact AAK (AAI e)
  | exact AAI (AAK (AAI e))
  | exact AAI e
def U0 {y:V}(I:Inv X Sr d H s)(g:Pg H a y o):s.TypeIs (.ref a) "dict" :=by
 rcases g with⟨kvs,k,e,_,_⟩|⟨kvs,k,b,e,_,_,_⟩
 .obtain ⟨_,_,vs,_,c⟩:=U3 I.hok e;exact c.typeIs
 .obtain ⟨_,_,xs,_,c⟩:=U4 I.hok e;exact c.typeIs
def wF (d e:TE):TE:=λb H Q=>d b H λx H1=>e b H1 λy c=>∃a v,x= .ref a/\Pg c a y (some v)/\Q v c
def oA (d e f:TE):TS:=λD b H=>f b H λv H1=>d b H1 λx g=>e b g λy h=>∃a c,x= .ref a/\Wc h a y v c/\D.nx b c
section
variable {X:Cx}{o i e value:kd}{pos pos' tpos:Pos}{td ty tv:TE}
def lM (hu:X.A.units+1<cLine)(f:PE X o td)(hi:PE X i ty)(hs:eB i):PE X (.Subscript o i pos) (wF td ty):=by intro Sr s c H Q I h;refine Z8 AGY.lookup hs (BA (f Sr s c H _ I h) λu j ⟨x,H1,k,l,m⟩=>BA (hi Sr j c H1 _ k m) λw z ⟨y,n,d,p,a,v,ex,g,r⟩=> ?_);subst ex;obtain rfl:u=Value.ref a:=l;exact⟨U0 d g,ax hu d g p λB C t b=>⟨v,n,t,b,r⟩⟩
def lf (hu:X.A.units+1<cLine)(c:PE X o td)(hi:PE X i ty)(hv:PE X value tv)(hs:swapsWith value (some (.Subscript o i pos')) pos.line X.env=pure false):PS X (.Assign [.Subscript o i pos'] value pos) (oA td ty tv):=by intro Sr s b H D I h;refine wpAny_Assign_Subscript (BA (hv Sr s b H _ I h) λr d ⟨v,H1,f,rv,j⟩=>BA (c Sr d b H1 _ f j) λu k ⟨x,l,m,n,p⟩=>BA (hi Sr k b l _ m p) λE F ⟨y,G,t,w,a,z,ex,g,B⟩=> ?_) hs;subst ex;obtain rfl:u=Value.ref a:=n;exact ay hu t g w rv λJ C=>⟨b,z,C,B⟩
end
def U2 (h:Wf)(hb:sysModules<h.objs.size):Bz P w H (h.push {cls:= .type "dict",data:= .dict #[] }) h.objs.size (.dK []):=
 ⟨ACB _,AEP.mpr (AA6 (AAQ hb)), [], .nil,Heap.DictOf.new h⟩
def Ya:km (TE×TE)->St->Hp->(km (V×V)->Hp->Prop)->Prop
 | [],_,H,Q=>Q [] H
 | (tk,tv)::r,σ,H,Q=>tk σ H λx H1=>tv σ H1 λy a=>Ya r σ a λps b=>Q ((x,y)::ps) b
abbrev VV:km (V×V)->km (kj×kj)->Prop:=Paired λp q=>RelV p.1 q.1/\RelV p.2 q.2
def wX (X:Cx)(pos:Pos)(keys:km (ke kd))(values:km kd)(a:km (TE×TE)):Prop:=
 ∀(Sr:km (kf×Obj)) (s:ki) (b:St) (H:Hp) (Q:km (V×V)->Hp->Prop),Inv X Sr b H s->Ya a b H Q->
  wpAny (model X.prog X.w) X.A (evalPairs (pairTrees keys values X.env pos)) (λvs d=>∃ps c,Inv X Sr b c d/\VV ps vs/\Q ps c) X.xe s
def lX:wX X pos [] [] [] :=λSr s a H Q I h=>pairTrees_nil_walk ⟨[],H,I, .nil,h⟩
def hU {k:kd}(hk:PE X k e)(hv:PE X v f)(g:wX X pos d vs a):wX X pos (some k::d) (v::vs) ((e,f)::a):=λSr s b H Q I h=>
 pairTrees_cons_walk (BA (hk Sr s b H _ I h) λu i ⟨x,H1,j,l,m⟩=>BA (hv Sr i b H1 _ j m) λB n ⟨y,o,p,r,t⟩=>
  BA (g Sr n b o _ p t) λC D ⟨ps,w,z,c,A⟩=>⟨(x,y)::ps,w,z, .cons ⟨l,r⟩ c,A⟩)
def OD (kvs more:km (CD×V)):km (CD×V):=more.foldl (λa b=>EA a b.1 b.2) kvs
def KV.merge:∀{more:km (CD×V)} {a:km (CD×kj)} {kvs:km (CD×V)} {vs:km (CD×kj)},KV more a->KV kvs vs->KV (OD kvs more) (merged vs a):=by
 intro more a kvs vs r;unfold KV at r;induction r generalizing kvs vs with
 | nil=>intro q;exact q
 | @cons p q ps qs h t ih=>
   intro b;have e:KV (EA kvs p.1 p.2) (stored vs q.1 q.2):=by have:=b.put p.1 h.2;rw[<-h.1];exact this
   exact ih e
theorem IH:∀(more kvs:km (CD×V)),(OD kvs more).length<=kvs.length+more.length
 | [],kvs=>by show kvs.length<=kvs.length+0;omega
 | p::r,kvs=>by have h1:=IH r (EA kvs p.1 p.2);have h2:=EM kvs p.1 p.2;show (OD (EA kvs p.1 p.2) r).length<=_;rw[AAk];omega
theorem Nt:∀{kvs:km (CD×V)} {e:km (kj×kj)},VV (kvs.map λf=>(kV f.1,f.2)) e->∃d,Carries (Ax P w) e d/\KV kvs d
 | [],_,r=>by rw[AEb] at r;cases r;exact⟨[],True.intro, .nil⟩
 | p::kvs,_,r=>by
   rw[AAW] at r;cases r with
   | @cons a b as bs h t=> obtain⟨d,c,q⟩:=Nt (P:=P) (w:=w) t;obtain⟨b1,b2⟩:=b;exact⟨(p.1,b2)::d,⟨Q0 h.1,rfl,c⟩, .cons ⟨rfl,h.2⟩ q⟩
structure M1 (X:Cx) (o:Expr) (m:Str) (apos:Pos) (e:Expr) (cpos:Pos):Prop where
 base:attributeBase o m X.env (eval o X.env)=eval o X.env
 few:((backTo cpos (starEach [e] X.env)).all (λx=> !x.1)&&(backToKw cpos (keywordEach [] X.env)).all (λx=>x.1.isSome)
  && decide (([e] :List Expr).length+([] :List Keyword).length+(if ([] :List Keyword).isEmpty then 0 else 1)<30))=true
 line:(apos.endLine==cpos.line)=true
 trees:backTo cpos (starEach [e] X.env)= [(false,eval e X.env)]
structure M2 (X:Cx) (o:Expr) (m:Str) (apos:Pos) (e f:Expr) (cpos:Pos):Prop where
 base:attributeBase o m X.env (eval o X.env)=eval o X.env
 few:((backTo cpos (starEach [e,f] X.env)).all (λx=> !x.1)&&(backToKw cpos (keywordEach [] X.env)).all (λx=>x.1.isSome)
  && decide (([e,f] :List Expr).length+([] :List Keyword).length+(if ([] :List Keyword).isEmpty then 0 else 1)<30))=true
 line:(apos.endLine==cpos.line)=true
 trees:backTo cpos (starEach [e,f] X.env)= [(false,eval e X.env),(false,eval f X.env)]
def IsD (H:Hp)(a:kf):Prop:=(∃kvs,Rd H a (.dK kvs))\/∃kvs,Rd H a (.dT kvs)
def Sj (I:Inv X Sr g H s)(d:IsD H a):s.TypeIs (.ref a) "dict" /\(∀b,Value.ref a= .ref b->∃c,s.heap.get? b=some c/\c.dict=none)/\(a==sysModules)=false:=by
 rcases d with⟨kvs,e⟩|⟨kvs,e⟩
 .obtain ⟨_,hd,vs,_,f⟩:=U3 I.hok e;refine⟨f.typeIs,λb q=> ?_,hd⟩;cases q;obtain⟨c,_,_,h1,h2,_⟩:=f;exact⟨c,h1,h2.2.1⟩
 .obtain ⟨_,hd,xs,_,f⟩:=U4 I.hok e;refine⟨f.typeIs,λb q=> ?_,hd⟩;cases q;obtain⟨c,_,_,h1,h2,_⟩:=f;exact⟨c,h1,h2.2.1⟩
section
variable {X:Cx}{Sr:km (kf×Obj)}{σ:St}{H:Hp}{s:ki}{a:kf}{y d:V}{u r:kj}{o:ke V}{A:Tb}{E:kj->ki->Prop}
def pF {Q:kj->ki->Prop}(hu:A.units+1<cLine)(I:Inv X Sr σ H s)(g:Pg H a y o)(j:RelV y u)(m:RelV d r)(h:∀n p,Inv X Sr σ H p->RelV (o.getD d) n->Q n p):wpAny (model X.prog X.w) A (call (.builtin "dict.get") [.ref a,u,r]) Q E s:=by
 rcases g with⟨kvs,k,e,i,l⟩|⟨kvs,k,b,e,i,t,l⟩
 .subst i;obtain⟨z,hd,vs,c,f⟩:=U3 I.hok e;refine AEm AEn f.typeIs AF4 (AF5 _ _ _) (meets_dict_get_default (Ax X.prog X.w) a (Q0 j) hd r) ⟨_,f.mapOf,h _ _ (I.tok _) ?_⟩;rw[l];exact(c.val k).getD m
 .subst i;cases (show u=Value.ref b from j);obtain⟨z,hd,xs,c,f⟩:=U4 I.hok e;refine AEm AEn f.typeIs AF4 (AF5 _ _ _) (meetsH_dict_get_default (tupleKind (Ax X.prog X.w)) a b hd r) ⟨AF3 hu,k,xs,Sm I.hok t,f,h _ _ (I.tok _) ?_⟩;rw[l];exact(c.val k).getD m
end
def iy (d e f:TE):TE:=λb H Q=>d b H λx H1=>∃a,x= .ref a/\IsD H1 a/\e b H1 λy g=>f b g λz c=>∃o,Pg c a y o/\Q (o.getD z) c
section
variable {X:Cx}{o e f:kd}{apos cpos:Pos}{td ty tx:TE}
def gm (hu:X.A.units+1<cLine)(j:PE X o td)(he:PE X e ty)(k:PE X f tx)(m:M2 X o "get" apos e f cpos):PE X (.Call (.Attribute o "get" apos) [e,f] [] cpos) (iy td ty tx):=by
 intro Sr s b H Q I h;refine AFM m.base m.few m.line AFN AEn AGZ (BA (j Sr s b H _ I h) λu l ⟨x,H1,i,n,a,ex,d,p⟩=> ?_);subst ex;obtain rfl:u=Value.ref a:=n;obtain⟨t1,t2,_⟩:=Sj i d;refine⟨t1,t2, ?_⟩;rw[m.trees];refine AEa rfl (AFr (AET (BA (he Sr l b H1 _ i p) λJ r ⟨y,t,v,w,B⟩=>
  AET (BA (k Sr r b t _ v B) λK L ⟨z,C,D,E,M,g,F⟩=>AFj ?_))))
 exact pF hu D g w E λN O G c=>⟨_,C,G,c,F⟩
end
abbrev KN (K:AAJ)(H:Hp):km (FK×V)->km (FK×kf×kj)->Prop:=Paired λp q=>p.1=q.1/\GL K H q.2.1 p.1/\RelV p.2 q.2.2
def KN.val {K:AAJ}(r:KN K H kvs xs)(k:FK):Ja (EZ kvs k) ((atKey xs k).map (·.2)):=by
 induction r with
 | nil=>exact True.intro
 | @cons p q ps qs h t ih=>
   obtain⟨h1,_,h2⟩:=h;by_cases e:p.1=k
   .have a:q.1=k:=h1.symm.trans e;have b:atKey (q::qs) k=some q.2:=by simp[atKey,ADJ,a]
    rw[GF e,b];exact h2
   .have a:¬q.1=k:=λz=>e (h1.trans z);have b:atKey (q::qs) k=atKey qs k:=by simp[atKey,ADJ,a]
    rw[GE e,b];exact ih
def KN.repl {K:AAJ}(r:KN K H kvs xs)(k:FK){y:V}(b:RelV y u):KN K H (kvs.map λa=>if a.1=k then (a.1,y) else a) (xs.map (putAt k u)):=by
 induction r with
 | nil=>exact .nil
 | @cons p q ps qs h t ih=>
   rw[AAW,AAW];refine .cons ?_ ih;obtain⟨h1,h2,h3⟩:=h;unfold putAt;by_cases e:p.1=k
   .rw [AAM e,AAM (h1.symm.trans e)];exact⟨h1,h2,b⟩
   .rw [AAL e,AAL (λz=>e (h1.trans z))];exact⟨h1,h2,h3⟩
def KN.put {K:AAJ}(r:KN K H kvs xs)(k:FK){y:V}(hb:GL K H b k)(a:RelV y u):KN K H (EA kvs k y) (storedH xs k b u):=by
 have e:(kvs.any λc=>decide (c.1=k))=(atKey xs k).isSome:=by rw[O3,(r.val k).isSome_eq,AEl]
 unfold EA storedH;rw[e];by_cases q:(atKey xs k).isSome=true
 .rw [AAM q,AAM q];exact r.repl k a
 .rw [AAL q,AAL q];exact Paired.snoc r ⟨rfl,hb,a⟩
def KN.keeps {K:AAJ}{H a:Hp}(r:KN K H kvs xs)(c:∀b ys,H b=some (.tup ys)->a b=some (.tup ys)):KN K a kvs xs:=
 Paired.mapP r λ_ _ z=>⟨z.1,z.2.1.stay c,z.2.2⟩
section
variable {P:gn}{w:fe}{H:Hp}{h:Wf}{a:kf}{K:AAJ}
def Jw {k:FK}(ok:IU P w H h)(d:K.In h)(e:GL K H a k):(fkKind P w).is h k a:=by
 obtain⟨b,h1,h2⟩:=e;obtain⟨_,j,r,o,l,m,n,p⟩:=(show Bz P w H h a (.tup [.ref b, .int k.2]) from ok a _ h1);cases r with
 | cons r1 r=>
 cases r with
 | cons r2 r=>
 cases r;cases r1;obtain⟨u,rfl⟩:=r2;have two:∀{g:km kj},Au [.int k.1.1, .int k.1.2] g->ItemsAre (intKind P w) [k.1.1,k.1.2] g:=λhv=>by
  cases hv with
  | cons s hv=>
  cases hv with
  | cons t hv=> cases hv;obtain⟨C,rfl⟩:=s;obtain⟨D,rfl⟩:=t;exact .cons (by simp[intKind,Value.isInt]) (.cons (by simp[intKind,Value.isInt]) .nil)
 refine⟨o,_,n,b,u,l,m,p,!2, ?_⟩;rcases h2 with h2|⟨i,c,f,v,x,y,z⟩
 .obtain ⟨_,c,r2,A,f1,f2,f,B⟩:=(show Bz P w H h b (.tup [.int k.1.1, .int k.1.2]) from ok b _ h2);exact⟨A,c.toArray,f,f1,f2,B,by simpa using two r2⟩
 .exact ⟨i,c,f,d b i v,x,y,two z⟩
def Qo (ok:IU P w H h)(b:K.In h)(e:H a=some (.dN K kvs)):kvs.length<=sizeLine/\(a==sysModules)=false/\∃xs,KN K H kvs xs/\h.DictOfH (fkKind P w) a xs:=by
 obtain⟨z,y,xs,r,o,es,ep,h1,h2,h3,c,d⟩:=(show Bz P w H h a (.dN K kvs) from ok a _ e);refine⟨z,y,xs,r,o,es,ep,h1,h2,h3,c,λx hx=> ?_,d⟩;have all:∀{l:km (FK×V)} {m:km (FK×kf×kj)},KN K H l m->∀x∈m,(fkKind P w).is h x.1 x.2.1:=by
  intro l m q;induction q with
  | nil=>intro x hx;exact nomatch hx
  | @cons p q ps qs hq t ih=>
    intro x hx;rcases AAO.mp hx with e|hx
    .subst e;exact Jw ok b (by rw[<-hq.1];exact hq.2.1)
    .exact ih x hx
 exact all r x hx
end
section
variable {X:Cx}{Sr:km (kf×Obj)}{σ:St}{H:Hp}{s:ki}{a b:kf}{v d:V}{r:kj}{kvs:km (FK×V)}{k:FK}{A:Tb}{E:kj->ki->Prop}
def cE {Q:kj->ki->Prop}(hu:A.units+2<cLine)(I:Inv X Sr σ H s)(e:H a=some (.dN X.K kvs))(hb:GL X.K H b k)(l:EZ kvs k=some v)(h:∀c i,Inv X Sr σ H i->RelV v c->Q c i):wpAny (model X.prog X.w) A (getItem (.ref a) (.ref b)) Q E s:=by obtain⟨z,hd,xs,f,j⟩:=Qo I.hok I.kIn e;obtain⟨c,hw,g⟩:=Ja.some_of (v:=v) (o:=(atKey xs k).map (·.2)) (by rw[<-l];exact f.val k);obtain⟨p,hp,m⟩:=ADL.mp hw;refine wpAny_getItem_heap (DM hu) (Jw I.hok I.kIn hb) j hp ?_;rw[m];exact h c _ (I.tok _) g
def yo {Q:kj->ki->Prop}(hu:A.units+2<cLine)(I:Inv X Sr σ H s)(e:H a=some (.dN X.K kvs))(hb:GL X.K H b k)(h:∀f,Inv X Sr σ H f->Q (.bool (EZ kvs k).isSome) f):wpAny (model X.prog X.w) A (compareOp .In (.ref b) (.ref a)) Q E s:=by obtain⟨z,hd,xs,c,g⟩:=Qo I.hok I.kIn e;refine wpAny_in_heap (DM hu) (Jw I.hok I.kIn hb) hd g ?_;have q:=(c.val k).isSome_eq;rw[AEl] at q;rw[<-q];exact h _ (I.tok _)
def cF {Q:Unit->ki->Prop}(hu:A.units+2<cLine)(I:Inv X Sr σ H s)(e:H a=some (.dN X.K kvs))(hb:GL X.K H b k)(hl:kvs.length<sizeLine)(rv:RelV v r)(h:∀i,Inv X Sr σ (upd H a (.dN X.K (EA kvs k v))) i->Q () i):wpAny (model X.prog X.w) A (setItem (.ref a) (.ref b) r) Q E s:=by
 obtain⟨z,hd,xs,f,l⟩:=Qo I.hok I.kIn e;have hz:xs.length<=sizeLine:=by rw[<-AEQ f];exact z
 have hl:(EA kvs k v).length<=sizeLine:=by have:=EM kvs k v;omega
 refine wpAny_setItem_heap (hsz:=hz) (DM hu) (Jw I.hok I.kIn hb) l λh' g hs=>h _ ?_;obtain⟨q,es,ep,hq,h2,h3,m,_,n⟩:=g;refine Hl I (by rw[e];exact True.intro) hs ⟨q,hq⟩ ⟨hl,hd,_,(f.put k hb rv).keeps λc ys j=> ?_,q,es,ep,hq,h2,h3,m,n⟩;rw[Ae (nY j e (λz=>nomatch z))];exact j
def qK {Q:kj->ki->Prop}(hu:A.units+2<cLine)(I:Inv X Sr σ H s)(e:H a=some (.dN X.K kvs))(hb:GL X.K H b k)(j:RelV d r)(h:∀f g,Inv X Sr σ H g->RelV ((EZ kvs k).getD d) f->Q f g):wpAny (model X.prog X.w) A (call (.builtin "dict.get") [.ref a, .ref b,r]) Q E s:=by obtain⟨z,hd,xs,c,i⟩:=Qo I.hok I.kIn e;refine AEm AEn i.typeIs AF4 (AF5 _ _ _) (meetsH_dict_get_default (fkKind X.prog X.w) a b hd r) ⟨DM hu,k,xs,Jw I.hok I.kIn hb,i,h _ _ (I.tok _) ?_⟩;exact(c.val k).getD j
end
def oF (K:AAJ):TE:=λ_ H Q=>∀p,H p=none->Q (.ref p) (upd H p (.dN K []))
def wH (K:AAJ)(e f:TE):TE:=λd H Q=>e d H λx H1=>f d H1 λy c=>∃a b kvs k v,x= .ref a/\y= .ref b/\c a=some (.dN K kvs)/\GL K c b k/\EZ kvs k=some v/\Q v c
def wI (K:AAJ)(e f:TE):TE:=λd H Q=>e d H λy H1=>f d H1 λx c=>∃a b kvs k,x= .ref a/\y= .ref b/\c a=some (.dN K kvs)/\GL K c b k/\Q (.bl (EZ kvs k).isSome) c
def iL (K:AAJ)(e f g:TE):TS:=λD c H=>g c H λv H1=>e c H1 λx h=>f c h λy d=>∃a b kvs k,x= .ref a/\y= .ref b/\d a=some (.dN K kvs)/\GL K d b k/\kvs.length<sizeLine/\D.nx c (upd d a (.dN K (EA kvs k v)))
def YZ (K:AAJ)(e f g:TE):TE:=λc H Q=>e c H λx H1=>∃a kvs,x= .ref a/\H1 a=some (.dN K kvs)/\f c H1 λy h=>g c h λz d=>∃b kvs k,y= .ref b/\d a=some (.dN K kvs)/\GL K d b k/\Q ((EZ kvs k).getD z) d
section
variable {X:Cx}{o i e f value:kd}{pos pos' apos cpos:Pos}{td ty tv tx:TE}
def fL {K:AAJ}(h:Wf)(hb:sysModules<h.objs.size):Bz P w H (h.push {cls:= .type "dict",data:= .dict #[] }) h.objs.size (.dN K []):=
 ⟨ACB _,AEP.mpr (AA6 (AAQ hb)), [], .nil,_, #[],0,AAV _ rfl,⟨rfl,rfl,rfl⟩,rfl,rfl,List.nodup_nil⟩
def lQ:PE X (.Dict [] [] pos) (oF X.K):=λSr s b H Q I h=>
 wpAny_Dict_empty ⟨.ref s.heap.objs.size,_,I.laid (a:=s.heap.objs.size) (o:= .dN X.K []) (t':=s.toks) (λ_ _ q=>AAP _ q) (AAR _) (fL s.heap I.big),rfl,h _ (I.hok.fresh (AAR _))⟩
def nM {H:Hp}(I:Inv X Sr g H s)(e:H a=some (.dN X.K kvs)):s.TypeIs (.ref a) "dict" /\(∀b,Value.ref a= .ref b->∃c,s.heap.get? b=some c/\c.dict=none):=by obtain⟨_,hd,xs,_,d⟩:=Qo I.hok I.kIn e;refine⟨d.typeIs,λb q=> ?_⟩;cases q;obtain⟨c,_,_,h1,h2,_⟩:=d;exact⟨c,h1,h2.2.1⟩
def lP (hu:X.A.units+2<cLine)(j:PE X o td)(hi:PE X i ty)(hs:eB i):PE X (.Subscript o i pos) (wH X.K td ty):=by intro Sr s d H Q I h;refine Z8 AGY.lookup hs (BA (j Sr s d H _ I h) λu m ⟨x,H1,n,p,r⟩=>BA (hi Sr m d H1 _ n r) λt E ⟨y,w,g,z,a,b,kvs,k,v,ex,B,e,hb,l,C⟩=> ?_);subst ex B;obtain rfl:u=Value.ref a:=p;obtain rfl:t=Value.ref b:=z;exact⟨(nM g e).1,cE hu g e hb l λF G D c=>⟨v,w,D,c,C⟩⟩
def qZ (hu:X.A.units+2<cLine)(hi:PE X i ty)(d:PE X o td):PC X .In i o (wI X.K ty td):=by intro Sr s c H Q I h;refine BA (hi Sr s c H _ I h) λg j ⟨y,H1,l,m,n⟩=>BA (d Sr j c H1 _ l n) λu B ⟨x,p,r,t,a,b,kvs,k,ex,v,e,hb,w⟩=> ?_;subst ex v;obtain rfl:u=Value.ref a:=t;obtain rfl:g=Value.ref b:=m;exact yo hu r e hb λC z=>⟨.bl _,p,z,rfl,w⟩
def Zl (hu:X.A.units+2<cLine)(d:PE X o td)(hi:PE X i ty)(hv:PE X value tv)(hs:swapsWith value (some (.Subscript o i pos')) pos.line X.env=pure false):PS X (.Assign [.Subscript o i pos'] value pos) (iL X.K td ty tv):=by intro Sr s c H D I h;refine wpAny_Assign_Subscript (BA (hv Sr s c H _ I h) λr g ⟨v,H1,j,rv,l⟩=>BA (d Sr g c H1 _ j l) λu m ⟨x,n,p,t,w⟩=>BA (hi Sr m c n _ p w) λz J ⟨y,L,B,C,a,b,kvs,k,ex,E,e,hb,hl,F⟩=> ?_) hs;subst ex E;obtain rfl:u=Value.ref a:=t;obtain rfl:z=Value.ref b:=C;exact cF hu B e hb hl rv λM G=>⟨c,_,G,F⟩
def Vv (hu:X.A.units+2<cLine)(l:PE X o td)(he:PE X e ty)(n:PE X f tx)(m:M2 X o "get" apos e f cpos):PE X (.Call (.Attribute o "get" apos) [e,f] [] cpos) (YZ X.K td ty tx):=by
 intro Sr s c H Q I h;refine AFM m.base m.few m.line AFN AEn AGZ (BA (l Sr s c H _ I h) λu p ⟨x,H1,g,r,a,j,ex,t,v⟩=> ?_);subst ex;obtain rfl:u=Value.ref a:=r;obtain⟨t1,t2⟩:=nM g t;refine⟨t1,t2, ?_⟩;rw[m.trees];refine AEa rfl (AFr (AET (BA (he Sr p c H1 _ g v) λw B ⟨y,C,D,E,F⟩=>
  AET (BA (n Sr B c C _ D F) λP R ⟨z,G,J,L,b,kvs,k,M,e,hb,N⟩=>AFj ?_))))
 subst M;obtain rfl:w=Value.ref b:=E;exact qK hu J e hb L λS T O d=>⟨_,G,O,d,N⟩
end
end L2
namespace PySem
open Sem (wp)
def Kq (h:Wf)(d:kf)(es:Array DictEntry)(ep:Nat):Prop:=∃o,h.get? d=some o/\o.ExactDict/\o.data= .dict es ep
section
variable {prog:gn}{w:fe}{A:Tb}{E:kj->ki->Prop}{s:ki}{d it:kf}{es:Array DictEntry}{ep i:Nat}
def Kq.typeIs (x:Kq s.heap d es ep):s.TypeIs (.ref d) "dict" :=let ⟨o,a,hc,_⟩:=x;⟨o,a,hc.1⟩
def Kq.at {h':Wf}(x:Kq h d es ep)(e:∀o,h.get? d=some o->h'.get? d=some o):Kq h' d es ep:=let ⟨o,a,r⟩:=x;⟨o,e _ a,r⟩
def iF {Q:kj->ki->Prop}(hd:(d==sysModules)=false)(b:Kq s.heap d es ep)(hQ:Q (.ref s.heap.objs.size) {s with heap:=s.heap.push {cls:= .type "dict_keyiterator",data:= .fields #[.ref d, .int 0 0, .int es.size 0, .int ep 0] }}):wpAny (model prog w) A (pyIter (.ref d)) Q E s:=by have a:=b.typeIs;obtain⟨o,c,hc,e⟩:=b;refine wpAny_pyIter_slot a F.slot_dict_iter (AB7 F.slot_dict_iter a F.entry_dict_iter ?_ (F.args_dict_iter_1 _));unfold Builtin.«dict.__iter__»;refine AAI ?_;unfold Builtin.Dict.dictSlotNone;refine AAI (wpAny_notOrdered_dict a (AAK ?_));show wpAny _ _ (Builtin.Dict.showsAll d >>= _) _ _ s;unfold Builtin.Dict.showsAll;rw[AAL (by rw[hd];exact AAY)];refine AAI (AAK (AAI (AF6 c e (AAI (AF7 c e ?_)))));exact AAI (AB9 (AAK ⟨_,rfl,"dict_keyiterator",_,⟨_,AAV _ rfl,rfl⟩,AEo.lookup,by simpa[rawInt] using hQ⟩))
def iG {Q:ke kj->ki->Prop}(a:s.heap.IsKeyIter it d i es.size ep)(h:Kq s.heap d es ep)(j:i<es.size)(hQ:∀h',h'.IsKeyIter it d (i+1) es.size ep->Heap.SameBut it s.heap h'->Q (some es[i].key) {s with heap:=h'}):wpAny (model prog w) A (pyNext (.ref it)) Q E s:=by
 have b:=a.typeIs;obtain⟨o,c,hc,hd⟩:=a;obtain⟨k,e,l,f⟩:=h;unfold pyNext;refine AAI (ADs (ACe (name:=Str.ofString "__next__") b AEo (AB7 AEo b AGa ?_ (AGb _))));refine AAI (AAK (AAI (AAI ?_)));refine AAI (AFO b (AAK (AAI (wpAny_fieldsOf c hd ?_))));simp only[show Builtin.Dict_items.ownsTuple "dict_keyiterator" =false by decide,AA4,AAn];show wpAny _ _ (if (Value.ref d==Value.none)=true then _ else _) _ _ s;rw[AAL (show ¬((Value.ref d==Value.none)=true) from AAY)];refine AAI (AAK (AAI (AF6 e f ?_)));rw[AAL (!2)];refine AAI (AAK (AAI (AF7 e f ?_)));rw[AAL (!2)];refine AAK ?_;simp only[show ¬((i:Int)<0) from by omega,AAn,ADj,AGc j];refine AAI ?_;refine AAI (AFO b (AAK (AAI (wpAny_isOneOf_keyiter b ?_))));show wpAny _ _ (setField (.ref it) 1 (rawInt ((i:Int)+1)) >>= _) _ _ s;refine AAI (AE6 c hd (!2) ?_);have g:(s.heap.update it (Obj.mapFields (·.setIfInBounds 1 (rawInt ((i:Int)+1))))).IsKeyIter it d (i+1) es.size ep:=
  ⟨_,ACj _ c (Obj.isFreed_of_fields (AE7 hd _)),(Obj.cls_mapFields ..).trans hc,by rw[AE7 hd];simp[rawInt]⟩
 refine AAI (AAp (AAI (wpAny_isOneOf_keyiter (s:={s with heap:=s.heap.update it (Obj.mapFields (·.setIfInBounds 1 (rawInt ((i:Int)+1))))}) g.typeIs ?_)));show wpAny _ _ (pure es[i].key) _ _ _;exact AAK (AAK ⟨_,rfl,AAK (hQ _ g (AEd ..))⟩)
def ly {Q:ke kj->ki->Prop}(j:A.handled=none)(c:s.heap.IsKeyIter it d es.size es.size ep)(k:Kq s.heap d es ep)(hQ:∀h',Heap.ExtBut it s.heap h'->Q none {s with heap:=h'}):wpAny (model prog w) A (pyNext (.ref it)) Q E s:=by have e:=c.typeIs;obtain⟨o,f,hc,hd⟩:=c;obtain⟨l,g,n,h⟩:=k;unfold pyNext;refine AAI (ADs (ACe (name:=Str.ofString "__next__") e AEo (AB7 AEo e AGa ?_ (AGb _))));refine AAI (AAK (AAI (AAI ?_)));refine AAI (AFO e (AAK (AAI (wpAny_fieldsOf f hd ?_))));simp only[show Builtin.Dict_items.ownsTuple "dict_keyiterator" =false by decide,AA4,AAn];show wpAny _ _ (if (Value.ref d==Value.none)=true then _ else _) _ _ s;rw[AAL (show ¬((Value.ref d==Value.none)=true) from AAY)];refine AAI (AAK (AAI (AF6 g h ?_)));rw[AAL (!2)];refine AAI (AAK (AAI (AF7 g h ?_)));rw[AAL (!2)];refine AAK ?_;simp only[show ¬((es.size:Int)<0) from by omega,AAn,ADj,Array.getElem?_eq_none (AAR es.size)];refine AAI ?_;refine AAI (AFO e (AAK ?_));show wpAny _ _ (setField (.ref it) 0 .none >>= _) _ _ s;refine AAI (AE6 f hd (!2) ?_);show wpAny _ _ (newExc (.type "StopIteration") [] >>= _) _ _ _;refine AAI ?_;simp only[newExc,newTuple];refine AAI (AB9 ?_ (by size_fits));refine AAI (m:=firstArgMember _ _) (ADB (a:=Value.none) (by first | rfl|(simp only[firstArgMember];rfl)) (AB9 ?_ (by size_fits)));simp only[raiseNew];refine AAI (wpAny_handled ?_);rw[show A.in1.handled=none from j];refine AAI (AAK (wpAny_throw ?_));refine AAI (AC6 (T:="StopIteration") (b:=true) ⟨_,AAV _ rfl,rfl⟩ isSubtype_stop ?_);exact AAK (hQ _ (((AEd ..).extBut.push _).push _))
def dH (f:A.handled=none)(g:d≠it):Walks prog w A it [it,d] [it] es.size (λi v=>∃e,es[i]? =some e/\v=e.key) (λi h=>h.IsKeyIter it d i es.size ep/\Kq h d es ep) where
 sub:=λb hb=>by simp at hb;simp[hb]
 frame:=λ_ _ _ st hk=>⟨st.1.at λo e=>hk it (!2) o e,st.2.at λo e=>hk d (!2) o e⟩
 item:=λi s Q E hi st hQ=>iG st.1 st.2 hi λh' j c=>
  hQ _ h' s.toks ⟨es[i],by simp[hi],rfl⟩ ⟨j,st.2.at λo e=>c.extBut d o g e⟩ λb o hb e=>c.extBut b o (λh=>hb (by simp[h])) e
 done:=λs Q E st hQ=>ly f st.1 st.2 λh' a=>hQ h' s.toks λb o hb e=>a b o (λh=>hb (by simp[h])) e
 self:=λ_ _ _ _ st hQ=>wpAny_pyIter_keyiter st.1 hQ
end
def iE {prog:gn}{s:ki}{ep:Nat}{Q:kc->ki->Prop}(b:Kq s.heap d es ep)(h:Q false s):wpAny (model prog w) A (Builtin.List.listLengthHint (.ref d)) Q E s:=by
 have a:=b.typeIs;unfold Builtin.List.listLengthHint;refine AAI (AC4 a F.slot_dict_len.lookup ?_);have hs:splitId "dict.__len__" =some ("dict","__len__"):=!4
 simp only[hs];refine AAI (AC6 a (by rw[isSubtype_type];kernel_rfl:isSubtype (.type "dict") (.type "dict")=pure true) ?_);simp only[ACb,AA4,AAn];rw[AAM (!4)];refine AAI (AEY a ?_);exact AAK h
section
variable {prog:gn}{w:fe}{A:Tb}{s:ki}{R:Result->ki->Prop}{d:kf}{es:Array DictEntry}{ep:Nat}
def X7 (J:A.handled=none)(S:kf)(res:kj)(h:Nat)(hd:(d==sysModules)=false)(r:Kq s.heap d es ep)(K:es.size<=sizeLine)(t:d≠S)(D:s.heap.get? S=some {cls:= .type "list",data:= .seq #[] h})(L:∀h' M a l,(∀b o,b≠S->s.heap.get? b=some o->h'.get? b=some o)->h'.get? S=some {cls:= .type "list",dict:=none,data:= .seq a l,slots:= #[] }->ItemsOf (λi v=>∃e,es[i]? =some e/\v=e.key) a es.size->R (.ok (.ret res)) {s with heap:=h',toks:=M}):wpAny (model prog w) A.in1 (Builtin.List.listExtendWith (.ref S) (.ref d) res) (λu c=>match u with | .done f=>R (.ok f) c | .again l=>l.quiet=true/\codeAny (model prog w) A l R c) (λe c=>R (.error e) c) s:=by
 have N:=r.typeIs;unfold Builtin.List.listExtendWith;refine AAI (AEY N ?_);have h1:Builtin.List.listSameRef (.ref S) (.ref d)=false:=by simp[Builtin.List.listSameRef,AA6 t]
 have h2:(Value.type "dict" == Value.type "list")=false:=!1
 have h3:(Value.type "dict" == Value.type "tuple")=false:=!1
 simp only[h1,h2,h3,Bool.or_false,AA4,AAn];refine AAI (iF hd r ?_);have O:d<s.heap.objs.size:=let ⟨o,P,_⟩:=r;AAN P;have x:S<s.heap.objs.size:=AAN D;have y:Kq (s.heap.push {cls:= .type "dict_keyiterator",data:= .fields #[.ref d, .int 0 0, .int es.size 0, .int ep 0] }) d es ep:=r.at λo e=>AAP _ e;refine AAI (AAp (iE (s:={s with heap:=s.heap.push {cls:= .type "dict_keyiterator",data:= .fields #[.ref d, .int 0 0, .int es.size 0, .int ep 0] }}) y ?_));generalize z:({cls:= .type "dict_keyiterator",data:= .fields #[.ref d, .int 0 0, .int es.size 0, .int ep 0] }:Obj)=io at y ⊢;have m:(s.heap.push io).get? S=some {cls:= .type "list",data:= .seq #[] h}:=AAP _ D;have B:(s.heap.push io).get? s.heap.objs.size=some io:=AAV _ (by rw[<-z];rfl);have n:S≠s.heap.objs.size:=AAQ x;rw[AAM (!4)];refine AAI (ACK (AAI ?_));show wpAny _ A.in1 (updateSeq S (·.push .none) >>= λ_=>updateSeq S (·.pop)) _ _ _;refine AAI (AFL (s:={s with heap:=s.heap.push io}) m rfl ?_);have g:=ACj (Obj.mapSeq (·.push Value.none)) m rfl;refine AFL (hz:=by seq_fits) g rfl ?_;have j:=ACj (Obj.mapSeq (·.pop)) g rfl;have k:∀b o,b≠S->(s.heap.push io).get? b=some o->(((s.heap.push io).update S (Obj.mapSeq (·.push Value.none))).update S (Obj.mapSeq (·.pop))).get? b=some o:=
  λb o hb e=>(AEZ _ _ (AA6 hb)).trans ((AEZ _ _ (AA6 hb)).trans e)
 have W:=(dH (prog:=prog) (w:=w) (A:=A.in1) (d:=d) (it:=s.heap.objs.size) (es:=es) (ep:=ep) J (AAQ O)).toS;refine AAK ⟨plainId_quiet F.plain_extend_loop _,codeAny_extend_loopS W K S ?_ res es.size 0 _ _ _ rfl (ACB _) ⟨⟨io,k _ _ (AA6 n) B,by rw[<-z],by rw[<-z];rfl⟩,y.at λo e=>k _ _ t e⟩ j (ItemsOf.nil _) λc a l C Q T=> ?_⟩
 .intro p;simp only[AAO,AA8,ABA] at p;rcases p with e|e
  .exact n e
  .exact t e.symm
 .obtain ⟨U,E,G,H,X⟩:=C;have e:c={s with heap:=c.heap,toks:=c.toks}:=by obtain⟨Y,Z,a3,a4,a5⟩:=c;simp only at E G H;subst E;subst G;subst H;rfl
  rw[e];refine L c.heap c.toks a l (λb o hb I=>U b o ?_ (k b o hb (AAP _ I))) Q T;intro p;simp only[AAO,AA8,ABA] at p;rcases p with e|e
  .exact hb e
  .exact AAQ (AAN I) e
end
section
variable {prog:gn}{w:fe}{A:Tb}{E:kj->ki->Prop}{s:ki}{d:kf}{es:Array DictEntry}{ep:Nat}
def Po {Q:kj->ki->Prop}(t:A.handled=none)(hd:(d==sysModules)=false)(p:Kq s.heap d es ep)(u:es.size<=sizeLine)(hQ:∀h' k l,(∀b o,s.heap.get? b=some o->h'.get? b=some o)->h'.get? s.heap.objs.size=some {cls:= .type "list",dict:=none,data:= .seq (es.map (·.key)) l,slots:= #[] }->Q (.ref s.heap.objs.size) {s with heap:=h',toks:=k}):wpAny (model prog w) A (call (.type "list") [.ref d]) Q E s:=by
 have v:d<s.heap.objs.size:=let ⟨o,x,_⟩:=p;AAN x;refine callType_codes (Q₁:=λobj c=>obj= .ref s.heap.objs.size/\c={s with heap:=s.heap.push {cls:= .type "list",data:= .seq #[] }}) F.called_list (F.typeCall_list_1 _) F.entry_list_init (code_list_new _ ⟨rfl,rfl⟩) λobj c g=> ?_;obtain⟨rfl,rfl⟩:=g;have j:(s.heap.push {cls:= .type "list",data:= .seq #[] }).get? s.heap.objs.size=some {cls:= .type "list",data:= .seq #[] }:=AAV _ rfl;refine⟨⟨_,j,rfl⟩,F.args_list_init_2 _ _, ?_⟩;show wpAny _ A.in1.in1 (do let m <-Builtin.List.listItems (.ref s.heap.objs.size);Builtin.List.listUpdate (.ref s.heap.objs.size) (λ_=> #[]);letGo m.toList.reverse;Builtin.List.listExtendWith (.ref s.heap.objs.size) (.ref d) .none) _ _ _;refine AAI ?_;unfold Builtin.List.listItems;refine AAI (AA5 j rfl (AAK ?_));refine AAI (AFL j rfl ?_);have f:=ACj (Obj.mapSeq (λ_=>(#[] :Array kj))) j rfl;refine AAI (ADY ?_);have h:∀b o,s.heap.get? b=some o->((s.heap.push {cls:= .type "list",data:= .seq #[] }).update s.heap.objs.size (Obj.mapSeq (λ_=>(#[] :Array kj)))).get? b=some o:=λb o e=>by have hb:b≠s.heap.objs.size:=λz=>ACd _ (z ▸ AAN e);exact(AEZ _ _ (AA6 hb)).trans (AAP _ e)
 refine X7 (s:={s with heap:=(s.heap.push {cls:= .type "list",data:= .seq #[] }).update s.heap.objs.size (Obj.mapSeq (λ_=>(#[] :Array kj)))}) (d:=d) (es:=es) (ep:=ep) (A:=A.in1) t s.heap.objs.size .none _ hd (p.at λo e=>h d o e) u (AAQ v) f ?_;intro h' k a l y B C;refine⟨rfl,hQ h' k l (λb o e=>y b o (λz=>ACd _ (z ▸ AAN e)) (h b o e)) ?_⟩;have D:a=es.map (·.key):=by
  obtain⟨h1,h2⟩:=C;refine Array.ext (by simp[h1]) λi hi hj=> ?_;obtain⟨e,r,G⟩:=h2 i _ (by simp[hi] :a[i]? =some a[i]);have n:i<es.size:=↑hj
  rw[AGc n] at r;cases r;rw[G];simp
 rw[<-D];exact B
end
end PySem
namespace L2
open PySem PySem.Spec PyProof.Rows
section
variable {X:Cx}
def qu (K:AAJ):km V->Hp->VK->Prop:=λxs H Q=>∃p kvs,xs= [.ref p] /\H p=some (.dN K kvs)/\∀l cs,H l=none->Paired (λ(q:FK×V) (c:kf)=>GL K H c q.1) kvs cs->Q (.ref l) (upd H l (.lst (cs.map V.ref)))
def Wy {k:Nat}(g:Room k X.A):C8 X (.type "list") (qu X.K):=by
 intro Sr s y H xs B Q I r h;obtain⟨p,kvs,rfl,hp,q⟩:=h;obtain⟨u,rfl,i⟩:=vals1 r;cases i;obtain⟨z,hd,ys,b,o,es,ep,h1,h2,h3,d,j,m⟩:=Qo I.hok I.kIn hp;have hl:ys.length=kvs.length:=(AEQ b).symm;have c:es.size=ys.length:=by rw[<-AC5,d,AAT]
 refine Po (es:=es) (ep:=ep) g.hd hd ⟨o,h1,h2,h3⟩ (by rw[c,hl];exact z) λh' n v x e=> ?_;have f:es.map (·.key)=((ys.map (·.2.1)).map Value.ref).toArray:=by apply Array.ext';rw[Array.toList_map,d];simp[entryOfKey]
 rw[f] at e;have hv:∀l:km kf,Au (l.map V.ref) (l.map Value.ref):=λl=>by
  induction l with
  | nil=>exact .nil
  | cons a l ih=>exact .cons rfl ih
 refine⟨.ref s.heap.objs.size,_,I.laid (t':=n) x (AAR _) (show Bz X.prog X.w _ h' _ (.lst ((ys.map (·.2.1)).map V.ref)) from⟨by simp only[AAT];rw[hl];exact z,_,v,hv _,e⟩),rfl,q _ _ (I.hok.fresh (AAR _)) ?_⟩;clear q e f d m j c hl z hp;induction b with
 | nil=>exact .nil
 | cons h t ih=>exact .cons h.2.1 ih
end
end L2
namespace PL
open PySem PySem.Spec PyProof.Rows L2
noncomputable def XY (k:FK):PV:= .tup [.tup [.int k.1.1, .int k.1.2], .int k.2]
noncomputable def BH (kvs:km (FK×Int))(k:FK):ke Int:=(kvs.find? λp=>decide (p.1=k)).map (·.2)
def Yj (kvs:km (FK×Int))(k:FK):EZ (B7 kvs) k=(BH kvs k).map V.int:=by
 induction kvs with
 | nil=>rfl
 | cons p r ih=>
   by_cases e:p.1=k
   .simp [BH,B7,EZ,e]
   .simpa [BH,B7,EZ,e] using ih
section
variable {K:AAJ}{T M:kf->Prop}{H:Hp}
def Mn {t d:Int}(r:B8 K T M H v (.tup [.int t, .int d])):∃b,v= .ref b/\eS K H b t d:=by
 obtain⟨a,vs,rfl,hq,c⟩:=ic r;cases c with
 | cons r1 c=>
 cases c with
 | cons r2 c=>
 cases c;cases r1;cases r2;refine⟨a,rfl, ?_⟩;rcases hq with h|⟨o,e,n,h1,h2,h3,_,f⟩
 .exact .inl h
 .exact .inr ⟨o,e,n,h1,h2,h3,f⟩
def iI {t:Int}(h:eS K H b t d):B8 K T M H (.ref b) (.tup [.int t, .int d]):=by
 refine .tup (vs:= [.int t, .int d]) ?_ (.cons (.int _) (.cons (.int _) .nil));rcases h with h|⟨o,a,n,h1,h2,h3,c⟩
 .exact .inl h
 .refine .inr ⟨o,a,n,h1,h2,h3, ?_,c⟩;have:=c.length;simp only[AAk,AEk,AC5] at this;rw[<-this];exact ACC rfl
def iH {k:FK}(h:GL K H c k):B8 K T M H (.ref c) (XY k):=by obtain⟨b,h1,h2⟩:=h;exact .tup (.inl h1) (.cons (iI h2) (.cons (.int _) .nil))
end
section
variable {X:Cx}{a b d:kd}{pos p1:Pos}{ta tb td:AE}
def OM (x y:PV)(R:FK->Prop):Prop:=match x,y with | .tup [.int t, .int e], .int s=>R ((t,e),s)|_,_=>False
def Vr {y:PV}{R:FK->Prop}(h:OM x y R):∃t e s,x= .tup [.int t, .int e] /\y= .int s/\R ((t,e),s):=by
 unfold OM at h;split at h
 .exact ⟨_,_,_,rfl,rfl,h⟩
 .exact h.elim
def sj (m:PV)(R:km (FK×Int)->Prop):Prop:=match m with | .dct kvs=>R kvs|_=>False
def gZ {R:km (FK×Int)->Prop}(h:sj m R):∃kvs,m= .dct kvs/\R kvs:=by cases m <;> first | exact⟨_,rfl,h⟩|exact h.elim
def jn (ta tb td:AE):AE:=λτ Q=>ta τ λx=>tb τ λy=>td τ λm=>sj m λkvs=>OM x y λk=>Q (.bl (BH kvs k).isSome)
def eh (td ta tb:AE):AE:=λτ Q=>td τ λm=>ta τ λx=>tb τ λy=>sj m λkvs=>OM x y λk=>match BH kvs k with | some i=>Q (.int i)|none=>False
def VR {K:AAJ}{T:kf->Prop}{H:Hp}{q:kf}(c:SR K B T H f τ)(hq:H q=none):Cq T H T (upd H q (.tup vs))/\¬T q:=by refine⟨Cq.lay c.tp hq,λz=> ?_⟩;obtain⟨o,e,_⟩:=(c.tp q z).mut;rw[hq] at e;cases e
def mN (A:Gr X.K t1 ta)(C:Gr X.K t2 tb)(D:Gr X.K r td):Gr X.K (wI X.K (mX (Oy t1 (Oy t2 mV))) r) (jn ta tb td):=by
 intro B T p τ H Q P z h k;refine A B T p τ H _ _ z h λv x T1 H1 n r1 h1=> ?_;have f:=z.stp n;refine C B T1 p τ H1 _ _ f h1 λw y E R g r2 h2=> ?_;have i:=f.stp g;refine⟨ACC rfl,λq hq=> ?_⟩;obtain⟨j,F⟩:=VR (vs:= [v,w]) i hq;have o:=i.stp j;refine D B E p τ _ _ _ o h2 λu m G I l J L=> ?_;obtain⟨kvs,rfl,M⟩:=gZ L;obtain⟨t,e,s,rfl,rfl,N⟩:=Vr M;have rv:=((r1.stp g f.va).stp j i.va).stp l o.va;obtain⟨c,rfl,tn⟩:=Mn rv;cases r2;cases J with
 | dct O _ _=> refine⟨_,q,_,((t,e),s),rfl,rfl,O,⟨c,l.keep _ _ F Ad,tn⟩, ?_⟩;rw[Yj,AEl];exact k _ _ G I (((n.trans g).trans j).trans l) (.bl _) N
def rX {k:Nat}(e:Room k X.A)(ha:SE X a ta)(hb:SE X b tb)(hd:SE X d td)(f:behindInMarks .In d=false:=by rfl)(g:starEach (a :: [b]) X.env=(false,eval a X.env)::starEach [b] X.env:=by rfl)(h:starEach [b] X.env=(false,eval b X.env)::starEach [] X.env:=by rfl):Um X (.Compare (.Tuple [a,b] c p1) [.In] [d] pos) (As (jn ta tb td)):=by obtain⟨t1,i,j⟩:=ha;obtain⟨t2,l,m⟩:=hb;obtain⟨p,n,o⟩:=hd;exact⟨_,qk (qZ (by have:=e.un;omega) (OP (Bj i (Bj l D9 h) g)) n) f,Tu (mN j m o)⟩
def mC {k:Nat}(E:Room k X.A)(hd:SE X d td)(ha:SE X a ta)(hb:SE X b tb)(hs:eB (.Tuple [a,b] C p1))(F:starEach (a :: [b]) X.env=(false,eval a X.env)::starEach [b] X.env:=by rfl)(G:starEach [b] X.env=(false,eval b X.env)::starEach [] X.env:=by rfl):SE X (.Subscript d (.Tuple [a,b] C p1) pos) (eh td ta tb):=by
 obtain⟨t1,I,J⟩:=ha;obtain⟨t2,K,L⟩:=hb;obtain⟨t3,M,N⟩:=hd;refine⟨_,lP (by have:=E.un;omega) M (OP (Bj I (Bj K D9 G) F)) hs,λB T z τ H Q AQ D h k=> ?_⟩;refine N B T z τ H _ _ D h λu m O P p R S=> ?_;have j:=D.stp p;refine J B O z τ P _ _ j S λv x T1 H1 l r1 h1=> ?_;have f:=j.stp l;refine L B T1 z τ H1 _ _ f h1 λw y U H2 g r2 h2=> ?_;have n:=f.stp g;refine⟨ACC rfl,λq hq=> ?_⟩;obtain⟨o,nt⟩:=VR (vs:= [v,w]) n hq;obtain⟨kvs,rfl,W⟩:=gZ h2;obtain⟨t,e,s,rfl,rfl,r⟩:=Vr W;have rv:=(r1.stp g f.va).stp o n.va;have Y:=((R.stp l j.va).stp g f.va).stp o n.va;obtain⟨c,rfl,tn⟩:=Mn rv;cases r2;cases ev:BH kvs ((t,e),s) with
 | none=>rw[ev] at r;exact r.elim
 | some i=>
   rw[ev] at r;cases Y with
   | dct Z _ _=> exact⟨_,q,_,((t,e),s), .int i,rfl,rfl,Z,⟨c,Ad,tn⟩,by rw[Yj,ev];rfl,k _ _ U _ (((p.trans l).trans g).trans o) (.int _) r⟩
def Wu (r:AA):AA:=λτ Q=>r τ λxs=>match xs with | [.dct kvs] =>Q (kvs.map λp=>XY p.1)|_=>False
def iV {e:kd}{es:km kd}{k:Nat}(u:Room k X.A)(v:Gl X x)(w:X.mg x=none)(hv:bootBuiltins x=some (.type "list"))(ha:SA X (e::es) r)(y:x≠"__name__" :=by decide)(hdb:(x==("__debug__" :Str))=false:=by decide)(he:starEach (e::es) X.env=(false,eval e X.env)::starEach es X.env:=by rfl)(hpl:(backTo pos (starEach es X.env)).any (·.1)=false:=by rfl):SF X (.Call (.Name x p) (e::es) [] pos) (Wu r):=by
 obtain⟨t,z,s⟩:=ha;refine⟨_,F7 (Wy u) v w hv z y hdb he hpl,λB T j τ H Q E m h k=>s B T j τ H _ _ m h λvs xs T1 H1 c r1 h1=> ?_⟩;have f:=m.stp c;split at h1 <;> first | exact h1.elim|skip
 rename_i kvs;cases r1 with
 | cons r t=>
   cases t;cases r with
   | dct n F G=>
     refine⟨_,_,rfl,n,λl cs hl o=> ?_⟩;have C:Az X.K T1 (mt B j τ) H1 (cs.map V.ref) (kvs.map λp=>XY p.1):=by
      clear h1 n;induction kvs generalizing cs with
      | nil=>cases o;exact .nil
      | cons q r ih=>
        cases o with
        | cons h t=>exact .cons (iH h) (ih _ t)
     obtain⟨D,g,i,r2⟩:=ZT f hl C;exact k l _ _ T1 _ (c.trans D) g (c.none hl) Ad i r2 h1
end
noncomputable def P7 (m:km (FK×Int))(k:FK)(v:Int):km (FK×Int):=if (m.any λp=>decide (p.1=k)) then m.map λp=>if p.1=k then (p.1,v) else p else m ++ [(k,v)]
noncomputable def bump (m:km (FK×Int))(k:FK)(d:Int):km (FK×Int):=P7 m k ((BH m k).getD 0+d)
def iA (m:km (FK×Int))(k:FK)(v:Int):EA (B7 m) k (.int v)=B7 (P7 m k v):=by
 unfold EA P7;have e:((B7 m).any λa=>decide (a.1=k))=(m.any λp=>decide (p.1=k)):=by unfold B7;rw[List.any_map];rfl
 rw[e];split
 .unfold B7;rw[ADF,ADF];apply ADG;intro p _;by_cases h:p.1=k <;> simp[h]
 .simp [B7]
def J9 (m:km (FK×Int))(k:FK)(v:Int):(P7 m k v).length<=m.length+1:=by unfold P7;split <;> simp
def fY (m:km (FK×Int))(k:FK):(EZ (B7 m) k).getD (.int 0)= .int ((BH m k).getD 0):=by rw[Yj];cases BH m k <;> rfl
noncomputable def Qq:PV->ke (ke (Int×Int))
 | .non=>some none
 | .tup [.int t, .int d] =>some (some (t,d))
 | _=>none
noncomputable def nW:PV->ke Int
 | .int i=>some i
 | _=>none
noncomputable def Zs:km PV->ke ((Int×Int)×Int×ke (Int×Int))
 | [b,h,e] =>(Qq b).bind λo=>o.bind λp=>(nW h).bind λi=>(Qq e).map λq=>(p,i,q)
 | _=>none
noncomputable def Zt (x:PV):ke ((Int×Int)×Int×ke (Int×Int)):=
 match x with
 | .tup xs=>Zs xs
 | .lst xs=>Zs xs
 | _=>none
noncomputable def Gd (m:km (FK×Int))(b:Int×Int)(h:Int)(e:ke (Int×Int)):km (FK×Int):=
 match e with
 | none=>bump m (b,1-h) 1
 | some e=>bump (bump m (b,1-h) 1) (e,0) (-1)
noncomputable def Fp:km PV->km (FK×Int)->ke (km (FK×Int))
 | [],m=>some m
 | x::r,m=>match Zt x with | some (b,h,e)=>Fp r (Gd m b h e)|none=>none
def iC:R2:=λx y H Q=>y= .non/\Q (.bl (!decide (x= .non))) H
def YV (K:AAJ):TS:=
 Yb (QF (mX (Oy (DI 2) (Oy (c6 (Me λi j=> .int (i-j)) (tC (.int 1)) (DI 3)) mV))) (BV 5))
  (Yb (iL K (DI 1) (DI 5) (c6 (Me λi j=> .int (i+j)) (YZ K (DI 1) (DI 5) (tC (.int 0))) (tC (.int 1))))
    (wG (i4 (c6 iC (DI 4) (tC .non)))
      (Yb (QF (mX (Oy (DI 4) (Oy (tC (.int 0)) mV))) (BV 6))
        (iL K (DI 1) (DI 6) (c6 (Me λi j=> .int (i-j)) (YZ K (DI 1) (DI 6) (tC (.int 0))) (tC (.int 1))))) oG))
def rY (K:AAJ):TS:=
 Yb (QF (oF K) (BV 1)) (Yb (rm (uk K (DI 0)) (Pw K 3 (C3 (BV 2) (C3 (BV 3) (C3 (BV 4) MD)))) (YV K)) (i0 (DI 1)))
section
variable {K:AAJ}{T M:kf->Prop}{H H':Hp}
def Gs.ext (va:Gs T M H)(ex:∀b o,H b=some o->H' b=some o):Mv K T M H T M H':=⟨va,λb o _ _ e=>ex b o e,λ_ t=>t,λ_ _ t=>t,λ_ _ m=>m⟩
def qw {b:Int×Int}{h:Int}{e:ke (Int×Int)}(r:B8 K T M H v x)(m:Zt x=some (b,h,e)):∃a n f,v= .ref a/\(Nj K H a [n, .int h,f] \/GH K H a [n, .int h,f])/\B8 K T M H n (.tup [.int b.1, .int b.2])/\((e=none/\f= .non)\/∃t d,e=some (t,d)/\B8 K T M H f (.tup [.int t, .int d])):=by
 have g:∀{f:V} {ep:PV},B8 K T M H f ep->Qq ep=some e->((e=none/\f= .non)\/∃t d,e=some (t,d)/\B8 K T M H f (.tup [.int t, .int d])):=by
  intro f ep u he;unfold Qq at he;split at he
  .cases he;cases u;exact .inl ⟨rfl,rfl⟩
  .cases he;exact .inr ⟨_,_,rfl,u⟩
  .cases he
 have j:∀{xs:km PV},Zs xs=some (b,h,e)->∃ep,xs= [.tup [.int b.1, .int b.2], .int h,ep] /\Qq ep=some e:=λ{xs} hx=>by
  unfold Zs at hx;split at hx
  .rename_i bp hp ep;obtain⟨o,k,hx⟩:=AF8.mp hx;obtain⟨p,w,hx⟩:=AF8.mp hx;obtain⟨i,l,hx⟩:=AF8.mp hx;obtain⟨q,y,hx⟩:=ADL.mp hx;cases hx;subst w;unfold Qq at k;split at k
   .cases k
   .cases k;unfold nW at l;split at l
    .cases l;exact⟨ep,rfl,y⟩
    .cases l
   .cases k
  .cases hx
 cases x with
 | tup xs=>
   obtain⟨ep,rfl,he⟩:=j m;obtain⟨a,vs,rfl,hq,c⟩:=FE r;cases c with
   | cons r1 c=>
   cases c with
   | cons r2 c=>
   cases c with
   | cons s c=> cases c;cases r2;exact⟨a,_,_,rfl, .inl hq,r1,g s he⟩
 | lst xs=>
   obtain⟨ep,rfl,he⟩:=j m;obtain⟨a,vs,rfl,hq,_,_,c⟩:=Dt r;cases c with
   | cons r1 c=>
   cases c with
   | cons r2 c=>
   cases c with
   | cons s c=> cases c;cases r2;exact⟨a,_,_,rfl, .inr (.inl (.inl hq)),r1,g s he⟩
 | _=>cases m
def YX {D:L6}{P s u w A:ke V}{f:Hp}{b:Int×Int}{h:Int}{e:ke (Int×Int)}(va:Gs T M H)(ex:∀b o,H b=some o->f b=some o)(Q:H p=none)(hp:f p=some (.dN K (B7 m)))(hl:m.length+2<sizeLine)(r:B8 K T M f v x)(S:Zt x=some (b,h,e))(nx:∀s u w A B k,(∀b o,H b=some o->k b=some o)->k p=some (.dN K (B7 (Gd m b h e)))->D.nx [P,some (.ref p),s,u,w,A,B] k):Pw K 3 (C3 (BV 2) (C3 (BV 3) (C3 (BV 4) MD))) v [P,some (.ref p),s,u,w,A,B] f λC k=>YV K D C k:=by
 obtain⟨a,E,ve,rfl,hq,U,F⟩:=qw r S;refine⟨a,_,rfl,hq,rfl,_,_,rfl,_,_,rfl,_,_,rfl,rfl, ?_⟩;have W:Gs T M H:=va;refine⟨E,rfl,_,rfl,_,_,rfl,rfl,ACC rfl,λq l=> ?_⟩;have g:∀b o,f b=some o->upd f q (.tup [E, .int (1-h)]) b=some o:=λb o e=>by rw[Ae (Al e l)];exact e
 have G:upd f q (.tup [E, .int (1-h)]) p=some (.dN K (B7 m)):=g _ _ hp;have qp:q≠p:=λz=>by subst z;rw[l] at hp;cases hp
 obtain⟨c,rfl,tn⟩:=Mn U;have I:eS K (upd f q (.tup [.ref c, .int (1-h)])) c b.1 b.2:=tn.elim (λz=> .inl (g _ _ z)) .inr;have R:GL K (upd f q (.tup [.ref c, .int (1-h)])) q (b,1-h):=⟨c,Ad,I⟩;refine⟨_,rfl,p,_,rfl,G,_,rfl,q,_,(b,1-h),rfl,G,R,_,_,fY m (b,1-h),rfl,_,rfl,_,rfl,p,q,_,(b,1-h),rfl,rfl,G,R,by rw[B7,AAT];omega, ?_⟩;rw[iA];have Y:B7 (P7 m (b,1-h) ((BH m (b,1-h)).getD 0+1))=B7 (bump m (b,1-h) 1):=rfl;rw[Y];have hb:∀o,f p=some o->True:=λ_ _=>trivial;have ext2:∀(X:HO) b o,H b=some o->upd (upd f q (.tup [.ref c, .int (1-h)])) p X b=some o:=λX b o e=>by rw[Ae (Al e Q)];exact g _ _ (ex _ _ e)
 have bl:(bump m (b,1-h) 1).length<=m.length+1:=J9 _ _ _;rcases F with⟨rfl,rfl⟩|⟨t,d,rfl,F⟩
 .refine ⟨_,rfl,rfl,false,rfl, ?_⟩;exact nx _ _ _ _ _ _ (ext2 _) Ad
 .obtain ⟨c2,rfl,J⟩:=Mn F;refine⟨_,rfl,rfl,true,rfl, ?_⟩;refine⟨_,rfl,ACC rfl,λi L=> ?_⟩;have Z:p≠i:=λz=>by subst z;rw[Ad] at L;cases L
  have j:∀(a:kf) o,upd (upd f q (.tup [.ref c, .int (1-h)])) p (.dN K (B7 (bump m (b,1-h) 1))) a=some o->upd (upd (upd f q (.tup [.ref c, .int (1-h)])) p (.dN K (B7 (bump m (b,1-h) 1)))) i (.tup [.ref c2, .int 0]) a=some o:=λa o e=>by rw[Ae (Al e L)];exact e
  have N:=j p _ Ad;have O:eS K (upd (upd (upd f q (.tup [.ref c, .int (1-h)])) p (.dN K (B7 (bump m (b,1-h) 1)))) i (.tup [.ref c2, .int 0])) c2 t d:=J.elim (λz=> .inl (j _ _ (by
   rw[Ae (λy=>by subst y;rw[hp] at z;cases z)];exact g _ _ z))) .inr
  have n:GL K (upd (upd (upd f q (.tup [.ref c, .int (1-h)])) p (.dN K (B7 (bump m (b,1-h) 1)))) i (.tup [.ref c2, .int 0])) i ((t,d),0):=⟨c2,Ad,O⟩;refine⟨_,rfl,p,_,rfl,N,_,rfl,i,_,((t,d),0),rfl,N,n,_,_,fY _ ((t,d),0),rfl,_,rfl,_,rfl,p,i,_,((t,d),0),rfl,rfl,N,n,by rw[B7,AAT];omega, ?_⟩;rw[iA];refine nx _ _ _ _ _ _ (λa o e=> ?_) Ad;rw[Ae (Al e Q)];exact j _ _ (ext2 _ _ _ e)
def Lp:(Gd m b h e).length<=m.length+2:=by
 unfold Gd;cases e with
 | none=>have:=J9 m (b,1-h) ((BH m (b,1-h)).getD 0+1);unfold bump;simp only;omega
 | some e=> have h1:=J9 m (b,1-h) ((BH m (b,1-h)).getD 0+1);have h2:=J9 (bump m (b,1-h) 1) (e,0) ((BH (bump m (b,1-h) 1) (e,0)).getD 0 + -1);unfold bump at *;simp only;omega
theorem Zr:∀{vs:km V} {ys:km PV},Az K T M H vs ys->∀{i:Nat} {x:V},vs[i]? =some x->∃y,ys[i]? =some y/\B8 K T M H x y
 | _,_, .nil,i,x,ev=>by simp at ev
 | _,_, .cons h t,0,x,ev=>by simp at ev;subst ev;exact⟨_,rfl,h⟩
 | _,_, .cons h t,i+1,x,ev=>by simpa using Zr t (i:=i) (↑ev)
def Ov {D:L6}{J:It}{H1:Hp}(va:Gs T M H)(C:H p=none)(go:∀H',(∀b o,H b=some o->H' b=some o)->∃vs,Az K T M H' vs ys/\(∀i,i<ys.length->J.go i H')/\(∀i,ys.length<=i->J.stop i H')/\∀i x d,J.yld i H' x d->d=H'/\vs[i]? =some x)(E:∀b o,H b=some o->H1 b=some o)(hp:H1 p=some (.dN K (B7 [])))(hl:2*ys.length+2<sizeLine)(hs:Fp ys [] =some a)(t:∀f g j k l H',(∀b o,H b=some o->H' b=some o)->H' p=some (.dN K (B7 a))->D.nx [some s,some (.ref p),f,g,j,k,l] H'):∃W:Nat->Nat->L2.St->Hp->Prop,(∃m,W 0 m [some s,some (.ref p),none,none,none,none,none] H1)/\∀i m n H,W i m n H-> (J.stop i H/\D.nx n H)\/(J.go i H/\∃N:L2.St->Hp->Prop,(∀σ' H',N σ' H'->∃z,z<m/\W (i+1) z σ' H')/\∀x H',J.yld i H x H'->Pw K 3 (C3 (BV 2) (C3 (BV 3) (C3 (BV 4) MD))) x n H' λu d=>YV K {D with nx:=N,ct:=N,bk:=D.nx} u d):=by
 let W:Nat->Nat->L2.St->Hp->Prop:=λi m n H'=>i+m=ys.length/\∃f g j k l r,n= [some s,some (.ref p),f,g,j,k,l] /\(∀b o,H b=some o->H' b=some o)/\H' p=some (.dN K (B7 r))/\Fp (ys.drop i) r=some a/\r.length<=2*i;refine⟨W,⟨ys.length,AFP _,_,_,_,_,_, [],rfl,E,hp,hs,ACB _⟩, ?_⟩;rintro i m n H' ⟨hi,f,g,j,k,l,r,rfl,ex,A,c,F⟩;obtain⟨vs,G,I,L,O⟩:=go H' ex;cases m with
 | zero=> left;refine⟨L i (!0),t _ _ _ _ _ _ ex ?_⟩;rw[AEe (!0)] at c;cases c;exact A
 | succ m=>
   right;refine⟨I i (!0),λσ' H'=>W (i+1) m σ' H',λσ' H' h=>⟨m,!0,h⟩,λx d P=> ?_⟩;obtain⟨rfl,ev⟩:=O i x d P;have hy:ys[i]? =some ys[i] :=AAi (!0);obtain⟨y,B,Q⟩:=Zr G ev;rw[ADt (by omega:i<ys.length)] at c;have v:ys[i] =y:=by rw[hy] at B;exact AAt B
   rw[v] at c;unfold Fp at c;split at c
   .rename_i b h e R;refine YX (H:=H) (m:=r) (b:=b) (h:=h) (e:=e) (x:=y) va ex C A (!0) Q R λf g j k l U w S=>⟨!0,f,g,j,k,l,_,rfl,w,S,c, ?_⟩
    .have:=Lp (m:=r) (b:=b) (h:=h) (e:=e);omega
   .cases c
def YW {D:L6}(va:Gs T M H)(r:B8 K T M H l x)(hx:x= .tup ys\/x= .lst ys)(hl:2*ys.length+2<sizeLine)(hs:Fp ys [] =some f)(m:∀p H',(∀b o,H b=some o->H' b=some o)->H p=none->H' p=some (.dN K (B7 f))->D.rt (.ref p) H'):rY K D [some l,none,none,none,none,none,none] H:=by
 intro p hp;have k:∀b o,H b=some o->upd H p (.dN K []) b=some o:=λb o e=>by rw[Ae (Al e hp)];exact e
 have last:∀n s t u v H',(∀b o,H b=some o->H' b=some o)->H' p=some (.dN K (B7 f))->(i0 (DI 1)) D [some l,some (.ref p),n,s,t,u,v] H':=λn s t u v H' ex h=>⟨_,rfl,m p H' ex hp h⟩;rcases hx with rfl|rfl
 .obtain ⟨a,vs,rfl,hq,w⟩:=FE (r.mv (va.ext k));refine⟨_,rfl,a,rfl, .inr ⟨⟨vs,hq⟩, ?_⟩⟩;refine Ov (D:={D with nx:=(i0 (DI 1)) D}) va hp (λH' ex=> ?_) k Ad hl hs last;obtain⟨y,c,e,g,d⟩:=FE (r.mv (va.ext ex));cases e;refine⟨c,d,λi hi=>⟨c,c[i]'(by rw[d.length];exact hi),g,AAi _⟩,λi hi=>⟨c,g,by rw[d.length];exact hi⟩,λi x z j=>⟨j.1,j.2 c g⟩⟩
 .obtain ⟨a,vs,rfl,hq,_,_,w⟩:=Dt (r.mv (va.ext k));refine⟨_,rfl,a,rfl, .inl ⟨⟨vs, .inl (.inl hq)⟩, ?_⟩⟩;refine Ov (D:={D with nx:=(i0 (DI 1)) D}) va hp (λH' ex=> ?_) k Ad hl hs last;obtain⟨y,c,e,g,_,_,d⟩:=Dt (r.mv (va.ext ex));cases e;refine⟨c,d,λi hi=>⟨c,c[i]'(by rw[d.length];exact hi), .inl (.inl g),AAi _⟩,λi hi=>⟨c, .inl (.inl g),by rw[d.length];exact hi⟩,λi x z j=>⟨j.1,j.2 c (.inl (.inl g))⟩⟩
end
def Hh:AF:=λxs Q=>match xs with | [x] =>Mb x λys=>2*ys.length+2<sizeLine/\∃m,Fp ys [] =some m/\Q (.dct m)|_=>False
def Wl {Q:PV->Prop}(h:Hh xs Q):∃x ys m,xs= [x] /\(x= .tup ys\/x= .lst ys)/\2*ys.length+2<sizeLine/\Fp ys [] =some m/\Q (.dct m):=by
 unfold Hh at h;split at h
 .obtain ⟨ys,hx,hz,m,a,q⟩:=GV h;exact⟨_,ys,m,rfl,hx,hz,a,q⟩
 .exact h.elim
section
variable {K:AAJ}{T M:kf->Prop}{H H':Hp}
def l8 {k:Nat}(a:Room k A):A.units+2<cLine:=by have:=a.un;omega
def Z6 (va:Gs T M H)(ex:∀b o,H b=some o->H' b=some o):Cq T H T H' where
 keep:=λb u _ e=>ex b u e
 sub:=λ_ t=>t
 new:=λ_ t=> .inl t
 tp:=λa t=>let ⟨d,x,e,q⟩:=va.tp a t;⟨d,x,ex _ _ e,q⟩
def l7 (va:Gs T M H)(a:H p=none)(hp:H' p=some (.dN K (B7 m))):B8 K T M H' (.ref p) (.dct m):=by
 refine .dct hp (λz=> ?_) (λz=> ?_)
 .obtain ⟨o,e,_⟩:=(va.tp p z).mut;rw[a] at e;cases e
 .obtain ⟨o,e,_⟩:=va.mu p z;rw[a] at e;cases e
end
end PL
namespace L2
open PySem PySem.Spec PyProof.Rows
section
variable {elt tg iter tg2 iter2:kd}{ifs ifs2:km kd}{scope:Scope}{pos:Pos}{it acc:kj}{env:Env}
def dD:compTurn (.ListComp elt [⟨tg,iter,ifs,0⟩,⟨tg2,iter2,ifs2,0⟩] scope pos) 0 it acc env=(do
 standAt iter.pos
 match <-pyNext it with
 | none=>pure (.done .next)
 | some v=>
   letOwnedTupleGo tg it v
   assign tg env v
   let mut ok:=true
   for c in ifs do
    if ok then ok <-isTrue c env (eval c env)
   if ok then
    let x <-eval iter2 env
    standAt iter2.pos
    let x <-foldedSetIterable iter2 env x;let _ <-runOwn (.compStart (.ListComp elt [⟨tg,iter,ifs,0⟩,⟨tg2,iter2,ifs2,0⟩] scope pos) 1 (<-holding [x] (pyIter x)) acc env) env
   again (.compLoop (.ListComp elt [⟨tg,iter,ifs,0⟩,⟨tg2,iter2,ifs2,0⟩] scope pos) 0 it acc env)):=by rfl
def dE:compTurn (.ListComp elt [⟨tg,iter,ifs,0⟩,⟨tg2,iter2,ifs2,0⟩] scope pos) 1 it acc env=(do
 standAt iter2.pos
 match <-pyNext it with
 | none=>pure (.done .next)
 | some v=>
   letOwnedTupleGo tg2 it v
   assign tg2 env v
   let mut ok:=true
   for c in ifs2 do
    if ok then ok <-isTrue c env (eval c env)
   if ok then
    (do let _ <-call (.builtin "list.append") [acc,<-eval elt env])
   again (.compLoop (.ListComp elt [⟨tg,iter,ifs,0⟩,⟨tg2,iter2,ifs2,0⟩] scope pos) 1 it acc env)):=by rfl
variable {prog:gn}{w:fe}{A:Tb}{R:Result->ki->Prop}{s:ki}
def YS (c:codeAny (model prog w) A (.compLoop (.ListComp elt [⟨tg,iter,ifs,0⟩,⟨tg2,iter2,ifs2,0⟩] scope pos) 1 it acc env) R s)(h:wpAny (model prog w) A (pyIter it) (λa b=>codeAny (model prog w) A (.compLoop (.ListComp elt [⟨tg,iter,ifs,0⟩,⟨tg2,iter2,ifs2,0⟩] scope pos) 1 a acc env) R b) (notedBy (model prog w) A env λx b=>R (.error x) b) s):codeAny (model prog w) A (.compStart (.ListComp elt [⟨tg,iter,ifs,0⟩,⟨tg2,iter2,ifs2,0⟩] scope pos) 1 it acc env) R s:=by
 refine codeAny_of_tree ?_;show wpAny _ _ ((compStart (.ListComp elt [⟨tg,iter,ifs,0⟩,⟨tg2,iter2,ifs2,0⟩] scope pos) 1 it acc env).onRaise (λx=>do noteFrame x env;standAt theWindowsPlace)) _ _ s;refine wpAny_notedAt ?_;unfold compStart;show wpAny _ _ (ask >>= _) _ _ s;refine AAI (AEp (wpAny_ite ?_));split
 .first
   | exact AAI (AAK (AAK (And.intro rfl c)))
   | exact AAK (And.intro rfl c)
 .first
   | exact AAI (ACK (AAI (ACF (AAI (ACE h (λa b h'=>AAK (And.intro rfl h')) λ_ _ x=>x)))))
   | (refine AAI (ACK ?_);show wpAny _ _ (standAt iter2.pos >>= _) _ _ s;exact AAI (ACF (AAI (ACE h (λa b h'=>AAK (And.intro rfl h')) λ_ _ x=>x))))
end
def MA (own:Nat)(a:St):St:=List.replicate own none++a.drop own
def Kx {own:Nat}{j:Nat}(h:(MA own a)[j]? =some (some v)):own<=j/\a[j]? =some (some v):=by
 unfold MA at h;by_cases hj:j<own
 .rw [ACh (↑hj),AC8,AAM hj] at h;cases h
 .have dU:own<=j:=!0
  rw[ACU (↑dU),ACi,AEi] at h;rw[show own+(j-own)=j by omega] at h;exact⟨dU,h⟩
def Uy {own:Nat}{a:St}(h:own<=a.length):(MA own a).length=a.length:=by simp[MA];omega
def SC (J:It)(D:kf)(σ0:St)(g:TG)(j:TT)(c:TI)(own2:Nat)(k:TG)(d:TT)(te:TE)(Q:Hp->Prop)(W:Nat->Nat->Hp->Prop):Prop:=
 ∀i m H,W i m H->(J.stop i H/\Q H)\/(J.go i H/\∀x e,J.yld i H x e->g x σ0 e λa l=>j a l λok f=>
  if ok=true then c a f λn o=>∃h:Nat->Nat->Hp->Prop,(∃m2,h 0 m2 o)/\Nq n D (MA own2 a) k d te (λp=>∃b,b<m/\W (i+1) b p) h else ∃b,b<m/\W (i+1) b f)
def ir (d:TI)(own:Nat)(ix:km Nat)(g:TG)(e:TT)(a:TI)(own2:Nat)(f:TG)(b:TT)(te:TE):TE:=λc H Q=>d c H λJ H1=>∀D,H1 D=none->
 ∃W:Nat->Nat->Hp->Prop,(∃m,W 0 m (upd H1 D (.lst [])))/\SC J D (Bc own ix c) g e a own2 f b te (Q (.ref D)) W
section
variable {X:Cx}{tg elt iter tg2 iter2:kd}{ifs ifs2:km kd}{scope:Scope}{pos:Pos}{wi wi2:TI}{own own2:Nat}{ix:km Nat}{N:km Str}{g g2:TG}{tt tt2:TT}{te:TE}
structure MQ (X:Cx) (tg elt:Expr) (ifs:List Expr) (tg2 iter2:Expr) (ifs2:List Expr) (scope:Scope) (own:Nat) (ix:List Nat) (N:List Str) (g:TG) (tt:TT) (wi2:TI) (own2:Nat) (g2:TG) (tt2:TT) (te:TE):Prop where
 kind:scope.kind= .function
 nocell:∀y∈scope.names,y.2≠ .cell
 names:∀y∈scope.names,y.2= .local->scope.names.lookup y.1=some .local
 frees:∀y∈scope.names,y.2= .free->X.env.scope.names.lookup y.1=some .cell
 ins:Yq X (relabel scope X.env) own ix N
 keep:IE own g
 keep2:IE own2 g2
 le2:own2<=own
 tgt:∀cl C s H ex pn,PG (blk X (relabel scope X.env) N cl C s H ex pn) tg g
 tst:∀cl C s H ex pn,aZ (blk X (relabel scope X.env) N cl C s H ex pn) ifs tt
 itr2:∀cl C s H ex pn,PI (blk X (relabel scope X.env) N cl C s H ex pn) tg2 iter2 wi2
 set2:∀cl C s H ex pn x,foldedSetIterable iter2 (blk X (relabel scope X.env) N cl C s H ex pn).env x=pure x
 tgt2:∀cl C s H ex pn,PG (blk X (relabel scope X.env) N cl C s H ex pn) tg2 g2
 tst2:∀cl C s H ex pn,aZ (blk X (relabel scope X.env) N cl C s H ex pn) ifs2 tt2
 val:∀cl C s H ex pn,PE (blk X (relabel scope X.env) N cl C s H ex pn) elt te
def jv {Y:Cx}{c0:Comprehension}{σ0:St}{it:kf}{tn:Nat->Wf->Prop}{R:Result->ki->Prop}{Qh:Hp->Prop}{W:Nat->Nat->Hp->Prop}(U:∀it p,compTurn (.ListComp elt [c0,⟨tg2,iter2,ifs2,0⟩] scope pos) 1 it p Y.env=(do
   standAt iter2.pos
   match <-pyNext it with
   | none=>pure (.done .next)
   | some v=>
     letOwnedTupleGo tg2 it v
     assign tg2 Y.env v
     let mut ok:=true
     for c in ifs2 do
      if ok then ok <-isTrue c Y.env (eval c Y.env)
     if ok then
      (do let _ <-call (.builtin "list.append") [p,<-eval elt Y.env])
     again (.compLoop (.ListComp elt [c0,⟨tg2,iter2,ifs2,0⟩] scope pos) 1 it p Y.env)))(eX:Y.xe=λ_ _=>False)(eC:Y.calm=true)(hg:PG Y tg2 g2)(hk:IE own2 g2)(ht:aZ Y ifs2 tt2)(hv:PE Y elt te)(T:Hu Y.prog Y.w Y.K tg2 J l it tn)(Z:∀j v,σ0[j]? =some (some v)->own2<=j)(f:∀{a:Hp},(∀b∈l,a b=none)->∀b∈l,Ef Y Sr a b)(hW:Nq J D σ0 g2 tt2 te Qh W)(hR:∀a H,Inv Y Sr σ0 a H->Qh a->R (.ok .next) H)(n:Nat)(s0:ki)(h0:∃i a,Inv Y Sr σ0 a s0/\tn i s0.heap/\(∀b∈l,a b=none)/\W i n a):
 codeAny (model Y.prog Y.w) Y.A (.compLoop (.ListComp elt [c0,⟨tg2,iter2,ifs2,0⟩] scope pos) 1 (.ref it) (.ref D) Y.env) R s0:=by
 refine AE2 rfl (λn H=>∃i a,Inv Y Sr σ0 a H/\tn i H.heap/\(∀b∈l,a b=none)/\W i n a) (λn s1 h1=> ?_) n h0;obtain⟨i,H1,B1,I,L,w1⟩:=h1;show wpAny _ _ ((compTurn (.ListComp elt [c0,⟨tg2,iter2,ifs2,0⟩] scope pos) 1 (.ref it) (.ref D) Y.env).onRaise (λx=>do noteFrame x Y.env;theTreesLotGoes x)) _ _ s1;refine AE3 ?_;rw[U];have S:∀{α:Type} {t:Sem α} {Q:α->ki->Prop} {E:kj->ki->Prop} {s:ki},wpAny (model Y.prog Y.w) Y.A t Q Y.xe s->wpAny (model Y.prog Y.w) Y.A t Q E s:=λh=>ACE h (λ_ _ q=>q) λ_ _ z=>by rw[eX] at z;exact z.elim
 refine AAI (ACF (AAI ?_));rcases hW i n H1 w1 with⟨stop,qn⟩|⟨go,step⟩
 .refine BA (T.done Y rfl rfl rfl eC i Sr s1 _ H1 _ B1 (f L) I stop) λr s4 ⟨hr,I4⟩=> ?_;subst hr;exact AAK (hR _ _ I4 qn)
 .refine BA (T.item Y rfl rfl rfl eC i Sr s1 _ H1 _ B1 (f L) I go) λr s4 ⟨u,hr,h4⟩=> ?_;subst hr;refine AAI (BA h4 λ_ s5 ⟨x,H5,I5,r5,y5,B,fr5⟩=> ?_);have I5':=I5.pinned (f fr5) (T.obj _ _ B);refine AAI (BA (S (hg _ s5 _ H5 x u _ I5' r5 (hk _ _ _ _ (step x H5 y5)))) λ_ s6 ⟨k,H6,I6,q6,l6,k6⟩=> ?_);refine AAI (BA (S (ht _ s6 k H6 _ I6 q6)) λok s7 ⟨H7,I7,q7⟩=> ?_);have back:∀{C:Hp} {F:ki} {G:Nat},Inv Y (Sr++Ff l s5.heap) k C F->G<n->W (i+1) G C->
   ∃m,m<n/\∃i a,Inv Y Sr σ0 a F/\tn i F.heap/\(∀b∈l,a b=none)/\W i m a:=λ{C F G} M O P=>by
   refine⟨G,O,i+1,C,M.unpinned.weak l6.symm (λj v hj=> ?_),T.keep _ _ _ B λb hb o e=>(M.pin (b,o) (AAj _ (AAj _ (B5 hb e)))).1,λb hb=> ?_,P⟩
   .rw [k6 j (Z j v hj)];exact hj
   .obtain ⟨o,e,d⟩:=T.obj _ _ B b hb;exact(M.pin (b,o) (AAj _ (AAj _ (B5 hb e)))).2.1
  cases ok with
  | false=> obtain⟨G,O,P⟩:=q7;exact AAK ⟨rfl,back I7 O P⟩
  | true=> refine AAI (AAI (BA (S (hv _ s7 k H7 _ I7 q7)) λyv F ⟨y,C,M,r8,ys,hD,hz,G,O,P⟩=> ?_));refine AAI (BA (S (K8 _ F k C (.ref D) [y] (.ref D) [yv] (λ_ H9=>H9=upd C D (.lst (ys ++ [y]))) M rfl (.cons r8 .nil) ⟨D,ys,y,rfl,rfl,hD,hz,rfl⟩)) λ_ s9 ⟨_,H9,I9,_,e9⟩=> ?_);subst e9;exact AAK (AAK ⟨rfl,back I9 O P⟩)
def W4 {tn:Nat->Wf->Prop}{R:Result->ki->Prop}{Qh:Hp->Prop}{W:Nat->Nat->Hp->Prop}(hc:X.calm=true)(O:MQ X tg elt ifs tg2 iter2 ifs2 scope own ix N g tt wi2 own2 g2 tt2 te)(T:Hu X.prog X.w X.K tg J l it tn)(I:Inv X Sr L H s)(hf:∀b∈l,Ef X Sr H b)(Es:∀b∈l,b<s.heap.objs.size)(hW:SC J D (Bc own ix L) g tt wi2 own2 g2 tt2 te Qh W)(hR:∀σ' a y,Inv (blk X (relabel scope X.env) N cl s.heap.objs.size s H l (X.pn++Sr)) [] σ' a y->Qh a->R (.ok .next) y)(n:Nat)(s0:ki)(h0:∃i a,Inv (blk X (relabel scope X.env) N cl s.heap.objs.size s H l (X.pn++Sr)) [] (Bc own ix L) a s0/\tn i s0.heap/\(∀b∈l,a b=none)/\W i n a):codeAny (model X.prog X.w) X.A (.compLoop (.ListComp elt [⟨tg,iter,ifs,0⟩,⟨tg2,iter2,ifs2,0⟩] scope pos) 0 (.ref it) (.ref D) (Fd X.env (relabel scope X.env) cl s.heap.objs.size)) R s0:=by
 refine AE2 rfl (λn y=>∃i a,Inv (blk X (relabel scope X.env) N cl s.heap.objs.size s H l (X.pn++Sr)) [] (Bc own ix L) a y/\tn i y.heap/\(∀b∈l,a b=none)/\W i n a) (λn s1 h1=> ?_) n h0;obtain⟨i,H1,B1,S,U,w1⟩:=h1;have G:own2<=(Bc own ix L).length:=by rw[Qg];exact AAg O.le2 (ACP _ _)
 generalize k:blk X (relabel scope X.env) N cl s.heap.objs.size s H l (X.pn++Sr)=Y at *;have eA:Y.A=X.A:=by rw[<-k];rfl
 have Z:Y.prog=X.prog:=by rw[<-k];rfl
 have eW:Y.w=X.w:=by rw[<-k];rfl
 have eK:Y.K=X.K:=by rw[<-k];rfl
 have eE:Fd X.env (relabel scope X.env) cl s.heap.objs.size=Y.env:=by rw[<-k];rfl
 have eX:Y.xe=λ_ _=>False:=by rw[<-k];rfl
 have eC:Y.calm=true:=by rw[<-k];exact hc
 have hg:PG Y tg g:=by rw[<-k];exact O.tgt _ _ _ _ _ _
 have ht:aZ Y ifs tt:=by rw[<-k];exact O.tst _ _ _ _ _ _
 have sW:PI Y tg2 iter2 wi2:=by rw[<-k];exact O.itr2 _ _ _ _ _ _
 have UF:∀x,foldedSetIterable iter2 Y.env x=pure x:=by rw[<-k];exact O.set2 _ _ _ _ _ _
 have sV:PG Y tg2 g2:=by rw[<-k];exact O.tgt2 _ _ _ _ _ _
 have yX:aZ Y ifs2 tt2:=by rw[<-k];exact O.tst2 _ _ _ _ _ _
 have hv:PE Y elt te:=by rw[<-k];exact O.val _ _ _ _ _ _
 have B:∀{a:Hp},(∀b∈l,a b=none)->∀b∈l,Ef Y [] a b:=λ{a} hn b hb=>by
  obtain⟨_,a1,a2,a3,a4,a5⟩:=hf b hb;refine⟨hn b hb, ?_, ?_, ?_, ?_, ?_⟩
  .rw [<-k];exact AAQ (Es b hb)
  .rw [<-k];exact I.notStk a1 a2
  .rw [<-k];exact .inl hb
  .intro x c e;exact(B1.ok.exf b (by rw[<-k];exact hb)).2 x c e
  .intro p hp;have:p∈X.pn++Sr:=by rw[<-k] at hp;simpa[blk] using hp
   exact a5 p this
 rw[eE,<-eA,<-Z,<-eW];show wpAny _ _ ((compTurn (.ListComp elt [⟨tg,iter,ifs,0⟩,⟨tg2,iter2,ifs2,0⟩] scope pos) 0 (.ref it) (.ref D) Y.env).onRaise (λx=>do noteFrame x Y.env;theTreesLotGoes x)) _ _ s1;refine AE3 ?_;rw[dD];have ff:∀{α:Type} {t:Sem α} {Q:α->ki->Prop} {E:kj->ki->Prop} {s:ki},wpAny (model Y.prog Y.w) Y.A t Q Y.xe s->wpAny (model Y.prog Y.w) Y.A t Q E s:=λh=>ACE h (λ_ _ q=>q) λ_ _ z=>by rw[eX] at z;exact z.elim
 refine AAI (ACF (AAI ?_));rcases hW i n H1 w1 with⟨stop,qn⟩|⟨go,step⟩
 .have zd:=λE=>T.done Y Z eW eK eC i [] s1 _ H1 E B1 (B U) S stop;rw[<-Z,<-eW] at zd;refine BA (zd _) λr s4 ⟨hr,I4⟩=> ?_;subst hr;exact AAK (hR _ _ _ I4 qn)
 .have zi:=λE=>T.item Y Z eW eK eC i [] s1 _ H1 E B1 (B U) S go;rw[<-Z,<-eW] at zi;refine BA (zi _) λr s4 ⟨u,hr,h4⟩=> ?_;subst hr;refine AAI (BA h4 λ_ s5 ⟨x,H5,I5,r5,y5,M,fr5⟩=> ?_);have I5':=I5.pinned (B fr5) (T.obj _ _ M);refine AAI (BA (ff (hg _ s5 _ H5 x u _ I5' r5 (O.keep _ _ _ _ (step x H5 y5)))) λ_ s6 ⟨C,H6,I6,q6,l6,k6⟩=> ?_);refine AAI (BA (ff (ht _ s6 C H6 _ I6 q6)) λok s7 ⟨H7,I7,q7⟩=> ?_);have back:∀{F:St} {H8:Hp} {s8:ki} {P:Nat},Inv Y ([] ++ Ff l s5.heap) F H8 s8->F.length=C.length->(∀j v,own<=j->C[j]? =some (some v)->F[j]? =some (some v))->P<n->W (i+1) P H8->
   ∃m,m<n/\∃i a,Inv Y [] (Bc own ix L) a s8/\tn i s8.heap/\(∀b∈l,a b=none)/\W i m a:=λ{F H8 s8 P} I8 hl hsm hm w8=>by
   refine⟨P,hm,i+1,H8,I8.unpinned.weak (hl.trans l6).symm (λj v hj=> ?_),T.keep _ _ _ M λb hb o e=>(I8.pin (b,o) (AAj _ (AAj _ (B5 hb e)))).1,λb hb=> ?_,w8⟩
   .have hoj:=(GN hj).1;exact hsm j v hoj (by rw[k6 j hoj];exact hj)
   .obtain ⟨o,e,d⟩:=T.obj _ _ M b hb;exact(I8.pin (b,o) (AAj _ (AAj _ (B5 hb e)))).2.1
  cases ok with
  | false=> obtain⟨P,hm,w8⟩:=q7;exact AAK ⟨rfl,back I7 rfl (λ_ _ _ z=>z) hm w8⟩
  | true=>
    rw[AAM rfl] at q7;refine AAI (BA (ff (sW _ s7 C H7 _ I7 q7)) λv2 s8 kK=> ?_);refine AAI (ACF (AAI (ADB (UF v2) (AAI (AAp (BA (ff kK) λitv s9 hv9=> ?_))))));obtain⟨it2,fp2,tn2,J2,H9,rfl,I9,T2,st9,f9,W2,⟨m2,w2⟩,hW2⟩:=hv9;have I9':Inv Y ([] ++ Ff l s5.heap) (MA own2 C) H9 s9:=I9.weak (Uy (by rw[l6];exact G)) (λj v hj=>(Kx hj).2);have loop:codeAny (model Y.prog Y.w) Y.A (.compLoop (.ListComp elt [⟨tg,iter,ifs,0⟩,⟨tg2,iter2,ifs2,0⟩] scope pos) 1 (.ref it2) (.ref D) Y.env) (λr y=>match r with | .ok f=>∃m,m<n/\∃i a,Inv Y [] (Bc own ix L) a y/\tn i y.heap/\(∀b∈l,a b=none)/\W i m a | .error e=>cameBackBy (model Y.prog Y.w) Y.A Y.env (notedBy (model Y.prog Y.w) Y.A Y.env λx y=>R (.error x) y) e y) s9:=by refine jv (own2:=own2) (Sr:= [] ++ Ff l s5.heap) (λ_ _=>dE) eX eC sV O.keep2 yX hv T2 (λj v hj=>(Kx hj).1) (λhn b hb=>⟨hn b hb,(f9 b hb).2⟩) hW2 (λa y I' q'=> ?_) m2 s9 ⟨0,H9,I9',st9,λb hb=>(f9 b hb).1,w2⟩;obtain⟨P,hm,w8⟩:=q';refine back I' (Uy (by rw[l6];exact G)) (λj v hj e=> ?_) hm w8;have h2j:own2<=j:=AAg O.le2 hj;unfold MA;rw[ACU (↑h2j),ACi,AEi,show own2+(j-own2)=j by omega];exact e
    refine AAI (wpAny_runOwn (h:=none) (YS ?_ ?_))
    .exact AC7 loop (λr y h'=>by
      cases r with
      | ok f=>exact AAK ⟨rfl,h'⟩
      | error e=>exact h')
    .exact T2.self _ 0 _ _ _ st9 (AC7 loop (λr y h'=>by
      cases r with
      | ok f=>exact AAK ⟨rfl,h'⟩
      | error e=>exact h'))
def aw {H:Hp}{cl:km (Str×kf)}{tn:Nat->Wf->Prop}{Qd:kf->Hp->Prop}(hc:X.calm=true)(O:MQ X tg elt ifs tg2 iter2 ifs2 scope own ix N g tt wi2 own2 g2 tt2 te)(T:Hu X.prog X.w X.K tg J j it tn)(I:Inv X Sr u H s)(P:∀b∈j,Ef X Sr H b)(st:tn 0 s.heap)(h1:∀y c,cl.lookup y=some c->X.env.cells.lookup y=some c)(h2:∀y,(y,NameKind.free)∈scope.names->∃c,cl.lookup y=some c)(hq:∀D,H D=none->∃W:Nat->Nat->Hp->Prop,(∃m,W 0 m (upd H D (.lst [])))/\SC J D (Bc own ix u) g tt wi2 own2 g2 tt2 te (Qd D) W)(R:∀D C i k,(∃m,k.heap.Ns C m)->Inv X Sr u i k->(∀f v,Inv X Sr f i v->∀h',Heap.SameBut C v.heap h'->Inv X Sr f i {v with heap:=h'})->C≠X.env.locals->(∀x c,X.env.cells.lookup x=some c->C≠c)->Qd D i-> compPost (model X.prog X.w) X.A X.xe use Q (.ref D) C (.ok .next) k):wpAny (model X.prog X.w) X.A (newList []) (λl n=>wpAny (model X.prog X.w) X.A (newFunctionEnv scope X.env.globals cl [] X.env.qual none .none (some X.env)) (λd p=> codeAny (model X.prog X.w) X.A (.compStart (.ListComp elt [⟨tg,iter,ifs,0⟩,⟨tg2,iter2,ifs2,0⟩] scope pos) 0 (.ref it) l {d with scope:=relabel scope X.env}) (compPost (model X.prog X.w) X.A X.xe use Q l d.locals) p) X.xe n) X.xe s:=by
 refine AB9 ?_ (by simp[sizeOk]);have h:Inv X Sr u (upd H s.heap.objs.size (.lst [])) {s with heap:=s.heap.push {cls:= .type "list",data:= .seq ([] :km kj).toArray}}:=I.lnew (t':=s.toks) .nil (ACB _);have S:=I.fresh;obtain⟨W,⟨m0,U⟩,hW⟩:=hq _ S;have Y:∀b∈j,b<s.heap.objs.size:=λb hb=>by obtain⟨o,e,_⟩:=T.obj _ _ st b hb;exact AAN e
 have E:∀b∈j,Ef X Sr (upd H s.heap.objs.size (.lst [])) b:=λb hb=>by obtain⟨Z,ar⟩:=P b hb;exact⟨by rw[Ae (AAQ (Y b hb))];exact Z,ar⟩
 generalize ue:({s with heap:=s.heap.push {cls:= .type "list",data:= .seq ([] :km kj).toArray}}:ki)=s3 at h;have r:tn 0 s3.heap:=T.keep _ _ _ st λb hb o e=>by rw[<-ue];exact AAP _ e
 have F:∀b∈j,b<s3.heap.objs.size:=λb hb=>by obtain⟨o,e,_⟩:=T.obj _ _ r b hb;exact AAN e
 refine AFs O.nocell (by intro y hy;simp at hy) (λa nS uf=> ?_) O.kind;have M:∀b o,s3.heap.get? b=some o->a.get? b=some o:=λb o e=>uf.extBut b o (AAQ (AAN e)) (AAP _ e);have jO:∀y,((relabel scope X.env).names.lookup y=some .cell\/(relabel scope X.env).names.lookup y=some .free)->∃c,cl.lookup y=some c:=λy hy=>by
  rcases hy with z|z
  .exact h2 y (Dg O.nocell (HI z) (.inl rfl))
  .exact h2 y (Dg O.nocell (HI z) (.inr rfl))
 have B:=Wx (N:=N) (t':=s3.toks+([] :km (Str×kj)).length) h E F (sc:=relabel scope X.env) O.kind h1 jO O.ins nS M;have t:tn 0 a:=T.keep _ _ _ r λb hb o e=>M b o e;have loop:∀G:ki,G={s3 with heap:=a,toks:=s3.toks+([] :km (Str×kj)).length}->
  codeAny (model X.prog X.w) X.A (.compLoop (.ListComp elt [⟨tg,iter,ifs,0⟩,⟨tg2,iter2,ifs2,0⟩] scope pos) 0 (.ref it) (.ref s.heap.objs.size) (Fd X.env (relabel scope X.env) cl s3.heap.objs.size)) (compPost (model X.prog X.w) X.A X.xe use Q (.ref s.heap.objs.size) s3.heap.objs.size) G:=by rintro G rfl;refine W4 (cl:=cl) (Qh:=Qd s.heap.objs.size) hc O T h E F hW (λσ' i k L q'=> ?_) m0 _ ⟨0,_,B,t,λb hb=>(E b hb).1,U⟩;refine R _ _ i k (let ⟨m,hm,_⟩:=L.loc;⟨m,hm⟩) (SB (own:=own) (ix:=ix) h E F L) (λf v I2 h' hs=>Np h rfl I2 L.free hs) (AAx h.lt) (λx c e=>AAx (h.szLt e)) q'
 exact codeAny_compStart_list (loop _ rfl) (T.self _ 0 _ _ _ t (loop _ rfl))
def gk (hc:X.calm=true)(hi:PI X tg iter wi)(O:MQ X tg elt ifs tg2 iter2 ifs2 scope own ix N g tt wi2 own2 g2 tt2 te)(hs:∀x,foldedSetIterable iter X.env x=pure x:=by intro _;rfl):PE X (.ListComp elt [⟨tg,iter,ifs,0⟩,⟨tg2,iter2,ifs2,0⟩] scope pos) (ir wi own ix g tt wi2 own2 g2 tt2 te):=by intro Sr s c H Q I h;obtain⟨cl,d,h1,h2⟩:=GO (env:=X.env) (scope:=scope) λy hy e=>I.ok.has y.1 (.inl (O.frees y hy e));rw[eval_ListComp];refine AE4 (use:=none) rfl hs d O.kind O.names (BA (hi Sr s c H _ I h) λv r hv=>BA hv λf t i=> ?_);obtain⟨it,u,tn,J,w,rfl,j,T,a,f2,q⟩:=i;exact aw (Qd:=λD b=>Q (.ref D) b) hc O T j f2 a h1 h2 q λD C b k l n gone z A o=>by obtain⟨m,p⟩:=l;exact⟨m,p,λh' hs=>⟨.ref D,b,gone c k n h' hs,rfl,o⟩⟩
end
end L2
namespace PL
open PySem PySem.Spec PyProof.Rows L2
noncomputable def Nv (own:Nat)(τ:A4):A4:=List.replicate own none++τ.drop own
def IY (g:AG)(t:AT)(a:AI)(own2:Nat)(d:AG)(t2:AT)(te:AE)(b:A4)(Q:km PV->Prop):km PV->km PV->Prop
 | [],acc=>Q acc
 | x::r,acc=>g x b λc=>t c λok=>if ok=true then a c λys=>acc.length+ys.length<sizeLine/\B9 d t2 te (Nv own2 c) (IY g t a own2 d t2 te b Q r) ys acc else IY g t a own2 d t2 te b Q r acc
def Nm (b:AI)(own:Nat)(ix:km Nat)(g:AG)(t:AT)(a:AI)(own2:Nat)(c:AG)(t2:AT)(te:AE):AA:=λτ Q=>b τ λxs=>IY g t a own2 c t2 te (Jg own ix τ) Q xs []
def SR.noOwn {K:AAJ}(s:SR K B T H a τ)(c:∀b,¬Ch a τ b){i:Nat}:τ[i]? ≠some (some (.own xs)):=λe=>by obtain⟨p,vs,d,_⟩:=s.own i xs e;exact c p ⟨i,xs,e,d⟩
def SR.swap {K:AAJ}{k:A4}(c:SR K B l m a τ)(n:∀b,¬Ch a τ b)(d:SR K B f g σ0 k)(o:Mv K l (mt B a τ) m f (mt B a τ) g):SR K B f g a τ:=
 ⟨c.len,λi x e=>let ⟨v,h,r⟩:=c.val i x e;⟨v,h,r.mv o⟩,λi xs e=>absurd e (c.noOwn n),λi j xs ys p e=>absurd e (c.noOwn n),d.tp,d.bm,d.bt,d.st⟩
def Jk {own:Nat}{j:Nat}(h:(Nv own τ)[j]? =some (some x)):own<=j/\τ[j]? =some (some x):=by
 unfold Nv at h;by_cases hj:j<own
 .rw [ACh (↑hj),AC8,AAM hj] at h;cases h
 .have dU:own<=j:=!0
  rw[ACU (↑dU),ACi,AEi] at h;rw[show own+(j-own)=j by omega] at h;exact⟨dU,h⟩
def SR.cut {K:AAJ}{own:Nat}(s:SR K B T H c τ)(d:∀b,¬Ch c τ b):SR K B T H (MA own c) (Nv own τ)/\∀b,¬Ch (MA own c) (Nv own τ) b:=by have g:∀b,¬Ch (MA own c) (Nv own τ) b:=λb ⟨i,xs,h,f⟩=>d b ⟨i,xs,(Jk h).2,(Kx f).2⟩;refine⟨⟨by simp[MA,Nv,s.len],λi x e=> ?_,λi xs e=>absurd (Jk e).2 (s.noOwn d),λi j xs ys p e=>absurd (Jk e).2 (s.noOwn d),s.tp,s.bm,s.bt,s.st⟩,g⟩;obtain⟨dU,f⟩:=Jk e;obtain⟨v,hv,r⟩:=s.val i x f;refine⟨v, ?_,r.mv (.anti s.va λa z=>z.elim .inl λz=>absurd z (g a))⟩;unfold MA;rw[ACU (↑dU),ACi,AEi,show own+(i-own)=i by omega];exact hv
structure Pn (D:Addr) (T:Addr->Prop) (H:Hp) (T':Addr->Prop) (H':Hp):Prop where
 keep:∀b o,¬T b->b≠D->H b=some o->H' b=some o
 sub:∀b,T b->T' b
 new:∀b,T' b->T b\/H b=none
 tp:∀b,H b≠none->H' b≠none
def Pn.refl:Pn D T H T H:=⟨λ_ _ _ _ e=>e,λ_ e=>e,λ_ e=> .inl e,λ_ e=>e⟩
def Cq.atD (s:Cq T H a c):Pn D T H a c:=⟨λb o t _ e=>s.keep b o t e,s.sub,s.new,λb e=>s.some e⟩
def Pn.upd:Pn D T H T (upd H D o):=⟨λb a _ n e=>by rw[Ae n];exact e,λ_ e=>e,λ_ e=> .inl e,λb e=>by
 by_cases h:b=D
 .subst h;rw[Ad];exact λz=>nomatch z
 .rw [Ae h];exact e⟩
def Pn.trans {T1:kf->Prop}(a:Pn D T H T1 H1)(b:Pn D T1 H1 c d):Pn D T H c d where
 keep:=λx o t n e=>b.keep x o (λz=>(a.new x z).elim t λz=>by rw[e] at z;cases z) n (a.keep x o t n e)
 sub:=λx t=>b.sub x (a.sub x t)
 new:=λx t=>(b.new x t).elim (λz=>a.new x z) λz=> .inr (by
  cases e:H x with
  | none=>rfl
  | some o=>exact absurd z (a.tp x (by rw[e];exact λz=>nomatch z)))
 tp:=λx e=>b.tp x (a.tp x e)
def cy {K:AAJ}{own:Nat}{N:AG}(hi:ae K s wi ai)(hg:Kr K g ag)(ht:Ni K tt Z)(sW:ae K true wi2 Y)(sV:Kr K g2 N)(yX:Ni K tt2 O)(he:Gr K te ta):eJ K (ir wi own ix g tt wi2 own2 g2 tt2 te) (Nm ai own ix ag Z Y own2 N O ta):=by
 intro B T j τ H Q AQ sr h k;refine hi B T j τ H _ _ sr h λJ xs T1 H1 s1 walk h1 D hD=> ?_;have E:=sr.stp s1;have nt1:¬T1 D:=λz=>by obtain⟨o,e,_⟩:=(E.tp D z).mut;rw[hD] at e;cases e
 have lay:=Cq.lay (o:= .lst []) E.tp hD;refine⟨λi m H2=>m=xs.length-i/\∃T2 vs r,Cq T1 H1 T2 H2/\H2 D=some (.lst vs)/\¬T2 D/\Az K T2 (λa=>mt B j τ a\/a=D) H2 vs r/\IY ag Z Y own2 N O ta (Jg own ix τ) AQ (xs.drop i) r,
  ⟨_,rfl,T1, [], [],lay,Ad,nt1, .nil,h1⟩, ?_⟩
 rintro i m H2 ⟨rfl,T2,vs,r,s2,ZE,F,r2,h2⟩;have srb:=E.blk (own:=own) (ix:=ix) s2 hD ZE F;have va2:Gs T2 (λa=>mt B j τ a\/a=D) H2:=⟨srb.tp,srb.bm⟩;have w:=walk (λa=>mt B j τ a\/a=D) T2 H2 ⟨E.va,λb o t _ e=>s2.keep b o t e,s2.sub,λb n t=>(s2.new b t).elim id λz=>absurd z n,λb n z=>z.elim id λz=>by subst z;exact absurd hD n⟩ va2 (.inr s2.keep);by_cases Es:i<xs.length
 .have VN:xs[i]? =some xs[i] :=AAi Es;rw[ADt Es] at h2;refine .inr ⟨w.go i _ VN,λv H3 yl=> ?_⟩;obtain⟨s3,r3⟩:=w.yld i _ v H3 VN yl;have P:=srb.stp s3;refine hg _ T2 _ _ H3 v _ _ _ P (r3.mv (.anti ⟨P.tp,P.bm⟩ λa z=>z.elim id λ⟨_,_,z,_⟩=>absurd z F3)) h2 λu l sr4 o4 h4=> ?_;have no4:∀b,¬Ch u l b:=λb z=>by obtain⟨_,_,z,_⟩:=o4 b z;exact absurd z F3
  refine ht _ T2 u l H3 _ _ sr4 h4 λok T5 H5 s5 h5=> ?_;have sr5:=sr4.stp s5;have jK:=s3.keep D _ F ZE;have kA:=s5.keep D _ F jK;have nt5:¬T5 D:=λz=>(s5.new D z).elim F λn=>by rw[n] at jK;cases jK
  have r5:=(r2.stp s3 va2).stp s5 ⟨P.tp,P.bm⟩;cases ok with
  | false=> rw[AAL AAY] at h5 ⊢;exact⟨_,!0,rfl,T5,vs,r,(s2.trans s3).trans s5,kA,nt5,r5,h5⟩
  | true=>
    rw[AAM rfl] at h5 ⊢;refine sW _ T5 u l H5 _ _ sr5 h5 λJ2 ys T6 H6 s6 walk2 h6=> ?_;obtain⟨hl,h6⟩:=h6;have R:=sr5.stp s6;have yB:=s6.keep D _ nt5 kA;have nt6:¬T6 D:=λz=>(s6.new D z).elim nt5 λn=>by rw[n] at kA;cases kA
    have va6:Gs T6 (λa=>mt B j τ a\/a=D) H6:=⟨R.tp,R.bm⟩;have r6:=r5.stp s6 ⟨sr5.tp,sr5.bm⟩;have s06:=((s2.trans s3).trans s5).trans s6;refine⟨λG m2 H7=>m2=ys.length-G/\∃M f c,Cq T1 H1 M H7/\Pn D T6 H6 M H7/\H7 D=some (.lst f)/\¬M D/\Az K M (λa=>mt B j τ a\/a=D) H7 f c/\c.length<=r.length+G/\
     B9 N O ta (Nv own2 l) (IY ag Z Y own2 N O ta (Jg own ix τ) AQ (xs.drop (i+1))) (ys.drop G) c,
     ⟨_,rfl,T6,vs,r,s06, .refl,yB,nt6,r6,AAR _,h6⟩, ?_⟩
    rintro G m2 H7 ⟨rfl,M,f,c,s7,d7,yC,S,r7,ha7,h7⟩;have U:=E.blk (own:=own) (ix:=ix) s7 hD yC S;have mEq:∀a,mt (B.blk j τ D) u l a->mt B j τ a\/a=D:=λa z=>z.elim id λz=>absurd z (no4 a);have mv7:Mv K T6 (mt (B.blk j τ D) u l) H6 M (mt (B.blk j τ D) u l) H7:=⟨R.va,λb o t m e=>d7.keep b o t (λz=>m (.inl (.inr z))) e,d7.sub,λb n t=>(d7.new b t).elim id λz=>absurd z n,λ_ _ z=>z⟩;have mv7':Mv K T6 (mt (B.blk j τ D) u l) H6 M (λa=>mt B j τ a\/a=D) H7:=⟨R.va,λb o t m e=>d7.keep b o t (λz=>m (.inl (.inr z))) e,d7.sub,λb n t=>(d7.new b t).elim id λz=>absurd z n,λ_ _ z=> .inl z⟩;have sr7:=R.swap no4 U mv7;have va7:Gs M (λa=>mt B j τ a\/a=D) H7:=⟨U.tp,U.bm⟩;obtain⟨sc7,no7⟩:=sr7.cut (own:=own2) no4;have w2:=walk2 (λa=>mt B j τ a\/a=D) M H7 mv7' va7 (.inl rfl);by_cases uV:G<ys.length
    .have nR:ys[G]? =some ys[G] :=AAi uV;rw[ADt uV] at h7;refine .inr ⟨w2.go G _ nR,λv8 H8 yl8=> ?_⟩;obtain⟨s8,r8⟩:=w2.yld G _ v8 H8 nR yl8;have W:=sc7.stp s8;refine sV _ M _ _ H8 v8 _ _ _ W (r8.mv (.anti ⟨W.tp,W.bm⟩ λa z=>z.elim id λz=>absurd z (no7 a))) h7 λσ9 τ9 sr9 o9 h9=> ?_;refine yX _ M σ9 τ9 H8 _ _ sr9 h9 λok T10 wV p sT=> ?_;have A:=sr9.stp p;have yD:=s8.keep D _ S yC;have j9:=p.keep D _ S yD;have X:¬T10 D:=λz=>(p.new D z).elim S λn=>by rw[n] at yD;cases yD
     have r10:=(r7.stp s8 va7).stp p ⟨W.tp,W.bm⟩;cases ok with
     | false=> rw[AAL AAY] at sT ⊢;exact⟨_,!0,rfl,T10,f,c,(s7.trans s8).trans p,(d7.trans s8.atD).trans p.atD,j9,X,r10,!0,sT⟩
     | true=>
       rw[AAM rfl] at sT ⊢;refine he _ T10 σ9 τ9 wV _ _ A sT λvy y I sM L r11 x6=> ?_;have C:=A.stp L;have yA:=L.keep D _ X j9;have nt11:¬I D:=λz=>(L.new D z).elim X λn=>by rw[n] at j9;cases j9
       have va11:Gs I (λa=>mt B j τ a\/a=D) sM:=⟨C.tp,C.bm⟩;have r12:=r10.stp L ⟨A.tp,A.bm⟩;have s12:=((s7.trans s8).trans p).trans L;have tp13:∀a,I a->E8 (upd sM D (.lst (f ++ [vy]))) a:=λa t=>by obtain⟨d,x,e,z⟩:=C.tp a t;exact⟨d,x,by rw[Ae (λw=>by subst w;exact nt11 t)];exact e,z⟩
       have mv13:Mv K I (λa=>mt B j τ a\/a=D) sM I (λa=>mt B j τ a\/a=D) (upd sM D (.lst (f ++ [vy]))):=⟨va11,λb o _ m e=>by rw[Ae (λw=>m (.inr w))];exact e,λ_ t=>t,λ_ _ t=>t,λ_ _ z=>z⟩;refine⟨f,yA,by rw[r7.length];omega,_,(by omega:ys.length-(G+1)<ys.length-G),rfl,I,f ++ [vy],c ++ [y],⟨λb o t e=> ?_,s12.sub,s12.new,tp13⟩,((((d7.trans s8.atD).trans p.atD).trans L.atD).trans .upd),Ad,nt11,(r12.append (.cons (r11.mv (.anti C.va λa z=> .inl z)) .nil)).mv mv13,by simp;omega,x6⟩;rw[Ae (Al e hD)];exact s12.keep b o t e
    .rw [AEe (as:=ys) (i:=G) (!0)] at h7;exact .inl ⟨w2.stop G (!0),_,(by omega:xs.length-(i+1)<xs.length-i),rfl,M,f,c,s7,yC,S,r7,h7⟩
 .rw [AEe (!0)] at h2;refine .inl ⟨w.stop i (!0), ?_⟩;exact k D vs r T2 H2 (s1.trans s2) (E.add s2 hD ZE Ko.lst F) (s1.none hD) ZE F (r2.mv (.anti va2 λa z=>by
   rcases z with(z|z)|z
   .exact .inl (.inl z)
   .exact .inr z
   .exact .inl (.inr z))) h2
def yd (K:AAJ)(s:kc)(a:AI):TI:=λf H R=>∃(B:C0) (T:kf->Prop) (τ:A4) (g:km PV->Prop),SR K B T H f τ/\a τ g/\
 ∀J xs d b,Cq T H d b->(∀M2 e c,Mv K d (mt B f τ) b e M2 c->Gs e M2 c->(s=true\/Yr d b c)->R1 K M2 J xs e c)->g xs->R J b
def mM {K:AAJ}:ae K s (yd K s a) a:=λB T d τ H R b c h k=>⟨B,T,τ,b,c,h,k⟩
section
variable {X:Cx}
def SI.of {iter:kd}(h:SI X b iter s a):PI X b iter (yd X.K s a):=by obtain⟨t,p,e⟩:=h;intro Sr f d H R I hw;obtain⟨B,T,τ,g,i,h,c⟩:=hw;exact p Sr f d H R I (e B T d τ H R g i h c)
structure de (X:Cx) (tg elt:Expr) (ifs:List Expr) (tg2 iter2:Expr) (ifs2:List Expr) (scope:Scope) (own:Nat) (ix:List Nat) (N:List Str) (g:AG) (t:AT) (ai2:AI) (own2:Nat) (g2:AG) (t2:AT) (te:AE):Prop where
 ex:∃g' t' wi2 g2' t2' te',MQ X tg elt ifs tg2 iter2 ifs2 scope own ix N g' t' wi2 own2 g2' t2' te'/\Kr X.K g' g/\Ni X.K t' t/\ae X.K true wi2 ai2/\Kr X.K g2' g2/\Ni X.K t2' t2/\Gr X.K te' te
def iU {iter:kd}{own:Nat}{N:km Str}{t:AT}(hc:X.calm=true)(hi:SI X h iter s m)(O:de X h c e d a b scope own ix N g t f own2 l t2 n)(hs:∀x,foldedSetIterable iter X.env x=pure x:=by intro _;rfl):SF X (.ListComp c [⟨h,iter,e,0⟩,⟨d,a,b,0⟩] scope pos) (Nm m own ix g t f own2 l t2 n):=by obtain⟨z,o,p⟩:=hi;obtain⟨g',t',r,u,v,w,O,sg,st,i,j,k,y⟩:=O.ex;exact⟨_,gk hc o O hs,cy p sg st i j k y⟩
def jw {scope:Scope}{own own2:Nat}{ix:km Nat}{N:km Str}{k:AG}{t:AT}(h1:scope.kind= .function)(h2:(scope.names.all λy=> !decide (y.2= .cell))=true)(h3:(scope.names.all λy=> !decide (y.2= .local)||decide (scope.names.lookup y.1=some .local))=true)(o:(scope.names.all λy=> !decide (y.2= .free)||decide (X.env.scope.names.lookup y.1=some .cell))=true)(p:N.length=own+ix.length)(r:SQ X (relabel scope X.env) own ix N=true)(u:own2<=own)(l:∀cl C s H ex pn,SK own (blk X (relabel scope X.env) N cl C s H ex pn) n g)(m:∀cl C s H ex pn,oW (blk X (relabel scope X.env) N cl C s H ex pn) f t)(h:∀cl C s H ex pn,SI (blk X (relabel scope X.env) N cl C s H ex pn) c a true d)(i:∀cl C s H ex pn,SK own2 (blk X (relabel scope X.env) N cl C s H ex pn) c k)(j:∀cl C s H ex pn,oW (blk X (relabel scope X.env) N cl C s H ex pn) b t2)(val:∀cl C s H ex pn,SE (blk X (relabel scope X.env) N cl C s H ex pn) e te)(v:∀cl C s H ex pn x,foldedSetIterable a (blk X (relabel scope X.env) N cl C s H ex pn).env x=pure x:=by intro _ _ _ _ _ _ _;rfl):de X n e f c a b scope own ix N g t d own2 k t2 te:=
 have O:=SD (te:=uH X.K te) h1 h2 h3 o p r (N7 (K:=X.K) (ag:=g)) (λcl C s H ex pn=>(l cl C s H ex pn).of) (λcl C s H ex pn=>(m cl C s H ex pn).of) (λcl C s H ex pn=>(val cl C s H ex pn).of)
 ⟨sS X.K own g,wK X.K t,yd X.K true d,sS X.K own2 k,wK X.K t2,uH X.K te,⟨O.kind,O.nocell,O.names,O.frees,O.ins,O.keep,N7,u,O.tgt,O.tst,λcl C s H ex pn=>(h cl C s H ex pn).of,v,λcl C s H ex pn=>(i cl C s H ex pn).of,λcl C s H ex pn=>(j cl C s H ex pn).of,O.val⟩,Tq,Tt,mM,Tq,Tt,Zx⟩
end
end PL
namespace PL
open PySem L2 PyProof.Rows
class jZ (n:Nat) (τ:A4) (τ':outParam A4):Prop where
 e:Nv n τ=τ'
instance:jZ 0 τ τ:=⟨rfl⟩
instance{x:ke AV}[h:jZ n r a] :jZ (n+1) (x::r) (none::a):=⟨by rw[<-h.e];rfl⟩
section
variable {ai ai2:AI}{g g2:AG}{tt t2:AT}{te:AE}{τ τ':A4}{QL:km PV->Prop}{own own2:Nat}{ix:km Nat}
instance[h1:t8 own a][h2:tQ ix τ b][h3:dc a b τ'] :Wp (Nm ai own ix g tt ai2 own2 g2 t2 te τ QL) (ai τ λxs=>IY g tt ai2 own2 g2 t2 te τ' QL xs []):=⟨λk=>by unfold Nm Jg;rw[h1.e,h2.e,h3.e];exact k⟩
instance[h:jZ own2 τ τ'] :Wp (B9 g2 t2 te (Nv own2 τ) QL ys a) (B9 g2 t2 te τ' QL ys a):=⟨λk=>by rw[h.e];exact k⟩
instance{a b:AE}{nx bk ct:A4->Prop}{rt:PV->Prop}:Wp (om i a b ⟨nx,rt,bk,ct⟩ τ) (b τ λy=>L8 i τ λxs=>a τ λk=>UI k λk=>wz (ZQ xs.length k) λj=>WE τ i (.own (xs.set j y)) nx):=⟨id⟩
theorem Uu (d:km PV->km PV->Prop)(hd:∀a,d [] a->QL a)(hs:∀x r a (R:km PV->Prop),(∀b,d r b->R b)->d (x::r) a->g x τ λc=>tt c λok=>if ok=true then ai2 c λys=>a.length+ys.length<sizeLine/\B9 g2 t2 te (Nv own2 c) R ys a else R a):∀xs a,d xs a->IY g tt ai2 own2 g2 t2 te τ QL xs a
 | [],a,h=>hd a h
 | x::r,a,h=>hs x r a _ (λb h2=>Uu d hd hs r b h2) h
theorem fH {r:A4}:∀(ys a:km PV),QL (a++ys)->B9 (Ak 0) Eg (aV 0) (none::r) QL ys a
 | [],a,h=>by rw[AEU] at h;exact h
 | y::ys,a,h=>fH ys (a ++ [y]) (by rw[List.append_assoc];exact h)
end
end PL
namespace L2
open PySem PySem.Spec PyProof.Rows
def dAt {h:Wf}{ep:Nat}(g:h.get? d=some o)(e:o.data= .dict es ep)(x:h.DictOf (Ax P w) d vs):h.DictAt (Ax P w) d vs ep:=by obtain⟨i,b,f,g',c,a,r⟩:=x;rw[g] at g';cases g';rw[e] at a;cases a;exact⟨o,es,g,c,e,r⟩
def O7 (H:Hp)(d:kf)(n ep:Nat)(kvs:km (CD×V)):Prop:=∃o es,H d=some (.frz o (.dK kvs))/\o.data= .dict es ep/\kvs.length=n
def Itm (d:kf)(n ep:Nat):It:=
 ⟨λi H=>∃kvs k x,O7 H d n ep kvs/\kvs[i]? =some (k,x),
  λi H v a=>∃T k x,v= .ref T/\H T=none/\a=upd H T (.tup [kV k,x])/\∀kvs,O7 H d n ep kvs->kvs[i]? =some (k,x),
  λi H=>∃kvs,O7 H d n ep kvs/\kvs.length<=i⟩
def O7.one {ep:Nat}(x:O7 H d n ep a)(y:O7 H d n ep b):a=b:=by obtain⟨o,es,e,_⟩:=x;obtain⟨g,f,c,_⟩:=y;rw[e] at c;cases c;rfl
def O7.at {ep:Nat}(I:Inv X Sr b H s)(x:O7 H d n ep kvs):∃vs,KV kvs vs/\s.heap.DictAt (Ax X.prog X.w) d vs ep:=by obtain⟨o,es,e,c,_⟩:=x;obtain⟨g,z,hd,vs,a,f⟩:=(show Bz X.prog X.w H s.heap d (.frz o (.dK kvs)) from I.hok d _ e);exact⟨vs,a,dAt g c f⟩
def gE {k:CD}(h:(Ax P w).is k u=true):RelV (kV k) u:=by
 rcases BQ h with⟨i,t,rfl,rfl⟩|⟨x,t,rfl,rfl⟩
 .exact ⟨_,rfl⟩
 .exact ⟨_,rfl⟩
def gF (r:KV kvs vs):∀{i:Nat} {k:CD} {x:V},kvs[i]? =some (k,x)->∃u,vs[i]? =some (k,u)/\RelV x u:=by
 unfold KV at r;induction r with
 | nil=>intro i k x h;simp at h
 | @cons p q ps qs h t ih=>
   intro i k x e;cases i with
   | zero=> simp at e;subst e;obtain⟨c,a⟩:=q;obtain⟨h1,h2⟩:=h;exact⟨a,by simp at h1;simp[h1],h2⟩
   | succ i=> obtain⟨u,hu,b⟩:=ih (i:=i) (k:=k) (x:=x) (↑e);exact⟨u,↑hu,b⟩
def Pu:entryFor table "dict_itemiterator.__iter__" =some Builtin.«dict_keyiterator.__iter__»:=
 entryFor_alias (id':="dict_keyiterator.__iter__") (by kernel_rfl) (by first | rfl|decide +kernel|(unfold String.splitOn;simp +decide [String.splitOnAux])) (!4) (by kernel_rfl)
def P0 {prog:gn}{s:ki}{k ep:Nat}{ok:kj}{Q:kj->ki->Prop}(he:IsItemIter s.heap it d k n ep ok b)(h:Q (.ref it) s):wpAny (model prog w) A (pyIter (.ref it)) Q E s:=by have a:s.TypeIs (.ref it) "dict_itemiterator" :=⟨_,he,rfl⟩;refine wpAny_pyIter_slot a AGd (AB7 AGd a Pu ?_ (F.args_dict_itemiterator_iter_1 _));show wpAny _ _ (ret (.ref it)) _ _ s;exact AAK ⟨_,rfl,"dict_itemiterator",_,a,F.slot_dict_itemiterator_next.lookup,h⟩
def Yg {P:gn}{K:AAJ}{it:kf}{ep:Nat}:Hu P w K (.Tuple es D pos) (Itm d n ep) [it] it (λk h=>∃ok c,IsItemIter h it d k n ep ok c) where
 mem:=!2
 obj:=λk h st p hp=>by
  obtain⟨ok,c,he⟩:=st;have b:p=it:=↑hp
  subst b;exact⟨_,he,λv z=>nomatch z⟩
 keep:=λk h h' st j=>by obtain⟨ok,c,he⟩:=st;exact⟨ok,c,j it (!2) _ he⟩
 item:=by
  intro X l hw m hc k Sr s A H E I i st r;subst l hw m;obtain⟨ok,c,he⟩:=st;obtain⟨kvs,t,x,hq,hx⟩:=r;obtain⟨vs,a,y⟩:=hq.at I;have hl:vs.length=n:=by obtain⟨_,_,_,_,e⟩:=hq;rw[<-e];exact a.length.symm
  subst hl;obtain⟨u,hu,F⟩:=gF a hx;have f:it<s.heap.objs.size:=AAN he;refine wpAny_pyNext_items_item he y hu λkey h1 G J L Q M=> ?_;refine⟨_,rfl,wpAny_letOwnedTupleGo_items (s:={s with heap:=h1}) J λh2 c1 c2=> ?_⟩;have g:∀p o,p≠it->h1.get? p=some o->h2.get? p=some o:=λp o q z=>c2.extBut _ _ q z;have B:∀p∈ [it],p<s.heap.objs.size:=λp hp=>by
   have b:p=it:=↑hp
   rw[b];exact f
  have j:∀p o,p ∉ [it] ->s.heap.get? p=some o->h2.get? p=some o:=λp o hp z=>by
   have b:p≠it:=↑hp
   exact g p o b (M p o b z)
  have N:Inv X Sr A (upd H s.heap.objs.size (.tup [kV t,x])) {s with heap:=h2,toks:=s.toks}:=I.turnedN i B j (AAR _)
   ⟨(by show 2<=sizeLine;decide), [key,u], .cons (gE G) (.cons F .nil),⟨_,g _ _ (AAx f) L,rfl,_,rfl⟩⟩
  refine⟨.ref s.heap.objs.size,upd H s.heap.objs.size (.tup [kV t,x]),N,rfl,⟨_,t,x,rfl,I.fresh,rfl,λC h'=> ?_⟩,⟨key,u,c1⟩,λp hp=> ?_⟩
  .rw [h'.one hq];exact hx
  .rw [Ae (AAQ (B p hp))];exact(i p hp).1
 done:=by
  intro X l hw m hc k Sr s A H E I i st r;subst l hw m;obtain⟨ok,c,he⟩:=st;obtain⟨kvs,hq,hx⟩:=r;obtain⟨vs,a,y⟩:=hq.at I;have hl:vs.length=n:=by obtain⟨_,_,_,_,e⟩:=hq;rw[<-e];exact a.length.symm
  have R:=a.length;subst hl;refine wpAny_pyNext_items_end (I.ok.hd hc) he y (by rw[AGe];omega) λh' O=>⟨rfl, ?_⟩;exact I.turnedL (t':=s.toks) i λp o hp z=>by
   have b:p≠it:=↑hp
   exact O p o b z
 self:=λ_ _ _ _ _ st h=>by obtain⟨ok,c,he⟩:=st;exact P0 he h
section
variable {X:Cx}
def Vw {te:TE}{apos:Pos}(he:PE X e te)(hb:attributeBase e "items" X.env (eval e X.env)=eval e X.env)(C:((backTo f (starEach [] X.env)).all (λx=> !x.1)&&(backToKw f (keywordEach [] X.env)).all (λx=>x.1.isSome)&&decide (([] :km kd).length+([] :km Keyword).length+(if ([] :km Keyword).isEmpty then 0 else 1)<30))=true)(hl:(apos.endLine==f.line)=true)(D:backTo f (starEach [] X.env)= []):PI X (.Tuple es B j) (.Call (.Attribute e "items" apos) [] [] f) (λm H R=>te m H λv H1=>∃d n ep kvs,v= .ref d/\O7 H1 d n ep kvs/\R (Itm d n ep) H1):=by
 intro Sr s m H R I h;refine AFM hb C hl AFN AGf PySem.F.type_dict_items (BA (he Sr s m H _ I h) λu i ⟨x,H1,k,E,d,n,ep,kvs,ex,t,G⟩=> ?_);subst ex;obtain rfl:u=Value.ref d:=E;obtain⟨vs,y,z⟩:=t.at k;have J:vs.length=n:=by obtain⟨_,_,_,_,e⟩:=t;rw[<-e];exact y.length.symm
 obtain⟨o,K,L,P,_⟩:=id t;obtain⟨t1,t2,M⟩:=Sj k (.inl ⟨kvs, .inr ⟨o,L⟩⟩);have A:i.heap.DictOf (Ax X.prog X.w) d vs:=let ⟨o,es,a,b,c,r⟩:=z;⟨o,es,ep,a,b,c,r⟩;refine⟨t1,t2, ?_⟩;rw[D];refine AEa rfl (PySem.evalArgs_none ?_);refine AEm AGf A.typeIs PySem.F.entry_dict_items (PySem.F.args_dict_items_1 _) (meets_dict_items (Ax X.prog X.w) d M) ⟨⟨vs,A⟩, ?_⟩;have N:(i.heap.push {cls:= .type "dict_items",data:= .fields #[.ref d] }).DictAt (Ax X.prog X.w) d vs ep:=by obtain⟨o,es,g,r⟩:=z;exact⟨o,es,AAP _ g,r⟩
 refine wpAny_pyIter_items (s:={i with heap:=i.heap.push {cls:= .type "dict_items",data:= .fields #[.ref d] }}) (knd:=Ax X.prog X.w) (d:=d) ?_ N ?_
 .exact ⟨_,AAV _ rfl,rfl,rfl⟩
 subst J;have l:(i.heap.push {cls:= .type "dict_items",data:= .fields #[.ref d] }).objs.size=i.heap.objs.size+1:=ACA ..;refine⟨_, [i.heap.objs.size+1],_,_,H1,congrArg Value.ref l,k.kept (t':=i.toks) λb Q q=>AAP _ (AAP _ q),Yg,⟨.none, .none, ?_⟩,λp hp=> ?_,G⟩
 .have:=AAV (i.heap.push {cls:= .type "dict_items",data:= .fields #[.ref d] }) (o:={cls:= .type "dict_itemiterator",data:= .fields #[Value.none,Value.bool false,Value.ref d,Value.int 0 0,Value.int (vs.length:Int) 0,Value.int (ep:Int) 0,Value.none,Value.none] }) rfl;rw[l] at this;exact this
 .have O:p=i.heap.objs.size+1:=↑hp
  subst O;exact k.fpOk (ACP _ _) (k.hok.fresh (ACP _ _))
end
end L2
namespace PL
open PySem PySem.Spec PyProof.Rows L2
section
variable {X:Cx}
def rj (a:km (TE×TE)):TE:=λd H Q=>∀p,H p=none->Ya a d (upd H p (.dK [])) λps b=>b p=some (.dK [])/\∃kvs:km (CD×V),ps=kvs.map (λc=>(kV c.1,c.2))/\kvs.length<=15/\∀o es ep,o.data= .dict es ep->Q (.ref p) (upd b p (.frz o (.dK (OD [] kvs))))
def gr {keys:km (ke kd)}(h:wX X pos keys values b)(k:keys.all (·.isSome)=true)(hl:keys.length=values.length)(l:keys≠ [])(f:keys.length<=15):PE X (.Dict keys values pos) (rj b):=by
 intro Sr s m H Q I q;have n:=I.hok.fresh (AAR s.heap.objs.size);have p:=I.laid (a:=s.heap.objs.size) (o:= .dK []) (h':=s.heap.push {cls:= .type "dict",data:= .dict #[] }) (t':=s.toks) (λ_ _ q=>AAP _ q) (AAR _) (U2 s.heap I.big);refine wpAny_Dict_walk (knd:=Ax X.prog X.w) k hl l f (BA (h Sr _ m _ _ p (q _ n)) λB C ⟨ps,D,i,g,e,kvs,ep,E,r⟩=> ?_);subst ep;obtain⟨t,c,u⟩:=Nt (P:=X.prog) (w:=X.w) g;obtain⟨z,hd,v,x,y⟩:=Y6 i.hok e;cases x;have hz:(OD [] kvs).length<=sizeLine:=by have h1:=IH kvs [];rw[AEk] at h1;rw[AES];omega
 refine⟨t,c,y,λh' d hs=> ?_⟩;obtain⟨o,es,ep,j,A⟩:=id d;refine⟨.ref s.heap.objs.size,_, ?_,rfl,r o es ep A.2.1⟩;exact Hl i (by rw[e];exact True.intro) hs ⟨o,j⟩ ⟨j,SJ hz hd (u.merge .nil) d⟩
def mT {c:kf->Prop}{H:Hp}(s:Cq T H c f)(hd:H d=none)(g:¬c d):Cq T H c (upd f d o) where
 keep b q t e:=by
  have n:b≠d:=λz=>by subst z;rw[hd] at e;cases e
  rw[Ae n];exact s.keep b q t e
 sub:=s.sub
 new:=s.new
 tp a t:=by
  have n:a≠d:=λz=>by subst z;exact g t
  obtain⟨x,y,e,r⟩:=s.tp a t;exact⟨x,y,by rw[Ae n];exact e,r⟩
def eY (a b:AE):AE:=λτ Q=>a τ λx=>b τ λy=>match x,y with | .int i, .int j=>Q (.dk [(i,j)])|_,_=>False
def rG (ha:SE X a u)(hb:SE X b w):SE X (.Dict [some a] [b] p) (eY u w):=by
 obtain⟨t,E,s⟩:=ha;obtain⟨t',h,F⟩:=hb;refine⟨_,gr (hU E h lX) rfl rfl (List.cons_ne_nil _ _) (ACC rfl),λB T y τ H Q L k q G=> ?_⟩;intro d hd;have c:Cq T H T (upd H d (.dK [])):=Cq.lay k.tp hd;have f:=k.stp c;have A:¬T d:=λz=>by obtain⟨o,e,_⟩:=(k.tp d z).mut;rw[hd] at e;cases e
 refine s B T y τ _ _ _ f q λv x T1 H1 l r1 I=>F B T1 y τ _ _ _ (f.stp l) I λM N C J D r2 m=> ?_;split at m <;> first | exact m.elim|skip
 rename_i i j;cases r1;cases r2;have n:J d=some (.dK []):=(l.trans D).keep _ _ A Ad;have g:=l.trans D;have r:¬C d:=λz=>by
  rcases g.new d z with z|z
  .exact A z
  .rw [Ad] at z;cases z
 refine⟨n, [(.inl i, .int j)],rfl,ACC rfl,λo es ep K=> ?_⟩;exact G _ _ C _ (mT (c.trans g) hd r) (.dk (kvs:= [(i,j)]) Ad K) m
end
end PL
namespace L2
open PySem PySem.Spec PyProof.Rows
def SH (J:It)(D:kf)(σ0:St)(g:TG)(f:TT)(h j:TE)(Q:Hp->Prop)(W:Nat->Nat->Hp->Prop):Prop:=
 ∀i m H,W i m H->(J.stop i H/\Q H)\/(J.go i H/\∀x c,J.yld i H x c->g x σ0 c λa l=>f a l λok d=>
  if ok=true then h a d λy n=>j a n λz e=>∃k kvs,y=kV k/\e D=some (.dK kvs)/\kvs.length<sizeLine/\∃b,b<m/\W (i+1) b (upd e D (.dK (EA kvs k z))) else ∃b,b<m/\W (i+1) b d)
def iu (b:TI)(own:Nat)(ix:km Nat)(g:TG)(c:TT)(d e:TE):TE:=λa H Q=>b a H λJ H1=>∀D,H1 D=none->
 ∃W:Nat->Nat->Hp->Prop,(∃m,W 0 m (upd H1 D (.dK [])))/\SH J D (Bc own ix a) g c d e (Q (.ref D)) W
section
variable {X:Cx}{tg kx vx iter:kd}{ifs:km kd}{scope:Scope}{pos:Pos}{wi:TI}{own:Nat}{ix:km Nat}{N:km Str}{g:TG}{tt:TT}{tk tv:TE}
def W7 {H:Hp}{s:ki}{cl:km (Str×kf)}{tn:Nat->Wf->Prop}{R:Result->ki->Prop}{Qh:Hp->Prop}{W:Nat->Nat->Hp->Prop}(hc:X.calm=true)(O:GJ X tg kx ifs scope own ix N g tt tk)(OV:∀cl C s H ex pn,PE (blk X (relabel scope X.env) N cl C s H ex pn) vx tv)(T:Hu X.prog X.w X.K tg J l it tn)(I:Inv X Sr S H s)(hf:∀b∈l,Ef X Sr H b)(Es:∀b∈l,b<s.heap.objs.size)(hW:SH J D (Bc own ix S) g tt tk tv Qh W)(hR:∀σ' a U,Inv (blk X (relabel scope X.env) N cl s.heap.objs.size s H l (X.pn++Sr)) [] σ' a U->Qh a->R (.ok .next) U)(n:Nat)(s0:ki)(h0:∃i a,Inv (blk X (relabel scope X.env) N cl s.heap.objs.size s H l (X.pn++Sr)) [] (Bc own ix S) a s0/\tn i s0.heap/\(∀b∈l,a b=none)/\W i n a):codeAny (model X.prog X.w) X.A (.compLoop (.DictComp kx vx [⟨tg,iter,ifs,0⟩] scope pos) 0 (.ref it) (.ref D) (Fd X.env (relabel scope X.env) cl s.heap.objs.size)) R s0:=by
 refine AE2 rfl (λn U=>∃i a,Inv (blk X (relabel scope X.env) N cl s.heap.objs.size s H l (X.pn++Sr)) [] (Bc own ix S) a U/\tn i U.heap/\(∀b∈l,a b=none)/\W i n a) (λn s1 h1=> ?_) n h0;obtain⟨i,H1,B1,Z,fr1,w1⟩:=h1;generalize f:blk X (relabel scope X.env) N cl s.heap.objs.size s H l (X.pn++Sr)=Y at *;have eA:Y.A=X.A:=by rw[<-f];rfl
 have eP:Y.prog=X.prog:=by rw[<-f];rfl
 have eW:Y.w=X.w:=by rw[<-f];rfl
 have eK:Y.K=X.K:=by rw[<-f];rfl
 have eE:Fd X.env (relabel scope X.env) cl s.heap.objs.size=Y.env:=by rw[<-f];rfl
 have eX:Y.xe=λ_ _=>False:=by rw[<-f];rfl
 have eC:Y.calm=true:=by rw[<-f];exact hc
 have hg:PG Y tg g:=by rw[<-f];exact O.tgt _ _ _ _ _ _
 have ht:aZ Y ifs tt:=by rw[<-f];exact O.tst _ _ _ _ _ _
 have hk:PE Y kx tk:=by rw[<-f];exact O.val _ _ _ _ _ _
 have hv:PE Y vx tv:=by rw[<-f];exact OV _ _ _ _ _ _
 have B:∀{a:Hp},(∀b∈l,a b=none)->∀b∈l,Ef Y [] a b:=λ{a} hn b hb=>by
  obtain⟨_,a1,a2,a3,a4,a5⟩:=hf b hb;refine⟨hn b hb, ?_, ?_, ?_, ?_, ?_⟩
  .rw [<-f];exact AAQ (Es b hb)
  .rw [<-f];exact I.notStk a1 a2
  .rw [<-f];exact .inl hb
  .intro x c e;exact(B1.ok.exf b (by rw[<-f];exact hb)).2 x c e
  .intro p hp;have:p∈X.pn++Sr:=by rw[<-f] at hp;simpa[blk] using hp
   exact a5 p this
 rw[eE,<-eA,<-eP,<-eW];show wpAny _ _ ((compTurn (.DictComp kx vx [⟨tg,iter,ifs,0⟩] scope pos) 0 (.ref it) (.ref D) Y.env).onRaise (λx=>do noteFrame x Y.env;theTreesLotGoes x)) _ _ s1;refine AE3 ?_;rw[compTurn_dict];have ff:∀{α:Type} {t:Sem α} {Q:α->ki->Prop} {E:kj->ki->Prop} {s:ki},wpAny (model Y.prog Y.w) Y.A t Q Y.xe s->wpAny (model Y.prog Y.w) Y.A t Q E s:=λh=>ACE h (λ_ _ q=>q) λ_ _ z=>by rw[eX] at z;exact z.elim
 refine AAI (ACF (AAI ?_));rcases hW i n H1 w1 with⟨stop,qn⟩|⟨go,step⟩
 .have zd:=λE=>T.done Y eP eW eK eC i [] s1 _ H1 E B1 (B fr1) Z stop;rw[<-eP,<-eW] at zd;refine BA (zd _) λr s4 ⟨hr,I4⟩=> ?_;subst hr;exact AAK (hR _ _ _ I4 qn)
 .have zi:=λE=>T.item Y eP eW eK eC i [] s1 _ H1 E B1 (B fr1) Z go;rw[<-eP,<-eW] at zi;refine BA (zi _) λr s4 ⟨u,hr,h4⟩=> ?_;subst hr;refine AAI (BA h4 λ_ s5 ⟨x,H5,I5,r5,y5,G,fr5⟩=> ?_);have I5':=I5.pinned (B fr5) (T.obj _ _ G);refine AAI (BA (ff (hg _ s5 _ H5 x u _ I5' r5 (O.keep _ _ _ _ (step x H5 y5)))) λ_ s6 ⟨F,H6,I6,q6,l6,k6⟩=> ?_);refine AAI (BA (ff (ht _ s6 F H6 _ I6 q6)) λok s7 ⟨H7,I7,q7⟩=> ?_);have back:∀{L:Hp} {M:ki} {P:Nat},Inv Y ([] ++ Ff l s5.heap) F L M->P<n->W (i+1) P L->
   ∃m,m<n/\∃i a,Inv Y [] (Bc own ix S) a M/\tn i M.heap/\(∀b∈l,a b=none)/\W i m a:=λ{L M P} I8 hm w8=>by
   refine⟨P,hm,i+1,L,I8.unpinned.weak l6.symm (λj v hj=> ?_),T.keep _ _ _ G λb hb o e=>(I8.pin (b,o) (AAj _ (AAj _ (B5 hb e)))).1,λb hb=> ?_,w8⟩
   .rw [k6 j (GN hj).1];exact hj
   .obtain ⟨o,e,d⟩:=T.obj _ _ G b hb;exact(I8.pin (b,o) (AAj _ (AAj _ (B5 hb e)))).2.1
  cases ok with
  | false=> obtain⟨P,hm,w8⟩:=q7;exact AAK ⟨rfl,back I7 hm w8⟩
  | true=>
    refine AAI (AAI (BA (ff (hk _ s7 F H7 _ I7 q7)) λkv M ⟨y,L,I8,r8,q8⟩=> ?_));refine AAI (AAp (BA (ff (hv _ M F L _ I8 q8)) λvv s9 ⟨z,H9,I9,r9,k,kvs,ey,hD,hz,P,hm,w9⟩=> ?_));subst ey;refine AAI (ACF (AAp ?_));obtain⟨z1,hd1,vs,rel,dd⟩:=Y6 I9.hok hD;have hz2:vs.length<=sizeLine:=by rw[<-rel.length];exact z1
    have hl:(EA kvs k z).length<=sizeLine:=by have:=EM kvs k z;omega
    refine wpAny_dictSet_pairs (hsz:=hz2) (Q0 r8) dd λh' dd' hs=> ?_;have he:∃q,h'.get? D=some q:=let ⟨q,_,_,hq,_⟩:=dd';⟨q,hq⟩;have I10:=Hl (t':=s9.toks+1) I9 (by rw[hD];exact True.intro) hs he (SJ hl hd1 (rel.put k r9) dd');exact AAK ⟨rfl,back I10 hm w9⟩
def az {H:Hp}{s:ki}{k:km kf}{cl:km (Str×kf)}{tn:Nat->Wf->Prop}{Qd:kf->Hp->Prop}(hc:X.calm=true)(O:GJ X tg kx ifs scope own ix N g tt tk)(R:∀cl C s H ex pn,PE (blk X (relabel scope X.env) N cl C s H ex pn) vx tv)(T:Hu X.prog X.w X.K tg J k it tn)(I:Inv X Sr v H s)(S:∀b∈k,Ef X Sr H b)(st:tn 0 s.heap)(h1:∀y c,cl.lookup y=some c->X.env.cells.lookup y=some c)(h2:∀y,(y,NameKind.free)∈scope.names->∃c,cl.lookup y=some c)(hq:∀D,H D=none->∃W:Nat->Nat->Hp->Prop,(∃m,W 0 m (upd H D (.dK [])))/\SH J D (Bc own ix v) g tt tk tv (Qd D) W)(U:∀D C j l,(∃m,l.heap.Ns C m)->Inv X Sr v j l->(∀h E,Inv X Sr h j E->∀h',Heap.SameBut C E.heap h'->Inv X Sr h j {E with heap:=h'})->C≠X.env.locals->(∀x c,X.env.cells.lookup x=some c->C≠c)->Qd D j-> compPost (model X.prog X.w) X.A X.xe use Q (.ref D) C (.ok .next) l):wpAny (model X.prog X.w) X.A (newDict #[]) (λn p=>wpAny (model X.prog X.w) X.A (newFunctionEnv scope X.env.globals cl [] X.env.qual none .none (some X.env)) (λf r=> codeAny (model X.prog X.w) X.A (.compStart (.DictComp kx vx [⟨tg,iter,ifs,0⟩] scope pos) 0 (.ref it) n {f with scope:=relabel scope X.env}) (compPost (model X.prog X.w) X.A X.xe use Q n f.locals) r) X.xe p) X.xe s:=by
 refine AB9 ?_ (by simp[sizeOk]);have i:Inv X Sr v (upd H s.heap.objs.size (.dK [])) {s with heap:=s.heap.push {cls:= .type "dict",data:= .dict #[] }}:=I.laid (a:=s.heap.objs.size) (o:= .dK []) (t':=s.toks) (λ_ _ q=>AAP _ q) (AAR _) (U2 s.heap I.big);have Y:=I.fresh;obtain⟨W,⟨m0,Z⟩,hW⟩:=hq _ Y;have fx:∀b∈k,b<s.heap.objs.size:=λb hb=>by obtain⟨o,e,_⟩:=T.obj _ _ st b hb;exact AAN e
 have F:∀b∈k,Ef X Sr (upd H s.heap.objs.size (.dK [])) b:=λb hb=>by obtain⟨a0,ar⟩:=S b hb;exact⟨by rw[Ae (AAQ (fx b hb))];exact a0,ar⟩
 generalize ue:({s with heap:=s.heap.push {cls:= .type "dict",data:= .dict #[] }}:ki)=s3 at i;have t:tn 0 s3.heap:=T.keep _ _ _ st λb hb o e=>by rw[<-ue];exact AAP _ e
 have G:∀b∈k,b<s3.heap.objs.size:=λb hb=>by obtain⟨o,e,_⟩:=T.obj _ _ t b hb;exact AAN e
 refine AFs O.nocell (by intro y hy;simp at hy) (λd nS uf=> ?_) O.kind;have P:∀b o,s3.heap.get? b=some o->d.get? b=some o:=λb o e=>uf.extBut b o (AAQ (AAN e)) (AAP _ e);have jO:∀y,((relabel scope X.env).names.lookup y=some .cell\/(relabel scope X.env).names.lookup y=some .free)->∃c,cl.lookup y=some c:=λy hy=>by
  rcases hy with z|z
  .exact h2 y (Dg O.nocell (HI z) (.inl rfl))
  .exact h2 y (Dg O.nocell (HI z) (.inr rfl))
 have B:=Wx (N:=N) (t':=s3.toks+([] :km (Str×kj)).length) i F G (sc:=relabel scope X.env) O.kind h1 jO O.ins nS P;have u:tn 0 d:=T.keep _ _ _ t λb hb o e=>P b o e;have loop:∀L:ki,L={s3 with heap:=d,toks:=s3.toks+([] :km (Str×kj)).length}->
  codeAny (model X.prog X.w) X.A (.compLoop (.DictComp kx vx [⟨tg,iter,ifs,0⟩] scope pos) 0 (.ref it) (.ref s.heap.objs.size) (Fd X.env (relabel scope X.env) cl s3.heap.objs.size)) (compPost (model X.prog X.w) X.A X.xe use Q (.ref s.heap.objs.size) s3.heap.objs.size) L:=by rintro L rfl;refine W7 (cl:=cl) (Qh:=Qd s.heap.objs.size) hc O R T i F G hW (λσ' j l M q'=> ?_) m0 _ ⟨0,_,B,u,λb hb=>(F b hb).1,Z⟩;refine U _ _ j l (let ⟨m,hm,_⟩:=M.loc;⟨m,hm⟩) (SB (own:=own) (ix:=ix) i F G M) (λh E I2 h' hs=>Np i rfl I2 M.free hs) (AAx i.lt) (λx c e=>AAx (i.szLt e)) q'
 exact codeAny_compStart_dict (loop _ rfl) (T.self _ 0 _ _ _ u (loop _ rfl))
def hX {i:Nat}{b:Pos}(hc:X.calm=true)(hN:X.N.Nodup)(l:X.N[i]? =some x)(hx:Loc X.env.scope x)(hi:PI X tg iter wi)(O:GJ X tg kx ifs scope own ix N g tt tk)(n:∀cl C s H ex pn,PE (blk X (relabel scope X.env) N cl C s H ex pn) vx tv)(o:swapsWith (.DictComp kx vx [⟨tg,iter,ifs,0⟩] scope pos) (some (.Name x pos')) b.line X.env=pure true:=by rfl)(hs:∀x,foldedSetIterable iter X.env x=pure x:=by intro _;rfl)(p:X.fn x=true\/X.env.scope.names.lookup x=some .local:=by first | exact .inl rfl|exact .inr rfl|assumption):PS X (.Assign [.Name x pos'] (.DictComp kx vx [⟨tg,iter,ifs,0⟩] scope pos) b) (QF (iu wi own ix g tt tk tv) (BV i)):=by
 intro Sr s k H D I h;obtain⟨cl,r,h1,h2⟩:=GO (env:=X.env) (scope:=scope) λy hy e=>I.ok.has y.1 (.inl (O.frees y hy e));rw[exec_Assign_Name_used _ _ _ _ o];refine AAI (ACF (AAI ?_));show wpAny _ _ (do let _ <-comprehension (.DictComp kx vx [⟨tg,iter,ifs,0⟩] scope pos) scope X.env _ (newDict #[]) false (eval iter X.env) (some (assign (.Name x pos') X.env))) _ _ s;refine AAI (BA (AE4 (use:=some (assign (.Name x pos') X.env)) (Q:=λ_ c=>SP X Sr D .next c) rfl hs r O.kind O.names (BA (hi Sr s k H _ I h) λv S hv=>BA hv λt U u=> ?_)) λ_ c hq=>AAK (AAK hq));obtain⟨it,W,tn,J,Y,rfl,w,T,f,f2,q⟩:=u;refine az (Qd:=λd j=>BV i (.ref d) k j D.nx) hc O n T w f2 f h1 h2 q λd C j c A B gone E F G=> ?_;obtain⟨m,K⟩:=A;show wpAny _ _ (assign (.Name x pos') X.env (.ref d)) _ _ c;refine AFh (LW (v:= .ref d) B hN l hx rfl (λL M ⟨a,P,ha⟩=> ?_) p);have R:C≠a:=by
  rcases ha with z|z
  .rw [z];exact E
  .exact F x a z
 exact⟨m,K.sameBut P R,λh' hs=>⟨_,j,gone _ L M h' hs,G⟩⟩
end
section
variable {X:Cx}
def rp (i:Nat)(t:TS):TS:=λD b H=>∃a kvs,b[i]? =some (some (.ref a))/\H a=some (.dK kvs)/\∀o es ep,o.data= .dict es ep->t D b (upd H a (.frz o (.dK kvs)))
def ln {rest:km Stmt}{t:TS}(h:Ul X rest t):Ul X rest (rp i t):=by intro Sr s c H D I q;obtain⟨a,kvs,_,e,q⟩:=q;obtain⟨z,hd,vs,b,d⟩:=Y6 I.hok e;obtain⟨o,es,ep,f,g⟩:=id d;have j:Inv X Sr c (upd H a (.frz o (.dK kvs))) {s with heap:=s.heap,toks:=s.toks}:=Hl (h':=s.heap) I (by rw[e];exact True.intro) ⟨rfl,λ_ _=>rfl⟩ ⟨o,f⟩ ⟨f,SJ z hd b d⟩;exact h Sr s c _ D j (q o es ep g.2.1)
end
end L2
namespace PL
open PySem PySem.Spec PyProof.Rows L2
noncomputable def Fi (m:km (Int×Int))(k v:Int):km (Int×Int):=if (m.any λp=>decide (p.1=k))=true then m.map (λp=>if p.1=k then (p.1,v) else p) else m ++ [(k,v)]
noncomputable def Eb (m:km (Int×Int))(k:Int):Int:=((m.find? λp=>decide (p.1=k)).map (·.2)).getD 0
def kM (m:km (Int×Int))(k:Int):((F6 m).any λa=>decide (a.1=(.inl k:CD)))=m.any λp=>decide (p.1=k):=by
 induction m with
 | nil=>rfl
 | cons p r ih=> unfold F6 at ih ⊢;rw[AAW,ADK,ADK,ih];congr 1;simp
def ZM (m:km (Int×Int))(k v:Int):F6 (Fi m k v)=EA (F6 m) (.inl k) (.int v):=by
 unfold Fi EA;rw[kM];split
 .unfold F6;rw[ADF,ADF];apply ADG;intro p _;simp only[Function.comp];by_cases h:p.1=k
  .simp [h]
  .simp [h]
 .unfold F6;rw[AAv];rfl
def kN (m:km (Int×Int))(k:Int):(EZ (F6 m) (.inl k)).getD (.int 0)= .int (Eb m k):=by
 induction m with
 | nil=>rfl
 | cons p r ih=>
   unfold F6 at ih ⊢;rw[AAW];by_cases h:p.1=k
   .rw [GF (by simp[h])];simp[Eb,h]
   .rw [GE (by simp[h]),ih];simp[Eb,h]
def J8 (m:km (Int×Int))(k v:Int):(Fi m k v).length<=m.length+1:=by
 unfold Fi;split
 .rw [AAT];omega
 .simp
def Br (many:Int)(m:km (Int×Int)):km (Int×Int):=m.foldl (λa p=>Fi a p.1 (many*p.2)) []
def Si {m:km (Int×Int)}{i:Nat}(h:i<m.length):(F6 m)[i]? =some (.inl m[i].1, .int m[i].2):=by unfold F6;rw[AAu,AAi h];rfl
def Ht {c a:Type}{f:a->c->a}{b:a}{m:km c}{i:Nat}(h:i<m.length):(m.take (i+1)).foldl f b=f ((m.take i).foldl f b) m[i] :=by rw[List.take_succ_eq_append_getElem h,ADM];rfl
def jy {K:AAJ}{H:Hp}{r:L2.St}{s:Nat}{many:Int}{ep:Nat}{Q:V->Hp->Prop}(y:O7 H d n ep (F6 m))(A:r[s]? =some (some (.int many)))(hl:m.length<sizeLine)(ok:∀p∈m,MulOk many p.2)(q:∀D c,H D=none->(∀b o,H b=some o->c b=some o)->c D=some (.dK (F6 (Br many m)))->Q (.ref D) c):∀D,H D=none->∃W:Nat->Nat->Hp->Prop,(∃k,W 0 k (upd H D (.dK [])))/\SH (Itm d n ep) D (Bc 2 [s] r) (Pw K 2 (C3 (BV 0) (C3 (BV 1) MD))) mY (DI 0) (c6 (rI MulOk λi j=> .int (i*j)) (DI 2) (DI 1)) (Q (.ref D)) W:=by
 intro D u;have B:Bc 2 [s] r= [none,none,some (.int many)] :=by unfold Bc;simp[A]
 rw[B];let W:Nat->Nat->Hp->Prop:=λi k c=>i+k=m.length/\(∀b o,H b=some o->c b=some o)/\c D=some (.dK (F6 (Br many (m.take i))))/\(Br many (m.take i)).length<=i;refine⟨W,⟨m.length,AFP _,λb o e=>by rw[Ae (Al e u)];exact e,Ad,AAR _⟩, ?_⟩;rintro i k c ⟨hi,ex,l,C⟩;have f:O7 c d n ep (F6 m):=let ⟨o,es,a,b⟩:=y;⟨o,es,ex _ _ a,b⟩;cases k with
 | zero=> left;refine⟨⟨_,f,by unfold F6;rw[AAT];omega⟩,q D c u ex ?_⟩;rw[ADA (!0)] at l;exact l
 | succ k=>
   right;have g:i<m.length:=!0
   refine⟨⟨_,_,_,f,Si g⟩,λx F E=> ?_⟩;obtain⟨t,G,I,rfl,v,rfl,hu⟩:=E;have hx:=hu _ f;rw[Si g] at hx;cases hx;have J:D≠t:=λz=>by subst z;rw[l] at v;cases v
   have h:∀b o,c b=some o->upd c t (.tup [kV (.inl m[i].1), .int m[i].2]) b=some o:=λb o e=>by rw[Ae (Al e v)];exact e
   refine⟨t,_,rfl, .inl (.inl (.inl Ad)),rfl,_,_,rfl,_,_,rfl,rfl, ?_⟩;dsimp only[mY];rw[AAM rfl];refine⟨_,rfl,_,rfl,_,rfl,many,m[i].2,rfl,rfl,ok _ (AFK g), ?_⟩;refine⟨.inl m[i].1,_,rfl,h _ _ l,by unfold F6;rw[AAT];omega,k,!0,!0,λb o e=> ?_, ?_, ?_⟩
   .rw [Ae (Al e u)];exact h _ _ (ex _ _ e)
   .rw [Ad];unfold Br;rw[Ht g,ZM]
   .unfold Br at C ⊢;rw[Ht g];have:=J8 ((m.take i).foldl (λw p=>Fi w p.1 (many*p.2)) []) m[i].1 (many*m[i].2);omega
def CK (more:Int)(a m:km (Int×Int)):km (Int×Int):=m.foldl (λa p=>Fi a p.1 (Eb a p.1+more*p.2)) a
def gL (d a b c:Nat):TS:=oA (DI d) (DI a) (c6 (Me λi j=> .int (i+j)) (iy (DI d) (DI a) (tC (.int 0))) (c6 (rI MulOk λi j=> .int (i*j)) (DI c) (DI b)))
def kY {K:AAJ}{H H1:Hp}{σ0:L2.St}{D:L6}{B c f s:Nat}{more:Int}{ep:Nat}(X:B≠c)(Y:B≠f)(Z:s≠c)(n4:s≠f)(n5:c≠f)(l1:c<σ0.length)(l2:f<σ0.length)(fd:O7 H d n ep (F6 m))(ha:H a=none)(J:∀b o,H b=some o->H1 b=some o)(h1:H1 a=some (.dK (F6 acc0)))(hw:σ0[B]? =some (some (.ref a)))(hm:σ0[s]? =some (some (.int more)))(ok:∀p∈m,MulOk more p.2)(hl:acc0.length+m.length<sizeLine)(L:∀σ' g,σ'.length=σ0.length->(∀j,j≠c->j≠f->σ'[j]? =σ0[j]?)->(∀b o,H b=some o->g b=some o)->g a=some (.dK (F6 (CK more acc0 m)))->D.nx σ' g):∃W:Nat->Nat->L2.St->Hp->Prop,(∃k,W 0 k σ0 H1)/\∀i k v g,W i k v g-> ((Itm d n ep).stop i g/\D.nx v g)\/((Itm d n ep).go i g/\∃N:L2.St->Hp->Prop,(∀σ' w,N σ' w->∃R,R<k/\W (i+1) R σ' w)/\∀x w,(Itm d n ep).yld i g x w->Pw K 2 (C3 (BV c) (C3 (BV f) MD)) x v w λl S=>gL B c f s {D with nx:=N,ct:=N,bk:=D.nx} l S):=by
 let W:Nat->Nat->L2.St->Hp->Prop:=λi k v g=>i+k=m.length/\(v.length=σ0.length/\∀j,j≠c->j≠f->v[j]? =σ0[j]?)/\(∀b o,H b=some o->g b=some o)/\g a=some (.dK (F6 (CK more acc0 (m.take i))))/\(CK more acc0 (m.take i)).length<=acc0.length+i;refine⟨W,⟨m.length,AFP _,⟨rfl,λ_ _ _=>rfl⟩,J,h1,AAR _⟩, ?_⟩;rintro i k v g ⟨hi,⟨T,U⟩,ex,M,O⟩;have y:O7 g d n ep (F6 m):=let ⟨o,es,a,b⟩:=fd;⟨o,es,ex _ _ a,b⟩;cases k with
 | zero=> left;refine⟨⟨_,y,by unfold F6;rw[AAT];omega⟩,L v g T U ex ?_⟩;rw[ADA (!0)] at M;exact M
 | succ k=>
   right;have C:i<m.length:=!0
   refine⟨⟨_,_,_,y,Si C⟩,λσ' w=>W (i+1) k σ' w,λσ' w h=>⟨k,!0,h⟩,λx w yl=> ?_⟩;obtain⟨t,kk,xx,rfl,hn,rfl,hu⟩:=yl;have hx:=hu _ y;rw[Si C] at hx;cases hx;have z:∀b o,g b=some o->upd g t (.tup [kV (.inl m[i].1), .int m[i].2]) b=some o:=λb o e=>by rw[Ae (Al e hn)];exact e
   refine⟨t,_,rfl, .inl (.inl (.inl Ad)),rfl,_,_,rfl,_,_,rfl,rfl, ?_⟩;generalize G:(v.set c (some (kV (.inl m[i].1)))).set f (some (V.int m[i].2))=l;have A:l.length=σ0.length:=by rw[<-G];simp[T]
   have r:∀j,j≠c->j≠f->l[j]? =σ0[j]? :=λj h h'=>by rw[<-G,AAs (AA6 h'),AAs (AA6 h)];exact U j h h'
   have E:l[c]? =some (some (.int m[i].1)):=by rw[<-G,AAs (AA6 n5),ADh (!0)];rfl
   have P:l[f]? =some (some (.int m[i].2)):=by rw[<-G,ADh (by simp;omega)]
   have F:l[B]? =some (some (.ref a)):=by rw[r B X Y];exact hw
   have Q:l[s]? =some (some (.int more)):=by rw[r s Z n4];exact hm
   have I:=z _ _ M;generalize hH:upd g t (.tup [kV (.inl m[i].1), .int m[i].2])=S at z I;refine⟨_,F,a,rfl, .inl ⟨_, .inl I⟩,_,E,_,Pg.k (k:= .inl m[i].1) I,_,Q,_,P,more,m[i].2,rfl,rfl,ok _ (AFK C), ?_⟩;rw[kN];refine⟨_,_,rfl,rfl,_,F,_,E,a,_,rfl,Wc.k (k:= .inl m[i].1) I (by unfold F6;rw[AAT];omega),!0,⟨A,r⟩,λb o e=> ?_, ?_, ?_⟩
   .rw [Ae (Al e ha)];exact z _ _ (ex _ _ e)
   .rw [Ad];unfold CK;rw[Ht C,ZM]
   .unfold CK at O ⊢;rw[Ht C];have:=J8 ((m.take i).foldl (λu p=>Fi u p.1 (Eb u p.1+more*p.2)) acc0) m[i].1 (Eb ((m.take i).foldl (λu p=>Fi u p.1 (Eb u p.1+more*p.2)) acc0) m[i].1+more*m[i].2);omega
def itm (te:TE):TI:=λa H R=>te a H λv H1=>∃d n ep kvs,v= .ref d/\O7 H1 d n ep kvs/\R (Itm d n ep) H1
def dcT (K:AAJ)(te:TE)(a b:Nat):TS:=QF (iu (itm te) 2 [b] (Pw K 2 (C3 (BV 0) (C3 (BV 1) MD))) mY (DI 0) (c6 (rI MulOk λi j=> .int (i*j)) (DI 2) (DI 1))) (BV a)
def mgT (K:AAJ)(te:TE)(d a b c:Nat):TS:=rm (itm te) (Pw K 2 (C3 (BV a) (C3 (BV b) MD))) (gL d a b c)
section
variable {K:AAJ}{B:C0}{T:kf->Prop}{H:Hp}{σ σ':L2.St}{τ τ':A4}
def SR.loose (s:SR K B T H σ τ)(hl:σ'.length=τ'.length)(h:∀(j:Nat) (a:AV),τ'[j]? =some (some a)->τ[j]? =some (some a)/\σ'[j]? =σ[j]?):SR K B T H σ' τ'/\∀b,Ch σ' τ' b->Ch σ τ b:=by
 have g:∀b,Ch σ' τ' b->Ch σ τ b:=λb ⟨j,xs,h1,h2⟩=>let ⟨c,d⟩:=h j _ h1;⟨j,xs,c,by rw[<-d];exact h2⟩;have i:Mv K T (mt B σ τ) H T (mt B σ' τ') H:= .anti s.va λa m=>m.elim .inl λz=> .inr (g a z);refine⟨⟨hl,λj y e=> ?_,λj ys e=> ?_,λj k ys o p r t l n=> ?_,s.tp,s.bm,s.bt,s.st⟩,g⟩
 .obtain ⟨c,d⟩:=h j _ e;obtain⟨w,hw,f⟩:=s.val j y c;exact⟨w,by rw[d];exact hw,f.mv i⟩
 .obtain ⟨c,d⟩:=h j _ e;obtain⟨p,vs,h1,h2,h3,u⟩:=s.own j ys c;exact⟨p,vs,by rw[d];exact h1,h2,h3.mv i,u⟩
 .obtain ⟨c,d⟩:=h j _ r;obtain⟨b1,b2⟩:=h k _ t;rw[d] at l;rw[b2] at n;exact s.dist j k ys o p c b1 l n
end
def lE (x:PV)(R:km (Int×Int)->Prop):Prop:=match x with | .dk m=>R m|_=>False
def Zc {R:km (Int×Int)->Prop}(h:lE x R):∃m,x= .dk m/\R m:=by cases x <;> first | exact⟨_,rfl,h⟩|exact h.elim
def eZ (c a b e d:Nat)(f g:AE):AS:=λD τ=>(c<τ.length/\a<τ.length/\b<τ.length)/\f τ λx=>lE x λm1=>∃many,τ[e]? =some (some (.val (.int many)))/\m1.length<sizeLine/\(∀p∈m1,MulOk many p.2)/\
 g (τ.set c none) λy=>lE y λm2=>∃more,τ[d]? =some (some (.val (.int more)))/\(Br many m1).length+m2.length<sizeLine/\(∀p∈m2,MulOk more p.2)/\
 D.nx (((τ.set c (some (.val (.dk (CK more (Br many m1) m2))))).set a none).set b none)
def zK {k:Nat}(a:Room k A):A.units+1<cLine:=by have:=a.un;omega
section
variable {X:Cx}
def ig {rest:km Stmt}{f g k s:Nat}(n1:f≠g)(n2:f≠k)(n3:s≠g)(n4:s≠k)(n5:g≠k)(n6:s≠f)(h1:SE X e1 ta)(h2:SE X e2 tb)(p1:∀te,PE X e1 te->PS X m (dcT X.K te f im))(p2:∀te,PE X e2 te->PS X p (mgT X.K te f g k s))(h3:ab X rest b):ab X (m::p::rest) (Aa (eZ f g k im s ta tb) b):=by
 obtain⟨t1,q1,s1⟩:=h1;obtain⟨t2,q2,s2⟩:=h2;obtain⟨t3,q3,s3⟩:=h3;refine⟨_,BW (p1 t1 q1) (BW (p2 t2 q2) (ln (i:=f) q3)),λB T I τ H D AD A h er=> ?_⟩;obtain⟨⟨l0,l1,l2⟩,h⟩:=h;refine s1 B T I τ H _ _ A h λv x T1 H1 m r1 h1=> ?_;obtain⟨m1,rfl,many,uW,W,Y,h1⟩:=Zc h1;have u:=A.stp m;obtain⟨vm,Z,rvm⟩:=u.val _ _ uW;cases rvm;cases r1 with
 | dk hh eo=>
 rename_i d o es ep;have J:O7 H1 d m1.length ep (F6 m1):=⟨o,es,hh,eo,by unfold F6;rw[AAT]⟩;refine⟨_,_,_,_,rfl,J, ?_⟩;refine jy (K:=X.K) (Q:=λx H1=>BV f x I H1 (Yb (mgT X.K t2 f g k s) (rp f t3) D)) J Z W Y λa H2 ha ex hD=> ?_;have L:¬T1 a:=λz=>by obtain⟨o,e,_⟩:=(u.tp a z).mut;rw[ha] at e;cases e
 have M:Cq T1 H1 T1 H2:=Z6 u.va ex;have sr2:=u.stp M;obtain⟨N,_⟩:=sr2.loose (σ':=I.set f (some (.ref a))) (τ':=τ.set f none) (by simp[A.len]) λj c e=>by
  rcases BJ e with⟨_,C,_⟩|⟨n,C⟩
  .cases C
  .exact ⟨C,AAs (λz=>n z.symm)⟩
 refine s2 B T1 _ _ H2 _ _ N h1 λv2 y S G p r2 h2=> ?_;obtain⟨m2,rfl,more,uY,hsz,ok2,h2⟩:=Zc h2;obtain⟨vr,hvr,rvr⟩:=A.val _ _ uY;cases rvr;have jK:G a=some (.dK (F6 (Br many m1))):=p.keep _ _ L hD;have na2:¬S a:=λz=>by
  rcases p.new a z with z|z
  .exact L z
  .rw [hD] at z;cases z
 cases r2 with
 | dk U O=>
 rename_i d2 o2 P ep2;have da:d2≠a:=λz=>by subst z;rw[jK] at U;cases U
 have fd2:O7 G d2 m2.length ep2 (F6 m2):=⟨o2,P,U,O,by unfold F6;rw[AAT]⟩;refine⟨_,_,_,_,rfl,fd2, ?_⟩;let H0:Hp:=λb=>if b=a then none else G b
 have E:(I.set f (some (V.ref a))).length=τ.length:=by simp[A.len]
 refine kY (K:=X.K) (H:=H0) (H1:=G) (σ0:=I.set f (some (V.ref a))) (D:={D with nx:=rp f t3 D}) (acc0:=Br many m1) (a:=a) (more:=more) n1 n2 n3 n4 n5 (by rw[E];exact l1) (by rw[E];exact l2) ⟨o2,P,(AAL da).trans U,O,by unfold F6;rw[AAT]⟩ (AAM rfl) (λb o e=> ?_) jK ?_ ?_ ok2 hsz λσ' H4 sl so R hD4=> ?_
 .by_cases z:b=a
  .rw [show H0 b=none from AAM z] at e;cases e
  .rw [show H0 b=G b from AAL z] at e;exact e
 .rw [ADh (by rw[A.len];exact l0)]
 .rw [AAs (λz=>n6 z.symm)];exact hvr
 refine⟨a,_, ?_,hD4,λo es ep eo=> ?_⟩
 .rw [so f n1 n2,ADh (by rw[A.len];exact l0)]
 have l:Cq T H S G:=(m.trans M).trans p;have St:Cq T H S (upd H4 a (.frz o (.dK (F6 (CK more (Br many m1) m2))))):=by
  refine⟨λb q nt e=> ?_,l.sub,l.new,λx t=> ?_⟩
  .have z:b≠a:=λz=>by subst z;have:=m.keep _ _ nt e;rw[ha] at this;cases this
   rw[Ae z];exact R b q ((AAL z).trans (l.keep b q nt e))
  .have z:x≠a:=λz=>by subst z;exact na2 t
   obtain⟨d,w,e,r⟩:=l.tp x t;exact⟨d,w,by rw[Ae z];exact R _ _ ((AAL z).trans e),r⟩
 have sr5:=A.stp St;have sr6:=sr5.set (i:=f) (v:= .ref a) (x:= .dk (CK more (Br many m1) m2)) (.dk Ad eo);obtain⟨sr7,ow⟩:=sr6.loose (σ':=σ') (τ':=((τ.set f (some (.val (.dk (CK more (Br many m1) m2))))).set g none).set k none) (by rw[sl,E];simp) λj c e=>by
  rcases BJ e with⟨_,C,_⟩|⟨k2,C⟩
  .cases C
  .rcases BJ C with⟨_,F,_⟩|⟨k1,F⟩
   .cases F
   .exact ⟨F,so j k1 k2⟩
 exact s3 B S σ' _ _ D AD sr7 h2 (er.shift (St.prog.trans (.less λb z=>Ct (ow b z))))
end
end PL
namespace L2
open PySem PySem.Spec PyProof.Rows
def xX (K:AAJ)(l:kf):It:=
 ⟨λi H=>∃xs x,GH K H l xs/\xs[i]? =some x,
  λi H v a=>∃T x,v= .ref T/\H T=none/\a=upd H T (.tup [.int i,x])/\∀xs,GH K H l xs->xs[i]? =some x,
  λi H=>∃xs,GH K H l xs/\xs.length<=i⟩
def dB {K:AAJ}{e it:kf}(B:e≠it):Hu P w K (.Tuple es F pos) (xX K l) [e,it] e (λk h=>(∃b,IsEnum h e it (k:Nat) b)/\h.IsListIter it l k) where
 mem:=!2
 obj:=λk h st p hp=>by
  obtain⟨⟨b,he⟩,hi⟩:=st;have f:p=e\/p=it:=↑hp
  rcases f with q|q
  .subst q;exact⟨_,he,λv z=>nomatch z⟩
  .subst q;obtain⟨o,a,c,d⟩:=hi;exact⟨o,a,λv z=>by rw[d] at z;cases z⟩
 keep:=λk h h' st j=>by obtain⟨⟨b,he⟩,hi⟩:=st;exact⟨⟨b,j e (!2) _ he⟩,hi.at λo a=>j it (!2) o a⟩
 item:=by
  intro X n hw r hc k Sr s C H E I m st t;subst n hw r;obtain⟨⟨b,he⟩,hi⟩:=st;obtain⟨xs,x,hq,hx⟩:=t;obtain⟨y,rv,p,hz⟩:=I.list hq;obtain⟨u,hu,G⟩:=rv.get hx;have i:e<s.heap.objs.size:=AAN he;have A:it<s.heap.objs.size:=by obtain⟨o,a,_⟩:=id hi;exact AAN a
  refine wpAny_pyNext_enum_item he hi p.isList (x:=u) (↑hu) B λh1 J L M T N=> ?_;refine⟨_,rfl,wpAny_letOwnedTupleGo_enum (s:={s with heap:=h1,toks:=s.toks+1}) J λh2 c1 c2=> ?_⟩;have g:∀p o,p≠e->h1.get? p=some o->h2.get? p=some o:=λp o q z=>c2.extBut _ _ q z;have D:∀p∈ [e,it],p<s.heap.objs.size:=λp hp=>by
   have f:p=e\/p=it:=↑hp
   rcases f with q|q
   .rw [q];exact i
   .rw [q];exact A
  have j:∀p o,p ∉ [e,it] ->s.heap.get? p=some o->h2.get? p=some o:=λp o hp z=>by
   have f:p≠e/\p≠it:=↑hp
   exact g p o f.1 (N p o f.1 f.2 z)
  have O:Inv X Sr C (upd H s.heap.objs.size (.tup [.int k,x])) {s with heap:=h2,toks:=s.toks+1}:=I.turnedN m D j (AAR _)
   ⟨(by show 2<=sizeLine;decide), [.int k s.toks,u], .cons ⟨_,rfl⟩ (.cons G .nil),⟨_,g _ _ (AAx i) M,rfl,_,rfl⟩⟩
  have Q:H s.heap.objs.size=none:=I.fresh;refine⟨.ref s.heap.objs.size,upd H s.heap.objs.size (.tup [.int k,x]),O,rfl,⟨_,x,rfl,Q,rfl,λR h'=> ?_⟩,⟨⟨u, ?_⟩, ?_⟩,λp hp=> ?_⟩
  .rw [I.list_inj h' hq];exact hx
  .have:((k+1:Nat):Int)=(k:Int)+1:=by push_cast;rfl
   rw[this];exact c1
  .exact L.at λo z=>g it o B.symm z
  .rw [Ae (AAQ (D p hp))];exact(m p hp).1
 done:=by
  intro X n hw r hc k Sr s C H E I m st t;subst n hw r;obtain⟨⟨b,he⟩,hi⟩:=st;obtain⟨xs,hq,hx⟩:=t;obtain⟨y,rv,p,hz⟩:=I.list hq;have hl:=rv.length;refine wpAny_pyNext_enum_end (I.ok.hd hc) he hi p.isList (by simp;omega) λh' S=>⟨rfl, ?_⟩;exact I.turnedL (t':=s.toks) m λp o hp z=>by
   have f:p≠e/\p≠it:=↑hp
   exact S p o f.2 z
 self:=λ_ _ _ _ _ st h=>by obtain⟨⟨b,he⟩,_⟩:=st;exact wpAny_pyIter_enum he h
section
variable {X:Cx}
def uh (K:AAJ)(a:TA):TI:=λb H R=>a b H λvs H1=>∃l,vs= [.ref l] /\(∃xs,GH K H1 l xs)/\R (xX K l) H1
def lR {e:kd}{p:Pos}(i:Gl X "enumerate")(j:X.mg "enumerate" =none)(ha:PA X [e] d)(hs:starEach [e] X.env= [(false,eval e X.env)] :=by rfl):PI X (.Tuple es g b) (.Call (.Name "enumerate" p) [e] [] pos) (uh X.K d):=by
 intro Sr s k H R I h;refine Call_ (Ih I i j boot_enumerate (ADi (BA (ha pos Sr s k H _ I h) λu a ⟨vs,H1,c,r1,m⟩=> ?_) (by rw[hs];rfl) rfl));obtain⟨l,rfl,⟨xs,hl⟩,q⟩:=m;cases r1 with
 | cons r n=>
 cases n;cases r;obtain⟨o,rv,p,hz⟩:=c.list hl;refine call_enumerate_list p.isList λh' b1 b2 v t=> ?_;refine wpAny_pyIter_enum b1 ?_;have f:∀p∈ [a.heap.objs.size+1,a.heap.objs.size],a.heap.objs.size<=p:=λp hp=>by
  have w:p=a.heap.objs.size+1\/p=a.heap.objs.size:=↑hp
  omega
 exact⟨_,_,_,_,H1,rfl,c.kept (t':=a.toks) t,dB (Nat.succ_ne_self _),⟨⟨.none,b1⟩,b2⟩,λp hp=>c.fpOk (f p hp) (c.hok.fresh (f p hp)),q⟩
end
end L2
namespace PL
open PySem PySem.Spec PyProof.Rows L2
noncomputable def E9 (k:Nat):km PV->km PV
 | [] => []
 | x::r=> .tup [.int k,x] :: E9 (k+1) r
theorem Qr:∀(xs:km PV) (k:Nat),(E9 k xs).length=xs.length
 | [],_=>rfl
 | _::r,k=>by rw[E9,AAk,Qr r,AAk]
theorem Kz:∀(xs:km PV) (k i:Nat) (z:PV),(E9 k xs)[i]? =some z->∃x,xs[i]? =some x/\z= .tup [.int ((k+i:Nat):Int),x]
 | [],_,_,_,h=>by simp[E9] at h
 | x::r,k,0,z,h=>⟨x,rfl,by simp[E9] at h;rw[<-h];rfl⟩
 | x::r,k,i+1,z,h=>by obtain⟨y,h1,h2⟩:=Kz r (k+1) i z (by simpa[E9] using h);refine⟨y,↑h1, ?_⟩;rw[h2,show k+1+i=k+(i+1) by omega]
def bW {K:AAJ}(va:Gs T M H)(r:B8 K T M H (.ref l) (.lst xs)):R1 K M (xX K l) (E9 0 xs) T H:=by
 obtain⟨a,vs,e,hq,k,m,b⟩:=Dt r;cases e;have c:GH K H l vs:= .inl (.inl hq);refine⟨λi z h=> ?_,λi z v n h f=> ?_,λi h=>⟨vs,c, ?_⟩⟩
 .obtain ⟨x,hx,_⟩:=Kz xs 0 i z h;obtain⟨u,hu,_⟩:=b.get hx;exact⟨vs,u,c,hu⟩
 .obtain ⟨x,hx,rfl⟩:=Kz xs 0 i z h;obtain⟨p,u,rfl,g,rfl,hu⟩:=f;obtain⟨s,d,j⟩:=b.get' (hu vs c);rw[hx] at d;cases d;have st:=Cq.lay (o:= .tup [.int (i:Nat),u]) va.tp g;rw[AFP];exact⟨st, .tup (.inl Ad) (.cons (.int _) (.cons (j.stp st va) .nil))⟩
 .rw [b.length];rw[Qr] at h;exact h
section
variable {X:Cx}
def wj (r:AA):AI:=λτ Q=>r τ λa=>match a with | [.lst xs] =>Q (E9 0 xs)|_=>False
def vz {e:kd}{p:Pos}(d:Gl X "enumerate")(f:X.mg "enumerate" =none)(ha:SA X [e] r)(hs:starEach [e] X.env= [(false,eval e X.env)] :=by rfl):SI X (.Tuple es c b) (.Call (.Name "enumerate" p) [e] [] pos) true (wj r):=by
 obtain⟨t,g,s⟩:=ha;refine⟨_,lR d f g hs,λB T i τ H R o j h k=>s B T i τ H _ _ j h λvs xs T1 H1 l r1 h1=> ?_⟩;split at h1 <;> first | exact h1.elim|skip
 cases r1 with
 | cons ra t=> cases t;obtain⟨a,m,rfl,hq,_,_,u⟩:=Dt ra;exact⟨a,rfl,⟨m, .inl (.inl hq)⟩,k _ _ T1 H1 l (λM2 v w n va _=>bW va (ra.mv n)) h1⟩
end
end PL
namespace L2
open PySem PySem.Spec PyProof.Rows
section
variable {prog:gn}{w:fe}{A:Tb}{E:kj->ki->Prop}{s:ki}
def iT {d:kj}{Q:kj->ki->Prop}(h:∀(g:kc),wpAny (model prog w) A.in1.in1 (Builtin.«set.__init__» {pos:= [.ref s.heap.objs.size,d] }) (λj b=> match j with
     | Fin.done f=>wants (λr i=>r=Value.none/\Q (.ref s.heap.objs.size) i) E (Except.ok f) b
     | Fin.again l=>l.quiet=true/\codeAny (model prog w) A.in1 l (wants (λr i=>r=Value.none/\Q (.ref s.heap.objs.size) i) E) b)
   (λe b=>wants (λr i=>r=Value.none/\Q (.ref s.heap.objs.size) i) E (Except.error e) b) {s with heap:=s.heap.push {cls:= .type "set",data:= .set #[] 0 (SetTable.fresh 0 0 g)}}):
 wpAny (model prog w) A (call (.type "set") [d]) Q E s:=by
 obtain⟨c,x,p⟩:=AEq.mro;refine AEV (codeAny_of_tree ?_)
 wp_walk
 refine⟨by kernel_rfl,AF9 F.entry_type_call ?_⟩;rw[Around.under_plain (weight_type_call_type ..) rfl];show wpAny (model prog w) A.in1 (Builtin.«type.__call__» {pos:= [.type "set",d] }) _ _ s;unfold Builtin.«type.__call__»;simp only[AEq.notType,AEq.canCreate,F.typeCall_set_1,p,AEq.made,pure_bind,List.isEmpty_cons,AA4,AAn];refine AAI (AAp (AEV (AC7 (code_set_new_1 (Q₁:=λobj o=>∃g,obj= .ref s.heap.objs.size/\o={s with heap:=s.heap.push {cls:= .type "set",data:= .set #[] 0 (SetTable.fresh 0 0 g)}}) (E:=E) d λg=>⟨g,rfl,rfl⟩) λr o k=> ?_)));match r,k with
 | .error e,k=>exact k
 | .ok (.ret obj),k=>
   obtain⟨g,rfl,rfl⟩:=k;have t:(s.heap.push {cls:= .type "set",data:= .set #[] 0 (SetTable.fresh 0 0 g)}).get? s.heap.objs.size=some {cls:= .type "set",data:= .set #[] 0 (SetTable.fresh 0 0 g)}:=AAV _ rfl;have n:Shared.TypeIs {s with heap:=s.heap.push {cls:= .type "set",data:= .set #[] 0 (SetTable.fresh 0 0 g)}} (.ref s.heap.objs.size) "set" :=⟨_,t,rfl⟩;refine AAI (AC6 n AEq.sub ?_);simp only[ACb,AA4,AAn];refine AAI (AAp ?_);unfold callSpecial?;refine AAI (AC4 n AGA.lookup ?_);refine AAp (AAI (ADB (AGA.bind _) ?_));refine AAI (AEV (codeAny_call_builtin AGA.plain F.entry_set_init (check_set_init_1 n ?_)));have back:∀(v:kj) (b:ki),(v=Value.none/\Q (.ref s.heap.objs.size) b)->wpAny (model prog w) A.in1 (pure (some v)) (λa b=>wpAny (model prog w) A.in1 (match a with
    | none=>ret (Value.ref s.heap.objs.size)
    | some r=>if (r != Value.none)=true then do
              rule "type.call.init-returned-value"
              let __do_lift <-typeNameOf r
              raiseErrorMade "TypeError" (toString "__init__() should return None, not '" ++ toString __do_lift++toString "'")
              ret (Value.ref s.heap.objs.size)
             else ret (Value.ref s.heap.objs.size)) (λj b=>
             match j with
             | Fin.done f=>
               match Except.ok f with
               | Except.ok (Flow.ret v)=>Q v b
               | Except.ok a=>False
               | Except.error e=>E e b
             | Fin.again l=>l.quiet=true/\codeAny (model prog w) A l (λr b=>
                    match r with
                    | Except.ok (Flow.ret v)=>Q v b
                    | Except.ok a=>False
                    | Except.error e=>E e b) b) (λe b=>E e b) b) (λe b=>E e b) b:=by rintro v b ⟨rfl,hq⟩;refine AAK ?_;exact AAK hq
   refine BA (h g) λj b m=> ?_;match j,m with
   | .done (.ret v),m=>exact back v b m
   | .again l,m=>
     refine⟨m.1,AC7 m.2 λr u k=> ?_⟩;match r,k with
     | .error e,k=>exact k
     | .ok (.ret v),k=>exact back v u k
def cW {f:Nat->PUnit->Sem (ForInStep PUnit)}{Q:PUnit->ki->Prop}{n:Nat}(b:n=1)(h:wpAny M A (f 0 PUnit.unit) (λr a=>r=ForInStep.yield PUnit.unit/\Q PUnit.unit a) E s):wpAny M A (forIn [:n] PUnit.unit f) Q E s:=by subst b;rw[Std.Legacy.Range.forIn_eq_forIn_range'];show wpAny M A (forIn [0] PUnit.unit f) Q E s;rw[AC9];refine AAI (BA h ?_);rintro r a ⟨rfl,hq⟩;show wpAny M A (forIn [] PUnit.unit f) Q E a;rw[ADr];exact AAK hq
def iO (k:Int)(a:Tok):byScan (.int k a) #[] =true:=by unfold byScan;simp[Value.scannable,scanBound]
def XD (h:Int)(a:kc):∃j,(SetTable.fresh 0 0 a).freeSlot h=some (j,false):=⟨_,rfl⟩
def bj (h:Int)(x:kj)(a:kc):∃t:SetTable,layNew (SetTable.fresh 0 0 a) #[] h x=(#[(h,x)],t,false,false)/\t.mask=7/\t.dummies= #[] /\t.place.size=1/\t.plain=true:=by obtain⟨j,e⟩:=XD h a;unfold layNew;rw[e];exact⟨_,rfl,rfl,rfl,rfl,rfl⟩
def Ur {ep:Nat}{k:Int}{c:Tok}{v:kj}{Q:kj->ki->Prop}(hd:s.heap.get? d=some o)(hc:o.cls= .type "dict")(he:o.data= .dict #[⟨hashInt k, .int k c,v⟩] ep)(hs:(d==sysModules)=false)(q:∀(h':Wf) (t:SetTable) (n:Nat),t.mask=7->t.dummies= #[] ->t.place.size=1->h'.get? s.heap.objs.size=some ⟨.type "set",none, .set #[(hashInt k, .int k c)] n t, #[]⟩->(∀b o,b<s.heap.objs.size->s.heap.get? b=some o->h'.get? b=some o)->h'.objs.size=s.heap.objs.size+1->Q (.ref s.heap.objs.size) {s with heap:=h'}):wpAny (model prog w) A (call (.type "set") [.ref d]) Q E s:=by
 obtain⟨cls,u,data,sl⟩:=o;simp only at hc he;subst hc he;refine iT λa=> ?_;have h:(s.heap.push {cls:= .type "set",data:= .set #[] 0 (SetTable.fresh 0 0 a)}).get? s.heap.objs.size=some {cls:= .type "set",data:= .set #[] 0 (SetTable.fresh 0 0 a)}:=AAV _ rfl;have i:=AAP {cls:= .type "set",data:= .set #[] 0 (SetTable.fresh 0 0 a)} hd;unfold Builtin.«set.__init__»
 wp_walk using ADB F.sub_dict_set,ADB F.sub_dict_frozenset
 refine cW rfl ?_;obtain⟨t,j,f,g,e,l⟩:=bj (hashInt k) (.int k c) a;have x:t.tooFull=false:=by unfold SetTable.tooFull SetTable.fill;rw[f,g,e];rfl
 wp_walk
 rw[AAM (show byScan #[({hash:=hashInt k,key:=Value.int k c,val:=v}:DictEntry)][0].key #[] =true from iO k c)];show wpAny (model prog w) A.in1.in1 (do
  let __do_lift <-setAddByScan s.heap.objs.size (.int k c) (hashInt k) #[] (SetTable.fresh 0 0 a);match __do_lift with
   | some added=>pure added
   | none=>setAddHashedIn s.heap.objs.size (.int k c) (hashInt k) 99999) _ _ _
 unfold setAddByScan;simp only[j]
 wp_walk
 rw[AAM rfl];have m:d<s.heap.objs.size:=AAN hd;have p:=(AFQ (s.heap.push {cls:= .type "set",data:= .set #[] 0 (SetTable.fresh 0 0 a)}) d s.heap.objs.size (Obj.putSet #[(hashInt k, .int k c)] t) (AAQ m)).trans i
 wp_walk using wpAny_loadPart' p
 refine⟨rfl,AAK (AAK ⟨rfl, ?_⟩)⟩;refine q _ t 1 f g e ?_ (λb o hb r=> ?_) ?_
 .exact ACj (Obj.putSet #[(hashInt k, .int k c)] t) h rfl
 .rw [AFQ _ _ _ _ (AAQ hb)];exact AAP _ r
 .rw [Heap.size_update,ACA]
end
def SL:entryFor table "set.__or__" =some Builtin.«frozenset.__or__»:=
 entryFor_alias (id':="frozenset.__or__") (by kernel_rfl) (by first | rfl|decide +kernel|(unfold String.splitOn;simp +decide [String.splitOnAux])) (!4) (by kernel_rfl)
noncomputable abbrev QD (h:Int)(x:kj)(n:Nat)(t:SetTable):Obj:=⟨.type "set",none, .set #[(h,x)] n t, #[]⟩
structure T1 (t:SetTable):Prop where
 m:t.mask=7
 d:t.dummies= #[]
 p:t.place.size=1
def T1.fits {t:SetTable}(h:T1 t):t.fits 1=true:=by unfold SetTable.fits SetTable.fill;rw[h.m,h.d,h.p];rfl
def T1.room {t:SetTable}(h:T1 t):t.roomFor 1=none:=by unfold SetTable.roomFor SetTable.fill;rw[h.m,h.d,h.p];rfl
section
variable {prog:gn}{w:fe}{A:Tb}{E:kj->ki->Prop}{s:ki}
def VU {t:SetTable}{Q:Unit->ki->Prop}(e:s.heap.get? S=some ⟨.type "set",none, .set #[] 0 (SetTable.fresh 0 0 b), #[]⟩)(ha:s.heap.get? a=some (QD h x n t))(i:(S==a)=false)(c:T1 t)(q:∀g:SetTable,T1 g->Q () {s with heap:=s.heap.update S (Obj.putSet #[(h,x)] g)}):wpAny (model prog w) A (setMerge S a) Q E s:=by
 unfold setMerge;rw[AAL (by rw[i];decide)];refine AAI (ACr ha rfl c.fits ?_);show wpAny (model prog w) A (do
  setRoomFor S 1
  let __x <-setState S;match __x with
   | (fst,f,ts)=>_) Q E s
 refine AAI ?_;unfold setRoomFor;refine AAI (ACr e rfl rfl ?_);show wpAny _ _ (pure ()) _ _ _;refine AAK (AAI (ACr e rfl rfl ?_));have j:(SetTable.fresh 0 0 b).road t=SetTable.Road.slotForSlot:=by unfold SetTable.road;rw[AAL (by cases b <;> decide),c.m,c.d];rfl
 dsimp only;rw[j];exact wpAny_storeSet_of e rfl (q _ ⟨c.m,c.d,c.p⟩)
def vJ {a:Type}(f:Nat->Nat)(x:a):pickOrder f #[x] = #[x] :=by show pickOrder.go f 1 0 [x] #[] = #[x];simp[pickOrder.go,Nat.mod_one]
def walk1 {t:SetTable}{os:km kf}{Q:Array (Int×kj)->ki->Prop}(hb:s.heap.get? b=some (QD h x n t))(a:T1 t)(q:Q #[(h,x)] s):wpAny (model prog w) A (setWalkUnseen b os c) Q E s:=by
 unfold setWalkUnseen;refine AAI (ACr hb rfl a.fits ?_);unfold setsByText;refine AAI (AAI (AEp (AAK ?_)));dsimp only;rw[AAM (!2)];unfold setWalk;refine AAI (ACr hb rfl a.fits ?_);unfold setsByText;refine AAI (AAI (AEp (AAK ?_)));dsimp only;split
 .refine AAI (AEp (AAK ?_));dsimp only;rw[vJ];exact q
 .split
  .rename_i d;exact absurd d (by show ¬(!t.plain&&decide (#[(h,x)].size>1))=true;simp)
  .refine AAI ?_;show wpAny _ _ (if (!t.led&&decide (#[(h,x)].size>1))=true then unsupported "set:maker-not-led" else pure ()) _ _ _;rw[AAL (!2)];exact AAK (AAK q)
def cV {M:Model}{b:Type}{x:b}{f:b->PUnit->Sem (ForInStep PUnit)}{Q:PUnit->ki->Prop}(h:wpAny M A (f x PUnit.unit) (λr a=>r=ForInStep.yield PUnit.unit/\Q PUnit.unit a) E s):wpAny M A (forIn #[x] PUnit.unit f) Q E s:=by rw[<-AEw];show wpAny M A (forIn [x] PUnit.unit f) Q E s;rw[AC9];refine AAI (BA h ?_);rintro r a ⟨rfl,hq⟩;show wpAny M A (forIn [] PUnit.unit f) Q E a;rw[ADr];exact AAK hq
def isInt_self (j:Int)(a:Tok):Value.isInt j (.int j a)=true:=by simp[Value.isInt]
def mE {h:Wf}{a:Tok}{t:SetTable}(b:h.get? S=some (QD (hashInt i) (.int i a) n t))(c:T1 t):h.SetOf (intKind prog w) S (λk=>decide (k=i)) 1:=by
 refine⟨_,_,_,_,b, ?_,rfl, ?_, ?_, ?_,c.fits,rfl⟩
 .first | exact⟨rfl,rfl⟩|exact⟨rfl,rfl,rfl⟩|exact Or.inl rfl
 .intro e he;simp only[AAw] at he;subst he;exact⟨⟨i,isInt_self i a,rfl⟩,rfl⟩
 .intro k;simp[intKind,Value.isInt];exact eq_comm
 .simp [scanBound]
def cB {j:Int}{r c:Tok}{t:SetTable}{id:String}{Q:Unit->ki->Prop}(f:s.heap.get? S=some (QD (hashInt i) (.int i r) n t))(hb:s.heap.get? b=some (QD (hashInt j) (.int j c) m u))(g:(S==b)=false)(a:T1 t)(hu:T1 u)(q:∀h',Heap.SameBut S s.heap h'->h'.SetOf (intKind prog w) S (λk=>decide (k=i)||decide (k=j)) (if i=j then 1 else 2)->Q () {s with heap:=h'}):wpAny (model prog w) A (setMerge S b (Builtin.Frozenset.unchanged id b m)) Q E s:=by
 unfold setMerge;rw[AAL (by rw[g];decide)];refine AAI (ACr hb rfl hu.fits ?_);show wpAny (model prog w) A (do
  setRoomFor S 1
  let __x <-setState S;match __x with
   | (fst,h,ts)=>_) Q E s
 refine AAI ?_;unfold setRoomFor;refine AAI (ACr f rfl a.fits ?_);dsimp only;rw[a.room];refine AAK (AAI (ACr f rfl a.fits ?_));have v:t.road u=SetTable.Road.oneByOne:=by unfold SetTable.road SetTable.fill;rw[a.d,a.p];rfl
 dsimp only;rw[v];refine AAI (walk1 hb hu ?_);refine AAI (cV ?_);dsimp only;refine AAI (AAp (wpAny_setAddHashed_of (knd:=intKind prog w) (k:=j) (isInt_self j c) rfl (mE f a) (by simp[scanBound]) λh' l x=> ?_));have o:h'.get? b=some (QD (hashInt j) (.int j c) m u):=by rw[l.2 b (λz=>by rw[z] at g;simp at g)];exact hb
 unfold Builtin.Frozenset.unchanged;refine AAI (AAI (wpAny_setEpoch_of o rfl hu.fits ?_));rw[AAL (!2)];refine AAK (AAI (ACr o rfl hu.fits ?_));rw[AAL (!2)];refine AAK ⟨rfl,AAK (q h' l ?_)⟩;have e:(if decide (j=i)=true then 1 else 1+1)=if i=j then 1 else 2:=by
  by_cases z:i=j
  .rw [AAM z,AAM (by simp[z])]
  .rw [AAL z,AAL (by simp;exact λy=>z y.symm)]
 rw[<-e];exact x
def lI {j:Int}{e x:Tok}{t:SetTable}{Q:kj->ki->Prop}(ha:s.heap.get? a=some (QD (hashInt i) (.int i e) n t))(hb:s.heap.get? b=some (QD (hashInt j) (.int j x) m u))(C:a≠b)(D:T1 t)(hu:T1 u)(q:∀(h':Wf),h'.SetOf (intKind prog w) s.heap.objs.size (λk=>decide (k=i)||decide (k=j)) (if i=j then 1 else 2)->(∀c o,c<s.heap.objs.size->s.heap.get? c=some o->h'.get? c=some o)->Q (.ref s.heap.objs.size) {s with heap:=h'}):wpAny (model prog w) A (binaryOp .BitOr (.ref a) (.ref b)) Q E s:=by
 have G:=AAN ha;have y:=AAN hb;refine wpAny_binaryOp_same (T:="set") ⟨_,ha,rfl⟩ ⟨_,hb,rfl⟩ F.fills_set_or F.slot_set_or ?_;refine AEV (codeAny_call_builtin F.slot_set_or.plain SL ?_);refine F.slot_set_or.check (model prog w) A.in1 _ s (.ref a) [.ref b] [] _ ⟨_,ha,rfl⟩ (F.args_set_or_2 _ _) ?_;unfold Builtin.«frozenset.__or__»
 wp_walk using ADB F.sub_set_set,AEp
 have B:∀{c:Nat},c<s.heap.objs.size->(s.heap.objs.size==c)=false:=λ{c} h=>by simp only[AEP,ne_eq];exact λz=>absurd h (by rw[z];exact ACd _)
 show wpAny _ _ (setMerge s.heap.objs.size a) _ _ _;refine VU (AAV _ rfl) (AAP _ ha) (B G) D λf g=> ?_;have H:=AAP {cls:= .type "set",data:= .set #[] 0 (SetTable.fresh 0 0 !((model prog w).w.params.followText "set-order"))} hb;have I:((s.heap.push {cls:= .type "set",data:= .set #[] 0 (SetTable.fresh 0 0 !((model prog w).w.params.followText "set-order"))}).update s.heap.objs.size (Obj.putSet #[(hashInt i, .int i e)] f)).get? s.heap.objs.size=some (QD (hashInt i) (.int i e) 1 f):=ACj (Obj.putSet #[(hashInt i, .int i e)] f) (AAV _ rfl) rfl;have J:=(AFQ _ b s.heap.objs.size (Obj.putSet #[(hashInt i, .int i e)] f) (AAQ y)).trans H;have l:∀c o,c<s.heap.objs.size->s.heap.get? c=some o->((s.heap.push {cls:= .type "set",data:= .set #[] 0 (SetTable.fresh 0 0 !((model prog w).w.params.followText "set-order"))}).update s.heap.objs.size (Obj.putSet #[(hashInt i, .int i e)] f)).get? c=some o:=λc o hc v=>by rw[AFQ _ _ _ _ (AAQ hc)];exact AAP _ v
 refine AAK ?_;show wpAny (model prog w) A.in1 (if (Value.ref b != Value.ref a)=true then do
  let r <-holding [Value.ref s.heap.objs.size] (Builtin.Frozenset.updateFrom (toString "frozenset." ++ toString "__or__") s.heap.objs.size (Value.ref b))
  pure (Value.ref s.heap.objs.size)
  else pure (Value.ref s.heap.objs.size)) _ _ {s with heap:=(s.heap.push {cls:= .type "set",data:= .set #[] 0 (SetTable.fresh 0 0 !((model prog w).w.params.followText "set-order"))}).update s.heap.objs.size (Obj.putSet #[(hashInt i, .int i e)] f)}
 generalize (s.heap.push {cls:= .type "set",data:= .set #[] 0 (SetTable.fresh 0 0 !((model prog w).w.params.followText "set-order"))}).update s.heap.objs.size (Obj.putSet #[(hashInt i, .int i e)] f)=H1 at *;rw[AAM (by simp;exact λz=>C z.symm)];refine AAI (AAp ?_);unfold Builtin.Frozenset.updateFrom Builtin.Frozenset.isAnySet
 wp_walk using ADB F.sub_set_set
 have K:(u.place.size != #[(hashInt j,Value.int j x)].size||decide (u.fill>u.mask))=false:=by unfold SetTable.fill;rw[hu.m,hu.d,hu.p];rfl
 rw[AAL (by rw[K];decide)];refine AAK (AAK (cB I J (B y) g hu λh' L M=> ?_));refine AAK (AAK ⟨(λz=>nomatch z),q h' M λc o hc v=> ?_⟩);rw[L.2 c (AAQ hc)];exact l c o hc v
end
def VO (p:kf)(k:Int)(h:Wf):Prop:=∃a n t,h.get? p=some (QD (hashInt k) (.int k a) n t)/\T1 t
def kP {k:Int}(x:VO p k h):Bz P w H h p (.ext (VO p k)):=by obtain⟨a,n,t,e,y⟩:=id x;refine⟨x,⟨_,e⟩,λh1 h2 z q=> ?_⟩;obtain⟨a,n,t,e,y⟩:=z;exact⟨a,n,t,q _ e,y⟩
def vU:km V->Hp->VK->Prop:=λxs H Q=>∃a o k v,xs= [.ref a] /\H a=some (.frz o (.dK [(.inl k,v)]))/\∀p,H p=none->Q (.ref p) (upd H p (.ext (VO p k)))
def yt:R2:=λx y H Q=>∃a b i j,x= .ref a/\y= .ref b/\a≠b/\H a=some (.ext (VO a i))/\H b=some (.ext (VO b j))/\∀p,H p=none->Q (.ref p) (upd H p (.set (λk=>decide (k=i)||decide (k=j)) (if i=j then 1 else 2)))
def vS:km V->Hp->VK->Prop:=λxs H Q=>∃a S n,xs= [.ref a] /\H a=some (.set S n)/\Q (.int n) H
section
variable {X:Cx}
def uE {k:Int}{v:V}(x:Bz P w H h a (.frz o (.dK [(.inl k,v)]))):h.get? a=some o/\o.cls= .type "dict" /\(a==sysModules)=false/\∃n u ep,o.data= .dict #[⟨hashInt k, .int k n,u⟩] ep:=by
 obtain⟨g,z,hs,vs,d,D,es,ep,j,ex,hd,r,ps,E⟩:=x;rw[g] at j;cases j;refine⟨g,ex.1,hs, ?_⟩;cases d with
 | cons q d=>
   rename_i p vs;cases d;obtain⟨c,u⟩:=p;have s:Sum.inl k=c:=q.1;subst s;generalize l:es.toList=L at ps;cases ps with
   | cons h1 h2 h3=>
     rename_i b _;cases h3;have y:b∈es:=by rw[<-Array.mem_toList_iff,l];simp
     obtain⟨A,B,m⟩:=r b y;have C:Sum.inl k=A:=(Ax P w).inj _ _ _ h1 B;subst C;rcases BQ (k:=Sum.inl k) (v:=b.key) h1 with⟨i,t,e,f⟩|⟨x,t,e,f⟩
     .cases e;refine⟨t,b.val,ep, ?_⟩;rw[hd];have:es= #[b] :=by apply Array.toList_inj.mp;rw[l]
      rw[this];obtain⟨F,G,I⟩:=b;simp only at f m;rw[f,m];rfl
     .cases e
def Qk:C8 X (.type "set") vU:=by intro Sr s m H xs p Q I r h;obtain⟨a,o,k,v,rfl,e,q⟩:=h;obtain⟨u,rfl,d⟩:=vals1 r;cases d;obtain⟨f,hc,hs,g,u,ep,hd⟩:=uE (I.hok a _ e);refine Ur f hc hd hs λh' t n i j tp l c sz=> ?_;have keep:∀b o,s.heap.get? b=some o->h'.get? b=some o:=λb o e=>c b o (AAN e) e;exact⟨.ref _,_,I.laid (a:=s.heap.objs.size) (t':=s.toks) keep (AAR _) (kP ⟨g,n,t,l,⟨i,j,tp⟩⟩),rfl,q _ (I.hok.fresh (AAR _))⟩
def qX:Ea X (binaryOp .BitOr) yt:=by intro Sr s p H x y v u Q I d f h;obtain⟨a,b,i,j,rfl,rfl,g,ha,hb,q⟩:=h;cases d;cases f;obtain⟨⟨t1,r,t,l,y1⟩,_,_⟩:=I.hok a _ ha;obtain⟨⟨t2,w,z,m,y2⟩,_,_⟩:=I.hok b _ hb;refine lI l m g y1 y2 λh' n c=> ?_;have keep:∀b o,s.heap.get? b=some o->h'.get? b=some o:=λb o e=>c b o (AAN e) e;exact⟨.ref _,_,I.laid (a:=s.heap.objs.size) (o:= .set (λk=>decide (k=i)||decide (k=j)) (if i=j then 1 else 2)) (t':=s.toks) keep (AAR _) n,rfl,q _ (I.hok.fresh (AAR _))⟩
def ak:C8 X (.builtin "len") vS:=by intro Sr s i H xs j Q I r h;obtain⟨a,S,n,rfl,e,q⟩:=h;obtain⟨u,rfl,b⟩:=vals1 r;cases b;obtain⟨o,es,ep,t,c,hx,hd,_,_,d,f,g⟩:=I.hok a _ e;refine call_len_set c hx hd f (by rw[show scanBound=4096 from rfl] at d;omega) ?_;rw[g];exact⟨.int n,H,I.tok _,⟨_,rfl⟩,q⟩
end
end L2
namespace PL
open PySem PySem.Spec PyProof.Rows L2
noncomputable def xC (i j:Int):Nat:=if i=j then 1 else 2
def oo (a b:AE):AE:=λτ Q=>a τ λx=>match x with | .dk [(i,_)] =>b τ λy=>(match y with | .dk [(j,_)] =>Q (.int (xC i j))|_=>False)|_=>False
section
variable {X:Cx}
def rH {p p1 p2:Pos}(K:Gl X "len")(L:X.mg "len" =none)(D:Gl X "set")(E:X.mg "set" =none)(ha:SE X a A)(hb:SE X b C)(F:starEach [.BinOp (.Call (.Name "set" p1) [a] [] c) .BitOr (.Call (.Name "set" p2) [b] [] d) r] X.env=(false,eval (.BinOp (.Call (.Name "set" p1) [a] [] c) .BitOr (.Call (.Name "set" p2) [b] [] d) r) X.env)::starEach [] X.env:=by rfl)(h1:starEach [a] X.env=(false,eval a X.env)::starEach [] X.env:=by rfl)(h2:starEach [b] X.env=(false,eval b X.env)::starEach [] X.env:=by rfl):SE X (.Call (.Name "len" p) [.BinOp (.Call (.Name "set" p1) [a] [] c) .BitOr (.Call (.Name "set" p2) [b] [] d) r] [] pos) (oo A C):=by
 obtain⟨t,M,N⟩:=ha;obtain⟨t',s,O⟩:=hb;refine⟨_,HN ak K L ACg (Bj (Bn qX (F7 Qk D E AGg (Bj M D9 h1) (he:=h1)) (F7 Qk D E AGg (Bj s D9 h2) (he:=h2))) D9 F) (he:=F),λB T G τ H Q AQ f h k=> ?_⟩;refine N B T G τ H _ _ f h λv x T1 H1 g r1 c=> ?_;split at c <;> first | exact c.elim|skip
 rename_i i _;cases r1;rename_i P o1 R S d1 U;refine⟨P,_,i,_,rfl,U,λp hp=> ?_⟩;have m:=Cq.lay (o:= .ext (VO p i)) (f.stp g).tp hp;have W:¬T1 p:=λz=>by obtain⟨o,e,_⟩:=((f.stp g).tp p z).mut;rw[hp] at e;cases e
 refine O B T1 G τ _ _ _ ((f.stp g).stp m) c λv2 y Y Z n r2 d=> ?_;split at d <;> first | exact d.elim|skip
 rename_i j _;cases r2;rename_i a2 o2 es2 ep2 d2 e2;refine⟨a2,_,j,_,rfl,e2,λu w=> ?_⟩;have l:Z p=some (.ext (VO p i)):=n.keep _ _ W Ad;have I:p≠u:=λz=>by subst z;rw[l] at w;cases w
 have J:=Cq.lay (o:= .ext (VO u j)) (((f.stp g).stp m).stp n).tp w;refine⟨p,u,i,j,rfl,rfl,I,by rw[Ae I];exact l,Ad,λp3 yU=> ?_⟩;have l3:=Cq.lay (o:= .set (λk=>decide (k=i)||decide (k=j)) (if i=j then 1 else 2)) ((((f.stp g).stp m).stp n).stp J).tp yU;refine⟨p3,_,_,rfl,Ad, ?_⟩;exact k _ _ Y _ ((((g.trans m).trans n).trans J).trans l3) (.int _) d
end
end PL
namespace L2
open PySem PySem.Spec PyProof.Rows
structure R0 (K:AAJ) (x qual:Str) (st:Stmt) (f:Addr) (fd:FuncData) (d:Int):Prop where
 ex:∃(oc:Value) (od:Option Addr) (kV doc pm:Value) (an:Option Addr) (cdv ct:Value) (osl:Array (Option Value)) (t:Addr),
  fd=PySem.W.fnOf x qual (EE st) (CJ st) (Ar st) (.ref t) kV doc pm an cdv ct/\K.lookup f=some ⟨oc,od, .func fd,osl⟩/\PySem.W.codeIn K cdv qual=true/\∃o tk n,K.lookup t=some o/\o.data= .seq #[.int d tk] n
 kp:PySem.W.keepIn K (.ref f)=true
structure Wn (P:Program) (w:World) (K:AAJ) (mg:Str->Option Value) (base:Heap) (k:Nat) (x:Str) (ps:List Str) (d:Int) (sp:Sp):Prop where
 ex:∃f fd tk,mg x=some (.ref f)/\PySem.W.keepIn K (.ref f)=true/\Binds K fd ps [.int d tk] /\Du P w K mg base MP k f fd ps sp
def Wn.mono {K:AAJ}{k:Nat}{sp:Sp}(h:Wn P w K mg base j x ps d sp)(hk:j<=k):Wn P w K mg base k x ps d sp:=by obtain⟨f,e,g,a,b,c,d⟩:=h.ex;exact⟨f,e,g,a,b,c,d.mono hk⟩
section
variable {P:gn}{w:fe}{K:AAJ}{mg:Str->ke kj}{base:Wf}
def R0.ok {st:Stmt}{N:km Str}{k:Nat}{sp:Sp}(F:R0 K x qual st f b d)(S:DK N ps (Ar st))(len:∀vs H Q E,sp vs H Q E->vs.length=ps.length)(c:∀(a:kj) (A:Tb) (outer:km Env) (s:ki) (H:Hp) (vs:km V) (Q:VK) (E:XK),Room k (A.deeper (envOfC qual (Ar st) s.heap.objs.size f a))->sp vs H Q E-> ∃t,Ul (Pt MP P w K mg base N qual (Ar st) f a A outer s H E).nox (CJ st) t/\t {nx:=λ_ e=>Q .non e,rt:=Q} (start N vs) H):Du P w K mg base MP (k+1) f b ps sp:=by obtain⟨o,p,kV,g,r,u,a,ct,i,t,rfl,j,l,_⟩:=F.ex;refine nN j l S len λA outer s H vs Q E m n=> ?_;obtain⟨t,h,q⟩:=c a A outer s H vs Q E m n;exact⟨t,h.nox,q⟩
def R0.binds3 {st:Stmt}{a b c:Str}(F:R0 K x qual st f m d)(h:∀(t:kf) (kV e i:kj) (j:ke kf) (g ct:kj) (u v:kj),∃k:ke (Array kj)->Sem (km (Str×kj)),bindArgs (PySem.W.fnOf x qual (EE st) (CJ st) (Ar st) (.ref t) kV e i j g ct) ⟨[u,v], []⟩=seqItems? (.ref t) >>= k/\∀z,k (some #[z])=pure [(a,u),(b,v),(c,z)]):∃l,Binds K m [a,b,c] [.int d l] :=by
 obtain⟨B,C,kV,e,i,j,g,ct,r,t,rfl,D,E,o,l,n,y,A⟩:=F.ex;refine⟨l,λs p X hl=> ?_⟩;have hl:p.length=2:=↑hl
 match p,hl with
 | [u,v],_=> obtain⟨k,h1,h2⟩:=h t kV e i j g ct u v;exact BindsTo.of_defaults (T:=t) rfl (X _ _ y) A h1 (h2 _)
end
section
variable {X:Cx}{x:Str}{p pos:Pos}{e:kd}{es:km kd}{t:TA}{k:Nat}{ps:km Str}{d:Int}{sp:Sp}
def lO (D:Wn X.prog X.w X.K X.mg X.base k x ps d sp)(a:Room k X.A)(b:Gl X x)(ha:PA X (e::es) t)(hs:starEach (e::es) X.env=(false,eval e X.env)::starEach es X.env:=by rfl)(hpl:(backTo pos (starEach es X.env)).any (·.1)=false:=by rfl)(hd:(x==("__debug__" :Str))=false:=by decide):PE X (.Call (.Name x p) (e::es) [] pos) (ip sp [.int d] E0 t):=by obtain⟨f,j,c,g,h,i,G⟩:=D.ex;exact Zf G a b g h i (.cons ⟨c,rfl⟩ .nil) nu ha (hdb:=hd) (he:=hs) (hpl:=hpl)
end
end L2
namespace PL
open PySem PySem.Spec PyProof.Rows L2
def eV (n:Nat)(F:AF)(d:Int)(r:AA):AE:=λτ Q=>r τ λxs=>(xs ++ [PV.int d]).length=n/\F (xs ++ [.int d]) Q
section
variable {X:Cx}
theorem Az.snoc {K:AAJ}:∀{vs:km V} {xs:km PV} {v:V} {x:PV},Az K T M H vs xs->B8 K T M H v x->Az K T M H (vs ++ [v]) (xs ++ [x])
 | [], [],_,_,_,r=> .cons r .nil
 | _::_,_::_,_,_, .cons h t,r=> .cons h (Az.snoc t r)
def iS {e:kd}{es:km kd}{k:Nat}(D:Wn X.prog X.w X.K X.mg X.base k x ps d (CA X.K n F))(f:Room k X.A)(g:Gl X x)(ha:SA X (e::es) r)(hs:starEach (e::es) X.env=(false,eval e X.env)::starEach es X.env:=by rfl)(hpl:(backTo pos (starEach es X.env)).any (·.1)=false:=by rfl)(hd:(x==("__debug__" :Str))=false:=by decide):SE X (.Call (.Name x p) (e::es) [] pos) (eV n F d r):=by obtain⟨t,i,s⟩:=ha;refine⟨_,lO D f g i hs hpl hd,λB T j τ H Q l b h k=>s B T j τ H _ _ b h λvs xs T1 H1 c r1 h1=> ?_⟩;exact⟨T1,_,_,l,(b.stp c).va,λa m=>(b.stp c).nt m,r1.snoc (.int d),h1.1,h1.2,λv x o u y r2 q=>k v x o u (c.trans y) r2 q⟩
end
section
variable {P:gn}{w:fe}{K:AAJ}{mg:Str->ke kj}{base:Wf}
def fQ {st:Stmt}{N:km Str}{k n:Nat}(F:R0 K x qual st f i d)(S:DK N ps (Ar st))(j:n=ps.length)(l:∀(a:kj) (A:Tb) (outer:km Env) (s:ki) (H:Hp) (E:XK),Room k (A.deeper (envOfC qual (Ar st) s.heap.objs.size f a))-> ab (Pt MP P w K mg base N qual (Ar st) f a A outer s H E).nox (CJ st) b):Du P w K mg base MP (k+1) f i ps (CA K n (An N.length b)):=by
 refine F.ok S (λvs H Q E h=> ?_) (λa A outer s H vs Q E m h=> ?_)
 .obtain ⟨T,M,xs,o,_,_,r,hl,_⟩:=h;rw[r.length,hl,j]
 .obtain ⟨T,M,xs,o,va,c,r,hl,hF,hQ⟩:=h;obtain⟨t,p,u⟩:=l a A outer s H E m;refine⟨t,p,u ⟨T,H,M⟩ T _ _ H _ _ (WL va c r) hF ⟨λe g σ' τ' _ y q=> ?_,λ_ _ _ _ _ _ q=>q.elim,λ_ _ _ _ _ _ q=>q.elim,λv x e g z B q=>hQ v x e g z B q⟩⟩;exact hQ _ _ e g y.st .non q
end
end PL
namespace L2
open PySem PySem.Spec PyProof.Rows PySem.W
theorem ints_of:∀{vs:km (CD×kj)} {m:km (Int×Int)} {a:km kj},KV (m.map λp=>((.inl p.1:CD),V.int p.2)) vs->a.length=vs.length->(∀(j:Nat) v,a[j]? =some v->∃k x,vs[j]? =some (k,x)/\(Ax P w).is k v=true)->IntsAre a (m.map (·.1))
 | [], [], [],_,_,_=> .nil
 | [], [],u::a,_,hl,_=>by simp at hl
 | v::vs,m::ms, [],_,hl,_=>by simp at hl
 | v::vs,m::ms,u::a,r,hl,h=>by
   cases r with
   | cons r1 r2=> obtain⟨k,x,c,d⟩:=h 0 u rfl;cases c;obtain⟨b,_⟩:=r1;dsimp only at b;subst b;have q:RelV (kV (.inl m.1)) u:=gE d;obtain⟨t,rfl⟩:=q;exact .cons _ t (ints_of r2 (↑hl) λj v e=>by simpa using h (j+1) v (↑e))
def X6:km V->Hp->VK->Prop:=λxs H Q=>∃a o es ep,∃m:km (Int×Int),xs= [.ref a] /\H a=some (.frz o (.dK (m.map λp:Int×Int=>((.inl p.1:CD),V.int p.2))))/\o.data= .dict es ep/\m.length<64/\∀(p:kf) (b:km Int),H p=none->b.Perm (m.map (·.1))->b.Pairwise (· <= ·)->Q (.ref p) (upd H p (.lst (b.map V.int)))
section
variable {X:Cx}
def Pq {A:Tb}{s:ki}{u:Wf->Prop}{R:km kj->ki->Prop}(K:KdlSrc P w T r d n j u)(z:A.handled=none)(hok:u s.heap)(B:n<=sizeLine)(h:∀(h':Wf) (g:Nat) (a:Array kj),s.heap.objs.size<=h'.objs.size->(∀b o,s.heap.get? b=some o->h'.get? b=some o)->ItemsOf j a n->R a.toList {s with heap:=h',toks:=g}):wpAny (model P w) A (collect (.ref r)) R E s:=by
 obtain⟨C,D⟩:=K.there _ hok;unfold collect;refine AAI (wpAny_runValue (AF9 entry_proto_collect' ?_));rw[Around.under_plainId PySem.F.plain_proto_collect _];refine AAI (m:=newList []) (AB9 ?_);refine AAK ⟨plainId_quiet AGh _,AF9 entry_list_iadd' ?_⟩;rw[Around.under_plainId AGh _];have k:(s.heap.push {cls:= .type "list",data:= .seq ([] :km kj).toArray}).get? s.heap.objs.size=some {cls:= .type "list",data:= .seq #[] }:=AAV _ rfl;have l:∀(h':Wf) (g:Nat) (a:Array kj) (c:Nat),(∀b o,b≠s.heap.objs.size->(s.heap.push {cls:= .type "list",data:= .seq ([] :km kj).toArray}).get? b=some o->h'.get? b=some o)->h'.get? s.heap.objs.size=some {cls:= .type "list",dict:=none,data:= .seq a c,slots:= #[] }->ItemsOf j a n->
  wpAny (model P w) A (load s.heap.objs.size >>= λo=>match o.data with | .seq xs _=>pure xs.toList|_=>unsupported "internal:collect") R E {s with heap:=h',toks:=g}:=λh' g a c p i it=>
  AAI (wpAny_load i (AAK (h h' g a (AER (AAN i)) (λb o e=>p b o (AAQ (AAN e)) (AAP _ e)) it)))
 refine ACE (kdl_extend (A:=A) (s:={s with heap:=s.heap.push {cls:= .type "list",data:= .seq ([] :km kj).toArray}}) (R:=λq t=>match q with | .ok (.ret v)=>v= .ref s.heap.objs.size/\wpAny (model P w) A (load s.heap.objs.size >>= λo=>match o.data with | .seq xs _=>pure xs.toList|_=>unsupported "internal:collect") R E t|_=>False)
  K z (K.keep _ _ hok λb _ o e=>AAP _ e) s.heap.objs.size (AAx C) (AAx D) (.ref s.heap.objs.size) 0 k (λh' g a c p i it=>⟨rfl,l h' g a c p i it⟩) B) (λf t x=> ?_) λe t x=>x.elim
 cases f with
 | done f=>
   cases f with
   | ret v=> obtain⟨rfl,y⟩:=x;exact y
   | _=>exact x.elim
 | again c=>
   refine⟨x.1,AC7 x.2 λq G y=> ?_⟩;cases q with
   | error e=>exact y.elim
   | ok f=>
     cases f with
     | ret v=> obtain⟨rfl,y⟩:=y;exact y
     | _=>exact y.elim
def Wz (hc:X.calm=true):C8 X (.builtin "sorted") X6:=by
 intro Sr s R H xs g Q I r h;obtain⟨a,o,es,ep,m,rfl,e,hd,S,q⟩:=h;obtain⟨u,rfl,D⟩:=vals1 r;cases D;have E:O7 H a m.length ep (m.map λp:Int×Int=>((.inl p.1:CD),V.int p.2)):=⟨o,es,e,hd,by rw[AAT]⟩;obtain⟨vs,d,F⟩:=E.at I;have T:vs.length=m.length:=by have:=d.length;rw[AAT] at this;exact this.symm
 obtain⟨t1,t2,G⟩:=Sj I (.inl ⟨_, .inr ⟨o,e⟩⟩);refine Calls.call_function_entry kind_sorted plain_sorted entry_sorted (args_sorted1 _) ?_;unfold Builtin.«sorted»;refine AAI (m:=checkCount "sorted" 1 1 _) (AAK ?_);refine AAI (Pq (A:=X.A.in1) (kdl_dict (knd:=Ax X.prog X.w) (kvs:=vs) (ep:=ep) G) (I.ok.hd hc) F (by rw[AES];omega) λh' J c l hk x=> ?_);have hl:c.toList.length=vs.length:=by rw[AC5];exact x.1
 have K:IntsAre c.toList (m.map (·.1)):=ints_of (P:=X.prog) (w:=X.w) d hl λj v z=>x.2 j v (by rw[<-Array.getElem?_toList];exact z);refine AAI (wpAny_newList ?_ (by rw[hl,AES];omega));have f:(h'.push (seqObj "list" c.toList.toArray 0)).get? h'.objs.size=some (seqObj "list" c.toList.toArray 0):=AAV _ rfl;refine AAI (AAp (AB7 slot_list_sort ⟨_,f,rfl⟩ entry_list_sort (list_sort_tree f K (!0) λout i L y M=>⟨_,rfl, ?_⟩) (args_list_sort _)));refine AAK ⟨_,rfl, ?_⟩;obtain⟨N,O⟩:=sortedHeap_at (out:=out) f;have hsz:h'.objs.size<(h'.push (seqObj "list" c.toList.toArray 0)).objs.size:=AAN f;have keep:∀b k,s.heap.get? b=some k->(sortedHeap (h'.push (seqObj "list" c.toList.toArray 0)) h'.objs.size c.toList out).get? b=some k:=λb k z=>by have B:=AAN (hk _ _ z);rw[sortedHeap_old (AAQ B) (AEc B hsz),AAP _ (hk _ _ z)]
 have vals:∀{g:km kj} {C:km Int},IntsAre g C->Au (C.map V.int) g:=λh=>by
  induction h with
  | nil=>exact .nil
  | cons n t h ih=>exact .cons ⟨t,rfl⟩ ih
 refine⟨.ref _,_,I.laid (a:=h'.objs.size) (o:= .lst (i.map V.int)) (t':=J) keep l ⟨?_,out.toList,N,vals L,by rw[O]⟩,rfl,q _ _ (I.hok.fresh l) y M⟩;rw[AAT,y.length_eq,AAT,AES];omega
end
end L2
namespace PL
open PySem PySem.Spec PyProof.Rows L2
def fV:AF:=λxs Q=>match xs with | [.dk m] =>m.length<64/\∀a:km Int,a.Perm (m.map (·.1))->a.Pairwise (· <= ·)->Q (.lst (a.map PV.int))|_=>False
theorem RA {K:AAJ}:∀a:km Int,Az K T M H (a.map V.int) (a.map PV.int)
 | [] => .nil
 | n::a=> .cons (.int n) (RA a)
def iM {X:Cx}(hc:X.calm=true):C8 X (.builtin "sorted") X6/\G8 X.K X6 fV:=by
 refine⟨Wz hc,λT M H vs xs Q i va r h k=> ?_⟩;match xs,r,h with
 | [.dk m], .cons (.dk (a:=a) (o:=o) (es:=es) (ep:=ep) hh e) .nil,h=>
   refine⟨a,o,es,ep,m,rfl,hh,e,h.1,λp b hp c d=> ?_⟩;have l:=Cq.lay (o:= .lst (b.map V.int)) va.tp hp;have f:¬T p:=λz=>by obtain⟨o,e,_⟩:=(va.tp p z).mut;rw[hp] at e;cases e
   have g:¬M p:=λz=>by obtain⟨o,e,_⟩:=va.mu p z;rw[hp] at e;cases e
   exact k _ _ T _ l (.lst Ad f g (RA b)) (h.2 b c d)
end PL
namespace L2
open PySem PySem.Spec PyProof.Rows
def xc (d:kf)(n ep:Nat):It:=
 ⟨λi H=>∃kvs k x,O7 H d n ep kvs/\kvs[i]? =some (k,x),
  λi H v a=>a=H/\∀kvs,O7 H d n ep kvs->∃k,kvs[i]? =some (k,v),
  λi H=>∃kvs,O7 H d n ep kvs/\kvs.length<=i⟩
def dF {P:gn}{K:AAJ}{y:kd}{it:kf}{ep:Nat}:Hu P w K y (xc d n ep) [it] it (λk h=>h.IsValIter it d k n ep) where
 mem:=!2
 obj:=λk h st p hp=>by
  obtain⟨o,g,hc,hd⟩:=st;have b:p=it:=↑hp
  subst b;exact⟨o,g,λv z=>by rw[hd] at z;cases z⟩
 keep:=λk h h' st A=>st.at λo e=>A it (!2) o e
 item:=by
  intro X i hw j hc k Sr s r H E I f st l;subst i hw j;obtain⟨kvs,B,x,hq,hx⟩:=l;obtain⟨vs,a,m⟩:=hq.at I;have hl:vs.length=n:=by obtain⟨_,_,_,_,e⟩:=hq;rw[<-e];exact a.length.symm
  subst hl;obtain⟨u,hu,C⟩:=gF a hx;refine wpAny_pyNext_values_item st m hu λh1 c D=> ?_;refine⟨_,rfl, ?_⟩;obtain⟨o,g,F,hd⟩:=id c;refine ZD (s:={s with heap:=h1}) g F hd (!1) ?_;have G:Inv X Sr r H {s with heap:=h1,toks:=s.toks}:=I.turnedL (t':=s.toks) f λp o hp z=>by
   have b:p≠it:=↑hp
   exact D.extBut p o b z
  exact⟨x,H,G,C,⟨rfl,λt h'=>⟨B,by rw[h'.one hq];exact hx⟩⟩,c,λp hp=>(f p hp).1⟩
 done:=by
  intro X i hw j hc k Sr s r H E I f st l;subst i hw j;obtain⟨kvs,hq,hx⟩:=l;obtain⟨vs,a,m⟩:=hq.at I;have hl:vs.length=n:=by obtain⟨_,_,_,_,e⟩:=hq;rw[<-e];exact a.length.symm
  have L:=a.length;subst hl;refine wpAny_pyNext_values_end (I.ok.hd hc) st m (by rw[AGe];omega) λh' J=>⟨rfl, ?_⟩;exact I.turnedL (t':=s.toks) f λp o hp z=>by
   have b:p≠it:=↑hp
   exact J p o b z
 self:=λ_ _ _ _ _ st h=>wpAny_pyIter_valiter st h
section
variable {X:Cx}
def lS {te:TE}{apos:Pos}(he:PE X e te)(hb:attributeBase e "values" X.env (eval e X.env)=eval e X.env)(A:((backTo f (starEach [] X.env)).all (λx=> !x.1)&&(backToKw f (keywordEach [] X.env)).all (λx=>x.1.isSome)&&decide (([] :km kd).length+([] :km Keyword).length+(if ([] :km Keyword).isEmpty then 0 else 1)<30))=true)(hl:(apos.endLine==f.line)=true)(B:backTo f (starEach [] X.env)= []):PI X z (.Call (.Attribute e "values" apos) [] [] f) (λk H R=>te k H λv H1=>∃d n ep kvs,v= .ref d/\O7 H1 d n ep kvs/\R (xc d n ep) H1):=by
 intro Sr s k H R I h;refine AFM hb A hl AFN AGi PySem.F.type_dict_values (BA (he Sr s k H _ I h) λu g ⟨x,H1,i,C,d,n,ep,kvs,ex,l,D⟩=> ?_);subst ex;obtain rfl:u=Value.ref d:=C;obtain⟨vs,m,t⟩:=l.at i;have E:vs.length=n:=by obtain⟨_,_,_,_,e⟩:=l;rw[<-e];exact m.length.symm
 obtain⟨o,G,J,N,_⟩:=id l;obtain⟨t1,t2,K⟩:=Sj i (.inl ⟨kvs, .inr ⟨o,J⟩⟩);have y:g.heap.DictOf (Ax X.prog X.w) d vs:=let ⟨o,es,a,b,c,r⟩:=t;⟨o,es,ep,a,b,c,r⟩;refine⟨t1,t2, ?_⟩;rw[B];refine AEa rfl (PySem.evalArgs_none ?_);refine AEm AGi y.typeIs PySem.F.entry_dict_values (PySem.F.args_dict_values_1 _) (meets_dict_values (Ax X.prog X.w) d K) ⟨⟨vs,y⟩, ?_⟩;have L:(g.heap.push {cls:= .type "dict_values",data:= .fields #[.ref d] }).DictAt (Ax X.prog X.w) d vs ep:=t.push _;refine wpAny_pyIter_values (s:={g with heap:=g.heap.push {cls:= .type "dict_values",data:= .fields #[.ref d] }}) (knd:=Ax X.prog X.w) (d:=d) ⟨_,AAV _ rfl,rfl,rfl⟩ L ?_;subst E;have j:(g.heap.push {cls:= .type "dict_values",data:= .fields #[.ref d] }).objs.size=g.heap.objs.size+1:=ACA ..;refine⟨_, [g.heap.objs.size+1],_,_,H1,congrArg Value.ref j,i.kept (t':=g.toks) λb O q=>AAP _ (AAP _ q),dF, ?_,λp hp=> ?_,D⟩
 .have:=AAV (g.heap.push {cls:= .type "dict_values",data:= .fields #[.ref d] }) (o:={cls:= .type "dict_valueiterator",data:= .fields #[Value.ref d,Value.int 0 0,Value.int (vs.length:Int) 0,Value.int (ep:Int) 0] }) rfl;rw[j] at this;exact⟨_,this,rfl,rfl⟩
 .have M:p=g.heap.objs.size+1:=↑hp
  subst M;exact i.fpOk (ACP _ _) (i.hok.fresh (ACP _ _))
end
end L2
namespace PL
open PySem PySem.Spec PyProof.Rows L2
def bX {K:AAJ}{H:Hp}{ep:Nat}(va:Gs T M H)(h:H d=some (.frz o (.dK (F6 m))))(e:o.data= .dict es ep):R1 K M (xc d m.length ep) (m.map λp=> .int p.2) T H:=by
 have b:O7 H d m.length ep (F6 m):=⟨o,es,h,e,by unfold F6;rw[AAT]⟩;have a:∀{i:Nat} {y:PV},(m.map λp=>PV.int p.2)[i]? =some y->∃p:Int×Int,y= .int p.2/\(F6 m)[i]? =some (.inl p.1, .int p.2):=λ{i y} hy=>by rw[AAu] at hy;obtain⟨p,hp,rfl⟩:=ADL.mp hy;refine⟨p,rfl, ?_⟩;unfold F6;rw[AAu,hp];rfl
 refine⟨λi y hy=> ?_,λi y v f hy c=> ?_,λi hi=>⟨_,b,by unfold F6;simpa using hi⟩⟩
 .obtain ⟨p,_,hp⟩:=a hy;exact⟨_,_,_,b,hp⟩
 .obtain ⟨p,rfl,hp⟩:=a hy;obtain⟨rfl,hu⟩:=c;obtain⟨k,hx⟩:=hu _ b;rw[hp] at hx;cases hx;exact⟨Cq.refl va.tp, .int _⟩
section
variable {X:Cx}
def uA (a:AE):AI:=λτ Q=>a τ λx=>match x with | .dk m=>Q (m.map λp=> .int p.2)|_=>False
def mH {apos:Pos}(he:SE X e c)(hb:attributeBase e "values" X.env (eval e X.env)=eval e X.env:=by rfl)(g:((backTo a (starEach [] X.env)).all (λx=> !x.1)&&(backToKw a (keywordEach [] X.env)).all (λx=>x.1.isSome)&&decide (([] :km kd).length+([] :km Keyword).length+(if ([] :km Keyword).isEmpty then 0 else 1)<30))=true:=by rfl)(hl:(apos.endLine==a.line)=true:=by rfl)(i:backTo a (starEach [] X.env)= [] :=by rfl):SI X f (.Call (.Attribute e "values" apos) [] [] a) true (uA c):=by
 obtain⟨t,j,s⟩:=he;refine⟨_,lS j hb g hl i,λB T l τ H R p n h k=>s B T l τ H _ _ n h λv x T1 H1 o r1 h1=> ?_⟩;split at h1 <;> first | exact h1.elim|skip
 rename_i m;cases r1 with
 | dk b e=> exact⟨_,_,_,_,rfl,⟨_,_,b,e,by unfold F6;rw[AAT]⟩,k _ _ T1 H1 o (λM2 r w d va _=>bX va (by obtain⟨t,u⟩:=d.va.noFrz b;exact d.keep _ _ t u b) e) h1⟩
end
end PL
namespace L2
open PySem PySem.Spec PyProof.Rows
def vN:V->V->Hp->VK->Prop:=λx y H Q=>∃p xs i v,x= .ref p/\y= .int i/\0<=i/\H p=some (.lst xs)/\xs[i.toNat]? =some v/\Q v H
section
variable {X:Cx}
def fZ:tq X vN:=by intro Sr s g H x y j k Q I b c h;obtain⟨p,xs,i,v,rfl,rfl,d,hp,hx,q⟩:=h;cases b;obtain⟨t,rfl⟩:=c;obtain⟨e,n,r,f,hz⟩:=I.lst hp;obtain⟨w,ew,a⟩:=r.get hx;have hl:=r.length;have l:=K5;have m:i.toNat<xs.length:=(AB8.mp hx).1;exact wpAny_getItem_list (x:=w) ⟨_,f,rfl,n,rfl⟩ d (!0) (↑ew) ⟨v,H,I,a,q⟩
end
end L2
namespace PL
open PySem PySem.Spec PyProof.Rows L2
section
variable {X:Cx}{e:kd}{ta:AE}{pos:Pos}
def nL (i:Nat)(c ta:AE):AS:=λD τ=>L8 i τ λxs=>c τ λk=>UI k λk=>0<=k/\k<xs.length/\UI (xs.getD k.toNat .non) λa=>ta τ λy=>UI y λb=>D.nx (τ.set i (some (.own (xs.set k.toNat (.int (a+b))))))
def mS {i:Nat}(hi:SE X ix C)(he:SE X e ta)(hN:X.N[i]? =some x:=by rfl)(hv:nK X.env.scope x:=by first | exact Or.inl rfl|exact Or.inr (Or.inl rfl)|exact Or.inr (Or.inr rfl))(hd:(x==("__debug__" :Str))=false:=by decide)(O:(x==("__classdict__" :Str))=false:=by decide)(ha:∀g j new,augStore ix g j new=(do holding [new,g,j] (setItem g j new);release [new,g,j] [];pure .next):=by intros;rfl):SS X (.AugAssign (.Subscript (.Name x p) ix d) .Add e pos) (nL i C ta):=by
 obtain⟨t,P,s⟩:=hi;obtain⟨t',n,Q⟩:=he;refine⟨_,lc (OQ hN hv hd O) P fZ n gA KF ha,λB T E τ H D AD l h R=> ?_⟩;obtain⟨xs,e,h⟩:=R7 h;obtain⟨q,vs,F,hp,r2,b0,G,nb⟩:=l.own i xs e;refine⟨.ref q,F,s B T E τ H _ _ l h λw k T1 H1 f r1 h1=> ?_⟩;obtain⟨k,rfl,h1⟩:=HL h1;obtain⟨I,k1,h1⟩:=h1;obtain⟨a,J,h1⟩:=HL h1;cases r1.toI;have c:=l.stp f;have K:=f.keep _ _ G hp;have L:=r2.stp f l.va;have o:k.toNat<xs.length:=!0
 have S:k.toNat<vs.length:=by rw[r2.length];exact o
 have U:xs[k.toNat]? =some (.int a):=by rw[List.getD_eq_getElem?_getD,AAi o,Option.getD_some] at J;rw[AAi o,J]
 obtain⟨u,W,Y⟩:=L.get U;cases Y.toI;refine⟨q,vs,k,_,rfl,rfl,I,K,W,Q B T1 E τ H1 _ _ c h1 λw2 y Z H2 m r4 h2=> ?_⟩;obtain⟨b,rfl,h2⟩:=HL h2;cases r4.toI;have M:=m.keep _ _ (λz=>by
  rcases f.new q z with z|z
  .exact G z
  .rw [hp] at z;cases z) K
 have r:=c.stp m;obtain⟨v,A⟩:=r.write (i:=i) (xs:=xs) e F M (Az.set (.int (a+b)) k.toNat (L.stp m c.va));refine⟨a,b,rfl,rfl,q,vs,k,k.toNat,rfl,rfl,M, ?_,R.nx Z _ _ _ ((f.trans m).prog.trans A) v h2⟩;unfold ZQ;rw[AAM I,AAM (!0)]
end
def aGk (a b:AE):AE:=λτ Q=>a τ λx=>lE x λm=>b τ λy=>UI y λk=>∃v,m.lookup k=some v/\Q (.int v)
theorem WS {k:Int}:∀{m:km (Int×Int)},m.lookup k=some v->EZ (F6 m) (.inl k:CD)=some (.int v)
 | [],h=>by cases h
 | p::m,h=>by
   by_cases e:p.1=k
   .subst e;simp[List.lookup] at h;subst h;exact GF (p:=((Sum.inl p.1:CD),V.int p.2)) rfl
   .have a:(k==p.1)=false:=by simpa using λz=>e z.symm
    obtain⟨p1,p2⟩:=p;simp only[List.lookup,a] at h;refine(GE (p:=((Sum.inl p1:CD),V.int p2)) (r:=F6 m) (k:=(Sum.inl k:CD)) λz=>e ?_).trans (WS h);cases z;rfl
section
variable {X:Cx}
def vp {k:Nat}(n:Room k X.A)(p:SE X o e)(hi:SE X i f)(hs:eB i):SE X (.Subscript o i pos) (aGk e f):=by
 obtain⟨t,r,s⟩:=p;obtain⟨t',b,u⟩:=hi;refine⟨_,lM (zK n) r b hs,λB T g τ H Q E c h k=>s B T g τ H _ _ c h λv x T1 H1 d r1 h1=> ?_⟩;cases x <;> first | exact h1.elim|skip
 rename_i m;cases r1;rename_i a w es ep F j;refine u B T1 g τ H1 _ _ (c.stp d) h1 λG y z C l r2 h2=> ?_;obtain⟨i,rfl,v,hv,h2⟩:=HL h2;cases r2.toI;obtain⟨D,_⟩:=(c.stp d).va.noFrz j;exact⟨a, .int v,rfl, .inl ⟨F6 m, .inl i, .inr ⟨w,l.keep _ _ D j⟩,rfl,(WS hv).symm⟩,k _ _ z C (d.trans l) (.int v) h2⟩
end
section
variable {X:Cx}{a b c d e:kd}{ta tb tc td:AE}{pos:Pos}
def Bo (ha:SE X a ta)(h:starEach [a] X.env=(false,eval a X.env)::starEach [] X.env:=by rfl):SA X [a] (AB ta AM):=A5 ha DV h
def Ao (ha:SE X a ta)(hb:SE X b tb)(h:starEach [a,b] X.env=(false,eval a X.env)::starEach [b] X.env:=by rfl)(h2:starEach [b] X.env=(false,eval b X.env)::starEach [] X.env:=by rfl):SA X [a,b] (AB ta (AB tb AM)):=A5 ha (Bo hb h2) h
def DG (ha:SE X a ta)(hb:SE X b tb)(hc:SE X c tc)(h:starEach [a,b,c] X.env=(false,eval a X.env)::starEach [b,c] X.env:=by rfl)(h2:starEach [b,c] X.env=(false,eval b X.env)::starEach [c] X.env:=by rfl)(h3:starEach [c] X.env=(false,eval c X.env)::starEach [] X.env:=by rfl):SA X [a,b,c] (AB ta (AB tb (AB tc AM))):=A5 ha (Ao hb hc h2 h3) h
def AU (ha:SE X a ta)(hb:SE X b tb)(hs:R4 b:=by exact λ_ _=>rfl):SE X (.Subscript a b pos) (AY Ai ta tb):=vq v5 ha hb hs
def Et (g:Ea X (compareOp op) r/\CN X.K r f)(ha:SE X a ta)(hb:SE X b tb)(h:behindInMarks op b=false:=by exact Cs _):Um X (.Compare a [op] [b] pos) (As (AY f ta tb)):=rW g ha hb h
def CB (i:Nat)(hN:X.N.Nodup)(he:SE X e ta)(hi:X.N[i]? =some x:=by rfl)(hx:Loc X.env.scope x:=by exact Or.inl rfl)(hs:swapsWith e (some (.Name x pos')) pos.line X.env=pure false:=by rfl)(f:X.fn x=true\/X.env.scope.names.lookup x=some .local:=by first | exact .inl rfl|exact .inr rfl|assumption):SS X (.Assign [.Name x pos'] e pos) (Aj ta (Ak i)):=FG hN hi hx he hs f
def Cv (i:Nat)(hN:X.N.Nodup)(hi:X.N[i]? =some x:=by rfl)(hx:Loc X.env.scope x:=by exact Or.inl rfl)(f:X.fn x=true\/X.env.scope.names.lookup x=some .local:=by first | exact .inl rfl|exact .inr rfl|assumption):SG X (.Name x pos) (Ak i):=Tn hN hi hx f
def MM (i:Nat){own:Nat}(hN:X.N.Nodup)(hi:X.N[i]? =some x:=by rfl)(hx:Loc X.env.scope x:=by exact Or.inl rfl)(hk:i<own:=by decide)(f:X.fn x=true\/X.env.scope.names.lookup x=some .local:=by first | exact .inl rfl|exact .inr rfl|assumption):SK own X (.Name x pos) (Ak i):=mO hN hi hx hk f
end
def map_pair {a b c:Type}{o:ke a}{f:a->b}{g:a->c}{x:b}{y:c}(h1:o.map f=some x)(h2:o.map g=some y):o.map (λs=>(f s,g s))=some (x,y):=by
 cases o with
 | none=>cases h1
 | some s=>cases h1;cases h2;rfl
def map5 {a A B C D E:Type}{o:ke a}{F:a->A×B×C×D×E}{X:A×B×C×D×E}(h1:o.map (λs=>(F s).1)=some X.1)(h2:o.map (λs=>(F s).2.1)=some X.2.1)(h3:o.map (λs=>(F s).2.2.1)=some X.2.2.1)(b:o.map (λs=>(F s).2.2.2.1)=some X.2.2.2.1)(c:o.map (λs=>(F s).2.2.2.2)=some X.2.2.2.2):o.map F=some X:=by
 cases o with
 | none=>cases h1
 | some s=>exact congrArg some (AEX (AAt h1) (AEX (AAt h2) (AEX (AAt h3) (AEX (AAt b) (AAt c)))))
def BE {K:AAJ}{k a:Nat}{sp:Sp}(H:Has P w K mg base k x ps sp)(h:k<=a:=by decide):Has P w K mg base a x ps sp:=H.mono h
end PL
open PySem L2 PL PyProof.Rows
local macro_rules | `(tactic| decreasing_trivial_pre_omega)=> `(tactic| first | assumption|omega|((apply Bd.mono);(focus (repeat' (first | assumption|exact Ed.m (by assumption)|exact Ed.x (by assumption)|exact Ed.y (by assumption)|exact Ed.z (by assumption)|exact uB|exact uC|with_reducible apply Bd.add|with_reducible apply Bd.sub|with_reducible apply Bd.mul|with_reducible apply Bd.neg|with_reducible apply Bd.mx|with_reducible apply Bd.mn)));first | omega|decide)|decide|(simp only [List.length_map,List.length_append,List.length_cons,List.length_nil,List.length_take,List.length_drop,List.length_zip,List.length_reverse];omega)|(show _<=16777216;simp only [List.length_map,List.length_append,List.length_cons,List.length_nil,List.length_take,List.length_drop,List.length_zip,List.length_reverse];omega)|(show _<16777216;simp only [List.length_map,List.length_append,List.length_cons,List.length_nil,List.length_take,List.length_drop,List.length_zip,List.length_reverse];omega)|(refine And.intro ?_ ?_ <;> decreasing_trivial_pre_omega)|exact rfl)
local macro_rules | `(tactic| array_mem_dec)=> `(tactic| first
 | refine Wp.go ?_
 | ((refine Ws.go ?_ ?_);focus (first | exact True.intro|decreasing_trivial_pre_omega))
 | ((with_reducible apply And.intro);focus decreasing_trivial_pre_omega)
 | ((with_reducible apply q9);focus decide)
 | ((with_reducible apply q0);focus decide)
 | ((with_reducible apply s_ifnT);focus decide)
 | ((with_reducible apply rA);focus decide)
 | refine xm.go (λ_=> ?_) (λ_=> ?_)
 | ((with_reducible apply s_ixPl);focus assumption)
 | ((with_reducible apply s_all);focus exact rfl)
 | ((with_reducible apply s_isi);(focus (first | exact .inl rfl|exact .inr (.inl rfl)|exact .inr (.inr (.inl rfl))|exact .inr (.inr (.inr rfl))));(focus exact rfl))
 | ((with_reducible apply vd);focus exact rfl)
 | ((with_reducible apply vc);focus exact rfl)
 | intro _
 | with_reducible rfl)
local macro_rules | `(tactic| array_get_dec)=> `(tactic| first | array_mem_dec|refine WpU.go ?_|fail)
local macro_rules | `(tactic| ac_rfl)=> `(tactic| repeat' array_mem_dec)
local macro_rules|`(tactic|nofun)=>`(tactic|repeat' array_get_dec)
namespace PL
open PySem L2 PyProof.Rows
def oC (a:Bd M m)(b:Gk cs)(hb:∀c∈cs,Ed B c):Ed (M+6*B+10) (sp cs m):=by
 have t:Dw (M+6*B+10) ((spotC cs m).getD (0,0,0)):=by
  cases e:spotC cs m with
  | none=> have z:Bd (M+6*B+10) (0:Rat):=Bd.mono (m:=2) ⟨!1,!1⟩ (!0);exact⟨z,z,z⟩
  | some t=>exact Dw.spotC a b hb t e
 exact⟨a.mono (!0),t.x,t.y,t.z⟩
abbrev Yo:AS:=
 (Aq (Ap (AB (aV 0) (AB (aC (.int 1)) AM))))
def Hi:AF:=An 1 Yo
def cu {Q:PV->Prop}(h:Yo ⟨λ_=>Q .non,Q,λ_=>False,λ_=>False⟩ [some (.val a)]):Hi [a] Q:=h
instance{k:Int}{Q:PV->Prop}:Wp (Hi [.int k] Q) (Q (fr (k:Rat))):=⟨λh=>by
 apply cu;nofun
 exact h⟩
def GM.open (p:GM n B cs):∃a r l,cs=a::r/\r≠ [] /\(a::r).getLast?=some l/\a.1<l.1:=by
 obtain⟨two,c,d,b⟩:=p;match cs,two,b with
 | a::b0::r,_,b=>exact⟨a,b0::r,_,rfl,!2,AFR (!2),(AAU.mp b).1 _ (ADN (bg (AFR (!2))))⟩
instance{r:AA}{a:km PV->Prop}:Wp (ox r τ a) (r τ λc=>match c with | [x,y,z] =>Mb x λxs=>Mb y λys=>Mb z λb=>(xs.length=ys.length/\xs.length=b.length)/\a (GG xs ys b)|_=>False):=⟨id⟩
abbrev M7:AS:=
 (Aq (Ap (AB (UE Jn (AY Ai (aV 0) (aC (.int 0)))) (AB (AY Ai (aV 0) (aC (.int 1))) AM))))
def CG:AF:=An 1 M7
def TW {Q:PV->Prop}(h:M7 ⟨λ_=>Q .non,Q,λ_=>False,λ_=>False⟩ [some (.val a)]):CG [a] Q:=h
abbrev M5:AS:=
 (Aq (eT (UE fN (AN 2 Am (AB (aV 1) (AB (AY Ai (AY Ai (aV 0) (aC (.int 0))) (aC (.int 0))) AM)))) (AN 2 Am (AB (aV 1) (AB (AY Ai (AY Ai (aV 0) (UE Jn (aC (.int 1)))) (aC (.int 0))) AM)))))
def D2:AF:=An 2 M5
def TU {Q:PV->Prop}(h:M5 ⟨λ_=>Q .non,Q,λ_=>False,λ_=>False⟩ [some (.val a),some (.val b)]):D2 [a,b] Q:=h
abbrev IC:AS:=
 (Aa (Aj (AN 2 Bw (AB (aV 2) (AB (aV 3) AM))) (Ak 4))
   (Aq (eT (UE fN (AN 2 Am (AB (aV 4) (AB (AN 1 CG (AB (AY Ai (AY Ai (aV 0) (aC (.int 1))) (aC (.int 2))) AM)) AM)))) (UE fN (AN 2 Am (AB (AY Ai (AY Ai (aV 1) (aC (.int 1))) (aC (.int 2))) (AB (aV 4) AM)))))))
def DA:AF:=An 5 IC
def ML {Q:PV->Prop}(h:IC ⟨λ_=>Q .non,Q,λ_=>False,λ_=>False⟩ [some (.val a),some (.val b),some (.val c),some (.val d),none]):DA [a,b,c,d] Q:=h
abbrev QS:AS:=
 (Aq (jl (As (AY O9 (aV 1) (aC (.int 2)))) (AY Ai (aV 0) (aC (.int 1))) (AY Ai (aV 0) (aC (.int 0)))))
def CU:AF:=An 2 QS
def WA {Q:PV->Prop}(h:QS ⟨λ_=>Q .non,Q,λ_=>False,λ_=>False⟩ [some (.val a),some (.val b)]):CU [a,b] Q:=h
abbrev Pb:AS:=
 (Aa (Aj (AN 2 D4 (AB (AN 2 CU (AB (AY Ai (aV 0) (aC (.int 1))) (AB (aV 4) AM))) (AB (AN 2 CU (AB (AY Ai (aV 1) (aC (.int 1))) (AB (aV 4) AM))) AM))) (Ak 5))
   (Dx 3 HJ (AB (AN 2 D4 (AB (AN 2 CU (AB (aV 2) (AB (aV 4) AM))) (AB (aV 5) AM))) AM)))
abbrev Pd:AS:=
 (Aa (EK (R8 (AB (aC (.int 3)) AM)) (Ak 4) Pb)
   (Aq (aV 3)))
abbrev NG:AS:=
 (Aa (HA (ET AM) 3)
   Pd)
def D5:AF:=An 6 NG
def TZ {Q:PV->Prop}(h:NG ⟨λ_=>Q .non,Q,λ_=>False,λ_=>False⟩ [some (.val a),some (.val b),some (.val c),none,none,none]):D5 [a,b,c] Q:=h
abbrev RT:AS:=
 (Aa (Aj (AN 2 Bw (AB (aV 5) (AB (aV 6) AM))) (HB 2 (Ab (Ak 8) (Ab (Ak 9) BP))))
   (Bf (F2 (As (AN 2 Am (AB (Ap (AB (Hj U6 (AB (aV 8) AM)) (AB (aV 9) AM))) (AB (aV 7) AM))))) (Aq (aC (.bl false))) BD))
abbrev RU:AS:=
 (Aa (EK (ox (AB (AN 2 D6 (AB (AY Ai (aV 0) (aC (.int 0))) (AB (aV 3) AM))) (AB (AN 2 D6 (AB (AY Ai (aV 1) (aC (.int 0))) (AB (aV 4) AM))) (AB (AN 3 D5 (AB (aV 0) (AB (aV 1) (AB (aV 2) AM)))) AM)))) (HB 3 (Ab (Ak 5) (Ab (Ak 6) (Ab (Ak 7) BP)))) RT)
   (Aq (aC (.bl true))))
abbrev QM:AS:=
 (Aa (Bf (R6 (F2 (As (AN 2 D2 (AB (AY Ai (aV 0) (aC (.int 0))) (AB (aV 3) AM))))) (R6 (F2 (As (AN 2 D2 (AB (AY Ai (aV 1) (aC (.int 0))) (AB (aV 4) AM))))) (F2 (As (AN 4 DA (AB (aV 0) (AB (aV 1) (AB (aV 3) (AB (aV 4) AM))))))))) (Aq (aC (.bl false))) BD)
   RU)
def DX:AF:=An 10 QM
def V4 {Q:PV->Prop}(h:QM ⟨λ_=>Q .non,Q,λ_=>False,λ_=>False⟩ [some (.val a),some (.val b),some (.val c),some (.val d),some (.val e),none,none,none,none,none]):DX [a,b,c,d,e] Q:=h
def aM (b:T3)(v:PV):Prop:=v=sn b\/v= .lst [fr b.1,fr b.2.1,fr b.2.2]
def Fb (cs:km C4)(b:T3)(v:PV):Prop:=∃p w,CM cs p/\aM b w/\(v= .tup [p,w] \/v= .lst [p,w])
def Mo (d:Rat×Rat)(v:PV):Prop:=v= .tup [fr d.1,fr d.2] \/v= .lst [fr d.1,fr d.2]
def qL (r:Rat):PV.tup [.int (-r.num), .int r.den] =fr (-r):=by unfold fr;rw[Rat.neg_num,Rat.neg_den]
def GU {r:Rat}{Q:PV->Prop}(q:Q (fr (-r))):CG [fr r] Q:=by
 apply TW;nofun
 rw[qL];exact q
def yq {a:C4}{r:km C4}{R:PV->Prop}(hv:CM (a::r) v)(h:∀x,(x=cor a\/x=corL a)->R x):Ai v (.int 0) R:=by
 obtain⟨f,b,hv⟩:=hv;have hx:f a=cor a\/f a=corL a:=by rcases b with rfl|rfl <;> simp
 rcases hv with rfl|rfl
 .show jS (Jf (f a::r.map f) 0) R;rw[show Jf (f a::r.map f) 0=some (f a) from DL (j:=0) rfl];exact h _ hx
 .show jS (Jf (f a::r.map f) 0) R;rw[show Jf (f a::r.map f) 0=some (f a) from DL (j:=0) rfl];exact h _ hx
def yr {R:PV->Prop}(hv:CM cs v)(a:cs.getLast?=some l)(h:∀x,(x=cor l\/x=corL l)->R x):Ai v (.int (-1)) R:=by
 obtain⟨f,b,hv⟩:=hv;have hx:f l=cor l\/f l=corL l:=by rcases b with rfl|rfl <;> simp
 rcases hv with rfl|rfl
 .exact U7 a (h _ hx)
 .exact U7 a (h _ hx)
def c0 {x:PV}{R:PV->Prop}(hx:x=cor c\/x=corL c)(h:R (fr c.1)):Ai x (.int 0) R:=by rcases hx with rfl|rfl <;> exact h
def WN {a:C4}{r:km C4}(hv:CM (a::r) v)(b:(a::r).getLast?=some l)(ba:Bd 3000 a.1)(c:Bd 3000 l.1)(bm:Bd 3000 m){Q:PV->Prop}(q:Q (.bl (!decide (m<a.1)&&decide (m<l.1)))):D2 [v,fr m] Q:=by
 apply TU;ac_rfl;refine yq hv λx hx=> ?_;ac_rfl;refine c0 hx ?_;ac_rfl
 .refine yr hv b λx hx=> ?_;ac_rfl;refine c0 hx ?_;ac_rfl;rename_i h;rw[AAo h] at q;exact q
 .rename_i h;have h:m<a.1:=by by_cases z:m<a.1 <;> simp_all
  rw[AAl h] at q;exact q
def f0 {R:PV->Prop}(hv:Fb cs b v)(h:∀p,CM cs p->R p):Ai v (.int 0) R:=by obtain⟨p,w,hp,hw,hv⟩:=hv;rcases hv with rfl|rfl <;> exact h p hp
def f1 {R:PV->Prop}(hv:Fb cs b v)(h:∀w,aM b w->R w):Ai v (.int 1) R:=by obtain⟨p,w,hp,hw,hv⟩:=hv;rcases hv with rfl|rfl <;> exact h w hw
def b2 {R:PV->Prop}(hw:aM b w)(h:R (fr b.2.2)):Ai w (.int 2) R:=by rcases hw with rfl|rfl <;> exact h
def Vs {t:Rat}(hv:Fb cs b v)(hw:Fb ds e w)(c:Bd 100 b.2.2)(g:Bd 100 e.2.2)(bs:Bd 1800 s)(bt:Bd 1800 t){Q:PV->Prop}(q:Q (.bl (!decide (s+b.2.2<t)&&!decide (t+e.2.2<s)))):DA [v,w,fr s,fr t] Q:=by
 have d:=bs.sub bt;have i:=c.neg;have a:(s-t < -b.2.2)=(s+b.2.2<t):=propext ⟨λh=>!3,λh=>!3⟩;have f:(e.2.2<s-t)=(t+e.2.2<s):=propext ⟨λh=>!3,λh=>!3⟩;apply ML;ac_rfl;refine f1 hv λx hx=> ?_;ac_rfl;refine b2 hx ?_;ac_rfl;refine GU ?_;ac_rfl
 .refine f1 hw λx hx=> ?_;ac_rfl;refine b2 hx ?_;ac_rfl;rename_i h;have h:¬s+b.2.2<t:=λz=>h (by rw[a];exact z);rw[AAo h,AFf,AEH] at q;simp only[f];exact q
 .rename_i h;have h:s+b.2.2<t:=by rw[<-a];by_cases z:s-t < -b.2.2 <;> simp_all
  rw[AAl h] at q;exact q
def OA {k n:Nat}(h:k<=n)(a:n<1000000):k<sizeLine:=AAq h (AAf a (ACC rfl))
noncomputable def szs (b e:T3)(d:Rat×Rat):T3:=(d.1+(b.1+e.1),d.1+(b.1+e.1),d.2+(b.2.1+e.2.1))
def Zz {y:Rat}{k:Int}(a:∀{R:PV->Prop},R (fr x)->Ai w (.int 0) R)(h1:∀{R:PV->Prop},R (fr y)->Ai w (.int 1) R){Q:PV->Prop}(q:Q (fr (if k=2 then y else x))):CU [w, .int k] Q:=by
 apply WA;ac_rfl
 .rename_i h;rw[AAM h] at q;exact h1 q
 .rename_i h;rw[AAL h] at q;exact a q
def Uq {k:Int}(hw:aM b w){Q:PV->Prop}(q:Q (fr (if k=2 then b.2.1 else b.1))):CU [w, .int k] Q:=
 Zz (λh=>by rcases hw with rfl|rfl <;> exact h) (λh=>by rcases hw with rfl|rfl <;> exact h) q
def Jd {k:Int}(hw:Mo d w){Q:PV->Prop}(q:Q (fr (if k=2 then d.2 else d.1))):CU [w, .int k] Q:=
 Zz (λh=>by rcases hw with rfl|rfl <;> exact h) (λh=>by rcases hw with rfl|rfl <;> exact h) q
def WI (hv:Fb cs b v)(hw:Fb ds e w)(hu:Mo d u)(l:Dw 100 b)(m:Dw 100 e)(b1:Bd 100 d.1)(b2:Bd 100 d.2){Q:PV->Prop}(q:Q (.lst [fr (szs b e d).1,fr (szs b e d).2.1,fr (szs b e d).2.2])):D5 [v,w,u] Q:=by
 have s:=l.x;have f:=l.y;have ex:=m.x;have z:=m.y;have F:=s.add ex;have G:=f.add z;apply TZ;ac_rfl;have bk:∀k:Int,Bd 100 (if k=2 then b.2.1 else b.1):=λk=>by split <;> assumption
 have A:∀k:Int,Bd 100 (if k=2 then e.2.1 else e.1):=λk=>by split <;> assumption
 have B:∀k:Int,Bd 100 (if k=2 then d.2 else d.1):=λk=>by split <;> assumption
 refine SN (λi τ=>∃a c,τ= [some (.val v),some (.val w),some (.val u),some (.own ((List.range i).map λk:Nat=>fr ((if (k:Int)=2 then d.2 else d.1)+((if (k:Int)=2 then b.2.1 else b.1)+(if (k:Int)=2 then e.2.1 else e.1))))),a,c]) ?_ ?_ ⟨_,_,rfl⟩
 .rintro τ ⟨a,c,rfl⟩;ac_rfl;exact q
 .rintro i hi τ R o ⟨a,c,rfl⟩;have H:i<3:=hi;have g:∀a c,R [some (.val v),some (.val w),some (.val u),some (.own (((List.range i).map λk:Nat=>fr ((if (k:Int)=2 then d.2 else d.1)+((if (k:Int)=2 then b.2.1 else b.1)+(if (k:Int)=2 then e.2.1 else e.1)))) ++ [fr ((if (i:Int)=2 then d.2 else d.1)+((if (i:Int)=2 then b.2.1 else b.1)+(if (i:Int)=2 then e.2.1 else e.1)))])),a,c] :=λa c=>o _ ⟨a,c,by rw[List.range_succ,AAv];rfl⟩;clear o;have h:=bk i;have j:=A i;have C:=B i;have I:=h.add j;have D:((List.range i).map λk:Nat=>fr ((if (k:Int)=2 then d.2 else d.1)+((if (k:Int)=2 then b.2.1 else b.1)+(if (k:Int)=2 then e.2.1 else e.1)))).length<=3:=by rw[AAT,List.length_range];omega
  generalize ((List.range i).map λk:Nat=>fr ((if (k:Int)=2 then d.2 else d.1)+((if (k:Int)=2 then b.2.1 else b.1)+(if (k:Int)=2 then e.2.1 else e.1))))=L at *;have E:(0:Int)+i=i:=!0
  rw[E];ac_rfl;refine f1 hv λx hx=> ?_;ac_rfl;refine Uq hx ?_;ac_rfl;refine f1 hw λx hx=> ?_;ac_rfl;refine Uq hx ?_;generalize (if (i:Int)=2 then b.2.1 else b.1)=p at *;generalize (if (i:Int)=2 then e.2.1 else e.1)=r at *;ac_rfl;refine Jd hu ?_;generalize (if (i:Int)=2 then d.2 else d.1)=t at *;ac_rfl;refine⟨OA (n:=3) D (!1), ?_⟩;ac_rfl;exact g _ _
noncomputable def K9 (x y z:Rat):kc:=decide (x-y<z)&&decide (-(x-y)<z)
noncomputable def ZX (a l c f:C4)(b e:T3)(d:Rat×Rat)(x y:T3)(s t:Rat):kc:=
 (!decide (s<a.1)&&decide (s<l.1))&&((!decide (t<c.1)&&decide (t<f.1))&&((!decide (s+b.2.2<t)&&!decide (t+e.2.2<s))&&(K9 x.1 y.1 (szs b e d).1&&(K9 x.2.1 y.2.1 (szs b e d).2.1&&K9 x.2.2 y.2.2 (szs b e d).2.2))))
def ou (r:Rat):PV.tup [.int (r.num.natAbs:Int), .int r.den] =fr (if r<0 then -r else r):=by
 unfold fr;by_cases h:r<0
 .rw [AAM h,Rat.neg_num,Rat.neg_den];have:¬0<=r.num:=λz=>by have:=Rat.num_nonneg.mp z;grind
  rw[show ((r.num.natAbs:Nat):Int)= -r.num by omega]
 .rw [AAL h];have:0<=r.num:=Rat.num_nonneg.mpr (!3);rw[show ((r.num.natAbs:Nat):Int)=r.num by omega]
def kZ (x y z:Rat):decide ((if x-y<0 then -(x-y) else x-y)<z)=K9 x y z:=by
 unfold K9;by_cases h:x-y<0
 .rw [AAM h];by_cases h2: -(x-y)<z
  .have:x-y<z:=!3
   simp[h2,this]
  .simp [h2]
 .rw [AAL h];by_cases h2:x-y<z
  .have: -(x-y)<z:=!3
   simp[h2,this]
  .simp [h2]
def kW {a i k:C4}{r r2:km C4}{t:Rat}(hv:Fb (a::r) b v)(hw:Fb (i::r2) e w)(hu:Mo d u)(hc:∀c∈a::r,Ed B c)(D:∀c∈i::r2,Ed B c)(P:Gk (a::r))(S:Gk (i::r2))(h0:r≠ [])(Qs:r2≠ [])(hl:(a::r).length<=1000)(pV:(i::r2).length<=1000)(E:(a::r).getLast?=some l)(j:(i::r2).getLast?=some k)(n:Dw 100 b)(o:Dw 100 e)(b1:Bd 100 d.1)(p:Bd 100 d.2)(bs:Bd M s)(bt:Bd M t)(hB:M+6*B+10<=1800){Q:PV->Prop}(q:Q (.bl (ZX a l i k b e d ((spotC (a::r) s).getD (0,0,0)) ((spotC (i::r2) t).getD (0,0,0)) s t))):DX [v,w,u,fr s,fr t] Q:=by
 have ba:=(hc a (!2)).m;have bl:=(hc l (ADN E)).m;have F:=(D i (!2)).m;have G:=(D k (ADN j)).m;apply V4;ac_rfl;refine f0 hv λx hx=> ?_;ac_rfl;refine WN hx E (ba.mono (!0)) (bl.mono (!0)) (bs.mono (!0)) ?_;unfold ZX at q;cases t1:(!decide (s<a.1)&&decide (s<l.1)) with
 | false=> rw[t1] at q;ac_rfl;exact q
 | true=>
 rw[t1,AEH] at q;ac_rfl;refine f0 hw λy hy=> ?_;ac_rfl;refine WN hy j (F.mono (!0)) (G.mono (!0)) (bt.mono (!0)) ?_;cases t2:(!decide (t<i.1)&&decide (t<k.1)) with
 | false=> rw[t2] at q;ac_rfl;exact q
 | true=>
 rw[t2,AEH] at q;ac_rfl;refine Vs hv hw n.z o.z (bs.mono (!0)) (bt.mono (!0)) ?_;cases T:(!decide (s+b.2.2<t)&&!decide (t+e.2.2<s)) with
 | false=> rw[T] at q;ac_rfl;exact q
 | true=>
 rw[T,AEH] at q;have g1:a.1<=s/\s<l.1:=by simp at t1;exact⟨!3,t1.2⟩
 have g2:i.1<=t/\t<k.1:=by simp at t2;exact⟨!3,t2.2⟩
 obtain⟨p1,A⟩:=Cw h0 E g1.1 (!3);obtain⟨p2,C⟩:=Cw Qs j g2.1 (!3);have f:=oC bs P hc;have g:=oC bt S D;unfold sp at f g;rw[A] at q f;rw[C] at q g;have H:Bd 1800 p1.1:=f.x.mono (!0);have I:Bd 1800 p1.2.1:=f.y.mono (!0);have J:Bd 1800 p1.2.2:=f.z.mono (!0);have y1:Bd 1800 p2.1:=g.x.mono (!0);have y2:Bd 1800 p2.2.1:=g.y.mono (!0);have y3:Bd 1800 p2.2.2:=g.z.mono (!0);have sb:Bd 400 (szs b e d).1/\Bd 400 (szs b e d).2.1/\Bd 400 (szs b e d).2.2:=⟨(b1.add (n.x.add o.x)).mono (!1),(b1.add (n.x.add o.x)).mono (!1),(p.add (n.y.add o.y)).mono (!1)⟩;ac_rfl;refine f0 hv λx hx=> ?_;ac_rfl;refine Ee hx hc P (!2) hl bs (!0) ?_;rw[A,show RI (some p1)= .tup [fr p1.1,fr p1.2.1,fr p1.2.2] from rfl];ac_rfl;refine f0 hw λy hy=> ?_;ac_rfl;refine Ee hy D S (!2) pV bt (!0) ?_;rw[C,show RI (some p2)= .tup [fr p2.1,fr p2.2.1,fr p2.2.2] from rfl];ac_rfl;refine WI hv hw hu n o b1 p ?_;have q:Q (.bl (K9 p1.1 p2.1 (szs b e d).1&&(K9 p1.2.1 p2.2.1 (szs b e d).2.1&&K9 p1.2.2 p2.2.2 (szs b e d).2.2))):=q;generalize szs b e d=z at *;obtain⟨z1,z2,z3⟩:=z;obtain⟨c1,c2,U⟩:=p1;obtain⟨W,X,Y⟩:=p2;obtain⟨K,L,O⟩:=sb;have step:∀{x y z:Rat} {R N:Prop},Bd 1800 x->Bd 1800 y->Bd 400 z->(K9 x y z=true->R)->(K9 x y z=false->N)->Am [.tup [.int ((x-y).num.natAbs:Int), .int (x-y).den],fr z] λv=>gY v λc=>if (!c)=true then N else R:=λ{x y z R N} bx by' bz h1 h2=>by
  have Z:=bx.sub by';rw[ou];refine CC (by split;exact(Z.neg).mono (!1);exact Z.mono (!1)) (bz.mono (!1)) ?_;rw[kZ];cases hn:K9 x y z with
  | true=>exact h1 hn
  | false=>exact h2 hn
 refine⟨⟨rfl,rfl⟩, ?_⟩;have H:Bd 1800 c1:=H;have I:Bd 1800 c2:=I;have J:Bd 1800 U:=J;have y1:Bd 1800 W:=y1;have y2:Bd 1800 X:=y2;have y3:Bd 1800 Y:=y3;show DB _ _ _ [.tup [fr c1,fr W,fr z1], .tup [fr c2,fr X,fr z2], .tup [fr U,fr Y,fr z3]] _;nofun
 refine step H y1 K (λh=> ?_) (λh=> ?_);rotate_left
 .rw [h] at q;nofun
  exact q
 rw[h,AEH] at q;nofun
 refine step I y2 L (λh=> ?_) (λh=> ?_);rotate_left
 .rw [h] at q;nofun
  exact q
 rw[h,AEH] at q;nofun
 refine step J y3 O (λh=> ?_) (λh=> ?_);rotate_left
 .rw [h] at q;nofun
  exact q
 rw[h] at q;nofun
 exact q
noncomputable abbrev bE (cs:km C4)(b:T3):PV:= .tup [DE cs, .tup [fr b.1,fr b.2.1,fr b.2.2]]
end PL
namespace PL.K31
open PySem L2 PL PyProof.Rows
abbrev KO:AS:=
 (Aa (Bf (As (AY O9 (AN 2 BI (AB (aV 0) (AB (aC (.int 2)) AM))) (aC (.int 0)))) (Aq (Ap (AB (Ap (AB (aC (.int 0)) (AB (aC (.int 1)) AM))) (AB (Ap (AB (aC (.int 0)) (AB (aC (.int 1)) AM))) (AB (Ap (AB (aC (.int 0)) (AB (aC (.int 1)) AM))) AM))))) BD)
   (Aq (Ap (AB (AY Ai (aV 1) (AN 2 BI (AB (aV 0) (AB (aC (.int 4)) AM)))) (AB (AY Ai (aV 1) (AN 2 BI (AB (aV 0) (AB (aC (.int 4)) AM)))) (AB (AY Ai (aV 1) (AN 2 BI (AB (aV 0) (AB (aC (.int 6)) AM)))) AM))))))
abbrev Hy:AS:=
 (Aa (Aj (G9 (ET (AB (Ap (AB (aC (.int 0)) (AB (aC (.int 1)) AM))) (AB (Ap (AB (aC (.int 1)) (AB (aC (.int 2)) AM))) (AB (Ap (AB (aC (.int 1)) (AB (aC (.int 1)) AM))) (AB (Ap (AB (aC (.int 1)) (AB (aC (.int 3)) AM))) (AB (Ap (AB (aC (.int 3)) (AB (aC (.int 1)) AM))) (AB (Ap (AB (aC (.int 40)) (AB (aC (.int 1)) AM))) AM)))))))) (Ak 1))
   KO)
def CT:AF:=An 2 Hy
def MJ {Q:PV->Prop}(h:Hy ⟨λ_=>Q .non,Q,λ_=>False,λ_=>False⟩ [some (.val a),none]):CT [a] Q:=h
abbrev KU:AS:=
 (Aa (EK (JL (aV 1)) (Ak 7) (Dx 6 HJ (AB (AY Cc (Ap (AB (AN 2 Cm (AB (AY Ai (aV 7) (aC (.int 0))) (AB (aV 3) AM))) AM)) (Hj DP (AB (G9 (CO (R8 (AB (aC (.int 3)) AM)) 1 [7,5] (Ak 0) Eg (AN 2 Cm (AB (AY Ai (aV 1) (AY Cc (aV 0) (aC (.int 1)))) (AB (AY Ai (aV 2) (aV 0)) AM))))) AM))) AM)))
   (Aj (eU (Hj DP (AB (aV 6) AM))) (Ak 2)))
abbrev KS:AS:=
 (Aa (HA (ET AM) 6)
   KU)
abbrev KQ:AS:=
 (Aa (Aj (G9 (CO (R8 (AB (aC (.int 3)) AM)) 1 [4,0] (Ak 0) Eg (AY Ai (aV 1) (AN 2 BI (AB (aV 2) (AB (aC (.int 6)) AM)))))) (Ak 5))
   KS)
abbrev KP:AS:=
 (Aa (Aj (G9 (ET (AB (AN 1 A7 (AB (aV 0) AM)) (AB (Ap (AB (aC (.int 0)) (AB (aC (.int 1)) AM))) (AB (AN 1 A7 (AB (aV 0) AM)) (AB (Ap (AB (aC (.int 1)) (AB (aC (.int 1)) AM))) (AB (Ap (AB (aC (.int 0)) (AB (aC (.int 1)) AM))) (AB (Ap (AB (AN 2 BI (AB (aV 0) (AB (aC (.int 3)) AM))) (AB (aC (.int 1)) AM))) AM)))))))) (Ak 4))
   KQ)
abbrev Hz:AS:=
 (Aa (Aj (AY Ai (G9 (ET (AB (Ap (AB (AN 2 BI (AB (aV 0) (AB (aC (.int 4)) AM))) (AB (aC (.int 1)) AM))) (AB (Ap (AB (aC (.int 0)) (AB (aC (.int 1)) AM))) (AB (AN 2 BM (AB (AN 2 BI (AB (aV 0) (AB (aC (.int 9)) AM))) (AB (aC (.int 2)) AM))) AM))))) (AN 2 BI (AB (aV 0) (AB (aC (.int 3)) AM)))) (Ak 3))
   KP)
abbrev IA:AS:=
 (Aa (Bf (As (AY dR (Hj Ib (AB (aV 1) AM)) (aC (.int 5)))) (Aj (jo (aV 2) jr (jt (aC (.int 3)))) (Ak 2)) BD)
   (Aq (Ap (AB (Ap (AB (aV 1) (AB (AN 1 CT (AB (aV 0) AM)) AM))) (AB (Ap (AB (aV 2) (AB (AN 1 CT (AB (aV 0) AM)) AM))) AM)))))
abbrev PH:AS:=
 (Aa (Bf (As (AY O9 (AN 2 BI (AB (aV 0) (AB (aC (.int 3)) AM))) (aC (.int 0)))) Hz BD)
   IA)
abbrev PF:AS:=
 (Aa (Aj (AN 1 EG (AB (aV 0) AM)) (Ak 2))
   PH)
abbrev M0:AS:=
 (Aa (Aj (AN 1 EG (AB (aV 0) AM)) (Ak 1))
   PF)
def Ey:AF:=An 8 M0
def TN {Q:PV->Prop}(h:M0 ⟨λ_=>Q .non,Q,λ_=>False,λ_=>False⟩ [some (.val a),none,none,none,none,none,none,none]):Ey [a] Q:=h
def xt (xs:km C4):L9 (xs.map cor) none (some 3)=(xs.take 3).map cor:=by
 by_cases h:3<=xs.length
 .exact pE (k:=3) rfl h
 .rw [ADA (!0)];unfold L9 HT.sIx;simp;rw[ADA (by simp;omega)]
def VY (t:Rat)(o:T3)(c:C4):C4:=(c.1+t,c.2.1+o.1,c.2.2.1+o.2.1,c.2.2.2+o.2.2)
def qJ {t:Rat}(p:GM 9 12 cs)(bt:Bd 12 t)(e:Dw 12 o):GM 9 40 (cs.map (VY t o)):=by
 refine⟨↑p.two,↑p.few,λc hc=> ?_, ?_⟩
 .obtain ⟨d,hd,rfl⟩:=AAS.mp hc;have b:=p.bd d hd;exact⟨(b.m.add bt).mono (!1),(b.x.add e.x).mono (!1),(b.y.add e.y).mono (!1),(b.z.add e.z).mono (!1)⟩
 .refine List.pairwise_map.mpr (p.ris.imp λ{a b} h=> ?_);show a.1+t<b.1+t;grind
theorem VZ:∀cs:km C4,cI (cs.map cor)=true
 | [] =>rfl
 | c::cs=>by rw[AAW,cI,show gO (cor c)=true from rfl,VZ cs];rfl
def pJ (cs:km C4)(b:T3):Fb cs b (bE cs b):=⟨_,_,⟨cor, .inl rfl, .inl rfl⟩, .inl rfl, .inl rfl⟩
end PL.K31
namespace PL
open PySem L2 PyProof.Rows
abbrev JO:AS:=
 (Aa (Aj (G9 (ET (AB (Ap (AB (aC (.int 1)) (AB (aC (.int 1)) AM))) (AB (Ap (AB (aC (.int 2)) (AB (aC (.int 1)) AM))) (AB (Ap (AB (aC (.int 3)) (AB (aC (.int 2)) AM))) (AB (Ap (AB (aC (.int 1)) (AB (aC (.int 3)) AM))) (AB (Ap (AB (aC (.int 5)) (AB (aC (.int 1)) AM))) AM))))))) (Ak 1))
   (Aq (Ap (AB (AY Ai (aV 1) (AN 2 BI (AB (aV 0) (AB (aC (.int 5)) AM)))) (AB (AY Ai (aV 1) (AN 2 BI (AB (aV 0) (AB (aC (.int 5)) AM)))) AM)))))
def F__law_apart:AF:=An 2 JO
def s_F__law_apart {Q:PV->Prop}(h:JO ⟨λ_=>Q .non,Q,λ_=>False,λ_=>False⟩ [some (.val a),none]):F__law_apart [a] Q:=h
def kQ {xs:km PV}{k:Int}{R:PV->Prop}(a:0<=k)(h1:k<xs.length)(h:∀x∈xs,R x):Ai (.lst xs) (.int k) R:=by show jS (Jf xs k) R;have hk:xs[k.toNat]? =some (xs[k.toNat]'(!0)):=AAi (!0);have e:=DL hk;rw[show ((k.toNat:Nat):Int)=k by omega] at e;rw[e];exact h _ (AFK _)
def GT {xs:km Rat}{k:Int}{R:PV->Prop}(a:0<=k)(h1:k<xs.length)(h:∀x∈xs,R (fr x)):Ai (.lst (xs.map fr)) (.int k) R:=by refine kQ a (↑h1) λx hx=> ?_;obtain⟨y,hy,rfl⟩:=AAS.mp hx;exact h y hy
def UJ {r:Rat}(h:r.num.natAbs<2^8:=by decide +kernel)(h2:r.den<2^8:=by decide +kernel):Bd 8 r:=⟨h,h2⟩
abbrev VY (t:Rat)(o:T3)(c:C4):C4:=(c.1+t,c.2.1+o.1,c.2.2.1+o.2.1,c.2.2.2+o.2.2)
section
variable {τ:A4}
instance{P:km PV->Prop}[h:aY τ i (.own xs)] :Wp (L8 i τ P) (P xs):=⟨λk=>by unfold L8;rw[h.e];exact k⟩
end
def AA9:PV.tup [.int (-1), .int 3] =fr (-1/3):=by unfold fr;rw[show (-1/3:Rat).num= -1 by decide +kernel,show (-1/3:Rat).den=3 by decide +kernel];rfl
abbrev Pf:AS:=
 (Aa (Aj (AN 2 Ez (AB (AY Ai (AY Ai (aV 0) (UE Jn (aC (.int 1)))) (aC (.int 0))) (AB (AY Ai (AY Ai (aV 1) (UE Jn (aC (.int 1)))) (aC (.int 0))) AM))) (Ak 3))
   (Aq (jl (As (AN 2 Am (AB (aV 2) (AB (aV 3) AM)))) (Ap (AB (aV 2) (AB (aV 3) AM))) (aC .non))))
abbrev NL:AS:=
 (Aa (Aj (AN 2 Cj (AB (AY Ai (AY Ai (aV 0) (aC (.int 0))) (aC (.int 0))) (AB (AY Ai (AY Ai (aV 1) (aC (.int 0))) (aC (.int 0))) AM))) (Ak 2))
   Pf)
def D7:AF:=An 4 NL
def Tc {Q:PV->Prop}(h:NL ⟨λ_=>Q .non,Q,λ_=>False,λ_=>False⟩ [some (.val a),some (.val b),none,none]):D7 [a,b] Q:=h
abbrev Rp:AS:=
 (Aa (Aj (AN 2 D6 (AB (aV 1) (AB (aV 3) AM))) (Ak 5))
   (Aq (G9 (CO (R8 (AB (aC (.int 3)) AM)) 1 [2,4,5] (Ak 0) Eg (AN 2 GK (AB (AN 2 Bw (AB (AY Ai (aV 2) (aV 0)) (AB (AY Ai (aV 3) (aV 0)) AM))) (AB (AN 2 CU (AB (aV 1) (AB (aV 0) AM))) AM)))))))
abbrev QR:AS:=
 (Aa (Aj (AN 2 D6 (AB (aV 0) (AB (aV 3) AM))) (Ak 4))
   Rp)
def F0:AF:=An 6 QR
def V9 {Q:PV->Prop}(h:QR ⟨λ_=>Q .non,Q,λ_=>False,λ_=>False⟩ [some (.val a),some (.val b),some (.val c),some (.val d),none,none]):F0 [a,b,c,d] Q:=h
noncomputable def absR (r:Rat):Rat:=if r<0 then -r else r
def Bd.absR (h:Bd n r):Bd n (absR r):=by unfold PL.absR;split;exact h.neg;exact h
noncomputable def P3 (p q:T3)(d:Rat×Rat):T3:=((p.1-q.1)/d.1,(p.2.1-q.2.1)/d.1,(p.2.2-q.2.2)/d.2)
noncomputable def j7 (o:T3):Rat:=mx (mx (mx 0 (absR o.1)) (absR o.2.1)) (absR o.2.2)
def i7 (a l b c:C4)(m:Rat):Prop:=(¬m<a.1/\¬m<b.1)/\m<l.1/\m<c.1
instance :Decidable (i7 a l b c m):=by unfold i7;infer_instance
def kr (hv:CM cs v)(hw:CM ds w)(hu:Mo d u)(hc:∀c∈cs,Ed 150 c)(b:∀c∈ds,Ed 150 c)(e:Gk cs)(f:Gk ds)(i:cs≠ [])(j:ds≠ [])(hl:cs.length<=100)(o:ds.length<=100)(bm:Bd 200 m)(b1:Bd 100 d.1)(b2:Bd 100 d.2)(p1:d.1≠0)(p2:d.2≠0)(g:spotC cs m=some p)(h:spotC ds m=some a){Q:PV->Prop}(q:Q (.lst [fr (P3 p a d).1,fr (P3 p a d).2.1,fr (P3 p a d).2.2])):F0 [v,w,u,fr m] Q:=by
 have t1:=Dw.spotC bm e hc p g;have t2:=Dw.spotC bm f b a h;have k:=t1.x;have l:=t1.y;have n:=t1.z;have y1:=t2.x;have y2:=t2.y;have y3:=t2.z;have r:=k.sub y1;have s:=l.sub y2;have t:=n.sub y3;apply V9;ac_rfl;refine Ee hv hc e i (!0) bm (!1) ?_;rw[g,show RI (some p)= .tup [fr p.1,fr p.2.1,fr p.2.2] from rfl];ac_rfl;refine Ee hw b f j (!0) bm (!1) ?_;rw[h,show RI (some a)= .tup [fr a.1,fr a.2.1,fr a.2.2] from rfl];ac_rfl;rw[show rng 0 (Int.toNat 3)= [.int 0, .int 1, .int 2] from rfl];nofun
 refine Jd hu ?_;rw[AAL (!1)];nofun
 refine Jd hu ?_;rw[AAL (!1)];nofun
 refine Jd hu ?_;rw[AAM (!1)];nofun
 exact q
def WP {a b:C4}{r r2:km C4}(hv:CM (a::r) v)(hw:CM (b::r2) w)(e:(a::r).getLast?=some l)(d:(b::r2).getLast?=some c)(ba:Bd 3000 a.1)(j:Bd 3000 l.1)(f:Bd 3000 b.1)(g:Bd 3000 c.1){Q:PV->Prop}(h:mx a.1 b.1<mn l.1 c.1->Q (.tup [fr (mx a.1 b.1),fr (mn l.1 c.1)]))(i:¬mx a.1 b.1<mn l.1 c.1->Q .non):D7 [v,w] Q:=by
 apply Tc;ac_rfl;refine yq hv λx hx=> ?_;ac_rfl;refine c0 hx ?_;ac_rfl;refine yq hw λx hx=> ?_;ac_rfl;refine c0 hx ?_;ac_rfl;refine yr hv e λx hx=> ?_;ac_rfl;refine c0 hx ?_;ac_rfl;refine yr hw d λx hx=> ?_;ac_rfl;refine c0 hx ?_;ac_rfl
 .exact h ‹_›
 .exact i ‹_›
abbrev KW:AS:=
 (Aa (Aj (AY MC (AY Cc (aV 2) (aV 3)) (aC (.int 2))) (Ak 4))
   (Bf (As (AN 2 Am (AB (AY Ai (aV 0) (aV 4)) (AB (aV 1) AM)))) (Aj (AY Cc (aV 4) (aC (.int 1))) (Ak 2)) (Aj (aV 4) (Ak 3))))
abbrev KZ:AS:=
 (Aa (Ku (As (AY bA (aV 2) (aV 3))) KW)
   (Aq (aV 2)))
abbrev KY:AS:=
 (Aa (Aj (Hj Ib (AB (aV 0) AM)) (Ak 3))
   KZ)
abbrev IB:AS:=
 (Aa (Aj (aC (.int 0)) (Ak 2))
   KY)
def C9:AF:=An 5 IB
def MK {Q:PV->Prop}(h:IB ⟨λ_=>Q .non,Q,λ_=>False,λ_=>False⟩ [some (.val a),some (.val b),none,none,none]):C9 [a,b] Q:=h
abbrev Lb:AS:=
 (Aa (Aj (eU (AN 2 C9 (AB (aV 1) (AB (aV 2) AM)))) (Ak 3))
   (Bf (Yt (R6 (As (AY O9 (aV 3) (Hj Ib (AB (aV 1) AM)))) (As (AY bC (AY Ai (aV 1) (aV 3)) (aV 2))))) (Dx 1 kT (AB (aV 3) (AB (aV 2) AM))) BD))
abbrev Ue:AS:=
 (Aa (EK (JL (aV 0)) (Ak 2) Lb)
   (Aq (aV 1)))
abbrev Ud:AS:=
 (Aa (HA (ET AM) 1)
   Ue)
def F1:AF:=An 4 Ud
def YB {Q:PV->Prop}(h:Ud ⟨λ_=>Q .non,Q,λ_=>False,λ_=>False⟩ [some (.val a),none,none,none]):F1 [a] Q:=h
abbrev UO:AS:=
 (Aa (Wt 3 uJ (eh (aV 1) (aV 4) (aV 5)))
   (Dx 2 HJ (AB (Ap (AB (aV 4) (AB (aV 5) (AB (aV 3) AM)))) AM)))
abbrev UR:AS:=
 (Aa (EK (JL (AN 1 F1 (AB (G9 (CO (JL (G9 (Wu (AB (aV 1) AM)))) 2 [] (HB 2 (Ab (Ak 0) (Ab (Ak 1) BP))) Eg (aV 0))) AM))) (Ak 4) (EK (JL (Ap (AB (aC (.int 0)) (AB (aC (.int 1)) AM)))) (Ak 5) (Bf (As (jn (aV 4) (aV 5) (aV 1))) UO BD)))
   (Aq (aV 2)))
abbrev UQ:AS:=
 (Aa (Aj (aC (.int 0)) (Ak 3))
   UR)
abbrev UP:AS:=
 (Aa (HA (ET AM) 2)
   UQ)
abbrev UN:AS:=
 (Aa (Aj (AN 1 Hh (AB (aV 0) AM)) (Ak 1))
   UP)
def G4:AF:=An 6 UN
def X9 {Q:PV->Prop}(h:UN ⟨λ_=>Q .non,Q,λ_=>False,λ_=>False⟩ [some (.val a),none,none,none,none,none]):G4 [a] Q:=h
abbrev RQ:AS:=
 (Aa (Dx 2 HJ (AB (Ap (AB (AY Ai (aV 3) (aC (.int 0))) (AB (AY Ai (aV 3) (aC (.int 1))) (AB (aV 4) AM)))) AM))
   (Aj (aC .non) (Ak 3)))
abbrev GI:AS:=
 (Aa (Bf (As (AY Jo (aV 3) (aC .non))) (Dx 2 HJ (AB (Ap (AB (AY Ai (aV 3) (aC (.int 0))) (AB (AY Ai (aV 3) (aC (.int 1))) (AB (aC .non) AM)))) AM)) BD)
   (Aq (Hj DP (AB (aV 2) AM))))
abbrev RS:AS:=
 (Aa (EK (JL (AN 1 G4 (AB (aV 0) AM))) (HB 3 (Ab (Ak 4) (Ab (Ak 5) (Ab (Ak 6) BP)))) (Bf (Gm (As (AY SM (aV 3) (aC .non))) (As (AY uK (aV 6) (aV 1)))) (Aj (Ap (AB (aV 4) (AB (AY F5 (aC (.int 1)) (aV 5)) AM))) (Ak 3)) (Bf (Gm (As (AY Jo (aV 3) (aC .non))) (As (AY bA (aV 6) (aV 1)))) RQ BD)))
   GI)
abbrev RR:AS:=
 (Aa (Aj (aC .non) (Ak 3))
   RS)
abbrev QI:AS:=
 (Aa (HA (ET AM) 2)
   RR)
def En:AF:=An 7 QI
def V1 {Q:PV->Prop}(h:QI ⟨λ_=>Q .non,Q,λ_=>False,λ_=>False⟩ [some (.val a),some (.val b),none,none,none,none,none]):En [a,b] Q:=h
abbrev NM:AS:=
 (Aq (AN 2 En (AB (aV 0) (AB (aC (.int 1)) AM))))
def E4:AF:=An 1 NM
def Td {Q:PV->Prop}(h:NM ⟨λ_=>Q .non,Q,λ_=>False,λ_=>False⟩ [some (.val a)]):E4 [a] Q:=h
noncomputable def ins:km Rat->Rat->km Rat
 | [],x=> [x]
 | q::r,x=>if q<x then q::ins r x else if q=x then q::r else x::q::r
abbrev Up (qs:km Rat):Prop:=qs.Pairwise (· < ·)
theorem Sv {x y:Rat}:∀{qs:km Rat},y∈ins qs x↔y=x\/y∈qs
 | [] =>by simp[ins]
 | q::r=>by
   unfold ins;split
   .rw [AAO,Sv,AAO];grind
   .split
    .rename_i h;subst h;simp
    .simp
theorem Z5 {x:Rat}:∀{qs:km Rat},Up qs->Up (ins qs x)
 | [],_=>by simp[ins]
 | q::r,h=>by
   obtain⟨h1,h2⟩:=AAU.mp h;unfold ins;split
   .rename_i hq;refine AAU.mpr ⟨λy hy=> ?_,Z5 h2⟩;rcases Sv.mp hy with rfl|hy
    .exact hq
    .exact h1 y hy
   .split
    .exact h
    .refine AAU.mpr ⟨λy hy=> ?_,h⟩;rcases AAO.mp hy with rfl|hy
     .grind
     .have:=h1 y hy;grind
theorem ZO {x:Rat}:∀{qs:km Rat},(ins qs x).length<=qs.length+1
 | [] =>by simp[ins]
 | q::r=>by
   have:=ZO (x:=x) (qs:=r);unfold ins;split
   .simp;omega
   .split <;> simp
structure At (qs:List Rat) (x:Rat) (k:Nat):Prop where
 le:k<=qs.length
 lo:∀q∈qs.take k,q<x
 hi:∀q∈qs.drop k,¬q<x
theorem e5:∀{qs:km Rat} {x:Rat} {k:Nat},Up qs->At qs x k->ins qs x=if qs[k]? =some x then qs else qs.take k++x::qs.drop k
 | [],x,k,_,h=>by have:=h.le;simp at this;subst this;simp[ins]
 | q::r,x,0,_,h=>by
   have:=h.hi q (!2);unfold ins;rw[AAL this];by_cases e:q=x
   .rw [AAM e,AAM (by simp[e])]
   .rw [AAL e,AAL (by simp[e])];rfl
 | q::r,x,k+1,hs,h=>by have hq:=h.lo q (!2);have ih:=e5 (qs:=r) (x:=x) (k:=k) (AAU.mp hs).2 ⟨by have:=h.le;simp at this;exact this,λy hy=>h.lo y (by simp[hy]),λy hy=>h.hi y (↑hy)⟩;unfold ins;rw[AAM hq,ih];simp only[List.getElem?_cons_succ,AFv,List.drop_succ_cons];split <;> rfl
theorem T8:∀{a b:km Rat},Up a->Up b->(∀x,x∈a↔x∈b)->a=b
 | [], [],_,_,_=>rfl
 | [],y::b,_,_,h=>by have:=(h y).mpr (!2);simp at this
 | x::a, [],_,_,h=>by have:=(h x).mp (!2);simp at this
 | x::a,y::b,ha,hb,h=>by
   obtain⟨f,g⟩:=AAU.mp ha;obtain⟨b1,b2⟩:=AAU.mp hb;have c:x=y:=by
    rcases AAO.mp ((h x).mp (!2)) with e|e
    .exact e
    .rcases AAO.mp ((h y).mpr (!2)) with d|d
     .exact d.symm
     .have:=b1 x e;have:=f y d;grind
   subst c;congr 1;refine T8 g b2 λz=>⟨λhz=> ?_,λhz=> ?_⟩
   .rcases AAO.mp ((h z).mp (by simp[hz])) with e|e
    .subst e;have:=f z hz;grind
    .exact e
   .rcases AAO.mp ((h z).mpr (by simp[hz])) with e|e
    .subst e;have:=b1 z hz;grind
    .exact e
def Dn (xs:km Rat):km Rat:=xs.foldl ins []
theorem Mh:∀(xs qs:km Rat),Up qs->Up (xs.foldl ins qs)/\(∀y,y∈xs.foldl ins qs↔y∈xs\/y∈qs)/\(xs.foldl ins qs).length<=qs.length+xs.length
 | [],qs,h=>⟨h,!2,!2⟩
 | x::xs,qs,h=>by
   obtain⟨h1,h2,h3⟩:=Mh xs (ins qs x) (Z5 h);refine⟨h1,λy=> ?_, ?_⟩
   .rw [ACQ,h2,Sv,AAO];grind
   .have:=ZO (x:=x) (qs:=qs);rw[ACQ,AAk];omega
def CS:Up (Dn xs):=(Mh xs [] .nil).1
def CQ {y:Rat}:y∈Dn xs↔y∈xs:=by rw[Dn,(Mh xs [] .nil).2.1];simp
def HR:(Dn xs).length<=xs.length:=by have:=(Mh xs [] .nil).2.2;unfold Dn;simpa using this
def iK {a b:km Rat}(h:∀x,x∈a↔x∈b):Dn a=Dn b:=T8 CS CS λx=>by rw[CQ,CQ,h]
theorem aD:∀{qs:km Rat} {m:Nat} {c x:Rat},Up qs->qs[m]? =some c->c<x->∀q∈qs.take (m+1),q<x
 | [],m,c,x,_,e,_=>by simp at e
 | a::r,0,c,x,_,e,h=>by simp at e;subst e;simp[h]
 | a::r,m+1,c,x,hs,e,h=>by
   obtain⟨h1,h2⟩:=AAU.mp hs;have b:r[m]? =some c:=↑e
   intro q hq;rw[AFv] at hq;rcases AAO.mp hq with rfl|hq
   .have:=h1 c (ACN b);grind
   .exact aD h2 b h q hq
theorem Y7:∀{qs:km Rat} {m:Nat} {c x:Rat},Up qs->qs[m]? =some c->¬c<x->∀q∈qs.drop m,¬q<x
 | [],m,c,x,_,e,_=>by simp at e
 | a::r,0,c,x,hs,e,h=>by
   simp at e;subst e;intro q hq;rcases AAO.mp hq with rfl|hq
   .exact h
   .have:=(AAU.mp hs).1 q hq;grind
 | a::r,m+1,c,x,hs,e,h=>by intro q hq;exact Y7 (AAU.mp hs).2 (↑e) h q (↑hq)
def fJ (hs:Up qs)(hl:qs.length<=1000000)(hq:∀q∈qs,Bd B q)(hx:Bd M x)(p:B<=4000)(hM:M<=4000){Q:PV->Prop}(q:∀k:Nat,At qs x k->Q (.int k)):C9 [.lst (qs.map fr),fr x] Q:=by
 apply MK;nofun
 refine wR (λn τ=>∃(lo hi:Nat) (z:ke AV),hi-lo<n/\lo<=hi/\hi<=qs.length/\(∀q∈qs.take lo,q<x)/\(∀q∈qs.drop hi,¬q<x)/\τ= [some (.val (.lst (qs.map fr))),some (.val (fr x)),some (.val (.int lo)),some (.val (.int hi)),z]) ?_ ?_ (n:=qs.length+1) ⟨0,qs.length,none,!0,!0,!0,!2,!2,rfl⟩
 .rintro n τ R d ⟨lo,hi,z,h1,h2,h3,f,g,rfl⟩;have i:frz [some (.val (.lst (qs.map fr))),some (.val (fr x)),some (.val (.int lo)),some (.val (.int hi)),z] = [some (.val (.lst (qs.map fr))),some (.val (fr x)),some (.val (.int lo)),some (.val (.int hi)),j5 z] :=rfl;rw[i];nofun
  .rename_i j;refine⟨⟨!1,!1⟩, ?_⟩;have l:((lo:Int)+hi).fdiv 2=((lo+hi)/2:Nat):=by rw[ACk _ (!1)];omega
   rw[l];have m1:(lo+hi)/2<hi:=!0
   have m2:lo<=(lo+hi)/2:=!0
   generalize (lo+hi)/2=m at *;nofun
   rename_i c o hc;have a:qs[m]? =some c:=o;have r:=hq c hc;nofun
   .rename_i b;refine d _ ⟨m+1,hi,_,!0,!0,h3,aD hs a b,g,rfl⟩
   .rename_i b;refine d _ ⟨lo,m,_,!0,m2,!0,f,Y7 hs a b,rfl⟩
  .rename_i j;have e:lo=hi:=!0
   subst e;exact q lo ⟨!0,f,g⟩
 .rintro τ ⟨lo,hi,z,h,_⟩;omega
def RB {v:PV}{xs:km Rat}(hv:v= .lst (xs.map fr)\/v= .tup (xs.map fr))(hl:xs.length<=1000)(hx:∀x∈xs,Bd B x)(n:B<=4000){Q:PV->Prop}(q:Q (.lst ((Dn xs).map fr))):F1 [v] Q:=by
 apply YB;have key:∀{b f:ke AV},DB (Ak 2) Lb ⟨Aq (aV 1) ⟨λ_=>Q .non,Q,λ_=>False,λ_=>False⟩,Q,λ_=>False,λ_=>False⟩ (xs.map fr) [some (.val v),some (.own []),b,f] :=by
  intro b f;refine B0 fr (λa vs τ=>∃b f,τ= [some (.val v),some (.own ((Dn a).map fr)),b,f]) ?_ ?_ ⟨_,_,rfl⟩
  .rintro τ ⟨b,f,rfl⟩;nofun
   exact q
  .rintro a c vs e τ R o ⟨b,f,rfl⟩;have ul:a.length<=1000:=by have:=congrArg List.length e;simp at this;omega
   have s:=HR (xs:=a);have p:∀y∈Dn a,Bd B y:=λy hy=>hx y (by rw[<-e];simp[CQ.mp hy]);have r:Bd B c:=hx c (by rw[<-e];simp);have g:∀(m:km Rat) b f,m=ins (Dn a) c->R [some (.val v),some (.own (m.map fr)),b,f] :=λm b f h=>o _ ⟨b,f,by rw[h,show Dn (a ++ [c])=ins (Dn a) c by unfold Dn;rw[ADM];rfl]⟩;nofun
   refine fJ CS (!0) p r n n λk hk=> ?_;have t:=hk.le;have j:=e5 CS hk;nofun
   .rename_i h1;have l:(Dn a)[k]? =none:=List.getElem?_eq_none (!0);rw[l,AAL (!2)] at j;have:=g _ (some (.val (fr c))) (some (.val (.int k))) j.symm;rw[AAv,AAW,AF1,List.map_drop] at this;exact this
   .rename_i h1 d l _ h2;have i:(Dn a)[k]? =some d:=l;rw[i,AAL (↑h2)] at j;have:=g _ (some (.val (fr c))) (some (.val (.int k))) j.symm;rw[AAv,AAW,AF1,List.map_drop] at this;exact this
   .rename_i h1 d l _ h2;have i:(Dn a)[k]? =some d:=l;rw[i,AAM (by rw[h2])] at j;exact g _ _ _ j.symm
 rcases hv with rfl|rfl;all_goals
  ac_rfl;exact key
abbrev Pl:=Rat×Int
abbrev BU:=Rat×Int×ke Rat
noncomputable def bp (s:BU):Pl:=(s.1,1-s.2.1)
noncomputable def ep (s:BU):ke Pl:=s.2.2.map λe=>(e,0)
noncomputable def FU (p:Pl):FK:=((p.1.num,p.1.den),p.2)
def Sk {q:Pl}(h:FU p=FU q):p=q:=by obtain⟨a,i⟩:=p;obtain⟨b,j⟩:=q;unfold FU at h;simp only[AGB,Int.ofNat_inj] at h;obtain⟨⟨h1,h2⟩,h3⟩:=h;have:a=b:=Rat.ext h1 h2;rw[this,h3]
def pI:ke Rat->PV|none=> .non|some e=>fr e
def DU (s:BU):PV:= .tup [fr s.1, .int s.2.1,pI s.2.2]
noncomputable def vX (s:BU):PV:= .lst [fr s.1, .int s.2.1,pI s.2.2]
def qv {x:PV}(h:x=DU s\/x=vX s):Zt x=some ((s.1.num,(s.1.den:Int)),s.2.1,s.2.2.map λe=>(e.num,(e.den:Int))):=by obtain⟨b,i,e⟩:=s;rcases h with rfl|rfl <;> cases e <;> rfl
def jD {k:FK}:BH (P7 m k v) a=if a=k then some v else BH m a:=by
 unfold P7;by_cases hk:(m.any λp=>decide (p.1=k))=true
 .rw [AAM hk];induction m with
  | nil=>simp at hk
  | cons p r ih=>
    by_cases e:p.1=k
    .by_cases b:a=k
     .subst b;simp[BH,e]
     .have:¬k=a:=λz=>b z.symm;by_cases d:(r.any λp=>decide (p.1=k))=true
      .have:=ih d;simpa[BH,e,b,this, ‹¬k=a›] using this
      .have f:r.map (λp=>if p.1=k then (p.1,v) else p)=r:=by
        conv=>rhs;rw[<-List.map_id r]
        apply ADG;intro q hq;have:¬q.1=k:=λz=>d (ADO.mpr ⟨q,hq,↑z⟩);rw[AAL this];rfl
       simp only[AAW,e,ACL,f];simp[BH,e,b,this]
    .have d:(r.any λp=>decide (p.1=k))=true:=by simpa[e] using hk
     have:=ih d;by_cases c:p.1=a
     .have:¬a=k:=λz=>e (c.trans z);simp[BH,e,c,this]
     .simpa [BH,e,c] using this
 .rw [AAL hk];induction m with
  | nil=>
    by_cases b:a=k
    .subst b;simp[BH]
    .have:¬k=a:=λz=>b z.symm;simp[BH,b,this]
  | cons p r ih=>
    have e:¬p.1=k:=λz=>hk (by simp[z]);have d:¬(r.any λp=>decide (p.1=k))=true:=λz=>hk (by simp only[ADK,z,Bool.or_true]);have:=ih d;by_cases c:p.1=a
    .have:¬a=k:=λz=>e (c.trans z);simp[BH,c,this]
    .simpa [BH,c] using this
def kR {k a:FK}:a∈(P7 m k v).map (·.1)↔a=k\/a∈m.map (·.1):=by
 unfold P7;split
 .rename_i hk;obtain⟨q,hq,e⟩:=ADO.mp hk;have e:q.1=k:=↑e
  have:(m.map λp=>if p.1=k then (p.1,v) else p).map (·.1)=m.map (·.1):=by rw[ADF];apply ADG;intro p _;by_cases z:p.1=k <;> simp[z]
  rw[this];refine⟨.inr,λh=>h.elim (λz=> ?_) id⟩;rw[z,<-e];exact AAS.mpr ⟨q,hq,rfl⟩
 .rw [AAv,AAX];simp only[AAW,AEb,AAw];exact Or.comm
def nB {k:FK}:(BH m k).isSome=true↔k∈m.map (·.1):=by
 unfold BH;rw[AEl,List.find?_isSome,AAS];constructor
 .rintro ⟨p,hp,e⟩;exact⟨p,hp,↑e⟩
 .rintro ⟨p,hp,e⟩;exact⟨p,hp,↑e⟩
noncomputable def ON (s:BU)(p:Pl):Int:=(if bp s=p then 1 else 0)-(if ep s=some p then 1 else 0)
noncomputable def cnt (ss:km BU)(p:Pl):Int:=(ss.map λs=>ON s p).sum
def Jv (ss:km BU)(p:Pl):Prop:=∃s∈ss,bp s=p\/ep s=some p
def K2 {k:FK}:(BH (bump m k d) a).getD 0=(BH m a).getD 0+if a=k then d else 0:=by
 unfold bump;rw[jD];by_cases e:a=k
 .subst e;simp
 .simp [e]
def N8 {k a:FK}:a∈(bump m k d).map (·.1)↔a=k\/a∈m.map (·.1):=kR
inductive G7:List PV->List BU->Prop where
 | nil:G7 [] []
 | cons {x:PV} {s:BU} {xs:List PV} {ss:List BU} (h:x=DU s\/x=vX s) (t:G7 xs ss):G7 (x::xs) (s::ss)
def G7.length:∀{xs:km PV} {ss:km BU},G7 xs ss->xs.length=ss.length
 | _,_, .nil=>rfl
 | _,_, .cons _ t=>by simp[t.length]
def cm (ss:km BU):G7 (ss.map DU) ss:=by
 induction ss with
 | nil=>exact .nil
 | cons s ss ih=>exact .cons (.inl rfl) ih
def WM {s:BU}:(∀p,(BH (Gd m (s.1.num,(s.1.den:Int)) s.2.1 (s.2.2.map λe=>(e.num,(e.den:Int)))) (FU p)).getD 0=(BH m (FU p)).getD 0+ON s p)/\ ∀k,k∈(Gd m (s.1.num,(s.1.den:Int)) s.2.1 (s.2.2.map λe=>(e.num,(e.den:Int)))).map (·.1)↔k∈m.map (·.1)\/∃p,(bp s=p\/ep s=some p)/\k=FU p:=by
 obtain⟨b,h,e⟩:=s;have a:∀p:Pl,(FU p=((b.num,(b.den:Int)),1-h))↔bp (b,h,e)=p:=λp=>⟨λz=>(Sk (p:=p) (q:=(b,1-h)) z).symm,λz=>by rw[<-z];rfl⟩;cases e with
 | none=>
   refine⟨λp=> ?_,λk=> ?_⟩
   .show (BH (bump m ((b.num,(b.den:Int)),1-h) 1) (FU p)).getD 0=_;rw[K2];simp only[a,ON,ep];simp
   .show k∈(bump m ((b.num,(b.den:Int)),1-h) 1).map (·.1)↔_;rw[N8];constructor
    .rintro (z|z)
     .exact .inr ⟨_, .inl rfl,z⟩
     .exact .inl z
    .rintro (z|⟨p,z|z,hk⟩)
     .exact .inr z
     .exact .inl (by rw[hk,<-z];rfl)
     .cases z
 | some e=>
   have c:∀p:Pl,(FU p=((e.num,(e.den:Int)),0))↔ep (b,h,some e)=some p:=λp=>⟨λz=>by rw[<-Sk (p:=(e,0)) (q:=p) z.symm];rfl,λz=>by cases z;rfl⟩;refine⟨λp=> ?_,λk=> ?_⟩
   .show (BH (bump (bump m ((b.num,(b.den:Int)),1-h) 1) ((e.num,(e.den:Int)),0) (-1)) (FU p)).getD 0=_;rw[K2,K2];simp only[a,c,ON];split <;> split <;> omega
   .show k∈(bump (bump m ((b.num,(b.den:Int)),1-h) 1) ((e.num,(e.den:Int)),0) (-1)).map (·.1)↔_;rw[N8,N8];constructor
    .rintro (z|z|z)
     .exact .inr ⟨(e,0), .inr rfl,z⟩
     .exact .inr ⟨_, .inl rfl,z⟩
     .exact .inl z
    .rintro (z|⟨p,z|z,hk⟩)
     .exact .inr (.inr z)
     .exact .inr (.inl (by rw[hk,<-z];rfl))
     .exact .inl (by rw[hk];exact(c p).mpr z)
theorem RJ:∀{xs:km PV} {ss:km BU} (m0:km (FK×Int)),G7 xs ss->∃m,Fp xs m0=some m/\(∀p,(BH m (FU p)).getD 0=(BH m0 (FU p)).getD 0+cnt ss p)/\(∀k,k∈m.map (·.1)↔k∈m0.map (·.1)\/∃p,Jv ss p/\k=FU p)/\m.length<=m0.length+2*ss.length
 | _,_,m0, .nil=>⟨m0,rfl,λp=>by simp[cnt],λk=>by simp[Jv],!2⟩
 | x::xs,s::ss,m0, .cons h t=>by
   obtain⟨m,h1,h2,h3,d⟩:=RJ (Gd m0 (s.1.num,(s.1.den:Int)) s.2.1 (s.2.2.map λe=>(e.num,(e.den:Int)))) t;obtain⟨t1,t2⟩:=WM (m:=m0) (s:=s);refine⟨m, ?_,λp=> ?_,λk=> ?_, ?_⟩
   .unfold Fp;rw[qv h];exact h1
   .rw [h2,t1];simp[cnt];omega
   .rw [h3,t2];constructor
    .rintro ((z|⟨p,z,e⟩)|⟨p,⟨c,a,z⟩,e⟩)
     .exact .inl z
     .exact .inr ⟨p,⟨s,!2,z⟩,e⟩
     .exact .inr ⟨p,⟨c,by simp[a],z⟩,e⟩
    .rintro (z|⟨p,⟨c,a,z⟩,e⟩)
     .exact .inl (.inl z)
     .rcases AAO.mp a with rfl|a
      .exact .inl (.inr ⟨p,z,e⟩)
      .exact .inr ⟨p,⟨c,a,z⟩,e⟩
   .have:=Lp (m:=m0) (b:=(s.1.num,(s.1.den:Int))) (h:=s.2.1) (e:=s.2.2.map λe=>(e.num,(e.den:Int)));simp only[AAk];omega
noncomputable def PB (x p:Pl):kc:=decide (x.1<p.1)||(decide (x.1=p.1)&&decide (x.2<=p.2))
noncomputable def BN (s:BU)(p:Pl):kc:=(decide (s.1<p.1)||(decide (s.1=p.1)&&decide (0<s.2.1+p.2)))&&(match s.2.2 with | none=>true|some e=>decide (p.1<e))
structure DN (B:Nat) (s:BU):Prop where
 b:Bd B s.1
 h:s.2.1=0\/s.2.1=1
 e:∀e,s.2.2=some e->s.1<e/\Bd B e
noncomputable def tm (s:BU)(p:Pl):Int:=(if PB (bp s) p=true then 1 else 0)-(if (ep s).any (PB · p)=true then 1 else 0)
def wM {p:Pl}(ok:DN B s)(hp:0<=p.2):tm s p=if BN s p=true then 1 else 0:=by
 obtain⟨b,h,e⟩:=s;obtain⟨q,i⟩:=p;have g:h=0\/h=1:=ok.h;have hp:0<=i:=hp;have d:PB (bp (b,h,e)) (q,i)=(decide (b<q)||(decide (b=q)&&decide (0<h+i))):=by unfold PB bp;congr 2;exact AEg.mpr (by show 1-h<=i↔0<h+i;omega)
 cases e with
 | none=> unfold tm BN;rw[d];simp[ep]
 | some e=>
   have j:b<e:=(ok.e e rfl).1;have f:(ep (b,h,some e)).any (PB · (q,i))= !decide (q<e):=by
    show PB (e,0) (q,i)=_;unfold PB;by_cases z:q<e
    .have a:¬e<q:=!3
     have c:¬e=q:=!3
     simp[z,a,c]
    .by_cases a:e<q
     .simp [z,a]
     .have c:e=q:=!3
      simp[c,hp]
   unfold tm BN;rw[d,f];by_cases z:q<e
   .simp [z]
   .have a:b<q:=!3
    simp[z,a]
def Hn (ss:km BU)(p:Pl):Nat:=(ss.filter (BN · p)).length
theorem XU {p:Pl}(hp:0<=p.2):∀{ss:km BU},(∀s∈ss,DN B s)->(Hn ss p:Int)=(ss.map λs=>tm s p).sum
 | [],_=>rfl
 | s::ss,h=>by
   have ih:=XU hp (ss:=ss) λx hx=>h x (by simp[hx]);have e:=wM (p:=p) (h s (!2)) hp;rw[AAW,ACo,<-ih,e];unfold Hn;rw[ACq];split
   .simp;omega
   .simp
def MY (x p:Pl):Prop:=x.1<p.1\/(x.1=p.1/\x.2<p.2)
def K6 (h:MY a b)(h2:MY b c):MY a c:=by
 unfold MY at *;rcases h with h|⟨h,h'⟩ <;> rcases h2 with h2|⟨h2,d⟩
 .left;grind
 .left;grind
 .left;grind
 .right;exact⟨!3,!0⟩
def HH:PB x p=true↔MY x p\/x=p:=by
 obtain⟨a,i⟩:=x;obtain⟨b,j⟩:=p;unfold PB MY;simp only[AEI,AA7,AFS,AGB];constructor
 .rintro (h|⟨h,h2⟩)
  .exact .inl (.inl h)
  .by_cases e:i=j
   .exact .inr ⟨h,e⟩
   .exact .inl (.inr ⟨h,!0⟩)
 .rintro ((h|⟨h,h2⟩)|⟨h,h2⟩)
  .exact .inl h
  .exact .inr ⟨h,!0⟩
  .exact .inr ⟨h,!0⟩
def MZ:¬MY p p:=by
 unfold MY;rintro(h|⟨_,h⟩)
 .grind
 .omega
noncomputable def VS (x:Pl):ke Pl->kc|none=>false|some p=>PB x p
noncomputable def ma (s:BU)(o:ke Pl):Int:=(if VS (bp s) o=true then 1 else 0)-(if (ep s).any (VS · o)=true then 1 else 0)
def ym:ke Pl->Pl->Prop|none,_=>True|some q,p=>MY q p
def KJ {p:Pl}(hx:VS x o=true\/x=p\/MY p x)(a:ym o p):PB x p=(VS x o||decide (x=p))/\¬(VS x o=true/\x=p):=by
 have h1:VS x o=true->MY x p:=λh=>by
  cases o with
  | none=>cases h
  | some q=>rcases HH.mp h with h|h
            .exact K6 h a
            .rw [h];exact a
 refine⟨?_,λh=>by rw[h.2] at h1;exact MZ (h1 (h.2 ▸ h.1))⟩;rw[ADX,AEI,AFS,HH];constructor
 .rintro (h|h)
  .rcases hx with z|z|z
   .exact .inl z
   .exact .inr z
   .exact absurd (K6 h z) MZ
  .exact .inr h
 .rintro (h|h)
  .exact .inl (h1 h)
  .exact .inr h
def fy {A:kc}{E:Prop}[Decidable E](h:¬(A=true/\E)):(if (A||decide E)=true then (1:Int) else 0)=(if A=true then 1 else 0)+if E then 1 else 0:=by cases A <;> by_cases e:E <;> simp_all
def mf {p:Pl}(hb:VS (bp s) o=true\/bp s=p\/MY p (bp s))(he:∀x,ep s=some x->VS x o=true\/x=p\/MY p x)(a:ym o p):tm s p=ma s o+ON s p:=by
 obtain⟨b1,b2⟩:=KJ hb a;unfold tm ma ON;rw[b1,fy b2];cases e:ep s with
 | none=>simp
 | some x=>
   obtain⟨b,c⟩:=KJ (he x e) a;have h1:(if (some x).any (PB · p)=true then (1:Int) else 0)=(if VS x o=true then 1 else 0)+if x=p then 1 else 0:=by show (if PB x p=true then (1:Int) else 0)=_;rw[b,fy c]
   rw[h1];show _=(_-(if VS x o=true then (1:Int) else 0))+(_-(if some x=some p then (1:Int) else 0));have h2:(if some x=some p then (1:Int) else 0)=if x=p then 1 else 0:=by by_cases z:x=p <;> simp[z]
   rw[h2];omega
def aa (X:km Pl):Prop:=X.Pairwise MY
def IS (ss:km BU):Int->km Pl->Prop
 | _, [] =>True
 | c,p::r=>(Hn ss p:Int)=c+cnt ss p/\IS ss (Hn ss p) r
theorem aB {a:Type}(f g:a->Int):∀xs:km a,(xs.map λx=>f x+g x).sum=(xs.map f).sum+(xs.map g).sum
 | [] =>rfl
 | x::xs=>by simp only[AAW,ACo,aB f g xs];omega
theorem Nu {ss:km BU}(ok:∀s∈ss,DN B s):∀(X:km Pl) (o:ke Pl),aa X->(∀p∈X,ym o p/\0<=p.2)->(∀s∈ss,(VS (bp s) o=true\/bp s∈X)/\∀x,ep s=some x->VS x o=true\/x∈X)->IS ss ((ss.map λs=>ma s o).sum) X
 | [],_,_,_,_=>True.intro
 | p::r,o,hs,ho,hk=>by
   obtain⟨h1,h2⟩:=AAU.mp hs;obtain⟨op,a⟩:=ho p (!2);have cls:∀x,(VS x o=true\/x∈p::r)->VS x o=true\/x=p\/MY p x:=λx h=>by
    rcases h with h|h
    .exact .inl h
    .rcases AAO.mp h with h|h
     .exact .inr (.inl h)
     .exact .inr (.inr (h1 x h))
   have e:(Hn ss p:Int)=(ss.map λs=>ma s o).sum+cnt ss p:=by rw[XU a ok];unfold cnt;rw[<-aB];congr 1;apply ADG;intro s hs;exact mf (cls _ (hk s hs).1) (λx ex=>cls x ((hk s hs).2 x ex)) op
   refine⟨e, ?_⟩;have:=Nu ok r (some p) h2 (λq hq=>⟨h1 q hq,(ho q (by simp[hq])).2⟩) (λs hs=>⟨?_,λx ex=> ?_⟩)
   .rw [show (ss.map λs=>ma s (some p)).sum=(Hn ss p:Int) from(XU a ok).symm] at this;exact this
   .rcases cls _ (hk s hs).1 with z|z|z
    .exact .inl (by rw[show VS (bp s) (some p)=PB (bp s) p from rfl,(KJ (.inl z) op).1,z];rfl)
    .exact .inl (HH.mpr (.inr z))
    .rcases (hk s hs).1 with y|y
     .exact .inl (by rw[show VS (bp s) (some p)=PB (bp s) p from rfl,(KJ (.inl y) op).1,y];rfl)
     .rcases AAO.mp y with y|y
      .exact .inl (HH.mpr (.inr y))
      .exact .inr y
   .rcases (hk s hs).2 x ex with y|y
    .exact .inl (by rw[show VS x (some p)=PB x p from rfl,(KJ (.inl y) op).1,y];rfl)
    .rcases AAO.mp y with y|y
     .exact .inl (HH.mpr (.inr y))
     .exact .inr y
noncomputable def places (qs:km Rat):km Pl:=qs.flatMap λq=> [(q,0),(q,1)]
def Bg {p:Pl}:p∈places qs↔p.1∈qs/\(p.2=0\/p.2=1):=by
 obtain⟨a,i⟩:=p;unfold places;simp only[ACR,AAO,AA8,ABA,AGB];constructor
 .rintro ⟨q,hq,⟨rfl,rfl⟩|⟨rfl,rfl⟩⟩
  .exact ⟨hq, .inl rfl⟩
  .exact ⟨hq, .inr rfl⟩
 .rintro ⟨h,h2⟩;exact⟨a,h,h2.elim (λz=> .inl ⟨rfl,z⟩) (λz=> .inr ⟨rfl,z⟩)⟩
theorem EC:∀{qs:km Rat},Up qs->aa (places qs)
 | [],_=>List.Pairwise.nil
 | q::r,h=>by
   obtain⟨h1,h2⟩:=AAU.mp h;have ih:=EC h2;have a:∀(i:Int),∀p∈places r,MY (q,i) p:=λi p hp=> .inl (h1 _ (Bg.mp hp).1);show aa ((q,0)::(q,1)::places r);refine AAU.mpr ⟨λp hp=> ?_,AAU.mpr ⟨a 1,ih⟩⟩;rcases AAO.mp hp with rfl|hp
   .exact .inr ⟨rfl,by show (0:Int)<1;decide⟩
   .exact a 0 p hp
def CF (ss:km BU):km Rat:=ss.flatMap λs=>s.1::s.2.2.toList
def DH (ss:km BU):km Pl:=places (Dn (CF ss))
def N9 {ss:km BU}(ok:∀s∈ss,DN B s){s:BU}(hs:s∈ss):bp s∈DH ss/\∀x,ep s=some x->x∈DH ss:=by
 refine⟨Bg.mpr ⟨CQ.mpr (ACR.mpr ⟨s,hs,by simp[bp]⟩), ?_⟩,λx ex=> ?_⟩
 .have:=(ok s hs).h;unfold bp;simp only;omega
 .obtain ⟨e,he,rfl⟩:=ADL.mp ex;exact Bg.mpr ⟨CQ.mpr (ACR.mpr ⟨s,hs,by simp[he]⟩), .inl rfl⟩
def HD {ss:km BU}(ok:∀s∈ss,DN B s):IS ss 0 (DH ss):=by
 have h:=Nu ok (DH ss) none (EC CS) (λp hp=>⟨True.intro,by rcases (Bg.mp hp).2 with z|z <;> omega⟩) (λs hs=>⟨.inr (N9 ok hs).1,λx ex=> .inr ((N9 ok hs).2 x ex)⟩);have:(ss.map λs=>ma s none).sum=0:=by
  clear h ok;induction ss with
  | nil=>rfl
  | cons s ss ih=> rw[AAW,ACo,ih];unfold ma;cases ep s <;> rfl
 rw[this] at h;exact h
noncomputable def Cf (val:Pl->ke Int)(st:km (Pl×Int)×Int)(p:Pl):km (Pl×Int)×Int:=match val p with | some v=>(st.1 ++ [(p,st.2+v)],st.2+v)|none=>st
theorem UC {val:Pl->ke Int}(h1:∀p v,val p=some v->v=cnt ss p)(h2:∀p,val p=none->cnt ss p=0):∀(X:km Pl) (a:km (Pl×Int)) (c:Int),IS ss c X->(X.foldl (Cf val) (a,c)).1=a++(X.filter λp=>(val p).isSome).map λp=>(p,(Hn ss p:Int))
 | [],a,c,_=>by simp
 | p::r,a,c,h=>by
   rw[ACQ];cases e:val p with
   | none=>
     have hc:(Hn ss p:Int)=c:=by rw[h.1,h2 p e];omega
     rw[show Cf val (a,c) p=(a,c) by unfold Cf;rw[e],UC h1 h2 r a c (hc ▸ h.2),ACq,AAL (by rw[e];decide)]
   | some v=>
     have hc:c+v=(Hn ss p:Int):=by rw[h.1,h1 p v e]
     rw[show Cf val (a,c) p=(a ++ [(p,c+v)],c+v) by unfold Cf;rw[e],hc,UC h1 h2 r _ _ h.2,ACq,AAM (by rw[e];rfl),AAW,List.append_assoc];rfl
section
variable {ta tb td:AE}{r:AA}{τ:A4}{Q:PV->Prop}{QL:km PV->Prop}{m:km (FK×Int)}
def u8 (xs:km PV)(Q:km PV->Prop):Prop:=match xs with | [.dct kvs] =>Q (kvs.map λp=>XY p.1)|_=>False
instance:Wp (Wu r τ QL) (r τ λxs=>u8 xs QL):=⟨id⟩
instance:Wp (u8 [.dct m] QL) (QL (m.map λp=>XY p.1)):=⟨id⟩
class ji (m:List (FK×Int)) (k:FK) (i:outParam Int):Prop where
 e:BH m k=some i
def yp (m:km (FK×Int))(k:FK)(Q:PV->Prop):Prop:=match BH m k with | some i=>Q (.int i)|none=>False
instance:Wp (jn ta tb td τ Q) (ta τ λx=>tb τ λy=>td τ λm=>sj m λkvs=>OM x y λk=>Q (.bl (BH kvs k).isSome)):=⟨id⟩
instance:Wp (eh td ta tb τ Q) (td τ λm=>ta τ λx=>tb τ λy=>sj m λkvs=>OM x y λk=>yp kvs k Q):=⟨id⟩
instance{k:FK}[h:ji m k i] :Wp (yp m k Q) (Q (.int i)):=⟨λz=>by unfold yp;rw[h.e];exact z⟩
instance{R:km (FK×Int)->Prop}:Wp (sj (.dct m) R) (R m):=⟨id⟩
instance{q:Rat}{i:Int}{R:FK->Prop}:Wp (OM (fr q) (.int i) R) (R (FU (q,i))):=⟨id⟩
end
def ii {v:PV}(hv:v= .tup xs\/v= .lst xs)(hl:xs.length<=1000)(h:Fp xs [] =some m){Q:PV->Prop}(q:Q (.dct m)):Hh [v] Q:=by
 have hz:2*xs.length+2<sizeLine:=AAq (by omega:_<=2002) (AAf (by decide:2002<2003) (ACC rfl));rcases hv with rfl|rfl
 .exact ⟨hz,m,h,q⟩
 .exact ⟨hz,m,h,q⟩
noncomputable def un (k:FK):Rat:=mkRat k.1.1 k.1.2.toNat
def sD (p:Pl):un (FU p)=p.1:=by unfold un FU;show mkRat p.1.num ((p.1.den:Int).toNat)=p.1;rw[ADj];exact Rat.mkRat_self p.1
def pz (p:Pl):XY (FU p)= .tup [fr p.1, .int p.2] :=rfl
noncomputable def wy (x:Pl×Int):PV:= .tup [fr x.1.1, .int x.1.2, .int x.2]
noncomputable def Su (ss:km BU)(key:Pl->kc):km (Pl×Int):=((DH ss).filter key).map λp=>(p,(Hn ss p:Int))
def bw {v:PV}(hv:v= .tup xs\/v= .lst xs)(F:G7 xs ss)(ok:∀s∈ss,DN B s)(hl:ss.length<=400)(I:B<=4000){Q:PV->Prop}(q:∀key:Pl->kc,(∀p,key p=true↔Jv ss p)->Q (.lst ((Su ss key).map wy))):G4 [v] Q:=by
 obtain⟨m,t1,t2,D,J⟩:=RJ [] F;have hx:=F.length;have K:∀p:Pl,(BH m (FU p)).isSome=true↔Jv ss p:=λp=>by
  rw[nB,D];constructor
  .rintro (z|⟨S,z,e⟩)
   .cases z
   .rw [Sk e];exact z
  .exact λz=> .inr ⟨p,z,rfl⟩
 have G:=q (λp=>(BH m (FU p)).isSome) K;have i:∀p w,BH m (FU p)=some w->w=cnt ss p:=λp w e=>by have:=t2 p;rw[e] at this;simpa[BH] using this
 have M:∀p,BH m (FU p)=none->cnt ss p=0:=λp e=>by have:=t2 p;rw[e] at this;simp[BH] at this;omega
 have N:=UC i M (DH ss) [] 0 (HD ok);have mk:∀k∈m,∃p,k.1=FU p/\Jv ss p:=λk hk=>by
  rcases (D k.1).mp (AAS.mpr ⟨k,hk,rfl⟩) with z|⟨p,z,e⟩
  .cases z
  .exact ⟨p,e,z⟩
 have ms:∀x,x∈m.map (λk=>un k.1)↔x∈CF ss:=λx=>by
  rw[AAS];unfold CF;rw[ACR];constructor
  .rintro ⟨k,hk,rfl⟩;obtain⟨p,e,s,hs,z⟩:=mk k hk;rw[e,sD];refine⟨s,hs, ?_⟩;rcases z with z|z
   .rw [<-z];simp[bp]
   .obtain ⟨T,he,rfl⟩:=ADL.mp z;simp[he]
  .rintro ⟨s,hs,hx⟩;have go:∀p:Pl,Jv ss p->∃a∈m,un a.1=p.1:=λp hp=>by obtain⟨a,ha,e⟩:=AAS.mp ((D (FU p)).mpr (.inr ⟨p,hp,rfl⟩));exact⟨a,ha,by rw[e,sD]⟩
   rcases AAO.mp hx with rfl|hx
   .exact go (bp s) ⟨s,hs, .inl rfl⟩
   .have hx:s.2.2=some x:=↑hx
    exact go (x,0) ⟨s,hs, .inr (by unfold ep;rw[hx];rfl)⟩
 have bm:∀x∈m.map (λk=>un k.1),Bd B x:=λx h=>by
  obtain⟨s,hs,hx⟩:=ACR.mp ((ms x).mp h);rcases AAO.mp hx with rfl|hx
  .exact (ok s hs).b
  .exact ((ok s hs).e x (↑hx)).2
 have H:Dn (m.map λk=>un k.1)=Dn (CF ss):=iK ms;have U:m.length<=800:=by simp at J;omega
 apply X9;ac_rfl;refine ii hv (!0) t1 ?_;ac_rfl;refine GP (λk:FK×Int=>XY k.1) fr (λk=>un k.1) (λk=>k∈m) (λk hk R A=> ?_) m [] (λ_ h=>h) ?_
 .obtain ⟨p,e,_⟩:=mk k hk;rw[e,sD] at A;rw[e,pz];nofun
  exact A
 ac_rfl;rw[ACf];refine RB (.inl rfl) (by rw[AAT];omega) bm I ?_;rw[H];have W:(Dn (CF ss)).length<=800:=by rw[<-H];exact AAg HR (by rw[AAT];omega)
 ac_rfl;refine B0 fr (λd vs τ=>∃t y,τ= [some (.val v),some (.val (.dct m)),some (.own (((places d).foldl (Cf λp=>BH m (FU p)) ([],0)).1.map wy)),some (.val (.int ((places d).foldl (Cf λp=>BH m (FU p)) ([],0)).2)),t,y]) ?_ ?_ ⟨_,_,rfl⟩
 .rintro τ ⟨t,y,rfl⟩;nofun
  have e:Su ss (λp=>(BH m (FU p)).isSome)=((places (Dn (CF ss))).foldl (Cf λp=>BH m (FU p)) ([],0)).1:=by rw[show places (Dn (CF ss))=DH ss from rfl,N];rfl
  rw[e] at G;exact G
 .rintro d c vs e τ R A ⟨t,y,rfl⟩;have ep:places (d ++ [c])=places d ++ [(c,0),(c,1)] :=by unfold places;simp
  have es:(places (d ++ [c])).foldl (Cf λp=>BH m (FU p)) ([],0)=Cf (λp=>BH m (FU p)) (Cf (λp=>BH m (FU p)) ((places d).foldl (Cf λp=>BH m (FU p)) ([],0)) (c,0)) (c,1):=by rw[ep,ADM];rfl
  have O:((places d).foldl (Cf λp=>BH m (FU p)) ([],0)).1.length<=2*d.length:=by
   have go:∀(X:km Pl) (st:km (Pl×Int)×Int),(X.foldl (Cf λp=>BH m (FU p)) st).1.length<=st.1.length+X.length:=by
    intro X;induction X with
    | nil=>intro st;simp
    | cons p X ih=>
      intro st;have h1:=ih (Cf (λp=>BH m (FU p)) st p);have h2:(Cf (λp=>BH m (FU p)) st p).1.length<=st.1.length+1:=by unfold Cf;split <;> simp
      rw[ACQ,AAk];omega
   have h1:=go (places d) ([],0);have h2:(places d).length=2*d.length:=by
    unfold places;clear A es ep e h1;induction d with
    | nil=>rfl
    | cons u d ih=>rw[AGC,ACG,ih];simp;omega
   simp at h1;omega
  have ul:d.length<=800:=by have:=congrArg List.length e;simp at this;omega
  generalize (places d).foldl (Cf λp=>BH m (FU p)) ([],0)=st at *;obtain⟨L,n⟩:=st;have j:∀(L2:km (Pl×Int)) E t y,(L2,E)=Cf (λp=>BH m (FU p)) (Cf (λp=>BH m (FU p)) (L,n) (c,0)) (c,1)->R [some (.val v),some (.val (.dct m)),some (.own (L2.map wy)),some (.val (.int E)),t,y] :=λL2 E t y h=>A _ ⟨t,y,by rw[es,<-h]⟩;clear A;have o:(Rat.num 0:Int)=0:=rfl;have r:((Rat.den 0:Nat):Int)=1:=rfl;have P:L.length<=1600:=by have h:L.length<=2*d.length:=O;omega
  cases l:BH m (FU (c,0)) with
  | none=>
    cases g:BH m (FU (c,1)) with
    | none=>
      have f:=j L n;nofun
      simp only[o,r,l];nofun
      simp only[o,r,g];nofun
      exact f _ _ (by unfold Cf;simp only[l,g])
    | some i=>
      have f:=j (L ++ [((c,1),n+i)]) (n+i);rw[AAv] at f;haveI:ji m (FU (c,1)) i:=⟨g⟩;nofun
      simp only[o,r,l];nofun
      simp only[o,r,g];nofun
      exact f _ _ (by unfold Cf;simp only[l,g])
  | some C=>
    haveI:ji m (FU (c,0)) C:=⟨l⟩;cases g:BH m (FU (c,1)) with
    | none=>
      have f:=j (L ++ [((c,0),n+C)]) (n+C);rw[AAv] at f;nofun
      simp only[o,r,l];nofun
      simp only[o,r,g];nofun
      exact f _ _ (by unfold Cf;simp only[l,g])
    | some i=>
      have f:=j (L ++ [((c,0),n+C)] ++ [((c,1),n+C+i)]) (n+C+i);rw[AAv,AAv] at f;haveI:ji m (FU (c,1)) i:=⟨g⟩;nofun
      simp only[o,r,l];nofun
      simp only[o,r,g];nofun
      exact f _ _ (by unfold Cf;simp only[l,g])
noncomputable def stepI (st:km BU×ke Pl)(x:Pl×kc):km BU×ke Pl:=
 match st.2,x.2 with
 | none,true=>(st.1,some x.1)
 | some b,false=>(st.1 ++ [(b.1,1-b.2,some x.1.1)],none)
 | _,_=>st
noncomputable def U5 (st:km BU×ke Pl):km BU:=match st.2 with | none=>st.1|some b=>st.1 ++ [(b.1,1-b.2,none)]
noncomputable def IJ (X:km (Pl×kc)):km BU:=U5 (X.foldl stepI ([],none))
noncomputable def uD:ke Pl->PV|none=> .non|some b=> .tup [fr b.1, .int (1-b.2)]
def c5 {st:km BU×ke Pl}:(stepI st x).1.length<=st.1.length+1:=by unfold stepI;split <;> simp
theorem K1:∀(X:km (Pl×kc)) (st:km BU×ke Pl),(X.foldl stepI st).1.length<=st.1.length+X.length
 | [],st=>by simp
 | x::X,st=>by have h1:=K1 X (stepI st x);have h2:=c5 (st:=st) (x:=x);rw[ACQ,AAk];omega
theorem K7:∀{ss:km BU},(CF ss).length<=2*ss.length
 | [] =>by simp[CF]
 | s::ss=>by
   have ih:=K7 (ss:=ss);unfold CF at *;rw[AGC,ACG,AAk,AAk];have:s.2.2.toList.length<=1:=by cases s.2.2 <;> simp
   omega
theorem Im:∀{qs:km Rat},(places qs).length=2*qs.length
 | [] =>rfl
 | q::qs=>by have ih:=Im (qs:=qs);unfold places at *;rw[AGC,ACG,ih,AAk];simp;omega
def gK:(Su ss key).length<=4*ss.length:=by unfold Su DH;rw[AAT];have h1:=ACY key (places (Dn (CF ss)));have h2:=Im (qs:=Dn (CF ss));have h3:=HR (xs:=CF ss);have a:=K7 (ss:=ss);omega
def W6 {v:PV}{n:Int}(hv:v= .tup xs\/v= .lst xs)(u:G7 xs ss)(ok:∀s∈ss,DN B s)(hl:ss.length<=400)(w:B<=4000){Q:PV->Prop}(q:∀key:Pl->kc,(∀p,key p=true↔Jv ss p)->Q (.tup ((IJ ((Su ss key).map λx=>(x.1,decide (n<=x.2)))).map DU))):En [v, .int n] Q:=by
 apply V1;ac_rfl;refine bw hv u ok hl w λkey hk=> ?_;have m:=q key hk;have y:(Su ss key).length<=2000:=AAg gK (!0);clear q;generalize Su ss key=Ls at *;ac_rfl;refine B0 wy (λj vs τ=>∃a d g,τ= [some (.val v),some (.val (.int n)),some (.own (((j.map λx=>(x.1,decide (n<=x.2))).foldl stepI ([],none)).1.map DU)),some (.val (uD ((j.map λx=>(x.1,decide (n<=x.2))).foldl stepI ([],none)).2)),a,d,g]) ?_ ?_ ⟨_,_,_,rfl⟩
 .rintro τ ⟨a,d,g,rfl⟩;have o:=K1 (Ls.map λx=>(x.1,decide (n<=x.2))) ([],none);unfold IJ at m;generalize (Ls.map λx=>(x.1,decide (n<=x.2))).foldl stepI ([],none)=st at *;obtain⟨L,b⟩:=st;have r:L.length<=2000:=by have h:L.length<=0+_:=o;rw[AAT] at h;omega
  cases b with
  | none=>
    have l:Q (.tup (L.map DU)):=m;show GI _ [some (.val v),some (.val (.int n)),some (.own (L.map DU)),some (.val .non),a,d,g];nofun
    exact l
  | some b=>
    have l:Q (.tup ((L ++ [(b.1,1-b.2,none)]).map DU)):=m;rw[AAv] at l;show GI _ [some (.val v),some (.val (.int n)),some (.own (L.map DU)),some (.val (.tup [fr b.1, .int (1-b.2)])),a,d,g];nofun
    exact l
 .rintro j c vs e τ R t ⟨a,d,g,rfl⟩;have o:=K1 (j.map λx=>(x.1,decide (n<=x.2))) ([],none);have ul:j.length<=2000:=by have:=congrArg List.length e;simp at this;omega
  have es:((j ++ [c]).map λx=>(x.1,decide (n<=x.2))).foldl stepI ([],none)=stepI ((j.map λx=>(x.1,decide (n<=x.2))).foldl stepI ([],none)) (c.1,decide (n<=c.2)):=by rw[AAv,ADM];rfl
  generalize (j.map λx=>(x.1,decide (n<=x.2))).foldl stepI ([],none)=st at *;obtain⟨L,b⟩:=st;have r:L.length<=2000:=by have h:L.length<=0+_:=o;rw[AAT] at h;omega
  have i:∀L2 b2 a d g,(L2,b2)=stepI (L,b) (c.1,decide (n<=c.2))->R [some (.val v),some (.val (.int n)),some (.own (L2.map DU)),some (.val (uD b2)),a,d,g] :=λL2 b2 a d g h=>t _ ⟨a,d,g,by rw[es,<-h]⟩;clear t;obtain⟨p,k⟩:=c;show HB 3 (Ab (Ak 4) (Ab (Ak 5) (Ab (Ak 6) BP))) (.tup [fr p.1, .int p.2, .int k]) _ _;cases b with
  | none=>
    show HB 3 (Ab (Ak 4) (Ab (Ak 5) (Ab (Ak 6) BP))) (.tup [fr p.1, .int p.2, .int k]) [some (.val v),some (.val (.int n)),some (.own (L.map DU)),some (.val .non),a,d,g] _;nofun
    .rename_i h;exact i L (some p) _ _ _ (by unfold stepI;simp only[AAl h])
    .rename_i h;exact i L none _ _ _ (by unfold stepI;simp only[AAo h])
  | some b=>
    show HB 3 (Ab (Ak 4) (Ab (Ak 5) (Ab (Ak 6) BP))) (.tup [fr p.1, .int p.2, .int k]) [some (.val v),some (.val (.int n)),some (.own (L.map DU)),some (.val (.tup [fr b.1, .int (1-b.2)])),a,d,g] _;nofun
    .rename_i h;have f:=i (L ++ [(b.1,1-b.2,some p.1)]) none (some (.val (fr p.1))) (some (.val (.int p.2))) (some (.val (.int k))) (by unfold stepI;simp only[AAo (show ¬n<=k by omega)]);rw[AAv] at f;exact f
    .rename_i h;exact i L (some b) _ _ _ (by unfold stepI;simp only[AAl (show n<=k by omega)])
def Wo (In key:Pl->kc):kc->km Pl->Prop
 | _, [] =>True
 | c,p::r=>(key p=false->In p=c)/\Wo In key (In p) r
def YU {st:km BU×ke Pl}{p:Pl}{i:kc}:(stepI st (p,i)).2.isSome=i:=by obtain⟨L,b⟩:=st;cases b <;> cases i <;> rfl
def YT {st:km BU×ke Pl}{p:Pl}{i:kc}(h:i=st.2.isSome):stepI st (p,i)=st:=by obtain⟨L,b⟩:=st;cases b <;> cases i <;> first | rfl|cases h
theorem Hr {In:Pl->kc}:∀(X:km Pl) (st:km BU×ke Pl),Wo In key st.2.isSome X->(X.map λp=>(p,In p)).foldl stepI st=((X.filter key).map λp=>(p,In p)).foldl stepI st
 | [],st,_=>rfl
 | p::r,st,h=>by
   rw[AAW,ACQ,ACq];cases k:key p with
   | true=> rw[AAM rfl,AAW,ACQ];exact Hr r _ (by rw[YU];exact h.2)
   | false=> have e:=h.1 k;rw[AAL (!1),YT e];exact Hr r st (by have:=h.2;rw[e] at this;exact this)
theorem JG {key:Pl->kc}{n:Int}(hk:∀p,key p=false->cnt ss p=0):∀(X:km Pl) (c:Int),IS ss c X->Wo (λp=>decide (n<=(Hn ss p:Int))) key (decide (n<=c)) X
 | [],_,_=>True.intro
 | p::r,c,h=>⟨λk=>(by show decide (n<=(Hn ss p:Int))=_;rw[h.1,hk p k,Int.add_zero]),JG hk r _ h.2⟩
noncomputable def canon (n:Int)(ss:km BU):km BU:=IJ ((DH ss).map λp=>(p,decide (n<=(Hn ss p:Int))))
def Uv (h:¬Jv ss p):cnt ss p=0:=by
 have key:∀ss:km BU,(∀s∈ss,¬(bp s=p\/ep s=some p))->cnt ss p=0:=by
  intro ss;induction ss with
  | nil=>intro _;rfl
  | cons s ss ih=>
    intro h;have h1:=h s (!2);have e:cnt (s::ss) p=ON s p+cnt ss p:=by simp[cnt]
    rw[e,ih λx hx=>h x (by simp[hx])];unfold ON;rw[AAL λz=>h1 (.inl z),AAL λz=>h1 (.inr z)];rfl
 exact key ss λs hs z=>h ⟨s,hs,z⟩
def fE {ss:km BU}{n:Int}{key:Pl->kc}(ok:∀s∈ss,DN B s)(a:0<n)(hk:∀p,key p=true↔Jv ss p):IJ ((Su ss key).map λx=>(x.1,decide (n<=x.2)))=canon n ss:=by
 unfold canon IJ Su;rw[ADF];have h:=Hr (In:=λp=>decide (n<=(Hn ss p:Int))) (key:=key) (DH ss) ([],none) (by
  have:=JG (n:=n) (key:=key) (λp z=>Uv λy=>by rw[(hk p).mpr y] at z;cases z) (DH ss) 0 (HD ok);rw[AAo (!0)] at this;exact this)
 rw[h];rfl
def W5 {v:PV}{n:Int}(hv:v= .tup xs\/v= .lst xs)(a:G7 xs ss)(ok:∀s∈ss,DN B s)(hl:ss.length<=400)(b:B<=4000)(c:0<n){Q:PV->Prop}(q:Q (.tup ((canon n ss).map DU))):En [v, .int n] Q:=
 W6 hv a ok hl b λkey hk=>by rw[fE ok c hk];exact q
def WQ {v:PV}(hv:v= .tup xs\/v= .lst xs)(a:G7 xs ss)(ok:∀s∈ss,DN B s)(hl:ss.length<=400)(b:B<=4000){Q:PV->Prop}(q:Q (.tup ((canon 1 ss).map DU))):E4 [v] Q:=by
 apply Td;nofun
 exact W5 hv a ok hl b (!1) q
def Sf:decide ((1:Int)<=(Hn ss p:Int))=ss.any (BN · p):=by
 rw[ADX,AFS,ADO];unfold Hn;constructor
 .intro h;obtain⟨s,hs⟩:=List.exists_mem_of_length_pos (l:=ss.filter (BN · p)) (!0);have:=AAr.mp hs;exact⟨s,this.1,this.2⟩
 .rintro ⟨s,hs,h⟩;have:=List.length_pos_of_mem (AAr.mpr ⟨hs,h⟩:s∈ss.filter (BN · p));omega
noncomputable def DF (In:Pl->kc):km Pl->ke Pl->km BU
 | [],none=> []
 | [],some b=> [(b.1,1-b.2,none)]
 | p::r,none=>if In p=true then DF In r (some p) else DF In r none
 | p::r,some b=>if In p=true then DF In r (some b) else (b.1,1-b.2,some p.1)::DF In r none
theorem OW {In:Pl->kc}:∀(X:km Pl) (a:km BU) (b:ke Pl),U5 ((X.map λp=>(p,In p)).foldl stepI (a,b))=a++DF In X b
 | [],a,none=>by simp[U5,DF]
 | [],a,some b=>by simp[U5,DF]
 | p::r,a,none=>by
   rw[AAW,ACQ];unfold DF;cases e:In p with
   | true=>exact OW r a (some p)
   | false=>exact OW r a none
 | p::r,a,some b=>by
   rw[AAW,ACQ];unfold DF;cases e:In p with
   | true=>exact OW r a (some b)
   | false=> show U5 ((r.map λp=>(p,In p)).foldl stepI (a ++ [(b.1,1-b.2,some p.1)],none))=a++((b.1,1-b.2,some p.1)::DF In r none);rw[OW r _ none];simp
def RC {In:Pl->kc}{X:km Pl}:IJ (X.map λp=>(p,In p))=DF In X none:=by unfold IJ;rw[OW];rfl
def MV {q p:Pl}{e:ke Rat}(hq:q.2=0\/q.2=1)(hp:0<=p.2):BN (q.1,1-q.2,e) p=(PB q p&&(match e with | none=>true|some e=>decide (p.1<e))):=by unfold BN PB;congr 2;congr 1;exact AEg.mpr (by show 0<1-q.2+p.2↔q.2<=p.2;omega)
def IT (In:Pl->kc):kc->km Pl->Prop
 | _, [] =>True
 | c,p::r=>(c=true->In p=false->p.2=0)/\IT In (In p) r
theorem Zo {In:Pl->kc}:∀(X:km Pl),aa X->(∀x∈X,x.2=0\/x.2=1)-> (IT In false X->(∀p:Pl,0<=p.2->(∀x∈X,MY p x)->(DF In X none).any (BN · p)=false)/\∀p∈X,(DF In X none).any (BN · p)=In p)/\ (IT In true X->∀q:Pl,(q.2=0\/q.2=1)->(∀x∈X,MY q x)->(∀p:Pl,0<=p.2->(∀x∈X,MY p x)->(DF In X (some q)).any (BN · p)=PB q p)/\∀p∈X,(DF In X (some q)).any (BN · p)=In p)
 | [],_,_=>⟨λ_=>⟨λp _ _=>rfl,λp hp=>by cases hp⟩,λ_ q hq _=>⟨λp hp _=>by show (BN (q.1,1-q.2,none) p||false)=_;rw[MV hq hp];simp,λp hp=>by cases hp⟩⟩
 | x::r,hs,h01=>by
   obtain⟨h1,h2⟩:=AAU.mp hs;have ih:=Zo (In:=In) r h2 λy hy=>h01 y (by simp[hy]);have k:=h01 x (!2);have f:0<=x.2:=!0
   have g:∀p:Pl,(∀y∈x::r,MY p y)->∀y∈r,MY p y:=λp h y hy=>h y (by simp[hy]);have l:∀p:Pl,MY p x->PB x p=false:=λp h=>by
    rw[<-Bool.not_eq_true,HH];rintro(z|z)
    .exact MZ (K6 z h)
    .rw [z] at h;exact MZ h
   have m:PB x x=true:=HH.mpr (.inr rfl);refine⟨λhd=> ?_,λhd q hq i=> ?_⟩
   .unfold DF;cases e:In x with
    | true=>
      have a:=hd.2;rw[e] at a;obtain⟨b,d⟩:=ih.2 a x k h1;rw[AAM rfl];refine⟨λp c hp=> ?_,λp hp=> ?_⟩
      .rw [b p c (g p hp),l p (hp x (!2))]
      .rcases AAO.mp hp with rfl|hp
       .rw [b p f h1,m,e]
       .exact d p hp
    | false=>
      have a:=hd.2;rw[e] at a;obtain⟨b,d⟩:=ih.1 a;rw[AAL (!1)];refine⟨λp c hp=>b p c (g p hp),λp hp=> ?_⟩;rcases AAO.mp hp with rfl|hp
      .rw [b p f h1,e]
      .exact d p hp
   .unfold DF;have n:PB q x=true:=HH.mpr (.inl (i x (!2)));cases e:In x with
    | true=>
      have a:=hd.2;rw[e] at a;obtain⟨b,d⟩:=ih.2 a q hq (g q i);rw[AAM rfl];refine⟨λp c hp=>b p c (g p hp),λp hp=> ?_⟩;rcases AAO.mp hp with rfl|hp
      .rw [b p f h1,n,e]
      .exact d p hp
    | false=>
      have a:=hd.2;rw[e] at a;obtain⟨b,d⟩:=ih.1 a;have s:=hd.1 rfl e;rw[AAL (!1)];have j:∀p:Pl,(p=x\/MY x p)->¬p.1<x.1:=λp h=>by rcases h with h|h|⟨h,_⟩ <;> grind
      refine⟨λp c hp=> ?_,λp hp=> ?_⟩
      .have o:p.1<x.1:=by
        rcases hp x (!2) with z|⟨_,z⟩
        .exact z
        .omega
       show (BN (q.1,1-q.2,some x.1) p||(DF In r none).any (BN · p))=_;rw[MV hq c,b p c (g p hp)];simp[o]
      .show (BN (q.1,1-q.2,some x.1) p||(DF In r none).any (BN · p))=_;rcases AAO.mp hp with rfl|hp
       .rw [MV hq f,b p f h1,e];simp[j p (.inl rfl)]
       .rw [MV hq (by have:=h01 p (by simp[hp]);omega),d p hp];simp[j p (.inr (h1 p hp))]
theorem Vz {In:Pl->kc}(P:Rat->Prop):∀(X:km Pl) (b:ke Pl),aa X->(∀x∈X,(x.2=0\/x.2=1)/\P x.1)->IT In b.isSome X->(∀q,b=some q->(q.2=0\/q.2=1)/\P q.1/\∀x∈X,MY q x)-> ∀s∈DF In X b,P s.1/\(s.2.1=0\/s.2.1=1)/\∀e,s.2.2=some e->s.1<e/\P e
 | [],none,_,_,_,_=>λs hs=>by cases hs
 | [],some q,_,_,_,hb=>λs hs=>by obtain⟨h1,h2,_⟩:=hb q rfl;simp only[DF,AAw] at hs;subst hs;exact⟨h2,by show 1-q.2=0\/1-q.2=1;omega,λe he=>by cases he⟩
 | x::r,b,hs,h01,hd,hb=>by
   obtain⟨h1,h2⟩:=AAU.mp hs;have ih:=λb d hb=>Vz (In:=In) P r b h2 (λy hy=>h01 y (by simp[hy])) d hb;have a:=hd.2;cases b with
   | none=>
     unfold DF;cases e:In x with
     | true=> rw[AAM rfl];rw[e] at a;exact ih (some x) a λq hq=>by cases hq;exact⟨(h01 x (!2)).1,(h01 x (!2)).2,h1⟩
     | false=> rw[AAL (!1)];rw[e] at a;exact ih none a λq hq=>by cases hq
   | some q=>
     obtain⟨g,c,f⟩:=hb q rfl;unfold DF;cases e:In x with
     | true=> rw[AAM rfl];rw[e] at a;exact ih (some q) a λh hq=>by cases hq;exact⟨g,c,λy hy=>f y (by simp[hy])⟩
     | false=>
       rw[AAL (!1)];rw[e] at a;have i:=hd.1 rfl e;intro s hs;rcases AAO.mp hs with rfl|hs
       .refine ⟨c,by show 1-q.2=0\/1-q.2=1;omega,λj he=> ?_⟩;cases he;refine⟨?_,(h01 x (!2)).2⟩;rcases f x (!2) with z|⟨_,z⟩
        .exact z
        .omega
       .exact ih none a (λq hq=>by cases hq) s hs
theorem Ia:∀(X:km Pl) (c:Int),(∀x∈X,x.2=0\/x.2=1)->IS ss c X->IT (λp=>ss.any (BN · p)) (decide (1<=c)) X
 | [],_,_,_=>True.intro
 | p::r,c,h01,h=>by
   have ih:=Ia r (Hn ss p) (λx hx=>h01 x (by simp[hx])) h.2;rw[Sf] at ih;refine⟨λhc hi=> ?_,ih⟩;rcases h01 p (!2) with z|z
   .exact z
   .have hc:1<=c:=↑hc
    have hi:ss.any (BN · p)=false:=hi;rw[<-Sf] at hi;have hi:¬(1:Int)<=Hn ss p:=↑hi
    have c0:0<=cnt ss p:=by
     have go:∀ss:km BU,0<=cnt ss p:=by
      intro ss;induction ss with
      | nil=>exact AFT _
      | cons s ss ih=>
        have e:cnt (s::ss) p=ON s p+cnt ss p:=by simp[cnt]
        have o:0<=ON s p:=by
         unfold ON;have:¬ep s=some p:=λy=>by obtain⟨b,_,a⟩:=ADL.mp y;have:(0:Int)=p.2:=congrArg Prod.snd a;omega
         rw[AAL this];split <;> decide
        omega
     exact go ss
    have:=h.1;omega
def Tz {ss:km BU}:∀x∈DH ss,x.2=0\/x.2=1:=λx hx=>(Bg.mp hx).2
def Ql:canon 1 ss=DF (λp=>ss.any (BN · p)) (DH ss) none:=by unfold canon;rw[<-RC];congr 1;apply ADG;intro p _;rw[Sf]
def Ou {ss:km BU}(ok:∀s∈ss,DN B s):IT (λp=>ss.any (BN · p)) false (DH ss):=Ia (DH ss) 0 Tz (HD ok)
def W3 {ss:km BU}(ok:∀s∈ss,DN B s):∀s∈canon 1 ss,s.1∈CF ss/\(s.2.1=0\/s.2.1=1)/\∀e,s.2.2=some e->s.1<e/\e∈CF ss:=by rw[Ql];exact Vz (· ∈CF ss) (DH ss) none (EC CS) (λx hx=>⟨Tz x hx,CQ.mp (Bg.mp hx).1⟩) (Ou ok) λq hq=>by cases hq
def ZW {ss:km BU}(ok:∀s∈ss,DN B s):∀x∈CF ss,Bd B x:=λx h=>by
 obtain⟨s,hs,hx⟩:=ACR.mp h;rcases AAO.mp hx with rfl|hx
 .exact (ok s hs).b
 .exact ((ok s hs).e x (↑hx)).2
def fF {ss:km BU}(ok:∀s∈ss,DN B s):∀s∈canon 1 ss,DN B s:=λs hs=>by obtain⟨h1,h2,h3⟩:=W3 ok s hs;exact⟨ZW ok _ h1,h2,λe he=>⟨(h3 e he).1,ZW ok _ (h3 e he).2⟩⟩
theorem II (f:Rat->kc):∀qs:km Rat,(places qs).filter (λp=>f p.1)=places (qs.filter f)
 | [] =>rfl
 | q::qs=>by show ((q,0)::(q,1)::places qs).filter (λp=>f p.1)=_;rw[ACq,ACq,ACq,II f qs];cases f q <;> rfl
def ku (d:Nat)(s:BU):EN (d+2) (DU s)=true:=by obtain⟨a,i,e⟩:=s;cases e <;> simp[DU,EN,Jz,pI,fr]
def gQ (d:Nat)(ss:km BU):EN (d+3) (.lst (ss.map DU))=true:=by simp only[EN];exact J1 λx hx=>by obtain⟨c,_,rfl⟩:=AAS.mp hx;exact ku d c
noncomputable def DW (ms:km Rat)(ss:km BU):km Pl:=places (Dn (ms++CF ss))
def Jj {ss:km BU}(ok:∀s∈ss,DN B s):IS ss 0 (DW ms ss):=by
 have c:∀s∈ss,bp s∈DW ms ss/\∀x,ep s=some x->x∈DW ms ss:=λs hs=>by
  obtain⟨h1,h2⟩:=N9 ok hs;have d:∀x∈DH ss,x∈DW ms ss:=λx hx=>by obtain⟨a,b⟩:=Bg.mp hx;exact Bg.mpr ⟨CQ.mpr (AAj _ (CQ.mp a)),b⟩
  exact⟨d _ h1,λx ex=>d _ (h2 x ex)⟩
 have h:=Nu ok (DW ms ss) none (EC CS) (λp hp=>⟨True.intro,by rcases (Bg.mp hp).2 with z|z <;> omega⟩) (λs hs=>⟨.inr (c s hs).1,λx ex=> .inr ((c s hs).2 x ex)⟩);have z:(ss.map λs=>ma s none).sum=0:=by
  clear h c ok;induction ss with
  | nil=>rfl
  | cons s ss ih=> rw[AAW,ACo,ih];unfold ma;cases ep s <;> rfl
 rw[z] at h;exact h
def W1 {ss:km BU}{n:Int}(ok:∀s∈ss,DN B s)(c:0<n):IJ ((DW ms ss).map λp=>(p,decide (n<=(Hn ss p:Int))))=canon n ss:=by
 have hk:∀p:Pl,decide (p.1∈CF ss)=false->cnt ss p=0:=λp hp=>Uv λ⟨s,hs,z⟩=>by
  have hp:¬p.1∈CF ss:=↑hp
  refine hp (ACR.mpr ⟨s,hs, ?_⟩);rcases z with z|z
  .rw [<-z];simp[bp]
  .obtain ⟨d,he,rfl⟩:=ADL.mp z;simp[he]
 have a:=JG (n:=n) (ss:=ss) (key:=λp=>decide (p.1∈CF ss)) hk (DW ms ss) 0 (Jj ok);rw[AAo (!0)] at a;have h:=Hr (DW ms ss) ([],none) a;have b:(DW ms ss).filter (λp=>decide (p.1∈CF ss))=DH ss:=by unfold DW DH;rw[II (λx=>decide (x∈CF ss))];congr 1;refine T8 (CS.filter _) CS λx=> ?_;rw[AAr,CQ,CQ,AFS];exact⟨λh=>h.2,λh=>⟨AAj _ h,h⟩⟩
 rw[b] at h;show U5 _=U5 _;rw[h]
def Us {ss:km BU}(ok:∀s∈ss,DN B s){p:Pl}(hp:p.2=0\/p.2=1):(canon 1 ss).any (BN · p)=ss.any (BN · p):=by
 have b:p∈DW [p.1] ss:=Bg.mpr ⟨CQ.mpr (!2),hp⟩;have a:∀x∈DW [p.1] ss,x.2=0\/x.2=1:=λx hx=>(Bg.mp hx).2;have c:=Ia (DW [p.1] ss) 0 a (Jj ok);have e:canon 1 ss=DF (λp=>ss.any (BN · p)) (DW [p.1] ss) none:=by rw[<-W1 (ms:= [p.1]) ok (!1),<-RC];congr 1;apply ADG;intro q _;rw[Sf]
 rw[e];exact((Zo (DW [p.1] ss) (EC CS) a).1 c).2 p b
def hN (L:km BU)(p:Pl):Nat:=(L.filter (BN · p)).length
theorem Nw:∀(X:km (Pl×kc)) (st:km BU×ke Pl),2*(X.foldl stepI st).1.length+(if (X.foldl stepI st).2.isSome then 1 else 0)<=2*st.1.length+(if st.2.isSome then 1 else 0)+X.length
 | [],st=>AAR _
 | x::X,st=>by
   have h1:=Nw X (stepI st x);have h2:2*(stepI st x).1.length+(if (stepI st x).2.isSome then 1 else 0)<=2*st.1.length+(if st.2.isSome then 1 else 0)+1:=by obtain⟨L,b⟩:=st;obtain⟨p,c⟩:=x;cases b <;> cases c <;> simp[stepI] <;> omega
   rw[ACQ,AAk];omega
def ck (X:km (Pl×kc)):2*(IJ X).length<=X.length+1:=by have h:=Nw X ([],none);unfold IJ;generalize X.foldl stepI ([],none)=st at *;obtain⟨L,b⟩:=st;cases b <;> simp[U5] at * <;> omega
def W0:(canon n ss).length<=2*ss.length:=by unfold canon DH;have h:=ck ((places (Dn (CF ss))).map λp=>(p,decide (n<=(Hn ss p:Int))));have a:=HR (xs:=CF ss);have b:=K7 (ss:=ss);have c:=Im (qs:=Dn (CF ss));rw[AAT] at h;omega
def lt_size {k n:Nat}(h:k<=n)(a:n<1000000):k<sizeLine:=AAq h (AAf a (ACC rfl))
noncomputable def lin (p q:T3)(s:Rat):T3:=(p.1+s*(q.1-p.1),p.2.1+s*(q.2.1-p.2.1),p.2.2+s*(q.2.2-p.2.2))
def qB {a D b e m x X:Rat}(c:D≠0)(h:e-b≠0):x+(m-a)/D*X=(x+(b-a)/D*X)+(m-b)/(e-b)*((x+(e-a)/D*X)-(x+(b-a)/D*X)):=!3
def bS {a c:C4}{b e:Rat}(h1:a.1<c.1)(h2:b<e):inter a c m=lin (inter a c b) (inter a c e) ((m-b)/(e-b)):=by
 have d:c.1-a.1≠0:=!3
 have f:e-b≠0:=!3
 simp only[inter,lin];rw[<-qB d f,<-qB d f,<-qB d f]
def gI (p q:T3):lin p q 0=p:=by obtain⟨a,b,c⟩:=p;simp[lin,Rat.zero_mul,Rat.add_zero]
theorem LU {b e m:Rat}{q:T3}(f:b<e)(h1:b<=m)(h2:m<=e):∀{a:C4} {r:km C4},Gk (a::r)->(∀c∈r,¬(b<c.1/\c.1<e))->spotG a r b=some p->spotG a r e=some q->spotG a r m=some (lin p q ((m-b)/(e-b)))
 | a, [],_,_,hp,_=>by cases hp
 | a,c::r,hr,hn,hp,hq=>by
   have g:=(AAU.mp hr).1 c (!2);have h:Gk (c::r):=(AAU.mp hr).2;by_cases i:c.1<b
   .simp only[spotG] at hp hq ⊢;rw[AAM i] at hp;rw[AAM (!3)] at hq ⊢;exact LU f h1 h2 h (λx hx=>hn x (by simp[hx])) hp hq
   .simp only[spotG] at hp hq ⊢;rw[AAL i] at hp;by_cases k:b=c.1
    .subst k;rw[Ig g] at hp;cases hp;by_cases j:c.1<m
     .rw [AAM j];rw[AAM (!3)] at hq;refine LU f h1 h2 h (λx hx=>hn x (by simp[hx])) ?_ hq;cases r with
      | nil=>cases hq
      | cons d r=> have l:=(AAU.mp h).1 d (!2);simp only[spotG];rw[AAL (!3),Lj l]
     .have n:m=c.1:=!3
      subst n;rw[AAL j,Ig g];have z:(c.1-c.1)/(e-c.1)=0:=!3
      rw[z,gI]
    .have o:¬c.1<e:=λz=>hn c (!2) ⟨!3,z⟩;cases hp;rw[AAL o] at hq;cases hq;rw[AAL (!3)];rw[<-bS g f]
def RG {b e m:Rat}{q:T3}(d:Gk cs)(f:b<e)(h1:b<=m)(h2:m<=e)(g:∀c∈cs,¬(b<c.1/\c.1<e))(hp:spotC cs b=some p)(hq:spotC cs e=some q):spotC cs m=some (lin p q ((m-b)/(e-b))):=by
 cases cs with
 | nil=>cases hp
 | cons a r=>
   simp only[spotC] at hp hq ⊢;by_cases k:b<a.1
   .rw [AAM k] at hp;cases hp
   .rw [AAL k] at hp;rw[AAL (!3)] at hq ⊢;exact LU f h1 h2 d (λc hc=>g c (by simp[hc])) hp hq
def pP (r s:BU):Prop:=∃e,r.2.2=some e/\(e<s.1\/(e=s.1/\s.2.1=0))
def Sep (ss:km BU):Prop:=ss.Pairwise pP
def fD (q:Pl)(e:ke Rat):bp (q.1,1-q.2,e)=q:=by obtain⟨a,b⟩:=q;show (a,1-(1-b))=(a,b);rw[show 1-(1-b)=b by omega]
theorem F8 {In:Pl->kc}:∀(X:km Pl) (b:ke Pl),∀s∈DF In X b,bp s∈X\/b=some (bp s)
 | [],none=>λs hs=>by cases hs
 | [],some q=>λs hs=>by simp only[DF,AAw] at hs;subst hs;exact .inr (by rw[fD])
 | x::r,none=>λs hs=>by
   unfold DF at hs;split at hs
   .rcases F8 r (some x) s hs with h|h
    .exact .inl (by simp[h])
    .cases h;exact .inl (!2)
   .rcases F8 r none s hs with h|h
    .exact .inl (by simp[h])
    .cases h
 | x::r,some q=>λs hs=>by
   unfold DF at hs;split at hs
   .rcases F8 r (some q) s hs with h|h
    .exact .inl (by simp[h])
    .exact .inr h
   .rcases AAO.mp hs with rfl|hs
    .exact .inr (by rw[fD])
    .rcases F8 r none s hs with h|h
     .exact .inl (by simp[h])
     .cases h
theorem Zq {In:Pl->kc}:∀(X:km Pl) (b:ke Pl),aa X->(∀x∈X,x.2=0\/x.2=1)->IT In b.isSome X->Sep (DF In X b)
 | [],none,_,_,_=> .nil
 | [],some q,_,_,_=>AGV _ _
 | x::r,b,hs,h01,hd=>by
   obtain⟨h1,h2⟩:=AAU.mp hs;have ih:=λb d=>Zq (In:=In) r b h2 (λy hy=>h01 y (by simp[hy])) d;have a:=hd.2;cases b with
   | none=>
     unfold DF;cases e:In x with
     | true=>rw[AAM rfl];rw[e] at a;exact ih (some x) a
     | false=>rw[AAL (!1)];rw[e] at a;exact ih none a
   | some q=>
     unfold DF;cases e:In x with
     | true=>rw[AAM rfl];rw[e] at a;exact ih (some q) a
     | false=>
       rw[AAL (!1)];rw[e] at a;have g:=hd.1 rfl e;refine AAU.mpr ⟨λs hs=> ?_,ih none a⟩;rcases F8 r none s hs with h|h
       .refine ⟨x.1,rfl, ?_⟩;have k:=h1 _ h;have c:=h01 _ (ACc x h);have c:1-s.2.1=0\/1-s.2.1=1:=c;rcases k with k|⟨k,f⟩
        .exact .inl k
        .have f:x.2<1-s.2.1:=f;exact .inr ⟨k,!0⟩
       .cases h
def au {ss:km BU}(ok:∀s∈ss,DN B s):Sep (canon 1 ss):=by rw[Ql];exact Zq (DH ss) none (EC CS) Tz (Ou ok)
def GR {m:Rat}(os:DN B s)(hx:s.2.2=some x):BN s (m,0)=true↔(s.1<m\/(s.1=m/\s.2.1=1))/\m<x:=by
 unfold BN;rw[hx];have:0<s.2.1+0↔s.2.1=1:=by have:=os.h;omega
 simp only[AA7,AEI,ADE,this]
section
variable {B:Nat}{s:BU}{a:km BU}{e:Rat}
theorem YK (h:Sep (s::a))(ok:∀t∈s::a,DN B t)(b:∀t∈s::a,∃x,t.2.2=some x)(he:s.2.2=some e){m:Rat}(g:m<=e):a.any (BN · (m,0))=false:=by
 rw[AFU];intro t c z;obtain⟨x,hx⟩:=b t (by simp[c]);have k:=(GR (ok t (by simp[c])) hx).mp z;obtain⟨i,h1,h2⟩:=(AAU.mp h).1 t c;rw[he] at h1;cases h1;rcases h2 with h2|⟨h2,h3⟩
 .rcases k.1 with d|⟨d,f⟩ <;> grind
 .rcases k.1 with d|⟨d,f⟩
  .grind
  .omega
end
abbrev IR:AS:=
 (Aa (EK (JL (aV 0)) (HB 2 (Ab (Ak 2) (Ab (Ak 3) BP))) (Wt 1 C6 (AY MC (aV 3) (AN 2 Fw (AB (aV 1) (AB (aV 3) AM))))))
   (Aq (aV 1)))
abbrev Gh:AS:=
 (Aa (Aj (aC (.int 1)) (Ak 1))
   IR)
def BS:AF:=An 4 Gh
def FV {Q:PV->Prop}(h:Gh ⟨λ_=>Q .non,Q,λ_=>False,λ_=>False⟩ [some (.val a),none,none,none]):BS [a] Q:=h
def FD (xs:km Rat):Nat:=xs.foldl (λN r=>N*(r.den/Nat.gcd N r.den)) 1
def Mi (xs:km Rat)(r:Rat):FD (xs ++ [r])=FD xs*(r.den/Nat.gcd (FD xs) r.den):=by unfold FD;rw[ADM];rfl
def mF {N d:Nat}(hN:0<N)(hd:0<d):0<N*(d/Nat.gcd N d)/\N ∣ N*(d/Nat.gcd N d)/\d ∣ N*(d/Nat.gcd N d)/\N*(d/Nat.gcd N d)<=N*d:=by have g:Nat.gcd N d ∣ d:=ADb ..;have a:0<Nat.gcd N d:=ADa _ hd;refine⟨ACO hN (Nat.div_pos (ADc hd g) a),Nat.dvd_mul_right .., ?_,ACu _ (ADH ..)⟩;rw[<-Nat.mul_div_assoc _ g];exact Nat.dvd_lcm_right ..
theorem Fo:∀(n:Nat) (xs:km Rat),xs.length=n->(∀x∈xs,Bd W x)->0<FD xs/\(∀x∈xs,x.den ∣ FD xs)/\FD xs<2^(n*W+1)
 | 0,xs,e,_=>by have:xs= [] :=AGD.mp e;subst this;exact⟨!1,!2,by simp[FD]⟩
 | n+1,xs,e,h=>by
   obtain⟨ys,r,rfl⟩:∃ys r,xs=ys ++ [r] :=⟨xs.dropLast,xs.getLast (by intro z;subst z;cases e),(AGE _).symm⟩;have a:ys.length=n:=↑e
   obtain⟨h1,h2,h3⟩:=Fo n ys a λx hx=>h x (by simp[hx]);have b:=(h r (!2)).bot;rw[Mi];obtain⟨c,d,f,g⟩:=mF h1 r.den_pos;refine⟨c,λx hx=> ?_, ?_⟩
   .rcases AAX.mp hx with hx|hx
    .exact Nat.dvd_trans (h2 x hx) d
    .simp at hx;subst hx;exact f
   .refine AAq g ?_;have:=Xh h3 b;rw[show n*W+1+W=(n+1)*W+1 by rw[ADv];omega] at this;exact this
def cx {v:PV}{xs:km Rat}(hv:v= .lst (xs.map fr))(hx:∀x∈xs,Bd W x)(hl:xs.length<=6)(hW:W<=1400){Q:PV->Prop}(q:Q (.int (FD xs:Nat))):BS [v] Q:=by
 subst hv;apply FV;ac_rfl;refine B0 fr (λa vs τ=>∃b d,τ= [some (.val (.lst (xs.map fr))),some (.val (.int (FD a:Nat))),b,d]) ?_ ?_ ⟨_,_,rfl⟩
 .rintro τ ⟨b,d,rfl⟩;ac_rfl;exact q
 .rintro a c vs e τ R g ⟨b,d,rfl⟩;have hu:∀x∈a,Bd W x:=λx h=>hx x (by rw[<-e];simp[h]);have ul:a.length<=6:=by rw[<-e] at hl;simp at hl;omega
  obtain⟨h1,h2,h3⟩:=Fo a.length a rfl hu;have f:=(hx c (by rw[<-e];simp)).bot;have j:a.length*W<=6*1400:=ADQ ul hW;have k:0<Nat.gcd (FD a) c.den:=ADa _ c.den_pos;have gl:Nat.gcd (FD a) c.den<2^8900:=Af (AAq (ADc c.den_pos (ADb ..)) f) (!0);ac_rfl;refine FQ _ _ _ ?_;ac_rfl;refine⟨⟨!0,↑gl⟩, ?_⟩;have i:((c.den:Nat):Int).fdiv ((Nat.gcd (FD a) c.den:Nat):Int)=((c.den/Nat.gcd (FD a) c.den:Nat):Int):=by rw[ACk _ (!0),ADI]
  rw[i];have dl:c.den/Nat.gcd (FD a) c.den<2^1400:=Af (AAq (ADH ..) f) hW;ac_rfl;refine⟨MulOk.of (m:=8401) (n:=1400) (by simpa using Af h3 (!0)) (by rw[ACD];exact dl), ?_⟩;exact g _ ⟨some (.val (.int c.num)),some (.val (.int c.den)),by rw[Mi,AEh];rfl⟩
abbrev Kb:AS:=
 (Aa (Dx 3 HJ (AB (Ap (AB (aV 6) (AB (aV 7) AM))) AM))
   (Dx 3 HJ (AB (Ap (AB (UE Jn (aV 6)) (AB (UE Jn (aV 7)) AM))) AM)))
abbrev Ka:AS:=
 (Aa (Aj (AY C6 (AY Ai (aV 5) (aC (.int 0))) (AY MC (aV 2) (AY Ai (aV 5) (aC (.int 1))))) (Ak 7))
   Kb)
abbrev PN:AS:=
 (Aa (Aj (AY C6 (AY Ai (aV 4) (aC (.int 0))) (AY MC (aV 2) (AY Ai (aV 4) (aC (.int 1))))) (Ak 6))
   Ka)
abbrev PQ:AS:=
 (Aa (EK (sR (AB (aV 0) (AB (aV 1) AM))) (HB 2 (Ab (Ak 4) (Ab (Ak 5) BP))) PN)
   (Aq (Ap (AB (aV 2) (AB (aV 3) AM)))))
abbrev PP:AS:=
 (Aa (HA (ET AM) 3)
   PQ)
abbrev M6:AS:=
 (Aa (Aj (AN 1 BS (AB (AY Cc (aV 0) (aV 1)) AM)) (Ak 2))
   PP)
def E1:AF:=An 8 M6
def TV {Q:PV->Prop}(h:M6 ⟨λ_=>Q .non,Q,λ_=>False,λ_=>False⟩ [some (.val a),some (.val b),none,none,none,none,none,none]):E1 [a,b] Q:=h
noncomputable def C5 (N:Nat)(r:Rat):Int:=r.num*((N:Int).fdiv (r.den:Int))
def Dr {N:Nat}{r:Rat}(h:r.den ∣ N):(C5 N r:Rat)=r*N:=by
 obtain⟨k,rfl⟩:=h;have hd:=r.den_pos;unfold C5;rw[AEh,Int.mul_fdiv_cancel_left _ (!0),ACv];have b:((r.den:Int):Rat)≠0:=λz=>by have:(r.den:Int)=0:=AFV.mp z;omega
 have e:r=(r.num:Rat)/((r.den:Int):Rat):=by rw[<-AEJ,ACX]
 have a:r*((r.den:Int):Rat)=r.num:=by
  conv=>lhs;arg 1;rw[e]
  grind
 rw[<-a,show ((r.den*k:Nat):Rat)=((r.den:Int):Rat)*((k:Int):Rat) by rw[<-ACv,<-AEh,ADd]];grind
noncomputable abbrev MX (p:Int×Int):PV:= .tup [.int p.1, .int p.2]
noncomputable def Xl (t:T3):PV:= .lst [fr t.1,fr t.2.1,fr t.2.2]
structure Pc where
 b:Rat
 e:Rat
 o0:T3
 o1:T3
noncomputable def Pc.six (p:Pc):km Rat:= [p.o0.1,p.o0.2.1,p.o0.2.2,p.o1.1,p.o1.2.1,p.o1.2.2]
def Pc.N (p:Pc):Nat:=FD p.six
noncomputable def Pc.lns (p:Pc):km (Int×Int):= [(C5 p.N p.o0.1,C5 p.N p.o1.1),(-C5 p.N p.o0.1, -C5 p.N p.o1.1),(C5 p.N p.o0.2.1,C5 p.N p.o1.2.1),(-C5 p.N p.o0.2.1, -C5 p.N p.o1.2.1),(C5 p.N p.o0.2.2,C5 p.N p.o1.2.2),(-C5 p.N p.o0.2.2, -C5 p.N p.o1.2.2)]
noncomputable def vD (p:Pc):PV:= .tup [fr p.b,fr p.e, .int p.N, .lst (p.lns.map MX)]
def ib {p:Pc}(a:Dw W p.o0)(h1:Dw W p.o1):∀x∈p.six,Bd W x:=by
 intro x hx;simp only[Pc.six,AAO,AA8,ABA] at hx;rcases hx with rfl|rfl|rfl|rfl|rfl|rfl
 .exact a.x
 .exact a.y
 .exact a.z
 .exact h1.x
 .exact h1.y
 .exact h1.z
def Y8 {N d k:Nat}(h:N<2^k):((N:Int).fdiv (d:Int)).natAbs<2^k:=by rw[ACk _ (!0),<-ADI,ACD];exact AAq (ADH ..) h
def gJ {p:Pc}(b:Dw W p.o0)(h1:Dw W p.o1)(hW:W<=1400){Q:PV->Prop}(q:Q (.tup [.int p.N, .lst (p.lns.map MX)])):E1 [Xl p.o0,Xl p.o1] Q:=by
 have hs:=ib b h1;obtain⟨f,g,d⟩:=Fo 6 p.six rfl hs;have e:(p.N:Nat)<2^8401:=Af d (!0);have a:∀r:Rat,Bd W r->Uj (p.N:Int) (r.den:Int)/\MulOk r.num ((p.N:Int).fdiv (r.den:Int)):=λr c=>
  ⟨⟨BY r,by simpa using Af c.bot (!0)⟩,MulOk.of (m:=1400) (n:=8401) (Af c.top hW) (Y8 e)⟩
 unfold Xl;apply TV;nofun
 refine cx (xs:=p.six) (W:=W) rfl hs (by show 6<=6;omega) hW ?_;have q:Q (.tup [.int p.N, .lst [MX (C5 p.N p.o0.1,C5 p.N p.o1.1),MX (-C5 p.N p.o0.1, -C5 p.N p.o1.1),MX (C5 p.N p.o0.2.1,C5 p.N p.o1.2.1),MX (-C5 p.N p.o0.2.1, -C5 p.N p.o1.2.1),MX (C5 p.N p.o0.2.2,C5 p.N p.o1.2.2),MX (-C5 p.N p.o0.2.2, -C5 p.N p.o1.2.2)]]):=q;unfold C5 at q;rw[show FD p.six=p.N from rfl];generalize p.N=N at *;nofun
 refine⟨(a _ b.x).1,(a _ b.x).2, ?_⟩;nofun
 refine⟨(a _ h1.x).1,(a _ h1.x).2, ?_⟩;nofun
 refine⟨(a _ b.y).1,(a _ b.y).2, ?_⟩;nofun
 refine⟨(a _ h1.y).1,(a _ h1.y).2, ?_⟩;nofun
 refine⟨(a _ b.z).1,(a _ b.z).2, ?_⟩;nofun
 refine⟨(a _ h1.z).1,(a _ h1.z).2, ?_⟩;nofun
 exact q
abbrev Yn:AS:=
 (Aa (Aj (AY Cc (AN 3 Bu (AB (aV 0) (AB (aV 2) (AB (aV 3) AM)))) (AN 3 Bu (AB (aV 1) (AB (aV 2) (AB (aV 3) AM))))) (Ak 4))
   (Aq (AN 1 F1 (AB (AY Cc (G9 (ET (AB (aV 2) (AB (aV 3) AM)))) (G9 (CO (JL (aV 4)) 1 [] (Ak 0) Eg (AY Ai (aV 0) (aC (.int 0)))))) AM))))
def JZ:AF:=An 5 Yn
def cr {Q:PV->Prop}(h:Yn ⟨λ_=>Q .non,Q,λ_=>False,λ_=>False⟩ [some (.val a),some (.val b),some (.val c),some (.val d),none]):JZ [a,b,c,d] Q:=h
noncomputable def Fq (cs ds:km C4)(b e:Rat):km Rat:=Dn ([b,e] ++ ((cs.filter (Qi b e)++ds.filter (Qi b e)).map (·.1)))
def Eu {x:Rat}:x∈Fq cs ds b e↔x=b\/x=e\/(b<x/\x<e/\∃c,(c∈cs\/c∈ds)/\c.1=x):=by
 unfold Fq;rw[CQ];simp only[AF2,ACf,AAO,AAS,AAX,AAr,Qi,AA7,ADE];constructor
 .rintro (h|h|⟨c,h,rfl⟩)
  .exact .inl h
  .exact .inr (.inl h)
  .rcases h with⟨h1,h2,h3⟩|⟨h1,h2,h3⟩
   .exact .inr (.inr ⟨h2,h3,c, .inl h1,rfl⟩)
   .exact .inr (.inr ⟨h2,h3,c, .inr h1,rfl⟩)
 .rintro (h|h|⟨h1,h2,c,h,rfl⟩)
  .exact .inl h
  .exact .inr (.inl h)
  .exact .inr (.inr ⟨c,h.elim (λh=> .inl ⟨h,h1,h2⟩) (λh=> .inr ⟨h,h1,h2⟩),rfl⟩)
def RK {cs:km C4}:(Fq cs ds b e).length<=2+(cs.length+ds.length):=by unfold Fq;refine AAg HR ?_;have h1:=ACY (Qi b e) cs;have h2:=ACY (Qi b e) ds;simp only[ACG,AAT,AAk,AEk];omega
def jC (hv:CM cs v)(hw:CM ds w)(hl:cs.length<=100)(j:ds.length<=100)(hc:∀c∈cs,Ed B c)(g:∀c∈ds,Ed B c)(a:B<=4000)(d:Bd B b)(f:Bd B e){Q:PV->Prop}(q:Q (.lst ((Fq cs ds b e).map fr))):JZ [v,w,fr b,fr e] Q:=by
 have h1:=ACY (Qi b e) cs;have h2:=ACY (Qi b e) ds;apply cr;ac_rfl;refine EH hv (!0) hc a (d.mono a) (f.mono a) ?_;ac_rfl;refine EH hw (!0) g a (d.mono a) (f.mono a) ?_;ac_rfl;rw[<-AAv];ac_rfl;refine GP cor fr (λc=>c.1) (λ_=>True) (λc _ R i=> ?_) _ [] (!2) ?_
 .ac_rfl;exact i
 rw[ACf];ac_rfl;refine RB (xs:= [b,e] ++ (cs.filter (Qi b e)++ds.filter (Qi b e)).map (·.1)) (B:=B) (.inl rfl) (by simp only[ACG,AAT,AAk,AEk];omega) (λx hx=> ?_) a q;rcases AAX.mp hx with hx|hx
 .simp only[AAO,AA8,ABA] at hx;rcases hx with rfl|rfl
  .exact d
  .exact f
 .obtain ⟨c,h,rfl⟩:=AAS.mp hx;rcases AAX.mp h with h|h
  .exact (hc c (AAr.mp h).1).m
  .exact (g c (AAr.mp h).1).m
abbrev UT:AS:=
 (Aa (Aj (AN 2 E1 (AB (AY Ai (aV 5) (AY F5 (aV 7) (aC (.int 1)))) (AB (AY Ai (aV 5) (aV 7)) AM))) (HB 2 (Ab (Ak 8) (Ab (Ak 9) BP))))
   (Dx 6 HJ (AB (Ap (AB (AY Ai (aV 4) (AY F5 (aV 7) (aC (.int 1)))) (AB (AY Ai (aV 4) (aV 7)) (AB (aV 8) (AB (aV 9) AM))))) AM)))
abbrev UY:AS:=
 (Aa (EK (jp (AB (aC (.int 1)) (AB (Hj Ib (AB (aV 4) AM)) AM))) (Ak 7) UT)
   (Aq (aV 6)))
abbrev UX:AS:=
 (Aa (HA (ET AM) 6)
   UY)
abbrev UW:AS:=
 (Aa (Aj (G9 (CO (JL (aV 4)) 1 [0,1,2] (Ak 0) Eg (AN 4 F0 (AB (aV 1) (AB (aV 2) (AB (aV 3) (AB (aV 0) AM))))))) (Ak 5))
   UX)
abbrev UV:AS:=
 (Aa (Aj (AN 4 JZ (AB (aV 0) (AB (aV 1) (AB (AY Ai (aV 3) (aC (.int 0))) (AB (AY Ai (aV 3) (aC (.int 1))) AM))))) (Ak 4))
   UW)
abbrev UU:AS:=
 (Aa (Bf (As (AY SM (aV 3) (aC .non))) (Aq (G9 (ET AM))) BD)
   UV)
abbrev US:AS:=
 (Aa (Aj (AN 2 D7 (AB (aV 0) (AB (aV 1) AM))) (Ak 3))
   UU)
def G5:AF:=An 10 US
def YA {Q:PV->Prop}(h:US ⟨λ_=>Q .non,Q,λ_=>False,λ_=>False⟩ [some (.val a),some (.val b),some (.val c),none,none,none,none,none,none,none]):G5 [a,b,c] Q:=h
noncomputable def KM (cs ds:km C4)(d:Rat×Rat)(m:Rat):T3:=P3 ((spotC cs m).getD (0,0,0)) ((spotC ds m).getD (0,0,0)) d
noncomputable def OO (cs ds:km C4)(d:Rat×Rat)(ts:km Rat):km Pc:=(ts.zip ts.tail).map λp=>⟨p.1,p.2,KM cs ds d p.1,KM cs ds d p.2⟩
def zip_get {ts:km Rat}{i:Nat}{y:Rat}(hx:ts[i]? =some x)(hy:ts[i+1]? =some y):(ts.zip ts.tail)[i]? =some (x,y):=by rw[AGF];exact⟨hx,by rw[AGG];exact hy⟩
structure xk (cs ds:List C4) (b e:Rat):Prop where
 lt:b<e
 one:∀m,b<=m->m<=e->∃t,spotC cs m=some t
 other:∀m,b<=m->m<=e->∃t,spotC ds m=some t
def i9 {a b:C4}{r r2:km C4}(e:r≠ [])(f:r2≠ [])(g:(a::r).getLast?=some l)(d:(b::r2).getLast?=some c)(h:mx a.1 b.1<mn l.1 c.1):xk (a::r) (b::r2) (mx a.1 b.1) (mn l.1 c.1):=by
 have i:a.1<=mx a.1 b.1:=by unfold mx;split <;> grind
 have j:b.1<=mx a.1 b.1:=by unfold mx;split <;> grind
 have k:mn l.1 c.1<=l.1:=by unfold mn;split <;> grind
 have n:mn l.1 c.1<=c.1:=by unfold mn;split <;> grind
 exact⟨h,λm h1 h2=>Cw e g (!3) (!3),λm h1 h2=>Cw f d (!3) (!3)⟩
def nG (ts:km Rat):(ts.zip ts.tail).length=ts.length-1:=by rw[List.length_zip,List.length_tail];omega
def TC {cs:km C4}:(OO cs ds d ts).length=ts.length-1:=by unfold OO;rw[AAT,nG]
def GD:Up (Fq cs ds b e):=CS
def FI {b e x:Rat}(h:b<e)(hx:x∈Fq cs ds b e):b<=x/\x<=e:=by rcases Eu.mp hx with rfl|rfl|⟨h1,h2,_⟩ <;> exact⟨!3,!3⟩
def O1 {cs ds:km C4}{x:Rat}(hc:∀c∈cs,Bd M c.1)(a:∀c∈ds,Bd M c.1)(d:Bd M b)(f:Bd M e)(hx:x∈Fq cs ds b e):Bd M x:=by
 rcases Eu.mp hx with rfl|rfl|⟨_,_,c,h,rfl⟩
 .exact d
 .exact f
 .rcases h with h|h
  .exact hc c h
  .exact a c h
def fT (cs:km C4):Rat:=(cs.head?.getD (0,0,0,0)).1
noncomputable def lstM (cs:km C4):Rat:=(cs.getLast?.getD (0,0,0,0)).1
def Cg (cs ds:km C4):Rat:=mx (fT cs) (fT ds)
def CZ (cs ds:km C4):Rat:=mn (lstM cs) (lstM ds)
noncomputable def PD (cs ds:km C4):km Rat:=Fq cs ds (Cg cs ds) (CZ cs ds)
structure JJ (cs ds:List C4) (d:Rat×Rat) (M W:Nat):Prop where
 c1:∀c∈cs,Ed 150 c
 c2:∀c∈ds,Ed 150 c
 r1:Gk cs
 r2:Gk ds
 t1:2<=cs.length
 t2:2<=ds.length
 f1:cs.length<=100
 f2:ds.length<=100
 m1:∀c∈cs,Bd M c.1
 m2:∀c∈ds,Bd M c.1
 b1:Bd 100 d.1
 b2:Bd 100 d.2
 p1:0<d.1
 p2:0<d.2
 w:Cg cs ds<CZ cs ds->∀m∈PD cs ds,Dw W (KM cs ds d m)
 hM:M<=150
 hW:W<=1050
def open2 {cs:km C4}(h:2<=cs.length):∃a r l,cs=a::r/\r≠ [] /\(a::r).getLast?=some l:=by
 match cs,h with
 | a::b::r,_=> obtain⟨l,c⟩:∃l,(a::b::r).getLast?=some l:=⟨_,AFR (!2)⟩;exact⟨a,b::r,l,rfl,!2,c⟩
def Hm {a:C4}{r:km C4}:fT (a::r)=a.1:=rfl
def Cd {cs:km C4}(e:cs.getLast?=some l):lstM cs=l.1:=by unfold lstM;rw[e];rfl
section
variable {cs ds:km C4}{d:Rat×Rat}{M W:Nat}
theorem JJ.fstB (D:JJ cs ds d M W):Bd M (fT cs):=by obtain⟨a,r,l,rfl,b,c⟩:=open2 D.t1;exact D.m1 a (!2)
theorem JJ.fstB2 (D:JJ cs ds d M W):Bd M (fT ds):=by obtain⟨a,r,l,rfl,b,c⟩:=open2 D.t2;exact D.m2 a (!2)
theorem JJ.lstB (D:JJ cs ds d M W):Bd M (lstM cs):=by obtain⟨a,r,l,rfl,c,b⟩:=open2 D.t1;rw[Cd b];exact D.m1 l (ADN b)
theorem JJ.lstB2 (D:JJ cs ds d M W):Bd M (lstM ds):=by obtain⟨a,r,l,rfl,c,b⟩:=open2 D.t2;rw[Cd b];exact D.m2 l (ADN b)
theorem JJ.begB (D:JJ cs ds d M W):Bd M (Cg cs ds):=D.fstB.mx D.fstB2
theorem JJ.endB (D:JJ cs ds d M W):Bd M (CZ cs ds):=D.lstB.mn D.lstB2
theorem JJ.tog (D:JJ cs ds d M W)(h:Cg cs ds<CZ cs ds):xk cs ds (Cg cs ds) (CZ cs ds):=by obtain⟨a,r,l,rfl,e,c⟩:=open2 D.t1;obtain⟨g,r2,i,rfl,f,b⟩:=open2 D.t2;unfold Cg CZ at h ⊢;rw[Hm,Hm,Cd c,Cd b] at h ⊢;exact i9 e f c b h
end
def mq (D:JJ cs ds d M W)(hv:CM cs v)(hw:CM ds w){Q:PV->Prop}(c:Cg cs ds<CZ cs ds->Q (.tup [fr (Cg cs ds),fr (CZ cs ds)]))(e:¬Cg cs ds<CZ cs ds->Q .non):D7 [v,w] Q:=by have i:=D.fstB;have j:=D.fstB2;have g:=D.lstB;have h:=D.lstB2;have hM:=D.hM;obtain⟨a,r,l,rfl,k,f⟩:=open2 D.t1;obtain⟨m,r2,n,rfl,o,b⟩:=open2 D.t2;unfold Cg CZ at c e;rw[Hm,Hm,Cd f,Cd b] at c e;rw[Cd f] at g;rw[Cd b] at h;exact WP hv hw f b (i.mono (!0)) (g.mono (!0)) (j.mono (!0)) (h.mono (!0)) c e
noncomputable def Vu (cs ds:km C4)(d:Rat×Rat):km Pc:=if Cg cs ds<CZ cs ds then OO cs ds d (PD cs ds) else []
def cZ (D:JJ cs ds d M W)(hv:CM cs v)(hw:CM ds w)(hu:Mo d u){Q:PV->Prop}(q:Q (.lst ((Vu cs ds d).map vD))):G5 [v,w,u] Q:=by
 have hM:=D.hM;have hW:=D.hW;have l:=D.f1;have m:=D.f2;apply YA;ac_rfl;refine mq D hv hw (λh=> ?_) (λh=> ?_);rotate_left
 .unfold Vu at q;rw[AAL h] at q;ac_rfl;exact q
 unfold Vu at q;rw[AAM h] at q;have A:=D.tog h;ac_rfl;refine jC (B:=150) hv hw l m D.c1 D.c2 (!1) (D.begB.mono hM) (D.endB.mono hM) ?_;have F:=RK (cs:=cs) (ds:=ds) (b:=Cg cs ds) (e:=CZ cs ds);have n:∀x∈PD cs ds,Cg cs ds<=x/\x<=CZ cs ds:=λx hx=>FI h hx;have G:∀x∈PD cs ds,Bd M x:=λx hx=>O1 D.m1 D.m2 D.begB D.endB hx;have C:∀x∈PD cs ds,Dw W (KM cs ds d x):=D.w h;have H:(PD cs ds).length<=2+(cs.length+ds.length):=F;rw[show Fq cs ds (Cg cs ds) (CZ cs ds)=PD cs ds from rfl];generalize PD cs ds=ts at *;ac_rfl;refine GP fr Xl (KM cs ds d) (λx=>x∈ts) (λx hx R k=> ?_) ts [] (λx hx=>hx) ?_
 .obtain ⟨s,es⟩:=A.one x (n x hx).1 (n x hx).2;obtain⟨t,E⟩:=A.other x (n x hx).1 (n x hx).2;have k:R (Xl (P3 ((spotC cs x).getD (0,0,0)) ((spotC ds x).getD (0,0,0)) d)):=k;rw[es,E] at k;ac_rfl;exact kr hv hw hu D.c1 D.c2 D.r1 D.r2 (by have:=D.t1;intro z;subst z;simp at this) (by have:=D.t2;intro z;subst z;simp at this) l m ((G x hx).mono (!0)) D.b1 D.b2 (by have:=D.p1;grind) (by have:=D.p2;grind) es E k
 rw[ACf];ac_rfl;refine SN (λi τ=>∃g j a,τ= [some (.val v),some (.val w),some (.val u),some (.val (.tup [fr (Cg cs ds),fr (CZ cs ds)])),some (.val (.lst (ts.map fr))),some (.val (.lst ((ts.map (KM cs ds d)).map Xl))),some (.own (((OO cs ds d ts).take i).map vD)),g,j,a]) ?_ ?_ ⟨_,_,_,rfl⟩
 .rintro τ ⟨g,j,a,rfl⟩;rw[ADA (by rw[TC];omega)];ac_rfl;exact q
 .rintro i hi τ R k ⟨g,j,a,rfl⟩;have I:i+1<ts.length:=!0
  obtain⟨x,ex⟩:∃x,ts[i]? =some x:=⟨_,AAi (!0)⟩;obtain⟨y,o⟩:∃y,ts[i+1]? =some y:=⟨_,AAi I⟩;have N:=TC (cs:=cs) (ds:=ds) (d:=d) (ts:=ts);have J:=C x (ACN ex);have K:=C y (ACN o);have ep:(OO cs ds d ts).take (i+1)=(OO cs ds d ts).take i ++ [⟨x,y,KM cs ds d x,KM cs ds d y⟩] :=by
   have L:(OO cs ds d ts)[i]? =some ⟨x,y,KM cs ds d x,KM cs ds d y⟩:=by unfold OO;rw[AAu,zip_get ex o];rfl
   rw[List.take_succ,L];rfl
  have t1:((1:Int)+(i:Int)-1).toNat=i:=!0
  have t2:((1:Int)+(i:Int)).toNat=i+1:=!0
  have r:∀g j a,R [some (.val v),some (.val w),some (.val u),some (.val (.tup [fr (Cg cs ds),fr (CZ cs ds)])),some (.val (.lst (ts.map fr))),some (.val (.lst ((ts.map (KM cs ds d)).map Xl))),some (.own (((OO cs ds d ts).take i).map vD ++ [vD ⟨x,y,KM cs ds d x,KM cs ds d y⟩])),g,j,a] :=λg j a=>k _ ⟨g,j,a,by rw[ep,AAv];rfl⟩;ac_rfl;rename_i c1 c _ c2 f _;rw[t1,AAu,ex] at c;rw[t2,AAu,o] at f;cases c;cases f;refine gJ (p:=⟨x,y,KM cs ds d x,KM cs ds d y⟩) J K (!0) ?_;ac_rfl;rename_i c1 c _ c2 f _;rw[t1,ex] at c;cases c;rw[t2,o] at f;cases f;ac_rfl;exact r _ _ _
abbrev PR:AS:=
 (Aa (Aj (Hj DP (AB (G9 (CO (JL (aV 0)) 2 [3] (HB 2 (Ab (Ak 0) (Ab (Ak 1) BP))) Eg (AY C6 (aV 0) (AY MC (aV 2) (aV 1))))) AM)) (Ak 4))
   (Aq (Ap (AB (aV 4) (AB (aV 1) (AB (eY (aV 2) (aV 3)) AM))))))
abbrev M8:AS:=
 (Aa (Aj (AN 1 BS (AB (aV 0) AM)) (Ak 3))
   PR)
def E2:AF:=An 5 M8
def TX {Q:PV->Prop}(h:M8 ⟨λ_=>Q .non,Q,λ_=>False,λ_=>False⟩ [some (.val a),some (.val b),some (.val c),none,none]):E2 [a,b,c] Q:=h
abbrev Ug:AS:=
 (Aa (eZ 5 6 7 1 3 (AY Ai (aV 0) (aC (.int 2))) (AY Ai (aV 2) (aC (.int 2))))
   (Aq (Ap (AB (aV 4) (AB (Hj (pN max) (AB (AY Ai (aV 0) (aC (.int 1))) (AB (AY Ai (aV 2) (aC (.int 1))) AM))) (AB (aV 5) AM))))))
abbrev Uf:AS:=
 (Aa (Aj (Hj DP (AB (G9 (CO (sR (AB (AY Ai (aV 0) (aC (.int 0))) (AB (AY Ai (aV 2) (aC (.int 0))) AM))) 2 [1,3] (HB 2 (Ab (Ak 0) (Ab (Ak 1) BP))) Eg (AY Cc (AY C6 (aV 2) (aV 0)) (AY C6 (aV 3) (aV 1))))) AM)) (Ak 4))
   Ug)
def G6:AF:=An 8 Uf
def YC {Q:PV->Prop}(h:Uf ⟨λ_=>Q .non,Q,λ_=>False,λ_=>False⟩ [some (.val a),some (.val b),some (.val c),some (.val d),none,none,none,none]):G6 [a,b,c,d] Q:=h
abbrev QJ:AS:=
 (Aq (AN 4 G6 (AB (aV 0) (AB (UE Jn (AY Ai (AY Ai (aV 1) (aC (.int 0))) (aV 2))) (AB (aV 1) (AB (AY Ai (AY Ai (aV 0) (aC (.int 0))) (aV 2)) AM))))))
def Eo:AF:=An 3 QJ
def V2 {Q:PV->Prop}(h:QJ ⟨λ_=>Q .non,Q,λ_=>False,λ_=>False⟩ [some (.val a),some (.val b),some (.val c)]):Eo [a,b,c] Q:=h
abbrev M4:AS:=
 (Aa (Aj (AY Ai (AY Ai (aV 0) (aC (.int 0))) (aC (.int 0))) (Ak 1))
   (Aq (xn (AY bA (aV 1) (aC (.int 0))) (eT (AY O9 (aV 1) (aC (.int 0))) (AY O9 (AY Ai (aV 0) (aC (.int 1))) (aC (.int 1)))))))
def D1:AF:=An 2 M4
def TR {Q:PV->Prop}(h:M4 ⟨λ_=>Q .non,Q,λ_=>False,λ_=>False⟩ [some (.val a),none]):D1 [a] Q:=h
abbrev Rr:AS:=
 (Aa (Aj (AY Ai (AY Ai (aV 0) (aC (.int 0))) (aV 1)) (Ak 3))
   (Aq (jl (As (AY dR (aV 3) (aC (.int 0)))) (Ap (AB (UE Jn (aV 2)) (AB (aV 3) AM))) (Ap (AB (aV 2) (AB (UE Jn (aV 3)) AM))))))
abbrev QU:AS:=
 (Aa (Aj (AY Ai (AY Ai (aV 0) (aC (.int 0))) (aC (.int 0))) (Ak 2))
   Rr)
def Dd:AF:=An 4 QU
def WB {Q:PV->Prop}(h:QU ⟨λ_=>Q .non,Q,λ_=>False,λ_=>False⟩ [some (.val a),some (.val b),none,none]):Dd [a,b] Q:=h
abbrev Lw:AS:=
 (Aa (Bf (As (AN 2 Am (AB (aV 4) (AB (aV 3) AM)))) (Aq (AY dR (AY Ai (AY Ai (aV 0) (aC (.int 0))) (aV 2)) (aC (.int 0)))) BD)
   (Aq (AY dR (AY Ai (aV 0) (aC (.int 1))) (AY Ai (aV 1) (aC (.int 1))))))
abbrev Lv:AS:=
 (Aa (Bf (As (AN 2 Am (AB (aV 3) (AB (aV 4) AM)))) (Aq (AY bA (AY Ai (AY Ai (aV 0) (aC (.int 0))) (aV 2)) (aC (.int 0)))) BD)
   Lw)
abbrev Lu:AS:=
 (Aa (Aj (AN 2 Dd (AB (aV 1) (AB (aV 2) AM))) (Ak 4))
   Lv)
abbrev JS:AS:=
 (Aa (Aj (AN 2 Dd (AB (aV 0) (AB (aV 2) AM))) (Ak 3))
   Lu)
def Dj:AF:=An 5 JS
def OX {Q:PV->Prop}(h:JS ⟨λ_=>Q .non,Q,λ_=>False,λ_=>False⟩ [some (.val a),some (.val b),some (.val c),none,none]):Dj [a,b,c] Q:=h
abbrev Pe:AS:=
 (Aa (EK (JL (aV 0)) (Ak 4) (Bf (Gm (As (AY dR (AY C6 (AY Ai (AY Ai (aV 4) (aC (.int 0))) (aV 1)) (aV 2)) (aC (.int 0)))) (R6 (As (AY SM (aV 3) (aC .non))) (As (AN 3 Dj (AB (aV 4) (AB (aV 3) (AB (aV 1) AM))))))) (Aj (aV 4) (Ak 3)) BD))
   (Aq (aV 3)))
abbrev NJ:AS:=
 (Aa (Aj (aC .non) (Ak 3))
   Pe)
def Cn:AF:=An 5 NJ
def Ta {Q:PV->Prop}(h:NJ ⟨λ_=>Q .non,Q,λ_=>False,λ_=>False⟩ [some (.val a),some (.val b),some (.val c),none,none]):Cn [a,b,c] Q:=h
abbrev PM:AS:=
 (Aa (Aj (AN 3 Eo (AB (AN 3 Cn (AB (aV 0) (AB (aV 1) (AB (aC (.int 1)) AM)))) (AB (aV 3) (AB (aV 1) AM)))) (Ak 4))
   (Aq (jl (As (AN 1 D1 (AB (aV 4) AM))) (aV 4) (aC .non))))
abbrev PK:AS:=
 (Aa (Bf (As (AY SM (aV 3) (aC .non))) (Aq (aC .non)) BD)
   PM)
abbrev PJ:AS:=
 (Aa (Aj (AN 3 Cn (AB (aV 0) (AB (aV 1) (AB (UE Jn (aC (.int 1))) AM)))) (Ak 3))
   PK)
abbrev M3:AS:=
 (Aa (EK (JL (aV 0)) (Ak 2) (Bf (Gm (As (AY O9 (AY Ai (AY Ai (aV 2) (aC (.int 0))) (aV 1)) (aC (.int 0)))) (As (AN 1 D1 (AB (aV 2) AM)))) (Aq (aV 2)) BD))
   PJ)
def Dz:AF:=An 5 M3
def TQ {Q:PV->Prop}(h:M3 ⟨λ_=>Q .non,Q,λ_=>False,λ_=>False⟩ [some (.val a),some (.val b),none,none,none]):Dz [a,b] Q:=h
abbrev Pa:AS:=
 (Aa (Aj (AN 2 Dd (AB (aV 4) (AB (aV 1) AM))) (Ak 5))
   (Aq (Ap (AB (aV 3) (AB (AY F5 (aC (.int 1)) (AY Ai (aV 2) (aC (.int 1)))) (AB (AN 2 Fa (AB (AY Ai (aV 5) (aC (.int 0))) (AB (AY Ai (aV 5) (aC (.int 1))) AM))) AM))))))
abbrev PZ:AS:=
 (Aa (Bf (As (AY SM (aV 4) (aC .non))) (Aq (Ap (AB (aV 3) (AB (AY F5 (aC (.int 1)) (AY Ai (aV 2) (aC (.int 1)))) (AB (aC .non) AM))))) BD)
   Pa)
abbrev PY:AS:=
 (Aa (Aj (AN 3 Cn (AB (aV 0) (AB (aV 1) (AB (UE Jn (aC (.int 1))) AM)))) (Ak 4))
   PZ)
abbrev PX:AS:=
 (Aa (Aj (AN 2 Fa (AB (AY Ai (aV 3) (aC (.int 0))) (AB (AY Ai (aV 3) (aC (.int 1))) AM))) (Ak 3))
   PY)
abbrev PU:AS:=
 (Aa (Aj (AN 2 Dd (AB (aV 2) (AB (aV 1) AM))) (Ak 3))
   PX)
abbrev M9:AS:=
 (Aa (Aj (AN 3 Cn (AB (aV 0) (AB (aV 1) (AB (aC (.int 1)) AM)))) (Ak 2))
   PU)
def E3:AF:=An 6 M9
def TY {Q:PV->Prop}(h:M9 ⟨λ_=>Q .non,Q,λ_=>False,λ_=>False⟩ [some (.val a),some (.val b),none,none,none,none]):E3 [a,b] Q:=h
structure FS where
 c0:Int
 c1:Int
 s:Int
 w:List (Int×Int)
structure jf (N:Nat) (p:FS):Prop where
 a:p.c0.natAbs<2^N
 b:p.c1.natAbs<2^N
 w:∀e∈p.w,e.2.natAbs<2^N
 l:p.w.length<=12
 s:p.s=0\/p.s=1
def pG {a b:AE}{Q:PV->Prop}:eY a b τ Q=a τ λx=>b τ λy=>UI x λi=>UI y λj=>Q (.dk [(i,j)]):=by
 unfold eY;congr 1
 funext x
 congr 1
 funext y
 cases x <;> cases y <;> rfl
instance{a b:AE}{Q:PV->Prop}:Wp (eY a b τ Q) (a τ λx=>b τ λy=>UI x λi=>UI y λj=>Q (.dk [(i,j)])):=⟨λh=>by rw[pG];exact h⟩
noncomputable def OU (p:FS)(t:Rat):Rat:=p.c0+p.c1*t
def YH {S:Nat}{N:Nat}(b:Bd W r)(h:S<2^N):(C5 S r).natAbs<2^(W+N):=by unfold C5;rw[ACW];refine Xh b.top ?_;rw[ACk _ (!0),<-ADI,ACD];exact AAq (ADH ..) h
def Oj:(Br many m).length<=m.length:=by
 have key:∀(m a:km (Int×Int)),(m.foldl (λa p=>Fi a p.1 (many*p.2)) a).length<=a.length+m.length:=by
  intro m;induction m with
  | nil=>intro a;simp
  | cons x r ih=> intro a;rw[ACQ,AAk];have:=ih (Fi a x.1 (many*x.2));have:=J8 a x.1 (many*x.2);omega
 have:=key m [];simpa[Br] using this
noncomputable def Hw (p:FS):kc:=decide (p.c0<0\/(p.c0=0/\p.s=1))
noncomputable def Bp (p:FS):Int×Int:=if 0<p.c1 then (-p.c0,p.c1) else (p.c0, -p.c1)
def Di (p:FS):Rat:= -(p.c0:Rat)/p.c1
noncomputable def Oz (p r:FS):kc:=if (Bp p).1*(Bp r).2<(Bp r).1*(Bp p).2 then decide (p.c1<0) else if (Bp r).1*(Bp p).2<(Bp p).1*(Bp r).2 then decide (0<p.c1) else decide (r.s<p.s)
def Hg {N:Nat}(h:jf N p):(Bp p).1.natAbs<2^N/\(Bp p).2.natAbs<2^N:=by
 unfold Bp;have:=h.a;have:=h.b;split
 .rw [ACl];exact⟨h.a,h.b⟩
 .rw [ACl];exact⟨h.a,h.b⟩
def Nn {a b c d:Int}{N:Nat}(h1:a.natAbs<2^N)(h2:b.natAbs<2^N)(h3:c.natAbs<2^N)(e:d.natAbs<2^N)(hN:N<=10000){Q:PV->Prop}(q:Q (.bl (decide (a*d<c*b)))):Am [.tup [.int a, .int b], .tup [.int c, .int d]] Q:=by refine⟨.of h1 e, .of h3 h2,q⟩
def holds (p:FS)(t:Rat):Prop:=0<OU p t\/(OU p t=0/\p.s=0)
def DJ {p:FS}(h:p.c1≠0):0<(Bp p).2/\((Bp p).1:Rat)=Di p*((Bp p).2:Rat)/\(p.c0:Rat)= - (Di p*p.c1):=by
 have hc:(p.c1:Rat)≠0:=by exact_mod_cast h
 have e:Di p*(p.c1:Rat)= -(p.c0:Rat):=by unfold Di;exact AGH hc
 unfold Bp;split
 .rename_i h1;refine⟨h1, ?_, ?_⟩
  .rw [e];push_cast;rfl
  .rw [e];grind
 .rename_i h1;refine⟨by show 0 < -p.c1;omega, ?_, ?_⟩
  .push_cast;grind
  .rw [e];grind
def aE {p r:FS}(hp:p.c1≠0)(a:r.c1≠0):(Bp p).1*(Bp r).2<(Bp r).1*(Bp p).2↔Di p<Di r:=by
 obtain⟨b,c,_⟩:=DJ hp;obtain⟨b1,b2,_⟩:=DJ a;have d:(0:Rat)<((Bp p).2:Rat):=by exact_mod_cast b
 have e:(0:Rat)<((Bp r).2:Rat):=by exact_mod_cast b1
 rw[<-ACS,ACv,ACv,c,b2];generalize ((Bp p).2:Rat)=x at *;generalize ((Bp r).2:Rat)=y at *;have f:0<x*y:=AEK d e;rw[show Di p*x*y=Di p*(x*y) by grind,show Di r*y*x=Di r*(x*y) by grind];exact Rat.mul_lt_mul_right f
def Zm {p:FS}(h:p.c1≠0)(t:Rat):OU p t=p.c1*(t-Di p):=by obtain⟨_,_,e⟩:=DJ h;unfold OU;rw[e];grind
def D8 {p:FS}(h:0<p.c1)(t:Rat):holds p t↔(Di p<t\/(Di p=t/\p.s=0)):=by
 have hc:(0:Rat)<p.c1:=by exact_mod_cast h
 unfold holds;rw[Zm (!0)];have a:0<(p.c1:Rat)*(t-Di p)↔Di p<t:=by rw[AEL hc];grind
 have b:(p.c1:Rat)*(t-Di p)=0↔Di p=t:=by rw[AEM];grind
 rw[a,b]
def DQ {p:FS}(h:p.c1<0)(t:Rat):holds p t↔(t<Di p\/(Di p=t/\p.s=0)):=by
 have hc:(0:Rat) < -(p.c1:Rat):=by
  have:(p.c1:Rat)<0:=by exact_mod_cast h
  grind
 unfold holds;rw[Zm (!0)];have a:0<(p.c1:Rat)*(t-Di p)↔t<Di p:=by rw[show (p.c1:Rat)*(t-Di p)= -(p.c1:Rat)*(Di p-t) by grind,AEL hc];grind
 have b:(p.c1:Rat)*(t-Di p)=0↔Di p=t:=by rw[AEM];grind
 rw[a,b]
noncomputable def O0 (sg:Int)(o:ke FS)(p:FS):ke FS:=if 0<p.c1*sg then (match o with | none=>some p|some r=>if Oz p r=true then some p else some r) else o
noncomputable def tight (sg:Int)(ps:km FS):ke FS:=ps.foldl (O0 sg) none
def i8 {p r:FS}{sg:Int}(h:sg=1\/sg= -1)(hp:0<p.c1*sg)(a:0<r.c1*sg)(sp:p.s=0\/p.s=1)(d:r.s=0\/r.s=1)(t:Rat):(Oz p r=true->holds p t->holds r t)/\(Oz p r=false->holds r t->holds p t):=by
 have b:p.c1≠0:=by intro z;rw[z] at hp;simp at hp
 have c:r.c1≠0:=by intro z;rw[z] at a;simp at a
 unfold Oz;simp only[aE b c,aE c b];rcases h with rfl|rfl
 .have hp:0<p.c1:=!0
  have a:0<r.c1:=!0
  rw[D8 hp,D8 a];split
  .simp [show ¬p.c1<0 by omega];grind
  .split
   .simp [hp];grind
   .simp;grind
 .have hp:p.c1<0:=!0
  have a:r.c1<0:=!0
  rw[DQ hp,DQ a];split
  .simp [hp];grind
  .split
   .simp [show ¬0<p.c1 by omega];grind
   .simp;grind
structure oZ (sg:Int) (ps:List FS) (o:Option FS):Prop where
 no:o=none->∀p∈ps,¬0<p.c1*sg
 so:∀r,o=some r->r∈ps/\0<r.c1*sg/\∀p∈ps,0<p.c1*sg->∀t,holds r t->holds p t
def c8 {sg:Int}(h:sg=1\/sg= -1){ps:km FS}{p:FS}(hs:∀p∈ps,p.s=0\/p.s=1)(hp:p.s=0\/p.s=1)(i:oZ sg ps o):oZ sg (ps ++ [p]) (O0 sg o p):=by
 unfold O0;split
 .rename_i h1;cases o with
  | none=>
    refine⟨λz=>(by cases z),λr e=> ?_⟩;cases e;refine⟨!2,h1,λx hx h2 t a=> ?_⟩;rcases AAX.mp hx with hx|hx
    .exact absurd h2 (i.no rfl x hx)
    .rw [AAw.mp hx];exact a
  | some r=>
    obtain⟨m,b,c⟩:=i.so r rfl;have d:=i8 h h1 b hp (hs r m);dsimp only;split
    .rename_i h2;refine⟨λz=>(by cases z),λf e=> ?_⟩;cases e;refine⟨!2,h1,λx hx h3 t a=> ?_⟩;rcases AAX.mp hx with hx|hx
     .exact c x hx h3 t ((d t).1 h2 a)
     .rw [AAw.mp hx];exact a
    .rename_i h2;refine⟨λz=>(by cases z),λf e=> ?_⟩;cases e;refine⟨by simp[m],b,λx hx h3 t a=> ?_⟩;rcases AAX.mp hx with hx|hx
     .exact c x hx h3 t a
     .rw [AAw.mp hx];exact(d t).2 (↑h2) a
 .rename_i h1;refine⟨λz x hx=> ?_,λr e=> ?_⟩
  .rcases AAX.mp hx with hx|hx
   .exact i.no z x hx
   .rw [AAw.mp hx];exact h1
  .obtain ⟨m,b,c⟩:=i.so r e;refine⟨by simp[m],b,λx hx h3 t a=> ?_⟩;rcases AAX.mp hx with hx|hx
   .exact c x hx h3 t a
   .rw [AAw.mp hx] at h3;exact absurd h3 h1
def c7 (sg:Int)(a:km FS)(p:FS):tight sg (a ++ [p])=O0 sg (tight sg a) p:=by unfold tight;rw[ADM];rfl
theorem Dh {sg:Int}(h:sg=1\/sg= -1):∀(n:Nat) (ps:km FS),ps.length=n->(∀p∈ps,p.s=0\/p.s=1)->oZ sg ps (tight sg ps)
 | 0,ps,e,_=>by have:ps= [] :=AGD.mp e;subst this;exact⟨λ_=>!2,λr e=>by cases e⟩
 | n+1,ps,e,hs=>by obtain⟨ys,r,rfl⟩:∃ys r,ps=ys ++ [r] :=⟨ps.dropLast,ps.getLast (by intro z;subst z;cases e),(AGE _).symm⟩;rw[c7];exact c8 h (λp hp=>hs p (by simp[hp])) (hs r (!2)) (Dh h n ys (↑e) λp hp=>hs p (by simp[hp]))
def Ye {p:FS}(h:p.c1≠0):Rat.divInt (Bp p).1 (Bp p).2=Di p:=by
 obtain⟨a,b,_⟩:=DJ h;have hz:((Bp p).2:Rat)≠0:=by
  have:(0:Rat)<((Bp p).2:Rat):=by exact_mod_cast a
  grind
 rw[AEJ,b];exact Rat.mul_div_cancel hz
abbrev IN:AS:=
 (Aa (Aj (AN 2 GK (AB (AN 2 Bw (AB (aV 5) (AB (aV 4) AM))) (AB (aV 2) AM))) (Ak 6))
   (Dx 3 HJ (AB (Ap (AB (AN 2 Bw (AB (aV 4) (AB (AN 2 FR (AB (aV 6) (AB (AY Ai (aV 0) (aC (.int 0))) AM))) AM))) (AB (aV 6) AM))) AM)))
abbrev IQ:AS:=
 (Aa (EK (sR (AB (jo (aV 0) (jt (aC (.int 1))) jr) (AB (jo (aV 1) (jt (aC (.int 1))) jr) AM))) (HB 2 (Ab (Ak 4) (Ab (Ak 5) BP))) IN)
   (Aq (Ap (AB (AY Ai (aV 0) (aC (.int 0))) (AB (AY Ai (aV 1) (aC (.int 0))) (AB (aV 3) AM))))))
abbrev IP:AS:=
 (Aa (HA (ET AM) 3)
   IQ)
abbrev Gg:AS:=
 (Aa (Aj (AN 2 Bw (AB (AY Ai (aV 1) (aC (.int 0))) (AB (AY Ai (aV 0) (aC (.int 0))) AM))) (Ak 2))
   IP)
def Bs:AF:=An 7 Gg
def KB {Q:PV->Prop}(h:Gg ⟨λ_=>Q .non,Q,λ_=>False,λ_=>False⟩ [some (.val a),some (.val b),none,none,none,none,none]):Bs [a,b] Q:=h
abbrev La:AS:=
 (Aq (G9 (CO (R8 (AB (AY F5 (Hj Ib (AB (aV 0) AM)) (aC (.int 1))) AM)) 1 [0] (Ak 0) Eg (AN 2 Bs (AB (AY Ai (aV 1) (aV 0)) (AB (AY Ai (aV 1) (AY Cc (aV 0) (aC (.int 1)))) AM))))))
def Dc:AF:=An 1 La
def P9 {Q:PV->Prop}(h:La ⟨λ_=>Q .non,Q,λ_=>False,λ_=>False⟩ [some (.val a)]):Dc [a] Q:=h
noncomputable def cz (b e:C4)(x y:Rat):Rat:=(y-x)/(e.1-b.1)
noncomputable def fA (b e:C4)(x y:Rat):Rat:=x-cz b e x y*b.1
noncomputable def qC (b e:C4)(x y:Rat):PV:= .tup [fr (fA b e x y),fr (cz b e x y)]
noncomputable def Ca (b e:C4):PV:= .tup [fr b.1,fr e.1, .lst [qC b e b.2.1 e.2.1,qC b e b.2.2.1 e.2.2.1,qC b e b.2.2.2 e.2.2.2]]
def YO {b e:C4}{y:Rat}(hb:Bd B b.1)(he:Bd B e.1)(hx:Bd B x)(hy:Bd B y)(h:b.1<e.1):Bd (4*B+2) (cz b e x y)/\Bd (6*B+3) (fA b e x y):=by have s:Bd (4*B+2) (cz b e x y):=(Bd.div (!3) (hy.sub hx) (he.sub hb)).mono (!0);exact⟨s,(hx.sub (s.mul hb)).mono (!0)⟩
def hG {f:C4->PV}(a:f=cor\/f=corL)(hb:Ed B b)(he:Ed B e)(h:b.1<e.1)(l:6*B+3<=3900){Q:PV->Prop}(q:Q (Ca b e)):Bs [f b,f e] Q:=by
 obtain⟨c,d⟩:=YO hb.m he.m hb.x he.x h;obtain⟨g,i⟩:=YO hb.m he.m hb.y he.y h;obtain⟨j,k⟩:=YO hb.m he.m hb.z he.z h;have n:e.1-b.1≠0:=!3
 have bs:=he.m.sub hb.m;apply KB;rcases a with rfl|rfl
 .nofun
  exact q
 .nofun
  show jI (.lst [fr b.1,fr b.2.1,fr b.2.2.1,fr b.2.2.2]) (some 1) none _;refine EF ?_;nofun
  show jI (.lst [fr e.1,fr e.2.1,fr e.2.2.1,fr e.2.2.2]) (some 1) none _;refine EF ?_;show Mb (.lst [fr b.2.1,fr b.2.2.1,fr b.2.2.2]) λxs=>Mb (.lst [fr e.2.1,fr e.2.2.1,fr e.2.2.2]) λys=>_;nofun
  exact q
noncomputable def Fg (cs:km C4):km (C4×C4):=cs.zip cs.tail
def lY {cs:km C4}{i:Nat}(h:i+1<cs.length):∃b e,cs[i]? =some b/\cs[i+1]? =some e/\(Fg cs)[i]? =some (b,e):=by refine⟨cs[i],cs[i+1],AAi _,AAi _, ?_⟩;unfold Fg;rw[AGF];refine⟨AAi _, ?_⟩;rw[AGG];exact AAi _
def J5 (a:Gk cs){p:C4×C4}(h:p∈Fg cs):p.1∈cs/\p.2∈cs/\p.1.1<p.2.1:=by obtain⟨i,hi⟩:=List.getElem?_of_mem h;unfold Fg at hi;rw[AGF] at hi;obtain⟨h1,h2⟩:=hi;rw[AGG] at h2;exact⟨ACN h1,ACN h2,TL a h1 h2⟩
def hV (hv:CM cs v)(hc:∀c∈cs,Ed B c)(o:Gk cs)(h2:2<=cs.length)(hl:cs.length<=1000)(r:6*B+3<=3900){Q:PV->Prop}(q:Q (.lst ((Fg cs).map λp=>Ca p.1 p.2))):Dc [v] Q:=by
 obtain⟨f,s,hv⟩:=hv;apply P9;have t:(Fg cs).length=cs.length-1:=by unfold Fg;simp
 have go:∀w:PV,(∀(k:Int) (j:Nat) (c:C4) {R:PV->Prop},k=(j:Int)->cs[j]? =some c->R (f c)->Ai w (.int k) R)->B9 (Ak 0) Eg (AN 2 Bs (AB (AY Ai (aV 1) (aV 0)) (AB (AY Ai (aV 1) (AY Cc (aV 0) (aC (PV.int 1)))) AM))) [none,some (AV.val w)] (λxs=>Q (PV.lst xs)) (rng 0 ((cs.length:Int)-1).toNat) [] :=λw ix=>by
  refine Yz (λi a=>a=((Fg cs).map λp=>Ca p.1 p.2).take i) (λa e=> ?_) (λi hi a R n e=> ?_) rfl
  .rw [e,ADA (by rw[AAT,t];omega)];exact q
  .obtain ⟨b,d,g,l,ep⟩:=lY (cs:=cs) (i:=i) (!0);have m:=n (a ++ [Ca b d]) (by rw[e,List.take_add_one,AAu,ep];rfl);clear n;ac_rfl;refine ix _ i b (!0) g ?_;ac_rfl;refine ix _ (i+1) d (!0) l ?_;ac_rfl;refine hG s (hc b (ACN g)) (hc d (ACN l)) (TL o g l) r ?_;exact m
 rcases hv with rfl|rfl
 .ac_rfl;exact go _ λk j c R hk e h=>Ho hk e h
 .ac_rfl;exact go _ λk j c R hk e h=>Ho hk e h
def fC (hw:aM b w){R:PV->Prop}:(R (fr b.1)->Ai w (.int 0) R)/\(R (fr b.2.1)->Ai w (.int 1) R)/\(R (fr b.2.2)->Ai w (.int 2) R):=by rcases hw with rfl|rfl <;> exact⟨id,id,id⟩
abbrev Fm:=Rat×Rat×Int
def hF (f:Fm)(t:Rat):Prop:=0<f.1+f.2.1*t\/(f.1+f.2.1*t=0/\f.2.2=0)
structure oV (N:Nat) (f:Fm) (p:FS):Prop where
 ok:jf N p
 s:p.s=f.2.2
 ex:∃S:Rat,0<S/\(p.c0:Rat)=f.1*S/\(p.c1:Rat)=f.2.1*S
inductive eF (N:Nat):List Fm->List FS->Prop where
 | nil:eF N [] []
 | cons {f:Fm} {p:FS} {fs:List Fm} {ps:List FS} (h:oV N f p) (t:eF N fs ps):eF N (f::fs) (p::ps)
def oV.sign {N:Nat}(h:oV N f p):(0<p.c1↔0<f.2.1)/\(p.c1<0↔f.2.1<0):=by
 obtain⟨S,c,e,d⟩:=h.ex;have a:0<p.c1↔(0:Rat)<(p.c1:Rat):=by rw[<-ADe,ACS]
 have b:p.c1<0↔(p.c1:Rat)<0:=by rw[<-ADe,ACS]
 rw[a,b,d];refine⟨?_, ?_⟩
 .rw [Rat.mul_comm,AEL c]
 .constructor
  .intro k;have:0<S*(-f.2.1):=!3
   rw[AEL c] at this;grind
  .intro k;have:0<S*(-f.2.1):=AEK c (!3);grind
def oV.turn {N:Nat}(h:oV N f p)(e:f.2.1≠0):f.1+f.2.1*Di p=0:=by
 obtain⟨S,g,b,a⟩:=h.ex;have hs:S≠0:=!3
 have c:(p.c1:Rat)≠0:=by rw[a];intro z;rcases AEM.mp z with z|z <;> contradiction
 have d:p.c1≠0:=by intro z;rw[z] at c;exact c rfl
 have:=(DJ d).2.2;rw[b,a] at this;have:S*(f.1+f.2.1*Di p)=0:=!3
 rcases AEM.mp this with z|z
 .contradiction
 .exact z
def eF.mem {N:Nat}:∀{e:km Fm} {ps:km FS},eF N e ps->(∀p∈ps,∃f∈e,oV N f p)/\(∀f∈e,∃p∈ps,oV N f p)/\ps.length=e.length
 | _,_, .nil=>⟨!2,!2,rfl⟩
 | _,_, .cons h t=>by
   obtain⟨a,b,c⟩:=t.mem;refine⟨λp hp=> ?_,λf d=> ?_,by simp[c]⟩
   .rcases AAO.mp hp with rfl|hp
    .exact ⟨_,!2,h⟩
    .obtain ⟨f,d,k⟩:=a p hp;exact⟨f,by simp[d],k⟩
   .rcases AAO.mp d with rfl|d
    .exact ⟨_,!2,h⟩
    .obtain ⟨p,hp,k⟩:=b f d;exact⟨p,by simp[hp],k⟩
def xV (lo hi p:T3):Prop:=(lo.1<p.1/\p.1<hi.1)/\(lo.2.1<p.2.1/\p.2.1<hi.2.1)/\(lo.2.2<p.2.2/\p.2.2<hi.2.2)
instance (lo hi p:T3):Decidable (xV lo hi p):=by unfold xV;infer_instance
def pj (lo hi:T3)(p:C4×C4)(t:Rat):Prop:=p.1.1<=t/\t<p.2.1/\xV lo hi (inter p.1 p.2 t)
def MkP (lo hi:T3)(p:C4×C4)(m:Rat):Prop:=m=p.1.1\/m=p.2.1\/(p.1.1<m/\m<p.2.1/\((p.1.2.1≠p.2.2.1/\((inter p.1 p.2 m).1=lo.1\/(inter p.1 p.2 m).1=hi.1))\/(p.1.2.2.1≠p.2.2.2.1/\((inter p.1 p.2 m).2.1=lo.2.1\/(inter p.1 p.2 m).2.1=hi.2.1))\/(p.1.2.2.2≠p.2.2.2.2/\((inter p.1 p.2 m).2.2=lo.2.2\/(inter p.1 p.2 m).2.2=hi.2.2))))
def UA {N:Nat}(h:jf N p)(c:p.c1≠0):Bd N (Di p):=by obtain⟨a,b⟩:=Hg h;rw[<-Ye c];exact .divInt (by have:=(DJ c).1;omega) a b
structure eO (N:Nat) (lo hi:T3) (p:C4×C4) (s:BU):Prop where
 ok:DN N s
 fin:∃x,s.2.2=some x/\MkP lo hi p x
 bmk:MkP lo hi p s.1
 sem:∀t,BN s (t,0)=true↔pj lo hi p t
structure Jb (N:Nat) (lo hi:T3) (us:List (C4×C4)) (ss:List BU):Prop where
 ok:∀s∈ss,∃p∈us,eO N lo hi p s
 all:∀p∈us,∀t,pj lo hi p t->∃s∈ss,BN s (t,0)=true
 len:ss.length<=us.length
def Jb.more {N:Nat}{lo hi:T3}(h:Jb N lo hi b ss)(k:eO N lo hi p s):Jb N lo hi (b ++ [p]) (ss ++ [s]):=by
 refine⟨λx hx=> ?_,λq hq t a=> ?_,by have:=h.len;simp;omega⟩
 .rcases AAX.mp hx with hx|hx
  .obtain ⟨q,hq,r⟩:=h.ok x hx;exact⟨q,by simp[hq],r⟩
  .rw [AAw.mp hx];exact⟨p,!2,k⟩
 .rcases AAX.mp hq with hq|hq
  .obtain ⟨x,hx,r⟩:=h.all q hq t a;exact⟨x,by simp[hx],r⟩
  .rw [AAw.mp hq] at a;exact⟨s,!2,(k.sem t).mpr a⟩
def Jb.st {N:Nat}{lo hi:T3}(h:Jb N lo hi a ss):∀s∈ss,DN N s:=λs hs=>let ⟨_,_,k⟩:=h.ok s hs;k.ok
instance{r:AA}{a:km PV->Prop}:Wp (wj r τ a) (r τ λb=>match b with | [.lst xs] =>a (E9 0 xs)|_=>False):=⟨id⟩
def J4 (a b:C4)(r:km C4):Fg (a::b::r)=(a,b)::Fg (b::r):=rfl
theorem Sn:∀{cs:km C4} {l:C4},Gk cs->cs.getLast?=some l->∀c∈cs,c.1<=l.1
 | [],_,_,e,_,_=>by cases e
 | [a],l,_,e,c,hc=>by cases e;rw[AAw.mp hc];exact AFW
 | a::b::r,l,h,e,c,hc=>by
   rw[AEj] at e;have h':=AAU.mp h;have ih:=Sn h'.2 e;rcases AAO.mp hc with rfl|hc
   .have:=h'.1 b (!2);have:=ih b (!2);grind
   .exact ih c hc
noncomputable def vo (k:Int)(c:C4):Rat:=if k % 3=0 then c.2.1 else if k % 3=1 then c.2.2.1 else c.2.2.2
noncomputable def E6 (lo hi:T3):km (Int×Rat):= [(0,lo.1),(1,lo.2.1),(2,lo.2.2),(3,hi.1),(4,hi.2.1),(5,hi.2.2)]
def xR (p:C4×C4)(u:Int×Rat)(m:Rat):Prop:=p.1.1<m/\m<p.2.1/\vo u.1 p.1≠vo u.1 p.2/\vo u.1 p.1+(m-p.1.1)/(p.2.1-p.1.1)*(vo u.1 p.2-vo u.1 p.1)=u.2
structure oQ (W:Nat) (cs:List C4) (us:List (C4×C4)) (lo hi:T3) (p:C4×C4) (ws:List (Int×Rat)) (ms:List Rat):Prop where
 bd:∀m∈ms,Bd W m
 crn:∀c∈cs,c.1∈ms
 ed:∀p∈us,∀u∈E6 lo hi,∀m,xR p u m->m∈ms
 ed2:∀u∈ws,∀m,xR p u m->m∈ms
 len:ms.length<=cs.length+6*us.length+ws.length
def oQ.more {lo hi:T3}(h:oQ W cs b lo hi p d ms)(e:Bd W x)(k:∀m,xR p u m->m=x):oQ W cs b lo hi p (d ++ [u]) (ms ++ [x]):=by
 refine⟨λm a=> ?_,λc hc=>by simp[h.crn c hc],λq hq v hv m a=>by simp[h.ed q hq v hv m a],λv hv m a=> ?_,by have:=h.len;simp;omega⟩
 .rcases AAX.mp a with a|a
  .exact h.bd m a
  .rw [AAw.mp a];exact e
 .rcases AAX.mp hv with hv|hv
  .simp [h.ed2 v hv m a]
  .rw [AAw.mp hv] at a;simp[k m a]
abbrev LZ:AS:=
 (Aq (AN 2 D4 (AB (aV 0) (AB (AN 2 FR (AB (AN 2 Fa (AB (AY Ai (aV 2) (aC (.int 0))) (AB (AY Ai (aV 2) (aC (.int 1))) AM))) (AB (AN 2 Bw (AB (aV 1) (AB (aV 0) AM))) AM))) AM))))
def DZ:AF:=An 3 LZ
def P8 {Q:PV->Prop}(h:LZ ⟨λ_=>Q .non,Q,λ_=>False,λ_=>False⟩ [some (.val a),some (.val b),some (.val c)]):DZ [a,b,c] Q:=h
def sv (p:Int×Int):Rat:=(p.1:Rat)/(p.2:Rat)
def Qm {i:Int}(h:0<i):(0:Rat)<(i:Rat):=by have:=ACS.mpr h;simpa using this
def v9 {a b:Int×Int}(ha:0<a.2)(hb:0<b.2):sv a<sv b↔a.1*b.2<b.1*a.2:=by
 have h1:=Qm ha;have h2:=Qm hb;unfold sv;rw[ADf h1,<-ACS,ACv,ACv];have e:(b.1:Rat)/(b.2:Rat)*(a.2:Rat)=(b.1:Rat)*(a.2:Rat)/(b.2:Rat):=!3
 rw[e,AGI h2]
structure Sz (p:Int×Int):Prop where
 pos:0<p.2
 t:p.1.natAbs<2^8850
 n:p.2.natAbs<2^8850
def Kv (ha:Sz a)(hb:Sz b){Q:PV->Prop}(q:Q (.bl (decide (sv a<sv b)))):Am [MX a,MX b] Q:=by refine⟨MulOk.of ha.t hb.n,MulOk.of hb.t ha.n, ?_⟩;rw[AEg.mpr (v9 ha.pos hb.pos)] at q;exact q
def bq (ha:Sz a)(hb:Sz b){Q:PV->Prop}(q:Q (MX (if sv b<sv a then b else a))):Ez [MX a,MX b] Q:=by
 refine⟨rfl,Kv hb ha ?_⟩;refine GS (b:=decide (sv b<sv a)) (λz=> ?_) (λz=> ?_)
 .rw [AAM (ACH z)] at q;exact q
 .rw [AAL (ACm z)] at q;exact q
def OE (hp:Sz p)(bs:Bd S (sv p))(a:Bd M b)(c:Bd M e)(hM:M<=300)(f:S<=3200){Q:PV->Prop}(q:Q (fr (b+sv p*(e-b)))):DZ [fr b,fr e,MX p] Q:=by
 have d:p.2≠0:=by have:=hp.pos;omega
 have es:Rat.divInt p.1 p.2=sv p:=AEJ ..;have k:=c.sub a;have g:=bs.mul k;apply P8;ac_rfl;refine Db _ _ d (Af hp.n (!1)) _ ?_;rw[es];ac_rfl;exact q
noncomputable def lv (l:Int×Int)(s:Rat):Rat:=(l.1:Rat)+s*((l.2:Rat)-(l.1:Rat))
structure NI (N:Nat) (S:Nat) (us:List (Int×Int)) (lo hi:Int×Int) (h:Int):Prop where
 l:Sz lo
 r:Sz hi
 bl:Bd S (sv lo)
 br:Bd S (sv hi)
 h01:h=0\/h=1
 lo0:0<=sv lo
 hi1:sv hi<=1
 sem:∀s,0<=s->s<1->((∀l∈us,lv l s<N)↔(sv lo<s\/(sv lo=s/\h=1))/\s<sv hi)
def rf:sv (0,1)=0:=!4
def rg:sv (1,1)=1:=!4
def qN {N S:Nat}(a:1<=S):NI N S [] (0,1) (1,1) 1:=by
 refine⟨⟨!1, ?_, ?_⟩,⟨!1, ?_, ?_⟩, ?_, ?_, .inr rfl,by rw[rf];grind,by rw[rg];grind,λs b h1=> ?_⟩
 .exact Af (m:=1) (!1) (!1)
 .exact Af (m:=1) (!1) (!1)
 .exact Af (m:=1) (!1) (!1)
 .exact Af (m:=1) (!1) (!1)
 .rw [rf];exact uB.mono a
 .rw [rg];exact uC.mono a
 .rw [rf,rg];exact⟨λ_=>⟨!3,h1⟩,λ_=>!2⟩
structure R3 (N W:Nat) (l:Int×Int):Prop where
 a:l.1.natAbs<2^8848
 b:l.2.natAbs<2^8848
 n:N<2^8848
 n0:0<N
 ex:∃u v:Rat,Bd W u/\Bd W v/\(l.1:Rat)=u*N/\(l.2:Rat)=v*N
def dz {N:Nat}(h:0<N):(0:Rat)<(N:Rat):=Rat.natCast_pos.mpr h
def Z9 {a b:Int}{k:Nat}(ha:a.natAbs<2^k)(hb:b.natAbs<2^k):(a-b).natAbs<2^(k+1):=aA ha hb
def Jc {a:km (Int×Int)}{l:Int×Int}{P:Int×Int->Prop}:(∀x∈a ++ [l],P x)↔(∀x∈a,P x)/\P l:=by
 constructor
 .intro h;exact⟨λx hx=>h x (by simp[hx]),h l (!2)⟩
 .rintro ⟨h1,h2⟩ x hx;rcases AAX.mp hx with hx|hx
  .exact h1 x hx
  .simp at hx;subst hx;exact h2
def IG (N:Nat):((N:Int):Rat)=(N:Rat):=ADd N
def Xa {N:Nat}(h:R3 N W l)(h1:(N:Int)<=l.1)(h2:l.2<(N:Int)):Sz (l.1-N,l.1-l.2)/\Bd (3*W+3) (sv (l.1-N,l.1-l.2))/\0<=sv (l.1-N,l.1-l.2)/\∀s,lv l s<N↔sv (l.1-N,l.1-l.2)<s:=by
 obtain⟨u,v,d,g,e,f⟩:=h.ex;have k:=dz h.n0;have p2:0<l.1-l.2:=!0
 have m:((N:Rat))<=(l.1:Rat):=by rw[<-IG];exact AFX.mpr h1
 have o:(l.2:Rat)<(N:Rat):=by rw[<-IG];exact ACS.mpr h2
 have es:sv (l.1-N,l.1-l.2)=((l.1:Rat)-N)/((l.1:Rat)-l.2):=by unfold sv;show ((l.1-(N:Int):Int):Rat)/((l.1-l.2:Int):Rat)=_;rw[AEN,AEN,IG]
 have c:(0:Rat)<(l.1:Rat)-l.2:=!3
 have i:u-v≠0:=by
  intro z;have:u=v:=!3
  subst this;grind
 have j:sv (l.1-N,l.1-l.2)=(u-1)/(u-v):=by
  rw[es,e,f];have:u*(N:Rat)-v*N≠0:=by rw[e,f] at c;grind
  have:(N:Rat)≠0:=!3
  grind
 refine⟨⟨p2,Af (Z9 h.a (↑h.n)) (!1),Af (Z9 h.a h.b) (!1)⟩, ?_, ?_,λs=> ?_⟩
 .rw [j];exact((d.sub uC).div i (d.sub g)).mono (!0)
 .rw [es,<-AFY,ADf c];grind
 .rw [es,ADf c];unfold lv;constructor <;> intro z <;> grind
def ZJ {N:Nat}(h:R3 N W l)(h1:l.1<(N:Int))(h2:(N:Int)<l.2):Sz (N-l.1,l.2-l.1)/\Bd (3*W+3) (sv (N-l.1,l.2-l.1))/\sv (N-l.1,l.2-l.1)<=1/\∀s,lv l s<N↔s<sv (N-l.1,l.2-l.1):=by
 obtain⟨u,v,d,g,e,f⟩:=h.ex;have k:=dz h.n0;have p2:0<l.2-l.1:=!0
 have m:(l.1:Rat)<(N:Rat):=by rw[<-IG];exact ACS.mpr h1
 have o:(N:Rat)<(l.2:Rat):=by rw[<-IG];exact ACS.mpr h2
 have es:sv (N-l.1,l.2-l.1)=((N:Rat)-l.1)/((l.2:Rat)-l.1):=by unfold sv;show (((N:Int)-l.1:Int):Rat)/((l.2-l.1:Int):Rat)=_;rw[AEN,AEN,IG]
 have c:(0:Rat)<(l.2:Rat)-l.1:=!3
 have i:v-u≠0:=by
  intro z;have:u=v:=!3
  subst this;grind
 have j:sv (N-l.1,l.2-l.1)=(1-u)/(v-u):=by
  rw[es,e,f];have:v*(N:Rat)-u*N≠0:=by rw[e,f] at c;grind
  have:(N:Rat)≠0:=!3
  grind
 refine⟨⟨p2,Af (Z9 (↑h.n) h.a) (!1),Af (Z9 h.b h.a) (!1)⟩, ?_, ?_,λs=> ?_⟩
 .rw [j];exact((uC.sub d).div i (g.sub d)).mono (!0)
 .rw [es,<-AFY,AGI c];grind
 .rw [es,AGI c];unfold lv;constructor <;> intro z <;> grind
section
variable {N W:Nat}{us:km (Int×Int)}{lo hi l:Int×Int}{h:Int}
def qM (i:NI N (3*W+3) us lo hi h)(o:R3 N W l)(h1:(N:Int)<=l.1)(h2:l.2<(N:Int))(k:¬sv (l.1-N,l.1-l.2)<sv lo):NI N (3*W+3) (us ++ [l]) (l.1-N,l.1-l.2) hi 0:=by
 obtain⟨a,b,c,e⟩:=Xa o h1 h2;refine⟨a,i.r,b,i.br, .inl rfl,c,i.hi1,λs d f=> ?_⟩;rw[Jc,i.sem s d f,e s];constructor
 .rintro ⟨⟨x,y⟩,z⟩;exact⟨.inl z,y⟩
 .rintro ⟨x|⟨_,x⟩,y⟩
  .exact ⟨⟨.inl (!3),y⟩,x⟩
  .cases x
def kb (i:NI N (3*W+3) us lo hi h)(o:R3 N W l)(h1:(N:Int)<=l.1)(h2:l.2<(N:Int))(k:sv (l.1-N,l.1-l.2)<sv lo):NI N (3*W+3) (us ++ [l]) lo hi h:=by
 obtain⟨a,b,c,e⟩:=Xa o h1 h2;refine⟨i.l,i.r,i.bl,i.br,i.h01,i.lo0,i.hi1,λs d f=> ?_⟩;rw[Jc,i.sem s d f,e s];constructor
 .rintro ⟨x,z⟩;exact x
 .rintro ⟨x,y⟩;refine⟨⟨x,y⟩, ?_⟩;rcases x with x|⟨x,_⟩ <;> grind
def ka (i:NI N (3*W+3) us lo hi h)(o:R3 N W l)(h1:l.1<(N:Int))(h2:(N:Int)<l.2):NI N (3*W+3) (us ++ [l]) lo (if sv (N-l.1,l.2-l.1)<sv hi then (N-l.1,l.2-l.1) else hi) h:=by
 obtain⟨a,b,c,e⟩:=ZJ o h1 h2;by_cases k:sv (N-l.1,l.2-l.1)<sv hi
 .rw [AAM k];refine⟨i.l,a,i.bl,b,i.h01,i.lo0,c,λs d f=> ?_⟩;rw[Jc,i.sem s d f,e s];constructor
  .rintro ⟨⟨x,y⟩,z⟩;exact⟨x,z⟩
  .rintro ⟨x,y⟩;exact⟨⟨x,!3⟩,y⟩
 .rw [AAL k];refine⟨i.l,i.r,i.bl,i.br,i.h01,i.lo0,i.hi1,λs d f=> ?_⟩;rw[Jc,i.sem s d f,e s];constructor
  .rintro ⟨x,z⟩;exact x
  .rintro ⟨x,y⟩;exact⟨⟨x,y⟩,!3⟩
def u6 (i:NI N (3*W+3) us lo hi h)(h1:l.1<(N:Int))(h2:¬(N:Int)<l.2):NI N (3*W+3) (us ++ [l]) lo hi h:=by
 have b:(l.1:Rat)<(N:Rat):=by rw[<-IG];exact ACS.mpr h1
 have c:(l.2:Rat)<=(N:Rat):=by rw[<-IG];exact AFX.mpr (!0)
 refine⟨i.l,i.r,i.bl,i.br,i.h01,i.lo0,i.hi1,λs a d=> ?_⟩;rw[Jc,i.sem s a d];constructor
 .rintro ⟨x,z⟩;exact x
 .intro x;refine⟨x, ?_⟩;have y:lv l s=(1-s)*(l.1:Rat)+s*(l.2:Rat):=by unfold lv;grind
  have e:(1-s)*(l.1:Rat)<(1-s)*N:=AGj b (!3);have f:s*(l.2:Rat)<=s*N:=AGJ c a;rw[y];grind
end
abbrev Rh:AS:=
 (Aa (Aj (aV 10) (Ak 1))
   (Aj (aC (.int 0)) (Ak 2)))
abbrev Ri:AS:=
 (Aa (Aj (Ap (AB (AY F5 (aV 8) (aV 6)) (AB (AY F5 (aV 8) (aV 9)) AM))) (Ak 10))
   (Bf (F2 (As (AN 2 Am (AB (aV 10) (AB (aV 1) AM))))) Rh BD))
abbrev Rj:AS:=
 (Aa (Bf (Gm (As (AY uK (aV 8) (aV 6))) (As (AY uK (aV 9) (aV 6)))) (Aq (G9 (ET AM))) BD)
   (Bf (As (AY uK (aV 8) (aV 6))) Ri (Bf (As (AY dR (aV 9) (aV 6))) (Aj (AN 2 Ez (AB (aV 3) (AB (Ap (AB (AY F5 (aV 6) (aV 8)) (AB (AY F5 (aV 9) (aV 8)) AM))) AM))) (Ak 3)) BD)))
abbrev Ro:AS:=
 (Aa (Bf (F2 (As (AN 2 Am (AB (aV 1) (AB (aV 3) AM))))) (Aq (G9 (ET AM))) BD)
   (Aq (G9 (ET (AB (Ap (AB (AN 3 DZ (AB (aV 4) (AB (aV 5) (AB (aV 1) AM)))) (AB (aV 2) (AB (AN 3 DZ (AB (aV 4) (AB (aV 5) (AB (aV 3) AM)))) AM)))) AM)))))
abbrev Rn:AS:=
 (Aa (EK (JL (aV 7)) (HB 2 (Ab (Ak 8) (Ab (Ak 9) BP))) Rj)
   Ro)
abbrev Rm:AS:=
 (Aa (Aj (Ap (AB (aC (.int 1)) (AB (aC (.int 1)) AM))) (Ak 3))
   Rn)
abbrev Rl:AS:=
 (Aa (Aj (aC (.int 1)) (Ak 2))
   Rm)
abbrev Rk:AS:=
 (Aa (Aj (Ap (AB (aC (.int 0)) (AB (aC (.int 1)) AM))) (Ak 1))
   Rl)
abbrev QQ:AS:=
 (Aa (Aj (aV 0) (HB 4 (Ab (Ak 4) (Ab (Ak 5) (Ab (Ak 6) (Ab (Ak 7) BP))))))
   Rk)
def Fz:AF:=An 11 QQ
def V8 {Q:PV->Prop}(h:QQ ⟨λ_=>Q .non,Q,λ_=>False,λ_=>False⟩ [some (.val a),none,none,none,none,none,none,none,none,none,none]):Fz [a] Q:=h
def ZZ (N:Nat)(a:km (Int×Int))(b e m:Rat):Prop:=b<=m/\m<e/\∀l∈a,lv l ((m-b)/(e-b))<N
structure d9 (N:Nat) (lns:List (Int×Int)) (b e:Rat) (B:Nat) (ss:List BU):Prop where
 few:ss.length<=1
 ok:∀s∈ss,DN B s
 fin:∀s∈ss,∃x,s.2.2=some x
 sem:∀m,ss.any (BN · (m,0))=true↔ZZ N lns b e m
def Q6 {N:Nat}{a:km (Int×Int)}{b e:Rat}(h:∀s,0<=s->s<1->¬∀l∈a,lv l s<N)(d:b<e):d9 N a b e B [] :=by
 refine⟨!2,!2,!2,λm=> ?_⟩;refine⟨λz=>by simp at z,λz=> ?_⟩;obtain⟨h1,h2,h3⟩:=z;have c:0<e-b:=!3
 refine absurd h3 (h _ ?_ ?_)
 .rw [<-AFY,ADf c];grind
 .rw [ADf c];grind
def cH {N B:Nat}{b e:Rat}{lo hi:Int×Int}(i:NI N S a lo hi h)(r:b<e)(k:sv lo<sv hi)(c:Bd M b)(j:Bd M e)(t:3*M+S+3<=B):d9 N a b e B [(b+sv lo*(e-b),h,some (b+sv hi*(e-b)))] :=by
 have n:0<e-b:=!3
 have mono:∀{x y:Rat},x<y->b+x*(e-b)<b+y*(e-b):=λ{x y} h=>by have:=AGk h n;grind
 refine⟨!2,λs hs=> ?_,λs hs=> ?_,λm=> ?_⟩
 .simp at hs;subst hs;refine⟨(c.add (i.bl.mul (j.sub c))).mono (!0),i.h01,λx hx=> ?_⟩;cases hx;exact⟨mono k,(c.add (i.br.mul (j.sub c))).mono (!0)⟩
 .simp at hs;subst hs;exact⟨_,rfl⟩
 .obtain ⟨s,rfl⟩:∃s,m=b+s*(e-b):=⟨(m-b)/(e-b),!3⟩;have es:(b+s*(e-b)-b)/(e-b)=s:=!3
  unfold ZZ;rw[es];have l:∀x y:Rat,b+x*(e-b)<b+y*(e-b)↔x<y:=λx y=>by
   refine⟨λz=> ?_,mono⟩;by_cases w:x<y
   .exact w
   .by_cases g:y<x
    .have:=mono g;grind
    .have:x=y:=!3
     subst this;grind
  have o:∀x y:Rat,b+x*(e-b)=b+y*(e-b)↔x=y:=λx y=>by
   refine⟨λz=> ?_,λz=>by rw[z]⟩;by_cases w:x<y
   .have:=mono w;grind
   .by_cases g:y<x
    .have:=mono g;grind
    .grind
  have A: [((b+sv lo*(e-b),h,some (b+sv hi*(e-b))):BU)].any (BN · (b+s*(e-b),0))=true↔(sv lo<s\/(sv lo=s/\h=1))/\s<sv hi:=by
   simp only[ADK,List.any_nil,Bool.or_false,BN,AA7,AEI,ADE,l,o];have:0<h+0↔h=1:=by have:=i.h01;omega
   rw[this]
  rw[A];constructor
  .intro z;have d:0<=s:=by have:=i.lo0;rcases z.1 with y|⟨y,_⟩ <;> grind
   have f:s<1:=by have:=i.hi1;have:=z.2;grind
   refine⟨?_, ?_,(i.sem s d f).mpr z⟩
   .have:=Rat.mul_nonneg d (show 0<=e-b by grind);grind
   .have:=mono f;grind
  .rintro ⟨u,v,p⟩;have d:0<=s:=by rw[<-AFY];intro w;have:=mono w;grind
   have f:s<1:=by have:=(l s 1).mp (!3);exact this
   exact(i.sem s d f).mp p
def Xi {b e:Rat}{N:Nat}{c:km (Int×Int)}(ok:∀l∈c,R3 N W l)(t:b<e)(u:Bd M b)(v:Bd M e)(hM:M<=300)(hW:W<=1050)(hl:c.length<=1000){Q:PV->Prop}(q:∀ss,d9 N c b e (3*M+3*W+6) ss->Q (.lst (ss.map DU))):Fz [.tup [fr b,fr e, .int N, .lst (c.map MX)]] Q:=by
 apply V8;ac_rfl;refine B0 MX (λw vs τ=>∃lo hi h g j d,NI N (3*W+3) w lo hi h/\τ= [some (.val (.tup [fr b,fr e, .int N, .lst (c.map MX)])),some (.val (MX lo)),some (.val (.int h)),some (.val (MX hi)),some (.val (fr b)),some (.val (fr e)),some (.val (.int N)),some (.val (.lst (c.map MX))),g,j,d]) ?_ ?_ ⟨(0,1),(1,1),1,_,_,_,qN (!0),rfl⟩
 .rintro τ ⟨lo,hi,h,g,j,d,i,rfl⟩;ac_rfl;refine Kv i.l i.r ?_;ac_rfl
  .rename_i k;refine q [] (Q6 (λs A C=> ?_) t);rw[i.sem s A C];rintro⟨x,y⟩;rcases x with x|⟨x,_⟩ <;> grind
  .rename_i k;refine OE i.l i.bl u v hM (!0) ?_;ac_rfl;refine OE i.r i.br u v hM (!0) ?_;ac_rfl;exact q _ (cH i t k u v (!0))
 .rintro w l vs D τ R E ⟨lo,hi,h,g,j,d,i,rfl⟩;have o:=ok l (by rw[<-D];simp);have f:∀{lo hi h g j d},NI N (3*W+3) (w ++ [l]) lo hi h->R [some (.val (.tup [fr b,fr e, .int N, .lst (c.map MX)])),some (.val (MX lo)),some (.val (.int h)),some (.val (MX hi)),some (.val (fr b)),some (.val (fr e)),some (.val (.int N)),some (.val (.lst (c.map MX))),g,j,d] :=λ{lo hi h g j d} k=>E _ ⟨lo,hi,h,g,j,d,k,rfl⟩;ac_rfl;all_goals first | (exfalso;omega)|skip
  .rename_i m p;refine q [] (Q6 (λs A C z=> ?_) t);have z:=z l (by rw[<-D];simp);have F:(N:Rat)<=(l.1:Rat):=by rw[<-IG];exact AFX.mpr m
   have G:(N:Rat)<=(l.2:Rat):=by rw[<-IG];exact AFX.mpr p
   have y:lv l s=(1-s)*(l.1:Rat)+s*(l.2:Rat):=by unfold lv;grind
   have H:(1-s)*N<=(1-s)*(l.1:Rat):=AGJ F (!3);have I:s*N<=s*(l.2:Rat):=AGJ G A;rw[y] at z;grind
  .rename_i m p n;obtain⟨a,_,_,_⟩:=Xa o m (!0);refine Kv a i.l ?_;ac_rfl
   .rename_i B;exact f (qM i o m (!0) B)
   .rename_i B;exact f (kb i o m (!0) B)
  .rename_i m p n;obtain⟨a,_,_,_⟩:=ZJ o (!0) n;refine bq i.r a ?_;exact f (ka i o (!0) n)
  .rename_i m p n;exact f (u6 i (!0) n)
abbrev NN:AS:=
 (Aq (AN 1 E4 (AB (G9 (Nm (JL (AN 3 G5 (AB (aV 0) (AB (aV 1) (AB (aV 2) AM))))) 2 [] (Ak 1) Eg (JL (AN 1 Fz (AB (aV 1) AM))) 1 (Ak 0) Eg (aV 0))) AM)))
def E5:AF:=An 3 NN
def Te {Q:PV->Prop}(h:NN ⟨λ_=>Q .non,Q,λ_=>False,λ_=>False⟩ [some (.val a),some (.val b),some (.val c)]):E5 [a,b,c] Q:=h
def MR:absR x<1↔x<1/\ -x<1:=by unfold absR;split <;> grind
def fW:j7 o<1↔absR o.1<1/\absR o.2.1<1/\absR o.2.2<1:=by
 unfold j7 mx;repeat' split
 all_goals grind
def JF {N:Nat}{u v:Rat}(a:0<N)(h1:u.den ∣ N)(h2:v.den ∣ N):(lv (C5 N u,C5 N v) s<N↔u+s*(v-u)<1)/\(lv (-C5 N u, -C5 N v) s<N↔ -(u+s*(v-u))<1):=by
 have b:=dz a;have c:lv (C5 N u,C5 N v) s=(u+s*(v-u))*N:=by unfold lv;show ((C5 N u:Int):Rat)+s*(((C5 N v:Int):Rat)-((C5 N u:Int):Rat))=_;rw[Dr h1,Dr h2];grind
 have d:lv (-C5 N u, -C5 N v) s= -(u+s*(v-u))*N:=by unfold lv;show ((-C5 N u:Int):Rat)+s*(((-C5 N v:Int):Rat)-((-C5 N u:Int):Rat))=_;rw[AEr,AEr,Dr h1,Dr h2];grind
 have key:∀x:Rat,x*N<N↔x<1:=λx=>by
  constructor
  .intro z;by_cases w:x<1
   .exact w
   .have:=Rat.mul_le_mul_of_nonneg_right (show 1<=x by grind) (show (0:Rat)<=N by grind);grind
  .intro z;have:=AGk z b;grind
 rw[c,d,key,key];exact⟨Iff.rfl,Iff.rfl⟩
def Tv {p:Pc}(a:Dw W p.o0)(h1:Dw W p.o1):0<p.N/\(∀x∈p.six,x.den ∣ p.N)/\p.N<2^(6*W+1):=Fo 6 p.six rfl (ib a h1)
def ZV {p:Pc}(r:Dw W p.o0)(h1:Dw W p.o1)(s:Rat):(∀l∈p.lns,lv l s<p.N)↔j7 (lin p.o0 p.o1 s)<1:=by
 obtain⟨g,h,_⟩:=Tv r h1;have i:=h p.o0.1 (by simp[Pc.six]);have j:=h p.o0.2.1 (by simp[Pc.six]);have k:=h p.o0.2.2 (by simp[Pc.six]);have m:=h p.o1.1 (by simp[Pc.six]);have n:=h p.o1.2.1 (by simp[Pc.six]);have o:=h p.o1.2.2 (by simp[Pc.six]);rw[fW,MR,MR,MR];unfold Pc.lns lin;simp only[AAO,AA8,ABA,forall_eq_or_imp,forall_eq];rw[(JF g i m).1,(JF g i m).2,(JF g j n).1,(JF g j n).2,(JF g k o).1,(JF g k o).2];constructor
 .rintro ⟨a,b,c,d,e,f⟩;exact⟨⟨a,b⟩,⟨c,d⟩,e,f⟩
 .rintro ⟨⟨a,b⟩,⟨c,d⟩,e,f⟩;exact⟨a,b,c,d,e,f⟩
def iP {N:Nat}(a:Bd W r)(hN:N<2^(6*W+1)):(C5 N r).natAbs<2^(W+(6*W+1)):=B2 a.top (Y8 hN)
def qD {p:Pc}(b:Dw W p.o0)(h1:Dw W p.o1)(hW:W<=1200):∀l∈p.lns,R3 p.N W l:=by
 obtain⟨d,a,c⟩:=Tv b h1;have one:∀{u v:Rat},Bd W u->Bd W v->u.den ∣ p.N->v.den ∣ p.N->R3 p.N W (C5 p.N u,C5 p.N v)/\R3 p.N W (-C5 p.N u, -C5 p.N v):=λ{u v} bu bv du a=>by
  have e:=iP bu c;have f:=iP bv c;have g:=Af (n:=8848) c (!0);refine⟨⟨Af e (!0),Af f (!0),g,d,u,v,bu,bv,Dr du,Dr a⟩,⟨Af (by rw[ACl];exact e) (!0),Af (by rw[ACl];exact f) (!0),g,d, -u, -v,bu.neg,bv.neg, ?_, ?_⟩⟩
  .show ((-C5 p.N u:Int):Rat)=_;rw[AEr,Dr du];grind
  .show ((-C5 p.N v:Int):Rat)=_;rw[AEr,Dr a];grind
 have h:=one b.x h1.x (a _ (by simp[Pc.six])) (a _ (by simp[Pc.six]));have i:=one b.y h1.y (a _ (by simp[Pc.six])) (a _ (by simp[Pc.six]));have j:=one b.z h1.z (a _ (by simp[Pc.six])) (a _ (by simp[Pc.six]));intro l hl;simp only[Pc.lns,AAO,AA8,ABA] at hl;rcases hl with rfl|rfl|rfl|rfl|rfl|rfl
 .exact h.1
 .exact h.2
 .exact i.1
 .exact i.2
 .exact j.1
 .exact j.2
def ko {p q a b:T3}{s:Rat}:P3 (lin p q s) (lin a b s) d=lin (P3 p a d) (P3 q b d) s:=by
 unfold P3 lin;simp only[ADZ];congr 1
 .grind
 .congr 1 <;> grind
def WX (h:Up ts):∀p∈ts.zip ts.tail,p.1∈ts/\p.2∈ts/\p.1<p.2/\∀x∈ts,¬(p.1<x/\x<p.2):=by
 induction ts with
 | nil=>intro p hp;simp at hp
 | cons a r ih=>
   cases r with
   | nil=>intro p hp;simp at hp
   | cons b r=>
     have h1:=AAU.mp h;intro p hp;simp only[List.tail_cons,List.zip_cons_cons,AAO] at hp;rcases hp with rfl|hp
     .refine ⟨!2,!2,h1.1 b (!2),λx hx z=> ?_⟩;rcases AAO.mp hx with rfl|hx
      .grind
      .rcases AAO.mp hx with rfl|hx
       .grind
       .have:=(AAU.mp h1.2).1 x hx;grind
     .obtain ⟨c,d,e,f⟩:=ih h1.2 p hp;refine⟨by simp[c],by simp[d],e,λx hx z=> ?_⟩;rcases AAO.mp hx with rfl|hx
      .have:=h1.1 p.1 c;grind
      .exact f x hx z
theorem RO:∀{ts:km Rat} {m:Rat} {a z:Rat},Up ts->ts.head?=some a->ts.getLast?=some z->a<=m->m<z->∃p∈ts.zip ts.tail,p.1<=m/\m<p.2
 | [],_,_,_,_,h,_,_,_=>by cases h
 | [a],m,_,_,_,h1,h2,h3,h4=>by simp at h1 h2;subst h1 h2;grind
 | a::b::r,m,x,z,h,h1,h2,h3,h4=>by
   simp at h1;subst h1;by_cases k:m<b
   .exact ⟨(a,b),!2,h3,k⟩
   .obtain ⟨p,hp,q⟩:=RO (m:=m) (a:=b) (z:=z) (AAU.mp h).2 rfl (by simpa[AEj] using h2) (!3) h4;exact⟨p,by simp only[List.tail_cons,List.zip_cons_cons,AAO];exact .inr (↑hp),q⟩
section
variable {cs ds:km C4}{d:Rat×Rat}{M W:Nat}
structure xh (cs ds:List C4) (d:Rat×Rat) (M W:Nat) (p:Pc):Prop where
 lt:p.b<p.e
 w0:Dw W p.o0
 w1:Dw W p.o1
 bb:Bd M p.b
 be:Bd M p.e
 lo:Cg cs ds<=p.b
 hi:p.e<=CZ cs ds
 at0:p.o0=KM cs ds d p.b
 xp:p.o1=KM cs ds d p.e
 lin:∀m,p.b<=m->m<=p.e->KM cs ds d m=lin p.o0 p.o1 ((m-p.b)/(p.e-p.b))
theorem JJ.pc (D:JJ cs ds d M W):∀p∈Vu cs ds d,xh cs ds d M W p:=by
 intro p hp;unfold Vu at hp;by_cases h:Cg cs ds<CZ cs ds
 .rw [AAM h] at hp;have e:=D.tog h;have j:∀x∈PD cs ds,Cg cs ds<=x/\x<=CZ cs ds:=λx hx=>FI h hx;have k:∀x∈PD cs ds,Bd M x:=λx hx=>O1 D.m1 D.m2 D.begB D.endB hx;have l:∀x∈PD cs ds,Dw W (KM cs ds d x):=D.w h;unfold OO at hp;obtain⟨q,hq,rfl⟩:=AAS.mp hp;obtain⟨f,g,i,s⟩:=WX GD q hq;have a:=j _ f;have b:=j _ g;refine⟨i,l _ f,l _ g,k _ f,k _ g,a.1,b.2,rfl,rfl,λm m1 m2=> ?_⟩;have m1:q.1<=m:=m1;have m2:m<=q.2:=m2;have n:∀c,c∈cs\/c∈ds->¬(q.1<c.1/\c.1<q.2):=λc hc z=>by refine s c.1 (Eu.mpr (.inr (.inr ⟨!3,!3,c,hc,rfl⟩))) z
  obtain⟨v,o⟩:=e.one q.1 a.1 a.2;obtain⟨y,r⟩:=e.one q.2 b.1 b.2;obtain⟨t1,f1⟩:=e.other q.1 a.1 a.2;obtain⟨t2,f2⟩:=e.other q.2 b.1 b.2;have t:=RG D.r1 i m1 m2 (λc hc=>n c (.inl hc)) o r;have u:=RG D.r2 i m1 m2 (λc hc=>n c (.inr hc)) f1 f2;show KM cs ds d m=PL.lin (KM cs ds d q.1) (KM cs ds d q.2) ((m-q.1)/(q.2-q.1));unfold KM;rw[t,u,o,r,f1,f2];exact ko
 .rw [AAL h] at hp;cases hp
theorem m8 (h:Cg cs ds<CZ cs ds):(PD cs ds).head?=some (Cg cs ds):=by
 have b:Cg cs ds∈PD cs ds:=Eu.mpr (.inl rfl);have hs:Up (PD cs ds):=GD;have hi:∀x∈PD cs ds,Cg cs ds<=x:=λx hx=>(FI h hx).1;generalize PD cs ds=ts at *;cases ts with
 | nil=>cases b
 | cons a r=>
   rcases AAO.mp b with e|e
   .rw [e];rfl
   .have:=(AAU.mp hs).1 _ e;have:=hi a (!2);grind
theorem m9 (h:Cg cs ds<CZ cs ds):(PD cs ds).getLast?=some (CZ cs ds):=by
 have b:CZ cs ds∈PD cs ds:=Eu.mpr (.inr (.inl rfl));have hs:Up (PD cs ds):=GD;have hi:∀x∈PD cs ds,x<=CZ cs ds:=λx hx=>(FI h hx).2;generalize PD cs ds=ts at *;obtain⟨l,a⟩:∃l,ts.getLast?=some l:=⟨_,AFR (by intro z;subst z;cases b)⟩;rw[a];have f:=hi l (ADN a);obtain⟨i,c,e⟩:=List.mem_iff_getElem.mp b;rw[AGW] at a;obtain⟨hl,a⟩:=AB8.mp a;by_cases k:i=ts.length-1
 .subst k;rw[<-e,<-a]
 .have:=AGX.mp hs i (ts.length-1) c hl (!0);rw[e,a] at this;grind
theorem JJ.cover (D:JJ cs ds d M W){m:Rat}(h1:Cg cs ds<=m)(h2:m<CZ cs ds):∃p∈Vu cs ds d,p.b<=m/\m<p.e:=by
 have h:Cg cs ds<CZ cs ds:=!3
 unfold Vu;rw[AAM h];obtain⟨p,hp,k⟩:=RO GD (m8 h) (m9 h) h1 h2;exact⟨_,AAS.mpr ⟨p,hp,rfl⟩,k⟩
def HK (cs ds:km C4)(d:Rat×Rat)(m:Rat):Prop:=Cg cs ds<=m/\m<CZ cs ds/\j7 (KM cs ds d m)<1
instance :Decidable (HK cs ds d m):=by unfold HK;infer_instance
theorem JJ.near_iff (D:JJ cs ds d M W):(∃p∈Vu cs ds d,ZZ p.N p.lns p.b p.e m)↔HK cs ds d m:=by
 constructor
 .rintro ⟨p,hp,h1,h2,h3⟩;have o:=D.pc p hp;have lo:=o.lo;have hi:=o.hi;rw[ZV o.w0 o.w1,<-o.lin m h1 (!3)] at h3;exact⟨!3,!3,h3⟩
 .rintro ⟨h1,h2,h3⟩;obtain⟨p,hp,a,c⟩:=D.cover h1 h2;have o:=D.pc p hp;refine⟨p,hp,a,c, ?_⟩;rw[ZV o.w0 o.w1,<-o.lin m a (!3)];exact h3
theorem lJ (D:JJ cs ds d M W):(Vu cs ds d).length<=201:=by
 have h1:=D.f1;have h2:=D.f2;unfold Vu;split
 .rw [TC];have:=RK (cs:=cs) (ds:=ds) (b:=Cg cs ds) (e:=CZ cs ds);unfold PD;omega
 .simp
structure d8 (cs ds:List C4) (d:Rat×Rat) (B:Nat) (ss:List BU):Prop where
 few:ss.length<=201
 ok:∀s∈ss,DN B s
 fin:∀s∈ss,∃x,s.2.2=some x
 sem:∀m,ss.any (BN · (m,0))=true↔HK cs ds d m
 pf:ss.length<=(Vu cs ds d).length
theorem kS {p:Pc}:p.lns.length=6:=rfl
theorem WR (D:JJ cs ds d M W)(hv:CM cs v)(hw:CM ds w)(hu:Mo d u){Q:PV->Prop}(q:∀ss,d8 cs ds d (3*M+3*W+6) ss->Q (.tup ((canon 1 ss).map DU))):E5 [v,w,u] Q:=by
 have hM:=D.hM;have hW:=D.hW;have j:=lJ D;apply Te;ac_rfl;refine cZ D hv hw hu ?_;ac_rfl;refine Uu (λr c=>∃f a ss,f++a=Vu cs ds d/\r=a.map vD/\c=ss.map DU/\ss.length<=f.length/\(∀s∈ss,DN (3*M+3*W+6) s)/\(∀s∈ss,∃x,s.2.2=some x)/\∀m,ss.any (BN · (m,0))=true↔∃p∈f,ZZ p.N p.lns p.b p.e m) ?_ ?_ _ _ ⟨[],_, [],rfl,rfl,rfl,!2,!2,!2,!2⟩
 .rintro c ⟨f,a,ss,e,g,rfl,h1,h2,h3,i⟩;have:a= [] :=by cases a with | nil=>rfl|cons _ _=>cases g
  subst this;rw[AEU] at e;subst e;ac_rfl;refine WQ (.inr rfl) (cm ss) h2 (!0) (!0) ?_;exact q ss ⟨!0,h2,h3,λm=>by rw[i,D.near_iff],h1⟩
 .rintro y r c R k ⟨f,a,ss,e,g,rfl,h1,h2,h3,i⟩;cases a with
  | nil=>cases g
  | cons p a=>
    cases g;have l:p∈Vu cs ds d:=by rw[<-e];simp
    have ul:f.length+1<=201:=by rw[<-e] at j;simp at j;omega
    have o:=D.pc p l;nofun
    refine Xi (qD o.w0 o.w1 (!0)) o.lt o.bb o.be (!0) hW (by rw[kS];decide) λn h=> ?_;have t:=h.few;nofun
    refine fH _ _ (k _ ⟨f ++ [p],a,ss++n,↑e,rfl,by rw[AAv],by simp;omega,λs hs=> ?_,λs hs=> ?_,λm=> ?_⟩)
    .rcases AAX.mp hs with hs|hs
     .exact h2 s hs
     .exact h.ok s hs
    .rcases AAX.mp hs with hs|hs
     .exact h3 s hs
     .exact h.fin s hs
    .rw [List.any_append,AEI,i,h.sem];constructor
     .rintro (⟨x,hx,z⟩|z)
      .exact ⟨x,by simp[hx],z⟩
      .exact ⟨p,!2,z⟩
     .rintro ⟨x,hx,z⟩;rcases AAX.mp hx with hx|hx
      .exact .inl ⟨x,hx,z⟩
      .simp at hx;subst hx;exact .inr z
end
def kC {ss:km BU}(a:∀s∈ss,∃x,s.2.2=some x)(k:Rat):∃m,k<m/\ss.any (BN · (m,0))=false:=by
 induction ss with
 | nil=>exact⟨k+1,!3,rfl⟩
 | cons s ss ih=>
   obtain⟨x,hx⟩:=a s (!2);have c:∀(b:km BU),(∀s∈b,∃x,s.2.2=some x)->∃n:Rat,k<n/\∀s∈b,∀x,s.2.2=some x->x<n:=by
    intro b;induction b with
    | nil=>intro _;exact⟨k+1,!3,!2⟩
    | cons t b d=>
      intro e;obtain⟨n,h1,h2⟩:=d λs hs=>e s (by simp[hs]);obtain⟨y,hy⟩:=e t (!2);by_cases z:y<n
      .refine ⟨n,h1,λs hs x hx=> ?_⟩;rcases AAO.mp hs with rfl|hs
       .rw [hy] at hx;cases hx;exact z
       .exact h2 s hs x hx
      .refine ⟨y+1,!3,λs hs x hx=> ?_⟩;rcases AAO.mp hs with rfl|hs
       .rw [hy] at hx;cases hx;grind
       .have:=h2 s hs x hx;grind
   obtain⟨n,h1,h2⟩:=c (s::ss) a;refine⟨n,h1, ?_⟩;rw[AFU];intro t f z;obtain⟨y,hy⟩:=a t f;have:=h2 t f y hy;unfold BN at z;rw[hy] at z;simp at z;grind
def aq {ss:km BU}(ok:∀s∈ss,DN B s)(a:∀s∈ss,∃x,s.2.2=some x):∀r∈canon 1 ss,∃x,r.2.2=some x:=by
 intro r b;cases e:r.2.2 with
 | some x=>exact⟨x,rfl⟩
 | none=> exfalso;obtain⟨m,h1,h2⟩:=kC a r.1;rw[<-Us ok (p:=(m,0)) (.inl rfl)] at h2;rw[AFU] at h2;refine h2 r b ?_;unfold BN;rw[e];simp;exact .inl h1
structure Told (P:Rat->Prop) (B:Nat) (cc:List BU):Prop where
 ok:∀s∈cc,DN B s
 fin:∀s∈cc,∃x,s.2.2=some x
 few:cc.length<=2000
 sem:∀m,cc.any (BN · (m,0))=true↔P m
def d8.told (n:d8 cs ds d B ss):Told (HK cs ds d) B (canon 1 ss):=
 ⟨fF n.ok,aq n.ok n.fin,by have:=W0 (n:=1) (ss:=ss);have:=n.few;omega,λm=>by rw[Us n.ok (p:=(m,0)) (.inl rfl)];exact n.sem m⟩
def cj {s:BU}(h:s.2.2=some x):DU s= .tup [fr s.1, .int s.2.1,fr x] :=by unfold DU;rw[h];rfl
abbrev QH:AS:=
 (Aa (EK (JL (aV 0)) (HB 3 (Ab (Ak 2) (Ab (Ak 3) (Ab (Ak 4) BP)))) (Bf (Gm (As (AN 2 Am (AB (aV 1) (AB (aV 4) AM)))) (R6 (As (AN 2 Am (AB (aV 2) (AB (aV 1) AM)))) (Gm (As (AY O9 (aV 3) (aC (.int 1)))) (As (AY O9 (aV 2) (aV 1)))))) (Aq (aC (.bl true))) BD))
   (Aq (aC (.bl false))))
def Fv:AF:=An 5 QH
def V0 {Q:PV->Prop}(h:QH ⟨λ_=>Q .non,Q,λ_=>False,λ_=>False⟩ [some (.val a),some (.val b),none,none,none]):Fv [a,b] Q:=h
def HG {m:Rat}(os:DN B s)(hx:s.2.2=some x):BN s (m,0)=true↔(s.1<m\/(s.1=m/\s.2.1=1))/\m<x:=by
 unfold BN;rw[hx];have:0<s.2.1+0↔s.2.1=1:=by have:=os.h;omega
 simp only[AA7,AEI,ADE,this]
def bi (t:Told P B a)(o:B<=4000)(bm:Bd 4000 m){Q:PV->Prop}(q:Q (.bl (a.any (BN · (m,0))))):Fv [.tup (a.map DU),fr m] Q:=by
 have n:=t.few;apply V0;ac_rfl;refine B0 DU (λk vs τ=>∃c d f,k.any (BN · (m,0))=false/\τ= [some (.val (.tup (a.map DU))),some (.val (fr m)),c,d,f]) ?_ ?_ ⟨_,_,_,rfl,rfl⟩
 .rintro τ ⟨c,d,f,h,rfl⟩;rw[h] at q;ac_rfl;exact q
 .rintro k s vs e τ R l ⟨c,d,f,h,rfl⟩;have i:s∈a:=by rw[<-e];simp
  obtain⟨x,hx⟩:=t.fin s i;have os:=t.ok s i;have b1:=os.b;have b2:=(os.e x hx).2;have g:BN s (m,0)=true->Q (.bl true):=λz=>by rw[show a.any (BN · (m,0))=true from ADO.mpr ⟨s,i,z⟩] at q;exact q
  have j:BN s (m,0)=false->∀c d f,R [some (.val (.tup (a.map DU))),some (.val (fr m)),c,d,f] :=λz c d f=>l _ ⟨c,d,f,by rw[List.any_append,h];simp[z],rfl⟩;clear l q;rw[cj hx];ac_rfl
  .exact g ((HG os hx).mpr ⟨.inl ‹_›, ‹_›⟩)
  .exact g ((HG os hx).mpr ⟨.inr ⟨‹_›, ‹_›⟩, ‹_›⟩)
  .refine j (AEs.mpr λz=> ?_) _ _ _;have:=(HG os hx).mp z;grind
  .refine j (AEs.mpr λz=> ?_) _ _ _;have:=(HG os hx).mp z;grind
  .refine j (AEs.mpr λz=> ?_) _ _ _;have:=(HG os hx).mp z;grind
def Jb.sem {N:Nat}{lo hi:T3}(h:Jb N lo hi a ss)(m:Rat):ss.any (BN · (m,0))=true↔∃p∈a,pj lo hi p m:=by
 rw[ADO];constructor
 .rintro ⟨s,hs,k⟩;obtain⟨p,hp,o⟩:=h.ok s hs;exact⟨p,hp,(o.sem m).mp k⟩
 .rintro ⟨p,hp,k⟩;exact h.all p hp m k
def Jb.fin {N:Nat}{lo hi:T3}(h:Jb N lo hi a ss):∀s∈ss,∃x,s.2.2=some x:=λs hs=>by obtain⟨p,hp,k⟩:=h.ok s hs;obtain⟨x,hx,_⟩:=k.fin;exact⟨x,hx⟩
end PL
namespace PL
open PySem L2 PyProof.Rows PL.K31
abbrev Fl:=km C4×T3
section
variable {lo hi:T3}{f:Fl}
def Dw.up {m:Nat}{t:T3}(h:Dw n t)(k:n<=m):Dw m t:=⟨h.x.mono k,h.y.mono k,h.z.mono k⟩
end
end PL
namespace PL
open PySem L2 PL PyProof.Rows
abbrev NK:AS:=
 (Aa (Aj (Ap (AB (Ap (AB (AN 1 CG (AB (AY Ai (aV 3) (aC (.int 0))) AM)) (AB (aC (.tup [(.int 1),(.int 1)])) (AB (aC (.tup [(.int 0),(.int 1)])) AM)))) (AB (Ap (AB (AY Ai (aV 3) (aC (.int 1))) (AB (aC (.tup [(.int (-1)),(.int 1)])) (AB (aC (.tup [(.int 0),(.int 1)])) AM)))) (AB (Ap (AB (AN 1 CG (AB (AY Ai (aV 4) (aC (.int 0))) AM)) (AB (aC (.tup [(.int 0),(.int 1)])) (AB (aC (.tup [(.int 1),(.int 1)])) AM)))) (AB (Ap (AB (AY Ai (aV 4) (aC (.int 1))) (AB (aC (.tup [(.int 0),(.int 1)])) (AB (aC (.tup [(.int (-1)),(.int 1)])) AM)))) (AB (Ap (AB (AY Ai (aV 6) (aC (.int 0))) (AB (aC (.tup [(.int 1),(.int 1)])) (AB (aC (.tup [(.int (-1)),(.int 1)])) AM)))) (AB (Ap (AB (AY Ai (aV 6) (aC (.int 1))) (AB (aC (.tup [(.int (-1)),(.int 1)])) (AB (aC (.tup [(.int 1),(.int 1)])) AM)))) AM))))))) (Ak 2))
   (Aq (AY Ai (aV 2) (aV 1))))
abbrev Ld:AS:=
 (Aa (Aj (aV 0) (HB 4 (Ab (Ak 3) (Ab (Ak 4) (Ab (Ak 5) (Ab (Ak 6) BP))))))
   NK)
def EJ:AF:=An 7 Ld
def QA {Q:PV->Prop}(h:Ld ⟨λ_=>Q .non,Q,λ_=>False,λ_=>False⟩ [some (.val a),some (.val b),none,none,none,none,none]):EJ [a,b] Q:=h
abbrev NF:AS:=
 (Aa (Bf (As (AY O9 (AY bB (aV 1) (aC (.int 2))) (aC (.int 0)))) (Aq (Ap (AB (AN 2 Bw (AB (AY Ai (aV 6) (aV 2)) (AB (aV 3) AM))) (AB (AN 1 CG (AB (aV 9) AM)) (AB (aV 11) AM))))) BD)
   (Aq (Ap (AB (AN 2 D4 (AB (AY Ai (aV 6) (aV 2)) (AB (aV 3) AM))) (AB (aV 9) (AB (AN 1 CG (AB (aV 11) AM)) AM))))))
abbrev NE:AS:=
 (Aa (Aj (AN 2 Bw (AB (aV 8) (AB (aV 10) AM))) (Ak 3))
   NF)
abbrev ND:AS:=
 (Aa (Aj (AY Ai (AY Ai (aV 5) (aC (.int 2))) (aV 2)) (HB 2 (Ab (Ak 10) (Ab (Ak 11) BP))))
   NE)
abbrev NC:AS:=
 (Aa (Aj (AY Ai (AY Ai (aV 4) (aC (.int 2))) (aV 2)) (HB 2 (Ab (Ak 8) (Ab (Ak 9) BP))))
   ND)
abbrev NA:AS:=
 (Aa (Aj (AY MC (AY F5 (aV 1) (aC (.int 6))) (aC (.int 2))) (Ak 2))
   NC)
abbrev Lc:AS:=
 (Aa (Aj (aV 0) (HB 4 (Ab (Ak 4) (Ab (Ak 5) (Ab (Ak 6) (Ab (Ak 7) BP))))))
   NA)
def BO:AF:=An 12 Lc
def CW {Q:PV->Prop}(h:Lc ⟨λ_=>Q .non,Q,λ_=>False,λ_=>False⟩ [some (.val a),some (.val b),none,none,none,none,none,none,none,none,none,none]):BO [a,b] Q:=h
abbrev QK:AS:=
 (Aq (jl (As (AY bA (aV 1) (aC (.int 6)))) (AN 2 EJ (AB (aV 0) (AB (aV 1) AM))) (AN 2 BO (AB (aV 0) (AB (aV 1) AM)))))
def Fx:AF:=An 2 QK
def V3 {Q:PV->Prop}(h:QK ⟨λ_=>Q .non,Q,λ_=>False,λ_=>False⟩ [some (.val a),some (.val b)]):Fx [a,b] Q:=h
abbrev Uc:AS:=
 (Aa (om 3 (aV 1) (aC (.int 0)))
   (Aq (Ap (AB (Hj DP (AB (aV 3) AM)) (AB (AY Ai (aV 0) (aC (.int 1))) (AB (AY Ai (aV 0) (aC (.int 2))) AM))))))
abbrev Ub:AS:=
 (Aa (nL 3 (aC (.int 0)) (AY C6 (AY Ai (AY Ai (aV 0) (aC (.int 0))) (aV 1)) (aV 4)))
   Uc)
abbrev Ua:AS:=
 (Aa (HA (CO (JL (AY Ai (aV 0) (aC (.int 0)))) 1 [5] (Ak 0) Eg (AY C6 (aV 1) (aV 0))) 3)
   Ub)
abbrev UZ:AS:=
 (Aa (Aj (aV 2) (HB 2 (Ab (Ak 4) (Ab (Ak 5) BP))))
   Ua)
def EI:AF:=An 6 UZ
def OY {Q:PV->Prop}(h:UZ ⟨λ_=>Q .non,Q,λ_=>False,λ_=>False⟩ [some (.val a),some (.val b),some (.val c),none,none,none]):EI [a,b,c] Q:=h
abbrev JT:AS:=
 (Aa (EK (uA (aV 0)) (Ak 2) (Aj (AN 2 Fw (AB (aV 2) (AB (aV 1) AM))) (Ak 1)))
   (Aq (Hj DP (AB (G9 (CO (JL (Hj fV (AB (aV 0) AM))) 1 [1,0] (Ak 0) Eg (Ap (AB (aV 0) (AB (AN 1 Hi (AB (AY MC (aGk (aV 2) (aV 0)) (aV 1)) AM)) AM))))) AM))))
abbrev Gw:AS:=
 (Aa (Aj (aC (.int 0)) (Ak 1))
   JT)
def Co:AF:=An 3 Gw
def LD {Q:PV->Prop}(h:Gw ⟨λ_=>Q .non,Q,λ_=>False,λ_=>False⟩ [some (.val a),none,none]):Co [a] Q:=h
abbrev NO:AS:=
 (Aa (Aj (AN 2 E3 (AB (aV 0) (AB (aV 1) AM))) (HB 3 (Ab (Ak 2) (Ab (Ak 3) (Ab (Ak 4) BP)))))
   (Aq (AN 2 GK (AB (AN 2 D4 (AB (aV 2) (AB (aV 4) AM))) (AB (AN 1 Hi (AB (aC (.int 2)) AM)) AM)))))
def Cp:AF:=An 5 NO
def Tf {Q:PV->Prop}(h:NO ⟨λ_=>Q .non,Q,λ_=>False,λ_=>False⟩ [some (.val a),some (.val b),none,none,none]):Cp [a,b] Q:=h
abbrev Gy:AS:=
 (Aa (Bf (F2 (As (AN 2 Am (AB (AY Ai (aV 2) (aC (.int 0))) (AB (AN 2 D4 (AB (AY Ai (aV 1) (aC (.int 1))) (AB (AY Ai (aV 4) (aC (.int 0))) AM))) AM))))) (Aq (Ap (AB (Ap (AB (aC (.int 1)) (AB (aC (.tup [(.int 1),(.int 1)])) AM))) (AB (Ap (AB (aC (.int 2)) (AB (aC (.tup [(.int 1),(.int 1)])) AM))) (AB (Ap (AB (aC (.int 4)) (AB (aC (.tup [(.int 1),(.int 1)])) AM))) AM))))) BD)
   (Aq (aC .non)))
abbrev Gx:AS:=
 (Aa (Bf (F2 (As (AN 2 Am (AB (AY Ai (aV 1) (aC (.int 0))) (AB (AN 2 D4 (AB (AY Ai (aV 2) (aC (.int 1))) (AB (AY Ai (aV 4) (aC (.int 1))) AM))) AM))))) (Aq (Ap (AB (Ap (AB (aC (.int 0)) (AB (aC (.tup [(.int 1),(.int 1)])) AM))) (AB (Ap (AB (aC (.int 3)) (AB (aC (.tup [(.int 1),(.int 1)])) AM))) (AB (Ap (AB (aC (.int 5)) (AB (aC (.tup [(.int 1),(.int 1)])) AM))) AM))))) BD)
   Gy)
abbrev FO:AS:=
 (Aa (Aj (aV 0) (HB 4 (Ab (Ak 1) (Ab (Ak 2) (Ab (Ak 3) (Ab (Ak 4) BP))))))
   Gx)
def Bx:AF:=An 5 FO
def Hx {Q:PV->Prop}(h:FO ⟨λ_=>Q .non,Q,λ_=>False,λ_=>False⟩ [some (.val a),none,none,none,none]):Bx [a] Q:=h
abbrev Ru:AS:=
 (Aa (EK (JL (aV 3)) (Ak 6) (EK (JL (aV 4)) (Ak 7) (Bf (As (AY fLe (oo (AY Ai (aV 6) (aC (.int 2))) (AY Ai (aV 7) (aC (.int 2)))) (aV 2))) (Dx 5 HJ (AB (AN 3 Eo (AB (aV 6) (AB (aV 7) (AB (aV 1) AM)))) AM)) BD)))
   (Aq (aV 5)))
abbrev Rt:AS:=
 (Aa (HA (CO (JL (aV 0)) 1 [1] (Ak 0) (As (AY O9 (AY Ai (AY Ai (aV 0) (aC (.int 0))) (aV 1)) (aC (.int 0)))) (aV 0)) 5)
   Ru)
abbrev Rs:AS:=
 (Aa (Aj (G9 (CO (JL (aV 0)) 1 [1] (Ak 0) (As (AY bA (AY Ai (AY Ai (aV 0) (aC (.int 0))) (aV 1)) (aC (.int 0)))) (aV 0))) (Ak 4))
   Rt)
abbrev QV:AS:=
 (Aa (Aj (G9 (CO (JL (aV 0)) 1 [1] (Ak 0) (As (AY dR (AY Ai (AY Ai (aV 0) (aC (.int 0))) (aV 1)) (aC (.int 0)))) (aV 0))) (Ak 3))
   Rs)
def Er:AF:=An 8 QV
def WC {Q:PV->Prop}(h:QV ⟨λ_=>Q .non,Q,λ_=>False,λ_=>False⟩ [some (.val a),some (.val b),some (.val c),none,none,none,none,none]):Er [a,b,c] Q:=h
abbrev Re:AS:=
 (Aa (Aj (AN 2 Cp (AB (aV 3) (AB (aC (.int 1)) AM))) (Ak 5))
   (Aq (Ap (AB (Ap (AB (aV 5) (AB (AN 2 Cp (AB (G9 (CO (JL (aV 2)) 1 [5] (Ak 0) Eg (AN 3 EI (AB (aV 0) (AB (aC (.int 1)) (AB (aV 1) AM)))))) (AB (aC (.int 2)) AM))) AM))) (AB (aC .non) AM)))))
abbrev Rc:AS:=
 (Aa (Bf (As (AY Jo (aV 4) (aC .non))) (Aq (Ap (AB (aC .non) (AB (AN 1 Co (AB (AY Ai (aV 4) (aC (.int 2))) AM)) AM)))) BD)
   Re)
abbrev Rb:AS:=
 (Aa (Aj (AN 2 Dz (AB (aV 3) (AB (aC (.int 1)) AM))) (Ak 4))
   Rc)
abbrev Ra:AS:=
 (Aa (Aj (eV 3 Er 2 (AB (aV 2) (AB (aC (.int 2)) AM))) (Ak 3))
   Rb)
abbrev RZ:AS:=
 (Aa (Aj (G9 (CO (R8 (AB (aC (.int 12)) AM)) 1 [0] (Ak 0) Eg (AN 3 E2 (AB (AN 2 Fx (AB (aV 1) (AB (aV 0) AM))) (AB (AY Ai (aC (.tup [(.int 0),(.int 1),(.int 0),(.int 1),(.int 0),(.int 0),(.int 1),(.int 1),(.int 1),(.int 1),(.int 1),(.int 1)])) (aV 0)) (AB (aV 0) AM)))))) (Ak 2))
   Ra)
abbrev RY:AS:=
 (Aa (Bf (As (AY Jo (aV 1) (aC .non))) (Aq (Ap (AB (aC .non) (AB (aV 1) AM)))) BD)
   RZ)
abbrev QO:AS:=
 (Aa (Aj (AN 1 Bx (AB (aV 0) AM)) (Ak 1))
   RY)
def Fy:AF:=An 6 QO
def V6 {Q:PV->Prop}(h:QO ⟨λ_=>Q .non,Q,λ_=>False,λ_=>False⟩ [some (.val a),none,none,none,none,none]):Fy [a] Q:=h
abbrev NU:AS:=
 (Aa (EK (wj (AB (AN 1 Dc (AB (AY Ai (aV 0) (aC (.int 0))) AM)) AM)) (HB 2 (Ab (Ak 7) (Ab (Ak 8) BP))) (EK (wj (AB (aV 5) AM)) (HB 2 (Ab (Ak 9) (Ab (Ak 10) BP))) (Dx 6 HJ (AB (Ap (AB (aV 7) (AB (aV 9) (AB (Ap (AB (aV 8) (AB (aV 10) (AB (aV 3) (AB (aV 4) AM))))) AM)))) AM))))
   (Aq (aV 6)))
abbrev NR:AS:=
 (Aa (HA (ET AM) 6)
   NU)
abbrev NQ:AS:=
 (Aa (Aj (AN 1 Dc (AB (AY Ai (aV 1) (aC (.int 0))) AM)) (Ak 5))
   NR)
abbrev NP:AS:=
 (Aa (Aj (Ap (AB (AY Ai (AY Ai (aV 0) (aC (.int 1))) (aC (.int 2))) (AB (AY Ai (AY Ai (aV 1) (aC (.int 1))) (aC (.int 2))) AM))) (Ak 4))
   NQ)
abbrev Le:AS:=
 (Aa (Aj (AN 3 D5 (AB (aV 0) (AB (aV 1) (AB (aV 2) AM)))) (Ak 3))
   NP)
def De:AF:=An 11 Le
def QC {Q:PV->Prop}(h:Le ⟨λ_=>Q .non,Q,λ_=>False,λ_=>False⟩ [some (.val a),some (.val b),some (.val c),none,none,none,none,none,none,none,none]):De [a,b,c] Q:=h
abbrev L5:AS:=
 (Aa (Bf (As (AY Jo (aV 7) (aC .non))) (Aq (Ap (AB (aC (.str "meet")) (AB (AY Ai (aV 7) (aC (.int 0))) (AB (AY Ai (aV 7) (aC (.int 1))) AM))))) BD)
   (Dx 3 HJ (AB (Ap (AB (aV 4) (AB (aV 5) (AB (aV 8) AM)))) AM)))
abbrev Rf:AS:=
 (Aa (Aj (AN 1 Fy (AB (aV 6) AM)) (HB 2 (Ab (Ak 7) (Ab (Ak 8) BP))))
   L5)
abbrev Rg:AS:=
 (Aa (EK (JL (AN 3 De (AB (aV 0) (AB (aV 1) (AB (aV 2) AM))))) (HB 3 (Ab (Ak 4) (Ab (Ak 5) (Ab (Ak 6) BP)))) Rf)
   (Aq (Ap (AB (aC (.str "apart")) (AB (Hj DP (AB (aV 3) AM)) AM)))))
abbrev QP:AS:=
 (Aa (HA (ET AM) 3)
   Rg)
def DY:AF:=An 9 QP
def V7 {Q:PV->Prop}(h:QP ⟨λ_=>Q .non,Q,λ_=>False,λ_=>False⟩ [some (.val a),some (.val b),some (.val c),none,none,none,none,none,none]):DY [a,b,c] Q:=h
end PL
namespace PL
open PySem L2 PyProof.Rows
def Ww {Q:PV->Prop}(ha:Bd 8800 a)(hb:Bd 8800 b)(h:Q (.bl (decide (a<b)))):Am [fr a,fr b] Q:=by refine⟨.of ha.top hb.botI, .of hb.top ha.botI, ?_⟩;rw[<-nX] at h;exact h
def gg {b:Rat}{Q:PV->Prop}(c:b≠0)(ha:Bd 8000 a)(hb:Bd 100 b)(h:Q (fr (a/b))):GK [fr a,fr b] Q:=by refine⟨.of ha.top hb.botI, .of ha.botI hb.top,rfl,Db _ _ (DR (BY a) (Xj c)) (Af (B2 (a:=(a.den:Int)) ha.botI hb.top) (!0)) _ ?_⟩;rw[IZ] at h;exact h
instance (priority:=high){Q:PV->Prop}:Ws (Am [fr a,fr b] Q) (Bd 8800 a/\Bd 8800 b) (Q (.bl (decide (a<b)))):=⟨λc h=>Ww c.1 c.2 h⟩
structure CH where
 c0:Int
 c1:Int
 c2:Int
 s:Int
 w:List (Int×Int)
noncomputable def Av (p:CH):PV:= .tup [.tup [.int p.c0, .int p.c1, .int p.c2], .int p.s, .dk p.w]
noncomputable def O8 (a:kc):Int:=if a then 2 else 1
noncomputable def CH.pr (a:kc)(p:CH):FS:=⟨p.c0,if a then p.c2 else p.c1,p.s,p.w⟩
structure Bm (N:Nat) (p:CH):Prop where
 a:p.c0.natAbs<2^N
 b:p.c1.natAbs<2^N
 c:p.c2.natAbs<2^N
 w:∀e∈p.w,e.2.natAbs<2^N
 l:p.w.length<=12
 s:p.s=0\/p.s=1
def Bm.pr {N:Nat}(h:Bm N p)(a:kc):jf N (p.pr a):=⟨h.a,by cases a;exact h.b;exact h.c,h.w,h.l,h.s⟩
instance:Ix (Av p) 0 (.tup [.int p.c0, .int p.c1, .int p.c2]):=⟨rfl⟩
instance:Ix (Av p) 1 (.int p.s):=⟨rfl⟩
instance:Ix (Av p) 2 (.dk p.w):=⟨rfl⟩
def HC {p:CH}{Q:PV->Prop}(q:Q (.int (p.pr a).c1)):Ai (.tup [.int p.c0, .int p.c1, .int p.c2]) (.int (O8 a)) Q:=by cases a <;> exact q
noncomputable def v7 (p r:CH)(many more:Int):CH:=⟨many*p.c0+more*r.c0,many*p.c1+more*r.c1,many*p.c2+more*r.c2,max p.s r.s,CK more (Br many p.w) r.w⟩
def mU {N:Nat}{many more:Int}(hp:Bm N p)(f:Bm N r)(h1:many.natAbs<2^N)(h2:more.natAbs<2^N)(hN:N<=10000){Q:PV->Prop}(q:Q (Av (v7 p r many more))):G6 [Av p, .int many,Av r, .int more] Q:=by
 have d:∀x y:Int,x.natAbs<2^N->y.natAbs<2^N->MulOk x y:=λx y a b=> .of a b;have sl:(Br many p.w).length<=p.w.length:=Oj;have g:=hp.l;have h:=f.l;apply YC;nofun
 refine⟨d _ _ h1 hp.a, ?_⟩;nofun
 refine⟨d _ _ h2 f.a, ?_⟩;nofun
 refine⟨d _ _ h1 hp.b, ?_⟩;nofun
 refine⟨d _ _ h2 f.b, ?_⟩;nofun
 refine⟨d _ _ h1 hp.c, ?_⟩;nofun
 refine⟨d _ _ h2 f.c, ?_⟩;nofun
 refine⟨⟨ACC rfl,ACC rfl,ACC rfl⟩, ?_⟩;nofun
 refine⟨many,rfl,OA (n:=12) g (!1),λe he=>d _ _ h1 (hp.w e he), ?_⟩;show AY Ai (aV 2) (aC (.int 2)) [some (AV.val (Av p)),some (AV.val (PV.int many)),some (AV.val (Av r)),some (AV.val (PV.int more)),some (AV.val (PV.tup [PV.int (many*p.c0+more*r.c0),PV.int (many*p.c1+more*r.c1),PV.int (many*p.c2+more*r.c2)])),none,none,none] _;nofun
 refine⟨more,rfl,OA (n:=24) (!0) (!1),λe he=>d _ _ h2 (f.w e he), ?_⟩;simp only[AFJ,AGK];nofun
 exact q
noncomputable def BF (a:kc)(p r:CH):CH:=v7 p r (-(r.pr a).c1) (p.pr a).c1
def Qn {N:Nat}(hp:Bm N p)(c:Bm N r)(hN:N<=10000){Q:PV->Prop}(q:Q (Av (BF a p r))):Eo [Av p,Av r, .int (O8 a)] Q:=by
 apply V2;nofun
 refine HC ?_;nofun
 refine HC ?_;nofun
 exact mU hp c (by rw[ACl];exact(c.pr a).b) (hp.pr a).b hN q
def Q8 {p:CH}(a:kc){Q:PV->Prop}(q:Q (.bl (Hw (p.pr a)))):D1 [Av p] Q:=by
 unfold Hw at q;have b:(p.pr a).c0=p.c0:=rfl;have c:(p.pr a).s=p.s:=rfl;rw[b,c] at q;apply TR;nofun
 .rename_i h;rw[AAl (.inl h)] at q;exact q
 .rename_i h1 h2;rw[show decide (p.c0<0\/p.c0=0/\p.s=1)=decide (p.s=1) by rw[AEg];omega] at q;exact q
 .rename_i h1 h2;rw[AAo (!0)] at q;exact q
def KL {p:CH}{Q:PV->Prop}(q:Q (.tup [.int (Bp (p.pr a)).1, .int (Bp (p.pr a)).2])):Dd [Av p, .int (O8 a)] Q:=by
 unfold Bp at q;have b:(p.pr a).c0=p.c0:=rfl;rw[b] at q;apply WB;nofun
 refine HC ?_;generalize (p.pr a).c1=f at *;nofun
 .rename_i h;rw[AAM h] at q;exact q
 .rename_i h;rw[AAL h] at q;exact q
def WO {N:Nat}(hp:Bm N p)(d:Bm N r)(hN:N<=10000){Q:PV->Prop}(q:Q (.bl (Oz (p.pr a) (r.pr a)))):Dj [Av p,Av r, .int (O8 a)] Q:=by
 obtain⟨b,c⟩:=Hg (hp.pr a);obtain⟨b1,b2⟩:=Hg (d.pr a);unfold Oz at q;apply OX;ac_rfl;refine KL ?_;ac_rfl;refine KL ?_;ac_rfl;refine Nn b c b1 b2 hN ?_;ac_rfl
 .rename_i h;refine HC ?_;ac_rfl;rw[AAM h] at q;exact q
 rename_i h;rw[AAL h] at q;refine Nn b1 b2 b c hN ?_;ac_rfl
 .rename_i h;refine HC ?_;ac_rfl;rw[AAM h] at q;exact q
 .rename_i h;rw[AAL h] at q;exact q
instance{Q:PV->Prop}:Wp (SM (Av p) .non Q) (Q (.bl false)):=⟨id⟩
def TB:ke CH->PV|none=> .non|some p=>Av p
noncomputable def Hf (a:kc)(sg:Int)(o:ke CH)(p:CH):ke CH:=if 0<(p.pr a).c1*sg then (match o with | none=>some p|some r=>if Oz (p.pr a) (r.pr a)=true then some p else some r) else o
noncomputable def Cy (a:kc)(sg:Int)(ps:km CH):ke CH:=ps.foldl (Hf a sg) none
def Yf:(Hf a sg o p).map (CH.pr a)=O0 sg (o.map (CH.pr a)) (p.pr a):=by
 unfold Hf O0;split
 .cases o with
  | none=>rfl
  | some r=>
    show Option.map _ (if Oz (p.pr a) (r.pr a)=true then some p else some r)=if Oz (p.pr a) (r.pr a)=true then some (p.pr a) else some (r.pr a)
    cases Oz (p.pr a) (r.pr a) <;> rfl
 .rfl
def Yc (a:kc)(sg:Int)(b:km CH)(p:CH):Cy a sg (b ++ [p])=Hf a sg (Cy a sg b) p:=by unfold Cy;rw[ADM];rfl
def Yd:(Cy a sg ps).map (CH.pr a)=tight sg (ps.map (CH.pr a)):=by
 have key:∀(ps:km CH) (o:ke CH),(ps.foldl (Hf a sg) o).map (CH.pr a)=(ps.map (CH.pr a)).foldl (O0 sg) (o.map (CH.pr a)):=by
  intro ps;induction ps with
  | nil=>intro o;rfl
  | cons p ps ih=> intro o;rw[ACQ,ih,Yf];rfl
 exact key ps none
def ED:∀{ps:km CH} {r:CH},Cy a sg ps=some r->r∈ps:=by
 have key:∀(ps:km CH) (o:ke CH) (r:CH),ps.foldl (Hf a sg) o=some r->r∈ps\/o=some r:=by
  intro ps;induction ps with
  | nil=>intro o r h;exact .inr h
  | cons p ps ih=>
    intro o r h;rcases ih _ _ h with h|h
    .exact .inl (by simp[h])
    .unfold Hf at h;split at h
     .cases o with
      | none=>cases h;exact .inl (!2)
      | some q=>
        dsimp only at h;split at h
        .cases h;exact .inl (!2)
        .exact .inr h
     .exact .inr h
 intro ps r h;rcases key ps none r h with h|h
 .exact h
 .cases h
def El {v:PV}{ps:km CH}{N:Nat}{sg:Int}(hv:v= .lst (ps.map Av))(h:sg=1\/sg= -1)(ok:∀p∈ps,Bm N p)(hN:N<=10000)(hl:ps.length<=1000){Q:PV->Prop}(q:Q (TB (Cy a sg ps))):Cn [v, .int (O8 a), .int sg] Q:=by
 subst hv;apply Ta;ac_rfl;refine B0 Av (λd vs τ=>∃f,τ= [some (.val (.lst (ps.map Av))),some (.val (.int (O8 a))),some (.val (.int sg)),some (.val (TB (Cy a sg d))),f]) ?_ ?_ ⟨_,rfl⟩
 .rintro τ ⟨f,rfl⟩;ac_rfl;exact q
 .rintro d p vs e τ R g ⟨f,rfl⟩;have i:Bm N p:=ok p (by rw[<-e];simp);have j:∀x∈d,Bm N x:=λx hx=>ok x (by rw[<-e];simp[hx]);have c:=g [some (.val (.lst (ps.map Av))),some (.val (.int (O8 a))),some (.val (.int sg)),some (.val (TB (Cy a sg (d ++ [p])))),some (.val (Av p))] ⟨_,rfl⟩;clear g;rw[Yc] at c;unfold Hf at c;have m1:MulOk (p.pr a).c1 sg:= .of (m:=10000) (n:=10000) (Af (i.pr a).b hN) (Af (m:=1) (!0) (!1));cases hq:Cy a sg d with
  | none=>
    rw[hq] at c;rw[show TB none=PV.non from rfl];ac_rfl;refine HC ?_;ac_rfl
    .rename_i z;rw[AAM z] at c;exact c
    .rename_i z;rw[AAL z] at c;exact c
  | some r=>
    rw[hq] at c;have k:=j r (ED hq);rw[show TB (some r)=Av r from rfl];ac_rfl;refine HC ?_;ac_rfl
    .rename_i z;rw[AAM z] at c;refine WO i k hN ?_;dsimp only at c;cases hb:Oz (p.pr a) (r.pr a) with
     | true=> rw[hb,AAM rfl] at c;ac_rfl;exact c
     | false=> rw[hb,AAL (!1)] at c;ac_rfl;exact c
    .rename_i z;rw[AAL z] at c;exact c
def ci {v:PV}{ps:km CH}{N:Nat}(hv:v= .lst (ps.map Av))(ok:∀p∈ps,Bm N p)(hN:N<=8900)(hl:ps.length<=1000)(b:Cy a 1 ps=some l)(c:Cy a (-1) ps=some h)(c1:(l.pr a).c1≠0)(c2:(h.pr a).c1≠0){Q:PV->Prop}(q:Q (.tup [fr (Di (l.pr a)), .int (1-l.s),fr (Di (h.pr a))])):E3 [v, .int (O8 a)] Q:=by have b1:=Hg ((ok l (ED b)).pr a);have b2:=Hg ((ok h (ED c)).pr a);have t1:=(DJ c1).1;have t2:=(DJ c2).1;rw[<-Ye c1,<-Ye c2] at q;apply TY;ac_rfl;refine El hv (.inl rfl) ok (!0) hl ?_;rw[b,show TB (some l)=Av l from rfl];ac_rfl;refine KL ?_;ac_rfl;refine Db _ _ (!0) (Af b1.2 hN) _ ?_;ac_rfl;refine El hv (.inr rfl) ok (!0) hl ?_;rw[c,show TB (some h)=Av h from rfl];ac_rfl;refine KL ?_;ac_rfl;refine Db _ _ (!0) (Af b2.2 hN) _ ?_;ac_rfl;exact q
def xr:Bd 100 ((2:Int):Rat):=by constructor <;> decide
def RM {v:PV}{ps:km CH}{N:Nat}(hv:v= .lst (ps.map Av))(ok:∀p∈ps,Bm N p)(hN:N<=8900)(hl:ps.length<=1000)(b:Cy a 1 ps=some l)(c:Cy a (-1) ps=some h)(c1:(l.pr a).c1≠0)(c2:(h.pr a).c1≠0)(b1:Bd 3900 (Di (l.pr a)))(b2:Bd 3900 (Di (h.pr a))){Q:PV->Prop}(q:Q (fr ((Di (l.pr a)+Di (h.pr a))/2))):Cp [v, .int (O8 a)] Q:=by apply Tf;ac_rfl;refine ci hv ok hN hl b c c1 c2 ?_;ac_rfl;refine gg (!3) ((b1.add b2).mono (!1)) xr ?_;exact q
def Ux {p:FS}(h:p.c1=0)(t u:Rat):holds p t↔holds p u:=by
 unfold holds OU;rw[h];have e:∀t:Rat,(p.c0:Rat)+((0:Int):Rat)*t=p.c0:=λt=>!3
 rw[e,e]
def Q5 {ps:km FS}(hs:∀p∈ps,p.s=0\/p.s=1)(d:tight 1 ps=some l)(f:tight (-1) ps=some h)(a:∀p∈ps,holds p t0):∀p∈ps,holds p ((Di l+Di h)/2):=by
 have b:=(Dh (.inl rfl) ps.length ps rfl hs).so l d;have c:=(Dh (.inr rfl) ps.length ps rfl hs).so h f;have c1:0<l.c1:=by have:=b.2.1;omega
 have c2:h.c1<0:=by have:=c.2.1;omega
 have j:=(D8 c1 t0).mp (a l b.1);have k:=(DQ c2 t0).mp (a h c.1);by_cases m:Di l<Di h
 .have g:holds l ((Di l+Di h)/2):=(D8 c1 _).mpr (.inl (!3));have i:holds h ((Di l+Di h)/2):=(DQ c2 _).mpr (.inl (!3));intro p hp;rcases AGL p.c1 0 with z|z|z
  .exact c.2.2 p hp (!0) _ i
  .exact (Ux z _ _).mp (a p hp)
  .exact b.2.2 p hp (!0) _ g
 .have e:(Di l+Di h)/2=t0:=!3
  rw[e];exact a
def Lg {l h:FS}(c1:0<l.c1)(c2:h.c1<0)(o:l.s=0\/l.s=1)(r:h.s=0\/h.s=1)(w:km (Int×Int)):Hw ⟨-h.c1*l.c0+l.c1*h.c0, -h.c1*l.c1+l.c1*h.c1,max l.s h.s,w⟩=false↔∃t,holds l t/\holds h t:=by
 have d:(0:Rat)<l.c1:=by exact_mod_cast c1
 have f:(0:Rat) < -(h.c1:Rat):=by
  have:(h.c1:Rat)<0:=by exact_mod_cast c2
  grind
 have i:((-h.c1*l.c0+l.c1*h.c0:Int):Rat)=(l.c1 * -(h.c1:Rat))*(Di h-Di l):=by
  push_cast
  rw[(DJ (p:=l) (!0)).2.2,(DJ (p:=h) (!0)).2.2];grind
 have pos:=AEK d f;have key:Di l<Di h↔0 < -h.c1*l.c0+l.c1*h.c0:=by rw[<-ACS,i,ADe,AEL pos];grind
 have a:Di l=Di h↔ -h.c1*l.c0+l.c1*h.c0=0:=by
  rw[<-AFV,i,ADe,AEM];constructor
  .intro e;right;grind
  .rintro (z|z)
   .grind
   .grind
 unfold Hw;rw[AFZ];dsimp only;constructor
 .intro n;rcases Int.lt_or_eq_of_le (show 0<= -h.c1*l.c0+l.c1*h.c0 by omega) with z|z
  .have j:=key.mpr z;exact⟨(Di l+Di h)/2,(D8 c1 _).mpr (.inl (!3)),(DQ c2 _).mpr (.inl (!3))⟩
  .have g:=a.mpr z.symm;have m0:l.s=0/\h.s=0:=!0
   exact⟨Di l,(D8 c1 _).mpr (.inr ⟨rfl,m0.1⟩),(DQ c2 _).mpr (.inr ⟨g.symm,m0.2⟩)⟩
 .rintro ⟨t,k,m⟩;have b:=(D8 c1 t).mp k;have c:=(DQ c2 t).mp m;by_cases j:Di l<Di h
  .have:=key.mp j;omega
  .have g:Di l=Di h:=!3
   have:=a.mp g;have:l.s=0:=by
    rcases b with b|b
    .exfalso;grind
    .exact b.2
   have:h.s=0:=by
    rcases c with c|c
    .exfalso;grind
    .exact c.2
   omega
def bD {v:PV}{ps:km CH}{N:Nat}(hv:v= .lst (ps.map Av))(ok:∀p∈ps,Bm N p)(hN:N<=10000)(hl:ps.length<=1000)(k:Cy a 1 ps=some l)(m:Cy a (-1) ps=some h){Q:PV->Prop}(s:(∀p∈ps,(p.pr a).c1=0->Hw (p.pr a)=false)->Hw ((BF a l h).pr a)=false->Q .non)(n:∀p,(p∈ps/\(p.pr a).c1=0)\/p=BF a l h->Hw (p.pr a)=true->Q (Av p)):Dz [v, .int (O8 a)] Q:=by
 subst hv;apply TQ;ac_rfl;refine B0 Av (λo vs τ=>(∀p∈o,(p.pr a).c1=0->Hw (p.pr a)=false)/\∃i f g,τ= [some (.val (.lst (ps.map Av))),some (.val (.int (O8 a))),i,f,g]) ?_ ?_ ⟨!2,_,_,_,rfl⟩
 .rintro τ ⟨j,i,f,g,rfl⟩;ac_rfl;refine El rfl (.inr rfl) ok (!0) hl ?_;rw[m,show TB (some h)=Av h from rfl];ac_rfl;refine El rfl (.inl rfl) ok (!0) hl ?_;rw[k,show TB (some l)=Av l from rfl];ac_rfl;refine Qn (ok l (ED k)) (ok h (ED m)) hN ?_;have f1:=n (BF a l h) (.inr rfl);have f2:=s j;generalize BF a l h=b at *;ac_rfl;refine Q8 a ?_;cases c:Hw (b.pr a) with
  | true=> ac_rfl;exact f1 c
  | false=> ac_rfl;exact f2 c
 .rintro o p vs e τ R r ⟨j,i,f,g,rfl⟩;have t:p∈ps:=by rw[<-e];simp
  have d:((p.pr a).c1=0->Hw (p.pr a)=false)->R [some (AV.val (PV.lst (List.map Av ps))),some (AV.val (PV.int (O8 a))),some (AV.val (Av p)),f,g] :=λh=>r _ ⟨λx hx=>by
   rcases AAX.mp hx with hx|hx
   .exact j x hx
   .rw [AAw.mp hx];exact h,_,_,_,rfl⟩
  clear r;ac_rfl;refine HC ?_;ac_rfl
  .rename_i z;refine Q8 a ?_;cases c:Hw (p.pr a) with
   | true=> ac_rfl;exact n p (.inl ⟨t,z⟩) c
   | false=> ac_rfl;exact d λ_=>c
  .rename_i z;exact d λh=>absurd h z
def ga {o:ke Nat}{R:Nat->Prop}(j:Nat)(h:o=some j)(q:R j):wz o R:=by subst h;exact q
noncomputable def DS (a:kc)(r:Rat)(p:CH):CH:=if a then ⟨r.den*p.c0+p.c2*r.num,r.den*p.c1,0,p.s,p.w⟩ else ⟨r.den*p.c0+p.c1*r.num,0,r.den*p.c2,p.s,p.w⟩
def X3 {N:Nat}(hp:Bm N p)(d:Bd M r)(hN:N<=100000)(hM:M<=100000){Q:PV->Prop}(q:Q (Av (DS a r p))):EI [Av p, .int (O8 a),fr r] Q:=by
 have m0:MulOk (r.den:Int) p.c0:= .of d.botI hp.a;have m1:MulOk (r.den:Int) p.c1:= .of d.botI hp.b;have m2:MulOk (r.den:Int) p.c2:= .of d.botI hp.c;have m3:MulOk (p.pr a).c1 r.num:= .of (hp.pr a).b d.top;cases a
 .show EI [Av p, .int 1,fr r] Q;have m3:MulOk p.c1 r.num:=m3;apply OY;nofun
  refine⟨AFT 0,(by show (0:Int)<3;decide), ?_⟩;show AY C6 (AY Ai (AY Ai (aV 0) (aC (PV.int 0))) (aV 1)) (aV 4) _ _;simp only[AFJ,AGK,Int.toNat_zero];nofun
  refine ga 1 (by simp[ZQ]) ?_;show WE _ 3 (AV.own [PV.int (r.den*p.c0+p.c1*r.num),PV.int 0,PV.int (r.den*p.c2)]) _;nofun
  exact q
 .show EI [Av p, .int 2,fr r] Q;have m3:MulOk p.c2 r.num:=m3;apply OY;nofun
  refine⟨AFT 0,(by show (0:Int)<3;decide), ?_⟩;show AY C6 (AY Ai (AY Ai (aV 0) (aC (PV.int 0))) (aV 1)) (aV 4) _ _;simp only[AFJ,AGK,Int.toNat_zero];nofun
  refine ga 2 (by simp[ZQ]) ?_;show WE _ 3 (AV.own [PV.int (r.den*p.c0+p.c2*r.num),PV.int (r.den*p.c1),PV.int 0]) _;nofun
  exact q
def qP (x:PV)(R:Int->Prop):Prop:=match x with | .dk [(i,_)] =>R i|_=>False
instance{i v:Int}{R:Int->Prop}:Wp (qP (.dk [(i,v)]) R) (R i):=⟨id⟩
instance{a b:AE}{Q:PV->Prop}:Wp (oo a b τ Q) (a τ λx=>qP x λi=>b τ λy=>qP y λj=>Q (.int (xC i j))):=⟨id⟩
noncomputable def GC (a:kc)(ps:km CH):km CH:=ps.filter (λp=>decide ((p.pr a).c1=0))++(ps.filter λp=>decide (0<(p.pr a).c1)).flatMap λl=>(ps.filter λp=>decide ((p.pr a).c1<0)).map λh=>BF a l h
def Zd {m:km (Int×Int)}(h:m.length=1):∃i v,m= [(i,v)] :=by
 match m,h with
 | [(i,v)],_=>exact⟨i,v,rfl⟩
def sC (i j:Int):xC i j<=2:=by unfold xC;split <;> decide
def WV {v:PV}{ps:km CH}{N:Nat}(hv:v= .lst (ps.map Av))(ok:∀p∈ps,Bm N p)(one:∀p∈ps,p.w.length=1)(hN:N<=10000)(hl:ps.length<=20){Q:PV->Prop}(q:Q (.lst ((GC a ps).map Av))):Er [v, .int (O8 a), .int 2] Q:=by
 subst hv;unfold GC at q;apply WC;ac_rfl;refine DO Av Av (λp=>decide (0<(p.pr a).c1)) (λ_=>True) (λp _ R N h1 h2=> ?_) ps [] (λ_ _=>trivial) ?_
 .ac_rfl;refine HC ?_;ac_rfl
  .rename_i h;exact h1 (AAl h)
  .rename_i h;exact h2 (AAo h)
 rw[ACf];have f:∀p∈(ps.filter λp=>decide (0<(p.pr a).c1)),p∈ps:=λp hp=>(AAr.mp hp).1;have y:(ps.filter λp=>decide (0<(p.pr a).c1)).length<=20:=AAg (ACY ..) hl;generalize (ps.filter λp=>decide (0<(p.pr a).c1))=lows at *;ac_rfl;refine DO Av Av (λp=>decide ((p.pr a).c1<0)) (λ_=>True) (λp _ R N h1 h2=> ?_) ps [] (λ_ _=>trivial) ?_
 .ac_rfl;refine HC ?_;ac_rfl
  .rename_i h;exact h1 (AAl h)
  .rename_i h;exact h2 (AAo h)
 rw[ACf];have g:∀p∈(ps.filter λp=>decide ((p.pr a).c1<0)),p∈ps:=λp hp=>(AAr.mp hp).1;have m:(ps.filter λp=>decide ((p.pr a).c1<0)).length<=20:=AAg (ACY ..) hl;generalize (ps.filter λp=>decide ((p.pr a).c1<0))=Gq at *;ac_rfl;refine DO Av Av (λp=>decide ((p.pr a).c1=0)) (λ_=>True) (λp _ R N h1 h2=> ?_) ps [] (λ_ _=>trivial) ?_
 .ac_rfl;refine HC ?_;ac_rfl
  .rename_i h;exact h1 (AAl h)
  .rename_i h;exact h2 (AAo h)
 rw[ACf];have z:(ps.filter λp=>decide ((p.pr a).c1=0)).length<=20:=AAg (ACY ..) hl;generalize (ps.filter λp=>decide ((p.pr a).c1=0))=zs at *;ac_rfl;refine B0 Av (λb vs τ=>∃n c,τ= [some (.val (.lst (ps.map Av))),some (.val (.int (O8 a))),some (.val (.int 2)),some (.val (.lst (lows.map Av))),some (.val (.lst (Gq.map Av))),some (.own ((zs++b.flatMap λl=>Gq.map λh=>BF a l h).map Av)),n,c]) ?_ ?_ ⟨none,none,!2⟩
 .rintro τ ⟨n,c,rfl⟩;ac_rfl;exact q
 .rintro b l vs e τ R o ⟨n,c,rfl⟩;have r:l∈lows:=by rw[<-e];simp
  have ul:b.length<=20:=by have:=congrArg List.length e;simp at this;omega
  ac_rfl;refine B0 Av (λd xs τ=>∃c,τ= [some (.val (.lst (ps.map Av))),some (.val (.int (O8 a))),some (.val (.int 2)),some (.val (.lst (lows.map Av))),some (.val (.lst (Gq.map Av))),some (.own (((zs++b.flatMap λl=>Gq.map λh=>BF a l h)++d.map λh=>BF a l h).map Av)),some (.val (Av l)),c]) ?_ ?_ ⟨c,!2⟩
  .rintro τ ⟨c,rfl⟩;exact o _ ⟨some (.val (Av l)),c,by simp[List.flatMap_append]⟩
  .rintro d h xs s τ E t ⟨c,rfl⟩;have u:h∈Gq:=by rw[<-s];simp
   have F:d.length<=20:=by have:=congrArg List.length s;simp at this;omega
   obtain⟨i,G,B⟩:=Zd (one l (f l r));obtain⟨j,H,C⟩:=Zd (one h (g h u));have I:=sC i j;have k:=t [some (.val (.lst (ps.map Av))),some (.val (.int (O8 a))),some (.val (.int 2)),some (.val (.lst (lows.map Av))),some (.val (.lst (Gq.map Av))),some (.own (((zs++b.flatMap λl=>Gq.map λh=>BF a l h)++(d ++ [h]).map λh=>BF a l h).map Av)),some (.val (Av l)),some (.val (Av h))] ⟨_,rfl⟩;clear t o;have D:∀A:km CH,(A++(d ++ [h]).map λh=>BF a l h).map Av=(A++d.map λh=>BF a l h).map Av ++ [Av (BF a l h)] :=λA=>!2
   rw[D] at k;have len:(((zs++b.flatMap λl=>Gq.map λh=>BF a l h)++d.map λh=>BF a l h).map Av).length<=1000:=by
    have:(b.flatMap λl=>Gq.map λh=>BF a l h).length<=20*20:=by
     rw[AFa];have:∀b:km CH,(b.map λl=>(Gq.map λh=>BF a l h).length).sum=b.length*Gq.length:=λb=>by
      induction b with
      | nil=>simp
      | cons x b ih=>simp[AAW,ACo,ADv] at ih ⊢;omega
     rw[this];exact ADQ ul m
    simp only[AAT,ACG];omega
   generalize (((zs++b.flatMap λl=>Gq.map λh=>BF a l h)++d.map λh=>BF a l h).map Av)=told at *;ac_rfl;rw[B];ac_rfl;rw[C];ac_rfl
   .refine Qn (ok l (f l r)) (ok h (g h u)) hN ?_;ac_rfl;refine⟨OA len (!1), ?_⟩;ac_rfl;exact k
   .exfalso;omega
def h3 (p:CH)(s t:Rat):Prop:=0<(p.c0:Rat)+p.c1*s+p.c2*t\/((p.c0:Rat)+p.c1*s+p.c2*t=0/\p.s=0)
def Y5 (r:Rat):(0:Rat)<(r.den:Rat)/\(r.num:Rat)=(r.den:Rat)*r:=by
 have hd:(0:Rat)<(r.den:Rat):=by exact_mod_cast r.den_pos
 refine⟨hd, ?_⟩;have:(r.num:Rat)/(r.den:Rat)=r:=by
  have:=ACX r;rw[AEJ] at this
  exact_mod_cast this
 have e:(r.num:Rat)/(r.den:Rat)*(r.den:Rat)=(r.num:Rat):=AGH (!3);rw[this] at e;grind
def GA {d x:Rat}(h:0<d):(0<d*x↔0<x)/\(d*x=0↔x=0):=by refine⟨AEL h, ?_⟩;rw[AEM];grind
def CV {t:Rat}:holds ((DS false r p).pr true) t↔h3 p r t:=by
 obtain⟨hd,a⟩:=Y5 r;have e:OU ((DS false r p).pr true) t=(r.den:Rat)*((p.c0:Rat)+p.c1*r+p.c2*t):=by
  show (((r.den:Int)*p.c0+p.c1*r.num:Int):Rat)+(((r.den:Int)*p.c2:Int):Rat)*t=_
  push_cast
  rw[a];grind
 unfold holds h3;rw[e,(GA hd).1,(GA hd).2];rfl
def Q9 {p:CH}{t:Rat}(h:p.c2=0):holds (p.pr false) s↔h3 p s t:=by
 have e:OU (p.pr false) s=(p.c0:Rat)+p.c1*s+p.c2*t:=by show (p.c0:Rat)+(p.c1:Rat)*s=_;rw[h];grind
 unfold holds h3;rw[e];rfl
def Lf {l h:CH}(s:Rat)(c1:0<l.c2)(c2:h.c2<0)(d:l.s=0\/l.s=1)(f:h.s=0\/h.s=1):holds ((BF true l h).pr false) s↔∃t,h3 l s t/\h3 h s t:=by
 obtain⟨hd,g⟩:=Y5 s;have hi:(0:Int)<s.den:=by exact_mod_cast s.den_pos
 have i:=Lg (l:=(DS false s l).pr true) (h:=(DS false s h).pr true) (ADR hi c1) (by show (s.den:Int)*h.c2<0;exact Int.mul_neg_of_pos_of_neg hi c2) d f [];have e:(∃t,holds ((DS false s l).pr true) t/\holds ((DS false s h).pr true) t)↔∃t,h3 l s t/\h3 h s t:=by
  constructor
  .rintro ⟨t,a,b⟩;exact⟨t,CV.mp a,CV.mp b⟩
  .rintro ⟨t,a,b⟩;exact⟨t,CV.mpr a,CV.mpr b⟩
 rw[<-e,<-i];unfold Hw;rw[AFZ];dsimp only;have ev:(((-((DS false s h).pr true).c1*((DS false s l).pr true).c0+((DS false s l).pr true).c1*((DS false s h).pr true).c0:Int)):Rat)=((s.den:Rat)*s.den)*OU ((BF true l h).pr false) s:=by
  show ((-((s.den:Int)*h.c2)*((s.den:Int)*l.c0+l.c1*s.num)+((s.den:Int)*l.c2)*((s.den:Int)*h.c0+h.c1*s.num):Int):Rat)=((s.den:Rat)*s.den)*((((-h.c2)*l.c0+l.c2*h.c0:Int):Rat)+(((-h.c2)*l.c1+l.c2*h.c1:Int):Rat)*s)
  push_cast
  rw[g];grind
 generalize (-((DS false s h).pr true).c1*((DS false s l).pr true).c0+((DS false s l).pr true).c1*((DS false s h).pr true).c0:Int)=V at *;have c:=AEK hd hd;have j:0<V↔0<OU ((BF true l h).pr false) s:=by rw[<-(GA c).1,<-ev,<-ADe,ACS]
 have k:V=0↔OU ((BF true l h).pr false) s=0:=by rw[<-(GA c).2,<-ev,<-ADe,AFV]
 unfold holds;rw[<-j,<-k];show (0<V\/V=0/\max l.s h.s=0)↔¬(V<0\/V=0/\max l.s h.s=1);omega
def fm {ps:km CH}(hs:∀p∈ps,p.s=0\/p.s=1)(lo:∃p∈ps,0<p.c2)(hi:∃p∈ps,p.c2<0)(s:Rat):(∀p∈GC true ps,holds (p.pr false) s)↔∃t,∀p∈ps,h3 p s t:=by
 have d:(0:Int)<s.den:=by exact_mod_cast s.den_pos
 constructor
 .intro b;have j:∀p∈ps,p.c2=0->holds (p.pr false) s:=λp hp z=>b p (by unfold GC;exact AAX.mpr (.inl (AAr.mpr ⟨hp,AAl z⟩)));have cs:∀l∈ps,∀h∈ps,0<l.c2->h.c2<0->∃t,h3 l s t/\h3 h s t:=λl hl h a c1 c2=>(Lf s c1 c2 (hs l hl) (hs h a)).mp (b _ (by
   unfold GC;exact AAX.mpr (.inr (ACR.mpr ⟨l,AAr.mpr ⟨hl,AAl c1⟩,AAS.mpr ⟨h,AAr.mpr ⟨a,AAl c2⟩,rfl⟩⟩))))
  have hq:∀q∈ps.map (λp=>(DS false s p).pr true),q.s=0\/q.s=1:=λq hq=>by obtain⟨p,hp,rfl⟩:=AAS.mp hq;exact hs p hp
  have f:=Dh (.inl rfl) _ (ps.map λp=>(DS false s p).pr true) rfl hq;have g:=Dh (.inr rfl) _ (ps.map λp=>(DS false s p).pr true) rfl hq;have c:∀p:CH,((DS false s p).pr true).c1=s.den*p.c2:=λp=>rfl;obtain⟨k,m⟩:∃l,tight 1 (ps.map λp=>(DS false s p).pr true)=some l:=by
   cases e:tight 1 (ps.map λp=>(DS false s p).pr true) with
   | some l=>exact⟨l,rfl⟩
   | none=> obtain⟨p,hp,h⟩:=lo;refine absurd ?_ (f.no e _ (AAS.mpr ⟨p,hp,rfl⟩));rw[c,ADW];exact ADR d h
  obtain⟨h',n⟩:∃l,tight (-1) (ps.map λp=>(DS false s p).pr true)=some l:=by
   cases e:tight (-1) (ps.map λp=>(DS false s p).pr true) with
   | some l=>exact⟨l,rfl⟩
   | none=> obtain⟨p,hp,h⟩:=hi;refine absurd ?_ (g.no e _ (AAS.mpr ⟨p,hp,rfl⟩));rw[c];have:=ADR d (show 0 < -p.c2 by omega);grind
  obtain⟨m1,i,t1⟩:=f.so k m;obtain⟨m2,o,t2⟩:=g.so h' n;obtain⟨l,hl,rfl⟩:=AAS.mp m1;obtain⟨h,a,rfl⟩:=AAS.mp m2;have sg:∀x:Int,(0<s.den*x↔0<x):=λx=>⟨λz=>Int.pos_of_mul_pos_right z d,λz=>ADR d z⟩;have c1:0<l.c2:=by rw[c,ADW,sg] at i;exact i
  have c2:h.c2<0:=by rw[c,show (s.den:Int)*h.c2 * -1=s.den * -h.c2 by grind,sg] at o;omega
  obtain⟨t,r,u⟩:=cs l hl h a c1 c2;refine⟨t,λp hp=> ?_⟩;rcases AGL p.c2 0 with z|z|z
  .refine CV.mp (t2 _ (AAS.mpr ⟨p,hp,rfl⟩) ?_ t (CV.mpr u));rw[c,show (s.den:Int)*p.c2 * -1=s.den * -p.c2 by grind,sg];omega
  .exact (Q9 z).mp (j p hp z)
  .refine CV.mp (t1 _ (AAS.mpr ⟨p,hp,rfl⟩) ?_ t (CV.mpr r));rw[c,ADW,sg];exact z
 .rintro ⟨t,b⟩ p hp;unfold GC at hp;rcases AAX.mp hp with hp|hp
  .obtain ⟨hp,z⟩:=AAr.mp hp;exact(Q9 (t:=t) (ACH z)).mpr (b p hp)
  .obtain ⟨l,hl,hp⟩:=ACR.mp hp;obtain⟨h,a,rfl⟩:=AAS.mp hp;obtain⟨hl,v⟩:=AAr.mp hl;obtain⟨a,w⟩:=AAr.mp a;exact(Lf s (ACH v) (ACH w) (hs l hl) (hs h a)).mpr ⟨t,b l hl,b h a⟩
noncomputable def UG (a b c:Rat)(s n:Int):CH:=⟨C5 (FD [a,b,c]) a,C5 (FD [a,b,c]) b,C5 (FD [a,b,c]) c,s, [(n,(FD [a,b,c] :Nat))]⟩
def YM (ba:Bd W a)(i:Bd W b)(f:Bd W c)(hW:W<=1400){Q:PV->Prop}(q:Q (.int (FD [a,b,c] :Nat))):BS [.tup [fr a,fr b,fr c]] Q:=by
 have hx:∀x∈ [a,b,c],Bd W x:=by simp;exact⟨ba,i,f⟩
 apply FV;ac_rfl;show DB _ _ _ ([a,b,c].map fr) _;refine B0 fr (λd vs τ=>∃g h,τ= [some (.val (.tup [fr a,fr b,fr c])),some (.val (.int (FD d:Nat))),g,h]) ?_ ?_ ⟨_,_,rfl⟩
 .rintro τ ⟨g,h,rfl⟩;ac_rfl;exact q
 .rintro d c vs e τ R j ⟨g,h,rfl⟩;have hu:∀x∈d,Bd W x:=λx k=>hx x (by rw[<-e];simp[k]);have ul:d.length<=6:=by have:=congrArg List.length e;simp at this;omega
  obtain⟨h1,h2,h3⟩:=Fo d.length d rfl hu;have f:=(hx c (by rw[<-e];simp)).bot;have o:d.length*W<=6*1400:=ADQ ul hW;have p:0<Nat.gcd (FD d) c.den:=ADa _ c.den_pos;have gl:Nat.gcd (FD d) c.den<2^8900:=Af (AAq (ADc c.den_pos (ADb ..)) f) (!0);ac_rfl;refine FQ _ _ _ ?_;ac_rfl;refine⟨⟨!0,↑gl⟩, ?_⟩;have l:((c.den:Nat):Int).fdiv ((Nat.gcd (FD d) c.den:Nat):Int)=((c.den/Nat.gcd (FD d) c.den:Nat):Int):=by rw[ACk _ (!0),ADI]
  rw[l];have dl:c.den/Nat.gcd (FD d) c.den<2^1400:=Af (AAq (ADH ..) f) hW;ac_rfl;refine⟨MulOk.of (m:=8401) (n:=1400) (by simpa using Af h3 (!0)) (by rw[ACD];exact dl), ?_⟩;exact j _ ⟨some (.val (.int c.num)),some (.val (.int c.den)),by rw[Mi,AEh];rfl⟩
def cf (ba:Bd W a)(d:Bd W b)(e:Bd W c)(hW:W<=1400){Q:PV->Prop}(q:Q (Av (UG a b c s n))):E2 [.tup [fr a,fr b,fr c], .int s, .int n] Q:=by
 obtain⟨h1,h2,h3⟩:=Fo (W:=W) 3 [a,b,c] rfl (by simp;exact⟨ba,d,e⟩);have f:∀x:Rat,((FD [a,b,c] :Int).fdiv (x.den:Int)).natAbs<2^4201:=λx=>by rw[ACk _ (!0),<-ADI,ACD];exact AAq (ADH ..) (Af h3 (!0))
 have g:=f a;have h:=f b;have i:=f c;have m:0<a.den:=a.den_pos;have o:0<b.den:=b.den_pos;have p:0<c.den:=c.den_pos;have j:=(ba.mono hW).bot;have k:=(d.mono hW).bot;have l:=(e.mono hW).bot;apply TX;ac_rfl;refine YM ba d e hW ?_;unfold UG C5 at q;generalize FD [a,b,c] =S at *;nofun
 refine⟨⟨!0,by rw[ACD];exact Af j (!1)⟩, ?_⟩;nofun
 refine⟨MulOk.of (ba.mono hW).top g, ?_⟩;nofun
 refine⟨⟨!0,by rw[ACD];exact Af k (!1)⟩, ?_⟩;nofun
 refine⟨MulOk.of (d.mono hW).top h, ?_⟩;nofun
 refine⟨⟨!0,by rw[ACD];exact Af l (!1)⟩, ?_⟩;nofun
 refine⟨MulOk.of (e.mono hW).top i, ?_⟩;nofun
 exact q
def gM {M:Nat}{s:Int}(ba:Bd W a)(d:Bd W b)(f:Bd W c)(hM:FD [a,b,c] < 2^M)(hs:s=0\/s=1):Bm (W+M) (UG a b c s n)/\∀x y:Rat,h3 (UG a b c s n) x y↔(0<a+b*x+c*y\/(a+b*x+c*y=0/\s=0)):=by
 obtain⟨h1,h2,_⟩:=Fo (W:=W) 3 [a,b,c] rfl (by simp;exact⟨ba,d,f⟩);have g:(0:Rat)<((FD [a,b,c] :Nat):Rat):=by exact_mod_cast h1
 have h:=Dr (h2 a (!2));have i:=Dr (h2 b (!2));have j:=Dr (h2 c (!2));refine⟨⟨YH ba hM,YH d hM,YH f hM,by simp[UG];exact Af hM (!0),by simp[UG],hs⟩,λx y=> ?_⟩;have e:((UG a b c s n).c0:Rat)+(UG a b c s n).c1*x+(UG a b c s n).c2*y=((FD [a,b,c] :Nat):Rat)*(a+b*x+c*y):=by show ((C5 (FD [a,b,c]) a:Int):Rat)+((C5 (FD [a,b,c]) b:Int):Rat)*x+((C5 (FD [a,b,c]) c:Int):Rat)*y=_;rw[h,i,j];grind
 unfold h3;rw[e,(GA g).1,(GA g).2];rfl
def SV (m:km (Int×Int)):Nat:=m.foldl (λg e=>Nat.gcd e.2.toNat g) 0
noncomputable def l9 (m:km (Int×Int))(k:Int):PV:= .tup [.int k,fr (((((m.lookup k).getD 0).fdiv (SV m:Nat):Int)):Rat)]
def fX (m:km (Int×Int))(e:Int×Int):SV (m ++ [e])=Nat.gcd e.2.toNat (SV m):=by unfold SV;rw[ADM];rfl
def XZ {m:km (Int×Int)}{k:Int}(h:k∈m.map (·.1)):∃v,m.lookup k=some v/\(k,v)∈m:=by
 induction m with
 | nil=>simp at h
 | cons e m ih=>
   obtain⟨i,v⟩:=e;by_cases z:k=i
   .subst z;exact⟨v,by simp[List.lookup],!2⟩
   .have:k∈m.map (·.1):=by simp[z] at h;simpa using h
    obtain⟨c,a,b⟩:=ih this;have d:(k==i)=false:=↑z
    exact⟨c,by simp[List.lookup,d,a],by simp[b]⟩
theorem ZA:∀(m:km (Int×Int)) (g:Nat),(0<g\/m≠ [])->(∀e∈m,0<e.2)->0<m.foldl (λg e=>Nat.gcd e.2.toNat g) g
 | [],g,h,_=>↑h
 | e::m,g,_,hp=>ZA m _ (.inl (Nat.gcd_pos_of_pos_left _ (by have:=hp e (!2);omega))) λx hx=>hp x (by simp[hx])
theorem ZB {N:Nat}:∀(m:km (Int×Int)) (g:Nat),(∀e∈m,0<e.2/\e.2.natAbs<2^N)->(g<2^N)->m.foldl (λg e=>Nat.gcd e.2.toNat g) g<2^N
 | [],g,_,h=>h
 | e::m,g,hp,_=>ZB m _ (λx hx=>hp x (by simp[hx])) (by
    have h:=hp e (!2);exact AAq (ADc (!0) (Nat.gcd_dvd_left ..)) (!0))
def dA {m:km (Int×Int)}{N:Nat}(hp:∀e∈m,0<e.2/\e.2.natAbs<2^N)(i:m≠ [])(hl:m.length<64)(hN:N<=8900){Q:PV->Prop}(q:∀b:km Int,b.Perm (m.map (·.1))->b.Pairwise (· <= ·)->Q (.tup (b.map (l9 m)))):Co [.dk m] Q:=by
 have o:0<SV m:=ZA m 0 (.inr i) λe he=>(hp e he).1;have j:SV m<2^N:=ZB m 0 hp (AGM N);apply LD;ac_rfl;show DB _ _ _ (m.map λp=>PV.int p.2) _;refine B0 (λp:Int×Int=>PV.int p.2) (λd vs τ=>∃f,τ= [some (.val (.dk m)),some (.val (.int (SV d:Nat))),f]) ?_ ?_ ⟨_,rfl⟩
 .rintro τ ⟨f,rfl⟩;ac_rfl;refine⟨hl,λb g l=> ?_⟩;ac_rfl;have a:=q b g l;refine⟨by rw[g.length_eq,AAT];omega, ?_⟩;refine GP PV.int (l9 m) id (λk=>k∈m.map (·.1)) (λk hk R c=> ?_) b [] (λk hk=>g.mem_iff.mp hk) ?_
  .obtain ⟨v,ev,r⟩:=XZ hk;unfold l9 id at c;rw[ev,Option.getD_some] at c;ac_rfl;refine⟨v,ev, ?_⟩;ac_rfl;refine⟨⟨!0,by simpa using Af j hN⟩, ?_⟩;ac_rfl;exact c
  .rw [ACf,List.map_id];ac_rfl;exact a
 .rintro d e vs n τ R c ⟨f,rfl⟩;have he:=(hp e (by rw[<-n];simp)).1;have h:e.2=((e.2.toNat:Nat):Int):=!0
  have a:=c [some (.val (.dk m)),some (.val (.int (SV (d ++ [e]):Nat))),some (.val (.int e.2))] ⟨_,rfl⟩;clear c;rw[fX] at a;ac_rfl;rw[h];refine FQ _ _ _ ?_;rw[h] at a;ac_rfl;exact a
structure Wd where
 b:C4
 e:C4
 b':C4
 e':C4
 z:T3
 l:Rat
 l':Rat
noncomputable def jU (w:Wd):PV:= .tup [Ca w.b w.e,Ca w.b' w.e', .lst [fr w.z.1,fr w.z.2.1,fr w.z.2.2], .tup [fr w.l,fr w.l']]
noncomputable def sl (w:Wd):Nat->Rat|0=>cz w.b w.e w.b.2.1 w.e.2.1|1=>cz w.b w.e w.b.2.2.1 w.e.2.2.1|_=>cz w.b w.e w.b.2.2.2 w.e.2.2.2
noncomputable def dX (w:Wd):Nat->Rat|0=>cz w.b' w.e' w.b'.2.1 w.e'.2.1|1=>cz w.b' w.e' w.b'.2.2.1 w.e'.2.2.1|_=>cz w.b' w.e' w.b'.2.2.2 w.e'.2.2.2
noncomputable def ba (w:Wd):Nat->Rat|0=>fA w.b w.e w.b.2.1 w.e.2.1|1=>fA w.b w.e w.b.2.2.1 w.e.2.2.1|_=>fA w.b w.e w.b.2.2.2 w.e.2.2.2
noncomputable def dP (w:Wd):Nat->Rat|0=>fA w.b' w.e' w.b'.2.1 w.e'.2.1|1=>fA w.b' w.e' w.b'.2.2.1 w.e'.2.2.1|_=>fA w.b' w.e' w.b'.2.2.2 w.e'.2.2.2
noncomputable def sz (w:Wd):Nat->Rat|0=>w.z.1|1=>w.z.2.1|_=>w.z.2.2
noncomputable def Aw (w:Wd):Nat->Rat×Rat×Rat
 | 0=>(-w.b.1,1,0)
 | 1=>(w.e.1, -1,0)
 | 2=>(-w.b'.1,0,1)
 | 3=>(w.e'.1,0, -1)
 | 4=>(w.l,1, -1)
 | 5=>(w.l', -1,1)
 | 6=>(sz w 0-(ba w 0-dP w 0), -sl w 0,dX w 0)
 | 7=>(sz w 0+(ba w 0-dP w 0),sl w 0, -dX w 0)
 | 8=>(sz w 1-(ba w 1-dP w 1), -sl w 1,dX w 1)
 | 9=>(sz w 1+(ba w 1-dP w 1),sl w 1, -dX w 1)
 | 10=>(sz w 2-(ba w 2-dP w 2), -sl w 2,dX w 2)
 | _=>(sz w 2+(ba w 2-dP w 2),sl w 2, -dX w 2)
structure Wr (W:Nat) (w:Wd):Prop where
 t1:Bd W w.b.1
 t2:Bd W w.e.1
 t3:Bd W w.b'.1
 t4:Bd W w.e'.1
 l1:Bd W w.l
 l2:Bd W w.l'
 z:∀k,Bd W (sz w k)
 s:∀k,Bd W (sl w k)
 s':∀k,Bd W (dX w k)
 a:∀k,Bd W (ba w k)
 a':∀k,Bd W (dP w k)
noncomputable def mw (x:Rat×Rat×Rat):PV:= .tup [fr x.1,fr x.2.1,fr x.2.2]
def mZ {n:Nat}(h:n<6){Q:PV->Prop}(q:Q (mw (Aw w n))):EJ [jU w, .int n] Q:=by
 apply QA;unfold jU Ca;nofun
 refine GU ?_;nofun
 refine GU ?_;nofun
 have cs:n=0\/n=1\/n=2\/n=3\/n=4\/n=5:=!0
 rcases cs with rfl|rfl|rfl|rfl|rfl|rfl <;> exact q
noncomputable def dI (d e f g h:PV)(a s b c:Nat->Rat)(z:Nat->Rat):PV:= .tup [.tup [d,e, .lst [.tup [fr (a 0),fr (s 0)], .tup [fr (a 1),fr (s 1)], .tup [fr (a 2),fr (s 2)]]], .tup [f,g, .lst [.tup [fr (b 0),fr (c 0)], .tup [fr (b 1),fr (c 1)], .tup [fr (b 2),fr (c 2)]]], .lst [fr (z 0),fr (z 1),fr (z 2)],h]
section
variable {x1 x2 x3 x4 ls:PV}{a s a' s' z:Nat->Rat}{W:Nat}{Q:PV->Prop}
theorem rL (hW:W<=1300)(ha:Bd W (a 0))(b:Bd W (a' 0))(hz:Bd W (z 0))(q:Q (.tup [fr (z 0-(a 0-a' 0)),fr (-s 0),fr (s' 0)])):BO [dI x1 x2 x3 x4 ls a s a' s' z, .int 6] Q:=by
 have c:=(ha.sub b).mono (n:=3900) (!0);have ha:=ha.mono (n:=3900) (!0);have b:=b.mono (n:=3900) (!0);have hz:=hz.mono (n:=3900) (!0);apply CW;unfold dI;nofun
 refine⟨⟨!1,!1⟩, ?_⟩;show Ak 2 (.int 0) _ _;nofun
 refine GU ?_;nofun
 exact q
theorem rM (hW:W<=1300)(ha:Bd W (a 0))(b:Bd W (a' 0))(hz:Bd W (z 0))(q:Q (.tup [fr (z 0+(a 0-a' 0)),fr (s 0),fr (-s' 0)])):BO [dI x1 x2 x3 x4 ls a s a' s' z, .int 7] Q:=by
 have c:=(ha.sub b).mono (n:=3900) (!0);have ha:=ha.mono (n:=3900) (!0);have b:=b.mono (n:=3900) (!0);have hz:=hz.mono (n:=3900) (!0);apply CW;unfold dI;nofun
 refine⟨⟨!1,!1⟩, ?_⟩;show Ak 2 (.int 0) _ _;nofun
 refine GU ?_;nofun
 exact q
theorem rN (hW:W<=1300)(ha:Bd W (a 1))(b:Bd W (a' 1))(hz:Bd W (z 1))(q:Q (.tup [fr (z 1-(a 1-a' 1)),fr (-s 1),fr (s' 1)])):BO [dI x1 x2 x3 x4 ls a s a' s' z, .int 8] Q:=by
 have c:=(ha.sub b).mono (n:=3900) (!0);have ha:=ha.mono (n:=3900) (!0);have b:=b.mono (n:=3900) (!0);have hz:=hz.mono (n:=3900) (!0);apply CW;unfold dI;nofun
 refine⟨⟨!1,!1⟩, ?_⟩;show Ak 2 (.int 1) _ _;nofun
 refine GU ?_;nofun
 exact q
theorem rO (hW:W<=1300)(ha:Bd W (a 1))(b:Bd W (a' 1))(hz:Bd W (z 1))(q:Q (.tup [fr (z 1+(a 1-a' 1)),fr (s 1),fr (-s' 1)])):BO [dI x1 x2 x3 x4 ls a s a' s' z, .int 9] Q:=by
 have c:=(ha.sub b).mono (n:=3900) (!0);have ha:=ha.mono (n:=3900) (!0);have b:=b.mono (n:=3900) (!0);have hz:=hz.mono (n:=3900) (!0);apply CW;unfold dI;nofun
 refine⟨⟨!1,!1⟩, ?_⟩;show Ak 2 (.int 1) _ _;nofun
 refine GU ?_;nofun
 exact q
theorem mJ (hW:W<=1300)(ha:Bd W (a 2))(b:Bd W (a' 2))(hz:Bd W (z 2))(q:Q (.tup [fr (z 2-(a 2-a' 2)),fr (-s 2),fr (s' 2)])):BO [dI x1 x2 x3 x4 ls a s a' s' z, .int 10] Q:=by
 have c:=(ha.sub b).mono (n:=3900) (!0);have ha:=ha.mono (n:=3900) (!0);have b:=b.mono (n:=3900) (!0);have hz:=hz.mono (n:=3900) (!0);apply CW;unfold dI;nofun
 refine⟨⟨!1,!1⟩, ?_⟩;show Ak 2 (.int 2) _ _;nofun
 refine GU ?_;nofun
 exact q
theorem mK (hW:W<=1300)(ha:Bd W (a 2))(b:Bd W (a' 2))(hz:Bd W (z 2))(q:Q (.tup [fr (z 2+(a 2-a' 2)),fr (s 2),fr (-s' 2)])):BO [dI x1 x2 x3 x4 ls a s a' s' z, .int 11] Q:=by
 have c:=(ha.sub b).mono (n:=3900) (!0);have ha:=ha.mono (n:=3900) (!0);have b:=b.mono (n:=3900) (!0);have hz:=hz.mono (n:=3900) (!0);apply CW;unfold dI;nofun
 refine⟨⟨!1,!1⟩, ?_⟩;show Ak 2 (.int 2) _ _;nofun
 refine GU ?_;nofun
 exact q
end
def mL (ok:Wr W w)(hW:W<=1300){n:Nat}(h:6<=n)(h':n<12){Q:PV->Prop}(q:Q (mw (Aw w n))):BO [jU w, .int n] Q:=by
 have e:jU w=dI (fr w.b.1) (fr w.e.1) (fr w.b'.1) (fr w.e'.1) (.tup [fr w.l,fr w.l']) (ba w) (sl w) (dP w) (dX w) (sz w):=rfl;rw[e];have cs:n=6\/n=7\/n=8\/n=9\/n=10\/n=11:=!0
 rcases cs with rfl|rfl|rfl|rfl|rfl|rfl
 .exact rL hW (ok.a 0) (ok.a' 0) (ok.z 0) q
 .exact rM hW (ok.a 0) (ok.a' 0) (ok.z 0) q
 .exact rN hW (ok.a 1) (ok.a' 1) (ok.z 1) q
 .exact rO hW (ok.a 1) (ok.a' 1) (ok.z 1) q
 .exact mJ hW (ok.a 2) (ok.a' 2) (ok.z 2) q
 .exact mK hW (ok.a 2) (ok.a' 2) (ok.z 2) q
def j4 (ok:Wr W w)(hW:W<=1300){n:Nat}(h:n<12){Q:PV->Prop}(q:Q (mw (Aw w n))):Fx [jU w, .int n] Q:=by
 apply V3;ac_rfl
 .exact mZ (!0) q
 .exact mL ok hW (!0) h q
def HF (ok:Wr W w)(n:Nat):Bd (3*W+2) (Aw w n).1/\Bd (3*W+2) (Aw w n).2.1/\Bd (3*W+2) (Aw w n).2.2:=by
 have b:Bd (3*W+2) (1:Rat):=Bd.mono (m:=2) (by constructor <;> decide) (!0);have c:Bd (3*W+2) (-1:Rat):=Bd.mono (m:=2) (by constructor <;> decide) (!0);have o3:Bd (3*W+2) (0:Rat):=Bd.mono (m:=2) (by constructor <;> decide) (!0);have m:∀{r:Rat},Bd W r->Bd (3*W+2) r:=λh=>h.mono (!0);have p:∀k,Bd (3*W+2) (sz w k+(ba w k-dP w k)):=λk=>((ok.z k).add ((ok.a k).sub (ok.a' k))).mono (!0);have q:∀k,Bd (3*W+2) (sz w k-(ba w k-dP w k)):=λk=>((ok.z k).sub ((ok.a k).sub (ok.a' k))).mono (!0);unfold Aw;split
 .exact ⟨(m ok.t1).neg,b,o3⟩
 .exact ⟨m ok.t2,c,o3⟩
 .exact ⟨(m ok.t3).neg,o3,b⟩
 .exact ⟨m ok.t4,o3,c⟩
 .exact ⟨m ok.l1,b,c⟩
 .exact ⟨m ok.l2,c,b⟩
 .exact ⟨q 0,(m (ok.s 0)).neg,m (ok.s' 0)⟩
 .exact ⟨p 0,m (ok.s 0),(m (ok.s' 0)).neg⟩
 .exact ⟨q 1,(m (ok.s 1)).neg,m (ok.s' 1)⟩
 .exact ⟨p 1,m (ok.s 1),(m (ok.s' 1)).neg⟩
 .exact ⟨q 2,(m (ok.s 2)).neg,m (ok.s' 2)⟩
 .exact ⟨p 2,m (ok.s 2),(m (ok.s' 2)).neg⟩
def FY {sg:Int}{ps:km CH}(h:sg=1\/sg= -1)(hs:∀p∈ps,p.s=0\/p.s=1)(ex:∃p∈ps,0<(p.pr a).c1*sg):∃l,Cy a sg ps=some l/\l∈ps/\0<(l.pr a).c1*sg/\tight sg (ps.map (CH.pr a))=some (l.pr a):=by
 have hq:∀q∈ps.map (CH.pr a),q.s=0\/q.s=1:=λq hq=>by obtain⟨p,hp,rfl⟩:=AAS.mp hq;exact hs p hp
 have j:=Dh h _ (ps.map (CH.pr a)) rfl hq;have e:=Yd (a:=a) (sg:=sg) (ps:=ps);cases t:Cy a sg ps with
 | none=> rw[t] at e;obtain⟨p,hp,z⟩:=ex;exact absurd z (j.no e.symm _ (AAS.mpr ⟨p,hp,rfl⟩))
 | some l=> rw[t] at e;exact⟨l,rfl,ED t,(j.so _ e.symm).2.1,e.symm⟩
def Q7 {p:FS}(z:p.c1=0)(hs:p.s=0\/p.s=1)(t:Rat):holds p t↔Hw p=false:=by
 unfold holds OU Hw;rw[z,AFZ];have a:(p.c0:Rat)+((0:Int):Rat)*t=(p.c0:Rat):=!3
 rw[a,<-ADe,ACS,AFV];omega
def ah {ps:km FS}(hs:∀p∈ps,p.s=0\/p.s=1)(a:tight 1 ps=some l)(b:tight (-1) ps=some h)(c:∀p∈ps,p.c1=0->Hw p=false){t:Rat}(d:holds l t)(e:holds h t):∀p∈ps,holds p t:=by
 have f:=(Dh (.inl rfl) ps.length ps rfl hs).so l a;have g:=(Dh (.inr rfl) ps.length ps rfl hs).so h b;intro p hp;rcases AGL p.c1 0 with z|z|z
 .exact g.2.2 p hp (!0) t e
 .exact (Q7 z (hs p hp) t).mpr (c p hp z)
 .exact f.2.2 p hp (!0) t d
def Vx {P:Int->Prop}{m:km (Int×Int)}{k:Int}(h:∀e∈m,P e.2)(hv:P v):∀e∈Fi m k v,P e.2:=by
 intro e he;unfold Fi at he;split at he
 .obtain ⟨p,hp,rfl⟩:=AAS.mp he;split
  .exact hv
  .exact h p hp
 .rcases AAX.mp he with he|he
  .exact h e he
  .rw [AAw.mp he];exact hv
def lp {k:Int}:Fi m k v≠ [] :=by
 unfold Fi;split
 .rename_i h;intro z;rw[List.map_eq_nil_iff] at z;subst z;simp at h
 .simp
def bF {m:km (Int×Int)}{k C:Int}(h:∀e∈m,0<e.2/\e.2<C)(a:0<C):0<=Eb m k/\Eb m k<C:=by
 unfold Eb;cases e:m.find? λp=>decide (p.1=k) with
 | none=>exact⟨AFT _,a⟩
 | some p=> have:=h p (List.mem_of_find?_eq_some e);show 0<=p.2/\p.2<C;omega
def YG {many C:Int}{m:km (Int×Int)}(h:∀e∈m,0<many*e.2/\many*e.2<C):∀e∈Br many m,0<e.2/\e.2<C:=by
 have key:∀(m a:km (Int×Int)),(∀e∈m,0<many*e.2/\many*e.2<C)->(∀e∈a,0<e.2/\e.2<C)->∀e∈m.foldl (λa p=>Fi a p.1 (many*p.2)) a,0<e.2/\e.2<C:=by
  intro m;induction m with
  | nil=>intro a _ h;exact h
  | cons x m ih=> intro a h1 h2;exact ih _ (λe he=>h1 e (by simp[he])) (Vx (P:=λx=>0<x/\x<C) h2 (h1 x (!2)))
 exact key m [] h (!2)
theorem OB {more D:Int}(b:0<D):∀(m a:km (Int×Int)) (C:Int),0<C->(∀e∈m,0<more*e.2/\more*e.2<D)->(∀e∈a,0<e.2/\e.2<C)->∀e∈CK more a m,0<e.2/\e.2<C+m.length*D
 | [],a,C,_,_,h=>by simpa[CK] using h
 | x::m,a,C,hC,h1,h2=>by
   have hx:=h1 x (!2);have g:=bF (k:=x.1) h2 hC;have st:∀e∈Fi a x.1 (Eb a x.1+more*x.2),0<e.2/\e.2<C+D:=Vx (P:=λy=>0<y/\y<C+D) (λe he=>by have:=h2 e he;omega) (!0);have r:=OB b m (Fi a x.1 (Eb a x.1+more*x.2)) (C+D) (!0) (λe he=>h1 e (by simp[he])) st;intro e he;have:=r e he;rw[AAk];have c:C+((m.length+1:Nat):Int)*D=C+D+(m.length:Int)*D:=by push_cast;grind
   rw[c];exact this
theorem OC {more:Int}:∀(m a:km (Int×Int)),(CK more a m).length<=a.length+m.length
 | [],a=>by simp[CK]
 | x::m,a=>by have r:=OC (more:=more) m (Fi a x.1 (Eb a x.1+more*x.2));have p:=J8 a x.1 (Eb a x.1+more*x.2);show (CK more (Fi a x.1 (Eb a x.1+more*x.2)) m).length<=_;rw[AAk];omega
theorem Q4 {more:Int}:∀(m a:km (Int×Int)),m≠ [] \/a≠ [] ->CK more a m≠ []
 | [],a,h=>by simpa[CK] using h
 | x::m,a,_=>Q4 m (Fi a x.1 (Eb a x.1+more*x.2)) (.inr lp)
structure oh (L N:Nat) (m:List (Int×Int)):Prop where
 p:∀e∈m,0<e.2/\e.2.natAbs<2^N
 l:m.length<=L
 n:m≠ []
def u5 {x y:Int}{N:Nat}(hx:0<x)(hy:0<y)(h1:x.natAbs<2^N)(h2:y.natAbs<2^N):0<x*y/\x*y<((2^(2*N):Nat):Int):=by refine⟨ADR hx hy, ?_⟩;have:=AFb h1 h2;rw[<-AEf,show N+N=2*N by omega,<-ACW] at this;have p:=ADR hx hy;omega
def Y0 {N:Nat}(hl:Bm N l)(d:Bm N h)(g:oh L N l.w)(f:oh L N h.w)(o:L<=6)(c1:0<(l.pr a).c1)(c2:(h.pr a).c1<0):Bm (2*N+4) (BF a l h)/\oh (2*L) (2*N+4) (BF a l h).w:=by
 have b1:=(hl.pr a).b;have b2:=(d.pr a).b;have i:(0:Int)<((2^(2*N):Nat):Int):=by exact_mod_cast AGM _
 have sc:=YG (many:= -(h.pr a).c1) (C:=((2^(2*N):Nat):Int)) (m:=l.w) λe he=>u5 (!0) (g.p e he).1 (by rw[ACl];exact b2) (g.p e he).2;have mg:=OB (more:=(l.pr a).c1) i h.w (Br (-(h.pr a).c1) l.w) _ i (λe he=>u5 c1 (f.p e he).1 b1 (f.p e he).2) sc;have sl:(Br (-(h.pr a).c1) l.w).length<=l.w.length:=Oj;have r:=OC (more:=(l.pr a).c1) h.w (Br (-(h.pr a).c1) l.w);have j:2^(2*N+4)=16*2^(2*N):=by rw[AEf];omega
 have t:=g.l;have u:=f.l;have k:∀e∈(BF a l h).w,0<e.2/\e.2.natAbs<2^(2*N+4):=λe he=>by have:=mg e he;have:(h.w.length:Int)*((2^(2*N):Nat):Int)<=6*((2^(2*N):Nat):Int):=Int.mul_le_mul_of_nonneg_right (!0) (!0);rw[j];omega
 have num:∀x y:Int,x.natAbs<2^N->y.natAbs<2^N->(-(h.pr a).c1*x+(l.pr a).c1*y).natAbs<2^(2*N+4):=λx y hx hy=>by
  have m1:=AFb b2 hx;have m2:=AFb b1 hy;rw[<-AEf,show N+N=2*N by omega,<-ACW] at m1 m2;have e: -(h.pr a).c1*x= -((h.pr a).c1*x):=!3
  rw[e,j];omega
 refine⟨⟨num _ _ hl.a d.a,num _ _ hl.b d.b,num _ _ hl.c d.c,λe he=>(k e he).2, ?_, ?_⟩,⟨k, ?_,Q4 _ _ (.inl f.n)⟩⟩
 .show (CK (l.pr a).c1 (Br (-(h.pr a).c1) l.w) h.w).length<=12;omega
 .show max l.s h.s=0\/max l.s h.s=1;have:=hl.s;have:=d.s;omega
 .show (CK (l.pr a).c1 (Br (-(h.pr a).c1) l.w) h.w).length<=2*L;omega
noncomputable def oD:km Int:= [0,1,0,1,0,0,1,1,1,1,1,1]
def strN (n:Nat):Int:=oD.getD n 0
noncomputable def Il (w:Wd)(n:Nat):CH:=UG (Aw w n).1 (Aw w n).2.1 (Aw w n).2.2 (strN n) n
noncomputable def Ei (w:Wd):km CH:=(List.range 12).map (Il w)
def Za (w:Wd)(s t:Rat):Prop:=∀n<12,0<(Aw w n).1+(Aw w n).2.1*s+(Aw w n).2.2*t\/((Aw w n).1+(Aw w n).2.1*s+(Aw w n).2.2*t=0/\strN n=0)
noncomputable def zI:PV:= .tup [.tup [.int 0, .tup [.int 1, .int 1]], .tup [.int 3, .tup [.int 1, .int 1]], .tup [.int 5, .tup [.int 1, .int 1]]]
noncomputable def zJ:PV:= .tup [.tup [.int 1, .tup [.int 1, .int 1]], .tup [.int 2, .tup [.int 1, .int 1]], .tup [.int 4, .tup [.int 1, .int 1]]]
def gR {t:Rat}(h:Za w s t):w.b.1<=s/\s<w.e.1/\w.b'.1<=t/\t<w.e'.1/\t-s<=w.l/\s-t<=w.l':=by
 have a:=h 0 (!1);have h1:=h 1 (!1);have h2:=h 2 (!1);have h3:=h 3 (!1);have c:=h 4 (!1);have d:=h 5 (!1);have f:strN 1=1:=rfl;have g:strN 3=1:=rfl;rw[f] at h1;rw[g] at h3;simp only[Aw] at a h1 h2 h3 c d;refine⟨?_, ?_, ?_, ?_, ?_, ?_⟩
 .rcases a with z|z <;> grind
 .rcases h1 with z|z
  .grind
  .omega
 .rcases h2 with z|z <;> grind
 .rcases h3 with z|z
  .grind
  .omega
 .rcases c with z|z <;> grind
 .rcases d with z|z <;> grind
def sF (ok:Wr W w)(hW:W<=1300){Q:PV->Prop}(a:(¬∃s t,Za w s t)->w.e'.1+w.l'<=w.b.1->Q zI)(c:(¬∃s t,Za w s t)->w.e.1+w.l<=w.b'.1->Q zJ)(q:Q .non):Bx [jU w] Q:=by
 have f:=ok.t2.mono (n:=3900) (!0);have g:=ok.t4.mono (n:=3900) (!0);have i:=ok.t1.mono (n:=3900) (!0);have o3:=ok.t3.mono (n:=3900) (!0);have ol:=ok.l1.mono (n:=3900) (!0);have d:=ok.l2.mono (n:=3900) (!0);have j:=(ok.t4.add ok.l2).mono (n:=3900) (!0);have k:=(ok.t2.add ok.l1).mono (n:=3900) (!0);apply Hx;unfold jU Ca;nofun
 .rename_i h;refine a ?_ (!3);rintro⟨s,t,o⟩;have:=gR o;grind
 .rename_i h;refine c ?_ (!3);rintro⟨s,t,o⟩;have:=gR o;grind
 .exact q
def Z7 (n:Nat):strN n=0\/strN n=1:=by unfold strN oD;rcases n with _|_|_|_|_|_|_|_|_|_|_|_|n <;> simp
structure oi (N:Nat) (w:Wd):Prop where
 W:∃W,Wr W w/\3*W+2<=1300
 p:∀n<12,Bm N (Il w n)
def oi.sh {N:Nat}(h:oi N w):∀n<12,FD [(Aw w n).1,(Aw w n).2.1,(Aw w n).2.2] < 2^N:=λn a=>by have:=(h.p n a).w ((n:Int),((FD [(Aw w n).1,(Aw w n).2.1,(Aw w n).2.2] :Nat):Int)) (by simp[Il,UG]);simpa using this
def lZ {N:Nat}(h:oi N w):∀p∈Ei w,Bm N p/\oh 1 N p.w/\p.w.length=1:=by
 intro p hp;obtain⟨n,a,rfl⟩:=AAS.mp hp;have a:=ADg.mp a;obtain⟨W,ok,_⟩:=h.W;obtain⟨b1,b2,b⟩:=HF ok n;have k:=h.p n a;obtain⟨h1,_,_⟩:=Fo (W:=3*W+2) 3 [(Aw w n).1,(Aw w n).2.1,(Aw w n).2.2] rfl (by simp;exact⟨b1,b2,b⟩);refine⟨k,⟨λe he=>⟨?_,k.w e he⟩,AAR _,by simp[Il,UG]⟩,rfl⟩;have:e=((n:Int),((FD [(Aw w n).1,(Aw w n).2.1,(Aw w n).2.2] :Nat):Int)):=by simpa[Il,UG] using he
 rw[this];show (0:Int)<_;omega
def qh {M:Nat}(ok:Wr W w)(hM:∀n<12,FD [(Aw w n).1,(Aw w n).2.1,(Aw w n).2.2] < 2^M)(s t:Rat):(∀p∈Ei w,h3 p s t)↔Za w s t:=by
 unfold Ei Za;constructor
 .intro h n a;obtain⟨b1,b2,b⟩:=HF ok n;exact((gM (n:=n) b1 b2 b (hM n a) (Z7 n)).2 s t).mp (h _ (AAS.mpr ⟨n,ADg.mpr a,rfl⟩))
 .intro h p hp;obtain⟨n,a,rfl⟩:=AAS.mp hp;have a:=ADg.mp a;obtain⟨b1,b2,b⟩:=HF ok n;exact((gM (n:=n) b1 b2 b (hM n a) (Z7 n)).2 s t).mpr (h n a)
def Xg {N:Nat}(ha:Bd N a)(hb:Bd N b):Bd (2*N+4) ((a+b)/2):=by have:=Bd.div (a:=a+b) (b:=((2:Int):Rat)) (!3) (ha.add hb) (Bd.mono (m:=2) (n:=2) (by constructor <;> decide) (!0));exact this.mono (!0)
def qq {N:Nat}(h:Bm N p)(d:Bd M r):Bm (N+M+1) (DS false r p):=by
 have f:=d.bot;have i:=d.top;have g:2^(N+M+1)=2*2^(N+M):=by rw[AFw];omega
 have m:∀x y:Int,x.natAbs<2^N->y.natAbs<2^M->(x*y).natAbs<2^(N+M):=λx y a b=>by have:=AFb a b;rw[<-AEf,<-ACW] at this;exact this
 have j:=m p.c0 r.den h.a (by rw[ACD];exact f);have k:=m p.c1 r.num h.b i;have n:=m p.c2 r.den h.c (by rw[ACD];exact f);refine⟨?_,by show (0:Int).natAbs<_;exact AGM _, ?_,λe he=>Af (h.w e he) (!0),h.l,h.s⟩
 .show ((r.den:Int)*p.c0+p.c1*r.num).natAbs<_;rw[AFH,g];omega
 .show ((r.den:Int)*p.c2).natAbs<_;rw[AFH,g];omega
def TM (rows:km (Int×Rat)):PV:= .tup (rows.map λe=> .tup [.int e.1,fr e.2])
def jE (m:km (Int×Int))(a:km Int):km (Int×Rat):=a.map λk=>(k,((((m.lookup k).getD 0).fdiv (SV m:Nat):Int):Rat))
def sQ (_:Nat)(_:Wd)(_:km (Int×Rat)):Prop:=True
instance{Q:PV->Prop}:Wp (Jo (Av p) .non Q) (Q (.bl true)):=⟨id⟩
def rZ {n:Nat}(h:n<12){Q:PV->Prop}(q:Q (.int (strN n))):Ai (.tup [(.int 0),(.int 1),(.int 0),(.int 1),(.int 0),(.int 0),(.int 1),(.int 1),(.int 1),(.int 1),(.int 1),(.int 1)]) (.int n) Q:=by
 have cs:n=0\/n=1\/n=2\/n=3\/n=4\/n=5\/n=6\/n=7\/n=8\/n=9\/n=10\/n=11:=!0
 rcases cs with rfl|rfl|rfl|rfl|rfl|rfl|rfl|rfl|rfl|rfl|rfl|rfl <;> exact q
def J6 (w:Wd):(Ei w).length=12:=by simp[Ei]
def J7 (w:Wd){n:Nat}(h:n<12):Il w n∈Ei w:=AAS.mpr ⟨n,ADg.mpr h,rfl⟩
def c9 {ps:km CH}(h:ps.length<=12):(GC a ps).length<=1000:=by
 unfold GC;rw[ACG,AFa];have e:(ps.filter λp=>decide ((p.pr a).c1=0)).length<=12:=AAg (ACY ..) h;have c:(ps.filter λp=>decide (0<(p.pr a).c1)).length<=12:=AAg (ACY ..) h;have d:(ps.filter λp=>decide ((p.pr a).c1<0)).length<=12:=AAg (ACY ..) h;generalize (ps.filter λp=>decide ((p.pr a).c1=0))=zs at *;generalize (ps.filter λp=>decide (0<(p.pr a).c1))=b at *;generalize (ps.filter λp=>decide ((p.pr a).c1<0))=hs at *;have:∀b:km CH,(b.map λl=>(hs.map λh=>BF a l h).length).sum=b.length*hs.length:=λb=>by
  induction b with
  | nil=>simp
  | cons x b ih=>simp[AAW,ACo,ADv] at ih ⊢;omega
 rw[this];have:=ADQ c d;omega
def jA {ps:km CH}{N:Nat}(h:∀p∈ps,Bm N p/\oh 1 N p.w):∀p∈GC true ps,Bm (2*N+4) p/\oh 2 (2*N+4) p.w:=by
 intro p hp;unfold GC at hp;rcases AAX.mp hp with hp|hp
 .obtain ⟨k,w⟩:=h p (AAr.mp hp).1;exact⟨⟨Af k.a (!0),Af k.b (!0),Af k.c (!0),λe he=>Af (k.w e he) (!0),k.l,k.s⟩,⟨λe he=>⟨(w.p e he).1,Af (w.p e he).2 (!0)⟩,by have:=w.l;omega,w.n⟩⟩
 .obtain ⟨l,hl,hp⟩:=ACR.mp hp;obtain⟨h',d,rfl⟩:=AAS.mp hp;obtain⟨hl,f⟩:=AAr.mp hl;obtain⟨d,g⟩:=AAr.mp d;exact Y0 (h l hl).1 (h h' d).1 (h l hl).2 (h h' d).2 (!1) (ACH f) (ACH g)
def TF (ok:Wr W w){n:Nat}(b:n<12):∃S:Rat,0<S/\((Il w n).c1:Rat)=(Aw w n).2.1*S/\((Il w n).c2:Rat)=(Aw w n).2.2*S:=by obtain⟨b1,b2,a⟩:=HF ok n;obtain⟨h1,h2,_⟩:=Fo (W:=3*W+2) 3 [(Aw w n).1,(Aw w n).2.1,(Aw w n).2.2] rfl (by simp;exact⟨b1,b2,a⟩);exact⟨((FD [(Aw w n).1,(Aw w n).2.1,(Aw w n).2.2] :Nat):Rat),by exact_mod_cast h1,Dr (h2 _ (!2)),Dr (h2 _ (!2))⟩
def LS {x:Int}{y:Rat}{S:Rat}(a:0<S)(e:(x:Rat)=y*S):(0<y->0<x)/\(y=0->x=0)/\(y<0->x<0):=by
 refine⟨λh=> ?_,λh=> ?_,λh=> ?_⟩
 .have:(0:Rat)<x:=by rw[e];exact AEK h a
  exact_mod_cast this
 .have:(x:Rat)=0:=by rw[e,h];grind
  exact_mod_cast this
 .have p:0 < -y*S:=AEK (!3) a;have:(x:Rat)<0:=by rw[e];grind
  exact_mod_cast this
def nC (m:km (Int×Int))(a:km Int):TM (jE m a)= .tup (a.map (l9 m)):=by unfold TM jE;rw[ADF];rfl
def Xe {N:Nat}(h:oi N w)(hN:N<=770){Q:PV->Prop}(G:(¬∃s t,Za w s t)->∀rows,sQ (4*N+13) w rows->Q (.tup [.non,TM rows]))(qm:∀s t,Za w s t->Bd (4*N+12) s->Bd (10*N+30) t->Q (.tup [.tup [fr s,fr t], .non])):Fy [jU w] Q:=by
 have g:=lZ h;obtain⟨W,ok,hW⟩:=h.W;have hh:=λs t=>qh ok h.sh s t;have c0:=TF ok (n:=0) (!1);have c1:=TF ok (n:=1) (!1);have c2:=TF ok (n:=2) (!1);have c3:=TF ok (n:=3) (!1);have H:=λn=>HF ok n;apply V6;ac_rfl;refine sF ok (!0) (λk C=> ?_) (λk C=> ?_) ?_
 .have b:=G k [(0,1),(3,1),(5,1)] trivial;rw[show TM [(0,1),(3,1),(5,1)] =zI from rfl] at b;unfold zI at b ⊢;ac_rfl;exact b
 .have b:=G k [(1,1),(2,1),(4,1)] trivial;rw[show TM [(1,1),(2,1),(4,1)] =zJ from rfl] at b;unfold zJ at b ⊢;ac_rfl;exact b
 ac_rfl;refine Yz (λi d=>d=((List.range i).map (Il w)).map Av) (λd e=> ?_) (λi hi d R D e=> ?_) rfl;rotate_left
 .have b:=D (d ++ [Av (Il w i)]) (by rw[e,List.range_succ,AAv,AAv];rfl);clear D;have hi:i<12:=hi;rw[show (0:Int)+(i:Int)=i by omega];ac_rfl;refine j4 ok (!0) hi ?_;unfold mw;ac_rfl;refine rZ hi ?_;ac_rfl;obtain⟨b1,b2,b3⟩:=H i;refine cf b1 b2 b3 (!0) ?_;exact b
 subst e;show Ak 2 (.lst ((Ei w).map Av)) _ _;ac_rfl;have hs:∀p∈Ei w,p.s=0\/p.s=1:=λp hp=>(g p hp).1.s;have m:∃p∈Ei w,0<p.c2:=by obtain⟨S,f,_,e⟩:=c2;exact⟨_,J7 w (n:=2) (!1),(LS f e).1 (by simp only[Aw];decide)⟩
 have sW:∃p∈Ei w,p.c2<0:=by obtain⟨S,f,_,e⟩:=c3;exact⟨_,J7 w (n:=3) (!1),(LS f e).2.2 (by simp only[Aw];decide)⟩
 have FM:=λs=>fm hs m sW s;have m0:∃p∈GC true (Ei w),0<(p.pr false).c1*1:=by obtain⟨S,f,e,I⟩:=c0;refine⟨Il w 0,AAX.mpr (.inl (AAr.mpr ⟨J7 w (!1),AAl ((LS f I).2.1 (by simp only[Aw]))⟩)), ?_⟩;have:=(LS f e).1 (by simp only[Aw];decide);show 0<(Il w 0).c1*1;omega
 have m1:∃p∈GC true (Ei w),0<(p.pr false).c1 * -1:=by obtain⟨S,f,e,I⟩:=c1;refine⟨Il w 1,AAX.mpr (.inl (AAr.mpr ⟨J7 w (!1),AAl ((LS f I).2.1 (by simp only[Aw]))⟩)), ?_⟩;have:=(LS f e).2.2 (by simp only[Aw];decide);show 0<(Il w 1).c1 * -1;omega
 have c:=jA (ps:=Ei w) λp hp=>⟨(g p hp).1,(g p hp).2.1⟩;have C:=c9 (a:=true) (ps:=Ei w) (by rw[J6];decide);refine⟨rfl, ?_⟩;show Er [.lst ((Ei w).map Av), .int (O8 true), .int 2] _;refine WV rfl (λp hp=>(g p hp).1) (λp hp=>(g p hp).2.2) (!0) (by rw[J6];decide) ?_;generalize GC true (Ei w)=first at *
 have j:∀p∈first,p.s=0\/p.s=1:=λp hp=>(c p hp).1.s
 have r:∀q∈first.map (CH.pr false),q.s=0\/q.s=1:=λq hq=>by obtain⟨p,hp,rfl⟩:=AAS.mp hq;exact j p hp
 obtain⟨l,e1,u,gl,t1⟩:=FY (a:=false) (.inl rfl) j m0;obtain⟨h,e2,v,J,t2⟩:=FY (a:=false) (.inr rfl) j m1;have gl:0<(l.pr false).c1:=!0
 have J:(h.pr false).c1<0:=!0
 have cn:=Lg (l:=l.pr false) (h:=h.pr false) gl J (j l u) (j h v) (BF false l h).w;have cw:=Y0 (a:=false) (c l u).1 (c h v).1 (c l u).2 (c h v).2 (!1) gl J;ac_rfl;show Dz [.lst (first.map Av), .int (O8 false)] _;refine bD rfl (λp hp=>(c p hp).1) (!0) C e1 e2 (λnv nc=> ?_) (λp hp K=> ?_)
 .obtain ⟨s0,a1,a2⟩:=cn.mp nc;have x:=ah r t1 t2 (λq hq z=>by
   obtain⟨p,hp,rfl⟩:=AAS.mp hq;exact nv p hp z) a1 a2
  have md:=Q5 r t1 t2 x;have b1:=UA ((c l u).1.pr false) (!0);have b2:=UA ((c h v).1.pr false) (!0);have bs:=Xg b1 b2;obtain⟨t0,ht⟩:=(FM _).mp λp hp=>md _ (AAS.mpr ⟨p,hp,rfl⟩);ac_rfl;show Cp [.lst (first.map Av), .int (O8 false)] _;refine RM rfl (λp hp=>(c p hp).1) (!0) C e1 e2 (!0) (!0) (b1.mono (!0)) (b2.mono (!0)) ?_;generalize (Di (l.pr false)+Di (h.pr false))/2=s at *;have pU:(0:Int)<s.den:=by exact_mod_cast s.den_pos
  have E:∀q∈(Ei w).map (DS false s),Bm (N+(2*(2*(N)+4)+4)+1) q:=λq hq=>by obtain⟨p,hp,rfl⟩:=AAS.mp hq;exact qq (g p hp).1 bs
  have L:∀q∈(Ei w).map (DS false s),q.s=0\/q.s=1:=λq hq=>(E q hq).s;have lq:((Ei w).map (DS false s)).length<=1000:=by rw[AAT,J6];decide
  have n0:∃p∈(Ei w).map (DS false s),0<(p.pr true).c1*1:=by obtain⟨p,hp,z⟩:=m;refine⟨_,AAS.mpr ⟨p,hp,rfl⟩, ?_⟩;show 0<(s.den:Int)*p.c2*1;rw[ADW];exact ADR pU z
  have n1:∃p∈(Ei w).map (DS false s),0<(p.pr true).c1 * -1:=by obtain⟨p,hp,z⟩:=sW;refine⟨_,AAS.mpr ⟨p,hp,rfl⟩, ?_⟩;show 0<(s.den:Int)*p.c2 * -1;rw[show (s.den:Int)*p.c2 * -1=s.den * -p.c2 by grind];exact ADR pU (!0)
  obtain⟨l',M,O,gl',P⟩:=FY (a:=true) (.inl rfl) L n0;obtain⟨h',T,U,gh',X⟩:=FY (a:=true) (.inr rfl) L n1;have Y:=Q5 (λq hq=>by
   obtain⟨p,hp,rfl⟩:=AAS.mp hq;exact L p hp) P X (t0:=t0) λq hq=>by obtain⟨q',N5,rfl⟩:=AAS.mp hq;obtain⟨p,hp,rfl⟩:=AAS.mp N5;exact CV.mpr (ht p hp)
  have y:=UA ((E l' O).pr true) (!0);have A:=UA ((E h' U).pr true) (!0);have bt:=Xg y A;have b:=qm s _ ((hh s _).mp λp hp=>CV.mp (Y _ (AAS.mpr ⟨_,AAS.mpr ⟨p,hp,rfl⟩,rfl⟩))) (bs.mono (!0)) (bt.mono (!0));ac_rfl;refine⟨by rw[J6];decide, ?_⟩;refine GP Av Av (DS false s) (λp=>p∈Ei w) (λp hp R D=> ?_) (Ei w) [] (λp hp=>hp) ?_
  .ac_rfl;show EI [Av p, .int (O8 false),fr s] _;exact X3 (g p hp).1 bs (!0) (!0) D
  rw[ACf];generalize (Ei w).map (DS false s)=qs at *;ac_rfl;show Cp [.lst (qs.map Av), .int (O8 true)] _;refine RM rfl E (!0) lq M T (!0) (!0) (y.mono (!0)) (A.mono (!0)) ?_;generalize (Di (l'.pr true)+Di (h'.pr true))/2=t at *;ac_rfl;exact b
 .have k:¬∃s t,Za w s t:=by
   rintro⟨s,t,o⟩;have x:=(FM s).mpr ⟨t,(hh s t).mpr o⟩;rcases hp with⟨hp,z⟩|rfl
   .have:=(Q7 z (j p hp) s).mp (x p hp);rw[this] at K;cases K
   .have:=cn.mpr ⟨s,x l u,x h v⟩;have B:Hw ⟨-(h.pr false).c1*(l.pr false).c0+(l.pr false).c1*(h.pr false).c0, -(h.pr false).c1*(l.pr false).c1+(l.pr false).c1*(h.pr false).c1,max (l.pr false).s (h.pr false).s,(BF false l h).w⟩=true:=K;rw[this] at B;cases B
  have Z:oh 4 (2*(2*(N)+4)+4) p.w:=by
   rcases hp with⟨hp,z⟩|rfl
   .have F:=(c p hp).2;exact⟨λe he=>⟨(F.p e he).1,Af (F.p e he).2 (!0)⟩,by have:=F.l;omega,F.n⟩
   .exact cw.2
  ac_rfl;refine dA Z.p Z.n (by have:=Z.l;omega) (!0) λns pm pw=> ?_;have b:=G k (jE p.w ns) trivial;rw[nC] at b;ac_rfl;exact b
noncomputable def XA {a:Type}:Nat->km a->km (Nat×a)
 | _, [] => []
 | k,x::xs=>(k,x)::XA (k+1) xs
theorem Jl {a:Type}:∀(k:Nat) (xs:km a),(XA k xs).length=xs.length
 | _, [] =>rfl
 | k,x::xs=>by simp[XA,Jl (k+1) xs]
theorem Jm {a:Type}:∀(k:Nat) (xs:km a),(XA k xs).map (·.2)=xs
 | _, [] =>rfl
 | k,x::xs=>by simp[XA,Jm (k+1) xs]
theorem K0 {a:Type}(g:a->PV):∀(k:Nat) (xs:km a),E9 k (xs.map g)=(XA k xs).map λp=> .tup [.int p.1,g p.2]
 | _, [] =>rfl
 | k,x::xs=>by have:=K0 g (k+1) xs;simp only[AAW,E9,XA];rw[<-this]
noncomputable def ES (cs ds:km C4)(b e:T3)(d:Rat×Rat)(p q:C4×C4):Wd:=⟨p.1,p.2,q.1,q.2,szs b e d,b.2.2,e.2.2⟩
noncomputable def wrow (x:Nat×Nat×Wd):PV:= .tup [.int x.1, .int x.2.1,jU x.2.2]
noncomputable def WT (cs ds:km C4)(b e:T3)(d:Rat×Rat):km (Nat×Nat×Wd):=(XA 0 (Fg cs)).flatMap λp=>(XA 0 (Fg ds)).map λq=>(p.1,q.1,ES cs ds b e d p.2 q.2)
def aI {x:Nat×Nat×Wd}(h:x∈WT cs ds b e d):∃p∈Fg cs,∃q∈Fg ds,x.2.2=ES cs ds b e d p q:=by obtain⟨p,hp,h⟩:=ACR.mp h;obtain⟨q,hq,rfl⟩:=AAS.mp h;exact⟨p.2,by rw[<-Jm 0 (Fg cs)];exact AAS.mpr ⟨p,hp,rfl⟩,q.2,by rw[<-Jm 0 (Fg ds)];exact AAS.mpr ⟨q,hq,rfl⟩,rfl⟩
def kX {p q:C4×C4}(hp:p∈Fg cs)(hq:q∈Fg ds):∃x∈WT cs ds b e d,x.2.2=ES cs ds b e d p q:=by rw[<-Jm 0 (Fg cs)] at hp;rw[<-Jm 0 (Fg ds)] at hq;obtain⟨a,c,rfl⟩:=AAS.mp hp;obtain⟨f,g,rfl⟩:=AAS.mp hq;exact⟨_,ACR.mpr ⟨a,c,AAS.mpr ⟨f,g,rfl⟩⟩,rfl⟩
def fP (h:Fb cs b v):∃p w,CM cs p/\aM b w/\∀{R:PV->Prop},(R p->Ai v (.int 0) R)/\(R w->Ai v (.int 1) R):=by
 obtain⟨p,w,h1,h2,rfl|rfl⟩:=h
 .exact ⟨p,w,h1,h2,id,id⟩
 .exact ⟨p,w,h1,h2,id,id⟩
def dJ (hv:Fb cs b v)(hw:Fb ds e w)(hu:Mo d u)(H:Dw 100 b)(I:Dw 100 e)(b1:Bd 100 d.1)(b2:Bd 100 d.2)(hc:∀c∈cs,Ed B c)(J:Gk cs)(h2:2<=cs.length)(hl:cs.length<=100)(K:∀c∈ds,Ed B c)(L:Gk ds)(M:2<=ds.length)(S:ds.length<=100)(E:6*B+3<=3900){Q:PV->Prop}(q:Q (.lst ((WT cs ds b e d).map wrow))):De [v,w,u] Q:=by
 have sz:=λ{Q}=>WI (Q:=Q) hv hw hu H I b1 b2;obtain⟨p1,T,l,m,i⟩:=fP hv;obtain⟨p2,U,n,o,j⟩:=fP hw;have r:(Fg cs).length<=100:=by unfold Fg;simp;omega
 have s:(Fg ds).length<=100:=by unfold Fg;simp;omega
 apply QC;ac_rfl;refine sz ?_;ac_rfl;refine i.2 ?_;ac_rfl;refine(fC m).2.2 ?_;ac_rfl;refine j.2 ?_;ac_rfl;refine(fC o).2.2 ?_;ac_rfl;refine j.1 ?_;ac_rfl;refine hV n K L M (!0) E ?_;ac_rfl;refine i.1 ?_;ac_rfl;refine hV l hc J h2 (!0) E ?_;ac_rfl;show DB _ _ _ (E9 0 ((Fg cs).map λp=>Ca p.1 p.2)) _;rw[K0];unfold WT at q;have N:(XA 0 (Fg cs)).length<=100:=by rw[Jl];exact r
 have t:(XA 0 (Fg ds)).length<=100:=by rw[Jl];exact s
 have y:E9 0 ((Fg ds).map λp=>Ca p.1 p.2)=(XA 0 (Fg ds)).map λp=> .tup [.int p.1,Ca p.2.1 p.2.2] :=K0 _ 0 _;generalize (XA 0 (Fg cs))=us1 at *;generalize (XA 0 (Fg ds))=us2 at *;generalize W:((Fg ds).map λp=>Ca p.1 p.2)=P2 at *;refine B0 (λp:Nat×C4×C4=> .tup [.int p.1,Ca p.2.1 p.2.2]) (λf vs τ=>∃z C g a,τ= [some (.val v),some (.val w),some (.val u),some (.val (.lst [fr (szs b e d).1,fr (szs b e d).2.1,fr (szs b e d).2.2])),some (.val (.tup [fr b.2.2,fr e.2.2])),some (.val (.lst P2)),some (.own ((f.flatMap λp=>us2.map λq=>(p.1,q.1,ES cs ds b e d p.2 q.2)).map wrow)),z,C,g,a]) ?_ ?_ ⟨none,none,none,none,rfl⟩
 .rintro τ ⟨z,C,g,a,rfl⟩;ac_rfl;exact q
 .rintro f p vs O τ R F ⟨z,C,g,a,rfl⟩;have ul:f.length<=100:=by have:=congrArg List.length O;simp at this;omega
  ac_rfl;show DB _ _ _ (E9 0 P2) _;rw[y];refine B0 (λp:Nat×C4×C4=> .tup [.int p.1,Ca p.2.1 p.2.2]) (λh xs τ=>∃g a,τ= [some (.val v),some (.val w),some (.val u),some (.val (.lst [fr (szs b e d).1,fr (szs b e d).2.1,fr (szs b e d).2.2])),some (.val (.tup [fr b.2.2,fr e.2.2])),some (.val (.lst P2)),some (.own (((f.flatMap λp=>us2.map λq=>(p.1,q.1,ES cs ds b e d p.2 q.2))++h.map λq=>(p.1,q.1,ES cs ds b e d p.2 q.2)).map wrow)),some (.val (.int p.1)),some (.val (Ca p.2.1 p.2.2)),g,a]) ?_ ?_ ⟨g,a,!2⟩
  .rintro τ ⟨g,a,rfl⟩;exact F _ ⟨some (.val (.int p.1)),some (.val (Ca p.2.1 p.2.2)),g,a,by simp[List.flatMap_append]⟩
  .rintro h x xs D τ X G ⟨g,a,rfl⟩;have Y:h.length<=100:=by have:=congrArg List.length D;simp at this;omega
   have k:=G [some (.val v),some (.val w),some (.val u),some (.val (.lst [fr (szs b e d).1,fr (szs b e d).2.1,fr (szs b e d).2.2])),some (.val (.tup [fr b.2.2,fr e.2.2])),some (.val (.lst P2)),some (.own (((f.flatMap λp=>us2.map λq=>(p.1,q.1,ES cs ds b e d p.2 q.2))++(h ++ [x]).map λq=>(p.1,q.1,ES cs ds b e d p.2 q.2)).map wrow)),some (.val (.int p.1)),some (.val (Ca p.2.1 p.2.2)),some (.val (.int x.1)),some (.val (Ca x.2.1 x.2.2))] ⟨_,_,rfl⟩;clear G F;have P:∀A:km (Nat×Nat×Wd),(A++(h ++ [x]).map λq=>(p.1,q.1,ES cs ds b e d p.2 q.2)).map wrow=(A++h.map λq=>(p.1,q.1,ES cs ds b e d p.2 q.2)).map wrow ++ [wrow (p.1,x.1,ES cs ds b e d p.2 x.2)] :=λA=>!2
   rw[P] at k;have len:(((f.flatMap λp=>us2.map λq=>(p.1,q.1,ES cs ds b e d p.2 q.2))++h.map λq=>(p.1,q.1,ES cs ds b e d p.2 q.2)).map wrow).length<=10100:=by
    have:(f.flatMap λp=>us2.map λq=>(p.1,q.1,ES cs ds b e d p.2 q.2)).length<=100*100:=by
     rw[AFa];have:∀f:km (Nat×C4×C4),(f.map λp=>(us2.map λq=>(p.1,q.1,ES cs ds b e d p.2 q.2)).length).sum=f.length*us2.length:=λf=>by
      induction f with
      | nil=>simp
      | cons x f ih=>simp[AAW,ACo,ADv] at ih ⊢;omega
     rw[this];exact ADQ ul t
    simp only[AAT,ACG];omega
   generalize (((f.flatMap λp=>us2.map λq=>(p.1,q.1,ES cs ds b e d p.2 q.2))++h.map λq=>(p.1,q.1,ES cs ds b e d p.2 q.2)).map wrow)=told at *;ac_rfl;refine⟨OA len (!1), ?_⟩;ac_rfl;exact k
noncomputable def Fe (x:(Nat×Nat×Wd)×km (Int×Rat)):PV:= .tup [.int x.1.1, .int x.1.2.1,TM x.2]
def Xf {v w u:PV}{L:km (Nat×Nat×Wd)}(hw:∀{Q:PV->Prop},Q (.lst (L.map wrow))->De [v,w,u] Q)(hl:L.length<=10100){N:Nat}(hN:N<=770)(p:∀x∈L,oi N x.2.2){Q:PV->Prop}(r:(∀x∈L,¬∃s t,Za x.2.2 s t)->∀ps:km (km (Int×Rat)),L.length=ps.length->(∀y∈L.zip ps,sQ (4*N+13) y.1.2.2 y.2)->Q (.tup [.str "apart", .tup ((L.zip ps).map Fe)]))(z:∀x∈L,∀s t,Za x.2.2 s t->Bd (4*N+12) s->Bd (10*N+30) t->Q (.tup [.str "meet",fr s,fr t])):DY [v,w,u] Q:=by
 apply V7;ac_rfl;refine hw ?_;ac_rfl;refine B0 wrow (λa vs τ=>(∀x∈a,¬∃s t,Za x.2.2 s t)/\∃(ps:km (km (Int×Rat))) (c d f g h:ke AV),a.length=ps.length/\(∀y∈a.zip ps,sQ (4*N+13) y.1.2.2 y.2)/\τ= [some (.val v),some (.val w),some (.val u),some (.own ((a.zip ps).map Fe)),c,d,f,g,h]) ?_ ?_ ⟨!2, [],_,_,_,_,_,rfl,!2,rfl⟩
 .rintro τ ⟨i,ps,c,d,f,g,h,hl,hp,rfl⟩;have b:=r i ps hl hp;ac_rfl;exact b
 .rintro a x vs e τ R j ⟨i,ps,c,d,f,g,h,l,A,rfl⟩;have mx:x∈L:=by rw[<-e];simp
  have ul:a.length<=10100:=by have:=congrArg List.length e;simp at this;omega
  have k:=z x mx;unfold wrow;ac_rfl;refine Xe (p x mx) hN (λnx rows hp=> ?_) (λs t o bs bt=> ?_)
  .have m:(a ++ [x]).zip (ps ++ [rows])=a.zip ps ++ [(x,rows)] :=by rw[List.zip_append l];rfl
   have b:=j [some (.val v),some (.val w),some (.val u),some (.own ((a.zip ps).map Fe ++ [Fe (x,rows)])),some (.val (.int x.1)),some (.val (.int x.2.1)),some (.val (jU x.2.2)),some (.val .non),some (.val (TM rows))] ⟨λy hy=>by
    rcases AAX.mp hy with hy|hy
    .exact i y hy
    .rw [AAw.mp hy];exact nx,ps ++ [rows],_,_,_,_,_,by simp[l],λy hy=>by
    rw[m] at hy;rcases AAX.mp hy with hy|hy
    .exact A y hy
    .rw [AAw.mp hy];exact hp,by rw[m,AAv];rfl⟩
   clear j;have B:((a.zip ps).map Fe).length<=10100:=by rw[AAT,List.length_zip];omega
   generalize (a.zip ps).map Fe=told at *;unfold Fe TM at b;unfold TM;ac_rfl;refine⟨OA (n:=10100) (!0) (!1), ?_⟩;ac_rfl;exact b
  .clear j;ac_rfl;exact k s t o bs bt
def Mul.get {N:Nat}(h:Mul D N a):∃k:Int,a*(D:Rat)=(k:Rat)/\k.natAbs<=N:=by
 obtain⟨b,k,rfl,hk⟩:=h;refine⟨k, ?_,hk⟩;have:(D:Rat)≠0:=by exact_mod_cast (by omega:D≠0)
 rw[AEJ,ADd];grind
def Mul.mk' {D N:Nat}{a:Rat}{k:Int}(b:0<D)(e:a*(D:Rat)=(k:Rat))(hk:k.natAbs<=N):Mul D N a:=by
 refine⟨b,k, ?_,hk⟩;have:(D:Rat)≠0:=by exact_mod_cast (by omega:D≠0)
 rw[AEJ,ADd];grind
def Mul.neg {N:Nat}(h:Mul D N a):Mul D N (-a):=by obtain⟨k,e,hk⟩:=h.get;exact .mk' h.1 (k:= -k) (by rw[AEr,<-e];grind) (!0)
def Mul.sub {N:Nat}(ha:Mul D N a)(hb:Mul D M b):Mul D (N+M) (a-b):=by rw[Rat.sub_eq_add_neg];exact ha.add hb.neg
def Mul.mul {N:Nat}(ha:Mul D N a)(hb:Mul E M b):Mul (D*E) (N*M) (a*b):=by obtain⟨k,e,hk⟩:=ha.get;obtain⟨l,f,hl⟩:=hb.get;refine .mk' (ACO ha.1 hb.1) (k:=k*l) ?_ (by rw[ACW];exact ADQ hk hl);rw[ACv,<-e,<-f,AGN];grind
def Mul.upc {N c:Nat}(ha:Mul D N a)(hc:0<c):Mul (D*c) (N*c) a:=by obtain⟨k,e,hk⟩:=ha.get;refine .mk' (ACO ha.1 hc) (k:=k*c) ?_ (by rw[ACW,ACD];exact AEO c hk);rw[ACv,<-e,AGN,ADd];grind
def Mul.den {N:Nat}(h:Mul D N a):a.den ∣ D:=by
 obtain⟨b,k,rfl,_⟩:=h;have e:=ACX (Rat.divInt k D);rw[AFG (by exact_mod_cast (Rat.divInt k D).den_nz) (!0)] at e;have c:=(Rat.divInt k D).reduced;generalize (Rat.divInt k D).num=x at e c;generalize (Rat.divInt k D).den=y at e c;have:y ∣ x.natAbs*D:=by have:=congrArg Int.natAbs e;rw[ACW,ACW,ACD,ACD] at this;exact⟨k.natAbs,by rw[this,ACy]⟩
 exact Nat.Coprime.dvd_of_dvd_mul_left (Nat.Coprime.symm c) this
theorem Zw {D:Nat}:∀(n:Nat) (xs:km Rat),xs.length=n->(∀x∈xs,x.den ∣ D)->FD xs ∣ D
 | 0,xs,e,_=>by rw[AGD.mp e];exact Nat.one_dvd D
 | n+1,xs,e,h=>by
   obtain⟨ys,x,rfl⟩:∃ys x,xs=ys ++ [x] :=⟨xs.dropLast,xs.getLast (by intro z;subst z;simp at e),(AGE _).symm⟩;have ih:=Zw n ys (by simp at e;omega) λy hy=>h y (by simp[hy]);have hx:=h x (!2);rw[Mi];have:FD ys*(x.den/Nat.gcd (FD ys) x.den)=Nat.lcm (FD ys) x.den:=by unfold Nat.lcm;rw[Nat.mul_div_assoc _ (ADb ..)]
   rw[this];exact Nat.lcm_dvd ih hx
def mB {N S:Nat}(h:Mul D N a)(b:S ∣ D)(ha:a.den ∣ S):(C5 S a).natAbs<=N:=by
 obtain⟨k,e,hk⟩:=h.get;obtain⟨c,rfl⟩:=b;have c0:0<c:=Nat.pos_of_ne_zero λz=>by have:=h.1;simp[z] at this
 have f:=Dr ha;have:((C5 S a*c:Int):Rat)=(k:Rat):=by rw[ACv,f,<-e,AGN,ADd];grind
 have:C5 S a*c=k:=by exact_mod_cast this
 have:(C5 S a).natAbs*c=k.natAbs:=by rw[<-this,ACW,ACD]
 have d:(C5 S a).natAbs*1<=(C5 S a).natAbs*c:=ACu _ c0;omega
def ZY {N B:Nat}{s:Int}(ha:Mul D N a)(hb:Mul D N b)(hc:Mul D N c)(hs:s=0\/s=1)(hN:N<2^B)(d:D<2^B):Bm B (UG a b c s n):=by have e:FD [a,b,c] ∣ D:=Zw 3 _ rfl (by simp;exact⟨ha.den,hb.den,hc.den⟩);obtain⟨W,f,g,h⟩:∃W,Bd W a/\Bd W b/\Bd W c:=⟨B,ha.bd hN d,hb.bd hN d,hc.bd hN d⟩;obtain⟨h1,h2,_⟩:=Fo (W:=W) 3 [a,b,c] rfl (by simp;exact⟨f,g,h⟩);have sl:=AAq (ADc ha.1 e) d;have q:∀x,Mul D N x->x∈ [a,b,c] ->(C5 (FD [a,b,c]) x).natAbs<2^B:=λx hx m=>AAq (mB hx e (h2 x m)) hN;exact⟨q a ha (!2),q b hb (!2),q c hc (!2),by simp[UG];exact sl,by simp[UG],hs⟩
noncomputable def pD (k:Nat)(c:C4):Rat:=match k with | 0=>c.2.1|1=>c.2.2.1|_=>c.2.2.2
def mP (p:C4×C4)(k:Nat):Rat:=cz p.1 p.2 (pD k p.1) (pD k p.2)
noncomputable def dQ (p:C4×C4)(k:Nat):Rat:=fA p.1 p.2 (pD k p.1) (pD k p.2)
structure xg (DT NT JM NS NB:Nat) (p:C4×C4):Prop where
 t1:Mul DT NT p.1.1
 t2:Mul DT NT p.2.1
 j:∃J,0<J/\J<=JM/\∀k,Mul J NS (mP p k)/\Mul J NB (dQ p k)
def wP {q:C4×C4}(k:Nat):sl (ES cs ds b e d p q) k=mP p k/\dX (ES cs ds b e d p q) k=mP q k/\ba (ES cs ds b e d p q) k=dQ p k/\dP (ES cs ds b e d p q) k=dQ q k:=by rcases k with _|_|k <;> exact⟨rfl,rfl,rfl,rfl⟩
noncomputable def rh (z:T3)(k:Nat):Rat:=match k with | 0=>z.1|1=>z.2.1|_=>z.2.2
def wQ {q:C4×C4}(k:Nat):sz (ES cs ds b e d p q) k=rh (szs b e d) k:=by rcases k with _|_|k <;> rfl
def nD {W N:Nat}{q:C4×C4}(hp:xg g i f m l p)(hq:xg g i f m l q)(hz:∀k,Mul a r (rh (szs b e d) k))(hl:Mul g i b.2.2)(T:Mul g i e.2.2)(B:g<2^W)(C:i<2^W)(U:f<2^W)(X:m<2^W)(Y:l<2^W)(w6:a<2^W)(w7:r<2^W)(hW:3*W+2<=1300)(n1:f*f*a<2^N)(n2:r*(f*f)+2*(l*f*a)<2^N)(n3:m*f*a<2^N)(n4:g<2^N)(n5:i+g<2^N):oi N (ES cs ds b e d p q):=by
 obtain⟨J,H,I,K⟩:=hp.j;obtain⟨h,s,t,u⟩:=hq.j;have o:=λk=>wP (cs:=cs) (ds:=ds) (b:=b) (e:=e) (d:=d) (p:=p) (q:=q) k;have w:=λk=>wQ (cs:=cs) (ds:=ds) (b:=b) (e:=e) (d:=d) (p:=p) (q:=q) k;have F:0<a:=(hz 0).1;have jj:J*h<=f*f:=ADQ I t;have D0:0<J*h*a:=ACO (ACO H s) F;have DD:J*h*a<2^N:=AAq (AEO a jj) n1;have jW:J<2^W:=AAq I U;have G:h<2^W:=AAq t U;refine⟨⟨W,⟨hp.t1.bd C B,hp.t2.bd C B,hq.t1.bd C B,hq.t2.bd C B,hl.bd C B,T.bd C B,λk=> ?_,λk=> ?_,λk=> ?_,λk=> ?_,λk=> ?_⟩,hW⟩,λn hn=> ?_⟩
 .rw [w];exact(hz k).bd w7 w6
 .rw [(o k).1];exact(K k).1.bd X jW
 .rw [(o k).2.1];exact(u k).1.bd X G
 .rw [(o k).2.2.1];exact(K k).2.bd Y jW
 .rw [(o k).2.2.2];exact(u k).2.bd Y G
 have S:∀k,Mul (J*h*a) (m*f*a) (mP p k):=λk=>by
  have:=((K k).1.upc (c:=h*a) (ACO s F)).mono (M:=m*f*a) (by rw[<-ACZ];exact AEO _ (ACu _ t))
  rwa [<-ACZ] at this
 have E:∀k,Mul (J*h*a) (m*f*a) (mP q k):=λk=>by
  have:=((u k).1.upc (c:=J*a) (ACO H F)).mono (M:=m*f*a) (by rw[<-ACZ];exact AEO _ (ACu _ I))
  rwa [<-ACZ,ACy h J] at this
 have A:∀k,Mul (J*h*a) (l*f*a) (dQ p k):=λk=>by
  have:=((K k).2.upc (c:=h*a) (ACO s F)).mono (M:=l*f*a) (by rw[<-ACZ];exact AEO _ (ACu _ t))
  rwa [<-ACZ] at this
 have A':∀k,Mul (J*h*a) (l*f*a) (dQ q k):=λk=>by
  have:=((u k).2.upc (c:=J*a) (ACO H F)).mono (M:=l*f*a) (by rw[<-ACZ];exact AEO _ (ACu _ I))
  rwa [<-ACZ,ACy h J] at this
 have Z:∀k,Mul (J*h*a) (r*(f*f)) (rh (szs b e d) k):=λk=>by
  have:=((hz k).upc (c:=J*h) (ACO H s)).mono (M:=r*(f*f)) (ACu _ jj)
  rwa [ACy a] at this
 have O:=λk=>(A k).sub (A' k);have P:∀k,Mul (J*h*a) (r*(f*f)+2*(l*f*a)) (rh (szs b e d) k-(dQ p k-dQ q k)):=λk=>((Z k).sub (O k)).mono (!0);have Q:∀k,Mul (J*h*a) (r*(f*f)+2*(l*f*a)) (rh (szs b e d) k+(dQ p k-dQ q k)):=λk=>((Z k).add (O k)).mono (!0);have side:∀{x y z:Rat},Mul (J*h*a) (r*(f*f)+2*(l*f*a)) x->Mul (J*h*a) (m*f*a) y->Mul (J*h*a) (m*f*a) z->Bm N (UG x y z (strN n) n):=λ{x y z} hx hy yb=>
  ZY (N:=max (r*(f*f)+2*(l*f*a)) (m*f*a)) (hx.mono (Nat.le_max_left ..)) (hy.mono (Nat.le_max_right ..)) (yb.mono (Nat.le_max_right ..)) (Z7 n) (!0) DD
 have dt:=hp.t1.1;have v:Mul g (i+g) (1:Rat):=by have:=(Mul.int (n:=1) (D:=g) (N:=g) dt (!2)).mono (M:=i+g) (!0);simpa using this
 have L:Mul g (i+g) (0:Rat):=by have:=(Mul.int (n:=0) (D:=g) (N:=g) dt (!2)).mono (M:=i+g) (!0);simpa using this
 have time:∀{x y z:Rat},Mul g i x->Mul g (i+g) y->Mul g (i+g) z->Bm N (UG x y z (strN n) n):=λ{x y z} hx hy yb=>ZY (hx.mono (ACP ..)) hy yb (Z7 n) n5 n4;have R:n=0\/n=1\/n=2\/n=3\/n=4\/n=5\/n=6\/n=7\/n=8\/n=9\/n=10\/n=11:=!0
 unfold Il;rcases R with rfl|rfl|rfl|rfl|rfl|rfl|rfl|rfl|rfl|rfl|rfl|rfl
 .exact time hp.t1.neg v L
 .exact time hp.t2 v.neg L
 .exact time hq.t1.neg L v
 .exact time hq.t2 L v.neg
 .exact time hl v v.neg
 .exact time T v.neg v
 .simp only[Aw,o,w];exact side (P 0) (S 0).neg (E 0)
 .simp only[Aw,o,w];exact side (Q 0) (S 0) (E 0).neg
 .simp only[Aw,o,w];exact side (P 1) (S 1).neg (E 1)
 .simp only[Aw,o,w];exact side (Q 1) (S 1) (E 1).neg
 .simp only[Aw,o,w];exact side (P 2) (S 2).neg (E 2)
 .simp only[Aw,o,w];exact side (Q 2) (S 2) (E 2).neg
def gj {N:Nat}{p:C4×C4}(h1:Gz D N p.1)(h2:Gz D N p.2)(n:p.1.1<p.2.1):xg D N (D*(2*N)) (D*(2*N)) (4*N*N) p:=by
 have b:∀{c:C4} k,Gz D N c->Mul D N (pD k c):=λk h=>by
  rcases k with _|_|k
  .exact h.x
  .exact h.y
  .exact h.z
 obtain⟨i,f,hi⟩:=h1.m.get;obtain⟨j,g,hj⟩:=h2.m.get;have d:=h1.m.1;have o:(0:Rat)<(D:Rat):=by exact_mod_cast d
 have ij:i<j:=by
  have:(i:Rat)<(j:Rat):=by rw[<-f,<-g];exact(Rat.mul_lt_mul_right o).mpr n
  exact_mod_cast this
 obtain⟨J,r⟩:∃J:Nat,(J:Int)=j-i:=⟨(j-i).toNat,!0⟩;have e:0<J:=!0
 have l:J<=2*N:=!0
 have s:(J:Rat)=(p.2.1-p.1.1)*D:=by
  have:((J:Int):Rat)=((j-i:Int):Rat):=by rw[r]
  rw[ADd,AEN,<-f,<-g] at this;grind
 have t:p.2.1-p.1.1≠0:=!3
 have S:∀k,Mul J (2*N) (mP p k):=λk=>by obtain⟨x,ex,hx⟩:=(b k h1).get;obtain⟨y,u,hy⟩:=(b k h2).get;refine .mk' e (k:=y-x) ?_ (!0);rw[AEN,<-ex,<-u,s];show (pD k p.2-pD k p.1)/(p.2.1-p.1.1)*((p.2.1-p.1.1)*D)=_;rw[<-Rat.mul_assoc,AGH t];grind
 refine⟨h1.m,h2.m,D*J,ACO d e,ACu D l,λk=>⟨?_, ?_⟩⟩
 .have:=(S k).upc (c:=D) d;rw[ACy J D,ACy (2*N) D] at this;exact this
 .have a:=(b k h1).upc (c:=J) e;have m:=(S k).mul h1.m;rw[ACy J D] at m;exact(a.sub m).mono (by
   have:N*J<=N*(2*N):=ACu N l;have v:N*(2*N)=2*(N*N):=by rw[ACy 2 N,<-ACZ,ACy]
   have w:2*N*N=2*(N*N):=ACZ ..;have A:4*N*N=4*(N*N):=ACZ ..;omega)
def IF (x y z:Rat):Prop:=x-y<z/\ -z<x-y
def tZ (x y z:T3):Prop:=IF x.1 y.1 z.1/\IF x.2.1 y.2.1 z.2.1/\IF x.2.2 y.2.2 z.2.2
def lA {w:Wd}(s t:Rat):Za w s t↔(w.b.1<=s/\s<w.e.1/\w.b'.1<=t/\t<w.e'.1/\t-s<=w.l/\s-t<=w.l')/\∀k<3,IF (ba w k+sl w k*s) (dP w k+dX w k*t) (sz w k):=by
 have c:∀x:Rat,0<x\/(x=0/\(1:Int)=0)↔0<x:=λx=>⟨λz=>by rcases z with z|z;exact z;omega, .inl⟩;constructor
 .intro o;refine⟨gR o,λk hk=> ?_⟩;have cs:k=0\/k=1\/k=2:=!0
  have h:=o 6 (!1);have i:=o 7 (!1);have j:=o 8 (!1);have m:=o 9 (!1);have d:=o 10 (!1);have f:=o 11 (!1);rw[show strN 6=1 from rfl,c] at h;rw[show strN 7=1 from rfl,c] at i;rw[show strN 8=1 from rfl,c] at j;rw[show strN 9=1 from rfl,c] at m;rw[show strN 10=1 from rfl,c] at d;rw[show strN 11=1 from rfl,c] at f;simp only[Aw] at h i j m d f;unfold IF;rcases cs with rfl|rfl|rfl
  .exact ⟨!3,!3⟩
  .exact ⟨!3,!3⟩
  .exact ⟨!3,!3⟩
 .rintro ⟨⟨t1,t2,v,y,A,B⟩,g⟩ n C;have p:=g 0 (!1);have r:=g 1 (!1);have u:=g 2 (!1);unfold IF at p r u;have a:∀x:Rat,0<=x->0<x\/(x=0/\(0:Int)=0):=λx hx=>by
   rcases Rat.le_iff_lt_or_eq.mp hx with z|z
   .exact .inl z
   .exact .inr ⟨z.symm,rfl⟩
  have cs:n=0\/n=1\/n=2\/n=3\/n=4\/n=5\/n=6\/n=7\/n=8\/n=9\/n=10\/n=11:=!0
  rcases cs with rfl|rfl|rfl|rfl|rfl|rfl|rfl|rfl|rfl|rfl|rfl|rfl <;> simp only[Aw]
  .exact a _ (!3)
  .left;grind
  .exact a _ (!3)
  .left;grind
  .exact a _ (!3)
  .exact a _ (!3)
  .left;grind
  .left;grind
  .left;grind
  .left;grind
  .left;grind
  .left;grind
def Ss {p:C4×C4}{s:Rat}{y:Rat}:fA p.1 p.2 x y+cz p.1 p.2 x y*s=x+(s-p.1.1)/(p.2.1-p.1.1)*(y-x):=by unfold fA cz;rw[ADZ,ADZ];grind
def gS {q:C4×C4}(s t:Rat):Za (ES cs ds b e d p q) s t↔(p.1.1<=s/\s<p.2.1)/\(q.1.1<=t/\t<q.2.1)/\(t-s<=b.2.2/\s-t<=e.2.2)/\tZ (inter p.1 p.2 s) (inter q.1 q.2 t) (szs b e d):=by
 rw[lA];have a:∀{p:C4×C4} {s:Rat},dQ p 0+mP p 0*s=(inter p.1 p.2 s).1:=Ss;have c:∀{p:C4×C4} {s:Rat},dQ p 1+mP p 1*s=(inter p.1 p.2 s).2.1:=Ss;have f:∀{p:C4×C4} {s:Rat},dQ p 2+mP p 2*s=(inter p.1 p.2 s).2.2:=Ss;have v:=λk=>wP (cs:=cs) (ds:=ds) (b:=b) (e:=e) (d:=d) (p:=p) (q:=q) k;have w:=λk=>wQ (cs:=cs) (ds:=ds) (b:=b) (e:=e) (d:=d) (p:=p) (q:=q) k;simp only[v,w];unfold tZ;constructor
 .rintro ⟨⟨j,l,m,o,r,u⟩,n⟩;have g:=n 0 (!1);have h:=n 1 (!1);have i:=n 2 (!1);rw[a,a] at g;rw[c,c] at h;rw[f,f] at i;exact⟨⟨j,l⟩,⟨m,o⟩,⟨r,u⟩,g,h,i⟩
 .rintro ⟨⟨j,l⟩,⟨m,o⟩,⟨r,u⟩,g,h,i⟩;refine⟨⟨j,l,m,o,r,u⟩,λk hk=> ?_⟩;have cs:k=0\/k=1\/k=2:=!0
  rcases cs with rfl|rfl|rfl
  .rw [a,a];exact g
  .rw [c,c];exact h
  .rw [f,f];exact i
def tP (cs:km C4)(s:Rat)(x:T3):Prop:=∃p∈Fg cs,p.1.1<=s/\s<p.2.1/\inter p.1 p.2 s=x
def Gj (cs ds:km C4)(b e:T3)(d:Rat×Rat)(s t:Rat):Prop:=∃x y,tP cs s x/\tP ds t y/\(t-s<=b.2.2/\s-t<=e.2.2)/\tZ x y (szs b e d)
def Q3 {cs:km C4}{t:Rat}:Gj cs ds b e d s t↔∃x∈WT cs ds b e d,Za x.2.2 s t:=by
 constructor
 .rintro ⟨x,y,⟨p,hp,p1,p2,rfl⟩,⟨q,hq,c,f,rfl⟩,tm,g⟩;obtain⟨z,hz,a⟩:=kX (b:=b) (e:=e) (d:=d) hp hq;exact⟨z,hz,by rw[a,gS];exact⟨⟨p1,p2⟩,⟨c,f⟩,tm,g⟩⟩
 .rintro ⟨z,hz,o⟩;obtain⟨p,hp,q,hq,a⟩:=aI hz;rw[a,gS] at o;exact⟨_,_,⟨p,hp,o.1.1,o.1.2,rfl⟩,⟨q,hq,o.2.1.1,o.2.1.2,rfl⟩,o.2.2⟩
def xq {m:Rat}:∀(r:km C4) (a b l:C4),Gk (a::b::r)->a.1<=m->(a::b::r).getLast?=some l->(spotG a (b::r) m=some x/\m<l.1↔tP (a::b::r) m x):=by
 intro r;unfold tP;induction r with
 | nil=>
   intro a b l h ha e;cases e;have i:=(AAU.mp h).1 b (!2);simp only[J4,show Fg [b] = [] from rfl,AAw,exists_eq_left,spotG];constructor
   .rintro ⟨e,d⟩;rw[AAL (!3)] at e;cases e;exact⟨ha,d,rfl⟩
   .rintro ⟨_,d,k⟩;rw[AAL (!3)];exact⟨by rw[k],d⟩
 | cons c r ih=>
   intro a b l h ha e;have h':=AAU.mp h;have i:=h'.1 b (!2);have f:=(AAU.mp h'.2).1 c (!2);have t:=Sn h e b (!2);have cl:=Sn h e c (!2);rw[AEj] at e;rw[J4];have g:m<b.1->∀p∈Fg (b::c::r),¬p.1.1<=m:=λd p hp k=>by
    have q:=(J5 h'.2 hp).1;have:b.1<=p.1.1:=by
     rcases AAO.mp q with z|z
     .rw [z];exact AFW
     .have:=(AAU.mp h'.2).1 _ z;grind
    grind
   by_cases j:b.1<m
   .rw [show spotG a (b::c::r) m=spotG b (c::r) m by rw[spotG,AAM j],ih b c l h'.2 (!3) e];constructor
    .rintro ⟨p,hp,k⟩;exact⟨p,by simp[hp],k⟩
    .rintro ⟨p,hp,k⟩;rcases AAO.mp hp with rfl|hp
     .exact absurd k.2.1 (by show ¬m<b.1;grind)
     .exact ⟨p,hp,k⟩
   .rw [show spotG a (b::c::r) m=some (inter a b m) by rw[spotG,AAL j]];by_cases n:m<b.1
    .constructor
     .rintro ⟨e,_⟩;cases e;exact⟨(a,b),!2,ha,n,rfl⟩
     .rintro ⟨p,hp,k⟩;rcases AAO.mp hp with rfl|hp
      .exact ⟨by rw[<-k.2.2],!3⟩
      .exact absurd k.1 (g n p hp)
    .have d:m=b.1:=!3
     subst d;have s:inter a b b.1=b.2:=Ig i;have o:inter b c b.1=b.2:=Lj f;rw[s];constructor
     .rintro ⟨e,_⟩;cases e;exact⟨(b,c),by rw[J4];simp,AFW,f,o⟩
     .rintro ⟨p,hp,k⟩;rcases AAO.mp hp with rfl|hp
      .exact absurd k.2.1 (by show ¬b.1<b.1;grind)
      .rw [J4] at hp;rcases AAO.mp hp with rfl|hp
       .refine ⟨?_,!3⟩;have:=k.2.2;rw[o] at this;rw[this]
       .exfalso;have q:=(J5 (AAU.mp h'.2).2 hp).1;have:=(AAU.mp h'.2).1 _ q;have:=k.1;grind
def R9 (c:Gk cs)(h2:2<=cs.length)(d:cs.getLast?=some l):tP cs m x↔spotC cs m=some x/\m<l.1:=by
 obtain⟨a,b,r,rfl⟩:∃a b r,cs=a::b::r:=by
  match cs,h2 with
  | a::b::r,_=>exact⟨a,b,r,rfl⟩
 by_cases h:m<a.1
 .rw [EQ h];constructor
  .rintro ⟨p,hp,k,_⟩;exfalso;have q:=(J5 c hp).1;have:a.1<=p.1.1:=by
    rcases AAO.mp q with z|z
    .rw [z];exact AFW
    .have:=(AAU.mp c).1 _ z;grind
   grind
  .rintro ⟨e,_⟩;cases e
 .rw [show spotC (a::b::r) m=spotG a (b::r) m by rw[spotC,AAL h],xq r a b l c (!3) d]
def gN {y:Rat}:K9 x y z=true↔IF x y z:=by
 unfold K9 IF;rw[AA7,ADE,ADE];constructor
 .rintro ⟨a,b⟩;exact⟨a,!3⟩
 .rintro ⟨a,b⟩;exact⟨a,!3⟩
def cA {a c:C4}{r r2:km C4}{t:Rat}(u:Gk (a::r))(v:Gk (c::r2))(k:r≠ [])(o:r2≠ [])(p:(a::r).getLast?=some l)(g:(c::r2).getLast?=some j):ZX a l c j b e d ((spotC (a::r) s).getD (0,0,0)) ((spotC (c::r2) t).getD (0,0,0)) s t=true↔Gj (a::r) (c::r2) b e d s t:=by
 have t1:2<=(a::r).length:=by cases r with | nil=>exact absurd rfl k|cons=>simp
 have t2:2<=(c::r2).length:=by cases r2 with | nil=>exact absurd rfl o|cons=>simp
 have w:=λx=>R9 (m:=s) (x:=x) u t1 p;have A:=λx=>R9 (m:=t) (x:=x) v t2 g;unfold ZX Gj tZ;simp only[AA7,Bool.not_eq_true',ADE,AFZ,gN,w,A];constructor
 .rintro ⟨⟨F,c⟩,⟨G,h⟩,⟨B,C⟩,n⟩;obtain⟨x,ex⟩:=Cw k p (m:=s) (!3) (!3);obtain⟨y,f⟩:=Cw o g (m:=t) (!3) (!3);rw[ex,f] at n;exact⟨x,y,⟨ex,c⟩,⟨f,h⟩,⟨!3,!3⟩,n⟩
 .rintro ⟨x,y,⟨ex,i⟩,⟨f,h⟩,⟨B,C⟩,n⟩;have D:¬s<a.1:=λz=>by rw[EQ z] at ex;cases ex
  have E:¬t<c.1:=λz=>by rw[EQ z] at f;cases f
  rw[ex,f];exact⟨⟨D,i⟩,⟨E,h⟩,⟨!3,!3⟩,n⟩
def kU {N:Nat}(hv:Fb cs b v)(hw:Fb ds e w)(hu:Mo d u)(f:Dw 100 b)(g:Dw 100 e)(b1:Bd 100 d.1)(b2:Bd 100 d.2)(hc:∀c∈cs,Ed B c)(h:Gk cs)(h2:2<=cs.length)(hl:cs.length<=60)(i:∀c∈ds,Ed B c)(j:Gk ds)(k:2<=ds.length)(E:ds.length<=60)(l:6*B+3<=3900)(hN:N<=770)(m:∀p∈Fg cs,∀q∈Fg ds,oi N (ES cs ds b e d p q)){Q:PV->Prop}(n:(∀s t,¬Gj cs ds b e d s t)->∀ps:km (km (Int×Rat)),(WT cs ds b e d).length=ps.length->(∀y∈(WT cs ds b e d).zip ps,sQ (4*N+13) y.1.2.2 y.2)->Q (.tup [.str "apart", .tup (((WT cs ds b e d).zip ps).map Fe)]))(r:∀s t,Gj cs ds b e d s t->Bd (4*N+12) s->Bd (10*N+30) t->Q (.tup [.str "meet",fr s,fr t])):DY [v,w,u] Q:=by
 have A:(WT cs ds b e d).length<=10100:=by
  unfold WT;rw[AFa];have:∀a:km (Nat×C4×C4),(a.map λp=>((XA 0 (Fg ds)).map λq=>(p.1,q.1,ES cs ds b e d p.2 q.2)).length).sum=a.length*(Fg ds).length:=λa=>by
   induction a with
   | nil=>simp
   | cons x a ih=>simp[AAW,ACo,ADv,Jl] at ih ⊢;omega
  rw[this,Jl];have p1:(Fg cs).length<=60:=by unfold Fg;simp;omega
  have p2:(Fg ds).length<=60:=by unfold Fg;simp;omega
  have:=ADQ p1 p2;omega
 refine Xf (L:=WT cs ds b e d) (λ{Q} q=>dJ hv hw hu f g b1 b2 hc h h2 (!0) i j k (!0) l q) A hN (λx hx=> ?_) (λC ps hl hp=> ?_) (λx hx s t o bs bt=> ?_)
 .obtain ⟨p,hp,q,hq,D⟩:=aI hx;rw[D];exact m p hp q hq
 .exact n (λs t z=>by
   obtain⟨x,hx,o⟩:=Q3.mp z;exact C x hx ⟨s,t,o⟩) ps hl hp
 .exact r s t (Q3.mpr ⟨x,hx,o⟩) bs bt
end PL
namespace PL
open PySem L2 PyProof.Rows
open PL.K31
instance (priority:=2000){Q:PV->Prop}:Ws (A7 [.tape] Q) (True) (∀a,Bd 8 a->Mul 6 60 a->Q (fr a)):=⟨λ_ h=>A6 λa m=>h a (m.bd (!1) (!1)) m⟩
structure nH (b:T3):Prop where
 bd:Dw 8 b
 x0:0<=b.1
 y0:0<=b.2.1
 z0:0<=b.2.2
 mx:Mul 6 240 b.1
 my:Mul 6 240 b.2.1
 mz:Mul 6 240 b.2.2
def Jh {Q:PV->Prop}(q:∀b:T3,nH b->Q (sn b)):CT [.tape] Q:=by
 apply MJ;have a:Mul 6 240 (0:Rat):=Mul.int (n:=0) (!1) (!1);have all:∀x∈ [(0:Rat),1/2,1,1/3,3,40],Bd 8 x/\0<=x/\Mul 6 240 x:=by
  intro x hx;simp only[AAO,AA8,ABA] at hx;rcases hx with rfl|rfl|rfl|rfl|rfl|rfl
  .exact ⟨UJ,!4,a⟩
  .exact ⟨UJ,!4, .mk' (k:=3) (!1) (!4) (!1)⟩
  .exact ⟨UJ,!4, .mk' (k:=6) (!1) (!4) (!1)⟩
  .exact ⟨UJ,!4, .mk' (k:=2) (!1) (!4) (!1)⟩
  .exact ⟨UJ,!4, .mk' (k:=18) (!1) (!4) (!1)⟩
  .exact ⟨UJ,!4, .mk' (k:=240) (!1) (!4) (!1)⟩
 ac_rfl
 .exact q (0,0,0) ⟨⟨UJ,UJ,UJ⟩,(!1),(!1),(!1),a,a,a⟩
 refine GT (xs:= [(0:Rat),1/2,1,1/3,3,40]) (!0) (by show _<(6:Int);omega) λx hx=> ?_;ac_rfl;refine GT (xs:= [(0:Rat),1/2,1,1/3,3,40]) (!0) (by show _<(6:Int);omega) λy hy=> ?_;ac_rfl;refine GT (xs:= [(0:Rat),1/2,1,1/3,3,40]) (!0) (by show _<(6:Int);omega) λz hz=> ?_;ac_rfl;exact q (x,y,z) ⟨⟨(all x hx).1,(all y hy).1,(all z hz).1⟩,(all x hx).2.1,(all y hy).2.1,(all z hz).2.1,(all x hx).2.2,(all y hy).2.2,(all z hz).2.2⟩
structure xN (d:Rat×Rat):Prop where
 b1:Bd 8 d.1
 b2:Bd 8 d.2
 p1:1/3<=d.1
 p2:1/3<=d.2
 m1:Mul 6 30 d.1
 m2:Mul 6 30 d.2
 c1:Bd 3 d.1
 c2:Bd 3 d.2
def ju {Q:PV->Prop}(q:∀d:Rat×Rat,xN d->Q (.tup [fr d.1,fr d.2])):PL.F__law_apart [.tape] Q:=by
 apply PL.s_F__law_apart;have all:∀x∈ [(1:Rat),2,3/2,1/3,5],Bd 8 x/\1/3<=x/\Mul 6 30 x/\Bd 3 x:=by
  intro x hx;simp only[AAO,AA8,ABA] at hx;rcases hx with rfl|rfl|rfl|rfl|rfl
  .exact ⟨UJ,!4, .mk' (k:=6) (!1) (!4) (!1),⟨!4,!4⟩⟩
  .exact ⟨UJ,!4, .mk' (k:=12) (!1) (!4) (!1),⟨!4,!4⟩⟩
  .exact ⟨UJ,!4, .mk' (k:=9) (!1) (!4) (!1),⟨!4,!4⟩⟩
  .exact ⟨UJ,!4, .mk' (k:=2) (!1) (!4) (!1),⟨!4,!4⟩⟩
  .exact ⟨UJ,!4, .mk' (k:=30) (!1) (!4) (!1),⟨!4,!4⟩⟩
 ac_rfl;refine GT (xs:= [(1:Rat),2,3/2,1/3,5]) (!0) (by show _<(5:Int);omega) λx hx=> ?_;ac_rfl;refine GT (xs:= [(1:Rat),2,3/2,1/3,5]) (!0) (by show _<(5:Int);omega) λy hy=> ?_;ac_rfl;exact q (x,y) ⟨(all x hx).1,(all y hy).1,(all x hx).2.1,(all y hy).2.1,(all x hx).2.2.1,(all y hy).2.2.1,(all x hx).2.2.2,(all y hy).2.2.2⟩
def jx (p:B6 9 6 600 cs):B6 9 6 600 (cs.take 3):=by have:=p.two;exact⟨by simp;omega,by simp;omega,λc hc=>p.mu c (List.mem_of_mem_take hc),List.Pairwise.sublist (List.take_sublist _ _) p.ris⟩
def aF {X Y Z:A4->Prop}{Q:PV->Prop}{d f g h i:ke AV}(j:B6 9 6 600 cs)(pd:B6 9 6 600 ds)(q:∀ds b e,B6 9 6 600 ds->nH b->nH e->Q (.tup [bE cs b,bE ds e])):IA {nx:=X,rt:=Q,bk:=Y,ct:=Z} [some (.val .tape),some (.val (DE cs)),some (.val (DE ds)),d,f,g,h,i] :=by
 have k:=j.few;have c:=pd.few;have a:=jx pd;ac_rfl
 .refine Mm ?_;rw[xt];ac_rfl;refine Jh λb hb=> ?_;ac_rfl;refine Jh λe he=> ?_;ac_rfl;exact q _ b e a hb he
 .refine Jh λb hb=> ?_;ac_rfl;refine Jh λe he=> ?_;ac_rfl;exact q ds b e pd hb he
def nA {X Y Z:A4->Prop}{Q:PV->Prop}{ds:km C4}(pm0:B6 9 6 512 cs)(q:∀ds w j A B d,B6 9 6 600 ds->X [some (.val .tape),some (.val (DE cs)),some (.val (DE ds)),w,j,A,B,d]):Hz {nx:=X,rt:=Q,bk:=Y,ct:=Z} [some (.val .tape),some (.val (DE cs)),some (.val (DE ds)),none,none,none,none,none] :=by
 have p:GM 9 12 cs:=pm0.ok (!1) (!1);ac_rfl;rename_i C D l r1 E F;refine Gc 8 (!0) (!0) (!0) (!1) λb=> ?_;ac_rfl;refine GT (xs:= [(C:Rat),0,Rat.divInt r1 2]) (!0) (by show _<(3:Int);omega) λt i=> ?_;have bt:Bd 12 t:=by
  simp only[AAO,AA8,ABA] at i;rcases i with rfl|rfl|rfl
  .exact .int (!0) (!1)
  .exact uB.mono (!1)
  .exact b.mono (!1)
 have mt:Mul 6 27 t:=by
  simp only[AAO,AA8,ABA] at i;rcases i with rfl|rfl|rfl
  .exact .int (!1) (!0)
  .exact Mul.int (n:=0) (!1) (!1)
  .exact Mul.part (t:=r1) (b:=2) (c:=3) (!1) (!1) (!0)
 clear i b D l E F;ac_rfl;rename_i f m0 u p1 m1 v r2 o r;have a:∀x∈ [f,0,p1,1,0,(r2:Rat)],Mul 6 60 x:=by
  intro x hx;simp only[AAO,AA8,ABA] at hx;rcases hx with rfl|rfl|rfl|rfl|rfl|rfl
  .exact u
  .exact Mul.int (n:=0) (!1) (!1)
  .exact v
  .exact Mul.int (n:=1) (!1) (!1)
  .exact Mul.int (n:=0) (!1) (!1)
  .exact .int (!1) (!0)
 have all:∀x∈ [f,0,p1,1,0,(r2:Rat)],Bd 12 x:=by
  intro x hx;simp only[AAO,AA8,ABA] at hx;rcases hx with rfl|rfl|rfl|rfl|rfl|rfl
  .exact m0.mono (!1)
  .exact uB.mono (!1)
  .exact m1.mono (!1)
  .exact uC.mono (!1)
  .exact uB.mono (!1)
  .exact .int (!0) (!1)
 rw[show rng 0 (Int.toNat 3)= [.int 0, .int 1, .int 2] from rfl];nofun
 refine GT (xs:= [f,0,p1,1,0,(r2:Rat)]) (!0) (by show _<(6:Int);omega) λx hx=> ?_;nofun
 refine GT (xs:= [f,0,p1,1,0,(r2:Rat)]) (!0) (by show _<(6:Int);omega) λy hy=> ?_;nofun
 refine GT (xs:= [f,0,p1,1,0,(r2:Rat)]) (!0) (by show _<(6:Int);omega) λz hz=> ?_;have k:Dw 12 (x,y,z):=⟨all x hx,all y hy,all z hz⟩;have G:B6 9 6 600 (cs.map (VY t (x,y,z))):=by refine⟨↑pm0.two,↑pm0.few,λc hc=> ?_,(qJ p bt k).ris⟩;obtain⟨H,I,rfl⟩:=AAS.mp hc;have m:=pm0.mu H I;exact⟨(m.m.add mt).mono (!1),(m.x.add (a x hx)).mono (!1),(m.y.add (a y hy)).mono (!1),(m.z.add (a z hz)).mono (!1)⟩
 have J:=p.few;nofun
 clear all a hx hy hz o r m0 m1 u v mt;generalize some (AV.val (PV.lst [fr f,fr 0,fr p1,fr 1,fr 0,fr (r2:Rat)]))=j;refine B0 cor (λg vs τ=>∃d,τ= [some (.val .tape),some (.val (DE cs)),some (.val (DE ds)),some (.val (fr t)),j,some (AV.val (PV.lst [fr x,fr y,fr z])),some (.own ((g.map (VY t (x,y,z))).map cor)),d]) ?_ ?_ ⟨_,rfl⟩
 .rintro τ ⟨d,rfl⟩;ac_rfl;refine⟨VZ _, ?_⟩;ac_rfl;exact q _ _ _ _ _ _ G
 .rintro g c vs e τ R K ⟨d,rfl⟩;have O:=p.bd c (by rw[<-e];simp);have ul:g.length<=9:=by have h:=p.few;rw[<-e] at h;simp at h;omega
  have s:∀d,R [some (.val .tape),some (.val (DE cs)),some (.val (DE ds)),some (.val (fr t)),j,some (AV.val (PV.lst [fr x,fr y,fr z])),some (.own ((g.map (VY t (x,y,z))).map cor ++ [cor (VY t (x,y,z) c)])),d] :=λd=>K _ ⟨d,!2⟩;have P:Bd 12 x:=k.x;have M:Bd 12 y:=k.y;have S:Bd 12 z:=k.z;have N:((g.map (VY t (x,y,z))).map cor).length<=9:=↑ul
  generalize (g.map (VY t (x,y,z))).map cor=L at *;ac_rfl;rw[show rng 0 (Int.toNat 3)= [.int 0, .int 1, .int 2] from rfl];nofun
  rw[show (0:Int)+1=1 from rfl];nofun
  rw[show (1:Int)+1=2 from rfl];nofun
  rw[show (2:Int)+1=3 from rfl];nofun
  refine⟨OA (n:=9) N (!1), ?_⟩;nofun
  exact s _
def wN {Q:PV->Prop}(q:∀cs ds b e,B6 9 6 600 cs->B6 9 6 600 ds->nH b->nH e->Q (.tup [bE cs b,bE ds e])):Ey [.tape] Q:=by apply TN;ac_rfl;refine G3 λcs d=> ?_;ac_rfl;refine G3 λds pd=> ?_;have a:B6 9 6 600 cs:=⟨d.two,d.few,λc hc=>(d.mu c hc).mono (!1),d.ris⟩;have f:B6 9 6 600 ds:=⟨pd.two,pd.few,λc hc=>(pd.mu c hc).mono (!1),pd.ris⟩;have h:=d.few;have g:=pd.few;repeat' (first | exact nA d λds i j k l m pd=>aF a pd λds b e=>q cs ds b e a|exact aF a f λds b e=>q cs ds b e a|array_mem_dec)
def B6.y10 (p:B6 9 6 600 cs):GM 9 10 cs:=⟨p.two,p.few,λc hc=>(p.mu c hc).bd (!1) (!1),p.ris⟩
def qH (a:B6 20 12 1400 cs)(pd:B6 20 12 1400 ds)(hv:Fb cs b v)(hw:Fb ds e w)(hu:Mo d u)(g:Dw 20 b)(h:Dw 20 e)(b1:Bd 20 d.1)(b2:Bd 20 d.2)(i:Mul 12 1400 b.2.2)(j:Mul 12 1400 e.2.2)(l:∀k,Mul 12 4800 (rh (szs b e d) k)){Q:PV->Prop}(m:(∀s t,¬Gj cs ds b e d s t)->∀ps:km (km (Int×Rat)),(WT cs ds b e d).length=ps.length->(∀y∈(WT cs ds b e d).zip ps,sQ 201 y.1.2.2 y.2)->Q (.tup [.str "apart", .tup (((WT cs ds b e d).zip ps).map Fe)]))(n:∀s t,Gj cs ds b e d s t->Bd 200 s->Bd 500 t->Q (.tup [.str "meet",fr s,fr t])):DY [v,w,u] Q:=by have f:∀{cs:km C4},B6 20 12 1400 cs->∀c∈cs,Ed 11 c:=λp c hc=>(p.mu c hc).bd (!1) (!1);refine kU (N:=47) (B:=11) hv hw hu (g.mono (!1)) (h.mono (!1)) (b1.mono (!1)) (b2.mono (!1)) (f a) a.ris a.two (by have:=a.few;omega) (f pd) pd.ris pd.two (by have:=pd.few;omega) (!1) (!1) (λp hp q hq=> ?_) m n;obtain⟨m1,m2,m3⟩:=J5 a.ris hp;obtain⟨o,r,x⟩:=J5 pd.ris hq;exact nD (gj (a.mu _ m1) (a.mu _ m2) m3) (gj (pd.mu _ o) (pd.mu _ r) x) l i j (W:=30) (!1) (!1) (!1) (!1) (!1) (!1) (!1) (!1) (!1) (!1) (!1) (!1) (!1)
def B6.d12 (p:B6 9 6 600 cs):B6 20 12 1400 cs:=⟨p.two,by have:=p.few;omega,λc hc=>(p.mu c hc).dbl.mono (!1),p.ris⟩
def wA {b e:T3}{d:Rat×Rat}(b1:Mul 6 240 b.1)(b2:Mul 6 240 b.2.1)(a:Mul 6 240 e.1)(f:Mul 6 240 e.2.1)(c:Mul 6 240 d.1)(g:Mul 6 240 d.2):∀k,Mul 12 4800 (rh (szs b e d) k):=λk=>by
 rcases k with _|_|k
 .exact ((c.add (b1.add a)).dbl).mono (!1)
 .exact ((c.add (b1.add a)).dbl).mono (!1)
 .exact ((g.add (b2.add f)).dbl).mono (!1)
def MS:Fb cs b (bE cs b):=pJ cs b
def qG (a:B6 9 6 600 cs)(pd:B6 9 6 600 ds)(hb:nH b)(he:nH e)(hd:xN d)(hv:Fb cs b v)(hw:Fb ds e w)(hu:Mo d u){Q:PV->Prop}(c:(∀s t,¬Gj cs ds b e d s t)->∀ps:km (km (Int×Rat)),(WT cs ds b e d).length=ps.length->(∀y∈(WT cs ds b e d).zip ps,sQ 201 y.1.2.2 y.2)->Q (.tup [.str "apart", .tup (((WT cs ds b e d).zip ps).map Fe)]))(f:∀s t,Gj cs ds b e d s t->Bd 200 s->Bd 500 t->Q (.tup [.str "meet",fr s,fr t])):DY [v,w,u] Q:=
 qH a.d12 pd.d12 hv hw hu (hb.bd.mono (!1)) (he.bd.mono (!1)) (hd.b1.mono (!1)) (hd.b2.mono (!1)) (hb.mz.dbl.mono (!1)) (he.mz.dbl.mono (!1)) (wA hb.mx hb.my he.mx he.my (hd.m1.mono (!1)) (hd.m2.mono (!1))) c f
def bU {t:Rat}(hv:Fb cs b v)(hw:Fb ds e w)(hu:Mo d u)(hc:∀c∈cs,Ed B c)(n:∀c∈ds,Ed B c)(g:Gk cs)(h:Gk ds)(h2:2<=cs.length)(o:2<=ds.length)(hl:cs.length<=60)(z:ds.length<=60)(p:Dw 100 b)(x:Dw 100 e)(b1:Bd 100 d.1)(b2:Bd 100 d.2)(bs:Bd M s)(bt:Bd M t)(y:M+6*B+10<=1800){Q:PV->Prop}(q:∀k:kc,(k=true↔Gj cs ds b e d s t)->Q (.bl k)):DX [v,w,u,fr s,fr t] Q:=by obtain⟨a,r,l,rfl,i,j⟩:=open2 h2;obtain⟨A,C,D,rfl,m,f⟩:=open2 o;exact kW hv hw hu hc n g h i m (!0) (!0) j f p x b1 b2 bs bt y (q _ (cA g h i m j f))
end PL
namespace PL
open PySem L2 PyProof.Rows
noncomputable def xA (N:Nat)(l:Int×Int):Int×Int:=if (N:Int)<=l.2 then (1,1) else (l.1-N,l.1-l.2)
structure tW (N:Nat) (us:List (Int×Int)) (k:Nat) (l:Int×Int):Prop where
 at_:us[k]? =some l
 up:(N:Int)<=l.1
 top:∀x∈us,(N:Int)<=x.1->sv (xA N x)<=sv (xA N l)
 fst:∀j x,j<k->us[j]? =some x->(N:Int)<=x.1->sv (xA N x)<sv (xA N l)
def tW.one {N:Nat}{k:Nat}(h:tW N c k l)(h':tW N c a b):k=a/\l=b:=by
 have e:k=a:=by
  rcases Nat.lt_trichotomy k a with z|z|z
  .have:=h'.fst k l z h.at_ h.up;have:=h.top b (ACN h'.at_) h'.up;exfalso;grind
  .exact z
  .have:=h.fst a b z h'.at_ h'.up;have:=h'.top l (ACN h.at_) h.up;exfalso;grind
 subst e;have:=h.at_;rw[h'.at_] at this;exact⟨rfl,(AAt this).symm⟩
noncomputable def bck (l:Int×Int):Int×Int:=(l.2,l.1)
def below {N:Nat}{a:km (Int×Int)}{s:Rat}(h:∀l∈a,∃u,s<u/\∀t,s<t->t<u->lv l t<N):∃u,s<u/\∀t,s<t->t<u->∀l∈a,lv l t<N:=by
 induction a with
 | nil=>exact⟨s+1,!3,!2⟩
 | cons l r ih=>
   obtain⟨u,h1,h2⟩:=ih λx hx=>h x (by simp[hx]);obtain⟨v,h3,b⟩:=h l (!2);refine⟨if u<v then u else v,by split <;> assumption,λt t1 t2 x hx=> ?_⟩;have c:t<u:=by split at t2 <;> grind
   have d:t<v:=by split at t2 <;> grind
   rcases AAO.mp hx with rfl|hx
   .exact b t t1 d
   .exact h2 t t1 c x hx
structure Rw where
 b:Rat
 e:Rat
 sd:Nat
 up:Bool
noncomputable abbrev vw (u:kc):Int:=if u=true then 1 else -1
noncomputable def Xk (b e:Rat)(k:Nat):Rw:=⟨b,e,k/2,decide (k % 2=0)⟩
def Chn (b e:Rat):km Rw->Prop
 | [] =>b=e
 | r::rs=>r.b=b/\Chn r.e e rs
def Ys (N:Nat)(a:km (Int×Int))(b e:Rat)(c:km Rw):Prop:=∃k l,tW N a k l/\(((N:Int)<=l.2/\c= [Xk b e k])\/(¬(N:Int)<=l.2/\∃d f,tW N (a.map bck) d f/\c= [Xk b (b+sv (l.1-N,l.1-l.2)*(e-b)) k,Xk (b+sv (l.1-N,l.1-l.2)*(e-b)) e d]))
def Ys.one {N:Nat}(h:Ys N d b e i)(h':Ys N d b e f):i=f:=by
 obtain⟨k,l,a,c⟩:=h;obtain⟨p,r,j,m⟩:=h';obtain⟨rfl,rfl⟩:=a.one j;rcases c with⟨c1,rfl⟩|⟨c1,s,t,n,rfl⟩ <;> rcases m with⟨g,rfl⟩|⟨g,u,v,o,rfl⟩
 .rfl
 .exact absurd c1 g
 .exact absurd g c1
 .obtain ⟨rfl,rfl⟩:=n.one o;rfl
structure tz (N:Nat) (lns:List (Int×Int)) (b e:Rat) (B:Nat) (rs:List Rw):Prop where
 few:rs.length<=2
 ne:rs≠ []
 chn:Chn b e rs
 det:Ys N lns b e rs
 ok:∀r∈rs,Bd B r.b/\Bd B r.e/\b<=r.b/\r.b<r.e/\r.e<=e/\∃k l,lns[k]? =some l/\r.sd=k/2/\r.up=decide (k % 2=0)/\(N:Rat)<=lv l ((r.b-b)/(e-b))/\(N:Rat)<=lv l ((r.e-b)/(e-b))
noncomputable def pC (t:T3)(k:Nat):Rat:=if k=0 then t.1 else if k=1 then t.2.1 else t.2.2
def VT {p:Pc}(d:Dw W p.o0)(h1:Dw W p.o1){k:Nat}(e:p.lns[k]? =some l)(h:(p.N:Rat)<=lv l s):k/2<3/\1<=(vw (decide (k % 2=0)):Rat)*pC (lin p.o0 p.o1 s) (k/2):=by
 obtain⟨f,c,_⟩:=Tv d h1;have key:∀u v,u∈p.six->v∈p.six->((p.N:Rat)<=lv (C5 p.N u,C5 p.N v) s->1<=u+s*(v-u))/\((p.N:Rat)<=lv (-C5 p.N u, -C5 p.N v) s->1<= -(u+s*(v-u))):=λu v hu hv=>by
  have:=JF (s:=s) f (c u hu) (c v hv);constructor
  .intro z;have:=this.1;grind
  .intro z;have:=this.2;grind
 have g:k<6:=(AB8.mp e).1;have a:((vw true:Int):Rat)=1:=rfl;have b:((vw false:Int):Rat)= -1:=rfl;have m:∀x∈ [p.o0.1,p.o0.2.1,p.o0.2.2,p.o1.1,p.o1.2.1,p.o1.2.2],x∈p.six:=λx hx=>hx;match k,g with
 | 0,_=>cases e;refine⟨!1, ?_⟩;rw[show decide (0 % 2=0)=true from rfl,a];have:=(key _ _ (m p.o0.1 (!2)) (m p.o1.1 (!2))).1 h;show 1<=1*(p.o0.1+s*(p.o1.1-p.o0.1));grind
 | 1,_=>cases e;refine⟨!1, ?_⟩;rw[show decide (1 % 2=0)=false from rfl,b];have:=(key _ _ (m p.o0.1 (!2)) (m p.o1.1 (!2))).2 h;show 1<= -1*(p.o0.1+s*(p.o1.1-p.o0.1));grind
 | 2,_=>cases e;refine⟨!1, ?_⟩;rw[show decide (2 % 2=0)=true from rfl,a];have:=(key _ _ (m p.o0.2.1 (!2)) (m p.o1.2.1 (!2))).1 h;show 1<=1*(p.o0.2.1+s*(p.o1.2.1-p.o0.2.1));grind
 | 3,_=>cases e;refine⟨!1, ?_⟩;rw[show decide (3 % 2=0)=false from rfl,b];have:=(key _ _ (m p.o0.2.1 (!2)) (m p.o1.2.1 (!2))).2 h;show 1<= -1*(p.o0.2.1+s*(p.o1.2.1-p.o0.2.1));grind
 | 4,_=>cases e;refine⟨!1, ?_⟩;rw[show decide (4 % 2=0)=true from rfl,a];have:=(key _ _ (m p.o0.2.2 (!2)) (m p.o1.2.2 (!2))).1 h;show 1<=1*(p.o0.2.2+s*(p.o1.2.2-p.o0.2.2));grind
 | 5,_=>cases e;refine⟨!1, ?_⟩;rw[show decide (5 % 2=0)=false from rfl,b];have:=(key _ _ (m p.o0.2.2 (!2)) (m p.o1.2.2 (!2))).2 h;show 1<= -1*(p.o0.2.2+s*(p.o1.2.2-p.o0.2.2));grind
section
variable {cs ds:km C4}{d:Rat×Rat}{M W:Nat}
theorem vE:∀p∈Vu cs ds d,∀c,c∈cs\/c∈ds->¬(p.b<c.1/\c.1<p.e):=by
 intro p hp c hc z;unfold Vu at hp;by_cases h:Cg cs ds<CZ cs ds
 .rw [AAM h] at hp;unfold OO at hp;obtain⟨q,hq,rfl⟩:=AAS.mp hp;obtain⟨a,f,i,g⟩:=WX GD q hq;have j:=FI h a;have k:=FI h f;have l:q.1<c.1:=z.1;have m:c.1<q.2:=z.2;exact g c.1 (Eu.mpr (.inr (.inr ⟨!3,!3,c,hc,rfl⟩))) z
 .rw [AAL h] at hp;cases hp
structure xi (cs ds:List C4) (d:Rat×Rat) (B:Nat) (r:Rw):Prop where
 bb:Bd B r.b
 be:Bd B r.e
 lo:Cg cs ds<=r.b
 lt:r.b<r.e
 hi:r.e<=CZ cs ds
 sd:r.sd<3
 no:∀c,c∈cs\/c∈ds->¬(r.b<c.1/\c.1<r.e)
 at0:1<=(vw r.up:Rat)*pC (KM cs ds d r.b) r.sd
 xp:1<=(vw r.up:Rat)*pC (KM cs ds d r.e) r.sd
theorem JJ.far (D:JJ cs ds d M W)(a:∀m,¬HK cs ds d m){p:Pc}(hp:p∈Vu cs ds d):∀s,0<=s->s<1->∃l∈p.lns,(p.N:Rat)<=lv l s:=by
 intro s c f;have o:=D.pc p hp;have g:=o.lt;refine Classical.byContradiction λz=> ?_;have all:∀l∈p.lns,lv l s<p.N:=λl hl=>by rw[<-Rat.not_le];exact λk=>z ⟨l,hl,k⟩
 have h:=Rat.mul_nonneg c (show 0<=p.e-p.b by grind);have i:=AGj f (show 0<p.e-p.b by grind);refine a (p.b+s*(p.e-p.b)) (D.near_iff.mp ⟨p,hp,!3,!3, ?_⟩);rw[show (p.b+s*(p.e-p.b)-p.b)/(p.e-p.b)=s by grind];exact all
theorem JJ.rows (D:JJ cs ds d M W){p:Pc}(hp:p∈Vu cs ds d)(h:tz p.N p.lns p.b p.e B a):∀r∈a,xi cs ds d B r:=by intro r i;have o:=D.pc p hp;have lo:=o.lo;have hi:=o.hi;obtain⟨b1,b2,j,m,n,k,l,e,f,g,s,t⟩:=h.ok r i;have c1:=VT o.w0 o.w1 e s;have c2:=VT o.w0 o.w1 e t;rw[<-o.lin r.b j (!3),<-f,<-g] at c1;rw[<-o.lin r.e (!3) n,<-f,<-g] at c2;refine⟨b1,b2,!3,m,!3,c1.1,λc hc z=>vE p hp c hc ⟨!3,!3⟩,c1.2,c2.2⟩
end
structure nI (cs:List C4):Prop where
 ok:GM 12 22 cs
 mu:∀c∈cs,Mul 6 2000 c.1
def Mul.up {N:Nat}(h:Mul D N a):Mul (12*D) (30*N) a:=by obtain⟨b,k,rfl,hk⟩:=h;refine⟨!0,12*k, ?_,!0⟩;rw[show ((12*D:Nat):Int)=12*(D:Int) by push_cast;rfl,Rat.divInt_mul_left (!1)]
theorem Zu:∀{L:km BU},Sep L->(∀s∈L,DN B s)->(∀s∈L,∃x,s.2.2=some x)->∀t∈L,∀e,t.2.2=some e->L.any (BN · (e,0))=false
 | [],_,_,_,t,b,_,_=>by cases b
 | s::a,hs,ok,fin,t,b,e,he=>by
   have os:=ok s (!2);obtain⟨x,hx⟩:=fin s (!2);rw[ADK];rcases AAO.mp b with rfl|b
   .rw [YK hs ok fin he (!3)];have:BN t (e,0)=false:=AEs.mpr λy=>by have:=(GR os he).mp y;grind
    rw[this];rfl
   .have ih:=Zu (AAU.mp hs).2 (λs h=>ok s (by simp[h])) (λs h=>fin s (by simp[h])) t b e he;rw[ih];obtain⟨c,h1,h2⟩:=(AAU.mp hs).1 t b;have d:=((ok t (by simp[b])).e e he).1;rw[hx] at h1;cases h1;have:BN s (e,0)=false:=AEs.mpr λy=>by have:=(GR os hx).mp y;rcases h2 with h2|⟨h2,_⟩ <;> grind
    rw[this];rfl
theorem Zv:∀{L:km BU},Sep L->∀s∈L,∀t∈L,s=t\/pP s t\/pP t s
 | [],_,s,hs,_,_=>by cases hs
 | a::L,h,s,hs,t,ht=>by
   obtain⟨h1,h2⟩:=AAU.mp h;rcases AAO.mp hs with e|b
   .rcases AAO.mp ht with c|d
    .exact .inl (e.trans c.symm)
    .rw [e];exact .inr (.inl (h1 t d))
   .rcases AAO.mp ht with c|d
    .rw [c];exact .inr (.inr (h1 s b))
    .exact Zv h2 s b t d
structure MB (A B:Nat) (cs:List C4):Prop where
 m:∀c∈cs,Bd A c.1
 x:∀c∈cs,Ed B c
def fz {a b:C4}{t:Rat}(ha:Bd A a.1)(hb:Bd A b.1)(c:Ed B a)(d:Ed B b)(bt:Bd M t)(h:a.1<b.1):Dw (M+3*A+3*B+4) (inter a b t):=by
 have n:b.1-a.1≠0:=!3
 have s:=(bt.sub ha).div n (hb.sub ha);exact⟨(c.x.add (s.mul (d.x.sub c.x))).mono (!0),(c.y.add (s.mul (d.y.sub c.y))).mono (!0),(c.z.add (s.mul (d.z.sub c.z))).mono (!0)⟩
theorem RH {t:Rat}(bt:Bd M t):∀{a:C4} {r:km C4},Gk (a::r)->MB A B (a::r)->∀p,spotG a r t=some p->Dw (M+3*A+3*B+4) p
 | a, [],_,_,p,e=>by cases e
 | a,b::r,h,mb,p,e=>by
   simp only[spotG] at e;have d:=(AAU.mp h).1 b (!2);split at e
   .exact RH bt (AAU.mp h).2 ⟨λc hc=>mb.m c (by simp[hc]),λc hc=>mb.x c (by simp[hc])⟩ p e
   .cases e;exact fz (mb.m a (!2)) (mb.m b (!2)) (mb.x a (!2)) (mb.x b (!2)) bt d
def WJ {t:Rat}(bt:Bd M t)(b:Gk cs)(c:MB A B cs)(e:spotC cs t=some p):Dw (M+3*A+3*B+4) p:=by
 cases cs with
 | nil=>cases e
 | cons a r=>
   simp only[spotC] at e;split at e
   .cases e
   .exact RH bt b c p e
def pH {cs ds:km C4}{d:Rat×Rat}{n:Nat}(N:n<=100)(t1:2<=cs.length)(t2:2<=ds.length)(f1:cs.length<=n)(f2:ds.length<=n)(r1:Gk cs)(r2:Gk ds)(c1:∀c∈cs,Ed 150 c)(c2:∀c∈ds,Ed 150 c)(m1:∀c∈cs,Bd M c.1)(m2:∀c∈ds,Bd M c.1)(b1:Bd D d.1)(b2:Bd D d.2)(G:0<d.1)(H:0<d.2)(B:D<=100)(hM:M<=150)(I:∀m,Cg cs ds<=m->m<=CZ cs ds->Bd M m->∀p,spotC cs m=some p->Dw S p)(J:∀m,Cg cs ds<=m->m<=CZ cs ds->Bd M m->∀p,spotC ds m=some p->Dw S p)(hW:2*S+1+D<=1050):JJ cs ds d M (2*S+1+D) where
 c1:=c1
 c2:=c2
 r1:=r1
 r2:=r2
 t1:=t1
 t2:=t2
 f1:=!0
 f2:=!0
 m1:=m1
 m2:=m2
 b1:=b1.mono B
 b2:=b2.mono B
 p1:=G
 p2:=H
 w:=λh m C=>by
  have K:Bd M (Cg cs ds):=by obtain⟨a,r,l,rfl,j,e⟩:=open2 t1;obtain⟨k,f,o,rfl,u,b⟩:=open2 t2;exact(m1 a (!2)).mx (m2 k (!2))
  have L:Bd M (CZ cs ds):=by obtain⟨a,r,l,rfl,j,e⟩:=open2 t1;obtain⟨k,f,o,rfl,u,b⟩:=open2 t2;unfold CZ;rw[Cd e,Cd b];exact(m1 l (ADN e)).mn (m2 o (ADN b))
  have E:xk cs ds (Cg cs ds) (CZ cs ds):=by obtain⟨a,r,l,rfl,j,e⟩:=open2 t1;obtain⟨k,f,o,rfl,u,b⟩:=open2 t2;unfold Cg CZ at h ⊢;rw[Cd e,Cd b] at h ⊢;exact i9 j u e b h
  obtain⟨g,i⟩:=FI h C;have bm:Bd M m:=O1 m1 m2 K L C;obtain⟨s,es⟩:=E.one m g i;obtain⟨t,F⟩:=E.other m g i;have v:=I m g i bm s es;have A:=J m g i bm t F;have p1:d.1≠0:=!3
  have p2:d.2≠0:=!3
  unfold KM;rw[es,F];exact⟨(((v.x.sub A.x).div p1 b1)).mono (!0),(((v.y.sub A.y).div p1 b1)).mono (!0),(((v.z.sub A.z).div p2 b2)).mono (!0)⟩
 hM:=hM
 hW:=hW
structure eG (cs:List C4):Prop where
 ok:GM 12 28 cs
 mm:∀c∈cs,Bd 11 c.1
def nI.y (p:nI cs):eG cs:=⟨⟨p.ok.two,p.ok.few,λc hc=>(p.ok.bd c hc).mono (!1),p.ok.ris⟩,λc hc=>(p.mu c hc).bd (!1) (!1)⟩
def eG.mb (p:eG cs):MB 11 28 cs:=⟨p.mm,p.ok.bd⟩
end PL
namespace PL.K33
open PySem L2 PL PyProof.Rows
open PL.K31
abbrev Lx:AS:=
 (Aa (Bf (R6 (F2 (As (AN 5 DX (AB (aV 7) (AB (aV 8) (AB (aV 4) (AB (aV 12) (AB (aV 12) AM)))))))) (As (AN 5 DX (AB (aV 7) (AB (aV 8) (AB (aV 4) (AB (aV 11) (AB (aV 11) AM)))))))) (Aq (aC (.bl false))) BD)
   (Bf (As (AY bC (AN 5 DX (AB (aV 7) (AB (aV 8) (AB (aV 4) (AB (aV 9) (AB (aV 9) AM)))))) (AY O9 (aV 10) (aC (.int 1))))) (Aq (aC (.bl false))) BD))
abbrev RV:AS:=
 (Aa (Aj (AN 2 Ck (AB (Ap (AB (aC (.int 1)) (AB (aC (.int 2)) AM))) (AB (AN 2 Cm (AB (aV 9) (AB (aV 11) AM))) AM))) (Ak 12))
   Lx)
abbrev L4:AS:=
 (Aa (Bf (Gm (As (AY O9 (AY Ai (aV 6) (aC (.int 0))) (aC (.str "meet")))) (R6 (As (AY bC (AY Ai (aV 6) (aC (.int 1))) (AY Ai (aV 6) (aC (.int 2))))) (F2 (As (AN 2 Fv (AB (aV 5) (AB (AY Ai (aV 6) (aC (.int 1))) AM))))))) (Aq (aC (.bl false))) BD)
   (EK (JL (aV 5)) (HB 3 (Ab (Ak 9) (Ab (Ak 10) (Ab (Ak 11) BP)))) RV))
abbrev L3:AS:=
 (Aa (Bf (As (AY bC (AY O9 (AY Ai (aV 6) (aC (.int 0))) (aC (.str "meet"))) (AY bC (aV 5) (Ap AM)))) (Aq (aC (.bl false))) BD)
   L4)
abbrev L1:AS:=
 (Aa (Aj (AN 3 DY (AB (aV 7) (AB (aV 8) (AB (aV 4) AM)))) (Ak 6))
   L3)
abbrev L0:AS:=
 (Aa (Aj (AN 3 E5 (AB (AY Ai (aV 7) (aC (.int 0))) (AB (AY Ai (aV 8) (aC (.int 0))) (AB (aV 4) AM)))) (Ak 5))
   L1)
abbrev Lz:AS:=
 (Aa (Aj (AN 1 F__law_apart (AB (aV 3) AM)) (Ak 4))
   L0)
abbrev Ly:AS:=
 (Aa (Aj (G9 (CO (JL (AN 1 Ey (AB (aV 3) AM))) 1 [1] (Ak 0) Eg (Ap (AB (AY Ai (aV 0) (aC (.int 0))) (AB (aV 1) AM))))) (HB 2 (Ab (Ak 7) (Ab (Ak 8) BP))))
   Lz)
abbrev RW:AS:=
 (Aa (Aj (AN 2 Nf (AB (aV 0) (AB (aV 2) AM))) (Ak 3))
   Ly)
abbrev RX:AS:=
 (Aa (EK (R8 (AB (AY Cc (aC (.int 1)) (Hj (pN min) (AB (aC (.int 5)) (AB (Hj Ib (AB (aV 0) AM)) AM)))) AM)) (Ak 2) RW)
   (Aq (aC (.bl true))))
abbrev QN:AS:=
 (Aa (Aj (Ap (AB (Ap (AB (aC (.int 0)) (AB (aC (.int 1)) AM))) (AB (Ap (AB (aC (.int 0)) (AB (aC (.int 1)) AM))) (AB (Ap (AB (aC (.int 0)) (AB (aC (.int 1)) AM))) AM)))) (Ak 1))
   RX)
def Ep:AF:=An 13 QN
def V5 {Q:PV->Prop}(h:QN ⟨λ_=>Q .non,Q,λ_=>False,λ_=>False⟩ [some (.val a),none,none,none,none,none,none,none,none,none,none,none,none]):Ep [a] Q:=h
noncomputable abbrev o3:T3:=(0,0,0)
def wB:szs o3 o3 d=(d.1,d.1,d.2):=by unfold szs o3;simp only[Rat.add_zero]
def U1 {x y c:Rat}(h:0<c):absR ((x-y)/c)<1↔IF x y c:=by
 rw[MR];unfold IF;have d:(x-y)/c<1↔x-y<c:=by rw[ADf h,Rat.one_mul]
 have e: -((x-y)/c)<1↔ -(x-y)<c:=by rw[show -((x-y)/c)= -(x-y)/c by rw[ADZ,ADZ];grind,ADf h,Rat.one_mul]
 rw[d,e];constructor
 .rintro ⟨a,b⟩;exact⟨a,!3⟩
 .rintro ⟨a,b⟩;exact⟨a,!3⟩
def cG {d:Rat×Rat}(r1:Gk cs)(r2:Gk ds)(t1:2<=cs.length)(t2:2<=ds.length)(j:0<d.1)(k:0<d.2):HK cs ds d m↔Gj cs ds o3 o3 d m m:=by
 obtain⟨a,r,l,rfl,o,f⟩:=open2 t1;obtain⟨e,u,i,rfl,p,b⟩:=open2 t2;unfold HK Gj tZ Cg CZ;rw[wB,Hm,Hm,Cd f,Cd b,fW];unfold KM P3;simp only[U1 j,U1 k,R9 r1 t1 f,R9 r2 t2 b];have M1:mx a.1 e.1<=m↔a.1<=m/\e.1<=m:=by unfold mx;split <;> grind
 have M2:m<mn l.1 i.1↔m<l.1/\m<i.1:=by unfold mn;split <;> grind
 rw[M1,M2];constructor
 .rintro ⟨⟨b1,b2⟩,⟨g,h⟩,n⟩;obtain⟨x,ex⟩:=Cw o f b1 (!3);obtain⟨y,c⟩:=Cw p b b2 (!3);rw[ex,c] at n;exact⟨x,y,⟨ex,g⟩,⟨c,h⟩,⟨by show m-m<=0;grind,by show m-m<=0;grind⟩,n⟩
 .rintro ⟨x,y,⟨ex,g⟩,⟨c,h⟩,_,n⟩;have s:a.1<=m:=by
   by_cases z:m<a.1
   .rw [EQ z] at ex;cases ex
   .grind
  have t:e.1<=m:=by
   by_cases z:m<e.1
   .rw [EQ z] at c;cases c
   .grind
  rw[ex,c];exact⟨⟨s,t⟩,⟨g,h⟩,n⟩
def mD (h:Sep L)(ok:∀s∈L,DN B s)(a:∀s∈L,∃x,s.2.2=some x){s:BU}(hs:s∈L):L.any (BN · (s.1,0))=decide (s.2.1=1):=by
 obtain⟨x,hx⟩:=a s hs;have c:=((ok s hs).e x hx).1;by_cases z:s.2.1=1
 .rw [AAl z,ADO];exact⟨s,hs,(GR (ok s hs) hx).mpr ⟨.inr ⟨rfl,z⟩,c⟩⟩
 .rw [AAo z,AFU];intro t b k;obtain⟨y,hy⟩:=a t b;have k:=(GR (ok t b) hy).mp k;rcases Zv h s hs t b with rfl|⟨e,he,g⟩|⟨e,he,g⟩
  .rcases k.1 with q|q
   .grind
   .exact z q.2
  .rw [hx] at he;cases he;rcases k.1 with q|q
   .grind
   .rcases g with g|g <;> grind
  .rw [hy] at he;cases he;rcases g with g|g <;> grind
def uG (p:B6 9 6 600 cs)(p2:B6 9 6 600 ds)(hd:xN d):JJ cs ds d 10 152:=
 have q:=p.y10;have a:=p2.y10
 pH (n:=9) (S:=74) (D:=3) (!1) q.two a.two q.few a.few q.ris a.ris (λc hc=>(q.bd c hc).mono (!1)) (λc hc=>(a.bd c hc).mono (!1)) (λc hc=>(q.bd c hc).m) (λc hc=>(a.bd c hc).m) hd.c1 hd.c2 (by have:=hd.p1;grind) (by have:=hd.p2;grind) (!1) (!1) (λm _ _ bm x e=>(WJ bm q.ris ⟨λc hc=>(q.bd c hc).m,q.bd⟩ e)) (λm _ _ bm x e=>(WJ bm a.ris ⟨λc hc=>(a.bd c hc).m,a.bd⟩ e)) (!1)
instance{a:km BU}{Q:PV->Prop}:Wp (bC (.tup (a.map DU)) (.tup []) Q) (Q (.bl (!decide (a= [])))):=⟨λh=>by
 cases a with
 | nil=>exact⟨⟨rfl,rfl⟩,h⟩
 | cons x xs=>exact⟨⟨gQ 27 (x::xs),rfl⟩,h⟩⟩
def kg:nH o3:=⟨⟨UJ,UJ,UJ⟩,!1,!1,!1,Mul.int (n:=0) (!1) (!1),Mul.int (n:=0) (!1) (!1),Mul.int (n:=0) (!1) (!1)⟩
def gH (y:km Int)(hn:y.length<=63):Ep [.scr y] λx=>x= .bl true:=by
 apply V5;ac_rfl;refine SN (λi τ=>∃z:km (ke AV),z.length=11/\τ=some (.val (.scr y))::some (.val (.tup [fr 0,fr 0,fr 0]))::z) ?_ ?_ ⟨_,rfl,rfl⟩
 .rintro τ ⟨z,hz,rfl⟩;rfl
 .rintro i hi τ R I ⟨z,hz,rfl⟩;obtain⟨J,K,L,N,O,P,S,A,p,a,f,rfl⟩:∃J K L N O P S A p a f,z= [J,K,L,N,O,P,S,A,p,a,f] :=by
   match z,hz with
   | [_,_,_,_,_,_,_,_,_,_,_],_=>exact⟨_,_,_,_,_,_,_,_,_,_,_,rfl⟩
  have again:∀z:km (ke AV),z.length=11->R (some (.val (.scr y))::some (.val (.tup [fr 0,fr 0,fr 0]))::z):=λz hz=>I _ ⟨z,hz,rfl⟩;clear I;ac_rfl;refine wN λcs ds b e n pd hb he=> ?_;nofun
  refine ju λd hd=> ?_;ac_rfl;have D:=uG n pd hd;refine WR D (.self _) (.self _) (.inl rfl) λss hs=> ?_;have h:=hs.told;have sp:=au hs.ok;generalize canon 1 ss=j at *;have W:0<d.1:=by have:=hd.p1;grind
  have X:0<d.2:=by have:=hd.p2;grind
  have B:=λm=>cG (m:=m) n.ris pd.ris n.two pd.two W X;have T:=h.few;ac_rfl;refine qG n pd kg kg hd (MS (b:=o3)) (MS (b:=o3)) (.inl rfl) (λY ps _ _=> ?_) (λs t mt bs bt=> ?_)
  .have C:j= [] :=by
    cases j with
    | nil=>rfl
    | cons s j=> obtain⟨x,hx⟩:=h.fin s (!2);have Z:=((h.ok s (!2)).e x hx).1;have:(s::j).any (BN · ((s.1+x)/2,0))=true:=ADO.mpr ⟨s,!2,(GR (h.ok s (!2)) hx).mpr ⟨.inl (!3),!3⟩⟩;exact absurd ((B _).mp ((h.sem _).mp this)) (Y _ _)
   subst C;ac_rfl;exact again _ rfl
  .have st:s=t:=by obtain⟨_,_,_,_,⟨h1,h2⟩,_⟩:=mt;have h1:t-s<=0:=h1;have h2:s-t<=0:=h2;grind
   subst st;have is:=(h.sem s).mpr ((B s).mpr mt);have C:¬j= [] :=λz=>by rw[z] at is;cases is
   ac_rfl
   .rename_i z;rw[AAo C] at z;exact absurd (AAl rfl) z
   refine bi h (!1) (bs.mono (!1)) ?_;rw[is];ac_rfl;have mk:=λm (M:Nat) (bm:Bd M m) (hM:M<=1730) {Q:PV->Prop} (q:Q (.bl (j.any (BN · (m,0)))))=>bU (v:= .tup [DE cs, .tup [fr 0,fr 0,fr 0]]) (w:= .tup [DE ds, .tup [fr 0,fr 0,fr 0]]) (u:= .tup [fr d.1,fr d.2]) (b:=o3) (e:=o3) (d:=d) (s:=m) (t:=m) MS MS (.inl rfl) n.y10.bd pd.y10.bd n.ris pd.ris n.two pd.two (by have:=n.few;omega) (by have:=pd.few;omega) (kg.bd.mono (!1)) (kg.bd.mono (!1)) (hd.b1.mono (!1)) (hd.b2.mono (!1)) bm bm (!0) (Q:=Q) λk hk=>by
    have:k=j.any (BN · (m,0)):=by rw[ADX,hk,h.sem,B]
    rw[this];exact q
   have r:=h.ok;have g:=h.fin;have E:=λs hs=>mD sp r g (s:=s) hs;have en:=λs hs x hx=>Zu sp r g s hs x hx;refine B0 DU (λus vs τ=>∃A p a f l:ke AV,τ= [some (.val (.scr y)),some (.val (.tup [fr 0,fr 0,fr 0])),some (.val (.int (0+i))),some (.val .tape),some (.val (.tup [fr d.1,fr d.2])),some (.val (.tup (j.map DU))),some (.val (.tup [.str "meet",fr s,fr s])),some (.val (.tup [DE cs, .tup [fr 0,fr 0,fr 0]])),some (.val (.tup [DE ds, .tup [fr 0,fr 0,fr 0]])),p,a,f,l]) ?_ ?_ ⟨none,_,_,_,_,rfl⟩
   .rintro τ ⟨_,_,_,_,_,rfl⟩;exact again _ rfl
   .rintro us c vs ec τ R' U ⟨_,p,a,f,l,rfl⟩;have hc:c∈j:=by rw[<-ec];simp
    obtain⟨x,hx⟩:=g c hc;have o:=r c hc;have b1:=o.b;have Z:=(o.e x hx).1;have b2:=(o.e x hx).2;have bm:Bd (2*492+4) ((c.1+x)/2):=Xg b1 b2;have e2:(1/2:Rat)*(c.1+x)=(c.1+x)/2:=!3
    have m1:j.any (BN · ((c.1+x)/2,0))=true:=ADO.mpr ⟨c,hc,(GR o hx).mpr ⟨.inl (!3),!3⟩⟩;have m2:=en c hc x hx;have m3:=E c hc;have F:=λp a f l=>U _ ⟨none,p,a,f,l,rfl⟩;clear U;rw[show DU c= .tup [fr c.1, .int c.2.1,fr x] by unfold DU;rw[hx];rfl];have bh:Bd 8 (1/2:Rat):=UJ;have G:Bd 492 c.1:=b1;have H:Bd 492 x:=b2;have bs2:Bd 985 (c.1+x):=G.add H;ac_rfl;rw[e2];ac_rfl;refine mk _ _ bm (!1) ?_;rw[m1];ac_rfl;refine mk _ _ b2 (!1) ?_;rw[m2];ac_rfl;refine mk _ _ b1 (!1) ?_;rw[m3];ac_rfl;exact F _ _ _ _
end PL.K33
section
namespace K33
open PySem L2 PL PL.K33 PyProof.Rows
open PL.K31
open PyProof.Rows
def Cz {N Q:km Str}{s:Scope}(a:s.kind= .function:=by rfl)(b:s.isCoroutine=false:=by rfl)(c:s.isGenerator=false:=by rfl)(d:N.Nodup:=by decide +kernel)(e:N.take Q.length=Q:=by rfl)(f:∀x∈Q,s.names.lookup x=some .local\/s.names.lookup x=some .cell:=by decide +kernel)(g:∀y∈s.names,y.2≠ .free:=by decide +kernel):DK N Q s:=⟨a,b,c,d,e,f,g⟩
section
variable (P:gn)(w:fe)(K:AAJ)(Z:Str->ke kj)(Y:Wf)(n:Nat)
abbrev Df:=Has P w K Z Y n "_law_draw" ["_law_tape_here","_law_many"] (CA K 2 BI)
abbrev SZ:=Has P w K Z Y n "_law_apart" ["_law_tape_here"] (CA K 1 F__law_apart)
abbrev U9:=Has P w K Z Y n "_law_less" ["_law_one","_law_other"] (CA K 2 Am)
abbrev bH:=Has P w K Z Y n "_law_in" ["_law_stretches","_law_m"] (CA K 2 Fv)
abbrev EL:=Has P w K Z Y n "_law_part" ["_law_top","_law_bottom"] (CA K 2 BM)
abbrev Ny:=Has P w K Z Y n "_law_product" ["_law_one","_law_other"] (CA K 2 Ck)
abbrev Ic:=Has P w K Z Y n "_law_sum" ["_law_one","_law_other"] (CA K 2 Cm)
abbrev VC:=Has P w K Z Y n "_law_tape" ["_law_script","_law_k"] (CA K 2 Nf)
abbrev Px:=Has P w K Z Y n "_law_bounds" ["_law_tape_here"] (CA K 1 CT)
abbrev Jp:=Has P w K Z Y n "_law_place" ["_law_tape_here"] (CA K 1 A7)
abbrev VB:=Has P w K Z Y n "_law_span" ["_law_tape_here"] (CA K 1 FP)
abbrev VA:=Has P w K Z Y n "_law_plan" ["_law_tape_here"] (CA K 1 EG)
abbrev XE:=Has P w K Z Y n "_law_two" ["_law_tape_here"] (CA K 1 Ey)
abbrev CP:=Has P w K Z Y n "before" ["one","other"] (CA K 2 Am)
abbrev Nz:=Has P w K Z Y n "common" ["one","other"] (CA K 2 Fw)
abbrev K3:=Has P w K Z Y n "part" ["top","bottom"] (CA K 2 Fa)
abbrev GQ:=Has P w K Z Y n "minus" ["one","other"] (CA K 2 Bw)
abbrev Ie:=Has P w K Z Y n "negative" ["number"] (CA K 1 CG)
abbrev Pz:=Has P w K Z Y n "is_one_time" ["one","other","s","t"] (CA K 4 DA)
abbrev XH:=Has P w K Z Y n "is_there" ["plan","m"] (CA K 2 D2)
abbrev K4:=Has P w K Z Y n "plus" ["one","other"] (CA K 2 D4)
abbrev Qu:=Has P w K Z Y n "size_of" ["apart","side"] (CA K 2 CU)
abbrev N0:=Has P w K Z Y n "sizes_of" ["one","other","apart"] (CA K 3 D5)
abbrev Sc:=Has P w K Z Y n "over" ["one","other"] (CA K 2 GK)
abbrev Sd:=Has P w K Z Y n "times" ["one","other"] (CA K 2 FR)
abbrev N1:=Has P w K Z Y n "spot_between" ["former","latter","m"] (CA K 3 Dk)
abbrev Qv:=Has P w K Z Y n "spot_at" ["plan","m"] (CA K 2 D6)
abbrev bL:=Has P w K Z Y n "is_meet" ["one","other","apart","s","t"] (CA K 5 DX)
abbrev fj:=Has P w K Z Y n "summed" ["one","many","other","more"] (CA K 4 G6)
abbrev Qt:=Has P w K Z Y n "crossed" ["low","high","at"] (CA K 3 Eo)
abbrev XG:=Has P w K Z Y n "is_never" ["plane"] (CA K 1 D1)
abbrev Qw:=Has P w K Z Y n "turn_of" ["plane","at"] (CA K 2 Dd)
abbrev Sa:=Has P w K Z Y n "is_tighter" ["plane","other","at"] (CA K 3 Dj)
abbrev N2:=Has P w K Z Y n "tightest" ["planes","at","sign"] (CA K 3 Cn)
abbrev XF:=Has P w K Z Y n "fault_in" ["planes","at"] (CA K 2 Dz)
abbrev VH:=Has P w K Z Y n "side_form" ["wedge","number"] (CA K 2 BO)
abbrev VI:=Has P w K Z Y n "time_form" ["wedge","number"] (CA K 2 EJ)
abbrev bJ:=Has P w K Z Y n "form_of" ["wedge","number"] (CA K 2 Fx)
abbrev fi:=Has P w K Z Y n "placed" ["plane","at","value"] (CA K 3 EI)
abbrev Go:=Has P w K Z Y n "shared_bottom" ["numbers"] (CA K 1 BS)
abbrev XJ:=Has P w K Z Y n "plane_of" ["form","strict","number"] (CA K 3 E2)
abbrev ZF:=Has P w K Z Y n "whole" ["n"] (CA K 1 Hi)
abbrev N3:=Has P w K Z Y n "told_weights" ["weights"] (CA K 1 Co)
abbrev XM:=Has P w K Z Y n "range_in" ["planes","at"] (CA K 2 E3)
abbrev XS:=Has P w K Z Y n "value_in" ["planes","at"] (CA K 2 Cp)
abbrev Js:=Has P w K Z Y n "weights_by_time" ["wedge"] (CA K 1 Bx)
abbrev bQ:=Wn P w K Z Y n "without" ["planes","at","most"] 2 (CA K 3 Er)
abbrev bM:=Has P w K Z Y n "meet_in" ["wedge"] (CA K 1 Fy)
abbrev ME:=Has P w K Z Y n "piece_between" ["former","latter"] (CA K 2 Bs)
abbrev VF:=Has P w K Z Y n "pieces_of" ["plan"] (CA K 1 Dc)
abbrev VJ:=Has P w K Z Y n "wedges_of" ["one","other","apart"] (CA K 3 De)
abbrev bN:=Has P w K Z Y n "meet_of" ["one","other","apart"] (CA K 3 DY)
abbrev VD:=Has P w K Z Y n "lesser" ["one","other"] (CA K 2 Ez)
abbrev VE:=Has P w K Z Y n "moment_at" ["begin","end","share"] (CA K 3 DZ)
abbrev bO:=Has P w K Z Y n "near_in" ["piece"] (CA K 1 Fz)
abbrev XI:=Has P w K Z Y n "lines_of" ["first","last"] (CA K 2 E1)
abbrev bP:=Has P w K Z Y n "offs_at" ["one","other","apart","m"] (CA K 4 F0)
abbrev bK:=Has P w K Z Y n "greater" ["one","other"] (CA K 2 Cj)
abbrev XO:=Has P w K Z Y n "together" ["one","other"] (CA K 2 D7)
abbrev Jr:=Has P w K Z Y n "corners_between" ["plan","begin","end"] (CA K 3 Bu)
abbrev Py:=Has P w K Z Y n "count_below" ["numbers","number"] (CA K 2 C9)
abbrev VG:=Has P w K Z Y n "rising" ["numbers"] (CA K 1 F1)
abbrev kB:=Has P w K Z Y n "turns" ["one","other","begin","end"] (CA K 4 JZ)
abbrev fh:=Has P w K Z Y n "pieces" ["one","other","apart"] (CA K 3 G5)
abbrev XN:=Has P w K Z Y n "steps_of" ["stretches"] (CA K 1 Hh)
abbrev fg:=Has P w K Z Y n "levels" ["stretches"] (CA K 1 G4)
abbrev bI:=Has P w K Z Y n "counted" ["stretches","n"] (CA K 2 En)
abbrev XQ:=Has P w K Z Y n "told_set" ["stretches"] (CA K 1 E4)
abbrev XR:=Has P w K Z Y n "too_near" ["one","other","apart"] (CA K 3 E5)
end
section
variable {P:gn}{w:fe}{K:AAJ}{Z:Str->ke kj}{Y:Wf}{n m:Nat}{f:kf}{U:FuncData}
theorem KC:DK ["_law_tape_here","_law_many","_law_once","_law_found"] ["_law_tape_here","_law_many"] (Ar FW):=Cz
theorem Sw (F:Wm K "_law_draw" "_law_draw" FW f U):Du P w K Z Y MP (n+1) f U ["_law_tape_here","_law_many"] (CA K 2 BI):=by
 have k:=KC.nd;refine F.ok KC (λvs H Q E h=> ?_) (λu A outer s H vs Q E G h=> ?_)
 .obtain ⟨T,M,xs,v,_,_,r,hl,_⟩:=h;rw[r.length,hl] <;> rfl
 obtain⟨T,M,xs,v,va,_,r,hl,hF,hQ⟩:=h;unfold BI at hF;split at hF <;> first | exact hF.elim|skip
 rename_i m;obtain⟨⟨m0,m1⟩,hF⟩:=hF;cases r with
 | cons r j=>
 cases j with
 | cons r2 j=>
 cases j;cases r2;cases r with
 | tape tp=>
 rename_i p;obtain⟨d,x,hp,l,y,z⟩:=va.tp p tp;refine⟨_,(BW (Zk (Md ng (Ln FT (pv 0) A8 (λ_ _=>rfl)) A8 (Cs _)) (BW (Fh (i:=3) k rfl (Or.inl rfl) (Bn GW (Ln FT (pv 0) A8 (λ_ _=>rfl)) (pv 1)))
  (BW (TH (Bn gc (Ln FT (pv 0) A8 (λ_ _=>rfl)) (pv 1)) (X2 (pv 0) A8 KF))
  (Ej (OT (pv 3))))) Mc)
  (BW (TH (Bn GW (Bn HM (Bn Hq (Ln FT (pv 0) A8 (λ_ _=>rfl)) A8) A8) A8) (X2 (pv 0) A8 KF))
  (BW (Fh (i:=2) k rfl (Or.inl rfl) (Bn GW (Bn Hq (Ln FT (pv 0) A8 (λ_ _=>rfl)) (Bn HM (Bn GW (Ln FT (pv 0) A8 (λ_ _=>rfl)) A8) A8)) A8))
  (Ej (OT (Bn GW (Bn GW (Bn Hq (pv 2) (Bn HM (Bn GW (pv 2) A8) A8)) A8) (pv 1))))))), ?_⟩
 have e:∀(r d' g:Int),0<=r->r<m->0<=d'->0<=g->g<2147483647->Q (.int r) (upd H p (.lst [.int d', .int g])):=λr d' g B r1 a b c=>
  hQ _ (.int r) T _ (i6 va.tp tp a b c) (.int r) (hF r B r1)
 refine⟨_,rfl,p,_,_,_,rfl,rfl,GH.of hp,rfl,_,_,rfl,rfl,_,rfl, ?_⟩;refine uo (λc=> ?_) (λc=> ?_)
 .refine ⟨_,rfl,p,_,_,_,rfl,rfl,GH.of hp,rfl,_,rfl,_,_,rfl,rfl,m0, ?_⟩;refine⟨_,rfl,p,_,_,_,rfl,rfl,GH.of hp,rfl,_,rfl,_,_,rfl,rfl,⟨m0,!0⟩, ?_⟩;refine⟨_,rfl,p,_,_,_,rfl,rfl,hp,rfl, ?_⟩;exact⟨_,rfl,e _ _ _ (AEt _ (!0)) (AEu _ m0) (Int.ediv_nonneg l (!0)) y z⟩
 .refine ⟨_,rfl,p,_,_,_,rfl,rfl,GH.of hp,rfl,_,_,rfl,rfl, .inl (.inr ⟨!1,!1⟩),_,_,rfl,rfl,_,_,rfl,rfl,(show (0:Int)<2147483647 by decide), ?_⟩;refine⟨_,rfl,p,_,_,_,rfl,rfl,hp,rfl, ?_⟩;have o:0<=(x*48271+12345) % 2147483647:=AEt _ (!1);have y1:(x*48271+12345) % 2147483647<2147483647:=AEu _ (!1);have t:upd H p (.lst ([V.int d,V.int x].set (Int.toNat 1) (V.int ((x*48271+12345) % 2147483647)))) p=some (.lst [.int d, .int ((x*48271+12345) % 2147483647)]):=Ad;have C:0<=(x*48271+12345) % 2147483647*((x*48271+12345) % 2147483647 % 1009+3) % 2147483629:=AEt _ (!1);have D:(x*48271+12345) % 2147483647*((x*48271+12345) % 2147483647 % 1009+3) % 2147483629<2147483629:=AEu _ (!1);refine⟨_,rfl,p,_,_,_,rfl,rfl,GH.of t,rfl,_,rfl,p,_,_,_,rfl,rfl,GH.of t,rfl,_,_,rfl,rfl,(show (0:Int)<1009 by decide),_,_,rfl,rfl,_,_,rfl,rfl, .inl (.inl (Oq o y1)),_,_,rfl,rfl,(show (0:Int)<2147483629 by decide), ?_⟩;refine⟨_,rfl,_,rfl,_,_,rfl,rfl,(show (0:Int)<997 by decide),_,_,rfl,rfl,_,_,rfl,rfl, .inl (.inl (Oq C (Int.lt_trans D (!1)))),_,_,rfl,rfl,(show (0:Int)<998244353 by decide),_,rfl,_,_,rfl,rfl,m0, ?_⟩;exact e _ _ _ (AEt _ (!0)) (AEu _ m0) l o y1
theorem C7 {K:AAJ}{q:Str}{st:Stmt}{N:km Str}{k:Nat}(F:Wm K x q st f U)(S:DK N (N.take n) (Ar st))(a:n=(N.take n).length)(h:∀(v:kj) (A:Tb) (o:km Env) (s:ki) (H:Hp) (E:XK),Room k (A.deeper (envOfC q (Ar st) s.heap.objs.size f v))->N.Nodup->ab (Pt MP P w K Z Y N q (Ar st) f v A o s H E).nox (CJ st) b):Du P w K Z Y MP (k+1) f U (N.take n) (CA K n (An N.length b)):=
 j3 F S a λv A o s H E r=>h v A o s H E r S.nd
abbrev Z1 (K:AAJ)(x:Str)(s:Stmt)(f:kf)(d:FuncData):=Wm K x x s f d
abbrev Z2 (P:gn)(w:fe)(K:AAJ)(Z:Str->ke kj)(b:Wf)(n:Nat)(f:kf)(d:FuncData)(N:km Str)(k:Nat)(F:AF):=Du P w K Z b MP (n+1) f d (N.take k) (CA K k F)
theorem P4 (F:Z1 K "_law_apart" GX f U)(a:Df P w K Z Y n):Z2 P w K Z Y n f U ["_law_tape_here","_law_some"] 1 F__law_apart:=C7 F Cz rfl λ_ _ _ _ _ _ b c=>(AL (CB 1 c (EB (Bh (A5 (AW (Ao AH AH)) (A5 (AW (Ao AH AH)) (DG (AW (Ao AH AH)) (AW (Ao AH AH)) (AW (Ao AH AH)))))))) (AR (AX (AW (Ao (AU (AJ 1) (AK a b rfl (Ao (AJ 0) AH))) (AU (AJ 1) (AK a b rfl (Ao (AJ 0) AH))))))))
theorem Sx (F:Z1 K "_law_less" HS f U):Z2 P w K Z Y n f U ["_law_one","_law_other"] 2 Am:=C7 F Cz rfl λ_ _ _ _ _ _ _ _=>(AR (AX (EW GB (Ag BG (AU (AJ 0) AH) (AU (AJ 1) AH)) (Ag BG (AU (AJ 1) AH) (AU (AJ 0) AH)) (Cs _))))
theorem Xm (F:Z1 K "_law_in" LF f U)(c:U9 P w K Z Y n):Z2 P w K Z Y n f U ["_law_stretches","_law_m","_law_begin","_law_held","_law_end"] 2 Fv:=C7 F Cz rfl λ_ _ _ _ _ _ a b=>(AL (Ba AAe rfl (Dv (AJ 0)) (Bi (n:=3) rfl (AZ (Cv 2 b) (AZ (Cv 3 b) (AZ (Cv 4 b) BL)))) (AR (A9 (JH (Ge (BR (AK c a rfl (Ao (AJ 1) (AJ 4)))) (Ek (JH (Ox (BR (AK c a rfl (Ao (AJ 2) (AJ 1)))) (LX (JH (Ge (Et (Ec a) (AJ 3) AH) (Ek (Et (Ec a) (AJ 2) (AJ 1))))))))))) (AR (AX IK)) Ay))) (AR (AX IK)))
theorem Sy (F:Z1 K "_law_part" HU f U)(b:Z "abs" =none)(c:Z "int" =none):Z2 P w K Z Y n f U ["_law_top","_law_bottom","_law_sign","_law_one","_law_other"] 2 BM:=C7 F Cz rfl λ_ _ _ _ _ _ _ a=>(AL (YR (i:=3) (j:=4) rfl a rfl rfl (!1) rfl rfl (Ao (BX Oh rfl b boot_abs (Bo (AJ 0))) (BX Oh rfl b boot_abs (Bo (AJ 1)))) rfl) (AL (KI AAe (Et IL (AJ 4) AH) (AR (YR (i:=3) (j:=4) rfl a rfl rfl (!1) rfl rfl (Ao (AJ 4) (Ag YQ (AJ 3) (AJ 4))) rfl))) (AL (CB 2 a (Ag CL AH (Ag BG AH (Bt rC rfl c boot_int (Bo (EW GB (AJ 1) AH (Cs _))))))) (AR (AX (AW (Ao (Ag Ds (Ag BG (AJ 2) (AJ 0)) (AJ 3)) (Ag Ds (Ag BG (AJ 2) (AJ 1)) (AJ 3)))))))))
theorem MG (F:Z1 K "_law_product" FA f U)(a:EL P w K Z Y n):Z2 P w K Z Y n f U ["_law_one","_law_other"] 2 Ck:=C7 F Cz rfl λ_ _ _ _ _ _ b _=>(AR (AX (AK a b rfl (Ao (Ag BG (AU (AJ 0) AH) (AU (AJ 1) AH)) (Ag BG (AU (AJ 0) AH) (AU (AJ 1) AH))))))
theorem Vb (F:Z1 K "_law_sum" Io f U)(a:EL P w K Z Y n):Z2 P w K Z Y n f U ["_law_one","_law_other"] 2 Cm:=C7 F Cz rfl λ_ _ _ _ _ _ b _=>(AR (AX (AK a b rfl (Ao (Ag Bl (Ag BG (AU (AJ 0) AH) (AU (AJ 1) AH)) (Ag BG (AU (AJ 1) AH) (AU (AJ 0) AH))) (Ag BG (AU (AJ 0) AH) (AU (AJ 1) AH))))))
theorem KD:DK ["_law_script","_law_k","_law_cell","_law_digits"] ["_law_script","_law_k"] (Ar FX):=Cz
theorem S2 (F:Wm K "_law_tape" "_law_tape" FX f U)(l:Z "abs" =none)(t:Z "int" =none)(u:Z "len" =none):Du P w K Z Y MP (n+1) f U ["_law_script","_law_k"] (CA K 2 Nf):=by
 have g:=KD.nd;refine F.ok KD (λvs H Q E h=> ?_) (λv A outer s H vs Q E z h=> ?_)
 .obtain ⟨T,M,xs,x,_,_,r,hl,_⟩:=h;rw[r.length,hl] <;> rfl
 obtain⟨T,M,xs,x,va,_,r,hl,hF,hQ⟩:=h;unfold Nf at hF;split at hF <;> first | exact hF.elim|skip
 rename_i d k;obtain⟨⟨B,C⟩,hF⟩:=hF;cases r with
 | cons r j=>
 cases j with
 | cons r2 j=>
 cases j;cases r2;obtain⟨a,rfl,o⟩:=iQ r;refine⟨_,(BW (Fh (i:=2) g rfl (Or.inl rfl) A8)
  (BW (Zk (Md nh (pv 1) (HN Ji rfl u ACg (Bj (pv 0) D9)) (Cs _)) (Ej (Fh (i:=2) g rfl (Or.inl rfl) (Ln FT (pv 0) (pv 1) (λ_ _=>rfl)))) Mc)
  (BW (Fh (i:=3) g rfl (Or.inl rfl) (Bn Hq (HN Nr rfl l boot_abs (Bj (pv 2) D9)) (F7 Qj rfl t PyProof.Rows.boot_int (Bj (Zg nZ (HN Nr rfl l boot_abs (Bj (pv 2) D9)) (Bn qY A8 A8) (Cs _)) D9))))
  (Ej (OT (gu (Bj (pv 3) (Bj (Bn GW (Bn Hq (Bn GW (Bn HM (Bn HM (pv 2) (Bn Hq A8 (pv 1))) A8) A8) A8) A8) D9)))))))), ?_⟩
 have hl:(d.map V.int).length=d.length:=AAT _;have e:∀(c:Int) (p:kf),H p=none->Q (.ref p) (upd H p (.lst [.int ((if c<0 then -c else c)*(if decide ((10:Int)^18<=(if c<0 then -c else c)) then 1 else 0)), .int ((c+7919*k+1) % 2147483647*48271 % 2147483647)])):=λc p hp=>
  hQ _ .tape (λb=>T b\/b=p) _ (i5 va.tp hp (Int.mul_nonneg (by split <;> omega) (b01 _)) (AEt _ (!1)) (AEu _ (!1))) (.tape (.inr rfl)) hF
 refine⟨_,rfl,_,rfl,a,_,rfl, .inl o,_,_,rfl,rfl,_,rfl, ?_⟩;refine uo (λc=> ?_) (λc=> ?_)
 .have y:k<(((d.map V.int).length:Nat):Int):=ACH c;rw[hl] at y;have hk:k.toNat<d.length:=!0
  have hv:Jf (d.map V.int) k=some (.int d[k.toNat]):=by
   have q:Jf (d.map V.int) ((k.toNat:Nat):Int)=some (.int d[k.toNat]):=DL (by rw[AAu,AAi hk] <;> rfl)
   rwa [show ((k.toNat:Nat):Int)=k by omega] at q
  refine⟨_,rfl,_,rfl,a,_,_,_,rfl,rfl,o,hv, ?_⟩;refine⟨_,rfl,_,rfl,_,rfl,_,rfl,_,_,rfl,rfl,⟨!1,!1,!1⟩,_,_,rfl,rfl, .inr ⟨_,rfl,_,_,rfl,rfl, .inl (.inr (b64 _)), ?_⟩⟩;exact⟨_,rfl,_,rfl,_,rfl,_,_,rfl,rfl, .inl (.inl ⟨!1,!1⟩),_,_,rfl,rfl,_,_,rfl,rfl,_,_,rfl,rfl,(show (0:Int)<2147483647 by decide),_,_,rfl,rfl, .inl (.inr ⟨!1,!1⟩),_,_,rfl,rfl,(show (0:Int)<2147483647 by decide),(show 2<=sizeLine by decide),λp hp=>e _ p hp⟩
 .refine ⟨_,rfl,_,rfl,_,rfl,_,rfl,_,_,rfl,rfl,⟨!1,!1,!1⟩,_,_,rfl,rfl, .inr ⟨_,rfl,_,_,rfl,rfl, .inl (.inr (b64 _)), ?_⟩⟩;exact⟨_,rfl,_,rfl,_,rfl,_,_,rfl,rfl, .inl (.inl ⟨!1,!1⟩),_,_,rfl,rfl,_,_,rfl,rfl,_,_,rfl,rfl,(show (0:Int)<2147483647 by decide),_,_,rfl,rfl, .inl (.inr ⟨!1,!1⟩),_,_,rfl,rfl,(show (0:Int)<2147483647 by decide),(show 2<=sizeLine by decide),λp hp=>e 0 p hp⟩
theorem OI (F:Z1 K "_law_bounds" Fj f U)(b:Df P w K Z Y n):Z2 P w K Z Y n f U ["_law_tape_here","_law_some"] 1 CT:=C7 F Cz rfl λ_ _ _ _ _ _ a c=>(AL (CB 1 c (EB (Bh (A5 (AW (Ao AH AH)) (A5 (AW (Ao AH AH)) (A5 (AW (Ao AH AH)) (DG (AW (Ao AH AH)) (AW (Ao AH AH)) (AW (Ao AH AH))))))))) (AL (A9 (Et (Ec a) (AK b a rfl (Ao (AJ 0) AH)) AH) (AR (AX (AW (DG (AW (Ao AH AH)) (AW (Ao AH AH)) (AW (Ao AH AH)))))) Ay) (AR (AX (AW (DG (AU (AJ 1) (AK b a rfl (Ao (AJ 0) AH))) (AU (AJ 1) (AK b a rfl (Ao (AJ 0) AH))) (AU (AJ 1) (AK b a rfl (Ao (AJ 0) AH)))))))))
theorem P5 (F:Z1 K "_law_place" GY f U)(b:Df P w K Z Y n)(c:EL P w K Z Y n):Z2 P w K Z Y n f U ["_law_tape_here","_law_kind"] 1 A7:=C7 F Cz rfl λ_ _ _ _ _ _ a d=>(AL (CB 1 d (AK b a rfl (Ao (AJ 0) AH))) (AL (A9 (Et GB (AJ 1) AH) (AR (AX (AW (Ao (Ag CL (AK b a rfl (Ao (AJ 0) AH)) AH) AH)))) Ay) (AL (A9 (Et (Ec a) (AJ 1) AH) (AR (AX (AK c a rfl (Ao (Ag CL (AK b a rfl (Ao (AJ 0) AH)) AH) AH)))) Ay) (AR (AX (AK c a rfl (Ao (Ag CL (AK b a rfl (Ao (AJ 0) AH)) AH) AH)))))))
theorem S1 (F:Z1 K "_law_span" HW f U)(b:Df P w K Z Y n)(c:EL P w K Z Y n):Z2 P w K Z Y n f U ["_law_tape_here","_law_way"] 1 FP:=C7 F Cz rfl λ_ _ _ _ _ _ a d=>(AL (CB 1 d (AK b a rfl (Ao (AJ 0) AH))) (AL (A9 (Et GB (AJ 1) AH) (AR (AX (AW (Ao (Ag Bl AH (AK b a rfl (Ao (AJ 0) AH))) AH)))) Ay) (AR (AX (AK c a rfl (Ao (Ag Bl AH (AK b a rfl (Ao (AJ 0) AH))) (Ag CL (AJ 1) AH)))))))
theorem S0 (F:Z1 K "_law_plan" HV f U)(d:Df P w K Z Y n)(c:Jp P w K Z Y n)(e:VB P w K Z Y n)(g:Ic P w K Z Y n)(h:Z "len" =none)(j:Z "tuple" =none):Z2 P w K Z Y n f U ["_law_tape_here","_law_many","_law_m","_law_spot","_law_corners","_law_way"] 1 EG:=C7 F Cz rfl λ_ _ _ _ _ _ a b=>(AL (CB 1 b (Ag Bl AH (AK d a rfl (Ao (AJ 0) AH)))) (AL (A9 (Et (Ec a) (AK d a rfl (Ao (AJ 0) AH)) AH) (AR (CB 1 b (Ag Bl AH (AK d a rfl (Ao (AJ 0) AH))))) Ay) (AL (CB 2 b (AW (Ao (AK d a rfl (Ao (AJ 0) AH)) AH))) (AL (CB 3 b (EB (Bh (DG (AK c a rfl (Bo (AJ 0))) (AK c a rfl (Bo (AJ 0))) (AK c a rfl (Bo (AJ 0))))))) (AL (FF (i:=4) b rfl (Or.inl rfl) (Bh (Bo (AW (A5 (AJ 2) (DG (AU (AJ 3) AH) (AU (AJ 3) AH) (AU (AJ 3) AH))))))) (AL (KI AAe (Et GB (BX Hd rfl h ACg (Bo (AJ 4))) (AJ 1)) (AL (CB 2 b (AK g a rfl (Ao (AJ 2) (AK e a rfl (Bo (AJ 0)))))) (AL (CB 5 b (AK d a rfl (Ao (AJ 0) AH))) (AL (A9 (Et IL (AJ 5) AH) (AR (CB 3 b (EB (Bh (DG (AK c a rfl (Bo (AJ 0))) (AK c a rfl (Bo (AJ 0))) (AK c a rfl (Bo (AJ 0)))))))) (AR (A9 (Et IL (AJ 5) AH) (AR (CB 3 b (Ag Bl (Ag Bl (Om (AJ 3) rQ (rR (Ag CL (AJ 5) AH))) (EB (Bh (Bo (AK c a rfl (Bo (AJ 0))))))) (Om (AJ 3) (rR (AJ 5)) rQ)))) Ay))) (AR (Ce (i:=4) ACI ACJ Be (Bo (AW (A5 (AJ 2) (DG (AU (AJ 3) AH) (AU (AJ 3) AH) (AU (AJ 3) AH))))))))))) (AR (AX (Bt Cu rfl j ACa (Bo (AJ 4)))))))))))
theorem Vc (F:Z1 K "_law_two" Ip f U)(g:Px P w K Z Y n)(c:Df P w K Z Y n)(p:EL P w K Z Y n)(h:Jp P w K Z Y n)(j:VA P w K Z Y n)(k:Ic P w K Z Y n)(r:Z "len" =none)(l:Z "range" =none)(o:Z "tuple" =none):Z2 P w K Z Y n f U ["_law_tape_here","_law_plan_here","_law_other","_law_late","_law_by","_law_off_here","_law_corners","_law_one"] 1 Ey:=by
 have d:(["_law_k","_law_by","_law_tape_here"] :km Str).Nodup:=!4
 have e:(["_law_k","_law_one","_law_off_here"] :km Str).Nodup:=!4
 exact C7 F Cz rfl λ_ _ _ _ _ _ a b=>(AL (CB 1 b (AK j a rfl (Bo (AJ 0)))) (AL (CB 2 b (AK j a rfl (Bo (AJ 0)))) (AL (A9 (Et (Ec a) (AK c a rfl (Ao (AJ 0) AH)) AH) (AL (CB 3 b (AU (EB (Bh (DG (AW (Ao (AK c a rfl (Ao (AJ 0) AH)) AH)) (AW (Ao AH AH)) (AK p a rfl (Ao (AK c a rfl (Ao (AJ 0) AH)) AH))))) (AK c a rfl (Ao (AJ 0) AH)))) (AL (FG (i:=4) b rfl (Or.inr rfl) (EB (Bh (A5 (AK h a rfl (Bo (AJ 0))) (A5 (AW (Ao AH AH)) (A5 (AK h a rfl (Bo (AJ 0))) (DG (AW (Ao AH AH)) (AW (Ao AH AH)) (AW (Ao (AK c a rfl (Ao (AJ 0) AH)) AH))))))))) (AL (FG (i:=5) b rfl (Or.inr rfl) (EB (C2 rfl (On rfl l (Bo AH)) (CI (own:=1) (ix:= [4,0]) (N:= ["_law_k","_law_by" ,"_law_tape_here" ]) rfl rfl rfl rfl rfl rfl (λ_ _ _ _ _ _=>(MM 0 d)) (λ_ _ _ _ _ _=>B3) (λ_ _ _ _ _ _=>(AU (AJ 1) (AK c a rfl (Ao (AJ 2) AH)))))))) (AL (FF (i:=6) b rfl (Or.inl rfl) (Bh DV)) (AL (Ba AAe rfl (Dv (AJ 1)) (Tn (i:=7) b rfl (Or.inr rfl)) (AR (Ce (i:=6) ACI ACJ Be (Bo (Ag Bl (AW (Bo (AK k a rfl (Ao (AU (AJ 7) AH) (AJ 3))))) (Bt Cu rfl o ACa (Bo (EB (C2 rfl (On rfl l (Bo AH)) (CI (own:=1) (ix:= [7,5]) (N:= ["_law_k","_law_one" ,"_law_off_here" ]) rfl rfl rfl rfl rfl rfl (λ_ _ _ _ _ _=>(MM 0 e)) (λ_ _ _ _ _ _=>B3) (λ_ _ _ _ _ _=>(AK k a rfl (Ao (AU (AJ 1) (Ag Bl (AJ 0) AH)) (AU (AJ 2) (AJ 0))))))))))))))) (AR (CB 2 b (iR (Bt Cu rfl o ACa (Bo (AJ 6))))))))))) Ay) (AL (A9 (Et IL (BX Hd rfl r ACg (Bo (AJ 1))) AH) (AR (CB 2 b (Om (AJ 2) rQ (rR AH)))) Ay) (AR (AX (AW (Ao (AW (Ao (AJ 1) (AK g a rfl (Bo (AJ 0))))) (AW (Ao (AJ 2) (AK g a rfl (Bo (AJ 0)))))))))))))
theorem cM (F:Z1 K "before" OZ f U):Z2 P w K Z Y n f U ["one","other"] 2 Am:=C7 F Cz rfl λ_ _ _ _ _ _ _ _=>(AR (AX (EW GB (Ag BG (AU (AJ 0) AH) (AU (AJ 1) AH)) (Ag BG (AU (AJ 1) AH) (AU (AJ 0) AH)) (Cs _))))
theorem cN (F:Z1 K "common" Oa f U):Z2 P w K Z Y n f U ["one","other"] 2 Fw:=C7 F Cz rfl λ_ _ _ _ _ _ a b=>(AL (KI AAe (Et (RF a) (AJ 1) AH) (AR (YR (i:=0) (j:=1) rfl b rfl rfl (!1) rfl rfl (Ao (AJ 1) (Ag YQ (AJ 0) (AJ 1))) rfl))) (AR (AX (AJ 0))))
theorem lC (F:Z1 K "part" YE f U)(c:Nz P w K Z Y n)(a:Z "abs" =none):Z2 P w K Z Y n f U ["top","bottom","shared"] 2 Fa:=C7 F Cz rfl λ_ _ _ _ _ _ d b=>(AL (CB 2 b (AK c d rfl (Ao (BX Oh rfl a boot_abs (Bo (AJ 0))) (BX Oh rfl a boot_abs (Bo (AJ 1)))))) (AL (A9 (Et GB (AJ 1) AH) (AR (CB 2 b (EX (AJ 2)))) Ay) (AR (AX (AW (Ao (Ag Ds (AJ 0) (AJ 2)) (Ag Ds (AJ 1) (AJ 2))))))))
theorem gT (F:Z1 K "minus" Tg f U)(a:K3 P w K Z Y n):Z2 P w K Z Y n f U ["one","other"] 2 Bw:=C7 F Cz rfl λ_ _ _ _ _ _ b _=>(AR (AX (AK a b rfl (Ao (Ag CL (Ag BG (AU (AJ 0) AH) (AU (AJ 1) AH)) (Ag BG (AU (AJ 1) AH) (AU (AJ 0) AH))) (Ag BG (AU (AJ 0) AH) (AU (AJ 1) AH))))))
theorem Vh (F:Z1 K "negative" Iw f U):Z2 P w K Z Y n f U ["number"] 1 CG:=C7 F Cz rfl λ_ _ _ _ _ _ _ _=>(AR (AX (AW (Ao (EX (AU (AJ 0) AH)) (AU (AJ 0) AH)))))
theorem OL (F:Z1 K "is_one_time" Fn f U)(b:CP P w K Z Y n)(c:GQ P w K Z Y n)(d:Ie P w K Z Y n):Z2 P w K Z Y n f U ["one","other","s","t","ahead"] 4 DA:=C7 F Cz rfl λ_ _ _ _ _ _ a e=>(AL (CB 4 e (AK c a rfl (Ao (AJ 2) (AJ 3)))) (AR (AX (YI (YJ (AK b a rfl (Ao (AJ 4) (AK d a rfl (Bo (AU (AU (AJ 0) AH) AH)))))) (Tk (YJ (AK b a rfl (Ao (AU (AU (AJ 1) AH) AH) (AJ 4)))))))))
theorem Vf (F:Z1 K "is_there" Iu f U)(a:CP P w K Z Y n):Z2 P w K Z Y n f U ["plan","m"] 2 D2:=C7 F Cz rfl λ_ _ _ _ _ _ b _=>(AR (AX (YI (YJ (AK a b rfl (Ao (AJ 1) (AU (AU (AJ 0) AH) AH)))) (Tk (AK a b rfl (Ao (AJ 1) (AU (AU (AJ 0) (EX AH)) AH)))))))
theorem lD (F:Z1 K "plus" YF f U)(a:K3 P w K Z Y n):Z2 P w K Z Y n f U ["one","other"] 2 D4:=C7 F Cz rfl λ_ _ _ _ _ _ b _=>(AR (AX (AK a b rfl (Ao (Ag Bl (Ag BG (AU (AJ 0) AH) (AU (AJ 1) AH)) (Ag BG (AU (AJ 1) AH) (AU (AJ 0) AH))) (Ag BG (AU (AJ 0) AH) (AU (AJ 1) AH))))))
theorem Xx (F:Z1 K "size_of" LP f U):Z2 P w K Z Y n f U ["apart","side"] 2 CU:=C7 F Cz rfl λ_ _ _ _ _ _ a _=>(AR (AX (Ol (Et (Ec a) (AJ 1) AH) (AU (AJ 0) AH) (AU (AJ 0) AH))))
theorem Vk (F:Z1 K "sizes_of" I0 f U)(d:K4 P w K Z Y n)(b:Qu P w K Z Y n)(e:Z "range" =none):Z2 P w K Z Y n f U ["one","other","apart","told","side","asides"] 3 D5:=C7 F Cz rfl λ_ _ _ _ _ _ a c=>(AL (FF (i:=3) c rfl (Or.inl rfl) (Bh DV)) (AL (Ba AAe rfl (On rfl e (Bo AH)) (Cv 4 c) (AL (CB 5 c (AK d a rfl (Ao (AK b a rfl (Ao (AU (AJ 0) AH) (AJ 4))) (AK b a rfl (Ao (AU (AJ 1) AH) (AJ 4)))))) (AR (Ce (i:=3) ACI ACJ Be (Bo (AK d a rfl (Ao (AK b a rfl (Ao (AJ 2) (AJ 4))) (AJ 5)))))))) (AR (AX (AJ 3)))))
theorem lB (F:Z1 K "over" YD f U)(a:K3 P w K Z Y n):Z2 P w K Z Y n f U ["one","other"] 2 GK:=C7 F Cz rfl λ_ _ _ _ _ _ b _=>(AR (AX (AK a b rfl (Ao (Ag BG (AU (AJ 0) AH) (AU (AJ 1) AH)) (Ag BG (AU (AJ 0) AH) (AU (AJ 1) AH))))))
theorem gU (F:Z1 K "times" Th f U)(a:K3 P w K Z Y n):Z2 P w K Z Y n f U ["one","other"] 2 FR:=C7 F Cz rfl λ_ _ _ _ _ _ b _=>(AR (AX (AK a b rfl (Ao (Ag BG (AU (AJ 0) AH) (AU (AJ 1) AH)) (Ag BG (AU (AJ 0) AH) (AU (AJ 1) AH))))))
theorem MH (F:Z1 K "spot_between" FB f U)(c:GQ P w K Z Y n)(d:Sc P w K Z Y n)(e:K4 P w K Z Y n)(g:Sd P w K Z Y n)(h:Z "tuple" =none)(j:Z "zip" =none):Z2 P w K Z Y n f U ["former","latter","m","share"] 3 Dk:=by
 have b:(["low","high","share"] :km Str).Nodup:=!4
 exact C7 F Cz rfl λ_ _ _ _ _ _ a k=>(AL (FG (i:=3) k rfl (Or.inr rfl) (AK d a rfl (Ao (AK c a rfl (Ao (AJ 2) (AU (AJ 0) AH))) (AK c a rfl (Ao (AU (AJ 1) AH) (AU (AJ 0) AH)))))) (AR (AX (Bt Cu rfl h ACa (Bo (EB (C2 rfl (mI rfl j (Ao (Om (AJ 0) (rR AH) rQ) (Om (AJ 1) (rR AH) rQ))) (CI (own:=2) (ix:= [3]) (N:= ["low","high" ,"share" ]) rfl rfl rfl rfl rfl rfl (λ_ _ _ _ _ _=>(Tw (n:=2) rfl (EO (MM 0 b) (EO (MM 1 b) Ml)))) (λ_ _ _ _ _ _=>B3) (λ_ _ _ _ _ _=>(AK e a rfl (Ao (AJ 0) (AK g a rfl (Ao (AJ 2) (AK c a rfl (Ao (AJ 1) (AJ 0))))))))))))))))
theorem Xy (F:Z1 K "spot_at" LQ f U)(b:CP P w K Z Y n)(c:N1 P w K Z Y n)(d:Z "len" =none)(e:Z "range" =none):Z2 P w K Z Y n f U ["plan","m","at"] 2 D6:=C7 F Cz rfl λ_ _ _ _ _ _ a g=>(AL (A9 (BR (AK b a rfl (Ao (AJ 1) (AU (AU (AJ 0) AH) AH)))) (AR (AX BZ)) Ay) (AL (Ba AAe rfl (oB rfl e (Ao AH (BX Hd rfl d ACg (Bo (AJ 0))))) (Cv 2 g) (AR (A9 (FH (BR (AK b a rfl (Ao (AU (AU (AJ 0) (AJ 2)) AH) (AJ 1))))) (AR (AX (AK c a rfl (DG (AU (AJ 0) (Ag CL (AJ 2) AH)) (AU (AJ 0) (AJ 2)) (AJ 1))))) Ay))) (AR (AX BZ))))
theorem Xr (F:Z1 K "is_meet" LK f U)(e:CP P w K Z Y n)(g:Pz P w K Z Y n)(c:XH P w K Z Y n)(h:GQ P w K Z Y n)(i:N0 P w K Z Y n)(d:Qv P w K Z Y n)(j:Z "abs" =none)(k:Z "zip" =none):Z2 P w K Z Y n f U ["one","other","apart","s","t","here","there","size","top","bottom"] 5 DX:=C7 F Cz rfl λ_ _ _ _ _ _ a b=>(AL (A9 (JH (Ox (FH (BR (AK c a rfl (Ao (AU (AJ 0) AH) (AJ 3))))) (Ox (FH (BR (AK c a rfl (Ao (AU (AJ 1) AH) (AJ 4))))) (LX (FH (BR (AK g a rfl (A5 (AJ 0) (DG (AJ 1) (AJ 3) (AJ 4)))))))))) (AR (AX IK)) Ay) (AL (Ba AAe rfl (v4 rfl k (DG (AK d a rfl (Ao (AU (AJ 0) AH) (AJ 3))) (AK d a rfl (Ao (AU (AJ 1) AH) (AJ 4))) (AK i a rfl (DG (AJ 0) (AJ 1) (AJ 2))))) (Bi (n:=3) rfl (AZ (Cv 5 b) (AZ (Cv 6 b) (AZ (Cv 7 b) BL)))) (AL (EY (AK h a rfl (Ao (AJ 5) (AJ 6))) (Bi (n:=2) rfl (AZ (Cv 8 b) (AZ (Cv 9 b) BL)))) (AR (A9 (FH (BR (AK e a rfl (Ao (AW (Ao (BX Oh rfl j boot_abs (Bo (AJ 8))) (AJ 9))) (AJ 7))))) (AR (AX IK)) Ay)))) (AR (AX IK))))
theorem cT (F:Z1 K "summed" Og f U)(g:Z "max" =none)(h:Z "tuple" =none)(j:Z "zip" =none):Z2 P w K Z Y n f U ["one","many","other","more","numbers","weights","number","weight"] 4 G6:=by
 have a:(["former","latter","many","more"] :km Str).Nodup:=!4
 have b:(["number","weight","many"] :km Str).Nodup:=!4
 exact C7 F Cz rfl λ_ _ _ _ _ _ e c=>(AL (CB 4 c (Bt Cu rfl h ACa (Bo (EB (C2 rfl (mI rfl j (Ao (AU (AJ 0) AH) (AU (AJ 2) AH))) (CI (own:=2) (ix:= [1,3]) (N:= ["former","latter" ,"many" ,"more" ]) rfl rfl rfl rfl rfl rfl (λ_ _ _ _ _ _=>(Tw (n:=2) rfl (EO (MM 0 a) (EO (MM 1 a) Ml)))) (λ_ _ _ _ _ _=>B3) (λ_ _ _ _ _ _=>(Ag Bl (Ag BG (AJ 2) (AJ 0)) (Ag BG (AJ 3) (AJ 1)))))))))) (ig (!1) (!1) (!1) (!1) (!1) (!1) (AU (AJ 0) AH) (AU (AJ 2) AH) (λte d=>hX (i:=5) rfl c rfl (Or.inl rfl) (Vw d rfl rfl rfl rfl) (SD (own:=2) (ix:= [1]) (N:= ["number","weight" ,"many" ]) rfl rfl rfl rfl rfl rfl (fb (Nx (SX (!1)) MU (Nx (SX (!1)) MU ZC SY) (U8 MU SY))) (λ_ _ _ _ _ _=>(OR rfl (Dm (Eh (i:=0) b rfl (Or.inl rfl)) (Dm (Eh (i:=1) b rfl (Or.inl rfl)) J3)))) (λ_ _ _ _ _ _=>Zh) (λ_ _ _ _ _ _=>(pv 0))) (λ_ _ _ _ _ _=>(Bn S9 (pv 2) (pv 1)))) (λte d=>X5 AAe rfl (Vw d rfl rfl rfl rfl) (OR rfl (Dm (Eh (i:=6) c rfl (Or.inl rfl)) (Dm (Eh (i:=7) c rfl (Or.inl rfl)) J3))) (Ej (lf (zK e) (pv 5) (pv 6) (Bn HM (gm (zK e) (pv 5) (pv 6) A8 ⟨rfl,rfl,rfl,rfl⟩) (Bn S9 (pv 3) (pv 7))) rfl))) (AR (AX (AW (DG (AJ 4) (BX (rD rfl) rfl g boot_max (Ao (AU (AJ 0) AH) (AU (AJ 2) AH))) (AJ 5)))))))
theorem Xo (F:Z1 K "crossed" LH f U)(a:fj P w K Z Y n):Z2 P w K Z Y n f U ["low","high","at"] 3 Eo:=C7 F Cz rfl λ_ _ _ _ _ _ b _=>(AR (AX (AK a b rfl (A5 (AJ 0) (DG (EX (AU (AU (AJ 1) AH) (AJ 2))) (AJ 1) (AU (AU (AJ 0) AH) (AJ 2)))))))
theorem Ve (F:Z1 K "is_never" Ir f U):Z2 P w K Z Y n f U ["plane","total"] 1 D1:=C7 F Cz rfl λ_ _ _ _ _ _ a b=>(AL (CB 1 b (AU (AU (AJ 0) AH) AH)) (AR (AX (vt (EW GB (AJ 1) AH (Cs _)) (Tk (YI (EW (Ec a) (AJ 1) AH (Cs _)) (Tk (EW (Ec a) (AU (AJ 0) AH) AH (Cs _)))))))))
theorem Xz (F:Z1 K "turn_of" LR f U):Z2 P w K Z Y n f U ["plane","at","total","factor"] 2 Dd:=C7 F Cz rfl λ_ _ _ _ _ _ _ a=>(AL (CB 2 a (AU (AU (AJ 0) AH) AH)) (AL (CB 3 a (AU (AU (AJ 0) AH) (AJ 1))) (AR (AX (Ol (Et IL (AJ 3) AH) (AW (Ao (EX (AJ 2)) (AJ 3))) (AW (Ao (AJ 2) (EX (AJ 3)))))))))
theorem P6 (F:Z1 K "is_tighter" GZ f U)(b:CP P w K Z Y n)(c:Qw P w K Z Y n):Z2 P w K Z Y n f U ["plane","other","at","here","there"] 3 Dj:=C7 F Cz rfl λ_ _ _ _ _ _ a d=>(AL (CB 3 d (AK c a rfl (Ao (AJ 0) (AJ 2)))) (AL (CB 4 d (AK c a rfl (Ao (AJ 1) (AJ 2)))) (AL (A9 (BR (AK b a rfl (Ao (AJ 3) (AJ 4)))) (AR (AX (EW GB (AU (AU (AJ 0) AH) (AJ 2)) AH (Cs _)))) Ay) (AL (A9 (BR (AK b a rfl (Ao (AJ 4) (AJ 3)))) (AR (AX (EW IL (AU (AU (AJ 0) AH) (AJ 2)) AH (Cs _)))) Ay) (AR (AX (EW IL (AU (AJ 0) AH) (AU (AJ 1) AH) (Cs _))))))))
theorem Vm (F:Z1 K "tightest" JA f U)(b:Sa P w K Z Y n):Z2 P w K Z Y n f U ["planes","at","sign","told","plane"] 3 Cn:=C7 F Cz rfl λ_ _ _ _ _ _ c a=>(AL (CB 3 a BZ) (AL (Ba AAe rfl (Dv (AJ 0)) (Cv 4 a) (AR (A9 (JH (Ge (Et IL (Ag BG (AU (AU (AJ 4) AH) (AJ 1)) (AJ 2)) AH) (Ek (JH (Ox (Et Os (AJ 3) BZ) (LX (BR (AK b c rfl (DG (AJ 4) (AJ 3) (AJ 1)))))))))) (AR (CB 3 a (AJ 4))) Ay))) (AR (AX (AJ 3)))))
theorem Vd (F:Z1 K "fault_in" Iq f U)(e:Qt P w K Z Y n)(c:XG P w K Z Y n)(d:N2 P w K Z Y n):Z2 P w K Z Y n f U ["planes","at","plane","high","both"] 2 Dz:=C7 F Cz rfl λ_ _ _ _ _ _ a b=>(AL (Ba AAe rfl (Dv (AJ 0)) (Cv 2 b) (AR (A9 (JH (Ge (Et (Ec a) (AU (AU (AJ 2) AH) (AJ 1)) AH) (Ek (BR (AK c a rfl (Bo (AJ 2))))))) (AR (AX (AJ 2))) Ay))) (AL (CB 3 b (AK d a rfl (DG (AJ 0) (AJ 1) (EX AH)))) (AL (A9 (Et Os (AJ 3) BZ) (AR (AX BZ)) Ay) (AL (CB 4 b (AK e a rfl (DG (AK d a rfl (DG (AJ 0) (AJ 1) AH)) (AJ 3) (AJ 1)))) (AR (AX (Ol (BR (AK c a rfl (Bo (AJ 4)))) (AJ 4) BZ)))))))
theorem S5 (F:Z1 K "side_form" HZ f U)(c:GQ P w K Z Y n)(d:Ie P w K Z Y n)(e:K4 P w K Z Y n):Z2 P w K Z Y n f U ["wedge","number","side","off","one","other","sizes","lates","base","slope","other_base","other_slope"] 2 BO:=C7 F Cz rfl λ_ _ _ _ _ _ b a=>(AL (EY (AJ 0) (Bi (n:=4) rfl (AZ (Cv 4 a) (AZ (Cv 5 a) (AZ (Cv 6 a) (AZ (Cv 7 a) BL)))))) (AL (CB 2 a (Ag Ds (Ag CL (AJ 1) AH) AH)) (AL (EY (AU (AU (AJ 4) AH) (AJ 2)) (Bi (n:=2) rfl (AZ (Cv 8 a) (AZ (Cv 9 a) BL)))) (AL (EY (AU (AU (AJ 5) AH) (AJ 2)) (Bi (n:=2) rfl (AZ (Cv 10 a) (AZ (Cv 11 a) BL)))) (AL (CB 3 a (AK c b rfl (Ao (AJ 8) (AJ 10)))) (AL (A9 (Et (Ec b) (Ag YQ (AJ 1) AH) AH) (AR (AX (AW (DG (AK c b rfl (Ao (AU (AJ 6) (AJ 2)) (AJ 3))) (AK d b rfl (Bo (AJ 9))) (AJ 11))))) Ay) (AR (AX (AW (DG (AK e b rfl (Ao (AU (AJ 6) (AJ 2)) (AJ 3))) (AJ 9) (AK d b rfl (Bo (AJ 11)))))))))))))
theorem S6 (F:Z1 K "time_form" Ha f U)(e:Ie P w K Z Y n)(b:Kc K Z "BACK" (.tup [(.int (-1)),(.int 1)]))(a:Kc K Z "NOUGHT" (.tup [(.int 0),(.int 1)]))(c:Kc K Z "ONCE" (.tup [(.int 1),(.int 1)])):Z2 P w K Z Y n f U ["wedge","number","forms","one","other","sizes","lates"] 2 EJ:=C7 F Cz rfl λ_ _ _ _ _ _ g d=>(AL (EY (AJ 0) (Bi (n:=4) rfl (AZ (Cv 3 d) (AZ (Cv 4 d) (AZ (Cv 5 d) (AZ (Cv 6 d) BL)))))) (AL (CB 2 d (AW (A5 (AW (DG (AK e g rfl (Bo (AU (AJ 3) AH))) (BK c rfl) (BK a rfl))) (A5 (AW (DG (AU (AJ 3) AH) (BK b rfl) (BK a rfl))) (A5 (AW (DG (AK e g rfl (Bo (AU (AJ 4) AH))) (BK a rfl) (BK c rfl))) (DG (AW (DG (AU (AJ 4) AH) (BK a rfl) (BK b rfl))) (AW (DG (AU (AJ 6) AH) (BK c rfl) (BK b rfl))) (AW (DG (AU (AJ 6) AH) (BK b rfl) (BK c rfl))))))))) (AR (AX (AU (AJ 2) (AJ 1))))))
theorem Xp (F:Z1 K "form_of" LI f U)(b:VH P w K Z Y n)(c:VI P w K Z Y n):Z2 P w K Z Y n f U ["wedge","number"] 2 Fx:=C7 F Cz rfl λ_ _ _ _ _ _ a _=>(AR (AX (Ol (Et GB (AJ 1) AH) (AK c a rfl (Ao (AJ 0) (AJ 1))) (AK b a rfl (Ao (AJ 0) (AJ 1))))))
theorem cR (F:Z1 K "placed" Oe f U)(c:Z "tuple" =none):Z2 P w K Z Y n f U ["plane","at","value","numbers","top","bottom"] 3 EI:=by
 have a:(["number","bottom"] :km Str).Nodup:=!4
 exact C7 F Cz rfl λ_ _ _ _ _ _ _ b=>(AL (EY (AJ 2) (Bi (n:=2) rfl (AZ (Cv 4 b) (AZ (Tn (i:=5) b rfl (Or.inr rfl)) BL)))) (AL (WK (i:=3) rfl b rfl (Or.inl rfl) (Dv (AU (AJ 0) AH)) (CI (own:=1) (ix:= [5]) (N:= ["number","bottom" ]) rfl rfl rfl rfl rfl rfl (λ_ _ _ _ _ _=>(MM 0 a)) (λ_ _ _ _ _ _=>B3) (λ_ _ _ _ _ _=>(Ag BG (AJ 1) (AJ 0))))) (AL (mS (i:=3) AH (Ag BG (AU (AU (AJ 0) AH) (AJ 1)) (AJ 4))) (AL (rS (i:=3) (AJ 1) AH) (AR (AX (AW (DG (Bt Cu rfl c ACa (Bo (AJ 3))) (AU (AJ 0) AH) (AU (AJ 0) AH)))))))))
theorem LC (F:Z1 K "shared_bottom" EV f U)(b:Nz P w K Z Y n):Z2 P w K Z Y n f U ["numbers","told","top","bottom"] 1 BS:=C7 F Cz rfl λ_ _ _ _ _ _ c a=>(AL (CB 1 a AH) (AL (Ba AAe rfl (Dv (AJ 0)) (Bi (n:=2) rfl (AZ (Cv 2 a) (AZ (Cv 3 a) BL))) (AR (ie (i:=1) a rfl (Or.inl rfl) (Ag Ds (AJ 3) (AK b c rfl (Ao (AJ 1) (AJ 3)))) rK))) (AR (AX (AJ 1)))))
theorem Vi (F:Z1 K "plane_of" Iy f U)(c:Go P w K Z Y n)(d:Z "tuple" =none):Z2 P w K Z Y n f U ["form","strict","number","shared","numbers"] 3 E2:=by
 have a:(["top","bottom","shared"] :km Str).Nodup:=!4
 exact C7 F Cz rfl λ_ _ _ _ _ _ e b=>(AL (FG (i:=3) b rfl (Or.inr rfl) (AK c e rfl (Bo (AJ 0)))) (AL (CB 4 b (Bt Cu rfl d ACa (Bo (EB (C2 rfl (Dv (AJ 0)) (CI (own:=2) (ix:= [3]) (N:= ["top","bottom" ,"shared" ]) rfl rfl rfl rfl rfl rfl (λ_ _ _ _ _ _=>(Tw (n:=2) rfl (EO (MM 0 a) (EO (MM 1 a) Ml)))) (λ_ _ _ _ _ _=>B3) (λ_ _ _ _ _ _=>(Ag BG (AJ 0) (Ag Ds (AJ 2) (AJ 1)))))))))) (AR (AX (AW (DG (AJ 4) (AJ 1) (rG (AJ 2) (AJ 3))))))))
theorem gX (F:Z1 K "whole" Tj f U):Z2 P w K Z Y n f U ["n"] 1 Hi:=C7 F Cz rfl λ_ _ _ _ _ _ _ _=>(AR (AX (AW (Ao (AJ 0) AH))))
theorem MI (F:Z1 K "told_weights" FC f U)(d:Nz P w K Z Y n)(e:ZF P w K Z Y n)(g:Z "sorted" =none)(h:Z "tuple" =none):Z2 P w K Z Y n f U ["weights","shared","weight"] 1 Co:=by
 have a:(["number","shared","weights"] :km Str).Nodup:=!4
 exact C7 F Cz rfl λ_ _ _ _ _ _ b c=>(AL (FG (i:=1) c rfl (Or.inr rfl) AH) (AL (Ba AAe rfl (mH (AJ 0)) (Cv 2 c) (AR (FG (i:=1) c rfl (Or.inr rfl) (AK d b rfl (Ao (AJ 2) (AJ 1)))))) (AR (AX (Bt Cu rfl h ACa (Bo (EB (C2 rfl (Dv (BX (iM rfl) rfl g boot_sorted (Bo (AJ 0)))) (CI (own:=1) (ix:= [1,0]) (N:= ["number","shared" ,"weights" ]) rfl rfl rfl rfl rfl rfl (λ_ _ _ _ _ _=>(MM 0 a)) (λ_ _ _ _ _ _=>B3) (λ_ _ _ _ _ _=>(AW (Ao (AJ 0) (AK e b rfl (Bo (Ag Ds (vp b (AJ 2) (AJ 0) (λ_ _=>rfl)) (AJ 1))))))))))))))))
theorem Vj (F:Z1 K "range_in" Iz f U)(c:K3 P w K Z Y n)(d:N2 P w K Z Y n)(e:Qw P w K Z Y n):Z2 P w K Z Y n f U ["planes","at","low","least","high","greatest"] 2 E3:=C7 F Cz rfl λ_ _ _ _ _ _ a b=>(AL (CB 2 b (AK d a rfl (DG (AJ 0) (AJ 1) AH))) (AL (CB 3 b (AK e a rfl (Ao (AJ 2) (AJ 1)))) (AL (CB 3 b (AK c a rfl (Ao (AU (AJ 3) AH) (AU (AJ 3) AH)))) (AL (CB 4 b (AK d a rfl (DG (AJ 0) (AJ 1) (EX AH)))) (AL (A9 (Et Os (AJ 4) BZ) (AR (AX (AW (DG (AJ 3) (Ag CL AH (AU (AJ 2) AH)) BZ)))) Ay) (AL (CB 5 b (AK e a rfl (Ao (AJ 4) (AJ 1)))) (AR (AX (AW (DG (AJ 3) (Ag CL AH (AU (AJ 2) AH)) (AK c a rfl (Ao (AU (AJ 5) AH) (AU (AJ 5) AH)))))))))))))
theorem Vq (F:Z1 K "value_in" JE f U)(c:Sc P w K Z Y n)(d:K4 P w K Z Y n)(e:XM P w K Z Y n)(g:ZF P w K Z Y n):Z2 P w K Z Y n f U ["planes","at","least","held","greatest"] 2 Cp:=C7 F Cz rfl λ_ _ _ _ _ _ a b=>(AL (EY (AK e a rfl (Ao (AJ 0) (AJ 1))) (Bi (n:=3) rfl (AZ (Cv 2 b) (AZ (Cv 3 b) (AZ (Cv 4 b) BL))))) (AR (AX (AK c a rfl (Ao (AK d a rfl (Ao (AJ 2) (AJ 4))) (AK g a rfl (Bo AH)))))))
theorem Ik (F:Z1 K "weights_by_time" Dq f U)(d:CP P w K Z Y n)(e:K4 P w K Z Y n)(a:Kc K Z "ONCE" (.tup [(.int 1),(.int 1)])):Z2 P w K Z Y n f U ["wedge","one","other","sizes","lates"] 1 Bx:=C7 F Cz rfl λ_ _ _ _ _ _ b c=>(AL (EY (AJ 0) (Bi (n:=4) rfl (AZ (Cv 1 c) (AZ (Cv 2 c) (AZ (Cv 3 c) (AZ (Cv 4 c) BL)))))) (AL (A9 (FH (BR (AK d b rfl (Ao (AU (AJ 1) AH) (AK e b rfl (Ao (AU (AJ 2) AH) (AU (AJ 4) AH))))))) (AR (AX (AW (DG (AW (Ao AH (BK a rfl))) (AW (Ao AH (BK a rfl))) (AW (Ao AH (BK a rfl))))))) Ay) (AL (A9 (FH (BR (AK d b rfl (Ao (AU (AJ 2) AH) (AK e b rfl (Ao (AU (AJ 1) AH) (AU (AJ 4) AH))))))) (AR (AX (AW (DG (AW (Ao AH (BK a rfl))) (AW (Ao AH (BK a rfl))) (AW (Ao AH (BK a rfl))))))) Ay) (AR (AX BZ)))))
theorem Oi:DK ["planes","at","most","lows","highs","told","low","high"] ["planes","at","most"] (Ar Hs):=Cz
theorem X0 (F:R0 K "without" "without" Hs f U 2)(g:Qt P w K Z Y n)(h:Z "len" =none)(j:Z "set" =none):Du P w K Z Y MP (n+1) f U ["planes","at","most"] (CA K 3 Er):=by
 have a:=Oi.nd;have b:(["plane","at"] :km Str).Nodup:=!4
 have c:(["plane","at"] :km Str).Nodup:=!4
 have d:(["plane","at"] :km Str).Nodup:=!4
 exact fQ F Oi rfl λ_ _ _ _ _ _ e=>(AL (KH (i:=3) rfl a rfl (Or.inl rfl) (Dv (AJ 0)) (CI (own:=1) (ix:= [1]) (N:= ["plane","at" ]) rfl rfl rfl rfl rfl rfl (λ_ _ _ _ _ _=>(MM 0 b)) (λ_ _ _ _ _ _=>(Mj (Et IL (AU (AU (AJ 0) AH) (AJ 1)) AH))) (λ_ _ _ _ _ _=>(AJ 0)))) (AL (KH (i:=4) rfl a rfl (Or.inl rfl) (Dv (AJ 0)) (CI (own:=1) (ix:= [1]) (N:= ["plane","at" ]) rfl rfl rfl rfl rfl rfl (λ_ _ _ _ _ _=>(MM 0 c)) (λ_ _ _ _ _ _=>(Mj (Et GB (AU (AU (AJ 0) AH) (AJ 1)) AH))) (λ_ _ _ _ _ _=>(AJ 0)))) (AL (WK (i:=5) rfl a rfl (Or.inl rfl) (Dv (AJ 0)) (CI (own:=1) (ix:= [1]) (N:= ["plane","at" ]) rfl rfl rfl rfl rfl rfl (λ_ _ _ _ _ _=>(MM 0 d)) (λ_ _ _ _ _ _=>(Mj (Et (Ec e) (AU (AU (AJ 0) AH) (AJ 1)) AH))) (λ_ _ _ _ _ _=>(AJ 0)))) (AL (Ba AAe rfl (Dv (AJ 3)) (Cv 6 a) (AR (Ba AAe rfl (Dv (AJ 4)) (Cv 7 a) (AR (A9 (Et v6 (rH rfl h rfl j (AU (AJ 6) AH) (AU (AJ 7) AH)) (AJ 2)) (AR (Ce (i:=5) ACI ACJ Be (Bo (AK g e rfl (DG (AJ 6) (AJ 7) (AJ 1)))))) Ay))))) (AR (AX (AJ 5)))))))
theorem Xs (F:Z1 K "meet_in" LL f U)(h:XF P w K Z Y n)(j:bJ P w K Z Y n)(k:fi P w K Z Y n)(l:XJ P w K Z Y n)(o:N3 P w K Z Y n)(g:XS P w K Z Y n)(p:Js P w K Z Y n)(r:bQ P w K Z Y n)(s:Z "range" =none)(a:Kc K Z "STRICT" (.tup [(.int 0),(.int 1),(.int 0),(.int 1),(.int 0),(.int 0),(.int 1),(.int 1),(.int 1),(.int 1),(.int 1),(.int 1)])):Z2 P w K Z Y n f U ["wedge","weights","planes","first","fault","s"] 1 Fy:=by
 have d:(["number","wedge"] :km Str).Nodup:=!4
 have e:(["plane","s"] :km Str).Nodup:=!4
 exact C7 F Cz rfl λ_ _ _ _ _ _ b c=>(AL (CB 1 c (AK p b rfl (Bo (AJ 0)))) (AL (A9 (Et KG (AJ 1) BZ) (AR (AX (AW (Ao BZ (AJ 1))))) Ay) (AL (KH (i:=2) rfl c rfl (Or.inl rfl) (On rfl s (Bo AH)) (CI (own:=1) (ix:= [0]) (N:= ["number","wedge" ]) rfl rfl rfl rfl rfl rfl (λ_ _ _ _ _ _=>(MM 0 d)) (λ_ _ _ _ _ _=>B3) (λ_ _ _ _ _ _=>(AK l b rfl (DG (AK j b rfl (Ao (AJ 1) (AJ 0))) (AU (BK a rfl) (AJ 0)) (AJ 0)))))) (AL (CB 3 c (iS r b rfl (Ao (AJ 2) AH))) (AL (CB 4 c (AK h b rfl (Ao (AJ 3) AH))) (AL (A9 (Et KG (AJ 4) BZ) (AR (AX (AW (Ao BZ (AK o b rfl (Bo (AU (AJ 4) AH))))))) Ay) (AL (FG (i:=5) c rfl (Or.inr rfl) (AK g b rfl (Ao (AJ 3) AH))) (AR (AX (AW (Ao (AW (Ao (AJ 5) (AK g b rfl (Ao (EB (C2 rfl (Dv (AJ 2)) (CI (own:=1) (ix:= [5]) (N:= ["plane","s" ]) rfl rfl rfl rfl rfl rfl (λ_ _ _ _ _ _=>(MM 0 e)) (λ_ _ _ _ _ _=>B3) (λ_ _ _ _ _ _=>(AK k b rfl (DG (AJ 0) AH (AJ 1))))))) AH)))) BZ)))))))))))
theorem LB (F:Z1 K "piece_between" EU f U)(c:GQ P w K Z Y n)(d:Sc P w K Z Y n)(e:Sd P w K Z Y n)(g:Z "zip" =none):Z2 P w K Z Y n f U ["former","latter","span","lines","low","high","slope"] 2 Bs:=C7 F Cz rfl λ_ _ _ _ _ _ a b=>(AL (CB 2 b (AK c a rfl (Ao (AU (AJ 1) AH) (AU (AJ 0) AH)))) (AL (FF (i:=3) b rfl (Or.inl rfl) (Bh DV)) (AL (Ba AAe rfl (mI rfl g (Ao (Om (AJ 0) (rR AH) rQ) (Om (AJ 1) (rR AH) rQ))) (Bi (n:=2) rfl (AZ (Cv 4 b) (AZ (Cv 5 b) BL))) (AL (CB 6 b (AK d a rfl (Ao (AK c a rfl (Ao (AJ 5) (AJ 4))) (AJ 2)))) (AR (Ce (i:=3) ACI ACJ Be (Bo (AW (Ao (AK c a rfl (Ao (AJ 4) (AK e a rfl (Ao (AJ 6) (AU (AJ 0) AH))))) (AJ 6)))))))) (AR (AX (AW (DG (AU (AJ 0) AH) (AU (AJ 1) AH) (AJ 3))))))))
theorem S4 (F:Z1 K "pieces_of" HY f U)(b:ME P w K Z Y n)(c:Z "len" =none)(d:Z "range" =none):Z2 P w K Z Y n f U ["plan"] 1 Dc:=by
 have a:(["at","plan"] :km Str).Nodup:=!4
 exact C7 F Cz rfl λ_ _ _ _ _ _ e _=>(AR (AX (EB (C2 rfl (On rfl d (Bo (Ag CL (BX Hd rfl c ACg (Bo (AJ 0))) AH))) (CI (own:=1) (ix:= [0]) (N:= ["at","plan" ]) rfl rfl rfl rfl rfl rfl (λ_ _ _ _ _ _=>(MM 0 a)) (λ_ _ _ _ _ _=>B3) (λ_ _ _ _ _ _=>(AK b e rfl (Ao (AU (AJ 1) (AJ 0)) (AU (AJ 1) (Ag Bl (AJ 0) AH))))))))))
theorem S7 (F:Z1 K "wedges_of" Hc f U)(c:VF P w K Z Y n)(e:N0 P w K Z Y n)(d:Z "enumerate" =none):Z2 P w K Z Y n f U ["one","other","apart","sizes","lates","others","told","i","former","j","latter"] 3 De:=C7 F Cz rfl λ_ _ _ _ _ _ b a=>(AL (CB 3 a (AK e b rfl (DG (AJ 0) (AJ 1) (AJ 2)))) (AL (CB 4 a (AW (Ao (AU (AU (AJ 0) AH) AH) (AU (AU (AJ 1) AH) AH)))) (AL (CB 5 a (AK c b rfl (Bo (AU (AJ 1) AH)))) (AL (FF (i:=6) a rfl (Or.inl rfl) (Bh DV)) (AL (Ba AAe rfl (vz rfl d (Bo (AK c b rfl (Bo (AU (AJ 0) AH))))) (Bi (n:=2) rfl (AZ (Cv 7 a) (AZ (Cv 8 a) BL))) (AR (Ba AAe rfl (vz rfl d (Bo (AJ 5))) (Bi (n:=2) rfl (AZ (Cv 9 a) (AZ (Cv 10 a) BL))) (AR (Ce (i:=6) ACI ACJ Be (Bo (AW (DG (AJ 7) (AJ 9) (AW (A5 (AJ 8) (DG (AJ 10) (AJ 3) (AJ 4)))))))))))) (AR (AX (AJ 6))))))))
theorem Xu (F:Z1 K "meet_of" LM f U)(c:bM P w K Z Y n)(d:VJ P w K Z Y n)(e:Z "tuple" =none):Z2 P w K Z Y n f U ["one","other","apart","rows","i","j","wedge","moments","weights"] 3 DY:=C7 F Cz rfl λ_ _ _ _ _ _ b a=>(AL (FF (i:=3) a rfl (Or.inl rfl) (Bh DV)) (AL (Ba AAe rfl (Dv (AK d b rfl (DG (AJ 0) (AJ 1) (AJ 2)))) (Bi (n:=3) rfl (AZ (Cv 4 a) (AZ (Cv 5 a) (AZ (Cv 6 a) BL)))) (AL (EY (AK c b rfl (Bo (AJ 6))) (Bi (n:=2) rfl (AZ (Cv 7 a) (AZ (Cv 8 a) BL)))) (AL (A9 (Et KG (AJ 7) BZ) (AR (AX (AW (DG Tl (AU (AJ 7) AH) (AU (AJ 7) AH))))) Ay) (AR (Ce (i:=3) ACI ACJ Be (Bo (AW (DG (AJ 4) (AJ 5) (AJ 8))))))))) (AR (AX (AW (Ao Tl (Bt Cu rfl e ACa (Bo (AJ 3)))))))))
theorem cO (F:Z1 K "lesser" Ob f U)(a:CP P w K Z Y n):Z2 P w K Z Y n f U ["one","other"] 2 Ez:=C7 F Cz rfl λ_ _ _ _ _ _ b _=>(AR (AX (Ol (BR (AK a b rfl (Ao (AJ 1) (AJ 0)))) (AJ 1) (AJ 0))))
theorem S3 (F:Z1 K "moment_at" HX f U)(b:GQ P w K Z Y n)(c:K3 P w K Z Y n)(d:K4 P w K Z Y n)(e:Sd P w K Z Y n):Z2 P w K Z Y n f U ["begin","end","share"] 3 DZ:=C7 F Cz rfl λ_ _ _ _ _ _ a _=>(AR (AX (AK d a rfl (Ao (AJ 0) (AK e a rfl (Ao (AK c a rfl (Ao (AU (AJ 2) AH) (AU (AJ 2) AH))) (AK b a rfl (Ao (AJ 1) (AJ 0)))))))))
theorem Xv (F:Z1 K "near_in" LN f U)(c:CP P w K Z Y n)(e:VD P w K Z Y n)(d:VE P w K Z Y n):Z2 P w K Z Y n f U ["piece","low","held","high","begin","end","bottom","lines","first","last","share"] 1 Fz:=C7 F Cz rfl λ_ _ _ _ _ _ b a=>(AL (EY (AJ 0) (Bi (n:=4) rfl (AZ (Cv 4 a) (AZ (Cv 5 a) (AZ (Cv 6 a) (AZ (Cv 7 a) BL)))))) (AL (CB 1 a (AW (Ao AH AH))) (AL (CB 2 a AH) (AL (CB 3 a (AW (Ao AH AH))) (AL (Ba AAe rfl (Dv (AJ 7)) (Bi (n:=2) rfl (AZ (Cv 8 a) (AZ (Cv 9 a) BL))) (AL (A9 (JH (Ge (Et Z4 (AJ 8) (AJ 6)) (Ek (Et Z4 (AJ 9) (AJ 6))))) (AR (AX (EB (Bh DV)))) Ay) (AR (A9 (Et Z4 (AJ 8) (AJ 6)) (AL (CB 10 a (AW (Ao (Ag CL (AJ 8) (AJ 6)) (Ag CL (AJ 8) (AJ 9))))) (AR (A9 (FH (BR (AK c b rfl (Ao (AJ 10) (AJ 1))))) (AL (CB 1 a (AJ 10)) (AR (CB 2 a AH))) Ay))) (AR (A9 (Et IL (AJ 9) (AJ 6)) (AR (CB 3 a (AK e b rfl (Ao (AJ 3) (AW (Ao (Ag CL (AJ 6) (AJ 8)) (Ag CL (AJ 9) (AJ 8)))))))) Ay)))))) (AL (A9 (FH (BR (AK c b rfl (Ao (AJ 1) (AJ 3))))) (AR (AX (EB (Bh DV)))) Ay) (AR (AX (EB (Bh (Bo (AW (DG (AK d b rfl (DG (AJ 4) (AJ 5) (AJ 1))) (AJ 2) (AK d b rfl (DG (AJ 4) (AJ 5) (AJ 3))))))))))))))))
theorem Vg (F:Z1 K "lines_of" Iv f U)(b:Go P w K Z Y n)(c:Z "zip" =none):Z2 P w K Z Y n f U ["first","last","bottom","lines","former","latter","low","high"] 2 E1:=C7 F Cz rfl λ_ _ _ _ _ _ d a=>(AL (CB 2 a (AK b d rfl (Bo (Ag Bl (AJ 0) (AJ 1))))) (AL (FF (i:=3) a rfl (Or.inl rfl) (Bh DV)) (AL (Ba AAe rfl (mI rfl c (Ao (AJ 0) (AJ 1))) (Bi (n:=2) rfl (AZ (Cv 4 a) (AZ (Cv 5 a) BL))) (AL (CB 6 a (Ag BG (AU (AJ 4) AH) (Ag Ds (AJ 2) (AU (AJ 4) AH)))) (AL (CB 7 a (Ag BG (AU (AJ 5) AH) (Ag Ds (AJ 2) (AU (AJ 5) AH)))) (AL (Ce (i:=3) ACI ACJ Be (Bo (AW (Ao (AJ 6) (AJ 7))))) (AR (Ce (i:=3) ACI ACJ Be (Bo (AW (Ao (EX (AJ 6)) (EX (AJ 7))))))))))) (AR (AX (AW (Ao (AJ 2) (AJ 3))))))))
theorem Xw (F:Z1 K "offs_at" LO f U)(e:GQ P w K Z Y n)(g:Sc P w K Z Y n)(h:Qu P w K Z Y n)(c:Qv P w K Z Y n)(j:Z "range" =none):Z2 P w K Z Y n f U ["one","other","apart","m","here","there"] 4 F0:=by
 have b:(["side","apart","here","there"] :km Str).Nodup:=!4
 exact C7 F Cz rfl λ_ _ _ _ _ _ a d=>(AL (FG (i:=4) d rfl (Or.inr rfl) (AK c a rfl (Ao (AJ 0) (AJ 3)))) (AL (FG (i:=5) d rfl (Or.inr rfl) (AK c a rfl (Ao (AJ 1) (AJ 3)))) (AR (AX (EB (C2 rfl (On rfl j (Bo AH)) (CI (own:=1) (ix:= [2,4,5]) (N:= ["side","apart" ,"here" ,"there" ]) rfl rfl rfl rfl rfl rfl (λ_ _ _ _ _ _=>(MM 0 b)) (λ_ _ _ _ _ _=>B3) (λ_ _ _ _ _ _=>(AK g a rfl (Ao (AK e a rfl (Ao (AU (AJ 2) (AJ 0)) (AU (AJ 3) (AJ 0)))) (AK h a rfl (Ao (AJ 1) (AJ 0)))))))))))))
theorem Xq (F:Z1 K "greater" LJ f U)(a:CP P w K Z Y n):Z2 P w K Z Y n f U ["one","other"] 2 Cj:=C7 F Cz rfl λ_ _ _ _ _ _ b _=>(AR (AX (Ol (BR (AK a b rfl (Ao (AJ 0) (AJ 1)))) (AJ 1) (AJ 0))))
theorem Vn (F:Z1 K "together" JB f U)(c:CP P w K Z Y n)(d:bK P w K Z Y n)(e:VD P w K Z Y n):Z2 P w K Z Y n f U ["one","other","begin","end"] 2 D7:=C7 F Cz rfl λ_ _ _ _ _ _ a b=>(AL (CB 2 b (AK d a rfl (Ao (AU (AU (AJ 0) AH) AH) (AU (AU (AJ 1) AH) AH)))) (AL (CB 3 b (AK e a rfl (Ao (AU (AU (AJ 0) (EX AH)) AH) (AU (AU (AJ 1) (EX AH)) AH)))) (AR (AX (Ol (BR (AK c a rfl (Ao (AJ 2) (AJ 3)))) (AW (Ao (AJ 2) (AJ 3))) BZ)))))
theorem Ij (F:Z1 K "corners_between" Dp f U)(b:CP P w K Z Y n)(d:Z "tuple" =none):Z2 P w K Z Y n f U ["plan","begin","end"] 3 Bu:=by
 have a:(["corner","begin","end"] :km Str).Nodup:=!4
 exact C7 F Cz rfl λ_ _ _ _ _ _ c _=>(AR (AX (EB (C2 rfl (Dv (AJ 0)) (CI (own:=1) (ix:= [1,2]) (N:= ["corner","begin" ,"end" ]) rfl rfl rfl rfl rfl rfl (λ_ _ _ _ _ _=>(MM 0 a)) (λ_ _ _ _ _ _=>(Mj (JH (Ge (BR (AK b c rfl (Ao (AJ 1) (AU (AJ 0) AH)))) (Ek (BR (AK b c rfl (Ao (AU (AJ 0) AH) (AJ 2))))))))) (λ_ _ _ _ _ _=>(Bt Cu rfl d ACa (Bo (AJ 0)))))))))
theorem OJ (F:Z1 K "count_below" Fk f U)(b:CP P w K Z Y n)(c:Z "len" =none):Z2 P w K Z Y n f U ["numbers","number","low","high","middle"] 2 C9:=C7 F Cz rfl λ_ _ _ _ _ _ d a=>(AL (CB 2 a AH) (AL (CB 3 a (BX Hd rfl c ACg (Bo (AJ 0)))) (AL (KI AAe (Et GB (AJ 2) (AJ 3)) (AL (CB 4 a (Ag Ds (Ag Bl (AJ 2) (AJ 3)) AH)) (AR (A9 (BR (AK b d rfl (Ao (AU (AJ 0) (AJ 4)) (AJ 1)))) (AR (CB 2 a (Ag Bl (AJ 4) AH))) (AR (CB 3 a (AJ 4))))))) (AR (AX (AJ 2))))))
theorem cS (F:Z1 K "rising" Of f U)(c:Py P w K Z Y n)(d:Z "len" =none):Z2 P w K Z Y n f U ["numbers","told","number","at"] 1 F1:=C7 F Cz rfl λ_ _ _ _ _ _ a b=>(AL (FF (i:=1) b rfl (Or.inl rfl) (Bh DV)) (AL (Ba AAe rfl (Dv (AJ 0)) (Cv 2 b) (AL (CB 3 b (iR (AK c a rfl (Ao (AJ 1) (AJ 2))))) (AR (A9 (rT (JH (Ox (Et (Ec a) (AJ 3) (BX Hd rfl d ACg (Bo (AJ 1)))) (LX (Et (RF a) (AU (AJ 1) (AJ 3)) (AJ 2)))))) (AR (Ce (i:=1) PySem.F.slot_list_insert PySem.F.type_list_insert c4 (Ao (AJ 3) (AJ 2)))) Ay)))) (AR (AX (AJ 1)))))
theorem gW (F:Z1 K "turns" Ti f U)(c:Jr P w K Z Y n)(d:VG P w K Z Y n):Z2 P w K Z Y n f U ["one","other","begin","end","corners"] 4 JZ:=by
 have a:(["corner"] :km Str).Nodup:=!4
 exact C7 F Cz rfl λ_ _ _ _ _ _ b e=>(AL (CB 4 e (Ag Bl (AK c b rfl (DG (AJ 0) (AJ 2) (AJ 3))) (AK c b rfl (DG (AJ 1) (AJ 2) (AJ 3))))) (AR (AX (AK d b rfl (Bo (Ag Bl (EB (Bh (Ao (AJ 2) (AJ 3)))) (EB (C2 rfl (Dv (AJ 4)) (CI (own:=1) (ix:= []) (N:= ["corner"]) rfl rfl rfl rfl rfl rfl (λ_ _ _ _ _ _=>(MM 0 a)) (λ_ _ _ _ _ _=>B3) (λ_ _ _ _ _ _=>(AU (AJ 0) AH)))))))))))
theorem cQ (F:Z1 K "pieces" Od f U)(d:XI P w K Z Y n)(e:bP P w K Z Y n)(g:XO P w K Z Y n)(h:kB P w K Z Y n)(j:Z "len" =none)(k:Z "range" =none):Z2 P w K Z Y n f U ["one","other","apart","span","moments","offs","told","at","bottom","lines"] 3 G5:=by
 have c:(["m","one","other","apart"] :km Str).Nodup:=!4
 exact C7 F Cz rfl λ_ _ _ _ _ _ b a=>(AL (CB 3 a (AK g b rfl (Ao (AJ 0) (AJ 1)))) (AL (A9 (Et Os (AJ 3) BZ) (AR (AX (EB (Bh DV)))) Ay) (AL (CB 4 a (AK h b rfl (A5 (AJ 0) (DG (AJ 1) (AU (AJ 3) AH) (AU (AJ 3) AH))))) (AL (KH (i:=5) rfl a rfl (Or.inl rfl) (Dv (AJ 4)) (CI (own:=1) (ix:= [0,1,2]) (N:= ["m","one" ,"other" ,"apart" ]) rfl rfl rfl rfl rfl rfl (λ_ _ _ _ _ _=>(MM 0 c)) (λ_ _ _ _ _ _=>B3) (λ_ _ _ _ _ _=>(AK e b rfl (A5 (AJ 1) (DG (AJ 2) (AJ 3) (AJ 0))))))) (AL (FF (i:=6) a rfl (Or.inl rfl) (Bh DV)) (AL (Ba AAe rfl (oB rfl k (Ao AH (BX Hd rfl j ACg (Bo (AJ 4))))) (Cv 7 a) (AL (EY (AK d b rfl (Ao (AU (AJ 5) (Ag CL (AJ 7) AH)) (AU (AJ 5) (AJ 7)))) (Bi (n:=2) rfl (AZ (Cv 8 a) (AZ (Cv 9 a) BL)))) (AR (Ce (i:=6) ACI ACJ Be (Bo (AW (A5 (AU (AJ 4) (Ag CL (AJ 7) AH)) (DG (AU (AJ 4) (AJ 7)) (AJ 8) (AJ 9))))))))) (AR (AX (AJ 6)))))))))
theorem Lo:DK ["stretches","steps","begin","held","end","first","last"] ["stretches"] (Ar Ga):=Cz
theorem Vl (F:Wm K "steps_of" "steps_of" Ga f U):Du P w K Z Y MP (n+1) f U ["stretches"] (CA K 1 Hh):=by
 have a:=Lo.nd;refine F.ok Lo (λvs H Q E h=> ?_) (λb A outer s H vs Q E c h=> ?_)
 .obtain ⟨T,M,xs,d,_,_,r,hl,_⟩:=h;rw[r.length,hl] <;> rfl
 obtain⟨T,M,xs,d,va,_,r,hl,hF,hQ⟩:=h;have hu:=l8 c;obtain⟨x,ys,m,rfl,hx,hz,e,hq⟩:=Wl hF;cases r with
 | cons r g=> cases g;refine⟨_,(BW (Fh (i:=1) a rfl (Or.inl rfl) lQ) (BW (X5 AAe rfl (gx (pv 0)) (OR rfl (Dm (Eh (i:=2) a rfl (Or.inl rfl)) (Dm (Eh (i:=3) a rfl (Or.inl rfl)) (Dm (Eh (i:=4) a rfl (Or.inl rfl)) J3)))) (BW (Fh (i:=5) a rfl (Or.inl rfl) (OP (Bj (pv 2) (Bj (Bn X1 A8 (pv 3)) D9)))) (BW (Zl hu (pv 1) (pv 5) (Bn HM (Vv hu (pv 1) (pv 5) A8 ⟨rfl,rfl,rfl,rfl⟩) A8) rfl) (Ej (Zk (Md Ze (pv 4) gv (Cs _)) (BW (Fh (i:=6) a rfl (Or.inl rfl) (OP (Bj (pv 4) (Bj A8 D9)))) (Ej (Zl hu (pv 1) (pv 6) (Bn X1 (Vv hu (pv 1) (pv 6) A8 ⟨rfl,rfl,rfl,rfl⟩) A8) rfl))) Mc))))) (Ej (OT (pv 1))))), ?_⟩;exact YW va r hx hz e λp j ex k hp=>hQ _ (.dct m) T j (Z6 va ex) (l7 va k hp) hq
theorem cP (F:Z1 K "levels" Oc f U)(d:VG P w K Z Y n)(e:XN P w K Z Y n)(g:Z "list" =none):Z2 P w K Z Y n f U ["stretches","steps","told","count","moment","side"] 1 G4:=by
 have b:(["moment","side"] :km Str).Nodup:=!4
 exact C7 F Cz rfl λ_ _ _ _ _ _ c a=>(AL (CB 1 a (AK e c rfl (Bo (AJ 0)))) (AL (FF (i:=2) a rfl (Or.inl rfl) (Bh DV)) (AL (CB 3 a AH) (AL (Ba AAe rfl (Dv (AK d c rfl (Bo (EB (C2 rfl (Dv (EB (iV c rfl g boot_list (Bo (AJ 1))))) (CI (own:=2) (ix:= []) (N:= ["moment","side" ]) rfl rfl rfl rfl rfl rfl (λ_ _ _ _ _ _=>(Tw (n:=2) rfl (EO (MM 0 b) (EO (MM 1 b) Ml)))) (λ_ _ _ _ _ _=>B3) (λ_ _ _ _ _ _=>(AJ 0)))))))) (Cv 4 a) (AR (Ba AAe rfl (Dv (AW (Ao AH AH))) (Cv 5 a) (AR (A9 (rX c (AJ 4) (AJ 5) (AJ 1)) (AL (ie (i:=3) a rfl (Or.inl rfl) (mC c (AJ 1) (AJ 4) (AJ 5) (λ_ _=>rfl)) rJ) (AR (Ce (i:=2) ACI ACJ Be (Bo (AW (DG (AJ 4) (AJ 5) (AJ 3))))))) Ay))))) (AR (AX (AJ 2)))))))
theorem Xn (F:Z1 K "counted" LG f U)(b:fg P w K Z Y n)(c:Z "tuple" =none):Z2 P w K Z Y n f U ["stretches","n","told","begin","moment","side","count"] 2 En:=C7 F Cz rfl λ_ _ _ _ _ _ d a=>(AL (FF (i:=2) a rfl (Or.inl rfl) (Bh DV)) (AL (CB 3 a BZ) (AL (Ba AAe rfl (Dv (AK b d rfl (Bo (AJ 0)))) (Bi (n:=3) rfl (AZ (Cv 4 a) (AZ (Cv 5 a) (AZ (Cv 6 a) BL)))) (AR (A9 (JH (Ge (Et Os (AJ 3) BZ) (Ek (Et Z4 (AJ 6) (AJ 1))))) (AR (CB 3 a (AW (Ao (AJ 4) (Ag CL AH (AJ 5)))))) (AR (A9 (JH (Ge (Et KG (AJ 3) BZ) (Ek (Et GB (AJ 6) (AJ 1))))) (AL (Ce (i:=2) ACI ACJ Be (Bo (AW (DG (AU (AJ 3) AH) (AU (AJ 3) AH) (AJ 4))))) (AR (CB 3 a BZ))) Ay))))) (AL (A9 (Et KG (AJ 3) BZ) (AR (Ce (i:=2) ACI ACJ Be (Bo (AW (DG (AU (AJ 3) AH) (AU (AJ 3) AH) BZ))))) Ay) (AR (AX (Bt Cu rfl c ACa (Bo (AJ 2)))))))))
theorem Vo (F:Z1 K "told_set" JC f U)(a:bI P w K Z Y n):Z2 P w K Z Y n f U ["stretches"] 1 E4:=C7 F Cz rfl λ_ _ _ _ _ _ b _=>(AR (AX (AK a b rfl (Ao (AJ 0) AH))))
theorem Vp (F:Z1 K "too_near" JD f U)(c:bO P w K Z Y n)(d:fh P w K Z Y n)(e:XQ P w K Z Y n):Z2 P w K Z Y n f U ["one","other","apart"] 3 E5:=by
 have a:(["stretch","piece"] :km Str).Nodup:=!4
 exact C7 F Cz rfl λ_ _ _ _ _ _ b _=>(AR (AX (AK e b rfl (Bo (EB (iU rfl (Dv (AK d b rfl (DG (AJ 0) (AJ 1) (AJ 2)))) (jw (own:=2) (own2:=1) (ix:= []) (N:= ["stretch","piece" ]) rfl rfl rfl rfl rfl rfl (!1) (λ_ _ _ _ _ _=>(MM 1 a)) (λ_ _ _ _ _ _=>B3) (λ_ _ _ _ _ _=>(Dv (AK c b rfl (Bo (AJ 1))))) (λ_ _ _ _ _ _=>(MM 0 a)) (λ_ _ _ _ _ _=>B3) (λ_ _ _ _ _ _=>(AJ 0)))))))))
theorem qO (F:Z1 K "law" RD f U)(e:SZ P w K Z Y n)(g:bH P w K Z Y n)(h:Ny P w K Z Y n)(j:Ic P w K Z Y n)(k:VC P w K Z Y n)(l:XE P w K Z Y n)(c:bL P w K Z Y n)(o:bN P w K Z Y n)(p:XR P w K Z Y n)(r:Z "len" =none)(s:Z "min" =none)(t:Z "range" =none):Z2 P w K Z Y n f U ["_law_script","_law_nothing","_law_k","_law_tape_here","_law_apart_here","_law_near","_law_found","_law_one","_law_other","_law_begin","_law_held","_law_end","_law_middle"] 1 Ep:=by
 have d:(["_law_flight","_law_nothing"] :km Str).Nodup:=!4
 exact C7 F Cz rfl λ_ _ _ _ _ _ a b=>(AL (FG (i:=1) b rfl (Or.inr rfl) (AW (DG (AW (Ao AH AH)) (AW (Ao AH AH)) (AW (Ao AH AH))))) (AL (Ba AAe rfl (On rfl t (Bo (Ag Bl AH (BX (rE rfl) rfl s boot_min (Ao AH (BX Hd rfl r ACg (Bo (AJ 0)))))))) (Cv 2 b) (AL (CB 3 b (AK k a rfl (Ao (AJ 0) (AJ 2)))) (AL (EY (EB (C2 rfl (Dv (AK l a rfl (Bo (AJ 3)))) (CI (own:=1) (ix:= [1]) (N:= ["_law_flight","_law_nothing" ]) rfl rfl rfl rfl rfl rfl (λ_ _ _ _ _ _=>(MM 0 d)) (λ_ _ _ _ _ _=>B3) (λ_ _ _ _ _ _=>(AW (Ao (AU (AJ 0) AH) (AJ 1))))))) (Bi (n:=2) rfl (AZ (Cv 7 b) (AZ (Cv 8 b) BL)))) (AL (CB 4 b (AK e a rfl (Bo (AJ 3)))) (AL (CB 5 b (AK p a rfl (DG (AU (AJ 7) AH) (AU (AJ 8) AH) (AJ 4)))) (AL (CB 6 b (AK o a rfl (DG (AJ 7) (AJ 8) (AJ 4)))) (AL (A9 (Et (RF a) (EW (Ec a) (AU (AJ 6) AH) Tl (Cs _)) (EW (RF a) (AJ 5) (AW DV) (Cs _))) (AR (AX IK)) Ay) (AL (A9 (JH (Ge (Et (Ec a) (AU (AJ 6) AH) Tl) (Ek (JH (Ox (Et (RF a) (AU (AJ 6) AH) (AU (AJ 6) AH)) (LX (FH (BR (AK g a rfl (Ao (AJ 5) (AU (AJ 6) AH))))))))))) (AR (AX IK)) Ay) (AR (Ba AAe rfl (Dv (AJ 5)) (Bi (n:=3) rfl (AZ (Cv 9 b) (AZ (Cv 10 b) (AZ (Cv 11 b) BL)))) (AL (CB 12 b (AK h a rfl (Ao (AW (Ao AH AH)) (AK j a rfl (Ao (AJ 9) (AJ 11)))))) (AL (A9 (JH (Ox (FH (BR (AK c a rfl (A5 (AJ 7) (A5 (AJ 8) (DG (AJ 4) (AJ 12) (AJ 12))))))) (LX (BR (AK c a rfl (A5 (AJ 7) (A5 (AJ 8) (DG (AJ 4) (AJ 11) (AJ 11))))))))) (AR (AX IK)) Ay) (AR (A9 (Et (RF a) (AK c a rfl (A5 (AJ 7) (A5 (AJ 8) (DG (AJ 4) (AJ 9) (AJ 9))))) (EW (Ec a) (AJ 10) AH (Cs _))) (AR (AX IK)) Ay)))))))))))))) (AR (AX IK))))
end
def pQ {K:AAJ}{Z:Str->ke kj}{k:Nat}{st:Stmt}{sp:Sp}(F:Wm K x x st f U)(b:Binds K U ps [])(m:Z x=some (.ref f))(G:Du P w K Z Y MP k f U ps sp):Has P w K Z Y k x ps sp:=⟨f,U,m,F.kp,b,G⟩
def ur {a:km kj}(hl:a.length=1):∃b:kj,a= [b] :=by match a,hl with | [b],_=>exact⟨_,rfl⟩
def ut {a:km kj}(hl:a.length=2):∃b c:kj,a= [b,c] :=by match a,hl with | [b,c],_=>exact⟨_,_,rfl⟩
def uv {a:km kj}(hl:a.length=3):∃b c d:kj,a= [b,c,d] :=by match a,hl with | [b,c,d],_=>exact⟨_,_,_,rfl⟩
def uw {a:km kj}(hl:a.length=4):∃b c d e:kj,a= [b,c,d,e] :=by match a,hl with | [b,c,d,e],_=>exact⟨_,_,_,_,rfl⟩
def ux {a:km kj}(hl:a.length=5):∃b c d e f:kj,a= [b,c,d,e,f] :=by match a,hl with | [b,c,d,e,f],_=>exact⟨_,_,_,_,_,rfl⟩
def Ci (K:AAJ)(x:Str)(st:Stmt)(f:kf):Prop:=PySem.W.nsIn K mainGlobals x=some (some (.ref f))/\∃U,Wm K x x st f U
def xp {K:AAJ}{st:Stmt}{g:kj}{h:ke kf}{d:Array (ke kj)}{kV:kj}(a:PySem.W.nsIn K mainGlobals x=some (some (.ref f)))(l:K.lookup f=some ⟨g,h, .func (PySem.W.fnOf x x (EE st) (CJ st) (Ar st) .none kV e j i b ct),d⟩)(c:PySem.W.codeIn K b x=true)(k:PySem.W.keepIn K (.ref f)=true):Ci K x st f:=⟨a,_,fU l c k⟩
def yG {P:gn}{w:fe}{K:AAJ}{h Y:Wf}{Z:Str->ke kj}{k:Nat}{x:Str}{st:Stmt}{ps:km Str}{sp:Sp}{f:kf}(A:Ci K x st f)(X:K.In h)(G:h.Ns mainGlobals Z)(g:∀U,Wm K x x st f U->Binds K U ps [] ->Z x=some (.ref f)->Du P w K Z Y MP k f U ps sp)(b:∀U,Wm K x x st f U->Binds K U ps [] :=by exact λ_ F=>F.binds λ_ _ _ _ _ _ c hl=>by first | (obtain⟨_,rfl⟩:=ur hl;rfl)|(obtain⟨_,_,rfl⟩:=ut hl;rfl)|(obtain⟨_,_,_,rfl⟩:=uv hl;rfl)|(obtain⟨_,_,_,_,rfl⟩:=uw hl;rfl)|(obtain⟨_,_,_,_,_,rfl⟩:=ux hl;rfl)):Has P w K Z Y k x ps sp:=
 let ⟨a,U,F⟩:=A;pQ F (b U F) (ADS X G a) (g U F (b U F) (ADS X G a))
def xO (K:AAJ)(x:Str)(st:Stmt)(f:kf)(d:Int):Prop:=PySem.W.nsIn K mainGlobals x=some (some (.ref f))/\∃U,R0 K x x st f U d
def uN {P:gn}{w:fe}{K:AAJ}{h Y:Wf}{Z:Str->ke kj}{k:Nat}{x:Str}{st:Stmt}{ps:km Str}{d:Int}{sp:Sp}{f:kf}(A:xO K x st f d)(X:K.In h)(G:h.Ns mainGlobals Z)(b:∀U,R0 K x x st f U d->∃c,Binds K U ps [.int d c])(g:∀U,R0 K x x st f U d->Du P w K Z Y MP k f U ps sp):Wn P w K Z Y k x ps d sp:=
 let ⟨a,U,F⟩:=A;let ⟨c,B⟩:=b U F;⟨f,U,c,ADS X G a,F.kp,B,g U F⟩
def all_mk {l:PySem.W.OpenLaw}{K:AAJ}{f1 f4 f27 f35 f44 f45 f48 f54 f55 f57 f62:kf}(X:K.In h)(G:h.Ns mainGlobals Z)(hfa:Z "law" =some (.ref fa))(a1:Ci K "_law_draw" FW f1)(a2:Ci K "_law_apart" GX f2)(a3:Ci K "_law_less" HS f3)(a4:Ci K "_law_in" LF f4)(a5:Ci K "_law_part" HU f5)(a6:Ci K "_law_product" FA f6)(a7:Ci K "_law_sum" Io f7)(a8:Ci K "_law_tape" FX f8)(a9:Ci K "_law_bounds" Fj f9)(a10:Ci K "_law_place" GY f10)(a11:Ci K "_law_span" HW f11)(a12:Ci K "_law_plan" HV f12)(a13:Ci K "_law_two" Ip f13)(a14:Ci K "before" OZ f14)(a15:Ci K "common" Oa f15)(a16:Ci K "part" YE f16)(a17:Ci K "minus" Tg f17)(a18:Ci K "negative" Iw f18)(a19:Ci K "is_one_time" Fn f19)(a20:Ci K "is_there" Iu f20)(a21:Ci K "plus" YF f21)(a22:Ci K "size_of" LP f22)(a23:Ci K "sizes_of" I0 f23)(a24:Ci K "over" YD f24)(a25:Ci K "times" Th f25)(a26:Ci K "spot_between" FB f26)(a27:Ci K "spot_at" LQ f27)(a28:Ci K "is_meet" LK f28)(a29:Ci K "summed" Og f29)(a30:Ci K "crossed" LH f30)(a31:Ci K "is_never" Ir f31)(a32:Ci K "turn_of" LR f32)(a33:Ci K "is_tighter" GZ f33)(a34:Ci K "tightest" JA f34)(a35:Ci K "fault_in" Iq f35)(a36:Ci K "side_form" HZ f36)(a37:Ci K "time_form" Ha f37)(a38:Ci K "form_of" LI f38)(a39:Ci K "placed" Oe f39)(a40:Ci K "shared_bottom" EV f40)(a41:Ci K "plane_of" Iy f41)(a42:Ci K "whole" Tj f42)(a43:Ci K "told_weights" FC f43)(a44:Ci K "range_in" Iz f44)(a45:Ci K "value_in" JE f45)(a46:Ci K "weights_by_time" Dq f46)(a47:xO K "without" Hs f47 2)(a48:Ci K "meet_in" LL f48)(a49:Ci K "piece_between" EU f49)(a50:Ci K "pieces_of" HY f50)(a51:Ci K "wedges_of" Hc f51)(a52:Ci K "meet_of" LM f52)(a53:Ci K "lesser" Ob f53)(a54:Ci K "moment_at" HX f54)(a55:Ci K "near_in" LN f55)(a56:Ci K "lines_of" Iv f56)(a57:Ci K "offs_at" LO f57)(a58:Ci K "greater" LJ f58)(a59:Ci K "together" JB f59)(a60:Ci K "corners_between" Dp f60)(a61:Ci K "count_below" Fk f61)(a62:Ci K "rising" Of f62)(a63:Ci K "turns" Ti f63)(a64:Ci K "pieces" Od f64)(a65:Ci K "steps_of" Ga f65)(a66:Ci K "levels" Oc f66)(a67:Ci K "counted" LG f67)(a68:Ci K "told_set" JC f68)(a69:Ci K "too_near" JD f69)(H:Ci K "law" RD f70)(t:PySem.W.nsIn K mainGlobals "abs" =some none)(a:PySem.W.nsIn K mainGlobals "enumerate" =some none)(u:PySem.W.nsIn K mainGlobals "int" =some none)(x:PySem.W.nsIn K mainGlobals "len" =some none)(o:PySem.W.nsIn K mainGlobals "list" =some none)(y:PySem.W.nsIn K mainGlobals "max" =some none)(z:PySem.W.nsIn K mainGlobals "min" =some none)(i:PySem.W.nsIn K mainGlobals "range" =some none)(A:PySem.W.nsIn K mainGlobals "set" =some none)(c:PySem.W.nsIn K mainGlobals "sorted" =some none)(j:PySem.W.nsIn K mainGlobals "tuple" =some none)(B:PySem.W.nsIn K mainGlobals "zip" =some none){qBACK_3:Tok}{qBACK_1d:ke kf}{qBACK_1s:Array (ke kj)}{qNOUGHT_5:Tok}{qNOUGHT_6:Tok}{qNOUGHT_4d:ke kf}{qNOUGHT_4s:Array (ke kj)}{qONCE_8:Tok}{qONCE_9:Tok}{qONCE_7d:ke kf}{qONCE_7s:Array (ke kj)}{qSTRICT_11:Tok}{qSTRICT_12:Tok}{qSTRICT_13:Tok}{qSTRICT_14:Tok}{qSTRICT_15:Tok}{qSTRICT_16:Tok}{qSTRICT_17:Tok}{qSTRICT_18:Tok}{qSTRICT_19:Tok}{qSTRICT_20:Tok}{qSTRICT_21:Tok}{qSTRICT_22:Tok}{qSTRICT_10d:ke kf}{qSTRICT_10s:Array (ke kj)}(a_STRICT:PySem.W.nsIn K mainGlobals "STRICT" =some (some (.ref qSTRICT_10)))(a_ONCE:PySem.W.nsIn K mainGlobals "ONCE" =some (some (.ref qONCE_7)))(a_NOUGHT:PySem.W.nsIn K mainGlobals "NOUGHT" =some (some (.ref qNOUGHT_4)))(a_BACK:PySem.W.nsIn K mainGlobals "BACK" =some (some (.ref qBACK_1)))(h_qBACK_1:K.lookup qBACK_1=some ⟨.type "tuple",qBACK_1d, .seq (List.toArray [(.int (-1) qBACK_2),(.int 1 qBACK_3)]) qBACK_1n,qBACK_1s⟩)(h_qNOUGHT_4:K.lookup qNOUGHT_4=some ⟨.type "tuple",qNOUGHT_4d, .seq (List.toArray [(.int 0 qNOUGHT_5),(.int 1 qNOUGHT_6)]) qNOUGHT_4n,qNOUGHT_4s⟩)(h_qONCE_7:K.lookup qONCE_7=some ⟨.type "tuple",qONCE_7d, .seq (List.toArray [(.int 1 qONCE_8),(.int 1 qONCE_9)]) qONCE_7n,qONCE_7s⟩)(h_qSTRICT_10:K.lookup qSTRICT_10=some ⟨.type "tuple",qSTRICT_10d, .seq (List.toArray [(.int 0 qSTRICT_11),(.int 1 qSTRICT_12),(.int 0 qSTRICT_13),(.int 1 qSTRICT_14),(.int 0 qSTRICT_15),(.int 0 qSTRICT_16),(.int 1 qSTRICT_17),(.int 1 qSTRICT_18),(.int 1 qSTRICT_19),(.int 1 qSTRICT_20),(.int 1 qSTRICT_21),(.int 1 qSTRICT_22)]) qSTRICT_10n,qSTRICT_10s⟩):∃U:FuncData,(∀(s:ki) (v:kj),BindsTo s U ⟨[v], []⟩ [("_law_script",v)])/\∀Y:Wf,K.In Y->Y.Ns mainGlobals Z->Du l.prog w K Z Y MP 9 fa U ["_law_script"] (CA K 1 Ep):=by have e:=hfa.symm.trans (ADS X G H.1);cases e;obtain⟨aL,fdL,FL⟩:=H;obtain⟨⟨oc,od,kV,doc,pm,an,cdv,ct,osl,eL,lL,cL⟩,kL⟩:=FL;subst eL;have FL:=fU lL cL kL;have FJ:=ACT X G t;have FZ:=ACT X G a;have RN:=ACT X G u;have k:=ACT X G x;have Yl:=ACT X G o;have jF:=ACT X G y;have jG:=ACT X G z;have r:=ACT X G i;have jH:=ACT X G A;have O4:=ACT X G c;have m:=ACT X G j;have I:=ACT X G B;have p:Kc K Z "BACK" (.tup [(.int (-1)),(.int 1)]):=ZS (ADS X G a_BACK) (Mf h_qBACK_1 (.cons Bk (.cons Bk .nil)));have d:Kc K Z "NOUGHT" (.tup [(.int 0),(.int 1)]):=ZS (ADS X G a_NOUGHT) (Mf h_qNOUGHT_4 (.cons Bk (.cons Bk .nil)));have b:Kc K Z "ONCE" (.tup [(.int 1),(.int 1)]):=ZS (ADS X G a_ONCE) (Mf h_qONCE_7 (.cons Bk (.cons Bk .nil)));have f:Kc K Z "STRICT" (.tup [(.int 0),(.int 1),(.int 0),(.int 1),(.int 0),(.int 0),(.int 1),(.int 1),(.int 1),(.int 1),(.int 1),(.int 1)]):=ZS (ADS X G a_STRICT) (Mf h_qSTRICT_10 (.cons Bk (.cons Bk (.cons Bk (.cons Bk (.cons Bk (.cons Bk (.cons Bk (.cons Bk (.cons Bk (.cons Bk (.cons Bk (.cons Bk .nil)))))))))))));refine⟨PySem.W.fnOf "law" "law" (EE RD) (CJ RD) (Ar RD) .none kV doc pm an cdv ct,λs v=> .of_eq rfl,λY _ _=> ?_⟩;have hs:= @yG l.prog w K h Y Z;have H1:=hs a1 X G λ_ F _ _=>Sw (n:=0) F;have H2:=hs a2 X G λ_ F _ _=>P4 (n:=1) F (BE H1);have H3:=hs a3 X G λ_ F _ _=>Sx (n:=0) F;have H4:=hs a4 X G λ_ F _ _=>Xm (n:=1) F (BE H3);have J:=hs a5 X G λ_ F _ _=>Sy (n:=0) F FJ RN;have H6:=hs a6 X G λ_ F _ _=>MG (n:=1) F (BE J);have H7:=hs a7 X G λ_ F _ _=>Vb (n:=1) F (BE J);have H8:=hs a8 X G λ_ F _ _=>S2 (n:=0) F FJ RN k;have H9:=hs a9 X G λ_ F _ _=>OI (n:=1) F (BE H1);have wV:=hs a10 X G λ_ F _ _=>P5 (n:=1) F (BE H1) (BE J);have sM:=hs a11 X G λ_ F _ _=>S1 (n:=1) F (BE H1) (BE J);have H12:=hs a12 X G λ_ F _ _=>S0 (n:=2) F (BE H1) (BE wV) (BE sM) (BE H7) k m;have H13:=hs a13 X G λ_ F _ _=>Vc (n:=3) F (BE H9) (BE H1) (BE J) (BE wV) (BE H12) (BE H7) k r m;have g:=hs a14 X G λ_ F _ _=>cM (n:=0) F;have xS:=hs a15 X G λ_ F _ _=>cN (n:=0) F;have D:=hs a16 X G λ_ F _ _=>lC (n:=1) F (BE xS) FJ;have C:=hs a17 X G λ_ F _ _=>gT (n:=2) F (BE D);have xT:=hs a18 X G λ_ F _ _=>Vh (n:=0) F;have H19:=hs a19 X G λ_ F _ _=>OL (n:=3) F (BE g) (BE C) (BE xT);have H20:=hs a20 X G λ_ F _ _=>Vf (n:=1) F (BE g);have E:=hs a21 X G λ_ F _ _=>lD (n:=2) F (BE D);have L:=hs a22 X G λ_ F _ _=>Xx (n:=0) F;have M:=hs a23 X G λ_ F _ _=>Vk (n:=3) F (BE E) (BE L) r;have wW:=hs a24 X G λ_ F _ _=>lB (n:=2) F (BE D);have xU:=hs a25 X G λ_ F _ _=>gU (n:=2) F (BE D);have H26:=hs a26 X G λ_ F _ _=>MH (n:=3) F (BE C) (BE wW) (BE E) (BE xU) m I;have N:=hs a27 X G λ_ F _ _=>Xy (n:=4) F (BE g) (BE H26) k r;have H28:=hs a28 X G λ_ F _ _=>Xr (n:=5) F (BE g) (BE H19) (BE H20) (BE C) (BE M) (BE N) FJ I;have H29:=hs a29 X G λ_ F _ _=>cT (n:=0) F jF m I;have O:=hs a30 X G λ_ F _ _=>Xo (n:=1) F (BE H29);have H31:=hs a31 X G λ_ F _ _=>Ve (n:=0) F;have P:=hs a32 X G λ_ F _ _=>Xz (n:=0) F;have H33:=hs a33 X G λ_ F _ _=>P6 (n:=1) F (BE g) (BE P);have Q:=hs a34 X G λ_ F _ _=>Vm (n:=2) F (BE H33);have H35:=hs a35 X G λ_ F _ _=>Vd (n:=3) F (BE O) (BE H31) (BE Q);have H36:=hs a36 X G λ_ F _ _=>S5 (n:=3) F (BE C) (BE xT) (BE E);have H37:=hs a37 X G λ_ F _ _=>S6 (n:=1) F (BE xT) p d b;have H38:=hs a38 X G λ_ F _ _=>Xp (n:=4) F (BE H36) (BE H37);have H39:=hs a39 X G λ_ F _ _=>cR (n:=0) F m;have R:=hs a40 X G λ_ F _ _=>LC (n:=1) F (BE xS);have H41:=hs a41 X G λ_ F _ _=>Vi (n:=2) F (BE R) m;have S:=hs a42 X G λ_ F _ _=>gX (n:=0) F;have H43:=hs a43 X G λ_ F _ _=>MI (n:=1) F (BE xS) (BE S) O4 m;have H44:=hs a44 X G λ_ F _ _=>Vj (n:=3) F (BE D) (BE Q) (BE P);have H45:=hs a45 X G λ_ F _ _=>Vq (n:=4) F (BE wW) (BE E) (BE H44) (BE S);have H46:=hs a46 X G λ_ F _ _=>Ik (n:=3) F (BE g) (BE E) b;have H47:= @uN l.prog w K h Y Z _ _ _ _ _ _ _ a47 X G (λ_ F=>F.binds3 λ_ _ _ _ _ _ _ _ _=>⟨_,rfl,λ_=>rfl⟩) λ_ F=>X0 (n:=2) F (BE O) k jH;have H48:=hs a48 X G λ_ F _ _=>Xs (n:=5) F (BE H35) (BE H38) (BE H39) (BE H41) (BE H43) (BE H45) (BE H46) (H47.mono (!1)) r f;have H49:=hs a49 X G λ_ F _ _=>LB (n:=3) F (BE C) (BE wW) (BE xU) I;have H50:=hs a50 X G λ_ F _ _=>S4 (n:=4) F (BE H49) k r;have H51:=hs a51 X G λ_ F _ _=>S7 (n:=5) F (BE H50) (BE M) FZ;have H52:=hs a52 X G λ_ F _ _=>Xu (n:=6) F (BE H48) (BE H51) m;have T:=hs a53 X G λ_ F _ _=>cO (n:=1) F (BE g);have H54:=hs a54 X G λ_ F _ _=>S3 (n:=3) F (BE C) (BE D) (BE E) (BE xU);have H55:=hs a55 X G λ_ F _ _=>Xv (n:=4) F (BE g) (BE T) (BE H54);have H56:=hs a56 X G λ_ F _ _=>Vg (n:=2) F (BE R) I;have H57:=hs a57 X G λ_ F _ _=>Xw (n:=5) F (BE C) (BE wW) (BE L) (BE N) r;have H58:=hs a58 X G λ_ F _ _=>Xq (n:=1) F (BE g);have H59:=hs a59 X G λ_ F _ _=>Vn (n:=2) F (BE g) (BE H58) (BE T);have H60:=hs a60 X G λ_ F _ _=>Ij (n:=1) F (BE g) m;have H61:=hs a61 X G λ_ F _ _=>OJ (n:=1) F (BE g) k;have H62:=hs a62 X G λ_ F _ _=>cS (n:=2) F (BE H61) k;have H63:=hs a63 X G λ_ F _ _=>gW (n:=3) F (BE H60) (BE H62);have H64:=hs a64 X G λ_ F _ _=>cQ (n:=6) F (BE H56) (BE H57) (BE H59) (BE H63) k r;have H65:=hs a65 X G λ_ F _ _=>Vl (n:=0) F;have H66:=hs a66 X G λ_ F _ _=>cP (n:=3) F (BE H62) (BE H65) Yl;have H67:=hs a67 X G λ_ F _ _=>Xn (n:=4) F (BE H66) m;have H68:=hs a68 X G λ_ F _ _=>Vo (n:=5) F (BE H67);have H69:=hs a69 X G λ_ F _ _=>Vp (n:=7) F (BE H55) (BE H64) (BE H68);exact qO (n:=8) FL (BE H2) (BE H4) (BE H6) (BE H7) (BE H8) (BE H13) (BE H28) (BE H52) (BE H69) k jG r
def walk {l:PySem.W.OpenLaw}{q:gn}{loose:km Str}{YP:fe->Wf->Prop}{d:DefRec}{K:Params->AAJ}(c:l.most=some 63)(e:d.params.defaults= [])(g:∀(w:fe) (h:Wf),YP w h->(K w.params).In h)(F:∀(w:fe) (Z:Str->ke kj) (b:kf) (h:Wf),(K w.params).In h->h.Ns mainGlobals Z->Z d.name=some (.ref b)-> ∃U:FuncData,(∀(s:ki) (u:kj),BindsTo s U ⟨[u], []⟩ [("_law_script",u)])/\∀Y:Wf,(K w.params).In Y->Y.Ns mainGlobals Z->Du l.prog w (K w.params) Z Y MP 9 b U ["_law_script"] (CA (K w.params) 1 Ep)):PySem.W.WalkO q loose XP YP l.row.toRowW d [] (λf vs=>PySem.call f vs):=
 L2.walk_of (n:=63) (k:=9) (x:="_law_script") (CX:=λ_=>MP) (sp:=λw=>CA (K w.params) 1 Ep) c (!1) e ⟨rfl,!1,!1,rfl⟩ g F (λ_ _ a i hl _ j=>PL.law_sp j (gH i hl)) λ_ _ _ _ _ z=>z
def atKD {K:AAJ}{x:String}{d:Int}(t:Nat)(b n:Nat)(m:String)(i c f:Nat)(a:PySem.W.nsIn K mainGlobals (Str.ofString x)=some (some (.ref f)):=by kernel_rfl)(l:K.lookup f=some (fOD t x s m i c):=by kernel_rfl)(e:PySem.W.codeIn K (.ref c) (Str.ofString x)=true:=by kernel_rfl)(k:PySem.W.keepIn K (.ref f)=true:=by kernel_rfl)(g:K.lookup t=some ⟨.type "tuple",none, .seq #[.int d b] n, #[]⟩:=by kernel_rfl):xO K (Str.ofString x) s f d:=⟨a,_,⟨⟨_,_,_,_,_,_,_,_,_,t,rfl,l,e,_,b,n,g,rfl⟩,k⟩⟩
def atK {K:AAJ}{x:String}(m:String)(i c f:Nat)(a:PySem.W.nsIn K mainGlobals (Str.ofString x)=some (some (.ref f)):=by kernel_rfl)(l:K.lookup f=some (fO x s m i c):=by kernel_rfl)(d:PySem.W.codeIn K (.ref c) (Str.ofString x)=true:=by kernel_rfl)(k:PySem.W.keepIn K (.ref f)=true:=by kernel_rfl):Ci K (Str.ofString x) s f:=xp a l d k
end K33
open PySem PySem.W PyProof.Rows
def K33.lg:LeftO K33.pwA K33.q [] (λs=>xlAt K33.q [] s&&recOk [] s) (λs=>K33.KA.map s.heap.get?) (λw=>(K33.KK w.params).map λp=>some p.2) 6000:=λw=>PL.map_pair (PL.map5 (K33.l0 w) (K33.l1 w) (K33.l2 w) (K33.l3 w) (K33.l4 w)) (K33.l5 w)
theorem PySem.Challenge.cw_skylanes_k33_without_bounds_holds : PySem.Challenge.rw_skylanes_k33_without_bounds.Holds := by
 refine ⟨K33.w1, ?_⟩
 refine PySem.W.holds_open (q:=K33.q) (loose:= []) (Xt:=λs=>xlAt K33.q [] s&&recOk [] s) (XP:=XL K33.q []) (YP:=InK K33.KK) (N:=6000) K33.lg (InK.of (as:=K33.KA) λ_=>by kernel_rfl) InK.keeps (λs e=>xl_of s (Bool.and_eq_true_iff.mp e).1) XL.keeps (by rfl) (by rfl) (by rfl) (λs e=>recFacts_of (Bool.and_eq_true_iff.mp e).2) (by rfl) K33.w0 (!4) ⟨rfl,rfl,rfl,rfl,rfl,!4⟩ ?hw ?hc
 (case hw=>w_witness2)
 case hc=>
 refine K33.walk (l:=PySem.Challenge.rw_skylanes_k33_without_bounds) (K:=K33.KK) rfl rfl (λw h Y=>Y) ?F
 intro w mg fa h KX G uX
 refine' K33.all_mk KX G uX (K33.atK K33.m0 752 396 397) (K33.atK K33.m0 752 473 474) (K33.atK K33.m0 752 410 411) (K33.atK K33.m0 752 485 486) (K33.atK K33.m0 752 403 404) (K33.atK K33.m0 752 431 432) (K33.atK K33.m0 752 417 418) (K33.atK K33.m0 752 389 390) (K33.atK K33.m0 752 466 467) (K33.atK K33.m0 752 445 446) (K33.atK K33.m0 752 452 453) (K33.atK K33.m0 752 459 460) (K33.atK K33.m0 752 478 479) (K33.atK K33.m1 187 69 70) (K33.atK K33.m1 187 20 21) (K33.atK K33.m1 187 27 28) (K33.atK K33.m1 187 48 49) (K33.atK K33.m2 558 290 291) (K33.atK K33.m3 677 351 352) (K33.atK K33.m3 677 344 345) (K33.atK K33.m1 187 41 42) (K33.atK K33.m4 474 243 244) (K33.atK K33.m2 558 309 310) (K33.atK K33.m1 187 62 63) (K33.atK K33.m1 187 55 56) (K33.atK K33.m5 410 186 187) (K33.atK K33.m5 410 193 194) (K33.atK K33.m3 677 358 359) (K33.atK K33.m6 300 114 115) (K33.atK K33.m6 300 121 122) (K33.atK K33.m6 300 139 140) (K33.atK K33.m6 300 146 147) (K33.atK K33.m6 300 153 154) (K33.atK K33.m6 300 160 161) (K33.atK K33.m6 300 167 168) (K33.atK K33.m2 558 330 331) (K33.atK K33.m2 558 323 324) (K33.atK K33.m2 558 337 338) (K33.atK K33.m6 300 132 133) (K33.atK K33.m1 187 90 91) (K33.atK K33.m6 300 109 110) (K33.atK K33.m1 187 34 35) (K33.atK K33.m3 677 370 371) (K33.atK K33.m6 300 174 175) (K33.atK K33.m6 300 181 182) (K33.atK K33.m3 677 365 366) (K33.atKD 123 323 0 K33.m6 300 127 128) (K33.atK K33.m3 677 375 376) (K33.atK K33.m2 558 297 298) (K33.atK K33.m2 558 302 303) (K33.atK K33.m2 558 316 317) (K33.atK K33.m3 677 382 383) (K33.atK K33.m1 187 76 77) (K33.atK K33.m4 474 267 268) (K33.atK K33.m4 474 274 275) (K33.atK K33.m4 474 255 256) (K33.atK K33.m4 474 248 249) (K33.atK K33.m1 187 83 84) (K33.atK K33.m4 474 231 232) (K33.atK K33.m5 410 198 199) (K33.atK K33.m1 187 97 98) (K33.atK K33.m1 187 104 105) (K33.atK K33.m4 474 236 237) (K33.atK K33.m4 474 260 261) (K33.atK K33.m7 433 205 206) (K33.atK K33.m7 433 210 211) (K33.atK K33.m7 433 217 218) (K33.atK K33.m7 433 224 225) (K33.atK K33.m4 474 279 280) (K33.atK K33.m0 752 490 491) (by kernel_rfl) (by kernel_rfl) (by kernel_rfl) (by kernel_rfl) (by kernel_rfl) (by kernel_rfl) (by kernel_rfl) (by kernel_rfl) (by kernel_rfl) (by kernel_rfl) (by kernel_rfl) (by kernel_rfl) ?a_STRICT ?a_ONCE ?a_NOUGHT ?a_BACK ?h_qBACK_1 ?h_qNOUGHT_4 ?h_qONCE_7 ?h_qSTRICT_10 (qBACK_1:=283) (qBACK_1n:=0) (qBACK_1d:=none) (qBACK_1s:= #[]) (qBACK_2:=567) (qBACK_3:=568) (qNOUGHT_4:=281) (qNOUGHT_4n:=0) (qNOUGHT_4d:=none) (qNOUGHT_4s:= #[]) (qNOUGHT_5:=560) (qNOUGHT_6:=561) (qONCE_7:=282) (qONCE_7n:=0) (qONCE_7d:=none) (qONCE_7s:= #[]) (qONCE_8:=563) (qONCE_9:=564) (qSTRICT_10:=284) (qSTRICT_10n:=0) (qSTRICT_10d:=none) (qSTRICT_10s:= #[]) (qSTRICT_11:=570) (qSTRICT_12:=571) (qSTRICT_13:=572) (qSTRICT_14:=573) (qSTRICT_15:=574) (qSTRICT_16:=575) (qSTRICT_17:=576) (qSTRICT_18:=577) (qSTRICT_19:=578) (qSTRICT_20:=579) (qSTRICT_21:=580) (qSTRICT_22:=581)
 (case a_STRICT=>kernel_rfl)
 (case a_ONCE=>kernel_rfl)
 (case a_NOUGHT=>kernel_rfl)
 (case a_BACK=>kernel_rfl)
 (case h_qBACK_1=>kernel_rfl)
 (case h_qNOUGHT_4=>kernel_rfl)
 (case h_qONCE_7=>kernel_rfl)
 (case h_qSTRICT_10=>kernel_rfl)
end
