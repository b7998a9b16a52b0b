import PyProof.Rows.All
import KE.KItem
import KE.IntBitsLaws
import PySem.Challenge.RW_skylanes_k53_at_gates
set_option Elab.async false
set_option linter.all false
set_option maxRecDepth 100000
set_option maxHeartbeats 0
abbrev km:=@List
abbrev kj:=PySem.Value
abbrev ki:=PySem.Shared
abbrev ke:=PySem.Addr
abbrev kd:=@Option
abbrev kc:=PySem.Expr
abbrev gn:=Bool
abbrev fm:=PySem.Program
abbrev fe:=PySem.World
abbrev Wf:=PySem.Heap
abbrev Tb:=PySem.Around
abbrev AAA:=@PySem.wpAny_bind
abbrev AAB:=PySem.W.Frag
abbrev AAC:=@if_neg
abbrev AAD:=@if_pos
abbrev AAE:=@PySem.wpAny_pure
abbrev AAF:=@List.mem_cons
abbrev AAG:=@PySem.Heap.lt_size
abbrev AAH:=@PySem.Heap.get?_push_of_some
abbrev AAI:=@List.pairwise_cons
abbrev AAJ:=@Nat.le_refl
abbrev AAK:=@List.length_map
abbrev AAL:=@List.mem_append
abbrev AAM:=@Nat.ne_of_lt
abbrev AAN:=@List.size_toArray
abbrev AAO:=@Bool.false_ne_true
abbrev AAP:=@List.map_cons
abbrev AAQ:=@PySem.Heap.get?_push_size
abbrev AAR:=@List.mem_singleton
abbrev AAS:=@decide_eq_false
abbrev AAU:=@PySem.PassesOwn.never
abbrev AAV:=@Option.some.inj
abbrev AAW:=@Nat.lt_of_lt_of_le
abbrev AAX:=@if_false
abbrev AAY:=@List.map_append
abbrev AAZ:=@List.mem_map
abbrev AAa:=@Nat.le_trans
abbrev AAb:=@List.getElem?_set_ne
abbrev AAc:=@List.length_cons
abbrev AAd:=@PySem.wpAny_holding
abbrev AAe:=@List.mem_filter
abbrev AAf:=@Bool.false_eq_true
abbrev AAg:=@PyProof.Rows.boot_tuple
abbrev AAh:=@List.getElem?_eq_getElem
abbrev AAi:=@decide_eq_true
abbrev AAj:=@Nat.le_of_ble_eq_true
abbrev AAk:=@Ne.symm
abbrev AAl:=@List.mem_of_getLast?
abbrev AAm:=@List.mem_append_right
abbrev AAn:=@List.length_append
abbrev AAo:=@Bool.and_eq_true
abbrev AAp:=@Nat.lt_of_le_of_lt
abbrev AAq:=@List.getElem?_eq_some_iff
abbrev AAr:=@PySem.wpAny_field
abbrev AAs:=@List.getElem?_map
abbrev AAx:=@List.filter_cons
abbrev AAy:=@PySem.W.mg_none_of
abbrev AAz:=@List.foldl_cons
abbrev AA0:=@List.nil_append
abbrev AA1:=@List.not_mem_nil
abbrev AA2:=@or_false
abbrev ABN:=@PySem.boot_len
abbrev ABO:=@PySem.wpAny_call_entry
abbrev ABP:=@if_true
abbrev ABQ:=@PySem.wpAny_newObj_type
abbrev ABR:=@Nat.ne_of_gt
abbrev ABS:=@Nat.zero_le
abbrev ABT:=@List.getLast?_eq_some_getLast
abbrev ABU:=@Rat.one_mul
abbrev ABV:=@PySem.wpAny_seqItems
abbrev ABW:=@List.mem_cons_of_mem
abbrev ABX:=@Rat.num_divInt_den
abbrev ABY:=@List.pairwise_append
abbrev ABZ:=@decide_eq_true_iff
abbrev ABa:=@PySem.F.slot_list_append
abbrev ABb:=@PySem.F.type_list_append
abbrev ABc:=@Bool.not_true
abbrev ABd:=@Nat.lt_irrefl
abbrev ABe:=@PySem.Heap.size_push
abbrev ABf:=@List.getElem?_append_right
abbrev ABg:=@PySem.call_meets
abbrev ABh:=@List.any_eq_true
abbrev ABi:=@of_decide_eq_true
abbrev ABj:=@of_decide_eq_false
abbrev ABk:=@PySem.wpAny_rule
abbrev ABl:=@List.mem_cons_self
abbrev ABm:=@Bool.eq_iff_iff
abbrev ABn:=@List.getElem?_append_left
abbrev ABo:=@List.replicate_succ
abbrev ABp:=@PySem.wpAny_of_eq
abbrev ABq:=@List.map_map
abbrev ABr:=@List.any_cons
abbrev ABs:=@PySem.wpAny_setState_of
abbrev ABt:=@PySem.wpAny_specialOf
abbrev ABu:=@PySem.wpAny_truthy_bool
abbrev ABv:=@PySem.wpAny_mono
abbrev ABw:=@PySem.wpAny_standAt
abbrev ABx:=@List.getElem?_replicate
abbrev ABy:=@List.length_replicate
abbrev ABz:=@PySem.wpAny_callSpecial?_slot
abbrev AB0:=@PySem.Heap.get?_update_self
abbrev AB1:=@Int.fdiv_eq_ediv_of_nonneg
abbrev AB2:=@List.map_congr_left
abbrev AB3:=@List.getLast?_cons_cons
abbrev AB4:=@List.find?_cons
abbrev AB5:=@Rat.zero_mul
abbrev AB6:=@Int.natAbs_natCast
abbrev AB7:=@Rat.le_refl
abbrev AB8:=@Array.length_toList
abbrev AB9:=@PySem.wpAny_isInstance
abbrev ACA:=@PySem.wpAny_passesOwn
abbrev ACB:=@Prod.ext
abbrev ACC:=@List.take_of_length_le
abbrev ACD:=@Nat.div_le_self
abbrev ACE:=@Int.natCast_ediv
abbrev ACF:=@List.mem_flatMap
abbrev ACG:=@Rat.add_zero
abbrev ACH:=@Rat.le_of_lt
abbrev ACI:=@Option.getD_some
abbrev ACJ:=@Rat.neg_mul
abbrev ACK:=@PySem.W.mg_of
abbrev ACL:=@beq_eq_false_iff_ne
abbrev ACN:=@PySem.Paired.length
abbrev ACO:=@List.getElem?_set_self
abbrev ACP:=@PyProof.Rows.callWith_type1
abbrev ACQ:=@List.mem_of_getElem?
abbrev ACR:=@Int.toNat_natCast
abbrev ACS:=@PyProof.Rows.slot_tuple_getitem
abbrev ACT:=@PySem.wpAny_typeOf
abbrev ACU:=@List.flatten_cons
abbrev ACV:=@List.append_assoc
abbrev ACW:=@List.forIn_cons
abbrev ACX:=@List.getElem_mem
abbrev ACY:=@PySem.wpAny_setField_rec
abbrev ACZ:=@Nat.pow_le_pow_right
abbrev ACa:=@Rat.div_def
abbrev ACb:=@Int.natAbs_neg
abbrev ACc:=@Nat.gcd_comm
abbrev ACd:=@Nat.gcd_pos_of_pos_right
abbrev ACe:=@List.map_drop
abbrev ACf:=@Option.map_eq_some_iff
abbrev ACg:=@List.foldl_append
abbrev ACh:=@List.length_filter_le
abbrev ACi:=@Rat.divInt_eq_div
abbrev ACj:=@Rat.mul_pos_iff_of_pos_left
abbrev ACk:=@Rat.mul_eq_zero
abbrev ACl:=@Nat.le_of_lt
abbrev ACm:=@PySem.Calls.spliced_cons
abbrev ACn:=@PySem.wpAny_call
abbrev ACo:=@PySem.codeAny_mono
abbrev ACp:=@PySem.mem_of_lookup
abbrev ACq:=@List.length_drop
abbrev ACr:=@PySem.Heap.get?_update_other
abbrev ACs:=@PySem.typeIs_int
abbrev ACt:=@List.map_nil
abbrev ACu:=@List.getElem?_set
abbrev ACv:=@Int.natAbs_mul
abbrev ACw:=@Nat.gcd_dvd_right
abbrev ACx:=@List.sum_cons
abbrev ACy:=@Option.bind_some
abbrev ACz:=@List.length_nil
abbrev AC0:=@Option.isSome_map
abbrev AC1:=@PySem.F.slot_dict_get
abbrev AC2:=@PySem.F.slot_dict_keyiterator_next
abbrev AC3:=@Nat.zero_add
abbrev AC4:=@PySem.F.called_set
abbrev AC5:=@PySem.wpAny_ite_false
abbrev AC6:=@Bool.or_eq_true
abbrev AC7:=@List.dropLast_concat_getLast
abbrev AC8:=@Rat.intCast_lt_intCast
abbrev AC9:=@List.getLast?_concat
abbrev ADA:=@Int.emod_nonneg
abbrev ADB:=@Int.emod_lt_of_pos
abbrev ADC:=@PyProof.Rows.boot_isinstance
abbrev ADD:=@PySem.F.slot_tuple_hash
abbrev ADE:=@Array.forIn_toList
abbrev ADF:=@PySem.wpAny_forIn_list
abbrev ADG:=@PySem.F.slot_tuple_eq
abbrev ADH:=@List.mem_range
abbrev ADI:=@PySem.wpAny_execs_nil
abbrev ADJ:=@List.append_nil
abbrev ADK:=@List.nodup_cons
abbrev ADL:=@List.length_take
abbrev ADM:=@PySem.Calls.callWith_builtin
abbrev ADN:=@List.reverse_cons
abbrev ADO:=@Nat.succ_mul
abbrev ADP:=@PySem.F.slot_int_rmul
abbrev ADQ:=@Nat.lt_trans
abbrev ADR:=@PySem.wpAny_pyIter_list
abbrev ADS:=@PySem.F.slot_tuple_iterator_next
abbrev ADT:=@PySem.wpAny_setField
abbrev ADU:=@PySem.Heap.SameBut.update
abbrev ADV:=@PySem.Obj.data_mapFields
abbrev ADW:=@List.forIn_nil
abbrev ADX:=@PySem.wpAny_onRaise
abbrev ADY:=@PySem.wpAny_letGo
abbrev ADZ:=@PySem.wpAny_attempt
abbrev ADa:=@PySem.F.slot_zip_next
abbrev ADb:=@List.all_eq_true
abbrev ADc:=@decide_eq_true_eq
abbrev ADd:=@List.drop_eq_getElem_cons
abbrev ADe:=@Rat.num_divInt
abbrev ADf:=@Nat.le_of_dvd
abbrev ADg:=@decide_eq_decide
abbrev ADh:=@Int.natCast_mul
abbrev ADi:=@Rat.divInt_eq_divInt_iff
abbrev ADj:=@Int.mul_assoc
abbrev ADk:=@List.getElem?_drop
abbrev ADl:=@List.cons_append
abbrev ADm:=@PySem.call_meetsIn
abbrev ADn:=@PySem.wpAny_typeNameOfWhole_keyiter
abbrev ADo:=@PySem.wpAny_pyIter_enum
abbrev ADp:=@PySem.Heap.get?_update_ne
abbrev ADq:=@PySem.wpAny_askSetting
abbrev ADr:=@PySem.F.slot_tuple_mul
abbrev ADs:=@Nat.mul_le_mul
abbrev ADt:=@List.dropLast_subset
abbrev ADu:=@List.map_take
abbrev ADv:=@Rat.intCast_mul
abbrev ADw:=@Rat.mul_pos
abbrev ADx:=@Rat.intCast_zero
abbrev ADy:=@List.pairwise_map
abbrev ADz:=@List.length_dropLast
abbrev AD0:=@PySem.wpAny_tupleItemsOf
abbrev AD1:=@Nat.add_assoc
abbrev AD2:=@PySem.isSubtype_tuple_tuple
abbrev AD3:=@List.getElem?_eq_none_iff
abbrev AD4:=@List.filterMap_cons
abbrev AD5:=@PySem.wpAny_assign_Name
abbrev AD6:=@Int.fmod_eq_emod_of_nonneg
abbrev AD7:=@PySem.Calls.spliced_nil
abbrev AD8:=@PySem.wpAny_Call_Name_kw
abbrev AD9:=@List.of_mem_zip
abbrev AEA:=@PySem.noFill_tuple_add
abbrev AEB:=@PySem.F.slot_tuple_add
abbrev AEC:=@PySem.F.entry_tuple_add
abbrev AED:=@PySem.F.args_tuple_add_2
abbrev AEE:=@PySem.Calls.evalArgs_plain
abbrev AEF:=@Nat.add_comm
abbrev AEG:=@List.lookup_cons
abbrev AEH:=@PySem.wpAny_comprehension_free
abbrev AEI:=@List.getD_eq_getElem?_getD
abbrev AEJ:=@PySem.wpAny_updateSeq_pair
abbrev AEK:=@List.drop_eq_nil_of_le
abbrev AEL:=@List.take_succ_cons
abbrev AEM:=@Rat.den_divInt
abbrev AEN:=@Rat.divInt_add_divInt
abbrev AEO:=@Rat.divInt_mul_divInt
abbrev AEP:=@Int.sign_eq_one_of_pos
abbrev AEQ:=@List.pairwise_singleton
abbrev AER:=@List.set_cons_succ
abbrev AES:=@List.dropLast_eq_take
abbrev AET:=@PySem.F.entry_dict_get
abbrev AEU:=@PySem.F.args_dict_get_3
abbrev AEV:=@PySem.wpAny_Call_method
abbrev AEW:=@PySem.F.plainAttrs_dict
abbrev AEX:=@PySem.wpAny_dictEntries
abbrev AEY:=@PySem.wpAny_dictEpoch
abbrev AEZ:=@Bool.or_false
abbrev AEa:=@PySem.wpAny_updateSeq
abbrev AEb:=@Option.bind_eq_some_iff
abbrev AEc:=@PySem.F.slot_set_init
abbrev AEd:=@Prod.mk.injEq
abbrev AEe:=@List.flatMap_cons
abbrev AEf:=@List.any_eq_false
abbrev AEg:=@Rat.zero_add
abbrev AEh:=@Classical.byContradiction
abbrev AEi:=@List.filter_eq_nil_iff
abbrev AEj:=@decide_false
abbrev AEk:=@List.any_append
abbrev AEl:=@PySem.W.cellsFrom_some
abbrev AEm:=@PyProof.noPylong_of_log2
abbrev AEn:=@PySem.F.entry_tuple_iterator_next
abbrev AEo:=@PySem.F.args_tuple_iterator_next_1
abbrev AEp:=@Int.gcd_eq_natAbs_gcd_natAbs
abbrev AEq:=@Int.fdiv_eq_ediv_of_dvd
abbrev AEr:=@Int.sign_eq_neg_one_of_neg
abbrev AEs:=@PySem.F.type_dict_get
abbrev AEt:=@PySem.F.entry_dict_keyiterator_next
abbrev AEu:=@PySem.F.args_dict_keyiterator_next_1
abbrev AEv:=@Array.getElem?_eq_getElem
abbrev AEw:=@PySem.F.slot_dict_itemiterator_iter
abbrev AEx:=@PySem.F.slot_dict_items
abbrev AEy:=@PyProof.Rows.boot_set
abbrev AEz:=@List.getElem?_cons_succ
abbrev AE0:=@List.length_pos_of_mem
abbrev AE1:=@List.length_eq_zero_iff
abbrev AE2:=@List.filter_cons_of_pos
abbrev AE3:=@List.concat_eq_append
section
namespace L2
open PySem
def EI (s:Stmt):Arguments:=match s with
 | .FunctionDef _ a _ _ _ _ _ _ _ _=>a
 | _=>{posonlyargs:= [],args:= [],vararg:=none,kwonlyargs:= [],kw_defaults:= [],kwarg:=none,defaults:= [] }
def CO (s:Stmt):km Stmt:=match s with
 | .FunctionDef _ _ b _ _ _ _ _ _ _=>b
 | _=> []
def A0 (s:Stmt):Scope:=match s with
 | .FunctionDef _ _ _ _ _ _ sc _ _ _=>sc
 | _=>{kind:= .function,names:= [],isGenerator:=false,isCoroutine:=false}
end L2
namespace K53
open PySem L2 PyProof.Rows
abbrev pwA:=PySem.Challenge.pw_skylanes_k53_at_gates
def top (i:Nat):Stmt:=K53.pwA.main.body.getD i (.Pass ⟨0,0,0,0⟩)
abbrev Fb:Stmt:=top 54
abbrev HR:Stmt:=top 55
abbrev JB:Stmt:=top 58
abbrev FB:Stmt:=top 59
abbrev GS:Stmt:=top 60
abbrev JC:Stmt:=top 57
abbrev E9:Stmt:=top 76
abbrev Fj:Stmt:=top 64
abbrev HQ:Stmt:=top 56
abbrev EF:Stmt:=top 70
abbrev EX:Stmt:=top 73
abbrev FA:Stmt:=top 74
abbrev Fk:Stmt:=top 72
abbrev JA:Stmt:=top 66
abbrev GR:Stmt:=top 61
abbrev HU:Stmt:=top 62
abbrev HS:Stmt:=top 63
abbrev HV:Stmt:=top 65
abbrev Fn:Stmt:=top 67
abbrev Fc:Stmt:=top 53
abbrev GT:Stmt:=top 69
abbrev FC:Stmt:=top 68
abbrev Fo:Stmt:=top 75
abbrev HW:Stmt:=top 71
abbrev ON:Stmt:=top 22
abbrev LI:Stmt:=top 23
abbrev JE:Stmt:=top 25
abbrev OG:Stmt:=top 8
abbrev LM:Stmt:=top 26
abbrev GV:Stmt:=top 27
abbrev JI:Stmt:=top 28
abbrev JD:Stmt:=top 29
abbrev OH:Stmt:=top 1
abbrev EY:Stmt:=top 10
abbrev JG:Stmt:=top 21
abbrev WT:Stmt:=top 2
abbrev JH:Stmt:=top 30
abbrev Ht:Stmt:=top 24
abbrev GU:Stmt:=top 50
abbrev R5:Stmt:=top 5
abbrev JF:Stmt:=top 41
abbrev WS:Stmt:=top 7
abbrev WU:Stmt:=top 4
abbrev R6:Stmt:=top 6
abbrev FD:Stmt:=top 33
abbrev LL:Stmt:=top 34
abbrev HX:Stmt:=top 35
abbrev LJ:Stmt:=top 9
abbrev OI:Stmt:=top 47
abbrev LK:Stmt:=top 37
abbrev R7:Stmt:=top 3
abbrev HY:Stmt:=top 46
abbrev OM:Stmt:=top 45
abbrev OO:Stmt:=top 32
abbrev R4:Stmt:=top 36
abbrev OQ:Stmt:=top 44
abbrev OL:Stmt:=top 48
abbrev Fq:Stmt:=top 11
abbrev OK:Stmt:=top 12
abbrev GW:Stmt:=top 14
abbrev OJ:Stmt:=top 15
abbrev LH:Stmt:=top 16
abbrev JJ:Stmt:=top 17
abbrev OP:Stmt:=top 19
abbrev Fp:Stmt:=top 51
abbrev QP:Stmt:=top 77
def m0:String:="law_skylanes_k53_at_gates"
def m1:String:="skylanes.planes"
def m2:String:="skylanes.fractions"
def m3:String:="skylanes.amounts"
def m4:String:="skylanes.wedges"
def m5:String:="skylanes.plans"
def m6:String:="skylanes.shapes"
def m7:String:="skylanes.stretches"
def m8:String:="skylanes.gates"
def eN (P:Params)(x:String)(i:Nat)(v:kj):DictEntry:=⟨PyData.keyHash P (Str.ofString x), .str (Str.ofString x) i,v⟩
abbrev eR (P:Params)(x:String)(i f:Nat):=eN P x i (.ref f)
def fO (x:String)(s:Stmt)(m:String)(i c:Nat):Obj:=⟨.type "function",none, .func (PySem.W.fnOf (Str.ofString x) (Str.ofString x) (EI s) (CO s) (A0 s) .none .none .none (.str (Str.ofString m) i) none (.ref c) .none), #[]⟩
def wc (t:Nat)(x:String)(s:Stmt)(m:String)(i c:Nat):Obj:=⟨.type "function",none, .func (PySem.W.fnOf (Str.ofString x) (Str.ofString x) (EI s) (CO s) (A0 s) (.ref t) .none .none (.str (Str.ofString m) i) none (.ref c) .none), #[]⟩
def rV:Nat->kj
 | 0=> .none
 | n+1=> .ref (n+1)
def fc (x:String)(s:Stmt)(m:String)(a c f i l n g b d e h j u:Nat)(r:AAB):AAB:=
 (c,⟨.type "code",none, .fields #[.str (Str.ofString x) i, .str (Str.ofString x) (i+1), .str (Str.ofString "/claim/cut.py") (i+2), .int l 0, .int n 0, .int 0 0, .int 0 0, .int g 0,rV b, .bool true, .int 181 0,rV d, .none,rV e,rV h,rV j, .int u 0, .int l 0, .str (Str.ofString "/claim/cut.py") (u+1)], #[]⟩) ::
 (f,fO x s m a c)::r
def zr (t:Nat)(x:String)(s:Stmt)(m:String)(a c f i l n g b d e h j u:Nat)(r:AAB):AAB:=
 (c,⟨.type "code",none, .fields #[.str (Str.ofString x) i, .str (Str.ofString x) (i+1), .str (Str.ofString "/claim/cut.py") (i+2), .int l 0, .int n 0, .int 0 0, .int 0 0, .int g 0,rV b, .bool true, .int 181 0,rV d, .none,rV e,rV h,rV j, .int u 0, .int l 0, .str (Str.ofString "/claim/cut.py") (u+1)], #[]⟩) ::
 (f,wc t x s m a c)::r
def vD (P:Params):Obj:=⟨.type "dict",none, .dict #[eN P "__name__" 165 (.str (Str.ofString "law_skylanes_k53_at_gates") 609),eN P "__doc__" 166 .none,eN P "__package__" 167 .none,eN P "__loader__" 168 (.builtin "__main__.__loader__#opaque"),eN P "__spec__" 169 .none,eR P "__annotations__" 170 6,eR P "__builtins__" 171 4,eN P "__file__" 173 (.str (Str.ofString "/claim/cut.py") 172),eN P "__cached__" 174 .none,eR P "common" 196 21,eR P "part" 205 28,eR P "whole" 212 35,eR P "plus" 220 42,eR P "minus" 228 49,eR P "times" 236 56,eR P "over" 244 63,eR P "before" 252 70,eR P "greater" 260 77,eR P "shared_bottom" 270 84,eR P "count_below" 281 91,eR P "rising" 291 98,eR P "steps_of" 306 105,eR P "levels" 312 110,eR P "counted" 325 117,eR P "told_set" 332 124,eR P "use_of" 343 131,eR P "plane_of" 351 136,eR P "summed" 357 141,eR P "crossed" 366 148,eR P "without" 373 154,eR P "is_never" 381 161,eR P "turn_of" 391 168,eR P "is_tighter" 402 175,eR P "tightest" 413 182,eR P "fault_in" 424 189,eR P "range_in" 436 196,eR P "tupled" 444 201,eR P "spot_between" 450 206,eR P "spot_at" 459 213,eR P "corner_at" 467 220,eR P "later" 473 225,eR P "put_off" 479 230,eR P "NOUGHT" 484 231,eR P "ONCE" 487 232,eR P "negative" 494 239,eR P "WAYS" 530 240,eR P "waited" 541 253,eR P "slowed" 547 258,eR P "led_round" 553 263,eR P "cut_at" 559 268,eR P "shaped" 574 275,eR P "amounts_in" 582 280,eR P "bad_at_gate" 608 287,eR P "_law_tape" 620 294,eR P "_law_draw" 630 301,eR P "_law_part" 641 308,eR P "_law_less" 649 315,eR P "_law_sum" 657 322,eR P "_law_off" 665 329,eR P "_law_product" 673 336,eR P "_law_ratio" 681 343,eR P "_law_place" 689 350,eR P "_law_span" 697 357,eR P "_law_plan" 709 364,eR P "_law_bounds" 717 371,eR P "_law_spot" 723 376,eR P "_law_now" 735 383,eR P "_law_shaped" 741 388,eR P "_law_use_has" 754 395,eR P "_law_times" 765 402,eR P "_law_has_inner" 771 407,eR P "_law_word" 778 414,eR P "_law_is_set" 788 421,eR P "_law_is_whole" 795 428,eR P "_law_is_part" 802 435,eR P "_law_within" 813 442,eR P "_law_amounts" 830 449,eR P "law" 850 456] 78, #[]⟩
def KK (P:Params):AAB:=(3,vD P)::(fc "_law_draw" Fb m0 609 300 301 621 234 2 3 295 296 297 298 299 628 <| fc "_law_part" HR m0 609 307 308 631 242 2 3 302 303 304 305 306 639 <| fc "_law_off" JB m0 609 328 329 658 252 2 3 323 324 325 326 327 663 <| fc "_law_product" FB m0 609 335 336 666 254 2 3 330 331 332 333 334 671 <| fc "_law_ratio" GS m0 609 342 343 674 256 2 3 337 338 339 340 341 679 <| fc "_law_sum" JC m0 609 321 322 650 250 2 3 316 317 318 319 320 655 <| fc "_law_amounts" E9 m0 609 448 449 814 372 4 3 443 444 445 446 447 828 <| fc "_law_bounds" Fj m0 609 370 371 710 286 1 3 365 366 367 368 369 715 <| fc "_law_less" HQ m0 609 314 315 642 248 2 3 309 310 311 312 313 647 <| fc "_law_has_inner" EF m0 609 406 407 766 339 3 3 403 404 0 0 405 769 <| fc "_law_is_whole" EX m0 609 427 428 789 360 1 3 422 423 424 425 426 793 <| fc "_law_is_part" FA m0 609 434 435 796 362 1 3 429 430 431 432 433 800 <| fc "_law_is_set" Fk m0 609 420 421 779 345 1 3 415 416 417 418 419 786 <| fc "_law_now" JA m0 609 382 383 724 300 2 3 377 378 379 380 381 733 <| fc "_law_place" GR m0 609 349 350 682 258 1 3 344 345 346 347 348 687 <| fc "_law_span" HU m0 609 356 357 690 265 1 3 351 352 353 354 355 695 <| fc "_law_plan" HS m0 609 363 364 698 270 1 3 358 359 360 361 362 707 <| fc "_law_spot" HV m0 609 375 376 718 291 2 3 372 373 0 0 374 721 <| fc "_law_shaped" Fn m0 609 387 388 736 306 4 3 384 385 0 0 386 739 <| fc "_law_tape" Fc m0 609 293 294 611 228 2 3 288 289 290 291 292 618 <| fc "_law_times" GT m0 609 401 402 755 332 1 3 396 397 398 399 400 763 <| fc "_law_use_has" FC m0 609 394 395 742 326 3 3 389 390 391 392 393 752 <| fc "_law_within" Fo m0 609 441 442 803 366 2 3 436 437 438 439 440 811 <| fc "_law_word" HW m0 609 413 414 772 343 1 3 408 409 410 411 412 776 <| fc "summed" ON m1 344 140 141 352 89 4 3 137 138 0 0 139 355 <| fc "crossed" LI m1 344 147 148 358 95 3 3 142 143 144 145 146 364 <| fc "is_never" JE m1 344 160 161 374 106 1 3 155 156 157 158 159 379 <| fc "before" OG m2 187 69 70 245 21 2 3 64 65 66 67 68 250 <| fc "turn_of" LM m1 344 167 168 382 109 2 3 162 163 164 165 166 389 <| fc "is_tighter" GV m1 344 174 175 392 113 3 3 169 170 171 172 173 400 <| fc "tightest" JI m1 344 181 182 403 121 3 3 176 177 178 179 180 411 <| fc "fault_in" JD m1 344 188 189 414 127 2 3 183 184 185 186 187 422 <| fc "common" OH m2 187 20 21 189 2 2 3 15 16 17 18 19 194 <| fc "shared_bottom" EY m2 187 83 84 261 25 1 3 78 79 80 81 82 268 <| fc "plane_of" JG m1 344 135 136 346 85 3 3 132 133 0 0 134 349 <| fc "part" WT m2 187 27 28 197 6 2 3 22 23 24 25 26 203 <| fc "range_in" JH m1 344 195 196 425 136 2 3 190 191 192 193 194 434 <| zr 149 "without" Ht m1 344 153 154 368 97 3 3 150 151 0 0 152 371 <| fc "amounts_in" GU m3 575 279 280 577 203 2 3 276 277 0 0 278 580 <| fc "minus" R5 m2 187 48 49 221 15 2 3 43 44 45 46 47 226 <| fc "negative" JF m4 480 238 239 488 167 1 3 233 234 235 236 237 492 <| fc "over" WS m2 187 62 63 237 19 2 3 57 58 59 60 61 242 <| fc "plus" WU m2 187 41 42 213 13 2 3 36 37 38 39 40 218 <| fc "times" R6 m2 187 55 56 229 17 2 3 50 51 52 53 54 234 <| fc "spot_between" FD m5 437 205 206 445 148 3 3 202 203 0 0 204 448 <| fc "spot_at" LL m5 437 212 213 451 151 2 3 207 208 209 210 211 457 <| fc "corner_at" HX m5 437 219 220 460 158 2 3 214 215 216 217 218 465 <| fc "greater" LJ m2 187 76 77 253 23 2 3 71 72 73 74 75 258 <| fc "cut_at" OI m6 495 267 268 554 186 2 3 264 265 0 0 266 557 <| fc "put_off" LK m5 437 229 230 474 162 4 3 226 227 0 0 228 477 <| fc "whole" R7 m2 187 34 35 206 11 1 3 29 30 31 32 33 210 <| fc "led_round" HY m6 495 262 263 548 181 5 3 259 260 0 0 261 551 <| fc "slowed" OM m6 495 257 258 542 176 4 3 254 255 0 0 256 545 <| fc "tupled" OO m5 437 200 201 439 146 1 3 197 198 0 0 199 442 <| fc "later" R4 m5 437 224 225 468 160 2 3 221 222 0 0 223 471 <| fc "waited" OQ m6 495 252 253 531 171 4 3 247 248 249 250 251 539 <| fc "shaped" OL m6 495 274 275 560 191 3 3 269 270 271 272 273 572 <| fc "count_below" Fq m2 187 90 91 271 30 2 3 85 86 87 88 89 279 <| fc "rising" OK m2 187 97 98 282 40 1 3 92 93 94 95 96 289 <| fc "steps_of" GW m7 292 104 105 294 48 1 3 99 100 101 102 103 304 <| fc "levels" OJ m7 292 109 110 307 57 1 3 106 107 0 0 108 310 <| fc "counted" LH m7 292 116 117 313 67 2 3 111 112 113 114 115 323 <| fc "told_set" JJ m7 292 123 124 326 79 1 3 118 119 120 121 122 330 <| fc "use_of" OP m8 333 130 131 335 82 3 3 125 126 127 128 129 341 <| fc "bad_at_gate" Fp m3 575 286 287 583 211 6 3 281 282 283 284 285 606 <| fc "law" QP m0 609 455 456 831 383 1 3 450 451 452 453 454 848 <| [(232,⟨.type "tuple",none, .seq #[(.int 1 485),(.int 1 486)] 0, #[]⟩),(231,⟨.type "tuple",none, .seq #[(.int 0 482),(.int 1 483)] 0, #[]⟩),(240,⟨.type "dict",none, .dict #[eN P "east" 497 (.ref 241),eN P "west" 501 (.ref 242),eN P "north" 506 (.ref 243),eN P "south" 510 (.ref 244),eN P "up" 515 (.ref 245),eN P "down" 519 (.ref 246)] 6, #[]⟩),(241,⟨.type "tuple",none, .seq #[(.int 1 498),(.int 0 499),(.int 0 500)] 0, #[]⟩),(242,⟨.type "tuple",none, .seq #[(.int (-1) 503),(.int 0 504),(.int 0 505)] 0, #[]⟩),(243,⟨.type "tuple",none, .seq #[(.int 0 507),(.int 1 508),(.int 0 509)] 0, #[]⟩),(244,⟨.type "tuple",none, .seq #[(.int 0 511),(.int (-1) 513),(.int 0 514)] 0, #[]⟩),(245,⟨.type "tuple",none, .seq #[(.int 0 516),(.int 0 517),(.int 1 518)] 0, #[]⟩),(246,⟨.type "tuple",none, .seq #[(.int 0 520),(.int 0 521),(.int (-1) 523)] 0, #[]⟩),(149,⟨.type "tuple",none, .seq #[(.int 2 367)] 0, #[]⟩)])
def KA:km ke:= [3,300,301,307,308,328,329,335,336,342,343,321,322,448,449,370,371,314,315,406,407,427,428,434,435,420,421,382,383,349,350,356,357,363,364,375,376,387,388,293,294,401,402,394,395,441,442,413,414,140,141,147,148,160,161,69,70,167,168,174,175,181,182,188,189,20,21,83,84,135,136,27,28,195,196,153,154,279,280,48,49,238,239,62,63,41,42,55,56,205,206,212,213,219,220,76,77,267,268,229,230,34,35,262,263,257,258,200,201,224,225,252,253,274,275,90,91,97,98,104,105,109,110,116,117,123,124,130,131,286,287,455,456,232,231,240,241,242,243,244,245,246,149]
def q:fm:={K53.pwA with main:={K53.pwA.main with body:= [top 0,top 1,top 2,top 3,top 4,top 5,top 6,top 7,top 8,top 9,top 10,top 11,top 12,top 13,top 14,top 15,top 16,top 17,top 18,top 19,top 20,top 21,top 22,top 23,top 24,top 25,top 26,top 27,top 28,top 29,top 30,top 31,top 32,top 33,top 34,top 35,top 36,top 37,top 38,top 39,top 40,top 41,top 42,top 43,top 44,top 45,top 46,top 47,top 48,top 49,top 50,top 51,top 52,top 53,top 54,top 55,top 56,top 57,top 58,top 59,top 60,top 61,top 62,top 63,top 64,top 65,top 66,top 67,top 68,top 69,top 70,top 71,top 72,top 73,top 74,top 75,top 76,top 77] }}
end K53
open PySem PySem.W PyProof.Rows
def K53.se (s:ki):=openSeen K53.q ["WAYS"] (importedModules (K53.pwA).main.body) (λs=>xlAt K53.q [] s&&recOk [] s) true s
def K53.go:=openGood K53.q ["WAYS"]
def K53.rn (w:fe)(b:gn):=(fencedOpening treeTable K53.pwA w 6000).bind (topFrom treeTable K53.pwA (w.withFollow "special-get-raises" b) 6000)
def K53.l0f:∀w,(K53.rn w false).map (λs=>(K53.se s).1)=some (K53.go.1):=by intro w;kernel_rfl
def K53.l1f:∀w,(K53.rn w false).map (λs=>(K53.se s).2.1)=some (K53.go.2.1):=by intro w;kernel_rfl
def K53.l2f:∀w,(K53.rn w false).map (λs=>(K53.se s).2.2.1)=some (K53.go.2.2.1):=by intro w;kernel_rfl
def K53.l3f:∀w,(K53.rn w false).map (λs=>(K53.se s).2.2.2.1)=some (K53.go.2.2.2.1):=by intro w;kernel_rfl
def K53.l4f:∀w,(K53.rn w false).map (λs=>(K53.se s).2.2.2.2)=some (K53.go.2.2.2.2):=by intro w;kernel_rfl
def K53.l5f:∀w,(K53.rn w false).map (λs=>K53.KA.map s.heap.get?)=some ((K53.KK (w.withFollow "special-get-raises" false).params).map λp=>some p.2):=by intro w;kernel_rfl
def K53.l0t:∀w,(K53.rn w true).map (λs=>(K53.se s).1)=some (K53.go.1):=by intro w;kernel_rfl
def K53.l1t:∀w,(K53.rn w true).map (λs=>(K53.se s).2.1)=some (K53.go.2.1):=by intro w;kernel_rfl
def K53.l2t:∀w,(K53.rn w true).map (λs=>(K53.se s).2.2.1)=some (K53.go.2.2.1):=by intro w;kernel_rfl
def K53.l3t:∀w,(K53.rn w true).map (λs=>(K53.se s).2.2.2.1)=some (K53.go.2.2.2.1):=by intro w;kernel_rfl
def K53.l4t:∀w,(K53.rn w true).map (λs=>(K53.se s).2.2.2.2)=some (K53.go.2.2.2.2):=by intro w;kernel_rfl
def K53.l5t:∀w,(K53.rn w true).map (λs=>K53.KA.map s.heap.get?)=some ((K53.KK (w.withFollow "special-get-raises" true).params).map λp=>some p.2):=by intro w;kernel_rfl
def K53.w1:PySem.Challenge.rw_skylanes_k53_at_gates.wellSaid=true:=by
 kernel_rfl
def K53.w0:PySem.Challenge.rw_skylanes_k53_at_gates.row.wellSaid=true:=by
 kernel_rfl
end
namespace PySem
open Sem (wp)
abbrev FK:=(Int×Int)×Int
section
variable {prog:fm}{w:fe}
def Ih (prog:fm)(w:fe)(h:Wf)(k:FK)(a:ke):Prop:=∃o items n b u,h.get? a=some o/\o.cls= .type "tuple" /\o.data= .seq items n/\items.toList= [.ref b, .int k.2 u] /\IsTupleKey (intKind prog w) h [k.1.1,k.1.2] b
def Ih.typeIs {s:ki}{k:FK}{a:ke}(x:Ih prog w s.heap k a):s.TypeIs (.ref a) "tuple" :=let ⟨o,_,_,_,_,b,hc,_⟩:=x;⟨o,b,hc⟩
def Ih.inj {h:Wf}{a:ke}{x y:FK}(hx:Ih prog w h x a)(hy:Ih prog w h y a):x=y:=by obtain⟨o,items,n,b,u,i,_,hd,hi,hk⟩:=hx;obtain⟨j,c,m,p,r,k,_,e,f,l⟩:=hy;obtain rfl:o=j:=AAV (i.symm.trans k);rw[hd] at e;injection e with h1 _;subst h1;rw[hi] at f;injection f with h1 h2;injection h1 with h1;subst h1;injection h2 with h2 _;injection h2 with h2 _;have:=hk.inj l;obtain⟨⟨s,t⟩,v⟩:=x;obtain⟨⟨y1,y2⟩,y3⟩:=y;injection this with g d;injection d with d _;simp only at h2 g d;subst h2;subst g;subst d;rfl
def Ih.keeps {h h':Wf}{k:FK}{a d:ke}{o:Obj}{es ep}(x:Ih prog w h k a)(e:h.get? d=some o)(hd:o.data= .dict es ep)(hs:Heap.SameBut d h h'):Ih prog w h' k a:=by
 obtain⟨f,items,n,b,u,g,hc,c,hi,hk⟩:=x;have i:a≠d:=by rintro rfl;obtain rfl:f=o:=AAV (g.symm.trans e);rw[hd] at c;exact nomatch c
 exact⟨f,items,n,b,u,(hs.2 a i).trans g,hc,c,hi,hk.keeps e hd hs⟩
def Vd (prog:fm)(w:fe)(k:FK):Int:=reduceHash (Builtin.Tuple.tupleHashOf [tupleKeyHash (intKind prog w) [k.1.1,k.1.2],hashInt k.2])
variable {A:Tb}{E:kj->ki->Prop}{s:ki}
def MU {k:FK}{a:ke}{Q:Int->ki->Prop}(hu:A.units+1<cLine)(hk:Ih prog w s.heap k a)(h:Q (Vd prog w k) {s with toks:=s.toks+5}):wpAny (model prog w) A (pyHash (.ref a)) Q E s:=by
 have f:=hk.typeIs;obtain⟨o,items,n,b,u,i,_,hd,hi,j⟩:=hk;unfold pyHash;first | unfold pyHashByItsType|skip
 first | refine AAA (wpAny_cRoomFor_or (.inr (by omega)) ?_)|skip
 refine AAA (ABt f ADD.lookup ?_);show wpAny _ _ (if (some (Value.builtin "tuple.__hash__")==some Value.none)=true then _ else _) Q E s;rw[AAC (by rw[beq_builtin_none];exact AAO)];refine AAA (ABt f ADD.lookup ?_);show wpAny _ _ (callSpecialIfBoundUnlessNone? (.ref a) "__hash__" _ >>= _) Q E s;refine AAA (wpAny_callSpecialIfBoundUnlessNone?_slot f ADD (ABO ADD f F.entry_tuple_hash ?_ (F.args_tuple_hash_1 _)));show wpAny _ _ (Builtin.Tuple.tupleItemsOf (.ref a) >>= _) _ _ s;refine AAA (AD0 i hd ?_);refine AAA ?_;rw[<-ADE,hi];refine ADF _
  (λrest (r:Array Int) d=>(rest= [.ref b, .int k.2 u] /\r.toList= [] /\d=s)\/(rest= [.int k.2 u] /\r.toList= [tupleKeyHash (intKind prog w) [k.1.1,k.1.2]] /\d={s with toks:=s.toks+3})\/
    (rest= [] /\r.toList= [tupleKeyHash (intKind prog w) [k.1.1,k.1.2],hashInt k.2] /\d={s with toks:=s.toks+4}))
  _ ?_ ?_ _ _ (.inl ⟨rfl,rfl,rfl⟩)
 .rintro x rest r d (⟨c,e,rfl⟩|⟨c,e,rfl⟩|⟨c,_⟩)
  .cases c;refine AAA (wpAny_pyHash_tuple (knd:=intKind prog w) (by first | exact hu|omega) j ?_);exact AAE (.inr (.inl ⟨rfl,by simp[e],rfl⟩))
  .cases c;refine AAA (wpAny_pyHash_int ?_);exact AAE (.inr (.inr ⟨rfl,by simp[e],by simp[AD1]⟩))
  .cases c
 .rintro r d (⟨c,_⟩|⟨c,_⟩|⟨_,e,rfl⟩)
  .cases c
  .cases c
  .show wpAny _ _ (retInt (Builtin.Tuple.tupleHashOf r.toList)) _ _ _;rw[e];refine wpAny_ret_mkInt ?_;show wpAny _ _ (if (decide (-(2:Int)^63<=Builtin.Tuple.tupleHashOf [tupleKeyHash (intKind prog w) [k.1.1,k.1.2],hashInt k.2])&&decide (Builtin.Tuple.tupleHashOf [tupleKeyHash (intKind prog w) [k.1.1,k.1.2],hashInt k.2] < 2^63))=true then _ else _) Q E _;unfold Vd reduceHash at h;by_cases g:(decide (-(2:Int)^63<=Builtin.Tuple.tupleHashOf [tupleKeyHash (intKind prog w) [k.1.1,k.1.2],hashInt k.2])&&decide (Builtin.Tuple.tupleHashOf [tupleKeyHash (intKind prog w) [k.1.1,k.1.2],hashInt k.2] < 2^63))=true
   .rw [AAD g];rw[AAD g] at h;exact AAE (by simpa[AD1] using h)
   .rw [AAC g];rw[AAC g] at h;exact AAA (ABk (AAE (by simpa[AD1] using h)))
def Ve {x y:FK}{a b:ke}{P:Fin->ki->Prop}(hu:A.units<cLine)(hx:Ih prog w s.heap x a)(hy:Ih prog w s.heap y b)(h:P (.done (.ret (.bool (decide (x=y))))) s):wpAny (model prog w) A (Builtin.«tuple.__eq__» ⟨[.ref a, .ref b], []⟩) P E s:=by
 have j:=hy.typeIs;obtain⟨O,xs,Q,ba,D,k,_,l,F,m⟩:=hx;obtain⟨R,ys,S,I,G,n,_,hdb,H,o⟩:=hy;have J:xs.size=2:=by rw[<-AB8,F];rfl
 have K:ys.size=2:=by rw[<-AB8,H];rfl
 obtain⟨⟨e,f⟩,c⟩:=x;obtain⟨⟨y1,y2⟩,y3⟩:=y;show wpAny _ _ (isInstance (.ref b) (.type "tuple") >>= _) _ _ s;refine AAA (AB9 j AD2 ?_);simp only[ABc,AAf,AAX];refine AAA (AD0 k l ?_);refine AAA (AD0 n hdb ?_);refine AAA ?_;rw[F,H];refine ADF _
  (λrest r g=>r.1=none/\g=s/\(rest= [(.ref ba, .ref I),(.int c D, .int y3 G)] \/(rest= [(.int c D, .int y3 G)] /\e=y1/\f=y2)\/(rest= [] /\e=y1/\f=y2/\c=y3)))
  _ ?_ ?_ _ _ ⟨rfl,rfl, .inl rfl⟩
 .rintro ⟨u,v⟩ rest r g ⟨p,rfl,(hz|⟨hz,t,B⟩|⟨hz,_⟩)⟩
  .cases hz;refine AAA (wpAny_eqBool_tuple (knd:=intKind prog w) (by first | exact hu|omega) m o ?_);by_cases hk:e=y1/\f=y2
   .rw [AAi (by rw[hk.1,hk.2])];simp only[ABc,AAf,AAX];exact AAE ⟨rfl,rfl, .inr (.inl ⟨by first | trivial|rfl,hk⟩)⟩
   .rw [AAS (by intro z;injection z with i d;injection d with d _;exact hk ⟨i,d⟩)];simp only[Bool.not_false,ABP];have C:decide ((((e,f),c):FK)=((y1,y2),y3))=false:=by apply AAS;intro z;injection z with i d;injection i with L M;exact hk ⟨L,M⟩
    rw[C] at h;exact AAA (AAE (AAE (AAE h)))
  .cases hz;refine AAA (wpAny_eqBool_int ?_);by_cases hk:c=y3
   .rw [show (c==y3)=true by simp[hk]];simp only[ABc,AAf,AAX];exact AAE ⟨rfl,rfl, .inr (.inr ⟨by first | trivial|rfl,t,B,hk⟩)⟩
   .rw [show (c==y3)=false by simp[hk]];simp only[Bool.not_false,ABP];have C:decide ((((e,f),c):FK)=((y1,y2),y3))=false:=by apply AAS;intro z;injection z with i d;exact hk d
    rw[C] at h;exact AAA (AAE (AAE (AAE h)))
  .cases hz
 .rintro ⟨T,U⟩ g ⟨p,rfl,(hz|⟨hz,_⟩|⟨_,t,B,N⟩)⟩
  .cases hz
  .cases hz
  .simp only at p;subst p;refine AAE ?_;show P (.done (.ret (.bool (xs.size==ys.size)))) g;rw[J,K];rw[AAi (by rw[t,B,N])] at h;exact h
def MS {x y:FK}{a b:ke}{Q:gn->ki->Prop}(hu:A.units+1<cLine)(hx:Ih prog w s.heap x a)(hy:Ih prog w s.heap y b)(h:Q (decide (x=y)) s):wpAny (model prog w) A (eqBool (.ref a) (.ref b)) Q E s:=by
 unfold eqBool;try with_reducible refine AAd ?_
 show wpAny _ _ (if (Value.ref a==Value.ref b)=true then _ else _) Q E s;by_cases c:(Value.ref a==Value.ref b)=true
 .rw [AAD c];have e:a=b:=by have:=eq_of_beq c;injection this
  subst e;obtain rfl:=hx.inj hy;exact AAA (ABk (AAE (by simpa using h)))
 .rw [AAC c];exact AAA (wpAny_richCompare_same_room (op:= .Eq) hx.typeIs hy.typeIs ADG
   (ABO ADG hx.typeIs F.entry_tuple_eq (Ve (by first | exact hu|omega) hx hy ⟨_,rfl,(λe=>nomatch e),ABu h⟩) (F.args_tuple_eq_2 _ _)) (by omega))
def Gb {K:Type}[DecidableEq K]{knd:KeyKind prog w K}{g:km K}{a:ke}{Q:gn->ki->Prop}(m:Nat)(hk:IsTupleKey knd s.heap g a)(h:Q true s):wpAny (model prog w) A (eqIsQuiet (m+1) (.ref a)) Q E s:=by
 have e:=hk.typeIs;obtain⟨o,items,n,i,_,hd,hi⟩:=hk;unfold eqIsQuiet;refine AAA (ABt e ADG.lookup ?_);show wpAny _ _ (isInstance (.ref a) (.type "tuple") >>= _) _ _ s;refine AAA (AB9 e AD2 ?_);simp only[ABc,AAf,AAX];refine AAA (ABV i hd ?_);refine AAA ?_;show wpAny _ _ (forIn items _ _) _ _ s;rw[<-ADE];refine ADF _ (λrest r b=>r.1=none/\b=s/\∀v∈rest,carriedByValue v=true) _ ?_ ?_ _ _ ⟨rfl,rfl,hi.byValue⟩
 .rintro v rest r b ⟨c,rfl,f⟩;rw[eqIsQuiet_byValue _ (f v ABl)];refine AAA (AAE ?_);simp only[ABc,AAf,AAX];exact AAE ⟨rfl,rfl,λu d=>f u (ABW _ d)⟩
 .rintro ⟨j,k⟩ b ⟨c,rfl,_⟩;simp only at c;subst c;exact AAE h
def JN {k:FK}{a:ke}{Q:gn->ki->Prop}(hk:Ih prog w s.heap k a)(h:Q true s):wpAny (model prog w) A (eqIsQuiet 8 (.ref a)) Q E s:=by
 have e:=hk.typeIs;obtain⟨o,items,n,b,u,f,_,hd,hi,g⟩:=hk;unfold eqIsQuiet;refine AAA (ABt e ADG.lookup ?_);show wpAny _ _ (isInstance (.ref a) (.type "tuple") >>= _) _ _ s;refine AAA (AB9 e AD2 ?_);simp only[ABc,AAf,AAX];refine AAA (ABV f hd ?_);refine AAA ?_;show wpAny _ _ (forIn items _ _) _ _ s;rw[<-ADE,hi];refine ADF _ (λrest r c=>r.1=none/\c=s/\(rest= [.ref b, .int k.2 u] \/rest= [.int k.2 u] \/rest= [])) _ ?_ ?_ _ _ ⟨rfl,rfl, .inl rfl⟩
 .rintro v rest r c ⟨d,rfl,(hz|hz|hz)⟩
  .cases hz;refine AAA (Gb (knd:=intKind prog w) 6 g ?_);simp only[ABc,AAf,AAX];exact AAE ⟨rfl,rfl, .inr (.inl (by first | trivial|rfl))⟩
  .cases hz;rw[eqIsQuiet_byValue _ rfl];refine AAA (AAE ?_);simp only[ABc,AAf,AAX];exact AAE ⟨rfl,rfl, .inr (.inr (by first | trivial|rfl))⟩
  .cases hz
 .rintro ⟨i,j⟩ c ⟨d,rfl,_⟩;simp only at d;subst d;exact AAE h
end
def fkKind (prog:fm)(w:fe):HeapKind prog w FK where
 is:=Ih prog w
 hash:=Vd prog w
 draws:=λ_=>5
 room:=λA=>A.units+1<cLine
 inj:=λhx hy=>hx.inj hy
 keeps:=λx a hd hs=>x.keeps a hd hs
 pyHash:=λhu hk h=>MU hu hk h
 eqBool:=λhu hx hy h=>MS hu hx hy h
 quiet:=λhk h=>JN hk h
def Dc {prog:fm}{w:fe}{A:Tb}(h:A.units+2<cLine):(fkKind prog w).room A.in1:=by show A.units+1+1<cLine;omega
end PySem
namespace L2
open PySem PySem.Spec PyProof.Rows
abbrev Cp:=Sum Int Str
def QE:Cp->kj->gn
 | .inl k,v=>Value.isInt k v
 | .inr x,v=>Value.isStrOf x v
def uj (w:fe):Cp->Int
 | .inl k=>hashInt k
 | .inr x=>hashStr w x
def Bh:∀{k:Cp} {v:kj},QE k v=true->(∃i t,k=Sum.inl i/\v=Value.int i t)\/(∃x t,k=Sum.inr x/\v=Value.str x t)
 | .inl i,v,h=>by obtain⟨t,e⟩:=Value.isInt_shape (k:=i) (v:=v) h;exact .inl ⟨i,t,rfl,e⟩
 | .inr x,v,h=>by obtain⟨t,e⟩:=Value.isStrOf_shape (x:=x) (v:=v) h;exact .inr ⟨x,t,rfl,e⟩
def ZC (i:Int)(t:Tok):QE (.inl i) (.int i t)=true:=by simp[QE,Value.isInt]
def ZD (x:Str)(t:Tok):QE (.inr x) (.str x t)=true:=by simp[QE,Value.isStrOf]
def lP (a b:Int):decide ((Sum.inl a:Cp)=Sum.inl b)=(a==b):=by
 by_cases e:a=b
 .subst e;simp
 .have h:¬(Sum.inl a:Cp)=Sum.inl b:=λq=>e (Sum.inl.inj q);rw[AAS h];exact(ACL.mpr e).symm
def lS (a b:Str):decide ((Sum.inr a:Cp)=Sum.inr b)=decide (a=b):=by
 by_cases e:a=b
 .subst e;simp
 .have h:¬(Sum.inr a:Cp)=Sum.inr b:=λq=>e (Sum.inr.inj q);rw[AAS h,AAS e]
def lQ (a:Int)(b:Str):decide ((Sum.inl a:Cp)=Sum.inr b)=false:=AAS (λq=>nomatch q)
def lR (a:Str)(b:Int):decide ((Sum.inr a:Cp)=Sum.inl b)=false:=AAS (λq=>nomatch q)
def BJ (prog:fm)(w:fe):PySem.KeyKind prog w Cp where
 is:=QE
 hash:=uj w
 inj:=λv a b ha hb=>by
  rcases Bh ha with⟨i,t,rfl,rfl⟩|⟨x,t,rfl,rfl⟩
  .rcases Bh hb with⟨j,u,rfl,e⟩|⟨y,u,rfl,e⟩
   .injection e with c _;rw[c]
   .exact nomatch e
  .rcases Bh hb with⟨j,u,rfl,e⟩|⟨y,u,rfl,e⟩
   .exact nomatch e
   .injection e with c _;rw[c]
 byValue:=λk v h=>by rcases Bh h with⟨i,t,rfl,rfl⟩|⟨x,t,rfl,rfl⟩ <;> rfl
 pyHash:=λhv h=>by
  rcases Bh hv with⟨i,t,rfl,rfl⟩|⟨x,t,rfl,rfl⟩
  .exact wpAny_pyHash_int h
  .exact wpAny_pyHash_str h
 eqBool:=λhu hv h=>by
  rcases Bh hu with⟨i,t,rfl,rfl⟩|⟨x,t,rfl,rfl⟩
  .rcases Bh hv with⟨j,u,rfl,rfl⟩|⟨y,u,rfl,rfl⟩
   .rw [lP] at h;exact wpAny_eqBool_int h
   .rw [lQ] at h;exact SeqAt.EqAt.int_str i t y u _ _ _ _ h
  .rcases Bh hv with⟨j,u,rfl,rfl⟩|⟨y,u,rfl,rfl⟩
   .rw [lR] at h;exact SeqAt.EqAt.str_int x t j u _ _ _ _ h
   .rw [lS] at h;exact wpAny_eqBool_str h
 «strs»:=λk x t v h=>by
  rcases Bh h with⟨i,u,rfl,e⟩|⟨y,u,rfl,e⟩
  .exact nomatch e
  .injection e with c _;subst c;cases v <;> rfl
def T8 (prog:fm)(w:fe)(i:Int)(t:Tok):(BJ prog w).is (.inl i) (.int i t)=true:=ZC i t
def T9 (prog:fm)(w:fe)(x:Str)(t:Tok):(BJ prog w).is (.inr x) (.str x t)=true:=ZD x t
inductive V where
 | non|bl (b:Bool)|int (i:Int)|str (x:Str)|byt (b:Array UInt8)|flt (b:UInt64)|ref (a:Addr)|ty (n:String)
 deriving DecidableEq
def RelV:V->kj->Prop
 | .non,u=>u=Value.none
 | .bl b,u=>u=Value.bool b
 | .int i,u=>∃t,u=Value.int i t
 | .str x,u=>∃t,u=Value.str x t
 | .byt b,u=>∃t,u=Value.bytes b t
 | .flt b,u=>∃t,u=Value.float b t
 | .ref a,u=>u=Value.ref a
 | .ty n,u=>u=Value.type n
abbrev Ax:km V->km kj->Prop:=Paired RelV
def Ax.length {xs:km V}{a:km kj}(r:Ax xs a):xs.length=a.length:=ACN r
theorem Ax.get:∀{xs:km V} {a:km kj} {i:Nat} {x:V},Ax xs a->xs[i]? =some x->∃u,a[i]? =some u/\RelV x u
 | _,_,_,_, .nil,e=>by simp at e
 | _,_,0,_, .cons r _,e=>by simp at e;subst e;exact⟨_,rfl,r⟩
 | _,_,i+1,x, .cons _ t,e=>by obtain⟨u,h1,h2⟩:=Ax.get (i:=i) (x:=x) t (by simpa using e);exact⟨u,by simpa using h1,h2⟩
theorem Ax.set {x:V}{u:kj}(r:RelV x u):∀{xs:km V} {a:km kj} (i:Nat),Ax xs a->Ax (xs.set i x) (a.set i u)
 | _,_,_, .nil=> .nil
 | _,_,0, .cons _ t=> .cons r t
 | _,_,i+1, .cons q t=> .cons q (Ax.set r i t)
theorem Ax.append:∀{xs ys:km V} {a b:km kj},Ax xs a->Ax ys b->Ax (xs++ys) (a++b)
 | _,_,_,_, .nil,s=>s
 | _,_,_,_, .cons r t,s=> .cons r (Ax.append t s)
theorem Ax.take:∀{xs:km V} {a:km kj} (n:Nat),Ax xs a->Ax (xs.take n) (a.take n)
 | _,_,0,_=> .nil
 | _,_,_+1, .nil=> .nil
 | _,_,n+1, .cons r t=> .cons r (Ax.take n t)
theorem Ax.drop:∀{xs:km V} {a:km kj} (n:Nat),Ax xs a->Ax (xs.drop n) (a.drop n)
 | _,_,0,r=>r
 | _,_,_+1, .nil=> .nil
 | _,_,n+1, .cons _ t=>Ax.drop n t
def Ax.none_of:∀{xs:km V} {a:km kj} {i:Nat},Ax xs a->xs[i]? =none->a[i]? =none:=λ{xs a i} r e=>by have h1:=r.length;have h2:xs.length<=i:=AD3.mp e;exact AD3.mpr (by omega)
def MA:kd V->kd kj->Prop
 | some v,some u=>RelV v u
 | none,none=>True
 | _,_=>False
def KV {a:Type}:km (a×V)->km (a×kj)->Prop:=Paired λ(p:a×V) (q:a×kj)=>p.1=q.1/\RelV p.2 q.2
def kV:Cp->V
 | .inl i=> .int i
 | .inr x=> .str x
inductive HO where
 | lst (xs:List V)
 | tup (xs:List V)
 | dK (kvs:List (Cp×V))|dT (kvs:List (List Cp×V))|dN (K:AAB) (kvs:List (PySem.FK×V))
 | set (S:Int->Bool) (n:Nat)
 | ins (C dx:Addr) (fs:List (Str×V))
 | own (x:Addr)
 | xd (fs:List (Str×V))
 | met (f x:Addr)
 | rng (lo hi:Int)
 | frz (o:Obj) (u:HO)
 | tbl (ps:Array Value)
 | ext (φ:Heap->Prop)
abbrev Hp:=ke->kd HO
def upd (H:Hp)(a:ke)(o:HO):Hp:=λb=>if b=a then some o else H b
def Ab {H:Hp}{a:ke}{o:HO}:upd H a o a=some o:=by unfold upd;rw[AAD rfl]
def Af {H:Hp}{a b:ke}{o:HO}(h:b≠a):upd H a o b=H b:=by unfold upd;rw[AAC h]
def jZ {H:Hp}{a b:ke}{o u:HO}(h:H a=some o)(h':H b=some u)(d:o≠u):a≠b:=by intro e;subst e;rw[h] at h';exact d (AAV h')
def Aq {H:Hp}{a b:ke}{o:HO}(h:H a=some o)(h':H b=none):a≠b:=by intro e;subst e;rw[h] at h';cases h'
def aZ (K:AAB)(H:Hp)(b:ke)(t d:Int):Prop:=H b=some (.tup [.int t, .int d])\/∃(o:Obj) (a:Array kj) (n:Nat),K.lookup b=some o/\o.cls= .type "tuple" /\o.data= .seq a n/\Ax [.int t, .int d] a.toList
def GK (K:AAB)(H:Hp)(a:ke)(k:PySem.FK):Prop:=∃b,H a=some (.tup [.ref b, .int k.2])/\aZ K H b k.1.1 k.1.2
def GK.stay {K:AAB}{H c:Hp}{a:ke}{k:PySem.FK}(x:GK K H a k)(d:∀b xs,H b=some (.tup xs)->c b=some (.tup xs)):GK K c a k:=let ⟨b,h1,h2⟩:=x;⟨b,d _ _ h1,h2.elim (λz=> .inl (d _ _ z)) .inr⟩
section
variable (P:fm)(w:fe)
def B0 (H:Hp)(h:Wf)(a:ke):HO->Prop
 | .lst xs=>xs.length<=sizeLine/\∃(b:km kj) (n:Nat),Ax xs b/\h.get? a=some {cls:= .type "list",data:= .seq b.toArray n}
 | .tup xs=>xs.length<=sizeLine/\∃b:km kj,Ax xs b/\IsTup h a b.toArray
 | .dK kvs=>kvs.length<=sizeLine/\(a==sysModules)=false/\∃vs,KV kvs vs/\h.DictOf (BJ P w) a vs
 | .dT kvs=>kvs.length<=sizeLine/\(a==sysModules)=false/\∃xs:km (km Cp×ke×kj),
     Paired (λ(p:km Cp×V) (q:km Cp×ke×kj)=>p.1=q.1/\H q.2.1=some (.tup (p.1.map kV))/\RelV p.2 q.2.2) kvs xs/\
     ∃o es ep,h.get? a=some o/\o.ExactDict/\o.data= .dict es ep/\es.toList=xs.map (entryOfKey (tupleKind (BJ P w)))/\(xs.map (·.1)).Nodup
 | .dN K kvs=>kvs.length<=sizeLine/\(a==sysModules)=false/\∃xs:km (PySem.FK×ke×kj),Paired (λ(p:PySem.FK×V) (q:PySem.FK×ke×kj)=>p.1=q.1/\GK K H q.2.1 p.1/\RelV p.2 q.2.2) kvs xs/\∃o es ep,h.get? a=some o/\o.ExactDict/\o.data= .dict es ep/\es.toList=xs.map (entryOfKey (PySem.fkKind P w))/\(xs.map (·.1)).Nodup
 | .set S n=>h.SetOf (intKind P w) a S n
 | .ins C d fs=>H d=some (.own a)/\fs.length<=1000/\d≠a/\h.get? a=some (PySem.W.instObj C d)/\
     ∃c,h.Ns1 d c/\(∀f,MA (fs.lookup f) (c f))/\PySem.Within c (fs.map (·.1))
 | .own _=>∃o,h.get? a=some o
 | .xd fs=>∃c,h.Ns1 a c/\∀f,MA (fs.lookup f) (c f)
 | .rng lo hi=>∃t u v,h.get? a=some {cls:= .type "range",data:= .fields #[.int lo t, .int hi u, .int 1 v] }
 | .frz o u=>h.get? a=some o/\B0 H h a u
 | .tbl g=>h.get? a=some {cls:= .none,data:= .fields g}
 | .met f x=>h.get? a=some (PySem.W.methodObj (.ref f) (.ref x))
 | .ext e=>e h/\(∃o,h.get? a=some o)/\∀h1 h2:Wf,e h1->(∀o,h1.get? a=some o->h2.get? a=some o)->e h2
def Ig (H:Hp)(h:Wf):Prop:=∀a o,H a=some o->B0 P w H h a o
end
section
variable {P:fm}{w:fe}{H H':Hp}{h h':Wf}{a:ke}{o:HO}
def B0.lt (x:B0 P w H h a o):a<h.objs.size:=by
 cases o with
 | lst xs=>obtain⟨_,_,_,_,e⟩:=x;exact AAG e
 | tup xs=>obtain⟨_,_,_,p⟩:=x;exact p.lt
 | dK kvs=>obtain⟨_,_,_,_,o,_,_,e,_⟩:=x;exact AAG e
 | dT kvs=>obtain⟨_,_,_,_,o,_,_,e,_⟩:=x;exact AAG e
 | dN K kvs=>obtain⟨_,_,_,_,o,_,_,e,_⟩:=x;exact AAG e
 | set S n=>obtain⟨o,_,_,_,e,_⟩:=x;exact AAG e
 | ins C b fs=>obtain⟨_,_,_,e,_⟩:=x;exact AAG e
 | own y=>obtain⟨_,e⟩:=x;exact AAG e
 | xd fs=>obtain⟨_,⟨_,_,_,e,_⟩,_⟩:=x;exact AAG e
 | rng lo hi=>obtain⟨_,_,_,e⟩:=x;exact AAG e
 | frz c u=>obtain⟨e,_⟩:=x;exact AAG e
 | tbl d=>exact AAG (show h.get? a=some _ from x)
 | met f y=>exact AAG (show h.get? a=some _ from x)
 | ext g=>obtain⟨_,⟨_,e⟩,_⟩:=x;exact AAG e
theorem Paired.mapP {d e:Type}{F G:d->e->Prop}:∀{l₁:km d} {c:km e},Paired F l₁ c->(∀a b,F a b->G a b)->Paired G l₁ c
 | _,_, .nil,_=> .nil
 | _,_, .cons r t,f=> .cons (f _ _ r) (Paired.mapP t f)
def B0.stay (x:B0 P w H h a o)(k:∀b u,(b=a\/H b=some (.own a))->h.get? b=some u->h'.get? b=some u)(A:∀b,H b=some (.own a)->H' b=some (.own a))(m:∀b xs,H b=some (.tup xs)->H' b=some (.tup xs)):B0 P w H' h' a o:=by
 induction o with
 | lst xs=>obtain⟨z,i,n,r,e⟩:=x;exact⟨z,i,n,r,k _ _ (.inl rfl) e⟩
 | tup xs=>obtain⟨z,i,r,g,e,c⟩:=x;exact⟨z,i,r,g,k _ _ (.inl rfl) e,c⟩
 | dK kvs=>obtain⟨z,y,vs,r,g,es,ep,e,c⟩:=x;exact⟨z,y,vs,r,g,es,ep,k _ _ (.inl rfl) e,c⟩
 | dT kvs=> obtain⟨z,y,xs,r,g,es,ep,e,c⟩:=x;exact⟨z,y,xs,Paired.mapP r λp q z=>⟨z.1,m _ _ z.2.1,z.2.2⟩,g,es,ep,k _ _ (.inl rfl) e,c⟩
 | dN K kvs=> obtain⟨z,y,xs,r,g,es,ep,e,c⟩:=x;exact⟨z,y,xs,Paired.mapP r λp q z=>⟨z.1,z.2.1.stay m,z.2.2⟩,g,es,ep,k _ _ (.inl rfl) e,c⟩
 | set S n=>obtain⟨g,es,ep,t,e,c⟩:=x;exact⟨g,es,ep,t,k _ _ (.inl rfl) e,c⟩
 | ins C E fs=> obtain⟨d,z,B,e,j,⟨l,es,ep,D,c⟩,r⟩:=x;exact⟨A _ d,z,B,k _ _ (.inl rfl) e,j,⟨l,es,ep,k _ _ (.inr d) D,c⟩,r⟩
 | own y=>obtain⟨g,e⟩:=x;exact⟨g,k _ _ (.inl rfl) e⟩
 | xd fs=>obtain⟨j,⟨l,es,ep,e,c⟩,r⟩:=x;exact⟨j,⟨l,es,ep,k _ _ (.inl rfl) e,c⟩,r⟩
 | rng lo hi=>obtain⟨t,u,v,e⟩:=x;exact⟨t,u,v,k _ _ (.inl rfl) e⟩
 | frz g u ih=>obtain⟨e,q⟩:=x;exact⟨k _ _ (.inl rfl) e,ih q⟩
 | tbl s=> have e:h.get? a=some {cls:= .none,data:= .fields s}:=x;show h'.get? a=some {cls:= .none,data:= .fields s};exact k a _ (.inl rfl) e
 | met f y=> have e:h.get? a=some (PySem.W.methodObj (.ref f) (.ref y)):=x;show h'.get? a=some (PySem.W.methodObj (.ref f) (.ref y));exact k a _ (.inl rfl) e
 | ext F=>obtain⟨p,⟨o,e⟩,st⟩:=x;exact⟨st _ _ p λo q=>k _ _ (.inl rfl) q,⟨o,k _ _ (.inl rfl) e⟩,st⟩
def Ig.lt (x:Ig P w H h)(e:H a=some o):a<h.objs.size:=(x a o e).lt
def Ig.fresh (x:Ig P w H h)(e:h.objs.size<=a):H a=none:=by
 cases q:H a with
 | none=>rfl
 | some u=>exact absurd (AAW (x.lt q) e) (ABd _)
def Ig.kept (x:Ig P w H h)(k:∀b u,h.get? b=some u->h'.get? b=some u):Ig P w H h':=λa o e=>
 (x a o e).stay (λb u _ q=>k b u q) (λ_ q=>q) λ_ _ q=>q
def Ig.laid (x:Ig P w H h)(k:∀b u,h.get? b=some u->h'.get? b=some u)(hp:h.objs.size<=a)(new:B0 P w (upd H a o) h' a o):Ig P w (upd H a o) h':=λb u e=>by
 have d:=x.fresh hp;by_cases hb:b=a
 .subst hb;rw[Ab] at e;cases e;exact new
 .rw [Af hb] at e;exact(x b u e).stay (λc v _ q=>k c v q) (λc q=>by rw[Af (Aq q d)];exact q) λc xs q=>by rw[Af (Aq q d)];exact q
end
def Rd (H:Hp)(a:ke)(u:HO):Prop:=H a=some u\/∃o,H a=some (.frz o u)
def Rd.of {H:Hp}{a:ke}{u:HO}(h:H a=some u):Rd H a u:= .inl h
def Rd.ok {P:fm}{w:fe}{H:Hp}{h:Wf}{a:ke}{u:HO}(r:Rd H a u)(x:Ig P w H h):B0 P w H h a u:=by
 rcases r with r|⟨o,r⟩
 .exact x a u r
 .obtain ⟨_,q⟩:=x a _ r;exact q
def om:kd HO->Prop
 | some (.lst _)=>True
 | some (.dK _)=>True
 | some (.dT _)=>True
 | some (.dN _ _)=>True
 | some (.set _ _)=>True
 | some (.ins _ _ _)=>True
 | some (.ext _)=>True
 | _=>False
section
variable {P:fm}{w:fe}{H:Hp}{h h':Wf}{x e:ke}{o':HO}
def Ig.write (ok:Ig P w H h)(f:om (H x))(he:e=x\/H e=some (.own x))(k:∀b u,b≠e->h.get? b=some u->h'.get? b=some u)(j:∃u,h'.get? e=some u)(new:B0 P w (upd H x o') h' x o'):Ig P w (upd H x o') h':=λb u q=>by
 have a:∀c y,H c=some (.own y)->c≠x:=λc y r z=>by subst z;rw[r] at f;exact f
 have d:∀c xs,H c=some (.tup xs)->c≠x:=λc xs r z=>by subst z;rw[r] at f;exact f
 by_cases hb:b=x
 .subst hb;rw[Ab] at q;cases q;exact new
 .rw [Af hb] at q;by_cases g:b=e
  .have i:H b=some (.own x):=by
    rcases he with z|z
    .exact absurd (g.trans z) hb
    .rw [g];exact z
   rw[q] at i;cases i;obtain⟨v,hv⟩:=j;exact⟨v,by rw[g];exact hv⟩
  .refine (ok b u q).stay (λc v hc r=>k c v ?_ r) (λc r=>by rw[Af (a c b r)];exact r) λc xs r=>by rw[Af (d c xs r)];exact r
   rcases hc with rfl|hc
   .exact g
   .rintro rfl;rcases he with z|z
    .exact a c b hc z
    .rw [hc] at z;cases z;exact hb rfl
end
structure Un (fs ex:List Addr) (H H':Hp) (h h':Heap):Prop where
 keep:∀b o,h.get? b=some o->H b=none->b ∉ fs->b ∉ ex->h'.get? b=some o
 slot:∀b o,h.get? b=some o->H b=none->b∈fs->b ∉ ex->∃sl,h'.get? b=some {o with slots:=sl}
 free:∀b o,h.get? b=some o->H b=none->b ∉ ex->H' b=none
 there:∀b o,h.get? b=some o->b ∉ ex->∃o',h'.get? b=some o'
 tups:∀b xs,H b=some (.tup xs)->H' b=some (.tup xs)
 frzs:∀b o u,H b=some (.frz o u)->H' b=some (.frz o u)
 tbls:∀b ps,H b=some (.tbl ps)->∃more,H' b=some (.tbl (ps++more))
section
variable {fs fs' ex ex':km ke}{H H1 H2:Hp}{h h1 h2 h':Wf}{a x e:ke}{o:HO}
def Un.any (u:Un fs ex H H1 h h1){b:ke}{c:Obj}(q:h.get? b=some c)(n:H b=none)(hx:b ∉ ex):∃sl,h1.get? b=some {c with slots:=sl}:=by
 by_cases hb:b∈fs
 .exact u.slot b c q n hb hx
 .exact ⟨c.slots,u.keep b c q n hb hx⟩
def Un.kept (k:∀b u,h.get? b=some u->h'.get? b=some u):Un fs ex H H h h':=
 ⟨λb c q _ _ _=>k b c q,λb c q _ _ _=>⟨c.slots,k b c q⟩,λ_ _ _ n _=>n,λb c q _=>⟨c,k b c q⟩,λ_ _ q=>q,λ_ _ _ q=>q,λ_ d q=>⟨#[],by rw[q];simp⟩⟩
def Un.refl:Un fs ex H H h h:=Un.kept λ_ _ q=>q
def Un.laid (k:∀b u,h.get? b=some u->h'.get? b=some u)(hp:h.objs.size<=a)(c:H a=none):Un fs ex H (upd H a o) h h' where
 keep:=λb u q _ _ _=>k b u q
 slot:=λb u q _ _ _=>⟨u.slots,k b u q⟩
 free:=λb u q n _=>by rw[Af (AAM (AAW (AAG q) hp))];exact n
 there:=λb u q _=>⟨u,k b u q⟩
 tups:=λb xs q=>by rw[Af (Aq q c)];exact q
 frzs:=λb u xs q=>by rw[Af (Aq q c)];exact q
 tbls:=λb d q=>⟨#[],by rw[Af (Aq q c),q];simp⟩
def Un.write (c:om (H x))(he:e=x\/H e=some (.own x))(k:∀b u,b≠e->h.get? b=some u->h'.get? b=some u)(g:∃u,h'.get? e=some u):Un fs ex H (upd H x o) h h':=by
 have hx:∀b,H b=none->b≠x:=λb n z=>by subst z;rw[n] at c;exact c
 have hb:∀b,H b=none->b≠e:=λb n z=>by
  subst z;rcases he with r|r
  .exact hx b n r
  .rw [n] at r;cases r
 have d:∀b u,H b=some u->¬om (some u)->b≠x:=λb u q nm z=>by subst z;rw[q] at c;exact nm c
 refine⟨λb u q n _ _=>k b u (hb b n) q,λb u q n _ _=>⟨u.slots,k b u (hb b n) q⟩,λb u q n _=>by rw[Af (hx b n)];exact n,λb u q _=> ?_,
  λb xs q=>by rw[Af (d b _ q λz=>z)];exact q,λb u xs q=>by rw[Af (d b _ q λz=>z)];exact q,λb i q=>⟨#[],by rw[Af (d b _ q λz=>z),q];simp⟩⟩
 by_cases f:b=e
 .subst f;exact g
 .exact ⟨u,k b u f q⟩
end
def sM (h:Wf)(H:Hp):km ke:=(List.range h.objs.size).filter λa=>(H a).isSome
def RS (h:Wf)(H:Hp):Wf:=PySem.W.hideAll h (sM h H)
def Y5 (h:Wf)(H:Hp):(RS h H).objs.size=h.objs.size:=PySem.W.hideAll_size _ _
def cB {h:Wf}{H:Hp}{b:ke}{o:Obj}(e:h.get? b=some o)(n:H b=none):(RS h H).get? b=some o:=
 PySem.W.hideAll_get _ e λa=>by have q:(H b).isSome=true:=(AAe.mp a).2;rw[n] at q;simp at q
def gx {h:Wf}{H:Hp}{b:ke}{o:Obj}(e:(RS h H).get? b=some o):h.get? b=some o/\H b=none:=by
 have a:h.get? b=some o:=PySem.W.of_hideAll (sM h H) e;refine⟨a, ?_⟩;cases q:H b with
 | none=>rfl
 | some x=> have c:b∈sM h H:=AAe.mpr ⟨ADH.mpr (AAG a),by simp[q]⟩;have z:(RS h H).get? b=none:=PySem.W.hideAll_none (sM h H) c;rw[z] at e;cases e
def gC (g h:Wf)(L:ke):km (ke×Obj):=(List.range h.objs.size).filterMap λa=>if a=L\/(g.get? a).isSome=true then none else (h.get? a).map λo=>(a,o)
def rest (g h:Wf)(L d:ke):km (ke×Obj):=(gC g h L).filter λp=>decide (p.1≠d)
structure Mod (K:AAB) (mg:Str->Option Value) (base:Heap):Prop where
 kin:K.In base
 glob:base.Ns mainGlobals mg
 blt:∃mb,base.Ns builtinsNs mb/\∀x:Str,x≠"__name__" ->mb x=bootBuiltins x
 nolimit:base.NoLimit
structure Cx where
 prog:Program
 w:World
 K:AAB
 mg:Str->Option Value
 base:Heap
 A:Around
 N:List Str
 s₀:Shared
 H₀:Hp
 env:Env
 outer:List Env
 stack:List Env
 ex:List Addr
 fn:Str->Bool
 calm:Bool
 pn:List (Addr×Obj)
 xe:Value->Shared->Prop
def Z8 (l:km Env):km ke:=l.filterMap (·.frame)
abbrev Cx.fs (X:Cx):km ke:=Z8 X.outer
def oB (sc:Scope)(x:Str):Prop:=sc.names.lookup x=some .local\/sc.names.lookup x=some .cell\/sc.names.lookup x=some .free
def Loc (sc:Scope)(x:Str):Prop:=sc.names.lookup x=some .local\/sc.names.lookup x=some .cell
def Look (env:Env)(h:Wf)(m:Str->kd kj)(x:Str)(u:kj):Prop:=
 (env.kindOf x=some .local/\m x=some u)\/((env.kindOf x=some .cell\/env.kindOf x=some .free)/\∃c,env.cells.lookup x=some c/\h.IsCell c (some u))
structure Cx.Ok (X:Cx):Prop where
 mod:Mod X.K X.mg X.base
 kind:X.env.scope.kind= .function
 glob:X.env.globals=mainGlobals
 blt:X.env.builtins=builtinsNs
 above:X.s₀.heap.objs.size<=X.env.locals
 inj:∀x y c,X.env.cells.lookup x=some c->X.env.cells.lookup y=some c->x=y
 has:∀x,(X.env.kindOf x=some .cell\/X.env.kindOf x=some .free)->∃c,X.env.cells.lookup x=some c
 cab:∀x c,X.fn x=true->X.env.cells.lookup x=some c->X.s₀.heap.objs.size<=c
 hd:X.calm=true->X.A.handled=none
 frames:X.A.frames=some X.stack
 stk:X.stack=X.outer\/(X.stack=X.env::X.outer/\X.env.frame=some X.env.locals)
 exf:∀b∈X.ex,b≠X.env.locals/\∀x c,X.env.cells.lookup x=some c->c≠b
 bs:∀b o,X.base.get? b=some o->X.s₀.heap.get? b=some o/\X.H₀ b=none
 bsz:X.base.objs.size<=X.s₀.heap.objs.size
 noex:∀b o,X.base.get? b=some o->b ∉ X.ex
 exfs:∀b∈X.ex,b ∉ X.fs
 funs:X.s₀.heap.FunFrames X.base X.outer
 frf:∀b∈X.fs,X.H₀ b=none
structure Inv (X:Cx) (Sr:List (Addr×Obj)) (σ:List (Option V)) (H:Hp) (s:Shared):Prop where
 ok:X.Ok
 os:s.os=X.s₀.os
 bare:AllBare s.gens
 base:Un X.fs X.ex X.H₀ H X.s₀.heap s.heap
 loc:∃m,s.heap.Ns X.env.locals m/\∀(i:Nat) (x:Str) (v:V),X.N[i]? =some x->σ[i]? =some (some v)->oB X.env.scope x->∃u,RelV v u/\Look X.env s.heap m x u
 cell:∀x c,X.env.cells.lookup x=some c->∃v,s.heap.IsCell c v
 free:H X.env.locals=none
 freeC:∀x c,X.env.cells.lookup x=some c->H c=none
 pin:∀p∈X.pn++Sr,s.heap.get? p.1=some p.2/\H p.1=none/\p.1≠X.env.locals/\p.1 ∉ X.fs/\∀v,p.2.data≠ .cell v
 hok:Ig X.prog X.w H s.heap
 len:σ.length=X.N.length
section
variable {X:Cx}{Sr:km (ke×Obj)}{σ:km (kd V)}{H H':Hp}{s:ki}{h':Wf}
def Cx.Ok.nofr (ok:X.Ok){b:ke}{o:Obj}(e:X.base.get? b=some o):b ∉ X.fs:=λhb=>by have:=(ok.funs.mem hb).1;rw[e] at this;cases this
def Inv.bs (I:Inv X Sr σ H s):∀b o,X.base.get? b=some o->s.heap.get? b=some o/\H b=none:=λb o e=>
 ⟨I.base.keep b o (I.ok.bs b o e).1 (I.ok.bs b o e).2 (I.ok.nofr e) (I.ok.noex b o e),I.base.free b o (I.ok.bs b o e).1 (I.ok.bs b o e).2 (I.ok.noex b o e)⟩
def Inv.bk (I:Inv X Sr σ H s):∀b o,X.base.get? b=some o->s.heap.get? b=some o:=λb o e=>(I.bs b o e).1
def Inv.mod (I:Inv X Sr σ H s):Mod X.K X.mg X.base:=I.ok.mod
def Inv.kIn (I:Inv X Sr σ H s):X.K.In s.heap:=I.ok.mod.kin.keeps I.bk
def Inv.nolimit (I:Inv X Sr σ H s):s.heap.NoLimit:=I.ok.mod.nolimit.keeps I.bk
def Inv.fr (I:Inv X Sr σ H s):∃m,Fr X.base X.env.locals s.heap m:=
 let ⟨m,a,_⟩:=I.loc
 ⟨m,a,I.bk,AAa I.ok.bsz I.ok.above⟩
def Inv.lt (I:Inv X Sr σ H s):X.env.locals<s.heap.objs.size:=let ⟨_,a,_⟩:=I.loc;a.lt
def Inv.sz (I:Inv X Sr σ H s):X.s₀.heap.objs.size<=s.heap.objs.size:=AAa I.ok.above (ACl I.lt)
def Inv.nofs (I:Inv X Sr σ H s){a:ke}(h:s.heap.objs.size<=a):a ∉ X.fs:=λhb=>by obtain⟨_,o,b,_⟩:=I.ok.funs.mem hb;exact absurd (AAW (AAG b) (AAa I.sz h)) (ABd _)
def Inv.cne (I:Inv X Sr σ H s):∀x c,X.env.cells.lookup x=some c->c≠X.env.locals:=λx c e z=>by obtain⟨v,o,a,hd⟩:=I.cell x c e;obtain⟨m,⟨f,es,ep,b,d,_⟩,_⟩:=I.loc;rw[z,b] at a;cases a;rw[d] at hd;cases hd
def Inv.funs (I:Inv X Sr σ H s):s.heap.FunFrames X.base X.outer:=by
 have all:∀(l:km Env),(∀b∈Z8 l,b∈X.fs)->X.s₀.heap.FunFrames X.base l->s.heap.FunFrames X.base l:=by
  intro l;induction l with
  | nil=>intro _ _;trivial
  | cons env r ih=> intro hs hl;obtain⟨hk,⟨L,o,a,d,f,hd⟩,g⟩:=hl;have c:L∈X.fs:=hs L (by unfold Z8;rw[AD4,a];exact ABl);obtain⟨sl,e⟩:=I.base.slot L o f (I.ok.frf L c) c λz=>I.ok.exfs L z c;exact⟨hk,⟨L,_,a,d,e,hd⟩,ih (λb hb=>hs b (by unfold Z8;rw[AD4,a];exact ABW _ hb)) g⟩
 exact all X.outer (λ_ hb=>hb) I.ok.funs
def Inv.stack (I:Inv X Sr σ H s):s.heap.FunFrames X.base X.stack:=by
 rcases I.ok.stk with e|⟨e,a⟩
 .rw [e];exact I.funs
 .rw [e];obtain⟨m,b,_⟩:=I.loc;refine .cons (by rw[I.ok.kind];decide) a b ?_ I.funs;exact Heap.get?_none_of_le (AAa I.ok.bsz I.ok.above)
def Inv.stkSub (I:Inv X Sr σ H s):∀b∈Z8 X.stack,b∈X.env.locals::X.fs:=λb hb=>by
 rcases I.ok.stk with e|⟨e,a⟩
 .rw [e] at hb;exact ABW _ hb
 .rw [e] at hb;unfold Z8 at hb;rw[AD4,a] at hb;exact hb
def Inv.stkFree (I:Inv X Sr σ H s):∀b∈Z8 X.stack,H b=none:=λb hb=>by
 rcases AAF.mp (I.stkSub b hb) with e|hb
 .rw [e];exact I.free
 .obtain ⟨_,o,a,_⟩:=I.ok.funs.mem hb;exact I.base.free b o a (I.ok.frf b hb) λz=>I.ok.exfs b z hb
def Inv.step {g':Array GenState}{t':Nat}{d':Drawn}{ch:km ke}(I:Inv X Sr σ H s)(j:∀b∈ch,(b∈X.ex\/X.s₀.heap.objs.size<=b)/\b≠X.env.locals/\(∀x c,X.env.cells.lookup x=some c->c≠b)/\∀p∈X.pn++Sr,p.1≠b)(keep:∀b o,b≠X.env.locals->b ∉ X.fs->b ∉ ch->s.heap.get? b=some o->H b=none->h'.get? b=some o)(slot:∀b o,b≠X.env.locals->b∈X.fs->b ∉ ch->s.heap.get? b=some o->H b=none->∃sl,h'.get? b=some {o with slots:=sl})(free:∀b o,b ∉ ch->s.heap.get? b=some o->H b=none->H' b=none)(there:∀b o,b ∉ ch->s.heap.get? b=some o->∃t,h'.get? b=some t)(tups:∀b xs,H b=some (.tup xs)->H' b=some (.tup xs))(frzs:∀b o u,H b=some (.frz o u)->H' b=some (.frz o u))(tbls:∀b B,H b=some (.tbl B)->∃more,H' b=some (.tbl (B++more)))(E:∀m,s.heap.Ns X.env.locals m->h'.Ns X.env.locals m)(hok:Ig X.prog X.w H' h')(F:AllBare g'):Inv X Sr σ H' {s with heap:=h',gens:=g',drawn:=d',toks:=t'}:=by
 have y:∀b o,X.s₀.heap.get? b=some o->b≠X.env.locals:=λb o e=>AAM (AAW (AAG e) I.ok.above);have f:∀b o,X.s₀.heap.get? b=some o->b ∉ X.ex->b ∉ ch:=λb o e hx hb=>by
  rcases (j b hb).1 with z|z
  .exact hx z
  .exact absurd (AAW (AAG e) z) (ABd _)
 have cellK:∀x c,X.env.cells.lookup x=some c->∀v,s.heap.IsCell c v->h'.IsCell c v:=λx c e v ⟨o,h,hd⟩=>by
  have a:c ∉ ch:=λz=>(j c z).2.2.1 x c e rfl;by_cases hc:c∈X.fs
  .obtain ⟨sl,q⟩:=slot c o (I.cne x c e) hc a h (I.freeC x c e);exact⟨_,q,hd⟩
  .exact ⟨o,keep c o (I.cne x c e) hc a h (I.freeC x c e),hd⟩
 refine⟨I.ok,I.os,F,⟨λb o e n hb hx=> ?_,λb o e n hb hx=> ?_,λb o e n hx=> ?_,λb o e hx=> ?_,λb xs e=>tups b xs (I.base.tups b xs e),λb o xs e=>frzs b o xs (I.base.frzs b o xs e),λb B e=> ?_⟩, ?_,λx c e=> ?_, ?_,λx c e=> ?_,λp hp=> ?_,hok,I.len⟩
 .exact keep b o (y b o e) hb (f b o e hx) (I.base.keep b o e n hb hx) (I.base.free b o e n hx)
 .obtain ⟨sl,g⟩:=I.base.slot b o e n hb hx;obtain⟨ij,A⟩:=slot b _ (y b o e) hb (f b o e hx) g (I.base.free b o e n hx);exact⟨ij,A⟩
 .obtain ⟨t,g⟩:=I.base.there b o e hx;exact free b t (f b o e hx) g (I.base.free b o e n hx)
 .obtain ⟨t,g⟩:=I.base.there b o e hx;exact there b t (f b o e hx) g
 .obtain ⟨m1,g⟩:=I.base.tbls b B e;obtain⟨m2,A⟩:=tbls b _ g;exact⟨m1++m2,by rw[A,Array.append_assoc]⟩
 .obtain ⟨m,G,hl⟩:=I.loc;refine⟨m,E m G,λi x v g A J=> ?_⟩;obtain⟨u,r,l⟩:=hl i x v g A J;refine⟨u,r, ?_⟩;rcases l with l|⟨k,c,e,z⟩
  .exact .inl l
  .exact .inr ⟨k,c,e,cellK x c e _ z⟩
 .obtain ⟨v,z⟩:=I.cell x c e;exact⟨v,cellK x c e v z⟩
 .obtain ⟨m,⟨o,_,_,h,_⟩,_⟩:=I.loc;exact free _ o (λz=>(j _ z).2.1 rfl) h I.free
 .obtain ⟨v,o,h,hd⟩:=I.cell x c e;exact free c o (λz=>(j c z).2.2.1 x c e rfl) h (I.freeC x c e)
 .obtain ⟨e,n,C,D,d⟩:=I.pin p hp;have a:p.1 ∉ ch:=λz=>(j p.1 z).2.2.2 p hp rfl;exact⟨keep p.1 p.2 C D a e n,free p.1 p.2 a e n,C,D,d⟩
def Inv.un {t':Nat}(I:Inv X Sr σ H s)(u:Un X.fs [] H H' s.heap h')(hok:Ig X.prog X.w H' h'):Inv X Sr σ H' {s with heap:=h',toks:=t'}:=by
 obtain⟨m,⟨o,es,ep,d,r⟩,_⟩:=id I.loc;obtain⟨sl,g⟩:=u.any d I.free (by simp);exact I.step (g':=s.gens) (d':=s.drawn) (ch:= []) (λ_ z=>nomatch z) (λb o _ hb _ e n=>u.keep b o e n hb (by simp)) (λb o _ hb _ e n=>u.slot b o e n hb (by simp)) (λb o _ e n=>u.free b o e n (by simp)) (λb o _ e=>u.there b o e (by simp)) u.tups u.frzs u.tbls (λj h=>by
  obtain⟨k,a,c,f,i⟩:=h;rw[d] at f;cases f;exact⟨_,a,c,g,i⟩) hok I.bare
def Inv.call {g':Array GenState}{t':Nat}{d':Drawn}{ch:km ke}(I:Inv X Sr σ H s)(u:Un (Z8 X.stack) ch H H' s.heap h')(hok:Ig X.prog X.w H' h')(j:AllBare g')(g:∀b∈ch,(b∈X.ex\/X.s₀.heap.objs.size<=b)/\b≠X.env.locals/\(∀x c,X.env.cells.lookup x=some c->c≠b)/\∀p∈X.pn++Sr,p.1≠b):Inv X Sr σ H' {s with heap:=h',gens:=g',drawn:=d',toks:=t'}:=by
 obtain⟨m,⟨o,es,ep,h,r⟩,_⟩:=id I.loc;obtain⟨sl,a⟩:=u.any h I.free λz=>(g _ z).2.1 rfl;exact I.step (ch:=ch) g (λb o a hb hc e n=>u.keep b o e n (λz=>(AAF.mp (I.stkSub b z)).elim a hb) hc) (λb o _ _ hc e n=>u.any e n hc) (λb o hc e n=>u.free b o e n hc) (λb o hc e=>u.there b o e hc) u.tups u.frzs u.tbls (λt k=>by
  obtain⟨v,d,f,i,l⟩:=k;rw[h] at i;cases i;exact⟨_,d,f,a,l⟩) hok j
def Inv.turned {t':Nat}{it:ke}(I:Inv X Sr σ H s)(k:∀b o,b≠it->s.heap.get? b=some o->h'.get? b=some o)(f:H it=none)(d:it≠X.env.locals)(h1:it∈X.ex\/X.s₀.heap.objs.size<=it)(h2:∀x c,X.env.cells.lookup x=some c->c≠it)(h3:∀p∈X.pn++Sr,p.1≠it):Inv X Sr σ H {s with heap:=h',toks:=t'}:=by
 have a:∀b u,H b=some u->b≠it:=λb u e z=>by rw[z,f] at e;cases e
 refine I.step (g':=s.gens) (d':=s.drawn) (ch:= [it]) (λb hb=> ?_) (λb o _ _ hc e _=>k b o (λz=>hc (by simp[z])) e) (λb o _ _ hc e _=>⟨o.slots,k b o (λz=>hc (by simp[z])) e⟩) (λ_ _ _ _ n=>n)
  (λb o hc e=>⟨o,k b o (λz=>hc (by simp[z])) e⟩) (λ_ _ e=>e) (λ_ _ _ e=>e) (λb i e=>⟨#[],by rw[e];simp⟩) (λm g=> ?_) (λb u e=> ?_) I.bare
 .have e:b=it:=by simpa using hb
  subst e;exact⟨h1,d,h2,h3⟩
 .obtain ⟨o,es,ep,h,r⟩:=g;exact⟨o,es,ep,k _ o (AAk d) h,r⟩
 .refine (I.hok b u e).stay (λc v hc q=>k c v ?_ q) (λ_ q=>q) λ_ _ q=>q;rcases hc with z|z
  .rw [z];exact a b u e
  .exact a c _ z
def Inv.tok (I:Inv X Sr σ H s)(t:Nat):Inv X Sr σ H {s with toks:=t}:=I.un (h':=s.heap) (t':=t) Un.refl I.hok
def Inv.kept {t':Nat}(I:Inv X Sr σ H s)(k:∀b u,s.heap.get? b=some u->h'.get? b=some u):Inv X Sr σ H {s with heap:=h',toks:=t'}:=I.un (Un.kept k) (I.hok.kept k)
def Inv.laid {a:ke}{o:HO}{t':Nat}(I:Inv X Sr σ H s)(k:∀b u,s.heap.get? b=some u->h'.get? b=some u)(hp:s.heap.objs.size<=a)(new:B0 X.prog X.w (upd H a o) h' a o):Inv X Sr σ (upd H a o) {s with heap:=h',toks:=t'}:=I.un (Un.laid k hp (I.hok.fresh hp)) (I.hok.laid k hp new)
def Inv.write {x e:ke}{o:HO}{t':Nat}(I:Inv X Sr σ H s)(a:om (H x))(he:e=x\/H e=some (.own x))(k:∀b u,b≠e->s.heap.get? b=some u->h'.get? b=some u)(c:∃u,h'.get? e=some u)(new:B0 X.prog X.w (upd H x o) h' x o):Inv X Sr σ (upd H x o) {s with heap:=h',toks:=t'}:=I.un (Un.write a he k c) (I.hok.write a he k c new)
def Inv.weak {σ':km (kd V)}(I:Inv X Sr σ H s)(hl:σ'.length=σ.length)(w:∀(i:Nat) v,σ'[i]? =some (some v)->σ[i]? =some (some v)):Inv X Sr σ' H s:=
 ⟨I.ok,I.os,I.bare,I.base,let ⟨m,a,b⟩:=I.loc;⟨m,a,λi x v c d e=>b i x v c (w i v d) e⟩,I.cell,I.free,I.freeC,I.pin,I.hok,hl.trans I.len⟩
def Inv.pins_of {a:km (ke×Obj)}(I:Inv X Sr σ H s)(h:∀p∈a,s.heap.get? p.1=some p.2/\H p.1=none/\p.1≠X.env.locals/\p.1 ∉ X.fs/\∀v,p.2.data≠ .cell v):Inv X a σ H s:=
 ⟨I.ok,I.os,I.bare,I.base,I.loc,I.cell,I.free,I.freeC,λp hp=>(AAL.mp hp).elim (λz=>I.pin p (List.mem_append_left _ z)) (h p),I.hok,I.len⟩
def UC {N:km Str}(hN:N.Nodup){i j:Nat}{x:Str}(a:N[i]? =some x)(b:N[j]? =some x):i=j:=by obtain⟨h1,c⟩:=AAq.mp a;obtain⟨h2,d⟩:=AAq.mp b;exact(List.getElem_inj hN).mp (c.trans d.symm)
def LQ {M:Model}{A:Tb}{E:kj->ki->Prop}{i:Nat}{x:Str}{v:V}{u:kj}{Q:Unit->ki->Prop}(I:Inv X Sr σ H s)(hN:X.N.Nodup)(hi:X.N[i]? =some x)(hx:Loc X.env.scope x)(r:RelV v u)(h:∀F,Inv X Sr (σ.set i (some v)) H F->(∃a,Heap.SameBut a s.heap F.heap/\(a=X.env.locals\/X.env.cells.lookup x=some a))->Q () F)(hf:X.fn x=true\/X.env.scope.names.lookup x=some .local:=by first | exact .inl rfl|exact .inr rfl|assumption):wpAny M A (storeName X.env x u) Q E s:=by
 obtain⟨m,G,hl⟩:=id I.loc;have uF:(X.env.scope.kind == .class||(X.env.scope.kind == .module&&X.env.locals != X.env.globals))=false:=by rw[I.ok.kind];rfl
 have l:i<σ.length:=by rw[I.len];exact(AAq.mp hi).1
 have t:=I.cne;have tracked:∀{a:ke} {h':Wf},(∃o,s.heap.get? a=some o/\H a=none)->Heap.SameBut a s.heap h'->Ig X.prog X.w H h':=λ{a h'} ha hs b ob e=>by
  obtain⟨_,_,W⟩:=ha;refine(I.hok b ob e).stay (λc B hc q=>(hs.2 c ?_).trans q) (λ_ q=>q) λ_ _ q=>q;rintro rfl;rcases hc with rfl|hc
  .rw [W] at e;cases e
  .rw [W] at hc;cases hc
 rcases hx with hk|hk
 .refine wpAny_storeName_local hk G (λh' J hs=> ?_) uF;obtain⟨oL,_,_,K,_⟩:=id G;refine h _ ⟨I.ok,I.os,I.bare,⟨λb o e n hb hx=> ?_,λb o e n hb hx=> ?_,I.base.free,λb o e hx=> ?_,I.base.tups,I.base.frzs,I.base.tbls⟩,⟨_,J,λj y L f g O=> ?_⟩,λy c e=> ?_,I.free,I.freeC,λp hp=> ?_,tracked ⟨oL,K,I.free⟩ hs,by simpa using I.len⟩ ⟨_,hs, .inl rfl⟩
  .exact (hs.2 b (AAM (AAW (AAG e) I.ok.above))).trans (I.base.keep b o e n hb hx)
  .obtain ⟨sl,f⟩:=I.base.slot b o e n hb hx;exact⟨sl,(hs.2 b (AAM (AAW (AAG e) I.ok.above))).trans f⟩
  .obtain ⟨P,f⟩:=I.base.there b o e hx;exact⟨P,(hs.2 b (AAM (AAW (AAG e) I.ok.above))).trans f⟩
  .by_cases hj:j=i
   .subst hj;rw[hi] at f;cases f;rw[ACO l] at g;cases g;exact⟨u,r, .inl ⟨hk,by simp⟩⟩
   .rw [AAb (AAk hj)] at g;obtain⟨R,S,q⟩:=hl j y L f g O;refine⟨R,S, ?_⟩;rcases q with⟨k,e⟩|⟨k,c,e,z⟩
    .refine .inl ⟨k, ?_⟩;have:y≠x:=λe=>hj (UC hN f (e ▸ hi));simp[this,e]
    .exact .inr ⟨k,c,e,z.sameBut hs (t y c e)⟩
  .obtain ⟨B,z⟩:=I.cell y c e;exact⟨B,z.sameBut hs (t y c e)⟩
  .obtain ⟨e,n,C,T,d⟩:=I.pin p hp;exact⟨(hs.2 p.1 C).trans e,n,C,T,d⟩
 .have U:X.fn x=true:=by
   rcases hf with z|z
   .exact z
   .rw [z] at hk;cases hk
  obtain⟨c,hc⟩:=I.ok.has x (.inl hk);obtain⟨B,z⟩:=I.cell x c hc;refine wpAny_storeName_cell I.ok.kind hk hc z (λh' Y hs=> ?_);obtain⟨Z,wz,uP⟩:=id z;refine h {s with heap:=h'} ⟨I.ok,I.os,I.bare,⟨λb o e n hb hx=> ?_,λb o e n hb hx=> ?_,I.base.free,λb o e hx=> ?_,I.base.tups,I.base.frzs,I.base.tbls⟩,⟨m,G.sameBut hs (AAk (t x c hc)),λj y L f g O=> ?_⟩,λy D e=> ?_,I.free,I.freeC,λp hp=> ?_,tracked ⟨Z,wz,I.freeC x c hc⟩ hs,by simpa using I.len⟩ ⟨c,hs, .inr hc⟩
  .exact (hs.2 b (AAM (AAW (AAG e) (I.ok.cab x c U hc)))).trans (I.base.keep b o e n hb hx)
  .obtain ⟨sl,f⟩:=I.base.slot b o e n hb hx;exact⟨sl,(hs.2 b (AAM (AAW (AAG e) (I.ok.cab x c U hc)))).trans f⟩
  .obtain ⟨P,f⟩:=I.base.there b o e hx;exact⟨P,(hs.2 b (AAM (AAW (AAG e) (I.ok.cab x c U hc)))).trans f⟩
  .by_cases hj:j=i
   .subst hj;rw[hi] at f;cases f;rw[ACO l] at g;cases g;exact⟨u,r, .inr ⟨.inl hk,c,hc,Y⟩⟩
   .rw [AAb (AAk hj)] at g;obtain⟨R,S,q⟩:=hl j y L f g O;refine⟨R,S, ?_⟩;rcases q with q|⟨k,D,e,z'⟩
    .exact .inl q
    .refine .inr ⟨k,D,e,z'.sameBut hs ?_⟩;rintro rfl;exact hj (UC hN f (I.ok.inj _ _ _ e hc ▸ hi))
  .by_cases wq:D=c
   .subst wq;exact⟨_,Y⟩
   .obtain ⟨w2,z2⟩:=I.cell y D e;exact⟨w2,z2.sameBut hs wq⟩
  .obtain ⟨e,n,C,T,d⟩:=I.pin p hp;refine⟨(hs.2 p.1 ?_).trans e,n,C,T,d⟩;intro q;rw[q,wz] at e;have q':Z=p.2:=AAV e;exact d B (by rw[<-q'];exact uP)
def Hc {M:Model}{A:Tb}{E:kj->ki->Prop}{i:Nat}{x:Str}{v:V}{u:kj}{Q:Unit->ki->Prop}(I:Inv X Sr σ H s)(hN:X.N.Nodup)(hi:X.N[i]? =some x)(hx:Loc X.env.scope x)(r:RelV v u)(h:∀a,Inv X Sr (σ.set i (some v)) H a->Q () a)(b:X.fn x=true\/X.env.scope.names.lookup x=some .local:=by first | exact .inl rfl|exact .inr rfl|assumption):wpAny M A (storeName X.env x u) Q E s:=
 LQ I hN hi hx r (λa c _=>h a c) b
def Inv.call' {a:ki}{ch:km ke}(I:Inv X Sr σ H s)(d:a.os=s.os)(u:Un (Z8 X.stack) ch H H' s.heap a.heap)(hok:Ig X.prog X.w H' a.heap)(f:AllBare a.gens)(g:∀b∈ch,(b∈X.ex\/X.s₀.heap.objs.size<=b)/\b≠X.env.locals/\(∀x c,X.env.cells.lookup x=some c->c≠b)/\∀p∈X.pn++Sr,p.1≠b):Inv X Sr σ H' a:=by obtain⟨h',g',d',t',h⟩:=a;have e:h=s.os:=d;subst e;exact I.call (g':=g') (t':=t') (d':=d') u hok f g
end
abbrev XK:=kj->kd ke->Hp->Prop
abbrev St:=km (kd V)
abbrev VK:=V->Hp->Prop
abbrev TE:=St->Hp->VK->Prop
abbrev TT:=St->Hp->(gn->Hp->Prop)->Prop
abbrev TA:=St->Hp->(km V->Hp->Prop)->Prop
structure L7 where
 nx:St->Hp->Prop
 rt:VK
 bk:St->Hp->Prop:=λ_ _=>False
 ct:St->Hp->Prop:=λ_ _=>False
abbrev TS:=L7->St->Hp->Prop
def EP (X:Cx)(b:km (ke×Obj))(c:St)(Q:VK)(u:kj)(d:ki):Prop:=∃v a,Inv X b c a d/\RelV v u/\Q v a
def TP (X:Cx)(c:km (ke×Obj))(d:St)(Q:gn->Hp->Prop)(b:gn)(e:ki):Prop:=∃a,Inv X c d a e/\Q b a
def AP (X:Cx)(b:km (ke×Obj))(c:St)(Q:km V->Hp->Prop)(d:km kj)(e:ki):Prop:=∃vs a,Inv X b c a e/\Ax vs d/\Q vs a
def SP (X:Cx)(b:km (ke×Obj))(D:L7)(f:Flow)(c:ki):Prop:=
 match f with
 | .next=>∃σ' a,Inv X b σ' a c/\D.nx σ' a
 | .brk=>∃σ' a,Inv X b σ' a c/\D.bk σ' a
 | .cont=>∃σ' a,Inv X b σ' a c/\D.ct σ' a
 | .ret u=>∃v σ' a,Inv X b σ' a c/\RelV v u/\D.rt v a
def PE (X:Cx)(e:kc)(t:TE):Prop:=
 ∀(b:km (ke×Obj)) (s:ki) (a:St) (H:Hp) (Q:VK),Inv X b a H s->t a H Q->wpAny (model X.prog X.w) X.A (eval e X.env) (EP X b a Q) X.xe s
def PT (X:Cx)(e:kc)(t:TT):Prop:=
 ∀(b:km (ke×Obj)) (s:ki) (a:St) (H:Hp) (Q:gn->Hp->Prop),Inv X b a H s->t a H Q->wpAny (model X.prog X.w) X.A (isTrue e X.env (eval e X.env)) (TP X b a Q) X.xe s
def PW (X:Cx)(e:kc)(t:TT):Prop:=
 ∀(whole:Sem kj) (b:km (ke×Obj)) (s:ki) (a:St) (H:Hp) (Q:gn->Hp->Prop),Inv X b a H s->t a H Q->wpAny (model X.prog X.w) X.A (isTrue e X.env whole) (TP X b a Q) X.xe s
def PW.pt {X:Cx}{e:kc}{t:TT}(h:PW X e t):PT X e t:=h _
def PA (X:Cx)(es:km kc)(t:TA):Prop:=
 ∀(pos:Pos) (b:km (ke×Obj)) (s:ki) (a:St) (H:Hp) (Q:km V->Hp->Prop),Inv X b a H s->t a H Q->wpAny (model X.prog X.w) X.A (spliced (backTo pos (starEach es X.env))) (AP X b a Q) X.xe s
def PS (X:Cx)(st:Stmt)(t:TS):Prop:=
 ∀(a:km (ke×Obj)) (s:ki) (b:St) (H:Hp) (D:L7),Inv X a b H s->t D b H->wpAny (model X.prog X.w) X.A (exec st X.env) (SP X a D) X.xe s
def TJ (X:Cx)(st:km Stmt)(t:TS):Prop:=
 ∀(a:km (ke×Obj)) (s:ki) (b:St) (H:Hp) (D:L7),Inv X a b H s->t D b H->wpAny (model X.prog X.w) X.A (execs st X.env) (SP X a D) X.xe s
def Bc {b:Type}{t:Sem b}{Q c:b->ki->Prop}{M:Model}{A:Tb}{E:kj->ki->Prop}{s:ki}(h:wpAny M A t Q E s)(hQ:∀a s,Q a s->c a s):wpAny M A t c E s:=ABv h hQ λ_ _ x=>x
section
variable {X:Cx}
def DX (i:Nat):TE:=λa H Q=>∃v,a[i]? =some (some v)/\Q v H
def tC (v:V):TE:=λ_ H Q=>Q v H
def WH {i:Nat}{x:Str}{pos:Pos}(hN:X.N[i]? =some x)(hv:oB X.env.scope x)(hd:(x==("__debug__" :Str))=false:=by decide)(d:(x==("__classdict__" :Str))=false:=by decide):PE X (.Name x pos) (DX i):=by
 intro f s g H Q I h;obtain⟨v,e,h⟩:=h;obtain⟨m,j,hl⟩:=I.loc;obtain⟨u,r,l⟩:=hl i x v hN e hv;have a:EP X f g Q u s:=⟨v,H,I,r,h⟩;rcases l with⟨hk,k⟩|⟨hk,c,hc,b⟩
 .exact wpAny_Name (wpAny_loadName_local I.ok.kind hk j k a) hd
 .rcases hk with hk|hk
  .exact wpAny_Name (wpAny_loadName_cell I.ok.kind hk hc b a) hd
  .exact wpAny_Name (wpAny_loadName_free I.ok.kind hk hc b a d) hd
def BK {i j pos}:PE X (.Constant (.int i) j pos) (tC (.int i)):=λ_ _ _ H _ I h=>wpAny_Constant_int ⟨.int i,H,I.tok _,⟨_,rfl⟩,h⟩
def qR {b j pos}:PE X (.Constant (.bool b) j pos) (tC (.bl b)):=λ_ _ _ H _ I h=>Constant_bool ⟨.bl b,H,I,rfl,h⟩
def cy {j pos}:PE X (.Constant .none j pos) (tC .non):=λ_ _ _ H _ I h=>Constant_none ⟨.non,H,I,rfl,h⟩
def mN {x j pos}:PE X (.Constant (.str x) j pos) (tC (.str x)):=λ_ _ _ H _ I h=>Calls.Constant_str ⟨.str x,H,I.tok _,⟨_,rfl⟩,h⟩
def Gl (X:Cx)(x:Str):Prop:=X.env.kindOf x=some .globalImplicit
def Xm {E:kj->ki->Prop}{a:km (ke×Obj)}{s:ki}{b:St}{H:Hp}{x:Str}{u:kj}{pos:Pos}{Q:kj->ki->Prop}(I:Inv X a b H s)(c:Gl X x)(d:X.mg x=some u)(h:Q u s)(hd:(x==("__debug__" :Str))=false:=by decide):wpAny (model X.prog X.w) X.A (eval (.Name x pos) X.env) Q E s:=
 Calls.Name_function_global I.ok.kind c (Calls.loadGlobal_global (by rw[I.ok.glob];exact I.mod.glob.keeps I.bk) d h) hd
def HI {E:kj->ki->Prop}{a:km (ke×Obj)}{s:ki}{b:St}{H:Hp}{x:Str}{u:kj}{pos:Pos}{Q:kj->ki->Prop}(I:Inv X a b H s)(c:Gl X x)(d:X.mg x=none)(hv:bootBuiltins x=some u)(h:Q u s)(e:x≠"__name__" :=by decide)(hd:(x==("__debug__" :Str))=false:=by decide):wpAny (model X.prog X.w) X.A (eval (.Name x pos) X.env) Q E s:=by obtain⟨f,h1,h2⟩:=I.mod.blt;exact Calls.Name_function_global I.ok.kind c (Calls.loadGlobal_builtin (by rw[I.ok.glob];exact I.mod.glob.keeps I.bk) d (by rw[I.ok.blt];exact h1.keeps I.bk) ((h2 x e).trans hv) h) hd
def Xy {x:Str}{v:V}{u:kj}{pos:Pos}(a:Gl X x)(b:X.mg x=some u)(r:RelV v u)(hd:(x==("__debug__" :Str))=false:=by decide):PE X (.Name x pos) (tC v):=
 λ_ _ _ H _ I h=>Xm I a b ⟨v,H,I,r,h⟩ hd
def hZ {x:Str}{v:V}{u:kj}{pos:Pos}(a:Gl X x)(b:X.mg x=none)(hv:bootBuiltins x=some u)(r:RelV v u)(c:x≠"__name__" :=by decide)(hd:(x==("__debug__" :Str))=false:=by decide):PE X (.Name x pos) (tC v):=
 λ_ _ _ H _ I h=>HI I a b hv ⟨v,H,I,r,h⟩ c hd
variable {a b:kc}{ta tb:TE}{pos:Pos}
def PC (X:Cx)(op:CmpOp)(a b:kc)(t:TE):Prop:=
 ∀(f:km (ke×Obj)) (s:ki) (e:St) (H:Hp) (Q:VK),Inv X f e H s->t e H Q->
  wpAny (model X.prog X.w) X.A (eval a X.env) (λv c=>wpAny (model X.prog X.w) X.A (eval b X.env) (λu d=>wpAny (model X.prog X.w) X.A (compareOp op v u) (EP X f e Q) X.xe d) X.xe c) X.xe s
def cX (b:kc){op:CmpOp}(h:op≠ .In)(h2:op≠ .NotIn):behindInMarks op b=false:=by
 have c:(op==CmpOp.In)=false:=by cases op <;> first | rfl|exact absurd rfl h
 have d:(op==CmpOp.NotIn)=false:=by cases op <;> first | rfl|exact absurd rfl h2
 cases b <;> simp[behindInMarks,c,d]
def tB (t:TE):TT:=λd H Q=>t d H λx H1=>∃c,x= .bl c/\Q c H1
def mP {op:CmpOp}{t:TE}(h:PC X op a b t)(h1:behindInMarks op b=false:=by first | exact cX _ (by decide) (by decide)|rfl):PT X (.Compare a [op] [b] pos) (tB t):=by intro e s f H Q I hw;refine wpAny_isTrue_Compare1 (Bc (h e s f H _ I hw) λv k h1=>Bc h1 λu l h2=>Bc h2 λc m ⟨x,H1,g,i,j⟩=> ?_) h1;obtain⟨d,rfl,q⟩:=j;cases i;exact ABu ⟨H1,g,q⟩
def mR {e:kc}{t:TE}(h:PE X e t)(he:∀whole,isTrue e X.env whole=(do let v <-whole;standAt e.pos;holding [v] (truthy v)):=by intro _;rfl):PT X e (tB t):=by intro c s f H Q I hw;refine isTrue_plain (Bc (h c s f H _ I hw) λv k ⟨x,H1,g,i,j⟩=> ?_) (he _);obtain⟨d,rfl,q⟩:=j;cases i;exact ABu ⟨H1,g,q⟩
variable {tA tB':TT}{rest:km kc}
def u5 (t u:TT):TT:=λd H Q=>t d H λc H1=>if c=true then u d H1 Q else Q false H1
def tOr (t u:TT):TT:=λd H Q=>t d H λc H1=>if c=true then Q true H1 else u d H1 Q
def u9 (t:TT):TT:=λd H Q=>t d H λc H1=>Q (!c) H1
def iL (ha:PT X a tA):PW X (.BoolOp .And [a] pos) tA:=by
 intro g d s f H Q I h;refine isTrue_and (Bc (ha d s f H Q I h) λc i e=> ?_);cases c with
 | true=>exact isTrue_and_nil e
 | false=>exact e
def mT (ha:PT X a tA):PW X (.BoolOp .Or [a] pos) tA:=by
 intro g d s f H Q I h;refine isTrue_or (Bc (ha d s f H Q I h) λc i e=> ?_);cases c with
 | false=>exact isTrue_or_nil e
 | true=>exact e
def mS (ha:PT X a tA)(hb:PW X (.BoolOp .And (b::rest) pos) tB'):PW X (.BoolOp .And (a::b::rest) pos) (u5 tA tB'):=by
 intro i d s e H Q I h;refine isTrue_and (Bc (ha d s e H _ I h) λc j ⟨H1,f,g⟩=> ?_);cases c with
 | true=>exact hb i d j e H1 Q f g
 | false=>exact⟨H1,f,g⟩
def qW (ha:PT X a tA)(hb:PW X (.BoolOp .Or (b::rest) pos) tB'):PW X (.BoolOp .Or (a::b::rest) pos) (tOr tA tB'):=by
 intro i d s e H Q I h;refine isTrue_or (Bc (ha d s e H _ I h) λc j ⟨H1,f,g⟩=> ?_);cases c with
 | true=>exact⟨H1,f,g⟩
 | false=>exact hb i d j e H1 Q f g
def mQ (ha:PT X a tA):PT X (.UnaryOp .Not a pos) (u9 tA):=by intro d s e H Q I h;exact isTrue_not (ha d s e H (λc H1=>Q (!c) H1) I h)
def rH (ta tb:TE):TE:=λd H Q=>ta d H λx H1=>∃c,x= .bl c/\if c=true then tb d H1 Q else Q (.bl false) H1
def vB (ta tb:TE):TE:=λd H Q=>ta d H λx H1=>∃c,x= .bl c/\if c=true then Q (.bl true) H1 else tb d H1 Q
def rM (ta:TE):TE:=λd H Q=>ta d H λx H1=>∃c,x= .bl c/\Q (.bl (!c)) H1
def mM {op}{t:TE}(h:PE X a t):PE X (.BoolOp op [a] pos) t:=λc s d H Q I hw=>BoolOp_one (h c s d H Q I hw)
def mJ (ha:PE X a ta)(hb:PE X (.BoolOp .And (b::rest) pos) tb):PE X (.BoolOp .And (a::b::rest) pos) (rH ta tb):=by
 intro e s f H Q I h;refine BoolOp_and (Bc (ha e s f H _ I h) λv i ⟨x,H1,g,j,d⟩=> ?_);obtain⟨c,rfl,d⟩:=d;cases j;refine ABu ?_;cases c with
 | true=>exact hb e i f H1 Q g d
 | false=>exact⟨.bl false,H1,g,rfl,d⟩
def qS (ha:PE X a ta)(hb:PE X (.BoolOp .Or (b::rest) pos) tb):PE X (.BoolOp .Or (a::b::rest) pos) (vB ta tb):=by
 intro e s f H Q I h;refine BoolOp_or (Bc (ha e s f H _ I h) λv i ⟨x,H1,g,j,d⟩=> ?_);obtain⟨c,rfl,d⟩:=d;cases j;refine ABu ?_;cases c with
 | false=>exact hb e i f H1 Q g d
 | true=>exact⟨.bl true,H1,g,rfl,d⟩
def mL (ha:PE X a ta):PE X (.UnaryOp .Not a pos) (rM ta):=by intro e s f H Q I h;refine UnaryOp_ (Bc (ha e s f H _ I h) λv j ⟨x,H1,g,i,d⟩=> ?_);obtain⟨c,rfl,d⟩:=d;cases i;exact not_of (ABu ⟨.bl (!c),H1,g,rfl,d⟩)
def tIf (t:TT)(ta tb:TE):TE:=λd H Q=>t d H λc H1=>if c=true then ta d H1 Q else tb d H1 Q
def cx {c:kc}(hc:PT X c tA)(ha:PE X a ta)(hb:PE X b tb):PE X (.IfExp c a b pos) (tIf tA ta tb):=by
 intro e s f H Q I h;refine wpAny_IfExp (Bc (hc e s f H _ I h) λd g ⟨H1,i,j⟩=> ?_);cases d with
 | true=>exact ha e g f H1 Q i j
 | false=>exact hb e g f H1 Q i j
end
def FJ (K:AAB)(H:Hp)(a:ke)(xs:km V):Prop:=
 Rd H a (.lst xs)\/
  ∃(o:Obj) (b:Array kj) (n:Nat),K.lookup a=some o/\o.cls= .type "list" /\o.dict=none/\o.data= .seq b n/\b.size<=sizeLine/\Ax xs b.toList
def KJ (K:AAB)(H:Hp)(a:ke)(xs:km V):Prop:=
 Rd H a (.tup xs)\/
  ∃(o:Obj) (b:Array kj) (n:Nat),K.lookup a=some o/\o.cls= .type "tuple" /\o.data= .seq b n/\b.size<=sizeLine/\Ax xs b.toList
def tT:kj->kd V
 | .none=>some .non
 | .bool b=>some (.bl b)
 | .int i _=>some (.int i)
 | .str x _=>some (.str x)
 | .bytes b _=>some (.byt b)
 | .float b _=>some (.flt b)
 | .ref a=>some (.ref a)
 | .type n=>some (.ty n)
 | _=>none
def RelV.abs {x:V}{u:kj}(r:RelV x u):tT u=some x:=by
 cases x with
 | non=>cases r;rfl
 | bl _=>cases r;rfl
 | int _=>obtain⟨t,rfl⟩:=r;rfl
 | str _=>obtain⟨t,rfl⟩:=r;rfl
 | byt _=>obtain⟨t,rfl⟩:=r;rfl
 | flt _=>obtain⟨t,rfl⟩:=r;rfl
 | ref _=>cases r;rfl
 | ty _=>cases r;rfl
def RelV.inj {x y:V}{u:kj}(r:RelV x u)(q:RelV y u):x=y:=AAV (r.abs.symm.trans q.abs)
theorem Ax.inj:∀{xs ys:km V} {a:km kj},Ax xs a->Ax ys a->xs=ys
 | _,_,_, .nil, .nil=>rfl
 | _,_,_, .cons r t, .cons b t'=>by rw[r.inj b,Ax.inj t t']
section
variable {X:Cx}{Sr:km (ke×Obj)}{σ:St}{H:Hp}{s:ki}{a:ke}{xs ys:km V}
def FJ.of {K:AAB}(h:H a=some (.lst xs)):FJ K H a xs:= .inl (.inl h)
def Inv.list (I:Inv X Sr σ H s)(h:FJ X.K H a xs):∃b:km kj,Ax xs b/\PlainL s.heap a b.toArray/\xs.length<=sizeLine:=by
 rcases h with h|⟨o,b,n,hk,hc,hd,hs,hz,r⟩
 .obtain ⟨z,b,n,r,e⟩:=h.ok I.hok;exact⟨b,r,⟨_,n,e,rfl,rfl,rfl⟩,z⟩
 .refine ⟨b.toList,r,⟨o,n,I.kIn a o hk,hc,hd,by simpa using hs⟩, ?_⟩;have e:=r.length;simp only[AB8] at e;omega
def Inv.tuple (I:Inv X Sr σ H s)(h:KJ X.K H a xs):∃b:km kj,Ax xs b/\IsTup s.heap a b.toArray/\xs.length<=sizeLine:=by
 rcases h with h|⟨o,b,n,hk,hc,hs,hz,r⟩
 .obtain ⟨z,b,r,p⟩:=h.ok I.hok;exact⟨b,r,p,z⟩
 .refine ⟨b.toList,r,⟨o,I.kIn a o hk,hc,n,by simpa using hs⟩, ?_⟩;have e:=r.length;simp only[AB8] at e;omega
def Inv.list_inj (I:Inv X Sr σ H s)(h:FJ X.K H a xs)(h':FJ X.K H a ys):xs=ys:=by
 obtain⟨b,r,⟨o,n,e,_,_,d⟩,_⟩:=I.list h;obtain⟨its',f,⟨i,j,c,_,_,d'⟩,_⟩:=I.list h';rw[e] at c;cases c;rw[d] at d';injection d' with g _;have:b=its':=by simpa using congrArg Array.toList g
 subst this;exact r.inj f
def Inv.tuple_inj (I:Inv X Sr σ H s)(h:KJ X.K H a xs)(h':KJ X.K H a ys):xs=ys:=by
 obtain⟨b,r,⟨o,e,_,n,d⟩,_⟩:=I.tuple h;obtain⟨its',f,⟨i,c,_,j,d'⟩,_⟩:=I.tuple h';rw[e] at c;cases c;rw[d] at d';injection d' with g _;have:b=its':=by simpa using congrArg Array.toList g
 subst this;exact r.inj f
end
abbrev Cx.wish (X:Cx)(E:kj->ki->Prop):Cx:={X with xe:=E}
abbrev Cx.nox (X:Cx):Cx:=X.wish λ_ _=>False
def Cx.Ok.wish {X:Cx}(ok:X.Ok)(E:kj->ki->Prop):(X.wish E).Ok:=
 ⟨ok.mod,ok.kind,ok.glob,ok.blt,ok.above,ok.inj,ok.has,ok.cab,ok.hd,ok.frames,ok.stk,ok.exf,ok.bs,ok.bsz,ok.noex,ok.exfs,ok.funs,ok.frf⟩
def Cx.Ok.unwish {X:Cx}{E:kj->ki->Prop}(ok:(X.wish E).Ok):X.Ok:=
 ⟨ok.mod,ok.kind,ok.glob,ok.blt,ok.above,ok.inj,ok.has,ok.cab,ok.hd,ok.frames,ok.stk,ok.exf,ok.bs,ok.bsz,ok.noex,ok.exfs,ok.funs,ok.frf⟩
section
variable {X:Cx}{Sr:km (ke×Obj)}{σ:St}{H:Hp}{s:ki}{E:kj->ki->Prop}
def Inv.wish (I:Inv X Sr σ H s)(E:kj->ki->Prop):Inv (X.wish E) Sr σ H s:=⟨I.ok.wish E,I.os,I.bare,I.base,I.loc,I.cell,I.free,I.freeC,I.pin,I.hok,I.len⟩
def Inv.unwish (I:Inv (X.wish E) Sr σ H s):Inv X Sr σ H s:=⟨I.ok.unwish,I.os,I.bare,I.base,I.loc,I.cell,I.free,I.freeC,I.pin,I.hok,I.len⟩
def SP.unwish {D:L7}{f:Flow}{b:ki}(h:SP (X.wish E) Sr D f b):SP X Sr D f b:=by
 cases f with
 | next=>obtain⟨σ',a,I,q⟩:=h;exact⟨σ',a,I.unwish,q⟩
 | brk=>obtain⟨σ',a,I,q⟩:=h;exact⟨σ',a,I.unwish,q⟩
 | cont=>obtain⟨σ',a,I,q⟩:=h;exact⟨σ',a,I.unwish,q⟩
 | ret u=>obtain⟨v,σ',a,I,r,q⟩:=h;exact⟨v,σ',a,I.unwish,r,q⟩
def TJ.nox {st:km Stmt}{t:TS}(h:TJ X.nox st t):TJ X st t:=λSr s σ H D I hw=>
 ABv (h Sr s σ H D (I.wish _) hw) (λ_ _ q=>q.unwish) λ_ _ z=>False.elim z
end
section
variable {X:Cx}{st:Stmt}{rest:km Stmt}{t u:TS}{e:kc}{te:TE}{pos:Pos}
def jr:TS:=λD a H=>D.nx a H
def Wn (t u:TS):TS:=λD a H=>t {D with nx:=u D} a H
def Mf:TJ X [] jr:=λ_ _ a H _ I h=>ADI ⟨a,H,I,h⟩
def Bp (h1:PS X st t)(h2:TJ X rest u):TJ X (st::rest) (Wn t u):=by
 intro a s b H D I h;refine wpAny_execs_cons (Bc (h1 a s b H {D with nx:=u D} I h) λf c q=> ?_);cases f with
 | next=> obtain⟨σ',d,g,q⟩:=q;exact h2 a c σ' d D g q
 | ret v=>exact q
 | brk=>exact q
 | cont=>exact q
def El (h1:PS X st t):TJ X [st] t:=by
 intro a s b H D I h;refine wpAny_execs_cons (Bc (h1 a s b H D I h) λf c q=> ?_);cases f with
 | next=>exact ADI q
 | ret v=>exact q
 | brk=>exact q
 | cont=>exact q
def Inv.quiet {a:km (ke×Obj)}{b:St}{H:Hp}{s:ki}(I:Inv X a b H s):interactive X.env=false:=by simp[interactive,I.ok.kind]
def jp (te:TE):TS:=λD a H=>te a H λ_ H1=>D.nx a H1
def iJ (he:PE X e te)(hs:swapsWith e none pos.line X.env=pure false:=by rfl):PS X (.Expr e pos) (jp te):=by intro b s a H D I h;exact wpAny_Expr_any (Bc (he b s a H _ I h) λv f ⟨x,H1,c,g,d⟩=>⟨a,H1,c,d⟩) I.quiet hs
def eG (te:TE):TS:=λD a H=>te a H D.rt
def N9 (he:PE X e te):PS X (.Return (some e) pos) (eG te):=by intro b s a H D I h;exact wpAny_Return_some (Bc (he b s a H _ I h) λv g ⟨x,H1,c,d,f⟩=>⟨x,a,H1,c,d,f⟩)
def rJ (c:TT)(t u:TS):TS:=λD a H=>c a H λb H1=>if b=true then t D a H1 else u D a H1
def X3 {c:kc}{a b:km Stmt}{i:TT}(hc:PT X c i)(ha:TJ X a t)(hb:TJ X b u):PS X (.If c a b pos) (rJ i t u):=by
 intro f s g H D I h;refine wpAny_If (Bc (hc f s g H _ I h) λd j ⟨H1,k,l⟩=> ?_);cases d with
 | true=>exact ha f j g H1 D k l
 | false=>exact hb f j g H1 D k l
end
abbrev TG:=V->St->Hp->(St->Hp->Prop)->Prop
abbrev VG:=km V->St->Hp->(St->Hp->Prop)->Prop
def PG (X:Cx)(target:kc)(t:TG):Prop:=
 ∀(a:km (ke×Obj)) (s:ki) (b:St) (H:Hp) (v:V) (u:kj) (Q:St->Hp->Prop),Inv X a b H s->RelV v u->t v b H Q->
  wpAny (model X.prog X.w) X.A (assign target X.env u) (λ_ d=>∃σ' c,Inv X a σ' c d/\Q σ' c) X.xe s
def n9 (X:Cx)(e:km kc)(t:VG):Prop:=
 ∀(a:km (ke×Obj)) (s:ki) (b:St) (H:Hp) (vs:km V) (c:km kj) (Q:St->Hp->Prop),Inv X a b H s->Ax vs c->t vs b H Q->
  wpAny (model X.prog X.w) X.A (assignInOrder ((assignEach e X.env).map (·.2)) c) (λ_ f=>∃σ' d,Inv X a σ' d f/\Q σ' d) X.xe s
abbrev kC:=V->V->V->Hp->(Hp->Prop)->Prop
def oo (X:Cx)(t:kC):Prop:=
 ∀(a:km (ke×Obj)) (s:ki) (b:St) (H:Hp) (o i v:V) (c d u:kj) (Q:Hp->Prop),Inv X a b H s->RelV o c->RelV i d->RelV v u->t o i v H Q->
  wpAny (model X.prog X.w) X.A (setItem c d u) (λ_ f=>∃e,Inv X a b e f/\Q e) X.xe s
abbrev oA:=V->V->Hp->VK->Prop
def j7 (X:Cx)(op:Operator)(t:oA):Prop:=
 ∀(a:km (ke×Obj)) (s:ki) (b:St) (H:Hp) (x y:V) (v u:kj) (Q:VK),Inv X a b H s->RelV x v->RelV y u->t x y H Q->
  wpAny (model X.prog X.w) X.A (inplaceOp op v u) (EP X a b Q) X.xe s
section
variable {X:Cx}{pos:Pos}
def Bn (i:Nat):TG:=λv a H Q=>Q (a.set i (some v)) H
def Ek {i:Nat}{x:Str}(hN:X.N.Nodup)(hi:X.N[i]? =some x)(hx:Loc X.env.scope x)(a:X.fn x=true\/X.env.scope.names.lookup x=some .local:=by first | exact .inl rfl|exact .inr rfl|assumption):PG X (.Name x pos) (Bn i):=by intro c s d H v u Q I r h;exact AD5 (Hc I hN hi hx r (λe b=>⟨_,H,b,h⟩) a)
def MD:VG:=λvs a H Q=>vs= [] /\Q a H
def DI (t:TG)(u:VG):VG:=λvs a H Q=>∃v r,vs=v::r/\t v a H λσ' b=>u r σ' b Q
def J1:n9 X [] MD:=by intro b s a H vs c Q I r h;obtain⟨e,h⟩:=h;subst e;cases r;exact assignInOrder_nil ⟨a,H,I,h⟩
def Dv {e:kc}{es:km kc}{t:TG}{u:VG}(h1:PG X e t)(h2:n9 X es u)(hs:(assignEach (e::es) X.env).map (·.2)=assign e X.env::(assignEach es X.env).map (·.2):=by rfl):n9 X (e::es) (DI t u):=by
 intro b s c H vs k Q I r h;obtain⟨v,l,d,h⟩:=h;subst d;cases r with
 | cons r f=> rw[hs];refine assignInOrder_cons (Bc (h1 b s c H _ _ _ I r h) λ_ g ⟨a,H1,i,j⟩=> ?_);exact h2 b g a H1 _ _ Q i f j
def tz (b c:TE)(t:kC):TG:=λv a H Q=>b a H λo H1=>c a H1 λi d=>t o i v d λe=>Q a e
def c8 {o i:kc}{e f:TE}{t:kC}(g:PE X o e)(hi:PE X i f)(hs:oo X t)(ha:∀v,assign (.Subscript o i pos) X.env v=(do
   let a <-holding [v] (eval o X.env);let b <-holding [v,a] (eval i X.env)
   standAt pos
   holding [v,a,b] (setItem a b v)
   release [v,a,b] []):=by intro _;rfl):PG X (.Subscript o i pos) (tz e f t):=by intro d s c H v u Q I r h;rw[ha];refine AAA (AAd (Bc (g d s c H _ I h) λa j ⟨x,H1,k,l,m⟩=> ?_));refine AAA (AAd (Bc (hi d j c H1 _ k m) λb n ⟨y,p,w,z,A⟩=> ?_));refine AAA (ABw (AAA (AAd (Bc (hs d n c p x y v a b u _ w l z r A) λ_ E ⟨B,C,D⟩=> ?_))));exact wpAny_release ⟨c,B,C,D⟩
def Pm (b:TE)(g:TG):TS:=λD a H=>b a H λx H1=>g x a H1 D.nx
def WJ {a e:kc}{b:TE}{g:TG}(he:PE X e b)(f:PG X a g)(hs:swapsWithSole [a] e pos.line X.env=pure false:=by rfl)(hw:swappedStores [a] e X.env=pure none:=by rfl)(h1:(assignEach [a] X.env).map (·.2)= [assign a X.env] :=by rfl):PS X (.Assign [a] e pos) (Pm b g):=by intro c s d H D I h;refine wpAny_Assign_stores (Bc (he c s d H _ I h) λv i ⟨x,H1,j,k,l⟩=> ?_) hs hw;rw[h1];exact Bc (f c i d H1 x v _ j k l) λ_ m q=>q
def Fi {i:Nat}{x:Str}{e:kc}{a:TE}{pos':Pos}(hN:X.N.Nodup)(hi:X.N[i]? =some x)(hx:Loc X.env.scope x)(he:PE X e a)(hs:swapsWith e (some (.Name x pos')) pos.line X.env=pure false:=by rfl)(b:X.fn x=true\/X.env.scope.names.lookup x=some .local:=by first | exact .inl rfl|exact .inr rfl|assumption):PS X (.Assign [.Name x pos'] e pos) (Pm a (Bn i)):=by intro c s d H D I h;refine wpAny_Assign_Name (Bc (he c s d H _ I h) λv l ⟨y,H1,f,g,j⟩=> ?_) hs;exact Hc f hN hi hx g (λm k=>⟨_,H1,k,j⟩) b
def vC (i j:Nat)(b:TA):TS:=λD a H=>b a H λvs H1=>∃v w,vs= [v,w] /\D.nx ((a.set i (some v)).set j (some w)) H1
def mO {i j:Nat}{x y:Str}{a b:kc}{r:TA}{g k l:Pos}{kt k2 pt2}(hc:X.calm=true)(hN:X.N.Nodup)(hi:X.N[i]? =some x)(hj:X.N[j]? =some y)(B:i≠j)(hx:X.env.scope.names.lookup x=some .local)(hy:X.env.scope.names.lookup y=some .local)(ha:PA X [a,b] r)(hw:swappedStores [.Tuple [.Name x g, .Name y k] kt l] (.Tuple [a,b] k2 pt2) X.env=pure (some [x,y]))(hs:swapsWithSole [.Tuple [.Name x g, .Name y k] kt l] (.Tuple [a,b] k2 pt2) pos.line X.env=pure false:=by rfl):PS X (.Assign [.Tuple [.Name x g, .Name y k] kt l] (.Tuple [a,b] k2 pt2) pos) (vC i j r):=by
 intro t s u H D I h;rw[exec_Assign_arm];refine AAA (ABw ?_);rw[hs];refine AAA (AAE ?_);rw[AAC (by decide)];refine AAA (Tuple_ (Bc (ha _ t s u H _ I h) λC c ⟨vs,H1,E,F,m⟩=> ?_));obtain⟨v,w,G,m⟩:=m;subst G;obtain⟨d,f,rfl,rv,n⟩:∃d f,C= [d,f] /\RelV v d/\RelV w f:=by
  cases F with
  | cons p q=>
    cases q with
    | cons J K=> cases K;exact⟨_,_,rfl,p,J⟩
 refine ABQ ?_ (by show 2<=sizeLine;decide);have L:Inv X t u H1 {c with heap:=c.heap.push {cls:= .type "tuple",data:= .seq [d,f].toArray}}:=E.kept (t':=c.toks) λb o e=>AAH _ e;rw[hw];refine AAA (AAE ?_);show wpAny (model X.prog X.w) X.A (do rule "assign.swapped-stores";let items <-unpackItems (.ref c.heap.objs.size) 2 none;assignInOrder [λv=>bindName X.env y v,λv=>bindName X.env x v] items.reverse;pure Flow.next) _ _ _;refine AAA (ABk (AAA (unpackItems_tuple (items:= #[d,f]) (I.ok.hd hc) (IsTup.new c.heap _) λh' M=> ?_)));have O:=L.kept (h':=h') (t':=c.toks) λb o e=>M b o (AAM (AAG e)) e;show wpAny _ _ (assignInOrder [λv=>bindName X.env y v,λv=>bindName X.env x v] [f,d] >>= λ_=>pure Flow.next) _ _ _;refine AAA (assignInOrder_cons (wpAny_bindName (Hc O hN hj (.inl hy) n (λQ P=> ?_) (.inr hy))));refine assignInOrder_cons (wpAny_bindName (Hc P hN hi (.inl hx) rv (λR z=>assignInOrder_nil (AAE ?_)) (.inr hx)));rw[List.set_comm _ _ (AAk B)] at z;exact⟨_,H1,z,m⟩
def u6 (i:Nat)(b:TE)(c:oA):TS:=λD a H=>∃x,a[i]? =some (some x)/\b a H λy H1=>c x y H1 λz d=>D.nx (a.set i (some z)) d
def dF {i:Nat}{x:Str}{e:kc}{g:TE}{op:Operator}{j:oA}{pos':Pos}(hN:X.N.Nodup)(hi:X.N[i]? =some x)(hx:Loc X.env.scope x)(he:PE X e g)(o:j7 X op j)(p:X.fn x=true\/X.env.scope.names.lookup x=some .local:=by first | exact .inl rfl|exact .inr rfl|assumption):PS X (.AugAssign (.Name x pos') op e pos) (u6 i g j):=by
 intro d s n H D I h;obtain⟨v,t,h⟩:=h;obtain⟨m,B,hl⟩:=I.loc;have f:oB X.env.scope x:=by rcases hx with k|k;exact .inl k;exact .inr (.inl k)
 obtain⟨u,r,l⟩:=hl i x v hi t f;refine wpAny_AugAssign_Name ?_;have go:wpAny (model X.prog X.w) X.A (eval e X.env) (λw a=>wpAny (model X.prog X.w) X.A (inplaceOp op u w) (λr b=>wpAny (model X.prog X.w) X.A (storeName X.env x r) (λ_=>SP X d D .next) X.xe b) X.xe a) X.xe s:=by refine Bc (he d s n H _ I h) λw C ⟨y,H1,E,F,G⟩=> ?_;refine Bc (o d C n H1 v y u w _ E r F G) λz R ⟨S,J,K,L,M⟩=> ?_;exact Hc K hN hi hx L (λT O=>⟨_,J,O,M⟩) p
 rcases l with⟨hk,P⟩|⟨hk,c,hc,Q⟩
 .exact wpAny_loadName_local I.ok.kind hk B P go
 .rcases hk with hk|hk
  .exact wpAny_loadName_cell I.ok.kind hk hc Q go
  .rcases hx with k|k
   .have:X.env.scope.names.lookup x=some .free:=hk;rw[k] at this;cases this
   .have:X.env.scope.names.lookup x=some .free:=hk;rw[k] at this;cases this
def ue (f:Int->Int->Int):oA:=λx y H Q=>∃i j,x= .int i/\y= .int j/\Q (.int (f i j)) H
def lH:j7 X .Add (ue λi j=>i+j):=by intro e s f H x y v u Q I a b h;obtain⟨i,j,c,d,q⟩:=h;subst c;subst d;obtain⟨t,rfl⟩:=a;obtain⟨t',rfl⟩:=b;exact iadd_int ⟨.int _,H,I.tok _,⟨_,rfl⟩,q⟩
def nV (c:TT)(f:TS):TS:=λD a H=>∃W:Nat->St->Hp->Prop,(∃m,W m a H)/\∀m a H,W m a H->
 c a H λb H1=>if b=true then ∃N:St->Hp->Prop,(∀σ' d,N σ' d->∃e,e<m/\W e σ' d)/\f {D with nx:=N,ct:=N,bk:=D.nx} a H1 else D.nx a H1
def dH {c:kc}{body:km Stmt}{r:TT}{t:TS}(hp:PassesOwn (model X.prog X.w) X.A X.env X.xe)(hc:PT X c r)(hb:TJ X body t):PS X (.While c body [] pos) (nV r t):=by
 intro j s z H D I h;obtain⟨W,⟨m0,B⟩,turn⟩:=h;refine wpAny_While (codeAny_whileLoop (λn C=>∃σ' u,Inv X j σ' u C/\W n σ' u) ?_ m0 ⟨z,H,I,B⟩);rintro n E ⟨d,H1,F,G⟩;refine ACA hp (Bc (hc j E d H1 _ F (turn n d H1 G)) λb J ⟨x,y,g⟩=> ?_);cases b with
 | true=>
   obtain⟨N,hN,g⟩:=g;rw[AAD rfl];refine ACA hp (Bc (hb j J d x _ y g) λf K i=> ?_);cases f with
   | next=> obtain⟨a,e,k,l⟩:=i;obtain⟨m,o,p⟩:=hN a e l;exact⟨m,o,a,e,k,p⟩
   | cont=> obtain⟨a,e,k,l⟩:=i;obtain⟨m,o,p⟩:=hN a e l;exact⟨m,o,a,e,k,p⟩
   | brk=>exact i
   | ret v=>exact i
 | false=> rw[AAC AAO];exact ADI ⟨d,x,y,g⟩
end
structure It where
 go:Nat->Hp->Prop
 yld:Nat->Hp->V->Hp->Prop
 stop:Nat->Hp->Prop
def GJ (X:Cx)(a:km (ke×Obj))(H:Hp)(b:ke):Prop:=
 H b=none/\b≠X.env.locals/\b ∉ X.fs/\(b∈X.ex\/X.s₀.heap.objs.size<=b)/\(∀x c,X.env.cells.lookup x=some c->c≠b)/\∀p∈X.pn++a,p.1≠b
def Inv.fpOk {X:Cx}{a:km (ke×Obj)}{f:St}{H d:Hp}{s:ki}{b:ke}(I:Inv X a f H s)(hb:s.heap.objs.size<=b)(g:d b=none):GJ X a d b:=by
 refine⟨g,ABR (AAW I.lt hb),I.nofs hb, .inr (AAa I.sz hb),λx c e z=> ?_,λp hp z=> ?_⟩
 .obtain ⟨v,q⟩:=I.cell x c e;exact absurd (AAW q.lt (by rw[z];exact hb)) (ABd _)
 .exact absurd (AAW (AAG (I.pin p hp).1) (by rw[z];exact hb)) (ABd _)
structure MB (P:Program) (w:World) (K:AAB) (tg:Expr) (J:It) (fp:List Addr) (it:Addr) (tn:Nat->Heap->Prop):Prop where
 mem:it∈fp
 obj:∀i h,tn i h->∀b∈fp,∃o,h.get? b=some o/\∀v,o.data≠ .cell v
 keep:∀i h h',tn i h->(∀b∈fp,∀o,h.get? b=some o->h'.get? b=some o)->tn i h'
 item:∀(X:Cx),X.prog=P->X.w=w->X.K=K->X.calm=true->∀(i:Nat) (Sr:List (Addr×Obj)) (s:Shared) (σ:St) (H:Hp) (E:Value->Shared->Prop),Inv X Sr σ H s->(∀b∈fp,GJ X Sr H b)->tn i s.heap->J.go i H->
  wpAny (model P w) X.A (pyNext (.ref it)) (λr s1=>∃u,r=some u/\
   wpAny (model P w) X.A (letOwnedTupleGo tg (.ref it) u) (λ_ s2=>∃x H',Inv X Sr σ H' s2/\RelV x u/\J.yld i H x H'/\tn (i+1) s2.heap/\∀b∈fp,H' b=none) E s1) E s
 done:∀(X:Cx),X.prog=P->X.w=w->X.K=K->X.calm=true->∀(i:Nat) (Sr:List (Addr×Obj)) (s:Shared) (σ:St) (H:Hp) (E:Value->Shared->Prop),Inv X Sr σ H s->(∀b∈fp,GJ X Sr H b)->tn i s.heap->J.stop i H->
  wpAny (model P w) X.A (pyNext (.ref it)) (λr s1=>r=none/\Inv X Sr σ H s1) E s
 self:∀(A:Around) (i:Nat) (s:Shared) (Q:Value->Shared->Prop) (E:Value->Shared->Prop),tn i s.heap->Q (.ref it) s->wpAny (model P w) A (pyIter (.ref it)) Q E s
abbrev TI:=St->Hp->(It->Hp->Prop)->Prop
def wU (X:Cx)(d:km (ke×Obj))(f:St)(g:kc)(R:It->Hp->Prop)(a:kj)(e:ki):Prop:=
 ∃(it:ke) (fp:km ke) (tn:Nat->Wf->Prop) (J:It) (c:Hp),a= .ref it/\Inv X d f c e/\MB X.prog X.w X.K g J fp it tn/\tn 0 e.heap/\(∀b∈fp,GJ X d c b)/\R J c
def PI (X:Cx)(c iter:kc)(d:TI):Prop:=
 ∀(b:km (ke×Obj)) (s:ki) (a:St) (H:Hp) (R:It->Hp->Prop),Inv X b a H s->d a H R->
  wpAny (model X.prog X.w) X.A (eval iter X.env) (λv e=>wpAny (model X.prog X.w) X.A (pyIter v) (wU X b a c R) X.xe e) X.xe s
def bU {M:Model}{A:Tb}{E:kj->ki->Prop}{s:ki}{a:kc}{it:ke}{u:kj}{o:Obj}{n:String}{vs:Array kj}{Q:Unit->ki->Prop}(b:s.heap.get? it=some o)(hc:o.cls= .type n)(hd:o.data= .fields vs)(c: ["enumerate","zip","dict_itemiterator","dict_reverseitemiterator","odict_iterator","itertools.zip_longest","itertools.pairwise"].contains n=false)(hQ:Q () s):wpAny M A (letOwnedTupleGo a (.ref it) u) Q E s:=by
 unfold letOwnedTupleGo;cases a <;> first
  | exact AAE hQ
  | (cases u <;> first
      | exact AAE hQ
      | (refine AAA (wpAny_load b ?_)
         rw[hc,hd];show wpAny M A (if (["enumerate","zip","dict_itemiterator","dict_reverseitemiterator","odict_iterator","itertools.zip_longest","itertools.pairwise"].contains n&&vs[0]?==some (rawInt _))=true then _ else _) Q E s;rw[AAC (by intro h;rw[c,Bool.false_and] at h;cases h)];exact AAE hQ))
def tJ (K:AAB)(a:ke):It:=
 ⟨λi H=>∃xs x,FJ K H a xs/\xs[i]? =some x,λi H x b=>b=H/\∀xs,FJ K H a xs->xs[i]? =some x,λi H=>∃xs,FJ K H a xs/\xs.length<=i⟩
def tK (K:AAB)(a:ke):It:=
 ⟨λi H=>∃xs x,KJ K H a xs/\xs[i]? =some x,λi H x b=>b=H/\∀xs,KJ K H a xs->xs[i]? =some x,λi H=>∃xs,KJ K H a xs/\xs.length<=i⟩
def oj (lo:Int)(n:Nat):It:=⟨λi _=>i<n,λi H x a=>a=H/\x= .int (lo+i),λi _=>n<=i⟩
def Zw {P:fm}{w:fe}{K:AAB}{C:kc}(a it:ke):MB P w K C (tJ K a) [it] it (λi h=>h.IsListIter it a i) where
 mem:=by simp
 obj:=λi h st b hb=>by
  have e:b=it:=by simpa using hb
  subst e;obtain⟨o,e,c,d⟩:=st;exact⟨o,e,λv z=>by rw[d] at z;cases z⟩
 keep:=λi h h' st k=>st.at λo e=>k it (by simp) o e
 item:=by intro X j hw l hc i A s B H E I g st m;subst j hw l;obtain⟨xs,x,hq,hx⟩:=m;obtain⟨n,rv,p,hz⟩:=I.list hq;obtain⟨u,hu,D⟩:=rv.get hx;obtain⟨f0,f1,F,r,t,y⟩:=g it (by simp);refine wpAny_pyNext_list_item st p.isList (x:=u) (by simpa using hu) λh' f G=> ?_;have J:Inv X A B H {s with heap:=h'}:=I.turned (t':=s.toks) (λb o hb e=>(G.2 b hb).trans e) f0 f1 r t y;obtain⟨o,e,c,d⟩:=id f;exact⟨u,rfl,bU (s:={s with heap:=h'}) e c d (by decide) ⟨x,H,J,D,⟨rfl,λys hy=>by rw[I.list_inj hy hq];exact hx⟩,f,λb hb=>(g b hb).1⟩⟩
 done:=by intro X j hw l hc i A s B H E I g st m;subst j hw l;obtain⟨xs,hq,hx⟩:=m;obtain⟨n,rv,p,hz⟩:=I.list hq;obtain⟨f0,f1,F,r,t,y⟩:=g it (by simp);have hl:=rv.length;exact wpAny_pyNext_list_end (I.ok.hd hc) st p.isList (by simp;omega) λh' L=>⟨rfl,I.turned (t':=s.toks) (λb o hb e=>L b o hb e) f0 f1 r t y⟩
 self:=λ_ _ _ _ _ st h=>wpAny_pyIter_listiter st h
def Wv {P:fm}{w:fe}{K:AAB}{C:kc}(a it:ke):MB P w K C (tK K a) [it] it (λi h=>h.IsTupleIter it a i) where
 mem:=by simp
 obj:=λi h st b hb=>by
  have e:b=it:=by simpa using hb
  subst e;obtain⟨o,e,c,d⟩:=st;exact⟨o,e,λv z=>by rw[d] at z;cases z⟩
 keep:=λi h h' st k=>st.at λo e=>k it (by simp) o e
 item:=by intro X l hw m hc i A s B H E I j st n;subst l hw m;obtain⟨xs,x,hq,hx⟩:=n;obtain⟨f,rv,p,hz⟩:=I.tuple hq;obtain⟨u,hu,D⟩:=rv.get hx;obtain⟨f0,f1,F,r,t,y⟩:=j it (by simp);refine wpAny_pyNext_tuple_item st (show s.heap.IsTuple a f.toArray from p) (x:=u) (by simpa using hu) λh' g G=> ?_;have J:Inv X A B H {s with heap:=h'}:=I.turned (t':=s.toks) (λb o hb e=>(G.2 b hb).trans e) f0 f1 r t y;obtain⟨o,e,c,d⟩:=id g;exact⟨u,rfl,bU (s:={s with heap:=h'}) e c d (by decide) ⟨x,H,J,D,⟨rfl,λys hy=>by rw[I.tuple_inj hy hq];exact hx⟩,g,λb hb=>(j b hb).1⟩⟩
 done:=by intro X l hw m hc i A s B H E I j st n;subst l hw m;obtain⟨xs,hq,hx⟩:=n;obtain⟨f,rv,p,hz⟩:=I.tuple hq;obtain⟨f0,f1,F,r,t,y⟩:=j it (by simp);have hl:=rv.length;exact wpAny_pyNext_tuple_end (I.ok.hd hc) st (show s.heap.IsTuple a f.toArray from p) (by simp;omega) λh' L=>⟨rfl,I.turned (t':=s.toks) (λb o hb e=>L b o hb e) f0 f1 r t y⟩
 self:=λ_ _ _ _ _ st h=>wpAny_pyIter_tupleiter st h
def Wu {P:fm}{w:fe}{K:AAB}{x:kc}(it:ke)(lo:Int)(n:Nat):MB P w K x (oj lo n) [it] it (λi h=>IsRangeIter h it (lo+(i:Nat)*1) ((n:Int)-(i:Nat)) 1) where
 mem:=by simp
 obj:=λi h st b hb=>by
  have e:b=it:=by simpa using hb
  subst e;exact⟨_,st,λv z=>by
   have y:Data.fields _=Data.cell v:=z;cases y⟩
 keep:=λi h h' st k=>k it (by simp) _ st
 item:=by intro X d hw f hc i p s r H E I c st g;subst d hw f;obtain⟨f0,f1,A,j,l,m⟩:=c it (by simp);have W:=Walks.range (prog:=X.prog) (w:=X.w) (I.ok.hd hc) it lo 1 n;refine W.item i s _ _ g st λv h' u hv a B=> ?_;obtain⟨t,rfl⟩:=hv;have C:Inv X p r H {s with heap:=h',toks:=u}:=I.turned (λb o hb e=>B b o (by simpa using hb) e) f0 f1 j l m;refine⟨_,rfl,bU (s:={s with heap:=h',toks:=u}) (n:="range_iterator") a rfl rfl (by decide) ⟨.int (lo+i),H,C,⟨t, ?_⟩,⟨rfl,rfl⟩,a,λb hb=>(c b hb).1⟩⟩;rw[Int.mul_one]
 done:=by intro X d hw f hc i p s r H E I c st g;subst d hw f;obtain⟨f0,f1,A,j,l,m⟩:=c it (by simp);exact wpAny_pyNext_range_end (I.ok.hd hc) st (by have:n<=i:=g;omega) λh' D=>⟨rfl,I.turned (t':=s.toks) (λb o hb e=>D b o hb e) f0 f1 j l m⟩
 self:=λ_ _ _ _ _ st h=>wpAny_pyIter_rangeiter st h
section
variable {X:Cx}{tg:kc}
def UU {a:km (ke×Obj)}{c:St}{H:Hp}{s:ki}{R:It->Hp->Prop}{E:kj->ki->Prop}{lo hi:Int}{t u v:Tok}{d:Nat}(I:Inv X a c H s)(h1: -(2^62)<=lo)(h2:lo<2^62)(h3: -(2^62)<=hi)(g:hi<2^62)(q:R (oj lo (hi-lo).toNat) H):wpAny (model X.prog X.w) X.A (pyIter (.ref s.heap.objs.size)) (wU X a c tg R) E {s with heap:=s.heap.push {cls:= .type "range",data:= .fields #[.int lo t, .int hi u, .int 1 v] },toks:=d}:=by
 refine wpAny_pyIter_range (IsRange.new ..) (small_one h1 h2 h3 g) ?_;have f:Inv X a c H {s with heap:=s.heap.push {cls:= .type "range",data:= .fields #[.int lo t, .int hi u, .int 1 v] },toks:=d}:=I.kept λb o e=>AAH _ e;refine⟨(s.heap.push {cls:= .type "range",data:= .fields #[.int lo t, .int hi u, .int 1 v] }).objs.size, [(s.heap.push {cls:= .type "range",data:= .fields #[.int lo t, .int hi u, .int 1 v] }).objs.size],_,_,H,rfl,
  f.kept (t':=d) λb o e=>AAH _ e,Wu _ lo (hi-lo).toNat, ?_,λb hb=> ?_,q⟩
 .have h:lo+((0:Nat):Int)*1=lo:=by simp
  have i:(((hi-lo).toNat:Nat):Int)-((0:Nat):Int)=Builtin.Range.rangeSize lo hi 1:=by rw[rangeSize_one];split <;> omega
  show IsRangeIter _ _ (lo+((0:Nat):Int)*1) ((((hi-lo).toNat:Nat):Int)-((0:Nat):Int)) 1;rw[h,i];exact AAQ _ rfl
 .have e:b=(s.heap.push {cls:= .type "range",data:= .fields #[.int lo t, .int hi u, .int 1 v] }).objs.size:=by simpa using hb
  subst e;exact f.fpOk (AAJ _) (f.hok.fresh (AAJ _))
def pY (a:TA):TI:=λb H R=>a b H λvs H1=>∃j:Int,vs= [.int j] /\ -(2^62)<=j/\j<2^62/\R (oj 0 j.toNat) H1
def pZ (a:TA):TI:=λb H R=>a b H λvs H1=>∃i j:Int,vs= [.int i, .int j] /\(-(2^62)<=i/\i<2^62/\ -(2^62)<=j/\j<2^62)/\R (oj i (j-i).toNat) H1
def Zd {a:kc}{c:TA}{p pos:Pos}(d:Gl X "range")(f:X.mg "range" =none)(ha:PA X [a] c)(hs:starEach [a] X.env= [(false,eval a X.env)] :=by rfl):PI X tg (.Call (.Name "range" p) [a] [] pos) (pY c):=by
 intro g s i H R I h;refine Call_ (HI I d f boot_range (ACP (Bc (ha pos g s i H _ I h) λo u ⟨vs,H1,k,l,b⟩=> ?_) hs rfl));obtain⟨j,e,b,m,q⟩:=b;subst e;cases l with
 | cons r n=> cases n;obtain⟨t,rfl⟩:=r;exact call_range_1 (UU k (by omega) (by omega) b m (by simpa using q))
def Ze {a b:kc}{f:TA}{p pos:Pos}(k:Gl X "range")(l:X.mg "range" =none)(ha:PA X [a,b] f)(hs:starEach [a,b] X.env= [(false,eval a X.env),(false,eval b X.env)] :=by rfl)(g:starEach [b] X.env= [(false,eval b X.env)] :=by rfl):PI X tg (.Call (.Name "range" p) [a,b] [] pos) (pZ f):=by
 intro m s n H R I h;refine Call_ (HI I k l boot_range (ACP (Bc (ha pos m s n H _ I h) λz A ⟨vs,H1,o,u,c⟩=> ?_) (by rw[hs,g]) (by rw[g];rfl)));obtain⟨i,j,e,⟨c,v,w,x⟩,q⟩:=c;subst e;cases u with
 | cons r d=>
   cases d with
   | cons y d=> cases d;obtain⟨t,rfl⟩:=r;obtain⟨t',rfl⟩:=y;exact call_range_2 (UU o c v w x q)
def nS (e:TI)(g:TG)(f:TS):TS:=λD a H=>e a H λJ H1=>∃W:Nat->Nat->St->Hp->Prop,(∃m,W 0 m a H1)/\∀i m a H,W i m a H->
 (J.stop i H/\D.nx a H)\/(J.go i H/\∃N:St->Hp->Prop,(∀σ' b,N σ' b->∃d,d<m/\W (i+1) d σ' b)/\∀x b,J.yld i H x b->g x a b λc h=>f {D with nx:=N,ct:=N,bk:=D.nx} c h)
def LD (fp:km ke)(h:Wf):km (ke×Obj):=fp.filterMap λb=>(h.get? b).map λo=>(b,o)
def EB {fp:km ke}{h:Wf}{b:ke}{o:Obj}(hb:b∈fp)(e:h.get? b=some o):(b,o)∈LD fp h:=List.mem_filterMap.mpr ⟨b,hb,by rw[e];rfl⟩
def ZN {fp:km ke}{h:Wf}{p:ke×Obj}(hp:p∈LD fp h):p.1∈fp/\h.get? p.1=some p.2:=by
 obtain⟨b,hb,e⟩:=List.mem_filterMap.mp hp;cases q:h.get? b with
 | none=>rw[q] at e;cases e
 | some o=> rw[q] at e;have a:(b,o)=p:=AAV e;subst a;exact⟨hb,q⟩
def Inv.pinned {a:km (ke×Obj)}{c:St}{H:Hp}{s:ki}{fp:km ke}(I:Inv X a c H s)(g:∀b∈fp,GJ X a H b)(h:∀b∈fp,∃o,s.heap.get? b=some o/\∀v,o.data≠ .cell v):Inv X (a++LD fp s.heap) c H s:=
 I.pins_of λp hp=>(AAL.mp hp).elim (λz=>I.pin p (AAm _ z)) λz=>by obtain⟨hb,e⟩:=ZN z;obtain⟨f0,f1,i,_⟩:=g p.1 hb;obtain⟨o,f,d⟩:=h p.1 hb;rw[e] at f;cases f;exact⟨e,f0,f1,i,d⟩
def Inv.unpinned {a c:km (ke×Obj)}{b:St}{H:Hp}{s:ki}(I:Inv X (a++c) b H s):Inv X a b H s:=I.pins_of λp hp=>I.pin p (AAm _ (List.mem_append_left _ hp))
def WK {iter:kc}{body:km Stmt}{Q:TI}{g:TG}{R:TS}{pos:Pos}(hp:PassesOwn (model X.prog X.w) X.A X.env X.xe)(hc:X.calm=true)(hi:PI X tg iter Q)(hg:PG X tg g)(hb:TJ X body R)(hs:∀x,foldedSetIterable iter X.env x=pure x:=by intro _;rfl):PS X (.For tg iter body [] pos) (nS Q g R):=by
 intro y s S H D I h;refine wpAny_For (Bc (hi y s S H _ I h) λv s1 h1=>Bc h1 λitv s2 h2=> ?_) hs;obtain⟨it,fp,tn,J,H2,e,I2,T,G,U,W,⟨m0,w0⟩,turn⟩:=h2;subst e;have c:∀{p:Hp},(∀b∈fp,p b=none)->∀b∈fp,GJ X y p b:=λhn b hb=>⟨hn b hb,(U b hb).2⟩;refine codeAny_forLoop_any (λn Y=>∃i σ' p,Inv X y σ' p Y/\tn i Y.heap/\(∀b∈fp,p b=none)/\W i n σ' p) ?_ m0 ⟨0,S,H2,I2,G,λb hb=>(U b hb).1,w0⟩;rintro n Z ⟨i,j,F,I3,B,C,w3⟩;rcases turn i n j F w3 with⟨stop,qn⟩|⟨go,N,hN,step⟩
 .refine ACA hp (Bc (T.done X rfl rfl rfl hc i y Z j F X.xe I3 (c C) B stop) λr s4 ⟨K,I4⟩=> ?_);subst K;exact ADI ⟨j,F,I4,qn⟩
 .refine ACA hp (Bc (T.item X rfl rfl rfl hc i y Z j F X.xe I3 (c C) B go) λr s4 ⟨u,K,h4⟩=> ?_);subst K;refine ACA hp (Bc h4 λ_ s5 ⟨x,H5,I5,r5,y5,z,L⟩=> ?_);have M:=I5.pinned (c L) (T.obj _ _ z);refine ACA hp (Bc (hg _ s5 j H5 x u _ M r5 (step x H5 y5)) λ_ s6 ⟨O,H6,I6,q6⟩=> ?_);refine ACA hp (Bc (hb _ s6 O H6 _ I6 q6) λf P t=> ?_);have again:∀{a:St} {k:Hp},Inv X (y++LD fp s5.heap) a k P->N a k->∃m,m<n/\∃i σ' p,Inv X y σ' p P/\tn i P.heap/\(∀b∈fp,p b=none)/\W i m σ' p:=λ{a k} l E=>by obtain⟨m',hm,w7⟩:=hN a k E;refine⟨m',hm,i+1,a,k,l.unpinned,T.keep _ _ _ z λb hb o e=>(l.pin (b,o) (AAm _ (AAm _ (EB hb e)))).1,λb hb=> ?_,w7⟩;obtain⟨o,e,d⟩:=T.obj _ _ z b hb;exact(l.pin (b,o) (AAm _ (AAm _ (EB hb e)))).2.1
  cases f with
  | next=>obtain⟨a,k,l,E⟩:=t;exact again l E
  | cont=>obtain⟨a,k,l,E⟩:=t;exact again l E
  | brk=>obtain⟨a,k,l,t⟩:=t;exact⟨a,k,l.unpinned,t⟩
  | ret v=>obtain⟨x7,a,k,l,r7,t⟩:=t;exact⟨x7,a,k,l.unpinned,r7,t⟩
end
abbrev R2:=V->V->Hp->VK->Prop
def D9 (X:Cx)(f:kj->kj->Sem kj)(r:R2):Prop:=
 ∀(a:km (ke×Obj)) (s:ki) (b:St) (H:Hp) (x y:V) (v u:kj) (Q:VK),Inv X a b H s->RelV x v->RelV y u->r x y H Q->
  wpAny (model X.prog X.w) X.A (f v u) (EP X a b Q) X.xe s
def tQ (X:Cx)(f:kj->Sem kj)(r:V->Hp->VK->Prop):Prop:=
 ∀(a:km (ke×Obj)) (s:ki) (b:St) (H:Hp) (x:V) (v:kj) (Q:VK),Inv X a b H s->RelV x v->r x H Q->
  wpAny (model X.prog X.w) X.A (f v) (EP X a b Q) X.xe s
def Cg (X:Cx)(f:kj)(r:km V->Hp->VK->Prop):Prop:=
 ∀(a:km (ke×Obj)) (s:ki) (b:St) (H:Hp) (xs:km V) (c:km kj) (Q:VK),Inv X a b H s->Ax xs c->r xs H Q->
  wpAny (model X.prog X.w) X.A (call f c) (EP X a b Q) X.xe s
def tP (X:Cx)(r:V->Hp->(gn->Hp->Prop)->Prop):Prop:=
 ∀(a:km (ke×Obj)) (s:ki) (b:St) (H:Hp) (x:V) (v:kj) (Q:gn->Hp->Prop),Inv X a b H s->RelV x v->r x H Q->
  wpAny (model X.prog X.w) X.A (truthy v) (TP X a b Q) X.xe s
def Zt (r:R2)(b c:TE):TE:=λa H Q=>b a H λx H1=>c a H1 λy d=>r x y d Q
def tUn (r:V->Hp->VK->Prop)(a:TE):TE:=λb H Q=>a b H λx H1=>r x H1 Q
def rI (C:Int->Int->Prop)(g:Int->Int->V):R2:=λx y H Q=>∃i j,x= .int i/\y= .int j/\C i j/\Q (g i j) H
def Mi (g:Int->Int->V):R2:=λx y H Q=>∃i j,x= .int i/\y= .int j/\Q (g i j) H
def rU (g:Int->V):V->Hp->VK->Prop:=λx H Q=>∃i,x= .int i/\Q (g i) H
section
variable {X:Cx}{a b c:kc}{ta tb tc:TE}{pos:Pos}
def kO (ha:PE X a ta)(hb:PE X b tb){j:km (ke×Obj)}{s:ki}{d:St}{H:Hp}{R:V->V->Hp->Prop}(I:Inv X j d H s)(h:ta d H λx H1=>tb d H1 λy e=>R x y e){Q:kj->ki->Prop}{f:kj->kj->Sem kj}(l:∀v u k x y e,Inv X j d e k->RelV x v->RelV y u->R x y e->wpAny (model X.prog X.w) X.A (f v u) Q X.xe k):wpAny (model X.prog X.w) X.A (eval a X.env) (λv g=>wpAny (model X.prog X.w) X.A (eval b X.env) (λu i=>wpAny (model X.prog X.w) X.A (f v u) Q X.xe i) X.xe g) X.xe s:=by refine Bc (ha j s d H _ I h) λv m ⟨x,H1,n,o,p⟩=> ?_;refine Bc (hb j m d H1 _ n p) λu k ⟨y,e,r,t,z⟩=> ?_;exact l v u k x y e r o t z
def B3 {op:Operator}{r:R2}(d:D9 X (binaryOp op) r)(ha:PE X a ta)(hb:PE X b tb):PE X (.BinOp a op b pos) (Zt r ta tb):=by intro e s f H Q I h;exact wpAny_BinOp (kO ha hb I h λv u g x y i j k l q=>d e g f i x y v u Q j k l q)
def qT {op:UnaryOp}{r:V->Hp->VK->Prop}(f:tQ X (unaryOp op) r)(ha:PE X a ta):PE X (.UnaryOp op a pos) (tUn r ta):=by intro d s e H Q I h;exact UnaryOp_ (Bc (ha d s e H _ I h) λv g ⟨x,H1,i,j,k⟩=>f d g e H1 x v Q i j k)
def l7 {f:kj->kj->Sem kj}{C:Int->Int->Prop}{g:Int->Int->Int}(rule:∀(i j:Int) (t u:Tok) (s:ki) (Q:kj->ki->Prop) (E:kj->ki->Prop),C i j->Q (.int (g i j) s.toks) {s with toks:=s.toks+1}->wpAny (model X.prog X.w) X.A (f (.int i t) (.int j u)) Q E s):D9 X f (rI C λi j=> .int (g i j)):=by intro k s l H x y v u Q I d e h;obtain⟨i,j,rfl,rfl,hc,q⟩:=h;obtain⟨t,rfl⟩:=d;obtain⟨t',rfl⟩:=e;exact rule i j t t' s _ _ hc ⟨.int (g i j),H,I.tok _,⟨_,rfl⟩,q⟩
def qL {f:kj->kj->Sem kj}{g:Int->Int->Int}(rule:∀(i j:Int) (t u:Tok) (s:ki) (Q:kj->ki->Prop) (E:kj->ki->Prop),Q (.int (g i j) s.toks) {s with toks:=s.toks+1}->wpAny (model X.prog X.w) X.A (f (.int i t) (.int j u)) Q E s):D9 X f (Mi λi j=> .int (g i j)):=by intro k s l H x y v u Q I d e h;obtain⟨i,j,rfl,rfl,q⟩:=h;obtain⟨t,rfl⟩:=d;obtain⟨t',rfl⟩:=e;exact rule i j t t' s _ _ ⟨.int (g i j),H,I.tok _,⟨_,rfl⟩,q⟩
def hI {f:kj->kj->Sem kj}{g:Int->Int->gn}(rule:∀(i j:Int) (t u:Tok) (s:ki) (Q:kj->ki->Prop) (E:kj->ki->Prop),Q (.bool (g i j)) s->wpAny (model X.prog X.w) X.A (f (.int i t) (.int j u)) Q E s):D9 X f (Mi λi j=> .bl (g i j)):=by intro k s l H x y v u Q I d e h;obtain⟨i,j,rfl,rfl,q⟩:=h;obtain⟨t,rfl⟩:=d;obtain⟨t',rfl⟩:=e;exact rule i j t t' s _ _ ⟨.bl (g i j),H,I,rfl,q⟩
def sn (i j:Int):Prop:=0<=j/\j<=1000000/\i.natAbs<2^64
def ND (i j:Int):Prop:=(-(2^64)<i/\i<2^64)\/(-(2^64)<j/\j<2^64)
def ND.ok {i j:Int}(h:ND i j):IntMulOk i j:=by
 rcases h with⟨h1,h2⟩|⟨h1,h2⟩
 .exact .of_left (intBits_le_64 h1 h2)
 .exact .of_right (intBits_le_64 h1 h2)
def HL:D9 X (binaryOp .Add) (Mi λi j=> .int (i+j)):=qL λ_ _ _ _ _ _ _ q=>add_int q
def WF:D9 X (binaryOp .Sub) (Mi λi j=> .int (i-j)):=qL λ_ _ _ _ _ _ _ q=>sub_int q
def GQ:D9 X (binaryOp .Mod) (rI (λ_ j=>0<j) λi j=> .int (i % j)):=l7 λi j _ _ _ _ _ hc q=>by have h1:(0:Int)<j:=hc;exact mod_int' (by omega) (by rw[AD6 i (by omega)];exact q)
def hU:D9 X (binaryOp .Mod) (rI (λ_ j=>j≠0) λi j=> .int (i.fmod j)):=l7 λ_ _ _ _ _ _ _ hc q=>mod_int' hc q
def mF:D9 X (binaryOp .Pow) (rI sn λi j=> .int (i^j.toNat)):=l7 λ_ _ _ _ _ _ _ hc q=>pow_int_small hc.1 hc.2.1 hc.2.2 q
def unI {f:kj->Sem kj}{g:Int->Int}(rule:∀(i:Int) (t:Tok) (s:ki) (Q:kj->ki->Prop) (E:kj->ki->Prop),Q (.int (g i) s.toks) {s with toks:=s.toks+1}->wpAny (model X.prog X.w) X.A (f (.int i t)) Q E s):tQ X f (rU λi=> .int (g i)):=by intro e s j H x v Q I d h;obtain⟨i,rfl,q⟩:=h;obtain⟨t,rfl⟩:=d;exact rule i t s _ _ ⟨.int (g i),H,I.tok _,⟨_,rfl⟩,q⟩
def ng:tQ X (unaryOp .USub) (rU λi=> .int (-i)):=unI λ_ _ _ _ _ q=>neg_int q
end
def nD:V->V->gn
 | .non, .non=>true | .non, .int _=>true | .int _, .non=>true | .non, .bl _=>true | .bl _, .non=>true | .non, .str _=>true | .str _, .non=>true
 | .int _, .int _=>true | .bl _, .bl _=>true | .str _, .str _=>true | .byt _, .byt _=>true
 | .int _, .str _=>true | .str _, .int _=>true | .bl _, .str _=>true | .str _, .bl _=>true
 | _,_=>false
def xP:R2:=λx y H Q=>nD x y=true/\Q (.bl (decide (x=y))) H
def xQ:R2:=λx y H Q=>nD x y=true/\Q (.bl (!decide (x=y))) H
def XO {i j:Int}:decide (V.int i=V.int j)=(i==j):=by rw[ABm];simp
def bA {i j:gn}:decide (V.bl i=V.bl j)=(i==j):=by rw[ABm];simp
def XQ {i j:Str}:decide (V.str i=V.str j)=(i==j):=by rw[ABm];simp
def XN {i j:Array UInt8}:decide (V.byt i=V.byt j)=(i.toList==j.toList):=by rw[ABm];cases i;cases j;simp
section
variable {X:Cx}{a b c:kc}{ta tb tc:TE}{pos:Pos}
def BM {d:km (ke×Obj)}{f:St}{H:Hp}{s:ki}{Q:VK}{k g:gn}(I:Inv X d f H s)(q:Q (.bl k) H)(e:k=g):EP X d f Q (.bool g) s:=by subst e;exact⟨.bl k,H,I,rfl,q⟩
def qM:D9 X (compareOp .Eq) xP:=by
 intro f s g H x y v u Q I e d h;obtain⟨hs,q⟩:=h;cases x with
 | non=>
   cases e;cases y with
   | non=>cases d;exact PySem.EqNone.eq_none_none (BM I q (by simp))
   | bl j=>cases d;exact PySem.EqNone.eq_none_bool (BM I q (by simp))
   | int j=>obtain⟨t',rfl⟩:=d;exact PySem.EqNone.eq_none_int (BM I q (by simp))
   | str j=>obtain⟨t',rfl⟩:=d;exact PySem.EqNone.eq_none_str (BM I q (by simp))
   | _=>exact absurd (show false=true from hs) AAO
 | bl i=>
   cases e;cases y with
   | non=>cases d;exact PySem.EqNone.eq_bool_none (BM I q (by simp))
   | bl j=>cases d;exact eq_bool (BM I q bA)
   | str j=>obtain⟨t',rfl⟩:=d;exact PySem.EqMixed.eq_bool_str (BM I q (by simp))
   | _=>exact absurd (show false=true from hs) AAO
 | int i=>
   obtain⟨t,rfl⟩:=e;cases y with
   | non=>cases d;exact PySem.EqNone.eq_int_none (BM I q (by simp))
   | int j=>obtain⟨t',rfl⟩:=d;exact eq_int (BM I q XO)
   | str j=>obtain⟨t',rfl⟩:=d;exact PySem.EqMixed.eq_int_str (BM I q (by simp))
   | _=>exact absurd (show false=true from hs) AAO
 | str i=>
   obtain⟨t,rfl⟩:=e;cases y with
   | non=>cases d;exact PySem.EqNone.eq_str_none (BM I q (by simp))
   | bl j=>cases d;exact PySem.EqMixed.eq_str_bool (BM I q (by simp))
   | int j=>obtain⟨t',rfl⟩:=d;exact PySem.EqMixed.eq_str_int (BM I q (by simp))
   | str j=>obtain⟨t',rfl⟩:=d;exact eq_str (BM I q XQ)
   | _=>exact absurd (show false=true from hs) AAO
 | byt i=>
   obtain⟨t,rfl⟩:=e;cases y with
   | byt j=>obtain⟨t',rfl⟩:=d;exact PySem.W.eq_bytes (BM I q XN)
   | _=>exact absurd (show false=true from hs) AAO
 | _=>cases y <;> exact absurd (show false=true from hs) AAO
def qO:D9 X (compareOp .NotEq) xQ:=by
 intro f s g H x y v u Q I e d h;obtain⟨hs,q⟩:=h;cases x with
 | non=>
   cases e;cases y with
   | non=>cases d;exact PySem.EqNone.ne_none_none (BM I q (by simp))
   | bl j=>cases d;exact PySem.EqNone.ne_none_bool (BM I q (by simp))
   | int j=>obtain⟨t',rfl⟩:=d;exact PySem.EqNone.ne_none_int (BM I q (by simp))
   | str j=>obtain⟨t',rfl⟩:=d;exact PySem.EqNone.ne_none_str (BM I q (by simp))
   | _=>exact absurd (show false=true from hs) AAO
 | bl i=>
   cases e;cases y with
   | non=>cases d;exact PySem.EqNone.ne_bool_none (BM I q (by simp))
   | bl j=>cases d;exact ne_bool (BM I q (congrArg not bA))
   | str j=>obtain⟨t',rfl⟩:=d;exact PySem.EqMixed.ne_bool_str (BM I q (by simp))
   | _=>exact absurd (show false=true from hs) AAO
 | int i=>
   obtain⟨t,rfl⟩:=e;cases y with
   | non=>cases d;exact PySem.EqNone.ne_int_none (BM I q (by simp))
   | int j=>obtain⟨t',rfl⟩:=d;exact ne_int (BM I q (congrArg not XO))
   | str j=>obtain⟨t',rfl⟩:=d;exact PySem.EqMixed.ne_int_str (BM I q (by simp))
   | _=>exact absurd (show false=true from hs) AAO
 | str i=>
   obtain⟨t,rfl⟩:=e;cases y with
   | non=>cases d;exact PySem.EqNone.ne_str_none (BM I q (by simp))
   | bl j=>cases d;exact PySem.EqMixed.ne_str_bool (BM I q (by simp))
   | int j=>obtain⟨t',rfl⟩:=d;exact PySem.EqMixed.ne_str_int (BM I q (by simp))
   | str j=>obtain⟨t',rfl⟩:=d;exact ne_str (BM I q (congrArg not XQ))
   | _=>exact absurd (show false=true from hs) AAO
 | byt i=>
   obtain⟨t,rfl⟩:=e;cases y with
   | byt j=>obtain⟨t',rfl⟩:=d;exact PySem.W.ne_bytes (BM I q (congrArg not XN))
   | _=>exact absurd (show false=true from hs) AAO
 | _=>cases y <;> exact absurd (show false=true from hs) AAO
def jd:D9 X (compareOp .Lt) (Mi λi j=> .bl (decide (i<j))):=hI λ_ _ _ _ _ _ _ q=>lt_int q
def qN:D9 X (compareOp .LtE) (Mi λi j=> .bl (decide (i<=j))):=hI λ_ _ _ _ _ _ _ q=>le_int q
def jc:D9 X (compareOp .Gt) (Mi λi j=> .bl (decide (j<i))):=hI λ_ _ _ _ _ _ _ q=>gt_int q
def jb:D9 X (compareOp .GtE) (Mi λi j=> .bl (decide (j<=i))):=hI λ_ _ _ _ _ _ _ q=>ge_int q
def mC:D9 X (compareOp .Is) (λx y H Q=>y= .non/\Q (.bl (decide (x= .non))) H):=by
 intro f s g H x y v u Q I d e h;obtain⟨rfl,q⟩:=h;cases e;refine is_none_gen (BM I q ?_);cases x <;> first
  | (cases d;rfl)
  | (obtain⟨t,rfl⟩:=d;rfl)
def Xv:D9 X (compareOp .IsNot) (λx y H Q=>y= .non/\Q (.bl (!decide (x= .non))) H):=by
 intro f s g H x y v u Q I d e h;obtain⟨rfl,q⟩:=h;cases e;refine isnot_none_gen (BM I q ?_);cases x <;> first
  | (cases d;rfl)
  | (obtain⟨t,rfl⟩:=d;rfl)
def D9.or {f:kj->kj->Sem kj}{r d:R2}(h:D9 X f r)(h':D9 X f d):D9 X f (λx y H Q=>r x y H Q\/d x y H Q):=by
 intro e s g H x y v u Q I i j q;rcases q with q|q
 .exact h e s g H x y v u Q I i j q
 .exact h' e s g H x y v u Q I i j q
def CP (b:kc){op:CmpOp}(h:op≠ .In:=by decide)(h2:op≠ .NotIn:=by decide):behindInMarks op b=false:=by
 have d:(op==CmpOp.In)=false:=by cases op <;> first | rfl|exact absurd rfl h
 have e:(op==CmpOp.NotIn)=false:=by cases op <;> first | rfl|exact absurd rfl h2
 cases b <;> simp[behindInMarks,d,e]
def Xx {op:CmpOp}{r:R2}(d:D9 X (compareOp op) r)(ha:PE X a ta)(hb:PE X b tb)(e:behindInMarks op b=false):PE X (.Compare a [op] [b] pos) (Zt r ta tb):=by intro f s g H Q I h;exact wpAny_Compare1 (kO ha hb I h λv u i x y j k l m q=>d f i g j x y v u Q k l m q) e
def eI (t:TE):TT:=λd H Q=>t d H λx e=>∃k,x= .bl k/\Q k e
def Mh {op:CmpOp}{r:R2}(g:D9 X (compareOp op) r)(ha:PE X a ta)(hb:PE X b tb)(i:behindInMarks op b=false):PT X (.Compare a [op] [b] pos) (eI (Zt r ta tb)):=by
 intro d s f H Q I h;refine wpAny_isTrue_Compare1 (Bc (ha d s f H _ I h) λv j ⟨x,H1,l,m,n⟩=>Bc (hb d j f H1 _ l n) λu o ⟨y,p,t,w,A⟩=>
  Bc (g d o f p x y v u _ t m w A) λc F ⟨z,B,C,D,k,e,E⟩=> ?_) i
 subst e;cases D;exact ABu ⟨B,C,E⟩
def o6 (K:AAB)(x:V)(H:Hp)(k:gn):Prop:=
 match x with
 | .non=>k=false
 | .bl b=>k=b
 | .int i=>k=(i != 0)
 | .str y=>y.length<=sizeLine/\k=((y.length:Int) != 0)
 | .byt y=>y.size<=sizeLine/\k=((y.size:Int) != 0)
 | .ref p=>(∃xs,FJ K H p xs/\k= !xs.isEmpty)\/(∃xs,KJ K H p xs/\k= !xs.isEmpty)\/∃kvs,H p=some (.dK kvs)/\k= !kvs.isEmpty
 | _=>False
def Vv {d:Type}{kvs:km (d×V)}{vs:km (d×kj)}(r:KV kvs vs):(!vs.isEmpty)= !kvs.isEmpty:=by cases r <;> rfl
def Nq {xs:km V}{d:km kj}(r:Ax xs d):(!d.toArray.isEmpty)= !xs.isEmpty:=by cases r <;> simp
def K4:(sizeLine:Nat)<2^63:=by rw[sizeLine_eq];decide
def nX:tP X (λx H Q=>∃k,o6 X.K x H k/\Q k H):=by
 intro o s u H x v Q I f h;obtain⟨k,e,q⟩:=h;have hl:=K4;have hs:sizeLine=16777216:=sizeLine_eq;cases x with
 | non=> cases f;have d:k=false:=e;subst d;exact truthy_none ⟨H,I,q⟩
 | bl b=> cases f;have d:k=b:=e;subst d;exact ABu ⟨H,I,q⟩
 | int i=> obtain⟨t,rfl⟩:=f;have d:k=(i != 0):=e;subst d;exact PySem.P.truthy_int ⟨H,I,q⟩
 | str y=> obtain⟨t,rfl⟩:=f;obtain⟨hy,d⟩:y.length<=sizeLine/\k=((y.length:Int) != 0):=e;subst d;exact PySem.P.truthy_str (by omega) ⟨H,I.tok _,q⟩
 | byt y=> obtain⟨t,rfl⟩:=f;obtain⟨hy,d⟩:y.size<=sizeLine/\k=((y.size:Int) != 0):=e;subst d;exact PySem.W.truthy_bytes (by omega) ⟨H,I.tok _,q⟩
 | ref p=>
   cases f;have d:(∃xs,FJ X.K H p xs/\k= !xs.isEmpty)\/(∃xs,KJ X.K H p xs/\k= !xs.isEmpty)\/∃kvs,H p=some (.dK kvs)/\k= !kvs.isEmpty:=e;rcases d with⟨xs,hx,d⟩|⟨xs,hx,d⟩|⟨kvs,hx,d⟩
   .subst d;obtain⟨g,r,j,hz⟩:=I.list hx;have l:=r.length;exact wpAny_truthy_list j.isList (by simp only[AAN];omega) ⟨H,I.tok _,by rw[Nq r];exact q⟩
   .subst d;obtain⟨g,r,j,hz⟩:=I.tuple hx;have l:=r.length;exact truthy_tuple j (by simp only[AAN];omega) ⟨H,I.tok _,by rw[Nq r];exact q⟩
   .subst d;obtain⟨hz,n,vs,r,m⟩:kvs.length<=sizeLine/\(p==sysModules)=false/\∃vs,KV kvs vs/\s.heap.DictOf (BJ X.prog X.w) p vs:=I.hok p _ hx;have l:kvs.length=vs.length:=ACN r;exact wpAny_truthy_dict n m (by omega) ⟨H,I.tok _,by rw[Vv r];exact q⟩
 | _=>exact(show False from e).elim
def dI (ha:PE X a ta)(he:∀whole,isTrue a X.env whole=(do let v <-whole;standAt a.pos;holding [v] (truthy v))):
 PT X a (λd H Q=>ta d H λx e=>∃k,o6 X.K x e k/\Q k e):=by intro f s d H Q I h;exact isTrue_plain (Bc (ha f s d H _ I h) λv g ⟨x,H1,i,j,l⟩=>nX f g d H1 x v Q i j l) (he _)
def vals1 {x:V}{d:km kj}(r:Ax [x] d):∃u,d= [u] /\RelV x u:=by
 cases r with
 | cons e f=>cases f;exact⟨_,rfl,e⟩
def vals2 {x y:V}{d:km kj}(r:Ax [x,y] d):∃u e,d= [u,e] /\RelV x u/\RelV y e:=by
 cases r with
 | cons f g=>
   cases g with
   | cons h i=>cases i;exact⟨_,_,rfl,f,h⟩
def NU:Cg X (.builtin "abs") (λxs H Q=>∃i,xs= [.int i] /\Q (.int (if i<0 then -i else i)) H):=by intro d s e H xs f Q I r h;obtain⟨i,rfl,q⟩:=h;obtain⟨u,rfl,t,rfl⟩:=vals1 r;exact call_abs_int λu g=>⟨.int (if i<0 then -i else i),H,I.tok _,⟨_,rfl⟩,q⟩
def Yn (hc:X.calm=true):Cg X (.builtin "max") (λxs H Q=>∃i j,xs= [.int i, .int j] /\Q (.int (if j>i then j else i)) H):=by
 intro d s e H xs f Q I r h;obtain⟨i,j,rfl,q⟩:=h;obtain⟨u,g,rfl,⟨t,rfl⟩,⟨t',rfl⟩⟩:=vals2 r;refine max_two_ints (I.ok.hd hc) λh' l k=>⟨_,H,I.kept k, ?_,q⟩;by_cases hj:j>i
 .rw [AAD hj,AAD hj];exact⟨_,rfl⟩
 .rw [AAC hj,AAC hj];exact⟨_,rfl⟩
def Yo (hc:X.calm=true):Cg X (.builtin "min") (λxs H Q=>∃i j,xs= [.int i, .int j] /\Q (.int (if j<i then j else i)) H):=by
 intro d s e H xs f Q I r h;obtain⟨i,j,rfl,q⟩:=h;obtain⟨u,g,rfl,⟨t,rfl⟩,⟨t',rfl⟩⟩:=vals2 r;refine min_two_ints (I.ok.hd hc) λh' l k=>⟨_,H,I.kept k, ?_,q⟩;by_cases hj:j<i
 .rw [AAD hj,AAD hj];exact⟨_,rfl⟩
 .rw [AAC hj,AAC hj];exact⟨_,rfl⟩
def P2:Cg X (.type "int") (λxs H Q=>(∃i,xs= [.int i] /\Q (.int i) H)\/∃k,xs= [.bl k] /\Q (.int (if k then 1 else 0)) H):=by
 intro e s f H xs g Q I r h;rcases h with⟨i,rfl,q⟩|⟨k,rfl,q⟩
 .obtain ⟨u,rfl,t,rfl⟩:=vals1 r;exact call_int_int ⟨.int i,H,I,⟨_,rfl⟩,q⟩
 .obtain ⟨u,rfl,d⟩:=vals1 r;cases d;exact call_int_bool ⟨.int (if k then 1 else 0),H,I.tok _,⟨_,rfl⟩,q⟩
end
structure zk (h:Heap) (x dx C:Addr) (mA:Str->Option Value):Prop where
 obj:h.get? x=some (PySem.W.instObj C dx)
 ns:h.Ns1 dx mA
 ne:dx≠x
def MA.some_of {v:V}{o:kd kj}(r:MA (some v) o):∃u,o=some u/\RelV v u:=by
 cases o with
 | none=>exact(show False from r).elim
 | some u=>exact⟨u,rfl,r⟩
structure yi (K:AAB) (C:Addr):Prop where
 pg:PySem.W.plainGet K C Str.empty=true
 hd:PySem.W.hasDictIn K C=true
 po:PySem.W.plainOver K C=true
 sa:PySem.W.findIn K (.ref C) "__setattr__" =some (some (.builtin "object.__setattr__"))
structure Con (K:AAB) (C:Addr) (f:Str) (v:V) (u:Value):Prop where
 at_:PySem.W.findIn K (.ref C) f=some (some u)
 rel:RelV v u
 get:PySem.W.specialIn K u "__get__" =some none
 cp:PySem.W.copiedNames.contains f=false
structure zh (K:AAB) (C:Addr) (m:Str) (f:Addr):Prop where
 at_:PySem.W.findIn K (.ref C) m=some (some (.ref f))
 fn:PySem.W.isFn K (.ref f)=true
 kp:PySem.W.keepIn K (.ref f)=true
section
variable {X:Cx}{Sr:km (ke×Obj)}{σ:St}{H:Hp}{s:ki}{a C dx:ke}{fs:km (Str×V)}{f:Str}{v:V}{A:Tb}{E:kj->ki->Prop}
def Inv.made (I:Inv X Sr σ H s):Inv X Sr σ (upd (upd H s.heap.objs.size (.own (s.heap.objs.size+1))) (s.heap.objs.size+1) (.ins C s.heap.objs.size [])) {s with heap:=(s.heap.push PySem.W.emptyDict).push (PySem.W.instObj C s.heap.objs.size)}:=by
 have c:(s.heap.push PySem.W.emptyDict).get? s.heap.objs.size=some PySem.W.emptyDict:=AAQ s.heap rfl;have g:((s.heap.push PySem.W.emptyDict).push (PySem.W.instObj C s.heap.objs.size)).get? (s.heap.objs.size+1)=some (PySem.W.instObj C s.heap.objs.size):=by
  have:=AAQ (s.heap.push PySem.W.emptyDict) (o:=PySem.W.instObj C s.heap.objs.size) rfl
  rwa [ABe] at this
 have h:(s.heap.push PySem.W.emptyDict).Ns s.heap.objs.size (λ_=>none):=⟨PySem.W.emptyDict, #[],_,c,rfl,(λe he=>absurd he (by simp)),λ_=>rfl⟩;have i:=I.laid (a:=s.heap.objs.size) (o:= .own (s.heap.objs.size+1)) (h':=s.heap.push PySem.W.emptyDict) (t':=s.toks) (λb u q=>AAH _ q) (AAJ _) ⟨_,c⟩;refine i.laid (a:=s.heap.objs.size+1) (o:= .ins C s.heap.objs.size []) (t':=s.toks) (λb u q=>AAH _ q) (Nat.le_of_eq (ABe _ _)) ?_;have d:s.heap.objs.size≠s.heap.objs.size+1:=AAM (Nat.lt_succ_self _);refine⟨by rw[Af d,Ab],ABS _,d,g,λ_=>none,(Heap.Ns1.of_empty h).at λo q=>AAH _ q,λ_=>True.intro,λy hy=>absurd rfl hy⟩
end
section
variable {X:Cx}{Sr:km (ke×Obj)}{σ:St}{H:Hp}{s:ki}{A:Tb}{E:kj->ki->Prop}{Q:kj->ki->Prop}{c:kj}{b:gn}
inductive NQ (K:AAB) (H:Hp):V->Value->Prop where
 | non:NQ K H .non (.type "NoneType")
 | bl (x:Bool):NQ K H (.bl x) (.type "bool")
 | int (i:Int):NQ K H (.int i) (.type "int")
 | str (x:Str):NQ K H (.str x) (.type "str")
 | flt (x:UInt64):NQ K H (.flt x) (.type "float")
 | lst {a:Addr} {xs:List V} (e:H a=some (.lst xs)):NQ K H (.ref a) (.type "list")
 | frz {a:Addr} {o:Obj} {xs:List V} (e:H a=some (.frz o (.lst xs))):NQ K H (.ref a) (.type "list")
 | tup {a:Addr} {xs:List V} (e:H a=some (.tup xs)):NQ K H (.ref a) (.type "tuple")
 | dK {a:Addr} {kvs:List (Cp×V)} (e:H a=some (.dK kvs)):NQ K H (.ref a) (.type "dict")
 | dT {a:Addr} {kvs:List (List Cp×V)} (e:H a=some (.dT kvs)):NQ K H (.ref a) (.type "dict")
 | ins {a C dx:Addr} {fs:List (Str×V)} (e:H a=some (.ins C dx fs)) (cl:yi K C) (ha:PySem.W.findIn K (.ref C) "__class__" =some (some (.builtin "object.__class__")))
    (hn:PySem.W.specialIn K (.builtin "object.__class__") "__get__" =some (some (.builtin "getset_descriptor.__get__"))) (htk:PySem.W.takesIn K (.builtin "object.__class__")=some true)
    (hm:PySem.W.mroIn K C (.type "object")=some true):NQ K H (.ref a) (.ref C)
end
structure Room (k:Nat) (A:Around):Prop where
 hd:A.handled=none
 dp:A.depth+3*k+5<recursionLimit
 un:A.units+16*k+200<cLine
 gd:A.guards=some []
def Room.mono {j k:Nat}{A:Tb}(r:Room k A)(h:j<=k):Room j A:=⟨r.hd,by have:=r.dp;omega,by have:=r.un;omega,r.gd⟩
def Room.deeper {k:Nat}{A:Tb}(r:Room (k+1) A)(env:Env):Room k (A.deeper env):=
 ⟨r.hd,by have:=r.dp;show A.depth+1+3*k+5<_;omega,by have:=r.un;show A.units+3+16*k+200<_;omega,r.gd⟩
def Room.in1 {k:Nat}{A:Tb}(r:Room (k+1) A):Room k A.in1:=
 ⟨r.hd,by have:=r.dp;show A.depth+3*k+5<_;omega,by have:=r.un;show A.units+1+16*k+200<_;omega,r.gd⟩
def V2 {A:Tb}{C:ke}{a:km kj}{b:km (Str×kj)}:(A.under (.builtin "type.__call__" ⟨.ref C::a,b⟩)).depth=A.depth+1:=by first | rfl|simp[Around.under,Code.weight,Code.isCreation,Code.isGuard,Code.isCaller,Code.frames,Code.isFrame,guardIds]
def V3 {A:Tb}{C:ke}{a:km kj}{b:km (Str×kj)}:(A.under (.builtin "type.__call__" ⟨.ref C::a,b⟩)).units=A.units+1:=by first | rfl|simp[Around.under,Code.cUnits,Code.frames,Code.isFrame]
def Room.make {k:Nat}{A:Tb}(r:Room (k+1) A)(C:ke)(a:km kj)(b:km (Str×kj)):Room k (A.under (.builtin "type.__call__" ⟨.ref C::a,b⟩)):=
 ⟨r.hd,by have:=r.dp;rw[V2];omega,by have:=r.un;rw[V3];omega,by first | exact r.gd|simpa[Around.under,pushGuards,Code.guards,Code.isGuard,guardIds] using r.gd⟩
def Room.depth {k:Nat}{A:Tb}(r:Room k A):A.depth<recursionLimit:=by have:=r.dp;omega
def Room.units {k:Nat}{A:Tb}(r:Room k A):A.units+64<cLine:=by have:=r.un;omega
def i4:TA:=λ_ H Q=>Q [] H
def Oh (b:TE)(c:TA):TA:=λa H Q=>b a H λx H1=>c a H1 λxs d=>Q (x::xs) d
section
variable {X:Cx}{e:kc}{es:km kc}{te:TE}{t:TA}{pos:Pos}
def ED:PA X [] i4:=λ_ _ _ _ H Q I h=>AD7 ⟨[],H,I, .nil,h⟩
def Bx (ha:PE X e te)(c:PA X es t)(hs:starEach (e::es) X.env=(false,eval e X.env)::starEach es X.env:=by rfl):PA X (e::es) (Oh te t):=by intro pos a s b H Q I h;rw[hs];show wpAny _ _ (spliced ((false,eval e X.env)::backTo pos (starEach es X.env))) _ _ s;refine ACm (Bc (ha a s b H _ I h) λu d ⟨x,H1,f,g,i⟩=> ?_);exact Bc (c pos a d b H1 _ f i) λn o ⟨xs,j,k,l,m⟩=>⟨x::xs,j,k, .cons g l,m⟩
def i6 (t:TA):TE:=λa H Q=>t a H λxs H1=>xs.length<=sizeLine/\∀p,H1 p=none->Q (.ref p) (upd H1 p (.tup xs))
def u8 (t:TA):TE:=λa H Q=>t a H λxs H1=>xs.length<=sizeLine/\∀p,H1 p=none->Q (.ref p) (upd H1 p (.lst xs))
def N6 {x1}(h:PA X es t):PE X (.Tuple es x1 pos) (i6 t):=by intro d s f H Q I hq;refine wpAny_Tuple_spliced (Bc (h pos d s f H _ I hq) λg a ⟨xs,H1,c,r,z,q⟩=>⟨by rw[<-r.length];exact z, ?_⟩);have i:H1 a.heap.objs.size=none:=c.hok.fresh (AAJ _);refine⟨.ref a.heap.objs.size,upd H1 a.heap.objs.size (.tup xs),c.laid (t':=a.toks) (λb u e=>AAH _ e) (AAJ _) ?_,rfl,q _ i⟩;exact⟨z,g,r,⟨_,AAQ _ rfl,rfl,_,rfl⟩⟩
def WG (h:PA X es t):PE X (.List es pos) (u8 t):=by intro d s f H Q I hq;refine wpAny_List_spliced (Bc (h pos d s f H _ I hq) λg a ⟨xs,H1,c,r,z,q⟩=>⟨by rw[<-r.length];exact z, ?_⟩);have i:H1 a.heap.objs.size=none:=c.hok.fresh (AAJ _);refine⟨.ref a.heap.objs.size,upd H1 a.heap.objs.size (.lst xs),c.laid (t':=a.toks) (λb u e=>AAH _ e) (AAJ _) ?_,rfl,q _ i⟩;exact⟨z,g,0,r,AAQ _ rfl⟩
end
abbrev Sp:=km V->Hp->VK->XK->Prop
abbrev YW:=km Env->Hp->ki->XK->kj->ki->Prop
structure O7 (P:Program) (w:World) (K:AAB) (mg:Str->Option Value) (base:Heap) (A:Around) (outer:List Env) (s:Shared) (H:Hp):Prop where
 frames:A.frames=some outer
 mod:Mod K mg base
 bs:∀b o,base.get? b=some o->s.heap.get? b=some o/\H b=none
 bsz:base.objs.size<=s.heap.objs.size
 funs:s.heap.FunFrames base outer
 frf:∀b∈Z8 outer,H b=none
 hok:Ig P w H s.heap
 bare:AllBare s.gens
def CE (outer:km Env)(P:fm)(w:fe)(H:Hp)(s:ki)(Q:VK)(u:kj)(a:ki):Prop:=
 ∃v b,a.os=s.os/\AllBare a.gens/\Un (Z8 outer) [] H b s.heap a.heap/\Ig P w b a.heap/\RelV v u/\Q v b
def CR (CX:YW)(outer:km Env)(P:fm)(w:fe)(H:Hp)(s:ki)(Q:VK)(E:XK)(r:Result)(a:ki):Prop:=
 match r with
 | .ok (.ret u)=>CE outer P w H s Q u a
 | .ok _=>False
 | .error e=>CX outer H s E e a
structure D8 (P:Program) (w:World) (K:AAB) (mg:Str->Option Value) (base:Heap) (CX:YW) (k:Nat) (f:Addr) (fd:FuncData) (ps:List Str) (sp:Sp):Prop where
 len:∀vs H Q E,sp vs H Q E->vs.length=ps.length
 run:∀(A:Around) (outer:List Env) (s:Shared) (H:Hp) (args:Args) (us:List Value) (vs:List V) (Q:VK) (E:XK),Room k A->O7 P w K mg base A outer s H->BindsTo s fd args (ps.zip us)->Ax vs us->sp vs H Q E->
  codeAny (model P w) A (.call (.ref f) args) (CR CX outer P w H s Q E) s
def D8.mono {P:fm}{w:fe}{K:AAB}{mg:Str->kd kj}{base:Wf}{CX:YW}{j k:Nat}{f:ke}{a:FuncData}{b:km Str}{sp:Sp}(F:D8 P w K mg base CX j f a b sp)(h:j<=k):D8 P w K mg base CX k f a b sp:=⟨F.len,λA outer s H args c vs Q E d=>F.run A outer s H args c vs Q E (d.mono h)⟩
def D8.imp {P:fm}{w:fe}{K:AAB}{mg:Str->kd kj}{base:Wf}{CX:YW}{k:Nat}{f:ke}{b:FuncData}{c:km Str}{sp a:Sp}(F:D8 P w K mg base CX k f b c sp)(h:∀vs H Q E,a vs H Q E->sp vs H Q E):D8 P w K mg base CX k f b c a:=
 ⟨λvs H Q E q=>F.len vs H Q E (h _ _ _ _ q),λA outer s H args d vs Q E e he hb hv hs=>F.run A outer s H args d vs Q E e he hb hv (h _ _ _ _ hs)⟩
def O7.make {P:fm}{w:fe}{K:AAB}{mg:Str->kd kj}{base:Wf}{A:Tb}{outer:km Env}{s:ki}{H:Hp}(e:O7 P w K mg base A outer s H)(C:ke)(a:km kj)(b:km (Str×kj)):O7 P w K mg base (A.under (.builtin "type.__call__" ⟨.ref C::a,b⟩)) outer s H:=⟨by first | exact e.frames|(simpa[Around.under,Code.envs,Code.isFrame,pushEnvs] using e.frames),e.mod,e.bs,e.bsz,e.funs,e.frf,e.hok,e.bare⟩
def O7.in1 {P:fm}{w:fe}{K:AAB}{mg:Str->kd kj}{base:Wf}{A:Tb}{outer:km Env}{s:ki}{H:Hp}(e:O7 P w K mg base A outer s H):O7 P w K mg base A.in1 outer s H:=⟨e.frames,e.mod,e.bs,e.bsz,e.funs,e.frf,e.hok,e.bare⟩
section
variable {X:Cx}{Sr:km (ke×Obj)}{σ:St}{H:Hp}{s s':ki}
def Inv.env0 (I:Inv X Sr σ H s):O7 X.prog X.w X.K X.mg X.base X.A X.stack s H:=
 ⟨I.ok.frames,I.ok.mod,I.bs,AAa I.ok.bsz I.sz,I.stack,I.stkFree,I.hok,I.bare⟩
def Inv.after {Q:VK}{u:kj}(I:Inv X Sr σ H s)(h:CE X.stack X.prog X.w H s Q u s'):EP X Sr σ Q u s':=by obtain⟨v,c,os,bare,un,hok,r,q⟩:=h;obtain⟨e,g,d,t,a⟩:=s';obtain rfl:a=s.os:=os;exact⟨v,c,I.call (h':=e) (g':=g) (d':=d) (t':=t) (ch:= []) un hok bare (λb z=>absurd z (by simp)),r,q⟩
end
def jo (sp:Sp)(a:km V)(E:XK)(t:TA):TE:=λb H Q=>t b H λvs H1=>sp (vs++a) H1 Q E
def Binds (K:AAB)(c:FuncData)(b:km Str)(ds:km kj):Prop:=
 ∀(s:ki) (a:km kj),K.In s.heap->(a++ds).length=b.length->BindsTo s c ⟨a, []⟩ (b.zip (a++ds))
def Binds.all {K:AAB}{c:FuncData}{b:km Str}(h:∀a:km kj,a.length=b.length->bindArgs c ⟨a, []⟩=pure (b.zip a)):Binds K c b [] :=λs a _ hl=>by rw[ADJ] at hl ⊢;exact .of_eq (h a hl)
def Passes (CX:YW)(X:Cx)(E:XK):Prop:=∀(b:km (ke×Obj)) (c:St) (H:Hp) (s:ki) (e:kj) (a:ki),Inv X b c H s->CX X.stack H s E e a->X.xe e a
section
variable {X:Cx}{CX:YW}{k:Nat}{f C:ke}{fd:FuncData}{ps:km Str}{sp:Sp}{dvs:km V}{ds:km kj}{E:XK}{x m:Str}{p pos apos:Pos}{e o:kc}{es:km kc}{ta:TE}{t:TA}
theorem mh {b:km (ke×Obj)}{c:St}{H:Hp}{s:ki}{Q:VK}{a:km kj}{vs:km V}(F:D8 X.prog X.w X.K X.mg X.base CX k f fd ps sp)(g:Room k X.A)(hb:Binds X.K fd ps ds)(hd:Ax dvs ds)(hx:Passes CX X E)(I:Inv X b c H s)(r:Ax vs a)(h:sp (vs++dvs) H Q E):wpAny (model X.prog X.w) X.A (call (.ref f) a) (EP X b c Q) X.xe s:=by
 have d:Ax (vs++dvs) (a++ds):=r.append hd;have hl:(a++ds).length=ps.length:=by rw[<-d.length];exact F.len _ _ _ _ h
 refine ACn (ACo (F.run X.A X.stack s H ⟨a, []⟩ (a++ds) (vs++dvs) Q E g I.env0 (hb s a I.kIn hl) d h) λr i hq=> ?_);cases r with
 | error e=>exact hx b c H s e i I hq
 | ok j=>
   cases j with
   | ret u=>exact I.after hq
   | next=>exact False.elim hq
   | brk=>exact False.elim hq
   | cont=>exact False.elim hq
theorem h7 (F:D8 X.prog X.w X.K X.mg X.base CX k f fd ps sp)(b:Room k X.A)(c:Gl X x)(d:X.mg x=some (.ref f))(hk:PySem.W.keepIn X.K (.ref f)=true)(hb:Binds X.K fd ps ds)(hd:Ax dvs ds)(hx:Passes CX X E)(ha:PA X (e::es) t)(hdb:(x==("__debug__" :Str))=false:=by decide)(he:starEach (e::es) X.env=(false,eval e X.env)::starEach es X.env:=by rfl)(hpl:(backTo pos (starEach es X.env)).any (·.1)=false:=by rfl):PE X (.Call (.Name x p) (e::es) [] pos) (jo sp dvs E t):=by intro g s i H Q I h;refine AD8 (Xm I c d ?_ hdb);refine PySem.W.callWith_K (h₀:=X.base) I.ok.mod.kin hk (Bc (ha pos g s i H _ I h) λj l ⟨vs,H1,a,r,q⟩=>⟨a.kIn, ?_⟩) he hpl;exact mh F b hb hd hx a r q
structure Mk (K:AAB) (C f:Addr):Prop where
 makes:PySem.W.makesIn K C=true
 init:PySem.W.findIn K (.ref C) "__init__" =some (some (.ref f))
 fn:PySem.W.isFn K (.ref f)=true
 kp:PySem.W.keepIn K (.ref C)=true
end
section
variable {X:Cx}{CX:YW}{k:Nat}{f C:ke}{fd:FuncData}{ps ks:km Str}{sp:Sp}{E:XK}{x m:Str}{p pos apos kpos:Pos}{e o:kc}{es:km kc}{kws:km Keyword}{te ta:TE}{t tk:TA}{nm:kd Str}
structure tM (K:AAB) (fd:FuncData) (ps ks:List Str) (g:List Value->List Value->List Value) (gV:List V->List V->List V):Prop where
 to:∀(s:Shared) (us ws:List Value),K.In s.heap->(g us ws).length=ps.length->BindsTo s fd ⟨us,ks.zip ws⟩ (ps.zip (g us ws))
 rel:∀{vs:List V} {us:List Value} {zs:List V} {ws:List Value},Ax vs us->Ax zs ws->Ax (gV vs zs) (g us ws)
variable {g:km kj->km kj->km kj}{gV:km V->km V->km V}
end
structure DZ (N P:List Str) (sc:Scope):Prop where
 kind:sc.kind= .function
 co:sc.isCoroutine=false
 gen:sc.isGenerator=false
 nd:N.Nodup
 pre:N.take P.length=P
 par:∀x∈P,sc.names.lookup x=some .local\/sc.names.lookup x=some .cell
 nofree:∀y∈sc.names,y.2≠ .free
theorem P1 {kindOf:Str->kd NameKind}{x:Str}:∀{binds:km (Str×kj)} {m:Str->kd kj},(∀v,(x,v) ∉ binds)->bindL kindOf binds m x=m x
 | [],_,_=>rfl
 | (n,v)::r,m,h=>by
   unfold bindL;rw[P1 λw hw=>h w (ABW _ hw)];split
   .have:x≠n:=by rintro rfl;exact h v ABl
    simp[this]
   .rfl
theorem Pz {kindOf:Str->kd NameKind}{x:Str}:∀{binds:km (Str×kj)} {m:Str->kd kj},(∀v,(x,v) ∉ binds)->bindC kindOf binds m x=m x
 | [],_,_=>rfl
 | (n,v)::r,m,h=>by
   unfold bindC;rw[Pz λw hw=>h w (ABW _ hw)];split
   .rfl
   .have:x≠n:=by rintro rfl;exact h v ABl
    simp[this]
theorem P0 {kindOf:Str->kd NameKind}{x:Str}{v:kj}:∀{P:km Str} {vs:km kj} {i:Nat} {m:Str->kd kj},P.Nodup->P[i]? =some x->vs[i]? =some v->kindOf x=some .local-> bindL kindOf (P.zip vs) m x=some v
 | [],_,_,_,_,h,_,_=>by simp at h
 | _::_, [],_,_,_,_,h,_=>by simp at h
 | p::P,w::vs,0,m,nd,h1,h2,hk=>by simp at h1 h2;subst h1;subst h2;show bindL kindOf ((p,w)::P.zip vs) m p=_;unfold bindL;rw[P1 λv hv=>(ADK.mp nd).1 (AD9 hv).1,AAD hk];simp
 | p::P,w::vs,i+1,m,nd,h1,h2,hk=>by show bindL kindOf ((p,w)::P.zip vs) m x=_;unfold bindL;exact P0 (i:=i) (ADK.mp nd).2 (by simpa using h1) (by simpa using h2) hk
theorem Py {kindOf:Str->kd NameKind}{x:Str}{v:kj}:∀{P:km Str} {vs:km kj} {i:Nat} {m:Str->kd kj},P.Nodup->P[i]? =some x->vs[i]? =some v->kindOf x≠some .local-> bindC kindOf (P.zip vs) m x=some v
 | [],_,_,_,_,h,_,_=>by simp at h
 | _::_, [],_,_,_,_,h,_=>by simp at h
 | p::P,w::vs,0,m,nd,h1,h2,hk=>by simp at h1 h2;subst h1;subst h2;show bindC kindOf ((p,w)::P.zip vs) m p=_;unfold bindC;rw[Pz λv hv=>(ADK.mp nd).1 (AD9 hv).1,AAC hk];simp
 | p::P,w::vs,i+1,m,nd,h1,h2,hk=>by show bindC kindOf ((p,w)::P.zip vs) m x=_;unfold bindC;exact Py (i:=i) (ADK.mp nd).2 (by simpa using h1) (by simpa using h2) hk
def start (N:km Str)(vs:km V):St:=vs.map some++List.replicate (N.length-vs.length) none
def PJ (CX:YW)(P:fm)(w:fe)(K:AAB)(mg:Str->kd kj)(base:Wf)(N:km Str)(qual:Str)(scope:Scope)(f:ke)(b:kj)(A:Tb)(outer:km Env)(s:ki)(H:Hp)(E:XK):Cx where
 prog:=P
 w:=w
 K:=K
 mg:=mg
 base:=base
 A:=A.deeper (envOfC qual scope s.heap.objs.size f b)
 N:=N
 s₀:=s
 H₀:=H
 env:=envOfC qual scope s.heap.objs.size f b
 outer:=outer
 stack:=envOfC qual scope s.heap.objs.size f b::outer
 ex:= []
 calm:=true
 fn:=λ_=>true
 pn:= []
 xe:=λe c=>wpAny (model P w) (A.deeper (envOfC qual scope s.heap.objs.size f b)) (leaving (envOfC qual scope s.heap.objs.size f b) e) (λ_ a=>CX outer H s E e a) (λd a=>CX outer H s E d a) c
def TU {sc:Scope}{n:Nat}{x:Str}(h:sc.names.lookup x=some .cell):∃c,(cellsFrom n sc.names []).lookup x=some c:=by have q:=AEl sc.names n [] (.inl h);exact Option.isSome_iff_exists.mp q
def Y9 {CX:YW}{P:fm}{w:fe}{K:AAB}{mg:Str->kd kj}{base:Wf}{N g:km Str}{qual:Str}{scope:Scope}{f:ke}{m:kj}{A:Tb}{outer:km Env}{s t:ki}{H:Hp}{E:XK}{o:km kj}{vs:km V}(S:DZ N g scope)(hd:A.handled=none)(d:O7 P w K mg base A outer s H)(hl:vs.length=g.length)(r:Ax vs o)(x:InCallC s s.heap.objs.size (bindL (envOfC qual scope s.heap.objs.size f m).kindOf (g.zip o) λ_=>none) (cellsFrom (s.heap.objs.size+1) scope.names []) (bindC (envOfC qual scope s.heap.objs.size f m).kindOf (g.zip o) λ_=>none) t):Inv (PJ CX P w K mg base N qual scope f m A outer s H E) [] (start N vs) H t:=by
 have hpl:g.length<=N.length:=by have:=congrArg List.length S.pre;rw[ADL] at this;omega
 obtain⟨h1,B,rfl,hk⟩:=x.done;have j:∀b:ke,b ∉ (PJ CX P w K mg base N qual scope f m A outer s H E).ex:=λb z=>absurd (show b∈([] :km ke) from z) (by simp);refine⟨⟨d.mod,S.kind,rfl,rfl,AAJ _,λy z c h1 h2=> ?_,λy hy=> ?_,λy c _ h=> ?_,λ_=>hd,Around.frames_deeper d.frames, .inr ⟨rfl,rfl⟩,λb z=>absurd z (j b),d.bs,d.bsz,λb _ _=>j b,λb z=>absurd z (j b),d.funs,d.frf⟩,
  rfl,d.bare,Un.kept hk,⟨_,x.toInCall.ns,λi y v h1 h2 h3=> ?_⟩,λy c h=>⟨_,x.cell y c h⟩,d.hok.fresh (AAJ _),λy c h=> ?_,λp hp=>absurd (show p∈([] :km (ke×Obj)) from hp) (by simp),d.hok.kept hk, ?_⟩
 .exact name_of_addr x.apart (ACp h1) (ACp h2)
 .have hy:scope.names.lookup y=some .cell\/scope.names.lookup y=some .free:=hy;rcases hy with hy|hy
  .exact TU hy
  .exact absurd rfl (S.nofree _ (ACp hy))
 .exact ACl (x.above y c (ACp h))
 .have hi:i<vs.length:=by
   unfold start at h2;by_cases hi:i<vs.length
   .exact hi
   .rw [ABf (by simpa using hi)] at h2;rw[ABx] at h2;split at h2 <;> cases h2
  have ha:vs[i]? =some v:=by
   unfold start at h2;rw[ABn (by simpa using hi),AAs] at h2;cases e:vs[i]? with
   | none=>rw[e] at h2;cases h2
   | some a=>rw[e] at h2;cases h2;rfl
  obtain⟨u,hu,rv⟩:=r.get ha;have hp:g[i]? =some y:=by rw[<-S.pre,List.getElem?_take_of_lt (by omega)];exact h1
  have l:g.Nodup:=by rw[<-S.pre];exact S.nd.sublist (List.take_sublist _ _)
  refine⟨u,rv, ?_⟩;rcases S.par y (ACQ hp) with k|k
  .exact .inl ⟨k,P0 l hp hu k⟩
  .obtain ⟨c,e⟩:=TU (n:=s.heap.objs.size+1) k;refine .inr ⟨.inl k,c,e, ?_⟩;have q:=x.cell y c e;rw[Py l hp hu (by show scope.names.lookup y≠_;rw[k];decide)] at q;exact q
 .exact d.hok.fresh (ACl (x.above y c (ACp h)))
 .unfold start;show _=N.length;rw[AAn,AAK,ABy];omega
def jM {CX:YW}{P:fm}{w:fe}{K:AAB}{mg:Str->kd kj}{base:Wf}{k:Nat}{f:ke}{name qual:Str}{params:Arguments}{body:km Stmt}{scope:Scope}{z kV d B a ct L:kj}{C M:kd ke}{j:Array (kd kj)}{N i:km Str}{sp:Sp}(O:K.lookup f=some ⟨L,M, .func (PySem.W.fnOf name qual params body scope z kV d B C a ct),j⟩)(R:PySem.W.codeIn K a qual=true)(S:DZ N i scope)(len:∀vs H Q E,sp vs H Q E->vs.length=i.length)(T:∀(A:Tb) (outer:km Env) (s:ki) (H:Hp) (vs:km V) (Q:VK) (E:XK),Room k (A.deeper (envOfC qual scope s.heap.objs.size f a))->sp vs H Q E-> ∃t,TJ (PJ CX P w K mg base N qual scope f a A outer s H E) body t/\t {nx:=λ_ c=>Q .non c,rt:=Q} (start N vs) H):D8 P w K mg base CX (k+1) f (PySem.W.fnOf name qual params body scope z kV d B C a ct) i sp:=by
 refine⟨len,λA outer s H args U vs Q E l g hb r D=> ?_⟩;have hl:=len _ _ _ _ D;have F:K.In s.heap:=g.mod.kin.keeps λb o e=>(g.bs b o e).1;have m:s.heap.NoLimit:=g.mod.nolimit.keeps λb o e=>(g.bs b o e).1;have X:∀y∈i.zip U,scope.names.lookup y.1=some .local\/(scope.names.lookup y.1=some .cell/\((cellsFrom (s.heap.objs.size+1) scope.names []).lookup y.1).isSome=true):=λ⟨n,v⟩ hy=>by
  rcases S.par n (AD9 hy).1 with q|q
  .exact .inl q
  .exact .inr ⟨q,AEl _ _ _ (.inl q)⟩
 refine codeAny_call_function l.depth (F _ _ O) rfl S.co S.gen rfl (PySem.W.codeRec_of F R) (hb _ _ _ _ ?_);refine wpAny_newFunctionEnv_cells S.kind X λenv he G x=> ?_;subst he;refine⟨m.keeps x.toInCall.keep,codeAny_func ?_⟩;obtain⟨t,Y,hq⟩:=T A outer s H vs Q E (l.deeper _) D;have I:Inv (PJ CX P w K mg base N qual scope f a A outer s H E) [] (start N vs) H G:=Y9 S l.hd g hl r x;refine ABv (Y [] G (start N vs) H _ I hq) (λZ p hs=> ?_) λe p hs=>hs;have h:∀{σ':St} {c:Hp} {v:V} {u:kj},Inv (PJ CX P w K mg base N qual scope f a A outer s H E) [] σ' c p->RelV v u->Q v c->CE outer P w H s Q u p:=
  λ{σ' c v u} J rv q=>⟨v,c,J.os,J.bare,J.base,J.hok,rv,q⟩
 cases Z with
 | ret u=> obtain⟨v,σ',c,J,rv,q⟩:=hs;exact h J rv q
 | next=> obtain⟨σ',c,J,q⟩:=hs;exact h (v:=V.non) (u:=Value.none) J rfl q
 | brk=> obtain⟨_,_,_,q⟩:=hs;exact False.elim q
 | cont=> obtain⟨_,_,_,q⟩:=hs;exact False.elim q
section
variable {X:Cx}{x:Str}{p pos:Pos}{e:kc}{es:km kc}{t:TA}{id T:String}{r:km V->Hp->VK->Prop}
def u7 (r:km V->Hp->VK->Prop)(t:TA):TE:=λa H Q=>t a H λvs H1=>r vs H1 Q
def HM (hc:Cg X (.builtin id) r)(c:Gl X x)(d:X.mg x=none)(hv:bootBuiltins x=some (.builtin id))(ha:PA X (e::es) t)(f:x≠"__name__" :=by decide)(hdb:(x==("__debug__" :Str))=false:=by decide)(he:starEach (e::es) X.env=(false,eval e X.env)::starEach es X.env:=by rfl)(hpl:(backTo pos (starEach es X.env)).any (·.1)=false:=by rfl):PE X (.Call (.Name x p) (e::es) [] pos) (u7 r t):=by intro a s b H Q I h;refine AD8 (HI I c d hv ?_ f hdb);exact PyProof.Rows.callWith_builtin1 (Bc (ha pos a s b H _ I h) λg i ⟨vs,H1,j,k,l⟩=>hc a i b H1 vs g Q j k l) he hpl
def Ew (hc:Cg X (.type T) r)(c:Gl X x)(d:X.mg x=none)(hv:bootBuiltins x=some (.type T))(ha:PA X (e::es) t)(f:x≠"__name__" :=by decide)(hdb:(x==("__debug__" :Str))=false:=by decide)(he:starEach (e::es) X.env=(false,eval e X.env)::starEach es X.env:=by rfl)(hpl:(backTo pos (starEach es X.env)).any (·.1)=false:=by rfl):PE X (.Call (.Name x p) (e::es) [] pos) (u7 r t):=by intro a s b H Q I h;refine AD8 (HI I c d hv ?_ f hdb);exact ACP (Bc (ha pos a s b H _ I h) λg i ⟨vs,H1,j,k,l⟩=>hc a i b H1 vs g Q j k l) he hpl
end
end L2
namespace HT
open PySem PyProof.Rows
section
variable {prog:fm}{w:fe}{A:Tb}{E:kj->ki->Prop}{s:ki}
def cat_tup {t b:ke}{vs a:km kj}{Q:kj->ki->Prop}(m:IsTup s.heap t vs.toArray)(hb:IsTup s.heap b a.toArray)(hv:vs≠ [])(h1:a= [] ->Q (.ref t) s)(h2:a≠ [] ->Q (.ref s.heap.objs.size) {s with heap:=s.heap.push {cls:= .type "tuple",data:= .seq (vs++a).toArray}})(hsz:vs.length+a.length<=sizeLine):wpAny (model prog w) A (binaryOp .Add (.ref t) (.ref b)) Q E s:=by
 obtain⟨⟨cls,h,data,sl⟩,f,hc,n,hd⟩:=id m;obtain⟨⟨i,c,data2,d⟩,g,j,k,l⟩:=id hb;simp only at hc hd j l;subst hc hd j l;have e:vs.toArray++a.toArray=(vs++a).toArray:=by simp
 by_cases hw:a= []
 .exact concat_meets ⟨_,f,rfl⟩ ⟨_,g,rfl⟩ AEA seq_tuple_add AEB AEC (AED _ _)
   (tuple_addW1 t b vs.toArray a.toArray n k h c sl d (by simpa using hv) (by simp[hw])) ⟨f,g,h1 hw⟩
 .refine concat_meets ⟨_,f,rfl⟩ ⟨_,g,rfl⟩ AEA seq_tuple_add AEB AEC (AED _ _)
   (tuple_addW2 t b vs.toArray a.toArray n k h c sl d (by simpa using hv) (by simpa using hw) (by rw[AAN,AAN];exact hsz)) ⟨f,g, ?_⟩
  rw[e];exact h2 hw
def sIx (n d:Nat):kd Int->Nat
 | none=>d
 | some v=>if v<0 then (v+(n:Int)).toNat else min v.toNat n
def sIx_none (n d:Nat):sIx n d none=d:=rfl
def sIx_nat (n d k:Nat):sIx n d (some (k:Int))=min k n:=by show (if (k:Int)<0 then ((k:Int)+(n:Int)).toNat else min (k:Int).toNat n)=min k n;rw[AAC (by omega),ACR]
def mj (n d:Nat)(hd:d<=n)(o:kd Int):sIx n d o<=n:=by
 cases o with
 | none=>exact hd
 | some v=>
   show (if v<0 then (v+(n:Int)).toNat else min v.toNat n)<=n;by_cases hv:v<0
   .rw [AAD hv];omega
   .rw [AAC hv];exact Nat.min_le_right _ _
def XH (v:Int)(n d:Nat):(if v<0 then max (v+(n:Int)) 0 else min v (n:Int))=((sIx n d (some v):Nat):Int):=by
 show (if v<0 then max (v+(n:Int)) 0 else min v (n:Int))=(((if v<0 then (v+(n:Int)).toNat else min v.toNat n):Nat):Int);by_cases hv:v<0
 .simp only[AAD hv];omega
 .simp only[AAC hv];omega
def VL (lo hi:kd Int)(n:Nat):Builtin.Slice.sliceAdjust lo hi 1 (n:Int)=(((sIx n 0 lo:Nat):Int),((sIx n n hi:Nat):Int)):=by
 have h1:¬((1:Int)<0):=by omega
 unfold Builtin.Slice.sliceAdjust;simp only[h1,AAX];refine ACB ?_ ?_
 .cases lo with
  | none=>rfl
  | some v=>exact XH v n 0
 .cases hi with
  | none=>rfl
  | some v=>exact XH v n n
def WI (i j:Nat):Builtin.Slice.slicePlaces (i:Int) (j:Int) 1=j-i:=by
 unfold Builtin.Slice.slicePlaces;have h1:(1:Int)>0:=by omega
 simp only[h1,ABP,Int.ediv_one];split <;> omega
def OZ {v:kj}{o:kd Int}{Q:kd Int->ki->Prop}(p:IsPart v o)(h:Q o s):wpAny (model prog w) A (Builtin.Slice.slicePartIndex v) Q E s:=by
 cases p with
 | none=>exact slicePart_none h
 | int i t=>exact slicePart_int h
def sliceApplied_gen {sl:ke}{a b:kj}{lo hi:kd Int}{n:Nat}{Q:Int×Int×Nat->ki->Prop}(hs:s.heap.IsSliceOf sl a b .none)(e:IsPart a lo)(f:IsPart b hi)(h:Q (((sIx n 0 lo:Nat):Int),1,sIx n n hi-sIx n 0 lo) s):wpAny (model prog w) A (Builtin.Slice.sliceApplied (.ref sl) (pure (n:Int))) Q E s:=by obtain⟨os,c,g,d⟩:=id hs;unfold Builtin.Slice.sliceApplied Builtin.Slice.sliceFields;refine AAA (AAA (AAr c d (x:=a) rfl (AAA (AAr c d (x:=b) rfl (AAA (AAr c d (x:= .none) rfl (AAE ?_)))))));refine AAA (slicePart_none ?_);show wpAny _ _ (if ((1:Int)==0)=true then _ else _) _ _ s;rw[AAC (by decide)];refine AAA (OZ e (AAA (OZ f (AAA (AAE ?_)))));show wpAny _ _ (match Builtin.Slice.sliceAdjust lo hi 1 (n:Int) with | (lo,hi)=>pure (lo,(1:Int),Builtin.Slice.slicePlaces lo hi 1)) _ _ s;rw[VL lo hi n];show wpAny _ _ (pure (((sIx n 0 lo:Nat):Int),(1:Int),Builtin.Slice.slicePlaces ((sIx n 0 lo:Nat):Int) ((sIx n n hi:Nat):Int) 1)) _ _ s;rw[WI];exact AAE h
def dB (xs:Array kj)(i k:Nat):((List.range k).filterMap λ(m:Nat)=>xs[((i:Int)+(m:Int)*1).toNat]?).toArray=((xs.toList.drop i).take k).toArray:=by
 have e:(λ(m:Nat)=>xs[((i:Int)+(m:Int)*1).toNat]?)=λm=>xs[i+m]? :=by
  funext m
  have:((i:Int)+(m:Int)*1).toNat=i+m:=by omega
  rw[this]
 rw[e];have:=pick_run xs i k;rw[List.filterMap_map] at this;have a:((λx=>xs[x]?) ∘ λx=>i+x)=λm=>xs[i+m]? :=rfl;rw[a] at this;rw[this]
def getItem_tuple_cut {t sl:ke}{items:Array kj}{c d:kj}{lo hi:kd Int}{Q:kj->ki->Prop}(a:IsTup s.heap t items)(hs:s.heap.IsSliceOf sl c d .none)(e:IsPart c lo)(f:IsPart d hi)(hw:¬(sIx items.size 0 lo=0/\sIx items.size items.size hi=items.size))(h:Q (.ref s.heap.objs.size) {s with heap:=s.heap.push {cls:= .type "tuple",data:= .seq ((items.toList.drop (sIx items.size 0 lo)).take (sIx items.size items.size hi-sIx items.size 0 lo)).toArray}})(hsz:items.size<=sizeLine):wpAny (model prog w) A (getItem (.ref t) (.ref sl)) Q E s:=by
 have b:sizeOk (.seq ((items.toList.drop (sIx items.size 0 lo)).take (sIx items.size items.size hi-sIx items.size 0 lo)).toArray):=by show ((items.toList.drop (sIx items.size 0 lo)).take (sIx items.size items.size hi-sIx items.size 0 lo)).toArray.size<=sizeLine;rw[AAN,ADL,ACq,AB8];omega
 have hj:sIx items.size items.size hi<=items.size:=mj _ _ (AAJ _) hi;obtain⟨os,g,i,l⟩:=id hs;have j:s.TypeIs (.ref sl) "slice" :=⟨os,g,i⟩;unfold getItem;try with_reducible refine AAd ?_
 first | refine AAA (AAE ?_)|skip
 refine AAA (wpAny_sequenceKey a.typeIs (by decide) ?_);refine AAA (ABz (name:=Str.ofString "__getitem__") a.typeIs ACS
  (ABO ACS a.typeIs entry_tuple_getitem ?_ (args_tuple_getitem _ _)))
 show wpAny _ _ (Builtin.Tuple.tupleItemsOf (.ref t) >>= _) _ _ s;refine AAA (tupleItemsOf_ a ?_);refine AAA (ACT j ?_);rw[AAD (by decide)];refine AAA (sliceApplied_gen hs e f ?_);have k:¬((((sIx items.size 0 lo:Nat):Int)==0&&(1:Int)==1&&(sIx items.size items.size hi-sIx items.size 0 lo)==items.size)=true):=by intro q;rw[AAo,AAo] at q;have n:((sIx items.size 0 lo:Nat):Int)=0:=eq_of_beq q.1.1;have o:sIx items.size items.size hi-sIx items.size 0 lo=items.size:=eq_of_beq q.2;exact hw ⟨by omega,by omega⟩
 show wpAny _ _ (if (((sIx items.size 0 lo:Nat):Int)==0&&(1:Int)==1&&(sIx items.size items.size hi-sIx items.size 0 lo)==items.size)=true then _ else _) _ _ s;rw[AAC k,dB];first
  | exact AAA (m:=Builtin.Tuple.tupleExact _) (ABQ (AAE ⟨_,rfl,AAE h⟩) b)
  | exact AAA (m:=Builtin.Tuple.tupleExact _) (ABQ (AAA (AAE (AAE ⟨_,rfl,AAE h⟩))) b)
  | exact AAA (AAA (m:=Builtin.Tuple.tupleExact _) (ABQ (AAE (AAE ⟨_,rfl,AAE h⟩)) b))
  | exact AAA (AAA (m:=Builtin.Tuple.tupleExact _) (ABQ (AAE ⟨_,rfl,AAE h⟩) b))
end
end HT
namespace L2
open PySem PySem.Spec PyProof.Rows
abbrev TO:=St->Hp->(kd Int->Hp->Prop)->Prop
def PO (X:Cx)(e:kd kc)(t:TO):Prop:=
 ∀(b:km (ke×Obj)) (s:ki) (a:St) (H:Hp) (Q:kd Int->Hp->Prop),Inv X b a H s->t a H Q->
  wpAny (model X.prog X.w) X.A (evalPart e X.env) (λu d=>∃o c,Inv X b a c d/\IsPart u o/\Q o c) X.xe s
def i5:TO:=λ_ H Q=>Q none H
def rN (t:TE):TO:=λa H Q=>t a H λx H1=>∃i,x= .int i/\Q (some i) H1
section
variable {X:Cx}{e:kc}{te:TE}{lo hi:kd kc}{tl th:TO}{pos p2:Pos}
def iF:PO X none i5:=by intro a s b H Q I h;rw[evalPart_none];exact AAE ⟨none,H,I, .none,h⟩
def iG (h:PE X e te):PO X (some e) (rN te):=by intro a s b H Q I hw;rw[evalPart_some];refine Bc (h a s b H _ I hw) λu g ⟨x,H1,c,d,f⟩=> ?_;obtain⟨i,rfl,q⟩:=f;obtain⟨t,rfl⟩:=d;exact⟨some i,H1,c, .int i t,q⟩
def jI (X:Cx)(r:V->kd Int->kd Int->Hp->VK->Prop):Prop:=
 ∀(a:km (ke×Obj)) (s:ki) (b:St) (H:Hp) (x:V) (v c d:kj) (lo hi:kd Int) (sl:ke) (Q:VK),Inv X a b H s->RelV x v->s.heap.IsSliceOf sl c d .none->IsPart c lo->IsPart d hi->r x lo hi H Q->
  ∃T id,typeLookup (.type T) "__getitem__" =pure (some (.builtin id))/\s.TypeIs v T/\wpAny (model X.prog X.w) X.A (getItem v (.ref sl)) (EP X a b Q) X.xe s
def jI.or {r a:V->kd Int->kd Int->Hp->VK->Prop}(h:jI X r)(h':jI X a):jI X (λx lo hi H Q=>r x lo hi H Q\/a x lo hi H Q):=by
 intro b s c H x v d f lo hi sl Q I g hs i j q;rcases q with q|q
 .exact h b s c H x v d f lo hi sl Q I g hs i j q
 .exact h' b s c H x v d f lo hi sl Q I g hs i j q
def tSl (r:V->kd Int->kd Int->Hp->VK->Prop)(te:TE)(tl th:TO):TE:=λa H Q=>te a H λx H1=>tl a H1 λl b=>th a b λu c=>r x l u c Q
def c7 {r:V->kd Int->kd Int->Hp->VK->Prop}(j:jI X r)(he:PE X e te)(hl:PO X lo tl)(hu:PO X hi th):PE X (.Subscript e (.Slice lo hi none p2) pos) (tSl r te tl th):=by intro c s d H Q I h;refine Subscript_ (Bc (he c s d H _ I h) λv k ⟨x,H1,m,n,o⟩=> ?_);refine wpAny_Slice (Bc (hl c k d H1 _ m o) λf p ⟨l,t,y,z,B⟩=>Bc (hu c p d t _ y B) λg a ⟨u,i,C,D,E⟩=> ?_);rw[evalPart_none];refine AAE ?_;have F:Inv X c d i {a with heap:=a.heap.push {cls:= .type "slice",data:= .fields #[f,g, .none] }}:=C.kept (t':=a.toks) λb L q=>AAH _ q;obtain⟨T,id,G,J,K⟩:=j c {a with heap:=a.heap.push {cls:= .type "slice",data:= .fields #[f,g, .none] }} d i x v f g l u a.heap.objs.size Q F n (Heap.IsSliceOf.new ..) z D E;show wpAny (model X.prog X.w) X.A (subscriptTail e (.Slice lo hi none p2) v (.ref a.heap.objs.size)) (EP X c d Q) X.xe {a with heap:=a.heap.push {cls:= .type "slice",data:= .fields #[f,g, .none] }};exact tail_any (ops:= [.ref a.heap.objs.size,v]) J G K (by with_unfolding_all rfl)
def PH (xs:km V)(lo hi:kd Int):km V:=(xs.drop (HT.sIx xs.length 0 lo)).take (HT.sIx xs.length xs.length hi-HT.sIx xs.length 0 lo)
def Ld (xs:km V)(lo hi:kd Int):(PH xs lo hi).length<=xs.length:=by unfold PH;rw[ADL,ACq];omega
def ux (K:AAB):V->kd Int->kd Int->Hp->VK->Prop:=λx lo hi H Q=>∃a xs,x= .ref a/\KJ K H a xs/\
 ¬(HT.sIx xs.length 0 lo=0/\HT.sIx xs.length xs.length hi=xs.length)/\∀p,H p=none->Q (.ref p) (upd H p (.tup (PH xs lo hi)))
def nM:jI X (ux X.K):=by
 intro k s l H x v m n lo hi sl Q I g hs i j h;obtain⟨a,xs,rfl,hx,hw,q⟩:=h;cases g;obtain⟨c,r,f,hz⟩:=I.tuple hx;have d:c.toArray.size=xs.length:=by rw[AAN];exact r.length.symm
 refine⟨"tuple",_,ACS.lookup,f.typeIs, ?_⟩;refine HT.getItem_tuple_cut f hs i j (by rw[d];exact hw) ?_ (by rw[d];exact hz);rw[d];refine⟨.ref s.heap.objs.size,_,I.laid (t':=s.toks) (o:= .tup (PH xs lo hi)) (λb p q=>AAH _ q) (AAJ _) ?_,rfl,q _ (I.hok.fresh (AAJ _))⟩;exact⟨AAa (Ld xs lo hi) hz,_,(r.drop (HT.sIx xs.length 0 lo)).take (HT.sIx xs.length xs.length hi-HT.sIx xs.length 0 lo),IsTup.new _ _⟩
def jg (K:AAB):R2:=λx y H Q=>∃a b xs ys,x= .ref a/\y= .ref b/\KJ K H a xs/\KJ K H b ys/\xs≠ [] /\xs.length+ys.length<=sizeLine/\
 (ys= [] ->Q (.ref a) H)/\(ys≠ [] ->∀p,H p=none->Q (.ref p) (upd H p (.tup (xs++ys))))
def Ax.nil_iff {xs:km V}{a:km kj}(r:Ax xs a):a= [] ↔xs= [] :=by
 cases r with
 | nil=>simp
 | cons _ _=>simp
def hJ:D9 X (binaryOp .Add) (jg X.K):=by intro n s p H x y v u Q I g i h;obtain⟨a,b,xs,ys,rfl,rfl,ha,hb,hx,hz,j,k⟩:=h;cases g;cases i;obtain⟨l,d,m,_⟩:=I.tuple ha;obtain⟨f,c,p2,_⟩:=I.tuple hb;refine HT.cat_tup m p2 (λz=>hx (d.nil_iff.mp z)) (λz=>⟨.ref a,H,I,rfl,j (c.nil_iff.mp z)⟩) (λz=> ?_) (by rw[<-d.length,<-c.length];exact hz);refine⟨.ref s.heap.objs.size,_,I.laid (t':=s.toks) (o:= .tup (xs++ys)) (λb r q=>AAH _ q) (AAJ _) ?_,rfl,k (λw=>z (c.nil_iff.mpr w)) _ (I.hok.fresh (AAJ _))⟩;exact⟨by rw[AAn];exact hz,_,d.append c,IsTup.new _ _⟩
end
def gh (n:Nat)(i:Int):kd Nat:=if 0<=i then (if i<n then some i.toNat else none) else if -(n:Int)<=i then some (i+n).toNat else none
def KM {a:Type}(xs:km a)(i:Int):kd a:=(gh xs.length i).bind λj=>xs[j]?
def Xl {n:Nat}{i:Int}{j:Nat}(h:gh n i=some j):seqIndex? i n=some j/\j<n/\ -(n:Int)<=i/\i<n:=by
 unfold gh at h;by_cases a:0<=i
 .rw [AAD a] at h;by_cases h1:i<n
  .rw [AAD h1] at h;have e:i.toNat=j:=AAV h;exact⟨by rw[seqIndex_of a h1,e],by omega,by omega,h1⟩
  .rw [AAC h1] at h;cases h
 .rw [AAC a] at h;by_cases h1: -(n:Int)<=i
  .rw [AAD h1] at h;have e:(i+n).toNat=j:=AAV h;exact⟨by rw[seqIndex_neg (by omega) h1,e],by omega,h1,by omega⟩
  .rw [AAC h1] at h;cases h
def XB {a:Type}{xs:km a}{i:Int}{v:a}(h:KM xs i=some v):∃j,seqIndex? i xs.length=some j/\xs[j]? =some v/\j<xs.length/\ -(xs.length:Int)<=i/\i<xs.length:=by
 unfold KM at h;cases e:gh xs.length i with
 | none=>rw[e] at h;cases h
 | some j=> rw[e] at h;obtain⟨h1,h2,h3,b⟩:=Xl e;exact⟨j,h1,h,h2,h3,b⟩
def Ei {a:Type}{xs:km a}{j:Nat}{v:a}(h:xs[j]? =some v):KM xs (j:Int)=some v:=by
 have hj:j<xs.length:=(AAq.mp h).1;have e:gh xs.length (j:Int)=some j:=by unfold gh;rw[AAD (by omega),AAD (by omega)];simp
 unfold KM;rw[e];exact h
def MW (b:kc):Prop:=∀o i,subscripted b false o i=operate [o,i] (getItem o i)
def fE (X:Cx)(r:R2):Prop:=
 ∀(value slice:kc) (a:km (ke×Obj)) (s:ki) (b:St) (H:Hp) (x y:V) (v u:kj) (Q:VK),Inv X a b H s->RelV x v->RelV y u->r x y H Q->
  subscripted slice false v u=operate [v,u] (getItem v u)->wpAny (model X.prog X.w) X.A (subscriptTail value slice v u) (EP X a b Q) X.xe s
def zj (X:Cx)(id:String)(r:V->km V->Hp->VK->Prop):Prop:=
 ∀(a:km (ke×Obj)) (s:ki) (b:St) (H:Hp) (x:V) (xs:km V) (v:kj) (c:km kj) (Q:VK),Inv X a b H s->RelV x v->Ax xs c->r x xs H Q->
  wpAny (model X.prog X.w) X.A (call (.builtin id) (v::c)) (EP X a b Q) X.xe s
section
variable {X:Cx}{a b:kc}{ta tb:TE}{pos:Pos}
def fE.or {r c:R2}(h:fE X r)(h':fE X c):fE X (λx y H Q=>r x y H Q\/c x y H Q):=by
 intro value slice d s e H x y v u Q I f g q hs;rcases q with q|q
 .exact h value slice d s e H x y v u Q I f g q hs
 .exact h' value slice d s e H x y v u Q I f g q hs
def J0 {r:R2}(c:fE X r)(ha:PE X a ta)(hb:PE X b tb)(hs:MW b):PE X (.Subscript a b pos) (Zt r ta tb):=by intro d s e H Q I h;exact Subscript_ (kO ha hb I h λv u f x y g i j k q=>c a b d f e g x y v u Q i j k q (hs _ _))
def qZ (K:AAB):R2:=λx y H Q=>∃p xs i v,x= .ref p/\y= .int i/\FJ K H p xs/\KM xs i=some v/\Q v H
def qd (K:AAB):R2:=λx y H Q=>∃p xs i v,x= .ref p/\y= .int i/\KJ K H p xs/\KM xs i=some v/\Q v H
def FV:fE X (qZ X.K):=by
 intro value slice g s k H x y v u Q I m n h hs;obtain⟨p,xs,i,z,rfl,rfl,hq,he,q⟩:=h;cases m;obtain⟨t,rfl⟩:=n;obtain⟨d,r,e,hz⟩:=I.list hq;obtain⟨j,h1,h2,h3,o,h5⟩:=XB he;obtain⟨w,ew,f⟩:=r.get h2;have hl:=r.length;have B:=K4;have c:EP X g k Q w s:=⟨z,H,I,f,q⟩;by_cases l:0<=i
 .have hj:i.toNat=j:=by rw[seqIndex_of l h5] at h1;exact AAV h1
  exact item_listR e.isList l (by omega) (by rw[hj];simpa using ew) c hs
 .have hj:(i+(d.toArray.size:Int)).toNat=j:=by rw[seqIndex_neg (by omega) o] at h1;rw[AAN,<-hl];exact AAV h1
  exact subscriptTail_builtinR (x:=w) e.isList.typeIs slot_list_getitem.lookup
   (wpAny_getItem_list_neg (Q:=λr A=>r=w/\EP X g k Q r A) e.isList (by omega) (by rw[AAN] <;> omega) (by omega) (by rw[hj];simpa using ew) ⟨rfl,c⟩) hs
def lM:fE X (qd X.K):=by
 intro value slice e s f H x y v u Q I k l h hs;obtain⟨p,xs,i,z,rfl,rfl,hq,he,q⟩:=h;cases k;obtain⟨t,rfl⟩:=l;obtain⟨m,r,g,hz⟩:=I.tuple hq;obtain⟨j,h1,h2,h3,o,h5⟩:=XB he;obtain⟨w,ew,c⟩:=r.get h2;have hl:=r.length;have A:=K4;have d:EP X e f Q w s:=⟨z,H,I,c,q⟩;exact subscriptTail_builtinR (x:=w) g.typeIs slot_tuple_getitem.lookup
  (getItem_tuple (j:=j) (Q:=λr n=>r=w/\EP X e f Q r n) g (by omega) (by omega) (by rw[AAN,<-hl];exact h1) (by simpa using ew) ⟨rfl,d⟩) hs
def V4 (c:km kj)(n j:Nat)(u:kj):Obj.mapSeq (·.setIfInBounds j u) {cls:= .type "list",data:= .seq c.toArray n}={cls:= .type "list",data:= .seq (c.set j u).toArray n}:=by simp[Obj.mapSeq]
def Inv.lst {d:km (ke×Obj)}{f:St}{H:Hp}{s:ki}{p:ke}{xs:km V}(I:Inv X d f H s)(h:H p=some (.lst xs)):∃(c:km kj) (n:Nat),Ax xs c/\s.heap.get? p=some {cls:= .type "list",data:= .seq c.toArray n}/\xs.length<=sizeLine:=by obtain⟨z,c,n,r,e⟩:=I.hok p _ h;exact⟨c,n,r,e,z⟩
def Inv.lstUpd {g:km (ke×Obj)}{i:St}{H:Hp}{s:ki}{p:ke}{xs ys:km V}{c its':km kj}{n d:Nat}{f:Obj->Obj}(I:Inv X g i H s)(h:H p=some (.lst xs))(k:s.heap.get? p=some {cls:= .type "list",data:= .seq c.toArray n})(j:f {cls:= .type "list",data:= .seq c.toArray n}={cls:= .type "list",data:= .seq its'.toArray d})(r:Ax ys its')(hz:ys.length<=sizeLine)(t:Nat):Inv X g i (upd H p (.lst ys)) {s with heap:=s.heap.update p f,toks:=t}:=by
 have e:(s.heap.update p f).get? p=some {cls:= .type "list",data:= .seq its'.toArray d}:=by rw[AB0 f k (by rw[j] <;> rfl),j]
 refine I.write (x:=p) (e:=p) (by rw[h];trivial) (.inl rfl) (λb u hb q=>(ACr _ _ (AAk hb)).trans q) ⟨_,e⟩ ?_;exact⟨hz,its',d,r,e⟩
def qj:V->V->V->Hp->(Hp->Prop)->Prop:=λo i v H Q=>∃p xs k j,o= .ref p/\i= .int k/\H p=some (.lst xs)/\gh xs.length k=some j/\Q (upd H p (.lst (xs.set j v)))
def Ud:oo X qj:=by
 intro l s m H o i v y z u Q I w x rv h;obtain⟨p,xs,k,j,rfl,rfl,hp,hj,q⟩:=h;cases w;obtain⟨t,rfl⟩:=x;obtain⟨c,n,r,d,hz⟩:=I.lst hp;obtain⟨h1,h2,h3,e⟩:=Xl hj;have hl:=r.length;have A:=K4;have f:Inv X l m (upd H p (.lst (xs.set j v))) {s with heap:=s.heap.update p (Obj.mapSeq (·.setIfInBounds j u))}:=
  I.lstUpd hp d (V4 c n j u) (r.set rv j) (by rw[List.length_set];exact hz) s.toks
 by_cases g:0<=k
 .have hk:k.toNat=j:=by rw[seqIndex_of g e] at h1;exact AAV h1
  exact PySem.W.ki_setAt d g (by omega) (by rw[AAN,<-hl];exact e) (by rw[hk];exact⟨_,f,q⟩)
 .have hk:(k+(c.toArray.size:Int)).toNat=j:=by rw[seqIndex_neg (by omega) h3] at h1;rw[AAN,<-hl];exact AAV h1
  exact PySem.W.ki_setBack d (by omega) (by rw[AAN,<-hl];exact h3) (by omega) (by rw[hk];exact⟨_,f,q⟩)
def SL (lo hi:kd Int)(n:Nat):(sliceBounds lo hi none n).1=((HT.sIx n 0 lo:Nat):Int)/\(sliceBounds lo hi none n).2.1=((HT.sIx n n hi:Nat):Int)/\(sliceBounds lo hi none n).2.2=1:=by
 refine⟨?_, ?_,rfl⟩
 .cases lo with
  | none=>simp[sliceBounds,HT.sIx]
  | some i=>
    simp only[sliceBounds,HT.sIx,Option.getD_none,show (1:Int)>0 by decide,ABP];by_cases h:i<0
    .simp only[h,ABP] <;> omega
    .simp only[h,AAX] <;> omega
 .cases hi with
  | none=>simp[sliceBounds,HT.sIx]
  | some i=>
    simp only[sliceBounds,HT.sIx,Option.getD_none,show (1:Int)>0 by decide,ABP];by_cases h:i<0
    .simp only[h,ABP] <;> omega
    .simp only[h,AAX] <;> omega
def Pk (c:km kj)(lo hi:kd Int):slicePick c.toArray lo hi none=((c.drop (HT.sIx c.length 0 lo)).take (HT.sIx c.length c.length hi-HT.sIx c.length 0 lo)).toArray:=by obtain⟨h1,h2,h3⟩:=SL lo hi c.toArray.size;unfold slicePick;rw[h1,h2,h3];simp only[sliceRange_one,pick_run,AAN] <;> rfl
def uw (K:AAB):V->kd Int->kd Int->Hp->VK->Prop:=λx lo hi H Q=>∃a xs,x= .ref a/\FJ K H a xs/\∀p,H p=none->Q (.ref p) (upd H p (.lst (PH xs lo hi)))
def ip:jI X (uw X.K):=by intro j s k H x v l m lo hi sl Q I d hs e f h;obtain⟨a,xs,rfl,hx,q⟩:=h;cases d;obtain⟨g,r,c,hz⟩:=I.list hx;have i:=r.length;refine⟨"list",_,slot_list_getitem.lookup,c.isList.typeIs, ?_⟩;refine wpAny_getItem_list_slice c.isList hs e f .none (by simp) ?_ (by rw[AAN] <;> omega);rw[Pk,<-i];refine⟨.ref s.heap.objs.size,_,I.laid (t':=s.toks) (o:= .lst (PH xs lo hi)) (λb n q=>AAH _ q) (AAJ _) ?_,rfl,q _ (I.hok.fresh (AAJ _))⟩;exact⟨AAa (Ld xs lo hi) hz,_,0,(r.drop (HT.sIx xs.length 0 lo)).take (HT.sIx xs.length xs.length hi-HT.sIx xs.length 0 lo),AAQ _ rfl⟩
def Jk:Cg X (.builtin "len") (λxs H Q=>∃p ys,xs= [.ref p] /\(FJ X.K H p ys\/KJ X.K H p ys)/\Q (.int ys.length) H):=by
 intro i s j H xs k Q I r h;obtain⟨p,ys,rfl,hq,q⟩:=h;obtain⟨u,rfl,g⟩:=vals1 r;cases g;have l:=K4;rcases hq with hq|hq
 .obtain ⟨c,d,e,hz⟩:=I.list hq;have f:=d.length;exact Calls.call_len_list e.isList (by simp only[AAN] <;> omega) ⟨.int ys.length,H,I.tok _,⟨s.toks+1,by rw[AAN,f]⟩,q⟩
 .obtain ⟨c,d,e,hz⟩:=I.tuple hq;have f:=d.length;exact len_tuple e (by simp only[AAN] <;> omega) ⟨.int ys.length,H,I.tok _,⟨s.toks+1,by rw[AAN,f]⟩,q⟩
def Q9:Cg X (.type "list") (λxs H Q=>∃p ys,xs= [.ref p] /\(FJ X.K H p ys\/KJ X.K H p ys)/\∀l,H l=none->Q (.ref l) (upd H l (.lst ys))):=by
 intro t s v H xs z Q I r h;obtain⟨p,ys,rfl,hq,q⟩:=h;obtain⟨u,rfl,x⟩:=vals1 r;cases x;have g:∀(c:km kj),Ax ys c->ys.length<=sizeLine->∀(h':Wf) (d:Nat),(∀b m,s.heap.get? b=some m->h'.get? b=some m)->
  h'.get? s.heap.objs.size=some {cls:= .type "list",dict:=none,data:= .seq c.toArray d,slots:= #[] }->EP X t v Q (.ref s.heap.objs.size) {s with heap:=h'}:=λc f hz h' d i e=>
  ⟨.ref s.heap.objs.size,_,I.laid (t':=s.toks) i (AAJ _) (show B0 X.prog X.w _ h' _ (.lst ys) from⟨hz,c,d,f,e⟩),rfl,q _ (I.hok.fresh (AAJ _))⟩
 rcases hq with hq|hq
 .obtain ⟨c,f,j,hz⟩:=I.list hq;have y:=f.length;obtain⟨o,k,hc,n,hd⟩:=j.isList;exact call_list_seq p (.inl rfl) k hc hd (λh' d i e=>g c f hz h' d i e) (by simp only[AAN] <;> omega)
 .obtain ⟨c,f,j,hz⟩:=I.tuple hq;have y:=f.length;obtain⟨o,k,hc,n,hd⟩:=j;exact call_list_seq p (.inr rfl) k hc hd (λh' d i e=>g c f hz h' d i e) (by simp only[AAN] <;> omega)
def PF:Cg X (.type "tuple") (λxs H Q=>∃p ys,xs= [.ref p] /\((FJ X.K H p ys/\∀l,H l=none->Q (.ref l) (upd H l (.tup ys)))\/(KJ X.K H p ys/\Q (.ref p) H))):=by
 intro g s i H xs t Q I r h;obtain⟨p,ys,rfl,h⟩:=h;obtain⟨u,rfl,k⟩:=vals1 r;cases k;rcases h with⟨hq,q⟩|⟨hq,q⟩
 .obtain ⟨c,d,f,hz⟩:=I.list hq;have v:=d.length;refine call_tuple_list f.isList (λh' m=> ?_) (by simp only[AAN] <;> omega);have j:Inv X g i H {s with heap:=h'}:=I.kept (t':=s.toks) m;have n:Inv X g i (upd H h'.objs.size (.tup ys)) {s with heap:=h'.push {cls:= .type "tuple",data:= .seq c.toArray}}:=
   j.laid (t':=s.toks) (λb o e=>AAH _ e) (AAJ _) (show B0 X.prog X.w _ _ _ (.tup ys) from⟨hz,c,d,IsTup.new _ _⟩)
  exact⟨.ref h'.objs.size,_,n,rfl,q _ (j.hok.fresh (AAJ _))⟩
 .obtain ⟨c,d,f,hz⟩:=I.tuple hq;exact call_tuple_same f ⟨.ref p,H,I,rfl,q⟩
def xS (K:AAB)(T:String)(x:V)(H:Hp):Prop:=match x with
 | .str _=>T="str"
 | .int _=>T="int"
 | .ref p=>(T="list" /\∃xs,FJ K H p xs)\/(T="tuple" /\∃o,K.lookup p=some o/\o.cls= .type "tuple" /\o.dict=none)\/
     (T="dict" /\((∃kvs,H p=some (.dK kvs))\/∃kvs,H p=some (.dT kvs)))\/(T="set" /\∃S n,H p=some (.set S n))
 | _=>False
def nY {j:km (ke×Obj)}{k:St}{H:Hp}{s:ki}{T:String}{x:V}{v:kj}(I:Inv X j k H s)(r:RelV x v)(d:xS X.K T x H):s.TypeIs v T/\∀a,v= .ref a->∃g,s.heap.get? a=some g/\g.dict=none:=by
 cases x with
 | str z=> obtain⟨t,rfl⟩:=r;cases (show T="str" from d);exact⟨typeIs_str s z t,λ_ e=>nomatch e⟩
 | int i=> obtain⟨t,rfl⟩:=r;cases (show T="int" from d);exact⟨ACs s i t,λ_ e=>nomatch e⟩
 | ref p=>
   cases r;rcases d with⟨rfl,xs,hq⟩|⟨rfl,o,hk,hc,hd⟩|⟨rfl,hk⟩|⟨rfl,S,n,hk⟩
   .obtain ⟨l,_,h,_⟩:=I.list hq;refine⟨h.isList.typeIs,λa e=> ?_⟩;cases e;obtain⟨o,n,e,c,hd,_⟩:=h;exact⟨o,e,hd⟩
   .refine ⟨⟨o,I.kIn p o hk,hc⟩,λa e=> ?_⟩;cases e;exact⟨o,I.kIn _ o hk,hd⟩
   .have z:∃o,s.heap.get? p=some o/\o.ExactDict:=by
     rcases hk with⟨kvs,hk⟩|⟨kvs,hk⟩
     .obtain ⟨_,_,_,_,o,_,_,e,ex,_⟩:=I.hok p _ hk;exact⟨o,e,ex⟩
     .obtain ⟨_,_,_,_,o,_,_,e,ex,_⟩:=I.hok p _ hk;exact⟨o,e,ex⟩
    obtain⟨o,e,ex⟩:=z;refine⟨⟨o,e,ex.1⟩,λa f=> ?_⟩;cases f;exact⟨o,e,ex.2.1⟩
   .obtain ⟨o,_,_,_,e,ex,_⟩:=I.hok p _ hk;refine⟨⟨o,e,ex.1⟩,λa f=> ?_⟩;cases f;exact⟨o,e,ex.2.1⟩
 | _=>exact False.elim d
def xR (K:AAB)(T:String)(r:V->km V->Hp->VK->Prop)(d:TE)(t:TA):TE:=λc H Q=>d c H λx H1=>xS K T x H1/\t c H1 λxs e=>r x xs e Q
variable {o e:kc}{es:km kc}{to:TE}{t:TA}{name:Str}{apos cpos:Pos}{T id:String}{r:V->km V->Hp->VK->Prop}
def je (j:PlainAttrs T)(slot:Slot T name id)(k:typeOf (.builtin id)=pure (.type "method_descriptor"))(l:zj X id r)(m:PE X o to)(ha:PA X (e::es) t)(n:attributeBase o name X.env (eval o X.env)=eval o X.env:=by rfl)(p:((backTo cpos (starEach (e::es) X.env)).all (λx=> !x.1)&&(backToKw cpos (keywordEach [] X.env)).all (λx=>x.1.isSome) && decide ((e::es).length+([] :km Keyword).length+(if ([] :km Keyword).isEmpty then 0 else 1)<30))=true:=by rfl)(u:(apos.endLine==cpos.line)=true:=by rfl)(hs:starEach (e::es) X.env=(false,eval e X.env)::starEach es X.env:=by rfl)(w:(backTo cpos (starEach es X.env)).any (·.1)=false:=by rfl):PE X (.Call (.Attribute o name apos) (e::es) [] cpos) (xR X.K T r to t):=by intro c s d H Q I h;refine wpAny_Call_method_late n p u rfl (Bc (m c s d H _ I h) λv y ⟨x,H1,f,g,z,A⟩=> ?_);obtain⟨h1,h2⟩:=nY f g z;refine⟨T,id,j,slot,k,h1,h2, ?_⟩;have i:=ha cpos c y d H1 _ f A;rw[hs] at i ⊢;refine ADM (by show (false||(backTo cpos (starEach es X.env)).any (·.1))=false;rw[w] <;> rfl) (AEE ?_);exact Bc i λB C ⟨vs,D,E,F,G⟩=>l c C d D x vs v B Q E g F G
end
def jE (X:Cx)(id:String)(r:V->km V->Hp->VK->Prop):Prop:=
 ∀(a:km (ke×Obj)) (s:ki) (b:St) (H:Hp) (x:V) (xs:km V) (v:kj) (c:km kj) (Q:VK),Inv X a b H s->RelV x v->Ax xs c->r x xs H Q->
  wpAny (model X.prog X.w) X.A (call (.builtin id) (v::c)) (EP X a b Q) X.xe s
def Ax.one:∀{x:V} {a:km kj},Ax [x] a->∃u,a= [u] /\RelV x u
 | _,_, .cons r .nil=>⟨_,rfl,r⟩
def Ax.two:∀{x y:V} {a:km kj},Ax [x,y] a->∃u v,a= [u,v] /\RelV x u/\RelV y v
 | _,_,_, .cons r (.cons q .nil)=>⟨_,_,rfl,r,q⟩
def Ax.zero:∀{a:km kj},Ax [] a->a= []
 | _, .nil=>rfl
def Ax.dropLast {xs:km V}{a:km kj}(h:Ax xs a):Ax xs.dropLast a.dropLast:=by
 induction h with
 | nil=>exact .nil
 | cons r t ih=>
   cases t with
   | nil=>exact .nil
   | cons q t'=>exact .cons r ih
def Ax.reverse {xs:km V}{a:km kj}(h:Ax xs a):Ax xs.reverse a.reverse:=by
 induction h with
 | nil=>exact .nil
 | cons r t ih=>rw[ADN,ADN];exact Ax.append ih (.cons r .nil)
theorem Ax.rep {xs:km V}{a:km kj}(h:Ax xs a):∀k:Nat,Ax (List.replicate k xs).flatten (List.replicate k a).flatten
 | 0=> .nil
 | k+1=>by rw[ABo,ABo,ACU,ACU];exact Ax.append h (Ax.rep h k)
theorem foldl_rep (a:km kj):∀(k:Nat) (b:km kj),List.foldl (λc d=>c++d) b.toArray (List.replicate k a.toArray)=(b++(List.replicate k a).flatten).toArray
 | 0,b=>by simp
 | k+1,b=>by
   have e:b.toArray++a.toArray=(b++a).toArray:=by simp
   have f:(b++a)++(List.replicate k a).flatten=b++(List.replicate (k+1) a).flatten:=by rw[ABo,ACU,ACV]
   rw[<-f,<-foldl_rep a k (b++a),<-e,ABo,AAz]
section
variable {X:Cx}{Sr:km (ke×Obj)}{σ:St}{H:Hp}{s:ki}{l b:ke}{xs ys zs:km V}
def Inv.lset {a its':km kj}{n:Nat}{f:Array kj->Array kj}{t':Nat}(I:Inv X Sr σ H s)(c:H l=some (.lst xs))(e:s.heap.get? l=some {cls:= .type "list",data:= .seq a.toArray n})(d:f a.toArray=its'.toArray)(hv:Ax ys its')(hz:ys.length<=sizeLine):Inv X Sr σ (upd H l (.lst ys)) {s with heap:=s.heap.update l (Obj.mapSeq f),toks:=t'}:=by have q:=PySem.IsL.update e f;rw[d] at q;refine I.write (x:=l) (e:=l) (by rw[c];exact trivial) (.inl rfl) (λg u hb hu=>(ACr s.heap (Obj.mapSeq f) (AAk hb)).trans hu) ⟨_,q⟩ ?_;exact⟨hz,its',_,hv,q⟩
def Inv.lnew {a:km kj}{t':Nat}(I:Inv X Sr σ H s)(hv:Ax ys a)(hz:ys.length<=sizeLine):Inv X Sr σ (upd H s.heap.objs.size (.lst ys)) {s with heap:=s.heap.push {cls:= .type "list",data:= .seq a.toArray},toks:=t'}:=
 I.laid (λ_ _ q=>AAH _ q) (AAJ _) ⟨hz,a,0,hv,AAQ _ rfl⟩
def Inv.fresh (I:Inv X Sr σ H s):H s.heap.objs.size=none:=I.hok.fresh (AAJ _)
def Inv.lstM (I:Inv X Sr σ H s)(c:H l=some (.lst xs)):xs.length<=sizeLine/\∃(a:km kj) (n:Nat),Ax xs a/\xs.length=a.length/\s.heap.get? l=some {cls:= .type "list",data:= .seq a.toArray n}:=by obtain⟨z,a,n,r,e⟩:=I.hok l _ c;exact⟨z,a,n,r,r.length,e⟩
def Nx {n:Nat}(h:n<=sizeLine):Builtin.List.listTooLong n=false:=by unfold Builtin.List.listTooLong;exact AAS (by omega)
end
section
variable {X:Cx}
def Rr:V->km V->Hp->VK->Prop:=λx vs H Q=>∃l xs y,x= .ref l/\vs= [y] /\H l=some (.lst xs)/\xs.length<sizeLine/\Q .non (upd H l (.lst (xs ++ [y])))
def QG:jE X "list.append" Rr:=by intro f s g H x vs v i Q I c rv h;obtain⟨l,xs,y,rfl,rfl,b,hz,q⟩:=h;cases c;obtain⟨u,rfl,d⟩:=rv.one;obtain⟨z,a,n,r,hl,e⟩:=I.lstM b;refine ABg F.slot_list_append ⟨_,e,rfl⟩ F.entry_list_append (F.args_list_append_2 _ _) (PySem.list_append l a.toArray n u (by rw[AAN];omega)) ⟨e, ?_⟩;refine⟨.non,_,I.lset (its':=a ++ [u]) b e (by simp) (r.append (.cons d .nil)) ?_,rfl,q⟩;rw[AAn,List.length_singleton];omega
def Rs:V->km V->Hp->VK->Prop:=λx vs H Q=>∃l b xs a,x= .ref l/\vs= [.ref b] /\H l=some (.lst xs)/\H b=some (.lst a)/\xs.length+a.length<=sizeLine/\Q .non (upd H l (.lst (xs++a)))
def ZJ:jE X "list.extend" Rs:=by
 intro p s t H x vs v w Q I f rv h;obtain⟨l,b,xs,y,rfl,rfl,d,g,hz,q⟩:=h;cases f;obtain⟨u,rfl,i⟩:=rv.one;cases i;obtain⟨z,c,n,r,hl,e⟩:=I.lstM d;obtain⟨A,a,j,k,B,m⟩:=I.lstM g;have hsz:c.toArray.size+a.toArray.size<=sizeLine:=by rw[AAN,AAN];omega
 have o:¬(!c.toArray.isEmpty&&Builtin.List.listTooLong (c.toArray.size+a.toArray.size))=true:=by rw[Nx hsz,Bool.and_false];exact AAO
 refine ABg F.slot_list_extend ⟨_,e,rfl⟩ F.entry_list_extend (F.args_list_extend_2 _ _)
  (AutoSeq1.list_extend_list_list_0 l c.toArray n b a.toArray j o (by rw[AAN];omega) (by omega)) ⟨e,m, ?_⟩
 refine⟨.non,_,I.lset (its':=c++a) d e (by simp) (r.append k) ?_,rfl,q⟩;rw[AAn];omega
def qX:R2:=λx y H Q=>∃l b xs a,x= .ref l/\y= .ref b/\H l=some (.lst xs)/\H b=some (.lst a)/\xs.length+a.length<=sizeLine/\∀p,H p=none->Q (.ref p) (upd H p (.lst (xs++a)))
def l8:D9 X (binaryOp .Add) qX:=by
 intro o s p H x y v u Q I d f h;obtain⟨l,b,xs,t,rfl,rfl,g,i,hz,q⟩:=h;cases d;cases f;obtain⟨z,c,n,r,hl,e⟩:=I.lstM g;obtain⟨w,a,A,j,B,k⟩:=I.lstM i;refine PySem.P.add_list e k ?_ (by rw[AAN,AAN];omega);have m:c.toArray++a.toArray=(c++a).toArray:=by simp
 rw[m];exact⟨.ref _,_,I.lnew (t':=s.toks) (r.append j) (by rw[AAn];omega),rfl,q _ I.fresh⟩
def mX:R2:=λx y H Q=>∃l k xs,x= .ref l/\y= .int k/\H l=some (.lst xs)/\ -(2^63)<=k/\k<2^63/\xs.length*k.toNat<=sizeLine/\
 ∀p,H p=none->Q (.ref p) (upd H p (.lst (List.replicate k.toNat xs).flatten))
def Xn {a:Type}(xs:km a)(k:Nat):(List.replicate k xs).flatten.length=k*xs.length:=by
 induction k with
 | zero=>simp
 | succ k ih=>rw[ABo,ACU,AAn,ih,ADO,AEF]
def mH:D9 X (binaryOp .Mult) mX:=by
 intro C s D H x y v u Q I f g h;obtain⟨l,k,xs,rfl,rfl,i,h1,h2,hz,q⟩:=h;cases f;obtain⟨t,rfl⟩:=g;obtain⟨z,b,n,r,hl,e⟩:=I.lstM i;have j:b.toArray.size*k.toNat<=sizeLine:=by rw[AAN,<-hl];exact hz
 have o:¬b.toArray.size*k.toNat>(2^63-1)/8:=by
  have:(sizeLine:Nat)<=(2^63-1)/8:=by decide
  omega
 have p:¬(!Builtin.List.listFitsIndex k)=true:=by rw[fitsIndex_both h1 h2];exact AAO
 have w:¬Builtin.List.listTooLong (b.toArray.size*k.toNat)=true:=by rw[Nx j];exact AAO
 have A:List.foldl (λc d=>c++d) #[] (List.replicate (if b.toArray.isEmpty=true then 0 else k.toNat) b.toArray)=(List.replicate k.toNat b).flatten.toArray:=by
  have f0:∀m:Nat,List.foldl (λc d=>c++d) #[] (List.replicate m b.toArray)=(List.replicate m b).flatten.toArray:=λm=>by have:=foldl_rep b m [];rw[AA0] at this;exact this
  rw[f0];cases b with
  | nil=>simp
  | cons a E=>rw[AAC (by simp)]
 refine wpAny_binaryOp_repeat_ref (T:="list") (U:="int") (by decide) ⟨_,e,rfl⟩ (λB=>ACs B k t) noFill_list_mul F.fills_int_mul ADP repeat_list F.slot_int_index.lookup
  (ABg ADP (ACs s k t) F.entry_int_rmul (F.args_int_rmul_2 _ _) (int___rmul___int_list k t l b.toArray n)
    ⟨e,rfl,⟨_,e,rfl⟩,ABg F.slot_list_mul ⟨_,e,rfl⟩ F.entry_list_mul (F.args_list_mul_2 _ _) (AutoListH.list___mul___list_int_3 l b.toArray n k t p o w) ⟨e, ?_⟩⟩)
 rw[A];exact⟨.ref _,_,I.lnew (t':=s.toks) (r.rep k.toNat) (by rw[Xn,Nat.mul_comm];exact hz),rfl,q _ I.fresh⟩
end
section
variable {prog:fm}{w:fe}{A:Tb}{E:kj->ki->Prop}{s:ki}
set_option maxRecDepth 100000 in
end
end L2
namespace Att
open PySem PySem.W PySem.Calls PyProof.Rows
def MG {P:Params}{h:Wf}:∀(c:km Int) (vs:km kj),WellAll P h vs (c.map WData.int)->IntsAre vs c:=by
 intro c;induction c with
 | nil=> intro vs w;rw[ACt] at w;cases w;exact .nil
 | cons n c ih=>
   intro vs w;rw[AAP] at w;cases w with
   | cons a b=> cases a;exact .cons _ _ (ih _ b)
def Zm {l:OpenLaw}{n:Nat}(g:l.most=some n){P:Params}{h:Wf}{args:km WData}{vals:km kj}(f:l.row.toRowW.claim.pre args=true)(i:WellAll P h vals args):∃a vs b,vals= [Value.ref a] /\args= [WData.list (b.map WData.int)] /\h.get? a=some {cls:= .type "list",data:= .seq vs.toArray}/\IntsAre vs b/\b.length<=n:=by
 have e:WShape.hasAll [] args [.list .int] =true:=(pre_splitW f).1;have hc:l.pre.holds [] {args:=args}=true:=(pre_splitW f).2;obtain⟨d,r,rfl,h1,h2⟩:=hasAllW_cons e;obtain rfl:=hasAllW_nil h2;obtain⟨xs,rfl,h3⟩:=hasW_list h1;obtain⟨b,rfl⟩:=items_int h3;have j:b.length<=n:=by
  unfold OpenLaw.pre at hc;have c:(WTm.not (.lt (.lit (.int (n:Int))) (.len (.arg 0)))).holds [] {args:= [.list (b.map .int)] }=true:=by have c:=(holds_andW hc).1;rw[g] at c;exact c
  have h5:=condW_of c (w_not (w_lt w_lit (w_len_list (w_arg rfl))));rw[AAK] at h5;refine Nat.le_of_not_lt λq=> ?_;have k:(n:Int)<((b.length:Nat):Int):=by omega
  first
   | (rw[AAi k] at h5;exact absurd h5 (by decide))
   | (simp at h5;omega)
 cases i with
 | cons m o=>
   cases o;cases m with
   | list p s=>exact⟨_,_,b,rfl,rfl,p,MG b _ s,j⟩
def Zf (l:OpenLaw)(args:km WData):l.row.toRowW.claim.post args (.bool true) args=true:=
 postW_of (r:=l.row.toRowW) (X:=(true==true))
  (show WShape.has [] (.bool true) .bool=true by first | rfl|decide|simp[WShape.has,WShape.arms,WShape.armsAll])
  (show (WTm.eq .res (.lit (.bool true))).value [] {args:=args,res:=some (.bool true),after:=args}=some (.bool (true==true)) from w_eq_bool (w_res rfl) w_lit) rfl
def attach_call {l:OpenLaw}{n:Nat}{q:fm}{loose:km Str}{XP:(Str->kd kj)->Wf->Prop}{YP:fe->Wf->Prop}{d:DefRec}(p:l.most=some n)(s:d.params.defaults= [])(call:∀(w:fe) (s₀ b:ki) (mg j:Str->kd kj) (e:ke) (o:Obj) (k g c:kj) (a:ke) (vs:km kj) (h:km Int),Ground q loose [] XP w s₀ mg j b.heap->YP w b.heap-> b.heap.get? e=some o->o.data= .func (docDef d.name d.params d.body d.scope k g c)->b.heap.CodeRec g d.name->mg d.name=some (.ref e)-> b.heap.get? a=some {cls:= .type "list",data:= .seq vs.toArray}->IntsAre vs h->h.length<=n->b.gens= #[] -> codeAny (model l.prog w) callerA (.call (.ref e) ⟨[.ref a], []⟩) (λr i=>r= .ok (.ret (.bool true))/\OldK b.heap i.heap/\i.os=b.os/\AllBare i.gens) b):WalkO q loose XP YP l.row.toRowW d [] (λf vs=>PySem.call f vs):=by intro w s₀ b mg j G Y e o k g c t kV u hd v m x y args vals as z A B C D;obtain rfl:t= .none:=Dflts.none m s;obtain rfl:kV= .none:=Dflts.noKw m;obtain⟨a,vs,h,rfl,rfl,E,F,H⟩:=Zm p z C;refine enter_call (ACo (call w s₀ b mg j e o k g c a vs h G Y u (fd_plain hd) v x E F H y) λr i hq=> ?_);obtain⟨rfl,h2,h3,I⟩:=hq;exact⟨.inl ⟨.bool true, .bool true, [],rfl,λ_=>rfl, .bool true,Zf l _,λ_=>⟨List.Pairwise.nil,λ_ J=>(nomatch J)⟩⟩,h2,h3,I⟩
section
variable {prog:fm}{w:fe}{A:Tb}{E:kj->ki->Prop}{s:ki}{K:Frag}
def uk (h:Wf)(L d:ke):km (ke×Obj):=(List.range h.objs.size).filterMap λa=>if a=L\/a=d then none else (h.get? a).map λo=>(a,o)
end
end Att
namespace L2
open PySem PySem.Spec PyProof.Rows
theorem Qa:∀{vs:km kj} {a:km Int},IntsAre vs a->Ax (a.map V.int) vs
 | _,_, .nil=> .nil
 | _,_, .cons n t h=> .cons ⟨t,rfl⟩ (Qa h)
def j6 (H:Hp):Prop:=∀b,H b=none\/∃o xs,H b=some (.frz o (.lst xs))
def cN {P:fm}{w:fe}{K:AAB}{mg t:Str->kd kj}{CX:YW}{k:Nat}{y a:ke}{D:FuncData}{x:Str}{sp:Sp}{c:ki}{vs:km kj}{j:km Int}(E:K.In c.heap)(G:c.heap.Ns mainGlobals mg)(hb:c.heap.Ns builtinsNs t)(A:∀x:Str,x≠"__name__" ->t x=bootBuiltins x)(N:c.heap.NoLimit)(O:c.gens= #[])(ha:c.heap.get? a=some {cls:= .type "list",data:= .seq vs.toArray})(hi:IntsAre vs j)(hl:j.length<=sizeLine)(Q:Room k callerA)(F:∀base:Wf,K.In base->base.Ns mainGlobals mg->D8 P w K mg base CX k y D [x] sp)(R:∀(s:ki) (u:kj),BindsTo s D ⟨[u], []⟩ [(x,u)])(S:∀H:Hp,j6 H->FJ K H a (j.map V.int)->sp [.ref a] H (λv _=>v= .bl true) λ_ _ _=>False)(T:∀H e g,CX [] H c (λ_ _ _=>False) e g->False):codeAny (model P w) callerA (.call (.ref y) ⟨[.ref a], []⟩) (λr g=>r= .ok (.ret (.bool true))/\OldK c.heap g.heap/\g.os=c.os/\AllBare g.gens) c:=by
 have rv:=Qa hi;have l:=hi.length;have core:∀H:Hp,j6 H->FJ K H a (j.map V.int)->Ig P w H c.heap->(∀b,H b≠none->b=a)->(H a≠none->K.lookup a=none)->
  codeAny (model P w) callerA (.call (.ref y) ⟨[.ref a], []⟩) (λr g=>r= .ok (.ret (.bool true))/\OldK c.heap g.heap/\g.os=c.os/\AllBare g.gens) c:=by
  intro H I U hok J W;have f:∀{b:ke} {o:Obj},c.heap.get? b=some o->H b=none->(RS c.heap H).get? b=some o:=λe n=>cB e n;have B:∀{b:ke} {o:Obj} {es:Array DictEntry} {ep:Nat},c.heap.get? b=some o->o.data= .dict es ep->H b=none:=λ{b o es ep} e d=>by
   cases q:H b with
   | none=>rfl
   | some u=> have C:b=a:=J b (by rw[q];simp);subst C;rw[ha] at e;cases e;have d':Data.seq vs.toArray _=Data.dict es ep:=d;cases d'
  have i:∀{b:ke} {m:Str->kd kj},c.heap.Ns b m->(RS c.heap H).Ns b m:=λ{b m} ⟨o,es,ep,e,d,r⟩=>⟨o,es,ep,f e (B e d),d,r⟩;have L:K.In (RS c.heap H):=λb o e=>f (E b o e) (by
   cases q:H b with
   | none=>rfl
   | some u=>
     have C:b=a:=J b (by rw[q];simp);subst C;rw[W (by rw[q];simp)] at e;cases e)
  have X:Mod K mg (RS c.heap H):=⟨L,i G,⟨t,i hb,A⟩,let ⟨Y,h1,h2⟩:=N;⟨Y,i h1,h2⟩⟩;have Z:O7 P w K mg (RS c.heap H) callerA [] c H:=⟨rfl,X,λb o e=>gx e,Nat.le_of_eq (Y5 _ _),trivial,λb hb=>absurd (show b∈([] :km ke) from hb) (by simp),hok, .of_eq O⟩;refine ACo ((F _ L (i G)).run callerA [] c H ⟨[.ref a], []⟩ [.ref a] [.ref a] _ _ Q Z (R c (.ref a)) (.cons rfl .nil) (S H I U)) λr g h=> ?_;cases r with
  | error e=>exact(T H e g h).elim
  | ok fl=>
    cases fl with
    | next=>exact False.elim h
    | brk=>exact False.elim h
    | cont=>exact False.elim h
    | ret u=>
      obtain⟨v,H',os,bare,un,uQ,r',q⟩:=h;have q':v= .bl true:=q;subst q';obtain rfl:u=Value.bool true:=r';refine⟨rfl,OldK.of_keep λb o e=> ?_,os,bare⟩;cases q:H b with
      | none=>exact un.keep b o e q (by intro z;exact absurd (show b∈([] :km ke) from z) (by simp)) (by simp)
      | some u=>
        rcases I b with z|⟨ob,xs,z⟩
        .rw [q] at z;cases z
        .have z2:=un.frzs b ob _ z;obtain⟨M,_⟩:=hok b _ z;obtain⟨e2,_⟩:=uQ b _ z2;rw[e] at M;cases M;exact e2
 cases hk:K.lookup a with
 | some o=> have e:=E a o hk;rw[ha] at e;cases e;refine core (λ_=>none) (λ_=> .inl rfl) (.inr ⟨_,vs.toArray,_,hk,rfl,rfl,rfl,by rw[AAN,l];exact hl,by simpa using rv⟩) (λb u z=>by have p:(none:kd HO)=some u:=z;cases p) (λb z=>absurd rfl z) λz=>absurd rfl z
 | none=>
   refine core (λb=>if b=a then some (.frz {cls:= .type "list",data:= .seq vs.toArray} (.lst (j.map V.int))) else none) (λb=> ?_) (.inl (.inr ⟨{cls:= .type "list",data:= .seq vs.toArray},AAD rfl⟩)) (λb u z=> ?_) (λb z=> ?_) λ_=>hk
   .by_cases hb:b=a
    .exact .inr ⟨_,_,AAD hb⟩
    .exact .inl (AAC hb)
   .by_cases hb:b=a
    .have p:=(AAD hb).symm.trans z;cases p;subst hb;exact⟨ha,by rw[AAK];exact hl,vs,_,rv,ha⟩
    .have p:=(AAC hb).symm.trans z;cases p
   .by_cases hb:b=a
    .exact hb
    .exact absurd (AAC hb) z
abbrev KOf {K:AAB}{h:Wf}(_:K.In h):AAB:=K
def walk_of {l:PySem.W.OpenLaw}{n k:Nat}{q:fm}{loose:km Str}{XP:(Str->kd kj)->Wf->Prop}{YP:fe->Wf->Prop}{d:DefRec}{K:Params->AAB}{CX:fe->YW}{sp:fe->Sp}{x:Str}(z:l.most=some n)(m:n<=sizeLine)(A:d.params.defaults= [])(B:Room k callerA)(C:∀(w:fe) (h:Wf),YP w h->(K w.params).In h)(F:∀(w:fe) (mg:Str->kd kj) (i:ke) (h:Wf),(K w.params).In h->h.Ns mainGlobals mg->mg d.name=some (.ref i)-> ∃p:FuncData,(∀(s:ki) (u:kj),BindsTo s p ⟨[u], []⟩ [(x,u)])/\ ∀base:Wf,(K w.params).In base->base.Ns mainGlobals mg->D8 l.prog w (K w.params) mg base (CX w) k i p [x] (sp w))(D:∀(w:fe) (H:Hp) (a:ke) (j:km Int),j.length<=n->j6 H->FJ (K w.params) H a (j.map V.int)->sp w [.ref a] H (λv _=>v= .bl true) λ_ _ _=>False)(E:∀(w:fe) (H:Hp) (s:ki) (e:kj) (r:ki),CX w [] H s (λ_ _ _=>False) e r->False):PySem.W.WalkO q loose XP YP l.row.toRowW d [] (λf vs=>PySem.call f vs):=by refine Att.attach_call z A λw s₀ c mg Q i o R S I a vs j G Y U hd X J L M t N=> ?_;have y:=C w _ Y;obtain⟨p,hb,hF⟩:=F w mg i _ y G.T.g J;exact cN y G.T.g G.T.b G.T.builtins G.T.nolimit N L M (AAa t m) B hF hb (λH O P=>D w H a j t O P) λH e r=>E w H c e r
abbrev NE:YW:=λ_ _ _ _ _ _=>False
abbrev E0:XK:=λ_ _ _=>False
def qP {X:Cx}:Passes NE X E0:=λ_ _ _ _ _ _ _ h=>h.elim
structure VB (K:AAB) (x qual:Str) (st:Stmt) (f:Addr) (fd:FuncData):Prop where
 ex:∃(oc:Value) (od:Option Addr) (kV doc pm:Value) (an:Option Addr) (cdv ct:Value) (osl:Array (Option Value)),
  fd=PySem.W.fnOf x qual (EI st) (CO st) (A0 st) .none kV doc pm an cdv ct/\K.lookup f=some ⟨oc,od, .func fd,osl⟩/\PySem.W.codeIn K cdv qual=true
 kp:PySem.W.keepIn K (.ref f)=true
section
variable {P:fm}{w:fe}{K:AAB}{mg:Str->kd kj}{base:Wf}
def VB.ok {x qual:Str}{st:Stmt}{f:ke}{c:FuncData}{N b:km Str}{k:Nat}{sp:Sp}(F:VB K x qual st f c)(S:DZ N b (A0 st))(len:∀vs H Q E,sp vs H Q E->vs.length=b.length)(d:∀(a:kj) (A:Tb) (outer:km Env) (s:ki) (H:Hp) (vs:km V) (Q:VK) (E:XK),Room k (A.deeper (envOfC qual (A0 st) s.heap.objs.size f a))->sp vs H Q E-> ∃t,TJ (PJ NE P w K mg base N qual (A0 st) f a A outer s H E).nox (CO st) t/\t {nx:=λ_ e=>Q .non e,rt:=Q} (start N vs) H):D8 P w K mg base NE (k+1) f c b sp:=by obtain⟨o,p,kV,g,r,u,a,ct,i,rfl,j,l⟩:=F.ex;refine jM j l S len λA outer s H vs Q E m n=> ?_;obtain⟨t,h,q⟩:=d a A outer s H vs Q E m n;exact⟨t,h.nox,q⟩
def VB.binds {x qual:Str}{st:Stmt}{f:ke}{i:FuncData}{c:km Str}(F:VB K x qual st f i)(h:∀(kV a d:kj) (e:kd ke) (b ct:kj) (g:km kj),g.length=c.length->bindArgs (PySem.W.fnOf x qual (EI st) (CO st) (A0 st) .none kV a d e b ct) ⟨g, []⟩=pure (c.zip g)):Binds K i c [] :=by obtain⟨k,l,kV,a,d,e,b,ct,j,rfl,m,n⟩:=F.ex;exact .all (h kV a d e b ct)
def bQ {x qual:Str}{st:Stmt}{f:ke}{h:kj}{i e:kd ke}{d:Array (kd kj)}{kV b g a ct:kj}(l:K.lookup f=some ⟨h,i, .func (PySem.W.fnOf x qual (EI st) (CO st) (A0 st) .none kV b g e a ct),d⟩)(c:PySem.W.codeIn K a qual=true)(k:PySem.W.keepIn K (.ref f)=true):VB K x qual st f (PySem.W.fnOf x qual (EI st) (CO st) (A0 st) .none kV b g e a ct):=⟨⟨h,i,kV,b,g,e,a,ct,d,rfl,l,c⟩,k⟩
end
section
variable {X:Cx}
def pv (i:Nat){x:Str}{pos:Pos}(hN:X.N[i]? =some x:=by rfl)(hv:oB X.env.scope x:=by first | exact Or.inl rfl|exact Or.inr (Or.inl rfl)|exact Or.inr (Or.inr rfl))(hd:(x==("__debug__" :Str))=false:=by decide)(a:(x==("__classdict__" :Str))=false:=by decide):PE X (.Name x pos) (DX i):=WH hN hv hd a
end
def pp {c A B:Prop}[Decidable c](h1:c->A)(h2:¬c->B):if c then A else B:=by
 by_cases h:c
 .rw [AAD h];exact h1 h
 .rw [AAC h];exact h2 h
def TK (H a:Hp):Prop:=∀b o,H b=some o->a b=some o
def TK.free {H a:Hp}(e:TK H a){l:ke}(h:a l=Option.none):H l=Option.none:=by
 cases q:H l with
 | none=>rfl
 | some o=> rw[e l o q] at h;cases h
def TK.seq {K:AAB}{H b:Hp}{a:ke}{xs:km V}(e:TK H b)(h:FJ K H a xs):FJ K b a xs:=by
 rcases h with(h|⟨o,h⟩)|h
 .exact .inl (.inl (e _ _ h))
 .exact .inl (.inr ⟨o,e _ _ h⟩)
 .exact .inr h
theorem K5 {c d:Type}[BEq c][LawfulBEq c]{k:c}{a:d}:∀{l:km (c×d)},l.lookup k=some a->(k,a)∈l
 | [],h=>by simp at h
 | (n,b)::r,h=>by
   rw[AEG] at h;cases e:k==n with
   | true=>
     rw[e] at h;have f:k=n:=by simpa using e
     have hb:b=a:=by simpa using h
     subst f hb;exact ABl
   | false=> rw[e] at h;exact ABW _ (K5 h)
theorem QF {c d:Type}[BEq c][LawfulBEq c]{k:c}{a:d}:∀{l:km (c×d)},(k,a)∈l->∃b,l.lookup k=some b
 | [],h=>nomatch h
 | (n,b)::r,h=>by
   rw[AEG];cases e:k==n with
   | true=>exact⟨b,rfl⟩
   | false=>
     rcases AAF.mp h with z|z
     .have:k=n:=congrArg Prod.fst z;rw[this] at e;simp at e
     .exact QF z
theorem HD {env:Env}{F:Str×NameKind->km (Str×ke)->Sem (ForInStep (km (Str×ke)))}(h1:∀n r c,env.cells.lookup n=some c->F (n, .free) r=pure (.yield ((n,c)::r)))(h2:∀n k r,k≠NameKind.free->F (n,k) r=pure (.yield r)):∀(names:km (Str×NameKind)) (f:km (Str×ke)),(∀x∈names,x.2= .free->∃c,env.cells.lookup x.1=some c)-> ∃cl,(forIn names f F:Sem _)=pure cl/\(∀p∈cl,p∈f\/env.cells.lookup p.1=some p.2)/\(∀p∈f,p∈cl)/\∀x∈names,x.2= .free->∃c,(x.1,c)∈cl
 | [],f,_=>⟨f,rfl,λp hp=> .inl hp,λp hp=>hp,λx hx=>nomatch hx⟩
 | (n,k)::r,f,h=>by
   by_cases hk:k= .free
   .subst hk;obtain⟨c,hc⟩:=h (n, .free) ABl rfl;obtain⟨cl,e,a,b,d⟩:=HD h1 h2 r ((n,c)::f) (λx hx=>h x (ABW _ hx));refine⟨cl, ?_,λp hp=> ?_,λp hp=>b p (ABW _ hp),λx hx g=> ?_⟩
    .rw [ACW,h1 n f c hc];exact e
    .rcases a p hp with z|z
     .rcases AAF.mp z with z|z
      .subst z;exact .inr hc
      .exact .inl z
     .exact .inr z
    .rcases AAF.mp hx with z|z
     .subst z;exact⟨c,b _ ABl⟩
     .exact d x z g
   .obtain ⟨cl,e,a,b,d⟩:=HD h1 h2 r f (λx hx=>h x (ABW _ hx));refine⟨cl, ?_,a,b,λx hx g=> ?_⟩
    .rw [ACW,h2 n k f hk];exact e
    .rcases AAF.mp hx with z|z
     .subst z;exact absurd g hk
     .exact d x z g
def Im {env:Env}{scope:Scope}(h:∀x∈scope.names,x.2= .free->∃c,env.cells.lookup x.1=some c):∃cl,closureFor scope env=pure cl/\(∀y c,cl.lookup y=some c->env.cells.lookup y=some c)/\∀y,(y,NameKind.free)∈scope.names->∃c,cl.lookup y=some c:=by
 obtain⟨cl,e,a,_,d⟩:=HD (env:=env) (F:=λx cs=>match x with | (name,kind)=>if (kind==NameKind.free)=true then do let a <-cellOf env name;pure (ForInStep.yield ((name,a)::cs)) else pure (ForInStep.yield cs))
  (λn r c hc=>by
    show (do let a <-cellOf env n;pure (ForInStep.yield ((n,a)::r)):Sem _)=_;unfold cellOf;rw[hc];rfl)
  (λn k r hk=>by
    have:(k==NameKind.free)=false:=by simpa using hk
    simp[this]) scope.names [] h
 refine⟨cl, ?_,λy c q=> ?_,λy hy=> ?_⟩
 .unfold closureFor;have b:(forIn scope.names ([] :km (Str×ke)) λx cs=>match x with | (name,kind)=>if (kind==NameKind.free)=true then do let a <-cellOf env name;pure (ForInStep.yield ((name,a)::cs)) else pure (ForInStep.yield cs):Sem _) >>= (λr=>pure r)=pure cl:=by rw[e];rfl
  exact b
 .rcases a _ (K5 q) with z|z
  .exact nomatch z
  .exact z
 .obtain ⟨c,hc⟩:=d (y, .free) hy rfl;exact QF hc
def Ik (env:Env)(sc:Scope)(cl:km (Str×ke))(C:ke):Env:=
 {scope:=sc,locals:=C,globals:=env.globals,cells:=cl,qual:=env.qual,func:=none,code:=env.code,frame:=env.frame,builtins:=env.builtins}
def blk (X:Cx)(sc:Scope)(N:km Str)(cl:km (Str×ke))(C:ke)(s:ki)(H:Hp)(ex:km ke)(pn:km (ke×Obj)):Cx where
 prog:=X.prog
 w:=X.w
 K:=X.K
 mg:=X.mg
 base:=X.base
 A:=X.A
 N:=N
 s₀:=s
 H₀:=H
 env:=Ik X.env sc cl C
 outer:=X.stack
 stack:=X.stack
 ex:=ex
 fn:=λ_=>false
 calm:=X.calm
 pn:=pn
 xe:=λ_ _=>False
section
variable {X:Cx}{Sr:km (ke×Obj)}{σ:St}{H:Hp}{s:ki}{fp:km ke}{sc:Scope}{N:km Str}{cl:km (Str×ke)}
def Inv.notStk (I:Inv X Sr σ H s){b:ke}(h1:b≠X.env.locals)(h2:b ∉ X.fs):b ∉ Z8 X.stack:=λz=>by
 rcases AAF.mp (I.stkSub b z) with e|e
 .exact h1 e
 .exact h2 e
def Inv.szLt (I:Inv X Sr σ H s){x:Str}{c:ke}(e:X.env.cells.lookup x=some c):c<s.heap.objs.size:=by obtain⟨v,q⟩:=I.cell x c e;exact q.lt
def kP (I:Inv X Sr σ H s)(d:∀b∈fp,GJ X Sr H b)(f:∀b∈fp,b<s.heap.objs.size)(hk:sc.kind= .function)(h1:∀y c,cl.lookup y=some c->X.env.cells.lookup y=some c)(h2:∀y,(sc.names.lookup y=some .cell\/sc.names.lookup y=some .free)->∃c,cl.lookup y=some c):(blk X sc N cl s.heap.objs.size s H fp (X.pn++Sr)).Ok where
 mod:=I.ok.mod
 kind:=hk
 glob:=I.ok.glob
 blt:=I.ok.blt
 above:=AAJ _
 inj:=λx y c a b=>I.ok.inj x y c (h1 x c a) (h1 y c b)
 has:=λx hx=>h2 x hx
 cab:=λx c z=>nomatch z
 hd:=I.ok.hd
 frames:=I.ok.frames
 stk:= .inl rfl
 exf:=λb hb=>⟨AAM (f b hb),λx c e=>(d b hb).2.2.2.2.1 x c (h1 x c e)⟩
 bs:=I.bs
 bsz:=AAa I.ok.bsz I.sz
 noex:=λb o e hb=>by
  rcases (d b hb).2.2.2.1 with z|z
  .exact I.ok.noex b o e z
  .exact absurd (AAW (AAG (I.ok.bs b o e).1) z) (ABd _)
 exfs:=λb hb=>I.notStk (d b hb).2.1 (d b hb).2.2.1
 funs:=I.stack
 frf:=I.stkFree
def Cj (own:Nat)(ix:km Nat)(σ:St):St:=List.replicate own none++ix.map λi=>(σ[i]?).getD none
def Yj {own:Nat}{ix:km Nat}{σ:St}:(Cj own ix σ).length=own+ix.length:=by simp[Cj]
def Il {own:Nat}{ix:km Nat}{σ:St}{j:Nat}{v:V}(h:(Cj own ix σ)[j]? =some (some v)):own<=j/\∃i,ix[j-own]? =some i/\σ[i]? =some (some v):=by
 unfold Cj at h;by_cases hj:j<own
 .rw [ABn (by simpa using hj),ABx] at h;simp[hj] at h
 .have Y7:own<=j:=by omega
  rw[ABf (by simpa using Y7),ABy,AAs] at h;refine⟨Y7, ?_⟩;cases e:ix[j-own]? with
  | none=>rw[e] at h;simp at h
  | some i=>
    rw[e] at h;refine⟨i,rfl, ?_⟩;have h':(σ[i]?).getD none=some v:=by simpa using h
    cases a:σ[i]? with
    | none=>rw[a] at h';simp at h'
    | some o=>
      rw[a] at h';have:o=some v:=by simpa using h'
      rw[this]
structure aS (X:Cx) (sc:Scope) (own:Nat) (ix:List Nat) (N:List Str):Prop where
 len:N.length=own+ix.length
 out:∀j i,ix[j]? =some i->∃x,N[own+j]? =some x/\X.N[i]? =some x/\X.env.scope.names.lookup x=some .cell/\sc.names.lookup x=some .cell
def ao {own:Nat}{ix:km Nat}{h':Wf}{m:Str->kd kj}{t':Nat}(I:Inv X Sr σ H s)(C:∀b∈fp,GJ X Sr H b)(D:∀b∈fp,b<s.heap.objs.size)(hk:sc.kind= .function)(h1:∀y c,cl.lookup y=some c->X.env.cells.lookup y=some c)(h2:∀y,(sc.names.lookup y=some .cell\/sc.names.lookup y=some .free)->∃c,cl.lookup y=some c)(F:aS X sc own ix N)(E:h'.Ns s.heap.objs.size m)(k:∀b o,s.heap.get? b=some o->h'.get? b=some o):Inv (blk X sc N cl s.heap.objs.size s H fp (X.pn++Sr)) [] (Cj own ix σ) H {s with heap:=h',toks:=t'} where
 ok:=kP I C D hk h1 h2
 os:=rfl
 bare:=I.bare
 base:=Un.kept k
 loc:=by
  refine⟨m,E,λi x v G J S=> ?_⟩;obtain⟨Y7,K,L,es⟩:=Il J;obtain⟨y,t,M,w,A⟩:=F.out _ _ L;have g:x=y:=by have h:N[i]? =some x:=G;rw[show own+(i-own)=i by omega,h] at t;exact AAV t
  subst g;obtain⟨m0,O,j⟩:=I.loc;obtain⟨u,r,l⟩:=j K x v M es (.inr (.inl w));refine⟨u,r, ?_⟩;rcases l with⟨z,_⟩|⟨_,c,P,z⟩
  .have B:X.env.scope.names.lookup x=some .local:=z;rw[w] at B;cases B
  .obtain ⟨Q,f⟩:=h2 x (.inl A);have:=h1 x Q f;rw[P] at this;cases this;obtain⟨o,n,hd⟩:=z;exact .inr ⟨.inl A,c,f,o,k c o n,hd⟩
 cell:=λx c e=>by obtain⟨v,o,n,hd⟩:=I.cell x c (h1 x c e);exact⟨v,o,k c o n,hd⟩
 free:=I.hok.fresh (AAJ _)
 freeC:=λx c e=>I.freeC x c (h1 x c e)
 pin:=λp hp=>by
  have R:p∈X.pn++Sr:=by simpa[blk] using hp
  obtain⟨a,b,c,d,e⟩:=I.pin p R;exact⟨k _ _ a,b,AAM (AAG a),I.notStk c d,e⟩
 hok:=I.hok.kept k
 len:=by rw[Yj];exact F.len.symm
def XE {own:Nat}{ix:km Nat}{σ':St}{d:Hp}{e:ki}{a:km (ke×Obj)}(I:Inv X Sr σ H s)(c:∀b∈fp,GJ X Sr H b)(f:∀b∈fp,b<s.heap.objs.size)(B:Inv (blk X sc N cl s.heap.objs.size s H fp (X.pn++Sr)) a σ' d e):Inv X Sr σ d e:=
 I.call' (ch:=fp) B.os B.base B.hok B.bare λb hb=>⟨(c b hb).2.2.2.1,(c b hb).2.1,(c b hb).2.2.2.2.1,(c b hb).2.2.2.2.2⟩
def TN {d:Hp}{σ':St}{a:ki}{C:ke}{h':Wf}(I:Inv X Sr σ H s)(f:C=s.heap.objs.size)(g:Inv X Sr σ' d a)(h:d C=none)(hs:Heap.SameBut C a.heap h'):Inv X Sr σ' d {a with heap:=h'}:=by subst f;refine g.turned (t':=a.toks) (it:=s.heap.objs.size) (λb o hb e=>(hs.2 b hb).trans e) h (ABR I.lt) (.inr I.sz) (λx c e=>AAM (I.szLt e)) λp hp=>AAM (AAG (I.pin p hp).1)
end
def jH (X:Cx)(a:km kc)(t:TT):Prop:=
 ∀(d:km (ke×Obj)) (s:ki) (b:St) (H:Hp) (Q:gn->Hp->Prop),Inv X d b H s->t b H Q->
  wpAny (model X.prog X.w) X.A (forIn a true λc r=>if r=true then do let ok <-isTrue c X.env (eval c X.env);pure (ForInStep.yield ok) else pure (ForInStep.yield r)) (TP X d b Q) X.xe s
def i7:TT:=λ_ H Q=>Q true H
def Xz {X:Cx}:jH X [] i7:=λ_ _ _ H _ I h=>wpAny_tests_nil ⟨H,I,h⟩
def iE {X:Cx}{c:kc}{t:TT}(hc:PT X c t):jH X [c] t:=λa s b H Q I h=>wpAny_tests_one (hc a s b H Q I h)
def NO (own:Nat)(g:TG):Prop:=∀v b H Q,g v b H Q->g v b H λa c=>Q a c/\a.length=b.length/\∀j,own<=j->a[j]? =b[j]?
def NP (own:Nat)(g:VG):Prop:=∀vs b H Q,g vs b H Q->g vs b H λa c=>Q a c/\a.length=b.length/\∀j,own<=j->a[j]? =b[j]?
def RK {own i:Nat}(h:i<own):NO own (Bn i):=λv a H Q q=>⟨q,by simp,λj hj=>AAb (by omega)⟩
def XY {own:Nat}:NP own MD:=λvs a H Q q=>⟨q.1,q.2,rfl,λ_ _=>rfl⟩
def Nf {own:Nat}{t:TG}{u:VG}(h1:NO own t)(m1:∀v b H Q d,(∀a c,Q a c->d a c)->t v b H Q->t v b H d)(h2:NP own u)(m2:∀v b H Q d,(∀a c,Q a c->d a c)->u v b H Q->u v b H d):NP own (DI t u):=by intro vs b H Q q;obtain⟨v,r,e,q⟩:=q;refine⟨v,r,e,m1 _ _ _ _ _ (λa c z=> ?_) (h1 _ _ _ _ q)⟩;obtain⟨z,l,g⟩:=z;refine m2 _ _ _ _ _ (λh m f=> ?_) (h2 _ _ _ _ z);obtain⟨f,i,k⟩:=f;exact⟨f,i.trans l,λj hj=>(k j hj).trans (g j hj)⟩
def MY {i:Nat}:∀v b H Q c,(∀a d,Q a d->c a d)->Bn i v b H Q->Bn i v b H c:=λ_ _ _ _ _ m q=>m _ _ q
def RL:∀v b H Q c,(∀a d,Q a d->c a d)->MD v b H Q->MD v b H c:=λ_ _ _ _ _ m q=>⟨q.1,m _ _ q.2⟩
def Tc {t:TG}{u:VG}(m1:∀v b H Q c,(∀a d,Q a d->c a d)->t v b H Q->t v b H c)(m2:∀v b H Q c,(∀a d,Q a d->c a d)->u v b H Q->u v b H c):∀v b H Q c,(∀a d,Q a d->c a d)->DI t u v b H Q->DI t u v b H c:=λ_ _ _ _ _ m ⟨v,r,e,q⟩=>⟨v,r,e,m1 _ _ _ _ _ (λ_ _ z=>m2 _ _ _ _ _ m z) q⟩
def VP (J:It)(D:ke)(σ0:St)(g:TG)(f:TT)(h:TE)(Q:Hp->Prop)(W:Nat->Nat->Hp->Prop):Prop:=
 ∀i m H,W i m H->(J.stop i H/\Q H)\/(J.go i H/\∀x c,J.yld i H x c->g x σ0 c λa j=>f a j λok d=>
  if ok=true then h a d λy e=>∃ys,e D=some (.lst ys)/\ys.length<sizeLine/\∃b,b<m/\W (i+1) b (upd e D (.lst (ys ++ [y]))) else ∃b,b<m/\W (i+1) b d)
def d9 (b:TI)(own:Nat)(ix:km Nat)(g:TG)(c:TT)(d:TE):TE:=λa H Q=>b a H λJ H1=>∀D,H1 D=none->
 ∃W:Nat->Nat->Hp->Prop,(∃m,W 0 m (upd H1 D (.lst [])))/\VP J D (Cj own ix a) g c d (Q (.ref D)) W
section
variable {X:Cx}{tg elt iter:kc}{ifs:km kc}{scope:Scope}{pos:Pos}{wi:TI}{own:Nat}{ix:km Nat}{N:km Str}{g:TG}{tt:TT}{te:TE}
structure GG (X:Cx) (tg elt:Expr) (ifs:List Expr) (scope:Scope) (own:Nat) (ix:List Nat) (N:List Str) (g:TG) (tt:TT) (te:TE):Prop where
 kind:scope.kind= .function
 nocell:∀y∈scope.names,y.2≠ .cell
 names:∀y∈scope.names,y.2= .local->scope.names.lookup y.1=some .local
 frees:∀y∈scope.names,y.2= .free->X.env.scope.names.lookup y.1=some .cell
 ins:aS X (relabel scope X.env) own ix N
 keep:NO own g
 tgt:∀cl C s H ex pn,PG (blk X (relabel scope X.env) N cl C s H ex pn) tg g
 tst:∀cl C s H ex pn,jH (blk X (relabel scope X.env) N cl C s H ex pn) ifs tt
 val:∀cl C s H ex pn,PE (blk X (relabel scope X.env) N cl C s H ex pn) elt te
def FZ {env:Env}{y:Str}{k:NameKind}(c:∀y∈scope.names,y.2≠ .cell)(h:(y,k)∈(relabel scope env).names)(hk:k= .cell\/k= .free):(y,NameKind.free)∈scope.names:=by
 obtain⟨⟨n,b⟩,a,e⟩:=AAZ.mp (show (y,k)∈scope.names.map _ from h);dsimp only at e;split at e
 .rename_i hc;cases e;have:b= .free:=by cases b <;> simp_all
  subst this;exact a
 .cases e;rcases hk with z|z
  .subst z;exact absurd rfl (c _ a)
  .subst z;exact a
def Yr {B:km (ke×Obj)}{M:St}{H:Hp}{s:ki}{fp:km ke}{cl:km (Str×ke)}{it:ke}{tn:Nat->Wf->Prop}{J:It}{D:ke}{R:Result->ki->Prop}{Qh:Hp->Prop}{W:Nat->Nat->Hp->Prop}(hc:X.calm=true)(O:GG X tg elt ifs scope own ix N g tt te)(T:MB X.prog X.w X.K tg J fp it tn)(I:Inv X B M H s)(hf:∀b∈fp,GJ X B H b)(Dp:∀b∈fp,b<s.heap.objs.size)(hW:VP J D (Cj own ix M) g tt te Qh W)(hR:∀σ' a P,Inv (blk X (relabel scope X.env) N cl s.heap.objs.size s H fp (X.pn++B)) [] σ' a P->Qh a->R (.ok .next) P)(n:Nat)(s0:ki)(h0:∃i a,Inv (blk X (relabel scope X.env) N cl s.heap.objs.size s H fp (X.pn++B)) [] (Cj own ix M) a s0/\tn i s0.heap/\(∀b∈fp,a b=none)/\W i n a):codeAny (model X.prog X.w) X.A (.compLoop (.ListComp elt [⟨tg,iter,ifs,0⟩] scope pos) 0 (.ref it) (.ref D) (Ik X.env (relabel scope X.env) cl s.heap.objs.size)) R s0:=by
 refine codeAny_loop rfl (λn P=>∃i a,Inv (blk X (relabel scope X.env) N cl s.heap.objs.size s H fp (X.pn++B)) [] (Cj own ix M) a P/\tn i P.heap/\(∀b∈fp,a b=none)/\W i n a) (λn s1 h1=> ?_) n h0;obtain⟨i,H1,B1,S,U,w1⟩:=h1;generalize f:blk X (relabel scope X.env) N cl s.heap.objs.size s H fp (X.pn++B)=Y at *;have eA:Y.A=X.A:=by rw[<-f];rfl
 have Z:Y.prog=X.prog:=by rw[<-f];rfl
 have eW:Y.w=X.w:=by rw[<-f];rfl
 have eK:Y.K=X.K:=by rw[<-f];rfl
 have eE:Ik X.env (relabel scope X.env) cl s.heap.objs.size=Y.env:=by rw[<-f];rfl
 have eX:Y.xe=λ_ _=>False:=by rw[<-f];rfl
 have eC:Y.calm=true:=by rw[<-f];exact hc
 have hg:PG Y tg g:=by rw[<-f];exact O.tgt _ _ _ _ _ _
 have ht:jH Y ifs tt:=by rw[<-f];exact O.tst _ _ _ _ _ _
 have hv:PE Y elt te:=by rw[<-f];exact O.val _ _ _ _ _ _
 have k:∀{a:Hp},(∀b∈fp,a b=none)->∀b∈fp,GJ Y [] a b:=λ{a} hn b hb=>by
  obtain⟨_,a1,a2,a3,a4,a5⟩:=hf b hb;refine⟨hn b hb, ?_, ?_, ?_, ?_, ?_⟩
  .rw [<-f];exact AAM (Dp b hb)
  .rw [<-f];exact I.notStk a1 a2
  .rw [<-f];exact .inl hb
  .intro x c e;exact(B1.ok.exf b (by rw[<-f];exact hb)).2 x c e
  .intro p hp;have:p∈X.pn++B:=by rw[<-f] at hp;simpa[blk] using hp
   exact a5 p this
 rw[eE,<-eA,<-Z,<-eW];show wpAny _ _ ((compTurn (.ListComp elt [⟨tg,iter,ifs,0⟩] scope pos) 0 (.ref it) (.ref D) Y.env).onRaise (λx=>do noteFrame x Y.env;theTreesLotGoes x)) _ _ s1;refine wpAny_noted ?_;rw[compTurn_list];have ff:∀{α:Type} {t:Sem α} {Q:α->ki->Prop} {E:kj->ki->Prop} {s:ki},wpAny (model Y.prog Y.w) Y.A t Q Y.xe s->wpAny (model Y.prog Y.w) Y.A t Q E s:=λh=>ABv h (λ_ _ q=>q) λ_ _ z=>by rw[eX] at z;exact z.elim
 refine AAA (ABw (AAA ?_));rcases hW i n H1 w1 with⟨stop,qn⟩|⟨go,step⟩
 .have zd:=λE=>T.done Y Z eW eK eC i [] s1 _ H1 E B1 (k U) S stop;rw[<-Z,<-eW] at zd;refine Bc (zd _) λr s4 ⟨hr,I4⟩=> ?_;subst hr;exact AAE (hR _ _ _ I4 qn)
 .have zi:=λE=>T.item Y Z eW eK eC i [] s1 _ H1 E B1 (k U) S go;rw[<-Z,<-eW] at zi;refine Bc (zi _) λr s4 ⟨u,hr,h4⟩=> ?_;subst hr;refine AAA (Bc h4 λ_ s5 ⟨x,H5,I5,r5,y5,C,fr5⟩=> ?_);have I5':=I5.pinned (k fr5) (T.obj _ _ C);refine AAA (Bc (ff (hg _ s5 _ H5 x u _ I5' r5 (O.keep _ _ _ _ (step x H5 y5)))) λ_ s6 ⟨l,H6,I6,q6,l6,k6⟩=> ?_);refine AAA (Bc (ff (ht _ s6 l H6 _ I6 q6)) λok s7 ⟨H7,I7,q7⟩=> ?_);have back:∀{F:Hp} {G:ki} {L:Nat},Inv Y ([] ++ LD fp s5.heap) l F G->L<n->W (i+1) L F->
   ∃m,m<n/\∃i a,Inv Y [] (Cj own ix M) a G/\tn i G.heap/\(∀b∈fp,a b=none)/\W i m a:=λ{F G L} I8 hm w8=>by
   refine⟨L,hm,i+1,F,I8.unpinned.weak l6.symm (λj v hj=> ?_),T.keep _ _ _ C λb hb o e=>(I8.pin (b,o) (AAm _ (AAm _ (EB hb e)))).1,λb hb=> ?_,w8⟩
   .rw [k6 j (Il hj).1];exact hj
   .obtain ⟨o,e,d⟩:=T.obj _ _ C b hb;exact(I8.pin (b,o) (AAm _ (AAm _ (EB hb e)))).2.1
  cases ok with
  | false=> obtain⟨L,hm,w8⟩:=q7;exact AAE ⟨rfl,back I7 hm w8⟩
  | true=> refine AAA (AAA (Bc (ff (hv _ s7 l H7 _ I7 q7)) λyv G ⟨y,F,I8,r8,ys,hD,hz,L,hm,w8⟩=> ?_));refine AAA (Bc (ff (QG _ G l F (.ref D) [y] (.ref D) [yv] (λ_ H9=>H9=upd F D (.lst (ys ++ [y]))) I8 rfl (.cons r8 .nil) ⟨D,ys,y,rfl,rfl,hD,hz,rfl⟩)) λ_ s9 ⟨_,H9,I9,_,e9⟩=> ?_);subst e9;exact AAE (AAE ⟨rfl,back I9 hm w8⟩)
def TW {f:km (ke×Obj)}{u:St}{H:Hp}{s:ki}{use:kd (kj->Sem Unit)}{Q:kj->ki->Prop}{it:ke}{fp:km ke}{cl:km (Str×ke)}{tn:Nat->Wf->Prop}{J:It}{Qd:ke->Hp->Prop}(hc:X.calm=true)(O:GG X tg elt ifs scope own ix N g tt te)(T:MB X.prog X.w X.K tg J fp it tn)(I:Inv X f u H s)(P:∀b∈fp,GJ X f H b)(st:tn 0 s.heap)(h1:∀y c,cl.lookup y=some c->X.env.cells.lookup y=some c)(h2:∀y,(y,NameKind.free)∈scope.names->∃c,cl.lookup y=some c)(hq:∀D,H D=none->∃W:Nat->Nat->Hp->Prop,(∃m,W 0 m (upd H D (.lst [])))/\VP J D (Cj own ix u) g tt te (Qd D) W)(R:∀D C j k,(∃m,k.heap.Ns C m)->Inv X f u j k->(∀h v,Inv X f h j v->∀h',Heap.SameBut C v.heap h'->Inv X f h j {v with heap:=h'})->C≠X.env.locals->(∀x c,X.env.cells.lookup x=some c->C≠c)->Qd D j-> compPost (model X.prog X.w) X.A X.xe use Q (.ref D) C (.ok .next) k):wpAny (model X.prog X.w) X.A (newList []) (λl n=>wpAny (model X.prog X.w) X.A (newFunctionEnv scope X.env.globals cl [] X.env.qual none .none (some X.env)) (λd p=> codeAny (model X.prog X.w) X.A (.compStart (.ListComp elt [⟨tg,iter,ifs,0⟩] scope pos) 0 (.ref it) l {d with scope:=relabel scope X.env}) (compPost (model X.prog X.w) X.A X.xe use Q l d.locals) p) X.xe n) X.xe s:=by
 refine ABQ ?_ (by simp[sizeOk]);have i:Inv X f u (upd H s.heap.objs.size (.lst [])) {s with heap:=s.heap.push {cls:= .type "list",data:= .seq ([] :km kj).toArray}}:=I.lnew (t':=s.toks) .nil (ABS _);have S:=I.fresh;obtain⟨W,⟨m0,U⟩,Y⟩:=hq _ S;have Z:∀b∈fp,b<s.heap.objs.size:=λb hb=>by obtain⟨o,e,_⟩:=T.obj _ _ st b hb;exact AAG e
 have E:∀b∈fp,GJ X f (upd H s.heap.objs.size (.lst [])) b:=λb hb=>by obtain⟨a0,ar⟩:=P b hb;exact⟨by rw[Af (AAM (Z b hb))];exact a0,ar⟩
 generalize uV:({s with heap:=s.heap.push {cls:= .type "list",data:= .seq ([] :km kj).toArray}}:ki)=s3 at i;have r:tn 0 s3.heap:=T.keep _ _ _ st λb hb o e=>by rw[<-uV];exact AAH _ e
 have F:∀b∈fp,b<s3.heap.objs.size:=λb hb=>by obtain⟨o,e,_⟩:=T.obj _ _ r b hb;exact AAG e
 refine wpAny_newFunctionEnv O.nocell (by intro y hy;simp at hy) (λa oJ uW=> ?_) O.kind;have M:∀b o,s3.heap.get? b=some o->a.get? b=some o:=λb o e=>uW.extBut b o (AAM (AAG e)) (AAH _ e);have jP:∀y,((relabel scope X.env).names.lookup y=some .cell\/(relabel scope X.env).names.lookup y=some .free)->∃c,cl.lookup y=some c:=λy hy=>by
  rcases hy with z|z
  .exact h2 y (FZ O.nocell (K5 z) (.inl rfl))
  .exact h2 y (FZ O.nocell (K5 z) (.inr rfl))
 have B:=ao (N:=N) (t':=s3.toks+([] :km (Str×kj)).length) i E F (sc:=relabel scope X.env) O.kind h1 jP O.ins oJ M;have t:tn 0 a:=T.keep _ _ _ r λb hb o e=>M b o e;have loop:∀G:ki,G={s3 with heap:=a,toks:=s3.toks+([] :km (Str×kj)).length}->
  codeAny (model X.prog X.w) X.A (.compLoop (.ListComp elt [⟨tg,iter,ifs,0⟩] scope pos) 0 (.ref it) (.ref s.heap.objs.size) (Ik X.env (relabel scope X.env) cl s3.heap.objs.size)) (compPost (model X.prog X.w) X.A X.xe use Q (.ref s.heap.objs.size) s3.heap.objs.size) G:=by rintro G rfl;refine Yr (cl:=cl) (Qh:=Qd s.heap.objs.size) hc O T i E F Y (λσ' j k L q'=> ?_) m0 _ ⟨0,_,B,t,λb hb=>(E b hb).1,U⟩;refine R _ _ j k (let ⟨m,hm,_⟩:=L.loc;⟨m,hm⟩) (XE (own:=own) (ix:=ix) i E F L) (λh v I2 h' hs=>TN i rfl I2 L.free hs) (ABR i.lt) (λx c e=>ABR (i.szLt e)) q'
 exact codeAny_compStart_list (loop _ rfl) (T.self _ 0 _ _ _ t (loop _ rfl))
def h9 (hc:X.calm=true)(hi:PI X tg iter wi)(O:GG X tg elt ifs scope own ix N g tt te)(hs:∀x,foldedSetIterable iter X.env x=pure x:=by intro _;rfl):PE X (.ListComp elt [⟨tg,iter,ifs,0⟩] scope pos) (d9 wi own ix g tt te):=by intro d s c H Q I h;obtain⟨cl,f,h1,h2⟩:=Im (env:=X.env) (scope:=scope) λy hy e=>I.ok.has y.1 (.inl (O.frees y hy e));rw[eval_ListComp];refine AEH (use:=none) rfl hs f O.kind O.names (Bc (hi d s c H _ I h) λv u hv=>Bc hv λi w j=> ?_);obtain⟨it,fp,tn,J,z,rfl,k,T,a,l,q⟩:=j;exact TW (Qd:=λD b=>Q (.ref D) b) hc O T k l a h1 h2 q λD C b n o p gone A B r=>by obtain⟨m,t⟩:=o;exact⟨m,t,λh' hs=>⟨.ref D,b,gone c n p h' hs,rfl,r⟩⟩
def X2 {i:Nat}{x:Str}{pos' b:Pos}(hc:X.calm=true)(hN:X.N.Nodup)(n:X.N[i]? =some x)(hx:Loc X.env.scope x)(hi:PI X tg iter wi)(O:GG X tg elt ifs scope own ix N g tt te)(o:swapsWith (.ListComp elt [⟨tg,iter,ifs,0⟩] scope pos) (some (.Name x pos')) b.line X.env=pure true:=by rfl)(hs:∀x,foldedSetIterable iter X.env x=pure x:=by intro _;rfl)(p:X.fn x=true\/X.env.scope.names.lookup x=some .local:=by first | exact .inl rfl|exact .inr rfl|assumption):PS X (.Assign [.Name x pos'] (.ListComp elt [⟨tg,iter,ifs,0⟩] scope pos) b) (Pm (d9 wi own ix g tt te) (Bn i)):=by
 intro k s l H D I h;obtain⟨cl,r,h1,h2⟩:=Im (env:=X.env) (scope:=scope) λy hy e=>I.ok.has y.1 (.inl (O.frees y hy e));rw[exec_Assign_Name_used _ _ _ _ o];refine AAA (ABw (AAA ?_));show wpAny _ _ (do let _ <-comprehension (.ListComp elt [⟨tg,iter,ifs,0⟩] scope pos) scope X.env _ (newList []) false (eval iter X.env) (some (assign (.Name x pos') X.env))) _ _ s;refine AAA (Bc (AEH (use:=some (assign (.Name x pos') X.env)) (Q:=λ_ c=>SP X k D .next c) rfl hs r O.kind O.names (Bc (hi k s l H _ I h) λv U hv=>Bc hv λt W u=> ?_)) λ_ c hq=>AAE (AAE hq));obtain⟨it,fp,tn,J,Y,rfl,w,T,f,A,q⟩:=u;refine TW (Qd:=λd j=>Bn i (.ref d) l j D.nx) hc O T w A f h1 h2 q λd C j c B E gone F G K=> ?_;obtain⟨m,L⟩:=B;show wpAny _ _ (assign (.Name x pos') X.env (.ref d)) _ _ c;refine AD5 (LQ (v:= .ref d) E hN n hx rfl (λM P ⟨a,R,ha⟩=> ?_) p);have S:C≠a:=by
  rcases ha with z|z
  .rw [z];exact F
  .exact G x a z
 exact⟨m,L.sameBut R S,λh' hs=>⟨_,j,gone _ M P h' hs,K⟩⟩
end
def Ju {n k:Nat}(h:n<2^k)(hk:0<k):n.log2<k:=by
 by_cases e:n=0
 .subst e;simpa using hk
 .exact (Nat.log2_lt e).mpr h
def Hj {i:Int}{k:Nat}(h:i.natAbs<2^k):Builtin.Int.intBits i<=k:=by
 unfold Builtin.Int.intBits;by_cases e:i=0
 .subst e;simp
 .have a:(i==0)=false:=by simpa using e
  rw[a];simp only[AAf,AAX];have b:i.natAbs≠0:=by omega
  have:=(Nat.log2_lt b).mpr h;omega
section
variable {X:Cx}
def sj (i j:Int):Prop:=i.natAbs<2^8000/\j.natAbs<2^8000
def oW (i j:Int):Prop:=ND i j\/sj i j
def Hr:D9 X (binaryOp .Mult) (rI oW λi j=> .int (i*j)):=l7 λ_ _ _ _ _ _ _ hc q=>mul_int q (by
 rcases hc with z|z
 .exact z.ok
 .exact .of_le (Hj z.1) (Hj z.2) (by decide))
def oV (_ j:Int):Prop:=0<j/\j.natAbs<2^8000
def cn:D9 X (binaryOp .FloorDiv) (rI oV λi j=> .int (i/j)):=l7 λi j _ _ _ _ _ hc q=>by have h1:(0:Int)<j:=hc.1;refine floordiv_int (by omega) ?_ (.inl (AEm (ADQ (Ju hc.2 (by decide)) (by decide))));rw[AB1 _ (Int.le_of_lt h1)];exact q
inductive Kd where
 | int|bl|non|str|lst|tup
 deriving DecidableEq
def zg (K:AAB)(x:V)(H:Hp):Kd->Prop
 | .int=>∃i,x= .int i
 | .bl=>∃b,x= .bl b
 | .non=>x= .non
 | .str=>∃z,x= .str z
 | .lst=>∃a ys,x= .ref a/\FJ K H a ys
 | .tup=>∃a ys,x= .ref a/\KJ K H a ys
def RV:Kd->String->gn
 | .int,T=>T == "int"
 | .bl,T=>T == "bool" || T == "int"
 | .non,_=>false
 | .str,_=>false
 | .lst,T=>T == "list"
 | .tup,T=>T == "tuple"
def cG (T:String):Prop:=T="int" \/T="bool" \/T="tuple" \/T="list"
def mV (K:AAB):km V->Hp->VK->Prop:=λxs H Q=>∃x T k,xs= [x, .ty T] /\cG T/\zg K x H k/\Q (.bl (RV k T)) H
def ap:Cg X (.builtin "isinstance") (mV X.K):=by
 intro n s o H xs u Q I r h;obtain⟨x,T,k,rfl,f,hk,q⟩:=h;cases r with
 | cons g m=>
 cases m with
 | cons rt m=>
 cases m;cases rt;have c:Q (.bl true) H->EP X n o Q (.bool true) s:=λz=>⟨.bl true,H,I,rfl,z⟩;have b:Q (.bl false) H->EP X n o Q (.bool false) {s with toks:=s.toks+1}:=λz=>⟨.bl false,H,I.tok _,rfl,z⟩;cases k with
 | int=>
   obtain⟨i,rfl⟩:=hk;obtain⟨t,rfl⟩:=g;rcases f with rfl|rfl|rfl|rfl
   .exact IsiPair.int_int (c q)
   .exact IsiPair.int_bool (b q)
   .exact IsiPair.int_tuple (b q)
   .exact IsiPair.int_list (b q)
 | bl=>
   obtain⟨i,rfl⟩:=hk;cases g;rcases f with rfl|rfl|rfl|rfl
   .exact IsiPair.bool_int (c q)
   .exact IsiPair.bool_bool (c q)
   .exact IsiPair.bool_tuple (b q)
   .exact IsiPair.bool_list (b q)
 | non=>
   have e:x= .non:=hk;subst e;cases g;rcases f with rfl|rfl|rfl|rfl
   .exact IsiPair.NoneType_int (b q)
   .exact IsiPair.NoneType_bool (b q)
   .exact IsiPair.NoneType_tuple (b q)
   .exact IsiPair.NoneType_list (b q)
 | str=>
   obtain⟨i,rfl⟩:=hk;obtain⟨t,rfl⟩:=g;rcases f with rfl|rfl|rfl|rfl
   .exact IsiPair.str_int (b q)
   .exact IsiPair.str_bool (b q)
   .exact IsiPair.str_tuple (b q)
   .exact IsiPair.str_list (b q)
 | lst=>
   obtain⟨a,ys,rfl,hq⟩:=hk;cases g;obtain⟨l,p,j,hz⟩:=I.list hq;rcases f with rfl|rfl|rfl|rfl
   .exact IsiPair.isList_int j.isList (λ_ _ e=>e) (b q)
   .exact IsiPair.isList_bool j.isList (λ_ _ e=>e) (b q)
   .exact IsiPair.isList_tuple j.isList (λ_ _ e=>e) (b q)
   .exact IsiPair.isList_list j.isList (λ_ _ e=>e) (c q)
 | tup=>
   obtain⟨a,ys,rfl,hq⟩:=hk;cases g;obtain⟨l,p,j,hz⟩:=I.tuple hq;have d:s.heap.IsTuple a l.toArray:=j;rcases f with rfl|rfl|rfl|rfl
   .exact IsiPair.isTuple_int d (λ_ _ e=>e) (b q)
   .exact IsiPair.isTuple_bool d (λ_ _ e=>e) (b q)
   .exact IsiPair.isTuple_tuple d (λ_ _ e=>e) (c q)
   .exact IsiPair.isTuple_list d (λ_ _ e=>e) (b q)
def Zg (bs:km gn):(List.range bs.length).any (λi=>bs.getD i true)=bs.any id:=by
 rw[ABm,ABh,ABh];constructor
 .rintro ⟨i,hi,h⟩;have a:=ADH.mp hi;rw[AEI,AAh a] at h;exact⟨_,ACX a,by simpa using h⟩
 .rintro ⟨b,hb,h⟩;obtain⟨i,hi,e⟩:=List.mem_iff_getElem.mp hb;refine⟨i,ADH.mpr hi, ?_⟩;rw[AEI,AAh hi];subst e;simpa using h
def Inv.walked {h:km (ke×Obj)}{i:St}{H:Hp}{s c:ki}{o:Obj}(I:Inv X h i H s)(m:Moved [s.heap.objs.size] (λa b=>b=a) {s with heap:=s.heap.push o} c):Inv X h i H c:=by
 obtain⟨h',g',d',t',j⟩:=c;obtain⟨hk,d,hd,f,_⟩:=m;have g:∀b u,s.heap.get? b=some u->h'.get? b=some u:=λb u e=>hk b u (by
  intro z;have k:b=s.heap.objs.size:=by simpa using z
  exact absurd (AAG e) (by rw[k];exact ABd _)) (AAH _ e)
 have d:g'=s.gens:=d;have hd:d'=s.drawn:=hd;have f:j=s.os:=f;subst d hd f;exact I.kept (t':=t') g
def eT {bs:km gn}{a:km kj}{A:Tb}(r:Ax (bs.map V.bl) a):TruthOf X.prog X.w A (λi v=>a.toArray[i]? =some v) (λi=>bs.getD i true):=by
 intro i v s Q E hv hQ;have c:a[i]? =some v:=by simpa using hv
 cases e:(bs.map V.bl)[i]? with
 | none=>rw[r.none_of e] at c;cases c
 | some x=>
   obtain⟨u,hu,f⟩:=r.get e;rw[c] at hu;cases hu;rw[AAs] at e;cases d:bs[i]? with
   | none=>rw[d] at e;cases e
   | some b=>
     rw[d] at e;cases e;cases f
     replace hQ:Q (bs.getD i true) s:=hQ
     rw[AEI,d] at hQ;unfold truthy;exact AAE hQ
def iM (K:AAB)(f:km gn->gn):km V->Hp->VK->Prop:=λxs H Q=>∃p bs,xs= [.ref p] /\FJ K H p (bs.map V.bl)/\Q (.bl (f bs)) H
def Yl (hc:X.calm=true):Cg X (.builtin "any") (iM X.K λbs=>bs.any id):=by
 intro k s l H xs n Q I r h;obtain⟨p,bs,rfl,hq,q⟩:=h;obtain⟨u,rfl,e⟩:=vals1 r;cases e;obtain⟨a,b,c,hz⟩:=I.list hq;obtain⟨ol,d,f⟩:=id c.isList;have g:p≠s.heap.objs.size:=AAM (AAG d);have j:a.toArray.size=bs.length:=by have:=b.length;simp at this;simp[this]
 refine call_any_walkS (ADR c.isList ?_);refine⟨_,_,_,_,_,_,_,λi=>bs.getD i true,rfl,(Walks.list (A:=X.A.in1) (show X.A.in1.handled=none from I.ok.hd hc) s.heap.objs.size p g a.toArray).toS,⟨⟨_,AAQ _ rfl,rfl,rfl⟩,⟨ol,AAH _ d,f⟩⟩,eT b,λo m=> ?_⟩;rw[j,Zg];exact⟨.bl (bs.any id),H,I.walked m,rfl,q⟩
def gc (xs:km V)(k:Nat)(y:V):km V:=xs.take k++y::xs.drop k
def Ax.ins {xs:km V}{a:km kj}{y:V}{u:kj}(r:Ax xs a)(b:RelV y u)(k:Nat):Ax (gc xs k y) (a.take k++u::a.drop k):=Ax.append (r.take k) (.cons b (r.drop k))
def Rt:V->km V->Hp->VK->Prop:=λx vs H Q=>∃l xs i y,x= .ref l/\vs= [.int i,y] /\H l=some (.lst xs)/\0<=i/\i<=(xs.length:Int)/\xs.length<sizeLine/\Q .non (upd H l (.lst (gc xs i.toNat y)))
def ZK:jE X "list.insert" Rt:=by
 intro o s p H x vs v u Q I f rv h;obtain⟨l,xs,i,y,rfl,rfl,c,w,h1,hz,q⟩:=h;cases f;cases rv with
 | cons g b=>
 cases b with
 | cons j b=>
 cases b;rename_i d;obtain⟨t,rfl⟩:=g;obtain⟨z,a,n,r,hl,e⟩:=I.lstM c;have A:=K4;have m:¬(!Builtin.List.listFitsIndex i)=true:=by have:=fitsIndex_both (k:=i) (by omega) (by omega);simp[this]
 refine ABg F.slot_list_insert ⟨_,e,rfl⟩ F.entry_list_insert (F.args_list_insert_3 _ _ _) (AutoSeq1.list_insert_list_int_val_1 l a.toArray n i t d m (by rw[AAN];omega)) ⟨e, ?_⟩;refine⟨.non,_,I.lset (ys:=gc xs i.toNat y) (its':=a.take i.toNat++d::a.drop i.toNat) c e ?_ (r.ins j _) ?_,rfl,q⟩
 .dsimp only;rw[AAC (by omega),AAN,Nat.min_eq_left (by omega)];apply Array.toList_inj.mp;simp;exact ACC (by simp)
 .unfold gc;simp;omega
end
def O9:gn->Wf->ke->ke->Nat->Prop
 | true,h,q,l,k=>h.IsListIter q l k
 | false,h,q,l,k=>h.IsTupleIter q l k
def MX:gn->Wf->ke->Array kj->Prop
 | true,h,l,xs=>h.IsList l xs
 | false,h,l,xs=>h.IsTuple l xs
def O9.mv {b:gn}{h h':Wf}{q l:ke}{k:Nat}(x:O9 b h q l k)(e:∀o,h.get? q=some o->h'.get? q=some o):O9 b h' q l k:=by
 cases b with
 | true=>obtain⟨o,a,r⟩:=x;exact⟨o,e o a,r⟩
 | false=>obtain⟨o,a,r⟩:=x;exact⟨o,e o a,r⟩
def O9.obj {b:gn}{h:Wf}{q l:ke}{k:Nat}(x:O9 b h q l k):∃o,h.get? q=some o/\∀v,o.data≠ .cell v:=by
 cases b with
 | true=> obtain⟨o,a,_,d⟩:=x;exact⟨o,a,λv z=>by rw[d] at z;cases z⟩
 | false=> obtain⟨o,a,_,d⟩:=x;exact⟨o,a,λv z=>by rw[d] at z;cases z⟩
def MX.mv {b:gn}{h h':Wf}{l:ke}{xs:Array kj}(x:MX b h l xs)(e:∀o,h.get? l=some o->h'.get? l=some o):MX b h' l xs:=by
 cases b with
 | true=>obtain⟨o,a,r⟩:=x;exact⟨o,e o a,r⟩
 | false=>obtain⟨o,a,r⟩:=x;exact⟨o,e o a,r⟩
section
variable {prog:fm}{w:fe}{A:Tb}{E:kj->ki->Prop}{s:ki}
def Jn {b:gn}{q l:ke}{k:Nat}{xs:Array kj}{x:kj}{Q:kj->ki->Prop}(hq:O9 b s.heap q l k)(hl:MX b s.heap l xs)(hx:xs[k]? =some x)(hQ:∀h',O9 b h' q l (k+1)->Heap.SameBut q s.heap h'->Q x {s with heap:=h'}):wpAny (model prog w) A (Builtin.SmallTypes.nextOf (.ref q)) Q E s:=by
 cases b with
 | true=>exact wpAny_nextOf_list_item hq hl hx hQ
 | false=> have d:s.heap.IsTupleIter q l k:=hq;obtain⟨f,c,e,a⟩:=id d;obtain⟨ol,gl,_,g,dl⟩:=hl;unfold Builtin.SmallTypes.nextOf;refine AAA (ABz (name:=Str.ofString "__next__") d.typeIs ADS (ABO ADS d.typeIs AEn ?_ (AEo _)));show wpAny _ _ (field (.ref q) 0 >>= _) _ _ _;refine AAA (AAr c a (x:= .ref l) rfl ?_);show wpAny _ _ (if (Value.ref l==Value.none)=true then _ else _) _ _ _;rw[AAC (by intro z;cases z)];show wpAny _ _ (field (.ref q) 1 >>= _) _ _ _;refine AAA (AAr c a (x:= .int k 0) rfl ?_);show wpAny _ _ (seqItems? (.ref l) >>= _) _ _ _;refine AAA (ABV gl dl ?_);simp only[ACR,hx];refine AAA (ADT c a (by simp) (AAE ⟨x,rfl,AAE (hQ _ ?_ (ADU ..))⟩));refine⟨_,AB0 _ c (Obj.isFreed_of_fields (ADV a _)),(Obj.cls_mapFields ..).trans e, ?_⟩;rw[ADV a];simp[rawInt]
def Hl {b:gn}{q l:ke}{k:Nat}{xs:Array kj}{Q:kj->ki->Prop}(c:A.handled=none)(hq:O9 b s.heap q l k)(hl:MX b s.heap l xs)(hx:xs[k]? =none)(h:∀h' e,Heap.ExtBut q s.heap h'->(∃o,h'.get? e=some o/\o.cls= .type "StopIteration")->E (.ref e) {s with heap:=h'}):wpAny (model prog w) A (Builtin.SmallTypes.nextOf (.ref q)) Q E s:=by
 cases b with
 | true=>exact wpAny_nextOf_list_end c hq hl hx h
 | false=>
   have d:s.heap.IsTupleIter q l k:=hq;obtain⟨i,f,j,g⟩:=id d;obtain⟨ol,gl,_,n,dl⟩:=hl;unfold Builtin.SmallTypes.nextOf;refine AAA (ABz (name:=Str.ofString "__next__") d.typeIs ADS (ABO ADS d.typeIs AEn ?_ (AEo _)));show wpAny _ _ (field (.ref q) 0 >>= _) _ _ _;refine AAA (AAr f g (x:= .ref l) rfl ?_);show wpAny _ _ (if (Value.ref l==Value.none)=true then _ else _) _ _ _;rw[AAC (by intro z;cases z)];show wpAny _ _ (field (.ref q) 1 >>= _) _ _ _;refine AAA (AAr f g (x:= .int k 0) rfl ?_);show wpAny _ _ (seqItems? (.ref l) >>= _) _ _ _;refine AAA (ABV gl dl ?_);simp only[ACR,hx];refine AAA (ABk (AAA (ADT f g (by simp) ?_)));refine AAA (m:=newExc (.type "StopIteration") []) ?_;simp only[newExc,newTuple];refine AAA (ABQ ?_ (by size_fits));refine AAA (m:=firstArgMember _ _) (ABp (a:=Value.none) (by first | rfl|(simp only[firstArgMember];rfl)) (ABQ ?_ (by size_fits)));simp only[raiseNew];refine AAA (wpAny_handled ?_);first | rw[show A.in1.handled=none from c] | rw[c]
   exact AAA (AAE (wpAny_throw (h _ _ (((ADU ..).extBut.push _).push _) ⟨_,AAQ _ rfl,rfl⟩)))
structure kF (b c:Bool) (z TI TO i j l m:Addr) (k:Nat) (f:Value) (h:Heap):Prop where
 zip:IsZip h z TI TO f
 its:IsPair h TI (.ref i) (.ref j)
 own:∃x y,IsPair h TO x y
 one:O9 b h i l k
 two:O9 c h j m k
def kF.mv {b c:gn}{z TI TO i j l m:ke}{k:Nat}{f:kj}{h h':Wf}(Z:kF b c z TI TO i j l m k f h)(e:∀p∈ [z,TI,TO,i,j],∀o,h.get? p=some o->h'.get? p=some o):kF b c z TI TO i j l m k f h':=by obtain⟨a,d,⟨x,y,g⟩,n,r⟩:=Z;exact⟨e z (by simp) _ a,e TI (by simp) _ d,⟨x,y,e TO (by simp) _ g⟩,n.mv (e i (by simp)),r.mv (e j (by simp))⟩
variable {b c:gn}{z TI TO i j l m:ke}{k:Nat}{xs ys:Array kj}
def rX {x y:kj}{Q:kj->ki->Prop}(D:ZipApart z TI TO i j l m)(Z:kF b c z TI TO i j l m k .none s.heap)(hl:MX b s.heap l xs)(hm:MX c s.heap m ys)(hx:xs[k]? =some x)(hy:ys[k]? =some y)(hQ:∀h',IsZip h' z TI TO (rawInt s.heap.objs.size)->IsPair h' TI (.ref i) (.ref j)->IsPair h' TO x y->O9 b h' i l (k+1)->O9 c h' j m (k+1)->IsPair h' s.heap.objs.size x y-> (∀p o,p≠z->p≠TO->p≠i->p≠j->s.heap.get? p=some o->h'.get? p=some o)->Q (.ref s.heap.objs.size) {s with heap:=h'}):wpAny (model prog w) A (Builtin.«zip.__next__» ⟨[.ref z], []⟩) (λL s'=>∃v,L= .done (.ret v)/\Q v s') E s:=by
 obtain⟨n,T,⟨x0,M,zo⟩,z1,z2⟩:=Z;show wpAny _ _ (field (.ref z) 2 >>= _) _ _ _;refine AAA (AAr n rfl (x:= .bool false) rfl ?_);show wpAny _ _ (field (.ref z) 3 >>= _) _ _ _;refine AAA (AAr n rfl (x:= .ref TI) rfl (AAA (ABV T rfl ?_)));refine AAA (m:=Builtin.SmallTypes.ownedTupleIsFree (.ref z)) ?_;unfold Builtin.SmallTypes.ownedTupleIsFree;refine AAA (AAr n rfl (x:= .none) rfl (AAE ?_));simp only[ABP];refine AAA (ABk (AAA (AAr n rfl (x:= .ref TO) rfl (AAA (ACY n (by simp) λg1 N g=> ?_)))));have N:IsZip g1 z TI TO .ellipsis:=N;refine AAA ?_;simp only[List.zipIdx_cons,List.zipIdx_nil,ACW,ADW];refine AAA (AAA (ADX ?_));refine AAA (m:=Builtin.SmallTypes.nextOf (.ref i)) (Jn (z1.mv λo=>g.extBut _ o D.i1z) (hl.mv λo=>g.extBut _ o D.l1z) hx λg2 e2 b2=>AAE ?_);have U:IsPair g2 TO x0 M:=b2.extBut _ _ D.TOi1 (g.extBut _ _ D.TOz zo);refine AAA (ABV U rfl (AAA (AEJ U λg3 O h=>AAA (ADY (AAE ?_)))));have O:IsPair g3 TO x M:=O;refine AAA (AAA (ADX ?_));refine AAA (m:=Builtin.SmallTypes.nextOf (.ref j)) (Jn (((z2.mv λo=>g.extBut _ o D.i2z).mv λo=>b2.extBut _ o D.i12.symm).mv λo=>h.extBut _ o D.TOi2.symm)
  (((hm.mv λo=>g.extBut _ o D.l2z).mv λo=>b2.extBut _ o D.l2i1).mv λo=>h.extBut _ o D.l2TO) hy λg4 e4 r=>AAE ?_)
 have W:IsPair g4 TO x M:=r.extBut _ _ D.TOi2 O;refine AAA (ABV W rfl (AAA (AEJ W λa G t=>AAA (ADY (AAE (AAE ?_))))));have G:IsPair a TO x y:=G;refine AAA (ABV G rfl (AAA (wpAny_newTuple ?_)));have sz:a.objs.size=s.heap.objs.size:=by rw[t.1,r.1,h.1,b2.1,g.1]
 have X:IsZip a z TI TO .ellipsis:=t.extBut _ _ D.TOz.symm (r.extBut _ _ D.i2z.symm (h.extBut _ _ D.TOz.symm (b2.extBut _ _ D.i1z.symm N)));have d:∀p o,p≠z->p≠TO->p≠i->p≠j->s.heap.get? p=some o->a.get? p=some o:=λp o H I P R e=>
  t.extBut _ _ I (r.extBut _ _ R (h.extBut _ _ I (b2.extBut _ _ P (g.extBut _ _ H e))))
 have u:O9 b a i l (k+1):=((e2.mv λo=>h.extBut _ o D.TOi1.symm).mv λo=>r.extBut _ o D.i12).mv λo=>t.extBut _ o D.TOi1.symm;have B:O9 c a j m (k+1):=e4.mv λo=>t.extBut _ o D.TOi2.symm;have C:z<a.objs.size:=AAG X;refine AAA (m:=Builtin.SmallTypes.ownedTupleHandOut (.ref z) (.ref a.objs.size)) ?_;unfold Builtin.SmallTypes.ownedTupleHandOut;have k6:IsZip (a.push {cls:= .type "tuple",data:= .seq #[x,y] }) z TI TO .ellipsis:=AAH _ X;refine AAA (ACY k6 (by simp) λg7 S Y=> ?_);have S:IsZip g7 z TI TO (rawInt a.objs.size):=S;refine ACY S (by simp) λJ K b8=> ?_;have K:IsZip J z TI TO (rawInt a.objs.size):=K;have F:∀p o,p≠z->a.get? p=some o->J.get? p=some o:=λp o q e=>b8.extBut _ _ q (Y.extBut _ _ q (AAH _ e));have f:IsPair J a.objs.size x y:=b8.extBut _ _ (ABR C) (Y.extBut _ _ (ABR C) (AAQ _ rfl));rw[sz] at K f;refine AAE ⟨_,rfl, ?_⟩;show Q (.ref a.objs.size) _;rw[sz];exact hQ J K (F _ _ D.TIz (d _ _ D.TIz D.TITO D.TIi1 D.TIi2 T)) (F _ _ D.TOz G) (u.mv λo=>F _ o D.i1z) (B.mv λo=>F _ o D.i2z) f λp o H I P R e=>F p o H (d p o H I P R e)
def wL {Q:Fin->ki->Prop}(B:A.handled=none)(D:ZipApart z TI TO i j l m)(Z:kF b c z TI TO i j l m k .none s.heap)(hl:MX b s.heap l xs)(M:MX c s.heap m ys)(N:xs[k]? =none\/ys[k]? =none)(C:∀h' e,(∀p o,p≠z->p≠TO->p≠i->p≠j->s.heap.get? p=some o->h'.get? p=some o)->(∃o,h'.get? e=some o/\o.cls= .type "StopIteration")->E (.ref e) {s with heap:=h'}):wpAny (model prog w) A (Builtin.«zip.__next__» ⟨[.ref z], []⟩) Q E s:=by
 obtain⟨g,O,⟨P,R,S⟩,F,T⟩:=Z;show wpAny _ _ (field (.ref z) 2 >>= _) _ _ _;refine AAA (AAr g rfl (x:= .bool false) rfl ?_);show wpAny _ _ (field (.ref z) 3 >>= _) _ _ _;refine AAA (AAr g rfl (x:= .ref TI) rfl (AAA (ABV O rfl ?_)));refine AAA (m:=Builtin.SmallTypes.ownedTupleIsFree (.ref z)) ?_;unfold Builtin.SmallTypes.ownedTupleIsFree;refine AAA (AAr g rfl (x:= .none) rfl (AAE ?_));simp only[ABP];refine AAA (ABk (AAA (AAr g rfl (x:= .ref TO) rfl (AAA (ACY g (by simp) λg1 r a=> ?_)))));have r:IsZip g1 z TI TO .ellipsis:=r;refine AAA ?_;simp only[List.zipIdx_cons,List.zipIdx_nil,ACW,ADW];refine AAA (AAA (ADX ?_));cases hx:xs[k]? with
 | none=>
   refine AAA (m:=Builtin.SmallTypes.nextOf (.ref i)) (Hl B (F.mv λo=>a.extBut _ o D.i1z) (hl.mv λo=>a.extBut _ o D.l1z) hx λt e b2 he=> ?_);obtain⟨u,d,h⟩:=he;have G:IsZip t z TI TO .ellipsis:=b2 _ _ D.i1z.symm r;have v:e≠z:=λq=>by subst q;rw[G] at d;cases d;simp at h
   refine ACY G (by simp) λH _ f=>C H e (λp o n _ y _ q=>f.extBut _ _ n (b2 _ _ y (a.extBut _ _ n q))) ⟨u,f.extBut _ _ v d,h⟩
 | some x=>
   have hy:ys[k]? =none:=by
    rcases N with q|q
    .rw [hx] at q;cases q
    .exact q
   refine AAA (m:=Builtin.SmallTypes.nextOf (.ref i)) (Jn (F.mv λo=>a.extBut _ o D.i1z) (hl.mv λo=>a.extBut _ o D.l1z) hx λt e2 b2=>AAE ?_);have I:IsPair t TO P R:=b2.extBut _ _ D.TOi1 (a.extBut _ _ D.TOz S);refine AAA (ABV I rfl (AAA (AEJ I λH o3 f=>AAA (ADY (AAE ?_)))));refine AAA (AAA (ADX ?_));refine AAA (m:=Builtin.SmallTypes.nextOf (.ref j)) (Hl B (((T.mv λo=>a.extBut _ o D.i2z).mv λo=>b2.extBut _ o D.i12.symm).mv λo=>f.extBut _ o D.TOi2.symm)
    (((M.mv λo=>a.extBut _ o D.l2z).mv λo=>b2.extBut _ o D.l2i1).mv λo=>f.extBut _ o D.l2TO) hy λU e J he=> ?_)
   obtain⟨u,d,h⟩:=he;have K:IsZip U z TI TO .ellipsis:=J _ _ D.i2z.symm (f.extBut _ _ D.TOz.symm (b2.extBut _ _ D.i1z.symm r));have v:e≠z:=λq=>by subst q;rw[K] at d;cases d;simp at h
   refine ACY K (by simp) λW _ L=>C W e (λp o n X y Y q=>L.extBut _ _ n (J _ _ Y (f.extBut _ _ X (b2.extBut _ _ y (a.extBut _ _ n q))))) ⟨u,L.extBut _ _ v d,h⟩
end
def Vx (b:gn)(l:ke):Obj:={cls:= .type (match b with | true=>"list_iterator" | false=>"tuple_iterator"),data:= .fields #[.ref l, .int 0 0] }
abbrev zA (b:gn)(h:Wf)(l:ke):Wf:=h.push (Vx b l)
abbrev zB (b c:gn)(h:Wf)(l m:ke):Wf:=(zA b h l).push (Vx c m)
abbrev zC (b c:gn)(h:Wf)(l m:ke):Wf:=(zB b c h l m).push {cls:= .type "tuple",data:= .seq #[.ref h.objs.size, .ref (zA b h l).objs.size] }
abbrev zD (b c:gn)(h:Wf)(l m:ke):Wf:=(zC b c h l m).push {cls:= .type "tuple",data:= .seq #[.none, .none] }
abbrev zF (b c:gn)(h:Wf)(l m:ke):Wf:=(zD b c h l m).push {cls:= .type "zip",data:= .fields #[.none, .bool false, .bool false, .ref (zB b c h l m).objs.size, .ref (zC b c h l m).objs.size] }
def K3 {prog:fm}{w:fe}{A:Tb}{E:kj->ki->Prop}{h:Wf}{g:Array GenState}{d:Drawn}{a:Nat}{os:OsState}{b:gn}{l:ke}{xs:Array kj}{Q:kj->ki->Prop}(hl:MX b h l xs)(q:Q (.ref h.objs.size) ⟨h.push (Vx b l),g,d,a,os⟩):wpAny (model prog w) A (pyIter (.ref l)) Q E ⟨h,g,d,a,os⟩:=by
 cases b with
 | true=>exact ADR (s:=⟨h,g,d,a,os⟩) hl q
 | false=>exact wpAny_pyIter_tuple (s:=⟨h,g,d,a,os⟩) hl q
def Z0 (b c:gn)(l m:ke)(xs ys:Array kj):Meets (Builtin.«zip.__new__» ⟨[.type "zip", .ref l, .ref m], []⟩) (λ_ R s=>MX b s.heap l xs/\MX c s.heap m ys/\R (.ok (.ret (.ref (zD b c s.heap l m).objs.size))) {s with heap:=zF b c s.heap l m}):=
 .of_wp λprog w A R s h=>by
   obtain⟨hp,g,d,j,os⟩:=s;obtain⟨hl,f,h⟩:=h;have k:=sub_zip;have i:MX b hp l xs:=hl;have a:MX c (hp.push (Vx b l)) m ys:=f.mv λo e=>AAH _ e
   wp_walk using K3 i,K3 a
   exact⟨_,rfl,h⟩
section
variable {prog:fm}{w:fe}{A:Tb}{E:kj->ki->Prop}{s:ki}{b c:gn}{l m:ke}{xs ys:Array kj}
def cK {h:Wf}{q:ke}(e:h.get? q=some (Vx b l)):O9 b h q l 0:=by
 cases b with
 | true=>exact⟨_,e,rfl,rfl⟩
 | false=>exact⟨_,e,rfl,rfl⟩
def nz (hl:MX b s.heap l xs)(r:MX c s.heap m ys){Q:kj->ki->Prop}(h:∀h',kF b c (s.heap.objs.size+4) (s.heap.objs.size+2) (s.heap.objs.size+3) s.heap.objs.size (s.heap.objs.size+1) l m 0 .none h'->(∀p o,s.heap.get? p=some o->h'.get? p=some o)->Q (.ref (s.heap.objs.size+4)) {s with heap:=h'}):wpAny (model prog w) A (call (.type "zip") [.ref l, .ref m]) Q E s:=by
 refine callType_new F.called_zip (by decide) (F.typeCall_zip_2 _ _) (F.newCall_zip_2 _ _) (λobj=>F.args_object_init_3 obj _ _) F.entry_zip_new (Z0 b c l m xs ys) ⟨hl,r, ?_⟩;have a:(zA b s.heap l).objs.size=s.heap.objs.size+1:=ABe ..;have d:(zB b c s.heap l m).objs.size=s.heap.objs.size+2:=by rw[ABe,a]
 have f:(zC b c s.heap l m).objs.size=s.heap.objs.size+3:=by rw[ABe,d]
 have i:(zD b c s.heap l m).objs.size=s.heap.objs.size+4:=by rw[ABe,f]
 have g:(zF b c s.heap l m).get? (zD b c s.heap l m).objs.size=some _:=AAQ _ rfl;have j:(zF b c s.heap l m).get? (zC b c s.heap l m).objs.size=some _:=AAH _ (AAQ _ rfl);have k:(zF b c s.heap l m).get? (zB b c s.heap l m).objs.size=some _:=AAH _ (AAH _ (AAQ _ rfl));have n:(zF b c s.heap l m).get? (zA b s.heap l).objs.size=some (Vx c m):=AAH _ (AAH _ (AAH _ (AAQ _ rfl)));have t:(zF b c s.heap l m).get? s.heap.objs.size=some (Vx b l):=AAH _ (AAH _ (AAH _ (AAH _ (AAQ _ rfl))));rw[d,f,i] at g;rw[a,d] at k;rw[f] at j;rw[a] at n;show _/\_;rw[i];exact⟨⟨_,g,rfl⟩,h _ ⟨g,k,⟨_,_,j⟩,cK t,cK n⟩ λp o e=>AAH _ (AAH _ (AAH _ (AAH _ (AAH _ e))))⟩
end
def Sq (K:AAB):gn->Hp->ke->km V->Prop
 | true,H,a,xs=>FJ K H a xs
 | false,H,a,xs=>KJ K H a xs
section
variable {X:Cx}{Sr:km (ke×Obj)}{σ:St}{H:Hp}{s:ki}{a:ke}{ys xs:km V}{b:gn}{h':Wf}
def Inv.sq (I:Inv X Sr σ H s)(h:Sq X.K b H a xs):∃c:km kj,Ax xs c/\MX b s.heap a c.toArray/\xs.length<=sizeLine:=by
 cases b with
 | true=> obtain⟨c,r,p,z⟩:=I.list h;exact⟨c,r,p.isList,z⟩
 | false=> obtain⟨c,r,p,z⟩:=I.tuple h;exact⟨c,r,p,z⟩
def Inv.sq_inj (I:Inv X Sr σ H s)(h:Sq X.K b H a xs)(h2:Sq X.K b H a ys):xs=ys:=by
 cases b with
 | true=>exact I.list_inj h h2
 | false=>exact I.tuple_inj h h2
def Inv.turnedL {ch:km ke}{t':Nat}(I:Inv X Sr σ H s)(c:∀p∈ch,GJ X Sr H p)(k:∀p o,p ∉ ch->s.heap.get? p=some o->h'.get? p=some o):Inv X Sr σ H {s with heap:=h',toks:=t'}:=by
 have d:∀p u,H p=some u->p ∉ ch:=λp u e z=>by rw[(c p z).1] at e;cases e
 refine I.step (g':=s.gens) (d':=s.drawn) (ch:=ch) (λp hp=>⟨(c p hp).2.2.2.1,(c p hp).2.1,(c p hp).2.2.2.2.1,(c p hp).2.2.2.2.2⟩) (λp o _ _ hc e _=>k p o hc e) (λp o _ _ hc e _=>⟨o.slots,k p o hc e⟩)
  (λ_ _ _ _ n=>n) (λp o hc e=>⟨o,k p o hc e⟩) (λ_ _ e=>e) (λ_ _ _ e=>e) (λp i e=>⟨#[],by rw[e];simp⟩) (λm f=> ?_) (λp u e=> ?_) I.bare
 .obtain ⟨o,es,ep,g,r⟩:=f;exact⟨o,es,ep,k _ o (λz=>(c _ z).2.1 rfl) g,r⟩
 .refine (I.hok p u e).stay (λq v hq h=>k q v ?_ h) (λ_ q=>q) λ_ _ q=>q;rcases hq with z|z
  .rw [z];exact d p u e
  .exact d q _ z
def Inv.turnedN {ch:km ke}{t':Nat}{n:ke}{o:HO}(I:Inv X Sr σ H s)(c:∀p∈ch,GJ X Sr H p)(j:∀p∈ch,p<s.heap.objs.size)(k:∀p o,p ∉ ch->s.heap.get? p=some o->h'.get? p=some o)(f:s.heap.objs.size<=n)(new:B0 X.prog X.w (upd H n o) h' n o):Inv X Sr σ (upd H n o) {s with heap:=h',toks:=t'}:=by
 have g:Inv X Sr σ H {s with heap:=h',toks:=t'}:=I.turnedL c k;have d:H n=none:=I.hok.fresh f;have hx:∀p u,s.heap.get? p=some u->p≠n:=λp u e=>AAM (AAW (AAG e) f);refine I.step (g':=s.gens) (d':=s.drawn) (ch:=ch) (λp hp=>⟨(c p hp).2.2.2.1,(c p hp).2.1,(c p hp).2.2.2.2.1,(c p hp).2.2.2.2.2⟩) (λp o _ _ hc e _=>k p o hc e) (λp o _ _ hc e _=>⟨o.slots,k p o hc e⟩)
  (λp u _ e z=>by rw[Af (hx p u e)];exact z) (λp o hc e=>⟨o,k p o hc e⟩) (λp xs e=>by rw[Af (Aq e d)];exact e) (λp o xs e=>by rw[Af (Aq e d)];exact e)
  (λp l e=>⟨#[],by rw[Af (Aq e d),e];simp⟩) (λm h=> ?_) (λp u e=> ?_) I.bare
 .obtain ⟨o,es,ep,i,r⟩:=h;exact⟨o,es,ep,k _ o (λz=>(c _ z).2.1 rfl) i,r⟩
 .by_cases hp:p=n
  .subst hp;rw[Ab] at e;cases e;exact new
  .rw [Af hp] at e;exact(g.hok p u e).stay (λ_ _ _ q=>q) (λq hq=>by rw[Af (Aq hq d)];exact hq) λq xs hq=>by rw[Af (Aq hq d)];exact hq
end
def tL (K:AAB)(b c:gn)(l m:ke):It:=
 ⟨λi H=>∃xs ys x y,Sq K b H l xs/\Sq K c H m ys/\xs[i]? =some x/\ys[i]? =some y,
  λi H v a=>∃T x y,v= .ref T/\H T=none/\a=upd H T (.tup [x,y])/\(∀xs,Sq K b H l xs->xs[i]? =some x)/\∀ys,Sq K c H m ys->ys[i]? =some y,
  λi H=>∃xs ys,Sq K b H l xs/\Sq K c H m ys/\(xs.length<=i\/ys.length<=i)⟩
def eU {P:fm}{w:fe}{K:AAB}{es:km kc}{Q:Nat}{pos:Pos}{b c:gn}{z TI TO i j l m:ke}(D:ZipApart z TI TO i j l m):MB P w K (.Tuple es Q pos) (tL K b c l m) [z,TI,TO,i,j] z (λk h=>kF b c z TI TO i j l m k .none h) where
 mem:=by simp
 obj:=λk h Z p hp=>by
  have a:p=z\/p=TI\/p=TO\/p=i\/p=j:=by simpa using hp
  rcases a with e|e|e|e|e
  .subst e;exact⟨_,Z.zip,λv q=>nomatch q⟩
  .subst e;exact⟨_,Z.its,λv q=>nomatch q⟩
  .subst e;obtain⟨x,y,q⟩:=Z.own;exact⟨_,q,λv q=>nomatch q⟩
  .subst e;exact Z.one.obj
  .subst e;exact Z.two.obj
 keep:=λk h h' Z e=>Z.mv e
 item:=by
  intro X r hw t hc k M s N H E I g Z A;subst r hw t;obtain⟨xs,ys,x,y,hl,n,hx,hy⟩:=A;obtain⟨O,B,C,_⟩:=I.sq hl;obtain⟨vs,rv,sv,_⟩:=I.sq n;obtain⟨u,hu,R⟩:=B.get hx;obtain⟨v,hv,S⟩:=rv.get hy;have f:s.TypeIs (.ref z) "zip" :=⟨_,Z.zip,rfl⟩;unfold pyNext;refine AAA (ADZ (ABz (name:=Str.ofString "__next__") f ADa (ABO ADa f F.entry_zip_next
   (rX D Z C sv (x:=u) (y:=v) (by simpa using hu) (by simpa using hv) λh1 U W Y a4 a5 a6 a7=>AAE ?_) (F.args_zip_next_1 _))))
  refine⟨_,rfl,wpAny_letOwnedTupleGo_zip (s:={s with heap:=h1}) U λh2 c1 c2=> ?_⟩;have G:∀p∈ [z,TI,TO,i,j],p<s.heap.objs.size:=λp hp=>by
   have a:p=z\/p=TI\/p=TO\/p=i\/p=j:=by simpa using hp
   rcases a with e|e|e|e|e
   .subst e;exact AAG Z.zip
   .subst e;exact AAG Z.its
   .subst e;obtain⟨x,y,q⟩:=Z.own;exact AAG q
   .subst e;obtain⟨o,q,_⟩:=Z.one.obj;exact AAG q
   .subst e;obtain⟨o,q,_⟩:=Z.two.obj;exact AAG q
  have d:∀p o,p≠z->h1.get? p=some o->h2.get? p=some o:=λp o q e=>c2.extBut _ _ q e;have kp:∀p o,p ∉ [z,TI,TO,i,j] ->s.heap.get? p=some o->h2.get? p=some o:=λp o hp e=>by
   have a:p≠z/\p≠TI/\p≠TO/\p≠i/\p≠j:=by simpa using hp
   exact d p o a.1 (a7 p o a.1 a.2.2.1 a.2.2.2.1 a.2.2.2.2 e)
  have J:s.heap.objs.size≠z:=ABR (G z (by simp));have I2:Inv X M N (upd H s.heap.objs.size (.tup [x,y])) {s with heap:=h2,toks:=s.toks}:=I.turnedN g G kp (AAJ _)
   ⟨(by show 2<=sizeLine;decide), [u,v], .cons R (.cons S .nil),⟨_,d _ _ J a6,rfl,_,rfl⟩⟩
  have Vq:H s.heap.objs.size=none:=I.fresh;refine⟨.ref s.heap.objs.size,upd H s.heap.objs.size (.tup [x,y]),I2,rfl,⟨_,x,y,rfl,Vq,rfl,λxs' h'=> ?_,λys' h'=> ?_⟩, ?_,λp hp=> ?_⟩
  .rw [I.sq_inj h' hl];exact hx
  .rw [I.sq_inj h' n];exact hy
  .exact ⟨c1,d _ _ D.TIz W,⟨_,_,d _ _ D.TOz Y⟩,a4.mv λo=>d _ o D.i1z,a5.mv λo=>d _ o D.i2z⟩
  .rw [Af (AAM (G p hp))];exact(g p hp).1
 done:=by
  intro X r hw t hc k M s N H E I g Z A;subst r hw t;obtain⟨xs,ys,hl,n,he⟩:=A;obtain⟨O,B,C,_⟩:=I.sq hl;obtain⟨vs,rv,sv,_⟩:=I.sq n;have e1:=B.length;have e2:=rv.length;have ku:O.toArray[k]? =none\/vs.toArray[k]? =none:=by
   rcases he with q|q
   .exact .inl (by simp;omega)
   .exact .inr (by simp;omega)
  have f:s.TypeIs (.ref z) "zip" :=⟨_,Z.zip,rfl⟩;unfold pyNext;refine AAA (ADZ (ABz (name:=Str.ofString "__next__") f ADa (ABO ADa f F.entry_zip_next
   (wL (I.ok.hd hc) D Z C sv ku λh1 e hk he=> ?_) (F.args_zip_next_1 _))))
  obtain⟨o,ho,L⟩:=he;refine AAA (AB9 (T:="StopIteration") (b:=true) ⟨o,ho,L⟩ isSubtype_stop (AAE ⟨rfl, ?_⟩));exact I.turnedL (t':=s.toks) g λp o hp e=>by
   have a:p≠z/\p≠TI/\p≠TO/\p≠i/\p≠j:=by simpa using hp
   exact hk p o a.1 a.2.2.1 a.2.2.2.1 a.2.2.2.2 e
 self:=λ_ _ _ _ _ Z h=>wpAny_pyIter_zip Z.zip h
structure Has (P:Program) (w:World) (K:AAB) (mg:Str->Option Value) (base:Heap) (k:Nat) (x:Str) (ps:List Str) (sp:Sp):Prop where
 ex:∃f fd,mg x=some (.ref f)/\PySem.W.keepIn K (.ref f)=true/\Binds K fd ps [] /\D8 P w K mg base NE k f fd ps sp
def Has.mono {P:fm}{w:fe}{K:AAB}{mg:Str->kd kj}{base:Wf}{j k:Nat}{x:Str}{e:km Str}{sp:Sp}(h:Has P w K mg base j x e sp)(hk:j<=k):Has P w K mg base k x e sp:=by obtain⟨f,g,a,b,c,d⟩:=h.ex;exact⟨f,g,a,b,c,d.mono hk⟩
section
variable {X:Cx}{x:Str}{p pos:Pos}{e:kc}{es:km kc}{t:TA}{k:Nat}{ps:km Str}{sp:Sp}
def mK (D:Has X.prog X.w X.K X.mg X.base k x ps sp)(a:Room k X.A)(b:Gl X x)(ha:PA X (e::es) t)(hs:starEach (e::es) X.env=(false,eval e X.env)::starEach es X.env:=by rfl)(hpl:(backTo pos (starEach es X.env)).any (·.1)=false:=by rfl)(hd:(x==("__debug__" :Str))=false:=by decide):PE X (.Call (.Name x p) (e::es) [] pos) (jo sp [] E0 t):=by obtain⟨f,h,c,d,g,G⟩:=D.ex;exact h7 G a b c d g .nil qP ha (hdb:=hd) (he:=hs) (hpl:=hpl)
end
section
variable {X:Cx}{tg elt:kc}{ifs:km kc}{scope:Scope}{own:Nat}{ix:km Nat}{N:km Str}{g:TG}{tt:TT}{te:TE}
def Vg (X:Cx)(sc:Scope)(own:Nat)(ix:km Nat)(N:km Str):gn:=
 (List.range ix.length).all λj=>match ix[j]? with
   | none=>false
   | some i=>match N[own+j]?,X.N[i]? with
     | some x,some y=>decide (x=y)&&decide (X.env.scope.names.lookup x=some .cell)&&decide (sc.names.lookup x=some .cell)
     | _,_=>false
def bP {sc:Scope}(h1:N.length=own+ix.length)(h2:Vg X sc own ix N=true):aS X sc own ix N:=by
 refine⟨h1,λj i hj=> ?_⟩;have c:j<ix.length:=(AAq.mp hj).1;have h:=ADb.mp h2 j (ADH.mpr c);rw[hj] at h;dsimp only at h;cases a:N[own+j]? with
 | none=>rw[a] at h;simp at h
 | some x=>
   cases b:X.N[i]? with
   | none=>rw[a,b] at h;simp at h
   | some y=> rw[a,b] at h;simp only[AAo,ADc] at h;obtain⟨⟨h3,d⟩,h5⟩:=h;subst h3;exact⟨x,rfl,rfl,d,h5⟩
def XJ (h1:scope.kind= .function)(h2:(scope.names.all λy=> !decide (y.2= .cell))=true)(h3:(scope.names.all λy=> !decide (y.2= .local)||decide (scope.names.lookup y.1=some .local))=true)(c:(scope.names.all λy=> !decide (y.2= .free)||decide (X.env.scope.names.lookup y.1=some .cell))=true)(h5:N.length=own+ix.length)(d:Vg X (relabel scope X.env) own ix N=true)(hk:NO own g)(a:∀cl C s H ex pn,PG (blk X (relabel scope X.env) N cl C s H ex pn) tg g)(b:∀cl C s H ex pn,jH (blk X (relabel scope X.env) N cl C s H ex pn) ifs tt)(val:∀cl C s H ex pn,PE (blk X (relabel scope X.env) N cl C s H ex pn) elt te):GG X tg elt ifs scope own ix N g tt te:=by
 refine⟨h1,λy hy e=> ?_,λy hy e=> ?_,λy hy e=> ?_,bP h5 d,hk,a,b,val⟩
 .have:=ADb.mp h2 y hy;simp[e] at this
 .have:=ADb.mp h3 y hy;simpa[e] using this
 .have:=ADb.mp c y hy;simpa[e] using this
end
def TK.new {H:Hp}{p:ke}{o:HO}(h:H p=none):TK H (upd H p o):=λb u q=>by rw[Af (Aq q h)];exact q
def sf (p:ke)(H a:Hp):Prop:=∀b o,b≠p->H b=some o->a b=some o
def TK.but {p:ke}{H H1:Hp}(a:TK H H1):sf p H H1:=λc o _ h=>a c o h
def sf.upd {p:ke}{H:Hp}{o:HO}:sf p H (upd H p o):=λb u n q=>by rw[Af n];exact q
end L2
namespace PL
open PySem PySem.Spec PyProof.Rows L2
inductive PV where
 | non|bl (b:Bool)|int (i:Int)|str (x:Str)|ty (n:String)
 | tup (xs:List PV)|lst (xs:List PV)|tape|scr (ns:List Int)|dct (kvs:List (FK×Int))|dk (kvs:List (Int×Int))
def Fg (H:Hp)(p:ke):Prop:=∃d x:Int,H p=some (.lst [.int d, .int x])/\0<=d/\0<=x/\x<2147483647
def L8 (o:HO):Prop:=(∀vs,o≠ .tup vs)/\∀q u,o≠ .frz q u
def L8.lst {xs:km V}:L8 (.lst xs):=⟨(λ_ e=>nomatch e),(λ_ _ e=>nomatch e)⟩
def Fg.mut {H:Hp}{p:ke}(h:Fg H p):∃o,H p=some o/\L8 o:=by obtain⟨d,x,e,_⟩:=h;exact⟨_,e,L8.lst⟩
def rh (K:AAB)(H:Hp)(a:ke)(xs:km V):Prop:=H a=some (.tup xs)\/∃(o:Obj) (b:Array kj) (n:Nat),K.lookup a=some o/\o.cls= .type "tuple" /\o.data= .seq b n/\b.size<=sizeLine/\Ax xs b.toList
def rh.sq {K:AAB}{H:Hp}{a:ke}{xs:km V}(h:rh K H a xs):KJ K H a xs:=h.elim (λz=> .inl (.inl z)) .inr
def CD (kvs:km (FK×Int)):km (FK×V):=kvs.map λp=>(p.1,V.int p.2)
def Iq (kvs:km (Int×Int)):km (Cp×V):=kvs.map λp=>(.inl p.1,V.int p.2)
mutual
inductive CF (K:AAB) (T M:Addr->Prop) (H:Hp):V->PV->Prop where
 | non:CF K T M H .non .non
 | bl (b:Bool):CF K T M H (.bl b) (.bl b)
 | int (i:Int):CF K T M H (.int i) (.int i)
 | str (x:Str):CF K T M H (.str x) (.str x)
 | ty (n:String):CF K T M H (.ty n) (.ty n)
 | tup {a:Addr} {vs:List V} {xs:List PV} (h:rh K H a vs) (r:BB K T M H vs xs):CF K T M H (.ref a) (.tup xs)
 | lst {a:Addr} {vs:List V} {xs:List PV} (h:H a=some (.lst vs)) (t:¬T a) (m:¬M a) (r:BB K T M H vs xs):CF K T M H (.ref a) (.lst xs)
 | tape {a:Addr} (t:T a):CF K T M H (.ref a) .tape
 | dct {a:Addr} {kvs:List (FK×Int)} (h:H a=some (.dN K (CD kvs))) (t:¬T a) (m:¬M a):CF K T M H (.ref a) (.dct kvs)
 | dk {a:Addr} {o:Obj} {es:Array DictEntry} {ep:Nat} {kvs:List (Int×Int)} (h:H a=some (.frz o (.dK (Iq kvs)))) (e:o.data= .dict es ep):CF K T M H (.ref a) (.dk kvs)
 | scr {a:Addr} {ns:List Int} (h:(Rd H a (.lst (ns.map V.int))/\¬T a/\¬M a)\/∀H,FJ K H a (ns.map V.int)):CF K T M H (.ref a) (.scr ns)
inductive BB (K:AAB) (T M:Addr->Prop) (H:Hp):List V->List PV->Prop where
 | nil:BB K T M H [] []
 | cons {v:V} {x:PV} {vs:List V} {xs:List PV} (h:CF K T M H v x) (t:BB K T M H vs xs):BB K T M H (v::vs) (x::xs)
end
structure Ii (T M:Addr->Prop) (H:Hp):Prop where
 tp:∀a,T a->Fg H a
 mu:∀a,M a->∃o,H a=some o/\L8 o
def Ii.noFrz {T M:ke->Prop}{H:Hp}(v:Ii T M H){a:ke}{q:Obj}{u:HO}(r:H a=some (.frz q u)):¬T a/\¬M a:=by
 refine⟨λz=> ?_,λz=> ?_⟩
 .obtain ⟨o,e,_,n⟩:=(v.tp a z).mut;rw[r] at e;cases e;exact n _ _ rfl
 .obtain ⟨o,e,_,n⟩:=v.mu a z;rw[r] at e;cases e;exact n _ _ rfl
def Ii.noTup {T M:ke->Prop}{H:Hp}(v:Ii T M H){a:ke}{vs:km V}(r:Rd H a (.tup vs)):¬T a/\¬M a:=by
 have go:∀o,H a=some o->L8 o->False:=λo e m=>by
  rcases r with r|⟨q,r⟩
  .rw [e] at r;cases r;exact m.1 _ rfl
  .rw [e] at r;cases r;exact m.2 _ _ rfl
 exact⟨λt=>let ⟨o,e,m⟩:=(v.tp a t).mut;go o e m,λt=>let ⟨o,e,m⟩:=v.mu a t;go o e m⟩
structure Mv (K:AAB) (T M:Addr->Prop) (H:Hp) (T' M':Addr->Prop) (H':Hp):Prop where
 va:Ii T M H
 keep:∀b o,¬T b->¬M b->H b=some o->H' b=some o
 sub:∀b,T b->T' b
 tn:∀b,H b≠none->T' b->T b
 mn:∀b,H b≠none->M' b->M b
def X6 {H:Hp}{a:ke}{u:HO}(r:Rd H a u):H a≠none:=by rcases r with r|⟨o,r⟩ <;> rw[r] <;> exact λe=>nomatch e
def qk {H b:Hp}{a:ke}{u:HO}(r:Rd H a u)(k:∀o,H a=some o->b a=some o):Rd b a u:=by
 rcases r with r|⟨o,r⟩
 .exact .inl (k _ r)
 .exact .inr ⟨o,k _ r⟩
section
variable {K:AAB}{T M T' M':ke->Prop}{H H':Hp}
mutual
theorem CF.mv (m:Mv K T M H T' M' H'):∀{v:V} {x:PV},CF K T M H v x->CF K T' M' H' v x
 | _,_, .non=> .non
 | _,_, .bl b=> .bl b
 | _,_, .int i=> .int i
 | _,_, .str x=> .str x
 | _,_, .ty n=> .ty n
 | _,_, .tup (a:=a) (vs:=vs) h r=>by
   refine .tup (vs:=vs) ?_ (BB.mv m r);rcases h with h|h
   .obtain ⟨t,u⟩:=m.va.noTup (.inl h);exact .inl (m.keep _ _ t u h)
   .exact .inr h
 | _,_, .lst (a:=a) h t u r=> .lst (m.keep _ _ t u h) (λz=>t (m.tn a (by rw[h];exact λe=>nomatch e) z)) (λz=>u (m.mn a (by rw[h];exact λe=>nomatch e) z)) (BB.mv m r)
 | _,_, .tape t=> .tape (m.sub _ t)
 | _,_, .dct (a:=a) h t u=> .dct (m.keep _ _ t u h) (λz=>t (m.tn a (by rw[h];exact λe=>nomatch e) z)) (λz=>u (m.mn a (by rw[h];exact λe=>nomatch e) z))
 | _,_, .dk h e=>by obtain⟨t,u⟩:=m.va.noFrz h;exact .dk (m.keep _ _ t u h) e
 | _,_, .scr (a:=a) (.inl ⟨h,t,u⟩)=> .scr (.inl ⟨qk h λo e=>m.keep _ o t u e,λz=>t (m.tn a (X6 h) z),λz=>u (m.mn a (X6 h) z)⟩)
 | _,_, .scr (.inr h)=> .scr (.inr h)
theorem BB.mv (m:Mv K T M H T' M' H'):∀{vs:km V} {xs:km PV},BB K T M H vs xs->BB K T' M' H' vs xs
 | _,_, .nil=> .nil
 | _,_, .cons h t=> .cons (CF.mv m h) (BB.mv m t)
end
end
def BB.length {K:AAB}{T M:ke->Prop}{H:Hp}:∀{vs:km V} {xs:km PV},BB K T M H vs xs->vs.length=xs.length
 | _,_, .nil=>rfl
 | _,_, .cons _ t=>by simp[t.length]
theorem BB.get {K:AAB}{T M:ke->Prop}{H:Hp}:∀{vs:km V} {xs:km PV} {i:Nat} {x:PV},BB K T M H vs xs->xs[i]? =some x->∃v,vs[i]? =some v/\CF K T M H v x
 | _,_,_,_, .nil,e=>by simp at e
 | _,_,0,_, .cons h _,e=>by simp at e;subst e;exact⟨_,rfl,h⟩
 | _,_,i+1,x, .cons _ t,e=>by obtain⟨u,h1,h2⟩:=BB.get (i:=i) (x:=x) t (by simpa using e);exact⟨u,by simpa using h1,h2⟩
def BB.get' {K:AAB}{T M:ke->Prop}{H:Hp}{vs:km V}{xs:km PV}{i:Nat}{v:V}(h:BB K T M H vs xs)(e:vs[i]? =some v):∃x,xs[i]? =some x/\CF K T M H v x:=by have hl:=h.length;have hi:i<vs.length:=(AAq.mp e).1;obtain⟨w,a,r⟩:=h.get (i:=i) (x:=xs[i]'(by omega)) (AAh (by omega));rw[e] at a;cases a;exact⟨_,AAh (by omega),r⟩
def BB.append {K:AAB}{T M:ke->Prop}{H:Hp}:∀{vs a:km V} {xs ys:km PV},BB K T M H vs xs->BB K T M H a ys->BB K T M H (vs++a) (xs++ys)
 | _,_,_,_, .nil,s=>s
 | _,_,_,_, .cons h t,s=> .cons h (t.append s)
def BB.take {K:AAB}{T M:ke->Prop}{H:Hp}:∀{vs:km V} {xs:km PV} (n:Nat),BB K T M H vs xs->BB K T M H (vs.take n) (xs.take n)
 | _,_,0,_=> .nil
 | _,_,_+1, .nil=> .nil
 | _,_,n+1, .cons r t=> .cons r (t.take n)
def BB.drop {K:AAB}{T M:ke->Prop}{H:Hp}:∀{vs:km V} {xs:km PV} (n:Nat),BB K T M H vs xs->BB K T M H (vs.drop n) (xs.drop n)
 | _,_,0,r=>r
 | _,_,_+1, .nil=> .nil
 | _,_,n+1, .cons _ t=>t.drop n
def BB.nil_iff {K:AAB}{T M:ke->Prop}{H:Hp}{vs:km V}{xs:km PV}(h:BB K T M H vs xs):vs= [] ↔xs= [] :=by cases h <;> simp
def BB.reverse {K:AAB}{T M:ke->Prop}{H:Hp}{vs:km V}{xs:km PV}(h:BB K T M H vs xs):BB K T M H vs.reverse xs.reverse:=by
 induction vs generalizing xs with
 | nil=>cases h;exact .nil
 | cons v vs ih=>
   cases h with
   | cons h t=>rw[ADN,ADN];exact(ih t).append (.cons h .nil)
structure DK (T:Addr->Prop) (H:Hp) (T':Addr->Prop) (H':Hp):Prop where
 keep:∀b o,¬T b->H b=some o->H' b=some o
 sub:∀b,T b->T' b
 new:∀b,T' b->T b\/H b=none
 tp:∀a,T' a->Fg H' a
def DK.refl {T:ke->Prop}{H:Hp}(h:∀a,T a->Fg H a):DK T H T H:=⟨λ_ _ _ e=>e,λ_ e=>e,λ_ e=> .inl e,h⟩
def DK.some {T c:ke->Prop}{H a:Hp}(s:DK T H c a){b:ke}(h:H b≠none):a b≠none:=by
 by_cases t:T b
 .obtain ⟨o,e,_⟩:=(s.tp b (s.sub b t)).mut;rw[e];exact λe=>nomatch e
 .cases e:H b with
  | none=>exact absurd e h
  | some o=>rw[s.keep b o t e];exact λe=>nomatch e
def DK.none {T c:ke->Prop}{H a:Hp}(s:DK T H c a){b:ke}(h:a b=none):H b=none:=by
 cases e:H b with
 | none=>rfl
 | some o=>exact absurd h (s.some (by rw[e];exact λe=>nomatch e))
def DK.trans {T T1 d:ke->Prop}{H H1 f:Hp}(a:DK T H T1 H1)(b:DK T1 H1 d f):DK T H d f where
 keep:=λc o t e=>b.keep c o (λz=>(a.new c z).elim t λn=>by rw[n] at e;cases e) (a.keep c o t e)
 sub:=λc t=>b.sub c (a.sub c t)
 new:=λc t=>(b.new c t).elim (λz=>a.new c z) λz=> .inr (a.none z)
 tp:=b.tp
def DK.lay {T:ke->Prop}{H:Hp}{p:ke}{o:HO}(h:∀a,T a->Fg H a)(hp:H p=Option.none):DK T H T (upd H p o) where
 keep:=λb u _ e=>by rw[Af (Aq e hp)];exact e
 sub:=λ_ t=>t
 new:=λ_ t=> .inl t
 tp:=λa t=>by obtain⟨d,x,e,z⟩:=h a t;exact⟨d,x,by rw[Af (Aq e hp)];exact e,z⟩
def DK.mv {K:AAB}{T a M:ke->Prop}{H c:Hp}(s:DK T H a c)(v:Ii T M H):Mv K T M H a M c where
 va:=v
 keep:=λb o t _ e=>s.keep b o t e
 sub:=s.sub
 tn:=λb n t=>(s.new b t).elim id λz=>absurd z n
 mn:=λ_ _ z=>z
def CF.stp {K:AAB}{T a M:ke->Prop}{H b:Hp}{v:V}{x:PV}(r:CF K T M H v x)(s:DK T H a b)(va:Ii T M H):CF K a M b v x:=r.mv (s.mv va)
def BB.stp {K:AAB}{T a M:ke->Prop}{H b:Hp}{v:km V}{x:km PV}(r:BB K T M H v x)(s:DK T H a b)(va:Ii T M H):BB K a M b v x:=r.mv (s.mv va)
def Mv.anti {K:AAB}{T M c:ke->Prop}{H:Hp}(v:Ii T M H)(h:∀a,c a->M a):Mv K T M H T c H:=⟨v,λ_ _ _ _ e=>e,λ_ t=>t,λ_ _ t=>t,λb _ t=>h b t⟩
inductive AV where
 | val (x:PV)
 | own (xs:List PV)
abbrev BL:=km (kd AV)
structure DJ where
 T:Addr->Prop
 H:Hp
 M:Addr->Prop
def DJ.add (B:DJ)(p:ke):DJ:=⟨B.T,B.H,λa=>B.M a\/a=p⟩
def CW (a:L2.St)(τ:BL)(p:ke):Prop:=∃(i:Nat) (xs:km PV),τ[i]? =some (some (.own xs))/\a[i]? =some (some (.ref p))
def mt (B:DJ)(a:L2.St)(τ:BL)(p:ke):Prop:=B.M p\/CW a τ p
structure SR (K:AAB) (B:DJ) (T:Addr->Prop) (H:Hp) (σ:L2.St) (τ:BL):Prop where
 len:σ.length=τ.length
 val:∀(i:Nat) (x:PV),τ[i]? =some (some (.val x))->∃v,σ[i]? =some (some v)/\CF K T (mt B σ τ) H v x
 own:∀(i:Nat) (xs:List PV),τ[i]? =some (some (.own xs))->∃p vs,σ[i]? =some (some (.ref p))/\H p=some (.lst vs)/\BB K T (mt B σ τ) H vs xs/\B.H p=none/\¬T p/\¬B.M p
 dist:∀(i j:Nat) (xs ys:List PV) (p:Addr),τ[i]? =some (some (.own xs))->τ[j]? =some (some (.own ys))->σ[i]? =some (some (.ref p))->σ[j]? =some (some (.ref p))->i=j
 tp:∀a,T a->Fg H a
 bm:∀a,B.M a->∃o,H a=some o/\L8 o
 bt:∀a,B.M a->¬T a
 st:DK B.T B.H T H
section
variable {K:AAB}{B:DJ}{T T':ke->Prop}{H H':Hp}{σ:L2.St}{τ:BL}
def SR.ownH (s:SR K B T H σ τ){p:ke}(o:CW σ τ p):∃vs,H p=some (.lst vs)/\B.H p=none/\¬T p/\¬B.M p:=by obtain⟨i,xs,h1,h2⟩:=o;obtain⟨q,vs,e,h,_,b,t,m⟩:=s.own i xs h1;rw[h2] at e;cases e;exact⟨vs,h,b,t,m⟩
def SR.va (s:SR K B T H σ τ):Ii T (mt B σ τ) H:=⟨s.tp,λa m=>m.elim (s.bm a) λo=>let ⟨vs,h,_⟩:=s.ownH o;⟨_,h,L8.lst⟩⟩
def SR.nt (s:SR K B T H σ τ){a:ke}(m:mt B σ τ a):¬T a:=m.elim (s.bt a) λo=>let ⟨_,_,_,t,_⟩:=s.ownH o;t
def SR.stp (s:SR K B T H σ τ)(p:DK T H T' H'):SR K B T' H' σ τ where
 len:=s.len
 val:=λi x e=>let ⟨v,h,r⟩:=s.val i x e;⟨v,h,r.stp p s.va⟩
 own:=λi xs e=>by obtain⟨q,vs,c,h,r,b,t,m⟩:=s.own i xs e;exact⟨q,vs,c,p.keep _ _ t h,r.stp p s.va,b,(λz=>(p.new q z).elim t λn=>by rw[n] at h;cases h),m⟩
 dist:=s.dist
 tp:=p.tp
 bm:=λa m=>let ⟨o,e,q⟩:=s.bm a m;⟨o,p.keep a o (s.bt a m) e,q⟩
 bt:=λa m z=>by obtain⟨o,e,_⟩:=s.bm a m;exact(p.new a z).elim (s.bt a m) λn=>by rw[n] at e;cases e
 st:=s.st.trans p
def SR.add {p:ke}{o:HO}(s:SR K B T H σ τ)(q:DK T H T' H')(f:H p=none)(k:H' p=some o)(l:L8 o)(u:¬T' p):SR K (B.add p) T' H' σ τ:=by
 have c:=s.stp q;have g:Mv K T (mt B σ τ) H T' (mt (B.add p) σ τ) H':=⟨s.va,λb o t _ e=>q.keep b o t e,q.sub,λb n t=>(q.new b t).elim id λz=>absurd z n,λb n z=>by
  rcases z with(z|z)|z
  .exact .inl z
  .subst z;exact absurd f n
  .exact .inr z⟩
 refine⟨s.len,λi x e=> ?_,λi xs e=> ?_,s.dist,c.tp,λa m=> ?_,λa m=> ?_,c.st⟩
 .obtain ⟨v,h,r⟩:=s.val i x e;exact⟨v,h,r.mv g⟩
 .obtain ⟨a,vs,j,h,r,b,t,m⟩:=s.own i xs e;obtain⟨y,w,d,h',_,A,t',C⟩:=c.own i xs e;rw[j] at d;cases d;rw[q.keep _ _ t h] at h';cases h';refine⟨a,vs,j,q.keep _ _ t h,r.mv g,b,t',λz=> ?_⟩;rcases z with z|z
  .exact m z
  .subst z;rw[f] at h;cases h
 .rcases m with m|m
  .exact c.bm a m
  .subst m;exact⟨o,k,l⟩
 .rcases m with m|m
  .exact c.bt a m
  .subst m;exact u
end
def gK:kd AV->kd AV
 | some (.own xs)=>some (.val (.lst xs))
 | o=>o
def frz (τ:BL):BL:=τ.map gK
def XW {τ:BL}{i:Nat}:(frz τ)[i]? =(τ[i]?).map gK:=by simp[frz]
def gL {τ:BL}{i:Nat}{x:PV}(h:(frz τ)[i]? =some (some (.val x))):τ[i]? =some (some (.val x))\/∃xs,x= .lst xs/\τ[i]? =some (some (.own xs)):=by
 rw[XW] at h;cases e:τ[i]? with
 | none=>rw[e] at h;cases h
 | some o=>
   rw[e] at h;cases o with
   | none=>cases h
   | some a=>
     cases a with
     | val y=>cases h;exact .inl rfl
     | own xs=>cases h;exact .inr ⟨xs,rfl,rfl⟩
def RI {τ:BL}{i:Nat}{xs:km PV}:(frz τ)[i]? ≠some (some (.own xs)):=by
 rw[XW];cases e:τ[i]? with
 | none=>exact λz=>nomatch z
 | some o=>
   cases o with
   | none=>exact λz=>nomatch z
   | some a=>cases a <;> exact λz=>nomatch z
def UQ {a:L2.St}{τ:BL}{p:ke}:¬CW a (frz τ) p:=λ⟨_,_,h,_⟩=>RI h
section
variable {K:AAB}{B:DJ}{T T':ke->Prop}{H H':Hp}{σ:L2.St}{τ:BL}
def SR.frz (s:SR K B T H σ τ):SR K B T H σ (frz τ):=by
 have d:Mv K T (mt B σ τ) H T (mt B σ (PL.frz τ)) H:= .anti s.va λa m=>m.elim .inl λz=>absurd z UQ;refine⟨by simp[PL.frz,s.len],λi x e=> ?_,λi xs e=>absurd e RI,λi j xs ys p e=>absurd e RI,s.tp,s.bm,s.bt,s.st⟩;rcases gL e with c|⟨xs,f,c⟩
 .obtain ⟨v,h,r⟩:=s.val i x c;exact⟨v,h,r.mv d⟩
 .subst f;obtain⟨p,vs,g,h,r,b,t,m⟩:=s.own i xs c;exact⟨.ref p,g, .lst h t (λz=>z.elim m UQ) (r.mv d)⟩
end
mutual
def fN:PV->gn
 | .lst _=>false
 | .tape=>false
 | .scr _=>false
 | .dct _=>false
 | .tup xs=>gv xs
 | _=>true
def gv:km PV->gn
 | [] =>true
 | x::xs=>fN x&&gv xs
end
section
variable {K:AAB}{T M M':ke->Prop}{H:Hp}
mutual
theorem CF.free:∀{v:V} {x:PV},fN x=true->CF K T M H v x->CF K T M' H v x
 | _,_,_, .non=> .non
 | _,_,_, .bl b=> .bl b
 | _,_,_, .int i=> .int i
 | _,_,_, .str x=> .str x
 | _,_,_, .ty n=> .ty n
 | _,_,n, .tup h r=> .tup h (BB.free (by rw[fN] at n;exact n) r)
 | _,_,n, .lst _ _ _ _=>by rw[fN] at n;cases n
 | _,_,n, .tape _=>by rw[fN] at n;cases n
 | _,_,n, .scr _=>by rw[fN] at n;cases n
 | _,_,n, .dct _ _ _=>by rw[fN] at n;cases n
 | _,_,_, .dk h e=> .dk h e
theorem BB.free:∀{vs:km V} {xs:km PV},gv xs=true->BB K T M H vs xs->BB K T M' H vs xs
 | _,_,_, .nil=> .nil
 | _,_,n, .cons h t=>by rw[gv,AAo] at n;exact .cons (CF.free n.1 h) (BB.free n.2 t)
end
end
abbrev AE:=BL->(PV->Prop)->Prop
abbrev AT:=BL->(gn->Prop)->Prop
abbrev AA:=BL->(km PV->Prop)->Prop
abbrev AF:=km PV->(PV->Prop)->Prop
def QI:BL->Nat->kd AV
 | [],_=>none
 | x::_,0=>x
 | _::r,n+1=>QI r n
theorem K9:∀{τ:BL} {i:Nat} {a:AV},QI τ i=some a->τ[i]? =some (some a)
 | [],_,_,h=>by simp[QI] at h
 | x::_,0,_,h=>by simpa[QI] using h
 | _::r,n+1,a,h=>by have:=K9 (τ:=r) (i:=n) (a:=a) (by simpa[QI] using h);simpa using this
def aB (x:PV)(R:Int->Prop):Prop:=match x with | .int i=>R i|_=>False
def ZZ (x y:PV)(R:Int->Int->Prop):Prop:=match x,y with | .int i, .int j=>R i j|_,_=>False
def hG (x:PV)(R:gn->Prop):Prop:=match x with | .bl b=>R b|_=>False
def aD (o:kd PV)(R:PV->Prop):Prop:=match o with | some z=>R z|none=>False
def cj {o:kd PV}{R:PV->Prop}(h:aD o R):∃z,o=some z/\R z:=by cases o <;> first | exact⟨_,rfl,h⟩|exact h.elim
def Oo (x:PV)(R:km PV->Prop):Prop:=match x with | .tup xs=>R xs | .lst xs=>R xs|_=>False
def WE {x:PV}{R:Int->Prop}(h:aB x R):∃i,x= .int i/\R i:=by cases x <;> first | exact⟨_,rfl,h⟩|exact h.elim
def Md {x y:PV}{R:Int->Int->Prop}(h:ZZ x y R):∃i j,x= .int i/\y= .int j/\R i j:=by cases x <;> cases y <;> first | exact⟨_,_,rfl,rfl,h⟩|exact h.elim
def Rq {x:PV}{R:gn->Prop}(h:hG x R):∃b,x= .bl b/\R b:=by cases x <;> first | exact⟨_,rfl,h⟩|exact h.elim
def HK {x:PV}{R:km PV->Prop}(h:Oo x R):∃xs,(x= .tup xs\/x= .lst xs)/\R xs:=by cases x <;> first | exact⟨_, .inl rfl,h⟩|exact⟨_, .inr rfl,h⟩|exact h.elim
def CF.toI {K:AAB}{T M:ke->Prop}{H:Hp}{v:V}{i:Int}(r:CF K T M H v (.int i)):v= .int i:=by cases r;rfl
def CF.toB {K:AAB}{T M:ke->Prop}{H:Hp}{v:V}{i:gn}(r:CF K T M H v (.bl i)):v= .bl i:=by cases r;rfl
def II (K:AAB)(t:TE)(a:AE):Prop:=∀(B:DJ) (T:ke->Prop) (b:L2.St) (τ:BL) (H:Hp) (Q:VK) (d:PV->Prop),SR K B T H b τ->a τ d->
 (∀v x e c,DK T H e c->CF K e (mt B b τ) c v x->d x->Q v c)->t b H Q
def VE (K:AAB)(t:TT)(a:AT):Prop:=∀(B:DJ) (T:ke->Prop) (c:L2.St) (τ:BL) (H:Hp) (Q:gn->Hp->Prop) (d:gn->Prop),SR K B T H c τ->a τ d->
 (∀b f e,DK T H f e->d b->Q b e)->t c H Q
def kA (K:AAB)(t:TA)(a:AA):Prop:=∀(B:DJ) (T:ke->Prop) (b:L2.St) (τ:BL) (H:Hp) (Q:km V->Hp->Prop) (d:km PV->Prop),SR K B T H b τ->a τ d->
 (∀vs xs e c,DK T H e c->BB K e (mt B b τ) c vs xs->d xs->Q vs c)->t b H Q
def fx (K:AAB)(t:TE)(a:AA):Prop:=∀(B:DJ) (T:ke->Prop) (c:L2.St) (τ:BL) (H:Hp) (Q:VK) (e:km PV->Prop),SR K B T H c τ->a τ e->
 (∀p vs xs d b,DK T H d b->SR K (B.add p) d b c τ->H p=none->b p=some (.lst vs)->¬d p->BB K d (mt (B.add p) c τ) b vs xs->e xs->Q (.ref p) b)->t c H Q
def SE (X:Cx)(e:kc)(a:AE):Prop:=∃t,PE X e t/\II X.K t a
def Sa (X:Cx)(e:kc)(a:AT):Prop:=∃t,PT X e t/\VE X.K t a
def SW (X:Cx)(e:kc)(a:AT):Prop:=∃t,PW X e t/\VE X.K t a
def SA (X:Cx)(es:km kc)(a:AA):Prop:=∃t,PA X es t/\kA X.K t a
def SF (X:Cx)(e:kc)(a:AA):Prop:=∃t,PE X e t/\fx X.K t a
abbrev IV:=PV->PV->(PV->Prop)->Prop
def CC (K:AAB)(r:R2)(f:IV):Prop:=∀(T M:ke->Prop) (H:Hp) (u v:V) (x y:PV) (Q:VK) (b:PV->Prop),Ii T M H->CF K T M H u x->CF K T M H v y->f x y b->
 (∀w z c a,DK T H c a->CF K c M a w z->b z->Q w a)->r u v H Q
def F1 (K:AAB)(r:km V->Hp->VK->Prop)(f:AF):Prop:=∀(T M:ke->Prop) (H:Hp) (b:km V) (xs:km PV) (Q:VK) (c:PV->Prop),Ii T M H->BB K T M H b xs->f xs c->
 (∀w z d a,DK T H d a->CF K d M a w z->c z->Q w a)->r b H Q
section
variable {X:Cx}{a b c:kc}{es:km kc}{pos:Pos}{ta tb:AE}{tA tB':AT}
def aV (i:Nat):AE:=λτ Q=>match QI τ i with | some (.val x)=>Q x|_=>False
def o8 {i:Nat}{τ:BL}{Q:PV->Prop}(h:aV i τ Q):∃x,τ[i]? =some (some (.val x))/\Q x:=by
 unfold aV at h;cases e:QI τ i with
 | none=>rw[e] at h;exact h.elim
 | some z=>
   rw[e] at h;cases z with
   | own xs=>exact h.elim
   | val x=>exact⟨x,K9 e,h⟩
def AJ (i:Nat){x:Str}{pos:Pos}(hN:X.N[i]? =some x:=by rfl)(hv:oB X.env.scope x:=by first | exact Or.inl rfl|exact Or.inr (Or.inl rfl)|exact Or.inr (Or.inr rfl))(hd:(x==("__debug__" :Str))=false:=by decide)(d:(x==("__classdict__" :Str))=false:=by decide):SE X (.Name x pos) (aV i):=by refine⟨_,WH hN hv hd d,λB T g τ H Q j s h k=> ?_⟩;obtain⟨x,e,q⟩:=o8 h;obtain⟨v,f,r⟩:=s.val i x e;exact⟨v,f,k v x T H (.refl s.tp) r q⟩
def aC (x:PV):AE:=λ_ Q=>Q x
def QR {v:V}{x:PV}(h:∀T M H,CF X.K T M H v x):II X.K (tC v) (aC x):=λB T d τ H Q e s h' k=>k v x T H (.refl s.tp) (h _ _ _) h'
def AH {i:Int}{j pos}:SE X (.Constant (.int i) j pos) (aC (.int i)):=⟨_,BK,QR λ_ _ _=> .int i⟩
def Eh {i:gn}{j pos}:SE X (.Constant (.bool i) j pos) (aC (.bl i)):=⟨_,qR,QR λ_ _ _=> .bl i⟩
def BP {j pos}:SE X (.Constant .none j pos) (aC .non):=⟨_,cy,QR λ_ _ _=> .non⟩
def Bj {i:Str}{j pos}:SE X (.Constant (.str i) j pos) (aC (.str i)):=⟨_,mN,QR λ_ _ _=> .str i⟩
def Uc {x:Str}{n:String}{u:kj}{pos:Pos}(d:Gl X x)(e:X.mg x=none)(hv:bootBuiltins x=some u)(r:RelV (.ty n) u)(f:x≠"__name__" :=by decide)(hd:(x==("__debug__" :Str))=false:=by decide):SE X (.Name x pos) (aC (.ty n)):=
 ⟨_,hZ (v:= .ty n) d e hv r f hd,QR λ_ _ _=> .ty n⟩
def AX (f:IV)(ta tb:AE):AE:=λτ Q=>ta τ λx=>tb τ λy=>f x y Q
def SH {r:R2}{f:IV}{t u:TE}(i:CC X.K r f)(ha:II X.K t ta)(hb:II X.K u tb):II X.K (Zt r t u) (AX f ta tb):=by intro B T g τ H Q j s h k;refine ha B T g τ H _ _ s h λv x T1 H1 d l h1=> ?_;refine hb B T1 g τ H1 _ _ (s.stp d) h1 λw y m n e o h2=> ?_;have p:=(s.stp d).stp e;exact i m _ n v w x y Q j p.va (l.stp e (s.stp d).va) o h2 λw z T3 A C D q=>k w z T3 A ((d.trans e).trans C) D q
def Aa {op:Operator}{r:R2}{f:IV}(d:D9 X (binaryOp op) r/\CC X.K r f)(ha:SE X a ta)(hb:SE X b tb):SE X (.BinOp a op b pos) (AX f ta tb):=
 let ⟨_,p,s⟩:=ha;let ⟨_,e,g⟩:=hb;⟨_,B3 d.1 p e,SH d.2 s g⟩
def Dx {op:CmpOp}{r:R2}{f:IV}(d:D9 X (compareOp op) r/\CC X.K r f)(ha:SE X a ta)(hb:SE X b tb)(e:behindInMarks op b=false):SE X (.Compare a [op] [b] pos) (AX f ta tb):=
 let ⟨_,p,s⟩:=ha;let ⟨_,g,h⟩:=hb;⟨_,Xx d.1 p g e,SH d.2 s h⟩
def q5 {r:R2}{f:IV}(d:fE X r/\CC X.K r f)(ha:SE X a ta)(hb:SE X b tb)(hs:MW b):SE X (.Subscript a b pos) (AX f ta tb):=
 let ⟨_,p,s⟩:=ha;let ⟨_,e,g⟩:=hb;⟨_,J0 d.1 p e hs,SH d.2 s g⟩
def fI (g:Int->Int->PV):IV:=λx y Q=>ZZ x y λi j=>Q (g i j)
def pD (C:Int->Int->Prop)(g:Int->Int->PV):IV:=λx y Q=>ZZ x y λi j=>C i j/\Q (g i j)
def Uh {g:Int->Int->V}{g':Int->Int->PV}(d:∀i j T M H,CF X.K T M H (g i j) (g' i j)):CC X.K (Mi g) (fI g'):=by intro T M H u v x y Q f va e rv h k;obtain⟨i,j,rfl,rfl,q⟩:=Md h;exact⟨i,j,e.toI,rv.toI,k _ _ T H (.refl va.tp) (d i j T M H) q⟩
def Wa {C:Int->Int->Prop}{g:Int->Int->V}{g':Int->Int->PV}(d:∀i j T M H,CF X.K T M H (g i j) (g' i j)):CC X.K (rI C g) (pD C g'):=by intro T M H u v x y Q f va e rv h k;obtain⟨i,j,rfl,rfl,c,q⟩:=Md h;exact⟨i,j,e.toI,rv.toI,c,k _ _ T H (.refl va.tp) (d i j T M H) q⟩
abbrev pC:IV:=fI λi j=> .int (i+j)
abbrev IK:IV:=fI λi j=> .int (i-j)
abbrev XU:IV:=fI λi j=> .bl (decide (i<j))
abbrev wa:IV:=fI λi j=> .bl (decide (i<=j))
abbrev Z7:IV:=fI λi j=> .bl (decide (j<i))
abbrev wZ:IV:=fI λi j=> .bl (decide (j<=i))
def Df:D9 X (binaryOp .Sub) (Mi λi j=> .int (i-j))/\CC X.K (Mi λi j=> .int (i-j)) IK:=⟨WF,Uh λi j _ _ _=> .int _⟩
def Fe:D9 X (compareOp .Lt) (Mi λi j=> .bl (decide (i<j)))/\CC X.K (Mi λi j=> .bl (decide (i<j))) XU:=⟨jd,Uh λi j _ _ _=> .bl _⟩
def rD:D9 X (compareOp .LtE) (Mi λi j=> .bl (decide (i<=j)))/\CC X.K (Mi λi j=> .bl (decide (i<=j))) wa:=⟨qN,Uh λi j _ _ _=> .bl _⟩
def IZ:D9 X (compareOp .Gt) (Mi λi j=> .bl (decide (j<i)))/\CC X.K (Mi λi j=> .bl (decide (j<i))) Z7:=⟨jc,Uh λi j _ _ _=> .bl _⟩
def rB:D9 X (compareOp .GtE) (Mi λi j=> .bl (decide (j<=i)))/\CC X.K (Mi λi j=> .bl (decide (j<=i))) wZ:=⟨jb,Uh λi j _ _ _=> .bl _⟩
structure MulOk (i j:Int):Prop where
 l:i.natAbs<2^1000000
 r:j.natAbs<2^1000000
def Me:D9 X (binaryOp .Mult) (rI MulOk λi j=> .int (i*j)):=l7 λ_ _ _ _ _ _ _ hc q=>mul_int q (.of_le (Hj hc.l) (Hj hc.r) (by decide))
abbrev DV:IV:=pD MulOk λi j=> .int (i*j)
def BQ:D9 X (binaryOp .Mult) (rI MulOk λi j=> .int (i*j))/\CC X.K (rI MulOk λi j=> .int (i*j)) DV:=⟨Me,Wa λi j _ _ _=> .int _⟩
structure W2 (i j:Int):Prop where
 ne:j≠0
 lt:j.natAbs<2^8900
def cr:D9 X (binaryOp .FloorDiv) (rI W2 λi j=> .int (i.fdiv j)):=l7 λi j _ _ _ _ _ hc q=>
 floordiv_int hc.ne q (.inl (AEm (ADQ (Ju hc.lt (by decide)) (by decide))))
abbrev RF:IV:=pD W2 λi j=> .int (i.fdiv j)
def Fd:D9 X (binaryOp .FloorDiv) (rI W2 λi j=> .int (i.fdiv j))/\CC X.K (rI W2 λi j=> .int (i.fdiv j)) RF:=⟨cr,Wa λi j _ _ _=> .int _⟩
abbrev bH:IV:=pD (λ_ j=>j≠0) λi j=> .int (i.fmod j)
def dz:D9 X (binaryOp .Mod) (rI (λ_ j=>j≠0) λi j=> .int (i.fmod j))/\CC X.K (rI (λ_ j=>j≠0) λi j=> .int (i.fmod j)) bH:=⟨hU,Wa λi j _ _ _=> .int _⟩
def sD:PV->gn | .non=>true|_=>false
def HE:IV:=λx y Q=>match y with | .non=>Q (.bl (sD x))|_=>False
def HF:IV:=λx y Q=>match y with | .non=>Q (.bl (!sD x))|_=>False
def Xk {K:AAB}{T M:ke->Prop}{H:Hp}{v:V}{x:PV}(r:CF K T M H v x):decide (v= .non)=sD x:=by cases r <;> simp[sD]
def GZ:D9 X (compareOp .Is) (λx y H Q=>y= .non/\Q (.bl (decide (x= .non))) H)/\CC X.K (λx y H Q=>y= .non/\Q (.bl (decide (x= .non))) H) HE:=by
 refine⟨mC,λT M H u v x y Q e va d rv h k=> ?_⟩;cases y <;> first | exact h.elim|skip
 cases rv;refine⟨rfl, ?_⟩;rw[Xk d];exact k _ _ T H (.refl va.tp) (.bl _) h
def Hu:D9 X (compareOp .IsNot) (λx y H Q=>y= .non/\Q (.bl (!decide (x= .non))) H)/\CC X.K (λx y H Q=>y= .non/\Q (.bl (!decide (x= .non))) H) HF:=by
 refine⟨Xv,λT M H u v x y Q e va d rv h k=> ?_⟩;cases y <;> first | exact h.elim|skip
 cases rv;refine⟨rfl, ?_⟩;rw[Xk d];exact k _ _ T H (.refl va.tp) (.bl _) h
def Aj:IV:=λx y Q=>Oo x λxs=>aB y λi=>aD (KM xs i) Q
def XC {K:AAB}{T M:ke->Prop}{H:Hp}{vs:km V}{xs:km PV}{i:Int}{z:PV}(r:BB K T M H vs xs)(h:KM xs i=some z):∃v,KM vs i=some v/\CF K T M H v z:=by
 unfold KM at h ⊢;rw[r.length];cases e:gh xs.length i with
 | none=>rw[e] at h;cases h
 | some j=> rw[e] at h;exact r.get h
def qc (K:AAB):R2:=λx y H Q=>qZ K x y H Q\/qd K x y H Q
def rC:fE X (qc X.K)/\CC X.K (qc X.K) Aj:=by
 refine⟨FV.or lM,λT M H u v x y Q g va f rv h k=> ?_⟩;obtain⟨xs,hx,h1⟩:=HK h;obtain⟨i,rfl,h2⟩:=WE h1;cases rv.toI;obtain⟨z,e,q⟩:=cj h2;rcases hx with rfl|rfl
 .cases f with
  | tup hq r=> obtain⟨w,ew,d⟩:=XC r e;exact .inr ⟨_,_,i,w,rfl,rfl,hq.sq,ew,k w z T H (.refl va.tp) d q⟩
 .cases f with
  | lst hq t m r=> obtain⟨w,ew,d⟩:=XC r e;exact .inl ⟨_,_,i,w,rfl,rfl, .inl (.inl hq),ew,k w z T H (.refl va.tp) d q⟩
def MC (f:PV->(PV->Prop)->Prop)(ta:AE):AE:=λτ Q=>ta τ λx=>f x Q
def E4 (x:PV)(Q:PV->Prop):Prop:=aB x λi=>Q (.int (-i))
def CA (ha:SE X a ta):SE X (.UnaryOp .USub a pos) (MC E4 ta):=by obtain⟨t,p,s⟩:=ha;refine⟨_,qT ng p,λB T d τ H Q j e h k=>s B T d τ H _ _ e h λv x T1 H1 f g h1=> ?_⟩;obtain⟨i,rfl,q⟩:=WE h1;exact⟨i,g.toI,k _ _ T1 H1 f (.int _) q⟩
def kW (x:PV)(Q:PV->Prop):Prop:=hG x λi=>Q (.bl (!i))
def nH (ha:SE X a ta):SE X (.UnaryOp .Not a pos) (MC kW ta):=by obtain⟨t,p,s⟩:=ha;refine⟨_,mL p,λB T d τ H Q j e h k=>s B T d τ H _ _ e h λv x T1 H1 f g h1=> ?_⟩;obtain⟨i,rfl,q⟩:=Rq h1;exact⟨i,g.toB,k _ _ T1 H1 f (.bl _) q⟩
def VH (ta tb:AE):AE:=λτ Q=>ta τ λx=>hG x λc=>if c=true then tb τ Q else Q (.bl false)
def tS (ta tb:AE):AE:=λτ Q=>ta τ λx=>hG x λc=>if c=true then Q (.bl true) else tb τ Q
def LN {op}(h:SE X a ta):SE X (.BoolOp op [a] pos) ta:=let ⟨_,p,s⟩:=h;⟨_,mM p,s⟩
def OW {rest:km kc}(ha:SE X a ta)(hb:SE X (.BoolOp .And (b::rest) pos) tb):SE X (.BoolOp .And (a::b::rest) pos) (VH ta tb):=by
 obtain⟨t,p,s⟩:=ha;obtain⟨t',g,j⟩:=hb;refine⟨_,mJ p g,λB T e τ H Q u f h k=>s B T e τ H _ _ f h λv x T1 H1 d l h1=> ?_⟩;obtain⟨i,rfl,q⟩:=Rq h1;refine⟨i,l.toB, ?_⟩;cases i with
 | true=>rw[AAD rfl] at q ⊢;exact j B T1 e τ H1 _ _ (f.stp d) q λw y m n o r h2=>k w y m n (d.trans o) r h2
 | false=>rw[AAC AAO] at q ⊢;exact k _ _ T1 H1 d (.bl _) q
def q9 {rest:km kc}(ha:SE X a ta)(hb:SE X (.BoolOp .Or (b::rest) pos) tb):SE X (.BoolOp .Or (a::b::rest) pos) (tS ta tb):=by
 obtain⟨t,p,s⟩:=ha;obtain⟨t',g,j⟩:=hb;refine⟨_,qS p g,λB T e τ H Q u f h k=>s B T e τ H _ _ f h λv x T1 H1 d l h1=> ?_⟩;obtain⟨i,rfl,q⟩:=Rq h1;refine⟨i,l.toB, ?_⟩;cases i with
 | false=>rw[AAC AAO] at q ⊢;exact j B T1 e τ H1 _ _ (f.stp d) q λw y m n o r h2=>k w y m n (d.trans o) r h2
 | true=>rw[AAD rfl] at q ⊢;exact k _ _ T1 H1 d (.bl _) q
def Al (ta:AE):AT:=λτ Q=>ta τ λx=>hG x Q
def SJ {t:TE}(s:II X.K t ta):VE X.K (eI t) (Al ta):=λB T d τ H Q j e h k=>s B T d τ H _ _ e h λv x T1 H1 f g h1=>by obtain⟨i,rfl,q⟩:=Rq h1;exact⟨i,g.toB,k _ T1 H1 f q⟩
def We {op:CmpOp}{r:R2}{f:IV}(d:D9 X (compareOp op) r/\CC X.K r f)(ha:SE X a ta)(hb:SE X b tb)(e:behindInMarks op b=false):Sa X (.Compare a [op] [b] pos) (Al (AX f ta tb)):=
 let ⟨_,p,s⟩:=ha;let ⟨_,g,h⟩:=hb;⟨_,Mh d.1 p g e,SJ (SH d.2 s h)⟩
def BC {e:kc}(h:SE X e ta)(he:∀whole,isTrue e X.env whole=(do let v <-whole;standAt e.pos;holding [v] (truthy v)):=by intro _;rfl):Sa X e (Al ta):=
 let ⟨_,p,s⟩:=h;⟨_,mR p he,SJ s⟩
def Dj (t:AT):AT:=λτ Q=>t τ λc=>Q (!c)
def Gi (t u:AT):AT:=λτ Q=>t τ λc=>if c=true then u τ Q else Q false
def F2 (t u:AT):AT:=λτ Q=>t τ λc=>if c=true then Q true else u τ Q
def Cf (ha:Sa X a tA):Sa X (.UnaryOp .Not a pos) (Dj tA):=by obtain⟨t,p,s⟩:=ha;exact⟨_,mQ p,λB T d τ H Q g e h k=>s B T d τ H _ _ e h λv T1 H1 f h1=>k _ T1 H1 f h1⟩
def EK (ha:Sa X a tA):SW X (.BoolOp .And [a] pos) tA:=let ⟨_,p,s⟩:=ha;⟨_,iL p,s⟩
def Dy (ha:Sa X a tA):SW X (.BoolOp .Or [a] pos) tA:=let ⟨_,p,s⟩:=ha;⟨_,mT p,s⟩
def Fu {rest:km kc}(ha:Sa X a tA)(hb:SW X (.BoolOp .And (b::rest) pos) tB'):SW X (.BoolOp .And (a::b::rest) pos) (Gi tA tB'):=by
 obtain⟨t,p,s⟩:=ha;obtain⟨t',g,j⟩:=hb;refine⟨_,mS p g,λB T e τ H Q o f h k=>s B T e τ H _ _ f h λi T1 H1 d q=> ?_⟩;cases i with
 | true=>rw[AAD rfl] at q ⊢;exact j B T1 e τ H1 _ _ (f.stp d) q λb l m n h2=>k b l m (d.trans n) h2
 | false=>rw[AAC AAO] at q ⊢;exact k _ T1 H1 d q
def D2 {rest:km kc}(ha:Sa X a tA)(hb:SW X (.BoolOp .Or (b::rest) pos) tB'):SW X (.BoolOp .Or (a::b::rest) pos) (F2 tA tB'):=by
 obtain⟨t,p,s⟩:=ha;obtain⟨t',g,j⟩:=hb;refine⟨_,qW p g,λB T e τ H Q o f h k=>s B T e τ H _ _ f h λi T1 H1 d q=> ?_⟩;cases i with
 | false=>rw[AAC AAO] at q ⊢;exact j B T1 e τ H1 _ _ (f.stp d) q λb l m n h2=>k b l m (d.trans n) h2
 | true=>rw[AAD rfl] at q ⊢;exact k _ T1 H1 d q
def Eo (h:SW X a tA):Sa X a tA:=let ⟨_,p,s⟩:=h;⟨_,p.pt,s⟩
def fH (t:AT)(ta tb:AE):AE:=λτ Q=>t τ λc=>if c=true then ta τ Q else tb τ Q
def Li (hc:Sa X c tA)(ha:SE X a ta)(hb:SE X b tb):SE X (.IfExp c a b pos) (fH tA ta tb):=by
 obtain⟨t,p,s⟩:=hc;obtain⟨v,r,e⟩:=ha;obtain⟨x,u,f⟩:=hb;refine⟨_,cx p r u,λB T g τ H Q z j h k=>s B T g τ H _ _ j h λi T1 H1 d q=> ?_⟩;cases i with
 | true=>rw[AAD rfl] at q ⊢;exact e B T1 g τ H1 _ _ (j.stp d) q λw y l m n o h2=>k w y l m (d.trans n) o h2
 | false=>rw[AAC AAO] at q ⊢;exact f B T1 g τ H1 _ _ (j.stp d) q λw y l m n o h2=>k w y l m (d.trans n) o h2
def AL:AA:=λ_ Q=>Q []
def AB (ta:AE)(r:AA):AA:=λτ Q=>ta τ λx=>r τ λxs=>Q (x::xs)
def HZ:SA X [] AL:=⟨_,ED,λB T e τ H Q f d h k=>k [] [] T H (.refl d.tp) .nil h⟩
def Ar {e:kc}{r:AA}(ha:SE X e ta)(j:SA X es r)(hs:starEach (e::es) X.env=(false,eval e X.env)::starEach es X.env:=by rfl):SA X (e::es) (AB ta r):=by obtain⟨t,p,s⟩:=ha;obtain⟨t',l,m⟩:=j;refine⟨_,Bx p l hs,λB T g τ H Q y d h k=>s B T g τ H _ _ d h λv x T1 H1 f n h1=> ?_⟩;exact m B T1 g τ H1 _ _ (d.stp f) h1 λvs xs o u i w h2=>k _ _ o u (f.trans i) (.cons (n.stp i (d.stp f).va) w) h2
def Az (r:AA):AE:=λτ Q=>r τ λxs=>xs.length<=sizeLine/\Q (.tup xs)
def Ae {x1}{r:AA}(h:SA X es r):SE X (.Tuple es x1 pos) (Az r):=by obtain⟨t,p,s⟩:=h;refine⟨_,N6 p,λB T g τ H Q i d h k=>s B T g τ H _ _ d h λvs xs T1 H1 e f h1=>⟨by rw[f.length];exact h1.1,λq hq=> ?_⟩⟩;have l:=DK.lay (o:= .tup vs) (d.stp e).tp hq;exact k _ _ T1 _ (e.trans l) (.tup (.inl Ab) (f.stp l (d.stp e).va)) h1.2
def Dz (r:AA):AA:=λτ Q=>r τ λxs=>xs.length<=sizeLine/\Q xs
def RZ {K:AAB}{B:DJ}{T:ke->Prop}{H:Hp}{d:L2.St}{τ:BL}{p:ke}{vs:km V}{xs:km PV}(f:SR K B T H d τ)(hq:H p=none)(r:BB K T (mt B d τ) H vs xs):DK T H T (upd H p (.lst vs))/\SR K (B.add p) T (upd H p (.lst vs)) d τ/\¬T p/\BB K T (mt (B.add p) d τ) (upd H p (.lst vs)) vs xs:=by
 have l:=DK.lay (o:= .lst vs) f.tp hq;have g:¬T p:=λz=>by obtain⟨o,e,_⟩:=(f.tp p z).mut;rw[hq] at e;cases e
 refine⟨l,f.add l hq Ab L8.lst g,g,r.mv ⟨f.va,λb o t _ e=>l.keep b o t e,l.sub,λb n t=>t,λb n z=> ?_⟩⟩;rcases z with(z|z)|z
 .exact .inl z
 .subst z;exact absurd hq n
 .exact .inr z
def Bs {r:AA}(h:SA X es r):SF X (.List es pos) (Dz r):=by obtain⟨t,p,s⟩:=h;refine⟨_,WG p,λB T i τ H Q n f h k=>s B T i τ H _ _ f h λvs xs T1 H1 d g h1=>⟨by rw[g.length];exact h1.1,λq hq=> ?_⟩⟩;obtain⟨l,e,j,m⟩:=RZ (f.stp d) hq g;exact k q vs xs T1 _ (d.trans l) e (d.none hq) Ab j m h1.2
def FI (r:AA):AE:=λτ Q=>r τ λxs=>Q (.lst xs)
def dv {t:TE}{r:AA}(s:fx X.K t r):II X.K t (FI r):=λB T g τ H Q v d h k=>s B T g τ H _ _ d h λp vs xs T1 H1 j f i hp l n h1=>by
 have u:¬CW g τ p:=λo=>by obtain⟨_,e,_⟩:=d.ownH o;rw[i] at e;cases e
 have hb:¬B.M p:=λo=>by obtain⟨_,e,_⟩:=d.bm p o;rw[i] at e;cases e
 exact k _ _ T1 H1 j (.lst hp l (λz=>z.elim hb u) (n.mv (.anti f.va λa m=>m.elim (λz=> .inl (.inl z)) .inr))) h1
def DW {r:AA}(h:SF X a r):SE X a (FI r):=let ⟨_,p,s⟩:=h;⟨_,p,dv s⟩
def CS (K:AAB)(n:Nat)(F:AF):Sp:=λvs H Q _=>∃(T M:ke->Prop) (xs:km PV) (e:PV->Prop),Ii T M H/\(∀a,M a->¬T a)/\BB K T M H vs xs/\xs.length=n/\F xs e/\
 ∀v x f d,DK T H f d->CF K f M d v x->e x->Q v d
def AN (n:Nat)(F:AF)(r:AA):AE:=λτ Q=>r τ λxs=>xs.length=n/\F xs Q
def AK {x:Str}{p:Pos}{e:kc}{k n:Nat}{g:km Str}{F:AF}{r:AA}(D:Has X.prog X.w X.K X.mg X.base k x g (CS X.K n F))(i:Room k X.A)(j:Gl X x)(ha:SA X (e::es) r)(hs:starEach (e::es) X.env=(false,eval e X.env)::starEach es X.env:=by rfl)(hpl:(backTo pos (starEach es X.env)).any (·.1)=false:=by rfl)(hd:(x==("__debug__" :Str))=false:=by decide):SE X (.Call (.Name x p) (e::es) [] pos) (AN n F r):=by obtain⟨t,l,s⟩:=ha;refine⟨_,mK D i j l hs hpl hd,λB T o τ H Q u d h k=>s B T o τ H _ _ d h λvs xs T1 H1 f y h1=> ?_⟩;rw[ADJ];exact⟨T1,_,xs,u,(d.stp f).va,λa m=>(d.stp f).nt m,y,h1.1,h1.2,λv x z C E G q=>k v x z C (f.trans E) G q⟩
def Ev (f:AF)(r:AA):AE:=λτ Q=>r τ λxs=>f xs Q
def du {d:km V->Hp->VK->Prop}{f:AF}{t:TA}{r:AA}(i:F1 X.K d f)(s:kA X.K t r):II X.K (u7 d t) (Ev f r):=λB T j τ H Q l e h k=>s B T j τ H _ _ e h λvs xs T1 H1 g m h1=>
 i T1 _ H1 vs xs Q l (e.stp g).va m h1 λw z n o p u q=>k w z n o (g.trans p) u q
def BI {id:String}{x:Str}{p:Pos}{e:kc}{d:km V->Hp->VK->Prop}{f:AF}{r:AA}(hc:Cg X (.builtin id) d/\F1 X.K d f)(g:Gl X x)(h:X.mg x=none)(hv:bootBuiltins x=some (.builtin id))(ha:SA X (e::es) r)(i:x≠"__name__" :=by decide)(hdb:(x==("__debug__" :Str))=false:=by decide)(he:starEach (e::es) X.env=(false,eval e X.env)::starEach es X.env:=by rfl)(hpl:(backTo pos (starEach es X.env)).any (·.1)=false:=by rfl):SE X (.Call (.Name x p) (e::es) [] pos) (Ev f r):=by obtain⟨t,j,s⟩:=ha;exact⟨_,HM hc.1 g h hv j i hdb he hpl,du hc.2 s⟩
def BF {T:String}{x:Str}{p:Pos}{e:kc}{d:km V->Hp->VK->Prop}{f:AF}{r:AA}(hc:Cg X (.type T) d/\F1 X.K d f)(g:Gl X x)(h:X.mg x=none)(hv:bootBuiltins x=some (.type T))(ha:SA X (e::es) r)(i:x≠"__name__" :=by decide)(hdb:(x==("__debug__" :Str))=false:=by decide)(he:starEach (e::es) X.env=(false,eval e X.env)::starEach es X.env:=by rfl)(hpl:(backTo pos (starEach es X.env)).any (·.1)=false:=by rfl):SE X (.Call (.Name x p) (e::es) [] pos) (Ev f r):=by obtain⟨t,j,s⟩:=ha;exact⟨_,Ew hc.1 g h hv j i hdb he hpl,du hc.2 s⟩
end
section
variable {X:Cx}
def Ea {K:AAB}{T M:ke->Prop}{H:Hp}{v:V}{xs:km PV}(r:CF K T M H v (.tup xs)):∃a vs,v= .ref a/\KJ K H a vs/\BB K T M H vs xs:=by
 cases r with
 | tup h r=>exact⟨_,_,rfl,h.sq,r⟩
def d3 {K:AAB}{T M:ke->Prop}{H:Hp}{v:V}{xs:km PV}(r:CF K T M H v (.tup xs)):∃a vs,v= .ref a/\rh K H a vs/\BB K T M H vs xs:=by
 cases r with
 | tup h r=>exact⟨_,_,rfl,h,r⟩
def C7 {K:AAB}{T M:ke->Prop}{H:Hp}{v:V}{xs:km PV}(r:CF K T M H v (.lst xs)):∃a vs,v= .ref a/\H a=some (.lst vs)/\¬T a/\¬M a/\BB K T M H vs xs:=by
 cases r with
 | lst h t m r=>exact⟨_,_,rfl,h,t,m,r⟩
def dh {K:AAB}{T M:ke->Prop}{H:Hp}{v:V}{b:km Int}(r:CF K T M H v (.scr b)):∃a,v= .ref a/\FJ K H a (b.map V.int):=by
 cases r with
 | scr h=>
   rcases h with⟨h,_,_⟩|h
   .exact ⟨_,rfl, .inl h⟩
   .exact ⟨_,rfl,h H⟩
def Gq:AF:=λxs Q=>match xs with | [.tup ys] =>Q (.int ys.length) | [.lst ys] =>Q (.int ys.length) | [.scr ns] =>Q (.int ns.length)|_=>False
def qe (K:AAB):km V->Hp->VK->Prop:=λxs H Q=>∃p ys,xs= [.ref p] /\(FJ K H p ys\/KJ K H p ys)/\Q (.int ys.length) H
def FE:Cg X (.builtin "len") (qe X.K)/\F1 X.K (qe X.K) Gq:=by
 refine⟨Jk,λT M H b xs Q c va r h k=> ?_⟩;unfold Gq at h;split at h <;> first | exact h.elim|skip
 .rename_i ys;cases r with | cons r t=>cases t;obtain⟨a,vs,rfl,hq,r⟩:=Ea r;refine⟨a,vs,rfl, .inr hq, ?_⟩;rw[r.length];exact k _ _ T H (.refl va.tp) (.int _) h
 .rename_i ys;cases r with | cons r t=>cases t;obtain⟨a,vs,rfl,hq,_,_,r⟩:=C7 r;refine⟨a,vs,rfl, .inl (.inl (.inl hq)), ?_⟩;rw[r.length];exact k _ _ T H (.refl va.tp) (.int _) h
 .rename_i d;cases r with | cons r t=>cases t;obtain⟨a,rfl,hq⟩:=dh r;refine⟨a,_,rfl, .inl hq, ?_⟩;rw[AAK];exact k _ _ T H (.refl va.tp) (.int _) h
def Yx:AF:=λxs Q=>match xs with | [.int i] =>Q (.int i.natAbs)|_=>False
def R8:Cg X (.builtin "abs") (λxs H Q=>∃i,xs= [.int i] /\Q (.int (if i<0 then -i else i)) H)/\F1 X.K (λxs H Q=>∃i,xs= [.int i] /\Q (.int (if i<0 then -i else i)) H) Yx:=by
 refine⟨NU,λT M H a xs Q b va r h k=> ?_⟩;unfold Yx at h;split at h <;> first | exact h.elim|skip
 rename_i i;cases r with
 | cons r t=> cases t;cases r;refine⟨i,rfl, ?_⟩;rw[show (if i<0 then -i else i)=(i.natAbs:Int) by split <;> omega];exact k _ _ T H (.refl va.tp) (.int _) h
def kZ (g:Int->Int->Int):AF:=λxs Q=>match xs with | [.int i, .int j] =>Q (.int (g i j))|_=>False
def dt {g g':Int->Int->Int}(a:∀i j,g i j=g' i j):F1 X.K (λxs H Q=>∃i j,xs= [.int i, .int j] /\Q (.int (g i j)) H) (kZ g'):=by
 intro T M H c xs Q d va r h k;unfold kZ at h;split at h <;> first | exact h.elim|skip
 rename_i i j;cases r with
 | cons r t=>
   cases t with
   | cons b t=> cases t;cases r;cases b;refine⟨i,j,rfl, ?_⟩;rw[a];exact k _ _ T H (.refl va.tp) (.int _) h
def nC (hc:X.calm=true):Cg X (.builtin "min") (λxs H Q=>∃i j,xs= [.int i, .int j] /\Q (.int (if j<i then j else i)) H)/\F1 X.K (λxs H Q=>∃i j,xs= [.int i, .int j] /\Q (.int (if j<i then j else i)) H) (kZ min):=
 ⟨Yo hc,dt λi j=>by split <;> omega⟩
def nB (hc:X.calm=true):Cg X (.builtin "max") (λxs H Q=>∃i j,xs= [.int i, .int j] /\Q (.int (if j>i then j else i)) H)/\F1 X.K (λxs H Q=>∃i j,xs= [.int i, .int j] /\Q (.int (if j>i then j else i)) H) (kZ max):=
 ⟨Yn hc,dt λi j=>by split <;> omega⟩
def Yy:AF:=λxs Q=>match xs with | [.int i] =>Q (.int i) | [.bl k] =>Q (.int (if k then 1 else 0))|_=>False
def WV:Cg X (.type "int") (λxs H Q=>(∃i,xs= [.int i] /\Q (.int i) H)\/∃k,xs= [.bl k] /\Q (.int (if k then 1 else 0)) H)/\F1 X.K (λxs H Q=>(∃i,xs= [.int i] /\Q (.int i) H)\/∃k,xs= [.bl k] /\Q (.int (if k then 1 else 0)) H) Yy:=by
 refine⟨P2,λT M H a xs Q b va r h k=> ?_⟩;unfold Yy at h;split at h <;> first | exact h.elim|skip
 .cases r with | cons r t=>cases t;cases r;exact .inl ⟨_,rfl,k _ _ T H (.refl va.tp) (.int _) h⟩
 .cases r with | cons r t=>cases t;cases r;exact .inr ⟨_,rfl,k _ _ T H (.refl va.tp) (.int _) h⟩
def B5:AF:=λxs Q=>match xs with | [.tup ys] =>Q (.tup ys) | [.lst ys] =>Q (.tup ys)|_=>False
def dP (K:AAB):km V->Hp->VK->Prop:=λxs H Q=>∃p ys,xs= [.ref p] /\((FJ K H p ys/\∀l,H l=none->Q (.ref l) (upd H l (.tup ys)))\/(KJ K H p ys/\Q (.ref p) H))
def Bi:Cg X (.type "tuple") (dP X.K)/\F1 X.K (dP X.K) B5:=by
 refine⟨PF,λT M H c xs Q d va r h k=> ?_⟩;unfold B5 at h;split at h <;> first | exact h.elim|skip
 .cases r with | cons r t=>cases t;obtain⟨a,vs,rfl,hq,b⟩:=d3 r;exact⟨a,vs,rfl, .inr ⟨hq.sq,k _ _ T H (.refl va.tp) (.tup hq b) h⟩⟩
 .cases r with
  | cons r t=> cases t;obtain⟨a,vs,rfl,hq,_,_,b⟩:=C7 r;refine⟨a,vs,rfl, .inl ⟨.inl (.inl hq),λl hl=> ?_⟩⟩;have s:=DK.lay (o:= .tup vs) va.tp hl;exact k _ _ T _ s (.tup (.inl Ab) (b.stp s va)) h
def XX (xs:km PV)(Q:km PV->Prop):Prop:=match xs with | [.tup ys] =>Q ys | [.lst ys] =>Q ys|_=>False
def ab (r:AA):AA:=λτ Q=>r τ λxs=>XX xs Q
def iV {x:Str}{p pos:Pos}{e:kc}{es:km kc}{r:AA}(m:Gl X x)(n:X.mg x=none)(hv:bootBuiltins x=some (.type "list"))(ha:SA X (e::es) r)(o:x≠"__name__" :=by decide)(hdb:(x==("__debug__" :Str))=false:=by decide)(he:starEach (e::es) X.env=(false,eval e X.env)::starEach es X.env:=by rfl)(hpl:(backTo pos (starEach es X.env)).any (·.1)=false:=by rfl):SF X (.Call (.Name x p) (e::es) [] pos) (ab r):=by
 obtain⟨t,u,s⟩:=ha;refine⟨_,Ew Q9 m n hv u o hdb he hpl,λB T g τ H Q v i h k=>s B T g τ H _ _ i h λvs xs T1 H1 c j h1=> ?_⟩;have go:∀(b:km V) (ys:km PV),BB X.K T1 (mt B g τ) H1 b ys->v ys->∀l,H1 l=none->Q (.ref l) (upd H1 l (.lst b)):=λb ys w q l hl=>by obtain⟨y,d,z,A⟩:=RZ (i.stp c) hl w;exact k l b ys T1 _ (c.trans y) d (c.none hl) Ab z A q
 unfold XX at h1;split at h1 <;> first | exact h1.elim|skip
 .cases j with | cons r t=>cases t;obtain⟨a,b,rfl,hq,f⟩:=Ea r;exact⟨a,b,rfl, .inr hq,go b _ f h1⟩
 .cases j with | cons r t=>cases t;obtain⟨a,b,rfl,hq,_,_,f⟩:=C7 r;exact⟨a,b,rfl, .inl (.inl (.inl hq)),go b _ f h1⟩
def kdOf:PV->kd Kd
 | .non=>some .non | .bl _=>some .bl | .int _=>some .int | .str _=>some .str | .tup _=>some .tup | .lst _=>some .lst | .tape=>none | .scr _=>none | .ty _=>none | .dct _=>none | .dk _=>none
def TZ:AF:=λxs Q=>match xs with | [x, .ty T] =>cG T/\(match kdOf x with | some k=>Q (.bl (RV k T))|none=>False)|_=>False
def OR:Cg X (.builtin "isinstance") (mV X.K)/\F1 X.K (mV X.K) TZ:=by
 refine⟨ap,λT M H d xs Q e va r h k=> ?_⟩;unfold TZ at h;split at h <;> first | exact h.elim|skip
 rename_i x ty;obtain⟨a,h⟩:=h;cases r with
 | cons r t=>
   cases t with
   | cons c t=>
     cases t;cases c;cases r with
     | non=>exact⟨_,_, .non,rfl,a,rfl,k _ _ T H (.refl va.tp) (.bl _) h⟩
     | bl b=>exact⟨_,_, .bl,rfl,a,⟨_,rfl⟩,k _ _ T H (.refl va.tp) (.bl _) h⟩
     | int b=>exact⟨_,_, .int,rfl,a,⟨_,rfl⟩,k _ _ T H (.refl va.tp) (.bl _) h⟩
     | str b=>exact⟨_,_, .str,rfl,a,⟨_,rfl⟩,k _ _ T H (.refl va.tp) (.bl _) h⟩
     | ty b=>exact h.elim
     | tup hq _=>exact⟨_,_, .tup,rfl,a,⟨_,_,rfl,hq.sq⟩,k _ _ T H (.refl va.tp) (.bl _) h⟩
     | lst hq _ _ _=>exact⟨_,_, .lst,rfl,a,⟨_,_,rfl, .inl (.inl hq)⟩,k _ _ T H (.refl va.tp) (.bl _) h⟩
     | tape _=>exact h.elim
     | scr _=>exact h.elim
     | dct _ _ _=>exact h.elim
     | dk _ _=>exact h.elim
def Ji:km PV->kd (km gn)
 | [] =>some []
 | .bl b::r=>(Ji r).map (b :: ·)
 | _=>none
theorem XG {K:AAB}{T M:ke->Prop}{H:Hp}:∀{vs:km V} {xs:km PV} {bs:km gn},BB K T M H vs xs->Ji xs=some bs->vs=bs.map V.bl
 | _,_,_, .nil,e=>by simp[Ji] at e;subst e;rfl
 | _,_,bs, .cons h t,e=>by cases h <;> simp[Ji] at e;obtain⟨c,a,b⟩:=e;subst b;simp[XG t a]
def bR (g:km gn->gn):AF:=λxs Q=>match xs with | [.lst ys] =>(match Ji ys with | some bs=>Q (.bl (g bs))|none=>False)|_=>False
def iY {g:km gn->gn}:F1 X.K (iM X.K g) (bR g):=by
 intro T M H c xs Q d va r h k;unfold bR at h;split at h <;> first | exact h.elim|skip
 split at h <;> first | exact h.elim|skip
 rename_i bs e;cases r with
 | cons r t=> cases t;obtain⟨a,f,rfl,hq,_,_,b⟩:=C7 r;have:=XG b e;subst this;exact⟨a,bs,rfl, .inl (.inl hq),k _ _ T H (.refl va.tp) (.bl _) h⟩
def nA (hc:X.calm=true):Cg X (.builtin "any") (iM X.K λbs=>bs.any id)/\F1 X.K (iM X.K λbs=>bs.any id) (bR λbs=>bs.any id):=⟨Yl hc,iY⟩
def df:PV->PV->kd gn
 | .non, .non=>some true | .non, .int _=>some false | .int _, .non=>some false | .non, .bl _=>some false | .bl _, .non=>some false | .non, .str _=>some false | .str _, .non=>some false
 | .int i, .int j=>some (decide (i=j)) | .bl i, .bl j=>some (decide (i=j)) | .str i, .str j=>some (decide (i=j))
 | .int _, .str _=>some false | .str _, .int _=>some false | .bl _, .str _=>some false | .str _, .bl _=>some false
 | _,_=>none
def Ub {K:AAB}{T M:ke->Prop}{H:Hp}{u v:V}{x y:PV}{b:gn}(r:CF K T M H u x)(a:CF K T M H v y)(e:df x y=some b):nD u v=true/\decide (u=v)=b:=by cases r <;> cases a <;> first | (cases e;done)|(cases e;exact⟨rfl,rfl⟩)|(cases e;exact⟨rfl,by simp⟩)
def jA:PV->kd gn
 | .non=>some false | .bl b=>some b | .int i=>some (i != 0) | .tup xs=>some (!xs.isEmpty) | .lst xs=>some (!xs.isEmpty)|_=>none
def kJ (a:AE):AT:=λτ Q=>a τ λx=>match jA x with | some b=>Q b|none=>False
def Jr {K:AAB}{T M:ke->Prop}{H:Hp}{vs:km V}{xs:km PV}(r:BB K T M H vs xs):vs.isEmpty=xs.isEmpty:=by cases r <;> rfl
def nP {a:kc}{d:AE}(ha:SE X a d)(he:∀whole,isTrue a X.env whole=(do let v <-whole;standAt a.pos;holding [v] (truthy v)):=by intro _;rfl):Sa X a (kJ d):=by
 obtain⟨t,p,s⟩:=ha;refine⟨_,dI p he,λB T f τ H Q l g h k=>s B T f τ H _ _ g h λv x T1 H1 i j h1=> ?_⟩;cases e:jA x with
 | none=>rw[e] at h1;exact h1.elim
 | some b=>
   rw[e] at h1;refine⟨b, ?_,k b T1 H1 i h1⟩;cases j <;> simp[jA] at e
   .exact e
   .exact e.symm
   .exact e.symm
   .rename_i hq c;exact .inr (.inl ⟨_,hq.sq,by rw[Jr c,e];simp⟩)
   .rename_i hq _ _ c;exact .inl ⟨_, .inl (.inl hq),by rw[Jr c,e];simp⟩
end
structure Gc where
 nx:BL->Prop
 rt:PV->Prop
 bk:BL->Prop
 ct:BL->Prop
abbrev AS:=Gc->BL->Prop
structure Ff (T:Addr->Prop) (H:Hp) (σ:L2.St) (τ:BL) (T':Addr->Prop) (H':Hp) (σ':L2.St) (τ':BL):Prop where
 keep:∀b o,¬T b->¬CW σ τ b->H b=some o->H' b=some o
 sub:∀b,T b->T' b
 new:∀b,T' b->T b\/H b=none
 own:∀b,CW σ' τ' b->CW σ τ b\/H b=none
 some:∀b,H b≠none->H' b≠none
section
variable {K:AAB}{B:DJ}{T T' T1 T2:ke->Prop}{H H' H1 H2:Hp}{σ σ' σ1 σ2:L2.St}{τ τ' τ1 τ2:BL}
def Ff.refl:Ff T H σ τ T H σ τ:=⟨λ_ _ _ _ e=>e,λ_ t=>t,λ_ t=> .inl t,λ_ o=> .inl o,λ_ h=>h⟩
def Ff.trans (a:Ff T H σ τ T1 H1 σ1 τ1)(b:Ff T1 H1 σ1 τ1 T2 H2 σ2 τ2):Ff T H σ τ T2 H2 σ2 τ2 where
 keep:=λc o t w e=>b.keep c o (λz=>(a.new c z).elim t λn=>by rw[n] at e;cases e) (λz=>(a.own c z).elim w λn=>by rw[n] at e;cases e) (a.keep c o t w e)
 sub:=λc t=>b.sub c (a.sub c t)
 new:=λc t=>(b.new c t).elim (λz=>a.new c z) λz=> .inr (by
  cases e:H c with
  | none=>rfl
  | some o=>exact absurd z (a.some c (by rw[e];exact λe=>nomatch e)))
 own:=λc t=>(b.own c t).elim (λz=>a.own c z) λz=> .inr (by
  cases e:H c with
  | none=>rfl
  | some o=>exact absurd z (a.some c (by rw[e];exact λe=>nomatch e)))
 some:=λc h=>b.some c (a.some c h)
def DK.prog (s:DK T H T' H'):Ff T H σ τ T' H' σ τ:=⟨λb o t _ e=>s.keep b o t e,s.sub,s.new,λ_ o=> .inl o,λ_ h=>s.some h⟩
def Ff.less (h:∀b,CW σ' τ' b->CW σ τ b):Ff T H σ τ T H σ' τ':=⟨λ_ _ _ _ e=>e,λ_ t=>t,λ_ t=> .inl t,λb o=> .inl (h b o),λ_ h=>h⟩
structure ER (K:AAB) (B:DJ) (T:Addr->Prop) (H:Hp) (σ:L2.St) (τ:BL) (D:L7) (AD:Gc):Prop where
 nx:∀T' H' σ' τ',Ff T H σ τ T' H' σ' τ'->SR K B T' H' σ' τ'->AD.nx τ'->D.nx σ' H'
 bk:∀T' H' σ' τ',Ff T H σ τ T' H' σ' τ'->SR K B T' H' σ' τ'->AD.bk τ'->D.bk σ' H'
 ct:∀T' H' σ' τ',Ff T H σ τ T' H' σ' τ'->SR K B T' H' σ' τ'->AD.ct τ'->D.ct σ' H'
 rt:∀v x T' H',DK B.T B.H T' H'->CF K T' B.M H' v x->AD.rt x->D.rt v H'
def ER.shift {D:L7}{a:Gc}(e:ER K B T H σ τ D a)(p:Ff T H σ τ T1 H1 σ1 τ1):ER K B T1 H1 σ1 τ1 D a:=
 ⟨λ_ _ _ _ q=>e.nx _ _ _ _ (p.trans q),λ_ _ _ _ q=>e.bk _ _ _ _ (p.trans q),λ_ _ _ _ q=>e.ct _ _ _ _ (p.trans q),e.rt⟩
end
def aX (K:AAB)(t:TS)(a:AS):Prop:=∀(B:DJ) (T:ke->Prop) (b:L2.St) (τ:BL) (H:Hp) (D:L7) (c:Gc),SR K B T H b τ->a c τ->ER K B T H b τ D c->t D b H
def SS (X:Cx)(st:Stmt)(a:AS):Prop:=∃t,PS X st t/\aX X.K t a
def Ye (X:Cx)(st:km Stmt)(a:AS):Prop:=∃t,TJ X st t/\aX X.K t a
def BG {a:Type}{l:km a}{i j:Nat}{x y:a}(h:(l.set i x)[j]? =some y):(j=i/\y=x/\i<l.length)\/(j≠i/\l[j]? =some y):=by
 by_cases e:j=i
 .subst e;rw[ACu] at h;simp at h;obtain⟨h1,h2⟩:=h;exact .inl ⟨rfl,h2.symm,h1⟩
 .rw [AAb (λz=>e z.symm)] at h;exact .inr ⟨e,h⟩
section
variable {K:AAB}{B:DJ}{T:ke->Prop}{H:Hp}{σ:L2.St}{τ:BL}
def C3 {i:Nat}{v:V}{x:PV}{b:ke}(h:CW (σ.set i (some v)) (τ.set i (some (.val x))) b):CW σ τ b:=by
 obtain⟨j,xs,h1,h2⟩:=h;rcases BG h1 with⟨_,e,_⟩|⟨n,a⟩
 .cases e
 .rw [AAb (λz=>n z.symm)] at h2;exact⟨j,xs,a,h2⟩
def SR.set {i:Nat}{v:V}{x:PV}(s:SR K B T H σ τ)(r:CF K T (mt B σ τ) H v x):SR K B T H (σ.set i (some v)) (τ.set i (some (.val x))):=by
 have c:Mv K T (mt B σ τ) H T (mt B (σ.set i (some v)) (τ.set i (some (.val x)))) H:= .anti s.va λa m=>m.elim .inl λz=> .inr (C3 z);refine⟨by simp[s.len],λj y e=> ?_,λj ys e=> ?_,λj k ys o p t u h l=> ?_,s.tp,s.bm,s.bt,s.st⟩
 .rcases BG e with⟨rfl,b,hl⟩|⟨n,b⟩
  .cases b;refine⟨v,by rw[ACu];simp[s.len,hl],r.mv c⟩
  .obtain ⟨w,hw,d⟩:=s.val j y b;exact⟨w,by rw[AAb (λz=>n z.symm)];exact hw,d.mv c⟩
 .rcases BG e with⟨_,b,_⟩|⟨n,b⟩
  .cases b
  .obtain ⟨p,vs,h1,h2,h3,A⟩:=s.own j ys b;exact⟨p,vs,by rw[AAb (λz=>n z.symm)];exact h1,h2,h3.mv c,A⟩
 .rcases BG t with⟨_,b,_⟩|⟨n,f⟩
  .cases b
  .rcases BG u with⟨_,b,_⟩|⟨C,g⟩
   .cases b
   .rw [AAb (λz=>n z.symm)] at h;rw[AAb (λz=>C z.symm)] at l;exact s.dist j k ys o p f g h l
def Lg {i:Nat}{p:ke}{xs:km PV}{b:ke}(h:CW (σ.set i (some (.ref p))) (τ.set i (some (.own xs))) b):CW σ τ b\/b=p:=by
 obtain⟨j,ys,h1,h2⟩:=h;rcases BG h1 with⟨rfl,e,_⟩|⟨n,a⟩
 .rcases BG h2 with⟨_,c,_⟩|⟨n,_⟩
  .cases c;exact .inr rfl
  .exact absurd rfl n
 .rw [AAb (λz=>n z.symm)] at h2;exact .inl ⟨j,ys,a,h2⟩
def SR.take {i:Nat}{p:ke}{vs:km V}{xs:km PV}(s:SR K (B.add p) T H σ τ)(hp:H p=some (.lst vs))(C:¬T p)(u:¬CW σ τ p)(D:¬B.M p)(E:B.H p=none)(r:BB K T (mt (B.add p) σ τ) H vs xs):SR K B T H (σ.set i (some (.ref p))) (τ.set i (some (.own xs))):=by
 have h:Mv K T (mt (B.add p) σ τ) H T (mt B (σ.set i (some (.ref p))) (τ.set i (some (.own xs)))) H:= .anti s.va λa m=>by
  rcases m with m|m
  .exact .inl (.inl m)
  .rcases Lg m with z|z
   .exact .inr z
   .exact .inl (.inr z)
 refine⟨by simp[s.len],λj y e=> ?_,λj ys e=> ?_,λj k ys v q F x g d=> ?_,s.tp,λa m=>s.bm a (.inl m),λa m=>s.bt a (.inl m),s.st⟩
 .rcases BG e with⟨_,b,_⟩|⟨n,b⟩
  .cases b
  .obtain ⟨w,hw,l⟩:=s.val j y b;exact⟨w,by rw[AAb (λz=>n z.symm)];exact hw,l.mv h⟩
 .rcases BG e with⟨rfl,b,hl⟩|⟨n,b⟩
  .cases b;exact⟨p,vs,by rw[ACu];simp[s.len,hl],hp,r.mv h,E,C,D⟩
  .obtain ⟨q,G,h1,h2,h3,I,h5,J⟩:=s.own j ys b;exact⟨q,G,by rw[AAb (λz=>n z.symm)];exact h1,h2,h3.mv h,I,h5,λz=>J (.inl z)⟩
 .rcases BG F with⟨A,_,_⟩|⟨n,f⟩
  .rcases BG x with⟨o,_,_⟩|⟨t,c⟩
   .rw [A,o]
   .subst A;rw[AAb (λz=>t z.symm)] at d;rcases BG g with⟨_,b,_⟩|⟨n,_⟩
    .cases b;exact absurd ⟨k,v,c,d⟩ u
    .exact absurd rfl n
  .rw [AAb (λz=>n z.symm)] at g;rcases BG x with⟨o,_,_⟩|⟨t,c⟩
   .subst o;rcases BG d with⟨_,b,_⟩|⟨n,_⟩
    .cases b;exact absurd ⟨j,ys,f,g⟩ u
    .exact absurd rfl n
   .rw [AAb (λz=>t z.symm)] at d;exact s.dist j k ys v q f c g d
def SR.write {i:Nat}{p:ke}{M vs:km V}{xs ys:km PV}(s:SR K B T H σ τ)(g:τ[i]? =some (some (.own xs)))(hs:σ[i]? =some (some (.ref p)))(hp:H p=some (.lst M))(r:BB K T (mt B σ τ) H vs ys):SR K B T (upd H p (.lst vs)) σ (τ.set i (some (.own ys)))/\Ff T H σ τ T (upd H p (.lst vs)) σ (τ.set i (some (.own ys))):=by
 obtain⟨Q,N,G,R,S,I,D,J⟩:=s.own i xs g;rw[hs] at G;cases G;have U:σ.set i (some (.ref p))=σ:=by
  apply List.ext_getElem?;intro k;by_cases hk:i=k
  .subst hk;rw[ACu,hs];simp[(AAq.mp hs).1]
  .rw [AAb hk]
 have l:CW σ τ p:=⟨i,xs,g,hs⟩;have L:∀b,CW σ (τ.set i (some (.own ys))) b->CW σ τ b:=λb h=>by
  obtain⟨j,f,h1,h2⟩:=h;rcases BG h1 with⟨rfl,e,_⟩|⟨n,A⟩
  .exact ⟨j,xs,g,h2⟩
  .exact ⟨j,f,A,h2⟩
 have E:Mv K T (mt B σ τ) H T (mt B σ (τ.set i (some (.own ys)))) (upd H p (.lst vs)):=⟨s.va,λb o _ m e=>by
  rw[Af (λz=>m (by subst z;exact .inr l))];exact e,λ_ t=>t,λ_ _ t=>t,λb _ m=>m.elim .inl λz=> .inr (L b z)⟩
 refine⟨⟨by simp[s.len],λj y e=> ?_,λj f e=> ?_,λj k f C q h1 h2 h3 u=> ?_,λa t=> ?_,λa m=> ?_,s.bt, ?_⟩,⟨λb o t w e=>by rw[Af (λz=>w (by subst z;exact l))];exact e,λ_ t=>t,λ_ t=> .inl t,λb o=> .inl (L b o),λb h=> ?_⟩⟩
 .rcases BG e with⟨_,c,_⟩|⟨n,c⟩
  .cases c
  .obtain ⟨v,h,O⟩:=s.val j y c;exact⟨v,h,O.mv E⟩
 .rcases BG e with⟨rfl,c,_⟩|⟨n,c⟩
  .cases c;exact⟨p,vs,hs,Ab,r.mv E,I,D,J⟩
  .obtain ⟨q,C,h1,h2,h3,u⟩:=s.own j f c;have hq:q≠p:=λz=>by subst z;exact n (s.dist j i f xs q c g h1 hs)
   exact⟨q,C,h1,by rw[Af hq];exact h2,h3.mv E,u⟩
 .rcases BG h1 with⟨rfl,_,_⟩|⟨n,A⟩
  .rcases BG h2 with⟨rfl,_,_⟩|⟨P,F⟩
   .rfl
   .exact s.dist _ k xs C q g F h3 u
  .rcases BG h2 with⟨rfl,_,_⟩|⟨P,F⟩
   .exact s.dist j _ f xs q A g h3 u
   .exact s.dist j k f C q A F h3 u
 .obtain ⟨d,x,e,z⟩:=s.tp a t;exact⟨d,x,by rw[Af (λw=>by subst w;exact D t)];exact e,z⟩
 .obtain ⟨o,e,z⟩:=s.bm a m;exact⟨o,by rw[Af (λw=>by subst w;exact J m)];exact e,z⟩
 .refine ⟨λb o t e=> ?_,s.st.sub,s.st.new,λa t=> ?_⟩
  .rw [Af (λw=>by subst w;rw[I] at e;cases e)];exact s.st.keep b o t e
  .obtain ⟨d,x,e,z⟩:=s.tp a t;exact⟨d,x,by rw[Af (λw=>by subst w;exact D t)];exact e,z⟩
 .by_cases z:b=p
  .subst z;rw[Ab];exact λe=>nomatch e
  .rw [Af z];exact h
end
section
variable {X:Cx}{st:Stmt}{rest:km Stmt}{e:kc}{pos:Pos}{a b:AS}{ta:AE}
def fz (ta:AE):AE:=λτ Q=>ta (frz τ) λx=>fN x=true/\Q x
def nE (h:SE X e ta):SE X e (fz ta):=by obtain⟨t,p,s⟩:=h;refine⟨t,p,λB T c τ H Q i d h k=>s B T c (frz τ) H _ _ d.frz h λv x T1 H1 f g h1=> ?_⟩;exact k v x T1 H1 f (g.free h1.1) h1.2
def W8 (c:AT):AT:=λτ Q=>c (frz τ) Q
def nN {c:AT}(h:Sa X e c):Sa X e (W8 c):=by obtain⟨t,p,s⟩:=h;exact⟨t,p,λB T d τ H Q i f h k=>s B T d (frz τ) H _ _ f.frz h λb T1 H1 g h1=>k b T1 H1 g h1⟩
def BE:AS:=λD τ=>D.nx τ
def AZ (a b:AS):AS:=λD τ=>a {D with nx:=b D} τ
def Aw:Ye X [] BE:=⟨_,Mf,λB T c τ H D f d h er=>er.nx T H c τ .refl d h⟩
def AM (h1:SS X st a)(h2:Ye X rest b):Ye X (st::rest) (AZ a b):=by obtain⟨t,p,s⟩:=h1;obtain⟨t',d,f⟩:=h2;exact⟨_,Bp p d,λB T g τ H D i j h er=>s B T g τ H _ _ j h ⟨λk l σ' τ' q c h'=>f B k σ' τ' l D i c h' (er.shift q),er.bk,er.ct,er.rt⟩⟩
def AR (h1:SS X st a):Ye X [st] a:=let ⟨_,p,s⟩:=h1;⟨_,El p,s⟩
def Ao (ta:AE):AS:=λD τ=>ta (frz τ) D.rt
def AW (h:SE X e ta):SS X (.Return (some e) pos) (Ao ta):=by obtain⟨t,p,s⟩:=h;refine⟨_,N9 p,λB T f τ H D i c h er=>s B T f (frz τ) H _ _ c.frz h λv x T1 H1 d g h1=> ?_⟩;exact er.rt v x T1 H1 (c.st.trans d) (g.mv (.anti (c.frz.stp d).va λa m=> .inl m)) h1
def Bb (c:AT)(a b:AS):AS:=λD τ=>c τ λk=>if k=true then a D τ else b D τ
def A9 {c:kc}{x y:km Stmt}{l:AT}(hc:Sa X c l)(ha:Ye X x a)(hb:Ye X y b):SS X (.If c x y pos) (Bb l a b):=by
 obtain⟨t,p,s⟩:=hc;obtain⟨r,n,f⟩:=ha;obtain⟨u,o,g⟩:=hb;refine⟨_,X3 p n o,λB T i τ H D m j h er=>s B T i τ H _ _ j h λk T1 H1 d h1=> ?_⟩;cases k with
 | true=>rw[AAD rfl] at h1 ⊢;exact f B T1 i τ H1 D m (j.stp d) h1 (er.shift d.prog)
 | false=>rw[AAC AAO] at h1 ⊢;exact g B T1 i τ H1 D m (j.stp d) h1 (er.shift d.prog)
abbrev AG:=PV->BL->(BL->Prop)->Prop
abbrev Ux:=km PV->BL->(BL->Prop)->Prop
def Q3 (K:AAB)(g:TG)(f:AG):Prop:=∀(B:DJ) (T:ke->Prop) (c:L2.St) (τ:BL) (H:Hp) (v:V) (x:PV) (Q:L2.St->Hp->Prop) (d:BL->Prop),SR K B T H c τ->CF K T (mt B c τ) H v x->f x τ d->
 (∀σ' τ',SR K B T H σ' τ'->(∀b,CW σ' τ' b->CW c τ b)->d τ'->Q σ' H)->g v c H Q
def Pu (K:AAB)(g:VG)(f:Ux):Prop:=∀(B:DJ) (T:ke->Prop) (c:L2.St) (τ:BL) (H:Hp) (vs:km V) (xs:km PV) (Q:L2.St->Hp->Prop) (d:BL->Prop),SR K B T H c τ->BB K T (mt B c τ) H vs xs->f xs τ d->
 (∀σ' τ',SR K B T H σ' τ'->(∀b,CW σ' τ' b->CW c τ b)->d τ'->Q σ' H)->g vs c H Q
def SG (X:Cx)(c:kc)(d:AG):Prop:=∃g,PG X c g/\Q3 X.K g d
def rf (X:Cx)(c:km kc)(d:Ux):Prop:=∃g,n9 X c g/\Pu X.K g d
def An (i:Nat):AG:=λx τ Q=>Q (τ.set i (some (.val x)))
def SD {K:AAB}{i:Nat}:Q3 K (Bn i) (An i):=λB T d τ H v x Q f c r h k=>k _ _ (c.set r) (λb o=>C3 o) h
def R9 {i:Nat}{x:Str}(hN:X.N.Nodup)(hi:X.N[i]? =some x)(hx:Loc X.env.scope x)(c:X.fn x=true\/X.env.scope.names.lookup x=some .local:=by first | exact .inl rfl|exact .inr rfl|assumption):SG X (.Name x pos) (An i):=
 ⟨_,Ek hN hi hx c,SD⟩
def Bm:Ux:=λxs τ Q=>match xs with | [] =>Q τ|_=>False
def AY (g:AG)(r:Ux):Ux:=λxs τ Q=>match xs with | x::t=>g x τ λτ'=>r t τ' Q | [] =>False
def Ui {K:AAB}:Pu K MD Bm:=λB T c τ H vs xs Q f d r h k=>by
 cases r with
 | nil=>exact⟨rfl,k c τ d (λ_ o=>o) h⟩
 | cons _ _=>exact h.elim
def QS {K:AAB}{g:TG}{p:VG}{s:AG}{c:Ux}(h1:Q3 K g s)(h2:Pu K p c):Pu K (DI g p) (AY s c):=λB T w τ H vs xs Q x u r h k=>by
 cases r with
 | nil=>exact h.elim
 | cons r t=> refine⟨_,_,rfl,h1 B T w τ H _ _ _ _ u r h λd f i v y=> ?_⟩;exact h2 B T d f H _ _ Q x i (t.mv (.anti u.va λa m=>m.elim .inl λz=> .inr (v a z))) y λj l n A C=>k j l n (λb o=>v b (A b o)) C
def DD:rf X [] Bm:=⟨_,J1,Ui⟩
def Ap {es:km kc}{d:AG}{c:Ux}(h1:SG X e d)(h2:rf X es c)(hs:(assignEach (e::es) X.env).map (·.2)=assign e X.env::(assignEach es X.env).map (·.2):=by rfl):rf X (e::es) (AY d c):=
 let ⟨_,p,s⟩:=h1;let ⟨_,f,g⟩:=h2;⟨_,Dv p f hs,QS s g⟩
def Ak (ta:AE)(g:AG):AS:=λD τ=>ta τ λx=>g x τ D.nx
def SC {K:AAB}{t:TE}{g:TG}{i:AG}(s:II K t ta)(m:Q3 K g i):aX K (Pm t g) (Ak ta i):=λB T j τ H D r k h er=>s B T j τ H _ _ k h λv x T1 H1 l n h1=>
 m B T1 j τ H1 v x _ _ (k.stp l) n h1 λc d f o p=>er.nx T1 H1 c d (l.prog.trans (.less o)) f p
def Of {c:kc}{d:AG}(he:SE X e ta)(f:SG X c d)(hs:swapsWithSole [c] e pos.line X.env=pure false:=by rfl)(hw:swappedStores [c] e X.env=pure none:=by rfl)(h1:(assignEach [c] X.env).map (·.2)= [assign c X.env] :=by rfl):SS X (.Assign [c] e pos) (Ak ta d):=
 let ⟨_,p,s⟩:=he;let ⟨_,g,h⟩:=f;⟨_,WJ p g hs hw h1,SC s h⟩
def Eb {i:Nat}{x:Str}{pos':Pos}(hN:X.N.Nodup)(hi:X.N[i]? =some x)(hx:Loc X.env.scope x)(he:SE X e ta)(hs:swapsWith e (some (.Name x pos')) pos.line X.env=pure false:=by rfl)(c:X.fn x=true\/X.env.scope.names.lookup x=some .local:=by first | exact .inl rfl|exact .inr rfl|assumption):SS X (.Assign [.Name x pos'] e pos) (Ak ta (An i)):=let ⟨_,p,s⟩:=he;⟨_,Fi hN hi hx p hs c,SC s SD⟩
def Je (r:AA)(i:Nat):AS:=λD τ=>r τ λxs=>D.nx (τ.set i (some (.own xs)))
def YG {K:AAB}{t:TE}{r:AA}{i:Nat}(s:fx K t r):aX K (Pm t (Bn i)) (Je r i):=λB T j τ H D u c h er=>s B T j τ H _ _ c h λp vs xs T1 H1 d g f hp k l h1=>by
 have m:¬CW j τ p:=λo=>by obtain⟨_,e,_⟩:=c.ownH o;rw[f] at e;cases e
 have n:¬B.M p:=λo=>by obtain⟨_,e,_⟩:=c.bm p o;rw[f] at e;cases e
 refine er.nx T1 H1 _ _ ⟨λb o t _ e=>d.keep b o t e,d.sub,d.new,λb o=> ?_,λb h=>d.some h⟩ (g.take hp k m n (c.st.none f) l) h1;rcases Lg o with z|z
 .exact .inl z
 .subst z;exact .inr f
def Ha {i:Nat}{x:Str}{pos':Pos}{r:AA}(hN:X.N.Nodup)(hi:X.N[i]? =some x)(hx:Loc X.env.scope x)(he:SF X e r)(hs:swapsWith e (some (.Name x pos')) pos.line X.env=pure false:=by rfl)(c:X.fn x=true\/X.env.scope.names.lookup x=some .local:=by first | exact .inl rfl|exact .inr rfl|assumption):SS X (.Assign [.Name x pos'] e pos) (Je r i):=let ⟨_,p,s⟩:=he;⟨_,Fi hN hi hx p hs c,YG s⟩
def Yh (i j:Nat)(r:AA):AS:=λD τ=>r τ λxs=>match xs with | [x,y] =>D.nx ((τ.set i (some (.val x))).set j (some (.val y)))|_=>False
def Wc {i j:Nat}{x y:Str}{c d:kc}{r:AA}{g k l:Pos}{kt k2 pt2}(hc:X.calm=true)(hN:X.N.Nodup)(hi:X.N[i]? =some x)(hj:X.N[j]? =some y)(v:i≠j)(hx:X.env.scope.names.lookup x=some .local)(hy:X.env.scope.names.lookup y=some .local)(ha:SA X [c,d] r)(hw:swappedStores [.Tuple [.Name x g, .Name y k] kt l] (.Tuple [c,d] k2 pt2) X.env=pure (some [x,y]))(hs:swapsWithSole [.Tuple [.Name x g, .Name y k] kt l] (.Tuple [c,d] k2 pt2) pos.line X.env=pure false:=by rfl):SS X (.Assign [.Tuple [.Name x g, .Name y k] kt l] (.Tuple [c,d] k2 pt2) pos) (Yh i j r):=by
 obtain⟨t,p,s⟩:=ha;refine⟨_,mO hc hN hi hj v hx hy p hw hs,λB T w τ H D F n h er=>s B T w τ H _ _ n h λvs xs T1 H1 u A h1=> ?_⟩;cases A with
 | nil=>exact h1.elim
 | cons ra ta=>
   cases ta with
   | nil=>exact h1.elim
   | cons C E=>
     cases E with
     | cons _ _=>exact h1.elim
     | nil=> have f:=n.stp u;refine⟨_,_,rfl,er.nx T1 H1 _ _ ?_ ((f.set (i:=i) ra).set (i:=j) (C.mv (.anti f.va λa m=>m.elim .inl λz=> .inr (C3 z)))) h1⟩;exact u.prog.trans (.less λb o=>C3 (C3 o))
def VI (i:Nat)(f:IV)(ta:AE):AS:=λD τ=>match QI τ i with | some (.val x)=>ta τ λy=>f x y λz=>D.nx (τ.set i (some (.val z)))|_=>False
def d4 {i:Nat}{x:Str}{op:Operator}{g:oA}{f:IV}{pos':Pos}(hN:X.N.Nodup)(hi:X.N[i]? =some x)(hx:Loc X.env.scope x)(he:SE X e ta)(j:j7 X op g/\CC X.K g f)(l:X.fn x=true\/X.env.scope.names.lookup x=some .local:=by first | exact .inl rfl|exact .inr rfl|assumption):SS X (.AugAssign (.Name x pos') op e pos) (VI i f ta):=by
 obtain⟨t,p,s⟩:=he;refine⟨_,dF hN hi hx p j.1 l,λB T m τ H D F c h er=> ?_⟩;unfold VI at h;split at h <;> first | exact h.elim|skip
 rename_i y n;obtain⟨v,ev,rv⟩:=c.val i y (K9 n);refine⟨v,ev,s B T m τ H _ _ c h λw z T1 H1 d r h1=> ?_⟩;refine j.2 T1 _ H1 v w y z _ _ (c.stp d).va (rv.stp d c.va) r h1 λu q A C k E h2=> ?_;exact er.nx A C _ _ ((d.trans k).prog.trans (.less λb o=>C3 o)) (((c.stp d).stp k).set E) h2
def nK:j7 X .Add (ue λi j=>i+j)/\CC X.K (ue λi j=>i+j) pC:=⟨lH,λT M H u v x y Q d va c rv h k=>by
 obtain⟨i,j,rfl,rfl,q⟩:=Md h;exact⟨i,j,c.toI,rv.toI,k _ _ T H (.refl va.tp) (.int _) q⟩⟩
def NR (i:Nat)(τ:BL)(R:km PV->Prop):Prop:=match QI τ i with | some (.own xs)=>R xs|_=>False
def W9 {i:Nat}{τ:BL}{R:km PV->Prop}(h:NR i τ R):∃xs,τ[i]? =some (some (.own xs))/\R xs:=by
 unfold NR at h;cases e:QI τ i with
 | none=>rw[e] at h;exact h.elim
 | some z=>
   rw[e] at h;cases z with
   | val x=>exact h.elim
   | own xs=>exact⟨xs,K9 e,h⟩
abbrev jG:=km PV->km PV->(km PV->Prop)->Prop
def aW (K:AAB)(r:V->km V->Hp->VK->Prop)(f:jG):Prop:=∀(T M:ke->Prop) (H:Hp) (l:ke) (g vs:km V) (xs ys:km PV) (Q:VK) (h:km PV->Prop),H l=some (.lst g)->BB K T M H g xs->BB K T M H vs ys->f xs ys h->
 (∀c d,BB K T M H c d->h d->Q .non (upd H l (.lst c)))->r (.ref l) vs H Q
def EN (i:Nat)(f:jG)(r:AA):AS:=λD τ=>NR i τ λxs=>r τ λys=>f xs ys λc=>D.nx (τ.set i (some (.own c)))
def dy {K:AAB}{i:Nat}{l:V->km V->Hp->VK->Prop}{f:jG}{t:TA}{r:AA}(u:aW K l f)(s:kA K t r):aX K (jp (xR K "list" l (DX i) t)) (EN i f r):=λB T m τ H D A d h er=>by obtain⟨xs,e,h⟩:=W9 h;obtain⟨p,vs,n,hp,v,C,o,E⟩:=d.own i xs e;refine⟨.ref p,n, .inl ⟨rfl,vs, .inl (.inl hp)⟩,s B T m τ H _ _ d h λw ys T1 H1 c x h2=> ?_⟩;have g:=d.stp c;refine u T1 (mt B m τ) H1 p vs w xs ys _ _ (c.keep _ _ o hp) (v.stp c d.va) x h2 λy F z h3=> ?_;obtain⟨j,k⟩:=g.write (i:=i) (xs:=xs) e n (c.keep _ _ o hp) z;exact er.nx T1 _ _ _ (c.prog.trans k) j h3
def DF {i:Nat}{x name:Str}{es:km kc}{id:String}{d:V->km V->Hp->VK->Prop}{f:jG}{r:AA}{p apos c:Pos}(slot:Slot "list" name id)(h:typeOf (.builtin id)=pure (.type "method_descriptor"))(g:jE X id d/\aW X.K d f)(ha:SA X (e::es) r)(hN:X.N[i]? =some x:=by rfl)(hv:oB X.env.scope x:=by first | exact Or.inl rfl|exact Or.inr (Or.inl rfl)|exact Or.inr (Or.inr rfl))(hd:(x==("__debug__" :Str))=false:=by decide)(j:(x==("__classdict__" :Str))=false:=by decide)(k:attributeBase (.Name x p) name X.env (eval (.Name x p) X.env)=eval (.Name x p) X.env:=by rfl)(l:((backTo c (starEach (e::es) X.env)).all (λx=> !x.1)&&(backToKw c (keywordEach [] X.env)).all (λx=>x.1.isSome) && decide ((e::es).length+([] :km Keyword).length+(if ([] :km Keyword).isEmpty then 0 else 1)<30))=true:=by rfl)(m:(apos.endLine==c.line)=true:=by rfl)(hs:starEach (e::es) X.env=(false,eval e X.env)::starEach es X.env:=by rfl)(n:(backTo c (starEach es X.env)).any (·.1)=false:=by rfl)(o:swapsWith (.Call (.Attribute (.Name x p) name apos) (e::es) [] c) none pos.line X.env=pure false:=by rfl):SS X (.Expr (.Call (.Attribute (.Name x p) name apos) (e::es) [] c) pos) (EN i f r):=by obtain⟨t,u,s⟩:=ha;exact⟨_,iJ (je PySem.F.plainAttrs_list slot h g.1 (WH hN hv hd j) u k l m hs n) o,dy g.2 s⟩
def Ir:jG:=λxs ys Q=>match ys with | [y] =>xs.length<sizeLine/\Q (xs ++ [y])|_=>False
def CJ:jE X "list.append" Rr/\aW X.K Rr Ir:=by
 refine⟨QG,λT M H l d vs xs ys Q i hl c f h k=> ?_⟩;unfold Ir at h;split at h <;> first | exact h.elim|skip
 cases f with
 | cons g t=> cases t;exact⟨l,d,_,rfl,rfl,hl,by rw[c.length];exact h.1,k _ _ (c.append (.cons g .nil)) h.2⟩
def gm:jG:=λxs ys Q=>match ys with | [.int i,y] =>(0<=i/\i<=(xs.length:Int)/\xs.length<sizeLine)/\Q (xs.take i.toNat++y::xs.drop i.toNat)|_=>False
def Zq:jE X "list.insert" Rt/\aW X.K Rt gm:=by
 refine⟨ZK,λT M H l d vs xs ys Q m hl c f h k=> ?_⟩;unfold gm at h;split at h <;> first | exact h.elim|skip
 cases f with
 | cons g t=>
   cases t with
   | cons i t=> cases t;cases g;obtain⟨⟨h1,h2,h3⟩,j⟩:=h;exact⟨l,d,_,_,rfl,rfl,hl,h1,by rw[c.length];exact h2,by rw[c.length];exact h3,k _ _ ((c.take _).append (.cons i (c.drop _))) j⟩
def frz1 (i:Nat)(τ:BL):BL:=match QI τ i with | some (.own xs)=>τ.set i (some (.val (.lst xs)))|_=>τ
def SR.frz1 {K:AAB}{B:DJ}{T:ke->Prop}{H:Hp}{c:L2.St}{τ:BL}(s:SR K B T H c τ)(i:Nat):SR K B T H c (frz1 i τ)/\∀b,CW c (PL.frz1 i τ) b->CW c τ b:=by
 unfold PL.frz1;split
 .rename_i xs e;have e:=K9 e;obtain⟨p,vs,f,hp,u,E,w,x⟩:=s.own i xs e;have F:c.set i (some (.ref p))=c:=by
   apply List.ext_getElem?;intro k;by_cases hk:i=k
   .subst hk;rw[ACu,f];simp[(AAq.mp f).1]
   .rw [AAb hk]
  have l:∀b,CW c (τ.set i (some (.val (.lst xs)))) b->CW c τ b/\b≠p:=λb h=>by
   obtain⟨j,ys,h1,h2⟩:=h;rcases BG h1 with⟨_,d,_⟩|⟨n,g⟩
   .cases d
   .exact ⟨⟨j,ys,g,h2⟩,λz=>by subst z;exact n (s.dist j i ys xs b g e h2 f)⟩
  have r:Mv K T (mt B c τ) H T (mt B c (τ.set i (some (.val (.lst xs))))) H:= .anti s.va λa m=>m.elim .inl λz=> .inr (l a z).1;refine⟨⟨by simp[s.len],λj y h=> ?_,λj ys h=> ?_,λj k ys A q h1 h2 h3 t=> ?_,s.tp,s.bm,s.bt,s.st⟩,λb h=>(l b h).1⟩
  .rcases BG h with⟨rfl,d,_⟩|⟨n,h'⟩
   .cases d;exact⟨.ref p,f, .lst hp w (λz=>z.elim x λo=>(l p o).2 rfl) (u.mv r)⟩
   .obtain ⟨v,hv,rv⟩:=s.val j y h';exact⟨v,hv,rv.mv r⟩
  .rcases BG h with⟨_,d,_⟩|⟨n,h'⟩
   .cases d
   .obtain ⟨q,C,h1,h2,h3,t⟩:=s.own j ys h';exact⟨q,C,h1,h2,h3.mv r,t⟩
  .rcases BG h1 with⟨_,d,_⟩|⟨n,g⟩
   .cases d
   .rcases BG h2 with⟨_,d,_⟩|⟨G,D⟩
    .cases d
    .exact s.dist j k ys A q g D h3 t
 .exact ⟨s,λ_ o=>o⟩
def Yg (i:Nat)(a:AS):AS:=λD τ=>a D (frz1 i τ)
def Wb (i:Nat)(h:SS X st a):SS X st (Yg i a):=by obtain⟨t,p,s⟩:=h;refine⟨t,p,λB T d τ H D f g h er=> ?_⟩;obtain⟨c,j⟩:=g.frz1 i;exact s B T d (frz1 i τ) H D f c h (er.shift (.less j))
end
section
variable {X:Cx}{st:Stmt}{e:kc}{pos:Pos}{a b:AS}{ta:AE}
def Ut (c:AT)(b:AS)(D:Gc):Nat->BL->Prop
 | 0,_=>False
 | n+1,τ=>c (frz τ) λk=>if k=true then b {D with nx:=Ut c b D n,ct:=Ut c b D n,bk:=D.nx} τ else D.nx τ
def Kv (c:AT)(b:AS):AS:=λD τ=>∃n,Ut c b D n τ
def KD {c:kc}{body:km Stmt}{v:AT}(hp:PassesOwn (model X.prog X.w) X.A X.env X.xe)(hc:Sa X c v)(hb:Ye X body b):SS X (.While c body [] pos) (Kv v b):=by
 obtain⟨t,p,s⟩:=hc;obtain⟨t',F,G⟩:=hb;refine⟨_,dH hp p F,λB T y τ H D z I h er=> ?_⟩;obtain⟨n,h⟩:=h;refine⟨λm f H1=>∃T1 d,SR X.K B T1 H1 f d/\Ff T H y τ T1 H1 f d/\Ut v b z m d,⟨n,T,τ,I, .refl,h⟩, ?_⟩;rintro m f H1 ⟨T1,d,l,g,h1⟩;cases m with
 | zero=>exact h1.elim
 | succ m=>
   refine s B T1 f (frz d) H1 _ _ l.frz h1 λk C E x h2=> ?_;have o:=l.stp x;have r:=(er.shift g).shift x.prog;cases k with
   | false=>rw[AAC AAO] at h2 ⊢;exact r.nx C E f d .refl o h2
   | true=> rw[AAD rfl] at h2 ⊢;refine⟨λσ' u=>∃j τ',SR X.K B j u σ' τ'/\Ff T H y τ j u σ' τ'/\Ut v b z m τ',λσ' u q=>⟨m,Nat.lt_succ_self m,q⟩, ?_⟩;exact G B C f d E _ _ o h2 ⟨λj u σ' τ' q i h'=>⟨j,τ',i,(g.trans x.prog).trans q,h'⟩,r.nx,λj u σ' τ' q i h'=>⟨j,τ',i,(g.trans x.prog).trans q,h'⟩,er.rt⟩
abbrev AI:=BL->(km PV->Prop)->Prop
structure VC (K:AAB) (M:Addr->Prop) (J:It) (xs:List PV) (T:Addr->Prop) (H:Hp):Prop where
 go:∀i y,xs[i]? =some y->J.go i H
 yld:∀i y v H',xs[i]? =some y->J.yld i H v H'->DK T H T H'/\CF K T M H' v y
 stop:∀i,xs.length<=i->J.stop i H
def fo (T:ke->Prop)(H c:Hp):Prop:=∀b o,¬T b->H b=some o->c b=some o
def ox (K:AAB)(s:gn)(j:TI)(k:AI):Prop:=∀(B:DJ) (T:ke->Prop) (f:L2.St) (τ:BL) (H:Hp) (R:It->Hp->Prop) (i:km PV->Prop),SR K B T H f τ->k τ i->
 (∀J xs g c,DK T H g c->(∀M2 h d,Mv K g (mt B f τ) c h M2 d->Ii h M2 d->(s=true\/fo g c d)->VC K M2 J xs h d)->i xs->R J c)->j f H R
def SI (X:Cx)(d iter:kc)(s:gn)(f:AI):Prop:=∃c,PI X d iter c/\ox X.K s c f
def ph (K:AAB)(c:TE):TI:=λd H R=>c d H λx H1=>∃a,x= .ref a/\(((∃xs,FJ K H1 a xs)/\R (tJ K a) H1)\/((∃xs,KJ K H1 a xs)/\R (tK K a) H1))
def dA {i l:kc}{g:TE}(hl:PE X l g):PI X i l (ph X.K g):=by
 intro j s k H R I h;refine Bc (hl j s k H _ I h) λv c ⟨x,H1,d,m,n⟩=> ?_;obtain⟨a,e,q⟩:=n;subst e;cases m;rcases q with⟨⟨xs,hq⟩,q⟩|⟨⟨xs,hq⟩,q⟩
 .obtain ⟨f,rv,p,hz⟩:=d.list hq;refine ADR p.isList ?_;refine⟨c.heap.objs.size, [c.heap.objs.size],_,_,H1,rfl,d.kept (t':=c.toks) λb o e=>AAH _ e,Zw a _,⟨_,AAQ _ rfl,rfl,rfl⟩,λb hb=> ?_,q⟩;have e:b=c.heap.objs.size:=by simpa using hb
  subst e;exact d.fpOk (AAJ _) (d.hok.fresh (AAJ _))
 .obtain ⟨f,rv,p,hz⟩:=d.tuple hq;refine wpAny_pyIter_tuple (show c.heap.IsTuple a f.toArray from p) ?_;refine⟨c.heap.objs.size, [c.heap.objs.size],_,_,H1,rfl,d.kept (t':=c.toks) λb o e=>AAH _ e,Wv a _,⟨_,AAQ _ rfl,rfl,rfl⟩,λb hb=> ?_,q⟩;have e:b=c.heap.objs.size:=by simpa using hb
  subst e;exact d.fpOk (AAJ _) (d.hok.fresh (AAJ _))
def HC (ta:AE):AI:=λτ Q=>ta τ λx=>Oo x Q
def cI {K:AAB}{T M:ke->Prop}{H:Hp}{a:ke}{xs:km PV}(va:Ii T M H)(r:CF K T M H (.ref a) (.tup xs)):VC K M (tK K a) xs T H:=by
 obtain⟨g,vs,e,hq,c⟩:=Ea r;cases e;refine⟨λi y h=> ?_,λi y v j h d=> ?_,λi h=>⟨vs,hq,by rw[c.length];exact h⟩⟩
 .obtain ⟨v,hv,_⟩:=c.get h;exact⟨vs,v,hq,hv⟩
 .obtain ⟨rfl,d⟩:=d;obtain⟨z,hz,f⟩:=c.get' (d vs hq);rw[h] at hz;cases hz;exact⟨.refl va.tp,f⟩
def cH {K:AAB}{T M:ke->Prop}{H:Hp}{a:ke}{vs:km V}{xs:km PV}(va:Ii T M H)(hq:H a=some (.lst vs))(c:BB K T M H vs xs):VC K M (tJ K a) xs T H:=by
 have d:FJ K H a vs:= .inl (.inl hq);refine⟨λi y h=> ?_,λi y v j h f=> ?_,λi h=>⟨vs,d,by rw[c.length];exact h⟩⟩
 .obtain ⟨v,hv,_⟩:=c.get h;exact⟨vs,v,d,hv⟩
 .obtain ⟨rfl,f⟩:=f;obtain⟨z,hz,g⟩:=c.get' (f vs d);rw[h] at hz;cases hz;exact⟨.refl va.tp,g⟩
def DM {i:kc}(h:SE X e ta):SI X i e true (HC ta):=by
 obtain⟨t,p,s⟩:=h;refine⟨_,dA p,λB T j τ H R y l h k=>s B T j τ H _ _ l h λv x T1 H1 g c h1=> ?_⟩;obtain⟨xs,hx,q⟩:=HK h1;rcases hx with rfl|rfl
 .obtain ⟨a,vs,rfl,hq,m⟩:=Ea c;refine⟨a,rfl, .inr ⟨⟨vs,hq⟩,k _ xs T1 H1 g (λM2 n o d va _=>cI va (c.mv d)) q⟩⟩
 .obtain ⟨a,vs,rfl,hq,z,nm,m⟩:=C7 c;refine⟨a,rfl, .inl ⟨⟨vs, .inl (.inl hq)⟩,k _ xs T1 H1 g (λM2 n o d va _=> ?_) q⟩⟩;obtain⟨A,r,u,w,_,_,f⟩:=C7 (c.mv d);cases u;exact cH va w f
def rng (lo:Int)(n:Nat):km PV:=(List.range n).map λ(k:Nat)=> .int (lo+(k:Int))
def Tu {K:AAB}{T M:ke->Prop}{H:Hp}{lo:Int}{n:Nat}(va:Ii T M H):VC K M (oj lo n) (rng lo n) T H:=by
 have hl:(rng lo n).length=n:=by simp[rng]
 refine⟨λi y h=> ?_,λi y v d h c=> ?_,λi h=>by rw[hl] at h;exact h⟩
 .have:=(AAq.mp h).1;rw[hl] at this;exact this
 .obtain ⟨rfl,rfl⟩:=c;have hi:=(AAq.mp h).1;rw[hl] at hi;have:y= .int (lo+(i:Int)):=by simp[rng,List.getElem?_range hi] at h;exact h.symm
  subst this;exact⟨.refl va.tp, .int _⟩
def Yi (r:AA):AI:=λτ Q=>r τ λxs=>match xs with | [.int j] =>(-(2^62)<=j/\j<2^62)/\Q (rng 0 j.toNat)|_=>False
def gB (r:AA):AI:=λτ Q=>r τ λxs=>match xs with | [.int i, .int j] =>(-(2^62)<=i/\i<2^62/\ -(2^62)<=j/\j<2^62)/\Q (rng i (j-i).toNat)|_=>False
def YF {d c:kc}{r:AA}{p:Pos}(f:Gl X "range")(g:X.mg "range" =none)(ha:SA X [c] r)(hs:starEach [c] X.env= [(false,eval c X.env)] :=by rfl):SI X d (.Call (.Name "range" p) [c] [] pos) true (Yi r):=by
 obtain⟨t,i,s⟩:=ha;refine⟨_,Zd f g i hs,λB T j τ H R o l h k=>s B T j τ H _ _ l h λvs xs T1 H1 m n h1=> ?_⟩;split at h1 <;> first | exact h1.elim|skip
 cases n with
 | cons r t=> cases t;cases r;exact⟨_,rfl,h1.1.1,h1.1.2,k _ _ T1 H1 m (λM2 u v w va _=>Tu va) h1.2⟩
def jk {f c d:kc}{r:AA}{p:Pos}(g:Gl X "range")(i:X.mg "range" =none)(ha:SA X [c,d] r)(hs:starEach [c,d] X.env= [(false,eval c X.env),(false,eval d X.env)] :=by rfl)(j:starEach [d] X.env= [(false,eval d X.env)] :=by rfl):SI X f (.Call (.Name "range" p) [c,d] [] pos) true (gB r):=by
 obtain⟨t,l,s⟩:=ha;refine⟨_,Ze g i l hs j,λB T m τ H R w n h k=>s B T m τ H _ _ n h λvs xs T1 H1 o u h1=> ?_⟩;split at h1 <;> first | exact h1.elim|skip
 cases u with
 | cons r t=>
   cases t with
   | cons v t=> cases t;cases r;cases v;exact⟨_,_,rfl,h1.1,k _ _ T1 H1 o (λM2 x y z va _=>Tu va) h1.2⟩
def LW (xs ys:km PV):km PV:=List.zipWith (λx y=> .tup [x,y]) xs ys
def pj (K:AAB)(ta:TA):TI:=λd H R=>ta d H λvs H1=>∃b c l m,vs= [.ref l, .ref m] /\(∃xs,Sq K b H1 l xs)/\(∃ys,Sq K c H1 m ys)/\R (tL K b c l m) H1
def iD {e f:kc}{ta:TA}{p pos g:Pos}{es:km kc}{x:Nat}(y:Gl X "zip")(z:X.mg "zip" =none)(ha:PA X [e,f] ta)(hs:starEach [e,f] X.env= [(false,eval e X.env),(false,eval f X.env)] :=by rfl)(u:starEach [f] X.env= [(false,eval f X.env)] :=by rfl):PI X (.Tuple es x g) (.Call (.Name "zip" p) [e,f] [] pos) (pj X.K ta):=by
 intro A s B H R I h;refine Call_ (HI I y z boot_zip (ACP (Bc (ha pos A s B H _ I h) λC d ⟨vs,H1,i,D,E⟩=> ?_) (by rw[hs,u]) (by rw[u];rfl)));obtain⟨b,c,l,m,rfl,⟨xs,hl⟩,⟨ys,j⟩,q⟩:=E;cases D with
 | cons r k=>
 cases k with
 | cons F k=>
 cases k;cases r;cases F;obtain⟨C,L,v,_⟩:=i.sq hl;obtain⟨vs,rv,sv,_⟩:=i.sq j;have n:l<d.heap.objs.size:=by cases b <;> (obtain⟨o,e,_⟩:=v;exact AAG e)
 have t:m<d.heap.objs.size:=by cases c <;> (obtain⟨o,e,_⟩:=sv;exact AAG e)
 refine nz v sv λh1 Z G=>wpAny_pyIter_zip Z.zip ?_;refine⟨_,_,_,_,H1,rfl,i.kept (t':=d.toks) G,eU (zipApart_new n t),Z,λp hp=> ?_,q⟩;have w:d.heap.objs.size<=p:=by
  have J:p=d.heap.objs.size+4\/p=d.heap.objs.size+2\/p=d.heap.objs.size+3\/p=d.heap.objs.size\/p=d.heap.objs.size+1:=by simpa using hp
  rcases J with e|e|e|e|e <;> (rw[e];omega)
 exact i.fpOk w (i.hok.fresh w)
def kN:PV->gn | .lst _=>true|_=>false
def QV {K:AAB}{T M:ke->Prop}{H:Hp}{v:V}{x:PV}{xs:km PV}(hx:x= .tup xs\/x= .lst xs)(r:CF K T M H v x):∃a vs,v= .ref a/\Sq K (kN x) H a vs/\BB K T M H vs xs:=by
 rcases hx with rfl|rfl
 .obtain ⟨a,vs,rfl,hq,c⟩:=Ea r;exact⟨a,vs,rfl,hq,c⟩
 .obtain ⟨a,vs,rfl,hq,_,_,c⟩:=C7 r;exact⟨a,vs,rfl, .inl (.inl hq),c⟩
def cJ {K:AAB}{T M:ke->Prop}{H:Hp}{l m:ke}{x y:PV}{xs ys:km PV}(va:Ii T M H)(hx:x= .tup xs\/x= .lst xs)(hy:y= .tup ys\/y= .lst ys)(r:CF K T M H (.ref l) x)(t:CF K T M H (.ref m) y):VC K M (tL K (kN x) (kN y) l m) (LW xs ys) T H:=by
 obtain⟨_,vs,e,hq,f⟩:=QV hx r;cases e;obtain⟨_,g,e,j,c⟩:=QV hy t;cases e;have hz:∀i z,(LW xs ys)[i]? =some z->∃a b,xs[i]? =some a/\ys[i]? =some b/\z=PV.tup [a,b] :=λi z h=>by
  unfold LW at h;rw[List.getElem?_zipWith] at h;cases d:xs[i]? with
  | none=>rw[d] at h;cases h
  | some a=>
    cases k:ys[i]? with
    | none=>rw[d,k] at h;cases h
    | some b=>rw[d,k] at h;cases h;exact⟨a,b,by first | rfl|exact d,by first | rfl|exact k,rfl⟩
 refine⟨λi z h=> ?_,λi z v D h A=> ?_,λi h=>⟨vs,g,hq,j, ?_⟩⟩
 .obtain ⟨a,b,ha,hb,_⟩:=hz i z h;obtain⟨u,hu,_⟩:=f.get ha;obtain⟨w,hw,_⟩:=c.get hb;exact⟨vs,g,u,w,hq,j,hu,hw⟩
 .obtain ⟨a,b,ha,hb,rfl⟩:=hz i z h;obtain⟨p,u,w,rfl,B,rfl,hu,hw⟩:=A;obtain⟨E,n,ra⟩:=f.get' (hu vs hq);obtain⟨F,s,C⟩:=c.get' (hw g j);rw[ha] at n;cases n;rw[hb] at s;cases s;have st:=DK.lay (o:= .tup [u,w]) va.tp B;exact⟨st, .tup (.inl Ab) (.cons (ra.stp st va) (.cons (C.stp st va) .nil))⟩
 .rw [f.length,c.length];have:(LW xs ys).length=min xs.length ys.length:=by simp[LW]
  omega
def oC (r:AA):AI:=λτ Q=>r τ λc=>match c with | [x,y] =>Oo x λxs=>Oo y λys=>Q (LW xs ys)|_=>False
def iX {e f:kc}{r:AA}{p pos c:Pos}{es:km kc}{i:Nat}(j:Gl X "zip")(n:X.mg "zip" =none)(ha:SA X [e,f] r)(hs:starEach [e,f] X.env= [(false,eval e X.env),(false,eval f X.env)] :=by rfl)(o:starEach [f] X.env= [(false,eval f X.env)] :=by rfl):SI X (.Tuple es i c) (.Call (.Name "zip" p) [e,f] [] pos) true (oC r):=by
 obtain⟨t,u,s⟩:=ha;refine⟨_,iD j n u hs o,λB T v τ H R G w h k=>s B T v τ H _ _ w h λvs xs T1 H1 z A h1=> ?_⟩;split at h1 <;> first | exact h1.elim|skip
 rename_i x y;obtain⟨xs,hx,h2⟩:=HK h1;obtain⟨ys,hy,h3⟩:=HK h2;cases A with
 | cons ra t=>
   cases t with
   | cons d t=> cases t;obtain⟨l,C,rfl,hq,I⟩:=QV hx ra;obtain⟨m,D,rfl,E,F⟩:=QV hy d;exact⟨kN x,kN y,l,m,rfl,⟨C,hq⟩,⟨D,E⟩,k _ _ T1 H1 z (λM2 J K g va _=>cJ va hx hy (ra.mv g) (d.mv g)) h3⟩
def EO (g:AG)(b:AS)(D:Gc):km PV->BL->Prop
 | [],τ=>D.nx τ
 | x::r,τ=>g x τ λc=>b {D with nx:=EO g b D r,ct:=EO g b D r,bk:=D.nx} c
def E3 (c:AI)(g:AG)(b:AS):AS:=λD τ=>c τ λxs=>EO g b D xs τ
def Ff.mvv {K:AAB}{B:DJ}{T d:ke->Prop}{H f:Hp}{c σ':L2.St}{τ τ':BL}(s:SR K B T H c τ)(p:Ff T H c τ d f σ' τ'):Mv K T (mt B c τ) H d (mt B σ' τ') f:=
 ⟨s.va,λb o t m e=>p.keep b o t (λz=>m (.inr z)) e,p.sub,λb n t=>(p.new b t).elim id λz=>absurd z n,λb n m=>m.elim .inl λz=>(p.own b z).elim .inr λz=>absurd z n⟩
def CB {C iter:kc}{body:km Stmt}{M:AI}{g:AG}(hp:PassesOwn (model X.prog X.w) X.A X.env X.xe)(hc:X.calm=true)(hi:SI X C iter true M)(S:SG X C g)(hb:Ye X body b)(hs:∀x,foldedSetIterable iter X.env x=pure x:=by intro _;rfl):SS X (.For C iter body [] pos) (E3 M g b):=by
 obtain⟨wi,U,W⟩:=hi;obtain⟨Y,Z,sg⟩:=S;obtain⟨tb,pb,sb⟩:=hb;refine⟨_,WK hp hc U Z pb hs,λB T y τ H D N O h er=>W B T y τ H _ _ O h λJ xs T1 H1 E walk h1=> ?_⟩;have p:=O.stp E;refine⟨λi m d r=>m=xs.length-i/\∃f c,SR X.K B f r d c/\Ff T1 H1 y τ f r d c/\EO g b N (xs.drop i) c,⟨_,rfl,T1,τ,p, .refl,h1⟩, ?_⟩;rintro i m d r ⟨rfl,f,c,k,l,h2⟩;have w:=walk _ f r (l.mvv p) k.va (.inl rfl);have F:=(er.shift E.prog).shift l;by_cases P:i<xs.length
 .have Q:xs[i]? =some xs[i] :=AAh P;rw[ADd P] at h2;refine .inr ⟨w.go i _ Q,λσ' s=>∃j τ',SR X.K B j s σ' τ'/\Ff T1 H1 y τ j s σ' τ'/\EO g b N (xs.drop (i+1)) τ',λσ' s ⟨j,τ',q1,q2,q3⟩=>⟨_,by omega,rfl,j,τ',q1,q2,q3⟩,λv z yl=> ?_⟩;obtain⟨R,r3⟩:=w.yld i _ v z Q yl;have G:=k.stp R;refine sg B f d c z v _ _ _ G r3 h2 λt u I o4 h4=> ?_;have n:Ff T1 H1 y τ f z t u:=(l.trans R.prog).trans (.less o4);have L:=(er.shift E.prog).shift n;exact sb B f t u z _ _ I h4 ⟨λj s σ' τ' q o h'=>⟨j,τ',o,n.trans q,h'⟩,L.nx,λj s σ' τ' q o h'=>⟨j,τ',o,n.trans q,h'⟩,er.rt⟩
 .rw [AEK (by omega)] at h2;exact .inl ⟨w.stop i (by omega),F.nx f r d c .refl k h2⟩
def Yk:kd AV->kd AV|some (.val x)=>some (.val x)|_=>none
def PB (own:Nat)(ix:km Nat)(τ:BL):BL:=List.replicate own none++ix.map λi=>Yk (QI τ i)
def Cy (g:AG)(t:AT)(f:AE)(c:BL)(Q:km PV->Prop):km PV->km PV->Prop
 | [],acc=>Q acc
 | x::r,acc=>g x c λd=>t d λok=>if ok=true then f d λy=>Cy g t f c Q r (acc ++ [y]) else Cy g t f c Q r acc
def B2 (c:AI)(own:Nat)(ix:km Nat)(g:AG)(t:AT)(d:AE):AA:=λτ Q=>c τ λxs=>xs.length<sizeLine/\Cy g t d (PB own ix τ) Q xs []
def ak {own:Nat}{ix:km Nat}{τ:BL}{j:Nat}{x:PV}(h:(PB own ix τ)[j]? =some (some (.val x))):own<=j/\∃i,ix[j-own]? =some i/\τ[i]? =some (some (.val x)):=by
 unfold PB at h;by_cases hj:j<own
 .rw [ABn (by simpa using hj),ABx,AAD hj] at h;cases h
 .rw [ABf (by simpa using hj),ABy,AAs] at h;cases e:ix[j-own]? with
  | none=>rw[e] at h;cases h
  | some i=>
    rw[e] at h;refine⟨by omega,i,rfl,K9 ?_⟩;cases c:QI τ i with
    | none=>simp[c,Yk] at h
    | some z=>cases z <;> simp[c,Yk] at h;subst h;rfl
def Jh {own:Nat}{ix:km Nat}{τ:BL}{j:Nat}{xs:km PV}:(PB own ix τ)[j]? ≠some (some (.own xs)):=λh=>by
 unfold PB at h;by_cases hj:j<own
 .rw [ABn (by simpa using hj),ABx,AAD hj] at h;cases h
 .rw [ABf (by simpa using hj),ABy,AAs] at h;cases e:ix[j-own]? with
  | none=>rw[e] at h;cases h
  | some i=>
    rw[e] at h;cases c:QI τ i with
    | none=>simp[c,Yk] at h
    | some z=>cases z <;> simp[c,Yk] at h
def DJ.blk (B:DJ)(c:L2.St)(τ:BL)(D:ke):DJ:=⟨B.T,B.H,λa=>mt B c τ a\/a=D⟩
def SR.blk {K:AAB}{B:DJ}{T d:ke->Prop}{H f:Hp}{c:L2.St}{τ:BL}{D:ke}{h:km V}{own:Nat}{ix:km Nat}(s:SR K B T H c τ)(q:DK T H d f)(l:H D=none)(hd:f D=some (.lst h))(u:¬d D):SR K (B.blk c τ D) d f (Cj own ix c) (PB own ix τ):=by
 have g:=s.stp q;have w:Mv K T (mt B c τ) H d (mt (B.blk c τ D) (Cj own ix c) (PB own ix τ)) f:=⟨s.va,λb o t _ e=>q.keep b o t e,q.sub,λb n t=>(q.new b t).elim id λz=>absurd z n,λb n z=>by
  rcases z with(z|z)|⟨_,_,z,_⟩
  .exact z
  .subst z;exact absurd l n
  .exact absurd z Jh⟩
 refine⟨by simp[Cj,PB],λj x e=> ?_,λj xs e=>absurd e Jh,λj k xs ys p e=>absurd e Jh,g.tp,λa m=> ?_,λa m=> ?_,g.st⟩
 .obtain ⟨hj,i,hi,y⟩:=ak e;obtain⟨v,hv,r⟩:=s.val i x y;refine⟨v, ?_,r.mv w⟩;unfold Cj;rw[ABf (by simpa using hj),ABy,AAs,hi];simp[hv]
 .rcases m with m|m
  .exact g.va.mu a m
  .subst m;exact⟨_,hd,L8.lst⟩
 .rcases m with m|m
  .exact g.nt m
  .subst m;exact u
def ou (X:Cx)(c:km kc)(t:AT):Prop:=∃d,jH X c d/\VE X.K d t
def EW:AT:=λ_ Q=>Q true
def B9:ou X [] EW:=⟨_,Xz,λB T d τ H Q f c h k=>k true T H (.refl c.tp) h⟩
def GY {c:kc}{t:AT}(h:Sa X c t):ou X [c] t:=let ⟨_,p,s⟩:=h;⟨_,iE p,s⟩
def OY {K:AAB}{s:gn}{wi:TI}{ai:AI}{own:Nat}{ix:km Nat}{g:TG}{ag:AG}{tt:TT}{C:AT}{te:TE}(hi:ox K s wi ai)(hg:Q3 K g ag)(ht:VE K tt C)(he:II K te ta):fx K (d9 wi own ix g tt te) (B2 ai own ix ag C ta):=by
 intro B T E τ H Q AQ sr h k;refine hi B T E τ H _ _ sr h λJ xs T1 H1 s1 walk h1 D F=> ?_;obtain⟨hl,h1⟩:=h1;have j:=sr.stp s1;have nt1:¬T1 D:=λz=>by obtain⟨o,e,_⟩:=(j.tp D z).mut;rw[F] at e;cases e
 have lay:=DK.lay (o:= .lst []) j.tp F;refine⟨λi m G=>m=xs.length-i/\∃p vs c,DK T1 H1 p G/\G D=some (.lst vs)/\¬p D/\BB K p (λa=>mt B E τ a\/a=D) G vs c/\c.length<=i/\Cy ag C ta (PB own ix τ) AQ (xs.drop i) c,
  ⟨_,rfl,T1, [], [],lay,Ab,nt1, .nil,AAJ _,h1⟩, ?_⟩
 rintro i m G ⟨rfl,p,vs,c,r,Z,f,r2,gO,h2⟩;have I:=j.blk (own:=own) (ix:=ix) r F Z f;have L:Ii p (λa=>mt B E τ a\/a=D) G:=⟨I.tp,I.bm⟩;have w:=walk (λa=>mt B E τ a\/a=D) p G ⟨j.va,λb o t _ e=>r.keep b o t e,r.sub,λb n t=>(r.new b t).elim id λz=>absurd z n,λb n z=>z.elim id λz=>by subst z;exact absurd F n⟩ L (.inr r.keep);by_cases Dp:i<xs.length
 .have cA:xs[i]? =some xs[i] :=AAh Dp;rw[ADd Dp] at h2;refine .inr ⟨w.go i _ cA,λv H3 yl=> ?_⟩;obtain⟨P,r3⟩:=w.yld i _ v H3 cA yl;have l:=I.stp P;refine hg _ p _ _ H3 v _ _ _ l (r3.mv (.anti ⟨l.tp,l.bm⟩ λa z=>z.elim id λ⟨_,_,z,_⟩=>absurd z Jh)) h2 λR S U o4 h4=> ?_;refine ht _ p R S H3 _ _ U h4 λok T5 H5 N h5=> ?_;have u:=U.stp N;have oF:=P.keep D _ f Z;have rp:=N.keep D _ f oF;have M:¬T5 D:=λz=>(N.new D z).elim f λn=>by rw[n] at oF;cases oF
  have r5:=(r2.stp P L).stp N ⟨l.tp,l.bm⟩;cases ok with
  | false=> rw[AAC AAO] at h5 ⊢;exact⟨_,by omega,rfl,T5,vs,c,(r.trans P).trans N,rp,M,r5,by omega,h5⟩
  | true=>
    rw[AAD rfl] at h5 ⊢;refine he _ T5 R S H5 _ _ u h5 λvy y O H6 W r6 h6=> ?_;have A:=u.stp W;have hD6:=W.keep D _ M rp;have Y:¬O D:=λz=>(W.new D z).elim M λn=>by rw[n] at rp;cases rp
    have va6:Ii O (λa=>mt B E τ a\/a=D) H6:=⟨A.tp,A.bm⟩;have r7:=r5.stp W ⟨u.tp,u.bm⟩;have s7:=((r.trans P).trans N).trans W;have tp8:∀a,O a->Fg (upd H6 D (.lst (vs ++ [vy]))) a:=λa t=>by obtain⟨d,x,e,z⟩:=A.tp a t;exact⟨d,x,by rw[Af (λw=>by subst w;exact Y t)];exact e,z⟩
    have mv8:Mv K O (λa=>mt B E τ a\/a=D) H6 O (λa=>mt B E τ a\/a=D) (upd H6 D (.lst (vs ++ [vy]))):=⟨va6,λb o _ m e=>by rw[Af (λw=>m (.inr w))];exact e,λ_ t=>t,λ_ _ t=>t,λ_ _ z=>z⟩;refine⟨vs,hD6,by rw[r2.length];omega,_,(by omega:xs.length-(i+1)<xs.length-i),rfl,O,vs ++ [vy],c ++ [y],⟨λb o t e=> ?_,s7.sub,s7.new,tp8⟩,Ab,Y,(r7.append (.cons (r6.mv (.anti A.va λa z=> .inl z)) .nil)).mv mv8,by simp;omega,h6⟩;rw[Af (Aq e F)];exact s7.keep b o t e
 .rw [AEK (by omega)] at h2;refine .inl ⟨w.stop i (by omega), ?_⟩;exact k D vs c p G (s1.trans r) (j.add r F Z L8.lst f) (s1.none F) Z f (r2.mv (.anti L λa z=>by
   rcases z with(z|z)|z
   .exact .inl (.inl z)
   .exact .inr z
   .exact .inl (.inr z))) h2
structure W1 (X:Cx) (tg elt:Expr) (ifs:List Expr) (scope:Scope) (own:Nat) (ix:List Nat) (N:List Str) (g:AG) (t:AT) (te:AE):Prop where
 ex:∃g' t' te',GG X tg elt ifs scope own ix N g' t' te'/\Q3 X.K g' g/\VE X.K t' t/\II X.K te' te
def Ck {f c iter:kc}{d:km kc}{scope:Scope}{own:Nat}{ix:km Nat}{N:km Str}{g:AG}{t:AT}{s:gn}{h:AI}(hc:X.calm=true)(hi:SI X f iter s h)(O:W1 X f c d scope own ix N g t ta)(hs:∀x,foldedSetIterable iter X.env x=pure x:=by intro _;rfl):SF X (.ListComp c [⟨f,iter,d,0⟩] scope pos) (B2 h own ix g t ta):=by obtain⟨n,i,j⟩:=hi;obtain⟨g',t',k,O,l,st,m⟩:=O.ex;exact⟨_,h9 hc i O hs,OY j l st m⟩
def Um {i:Nat}{x:Str}{pos' c:Pos}{h d iter:kc}{f:km kc}{scope:Scope}{own:Nat}{ix:km Nat}{N:km Str}{g:AG}{t:AT}{s:gn}{j:AI}(hc:X.calm=true)(hN:X.N.Nodup)(k:X.N[i]? =some x)(hx:Loc X.env.scope x)(hi:SI X h iter s j)(O:W1 X h d f scope own ix N g t ta)(l:swapsWith (.ListComp d [⟨h,iter,f,0⟩] scope pos) (some (.Name x pos')) c.line X.env=pure true:=by rfl)(hs:∀x,foldedSetIterable iter X.env x=pure x:=by intro _;rfl)(m:X.fn x=true\/X.env.scope.names.lookup x=some .local:=by first | exact .inl rfl|exact .inr rfl|assumption):SS X (.Assign [.Name x pos'] (.ListComp d [⟨h,iter,f,0⟩] scope pos) c) (Je (B2 j own ix g t ta) i):=by obtain⟨v,n,o⟩:=hi;obtain⟨g',t',p,O,r,st,u⟩:=O.ex;exact⟨_,X2 hc hN k hx n O l hs m,YG (OY o r st u)⟩
def EU {i:Nat}{x:Str}{pos' c:Pos}{h d iter:kc}{f:km kc}{scope:Scope}{own:Nat}{ix:km Nat}{N:km Str}{g:AG}{t:AT}{s:gn}{j:AI}(hc:X.calm=true)(hN:X.N.Nodup)(k:X.N[i]? =some x)(hx:Loc X.env.scope x)(hi:SI X h iter s j)(O:W1 X h d f scope own ix N g t ta)(l:swapsWith (.ListComp d [⟨h,iter,f,0⟩] scope pos) (some (.Name x pos')) c.line X.env=pure true:=by rfl)(hs:∀x,foldedSetIterable iter X.env x=pure x:=by intro _;rfl)(m:X.fn x=true\/X.env.scope.names.lookup x=some .local:=by first | exact .inl rfl|exact .inr rfl|assumption):SS X (.Assign [.Name x pos'] (.ListComp d [⟨h,iter,f,0⟩] scope pos) c) (Ak (FI (B2 j own ix g t ta)) (An i)):=by obtain⟨v,n,o⟩:=hi;obtain⟨g',t',p,O,r,st,u⟩:=O.ex;exact⟨_,X2 hc hN k hx n O l hs m,SC (dv (OY o r st u)) SD⟩
end
def LP (N:Nat)(xs:km PV):BL:=xs.map (λx=>some (.val x))++List.replicate (N-xs.length) none
def As (N:Nat)(b:AS):AF:=λxs Q=>b {nx:=λ_=>Q .non,rt:=Q,bk:=λ_=>False,ct:=λ_=>False} (LP N xs)
def Uo {K:AAB}{T M:ke->Prop}{H:Hp}{N:km Str}{vs:km V}{xs:km PV}(va:Ii T M H)(b:∀a,M a->¬T a)(r:BB K T M H vs xs):SR K ⟨T,H,M⟩ T H (start N vs) (LP N.length xs):=by
 have c:∀(j:Nat) (ys:km PV),(LP N.length xs)[j]? ≠some (some (.own ys)):=λj ys h=>by
  unfold LP at h;by_cases hj:j<xs.length
  .rw [ABn (by simpa using hj),AAs,AAh hj] at h;cases h
  .rw [ABf (by simpa using hj),ABx] at h;split at h <;> cases h
 refine⟨by simp[L2.start,LP,r.length],λj x h=> ?_,λj ys h=>absurd h (c j ys),λj k ys d p h=>absurd h (c j ys),va.tp,va.mu,b, .refl va.tp⟩;unfold LP at h;by_cases hj:j<xs.length
 .rw [ABn (by simpa using hj),AAs,AAh hj] at h;cases h;obtain⟨v,hv,rv⟩:=r.get (AAh hj);refine⟨v, ?_,rv.mv (.anti va λa m=>m.elim id λ⟨_,_,z,_⟩=>absurd z (c _ _))⟩;unfold L2.start;rw[ABn (by rw[AAK,r.length];exact hj),AAs,hv];rfl
 .rw [ABf (by simpa using hj),ABx] at h;split at h <;> cases h
section
variable {P:fm}{w:fe}{K:AAB}{mg:Str->kd kj}{base:Wf}
def gJ {x qual:Str}{st:Stmt}{f:ke}{i:FuncData}{N c:km Str}{k n:Nat}{b:AS}(F:VB K x qual st f i)(S:DZ N c (A0 st))(j:n=c.length)(l:∀(a:kj) (A:Tb) (outer:km Env) (s:ki) (H:Hp) (E:XK),Room k (A.deeper (envOfC qual (A0 st) s.heap.objs.size f a))-> Ye (PJ NE P w K mg base N qual (A0 st) f a A outer s H E).nox (CO st) b):D8 P w K mg base NE (k+1) f i c (CS K n (As N.length b)):=by
 refine F.ok S (λvs H Q E h=> ?_) (λa A outer s H vs Q E m h=> ?_)
 .obtain ⟨T,M,xs,o,_,_,r,hl,_⟩:=h;rw[r.length,hl,j]
 .obtain ⟨T,M,xs,o,va,d,r,hl,hF,hQ⟩:=h;obtain⟨t,p,u⟩:=l a A outer s H E m;refine⟨t,p,u ⟨T,H,M⟩ T _ _ H _ _ (Uo va d r) hF ⟨λe g σ' τ' _ y q=> ?_,λ_ _ _ _ _ _ q=>q.elim,λ_ _ _ _ _ _ q=>q.elim,λv x e g z B q=>hQ v x e g z B q⟩⟩;exact hQ _ _ e g y.st .non q
end
section
variable {X:Cx}
def av {prog:fm}{w:fe}{A:Tb}{E:kj->ki->Prop}{s:ki}{t b:ke}{d:km kj}{Q:kj->ki->Prop}(j:IsTup s.heap t #[])(hb:IsTup s.heap b d.toArray)(k:Q (.ref b) s):wpAny (model prog w) A (binaryOp .Add (.ref t) (.ref b)) Q E s:=by
 obtain⟨⟨cls,l,data,sl⟩,e,hc,n,hd⟩:=id j;obtain⟨⟨f,a,data2,c⟩,g,h,m,i⟩:=id hb;simp only at hc hd h i;subst hc hd h i;exact concat_meets ⟨_,e,rfl⟩ ⟨_,g,rfl⟩ AEA seq_tuple_add AEB AEC (AED _ _)
  (tuple_addW0 t b #[] d.toArray n m l a sl c (by simp)) ⟨e,g,k⟩
def dL (K:AAB):R2:=λx y H Q=>∃a b ys,x= .ref a/\y= .ref b/\KJ K H a [] /\KJ K H b ys/\Q (.ref b) H
def cm:D9 X (binaryOp .Add) (dL X.K):=by intro k s l H x y v u Q I d e h;obtain⟨a,b,ys,rfl,rfl,ha,hb,q⟩:=h;cases d;cases e;obtain⟨f,g,i,_⟩:=I.tuple ha;obtain⟨c,m,j,_⟩:=I.tuple hb;cases g;exact av i j ⟨.ref b,H,I,rfl,q⟩
def jf (K:AAB):R2:=λx y H Q=>((Mi (λi j=>V.int (i+j)) x y H Q\/qX x y H Q)\/jg K x y H Q)\/dL K x y H Q
def A4:IV:=λx y Q=>match x,y with
 | .int i, .int j=>Q (.int (i+j))
 | .lst xs, .lst ys=>xs.length+ys.length<=sizeLine/\Q (.lst (xs++ys))
 | .tup xs, .tup ys=>xs.length+ys.length<=sizeLine/\Q (.tup (xs++ys))
 | _,_=>False
def Ah:D9 X (binaryOp .Add) (jf X.K)/\CC X.K (jf X.K) A4:=by
 refine⟨((HL.or l8).or hJ).or cm,λT M H u v x y Q r va g rv h k=> ?_⟩;unfold A4 at h;split at h <;> first | exact h.elim|skip
 .exact .inl (.inl (.inl ⟨_,_,g.toI,rv.toI,k _ _ T H (.refl va.tp) (.int _) h⟩))
 .obtain ⟨a,vs,rfl,hq,s,nm,d⟩:=C7 g;obtain⟨b,f,rfl,i,j,l,c⟩:=C7 rv;refine .inl (.inl (.inr ⟨a,b,vs,f,rfl,rfl,hq,i,by rw[d.length,c.length];exact h.1,λp hp=> ?_⟩));have st:=DK.lay (o:= .lst (vs++f)) va.tp hp;have m:¬T p:=λz=>by obtain⟨o,e,_⟩:=(va.tp p z).mut;rw[hp] at e;cases e
  have n:¬M p:=λz=>by obtain⟨o,e,_⟩:=va.mu p z;rw[hp] at e;cases e
  exact k _ _ T _ st (.lst Ab m n ((d.append c).stp st va)) h.2
 .obtain ⟨a,vs,rfl,hq,d⟩:=Ea g;obtain⟨b,f,rfl,i,c⟩:=Ea rv;by_cases e:vs= []
  .subst e;cases d;exact .inr ⟨a,b,f,rfl,rfl,hq,i,k _ _ T H (.refl va.tp) rv (by simpa using h.2)⟩
  .refine .inl (.inr ⟨a,b,vs,f,rfl,rfl,hq,i,e,by rw[d.length,c.length];exact h.1,λz=> ?_,λz p hp=> ?_⟩)
   .subst z;cases c;exact k _ _ T H (.refl va.tp) g (by simpa using h.2)
   .have st:=DK.lay (o:= .tup (vs++f)) va.tp hp;exact k _ _ T _ st (.tup (.inl Ab) ((d.append c).stp st va)) h.2
def IL {prog:fm}{w:fe}{A:Tb}{E:kj->ki->Prop}{s:ki}{t sl:ke}{items:Array kj}{b c:kj}{lo hi:kd Int}{Q:kj->ki->Prop}(a:IsTup s.heap t items)(hs:s.heap.IsSliceOf sl b c .none)(d:IsPart b lo)(e:IsPart c hi)(hw:HT.sIx items.size 0 lo=0/\HT.sIx items.size items.size hi=items.size)(h:Q (.ref t) s):wpAny (model prog w) A (getItem (.ref t) (.ref sl)) Q E s:=by
 obtain⟨os,f,g,n⟩:=id hs;have i:s.TypeIs (.ref sl) "slice" :=⟨os,f,g⟩;obtain⟨o,j,k,p,l⟩:=id a;unfold getItem;try with_reducible refine AAd ?_
 first | refine AAA (AAE ?_)|skip
 refine AAA (wpAny_sequenceKey a.typeIs (by decide) ?_);refine AAA (ABz (name:=Str.ofString "__getitem__") a.typeIs ACS
  (ABO ACS a.typeIs entry_tuple_getitem ?_ (args_tuple_getitem _ _)))
 show wpAny _ _ (Builtin.Tuple.tupleItemsOf (.ref t) >>= _) _ _ s;refine AAA (tupleItemsOf_ a ?_);refine AAA (ACT i ?_);rw[AAD (by decide)];refine AAA (HT.sliceApplied_gen hs d e ?_);have m:((((HT.sIx items.size 0 lo:Nat):Int)==0&&(1:Int)==1&&(HT.sIx items.size items.size hi-HT.sIx items.size 0 lo)==items.size)=true):=by rw[hw.1,hw.2];simp
 show wpAny _ _ (if (((HT.sIx items.size 0 lo:Nat):Int)==0&&(1:Int)==1&&(HT.sIx items.size items.size hi-HT.sIx items.size 0 lo)==items.size)=true then _ else _) _ _ s;rw[AAD m];unfold Builtin.Tuple.tupleIsExact;simp only[bind_assoc,pure_bind];refine AAA (ACT a.typeIs ?_);rw[AAD (by decide)];exact AAA (ABk (AAE ⟨_,rfl,AAE h⟩))
def uz (K:AAB):V->kd Int->kd Int->Hp->VK->Prop:=λx lo hi H Q=>∃a xs,x= .ref a/\KJ K H a xs/\
 (HT.sIx xs.length 0 lo=0/\HT.sIx xs.length xs.length hi=xs.length)/\Q (.ref a) H
def iq:jI X (uz X.K):=by
 intro i s j H x v k l lo hi sl Q I d hs e f h;obtain⟨a,xs,rfl,hx,hw,q⟩:=h;cases d;obtain⟨b,r,c,hz⟩:=I.tuple hx;have g:b.toArray.size=xs.length:=by rw[AAN];exact r.length.symm
 refine⟨"tuple",_,ACS.lookup,c.typeIs, ?_⟩;exact IL c hs e f (by rw[g];exact hw) ⟨.ref a,H,I,rfl,q⟩
def FM (xs:km PV)(lo hi:kd Int):km PV:=(xs.drop (HT.sIx xs.length 0 lo)).take (HT.sIx xs.length xs.length hi-HT.sIx xs.length 0 lo)
def XM {K:AAB}{T M:ke->Prop}{H:Hp}{vs:km V}{xs:km PV}(r:BB K T M H vs xs)(lo hi:kd Int):BB K T M H (PH vs lo hi) (FM xs lo hi):=by unfold PH FM;rw[r.length];exact(r.drop _).take _
abbrev AO:=BL->(kd Int->Prop)->Prop
def tO (K:AAB)(t:TO)(a:AO):Prop:=∀(B:DJ) (T:ke->Prop) (b:L2.St) (τ:BL) (H:Hp) (Q:kd Int->Hp->Prop) (c:kd Int->Prop),SR K B T H b τ->a τ c->
 (∀o e d,DK T H e d->c o->Q o d)->t b H Q
def SO (X:Cx)(e:kd kc)(a:AO):Prop:=∃t,PO X e t/\tO X.K t a
def Q5:AO:=λ_ Q=>Q none
def Q6 (a:AE):AO:=λτ Q=>a τ λx=>aB x λi=>Q (some i)
def Uj:SO X none Q5:=⟨_,iF,λB T b τ H Q c a h k=>k _ T H (.refl a.tp) h⟩
def Uk {e:kc}{a:AE}(h:SE X e a):SO X (some e) (Q6 a):=by obtain⟨t,p,s⟩:=h;refine⟨_,iG p,λB T b τ H Q g c h k=>s B T b τ H _ _ c h λv x T1 H1 d f h1=> ?_⟩;obtain⟨i,rfl,q⟩:=WE h1;exact⟨i,f.toI,k _ T1 H1 d q⟩
@[irreducible] def RG (x:PV)(lo hi:kd Int)(Q:PV->Prop):Prop:=match x with | .tup xs=>Q (.tup (FM xs lo hi)) | .lst xs=>Q (.lst (FM xs lo hi))|_=>False
def DE {xs:km PV}{lo hi:kd Int}{Q:PV->Prop}(h:Q (.tup (FM xs lo hi))):RG (.tup xs) lo hi Q:=by unfold RG;exact h
def Em {xs:km PV}{lo hi:kd Int}{Q:PV->Prop}(h:Q (.lst (FM xs lo hi))):RG (.lst xs) lo hi Q:=by unfold RG;exact h
def Q4 (a:AE)(l h:AO):AE:=λτ Q=>a τ λx=>l τ λlo=>h τ λhi=>RG x lo hi Q
def ET {e:kc}{lo hi:kd kc}{C pos:Pos}{A:AE}{l h:AO}(he:SE X e A)(hl:SO X lo l)(D:SO X hi h):SE X (.Subscript e (.Slice lo hi none C) pos) (Q4 A l h):=by
 obtain⟨t,p,s⟩:=he;obtain⟨M,E,n⟩:=hl;obtain⟨N,r,u⟩:=D;refine⟨_,c7 ((ip.or nM).or iq) p E r,λB T m τ H Q O d h k=>s B T m τ H _ _ d h λv x T1 H1 f F h1=> ?_⟩;refine n B T1 m τ H1 _ _ (d.stp f) h1 λlo G I g h2=> ?_;refine u B G m τ I _ _ ((d.stp f).stp g) h2 λhi T3 J w h3=> ?_;have b:=((d.stp f).stp g).stp w;have y:=(F.stp g (d.stp f).va).stp w ((d.stp f).stp g).va;have c:=(f.trans g).trans w;unfold RG at h3;split at h3 <;> first | exact h3.elim|skip
 .obtain ⟨a,vs,rfl,hq,i⟩:=Ea y;by_cases hw:HT.sIx vs.length 0 lo=0/\HT.sIx vs.length vs.length hi=vs.length
  .refine .inr ⟨a,vs,rfl,hq,hw,k _ _ T3 J c y ?_⟩;rename_i xs;have:FM xs lo hi=xs:=by unfold FM;rw[<-i.length,hw.1,hw.2,i.length];simp
   rw[this] at h3;exact h3
  .refine .inl (.inr ⟨a,vs,rfl,hq,hw,λq j=> ?_⟩);have st:=DK.lay (o:= .tup (PH vs lo hi)) b.tp j;exact k _ _ T3 _ (c.trans st) (.tup (.inl Ab) ((XM i lo hi).stp st b.va)) h3
 .obtain ⟨a,vs,rfl,hq,P,nm,i⟩:=C7 y;refine .inl (.inl ⟨a,vs,rfl, .inl (.inl hq),λq j=> ?_⟩);have st:=DK.lay (o:= .lst (PH vs lo hi)) b.tp j;have K:¬T3 q:=λz=>by obtain⟨o,e,_⟩:=(b.tp q z).mut;rw[j] at e;cases e
  have L:¬mt B m τ q:=λz=>by obtain⟨o,e,_⟩:=b.va.mu q z;rw[j] at e;cases e
  exact k _ _ T3 _ (c.trans st) (.lst Ab K L ((XM i lo hi).stp st b.va)) h3
end
def BA:AF:=λxs Q=>match xs with | [.tape, .int m] =>(0<m/\m<4611686018427387904)/\∀r,0<=r->r<m->Q (.int r)|_=>False
def NM:AF:=λxs Q=>match xs with | [.scr ns, .int k] =>(0<=k/\k<=1000)/\Q .tape|_=>False
def oZ (g:TG):Prop:=∀v b H Q c,(∀a d,Q a d->c a d)->g v b H Q->g v b H c
def j0 (g:VG):Prop:=∀v b H Q c,(∀a d,Q a d->c a d)->g v b H Q->g v b H c
def SK (own:Nat)(X:Cx)(a:kc)(b:AG):Prop:=∃g,PG X a g/\Q3 X.K g b/\NO own g/\oZ g
def rg (own:Nat)(X:Cx)(a:km kc)(b:Ux):Prop:=∃g,n9 X a g/\Pu X.K g b/\NP own g/\j0 g
section
variable {X:Cx}{pos:Pos}{own:Nat}
def ii {i:Nat}{x:Str}(hN:X.N.Nodup)(hi:X.N[i]? =some x)(hx:Loc X.env.scope x)(hk:i<own)(a:X.fn x=true\/X.env.scope.names.lookup x=some .local:=by first | exact .inl rfl|exact .inr rfl|assumption):SK own X (.Name x pos) (An i):=
 ⟨_,Ek hN hi hx a,SD,RK hk,MY⟩
def EJ:rg own X [] Bm:=⟨_,J1,Ui,XY,RL⟩
def A6 {e:kc}{es:km kc}{b:AG}{a:Ux}(h1:SK own X e b)(h2:rg own X es a)(hs:(assignEach (e::es) X.env).map (·.2)=assign e X.env::(assignEach es X.env).map (·.2):=by rfl):rg own X (e::es) (AY b a):=
 let ⟨_,p,s,k,m⟩:=h1;let ⟨_,d,f,g,c⟩:=h2;⟨_,Dv p d hs,QS s f,Nf k m g c,Tc m c⟩
end
def rm (K:AAB)(own:Nat)(d:AG):TG:=λv a H Q=>∃(B:DJ) (T:ke->Prop) (τ:BL) (x:PV) (c:BL->Prop),SR K B T H a τ/\CF K T (mt B a τ) H v x/\d x τ c/\
 ∀σ' τ',SR K B T H σ' τ'->(∀b,CW σ' τ' b->CW a τ b)->c τ'->(σ'.length=a.length/\∀j,own<=j->σ'[j]? =a[j]?)->Q σ' H
def vA (K:AAB)(a:AT):TT:=λe H Q=>∃(B:DJ) (T:ke->Prop) (τ:BL) (c:gn->Prop),SR K B T H e τ/\a τ c/\∀b f d,DK T H f d->c b->Q b d
def tZ (K:AAB)(a:AE):TE:=λc H Q=>∃(B:DJ) (T:ke->Prop) (τ:BL) (d:PV->Prop),SR K B T H c τ/\a τ d/\∀v x e b,DK T H e b->CF K e (mt B c τ) b v x->d x->Q v b
def ia {K:AAB}{own:Nat}{a:AG}:Q3 K (rm K own a) a:=λB T d τ H v x Q b c r h k=>⟨B,T,τ,x,b,c,r,h,λσ' τ' s o q _=>k σ' τ' s o q⟩
def cM {K:AAB}{own:Nat}{a:AG}:NO own (rm K own a):=λv d H Q ⟨B,T,τ,x,b,c,r,h,k⟩=>⟨B,T,τ,x,b,c,r,h,λσ' τ' s o q z=>⟨k σ' τ' s o q z,z⟩⟩
def ie {K:AAB}{a:AT}:VE K (vA K a) a:=λB T d τ H Q b c h k=>⟨B,T,τ,b,c,h,k⟩
def iZ {K:AAB}{a:AE}:II K (tZ K a) a:=λB T d τ H Q b c h k=>⟨B,T,τ,b,c,h,k⟩
section
variable {X:Cx}
def SK.of {own:Nat}{e:kc}{f:AG}(h:SK own X e f):PG X e (rm X.K own f):=by obtain⟨g,p,s,k,m⟩:=h;intro j l a H v u Q I r hw;obtain⟨B,T,τ,x,i,n,t,h,c⟩:=hw;have h1:g v a H λσ' w=>w=H/\∃τ',SR X.K B T H σ' τ'/\(∀b,CW σ' τ' b->CW a τ b)/\i τ':=s B T a τ H v x _ i n t h λσ' τ' s o q=>⟨rfl,τ',s,o,q⟩;have h2:=k v a H _ h1;refine p j l a H v u Q I r (m v a H _ _ (λd D q=> ?_) h2);obtain⟨⟨rfl,τ',y,A,C⟩,z⟩:=q;exact c d τ' y A C z
def ou.of {b:km kc}{a:AT}(h:ou X b a):jH X b (vA X.K a):=by obtain⟨t,p,s⟩:=h;intro e f d H Q I hw;obtain⟨B,T,τ,g,i,h,c⟩:=hw;exact p e f d H Q I (s B T d τ H Q g i h c)
def SE.of {e:kc}{a:AE}(h:SE X e a):PE X e (tZ X.K a):=by obtain⟨t,p,s⟩:=h;intro d f b H Q I hw;obtain⟨B,T,τ,g,i,h,c⟩:=hw;exact p d f b H Q I (s B T b τ H Q g i h c)
def Bq {f a:kc}{b:km kc}{scope:Scope}{own:Nat}{ix:km Nat}{N:km Str}{g:AG}{t:AT}{c:AE}(h1:scope.kind= .function)(h2:(scope.names.all λy=> !decide (y.2= .cell))=true)(h3:(scope.names.all λy=> !decide (y.2= .local)||decide (scope.names.lookup y.1=some .local))=true)(h:(scope.names.all λy=> !decide (y.2= .free)||decide (X.env.scope.names.lookup y.1=some .cell))=true)(h5:N.length=own+ix.length)(i:Vg X (relabel scope X.env) own ix N=true)(d:∀cl C s H ex pn,SK own (blk X (relabel scope X.env) N cl C s H ex pn) f g)(e:∀cl C s H ex pn,ou (blk X (relabel scope X.env) N cl C s H ex pn) b t)(val:∀cl C s H ex pn,SE (blk X (relabel scope X.env) N cl C s H ex pn) a c):W1 X f a b scope own ix N g t c:=
 ⟨rm X.K own g,vA X.K t,tZ X.K c,XJ h1 h2 h3 h h5 i cM (λcl C s H ex pn=>(d cl C s H ex pn).of) (λcl C s H ex pn=>(e cl C s H ex pn).of) (λcl C s H ex pn=>(val cl C s H ex pn).of),ia,ie,iZ⟩
end
mutual
def pd:PV->PyData
 | .bl b=> .bool b
 | .int i=> .int i
 | .str x=> .str x
 | .tup xs=> .tuple (Op xs)
 | .lst xs=> .list (Op xs)
 | _=> .none
def Op:km PV->km PyData
 | [] => []
 | x::xs=>pd x::Op xs
end
mutual
def C2:Nat->PV->gn
 | _, .non=>true
 | _, .bl _=>true
 | _, .int _=>true
 | _, .str x=>PyData.strOk x
 | n+1, .tup xs=>Fh n xs
 | n+1, .lst xs=>Fh n xs
 | _,_=>false
def Fh:Nat->km PV->gn
 | _, [] =>true
 | n,x::xs=>C2 n x&&Fh n xs
end
mutual
theorem Hq:∀(n:Nat) (x:PV),C2 n x=true->(pd x).canLay0=true/\(pd x).depth<=n/\(pd x).hasDict=false
 | n, .non,_=>⟨rfl,ABS _,rfl⟩
 | n, .bl _,_=>⟨rfl,ABS _,rfl⟩
 | n, .int _,_=>⟨rfl,ABS _,rfl⟩
 | n, .str x,h=>⟨by simpa[pd,PyData.canLay0,C2] using h,ABS _,rfl⟩
 | 0, .tup xs,h=>by simp[C2] at h
 | 0, .lst xs,h=>by simp[C2] at h
 | n+1, .tup xs,h=>by obtain⟨a,b,c⟩:=Jw n xs (by simpa[C2] using h);exact⟨by simpa[pd,PyData.canLay0] using a,by simpa[pd,PyData.depth] using b,by simpa[pd,PyData.hasDict] using c⟩
 | n+1, .lst xs,h=>by obtain⟨a,b,c⟩:=Jw n xs (by simpa[C2] using h);exact⟨by simpa[pd,PyData.canLay0] using a,by simpa[pd,PyData.depth] using b,by simpa[pd,PyData.hasDict] using c⟩
 | n, .tape,h=>by simp[C2] at h
 | n, .scr _,h=>by simp[C2] at h
 | n, .ty _,h=>by simp[C2] at h
 | n, .dct _,h=>by simp[C2] at h
 | n, .dk _,h=>by simp[C2] at h
theorem Jw:∀(n:Nat) (xs:km PV),Fh n xs=true->PyData.canLayAll0 (Op xs)=true/\PyData.depthAll (Op xs)<=n/\PyData.hasDictAll (Op xs)=false
 | n, [],_=>⟨rfl,ABS _,rfl⟩
 | n,x::xs,h=>by simp only[Fh,AAo] at h;obtain⟨a,b,c⟩:=Hq n x h.1;obtain⟨d,f,e⟩:=Jw n xs h.2;exact⟨by simp[Op,PyData.canLayAll0,a,d],by simp only[Op,PyData.depthAll];omega,by simp[Op,PyData.hasDictAll,c,e]⟩
end
section
variable {X:Cx}{Sr:km (ke×Obj)}{σ:L2.St}{H:Hp}{s:ki}
mutual
theorem ES (I:Inv X Sr σ H s){T M:ke->Prop}:∀(n:Nat) {x:PV} {v:V} {u:kj},CF X.K T M H v x->C2 n x=true->RelV v u->∃as,Reads s.heap u (pd x) as
 | _,_,_,_, .non,_,r=>by cases r;exact⟨_, .none⟩
 | _,_,_,_, .bl b,_,r=>by cases r;exact⟨_, .bool b⟩
 | _,_,_,_, .int i,_,r=>by obtain⟨t,rfl⟩:=r;exact⟨_, .int i t⟩
 | _,_,_,_, .str x,_,r=>by obtain⟨t,rfl⟩:=r;exact⟨_, .str x t⟩
 | _,_,_,_, .ty n,h,r=>by simp[C2] at h
 | 0,_,_,_, .tup hq rs,h,r=>by simp[C2] at h
 | 0,_,_,_, .lst hq t m rs,h,r=>by simp[C2] at h
 | n+1,_,_,_, .tup hq rs,h,r=>by cases r;obtain⟨a,rv,⟨o,c,hc,k,hd⟩,_⟩:=I.tuple hq.sq;obtain⟨as,ra⟩:=HN I n rs (by simpa[C2] using h) rv;exact⟨_, .tuple c hc hd (by simpa using ra)⟩
 | n+1,_,_,_, .lst hq t m rs,h,r=>by cases r;obtain⟨a,rv,⟨o,k,c,hc,_,hd⟩,_⟩:=I.list (FJ.of hq);obtain⟨as,ra⟩:=HN I n rs (by simpa[C2] using h) rv;exact⟨_, .list c hc hd (by simpa using ra)⟩
 | _,_,_,_, .tape _,h,r=>by simp[C2] at h
 | _,_,_,_, .scr _,h,r=>by simp[C2] at h
 | _,_,_,_, .dct _ _ _,h,r=>by simp[C2] at h
 | _,_,_,_, .dk _ _,h,r=>by simp[C2] at h
theorem HN (I:Inv X Sr σ H s){T M:ke->Prop}:∀(n:Nat) {xs:km PV} {vs:km V} {a:km kj},BB X.K T M H vs xs->Fh n xs=true->Ax vs a->∃as,ReadsAll s.heap a (Op xs) as
 | _,_,_,_, .nil,_,r=>by cases r;exact⟨_, .nil⟩
 | n,_,_,_, .cons h t,hk,r=>by
   simp only[Fh,AAo] at hk;cases r with
   | cons r b=> obtain⟨as,ra⟩:=ES I n h hk.1 r;obtain⟨bs,c⟩:=HN I n t hk.2 b;exact⟨_, .cons ra c⟩
end
end
section
variable {X:Cx}
def kU (x y:PV):gn:=PyData.eqv (pd x) (pd y)
def iN (K:AAB)(neg:gn):R2:=λu v H Q=>∃(T M:ke->Prop) (x y:PV),CF K T M H u x/\CF K T M H v y/\C2 30 x=true/\C2 30 y=true/\Q (.bl (if neg then !kU x y else kU x y)) H
def l9 {k:Nat}(b:Room k X.A):D9 X (compareOp .Eq) (iN X.K false):=by intro j s l H u v m n Q I c rv h;obtain⟨T,M,x,y,d,e,a,ky,q⟩:=h;obtain⟨as,ra⟩:=ES I 30 d a c;obtain⟨bs,f⟩:=ES I 30 e ky rv;obtain⟨g,o,_⟩:=Hq 30 x a;obtain⟨i,b2,_⟩:=Hq 30 y ky;exact SeqAt.compareEq_reads ra f g i (by have:=b.un;omega) ⟨.bl _,H,I,rfl,q⟩
def mD {k:Nat}(b:Room k X.A):D9 X (compareOp .NotEq) (iN X.K true):=by intro j s l H u v m n Q I c rv h;obtain⟨T,M,x,y,d,e,a,ky,q⟩:=h;obtain⟨as,ra⟩:=ES I 30 d a c;obtain⟨bs,f⟩:=ES I 30 e ky rv;obtain⟨g,o,_⟩:=Hq 30 x a;obtain⟨i,b2,_⟩:=Hq 30 y ky;exact SeqAt.compareNe_reads ra f g i (by have:=b.un;omega) ⟨.bl _,H,I,rfl,q⟩
def JO:IV:=λx y Q=>match df x y with | some b=>Q (.bl b)|none=>(C2 30 x=true/\C2 30 y=true)/\Q (.bl (kU x y))
def Vc:IV:=λx y Q=>match df x y with | some b=>Q (.bl (!b))|none=>(C2 30 x=true/\C2 30 y=true)/\Q (.bl (!kU x y))
def qY (K:AAB):R2:=λx y H Q=>xP x y H Q\/iN K false x y H Q
def qh (K:AAB):R2:=λx y H Q=>xQ x y H Q\/iN K true x y H Q
def C5 {k:Nat}(c:Room k X.A):D9 X (compareOp .Eq) (qY X.K)/\CC X.K (qY X.K) JO:=by
 refine⟨qM.or (l9 c),λT M H u v x y Q d va a rv h k=> ?_⟩;unfold JO at h;split at h
 .rename_i b e;obtain⟨h1,h2⟩:=Ub a rv e;refine .inl ⟨h1, ?_⟩;rw[h2];exact k _ _ T H (.refl va.tp) (.bl _) h
 .exact .inr ⟨T,M,x,y,a,rv,h.1.1,h.1.2,k _ _ T H (.refl va.tp) (.bl _) h.2⟩
def Ob {k:Nat}(c:Room k X.A):D9 X (compareOp .NotEq) (qh X.K)/\CC X.K (qh X.K) Vc:=by
 refine⟨qO.or (mD c),λT M H u v x y Q d va a rv h k=> ?_⟩;unfold Vc at h;split at h
 .rename_i b e;obtain⟨h1,h2⟩:=Ub a rv e;refine .inl ⟨h1, ?_⟩;rw[h2];exact k _ _ T H (.refl va.tp) (.bl _) h
 .exact .inr ⟨T,M,x,y,a,rv,h.1.1,h.1.2,k _ _ T H (.refl va.tp) (.bl _) h.2⟩
structure j9 (x:PV):Prop where
 ok:C2 30 x=true
 sh:(pd x).showable=true
 sz:(pd x).shown.length<=sizeLine
end
section
variable {prog:fm}{w:fe}{A:Tb}{E:kj->ki->Prop}{s:ki}
def Lf {h:Wf}{l:ke}{items:Array kj}(hl:h.IsList l items)(o:Obj):(h.push o).IsList l items:=by obtain⟨a,e,r⟩:=hl;exact⟨a,AAH _ e,r⟩
theorem P6 {it t:ke}{items:Array kj}(f:t≠it):∀(n i:Nat) (s:ki) (Q:km kj->ki->Prop),s.heap.IsListIter it t i->s.heap.IsList t items->i+n<=items.size-> (∀h',h'.IsListIter it t (i+n)->Heap.SameBut it s.heap h'->Q ((items.toList.drop i).take n) {s with heap:=h'})->wpAny (model prog w) A (draw (.ref it) n) Q E s
 | 0,i,s,Q,hit,_,_,hQ=>by show wpAny _ _ (pure []) Q E s;exact AAE (by simpa using hQ s.heap hit (Heap.SameBut.refl ..))
 | n+1,i,s,Q,hit,ht,Y7,hQ=>by
   have g:i<items.size:=by omega
   show wpAny _ _ (pyNext (.ref it) >>= _) Q E s;refine AAA (wpAny_pyNext_list_item hit ht (x:=items[i]) (by simp[g]) λh b a=> ?_);refine AAA (AAd (P6 f n (i+1) _ _ b (ht.extBut a.extBut f) (by omega) λe c d=>AAE ?_));have hd:items.toList.drop i=items[i] :: items.toList.drop (i+1):=by simp[ADd,g]
   have:=hQ e (by rw[show i+(n+1)=i+1+n by omega];exact c) (a.trans d);rw[hd,AEL] at this;exact this
def LU {t:ke}{items:Array kj}{Q:km kj->ki->Prop}(k:A.handled=none)(g:s.heap.IsList t items)(hQ:∀h',Heap.ExtBut s.heap.objs.size s.heap h'->Q items.toList {s with heap:=h'}):wpAny (model prog w) A (unpackItems (.ref t) items.size none) Q E s:=by
 have j:t≠s.heap.objs.size:=by obtain⟨o,l,_⟩:=g;exact AAM (AAG l)
 unfold unpackItems;refine AAA ?_
 .unfold notIterableAtAll;refine AAA (ABt g.typeIs slot_list_iter.lookup ?_);refine AAE ?_;simp only[AAf,AAX];refine AAA (AAd (ADR g ?_));refine AAA (AAd (P6 j items.size 0 _ _ ⟨_,AAQ _ rfl,rfl,rfl⟩ (Lf g _) (by omega) λh c a=> ?_));have m:List.take items.size (List.drop 0 items.toList)=items.toList:=by rw[List.drop_zero];exact ACC (by simp)
  rw[m];rw[AAC (by simp)];have d:h.IsList t items:=(Lf g _).extBut a.extBut j;refine AAA (AAd (wpAny_pyNext_list_end k c d (by simp) λi f=> ?_));simp only[Option.isSome_none,AAf,AAX];refine AAE (hQ i λb o hb e=>f b o hb (a.extBut b o hb (AAH _ e)))
def Jg {env:Env}{elts:km kc}{x1}{pos:Pos}{t:ke}{items:Array kj}{Q:Unit->ki->Prop}(a:A.handled=none)(b:s.heap.IsList t items)(c:(assignEach elts env).length=items.size)(d:(assignEach elts env).findIdx? (·.1)=none)(h:∀h',Heap.ExtBut s.heap.objs.size s.heap h'->wpAny (model prog w) A (assignInOrder ((assignEach elts env).map (·.2)) items.toList) Q E {s with heap:=h'}):wpAny (model prog w) A (assign (.Tuple elts x1 pos) env (.ref t)) Q E s:=by rw[assign_Tuple];refine AAA (ABw ?_);unfold unpack;rw[c,d];exact AAA (AAd (LU a b h))
end
section
variable {X:Cx}{pos:Pos}
def PM (K:AAB)(n:Nat)(t:VG):TG:=λv b H Q=>∃a xs,v= .ref a/\(KJ K H a xs\/FJ K H a xs)/\xs.length=n/\t xs b H Q
def N7 {es:km kc}{k:Nat}{t:VG}{n:Nat}(hc:X.calm=true)(h:n9 X es t)(j:(assignEach es X.env).length=n:=by rfl)(l:(assignEach es X.env).findIdx? (·.1)=none:=by rfl):PG X (.Tuple es k pos) (PM X.K n t):=by
 intro c s d H v u Q I r hw;obtain⟨a,xs,m,hq,hl,hw⟩:=hw;subst m;cases r;rcases hq with hq|hq
 .obtain ⟨f,rv,g,hz⟩:=I.tuple hq;refine assign_Tuple_tuple (I.ok.hd hc) g (by simp[j,<-hl,rv.length]) l λh' hx=> ?_;have i:Inv X c d H {s with heap:=h'}:=I.kept (t':=s.toks) λb o e=>hx b o (AAM (AAG e)) e;exact h c _ d H xs _ Q i (by simpa using rv) hw
 .obtain ⟨f,rv,g,hz⟩:=I.list hq;refine Jg (I.ok.hd hc) g.isList (by simp[j,<-hl,rv.length]) l λh' hx=> ?_;have i:Inv X c d H {s with heap:=h'}:=I.kept (t':=s.toks) λb o e=>hx b o (AAM (AAG e)) e;exact h c _ d H xs _ Q i (by simpa using rv) hw
def IJ (n:Nat)(r:Ux):AG:=λx τ Q=>Oo x λxs=>xs.length=n/\r xs τ Q
def dw {K:AAB}{n:Nat}{c:VG}{a:Ux}(s:Pu K c a):Q3 K (PM K n c) (IJ n a):=λB T d τ H v x Q e f r h k=>by
 obtain⟨xs,hx,h⟩:=HK h;rcases hx with rfl|rfl
 .obtain ⟨p,vs,rfl,hq,b⟩:=Ea r;exact⟨p,vs,rfl, .inl hq,by rw[b.length];exact h.1,s B T d τ H vs _ Q e f b h.2 k⟩
 .obtain ⟨p,vs,rfl,hq,g,nm,b⟩:=C7 r;exact⟨p,vs,rfl, .inr (.inl (.inl hq)),by rw[b.length];exact h.1,s B T d τ H vs _ Q e f b h.2 k⟩
def EG {es:km kc}{k:Nat}{a:Ux}{n:Nat}(hc:X.calm=true)(h:rf X es a)(b:(assignEach es X.env).length=n:=by rfl)(c:(assignEach es X.env).findIdx? (·.1)=none:=by rfl):SG X (.Tuple es k pos) (IJ n a):=
 let ⟨_,p,s⟩:=h;⟨_,N7 hc p b c,dw s⟩
def bT {own:Nat}{K:AAB}{n:Nat}{t:VG}(h:NP own t):NO own (PM K n t):=λv b H Q ⟨a,xs,e,h1,h2,h3⟩=>⟨a,xs,e,h1,h2,h xs b H Q h3⟩
def Fs {own:Nat}{es:km kc}{k:Nat}{b:Ux}{n:Nat}(hc:X.calm=true)(h:rg own X es b)(c:(assignEach es X.env).length=n:=by rfl)(d:(assignEach es X.env).findIdx? (·.1)=none:=by rfl):SK own X (.Tuple es k pos) (IJ n b):=
 let ⟨_,p,s,f,m⟩:=h;⟨_,N7 hc p c d,dw s,bT f,λv g H Q i z ⟨a,xs,e,h1,h2,h3⟩=>⟨a,xs,e,h1,h2,m _ _ _ _ _ z h3⟩⟩
def lJ:j7 X .Mult (λx y H Q=>∃i j,x= .int i/\y= .int j/\MulOk i j/\Q (.int (i*j)) H):=by intro f s g H x y v u Q I a b h;obtain⟨i,j,d,e,c,q⟩:=h;subst d;subst e;obtain⟨t,rfl⟩:=a;obtain⟨t',rfl⟩:=b;exact AutoIntOps.imul_0 (show (Made.int (i*j)).post _ _ from⟨.int _,H,I.tok _,⟨_,rfl⟩,q⟩) (.of_le (Hj c.l) (Hj c.r) (by decide))
def nL:j7 X .Mult (λx y H Q=>∃i j,x= .int i/\y= .int j/\MulOk i j/\Q (.int (i*j)) H)/\CC X.K (λx y H Q=>∃i j,x= .int i/\y= .int j/\MulOk i j/\Q (.int (i*j)) H) DV:=⟨lJ,λT M H u v x y Q b va a rv h k=>by
 obtain⟨i,j,rfl,rfl,c,q⟩:=Md h;exact⟨i,j,a.toI,rv.toI,c,k _ _ T H (.refl va.tp) (.int _) q⟩⟩
end
def Oa {i:Int}(a:0<=i)(b:i<2147483647): -(2^64)<i/\i<2^64:=⟨by omega,by omega⟩
def zl (b:gn):(0:Int)<=(if b=true then 1 else 0):=by cases b <;> decide
def wY (b:gn): -(2^64)<(if b=true then (1:Int) else 0)/\(if b=true then (1:Int) else 0)<2^64:=by cases b <;> decide
def eM {T:ke->Prop}{H:Hp}{p:ke}{d x:Int}(tp:∀a,T a->Fg H a)(t:T p)(c:0<=d)(f:0<=x)(g:x<2147483647):DK T H T (upd H p (.lst [.int d, .int x])) where
 keep:=λb o n e=>by rw[Af (λz=>n (by subst z;exact t))];exact e
 sub:=λ_ t=>t
 new:=λ_ t=> .inl t
 tp:=λa h=>by
  by_cases z:a=p
  .subst z;exact⟨d,x,Ab,c,f,g⟩
  .obtain ⟨d',i,e,q⟩:=tp a h;exact⟨d',i,by rw[Af z];exact e,q⟩
def eJ {T:ke->Prop}{H:Hp}{p:ke}{d x:Int}(tp:∀a,T a->Fg H a)(hp:H p=none)(f:0<=d)(g:0<=x)(h:x<2147483647):DK T H (λb=>T b\/b=p) (upd H p (.lst [.int d, .int x])) where
 keep:=λb o n e=>by rw[Af (Aq e hp)];exact e
 sub:=λ_ t=> .inl t
 new:=λb t=>t.elim .inl λz=> .inr (by subst z;exact hp)
 tp:=λa c=>by
  by_cases z:a=p
  .subst z;exact⟨d,x,Ab,f,g,h⟩
  .rcases c with c|c
   .obtain ⟨d',i,e,q⟩:=tp a c;exact⟨d',i,by rw[Af z];exact e,q⟩
   .exact absurd c z
def law_sp {K:AAB}{H:Hp}{a:ke}{b:km Int}{F:AF}(c:FJ K H a (b.map V.int))(h:F [.scr b] λx=>x= .bl true):CS K 1 F [.ref a] H (λv _=>v= .bl true) λ_ _ _=>False:=by
 refine⟨λ_=>False,λ_=>False, [.scr b],_,⟨λ_ z=>z.elim,λ_ z=>z.elim⟩,λ_ z=>z.elim, .cons (.scr ?_) .nil,rfl,h,λv x d f _ r e=> ?_⟩
 .rcases c with h|h
  .exact .inl ⟨h,id,id⟩
  .exact .inr λH=> .inr h
 .subst e;cases r;rfl
theorem Hm {g:AG}{b:AS}{D:Gc}(a:km PV->BL->Prop)(hd:∀τ,a [] τ->D.nx τ)(hs:∀x r τ (R:BL->Prop),(∀τ,a r τ->R τ)->a (x::r) τ->g x τ λc=>b {D with nx:=R,ct:=R,bk:=D.nx} c):∀xs τ,a xs τ->EO g b D xs τ
 | [],τ,h=>hd τ h
 | x::r,τ,h=>hs x r τ _ (λd h2=>Hm a hd hs r d h2) h
theorem XI {g:AG}{t:AT}{f:AE}{b:BL}{Q:km PV->Prop}(c:km PV->km PV->Prop)(hd:∀a,c [] a->Q a)(hs:∀x r a (R:km PV->Prop),(∀a,c r a->R a)->c (x::r) a->g x b λd=>t d λok=>if ok=true then f d λy=>R (a ++ [y]) else R a):∀xs a,c xs a->Cy g t f b Q xs a
 | [],a,h=>hd a h
 | x::r,a,h=>hs x r a _ (λe h2=>XI c hd hs r e h2) h
theorem Wx {c:AT}{b:AS}{D:Gc}(a:Nat->BL->Prop)(e:∀τ,¬a 0 τ)(hs:∀n τ (R:BL->Prop),(∀τ,a n τ->R τ)->a (n+1) τ->c (frz τ) λk=>if k=true then b {D with nx:=R,ct:=R,bk:=D.nx} τ else D.nx τ):∀n τ,a n τ->Ut c b D n τ
 | 0,τ,h=>absurd h (e τ)
 | n+1,τ,h=>hs n τ _ (λd h2=>Wx a e hs n d h2) h
def J4 (lo:Int)(n:Nat):rng lo (n+1)= .int lo::rng (lo+1) n:=by
 unfold rng;rw[List.range_succ_eq_map,AAP,ABq];congr 1
 .simp
 .apply AB2;intro k _;simp only[Function.comp];congr 1;omega
end PL
namespace PL
open PySem L2 PyProof.Rows
def fr (r:Rat):PV:= .tup [.int r.num, .int (r.den:Int)]
def Gr {b:gn}{A B:Prop}(h1:b=true->A)(h2:b=false->B):if b=true then A else B:=by
 cases b with
 | true=>rw[AAD rfl];exact h1 rfl
 | false=>rw[AAC AAO];exact h2 rfl
structure Bd (n:Nat) (r:Rat):Prop where
 top:r.num.natAbs<2^n
 bot:r.den<2^n
def Bd.botI {n:Nat}{r:Rat}(b:Bd n r):(r.den:Int).natAbs<2^n:=by simpa using b.bot
def N8 {m n:Nat}(h:m<=n):2^m<=2^n:=ACZ (by decide) h
def Bd.mono {m n:Nat}{r:Rat}(b:Bd m r)(h:m<=n):Bd n r:=⟨AAW b.top (N8 h),AAW b.bot (N8 h)⟩
def V5 {a b m n:Nat}(ha:a<2^m)(hb:b<2^n):a*b<2^(m+n):=by rw[Nat.pow_add];exact Nat.mul_lt_mul_of_lt_of_le ha (ACl hb) (Nat.pos_of_ne_zero (by intro z;rw[z] at hb;omega)) |> λh=>h
def Br {a b:Int}{m n:Nat}(ha:a.natAbs<2^m)(hb:b.natAbs<2^n):(a*b).natAbs<2^(m+n):=by rw[ACv];exact V5 ha hb
def XA {a b:Int}{n:Nat}(ha:a.natAbs<2^n)(hb:b.natAbs<2^n):(a+b).natAbs<2^(n+1):=by rw[Nat.pow_succ];omega
def YL {a b:Int}{n:Nat}(ha:a.natAbs<2^n)(hb:b.natAbs<2^n):(a-b).natAbs<2^(n+1):=by rw[Nat.pow_succ];omega
def BH {a m n:Nat}(h:a<2^m)(b:m<=n):a<2^n:=AAW h (N8 b)
def MulOk.of {a b:Int}{m n:Nat}(ha:a.natAbs<2^m)(hb:b.natAbs<2^n)(c:m<=1000000:=by omega)(d:n<=1000000:=by omega):MulOk a b:=⟨BH ha c,BH hb d⟩
def Vb (t b:Int):(Rat.divInt t b).num.natAbs<=t.natAbs:=by
 rw[ADe];by_cases h:b=0
 .subst h;simp
 .have e:(b.gcd t:Int) ∣ b.sign*t:=Int.dvd_trans (Int.gcd_dvd_right ..) (Int.dvd_mul_left ..);rw[Int.natAbs_ediv_of_dvd e,ACv];refine AAa (ACD _ _) ?_;rw[Int.natAbs_sign_of_ne_zero h];omega
def Va (t b:Int)(h:b≠0):(Rat.divInt t b).den<=b.natAbs:=by rw[AEM,AAC h];exact ACD _ _
def Bd.divInt {n:Nat}{t b:Int}(h:b≠0)(a:t.natAbs<2^n)(hb:b.natAbs<2^n):Bd n (Rat.divInt t b):=
 ⟨AAp (Vb t b) a,AAp (Va t b h) hb⟩
def Bl (a:Rat):(a.den:Int)≠0:=by have:=a.den_pos;omega
def Ij (a b:Rat):a+b=Rat.divInt (a.num*b.den+b.num*a.den) (a.den*b.den):=by have h:=AEN a.num b.num (Bl a) (Bl b);rw[ABX,ABX] at h;exact h
def JM (a b:Rat):a-b=Rat.divInt (a.num*b.den-b.num*a.den) (a.den*b.den):=by have h:=Rat.divInt_sub_divInt a.num b.num (Bl a) (Bl b);rw[ABX,ABX] at h;exact h
def Iv (a b:Rat):a*b=Rat.divInt (a.num*b.num) (a.den*b.den):=by have h:=AEO a.num b.num (d₁:=a.den) (d₂:=b.den);rw[ABX,ABX] at h;exact h
def Io (a b:Rat):a/b=Rat.divInt (a.num*b.den) (a.den*b.num):=by rw[ACa,Rat.inv_def];have h:=AEO a.num b.den (d₁:=a.den) (d₂:=b.num);rw[ABX] at h;exact h
def DL {a b:Int}(ha:a≠0)(hb:b≠0):a*b≠0:=Int.mul_ne_zero ha hb
def V6 {b:Rat}(h:b≠0):b.num≠0:=λz=>h (Rat.num_eq_zero.mp z)
def Bd.add {m n:Nat}{a b:Rat}(ha:Bd m a)(hb:Bd n b):Bd (m+n+1) (a+b):=by
 rw[Ij];refine .divInt (DL (Bl a) (Bl b)) (XA (Br ha.top (by simpa using hb.bot)) ?_) ?_
 .rw [AEF m n];exact Br hb.top (by simpa using ha.bot)
 .exact BH (Br (by simpa using ha.bot) (by simpa using hb.bot)) (by omega)
def Bd.sub {m n:Nat}{a b:Rat}(ha:Bd m a)(hb:Bd n b):Bd (m+n+1) (a-b):=by
 rw[JM];refine .divInt (DL (Bl a) (Bl b)) (YL (Br ha.top (by simpa using hb.bot)) ?_) ?_
 .rw [AEF m n];exact Br hb.top (by simpa using ha.bot)
 .exact BH (Br (by simpa using ha.bot) (by simpa using hb.bot)) (by omega)
def Bd.mul {m n:Nat}{a b:Rat}(ha:Bd m a)(hb:Bd n b):Bd (m+n) (a*b):=by rw[Iv];exact .divInt (DL (Bl a) (Bl b)) (Br ha.top hb.top) (Br (by simpa using ha.bot) (by simpa using hb.bot))
def Bd.div {m n:Nat}{a b:Rat}(h:b≠0)(ha:Bd m a)(hb:Bd n b):Bd (m+n) (a/b):=by rw[Io];exact .divInt (DL (Bl a) (V6 h)) (Br ha.top (by simpa using hb.bot)) (Br (by simpa using ha.bot) hb.top)
def Bd.neg {n:Nat}{a:Rat}(ha:Bd n a):Bd n (-a):=⟨by show (-a.num).natAbs<_;rw[ACb];exact ha.top,ha.bot⟩
def bO (n:Int):fr (n:Rat)= .tup [.int n, .int 1] :=by simp[fr]
def Bd.int {n:Int}{k:Nat}(h:n.natAbs<2^k)(hk:1<=k):Bd k (n:Rat):=⟨by simpa using h,by simp;omega⟩
def aH:AS:=
 (AZ (Kv (Al (AX Vc (aV 1) (aC (.int 0)))) (Yh 0 1 (AB (aV 1) (AB (AX bH (aV 0) (aV 1)) AL))))
   (Ao (aV 0)))
def G5:AF:=As 2 aH
def Lb (x y:Nat)(Q:PV->Prop)(h:Q (.int (Nat.gcd x y:Nat))):G5 [.int x, .int y] Q:=by
 have go:∀y x:Nat,∀D:Gc,D.nx [some (.val (.int (Nat.gcd x y:Nat))),some (.val (.int 0))] ->∃n,Ut (Al (AX Vc (aV 1) (aC (.int 0)))) (Yh 0 1 (AB (aV 1) (AB (AX bH (aV 0) (aV 1)) AL))) D n [some (.val (.int x)),some (.val (.int y))] :=by
  intro y;induction y using Nat.strongRecOn with
  | _ y ih=>
    intro x D c;by_cases hy:y=0
    .subst hy;refine⟨1, ?_⟩;rw[Nat.gcd_zero_right] at c;exact c
    .obtain ⟨n,a⟩:=ih (x % y) (Nat.mod_lt _ (by omega)) y D (by rw[ACc y,<-Nat.gcd_rec,ACc y];exact c);refine⟨n+1, ?_⟩;refine Gr (b:= !decide ((y:Int)=0)) (λ_=> ?_) (λz=> ?_)
     .have d:(x:Int).fmod (y:Int)=((x % y:Nat):Int):=by rw[AD6 _ (by omega)];simp
      refine⟨by omega, ?_⟩;rw[<-d] at a;exact a
     .have:(y:Int)=0:=by simpa using z
      omega
 obtain⟨n,a⟩:=go y x {nx:=λτ=>Ao (aV 0) {nx:=λ_=>Q .non,rt:=Q,bk:=λ_=>False,ct:=λ_=>False} τ,rt:=Q,bk:=λ_=>False,ct:=λ_=>False} h;exact⟨n,a⟩
def YS:AS:=
 (AZ (Bb (Al (AX XU (aV 1) (aC (.int 0)))) (Ak (MC E4 (aV 2)) (An 2)) BE)
   (Ao (Az (AB (AX RF (aV 0) (aV 2)) (AB (AX RF (aV 1) (aV 2)) AL)))))
def jw:AS:=
 (AZ (Ak (AN 2 G5 (AB (Ev Yx (AB (aV 0) AL)) (AB (Ev Yx (AB (aV 1) AL)) AL))) (An 2))
   YS)
def GI:AF:=As 3 jw
def cu (t b:Int)(hb:b≠0):∀s:Int,s=(if b<0 then -(Nat.gcd t.natAbs b.natAbs:Int) else (Nat.gcd t.natAbs b.natAbs:Int))->s≠0/\t.fdiv s=(Rat.divInt t b).num/\b.fdiv s=((Rat.divInt t b).den:Int):=by
 intro s hs;have g:0<Nat.gcd t.natAbs b.natAbs:=ACd _ (by omega);have f:b.gcd t=Nat.gcd t.natAbs b.natAbs:=by rw[AEp,ACc]
 have a:(Nat.gcd t.natAbs b.natAbs:Int) ∣ t:=by rw[<-Int.dvd_natAbs];exact Int.ofNat_dvd.mpr (Nat.gcd_dvd_left ..)
 have c:(Nat.gcd t.natAbs b.natAbs:Int) ∣ b:=by rw[<-Int.dvd_natAbs];exact Int.ofNat_dvd.mpr (ACw ..)
 have d:s ∣ t:=by rw[hs];split <;> first | exact Int.neg_dvd.mpr a|exact a
 have e:s ∣ b:=by rw[hs];split <;> first | exact Int.neg_dvd.mpr c|exact c
 refine⟨by rw[hs];split <;> omega, ?_, ?_⟩
 .rw [AEq d,ADe,f,hs];by_cases h:b<0
  .rw [AAD h,AEr h,Int.ediv_neg];have:(-1:Int)*t= -t:=by omega
   rw[this,Int.neg_ediv_of_dvd a]
  .rw [AAC h,AEP (by omega),Int.one_mul]
 .rw [AEq e,AEM,AAC hb,f,hs];by_cases h:b<0
  .rw [AAD h,Int.ediv_neg];have:(b.natAbs:Int)= -b:=by omega
   rw[ACE,this,Int.neg_ediv_of_dvd c]
  .rw [AAC h];have:(b.natAbs:Int)=b:=by omega
   rw[ACE,this]
def D6 (t b:Int)(hb:b≠0)(f:b.natAbs<2^8900)(Q:PV->Prop)(h:Q (fr (Rat.divInt t b))):GI [.int t, .int b] Q:=by
 have g:0<Nat.gcd t.natAbs b.natAbs:=ACd _ (by omega);have gl:Nat.gcd t.natAbs b.natAbs<2^8900:=AAp (ADf (by omega) (ACw ..)) f;obtain⟨a,c,d⟩:=cu t b hb _ rfl;refine⟨rfl,Lb _ _ _ ?_⟩;refine Gr (b:=decide (b<0)) (λz=> ?_) (λz=> ?_)
 .have e:b<0:=ABi z;rw[AAD e] at a c d;refine⟨⟨a,by rw[ACb];exact gl⟩,⟨a,by rw[ACb];exact gl⟩,(show 2<=sizeLine by decide), ?_⟩;unfold fr at h;rw[<-c,<-d] at h;exact h
 .have e:¬b<0:=ABj z;rw[AAC e] at a c d;refine⟨⟨a,gl⟩,⟨a,gl⟩,(show 2<=sizeLine by decide), ?_⟩;unfold fr at h;rw[<-c,<-d] at h;exact h
def Bd.mt {n:Nat}{a b:Rat}(ha:Bd 4000 a)(hb:Bd 4000 b):MulOk a.num b.den/\MulOk b.num a.den/\MulOk a.den b.den/\MulOk a.num b.num/\MulOk a.den b.num:=
 ⟨.of ha.top (by simpa using hb.bot), .of hb.top (by simpa using ha.bot), .of (by simpa using ha.bot) (by simpa using hb.bot), .of ha.top hb.top, .of (by simpa using ha.bot) hb.top⟩
def P4 {a b:Rat}(ha:Bd 4000 a)(hb:Bd 4000 b):((a.den:Int)*(b.den:Int)).natAbs<2^8900:=BH (Br (a:=(a.den:Int)) (by simpa using ha.bot) (by simpa using hb.bot)) (by omega)
def jx:AS:=
 (Ao (AN 2 GI (AB (AX A4 (AX DV (AX Aj (aV 0) (aC (.int 0))) (AX Aj (aV 1) (aC (.int 1)))) (AX DV (AX Aj (aV 1) (aC (.int 0))) (AX Aj (aV 0) (aC (.int 1))))) (AB (AX DV (AX Aj (aV 0) (aC (.int 1))) (AX Aj (aV 1) (aC (.int 1)))) AL))))
def Ce:AF:=As 2 jx
def Cd {a b:Rat}(ha:Bd 4000 a)(hb:Bd 4000 b){Q:PV->Prop}(h:Q (fr (a+b))):Ce [fr a,fr b] Q:=by obtain⟨m1,m2,m3,_⟩:=Bd.mt (n:=0) ha hb;refine⟨m1,m2,m3,rfl,D6 _ _ (DL (Bl a) (Bl b)) (P4 ha hb) _ ?_⟩;rw[Ij] at h;exact h
def fT:AS:=
 (Ao (AN 2 GI (AB (AX IK (AX DV (AX Aj (aV 0) (aC (.int 0))) (AX Aj (aV 1) (aC (.int 1)))) (AX DV (AX Aj (aV 1) (aC (.int 0))) (AX Aj (aV 0) (aC (.int 1))))) (AB (AX DV (AX Aj (aV 0) (aC (.int 1))) (AX Aj (aV 1) (aC (.int 1)))) AL))))
def DY:AF:=As 2 fT
def D5 {a b:Rat}(ha:Bd 4000 a)(hb:Bd 4000 b){Q:PV->Prop}(h:Q (fr (a-b))):DY [fr a,fr b] Q:=by obtain⟨m1,m2,m3,_⟩:=Bd.mt (n:=0) ha hb;refine⟨m1,m2,m3,rfl,D6 _ _ (DL (Bl a) (Bl b)) (P4 ha hb) _ ?_⟩;rw[JM] at h;exact h
def fU:AS:=
 (Ao (AN 2 GI (AB (AX DV (AX Aj (aV 0) (aC (.int 0))) (AX Aj (aV 1) (aC (.int 0)))) (AB (AX DV (AX Aj (aV 0) (aC (.int 1))) (AX Aj (aV 1) (aC (.int 1)))) AL))))
def FS:AF:=As 2 fU
def NN {a b:Rat}(ha:Bd 4000 a)(hb:Bd 4000 b){Q:PV->Prop}(h:Q (fr (a*b))):FS [fr a,fr b] Q:=by obtain⟨_,_,m3,m4,_⟩:=Bd.mt (n:=0) ha hb;refine⟨m4,m3,rfl,D6 _ _ (DL (Bl a) (Bl b)) (P4 ha hb) _ ?_⟩;rw[Iv] at h;exact h
def jv:AS:=
 (Ao (AN 2 GI (AB (AX DV (AX Aj (aV 0) (aC (.int 0))) (AX Aj (aV 1) (aC (.int 1)))) (AB (AX DV (AX Aj (aV 0) (aC (.int 1))) (AX Aj (aV 1) (aC (.int 0)))) AL))))
def Qz:AF:=As 2 jv
def Pt {a b:Rat}(c:b≠0)(ha:Bd 4000 a)(hb:Bd 4000 b){Q:PV->Prop}(h:Q (fr (a/b))):Qz [fr a,fr b] Q:=by obtain⟨m1,_,_,_,m5⟩:=Bd.mt (n:=0) ha hb;refine⟨m1,m5,rfl,D6 _ _ (DL (Bl a) (V6 c)) (BH (Br (a:=(a.den:Int)) (by simpa using ha.bot) hb.top) (by omega)) _ ?_⟩;rw[Io] at h;exact h
def Mr:AS:=
 (AZ (Ak (AX IK (aC (.int 1)) (AX DV (aC (.int 2)) (Ev Yy (AB (AX XU (aV 1) (aC (.int 0))) AL)))) (An 2))
   (Ao (Az (AB (AX RF (AX DV (aV 2) (aV 0)) (aV 3)) (AB (AX RF (AX DV (aV 2) (aV 1)) (aV 3)) AL)))))
def Mq:AS:=
 (AZ (Kv (Al (AX Z7 (aV 4) (aC (.int 0)))) (Yh 3 4 (AB (aV 4) (AB (AX bH (aV 3) (aV 4)) AL))))
   Mr)
def Sc:AS:=
 (AZ (Yh 3 4 (AB (Ev Yx (AB (aV 0) AL)) (AB (Ev Yx (AB (aV 1) AL)) AL)))
   Mq)
def A5:AF:=As 5 Sc
def RY (t b:Int)(hb:b≠0):∀s:Int,s=(if b<0 then -1 else 1)->(s*t).fdiv (Nat.gcd t.natAbs b.natAbs:Int)=(Rat.divInt t b).num/\(s*b).fdiv (Nat.gcd t.natAbs b.natAbs:Int)=((Rat.divInt t b).den:Int):=by
 intro s hs;have c:0<Nat.gcd t.natAbs b.natAbs:=ACd _ (by omega);have a:b.gcd t=Nat.gcd t.natAbs b.natAbs:=by rw[AEp,ACc]
 have es:b.sign=s:=by
  rw[hs];split
  .rename_i h;exact AEr h
  .exact AEP (by omega)
 rw[ADe,AEM,AAC hb,a,es,AB1 _ (by omega),AB1 _ (by omega)];refine⟨rfl, ?_⟩;rw[ACE];congr 1;rw[hs];split <;> omega
def Be (t b:Int)(hb:b≠0)(i:t.natAbs<2^900000)(d:b.natAbs<2^8900){Q:PV->Prop}(h:Q (fr (Rat.divInt t b))):A5 [.int t, .int b] Q:=by
 have k:0<Nat.gcd t.natAbs b.natAbs:=ACd _ (by omega);have gl:Nat.gcd t.natAbs b.natAbs<2^8900:=AAp (ADf (by omega) (ACw ..)) d;have e:(1:Int)-2*(if decide (b<0)=true then 1 else 0)=(if b<0 then -1 else 1):=by by_cases z:b<0 <;> simp[z]
 obtain⟨j,a⟩:=RY t b hb _ e;have go:∀y x:Nat,∀D:Gc,∀u v w,D.nx [u,v,w,some (.val (.int (Nat.gcd x y:Nat))),some (.val (.int 0))] ->∃n,Ut (Al (AX Z7 (aV 4) (aC (.int 0)))) (Yh 3 4 (AB (aV 4) (AB (AX bH (aV 3) (aV 4)) AL))) D n [u,v,w,some (.val (.int x)),some (.val (.int y))] :=by
  intro y;induction y using Nat.strongRecOn with
  | _ y ih=>
    intro x D u v w c;by_cases hy:y=0
    .subst hy;refine⟨1, ?_⟩;rw[Nat.gcd_zero_right] at c;exact c
    .obtain ⟨n,f⟩:=ih (x % y) (Nat.mod_lt _ (by omega)) y D u v w (by rw[ACc y,<-Nat.gcd_rec,ACc y];exact c);refine⟨n+1, ?_⟩;refine Gr (b:=decide (0<(y:Int))) (λ_=> ?_) (λz=> ?_)
     .have a:(x:Int).fmod (y:Int)=((x % y:Nat):Int):=by rw[AD6 _ (by omega)];simp
      refine⟨by omega, ?_⟩;rw[<-a] at f;exact f
     .have:¬(0:Int)<y:=ABj z;omega
 refine go b.natAbs t.natAbs _ (some (.val (.int t))) (some (.val (.int b))) none ?_;have one:(1:Int).natAbs<2^1:=by decide
 have g:((1:Int)-2*(if decide (b<0)=true then 1 else 0)).natAbs<2^1:=by rw[e];split <;> decide
 refine⟨.of (m:=2) (n:=1) (by decide) (by split <;> decide), .of g i,⟨by omega,gl⟩, .of g d,⟨by omega,gl⟩,(show 2<=sizeLine by decide), ?_⟩;unfold fr at h;rw[<-j,<-a] at h;exact h
def DB {m:Int}{Q:PV->Prop}(m0:0<m)(m1:m<4611686018427387904)(h:∀r,0<=r->r<m->Q (.int r)):BA [.tape, .int m] Q:=⟨⟨m0,m1⟩,h⟩
mutual
def okS:Nat->PV->gn
 | 0,_=>false
 | _+1, .non=>true
 | _+1, .bl _=>true
 | _+1, .int _=>true
 | n+1, .tup xs=>qJ n xs&&decide (xs.length<sizeLine)
 | _+1,_=>false
def qJ:Nat->km PV->gn
 | _, [] =>true
 | n,x::xs=>okS n x&&qJ n xs
end
def i3 {t:Int}{n:Nat}(h:t.natAbs<2^n)(a:n<=900000:=by omega):t.natAbs<2^900000:=BH h a
section
variable {a b:Rat}{Q:PV->Prop}
theorem lW (ha:Bd 4000 a)(hb:Bd 4000 b)(h:Q (fr (a+b))):A5 [.int (a.num*b.den+b.num*a.den), .int (a.den*b.den)] Q:=
 Be _ _ (DL (Bl a) (Bl b)) (i3 (XA (n:=8000) (Br ha.top hb.botI) (Br hb.top ha.botI))) (P4 ha hb) (by rw[<-Ij];exact h)
theorem lZ (ha:Bd 4000 a)(hb:Bd 4000 b)(h:Q (fr (a-b))):A5 [.int (a.num*b.den-b.num*a.den), .int (a.den*b.den)] Q:=
 Be _ _ (DL (Bl a) (Bl b)) (i3 (YL (n:=8000) (Br ha.top hb.botI) (Br hb.top ha.botI))) (P4 ha hb) (by rw[<-JM];exact h)
theorem lY (ha:Bd 4000 a)(hb:Bd 4000 b)(h:Q (fr (a*b))):A5 [.int (a.num*b.num), .int (a.den*b.den)] Q:=
 Be _ _ (DL (Bl a) (Bl b)) (i3 (Br ha.top hb.top)) (P4 ha hb) (by rw[<-Iv];exact h)
theorem lX (c:b≠0)(ha:Bd 4000 a)(hb:Bd 4000 b)(h:Q (fr (a/b))):A5 [.int (a.num*b.den), .int (a.den*b.num)] Q:=
 Be _ _ (DL (Bl a) (V6 c)) (i3 (Br ha.top (by simpa using hb.bot))) (BH (Br (a:=(a.den:Int)) (by simpa using ha.bot) hb.top) (by omega)) (by rw[<-Io];exact h)
end
def SY {n:Int}{Q:PV->Prop}(h:Q (fr (n:Rat))):Q (.tup [.int n, .int 1]):=by rw[<-bO];exact h
def Bd.part {t b:Int}{n:Nat}(h:b≠0)(a:t.natAbs<2^n)(hb:b.natAbs<2^n):Bd n (Rat.divInt t b):= .divInt h a hb
def lz {a b:Nat}(h:Nat.ble a b=true:=by rfl):a<=b:=AAj h
structure Sh (d n:Nat) (x:PV):Prop where
 ok:C2 d x=true
 sh:(pd x).showable=true
 sz:(pd x).shown.length<=n
mutual
theorem Ny:∀{d e:Nat} (x:PV),d<=e->C2 d x=true->C2 e x=true
 | _,_, .non,_,_=>by simp[C2]
 | _,_, .bl _,_,_=>by simp[C2]
 | _,_, .int _,_,_=>by simp[C2]
 | _,_, .str x,_,h=>by simpa[C2] using h
 | 0,_, .tup xs,_,h=>by simp[C2] at h
 | 0,_, .lst xs,_,h=>by simp[C2] at h
 | d+1,0, .tup xs,h,_=>by omega
 | d+1,0, .lst xs,h,_=>by omega
 | d+1,e+1, .tup xs,h,k=>by simp only[C2] at k ⊢;exact LA xs (by omega) k
 | d+1,e+1, .lst xs,h,k=>by simp only[C2] at k ⊢;exact LA xs (by omega) k
 | _,_, .tape,_,h=>by simp[C2] at h
 | _,_, .scr _,_,h=>by simp[C2] at h
 | _,_, .dct _,_,h=>by simp[C2] at h
 | _,_, .dk _,_,h=>by simp[C2] at h
 | _,_, .ty _,_,h=>by simp[C2] at h
theorem LA:∀{d e:Nat} (xs:km PV),d<=e->Fh d xs=true->Fh e xs=true
 | _,_, [],_,_=>by simp[Fh]
 | _,_,x::xs,h,k=>by simp only[Fh,AAo] at k ⊢;exact⟨Ny x h k.1,LA xs h k.2⟩
end
def Sh.mono {d n e m:Nat}{x:PV}(s:Sh d n x)(h1:d<=e)(h2:n<=m):Sh e m x:=⟨Ny x h1 s.ok,s.sh,AAa s.sz h2⟩
def Sh.go {d n:Nat}{x:PV}(s:Sh d n x)(h1:d<=30:=by omega)(h2:n<=16777216:=by omega):j9 x:=⟨Ny x h1 s.ok,s.sh,AAa s.sz h2⟩
def Sh.int {i:Int}(h:i.natAbs<2^1900):Sh 0 1902 (.int i):=by
 refine⟨rfl, ?_, ?_⟩
 .show decide (i.natAbs.log2<1920)=true;exact AAi (ADQ (Ju h (by decide)) (by decide))
 .show (Str.ofString (toString i)).length<=1902;rw[PySem.ofString_length];exact AAa (int_text_length_le (k:=1900) (by decide) (Ju h (by decide))) (by decide)
theorem Jv {d:Nat}:∀{xs:km PV},(∀x∈xs,C2 d x=true)->Fh d xs=true
 | [],_=>rfl
 | x::xs,h=>by simp only[Fh,AAo];exact⟨h x (by simp),Jv λy hy=>h y (by simp[hy])⟩
theorem WX:∀{xs:km PV},(∀x∈xs,(pd x).showable=true)->PyData.showableAll (Op xs)=true
 | [],_=>rfl
 | x::xs,h=>by simp only[Op,PyData.showableAll,AAo];exact⟨h x (by simp),WX λy hy=>h y (by simp[hy])⟩
theorem SV {n:Nat}:∀{xs:km PV},(∀x∈xs,(pd x).shown.length<=n)->((PyData.shownAll (Op xs)).map (·.length)).sum<=xs.length*n
 | [],_=>by simp[Op,PyData.shownAll]
 | x::xs,h=>by simp only[Op,PyData.shownAll,AAP,ACx,AAc];have h1:=h x (by simp);have h2:=SV (n:=n) (xs:=xs) λy hy=>h y (by simp[hy]);rw[ADO];omega
theorem GX:∀(xs:km PV),(PyData.shownAll (Op xs)).length=xs.length
 | [] =>rfl
 | x::xs=>by simp[Op,PyData.shownAll,GX xs]
def Sh.tup {d n:Nat}{xs:km PV}(h:∀x∈xs,Sh d n x):Sh (d+1) (xs.length*(n+2)+3) (.tup xs):=by refine⟨by simp only[C2];exact Jv λx hx=>(h x hx).ok,by simp only[pd,PyData.showable];exact WX λx hx=>(h x hx).sh, ?_⟩;have h1:=SV (n:=n) (xs:=xs) λx hx=>(h x hx).sz;have h2:=tupleText_len_le (PyData.shownAll (Op xs));rw[GX] at h2;simp only[pd,PyData.shown];rw[Nat.mul_add];omega
def Sh.lst {d n:Nat}{xs:km PV}(h:∀x∈xs,Sh d n x):Sh (d+1) (xs.length*(n+2)+3) (.lst xs):=by refine⟨by simp only[C2];exact Jv λx hx=>(h x hx).ok,by simp only[pd,PyData.showable];exact WX λx hx=>(h x hx).sh, ?_⟩;have h1:=SV (n:=n) (xs:=xs) λx hx=>(h x hx).sz;have h2:=listText_len_le (PyData.shownAll (Op xs));rw[GX] at h2;simp only[pd,PyData.shown];rw[Nat.mul_add];omega
def uo {c:Type}{P:c->Prop}{a b:c}(ha:P a)(hb:P b):∀x∈ [a,b],P x:=λx hx=>by
 simp only[AAF,AA1,AA2] at hx;rcases hx with rfl|rfl
 .exact ha
 .exact hb
def qG {d:Type}{P:d->Prop}{a b c:d}(ha:P a)(hb:P b)(hc:P c):∀x∈ [a,b,c],P x:=λx hx=>by
 simp only[AAF,AA1,AA2] at hx;rcases hx with rfl|rfl|rfl
 .exact ha
 .exact hb
 .exact hc
def qH {e:Type}{P:e->Prop}{a b c d:e}(ha:P a)(hb:P b)(hc:P c)(hd:P d):∀x∈ [a,b,c,d],P x:=λx hx=>by
 simp only[AAF,AA1,AA2] at hx;rcases hx with rfl|rfl|rfl|rfl
 .exact ha
 .exact hb
 .exact hc
 .exact hd
def Sh.fr {r:Rat}(h:Bd 1900 r):Sh 1 4000 (fr r):=(Sh.tup (uo (Sh.int h.top) (Sh.int h.botI))).mono (by omega) lz
def bF (a b:Rat):kU (fr a) (fr b)=decide (a=b):=by
 show (PyData.eqvAll [.int a.num, .int a.den] [.int b.num, .int b.den])=_;simp only[PyData.eqvAll,PyData.eqv];by_cases h:a=b
 .subst h;simp
 .have:¬(a.num=b.num/\(a.den:Int)=b.den):=λz=>h (Rat.ext z.1 (by omega));rw[AAS h];simp only[Bool.and_true,Bool.and_eq_false_iff,ACL];by_cases h1:a.num=b.num
  .exact .inr λz=>this ⟨h1,z⟩
  .exact .inl h1
def Xr (d:Nat)(a:Rat):C2 (d+1) (fr a)=true:=rfl
def jW {a b:Rat}:decide (a.num*(b.den:Int)<b.num*(a.den:Int))=decide (a<b):=by rw[ADg];exact(Rat.lt_iff a b).symm
def aG:AS:=
 (Ao (AX XU (AX DV (AX Aj (aV 0) (aC (.int 0))) (AX Aj (aV 1) (aC (.int 1)))) (AX DV (AX Aj (aV 1) (aC (.int 0))) (AX Aj (aV 0) (aC (.int 1))))))
def Ai:AF:=As 2 aG
section
variable {a b:Rat}{Q:PV->Prop}
theorem Cu (ha:Bd 4000 a)(hb:Bd 4000 b)(h:Q (.bl (decide (a<b)))):Ai [fr a,fr b] Q:=by obtain⟨m1,m2,_⟩:=Bd.mt (n:=0) ha hb;refine⟨m1,m2, ?_⟩;rw[<-jW] at h;exact h
def Uz:AS:=
 (Ao (AN 2 A5 (AB (AX A4 (AX DV (AX Aj (aV 0) (aC (.int 0))) (AX Aj (aV 1) (aC (.int 1)))) (AX DV (AX Aj (aV 1) (aC (.int 0))) (AX Aj (aV 0) (aC (.int 1))))) (AB (AX DV (AX Aj (aV 0) (aC (.int 1))) (AX Aj (aV 1) (aC (.int 1)))) AL))))
def A8:AF:=As 2 Uz
theorem DQ (ha:Bd 4000 a)(hb:Bd 4000 b)(h:Q (fr (a+b))):A8 [fr a,fr b] Q:=by obtain⟨m1,m2,m3,_⟩:=Bd.mt (n:=0) ha hb;exact⟨m1,m2,m3,rfl,lW ha hb h⟩
def Uy:AS:=
 (Ao (AN 2 A5 (AB (AX IK (AX DV (AX Aj (aV 0) (aC (.int 0))) (AX Aj (aV 1) (aC (.int 1)))) (AX DV (AX Aj (aV 1) (aC (.int 0))) (AX Aj (aV 0) (aC (.int 1))))) (AB (AX DV (AX Aj (aV 0) (aC (.int 1))) (AX Aj (aV 1) (aC (.int 1)))) AL))))
def Bu:AF:=As 2 Uy
theorem Cc (ha:Bd 4000 a)(hb:Bd 4000 b)(h:Q (fr (a-b))):Bu [fr a,fr b] Q:=by obtain⟨m1,m2,m3,_⟩:=Bd.mt (n:=0) ha hb;exact⟨m1,m2,m3,rfl,lZ ha hb h⟩
def My:AS:=
 (Ao (AN 2 A5 (AB (AX DV (AX Aj (aV 0) (aC (.int 0))) (AX Aj (aV 1) (aC (.int 0)))) (AB (AX DV (AX Aj (aV 0) (aC (.int 1))) (AX Aj (aV 1) (aC (.int 1)))) AL))))
def Bf:AF:=As 2 My
theorem Ci (ha:Bd 4000 a)(hb:Bd 4000 b)(h:Q (fr (a*b))):Bf [fr a,fr b] Q:=by obtain⟨m1,m2,m3,m4,_⟩:=Bd.mt (n:=0) ha hb;exact⟨m4,m3,rfl,lY ha hb h⟩
def Qe:AS:=
 (Ao (AN 2 A5 (AB (AX DV (AX Aj (aV 0) (aC (.int 0))) (AX Aj (aV 1) (aC (.int 1)))) (AB (AX DV (AX Aj (aV 0) (aC (.int 1))) (AX Aj (aV 1) (aC (.int 0)))) AL))))
def B6:AF:=As 2 Qe
theorem Gf (c:b≠0)(ha:Bd 4000 a)(hb:Bd 4000 b)(h:Q (fr (a/b))):B6 [fr a,fr b] Q:=by obtain⟨m1,m2,m3,m4,m5⟩:=Bd.mt (n:=0) ha hb;exact⟨m1,m5,rfl,lX c ha hb h⟩
end
def tY {t b:Int}(a:0<t)(hb:0<b):0<Rat.divInt t b:=by
 rw[Rat.lt_iff];have h1:=ADe t b;show (0:Int)*_<_*1;rw[Int.zero_mul,Int.mul_one,h1,AEP hb,Int.one_mul];have g:0<(b.gcd t:Int):=by have:=Int.gcd_pos_of_ne_zero_left t (show b≠0 by omega);omega
 exact Int.ediv_pos_of_pos_of_dvd a (by omega) (Int.gcd_dvd_right ..)
def JL {t b:Int}{Q:PV->Prop}(k:Nat)(hb:b≠0)(a:t.natAbs<2^k)(c:b.natAbs<2^k)(hk:k<=2000)(h:Bd k (Rat.divInt t b)->Q (fr (Rat.divInt t b))):A5 [.int t, .int b] Q:=
 Be t b hb (BH a (by omega)) (BH c (by omega)) (h (.part hb a c))
def Mul (D N:Nat)(a:Rat):Prop:=0<D/\∃k:Int,a=Rat.divInt k D/\k.natAbs<=N
def Mul.bd {D N n:Nat}{a:Rat}(h:Mul D N a)(h1:N<2^n)(h2:D<2^n):Bd n a:=by obtain⟨b,k,rfl,hk⟩:=h;exact .divInt (by omega) (by omega) (by simpa using h2)
def Mul.part {t b:Int}{c:Nat}(hb:0<b)(hc:0<c){N:Nat}(h:(t*c).natAbs<=N):Mul (b.toNat*c) N (Rat.divInt t b):=by
 refine⟨Nat.mul_pos (by omega) hc,t*c, ?_,h⟩;have e:((b.toNat*c:Nat):Int)=b*c:=by rw[ADh];congr 1;omega
 rw[e,(ADi (by omega) (DL (by omega) (by omega)))];rw[Int.mul_comm b,ADj]
def Mul.add {D N M:Nat}{a b:Rat}(ha:Mul D N a)(hb:Mul D M b):Mul D (N+M) (a+b):=by obtain⟨c,k,rfl,hk⟩:=ha;obtain⟨_,l,rfl,hl⟩:=hb;refine⟨c,k+l, ?_,by omega⟩;rw[AEN _ _ (by omega) (by omega),ADi (DL (by omega) (by omega)) (by omega)];rw[<-Int.add_mul,ADj]
def Mul.mono {D N M:Nat}{a:Rat}(h:Mul D N a)(b:N<=M):Mul D M a:=⟨h.1,let ⟨k,e,hk⟩:=h.2;⟨k,e,by omega⟩⟩
def Mul.int {n:Int}{D N:Nat}(a:0<D)(h:(n*D).natAbs<=N):Mul D N (n:Rat):=by
 have e:(n:Rat)=Rat.divInt n 1:=by rw[<-ABX (n:Rat)];simp
 rw[e];have:=Mul.part (t:=n) (b:=1) (c:=D) (by decide) a h;simpa using this
def Mz:AS:=
 (AZ (Bb (Al (AX XU (aV 1) (aC (.int 3)))) (Ao (Az (AB (AX A4 (aC (.int 1)) (AN 2 BA (AB (aV 0) (AB (aC (.int 5)) AL)))) (AB (aC (.int 1)) AL)))) BE)
   (Ao (AN 2 A5 (AB (AX A4 (aC (.int 1)) (AN 2 BA (AB (aV 0) (AB (aC (.int 8)) AL)))) (AB (AX IK (aV 1) (aC (.int 1))) AL)))))
def Se:AS:=
 (AZ (Ak (AN 2 BA (AB (aV 0) (AB (aC (.int 5)) AL))) (An 1))
   Mz)
def CL:AF:=As 2 Se
def Gg {Q:PV->Prop}(h:∀a,Bd 8 a->0<a->Mul 6 48 a->Q (fr a)):CL [.tape] Q:=by
 refine⟨rfl,DB (by decide) (by decide) λw g i=> ?_⟩;refine Gr (b:=decide (w<3)) (λ_=> ?_) (λz=> ?_)
 .refine ⟨rfl,DB (by decide) (by decide) λr d f=>⟨lz, ?_⟩⟩;exact SY (h _ (.int (by omega) (by decide)) (by exact_mod_cast (by omega:(0:Int)<1+r)) (.int (by decide) (by omega)))
 .have j:¬w<3:=ABj z;have hw:w-1=2\/w-1=3:=by omega
  refine⟨rfl,DB (by decide) (by decide) λr d f=>⟨rfl, ?_⟩⟩;refine JL 8 (by omega) (by omega) (by omega) (by decide) λb=>h _ b (tY (by omega) (by omega)) ?_;rcases hw with e|e
  .rw [e];exact Mul.part (t:=1+r) (b:=2) (c:=3) (by decide) (by decide) (by omega)
  .rw [e];exact Mul.part (t:=1+r) (b:=3) (c:=2) (by decide) (by decide) (by omega)
def NJ {Q:PV->Prop}(h:∀a,Bd 8 a->0<a->Q (fr a)):CL [.tape] Q:=Gg λa b p _=>h a b p
def Lo:AS:=
 (AZ (Bb (Al (AX JO (aV 1) (aC (.int 6)))) (Ao (AN 2 A5 (AB (AX IK (AN 2 BA (AB (aV 0) (AB (aC (.int 25)) AL))) (aC (.int 6))) (AB (aC (.int 2)) AL)))) BE)
   (Ao (AN 2 A5 (AB (AX IK (AN 2 BA (AB (aV 0) (AB (aC (.int 31)) AL))) (aC (.int 9))) (AB (aC (.int 3)) AL)))))
def Ln:AS:=
 (AZ (Bb (Al (AX XU (aV 1) (aC (.int 6)))) (Ao (Az (AB (AX IK (AN 2 BA (AB (aV 0) (AB (aC (.int 10)) AL))) (aC (.int 3))) (AB (aC (.int 1)) AL)))) BE)
   Lo)
def Qc:AS:=
 (AZ (Ak (AN 2 BA (AB (aV 0) (AB (aC (.int 8)) AL))) (An 1))
   Ln)
def Ba:AF:=As 2 Qc
def BO {Q:PV->Prop}(h:∀a,Mul 6 60 a->Q (fr a)):Ba [.tape] Q:=by
 refine⟨rfl,DB (by decide) (by decide) λw f g=> ?_⟩;refine Gr (b:=decide (w<6)) (λ_=> ?_) (λz=> ?_)
 .refine ⟨rfl,DB (by decide) (by decide) λr d e=>⟨lz, ?_⟩⟩;exact SY (h _ (.int (by decide) (by omega)))
 refine Gr (b:=decide (w=6)) (λ_=> ?_) (λz=> ?_)
 .exact ⟨rfl,DB (by decide) (by decide) λr d e=>⟨rfl,JL 8 (by omega) (by omega) (by omega) (by decide) λb=>h _ (Mul.part (t:=r-6) (b:=2) (c:=3) (by decide) (by decide) (by omega))⟩⟩
 .exact ⟨rfl,DB (by decide) (by decide) λr d e=>⟨rfl,JL 8 (by omega) (by omega) (by omega) (by decide) λb=>h _ (Mul.part (t:=r-9) (b:=3) (c:=2) (by decide) (by decide) (by omega))⟩⟩
abbrev C4:=Rat×Rat×Rat×Rat
def cor (c:C4):PV:= .tup [fr c.1,fr c.2.1,fr c.2.2.1,fr c.2.2.2]
def corL (c:C4):PV:= .lst [fr c.1,fr c.2.1,fr c.2.2.1,fr c.2.2.2]
def Ay (cs:km C4):PV:= .tup (cs.map cor)
structure DA (B:Nat) (c:C4):Prop where
 m:Bd B c.1
 x:Bd B c.2.1
 y:Bd B c.2.2.1
 z:Bd B c.2.2.2
def DA.mono {B a:Nat}{c:C4}(h:DA B c)(k:B<=a):DA a c:=⟨h.m.mono k,h.x.mono k,h.y.mono k,h.z.mono k⟩
structure ND (D N:Nat) (c:C4):Prop where
 m:Mul D N c.1
 x:Mul D N c.2.1
 y:Mul D N c.2.2.1
 z:Mul D N c.2.2.2
def ND.mono {D N M:Nat}{c:C4}(h:ND D N c)(k:N<=M):ND D M c:=⟨h.m.mono k,h.x.mono k,h.y.mono k,h.z.mono k⟩
def ND.bd {D N n:Nat}{c:C4}(h:ND D N c)(h1:N<2^n)(h2:D<2^n):DA n c:=⟨h.m.bd h1 h2,h.x.bd h1 h2,h.y.bd h1 h2,h.z.bd h1 h2⟩
def Ef (cs:km C4):Prop:=cs.Pairwise λa b=>a.1<b.1
structure W4 (n D N:Nat) (cs:List C4):Prop where
 two:2<=cs.length
 few:cs.length<=n
 mu:∀c∈cs,ND D N c
 ris:Ef cs
structure aT (n B:Nat) (cs:List C4):Prop where
 two:2<=cs.length
 few:cs.length<=n
 bd:∀c∈cs,DA B c
 ris:Ef cs
def dZ {cs:km C4}{c d:C4}(h:Ef (cs ++ [c]))(hd:c.1<d.1):Ef (cs ++ [c] ++ [d]):=by
 refine ABY.mpr ⟨h,by simp,λa ha b hb=> ?_⟩;simp at hb;subst hb;rcases AAL.mp ha with ha|ha
 .have:=(ABY.mp h).2.2 a ha c (by simp);grind
 .simp at ha;subst ha;exact hd
def JT:AS:=
 (AZ (Bb (Al (AX Z7 (aV 5) (aC (.int 3)))) (Ak (FI (Dz (AB (AN 1 Ba (AB (aV 0) AL)) (AB (AN 1 Ba (AB (aV 0) AL)) (AB (AN 1 Ba (AB (aV 0) AL)) AL))))) (An 3)) (Bb (Al (AX Z7 (aV 5) (aC (.int 0)))) (Ak (AX A4 (AX A4 (Q4 (aV 3) Q5 (Q6 (AX IK (aV 5) (aC (.int 1))))) (FI (Dz (AB (AN 1 Ba (AB (aV 0) AL)) AL)))) (Q4 (aV 3) (Q6 (aV 5)) Q5)) (An 3)) BE))
   (EN 4 Ir (AB (Az (AB (aV 2) (AB (AX Aj (aV 3) (aC (.int 0))) (AB (AX Aj (aV 3) (aC (.int 1))) (AB (AX Aj (aV 3) (aC (.int 2))) AL))))) AL)))
def JS:AS:=
 (AZ (Ak (AN 2 BA (AB (aV 0) (AB (aC (.int 6)) AL))) (An 5))
   JT)
def Ms:AS:=
 (AZ (Ak (AN 2 A8 (AB (aV 2) (AB (AN 1 CL (AB (aV 0) AL)) AL))) (An 2))
   JS)
def Mx:AS:=
 (AZ (Kv (Al (AX XU (Ev Gq (AB (aV 4) AL)) (aV 1))) Ms)
   (Ao (Ev B5 (AB (aV 4) AL))))
def Mw:AS:=
 (AZ (Je (Dz (AB (Az (AB (aV 2) (AB (AX Aj (aV 3) (aC (.int 0))) (AB (AX Aj (aV 3) (aC (.int 1))) (AB (AX Aj (aV 3) (aC (.int 2))) AL))))) AL)) 4)
   Mx)
def Mu:AS:=
 (AZ (Ak (FI (Dz (AB (AN 1 Ba (AB (aV 0) AL)) (AB (AN 1 Ba (AB (aV 0) AL)) (AB (AN 1 Ba (AB (aV 0) AL)) AL))))) (An 3))
   Mw)
def G0:AS:=
 (AZ (Ak (Az (AB (AN 2 BA (AB (aV 0) (AB (aC (.int 12)) AL))) (AB (aC (.int 1)) AL))) (An 2))
   Mu)
def Mt:AS:=
 (AZ (Bb (Al (AX JO (AN 2 BA (AB (aV 0) (AB (aC (.int 8)) AL))) (aC (.int 0)))) (Ak (AX A4 (aC (.int 7)) (AN 2 BA (AB (aV 0) (AB (aC (.int 3)) AL)))) (An 1)) BE)
   G0)
def Sd:AS:=
 (AZ (Ak (AX A4 (aC (.int 2)) (AN 2 BA (AB (aV 0) (AB (aC (.int 4)) AL)))) (An 1))
   Mt)
def FP:AF:=As 6 Sd
def X0 (many:Int)(B k f:kd AV)(j:kd AV)(I:2<=many)(h1:many<=9){Q:PV->Prop}(h:∀cs,W4 9 6 512 cs->Q (Ay cs)):G0 {nx:=λ_=>Q .non,rt:=Q,bk:=λ_=>False,ct:=λ_=>False} [some (.val .tape),some (.val (.int many)),B,k,j,f] :=by
 refine⟨rfl,DB (by decide) (by decide) λm m0 m1=>⟨lz, ?_⟩⟩;refine⟨rfl,BO λx hx=>⟨rfl,BO λy hy=>⟨rfl,BO λz hz=>⟨lz, ?_⟩⟩⟩⟩;refine⟨lz,lz, ?_⟩;refine⟨(many-1).toNat+1,Wx (λn τ=>∃(cs:km C4) (c:C4) (f:kd AV),n+(cs.length+1)=many.toNat+1/\1<=n/\(∀d∈cs ++ [c],ND 6 (66+48*cs.length) d)/\(Mul 6 60 c.2.1/\Mul 6 60 c.2.2.1/\Mul 6 60 c.2.2.2)/\Ef (cs ++ [c])/\
  τ= [some (.val .tape),some (.val (.int many)),some (.val (fr c.1)),some (.val (.lst [fr c.2.1,fr c.2.2.1,fr c.2.2.2])),some (.own ((cs ++ [c]).map cor)),f]) ?_ ?_ _ _ ⟨[],((m:Rat),x,y,z),f, ?_, ?_, ?_, ?_, ?_, ?_⟩⟩
 .rintro τ ⟨cs,c,f,_,C,_⟩;omega
 .rintro n τ R D ⟨cs,c,f,C,J,hb,g,r,rfl⟩;have t:(((cs ++ [c]).map cor).length:Int)=(cs.length:Int)+1:=by simp
  refine Gr (b:=decide ((((cs ++ [c]).map cor).length:Int)<many)) (λz=> ?_) (λz=> ?_)
  .have l:(((cs ++ [c]).map cor).length:Int)<many:=ABi z;rw[t] at l;have u:=hb c (by simp);refine⟨rfl,Gg λs E K F=>⟨rfl,DQ ((u.m.bd (n:=12) (by omega) (by decide)).mono (by omega)) (E.mono (by omega)) ?_⟩⟩;refine⟨rfl,DB (by decide) (by decide) λw L M=> ?_⟩;have a:∀(o:Gc) (x y z:Rat) (f:kd AV),o.nx=R->Mul 6 60 x->Mul 6 60 y->Mul 6 60 z->EN 4 Ir (AB (Az (AB (aV 2) (AB (AX Aj (aV 3) (aC (.int 0))) (AB (AX Aj (aV 3) (aC (.int 1))) (AB (AX Aj (aV 3) (aC (.int 2))) AL))))) AL)
    o [some (.val .tape),some (.val (.int many)),some (.val (fr (c.1+s))),some (.val (.lst [fr x,fr y,fr z])),some (.own ((cs ++ [c]).map cor)),f] :=by
    intro o x y z f G v i A;refine⟨lz, ?_, ?_⟩
    .show _<16777216;omega
    .rw [G];have H:Mul 6 (66+48*(cs.length+1)) (c.1+s):=(u.m.add F).mono (by omega);refine D _ ⟨cs ++ [c],(c.1+s,x,y,z),f,by simp;omega,by omega, ?_,⟨v,i,A⟩,dZ r ?_, ?_⟩
     .intro d hd;rcases AAL.mp hd with hd|hd
      .exact (hb d hd).mono (by simp;omega)
      .simp at hd;subst hd;have e:(cs ++ [c]).length=cs.length+1:=by simp
       rw[e];exact⟨H,v.mono (by omega),i.mono (by omega),A.mono (by omega)⟩
     .show c.1<c.1+s;grind
     .rw [AAY (l₁:=cs ++ [c])];rfl
   refine Gr (b:=decide (3<w)) (λ_=> ?_) (λk=> ?_)
   .exact ⟨rfl,BO λx hx=>⟨rfl,BO λy hy=>⟨rfl,BO λz hz=>⟨lz,a _ x y z _ rfl hx hy hz⟩⟩⟩⟩
   refine Gr (b:=decide (0<w)) (λj=> ?_) (λj=> ?_)
   .have N:¬3<w:=ABj k;have O:0<w:=ABi j;have hw:w=1\/w=2\/w=3:=by omega
    rcases hw with rfl|rfl|rfl
    .exact Em ⟨rfl,BO λp hp=>⟨lz,lz,Em ⟨lz,a _ p _ _ _ rfl hp g.2.1 g.2.2⟩⟩⟩
    .exact Em ⟨rfl,BO λp hp=>⟨lz,lz,Em ⟨lz,a _ _ p _ _ rfl g.1 hp g.2.2⟩⟩⟩
    .exact Em ⟨rfl,BO λp hp=>⟨lz,lz,Em ⟨lz,a _ _ _ p _ rfl g.1 g.2.1 hp⟩⟩⟩
   .exact a _ _ _ _ _ rfl g.1 g.2.1 g.2.2
  .have l:¬(((cs ++ [c]).map cor).length:Int)<many:=ABj z;rw[t] at l;refine h (cs ++ [c]) ⟨by simp;omega,by simp;omega,λd hd=>(hb d hd).mono (by omega),r⟩
 .simp;omega
 .omega
 .intro d hd;simp at hd;subst hd;exact⟨.int (by decide) (by simp;omega),hx.mono (by decide),hy.mono (by decide),hz.mono (by decide)⟩
 .exact ⟨hx,hy,hz⟩
 .exact AEQ _ _
 .simp only[cor,bO,AA0,AAP,ACt];rfl
def NI {Q:PV->Prop}(h:∀cs,W4 9 6 512 cs->Q (Ay cs)):FP [.tape] Q:=by
 refine⟨rfl,DB (by decide) (by decide) λa d e=>⟨rfl,DB (by decide) (by decide) λb f g=> ?_⟩⟩;refine Gr (b:=decide (b=0)) (λ_=> ?_) (λ_=> ?_)
 .exact ⟨rfl,DB (by decide) (by decide) λc c0 i=>X0 (7+c) _ _ _ _ (by omega) (by omega) h⟩
 .exact X0 (2+a) _ _ _ _ (by omega) (by omega) h
def mid (a b:Rat):Rat:=(a+b)/2
def ax {cs:km C4}{i:Int}{k:Nat}(hk:i=(k:Int))(h:k<=cs.length):FM (cs.map cor) (some i) none=(cs.drop k).map cor:=by unfold FM;rw[hk,HT.sIx_none,HT.sIx_nat];rw[show min k (cs.map cor).length=k by simp;omega,ACe];exact ACC (by simp)
def ik {cs:km C4}{i:Int}{k:Nat}{Q:PV->Prop}(hk:i=(k:Int))(h:k<=cs.length)(q:Q (Ay (cs.drop k))):RG (Ay cs) (some i) none Q:=by refine DE ?_;rw[ax hk h];exact q
def NY {cs ds:km C4}{Q:PV->Prop}(h:cs.length+ds.length<=10000)(q:Q (Ay (cs++ds))):A4 (Ay cs) (Ay ds) Q:=by
 refine⟨?_, ?_⟩
 .simp only[AAK];exact AAa h (by decide)
 .show Q (.tup (cs.map cor++ds.map cor));rw[<-AAY];exact q
def Mul.mid {D N:Nat}{a b:Rat}(ha:Mul D N a)(hb:Mul D N b):Mul (2*D) (2*N) (mid a b):=by
 obtain⟨c,k,rfl,hk⟩:=ha;obtain⟨_,l,rfl,hl⟩:=hb;refine⟨by omega,k+l, ?_,by omega⟩;have h2:(2:Rat)=Rat.divInt 2 1:=rfl;unfold PL.mid;rw[AEN _ _ (by omega) (by omega),ACa,h2,Rat.inv_divInt,AEO,Int.mul_one,ADi (DL (DL (by omega) (by omega)) (by decide)) (by omega),<-Int.add_mul];have e:((2*D:Nat):Int)=2*(D:Int):=by omega
 rw[e,ADj,ADj,Int.mul_comm 2 (D:Int)]
def Mul.dbl {D N:Nat}{a:Rat}(h:Mul D N a):Mul (2*D) (2*N) a:=by
 have:=h.mid h
 rwa [show PL.mid a a=a by unfold PL.mid;grind] at this
def FT (cs:km C4)(v:PV):Prop:=∃f:C4->PV,(f=cor\/f=corL)/\(v= .tup (cs.map f)\/v= .lst (cs.map f))
def FT.self (cs:km C4):FT cs (Ay cs):=⟨cor, .inl rfl, .inl rfl⟩
def FT.lists (cs:km C4):FT cs (.lst (cs.map corL)):=⟨corL, .inr rfl, .inr rfl⟩
def laterC (b:Rat)(cs:km C4):km C4:=cs.map λc=>(c.1+b,c.2)
def offC (x y z:Rat)(cs:km C4):km C4:=cs.map λc=>(c.1,c.2.1+x,c.2.2.1+y,c.2.2.2+z)
def DA.laterC {B m:Nat}{b:Rat}{cs:km C4}(h:∀c∈cs,DA B c)(hb:Bd m b):∀c∈laterC b cs,DA (B+m+1) c:=λc hc=>by obtain⟨d,hd,rfl⟩:=AAZ.mp hc;have q:=h d hd;exact⟨q.m.add hb,q.x.mono (by omega),q.y.mono (by omega),q.z.mono (by omega)⟩
def DA.offC {B m:Nat}{x y z:Rat}{cs:km C4}(h:∀c∈cs,DA B c)(hx:Bd m x)(hy:Bd m y)(hz:Bd m z):∀c∈offC x y z cs,DA (B+m+1) c:=λc hc=>by obtain⟨d,hd,rfl⟩:=AAZ.mp hc;have q:=h d hd;exact⟨q.m.mono (by omega),q.x.add hx,q.y.add hy,q.z.add hz⟩
theorem Db {i m:Type}{g:AG}{j:AE}{d:BL}{Q:km PV->Prop}(f:i->PV)(k:m->PV)(e:i->m)(P:i->Prop)(hs:∀a,P a->∀R:PV->Prop,R (k (e a))->g (f a) d λl=>j l R):∀(xs:km i) (c:km PV),(∀a∈xs,P a)->Q (c++(xs.map e).map k)->Cy g EW j d Q (xs.map f) c
 | [],c,_,h=>(by simpa using h:Q c)
 | a::xs,c,hp,h=>by refine hs a (hp a (by simp)) (λy=>Cy g EW j d Q (xs.map f) (c ++ [y])) (Db f k e P hs xs _ (λb hb=>hp b (by simp[hb])) ?_);simpa using h
def fS:AS:=
 (Ao (Ev B5 (AB (FI (B2 (HC (aV 0)) 4 [1] (IJ 4 (AY (An 0) (AY (An 1) (AY (An 2) (AY (An 3) Bm))))) EW (Az (AB (AN 2 Ce (AB (aV 0) (AB (aV 4) AL))) (AB (aV 1) (AB (aV 2) (AB (aV 3) AL))))))) AL)))
def MV:AF:=As 2 fS
def U9 {cs:km C4}{v:PV}{B m:Nat}{b:Rat}(hv:FT cs v)(hl:cs.length<=1000)(hc:∀c∈cs,DA B c)(hb:Bd m b)(a:B<=4000)(d:m<=4000){Q:PV->Prop}(h:Q (Ay (laterC b cs))):MV [v,fr b] Q:=by
 obtain⟨f,i,hv⟩:=hv;have go:cs.length<sizeLine/\Cy (IJ 4 (AY (An 0) (AY (An 1) (AY (An 2) (AY (An 3) Bm))))) EW (Az (AB (AN 2 Ce (AB (aV 0) (AB (aV 4) AL))) (AB (aV 1) (AB (aV 2) (AB (aV 3) AL)))))
  [none,none,none,none,some (.val (fr b))] (λxs=>Q (.tup xs)) (cs.map f) [] :=by
  refine⟨AAp hl (by decide), ?_⟩;refine Db f cor (λc=>(c.1+b,c.2)) (DA B) (λc e R g=> ?_) cs [] hc h;rcases i with rfl|rfl
  .exact ⟨rfl,rfl,Cd (e.m.mono a) (hb.mono d) ⟨lz,g⟩⟩
  .exact ⟨rfl,rfl,Cd (e.m.mono a) (hb.mono d) ⟨lz,g⟩⟩
 rw[show cs.length=(cs.map f).length by simp] at go;rcases hv with rfl|rfl <;> exact go
def YT:AS:=
 (Ao (Ev B5 (AB (FI (B2 (HC (aV 0)) 4 [1,2,3] (IJ 4 (AY (An 0) (AY (An 1) (AY (An 2) (AY (An 3) Bm))))) EW (Az (AB (aV 0) (AB (AN 2 Ce (AB (aV 1) (AB (aV 4) AL))) (AB (AN 2 Ce (AB (aV 2) (AB (aV 5) AL))) (AB (AN 2 Ce (AB (aV 3) (AB (aV 6) AL))) AL))))))) AL)))
def Hf:AF:=As 4 YT
def Q0 {cs:km C4}{v:PV}{B m:Nat}{x y z:Rat}(hv:FT cs v)(hl:cs.length<=1000)(hc:∀c∈cs,DA B c)(hx:Bd m x)(hy:Bd m y)(hz:Bd m z)(a:B<=4000)(b:m<=4000){Q:PV->Prop}(h:Q (Ay (offC x y z cs))):Hf [v,fr x,fr y,fr z] Q:=by
 obtain⟨f,g,hv⟩:=hv;have go:cs.length<sizeLine/\Cy (IJ 4 (AY (An 0) (AY (An 1) (AY (An 2) (AY (An 3) Bm))))) EW (Az (AB (aV 0) (AB (AN 2 Ce (AB (aV 1) (AB (aV 4) AL))) (AB (AN 2 Ce (AB (aV 2) (AB (aV 5) AL))) (AB (AN 2 Ce (AB (aV 3) (AB (aV 6) AL))) AL)))))
  [none,none,none,none,some (.val (fr x)),some (.val (fr y)),some (.val (fr z))] (λxs=>Q (.tup xs)) (cs.map f) [] :=by
  refine⟨AAp hl (by decide), ?_⟩;refine Db f cor (λc=>(c.1,c.2.1+x,c.2.2.1+y,c.2.2.2+z)) (DA B) (λc d R e=> ?_) cs [] hc h;rcases g with rfl|rfl
  .exact ⟨rfl,rfl,Cd (d.x.mono a) (hx.mono b) ⟨rfl,Cd (d.y.mono a) (hy.mono b) ⟨rfl,Cd (d.z.mono a) (hz.mono b) ⟨lz,e⟩⟩⟩⟩
  .exact ⟨rfl,rfl,Cd (d.x.mono a) (hx.mono b) ⟨rfl,Cd (d.y.mono a) (hy.mono b) ⟨rfl,Cd (d.z.mono a) (hz.mono b) ⟨lz,e⟩⟩⟩⟩
 rw[show cs.length=(cs.map f).length by simp] at go;rcases hv with rfl|rfl <;> exact go
def Sh.cor {c:C4}(h:DA 1900 c):Sh 2 17000 (cor c):=(Sh.tup (qH (Sh.fr h.m) (Sh.fr h.x) (Sh.fr h.y) (Sh.fr h.z))).mono (by decide) lz
def Sh.corL {c:C4}(h:DA 1900 c):Sh 2 17000 (corL c):=(Sh.lst (qH (Sh.fr h.m) (Sh.fr h.x) (Sh.fr h.y) (Sh.fr h.z))).mono (by decide) lz
abbrev T3:=Rat×Rat×Rat
def inter (a b:C4)(m:Rat):T3:=(a.2.1+(m-a.1)/(b.1-a.1)*(b.2.1-a.2.1),a.2.2.1+(m-a.1)/(b.1-a.1)*(b.2.2.1-a.2.2.1),a.2.2.2+(m-a.1)/(b.1-a.1)*(b.2.2.2-a.2.2.2))
def spotG:C4->km C4->Rat->kd T3
 | _, [],_=>none
 | a,b::r,m=>if b.1<m then spotG b r m else some (inter a b m)
def spotC:km C4->Rat->kd T3
 | [],_=>none
 | a::r,m=>if m<a.1 then none else spotG a r m
def d8 (t:T3):PV:= .tup [fr t.1,fr t.2.1,fr t.2.2]
def Ul:kd T3->PV
 | none=> .non
 | some t=>d8 t
structure KL (B:Nat) (t:T3):Prop where
 x:Bd B t.1
 y:Bd B t.2.1
 z:Bd B t.2.2
def KL.mono {B a:Nat}{t:T3}(h:KL B t)(k:B<=a):KL a t:=⟨h.x.mono k,h.y.mono k,h.z.mono k⟩
section
variable {B M:Nat}{a b:C4}{m:Rat}
theorem SU {x y:Rat}(h:x<y):y-x≠0:=by grind
theorem Bd.share (ha:DA B a)(hb:DA B b)(c:Bd M m)(h:a.1<b.1):Bd (M+B+1+(B+B+1)) ((m-a.1)/(b.1-a.1)):=(c.sub ha.m).div (SU h) (hb.m.sub ha.m)
theorem KL.inter (ha:DA B a)(hb:DA B b)(c:Bd M m)(h:a.1<b.1):KL (M+6*B+10) (inter a b m):=by have s:=Bd.share ha hb c h;exact⟨(ha.x.add (s.mul (hb.x.sub ha.x))).mono (by omega),(ha.y.add (s.mul (hb.y.sub ha.y))).mono (by omega),(ha.z.add (s.mul (hb.z.sub ha.z))).mono (by omega)⟩
end
theorem KL.spotG {B M:Nat}{m:Rat}(d:Bd M m):∀{a:C4} {r:km C4},Ef (a::r)->(∀c∈a::r,DA B c)->∀t,spotG a r m=some t->KL (M+6*B+10) t
 | a, [],_,_,t,e=>by cases e
 | a,b::r,hr,hb,t,e=>by
   unfold PL.spotG at e;split at e
   .exact KL.spotG d (AAI.mp hr).2 (λc hc=>hb c (by simp[hc])) t e
   .cases e;exact .inter (hb a (by simp)) (hb b (by simp)) d ((AAI.mp hr).1 b (by simp))
def KL.spotC {B M:Nat}{m:Rat}{cs:km C4}(b:Bd M m)(d:Ef cs)(hb:∀c∈cs,DA B c):∀t,spotC cs m=some t->KL (M+6*B+10) t:=λt e=>by
 cases cs with
 | nil=>cases e
 | cons a r=>
   simp only[PL.spotC] at e;split at e
   .cases e
   .exact KL.spotG b d hb t e
def Jo {f:C4->PV}{cs:km C4}{i:Int}{k:Nat}{c:C4}{Q:PV->Prop}(hk:i=(k:Int))(e:cs[k]? =some c)(h:Q (f c)):aD (KM (cs.map f) i) Q:=by have q:KM (cs.map f) ((k:Nat):Int)=some (f c):=Ei (by rw[AAs,e] <;> rfl);rw[hk,q];exact h
def Ta {f:C4->PV}{cs:km C4}{c:C4}{Q:PV->Prop}(e:cs.getLast?=some c)(h:Q (f c)):aD (KM (cs.map f) (-1)) Q:=by
 have a:cs≠ [] :=by intro z;subst z;cases e
 have hl:0<cs.length:=List.length_pos_iff.mpr a;have q:KM (cs.map f) (-1)=some (f c):=by
  unfold KM gh;rw[AAK,AAC (by decide),AAD (by omega)];have b:(-1+(cs.length:Int)).toNat=cs.length-1:=by omega
  rw[ACy,b,AAs,<-List.getLast?_eq_getElem?,e];rfl
 rw[q];exact h
def NA:AS:=
 (AZ (Ak (AN 2 Qz (AB (AN 2 DY (AB (aV 2) (AB (AX Aj (aV 0) (aC (.int 0))) AL))) (AB (AN 2 DY (AB (AX Aj (aV 1) (aC (.int 0))) (AB (AX Aj (aV 0) (aC (.int 0))) AL))) AL))) (An 3))
   (Ao (Ev B5 (AB (FI (B2 (oC (AB (Q4 (aV 0) (Q6 (aC (.int 1))) Q5) (AB (Q4 (aV 1) (Q6 (aC (.int 1))) Q5) AL))) 2 [3] (IJ 2 (AY (An 0) (AY (An 1) Bm))) EW (AN 2 Ce (AB (aV 0) (AB (AN 2 FS (AB (aV 2) (AB (AN 2 DY (AB (aV 1) (AB (aV 0) AL))) AL))) AL))))) AL))))
def Dt:AF:=As 4 NA
def Ja {f:C4->PV}(j:f=cor\/f=corL){a b:C4}{B M:Nat}{m:Rat}(ha:DA B a)(hb:DA B b)(c:Bd M m)(h:a.1<b.1)(l:M+6*B+10<=3990){Q:PV->Prop}(q:Q (d8 (inter a b m))):Dt [f a,f b,fr m] Q:=by
 simp only[d8,inter] at q;have s:=Bd.share ha hb c h;have key:Cy (IJ 2 (AY (An 0) (AY (An 1) Bm))) EW (AN 2 Ce (AB (aV 0) (AB (AN 2 FS (AB (aV 2) (AB (AN 2 DY (AB (aV 1) (AB (aV 0) AL))) AL))) AL))) [none,none,some (.val (fr ((m-a.1)/(b.1-a.1))))] (λxs=>Q (.tup xs))
  ([(a.2.1,b.2.1),(a.2.2.1,b.2.2.1),(a.2.2.2,b.2.2.2)].map λp:Rat×Rat=>PV.tup [fr p.1,fr p.2]) [] :=by refine Db (λp:Rat×Rat=>PV.tup [fr p.1,fr p.2]) fr (λp=>p.1+(m-a.1)/(b.1-a.1)*(p.2-p.1)) (λp=>Bd B p.1/\Bd B p.2) (λp hp R k=> ?_) _ [] (qG ⟨ha.x,hb.x⟩ ⟨ha.y,hb.y⟩ ⟨ha.z,hb.z⟩) q;have d:=hp.1;have g:=hp.2;exact⟨rfl,rfl,D5 (g.mono (by omega)) (d.mono (by omega)) ⟨rfl,NN (s.mono (by omega)) ((g.sub d).mono (by omega)) ⟨rfl,Cd (d.mono (by omega)) ((s.mul (g.sub d)).mono (by omega)) k⟩⟩⟩
 have m1:=c.mono (n:=4000) (by omega);have e:=ha.m.mono (n:=4000) (by omega);have i:=hb.m.mono (n:=4000) (by omega);rcases j with rfl|rfl
 .exact ⟨rfl,D5 m1 e ⟨rfl,D5 i e ⟨rfl,Pt (SU h) ((c.sub ha.m).mono (by omega)) ((hb.m.sub ha.m).mono (by omega)) (DE (DE ⟨lz,key⟩))⟩⟩⟩
 .exact ⟨rfl,D5 m1 e ⟨rfl,D5 i e ⟨rfl,Pt (SU h) ((c.sub ha.m).mono (by omega)) ((hb.m.sub ha.m).mono (by omega)) (Em (Em ⟨lz,key⟩))⟩⟩⟩
def Qm:AS:=
 (AZ (E3 (gB (AB (aC (.int 1)) (AB (Ev Gq (AB (aV 0) AL)) AL))) (An 2) (Bb (Dj (Al (AN 2 Ai (AB (AX Aj (AX Aj (aV 0) (aV 2)) (aC (.int 0))) (AB (aV 1) AL))))) (Ao (AN 3 Dt (AB (AX Aj (aV 0) (AX IK (aV 2) (aC (.int 1)))) (AB (AX Aj (aV 0) (aV 2)) (AB (aV 1) AL))))) BE))
   (Ao (aC .non)))
def YU:AS:=
 (AZ (Bb (Al (AN 2 Ai (AB (aV 1) (AB (AX Aj (AX Aj (aV 0) (aC (.int 0))) (aC (.int 0))) AL)))) (Ao (aC .non)) BE)
   Qm)
def Hg:AF:=As 3 YU
def YA {cs:km C4}(h:Ef cs){k:Nat}{a b:C4}(c:cs[k]? =some a)(d:cs[k+1]? =some b):a.1<b.1:=by have h1:=(AAq.mp c);have h2:=(AAq.mp d);obtain⟨l1,rfl⟩:=h1;obtain⟨e,rfl⟩:=h2;exact List.pairwise_iff_getElem.mp h k (k+1) l1 e (by omega)
def Q1 {cs:km C4}{v:PV}{B M:Nat}{m:Rat}(hv:FT cs v)(hc:∀c∈cs,DA B c)(A:Ef cs)(C:cs≠ [])(hl:cs.length<=1000)(s:Bd M m)(D:M+6*B+10<=3990){Q:PV->Prop}(q:Q (Ul (spotC cs m))):Hg [v,fr m] Q:=by
 obtain⟨f,t,hv⟩:=hv;have m1:=s.mono (n:=4000) (by omega);cases cs with
 | nil=>exact absurd rfl C
 | cons a r=>
   have ba:=hc a (by simp);have E:=ba.m.mono (n:=4000) (by omega);simp only[spotC] at q;have F:r.length+1<=1000:=hl;have u:∀(c:C4) (P:PV->Prop),P (fr c.1)->Oo (f c) λys=>aD (KM ys 0) P:=λc P G=>by rcases t with rfl|rfl <;> exact G
   rcases hv with rfl|rfl;all_goals
    refine Jo (k:=0) (c:=a) rfl rfl (u a _ ⟨rfl,Cu m1 E ?_⟩);refine Gr (b:=decide (m<a.1)) (λz=> ?_) (λz=> ?_)
    .rw [AAD (ABi z)] at q;exact q
    .rw [AAC (ABj z)] at q;have i:∀f:C4->PV,((((a::r).map f).length:Nat):Int)=r.length+1:=λf=>by simp
     refine⟨⟨by decide,by decide,by rw[i];omega,by rw[i];omega⟩, ?_⟩;rw[i,show ((r.length:Int)+1-1).toNat=r.length by omega];refine Hm (λw τ=>∃(k:Nat) (j:kd AV) (c:C4) (ds:km C4),w=rng ((k:Int)+1) ds.length/\(a::r)[k]? =some c/\(a::r).drop (k+1)=ds/\spotG c ds m=spotG a r m/\τ= [some (.val _),some (.val (fr m)),j]) ?_ ?_ _ _ ⟨0,none,a,r,rfl,rfl,rfl,rfl,rfl⟩
     .rintro τ ⟨k,j,c,ds,g,h,o,es,rfl⟩;have:ds= [] :=by
       cases ds with
       | nil=>rfl
       | cons d ds=>rw[AAc,J4] at g;cases g
      subst this;rw[<-es] at q;exact q
     .rintro x w τ R H ⟨k,j,c,ds,g,h,o,es,rfl⟩;cases ds with
      | nil=>cases g
      | cons d ds=>
        rw[AAc,J4] at g;cases g;have e:(a::r)[k+1]? =some d:=by have:=congrArg (λl=>l[0]?) o;simpa[ADk] using this
        have y:=hc d (ACQ e);have I:=hc c (ACQ h);refine Jo (k:=k+1) (by omega) e (u d _ ⟨rfl,Cu (y.m.mono (by omega)) m1 ?_⟩);refine Gr (b:= !decide (d.1<m)) (λz=> ?_) (λz=> ?_)
        .have p:¬d.1<m:=by simpa using z
         rw[<-es] at q;simp only[spotG,AAC p,Ul] at q;exact Jo (k:=k) (by omega) h (Jo (k:=k+1) (by omega) e ⟨rfl,Ja t I y s (YA A h e) D q⟩)
        .have p:d.1<m:=by simpa using z
         refine H _ ⟨k+1,_,d,ds, ?_,e, ?_, ?_,rfl⟩
         .rw [show (((k+1:Nat):Int)+1)=(k:Int)+1+1 by omega]
         .have:=congrArg List.tail o;simpa[List.tail_drop] using this
         .rw [<-es];simp only[spotG,AAD p]
theorem Oc {m:Rat}:∀{a:C4} {r:km C4},Ef (a::r)->(∀l,(a::r).getLast?=some l->l.1<m)->spotG a r m=none
 | a, [],_,_=>rfl
 | a,b::r,hr,h=>by
   have d:Ef (b::r):=(AAI.mp hr).2;have hb:b.1<m:=by
    cases r with
    | nil=>exact h b rfl
    | cons c r=> obtain⟨l,hl⟩:∃l,(c::r).getLast?=some l:=⟨_,ABT (by simp)⟩;have h1:l.1<m:=h l (by simpa[AB3] using hl);have h2:b.1<l.1:=(AAI.mp d).1 l (AAl hl);grind
   simp only[spotG,AAD hb];exact Oc d λl hl=>h l (by simpa[AB3] using hl)
def HH {a b:C4}(h:a.1<b.1):inter a b a.1=a.2:=by
 have s:(a.1-a.1)/(b.1-a.1)=0:=by grind
 simp only[inter,s];obtain⟨m,x,y,z⟩:=a;show (x+0*(b.2.1-x),y+0*(b.2.2.1-y),z+0*(b.2.2.2-z))=(x,y,z);rw[show x+0*(b.2.1-x)=x by grind,show y+0*(b.2.2.1-y)=y by grind,show z+0*(b.2.2.2-z)=z by grind]
def E8 {a b:C4}(h:a.1<b.1):inter a b b.1=b.2:=by
 have s:(b.1-a.1)/(b.1-a.1)=1:=by grind
 simp only[inter,s];obtain⟨m,x,y,z⟩:=b;show (a.2.1+1*(x-a.2.1),a.2.2.1+1*(y-a.2.2.1),a.2.2.2+1*(z-a.2.2.2))=(x,y,z);rw[show a.2.1+1*(x-a.2.1)=x by grind,show a.2.2.1+1*(y-a.2.2.1)=y by grind,show a.2.2.2+1*(z-a.2.2.2)=z by grind]
theorem KC:∀{a:C4} {r:km C4},Ef (a::r)->∀c∈r,spotG a r c.1=some c.2
 | a, [],_,c,hc=>by cases hc
 | a,b::r,hr,c,hc=>by
   have e:=(AAI.mp hr).1 b (by simp);have d:Ef (b::r):=(AAI.mp hr).2;rcases AAF.mp hc with rfl|hc
   .have:¬c.1<c.1:=by grind
    simp only[spotG,AAC this,E8 e]
   .have:b.1<c.1:=(AAI.mp d).1 c hc;simp only[spotG,AAD this];exact KC d c hc
def En {cs:km C4}(d:Ef cs)(h2:2<=cs.length):∀c∈cs,spotC cs c.1=some c.2:=λc hc=>by
 match cs,d,h2,hc with
 | a::b::r,d,_,hc=>
   have e:=(AAI.mp d).1 b (by simp);rcases AAF.mp hc with rfl|hc
   .have h1:¬c.1<c.1:=by grind
    have h3:¬b.1<c.1:=by grind
    simp only[spotC,spotG,AAC h1,AAC h3,HH e]
   .have h1:¬c.1<a.1:=by have:=(AAI.mp d).1 c hc;grind
    simp only[spotC,AAC h1];exact KC d c hc
def Lj {a:C4}{r:km C4}{m:Rat}(h:m<a.1):spotC (a::r) m=none:=by simp only[spotC,AAD h]
def SM {a:C4}{r:km C4}{m:Rat}(b:Ef (a::r))(h:∀l,(a::r).getLast?=some l->l.1<m):spotC (a::r) m=none:=by
 simp only[spotC];split
 .rfl
 .exact Oc b h
def JU:AS:=
 (AZ (Ak (FI (B2 (HC (Az (AB (aC (.int 1)) (AB (aC (.int 2)) (AB (aC (.int 3)) AL))))) 1 [4,3,2] (An 0) EW (AN 2 Bf (AB (aV 1) (AB (AN 2 Bu (AB (AX Aj (aV 2) (aV 0)) (AB (AX Aj (aV 3) (aV 0)) AL))) AL))))) (An 5))
   (Ao (Ev B5 (AB (FI (B2 (Yi (AB (aC (.int 3)) AL)) 1 [2,5] (An 0) EW (AN 2 A8 (AB (AX Aj (aV 1) (AX A4 (aV 0) (aC (.int 1)))) (AB (AX Aj (aV 2) (aV 0)) AL))))) AL))))
def M0:AS:=
 (AZ (Ak (AN 2 B6 (AB (AN 2 Bu (AB (aV 1) (AB (AX Aj (aV 2) (aC (.int 0))) AL))) (AB (AN 2 Bu (AB (AX Aj (aV 3) (aC (.int 0))) (AB (AX Aj (aV 2) (aC (.int 0))) AL))) AL))) (An 4))
   JU)
def M1:AS:=
 (AZ (E3 (oC (AB (aV 0) (AB (Q4 (aV 0) (Q6 (aC (.int 1))) Q5) AL))) (IJ 2 (AY (An 2) (AY (An 3) Bm))) (Bb (Dj (Al (AN 2 Ai (AB (AX Aj (aV 3) (aC (.int 0))) (AB (aV 1) AL))))) M0 BE))
   (Ao (aC .non)))
def Sf:AS:=
 (AZ (Bb (F2 (Al (AN 2 Ai (AB (aV 1) (AB (AX Aj (AX Aj (aV 0) (aC (.int 0))) (aC (.int 0))) AL)))) (Al (AN 2 Ai (AB (AX Aj (AX Aj (aV 0) (MC E4 (aC (.int 1)))) (aC (.int 0))) (AB (aV 1) AL))))) (Ao (aC .non)) BE)
   M1)
def FQ:AF:=As 6 Sf
def NK {cs:km C4}{B M:Nat}{m:Rat}(hc:∀c∈cs,DA B c)(D:Ef cs)(H:cs≠ [])(hl:cs.length<=1000)(p:Bd M m)(N:M+6*B+10<=3990){Q:PV->Prop}(q:Q (Ul (spotC cs m))):FQ [Ay cs,fr m] Q:=by
 have m1:=p.mono (n:=4000) (by omega);cases cs with
 | nil=>exact absurd rfl H
 | cons a r=>
   have ba:=hc a (by simp);have I:=ba.m.mono (n:=4000) (by omega);obtain⟨l,t⟩:∃l,(a::r).getLast?=some l:=⟨_,ABT (by simp)⟩;have J:=hc l (AAl t);refine Jo (f:=cor) (k:=0) (c:=a) rfl rfl ⟨rfl,Cu m1 I ?_⟩;refine Gr (b:=decide (m<a.1)) (λz=> ?_) (λz=> ?_)
   .rw [Lj (ABi z)] at q;exact q
   refine Ta (f:=cor) t ⟨rfl,Cu (J.m.mono (by omega)) m1 ?_⟩;refine Gr (b:=decide (l.1<m)) (λj=> ?_) (λj=> ?_)
   .rw [SM D (λO E=>by rw[t] at E;cases E;exact ABi j)] at q;exact q
   simp only[spotC,AAC (ABj z)] at q;have K:r.length+1<=1000:=hl;refine ik (cs:=a::r) (i:=1) (k:=1) rfl (by simp) ?_;refine Hm (λF τ=>∃(c:C4) (ds:km C4) (j u v w:kd AV),F=LW ((c::ds).map cor) (ds.map cor)/\Ef (c::ds)/\(∀d∈c::ds,DA B d)/\spotG c ds m=spotG a r m/\τ= [some (.val (Ay (a::r))),some (.val (fr m)),j,u,v,w]) ?_ ?_ _ _ ⟨a,r,none,none,none,none,rfl,D,hc,rfl,rfl⟩
   .rintro τ ⟨c,ds,j,u,v,w,o,A,hb,es,rfl⟩;have:ds= [] :=by cases ds with | nil=>rfl|cons d ds=>cases o
    subst this;rw[<-es] at q;exact q
   .rintro x F τ R L ⟨c,ds,j,u,v,w,o,A,hb,es,rfl⟩;cases ds with
    | nil=>cases o
    | cons d ds=>
      cases o;have g:=hb c (by simp);have h:=hb d (by simp);have G:=(AAI.mp A).1 d (by simp);refine⟨rfl,rfl,Cu (h.m.mono (by omega)) m1 ?_⟩;refine Gr (b:= !decide (d.1<m)) (λz=> ?_) (λz=> ?_)
      .have C:¬d.1<m:=by simpa using z
       rw[<-es] at q;simp only[spotG,AAC C,Ul,d8,inter] at q;have s:=Bd.share g h p G;refine⟨rfl,Cc m1 (g.m.mono (by omega)) ⟨rfl,Cc (h.m.mono (by omega)) (g.m.mono (by omega)) ⟨rfl,Gf (SU G) ((p.sub g.m).mono (by omega)) ((h.m.sub g.m).mono (by omega)) ?_⟩⟩⟩;refine⟨lz,lz, ?_⟩;refine⟨rfl,Cc (h.x.mono (by omega)) (g.x.mono (by omega)) ⟨rfl,Ci (s.mono (by omega)) ((h.x.sub g.x).mono (by omega)) ?_⟩⟩;refine⟨rfl,Cc (h.y.mono (by omega)) (g.y.mono (by omega)) ⟨rfl,Ci (s.mono (by omega)) ((h.y.sub g.y).mono (by omega)) ?_⟩⟩;refine⟨rfl,Cc (h.z.mono (by omega)) (g.z.mono (by omega)) ⟨rfl,Ci (s.mono (by omega)) ((h.z.sub g.z).mono (by omega)) ?_⟩⟩;refine⟨⟨by decide,by decide⟩,lz, ?_⟩;refine⟨rfl,DQ (g.x.mono (by omega)) ((s.mul (h.x.sub g.x)).mono (by omega)) ?_⟩;refine⟨rfl,DQ (g.y.mono (by omega)) ((s.mul (h.y.sub g.y)).mono (by omega)) ?_⟩;exact⟨rfl,DQ (g.z.mono (by omega)) ((s.mul (h.z.sub g.z)).mono (by omega)) q⟩
      .have C:d.1<m:=by simpa using z
       exact L _ ⟨d,ds,_,_,_,_,rfl,(AAI.mp A).2,λe he=>hb e (by simp[he]),by rw[<-es];simp only[spotG,AAD C],rfl⟩
def j9.t3 {t:T3}(h:KL 1900 t):j9 (d8 t):=(Sh.tup (qG (Sh.fr h.x) (Sh.fr h.y) (Sh.fr h.z))).go (by decide) lz
def sp (cs:km C4)(m:Rat):C4:=(m,(spotC cs m).getD (0,0,0))
def Z4 (f t:Rat)(c:C4):gn:=decide (f<c.1)&&decide (c.1<t)
def FX (cs:km C4)(f t:Rat):km C4:=sp cs f::(cs.filter (Z4 f t) ++ [sp cs t])
theorem Od {m:Rat}:∀{a:C4} {r:km C4} {l:C4},r≠ [] ->(a::r).getLast?=some l->m<=l.1->∃t,spotG a r m=some t
 | a, [],l,h,_,_=>absurd rfl h
 | a,b::r,l,_,e,hm=>by
   simp only[spotG];split
   .rename_i h;cases r with
    | nil=>
      have:b=l:=by simpa using e
      subst this;grind
    | cons c r=>exact Od (l:=l) (by simp) (by simpa[AB3] using e) hm
   .exact ⟨_,rfl⟩
def FF {a:C4}{r:km C4}{l:C4}{m:Rat}(h2:r≠ [])(e:(a::r).getLast?=some l)(b:a.1<=m)(h1:m<=l.1):∃t,spotC (a::r) m=some t:=by simp only[spotC];rw[AAC (by grind)];exact Od h2 e h1
def F6 {a b l:C4}{r:km C4}(e:(a::b::r).getLast?=some l):(b::r).getLast?=some l:=by simpa[AB3] using e
def mx (b a:Rat):Rat:=if b<a then a else b
def mn (e l:Rat):Rat:=if e<l then e else l
def Jz:kd (km C4)->PV
 | none=> .non
 | some ds=>Ay ds
def Mo:AS:=
 (Ao (fH (Al (AN 2 Ai (AB (aV 0) (AB (aV 1) AL)))) (aV 1) (aV 0)))
def Cs:AF:=As 2 Mo
def JZ {a b:Rat}(ha:Bd 4000 a)(hb:Bd 4000 b){Q:PV->Prop}(q:Q (fr (mx a b))):Cs [fr a,fr b] Q:=by
 refine⟨rfl,Cu ha hb ?_⟩;refine Gr (b:=decide (a<b)) (λz=> ?_) (λz=> ?_)
 .rw [mx,AAD (ABi z)] at q;exact q
 .rw [mx,AAC (ABj z)] at q;exact q
theorem EA {i:Type}{g:AG}{j:AT}{l:AE}{d:BL}{Q:km PV->Prop}(f k:i->PV)(p:i->gn)(P:i->Prop)(hs:∀a,P a->∀(R:PV->Prop) (N:Prop),(p a=true->R (k a))->(p a=false->N)->g (f a) d λe=>j e λok=>if ok=true then l e R else N):∀(xs:km i) (c:km PV),(∀a∈xs,P a)->Q (c++(xs.filter p).map k)->Cy g j l d Q (xs.map f) c
 | [],c,_,h=>(by simpa using h:Q c)
 | a::xs,c,hp,h=>by
   refine hs a (hp a (by simp)) (λy=>Cy g j l d Q (xs.map f) (c ++ [y])) _ (λz=> ?_) (λz=> ?_)
   .exact EA f k p P hs xs _ (λb hb=>hp b (by simp[hb])) (by simpa[AAx,z] using h)
   .exact EA f k p P hs xs _ (λb hb=>hp b (by simp[hb])) (by simpa[AAx,z] using h)
def both {f t:Rat}{c:C4}{b:(gn->Prop)->Prop}{A:Prop}{N:Prop}(h1:Z4 f t c=true->A)(h2:Z4 f t c=false->N):if decide (f<c.1)=true then (if decide (c.1<t)=true then A else N) else N:=by unfold Z4 at h1 h2;refine Gr (λz=>Gr (λa=>h1 (by rw[z,a];rfl)) (λa=>h2 (by rw[z,a];rfl))) (λz=>h2 (by rw[z];rfl))
def Sg:AS:=
 (Ao (AX A4 (Az (AB (aV 1) AL)) (AN 2 Hg (AB (aV 0) (AB (aV 1) AL)))))
def FR:AF:=As 2 Sg
def NL {cs:km C4}{v:PV}{B M:Nat}{m:Rat}(hv:FT cs v)(hc:∀c∈cs,DA B c)(a:Ef cs)(b:cs≠ [])(hl:cs.length<=1000)(d:Bd M m)(f:M+6*B+10<=3990)(hs:∃t,spotC cs m=some t){Q:PV->Prop}(q:Q (cor (sp cs m))):FR [v,fr m] Q:=by obtain⟨t,e⟩:=hs;unfold sp at q;rw[e] at q;refine⟨lz,rfl,Q1 hv hc a b hl d f ?_⟩;rw[e];exact⟨lz,q⟩
def Bd.mx {n:Nat}{a b:Rat}(ha:Bd n a)(hb:Bd n b):Bd n (mx a b):=by unfold PL.mx;split <;> assumption
def Bd.mn {n:Nat}{a b:Rat}(ha:Bd n a)(hb:Bd n b):Bd n (mn a b):=by unfold PL.mn;split <;> assumption
def Xq (b a:Rat):a<=mx b a:=by unfold mx;split <;> grind
section
variable {a b:AS}{ta tb:AE}{tt tu:AT}{g:AG}{gs:Ux}{nx bk ct:BL->Prop}{rt:PV->Prop}{τ:BL}{Q:PV->Prop}{QB:gn->Prop}{QL:km PV->Prop}{QT:BL->Prop}{r:AA}{ai:AI}{F:AF}{n i j:Nat}{x y z:PV}{xs ys:km PV}
def qm {f:IV}(e:QI τ i=some (.val x))(h:ta τ λy=>f x y λz=>nx (τ.set i (some (.val z)))):VI i f ta ⟨nx,rt,bk,ct⟩ τ:=by unfold VI;rw[e];exact h
def qz (e:QI τ i=some (.own xs))(h:QL xs):NR i τ QL:=by unfold NR;rw[e];exact h
def s_V (e:QI τ i=some (.val x))(h:Q x):aV i τ Q:=by unfold aV;rw[e];exact h
def xD (x:PV)(i:Int):kd PV:=match x with | .tup xs=>KM xs i | .lst xs=>KM xs i|_=>none
def u3 {i:Int}(e:xD x i=some z)(h:Q z):Aj x (.int i) Q:=by cases x <;> first | (cases e;done)|(show aD (KM _ i) Q;rw[show KM _ i=some z from e];exact h)
def my {l:C4}{cs:km C4}(c:cs.getLast?=some l)(h:Q (cor l)):Aj (Ay cs) (.int (-1)) Q:=Ta c h
def qo {a b:Rat}(h:Q (.bl (decide (a=b)))):JO (fr a) (fr b) Q:=⟨⟨Xr 29 _,Xr 29 _⟩,by rw[bF];exact h⟩
def qy {a b:Rat}(h:Q (.bl (!decide (a=b)))):Vc (fr a) (fr b) Q:=⟨⟨Xr 29 _,Xr 29 _⟩,by rw[bF];exact h⟩
def m9 {cs:km C4}(h:Q (.int cs.length)):Gq [Ay cs] Q:=by show Q (.int (cs.map cor).length);rw[AAK];exact h
def qw {T:String}{k:Kd}(c:cG T)(e:kdOf x=some k)(h:Q (.bl (RV k T))):TZ [x, .ty T] Q:=by refine⟨c, ?_⟩;rw[e];exact h
def jj {g:km gn->gn}{bs:km gn}(e:Ji xs=some bs)(h:Q (.bl (g bs))):bR g [.lst xs] Q:=by show (match Ji xs with | some bs=>Q (.bl (g bs))|none=>False);rw[e];exact h
def qt {c:gn}{A B:Prop}(e:c=true)(h:A):if c=true then A else B:=by rw[AAD e];exact h
def qr {c:gn}{A B:Prop}(e:c=false)(h:B):if c=true then A else B:=by rw[AAC (by rw[e];exact AAO)];exact h
def qu {p:Prop}[Decidable p]{A B:Prop}(h1:p->A)(h2:¬p->B):if decide p=true then A else B:=by
 by_cases h:p
 .rw [AAD (AAi h)];exact h1 h
 .rw [AAC (by simp[h])];exact h2 h
def qv {p:Prop}[Decidable p]{A B:Prop}(h1:¬p->A)(h2:p->B):if (!decide p)=true then A else B:=by
 by_cases h:p
 .rw [AAC (by simp[h])];exact h2 h
 .rw [AAD (by simp[h])];exact h1 h
end
def gH:Bd 1 (0:Rat):=⟨by decide,by decide⟩
def oD:Bd 1 (1:Rat):=⟨by decide,by decide⟩
section
variable {g:AG}{b:AS}{nx bk ct:BL->Prop}{rt:PV->Prop}
def RH (P:Nat->BL->Prop){lo:Int}{n:Nat}(hd:∀τ,P n τ->nx τ)(hs:∀i,i<n->∀τ (R:BL->Prop),(∀τ,P (i+1) τ->R τ)->P i τ->g (.int (lo+i)) τ λc=>b ⟨R,rt,nx,R⟩ c){τ:BL}(f:P 0 τ):EO g b ⟨nx,rt,bk,ct⟩ (rng lo n) τ:=by
 refine Hm (λr τ=>∃i,i<=n/\r=rng (lo+i) (n-i)/\P i τ) ?_ ?_ _ _ ⟨0,ABS _,by simp,f⟩
 .rintro τ ⟨i,hi,a,hp⟩;have:n-i=0:=by
   cases e:n-i with
   | zero=>rfl
   | succ k=>rw[e,J4] at a;cases a
  have:i=n:=by omega
  subst this;exact hd τ hp
 .rintro x r τ R h ⟨i,hi,a,hp⟩;cases e:n-i with
  | zero=>rw[e] at a;cases a
  | succ k=> rw[e,J4] at a;cases a;exact hs i (by omega) τ R (λd h2=>h d ⟨i+1,by omega,by rw[show n-(i+1)=k by omega,show lo+((i+1:Nat):Int)=lo+i+1 by omega],h2⟩) hp
def Dd {d:Type}(f:d->PV)(P:km d->km d->BL->Prop){cs:km d}(hd:∀τ,P cs [] τ->nx τ)(hs:∀a c vs,a++c::vs=cs->∀τ (R:BL->Prop),(∀τ,P (a ++ [c]) vs τ->R τ)->P a (c::vs) τ->g (f c) τ λi=>b ⟨R,rt,nx,R⟩ i){τ:BL}(k:P [] cs τ):EO g b ⟨nx,rt,bk,ct⟩ (cs.map f) τ:=by
 refine Hm (λr τ=>∃a vs,a++vs=cs/\r=vs.map f/\P a vs τ) ?_ ?_ _ _ ⟨[],cs,rfl,rfl,k⟩
 .rintro τ ⟨a,vs,e,h,hp⟩;cases vs with
  | nil=>rw[ADJ] at e;subst e;exact hd τ hp
  | cons v vs=>cases h
 .rintro x r τ R l ⟨a,vs,e,h,hp⟩;cases vs with
  | nil=>cases h
  | cons c vs=> cases h;exact hs a c vs e τ R (λj h2=>l j ⟨a ++ [c],vs,by simpa using e,rfl,h2⟩) hp
def rW {c:AT}(P:Nat->BL->Prop)(hs:∀n τ (R:BL->Prop),(∀τ,P n τ->R τ)->P (n+1) τ->c (frz τ) λk=>if k=true then b ⟨R,rt,nx,R⟩ τ else nx τ)(a:∀τ,¬P 0 τ){n:Nat}{τ:BL}(d:P n τ):Kv c b ⟨nx,rt,bk,ct⟩ τ:=
 ⟨n,Wx P a (λn τ R e hp=>hs n τ R e hp) n τ d⟩
end
end PL
namespace PL
section
variable {p:Prop}[Decidable p]{A B:Prop}
def mq (h:¬p)(a:B):if decide p=true then A else B:=by rw[AAC (by simp[h])];exact a
end
end PL
namespace PL
open PySem PySem.Spec PyProof.Rows L2
def Kc (K:AAB)(mg:Str->kd kj)(x:Str)(v:PV):Prop:=∃(u:kj) (V:V),mg x=some u/\RelV V u/\∀T M H,CF K T M H V v
def Kt (K:AAB)(P:Params)(mg:Str->kd kj)(x:Str)(a:km (Str×PV)):Prop:=∃(d:ke) (es:Array DictEntry) (n:Nat),mg x=some (.ref d)/\K.lookup d=some ⟨.type "dict",none, .dict es n, #[]⟩/\PySem.W.KeysLit P es.toList/\
 ∀s v,a.lookup s=some v->∃(u:kj) (V:V),PySem.W.nsIn K d s=some (some u)/\RelV V u/\∀T M H,CF K T M H V v
section
variable {K:AAB}{T M:ke->Prop}{H:Hp}
def BY {i:Int}{t:Tok}:∃V,RelV V (.int i t)/\∀T M H,CF K T M H V (.int i):=⟨.int i,⟨t,rfl⟩,λ_ _ _=> .int i⟩
inductive KR (K:AAB):List Value->List PV->Prop where
 | nil:KR K [] []
 | cons {u:Value} {x:PV} {us:List Value} {xs:List PV} (h:∃V,RelV V u/\∀T M H,CF K T M H V x) (t:KR K us xs):KR K (u::us) (x::xs)
theorem KR.reps:∀{a:km kj} {xs:km PV},KR K a xs->∃vs,Ax vs a/\∀T M H,BB K T M H vs xs
 | _,_, .nil=>⟨[], .nil,λ_ _ _=> .nil⟩
 | _,_, .cons ⟨V,r,h⟩ t=>by obtain⟨vs,b,h2⟩:=KR.reps t;exact⟨V::vs, .cons r b,λT M H=> .cons (h T M H) (h2 T M H)⟩
def KR.length:∀{a:km kj} {xs:km PV},KR K a xs->a.length=xs.length
 | _,_, .nil=>rfl
 | _,_, .cons _ t=>by simp[t.length]
def Fa {a:ke}{b:km kj}{xs:km PV}{n:Nat}{c:kd ke}{sl:Array (kd kj)}(hl:K.lookup a=some ⟨.type "tuple",c, .seq b.toArray n,sl⟩)(h:KR K b xs)(hs:xs.length<=sizeLine:=by decide):∃V,RelV V (.ref a)/\∀T M H,CF K T M H V (.tup xs):=by obtain⟨vs,r,q⟩:=h.reps;refine⟨.ref a,rfl,λT M H=> .tup (vs:=vs) (.inr ⟨_,b.toArray,n,hl,rfl,rfl, ?_,by simpa using r⟩) (q T M H)⟩;rw[AAN,h.length];exact hs
end
def jV {K:AAB}{mg:Str->kd kj}{x:Str}{u:kj}{v:PV}(a:mg x=some u)(h:∃V,RelV V u/\∀T M H,CF K T M H V v):Kc K mg x v:=let ⟨V,r,q⟩:=h;⟨u,V,a,r,q⟩
def VD (K:AAB)(d:ke):km (Str×PV)->Prop
 | [] =>True
 | p::r=>(∃(u:kj) (V:V),PySem.W.nsIn K d p.1=some (some u)/\RelV V u/\∀T M H,CF K T M H V p.2)/\VD K d r
def F5 {K:AAB}{d:ke}{s:Str}{v:PV}{r:km (Str×PV)}{u:kj}(e:PySem.W.nsIn K d s=some (some u))(h:∃V,RelV V u/\∀T M H,CF K T M H V v)(t:VD K d r):VD K d ((s,v)::r):=let ⟨V,a,b⟩:=h;⟨⟨u,V,e,a,b⟩,t⟩
theorem VD.get {K:AAB}{d:ke}:∀{c:km (Str×PV)},VD K d c->∀s v,c.lookup s=some v->∃(u:kj) (V:V),PySem.W.nsIn K d s=some (some u)/\RelV V u/\∀T M H,CF K T M H V v
 | [],_,s,v,e=>by cases e
 | (a,b)::r,h,s,v,e=>by
   rw[AEG] at e;split at e
   .rename_i hb;cases e;have:s=a:=eq_of_beq hb;subst this;exact h.1
   .exact VD.get h.2 s v e
def pq {K:AAB}{P:Params}{mg:Str->kd kj}{x:Str}{d:ke}{es:Array DictEntry}{n:Nat}{a:km (Str×PV)}(b:mg x=some (.ref d))(hl:K.lookup d=some ⟨.type "dict",none, .dict es n, #[]⟩)(hk:PySem.W.KeysLit P es.toList)(h:VD K d a):Kt K P mg x a:=⟨d,es,n,b,hl,hk,h.get⟩
def Ep:km (Str×PV):= [("east", .tup [.int 1, .int 0, .int 0]),("west", .tup [.int (-1), .int 0, .int 0]),("north", .tup [.int 0, .int 1, .int 0]),("south", .tup [.int 0, .int (-1), .int 0]),("up", .tup [.int 0, .int 0, .int 1]),("down", .tup [.int 0, .int 0, .int (-1)])]
section
variable {X:Cx}
def OX {x:Str}{v:PV}{pos:Pos}(c:Kc X.K X.mg x v)(a:Gl X x)(hd:(x==("__debug__" :Str))=false:=by decide):SE X (.Name x pos) (aC v):=by obtain⟨u,V,b,r,h⟩:=c;exact⟨_,Xy a b r hd,QR h⟩
def kI (a:km (Str×PV))(b:AE):AE:=λτ Q=>b τ λx=>match x with | .str s=>aD (a.lookup s) Q|_=>False
def u0 (K:AAB)(d:ke):R2:=λx y H Q=>x= .ref d/\∃s V u,y= .str s/\PySem.W.nsIn K d s=some (some u)/\RelV V u/\Q V H
def lK {d:ke}{es:Array DictEntry}{n:Nat}(hl:X.K.lookup d=some ⟨.type "dict",none, .dict es n, #[]⟩)(hk:PySem.W.KeysLit X.w.params es.toList):fE X (u0 X.K d):=by intro value slice g s i H x y v u Q I c f h hs;obtain⟨rfl,z,V,j,rfl,e,rV,q⟩:=h;cases c;obtain⟨t,rfl⟩:=f;have b:=PySem.W.mapOf_K (prog:=X.prog) (w:=X.w) (h:=s.heap) (λa o e=>I.kIn a o e) hl hk;exact tail_any b.typeIs slot_dict_getitem.lookup (wpAny_getItem_of (strKind_is X.prog X.w z t) b (PySem.W.find_K hl e) ⟨V,H,I.tok _,rV,q⟩) hs
def nI {x:Str}{p pos:Pos}{i:kc}{a:AE}{b:km (Str×PV)}(c:Kt X.K X.w.params X.mg x b)(f:Gl X x)(hi:SE X i a)(hs:MW i)(hd:(x==("__debug__" :Str))=false:=by decide):SE X (.Subscript (.Name x p) i pos) (kI b a):=by
 obtain⟨d,es,n,g,hl,hk,j⟩:=c;obtain⟨t,l,s⟩:=hi;refine⟨_,J0 (lK hl hk) (Xy (v:= .ref d) f g rfl hd) l hs,λB T m τ H Q D o h k=> ?_⟩;refine s B T m τ H _ _ o h λv x T1 H1 y z h1=> ?_;cases z <;> first | exact h1.elim|skip
 obtain⟨w,e,q⟩:=cj h1;obtain⟨u,V,A,r,C⟩:=j _ _ e;exact⟨rfl,_,V,u,rfl,A,r,k V w T1 H1 y (C _ _ _) q⟩
def jS (x:PV)(xs:km PV):gn:=xs.any λy=>kU y x
def jL (neg:gn):IV:=λx y Q=>Oo y λys=>(C2 29 x=true/\Fh 29 ys=true)/\Q (.bl (if neg then !jS x ys else jS x ys))
def iO (K:AAB)(neg:gn):R2:=λu v H Q=>∃(T M:ke->Prop) (x y:PV) (ys:km PV),CF K T M H u x/\CF K T M H v y/\(y= .tup ys\/y= .lst ys)/\C2 29 x=true/\Fh 29 ys=true/\Q (.bl (if neg then !jS x ys else jS x ys)) H
def Xw (xs:km PV)(x:PV):(Op xs).any (λy=>PyData.eqv y (pd x))=jS x xs:=by
 induction xs with
 | nil=>rfl
 | cons y ys ih=>simp only[Op,ABr,ih,jS,kU]
def mB {k:Nat}(f:Room k X.A):D9 X (compareOp .In) (iO X.K false):=by
 intro j s l H u v m n Q I g rv h;obtain⟨T,M,x,y,ys,i,b,hy,c,ky,q⟩:=h;obtain⟨as,ra⟩:=ES I 29 i c g;obtain⟨d,o,_⟩:=Hq 29 x c;obtain⟨e,b2,_⟩:=Jw 29 ys ky;have hu:X.A.units+1+min (PyData.depthAll (Op ys)) (pd x).depth<cLine:=by have:=f.un;omega
 rcases hy with rfl|rfl
 .obtain ⟨bs,a⟩:=ES I 30 b (by simpa[C2] using ky) rv;exact SeqAt.in_tuple_reads a ra e d hu (by rw[Xw];exact⟨.bl _,H,I,rfl,q⟩)
 .obtain ⟨bs,a⟩:=ES I 30 b (by simpa[C2] using ky) rv;exact SeqAt.in_list_reads a ra e d hu (by rw[Xw];exact⟨.bl _,H,I,rfl,q⟩)
def ib {neg:gn}:CC X.K (iO X.K neg) (jL neg):=λT M H u v x y Q b va a rv h k=>by obtain⟨ys,hy,h1,q⟩:=HK h;exact⟨T,M,x,y,ys,a,rv,hy,h1.1,h1.2,k _ _ T H (.refl va.tp) (.bl _) q⟩
def jm {k:Nat}(a:Room k X.A):D9 X (compareOp .In) (iO X.K false)/\CC X.K (iO X.K false) (jL false):=⟨mB a,ib⟩
end
end PL
namespace PL
open PySem L2 PyProof.Rows
class Wp (P:Prop) (P':outParam Prop):Prop where
 go:P'->P
class Pw (P:Prop) (C P':outParam Prop):Prop where
 go:C->P'->P
class wW (P:Prop) (P':outParam Prop):Prop where
 go:P'->P
class tR (P:Prop) (A B:outParam Prop):Prop where
 go:A->B->P
class fq (τ:BL) (i:Nat) (x:outParam AV):Prop where
 e:QI τ i=some x
instance{v:AV}{r:BL}:fq (some v::r) 0 v:=⟨rfl⟩
instance{y:kd AV}{r:BL}{i:Nat}{v:AV}[h:fq r i v] :fq (y::r) (i+1) v:=⟨h.e⟩
class Yf (τ:BL) (i:Nat) (v:AV) (τ':outParam BL):Prop where
 e:τ.set i (some v)=τ'
instance{y:kd AV}{r:BL}{v:AV}:Yf (y::r) 0 v (some v::r):=⟨rfl⟩
instance{y:kd AV}{r a:BL}{i:Nat}{v:AV}[h:Yf r i v a] :Yf (y::r) (i+1) v (y::a):=⟨by rw[AER,h.e]⟩
class Z3 (τ:BL) (τ':outParam BL):Prop where
 e:frz τ=τ'
instance:Z3 [] [] :=⟨rfl⟩
instance (priority:=low){z:kd AV}{r a:BL}[h:Z3 r a] :Z3 (z::r) (gK z::a):=⟨by rw[<-h.e];rfl⟩
instance{r a:BL}[h:Z3 r a] :Z3 (none::r) (none::a):=⟨by rw[<-h.e];rfl⟩
instance{x:PV}{r a:BL}[h:Z3 r a] :Z3 (some (.val x)::r) (some (.val x)::a):=⟨by rw[<-h.e];rfl⟩
instance{x:km PV}{r a:BL}[h:Z3 r a] :Z3 (some (.own x)::r) (some (.val (.lst x))::a):=⟨by rw[<-h.e];rfl⟩
class rY (ix:List Nat) (τ:BL) (τ':outParam BL):Prop where
 e:(ix.map λi=>Yk (QI τ i))=τ'
instance{τ:BL}:rY [] τ [] :=⟨rfl⟩
instance{τ r:BL}{i:Nat}{ix:km Nat}{x:PV}[h:fq τ i (.val x)][h2:rY ix τ r] :rY (i::ix) τ (some (.val x)::r):=⟨by rw[AAP,h.e,h2.e];rfl⟩
class rc (n:Nat) (τ:outParam BL):Prop where
 e:List.replicate n none=τ
instance:rc 0 [] :=⟨rfl⟩
instance{n:Nat}{τ:BL}[h:rc n τ] :rc (n+1) (none::τ):=⟨by rw[ABo,h.e]⟩
class fV (xs ys:BL) (zs:outParam BL):Prop where
 e:xs++ys=zs
instance{ys:BL}:fV [] ys ys:=⟨rfl⟩
instance{x:kd AV}{xs ys a:BL}[h:fV xs ys a] :fV (x::xs) ys (x::a):=⟨by rw[ADl,h.e]⟩
class aM (xs ys:List PV) (zs:outParam (List PV)):Prop where
 e:xs++ys=zs
instance{ys:km PV}:aM [] ys ys:=⟨rfl⟩
instance{x:PV}{xs ys a:km PV}[h:aM xs ys a] :aM (x::xs) ys (x::a):=⟨by rw[ADl,h.e]⟩
class fw (xs:List PV) (n:outParam Nat):Prop where
 e:xs.length=n
instance:fw [] 0:=⟨rfl⟩
instance{x:PV}{xs:km PV}{n:Nat}[h:fw xs n] :fw (x::xs) (n+1):=⟨by rw[AAc,h.e]⟩
class Ix (x:PV) (i:Int) (y:outParam PV):Prop where
 e:xD x i=some y
section
variable {a b:AS}{ta tb:AE}{tt tu:AT}{g:AG}{gs:Ux}{nx bk ct:BL->Prop}{rt:PV->Prop}{τ τ' τ2:BL}{Q:PV->Prop}{QB:gn->Prop}{QL:km PV->Prop}{QT:BL->Prop}{r:AA}{ai:AI}{F:AF}{n i j:Nat}{x y z:PV}{xs ys zs:km PV}
instance{c:PV}{q:km PV}:Ix (.tup (c::q)) 0 c:=⟨Ei (j:=0) rfl⟩
instance{d c:PV}{q:km PV}:Ix (.tup (d::c::q)) 1 c:=⟨Ei (j:=1) rfl⟩
instance{d e c:PV}{q:km PV}:Ix (.tup (d::e::c::q)) 2 c:=⟨Ei (j:=2) rfl⟩
instance{q:Rat}:Ix (fr q) 0 (.int q.num):=⟨rfl⟩
instance{q:Rat}:Ix (fr q) 1 (.int q.den):=⟨rfl⟩
instance{c:C4}:Ix (cor c) 0 (fr c.1):=⟨rfl⟩
instance{c:C4}:Ix (cor c) 1 (fr c.2.1):=⟨rfl⟩
instance{c:C4}:Ix (cor c) 2 (fr c.2.2.1):=⟨rfl⟩
instance{c:C4}:Ix (cor c) 3 (fr c.2.2.2):=⟨rfl⟩
instance{t:T3}:Ix (d8 t) 2 (fr t.2.2):=⟨rfl⟩
def tV {f:C4->PV}{c:C4}{cs:km C4}:KM ((c::cs).map f) 0=some (f c):=Ei (j:=0) rfl
instance{c:C4}{cs:km C4}:Ix (Ay (c::cs)) 0 (cor c):=⟨tV⟩
instance:Wp (AZ a b ⟨nx,rt,bk,ct⟩ τ) (a ⟨b ⟨nx,rt,bk,ct⟩,rt,bk,ct⟩ τ):=⟨id⟩
instance:Wp (Ak ta g ⟨nx,rt,bk,ct⟩ τ) (ta τ λx=>g x τ nx):=⟨id⟩
instance[h:Z3 τ τ'] :Wp (Ao ta ⟨nx,rt,bk,ct⟩ τ) (ta τ' rt):=⟨λk=>by unfold Ao;rw[h.e];exact k⟩
instance:Wp (BE ⟨nx,rt,bk,ct⟩ τ) (nx τ):=⟨id⟩
instance:Wp (Bb tt a b ⟨nx,rt,bk,ct⟩ τ) (tt τ λk=>if k=true then a ⟨nx,rt,bk,ct⟩ τ else b ⟨nx,rt,bk,ct⟩ τ):=⟨id⟩
def di (τ:BL)(i:Nat)(v:AV)(QT:BL->Prop):Prop:=QT (τ.set i (some v))
instance{v:AV}[h:Yf τ i v τ'] :Wp (di τ i v QT) (QT τ'):=⟨λk=>by unfold di;rw[h.e];exact k⟩
instance:Wp (Je r i ⟨nx,rt,bk,ct⟩ τ) (r τ λxs=>di τ i (.own xs) nx):=⟨id⟩
instance[h:Yf τ i (.val x) τ'] :Wp (An i x τ QT) (QT τ'):=⟨λk=>by unfold An;rw[h.e];exact k⟩
instance{f:IV}[h:fq τ i (.val x)] :Wp (VI i f ta ⟨nx,rt,bk,ct⟩ τ) (ta τ λy=>f x y λz=>di τ i (.val z) nx):=⟨λk=>qm h.e k⟩
instance[h:fq τ i (.own xs)] :Wp (NR i τ QL) (QL xs):=⟨λk=>qz h.e k⟩
instance{f:jG}:Wp (EN i f r ⟨nx,rt,bk,ct⟩ τ) (NR i τ λxs=>r τ λys=>f xs ys λzs=>di τ i (.own zs) nx):=⟨id⟩
instance:Wp (Ir xs [y] QL) (xs.length<sizeLine/\QL (xs ++ [y])):=⟨id⟩
instance{k:Int}:Wp (gm xs [.int k,y] QL) ((0<=k/\k<=(xs.length:Int)/\xs.length<sizeLine)/\QL (xs.take k.toNat++y::xs.drop k.toNat)):=⟨id⟩
instance[h:fq τ i (.own xs)][h2:Yf τ i (.val (.lst xs)) τ'] :Wp (Yg i a ⟨nx,rt,bk,ct⟩ τ) (a ⟨nx,rt,bk,ct⟩ τ'):=⟨λk=>by unfold Yg frz1;rw[h.e];show a ⟨nx,rt,bk,ct⟩ (τ.set i (some (.val (.lst xs))));rw[h2.e];exact k⟩
instance:Wp (E3 ai g b ⟨nx,rt,bk,ct⟩ τ) (ai τ λxs=>EO g b ⟨nx,rt,bk,ct⟩ xs τ):=⟨id⟩
instance:Wp (EO g b ⟨nx,rt,bk,ct⟩ [] τ) (nx τ):=⟨id⟩
instance{q:km PV}:wW (EO g b ⟨nx,rt,bk,ct⟩ (x::q) τ) (g x τ λc=>b ⟨EO g b ⟨nx,rt,bk,ct⟩ q,rt,nx,EO g b ⟨nx,rt,bk,ct⟩ q⟩ c):=⟨id⟩
instance:Wp (Bm [] τ QT) (QT τ):=⟨id⟩
instance{t:km PV}:Wp (AY g gs (x::t) τ QT) (g x τ λτ'=>gs t τ' QT):=⟨id⟩
instance:Wp (IJ n gs x τ QT) (Oo x λxs=>xs.length=n/\gs xs τ QT):=⟨id⟩
instance[h:fq τ i (.val x)] :Wp (aV i τ Q) (Q x):=⟨λk=>s_V h.e k⟩
instance:Wp (aC x τ Q) (Q x):=⟨id⟩
instance{f:IV}:Wp (AX f ta tb τ Q) (ta τ λx=>tb τ λy=>f x y Q):=⟨id⟩
instance{f:PV->(PV->Prop)->Prop}:Wp (MC f ta τ Q) (ta τ λx=>f x Q):=⟨id⟩
instance:Wp (VH ta tb τ Q) (ta τ λx=>hG x λc=>if c=true then tb τ Q else Q (.bl false)):=⟨id⟩
instance:Wp (tS ta tb τ Q) (ta τ λx=>hG x λc=>if c=true then Q (.bl true) else tb τ Q):=⟨id⟩
instance:Wp (Al ta τ QB) (ta τ λx=>hG x QB):=⟨id⟩
def xO (x:PV)(QB:gn->Prop):Prop:=match jA x with | some b=>QB b|none=>False
instance:Wp (kJ ta τ QB) (ta τ λx=>xO x QB):=⟨id⟩
instance{cs:km C4}:Wp (xO (Ay cs) QB) (QB (decide (cs≠ []))):=⟨λh=>by show QB (!(cs.map cor).isEmpty);cases cs <;> exact h⟩
instance:Wp (Dj tt τ QB) (tt τ λc=>QB (!c)):=⟨id⟩
instance:Wp (Gi tt tu τ QB) (tt τ λc=>if c=true then tu τ QB else QB false):=⟨id⟩
instance:Wp (F2 tt tu τ QB) (tt τ λc=>if c=true then QB true else tu τ QB):=⟨id⟩
instance:Wp (fH tt ta tb τ Q) (tt τ λc=>if c=true then ta τ Q else tb τ Q):=⟨id⟩
instance:Wp (EW τ QB) (QB true):=⟨id⟩
instance[h:Z3 τ τ'] :Wp (fz ta τ Q) (ta τ' λx=>fN x=true/\Q x):=⟨λk=>by unfold fz;rw[h.e];exact k⟩
instance[h:Z3 τ τ'] :Wp (W8 tt τ QB) (tt τ' QB):=⟨λk=>by unfold W8;rw[h.e];exact k⟩
instance:Wp (AL τ QL) (QL []):=⟨id⟩
instance:Wp (AB ta r τ QL) (ta τ λx=>r τ λxs=>QL (x::xs)):=⟨id⟩
def fM (xs:km PV)(Q:PV->Prop):Prop:=xs.length<=sizeLine/\Q (.tup xs)
instance:Wp (Az r τ Q) (r τ λxs=>fM xs Q):=⟨id⟩
instance:Wp (Dz r τ QL) (r τ λxs=>xs.length<=sizeLine/\QL xs):=⟨id⟩
instance:Wp (FI r τ Q) (r τ λxs=>Q (.lst xs)):=⟨id⟩
instance:Wp (AN n F r τ Q) (r τ λxs=>xs.length=n/\F xs Q):=⟨id⟩
instance:Wp (Ev F r τ Q) (r τ λxs=>F xs Q):=⟨id⟩
instance:Wp (ab r τ QL) (r τ λxs=>XX xs QL):=⟨id⟩
instance{own:Nat}{ix:km Nat}{f:AE}{c d:BL}[h1:rc own c][h2:rY ix τ d][h3:fV c d τ'] :Wp (B2 ai own ix g tt f τ QL) (ai τ λxs=>xs.length<sizeLine/\Cy g tt f τ' QL xs []):=⟨λk=>by unfold B2 PB;rw[h1.e,h2.e,h3.e];exact k⟩
instance{d:AE}{c:km PV}:Wp (Cy g tt d τ QL [] c) (QL c):=⟨id⟩
instance{e:AE}{c q:km PV}:Wp (Cy g tt e τ QL (x::q) c) (g x τ λd=>tt d λok=>if ok=true then e d λy=>Cy g tt e τ QL q (c ++ [y]) else Cy g tt e τ QL q c):=⟨id⟩
instance:Wp (HC ta τ QL) (ta τ λx=>Oo x QL):=⟨id⟩
instance:Wp (Yi (AB ta AL) τ QL) (ta τ λx=>aB x λj=>(-(2^62)<=j/\j<2^62)/\QL (rng 0 j.toNat)):=⟨λh=>by have e:(λx=>aB x λj=>(-(2^62)<=j/\j<2^62)/\QL (rng 0 j.toNat))=(λx=>match [x] with | [.int j] =>(-(2^62)<=j/\j<2^62)/\QL (rng 0 j.toNat)|_=>False):=(funext λx=>by cases x <;> rfl);rw[e] at h;exact h⟩
instance:Wp (gB (AB ta (AB tb AL)) τ QL) (ta τ λx=>tb τ λy=>ZZ x y λi j=>(-(2^62)<=i/\i<2^62/\ -(2^62)<=j/\j<2^62)/\QL (rng i (j-i).toNat)):=⟨λh=>by have e:(λx=>tb τ λy=>ZZ x y λi j=>(-(2^62)<=i/\i<2^62/\ -(2^62)<=j/\j<2^62)/\QL (rng i (j-i).toNat))=(λx=>tb τ λy=>match [x,y] with | [.int i, .int j] =>(-(2^62)<=i/\i<2^62/\ -(2^62)<=j/\j<2^62)/\QL (rng i (j-i).toNat)|_=>False):=(funext λx=>congrArg (tb τ) (funext λy=>by cases x <;> cases y <;> rfl));rw[e] at h;exact h⟩
instance:Wp (oC (AB ta (AB tb AL)) τ QL) (ta τ λx=>tb τ λy=>Oo x λxs=>Oo y λys=>QL (LW xs ys)):=⟨id⟩
instance{R:Int->Prop}{k:Int}:Wp (aB (.int k) R) (R k):=⟨id⟩
instance{R:Int->Int->Prop}{k l:Int}:Wp (ZZ (.int k) (.int l) R) (R k l):=⟨id⟩
instance{R:gn->Prop}{c:gn}:Wp (hG (.bl c) R) (R c):=⟨id⟩
instance:Wp (Oo (.tup xs) QL) (QL xs):=⟨id⟩
instance:Wp (Oo (.lst xs) QL) (QL xs):=⟨id⟩
instance{q:Rat}:Wp (Oo (fr q) QL) (QL [.int q.num, .int q.den]):=⟨id⟩
instance{c:C4}:Wp (Oo (cor c) QL) (QL [fr c.1,fr c.2.1,fr c.2.2.1,fr c.2.2.2]):=⟨id⟩
instance{cs:km C4}:Wp (Oo (Ay cs) QL) (QL (cs.map cor)):=⟨id⟩
instance{f:Int->Int->PV}{k l:Int}:Wp (fI f (.int k) (.int l) Q) (Q (f k l)):=⟨id⟩
instance{C:Int->Int->Prop}{f:Int->Int->PV}{k l:Int}:Wp (pD C f (.int k) (.int l) Q) (C k l/\Q (f k l)):=⟨id⟩
instance:Wp (HE .non .non Q) (Q (.bl true)):=⟨id⟩
instance:Wp (HF .non .non Q) (Q (.bl false)):=⟨id⟩
instance:Wp (HE (.tup xs) .non Q) (Q (.bl false)):=⟨id⟩
instance:Wp (HF (.tup xs) .non Q) (Q (.bl true)):=⟨id⟩
instance{k:Rat}:Wp (HE (fr k) .non Q) (Q (.bl false)):=⟨id⟩
instance{k:Rat}:Wp (HF (fr k) .non Q) (Q (.bl true)):=⟨id⟩
instance{k:km C4}:Wp (HE (Ay k) .non Q) (Q (.bl false)):=⟨id⟩
instance{k:Int}[h:Ix x k z] :Wp (Aj x (.int k) Q) (Q z):=⟨λq=>u3 h.e q⟩
instance{k:Int}:Wp (E4 (.int k) Q) (Q (.int (-k))):=⟨id⟩
instance w_not {c:gn}:Wp (kW (.bl c) Q) (Q (.bl (!c))):=⟨id⟩
instance{k l:Int}:Wp (A4 (.int k) (.int l) Q) (Q (.int (k+l))):=⟨id⟩
instance:Wp (A4 (.tup xs) (.tup ys) Q) (xs.length+ys.length<=sizeLine/\Q (.tup (xs++ys))):=⟨id⟩
instance (priority:=high)[h:aM xs ys zs]{n:Nat}[h2:fw zs n] :Wp (A4 (.tup xs) (.tup ys) Q) (n<=sizeLine/\Q (.tup zs)):=⟨λk=>⟨by have e:=h2.e;rw[<-h.e,AAn] at e;rw[e];exact k.1,by rw[h.e];exact k.2⟩⟩
instance:Wp (A4 (.lst xs) (.lst ys) Q) (xs.length+ys.length<=sizeLine/\Q (.lst (xs++ys))):=⟨id⟩
instance{k l:Int}:Wp (JO (.int k) (.int l) Q) (Q (.bl (decide (k=l)))):=⟨id⟩
instance{k l:Int}:Wp (Vc (.int k) (.int l) Q) (Q (.bl (!decide (k=l)))):=⟨id⟩
instance{k l:Str}:Wp (JO (.str k) (.str l) Q) (Q (.bl (decide (k=l)))):=⟨id⟩
instance{k l:gn}:Wp (Vc (.bl k) (.bl l) Q) (Q (.bl (!decide (k=l)))):=⟨id⟩
instance{k l:Rat}:Wp (JO (fr k) (fr l) Q) (Q (.bl (decide (k=l)))):=⟨qo⟩
instance{k l:Rat}:Wp (Vc (fr k) (fr l) Q) (Q (.bl (!decide (k=l)))):=⟨qy⟩
instance:Wp (Gq [.tup xs] Q) (Q (.int xs.length)):=⟨id⟩
instance{c:km Int}:Wp (Gq [.scr c] Q) (Q (.int c.length)):=⟨id⟩
instance{cs:km C4}:Wp (Gq [Ay cs] Q) (Q (.int cs.length)):=⟨m9⟩
instance (priority:=high){c:Type}{f:c->PV}{cs:km c}:Wp (Gq [.lst (cs.map f)] Q) (Q (.int cs.length)):=⟨λh=>by show Q (.int (cs.map f).length);rw[AAK];exact h⟩
instance{f:Int->Int->Int}{k l:Int}:Wp (kZ f [.int k, .int l] Q) (Q (.int (f k l))):=⟨id⟩
instance{c:gn}:Wp (Yy [.bl c] Q) (Q (.int (if c then 1 else 0))):=⟨id⟩
instance:Wp (B5 [.lst xs] Q) (Q (.tup xs)):=⟨id⟩
instance{c:km C4}:Wp (B5 [Ay c] Q) (Q (Ay c)):=⟨id⟩
instance:Wp (XX [.lst xs] QL) (QL xs):=⟨id⟩
instance{lo hi:kd Int}:Wp (RG (.tup xs) lo hi Q) (Q (.tup (FM xs lo hi))):=⟨DE⟩
instance{lo hi:kd Int}:Wp (RG (.lst xs) lo hi Q) (Q (.lst (FM xs lo hi))):=⟨Em⟩
instance{l h:AO}:Wp (Q4 ta l h τ Q) (ta τ λx=>l τ λlo=>h τ λhi=>RG x lo hi Q):=⟨id⟩
instance{R:kd Int->Prop}:Wp (Q5 τ R) (R none):=⟨id⟩
instance{R:kd Int->Prop}:Wp (Q6 ta τ R) (ta τ λx=>aB x λi=>R (some i)):=⟨id⟩
instance{A B:Prop}:Wp (if true=true then A else B) (A):=⟨λh=>by rw[AAD rfl];exact h⟩
instance{A B:Prop}:Wp (if false=true then A else B) (B):=⟨λh=>by rw[AAC AAO];exact h⟩
instance{A B:Prop}:Wp (if (!true)=true then A else B) (B):=⟨λh=>h⟩
instance{A B:Prop}:Wp (if (!false)=true then A else B) (A):=⟨λh=>h⟩
instance{p A B:Prop}[Decidable p] :tR (if decide p=true then A else B) (p->A) (¬p->B):=⟨qu⟩
instance{p A B:Prop}[Decidable p] :tR (if (!decide p)=true then A else B) (¬p->A) (p->B):=⟨qv⟩
instance{A:Prop}:Wp (([] :km PV).length<=sizeLine/\A) (A):=⟨λh=>⟨lz,h⟩⟩
instance{c:PV}{A:Prop}:Wp ([c].length=1/\A) (A):=⟨λh=>⟨rfl,h⟩⟩
instance{c:PV}{A:Prop}:Wp ([c].length<=sizeLine/\A) (A):=⟨λh=>⟨lz,h⟩⟩
instance{c:PV}{A:Prop}:Wp ([c].length<sizeLine/\A) (A):=⟨λh=>⟨lz,h⟩⟩
instance{c d:PV}{A:Prop}:Wp ([c,d].length=2/\A) (A):=⟨λh=>⟨rfl,h⟩⟩
instance{c d:PV}{A:Prop}:Wp ([c,d].length<sizeLine/\A) (A):=⟨λh=>⟨lz,h⟩⟩
instance{c d e:PV}{A:Prop}:Wp ([c,d,e].length=3/\A) (A):=⟨λh=>⟨rfl,h⟩⟩
instance{c d e:PV}{A:Prop}:Wp ([c,d,e].length<sizeLine/\A) (A):=⟨λh=>⟨lz,h⟩⟩
instance{c d e f:PV}{A:Prop}:Wp ([c,d,e,f].length=4/\A) (A):=⟨λh=>⟨rfl,h⟩⟩
instance{c d e f:PV}{A:Prop}:Wp ([c,d,e,f].length<=sizeLine/\A) (A):=⟨λh=>⟨lz,h⟩⟩
instance{c d e f k:PV}{A:Prop}:Wp ([c,d,e,f,k].length=5/\A) (A):=⟨λh=>⟨rfl,h⟩⟩
instance{c d e f k l:PV}{A:Prop}:Wp ([c,d,e,f,k,l].length=6/\A) (A):=⟨λh=>⟨rfl,h⟩⟩
instance{c d e f k l:PV}{A:Prop}:Wp ([c,d,e,f,k,l].length<=sizeLine/\A) (A):=⟨λh=>⟨lz,h⟩⟩
instance{c d e f k l m:PV}{A:Prop}:Wp ([c,d,e,f,k,l,m].length<=sizeLine/\A) (A):=⟨λh=>⟨lz,h⟩⟩
instance{c d e f k l m o p s:PV}{A:Prop}:Wp ([c,d,e,f,k,l,m,o,p,s].length<=sizeLine/\A) (A):=⟨λh=>⟨lz,h⟩⟩
instance{c:PV}:Wp (fM [c] Q) (Q (.tup [c])):=⟨λh=>⟨lz,h⟩⟩
instance{c d:PV}:Wp (fM [c,d] Q) (Q (.tup [c,d])):=⟨λh=>⟨lz,h⟩⟩
instance{c d e:PV}:Wp (fM [c,d,e] Q) (Q (.tup [c,d,e])):=⟨λh=>⟨lz,h⟩⟩
instance (priority:=high+10):Wp (fM [.int 0, .int 1] Q) (Q (fr 0)):=⟨λh=>⟨lz,h⟩⟩
instance (priority:=high+10):Wp (fM [.int 1, .int 1] Q) (Q (fr 1)):=⟨λh=>⟨lz,h⟩⟩
instance (priority:=high){k:Int}:Wp (fM [.int k, .int 1] Q) (Q (fr (k:Rat))):=⟨λh=>⟨lz,SY h⟩⟩
instance (priority:=high){p q r t:Rat}:Wp (fM [fr p,fr q,fr r,fr t] Q) (Q (cor (p,q,r,t))):=⟨λh=>⟨lz,h⟩⟩
instance (priority:=high){k:Rat}{p q r:Rat}:Wp (A4 (.tup [fr k]) (.tup [fr p,fr q,fr r]) Q) (Q (cor (k,p,q,r))):=⟨λh=>⟨lz,h⟩⟩
instance (priority:=high){k:Rat}{t:T3}:Wp (A4 (.tup [fr k]) (d8 t) Q) (Q (cor (k,t))):=⟨λh=>⟨lz,h⟩⟩
instance (priority:=high){k l:Rat}{q r:Rat}:Wp (A4 (.tup [fr k,fr l]) (.tup [fr q,fr r]) Q) (Q (cor (k,l,q,r))):=⟨λh=>⟨lz,h⟩⟩
def kX:PV.tup [.int 1, .int 2] =fr (1/2):=by unfold fr;rw[show ((1:Rat)/2).num=1 by decide +kernel,show ((1:Rat)/2).den=2 by decide +kernel];rfl
instance (priority:=high):Wp (fM [.int 1, .int 2] Q) (Q (fr (1/2))):=⟨λh=>⟨lz,by rw[kX];exact h⟩⟩
def kY:PV.tup [.int 1, .int 3] =fr (1/3):=by unfold fr;rw[show ((1:Rat)/3).num=1 by decide +kernel,show ((1:Rat)/3).den=3 by decide +kernel];rfl
instance (priority:=high):Wp (fM [.int 1, .int 3] Q) (Q (fr (1/3))):=⟨λh=>⟨lz,by rw[kY];exact h⟩⟩
instance{k:Int}{A:Prop}:Wp (fN (.int k)=true/\A) (A):=⟨λh=>⟨rfl,h⟩⟩
class Zp (xs ys:List PV) (zs:outParam (List PV)):Prop where
 e:LW xs ys=zs
instance:Zp [] [] [] :=⟨rfl⟩
instance[h:Zp xs ys zs] :Zp (x::xs) (y::ys) (.tup [x,y] :: zs):=⟨by rw[<-h.e];rfl⟩
instance{d:AE}{c:km PV}[h:Zp xs ys zs] :Wp (Cy g tt d τ QL (LW xs ys) c) (Cy g tt d τ QL zs c):=⟨λk=>by rw[h.e];exact k⟩
instance{A:Prop}[h:Zp xs ys zs] :Wp ((LW xs ys).length<sizeLine/\A) (zs.length<sizeLine/\A):=⟨λk=>by rw[h.e];exact k⟩
instance (priority:=high){d:AE}{c q zs:km PV}[h:aM c [y] zs] :Wp (Cy g tt d τ QL q (c ++ [y])) (Cy g tt d τ QL q zs):=⟨λk=>by rw[h.e];exact k⟩
instance{m:Int}:Pw (BA [.tape, .int m] Q) (0<m/\m<4611686018427387904) (∀r,0<=r->r<m->Q (.int r)):=⟨λc h=>DB c.1 c.2 h⟩
instance{d:km Int}{k:Int}:Pw (NM [.scr d, .int k] Q) (0<=k/\k<=1000) (Q .tape):=⟨λc h=>⟨c,h⟩⟩
instance{a b:Rat}:Pw (Ce [fr a,fr b] Q) (Bd 4000 a/\Bd 4000 b) (Q (fr (a+b))):=⟨λc h=>Cd c.1 c.2 h⟩
instance{a b:Rat}:Pw (DY [fr a,fr b] Q) (Bd 4000 a/\Bd 4000 b) (Q (fr (a-b))):=⟨λc h=>D5 c.1 c.2 h⟩
instance{a b:Rat}:Pw (FS [fr a,fr b] Q) (Bd 4000 a/\Bd 4000 b) (Q (fr (a*b))):=⟨λc h=>NN c.1 c.2 h⟩
instance{a b:Rat}:Pw (A8 [fr a,fr b] Q) (Bd 4000 a/\Bd 4000 b) (Q (fr (a+b))):=⟨λc h=>DQ c.1 c.2 h⟩
instance{a b:Rat}:Pw (Bu [fr a,fr b] Q) (Bd 4000 a/\Bd 4000 b) (Q (fr (a-b))):=⟨λc h=>Cc c.1 c.2 h⟩
instance{a b:Rat}:Pw (Bf [fr a,fr b] Q) (Bd 4000 a/\Bd 4000 b) (Q (fr (a*b))):=⟨λc h=>Ci c.1 c.2 h⟩
instance{a b:Rat}:Pw (Cs [fr a,fr b] Q) (Bd 4000 a/\Bd 4000 b) (Q (fr (mx a b))):=⟨λc h=>JZ c.1 c.2 h⟩
instance{a b:Rat}:Pw (Ai [fr a,fr b] Q) (Bd 4000 a/\Bd 4000 b) (Q (.bl (decide (a<b)))):=⟨λc h=>Cu c.1 c.2 h⟩
instance{a b:Rat}:Pw (B6 [fr a,fr b] Q) (b≠0/\Bd 4000 a/\Bd 4000 b) (Q (fr (a/b))):=⟨λc h=>Gf c.1 c.2.1 c.2.2 h⟩
instance:Pw (CL [.tape] Q) (True) (∀a,Bd 8 a->0<a->Q (fr a)):=⟨λ_ h=>NJ h⟩
instance{c:Type}{f:c->PV}{cs:km c}{A:Prop}:Wp ((cs.map f).length<sizeLine/\A) (cs.length<16777216/\A):=⟨λk=>⟨by rw[AAK];exact k.1,k.2⟩⟩
instance (priority:=high){c:Type}{k:c}[Decidable (k=k)]{A B:Prop}:Wp (if decide (k=k)=true then A else B) A:=⟨λh=>by rw[AAD (AAi rfl)];exact h⟩
instance (priority:=high){c:Type}{k:c}[Decidable (k=k)]{A B:Prop}:Wp (if (!decide (k=k))=true then A else B) B:=⟨λh=>by rw[AAC (by simp)];exact h⟩
def kR (xs:km PV):FM xs none (some (-1))=xs.dropLast:=by
 unfold FM;rw[HT.sIx_none];cases xs with
 | nil=>rfl
 | cons x xs=>
   have e:HT.sIx (x::xs).length (x::xs).length (some (-1))=xs.length:=by simp only[HT.sIx,AAc];rw[AAD (by decide)];omega
   rw[e,AES];simp
def kQ (xs:km PV):FM xs (some (-1)) none=xs.drop (xs.length-1):=by
 unfold FM;rw[HT.sIx_none];have e:HT.sIx xs.length 0 (some (-1))=xs.length-1:=by simp only[HT.sIx];rw[AAD (by decide)];omega
 rw[e];exact ACC (by simp)
instance{cs:km C4}:Wp (RG (Ay cs) none (some (-1)) Q) (Q (Ay cs.dropLast)):=⟨λh=>DE (by rw[kR,<-List.map_dropLast];exact h)⟩
instance{cs:km C4}:Wp (RG (Ay cs) (some (-1)) none Q) (Q (Ay (cs.drop (cs.length-1)))):=⟨λh=>DE (by rw[kQ,AAK,<-ACe];exact h)⟩
instance Mn {cs ds:km C4}:Pw (A4 (Ay cs) (Ay ds) Q) (cs.length+ds.length<=10000) (Q (Ay (cs++ds))):=⟨λc h=>NY c h⟩
instance{cs:km C4}{c:C4}:Pw (A4 (Ay cs) (.tup [cor c]) Q) (cs.length<=9000) (Q (Ay (cs ++ [c]))):=⟨λk h=>NY (ds:= [c]) (by simp;omega) h⟩
instance{cs:km C4}{c:C4}:Pw (A4 (.tup [cor c]) (Ay cs) Q) (cs.length<=9000) (Q (Ay (c::cs))):=⟨λk h=>NY (cs:= [c]) (by simp;omega) h⟩
def jU {d:Type}{f:d->PV}{cs:km d}{k:Int}{R:PV->Prop}(c:0<=k/\k<cs.length)(h:∀c,cs[k.toNat]? =some c->c∈cs->R (f c)):aD (KM (cs.map f) k) R:=by
 have hk:k.toNat<cs.length:=by omega
 have e:KM (cs.map f) ((k.toNat:Nat):Int)=some (f cs[k.toNat]):=Ei (by rw[AAs,AAh hk] <;> rfl);rw[show k=((k.toNat:Nat):Int) by omega,e];exact h _ (AAh hk) (ACX hk)
instance{cs:km C4}{k:Int}:Pw (Aj (Ay cs) (.int k) Q) (0<=k/\k<cs.length) (∀c,cs[k.toNat]? =some c->c∈cs->Q (cor c)):=⟨λc h=>jU c h⟩
instance{d:Type}{f:d->PV}{cs:km d}{k:Int}:Pw (Aj (.lst (cs.map f)) (.int k) Q) (0<=k/\k<cs.length) (∀c,cs[k.toNat]? =some c->c∈cs->Q (f c)):=⟨λc h=>jU c h⟩
instance{c:C4}:Wp (RG (cor c) (some 1) none Q) (Q (.tup [fr c.2.1,fr c.2.2.1,fr c.2.2.2])):=⟨λh=>DE h⟩
class Lk (tb:List (Str×PV)) (s:Str) (v:outParam PV):Prop where
 e:tb.lookup s=some v
def ja (tb:km (Str×PV))(x:PV)(Q:PV->Prop):Prop:=match x with | .str s=>aD (tb.lookup s) Q|_=>False
instance{tb:km (Str×PV)}:Wp (kI tb ta τ Q) (ta τ λx=>ja tb x Q):=⟨id⟩
instance{tb:km (Str×PV)}{k:Str}[h:Lk tb k z] :Wp (ja tb (.str k) Q) (Q z):=⟨λq=>by show aD (tb.lookup k) Q;rw[h.e];exact q⟩
instance:Lk Ep "east" (.tup [.int 1, .int 0, .int 0]):=⟨rfl⟩
instance:Lk Ep "west" (.tup [.int (-1), .int 0, .int 0]):=⟨rfl⟩
instance:Lk Ep "north" (.tup [.int 0, .int 1, .int 0]):=⟨rfl⟩
instance:Lk Ep "south" (.tup [.int 0, .int (-1), .int 0]):=⟨rfl⟩
instance:Lk Ep "up" (.tup [.int 0, .int 0, .int 1]):=⟨rfl⟩
instance:Lk Ep "down" (.tup [.int 0, .int 0, .int (-1)]):=⟨rfl⟩
end
end PL
namespace L2
open PySem PySem.Spec PyProof.Rows
abbrev y1 (b:gn)(h:Wf)(l:ke):Wf:=h.push (Vx b l)
abbrev y2 (b c:gn)(h:Wf)(l m:ke):Wf:=(y1 b h l).push (Vx c m)
abbrev y3 (b c d:gn)(h:Wf)(l m n:ke):Wf:=(y2 b c h l m).push (Vx d n)
abbrev y4 (b c d:gn)(h:Wf)(l m n:ke):Wf:=(y3 b c d h l m n).push {cls:= .type "tuple",data:= .seq #[.ref h.objs.size, .ref (y1 b h l).objs.size, .ref (y2 b c h l m).objs.size] }
abbrev y5 (b c d:gn)(h:Wf)(l m n:ke):Wf:=(y4 b c d h l m n).push {cls:= .type "tuple",data:= .seq #[.none, .none, .none] }
end L2
namespace PL
open PySem L2 PyProof.Rows
class aU (Ts:List String):Prop where
 q:Ts.any (RV .tup)=true/\Ts.any (RV .lst)=true/\Ts.any (RV .int)=false/\Ts.any (RV .bl)=false/\Ts.any (RV .non)=false/\Ts.any (RV .str)=false
instance:aU ["tuple","list"] :=⟨by decide⟩
instance:aU ["list","tuple"] :=⟨by decide⟩
end PL
namespace L2
open PySem PySem.Spec PyProof.Rows
section
variable {κ:Type}[DecidableEq κ]
def Er (kvs:km (κ×V))(k:κ):kd V:=(kvs.find? λa=>decide (a.1=k)).map (·.2)
def EE (kvs:km (κ×V))(k:κ)(v:V):km (κ×V):=
 if (kvs.any λa=>decide (a.1=k))=true then kvs.map (λa=>if a.1=k then (a.1,v) else a) else kvs ++ [(k,v)]
def He {p:κ×V}{r:km (κ×V)}{k:κ}(e:p.1=k):Er (p::r) k=some p.2:=by simp[Er,AB4,e]
def Hd {p:κ×V}{r:km (κ×V)}{k:κ}(e:¬p.1=k):Er (p::r) k=Er r k:=by simp[Er,AB4,e]
theorem Oj (k:κ):∀kvs:km (κ×V),(kvs.any λa=>decide (a.1=k))=(Er kvs k).isSome
 | [] =>rfl
 | p::r=>by
   rw[ABr];by_cases e:p.1=k
   .simp only[He e,AAi e,Bool.true_or,Option.isSome_some]
   .rw [Hd e,AAS e,Bool.false_or];exact Oj k r
def EQ (kvs:km (κ×V))(k:κ)(v:V):(EE kvs k v).length<=kvs.length+1:=by
 unfold EE;split
 .rw [AAK];omega
 .rw [AAn,AAc,ACz];omega
def MA.isSome_eq {o:kd V}{u:kd kj}(r:MA o u):o.isSome=u.isSome:=by
 cases o with
 | none=>cases u with
   | none=>rfl
   | some _=>exact(show False from r).elim
 | some _=>cases u with
   | none=>exact(show False from r).elim
   | some _=>rfl
def MA.getD {o:kd V}{u:kd kj}{d:V}{d':kj}(r:MA o u)(a:RelV d d'):RelV (o.getD d) (u.getD d'):=by
 cases o with
 | none=>cases u with
   | none=>exact a
   | some _=>exact(show False from r).elim
 | some _=>cases u with
   | none=>exact(show False from r).elim
   | some _=>exact r
def KV.val {kvs:km (κ×V)}{vs:km (κ×kj)}(r:KV kvs vs)(k:κ):MA (Er kvs k) (valueAt vs k):=by
 unfold KV at r;induction r with
 | nil=>exact True.intro
 | @cons p q c qs h t ih=>
   obtain⟨h1,h2⟩:=h;by_cases e:p.1=k
   .have a:q.1=k:=h1.symm.trans e;have b:valueAt (q::qs) k=some q.2:=by simp[valueAt,AB4,a]
    rw[He e,b];exact h2
   .have a:¬q.1=k:=λz=>e (h1.trans z);have b:valueAt (q::qs) k=valueAt qs k:=by simp[valueAt,AB4,a]
    rw[Hd e,b];exact ih
def KV.any {kvs:km (κ×V)}{vs:km (κ×kj)}(r:KV kvs vs)(k:κ):(kvs.any λa=>decide (a.1=k))=vs.any λa=>decide (a.1=k):=by
 unfold KV at r;induction r with
 | nil=>rfl
 | cons h t ih=>rw[ABr,ABr,ih,h.1]
def KV.repl {kvs:km (κ×V)}{vs:km (κ×kj)}(r:KV kvs vs)(k:κ){y:V}{u:kj}(b:RelV y u):KV (kvs.map λa=>if a.1=k then (a.1,y) else a) (vs.map λa=>if a.1=k then (a.1,u) else a):=by
 unfold KV at r ⊢;induction r with
 | nil=>exact .nil
 | @cons p q c qs h t ih=>
   rw[AAP,AAP];refine .cons ?_ ih;obtain⟨h1,h2⟩:=h;by_cases e:p.1=k
   .rw [AAD e,AAD (h1.symm.trans e)];exact⟨h1,b⟩
   .rw [AAC e,AAC (λz=>e (h1.trans z))];exact⟨h1,h2⟩
def KV.put {kvs:km (κ×V)}{vs:km (κ×kj)}(r:KV kvs vs)(k:κ){y:V}{u:kj}(a:RelV y u):KV (EE kvs k y) (stored vs k u):=by
 unfold EE stored;rw[r.any k];by_cases e:(vs.any λb=>decide (b.1=k))=true
 .rw [AAD e,AAD e];exact r.repl k a
 .rw [AAC e,AAC e];exact Paired.snoc r ⟨rfl,a⟩
def KV.keys {kvs:km (κ×V)}{vs:km (κ×kj)}(r:KV kvs vs):kvs.map (·.1)=vs.map (·.1):=by
 unfold KV at r;induction r with
 | nil=>rfl
 | cons h t ih=>rw[AAP,AAP,ih,h.1]
def KV.length {kvs:km (κ×V)}{vs:km (κ×kj)}(r:KV kvs vs):kvs.length=vs.length:=ACN r
end
def Tv {P:fm}{w:fe}{k:Cp}{u:kj}(r:RelV (kV k) u):(BJ P w).is k u=true:=by
 cases k with
 | inl i=>obtain⟨t,e⟩:=(show ∃t,u=Value.int i t from r);subst e;exact T8 P w i t
 | inr x=>obtain⟨t,e⟩:=(show ∃t,u=Value.str x t from r);subst e;exact T9 P w x t
theorem QD {P:fm}{w:fe}:∀{a:km Cp} {b:km kj},Ax (a.map kV) b->ItemsAre (BJ P w) a b
 | [],_,r=>by rw[ACt] at r;cases r;exact .nil
 | k::a,_,r=>by
   rw[AAP] at r;cases r with
   | cons h t=>exact .cons (Tv h) (QD t)
abbrev KT (H:Hp):km (km Cp×V)->km (km Cp×ke×kj)->Prop:=Paired λp q=>p.1=q.1/\H q.2.1=some (.tup (p.1.map kV))/\RelV p.2 q.2.2
def KT.val {H:Hp}{kvs:km (km Cp×V)}{xs:km (km Cp×ke×kj)}(r:KT H kvs xs)(k:km Cp):MA (Er kvs k) ((atKey xs k).map (·.2)):=by
 induction r with
 | nil=>exact True.intro
 | @cons p q c qs h t ih=>
   obtain⟨h1,_,h2⟩:=h;by_cases e:p.1=k
   .have a:q.1=k:=h1.symm.trans e;have b:atKey (q::qs) k=some q.2:=by simp[atKey,AB4,a]
    rw[He e,b];exact h2
   .have a:¬q.1=k:=λz=>e (h1.trans z);have b:atKey (q::qs) k=atKey qs k:=by simp[atKey,AB4,a]
    rw[Hd e,b];exact ih
def KT.repl {H:Hp}{kvs:km (km Cp×V)}{xs:km (km Cp×ke×kj)}(r:KT H kvs xs)(k:km Cp){y:V}{u:kj}(b:RelV y u):KT H (kvs.map λa=>if a.1=k then (a.1,y) else a) (xs.map (putAt k u)):=by
 induction r with
 | nil=>exact .nil
 | @cons p q c qs h t ih=>
   rw[AAP,AAP];refine .cons ?_ ih;obtain⟨h1,h2,h3⟩:=h;unfold putAt;by_cases e:p.1=k
   .rw [AAD e,AAD (h1.symm.trans e)];exact⟨h1,h2,b⟩
   .rw [AAC e,AAC (λz=>e (h1.trans z))];exact⟨h1,h2,h3⟩
def KT.put {H:Hp}{kvs:km (km Cp×V)}{xs:km (km Cp×ke×kj)}(r:KT H kvs xs)(k:km Cp){b:ke}{y:V}{u:kj}(hb:H b=some (.tup (k.map kV)))(a:RelV y u):KT H (EE kvs k y) (storedH xs k b u):=by
 have e:(kvs.any λc=>decide (c.1=k))=(atKey xs k).isSome:=by rw[Oj,(r.val k).isSome_eq,AC0]
 unfold EE storedH;rw[e];by_cases q:(atKey xs k).isSome=true
 .rw [AAD q,AAD q];exact r.repl k a
 .rw [AAC q,AAC q];exact Paired.snoc r ⟨rfl,hb,a⟩
def KT.keeps {H a:Hp}{kvs:km (km Cp×V)}{xs:km (km Cp×ke×kj)}(r:KT H kvs xs)(c:∀b ys,H b=some (.tup ys)->a b=some (.tup ys)):KT a kvs xs:=
 Paired.mapP r λ_ _ z=>⟨z.1,c _ _ z.2.1,z.2.2⟩
section
variable {P:fm}{w:fe}{H:Hp}{h:Wf}{a:ke}
def jh {u:HO}(ok:Ig P w H h)(e:Rd H a u):B0 P w H h a u:=e.ok ok
def bB {kvs:km (Cp×V)}(ok:Ig P w H h)(e:Rd H a (.dK kvs)):kvs.length<=sizeLine/\(a==sysModules)=false/\∃vs,KV kvs vs/\h.DictOf (BJ P w) a vs:=
 show B0 P w H h a (.dK kvs) from jh ok e
def XR {kvs:km (Cp×V)}(ok:Ig P w H h)(e:H a=some (.dK kvs)):kvs.length<=sizeLine/\(a==sysModules)=false/\∃vs,KV kvs vs/\h.DictOf (BJ P w) a vs:=bB ok (.inl e)
def V1 {b:km Cp}(ok:Ig P w H h)(e:H a=some (.tup (b.map kV))):(tupleKind (BJ P w)).is h b a:=by obtain⟨_,c,r,o,h1,h2,n,h3⟩:=(show B0 P w H h a (.tup (b.map kV)) from ok a _ e);exact⟨o,c.toArray,n,h1,h2,h3,by simpa using QD r⟩
def bE {kvs:km (km Cp×V)}(ok:Ig P w H h)(e:Rd H a (.dT kvs)):kvs.length<=sizeLine/\(a==sysModules)=false/\ ∃xs,KT H kvs xs/\h.DictOfH (tupleKind (BJ P w)) a xs:=by
 obtain⟨z,y,xs,r,o,es,ep,h1,h2,h3,b,h5⟩:=(show B0 P w H h a (.dT kvs) from jh ok e);refine⟨z,y,xs,r,o,es,ep,h1,h2,h3,b,λx hx=> ?_,h5⟩;have all:∀{l:km (km Cp×V)} {m:km (km Cp×ke×kj)},KT H l m->∀x∈m,(tupleKind (BJ P w)).is h x.1 x.2.1:=by
  intro l m q;induction q with
  | nil=>intro x hx;exact nomatch hx
  | @cons p q c qs hq t ih=>
    intro x hx;rcases AAF.mp hx with e|hx
    .subst e;exact V1 ok (by rw[<-hq.1];exact hq.2.1)
    .exact ih x hx
 exact all r x hx
def pB {kvs:km (km Cp×V)}(ok:Ig P w H h)(e:H a=some (.dT kvs)):kvs.length<=sizeLine/\(a==sysModules)=false/\ ∃xs,KT H kvs xs/\h.DictOfH (tupleKind (BJ P w)) a xs:=bE ok (.inl e)
end
def U0 (H:Hp)(a:ke)(y:V)(r:kd V):Prop:=
 (∃kvs k,Rd H a (.dK kvs)/\y=kV k/\r=Er kvs k)\/∃kvs k b,Rd H a (.dT kvs)/\y= .ref b/\H b=some (.tup (k.map kV))/\r=Er kvs k
def U1 (H:Hp)(a:ke)(y v:V)(c:Hp):Prop:=
 (∃kvs k,H a=some (.dK kvs)/\y=kV k/\kvs.length<sizeLine/\c=upd H a (.dK (EE kvs k v)))\/
 ∃kvs k b,H a=some (.dT kvs)/\y= .ref b/\H b=some (.tup (k.map kV))/\kvs.length<sizeLine/\c=upd H a (.dT (EE kvs k v))
def U0.k {H:Hp}{a:ke}{kvs:km (Cp×V)}{k:Cp}(e:H a=some (.dK kvs)):U0 H a (kV k) (Er kvs k):= .inl ⟨kvs,k, .inl e,rfl,rfl⟩
def U0.t {H:Hp}{a b:ke}{kvs:km (km Cp×V)}{k:km Cp}(e:H a=some (.dT kvs))(c:H b=some (.tup (k.map kV))):U0 H a (.ref b) (Er kvs k):= .inr ⟨kvs,k,b, .inl e,rfl,c,rfl⟩
def U1.k {H:Hp}{a:ke}{kvs:km (Cp×V)}{k:Cp}{v:V}(e:H a=some (.dK kvs))(hl:kvs.length<sizeLine):U1 H a (kV k) v (upd H a (.dK (EE kvs k v))):= .inl ⟨kvs,k,e,rfl,hl,rfl⟩
def U1.t {H:Hp}{a b:ke}{kvs:km (km Cp×V)}{k:km Cp}{v:V}(e:H a=some (.dT kvs))(c:H b=some (.tup (k.map kV)))(hl:kvs.length<sizeLine):U1 H a (.ref b) v (upd H a (.dT (EE kvs k v))):= .inr ⟨kvs,k,b,e,rfl,c,hl,rfl⟩
section
variable {X:Cx}{Sr:km (ke×Obj)}{σ:St}{H:Hp}{s:ki}{a:ke}{y v:V}{u r:kj}{o:kd V}{A:Tb}{E:kj->ki->Prop}
def Inv.big (I:Inv X Sr σ H s):sysModules<s.heap.objs.size:=by have h:mainGlobals<s.heap.objs.size:=(I.mod.glob.keeps I.bk).lt;exact ADQ (by decide) h
def Hk {h':Wf}{t':Nat}{c:HO}(I:Inv X Sr σ H s)(d:om (H a))(hs:Heap.SameBut a s.heap h')(he:∃q,h'.get? a=some q)(new:B0 X.prog X.w (upd H a c) h' a c):Inv X Sr σ (upd H a c) {s with heap:=h',toks:=t'}:=
 I.write (x:=a) (e:=a) d (.inl rfl) (λb q hb z=>(hs.2 b hb).trans z) he new
def RC {P:fm}{w:fe}{c:Hp}{h':Wf}{kvs:km (Cp×V)}{vs:km (Cp×kj)}(z:kvs.length<=sizeLine)(hd:(a==sysModules)=false)(b:KV kvs vs)(d:h'.DictOf (BJ P w) a vs):B0 P w c h' a (.dK kvs):=⟨z,hd,vs,b,d⟩
def Yu {n:Hp}{Q:Unit->ki->Prop}(hu:A.units+1<cLine)(I:Inv X Sr σ H s)(g:U1 H a y v n)(p:RelV y u)(rv:RelV v r)(h:∀t,Inv X Sr σ n t->Q () t):wpAny (model X.prog X.w) A (setItem (.ref a) u r) Q E s:=by
 rcases g with⟨kvs,k,e,i,l,j⟩|⟨kvs,k,b,e,i,x,l,j⟩
 .subst i j;obtain⟨z,hd,vs,d,m⟩:=XR I.hok e;have hz:vs.length<=sizeLine:=by rw[<-d.length];exact z
  have hl:(EE kvs k v).length<=sizeLine:=by have:=EQ kvs k v;omega
  refine wpAny_setItem_pairs (hsz:=hz) (Tv p) m λh' f hs=>h _ ?_;have he:∃q,h'.get? a=some q:=let ⟨q,_,_,hq,_⟩:=f;⟨q,hq⟩;exact Hk I (by rw[e];exact True.intro) hs he (RC hl hd (d.put k rv) f)
 .subst i j;cases (show u=Value.ref b from p);obtain⟨z,hd,xs,d,m⟩:=pB I.hok e;have hz:xs.length<=sizeLine:=by rw[<-ACN d];exact z
  have hl:(EE kvs k v).length<=sizeLine:=by have:=EQ kvs k v;omega
  refine wpAny_setItem_heap (hsz:=hz) (tupleKind_room_in1 hu) (V1 I.hok x) m λh' f hs=>h _ ?_;obtain⟨q,es,ep,hq,h2,h3,C,_,h5⟩:=f;refine Hk I (by rw[e];exact True.intro) hs ⟨q,hq⟩ ⟨hl,hd,_,(d.put k x rv).keeps λc ys B=> ?_,q,es,ep,hq,h2,h3,C,h5⟩;rw[Af (jZ B e (λz=>nomatch z))];exact B
end
def j5 (i:kc):Prop:=∀a b,subscripted i false a b=operate [a,b] (getItem a b)
def i0 {prog:fm}{w:fe}{A:Tb}{E:kj->ki->Prop}{s:ki}{env:Env}{value slice:kc}{pos:Pos}{T id:String}{Q:kj->ki->Prop}(hl:typeLookup (.type T) "__getitem__" =pure (some (.builtin id)))(hs:j5 slice)(h:wpAny (model prog w) A (eval value env) (λo c=>wpAny (model prog w) A (eval slice env) (λi a=>a.TypeIs o T/\wpAny (model prog w) A (getItem o i) Q E a) E c) E s):wpAny (model prog w) A (eval (.Subscript value slice pos) env) Q E s:=by
 refine Subscript_ (ABv h (λo c f=>ABv f (λi a b=> ?_) λ_ _ x=>x) λ_ _ x=>x);obtain⟨j,b⟩:=b;unfold subscriptTail;refine AAA ?_;rw[getitemInPython_of_ne j.not_modules];refine AAA (ABt j hl ?_);have e:wpAny (model prog w) A (subscripted slice false o i) (λr d=>wpAny (model prog w) A (letTemporaryGo value o r >>= λ_=>pure r) Q E d) E a:=by rw[hs o i];exact wpAny_operating (ABv b (λr d g=>AAA (wpAny_letTemporaryGo (AAE g))) λ_ _ x=>x)
 first
  | exact AAE (AAA e)
  | exact AAA (AAE (AAA e))
  | exact AAA e
def ji (d e f:TE):TS:=λD b H=>f b H λv H1=>d b H1 λx g=>e b g λy h=>∃a c,x= .ref a/\U1 h a y v c/\D.nx b c
section
variable {X:Cx}{o i e value:kc}{pos pos' tpos:Pos}{td ty tv:TE}
def iI (hu:X.A.units+1<cLine)(d:PE X o td)(hi:PE X i ty)(hv:PE X value tv)(hs:swapsWith value (some (.Subscript o i pos')) pos.line X.env=pure false):PS X (.Assign [.Subscript o i pos'] value pos) (ji td ty tv):=by intro c s b H D I h;refine wpAny_Assign_Subscript (Bc (hv c s b H _ I h) λr f ⟨v,H1,j,rv,k⟩=>Bc (d c f b H1 _ j k) λu l ⟨x,m,n,p,t⟩=>Bc (hi c l b m _ n t) λF G ⟨y,J,w,z,a,B,ex,g,C⟩=> ?_) hs;subst ex;obtain rfl:u=Value.ref a:=p;exact Yu hu w g z rv λK E=>⟨b,B,E,C⟩
end
def TX {P:fm}{w:fe}{H:Hp}(h:Wf)(hb:sysModules<h.objs.size):B0 P w H (h.push {cls:= .type "dict",data:= .dict #[] }) h.objs.size (.dK []):=
 ⟨ABS _,ACL.mpr (AAk (AAM hb)), [], .nil,Heap.DictOf.new h⟩
def Wm:km (TE×TE)->St->Hp->(km (V×V)->Hp->Prop)->Prop
 | [],_,H,Q=>Q [] H
 | (tk,tv)::r,σ,H,Q=>tk σ H λx H1=>tv σ H1 λy a=>Wm r σ a λb c=>Q ((x,y)::b) c
abbrev VV:km (V×V)->km (kj×kj)->Prop:=Paired λp q=>RelV p.1 q.1/\RelV p.2 q.2
def rZ (X:Cx)(pos:Pos)(keys:km (kd kc))(values:km kc)(a:km (TE×TE)):Prop:=
 ∀(c:km (ke×Obj)) (s:ki) (b:St) (H:Hp) (Q:km (V×V)->Hp->Prop),Inv X c b H s->Wm a b H Q->
  wpAny (model X.prog X.w) X.A (evalPairs (pairTrees keys values X.env pos)) (λvs f=>∃d e,Inv X c b e f/\VV d vs/\Q d e) X.xe s
def iH {X:Cx}{pos:Pos}:rZ X pos [] [] [] :=λa s b H Q I h=>pairTrees_nil_walk ⟨[],H,I, .nil,h⟩
def dD {X:Cx}{pos:Pos}{k v:kc}{e:km (kd kc)}{vs:km kc}{f g:TE}{a:km (TE×TE)}(hk:PE X k f)(hv:PE X v g)(i:rZ X pos e vs a):rZ X pos (some k::e) (v::vs) ((f,g)::a):=λb s c H Q I h=>
 pairTrees_cons_walk (Bc (hk b s c H _ I h) λu j ⟨x,H1,l,m,n⟩=>Bc (hv b j c H1 _ l n) λD o ⟨y,p,r,t,w⟩=>
  Bc (i b o c p _ r w) λE F ⟨z,A,B,d,C⟩=>⟨(x,y)::z,A,B, .cons ⟨m,t⟩ d,C⟩)
def Nv (kvs more:km (Cp×V)):km (Cp×V):=more.foldl (λa b=>EE a b.1 b.2) kvs
def KV.merge:∀{more:km (Cp×V)} {a:km (Cp×kj)} {kvs:km (Cp×V)} {vs:km (Cp×kj)},KV more a->KV kvs vs->KV (Nv kvs more) (merged vs a):=by
 intro more a kvs vs r;unfold KV at r;induction r generalizing kvs vs with
 | nil=>intro q;exact q
 | @cons p q c qs h t ih=>
   intro b;have e:KV (EE kvs p.1 p.2) (stored vs q.1 q.2):=by have:=b.put p.1 h.2;rw[<-h.1];exact this
   exact ih e
theorem IW:∀(more kvs:km (Cp×V)),(Nv kvs more).length<=kvs.length+more.length
 | [],kvs=>by show kvs.length<=kvs.length+0;omega
 | p::r,kvs=>by have h1:=IW r (EE kvs p.1 p.2);have h2:=EQ kvs p.1 p.2;show (Nv (EE kvs p.1 p.2) r).length<=_;rw[AAc];omega
theorem NX {P:fm}{w:fe}:∀{kvs:km (Cp×V)} {e:km (kj×kj)},VV (kvs.map λf=>(kV f.1,f.2)) e->∃d,Carries (BJ P w) e d/\KV kvs d
 | [],_,r=>by rw[ACt] at r;cases r;exact⟨[],True.intro, .nil⟩
 | p::kvs,_,r=>by
   rw[AAP] at r;cases r with
   | @cons a b as bs h t=> obtain⟨d,c,q⟩:=NX (P:=P) (w:=w) t;obtain⟨g,b2⟩:=b;exact⟨(p.1,b2)::d,⟨Tv h.1,rfl,c⟩, .cons ⟨rfl,h.2⟩ q⟩
structure M2 (X:Cx) (o:Expr) (m:Str) (apos:Pos) (e f:Expr) (cpos:Pos):Prop where
 base:attributeBase o m X.env (eval o X.env)=eval o X.env
 few:((backTo cpos (starEach [e,f] X.env)).all (λx=> !x.1)&&(backToKw cpos (keywordEach [] X.env)).all (λx=>x.1.isSome)
  && decide (([e,f] :List Expr).length+([] :List Keyword).length+(if ([] :List Keyword).isEmpty then 0 else 1)<30))=true
 line:(apos.endLine==cpos.line)=true
 trees:backTo cpos (starEach [e,f] X.env)= [(false,eval e X.env),(false,eval f X.env)]
def wS (H:Hp)(a:ke):Prop:=(∃kvs,Rd H a (.dK kvs))\/∃kvs,Rd H a (.dT kvs)
def cF {X:Cx}{g:km (ke×Obj)}{h:St}{H:Hp}{s:ki}{a:ke}(I:Inv X g h H s)(d:wS H a):s.TypeIs (.ref a) "dict" /\(∀b,Value.ref a= .ref b->∃c,s.heap.get? b=some c/\c.dict=none)/\(a==sysModules)=false:=by
 rcases d with⟨kvs,e⟩|⟨kvs,e⟩
 .obtain ⟨_,hd,vs,_,f⟩:=bB I.hok e;refine⟨f.typeIs,λb q=> ?_,hd⟩;cases q;obtain⟨c,_,_,h1,h2,_⟩:=f;exact⟨c,h1,h2.2.1⟩
 .obtain ⟨_,hd,xs,_,f⟩:=bE I.hok e;refine⟨f.typeIs,λb q=> ?_,hd⟩;cases q;obtain⟨c,_,_,h1,h2,_⟩:=f;exact⟨c,h1,h2.2.1⟩
section
variable {X:Cx}{Sr:km (ke×Obj)}{σ:St}{H:Hp}{s:ki}{a:ke}{y d:V}{u r:kj}{o:kd V}{A:Tb}{E:kj->ki->Prop}
def kS {Q:kj->ki->Prop}(hu:A.units+1<cLine)(I:Inv X Sr σ H s)(g:U0 H a y o)(j:RelV y u)(m:RelV d r)(h:∀n p,Inv X Sr σ H p->RelV (o.getD d) n->Q n p):wpAny (model X.prog X.w) A (call (.builtin "dict.get") [.ref a,u,r]) Q E s:=by
 rcases g with⟨kvs,k,e,i,l⟩|⟨kvs,k,b,e,i,t,l⟩
 .subst i;obtain⟨z,hd,vs,c,f⟩:=bB I.hok e;refine ADm AC1 f.typeIs AET (AEU _ _ _) (meets_dict_get_default (BJ X.prog X.w) a (Tv j) hd r) ⟨_,f.mapOf,h _ _ (I.tok _) ?_⟩;rw[l];exact(c.val k).getD m
 .subst i;cases (show u=Value.ref b from j);obtain⟨z,hd,xs,c,f⟩:=bE I.hok e;refine ADm AC1 f.typeIs AET (AEU _ _ _) (meetsH_dict_get_default (tupleKind (BJ X.prog X.w)) a b hd r) ⟨tupleKind_room_in1 hu,k,xs,V1 I.hok t,f,h _ _ (I.tok _) ?_⟩;rw[l];exact(c.val k).getD m
end
def eF (d e f:TE):TE:=λb H Q=>d b H λx H1=>∃a,x= .ref a/\wS H1 a/\e b H1 λy g=>f b g λz c=>∃o,U0 c a y o/\Q (o.getD z) c
section
variable {X:Cx}{o e f:kc}{apos cpos:Pos}{td ty tx:TE}
def cv (hu:X.A.units+1<cLine)(k:PE X o td)(he:PE X e ty)(l:PE X f tx)(m:M2 X o "get" apos e f cpos):PE X (.Call (.Attribute o "get" apos) [e,f] [] cpos) (eF td ty tx):=by
 intro b s c H Q I h;refine AEV m.base m.few m.line AEW AC1 AEs (Bc (k b s c H _ I h) λu n ⟨x,H1,j,p,a,ex,d,r⟩=> ?_);subst ex;obtain rfl:u=Value.ref a:=p;obtain⟨t,v,_⟩:=cF j d;refine⟨t,v, ?_⟩;rw[m.trees];refine ADM rfl (AEE (ACm (Bc (he b n c H1 _ j r) λM w ⟨y,B,C,D,E⟩=>
  ACm (Bc (l b w c B _ C E) λN O ⟨z,F,G,J,P,g,K⟩=>AD7 ?_))))
 exact kS hu G g D J λR S L i=>⟨_,F,L,i,K⟩
end
abbrev KN (K:AAB)(H:Hp):km (FK×V)->km (FK×ke×kj)->Prop:=Paired λp q=>p.1=q.1/\GK K H q.2.1 p.1/\RelV p.2 q.2.2
def KN.val {K:AAB}{H:Hp}{kvs:km (FK×V)}{xs:km (FK×ke×kj)}(r:KN K H kvs xs)(k:FK):MA (Er kvs k) ((atKey xs k).map (·.2)):=by
 induction r with
 | nil=>exact True.intro
 | @cons p q c qs h t ih=>
   obtain⟨h1,_,h2⟩:=h;by_cases e:p.1=k
   .have a:q.1=k:=h1.symm.trans e;have b:atKey (q::qs) k=some q.2:=by simp[atKey,AB4,a]
    rw[He e,b];exact h2
   .have a:¬q.1=k:=λz=>e (h1.trans z);have b:atKey (q::qs) k=atKey qs k:=by simp[atKey,AB4,a]
    rw[Hd e,b];exact ih
def KN.repl {K:AAB}{H:Hp}{kvs:km (FK×V)}{xs:km (FK×ke×kj)}(r:KN K H kvs xs)(k:FK){y:V}{u:kj}(b:RelV y u):KN K H (kvs.map λa=>if a.1=k then (a.1,y) else a) (xs.map (putAt k u)):=by
 induction r with
 | nil=>exact .nil
 | @cons p q c qs h t ih=>
   rw[AAP,AAP];refine .cons ?_ ih;obtain⟨h1,h2,h3⟩:=h;unfold putAt;by_cases e:p.1=k
   .rw [AAD e,AAD (h1.symm.trans e)];exact⟨h1,h2,b⟩
   .rw [AAC e,AAC (λz=>e (h1.trans z))];exact⟨h1,h2,h3⟩
def KN.put {K:AAB}{H:Hp}{kvs:km (FK×V)}{xs:km (FK×ke×kj)}(r:KN K H kvs xs)(k:FK){b:ke}{y:V}{u:kj}(hb:GK K H b k)(a:RelV y u):KN K H (EE kvs k y) (storedH xs k b u):=by
 have e:(kvs.any λc=>decide (c.1=k))=(atKey xs k).isSome:=by rw[Oj,(r.val k).isSome_eq,AC0]
 unfold EE storedH;rw[e];by_cases q:(atKey xs k).isSome=true
 .rw [AAD q,AAD q];exact r.repl k a
 .rw [AAC q,AAC q];exact Paired.snoc r ⟨rfl,hb,a⟩
def KN.keeps {K:AAB}{H a:Hp}{kvs:km (FK×V)}{xs:km (FK×ke×kj)}(r:KN K H kvs xs)(c:∀b ys,H b=some (.tup ys)->a b=some (.tup ys)):KN K a kvs xs:=
 Paired.mapP r λ_ _ z=>⟨z.1,z.2.1.stay c,z.2.2⟩
section
variable {P:fm}{w:fe}{H:Hp}{h:Wf}{a:ke}{K:AAB}
def Jt {k:FK}(ok:Ig P w H h)(d:K.In h)(e:GK K H a k):(fkKind P w).is h k a:=by
 obtain⟨b,h1,h2⟩:=e;obtain⟨_,l,r,o,g1,m,n,p⟩:=(show B0 P w H h a (.tup [.ref b, .int k.2]) from ok a _ h1);cases r with
 | cons s r=>
 cases r with
 | cons f r=>
 cases r;cases s;obtain⟨u,rfl⟩:=f;have two:∀{i:km kj},Ax [.int k.1.1, .int k.1.2] i->ItemsAre (intKind P w) [k.1.1,k.1.2] i:=λhv=>by
  cases hv with
  | cons t hv=>
  cases hv with
  | cons v hv=> cases hv;obtain⟨D,rfl⟩:=t;obtain⟨E,rfl⟩:=v;exact .cons (by simp[intKind,Value.isInt]) (.cons (by simp[intKind,Value.isInt]) .nil)
 refine⟨o,_,n,b,u,g1,m,p,by simp, ?_⟩;rcases h2 with h2|⟨j,c,g,l1,x,y,z⟩
 .obtain ⟨_,c,f,A,f1,B,g,C⟩:=(show B0 P w H h b (.tup [.int k.1.1, .int k.1.2]) from ok b _ h2);exact⟨A,c.toArray,g,f1,B,C,by simpa using two f⟩
 .exact ⟨j,c,g,d b j l1,x,y,two z⟩
def P5 {kvs:km (FK×V)}(ok:Ig P w H h)(b:K.In h)(e:H a=some (.dN K kvs)):kvs.length<=sizeLine/\(a==sysModules)=false/\∃xs,KN K H kvs xs/\h.DictOfH (fkKind P w) a xs:=by
 obtain⟨z,y,xs,r,o,es,ep,h1,h2,h3,c,h5⟩:=(show B0 P w H h a (.dN K kvs) from ok a _ e);refine⟨z,y,xs,r,o,es,ep,h1,h2,h3,c,λx hx=> ?_,h5⟩;have all:∀{l:km (FK×V)} {m:km (FK×ke×kj)},KN K H l m->∀x∈m,(fkKind P w).is h x.1 x.2.1:=by
  intro l m q;induction q with
  | nil=>intro x hx;exact nomatch hx
  | @cons p q d qs hq t ih=>
    intro x hx;rcases AAF.mp hx with e|hx
    .subst e;exact Jt ok b (by rw[<-hq.1];exact hq.2.1)
    .exact ih x hx
 exact all r x hx
end
section
variable {X:Cx}{Sr:km (ke×Obj)}{σ:St}{H:Hp}{s:ki}{a b:ke}{v d:V}{r:kj}{kvs:km (FK×V)}{k:FK}{A:Tb}{E:kj->ki->Prop}
def ZL {Q:kj->ki->Prop}(hu:A.units+2<cLine)(I:Inv X Sr σ H s)(e:H a=some (.dN X.K kvs))(hb:GK X.K H b k)(l:Er kvs k=some v)(h:∀c i,Inv X Sr σ H i->RelV v c->Q c i):wpAny (model X.prog X.w) A (getItem (.ref a) (.ref b)) Q E s:=by obtain⟨z,hd,xs,f,j⟩:=P5 I.hok I.kIn e;obtain⟨c,hw,g⟩:=MA.some_of (v:=v) (o:=(atKey xs k).map (·.2)) (by rw[<-l];exact f.val k);obtain⟨p,hp,m⟩:=ACf.mp hw;refine wpAny_getItem_heap (Dc hu) (Jt I.hok I.kIn hb) j hp ?_;rw[m];exact h c _ (I.tok _) g
def uq {Q:kj->ki->Prop}(hu:A.units+2<cLine)(I:Inv X Sr σ H s)(e:H a=some (.dN X.K kvs))(hb:GK X.K H b k)(h:∀f,Inv X Sr σ H f->Q (.bool (Er kvs k).isSome) f):wpAny (model X.prog X.w) A (compareOp .In (.ref b) (.ref a)) Q E s:=by obtain⟨z,hd,xs,c,g⟩:=P5 I.hok I.kIn e;refine wpAny_in_heap (Dc hu) (Jt I.hok I.kIn hb) hd g ?_;have q:=(c.val k).isSome_eq;rw[AC0] at q;rw[<-q];exact h _ (I.tok _)
def ZM {Q:Unit->ki->Prop}(hu:A.units+2<cLine)(I:Inv X Sr σ H s)(e:H a=some (.dN X.K kvs))(hb:GK X.K H b k)(hl:kvs.length<sizeLine)(rv:RelV v r)(h:∀i,Inv X Sr σ (upd H a (.dN X.K (EE kvs k v))) i->Q () i):wpAny (model X.prog X.w) A (setItem (.ref a) (.ref b) r) Q E s:=by
 obtain⟨z,hd,xs,f,l⟩:=P5 I.hok I.kIn e;have hz:xs.length<=sizeLine:=by rw[<-ACN f];exact z
 have hl:(EE kvs k v).length<=sizeLine:=by have:=EQ kvs k v;omega
 refine wpAny_setItem_heap (hsz:=hz) (Dc hu) (Jt I.hok I.kIn hb) l λh' g hs=>h _ ?_;obtain⟨q,es,ep,hq,h2,h3,m,_,h5⟩:=g;refine Hk I (by rw[e];exact True.intro) hs ⟨q,hq⟩ ⟨hl,hd,_,(f.put k hb rv).keeps λc ys j=> ?_,q,es,ep,hq,h2,h3,m,h5⟩;rw[Af (jZ j e (λz=>nomatch z))];exact j
def lh {Q:kj->ki->Prop}(hu:A.units+2<cLine)(I:Inv X Sr σ H s)(e:H a=some (.dN X.K kvs))(hb:GK X.K H b k)(j:RelV d r)(h:∀f g,Inv X Sr σ H g->RelV ((Er kvs k).getD d) f->Q f g):wpAny (model X.prog X.w) A (call (.builtin "dict.get") [.ref a, .ref b,r]) Q E s:=by obtain⟨z,hd,xs,c,i⟩:=P5 I.hok I.kIn e;refine ADm AC1 i.typeIs AET (AEU _ _ _) (meetsH_dict_get_default (fkKind X.prog X.w) a b hd r) ⟨Dc hu,k,xs,Jt I.hok I.kIn hb,i,h _ _ (I.tok _) ?_⟩;exact(c.val k).getD j
end
def jq (K:AAB):TE:=λ_ H Q=>∀p,H p=none->Q (.ref p) (upd H p (.dN K []))
def rK (K:AAB)(e f:TE):TE:=λd H Q=>e d H λx H1=>f d H1 λy c=>∃a b kvs k v,x= .ref a/\y= .ref b/\c a=some (.dN K kvs)/\GK K c b k/\Er kvs k=some v/\Q v c
def rL (K:AAB)(e f:TE):TE:=λd H Q=>e d H λy H1=>f d H1 λx c=>∃a b kvs k,x= .ref a/\y= .ref b/\c a=some (.dN K kvs)/\GK K c b k/\Q (.bl (Er kvs k).isSome) c
def de (K:AAB)(e f g:TE):TS:=λD c H=>g c H λv H1=>e c H1 λx h=>f c h λy d=>∃a b kvs k,x= .ref a/\y= .ref b/\d a=some (.dN K kvs)/\GK K d b k/\kvs.length<sizeLine/\D.nx c (upd d a (.dN K (EE kvs k v)))
def Wl (K:AAB)(e f g:TE):TE:=λc H Q=>e c H λx H1=>∃a kvs,x= .ref a/\H1 a=some (.dN K kvs)/\f c H1 λy h=>g c h λz d=>∃b kvs k,y= .ref b/\d a=some (.dN K kvs)/\GK K d b k/\Q ((Er kvs k).getD z) d
section
variable {X:Cx}{o i e f value:kc}{pos pos' apos cpos:Pos}{td ty tv tx:TE}
def bC {P:fm}{w:fe}{H:Hp}{K:AAB}(h:Wf)(hb:sysModules<h.objs.size):B0 P w H (h.push {cls:= .type "dict",data:= .dict #[] }) h.objs.size (.dN K []):=
 ⟨ABS _,ACL.mpr (AAk (AAM hb)), [], .nil,_, #[],0,AAQ _ rfl,⟨rfl,rfl,rfl⟩,rfl,rfl,List.nodup_nil⟩
def iB:PE X (.Dict [] [] pos) (jq X.K):=λb s c H Q I h=>
 wpAny_Dict_empty ⟨.ref s.heap.objs.size,_,I.laid (a:=s.heap.objs.size) (o:= .dN X.K []) (t':=s.toks) (λ_ _ q=>AAH _ q) (AAJ _) (bC s.heap I.big),rfl,h _ (I.hok.fresh (AAJ _))⟩
def jK {g:km (ke×Obj)}{h:St}{H:Hp}{s:ki}{a:ke}{kvs:km (FK×V)}(I:Inv X g h H s)(e:H a=some (.dN X.K kvs)):s.TypeIs (.ref a) "dict" /\(∀b,Value.ref a= .ref b->∃c,s.heap.get? b=some c/\c.dict=none):=by obtain⟨_,hd,xs,_,d⟩:=P5 I.hok I.kIn e;refine⟨d.typeIs,λb q=> ?_⟩;cases q;obtain⟨c,_,_,h1,h2,_⟩:=d;exact⟨c,h1,h2.2.1⟩
def iA (hu:X.A.units+2<cLine)(m:PE X o td)(hi:PE X i ty)(hs:j5 i):PE X (.Subscript o i pos) (rK X.K td ty):=by intro d s g H Q I h;refine i0 PySem.F.slot_dict_getitem.lookup hs (Bc (m d s g H _ I h) λu n ⟨x,H1,p,r,t⟩=>Bc (hi d n g H1 _ p t) λw G ⟨y,z,j,B,a,b,kvs,k,v,ex,C,e,hb,l,D⟩=> ?_);subst ex C;obtain rfl:u=Value.ref a:=r;obtain rfl:w=Value.ref b:=B;exact⟨(jK j e).1,ZL hu j e hb l λJ L E c=>⟨v,z,E,c,D⟩⟩
def mI (hu:X.A.units+2<cLine)(hi:PE X i ty)(g:PE X o td):PC X .In i o (rL X.K ty td):=by intro c s d H Q I h;refine Bc (hi c s d H _ I h) λj l ⟨y,H1,m,n,p⟩=>Bc (g c l d H1 _ m p) λu C ⟨x,r,t,v,a,b,kvs,k,ex,w,e,hb,z⟩=> ?_;subst ex w;obtain rfl:u=Value.ref a:=v;obtain rfl:j=Value.ref b:=n;exact uq hu t e hb λD B=>⟨.bl _,r,B,rfl,z⟩
def X4 (hu:X.A.units+2<cLine)(g:PE X o td)(hi:PE X i ty)(hv:PE X value tv)(hs:swapsWith value (some (.Subscript o i pos')) pos.line X.env=pure false):PS X (.Assign [.Subscript o i pos'] value pos) (de X.K td ty tv):=by intro d s c H D I h;refine wpAny_Assign_Subscript (Bc (hv d s c H _ I h) λr j ⟨v,H1,l,rv,m⟩=>Bc (g d j c H1 _ l m) λu n ⟨x,p,t,w,z⟩=>Bc (hi d n c p _ t z) λB L ⟨y,M,C,E,a,b,kvs,k,ex,F,e,hb,hl,G⟩=> ?_) hs;subst ex F;obtain rfl:u=Value.ref a:=w;obtain rfl:B=Value.ref b:=E;exact ZM hu C e hb hl rv λN J=>⟨c,_,J,G⟩
def UR (hu:X.A.units+2<cLine)(n:PE X o td)(he:PE X e ty)(p:PE X f tx)(m:M2 X o "get" apos e f cpos):PE X (.Call (.Attribute o "get" apos) [e,f] [] cpos) (Wl X.K td ty tx):=by
 intro c s d H Q I h;refine AEV m.base m.few m.line AEW AC1 AEs (Bc (n c s d H _ I h) λu r ⟨x,H1,j,t,a,l,ex,v,w⟩=> ?_);subst ex;obtain rfl:u=Value.ref a:=t;obtain⟨B,C⟩:=jK j v;refine⟨B,C, ?_⟩;rw[m.trees];refine ADM rfl (AEE (ACm (Bc (he c r d H1 _ j w) λD E ⟨y,F,G,J,L⟩=>
  ACm (Bc (p c E d F _ G L) λT U ⟨z,M,N,O,b,kvs,k,P,e,hb,R⟩=>AD7 ?_))))
 subst P;obtain rfl:D=Value.ref b:=J;exact lh hu N e hb O λW Y S g=>⟨_,M,S,g,R⟩
end
end L2
namespace PySem
open Sem (wp)
def Ku (h:Wf)(d:ke)(es:Array DictEntry)(ep:Nat):Prop:=∃o,h.get? d=some o/\o.ExactDict/\o.data= .dict es ep
section
variable {prog:fm}{w:fe}{A:Tb}{E:kj->ki->Prop}{s:ki}{d it:ke}{es:Array DictEntry}{ep i:Nat}
def Ku.typeIs (x:Ku s.heap d es ep):s.TypeIs (.ref d) "dict" :=let ⟨o,a,hc,_⟩:=x;⟨o,a,hc.1⟩
def Ku.at {h h':Wf}(x:Ku h d es ep)(e:∀o,h.get? d=some o->h'.get? d=some o):Ku h' d es ep:=let ⟨o,a,r⟩:=x;⟨o,e _ a,r⟩
def dU {Q:kj->ki->Prop}(hd:(d==sysModules)=false)(b:Ku s.heap d es ep)(hQ:Q (.ref s.heap.objs.size) {s with heap:=s.heap.push {cls:= .type "dict_keyiterator",data:= .fields #[.ref d, .int 0 0, .int es.size 0, .int ep 0] }}):wpAny (model prog w) A (pyIter (.ref d)) Q E s:=by have a:=b.typeIs;obtain⟨o,c,hc,e⟩:=b;refine wpAny_pyIter_slot a F.slot_dict_iter (ABO F.slot_dict_iter a F.entry_dict_iter ?_ (F.args_dict_iter_1 _));unfold Builtin.«dict.__iter__»;refine AAA ?_;unfold Builtin.Dict.dictSlotNone;refine AAA (wpAny_notOrdered_dict a (AAE ?_));show wpAny _ _ (Builtin.Dict.showsAll d >>= _) _ _ s;unfold Builtin.Dict.showsAll;rw[AAC (by rw[hd];exact AAO)];refine AAA (AAE (AAA (AEX c e (AAA (AEY c e ?_)))));exact AAA (ABQ (AAE ⟨_,rfl,"dict_keyiterator",_,⟨_,AAQ _ rfl,rfl⟩,AC2.lookup,by simpa[rawInt] using hQ⟩))
def dW {Q:kd kj->ki->Prop}(a:s.heap.IsKeyIter it d i es.size ep)(h:Ku s.heap d es ep)(j:i<es.size)(hQ:∀h',h'.IsKeyIter it d (i+1) es.size ep->Heap.SameBut it s.heap h'->Q (some es[i].key) {s with heap:=h'}):wpAny (model prog w) A (pyNext (.ref it)) Q E s:=by
 have b:=a.typeIs;obtain⟨o,c,hc,hd⟩:=a;obtain⟨k,e,l,f⟩:=h;unfold pyNext;refine AAA (ADZ (ABz (name:=Str.ofString "__next__") b AC2 (ABO AC2 b AEt ?_ (AEu _))));refine AAA (AAE (AAA (AAA ?_)));refine AAA (ADn b (AAE (AAA (wpAny_fieldsOf c hd ?_))));simp only[show Builtin.Dict_items.ownsTuple "dict_keyiterator" =false by decide,AAf,AAX];show wpAny _ _ (if (Value.ref d==Value.none)=true then _ else _) _ _ s;rw[AAC (show ¬((Value.ref d==Value.none)=true) from AAO)];refine AAA (AAE (AAA (AEX e f ?_)));rw[AAC (by simp)];refine AAA (AAE (AAA (AEY e f ?_)));rw[AAC (by simp)];refine AAE ?_;simp only[show ¬((i:Int)<0) from by omega,AAX,ACR,AEv j];refine AAA ?_;refine AAA (ADn b (AAE (AAA (wpAny_isOneOf_keyiter b ?_))));show wpAny _ _ (setField (.ref it) 1 (rawInt ((i:Int)+1)) >>= _) _ _ s;refine AAA (ADT c hd (by simp) ?_);have g:(s.heap.update it (Obj.mapFields (·.setIfInBounds 1 (rawInt ((i:Int)+1))))).IsKeyIter it d (i+1) es.size ep:=
  ⟨_,AB0 _ c (Obj.isFreed_of_fields (ADV hd _)),(Obj.cls_mapFields ..).trans hc,by rw[ADV hd];simp[rawInt]⟩
 refine AAA (AAd (AAA (wpAny_isOneOf_keyiter (s:={s with heap:=s.heap.update it (Obj.mapFields (·.setIfInBounds 1 (rawInt ((i:Int)+1))))}) g.typeIs ?_)));show wpAny _ _ (pure es[i].key) _ _ _;exact AAE (AAE ⟨_,rfl,AAE (hQ _ g (ADU ..))⟩)
def iP {Q:kd kj->ki->Prop}(j:A.handled=none)(c:s.heap.IsKeyIter it d es.size es.size ep)(k:Ku s.heap d es ep)(hQ:∀h',Heap.ExtBut it s.heap h'->Q none {s with heap:=h'}):wpAny (model prog w) A (pyNext (.ref it)) Q E s:=by have e:=c.typeIs;obtain⟨o,f,hc,hd⟩:=c;obtain⟨l,g,n,h⟩:=k;unfold pyNext;refine AAA (ADZ (ABz (name:=Str.ofString "__next__") e AC2 (ABO AC2 e AEt ?_ (AEu _))));refine AAA (AAE (AAA (AAA ?_)));refine AAA (ADn e (AAE (AAA (wpAny_fieldsOf f hd ?_))));simp only[show Builtin.Dict_items.ownsTuple "dict_keyiterator" =false by decide,AAf,AAX];show wpAny _ _ (if (Value.ref d==Value.none)=true then _ else _) _ _ s;rw[AAC (show ¬((Value.ref d==Value.none)=true) from AAO)];refine AAA (AAE (AAA (AEX g h ?_)));rw[AAC (by simp)];refine AAA (AAE (AAA (AEY g h ?_)));rw[AAC (by simp)];refine AAE ?_;simp only[show ¬((es.size:Int)<0) from by omega,AAX,ACR,Array.getElem?_eq_none (AAJ es.size)];refine AAA ?_;refine AAA (ADn e (AAE ?_));show wpAny _ _ (setField (.ref it) 0 .none >>= _) _ _ s;refine AAA (ADT f hd (by simp) ?_);show wpAny _ _ (newExc (.type "StopIteration") [] >>= _) _ _ _;refine AAA ?_;simp only[newExc,newTuple];refine AAA (ABQ ?_ (by size_fits));refine AAA (m:=firstArgMember _ _) (ABp (a:=Value.none) (by first | rfl|(simp only[firstArgMember];rfl)) (ABQ ?_ (by size_fits)));simp only[raiseNew];refine AAA (wpAny_handled ?_);rw[show A.in1.handled=none from j];refine AAA (AAE (wpAny_throw ?_));refine AAA (AB9 (T:="StopIteration") (b:=true) ⟨_,AAQ _ rfl,rfl⟩ isSubtype_stop ?_);exact AAE (hQ _ (((ADU ..).extBut.push _).push _))
def Zy (f:A.handled=none)(g:d≠it):Walks prog w A it [it,d] [it] es.size (λi v=>∃e,es[i]? =some e/\v=e.key) (λi h=>h.IsKeyIter it d i es.size ep/\Ku h d es ep) where
 sub:=λb hb=>by simp at hb;simp[hb]
 frame:=λ_ _ _ st hk=>⟨st.1.at λo e=>hk it (by simp) o e,st.2.at λo e=>hk d (by simp) o e⟩
 item:=λi s Q E hi st hQ=>dW st.1 st.2 hi λh' j c=>
  hQ _ h' s.toks ⟨es[i],by simp[hi],rfl⟩ ⟨j,st.2.at λo e=>c.extBut d o g e⟩ λb o hb e=>c.extBut b o (λh=>hb (by simp[h])) e
 done:=λs Q E st hQ=>iP f st.1 st.2 λh' a=>hQ h' s.toks λb o hb e=>a b o (λh=>hb (by simp[h])) e
 self:=λ_ _ _ _ st hQ=>wpAny_pyIter_keyiter st.1 hQ
end
def dS {prog:fm}{w:fe}{A:Tb}{E:kj->ki->Prop}{s:ki}{d:ke}{es:Array DictEntry}{ep:Nat}{Q:gn->ki->Prop}(b:Ku s.heap d es ep)(h:Q false s):wpAny (model prog w) A (Builtin.List.listLengthHint (.ref d)) Q E s:=by
 have a:=b.typeIs;unfold Builtin.List.listLengthHint;refine AAA (ABt a F.slot_dict_len.lookup ?_);have hs:splitId "dict.__len__" =some ("dict","__len__"):=by decide +kernel
 simp only[hs];refine AAA (AB9 a (by rw[isSubtype_type];kernel_rfl:isSubtype (.type "dict") (.type "dict")=pure true) ?_);simp only[ABc,AAf,AAX];rw[AAD (by decide +kernel)];refine AAA (ACT a ?_);exact AAE h
section
variable {prog:fm}{w:fe}{A:Tb}{s:ki}{R:Result->ki->Prop}{d:ke}{es:Array DictEntry}{ep:Nat}
def WL (J:A.handled=none)(S:ke)(res:kj)(h:Nat)(hd:(d==sysModules)=false)(n:Ku s.heap d es ep)(K:es.size<=sizeLine)(p:d≠S)(B:s.heap.get? S=some {cls:= .type "list",data:= .seq #[] h})(L:∀h' M a l,(∀b o,b≠S->s.heap.get? b=some o->h'.get? b=some o)->h'.get? S=some {cls:= .type "list",dict:=none,data:= .seq a l,slots:= #[] }->ItemsOf (λi v=>∃e,es[i]? =some e/\v=e.key) a es.size->R (.ok (.ret res)) {s with heap:=h',toks:=M}):wpAny (model prog w) A.in1 (Builtin.List.listExtendWith (.ref S) (.ref d) res) (λr c=>match r with | .done f=>R (.ok f) c | .again l=>l.quiet=true/\codeAny (model prog w) A l R c) (λe c=>R (.error e) c) s:=by
 have N:=n.typeIs;unfold Builtin.List.listExtendWith;refine AAA (ACT N ?_);have h1:Builtin.List.listSameRef (.ref S) (.ref d)=false:=by simp[Builtin.List.listSameRef,AAk p]
 have h2:(Value.type "dict" == Value.type "list")=false:=by decide
 have h3:(Value.type "dict" == Value.type "tuple")=false:=by decide
 simp only[h1,h2,h3,AEZ,AAf,AAX];refine AAA (dU hd n ?_);have O:d<s.heap.objs.size:=let ⟨o,P,_⟩:=n;AAG P;have t:S<s.heap.objs.size:=AAG B;have u:Ku (s.heap.push {cls:= .type "dict_keyiterator",data:= .fields #[.ref d, .int 0 0, .int es.size 0, .int ep 0] }) d es ep:=n.at λo e=>AAH _ e;refine AAA (AAd (dS (s:={s with heap:=s.heap.push {cls:= .type "dict_keyiterator",data:= .fields #[.ref d, .int 0 0, .int es.size 0, .int ep 0] }}) u ?_));generalize x:({cls:= .type "dict_keyiterator",data:= .fields #[.ref d, .int 0 0, .int es.size 0, .int ep 0] }:Obj)=io at u ⊢;have C:(s.heap.push io).get? S=some {cls:= .type "list",data:= .seq #[] h}:=AAH _ B;have y:(s.heap.push io).get? s.heap.objs.size=some io:=AAQ _ (by rw[<-x];rfl);have D:S≠s.heap.objs.size:=AAM t;rw[AAD (by decide +kernel)];refine AAA (ABk (AAA ?_));show wpAny _ A.in1 (updateSeq S (·.push .none) >>= λ_=>updateSeq S (·.pop)) _ _ _;refine AAA (AEa (s:={s with heap:=s.heap.push io}) C rfl ?_);have g:=AB0 (Obj.mapSeq (·.push Value.none)) C rfl;refine AEa (hz:=by seq_fits) g rfl ?_;have j:=AB0 (Obj.mapSeq (·.pop)) g rfl;have k:∀b o,b≠S->(s.heap.push io).get? b=some o->(((s.heap.push io).update S (Obj.mapSeq (·.push Value.none))).update S (Obj.mapSeq (·.pop))).get? b=some o:=
  λb o hb e=>(ACr _ _ (AAk hb)).trans ((ACr _ _ (AAk hb)).trans e)
 have W:=(Zy (prog:=prog) (w:=w) (A:=A.in1) (d:=d) (it:=s.heap.objs.size) (es:=es) (ep:=ep) J (AAM O)).toS;refine AAE ⟨plainId_quiet F.plain_extend_loop _,codeAny_extend_loopS W K S ?_ res es.size 0 _ _ _ rfl (ABS _) ⟨⟨io,k _ _ (AAk D) y,by rw[<-x],by rw[<-x];rfl⟩,u.at λo e=>k _ _ p e⟩ j (ItemsOf.nil _) λc a l z Q T=> ?_⟩
 .intro m;simp only[AAF,AA1,AA2] at m;rcases m with e|e
  .exact D e
  .exact p e.symm
 .obtain ⟨U,E,G,H,X⟩:=z;have e:c={s with heap:=c.heap,toks:=c.toks}:=by obtain⟨Y,Z,a3,a4,a5⟩:=c;simp only at E G H;subst E;subst G;subst H;rfl
  rw[e];refine L c.heap c.toks a l (λb o hb I=>U b o ?_ (k b o hb (AAH _ I))) Q T;intro m;simp only[AAF,AA1,AA2] at m;rcases m with e|e
  .exact hb e
  .exact AAM (AAG I) e
end
section
variable {prog:fm}{w:fe}{A:Tb}{E:kj->ki->Prop}{s:ki}{d:ke}{es:Array DictEntry}{ep:Nat}
def PD {Q:kj->ki->Prop}(t:A.handled=none)(hd:(d==sysModules)=false)(p:Ku s.heap d es ep)(u:es.size<=sizeLine)(hQ:∀h' k l,(∀b o,s.heap.get? b=some o->h'.get? b=some o)->h'.get? s.heap.objs.size=some {cls:= .type "list",dict:=none,data:= .seq (es.map (·.key)) l,slots:= #[] }->Q (.ref s.heap.objs.size) {s with heap:=h',toks:=k}):wpAny (model prog w) A (call (.type "list") [.ref d]) Q E s:=by
 have v:d<s.heap.objs.size:=let ⟨o,x,_⟩:=p;AAG x;refine callType_codes (Q₁:=λobj c=>obj= .ref s.heap.objs.size/\c={s with heap:=s.heap.push {cls:= .type "list",data:= .seq #[] }}) F.called_list (F.typeCall_list_1 _) F.entry_list_init (code_list_new _ ⟨rfl,rfl⟩) λobj c g=> ?_;obtain⟨rfl,rfl⟩:=g;have j:(s.heap.push {cls:= .type "list",data:= .seq #[] }).get? s.heap.objs.size=some {cls:= .type "list",data:= .seq #[] }:=AAQ _ rfl;refine⟨⟨_,j,rfl⟩,F.args_list_init_2 _ _, ?_⟩;show wpAny _ A.in1.in1 (do let m <-Builtin.List.listItems (.ref s.heap.objs.size);Builtin.List.listUpdate (.ref s.heap.objs.size) (λ_=> #[]);letGo m.toList.reverse;Builtin.List.listExtendWith (.ref s.heap.objs.size) (.ref d) .none) _ _ _;refine AAA ?_;unfold Builtin.List.listItems;refine AAA (ABV j rfl (AAE ?_));refine AAA (AEa j rfl ?_);have f:=AB0 (Obj.mapSeq (λ_=>(#[] :Array kj))) j rfl;refine AAA (ADY ?_);have h:∀b o,s.heap.get? b=some o->((s.heap.push {cls:= .type "list",data:= .seq #[] }).update s.heap.objs.size (Obj.mapSeq (λ_=>(#[] :Array kj)))).get? b=some o:=λb o e=>by have hb:b≠s.heap.objs.size:=λz=>ABd _ (z ▸ AAG e);exact(ACr _ _ (AAk hb)).trans (AAH _ e)
 refine WL (s:={s with heap:=(s.heap.push {cls:= .type "list",data:= .seq #[] }).update s.heap.objs.size (Obj.mapSeq (λ_=>(#[] :Array kj)))}) (d:=d) (es:=es) (ep:=ep) (A:=A.in1) t s.heap.objs.size .none _ hd (p.at λo e=>h d o e) u (AAM v) f ?_;intro h' k a l y B C;refine⟨rfl,hQ h' k l (λb o e=>y b o (λz=>ABd _ (z ▸ AAG e)) (h b o e)) ?_⟩;have D:a=es.map (·.key):=by
  obtain⟨h1,h2⟩:=C;refine Array.ext (by simp[h1]) λi hi hj=> ?_;obtain⟨e,r,G⟩:=h2 i _ (by simp[hi] :a[i]? =some a[i]);have n:i<es.size:=by simpa using hj
  rw[AEv n] at r;cases r;rw[G];simp
 rw[<-D];exact B
end
end PySem
namespace L2
open PySem PySem.Spec PyProof.Rows
section
variable {X:Cx}
def mW (K:AAB):km V->Hp->VK->Prop:=λxs H Q=>∃p kvs,xs= [.ref p] /\H p=some (.dN K kvs)/\∀l cs,H l=none->Paired (λ(q:FK×V) (c:ke)=>GK K H c q.1) kvs cs->Q (.ref l) (upd H l (.lst (cs.map V.ref)))
def VQ {k:Nat}(g:Room k X.A):Cg X (.type "list") (mW X.K):=by
 intro x s y H xs B Q I r h;obtain⟨p,kvs,rfl,hp,q⟩:=h;obtain⟨u,rfl,i⟩:=vals1 r;cases i;obtain⟨z,hd,ys,b,o,es,ep,h1,h2,h3,c,h5,j⟩:=P5 I.hok I.kIn hp;have hl:ys.length=kvs.length:=(ACN b).symm;have d:es.size=ys.length:=by rw[<-AB8,c,AAK]
 refine PD (es:=es) (ep:=ep) g.hd hd ⟨o,h1,h2,h3⟩ (by rw[d,hl];exact z) λh' m n v e=> ?_;have f:es.map (·.key)=((ys.map (·.2.1)).map Value.ref).toArray:=by apply Array.ext';rw[Array.toList_map,c];simp[entryOfKey]
 rw[f] at e;have hv:∀l:km ke,Ax (l.map V.ref) (l.map Value.ref):=λl=>by
  induction l with
  | nil=>exact .nil
  | cons a l ih=>exact .cons rfl ih
 refine⟨.ref s.heap.objs.size,_,I.laid (t':=m) v (AAJ _) (show B0 X.prog X.w _ h' _ (.lst ((ys.map (·.2.1)).map V.ref)) from⟨by simp only[AAK];rw[hl];exact z,_,n,hv _,e⟩),rfl,q _ _ (I.hok.fresh (AAJ _)) ?_⟩;clear q e f c j h5 d hl z hp;induction b with
 | nil=>exact .nil
 | cons h t ih=>exact .cons h.2.1 ih
end
end L2
namespace PL
open PySem PySem.Spec PyProof.Rows L2
def V0 (k:FK):PV:= .tup [.tup [.int k.1.1, .int k.1.2], .int k.2]
def BU (kvs:km (FK×Int))(k:FK):kd Int:=(kvs.find? λp=>decide (p.1=k)).map (·.2)
def Ww (kvs:km (FK×Int))(k:FK):Er (CD kvs) k=(BU kvs k).map V.int:=by
 induction kvs with
 | nil=>rfl
 | cons p r ih=>
   by_cases e:p.1=k
   .simp [BU,CD,Er,e]
   .simpa [BU,CD,Er,e] using ih
section
variable {K:AAB}{T M:ke->Prop}{H:Hp}
def Mm {v:V}{t d:Int}(r:CF K T M H v (.tup [.int t, .int d])):∃b,v= .ref b/\aZ K H b t d:=by
 obtain⟨a,vs,rfl,hq,c⟩:=d3 r;cases c with
 | cons f c=>
 cases c with
 | cons g c=>
 cases c;cases f;cases g;refine⟨a,rfl, ?_⟩;rcases hq with h|⟨o,e,n,h1,h2,h3,_,i⟩
 .exact .inl h
 .exact .inr ⟨o,e,n,h1,h2,h3,i⟩
def dY {b:ke}{t d:Int}(h:aZ K H b t d):CF K T M H (.ref b) (.tup [.int t, .int d]):=by
 refine .tup (vs:= [.int t, .int d]) ?_ (.cons (.int _) (.cons (.int _) .nil));rcases h with h|⟨o,a,n,h1,h2,h3,c⟩
 .exact .inl h
 .refine .inr ⟨o,a,n,h1,h2,h3, ?_,c⟩;have:=c.length;simp only[AAc,ACz,AB8] at this;rw[<-this];exact AAj rfl
def dX {c:ke}{k:FK}(h:GK K H c k):CF K T M H (.ref c) (V0 k):=by obtain⟨b,h1,h2⟩:=h;exact .tup (.inl h1) (.cons (dY h2) (.cons (.int _) .nil))
end
section
variable {X:Cx}{a b d:kc}{pos p1:Pos}{ta tb td:AE}
def N5 (x y:PV)(R:FK->Prop):Prop:=match x,y with | .tup [.int t, .int e], .int s=>R ((t,e),s)|_,_=>False
def UP {x y:PV}{R:FK->Prop}(h:N5 x y R):∃t e s,x= .tup [.int t, .int e] /\y= .int s/\R ((t,e),s):=by
 unfold N5 at h;split at h
 .exact ⟨_,_,_,rfl,rfl,h⟩
 .exact h.elim
def oK (m:PV)(R:km (FK×Int)->Prop):Prop:=match m with | .dct kvs=>R kvs|_=>False
def ci {m:PV}{R:km (FK×Int)->Prop}(h:oK m R):∃kvs,m= .dct kvs/\R kvs:=by cases m <;> first | exact⟨_,rfl,h⟩|exact h.elim
def gA (ta tb td:AE):AE:=λτ Q=>ta τ λx=>tb τ λy=>td τ λm=>oK m λkvs=>N5 x y λk=>Q (.bl (BU kvs k).isSome)
def af (td ta tb:AE):AE:=λτ Q=>td τ λm=>ta τ λx=>tb τ λy=>oK m λkvs=>N5 x y λk=>match BU kvs k with | some i=>Q (.int i)|none=>False
def Tw {K:AAB}{B:DJ}{T:ke->Prop}{H:Hp}{f:L2.St}{τ:BL}{q:ke}{vs:km V}(c:SR K B T H f τ)(hq:H q=none):DK T H T (upd H q (.tup vs))/\¬T q:=by refine⟨DK.lay c.tp hq,λz=> ?_⟩;obtain⟨o,e,_⟩:=(c.tp q z).mut;rw[hq] at e;cases e
def ic {r z A:TE}(D:II X.K r ta)(E:II X.K z tb)(F:II X.K A td):II X.K (rL X.K (i6 (Oh r (Oh z i4))) A) (gA ta tb td):=by
 intro B T p τ H Q U C h k;refine D B T p τ H _ _ C h λv x T1 H1 n G h1=> ?_;have f:=C.stp n;refine E B T1 p τ H1 _ _ f h1 λw y I W g J h2=> ?_;have i:=f.stp g;refine⟨AAj rfl,λq hq=> ?_⟩;obtain⟨j,L⟩:=Tw (vs:= [v,w]) i hq;have o:=i.stp j;refine F B I p τ _ _ _ o h2 λu m M N l O P=> ?_;obtain⟨kvs,rfl,h5⟩:=ci P;obtain⟨t,e,s,rfl,rfl,R⟩:=UP h5;have rv:=((G.stp g f.va).stp j i.va).stp l o.va;obtain⟨c,rfl,tn⟩:=Mm rv;cases J;cases O with
 | dct S _ _=> refine⟨_,q,_,((t,e),s),rfl,rfl,S,⟨c,l.keep _ _ L Ab,tn⟩, ?_⟩;rw[Ww,AC0];exact k _ _ M N (((n.trans g).trans j).trans l) (.bl _) R
def nO {c:Nat}{k:Nat}(e:Room k X.A)(ha:SE X a ta)(hb:SE X b tb)(hd:SE X d td)(f:behindInMarks .In d=false:=by rfl)(g:starEach (a :: [b]) X.env=(false,eval a X.env)::starEach [b] X.env:=by rfl)(h:starEach [b] X.env=(false,eval b X.env)::starEach [] X.env:=by rfl):Sa X (.Compare (.Tuple [a,b] c p1) [.In] [d] pos) (Al (gA ta tb td)):=by obtain⟨p,i,j⟩:=ha;obtain⟨r,l,m⟩:=hb;obtain⟨s,n,o⟩:=hd;exact⟨_,mP (mI (by have:=e.un;omega) (N6 (Bx i (Bx l ED h) g)) n) f,SJ (ic j m o)⟩
def iT {C:Nat}{k:Nat}(E:Room k X.A)(hd:SE X d td)(ha:SE X a ta)(hb:SE X b tb)(hs:j5 (.Tuple [a,b] C p1))(F:starEach (a :: [b]) X.env=(false,eval a X.env)::starEach [b] X.env:=by rfl)(G:starEach [b] X.env=(false,eval b X.env)::starEach [] X.env:=by rfl):SE X (.Subscript d (.Tuple [a,b] C p1) pos) (af td ta tb):=by
 obtain⟨t1,I,J⟩:=ha;obtain⟨t2,K,L⟩:=hb;obtain⟨t3,M,N⟩:=hd;refine⟨_,iA (by have:=E.un;omega) M (N6 (Bx I (Bx K ED G) F)) hs,λB T z τ H Q AQ D h k=> ?_⟩;refine N B T z τ H _ _ D h λu m O P p R S=> ?_;have j:=D.stp p;refine J B O z τ P _ _ j S λv x T1 H1 l U h1=> ?_;have f:=j.stp l;refine L B T1 z τ H1 _ _ f h1 λw y W H2 g Y h2=> ?_;have n:=f.stp g;refine⟨AAj rfl,λq hq=> ?_⟩;obtain⟨o,nt⟩:=Tw (vs:= [v,w]) n hq;obtain⟨kvs,rfl,h5⟩:=ci h2;obtain⟨t,e,s,rfl,rfl,r⟩:=UP h5;have rv:=(U.stp g f.va).stp o n.va;have Z:=((R.stp l j.va).stp g f.va).stp o n.va;obtain⟨c,rfl,tn⟩:=Mm rv;cases Y;cases ev:BU kvs ((t,e),s) with
 | none=>rw[ev] at r;exact r.elim
 | some i=>
   rw[ev] at r;cases Z with
   | dct hh _ _=> exact⟨_,q,_,((t,e),s), .int i,rfl,rfl,hh,⟨c,Ab,tn⟩,by rw[Ww,ev];rfl,k _ _ W _ (((p.trans l).trans g).trans o) (.int _) r⟩
def VJ (r:AA):AA:=λτ Q=>r τ λxs=>match xs with | [.dct kvs] =>Q (kvs.map λp=>V0 p.1)|_=>False
def dn {x:Str}{p pos:Pos}{e:kc}{es:km kc}{r:AA}{k:Nat}(u:Room k X.A)(v:Gl X x)(w:X.mg x=none)(hv:bootBuiltins x=some (.type "list"))(ha:SA X (e::es) r)(y:x≠"__name__" :=by decide)(hdb:(x==("__debug__" :Str))=false:=by decide)(he:starEach (e::es) X.env=(false,eval e X.env)::starEach es X.env:=by rfl)(hpl:(backTo pos (starEach es X.env)).any (·.1)=false:=by rfl):SF X (.Call (.Name x p) (e::es) [] pos) (VJ r):=by
 obtain⟨t,z,s⟩:=ha;refine⟨_,Ew (VQ u) v w hv z y hdb he hpl,λB T j τ H Q G m h k=>s B T j τ H _ _ m h λvs xs T1 H1 c C h1=> ?_⟩;have f:=m.stp c;split at h1 <;> first | exact h1.elim|skip
 rename_i kvs;cases C with
 | cons r t=>
   cases t;cases r with
   | dct n I nm=>
     refine⟨_,_,rfl,n,λl cs hl o=> ?_⟩;have D:BB X.K T1 (mt B j τ) H1 (cs.map V.ref) (kvs.map λp=>V0 p.1):=by
      clear h1 n;induction kvs generalizing cs with
      | nil=>cases o;exact .nil
      | cons q r ih=>
        cases o with
        | cons h t=>exact .cons (dX h) (ih _ t)
     obtain⟨E,g,i,F⟩:=RZ f hl D;exact k l _ _ T1 _ (c.trans E) g (c.none hl) Ab i F h1
end
def Pf (m:km (FK×Int))(k:FK)(v:Int):km (FK×Int):=if (m.any λp=>decide (p.1=k)) then m.map λp=>if p.1=k then (p.1,v) else p else m ++ [(k,v)]
def bump (m:km (FK×Int))(k:FK)(d:Int):km (FK×Int):=Pf m k ((BU m k).getD 0+d)
def dJ (m:km (FK×Int))(k:FK)(v:Int):EE (CD m) k (.int v)=CD (Pf m k v):=by
 unfold EE Pf;have e:((CD m).any λa=>decide (a.1=k))=(m.any λp=>decide (p.1=k)):=by unfold CD;rw[List.any_map];rfl
 rw[e];split
 .unfold CD;rw[ABq,ABq];apply AB2;intro p _;by_cases h:p.1=k <;> simp[h]
 .simp [CD]
def J2 (m:km (FK×Int))(k:FK)(v:Int):(Pf m k v).length<=m.length+1:=by unfold Pf;split <;> simp
def bS (m:km (FK×Int))(k:FK):(Er (CD m) k).getD (.int 0)= .int ((BU m k).getD 0):=by rw[Ww];cases BU m k <;> rfl
def P7:PV->kd (kd (Int×Int))
 | .non=>some none
 | .tup [.int t, .int d] =>some (some (t,d))
 | _=>none
def jT:PV->kd Int
 | .int i=>some i
 | _=>none
def YB:km PV->kd ((Int×Int)×Int×kd (Int×Int))
 | [b,h,e] =>(P7 b).bind λo=>o.bind λp=>(jT h).bind λi=>(P7 e).map λq=>(p,i,q)
 | _=>none
def YC (x:PV):kd ((Int×Int)×Int×kd (Int×Int)):=
 match x with
 | .tup xs=>YB xs
 | .lst xs=>YB xs
 | _=>none
def Ga (m:km (FK×Int))(b:Int×Int)(h:Int)(e:kd (Int×Int)):km (FK×Int):=
 match e with
 | none=>bump m (b,1-h) 1
 | some e=>bump (bump m (b,1-h) 1) (e,0) (-1)
def Ft:km PV->km (FK×Int)->kd (km (FK×Int))
 | [],m=>some m
 | x::r,m=>match YC x with | some (b,h,e)=>Ft r (Ga m b h e)|none=>none
def dM:R2:=λx y H Q=>y= .non/\Q (.bl (!decide (x= .non))) H
def Wi (K:AAB):TS:=
 Wn (Pm (i6 (Oh (DX 2) (Oh (Zt (Mi λi j=> .int (i-j)) (tC (.int 1)) (DX 3)) i4))) (Bn 5))
  (Wn (de K (DX 1) (DX 5) (Zt (Mi λi j=> .int (i+j)) (Wl K (DX 1) (DX 5) (tC (.int 0))) (tC (.int 1))))
    (rJ (eI (Zt dM (DX 4) (tC .non)))
      (Wn (Pm (i6 (Oh (DX 4) (Oh (tC (.int 0)) i4))) (Bn 6))
        (de K (DX 1) (DX 6) (Zt (Mi λi j=> .int (i-j)) (Wl K (DX 1) (DX 6) (tC (.int 0))) (tC (.int 1))))) jr))
def nQ (K:AAB):TS:=
 Wn (Pm (jq K) (Bn 1)) (Wn (nS (ph K (DX 0)) (PM K 3 (DI (Bn 2) (DI (Bn 3) (DI (Bn 4) MD)))) (Wi K)) (eG (DX 1)))
section
variable {K:AAB}{T M:ke->Prop}{H H':Hp}
def Ii.ext (va:Ii T M H)(ex:∀b o,H b=some o->H' b=some o):Mv K T M H T M H':=⟨va,λb o _ _ e=>ex b o e,λ_ t=>t,λ_ _ t=>t,λ_ _ m=>m⟩
def mf {v:V}{x:PV}{b:Int×Int}{h:Int}{e:kd (Int×Int)}(r:CF K T M H v x)(m:YC x=some (b,h,e)):∃a n f,v= .ref a/\(KJ K H a [n, .int h,f] \/FJ K H a [n, .int h,f])/\CF K T M H n (.tup [.int b.1, .int b.2])/\((e=none/\f= .non)\/∃t d,e=some (t,d)/\CF K T M H f (.tup [.int t, .int d])):=by
 have g:∀{f:V} {ep:PV},CF K T M H f ep->P7 ep=some e->((e=none/\f= .non)\/∃t d,e=some (t,d)/\CF K T M H f (.tup [.int t, .int d])):=by
  intro f ep y he;unfold P7 at he;split at he
  .cases he;cases y;exact .inl ⟨rfl,rfl⟩
  .cases he;exact .inr ⟨_,_,rfl,y⟩
  .cases he
 have j:∀{xs:km PV},YB xs=some (b,h,e)->∃ep,xs= [.tup [.int b.1, .int b.2], .int h,ep] /\P7 ep=some e:=λ{xs} hx=>by
  unfold YB at hx;split at hx
  .rename_i bp hp ep;obtain⟨o,k,hx⟩:=AEb.mp hx;obtain⟨p,z,hx⟩:=AEb.mp hx;obtain⟨i,l,hx⟩:=AEb.mp hx;obtain⟨q,A,hx⟩:=ACf.mp hx;cases hx;subst z;unfold P7 at k;split at k
   .cases k
   .cases k;unfold jT at l;split at l
    .cases l;exact⟨ep,rfl,A⟩
    .cases l
   .cases k
  .cases hx
 cases x with
 | tup xs=>
   obtain⟨ep,rfl,he⟩:=j m;obtain⟨a,vs,rfl,hq,c⟩:=Ea r;cases c with
   | cons s c=>
   cases c with
   | cons u c=>
   cases c with
   | cons w c=> cases c;cases u;exact⟨a,_,_,rfl, .inl hq,s,g w he⟩
 | lst xs=>
   obtain⟨ep,rfl,he⟩:=j m;obtain⟨a,vs,rfl,hq,_,_,c⟩:=C7 r;cases c with
   | cons s c=>
   cases c with
   | cons u c=>
   cases c with
   | cons w c=> cases c;cases u;exact⟨a,_,_,rfl, .inr (.inl (.inl hq)),s,g w he⟩
 | _=>cases m
def Wk {D:L7}{p:ke}{P s u w A B:kd V}{f:Hp}{m:km (FK×Int)}{v:V}{b:Int×Int}{h:Int}{e:kd (Int×Int)}{x:PV}(va:Ii T M H)(ex:∀b o,H b=some o->f b=some o)(Q:H p=none)(hp:f p=some (.dN K (CD m)))(hl:m.length+2<sizeLine)(r:CF K T M f v x)(U:YC x=some (b,h,e))(nx:∀s u w A B k,(∀b o,H b=some o->k b=some o)->k p=some (.dN K (CD (Ga m b h e)))->D.nx [P,some (.ref p),s,u,w,A,B] k):PM K 3 (DI (Bn 2) (DI (Bn 3) (DI (Bn 4) MD))) v [P,some (.ref p),s,u,w,A,B] f λC k=>Wi K D C k:=by
 obtain⟨a,E,ve,rfl,hq,W,F⟩:=mf r U;refine⟨a,_,rfl,hq,rfl,_,_,rfl,_,_,rfl,_,_,rfl,rfl, ?_⟩;have Y:Ii T M H:=va;refine⟨E,rfl,_,rfl,_,_,rfl,rfl,AAj rfl,λq R=> ?_⟩;have g:∀b o,f b=some o->upd f q (.tup [E, .int (1-h)]) b=some o:=λb o e=>by rw[Af (Aq e R)];exact e
 have G:upd f q (.tup [E, .int (1-h)]) p=some (.dN K (CD m)):=g _ _ hp;have qp:q≠p:=λz=>by subst z;rw[R] at hp;cases hp
 obtain⟨c,rfl,tn⟩:=Mm W;have I:aZ K (upd f q (.tup [.ref c, .int (1-h)])) c b.1 b.2:=tn.elim (λz=> .inl (g _ _ z)) .inr;have S:GK K (upd f q (.tup [.ref c, .int (1-h)])) q (b,1-h):=⟨c,Ab,I⟩;refine⟨_,rfl,p,_,rfl,G,_,rfl,q,_,(b,1-h),rfl,G,S,_,_,bS m (b,1-h),rfl,_,rfl,_,rfl,p,q,_,(b,1-h),rfl,rfl,G,S,by rw[CD,AAK];omega, ?_⟩;rw[dJ];have Z:CD (Pf m (b,1-h) ((BU m (b,1-h)).getD 0+1))=CD (bump m (b,1-h) 1):=rfl;rw[Z];have hb:∀o,f p=some o->True:=λ_ _=>trivial;have ext2:∀(X:HO) b o,H b=some o->upd (upd f q (.tup [.ref c, .int (1-h)])) p X b=some o:=λX b o e=>by rw[Af (Aq e Q)];exact g _ _ (ex _ _ e)
 have bl:(bump m (b,1-h) 1).length<=m.length+1:=J2 _ _ _;rcases F with⟨rfl,rfl⟩|⟨t,d,rfl,F⟩
 .refine ⟨_,rfl,rfl,false,rfl, ?_⟩;exact nx _ _ _ _ _ _ (ext2 _) Ab
 .obtain ⟨l,rfl,J⟩:=Mm F;refine⟨_,rfl,rfl,true,rfl, ?_⟩;refine⟨_,rfl,AAj rfl,λi L=> ?_⟩;have q2p:p≠i:=λz=>by subst z;rw[Ab] at L;cases L
  have j:∀(a:ke) o,upd (upd f q (.tup [.ref c, .int (1-h)])) p (.dN K (CD (bump m (b,1-h) 1))) a=some o->upd (upd (upd f q (.tup [.ref c, .int (1-h)])) p (.dN K (CD (bump m (b,1-h) 1)))) i (.tup [.ref l, .int 0]) a=some o:=λa o e=>by rw[Af (Aq e L)];exact e
  have N:=j p _ Ab;have O:aZ K (upd (upd (upd f q (.tup [.ref c, .int (1-h)])) p (.dN K (CD (bump m (b,1-h) 1)))) i (.tup [.ref l, .int 0])) l t d:=J.elim (λz=> .inl (j _ _ (by
   rw[Af (λy=>by subst y;rw[hp] at z;cases z)];exact g _ _ z))) .inr
  have n:GK K (upd (upd (upd f q (.tup [.ref c, .int (1-h)])) p (.dN K (CD (bump m (b,1-h) 1)))) i (.tup [.ref l, .int 0])) i ((t,d),0):=⟨l,Ab,O⟩;refine⟨_,rfl,p,_,rfl,N,_,rfl,i,_,((t,d),0),rfl,N,n,_,_,bS _ ((t,d),0),rfl,_,rfl,_,rfl,p,i,_,((t,d),0),rfl,rfl,N,n,by rw[CD,AAK];omega, ?_⟩;rw[dJ];refine nx _ _ _ _ _ _ (λa o e=> ?_) Ab;rw[Af (Aq e Q)];exact j _ _ (ext2 _ _ _ e)
def Ll {m:km (FK×Int)}{b:Int×Int}{h:Int}{e:kd (Int×Int)}:(Ga m b h e).length<=m.length+2:=by
 unfold Ga;cases e with
 | none=>have:=J2 m (b,1-h) ((BU m (b,1-h)).getD 0+1);unfold bump;simp only;omega
 | some e=> have h1:=J2 m (b,1-h) ((BU m (b,1-h)).getD 0+1);have h2:=J2 (bump m (b,1-h) 1) (e,0) ((BU (bump m (b,1-h) 1) (e,0)).getD 0 + -1);unfold bump at *;simp only;omega
theorem X9:∀{vs:km V} {ys:km PV},BB K T M H vs ys->∀{i:Nat} {x:V},vs[i]? =some x->∃y,ys[i]? =some y/\CF K T M H x y
 | _,_, .nil,i,x,ev=>by simp at ev
 | _,_, .cons h t,0,x,ev=>by simp at ev;subst ev;exact⟨_,rfl,h⟩
 | _,_, .cons h t,i+1,x,ev=>by simpa using X9 t (i:=i) (by simpa using ev)
def Og {D:L7}{J:It}{s:V}{p:ke}{ys:km PV}{a:km (FK×Int)}{H1:Hp}(va:Ii T M H)(C:H p=none)(go:∀H',(∀b o,H b=some o->H' b=some o)->∃vs,BB K T M H' vs ys/\(∀i,i<ys.length->J.go i H')/\(∀i,ys.length<=i->J.stop i H')/\∀i x d,J.yld i H' x d->d=H'/\vs[i]? =some x)(E:∀b o,H b=some o->H1 b=some o)(hp:H1 p=some (.dN K (CD [])))(hl:2*ys.length+2<sizeLine)(hs:Ft ys [] =some a)(t:∀f g j k l H',(∀b o,H b=some o->H' b=some o)->H' p=some (.dN K (CD a))->D.nx [some s,some (.ref p),f,g,j,k,l] H'):∃W:Nat->Nat->L2.St->Hp->Prop,(∃m,W 0 m [some s,some (.ref p),none,none,none,none,none] H1)/\∀i m n H,W i m n H-> (J.stop i H/\D.nx n H)\/(J.go i H/\∃N:L2.St->Hp->Prop,(∀σ' H',N σ' H'->∃z,z<m/\W (i+1) z σ' H')/\∀x H',J.yld i H x H'->PM K 3 (DI (Bn 2) (DI (Bn 3) (DI (Bn 4) MD))) x n H' λu d=>Wi K {D with nx:=N,ct:=N,bk:=D.nx} u d):=by
 let W:Nat->Nat->L2.St->Hp->Prop:=λi m n H'=>i+m=ys.length/\∃f g j k l r,n= [some s,some (.ref p),f,g,j,k,l] /\(∀b o,H b=some o->H' b=some o)/\H' p=some (.dN K (CD r))/\Ft (ys.drop i) r=some a/\r.length<=2*i;refine⟨W,⟨ys.length,AC3 _,_,_,_,_,_, [],rfl,E,hp,hs,ABS _⟩, ?_⟩;rintro i m n H' ⟨hi,f,g,j,k,l,r,rfl,ex,A,c,F⟩;obtain⟨vs,G,g1,I,L⟩:=go H' ex;cases m with
 | zero=> left;refine⟨I i (by omega),t _ _ _ _ _ _ ex ?_⟩;rw[AEK (by omega)] at c;cases c;exact A
 | succ m=>
   right;refine⟨g1 i (by omega),λσ' H'=>W (i+1) m σ' H',λσ' H' h=>⟨m,by omega,h⟩,λx d O=> ?_⟩;obtain⟨rfl,ev⟩:=L i x d O;have hy:ys[i]? =some ys[i] :=AAh (by omega);obtain⟨y,B,P⟩:=X9 G ev;rw[ADd (by omega:i<ys.length)] at c;have v:ys[i] =y:=by rw[hy] at B;exact AAV B
   rw[v] at c;unfold Ft at c;split at c
   .rename_i b h e er;refine Wk (H:=H) (m:=r) (b:=b) (h:=h) (e:=e) (x:=y) va ex C A (by omega) P er λf g j k l R w Q=>⟨by omega,f,g,j,k,l,_,rfl,w,Q,c, ?_⟩
    .have:=Ll (m:=r) (b:=b) (h:=h) (e:=e);omega
   .cases c
def Wj {D:L7}{l:V}{x:PV}{ys:km PV}{f:km (FK×Int)}(va:Ii T M H)(r:CF K T M H l x)(hx:x= .tup ys\/x= .lst ys)(hl:2*ys.length+2<sizeLine)(hs:Ft ys [] =some f)(m:∀p H',(∀b o,H b=some o->H' b=some o)->H p=none->H' p=some (.dN K (CD f))->D.rt (.ref p) H'):nQ K D [some l,none,none,none,none,none,none] H:=by
 intro p hp;have k:∀b o,H b=some o->upd H p (.dN K []) b=some o:=λb o e=>by rw[Af (Aq e hp)];exact e
 have last:∀n s t u v H',(∀b o,H b=some o->H' b=some o)->H' p=some (.dN K (CD f))->(eG (DX 1)) D [some l,some (.ref p),n,s,t,u,v] H':=λn s t u v H' ex h=>⟨_,rfl,m p H' ex hp h⟩;rcases hx with rfl|rfl
 .obtain ⟨a,vs,rfl,hq,w⟩:=Ea (r.mv (va.ext k));refine⟨_,rfl,a,rfl, .inr ⟨⟨vs,hq⟩, ?_⟩⟩;refine Og (D:={D with nx:=(eG (DX 1)) D}) va hp (λH' ex=> ?_) k Ab hl hs last;obtain⟨y,c,e,g,d⟩:=Ea (r.mv (va.ext ex));cases e;refine⟨c,d,λi hi=>⟨c,c[i]'(by rw[d.length];exact hi),g,AAh _⟩,λi hi=>⟨c,g,by rw[d.length];exact hi⟩,λi x z j=>⟨j.1,j.2 c g⟩⟩
 .obtain ⟨a,vs,rfl,hq,_,_,w⟩:=C7 (r.mv (va.ext k));refine⟨_,rfl,a,rfl, .inl ⟨⟨vs, .inl (.inl hq)⟩, ?_⟩⟩;refine Og (D:={D with nx:=(eG (DX 1)) D}) va hp (λH' ex=> ?_) k Ab hl hs last;obtain⟨y,c,e,g,_,_,d⟩:=C7 (r.mv (va.ext ex));cases e;refine⟨c,d,λi hi=>⟨c,c[i]'(by rw[d.length];exact hi), .inl (.inl g),AAh _⟩,λi hi=>⟨c, .inl (.inl g),by rw[d.length];exact hi⟩,λi x z j=>⟨j.1,j.2 c (.inl (.inl g))⟩⟩
end
def Hh:AF:=λxs Q=>match xs with | [x] =>Oo x λys=>2*ys.length+2<sizeLine/\∃m,Ft ys [] =some m/\Q (.dct m)|_=>False
def VA {xs:km PV}{Q:PV->Prop}(h:Hh xs Q):∃x ys m,xs= [x] /\(x= .tup ys\/x= .lst ys)/\2*ys.length+2<sizeLine/\Ft ys [] =some m/\Q (.dct m):=by
 unfold Hh at h;split at h
 .obtain ⟨ys,hx,hz,m,a,q⟩:=HK h;exact⟨_,ys,m,rfl,hx,hz,a,q⟩
 .exact h.elim
section
variable {K:AAB}{T M:ke->Prop}{H H':Hp}
def iS {k:Nat}{A:Tb}(a:Room k A):A.units+2<cLine:=by have:=a.un;omega
def YK (va:Ii T M H)(ex:∀b o,H b=some o->H' b=some o):DK T H T H' where
 keep:=λb u _ e=>ex b u e
 sub:=λ_ t=>t
 new:=λ_ t=> .inl t
 tp:=λa t=>let ⟨d,x,e,q⟩:=va.tp a t;⟨d,x,ex _ _ e,q⟩
def iQ {p:ke}{m:km (FK×Int)}(va:Ii T M H)(a:H p=none)(hp:H' p=some (.dN K (CD m))):CF K T M H' (.ref p) (.dct m):=by
 refine .dct hp (λz=> ?_) (λz=> ?_)
 .obtain ⟨o,e,_⟩:=(va.tp p z).mut;rw[a] at e;cases e
 .obtain ⟨o,e,_⟩:=va.mu p z;rw[a] at e;cases e
end
end PL
namespace L2
open PySem PySem.Spec PyProof.Rows
def VY (own:Nat)(a:St):St:=List.replicate own none++a.drop own
def Yt {own:Nat}{a:St}{j:Nat}{v:V}(h:(VY own a)[j]? =some (some v)):own<=j/\a[j]? =some (some v):=by
 unfold VY at h;by_cases hj:j<own
 .rw [ABn (by simpa using hj),ABx,AAD hj] at h;cases h
 .have Y7:own<=j:=by omega
  rw[ABf (by simpa using Y7),ABy,ADk] at h;rw[show own+(j-own)=j by omega] at h;exact⟨Y7,h⟩
end L2
namespace PL
open PySem PySem.Spec PyProof.Rows L2
def Ys (own:Nat)(τ:BL):BL:=List.replicate own none++τ.drop own
def SR.noOwn {K:AAB}{B:DJ}{T:ke->Prop}{H:Hp}{a:L2.St}{τ:BL}(s:SR K B T H a τ)(c:∀b,¬CW a τ b){i:Nat}{xs:km PV}:τ[i]? ≠some (some (.own xs)):=λe=>by obtain⟨p,vs,d,_⟩:=s.own i xs e;exact c p ⟨i,xs,e,d⟩
def Jm {own:Nat}{τ:BL}{j:Nat}{x:AV}(h:(Ys own τ)[j]? =some (some x)):own<=j/\τ[j]? =some (some x):=by
 unfold Ys at h;by_cases hj:j<own
 .rw [ABn (by simpa using hj),ABx,AAD hj] at h;cases h
 .have Y7:own<=j:=by omega
  rw[ABf (by simpa using Y7),ABy,ADk] at h;rw[show own+(j-own)=j by omega] at h;exact⟨Y7,h⟩
def SR.cut {K:AAB}{B:DJ}{T:ke->Prop}{H:Hp}{c:L2.St}{τ:BL}{own:Nat}(s:SR K B T H c τ)(d:∀b,¬CW c τ b):SR K B T H (VY own c) (Ys own τ)/\∀b,¬CW (VY own c) (Ys own τ) b:=by have g:∀b,¬CW (VY own c) (Ys own τ) b:=λb ⟨i,xs,h,f⟩=>d b ⟨i,xs,(Jm h).2,(Yt f).2⟩;refine⟨⟨by simp[VY,Ys,s.len],λi x e=> ?_,λi xs e=>absurd (Jm e).2 (s.noOwn d),λi j xs ys p e=>absurd (Jm e).2 (s.noOwn d),s.tp,s.bm,s.bt,s.st⟩,g⟩;obtain⟨Y7,f⟩:=Jm e;obtain⟨v,hv,r⟩:=s.val i x f;refine⟨v, ?_,r.mv (.anti s.va λa z=>z.elim .inl λz=>absurd z (g a))⟩;unfold VY;rw[ABf (by simpa using Y7),ABy,ADk,show own+(i-own)=i by omega];exact hv
structure oz (D:Addr) (T:Addr->Prop) (H:Hp) (T':Addr->Prop) (H':Hp):Prop where
 keep:∀b o,¬T b->b≠D->H b=some o->H' b=some o
 sub:∀b,T b->T' b
 new:∀b,T' b->T b\/H b=none
 tp:∀b,H b≠none->H' b≠none
def oz.upd {D:ke}{T:ke->Prop}{H:Hp}{o:HO}:oz D T H T (upd H D o):=⟨λb a _ n e=>by rw[Af n];exact e,λ_ e=>e,λ_ e=> .inl e,λb e=>by
 by_cases h:b=D
 .subst h;rw[Ab];exact λz=>nomatch z
 .rw [Af h];exact e⟩
section
variable {X:Cx}
def gk:jG:=λxs ys Q=>match ys with | [.lst zs] =>xs.length+zs.length<=sizeLine/\Q (xs++zs)|_=>False
def Zo:jE X "list.extend" Rs/\aW X.K Rs gk:=by
 refine⟨ZJ,λT M H l d vs xs ys Q i hl b e h k=> ?_⟩;unfold gk at h;split at h <;> first | exact h.elim|skip
 cases e with
 | cons f t=> cases t;obtain⟨a,g,rfl,hq,j,nm,c⟩:=C7 f;exact⟨l,a,d,g,rfl,rfl,hl,hq,by rw[b.length,c.length];exact h.1,k _ _ (b.append c) h.2⟩
end
end PL
namespace PL
open PySem L2 PyProof.Rows
section
variable {ai ai2:AI}{g g2:AG}{tt t2:AT}{te:AE}{τ τ':BL}{QL:km PV->Prop}{own own2:Nat}{ix:km Nat}
instance{xs a:km PV}:Wp (gk xs [.lst a] QL) (xs.length+a.length<=sizeLine/\QL (xs++a)):=⟨id⟩
end
end PL
namespace L2
open PySem PySem.Spec PyProof.Rows
def zp {P:fm}{w:fe}{h:Wf}{d:ke}{o:Obj}{es:Array DictEntry}{ep:Nat}{vs:km (Cp×kj)}(g:h.get? d=some o)(e:o.data= .dict es ep)(x:h.DictOf (BJ P w) d vs):h.DictAt (BJ P w) d vs ep:=by obtain⟨i,b,f,g',c,a,r⟩:=x;rw[g] at g';cases g';rw[e] at a;cases a;exact⟨o,es,g,c,e,r⟩
def Uw (H:Hp)(d:ke)(n ep:Nat)(kvs:km (Cp×V)):Prop:=∃o es,H d=some (.frz o (.dK kvs))/\o.data= .dict es ep/\kvs.length=n
def Itm (d:ke)(n ep:Nat):It:=
 ⟨λi H=>∃kvs k x,Uw H d n ep kvs/\kvs[i]? =some (k,x),
  λi H v a=>∃T k x,v= .ref T/\H T=none/\a=upd H T (.tup [kV k,x])/\∀kvs,Uw H d n ep kvs->kvs[i]? =some (k,x),
  λi H=>∃kvs,Uw H d n ep kvs/\kvs.length<=i⟩
def Uw.one {H:Hp}{d:ke}{n ep:Nat}{a b:km (Cp×V)}(x:Uw H d n ep a)(y:Uw H d n ep b):a=b:=by obtain⟨o,es,e,_⟩:=x;obtain⟨g,f,c,_⟩:=y;rw[e] at c;cases c;rfl
def Uw.at {X:Cx}{b:km (ke×Obj)}{c:St}{H:Hp}{s:ki}{d:ke}{n ep:Nat}{kvs:km (Cp×V)}(I:Inv X b c H s)(x:Uw H d n ep kvs):∃vs,KV kvs vs/\s.heap.DictAt (BJ X.prog X.w) d vs ep:=by obtain⟨o,es,e,f,_⟩:=x;obtain⟨g,z,hd,vs,a,h⟩:=(show B0 X.prog X.w H s.heap d (.frz o (.dK kvs)) from I.hok d _ e);exact⟨vs,a,zp g f h⟩
def lN {P:fm}{w:fe}{k:Cp}{u:kj}(h:(BJ P w).is k u=true):RelV (kV k) u:=by
 rcases Bh h with⟨i,t,rfl,rfl⟩|⟨x,t,rfl,rfl⟩
 .exact ⟨_,rfl⟩
 .exact ⟨_,rfl⟩
def lT {kvs:km (Cp×V)}{vs:km (Cp×kj)}(r:KV kvs vs):∀{i:Nat} {k:Cp} {x:V},kvs[i]? =some (k,x)->∃u,vs[i]? =some (k,u)/\RelV x u:=by
 unfold KV at r;induction r with
 | nil=>intro i k x h;simp at h
 | @cons p q c qs h t ih=>
   intro i k x e;cases i with
   | zero=> simp at e;subst e;obtain⟨d,a⟩:=q;obtain⟨h1,h2⟩:=h;exact⟨a,by simp at h1;simp[h1],h2⟩
   | succ i=> obtain⟨u,hu,b⟩:=ih (i:=i) (k:=k) (x:=x) (by simpa using e);exact⟨u,by simpa using hu,b⟩
def PK:entryFor table "dict_itemiterator.__iter__" =some Builtin.«dict_keyiterator.__iter__»:=
 entryFor_alias (id':="dict_keyiterator.__iter__") (by kernel_rfl) (by first | rfl|decide +kernel|(unfold String.splitOn;simp +decide [String.splitOnAux])) (by decide +kernel) (by kernel_rfl)
def PY {prog:fm}{w:fe}{A:Tb}{E:kj->ki->Prop}{s:ki}{it d:ke}{k n ep:Nat}{ok b:kj}{Q:kj->ki->Prop}(he:IsItemIter s.heap it d k n ep ok b)(h:Q (.ref it) s):wpAny (model prog w) A (pyIter (.ref it)) Q E s:=by have a:s.TypeIs (.ref it) "dict_itemiterator" :=⟨_,he,rfl⟩;refine wpAny_pyIter_slot a AEw (ABO AEw a PK ?_ (F.args_dict_itemiterator_iter_1 _));show wpAny _ _ (ret (.ref it)) _ _ s;exact AAE ⟨_,rfl,"dict_itemiterator",_,a,F.slot_dict_itemiterator_next.lookup,h⟩
def Wt {P:fm}{w:fe}{K:AAB}{es:km kc}{F:Nat}{pos:Pos}{it d:ke}{n ep:Nat}:MB P w K (.Tuple es F pos) (Itm d n ep) [it] it (λk h=>∃ok c,IsItemIter h it d k n ep ok c) where
 mem:=by simp
 obj:=λk h st p hp=>by
  obtain⟨ok,c,he⟩:=st;have b:p=it:=by simpa using hp
  subst b;exact⟨_,he,λv z=>nomatch z⟩
 keep:=λk h h' st j=>by obtain⟨ok,c,he⟩:=st;exact⟨ok,c,j it (by simp) _ he⟩
 item:=by
  intro X l hw m hc k A s B H E I i st r;subst l hw m;obtain⟨ok,c,he⟩:=st;obtain⟨kvs,t,x,hq,hx⟩:=r;obtain⟨vs,a,y⟩:=hq.at I;have hl:vs.length=n:=by obtain⟨_,_,_,_,e⟩:=hq;rw[<-e];exact a.length.symm
  subst hl;obtain⟨u,hu,G⟩:=lT a hx;have f:it<s.heap.objs.size:=AAG he;refine wpAny_pyNext_items_item he y hu λkey h1 J L M T N=> ?_;refine⟨_,rfl,wpAny_letOwnedTupleGo_items (s:={s with heap:=h1}) L λh2 O Q=> ?_⟩;have g:∀p o,p≠it->h1.get? p=some o->h2.get? p=some o:=λp o q z=>Q.extBut _ _ q z;have C:∀p∈ [it],p<s.heap.objs.size:=λp hp=>by
   have b:p=it:=by simpa using hp
   rw[b];exact f
  have j:∀p o,p ∉ [it] ->s.heap.get? p=some o->h2.get? p=some o:=λp o hp z=>by
   have b:p≠it:=by simpa using hp
   exact g p o b (N p o b z)
  have R:Inv X A B (upd H s.heap.objs.size (.tup [kV t,x])) {s with heap:=h2,toks:=s.toks}:=I.turnedN i C j (AAJ _)
   ⟨(by show 2<=sizeLine;decide), [key,u], .cons (lN J) (.cons G .nil),⟨_,g _ _ (ABR f) M,rfl,_,rfl⟩⟩
  refine⟨.ref s.heap.objs.size,upd H s.heap.objs.size (.tup [kV t,x]),R,rfl,⟨_,t,x,rfl,I.fresh,rfl,λD h'=> ?_⟩,⟨key,u,O⟩,λp hp=> ?_⟩
  .rw [h'.one hq];exact hx
  .rw [Af (AAM (C p hp))];exact(i p hp).1
 done:=by
  intro X l hw m hc k A s B H E I i st r;subst l hw m;obtain⟨ok,c,he⟩:=st;obtain⟨kvs,hq,hx⟩:=r;obtain⟨vs,a,y⟩:=hq.at I;have hl:vs.length=n:=by obtain⟨_,_,_,_,e⟩:=hq;rw[<-e];exact a.length.symm
  have U:=a.length;subst hl;refine wpAny_pyNext_items_end (I.ok.hd hc) he y (by rw[AD3];omega) λh' S=>⟨rfl, ?_⟩;exact I.turnedL (t':=s.toks) i λp o hp z=>by
   have b:p≠it:=by simpa using hp
   exact S p o b z
 self:=λ_ _ _ _ _ st h=>by obtain⟨ok,c,he⟩:=st;exact PY he h
section
variable {X:Cx}
def US {e:kc}{z:TE}{apos f j:Pos}{es:km kc}{C:Nat}(he:PE X e z)(hb:attributeBase e "items" X.env (eval e X.env)=eval e X.env)(D:((backTo f (starEach [] X.env)).all (λx=> !x.1)&&(backToKw f (keywordEach [] X.env)).all (λx=>x.1.isSome)&&decide (([] :km kc).length+([] :km Keyword).length+(if ([] :km Keyword).isEmpty then 0 else 1)<30))=true)(hl:(apos.endLine==f.line)=true)(E:backTo f (starEach [] X.env)= []):PI X (.Tuple es C j) (.Call (.Attribute e "items" apos) [] [] f) (λm H R=>z m H λv H1=>∃d n ep kvs,v= .ref d/\Uw H1 d n ep kvs/\R (Itm d n ep) H1):=by
 intro G s m H R I h;refine AEV hb D hl AEW AEx PySem.F.type_dict_items (Bc (he G s m H _ I h) λu i ⟨x,H1,k,J,d,n,ep,kvs,ex,t,K⟩=> ?_);subst ex;obtain rfl:u=Value.ref d:=J;obtain⟨vs,y,A⟩:=t.at k;have L:vs.length=n:=by obtain⟨_,_,_,_,e⟩:=t;rw[<-e];exact y.length.symm
 obtain⟨o,M,N,U,_⟩:=id t;obtain⟨O,P,Q⟩:=cF k (.inl ⟨kvs, .inr ⟨o,N⟩⟩);have B:i.heap.DictOf (BJ X.prog X.w) d vs:=let ⟨o,es,a,b,c,r⟩:=A;⟨o,es,ep,a,b,c,r⟩;refine⟨O,P, ?_⟩;rw[E];refine ADM rfl (PySem.evalArgs_none ?_);refine ADm AEx B.typeIs PySem.F.entry_dict_items (PySem.F.args_dict_items_1 _) (meets_dict_items (BJ X.prog X.w) d Q) ⟨⟨vs,B⟩, ?_⟩;have S:(i.heap.push {cls:= .type "dict_items",data:= .fields #[.ref d] }).DictAt (BJ X.prog X.w) d vs ep:=by obtain⟨o,es,g,r⟩:=A;exact⟨o,es,AAH _ g,r⟩
 refine wpAny_pyIter_items (s:={i with heap:=i.heap.push {cls:= .type "dict_items",data:= .fields #[.ref d] }}) (knd:=BJ X.prog X.w) (d:=d) ?_ S ?_
 .exact ⟨_,AAQ _ rfl,rfl,rfl⟩
 subst L;have l:(i.heap.push {cls:= .type "dict_items",data:= .fields #[.ref d] }).objs.size=i.heap.objs.size+1:=ABe ..;refine⟨_, [i.heap.objs.size+1],_,_,H1,congrArg Value.ref l,k.kept (t':=i.toks) λb W q=>AAH _ (AAH _ q),Wt,⟨.none, .none, ?_⟩,λp hp=> ?_,K⟩
 .have:=AAQ (i.heap.push {cls:= .type "dict_items",data:= .fields #[.ref d] }) (o:={cls:= .type "dict_itemiterator",data:= .fields #[Value.none,Value.bool false,Value.ref d,Value.int 0 0,Value.int (vs.length:Int) 0,Value.int (ep:Int) 0,Value.none,Value.none] }) rfl;rw[l] at this;exact this
 .have T:p=i.heap.objs.size+1:=by simpa using hp
  subst T;exact k.fpOk (Nat.le_add_right _ _) (k.hok.fresh (Nat.le_add_right _ _))
end
end L2
namespace PL
open PySem PySem.Spec PyProof.Rows L2
section
variable {X:Cx}
def nR (a:km (TE×TE)):TE:=λd H Q=>∀p,H p=none->Wm a d (upd H p (.dK [])) λe b=>b p=some (.dK [])/\∃kvs:km (Cp×V),e=kvs.map (λc=>(kV c.1,c.2))/\kvs.length<=15/\∀o es ep,o.data= .dict es ep->Q (.ref p) (upd b p (.frz o (.dK (Nv [] kvs))))
def cw {pos:Pos}{keys:km (kd kc)}{values:km kc}{b:km (TE×TE)}(h:rZ X pos keys values b)(k:keys.all (·.isSome)=true)(hl:keys.length=values.length)(l:keys≠ [])(f:keys.length<=15):PE X (.Dict keys values pos) (nR b):=by
 intro m s n H Q I q;have p:=I.hok.fresh (AAJ s.heap.objs.size);have r:=I.laid (a:=s.heap.objs.size) (o:= .dK []) (h':=s.heap.push {cls:= .type "dict",data:= .dict #[] }) (t':=s.toks) (λ_ _ q=>AAH _ q) (AAJ _) (TX s.heap I.big);refine wpAny_Dict_walk (knd:=BJ X.prog X.w) k hl l f (Bc (h m _ n _ _ r (q _ p)) λC D ⟨E,F,i,g,e,kvs,ep,G,t⟩=> ?_);subst ep;obtain⟨u,c,v⟩:=NX (P:=X.prog) (w:=X.w) g;obtain⟨z,hd,x,y,A⟩:=XR i.hok e;cases y;have hz:(Nv [] kvs).length<=sizeLine:=by have h1:=IW kvs [];rw[ACz] at h1;rw[sizeLine_eq];omega
 refine⟨u,c,A,λh' d hs=> ?_⟩;obtain⟨o,es,ep,j,B⟩:=id d;refine⟨.ref s.heap.objs.size,_, ?_,rfl,t o es ep B.2.1⟩;exact Hk i (by rw[e];exact True.intro) hs ⟨o,j⟩ ⟨j,RC hz hd (v.merge .nil) d⟩
def iz {T c:ke->Prop}{H f:Hp}{d:ke}{o:HO}(s:DK T H c f)(hd:H d=none)(g:¬c d):DK T H c (upd f d o) where
 keep b q t e:=by
  have n:b≠d:=λz=>by subst z;rw[hd] at e;cases e
  rw[Af n];exact s.keep b q t e
 sub:=s.sub
 new:=s.new
 tp a t:=by
  have n:a≠d:=λz=>by subst z;exact g t
  obtain⟨x,y,e,r⟩:=s.tp a t;exact⟨x,y,by rw[Af n];exact e,r⟩
def aa (a b:AE):AE:=λτ Q=>a τ λx=>b τ λy=>match x,y with | .int i, .int j=>Q (.dk [(i,j)])|_,_=>False
def nF {a b:kc}{u w:AE}{p:Pos}(ha:SE X a u)(hb:SE X b w):SE X (.Dict [some a] [b] p) (aa u w):=by
 obtain⟨t,E,s⟩:=ha;obtain⟨t',h,F⟩:=hb;refine⟨_,cw (dD E h iH) rfl rfl (List.cons_ne_nil _ _) (AAj rfl),λB T y τ H Q N k q G=> ?_⟩;intro d hd;have c:DK T H T (upd H d (.dK [])):=DK.lay k.tp hd;have f:=k.stp c;have A:¬T d:=λz=>by obtain⟨o,e,_⟩:=(k.tp d z).mut;rw[hd] at e;cases e
 refine s B T y τ _ _ _ f q λv x T1 H1 l I J=>F B T1 y τ _ _ _ (f.stp l) J λO P C K D L m=> ?_;split at m <;> first | exact m.elim|skip
 rename_i i j;cases I;cases L;have n:K d=some (.dK []):=(l.trans D).keep _ _ A Ab;have g:=l.trans D;have r:¬C d:=λz=>by
  rcases g.new d z with z|z
  .exact A z
  .rw [Ab] at z;cases z
 refine⟨n, [(.inl i, .int j)],rfl,AAj rfl,λo es ep M=> ?_⟩;exact G _ _ C _ (iz (c.trans g) hd r) (.dk (kvs:= [(i,j)]) Ab M) m
end
end PL
namespace L2
open PySem PySem.Spec PyProof.Rows
def RB (J:It)(D:ke)(σ0:St)(g:TG)(f:TT)(h j:TE)(Q:Hp->Prop)(W:Nat->Nat->Hp->Prop):Prop:=
 ∀i m H,W i m H->(J.stop i H/\Q H)\/(J.go i H/\∀x c,J.yld i H x c->g x σ0 c λa l=>f a l λok d=>
  if ok=true then h a d λy n=>j a n λz e=>∃k kvs,y=kV k/\e D=some (.dK kvs)/\kvs.length<sizeLine/\∃b,b<m/\W (i+1) b (upd e D (.dK (EE kvs k z))) else ∃b,b<m/\W (i+1) b d)
def eB (b:TI)(own:Nat)(ix:km Nat)(g:TG)(c:TT)(d e:TE):TE:=λa H Q=>b a H λJ H1=>∀D,H1 D=none->
 ∃W:Nat->Nat->Hp->Prop,(∃m,W 0 m (upd H1 D (.dK [])))/\RB J D (Cj own ix a) g c d e (Q (.ref D)) W
section
variable {X:Cx}{tg kx vx iter:kc}{ifs:km kc}{scope:Scope}{pos:Pos}{wi:TI}{own:Nat}{ix:km Nat}{N:km Str}{g:TG}{tt:TT}{tk tv:TE}
def VZ {F:km (ke×Obj)}{S:St}{H:Hp}{s:ki}{fp:km ke}{cl:km (Str×ke)}{it:ke}{tn:Nat->Wf->Prop}{J:It}{D:ke}{R:Result->ki->Prop}{Qh:Hp->Prop}{W:Nat->Nat->Hp->Prop}(hc:X.calm=true)(O:GG X tg kx ifs scope own ix N g tt tk)(OV:∀cl C s H ex pn,PE (blk X (relabel scope X.env) N cl C s H ex pn) vx tv)(T:MB X.prog X.w X.K tg J fp it tn)(I:Inv X F S H s)(hf:∀b∈fp,GJ X F H b)(Dp:∀b∈fp,b<s.heap.objs.size)(hW:RB J D (Cj own ix S) g tt tk tv Qh W)(hR:∀σ' a U,Inv (blk X (relabel scope X.env) N cl s.heap.objs.size s H fp (X.pn++F)) [] σ' a U->Qh a->R (.ok .next) U)(n:Nat)(s0:ki)(h0:∃i a,Inv (blk X (relabel scope X.env) N cl s.heap.objs.size s H fp (X.pn++F)) [] (Cj own ix S) a s0/\tn i s0.heap/\(∀b∈fp,a b=none)/\W i n a):codeAny (model X.prog X.w) X.A (.compLoop (.DictComp kx vx [⟨tg,iter,ifs,0⟩] scope pos) 0 (.ref it) (.ref D) (Ik X.env (relabel scope X.env) cl s.heap.objs.size)) R s0:=by
 refine codeAny_loop rfl (λn U=>∃i a,Inv (blk X (relabel scope X.env) N cl s.heap.objs.size s H fp (X.pn++F)) [] (Cj own ix S) a U/\tn i U.heap/\(∀b∈fp,a b=none)/\W i n a) (λn s1 h1=> ?_) n h0;obtain⟨i,H1,B1,Z,fr1,w1⟩:=h1;generalize f:blk X (relabel scope X.env) N cl s.heap.objs.size s H fp (X.pn++F)=Y at *;have eA:Y.A=X.A:=by rw[<-f];rfl
 have eP:Y.prog=X.prog:=by rw[<-f];rfl
 have eW:Y.w=X.w:=by rw[<-f];rfl
 have eK:Y.K=X.K:=by rw[<-f];rfl
 have eE:Ik X.env (relabel scope X.env) cl s.heap.objs.size=Y.env:=by rw[<-f];rfl
 have eX:Y.xe=λ_ _=>False:=by rw[<-f];rfl
 have eC:Y.calm=true:=by rw[<-f];exact hc
 have hg:PG Y tg g:=by rw[<-f];exact O.tgt _ _ _ _ _ _
 have ht:jH Y ifs tt:=by rw[<-f];exact O.tst _ _ _ _ _ _
 have hk:PE Y kx tk:=by rw[<-f];exact O.val _ _ _ _ _ _
 have hv:PE Y vx tv:=by rw[<-f];exact OV _ _ _ _ _ _
 have l:∀{a:Hp},(∀b∈fp,a b=none)->∀b∈fp,GJ Y [] a b:=λ{a} hn b hb=>by
  obtain⟨_,a1,a2,a3,a4,a5⟩:=hf b hb;refine⟨hn b hb, ?_, ?_, ?_, ?_, ?_⟩
  .rw [<-f];exact AAM (Dp b hb)
  .rw [<-f];exact I.notStk a1 a2
  .rw [<-f];exact .inl hb
  .intro x c e;exact(B1.ok.exf b (by rw[<-f];exact hb)).2 x c e
  .intro p hp;have:p∈X.pn++F:=by rw[<-f] at hp;simpa[blk] using hp
   exact a5 p this
 rw[eE,<-eA,<-eP,<-eW];show wpAny _ _ ((compTurn (.DictComp kx vx [⟨tg,iter,ifs,0⟩] scope pos) 0 (.ref it) (.ref D) Y.env).onRaise (λx=>do noteFrame x Y.env;theTreesLotGoes x)) _ _ s1;refine wpAny_noted ?_;rw[compTurn_dict];have ff:∀{α:Type} {t:Sem α} {Q:α->ki->Prop} {E:kj->ki->Prop} {s:ki},wpAny (model Y.prog Y.w) Y.A t Q Y.xe s->wpAny (model Y.prog Y.w) Y.A t Q E s:=λh=>ABv h (λ_ _ q=>q) λ_ _ z=>by rw[eX] at z;exact z.elim
 refine AAA (ABw (AAA ?_));rcases hW i n H1 w1 with⟨stop,qn⟩|⟨go,step⟩
 .have zd:=λE=>T.done Y eP eW eK eC i [] s1 _ H1 E B1 (l fr1) Z stop;rw[<-eP,<-eW] at zd;refine Bc (zd _) λr s4 ⟨hr,I4⟩=> ?_;subst hr;exact AAE (hR _ _ _ I4 qn)
 .have zi:=λE=>T.item Y eP eW eK eC i [] s1 _ H1 E B1 (l fr1) Z go;rw[<-eP,<-eW] at zi;refine Bc (zi _) λr s4 ⟨u,hr,h4⟩=> ?_;subst hr;refine AAA (Bc h4 λ_ s5 ⟨x,H5,I5,r5,y5,G,fr5⟩=> ?_);have I5':=I5.pinned (l fr5) (T.obj _ _ G);refine AAA (Bc (ff (hg _ s5 _ H5 x u _ I5' r5 (O.keep _ _ _ _ (step x H5 y5)))) λ_ s6 ⟨B,H6,I6,q6,l6,k6⟩=> ?_);refine AAA (Bc (ff (ht _ s6 B H6 _ I6 q6)) λok s7 ⟨H7,I7,q7⟩=> ?_);have back:∀{L:Hp} {M:ki} {P:Nat},Inv Y ([] ++ LD fp s5.heap) B L M->P<n->W (i+1) P L->
   ∃m,m<n/\∃i a,Inv Y [] (Cj own ix S) a M/\tn i M.heap/\(∀b∈fp,a b=none)/\W i m a:=λ{L M P} I8 hm w8=>by
   refine⟨P,hm,i+1,L,I8.unpinned.weak l6.symm (λj v hj=> ?_),T.keep _ _ _ G λb hb o e=>(I8.pin (b,o) (AAm _ (AAm _ (EB hb e)))).1,λb hb=> ?_,w8⟩
   .rw [k6 j (Il hj).1];exact hj
   .obtain ⟨o,e,d⟩:=T.obj _ _ G b hb;exact(I8.pin (b,o) (AAm _ (AAm _ (EB hb e)))).2.1
  cases ok with
  | false=> obtain⟨P,hm,w8⟩:=q7;exact AAE ⟨rfl,back I7 hm w8⟩
  | true=>
    refine AAA (AAA (Bc (ff (hk _ s7 B H7 _ I7 q7)) λkv M ⟨y,L,I8,r8,q8⟩=> ?_));refine AAA (AAd (Bc (ff (hv _ M B L _ I8 q8)) λvv s9 ⟨z,H9,I9,r9,k,kvs,ey,hD,hz,P,hm,w9⟩=> ?_));subst ey;refine AAA (ABw (AAd ?_));obtain⟨z1,hd1,vs,rel,dd⟩:=XR I9.hok hD;have hz2:vs.length<=sizeLine:=by rw[<-rel.length];exact z1
    have hl:(EE kvs k z).length<=sizeLine:=by have:=EQ kvs k z;omega
    refine wpAny_dictSet_pairs (hsz:=hz2) (Tv r8) dd λh' dd' hs=> ?_;have he:∃q,h'.get? D=some q:=let ⟨q,_,_,hq,_⟩:=dd';⟨q,hq⟩;have I10:=Hk (t':=s9.toks+1) I9 (by rw[hD];exact True.intro) hs he (RC hl hd1 (rel.put k r9) dd');exact AAE ⟨rfl,back I10 hm w9⟩
def Yv {h:km (ke×Obj)}{v:St}{H:Hp}{s:ki}{use:kd (kj->Sem Unit)}{Q:kj->ki->Prop}{it:ke}{fp:km ke}{cl:km (Str×ke)}{tn:Nat->Wf->Prop}{J:It}{Qd:ke->Hp->Prop}(hc:X.calm=true)(O:GG X tg kx ifs scope own ix N g tt tk)(R:∀cl C s H ex pn,PE (blk X (relabel scope X.env) N cl C s H ex pn) vx tv)(T:MB X.prog X.w X.K tg J fp it tn)(I:Inv X h v H s)(S:∀b∈fp,GJ X h H b)(st:tn 0 s.heap)(h1:∀y c,cl.lookup y=some c->X.env.cells.lookup y=some c)(h2:∀y,(y,NameKind.free)∈scope.names->∃c,cl.lookup y=some c)(hq:∀D,H D=none->∃W:Nat->Nat->Hp->Prop,(∃m,W 0 m (upd H D (.dK [])))/\RB J D (Cj own ix v) g tt tk tv (Qd D) W)(U:∀D C k l,(∃m,l.heap.Ns C m)->Inv X h v k l->(∀i E,Inv X h i k E->∀h',Heap.SameBut C E.heap h'->Inv X h i k {E with heap:=h'})->C≠X.env.locals->(∀x c,X.env.cells.lookup x=some c->C≠c)->Qd D k-> compPost (model X.prog X.w) X.A X.xe use Q (.ref D) C (.ok .next) l):wpAny (model X.prog X.w) X.A (newDict #[]) (λn p=>wpAny (model X.prog X.w) X.A (newFunctionEnv scope X.env.globals cl [] X.env.qual none .none (some X.env)) (λf r=> codeAny (model X.prog X.w) X.A (.compStart (.DictComp kx vx [⟨tg,iter,ifs,0⟩] scope pos) 0 (.ref it) n {f with scope:=relabel scope X.env}) (compPost (model X.prog X.w) X.A X.xe use Q n f.locals) r) X.xe p) X.xe s:=by
 refine ABQ ?_ (by simp[sizeOk]);have j:Inv X h v (upd H s.heap.objs.size (.dK [])) {s with heap:=s.heap.push {cls:= .type "dict",data:= .dict #[] }}:=I.laid (a:=s.heap.objs.size) (o:= .dK []) (t':=s.toks) (λ_ _ q=>AAH _ q) (AAJ _) (TX s.heap I.big);have Y:=I.fresh;obtain⟨W,⟨m0,Z⟩,hW⟩:=hq _ Y;have k9:∀b∈fp,b<s.heap.objs.size:=λb hb=>by obtain⟨o,e,_⟩:=T.obj _ _ st b hb;exact AAG e
 have F:∀b∈fp,GJ X h (upd H s.heap.objs.size (.dK [])) b:=λb hb=>by obtain⟨a0,ar⟩:=S b hb;exact⟨by rw[Af (AAM (k9 b hb))];exact a0,ar⟩
 generalize uV:({s with heap:=s.heap.push {cls:= .type "dict",data:= .dict #[] }}:ki)=s3 at j;have t:tn 0 s3.heap:=T.keep _ _ _ st λb hb o e=>by rw[<-uV];exact AAH _ e
 have G:∀b∈fp,b<s3.heap.objs.size:=λb hb=>by obtain⟨o,e,_⟩:=T.obj _ _ t b hb;exact AAG e
 refine wpAny_newFunctionEnv O.nocell (by intro y hy;simp at hy) (λd oJ uW=> ?_) O.kind;have P:∀b o,s3.heap.get? b=some o->d.get? b=some o:=λb o e=>uW.extBut b o (AAM (AAG e)) (AAH _ e);have jP:∀y,((relabel scope X.env).names.lookup y=some .cell\/(relabel scope X.env).names.lookup y=some .free)->∃c,cl.lookup y=some c:=λy hy=>by
  rcases hy with z|z
  .exact h2 y (FZ O.nocell (K5 z) (.inl rfl))
  .exact h2 y (FZ O.nocell (K5 z) (.inr rfl))
 have B:=ao (N:=N) (t':=s3.toks+([] :km (Str×kj)).length) j F G (sc:=relabel scope X.env) O.kind h1 jP O.ins oJ P;have u:tn 0 d:=T.keep _ _ _ t λb hb o e=>P b o e;have loop:∀L:ki,L={s3 with heap:=d,toks:=s3.toks+([] :km (Str×kj)).length}->
  codeAny (model X.prog X.w) X.A (.compLoop (.DictComp kx vx [⟨tg,iter,ifs,0⟩] scope pos) 0 (.ref it) (.ref s.heap.objs.size) (Ik X.env (relabel scope X.env) cl s3.heap.objs.size)) (compPost (model X.prog X.w) X.A X.xe use Q (.ref s.heap.objs.size) s3.heap.objs.size) L:=by rintro L rfl;refine VZ (cl:=cl) (Qh:=Qd s.heap.objs.size) hc O R T j F G hW (λσ' k l M q'=> ?_) m0 _ ⟨0,_,B,u,λb hb=>(F b hb).1,Z⟩;refine U _ _ k l (let ⟨m,hm,_⟩:=M.loc;⟨m,hm⟩) (XE (own:=own) (ix:=ix) j F G M) (λi E I2 h' hs=>TN j rfl I2 M.free hs) (ABR j.lt) (λx c e=>ABR (j.szLt e)) q'
 exact codeAny_compStart_dict (loop _ rfl) (T.self _ 0 _ _ _ u (loop _ rfl))
def dG {i:Nat}{x:Str}{pos' b:Pos}(hc:X.calm=true)(hN:X.N.Nodup)(n:X.N[i]? =some x)(hx:Loc X.env.scope x)(hi:PI X tg iter wi)(O:GG X tg kx ifs scope own ix N g tt tk)(o:∀cl C s H ex pn,PE (blk X (relabel scope X.env) N cl C s H ex pn) vx tv)(p:swapsWith (.DictComp kx vx [⟨tg,iter,ifs,0⟩] scope pos) (some (.Name x pos')) b.line X.env=pure true:=by rfl)(hs:∀x,foldedSetIterable iter X.env x=pure x:=by intro _;rfl)(r:X.fn x=true\/X.env.scope.names.lookup x=some .local:=by first | exact .inl rfl|exact .inr rfl|assumption):PS X (.Assign [.Name x pos'] (.DictComp kx vx [⟨tg,iter,ifs,0⟩] scope pos) b) (Pm (eB wi own ix g tt tk tv) (Bn i)):=by
 intro k s l H D I h;obtain⟨cl,t,h1,h2⟩:=Im (env:=X.env) (scope:=scope) λy hy e=>I.ok.has y.1 (.inl (O.frees y hy e));rw[exec_Assign_Name_used _ _ _ _ p];refine AAA (ABw (AAA ?_));show wpAny _ _ (do let _ <-comprehension (.DictComp kx vx [⟨tg,iter,ifs,0⟩] scope pos) scope X.env _ (newDict #[]) false (eval iter X.env) (some (assign (.Name x pos') X.env))) _ _ s;refine AAA (Bc (AEH (use:=some (assign (.Name x pos') X.env)) (Q:=λ_ c=>SP X k D .next c) rfl hs t O.kind O.names (Bc (hi k s l H _ I h) λv W hv=>Bc hv λu Y w=> ?_)) λ_ c hq=>AAE (AAE hq));obtain⟨it,fp,tn,J,Z,rfl,A,T,f,B,q⟩:=w;refine Yv (Qd:=λd j=>Bn i (.ref d) l j D.nx) hc O o T A B f h1 h2 q λd C j c E F gone G K L=> ?_;obtain⟨m,M⟩:=E;show wpAny _ _ (assign (.Name x pos') X.env (.ref d)) _ _ c;refine AD5 (LQ (v:= .ref d) F hN n hx rfl (λP R ⟨a,S,ha⟩=> ?_) r);have U:C≠a:=by
  rcases ha with z|z
  .rw [z];exact G
  .exact K x a z
 exact⟨m,M.sameBut S U,λh' hs=>⟨_,j,gone _ P R h' hs,L⟩⟩
end
section
variable {X:Cx}
def nU (i:Nat)(t:TS):TS:=λD b H=>∃a kvs,b[i]? =some (some (.ref a))/\H a=some (.dK kvs)/\∀o es ep,o.data= .dict es ep->t D b (upd H a (.frz o (.dK kvs)))
def iK {rest:km Stmt}{t:TS}{i:Nat}(h:TJ X rest t):TJ X rest (nU i t):=by intro c s d H D I q;obtain⟨a,kvs,_,e,q⟩:=q;obtain⟨z,hd,vs,b,f⟩:=XR I.hok e;obtain⟨o,es,ep,g,j⟩:=id f;have k:Inv X c d (upd H a (.frz o (.dK kvs))) {s with heap:=s.heap,toks:=s.toks}:=Hk (h':=s.heap) I (by rw[e];exact True.intro) ⟨rfl,λ_ _=>rfl⟩ ⟨o,g⟩ ⟨g,RC z hd b f⟩;exact h c s d _ D k (q o es ep j.2.1)
end
end L2
namespace PL
open PySem PySem.Spec PyProof.Rows L2
def OA (m:km (Int×Int))(k v:Int):km (Int×Int):=if (m.any λp=>decide (p.1=k))=true then m.map (λp=>if p.1=k then (p.1,v) else p) else m ++ [(k,v)]
def Nd (m:km (Int×Int))(k:Int):Int:=((m.find? λp=>decide (p.1=k)).map (·.2)).getD 0
def gY (m:km (Int×Int))(k:Int):((Iq m).any λa=>decide (a.1=(.inl k:Cp)))=m.any λp=>decide (p.1=k):=by
 induction m with
 | nil=>rfl
 | cons p r ih=> unfold Iq at ih ⊢;rw[AAP,ABr,ABr,ih];congr 1;simp
def Xg (m:km (Int×Int))(k v:Int):Iq (OA m k v)=EE (Iq m) (.inl k) (.int v):=by
 unfold OA EE;rw[gY];split
 .unfold Iq;rw[ABq,ABq];apply AB2;intro p _;simp only[Function.comp];by_cases h:p.1=k
  .simp [h]
  .simp [h]
 .unfold Iq;rw[AAY];rfl
def gZ (m:km (Int×Int))(k:Int):(Er (Iq m) (.inl k)).getD (.int 0)= .int (Nd m k):=by
 induction m with
 | nil=>rfl
 | cons p r ih=>
   unfold Iq at ih ⊢;rw[AAP];by_cases h:p.1=k
   .rw [He (by simp[h])];simp[Nd,h]
   .rw [Hd (by simp[h]),ih];simp[Nd,h]
def OB (m:km (Int×Int))(k v:Int):(OA m k v).length<=m.length+1:=by
 unfold OA;split
 .rw [AAK];omega
 .simp
def CQ (many:Int)(m:km (Int×Int)):km (Int×Int):=m.foldl (λa p=>OA a p.1 (many*p.2)) []
def RU {m:km (Int×Int)}{i:Nat}(h:i<m.length):(Iq m)[i]? =some (.inl m[i].1, .int m[i].2):=by unfold Iq;rw[AAs,AAh h];rfl
def Hv {c a:Type}{f:a->c->a}{b:a}{m:km c}{i:Nat}(h:i<m.length):(m.take (i+1)).foldl f b=f ((m.take i).foldl f b) m[i] :=by rw[List.take_succ_eq_append_getElem h,ACg];rfl
def gI {K:AAB}{H:Hp}{r:L2.St}{s:Nat}{many:Int}{d n ep:Nat}{m:km (Int×Int)}{Q:V->Hp->Prop}(y:Uw H d n ep (Iq m))(A:r[s]? =some (some (.int many)))(hl:m.length<sizeLine)(ok:∀p∈m,MulOk many p.2)(q:∀D c,H D=none->(∀b o,H b=some o->c b=some o)->c D=some (.dK (Iq (CQ many m)))->Q (.ref D) c):∀D,H D=none->∃W:Nat->Nat->Hp->Prop,(∃k,W 0 k (upd H D (.dK [])))/\RB (Itm d n ep) D (Cj 2 [s] r) (PM K 2 (DI (Bn 0) (DI (Bn 1) MD))) i7 (DX 0) (Zt (rI MulOk λi j=> .int (i*j)) (DX 2) (DX 1)) (Q (.ref D)) W:=by
 intro D u;have B:Cj 2 [s] r= [none,none,some (.int many)] :=by unfold Cj;simp[A]
 rw[B];let W:Nat->Nat->Hp->Prop:=λi k c=>i+k=m.length/\(∀b o,H b=some o->c b=some o)/\c D=some (.dK (Iq (CQ many (m.take i))))/\(CQ many (m.take i)).length<=i;refine⟨W,⟨m.length,AC3 _,λb o e=>by rw[Af (Aq e u)];exact e,Ab,AAJ _⟩, ?_⟩;rintro i k c ⟨hi,ex,l,C⟩;have f:Uw c d n ep (Iq m):=let ⟨o,es,a,b⟩:=y;⟨o,es,ex _ _ a,b⟩;cases k with
 | zero=> left;refine⟨⟨_,f,by unfold Iq;rw[AAK];omega⟩,q D c u ex ?_⟩;rw[ACC (by omega)] at l;exact l
 | succ k=>
   right;have g:i<m.length:=by omega
   refine⟨⟨_,_,_,f,RU g⟩,λx F E=> ?_⟩;obtain⟨t,G,I,rfl,v,rfl,hu⟩:=E;have hx:=hu _ f;rw[RU g] at hx;cases hx;have J:D≠t:=λz=>by subst z;rw[l] at v;cases v
   have h:∀b o,c b=some o->upd c t (.tup [kV (.inl m[i].1), .int m[i].2]) b=some o:=λb o e=>by rw[Af (Aq e v)];exact e
   refine⟨t,_,rfl, .inl (.inl (.inl Ab)),rfl,_,_,rfl,_,_,rfl,rfl, ?_⟩;dsimp only[i7];rw[AAD rfl];refine⟨_,rfl,_,rfl,_,rfl,many,m[i].2,rfl,rfl,ok _ (ACX g), ?_⟩;refine⟨.inl m[i].1,_,rfl,h _ _ l,by unfold Iq;rw[AAK];omega,k,by omega,by omega,λb o e=> ?_, ?_, ?_⟩
   .rw [Af (Aq e u)];exact h _ _ (ex _ _ e)
   .rw [Ab];unfold CQ;rw[Hv g,Xg]
   .unfold CQ at C ⊢;rw[Hv g];have:=OB ((m.take i).foldl (λw p=>OA w p.1 (many*p.2)) []) m[i].1 (many*m[i].2);omega
def EC (more:Int)(a m:km (Int×Int)):km (Int×Int):=m.foldl (λa p=>OA a p.1 (Nd a p.1+more*p.2)) a
def cU (d a b c:Nat):TS:=ji (DX d) (DX a) (Zt (Mi λi j=> .int (i+j)) (eF (DX d) (DX a) (tC (.int 0))) (Zt (rI MulOk λi j=> .int (i*j)) (DX c) (DX b)))
def gr {K:AAB}{H H1:Hp}{σ0:L2.St}{D:L7}{B c f s:Nat}{more:Int}{d n ep a:Nat}{m acc0:km (Int×Int)}(X:B≠c)(Y:B≠f)(Z:s≠c)(n4:s≠f)(n5:c≠f)(l1:c<σ0.length)(l2:f<σ0.length)(fd:Uw H d n ep (Iq m))(ha:H a=none)(J:∀b o,H b=some o->H1 b=some o)(h1:H1 a=some (.dK (Iq acc0)))(hw:σ0[B]? =some (some (.ref a)))(hm:σ0[s]? =some (some (.int more)))(ok:∀p∈m,MulOk more p.2)(hl:acc0.length+m.length<sizeLine)(L:∀σ' g,σ'.length=σ0.length->(∀j,j≠c->j≠f->σ'[j]? =σ0[j]?)->(∀b o,H b=some o->g b=some o)->g a=some (.dK (Iq (EC more acc0 m)))->D.nx σ' g):∃W:Nat->Nat->L2.St->Hp->Prop,(∃k,W 0 k σ0 H1)/\∀i k v g,W i k v g-> ((Itm d n ep).stop i g/\D.nx v g)\/((Itm d n ep).go i g/\∃N:L2.St->Hp->Prop,(∀σ' w,N σ' w->∃R,R<k/\W (i+1) R σ' w)/\∀x w,(Itm d n ep).yld i g x w->PM K 2 (DI (Bn c) (DI (Bn f) MD)) x v w λl S=>cU B c f s {D with nx:=N,ct:=N,bk:=D.nx} l S):=by
 let W:Nat->Nat->L2.St->Hp->Prop:=λi k v g=>i+k=m.length/\(v.length=σ0.length/\∀j,j≠c->j≠f->v[j]? =σ0[j]?)/\(∀b o,H b=some o->g b=some o)/\g a=some (.dK (Iq (EC more acc0 (m.take i))))/\(EC more acc0 (m.take i)).length<=acc0.length+i;refine⟨W,⟨m.length,AC3 _,⟨rfl,λ_ _ _=>rfl⟩,J,h1,AAJ _⟩, ?_⟩;rintro i k v g ⟨hi,⟨T,U⟩,ex,M,O⟩;have y:Uw g d n ep (Iq m):=let ⟨o,es,a,b⟩:=fd;⟨o,es,ex _ _ a,b⟩;cases k with
 | zero=> left;refine⟨⟨_,y,by unfold Iq;rw[AAK];omega⟩,L v g T U ex ?_⟩;rw[ACC (by omega)] at M;exact M
 | succ k=>
   right;have C:i<m.length:=by omega
   refine⟨⟨_,_,_,y,RU C⟩,λσ' w=>W (i+1) k σ' w,λσ' w h=>⟨k,by omega,h⟩,λx w yl=> ?_⟩;obtain⟨t,kk,xx,rfl,hn,rfl,hu⟩:=yl;have hx:=hu _ y;rw[RU C] at hx;cases hx;have z:∀b o,g b=some o->upd g t (.tup [kV (.inl m[i].1), .int m[i].2]) b=some o:=λb o e=>by rw[Af (Aq e hn)];exact e
   refine⟨t,_,rfl, .inl (.inl (.inl Ab)),rfl,_,_,rfl,_,_,rfl,rfl, ?_⟩;generalize G:(v.set c (some (kV (.inl m[i].1)))).set f (some (V.int m[i].2))=l;have A:l.length=σ0.length:=by rw[<-G];simp[T]
   have r:∀j,j≠c->j≠f->l[j]? =σ0[j]? :=λj h h'=>by rw[<-G,AAb (AAk h'),AAb (AAk h)];exact U j h h'
   have E:l[c]? =some (some (.int m[i].1)):=by rw[<-G,AAb (AAk n5),ACO (by omega)];rfl
   have P:l[f]? =some (some (.int m[i].2)):=by rw[<-G,ACO (by simp;omega)]
   have F:l[B]? =some (some (.ref a)):=by rw[r B X Y];exact hw
   have Q:l[s]? =some (some (.int more)):=by rw[r s Z n4];exact hm
   have I:=z _ _ M;generalize hH:upd g t (.tup [kV (.inl m[i].1), .int m[i].2])=S at z I;refine⟨_,F,a,rfl, .inl ⟨_, .inl I⟩,_,E,_,U0.k (k:= .inl m[i].1) I,_,Q,_,P,more,m[i].2,rfl,rfl,ok _ (ACX C), ?_⟩;rw[gZ];refine⟨_,_,rfl,rfl,_,F,_,E,a,_,rfl,U1.k (k:= .inl m[i].1) I (by unfold Iq;rw[AAK];omega),by omega,⟨A,r⟩,λb o e=> ?_, ?_, ?_⟩
   .rw [Af (Aq e ha)];exact z _ _ (ex _ _ e)
   .rw [Ab];unfold EC;rw[Hv C,Xg]
   .unfold EC at O ⊢;rw[Hv C];have:=OB ((m.take i).foldl (λu p=>OA u p.1 (Nd u p.1+more*p.2)) acc0) m[i].1 (Nd ((m.take i).foldl (λu p=>OA u p.1 (Nd u p.1+more*p.2)) acc0) m[i].1+more*m[i].2);omega
def xC (a:TE):TI:=λb H R=>a b H λv H1=>∃d n ep kvs,v= .ref d/\Uw H1 d n ep kvs/\R (Itm d n ep) H1
def zq (K:AAB)(a:TE)(b c:Nat):TS:=Pm (eB (xC a) 2 [c] (PM K 2 (DI (Bn 0) (DI (Bn 1) MD))) i7 (DX 0) (Zt (rI MulOk λi j=> .int (i*j)) (DX 2) (DX 1))) (Bn b)
def xN (K:AAB)(d:TE)(e a b c:Nat):TS:=nS (xC d) (PM K 2 (DI (Bn a) (DI (Bn b) MD))) (cU e a b c)
section
variable {K:AAB}{B:DJ}{T:ke->Prop}{H:Hp}{σ σ':L2.St}{τ τ':BL}
def SR.loose (s:SR K B T H σ τ)(hl:σ'.length=τ'.length)(h:∀(j:Nat) (a:AV),τ'[j]? =some (some a)->τ[j]? =some (some a)/\σ'[j]? =σ[j]?):SR K B T H σ' τ'/\∀b,CW σ' τ' b->CW σ τ b:=by
 have g:∀b,CW σ' τ' b->CW σ τ b:=λb ⟨j,xs,h1,h2⟩=>let ⟨c,d⟩:=h j _ h1;⟨j,xs,c,by rw[<-d];exact h2⟩;have i:Mv K T (mt B σ τ) H T (mt B σ' τ') H:= .anti s.va λa m=>m.elim .inl λz=> .inr (g a z);refine⟨⟨hl,λj y e=> ?_,λj ys e=> ?_,λj k ys o p r t l n=> ?_,s.tp,s.bm,s.bt,s.st⟩,g⟩
 .obtain ⟨c,d⟩:=h j _ e;obtain⟨w,hw,f⟩:=s.val j y c;exact⟨w,by rw[d];exact hw,f.mv i⟩
 .obtain ⟨c,d⟩:=h j _ e;obtain⟨p,vs,h1,h2,h3,u⟩:=s.own j ys c;exact⟨p,vs,by rw[d];exact h1,h2,h3.mv i,u⟩
 .obtain ⟨c,d⟩:=h j _ r;obtain⟨v,b2⟩:=h k _ t;rw[d] at l;rw[b2] at n;exact s.dist j k ys o p c v l n
end
def l5 (x:PV)(R:km (Int×Int)->Prop):Prop:=match x with | .dk m=>R m|_=>False
def Xs {x:PV}{R:km (Int×Int)->Prop}(h:l5 x R):∃m,x= .dk m/\R m:=by cases x <;> first | exact⟨_,rfl,h⟩|exact h.elim
def ae (c a b e d:Nat)(f g:AE):AS:=λD τ=>(c<τ.length/\a<τ.length/\b<τ.length)/\f τ λx=>l5 x λm1=>∃many,τ[e]? =some (some (.val (.int many)))/\m1.length<sizeLine/\(∀p∈m1,MulOk many p.2)/\
 g (τ.set c none) λy=>l5 y λm2=>∃more,τ[d]? =some (some (.val (.int more)))/\(CQ many m1).length+m2.length<sizeLine/\(∀p∈m2,MulOk more p.2)/\
 D.nx (((τ.set c (some (.val (.dk (EC more (CQ many m1) m2))))).set a none).set b none)
def xT {k:Nat}{A:Tb}(a:Room k A):A.units+1<cLine:=by have:=a.un;omega
section
variable {X:Cx}
def d5 {e1 e2:kc}{ta tb:AE}{m p:Stmt}{rest:km Stmt}{b:AS}{f g k im s:Nat}(n1:f≠g)(n2:f≠k)(n3:s≠g)(n4:s≠k)(n5:g≠k)(n6:s≠f)(h1:SE X e1 ta)(h2:SE X e2 tb)(p1:∀I,PE X e1 I->PS X m (zq X.K I f im))(p2:∀I,PE X e2 I->PS X p (xN X.K I f g k s))(h3:Ye X rest b):Ye X (m::p::rest) (AZ (ae f g k im s ta tb) b):=by
 obtain⟨t1,q1,s1⟩:=h1;obtain⟨t2,q2,s2⟩:=h2;obtain⟨t3,q3,s3⟩:=h3;refine⟨_,Bp (p1 t1 q1) (Bp (p2 t2 q2) (iK (i:=f) q3)),λB T J τ H D AD A h er=> ?_⟩;obtain⟨⟨l0,l1,l2⟩,h⟩:=h;refine s1 B T J τ H _ _ A h λv x T1 H1 m r1 h1=> ?_;obtain⟨m1,rfl,many,pQ,Y,Z,h1⟩:=Xs h1;have u:=A.stp m;obtain⟨vm,hvm,rvm⟩:=u.val _ _ pQ;cases rvm;cases r1 with
 | dk hh eo=>
 rename_i d o es ep;have L:Uw H1 d m1.length ep (Iq m1):=⟨o,es,hh,eo,by unfold Iq;rw[AAK]⟩;refine⟨_,_,_,_,rfl,L, ?_⟩;refine gI (K:=X.K) (Q:=λx H1=>Bn f x J H1 (Wn (xN X.K t2 f g k s) (nU f t3) D)) L hvm Y Z λa H2 ha ex hD=> ?_;have M:¬T1 a:=λz=>by obtain⟨o,e,_⟩:=(u.tp a z).mut;rw[ha] at e;cases e
 have N:DK T1 H1 T1 H2:=YK u.va ex;have sr2:=u.stp N;obtain⟨O,_⟩:=sr2.loose (σ':=J.set f (some (.ref a))) (τ':=τ.set f none) (by simp[A.len]) λj c e=>by
  rcases BG e with⟨_,C,_⟩|⟨n,C⟩
  .cases C
  .exact ⟨C,AAb (λz=>n z.symm)⟩
 refine s2 B T1 _ _ H2 _ _ O h1 λv2 y U G p r2 h2=> ?_;obtain⟨m2,rfl,more,pS,hsz,ok2,h2⟩:=Xs h2;obtain⟨vr,hvr,rvr⟩:=A.val _ _ pS;cases rvr;have oF:G a=some (.dK (Iq (CQ many m1))):=p.keep _ _ M hD;have na2:¬U a:=λz=>by
  rcases p.new a z with z|z
  .exact M z
  .rw [hD] at z;cases z
 cases r2 with
 | dk W P=>
 rename_i d2 o2 R ep2;have da:d2≠a:=λz=>by subst z;rw[oF] at W;cases W
 have fd2:Uw G d2 m2.length ep2 (Iq m2):=⟨o2,R,W,P,by unfold Iq;rw[AAK]⟩;refine⟨_,_,_,_,rfl,fd2, ?_⟩;let H0:Hp:=λb=>if b=a then none else G b
 have E:(J.set f (some (V.ref a))).length=τ.length:=by simp[A.len]
 refine gr (K:=X.K) (H:=H0) (H1:=G) (σ0:=J.set f (some (V.ref a))) (D:={D with nx:=nU f t3 D}) (acc0:=CQ many m1) (a:=a) (more:=more) n1 n2 n3 n4 n5 (by rw[E];exact l1) (by rw[E];exact l2) ⟨o2,R,(AAC da).trans W,P,by unfold Iq;rw[AAK]⟩ (AAD rfl) (λb o e=> ?_) oF ?_ ?_ ok2 hsz λσ' H4 sl so S hD4=> ?_
 .by_cases z:b=a
  .rw [show H0 b=none from AAD z] at e;cases e
  .rw [show H0 b=G b from AAC z] at e;exact e
 .rw [ACO (by rw[A.len];exact l0)]
 .rw [AAb (λz=>n6 z.symm)];exact hvr
 refine⟨a,_, ?_,hD4,λo es ep eo=> ?_⟩
 .rw [so f n1 n2,ACO (by rw[A.len];exact l0)]
 have l:DK T H U G:=(m.trans N).trans p;have St:DK T H U (upd H4 a (.frz o (.dK (Iq (EC more (CQ many m1) m2))))):=by
  refine⟨λb q nt e=> ?_,l.sub,l.new,λx t=> ?_⟩
  .have z:b≠a:=λz=>by subst z;have:=m.keep _ _ nt e;rw[ha] at this;cases this
   rw[Af z];exact S b q ((AAC z).trans (l.keep b q nt e))
  .have z:x≠a:=λz=>by subst z;exact na2 t
   obtain⟨d,w,e,r⟩:=l.tp x t;exact⟨d,w,by rw[Af z];exact S _ _ ((AAC z).trans e),r⟩
 have sr5:=A.stp St;have sr6:=sr5.set (i:=f) (v:= .ref a) (x:= .dk (EC more (CQ many m1) m2)) (.dk Ab eo);obtain⟨sr7,ow⟩:=sr6.loose (σ':=σ') (τ':=((τ.set f (some (.val (.dk (EC more (CQ many m1) m2))))).set g none).set k none) (by rw[sl,E];simp) λj c e=>by
  rcases BG e with⟨_,C,_⟩|⟨k2,C⟩
  .cases C
  .rcases BG C with⟨_,F,_⟩|⟨k1,F⟩
   .cases F
   .exact ⟨F,so j k1 k2⟩
 exact s3 B U σ' _ _ D AD sr7 h2 (er.shift (St.prog.trans (.less λb z=>C3 (ow b z))))
end
end PL
namespace L2
open PySem PySem.Spec PyProof.Rows
def tI (K:AAB)(l:ke):It:=
 ⟨λi H=>∃xs x,FJ K H l xs/\xs[i]? =some x,
  λi H v a=>∃T x,v= .ref T/\H T=none/\a=upd H T (.tup [.int i,x])/\∀xs,FJ K H l xs->xs[i]? =some x,
  λi H=>∃xs,FJ K H l xs/\xs.length<=i⟩
def Zv {P:fm}{w:fe}{K:AAB}{es:km kc}{G:Nat}{pos:Pos}{e it l:ke}(B:e≠it):MB P w K (.Tuple es G pos) (tI K l) [e,it] e (λk h=>(∃b,IsEnum h e it (k:Nat) b)/\h.IsListIter it l k) where
 mem:=by simp
 obj:=λk h st p hp=>by
  obtain⟨⟨b,he⟩,hi⟩:=st;have f:p=e\/p=it:=by simpa using hp
  rcases f with q|q
  .subst q;exact⟨_,he,λv z=>nomatch z⟩
  .subst q;obtain⟨o,a,c,d⟩:=hi;exact⟨o,a,λv z=>by rw[d] at z;cases z⟩
 keep:=λk h h' st j=>by obtain⟨⟨b,he⟩,hi⟩:=st;exact⟨⟨b,j e (by simp) _ he⟩,hi.at λo a=>j it (by simp) o a⟩
 item:=by
  intro X n hw r hc k C s D H E I m st t;subst n hw r;obtain⟨⟨b,he⟩,hi⟩:=st;obtain⟨xs,x,hq,hx⟩:=t;obtain⟨y,rv,p,hz⟩:=I.list hq;obtain⟨u,hu,J⟩:=rv.get hx;have i:e<s.heap.objs.size:=AAG he;have A:it<s.heap.objs.size:=by obtain⟨o,a,_⟩:=id hi;exact AAG a
  refine wpAny_pyNext_enum_item he hi p.isList (x:=u) (by simpa using hu) B λh1 L M N Y O=> ?_;refine⟨_,rfl,wpAny_letOwnedTupleGo_enum (s:={s with heap:=h1,toks:=s.toks+1}) L λh2 Q R=> ?_⟩;have g:∀p o,p≠e->h1.get? p=some o->h2.get? p=some o:=λp o q z=>R.extBut _ _ q z;have F:∀p∈ [e,it],p<s.heap.objs.size:=λp hp=>by
   have f:p=e\/p=it:=by simpa using hp
   rcases f with q|q
   .rw [q];exact i
   .rw [q];exact A
  have j:∀p o,p ∉ [e,it] ->s.heap.get? p=some o->h2.get? p=some o:=λp o hp z=>by
   have f:p≠e/\p≠it:=by simpa using hp
   exact g p o f.1 (O p o f.1 f.2 z)
  have S:Inv X C D (upd H s.heap.objs.size (.tup [.int k,x])) {s with heap:=h2,toks:=s.toks+1}:=I.turnedN m F j (AAJ _)
   ⟨(by show 2<=sizeLine;decide), [.int k s.toks,u], .cons ⟨_,rfl⟩ (.cons J .nil),⟨_,g _ _ (ABR i) N,rfl,_,rfl⟩⟩
  have T:H s.heap.objs.size=none:=I.fresh;refine⟨.ref s.heap.objs.size,upd H s.heap.objs.size (.tup [.int k,x]),S,rfl,⟨_,x,rfl,T,rfl,λU h'=> ?_⟩,⟨⟨u, ?_⟩, ?_⟩,λp hp=> ?_⟩
  .rw [I.list_inj h' hq];exact hx
  .have:((k+1:Nat):Int)=(k:Int)+1:=by push_cast;rfl
   rw[this];exact Q
  .exact M.at λo z=>g it o B.symm z
  .rw [Af (AAM (F p hp))];exact(m p hp).1
 done:=by
  intro X n hw r hc k C s D H E I m st t;subst n hw r;obtain⟨⟨b,he⟩,hi⟩:=st;obtain⟨xs,hq,hx⟩:=t;obtain⟨y,rv,p,hz⟩:=I.list hq;have hl:=rv.length;refine wpAny_pyNext_enum_end (I.ok.hd hc) he hi p.isList (by simp;omega) λh' W=>⟨rfl, ?_⟩;exact I.turnedL (t':=s.toks) m λp o hp z=>by
   have f:p≠e/\p≠it:=by simpa using hp
   exact W p o f.2 z
 self:=λ_ _ _ _ _ st h=>by obtain⟨⟨b,he⟩,_⟩:=st;exact ADo he h
section
variable {X:Cx}
def pX (K:AAB)(a:TA):TI:=λb H R=>a b H λvs H1=>∃l,vs= [.ref l] /\(∃xs,FJ K H1 l xs)/\R (tI K l) H1
def iC {e:kc}{d:TA}{p pos b:Pos}{es:km kc}{i:Nat}(j:Gl X "enumerate")(k:X.mg "enumerate" =none)(ha:PA X [e] d)(hs:starEach [e] X.env= [(false,eval e X.env)] :=by rfl):PI X (.Tuple es i b) (.Call (.Name "enumerate" p) [e] [] pos) (pX X.K d):=by
 intro m s n H R I h;refine Call_ (HI I j k boot_enumerate (ACP (Bc (ha pos m s n H _ I h) λx a ⟨vs,H1,c,o,t⟩=> ?_) (by rw[hs];rfl) rfl));obtain⟨l,rfl,⟨xs,hl⟩,q⟩:=t;cases o with
 | cons r u=>
 cases u;cases r;obtain⟨v,rv,p,hz⟩:=c.list hl;refine call_enumerate_list p.isList λh' f b2 y w=> ?_;refine ADo f ?_;have g:∀p∈ [a.heap.objs.size+1,a.heap.objs.size],a.heap.objs.size<=p:=λp hp=>by
  have z:p=a.heap.objs.size+1\/p=a.heap.objs.size:=by simpa using hp
  omega
 exact⟨_,_,_,_,H1,rfl,c.kept (t':=a.toks) w,Zv (Nat.succ_ne_self _),⟨⟨.none,f⟩,b2⟩,λp hp=>c.fpOk (g p hp) (c.hok.fresh (g p hp)),q⟩
end
end L2
namespace PL
open PySem PySem.Spec PyProof.Rows L2
def DU (k:Nat):km PV->km PV
 | [] => []
 | x::r=> .tup [.int k,x] :: DU (k+1) r
theorem Ky:∀(xs:km PV) (k:Nat),(DU k xs).length=xs.length
 | [],_=>rfl
 | _::r,k=>by rw[DU,AAc,Ky r,AAc]
theorem F3:∀(xs:km PV) (k i:Nat) (z:PV),(DU k xs)[i]? =some z->∃x,xs[i]? =some x/\z= .tup [.int ((k+i:Nat):Int),x]
 | [],_,_,_,h=>by simp[DU] at h
 | x::r,k,0,z,h=>⟨x,rfl,by simp[DU] at h;rw[<-h];rfl⟩
 | x::r,k,i+1,z,h=>by obtain⟨y,h1,h2⟩:=F3 r (k+1) i z (by simpa[DU] using h);refine⟨y,by simpa using h1, ?_⟩;rw[h2,show k+1+i=k+(i+1) by omega]
def ZB {K:AAB}{T M:ke->Prop}{H:Hp}{l:ke}{xs:km PV}(va:Ii T M H)(r:CF K T M H (.ref l) (.lst xs)):VC K M (tI K l) (DU 0 xs) T H:=by
 obtain⟨a,vs,e,hq,k,nm,b⟩:=C7 r;cases e;have c:FJ K H l vs:= .inl (.inl hq);refine⟨λi z h=> ?_,λi z v m h f=> ?_,λi h=>⟨vs,c, ?_⟩⟩
 .obtain ⟨x,hx,_⟩:=F3 xs 0 i z h;obtain⟨u,hu,_⟩:=b.get hx;exact⟨vs,u,c,hu⟩
 .obtain ⟨x,hx,rfl⟩:=F3 xs 0 i z h;obtain⟨p,u,rfl,g,rfl,hu⟩:=f;obtain⟨n,d,j⟩:=b.get' (hu vs c);rw[hx] at d;cases d;have st:=DK.lay (o:= .tup [.int (i:Nat),u]) va.tp g;rw[AC3];exact⟨st, .tup (.inl Ab) (.cons (.int _) (.cons (j.stp st va) .nil))⟩
 .rw [b.length];rw[Ky] at h;exact h
section
variable {X:Cx}
def tU (r:AA):AI:=λτ Q=>r τ λa=>match a with | [.lst xs] =>Q (DU 0 xs)|_=>False
def u4 {e:kc}{r:AA}{p pos b:Pos}{es:km kc}{c:Nat}(d:Gl X "enumerate")(f:X.mg "enumerate" =none)(ha:SA X [e] r)(hs:starEach [e] X.env= [(false,eval e X.env)] :=by rfl):SI X (.Tuple es c b) (.Call (.Name "enumerate" p) [e] [] pos) true (tU r):=by
 obtain⟨t,g,s⟩:=ha;refine⟨_,iC d f g hs,λB T i τ H R u j h k=>s B T i τ H _ _ j h λvs xs T1 H1 l m h1=> ?_⟩;split at h1 <;> first | exact h1.elim|skip
 cases m with
 | cons ra t=> cases t;obtain⟨a,n,rfl,hq,_,_,v⟩:=C7 ra;exact⟨a,rfl,⟨n, .inl (.inl hq)⟩,k _ _ T1 H1 l (λM2 w x o va _=>ZB va (ra.mv o)) h1⟩
end
end PL
namespace L2
open PySem PySem.Spec PyProof.Rows
def bD {prog:fm}{w:fe}{A:Tb}(c:A.handled=none)(b:gn)(it l:ke)(d:l≠it)(items:Array kj):Draws prog w A it [it,l] items.size (λi v=>items[i]? =some v) (λi h=>O9 b h it l i/\MX b h l items) where
 live:=λ_ _ st=>let ⟨o,f,_⟩:=st.1.obj;⟨o,f⟩
 frame:=λ_ _ _ st hk=>⟨st.1.mv λo e=>hk it (by simp) o e,st.2.mv λo e=>hk l (by simp) o e⟩
 item:=λi s Q E hi st hQ=>by refine Jn st.1 st.2 (x:=items[i]) (by simp[hi]) λh' g a=> ?_;exact hQ _ h' s.toks (by simp[hi]) ⟨g,st.2.mv λo e=>a.extBut _ _ d e⟩ a
 done:=λs Q E st j=>Hl c st.1 st.2 (by simp) j
def j3 (K:AAB)(b:gn)(l:ke):It:=
 ⟨λi H=>∃xs x,Sq K b H l xs/\xs[i]? =some x,
  λi H v a=>∃T x,v= .ref T/\H T=none/\a=upd H T (.tup [.int i,x])/\∀xs,Sq K b H l xs->xs[i]? =some x,
  λi H=>∃xs,Sq K b H l xs/\xs.length<=i⟩
def ig {b:gn}{h:Wf}{q l:ke}{k:Nat}(x:O9 b h q l k):∃o,h.get? q=some o/\(o.cls= .type "list_iterator" \/o.cls= .type "tuple_iterator"):=by
 cases b with
 | true=>obtain⟨o,a,c,_⟩:=x;exact⟨o,a, .inl c⟩
 | false=>obtain⟨o,a,c,_⟩:=x;exact⟨o,a, .inr c⟩
def iu {b:gn}{h:Wf}{l:ke}{xs:Array kj}(x:MX b h l xs):∃o,h.get? l=some o/\(o.cls= .type "list" \/o.cls= .type "tuple"):=by
 cases b with
 | true=>obtain⟨o,a,c,_⟩:=x;exact⟨o,a, .inl c⟩
 | false=>obtain⟨o,a,c,_⟩:=x;exact⟨o,a, .inr c⟩
def d6 {b:gn}{h:Wf}{e it l:ke}{k:Nat}{i:Int}{f:kj}{xs:Array kj}(x:MX b h l xs)(y:O9 b h it l k)(z:IsEnum h e it i f):l≠it/\l≠e:=by
 obtain⟨o,a,c⟩:=iu x;obtain⟨j,g,d⟩:=ig y;refine⟨λq=> ?_,λq=> ?_⟩
 .subst q;rw[a] at g;cases g;rcases c with c|c <;> rcases d with d|d <;> (rw[c] at d;simp at d)
 .subst q;rw[z] at a;cases a;rcases c with c|c <;> simp at c
def Ws {P:fm}{w:fe}{K:AAB}{es:km kc}{S:Nat}{pos:Pos}{b:gn}{e it l:ke}(t:e≠it):MB P w K (.Tuple es S pos) (j3 K b l) [e,it] e (λk h=>(∃c,IsEnum h e it (k:Nat) c)/\O9 b h it l k) where
 mem:=by simp
 obj:=λk h st p hp=>by
  obtain⟨⟨c,he⟩,hi⟩:=st;have f:p=e\/p=it:=by simpa using hp
  rcases f with q|q
  .subst q;exact⟨_,he,λv z=>nomatch z⟩
  .subst q;exact hi.obj
 keep:=λk h h' st m=>by obtain⟨⟨c,he⟩,hi⟩:=st;exact⟨⟨c,m e (by simp) _ he⟩,hi.mv λo a=>m it (by simp) o a⟩
 item:=by
  intro X B hw C hc k L s M H E I r st D;subst B hw C;obtain⟨⟨c,he⟩,hi⟩:=st;obtain⟨xs,x,hq,hx⟩:=D;obtain⟨d,rv,p,hz⟩:=I.sq hq;obtain⟨u,hu,T⟩:=rv.get hx;have j:e<s.heap.objs.size:=AAG he;have F:it<s.heap.objs.size:=by obtain⟨o,a,_⟩:=hi.obj;exact AAG a
  obtain⟨N,O⟩:=d6 p hi he;have U:k<d.toArray.size:=by have:=(AAq.mp hu).1;simpa using this
  refine wpAny_pyNext_enum_itemD (bD (prog:=X.prog) (w:=X.w) (A:=X.A.in1) (I.ok.hd hc) b it l N d.toArray) he ⟨hi,p⟩ U t (by simp only[AAF,AA1,AA2];rintro(z|z);exact t z;exact O z.symm) λy h1 G hy W Y Z a4 a5=> ?_;have J:y=u:=by
   have:d[k]? =some y:=by simpa using hy
   rw[hu] at this;exact(AAV this).symm
  subst J;refine⟨_,rfl,wpAny_letOwnedTupleGo_enum (s:={s with heap:=h1,toks:=G+1}) W λh2 c1 c2=> ?_⟩;have g:∀p o,p≠e->h1.get? p=some o->h2.get? p=some o:=λp o q z=>c2.extBut _ _ q z;have R:∀p∈ [e,it],p<s.heap.objs.size:=λp hp=>by
   have f:p=e\/p=it:=by simpa using hp
   rcases f with q|q
   .rw [q];exact j
   .rw [q];exact F
  have m:∀p o,p ∉ [e,it] ->s.heap.get? p=some o->h2.get? p=some o:=λp o hp z=>by
   have f:p≠e/\p≠it:=by simpa using hp
   exact g p o f.1 (a5 p o f.1 f.2 z)
  have I2:Inv X L M (upd H s.heap.objs.size (.tup [.int k,x])) {s with heap:=h2,toks:=G+1}:=I.turnedN r R m (AAJ _)
   ⟨(by show 2<=sizeLine;decide), [.int k G,y], .cons ⟨_,rfl⟩ (.cons T .nil),⟨_,g _ _ (ABR j) Z,rfl,_,rfl⟩⟩
  have Vq:H s.heap.objs.size=none:=I.fresh;refine⟨.ref s.heap.objs.size,upd H s.heap.objs.size (.tup [.int k,x]),I2,rfl,⟨_,x,rfl,Vq,rfl,λxs' h'=> ?_⟩,⟨⟨y, ?_⟩, ?_⟩,λp hp=> ?_⟩
  .rw [I.sq_inj h' hq];exact hx
  .have:((k+1:Nat):Int)=(k:Int)+1:=by push_cast;rfl
   rw[this];exact c1
  .exact Y.1.mv λo z=>g it o t.symm z
  .rw [Af (AAM (R p hp))];exact(r p hp).1
 done:=by
  intro X B hw C hc k L s M H E I r st D;subst B hw C;obtain⟨⟨c,he⟩,hi⟩:=st;obtain⟨xs,hq,hx⟩:=D;obtain⟨d,rv,p,hz⟩:=I.sq hq;have hl:=rv.length;have sz:d.toArray.size<=k:=by simp;omega
  obtain⟨N,O⟩:=d6 p hi he;refine wpAny_pyNext_enum_endD (n:=k) (P:=λ_ _=>True) (St:=λi h=>i=k/\O9 b h it l k/\MX b h l d.toArray) (fp:= [it,l]) ⟨λ_ _ st=>let ⟨o,ho,_⟩:=st.2.1.obj;⟨o,ho⟩,λ_ _ _ st hk=>⟨st.1,st.2.1.mv λo e=>hk it (by simp) o e,st.2.2.mv λo e=>hk l (by simp) o e⟩,λi s Q E hi st hQ=>absurd hi (by rw[st.1];omega),λs Q E st hE=>Hl (A:=X.A.in1) (I.ok.hd hc) st.2.1 st.2.2 (by simp;simpa using sz) hE⟩ he ⟨rfl,hi,p⟩ λh' eb=>⟨rfl, ?_⟩;exact I.turnedL (t':=s.toks) r λp o hp z=>by
   have f:p≠e/\p≠it:=by simpa using hp
   exact eb p o f.2 z
 self:=λ_ _ _ _ _ st h=>by obtain⟨⟨c,he⟩,_⟩:=st;exact ADo he h
def Iu (b:gn)(l:ke)(items:Array kj):Meets (Builtin.«enumerate.__new__» ⟨[.type "enumerate", .ref l], []⟩) (λ_ R s=>MX b s.heap l items/\ R (.ok (.ret (.ref (s.heap.push (Vx b l)).objs.size))) {s with heap:=(s.heap.push (Vx b l)).push {cls:= .type "enumerate",data:= .fields #[.none, .bool false, .ref s.heap.objs.size,rawInt 0, .none, .none] }}):=
 .of_wp λprog w A R s h=>by
   obtain⟨hp,g,d,e,os⟩:=s;obtain⟨hl,h⟩:=h;have f:=sub_enumerate;have a:MX b hp l items:=hl
   wp_walk using K3 a
   refine wpAny_stack_any λst=>AAE ?_;split
   .rename_i c _ _ _ _ _;cases (c==Value.type "enumerate")
    .wp_walk using K3 a
     exact⟨_,rfl,h⟩
    .wp_walk using K3 a
     exact⟨_,rfl,h⟩
   .wp_walk using K3 a
    exact⟨_,rfl,h⟩
section
variable {prog:fm}{w:fe}{A:Tb}{E:kj->ki->Prop}{s:ki}
def Jj {b:gn}{l:ke}{items:Array kj}{Q:kj->ki->Prop}(a:MX b s.heap l items)(h:∀h',IsEnum h' (s.heap.objs.size+1) s.heap.objs.size 0 .none->O9 b h' s.heap.objs.size l 0->h'.objs.size=s.heap.objs.size+2-> (∀b o,s.heap.get? b=some o->h'.get? b=some o)->Q (.ref (s.heap.objs.size+1)) {s with heap:=h'}):wpAny (model prog w) A (call (.type "enumerate") [.ref l]) Q E s:=by
 refine callType_new F.called_enumerate (by decide) (F.typeCall_enumerate_1 _) (F.newCall_enumerate_1 _) (λobj=>F.args_object_init_2 obj _) F.entry_enumerate_new
  (Iu b l items) ⟨a, ?_⟩
 have hz:(s.heap.push (Vx b l)).objs.size=s.heap.objs.size+1:=ABe ..;show _/\_;rw[hz];have he:IsEnum ((s.heap.push (Vx b l)).push
  {cls:= .type "enumerate",data:= .fields #[.none, .bool false, .ref s.heap.objs.size,rawInt 0, .none, .none] }) (s.heap.objs.size+1) s.heap.objs.size 0 .none:=by
  have:=AAQ (s.heap.push (Vx b l))
   (o:={cls:= .type "enumerate",data:= .fields #[.none, .bool false, .ref s.heap.objs.size,rawInt 0, .none, .none] }) rfl
  rw[hz] at this;exact this
 exact⟨⟨_,he,rfl⟩,h _ he (cK (AAH _ (AAQ _ rfl))) (by rw[ABe,hz]) λb o x=>AAH _ (AAH _ x)⟩
end
section
variable {X:Cx}
def lE (K:AAB)(a:TA):TI:=λc H R=>a c H λvs H1=>∃b l,vs= [.ref l] /\(∃xs,Sq K b H1 l xs)/\R (j3 K b l) H1
def c9 {e:kc}{f:TA}{p pos c:Pos}{es:km kc}{j:Nat}(k:Gl X "enumerate")(m:X.mg "enumerate" =none)(ha:PA X [e] f)(hs:starEach [e] X.env= [(false,eval e X.env)] :=by rfl):PI X (.Tuple es j c) (.Call (.Name "enumerate" p) [e] [] pos) (lE X.K f):=by
 intro n s o H R I h;refine Call_ (HI I k m boot_enumerate (ACP (Bc (ha pos n s o H _ I h) λy a ⟨vs,H1,d,t,u⟩=> ?_) (by rw[hs];rfl) rfl));obtain⟨b,l,rfl,⟨xs,hl⟩,q⟩:=u;cases t with
 | cons r v=>
 cases v;cases r;obtain⟨w,rv,p,hz⟩:=d.sq hl;refine Jj p λh' g b2 z x=> ?_;refine ADo g ?_;have i:∀p∈ [a.heap.objs.size+1,a.heap.objs.size],a.heap.objs.size<=p:=λp hp=>by
  have A:p=a.heap.objs.size+1\/p=a.heap.objs.size:=by simpa using hp
  omega
 exact⟨_,_,_,_,H1,rfl,d.kept (t':=a.toks) x,Ws (Nat.succ_ne_self _),⟨⟨.none,g⟩,b2⟩,λp hp=>d.fpOk (i p hp) (d.hok.fresh (i p hp)),q⟩
end
end L2
namespace PL
open PySem PySem.Spec PyProof.Rows L2
def Vw {K:AAB}{T M:ke->Prop}{H:Hp}{l:ke}{x:PV}{xs:km PV}(va:Ii T M H)(hx:x= .tup xs\/x= .lst xs)(r:CF K T M H (.ref l) x):VC K M (j3 K (kN x) l) (DU 0 xs) T H:=by
 obtain⟨_,vs,e,hq,a⟩:=QV hx r;cases e;refine⟨λi z h=> ?_,λi z v g h c=> ?_,λi h=>⟨vs,hq, ?_⟩⟩
 .obtain ⟨x,hx,_⟩:=F3 xs 0 i z h;obtain⟨u,hu,_⟩:=a.get hx;exact⟨vs,u,hq,hu⟩
 .obtain ⟨x,hx,rfl⟩:=F3 xs 0 i z h;obtain⟨p,u,rfl,d,rfl,hu⟩:=c;obtain⟨j,b,f⟩:=a.get' (hu vs hq);rw[hx] at b;cases b;have st:=DK.lay (o:= .tup [.int (i:Nat),u]) va.tp d;rw[AC3];exact⟨st, .tup (.inl Ab) (.cons (.int _) (.cons (f.stp st va) .nil))⟩
 .rw [a.length];rw[Ky] at h;exact h
section
variable {X:Cx}
def kK (r:AA):AI:=λτ Q=>r τ λa=>match a with | [x] =>Oo x λxs=>Q (DU 0 xs)|_=>False
def rA {e:kc}{r:AA}{p pos a:Pos}{es:km kc}{b:Nat}(c:Gl X "enumerate")(d:X.mg "enumerate" =none)(ha:SA X [e] r)(hs:starEach [e] X.env= [(false,eval e X.env)] :=by rfl):SI X (.Tuple es b a) (.Call (.Name "enumerate" p) [e] [] pos) true (kK r):=by
 obtain⟨t,f,s⟩:=ha;refine⟨_,c9 c d f hs,λB T g τ H R u i h k=>s B T g τ H _ _ i h λvs xs T1 H1 j m h1=> ?_⟩;split at h1 <;> first | exact h1.elim|skip
 rename_i x;obtain⟨xs,hx,h2⟩:=HK h1;cases m with
 | cons ra t=> cases t;obtain⟨l,n,rfl,hq,v⟩:=QV hx ra;exact⟨kN x,l,rfl,⟨n,hq⟩,k _ _ T1 H1 j (λM2 w y o va _=>Vw va hx (ra.mv o)) h2⟩
end
instance{r:AA}{τ:BL}{a:km PV->Prop}:Wp (kK r τ a) (r τ λb=>match b with | [x] =>Oo x λxs=>a (DU 0 xs)|_=>False):=⟨id⟩
end PL
namespace L2
open PySem PySem.Spec PyProof.Rows
section
variable {prog:fm}{w:fe}{A:Tb}{E:kj->ki->Prop}{s:ki}
def dj {d:kj}{Q:kj->ki->Prop}(h:∀(g:gn),wpAny (model prog w) A.in1.in1 (Builtin.«set.__init__» {pos:= [.ref s.heap.objs.size,d] }) (λj b=> match j with
     | Fin.done f=>wants (λr i=>r=Value.none/\Q (.ref s.heap.objs.size) i) E (Except.ok f) b
     | Fin.again l=>l.quiet=true/\codeAny (model prog w) A.in1 l (wants (λr i=>r=Value.none/\Q (.ref s.heap.objs.size) i) E) b)
   (λe b=>wants (λr i=>r=Value.none/\Q (.ref s.heap.objs.size) i) E (Except.error e) b) {s with heap:=s.heap.push {cls:= .type "set",data:= .set #[] 0 (SetTable.fresh 0 0 g)}}):
 wpAny (model prog w) A (call (.type "set") [d]) Q E s:=by
 obtain⟨c,x,p⟩:=AC4.mro;refine ACn (codeAny_of_tree ?_)
 wp_walk
 refine⟨by kernel_rfl,codeAny_builtin F.entry_type_call ?_⟩;rw[Around.under_plain (weight_type_call_type ..) rfl];show wpAny (model prog w) A.in1 (Builtin.«type.__call__» {pos:= [.type "set",d] }) _ _ s;unfold Builtin.«type.__call__»;simp only[AC4.notType,AC4.canCreate,F.typeCall_set_1,p,AC4.made,pure_bind,List.isEmpty_cons,AAf,AAX];refine AAA (AAd (ACn (ACo (code_set_new_1 (Q₁:=λobj o=>∃g,obj= .ref s.heap.objs.size/\o={s with heap:=s.heap.push {cls:= .type "set",data:= .set #[] 0 (SetTable.fresh 0 0 g)}}) (E:=E) d λg=>⟨g,rfl,rfl⟩) λr o k=> ?_)));match r,k with
 | .error e,k=>exact k
 | .ok (.ret obj),k=>
   obtain⟨g,rfl,rfl⟩:=k;have t:(s.heap.push {cls:= .type "set",data:= .set #[] 0 (SetTable.fresh 0 0 g)}).get? s.heap.objs.size=some {cls:= .type "set",data:= .set #[] 0 (SetTable.fresh 0 0 g)}:=AAQ _ rfl;have n:Shared.TypeIs {s with heap:=s.heap.push {cls:= .type "set",data:= .set #[] 0 (SetTable.fresh 0 0 g)}} (.ref s.heap.objs.size) "set" :=⟨_,t,rfl⟩;refine AAA (AB9 n AC4.sub ?_);simp only[ABc,AAf,AAX];refine AAA (AAd ?_);unfold callSpecial?;refine AAA (ABt n AEc.lookup ?_);refine AAd (AAA (ABp (AEc.bind _) ?_));refine AAA (ACn (codeAny_call_builtin AEc.plain F.entry_set_init (check_set_init_1 n ?_)));have back:∀(v:kj) (b:ki),(v=Value.none/\Q (.ref s.heap.objs.size) b)->wpAny (model prog w) A.in1 (pure (some v)) (λa b=>wpAny (model prog w) A.in1 (match a with
    | none=>ret (Value.ref s.heap.objs.size)
    | some r=>if (r != Value.none)=true then do
              rule "type.call.init-returned-value"
              let __do_lift <-typeNameOf r
              raiseErrorMade "TypeError" (toString "__init__() should return None, not '" ++ toString __do_lift++toString "'")
              ret (Value.ref s.heap.objs.size)
             else ret (Value.ref s.heap.objs.size)) (λj b=>
             match j with
             | Fin.done f=>
               match Except.ok f with
               | Except.ok (Flow.ret v)=>Q v b
               | Except.ok a=>False
               | Except.error e=>E e b
             | Fin.again l=>l.quiet=true/\codeAny (model prog w) A l (λr b=>
                    match r with
                    | Except.ok (Flow.ret v)=>Q v b
                    | Except.ok a=>False
                    | Except.error e=>E e b) b) (λe b=>E e b) b) (λe b=>E e b) b:=by rintro v b ⟨rfl,hq⟩;refine AAE ?_;exact AAE hq
   refine Bc (h g) λj b m=> ?_;match j,m with
   | .done (.ret v),m=>exact back v b m
   | .again l,m=>
     refine⟨m.1,ACo m.2 λr u k=> ?_⟩;match r,k with
     | .error e,k=>exact k
     | .ok (.ret v),k=>exact back v u k
def Zb {M:Model}{f:Nat->PUnit->Sem (ForInStep PUnit)}{Q:PUnit->ki->Prop}{n:Nat}(b:n=1)(h:wpAny M A (f 0 PUnit.unit) (λr a=>r=ForInStep.yield PUnit.unit/\Q PUnit.unit a) E s):wpAny M A (forIn [:n] PUnit.unit f) Q E s:=by subst b;rw[Std.Legacy.Range.forIn_eq_forIn_range'];show wpAny M A (forIn [0] PUnit.unit f) Q E s;rw[ACW];refine AAA (Bc h ?_);rintro r a ⟨rfl,hq⟩;show wpAny M A (forIn [] PUnit.unit f) Q E a;rw[ADW];exact AAE hq
def dg (k:Int)(a:Tok):byScan (.int k a) #[] =true:=by unfold byScan;simp[Value.scannable,scanBound]
def Vf (h:Int)(a:gn):∃j,(SetTable.fresh 0 0 a).freeSlot h=some (j,false):=⟨_,rfl⟩
def ZE (h:Int)(x:kj)(a:gn):∃t:SetTable,layNew (SetTable.fresh 0 0 a) #[] h x=(#[(h,x)],t,false,false)/\t.mask=7/\t.dummies= #[] /\t.place.size=1/\t.plain=true:=by obtain⟨j,e⟩:=Vf h a;unfold layNew;rw[e];exact⟨_,rfl,rfl,rfl,rfl,rfl⟩
def TQ {d:ke}{o:Obj}{ep:Nat}{k:Int}{c:Tok}{v:kj}{Q:kj->ki->Prop}(hd:s.heap.get? d=some o)(hc:o.cls= .type "dict")(he:o.data= .dict #[⟨hashInt k, .int k c,v⟩] ep)(hs:(d==sysModules)=false)(q:∀(h':Wf) (t:SetTable) (n:Nat),t.mask=7->t.dummies= #[] ->t.place.size=1->h'.get? s.heap.objs.size=some ⟨.type "set",none, .set #[(hashInt k, .int k c)] n t, #[]⟩->(∀b o,b<s.heap.objs.size->s.heap.get? b=some o->h'.get? b=some o)->h'.objs.size=s.heap.objs.size+1->Q (.ref s.heap.objs.size) {s with heap:=h'}):wpAny (model prog w) A (call (.type "set") [.ref d]) Q E s:=by
 obtain⟨cls,u,data,sl⟩:=o;simp only at hc he;subst hc he;refine dj λa=> ?_;have h:(s.heap.push {cls:= .type "set",data:= .set #[] 0 (SetTable.fresh 0 0 a)}).get? s.heap.objs.size=some {cls:= .type "set",data:= .set #[] 0 (SetTable.fresh 0 0 a)}:=AAQ _ rfl;have i:=AAH {cls:= .type "set",data:= .set #[] 0 (SetTable.fresh 0 0 a)} hd;unfold Builtin.«set.__init__»
 wp_walk using ABp F.sub_dict_set,ABp F.sub_dict_frozenset
 refine Zb rfl ?_;obtain⟨t,j,f,g,e,l⟩:=ZE (hashInt k) (.int k c) a;have x:t.tooFull=false:=by unfold SetTable.tooFull SetTable.fill;rw[f,g,e];rfl
 wp_walk
 rw[AAD (show byScan #[({hash:=hashInt k,key:=Value.int k c,val:=v}:DictEntry)][0].key #[] =true from dg k c)];show wpAny (model prog w) A.in1.in1 (do
  let __do_lift <-setAddByScan s.heap.objs.size (.int k c) (hashInt k) #[] (SetTable.fresh 0 0 a);match __do_lift with
   | some added=>pure added
   | none=>setAddHashedIn s.heap.objs.size (.int k c) (hashInt k) 99999) _ _ _
 unfold setAddByScan;simp only[j]
 wp_walk
 rw[AAD rfl];have m:d<s.heap.objs.size:=AAG hd;have p:=(ADp (s.heap.push {cls:= .type "set",data:= .set #[] 0 (SetTable.fresh 0 0 a)}) d s.heap.objs.size (Obj.putSet #[(hashInt k, .int k c)] t) (AAM m)).trans i
 wp_walk using wpAny_loadPart' p
 refine⟨rfl,AAE (AAE ⟨rfl, ?_⟩)⟩;refine q _ t 1 f g e ?_ (λb o hb r=> ?_) ?_
 .exact AB0 (Obj.putSet #[(hashInt k, .int k c)] t) h rfl
 .rw [ADp _ _ _ _ (AAM hb)];exact AAH _ r
 .rw [Heap.size_update,ABe]
end
def RE:entryFor table "set.__or__" =some Builtin.«frozenset.__or__»:=
 entryFor_alias (id':="frozenset.__or__") (by kernel_rfl) (by first | rfl|decide +kernel|(unfold String.splitOn;simp +decide [String.splitOnAux])) (by decide +kernel) (by kernel_rfl)
abbrev Pj (h:Int)(x:kj)(n:Nat)(t:SetTable):Obj:=⟨.type "set",none, .set #[(h,x)] n t, #[]⟩
structure T1 (t:SetTable):Prop where
 m:t.mask=7
 d:t.dummies= #[]
 p:t.place.size=1
def T1.fits {t:SetTable}(h:T1 t):t.fits 1=true:=by unfold SetTable.fits SetTable.fill;rw[h.m,h.d,h.p];rfl
def T1.room {t:SetTable}(h:T1 t):t.roomFor 1=none:=by unfold SetTable.roomFor SetTable.fill;rw[h.m,h.d,h.p];rfl
section
variable {prog:fm}{w:fe}{A:Tb}{E:kj->ki->Prop}{s:ki}
def T7 {S a:ke}{h:Int}{x:kj}{n:Nat}{t:SetTable}{b:gn}{Q:Unit->ki->Prop}(e:s.heap.get? S=some ⟨.type "set",none, .set #[] 0 (SetTable.fresh 0 0 b), #[]⟩)(ha:s.heap.get? a=some (Pj h x n t))(i:(S==a)=false)(c:T1 t)(q:∀g:SetTable,T1 g->Q () {s with heap:=s.heap.update S (Obj.putSet #[(h,x)] g)}):wpAny (model prog w) A (setMerge S a) Q E s:=by
 unfold setMerge;rw[AAC (by rw[i];decide)];refine AAA (ABs ha rfl c.fits ?_);show wpAny (model prog w) A (do
  setRoomFor S 1
  let __x <-setState S;match __x with
   | (fst,f,j)=>_) Q E s
 refine AAA ?_;unfold setRoomFor;refine AAA (ABs e rfl rfl ?_);show wpAny _ _ (pure ()) _ _ _;refine AAE (AAA (ABs e rfl rfl ?_));have er:(SetTable.fresh 0 0 b).road t=SetTable.Road.slotForSlot:=by unfold SetTable.road;rw[AAC (by cases b <;> decide),c.m,c.d];rfl
 dsimp only;rw[er];exact wpAny_storeSet_of e rfl (q _ ⟨c.m,c.d,c.p⟩)
def qU {a:Type}(f:Nat->Nat)(x:a):pickOrder f #[x] = #[x] :=by show pickOrder.go f 1 0 [x] #[] = #[x];simp[pickOrder.go,Nat.mod_one]
def walk1 {b:ke}{h:Int}{x:kj}{n:Nat}{t:SetTable}{os:km ke}{c:kd ke}{Q:Array (Int×kj)->ki->Prop}(hb:s.heap.get? b=some (Pj h x n t))(a:T1 t)(q:Q #[(h,x)] s):wpAny (model prog w) A (setWalkUnseen b os c) Q E s:=by
 unfold setWalkUnseen;refine AAA (ABs hb rfl a.fits ?_);unfold setsByText;refine AAA (AAA (ADq (AAE ?_)));dsimp only;rw[AAD (by simp)];unfold setWalk;refine AAA (ABs hb rfl a.fits ?_);unfold setsByText;refine AAA (AAA (ADq (AAE ?_)));dsimp only;split
 .refine AAA (ADq (AAE ?_));dsimp only;rw[qU];exact q
 .split
  .rename_i d;exact absurd d (by show ¬(!t.plain&&decide (#[(h,x)].size>1))=true;simp)
  .refine AAA ?_;show wpAny _ _ (if (!t.led&&decide (#[(h,x)].size>1))=true then unsupported "set:maker-not-led" else pure ()) _ _ _;rw[AAC (by simp)];exact AAE (AAE q)
def Za {M:Model}{b:Type}{x:b}{f:b->PUnit->Sem (ForInStep PUnit)}{Q:PUnit->ki->Prop}(h:wpAny M A (f x PUnit.unit) (λr a=>r=ForInStep.yield PUnit.unit/\Q PUnit.unit a) E s):wpAny M A (forIn #[x] PUnit.unit f) Q E s:=by rw[<-ADE];show wpAny M A (forIn [x] PUnit.unit f) Q E s;rw[ACW];refine AAA (Bc h ?_);rintro r a ⟨rfl,hq⟩;show wpAny M A (forIn [] PUnit.unit f) Q E a;rw[ADW];exact AAE hq
def isInt_self (j:Int)(a:Tok):Value.isInt j (.int j a)=true:=by simp[Value.isInt]
def iU {h:Wf}{S:ke}{i:Int}{a:Tok}{n:Nat}{t:SetTable}(b:h.get? S=some (Pj (hashInt i) (.int i a) n t))(c:T1 t):h.SetOf (intKind prog w) S (λk=>decide (k=i)) 1:=by
 refine⟨_,_,_,_,b, ?_,rfl, ?_, ?_, ?_,c.fits,rfl⟩
 .first | exact⟨rfl,rfl⟩|exact⟨rfl,rfl,rfl⟩|exact Or.inl rfl
 .intro e he;simp only[AAR] at he;subst he;exact⟨⟨i,isInt_self i a,rfl⟩,rfl⟩
 .intro k;simp[intKind,Value.isInt];exact eq_comm
 .simp [scanBound]
def ZI {S b:ke}{i j:Int}{r c:Tok}{n m:Nat}{t u:SetTable}{id:String}{Q:Unit->ki->Prop}(f:s.heap.get? S=some (Pj (hashInt i) (.int i r) n t))(hb:s.heap.get? b=some (Pj (hashInt j) (.int j c) m u))(g:(S==b)=false)(a:T1 t)(hu:T1 u)(q:∀h',Heap.SameBut S s.heap h'->h'.SetOf (intKind prog w) S (λk=>decide (k=i)||decide (k=j)) (if i=j then 1 else 2)->Q () {s with heap:=h'}):wpAny (model prog w) A (setMerge S b (Builtin.Frozenset.unchanged id b m)) Q E s:=by
 unfold setMerge;rw[AAC (by rw[g];decide)];refine AAA (ABs hb rfl hu.fits ?_);show wpAny (model prog w) A (do
  setRoomFor S 1
  let __x <-setState S;match __x with
   | (fst,h,x)=>_) Q E s
 refine AAA ?_;unfold setRoomFor;refine AAA (ABs f rfl a.fits ?_);dsimp only;rw[a.room];refine AAE (AAA (ABs f rfl a.fits ?_));have er:t.road u=SetTable.Road.oneByOne:=by unfold SetTable.road SetTable.fill;rw[a.d,a.p];rfl
 dsimp only;rw[er];refine AAA (walk1 hb hu ?_);refine AAA (Za ?_);dsimp only;refine AAA (AAd (wpAny_setAddHashed_of (knd:=intKind prog w) (k:=j) (isInt_self j c) rfl (iU f a) (by simp[scanBound]) λh' l v=> ?_));have o:h'.get? b=some (Pj (hashInt j) (.int j c) m u):=by rw[l.2 b (λz=>by rw[z] at g;simp at g)];exact hb
 unfold Builtin.Frozenset.unchanged;refine AAA (AAA (wpAny_setEpoch_of o rfl hu.fits ?_));rw[AAC (by simp)];refine AAE (AAA (ABs o rfl hu.fits ?_));rw[AAC (by simp)];refine AAE ⟨rfl,AAE (q h' l ?_)⟩;have e:(if decide (j=i)=true then 1 else 1+1)=if i=j then 1 else 2:=by
  by_cases z:i=j
  .rw [AAD z,AAD (by simp[z])]
  .rw [AAC z,AAC (by simp;exact λy=>z y.symm)]
 rw[<-e];exact v
def hX {a b:ke}{i j:Int}{e x:Tok}{n m:Nat}{t u:SetTable}{Q:kj->ki->Prop}(ha:s.heap.get? a=some (Pj (hashInt i) (.int i e) n t))(hb:s.heap.get? b=some (Pj (hashInt j) (.int j x) m u))(C:a≠b)(D:T1 t)(hu:T1 u)(q:∀(h':Wf),h'.SetOf (intKind prog w) s.heap.objs.size (λk=>decide (k=i)||decide (k=j)) (if i=j then 1 else 2)->(∀c o,c<s.heap.objs.size->s.heap.get? c=some o->h'.get? c=some o)->Q (.ref s.heap.objs.size) {s with heap:=h'}):wpAny (model prog w) A (binaryOp .BitOr (.ref a) (.ref b)) Q E s:=by
 have G:=AAG ha;have y:=AAG hb;refine wpAny_binaryOp_same (T:="set") ⟨_,ha,rfl⟩ ⟨_,hb,rfl⟩ F.fills_set_or F.slot_set_or ?_;refine ACn (codeAny_call_builtin F.slot_set_or.plain RE ?_);refine F.slot_set_or.check (model prog w) A.in1 _ s (.ref a) [.ref b] [] _ ⟨_,ha,rfl⟩ (F.args_set_or_2 _ _) ?_;unfold Builtin.«frozenset.__or__»
 wp_walk using ABp F.sub_set_set,ADq
 have B:∀{c:Nat},c<s.heap.objs.size->(s.heap.objs.size==c)=false:=λ{c} h=>by simp only[ACL,ne_eq];exact λz=>absurd h (by rw[z];exact ABd _)
 show wpAny _ _ (setMerge s.heap.objs.size a) _ _ _;refine T7 (AAQ _ rfl) (AAH _ ha) (B G) D λf g=> ?_;have H:=AAH {cls:= .type "set",data:= .set #[] 0 (SetTable.fresh 0 0 !((model prog w).w.params.followText "set-order"))} hb;have I:((s.heap.push {cls:= .type "set",data:= .set #[] 0 (SetTable.fresh 0 0 !((model prog w).w.params.followText "set-order"))}).update s.heap.objs.size (Obj.putSet #[(hashInt i, .int i e)] f)).get? s.heap.objs.size=some (Pj (hashInt i) (.int i e) 1 f):=AB0 (Obj.putSet #[(hashInt i, .int i e)] f) (AAQ _ rfl) rfl;have J:=(ADp _ b s.heap.objs.size (Obj.putSet #[(hashInt i, .int i e)] f) (AAM y)).trans H;have l:∀c o,c<s.heap.objs.size->s.heap.get? c=some o->((s.heap.push {cls:= .type "set",data:= .set #[] 0 (SetTable.fresh 0 0 !((model prog w).w.params.followText "set-order"))}).update s.heap.objs.size (Obj.putSet #[(hashInt i, .int i e)] f)).get? c=some o:=λc o hc v=>by rw[ADp _ _ _ _ (AAM hc)];exact AAH _ v
 refine AAE ?_;show wpAny (model prog w) A.in1 (if (Value.ref b != Value.ref a)=true then do
  let r <-holding [Value.ref s.heap.objs.size] (Builtin.Frozenset.updateFrom (toString "frozenset." ++ toString "__or__") s.heap.objs.size (Value.ref b))
  pure (Value.ref s.heap.objs.size)
  else pure (Value.ref s.heap.objs.size)) _ _ {s with heap:=(s.heap.push {cls:= .type "set",data:= .set #[] 0 (SetTable.fresh 0 0 !((model prog w).w.params.followText "set-order"))}).update s.heap.objs.size (Obj.putSet #[(hashInt i, .int i e)] f)}
 generalize (s.heap.push {cls:= .type "set",data:= .set #[] 0 (SetTable.fresh 0 0 !((model prog w).w.params.followText "set-order"))}).update s.heap.objs.size (Obj.putSet #[(hashInt i, .int i e)] f)=H1 at *;rw[AAD (by simp;exact λz=>C z.symm)];refine AAA (AAd ?_);unfold Builtin.Frozenset.updateFrom Builtin.Frozenset.isAnySet
 wp_walk using ABp F.sub_set_set
 have K:(u.place.size != #[(hashInt j,Value.int j x)].size||decide (u.fill>u.mask))=false:=by unfold SetTable.fill;rw[hu.m,hu.d,hu.p];rfl
 rw[AAC (by rw[K];decide)];refine AAE (AAE (ZI I J (B y) g hu λh' L M=> ?_));refine AAE (AAE ⟨(λz=>nomatch z),q h' M λc o hc v=> ?_⟩);rw[L.2 c (AAM hc)];exact l c o hc v
end
def Tt (p:ke)(k:Int)(h:Wf):Prop:=∃a n t,h.get? p=some (Pj (hashInt k) (.int k a) n t)/\T1 t
def gg {P:fm}{w:fe}{H:Hp}{h:Wf}{p:ke}{k:Int}(x:Tt p k h):B0 P w H h p (.ext (Tt p k)):=by obtain⟨a,n,t,e,y⟩:=id x;refine⟨x,⟨_,e⟩,λh1 h2 z q=> ?_⟩;obtain⟨a,n,t,e,y⟩:=z;exact⟨a,n,t,q _ e,y⟩
def qi:km V->Hp->VK->Prop:=λxs H Q=>∃a o k v,xs= [.ref a] /\H a=some (.frz o (.dK [(.inl k,v)]))/\∀p,H p=none->Q (.ref p) (upd H p (.ext (Tt p k)))
def uv:R2:=λx y H Q=>∃a b i j,x= .ref a/\y= .ref b/\a≠b/\H a=some (.ext (Tt a i))/\H b=some (.ext (Tt b j))/\∀p,H p=none->Q (.ref p) (upd H p (.set (λk=>decide (k=i)||decide (k=j)) (if i=j then 1 else 2)))
def qg:km V->Hp->VK->Prop:=λxs H Q=>∃a S n,xs= [.ref a] /\H a=some (.set S n)/\Q (.int n) H
section
variable {X:Cx}
def pA {P:fm}{w:fe}{H:Hp}{h:Wf}{a:ke}{o:Obj}{k:Int}{v:V}(x:B0 P w H h a (.frz o (.dK [(.inl k,v)]))):h.get? a=some o/\o.cls= .type "dict" /\(a==sysModules)=false/\∃r u ep,o.data= .dict #[⟨hashInt k, .int k r,u⟩] ep:=by
 obtain⟨g,z,hs,vs,d,E,es,ep,j,ex,hd,s,l,F⟩:=x;rw[g] at j;cases j;refine⟨g,ex.1,hs, ?_⟩;cases d with
 | cons q d=>
   rename_i p vs;cases d;obtain⟨c,u⟩:=p;have y:Sum.inl k=c:=q.1;subst y;generalize m:es.toList=L at l;cases l with
   | cons h1 h2 h3=>
     rename_i b _;cases h3;have A:b∈es:=by rw[<-Array.mem_toList_iff,m];simp
     obtain⟨B,C,n⟩:=s b A;have D:Sum.inl k=B:=(BJ P w).inj _ _ _ h1 C;subst D;rcases Bh (k:=Sum.inl k) (v:=b.key) h1 with⟨i,t,e,f⟩|⟨x,t,e,f⟩
     .cases e;refine⟨t,b.val,ep, ?_⟩;rw[hd];have:es= #[b] :=by apply Array.toList_inj.mp;rw[m]
      rw[this];obtain⟨G,I,J⟩:=b;simp only at f n;rw[f,n];rfl
     .cases e
def P3:Cg X (.type "set") qi:=by intro m s p H xs w Q I r h;obtain⟨a,o,k,v,rfl,e,q⟩:=h;obtain⟨u,rfl,d⟩:=vals1 r;cases d;obtain⟨f,hc,hs,g,u,ep,hd⟩:=pA (I.hok a _ e);refine TQ f hc hd hs λh' t n i j tp l c sz=> ?_;have keep:∀b o,s.heap.get? b=some o->h'.get? b=some o:=λb o e=>c b o (AAG e) e;exact⟨.ref _,_,I.laid (a:=s.heap.objs.size) (t':=s.toks) keep (AAJ _) (gg ⟨g,n,t,l,⟨i,j,tp⟩⟩),rfl,q _ (I.hok.fresh (AAJ _))⟩
def mE:D9 X (binaryOp .BitOr) uv:=by intro p s r H x y v u Q I d f h;obtain⟨a,b,i,j,rfl,rfl,g,ha,hb,q⟩:=h;cases d;cases f;obtain⟨⟨t,w,z,l,y1⟩,_,_⟩:=I.hok a _ ha;obtain⟨⟨A,B,C,m,y2⟩,_,_⟩:=I.hok b _ hb;refine hX l m g y1 y2 λh' n c=> ?_;have keep:∀b o,s.heap.get? b=some o->h'.get? b=some o:=λb o e=>c b o (AAG e) e;exact⟨.ref _,_,I.laid (a:=s.heap.objs.size) (o:= .set (λk=>decide (k=i)||decide (k=j)) (if i=j then 1 else 2)) (t':=s.toks) keep (AAJ _) n,rfl,q _ (I.hok.fresh (AAJ _))⟩
def Ym:Cg X (.builtin "len") qg:=by intro i s j H xs k Q I r h;obtain⟨a,S,n,rfl,e,q⟩:=h;obtain⟨u,rfl,b⟩:=vals1 r;cases b;obtain⟨o,es,ep,t,c,hx,hd,_,_,d,f,g⟩:=I.hok a _ e;refine call_len_set c hx hd f (by rw[show scanBound=4096 from rfl] at d;omega) ?_;rw[g];exact⟨.int n,H,I.tok _,⟨_,rfl⟩,q⟩
end
end L2
namespace PL
open PySem PySem.Spec PyProof.Rows L2
def unN (i j:Int):Nat:=if i=j then 1 else 2
def o7 (a b:AE):AE:=λτ Q=>a τ λx=>match x with | .dk [(i,_)] =>b τ λy=>(match y with | .dk [(j,_)] =>Q (.int (unN i j))|_=>False)|_=>False
section
variable {X:Cx}
def nJ {a b:kc}{C D:AE}{p n r c d s pos:Pos}(L:Gl X "len")(M:X.mg "len" =none)(E:Gl X "set")(F:X.mg "set" =none)(ha:SE X a C)(hb:SE X b D)(G:starEach [.BinOp (.Call (.Name "set" n) [a] [] c) .BitOr (.Call (.Name "set" r) [b] [] d) s] X.env=(false,eval (.BinOp (.Call (.Name "set" n) [a] [] c) .BitOr (.Call (.Name "set" r) [b] [] d) s) X.env)::starEach [] X.env:=by rfl)(h1:starEach [a] X.env=(false,eval a X.env)::starEach [] X.env:=by rfl)(h2:starEach [b] X.env=(false,eval b X.env)::starEach [] X.env:=by rfl):SE X (.Call (.Name "len" p) [.BinOp (.Call (.Name "set" n) [a] [] c) .BitOr (.Call (.Name "set" r) [b] [] d) s] [] pos) (o7 C D):=by
 obtain⟨t,N,O⟩:=ha;obtain⟨t',u,P⟩:=hb;refine⟨_,HM Ym L M ABN (Bx (B3 mE (Ew P3 E F AEy (Bx N ED h1) (he:=h1)) (Ew P3 E F AEy (Bx u ED h2) (he:=h2))) ED G) (he:=G),λB T I τ H Q AQ f h k=> ?_⟩;refine O B T I τ H _ _ f h λv x T1 H1 g R c=> ?_;split at c <;> first | exact c.elim|skip
 rename_i i _;cases R;rename_i S o1 U W d1 Y;refine⟨S,_,i,_,rfl,Y,λp hp=> ?_⟩;have l1:=DK.lay (o:= .ext (Tt p i)) (f.stp g).tp hp;have Z:¬T1 p:=λz=>by obtain⟨o,e,_⟩:=((f.stp g).tp p z).mut;rw[hp] at e;cases e
 refine P B T1 I τ _ _ _ ((f.stp g).stp l1) c λv2 y T2 H2 m r2 d=> ?_;split at d <;> first | exact d.elim|skip
 rename_i j _;cases r2;rename_i a2 o2 es2 ep2 d2 e2;refine⟨a2,_,j,_,rfl,e2,λw A=> ?_⟩;have l:H2 p=some (.ext (Tt p i)):=m.keep _ _ Z Ab;have J:p≠w:=λz=>by subst z;rw[l] at A;cases A
 have K:=DK.lay (o:= .ext (Tt w j)) (((f.stp g).stp l1).stp m).tp A;refine⟨p,w,i,j,rfl,rfl,J,by rw[Af J];exact l,Ab,λp3 uT=> ?_⟩;have l3:=DK.lay (o:= .set (λk=>decide (k=i)||decide (k=j)) (if i=j then 1 else 2)) ((((f.stp g).stp l1).stp m).stp K).tp uT;refine⟨p3,_,_,rfl,Ab, ?_⟩;exact k _ _ T2 _ ((((g.trans l1).trans m).trans K).trans l3) (.int _) d
end
end PL
namespace L2
open PySem PySem.Spec PyProof.Rows
structure Q2 (K:AAB) (x qual:Str) (st:Stmt) (f:Addr) (fd:FuncData) (d:Int):Prop where
 ex:∃(oc:Value) (od:Option Addr) (kV doc pm:Value) (an:Option Addr) (cdv ct:Value) (osl:Array (Option Value)) (t:Addr),
  fd=PySem.W.fnOf x qual (EI st) (CO st) (A0 st) (.ref t) kV doc pm an cdv ct/\K.lookup f=some ⟨oc,od, .func fd,osl⟩/\PySem.W.codeIn K cdv qual=true/\∃o tk n,K.lookup t=some o/\o.data= .seq #[.int d tk] n
 kp:PySem.W.keepIn K (.ref f)=true
section
variable {P:fm}{w:fe}{K:AAB}{mg:Str->kd kj}{base:Wf}
def Q2.ok {x qual:Str}{st:Stmt}{f:ke}{c:FuncData}{d:Int}{N b:km Str}{k:Nat}{sp:Sp}(F:Q2 K x qual st f c d)(S:DZ N b (A0 st))(len:∀vs H Q E,sp vs H Q E->vs.length=b.length)(e:∀(a:kj) (A:Tb) (outer:km Env) (s:ki) (H:Hp) (vs:km V) (Q:VK) (E:XK),Room k (A.deeper (envOfC qual (A0 st) s.heap.objs.size f a))->sp vs H Q E-> ∃t,TJ (PJ NE P w K mg base N qual (A0 st) f a A outer s H E).nox (CO st) t/\t {nx:=λ_ g=>Q .non g,rt:=Q} (start N vs) H):D8 P w K mg base NE (k+1) f c b sp:=by obtain⟨p,r,kV,i,u,v,a,ct,j,t,rfl,l,m,_⟩:=F.ex;refine jM l m S len λA outer s H vs Q E n o=> ?_;obtain⟨t,h,q⟩:=e a A outer s H vs Q E n o;exact⟨t,h.nox,q⟩
end
end L2
namespace PL
open PySem PySem.Spec PyProof.Rows L2
section
variable {P:fm}{w:fe}{K:AAB}{mg:Str->kd kj}{base:Wf}
def bL {x qual:Str}{st:Stmt}{f:ke}{j:FuncData}{d:Int}{N c:km Str}{k n:Nat}{b:AS}(F:Q2 K x qual st f j d)(S:DZ N c (A0 st))(l:n=c.length)(m:∀(a:kj) (A:Tb) (outer:km Env) (s:ki) (H:Hp) (E:XK),Room k (A.deeper (envOfC qual (A0 st) s.heap.objs.size f a))-> Ye (PJ NE P w K mg base N qual (A0 st) f a A outer s H E).nox (CO st) b):D8 P w K mg base NE (k+1) f j c (CS K n (As N.length b)):=by
 refine F.ok S (λvs H Q E h=> ?_) (λa A outer s H vs Q E o h=> ?_)
 .obtain ⟨T,M,xs,u,_,_,r,hl,_⟩:=h;rw[r.length,hl,l]
 .obtain ⟨T,M,xs,u,va,e,r,hl,hF,hQ⟩:=h;obtain⟨t,p,y⟩:=m a A outer s H E o;refine⟨t,p,y ⟨T,H,M⟩ T _ _ H _ _ (Uo va e r) hF ⟨λg i σ' τ' _ z q=> ?_,λ_ _ _ _ _ _ q=>q.elim,λ_ _ _ _ _ _ q=>q.elim,λv x g i B C q=>hQ v x g i B C q⟩⟩;exact hQ _ _ g i z.st .non q
end
end PL
namespace L2
open PySem PySem.Spec PyProof.Rows
section
variable {X:Cx}
def mU:V->km V->Hp->VK->Prop:=λx vs H Q=>∃(l:ke) (ss:km Str) (s:Str) (j:Nat),x= .ref l/\vs= [.str s] /\H l=some (.lst (ss.map V.str))/\ss.length<=1000/\ss[j]? =some s/\(∀i,i<j->ss[i]? ≠some s)/\Q (.int j) H
theorem QY:∀{ss:km Str} {b:km kj},Ax (ss.map V.str) b->∃a:km Tok,b=List.zipWith (λs t=>Value.str s t) ss a/\a.length=ss.length
 | [],_, .nil=>⟨[],rfl,rfl⟩
 | s::ss,_, .cons ⟨t,e⟩ r=>by obtain⟨a,c,l⟩:=QY r;exact⟨t::a,by rw[e,c];rfl,by simp[l]⟩
def cV:jE X "list.index" mU:=by
 intro G s J H x vs v K Q I o rv h;obtain⟨l,ss,y,j,rfl,rfl,p,hl,hj,A,q⟩:=h;cases o;obtain⟨u,rfl,t,rfl⟩:=rv.one;obtain⟨z,B,n,r,L,e⟩:=I.lstM p;obtain⟨d,rfl,C⟩:=QY r;have k:j<ss.length:=(AAq.mp hj).1;have sz:(List.zipWith (λs t=>Value.str s t) ss d).toArray.size=ss.length:=by simp[C]
 have it:∀i (hi:i<(List.zipWith (λs t=>Value.str s t) ss d).toArray.size),∃t,(List.zipWith (λs t=>Value.str s t) ss d).toArray[i] =Value.str (ss[i]'(by rw[sz] at hi;exact hi)) t:=λi hi=>⟨d[i]'(by rw[sz] at hi;omega),by simp⟩;have f:∀a b:Str,(a.cps.toList==b.cps.toList)=(a==b):=λa b=>PySem.SeqAt.str_beq a b;refine ABg F.slot_list_index ⟨_,e,rfl⟩ F.entry_list_index (F.args_list_index_2 _ _)
  (MeetsSeq.list_index l _ n (.str y t) (λw=>match w with | .str a _=>a.cps.toList==y.cps.toList|_=>false) (λw hw=> ?_) j (by rw[sz];exact k) (by omega) ?_ (λm g D=> ?_)) ⟨e,⟨.int j,H, ?_,⟨_,rfl⟩,q⟩⟩
 .obtain ⟨i,hi,rfl⟩:=Array.getElem_of_mem hw;obtain⟨t',c⟩:=it i hi;rw[c];exact PySem.SeqRoads2.EqGives.str _ _ _ _
 .obtain ⟨t',c⟩:=it j (by rw[sz];exact k);rw[c];have:ss[j] =y:=(AAq.mp hj).2;show (ss[j].cps.toList==y.cps.toList)=true;rw[this];exact beq_self_eq_true _
 .obtain ⟨t',c⟩:=it m g;rw[c];have ml:m<ss.length:=by rw[sz] at g;exact g
  have E:ss[m] ≠y:=λz=>A m D (by rw[AAh ml,z]);show (ss[m].cps.toList==y.cps.toList)=false;rw[f];exact ACL.mpr E
 .exact I.tok _
end
end L2
namespace PL
open PySem PySem.Spec PyProof.Rows L2
def kH (r a:AA):AE:=λτ Q=>r τ λxs=>xs.length<=1000/\a τ λys=>∃(ss:km Str) (s:Str) (j:Nat),xs=ss.map PV.str/\ys= [.str s] /\ss[j]? =some s/\(∀i,i<j->ss[i]? ≠some s)/\Q (.int j)
theorem QM {K:AAB}{T M:ke->Prop}{H:Hp}:∀{ss:km Str} {vs:km V},BB K T M H vs (ss.map PV.str)->vs=ss.map V.str
 | [],_, .nil=>rfl
 | s::ss,_, .cons r t=>by cases r;rw[QM t];rfl
section
variable {X:Cx}
def nG {es:km kc}{e:kc}{r i:AA}{pos apos a:Pos}(hl:SA X es r)(ha:SA X [e] i)(u:attributeBase (.List es pos) "index" X.env (eval (.List es pos) X.env)=eval (.List es pos) X.env:=by rfl)(v:((backTo a (starEach [e] X.env)).all (λx=> !x.1)&&(backToKw a (keywordEach [] X.env)).all (λx=>x.1.isSome) && decide ([e].length+([] :km Keyword).length+(if ([] :km Keyword).isEmpty then 0 else 1)<30))=true:=by rfl)(w:(apos.endLine==a.line)=true:=by rfl)(hs:starEach [e] X.env=(false,eval e X.env)::starEach [] X.env:=by rfl)(A:(backTo a (starEach [] X.env)).any (·.1)=false:=by rfl):SE X (.Call (.Attribute (.List es pos) "index" apos) [e] [] a) (kH r i):=by
 obtain⟨t,p,s⟩:=hl;obtain⟨R,C,D⟩:=ha;refine⟨_,je F.plainAttrs_list F.slot_list_index F.type_list_index cV (WG p) C u v w hs A,λB T l τ H Q S m q k=> ?_⟩;refine s B T l τ H _ _ m q λvs xs T1 H1 c n ⟨l1,E⟩=> ?_;have b:=m.stp c;have G:vs.length=xs.length:=n.length;refine⟨by rw[G];exact AAa l1 (AAj rfl),λd hd=> ?_⟩;have I:¬T1 d:=λz=>by obtain⟨o,e,_⟩:=(b.tp d z).mut;rw[hd] at e;cases e
 have f:DK T1 H1 T1 (upd H1 d (.lst vs)):=DK.lay b.tp hd;refine⟨.inl ⟨rfl,vs, .inl (.of Ab)⟩, ?_⟩;refine D B T1 l τ _ _ _ (b.stp f) E λJ ys K L h i ⟨ss,y,j,ex,M,g,N,O⟩=> ?_;subst ex M;have ev:=QM n;have P:J= [.str y] :=by
  cases i with
  | cons r t=>cases r;cases t;rfl
 refine⟨d,ss,y,j,rfl,P, ?_,by simpa using l1,g,N, ?_⟩
 .rw [<-ev];exact h.keep _ _ I Ab
 .exact k _ _ K L (c.trans (f.trans h)) (.int _) O
end
end PL
namespace PySem
open Sem (wp)
open Builtin
def K8:fillsNumberSlot (.type "tuple") "mul" =pure false:=
 fillsNumberSlot_seq (id:="tuple.__mul__") (r:=some (.builtin "tuple.__rmul__")) ADr.lookup (by decide +kernel) F.slot_tuple_rmul.lookup (by decide +kernel)
def Ru:seqRepeat? (.type "tuple")=pure (some (.builtin "tuple.__mul__")):=by unfold seqRepeat?;rw[seqSlot_of (T:="tuple") (name:="__mul__") (id:="tuple.__mul__") ADr.lookup (by decide +kernel),seqSlot_of (T:="tuple") (name:="__rmul__") (id:="tuple.__rmul__") F.slot_tuple_rmul.lookup (by decide +kernel)];rfl
def GO (a:Int)(t:Tok)(l:ke)(items:Array kj)(n:Nat)(b:kd ke)(sl:Array (kd kj)):Meets (Builtin.«int.__rmul__» ⟨[.int a t, .ref l], []⟩) (λ_ R s=>s.heap.get? l=some {cls:= .type "tuple",dict:=b,data:= .seq items n,slots:=sl}/\R (.ok (.ret Value.notImplemented)) s):=
 .of_wp λprog w A R s h=>by obtain⟨hp,g,d,c,os⟩:=s;obtain⟨hl,h⟩:=h;wp_walk;exact⟨_,rfl,h⟩
def Gu (l:ke)(items:Array kj)(n:Nat)(a:kd ke)(sl:Array (kd kj))(u:Tok):Meets (Builtin.«tuple.__mul__» ⟨[.ref l, .int 1 u], []⟩) (λ_ R s=>s.heap.get? l=some {cls:= .type "tuple",dict:=a,data:= .seq items n,slots:=sl}/\R (.ok (.ret (.ref l))) s):=
 .of_wp λprog w A R s h=>by obtain⟨hp,g,d,b,os⟩:=s;obtain⟨hl,h⟩:=h;wp_walk;exact⟨_,rfl,h⟩
def Gv (l:ke)(items:Array kj)(n:Nat)(f:kd ke)(sl:Array (kd kj))(k:Int)(u:Tok)(h1:2<=k)(h2:k<1000)(e:items.isEmpty=false)(hs:items.size<=1000):Meets (Builtin.«tuple.__mul__» ⟨[.ref l, .int k u], []⟩) (λ_ R s=>s.heap.get? l=some {cls:= .type "tuple",dict:=f,data:= .seq items n,slots:=sl}/\R (.ok (.ret (Value.ref s.heap.objs.size))) {s with heap:=s.heap.push {cls:=Value.type "tuple",data:=Data.seq ((List.replicate k.toNat items).foldl (· ++ ·) #[])},toks:=s.toks}):=
 .of_wp λprog w A R s h=>by
   obtain⟨hp,g,d,v,os⟩:=s;obtain⟨hl,h⟩:=h;have i:(decide (k < -2^63)||decide (k ≥ 2^63))=false:=by rw[AAS (by omega),AAS (by omega)];rfl
   have j:(items.isEmpty||k==1)=false:=by rw[e];simp;omega
   have o:(decide (k<=0)||items.isEmpty)=false:=by rw[e,AAS (by omega)];rfl
   have m:(items.size:Int)*k<=1000*1000:=Int.mul_le_mul (by omega) (by omega) (by omega) (by omega);have p:1000000<=sizeLine:=AAj rfl;have fs:∀(m:Nat) (a:Array kj),((List.replicate m items).foldl (λb c=>b++c) a).size=a.size+m*items.size:=λm=>by
    induction m with
    | zero=>intro a;simp
    | succ m ih=>intro a;rw[ABo,AAz,ih,Array.size_append,ADO];omega
   have r:¬((List.replicate k.toNat items).foldl (λb c=>b++c) #[]).size>sizeLine:=by rw[fs];have:k.toNat*items.size<=1000*1000:=ADs (by omega) hs;show ¬0+k.toNat*items.size>sizeLine;omega
   have x:¬Tuple.tupleTooMany ((items.size:Int)*k)=true:=by show ¬decide ((items.size:Int)*k>(sizeLine:Int))=true;rw[AAS (by omega)];exact AAO
   have t:¬(items.size:Int)*k>(2^63-1)/8:=by omega
   wp_walk
   refine AC5 (by rw[i];rfl) ?_
   wp_walk
   refine AC5 (by rw[j];rfl) ?_
   wp_walk
   refine AC5 (by rw[o];rfl) ?_;refine AC5 (AAS t) ?_
   wp_walk
   refine AC5 (AAS r) ?_
   wp_walk
   exact⟨_,rfl,h⟩
end PySem
namespace L2
open PySem PySem.Spec PyProof.Rows
section
variable {X:Cx}
def dO (K:AAB):R2:=λx y H Q=>∃(l:ke) (k:Int) (xs:km V),x= .ref l/\y= .int k/\KJ K H l xs/\xs≠ [] /\xs.length<=1000/\1<=k/\k<1000/\(k=1->Q (.ref l) H)/\(k≠1->∀p,H p=none->Q (.ref p) (upd H p (.tup (List.replicate k.toNat xs).flatten)))
def hV:D9 X (binaryOp .Mult) (dO X.K):=by
 intro R s S H x y v u Q I j m h;obtain⟨l,k,xs,rfl,rfl,hq,p,hl,W,B,C,D⟩:=h;cases j;obtain⟨t,rfl⟩:=m;obtain⟨f,r,E,_⟩:=I.tuple hq;obtain⟨⟨cls,g,G,sl⟩,e,c,n,d⟩:=E;cases c;cases d;have J:f≠ [] :=λz=>p (r.nil_iff.mp z);have L:f.length<=1000:=by rw[<-r.length];exact hl
 have go:∀{i:kj->ki->Prop},wpAny (model X.prog X.w) X.A (call (.builtin "tuple.__mul__") [.ref l, .int k t]) i X.xe s->wpAny (model X.prog X.w) X.A (binaryOp .Mult (.ref l) (.int k t)) i X.xe s:=λh=>
  wpAny_binaryOp_repeat_ref (T:="tuple") (U:="int") (by decide) ⟨_,e,rfl⟩ (λM=>ACs M k t) K8 F.fills_int_mul ADP Ru F.slot_int_index.lookup
   (ABg ADP (ACs s k t) F.entry_int_rmul (F.args_int_rmul_2 _ _) (GO k t l f.toArray n g sl) ⟨e,rfl,⟨_,e,rfl⟩,h⟩)
 refine go ?_;by_cases h1:k=1
 .subst h1;exact ABg ADr ⟨_,e,rfl⟩ F.entry_tuple_mul (F.args_tuple_mul_2 _ _) (Gu l f.toArray n g sl t) ⟨e,⟨.ref l,H,I,rfl,C rfl⟩⟩
 .refine ABg ADr ⟨_,e,rfl⟩ F.entry_tuple_mul (F.args_tuple_mul_2 _ _) (Gv l f.toArray n g sl k t (by omega) B (by cases f with | nil=>exact absurd rfl J|cons a b=>rfl) (by rw[AAN];exact L)) ⟨e, ?_⟩;have f0:=foldl_rep f k.toNat [];rw[AA0] at f0;rw[show (List.foldl (λN O=>N++O) #[] (List.replicate k.toNat f.toArray))=(List.replicate k.toNat f).flatten.toArray from f0];have P:1000000<=sizeLine:=AAj rfl;have lz:(List.replicate k.toNat xs).flatten.length<=sizeLine:=by rw[Xn];have:k.toNat*xs.length<=1000*1000:=ADs (by omega) hl;omega
  exact⟨.ref s.heap.objs.size,_,I.laid (t':=s.toks) (o:= .tup (List.replicate k.toNat xs).flatten) (λb Y q=>AAH _ q) (AAJ _) ⟨lz,_,r.rep k.toNat,IsTup.new _ _⟩,rfl,D h1 _ (I.hok.fresh (AAJ _))⟩
end
end L2
namespace PL
open PySem PySem.Spec PyProof.Rows L2
def Nb:IV:=λx y Q=>match x,y with
 | .int i, .int j=>MulOk i j/\Q (.int (i*j))
 | .lst xs, .int k=>(0<=k/\k<1000/\xs.length<=1000)/\Q (.lst (List.replicate k.toNat xs).flatten)
 | .tup xs, .int k=>(1<=k/\k<1000/\xs.length<=1000/\xs≠ [])/\Q (.tup (List.replicate k.toNat xs).flatten)
 | _,_=>False
theorem BB.rep {K:AAB}{T M:ke->Prop}{H:Hp}{vs:km V}{xs:km PV}(h:BB K T M H vs xs):∀k:Nat,BB K T M H (List.replicate k vs).flatten (List.replicate k xs).flatten
 | 0=> .nil
 | k+1=>by rw[ABo,ABo,ACU,ACU];exact h.append (BB.rep h k)
section
variable {X:Cx}
def YI:D9 X (binaryOp .Mult) (λx y H Q=>(rI MulOk (λi j=> .int (i*j)) x y H Q\/mX x y H Q)\/dO X.K x y H Q)/\CC X.K (λx y H Q=>(rI MulOk (λi j=> .int (i*j)) x y H Q\/mX x y H Q)\/dO X.K x y H Q) Nb:=by
 refine⟨(Me.or mH).or hV,λT M H u v x y Q w va c rv h k=> ?_⟩;unfold Nb at h;split at h <;> first | exact h.elim|skip
 .cases c;cases rv;exact .inl (.inl ⟨_,_,rfl,rfl,h.1,k _ _ T H (.refl va.tp) (.int _) h.2⟩)
 .rename_i xs b;cases rv;obtain⟨⟨h1,h2,h3⟩,d⟩:=h;cases c with
  | lst hq t m r=>
    rename_i a vs;have g:=r.length;refine .inl (.inr ⟨a,b,vs,rfl,rfl,hq,by omega,by omega, ?_,λp hp=> ?_⟩)
    .have l:1000000<=sizeLine:=AAj rfl;have m1:vs.length<=1000:=by omega
     have m2:b.toNat<=1000:=by omega
     have:=ADs m1 m2;omega
    .have st:=DK.lay (o:= .lst (List.replicate b.toNat vs).flatten) va.tp hp;have n:¬T p:=λz=>by obtain⟨o,e,_⟩:=(va.tp p z).mut;rw[hp] at e;cases e
     have s:¬M p:=λz=>by obtain⟨o,e,_⟩:=va.mu p z;rw[hp] at e;cases e
     exact k _ _ T _ st (.lst Ab n s ((r.rep b.toNat).stp st va)) d
 .rename_i xs b;cases rv;obtain⟨⟨h1,h2,h3,d⟩,h5⟩:=h;have f:=c;cases c with
  | tup hq r=>
    rename_i a vs;have g:=r.length;refine .inr ⟨a,b,vs,rfl,rfl,hq.sq,λz=>d (r.nil_iff.mp z),by omega,h1,h2,λz=> ?_,λz p hp=> ?_⟩
    .subst z;exact k _ _ T H (.refl va.tp) f (by simpa using h5)
    .have st:=DK.lay (o:= .tup (List.replicate b.toNat vs).flatten) va.tp hp;exact k _ _ T _ st (.tup (.inl Ab) ((r.rep b.toNat).stp st va)) h5
end
end PL
namespace PySem
open Builtin
def UB:fillsInplaceSlot (.type "list") "add" (Operator.Add == .Add)=pure false:=by
 unfold fillsInplaceSlot
 kernel_rfl
def Pi:seqSlot? (.type "list") (dunderI "add")=pure (some (.builtin "list.__iadd__")):=seqSlot_of F.slot_list_iadd.lookup (by decide +kernel)
def MT {M:Model}{A:Tb}{E:kj->ki->Prop}{s:ki}{a b:kj}{Q:kj->ki->Prop}(ha:s.TypeIs a "list")(hb:s.TypeIs b "list")(hc:wpAny M A (call (.builtin "list.__iadd__") [a,b]) Q E s):wpAny M A (inplaceOp .Add a b) Q E s:=by unfold inplaceOp;refine AAd ?_;refine AAA (ACT ha (AAA (ABp UB ?_)));show wpAny M A (if false=true then _ else _) Q E s;rw[AAC AAO];refine AAA (wpAny_binaryOp1_none (nm:="add") ha hb noFill_list_add ?_);refine AAA (ABp Pi ?_);exact AAA (ABk hc)
end PySem
namespace L2
open PySem PySem.Spec PyProof.Rows
section
variable {X:Cx}
def pk:oA:=λx y H Q=>∃(l b:ke) (xs a:km V),x= .ref l/\y= .ref b/\H l=some (.lst xs)/\H b=some (.lst a)/\xs.length+a.length<=sizeLine/\Q (.ref l) (upd H l (.lst (xs++a)))
def lI:j7 X .Add pk:=by
 intro p s t H x y v u Q I g i h;obtain⟨l,b,xs,w,rfl,rfl,d,j,hz,q⟩:=h;cases g;cases i;obtain⟨z,c,n,r,hl,e⟩:=I.lstM d;obtain⟨A,a,k,m,B,f⟩:=I.lstM j;have hsz:c.toArray.size+a.toArray.size<=sizeLine:=by rw[AAN,AAN];omega
 have o:¬(!c.toArray.isEmpty&&Builtin.List.listTooLong (c.toArray.size+a.toArray.size))=true:=by rw[Nx hsz,Bool.and_false];exact AAO
 refine MT ⟨_,e,rfl⟩ ⟨_,f,rfl⟩ (ABg F.slot_list_iadd ⟨_,e,rfl⟩ F.entry_list_iadd (F.args_list_iadd_2 _ _)
  (AutoSeq1.list___iadd___list_list_0 l c.toArray n b a.toArray k o (by rw[AAN];omega) (by omega)) ⟨e,f, ?_⟩)
 refine⟨.ref l,_,I.lset (its':=c++a) d e (by simp) (r.append m) ?_,rfl,q⟩;rw[AAn];omega
end
end L2
namespace PL
open PySem PySem.Spec PyProof.Rows L2
def W7 (i:Nat)(a:AE):AS:=λD τ=>NR i τ λxs=>a τ λy=>match y with | .lst ys=>xs.length+ys.length<=sizeLine/\D.nx (τ.set i (some (.own (xs++ys))))|_=>False
theorem Ue {b:Type}:∀{l:km b} {i:Nat} {x:b},l[i]? =some x->l.set i x=l
 | [],_,_,h=>by simp at h
 | a::l,0,x,h=>by simp at h;simp[h]
 | a::l,i+1,x,h=>by rw[AEz] at h;rw[AER,Ue h]
section
variable {X:Cx}{e:kc}{ta:AE}{pos:Pos}
def ir {i:Nat}{x:Str}{pos':Pos}(hN:X.N.Nodup)(hi:X.N[i]? =some x)(hx:Loc X.env.scope x)(he:SE X e ta)(r:X.fn x=true\/X.env.scope.names.lookup x=some .local:=by first | exact .inl rfl|exact .inr rfl|assumption):SS X (.AugAssign (.Name x pos') .Add e pos) (W7 i ta):=by
 obtain⟨t,p,s⟩:=he;refine⟨_,dF hN hi hx p lI r,λB T l τ H D C c h er=> ?_⟩;obtain⟨xs,ex,h⟩:=W9 h;obtain⟨q,vs,f,hp,v,E,w,F⟩:=c.own i xs ex;refine⟨.ref q,f,s B T l τ H _ _ c h λu y T1 H1 d z h2=> ?_⟩;have g:=c.stp d;cases z <;> first | exact h2.elim|skip
 rename_i b A ys hq t' m n;have o:=d.keep _ _ w hp;have a:=v.stp d c.va;refine⟨q,b,vs,A,rfl,rfl,o,hq,by rw[a.length,n.length];exact h2.1, ?_⟩;show D.nx (List.set l i (some (V.ref q))) _;rw[Ue f];obtain⟨j,k⟩:=g.write (i:=i) (xs:=xs) ex f o (a.append n);exact er.nx T1 _ _ _ (d.prog.trans k) j h2.2
end
end PL
namespace L2
open PySem PySem.Spec PyProof.Rows
def Q2.bindsF3 {K:AAB}{x qual:Str}{st:Stmt}{f:ke}{l:FuncData}{d:Int}{a b c:Str}(F:Q2 K x qual st f l d)(h:∀(t:ke) (kV e i:kj) (j:kd ke) (g ct:kj) (u v y:kj),∃k:kd (Array kj)->Sem (km (Str×kj)),bindArgs (PySem.W.fnOf x qual (EI st) (CO st) (A0 st) (.ref t) kV e i j g ct) ⟨[u,v,y], []⟩=seqItems? (.ref t) >>= k/\∀z,k (some #[z])=pure [(a,u),(b,v),(c,y)]):Binds K l [a,b,c] [] :=by
 obtain⟨A,B,kV,e,i,j,g,ct,p,t,rfl,C,D,o,E,n,r,w⟩:=F.ex;refine λs m X hl=> ?_;have hl:m.length=3:=by simpa using hl
 match m,hl with
 | [u,v,y],_=> obtain⟨k,h1,h2⟩:=h t kV e i j g ct u v y;exact BindsTo.of_defaults (T:=t) rfl (X _ _ r) w h1 (h2 _)
end L2
namespace PL
open PySem PySem.Spec PyProof.Rows L2
section
variable {X:Cx}{a b c d e:kc}{ta tb tc td:AE}{pos:Pos}
def BZ (ha:SE X a ta)(h:starEach [a] X.env=(false,eval a X.env)::starEach [] X.env:=by rfl):SA X [a] (AB ta AL):=Ar ha HZ h
def Au (ha:SE X a ta)(hb:SE X b tb)(h:starEach [a,b] X.env=(false,eval a X.env)::starEach [b] X.env:=by rfl)(h2:starEach [b] X.env=(false,eval b X.env)::starEach [] X.env:=by rfl):SA X [a,b] (AB ta (AB tb AL)):=Ar ha (BZ hb h2) h
def EZ (ha:SE X a ta)(hb:SE X b tb)(hc:SE X c tc)(h:starEach [a,b,c] X.env=(false,eval a X.env)::starEach [b,c] X.env:=by rfl)(h2:starEach [b,c] X.env=(false,eval b X.env)::starEach [c] X.env:=by rfl)(h3:starEach [c] X.env=(false,eval c X.env)::starEach [] X.env:=by rfl):SA X [a,b,c] (AB ta (AB tb (AB tc AL))):=Ar ha (Au hb hc h2 h3) h
def AU (ha:SE X a ta)(hb:SE X b tb)(hs:MW b:=by exact λ_ _=>rfl):SE X (.Subscript a b pos) (AX Aj ta tb):=q5 rC ha hb hs
def D0 {op:CmpOp}{r:R2}{f:IV}(g:D9 X (compareOp op) r/\CC X.K r f)(ha:SE X a ta)(hb:SE X b tb)(h:behindInMarks op b=false:=by exact CP _):Sa X (.Compare a [op] [b] pos) (Al (AX f ta tb)):=We g ha hb h
def Cm (i:Nat){x:Str}{pos':Pos}(hN:X.N.Nodup)(he:SE X e ta)(hi:X.N[i]? =some x:=by rfl)(hx:Loc X.env.scope x:=by exact Or.inl rfl)(hs:swapsWith e (some (.Name x pos')) pos.line X.env=pure false:=by rfl)(f:X.fn x=true\/X.env.scope.names.lookup x=some .local:=by first | exact .inl rfl|exact .inr rfl|assumption):SS X (.Assign [.Name x pos'] e pos) (Ak ta (An i)):=Eb hN hi hx he hs f
def FN (i:Nat){x:Str}(hN:X.N.Nodup)(hi:X.N[i]? =some x:=by rfl)(hx:Loc X.env.scope x:=by exact Or.inl rfl)(f:X.fn x=true\/X.env.scope.names.lookup x=some .local:=by first | exact .inl rfl|exact .inr rfl|assumption):SG X (.Name x pos) (An i):=R9 hN hi hx f
def GC (i:Nat){own:Nat}{x:Str}(hN:X.N.Nodup)(hi:X.N[i]? =some x:=by rfl)(hx:Loc X.env.scope x:=by exact Or.inl rfl)(hk:i<own:=by decide)(f:X.fn x=true\/X.env.scope.names.lookup x=some .local:=by first | exact .inl rfl|exact .inr rfl|assumption):SK own X (.Name x pos) (An i):=ii hN hi hx hk f
end
def map_pair {a b c:Type}{o:kd a}{f:a->b}{g:a->c}{x:b}{y:c}(h1:o.map f=some x)(h2:o.map g=some y):o.map (λs=>(f s,g s))=some (x,y):=by
 cases o with
 | none=>cases h1
 | some s=>cases h1;cases h2;rfl
def map5 {a A B C D E:Type}{o:kd a}{F:a->A×B×C×D×E}{X:A×B×C×D×E}(h1:o.map (λs=>(F s).1)=some X.1)(h2:o.map (λs=>(F s).2.1)=some X.2.1)(h3:o.map (λs=>(F s).2.2.1)=some X.2.2.1)(b:o.map (λs=>(F s).2.2.2.1)=some X.2.2.2.1)(h5:o.map (λs=>(F s).2.2.2.2)=some X.2.2.2.2):o.map F=some X:=by
 cases o with
 | none=>cases h1
 | some s=>exact congrArg some (ACB (AAV h1) (ACB (AAV h2) (ACB (AAV h3) (ACB (AAV b) (AAV h5)))))
def map_in {a b c:Type}{o:kd a}{t:a->kd b}{G:b->c}{X:c}(h:(o.bind t).map G=some X):o.map (λs=>(t s).map G)=some (some X):=by
 cases o with
 | none=>cases h
 | some s=>exact congrArg some h
def BS {P:fm}{w:fe}{K:AAB}{mg:Str->kd kj}{base:Wf}{k a:Nat}{x:Str}{b:km Str}{sp:Sp}(H:Has P w K mg base k x b sp)(h:k<=a:=by decide):Has P w K mg base a x b sp:=H.mono h
end PL
open PySem L2 PL PyProof.Rows
local macro_rules | `(tactic| decreasing_trivial_pre_omega)=> `(tactic| first | assumption|omega|((apply Bd.mono);(focus (repeat' (first | assumption|exact DA.m (by assumption)|exact DA.x (by assumption)|exact DA.y (by assumption)|exact DA.z (by assumption)|exact gH|exact oD|with_reducible apply Bd.add|with_reducible apply Bd.sub|with_reducible apply Bd.mul|with_reducible apply Bd.neg|with_reducible apply Bd.mx|with_reducible apply Bd.mn)));first | omega|decide)|decide|(simp only [List.length_map,List.length_append,List.length_cons,List.length_nil,List.length_take,List.length_drop,List.length_zip,List.length_reverse];omega)|(show _<=16777216;simp only [List.length_map,List.length_append,List.length_cons,List.length_nil,List.length_take,List.length_drop,List.length_zip,List.length_reverse];omega)|(show _<16777216;simp only [List.length_map,List.length_append,List.length_cons,List.length_nil,List.length_take,List.length_drop,List.length_zip,List.length_reverse];omega)|(refine And.intro ?_ ?_ <;> decreasing_trivial_pre_omega)|exact rfl)
local macro_rules | `(tactic| array_mem_dec)=> `(tactic| first
 | refine Wp.go ?_
 | ((refine Pw.go ?_ ?_);focus (first | exact True.intro|decreasing_trivial_pre_omega))
 | ((with_reducible apply And.intro);focus decreasing_trivial_pre_omega)
 | ((with_reducible apply s_ifdT);focus decide)
 | ((with_reducible apply mq);focus decide)
 | ((with_reducible apply s_ifnT);focus decide)
 | ((with_reducible apply s_ifnF);focus decide)
 | refine tR.go (λ_=> ?_) (λ_=> ?_)
 | ((with_reducible apply my);focus assumption)
 | ((with_reducible apply jj);focus exact rfl)
 | ((with_reducible apply qw);(focus (first | exact .inl rfl|exact .inr (.inl rfl)|exact .inr (.inr (.inl rfl))|exact .inr (.inr (.inr rfl))));(focus exact rfl))
 | ((with_reducible apply qt);focus exact rfl)
 | ((with_reducible apply qr);focus exact rfl)
 | intro _
 | with_reducible rfl)
local macro_rules | `(tactic| array_get_dec)=> `(tactic| first | array_mem_dec|refine wW.go ?_|fail)
local macro_rules | `(tactic| ac_rfl)=> `(tactic| repeat' array_mem_dec)
namespace PL
open PySem L2 PyProof.Rows
def Dn (cs:km C4)(n:Rat):km C4:=cs.filter λc=>decide (c.1<n)
def Jf (cs:km C4)(n:Rat):km C4:=cs.filter λc=>decide (n<c.1)
def KI (f:km C4)(c:C4)(l:km C4)(x:Rat):km C4:=if f= [] then laterC x (c::l) else f ++ [c] ++ laterC x (c::l)
def YH (f:km C4)(c:C4)(l:km C4)(x:Rat):km C4:=f ++ [c] ++ l.map λd=>(c.1+(1+x)*(d.1-c.1),d.2)
def aJ:AS:=
 (Ao (Ev B5 (AB (FI (B2 (HC (aV 0)) 1 [] (An 0) EW (Ev B5 (AB (aV 0) AL)))) AL)))
def Jb:AF:=As 1 aJ
def Jc {cs:km C4}{v:PV}(hv:FT cs v)(hl:cs.length<=1000){Q:PV->Prop}(q:Q (Ay cs)):Jb [v] Q:=by
 obtain⟨f,a,hv⟩:=hv;have go:cs.length<sizeLine/\Cy (An 0) EW (Ev B5 (AB (aV 0) AL)) [none] (λxs=>Q (.tup xs)) (cs.map f) [] :=by
  refine⟨AAp hl (by decide), ?_⟩;refine Db f cor (λc=>c) (λ_=>True) (λc _ R b=> ?_) cs [] (λ_ _=>trivial) ?_
  .rcases a with rfl|rfl <;> exact b
  .rw [List.map_id',AA0];exact q
 rw[show cs.length=(cs.map f).length by simp] at go;rcases hv with rfl|rfl <;> exact go
def rE {cs:km C4}{B M:Nat}{m:Rat}(a:Bd M m)(b:Ef cs)(hb:∀c∈cs,DA B c):DA (M+6*B+10) (sp cs m):=by
 have t:KL (M+6*B+10) ((spotC cs m).getD (0,0,0)):=by
  cases e:spotC cs m with
  | none=> have z:Bd (M+6*B+10) (0:Rat):=Bd.mono (m:=2) ⟨by decide,by decide⟩ (by omega);exact⟨z,z,z⟩
  | some t=>exact KL.spotC a b hb t e
 exact⟨a.mono (by omega),t.x,t.y,t.z⟩
abbrev W0:AS:=
 (Ao (Az (AB (aV 0) (AB (aC (.int 1)) AL))))
def Hi:AF:=As 1 W0
def Zk {a:PV}{Q:PV->Prop}(h:W0 ⟨λ_=>Q .non,Q,λ_=>False,λ_=>False⟩ [some (.val a)]):Hi [a] Q:=h
instance{k:Int}{Q:PV->Prop}:Wp (Hi [.int k] Q) (Q (fr (k:Rat))):=⟨λh=>by
 apply Zk;repeat' array_get_dec
 exact h⟩
abbrev S8:AS:=
 (AZ (Bb (kJ (aV 0)) (Ao (AX A4 (AX A4 (aV 0) (Az (AB (aV 1) AL))) (aV 4))) BE)
   (Ao (aV 4)))
abbrev S7:AS:=
 (AZ (Ak (AN 2 MV (AB (AX A4 (Az (AB (aV 1) AL)) (aV 2)) (AB (aV 3) AL))) (An 4))
   S8)
def HB:AF:=As 5 S7
def WR {a b c d:PV}{Q:PV->Prop}(h:S7 ⟨λ_=>Q .non,Q,λ_=>False,λ_=>False⟩ [some (.val a),some (.val b),some (.val c),some (.val d),none]):HB [a,b,c,d] Q:=h
def TH {f l:km C4}{c:C4}{x:Rat}{B m:Nat}(i:f.length<=100)(hl:l.length<=100)(a:DA B c)(b:∀d∈l,DA B d)(e:Bd m x)(g:B<=4000)(h:m<=4000){Q:PV->Prop}(q:Q (Ay (KI f c l x))):HB [Ay f,cor c,Ay l,fr x] Q:=by
 apply WR;repeat' array_get_dec
 refine U9 (cs:=c::l) (.self _) (by simp;omega) (B:=B) (m:=m) ?_ e g h ?_
 .intro d hd;rcases AAF.mp hd with rfl|hd
  .exact a
  .exact b d hd
 repeat' array_get_dec
 .rename_i uH;refine Mn |>.go (by simp[laterC];omega) ?_;rw[KI,AAC uH] at q;exact q
 .rename_i uH;rw[KI,AAD (by simpa using uH)] at q;exact q
abbrev S4:AS:=
 (AZ (Ak (FI (B2 (HC (aV 2)) 4 [5,4] (IJ 4 (AY (An 0) (AY (An 1) (AY (An 2) (AY (An 3) Bm))))) EW (Az (AB (AN 2 Ce (AB (aV 4) (AB (AN 2 FS (AB (aV 5) (AB (AN 2 DY (AB (aV 0) (AB (aV 4) AL))) AL))) AL))) (AB (aV 1) (AB (aV 2) (AB (aV 3) AL))))))) (An 6))
   (Ao (AX A4 (AX A4 (aV 0) (Az (AB (aV 1) AL))) (Ev B5 (AB (aV 6) AL)))))
abbrev S3:AS:=
 (AZ (Ak (AX Aj (aV 1) (aC (.int 0))) (An 5))
   S4)
abbrev S2:AS:=
 (AZ (Ak (AN 2 Ce (AB (AN 1 Hi (AB (aC (.int 1)) AL)) (AB (aV 3) AL))) (An 4))
   S3)
def G9:AF:=As 7 S2
def WP {a b c d:PV}{Q:PV->Prop}(h:S2 ⟨λ_=>Q .non,Q,λ_=>False,λ_=>False⟩ [some (.val a),some (.val b),some (.val c),some (.val d),none,none,none]):G9 [a,b,c,d] Q:=h
def TF {f l:km C4}{c:C4}{x:Rat}{B m:Nat}(e:f.length<=100)(hl:l.length<=100)(g:DA B c)(a:∀d∈l,DA B d)(h:Bd m x)(i:3*B+m+10<=4000){Q:PV->Prop}(q:Q (Ay (YH f c l x))):G9 [Ay f,cor c,Ay l,fr x] Q:=by
 apply WP;repeat' array_get_dec
 refine Db cor cor (λd=>(c.1+(1+x)*(d.1-c.1),d.2)) (DA B) (λd j R b=> ?_) l [] a ?_
 .have k:Bd 1 ((1:Int):Rat):=oD;repeat' array_get_dec
  exact b
 repeat' array_get_dec
 refine Mn (cs:=f ++ [c]) (ds:=l.map λd=>((c.1+(1+x)*(d.1-c.1),d.2):C4)) |>.go (by simp;omega) ?_;exact q
abbrev Sk:AS:=
 (AZ (Ak (Ev B5 (AB (FI (B2 (HC (aV 0)) 1 [2] (An 0) (Al (AN 2 Ai (AB (aV 1) (AB (AX Aj (aV 0) (aC (.int 0))) AL)))) (aV 0))) AL)) (An 4))
   (Ao (Az (AB (aV 3) (AB (AN 2 FR (AB (aV 0) (AB (aV 2) AL))) (AB (aV 4) AL))))))
abbrev Sj:AS:=
 (AZ (Ak (Ev B5 (AB (FI (B2 (HC (aV 0)) 1 [2] (An 0) (Al (AN 2 Ai (AB (AX Aj (aV 0) (aC (.int 0))) (AB (aV 1) AL)))) (aV 0))) AL)) (An 3))
   Sk)
abbrev Si:AS:=
 (AZ (Ak (AN 2 Cs (AB (aV 1) (AB (AX Aj (AX Aj (aV 0) (aC (.int 0))) (aC (.int 0))) AL))) (An 2))
   Sj)
def G6:AF:=As 5 Si
def WM {a b:PV}{Q:PV->Prop}(h:Si ⟨λ_=>Q .non,Q,λ_=>False,λ_=>False⟩ [some (.val a),some (.val b),none,none,none]):G6 [a,b] Q:=h
def TD {a l:C4}{r:km C4}{B M:Nat}{n:Rat}(hc:∀c∈a::r,DA B c)(f:Ef (a::r))(g:r≠ [])(h:(a::r).getLast?=some l)(hl:(a::r).length<=100)(i:Bd M n)(ha:Bd M a.1)(k:n<l.1)(m:M+6*B+10<=3000){Q:PV->Prop}(q:Q (.tup [Ay (Dn (a::r) (mx n a.1)),cor (sp (a::r) (mx n a.1)),Ay (Jf (a::r) (mx n a.1))])):G6 [Ay (a::r),fr n] Q:=by
 have o:r.length+1<=100:=hl;have d:=i.mx ha;have e:=Xq n a.1;have p:a.1<l.1:=by
  cases r with
  | nil=>exact absurd rfl g
  | cons b r=>exact(AAI.mp f).1 l (AAl (F6 h))
 have g1:mx n a.1<l.1:=by unfold mx;split <;> assumption
 apply WM;repeat' array_get_dec
 revert q d e g1
 generalize mx n a.1=b;intro q d e g1;refine EA cor cor (λc=>decide (c.1<b)) (DA B) (λc j R N h1 h2=> ?_) (a::r) [] hc ?_
 .repeat' array_get_dec
  .rename_i z;exact h1 (AAi z)
  .rename_i z;exact h2 (AAS z)
 repeat' array_get_dec
 refine EA cor cor (λc=>decide (b<c.1)) (DA B) (λc j R N h1 h2=> ?_) (a::r) [] hc ?_
 .repeat' array_get_dec
  .rename_i z;exact h1 (AAi z)
  .rename_i z;exact h2 (AAS z)
 repeat' array_get_dec
 refine NL (.self _) hc f (by simp) (by omega) d (by omega) (FF g h e (by grind)) ?_;repeat' array_get_dec
 exact q
abbrev M6:AS:=
 (AZ (Ak (FI (B2 (HC (aV 3)) 1 [4] (An 0) EW (AN 2 FS (AB (AN 1 Hi (AB (aV 0) AL)) (AB (aV 1) AL))))) (IJ 3 (AY (An 5) (AY (An 6) (AY (An 7) Bm)))))
   (Ao (AX A4 (AX A4 (AX A4 (aV 0) (Az (AB (aV 1) AL))) (AN 4 Hf (AB (Q4 (aV 2) Q5 (Q6 (MC E4 (aC (.int 1))))) (AB (aV 5) (AB (aV 6) (AB (aV 7) AL)))))) (Q4 (aV 2) (Q6 (MC E4 (aC (.int 1)))) Q5))))
abbrev LY:AS:=
 (AZ (Bb (Al (AX XU (Ev Gq (AB (aV 2) AL)) (aC (.int 2)))) (Ao (aC .non)) BE)
   M6)
def EM:AF:=As 8 LY
def Ph {a b c d e:PV}{Q:PV->Prop}(h:LY ⟨λ_=>Q .non,Q,λ_=>False,λ_=>False⟩ [some (.val a),some (.val b),some (.val c),some (.val d),some (.val e),none,none,none]):EM [a,b,c,d,e] Q:=h
def Fv:Str->kd (Rat×Rat×Rat)
 | w=>if w="east" then some (1,0,0) else if w="west" then some (-1,0,0) else if w="north" then some (0,1,0) else if w="south" then some (0, -1,0) else if w="up" then some (0,0,1) else if w="down" then some (0,0, -1) else none
def Ej (f:km C4)(c:C4)(l:km C4)(w:Rat×Rat×Rat)(x:Rat):kd (km C4):=if l.length<2 then none else some (f ++ [c] ++ offC (w.1*x) (w.2.1*x) (w.2.2*x) l.dropLast++l.drop (l.length-1))
def CI {f l:km C4}{c:C4}{x:Rat}{i j k:Int}{B m:Nat}(hi:i=0\/i=1\/i= -1)(hj:j=0\/j=1\/j= -1)(hk:k=0\/k=1\/k= -1)(o:f.length<=100)(hl:l.length<=100)(p:DA B c)(b:∀d∈l,DA B d)(a:Bd m x)(r:B+m+10<=3900){Q:PV->Prop}(q:Q (Jz (Ej f c l (i,j,k) x))):EM [Ay f,cor c,Ay l, .tup [.int i, .int j, .int k],fr x] Q:=by
 have bs:∀{i:Int},(i=0\/i=1\/i= -1)->Bd 1 (i:Rat):=λh=>by rcases h with rfl|rfl|rfl <;> exact⟨by decide,by decide⟩
 have e:=bs hi;have g:=bs hj;have bk:=bs hk;apply Ph;repeat' array_get_dec
 .rename_i z;rw[Ej,AAD (by omega)] at q;exact q
 .rename_i z;rw[Ej,AAC (by omega)] at q;have n:∀d∈l.dropLast,DA B d:=λd hd=>b d (ADt l hd);repeat' array_get_dec
  refine Q0 (.self _) (by simp;omega) (m:=m+1) n ((e.mul a).mono (by omega)) ((g.mul a).mono (by omega)) ((bk.mul a).mono (by omega)) (by omega) (by omega) ?_;repeat' array_get_dec
  refine Mn |>.go (by simp[offC];omega) ?_;repeat' array_get_dec
  refine Mn |>.go (by simp[offC];omega) ?_;exact q
abbrev S1:AS:=
 (AZ (Bb (Al (AX JO (aV 4) (aC (.str "slow")))) (Ao (AN 4 G9 (AB (aV 6) (AB (aV 7) (AB (aV 8) (AB (aV 5) AL)))))) BE)
   (Ao (AN 5 EM (AB (aV 6) (AB (aV 7) (AB (aV 8) (AB (kI Ep (aV 4)) (AB (aV 5) AL))))))))
abbrev Sz:AS:=
 (AZ (Bb (Al (AX JO (aV 4) (aC (.str "wait")))) (Ao (AN 4 HB (AB (aV 6) (AB (aV 7) (AB (aV 8) (AB (aV 5) AL)))))) BE)
   S1)
abbrev Sy:AS:=
 (AZ (Ak (AN 2 G6 (AB (aV 3) (AB (aV 2) AL))) (IJ 3 (AY (An 6) (AY (An 7) (AY (An 8) Bm)))))
   Sz)
abbrev Sx:AS:=
 (AZ (Bb (F2 (Al (AX JO (AX Aj (aV 5) (aC (.int 0))) (aC (.int 0)))) (Dj (Al (AN 2 Ai (AB (aV 2) (AB (AX Aj (AX Aj (aV 3) (MC E4 (aC (.int 1)))) (aC (.int 0))) AL)))))) (Ao (aV 3)) BE)
   Sy)
abbrev La:AS:=
 (AZ (Ak (AN 1 Jb (AB (aV 0) AL)) (An 3))
   Sx)
abbrev aI:AS:=
 (AZ (Ak (aV 1) (IJ 2 (AY (An 4) (AY (An 5) Bm))))
   La)
def E1:AF:=As 9 aI
def QQ {v w:PV}{n x:Rat}{a:Str}{Q:PV->Prop}(hw:w= .tup [.str a,fr x] \/w= .lst [.str a,fr x])(h:La ⟨λ_=>Q .non,Q,λ_=>False,λ_=>False⟩ [some (.val v),some (.val w),some (.val (fr n)),none,some (.val (.str a)),some (.val (fr x)),none,none,none]):E1 [v,w,fr n] Q:=by
 rcases hw with rfl|rfl
 .exact ⟨rfl,h⟩
 .exact ⟨rfl,h⟩
def Ug {cs:km C4}{v w:PV}{n x:Rat}{l:C4}{a:Str}{M m B:Nat}(hv:FT cs v)(hw:w= .tup [.str a,fr x] \/w= .lst [.str a,fr x])(hl:cs.length<=1000)(d:cs.getLast?=some l)(e:Bd M n)(f:Bd B l.1)(g:M<=4000)(h:B<=4000)(hs:x=0\/¬n<l.1){Q:PV->Prop}(q:Q (Ay cs)):E1 [v,w,fr n] Q:=by
 refine QQ hw ?_;all_goals
  repeat' array_get_dec
  refine Jc hv hl ?_;repeat' array_get_dec
  .exact q
  .exact q
  .rename_i b c;rcases hs with hs|hs
   .subst hs;exact absurd rfl b
   .exact absurd c hs
def gw {x:Rat}(h:x≠0):¬x.num=0:=λz=>h (Rat.num_eq_zero.mp z)
def FG (cs:km C4)(n:Rat):km C4:=Dn cs n ++ [sp cs n] ++ Jf cs n
def aT.open {n B:Nat}{cs:km C4}(p:aT n B cs):∃a r l,cs=a::r/\r≠ [] /\(a::r).getLast?=some l/\a.1<l.1:=by
 obtain⟨two,c,d,b⟩:=p;match cs,two,b with
 | a::b0::r,_,b=>exact⟨a,b0::r,_,rfl,by simp,ABT (by simp),(AAI.mp b).1 _ (AAl (F6 (ABT (by simp))))⟩
abbrev M7:AS:=
 (Ao (Az (AB (MC E4 (AX Aj (aV 0) (aC (.int 0)))) (AB (AX Aj (aV 0) (aC (.int 1))) AL))))
def Ez:AF:=As 1 M7
def Rz {a:PV}{Q:PV->Prop}(h:M7 ⟨λ_=>Q .non,Q,λ_=>False,λ_=>False⟩ [some (.val a)]):Ez [a] Q:=h
def jy (b:T3)(v:PV):Prop:=v=d8 b\/v= .lst [fr b.1,fr b.2.1,fr b.2.2]
def oY (cs:km C4)(b:T3)(v:PV):Prop:=∃p w,FT cs p/\jy b w/\(v= .tup [p,w] \/v= .lst [p,w])
def ln (r:Rat):PV.tup [.int (-r.num), .int r.den] =fr (-r):=by unfold fr;rw[Rat.neg_num,Rat.neg_den]
def lq {r:Rat}{Q:PV->Prop}(q:Q (fr (-r))):Ez [fr r] Q:=by
 apply Rz;repeat' array_get_dec
 rw[ln];exact q
def c0 {x:PV}{c:C4}{R:PV->Prop}(hx:x=cor c\/x=corL c)(h:R (fr c.1)):Aj x (.int 0) R:=by rcases hx with rfl|rfl <;> exact h
def f0 {cs:km C4}{b:T3}{v:PV}{R:PV->Prop}(hv:oY cs b v)(h:∀p,FT cs p->R p):Aj v (.int 0) R:=by obtain⟨p,w,hp,hw,hv⟩:=hv;rcases hv with rfl|rfl <;> exact h p hp
def f1 {cs:km C4}{b:T3}{v:PV}{R:PV->Prop}(hv:oY cs b v)(h:∀w,jy b w->R w):Aj v (.int 1) R:=by obtain⟨p,w,hp,hw,hv⟩:=hv;rcases hv with rfl|rfl <;> exact h w hw
def b2 {b:T3}{w:PV}{R:PV->Prop}(hw:jy b w)(h:R (fr b.2.2)):Aj w (.int 2) R:=by rcases hw with rfl|rfl <;> exact h
def Xo {k n:Nat}(h:k<=n)(a:n<1000000):k<sizeLine:=AAp h (AAW a (AAj rfl))
abbrev tq (cs:km C4)(b:T3):PV:= .tup [Ay cs, .tup [fr b.1,fr b.2.1,fr b.2.2]]
abbrev GD:AS:=
 (AZ (Ak (FI (Dz (AB (Az (AB (aC (.int 1)) (AB (aC (.int 1)) AL))) (AB (Az (AB (aC (.int 2)) (AB (aC (.int 1)) AL))) (AB (Az (AB (aC (.int 3)) (AB (aC (.int 2)) AL))) (AB (Az (AB (aC (.int 1)) (AB (aC (.int 3)) AL))) (AB (Az (AB (aC (.int 5)) (AB (aC (.int 1)) AL))) AL))))))) (An 1))
   (Ao (Az (AB (AX Aj (aV 1) (AN 2 BA (AB (aV 0) (AB (aC (.int 5)) AL)))) (AB (AX Aj (aV 1) (AN 2 BA (AB (aV 0) (AB (aC (.int 5)) AL)))) AL)))))
def Qy:AF:=As 2 GD
def gi {xs:km PV}{k:Int}{R:PV->Prop}(a:0<=k)(h1:k<xs.length)(h:∀x∈xs,R x):Aj (.lst xs) (.int k) R:=by show aD (KM xs k) R;have hk:xs[k.toNat]? =some (xs[k.toNat]'(by omega)):=AAh (by omega);have e:=Ei hk;rw[show ((k.toNat:Nat):Int)=k by omega] at e;rw[e];exact h _ (ACX _)
def Vz {xs:km Rat}{k:Int}{R:PV->Prop}(a:0<=k)(h1:k<xs.length)(h:∀x∈xs,R (fr x)):Aj (.lst (xs.map fr)) (.int k) R:=by refine gi a (by simpa using h1) λx hx=> ?_;obtain⟨y,hy,rfl⟩:=AAZ.mp hx;exact h y hy
def sL {r:Rat}(h:r.num.natAbs<2^8:=by decide +kernel)(h2:r.den<2^8:=by decide +kernel):Bd 8 r:=⟨h,h2⟩
section
variable {τ:BL}
instance{i:Nat}{xs:km PV}{P:km PV->Prop}[h:fq τ i (.own xs)] :Wp (NR i τ P) (P xs):=⟨λk=>by unfold NR;rw[h.e];exact k⟩
end
def absR (r:Rat):Rat:=if r<0 then -r else r
def Bd.absR {n:Nat}{r:Rat}(h:Bd n r):Bd n (absR r):=by unfold PL.absR;split;exact h.neg;exact h
def cY (p q:T3)(d:Rat×Rat):T3:=((p.1-q.1)/d.1,(p.2.1-q.2.1)/d.1,(p.2.2-q.2.2)/d.2)
def t5 (o:T3):Rat:=mx (mx (mx 0 (absR o.1)) (absR o.2.1)) (absR o.2.2)
def eO (a l b c:C4)(m:Rat):Prop:=(¬m<a.1/\¬m<b.1)/\m<l.1/\m<c.1
instance {a l b c:C4}{m:Rat}:Decidable (eO a l b c m):=by unfold eO;infer_instance
abbrev Kk:AS:=
 (AZ (Ak (AX RF (AX A4 (aV 2) (aV 3)) (aC (.int 2))) (An 4))
   (Bb (Al (AN 2 Ai (AB (AX Aj (aV 0) (aV 4)) (AB (aV 1) AL)))) (Ak (AX A4 (aV 4) (aC (.int 1))) (An 2)) (Ak (aV 4) (An 3))))
abbrev Kq:AS:=
 (AZ (Kv (Al (AX XU (aV 2) (aV 3))) Kk)
   (Ao (aV 2)))
abbrev Ko:AS:=
 (AZ (Ak (Ev Gq (AB (aV 0) AL)) (An 3))
   Kq)
abbrev IS:AS:=
 (AZ (Ak (aC (.int 0)) (An 2))
   Ko)
def DT:AF:=As 5 IS
def MR {a b:PV}{Q:PV->Prop}(h:IS ⟨λ_=>Q .non,Q,λ_=>False,λ_=>False⟩ [some (.val a),some (.val b),none,none,none]):DT [a,b] Q:=h
abbrev LZ:AS:=
 (AZ (Ak (fz (AN 2 DT (AB (aV 1) (AB (aV 2) AL)))) (An 3))
   (Bb (W8 (F2 (Al (AX JO (aV 3) (Ev Gq (AB (aV 1) AL)))) (Al (AX Vc (AX Aj (aV 1) (aV 3)) (aV 2))))) (EN 1 gm (AB (aV 3) (AB (aV 2) AL))) BE))
abbrev Sw:AS:=
 (AZ (E3 (HC (aV 0)) (An 2) LZ)
   (Ao (aV 1)))
abbrev Sv:AS:=
 (AZ (Je (Dz AL) 1)
   Sw)
def G8:AF:=As 4 Sv
def WO {a:PV}{Q:PV->Prop}(h:Sv ⟨λ_=>Q .non,Q,λ_=>False,λ_=>False⟩ [some (.val a),none,none,none]):G8 [a] Q:=h
abbrev Sn:AS:=
 (AZ (VI 3 pC (af (aV 1) (aV 4) (aV 5)))
   (EN 2 Ir (AB (Az (AB (aV 4) (AB (aV 5) (AB (aV 3) AL)))) AL)))
abbrev Su:AS:=
 (AZ (E3 (HC (AN 1 G8 (AB (FI (B2 (HC (FI (VJ (AB (aV 1) AL)))) 2 [] (IJ 2 (AY (An 0) (AY (An 1) Bm))) EW (aV 0))) AL))) (An 4) (E3 (HC (Az (AB (aC (.int 0)) (AB (aC (.int 1)) AL)))) (An 5) (Bb (Al (gA (aV 4) (aV 5) (aV 1))) Sn BE)))
   (Ao (aV 2)))
abbrev Ss:AS:=
 (AZ (Ak (aC (.int 0)) (An 3))
   Su)
abbrev So:AS:=
 (AZ (Je (Dz AL) 2)
   Ss)
abbrev Sm:AS:=
 (AZ (Ak (AN 1 Hh (AB (aV 0) AL)) (An 1))
   So)
def G7:AF:=As 6 Sm
def WN {a:PV}{Q:PV->Prop}(h:Sm ⟨λ_=>Q .non,Q,λ_=>False,λ_=>False⟩ [some (.val a),none,none,none,none,none]):G7 [a] Q:=h
abbrev Qf:AS:=
 (AZ (EN 2 Ir (AB (Az (AB (AX Aj (aV 3) (aC (.int 0))) (AB (AX Aj (aV 3) (aC (.int 1))) (AB (aV 4) AL)))) AL))
   (Ak (aC .non) (An 3)))
abbrev GF:AS:=
 (AZ (Bb (Al (AX HF (aV 3) (aC .non))) (EN 2 Ir (AB (Az (AB (AX Aj (aV 3) (aC (.int 0))) (AB (AX Aj (aV 3) (aC (.int 1))) (AB (aC .non) AL)))) AL)) BE)
   (Ao (Ev B5 (AB (aV 2) AL))))
abbrev Qi:AS:=
 (AZ (E3 (HC (AN 1 G7 (AB (aV 0) AL))) (IJ 3 (AY (An 4) (AY (An 5) (AY (An 6) Bm)))) (Bb (Gi (Al (AX HE (aV 3) (aC .non))) (Al (AX wZ (aV 6) (aV 1)))) (Ak (Az (AB (aV 4) (AB (AX IK (aC (.int 1)) (aV 5)) AL))) (An 3)) (Bb (Gi (Al (AX HF (aV 3) (aC .non))) (Al (AX XU (aV 6) (aV 1)))) Qf BE)))
   GF)
abbrev Qg:AS:=
 (AZ (Ak (aC .non) (An 3))
   Qi)
abbrev Pn:AS:=
 (AZ (Je (Dz AL) 2)
   Qg)
def Es:AF:=As 7 Pn
def UW {a b:PV}{Q:PV->Prop}(h:Pn ⟨λ_=>Q .non,Q,λ_=>False,λ_=>False⟩ [some (.val a),some (.val b),none,none,none,none,none]):Es [a,b] Q:=h
abbrev NC:AS:=
 (Ao (AN 2 Es (AB (aV 0) (AB (aC (.int 1)) AL))))
def E2:AF:=As 1 NC
def R3 {a:PV}{Q:PV->Prop}(h:NC ⟨λ_=>Q .non,Q,λ_=>False,λ_=>False⟩ [some (.val a)]):E2 [a] Q:=h
def ins:km Rat->Rat->km Rat
 | [],x=> [x]
 | q::r,x=>if q<x then q::ins r x else if q=x then q::r else x::q::r
abbrev W6 (qs:km Rat):Prop:=qs.Pairwise (· < ·)
theorem Re {x y:Rat}:∀{qs:km Rat},y∈ins qs x↔y=x\/y∈qs
 | [] =>by simp[ins]
 | q::r=>by
   unfold ins;split
   .rw [AAF,Re,AAF];grind
   .split
    .rename_i h;subst h;simp
    .simp
theorem YJ {x:Rat}:∀{qs:km Rat},W6 qs->W6 (ins qs x)
 | [],_=>by simp[ins]
 | q::r,h=>by
   obtain⟨h1,h2⟩:=AAI.mp h;unfold ins;split
   .rename_i hq;refine AAI.mpr ⟨λy hy=> ?_,YJ h2⟩;rcases Re.mp hy with rfl|hy
    .exact hq
    .exact h1 y hy
   .split
    .exact h
    .refine AAI.mpr ⟨λy hy=> ?_,h⟩;rcases AAF.mp hy with rfl|hy
     .grind
     .have:=h1 y hy;grind
theorem Xi {x:Rat}:∀{qs:km Rat},(ins qs x).length<=qs.length+1
 | [] =>by simp[ins]
 | q::r=>by
   have:=Xi (x:=x) (qs:=r);unfold ins;split
   .simp;omega
   .split <;> simp
structure At (qs:List Rat) (x:Rat) (k:Nat):Prop where
 le:k<=qs.length
 lo:∀q∈qs.take k,q<x
 hi:∀q∈qs.drop k,¬q<x
theorem aj:∀{qs:km Rat} {x:Rat} {k:Nat},W6 qs->At qs x k->ins qs x=if qs[k]? =some x then qs else qs.take k++x::qs.drop k
 | [],x,k,_,h=>by have:=h.le;simp at this;subst this;simp[ins]
 | q::r,x,0,_,h=>by
   have:=h.hi q (by simp);unfold ins;rw[AAC this];by_cases e:q=x
   .rw [AAD e,AAD (by simp[e])]
   .rw [AAC e,AAC (by simp[e])];rfl
 | q::r,x,k+1,hs,h=>by have hq:=h.lo q (by simp);have ih:=aj (qs:=r) (x:=x) (k:=k) (AAI.mp hs).2 ⟨by have:=h.le;simp at this;exact this,λy hy=>h.lo y (by simp[hy]),λy hy=>h.hi y (by simpa using hy)⟩;unfold ins;rw[AAD hq,ih];simp only[AEz,AEL,List.drop_succ_cons];split <;> rfl
theorem SQ:∀{a b:km Rat},W6 a->W6 b->(∀x,x∈a↔x∈b)->a=b
 | [], [],_,_,_=>rfl
 | [],y::b,_,_,h=>by have:=(h y).mpr (by simp);simp at this
 | x::a, [],_,_,h=>by have:=(h x).mp (by simp);simp at this
 | x::a,y::b,ha,hb,h=>by
   obtain⟨f,i⟩:=AAI.mp ha;obtain⟨g,b2⟩:=AAI.mp hb;have c:x=y:=by
    rcases AAF.mp ((h x).mp (by simp)) with e|e
    .exact e
    .rcases AAF.mp ((h y).mpr (by simp)) with d|d
     .exact d.symm
     .have:=g x e;have:=f y d;grind
   subst c;congr 1;refine SQ i b2 λz=>⟨λhz=> ?_,λhz=> ?_⟩
   .rcases AAF.mp ((h z).mp (by simp[hz])) with e|e
    .subst e;have:=f z hz;grind
    .exact e
   .rcases AAF.mp ((h z).mpr (by simp[hz])) with e|e
    .subst e;have:=g z hz;grind
    .exact e
def Dw (xs:km Rat):km Rat:=xs.foldl ins []
theorem Mj:∀(xs qs:km Rat),W6 qs->W6 (xs.foldl ins qs)/\(∀y,y∈xs.foldl ins qs↔y∈xs\/y∈qs)/\(xs.foldl ins qs).length<=qs.length+xs.length
 | [],qs,h=>⟨h,by simp,by simp⟩
 | x::xs,qs,h=>by
   obtain⟨h1,h2,h3⟩:=Mj xs (ins qs x) (YJ h);refine⟨h1,λy=> ?_, ?_⟩
   .rw [AAz,h2,Re,AAF];grind
   .have:=Xi (x:=x) (qs:=qs);rw[AAz,AAc];omega
def CY {xs:km Rat}:W6 (Dw xs):=(Mj xs [] .nil).1
def CV {xs:km Rat}{y:Rat}:y∈Dw xs↔y∈xs:=by rw[Dw,(Mj xs [] .nil).2.1];simp
def J3 {xs:km Rat}:(Dw xs).length<=xs.length:=by have:=(Mj xs [] .nil).2.2;unfold Dw;simpa using this
def dc {a b:km Rat}(h:∀x,x∈a↔x∈b):Dw a=Dw b:=SQ CY CY λx=>by rw[CV,CV,h]
theorem YN:∀{qs:km Rat} {m:Nat} {c x:Rat},W6 qs->qs[m]? =some c->c<x->∀q∈qs.take (m+1),q<x
 | [],m,c,x,_,e,_=>by simp at e
 | a::r,0,c,x,_,e,h=>by simp at e;subst e;simp[h]
 | a::r,m+1,c,x,hs,e,h=>by
   obtain⟨h1,h2⟩:=AAI.mp hs;have b:r[m]? =some c:=by simpa using e
   intro q hq;rw[AEL] at hq;rcases AAF.mp hq with rfl|hq
   .have:=h1 c (ACQ b);grind
   .exact YN h2 b h q hq
theorem XS:∀{qs:km Rat} {m:Nat} {c x:Rat},W6 qs->qs[m]? =some c->¬c<x->∀q∈qs.drop m,¬q<x
 | [],m,c,x,_,e,_=>by simp at e
 | a::r,0,c,x,hs,e,h=>by
   simp at e;subst e;intro q hq;rcases AAF.mp hq with rfl|hq
   .exact h
   .have:=(AAI.mp hs).1 q hq;grind
 | a::r,m+1,c,x,hs,e,h=>by intro q hq;exact XS (AAI.mp hs).2 (by simpa using e) h q (by simpa using hq)
def aw {qs:km Rat}{x:Rat}{B M:Nat}(hs:W6 qs)(hl:qs.length<=1000000)(hq:∀q∈qs,Bd B q)(hx:Bd M x)(o:B<=4000)(p:M<=4000){Q:PV->Prop}(q:∀k:Nat,At qs x k->Q (.int k)):DT [.lst (qs.map fr),fr x] Q:=by
 apply MR;repeat' array_get_dec
 refine rW (λn τ=>∃(lo hi:Nat) (z:kd AV),hi-lo<n/\lo<=hi/\hi<=qs.length/\(∀q∈qs.take lo,q<x)/\(∀q∈qs.drop hi,¬q<x)/\τ= [some (.val (.lst (qs.map fr))),some (.val (fr x)),some (.val (.int lo)),some (.val (.int hi)),z]) ?_ ?_ (n:=qs.length+1) ⟨0,qs.length,none,by omega,by omega,by omega,by simp,by simp,rfl⟩
 .rintro n τ R d ⟨lo,hi,z,h1,h2,h3,f,h5,rfl⟩;have g:frz [some (.val (.lst (qs.map fr))),some (.val (fr x)),some (.val (.int lo)),some (.val (.int hi)),z] = [some (.val (.lst (qs.map fr))),some (.val (fr x)),some (.val (.int lo)),some (.val (.int hi)),gK z] :=rfl;rw[g];repeat' array_get_dec
  .rename_i i;refine⟨⟨by decide,by decide⟩, ?_⟩;have j:((lo:Int)+hi).fdiv 2=((lo+hi)/2:Nat):=by rw[AB1 _ (by decide)];omega
   rw[j];have m1:(lo+hi)/2<hi:=by omega
   have m2:lo<=(lo+hi)/2:=by omega
   generalize (lo+hi)/2=m at *;repeat' array_get_dec
   rename_i c l hc;have a:qs[m]? =some c:=l;have r:=hq c hc;repeat' array_get_dec
   .rename_i b;refine d _ ⟨m+1,hi,_,by omega,by omega,h3,YN hs a b,h5,rfl⟩
   .rename_i b;refine d _ ⟨lo,m,_,by omega,m2,by omega,f,XS hs a b,rfl⟩
  .rename_i i;have e:lo=hi:=by omega
   subst e;exact q lo ⟨by omega,f,h5⟩
 .rintro τ ⟨lo,hi,z,h,_⟩;omega
def Zh {v:PV}{xs:km Rat}{B:Nat}(hv:v= .lst (xs.map fr)\/v= .tup (xs.map fr))(hl:xs.length<=1000)(hx:∀x∈xs,Bd B x)(n:B<=4000){Q:PV->Prop}(q:Q (.lst ((Dw xs).map fr))):G8 [v] Q:=by
 apply WO;have key:∀{b f:kd AV},EO (An 2) LZ ⟨Ao (aV 1) ⟨λ_=>Q .non,Q,λ_=>False,λ_=>False⟩,Q,λ_=>False,λ_=>False⟩ (xs.map fr) [some (.val v),some (.own []),b,f] :=by
  intro b f;refine Dd fr (λa vs τ=>∃b f,τ= [some (.val v),some (.own ((Dw a).map fr)),b,f]) ?_ ?_ ⟨_,_,rfl⟩
  .rintro τ ⟨b,f,rfl⟩;repeat' array_get_dec
   exact q
  .rintro a c vs e τ R o ⟨b,f,rfl⟩;have ul:a.length<=1000:=by have:=congrArg List.length e;simp at this;omega
   have s:=J3 (xs:=a);have p:∀y∈Dw a,Bd B y:=λy hy=>hx y (by rw[<-e];simp[CV.mp hy]);have r:Bd B c:=hx c (by rw[<-e];simp);have g:∀(m:km Rat) b f,m=ins (Dw a) c->R [some (.val v),some (.own (m.map fr)),b,f] :=λm b f h=>o _ ⟨b,f,by rw[h,show Dw (a ++ [c])=ins (Dw a) c by unfold Dw;rw[ACg];rfl]⟩;repeat' array_get_dec
   refine aw CY (by omega) p r n n λk hk=> ?_;have t:=hk.le;have j:=aj CY hk;repeat' array_get_dec
   .rename_i h1;have l:(Dw a)[k]? =none:=List.getElem?_eq_none (by omega);rw[l,AAC (by simp)] at j;have:=g _ (some (.val (fr c))) (some (.val (.int k))) j.symm;rw[AAY,AAP,ADu,ACe] at this;exact this
   .rename_i h1 d l _ h2;have i:(Dw a)[k]? =some d:=l;rw[i,AAC (by simpa using h2)] at j;have:=g _ (some (.val (fr c))) (some (.val (.int k))) j.symm;rw[AAY,AAP,ADu,ACe] at this;exact this
   .rename_i h1 d l _ h2;have i:(Dw a)[k]? =some d:=l;rw[i,AAD (by rw[h2])] at j;exact g _ _ _ j.symm
 rcases hv with rfl|rfl;all_goals
  ac_rfl;exact key
abbrev Pl:=Rat×Int
abbrev BR:=Rat×Int×kd Rat
def bp (s:BR):Pl:=(s.1,1-s.2.1)
def ep (s:BR):kd Pl:=s.2.2.map λe=>(e,0)
def FW (p:Pl):FK:=((p.1.num,p.1.den),p.2)
def RW {p q:Pl}(h:FW p=FW q):p=q:=by obtain⟨a,i⟩:=p;obtain⟨b,j⟩:=q;unfold FW at h;simp only[AEd,Int.ofNat_inj] at h;obtain⟨⟨h1,h2⟩,h3⟩:=h;have:a=b:=Rat.ext h1 h2;rw[this,h3]
def Yw:kd Rat->PV|none=> .non|some e=>fr e
def BN (s:BR):PV:= .tup [fr s.1, .int s.2.1,Yw s.2.2]
def ql (s:BR):PV:= .lst [fr s.1, .int s.2.1,Yw s.2.2]
def mZ {s:BR}{x:PV}(h:x=BN s\/x=ql s):YC x=some ((s.1.num,(s.1.den:Int)),s.2.1,s.2.2.map λe=>(e.num,(e.den:Int))):=by obtain⟨b,i,e⟩:=s;rcases h with rfl|rfl <;> cases e <;> rfl
def eZ {m:km (FK×Int)}{k a:FK}{v:Int}:BU (Pf m k v) a=if a=k then some v else BU m a:=by
 unfold Pf;by_cases hk:(m.any λp=>decide (p.1=k))=true
 .rw [AAD hk];induction m with
  | nil=>simp at hk
  | cons p r ih=>
    by_cases e:p.1=k
    .by_cases b:a=k
     .subst b;simp[BU,e]
     .have:¬k=a:=λz=>b z.symm;by_cases d:(r.any λp=>decide (p.1=k))=true
      .have:=ih d;simpa[BU,e,b,this, ‹¬k=a›] using this
      .have f:r.map (λp=>if p.1=k then (p.1,v) else p)=r:=by
        conv=>rhs;rw[<-List.map_id r]
        apply AB2;intro q hq;have:¬q.1=k:=λz=>d (ABh.mpr ⟨q,hq,by simpa using z⟩);rw[AAC this];rfl
       simp only[AAP,e,ABP,f];simp[BU,e,b,this]
    .have d:(r.any λp=>decide (p.1=k))=true:=by simpa[e] using hk
     have:=ih d;by_cases c:p.1=a
     .have:¬a=k:=λz=>e (c.trans z);simp[BU,e,c,this]
     .simpa [BU,e,c] using this
 .rw [AAC hk];induction m with
  | nil=>
    by_cases b:a=k
    .subst b;simp[BU]
    .have:¬k=a:=λz=>b z.symm;simp[BU,b,this]
  | cons p r ih=>
    have e:¬p.1=k:=λz=>hk (by simp[z]);have d:¬(r.any λp=>decide (p.1=k))=true:=λz=>hk (by simp only[ABr,z,Bool.or_true]);have:=ih d;by_cases c:p.1=a
    .have:¬a=k:=λz=>e (c.trans z);simp[BU,c,this]
    .simpa [BU,c] using this
def gj {m:km (FK×Int)}{k a:FK}{v:Int}:a∈(Pf m k v).map (·.1)↔a=k\/a∈m.map (·.1):=by
 unfold Pf;split
 .rename_i hk;obtain⟨q,hq,e⟩:=ABh.mp hk;have e:q.1=k:=by simpa using e
  have:(m.map λp=>if p.1=k then (p.1,v) else p).map (·.1)=m.map (·.1):=by rw[ABq];apply AB2;intro p _;by_cases z:p.1=k <;> simp[z]
  rw[this];refine⟨.inr,λh=>h.elim (λz=> ?_) id⟩;rw[z,<-e];exact AAZ.mpr ⟨q,hq,rfl⟩
 .rw [AAY,AAL];simp only[AAP,ACt,AAR];exact Or.comm
def jB {m:km (FK×Int)}{k:FK}:(BU m k).isSome=true↔k∈m.map (·.1):=by
 unfold BU;rw[AC0,List.find?_isSome,AAZ];constructor
 .rintro ⟨p,hp,e⟩;exact⟨p,hp,by simpa using e⟩
 .rintro ⟨p,hp,e⟩;exact⟨p,hp,by simpa using e⟩
def Jy (s:BR)(p:Pl):Int:=(if bp s=p then 1 else 0)-(if ep s=some p then 1 else 0)
def cnt (ss:km BR)(p:Pl):Int:=(ss.map λs=>Jy s p).sum
def Js (ss:km BR)(p:Pl):Prop:=∃s∈ss,bp s=p\/ep s=some p
def K0 {m:km (FK×Int)}{k a:FK}{d:Int}:(BU (bump m k d) a).getD 0=(BU m a).getD 0+if a=k then d else 0:=by
 unfold bump;rw[eZ];by_cases e:a=k
 .subst e;simp
 .simp [e]
def Nr {m:km (FK×Int)}{k a:FK}{d:Int}:a∈(bump m k d).map (·.1)↔a=k\/a∈m.map (·.1):=gj
inductive Gh:List PV->List BR->Prop where
 | nil:Gh [] []
 | cons {x:PV} {s:BR} {xs:List PV} {ss:List BR} (h:x=BN s\/x=ql s) (t:Gh xs ss):Gh (x::xs) (s::ss)
def Gh.length:∀{xs:km PV} {ss:km BR},Gh xs ss->xs.length=ss.length
 | _,_, .nil=>rfl
 | _,_, .cons _ t=>by simp[t.length]
def QO (ss:km BR):Gh (ss.map BN) ss:=by
 induction ss with
 | nil=>exact .nil
 | cons s ss ih=>exact .cons (.inl rfl) ih
def Up {m:km (FK×Int)}{s:BR}:(∀p,(BU (Ga m (s.1.num,(s.1.den:Int)) s.2.1 (s.2.2.map λe=>(e.num,(e.den:Int)))) (FW p)).getD 0=(BU m (FW p)).getD 0+Jy s p)/\ ∀k,k∈(Ga m (s.1.num,(s.1.den:Int)) s.2.1 (s.2.2.map λe=>(e.num,(e.den:Int)))).map (·.1)↔k∈m.map (·.1)\/∃p,(bp s=p\/ep s=some p)/\k=FW p:=by
 obtain⟨b,h,e⟩:=s;have a:∀p:Pl,(FW p=((b.num,(b.den:Int)),1-h))↔bp (b,h,e)=p:=λp=>⟨λz=>(RW (p:=p) (q:=(b,1-h)) z).symm,λz=>by rw[<-z];rfl⟩;cases e with
 | none=>
   refine⟨λp=> ?_,λk=> ?_⟩
   .show (BU (bump m ((b.num,(b.den:Int)),1-h) 1) (FW p)).getD 0=_;rw[K0];simp only[a,Jy,ep];simp
   .show k∈(bump m ((b.num,(b.den:Int)),1-h) 1).map (·.1)↔_;rw[Nr];constructor
    .rintro (z|z)
     .exact .inr ⟨_, .inl rfl,z⟩
     .exact .inl z
    .rintro (z|⟨p,z|z,hk⟩)
     .exact .inr z
     .exact .inl (by rw[hk,<-z];rfl)
     .cases z
 | some e=>
   have c:∀p:Pl,(FW p=((e.num,(e.den:Int)),0))↔ep (b,h,some e)=some p:=λp=>⟨λz=>by rw[<-RW (p:=(e,0)) (q:=p) z.symm];rfl,λz=>by cases z;rfl⟩;refine⟨λp=> ?_,λk=> ?_⟩
   .show (BU (bump (bump m ((b.num,(b.den:Int)),1-h) 1) ((e.num,(e.den:Int)),0) (-1)) (FW p)).getD 0=_;rw[K0,K0];simp only[a,c,Jy];split <;> split <;> omega
   .show k∈(bump (bump m ((b.num,(b.den:Int)),1-h) 1) ((e.num,(e.den:Int)),0) (-1)).map (·.1)↔_;rw[Nr,Nr];constructor
    .rintro (z|z|z)
     .exact .inr ⟨(e,0), .inr rfl,z⟩
     .exact .inr ⟨_, .inl rfl,z⟩
     .exact .inl z
    .rintro (z|⟨p,z|z,hk⟩)
     .exact .inr (.inr z)
     .exact .inr (.inl (by rw[hk,<-z];rfl))
     .exact .inl (by rw[hk];exact(c p).mpr z)
theorem QX:∀{xs:km PV} {ss:km BR} (m0:km (FK×Int)),Gh xs ss->∃m,Ft xs m0=some m/\(∀p,(BU m (FW p)).getD 0=(BU m0 (FW p)).getD 0+cnt ss p)/\(∀k,k∈m.map (·.1)↔k∈m0.map (·.1)\/∃p,Js ss p/\k=FW p)/\m.length<=m0.length+2*ss.length
 | _,_,m0, .nil=>⟨m0,rfl,λp=>by simp[cnt],λk=>by simp[Js],by simp⟩
 | x::xs,s::ss,m0, .cons h t=>by
   obtain⟨m,h1,h2,h3,g⟩:=QX (Ga m0 (s.1.num,(s.1.den:Int)) s.2.1 (s.2.2.map λe=>(e.num,(e.den:Int)))) t;obtain⟨d,f⟩:=Up (m:=m0) (s:=s);refine⟨m, ?_,λp=> ?_,λk=> ?_, ?_⟩
   .unfold Ft;rw[mZ h];exact h1
   .rw [h2,d];simp[cnt];omega
   .rw [h3,f];constructor
    .rintro ((z|⟨p,z,e⟩)|⟨p,⟨c,a,z⟩,e⟩)
     .exact .inl z
     .exact .inr ⟨p,⟨s,by simp,z⟩,e⟩
     .exact .inr ⟨p,⟨c,by simp[a],z⟩,e⟩
    .rintro (z|⟨p,⟨c,a,z⟩,e⟩)
     .exact .inl (.inl z)
     .rcases AAF.mp a with rfl|a
      .exact .inl (.inr ⟨p,z,e⟩)
      .exact .inr ⟨p,⟨c,a,z⟩,e⟩
   .have:=Ll (m:=m0) (b:=(s.1.num,(s.1.den:Int))) (h:=s.2.1) (e:=s.2.2.map λe=>(e.num,(e.den:Int)));simp only[AAc];omega
def On (x p:Pl):gn:=decide (x.1<p.1)||(decide (x.1=p.1)&&decide (x.2<=p.2))
def Bk (s:BR)(p:Pl):gn:=(decide (s.1<p.1)||(decide (s.1=p.1)&&decide (0<s.2.1+p.2)))&&(match s.2.2 with | none=>true|some e=>decide (p.1<e))
structure CN (B:Nat) (s:BR):Prop where
 b:Bd B s.1
 h:s.2.1=0\/s.2.1=1
 e:∀e,s.2.2=some e->s.1<e/\Bd B e
def tm (s:BR)(p:Pl):Int:=(if On (bp s) p=true then 1 else 0)-(if (ep s).any (On · p)=true then 1 else 0)
def rO {B:Nat}{s:BR}{p:Pl}(ok:CN B s)(hp:0<=p.2):tm s p=if Bk s p=true then 1 else 0:=by
 obtain⟨b,h,e⟩:=s;obtain⟨q,i⟩:=p;have g:h=0\/h=1:=ok.h;have hp:0<=i:=hp;have d:On (bp (b,h,e)) (q,i)=(decide (b<q)||(decide (b=q)&&decide (0<h+i))):=by unfold On bp;congr 2;exact ADg.mpr (by show 1-h<=i↔0<h+i;omega)
 cases e with
 | none=> unfold tm Bk;rw[d];simp[ep]
 | some e=>
   have j:b<e:=(ok.e e rfl).1;have f:(ep (b,h,some e)).any (On · (q,i))= !decide (q<e):=by
    show On (e,0) (q,i)=_;unfold On;by_cases z:q<e
    .have a:¬e<q:=by grind
     have c:¬e=q:=by grind
     simp[z,a,c]
    .by_cases a:e<q
     .simp [z,a]
     .have c:e=q:=by grind
      simp[c,hp]
   unfold tm Bk;rw[d,f];by_cases z:q<e
   .simp [z]
   .have a:b<q:=by grind
    simp[z,a]
def Hn (ss:km BR)(p:Pl):Nat:=(ss.filter (Bk · p)).length
theorem Vr {B:Nat}{p:Pl}(hp:0<=p.2):∀{ss:km BR},(∀s∈ss,CN B s)->(Hn ss p:Int)=(ss.map λs=>tm s p).sum
 | [],_=>rfl
 | s::ss,h=>by
   have ih:=Vr hp (ss:=ss) λx hx=>h x (by simp[hx]);have e:=rO (p:=p) (h s (by simp)) hp;rw[AAP,ACx,<-ih,e];unfold Hn;rw[AAx];split
   .simp;omega
   .simp
def Mb (x p:Pl):Prop:=x.1<p.1\/(x.1=p.1/\x.2<p.2)
def K6 {a b c:Pl}(h:Mb a b)(h2:Mb b c):Mb a c:=by
 unfold Mb at *;rcases h with h|⟨h,h'⟩ <;> rcases h2 with h2|⟨h2,d⟩
 .left;grind
 .left;grind
 .left;grind
 .right;exact⟨by grind,by omega⟩
def HJ {x p:Pl}:On x p=true↔Mb x p\/x=p:=by
 obtain⟨a,i⟩:=x;obtain⟨b,j⟩:=p;unfold On Mb;simp only[AC6,AAo,ABZ,AEd];constructor
 .rintro (h|⟨h,h2⟩)
  .exact .inl (.inl h)
  .by_cases e:i=j
   .exact .inr ⟨h,e⟩
   .exact .inl (.inr ⟨h,by omega⟩)
 .rintro ((h|⟨h,h2⟩)|⟨h,h2⟩)
  .exact .inl h
  .exact .inr ⟨h,by omega⟩
  .exact .inr ⟨h,by omega⟩
def Mc {p:Pl}:¬Mb p p:=by
 unfold Mb;rintro(h|⟨_,h⟩)
 .grind
 .omega
def Tx (x:Pl):kd Pl->gn|none=>false|some p=>On x p
def i8 (s:BR)(o:kd Pl):Int:=(if Tx (bp s) o=true then 1 else 0)-(if (ep s).any (Tx · o)=true then 1 else 0)
def um:kd Pl->Pl->Prop|none,_=>True|some q,p=>Mb q p
def KF {x p:Pl}{o:kd Pl}(hx:Tx x o=true\/x=p\/Mb p x)(a:um o p):On x p=(Tx x o||decide (x=p))/\¬(Tx x o=true/\x=p):=by
 have h1:Tx x o=true->Mb x p:=λh=>by
  cases o with
  | none=>cases h
  | some q=>rcases HJ.mp h with h|h
            .exact K6 h a
            .rw [h];exact a
 refine⟨?_,λh=>by rw[h.2] at h1;exact Mc (h1 (h.2 ▸ h.1))⟩;rw[ABm,AC6,ABZ,HJ];constructor
 .rintro (h|h)
  .rcases hx with z|z|z
   .exact .inl z
   .exact .inr z
   .exact absurd (K6 h z) Mc
  .exact .inr h
 .rintro (h|h)
  .exact .inl (h1 h)
  .exact .inr h
def cE {A:gn}{E:Prop}[Decidable E](h:¬(A=true/\E)):(if (A||decide E)=true then (1:Int) else 0)=(if A=true then 1 else 0)+if E then 1 else 0:=by cases A <;> by_cases e:E <;> simp_all
def i9 {s:BR}{p:Pl}{o:kd Pl}(hb:Tx (bp s) o=true\/bp s=p\/Mb p (bp s))(he:∀x,ep s=some x->Tx x o=true\/x=p\/Mb p x)(a:um o p):tm s p=i8 s o+Jy s p:=by
 obtain⟨b,b2⟩:=KF hb a;unfold tm i8 Jy;rw[b,cE b2];cases e:ep s with
 | none=>simp
 | some x=>
   obtain⟨c,d⟩:=KF (he x e) a;have h1:(if (some x).any (On · p)=true then (1:Int) else 0)=(if Tx x o=true then 1 else 0)+if x=p then 1 else 0:=by show (if On x p=true then (1:Int) else 0)=_;rw[c,cE d]
   rw[h1];show _=(_-(if Tx x o=true then (1:Int) else 0))+(_-(if some x=some p then (1:Int) else 0));have h2:(if some x=some p then (1:Int) else 0)=if x=p then 1 else 0:=by by_cases z:x=p <;> simp[z]
   rw[h2];omega
def Yd (X:km Pl):Prop:=X.Pairwise Mb
def G3 (ss:km BR):Int->km Pl->Prop
 | _, [] =>True
 | c,p::r=>(Hn ss p:Int)=c+cnt ss p/\G3 ss (Hn ss p) r
theorem YM {a:Type}(f g:a->Int):∀xs:km a,(xs.map λx=>f x+g x).sum=(xs.map f).sum+(xs.map g).sum
 | [] =>rfl
 | x::xs=>by simp only[AAP,ACx,YM f g xs];omega
theorem NZ {B:Nat}{ss:km BR}(ok:∀s∈ss,CN B s):∀(X:km Pl) (o:kd Pl),Yd X->(∀p∈X,um o p/\0<=p.2)->(∀s∈ss,(Tx (bp s) o=true\/bp s∈X)/\∀x,ep s=some x->Tx x o=true\/x∈X)->G3 ss ((ss.map λs=>i8 s o).sum) X
 | [],_,_,_,_=>True.intro
 | p::r,o,hs,ho,hk=>by
   obtain⟨h1,h2⟩:=AAI.mp hs;obtain⟨op,a⟩:=ho p (by simp);have cls:∀x,(Tx x o=true\/x∈p::r)->Tx x o=true\/x=p\/Mb p x:=λx h=>by
    rcases h with h|h
    .exact .inl h
    .rcases AAF.mp h with h|h
     .exact .inr (.inl h)
     .exact .inr (.inr (h1 x h))
   have e:(Hn ss p:Int)=(ss.map λs=>i8 s o).sum+cnt ss p:=by rw[Vr a ok];unfold cnt;rw[<-YM];congr 1;apply AB2;intro s hs;exact i9 (cls _ (hk s hs).1) (λx ex=>cls x ((hk s hs).2 x ex)) op
   refine⟨e, ?_⟩;have:=NZ ok r (some p) h2 (λq hq=>⟨h1 q hq,(ho q (by simp[hq])).2⟩) (λs hs=>⟨?_,λx ex=> ?_⟩)
   .rw [show (ss.map λs=>i8 s (some p)).sum=(Hn ss p:Int) from(Vr a ok).symm] at this;exact this
   .rcases cls _ (hk s hs).1 with z|z|z
    .exact .inl (by rw[show Tx (bp s) (some p)=On (bp s) p from rfl,(KF (.inl z) op).1,z];rfl)
    .exact .inl (HJ.mpr (.inr z))
    .rcases (hk s hs).1 with y|y
     .exact .inl (by rw[show Tx (bp s) (some p)=On (bp s) p from rfl,(KF (.inl y) op).1,y];rfl)
     .rcases AAF.mp y with y|y
      .exact .inl (HJ.mpr (.inr y))
      .exact .inr y
   .rcases (hk s hs).2 x ex with y|y
    .exact .inl (by rw[show Tx x (some p)=On x p from rfl,(KF (.inl y) op).1,y];rfl)
    .rcases AAF.mp y with y|y
     .exact .inl (HJ.mpr (.inr y))
     .exact .inr y
def places (qs:km Rat):km Pl:=qs.flatMap λq=> [(q,0),(q,1)]
def Bw {qs:km Rat}{p:Pl}:p∈places qs↔p.1∈qs/\(p.2=0\/p.2=1):=by
 obtain⟨a,i⟩:=p;unfold places;simp only[ACF,AAF,AA1,AA2,AEd];constructor
 .rintro ⟨q,hq,⟨rfl,rfl⟩|⟨rfl,rfl⟩⟩
  .exact ⟨hq, .inl rfl⟩
  .exact ⟨hq, .inr rfl⟩
 .rintro ⟨h,h2⟩;exact⟨a,h,h2.elim (λz=> .inl ⟨rfl,z⟩) (λz=> .inr ⟨rfl,z⟩)⟩
theorem EH:∀{qs:km Rat},W6 qs->Yd (places qs)
 | [],_=>List.Pairwise.nil
 | q::r,h=>by
   obtain⟨h1,h2⟩:=AAI.mp h;have ih:=EH h2;have a:∀(i:Int),∀p∈places r,Mb (q,i) p:=λi p hp=> .inl (h1 _ (Bw.mp hp).1);show Yd ((q,0)::(q,1)::places r);refine AAI.mpr ⟨λp hp=> ?_,AAI.mpr ⟨a 1,ih⟩⟩;rcases AAF.mp hp with rfl|hp
   .exact .inr ⟨rfl,by show (0:Int)<1;decide⟩
   .exact a 0 p hp
def CM (ss:km BR):km Rat:=ss.flatMap λs=>s.1::s.2.2.toList
def C6 (ss:km BR):km Pl:=places (Dw (CM ss))
def Nt {B:Nat}{ss:km BR}(ok:∀s∈ss,CN B s){s:BR}(hs:s∈ss):bp s∈C6 ss/\∀x,ep s=some x->x∈C6 ss:=by
 refine⟨Bw.mpr ⟨CV.mpr (ACF.mpr ⟨s,hs,by simp[bp]⟩), ?_⟩,λx ex=> ?_⟩
 .have:=(ok s hs).h;unfold bp;simp only;omega
 .obtain ⟨e,he,rfl⟩:=ACf.mp ex;exact Bw.mpr ⟨CV.mpr (ACF.mpr ⟨s,hs,by simp[he]⟩), .inl rfl⟩
def FU {B:Nat}{ss:km BR}(ok:∀s∈ss,CN B s):G3 ss 0 (C6 ss):=by
 have h:=NZ ok (C6 ss) none (EH CY) (λp hp=>⟨True.intro,by rcases (Bw.mp hp).2 with z|z <;> omega⟩) (λs hs=>⟨.inr (Nt ok hs).1,λx ex=> .inr ((Nt ok hs).2 x ex)⟩);have:(ss.map λs=>i8 s none).sum=0:=by
  clear h ok;induction ss with
  | nil=>rfl
  | cons s ss ih=> rw[AAP,ACx,ih];unfold i8;cases ep s <;> rfl
 rw[this] at h;exact h
def Cn (val:Pl->kd Int)(st:km (Pl×Int)×Int)(p:Pl):km (Pl×Int)×Int:=match val p with | some v=>(st.1 ++ [(p,st.2+v)],st.2+v)|none=>st
theorem SZ {ss:km BR}{val:Pl->kd Int}(h1:∀p v,val p=some v->v=cnt ss p)(h2:∀p,val p=none->cnt ss p=0):∀(X:km Pl) (a:km (Pl×Int)) (c:Int),G3 ss c X->(X.foldl (Cn val) (a,c)).1=a++(X.filter λp=>(val p).isSome).map λp=>(p,(Hn ss p:Int))
 | [],a,c,_=>by simp
 | p::r,a,c,h=>by
   rw[AAz];cases e:val p with
   | none=>
     have hc:(Hn ss p:Int)=c:=by rw[h.1,h2 p e];omega
     rw[show Cn val (a,c) p=(a,c) by unfold Cn;rw[e],SZ h1 h2 r a c (hc ▸ h.2),AAx,AAC (by rw[e];decide)]
   | some v=>
     have hc:c+v=(Hn ss p:Int):=by rw[h.1,h1 p v e]
     rw[show Cn val (a,c) p=(a ++ [(p,c+v)],c+v) by unfold Cn;rw[e],hc,SZ h1 h2 r _ _ h.2,AAx,AAD (by rw[e];rfl),AAP,ACV];rfl
section
variable {ta tb td:AE}{r:AA}{τ:BL}{Q:PV->Prop}{QL:km PV->Prop}{m:km (FK×Int)}
def qK (xs:km PV)(Q:km PV->Prop):Prop:=match xs with | [.dct kvs] =>Q (kvs.map λp=>V0 p.1)|_=>False
instance:Wp (VJ r τ QL) (r τ λxs=>qK xs QL):=⟨id⟩
instance:Wp (qK [.dct m] QL) (QL (m.map λp=>V0 p.1)):=⟨id⟩
class fy (m:List (FK×Int)) (k:FK) (i:outParam Int):Prop where
 e:BU m k=some i
def ur (m:km (FK×Int))(k:FK)(Q:PV->Prop):Prop:=match BU m k with | some i=>Q (.int i)|none=>False
instance:Wp (gA ta tb td τ Q) (ta τ λx=>tb τ λy=>td τ λm=>oK m λkvs=>N5 x y λk=>Q (.bl (BU kvs k).isSome)):=⟨id⟩
instance:Wp (af td ta tb τ Q) (td τ λm=>ta τ λx=>tb τ λy=>oK m λkvs=>N5 x y λk=>ur kvs k Q):=⟨id⟩
instance{k:FK}{i:Int}[h:fy m k i] :Wp (ur m k Q) (Q (.int i)):=⟨λz=>by unfold ur;rw[h.e];exact z⟩
instance{R:km (FK×Int)->Prop}:Wp (oK (.dct m) R) (R m):=⟨id⟩
instance{q:Rat}{i:Int}{R:FK->Prop}:Wp (N5 (fr q) (.int i) R) (R (FW (q,i))):=⟨id⟩
end
def d7 {v:PV}{xs:km PV}{m:km (FK×Int)}(hv:v= .tup xs\/v= .lst xs)(hl:xs.length<=1000)(h:Ft xs [] =some m){Q:PV->Prop}(q:Q (.dct m)):Hh [v] Q:=by
 have hz:2*xs.length+2<sizeLine:=AAp (by omega:_<=2002) (AAW (by decide:2002<2003) (AAj rfl));rcases hv with rfl|rfl
 .exact ⟨hz,m,h,q⟩
 .exact ⟨hz,m,h,q⟩
def un (k:FK):Rat:=mkRat k.1.1 k.1.2.toNat
def nZ (p:Pl):un (FW p)=p.1:=by unfold un FW;show mkRat p.1.num ((p.1.den:Int).toNat)=p.1;rw[ACR];exact Rat.mkRat_self p.1
def lO (p:Pl):V0 (FW p)= .tup [fr p.1, .int p.2] :=rfl
def sK (x:Pl×Int):PV:= .tup [fr x.1.1, .int x.1.2, .int x.2]
def Rc (ss:km BR)(key:Pl->gn):km (Pl×Int):=((C6 ss).filter key).map λp=>(p,(Hn ss p:Int))
def ZH {v:PV}{xs:km PV}{ss:km BR}{B:Nat}(hv:v= .tup xs\/v= .lst xs)(F:Gh xs ss)(ok:∀s∈ss,CN B s)(hl:ss.length<=400)(I:B<=4000){Q:PV->Prop}(q:∀key:Pl->gn,(∀p,key p=true↔Js ss p)->Q (.lst ((Rc ss key).map sK))):G7 [v] Q:=by
 obtain⟨m,J,G,D,K⟩:=QX [] F;have hx:=F.length;have M:∀p:Pl,(BU m (FW p)).isSome=true↔Js ss p:=λp=>by
  rw[jB,D];constructor
  .rintro (z|⟨T,z,e⟩)
   .cases z
   .rw [RW e];exact z
  .exact λz=> .inr ⟨p,z,rfl⟩
 have H:=q (λp=>(BU m (FW p)).isSome) M;have i:∀p w,BU m (FW p)=some w->w=cnt ss p:=λp w e=>by have:=G p;rw[e] at this;simpa[BU] using this
 have N:∀p,BU m (FW p)=none->cnt ss p=0:=λp e=>by have:=G p;rw[e] at this;simp[BU] at this;omega
 have O:=SZ i N (C6 ss) [] 0 (FU ok);have mk:∀k∈m,∃p,k.1=FW p/\Js ss p:=λk hk=>by
  rcases (D k.1).mp (AAZ.mpr ⟨k,hk,rfl⟩) with z|⟨p,z,e⟩
  .cases z
  .exact ⟨p,e,z⟩
 have ms:∀x,x∈m.map (λk=>un k.1)↔x∈CM ss:=λx=>by
  rw[AAZ];unfold CM;rw[ACF];constructor
  .rintro ⟨k,hk,rfl⟩;obtain⟨p,e,s,hs,z⟩:=mk k hk;rw[e,nZ];refine⟨s,hs, ?_⟩;rcases z with z|z
   .rw [<-z];simp[bp]
   .obtain ⟨U,he,rfl⟩:=ACf.mp z;simp[he]
  .rintro ⟨s,hs,hx⟩;have go:∀p:Pl,Js ss p->∃a∈m,un a.1=p.1:=λp hp=>by obtain⟨a,ha,e⟩:=AAZ.mp ((D (FW p)).mpr (.inr ⟨p,hp,rfl⟩));exact⟨a,ha,by rw[e,nZ]⟩
   rcases AAF.mp hx with rfl|hx
   .exact go (bp s) ⟨s,hs, .inl rfl⟩
   .have hx:s.2.2=some x:=by simpa using hx
    exact go (x,0) ⟨s,hs, .inr (by unfold ep;rw[hx];rfl)⟩
 have bm:∀x∈m.map (λk=>un k.1),Bd B x:=λx h=>by
  obtain⟨s,hs,hx⟩:=ACF.mp ((ms x).mp h);rcases AAF.mp hx with rfl|hx
  .exact (ok s hs).b
  .exact ((ok s hs).e x (by simpa using hx)).2
 have er:Dw (m.map λk=>un k.1)=Dw (CM ss):=dc ms;have ml:m.length<=800:=by simp at K;omega
 apply WN;ac_rfl;refine d7 hv (by omega) J ?_;ac_rfl;refine Db (λk:FK×Int=>V0 k.1) fr (λk=>un k.1) (λk=>k∈m) (λk hk R A=> ?_) m [] (λ_ h=>h) ?_
 .obtain ⟨p,e,_⟩:=mk k hk;rw[e,nZ] at A;rw[e,lO];repeat' array_get_dec
  exact A
 ac_rfl;rw[AA0];refine Zh (.inl rfl) (by rw[AAK];omega) bm I ?_;rw[er];have W:(Dw (CM ss)).length<=800:=by rw[<-er];exact AAa J3 (by rw[AAK];omega)
 ac_rfl;refine Dd fr (λd vs τ=>∃t y,τ= [some (.val v),some (.val (.dct m)),some (.own (((places d).foldl (Cn λp=>BU m (FW p)) ([],0)).1.map sK)),some (.val (.int ((places d).foldl (Cn λp=>BU m (FW p)) ([],0)).2)),t,y]) ?_ ?_ ⟨_,_,rfl⟩
 .rintro τ ⟨t,y,rfl⟩;repeat' array_get_dec
  have e:Rc ss (λp=>(BU m (FW p)).isSome)=((places (Dw (CM ss))).foldl (Cn λp=>BU m (FW p)) ([],0)).1:=by rw[show places (Dw (CM ss))=C6 ss from rfl,O];rfl
  rw[e] at H;exact H
 .rintro d c vs e τ R A ⟨t,y,rfl⟩;have ep:places (d ++ [c])=places d ++ [(c,0),(c,1)] :=by unfold places;simp
  have es:(places (d ++ [c])).foldl (Cn λp=>BU m (FW p)) ([],0)=Cn (λp=>BU m (FW p)) (Cn (λp=>BU m (FW p)) ((places d).foldl (Cn λp=>BU m (FW p)) ([],0)) (c,0)) (c,1):=by rw[ep,ACg];rfl
  have P:((places d).foldl (Cn λp=>BU m (FW p)) ([],0)).1.length<=2*d.length:=by
   have go:∀(X:km Pl) (st:km (Pl×Int)×Int),(X.foldl (Cn λp=>BU m (FW p)) st).1.length<=st.1.length+X.length:=by
    intro X;induction X with
    | nil=>intro st;simp
    | cons p X ih=>
      intro st;have h1:=ih (Cn (λp=>BU m (FW p)) st p);have h2:(Cn (λp=>BU m (FW p)) st p).1.length<=st.1.length+1:=by unfold Cn;split <;> simp
      rw[AAz,AAc];omega
   have h1:=go (places d) ([],0);have h2:(places d).length=2*d.length:=by
    unfold places;clear A es ep e h1;induction d with
    | nil=>rfl
    | cons u d ih=>rw[AEe,AAn,ih];simp;omega
   simp at h1;omega
  have ul:d.length<=800:=by have:=congrArg List.length e;simp at this;omega
  generalize (places d).foldl (Cn λp=>BU m (FW p)) ([],0)=st at *;obtain⟨L,n⟩:=st;have j:∀(L2:km (Pl×Int)) E t y,(L2,E)=Cn (λp=>BU m (FW p)) (Cn (λp=>BU m (FW p)) (L,n) (c,0)) (c,1)->R [some (.val v),some (.val (.dct m)),some (.own (L2.map sK)),some (.val (.int E)),t,y] :=λL2 E t y h=>A _ ⟨t,y,by rw[es,<-h]⟩;clear A;have o:(Rat.num 0:Int)=0:=rfl;have r:((Rat.den 0:Nat):Int)=1:=rfl;have S:L.length<=1600:=by have h:L.length<=2*d.length:=P;omega
  cases l:BU m (FW (c,0)) with
  | none=>
    cases g:BU m (FW (c,1)) with
    | none=>
      have f:=j L n;repeat' array_get_dec
      simp only[o,r,l];repeat' array_get_dec
      simp only[o,r,g];repeat' array_get_dec
      exact f _ _ (by unfold Cn;simp only[l,g])
    | some i=>
      have f:=j (L ++ [((c,1),n+i)]) (n+i);rw[AAY] at f;haveI:fy m (FW (c,1)) i:=⟨g⟩;repeat' array_get_dec
      simp only[o,r,l];repeat' array_get_dec
      simp only[o,r,g];repeat' array_get_dec
      exact f _ _ (by unfold Cn;simp only[l,g])
  | some C=>
    haveI:fy m (FW (c,0)) C:=⟨l⟩;cases g:BU m (FW (c,1)) with
    | none=>
      have f:=j (L ++ [((c,0),n+C)]) (n+C);rw[AAY] at f;repeat' array_get_dec
      simp only[o,r,l];repeat' array_get_dec
      simp only[o,r,g];repeat' array_get_dec
      exact f _ _ (by unfold Cn;simp only[l,g])
    | some i=>
      have f:=j (L ++ [((c,0),n+C)] ++ [((c,1),n+C+i)]) (n+C+i);rw[AAY,AAY] at f;haveI:fy m (FW (c,1)) i:=⟨g⟩;repeat' array_get_dec
      simp only[o,r,l];repeat' array_get_dec
      simp only[o,r,g];repeat' array_get_dec
      exact f _ _ (by unfold Cn;simp only[l,g])
def stepI (st:km BR×kd Pl)(x:Pl×gn):km BR×kd Pl:=
 match st.2,x.2 with
 | none,true=>(st.1,some x.1)
 | some b,false=>(st.1 ++ [(b.1,1-b.2,some x.1.1)],none)
 | _,_=>st
def TY (st:km BR×kd Pl):km BR:=match st.2 with | none=>st.1|some b=>st.1 ++ [(b.1,1-b.2,none)]
def IY (X:km (Pl×gn)):km BR:=TY (X.foldl stepI ([],none))
def o9:kd Pl->PV|none=> .non|some b=> .tup [fr b.1, .int (1-b.2)]
def Zr {st:km BR×kd Pl}{x:Pl×gn}:(stepI st x).1.length<=st.1.length+1:=by unfold stepI;split <;> simp
theorem Kz:∀(X:km (Pl×gn)) (st:km BR×kd Pl),(X.foldl stepI st).1.length<=st.1.length+X.length
 | [],st=>by simp
 | x::X,st=>by have h1:=Kz X (stepI st x);have h2:=Zr (st:=st) (x:=x);rw[AAz,AAc];omega
theorem K7:∀{ss:km BR},(CM ss).length<=2*ss.length
 | [] =>by simp[CM]
 | s::ss=>by
   have ih:=K7 (ss:=ss);unfold CM at *;rw[AEe,AAn,AAc,AAc];have:s.2.2.toList.length<=1:=by cases s.2.2 <;> simp
   omega
theorem Iw:∀{qs:km Rat},(places qs).length=2*qs.length
 | [] =>rfl
 | q::qs=>by have ih:=Iw (qs:=qs);unfold places at *;rw[AEe,AAn,ih,AAc];simp;omega
def cT {ss:km BR}{key:Pl->gn}:(Rc ss key).length<=4*ss.length:=by unfold Rc C6;rw[AAK];have h1:=ACh key (places (Dw (CM ss)));have h2:=Iw (qs:=Dw (CM ss));have h3:=J3 (xs:=CM ss);have a:=K7 (ss:=ss);omega
def VW {v:PV}{xs:km PV}{ss:km BR}{B:Nat}{n:Int}(hv:v= .tup xs\/v= .lst xs)(u:Gh xs ss)(ok:∀s∈ss,CN B s)(hl:ss.length<=400)(w:B<=4000){Q:PV->Prop}(q:∀key:Pl->gn,(∀p,key p=true↔Js ss p)->Q (.tup ((IY ((Rc ss key).map λx=>(x.1,decide (n<=x.2)))).map BN))):Es [v, .int n] Q:=by
 apply UW;ac_rfl;refine ZH hv u ok hl w λkey hk=> ?_;have m:=q key hk;have y:(Rc ss key).length<=2000:=AAa cT (by omega);clear q;generalize Rc ss key=Ls at *;ac_rfl;refine Dd sK (λj vs τ=>∃a d g,τ= [some (.val v),some (.val (.int n)),some (.own (((j.map λx=>(x.1,decide (n<=x.2))).foldl stepI ([],none)).1.map BN)),some (.val (o9 ((j.map λx=>(x.1,decide (n<=x.2))).foldl stepI ([],none)).2)),a,d,g]) ?_ ?_ ⟨_,_,_,rfl⟩
 .rintro τ ⟨a,d,g,rfl⟩;have o:=Kz (Ls.map λx=>(x.1,decide (n<=x.2))) ([],none);unfold IY at m;generalize (Ls.map λx=>(x.1,decide (n<=x.2))).foldl stepI ([],none)=st at *;obtain⟨L,b⟩:=st;have r:L.length<=2000:=by have h:L.length<=0+_:=o;rw[AAK] at h;omega
  cases b with
  | none=>
    have l:Q (.tup (L.map BN)):=m;show GF _ [some (.val v),some (.val (.int n)),some (.own (L.map BN)),some (.val .non),a,d,g];repeat' array_get_dec
    exact l
  | some b=>
    have l:Q (.tup ((L ++ [(b.1,1-b.2,none)]).map BN)):=m;rw[AAY] at l;show GF _ [some (.val v),some (.val (.int n)),some (.own (L.map BN)),some (.val (.tup [fr b.1, .int (1-b.2)])),a,d,g];repeat' array_get_dec
    exact l
 .rintro j c vs e τ R t ⟨a,d,g,rfl⟩;have o:=Kz (j.map λx=>(x.1,decide (n<=x.2))) ([],none);have ul:j.length<=2000:=by have:=congrArg List.length e;simp at this;omega
  have es:((j ++ [c]).map λx=>(x.1,decide (n<=x.2))).foldl stepI ([],none)=stepI ((j.map λx=>(x.1,decide (n<=x.2))).foldl stepI ([],none)) (c.1,decide (n<=c.2)):=by rw[AAY,ACg];rfl
  generalize (j.map λx=>(x.1,decide (n<=x.2))).foldl stepI ([],none)=st at *;obtain⟨L,b⟩:=st;have r:L.length<=2000:=by have h:L.length<=0+_:=o;rw[AAK] at h;omega
  have i:∀L2 b2 a d g,(L2,b2)=stepI (L,b) (c.1,decide (n<=c.2))->R [some (.val v),some (.val (.int n)),some (.own (L2.map BN)),some (.val (o9 b2)),a,d,g] :=λL2 b2 a d g h=>t _ ⟨a,d,g,by rw[es,<-h]⟩;clear t;obtain⟨p,k⟩:=c;show IJ 3 (AY (An 4) (AY (An 5) (AY (An 6) Bm))) (.tup [fr p.1, .int p.2, .int k]) _ _;cases b with
  | none=>
    show IJ 3 (AY (An 4) (AY (An 5) (AY (An 6) Bm))) (.tup [fr p.1, .int p.2, .int k]) [some (.val v),some (.val (.int n)),some (.own (L.map BN)),some (.val .non),a,d,g] _;repeat' array_get_dec
    .rename_i h;exact i L (some p) _ _ _ (by unfold stepI;simp only[AAi h])
    .rename_i h;exact i L none _ _ _ (by unfold stepI;simp only[AAS h])
  | some b=>
    show IJ 3 (AY (An 4) (AY (An 5) (AY (An 6) Bm))) (.tup [fr p.1, .int p.2, .int k]) [some (.val v),some (.val (.int n)),some (.own (L.map BN)),some (.val (.tup [fr b.1, .int (1-b.2)])),a,d,g] _;repeat' array_get_dec
    .rename_i h;have f:=i (L ++ [(b.1,1-b.2,some p.1)]) none (some (.val (fr p.1))) (some (.val (.int p.2))) (some (.val (.int k))) (by unfold stepI;simp only[AAS (show ¬n<=k by omega)]);rw[AAY] at f;exact f
    .rename_i h;exact i L (some b) _ _ _ (by unfold stepI;simp only[AAi (show n<=k by omega)])
def VF (In key:Pl->gn):gn->km Pl->Prop
 | _, [] =>True
 | c,p::r=>(key p=false->In p=c)/\VF In key (In p) r
def Wh {st:km BR×kd Pl}{p:Pl}{i:gn}:(stepI st (p,i)).2.isSome=i:=by obtain⟨L,b⟩:=st;cases b <;> cases i <;> rfl
def Wg {st:km BR×kd Pl}{p:Pl}{i:gn}(h:i=st.2.isSome):stepI st (p,i)=st:=by obtain⟨L,b⟩:=st;cases b <;> cases i <;> first | rfl|cases h
theorem Hs {In key:Pl->gn}:∀(X:km Pl) (st:km BR×kd Pl),VF In key st.2.isSome X->(X.map λp=>(p,In p)).foldl stepI st=((X.filter key).map λp=>(p,In p)).foldl stepI st
 | [],st,_=>rfl
 | p::r,st,h=>by
   rw[AAP,AAz,AAx];cases k:key p with
   | true=> rw[AAD rfl,AAP,AAz];exact Hs r _ (by rw[Wh];exact h.2)
   | false=> have e:=h.1 k;rw[AAC (by decide),Wg e];exact Hs r st (by have:=h.2;rw[e] at this;exact this)
theorem JK {ss:km BR}{key:Pl->gn}{n:Int}(hk:∀p,key p=false->cnt ss p=0):∀(X:km Pl) (c:Int),G3 ss c X->VF (λp=>decide (n<=(Hn ss p:Int))) key (decide (n<=c)) X
 | [],_,_=>True.intro
 | p::r,c,h=>⟨λk=>(by show decide (n<=(Hn ss p:Int))=_;rw[h.1,hk p k,Int.add_zero]),JK hk r _ h.2⟩
def canon (n:Int)(ss:km BR):km BR:=IY ((C6 ss).map λp=>(p,decide (n<=(Hn ss p:Int))))
def TV {ss:km BR}{p:Pl}(h:¬Js ss p):cnt ss p=0:=by
 have key:∀ss:km BR,(∀s∈ss,¬(bp s=p\/ep s=some p))->cnt ss p=0:=by
  intro ss;induction ss with
  | nil=>intro _;rfl
  | cons s ss ih=>
    intro h;have h1:=h s (by simp);have e:cnt (s::ss) p=Jy s p+cnt ss p:=by simp[cnt]
    rw[e,ih λx hx=>h x (by simp[hx])];unfold Jy;rw[AAC λz=>h1 (.inl z),AAC λz=>h1 (.inr z)];rfl
 exact key ss λs hs z=>h ⟨s,hs,z⟩
def aq {ss:km BR}{B:Nat}{n:Int}{key:Pl->gn}(ok:∀s∈ss,CN B s)(a:0<n)(hk:∀p,key p=true↔Js ss p):IY ((Rc ss key).map λx=>(x.1,decide (n<=x.2)))=canon n ss:=by
 unfold canon IY Rc;rw[ABq];have h:=Hs (In:=λp=>decide (n<=(Hn ss p:Int))) (key:=key) (C6 ss) ([],none) (by
  have:=JK (n:=n) (key:=key) (λp z=>TV λy=>by rw[(hk p).mpr y] at z;cases z) (C6 ss) 0 (FU ok);rw[AAS (by omega)] at this;exact this)
 rw[h];rfl
def VU {v:PV}{xs:km PV}{ss:km BR}{B:Nat}{n:Int}(hv:v= .tup xs\/v= .lst xs)(a:Gh xs ss)(ok:∀s∈ss,CN B s)(hl:ss.length<=400)(b:B<=4000)(c:0<n){Q:PV->Prop}(q:Q (.tup ((canon n ss).map BN))):Es [v, .int n] Q:=
 VW hv a ok hl b λkey hk=>by rw[aq ok c hk];exact q
def Uq {v:PV}{xs:km PV}{ss:km BR}{B:Nat}(hv:v= .tup xs\/v= .lst xs)(a:Gh xs ss)(ok:∀s∈ss,CN B s)(hl:ss.length<=400)(b:B<=4000){Q:PV->Prop}(q:Q (.tup ((canon 1 ss).map BN))):E2 [v] Q:=by
 apply R3;repeat' array_get_dec
 exact VU hv a ok hl b (by decide) q
def K2 {ss:km BR}{p:Pl}:decide ((1:Int)<=(Hn ss p:Int))=ss.any (Bk · p):=by
 rw[ABm,ABZ,ABh];unfold Hn;constructor
 .intro h;obtain⟨s,hs⟩:=List.exists_mem_of_length_pos (l:=ss.filter (Bk · p)) (by omega);have:=AAe.mp hs;exact⟨s,this.1,this.2⟩
 .rintro ⟨s,hs,h⟩;have:=AE0 (AAe.mpr ⟨hs,h⟩:s∈ss.filter (Bk · p));omega
def Co (In:Pl->gn):km Pl->kd Pl->km BR
 | [],none=> []
 | [],some b=> [(b.1,1-b.2,none)]
 | p::r,none=>if In p=true then Co In r (some p) else Co In r none
 | p::r,some b=>if In p=true then Co In r (some b) else (b.1,1-b.2,some p.1)::Co In r none
theorem OC {In:Pl->gn}:∀(X:km Pl) (a:km BR) (b:kd Pl),TY ((X.map λp=>(p,In p)).foldl stepI (a,b))=a++Co In X b
 | [],a,none=>by simp[TY,Co]
 | [],a,some b=>by simp[TY,Co]
 | p::r,a,none=>by
   rw[AAP,AAz];unfold Co;cases e:In p with
   | true=>exact OC r a (some p)
   | false=>exact OC r a none
 | p::r,a,some b=>by
   rw[AAP,AAz];unfold Co;cases e:In p with
   | true=>exact OC r a (some b)
   | false=> show TY ((r.map λp=>(p,In p)).foldl stepI (a ++ [(b.1,1-b.2,some p.1)],none))=a++((b.1,1-b.2,some p.1)::Co In r none);rw[OC r _ none];simp
def QN {In:Pl->gn}{X:km Pl}:IY (X.map λp=>(p,In p))=Co In X none:=by unfold IY;rw[OC];rfl
def MZ {q p:Pl}{e:kd Rat}(hq:q.2=0\/q.2=1)(hp:0<=p.2):Bk (q.1,1-q.2,e) p=(On q p&&(match e with | none=>true|some e=>decide (p.1<e))):=by unfold Bk On;congr 2;congr 1;exact ADg.mpr (by show 0<1-q.2+p.2↔q.2<=p.2;omega)
def Ie (In:Pl->gn):gn->km Pl->Prop
 | _, [] =>True
 | c,p::r=>(c=true->In p=false->p.2=0)/\Ie In (In p) r
theorem X7 {In:Pl->gn}:∀(X:km Pl),Yd X->(∀x∈X,x.2=0\/x.2=1)-> (Ie In false X->(∀p:Pl,0<=p.2->(∀x∈X,Mb p x)->(Co In X none).any (Bk · p)=false)/\∀p∈X,(Co In X none).any (Bk · p)=In p)/\ (Ie In true X->∀q:Pl,(q.2=0\/q.2=1)->(∀x∈X,Mb q x)->(∀p:Pl,0<=p.2->(∀x∈X,Mb p x)->(Co In X (some q)).any (Bk · p)=On q p)/\∀p∈X,(Co In X (some q)).any (Bk · p)=In p)
 | [],_,_=>⟨λ_=>⟨λp _ _=>rfl,λp hp=>by cases hp⟩,λ_ q hq _=>⟨λp hp _=>by show (Bk (q.1,1-q.2,none) p||false)=_;rw[MZ hq hp];simp,λp hp=>by cases hp⟩⟩
 | x::r,hs,Td=>by
   obtain⟨h1,h2⟩:=AAI.mp hs;have ih:=X7 (In:=In) r h2 λy hy=>Td y (by simp[hy]);have j:=Td x (by simp);have f:0<=x.2:=by omega
   have g:∀p:Pl,(∀y∈x::r,Mb p y)->∀y∈r,Mb p y:=λp h y hy=>h y (by simp[hy]);have l:∀p:Pl,Mb p x->On x p=false:=λp h=>by
    rw[<-Bool.not_eq_true,HJ];rintro(z|z)
    .exact Mc (K6 z h)
    .rw [z] at h;exact Mc h
   have m:On x x=true:=HJ.mpr (.inr rfl);refine⟨λhd=> ?_,λhd q hq k=> ?_⟩
   .unfold Co;cases e:In x with
    | true=>
      have a:=hd.2;rw[e] at a;obtain⟨b,d⟩:=ih.2 a x j h1;rw[AAD rfl];refine⟨λp c hp=> ?_,λp hp=> ?_⟩
      .rw [b p c (g p hp),l p (hp x (by simp))]
      .rcases AAF.mp hp with rfl|hp
       .rw [b p f h1,m,e]
       .exact d p hp
    | false=>
      have a:=hd.2;rw[e] at a;obtain⟨b,d⟩:=ih.1 a;rw[AAC (by decide)];refine⟨λp c hp=>b p c (g p hp),λp hp=> ?_⟩;rcases AAF.mp hp with rfl|hp
      .rw [b p f h1,e]
      .exact d p hp
   .unfold Co;have n:On q x=true:=HJ.mpr (.inl (k x (by simp)));cases e:In x with
    | true=>
      have a:=hd.2;rw[e] at a;obtain⟨b,d⟩:=ih.2 a q hq (g q k);rw[AAD rfl];refine⟨λp c hp=>b p c (g p hp),λp hp=> ?_⟩;rcases AAF.mp hp with rfl|hp
      .rw [b p f h1,n,e]
      .exact d p hp
    | false=>
      have a:=hd.2;rw[e] at a;obtain⟨b,d⟩:=ih.1 a;have s:=hd.1 rfl e;rw[AAC (by decide)];have i:∀p:Pl,(p=x\/Mb x p)->¬p.1<x.1:=λp h=>by rcases h with h|h|⟨h,_⟩ <;> grind
      refine⟨λp c hp=> ?_,λp hp=> ?_⟩
      .have o:p.1<x.1:=by
        rcases hp x (by simp) with z|⟨_,z⟩
        .exact z
        .omega
       show (Bk (q.1,1-q.2,some x.1) p||(Co In r none).any (Bk · p))=_;rw[MZ hq c,b p c (g p hp)];simp[o]
      .show (Bk (q.1,1-q.2,some x.1) p||(Co In r none).any (Bk · p))=_;rcases AAF.mp hp with rfl|hp
       .rw [MZ hq f,b p f h1,e];simp[i p (.inl rfl)]
       .rw [MZ hq (by have:=Td p (by simp[hp]);omega),d p hp];simp[i p (.inr (h1 p hp))]
theorem UV {In:Pl->gn}(P:Rat->Prop):∀(X:km Pl) (b:kd Pl),Yd X->(∀x∈X,(x.2=0\/x.2=1)/\P x.1)->Ie In b.isSome X->(∀q,b=some q->(q.2=0\/q.2=1)/\P q.1/\∀x∈X,Mb q x)-> ∀s∈Co In X b,P s.1/\(s.2.1=0\/s.2.1=1)/\∀e,s.2.2=some e->s.1<e/\P e
 | [],none,_,_,_,_=>λs hs=>by cases hs
 | [],some q,_,_,_,hb=>λs hs=>by obtain⟨h1,h2,_⟩:=hb q rfl;simp only[Co,AAR] at hs;subst hs;exact⟨h2,by show 1-q.2=0\/1-q.2=1;omega,λe he=>by cases he⟩
 | x::r,b,hs,Td,hd,hb=>by
   obtain⟨h1,h2⟩:=AAI.mp hs;have ih:=λb d hb=>UV (In:=In) P r b h2 (λy hy=>Td y (by simp[hy])) d hb;have a:=hd.2;cases b with
   | none=>
     unfold Co;cases e:In x with
     | true=> rw[AAD rfl];rw[e] at a;exact ih (some x) a λq hq=>by cases hq;exact⟨(Td x (by simp)).1,(Td x (by simp)).2,h1⟩
     | false=> rw[AAC (by decide)];rw[e] at a;exact ih none a λq hq=>by cases hq
   | some q=>
     obtain⟨g,c,f⟩:=hb q rfl;unfold Co;cases e:In x with
     | true=> rw[AAD rfl];rw[e] at a;exact ih (some q) a λh hq=>by cases hq;exact⟨g,c,λy hy=>f y (by simp[hy])⟩
     | false=>
       rw[AAC (by decide)];rw[e] at a;have i:=hd.1 rfl e;intro s hs;rcases AAF.mp hs with rfl|hs
       .refine ⟨c,by show 1-q.2=0\/1-q.2=1;omega,λj he=> ?_⟩;cases he;refine⟨?_,(Td x (by simp)).2⟩;rcases f x (by simp) with z|⟨_,z⟩
        .exact z
        .omega
       .exact ih none a (λq hq=>by cases hq) s hs
theorem Ip {ss:km BR}:∀(X:km Pl) (c:Int),(∀x∈X,x.2=0\/x.2=1)->G3 ss c X->Ie (λp=>ss.any (Bk · p)) (decide (1<=c)) X
 | [],_,_,_=>True.intro
 | p::r,c,Td,h=>by
   have ih:=Ip r (Hn ss p) (λx hx=>Td x (by simp[hx])) h.2;rw[K2] at ih;refine⟨λhc hi=> ?_,ih⟩;rcases Td p (by simp) with z|z
   .exact z
   .have hc:1<=c:=by simpa using hc
    have hi:ss.any (Bk · p)=false:=hi;rw[<-K2] at hi;have hi:¬(1:Int)<=Hn ss p:=by simpa using hi
    have c0:0<=cnt ss p:=by
     have go:∀ss:km BR,0<=cnt ss p:=by
      intro ss;induction ss with
      | nil=>exact Int.le_refl _
      | cons s ss ih=>
        have e:cnt (s::ss) p=Jy s p+cnt ss p:=by simp[cnt]
        have o:0<=Jy s p:=by
         unfold Jy;have:¬ep s=some p:=λy=>by obtain⟨b,_,a⟩:=ACf.mp y;have:(0:Int)=p.2:=congrArg Prod.snd a;omega
         rw[AAC this];split <;> decide
        omega
     exact go ss
    have:=h.1;omega
def SN {ss:km BR}:∀x∈C6 ss,x.2=0\/x.2=1:=λx hx=>(Bw.mp hx).2
def Kx {ss:km BR}:canon 1 ss=Co (λp=>ss.any (Bk · p)) (C6 ss) none:=by unfold canon;rw[<-QN];congr 1;apply AB2;intro p _;rw[K2]
def Oe {ss:km BR}{B:Nat}(ok:∀s∈ss,CN B s):Ie (λp=>ss.any (Bk · p)) false (C6 ss):=Ip (C6 ss) 0 SN (FU ok)
def VT {ss:km BR}{B:Nat}(ok:∀s∈ss,CN B s):∀s∈canon 1 ss,s.1∈CM ss/\(s.2.1=0\/s.2.1=1)/\∀e,s.2.2=some e->s.1<e/\e∈CM ss:=by rw[Kx];exact UV (· ∈CM ss) (C6 ss) none (EH CY) (λx hx=>⟨SN x hx,CV.mp (Bw.mp hx).1⟩) (Oe ok) λq hq=>by cases hq
def Xp {ss:km BR}{B:Nat}(ok:∀s∈ss,CN B s):∀x∈CM ss,Bd B x:=λx h=>by
 obtain⟨s,hs,hx⟩:=ACF.mp h;rcases AAF.mp hx with rfl|hx
 .exact (ok s hs).b
 .exact ((ok s hs).e x (by simpa using hx)).2
def TR {ss:km BR}{B:Nat}(ok:∀s∈ss,CN B s):∀s∈canon 1 ss,CN B s:=λs hs=>by obtain⟨h1,h2,h3⟩:=VT ok s hs;exact⟨Xp ok _ h1,h2,λe he=>⟨(h3 e he).1,Xp ok _ (h3 e he).2⟩⟩
theorem IX (f:Rat->gn):∀qs:km Rat,(places qs).filter (λp=>f p.1)=places (qs.filter f)
 | [] =>rfl
 | q::qs=>by show ((q,0)::(q,1)::places qs).filter (λp=>f p.1)=_;rw[AAx,AAx,AAx,IX f qs];cases f q <;> rfl
def Vy {xs:km PV}{k:Int}{R:PV->Prop}(a:0<=k)(h1:k<xs.length)(h:∀x∈xs,R x):Aj (.lst xs) (.int k) R:=by
 have hk:k.toNat<xs.length:=by omega
 have e:KM xs ((k.toNat:Nat):Int)=some xs[k.toNat] :=Ei (AAh hk);rw[show ((k.toNat:Nat):Int)=k by omega] at e;show aD (KM xs k) R;rw[e];exact h _ (ACX hk)
instance{s:BR}{a:km PV->Prop}:Wp (Oo (BN s) a) (a [fr s.1, .int s.2.1,Yw s.2.2]):=⟨id⟩
def gf {o:kd Rat}{Q:PV->Prop}(h:Q (.bl (decide (o=none)))):HE (Yw o) .non Q:=by cases o <;> exact h
instance{o:kd Rat}{Q:PV->Prop}:Wp (HE (Yw o) .non Q) (Q (.bl (decide (o=none)))):=⟨gf⟩
def Dg (ms:km Rat)(ss:km BR):km Pl:=places (Dw (ms++CM ss))
def Jl {B:Nat}{ms:km Rat}{ss:km BR}(ok:∀s∈ss,CN B s):G3 ss 0 (Dg ms ss):=by
 have c:∀s∈ss,bp s∈Dg ms ss/\∀x,ep s=some x->x∈Dg ms ss:=λs hs=>by
  obtain⟨h1,h2⟩:=Nt ok hs;have d:∀x∈C6 ss,x∈Dg ms ss:=λx hx=>by obtain⟨a,b⟩:=Bw.mp hx;exact Bw.mpr ⟨CV.mpr (AAm _ (CV.mp a)),b⟩
  exact⟨d _ h1,λx ex=>d _ (h2 x ex)⟩
 have h:=NZ ok (Dg ms ss) none (EH CY) (λp hp=>⟨True.intro,by rcases (Bw.mp hp).2 with z|z <;> omega⟩) (λs hs=>⟨.inr (c s hs).1,λx ex=> .inr ((c s hs).2 x ex)⟩);have z:(ss.map λs=>i8 s none).sum=0:=by
  clear h c ok;induction ss with
  | nil=>rfl
  | cons s ss ih=> rw[AAP,ACx,ih];unfold i8;cases ep s <;> rfl
 rw[z] at h;exact h
def VS {B:Nat}{ms:km Rat}{ss:km BR}{n:Int}(ok:∀s∈ss,CN B s)(c:0<n):IY ((Dg ms ss).map λp=>(p,decide (n<=(Hn ss p:Int))))=canon n ss:=by
 have hk:∀p:Pl,decide (p.1∈CM ss)=false->cnt ss p=0:=λp hp=>TV λ⟨s,hs,z⟩=>by
  have hp:¬p.1∈CM ss:=by simpa using hp
  refine hp (ACF.mpr ⟨s,hs, ?_⟩);rcases z with z|z
  .rw [<-z];simp[bp]
  .obtain ⟨d,he,rfl⟩:=ACf.mp z;simp[he]
 have a:=JK (n:=n) (ss:=ss) (key:=λp=>decide (p.1∈CM ss)) hk (Dg ms ss) 0 (Jl ok);rw[AAS (by omega)] at a;have h:=Hs (Dg ms ss) ([],none) a;have b:(Dg ms ss).filter (λp=>decide (p.1∈CM ss))=C6 ss:=by unfold Dg C6;rw[IX (λx=>decide (x∈CM ss))];congr 1;refine SQ (CY.filter _) CY λx=> ?_;rw[AAe,CV,CV,ABZ];exact⟨λh=>h.2,λh=>⟨AAm _ h,h⟩⟩
 rw[b] at h;show TY _=TY _;rw[h]
def NV {B:Nat}{ss:km BR}(ok:∀s∈ss,CN B s){p:Pl}(hp:p.2=0\/p.2=1):(canon 1 ss).any (Bk · p)=ss.any (Bk · p):=by
 have b:p∈Dg [p.1] ss:=Bw.mpr ⟨CV.mpr (by simp),hp⟩;have a:∀x∈Dg [p.1] ss,x.2=0\/x.2=1:=λx hx=>(Bw.mp hx).2;have c:=Ip (Dg [p.1] ss) 0 a (Jl ok);have e:canon 1 ss=Co (λp=>ss.any (Bk · p)) (Dg [p.1] ss) none:=by rw[<-VS (ms:= [p.1]) ok (by decide),<-QN];congr 1;apply AB2;intro q _;rw[K2]
 rw[e];exact((X7 (Dg [p.1] ss) (EH CY) a).1 c).2 p b
def hN (L:km BR)(p:Pl):Nat:=(L.filter (Bk · p)).length
theorem XF {a:Type}(f:a->gn):∀xs:km a,Ji (xs.map λx=> .bl (f x))=some (xs.map f)
 | [] =>rfl
 | x::xs=>by show (Ji (xs.map λx=> .bl (f x))).map (f x :: ·)=_;rw[XF f xs];rfl
theorem Nc:∀(X:km (Pl×gn)) (st:km BR×kd Pl),2*(X.foldl stepI st).1.length+(if (X.foldl stepI st).2.isSome then 1 else 0)<=2*st.1.length+(if st.2.isSome then 1 else 0)+X.length
 | [],st=>AAJ _
 | x::X,st=>by
   have h1:=Nc X (stepI st x);have h2:2*(stepI st x).1.length+(if (stepI st x).2.isSome then 1 else 0)<=2*st.1.length+(if st.2.isSome then 1 else 0)+1:=by obtain⟨L,b⟩:=st;obtain⟨p,c⟩:=x;cases b <;> cases c <;> simp[stepI] <;> omega
   rw[AAz,AAc];omega
def Zi (X:km (Pl×gn)):2*(IY X).length<=X.length+1:=by have h:=Nc X ([],none);unfold IY;generalize X.foldl stepI ([],none)=st at *;obtain⟨L,b⟩:=st;cases b <;> simp[TY] at * <;> omega
def NW {n:Int}{ss:km BR}:(canon n ss).length<=2*ss.length:=by unfold canon C6;have h:=Zi ((places (Dw (CM ss))).map λp=>(p,decide (n<=(Hn ss p:Int))));have a:=J3 (xs:=CM ss);have b:=K7 (ss:=ss);have c:=Iw (qs:=Dw (CM ss));rw[AAK] at h;omega
inductive W5:List PV->List (List BR)->Prop where
 | nil:W5 [] []
 | cons {x:PV} {xs:List PV} {ss:List BR} {r:List PV} {rs:List (List BR)} (h:x= .tup xs\/x= .lst xs) (hr:Gh xs ss) (t:W5 r rs):W5 (x::r) (ss::rs)
def lt_size {k n:Nat}(h:k<=n)(a:n<1000000):k<sizeLine:=AAp h (AAW a (AAj rfl))
def lin (p q:T3)(s:Rat):T3:=(p.1+s*(q.1-p.1),p.2.1+s*(q.2.1-p.2.1),p.2.2+s*(q.2.2-p.2.2))
def lV {a D b e m x X:Rat}(c:D≠0)(h:e-b≠0):x+(m-a)/D*X=(x+(b-a)/D*X)+(m-b)/(e-b)*((x+(e-a)/D*X)-(x+(b-a)/D*X)):=by grind
def Y8 {a c:C4}{b e m:Rat}(h1:a.1<c.1)(h2:b<e):inter a c m=lin (inter a c b) (inter a c e) ((m-b)/(e-b)):=by
 have d:c.1-a.1≠0:=by grind
 have f:e-b≠0:=by grind
 simp only[inter,lin];rw[<-lV d f,<-lV d f,<-lV d f]
def cS (p q:T3):lin p q 0=p:=by obtain⟨a,b,c⟩:=p;simp[lin,AB5,ACG]
theorem LO {b e m:Rat}{p q:T3}(f:b<e)(h1:b<=m)(h2:m<=e):∀{a:C4} {r:km C4},Ef (a::r)->(∀c∈r,¬(b<c.1/\c.1<e))->spotG a r b=some p->spotG a r e=some q->spotG a r m=some (lin p q ((m-b)/(e-b)))
 | a, [],_,_,hp,_=>by cases hp
 | a,c::r,hr,hn,hp,hq=>by
   have g:=(AAI.mp hr).1 c (by simp);have h:Ef (c::r):=(AAI.mp hr).2;by_cases i:c.1<b
   .simp only[spotG] at hp hq ⊢;rw[AAD i] at hp;rw[AAD (by grind)] at hq ⊢;exact LO f h1 h2 h (λx hx=>hn x (by simp[hx])) hp hq
   .simp only[spotG] at hp hq ⊢;rw[AAC i] at hp;by_cases k:b=c.1
    .subst k;rw[E8 g] at hp;cases hp;by_cases j:c.1<m
     .rw [AAD j];rw[AAD (by grind)] at hq;refine LO f h1 h2 h (λx hx=>hn x (by simp[hx])) ?_ hq;cases r with
      | nil=>cases hq
      | cons d r=> have l:=(AAI.mp h).1 d (by simp);simp only[spotG];rw[AAC (by grind),HH l]
     .have n:m=c.1:=by grind
      subst n;rw[AAC j,E8 g];have z:(c.1-c.1)/(e-c.1)=0:=by grind
      rw[z,cS]
    .have o:¬c.1<e:=λz=>hn c (by simp) ⟨by grind,z⟩;cases hp;rw[AAC o] at hq;cases hq;rw[AAC (by grind)];rw[<-Y8 g f]
def QU {b e m:Rat}{p q:T3}{cs:km C4}(d:Ef cs)(f:b<e)(h1:b<=m)(h2:m<=e)(g:∀c∈cs,¬(b<c.1/\c.1<e))(hp:spotC cs b=some p)(hq:spotC cs e=some q):spotC cs m=some (lin p q ((m-b)/(e-b))):=by
 cases cs with
 | nil=>cases hp
 | cons a r=>
   simp only[spotC] at hp hq ⊢;by_cases k:b<a.1
   .rw [AAD k] at hp;cases hp
   .rw [AAC k] at hp;rw[AAC (by grind)] at hq ⊢;exact LO f h1 h2 d (λc hc=>g c (by simp[hc])) hp hq
def pF (r s:BR):Prop:=∃e,r.2.2=some e/\(e<s.1\/(e=s.1/\s.2.1=0))
def Sep (ss:km BR):Prop:=ss.Pairwise pF
def Q8 (q:Pl)(e:kd Rat):bp (q.1,1-q.2,e)=q:=by obtain⟨a,b⟩:=q;show (a,1-(1-b))=(a,b);rw[show 1-(1-b)=b by omega]
theorem GA {In:Pl->gn}:∀(X:km Pl) (b:kd Pl),∀s∈Co In X b,bp s∈X\/b=some (bp s)
 | [],none=>λs hs=>by cases hs
 | [],some q=>λs hs=>by simp only[Co,AAR] at hs;subst hs;exact .inr (by rw[Q8])
 | x::r,none=>λs hs=>by
   unfold Co at hs;split at hs
   .rcases GA r (some x) s hs with h|h
    .exact .inl (by simp[h])
    .cases h;exact .inl (by simp)
   .rcases GA r none s hs with h|h
    .exact .inl (by simp[h])
    .cases h
 | x::r,some q=>λs hs=>by
   unfold Co at hs;split at hs
   .rcases GA r (some q) s hs with h|h
    .exact .inl (by simp[h])
    .exact .inr h
   .rcases AAF.mp hs with rfl|hs
    .exact .inr (by rw[Q8])
    .rcases GA r none s hs with h|h
     .exact .inl (by simp[h])
     .cases h
theorem X8 {In:Pl->gn}:∀(X:km Pl) (b:kd Pl),Yd X->(∀x∈X,x.2=0\/x.2=1)->Ie In b.isSome X->Sep (Co In X b)
 | [],none,_,_,_=> .nil
 | [],some q,_,_,_=>AEQ _ _
 | x::r,b,hs,Td,hd=>by
   obtain⟨h1,h2⟩:=AAI.mp hs;have ih:=λb d=>X8 (In:=In) r b h2 (λy hy=>Td y (by simp[hy])) d;have a:=hd.2;cases b with
   | none=>
     unfold Co;cases e:In x with
     | true=>rw[AAD rfl];rw[e] at a;exact ih (some x) a
     | false=>rw[AAC (by decide)];rw[e] at a;exact ih none a
   | some q=>
     unfold Co;cases e:In x with
     | true=>rw[AAD rfl];rw[e] at a;exact ih (some q) a
     | false=>
       rw[AAC (by decide)];rw[e] at a;have g:=hd.1 rfl e;refine AAI.mpr ⟨λs hs=> ?_,ih none a⟩;rcases GA r none s hs with h|h
       .refine ⟨x.1,rfl, ?_⟩;have k:=h1 _ h;have c:=Td _ (ABW x h);have c:1-s.2.1=0\/1-s.2.1=1:=c;rcases k with k|⟨k,f⟩
        .exact .inl k
        .have f:x.2<1-s.2.1:=f;exact .inr ⟨k,by omega⟩
       .cases h
def Yq {B:Nat}{ss:km BR}(ok:∀s∈ss,CN B s):Sep (canon 1 ss):=by rw[Kx];exact X8 (C6 ss) none (EH CY) SN (Oe ok)
abbrev Ic:AS:=
 (AZ (E3 (HC (aV 0)) (IJ 2 (AY (An 2) (AY (An 3) Bm))) (VI 1 DV (AX RF (aV 3) (AN 2 G5 (AB (aV 1) (AB (aV 3) AL))))))
   (Ao (aV 1)))
abbrev Ge:AS:=
 (AZ (Ak (aC (.int 1)) (An 1))
   Ic)
def CU:AF:=As 4 Ge
def J8 {a:PV}{Q:PV->Prop}(h:Ge ⟨λ_=>Q .non,Q,λ_=>False,λ_=>False⟩ [some (.val a),none,none,none]):CU [a] Q:=h
def Gs (xs:km Rat):Nat:=xs.foldl (λN r=>N*(r.den/Nat.gcd N r.den)) 1
def YE (xs:km Rat)(r:Rat):Gs (xs ++ [r])=Gs xs*(r.den/Nat.gcd (Gs xs) r.den):=by unfold Gs;rw[ACg];rfl
def iW {N d:Nat}(hN:0<N)(hd:0<d):0<N*(d/Nat.gcd N d)/\N ∣ N*(d/Nat.gcd N d)/\d ∣ N*(d/Nat.gcd N d)/\N*(d/Nat.gcd N d)<=N*d:=by have g:Nat.gcd N d ∣ d:=ACw ..;have a:0<Nat.gcd N d:=ACd _ hd;refine⟨Nat.mul_pos hN (Nat.div_pos (ADf hd g) a),Nat.dvd_mul_right .., ?_,Nat.mul_le_mul_left _ (ACD ..)⟩;rw[<-Nat.mul_div_assoc _ g];exact Nat.dvd_lcm_right ..
theorem SB {W:Nat}:∀(n:Nat) (xs:km Rat),xs.length=n->(∀x∈xs,Bd W x)->0<Gs xs/\(∀x∈xs,x.den ∣ Gs xs)/\Gs xs<2^(n*W+1)
 | 0,xs,e,_=>by have:xs= [] :=AE1.mp e;subst this;exact⟨by decide,by simp,by simp[Gs]⟩
 | n+1,xs,e,h=>by
   obtain⟨ys,r,rfl⟩:∃ys r,xs=ys ++ [r] :=⟨xs.dropLast,xs.getLast (by intro z;subst z;cases e),(AC7 _).symm⟩;have a:ys.length=n:=by simpa using e
   obtain⟨h1,h2,h3⟩:=SB n ys a λx hx=>h x (by simp[hx]);have b:=(h r (by simp)).bot;rw[YE];obtain⟨c,d,f,g⟩:=iW h1 r.den_pos;refine⟨c,λx hx=> ?_, ?_⟩
   .rcases AAL.mp hx with hx|hx
    .exact Nat.dvd_trans (h2 x hx) d
    .simp at hx;subst hx;exact f
   .refine AAp g ?_;have:=V5 h3 b;rw[show n*W+1+W=(n+1)*W+1 by rw[ADO];omega] at this;exact this
def Zl (N:Nat)(r:Rat):Int:=r.num*((N:Int).fdiv (r.den:Int))
def OU {N:Nat}{r:Rat}(h:r.den ∣ N):(Zl N r:Rat)=r*N:=by
 obtain⟨k,rfl⟩:=h;have hd:=r.den_pos;unfold Zl;rw[ADh,Int.mul_fdiv_cancel_left _ (by omega),ADv];have b:((r.den:Int):Rat)≠0:=λz=>by have:(r.den:Int)=0:=Rat.intCast_inj.mp z;omega
 have e:r=(r.num:Rat)/((r.den:Int):Rat):=by rw[<-ACi,ABX]
 have a:r*((r.den:Int):Rat)=r.num:=by
  conv=>lhs;arg 1;rw[e]
  grind
 rw[<-a,show ((r.den*k:Nat):Rat)=((r.den:Int):Rat)*((k:Int):Rat) by rw[<-ADv,<-ADh,Rat.intCast_natCast]];grind
structure Pc where
 b:Rat
 e:Rat
 o0:T3
 o1:T3
def Pc.six (p:Pc):km Rat:= [p.o0.1,p.o0.2.1,p.o0.2.2,p.o1.1,p.o1.2.1,p.o1.2.2]
def Pc.N (p:Pc):Nat:=Gs p.six
def LR (cs ds:km C4)(b e:Rat):km Rat:=Dw ([b,e] ++ ((cs.filter (Z4 b e)++ds.filter (Z4 b e)).map (·.1)))
def LS {cs ds:km C4}{b e x:Rat}:x∈LR cs ds b e↔x=b\/x=e\/(b<x/\x<e/\∃c,(c∈cs\/c∈ds)/\c.1=x):=by
 unfold LR;rw[CV];simp only[ADl,AA0,AAF,AAZ,AAL,AAe,Z4,AAo,ADc];constructor
 .rintro (h|h|⟨c,h,rfl⟩)
  .exact .inl h
  .exact .inr (.inl h)
  .rcases h with⟨h1,h2,h3⟩|⟨h1,h2,h3⟩
   .exact .inr (.inr ⟨h2,h3,c, .inl h1,rfl⟩)
   .exact .inr (.inr ⟨h2,h3,c, .inr h1,rfl⟩)
 .rintro (h|h|⟨h1,h2,c,h,rfl⟩)
  .exact .inl h
  .exact .inr (.inl h)
  .exact .inr (.inr ⟨c,h.elim (λh=> .inl ⟨h,h1,h2⟩) (λh=> .inr ⟨h,h1,h2⟩),rfl⟩)
def aA (cs ds:km C4)(d:Rat×Rat)(m:Rat):T3:=cY ((spotC cs m).getD (0,0,0)) ((spotC ds m).getD (0,0,0)) d
def qQ (cs ds:km C4)(d:Rat×Rat)(a:km Rat):km Pc:=(a.zip a.tail).map λp=>⟨p.1,p.2,aA cs ds d p.1,aA cs ds d p.2⟩
structure wV (cs ds:List C4) (b e:Rat):Prop where
 lt:b<e
 one:∀m,b<=m->m<=e->∃t,spotC cs m=some t
 other:∀m,b<=m->m<=e->∃t,spotC ds m=some t
def nW {a l b c:C4}{r d:km C4}(f:r≠ [])(g:d≠ [])(i:(a::r).getLast?=some l)(e:(b::d).getLast?=some c)(h:mx a.1 b.1<mn l.1 c.1):wV (a::r) (b::d) (mx a.1 b.1) (mn l.1 c.1):=by
 have j:a.1<=mx a.1 b.1:=by unfold mx;split <;> grind
 have k:b.1<=mx a.1 b.1:=by unfold mx;split <;> grind
 have n:mn l.1 c.1<=l.1:=by unfold mn;split <;> grind
 have o:mn l.1 c.1<=c.1:=by unfold mn;split <;> grind
 exact⟨h,λm h1 h2=>FF f i (by grind) (by grind),λm h1 h2=>FF g e (by grind) (by grind)⟩
def Zx {cs ds:km C4}{b e:Rat}:W6 (LR cs ds b e):=CY
def eY {cs ds:km C4}{b e x:Rat}(h:b<e)(hx:x∈LR cs ds b e):b<=x/\x<=e:=by rcases LS.mp hx with rfl|rfl|⟨h1,h2,_⟩ <;> exact⟨by grind,by grind⟩
def eV {cs ds:km C4}{b e x:Rat}{M:Nat}(hc:∀c∈cs,Bd M c.1)(a:∀c∈ds,Bd M c.1)(d:Bd M b)(f:Bd M e)(hx:x∈LR cs ds b e):Bd M x:=by
 rcases LS.mp hx with rfl|rfl|⟨_,_,c,h,rfl⟩
 .exact d
 .exact f
 .rcases h with h|h
  .exact hc c h
  .exact a c h
def Vh (cs:km C4):Rat:=(cs.head?.getD (0,0,0,0)).1
def lstM (cs:km C4):Rat:=(cs.getLast?.getD (0,0,0,0)).1
def NT (cs ds:km C4):Rat:=mx (Vh cs) (Vh ds)
def Na (cs ds:km C4):Rat:=mn (lstM cs) (lstM ds)
def rP (cs ds:km C4):km Rat:=LR cs ds (NT cs ds) (Na cs ds)
structure Uv (cs ds:List C4) (d:Rat×Rat) (M W:Nat):Prop where
 c1:∀c∈cs,DA 150 c
 c2:∀c∈ds,DA 150 c
 r1:Ef cs
 r2:Ef ds
 t1:2<=cs.length
 t2:2<=ds.length
 f1:cs.length<=100
 f2:ds.length<=100
 m1:∀c∈cs,Bd M c.1
 m2:∀c∈ds,Bd M c.1
 b1:Bd 100 d.1
 b2:Bd 100 d.2
 p1:0<d.1
 p2:0<d.2
 w:NT cs ds<Na cs ds->∀m∈rP cs ds,KL W (aA cs ds d m)
 hM:M<=150
 hW:W<=1050
def open2 {cs:km C4}(h:2<=cs.length):∃a r l,cs=a::r/\r≠ [] /\(a::r).getLast?=some l:=by
 match cs,h with
 | a::b::r,_=> obtain⟨l,c⟩:∃l,(a::b::r).getLast?=some l:=⟨_,ABT (by simp)⟩;exact⟨a,b::r,l,rfl,by simp,c⟩
def RJ {a:C4}{r:km C4}:Vh (a::r)=a.1:=rfl
def Ho {cs:km C4}{l:C4}(e:cs.getLast?=some l):lstM cs=l.1:=by unfold lstM;rw[e];rfl
section
variable {cs ds:km C4}{d:Rat×Rat}{M W:Nat}
theorem Uv.fstB (D:Uv cs ds d M W):Bd M (Vh cs):=by obtain⟨a,r,l,rfl,b,c⟩:=open2 D.t1;exact D.m1 a (by simp)
theorem Uv.fstB2 (D:Uv cs ds d M W):Bd M (Vh ds):=by obtain⟨a,r,l,rfl,b,c⟩:=open2 D.t2;exact D.m2 a (by simp)
theorem Uv.lstB (D:Uv cs ds d M W):Bd M (lstM cs):=by obtain⟨a,r,l,rfl,c,b⟩:=open2 D.t1;rw[Ho b];exact D.m1 l (AAl b)
theorem Uv.lstB2 (D:Uv cs ds d M W):Bd M (lstM ds):=by obtain⟨a,r,l,rfl,c,b⟩:=open2 D.t2;rw[Ho b];exact D.m2 l (AAl b)
theorem Uv.begB (D:Uv cs ds d M W):Bd M (NT cs ds):=D.fstB.mx D.fstB2
theorem Uv.endB (D:Uv cs ds d M W):Bd M (Na cs ds):=D.lstB.mn D.lstB2
theorem Uv.tog (D:Uv cs ds d M W)(h:NT cs ds<Na cs ds):wV cs ds (NT cs ds) (Na cs ds):=by obtain⟨a,r,l,rfl,e,c⟩:=open2 D.t1;obtain⟨g,i,j,rfl,f,b⟩:=open2 D.t2;unfold NT Na at h ⊢;rw[RJ,RJ,Ho c,Ho b] at h ⊢;exact nW e f c b h
end
def ut (cs ds:km C4)(d:Rat×Rat):km Pc:=if NT cs ds<Na cs ds then qQ cs ds d (rP cs ds) else []
abbrev Ox:AS:=
 (AZ (Ak (Ev B5 (AB (FI (B2 (HC (aV 0)) 2 [3] (IJ 2 (AY (An 0) (AY (An 1) Bm))) EW (AX DV (aV 0) (AX RF (aV 2) (aV 1))))) AL)) (An 4))
   (Ao (Az (AB (aV 4) (AB (aV 1) (AB (aa (aV 2) (aV 3)) AL))))))
abbrev M8:AS:=
 (AZ (Ak (AN 1 CU (AB (aV 0) AL)) (An 3))
   Ox)
def De:AF:=As 5 M8
def R0 {a b c:PV}{Q:PV->Prop}(h:M8 ⟨λ_=>Q .non,Q,λ_=>False,λ_=>False⟩ [some (.val a),some (.val b),some (.val c),none,none]):De [a,b,c] Q:=h
abbrev S6:AS:=
 (AZ (ae 5 6 7 1 3 (AX Aj (aV 0) (aC (.int 2))) (AX Aj (aV 2) (aC (.int 2))))
   (Ao (Az (AB (aV 4) (AB (Ev (kZ max) (AB (AX Aj (aV 0) (aC (.int 1))) (AB (AX Aj (aV 2) (aC (.int 1))) AL))) (AB (aV 5) AL))))))
abbrev S5:AS:=
 (AZ (Ak (Ev B5 (AB (FI (B2 (oC (AB (AX Aj (aV 0) (aC (.int 0))) (AB (AX Aj (aV 2) (aC (.int 0))) AL))) 2 [1,3] (IJ 2 (AY (An 0) (AY (An 1) Bm))) EW (AX A4 (AX DV (aV 2) (aV 0)) (AX DV (aV 3) (aV 1))))) AL)) (An 4))
   S6)
def HA:AF:=As 8 S5
def WQ {a b c d:PV}{Q:PV->Prop}(h:S5 ⟨λ_=>Q .non,Q,λ_=>False,λ_=>False⟩ [some (.val a),some (.val b),some (.val c),some (.val d),none,none,none,none]):HA [a,b,c,d] Q:=h
abbrev Po:AS:=
 (Ao (AN 4 HA (AB (aV 0) (AB (MC E4 (AX Aj (AX Aj (aV 1) (aC (.int 0))) (aV 2))) (AB (aV 1) (AB (AX Aj (AX Aj (aV 0) (aC (.int 0))) (aV 2)) AL))))))
def Et:AF:=As 3 Po
def UX {a b c:PV}{Q:PV->Prop}(h:Po ⟨λ_=>Q .non,Q,λ_=>False,λ_=>False⟩ [some (.val a),some (.val b),some (.val c)]):Et [a,b,c] Q:=h
abbrev M4:AS:=
 (AZ (Ak (AX Aj (AX Aj (aV 0) (aC (.int 0))) (aC (.int 0))) (An 1))
   (Ao (tS (AX XU (aV 1) (aC (.int 0))) (VH (AX JO (aV 1) (aC (.int 0))) (AX JO (AX Aj (aV 0) (aC (.int 1))) (aC (.int 1)))))))
def D4:AF:=As 2 M4
def Rx {a:PV}{Q:PV->Prop}(h:M4 ⟨λ_=>Q .non,Q,λ_=>False,λ_=>False⟩ [some (.val a),none]):D4 [a] Q:=h
abbrev Qn:AS:=
 (AZ (Ak (AX Aj (AX Aj (aV 0) (aC (.int 0))) (aV 1)) (An 3))
   (Ao (fH (Al (AX Z7 (aV 3) (aC (.int 0)))) (Az (AB (MC E4 (aV 2)) (AB (aV 3) AL))) (Az (AB (aV 2) (AB (MC E4 (aV 3)) AL))))))
abbrev Pq:AS:=
 (AZ (Ak (AX Aj (AX Aj (aV 0) (aC (.int 0))) (aC (.int 0))) (An 2))
   Qn)
def Di:AF:=As 4 Pq
def UZ {a b:PV}{Q:PV->Prop}(h:Pq ⟨λ_=>Q .non,Q,λ_=>False,λ_=>False⟩ [some (.val a),some (.val b),none,none]):Di [a,b] Q:=h
abbrev Lw:AS:=
 (AZ (Bb (Al (AN 2 Ai (AB (aV 4) (AB (aV 3) AL)))) (Ao (AX Z7 (AX Aj (AX Aj (aV 0) (aC (.int 0))) (aV 2)) (aC (.int 0)))) BE)
   (Ao (AX Z7 (AX Aj (aV 0) (aC (.int 1))) (AX Aj (aV 1) (aC (.int 1))))))
abbrev Lv:AS:=
 (AZ (Bb (Al (AN 2 Ai (AB (aV 3) (AB (aV 4) AL)))) (Ao (AX XU (AX Aj (AX Aj (aV 0) (aC (.int 0))) (aV 2)) (aC (.int 0)))) BE)
   Lw)
abbrev Lu:AS:=
 (AZ (Ak (AN 2 Di (AB (aV 1) (AB (aV 2) AL))) (An 4))
   Lv)
abbrev JX:AS:=
 (AZ (Ak (AN 2 Di (AB (aV 0) (AB (aV 2) AL))) (An 3))
   Lu)
def Ds:AF:=As 5 JX
def OE {a b c:PV}{Q:PV->Prop}(h:JX ⟨λ_=>Q .non,Q,λ_=>False,λ_=>False⟩ [some (.val a),some (.val b),some (.val c),none,none]):Ds [a,b,c] Q:=h
abbrev O3:AS:=
 (AZ (E3 (HC (aV 0)) (An 4) (Bb (Gi (Al (AX Z7 (AX DV (AX Aj (AX Aj (aV 4) (aC (.int 0))) (aV 1)) (aV 2)) (aC (.int 0)))) (F2 (Al (AX HE (aV 3) (aC .non))) (Al (AN 3 Ds (AB (aV 4) (AB (aV 3) (AB (aV 1) AL))))))) (Ak (aV 4) (An 3)) BE))
   (Ao (aV 3)))
abbrev NB:AS:=
 (AZ (Ak (aC .non) (An 3))
   O3)
def Cw:AF:=As 5 NB
def R1 {a b c:PV}{Q:PV->Prop}(h:NB ⟨λ_=>Q .non,Q,λ_=>False,λ_=>False⟩ [some (.val a),some (.val b),some (.val c),none,none]):Cw [a,b,c] Q:=h
abbrev Ow:AS:=
 (AZ (Ak (AN 3 Et (AB (AN 3 Cw (AB (aV 0) (AB (aV 1) (AB (aC (.int 1)) AL)))) (AB (aV 3) (AB (aV 1) AL)))) (An 4))
   (Ao (fH (Al (AN 1 D4 (AB (aV 4) AL))) (aV 4) (aC .non))))
abbrev Ov:AS:=
 (AZ (Bb (Al (AX HE (aV 3) (aC .non))) (Ao (aC .non)) BE)
   Ow)
abbrev Ou:AS:=
 (AZ (Ak (AN 3 Cw (AB (aV 0) (AB (aV 1) (AB (MC E4 (aC (.int 1))) AL)))) (An 3))
   Ov)
abbrev M3:AS:=
 (AZ (E3 (HC (aV 0)) (An 2) (Bb (Gi (Al (AX JO (AX Aj (AX Aj (aV 2) (aC (.int 0))) (aV 1)) (aC (.int 0)))) (Al (AN 1 D4 (AB (aV 2) AL)))) (Ao (aV 2)) BE))
   Ou)
def D3:AF:=As 5 M3
def J6 {a b:PV}{Q:PV->Prop}(h:M3 ⟨λ_=>Q .non,Q,λ_=>False,λ_=>False⟩ [some (.val a),some (.val b),none,none,none]):D3 [a,b] Q:=h
abbrev O2:AS:=
 (AZ (Ak (AN 2 Di (AB (aV 4) (AB (aV 1) AL))) (An 5))
   (Ao (Az (AB (aV 3) (AB (AX IK (aC (.int 1)) (AX Aj (aV 2) (aC (.int 1)))) (AB (AN 2 GI (AB (AX Aj (aV 5) (aC (.int 0))) (AB (AX Aj (aV 5) (aC (.int 1))) AL))) AL))))))
abbrev O1:AS:=
 (AZ (Bb (Al (AX HE (aV 4) (aC .non))) (Ao (Az (AB (aV 3) (AB (AX IK (aC (.int 1)) (AX Aj (aV 2) (aC (.int 1)))) (AB (aC .non) AL))))) BE)
   O2)
abbrev O0:AS:=
 (AZ (Ak (AN 3 Cw (AB (aV 0) (AB (aV 1) (AB (MC E4 (aC (.int 1))) AL)))) (An 4))
   O1)
abbrev Oz:AS:=
 (AZ (Ak (AN 2 GI (AB (AX Aj (aV 3) (aC (.int 0))) (AB (AX Aj (aV 3) (aC (.int 1))) AL))) (An 3))
   O0)
abbrev Oy:AS:=
 (AZ (Ak (AN 2 Di (AB (aV 2) (AB (aV 1) AL))) (An 3))
   Oz)
abbrev M9:AS:=
 (AZ (Ak (AN 3 Cw (AB (aV 0) (AB (aV 1) (AB (aC (.int 1)) AL)))) (An 2))
   Oy)
def D7:AF:=As 6 M9
def J7 {a b:PV}{Q:PV->Prop}(h:M9 ⟨λ_=>Q .non,Q,λ_=>False,λ_=>False⟩ [some (.val a),some (.val b),none,none,none,none]):D7 [a,b] Q:=h
structure DH where
 c0:Int
 c1:Int
 s:Int
 w:List (Int×Int)
def Bo (p:DH):PV:= .tup [.tup [.int p.c0, .int p.c1], .int p.s, .dk p.w]
structure GL (N:Nat) (p:DH):Prop where
 a:p.c0.natAbs<2^N
 b:p.c1.natAbs<2^N
 w:∀e∈p.w,e.2.natAbs<2^N
 l:p.w.length<=12
 s:p.s=0\/p.s=1
instance{p:DH}:Ix (Bo p) 0 (.tup [.int p.c0, .int p.c1]):=⟨rfl⟩
instance{p:DH}:Ix (Bo p) 1 (.int p.s):=⟨rfl⟩
instance{p:DH}:Ix (Bo p) 2 (.dk p.w):=⟨rfl⟩
def kT {a b:AE}{τ:BL}{Q:PV->Prop}:aa a b τ Q=a τ λx=>b τ λy=>aB x λi=>aB y λj=>Q (.dk [(i,j)]):=by
 unfold aa;congr 1
 funext x
 congr 1
 funext y
 cases x <;> cases y <;> rfl
instance{a b:AE}{τ:BL}{Q:PV->Prop}:Wp (aa a b τ Q) (a τ λx=>b τ λy=>aB x λi=>aB y λj=>Q (.dk [(i,j)])):=⟨λh=>by rw[kT];exact h⟩
def UT (p:DH)(t:Rat):Rat:=p.c0+p.c1*t
def OT {S:Nat}{r:Rat}{W N:Nat}(b:Bd W r)(h:S<2^N):(Zl S r).natAbs<2^(W+N):=by unfold Zl;rw[ACv];refine V5 b.top ?_;rw[AB1 _ (by omega),<-ACE,AB6];exact AAp (ACD ..) h
def WZ {a b:Rat}{W:Nat}(ba:Bd W a)(j:Bd W b)(h:W<=1400){Q:PV->Prop}(q:Q (.int (Gs [a,b] :Nat))):CU [.tup [fr a,fr b]] Q:=by
 have hx:∀x∈ [a,b],Bd W x:=by simp;exact⟨ba,j⟩
 apply J8;ac_rfl;show EO _ _ _ ([a,b].map fr) _;refine Dd fr (λd vs τ=>∃f g,τ= [some (.val (.tup [fr a,fr b])),some (.val (.int (Gs d:Nat))),f,g]) ?_ ?_ ⟨_,_,rfl⟩
 .rintro τ ⟨f,g,rfl⟩;ac_rfl;exact q
 .rintro d c vs e τ R k ⟨f,g,rfl⟩;have hu:∀x∈d,Bd W x:=λx l=>hx x (by rw[<-e];simp[l]);have ul:d.length<=6:=by have:=congrArg List.length e;simp at this;omega
  obtain⟨h1,h2,h3⟩:=SB d.length d rfl hu;have i:=(hx c (by rw[<-e];simp)).bot;have p:d.length*W<=6*1400:=ADs ul h;have r:0<Nat.gcd (Gs d) c.den:=ACd _ c.den_pos;have gl:Nat.gcd (Gs d) c.den<2^8900:=BH (AAp (ADf c.den_pos (ACw ..)) i) (by omega);ac_rfl;refine Lb _ _ _ ?_;ac_rfl;refine⟨⟨by omega,by simpa using gl⟩, ?_⟩;have o:((c.den:Nat):Int).fdiv ((Nat.gcd (Gs d) c.den:Nat):Int)=((c.den/Nat.gcd (Gs d) c.den:Nat):Int):=by rw[AB1 _ (by omega),ACE]
  rw[o];have dl:c.den/Nat.gcd (Gs d) c.den<2^1400:=BH (AAp (ACD ..) i) h;ac_rfl;refine⟨MulOk.of (m:=8401) (n:=1400) (by simpa using BH h3 (by omega)) (by rw[AB6];exact dl), ?_⟩;exact k _ ⟨some (.val (.int c.num)),some (.val (.int c.den)),by rw[YE,ADh];rfl⟩
def dC {a b:Rat}{W:Nat}{s n:Int}(ba:Bd W a)(c:Bd W b)(d:W<=1400)(hs:s=0\/s=1){Q:PV->Prop}(q:∀(p:DH) (S:Rat),p.s=s->GL (3*W+1) p->0<S->(p.c1:Rat)=b*S->(p.c0:Rat)=a*S->Q (Bo p)):De [.tup [fr a,fr b], .int s, .int n] Q:=by
 obtain⟨h1,h2,h3⟩:=SB (W:=W) 2 [a,b] rfl (by simp;exact⟨ba,c⟩);have f:(0:Rat)<((Gs [a,b] :Nat):Rat):=by exact_mod_cast h1
 have g:=OU (h2 a (by simp));have h:=OU (h2 b (by simp));have i:=OT ba h3;have j:=OT c h3;have e:=q ⟨Zl (Gs [a,b]) a,Zl (Gs [a,b]) b,s, [(n,(Gs [a,b] :Nat))]⟩ ((Gs [a,b] :Nat):Rat) rfl ⟨BH i (by omega),BH j (by omega),by simp;exact BH h3 (by omega),by simp,hs⟩ f h g;have k:((Gs [a,b] :Int).fdiv (a.den:Int)).natAbs<2^2801:=by rw[AB1 _ (by omega),<-ACE,AB6];exact AAp (ACD ..) (BH h3 (by omega))
 have l:((Gs [a,b] :Int).fdiv (b.den:Int)).natAbs<2^2801:=by rw[AB1 _ (by omega),<-ACE,AB6];exact AAp (ACD ..) (BH h3 (by omega))
 have o:0<a.den:=a.den_pos;have r:0<b.den:=b.den_pos;have l1:=(ba.mono d).bot;have m:=(c.mono d).bot;apply R0;ac_rfl;refine WZ ba c d ?_;unfold Zl at e;generalize Gs [a,b] =S at *;repeat' array_get_dec
 refine⟨⟨by omega,by rw[AB6];exact BH l1 (by decide)⟩, ?_⟩;repeat' array_get_dec
 refine⟨MulOk.of (ba.mono d).top k, ?_⟩;repeat' array_get_dec
 refine⟨⟨by omega,by rw[AB6];exact BH m (by decide)⟩, ?_⟩;repeat' array_get_dec
 refine⟨MulOk.of (c.mono d).top l, ?_⟩;repeat' array_get_dec
 exact e
def WW {many:Int}{m:km (Int×Int)}:(CQ many m).length<=m.length:=by
 have key:∀(m a:km (Int×Int)),(m.foldl (λa p=>OA a p.1 (many*p.2)) a).length<=a.length+m.length:=by
  intro m;induction m with
  | nil=>intro a;simp
  | cons x r ih=> intro a;rw[AAz,AAc];have:=ih (OA a x.1 (many*x.2));have:=OB a x.1 (many*x.2);omega
 have:=key m [];simpa[CQ] using this
def Zs {p r:DH}{N:Nat}{many more:Int}(hp:GL N p)(d:GL N r)(h1:many.natAbs<2^N)(h2:more.natAbs<2^N)(hN:N<=10000){Q:PV->Prop}(q:Q (Bo ⟨many*p.c0+more*r.c0,many*p.c1+more*r.c1,max p.s r.s,EC more (CQ many p.w) r.w⟩)):HA [Bo p, .int many,Bo r, .int more] Q:=by
 have c:∀x y:Int,x.natAbs<2^N->y.natAbs<2^N->MulOk x y:=λx y a b=> .of a b;have sl:(CQ many p.w).length<=p.w.length:=WW;have f:=hp.l;have g:=d.l;apply WQ;repeat' array_get_dec
 refine⟨c _ _ h1 hp.a, ?_⟩;repeat' array_get_dec
 refine⟨c _ _ h2 d.a, ?_⟩;repeat' array_get_dec
 refine⟨c _ _ h1 hp.b, ?_⟩;repeat' array_get_dec
 refine⟨c _ _ h2 d.b, ?_⟩;repeat' array_get_dec
 refine⟨⟨AAj rfl,AAj rfl,AAj rfl⟩, ?_⟩;repeat' array_get_dec
 refine⟨many,rfl,Xo (n:=12) f (by decide),λe he=>c _ _ h1 (hp.w e he), ?_⟩;show AX Aj (aV 2) (aC (.int 2)) [some (AV.val (Bo p)),some (AV.val (PV.int many)),some (AV.val (Bo r)),some (AV.val (PV.int more)),some (AV.val (PV.tup [PV.int (many*p.c0+more*r.c0),PV.int (many*p.c1+more*r.c1)])),none,none,none] _;repeat' array_get_dec
 refine⟨more,rfl,Xo (n:=24) (by omega) (by decide),λe he=>c _ _ h2 (d.w e he), ?_⟩;simp only[AER,List.set_cons_zero];repeat' array_get_dec
 exact q
def VX {p r:DH}{N:Nat}(hp:GL N p)(a:GL N r)(hN:N<=10000){Q:PV->Prop}(q:Q (Bo ⟨-r.c1*p.c0+p.c1*r.c0, -r.c1*p.c1+p.c1*r.c1,max p.s r.s,EC p.c1 (CQ (-r.c1) p.w) r.w⟩)):Et [Bo p,Bo r, .int 1] Q:=by
 apply UX;repeat' array_get_dec
 exact Zs hp a (by rw[ACb];exact a.b) hp.b hN q
def F7 (p:DH):gn:=decide (p.c0<0\/(p.c0=0/\p.s=1))
def Nw {p:DH}{Q:PV->Prop}(q:Q (.bl (F7 p))):D4 [Bo p] Q:=by
 unfold F7 at q;apply Rx;repeat' array_get_dec
 .rename_i h;rw[AAi (.inl h)] at q;exact q
 .rename_i h1 h2;rw[show decide (p.c0<0\/p.c0=0/\p.s=1)=decide (p.s=1) by rw[ADg];omega] at q;exact q
 .rename_i h1 h2;rw[AAS (by omega)] at q;exact q
def B4 (p:DH):Int×Int:=if 0<p.c1 then (-p.c0,p.c1) else (p.c0, -p.c1)
def KG {p:DH}{Q:PV->Prop}(q:Q (.tup [.int (B4 p).1, .int (B4 p).2])):Di [Bo p, .int 1] Q:=by
 unfold B4 at q;apply UZ;repeat' array_get_dec
 .rename_i h;rw[AAD h] at q;exact q
 .rename_i h;rw[AAC h] at q;exact q
def EV (p:DH):Rat:= -(p.c0:Rat)/p.c1
def Wo (p r:DH):gn:=if (B4 p).1*(B4 r).2<(B4 r).1*(B4 p).2 then decide (p.c1<0) else if (B4 r).1*(B4 p).2<(B4 p).1*(B4 r).2 then decide (0<p.c1) else decide (r.s<p.s)
def GB {p:DH}{N:Nat}(h:GL N p):(B4 p).1.natAbs<2^N/\(B4 p).2.natAbs<2^N:=by
 unfold B4;have:=h.a;have:=h.b;split
 .rw [ACb];exact⟨h.a,h.b⟩
 .rw [ACb];exact⟨h.a,h.b⟩
def NS {a b c d:Int}{N:Nat}(h1:a.natAbs<2^N)(h2:b.natAbs<2^N)(h3:c.natAbs<2^N)(e:d.natAbs<2^N)(hN:N<=10000){Q:PV->Prop}(q:Q (.bl (decide (a*d<c*b)))):Ai [.tup [.int a, .int b], .tup [.int c, .int d]] Q:=by refine⟨.of h1 e, .of h3 h2,q⟩
def Wq {p r:DH}{N:Nat}(hp:GL N p)(d:GL N r)(hN:N<=10000){Q:PV->Prop}(q:Q (.bl (Wo p r))):Ds [Bo p,Bo r, .int 1] Q:=by
 obtain⟨a,b⟩:=GB hp;obtain⟨c,b2⟩:=GB d;unfold Wo at q;apply OE;ac_rfl;refine KG ?_;ac_rfl;refine KG ?_;ac_rfl;refine NS a b c b2 hN ?_;ac_rfl
 .rename_i h;rw[AAD h] at q;exact q
 rename_i h;rw[AAC h] at q;refine NS c b2 a b hN ?_;ac_rfl
 .rename_i h;rw[AAD h] at q;exact q
 .rename_i h;rw[AAC h] at q;exact q
def holds (p:DH)(t:Rat):Prop:=0<UT p t\/(UT p t=0/\p.s=0)
def C9 {p:DH}(h:p.c1≠0):0<(B4 p).2/\((B4 p).1:Rat)=EV p*((B4 p).2:Rat)/\(p.c0:Rat)= - (EV p*p.c1):=by
 have hc:(p.c1:Rat)≠0:=by exact_mod_cast h
 have e:EV p*(p.c1:Rat)= -(p.c0:Rat):=by unfold EV;exact Rat.div_mul_cancel hc
 unfold B4;split
 .rename_i h1;refine⟨h1, ?_, ?_⟩
  .rw [e];push_cast;rfl
  .rw [e];grind
 .rename_i h1;refine⟨by show 0 < -p.c1;omega, ?_, ?_⟩
  .push_cast;grind
  .rw [e];grind
def YO {p r:DH}(hp:p.c1≠0)(a:r.c1≠0):(B4 p).1*(B4 r).2<(B4 r).1*(B4 p).2↔EV p<EV r:=by
 obtain⟨b,c,_⟩:=C9 hp;obtain⟨d,b2,_⟩:=C9 a;have e:(0:Rat)<((B4 p).2:Rat):=by exact_mod_cast b
 have f:(0:Rat)<((B4 r).2:Rat):=by exact_mod_cast d
 rw[<-AC8,ADv,ADv,c,b2];generalize ((B4 p).2:Rat)=x at *;generalize ((B4 r).2:Rat)=y at *;have g:0<x*y:=ADw e f;rw[show EV p*x*y=EV p*(x*y) by grind,show EV r*y*x=EV r*(x*y) by grind];exact Rat.mul_lt_mul_right g
def X5 {p:DH}(h:p.c1≠0)(t:Rat):UT p t=p.c1*(t-EV p):=by obtain⟨_,_,e⟩:=C9 h;unfold UT;rw[e];grind
def DC {p:DH}(h:0<p.c1)(t:Rat):holds p t↔(EV p<t\/(EV p=t/\p.s=0)):=by
 have hc:(0:Rat)<p.c1:=by exact_mod_cast h
 unfold holds;rw[X5 (by omega)];have a:0<(p.c1:Rat)*(t-EV p)↔EV p<t:=by rw[ACj hc];grind
 have b:(p.c1:Rat)*(t-EV p)=0↔EV p=t:=by rw[ACk];grind
 rw[a,b]
def E7 {p:DH}(h:p.c1<0)(t:Rat):holds p t↔(t<EV p\/(EV p=t/\p.s=0)):=by
 have hc:(0:Rat) < -(p.c1:Rat):=by
  have:(p.c1:Rat)<0:=by exact_mod_cast h
  grind
 unfold holds;rw[X5 (by omega)];have a:0<(p.c1:Rat)*(t-EV p)↔t<EV p:=by rw[show (p.c1:Rat)*(t-EV p)= -(p.c1:Rat)*(EV p-t) by grind,ACj hc];grind
 have b:(p.c1:Rat)*(t-EV p)=0↔EV p=t:=by rw[ACk];grind
 rw[a,b]
instance{p:DH}{Q:PV->Prop}:Wp (HE (Bo p) .non Q) (Q (.bl false)):=⟨id⟩
def MM:kd DH->PV|none=> .non|some p=>Bo p
def Ur (a:Int)(o:kd DH)(p:DH):kd DH:=if 0<p.c1*a then (match o with | none=>some p|some r=>if Wo p r=true then some p else some r) else o
def tight (a:Int)(b:km DH):kd DH:=b.foldl (Ur a) none
def eQ {p r:DH}{b:Int}(h:b=1\/b= -1)(hp:0<p.c1*b)(a:0<r.c1*b)(sp:p.s=0\/p.s=1)(e:r.s=0\/r.s=1)(t:Rat):(Wo p r=true->holds p t->holds r t)/\(Wo p r=false->holds r t->holds p t):=by
 have c:p.c1≠0:=by intro z;rw[z] at hp;simp at hp
 have d:r.c1≠0:=by intro z;rw[z] at a;simp at a
 unfold Wo;simp only[YO c d,YO d c];rcases h with rfl|rfl
 .have hp:0<p.c1:=by omega
  have a:0<r.c1:=by omega
  rw[DC hp,DC a];split
  .simp [show ¬p.c1<0 by omega];grind
  .split
   .simp [hp];grind
   .simp;grind
 .have hp:p.c1<0:=by omega
  have a:r.c1<0:=by omega
  rw[E7 hp,E7 a];split
  .simp [hp];grind
  .split
   .simp [show ¬0<p.c1 by omega];grind
   .simp;grind
structure kB (sg:Int) (ps:List DH) (o:Option DH):Prop where
 no:o=none->∀p∈ps,¬0<p.c1*sg
 so:∀r,o=some r->r∈ps/\0<r.c1*sg/\∀p∈ps,0<p.c1*sg->∀t,holds r t->holds p t
def Zu {b:Int}(h:b=1\/b= -1){f:km DH}{o:kd DH}{p:DH}(hs:∀p∈f,p.s=0\/p.s=1)(hp:p.s=0\/p.s=1)(i:kB b f o):kB b (f ++ [p]) (Ur b o p):=by
 unfold Ur;split
 .rename_i h1;cases o with
  | none=>
    refine⟨λz=>(by cases z),λr e=> ?_⟩;cases e;refine⟨by simp,h1,λx hx h2 t a=> ?_⟩;rcases AAL.mp hx with hx|hx
    .exact absurd h2 (i.no rfl x hx)
    .rw [AAR.mp hx];exact a
  | some r=>
    obtain⟨m,c,d⟩:=i.so r rfl;have g:=eQ h h1 c hp (hs r m);dsimp only;split
    .rename_i h2;refine⟨λz=>(by cases z),λj e=> ?_⟩;cases e;refine⟨by simp,h1,λx hx h3 t a=> ?_⟩;rcases AAL.mp hx with hx|hx
     .exact d x hx h3 t ((g t).1 h2 a)
     .rw [AAR.mp hx];exact a
    .rename_i h2;refine⟨λz=>(by cases z),λj e=> ?_⟩;cases e;refine⟨by simp[m],c,λx hx h3 t a=> ?_⟩;rcases AAL.mp hx with hx|hx
     .exact d x hx h3 t a
     .rw [AAR.mp hx];exact(g t).2 (by simpa using h2) a
 .rename_i h1;refine⟨λz x hx=> ?_,λr e=> ?_⟩
  .rcases AAL.mp hx with hx|hx
   .exact i.no z x hx
   .rw [AAR.mp hx];exact h1
  .obtain ⟨m,c,d⟩:=i.so r e;refine⟨by simp[m],c,λx hx h3 t a=> ?_⟩;rcases AAL.mp hx with hx|hx
   .exact d x hx h3 t a
   .rw [AAR.mp hx] at h3;exact absurd h3 h1
def QZ (a:Int)(b:km DH)(p:DH):tight a (b ++ [p])=Ur a (tight a b) p:=by unfold tight;rw[ACg];rfl
theorem Bt {b:Int}(h:b=1\/b= -1):∀(n:Nat) (a:km DH),a.length=n->(∀p∈a,p.s=0\/p.s=1)->kB b a (tight b a)
 | 0,a,e,_=>by have:a= [] :=AE1.mp e;subst this;exact⟨λ_=>by simp,λr e=>by cases e⟩
 | n+1,a,e,hs=>by obtain⟨ys,r,rfl⟩:∃ys r,a=ys ++ [r] :=⟨a.dropLast,a.getLast (by intro z;subst z;cases e),(AC7 _).symm⟩;rw[QZ];exact Zu h (λp hp=>hs p (by simp[hp])) (hs r (by simp)) (Bt h n ys (by simpa using e) λp hp=>hs p (by simp[hp]))
def C8 {v:PV}{f:km DH}{N:Nat}{c:Int}(hv:v= .lst (f.map Bo))(h:c=1\/c= -1)(ok:∀p∈f,GL N p)(hN:N<=10000)(hl:f.length<=100){Q:PV->Prop}(q:Q (MM (tight c f))):Cw [v, .int 1, .int c] Q:=by
 subst hv;have t:c.natAbs<2^N\/N=0:=by
  rcases Nat.eq_zero_or_pos N with z|z
  .exact .inr z
  .left;have:2^1<=2^N:=ACZ (by decide) z;omega
 apply R1;ac_rfl;refine Dd Bo (λd vs τ=>∃g,τ= [some (.val (.lst (f.map Bo))),some (.val (.int 1)),some (.val (.int c)),some (.val (MM (tight c d))),g]) ?_ ?_ ⟨_,rfl⟩
 .rintro τ ⟨g,rfl⟩;ac_rfl;exact q
 .rintro d p vs e τ R i ⟨g,rfl⟩;have j:GL N p:=ok p (by rw[<-e];simp);have k:∀x∈d,GL N x:=λx hx=>ok x (by rw[<-e];simp[hx]);have l:=Bt h d.length d rfl λx hx=>(k x hx).s;have a:=i [some (.val (.lst (f.map Bo))),some (.val (.int 1)),some (.val (.int c)),some (.val (MM (tight c (d ++ [p])))),some (.val (Bo p))] ⟨_,rfl⟩;clear i;rw[QZ] at a;unfold Ur at a;have m1:MulOk p.c1 c:= .of (m:=10000) (n:=10000) (BH j.b hN) (BH (m:=1) (by omega) (by decide));cases hq:tight c d with
  | none=>
    rw[hq] at a;rw[show MM none=PV.non from rfl];ac_rfl
    .rename_i z;rw[AAD z] at a;exact a
    .rename_i z;rw[AAC z] at a;exact a
  | some r=>
    rw[hq] at a;have o:=k r (l.so r hq).1;rw[show MM (some r)=Bo r from rfl];ac_rfl
    .rename_i z;rw[AAD z] at a;refine Wq j o hN ?_;dsimp only at a;cases hb:Wo p r with
     | true=> rw[hb,AAD rfl] at a;ac_rfl;exact a
     | false=> rw[hb,AAC (by decide)] at a;ac_rfl;exact a
    .rename_i z;rw[AAC z] at a;exact a
def SX {p:DH}(h:p.c1≠0):Rat.divInt (B4 p).1 (B4 p).2=EV p:=by
 obtain⟨a,b,_⟩:=C9 h;have hz:((B4 p).2:Rat)≠0:=by
  have:(0:Rat)<((B4 p).2:Rat):=by exact_mod_cast a
  grind
 rw[ACi,b];exact Rat.mul_div_cancel hz
def dR {v:PV}{a:km DH}{N:Nat}{l h:DH}(hv:v= .lst (a.map Bo))(ok:∀p∈a,GL N p)(hN:N<=8900)(hl:a.length<=100)(b:tight 1 a=some l)(c:tight (-1) a=some h){Q:PV->Prop}(q:Q (.tup [fr (EV l), .int (1-l.s),fr (EV h)])):D7 [v, .int 1] Q:=by
 have d:=(Bt (.inl rfl) a.length a rfl λx hx=>(ok x hx).s).so l b;have e:=(Bt (.inr rfl) a.length a rfl λx hx=>(ok x hx).s).so h c;have f:l.c1≠0:=by have:=d.2.1;omega
 have g:h.c1≠0:=by have:=e.2.1;omega
 have i:=GB (ok l d.1);have b2:=GB (ok h e.1);have j:=(C9 f).1;have k:=(C9 g).1;rw[<-SX f,<-SX g] at q;apply J7;ac_rfl;refine C8 hv (.inl rfl) ok (by omega) hl ?_;rw[b,show MM (some l)=Bo l from rfl];ac_rfl;refine KG ?_;ac_rfl;refine D6 _ _ (by omega) (BH i.2 hN) _ ?_;ac_rfl;refine C8 hv (.inr rfl) ok (by omega) hl ?_;rw[c,show MM (some h)=Bo h from rfl];ac_rfl;refine KG ?_;ac_rfl;refine D6 _ _ (by omega) (BH b2.2 hN) _ ?_;ac_rfl;exact q
def gD {a:km DH}{l h:DH}(hs:∀p∈a,p.s=0\/p.s=1)(m:tight 1 a=some l)(n:tight (-1) a=some h)(h1:h.s=1)(o:∀p∈a,p.c1=0->F7 p=false)(t:Rat):(∀p∈a,holds p t)↔((EV l<t\/(EV l=t/\l.s=0))/\t<EV h):=by
 have c:=(Bt (.inl rfl) a.length a rfl hs).so l m;have d:=(Bt (.inr rfl) a.length a rfl hs).so h n;have f:0<l.c1:=by have:=c.2.1;omega
 have g:h.c1<0:=by have:=d.2.1;omega
 constructor
 .intro i;have e:=(DC f t).mp (i l c.1);have b:=(E7 g t).mp (i h d.1);refine⟨e, ?_⟩;rcases b with b|b
  .exact b
  .omega
 .rintro ⟨e,b⟩ p hp;rcases Int.lt_trichotomy p.c1 0 with z|z|z
  .exact d.2.2 p hp (by omega) t ((E7 g t).mpr (.inl b))
  .have:=o p hp z;unfold F7 at this;have this:=ABj this;unfold holds UT;rw[z];rcases hs p hp with j|j
   .have:0<=p.c0:=by omega
    rcases Int.lt_or_eq_of_le this with k|k
    .left;have:(0:Rat)<p.c0:=by exact_mod_cast k
     grind
    .right;rw[<-k];exact⟨by grind,j⟩
   .have k:0<p.c0:=by omega
    left;have:(0:Rat)<p.c0:=by exact_mod_cast k
    grind
  .exact c.2.2 p hp (by omega) t ((DC f t).mpr e)
def bK {v:PV}{a:km DH}{N:Nat}(hv:v= .lst (a.map Bo))(ok:∀p∈a,GL N p)(hN:N<=8900)(hl:a.length<=100)(lo:∃p∈a,0<p.c1)(hi:∃p∈a,p.c1<0)(hs:∀p∈a,p.c1<0->p.s=1){Q:PV->Prop}(J:∀l h,tight 1 a=some l->tight (-1) a=some h->EV l<EV h->h.s=1->(∀p∈a,p.c1=0->F7 p=false)->Q .non)(D:∀p,(∀t,¬∀p∈a,holds p t)->Q (Bo p)):D3 [v, .int 1] Q:=by
 have E:=Bt (.inl rfl) a.length a rfl λx hx=>(ok x hx).s;have F:=Bt (.inr rfl) a.length a rfl λx hx=>(ok x hx).s;obtain⟨l,n⟩:∃l,tight 1 a=some l:=by
  cases e:tight 1 a with
  | some l=>exact⟨l,rfl⟩
  | none=>obtain⟨p,hp,h⟩:=lo;exact absurd (by omega) (E.no e p hp)
 obtain⟨h,o⟩:∃h,tight (-1) a=some h:=by
  cases e:tight (-1) a with
  | some l=>exact⟨l,rfl⟩
  | none=>obtain⟨p,hp,h⟩:=hi;exact absurd (by omega) (F.no e p hp)
 have f:=E.so l n;have g:=F.so h o;have G:0<l.c1:=by have:=f.2.1;omega
 have r:h.c1<0:=by have:=g.2.1;omega
 have K:=hs h g.1 r;apply J6;ac_rfl;subst hv;refine Dd Bo (λH vs τ=>(∀p∈H,p.c1=0->F7 p=false)/\∃u i j,τ= [some (.val (.lst (a.map Bo))),some (.val (.int 1)),u,i,j]) ?_ ?_ ⟨by simp,_,_,_,rfl⟩
 .rintro τ ⟨y,u,i,j,rfl⟩;have A:(0:Rat)<l.c1:=by exact_mod_cast G
  have B:(0:Rat) < -(h.c1:Rat):=by
   have:(h.c1:Rat)<0:=by exact_mod_cast r
   grind
  have L:((-h.c1*l.c0+l.c1*h.c0:Int):Rat)=(l.c1 * -(h.c1:Rat))*(EV h-EV l):=by
   push_cast
   rw[(C9 (p:=l) (by omega)).2.2,(C9 (p:=h) (by omega)).2.2];grind
  have M:max l.s h.s=1:=by have:=(ok l f.1).s;omega
  have pos:=ADw A B;have key:EV l<EV h↔0 < -h.c1*l.c0+l.c1*h.c0:=by rw[<-AC8,L,ADx,ACj pos];grind
  ac_rfl;refine C8 rfl (.inr rfl) ok (by omega) hl ?_;rw[o,show MM (some h)=Bo h from rfl];ac_rfl;refine C8 rfl (.inl rfl) ok (by omega) hl ?_;rw[n,show MM (some l)=Bo l from rfl];ac_rfl;refine VX (ok l f.1) (ok h g.1) (by omega) ?_;have f1:=D ⟨-h.c1*l.c0+l.c1*h.c0, -h.c1*l.c1+l.c1*h.c1,max l.s h.s,EC l.c1 (CQ (-h.c1) l.w) h.w⟩;have O:=J l h n o;generalize hb:(⟨-h.c1*l.c0+l.c1*h.c0, -h.c1*l.c1+l.c1*h.c1,max l.s h.s,EC l.c1 (CQ (-h.c1) l.w) h.w⟩:DH)=b at *;have T:b.c0= -h.c1*l.c0+l.c1*h.c0:=by rw[<-hb]
  have bs:b.s=1:=by rw[<-hb];exact M
  ac_rfl;refine Nw ?_;cases c:F7 b with
  | true=>
    unfold F7 at c;have c:=ABi c;ac_rfl;refine f1 λt m=> ?_;have U:=(DC G t).mp (m l f.1);have C:=(E7 r t).mp (m h g.1);have:EV l<EV h:=by
     rcases C with C|C
     .grind
     .omega
    have:=key.mp this;omega
  | false=> unfold F7 at c;have c:=ABj c;ac_rfl;exact O (key.mpr (by omega)) K y
 .rintro H p vs e τ R I ⟨y,u,i,j,rfl⟩;have P:p∈a:=by rw[<-e];simp
  have d:(p.c1=0->F7 p=false)->R [some (AV.val (PV.lst (List.map Bo a))),some (AV.val (PV.int 1)),some (AV.val (Bo p)),i,j] :=λh=>I _ ⟨λx hx=>by
   rcases AAL.mp hx with hx|hx
   .exact y x hx
   .rw [AAR.mp hx];exact h,_,_,_,rfl⟩
  clear I;ac_rfl
  .rename_i z;refine Nw ?_;cases c:F7 p with
   | true=>
     ac_rfl;refine D p λt m=> ?_;have:=m p P;unfold F7 at c;have c:=ABi c;unfold holds UT at this;rw[z] at this;have S:(p.c0:Rat)+((0:Int):Rat)*t=(p.c0:Rat):=by grind
     rw[S] at this;rcases this with k|⟨k,W⟩
     .have:0<p.c0:=by exact_mod_cast k
      omega
     .have:p.c0=0:=by exact_mod_cast k
      omega
   | false=> ac_rfl;exact d λ_=>c
  .rename_i z;exact d λh=>absurd h z
def fP (b e:C4)(x y:Rat):Rat:=(y-x)/(e.1-b.1)
def gG (b e:C4)(x y:Rat):Rat:=x-fP b e x y*b.1
def dE (cs:km C4):km (C4×C4):=cs.zip cs.tail
def FY {cs:km C4}(a:Ef cs){p:C4×C4}(h:p∈dE cs):p.1∈cs/\p.2∈cs/\p.1.1<p.2.1:=by obtain⟨i,hi⟩:=List.getElem?_of_mem h;unfold dE at hi;rw[List.getElem?_zip_eq_some] at hi;obtain⟨h1,h2⟩:=hi;rw[List.getElem?_tail] at h2;exact⟨ACQ h1,ACQ h2,YA a h1 h2⟩
abbrev Fm:=Rat×Rat×Int
def hF (f:Fm)(t:Rat):Prop:=0<f.1+f.2.1*t\/(f.1+f.2.1*t=0/\f.2.2=0)
structure fF (N:Nat) (f:Fm) (p:DH):Prop where
 ok:GL N p
 s:p.s=f.2.2
 ex:∃S:Rat,0<S/\(p.c0:Rat)=f.1*S/\(p.c1:Rat)=f.2.1*S
inductive O8 (N:Nat):List Fm->List DH->Prop where
 | nil:O8 N [] []
 | cons {f:Fm} {p:DH} {fs:List Fm} {ps:List DH} (h:fF N f p) (t:O8 N fs ps):O8 N (f::fs) (p::ps)
def fF.sign {N:Nat}{f:Fm}{p:DH}(h:fF N f p):(0<p.c1↔0<f.2.1)/\(p.c1<0↔f.2.1<0):=by
 obtain⟨S,c,e,d⟩:=h.ex;have a:0<p.c1↔(0:Rat)<(p.c1:Rat):=by rw[<-ADx,AC8]
 have b:p.c1<0↔(p.c1:Rat)<0:=by rw[<-ADx,AC8]
 rw[a,b,d];refine⟨?_, ?_⟩
 .rw [Rat.mul_comm,ACj c]
 .constructor
  .intro k;have:0<S*(-f.2.1):=by grind
   rw[ACj c] at this;grind
  .intro k;have:0<S*(-f.2.1):=ADw c (by grind);grind
def fF.turn {N:Nat}{f:Fm}{p:DH}(h:fF N f p)(e:f.2.1≠0):f.1+f.2.1*EV p=0:=by
 obtain⟨S,g,b,a⟩:=h.ex;have hs:S≠0:=by grind
 have c:(p.c1:Rat)≠0:=by rw[a];intro z;rcases ACk.mp z with z|z <;> contradiction
 have d:p.c1≠0:=by intro z;rw[z] at c;exact c rfl
 have:=(C9 d).2.2;rw[b,a] at this;have:S*(f.1+f.2.1*EV p)=0:=by grind
 rcases ACk.mp this with z|z
 .contradiction
 .exact z
def O8.mem {N:Nat}:∀{fs:km Fm} {e:km DH},O8 N fs e->(∀p∈e,∃f∈fs,fF N f p)/\(∀f∈fs,∃p∈e,fF N f p)/\e.length=fs.length
 | _,_, .nil=>⟨by simp,by simp,rfl⟩
 | _,_, .cons h t=>by
   obtain⟨a,b,c⟩:=t.mem;refine⟨λp hp=> ?_,λf d=> ?_,by simp[c]⟩
   .rcases AAF.mp hp with rfl|hp
    .exact ⟨_,by simp,h⟩
    .obtain ⟨f,d,k⟩:=a p hp;exact⟨f,by simp[d],k⟩
   .rcases AAF.mp d with rfl|d
    .exact ⟨_,by simp,h⟩
    .obtain ⟨p,hp,k⟩:=b f d;exact⟨p,by simp[hp],k⟩
def QJ {a b:Rat}{W:Nat}{s n:Int}(ba:Bd W a)(c:Bd W b)(d:W<=1400)(hs:s=0\/s=1){Q:PV->Prop}(q:∀p:DH,fF (3*W+1) (a,b,s) p->Q (Bo p)):De [.tup [fr a,fr b], .int s, .int n] Q:=
 dC ba c d hs λp S h1 h2 h3 e h5=>q p ⟨h2,h1,S,h3,h5,e⟩
def tH (lo hi p:T3):Prop:=(lo.1<p.1/\p.1<hi.1)/\(lo.2.1<p.2.1/\p.2.1<hi.2.1)/\(lo.2.2<p.2.2/\p.2.2<hi.2.2)
instance (lo hi p:T3):Decidable (tH lo hi p):=by unfold tH;infer_instance
def lF (lo hi:T3)(p:C4×C4)(t:Rat):Prop:=p.1.1<=t/\t<p.2.1/\tH lo hi (inter p.1 p.2 t)
def wT (lo hi:T3)(p:C4×C4)(m:Rat):Prop:=m=p.1.1\/m=p.2.1\/(p.1.1<m/\m<p.2.1/\((p.1.2.1≠p.2.2.1/\((inter p.1 p.2 m).1=lo.1\/(inter p.1 p.2 m).1=hi.1))\/(p.1.2.2.1≠p.2.2.2.1/\((inter p.1 p.2 m).2.1=lo.2.1\/(inter p.1 p.2 m).2.1=hi.2.1))\/(p.1.2.2.2≠p.2.2.2.2/\((inter p.1 p.2 m).2.2=lo.2.2\/(inter p.1 p.2 m).2.2=hi.2.2))))
def eS {p:DH}{N:Nat}(h:GL N p)(c:p.c1≠0):Bd N (EV p):=by obtain⟨a,b⟩:=GB h;rw[<-SX c];exact .divInt (by have:=(C9 c).1;omega) a b
structure aY (N:Nat) (lo hi:T3) (p:C4×C4) (s:BR):Prop where
 ok:CN N s
 fin:∃x,s.2.2=some x/\wT lo hi p x
 bmk:wT lo hi p s.1
 sem:∀t,Bk s (t,0)=true↔lF lo hi p t
structure Jd (N:Nat) (lo hi:T3) (us:List (C4×C4)) (ss:List BR):Prop where
 ok:∀s∈ss,∃p∈us,aY N lo hi p s
 all:∀p∈us,∀t,lF lo hi p t->∃s∈ss,Bk s (t,0)=true
 len:ss.length<=us.length
def Jd.more {N:Nat}{lo hi:T3}{b:km (C4×C4)}{ss:km BR}{p:C4×C4}{s:BR}(h:Jd N lo hi b ss)(k:aY N lo hi p s):Jd N lo hi (b ++ [p]) (ss ++ [s]):=by
 refine⟨λx hx=> ?_,λq hq t a=> ?_,by have:=h.len;simp;omega⟩
 .rcases AAL.mp hx with hx|hx
  .obtain ⟨q,hq,r⟩:=h.ok x hx;exact⟨q,by simp[hq],r⟩
  .rw [AAR.mp hx];exact⟨p,by simp,k⟩
 .rcases AAL.mp hq with hq|hq
  .obtain ⟨x,hx,r⟩:=h.all q hq t a;exact⟨x,by simp[hx],r⟩
  .rw [AAR.mp hq] at a;exact⟨s,by simp,(k.sem t).mpr a⟩
def Jd.st {N:Nat}{lo hi:T3}{a:km (C4×C4)}{ss:km BR}(h:Jd N lo hi a ss):∀s∈ss,CN N s:=λs hs=>let ⟨_,_,k⟩:=h.ok s hs;k.ok
instance{r:AA}{τ:BL}{a:km PV->Prop}:Wp (tU r τ a) (r τ λb=>match b with | [.lst xs] =>a (DU 0 xs)|_=>False):=⟨id⟩
abbrev JY:AS:=
 (Ao (Az (AB (aV 1) (AB (aC (.int 1)) (AB (AN 2 Ce (AB (AN 2 Ce (AB (aV 1) (AB (aV 2) AL))) (AB (AX Aj (aV 0) (aC (.int 1))) AL))) AL)))))
def Du:AF:=As 3 JY
def OF {a b c:PV}{Q:PV->Prop}(h:JY ⟨λ_=>Q .non,Q,λ_=>False,λ_=>False⟩ [some (.val a),some (.val b),some (.val c)]):Du [a,b,c] Q:=h
def Us {u w:PV}{h m l:Rat}(a:Bd 1000 h)(bm:Bd 1900 m)(b:Bd 1000 l){Q:PV->Prop}(q:Q (.tup [fr m, .int 1,fr (m+l+h)])):Du [.tup [u,fr h,w],fr m,fr l] Q:=by
 apply OF;repeat' array_get_dec
 exact q
def F9 (a b:C4)(r:km C4):dE (a::b::r)=(a,b)::dE (b::r):=rfl
theorem RX:∀{cs:km C4} {l:C4},Ef cs->cs.getLast?=some l->∀c∈cs,c.1<=l.1
 | [],_,_,e,_,_=>by cases e
 | [a],l,_,e,c,hc=>by cases e;rw[AAR.mp hc];exact AB7
 | a::b::r,l,h,e,c,hc=>by
   rw[AB3] at e;have h':=AAI.mp h;have ih:=RX h'.2 e;rcases AAF.mp hc with rfl|hc
   .have:=h'.1 b (by simp);have:=ih b (by simp);grind
   .exact ih c hc
def q0 (k:Int)(c:C4):Rat:=if k % 3=0 then c.2.1 else if k % 3=1 then c.2.2.1 else c.2.2.2
def E6 (lo hi:T3):km (Int×Rat):= [(0,lo.1),(1,lo.2.1),(2,lo.2.2),(3,hi.1),(4,hi.2.1),(5,hi.2.2)]
def sw (p:C4×C4)(u:Int×Rat)(m:Rat):Prop:=p.1.1<m/\m<p.2.1/\q0 u.1 p.1≠q0 u.1 p.2/\q0 u.1 p.1+(m-p.1.1)/(p.2.1-p.1.1)*(q0 u.1 p.2-q0 u.1 p.1)=u.2
structure j4 (W:Nat) (cs:List C4) (us:List (C4×C4)) (lo hi:T3) (p:C4×C4) (ws:List (Int×Rat)) (ms:List Rat):Prop where
 bd:∀m∈ms,Bd W m
 crn:∀c∈cs,c.1∈ms
 ed:∀p∈us,∀u∈E6 lo hi,∀m,sw p u m->m∈ms
 ed2:∀u∈ws,∀m,sw p u m->m∈ms
 len:ms.length<=cs.length+6*us.length+ws.length
def j4.more {W:Nat}{cs:km C4}{b:km (C4×C4)}{lo hi:T3}{p:C4×C4}{d:km (Int×Rat)}{ms:km Rat}{u:Int×Rat}(h:j4 W cs b lo hi p d ms){x:Rat}(e:Bd W x)(k:∀m,sw p u m->m=x):j4 W cs b lo hi p (d ++ [u]) (ms ++ [x]):=by
 refine⟨λm a=> ?_,λc hc=>by simp[h.crn c hc],λq hq v hv m a=>by simp[h.ed q hq v hv m a],λv hv m a=> ?_,by have:=h.len;simp;omega⟩
 .rcases AAL.mp a with a|a
  .exact h.bd m a
  .rw [AAR.mp a];exact e
 .rcases AAL.mp hv with hv|hv
  .simp [h.ed2 v hv m a]
  .rw [AAR.mp hv] at a;simp[k m a]
def sv (p:Int×Int):Rat:=(p.1:Rat)/(p.2:Rat)
def lv (l:Int×Int)(s:Rat):Rat:=(l.1:Rat)+s*((l.2:Rat)-(l.1:Rat))
def gy {p q a b:T3}{d:Rat×Rat}{s:Rat}:cY (lin p q s) (lin a b s) d=lin (cY p a d) (cY q b d) s:=by
 unfold cY lin;simp only[ACa];congr 1
 .grind
 .congr 1 <;> grind
def fD {c:km Rat}(h:W6 c):∀p∈c.zip c.tail,p.1∈c/\p.2∈c/\p.1<p.2/\∀x∈c,¬(p.1<x/\x<p.2):=by
 induction c with
 | nil=>intro p hp;simp at hp
 | cons a r ih=>
   cases r with
   | nil=>intro p hp;simp at hp
   | cons b r=>
     have h1:=AAI.mp h;intro p hp;simp only[List.tail_cons,List.zip_cons_cons,AAF] at hp;rcases hp with rfl|hp
     .refine ⟨by simp,by simp,h1.1 b (by simp),λx hx z=> ?_⟩;rcases AAF.mp hx with rfl|hx
      .grind
      .rcases AAF.mp hx with rfl|hx
       .grind
       .have:=(AAI.mp h1.2).1 x hx;grind
     .obtain ⟨d,e,f,g⟩:=ih h1.2 p hp;refine⟨by simp[d],by simp[e],f,λx hx z=> ?_⟩;rcases AAF.mp hx with rfl|hx
      .have:=h1.1 p.1 d;grind
      .exact g x hx z
section
variable {cs ds:km C4}{d:Rat×Rat}{M W:Nat}
structure tN (cs ds:List C4) (d:Rat×Rat) (M W:Nat) (p:Pc):Prop where
 lt:p.b<p.e
 w0:KL W p.o0
 w1:KL W p.o1
 bb:Bd M p.b
 be:Bd M p.e
 lo:NT cs ds<=p.b
 hi:p.e<=Na cs ds
 at0:p.o0=aA cs ds d p.b
 wX:p.o1=aA cs ds d p.e
 lin:∀m,p.b<=m->m<=p.e->aA cs ds d m=lin p.o0 p.o1 ((m-p.b)/(p.e-p.b))
theorem Uv.pc (D:Uv cs ds d M W):∀p∈ut cs ds d,tN cs ds d M W p:=by
 intro p hp;unfold ut at hp;by_cases h:NT cs ds<Na cs ds
 .rw [AAD h] at hp;have e:=D.tog h;have j:∀x∈rP cs ds,NT cs ds<=x/\x<=Na cs ds:=λx hx=>eY h hx;have k:∀x∈rP cs ds,Bd M x:=λx hx=>eV D.m1 D.m2 D.begB D.endB hx;have l:∀x∈rP cs ds,KL W (aA cs ds d x):=D.w h;unfold qQ at hp;obtain⟨q,hq,rfl⟩:=AAZ.mp hp;obtain⟨f,g,i,t⟩:=fD Zx q hq;have a:=j _ f;have b:=j _ g;refine⟨i,l _ f,l _ g,k _ f,k _ g,a.1,b.2,rfl,rfl,λm m1 m2=> ?_⟩;have m1:q.1<=m:=m1;have m2:m<=q.2:=m2;have n:∀c,c∈cs\/c∈ds->¬(q.1<c.1/\c.1<q.2):=λc hc z=>by refine t c.1 (LS.mpr (.inr (.inr ⟨by grind,by grind,c,hc,rfl⟩))) z
  obtain⟨v,o⟩:=e.one q.1 a.1 a.2;obtain⟨y,r⟩:=e.one q.2 b.1 b.2;obtain⟨A,f1⟩:=e.other q.1 a.1 a.2;obtain⟨B,s⟩:=e.other q.2 b.1 b.2;have l1:=QU D.r1 i m1 m2 (λc hc=>n c (.inl hc)) o r;have u:=QU D.r2 i m1 m2 (λc hc=>n c (.inr hc)) f1 s;show aA cs ds d m=PL.lin (aA cs ds d q.1) (aA cs ds d q.2) ((m-q.1)/(q.2-q.1));unfold aA;rw[l1,u,o,r,f1,s];exact gy
 .rw [AAC h] at hp;cases hp
def Rf (cs ds:km C4)(d:Rat×Rat)(m:Rat):Prop:=NT cs ds<=m/\m<Na cs ds/\t5 (aA cs ds d m)<1
instance {m:Rat}:Decidable (Rf cs ds d m):=by unfold Rf;infer_instance
structure jF (cs ds:List C4) (d:Rat×Rat) (B:Nat) (ss:List BR):Prop where
 few:ss.length<=201
 ok:∀s∈ss,CN B s
 fin:∀s∈ss,∃x,s.2.2=some x
 sem:∀m,ss.any (Bk · (m,0))=true↔Rf cs ds d m
 pf:ss.length<=(ut cs ds d).length
end
def gP {ss:km BR}(a:∀s∈ss,∃x,s.2.2=some x)(k:Rat):∃m,k<m/\ss.any (Bk · (m,0))=false:=by
 induction ss with
 | nil=>exact⟨k+1,by grind,rfl⟩
 | cons s ss ih=>
   obtain⟨x,hx⟩:=a s (by simp);have c:∀(b:km BR),(∀s∈b,∃x,s.2.2=some x)->∃n:Rat,k<n/\∀s∈b,∀x,s.2.2=some x->x<n:=by
    intro b;induction b with
    | nil=>intro _;exact⟨k+1,by grind,by simp⟩
    | cons t b d=>
      intro e;obtain⟨n,h1,h2⟩:=d λs hs=>e s (by simp[hs]);obtain⟨y,hy⟩:=e t (by simp);by_cases z:y<n
      .refine ⟨n,h1,λs hs x hx=> ?_⟩;rcases AAF.mp hs with rfl|hs
       .rw [hy] at hx;cases hx;exact z
       .exact h2 s hs x hx
      .refine ⟨y+1,by grind,λs hs x hx=> ?_⟩;rcases AAF.mp hs with rfl|hs
       .rw [hy] at hx;cases hx;grind
       .have:=h2 s hs x hx;grind
   obtain⟨n,h1,h2⟩:=c (s::ss) a;refine⟨n,h1, ?_⟩;rw[AEf];intro t f z;obtain⟨y,hy⟩:=a t f;have:=h2 t f y hy;unfold Bk at z;rw[hy] at z;simp at z;grind
def Yp {B:Nat}{ss:km BR}(ok:∀s∈ss,CN B s)(a:∀s∈ss,∃x,s.2.2=some x):∀r∈canon 1 ss,∃x,r.2.2=some x:=by
 intro r b;cases e:r.2.2 with
 | some x=>exact⟨x,rfl⟩
 | none=> exfalso;obtain⟨m,h1,h2⟩:=gP a r.1;rw[<-NV ok (p:=(m,0)) (.inl rfl)] at h2;rw[AEf] at h2;refine h2 r b ?_;unfold Bk;rw[e];simp;exact .inl h1
structure Told (P:Rat->Prop) (B:Nat) (cc:List BR):Prop where
 ok:∀s∈cc,CN B s
 fin:∀s∈cc,∃x,s.2.2=some x
 few:cc.length<=2000
 sem:∀m,cc.any (Bk · (m,0))=true↔P m
def jF.told {cs ds:km C4}{d:Rat×Rat}{B:Nat}{ss:km BR}(n:jF cs ds d B ss):Told (Rf cs ds d) B (canon 1 ss):=
 ⟨TR n.ok,Yp n.ok n.fin,by have:=NW (n:=1) (ss:=ss);have:=n.few;omega,λm=>by rw[NV n.ok (p:=(m,0)) (.inl rfl)];exact n.sem m⟩
abbrev M5:AS:=
 (Ao (VH (Ev TZ (AB (aV 0) (AB (aC (.ty "int")) AL))) (MC kW (Ev TZ (AB (aV 0) (AB (aC (.ty "bool")) AL))))))
def Cv:AF:=As 1 M5
def Ry {a:PV}{Q:PV->Prop}(h:M5 ⟨λ_=>Q .non,Q,λ_=>False,λ_=>False⟩ [some (.val a)]):Cv [a] Q:=h
def Jd.sem {N:Nat}{lo hi:T3}{a:km (C4×C4)}{ss:km BR}(h:Jd N lo hi a ss)(m:Rat):ss.any (Bk · (m,0))=true↔∃p∈a,lF lo hi p m:=by
 rw[ABh];constructor
 .rintro ⟨s,hs,k⟩;obtain⟨p,hp,o⟩:=h.ok s hs;exact⟨p,hp,(o.sem m).mp k⟩
 .rintro ⟨p,hp,k⟩;exact h.all p hp m k
def Jd.fin {N:Nat}{lo hi:T3}{a:km (C4×C4)}{ss:km BR}(h:Jd N lo hi a ss):∀s∈ss,∃x,s.2.2=some x:=λs hs=>by obtain⟨p,hp,k⟩:=h.ok s hs;obtain⟨x,hx,_⟩:=k.fin;exact⟨x,hx⟩
end PL
namespace PL.K31
open PySem L2 PL PyProof.Rows
abbrev GD:AS:=
 (AZ (Ak (FI (Dz (AB (Az (AB (aC (.int 1)) (AB (aC (.int 1)) AL))) (AB (Az (AB (aC (.int 2)) (AB (aC (.int 1)) AL))) (AB (Az (AB (aC (.int 3)) (AB (aC (.int 2)) AL))) (AB (Az (AB (aC (.int 1)) (AB (aC (.int 3)) AL))) (AB (Az (AB (aC (.int 5)) (AB (aC (.int 1)) AL))) AL))))))) (An 1))
   (Ao (Az (AB (AX Aj (aV 1) (AN 2 BA (AB (aV 0) (AB (aC (.int 5)) AL)))) (AB (AX Aj (aV 1) (AN 2 BA (AB (aV 0) (AB (aC (.int 5)) AL)))) AL)))))
def Qy:AF:=As 2 GD
abbrev KO:AS:=
 (AZ (Bb (Al (AX JO (AN 2 BA (AB (aV 0) (AB (aC (.int 2)) AL))) (aC (.int 0)))) (Ao (Az (AB (Az (AB (aC (.int 0)) (AB (aC (.int 1)) AL))) (AB (Az (AB (aC (.int 0)) (AB (aC (.int 1)) AL))) (AB (Az (AB (aC (.int 0)) (AB (aC (.int 1)) AL))) AL))))) BE)
   (Ao (Az (AB (AX Aj (aV 1) (AN 2 BA (AB (aV 0) (AB (aC (.int 4)) AL)))) (AB (AX Aj (aV 1) (AN 2 BA (AB (aV 0) (AB (aC (.int 4)) AL)))) (AB (AX Aj (aV 1) (AN 2 BA (AB (aV 0) (AB (aC (.int 6)) AL)))) AL))))))
abbrev IN:AS:=
 (AZ (Ak (FI (Dz (AB (Az (AB (aC (.int 0)) (AB (aC (.int 1)) AL))) (AB (Az (AB (aC (.int 1)) (AB (aC (.int 2)) AL))) (AB (Az (AB (aC (.int 1)) (AB (aC (.int 1)) AL))) (AB (Az (AB (aC (.int 1)) (AB (aC (.int 3)) AL))) (AB (Az (AB (aC (.int 3)) (AB (aC (.int 1)) AL))) (AB (Az (AB (aC (.int 40)) (AB (aC (.int 1)) AL))) AL)))))))) (An 1))
   KO)
def DO:AF:=As 2 IN
def MN {a:PV}{Q:PV->Prop}(h:IN ⟨λ_=>Q .non,Q,λ_=>False,λ_=>False⟩ [some (.val a),none]):DO [a] Q:=h
end PL.K31
namespace PL
open PySem L2 PyProof.Rows PL.K31
def VO {Q:PV->Prop}(q:∀b:T3,KL 8 b->0<=b.1->0<=b.2.1->0<=b.2.2->Q (d8 b)):DO [.tape] Q:=by
 apply MN;have all:∀x∈ [(0:Rat),1/2,1,1/3,3,40],Bd 8 x/\0<=x:=by intro x hx;simp only[AAF,AA1,AA2] at hx;rcases hx with rfl|rfl|rfl|rfl|rfl|rfl <;> exact⟨sL,by decide +kernel⟩
 ac_rfl
 .exact q (0,0,0) ⟨sL,sL,sL⟩ (by decide) (by decide) (by decide)
 refine Vz (xs:= [(0:Rat),1/2,1,1/3,3,40]) (by omega) (by show _<(6:Int);omega) λx hx=> ?_;ac_rfl;refine Vz (xs:= [(0:Rat),1/2,1,1/3,3,40]) (by omega) (by show _<(6:Int);omega) λy hy=> ?_;ac_rfl;refine Vz (xs:= [(0:Rat),1/2,1,1/3,3,40]) (by omega) (by show _<(6:Int);omega) λz hz=> ?_;ac_rfl;exact q (x,y,z) ⟨(all x hx).1,(all y hy).1,(all z hz).1⟩ (all x hx).2 (all y hy).2 (all z hz).2
abbrev Fl:=km C4×T3
section
variable {lo hi:T3}{f:Fl}
def KL.up {n m:Nat}{t:T3}(h:KL n t)(k:n<=m):KL m t:=⟨h.x.mono k,h.y.mono k,h.z.mono k⟩
end
end PL
namespace PL
open PySem L2 PL PyProof.Rows
abbrev Qq:AS:=
 (AZ (E3 (HC (aV 3)) (An 6) (E3 (HC (aV 4)) (An 7) (Bb (Al (AX wa (o7 (AX Aj (aV 6) (aC (.int 2))) (AX Aj (aV 7) (aC (.int 2)))) (aV 2))) (EN 5 Ir (AB (AN 3 Et (AB (aV 6) (AB (aV 7) (AB (aV 1) AL)))) AL)) BE)))
   (Ao (aV 5)))
abbrev Qp:AS:=
 (AZ (Je (B2 (HC (aV 0)) 1 [1] (An 0) (Al (AX JO (AX Aj (AX Aj (aV 0) (aC (.int 0))) (aV 1)) (aC (.int 0)))) (aV 0)) 5)
   Qq)
abbrev Qo:AS:=
 (AZ (Ak (FI (B2 (HC (aV 0)) 1 [1] (An 0) (Al (AX XU (AX Aj (AX Aj (aV 0) (aC (.int 0))) (aV 1)) (aC (.int 0)))) (aV 0))) (An 4))
   Qp)
abbrev YV:AS:=
 (AZ (Ak (FI (B2 (HC (aV 0)) 1 [1] (An 0) (Al (AX Z7 (AX Aj (AX Aj (aV 0) (aC (.int 0))) (aV 1)) (aC (.int 0)))) (aV 0))) (An 3))
   Qo)
def Kr:AF:=As 8 YV
end PL
namespace PL
open PySem L2 PyProof.Rows
def VN {a b:Rat}{Q:PV->Prop}(ha:Bd 8800 a)(hb:Bd 8800 b)(h:Q (.bl (decide (a<b)))):Ai [fr a,fr b] Q:=by refine⟨.of ha.top hb.botI, .of hb.top ha.botI, ?_⟩;rw[<-jW] at h;exact h
instance (priority:=high){a b:Rat}{Q:PV->Prop}:Pw (Ai [fr a,fr b] Q) (Bd 8800 a/\Bd 8800 b) (Q (.bl (decide (a<b)))):=⟨λc h=>VN c.1 c.2 h⟩
structure j8 where
 c0:Int
 c1:Int
 c2:Int
 s:Int
 w:List (Int×Int)
def j8.pr (a:gn)(p:j8):DH:=⟨p.c0,if a then p.c2 else p.c1,p.s,p.w⟩
structure W3 (N:Nat) (p:j8):Prop where
 a:p.c0.natAbs<2^N
 b:p.c1.natAbs<2^N
 c:p.c2.natAbs<2^N
 w:∀e∈p.w,e.2.natAbs<2^N
 l:p.w.length<=12
 s:p.s=0\/p.s=1
def W3.pr {N:Nat}{p:j8}(h:W3 N p)(a:gn):GL N (p.pr a):=⟨h.a,by cases a;exact h.b;exact h.c,h.w,h.l,h.s⟩
def h3 (p:j8)(s t:Rat):Prop:=0<(p.c0:Rat)+p.c1*s+p.c2*t\/((p.c0:Rat)+p.c1*s+p.c2*t=0/\p.s=0)
def Ua {d x:Rat}(h:0<d):(0<d*x↔0<x)/\(d*x=0↔x=0):=by refine⟨ACj h, ?_⟩;rw[ACk];grind
def gt (a b c:Rat)(s n:Int):j8:=⟨Zl (Gs [a,b,c]) a,Zl (Gs [a,b,c]) b,Zl (Gs [a,b,c]) c,s, [(n,(Gs [a,b,c] :Nat))]⟩
def lf {a b c:Rat}{W M:Nat}{s n:Int}(ba:Bd W a)(f:Bd W b)(g:Bd W c)(d:Gs [a,b,c] < 2^M)(hs:s=0\/s=1):W3 (W+M) (gt a b c s n)/\∀x y:Rat,h3 (gt a b c s n) x y↔(0<a+b*x+c*y\/(a+b*x+c*y=0/\s=0)):=by
 obtain⟨h1,h2,_⟩:=SB (W:=W) 3 [a,b,c] rfl (by simp;exact⟨ba,f,g⟩);have h:(0:Rat)<((Gs [a,b,c] :Nat):Rat):=by exact_mod_cast h1
 have i:=OU (h2 a (by simp));have j:=OU (h2 b (by simp));have k:=OU (h2 c (by simp));refine⟨⟨OT ba d,OT f d,OT g d,by simp[gt];exact BH d (by omega),by simp[gt],hs⟩,λx y=> ?_⟩;have e:((gt a b c s n).c0:Rat)+(gt a b c s n).c1*x+(gt a b c s n).c2*y=((Gs [a,b,c] :Nat):Rat)*(a+b*x+c*y):=by show ((Zl (Gs [a,b,c]) a:Int):Rat)+((Zl (Gs [a,b,c]) b:Int):Rat)*x+((Zl (Gs [a,b,c]) c:Int):Rat)*y=_;rw[i,j,k];grind
 unfold h3;rw[e,(Ua h).1,(Ua h).2];rfl
structure Wd where
 b:C4
 e:C4
 b':C4
 e':C4
 z:T3
 l:Rat
 l':Rat
def sl (w:Wd):Nat->Rat|0=>fP w.b w.e w.b.2.1 w.e.2.1|1=>fP w.b w.e w.b.2.2.1 w.e.2.2.1|_=>fP w.b w.e w.b.2.2.2 w.e.2.2.2
def ij (w:Wd):Nat->Rat|0=>fP w.b' w.e' w.b'.2.1 w.e'.2.1|1=>fP w.b' w.e' w.b'.2.2.1 w.e'.2.2.1|_=>fP w.b' w.e' w.b'.2.2.2 w.e'.2.2.2
def ba (w:Wd):Nat->Rat|0=>gG w.b w.e w.b.2.1 w.e.2.1|1=>gG w.b w.e w.b.2.2.1 w.e.2.2.1|_=>gG w.b w.e w.b.2.2.2 w.e.2.2.2
def gE (w:Wd):Nat->Rat|0=>gG w.b' w.e' w.b'.2.1 w.e'.2.1|1=>gG w.b' w.e' w.b'.2.2.1 w.e'.2.2.1|_=>gG w.b' w.e' w.b'.2.2.2 w.e'.2.2.2
def sz (w:Wd):Nat->Rat|0=>w.z.1|1=>w.z.2.1|_=>w.z.2.2
def Eg (w:Wd):Nat->Rat×Rat×Rat
 | 0=>(-w.b.1,1,0)
 | 1=>(w.e.1, -1,0)
 | 2=>(-w.b'.1,0,1)
 | 3=>(w.e'.1,0, -1)
 | 4=>(w.l,1, -1)
 | 5=>(w.l', -1,1)
 | 6=>(sz w 0-(ba w 0-gE w 0), -sl w 0,ij w 0)
 | 7=>(sz w 0+(ba w 0-gE w 0),sl w 0, -ij w 0)
 | 8=>(sz w 1-(ba w 1-gE w 1), -sl w 1,ij w 1)
 | 9=>(sz w 1+(ba w 1-gE w 1),sl w 1, -ij w 1)
 | 10=>(sz w 2-(ba w 2-gE w 2), -sl w 2,ij w 2)
 | _=>(sz w 2+(ba w 2-gE w 2),sl w 2, -ij w 2)
structure kD (W:Nat) (w:Wd):Prop where
 t1:Bd W w.b.1
 t2:Bd W w.e.1
 t3:Bd W w.b'.1
 t4:Bd W w.e'.1
 l1:Bd W w.l
 l2:Bd W w.l'
 z:∀k,Bd W (sz w k)
 s:∀k,Bd W (sl w k)
 s':∀k,Bd W (ij w k)
 a:∀k,Bd W (ba w k)
 a':∀k,Bd W (gE w k)
def bM {w:Wd}{W:Nat}(ok:kD W w)(n:Nat):Bd (3*W+2) (Eg w n).1/\Bd (3*W+2) (Eg w n).2.1/\Bd (3*W+2) (Eg w n).2.2:=by
 have b:Bd (3*W+2) (1:Rat):=Bd.mono (m:=2) (by constructor <;> decide) (by omega);have c:Bd (3*W+2) (-1:Rat):=Bd.mono (m:=2) (by constructor <;> decide) (by omega);have d:Bd (3*W+2) (0:Rat):=Bd.mono (m:=2) (by constructor <;> decide) (by omega);have m:∀{r:Rat},Bd W r->Bd (3*W+2) r:=λh=>h.mono (by omega);have p:∀k,Bd (3*W+2) (sz w k+(ba w k-gE w k)):=λk=>((ok.z k).add ((ok.a k).sub (ok.a' k))).mono (by omega);have q:∀k,Bd (3*W+2) (sz w k-(ba w k-gE w k)):=λk=>((ok.z k).sub ((ok.a k).sub (ok.a' k))).mono (by omega);unfold Eg;split
 .exact ⟨(m ok.t1).neg,b,d⟩
 .exact ⟨m ok.t2,c,d⟩
 .exact ⟨(m ok.t3).neg,d,b⟩
 .exact ⟨m ok.t4,d,c⟩
 .exact ⟨m ok.l1,b,c⟩
 .exact ⟨m ok.l2,c,b⟩
 .exact ⟨q 0,(m (ok.s 0)).neg,m (ok.s' 0)⟩
 .exact ⟨p 0,m (ok.s 0),(m (ok.s' 0)).neg⟩
 .exact ⟨q 1,(m (ok.s 1)).neg,m (ok.s' 1)⟩
 .exact ⟨p 1,m (ok.s 1),(m (ok.s' 1)).neg⟩
 .exact ⟨q 2,(m (ok.s 2)).neg,m (ok.s' 2)⟩
 .exact ⟨p 2,m (ok.s 2),(m (ok.s' 2)).neg⟩
def QH {p:DH}(z:p.c1=0)(hs:p.s=0\/p.s=1)(t:Rat):holds p t↔F7 p=false:=by
 unfold holds UT F7;rw[z,decide_eq_false_iff_not];have a:(p.c0:Rat)+((0:Int):Rat)*t=(p.c0:Rat):=by grind
 rw[a,<-ADx,AC8,Rat.intCast_inj];omega
def jn:km Int:= [0,1,0,1,0,0,1,1,1,1,1,1]
def strN (n:Nat):Int:=jn.getD n 0
def qV (w:Wd)(n:Nat):j8:=gt (Eg w n).1 (Eg w n).2.1 (Eg w n).2.2 (strN n) n
def rG (n:Nat):strN n=0\/strN n=1:=by unfold strN jn;rcases n with _|_|_|_|_|_|_|_|_|_|_|_|n <;> simp
structure rj (N:Nat) (w:Wd):Prop where
 W:∃W,kD W w/\3*W+2<=1300
 p:∀n<12,W3 N (qV w n)
def rj.sh {N:Nat}{w:Wd}(h:rj N w):∀n<12,Gs [(Eg w n).1,(Eg w n).2.1,(Eg w n).2.2] < 2^N:=λn a=>by have:=(h.p n a).w ((n:Int),((Gs [(Eg w n).1,(Eg w n).2.1,(Eg w n).2.2] :Nat):Int)) (by simp[qV,gt]);simpa using this
def rj.of {w:Wd}{W M:Nat}(ok:kD W w)(a:3*W+2<=1300)(b:∀n<12,Gs [(Eg w n).1,(Eg w n).2.1,(Eg w n).2.2] < 2^M):rj (3*W+2+M) w:=by refine⟨⟨W,ok,a⟩,λn c=> ?_⟩;obtain⟨d,b2,e⟩:=bM ok n;exact(lf (n:=n) d b2 e (b n c) (rG n)).1
def Z6 {a:Type}:Nat->km a->km (Nat×a)
 | _, [] => []
 | k,x::xs=>(k,x)::Z6 (k+1) xs
theorem XT {a:Type}:∀(k:Nat) (xs:km a),(Z6 k xs).length=xs.length
 | _, [] =>rfl
 | k,x::xs=>by simp[Z6,XT (k+1) xs]
theorem RD {a:Type}:∀(k:Nat) (xs:km a),(Z6 k xs).map (·.2)=xs
 | _, [] =>rfl
 | k,x::xs=>by simp[Z6,RD (k+1) xs]
theorem P8 {a:Type}(g:a->PV):∀(k:Nat) (xs:km a),DU k (xs.map g)=(Z6 k xs).map λp=> .tup [.int p.1,g p.2]
 | _, [] =>rfl
 | k,x::xs=>by have:=P8 g (k+1) xs;simp only[AAP,DU,Z6];rw[<-this]
def Mul.den {D N:Nat}{a:Rat}(h:Mul D N a):a.den ∣ D:=by
 obtain⟨b,k,rfl,_⟩:=h;have e:=ABX (Rat.divInt k D);rw[ADi (by exact_mod_cast (Rat.divInt k D).den_nz) (by omega)] at e;have c:=(Rat.divInt k D).reduced;generalize (Rat.divInt k D).num=x at e c;generalize (Rat.divInt k D).den=y at e c;have:y ∣ x.natAbs*D:=by have:=congrArg Int.natAbs e;rw[ACv,ACv,AB6,AB6] at this;exact⟨k.natAbs,by rw[this,Nat.mul_comm]⟩
 exact Nat.Coprime.dvd_of_dvd_mul_left (Nat.Coprime.symm c) this
def Z5 (k:Nat)(c:C4):Rat:=match k with | 0=>c.2.1|1=>c.2.2.1|_=>c.2.2.2
def Zn (p:C4×C4)(k:Nat):Rat:=fP p.1 p.2 (Z5 k p.1) (Z5 k p.2)
def gF (p:C4×C4)(k:Nat):Rat:=gG p.1 p.2 (Z5 k p.1) (Z5 k p.2)
def Ra {p:C4×C4}{s:Rat}{x y:Rat}:gG p.1 p.2 x y+fP p.1 p.2 x y*s=x+(s-p.1.1)/(p.2.1-p.1.1)*(y-x):=by unfold gG fP;rw[ACa,ACa];grind
def aF (cs:km C4)(s:Rat)(x:T3):Prop:=∃p∈dE cs,p.1.1<=s/\s<p.2.1/\inter p.1 p.2 s=x
def tW {m:Rat}{x:T3}:∀(r:km C4) (a b l:C4),Ef (a::b::r)->a.1<=m->(a::b::r).getLast?=some l->(spotG a (b::r) m=some x/\m<l.1↔aF (a::b::r) m x):=by
 intro r;unfold aF;induction r with
 | nil=>
   intro a b l h ha e;cases e;have g:=(AAI.mp h).1 b (by simp);simp only[F9,show dE [b] = [] from rfl,AAR,exists_eq_left,spotG];constructor
   .rintro ⟨e,d⟩;rw[AAC (by grind)] at e;cases e;exact⟨ha,d,rfl⟩
   .rintro ⟨_,d,k⟩;rw[AAC (by grind)];exact⟨by rw[k],d⟩
 | cons c r ih=>
   intro a b l h ha e;have h':=AAI.mp h;have g:=h'.1 b (by simp);have i:=(AAI.mp h'.2).1 c (by simp);have t:=RX h e b (by simp);have cl:=RX h e c (by simp);rw[AB3] at e;rw[F9];have f:m<b.1->∀p∈dE (b::c::r),¬p.1.1<=m:=λd p hp k=>by
    have q:=(FY h'.2 hp).1;have:b.1<=p.1.1:=by
     rcases AAF.mp q with z|z
     .rw [z];exact AB7
     .have:=(AAI.mp h'.2).1 _ z;grind
    grind
   by_cases j:b.1<m
   .rw [show spotG a (b::c::r) m=spotG b (c::r) m by rw[spotG,AAD j],ih b c l h'.2 (by grind) e];constructor
    .rintro ⟨p,hp,k⟩;exact⟨p,by simp[hp],k⟩
    .rintro ⟨p,hp,k⟩;rcases AAF.mp hp with rfl|hp
     .exact absurd k.2.1 (by show ¬m<b.1;grind)
     .exact ⟨p,hp,k⟩
   .rw [show spotG a (b::c::r) m=some (inter a b m) by rw[spotG,AAC j]];by_cases n:m<b.1
    .constructor
     .rintro ⟨e,_⟩;cases e;exact⟨(a,b),by simp,ha,n,rfl⟩
     .rintro ⟨p,hp,k⟩;rcases AAF.mp hp with rfl|hp
      .exact ⟨by rw[<-k.2.2],by grind⟩
      .exact absurd k.1 (f n p hp)
    .have d:m=b.1:=by grind
     subst d;have s:inter a b b.1=b.2:=E8 g;have o:inter b c b.1=b.2:=HH i;rw[s];constructor
     .rintro ⟨e,_⟩;cases e;exact⟨(b,c),by rw[F9];simp,AB7,i,o⟩
     .rintro ⟨p,hp,k⟩;rcases AAF.mp hp with rfl|hp
      .exact absurd k.2.1 (by show ¬b.1<b.1;grind)
      .rw [F9] at hp;rcases AAF.mp hp with rfl|hp
       .refine ⟨?_,by grind⟩;have:=k.2.2;rw[o] at this;rw[this]
       .exfalso;have q:=(FY (AAI.mp h'.2).2 hp).1;have:=(AAI.mp h'.2).1 _ q;have:=k.1;grind
def Q7 {cs:km C4}{l:C4}{m:Rat}{x:T3}(c:Ef cs)(h2:2<=cs.length)(d:cs.getLast?=some l):aF cs m x↔spotC cs m=some x/\m<l.1:=by
 obtain⟨a,b,r,rfl⟩:∃a b r,cs=a::b::r:=by
  match cs,h2 with
  | a::b::r,_=>exact⟨a,b,r,rfl⟩
 by_cases h:m<a.1
 .rw [Lj h];constructor
  .rintro ⟨p,hp,k,_⟩;exfalso;have q:=(FY c hp).1;have:a.1<=p.1.1:=by
    rcases AAF.mp q with z|z
    .rw [z];exact AB7
    .have:=(AAI.mp c).1 _ z;grind
   grind
  .rintro ⟨e,_⟩;cases e
 .rw [show spotC (a::b::r) m=spotG a (b::r) m by rw[spotC,AAC h],tW r a b l c (by grind) d]
abbrev Lr:AS:=
 (AZ (Bb (Al (AX HF (AN 2 D3 (AB (aV 2) (AB (aV 1) AL))) (aC .non))) (Ao (FI (Dz AL))) BE)
   (Ao (FI (Dz (AB (AN 2 D7 (AB (aV 2) (AB (aV 1) AL))) AL)))))
abbrev Lq:AS:=
 (AZ (Yg 2 (E3 (gB (AB (aC (.int 1)) (AB (aV 1) AL))) (An 3) (Yg 2 (Ak (AN 3 Kr (AB (aV 2) (AB (AX IK (aV 1) (aV 3)) (AB (AX A4 (aV 3) (aC (.int 1))) AL)))) (An 2)))))
   Lr)
abbrev Lp:AS:=
 (AZ (EN 2 Ir (AB (AN 3 De (AB (AX A4 (AX Nb (Az (AB (aC (.tup [(.int 0),(.int 1)])) AL)) (aV 1)) (Az (AB (aC (.tup [(.int 1),(.int 1)])) AL))) (AB (aC (.int 0)) (AB (Ev Gq (AB (aV 0) AL)) AL)))) AL))
   Lq)
abbrev JW:AS:=
 (AZ (Je (B2 (tU (AB (aV 0) AL)) 3 [] (IJ 2 (AY (An 0) (AY (IJ 2 (AY (An 1) (AY (An 2) Bm))) Bm))) EW (AN 3 De (AB (aV 1) (AB (aV 2) (AB (aV 0) AL))))) 2)
   Lp)
def Dr:AF:=As 4 JW
def OD {a b:PV}{Q:PV->Prop}(h:JW ⟨λ_=>Q .non,Q,λ_=>False,λ_=>False⟩ [some (.val a),some (.val b),none,none]):Dr [a,b] Q:=h
instance{p:DH}{Q:PV->Prop}:Wp (HF (Bo p) .non Q) (Q (.bl true)):=⟨id⟩
def bJ {v:PV}{a:km DH}{N:Nat}(hv:v= .lst (a.map Bo))(ok:∀p∈a,GL N p)(hN:N<=8900)(hl:a.length<=100)(o:tight (-1) a=none){Q:PV->Prop}(r:(∀p∈a,p.c1=0->F7 p=false)->Q .non)(u:∀p,(∀t,¬∀p∈a,holds p t)->Q (Bo p)):D3 [v, .int 1] Q:=by
 apply J6;ac_rfl;subst hv;refine Dd Bo (λj vs τ=>(∀p∈j,p.c1=0->F7 p=false)/\∃f c d,τ= [some (.val (.lst (a.map Bo))),some (.val (.int 1)),f,c,d]) ?_ ?_ ⟨by simp,_,_,_,rfl⟩
 .rintro τ ⟨g,f,c,d,rfl⟩;have b:=r g;ac_rfl;refine C8 rfl (.inr rfl) ok (by omega) hl ?_;rw[o,show MM none=PV.non from rfl];ac_rfl;exact b
 .rintro j p vs e τ R k ⟨g,f,c,d,rfl⟩;have l:p∈a:=by rw[<-e];simp
  have b:(p.c1=0->F7 p=false)->R [some (AV.val (PV.lst (List.map Bo a))),some (AV.val (PV.int 1)),some (AV.val (Bo p)),c,d] :=λh=>k _ ⟨λx hx=>by
   rcases AAL.mp hx with hx|hx
   .exact g x hx
   .rw [AAR.mp hx];exact h,_,_,_,rfl⟩
  clear k;have i:p.c1=0->F7 p=true->Q (Bo p):=λz n=>u p λt w=>by have:=(QH z (ok p l).s t).mp (w p l);rw[this] at n;cases n
  ac_rfl
  .refine Nw ?_;rename_i z;cases m:F7 p with
   | true=> have:=i z m;ac_rfl;exact this
   | false=> have:=b λ_=>m;ac_rfl;exact this
  .rename_i z;exact b λh=>absurd h z
def dQ {v:PV}{a:km DH}{N:Nat}{l:DH}(hv:v= .lst (a.map Bo))(ok:∀p∈a,GL N p)(hN:N<=8900)(hl:a.length<=100)(b:tight 1 a=some l)(e:tight (-1) a=none){Q:PV->Prop}(q:Q (.tup [fr (EV l), .int (1-l.s), .non])):D7 [v, .int 1] Q:=by
 have c:=(Bt (.inl rfl) a.length a rfl λx hx=>(ok x hx).s).so l b;have d:l.c1≠0:=by have:=c.2.1;omega
 have f:=GB (ok l c.1);have g:=(C9 d).1;rw[<-SX d] at q;apply J7;ac_rfl;refine C8 hv (.inl rfl) ok (by omega) hl ?_;rw[b,show MM (some l)=Bo l from rfl];ac_rfl;refine KG ?_;ac_rfl;refine D6 _ _ (by omega) (BH f.2 hN) _ ?_;ac_rfl;refine C8 hv (.inr rfl) ok (by omega) hl ?_;rw[e,show MM none=PV.non from rfl];ac_rfl;exact q
def kM {a:km DH}{l:DH}(hs:∀p∈a,p.s=0\/p.s=1)(c:tight 1 a=some l)(d:tight (-1) a=none)(e:∀p∈a,p.c1=0->F7 p=false)(t:Rat):(∀p∈a,holds p t)↔(EV l<t\/(EV l=t/\l.s=0)):=by
 have b:=(Bt (.inl rfl) a.length a rfl hs).so l c;have f:=(Bt (.inr rfl) a.length a rfl hs).no d;have g:0<l.c1:=by have:=b.2.1;omega
 rw[<-DC g t];constructor
 .intro h;exact h l b.1
 .intro i p hp;rcases Int.lt_trichotomy p.c1 0 with z|z|z
  .exact absurd (by omega) (f p hp)
  .exact (QH z (hs p hp) t).mpr (e p hp z)
  .exact b.2.2 p hp (by omega) t i
def pE (f:Rat×Rat):PV:= .tup [.tup [fr f.1,fr f.2], .int 1]
theorem O8.snoc {N:Nat}:∀{fs:km Fm} {b:km DH} {f:Fm} {p:DH},O8 N fs b->fF N f p->O8 N (fs ++ [f]) (b ++ [p])
 | _,_,_,_, .nil,h=> .cons h .nil
 | _,_,_,_, .cons a t,h=> .cons a (O8.snoc t h)
def F8 {N:Nat}{f:Fm}{p:DH}(h:fF N f p)(x:Rat):holds p x↔(0<f.1+f.2.1*x\/(f.1+f.2.1*x=0/\f.2.2=0)):=by
 obtain⟨S,a,b,c⟩:=h.ex;unfold holds UT;rw[b,c,h.s,show f.1*S+f.2.1*S*x=S*(f.1+f.2.1*x) by grind];constructor
 .rintro (z|⟨z,y⟩)
  .left;by_cases q:0<f.1+f.2.1*x
   .exact q
   .have:S*(f.1+f.2.1*x)<=S*0:=Rat.mul_le_mul_of_nonneg_left (by grind) (ACH a);grind
  .rcases ACk.mp z with q|q
   .grind
   .exact .inr ⟨q,y⟩
 .rintro (z|⟨z,y⟩)
  .exact .inl (ADw a z)
  .exact .inr ⟨by rw[z,Rat.mul_zero],y⟩
structure Am (B:Nat) (fs:List (Rat×Rat)) (ss:List BR):Prop where
 one:ss.length<=1
 ok:∀s∈ss,CN B s
 sem:∀x,ss.any (Bk · (x,0))=true↔0<=x/\∀f∈fs,0<f.1+f.2*x
 lo:∀s∈ss,0<=s.1/\(s.2.1=1->s.1=0)
def kg {b x:Rat}{s:Int}(hs:s=0\/s=1):Bk (b,1-s,none) (x,0)=true↔(b<x\/(b=x/\s=0)):=by
 unfold Bk;simp only[Bool.and_true,AC6,AAo,ADc];constructor
 .rintro (z|⟨z,y⟩)
  .exact .inl z
  .exact .inr ⟨z,by omega⟩
 .rintro (z|⟨z,y⟩)
  .exact .inl z
  .exact .inr ⟨z,by omega⟩
def b6 {b x e:Rat}{s:Int}(hs:s=0\/s=1):Bk (b,1-s,some e) (x,0)=true↔((b<x\/(b=x/\s=0))/\x<e):=by
 unfold Bk;simp only[AC6,AAo,ADc];constructor
 .rintro ⟨z|⟨z,y⟩,w⟩
  .exact ⟨.inl z,w⟩
  .exact ⟨.inr ⟨z,by omega⟩,w⟩
 .rintro ⟨z|⟨z,y⟩,w⟩
  .exact ⟨.inl z,w⟩
  .exact ⟨.inr ⟨z,by omega⟩,w⟩
def cW {xs:km PV}{k:Int}{Q:PV->Prop}(h:1<=k/\k<1000/\xs.length<=1000/\xs≠ [])(q:Q (.tup (List.replicate k.toNat xs).flatten)):Nb (.tup xs) (.int k) Q:=⟨h,q⟩
def UA {xs:km PV}{k:Int}{Q:PV->Prop}(h:0<=k/\k<1000/\xs.length<=1000)(q:Q (.lst (List.replicate k.toNat xs).flatten)):Nb (.lst xs) (.int k) Q:=⟨h,q⟩
def Lc {fs:km (Rat×Rat)}{W:Nat}(T:∀f∈fs,Bd W f.1/\Bd W f.2)(hl:fs.length<=20)(hW:W<=900){Q:PV->Prop}(q:∀ss,Am (3*W+8) fs ss->Q (.lst (ss.map BN))):Dr [.lst (fs.map pE), .int 1] Q:=by
 have U:(Z6 0 fs).length<=20:=by rw[XT];exact hl
 have J:∀p∈Z6 0 fs,p.2∈fs:=λp hp=>by rw[<-RD 0 fs];exact AAZ.mpr ⟨p,hp,rfl⟩
 have X:Bd (W+2) (0:Rat):=Bd.mono (m:=2) (by constructor <;> decide) (by omega);have Y:Bd (W+2) (1:Rat):=Bd.mono (m:=2) (by constructor <;> decide) (by omega);apply OD;ac_rfl;show (DU 0 (fs.map pE)).length<sizeLine/\Cy _ _ _ _ _ (DU 0 (fs.map pE)) [];rw[P8];refine⟨by rw[AAK];exact Xo U (by decide), ?_⟩;have Z:(Z6 0 fs).map (·.2)=fs:=RD 0 fs;refine XI (λr k=>∃(o vs:km (Nat×Rat×Rat)) (c:km DH),Z6 0 fs=o++vs/\r=vs.map (λp=> .tup [.int p.1,pE p.2])/\O8 (3*(W+2)+1) (o.map λp=>(p.2.1,p.2.2,(1:Int))) c/\k=c.map Bo) ?_ ?_ _ _ ⟨[],Z6 0 fs, [],rfl,rfl, .nil,rfl⟩
 .rintro k ⟨o,vs,c,e,er,hp,rfl⟩;have:vs= [] :=by simpa using er.symm
  subst this;rw[ADJ] at e;subst e;clear er;have pl:c.length<=20:=by have:=hp.mem.2.2;rw[AAK] at this;omega
  ac_rfl;refine cW ⟨by decide,by decide,by simp,by simp⟩ ?_;rw[show (List.replicate (Int.toNat 1) [PV.tup [.int 0, .int 1]]).flatten= [fr 0] from rfl];ac_rfl;refine QJ (W:=W+2) X Y (by omega) (.inl rfl) λb t=> ?_;ac_rfl;have C1:=hp.snoc t;rw[show c.map Bo ++ [Bo b] =(c ++ [b]).map Bo by simp];rw[show rng 1 ((1:Int)-1).toNat= [] from rfl];have pl':(c ++ [b]).length<=21:=by simp;omega
  have m0:b∈c ++ [b] :=by simp
  have u:∀p∈c ++ [b],p.s=0->p=b:=λp d z=>by
   rcases AAL.mp d with h|h
   .obtain ⟨f,C,D⟩:=hp.mem.1 p h;obtain⟨y,_,rfl⟩:=AAZ.mp C;have:=D.s;rw[z] at this;exact absurd (show (0:Int)=1 from this) (by decide)
   .exact AAR.mp h
  generalize c ++ [b] =PS at *;obtain⟨K,A2,A3⟩:=C1.mem;have a:∀p∈PS,GL (3*(W+2)+1) p:=λp d=>by obtain⟨f,_,h⟩:=K p d;exact h.ok
  have c0:0<b.c1:=by
   obtain⟨S,S0,_,i⟩:=t.ex;have:(0:Rat)<(b.c1:Rat):=by rw[i];show 0<1*S;grind
   exact_mod_cast this
  have g:∀x,(∀p∈PS,holds p x)↔0<=x/\∀f∈fs,0<f.1+f.2*x:=λx=>by
   constructor
   .intro B;refine⟨?_,λf L=> ?_⟩
    .have:=(F8 t x).mp (B b m0);simp only[AEg,ABU] at this;grind
    .rw [<-Z] at L;obtain⟨y,hy,rfl⟩:=AAZ.mp L;obtain⟨p,d,h1⟩:=A2 (y.2.1,y.2.2,1) (AAL.mpr (.inl (AAZ.mpr ⟨y,hy,rfl⟩)));rcases (F8 h1 x).mp (B p d) with z|z
     .exact z
     .exact absurd (show (1:Int)=0 from z.2) (by decide)
   .rintro ⟨x0,B⟩ p d;obtain⟨f,C,h1⟩:=K p d;rw[F8 h1 x];rcases AAL.mp C with h|h
    .obtain ⟨y,hy,rfl⟩:=AAZ.mp h;exact .inl (B y.2 (J y hy))
    .rw [AAR.mp h];show 0<0+1*x\/(0+1*x=0/\(0:Int)=0);rw[AEg,ABU];by_cases z:x=0
     .exact .inr ⟨z,rfl⟩
     .exact .inl (by grind)
  have ss:=λx hx=>(a x hx).s;have M:=Bt (.inl rfl) PS.length PS rfl ss;obtain⟨l,i⟩:∃l,tight 1 PS=some l:=by
   cases e:tight 1 PS with
   | some l=>exact⟨l,rfl⟩
   | none=>exact absurd (by omega) (M.no e b m0)
  have j:=M.so l i;have E:0<l.c1:=by have:=j.2.1;omega
  have O:=eS (a l j.1) (by omega);have v:0<=EV l:=by
   by_cases z:EV l<0
   .have h1:holds l (EV l/2):=(DC E _).mpr (.inl (by grind));have:=(F8 t _).mp (j.2.2 b m0 (by omega) _ h1);simp only[AEg,ABU] at this;grind
   .grind
  have P:l.s=0->EV l=0:=λz=>by
   have e:=u l j.1 z;subst e;have:=(DC E (EV l)).mpr (.inr ⟨rfl,z⟩);have h2:=(DC E 0).mp ((F8 t 0).mpr (.inr ⟨by show (0:Rat)+1*0=0;decide +kernel,rfl⟩));rcases h2 with y|y
   .grind
   .exact y.1
  ac_rfl;cases n:tight (-1) PS with
  | none=>
    refine bJ (N:=3*(W+2)+1) rfl a (by omega) (by omega) n (λF=> ?_) (λp G=> ?_)
    .ac_rfl;refine dQ rfl a (by omega) (by omega) i n ?_;ac_rfl;refine q [(EV l,1-l.s,none)] ⟨by simp, ?_,λx=> ?_, ?_⟩
     .intro s hs;rw[AAR.mp hs];exact⟨O.mono (by omega),by have:=ss l j.1;show 1-l.s=0\/1-l.s=1;omega,λe he=>by cases he⟩
     .rw [<-g,kM ss i n F,ABr,List.any_nil,AEZ];exact kg (ss l j.1)
     .intro s hs;rw[AAR.mp hs];exact⟨v,λz=>P (by have z:1-l.s=1:=z;omega)⟩
    .ac_rfl;refine q [] ⟨by simp,by simp,λx=> ?_,by simp⟩;rw[<-g];exact⟨λz=>(by cases z),λz=>absurd z (G x)⟩
  | some h=>
    have j2:=Bt (.inr rfl) PS.length PS rfl ss;have H:=j2.so h n;have hc:h.c1<0:=by have:=H.2.1;omega
    have bh:=eS (a h H.1) (by omega);refine bK (N:=3*(W+2)+1) rfl a (by omega) (by omega) ⟨b,m0,c0⟩ ⟨h,H.1,hc⟩ (λp d z=> ?_) (λl' h' w A lt s1 F=> ?_) (λp G=> ?_)
    .rcases ss p d with y|y
     .rw [u p d y] at z;omega
     .exact y
    .rw [i] at w;rw[n] at A;cases w;cases A;ac_rfl;refine dR rfl a (by omega) (by omega) i n ?_;ac_rfl;refine q [(EV l,1-l.s,some (EV h))] ⟨by simp, ?_,λx=> ?_, ?_⟩
     .intro s hs;rw[AAR.mp hs];exact⟨O.mono (by omega),by have:=ss l j.1;show 1-l.s=0\/1-l.s=1;omega,λe he=>by cases he;exact⟨lt,bh.mono (by omega)⟩⟩
     .rw [<-g,gD ss i n s1 F,ABr,List.any_nil,AEZ];exact b6 (ss l j.1)
     .intro s hs;rw[AAR.mp hs];exact⟨v,λz=>P (by have z:1-l.s=1:=z;omega)⟩
    .ac_rfl;refine q [] ⟨by simp,by simp,λx=> ?_,by simp⟩;rw[<-g];exact⟨λz=>(by cases z),λz=>absurd z (G x)⟩
 .rintro x r k R hR ⟨o,vs,c,e,er,hp,rfl⟩;cases vs with
  | nil=>simp at er
  | cons y vs=> simp only[AAP,List.cons.injEq] at er;obtain⟨rfl,rfl⟩:=er;obtain⟨y1,y2⟩:=T y.2 (J y (by rw[e];simp));unfold pE;ac_rfl;refine QJ (W:=W+2) (y1.mono (by omega)) (y2.mono (by omega)) (by omega) (.inr rfl) λp I=> ?_;exact hR _ ⟨o ++ [y],vs,c ++ [p],by rw[e];simp,rfl,by rw[AAY];exact hp.snoc I,by simp⟩
def WY {a l:C4}{r:km C4}{v w:PV}{n x:Rat}{g:Str}{M m B C:Nat}(hv:FT (a::r) v)(hw:w= .tup [.str g,fr x] \/w= .lst [.str g,fr x])(hc:∀c∈a::r,DA B c)(G:Ef (a::r))(H:r≠ [])(hl:(a::r).length<=100)(E:(a::r).getLast?=some l)(I:Bd M n)(ha:Bd M a.1)(i:Bd m x)(e:DA C (sp (a::r) (mx n a.1)))(J:B<=C)(K:M+6*B+10<=3000)(T:3*C+m+20<=3900)(hx:x≠0)(F:n<l.1){Q:PV->Prop}(q:∀b f c t,b=mx n a.1->f=Dn (a::r) b->c=sp (a::r) b->t=Jf (a::r) b->(g="wait" ->Q (Ay (KI f c t x)))/\(g="slow" ->Q (Ay (YH f c t x)))/\∀d,Fv g=some d->Q (Jz (Ej f c t d x)))(L:g="wait" \/g="slow" \/∃d,Fv g=some d):E1 [v,w,fr n] Q:=by
 have U:r.length+1<=100:=hl;have W:=hc l (AAl E);have p:=gw hx;refine QQ hw ?_;all_goals
  repeat' array_get_dec
  refine Jc hv (by omega) ?_;repeat' array_get_dec
  .exact absurd ‹x.num=0› p
  .exact absurd F ‹_›
  refine TD hc G H E hl I ha F (by omega) ?_;have j:(Dn (a::r) (mx n a.1)).length<=100:=AAa (ACh _ _) hl;have k:(Jf (a::r) (mx n a.1)).length<=100:=AAa (ACh _ _) hl;have bt:∀c∈Jf (a::r) (mx n a.1),DA C c:=λc hk=>(hc c (AAe.mp hk).1).mono (by omega);obtain⟨N,O,P⟩:=q _ _ _ _ rfl rfl rfl rfl;repeat' array_get_dec
  .exact TH j k e bt i (by omega) (by omega) (N ‹_›)
  .exact TF j k e bt i (by omega) (O ‹_›)
  .rename_i R S;rcases L with h|h|⟨d,h⟩
   .exact absurd h R
   .exact absurd h S
   .have o:=P d h;unfold Fv at h;by_cases s:g="east"
    .rw [AAD s] at h;cases h;subst s;repeat' array_get_dec
     exact CI (by decide) (by decide) (by decide) j k e bt i (by omega) o
    rw[AAC s] at h;by_cases u:g="west"
    .rw [AAD u] at h;cases h;subst u;repeat' array_get_dec
     exact CI (by decide) (by decide) (by decide) j k e bt i (by omega) o
    rw[AAC u] at h;by_cases y:g="north"
    .rw [AAD y] at h;cases h;subst y;repeat' array_get_dec
     exact CI (by decide) (by decide) (by decide) j k e bt i (by omega) o
    rw[AAC y] at h;by_cases z:g="south"
    .rw [AAD z] at h;cases h;subst z;repeat' array_get_dec
     exact CI (by decide) (by decide) (by decide) j k e bt i (by omega) o
    rw[AAC z] at h;by_cases A:g="up"
    .rw [AAD A] at h;cases h;subst A;repeat' array_get_dec
     exact CI (by decide) (by decide) (by decide) j k e bt i (by omega) o
    rw[AAC A] at h;by_cases D:g="down"
    .rw [AAD D] at h;cases h;subst D;repeat' array_get_dec
     exact CI (by decide) (by decide) (by decide) j k e bt i (by omega) o
    rw[AAC D] at h;cases h
def Om:Fv "wait" =none:=by decide +kernel
def Ol:Fv "slow" =none:=by decide +kernel
def kE (b:Str):Prop:=b="wait" \/b="slow" \/∃a,Fv b=some a
def D1 (b:Rat)(c:Str)(x:Rat):km C4->kd (km C4)
 | [] =>some []
 | a::r=>
   if x=0\/¬b<(((a::r).getLast?).getD a).1 then some (a::r)
   else if c="wait" then some (KI (Dn (a::r) (mx b a.1)) (sp (a::r) (mx b a.1)) (Jf (a::r) (mx b a.1)) x)
   else if c="slow" then some (YH (Dn (a::r) (mx b a.1)) (sp (a::r) (mx b a.1)) (Jf (a::r) (mx b a.1)) x)
   else (Fv c).bind λw=>Ej (Dn (a::r) (mx b a.1)) (sp (a::r) (mx b a.1)) (Jf (a::r) (mx b a.1)) w x
def nn (b:Rat):km C4->Rat
 | [] =>b
 | a::_=>mx b a.1
structure fG (j:Nat) (now:Rat) (cs:List C4):Prop where
 two:2<=cs.length
 few:cs.length<=10+2*j
 ris:Ef cs
 bd:∃N D,N+D<=25+22*j/\Bd N (nn now cs)/\∀c∈FG cs (nn now cs),Bd D (c.1-nn now cs)/\KL (90+22*j) c.2
def Tz {cs:km C4}{n:Rat}(a:Ef cs)(h2:2<=cs.length){c:C4}(hc:c∈cs):c∈FG cs n:=by
 unfold FG Dn Jf;by_cases h1:c.1<n
 .simp [hc,h1]
 .by_cases h3:n<c.1
  .simp [hc,h3]
  .have:n=c.1:=by grind
   subst this;have e:=En a h2 c hc;have:sp cs c.1=c:=by unfold sp;rw[e];rfl
   simp[this]
def fG.cbd {j:Nat}{a:Rat}{cs:km C4}(s:fG j a cs):∀c∈FG cs (nn a cs),DA (90+22*j) c/\Bd (26+22*j) c.1:=by
 obtain⟨N,D,h,d,f⟩:=s.bd;intro c hc;obtain⟨g,b2⟩:=f c hc;have e:c.1=nn a cs+(c.1-nn a cs):=by grind
 have b:Bd (N+D+1) c.1:=by rw[e];exact d.add g
 exact⟨⟨b.mono (by omega),b2.x,b2.y,b2.z⟩,b.mono (by omega)⟩
def iy {cs:km C4}{j:Nat}{d x:Rat}{i:Str}{v w:PV}(s:fG j d cs)(hj:j<=10)(o:Bd 14 d)(y:Bd 20 x)(hw:kE i)(hv:FT cs v)(hs:w= .tup [.str i,fr x] \/w= .lst [.str i,fr x]){Q:PV->Prop}(q:Q (Jz (D1 d i x cs))):E1 [v,w,fr d] Q:=by
 have p:=s.cbd;have two:=s.two;have A:=s.few;have g:=s.ris;have k:∀c∈cs,DA (90+22*j) c/\Bd (26+22*j) c.1:=λc hc=>p c (Tz g two hc);cases cs with
 | nil=>simp at two
 | cons a r=>
   have D:r≠ [] :=by rintro rfl;simp at two
   obtain⟨l,h⟩:∃l,(a::r).getLast?=some l:=⟨_,ABT (by simp)⟩;have E:=k l (AAl h);have ba:=k a (by simp);by_cases hz:x=0\/¬d<l.1
   .rw [D1,h,ACI,AAD hz] at q;exact Ug (m:=0) hv hs (by omega) h o E.2 (by decide) (by omega) hz q
   .rw [D1,h,ACI,AAC hz] at q;have hx:x≠0:=λz=>hz (.inl z);have F:d<l.1:=AEh λz=>hz (.inr z);have n:sp (a::r) (mx d a.1)∈FG (a::r) (mx d a.1):=by unfold FG;simp
    refine WY (M:=14+26+22*j) (B:=90+22*j) (C:=90+22*j) hv hs (λc hc=>(k c hc).1) g D (by omega) h (o.mono (by omega)) (ba.2.mono (by omega)) y (p _ n).1 (by omega) (by omega) (by omega) hx F ?_ hw;rintro b f c t rfl rfl rfl rfl;refine⟨λe=> ?_,λe=> ?_,λu e=> ?_⟩
    .rw [AAD e] at q;exact q
    .rw [AAC (by rw[e];decide),AAD e] at q;exact q
    .rw [AAC (by rintro rfl;rw[Om] at e;cases e),AAC (by rintro rfl;rw[Ol] at e;cases e),e] at q;exact q
def ni {b:Str}{w:Rat×Rat×Rat}{x:Rat}{m:Nat}(hw:Fv b=some w)(c:Bd m x):Bd m (w.1*x)/\Bd m (w.2.1*x)/\Bd m (w.2.2*x):=by
 have a:Bd m (0*x):=by rw[AB5];exact⟨Nat.pow_pos (by decide),by have:=c.bot;have:=x.den_pos;show 1<_;omega⟩
 have d:Bd m (1*x):=by rw[ABU];exact c
 have b2:Bd m ((-1)*x):=by rw[ACJ,ABU];exact c.neg
 unfold Fv at hw;by_cases e:b="east"
 .rw [AAD e] at hw;cases hw;exact⟨d,a,a⟩
 rw[AAC e] at hw;by_cases f:b="west"
 .rw [AAD f] at hw;cases hw;exact⟨b2,a,a⟩
 rw[AAC f] at hw;by_cases g:b="north"
 .rw [AAD g] at hw;cases hw;exact⟨a,d,a⟩
 rw[AAC g] at hw;by_cases h:b="south"
 .rw [AAD h] at hw;cases hw;exact⟨a,b2,a⟩
 rw[AAC h] at hw;by_cases i:b="up"
 .rw [AAD i] at hw;cases hw;exact⟨a,a,d⟩
 rw[AAC i] at hw;by_cases j:b="down"
 .rw [AAD j] at hw;cases hw;exact⟨a,a,b2⟩
 rw[AAC j] at hw;cases hw
def db {cs:km C4}{n:Rat}(a:Ef cs):Ef (FG cs n):=by
 unfold FG Dn Jf;refine ABY.mpr ⟨ABY.mpr ⟨a.sublist List.filter_sublist,by simp,λu hu v hv=> ?_⟩,a.sublist List.filter_sublist,λu hu v hv=> ?_⟩
 .have h1:u.1<n:=by simpa using(AAe.mp hu).2
  simp at hv;subst hv;exact h1
 .have h2:n<v.1:=by simpa using(AAe.mp hv).2
  rcases AAL.mp hu with hu|hu
  .have h1:u.1<n:=by simpa using(AAe.mp hu).2
   grind
  .simp at hu;subst hu;exact h2
def Uu {cs:km C4}{n:Rat}(a:Ef cs)(h2:2<=cs.length){c:C4}(hc:c∈cs)(b:c.1=n):∀d∈FG cs n,d∈cs:=by
 subst b;have e:=En a h2 c hc;have:sp cs c.1=c:=by unfold sp;rw[e];rfl
 intro d hd;unfold FG Dn Jf at hd;rw[this] at hd;rcases AAL.mp hd with hd|hd
 .rcases AAL.mp hd with hd|hd
  .exact (AAe.mp hd).1
  .simp at hd;subst hd;exact hc
 .exact (AAe.mp hd).1
def jX (b a:Rat):b<=mx b a:=by unfold mx;split <;> grind
def XV {a:C4}{r:km C4}{n:Rat}(b:Ef (a::r))(h:a.1<=n):(Dn (a::r) n= [] /\n=a.1)\/(∃f,Dn (a::r) n=a::f)/\a.1<n:=by
 by_cases z:a.1<n
 .right;exact⟨⟨_,by unfold Dn;rw[AE2 (by simpa using z)]⟩,z⟩
 .left;have e:n=a.1:=by grind
  refine⟨?_,e⟩;unfold Dn;rw[AEi];intro d hd;subst e;rcases AAF.mp hd with rfl|hd
  .simpa using z
  .have:=(AAI.mp b).1 d hd;simp;grind
def lu {a:C4}{r t:km C4}{b:Rat}{c:C4}(d:Ef (a::r))(hc:c.1=mx b a.1):nn b (Dn (a::r) (mx b a.1) ++ [c] ++ t)=mx b a.1:=by
 rcases XV d (Xq b a.1) with⟨e,h⟩|⟨⟨f,e⟩,h⟩
 .rw [e];show mx b c.1=_;rw[hc];have:=jX b a.1;rw[h] at this ⊢;unfold mx;split <;> grind
 .rw [e];rfl
theorem bI (n:Rat):∀cs:km C4,(Dn cs n).length+(Jf cs n).length<=cs.length
 | [] =>AAJ _
 | c::cs=>by
   have ih:=bI n cs;unfold Dn Jf at *;by_cases h1:c.1<n
   .have h2:¬n<c.1:=by grind
    simp only[AAx,h1,h2,decide_true,AEj,ABP,AAc];simp only[AAf,AAX];omega
   .by_cases h2:n<c.1
    .simp only[AAx,h1,h2,decide_true,AEj,ABP,AAc];simp only[AAf,AAX];omega
    .simp only[AAx,h1,h2,AEj,AAc];simp only[AAf,AAX];omega
def mY {cs ds:km C4}(h:Ef cs)(e:ds.map (·.1)=cs.map (·.1)):Ef ds:=by have h1:(cs.map (·.1)).Pairwise (· < ·):=ADy.mpr h;rw[<-e] at h1;exact ADy.mp h1
def iR {f t t':km C4}{c:C4}(h:Ef (f ++ [c] ++ t))(a:Ef t')(hc:∀d∈t',c.1<d.1):Ef (f ++ [c] ++ t'):=by
 have h1:=ABY.mp h;refine ABY.mpr ⟨h1.1,a,λu hu v hv=> ?_⟩;have h2:=hc v hv;rcases AAL.mp hu with hu|hu
 .have:=(ABY.mp h1.1).2.2 u hu c (by simp);grind
 .simp at hu;subst hu;exact h2
def fG.next {cs B:km C4}{j:Nat}{g x:Rat}{H:Str}(s:fG j g cs)(I:Bd 20 x)(x0:0<=x)(hw:kE H)(e:D1 g H x cs=some B):fG (j+1) g B:=by
 have two:=s.two;have K:=s.few;have o:=s.ris;obtain⟨N,D,Y,C,m⟩:=s.bd;cases cs with
 | nil=>simp at two
 | cons a r=>
   have Z:r≠ [] :=by rintro rfl;simp at two
   obtain⟨l,J⟩:∃l,(a::r).getLast?=some l:=⟨_,ABT (by simp)⟩;by_cases hz:x=0\/¬g<l.1
   .rw [D1,J,ACI,AAD hz] at e;cases e;exact⟨two,by omega,o,N,D,by omega,C,λc hc=>⟨(m c hc).1,(m c hc).2.mono (by omega)⟩⟩
   .rw [D1,J,ACI,AAC hz] at e;have hx:0<x:=by have:x≠0:=λz=>hz (.inl z);grind
    have Dp:g<l.1:=AEh λz=>hz (.inr z);have al:a.1<l.1:=by
     cases r with
     | nil=>exact absurd rfl Z
     | cons b r=>exact(AAI.mp o).1 l (AAl (F6 J))
    have C:Bd N (mx g a.1):=C;have m:∀c∈FG (a::r) (mx g a.1),Bd D (c.1-mx g a.1)/\KL (90+22*j) c.2:=m;have g1:mx g a.1<l.1:=by unfold mx;split <;> assumption
    have p:=db (n:=mx g a.1) o;have nc:∀(t:km C4) (c:C4),c.1=mx g a.1->nn g (Dn (a::r) (mx g a.1) ++ [c] ++ t)=mx g a.1:=λt c hc=>lu o hc;have hd:=XV o (Xq g a.1);have Y7:=jX g a.1;have tne:Jf (a::r) (mx g a.1)≠ [] :=by intro z;have:l∈Jf (a::r) (mx g a.1):=AAe.mpr ⟨AAl J,by simpa using g1⟩;rw[z] at this;cases this
    have fl:(Dn (a::r) (mx g a.1)).length+(Jf (a::r) (mx g a.1)).length<=(a::r).length:=by exact bI _ _
    unfold FG at p m;have E:(sp (a::r) (mx g a.1)).1=mx g a.1:=rfl;generalize Dn (a::r) (mx g a.1)=f at *;generalize Jf (a::r) (mx g a.1)=t at *;generalize sp (a::r) (mx g a.1)=c at *;generalize mx g a.1=n at *;have tl:1<=t.length:=by cases t with | nil=>exact absurd rfl tne|cons _ _=>simp
    have ha:(a::r).length<=10+2*j:=K;have rt:Ef t:=(ABY.mp p).2.1;have ct:∀d∈t,c.1<d.1:=λd hd=>(ABY.mp p).2.2 c (by simp) d hd;have W:∀d∈f,d∈f ++ [c] ++ t:=λd hd=>by simp[hd]
    have i:∀d∈t,d∈f ++ [c] ++ t:=λd hd=>by simp[hd]
    have F:c∈f ++ [c] ++ t:=by simp
    have keep:∀t':km C4,t'≠ [] ->t'.length<=t.length+1->Ef t'->(∀d∈t',c.1<d.1)->(∀d∈t',Bd (D+22) (d.1-n)/\KL (90+22*(j+1)) d.2)->fG (j+1) g (f ++ [c] ++ t'):=by
     intro t' L htl M O P;have A:=iR p M O;have k:2<=(f ++ [c] ++ t').length:=by
      cases t' with
      | nil=>exact absurd rfl L
      | cons _ _=>simp;omega
     have G:nn g (f ++ [c] ++ t')=n:=nc t' c E;refine⟨k,by simp at *;omega,A,N,D+22,by omega,by rw[G];exact C, ?_⟩;rw[G];intro d hd;have hd:=Uu A k (c:=c) (by simp) E d hd;rcases AAL.mp hd with hd|hd
     .have:=m d (by rw[AAL];exact .inl hd);exact⟨this.1.mono (by omega),this.2.mono (by omega)⟩
     .exact P d hd
    by_cases Q:H="wait"
    .rw [AAD Q] at e;have e:=AAV e;subst e;unfold KI;have R:Ef (laterC x (c::t)):=by
      refine ADy.mpr ?_;refine AAI.mpr ⟨λd hd=> ?_,rt.imp λ{u v} h=> ?_⟩
      .have:=ct d hd;show c.1+x<d.1+x;grind
      .show u.1+x<v.1+x;grind
     by_cases S:f= []
     .rw [AAD S];subst S;have k:2<=(laterC x (c::t)).length:=by unfold laterC;simp;omega
      have G:nn g (laterC x (c::t))=n+x:=by show mx g (c.1+x)=_;rw[E];unfold mx;rw[AAD (by grind)]
      refine⟨k,by unfold laterC;simp at *;omega,R,N+21,D,by omega,by rw[G];exact(C.add I).mono (by omega), ?_⟩;rw[G];intro d hd;have hd:=Uu R k (c:=(c.1+x,c.2)) (by unfold laterC;simp) (by rw[E]) d hd;obtain⟨u,hu,rfl⟩:=AAZ.mp hd;have b:=m u (by simpa using hu);refine⟨?_,b.2.mono (by omega)⟩;show Bd D (u.1+x-(n+x));rw[show u.1+x-(n+x)=u.1-n by grind];exact b.1
     .rw [AAC S];refine keep _ (by unfold laterC;simp) (by unfold laterC;simp) R (λd hd=> ?_) (λd hd=> ?_)
      .obtain ⟨u,hu,rfl⟩:=AAZ.mp hd;rcases AAF.mp hu with rfl|hu
       .show u.1<u.1+x;grind
       .have:=ct u hu;show c.1<u.1+x;grind
      .obtain ⟨u,hu,rfl⟩:=AAZ.mp hd;have b:=m u (by rcases AAF.mp hu with rfl|hu;exact F;exact i u hu);refine⟨?_,b.2.mono (by omega)⟩;show Bd (D+22) (u.1+x-n);rw[show u.1+x-n=u.1-n+x by grind];exact(b.1.add I).mono (by omega)
    rw[AAC Q] at e;by_cases T:H="slow"
    .rw [AAD T] at e;have e:=AAV e;subst e;have px:0<1+x:=by grind
     have X:∀u v:Rat,u<v->(1+x)*u<(1+x)*v:=λu v h=>Rat.mul_lt_mul_of_pos_left h px;refine keep _ (by simpa using tne) (by simp) ?_ (λd hd=> ?_) (λd hd=> ?_)
     .refine ADy.mpr (rt.imp λ{u v} h=> ?_);show c.1+(1+x)*(u.1-c.1)<c.1+(1+x)*(v.1-c.1);have:=X (u.1-c.1) (v.1-c.1) (by grind);grind
     .obtain ⟨u,hu,rfl⟩:=AAZ.mp hd;show c.1<c.1+(1+x)*(u.1-c.1);have:=X 0 (u.1-c.1) (by have:=ct u hu;grind);grind
     .obtain ⟨u,hu,rfl⟩:=AAZ.mp hd;have b:=m u (i u hu);refine⟨?_,b.2.mono (by omega)⟩;show Bd (D+22) (c.1+(1+x)*(u.1-c.1)-n);rw[E,show n+(1+x)*(u.1-n)-n=(1+x)*(u.1-n) by grind];exact((oD.add I).mul b.1).mono (by omega)
    rw[AAC T] at e;rcases hw with h|h|⟨w,h⟩
    .exact absurd h Q
    .exact absurd h T
    rw[h] at e;have e:Ej f c t w x=some B:=e;unfold Ej at e;split at e
    .cases e
    rename_i t2;have e:=AAV e;subst e;have U:=ni h I;have mem:∀d∈offC (w.1*x) (w.2.1*x) (w.2.2*x) t.dropLast++t.drop (t.length-1),∃u∈t,d.1=u.1/\KL (90+22*(j+1)) d.2:=by
     intro d hd;rcases AAL.mp hd with hd|hd
     .obtain ⟨u,hu,rfl⟩:=AAZ.mp hd;have hu:=ADt t hu;have b:=(m u (i u hu)).2;exact⟨u,hu,rfl,(b.x.add U.1).mono (by omega),(b.y.add U.2.1).mono (by omega),(b.z.add U.2.2).mono (by omega)⟩
     .have hu:=List.mem_of_mem_drop hd;exact⟨d,hu,rfl,(m d (i d hu)).2.mono (by omega)⟩
    rw[ACV];refine keep _ ?_ ?_ ?_ (λd hd=> ?_) (λd hd=> ?_)
    .intro z;have:=congrArg List.length z;simp only[AAn,offC,AAK,ADz,ACq,ACz] at this;omega
    .simp only[AAn,offC,AAK,ADz,ACq,ACz];omega
    .refine mY rt ?_;rw[AAY];have:(offC (w.1*x) (w.2.1*x) (w.2.2*x) t.dropLast).map (·.1)=t.dropLast.map (·.1):=by unfold offC;rw[ABq];rfl
     rw[this,<-AAY];congr 1;rw[AES];exact List.take_append_drop _ _
    .obtain ⟨u,hu,e,_⟩:=mem d hd;rw[e];exact ct u hu
    .obtain ⟨u,hu,e,b⟩:=mem d hd;refine⟨?_,b⟩;rw[e];exact(m u (i u hu)).1.mono (by omega)
abbrev IH:AS:=
 (AZ (Bb (Al (AX HF (aV 18) (aC .non))) (EN 19 Ir (AB (Az (AB (Az (AB (AN 2 DY (AB (aV 18) (AB (aV 13) AL))) (AB (AN 1 Ez (AB (aV 9) AL)) AL))) (AB (aC (.int 1)) AL))) AL)) BE)
   (Yg 19 (W7 10 (AN 2 Dr (AB (aV 19) (AB (aC (.int 1)) AL))))))
abbrev KU:AS:=
 (AZ (Je (Dz (AB (Az (AB (Az (AB (AN 2 DY (AB (aV 15) (AB (aV 16) AL))) (AB (aV 9) AL))) (AB (aC (.int 1)) AL))) AL)) 19)
   IH)
abbrev Kh:AS:=
 (AZ (E3 (HC (aV 4)) (IJ 3 (AY (An 16) (AY (An 17) (AY (An 18) Bm)))) KU)
   (Ao (AN 1 E2 (AB (aV 10) AL))))
abbrev Fy:AS:=
 (AZ (Je (Dz AL) 10)
   Kh)
abbrev Kg:AS:=
 (AZ (Ak (AN 3 Du (AB (aV 3) (AB (aV 8) (AB (AX Aj (aV 12) (aC (.int 2))) AL)))) (IJ 3 (AY (An 13) (AY (An 14) (AY (An 15) Bm)))))
   Fy)
abbrev Kb:AS:=
 (AZ (Ak (AN 2 DY (AB (AX Aj (AX Aj (aV 6) (aV 7)) (aC (.int 0))) (AB (aV 8) AL))) (An 9))
   Kg)
abbrev Ka:AS:=
 (AZ (Ak (AX Aj (AX Aj (aV 11) (aV 7)) (aC (.int 0))) (An 8))
   Kb)
abbrev KZ:AS:=
 (AZ (Ak (fH (Al (AX JO (aV 5) (aC (.int 1)))) (MC E4 (aC (.int 1))) (aC (.int 0))) (An 7))
   Ka)
abbrev KY:AS:=
 (AZ (Bb (Al (AX HE (aV 6) (aC .non))) (Ao (aC .non)) BE)
   KZ)
abbrev KW:AS:=
 (AZ (Ak (AN 3 E1 (AB (aV 11) (AB (Az (AB (aV 1) (AB (aC (.tup [(.int 1),(.int 1)])) AL))) (AB (aV 2) AL)))) (An 6))
   KY)
abbrev IR:AS:=
 (AZ (Ak (aV 0) (IJ 2 (AY (An 11) (AY (An 12) Bm))))
   KW)
def DS:AF:=As 20 IR
def MQ {a b c d e f:PV}{Q:PV->Prop}(h:IR ⟨λ_=>Q .non,Q,λ_=>False,λ_=>False⟩ [some (.val a),some (.val b),some (.val c),some (.val d),some (.val e),some (.val f),none,none,none,none,none,none,none,none,none,none,none,none,none,none]):DS [a,b,c,d,e,f] Q:=h
def Zj (b:Rat)(c:Str)(a l:C4):Rat:=if b<l.1/\c="wait" /\b<=a.1 then 1 else 0
def YD (b:Rat)(c:Str)(a l:C4):Rat:=if b<l.1 then (if c="wait" then 1 else if c="slow" then l.1-mx b a.1 else 0) else 0
def ah {cs:km C4}{l:C4}{n:Rat}(a:cs.getLast?=some l)(h:n<l.1):(Jf cs n).getLast?=some l:=by
 have b:cs≠ [] :=by intro z;subst z;cases a
 have e:cs=cs.dropLast ++ [l] :=by have:=AC7 b;rw[ABT b] at a;cases a;exact this.symm
 unfold Jf;rw[e,List.filter_append,AAx,AAD (by simpa using h),List.filter_nil];exact AC9
def QW {a l:C4}{r ds:km C4}{f x:Rat}{i:Str}(A:Ef (a::r))(G:r≠ [])(m:(a::r).getLast?=some l)(hw:kE i)(e:D1 f i x (a::r)=some ds):∃c d,ds.head?=some c/\ds.getLast?=some d/\c.1=a.1+Zj f i a l*x/\d.1=l.1+YD f i a l*x:=by
 have K:a.1<l.1:=by
  cases r with
  | nil=>exact absurd rfl G
  | cons b r=> rw[AB3] at m;exact(AAI.mp A).1 l (AAl m)
 rw[D1,m,ACI] at e;by_cases h:x=0\/¬f<l.1
 .rw [AAD h] at e;cases e;refine⟨a,l,rfl,m, ?_, ?_⟩
  .unfold Zj;rcases h with rfl|h
   .grind
   .rw [AAC (λz=>h z.1)];grind
  .unfold YD;rcases h with rfl|h
   .grind
   .rw [AAC h];grind
 .rw [AAC h] at e;have o:f<l.1:=by
   by_cases z:f<l.1
   .exact z
   .exact absurd (.inr z) h
  have H:mx f a.1<l.1:=by unfold mx;split <;> grind
  have g:=ah (n:=mx f a.1) m H;have B:(Dn (a::r) (mx f a.1)= [] /\f<=a.1/\mx f a.1=a.1)\/((Dn (a::r) (mx f a.1)).head?=some a/\¬f<=a.1):=by
   by_cases z:f<=a.1
   .left;have k:mx f a.1=a.1:=by unfold mx;split <;> grind
    rw[k];refine⟨?_,z,rfl⟩;unfold Dn;rw[AEi];intro c hc;rcases AAF.mp hc with rfl|hc
    .simp
    .have:=(AAI.mp A).1 c hc;simp;grind
   .right;have k:mx f a.1=f:=by unfold mx;split <;> grind
    rw[k];refine⟨?_,z⟩;unfold Dn;rw[AAx,AAD (by simp;grind)];rfl
  generalize Dn (a::r) (mx f a.1)=F at *;generalize Jf (a::r) (mx f a.1)=L at *;have v:(sp (a::r) (mx f a.1)).1=mx f a.1:=rfl;generalize sp (a::r) (mx f a.1)=C at *;have p:L≠ [] :=by intro z;subst z;cases g
  by_cases j:i="wait"
  .rw [AAD j] at e;cases e;unfold KI laterC;have D:((C::L).map λc=>(c.1+x,c.2)).getLast?=some (l.1+x,l.2):=by rw[List.getLast?_map,List.getLast?_cons,g];rfl
   rcases B with⟨rfl,s,k⟩|⟨f1,s⟩
   .rw [AAD rfl];refine⟨(C.1+x,C.2),(l.1+x,l.2),rfl,D, ?_, ?_⟩
    .unfold Zj;rw[AAD ⟨o,j,s⟩];show C.1+x=_;rw[v,k,ABU]
    .unfold YD;rw[AAD o,AAD j];show l.1+x=_;grind
   .have t:F≠ [] :=by intro z;subst z;cases f1
    rw[AAC t];refine⟨a,(l.1+x,l.2), ?_, ?_, ?_, ?_⟩
    .cases F with
     | nil=>exact absurd rfl t
     | cons b F=>exact f1
    .rw [List.getLast?_append,D];rfl
    .unfold Zj;rw[AAC (λz=>s z.2.2)];grind
    .unfold YD;rw[AAD o,AAD j];show l.1+x=_;grind
  .rw [AAC j] at e;have I:Zj f i a l=0:=by unfold Zj;rw[AAC (λz=>j z.2.1)]
   rw[I];have hd:∀R:km C4,∃c,(F ++ [C] ++ R).head?=some c/\c.1=a.1:=λR=>by
    rcases B with⟨rfl,s,k⟩|⟨f1,s⟩
    .exact ⟨C,rfl,by rw[v,k]⟩
    .cases F with
     | nil=>cases f1
     | cons b F=>cases f1;exact⟨a,rfl,rfl⟩
   by_cases u:i="slow"
   .rw [AAD u] at e;cases e;unfold YH;obtain⟨c,hc,y⟩:=hd (L.map λd=>(C.1+(1+x)*(d.1-C.1),d.2));refine⟨c,(C.1+(1+x)*(l.1-C.1),l.2),hc, ?_,by rw[y];grind, ?_⟩
    .rw [List.getLast?_append,List.getLast?_map,g];rfl
    .unfold YD;rw[AAD o,AAC j,AAD u];show C.1+(1+x)*(l.1-C.1)=_;rw[v];grind
   .rw [AAC u] at e;have J:YD f i a l=0:=by unfold YD;rw[AAD o,AAC j,AAC u]
    rw[J];cases E:Fv i with
    | none=>rw[E] at e;cases e
    | some w=>
      rw[E] at e;have e:Ej F C L w x=some ds:=e;unfold Ej at e;split at e
      .cases e
      .cases e;rw[ACV];obtain⟨c,hc,y⟩:=hd (offC (w.1*x) (w.2.1*x) (w.2.2*x) L.dropLast++L.drop (L.length-1));refine⟨c,l,hc, ?_,by rw[y];grind,by grind⟩;have dl:L.drop (L.length-1)= [l] :=by
        have:=AC7 p;rw[ABT p] at g;cases g;conv=>lhs;rw[<-this]
        simp
       rw[dl,<-ACV];exact AC9
def tX:Bd 20 (1:Rat):=Bd.mono (m:=2) (by constructor <;> decide) (by decide)
def fJ (m a b:Rat)(h:BR):km (Rat×Rat):=(b-h.1,a)::(match h.2.2 with | none=> [] | some e=> [(e-m, -a)])
structure Bg (B:Nat) (m rate en:Rat) (hs:List BR) (ss:List BR):Prop where
 few:ss.length<=hs.length
 ok:∀s∈ss,CN B s
 sem:∀x,ss.any (Bk · (x,0))=true↔0<=x/\∃h∈hs,∀f∈fJ m rate en h,0<f.1+f.2*x
 lo:∀s∈ss,0<=s.1/\(s.2.1=1->s.1=0)
def XD {i:Nat}{a:AE}{D:Gc}{τ:BL}{xs:km PV}(h:QI τ i=some (.own xs))(q:a τ λy=>match y with | .lst ys=>xs.length+ys.length<=sizeLine/\D.nx (τ.set i (some (.own (xs++ys))))|_=>False):W7 i a D τ:=by unfold W7 NR;rw[h];exact q
def GP {k n:Nat}(h:k<=n)(a:n<1000000):k<=sizeLine:=ACl (Xo h a)
def Am.mono {B a:Nat}{fs:km (Rat×Rat)}{ss:km BR}(h:Am B fs ss)(k:B<=a):Am a fs ss:=⟨h.one,λs hs=>⟨(h.ok s hs).b.mono k,(h.ok s hs).h,λe he=>⟨((h.ok s hs).e e he).1,((h.ok s hs).e e he).2.mono k⟩⟩,h.sem,h.lo⟩
def Ml (h:BR):BN h= .tup [fr h.1, .int h.2.1,match h.2.2 with | none=> .non|some e=>fr e] :=by obtain⟨a,b,c⟩:=h;cases c <;> rfl
def jJ {X Y Z:BL->Prop}{Q:PV->Prop}{m a h:Rat}{b:T3}{u g:PV}{hs:km BR}{f:Rat}{A B C D E F G v H I J K:kd AV}(bm:Bd 20 m)(L:Bd 70 a)(M:Bd 40 f)(hl:hs.length<=20)(ho:∀t∈hs,CN 20 t)(q:∀ss,Bg 400 m a f hs ss->Q (.tup ((canon 1 ss).map BN))):Fy {nx:=X,rt:=Q,bk:=Y,ct:=Z} [A,B,C,some (.val (.tup [u,fr h,g])),some (.val (.lst (hs.map BN))),D,E,F,some (.val (fr m)),some (.val (fr a)),G,v,some (.val (.tup [fr b.1,fr b.2.1,fr b.2.2])),some (.val (fr m)),some (.val (.int 1)),some (.val (fr f)),H,I,J,K] :=by
 ac_rfl;refine Dd BN (λz vs τ=>∃(ss:km BR) (i j l o:kd AV),Bg 400 m a f z ss/\τ= [A,B,C,some (.val (.tup [u,fr h,g])),some (.val (.lst (hs.map BN))),D,E,F,some (.val (fr m)),some (.val (fr a)),some (.own (ss.map BN)),v,some (.val (.tup [fr b.1,fr b.2.1,fr b.2.2])),some (.val (fr m)),some (.val (.int 1)),some (.val (fr f)),i,j,l,o]) ?_ ?_ ⟨[],_,_,_,_,⟨by simp,by simp,λx=>by simp,by simp⟩,rfl⟩
 .rintro τ ⟨ss,i,j,l,o,r,rfl⟩;have d:=q ss r;have sl:ss.length<=20:=by have:=r.few;omega
  ac_rfl;exact Uq (.inr rfl) (QO ss) r.ok (by omega) (by decide) d
 .rintro z t vs S τ R T ⟨ss,i,j,l,o,r,rfl⟩;have U:=ho t (by rw[<-S];simp);have bt:=U.b;have ul:z.length<=19:=by have:=congrArg List.length S;simp at this;omega
  have sl:ss.length<=19:=by have:=r.few;omega
  have nx:∀c,Am 400 (fJ m a f t) c->Bg 400 m a f (z ++ [t]) (ss++c):=λc p=>⟨by have:=p.one;have:=r.few;simp;omega,λs N=>by
   rcases AAL.mp N with h|h
   .exact r.ok s h
   .exact p.ok s h,λx=>by
   rw[AEk,AC6,r.sem,p.sem];constructor
   .rintro (⟨w,y,hy,k⟩|⟨w,k⟩)
    .exact ⟨w,y,by simp[hy],k⟩
    .exact ⟨w,t,by simp,k⟩
   .rintro ⟨w,y,hy,k⟩;rcases AAL.mp hy with hy|hy
    .exact .inl ⟨w,y,hy,k⟩
    .rw [AAR.mp hy] at k;exact .inr ⟨w,k⟩,λs N=>by
   rcases AAL.mp N with h|h
   .exact r.lo s h
   .exact p.lo s h⟩
  have d:∀c,Am 400 (fJ m a f t) c->∀i j l o,R [A,B,C,some (.val (.tup [u,fr h,g])),some (.val (.lst (hs.map BN))),D,E,F,some (.val (fr m)),some (.val (fr a)),some (.own (ss.map BN++c.map BN)),v,some (.val (.tup [fr b.1,fr b.2.1,fr b.2.2])),some (.val (fr m)),some (.val (.int 1)),some (.val (fr f)),i,j,l,o] :=λc p i j l o=>T _ ⟨ss++c,i,j,l,o,nx c p,by rw[AAY]⟩;clear T nx;have b1:Bd 61 (f-t.1):=M.sub bt;rw[Ml t];cases e:t.2.2 with
  | none=>
    have O:fJ m a f t= [(f-t.1,a)] :=by unfold fJ;rw[e]
    rw[O] at d;ac_rfl;refine XD rfl ?_;ac_rfl;refine Lc (fs:= [(f-t.1,a)]) (W:=70) (by simp;exact⟨b1.mono (by decide),L⟩) (by simp) (by decide) λc p=> ?_;have d:=d c (p.mono (by decide));have al:=p.one;refine⟨?_,d _ _ _ _⟩;refine GP (n:=40) ?_ (by decide);rw[AAK,AAK];omega
  | some hi=>
    have P:=(U.e hi e).2;have b2:Bd 41 (hi-m):=P.sub bm;have O:fJ m a f t= [(f-t.1,a),(hi-m, -a)] :=by unfold fJ;rw[e]
    rw[O] at d;ac_rfl;refine lq ?_;ac_rfl;refine XD rfl ?_;ac_rfl;refine Lc (fs:= [(f-t.1,a),(hi-m, -a)]) (W:=70) (by simp;exact⟨⟨b1.mono (by decide),L⟩,b2.mono (by decide),L.neg⟩) (by simp) (by decide) λc p=> ?_;have d:=d c (p.mono (by decide));have al:=p.one;refine⟨?_,d _ _ _ _⟩;refine GP (n:=40) ?_ (by decide);rw[AAK,AAK];omega
def TM {cs:km C4}{b:T3}{f h:Rat}{i:Str}{u g:PV}{hs:km BR}{side:Int}{a l:C4}{r:km C4}(j:cs=a::r)(G:cs.getLast?=some l)(s:fG 0 f cs)(H:Bd 14 f)(hw:kE i)(J:KL 8 b)(w:Bd 8 h)(ba:Bd 20 a.1)(o:Bd 20 l.1)(hl:hs.length<=20)(I:∀t∈hs,CN 20 t)(A:side=0\/side=1){Q:PV->Prop}(K:D1 f i 1 cs=none->Q .non)(q:∀ds,D1 f i 1 cs=some ds->∀ss,Bg 400 (if side=1 then l.1 else a.1) (if side=1 then YD f i a l else Zj f i a l) ((if side=1 then l.1 else a.1)+b.2.2+h) hs ss->Q (.tup ((canon 1 ss).map BN))):DS [tq cs b, .str i,fr f, .tup [u,fr h,g], .lst (hs.map BN), .int side] Q:=by
 have L:r≠ [] :=by rintro rfl;have:=s.two;rw[j] at this;simp at this
 have p:=s.ris;have y:=J.z;apply MQ;ac_rfl;refine iy (x:=1) s (by decide) H tX hw (.self _) (.inl rfl) ?_;cases e:D1 f i 1 cs with
 | none=> have B:=K e;rw[show Jz none=PV.non from rfl];ac_rfl;exact B
 | some ds=>
   have v:=q ds e;clear q;rw[j] at e p G;obtain⟨c,d,hc,hd,C,D⟩:=QW p L G hw e;rw[show Jz (some ds)=Ay ds from rfl];have k:Bd 70 (YD f i a l):=by
    unfold YD;split
    .split
     .exact Bd.mono (m:=2) (by constructor <;> decide) (by decide)
     .split
      .have:Bd 20 (mx f a.1):=by unfold mx;split;exact ba;exact H.mono (by decide)
       exact(o.sub this).mono (by decide)
      .exact gH.mono (by decide)
    .exact gH.mono (by decide)
   have n:Bd 70 (Zj f i a l):=by
    unfold Zj;split
    .exact Bd.mono (m:=2) (by constructor <;> decide) (by decide)
    .exact gH.mono (by decide)
   have M:Bd 100 d.1:=by rw[D,Rat.mul_one];exact(o.add k).mono (by decide)
   have N:Bd 100 c.1:=by rw[C,Rat.mul_one];exact(ba.add n).mono (by decide)
   subst j;have E:d.1-l.1=YD f i a l:=by rw[D];grind
   have F:c.1-a.1=Zj f i a l:=by rw[C];grind
   rw[<-E] at k;rw[<-F] at n;rw[<-E,<-F] at v;clear E F C D e;cases ds with
   | nil=>cases hc
   | cons O ds=>
     have:O=c:=by simpa using hc
     subst this;rcases A with rfl|rfl
     .rw [AAC (by decide),AAC (by decide)] at v;ac_rfl;refine Us (w.mono (by decide)) (ba.mono (by decide)) (y.mono (by decide)) ?_;exact⟨rfl,jJ (b:=b) (h:=h) (u:=u) (g:=g) ba n (((ba.add y).add w).mono (by decide)) hl I v⟩
     .rw [AAD rfl,AAD rfl] at v;ac_rfl;refine Us (w.mono (by decide)) (o.mono (by decide)) (y.mono (by decide)) ?_;exact⟨rfl,jJ (b:=b) (h:=h) (u:=u) (g:=g) o k (((o.add y).add w).mono (by decide)) hl I v⟩
def uf:PV->gn | .int _=>true|_=>false
def ej {x:PV}(hk:kdOf x≠none){Q:PV->Prop}(q:Q (.bl (uf x))):Cv [x] Q:=by
 apply Ry;cases x <;> first | exact absurd rfl hk|skip
 all_goals
  repeat' array_get_dec
  exact q
abbrev IQ:AS:=
 (AZ (E3 (HC (aV 0)) (IJ 3 (AY (An 2) (AY (An 3) (AY (An 4) Bm)))) (Bb (F2 (Al (AN 2 Ai (AB (aV 2) (AB (aV 1) AL)))) (Gi (Al (AX JO (aV 3) (aC (.int 1)))) (Al (AX JO (aV 2) (aV 1))))) (Bb (F2 (Al (AX HE (aV 4) (aC .non))) (Al (AN 2 Ai (AB (aV 1) (AB (aV 4) AL))))) (Ao (aC (.bl true))) BE) BE))
   (Ao (aC (.bl false))))
def DR:AF:=As 5 IQ
def MP {a b:PV}{Q:PV->Prop}(h:IQ ⟨λ_=>Q .non,Q,λ_=>False,λ_=>False⟩ [some (.val a),some (.val b),none,none,none]):DR [a,b] Q:=h
inductive TL:List PV->List (List BR)->Prop where
 | nil:TL [] []
 | cons {x:PV} {ss:List BR} {r:List PV} {rs:List (List BR)} (h:x= .tup (ss.map BN)\/x= .lst (ss.map BN)) (t:TL r rs):TL (x::r) (ss::rs)
def TL.v:∀{xs:km PV} {ss:km (km BR)},TL xs ss->W5 xs ss
 | _,_, .nil=> .nil
 | _,_, .cons a c=> .cons a (QO _) c.v
def ck {x:PV}{ss:km BR}{a:km PV->Prop}(h:x= .tup (ss.map BN)\/x= .lst (ss.map BN))(q:a (ss.map BN)):Oo x a:=by rcases h with rfl|rfl <;> exact q
def Qb {v:PV}{ss:km BR}{m:Rat}(hv:v= .tup (ss.map BN)\/v= .lst (ss.map BN))(ok:∀s∈ss,CN 3900 s)(bm:Bd 3900 m){Q:PV->Prop}(q:Q (.bl (ss.any (Bk · (m,0))))):DR [v,fr m] Q:=by
 apply MP;ac_rfl;refine ck hv ?_;refine Dd BN (λg vs τ=>g.any (Bk · (m,0))=false/\∃a c d,τ= [some (.val v),some (.val (fr m)),a,c,d]) ?_ ?_ ⟨rfl,_,_,_,rfl⟩
 .rintro τ ⟨h,a,c,d,rfl⟩;rw[h] at q;repeat' array_get_dec
  exact q
 .rintro g s vs e τ R i ⟨h,a,c,d,rfl⟩;have os:=ok s (by rw[<-e];simp);have j:Bk s (m,0)=false->∀a c d,R [some (.val v),some (.val (fr m)),a,c,d] :=λz a c d=>i _ ⟨by rw[AEk,h];simp[z],a,c,d,rfl⟩;have f:Bk s (m,0)=true->Q (.bl true):=λz=>by rw[show ss.any (Bk · (m,0))=true from ABh.mpr ⟨s,by rw[<-e];simp,z⟩] at q;exact q
  clear i q;obtain⟨b,k,o⟩:=s;have n:Bd 3900 b:=os.b;have hk:k=0\/k=1:=os.h;cases o with
  | none=>
    rcases hk with rfl|rfl;all_goals
     repeat' array_get_dec
    all_goals first | exact f (by simp_all [Bk])|exact j (by simp_all [Bk]) _ _ _
  | some t=>
    have bt:Bd 3900 t:=(os.e t rfl).2;have l:∀k:Int,Yw (b,k,some t).2.2=fr t:=λ_=>rfl;rcases hk with rfl|rfl;all_goals
     repeat' array_get_dec
     all_goals (try rw[l])
     all_goals
      repeat' array_get_dec
    all_goals first | exact f (by simp_all [Bk])|exact j (by simp_all [Bk]) _ _ _
end PL
namespace PL
open PySem L2 PyProof.Rows
theorem X1:∀{L:km C4},Ef L->∀p∈dE L,∀z∈L,¬(p.1.1<z.1/\z.1<p.2.1)
 | [],_,p,hp=>by cases hp
 | [_],_,p,hp=>by cases hp
 | a::b::r,h,p,hp=>by
   have h':=AAI.mp h;intro z hz ⟨d,c⟩;rw[F9] at hp;rcases AAF.mp hp with rfl|e
   .rcases AAF.mp hz with rfl|hz
    .exact absurd d (by show ¬z.1<z.1;grind)
    .rcases AAF.mp hz with rfl|hz
     .exact absurd c (by show ¬z.1<z.1;grind)
     .have:=(AAI.mp h'.2).1 z hz;have c:z.1<b.1:=c;grind
   .rcases AAF.mp hz with rfl|hz
    .have q:=(FY h'.2 e).1;have:=h'.1 _ q;grind
    .exact X1 h'.2 p e z hz ⟨d,c⟩
theorem QK:∀{L:km C4} {s:Rat} {l:C4},2<=L.length->L.getLast?=some l->Vh L<=s->s<l.1->∃p∈dE L,p.1.1<=s/\s<p.2.1
 | [],_,_,h,_,_,_=>by simp at h
 | [_],_,_,h,_,_,_=>by simp at h
 | [a,b],s,l,_,e,h1,h2=>by
   have:b=l:=by simpa using e
   subst this;exact⟨(a,b),ABl ..,h1,h2⟩
 | a::b::c::r,s,l,_,e,h1,h2=>by
   by_cases z:s<b.1
   .exact ⟨(a,b),ABl ..,h1,z⟩
   .obtain ⟨p,hp,k⟩:=QK (L:=b::c::r) (s:=s) (l:=l) (by simp) (by simpa[AB3] using e) (by show b.1<=s;grind) h2;exact⟨p,by rw[F9];simp[hp],k⟩
section
variable {cs:km C4}{a l:C4}{r:km C4}{f t:Rat}
structure L9 (cs:List C4) (f t:Rat):Prop where
 ris:Ef cs
 two:2<=cs.length
 f0:Vh cs<=f
 ft:f<t
 t1:t<=lstM cs
theorem L9.spot (h:L9 cs f t){m:Rat}(h1:f<=m)(h2:m<=t):∃x,spotC cs m=some x:=by obtain⟨a,r,l,rfl,c,b⟩:=open2 h.two;have d:=h.f0;have e:=h.t1;rw[RJ] at d;rw[Ho b] at e;exact FF c b (by grind) (by grind)
theorem L9.mem (h:L9 cs f t):∀c∈FX cs f t,f<=c.1/\c.1<=t/\spotC cs c.1=some c.2:=by
 have e:=h.ft;intro c hc;have d:∀{m:Rat},f<=m->m<=t->spotC cs (sp cs m).1=some (sp cs m).2:=λ{m} h1 h2=>by obtain⟨x,ex⟩:=h.spot h1 h2;unfold sp;show spotC cs m=some ((spotC cs m).getD (0,0,0));rw[ex];rfl
 unfold FX at hc;rcases AAF.mp hc with rfl|hc
 .exact ⟨AB7,ACH e,d AB7 (ACH e)⟩
 .rcases AAL.mp hc with hc|hc
  .obtain ⟨hc,b⟩:=AAe.mp hc;have b:f<c.1/\c.1<t:=by simpa[Z4] using b
   exact⟨ACH b.1,ACH b.2,En h.ris h.two c hc⟩
  .rcases AAR.mp hc with rfl;exact⟨ACH e,AB7,d (ACH e) AB7⟩
theorem L9.pris (h:L9 cs f t):Ef (FX cs f t):=by
 have e:=h.ft;unfold FX;refine AAI.mpr ⟨λc hc=> ?_,ABY.mpr ⟨h.ris.filter _,AEQ _ _,λc hc d hd=> ?_⟩⟩
 .rcases AAL.mp hc with hc|hc
  .have b:f<c.1/\c.1<t:=by simpa[Z4] using(AAe.mp hc).2
   exact b.1
  .rcases AAR.mp hc with rfl;exact e
 .rcases AAR.mp hd with rfl;have b:f<c.1/\c.1<t:=by simpa[Z4] using(AAe.mp hc).2
  exact b.2
theorem L9.len:2<=(FX cs f t).length/\(FX cs f t).length<=cs.length+2:=by unfold FX;have:=ACh (Z4 f t) cs;simp;omega
theorem L9.on (h:L9 cs f t):∀b∈dE (FX cs f t),∃p∈dE cs,p.1.1<=b.1.1/\b.1.1<b.2.1/\b.2.1<=p.2.1/\b.1.2=inter p.1 p.2 b.1.1/\b.2.2=inter p.1 p.2 b.2.1:=by
 intro b j;obtain⟨m1,m2,n⟩:=FY h.pris j;obtain⟨f1,C,o⟩:=h.mem _ m1;obtain⟨D,E,k⟩:=h.mem _ m2;obtain⟨l,d⟩:∃l,cs.getLast?=some l:=by obtain⟨a,r,l,rfl,F,d⟩:=open2 h.two;exact⟨l,d⟩
 have s:=h.t1;rw[Ho d] at s;obtain⟨p,hp,u,v,w⟩:=(Q7 h.ris h.two d).mpr ⟨o,(by grind:b.1.1<l.1)⟩;obtain⟨_,g,i⟩:=FY h.ris hp;have y:b.2.1<=p.2.1:=by
  by_cases z:p.2.1<b.2.1
  .have mem:p.2∈FX cs f t:=by
    unfold FX;refine ABW _ (AAL.mpr (.inl (AAe.mpr ⟨g, ?_⟩)));have A:f<p.2.1:=by grind
    have B:p.2.1<t:=by grind
    simp[Z4,A,B]
   exact absurd ⟨v,z⟩ (X1 h.pris b j _ mem)
  .grind
 refine⟨p,hp,u,n,y,w.symm, ?_⟩;by_cases z:b.2.1<p.2.1
 .have:=(Q7 (m:=b.2.1) (x:=inter p.1 p.2 b.2.1) h.ris h.two d).mp ⟨p,hp,by grind,z,rfl⟩;rw[k] at this;exact AAV this.1
 .have e:b.2.1=p.2.1:=by grind
  have c:=En h.ris h.two p.2 g;rw[<-e,k] at c;rw[e,E8 i];exact AAV c
theorem Rb {p:C4×C4}{m:Rat}(k:Nat):Z5 k (m,inter p.1 p.2 m)=gF p k+Zn p k*m:=by
 rcases k with _|_|k
 .exact Ra.symm
 .exact Ra.symm
 .exact Ra.symm
theorem Xu {p b:C4×C4}(h:b.1.1<b.2.1)(d:b.1.2=inter p.1 p.2 b.1.1)(e:b.2.2=inter p.1 p.2 b.2.1)(k:Nat):Zn b k=Zn p k/\gF b k=gF p k:=by
 have c:Z5 k b.1=gF p k+Zn p k*b.1.1:=by rw[<-Rb,<-d]
 have g:Z5 k b.2=gF p k+Zn p k*b.2.1:=by rw[<-Rb,<-e]
 have n:b.2.1-b.1.1≠0:=by grind
 have s:Zn b k=Zn p k:=by show (Z5 k b.2-Z5 k b.1)/(b.2.1-b.1.1)=_;rw[c,g,show gF p k+Zn p k*b.2.1-(gF p k+Zn p k*b.1.1)=Zn p k*(b.2.1-b.1.1) by grind,ACa,Rat.mul_assoc,Rat.mul_inv_cancel _ n,Rat.mul_one]
 refine⟨s, ?_⟩;show Z5 k b.1-Zn b k*b.1.1=_;rw[s,c];grind
theorem Xj {p b:C4×C4}{m:Rat}(h:∀k,Zn b k=Zn p k/\gF b k=gF p k):inter b.1 b.2 m=inter p.1 p.2 m:=by
 have q:∀k,Z5 k (m,inter b.1 b.2 m)=Z5 k (m,inter p.1 p.2 m):=λk=>by rw[Rb,Rb,(h k).1,(h k).2]
 exact ACB (q 0) (ACB (q 1) (q 2))
theorem L9.at (h:L9 cs f t)(s:Rat)(x:T3):aF (FX cs f t) s x↔aF cs s x/\f<=s/\s<t:=by
 have one:∀{s:Rat} {x y:T3},aF cs s x->aF cs s y->x=y:=λ{s x y} h1 h2=>by obtain⟨a,r,l,e,z,k⟩:=open2 h.two;have h1:=((Q7 h.ris h.two (e ▸ k)).mp h1).1;have h2:=((Q7 h.ris h.two (e ▸ k)).mp h2).1;rw[h1] at h2;exact AAV h2
 have o:aF (FX cs f t) s x->aF cs s x/\f<=s/\s<t:=by rintro⟨b,c,m,n,e⟩;obtain⟨m1,m2,d⟩:=FY h.pris c;obtain⟨f1,_,_⟩:=h.mem _ m1;obtain⟨_,A,_⟩:=h.mem _ m2;obtain⟨p,hp,u,_,v,g,i⟩:=h.on b c;refine⟨⟨p,hp,by grind,by grind, ?_⟩,by grind,by grind⟩;rw[<-Xj (Xu d g i)];exact e
 refine⟨o,λ⟨h1,h2,h3⟩=> ?_⟩;obtain⟨b,c,m,n⟩:=QK (s:=s) (L9.len (cs:=cs) (f:=f) (t:=t)).1 (l:=sp cs t) (by unfold FX;rw[<-ADl];exact AC9) h2 h3;have w:aF (FX cs f t) s (inter b.1 b.2 s):=⟨b,c,m,n,rfl⟩;have j:aF cs s (inter b.1 b.2 s):=by obtain⟨_,_,d⟩:=FY h.pris c;obtain⟨p,hp,u,_,v,g,i⟩:=h.on b c;exact⟨p,hp,by grind,by grind,(Xj (Xu d g i)).symm⟩
 rw[one h1 j];exact w
end
end PL
namespace PL
open PySem L2 PyProof.Rows
open PL.K31
abbrev Gz:AS:=
 (AZ (EN 4 Ir (AB (AN 2 Bu (AB (aV 9) (AB (aV 10) AL))) AL))
   (EN 4 Ir (AB (AN 2 A8 (AB (aV 9) (AB (aV 10) AL))) AL)))
abbrev Gy:AS:=
 (AZ (EN 4 gk (AB (FI (Dz (AB (aV 6) (AB (AN 2 A8 (AB (aV 6) (AB (aV 10) AL))) (AB (AN 2 B6 (AB (AN 2 A8 (AB (aV 6) (AB (aV 9) AL))) (AB (Az (AB (aC (.int 2)) (AB (aC (.int 1)) AL))) AL))) (AB (aV 9) AL)))))) AL))
   Gz)
abbrev Gx:AS:=
 (AZ (Ak (AN 2 B6 (AB (AN 2 Bu (AB (aV 9) (AB (aV 6) AL))) (AB (Az (AB (aC (.int 1000)) (AB (aC (.int 1)) AL))) AL))) (An 10))
   Gy)
abbrev JP:AS:=
 (AZ (Ak (fH (Al (AX HE (aV 8) (aC .non))) (AN 2 A8 (AB (aV 6) (AB (AN 2 Bf (AB (aV 3) (AB (Az (AB (aC (.int 7)) (AB (aC (.int 1)) AL))) AL))) AL))) (aV 8)) (An 9))
   Gx)
abbrev JR:AS:=
 (AZ (E3 (HC (AX A4 (Q4 (aV 1) Q5 (Q6 (aC (.int 2)))) (Q4 (Q4 (aV 1) (Q6 (aC (.int 2))) Q5) (Q6 (MC E4 (aC (.int 2)))) Q5))) (IJ 3 (AY (An 6) (AY (An 7) (AY (An 8) Bm)))) JP)
   (Ao (aV 4)))
abbrev JQ:AS:=
 (AZ (E3 (Yi (AB (aV 2) AL)) (An 5) (EN 4 Ir (AB (AN 2 Bf (AB (aV 3) (AB (AN 2 A5 (AB (AN 2 BA (AB (aV 0) (AB (aC (.int 40)) AL))) (AB (AX A4 (aC (.int 1)) (AN 2 BA (AB (aV 0) (AB (aC (.int 4)) AL)))) AL))) AL))) AL)))
   JR)
abbrev Gw:AS:=
 (AZ (Je (Dz (AB (Az (AB (aC (.int 0)) (AB (aC (.int 1)) AL))) AL)) 4)
   JQ)
def Cr:AF:=As 11 Gw
def LF {a b c d:PV}{Q:PV->Prop}(h:Gw ⟨λ_=>Q .non,Q,λ_=>False,λ_=>False⟩ [some (.val a),some (.val b),some (.val c),some (.val d),none,none,none,none,none,none,none]):Cr [a,b,c,d] Q:=h
abbrev Fw:AS:=
 (AZ (Bb (F2 (Al (AX (jL false) (aV 1) (Az (AB (aC (.str "wait")) (AB (aC (.str "slow")) AL))))) (Dj (Al (AN 2 Ai (AB (aV 2) (AB (AX Aj (AX Aj (aV 0) (MC E4 (aC (.int 1)))) (aC (.int 0))) AL)))))) (Ao (aC (.bl true))) BE)
   (Ao (Ev (bR λbs=>bs.any id) (AB (FI (B2 (HC (Q4 (aV 0) Q5 (Q6 (MC E4 (aC (.int 1)))))) 1 [2,0] (An 0) EW (VH (AN 2 Ai (AB (aV 1) (AB (AX Aj (aV 0) (aC (.int 0))) AL))) (AN 2 Ai (AB (AX Aj (AX Aj (aV 2) (aC (.int 0))) (aC (.int 0))) (AB (AX Aj (aV 0) (aC (.int 0))) AL)))))) AL))))
def CG:AF:=As 3 Fw
def Iz {a b c:PV}{Q:PV->Prop}(h:Fw ⟨λ_=>Q .non,Q,λ_=>False,λ_=>False⟩ [some (.val a),some (.val b),some (.val c)]):CG [a,b,c] Q:=h
abbrev FO:AS:=
 (AZ (Bb (F2 (Dj (Al (Ev TZ (AB (aV 0) (AB (aC (.ty "tuple")) AL))))) (F2 (Al (AX Vc (Ev Gq (AB (aV 0) AL)) (aC (.int 2)))) (F2 (Dj (Al (AN 1 Cv (AB (AX Aj (aV 0) (aC (.int 0))) AL)))) (Dj (Al (AN 1 Cv (AB (AX Aj (aV 0) (aC (.int 1))) AL))))))) (Ao (aC (.bl false))) BE)
   (Ao (VH (AX Z7 (AX Aj (aV 0) (aC (.int 1))) (aC (.int 0))) (AX JO (AN 2 A5 (AB (AX Aj (aV 0) (aC (.int 0))) (AB (AX Aj (aV 0) (aC (.int 1))) AL))) (aV 0)))))
def BV:AF:=As 1 FO
def IM {a:PV}{Q:PV->Prop}(h:FO ⟨λ_=>Q .non,Q,λ_=>False,λ_=>False⟩ [some (.val a)]):BV [a] Q:=h
abbrev Hy:AS:=
 (AZ (Bb (Gi (Al (AX HF (AX Aj (aV 3) (aC (.int 2))) (aC .non))) (F2 (Dj (Al (AN 1 BV (AB (AX Aj (aV 3) (aC (.int 2))) AL)))) (Dj (Al (AN 2 Ai (AB (AX Aj (aV 3) (aC (.int 0))) (AB (AX Aj (aV 3) (aC (.int 2))) AL))))))) (Ao (aC (.bl false))) BE)
   (Ak (AX Aj (aV 3) (aC (.int 2))) (An 1)))
abbrev Hx:AS:=
 (AZ (Bb (F2 (Al (AN 2 Ai (AB (AX Aj (aV 3) (aC (.int 0))) (AB (Az (AB (aC (.int 0)) (AB (aC (.int 1)) AL))) AL)))) (Gi (Al (AX Z7 (aV 2) (aC (.int 0)))) (F2 (Al (AX HE (aV 1) (aC .non))) (Al (AN 2 Ai (AB (AX Aj (aV 3) (aC (.int 0))) (AB (aV 1) AL))))))) (Ao (aC (.bl false))) BE)
   Hy)
abbrev Hw:AS:=
 (AZ (Bb (Gi (Al (AX Vc (AX Aj (aV 3) (aC (.int 1))) (Ev Yy (AB (VH (AX JO (aV 2) (aC (.int 0))) (AX JO (AX Aj (aV 3) (aC (.int 0))) (Az (AB (aC (.int 0)) (AB (aC (.int 1)) AL))))) AL)))) (Dj (Gi (Al (AX JO (AX Aj (aV 3) (aC (.int 1))) (aC (.int 0)))) (Al (AX JO (AX Aj (aV 3) (aC (.int 0))) (Az (AB (aC (.int 0)) (AB (aC (.int 1)) AL)))))))) (Ao (aC (.bl false))) BE)
   Hx)
abbrev KP:AS:=
 (AZ (Bb (F2 (Dj (Al (Ev TZ (AB (aV 3) (AB (aC (.ty "tuple")) AL))))) (F2 (Al (AX Vc (Ev Gq (AB (aV 3) AL)) (aC (.int 3)))) (F2 (Dj (Al (AN 1 BV (AB (AX Aj (aV 3) (aC (.int 0))) AL)))) (Dj (Al (AN 1 Cv (AB (AX Aj (aV 3) (aC (.int 1))) AL))))))) (Ao (aC (.bl false))) BE)
   Hw)
abbrev KS:AS:=
 (AZ (E3 (kK (AB (aV 0) AL)) (IJ 2 (AY (An 2) (AY (An 3) Bm))) KP)
   (Ao (aC (.bl true))))
abbrev KQ:AS:=
 (AZ (Ak (aC .non) (An 1))
   KS)
abbrev IP:AS:=
 (AZ (Bb (Dj (Al (Ev TZ (AB (aV 0) (AB (aC (.ty "tuple")) AL))))) (Ao (aC (.bl false))) BE)
   KQ)
def DP:AF:=As 4 IP
def MO {a:PV}{Q:PV->Prop}(h:IP ⟨λ_=>Q .non,Q,λ_=>False,λ_=>False⟩ [some (.val a),none,none,none]):DP [a] Q:=h
abbrev Ot:AS:=
 (AZ (Ak (FI (Dz (AB (AN 2 Bu (AB (AX Aj (AX Aj (aV 1) (aC (.int 0))) (aC (.int 0))) (AB (Az (AB (aC (.int 1)) (AB (aC (.int 1)) AL))) AL))) (AB (AX Aj (AX Aj (aV 1) (aC (.int 0))) (aC (.int 0))) (AB (AX Aj (AX Aj (aV 1) (aV 3)) (aC (.int 0))) (AB (aV 4) (AB (aV 4) (AB (AX Aj (AX Aj (aV 1) (AX A4 (aV 3) (aC (.int 1)))) (aC (.int 0))) (AB (aV 4) AL))))))))) (An 5))
   (Ao (AX Aj (AX A4 (aV 5) (FI (Dz (AB (AN 2 A8 (AB (AX Aj (AX Aj (aV 1) (MC E4 (aC (.int 1)))) (aC (.int 0))) (AB (Az (AB (AN 2 BA (AB (aV 0) (AB (aC (.int 2)) AL))) (AB (aC (.int 1)) AL))) AL))) AL)))) (aV 2))))
abbrev Os:AS:=
 (AZ (Ak (AN 2 B6 (AB (AN 2 A8 (AB (AX Aj (AX Aj (aV 1) (aV 3)) (aC (.int 0))) (AB (AX Aj (AX Aj (aV 1) (AX A4 (aV 3) (aC (.int 1)))) (aC (.int 0))) AL))) (AB (Az (AB (aC (.int 2)) (AB (aC (.int 1)) AL))) AL))) (An 4))
   Ot)
abbrev Oq:AS:=
 (AZ (Ak (AN 2 BA (AB (aV 0) (AB (AX IK (Ev Gq (AB (aV 1) AL)) (aC (.int 1))) AL))) (An 3))
   Os)
abbrev Mp:AS:=
 (AZ (Ak (AN 2 BA (AB (aV 0) (AB (aC (.int 8)) AL))) (An 2))
   Oq)
def Ey:AF:=As 6 Mp
def Rv {a b:PV}{Q:PV->Prop}(h:Mp ⟨λ_=>Q .non,Q,λ_=>False,λ_=>False⟩ [some (.val a),some (.val b),none,none,none,none]):Ey [a,b] Q:=h
abbrev Hz:AS:=
 (AZ (Ak (FI (B2 (HC (AX A4 (FI (Dz (AB (aV 6) AL))) (aV 7))) 1 [2] (An 0) EW (AX A4 (Az (AB (AN 2 A8 (AB (AX Aj (aV 0) (aC (.int 0))) (AB (aV 1) AL))) AL)) (Q4 (aV 0) (Q6 (aC (.int 1))) Q5)))) (An 11))
   (Ao (Ev B5 (AB (AX A4 (AX A4 (aV 5) (AX Nb (FI (Dz (AB (aV 6) AL))) (Ev Yy (AB (AX Vc (aV 5) (FI (Dz AL))) AL)))) (aV 11)) AL))))
abbrev GE:AS:=
 (AZ (Ak (FI (B2 (HC (aV 7)) 1 [12,4] (An 0) EW (AN 2 Bf (AB (aV 1) (AB (AN 2 Bu (AB (AX Aj (aV 0) (aC (.int 0))) (AB (aV 2) AL))) AL))))) (An 13))
   (Ao (Ev B5 (AB (AX A4 (AX A4 (aV 5) (FI (Dz (AB (aV 6) AL)))) (FI (B2 (oC (AB (aV 13) (AB (aV 7) AL))) 2 [4] (IJ 2 (AY (An 0) (AY (An 1) Bm))) EW (AX A4 (Az (AB (AN 2 A8 (AB (aV 2) (AB (aV 0) AL))) AL)) (Q4 (aV 1) (Q6 (aC (.int 1))) Q5))))) AL))))
abbrev IA:AS:=
 (AZ (Ak (AN 2 A8 (AB (Az (AB (aC (.int 1)) (AB (aC (.int 1)) AL))) (AB (aV 2) AL))) (An 12))
   GE)
abbrev G1:AS:=
 (AZ (Ak (FI (B2 (HC (Q4 (aV 7) Q5 (Q6 (MC E4 (aC (.int 1)))))) 1 [8,9] (An 0) EW (AX A4 (AX A4 (Q4 (aV 0) Q5 (Q6 (aV 1))) (Az (AB (AN 2 A8 (AB (AX Aj (aV 0) (aV 1)) (AB (aV 2) AL))) AL))) (Q4 (aV 0) (Q6 (AX A4 (aV 1) (aC (.int 1)))) Q5)))) (An 10))
   (Ao (Ev B5 (AB (AX A4 (AX A4 (AX A4 (aV 5) (FI (Dz (AB (aV 6) AL)))) (aV 10)) (Q4 (aV 7) (Q6 (MC E4 (aC (.int 1)))) Q5)) AL))))
abbrev Ee:AS:=
 (AZ (Bb (Al (AX XU (Ev Gq (AB (aV 7) AL)) (aC (.int 2)))) (Ao (aC .non)) BE)
   G1)
abbrev IG:AS:=
 (AZ (Ak (fH (Al (AX (jL false) (aV 1) (Az (AB (aC (.str "east")) (AB (aC (.str "north")) (AB (aC (.str "up")) AL)))))) (aV 2) (Az (AB (MC E4 (AX Aj (aV 2) (aC (.int 0)))) (AB (AX Aj (aV 2) (aC (.int 1))) AL)))) (An 9))
   Ee)
abbrev Ed:AS:=
 (AZ (Ak (AX A4 (aC (.int 1)) (AX RF (kH (AB (aC (.str "east")) (AB (aC (.str "west")) (AB (aC (.str "north")) (AB (aC (.str "south")) (AB (aC (.str "up")) (AB (aC (.str "down")) AL)))))) (AB (aV 1) AL)) (aC (.int 2)))) (An 8))
   IG)
abbrev IF:AS:=
 (AZ (Bb (Al (AX JO (aV 1) (aC (.str "slow")))) IA BE)
   Ed)
abbrev IE:AS:=
 (AZ (Bb (Al (AX JO (aV 1) (aC (.str "wait")))) Hz BE)
   IF)
abbrev ID:AS:=
 (AZ (Ak (FI (B2 (HC (aV 0)) 1 [4] (An 0) (Al (AN 2 Ai (AB (aV 1) (AB (AX Aj (aV 0) (aC (.int 0))) AL)))) (aV 0))) (An 7))
   IE)
abbrev IC:AS:=
 (AZ (Ak (AX A4 (Az (AB (aV 4) AL)) (AN 2 FQ (AB (aV 0) (AB (aV 4) AL)))) (An 6))
   ID)
abbrev Ec:AS:=
 (AZ (Ak (FI (B2 (HC (aV 0)) 1 [4] (An 0) (Al (AN 2 Ai (AB (AX Aj (aV 0) (aC (.int 0))) (AB (aV 1) AL)))) (aV 0))) (An 5))
   IC)
abbrev IB:AS:=
 (AZ (Ak (fH (Al (AN 2 Ai (AB (aV 3) (AB (AX Aj (AX Aj (aV 0) (aC (.int 0))) (aC (.int 0))) AL)))) (AX Aj (AX Aj (aV 0) (aC (.int 0))) (aC (.int 0))) (aV 3)) (An 4))
   Ec)
abbrev Fx:AS:=
 (AZ (Bb (F2 (Al (AX JO (aV 2) (Az (AB (aC (.int 0)) (AB (aC (.int 1)) AL))))) (Dj (Al (AN 2 Ai (AB (aV 3) (AB (AX Aj (AX Aj (aV 0) (MC E4 (aC (.int 1)))) (aC (.int 0))) AL)))))) (Ao (Ev B5 (AB (aV 0) AL))) BE)
   IB)
def CH:AF:=As 14 Fx
def I0 {a b c d:PV}{Q:PV->Prop}(h:Fx ⟨λ_=>Q .non,Q,λ_=>False,λ_=>False⟩ [some (.val a),some (.val b),some (.val c),some (.val d),none,none,none,none,none,none,none,none,none,none]):CH [a,b,c,d] Q:=h
abbrev Go:AS:=
 (AZ (Ak (fH (Al (AX JO (AN 2 BA (AB (aV 0) (AB (aC (.int 6)) AL))) (aC (.int 0)))) (aC .non) (AN 2 A8 (AB (aV 3) (AB (AN 1 CL (AB (aV 0) AL)) AL)))) (An 4))
   (EN 1 Ir (AB (Az (AB (aV 3) (AB (AN 2 BA (AB (aV 0) (AB (aC (.int 2)) AL))) (AB (aV 4) AL)))) AL)))
abbrev Ia:AS:=
 (AZ (Ak (AN 2 A5 (AB (AX IK (AN 2 BA (AB (aV 0) (AB (aC (.int 50)) AL))) (aC (.int 4))) (AB (AX A4 (aC (.int 1)) (AN 2 BA (AB (aV 0) (AB (aC (.int 2)) AL)))) AL))) (An 3))
   Go)
abbrev Ib:AS:=
 (AZ (E3 (Yi (AB (AX Aj (FI (Dz (AB (aC (.int 0)) (AB (aC (.int 1)) (AB (aC (.int 1)) (AB (aC (.int 2)) (AB (aC (.int 3)) (AB (aC (.int 8)) AL)))))))) (AN 2 BA (AB (aV 0) (AB (aC (.int 6)) AL)))) AL)) (An 2) Ia)
   (Ao (aV 1)))
abbrev Gd:AS:=
 (AZ (Je (Dz AL) 1)
   Ib)
def CT:AF:=As 5 Gd
def J5 {a:PV}{Q:PV->Prop}(h:Gd ⟨λ_=>Q .non,Q,λ_=>False,λ_=>False⟩ [some (.val a),none,none,none,none]):CT [a] Q:=h
abbrev JV:AS:=
 (AZ (E3 (HC (aV 2)) (IJ 3 (AY (An 4) (AY (An 5) (AY (An 6) Bm)))) (Bb (Gi (Al (AN 2 Ai (AB (aV 4) (AB (aV 3) AL)))) (F2 (Al (AX HE (aV 6) (aC .non))) (Al (AN 2 Ai (AB (aV 0) (AB (aV 6) AL)))))) (Ao (aC (.bl true))) BE))
   (Ao (aC (.bl false))))
abbrev G2:AS:=
 (AZ (Ak (AN 2 A8 (AB (aV 0) (AB (aV 1) AL))) (An 3))
   JV)
def Ct:AF:=As 7 G2
def LG {a b c:PV}{Q:PV->Prop}(h:G2 ⟨λ_=>Q .non,Q,λ_=>False,λ_=>False⟩ [some (.val a),some (.val b),some (.val c),none,none,none,none]):Ct [a,b,c] Q:=h
abbrev LX:AS:=
 (Ao (AX Aj (FI (Dz (AB (aC (.str "wait")) (AB (aC (.str "slow")) (AB (aC (.str "wait")) (AB (aC (.str "slow")) (AB (aC (.str "east")) (AB (aC (.str "west")) (AB (aC (.str "north")) (AB (aC (.str "south")) (AB (aC (.str "up")) (AB (aC (.str "down")) AL)))))))))))) (AN 2 BA (AB (aV 0) (AB (aC (.int 10)) AL)))))
def EL:AF:=As 1 LX
def Pg {a:PV}{Q:PV->Prop}(h:LX ⟨λ_=>Q .non,Q,λ_=>False,λ_=>False⟩ [some (.val a)]):EL [a] Q:=h
def KH (m h:Rat)(s:BR):gn:=decide (s.1<m+h)&&s.2.2.all λe=>decide (m<e)
def Oi {hs:km BR}{m h:Rat}(bm:Bd 3800 m)(l:Bd 20 h)(ok:∀s∈hs,CN 20 s){Q:PV->Prop}(q:Q (.bl (hs.any (KH m h)))):Ct [fr m,fr h, .lst (hs.map BN)] Q:=by
 apply LG;have o:Bd 3821 (m+h):=bm.add l;ac_rfl;refine Dd BN (λj vs τ=>j.any (KH m h)=false/\∃a c n,τ= [some (.val (fr m)),some (.val (fr h)),some (.val (.lst (hs.map BN))),some (.val (fr (m+h))),a,c,n]) ?_ ?_ ⟨rfl,_,_,_,rfl⟩
 .rintro τ ⟨h,f,a,c,rfl⟩;rw[h] at q;repeat' array_get_dec
  exact q
 .rintro j s vs e τ R k ⟨h',f,a,c,rfl⟩;have os:=ok s (by rw[<-e];simp);have i:KH m h s=false->∀f a c,R [some (.val (fr m)),some (.val (fr h)),some (.val (.lst (hs.map BN))),some (.val (fr (m+h))),f,a,c] :=λz f a c=>k _ ⟨by rw[AEk,h'];simp[z],f,a,c,rfl⟩;have g:KH m h s=true->Q (.bl true):=λz=>by rw[show hs.any (KH m h)=true from ABh.mpr ⟨s,by rw[<-e];simp,z⟩] at q;exact q
  clear k q;have p:=os.b;rw[Ml s];cases d:s.2.2 with
  | none=>
    repeat' array_get_dec
    .exact g (by simp[KH,d];assumption)
    .rename_i z;exact i (by simp[KH,d];simpa using z) _ _ _
  | some t=>
    have bt:Bd 20 t:=(os.e t d).2;repeat' array_get_dec
    .exact g (by simp[KH,d];exact⟨by assumption,by assumption⟩)
    .rename_i z;exact i (by simp[KH,d];intro _;simpa using z) _ _ _
    .rename_i z;exact i (by simp[KH,d];intro y;exact absurd y z) _ _ _
def jC {Q:PV->Prop}(q:∀b,kE b->Q (.str b)):EL [.tape] Q:=by
 apply Pg;ac_rfl;rename_i k c d;refine Vy c d λx hx=> ?_;have a:∀{b:Str} {w:T3},Fv b=some w->Q (.str b):=λe=>q _ (.inr (.inr ⟨_,e⟩));simp only[AAF,AA1,AA2] at hx;rcases hx with rfl|rfl|rfl|rfl|rfl|rfl|rfl|rfl|rfl|rfl
 .exact q _ (.inl rfl)
 .exact q _ (.inr (.inl rfl))
 .exact q _ (.inl rfl)
 .exact q _ (.inr (.inl rfl))
 .exact a (w:=(1,0,0)) (by decide +kernel)
 .exact a (w:=(-1,0,0)) (by decide +kernel)
 .exact a (w:=(0,1,0)) (by decide +kernel)
 .exact a (w:=(0, -1,0)) (by decide +kernel)
 .exact a (w:=(0,0,1)) (by decide +kernel)
 .exact a (w:=(0,0, -1)) (by decide +kernel)
def Wr {Q:PV->Prop}(q:∀hs:km BR,hs.length<=8->(∀s∈hs,CN 20 s)->Q (.lst (hs.map BN))):CT [.tape] Q:=by
 apply J5;ac_rfl;rename_i k r u;refine Vy r u λx hx=> ?_;obtain⟨m,rfl,m0,m1⟩:∃m:Int,x= .int m/\0<=m/\m<=8:=by simp only[AAF,AA1,AA2] at hx;rcases hx with rfl|rfl|rfl|rfl|rfl|rfl;all_goals exact⟨_,rfl,by omega,by omega⟩
 clear hx r u;ac_rfl;refine RH (λi τ=>∃(hs:km BR) (f g j:kd AV),hs.length=i/\(∀s∈hs,CN 20 s)/\τ= [some (.val .tape),some (.own (hs.map BN)),f,g,j]) ?_ ?_ ⟨[],_,_,_,rfl,by simp,rfl⟩
 .rintro τ ⟨hs,f,g,j,h1,h2,rfl⟩;repeat' array_get_dec
  exact q hs (by omega) h2
 .rintro i hi τ R v ⟨hs,f,g,j,h1,h2,rfl⟩;have C:hs.length<sizeLine:=lt_size (n:=12) (by omega) (by decide);have l:∀(s:BR) f g j,CN 20 s->R [some (.val .tape),some (.own (hs.map BN ++ [BN s])),f,g,j] :=λs f g j o=>v _ ⟨hs ++ [s],f,g,j,by simp[h1],by
   intro x hx;rcases AAL.mp hx with h|h
   .exact h2 x h
   .rw [AAR.mp h];exact o,by simp⟩
  clear v;ac_rfl;rename_i a D E b F G;refine Be _ _ (by omega) (AAW (show _<2^6 by omega) (ACZ (by decide) (by decide))) (AAW (show _<2^5 by omega) (ACZ (by decide) (by decide))) ?_;have p:Bd 8 (Rat.divInt (a-4) (1+b)):= .divInt (by omega) (by omega) (by omega);generalize Rat.divInt (a-4) (1+b)=w at *;ac_rfl
  .rename_i c c0 y z d A B;exact l (w,d,none) _ _ _ ⟨p.mono (by decide),by show d=0\/d=1;omega,λe he=>by cases he⟩
  .rename_i c c0 y z t bt H d A B;exact l (w,d,some (w+t)) _ _ _ ⟨p.mono (by decide),by show d=0\/d=1;omega,λe he=>by cases he;exact⟨by show w<w+t;grind,(p.add bt).mono (by decide)⟩⟩
def Mul.neg' {D N:Nat}{a:Rat}(h:Mul D N a):Mul D N (-a):=by obtain⟨b,k,hk,c⟩:=h;exact⟨b, -k,by rw[hk,Rat.neg_divInt],by omega⟩
def lw {cs:km C4}(p:W4 9 6 512 cs){Q:PV->Prop}(q:∀f,Mul 12 1036 f->Q (fr f)):Ey [.tape,Ay cs] Q:=by
 have two:=p.two;have g:=p.few;have nm:∀c∈cs,Mul 6 512 c.1:=λc hc=>(p.mu c hc).m;have b:∀c∈cs,Bd 11 c.1:=λc hc=>(nm c hc).bd (by decide) (by decide);apply Rv;ac_rfl;rename_i w A s d P B c C i e D j;have E:=b c i;have F:=b e j;have b2:Bd 3 (2:Rat):=⟨by decide +kernel,by decide +kernel⟩;have hd:∀x∈cs,Mul 12 1024 x.1:=λx hx=>(nm x hx).dbl;have mid:Mul 12 1024 ((c.1+e.1)/2):=by
  obtain⟨_,k,hk,G⟩:=nm c i;obtain⟨_,H,u,n⟩:=nm e j;refine⟨by decide,k+H, ?_,by omega⟩;rw[hk,u,ACi,ACi,ACi];clear hk u G n nm b hd E F C D i j B s two g p
  push_cast
  grind
 ac_rfl;rename_i a R v;have ba:=b a v;ac_rfl;rename_i I J o;ac_rfl;rename_i K L r;ac_rfl;rename_i l S ml;have T:=b l ml;obtain⟨z,M⟩:∃z,cs.getLast?=some z:=⟨_,ABT (by intro h;rw[h] at two;simp at two)⟩;have y:z∈cs:=AAl M;have U:=b z y;ac_rfl;rename_i t N O;have bt:Bd 3 (t:Rat):= .int (by omega) (by decide);ac_rfl;refine Vy A s λx hx=> ?_;have one:∀t:Int,0<=t->t<2->Mul 12 12 (t:Rat):=λt h1 h2=>⟨by decide,12*t,by rw[ACi];push_cast;grind,by omega⟩;have mid:Mul 12 1036 ((c.1+e.1)/((2:Int):Rat)):=mid.mono (by decide);simp only[AAL,AAF,AA1,AA2] at hx;rcases hx with(rfl|rfl|rfl|rfl|rfl|rfl|rfl)|rfl
 .refine q _ ?_;have:=(hd a v).add (Mul.neg' (one 1 (by decide) (by decide)));rw[show a.1-1=a.1 + -((1:Int):Rat) by push_cast;grind];exact this
 .exact q _ ((hd l ml).mono (by decide))
 .exact q _ ((hd K r).mono (by decide))
 .exact q _ mid
 .exact q _ mid
 .exact q _ ((hd I o).mono (by decide))
 .exact q _ mid
 .exact q _ ((hd z y).add (one t N O))
def Xh {a:Str}{b:gn}{xs:km PV}{Q:PV->Prop}(h1:C2 29 (.str a)=true)(h3:Fh 29 xs=true)(h2:jS (.str a) xs=b)(q:Q (.bl b)):jL false (.str a) (.tup xs) Q:=by refine⟨⟨h1,h3⟩, ?_⟩;rw[AAC (by decide),h2];exact q
def Lm {a:Str}{w:T3}(h:Fv a=some w):a="east" \/a="west" \/a="north" \/a="south" \/a="up" \/a="down" :=by
 unfold Fv at h;by_cases b:a="east"
 .exact .inl b
 rw[AAC b] at h;by_cases c:a="west"
 .exact .inr (.inl c)
 rw[AAC c] at h;by_cases d:a="north"
 .exact .inr (.inr (.inl d))
 rw[AAC d] at h;by_cases e:a="south"
 .exact .inr (.inr (.inr (.inl e)))
 rw[AAC e] at h;by_cases f:a="up"
 .exact .inr (.inr (.inr (.inr (.inl f))))
 rw[AAC f] at h;by_cases g:a="down"
 .exact .inr (.inr (.inr (.inr (.inr g))))
 rw[AAC g] at h;cases h
def gb {Q:PV->Prop}(q:Q (.bl true)):jL false (.str "wait") (.tup [.str "wait", .str "slow"]) Q:=Xh (by simp only[C2];decide +kernel) (by simp only[Fh,C2];decide +kernel) (by decide +kernel) q
def ga {Q:PV->Prop}(q:Q (.bl true)):jL false (.str "slow") (.tup [.str "wait", .str "slow"]) Q:=Xh (by simp only[C2];decide +kernel) (by simp only[Fh,C2];decide +kernel) (by decide +kernel) q
def lG {a:Str}{w:T3}{Q:PV->Prop}(h:Fv a=some w)(q:Q (.bl false)):jL false (.str a) (.tup [.str "wait", .str "slow"]) Q:=by rcases Lm h with rfl|rfl|rfl|rfl|rfl|rfl <;> exact Xh (by simp only[C2];decide +kernel) (by simp only[Fh,C2];decide +kernel) (by decide +kernel) q
def jY {x y z:Rat}(h1:y<z)(h2:x<z):mx x y<z:=by unfold mx;split <;> assumption
def Jp {a l:C4}{r:km C4}{d:Rat}{e:Str}{B:Nat}(f:(a::r).getLast?=some l)(j:Ef (a::r))(o:r≠ [])(hl:(a::r).length<=20)(hw:kE e)(x:Bd 100 d)(i:∀c∈a::r,Bd 100 c.1){Q:PV->Prop}(q:Q (.bl (D1 d e 1 (a::r)).isSome)):CG [Ay (a::r), .str e,fr d] Q:=by
 have A:=i l (AAl f);have ba:=i a (by simp);have p:a.1<l.1:=by
  cases r with
  | nil=>exact absurd rfl o
  | cons b r=>exact(AAI.mp j).1 l (AAl (F6 f))
 have dl:(a::r).dropLast ++ [l] =a::r:=by have h:=AC7 (l:=a::r) (by simp);rw[ABT (by simp)] at f;cases f;exact h
 rw[D1,f,ACI] at q;apply Iz;ac_rfl;rcases hw with rfl|rfl|⟨w,hw⟩
 .refine gb ?_;have q:Q (.bl true):=by
   by_cases h:(1:Rat)=0\/¬d<l.1
   .rw [AAD h] at q;exact q
   .rw [AAC h,AAD rfl] at q;exact q
  ac_rfl;exact q
 .refine ga ?_;have q:Q (.bl true):=by
   by_cases h:(1:Rat)=0\/¬d<l.1
   .rw [AAD h] at q;exact q
   .rw [AAC h,AAC (by decide +kernel),AAD rfl] at q;exact q
  ac_rfl;exact q
 .have s:¬e="wait" :=by rintro rfl;rw[Om] at hw;cases hw
  have t:¬e="slow" :=by rintro rfl;rw[Ol] at hw;cases hw
  rw[AAC s,AAC t,hw,ACy] at q;refine lG hw ?_;ac_rfl
  .rename_i z;rw[AAD (.inr z)] at q;exact q
  .rename_i z;rw[AAC (by rintro(h|h);exact absurd h (by decide);exact h z)] at q;have ml:=jY p z;have key:(Ej (Dn (a::r) (mx d a.1)) (sp (a::r) (mx d a.1)) (Jf (a::r) (mx d a.1)) w 1).isSome=(a::r).dropLast.any (λc=>decide (d<c.1)&&decide (a.1<c.1)):=by
    have u:(Jf (a::r) (mx d a.1)).length=((a::r).dropLast.filter λc=>decide (d<c.1)&&decide (a.1<c.1)).length+1:=by unfold Jf;rw[<-dl,List.filter_append,AAn,List.dropLast_concat,AE2 (by simpa using ml)];congr 2;refine List.filter_congr λc _=> ?_;rw[ABm,ABZ,AAo,ABZ,ABZ];unfold mx;split <;> grind
    unfold Ej;rw[u];cases m:(a::r).dropLast.any (λc=>decide (d<c.1)&&decide (a.1<c.1)) with
    | true=> obtain⟨c,hc,k⟩:=ABh.mp m;have:0<((a::r).dropLast.filter λc=>decide (d<c.1)&&decide (a.1<c.1)).length:=AE0 (AAe.mpr ⟨hc,k⟩);rw[AAC (by omega)];rfl
    | false=>
      have:(a::r).dropLast.filter (λc=>decide (d<c.1)&&decide (a.1<c.1))= [] :=by refine AEi.mpr λc hc k=> ?_;have:=AEf.mp m c hc;exact this k
      rw[this];rfl
   rw[key] at q;have v:∀c∈(a::r).dropLast,Bd 100 c.1:=λc hc=>i c (ADt _ hc);have g:(a::r).dropLast.length<=20:=by rw[ADz];omega
   refine⟨lt_size (n:=20) g (by decide), ?_⟩;refine Db cor (λb=>PV.bl b) (λc=>decide (d<c.1)&&decide (a.1<c.1)) (λc=>Bd 100 c.1) (λc i R h=> ?_) _ [] v ?_
   .ac_rfl
    .rename_i y;rw[AAi y,Bool.true_and] at h;exact h
    .rename_i y;rw[AAS y,Bool.false_and] at h;exact h
   .rw [AA0,ABq];ac_rfl;refine jj (XF (λc:C4=>decide (d<c.1)&&decide (a.1<c.1)) _) ?_;rw[List.any_map];exact q
end PL
namespace PL
open PySem L2 PyProof.Rows
def aK (ss:km BR)(In:Pl->gn):gn->km Pl->Prop
 | _, [] =>True
 | c,p::r=>(c=false->In p=true->∃s∈ss,bp s=p)/\aK ss In (In p) r
theorem Px {ss:km BR}:∀(X:km Pl) (c:Int),G3 ss c X->aK ss (λp=>ss.any (Bk · p)) (decide (1<=c)) X
 | [],_,_=>True.intro
 | p::r,c,h=>by
   have ih:=Px r (Hn ss p) h.2;rw[K2] at ih;refine⟨λhc hi=> ?_,ih⟩;have hc:¬1<=c:=by simpa using hc
   have hi:ss.any (Bk · p)=true:=hi;rw[<-K2] at hi;have hi:(1:Int)<=Hn ss p:=by simpa using hi
   have c0:0<cnt ss p:=by have:=h.1;omega
   refine AEh λd=> ?_;have go:∀a:km BR,(∀s∈a,bp s≠p)->cnt a p<=0:=by
    intro a;induction a with
    | nil=>intro _;exact Int.le_refl _
    | cons s a ih=>
      intro b;have e:cnt (s::a) p=Jy s p+cnt a p:=by simp[cnt]
      have o:Jy s p<=0:=by unfold Jy;rw[AAC (b s (by simp))];split <;> decide
      have:=ih λx hx=>b x (by simp[hx]);omega
   have:=go ss λs hs z=>d ⟨s,hs,z⟩;omega
theorem HP {ss:km BR}{In:Pl->gn}:∀(X:km Pl) (b:kd Pl),aK ss In b.isSome X->(∀q,b=some q->∃t∈ss,bp t=q)->∀s∈Co In X b,∃t∈ss,bp t=bp s
 | [],none,_,_=>λs hs=>by cases hs
 | [],some q,_,hq=>λs hs=>by simp only[Co,AAR] at hs;subst hs;rw[Q8];exact hq q rfl
 | x::r,b,hd,hq=>by
   have a:=hd.2;cases b with
   | none=>
     unfold Co;cases e:In x with
     | true=>rw[AAD rfl];rw[e] at a;exact HP r (some x) a (λq h=>by cases h;exact hd.1 rfl e)
     | false=>rw[AAC (by decide)];rw[e] at a;exact HP r none a (λq h=>by cases h)
   | some q=>
     unfold Co;cases e:In x with
     | true=>rw[AAD rfl];rw[e] at a;exact HP r (some q) a hq
     | false=>
       rw[AAC (by decide)];rw[e] at a;intro s hs;rcases AAF.mp hs with rfl|hs
       .rw [Q8];exact hq q rfl
       .exact HP r none a (λq h=>by cases h) s hs
def VR {B:Nat}{ss:km BR}(ok:∀s∈ss,CN B s):∀r∈canon 1 ss,∃t∈ss,bp t=bp r:=by rw[Kx];exact HP (C6 ss) none (Px (C6 ss) 0 (FU ok)) (λq h=>by cases h)
def au {B:Nat}{ss:km BR}(ok:∀s∈ss,CN B s)(lo:∀s∈ss,0<=s.1/\(s.2.1=1->s.1=0)):∀s∈canon 1 ss,0<=s.1/\(s.2.1=1->s.1=0):=λs hs=>by obtain⟨t,a,e⟩:=VR ok s hs;have b:t.1=s.1:=congrArg (λp:Pl=>p.1) e;have c:1-t.2.1=1-s.2.1:=congrArg (λp:Pl=>p.2) e;have:=lo t a;rw[b] at this;exact⟨this.1,λz=>this.2 (by omega)⟩
instance{i:Int}{Q:PV->Prop}:Wp (Cv [.int i] Q) (Q (.bl true)):=⟨λh=>ej (by simp[kdOf]) h⟩
def Zc {r:Rat}(b:Bd 8000 r){Q:PV->Prop}(q:Q (.bl true)):BV [fr r] Q:=by
 have hp:Rat.divInt r.num r.den=r:=ABX r;apply IM;rw[show fr r=PV.tup [.int r.num, .int r.den] from rfl];ac_rfl
 .refine Be _ _ (by have:=r.den_pos;omega) (BH b.top (by decide)) (BH b.botI (by decide)) ?_;rw[hp];show JO (fr r) (fr r) Q;ac_rfl;rw[AAi rfl];exact q
 .rename_i h;exact absurd (by have:=r.den_pos;omega) h
instance{r:Rat}{Q:PV->Prop}:Pw (BV [fr r] Q) (Bd 8000 r) (Q (.bl true)):=⟨λb h=>Zc b h⟩
def Nu (a:km BR):PV:=match a.getLast? with | none=> .non|some s=>(match s.2.2 with | none=> .non|some e=>fr e)
def ZA {ss:km BR}(hl:ss.length<=100)(ok:∀s∈ss,CN 3900 s)(o:Sep ss)(lo:∀s∈ss,0<=s.1/\(s.2.1=1->s.1=0)){Q:PV->Prop}(q:Q (.bl true)):DP [.tup (ss.map BN)] Q:=by
 apply MO;ac_rfl;show EO _ _ _ (DU 0 (ss.map BN)) _;refine Hm (λG τ=>∃c j k l,c++j=ss/\G=DU c.length (j.map BN)/\τ= [some (.val (.tup (ss.map BN))),some (.val (Nu c)),k,l]) ?_ ?_ _ _ ⟨[],ss,_,_,rfl,rfl,rfl⟩
 .rintro τ ⟨c,j,k,l,e,u,rfl⟩;ac_rfl;exact q
 .rintro x G τ R H ⟨c,j,k,l,e,u,rfl⟩;cases j with
  | nil=>simp[DU] at u
  | cons s j=>
    rw[AAP,DU] at u;cases u;have os:=ok s (by rw[<-e];simp);have w:=lo s (by rw[<-e];simp);have bs:=os.b;have a:∀k l v,v=Nu (c ++ [s])->R [some (.val (.tup (ss.map BN))),some (.val v),k,l] :=λk l v h=>H _ ⟨c ++ [s],j,k,l,by rw[<-e];simp,by simp,by rw[h]⟩;clear H;have lv:Nu (c ++ [s])=(match s.2.2 with | none=>PV.non|some e=>fr e):=by unfold Nu;rw[AC9]
    rw[lv] at a;clear lv;have F:(c= [] /\Nu c= .non)\/(∃d,Nu c=fr d/\Bd 3900 d/\¬s.1<d/\¬s.1=0/\s.2.1=0/\c≠ []):=by
     rcases List.eq_nil_or_concat c with rfl|⟨M,p,rfl⟩
     .exact .inl ⟨rfl,rfl⟩
     .right;have op:=ok p (by rw[<-e];simp);have N:=lo p (by rw[<-e];simp);have g:pF p s:=by have h:=o;rw[<-e] at h;unfold Sep at h;rw[AE3,ACV,ABY] at h;exact(AAI.mp h.2.1).1 s (by simp)
      obtain⟨d,I,h⟩:=g;have J:=op.e d I;have n:0<s.1:=by have:=N.1;have:=J.1;rcases h with h|h <;> grind
      refine⟨d,by unfold Nu;rw[AE3,AC9];simp only[I],J.2,by rcases h with h|h <;> grind,by grind, ?_,by simp⟩;rcases os.h with z|z
      .exact z
      .have:=w.2 z;grind
    have A:¬s.1<0:=by have:=w.1;grind
    have K:=os.h;have L:=w.2;have B:¬s.1=0->s.2.1=if decide (s.1=0)=true then 1 else 0:=λz=>by
     rw[AAS z];rcases K with y|y
     .exact y
     .exact absurd (L y) z
    have f:¬s.2.1=0->s.2.1=if decide (s.1=0)=true then 1 else 0:=λz=>by have y:s.2.1=1:=K.resolve_left z;rw[AAi (L y)];exact y
    rw[Ml s];clear o lo w;rcases F with⟨O,E⟩|⟨d,E,S,f1,C,D,P⟩
    .subst O;rw[E];cases m:s.2.2 with
     | none=> rw[m] at a;ac_rfl;all_goals first | exact a _ _ _ rfl|exact absurd ‹s.1<0› A|exact absurd (B ‹_›) ‹_› | exact absurd (f ‹_›) ‹_› | exact absurd n ‹_› | exact absurd ‹s.1<d› f1|exact absurd D ‹_› | exact absurd i ‹_› | exact absurd ‹_› ul|exact absurd ‹_› C
     | some t=> rw[m] at a;have r:=os.e t m;have bt:=r.2;have n:=r.1;ac_rfl;all_goals first | exact a _ _ _ rfl|exact absurd ‹s.1<0› A|exact absurd (B ‹_›) ‹_› | exact absurd (f ‹_›) ‹_› | exact absurd n ‹_› | exact absurd ‹s.1<d› f1|exact absurd D ‹_› | exact absurd i ‹_› | exact absurd ‹_› ul|exact absurd ‹_› C
    .rw [E];have ul:¬((c.length:Nat):Int)=0:=by intro h;exact P (List.eq_nil_of_length_eq_zero (by omega))
     have i:0<((c.length:Nat):Int):=by omega
     cases m:s.2.2 with
     | none=> rw[m] at a;ac_rfl;all_goals first | exact a _ _ _ rfl|exact absurd ‹s.1<0› A|exact absurd (B ‹_›) ‹_› | exact absurd (f ‹_›) ‹_› | exact absurd n ‹_› | exact absurd ‹s.1<d› f1|exact absurd D ‹_› | exact absurd i ‹_› | exact absurd ‹_› ul|exact absurd ‹_› C
     | some t=> rw[m] at a;have r:=os.e t m;have bt:=r.2;have n:=r.1;ac_rfl;all_goals first | exact a _ _ _ rfl|exact absurd ‹s.1<0› A|exact absurd (B ‹_›) ‹_› | exact absurd (f ‹_›) ‹_› | exact absurd n ‹_› | exact absurd ‹s.1<d› f1|exact absurd D ‹_› | exact absurd i ‹_› | exact absurd ‹_› ul|exact absurd ‹_› C
def RA {ss:km BR}(lo hi:kd Int):∃a:km BR,FM (ss.map BN) lo hi=a.map BN/\(∀t∈a,t∈ss)/\a.length<=ss.length:=by
 refine⟨(ss.drop (HT.sIx (ss.map BN).length 0 lo)).take (HT.sIx (ss.map BN).length (ss.map BN).length hi-HT.sIx (ss.map BN).length 0 lo), ?_,λt b=>List.mem_of_mem_drop (List.mem_of_mem_take b), ?_⟩
 .unfold FM;rw[ADu,ACe]
 .rw [ADL,ACq];omega
def VM {ss:km BR}{n:Int}{u:Rat}(K:Bd 10 u)(X:0<=n)(Y:n<=20)(hl:ss.length<=60)(ok:∀s∈ss,CN 400 s){Q:PV->Prop}(q:∀xs:km Rat,xs.length<=2000->(∀x∈xs,Bd 1300 x)->Q (.lst (xs.map fr))):Cr [.tape, .tup (ss.map BN), .int n,fr u] Q:=by
 apply LF;have L:Bd 4 (7:Rat):=⟨by decide +kernel,by decide +kernel⟩;have d:Bd 11 (1000:Rat):=⟨by decide +kernel,by decide +kernel⟩;have b2:Bd 3 (2:Rat):=⟨by decide +kernel,by decide +kernel⟩;ac_rfl;refine RH (λi τ=>∃(xs:km Rat) (f:kd AV),xs.length=i+1/\(∀x∈xs,Bd 1300 x)/\τ= [some (.val .tape),some (.val (.tup (ss.map BN))),some (.val (.int n)),some (.val (fr u)),some (.own (xs.map fr)),f,none,none,none,none,none]) ?_ ?_ ⟨[0],_,rfl,by simp;exact gH.mono (by decide),rfl⟩
 .rintro τ ⟨xs,f,h1,h2,rfl⟩;obtain⟨v,M,m1,l1⟩:=RA (ss:=ss) none (some 2);obtain⟨N,O,m2,Z⟩:=RA (ss:=ss) (some 2) none;obtain⟨z,P,m3,l3⟩:=RA (ss:=N) (some (-2)) none;have m:∀s∈v++z,CN 400 s:=λs hs=>by
   rcases AAL.mp hs with h|h
   .exact ok s (m1 s h)
   .exact ok s (m2 s (m3 s h))
  have S:(v++z).length<=120:=by rw[AAn];omega
  ac_rfl;rw[M,O,P,<-AAY,AAK,AAK];refine⟨GP (n:=200) (by omega) (by decide), ?_⟩;show EO _ _ _ ((v++z).map BN) _;generalize v++z=tt at *;refine Dd BN (λH vs τ=>∃(ys:km Rat) (g j k l c:kd AV),ys.length<=21+6*H.length/\(∀x∈ys,Bd 1300 x)/\τ= [some (.val .tape),some (.val (.tup (ss.map BN))),some (.val (.int n)),some (.val (fr u)),some (.own (ys.map fr)),f,g,j,k,l,c]) ?_ ?_ ⟨xs,_,_,_,_,_,by simp;omega,h2,rfl⟩
  .rintro τ ⟨ys,g,j,k,l,c,T,A,rfl⟩;ac_rfl;exact q ys (by omega) A
  .rintro H s vs e τ R o ⟨ys,g,j,k,l,c,T,A,rfl⟩;have os:=m s (by rw[<-e];simp);have bs:=os.b;have ul:H.length<120:=by have:=congrArg List.length e;simp at this;omega
   have p:∀(B C D E F G:Rat) g j k l c,Bd 1300 B->Bd 1300 C->Bd 1300 D->Bd 1300 E->Bd 1300 F->Bd 1300 G->R [some (.val .tape),some (.val (.tup (ss.map BN))),some (.val (.int n)),some (.val (fr u)),some (.own (ys.map fr ++ [fr B,fr C,fr D,fr E] ++ [fr F] ++ [fr G])),f,g,j,k,l,c] :=λB C D E F G g j k l c c1 c2 c3 c4 c5 c6=>o _ ⟨ys ++ [B,C,D,E,F,G],g,j,k,l,c,by simp;omega,by
    intro y hy;rcases AAL.mp hy with h|h
    .exact A y h
    .simp only[AAF,AA1,AA2] at h;rcases h with rfl|rfl|rfl|rfl|rfl|rfl <;> assumption,by simp⟩
   have yl:ys.length<=1000:=by omega
   clear o A q h2 ok m;rw[Ml s];cases U:s.2.2 with
   | none=> have r:Bd 420 (s.1+u*((7:Int):Rat)):=(bs.add (K.mul L)).mono (by decide);have I:Bd 840 ((s.1+u*((7:Int):Rat)-s.1)/((1000:Int):Rat)):=(Bd.div (by decide) (r.sub bs) d).mono (by decide);have bm:Bd 840 ((s.1+(s.1+u*((7:Int):Rat)))/((2:Int):Rat)):=(Bd.div (by decide) (bs.add r) b2).mono (by decide);ac_rfl;generalize (s.1+u*((7:Int):Rat)-s.1)/((1000:Int):Rat)=y at *;generalize s.1+u*((7:Int):Rat)=e at *;ac_rfl;refine p _ _ _ _ _ _ _ _ _ _ _ ?_ ?_ ?_ ?_ ?_ ?_ <;> decreasing_trivial_pre_omega
   | some t=> have bt:=(os.e t U).2;have I:Bd 840 ((t-s.1)/((1000:Int):Rat)):=(Bd.div (by decide) (bt.sub bs) d).mono (by decide);have bm:Bd 840 ((s.1+t)/((2:Int):Rat)):=(Bd.div (by decide) (bs.add bt) b2).mono (by decide);ac_rfl;generalize (t-s.1)/((1000:Int):Rat)=y at *;ac_rfl;refine p _ _ _ _ _ _ _ _ _ _ _ ?_ ?_ ?_ ?_ ?_ ?_ <;> decreasing_trivial_pre_omega
 .rintro i hi τ R o ⟨xs,f,h1,h2,rfl⟩;have S:xs.length<sizeLine:=lt_size (n:=30) (by omega) (by decide);have J:∀(x:Rat) f,Bd 1300 x->R [some (.val .tape),some (.val (.tup (ss.map BN))),some (.val (.int n)),some (.val (fr u)),some (.own (xs.map fr ++ [fr x])),f,none,none,none,none,none] :=λx f b=>o _ ⟨xs ++ [x],f,by simp[h1],by
   intro y hy;rcases AAL.mp hy with h|h
   .exact h2 y h
   .rw [AAR.mp h];exact b,by simp⟩
  clear o;ac_rfl;rename_i a a0 a1 b b0 b1;refine Be _ _ (by omega) (AAW (show _<2^6 by omega) (ACZ (by decide) (by decide))) (AAW (show _<2^5 by omega) (ACZ (by decide) (by decide))) ?_;have W:Bd 8 (Rat.divInt a (1+b)):= .divInt (by omega) (by omega) (by omega);generalize Rat.divInt a (1+b)=w at *;ac_rfl;exact J _ _ ((K.mul W).mono (by decide))
end PL
namespace PL.K53
open PySem L2 PL PyProof.Rows
open PL.K31
abbrev Qj:AS:=
 (AZ (Ak (AN 3 Ct (AB (AX Aj (AX Aj (aV 12) (MC E4 (aV 9))) (aC (.int 0))) (AB (AN 2 A8 (AB (AX Aj (aV 6) (aC (.int 1))) (AB (AX Aj (AX Aj (aV 4) (aC (.int 1))) (aC (.int 2))) AL))) (AB (aV 7) AL)))) (An 13))
   (Bb (Al (AX Vc (aV 13) (AN 2 DR (AB (aV 10) (AB (aV 11) AL))))) (Ao (aC (.bl false))) BE))
abbrev Qk:AS:=
 (AZ (Ak (AN 4 CH (AB (aV 3) (AB (aV 8) (AB (aV 11) (AB (aV 5) AL))))) (An 12))
   (Bb (Dj (Al (AN 2 Ai (AB (aV 11) (AB (Az (AB (aC (.int 0)) (AB (aC (.int 1)) AL))) AL))))) Qj BE))
abbrev L5:AS:=
 (AZ (Ak (AN 6 DS (AB (aV 4) (AB (aV 8) (AB (aV 5) (AB (aV 6) (AB (FI (ab (AB (aV 7) AL))) (AB (aV 9) AL))))))) (An 10))
   (Bb (Dj (Al (AN 3 CG (AB (aV 3) (AB (aV 8) (AB (aV 5) AL)))))) (Bb (Al (AX HF (aV 10) (aC .non))) (Ao (aC (.bl false))) BE) (Bb (Dj (Al (AN 1 DP (AB (aV 10) AL)))) (Ao (aC (.bl false))) (E3 (HC (AN 4 Cr (AB (aV 2) (AB (aV 10) (AB (aC (.int 6)) (AB (Az (AB (aC (.int 1)) (AB (aC (.int 1)) AL))) AL)))))) (An 11) Qk))))
abbrev L4:AS:=
 (AZ (Ak (AN 2 BA (AB (aV 2) (AB (aC (.int 2)) AL))) (An 9))
   L5)
abbrev L3:AS:=
 (AZ (Ak (AN 1 EL (AB (aV 2) AL)) (An 8))
   L4)
abbrev L1:AS:=
 (AZ (Ak (AN 1 CT (AB (aV 2) AL)) (An 7))
   L3)
abbrev L0:AS:=
 (AZ (Ak (Az (AB (aC (.str "gate")) (AB (AN 1 CL (AB (aV 2) AL)) (AB (AX A4 (aC (.int 1)) (AN 2 BA (AB (aV 2) (AB (aC (.int 3)) AL)))) AL)))) (An 6))
   L1)
abbrev Lz:AS:=
 (AZ (Ak (AN 2 Ey (AB (aV 2) (AB (aV 3) AL))) (An 5))
   L0)
abbrev Ly:AS:=
 (AZ (Ak (Az (AB (aV 3) (AB (AN 1 DO (AB (aV 2) AL)) AL))) (An 4))
   Lz)
abbrev Lx:AS:=
 (AZ (Ak (AN 1 FP (AB (aV 2) AL)) (An 3))
   Ly)
abbrev Ql:AS:=
 (AZ (Ak (AN 2 NM (AB (aV 0) (AB (aV 1) AL))) (An 2))
   Lx)
abbrev Pp:AS:=
 (AZ (E3 (Yi (AB (AX A4 (aC (.int 1)) (Ev (kZ min) (AB (aC (.int 7)) (AB (Ev Gq (AB (aV 0) AL)) AL)))) AL)) (An 1) Ql)
   (Ao (aC (.bl true))))
def Eu:AF:=As 14 Pp
def UY {a:PV}{Q:PV->Prop}(h:Pp ⟨λ_=>Q .non,Q,λ_=>False,λ_=>False⟩ [some (.val a),none,none,none,none,none,none,none,none,none,none,none,none,none]):Eu [a] Q:=h
def Iy (s:Int)(y:Rat)(c:C4):C4:=if s=1 then (c.1,c.2.1+y,c.2.2.1,c.2.2.2) else if s=2 then (c.1,c.2.1,c.2.2.1+y,c.2.2.2) else (c.1,c.2.1,c.2.2.1,c.2.2.2+y)
instance{c:C4}{Q:PV->Prop}:Wp (RG (cor c) none (some 1) Q) (Q (.tup [fr c.1])):=⟨λh=>DE h⟩
instance{c:C4}{Q:PV->Prop}:Wp (RG (cor c) none (some 2) Q) (Q (.tup [fr c.1,fr c.2.1])):=⟨λh=>DE h⟩
instance{c:C4}{Q:PV->Prop}:Wp (RG (cor c) none (some 3) Q) (Q (.tup [fr c.1,fr c.2.1,fr c.2.2.1])):=⟨λh=>DE h⟩
instance{c:C4}{Q:PV->Prop}:Wp (RG (cor c) (some (1+1)) none Q) (Q (.tup [fr c.2.2.1,fr c.2.2.2])):=⟨λh=>DE h⟩
instance{c:C4}{Q:PV->Prop}:Wp (RG (cor c) (some (2+1)) none Q) (Q (.tup [fr c.2.2.2])):=⟨λh=>DE h⟩
instance{c:C4}{Q:PV->Prop}:Wp (RG (cor c) (some (3+1)) none Q) (Q (.tup [])):=⟨λh=>DE h⟩
def az {L:km C4}(h:¬L.length<2):FM (L.map cor) (some (-1)) none=(L.drop (L.length-1)).map cor:=by
 unfold FM;rw[ACe,AAK];have e:HT.sIx L.length 0 (some (-1))=L.length-1:=by unfold HT.sIx;simp;omega
 have a:HT.sIx L.length L.length none=L.length:=rfl;rw[e,a];refine ACC ?_;simp
def ay (L:km C4):FM (L.map cor) none (some (-1))=L.dropLast.map cor:=by
 unfold FM;have e:HT.sIx L.length 0 none=0:=rfl;have a:HT.sIx L.length L.length (some (-1))=L.length-1:=by unfold HT.sIx;simp;omega
 rw[AAK,e,a,List.drop_zero,Nat.sub_zero,<-ADu,AES]
def jt {X Y Z:BL->Prop}{Q:PV->Prop}{F L:km C4}{C:C4}{s:Int}{y:Rat}{v:PV}(hv:v=fr y){f g i j k a b d e:kd AV}(hs:s=1\/s=2\/s=3)(l:∀c∈L,DA 200 c)(m:Bd 1300 y)(hF:F.length<=100)(o:L.length<=100)(q:Q (Jz (if L.length<2 then none else some (F ++ [C] ++ L.dropLast.map (Iy s y)++L.drop (L.length-1))))):Ee {nx:=X,rt:=Q,bk:=Y,ct:=Z} [f,g,i,j,k,some (.val (.lst (F.map cor))),some (.val (cor C)),some (.val (.lst (L.map cor))),some (.val (.int s)),some (.val v),a,b,d,e] :=by
 subst hv;ac_rfl
 .rename_i h;rw[AAD (by omega)] at q;exact q
 rename_i h;have h':¬L.length<2:=by omega
 rw[AAC h'] at q;rw[ay];refine⟨lt_size (n:=100) (by rw[AAK,ADz];omega) (by decide), ?_⟩;refine Db cor cor (Iy s y) (DA 200) (λc p R h=> ?_) _ [] (λc hc=>l c (ADt _ hc)) ?_
 .rcases hs with rfl|rfl|rfl
  .ac_rfl;exact h
  .ac_rfl;exact h
  .ac_rfl;exact h
 rw[AA0];ac_rfl;refine⟨GP (n:=300) (by simp;omega) (by decide), ?_⟩;ac_rfl;rw[az h'];refine⟨GP (n:=400) (by simp;omega) (by decide), ?_⟩;rw[show [cor C] = [C].map cor from rfl,<-AAY,<-AAY,<-AAY];ac_rfl;exact q
def UD:∀F:km C4,C2 30 (.lst (F.map cor))=true:=λF=>by simp only[C2];refine Jv λx hx=> ?_;obtain⟨c,_,rfl⟩:=AAZ.mp hx;simp only[cor,fr,C2,Fh,Bool.and_self]
def lj {F:km C4}{Q:PV->Prop}(q:Q (.bl (!decide (F= [])))):Vc (.lst (F.map cor)) (.lst []) Q:=by
 refine⟨⟨UD F,UD []⟩, ?_⟩;cases F with
 | nil=>exact q
 | cons c F=> rw[AAS (by simp)] at q;exact q
def jD (f:C4->Rat)(L:km C4):LW ((L.map f).map fr) (L.map cor)=L.map λc=> .tup [fr (f c),cor c] :=by
 unfold LW;induction L with
 | nil=>rfl
 | cons c L ih=>simp only[AAP,List.zipWith_cons_cons];rw[ih]
def qI {C:C4}{b:gn}{Q:PV->Prop}(q:Q (.lst (if b then [cor C] else []))):Nb (.lst [cor C]) (.int (if b=true then 1 else 0)) Q:=by
 cases b with
 | true=>exact UA ⟨by decide,by decide,by simp⟩ q
 | false=>exact UA ⟨by decide,by decide,by simp⟩ q
def cQ {F L:km C4}{C:C4}{x:Rat}:Ej F C L (1,0,0) x=if L.length<2 then none else some (F ++ [C] ++ L.dropLast.map (Iy 1 x)++L.drop (L.length-1)):=by unfold Ej offC Iy;simp only[ACJ,ABU,AB5,ACG];rfl
def cR {F L:km C4}{C:C4}{x:Rat}:Ej F C L (-1,0,0) x=if L.length<2 then none else some (F ++ [C] ++ L.dropLast.map (Iy 1 (-x))++L.drop (L.length-1)):=by unfold Ej offC Iy;simp only[ACJ,ABU,AB5,ACG];rfl
def ZF {F L:km C4}{C:C4}{x:Rat}:Ej F C L (0,1,0) x=if L.length<2 then none else some (F ++ [C] ++ L.dropLast.map (Iy 2 x)++L.drop (L.length-1)):=by unfold Ej offC Iy;simp only[ACJ,ABU,AB5,ACG];rfl
def ZG {F L:km C4}{C:C4}{x:Rat}:Ej F C L (0, -1,0) x=if L.length<2 then none else some (F ++ [C] ++ L.dropLast.map (Iy 2 (-x))++L.drop (L.length-1)):=by unfold Ej offC Iy;simp only[ACJ,ABU,AB5,ACG];rfl
def lU {F L:km C4}{C:C4}{x:Rat}:Ej F C L (0,0,1) x=if L.length<2 then none else some (F ++ [C] ++ L.dropLast.map (Iy 3 x)++L.drop (L.length-1)):=by unfold Ej offC Iy;simp only[ACJ,ABU,AB5,ACG];rfl
def cP {F L:km C4}{C:C4}{x:Rat}:Ej F C L (0,0, -1) x=if L.length<2 then none else some (F ++ [C] ++ L.dropLast.map (Iy 3 (-x))++L.drop (L.length-1)):=by unfold Ej offC Iy;simp only[ACJ,ABU,AB5,ACG];rfl
def gu (x:Rat):PV.tup [.int (-x.num), .int x.den] =fr (-x):=by unfold fr;rw[Rat.neg_num,Rat.neg_den]
abbrev Wy:km Str:= ["east","west","north","south","up","down"]
def Zz {X Y Z:BL->Prop}{Q:PV->Prop}{F L:km C4}{C:C4}{x:Rat}{a:Str}{j:Nat}{s:Int}{b:gn}{h k l:kd AV}(hj:Wy[j]? =some a)(m:∀i,i<j->Wy[i]? ≠some a)(es:1+(j:Int).fdiv 2=s)(d:C2 29 (.str a)=true)(hb:jS (.str a) [.str "east", .str "north", .str "up"] =b)(hs:s=1\/s=2\/s=3)(e:∀c∈L,DA 200 c)(f:Bd 1300 x)(hF:F.length<=100)(g:L.length<=100)(q:Q (Jz (if L.length<2 then none else some (F ++ [C] ++ L.dropLast.map (Iy s (if b then x else -x))++L.drop (L.length-1))))):Ed {nx:=X,rt:=Q,bk:=Y,ct:=Z} [h,some (.val (.str a)),some (.val (fr x)),k,l,some (.val (.lst (F.map cor))),some (.val (cor C)),some (.val (.lst (L.map cor))),none,none,none,none,none,none] :=by
 ac_rfl;unfold kH;ac_rfl;refine⟨Wy,a,j,rfl,rfl,hj,m, ?_⟩;ac_rfl;refine⟨⟨by decide,by decide +kernel⟩, ?_⟩;ac_rfl;rw[es];refine Xh d (by simp only[Fh,C2];decide +kernel) hb ?_;cases b with
 | true=>exact jt (s:=s) (y:=x) rfl hs e f hF g q
 | false=>repeat' (first | exact jt (s:=s) (y:= -x) (gu x) hs e f.neg hF g q|array_mem_dec)
def Uf {a l:C4}{r:km C4}{d x:Rat}{E:Str}(s:fG 0 d (a::r))(C:(a::r).getLast?=some l)(K:Bd 14 d)(o:Bd 1300 x)(hw:kE E){Q:PV->Prop}(q:Q (Jz (D1 d E x (a::r)))):CH [Ay (a::r), .str E,fr x,fr d] Q:=by
 have p:=s.cbd;have two:=s.two;have H:=s.few;have i:=s.ris;have G:∀c∈a::r,DA 90 c/\Bd 26 c.1:=λc hc=>p c (Tz i two hc);have I:r≠ [] :=by rintro rfl;simp at two
 have P:=(G l (AAl C)).2;have ba:=(G a (by simp)).2;rw[D1,C,ACI] at q;have p:∀c∈FG (a::r) (mx d a.1),DA 90 c/\Bd 26 c.1:=p;have tail:∀n,n=mx d a.1->¬x=0->d<l.1->Ec ⟨λ_=>Q .non,Q,λ_=>False,λ_=>False⟩ [some (.val (Ay (a::r))),some (.val (.str E)),some (.val (fr x)),some (.val (fr d)),some (.val (fr n)),none,none,none,none,none,none,none,none,none] :=by
  intro n D hx u;rw[AAC (by rintro(z|z);exact hx z;exact z u),<-D] at q;rw[<-D] at p;have M:a.1<l.1:=by
   cases r with
   | nil=>exact absurd rfl I
   | cons b r=>exact(AAI.mp i).1 l (AAl (F6 C))
  have O:a.1<=n:=by rw[D];exact Xq d a.1
  have g1:n<l.1:=by rw[D];exact jY M u
  have bm:Bd 40 n:=by rw[D];exact(K.mono (by omega)).mx (ba.mono (by omega))
  have g:∀c∈a::r,DA 90 c:=λc hc=>(G c hc).1;have v:(Dn (a::r) n).length<=100:=AAa (ACh _ _) (by omega);have k:(Jf (a::r) n).length<=100:=AAa (ACh _ _) (by omega);have bt:∀c∈Jf (a::r) n,DA 90 c:=λc hk=>g c (AAe.mp hk).1;obtain⟨t,J⟩:=FF (m:=n) I C O (by grind);have es:sp (a::r) n=(n,t):=by unfold sp;rw[J];rfl
  have bs:DA 90 (n,t):=by rw[<-es];exact(p _ (by unfold FG;simp)).1
  ac_rfl;refine EA cor cor (λc=>decide (c.1<n)) (DA 90) (λc A R N h1 h2=> ?_) (a::r) [] g ?_
  .ac_rfl
   .rename_i z;exact h1 (AAi z)
   .rename_i z;exact h2 (AAS z)
  ac_rfl;refine NK (B:=90) g i (by simp) (by omega) bm (by omega) ?_;rw[J];simp only[Ul];ac_rfl;refine EA cor cor (λc=>decide (n<c.1)) (DA 90) (λc A R N h1 h2=> ?_) (a::r) [] g ?_
  .ac_rfl
   .rename_i z;exact h1 (AAi z)
   .rename_i z;exact h2 (AAS z)
  rw[es] at q;rw[AA0,AA0]
  change (Jf (a::r) n).length<=100 at k
  rw[show (List.filter (λc:C4=>decide (c.1<n)) (a::r))=Dn (a::r) n from rfl,show (List.filter (λc:C4=>decide (n<c.1)) (a::r))=Jf (a::r) n from rfl];generalize Dn (a::r) n=F at *;generalize Jf (a::r) n=L at *;clear p G C s J es two H i I g;have S:=hw;rcases hw with rfl|rfl|⟨w,hw⟩
  .rw [AAD rfl] at q;ac_rfl;rw[show [cor (n,t)] ++ L.map cor=((n,t)::L).map cor from rfl];refine Db cor cor (λc:C4=>(c.1+x,c.2)) (DA 90) (λc A R h=> ?_) _ [] (λc hc=> ?_) ?_
   .ac_rfl;exact h
   .rcases AAF.mp hc with rfl|hc
    .exact bs
    .exact bt c hc
   rw[AA0];ac_rfl;refine lj ?_;ac_rfl;refine qI ?_;have q:Q (Ay (KI F (n,t) L x)):=q;unfold KI at q;by_cases e:F= []
   .rw [AAD e] at q;subst e;rw[AAi rfl];refine⟨GP (n:=300) (by simp) (by decide), ?_⟩;ac_rfl;refine⟨GP (n:=300) (by simp;omega) (by decide), ?_⟩;ac_rfl;exact q
   .rw [AAC e] at q;rw[AAS e];refine⟨GP (n:=300) (by simp;omega) (by decide), ?_⟩;ac_rfl;refine⟨GP (n:=300) (by simp;omega) (by decide), ?_⟩;rw[show (if (!false)=true then [cor (n,t)] else [])= [(n,t)].map cor from rfl,<-AAY,<-AAY];ac_rfl;exact q
  .rw [AAC (by decide),AAD rfl] at q;ac_rfl;refine Db cor fr (λc:C4=>(1+x)*(c.1-n)) (DA 90) (λc A R h=> ?_) _ [] bt ?_
   .have:=A.m;ac_rfl;exact h
   rw[AA0];ac_rfl;rw[jD];refine⟨lt_size (n:=100) (by rw[AAK];omega) (by decide), ?_⟩;refine Db (λc:C4=> .tup [fr ((1+x)*(c.1-n)),cor c]) cor (λc:C4=>(n+(1+x)*(c.1-n),c.2)) (DA 90) (λc A R h=> ?_) _ [] bt ?_
   .have:=A.m;have:Bd 1450 ((1+x)*(c.1-n)):=by decreasing_trivial_pre_omega
    generalize (1+x)*(c.1-n)=y at *;ac_rfl;exact h
   rw[AA0];ac_rfl;rw[show [cor (n,t)] = [(n,t)].map cor from rfl,<-AAY,<-AAY];exact q
  .rw [AAC (by rintro rfl;rw[Om] at hw;cases hw),AAC (by rintro rfl;rw[Ol] at hw;cases hw),hw,ACy] at q;have f:∀c∈L,DA 200 c:=λc hc=>(bt c hc).mono (by decide);rcases Lm hw with rfl|rfl|rfl|rfl|rfl|rfl
   .have ew:w=(1,0,0):=by have:=hw.symm.trans (show Fv "east" =some (1,0,0) by decide +kernel);simpa using this
    subst ew;rw[cQ] at q;repeat' (first | exact Zz (j:=0) (s:=1) (b:=true) rfl (by decide +kernel) rfl (by simp only[C2];decide +kernel) (by decide +kernel) (by decide) f o v k q|array_mem_dec)
   .have ew:w=(-1,0,0):=by have:=hw.symm.trans (show Fv "west" =some (-1,0,0) by decide +kernel);simpa using this
    subst ew;rw[cR] at q;repeat' (first | exact Zz (j:=1) (s:=1) (b:=false) rfl (by decide +kernel) rfl (by simp only[C2];decide +kernel) (by decide +kernel) (by decide) f o v k q|array_mem_dec)
   .have ew:w=(0,1,0):=by have:=hw.symm.trans (show Fv "north" =some (0,1,0) by decide +kernel);simpa using this
    subst ew;rw[ZF] at q;repeat' (first | exact Zz (j:=2) (s:=2) (b:=true) rfl (by decide +kernel) rfl (by simp only[C2];decide +kernel) (by decide +kernel) (by decide) f o v k q|array_mem_dec)
   .have ew:w=(0, -1,0):=by have:=hw.symm.trans (show Fv "south" =some (0, -1,0) by decide +kernel);simpa using this
    subst ew;rw[ZG] at q;repeat' (first | exact Zz (j:=3) (s:=2) (b:=false) rfl (by decide +kernel) rfl (by simp only[C2];decide +kernel) (by decide +kernel) (by decide) f o v k q|array_mem_dec)
   .have ew:w=(0,0,1):=by have:=hw.symm.trans (show Fv "up" =some (0,0,1) by decide +kernel);simpa using this
    subst ew;rw[lU] at q;repeat' (first | exact Zz (j:=4) (s:=3) (b:=true) rfl (by decide +kernel) rfl (by simp only[C2];decide +kernel) (by decide +kernel) (by decide) f o v k q|array_mem_dec)
   .have ew:w=(0,0, -1):=by have:=hw.symm.trans (show Fv "down" =some (0,0, -1) by decide +kernel);simpa using this
    subst ew;rw[cP] at q;repeat' (first | exact Zz (j:=5) (s:=3) (b:=false) rfl (by decide +kernel) rfl (by simp only[C2];decide +kernel) (by decide +kernel) (by decide) f o v k q|array_mem_dec)
 apply I0;ac_rfl
 .rename_i z;rw[AAD (.inl z)] at q;exact q
 .rename_i T z;rw[AAD (.inr z)] at q;exact q
 .rename_i hx u z;exact And.right (tail _ (by unfold mx;rw[AAD z]) hx u)
 .rename_i hx u z;exact And.right (tail _ (by unfold mx;rw[AAC z]) hx u)
def Mul.neg53 {D N:Nat}{a:Rat}(h:Mul D N a):Mul D N (-a):=by obtain⟨b,k,rfl,hk⟩:=h;exact⟨b, -k,by rw[Rat.neg_divInt],by omega⟩
def rF {cs:km C4}{b:Rat}(p:W4 9 6 512 cs)(i:Mul 12 1036 b):fG 0 b cs:=by
 have two:=p.two;have j:=p.few;have h:∀c∈cs,Mul 12 1024 c.1:=λc hc=>(p.mu c hc).m.dbl;have f:Mul 12 1036 (nn b cs):=by
  cases cs with
  | nil=>exact i
  | cons a r=> show Mul 12 1036 (mx b a.1);have:=(h a (by simp)).mono (M:=1036) (by decide);unfold mx;split <;> assumption
 refine⟨p.two,by omega,p.ris,11,12,by decide,f.bd (by decide) (by decide),λc hc=> ?_⟩;have e:∀c∈cs,DA 11 c:=λc hc=>(p.mu c hc).bd (by decide) (by decide);have d:∀c∈cs,Bd 12 (c.1-nn b cs)/\KL 90 c.2:=λc hc=>⟨by
  rw[Rat.sub_eq_add_neg];exact((h c hc).add (Mul.neg53 f)).bd (by decide) (by decide),(e c hc).x.mono (by decide),(e c hc).y.mono (by decide),(e c hc).z.mono (by decide)⟩
 unfold FG Dn Jf at hc;rcases AAL.mp hc with hc|hc
 .rcases AAL.mp hc with hc|hc
  .exact d c (AAe.mp hc).1
  .simp at hc;subst hc;have g:=rE (f.bd (n:=11) (by decide) (by decide)) p.ris e;refine⟨?_,g.x.mono (by decide),g.y.mono (by decide),g.z.mono (by decide)⟩;show Bd 12 (nn b cs-nn b cs);rw[show nn b cs-nn b cs=0 by grind];exact gH.mono (by decide)
 .exact d c (AAe.mp hc).1
def step_any {b x:Rat}{c:Str}{cs ds:km C4}(h:D1 b c 1 cs=some ds):∃es,D1 b c x cs=some es:=by
 cases cs with
 | nil=>exact⟨_,rfl⟩
 | cons a r=>
   rw[D1] at h ⊢;by_cases z:¬b<(((a::r).getLast?).getD a).1
   .rw [AAD (.inr z)];exact⟨_,rfl⟩
   .rw [AAC (by rintro(y|y);exact absurd y (by decide);exact z y)] at h;by_cases d:x=0
    .rw [AAD (.inl d)];exact⟨_,rfl⟩
    .rw [AAC (by rintro(y|y);exact d y;exact z y)];by_cases f:c="wait"
     .rw [AAD f];exact⟨_,rfl⟩
     .rw [AAC f] at h ⊢;by_cases g:c="slow"
      .rw [AAD g];exact⟨_,rfl⟩
      .rw [AAC g] at h ⊢;cases e:Fv c with
       | none=>rw[e] at h;cases h
       | some w=>
         rw[e,ACy] at h;rw[ACy];unfold Ej at h ⊢;split at h
         .cases h
         .rename_i y;rw[AAC y];exact⟨_,rfl⟩
def nh {m a h b x:Rat}{hs:km BR}:(∃t∈hs,∀f∈fJ m a (m+b+h) t,0<f.1+f.2*x)↔hs.any (KH (m+a*x) (h+b))=true:=by
 rw[ABh];constructor
 .rintro ⟨t,g,c⟩;refine⟨t,g, ?_⟩;unfold KH;unfold fJ at c;rw[AAo,ABZ];have h1:=c (m+b+h-t.1,a) (by simp);refine⟨by grind, ?_⟩;cases e:t.2.2 with
  | none=>rfl
  | some y=> rw[e] at c;have h2:=c (y-m, -a) (by simp);simp only[Option.all_some,ABZ];grind
 .rintro ⟨t,g,c⟩;refine⟨t,g, ?_⟩;unfold KH at c;rw[AAo,ABZ] at c;intro f d;unfold fJ at d;cases e:t.2.2 with
  | none=> rw[e] at d;simp only[AAR] at d;subst d;have:=c.1;show 0<m+b+h-t.1+a*x;grind
  | some y=>
    rw[e] at d c;simp only[Option.all_some,ABZ] at c;simp only[AAF,AA1,AA2] at d;rcases d with rfl|rfl
    .have:=c.1;show 0<m+b+h-t.1+a*x;grind
    .have:=c.2;show 0<y-m + -a*x;grind
def cO (L:km Int)(hn:L.length<=63):Eu [.scr L] λx=>x= .bl true:=by
 apply UY;ac_rfl;refine RH (λi τ=>∃v w y A C D E F G t f j k,τ= [some (.val (.scr L)),v,w,y,A,C,D,E,F,G,t,f,j,k]) ?_ ?_ ⟨_,_,_,_,_,_,_,_,_,_,_,_,_,rfl⟩
 .rintro τ ⟨v,w,y,A,C,D,E,F,G,t,f,j,k,rfl⟩;repeat' array_get_dec
 .rintro i hi τ R hR ⟨v,w,y,A,C,D,E,F,G,t,f,j,k,rfl⟩;have again:∀v w y A C D E F G t f j k,R [some (.val (.scr L)),v,w,y,A,C,D,E,F,G,t,f,j,k] :=λv w y A C D E F G t f j k=>hR _ ⟨v,w,y,A,C,D,E,F,G,t,f,j,k,rfl⟩;clear hR;ac_rfl;refine NI λcs M=> ?_;ac_rfl;refine VO λb bb b1 b2 b3=> ?_;ac_rfl;refine lw M λp mn=> ?_;ac_rfl;rename_i h bh h0 g g0 g1;refine Wr λhs hl U=> ?_;ac_rfl;refine jC λN hw=> ?_;ac_rfl;rename_i side s0 s1;have sd:side=0\/side=1:=by omega
  clear s0 s1;have st:=rF M mn;have P:Bd 14 p:=mn.bd (by decide) (by decide);have T:∀c∈cs,DA 11 c:=λc hc=>(M.mu c hc).bd (by decide) (by decide);have two:=M.two;have few:=M.few;have H:=M.ris;cases cs with
  | nil=>simp at two
  | cons a r=>
    have W:r≠ [] :=by rintro rfl;simp at two
    obtain⟨l,O⟩:∃l,(a::r).getLast?=some l:=⟨_,ABT (by simp)⟩;have ba:=(T a (by simp)).m;have X:=(T l (AAl O)).m;have bz:=bb.z;refine TM (b:=b) (h:=h) rfl O st P hw bb bh (ba.mono (by decide)) (X.mono (by decide)) (by omega) U sd (λe=> ?_) (λds e ss I=> ?_)
    .ac_rfl;refine Jp (B:=0) O H W (by omega) hw (P.mono (by decide)) (λc hc=>(T c hc).m.mono (by decide)) ?_;rw[e];ac_rfl;exact again _ _ _ _ _ _ _ _ _ _ _ _ _
    .have sl:ss.length<=8:=by have:=I.few;omega
     have Q:=TR I.ok;have cl:(canon 1 ss).length<=16:=by have:=NW (n:=1) (ss:=ss);omega
     have Y:∀s∈canon 1 ss,CN 3900 s:=λs hs=>by have o:=Q s hs;exact⟨o.b.mono (by decide),o.h,λe he=>⟨(o.e e he).1,(o.e e he).2.mono (by decide)⟩⟩
     ac_rfl;refine Jp (B:=0) O H W (by omega) hw (P.mono (by decide)) (λc hc=>(T c hc).m.mono (by decide)) ?_;rw[e];ac_rfl;refine ZA (by omega) Y (Yq I.ok) (au I.ok I.lo) ?_;ac_rfl;refine VM (u:=1) (oD.mono (by decide)) (by decide) (by decide) (by omega) Q λxs xl J=> ?_;ac_rfl;refine Dd fr (λus vs τ=>∃f j k,τ= [some (.val (.scr L)),some (.val (.int (0+i))),some (.val .tape),some (.val (Ay (a::r))),some (.val (.tup [Ay (a::r),d8 b])),some (.val (fr p)),some (.val (.tup [.str "gate",fr h, .int (1+g)])),some (.val (.lst (hs.map BN))),some (.val (.str N)),some (.val (.int side)),some (.val (.tup ((canon 1 ss).map BN))),f,j,k]) ?_ ?_ ⟨_,_,_,rfl⟩
     .rintro τ ⟨f,j,k,rfl⟩;exact again _ _ _ _ _ _ _ _ _ _ _ _ _
     .rintro us x vs ex τ R2 wg ⟨f,j,k,rfl⟩;have K:∀f j k,R2 [some (.val (.scr L)),some (.val (.int (0+i))),some (.val .tape),some (.val (Ay (a::r))),some (.val (.tup [Ay (a::r),d8 b])),some (.val (fr p)),some (.val (.tup [.str "gate",fr h, .int (1+g)])),some (.val (.lst (hs.map BN))),some (.val (.str N)),some (.val (.int side)),some (.val (.tup ((canon 1 ss).map BN))),f,j,k] :=λf j k=>wg _ ⟨f,j,k,rfl⟩;clear wg;have J:=J x (by rw[<-ex];simp);obtain⟨es,ee⟩:=step_any (x:=x) e;obtain⟨c,d,hc,hd,ec,ed⟩:=QW H W O hw ee;ac_rfl;refine Uf st O P J hw ?_;rw[ee,show Jz (some es)=Ay es from rfl];ac_rfl
      .rename_i x0;have key:hs.any (KH ((if side=1 then l.1 else a.1)+(if side=1 then YD p N a l else Zj p N a l)*x) (h+b.2.2))=(canon 1 ss).any (Bk · (x,0)):=by rw[NV I.ok (.inl rfl),ABm,I.sem,<-nh];exact⟨λz=>⟨by grind,z⟩,λz=>z.2⟩
       have r1:Bd 70 (YD p N a l):=by
        unfold YD;split
        .split
         .exact oD.mono (by decide)
         .split
          .have:Bd 14 (mx p a.1):=by unfold mx;split;exact ba.mono (by decide);exact P
           exact(X.sub this).mono (by decide)
          .exact gH.mono (by decide)
        .exact gH.mono (by decide)
       have r0:Bd 70 (Zj p N a l):=by
        unfold Zj;split
        .exact oD.mono (by decide)
        .exact gH.mono (by decide)
       have Z:Bd 3800 d.1:=by rw[ed];exact(X.add (r1.mul J)).mono (by decide)
       have bc':Bd 3800 c.1:=by rw[ec];exact(ba.add (r0.mul J)).mono (by decide)
       have S:Bd 20 (h+b.2.2):=(bh.add bz).mono (by decide);cases es with
       | nil=>cases hc
       | cons c' es=>
         have:c'=c:=by simpa using hc
         subst this;rcases sd with rfl|rfl
         .rw [AAC (by decide),AAC (by decide),<-ec] at key;rw[show (-(0:Int))=0 from rfl];ac_rfl;refine Oi bc' S U ?_;ac_rfl;refine Qb (.inl rfl) Y (J.mono (by decide)) ?_;rw[key];ac_rfl;exact K _ _ _
         .rw [AAD rfl,AAD rfl,<-ed] at key;ac_rfl;refine Oi Z S U ?_;ac_rfl;refine Qb (.inl rfl) Y (J.mono (by decide)) ?_;rw[key];ac_rfl;exact K _ _ _
      .exact K _ _ _
end PL.K53
section
namespace K53
open PySem L2 PL PL.K53 PL.K31 PyProof.Rows
def DN {N Q:km Str}{s:Scope}(a:s.kind= .function:=by rfl)(b:s.isCoroutine=false:=by rfl)(c:s.isGenerator=false:=by rfl)(d:N.Nodup:=by decide +kernel)(e:N.take Q.length=Q:=by rfl)(f:∀x∈Q,s.names.lookup x=some .local\/s.names.lookup x=some .cell:=by decide +kernel)(g:∀y∈s.names,y.2≠ .free:=by decide +kernel):DZ N Q s:=⟨a,b,c,d,e,f,g⟩
section
variable (P:fm)(w:fe)(K:AAB)(Z:Str->kd kj)(Y:Wf)(n:Nat)
abbrev B7:=Has P w K Z Y n "_law_draw" ["_law_tape_here","_law_many"] (CS K 2 BA)
abbrev B8:=Has P w K Z Y n "_law_part" ["_law_top","_law_bottom"] (CS K 2 A5)
abbrev GM:=Has P w K Z Y n "_law_off" ["_law_one","_law_other"] (CS K 2 Bu)
abbrev E5:=Has P w K Z Y n "_law_product" ["_law_one","_law_other"] (CS K 2 Bf)
abbrev GN:=Has P w K Z Y n "_law_ratio" ["_law_one","_law_other"] (CS K 2 B6)
abbrev C0:=Has P w K Z Y n "_law_sum" ["_law_one","_law_other"] (CS K 2 A8)
abbrev Ng:=Has P w K Z Y n "_law_amounts" ["_law_tape_here","_law_told","_law_many","_law_unit"] (CS K 4 Cr)
abbrev PN:=Has P w K Z Y n "_law_bounds" ["_law_tape_here"] (CS K 1 DO)
abbrev Cz:=Has P w K Z Y n "_law_less" ["_law_one","_law_other"] (CS K 2 Ai)
abbrev K1:=Has P w K Z Y n "_law_has_inner" ["_law_plan_here","_law_word_here","_law_now_here"] (CS K 3 CG)
abbrev Gj:=Has P w K Z Y n "_law_is_whole" ["_law_thing"] (CS K 1 Cv)
abbrev Nh:=Has P w K Z Y n "_law_is_part" ["_law_thing"] (CS K 1 BV)
abbrev PP:=Has P w K Z Y n "_law_is_set" ["_law_told"] (CS K 1 DP)
abbrev Vi:=Has P w K Z Y n "_law_now" ["_law_tape_here","_law_plan_here"] (CS K 2 Ey)
abbrev RM:=Has P w K Z Y n "_law_place" ["_law_tape_here"] (CS K 1 Ba)
abbrev HG:=Has P w K Z Y n "_law_span" ["_law_tape_here"] (CS K 1 CL)
abbrev Te:=Has P w K Z Y n "_law_plan" ["_law_tape_here"] (CS K 1 FP)
abbrev Tf:=Has P w K Z Y n "_law_spot" ["_law_plan_here","_law_m"] (CS K 2 FQ)
abbrev PQ:=Has P w K Z Y n "_law_shaped" ["_law_plan_here","_law_word_here","_law_amount","_law_now_here"] (CS K 4 CH)
abbrev Tg:=Has P w K Z Y n "_law_tape" ["_law_script","_law_k"] (CS K 2 NM)
abbrev RN:=Has P w K Z Y n "_law_times" ["_law_tape_here"] (CS K 1 CT)
abbrev Ni:=Has P w K Z Y n "_law_use_has" ["_law_m","_law_span_here","_law_hours"] (CS K 3 Ct)
abbrev PR:=Has P w K Z Y n "_law_within" ["_law_told","_law_amount"] (CS K 2 DR)
abbrev Th:=Has P w K Z Y n "_law_word" ["_law_tape_here"] (CS K 1 EL)
abbrev bf:=Has P w K Z Y n "summed" ["one","many","other","more"] (CS K 4 HA)
abbrev P9:=Has P w K Z Y n "crossed" ["low","high","at"] (CS K 3 Et)
abbrev Vk:=Has P w K Z Y n "is_never" ["plane"] (CS K 1 D4)
abbrev F4:=Has P w K Z Y n "before" ["one","other"] (CS K 2 Ai)
abbrev QA:=Has P w K Z Y n "turn_of" ["plane","at"] (CS K 2 Di)
abbrev RP:=Has P w K Z Y n "is_tighter" ["plane","other","at"] (CS K 3 Ds)
abbrev Nn:=Has P w K Z Y n "tightest" ["planes","at","sign"] (CS K 3 Cw)
abbrev Vj:=Has P w K Z Y n "fault_in" ["planes","at"] (CS K 2 D3)
abbrev Ti:=Has P w K Z Y n "common" ["one","other"] (CS K 2 G5)
abbrev ME:=Has P w K Z Y n "shared_bottom" ["numbers"] (CS K 1 CU)
abbrev Vm:=Has P w K Z Y n "plane_of" ["form","strict","number"] (CS K 3 De)
abbrev Nj:=Has P w K Z Y n "part" ["top","bottom"] (CS K 2 GI)
abbrev Vn:=Has P w K Z Y n "range_in" ["planes","at"] (CS K 2 D7)
abbrev Y3:=Has P w K Z Y n "without" ["planes","at","most"] (CS K 3 Kr)
abbrev RO:=Has P w K Z Y n "amounts_in" ["rows","unknowns"] (CS K 2 Dr)
abbrev RQ:=Has P w K Z Y n "minus" ["one","other"] (CS K 2 DY)
abbrev Vl:=Has P w K Z Y n "negative" ["number"] (CS K 1 Ez)
abbrev ka:=Has P w K Z Y n "over" ["one","other"] (CS K 2 Qz)
abbrev Nk:=Has P w K Z Y n "plus" ["one","other"] (CS K 2 Ce)
abbrev RR:=Has P w K Z Y n "times" ["one","other"] (CS K 2 FS)
abbrev Nm:=Has P w K Z Y n "spot_between" ["former","latter","m"] (CS K 3 Dt)
abbrev Y2:=Has P w K Z Y n "spot_at" ["plan","m"] (CS K 2 Hg)
abbrev Tj:=Has P w K Z Y n "corner_at" ["plan","m"] (CS K 2 FR)
abbrev Y0:=Has P w K Z Y n "greater" ["one","other"] (CS K 2 Cs)
abbrev bV:=Has P w K Z Y n "cut_at" ["corners","now"] (CS K 2 G6)
abbrev Y1:=Has P w K Z Y n "put_off" ["plan","x","y","z"] (CS K 4 Hf)
abbrev Xa:=Has P w K Z Y n "whole" ["n"] (CS K 1 Hi)
abbrev Tk:=Has P w K Z Y n "led_round" ["former","corner","latter","way","amount"] (CS K 5 EM)
abbrev bZ:=Has P w K Z Y n "slowed" ["former","corner","latter","amount"] (CS K 4 G9)
abbrev bo:=Has P w K Z Y n "tupled" ["rows"] (CS K 1 Jb)
abbrev gN:=Has P w K Z Y n "later" ["plan","by"] (CS K 2 MV)
abbrev bw:=Has P w K Z Y n "waited" ["former","corner","latter","amount"] (CS K 4 HB)
abbrev bY:=Has P w K Z Y n "shaped" ["plan","shape","now"] (CS K 3 E1)
abbrev PX:=Has P w K Z Y n "count_below" ["numbers","number"] (CS K 2 DT)
abbrev bX:=Has P w K Z Y n "rising" ["numbers"] (CS K 1 G8)
abbrev Vo:=Has P w K Z Y n "steps_of" ["stretches"] (CS K 1 Hh)
abbrev bW:=Has P w K Z Y n "levels" ["stretches"] (CS K 1 G7)
abbrev Yz:=Has P w K Z Y n "counted" ["stretches","n"] (CS K 2 Es)
abbrev Vp:=Has P w K Z Y n "told_set" ["stretches"] (CS K 1 E2)
abbrev bq:=Has P w K Z Y n "use_of" ["gate","m","late"] (CS K 3 Du)
abbrev PU:=Has P w K Z Y n "bad_at_gate" ["one","word","now","gate","moments","side"] (CS K 6 DS)
end
section
variable {P:fm}{w:fe}{K:AAB}{Z:Str->kd kj}{Y:Wf}{n m:Nat}{f:ke}{U:FuncData}
theorem J9:DZ ["_law_tape_here","_law_many","_law_once","_law_found"] ["_law_tape_here","_law_many"] (A0 Fb):=DN
theorem Rg (F:VB K "_law_draw" "_law_draw" Fb f U):D8 P w K Z Y NE (n+1) f U ["_law_tape_here","_law_many"] (CS K 2 BA):=by
 have k:=J9.nd;refine F.ok J9 (λvs H Q E h=> ?_) (λu A outer s H vs Q E J h=> ?_)
 .obtain ⟨T,M,xs,v,_,_,r,hl,_⟩:=h;rw[r.length,hl] <;> rfl
 obtain⟨T,M,xs,v,va,_,r,hl,hF,hQ⟩:=h;unfold BA at hF;split at hF <;> first | exact hF.elim|skip
 rename_i m;obtain⟨⟨m0,m1⟩,hF⟩:=hF;cases r with
 | cons r j=>
 cases j with
 | cons y j=>
 cases j;cases y;cases r with
 | tape tp=>
 rename_i p;obtain⟨d,x,hp,l,z,B⟩:=va.tp p tp;refine⟨_,(Bp (X3 (Mh jc (J0 FV (pv 0) BK (λ_ _=>rfl)) BK (CP _)) (Bp (Fi (i:=3) k rfl (Or.inl rfl) (B3 GQ (J0 FV (pv 0) BK (λ_ _=>rfl)) (pv 1)))
  (Bp (WJ (B3 cn (J0 FV (pv 0) BK (λ_ _=>rfl)) (pv 1)) (c8 (pv 0) BK Ud))
  (El (N9 (pv 3))))) Mf)
  (Bp (WJ (B3 GQ (B3 HL (B3 Hr (J0 FV (pv 0) BK (λ_ _=>rfl)) BK) BK) BK) (c8 (pv 0) BK Ud))
  (Bp (Fi (i:=2) k rfl (Or.inl rfl) (B3 GQ (B3 Hr (J0 FV (pv 0) BK (λ_ _=>rfl)) (B3 HL (B3 GQ (J0 FV (pv 0) BK (λ_ _=>rfl)) BK) BK)) BK))
  (El (N9 (B3 GQ (B3 GQ (B3 Hr (pv 2) (B3 HL (B3 GQ (pv 2) BK) BK)) BK) (pv 1))))))), ?_⟩
 have e:∀(r d' g:Int),0<=r->r<m->0<=d'->0<=g->g<2147483647->Q (.int r) (upd H p (.lst [.int d', .int g])):=λr d' g C D a b c=>
  hQ _ (.int r) T _ (eM va.tp tp a b c) (.int r) (hF r C D)
 refine⟨_,rfl,p,_,_,_,rfl,rfl,FJ.of hp,rfl,_,_,rfl,rfl,_,rfl, ?_⟩;refine pp (λc=> ?_) (λc=> ?_)
 .refine ⟨_,rfl,p,_,_,_,rfl,rfl,FJ.of hp,rfl,_,rfl,_,_,rfl,rfl,m0, ?_⟩;refine⟨_,rfl,p,_,_,_,rfl,rfl,FJ.of hp,rfl,_,rfl,_,_,rfl,rfl,⟨m0,by omega⟩, ?_⟩;refine⟨_,rfl,p,_,_,_,rfl,rfl,hp,rfl, ?_⟩;exact⟨_,rfl,e _ _ _ (ADA _ (by omega)) (ADB _ m0) (Int.ediv_nonneg l (by omega)) z B⟩
 .refine ⟨_,rfl,p,_,_,_,rfl,rfl,FJ.of hp,rfl,_,_,rfl,rfl, .inl (.inr ⟨by decide,by decide⟩),_,_,rfl,rfl,_,_,rfl,rfl,(show (0:Int)<2147483647 by decide), ?_⟩;refine⟨_,rfl,p,_,_,_,rfl,rfl,hp,rfl, ?_⟩;have o:0<=(x*48271+12345) % 2147483647:=ADA _ (by decide);have y1:(x*48271+12345) % 2147483647<2147483647:=ADB _ (by decide);have t:upd H p (.lst ([V.int d,V.int x].set (Int.toNat 1) (V.int ((x*48271+12345) % 2147483647)))) p=some (.lst [.int d, .int ((x*48271+12345) % 2147483647)]):=Ab;have G:0<=(x*48271+12345) % 2147483647*((x*48271+12345) % 2147483647 % 1009+3) % 2147483629:=ADA _ (by decide);have I:(x*48271+12345) % 2147483647*((x*48271+12345) % 2147483647 % 1009+3) % 2147483629<2147483629:=ADB _ (by decide);refine⟨_,rfl,p,_,_,_,rfl,rfl,FJ.of t,rfl,_,rfl,p,_,_,_,rfl,rfl,FJ.of t,rfl,_,_,rfl,rfl,(show (0:Int)<1009 by decide),_,_,rfl,rfl,_,_,rfl,rfl, .inl (.inl (Oa o y1)),_,_,rfl,rfl,(show (0:Int)<2147483629 by decide), ?_⟩;refine⟨_,rfl,_,rfl,_,_,rfl,rfl,(show (0:Int)<997 by decide),_,_,rfl,rfl,_,_,rfl,rfl, .inl (.inl (Oa G (Int.lt_trans I (by decide)))),_,_,rfl,rfl,(show (0:Int)<998244353 by decide),_,rfl,_,_,rfl,rfl,m0, ?_⟩;exact e _ _ _ (ADA _ (by omega)) (ADB _ m0) l o y1
theorem Dk {P:fm}{w:fe}{K:AAB}{Z:Str->kd kj}{Y:Wf}{x q:Str}{st:Stmt}{f:ke}{U:FuncData}{N:km Str}{k n:Nat}{b:AS}(F:VB K x q st f U)(S:DZ N (N.take n) (A0 st))(a:n=(N.take n).length)(h:∀(v:kj) (A:Tb) (o:km Env) (s:ki) (H:Hp) (E:XK),Room k (A.deeper (envOfC q (A0 st) s.heap.objs.size f v))->N.Nodup->Ye (PJ NE P w K Z Y N q (A0 st) f v A o s H E).nox (CO st) b):D8 P w K Z Y NE (k+1) f U (N.take n) (CS K n (As N.length b)):=
 gJ F S a λv A o s H E r=>h v A o s H E r S.nd
abbrev Z1 (K:AAB)(x:Str)(s:Stmt)(f:ke)(d:FuncData):=VB K x x s f d
abbrev Z2 (P:fm)(w:fe)(K:AAB)(Z:Str->kd kj)(b:Wf)(n:Nat)(f:ke)(d:FuncData)(N:km Str)(k:Nat)(F:AF):=D8 P w K Z b NE (n+1) f d (N.take k) (CS K k F)
theorem Ri (F:Z1 K "_law_part" HR f U)(b:Z "abs" =none)(c:Z "int" =none):Z2 P w K Z Y n f U ["_law_top","_law_bottom","_law_sign","_law_one","_law_other"] 2 A5:=Dk F DN rfl λ_ _ _ _ _ _ _ a=>(AM (Wc (i:=3) (j:=4) rfl a rfl rfl (by decide) rfl rfl (Au (BI R8 rfl b boot_abs (BZ (AJ 0))) (BI R8 rfl b boot_abs (BZ (AJ 1)))) rfl) (AM (KD AAU (D0 IZ (AJ 4) AH) (AR (Wc (i:=3) (j:=4) rfl a rfl rfl (by decide) rfl rfl (Au (AJ 4) (Aa dz (AJ 3) (AJ 4))) rfl))) (AM (Cm 2 a (Aa Df AH (Aa BQ AH (BF WV rfl c boot_int (BZ (Dx Fe (AJ 1) AH (CP _))))))) (AR (AW (Ae (Au (Aa Fd (Aa BQ (AJ 2) (AJ 0)) (AJ 3)) (Aa Fd (Aa BQ (AJ 2) (AJ 1)) (AJ 3)))))))))
theorem UF (F:Z1 K "_law_off" JB f U)(a:B8 P w K Z Y n):Z2 P w K Z Y n f U ["_law_one","_law_other"] 2 Bu:=Dk F DN rfl λ_ _ _ _ _ _ b _=>(AR (AW (AK a b rfl (Au (Aa Df (Aa BQ (AU (AJ 0) AH) (AU (AJ 1) AH)) (Aa BQ (AU (AJ 1) AH) (AU (AJ 0) AH))) (Aa BQ (AU (AJ 0) AH) (AU (AJ 1) AH))))))
theorem MJ (F:Z1 K "_law_product" FB f U)(a:B8 P w K Z Y n):Z2 P w K Z Y n f U ["_law_one","_law_other"] 2 Bf:=Dk F DN rfl λ_ _ _ _ _ _ b _=>(AR (AW (AK a b rfl (Au (Aa BQ (AU (AJ 0) AH) (AU (AJ 1) AH)) (Aa BQ (AU (AJ 0) AH) (AU (AJ 1) AH))))))
theorem Pa (F:Z1 K "_law_ratio" GS f U)(a:B8 P w K Z Y n):Z2 P w K Z Y n f U ["_law_one","_law_other"] 2 B6:=Dk F DN rfl λ_ _ _ _ _ _ b _=>(AR (AW (AK a b rfl (Au (Aa BQ (AU (AJ 0) AH) (AU (AJ 1) AH)) (Aa BQ (AU (AJ 0) AH) (AU (AJ 1) AH))))))
theorem UG (F:Z1 K "_law_sum" JC f U)(a:B8 P w K Z Y n):Z2 P w K Z Y n f U ["_law_one","_law_other"] 2 A8:=Dk F DN rfl λ_ _ _ _ _ _ b _=>(AR (AW (AK a b rfl (Au (Aa Ah (Aa BQ (AU (AJ 0) AH) (AU (AJ 1) AH)) (Aa BQ (AU (AJ 1) AH) (AU (AJ 0) AH))) (Aa BQ (AU (AJ 0) AH) (AU (AJ 1) AH))))))
theorem MH (F:Z1 K "_law_amounts" E9 f U)(d:B7 P w K Z Y n)(e:GM P w K Z Y n)(j:B8 P w K Z Y n)(g:E5 P w K Z Y n)(h:GN P w K Z Y n)(c:C0 P w K Z Y n)(k:Z "range" =none):Z2 P w K Z Y n f U ["_law_tape_here","_law_told","_law_many","_law_unit","_law_found","_law_k","_law_begin","_law_held","_law_end","_law_until","_law_tiny"] 4 Cr:=Dk F DN rfl λ_ _ _ _ _ _ a b=>(AM (Ha (i:=4) b rfl (Or.inl rfl) (Bs (BZ (Ae (Au AH AH))))) (AM (CB AAU rfl (YF rfl k (BZ (AJ 2))) (FN 5 b) (AR (DF (i:=4) ABa ABb CJ (BZ (AK g a rfl (Au (AJ 3) (AK j a rfl (Au (AK d a rfl (Au (AJ 0) AH)) (Aa Ah AH (AK d a rfl (Au (AJ 0) AH))))))))))) (AM (CB AAU rfl (DM (Aa Ah (ET (AJ 1) Uj (Uk AH)) (ET (ET (AJ 1) (Uk AH) Uj) (Uk (CA AH)) Uj))) (EG (n:=3) rfl (Ap (FN 6 b) (Ap (FN 7 b) (Ap (FN 8 b) DD)))) (AM (Cm 9 b (Li (D0 GZ (AJ 8) BP) (AK c a rfl (Au (AJ 6) (AK g a rfl (Au (AJ 3) (Ae (Au AH AH)))))) (AJ 8))) (AM (Cm 10 b (AK h a rfl (Au (AK e a rfl (Au (AJ 9) (AJ 6))) (Ae (Au AH AH))))) (AM (DF (i:=4) PySem.F.slot_list_extend PySem.F.type_list_extend Zo (BZ (DW (Bs (Ar (AJ 6) (EZ (AK c a rfl (Au (AJ 6) (AJ 10))) (AK h a rfl (Au (AK c a rfl (Au (AJ 6) (AJ 9))) (Ae (Au AH AH)))) (AJ 9))))))) (AM (DF (i:=4) ABa ABb CJ (BZ (AK e a rfl (Au (AJ 9) (AJ 10))))) (AR (DF (i:=4) ABa ABb CJ (BZ (AK c a rfl (Au (AJ 9) (AJ 10))))))))))) (AR (AW (AJ 4))))))
theorem Nz (F:Z1 K "_law_bounds" Fj f U)(b:B7 P w K Z Y n):Z2 P w K Z Y n f U ["_law_tape_here","_law_some"] 1 DO:=Dk F DN rfl λ_ _ _ _ _ _ a c=>(AM (Cm 1 c (DW (Bs (Ar (Ae (Au AH AH)) (Ar (Ae (Au AH AH)) (Ar (Ae (Au AH AH)) (EZ (Ae (Au AH AH)) (Ae (Au AH AH)) (Ae (Au AH AH))))))))) (AM (A9 (D0 (C5 a) (AK b a rfl (Au (AJ 0) AH)) AH) (AR (AW (Ae (EZ (Ae (Au AH AH)) (Ae (Au AH AH)) (Ae (Au AH AH)))))) Aw) (AR (AW (Ae (EZ (AU (AJ 1) (AK b a rfl (Au (AJ 0) AH))) (AU (AJ 1) (AK b a rfl (Au (AJ 0) AH))) (AU (AJ 1) (AK b a rfl (Au (AJ 0) AH)))))))))
theorem Rh (F:Z1 K "_law_less" HQ f U):Z2 P w K Z Y n f U ["_law_one","_law_other"] 2 Ai:=Dk F DN rfl λ_ _ _ _ _ _ _ _=>(AR (AW (Dx Fe (Aa BQ (AU (AJ 0) AH) (AU (AJ 1) AH)) (Aa BQ (AU (AJ 1) AH) (AU (AJ 0) AH)) (CP _))))
theorem Jx (F:Z1 K "_law_has_inner" EF f U)(b:Cz P w K Z Y n)(d:Z "any" =none):Z2 P w K Z Y n f U ["_law_plan_here","_law_word_here","_law_now_here"] 3 CG:=by
 have c:(["_law_corner","_law_now_here","_law_plan_here"] :km Str).Nodup:=by decide +kernel
 exact Dk F DN rfl λ_ _ _ _ _ _ a _=>(AM (A9 (Eo (D2 (We (jm a) (AJ 1) (Ae (Au Bj Bj)) rfl) (Dy (Cf (BC (AK b a rfl (Au (AJ 2) (AU (AU (AJ 0) (CA AH)) AH)))))))) (AR (AW Eh)) Aw) (AR (AW (BI (nA rfl) rfl d boot_any (BZ (DW (Ck rfl (DM (ET (AJ 0) Uj (Uk (CA AH)))) (Bq (own:=1) (ix:= [2,0]) (N:= ["_law_corner","_law_now_here" ,"_law_plan_here" ]) rfl rfl rfl rfl rfl rfl (λ_ _ _ _ _ _=>(GC 0 c)) (λ_ _ _ _ _ _=>B9) (λ_ _ _ _ _ _=>(OW (AK b a rfl (Au (AJ 1) (AU (AJ 0) AH))) (LN (AK b a rfl (Au (AU (AU (AJ 2) AH) AH) (AU (AJ 0) AH))))))))))))))
theorem LB (F:Z1 K "_law_is_whole" EX f U)(b:Z "bool" =none)(c:Z "int" =none)(a:Z "isinstance" =none):Z2 P w K Z Y n f U ["_law_thing"] 1 Cv:=Dk F DN rfl λ_ _ _ _ _ _ _ _=>(AR (AW (OW (BI OR rfl a ADC (Au (AJ 0) (Uc (n:="int") rfl c boot_int rfl))) (LN (nH (BI OR rfl a ADC (Au (AJ 0) (Uc (n:="bool") rfl b boot_bool rfl))))))))
theorem MI (F:Z1 K "_law_is_part" FA f U)(b:Gj P w K Z Y n)(c:B8 P w K Z Y n)(d:Z "isinstance" =none)(e:Z "len" =none)(g:Z "tuple" =none):Z2 P w K Z Y n f U ["_law_thing"] 1 BV:=Dk F DN rfl λ_ _ _ _ _ _ a _=>(AM (A9 (Eo (D2 (Cf (BC (BI OR rfl d ADC (Au (AJ 0) (Uc (n:="tuple") rfl g AAg rfl))))) (D2 (D0 (Ob a) (BI FE rfl e ABN (BZ (AJ 0))) AH) (D2 (Cf (BC (AK b a rfl (BZ (AU (AJ 0) AH))))) (Dy (Cf (BC (AK b a rfl (BZ (AU (AJ 0) AH)))))))))) (AR (AW Eh)) Aw) (AR (AW (OW (Dx IZ (AU (AJ 0) AH) AH (CP _)) (LN (Dx (C5 a) (AK c a rfl (Au (AU (AJ 0) AH) (AU (AJ 0) AH))) (AJ 0) (CP _)))))))
theorem N0 (F:Z1 K "_law_is_set" Fk f U)(d:Nh P w K Z Y n)(h:Gj P w K Z Y n)(c:Cz P w K Z Y n)(i:Z "enumerate" =none)(j:Z "int" =none)(e:Z "isinstance" =none)(k:Z "len" =none)(g:Z "tuple" =none):Z2 P w K Z Y n f U ["_law_told","_law_last","_law_k","_law_row"] 1 DP:=Dk F DN rfl λ_ _ _ _ _ _ a b=>(AM (A9 (Cf (BC (BI OR rfl e ADC (Au (AJ 0) (Uc (n:="tuple") rfl g AAg rfl))))) (AR (AW Eh)) Aw) (AM (Cm 1 b BP) (AM (CB AAU rfl (rA rfl i (BZ (AJ 0))) (EG (n:=2) rfl (Ap (FN 2 b) (Ap (FN 3 b) DD))) (AM (A9 (Eo (D2 (Cf (BC (BI OR rfl e ADC (Au (AJ 3) (Uc (n:="tuple") rfl g AAg rfl))))) (D2 (D0 (Ob a) (BI FE rfl k ABN (BZ (AJ 3))) AH) (D2 (Cf (BC (AK d a rfl (BZ (AU (AJ 3) AH))))) (Dy (Cf (BC (AK h a rfl (BZ (AU (AJ 3) AH)))))))))) (AR (AW Eh)) Aw) (AM (A9 (Eo (Fu (D0 (Ob a) (AU (AJ 3) AH) (BF WV rfl j boot_int (BZ (OW (Dx (C5 a) (AJ 2) AH (CP _)) (LN (Dx (C5 a) (AU (AJ 3) AH) (Ae (Au AH AH)) (CP _))))))) (EK (Cf (Eo (Fu (D0 (C5 a) (AU (AJ 3) AH) AH) (EK (D0 (C5 a) (AU (AJ 3) AH) (Ae (Au AH AH)))))))))) (AR (AW Eh)) Aw) (AM (A9 (Eo (D2 (BC (AK c a rfl (Au (AU (AJ 3) AH) (Ae (Au AH AH))))) (Dy (Eo (Fu (D0 IZ (AJ 2) AH) (EK (Eo (D2 (D0 GZ (AJ 1) BP) (Dy (BC (AK c a rfl (Au (AU (AJ 3) AH) (AJ 1))))))))))))) (AR (AW Eh)) Aw) (AM (A9 (Eo (Fu (D0 Hu (AU (AJ 3) AH) BP) (EK (Eo (D2 (Cf (BC (AK d a rfl (BZ (AU (AJ 3) AH))))) (Dy (Cf (BC (AK c a rfl (Au (AU (AJ 3) AH) (AU (AJ 3) AH))))))))))) (AR (AW Eh)) Aw) (AR (Cm 1 b (AU (AJ 3) AH)))))))) (AR (AW Eh)))))
theorem UE (F:Z1 K "_law_now" JA f U)(c:B7 P w K Z Y n)(e:GM P w K Z Y n)(g:GN P w K Z Y n)(d:C0 P w K Z Y n)(h:Z "len" =none):Z2 P w K Z Y n f U ["_law_tape_here","_law_plan_here","_law_way","_law_at","_law_midway","_law_some"] 2 Ey:=Dk F DN rfl λ_ _ _ _ _ _ a b=>(AM (Cm 2 b (AK c a rfl (Au (AJ 0) AH))) (AM (Cm 3 b (AK c a rfl (Au (AJ 0) (Aa Df (BI FE rfl h ABN (BZ (AJ 1))) AH)))) (AM (Cm 4 b (AK g a rfl (Au (AK d a rfl (Au (AU (AU (AJ 1) (AJ 3)) AH) (AU (AU (AJ 1) (Aa Ah (AJ 3) AH)) AH))) (Ae (Au AH AH))))) (AM (Cm 5 b (DW (Bs (Ar (AK e a rfl (Au (AU (AU (AJ 1) AH) AH) (Ae (Au AH AH)))) (Ar (AU (AU (AJ 1) AH) AH) (Ar (AU (AU (AJ 1) (AJ 3)) AH) (Ar (AJ 4) (EZ (AJ 4) (AU (AU (AJ 1) (Aa Ah (AJ 3) AH)) AH) (AJ 4))))))))) (AR (AW (AU (Aa Ah (AJ 5) (DW (Bs (BZ (AK d a rfl (Au (AU (AU (AJ 1) (CA AH)) AH) (Ae (Au (AK c a rfl (Au (AJ 0) AH)) AH)))))))) (AJ 2))))))))
theorem PZ (F:Z1 K "_law_place" GR f U)(b:B7 P w K Z Y n)(c:B8 P w K Z Y n):Z2 P w K Z Y n f U ["_law_tape_here","_law_kind"] 1 Ba:=Dk F DN rfl λ_ _ _ _ _ _ a d=>(AM (Cm 1 d (AK b a rfl (Au (AJ 0) AH))) (AM (A9 (D0 Fe (AJ 1) AH) (AR (AW (Ae (Au (Aa Df (AK b a rfl (Au (AJ 0) AH)) AH) AH)))) Aw) (AM (A9 (D0 (C5 a) (AJ 1) AH) (AR (AW (AK c a rfl (Au (Aa Df (AK b a rfl (Au (AJ 0) AH)) AH) AH)))) Aw) (AR (AW (AK c a rfl (Au (Aa Df (AK b a rfl (Au (AJ 0) AH)) AH) AH)))))))
theorem Rk (F:Z1 K "_law_span" HU f U)(b:B7 P w K Z Y n)(c:B8 P w K Z Y n):Z2 P w K Z Y n f U ["_law_tape_here","_law_way"] 1 CL:=Dk F DN rfl λ_ _ _ _ _ _ a d=>(AM (Cm 1 d (AK b a rfl (Au (AJ 0) AH))) (AM (A9 (D0 Fe (AJ 1) AH) (AR (AW (Ae (Au (Aa Ah AH (AK b a rfl (Au (AJ 0) AH))) AH)))) Aw) (AR (AW (AK c a rfl (Au (Aa Ah AH (AK b a rfl (Au (AJ 0) AH))) (Aa Df (AJ 1) AH)))))))
theorem Rj (F:Z1 K "_law_plan" HS f U)(d:B7 P w K Z Y n)(c:RM P w K Z Y n)(e:HG P w K Z Y n)(g:C0 P w K Z Y n)(h:Z "len" =none)(j:Z "tuple" =none):Z2 P w K Z Y n f U ["_law_tape_here","_law_many","_law_m","_law_spot_here","_law_corners","_law_way"] 1 FP:=Dk F DN rfl λ_ _ _ _ _ _ a b=>(AM (Cm 1 b (Aa Ah AH (AK d a rfl (Au (AJ 0) AH)))) (AM (A9 (D0 (C5 a) (AK d a rfl (Au (AJ 0) AH)) AH) (AR (Cm 1 b (Aa Ah AH (AK d a rfl (Au (AJ 0) AH))))) Aw) (AM (Cm 2 b (Ae (Au (AK d a rfl (Au (AJ 0) AH)) AH))) (AM (Cm 3 b (DW (Bs (EZ (AK c a rfl (BZ (AJ 0))) (AK c a rfl (BZ (AJ 0))) (AK c a rfl (BZ (AJ 0))))))) (AM (Ha (i:=4) b rfl (Or.inl rfl) (Bs (BZ (Ae (Ar (AJ 2) (EZ (AU (AJ 3) AH) (AU (AJ 3) AH) (AU (AJ 3) AH))))))) (AM (KD AAU (D0 Fe (BI FE rfl h ABN (BZ (AJ 4))) (AJ 1)) (AM (Cm 2 b (AK g a rfl (Au (AJ 2) (AK e a rfl (BZ (AJ 0)))))) (AM (Cm 5 b (AK d a rfl (Au (AJ 0) AH))) (AM (A9 (D0 IZ (AJ 5) AH) (AR (Cm 3 b (DW (Bs (EZ (AK c a rfl (BZ (AJ 0))) (AK c a rfl (BZ (AJ 0))) (AK c a rfl (BZ (AJ 0)))))))) (AR (A9 (D0 IZ (AJ 5) AH) (AR (Cm 3 b (Aa Ah (Aa Ah (ET (AJ 3) Uj (Uk (Aa Df (AJ 5) AH))) (DW (Bs (BZ (AK c a rfl (BZ (AJ 0))))))) (ET (AJ 3) (Uk (AJ 5)) Uj)))) Aw))) (AR (DF (i:=4) ABa ABb CJ (BZ (Ae (Ar (AJ 2) (EZ (AU (AJ 3) AH) (AU (AJ 3) AH) (AU (AJ 3) AH))))))))))) (AR (AW (BF Bi rfl j AAg (BZ (AJ 4)))))))))))
theorem Rl (F:Z1 K "_law_spot" HV f U)(c:Cz P w K Z Y n)(d:GM P w K Z Y n)(h:E5 P w K Z Y n)(j:GN P w K Z Y n)(k:C0 P w K Z Y n)(l:Z "range" =none)(o:Z "tuple" =none)(p:Z "zip" =none):Z2 P w K Z Y n f U ["_law_plan_here","_law_m","_law_one","_law_other","_law_share","_law_gone"] 2 FQ:=by
 have e:(["_law_k","_law_share","_law_other","_law_one"] :km Str).Nodup:=by decide +kernel
 have g:(["_law_k","_law_one","_law_gone"] :km Str).Nodup:=by decide +kernel
 exact Dk F DN rfl λ_ _ _ _ _ _ a b=>(AM (A9 (Eo (D2 (BC (AK c a rfl (Au (AJ 1) (AU (AU (AJ 0) AH) AH)))) (Dy (BC (AK c a rfl (Au (AU (AU (AJ 0) (CA AH)) AH) (AJ 1))))))) (AR (AW BP)) Aw) (AM (CB AAU rfl (iX rfl p (Au (AJ 0) (ET (AJ 0) (Uk AH) Uj))) (EG (n:=2) rfl (Ap (R9 (i:=2) b rfl (Or.inr rfl)) (Ap (R9 (i:=3) b rfl (Or.inr rfl)) DD))) (AR (A9 (Cf (BC (AK c a rfl (Au (AU (AJ 3) AH) (AJ 1))))) (AM (Eb (i:=4) b rfl (Or.inr rfl) (AK j a rfl (Au (AK d a rfl (Au (AJ 1) (AU (AJ 2) AH))) (AK d a rfl (Au (AU (AJ 3) AH) (AU (AJ 2) AH)))))) (AM (Eb (i:=5) b rfl (Or.inr rfl) (DW (Ck rfl (DM (Ae (EZ AH AH AH))) (Bq (own:=1) (ix:= [4,3,2]) (N:= ["_law_k","_law_share" ,"_law_other" ,"_law_one" ]) rfl rfl rfl rfl rfl rfl (λ_ _ _ _ _ _=>(GC 0 e)) (λ_ _ _ _ _ _=>B9) (λ_ _ _ _ _ _=>(AK h a rfl (Au (AJ 1) (AK d a rfl (Au (AU (AJ 2) (AJ 0)) (AU (AJ 3) (AJ 0))))))))))) (AR (AW (BF Bi rfl o AAg (BZ (DW (Ck rfl (YF rfl l (BZ AH)) (Bq (own:=1) (ix:= [2,5]) (N:= ["_law_k","_law_one" ,"_law_gone" ]) rfl rfl rfl rfl rfl rfl (λ_ _ _ _ _ _=>(GC 0 g)) (λ_ _ _ _ _ _=>B9) (λ_ _ _ _ _ _=>(AK k a rfl (Au (AU (AJ 1) (Aa Ah (AJ 0) AH)) (AU (AJ 2) (AJ 0)))))))))))))) Aw))) (AR (AW BP))))
theorem N1 (F:Z1 K "_law_shaped" Fn f U)(d:Cz P w K Z Y n)(p:GM P w K Z Y n)(r:E5 P w K Z Y n)(s:Tf P w K Z Y n)(e:C0 P w K Z Y n)(t:Z "int" =none)(u:Z "len" =none)(g:Z "tuple" =none)(v:Z "zip" =none):Z2 P w K Z Y n f U ["_law_plan_here","_law_word_here","_law_amount","_law_now_here","_law_begin","_law_ahead","_law_here","_law_behind","_law_side","_law_by","_law_off_here","_law_late","_law_share","_law_spans"] 4 CH:=by
 have h:(["_law_corner","_law_begin"] :km Str).Nodup:=by decide +kernel
 have j:(["_law_corner","_law_begin"] :km Str).Nodup:=by decide +kernel
 have k:(["_law_corner","_law_amount"] :km Str).Nodup:=by decide +kernel
 have l:(["_law_corner","_law_share","_law_begin"] :km Str).Nodup:=by decide +kernel
 have c:(["_law_by","_law_one","_law_begin"] :km Str).Nodup:=by decide +kernel
 have o:(["_law_one","_law_side","_law_by"] :km Str).Nodup:=by decide +kernel
 exact Dk F DN rfl λ_ _ _ _ _ _ a b=>(AM (A9 (Eo (D2 (D0 (C5 a) (AJ 2) (Ae (Au AH AH))) (Dy (Cf (BC (AK d a rfl (Au (AJ 3) (AU (AU (AJ 0) (CA AH)) AH)))))))) (AR (AW (BF Bi rfl g AAg (BZ (AJ 0))))) Aw) (AM (Eb (i:=4) b rfl (Or.inr rfl) (Li (BC (AK d a rfl (Au (AJ 3) (AU (AU (AJ 0) AH) AH)))) (AU (AU (AJ 0) AH) AH) (AJ 3))) (AM (EU (i:=5) rfl b rfl (Or.inl rfl) (DM (AJ 0)) (Bq (own:=1) (ix:= [4]) (N:= ["_law_corner","_law_begin" ]) rfl rfl rfl rfl rfl rfl (λ_ _ _ _ _ _=>(GC 0 h)) (λ_ _ _ _ _ _=>(GY (BC (AK d a rfl (Au (AU (AJ 0) AH) (AJ 1)))))) (λ_ _ _ _ _ _=>(AJ 0)))) (AM (Cm 6 b (Aa Ah (Ae (BZ (AJ 4))) (AK s a rfl (Au (AJ 0) (AJ 4))))) (AM (EU (i:=7) rfl b rfl (Or.inl rfl) (DM (AJ 0)) (Bq (own:=1) (ix:= [4]) (N:= ["_law_corner","_law_begin" ]) rfl rfl rfl rfl rfl rfl (λ_ _ _ _ _ _=>(GC 0 j)) (λ_ _ _ _ _ _=>(GY (BC (AK d a rfl (Au (AJ 1) (AU (AJ 0) AH)))))) (λ_ _ _ _ _ _=>(AJ 0)))) (AM (A9 (D0 (C5 a) (AJ 1) Bj) (AM (EU (i:=11) rfl b rfl (Or.inl rfl) (DM (Aa Ah (DW (Bs (BZ (AJ 6)))) (AJ 7))) (Bq (own:=1) (ix:= [2]) (N:= ["_law_corner","_law_amount" ]) rfl rfl rfl rfl rfl rfl (λ_ _ _ _ _ _=>(GC 0 k)) (λ_ _ _ _ _ _=>B9) (λ_ _ _ _ _ _=>(Aa Ah (Ae (BZ (AK e a rfl (Au (AU (AJ 0) AH) (AJ 1))))) (ET (AJ 0) (Uk AH) Uj))))) (AR (AW (BF Bi rfl g AAg (BZ (Aa Ah (Aa Ah (AJ 5) (Aa YI (DW (Bs (BZ (AJ 6)))) (BF WV rfl t boot_int (BZ (Dx (Ob a) (AJ 5) (DW (Bs HZ)) (CP _)))))) (AJ 11))))))) Aw) (AM (A9 (D0 (C5 a) (AJ 1) Bj) (AM (Eb (i:=12) b rfl (Or.inr rfl) (AK e a rfl (Au (Ae (Au AH AH)) (AJ 2)))) (AM (EU (i:=13) rfl b rfl (Or.inl rfl) (DM (AJ 7)) (Bq (own:=1) (ix:= [12,4]) (N:= ["_law_corner","_law_share" ,"_law_begin" ]) rfl rfl rfl rfl rfl rfl (λ_ _ _ _ _ _=>(GC 0 l)) (λ_ _ _ _ _ _=>B9) (λ_ _ _ _ _ _=>(AK r a rfl (Au (AJ 1) (AK p a rfl (Au (AU (AJ 0) AH) (AJ 2)))))))) (AR (AW (BF Bi rfl g AAg (BZ (Aa Ah (Aa Ah (AJ 5) (DW (Bs (BZ (AJ 6))))) (DW (Ck rfl (iX rfl v (Au (AJ 13) (AJ 7))) (Bq (own:=2) (ix:= [4]) (N:= ["_law_by","_law_one" ,"_law_begin" ]) rfl rfl rfl rfl rfl rfl (λ_ _ _ _ _ _=>(Fs (n:=2) rfl (A6 (GC 0 c) (A6 (GC 1 c) EJ)))) (λ_ _ _ _ _ _=>B9) (λ_ _ _ _ _ _=>(Aa Ah (Ae (BZ (AK e a rfl (Au (AJ 2) (AJ 0))))) (ET (AJ 1) (Uk AH) Uj))))))))))))) Aw) (AM (Eb (i:=8) b rfl (Or.inr rfl) (Aa Ah AH (Aa Fd (nG (Ar Bj (Ar Bj (Ar Bj (EZ Bj Bj Bj)))) (BZ (AJ 1))) AH))) (AM (Eb (i:=9) b rfl (Or.inr rfl) (Li (We (jm a) (AJ 1) (Ae (EZ Bj Bj Bj)) rfl) (AJ 2) (Ae (Au (CA (AU (AJ 2) AH)) (AU (AJ 2) AH))))) (AM (A9 (D0 Fe (BI FE rfl u ABN (BZ (AJ 7))) AH) (AR (AW BP)) Aw) (AM (EU (i:=10) rfl b rfl (Or.inl rfl) (DM (ET (AJ 7) Uj (Uk (CA AH)))) (Bq (own:=1) (ix:= [8,9]) (N:= ["_law_one","_law_side" ,"_law_by" ]) rfl rfl rfl rfl rfl rfl (λ_ _ _ _ _ _=>(GC 0 o)) (λ_ _ _ _ _ _=>B9) (λ_ _ _ _ _ _=>(Aa Ah (Aa Ah (ET (AJ 0) Uj (Uk (AJ 1))) (Ae (BZ (AK e a rfl (Au (AU (AJ 0) (AJ 1)) (AJ 2)))))) (ET (AJ 0) (Uk (Aa Ah (AJ 1) AH)) Uj))))) (AR (AW (BF Bi rfl g AAg (BZ (Aa Ah (Aa Ah (Aa Ah (AJ 5) (DW (Bs (BZ (AJ 6))))) (AJ 10)) (ET (AJ 7) (Uk (CA AH)) Uj)))))))))))))))))
theorem KB:DZ ["_law_script","_law_k","_law_cell","_law_digits"] ["_law_script","_law_k"] (A0 Fc):=DN
theorem Rm (F:VB K "_law_tape" "_law_tape" Fc f U)(l:Z "abs" =none)(t:Z "int" =none)(u:Z "len" =none):D8 P w K Z Y NE (n+1) f U ["_law_script","_law_k"] (CS K 2 NM):=by
 have g:=KB.nd;refine F.ok KB (λvs H Q E h=> ?_) (λv A outer s H vs Q E B h=> ?_)
 .obtain ⟨T,M,xs,x,_,_,r,hl,_⟩:=h;rw[r.length,hl] <;> rfl
 obtain⟨T,M,xs,x,va,_,r,hl,hF,hQ⟩:=h;unfold NM at hF;split at hF <;> first | exact hF.elim|skip
 rename_i d k;obtain⟨⟨C,D⟩,hF⟩:=hF;cases r with
 | cons r j=>
 cases j with
 | cons y j=>
 cases j;cases y;obtain⟨a,rfl,o⟩:=dh r;refine⟨_,(Bp (Fi (i:=2) g rfl (Or.inl rfl) BK)
  (Bp (X3 (Mh jd (pv 1) (HM Jk rfl u ABN (Bx (pv 0) ED)) (CP _)) (El (Fi (i:=2) g rfl (Or.inl rfl) (J0 FV (pv 0) (pv 1) (λ_ _=>rfl)))) Mf)
  (Bp (Fi (i:=3) g rfl (Or.inl rfl) (B3 Hr (HM NU rfl l boot_abs (Bx (pv 2) ED)) (Ew P2 rfl t PyProof.Rows.boot_int (Bx (Xx jb (HM NU rfl l boot_abs (Bx (pv 2) ED)) (B3 mF BK BK) (CP _)) ED))))
  (El (N9 (WG (Bx (pv 3) (Bx (B3 GQ (B3 Hr (B3 GQ (B3 HL (B3 HL (pv 2) (B3 Hr BK (pv 1))) BK) BK) BK) BK) ED)))))))), ?_⟩
 have hl:(d.map V.int).length=d.length:=AAK _;have e:∀(c:Int) (p:ke),H p=none->Q (.ref p) (upd H p (.lst [.int ((if c<0 then -c else c)*(if decide ((10:Int)^18<=(if c<0 then -c else c)) then 1 else 0)), .int ((c+7919*k+1) % 2147483647*48271 % 2147483647)])):=λc p hp=>
  hQ _ .tape (λb=>T b\/b=p) _ (eJ va.tp hp (Int.mul_nonneg (by split <;> omega) (zl _)) (ADA _ (by decide)) (ADB _ (by decide))) (.tape (.inr rfl)) hF
 refine⟨_,rfl,_,rfl,a,_,rfl, .inl o,_,_,rfl,rfl,_,rfl, ?_⟩;refine pp (λc=> ?_) (λc=> ?_)
 .have z:k<(((d.map V.int).length:Nat):Int):=ABi c;rw[hl] at z;have hk:k.toNat<d.length:=by omega
  have hv:KM (d.map V.int) k=some (.int d[k.toNat]):=by
   have q:KM (d.map V.int) ((k.toNat:Nat):Int)=some (.int d[k.toNat]):=Ei (by rw[AAs,AAh hk] <;> rfl)
   rwa [show ((k.toNat:Nat):Int)=k by omega] at q
  refine⟨_,rfl,_,rfl,a,_,_,_,rfl,rfl,o,hv, ?_⟩;refine⟨_,rfl,_,rfl,_,rfl,_,rfl,_,_,rfl,rfl,⟨by decide,by decide,by decide⟩,_,_,rfl,rfl, .inr ⟨_,rfl,_,_,rfl,rfl, .inl (.inr (wY _)), ?_⟩⟩;exact⟨_,rfl,_,rfl,_,rfl,_,_,rfl,rfl, .inl (.inl ⟨by decide,by decide⟩),_,_,rfl,rfl,_,_,rfl,rfl,_,_,rfl,rfl,(show (0:Int)<2147483647 by decide),_,_,rfl,rfl, .inl (.inr ⟨by decide,by decide⟩),_,_,rfl,rfl,(show (0:Int)<2147483647 by decide),(show 2<=sizeLine by decide),λp hp=>e _ p hp⟩
 .refine ⟨_,rfl,_,rfl,_,rfl,_,rfl,_,_,rfl,rfl,⟨by decide,by decide,by decide⟩,_,_,rfl,rfl, .inr ⟨_,rfl,_,_,rfl,rfl, .inl (.inr (wY _)), ?_⟩⟩;exact⟨_,rfl,_,rfl,_,rfl,_,_,rfl,rfl, .inl (.inl ⟨by decide,by decide⟩),_,_,rfl,rfl,_,_,rfl,rfl,_,_,rfl,rfl,(show (0:Int)<2147483647 by decide),_,_,rfl,rfl, .inl (.inr ⟨by decide,by decide⟩),_,_,rfl,rfl,(show (0:Int)<2147483647 by decide),(show 2<=sizeLine by decide),λp hp=>e 0 p hp⟩
theorem Pb (F:Z1 K "_law_times" GT f U)(b:B7 P w K Z Y n)(d:B8 P w K Z Y n)(e:HG P w K Z Y n)(g:C0 P w K Z Y n)(h:Z "range" =none):Z2 P w K Z Y n f U ["_law_tape_here","_law_found","_law_k","_law_begin","_law_end"] 1 CT:=Dk F DN rfl λ_ _ _ _ _ _ a c=>(AM (Ha (i:=1) c rfl (Or.inl rfl) (Bs HZ)) (AM (CB AAU rfl (YF rfl h (BZ (AU (DW (Bs (Ar AH (Ar AH (Ar AH (EZ AH AH AH)))))) (AK b a rfl (Au (AJ 0) AH))))) (FN 2 c) (AM (Cm 3 c (AK d a rfl (Au (Aa Df (AK b a rfl (Au (AJ 0) AH)) AH) (Aa Ah AH (AK b a rfl (Au (AJ 0) AH)))))) (AM (Cm 4 c (Li (D0 (C5 a) (AK b a rfl (Au (AJ 0) AH)) AH) BP (AK g a rfl (Au (AJ 3) (AK e a rfl (BZ (AJ 0))))))) (AR (DF (i:=1) ABa ABb CJ (BZ (Ae (EZ (AJ 3) (AK b a rfl (Au (AJ 0) AH)) (AJ 4))))))))) (AR (AW (AJ 1)))))
theorem MK (F:Z1 K "_law_use_has" FC f U)(c:Cz P w K Z Y n)(d:C0 P w K Z Y n):Z2 P w K Z Y n f U ["_law_m","_law_span_here","_law_hours","_law_until","_law_begin","_law_held","_law_end"] 3 Ct:=Dk F DN rfl λ_ _ _ _ _ _ b a=>(AM (Cm 3 a (AK d b rfl (Au (AJ 0) (AJ 1)))) (AM (CB AAU rfl (DM (AJ 2)) (EG (n:=3) rfl (Ap (FN 4 a) (Ap (FN 5 a) (Ap (FN 6 a) DD)))) (AR (A9 (Eo (Fu (BC (AK c b rfl (Au (AJ 4) (AJ 3)))) (EK (Eo (D2 (D0 GZ (AJ 6) BP) (Dy (BC (AK c b rfl (Au (AJ 0) (AJ 6)))))))))) (AR (AW Eh)) Aw))) (AR (AW Eh))))
theorem N2 (F:Z1 K "_law_within" Fo f U)(c:Cz P w K Z Y n):Z2 P w K Z Y n f U ["_law_told","_law_amount","_law_begin","_law_held","_law_end"] 2 DR:=Dk F DN rfl λ_ _ _ _ _ _ a b=>(AM (CB AAU rfl (DM (AJ 0)) (EG (n:=3) rfl (Ap (FN 2 b) (Ap (FN 3 b) (Ap (FN 4 b) DD)))) (AR (A9 (Eo (D2 (BC (AK c a rfl (Au (AJ 2) (AJ 1)))) (Dy (Eo (Fu (D0 (C5 a) (AJ 3) AH) (EK (D0 (C5 a) (AJ 2) (AJ 1)))))))) (AR (A9 (Eo (D2 (D0 GZ (AJ 4) BP) (Dy (BC (AK c a rfl (Au (AJ 1) (AJ 4))))))) (AR (AW Eh)) Aw)) Aw))) (AR (AW Eh)))
theorem Rn (F:Z1 K "_law_word" HW f U)(a:B7 P w K Z Y n):Z2 P w K Z Y n f U ["_law_tape_here"] 1 EL:=Dk F DN rfl λ_ _ _ _ _ _ b _=>(AR (AW (AU (DW (Bs (Ar Bj (Ar Bj (Ar Bj (Ar Bj (Ar Bj (Ar Bj (Ar Bj (EZ Bj Bj Bj)))))))))) (AK a b rfl (Au (AJ 0) AH)))))
theorem ZV (F:Z1 K "summed" ON f U)(g:Z "max" =none)(h:Z "tuple" =none)(j:Z "zip" =none):Z2 P w K Z Y n f U ["one","many","other","more","numbers","weights","number","weight"] 4 HA:=by
 have a:(["former","latter","many","more"] :km Str).Nodup:=by decide +kernel
 have b:(["number","weight","many"] :km Str).Nodup:=by decide +kernel
 exact Dk F DN rfl λ_ _ _ _ _ _ e c=>(AM (Cm 4 c (BF Bi rfl h AAg (BZ (DW (Ck rfl (iX rfl j (Au (AU (AJ 0) AH) (AU (AJ 2) AH))) (Bq (own:=2) (ix:= [1,3]) (N:= ["former","latter" ,"many" ,"more" ]) rfl rfl rfl rfl rfl rfl (λ_ _ _ _ _ _=>(Fs (n:=2) rfl (A6 (GC 0 a) (A6 (GC 1 a) EJ)))) (λ_ _ _ _ _ _=>B9) (λ_ _ _ _ _ _=>(Aa Ah (Aa BQ (AJ 2) (AJ 0)) (Aa BQ (AJ 3) (AJ 1)))))))))) (d5 (by decide) (by decide) (by decide) (by decide) (by decide) (by decide) (AU (AJ 0) AH) (AU (AJ 2) AH) (λk d=>dG (i:=5) rfl c rfl (Or.inl rfl) (US d rfl rfl rfl rfl) (XJ (own:=2) (ix:= [1]) (N:= ["number","weight" ,"many" ]) rfl rfl rfl rfl rfl rfl (bT (Nf (RK (by decide)) MY (Nf (RK (by decide)) MY XY RL) (Tc MY RL))) (λ_ _ _ _ _ _=>(N7 rfl (Dv (Ek (i:=0) b rfl (Or.inl rfl)) (Dv (Ek (i:=1) b rfl (Or.inl rfl)) J1)))) (λ_ _ _ _ _ _=>Xz) (λ_ _ _ _ _ _=>(pv 0))) (λ_ _ _ _ _ _=>(B3 Me (pv 2) (pv 1)))) (λk d=>WK AAU rfl (US d rfl rfl rfl rfl) (N7 rfl (Dv (Ek (i:=6) c rfl (Or.inl rfl)) (Dv (Ek (i:=7) c rfl (Or.inl rfl)) J1))) (El (iI (xT e) (pv 5) (pv 6) (B3 HL (cv (xT e) (pv 5) (pv 6) BK ⟨rfl,rfl,rfl,rfl⟩) (B3 Me (pv 3) (pv 7))) rfl))) (AR (AW (Ae (EZ (AJ 4) (BI (nB rfl) rfl g boot_max (Au (AU (AJ 0) AH) (AU (AJ 2) AH))) (AJ 5)))))))
theorem V8 (F:Z1 K "crossed" LI f U)(a:bf P w K Z Y n):Z2 P w K Z Y n f U ["low","high","at"] 3 Et:=Dk F DN rfl λ_ _ _ _ _ _ b _=>(AR (AW (AK a b rfl (Ar (AJ 0) (EZ (CA (AU (AU (AJ 1) AH) (AJ 2))) (AJ 1) (AU (AU (AJ 0) AH) (AJ 2)))))))
theorem UI (F:Z1 K "is_never" JE f U):Z2 P w K Z Y n f U ["plane","total"] 1 D4:=Dk F DN rfl λ_ _ _ _ _ _ a b=>(AM (Cm 1 b (AU (AU (AJ 0) AH) AH)) (AR (AW (q9 (Dx Fe (AJ 1) AH (CP _)) (LN (OW (Dx (C5 a) (AJ 1) AH (CP _)) (LN (Dx (C5 a) (AU (AJ 0) AH) AH (CP _)))))))))
theorem ZO (F:Z1 K "before" OG f U):Z2 P w K Z Y n f U ["one","other"] 2 Ai:=Dk F DN rfl λ_ _ _ _ _ _ _ _=>(AR (AW (Dx Fe (Aa BQ (AU (AJ 0) AH) (AU (AJ 1) AH)) (Aa BQ (AU (AJ 1) AH) (AU (AJ 0) AH)) (CP _))))
theorem WC (F:Z1 K "turn_of" LM f U):Z2 P w K Z Y n f U ["plane","at","total","factor"] 2 Di:=Dk F DN rfl λ_ _ _ _ _ _ _ a=>(AM (Cm 2 a (AU (AU (AJ 0) AH) AH)) (AM (Cm 3 a (AU (AU (AJ 0) AH) (AJ 1))) (AR (AW (Li (D0 IZ (AJ 3) AH) (Ae (Au (CA (AJ 2)) (AJ 3))) (Ae (Au (AJ 2) (CA (AJ 3)))))))))
theorem Pe (F:Z1 K "is_tighter" GV f U)(b:F4 P w K Z Y n)(c:QA P w K Z Y n):Z2 P w K Z Y n f U ["plane","other","at","here","there"] 3 Ds:=Dk F DN rfl λ_ _ _ _ _ _ a d=>(AM (Cm 3 d (AK c a rfl (Au (AJ 0) (AJ 2)))) (AM (Cm 4 d (AK c a rfl (Au (AJ 1) (AJ 2)))) (AM (A9 (BC (AK b a rfl (Au (AJ 3) (AJ 4)))) (AR (AW (Dx Fe (AU (AU (AJ 0) AH) (AJ 2)) AH (CP _)))) Aw) (AM (A9 (BC (AK b a rfl (Au (AJ 4) (AJ 3)))) (AR (AW (Dx IZ (AU (AU (AJ 0) AH) (AJ 2)) AH (CP _)))) Aw) (AR (AW (Dx IZ (AU (AJ 0) AH) (AU (AJ 1) AH) (CP _))))))))
theorem UN (F:Z1 K "tightest" JI f U)(b:RP P w K Z Y n):Z2 P w K Z Y n f U ["planes","at","sign","told","plane"] 3 Cw:=Dk F DN rfl λ_ _ _ _ _ _ c a=>(AM (Cm 3 a BP) (AM (CB AAU rfl (DM (AJ 0)) (FN 4 a) (AR (A9 (Eo (Fu (D0 IZ (Aa BQ (AU (AU (AJ 4) AH) (AJ 1)) (AJ 2)) AH) (EK (Eo (D2 (D0 GZ (AJ 3) BP) (Dy (BC (AK b c rfl (EZ (AJ 4) (AJ 3) (AJ 1)))))))))) (AR (Cm 3 a (AJ 4))) Aw))) (AR (AW (AJ 3)))))
theorem UH (F:Z1 K "fault_in" JD f U)(e:P9 P w K Z Y n)(c:Vk P w K Z Y n)(d:Nn P w K Z Y n):Z2 P w K Z Y n f U ["planes","at","plane","high","both"] 2 D3:=Dk F DN rfl λ_ _ _ _ _ _ a b=>(AM (CB AAU rfl (DM (AJ 0)) (FN 2 b) (AR (A9 (Eo (Fu (D0 (C5 a) (AU (AU (AJ 2) AH) (AJ 1)) AH) (EK (BC (AK c a rfl (BZ (AJ 2))))))) (AR (AW (AJ 2))) Aw))) (AM (Cm 3 b (AK d a rfl (EZ (AJ 0) (AJ 1) (CA AH)))) (AM (A9 (D0 GZ (AJ 3) BP) (AR (AW BP)) Aw) (AM (Cm 4 b (AK e a rfl (EZ (AK d a rfl (EZ (AJ 0) (AJ 1) AH)) (AJ 3) (AJ 1)))) (AR (AW (Li (BC (AK c a rfl (BZ (AJ 4)))) (AJ 4) BP)))))))
theorem ZP (F:Z1 K "common" OH f U):Z2 P w K Z Y n f U ["one","other"] 2 G5:=Dk F DN rfl λ_ _ _ _ _ _ a b=>(AM (KD AAU (D0 (Ob a) (AJ 1) AH) (AR (Wc (i:=0) (j:=1) rfl b rfl rfl (by decide) rfl rfl (Au (AJ 1) (Aa dz (AJ 0) (AJ 1))) rfl))) (AR (AW (AJ 0))))
theorem LC (F:Z1 K "shared_bottom" EY f U)(b:Ti P w K Z Y n):Z2 P w K Z Y n f U ["numbers","told","top","bottom"] 1 CU:=Dk F DN rfl λ_ _ _ _ _ _ c a=>(AM (Cm 1 a AH) (AM (CB AAU rfl (DM (AJ 0)) (EG (n:=2) rfl (Ap (FN 2 a) (Ap (FN 3 a) DD))) (AR (d4 (i:=1) a rfl (Or.inl rfl) (Aa Fd (AJ 3) (AK b c rfl (Au (AJ 1) (AJ 3)))) nL))) (AR (AW (AJ 1)))))
theorem UK (F:Z1 K "plane_of" JG f U)(c:ME P w K Z Y n)(d:Z "tuple" =none):Z2 P w K Z Y n f U ["form","strict","number","shared","numbers"] 3 De:=by
 have a:(["top","bottom","shared"] :km Str).Nodup:=by decide +kernel
 exact Dk F DN rfl λ_ _ _ _ _ _ e b=>(AM (Eb (i:=3) b rfl (Or.inr rfl) (AK c e rfl (BZ (AJ 0)))) (AM (Cm 4 b (BF Bi rfl d AAg (BZ (DW (Ck rfl (DM (AJ 0)) (Bq (own:=2) (ix:= [3]) (N:= ["top","bottom" ,"shared" ]) rfl rfl rfl rfl rfl rfl (λ_ _ _ _ _ _=>(Fs (n:=2) rfl (A6 (GC 0 a) (A6 (GC 1 a) EJ)))) (λ_ _ _ _ _ _=>B9) (λ_ _ _ _ _ _=>(Aa BQ (AJ 0) (Aa Fd (AJ 2) (AJ 1)))))))))) (AR (AW (Ae (EZ (AJ 4) (AJ 1) (nF (AJ 2) (AJ 3))))))))
theorem g6 (F:Z1 K "part" WT f U)(c:Ti P w K Z Y n)(a:Z "abs" =none):Z2 P w K Z Y n f U ["top","bottom","shared"] 2 GI:=Dk F DN rfl λ_ _ _ _ _ _ d b=>(AM (Cm 2 b (AK c d rfl (Au (BI R8 rfl a boot_abs (BZ (AJ 0))) (BI R8 rfl a boot_abs (BZ (AJ 1)))))) (AM (A9 (D0 Fe (AJ 1) AH) (AR (Cm 2 b (CA (AJ 2)))) Aw) (AR (AW (Ae (Au (Aa Fd (AJ 0) (AJ 2)) (Aa Fd (AJ 1) (AJ 2))))))))
theorem UL (F:Z1 K "range_in" JH f U)(c:Nj P w K Z Y n)(d:Nn P w K Z Y n)(e:QA P w K Z Y n):Z2 P w K Z Y n f U ["planes","at","low","least","high","greatest"] 2 D7:=Dk F DN rfl λ_ _ _ _ _ _ a b=>(AM (Cm 2 b (AK d a rfl (EZ (AJ 0) (AJ 1) AH))) (AM (Cm 3 b (AK e a rfl (Au (AJ 2) (AJ 1)))) (AM (Cm 3 b (AK c a rfl (Au (AU (AJ 3) AH) (AU (AJ 3) AH)))) (AM (Cm 4 b (AK d a rfl (EZ (AJ 0) (AJ 1) (CA AH)))) (AM (A9 (D0 GZ (AJ 4) BP) (AR (AW (Ae (EZ (AJ 3) (Aa Df AH (AU (AJ 2) AH)) BP)))) Aw) (AM (Cm 5 b (AK e a rfl (Au (AJ 4) (AJ 1)))) (AR (AW (Ae (EZ (AJ 3) (Aa Df AH (AU (AJ 2) AH)) (AK c a rfl (Au (AU (AJ 5) AH) (AU (AJ 5) AH)))))))))))))
theorem OS:DZ ["planes","at","most","lows","highs","told","low","high"] ["planes","at","most"] (A0 Ht):=DN
theorem WD (F:Q2 K "without" "without" Ht f U 2)(g:P9 P w K Z Y n)(h:Z "len" =none)(j:Z "set" =none):D8 P w K Z Y NE (n+1) f U ["planes","at","most"] (CS K 3 Kr):=by
 have a:=OS.nd;have b:(["plane","at"] :km Str).Nodup:=by decide +kernel
 have c:(["plane","at"] :km Str).Nodup:=by decide +kernel
 have d:(["plane","at"] :km Str).Nodup:=by decide +kernel
 exact bL F OS rfl λ_ _ _ _ _ _ e=>(AM (EU (i:=3) rfl a rfl (Or.inl rfl) (DM (AJ 0)) (Bq (own:=1) (ix:= [1]) (N:= ["plane","at" ]) rfl rfl rfl rfl rfl rfl (λ_ _ _ _ _ _=>(GC 0 b)) (λ_ _ _ _ _ _=>(GY (D0 IZ (AU (AU (AJ 0) AH) (AJ 1)) AH))) (λ_ _ _ _ _ _=>(AJ 0)))) (AM (EU (i:=4) rfl a rfl (Or.inl rfl) (DM (AJ 0)) (Bq (own:=1) (ix:= [1]) (N:= ["plane","at" ]) rfl rfl rfl rfl rfl rfl (λ_ _ _ _ _ _=>(GC 0 c)) (λ_ _ _ _ _ _=>(GY (D0 Fe (AU (AU (AJ 0) AH) (AJ 1)) AH))) (λ_ _ _ _ _ _=>(AJ 0)))) (AM (Um (i:=5) rfl a rfl (Or.inl rfl) (DM (AJ 0)) (Bq (own:=1) (ix:= [1]) (N:= ["plane","at" ]) rfl rfl rfl rfl rfl rfl (λ_ _ _ _ _ _=>(GC 0 d)) (λ_ _ _ _ _ _=>(GY (D0 (C5 e) (AU (AU (AJ 0) AH) (AJ 1)) AH))) (λ_ _ _ _ _ _=>(AJ 0)))) (AM (CB AAU rfl (DM (AJ 3)) (FN 6 a) (AR (CB AAU rfl (DM (AJ 4)) (FN 7 a) (AR (A9 (D0 rD (nJ rfl h rfl j (AU (AJ 6) AH) (AU (AJ 7) AH)) (AJ 2)) (AR (DF (i:=5) ABa ABb CJ (BZ (AK g e rfl (EZ (AJ 6) (AJ 7) (AJ 1)))))) Aw))))) (AR (AW (AJ 5)))))))
theorem Pd (F:Z1 K "amounts_in" GU f U)(h:Vj P w K Z Y n)(g:Vm P w K Z Y n)(j:Vn P w K Z Y n)(k:Y3 P w K Z Y n)(l:Z "enumerate" =none)(o:Z "len" =none)(p:Z "range" =none)(a:Kc K Z "NOUGHT" (.tup [(.int 0),(.int 1)]))(b:Kc K Z "ONCE" (.tup [(.int 1),(.int 1)])):Z2 P w K Z Y n f U ["rows","unknowns","planes","gone"] 2 Dr:=by
 have c:(["number","form","strict"] :km Str).Nodup:=by decide +kernel
 exact Dk F DN rfl λ_ _ _ _ _ _ d e=>(AM (Um (i:=2) rfl e rfl (Or.inl rfl) (u4 rfl l (BZ (AJ 0))) (Bq (own:=3) (ix:= []) (N:= ["number","form" ,"strict" ]) rfl rfl rfl rfl rfl rfl (λ_ _ _ _ _ _=>(Fs (n:=2) rfl (A6 (GC 0 c) (A6 (Fs (n:=2) rfl (A6 (GC 1 c) (A6 (GC 2 c) EJ))) EJ)))) (λ_ _ _ _ _ _=>B9) (λ_ _ _ _ _ _=>(AK g d rfl (EZ (AJ 1) (AJ 2) (AJ 0)))))) (AM (DF (i:=2) ABa ABb CJ (BZ (AK g d rfl (EZ (Aa Ah (Aa YI (Ae (BZ (OX a rfl))) (AJ 1)) (Ae (BZ (OX b rfl)))) AH (BI FE rfl o ABN (BZ (AJ 0))))))) (AM (Wb 2 (CB AAU rfl (jk rfl p (Au AH (AJ 1))) (FN 3 e) (AR (Wb 2 (Cm 2 e (AK k d rfl (EZ (AJ 2) (Aa Df (AJ 1) (AJ 3)) (Aa Ah (AJ 3) AH)))))))) (AM (A9 (D0 Hu (AK h d rfl (Au (AJ 2) (AJ 1))) BP) (AR (AW (DW (Bs HZ)))) Aw) (AR (AW (DW (Bs (BZ (AK j d rfl (Au (AJ 2) (AJ 1))))))))))))
theorem ca (F:Z1 K "minus" R5 f U)(a:Nj P w K Z Y n):Z2 P w K Z Y n f U ["one","other"] 2 DY:=Dk F DN rfl λ_ _ _ _ _ _ b _=>(AR (AW (AK a b rfl (Au (Aa Df (Aa BQ (AU (AJ 0) AH) (AU (AJ 1) AH)) (Aa BQ (AU (AJ 1) AH) (AU (AJ 0) AH))) (Aa BQ (AU (AJ 0) AH) (AU (AJ 1) AH))))))
theorem UJ (F:Z1 K "negative" JF f U):Z2 P w K Z Y n f U ["number"] 1 Ez:=Dk F DN rfl λ_ _ _ _ _ _ _ _=>(AR (AW (Ae (Au (CA (AU (AJ 0) AH)) (AU (AJ 0) AH)))))
theorem gz (F:Z1 K "over" WS f U)(a:Nj P w K Z Y n):Z2 P w K Z Y n f U ["one","other"] 2 Qz:=Dk F DN rfl λ_ _ _ _ _ _ b _=>(AR (AW (AK a b rfl (Au (Aa BQ (AU (AJ 0) AH) (AU (AJ 1) AH)) (Aa BQ (AU (AJ 0) AH) (AU (AJ 1) AH))))))
theorem g9 (F:Z1 K "plus" WU f U)(a:Nj P w K Z Y n):Z2 P w K Z Y n f U ["one","other"] 2 Ce:=Dk F DN rfl λ_ _ _ _ _ _ b _=>(AR (AW (AK a b rfl (Au (Aa Ah (Aa BQ (AU (AJ 0) AH) (AU (AJ 1) AH)) (Aa BQ (AU (AJ 1) AH) (AU (AJ 0) AH))) (Aa BQ (AU (AJ 0) AH) (AU (AJ 1) AH))))))
theorem cf (F:Z1 K "times" R6 f U)(a:Nj P w K Z Y n):Z2 P w K Z Y n f U ["one","other"] 2 FS:=Dk F DN rfl λ_ _ _ _ _ _ b _=>(AR (AW (AK a b rfl (Au (Aa BQ (AU (AJ 0) AH) (AU (AJ 1) AH)) (Aa BQ (AU (AJ 0) AH) (AU (AJ 1) AH))))))
theorem ML (F:Z1 K "spot_between" FD f U)(c:RQ P w K Z Y n)(d:ka P w K Z Y n)(e:Nk P w K Z Y n)(g:RR P w K Z Y n)(h:Z "tuple" =none)(j:Z "zip" =none):Z2 P w K Z Y n f U ["former","latter","m","share"] 3 Dt:=by
 have b:(["low","high","share"] :km Str).Nodup:=by decide +kernel
 exact Dk F DN rfl λ_ _ _ _ _ _ a k=>(AM (Eb (i:=3) k rfl (Or.inr rfl) (AK d a rfl (Au (AK c a rfl (Au (AJ 2) (AU (AJ 0) AH))) (AK c a rfl (Au (AU (AJ 1) AH) (AU (AJ 0) AH)))))) (AR (AW (BF Bi rfl h AAg (BZ (DW (Ck rfl (iX rfl j (Au (ET (AJ 0) (Uk AH) Uj) (ET (AJ 1) (Uk AH) Uj))) (Bq (own:=2) (ix:= [3]) (N:= ["low","high" ,"share" ]) rfl rfl rfl rfl rfl rfl (λ_ _ _ _ _ _=>(Fs (n:=2) rfl (A6 (GC 0 b) (A6 (GC 1 b) EJ)))) (λ_ _ _ _ _ _=>B9) (λ_ _ _ _ _ _=>(AK e a rfl (Au (AJ 0) (AK g a rfl (Au (AJ 2) (AK c a rfl (Au (AJ 1) (AJ 0))))))))))))))))
theorem WB (F:Z1 K "spot_at" LL f U)(b:F4 P w K Z Y n)(c:Nm P w K Z Y n)(d:Z "len" =none)(e:Z "range" =none):Z2 P w K Z Y n f U ["plan","m","at"] 2 Hg:=Dk F DN rfl λ_ _ _ _ _ _ a g=>(AM (A9 (BC (AK b a rfl (Au (AJ 1) (AU (AU (AJ 0) AH) AH)))) (AR (AW BP)) Aw) (AM (CB AAU rfl (jk rfl e (Au AH (BI FE rfl d ABN (BZ (AJ 0))))) (FN 2 g) (AR (A9 (Cf (BC (AK b a rfl (Au (AU (AU (AJ 0) (AJ 2)) AH) (AJ 1))))) (AR (AW (AK c a rfl (EZ (AU (AJ 0) (Aa Df (AJ 2) AH)) (AU (AJ 0) (AJ 2)) (AJ 1))))) Aw))) (AR (AW BP))))
theorem Ro (F:Z1 K "corner_at" HX f U)(a:Y2 P w K Z Y n):Z2 P w K Z Y n f U ["plan","m"] 2 FR:=Dk F DN rfl λ_ _ _ _ _ _ b _=>(AR (AW (Aa Ah (Ae (BZ (AJ 1))) (AK a b rfl (Au (AJ 0) (AJ 1))))))
theorem V9 (F:Z1 K "greater" LJ f U)(a:F4 P w K Z Y n):Z2 P w K Z Y n f U ["one","other"] 2 Cs:=Dk F DN rfl λ_ _ _ _ _ _ b _=>(AR (AW (Li (BC (AK a b rfl (Au (AJ 0) (AJ 1)))) (AJ 1) (AJ 0))))
theorem ZQ (F:Z1 K "cut_at" OI f U)(e:F4 P w K Z Y n)(h:Tj P w K Z Y n)(j:Y0 P w K Z Y n)(g:Z "tuple" =none):Z2 P w K Z Y n f U ["corners","now","begin","former","latter"] 2 G6:=by
 have b:(["corner","begin"] :km Str).Nodup:=by decide +kernel
 have c:(["corner","begin"] :km Str).Nodup:=by decide +kernel
 exact Dk F DN rfl λ_ _ _ _ _ _ a d=>(AM (Eb (i:=2) d rfl (Or.inr rfl) (AK j a rfl (Au (AJ 1) (AU (AU (AJ 0) AH) AH)))) (AM (Cm 3 d (BF Bi rfl g AAg (BZ (DW (Ck rfl (DM (AJ 0)) (Bq (own:=1) (ix:= [2]) (N:= ["corner","begin" ]) rfl rfl rfl rfl rfl rfl (λ_ _ _ _ _ _=>(GC 0 b)) (λ_ _ _ _ _ _=>(GY (BC (AK e a rfl (Au (AU (AJ 0) AH) (AJ 1)))))) (λ_ _ _ _ _ _=>(AJ 0)))))))) (AM (Cm 4 d (BF Bi rfl g AAg (BZ (DW (Ck rfl (DM (AJ 0)) (Bq (own:=1) (ix:= [2]) (N:= ["corner","begin" ]) rfl rfl rfl rfl rfl rfl (λ_ _ _ _ _ _=>(GC 0 c)) (λ_ _ _ _ _ _=>(GY (BC (AK e a rfl (Au (AJ 1) (AU (AJ 0) AH)))))) (λ_ _ _ _ _ _=>(AJ 0)))))))) (AR (AW (Ae (EZ (AJ 3) (AK h a rfl (Au (AJ 0) (AJ 2))) (AJ 4))))))))
theorem WA (F:Z1 K "put_off" LK f U)(b:Nk P w K Z Y n)(d:Z "tuple" =none):Z2 P w K Z Y n f U ["plan","x","y","z"] 4 Hf:=by
 have a:(["m","east","north","high","x","y","z"] :km Str).Nodup:=by decide +kernel
 exact Dk F DN rfl λ_ _ _ _ _ _ c _=>(AR (AW (BF Bi rfl d AAg (BZ (DW (Ck rfl (DM (AJ 0)) (Bq (own:=4) (ix:= [1,2,3]) (N:= ["m","east" ,"north" ,"high" ,"x" ,"y" ,"z" ]) rfl rfl rfl rfl rfl rfl (λ_ _ _ _ _ _=>(Fs (n:=4) rfl (A6 (GC 0 a) (A6 (GC 1 a) (A6 (GC 2 a) (A6 (GC 3 a) EJ)))))) (λ_ _ _ _ _ _=>B9) (λ_ _ _ _ _ _=>(Ae (Ar (AJ 0) (EZ (AK b c rfl (Au (AJ 1) (AJ 4))) (AK b c rfl (Au (AJ 2) (AJ 5))) (AK b c rfl (Au (AJ 3) (AJ 6))))))))))))))
theorem cg (F:Z1 K "whole" R7 f U):Z2 P w K Z Y n f U ["n"] 1 Hi:=Dk F DN rfl λ_ _ _ _ _ _ _ _=>(AR (AW (Ae (Au (AJ 0) AH))))
theorem Rp (F:Z1 K "led_round" HY f U)(d:Y1 P w K Z Y n)(e:RR P w K Z Y n)(g:Xa P w K Z Y n)(h:Z "len" =none):Z2 P w K Z Y n f U ["former","corner","latter","way","amount","x","y","z"] 5 EM:=by
 have a:(["sign","amount"] :km Str).Nodup:=by decide +kernel
 exact Dk F DN rfl λ_ _ _ _ _ _ b c=>(AM (A9 (D0 Fe (BI FE rfl h ABN (BZ (AJ 2))) AH) (AR (AW BP)) Aw) (AM (Of (DW (Ck rfl (DM (AJ 3)) (Bq (own:=1) (ix:= [4]) (N:= ["sign","amount" ]) rfl rfl rfl rfl rfl rfl (λ_ _ _ _ _ _=>(GC 0 a)) (λ_ _ _ _ _ _=>B9) (λ_ _ _ _ _ _=>(AK e b rfl (Au (AK g b rfl (BZ (AJ 0))) (AJ 1))))))) (EG (n:=3) rfl (Ap (FN 5 c) (Ap (FN 6 c) (Ap (FN 7 c) DD))))) (AR (AW (Aa Ah (Aa Ah (Aa Ah (AJ 0) (Ae (BZ (AJ 1)))) (AK d b rfl (Ar (ET (AJ 2) Uj (Uk (CA AH))) (EZ (AJ 5) (AJ 6) (AJ 7))))) (ET (AJ 2) (Uk (CA AH)) Uj))))))
theorem ZU (F:Z1 K "slowed" OM f U)(e:RQ P w K Z Y n)(d:Nk P w K Z Y n)(g:RR P w K Z Y n)(h:Xa P w K Z Y n)(j:Z "tuple" =none):Z2 P w K Z Y n f U ["former","corner","latter","amount","factor","begin","behind"] 4 G9:=by
 have a:(["m","x","y","z","begin","factor"] :km Str).Nodup:=by decide +kernel
 exact Dk F DN rfl λ_ _ _ _ _ _ b c=>(AM (Eb (i:=4) c rfl (Or.inr rfl) (AK d b rfl (Au (AK h b rfl (BZ AH)) (AJ 3)))) (AM (Eb (i:=5) c rfl (Or.inr rfl) (AU (AJ 1) AH)) (AM (EU (i:=6) rfl c rfl (Or.inl rfl) (DM (AJ 2)) (Bq (own:=4) (ix:= [5,4]) (N:= ["m","x" ,"y" ,"z" ,"begin" ,"factor" ]) rfl rfl rfl rfl rfl rfl (λ_ _ _ _ _ _=>(Fs (n:=4) rfl (A6 (GC 0 a) (A6 (GC 1 a) (A6 (GC 2 a) (A6 (GC 3 a) EJ)))))) (λ_ _ _ _ _ _=>B9) (λ_ _ _ _ _ _=>(Ae (Ar (AK d b rfl (Au (AJ 4) (AK g b rfl (Au (AJ 5) (AK e b rfl (Au (AJ 0) (AJ 4))))))) (EZ (AJ 1) (AJ 2) (AJ 3))))))) (AR (AW (Aa Ah (Aa Ah (AJ 0) (Ae (BZ (AJ 1)))) (BF Bi rfl j AAg (BZ (AJ 6)))))))))
theorem ZW (F:Z1 K "tupled" OO f U)(b:Z "tuple" =none):Z2 P w K Z Y n f U ["rows"] 1 Jb:=by
 have a:(["row"] :km Str).Nodup:=by decide +kernel
 exact Dk F DN rfl λ_ _ _ _ _ _ _ _=>(AR (AW (BF Bi rfl b AAg (BZ (DW (Ck rfl (DM (AJ 0)) (Bq (own:=1) (ix:= []) (N:= ["row"]) rfl rfl rfl rfl rfl rfl (λ_ _ _ _ _ _=>(GC 0 a)) (λ_ _ _ _ _ _=>B9) (λ_ _ _ _ _ _=>(BF Bi rfl b AAg (BZ (AJ 0)))))))))))
theorem cZ (F:Z1 K "later" R4 f U)(b:Nk P w K Z Y n)(c:Z "tuple" =none):Z2 P w K Z Y n f U ["plan","by"] 2 MV:=by
 have a:(["m","x","y","z","by"] :km Str).Nodup:=by decide +kernel
 exact Dk F DN rfl λ_ _ _ _ _ _ d _=>(AR (AW (BF Bi rfl c AAg (BZ (DW (Ck rfl (DM (AJ 0)) (Bq (own:=4) (ix:= [1]) (N:= ["m","x" ,"y" ,"z" ,"by" ]) rfl rfl rfl rfl rfl rfl (λ_ _ _ _ _ _=>(Fs (n:=4) rfl (A6 (GC 0 a) (A6 (GC 1 a) (A6 (GC 2 a) (A6 (GC 3 a) EJ)))))) (λ_ _ _ _ _ _=>B9) (λ_ _ _ _ _ _=>(Ae (Ar (AK b d rfl (Au (AJ 0) (AJ 4))) (EZ (AJ 1) (AJ 2) (AJ 3))))))))))))
theorem ZY (F:Z1 K "waited" OQ f U)(a:gN P w K Z Y n):Z2 P w K Z Y n f U ["former","corner","latter","amount","delayed"] 4 HB:=Dk F DN rfl λ_ _ _ _ _ _ b c=>(AM (Cm 4 c (AK a b rfl (Au (Aa Ah (Ae (BZ (AJ 1))) (AJ 2)) (AJ 3)))) (AM (A9 (nP (AJ 0)) (AR (AW (Aa Ah (Aa Ah (AJ 0) (Ae (BZ (AJ 1)))) (AJ 4)))) Aw) (AR (AW (AJ 4)))))
theorem ZT (F:Z1 K "shaped" OL f U)(d:F4 P w K Z Y n)(e:bV P w K Z Y n)(g:Tk P w K Z Y n)(h:bZ P w K Z Y n)(i:bo P w K Z Y n)(j:bw P w K Z Y n)(a:Kt K w.params Z "WAYS" Ep):Z2 P w K Z Y n f U ["plan","shape","now","corners","word","amount","former","corner","latter"] 3 E1:=Dk F DN rfl λ_ _ _ _ _ _ b c=>(AM (Of (AJ 1) (EG (n:=2) rfl (Ap (FN 4 c) (Ap (FN 5 c) DD)))) (AM (Cm 3 c (AK i b rfl (BZ (AJ 0)))) (AM (A9 (Eo (D2 (D0 (C5 b) (AU (AJ 5) AH) AH) (Dy (Cf (BC (AK d b rfl (Au (AJ 2) (AU (AU (AJ 3) (CA AH)) AH)))))))) (AR (AW (AJ 3))) Aw) (AM (Of (AK e b rfl (Au (AJ 3) (AJ 2))) (EG (n:=3) rfl (Ap (FN 6 c) (Ap (FN 7 c) (Ap (FN 8 c) DD))))) (AM (A9 (D0 (C5 b) (AJ 4) Bj) (AR (AW (AK j b rfl (Ar (AJ 6) (EZ (AJ 7) (AJ 8) (AJ 5)))))) Aw) (AM (A9 (D0 (C5 b) (AJ 4) Bj) (AR (AW (AK h b rfl (Ar (AJ 6) (EZ (AJ 7) (AJ 8) (AJ 5)))))) Aw) (AR (AW (AK g b rfl (Ar (AJ 6) (Ar (AJ 7) (EZ (AJ 8) (nI a rfl (AJ 4) (λ_ _=>rfl)) (AJ 5)))))))))))))
theorem N4 (F:Z1 K "count_below" Fq f U)(b:F4 P w K Z Y n)(c:Z "len" =none):Z2 P w K Z Y n f U ["numbers","number","low","high","middle"] 2 DT:=Dk F DN rfl λ_ _ _ _ _ _ d a=>(AM (Cm 2 a AH) (AM (Cm 3 a (BI FE rfl c ABN (BZ (AJ 0)))) (AM (KD AAU (D0 Fe (AJ 2) (AJ 3)) (AM (Cm 4 a (Aa Fd (Aa Ah (AJ 2) (AJ 3)) AH)) (AR (A9 (BC (AK b d rfl (Au (AU (AJ 0) (AJ 4)) (AJ 1)))) (AR (Cm 2 a (Aa Ah (AJ 4) AH))) (AR (Cm 3 a (AJ 4))))))) (AR (AW (AJ 2))))))
theorem ZS (F:Z1 K "rising" OK f U)(c:PX P w K Z Y n)(d:Z "len" =none):Z2 P w K Z Y n f U ["numbers","told","number","at"] 1 G8:=Dk F DN rfl λ_ _ _ _ _ _ a b=>(AM (Ha (i:=1) b rfl (Or.inl rfl) (Bs HZ)) (AM (CB AAU rfl (DM (AJ 0)) (FN 2 b) (AM (Cm 3 b (nE (AK c a rfl (Au (AJ 1) (AJ 2))))) (AR (A9 (nN (Eo (D2 (D0 (C5 a) (AJ 3) (BI FE rfl d ABN (BZ (AJ 1)))) (Dy (D0 (Ob a) (AU (AJ 1) (AJ 3)) (AJ 2)))))) (AR (DF (i:=1) PySem.F.slot_list_insert PySem.F.type_list_insert Zq (Au (AJ 3) (AJ 2)))) Aw)))) (AR (AW (AJ 1)))))
theorem Lh:DZ ["stretches","steps","begin","held","end","first","last"] ["stretches"] (A0 GW):=DN
theorem UM (F:VB K "steps_of" "steps_of" GW f U):D8 P w K Z Y NE (n+1) f U ["stretches"] (CS K 1 Hh):=by
 have a:=Lh.nd;refine F.ok Lh (λvs H Q E h=> ?_) (λb A outer s H vs Q E c h=> ?_)
 .obtain ⟨T,M,xs,d,_,_,r,hl,_⟩:=h;rw[r.length,hl] <;> rfl
 obtain⟨T,M,xs,d,va,_,r,hl,hF,hQ⟩:=h;have hu:=iS c;obtain⟨x,ys,m,rfl,hx,hz,e,hq⟩:=VA hF;cases r with
 | cons r g=> cases g;refine⟨_,(Bp (Fi (i:=1) a rfl (Or.inl rfl) iB) (Bp (WK AAU rfl (dA (pv 0)) (N7 rfl (Dv (Ek (i:=2) a rfl (Or.inl rfl)) (Dv (Ek (i:=3) a rfl (Or.inl rfl)) (Dv (Ek (i:=4) a rfl (Or.inl rfl)) J1)))) (Bp (Fi (i:=5) a rfl (Or.inl rfl) (N6 (Bx (pv 2) (Bx (B3 WF BK (pv 3)) ED)))) (Bp (X4 hu (pv 1) (pv 5) (B3 HL (UR hu (pv 1) (pv 5) BK ⟨rfl,rfl,rfl,rfl⟩) BK) rfl) (El (X3 (Mh Xv (pv 4) cy (CP _)) (Bp (Fi (i:=6) a rfl (Or.inl rfl) (N6 (Bx (pv 4) (Bx BK ED)))) (El (X4 hu (pv 1) (pv 6) (B3 WF (UR hu (pv 1) (pv 6) BK ⟨rfl,rfl,rfl,rfl⟩) BK) rfl))) Mf))))) (El (N9 (pv 1))))), ?_⟩;exact Wj va r hx hz e λp j ex k hp=>hQ _ (.dct m) T j (YK va ex) (iQ va k hp) hq
theorem ZR (F:Z1 K "levels" OJ f U)(d:bX P w K Z Y n)(e:Vo P w K Z Y n)(g:Z "list" =none):Z2 P w K Z Y n f U ["stretches","steps","told","count","moment","side"] 1 G7:=by
 have b:(["moment","side"] :km Str).Nodup:=by decide +kernel
 exact Dk F DN rfl λ_ _ _ _ _ _ c a=>(AM (Cm 1 a (AK e c rfl (BZ (AJ 0)))) (AM (Ha (i:=2) a rfl (Or.inl rfl) (Bs HZ)) (AM (Cm 3 a AH) (AM (CB AAU rfl (DM (AK d c rfl (BZ (DW (Ck rfl (DM (DW (dn c rfl g boot_list (BZ (AJ 1))))) (Bq (own:=2) (ix:= []) (N:= ["moment","side" ]) rfl rfl rfl rfl rfl rfl (λ_ _ _ _ _ _=>(Fs (n:=2) rfl (A6 (GC 0 b) (A6 (GC 1 b) EJ)))) (λ_ _ _ _ _ _=>B9) (λ_ _ _ _ _ _=>(AJ 0)))))))) (FN 4 a) (AR (CB AAU rfl (DM (Ae (Au AH AH))) (FN 5 a) (AR (A9 (nO c (AJ 4) (AJ 5) (AJ 1)) (AM (d4 (i:=3) a rfl (Or.inl rfl) (iT c (AJ 1) (AJ 4) (AJ 5) (λ_ _=>rfl)) nK) (AR (DF (i:=2) ABa ABb CJ (BZ (Ae (EZ (AJ 4) (AJ 5) (AJ 3))))))) Aw))))) (AR (AW (AJ 2)))))))
theorem V7 (F:Z1 K "counted" LH f U)(b:bW P w K Z Y n)(c:Z "tuple" =none):Z2 P w K Z Y n f U ["stretches","n","told","begin","moment","side","count"] 2 Es:=Dk F DN rfl λ_ _ _ _ _ _ d a=>(AM (Ha (i:=2) a rfl (Or.inl rfl) (Bs HZ)) (AM (Cm 3 a BP) (AM (CB AAU rfl (DM (AK b d rfl (BZ (AJ 0)))) (EG (n:=3) rfl (Ap (FN 4 a) (Ap (FN 5 a) (Ap (FN 6 a) DD)))) (AR (A9 (Eo (Fu (D0 GZ (AJ 3) BP) (EK (D0 rB (AJ 6) (AJ 1))))) (AR (Cm 3 a (Ae (Au (AJ 4) (Aa Df AH (AJ 5)))))) (AR (A9 (Eo (Fu (D0 Hu (AJ 3) BP) (EK (D0 Fe (AJ 6) (AJ 1))))) (AM (DF (i:=2) ABa ABb CJ (BZ (Ae (EZ (AU (AJ 3) AH) (AU (AJ 3) AH) (AJ 4))))) (AR (Cm 3 a BP))) Aw))))) (AM (A9 (D0 Hu (AJ 3) BP) (AR (DF (i:=2) ABa ABb CJ (BZ (Ae (EZ (AU (AJ 3) AH) (AU (AJ 3) AH) BP))))) Aw) (AR (AW (BF Bi rfl c AAg (BZ (AJ 2)))))))))
theorem UO (F:Z1 K "told_set" JJ f U)(a:Yz P w K Z Y n):Z2 P w K Z Y n f U ["stretches"] 1 E2:=Dk F DN rfl λ_ _ _ _ _ _ b _=>(AR (AW (AK a b rfl (Au (AJ 0) AH))))
theorem ZX (F:Z1 K "use_of" OP f U)(a:Nk P w K Z Y n):Z2 P w K Z Y n f U ["gate","m","late"] 3 Du:=Dk F DN rfl λ_ _ _ _ _ _ b _=>(AR (AW (Ae (EZ (AJ 1) AH (AK a b rfl (Au (AK a b rfl (Au (AJ 1) (AJ 2))) (AU (AJ 0) AH)))))))
theorem N3 (F:Z1 K "bad_at_gate" Fp f U)(e:RO P w K Z Y n)(d:RQ P w K Z Y n)(g:Vl P w K Z Y n)(h:bY P w K Z Y n)(j:Vp P w K Z Y n)(k:bq P w K Z Y n)(b:Kc K Z "ONCE" (.tup [(.int 1),(.int 1)])):Z2 P w K Z Y n f U ["one","word","now","gate","moments","side","moved","at","moment","rate","told","plan","bounds","begin","held","end","low","in_it","high","rows"] 6 DS:=Dk F DN rfl λ_ _ _ _ _ _ c a=>(AM (Of (AJ 0) (EG (n:=2) rfl (Ap (FN 11 a) (Ap (FN 12 a) DD)))) (AM (Cm 6 a (AK h c rfl (EZ (AJ 11) (Ae (Au (AJ 1) (OX b rfl))) (AJ 2)))) (AM (A9 (D0 GZ (AJ 6) BP) (AR (AW BP)) Aw) (AM (Cm 7 a (Li (D0 (C5 c) (AJ 5) AH) (CA AH) AH)) (AM (Cm 8 a (AU (AU (AJ 11) (AJ 7)) AH)) (AM (Cm 9 a (AK d c rfl (Au (AU (AU (AJ 6) (AJ 7)) AH) (AJ 8)))) (AM (Of (AK k c rfl (EZ (AJ 3) (AJ 8) (AU (AJ 12) AH))) (EG (n:=3) rfl (Ap (FN 13 a) (Ap (FN 14 a) (Ap (FN 15 a) DD))))) (AM (Ha (i:=10) a rfl (Or.inl rfl) (Bs HZ)) (AM (CB AAU rfl (DM (AJ 4)) (EG (n:=3) rfl (Ap (FN 16 a) (Ap (FN 17 a) (Ap (FN 18 a) DD)))) (AM (Ha (i:=19) a rfl (Or.inl rfl) (Bs (BZ (Ae (Au (Ae (Au (AK d c rfl (Au (AJ 15) (AJ 16))) (AJ 9))) AH))))) (AM (A9 (D0 Hu (AJ 18) BP) (AR (DF (i:=19) ABa ABb CJ (BZ (Ae (Au (Ae (Au (AK d c rfl (Au (AJ 18) (AJ 13))) (AK g c rfl (BZ (AJ 9))))) AH))))) Aw) (AR (Wb 19 (ir (i:=10) a rfl (Or.inl rfl) (AK e c rfl (Au (AJ 19) AH)))))))) (AR (AW (AK j c rfl (BZ (AJ 10))))))))))))))
theorem ly (F:Z1 K "law" QP f U)(d:Ng P w K Z Y n)(e:PN P w K Z Y n)(c:B7 P w K Z Y n)(g:K1 P w K Z Y n)(h:PP P w K Z Y n)(i:Cz P w K Z Y n)(j:Vi P w K Z Y n)(k:Te P w K Z Y n)(l:PQ P w K Z Y n)(o:HG P w K Z Y n)(p:C0 P w K Z Y n)(r:Tg P w K Z Y n)(s:RN P w K Z Y n)(t:Ni P w K Z Y n)(u:PR P w K Z Y n)(v:Th P w K Z Y n)(x:PU P w K Z Y n)(y:Z "len" =none)(z:Z "list" =none)(A:Z "min" =none)(B:Z "range" =none):Z2 P w K Z Y n f U ["_law_script","_law_k","_law_tape_here","_law_plan_here","_law_one","_law_now_here","_law_gate","_law_hours","_law_word_here","_law_side","_law_told","_law_amount","_law_shape","_law_due"] 1 Eu:=Dk F DN rfl λ_ _ _ _ _ _ a b=>(AM (CB AAU rfl (YF rfl B (BZ (Aa Ah AH (BI (nC rfl) rfl A boot_min (Au AH (BI FE rfl y ABN (BZ (AJ 0)))))))) (FN 1 b) (AM (Cm 2 b (AK r a rfl (Au (AJ 0) (AJ 1)))) (AM (Cm 3 b (AK k a rfl (BZ (AJ 2)))) (AM (Cm 4 b (Ae (Au (AJ 3) (AK e a rfl (BZ (AJ 2)))))) (AM (Cm 5 b (AK j a rfl (Au (AJ 2) (AJ 3)))) (AM (Cm 6 b (Ae (EZ Bj (AK o a rfl (BZ (AJ 2))) (Aa Ah AH (AK c a rfl (Au (AJ 2) AH)))))) (AM (Cm 7 b (AK s a rfl (BZ (AJ 2)))) (AM (Cm 8 b (AK v a rfl (BZ (AJ 2)))) (AM (Cm 9 b (AK c a rfl (Au (AJ 2) AH))) (AM (Cm 10 b (AK x a rfl (Ar (AJ 4) (Ar (AJ 8) (Ar (AJ 5) (EZ (AJ 6) (DW (iV rfl z boot_list (BZ (AJ 7)))) (AJ 9))))))) (AR (A9 (Cf (BC (AK g a rfl (EZ (AJ 3) (AJ 8) (AJ 5))))) (AR (A9 (D0 Hu (AJ 10) BP) (AR (AW Eh)) Aw)) (AR (A9 (Cf (BC (AK h a rfl (BZ (AJ 10))))) (AR (AW Eh)) (AR (CB AAU rfl (DM (AK d a rfl (Ar (AJ 2) (EZ (AJ 10) AH (Ae (Au AH AH)))))) (FN 11 b) (AM (Cm 12 b (AK l a rfl (Ar (AJ 3) (EZ (AJ 8) (AJ 11) (AJ 5))))) (AR (A9 (Cf (BC (AK i a rfl (Au (AJ 11) (Ae (Au AH AH)))))) (AM (Cm 13 b (AK t a rfl (EZ (AU (AU (AJ 12) (CA (AJ 9))) AH) (AK p a rfl (Au (AU (AJ 6) AH) (AU (AU (AJ 4) AH) AH))) (AJ 7)))) (AR (A9 (D0 (Ob a) (AJ 13) (AK u a rfl (Au (AJ 10) (AJ 11)))) (AR (AW Eh)) Aw))) Aw))))))))))))))))))) (AR (AW Eh)))
end
def kh {P:fm}{w:fe}{K:AAB}{Z:Str->kd kj}{Y:Wf}{k:Nat}{x:Str}{st:Stmt}{a:km Str}{sp:Sp}{f:ke}{U:FuncData}(F:VB K x x st f U)(b:Binds K U a [])(m:Z x=some (.ref f))(G:D8 P w K Z Y NE k f U a sp):Has P w K Z Y k x a sp:=⟨f,U,m,F.kp,b,G⟩
def pw {a:km kj}(hl:a.length=1):∃b:kj,a= [b] :=by match a,hl with | [b],_=>exact⟨_,rfl⟩
def pz {a:km kj}(hl:a.length=2):∃b c:kj,a= [b,c] :=by match a,hl with | [b,c],_=>exact⟨_,_,rfl⟩
def qA {a:km kj}(hl:a.length=3):∃b c d:kj,a= [b,c,d] :=by match a,hl with | [b,c,d],_=>exact⟨_,_,_,rfl⟩
def qB {a:km kj}(hl:a.length=4):∃b c d e:kj,a= [b,c,d,e] :=by match a,hl with | [b,c,d,e],_=>exact⟨_,_,_,_,rfl⟩
def qC {a:km kj}(hl:a.length=5):∃b c d e f:kj,a= [b,c,d,e,f] :=by match a,hl with | [b,c,d,e,f],_=>exact⟨_,_,_,_,_,rfl⟩
def qD {a:km kj}(hl:a.length=6):∃b c d e f g:kj,a= [b,c,d,e,f,g] :=by match a,hl with | [b,c,d,e,f,g],_=>exact⟨_,_,_,_,_,_,rfl⟩
def DG (K:AAB)(x:Str)(st:Stmt)(f:ke):Prop:=PySem.W.nsIn K mainGlobals x=some (some (.ref f))/\∃U,VB K x x st f U
def wX {K:AAB}{x:Str}{st:Stmt}{f:ke}{g:kj}{h i:kd ke}{d:Array (kd kj)}{kV e j b ct:kj}(a:PySem.W.nsIn K mainGlobals x=some (some (.ref f)))(l:K.lookup f=some ⟨g,h, .func (PySem.W.fnOf x x (EI st) (CO st) (A0 st) .none kV e j i b ct),d⟩)(c:PySem.W.codeIn K b x=true)(k:PySem.W.keepIn K (.ref f)=true):DG K x st f:=⟨a,_,bQ l c k⟩
def uD {P:fm}{w:fe}{K:AAB}{h Y:Wf}{Z:Str->kd kj}{k:Nat}{x:Str}{st:Stmt}{c:km Str}{sp:Sp}{f:ke}(A:DG K x st f)(X:K.In h)(G:h.Ns mainGlobals Z)(g:∀U,VB K x x st f U->Binds K U c [] ->Z x=some (.ref f)->D8 P w K Z Y NE k f U c sp)(b:∀U,VB K x x st f U->Binds K U c [] :=by exact λ_ F=>F.binds λ_ _ _ _ _ _ d hl=>by first | (obtain⟨_,rfl⟩:=pw hl;rfl)|(obtain⟨_,_,rfl⟩:=pz hl;rfl)|(obtain⟨_,_,_,rfl⟩:=qA hl;rfl)|(obtain⟨_,_,_,_,rfl⟩:=qB hl;rfl)|(obtain⟨_,_,_,_,_,rfl⟩:=qC hl;rfl)|(obtain⟨_,_,_,_,_,_,rfl⟩:=qD hl;rfl)):Has P w K Z Y k x c sp:=
 let ⟨a,U,F⟩:=A;kh F (b U F) (ACK X G a) (g U F (b U F) (ACK X G a))
def sZ (K:AAB)(x:Str)(st:Stmt)(f:ke)(d:Int):Prop:=PySem.W.nsIn K mainGlobals x=some (some (.ref f))/\∃U,Q2 K x x st f U d
def pH {P:fm}{w:fe}{K:AAB}{h Y:Wf}{Z:Str->kd kj}{k:Nat}{x:Str}{st:Stmt}{c:km Str}{d:Int}{sp:Sp}{f:ke}(A:sZ K x st f d)(X:K.In h)(G:h.Ns mainGlobals Z)(b:∀U,Q2 K x x st f U d->Binds K U c [])(g:∀U,Q2 K x x st f U d->D8 P w K Z Y NE k f U c sp):Has P w K Z Y k x c sp:=
 let ⟨a,U,F⟩:=A;⟨f,U,ACK X G a,F.kp,b U F,g U F⟩
def all_mk {l:PySem.W.OpenLaw}{w:fe}{K:AAB}{h:Wf}{Z:Str->kd kj}{fa f1 f2 f3 f4 f5 f6 f7 f8 f9 O P Q R S T f16 f17 f18 f19 f20 f21 f22 f23 f24 f25 f26 f27 f28 f29 f30 f31 f32 f33 f34 f35 f36 f37 f38 f39 f40 f41 f42 f43 f44 f45 f46 f47 f48 f49 f50 f51 f52 f53 f54 f55 f56 f57 f58 f59 f60 f61 f62 f63 f64 f65 f66:ke}(X:K.In h)(G:h.Ns mainGlobals Z)(hfa:Z "law" =some (.ref fa))(a1:DG K "_law_draw" Fb f1)(a2:DG K "_law_part" HR f2)(a3:DG K "_law_off" JB f3)(a4:DG K "_law_product" FB f4)(a5:DG K "_law_ratio" GS f5)(a6:DG K "_law_sum" JC f6)(a7:DG K "_law_amounts" E9 f7)(a8:DG K "_law_bounds" Fj f8)(a9:DG K "_law_less" HQ f9)(a10:DG K "_law_has_inner" EF O)(a11:DG K "_law_is_whole" EX P)(a12:DG K "_law_is_part" FA Q)(a13:DG K "_law_is_set" Fk R)(a14:DG K "_law_now" JA S)(a15:DG K "_law_place" GR T)(a16:DG K "_law_span" HU f16)(a17:DG K "_law_plan" HS f17)(a18:DG K "_law_spot" HV f18)(a19:DG K "_law_shaped" Fn f19)(a20:DG K "_law_tape" Fc f20)(a21:DG K "_law_times" GT f21)(a22:DG K "_law_use_has" FC f22)(a23:DG K "_law_within" Fo f23)(a24:DG K "_law_word" HW f24)(a25:DG K "summed" ON f25)(a26:DG K "crossed" LI f26)(a27:DG K "is_never" JE f27)(a28:DG K "before" OG f28)(a29:DG K "turn_of" LM f29)(a30:DG K "is_tighter" GV f30)(a31:DG K "tightest" JI f31)(a32:DG K "fault_in" JD f32)(a33:DG K "common" OH f33)(a34:DG K "shared_bottom" EY f34)(a35:DG K "plane_of" JG f35)(a36:DG K "part" WT f36)(a37:DG K "range_in" JH f37)(a38:sZ K "without" Ht f38 2)(a39:DG K "amounts_in" GU f39)(a40:DG K "minus" R5 f40)(a41:DG K "negative" JF f41)(a42:DG K "over" WS f42)(a43:DG K "plus" WU f43)(a44:DG K "times" R6 f44)(a45:DG K "spot_between" FD f45)(a46:DG K "spot_at" LL f46)(a47:DG K "corner_at" HX f47)(a48:DG K "greater" LJ f48)(a49:DG K "cut_at" OI f49)(a50:DG K "put_off" LK f50)(a51:DG K "whole" R7 f51)(a52:DG K "led_round" HY f52)(a53:DG K "slowed" OM f53)(a54:DG K "tupled" OO f54)(a55:DG K "later" R4 f55)(a56:DG K "waited" OQ f56)(a57:DG K "shaped" OL f57)(a58:DG K "count_below" Fq f58)(a59:DG K "rising" OK f59)(a60:DG K "steps_of" GW f60)(a61:DG K "levels" OJ f61)(a62:DG K "counted" LH f62)(a63:DG K "told_set" JJ f63)(a64:DG K "use_of" OP f64)(a65:DG K "bad_at_gate" Fp f65)(H:DG K "law" QP f66)(r:PySem.W.nsIn K mainGlobals "abs" =some none)(t:PySem.W.nsIn K mainGlobals "any" =some none)(y_bool:PySem.W.nsIn K mainGlobals "bool" =some none)(b:PySem.W.nsIn K mainGlobals "enumerate" =some none)(u:PySem.W.nsIn K mainGlobals "int" =some none)(a:PySem.W.nsIn K mainGlobals "isinstance" =some none)(x:PySem.W.nsIn K mainGlobals "len" =some none)(k:PySem.W.nsIn K mainGlobals "list" =some none)(y:PySem.W.nsIn K mainGlobals "max" =some none)(z:PySem.W.nsIn K mainGlobals "min" =some none)(i:PySem.W.nsIn K mainGlobals "range" =some none)(A:PySem.W.nsIn K mainGlobals "set" =some none)(j:PySem.W.nsIn K mainGlobals "tuple" =some none)(B:PySem.W.nsIn K mainGlobals "zip" =some none){qNOUGHT_2:Tok}{qNOUGHT_3:Tok}{qNOUGHT_1:ke}{qNOUGHT_1n:Nat}{qNOUGHT_1d:kd ke}{qNOUGHT_1s:Array (kd kj)}{qONCE_5:Tok}{qONCE_6:Tok}{qONCE_4:ke}{qONCE_4n:Nat}{qONCE_4d:kd ke}{qONCE_4s:Array (kd kj)}{d_WAYS:ke}{e_WAYS:Array DictEntry}{n_WAYS:Nat}{wWAYS0_8:Tok}{wWAYS0_9:Tok}{wWAYS0_10:Tok}{wWAYS0_7:ke}{wWAYS0_7n:Nat}{wWAYS0_7d:kd ke}{wWAYS0_7s:Array (kd kj)}{wWAYS1_12:Tok}{wWAYS1_13:Tok}{wWAYS1_14:Tok}{wWAYS1_11:ke}{wWAYS1_11n:Nat}{wWAYS1_11d:kd ke}{wWAYS1_11s:Array (kd kj)}{wWAYS2_16:Tok}{wWAYS2_17:Tok}{wWAYS2_18:Tok}{wWAYS2_15:ke}{wWAYS2_15n:Nat}{wWAYS2_15d:kd ke}{wWAYS2_15s:Array (kd kj)}{wWAYS3_20:Tok}{wWAYS3_21:Tok}{wWAYS3_22:Tok}{wWAYS3_19:ke}{wWAYS3_19n:Nat}{wWAYS3_19d:kd ke}{wWAYS3_19s:Array (kd kj)}{wWAYS4_24:Tok}{wWAYS4_25:Tok}{wWAYS4_26:Tok}{wWAYS4_23:ke}{wWAYS4_23n:Nat}{wWAYS4_23d:kd ke}{wWAYS4_23s:Array (kd kj)}{wWAYS5_28:Tok}{wWAYS5_29:Tok}{wWAYS5_30:Tok}{wWAYS5_27:ke}{wWAYS5_27n:Nat}{wWAYS5_27d:kd ke}{wWAYS5_27s:Array (kd kj)}(a_ONCE:PySem.W.nsIn K mainGlobals "ONCE" =some (some (.ref qONCE_4)))(a_NOUGHT:PySem.W.nsIn K mainGlobals "NOUGHT" =some (some (.ref qNOUGHT_1)))(h_qNOUGHT_1:K.lookup qNOUGHT_1=some ⟨.type "tuple",qNOUGHT_1d, .seq (List.toArray [(.int 0 qNOUGHT_2),(.int 1 qNOUGHT_3)]) qNOUGHT_1n,qNOUGHT_1s⟩)(h_qONCE_4:K.lookup qONCE_4=some ⟨.type "tuple",qONCE_4d, .seq (List.toArray [(.int 1 qONCE_5),(.int 1 qONCE_6)]) qONCE_4n,qONCE_4s⟩)(a_WAYS:PySem.W.nsIn K mainGlobals "WAYS" =some (some (.ref d_WAYS)))(l_WAYS:K.lookup d_WAYS=some ⟨.type "dict",none, .dict e_WAYS n_WAYS, #[]⟩)(kk_WAYS:PySem.W.KeysLit w.params e_WAYS.toList)(n_WAYS0:PySem.W.nsIn K d_WAYS "east" =some (some (.ref wWAYS0_7)))(h_wWAYS0_7:K.lookup wWAYS0_7=some ⟨.type "tuple",wWAYS0_7d, .seq (List.toArray [(.int 1 wWAYS0_8),(.int 0 wWAYS0_9),(.int 0 wWAYS0_10)]) wWAYS0_7n,wWAYS0_7s⟩)(n_WAYS1:PySem.W.nsIn K d_WAYS "west" =some (some (.ref wWAYS1_11)))(h_wWAYS1_11:K.lookup wWAYS1_11=some ⟨.type "tuple",wWAYS1_11d, .seq (List.toArray [(.int (-1) wWAYS1_12),(.int 0 wWAYS1_13),(.int 0 wWAYS1_14)]) wWAYS1_11n,wWAYS1_11s⟩)(n_WAYS2:PySem.W.nsIn K d_WAYS "north" =some (some (.ref wWAYS2_15)))(h_wWAYS2_15:K.lookup wWAYS2_15=some ⟨.type "tuple",wWAYS2_15d, .seq (List.toArray [(.int 0 wWAYS2_16),(.int 1 wWAYS2_17),(.int 0 wWAYS2_18)]) wWAYS2_15n,wWAYS2_15s⟩)(n_WAYS3:PySem.W.nsIn K d_WAYS "south" =some (some (.ref wWAYS3_19)))(h_wWAYS3_19:K.lookup wWAYS3_19=some ⟨.type "tuple",wWAYS3_19d, .seq (List.toArray [(.int 0 wWAYS3_20),(.int (-1) wWAYS3_21),(.int 0 wWAYS3_22)]) wWAYS3_19n,wWAYS3_19s⟩)(n_WAYS4:PySem.W.nsIn K d_WAYS "up" =some (some (.ref wWAYS4_23)))(h_wWAYS4_23:K.lookup wWAYS4_23=some ⟨.type "tuple",wWAYS4_23d, .seq (List.toArray [(.int 0 wWAYS4_24),(.int 0 wWAYS4_25),(.int 1 wWAYS4_26)]) wWAYS4_23n,wWAYS4_23s⟩)(n_WAYS5:PySem.W.nsIn K d_WAYS "down" =some (some (.ref wWAYS5_27)))(h_wWAYS5_27:K.lookup wWAYS5_27=some ⟨.type "tuple",wWAYS5_27d, .seq (List.toArray [(.int 0 wWAYS5_28),(.int 0 wWAYS5_29),(.int (-1) wWAYS5_30)]) wWAYS5_27n,wWAYS5_27s⟩):∃U:FuncData,(∀(s:ki) (v:kj),BindsTo s U ⟨[v], []⟩ [("_law_script",v)])/\∀Y:Wf,K.In Y->Y.Ns mainGlobals Z->D8 l.prog w K Z Y NE 10 fa U ["_law_script"] (CS K 1 Eu):=by have e:=hfa.symm.trans (ACK X G H.1);cases e;obtain⟨aL,fdL,FL⟩:=H;obtain⟨⟨oc,od,kV,doc,pm,an,cdv,ct,osl,eL,lL,cL⟩,kL⟩:=FL;subst eL;have FL:=bQ lL cL kL;have Gk:=AAy X G r;have e8:=AAy X G t;have Wz:=AAy X G y_bool;have Dm:=AAy X G b;have I:=AAy X G u;have BW:=AAy X G a;have f:=AAy X G x;have LV:=AAy X G k;have fA:=AAy X G y;have fB:=AAy X G z;have D:=AAy X G i;have fC:=AAy X G A;have c:=AAy X G j;have M:=AAy X G B;have g:Kc K Z "NOUGHT" (.tup [(.int 0),(.int 1)]):=jV (ACK X G a_NOUGHT) (Fa h_qNOUGHT_1 (.cons BY (.cons BY .nil)));have d:Kc K Z "ONCE" (.tup [(.int 1),(.int 1)]):=jV (ACK X G a_ONCE) (Fa h_qONCE_4 (.cons BY (.cons BY .nil)));have m:Kt K w.params Z "WAYS" Ep:=pq (ACK X G a_WAYS) l_WAYS kk_WAYS (F5 n_WAYS0 (Fa h_wWAYS0_7 (.cons BY (.cons BY (.cons BY .nil)))) (F5 n_WAYS1 (Fa h_wWAYS1_11 (.cons BY (.cons BY (.cons BY .nil)))) (F5 n_WAYS2 (Fa h_wWAYS2_15 (.cons BY (.cons BY (.cons BY .nil)))) (F5 n_WAYS3 (Fa h_wWAYS3_19 (.cons BY (.cons BY (.cons BY .nil)))) (F5 n_WAYS4 (Fa h_wWAYS4_23 (.cons BY (.cons BY (.cons BY .nil)))) (F5 n_WAYS5 (Fa h_wWAYS5_27 (.cons BY (.cons BY (.cons BY .nil)))) trivial))))));refine⟨PySem.W.fnOf "law" "law" (EI QP) (CO QP) (A0 QP) .none kV doc pm an cdv ct,λs v=> .of_eq rfl,λY _ _=> ?_⟩;have hs:= @uD l.prog w K h Y Z;have H1:=hs a1 X G λ_ F _ _=>Rg (n:=0) F;have o:=hs a2 X G λ_ F _ _=>Ri (n:=0) F Gk I;have N:=hs a3 X G λ_ F _ _=>UF (n:=1) F (BS o);have H4:=hs a4 X G λ_ F _ _=>MJ (n:=1) F (BS o);have H5:=hs a5 X G λ_ F _ _=>Pa (n:=1) F (BS o);have p:=hs a6 X G λ_ F _ _=>UG (n:=1) F (BS o);have H7:=hs a7 X G λ_ F _ _=>MH (n:=2) F (BS H1) (BS N) (BS o) (BS H4) (BS H5) (BS p) D;have H8:=hs a8 X G λ_ F _ _=>Nz (n:=1) F (BS H1);have C:=hs a9 X G λ_ F _ _=>Rh (n:=0) F;have yj:=hs a10 X G λ_ F _ _=>Jx (n:=1) F (BS C) e8;have wM:=hs a11 X G λ_ F _ _=>LB (n:=0) F Wz I BW;have yk:=hs a12 X G λ_ F _ _=>MI (n:=1) F (BS wM) (BS o) BW f c;have ym:=hs a13 X G λ_ F _ _=>N0 (n:=2) F (BS yk) (BS wM) (BS C) Dm I BW f c;have yn:=hs a14 X G λ_ F _ _=>UE (n:=2) F (BS H1) (BS N) (BS H5) (BS p) f;have yo:=hs a15 X G λ_ F _ _=>PZ (n:=1) F (BS H1) (BS o);have tE:=hs a16 X G λ_ F _ _=>Rk (n:=1) F (BS H1) (BS o);have yp:=hs a17 X G λ_ F _ _=>Rj (n:=2) F (BS H1) (BS yo) (BS tE) (BS p) f c;have yq:=hs a18 X G λ_ F _ _=>Rl (n:=2) F (BS C) (BS N) (BS H4) (BS H5) (BS p) D c M;have yr:=hs a19 X G λ_ F _ _=>N1 (n:=3) F (BS C) (BS N) (BS H4) (BS yq) (BS p) I f c M;have yt:=hs a20 X G λ_ F _ _=>Rm (n:=0) F Gk I f;have yu:=hs a21 X G λ_ F _ _=>Pb (n:=2) F (BS H1) (BS o) (BS tE) (BS p) D;have yw:=hs a22 X G λ_ F _ _=>MK (n:=2) F (BS C) (BS p);have yx:=hs a23 X G λ_ F _ _=>N2 (n:=1) F (BS C);have yy:=hs a24 X G λ_ F _ _=>Rn (n:=1) F (BS H1);have yz:=hs a25 X G λ_ F _ _=>ZV (n:=0) F fA c M;have wN:=hs a26 X G λ_ F _ _=>V8 (n:=1) F (BS yz);have y6:=hs a27 X G λ_ F _ _=>UI (n:=0) F;have E:=hs a28 X G λ_ F _ _=>ZO (n:=0) F;have wO:=hs a29 X G λ_ F _ _=>WC (n:=0) F;have y7:=hs a30 X G λ_ F _ _=>Pe (n:=1) F (BS E) (BS wO);have wP:=hs a31 X G λ_ F _ _=>UN (n:=2) F (BS y7);have y8:=hs a32 X G λ_ F _ _=>UH (n:=3) F (BS wN) (BS y6) (BS wP);have wQ:=hs a33 X G λ_ F _ _=>ZP (n:=0) F;have y9:=hs a34 X G λ_ F _ _=>LC (n:=1) F (BS wQ);have zE:=hs a35 X G λ_ F _ _=>UK (n:=2) F (BS y9) c;have J:=hs a36 X G λ_ F _ _=>g6 (n:=1) F (BS wQ) Gk;have zG:=hs a37 X G λ_ F _ _=>UL (n:=3) F (BS J) (BS wP) (BS wO);have zH:= @pH l.prog w K h Y Z _ _ _ _ _ _ _ a38 X G (λ_ F=>F.bindsF3 λ_ _ _ _ _ _ _ _ _ _=>⟨_,rfl,λ_=>rfl⟩) λ_ F=>WD (n:=2) F (BS wN) f fC;have zI:=hs a39 X G λ_ F _ _=>Pd (n:=4) F (BS y8) (BS zE) (BS zG) (BS zH) Dm f D g d;have tF:=hs a40 X G λ_ F _ _=>ca (n:=2) F (BS J);have zJ:=hs a41 X G λ_ F _ _=>UJ (n:=0) F;have zK:=hs a42 X G λ_ F _ _=>gz (n:=2) F (BS J);have L:=hs a43 X G λ_ F _ _=>g9 (n:=2) F (BS J);have tG:=hs a44 X G λ_ F _ _=>cf (n:=2) F (BS J);have zL:=hs a45 X G λ_ F _ _=>ML (n:=3) F (BS tF) (BS zK) (BS L) (BS tG) c M;have zM:=hs a46 X G λ_ F _ _=>WB (n:=4) F (BS E) (BS zL) f D;have zN:=hs a47 X G λ_ F _ _=>Ro (n:=5) F (BS zM);have zO:=hs a48 X G λ_ F _ _=>V9 (n:=1) F (BS E);have zP:=hs a49 X G λ_ F _ _=>ZQ (n:=6) F (BS E) (BS zN) (BS zO) c;have zQ:=hs a50 X G λ_ F _ _=>WA (n:=3) F (BS L) c;have wR:=hs a51 X G λ_ F _ _=>cg (n:=0) F;have zR:=hs a52 X G λ_ F _ _=>Rp (n:=4) F (BS zQ) (BS tG) (BS wR) f;have zS:=hs a53 X G λ_ F _ _=>ZU (n:=3) F (BS tF) (BS L) (BS tG) (BS wR) c;have zT:=hs a54 X G λ_ F _ _=>ZW (n:=0) F c;have zU:=hs a55 X G λ_ F _ _=>cZ (n:=3) F (BS L) c;have zV:=hs a56 X G λ_ F _ _=>ZY (n:=4) F (BS zU);have zW:=hs a57 X G λ_ F _ _=>ZT (n:=7) F (BS E) (BS zP) (BS zR) (BS zS) (BS zT) (BS zV) m;have zX:=hs a58 X G λ_ F _ _=>N4 (n:=1) F (BS E) f;have zY:=hs a59 X G λ_ F _ _=>ZS (n:=2) F (BS zX) f;have zZ:=hs a60 X G λ_ F _ _=>UM (n:=0) F;have za:=hs a61 X G λ_ F _ _=>ZR (n:=3) F (BS zY) (BS zZ) LV;have zb:=hs a62 X G λ_ F _ _=>V7 (n:=4) F (BS za) c;have zc:=hs a63 X G λ_ F _ _=>UO (n:=5) F (BS zb);have ze:=hs a64 X G λ_ F _ _=>ZX (n:=3) F (BS L);have zf:=hs a65 X G λ_ F _ _=>N3 (n:=8) F (BS zI) (BS tF) (BS zJ) (BS zW) (BS zc) (BS ze) d;exact ly (n:=9) FL (BS H7) (BS H8) (BS H1) (BS yj) (BS ym) (BS C) (BS yn) (BS yp) (BS yr) (BS tE) (BS p) (BS yt) (BS yu) (BS yw) (BS yx) (BS yy) (BS zf) f LV fB D
def walk {l:PySem.W.OpenLaw}{q:fm}{loose:km Str}{XP:(Str->kd kj)->Wf->Prop}{YP:fe->Wf->Prop}{d:DefRec}{K:Params->AAB}(c:l.most=some 63)(e:d.params.defaults= [])(g:∀(w:fe) (h:Wf),YP w h->(K w.params).In h)(F:∀(w:fe) (Z:Str->kd kj) (b:ke) (h:Wf),(K w.params).In h->h.Ns mainGlobals Z->Z d.name=some (.ref b)-> ∃U:FuncData,(∀(s:ki) (u:kj),BindsTo s U ⟨[u], []⟩ [("_law_script",u)])/\∀Y:Wf,(K w.params).In Y->Y.Ns mainGlobals Z->D8 l.prog w (K w.params) Z Y NE 10 b U ["_law_script"] (CS (K w.params) 1 Eu)):PySem.W.WalkO q loose XP YP l.row.toRowW d [] (λf vs=>PySem.call f vs):=
 L2.walk_of (n:=63) (k:=10) (x:="_law_script") (CX:=λ_=>NE) (sp:=λw=>CS (K w.params) 1 Eu) c (by decide) e ⟨rfl,by decide,by decide,rfl⟩ g F (λ_ _ a i hl _ j=>PL.law_sp j (cO i hl)) λ_ _ _ _ _ z=>z
def atKD {K:AAB}{x:String}{s:Stmt}{d:Int}(t:Nat)(b n:Nat)(m:String)(i c f:Nat)(a:PySem.W.nsIn K mainGlobals (Str.ofString x)=some (some (.ref f)):=by kernel_rfl)(l:K.lookup f=some (wc t x s m i c):=by kernel_rfl)(e:PySem.W.codeIn K (.ref c) (Str.ofString x)=true:=by kernel_rfl)(k:PySem.W.keepIn K (.ref f)=true:=by kernel_rfl)(g:K.lookup t=some ⟨.type "tuple",none, .seq #[.int d b] n, #[]⟩:=by kernel_rfl):sZ K (Str.ofString x) s f d:=⟨a,_,⟨⟨_,_,_,_,_,_,_,_,_,t,rfl,l,e,_,b,n,g,rfl⟩,k⟩⟩
def atK {K:AAB}{x:String}{s:Stmt}(m:String)(i c f:Nat)(a:PySem.W.nsIn K mainGlobals (Str.ofString x)=some (some (.ref f)):=by kernel_rfl)(l:K.lookup f=some (fO x s m i c):=by kernel_rfl)(d:PySem.W.codeIn K (.ref c) (Str.ofString x)=true:=by kernel_rfl)(k:PySem.W.keepIn K (.ref f)=true:=by kernel_rfl):DG K (Str.ofString x) s f:=wX a l d k
end K53
open PySem PySem.W PyProof.Rows
def K53.lg:LeftO K53.pwA K53.q ["WAYS"] (λs=>xlAt K53.q [] s&&recOk [] s) (λs=>K53.KA.map s.heap.get?) (λw=>(K53.KK w.params).map λp=>some p.2) 6000:=LeftO.of_split "special-get-raises" λw=>PL.map_pair (PL.map_in (PL.map_pair (PL.map5 (K53.l0f w) (K53.l1f w) (K53.l2f w) (K53.l3f w) (K53.l4f w)) (K53.l5f w))) (PL.map_in (PL.map_pair (PL.map5 (K53.l0t w) (K53.l1t w) (K53.l2t w) (K53.l3t w) (K53.l4t w)) (K53.l5t w)))
theorem PySem.Challenge.cw_skylanes_k53_at_gates_holds : PySem.Challenge.rw_skylanes_k53_at_gates.Holds := by
 refine ⟨K53.w1, ?_⟩
 refine PySem.W.holds_open (q:=K53.q) (loose:= ["WAYS"]) (Xt:=λs=>xlAt K53.q [] s&&recOk [] s) (XP:=XL K53.q []) (YP:=InK K53.KK) (N:=6000) K53.lg (InK.of (as:=K53.KA) λ_=>by kernel_rfl) InK.keeps (λs e=>xl_of s (Bool.and_eq_true_iff.mp e).1) XL.keeps (by rfl) (by rfl) (by rfl) (λs e=>recFacts_of (Bool.and_eq_true_iff.mp e).2) (by rfl) K53.w0 (by decide +kernel) ⟨rfl,rfl,rfl,rfl,rfl,by decide +kernel⟩ ?hw ?hc
 (case hw=>w_witness2)
 case hc=>
 refine K53.walk (l:=PySem.Challenge.rw_skylanes_k53_at_gates) (K:=K53.KK) rfl rfl (λw h Y=>Y) ?F
 intro w mg fa h KX G pR
 refine' K53.all_mk KX G pR (K53.atK K53.m0 609 300 301) (K53.atK K53.m0 609 307 308) (K53.atK K53.m0 609 328 329) (K53.atK K53.m0 609 335 336) (K53.atK K53.m0 609 342 343) (K53.atK K53.m0 609 321 322) (K53.atK K53.m0 609 448 449) (K53.atK K53.m0 609 370 371) (K53.atK K53.m0 609 314 315) (K53.atK K53.m0 609 406 407) (K53.atK K53.m0 609 427 428) (K53.atK K53.m0 609 434 435) (K53.atK K53.m0 609 420 421) (K53.atK K53.m0 609 382 383) (K53.atK K53.m0 609 349 350) (K53.atK K53.m0 609 356 357) (K53.atK K53.m0 609 363 364) (K53.atK K53.m0 609 375 376) (K53.atK K53.m0 609 387 388) (K53.atK K53.m0 609 293 294) (K53.atK K53.m0 609 401 402) (K53.atK K53.m0 609 394 395) (K53.atK K53.m0 609 441 442) (K53.atK K53.m0 609 413 414) (K53.atK K53.m1 344 140 141) (K53.atK K53.m1 344 147 148) (K53.atK K53.m1 344 160 161) (K53.atK K53.m2 187 69 70) (K53.atK K53.m1 344 167 168) (K53.atK K53.m1 344 174 175) (K53.atK K53.m1 344 181 182) (K53.atK K53.m1 344 188 189) (K53.atK K53.m2 187 20 21) (K53.atK K53.m2 187 83 84) (K53.atK K53.m1 344 135 136) (K53.atK K53.m2 187 27 28) (K53.atK K53.m1 344 195 196) (K53.atKD 149 367 0 K53.m1 344 153 154) (K53.atK K53.m3 575 279 280) (K53.atK K53.m2 187 48 49) (K53.atK K53.m4 480 238 239) (K53.atK K53.m2 187 62 63) (K53.atK K53.m2 187 41 42) (K53.atK K53.m2 187 55 56) (K53.atK K53.m5 437 205 206) (K53.atK K53.m5 437 212 213) (K53.atK K53.m5 437 219 220) (K53.atK K53.m2 187 76 77) (K53.atK K53.m6 495 267 268) (K53.atK K53.m5 437 229 230) (K53.atK K53.m2 187 34 35) (K53.atK K53.m6 495 262 263) (K53.atK K53.m6 495 257 258) (K53.atK K53.m5 437 200 201) (K53.atK K53.m5 437 224 225) (K53.atK K53.m6 495 252 253) (K53.atK K53.m6 495 274 275) (K53.atK K53.m2 187 90 91) (K53.atK K53.m2 187 97 98) (K53.atK K53.m7 292 104 105) (K53.atK K53.m7 292 109 110) (K53.atK K53.m7 292 116 117) (K53.atK K53.m7 292 123 124) (K53.atK K53.m8 333 130 131) (K53.atK K53.m3 575 286 287) (K53.atK K53.m0 609 455 456) (by kernel_rfl) (by kernel_rfl) (by kernel_rfl) (by kernel_rfl) (by kernel_rfl) (by kernel_rfl) (by kernel_rfl) (by kernel_rfl) (by kernel_rfl) (by kernel_rfl) (by kernel_rfl) (by kernel_rfl) (by kernel_rfl) (by kernel_rfl) ?a_ONCE ?a_NOUGHT ?h_qNOUGHT_1 ?h_qONCE_4 ?a_WAYS ?l_WAYS ?kk_WAYS ?n_WAYS0 ?h_wWAYS0_7 ?n_WAYS1 ?h_wWAYS1_11 ?n_WAYS2 ?h_wWAYS2_15 ?n_WAYS3 ?h_wWAYS3_19 ?n_WAYS4 ?h_wWAYS4_23 ?n_WAYS5 ?h_wWAYS5_27 (qNOUGHT_1:=231) (qNOUGHT_1n:=0) (qNOUGHT_1d:=none) (qNOUGHT_1s:= #[]) (qNOUGHT_2:=482) (qNOUGHT_3:=483) (qONCE_4:=232) (qONCE_4n:=0) (qONCE_4d:=none) (qONCE_4s:= #[]) (qONCE_5:=485) (qONCE_6:=486) (wWAYS0_7:=241) (wWAYS0_7n:=0) (wWAYS0_7d:=none) (wWAYS0_7s:= #[]) (wWAYS0_8:=498) (wWAYS0_9:=499) (wWAYS0_10:=500) (wWAYS1_11:=242) (wWAYS1_11n:=0) (wWAYS1_11d:=none) (wWAYS1_11s:= #[]) (wWAYS1_12:=503) (wWAYS1_13:=504) (wWAYS1_14:=505) (wWAYS2_15:=243) (wWAYS2_15n:=0) (wWAYS2_15d:=none) (wWAYS2_15s:= #[]) (wWAYS2_16:=507) (wWAYS2_17:=508) (wWAYS2_18:=509) (wWAYS3_19:=244) (wWAYS3_19n:=0) (wWAYS3_19d:=none) (wWAYS3_19s:= #[]) (wWAYS3_20:=511) (wWAYS3_21:=513) (wWAYS3_22:=514) (wWAYS4_23:=245) (wWAYS4_23n:=0) (wWAYS4_23d:=none) (wWAYS4_23s:= #[]) (wWAYS4_24:=516) (wWAYS4_25:=517) (wWAYS4_26:=518) (wWAYS5_27:=246) (wWAYS5_27n:=0) (wWAYS5_27d:=none) (wWAYS5_27s:= #[]) (wWAYS5_28:=520) (wWAYS5_29:=521) (wWAYS5_30:=523) (d_WAYS:=240) (n_WAYS:=6) (e_WAYS:= #[K53.eN w.params "east" 497 (.ref 241),K53.eN w.params "west" 501 (.ref 242),K53.eN w.params "north" 506 (.ref 243),K53.eN w.params "south" 510 (.ref 244),K53.eN w.params "up" 515 (.ref 245),K53.eN w.params "down" 519 (.ref 246)])
 (case a_ONCE=>kernel_rfl)
 (case a_NOUGHT=>kernel_rfl)
 (case h_qNOUGHT_1=>kernel_rfl)
 (case h_qONCE_4=>kernel_rfl)
 (case a_WAYS=>kernel_rfl)
 (case l_WAYS=>kernel_rfl)
 (case kk_WAYS=>repeat (first | exact trivial|refine ⟨⟨_,_,rfl,rfl⟩, ?_⟩))
 (case n_WAYS0=>kernel_rfl)
 (case h_wWAYS0_7=>kernel_rfl)
 (case n_WAYS1=>kernel_rfl)
 (case h_wWAYS1_11=>kernel_rfl)
 (case n_WAYS2=>kernel_rfl)
 (case h_wWAYS2_15=>kernel_rfl)
 (case n_WAYS3=>kernel_rfl)
 (case h_wWAYS3_19=>kernel_rfl)
 (case n_WAYS4=>kernel_rfl)
 (case h_wWAYS4_23=>kernel_rfl)
 (case n_WAYS5=>kernel_rfl)
 (case h_wWAYS5_27=>kernel_rfl)
end
