import PyProof.Rows.All
import KE.KItem
import KE.KRevIter
import KE.KDictList
import KE.IntBitsLaws
import PySem.Challenge.RW_skylanes_k68_first_fault
set_option Elab.async false
set_option linter.all false
set_option maxRecDepth 100000
set_option maxHeartbeats 0
abbrev kn:=@List
abbrev km:=PySem.Value
abbrev kj:=PySem.Shared
abbrev ki:=PySem.Addr
abbrev kf:=@Option
abbrev ke:=PySem.Expr
abbrev kd:=Bool
abbrev gn:=PySem.Program
abbrev fe:=PySem.World
abbrev cb:=PySem.Heap
abbrev Wf:=PySem.Around
abbrev AAA:=@PySem.wpAny_bind
abbrev AAB:=PySem.W.Frag
abbrev AAC:=@PySem.wpAny_pure
abbrev AAD:=@if_neg
abbrev AAE:=@if_pos
abbrev AAF:=@PySem.Heap.lt_size
abbrev AAG:=@PySem.Heap.get?_push_of_some
abbrev AAH:=@List.mem_map
abbrev AAI:=@List.mem_cons
abbrev AAJ:=@Nat.le_refl
abbrev AAK:=@List.length_map
abbrev AAL:=@List.mem_append
abbrev AAM:=@List.map_cons
abbrev AAN:=@Nat.ne_of_lt
abbrev AAO:=@PySem.Heap.get?_push_size
abbrev AAP:=@List.size_toArray
abbrev AAQ:=@Rat.intCast_mul
abbrev AAR:=@PySem.wpAny_field
abbrev AAS:=@PySem.PassesOwn.never
abbrev AAT:=@List.mem_filter
abbrev AAU:=@Nat.le_trans
abbrev AAV:=@decide_eq_true
abbrev AAW:=@decide_eq_false
abbrev AAX:=@Nat.lt_of_lt_of_le
abbrev AAY:=@List.getElem?_eq_getElem
abbrev AAa:=@List.mem_singleton
abbrev AAc:=@Bool.false_ne_true
abbrev AAf:=@List.getElem?_set_ne
abbrev AAg:=@PySem.wpAny_holding
abbrev AAh:=@List.getElem?_map
abbrev AAn:=@Option.some.inj
abbrev AAo:=@if_false
abbrev AAp:=@List.not_mem_nil
abbrev AAq:=@or_false
abbrev AAr:=@PySem.F.slot_list_append
abbrev AAs:=@PySem.F.type_list_append
abbrev AAt:=@if_true
abbrev AAu:=@List.mem_range
abbrev AAv:=@Nat.ne_of_gt
abbrev AAw:=@Nat.lt_of_le_of_lt
abbrev AAx:=@List.mem_append_right
abbrev AAy:=@List.sum_cons
abbrev AAz:=@PySem.W.mg_none_of
abbrev AA0:=@PySem.wpAny_call_entry
abbrev AA2:=@PySem.wpAny_seqItems
abbrev AA3:=@List.getElem?_eq_some_iff
abbrev AA4:=@PySem.wpAny_newObj_type
abbrev AA5:=@PySem.Heap.size_push
abbrev AA6:=@List.length_append
abbrev AA7:=@List.map_map
abbrev AA8:=@List.length_cons
abbrev AA9:=@List.pairwise_cons
abbrev ABA:=@Bool.false_eq_true
abbrev ABB:=@List.mem_of_getElem?
abbrev ABC:=@PyProof.Rows.boot_tuple
abbrev ABD:=@Bool.and_eq_true
abbrev ABE:=@Nat.le_of_ble_eq_true
abbrev ABF:=@Nat.mul_pos
abbrev ABG:=@List.mem_flatMap
abbrev ABH:=@Int.natAbs_natCast
abbrev ABI:=@Ne.symm
abbrev ABJ:=@PySem.wpAny_of_eq
abbrev ABK:=@PySem.wpAny_setField_rec
abbrev ABL:=@Int.natAbs_mul
abbrev ABQ:=@Rat.num_divInt_den
abbrev ABR:=@List.nil_append
abbrev ABS:=@Nat.mul_le_mul
abbrev ABT:=@Rat.intCast_natCast
abbrev ABU:=@Rat.intCast_zero
abbrev ABV:=@Nat.mul_assoc
abbrev ABr:=@PySem.wpAny_specialOf
abbrev ABs:=@Nat.zero_le
abbrev ABt:=@List.getElem?_append_right
abbrev ABu:=@PySem.wpAny_callSpecial?_slot
abbrev ABv:=@PyProof.Rows.slot_tuple_getitem
abbrev ABw:=@List.foldl_cons
abbrev ABx:=@PySem.wpAny_rule
abbrev ABy:=@Bool.not_true
abbrev ABz:=@List.mem_cons_of_mem
abbrev AB0:=@PySem.wpAny_mono
abbrev AB1:=@List.getElem?_append_left
abbrev AB2:=@List.map_congr_left
abbrev AB3:=@Int.natAbs_neg
abbrev AB4:=@of_decide_eq_true
abbrev AB5:=@PySem.wpAny_setState_of
abbrev AB6:=@Nat.mul_le_mul_left
abbrev AB7:=@Rat.intCast_lt_intCast
abbrev AB8:=@List.length_filter_le
abbrev AB9:=@Int.mul_pos
abbrev ACA:=@Nat.mul_comm
abbrev ACB:=@Array.length_toList
abbrev ACC:=@Nat.lt_irrefl
abbrev ACD:=@PySem.wpAny_standAt
abbrev ACE:=@Bool.eq_iff_iff
abbrev ACF:=@List.getElem?_replicate
abbrev ACG:=@List.length_replicate
abbrev ACH:=@List.forIn_cons
abbrev ACI:=@Int.fdiv_eq_ediv_of_nonneg
abbrev ACJ:=@PySem.F.slot_zip_next
abbrev ACK:=@List.any_cons
abbrev ACL:=@List.map_append
abbrev ACN:=@PySem.boot_len
abbrev ACO:=@Rat.mul_pos
abbrev ACP:=@PySem.W.mg_of
abbrev ACQ:=@PySem.wpAny_isInstance
abbrev ACR:=@PySem.wpAny_truthy_bool
abbrev ACS:=@List.mem_cons_self
abbrev ACT:=@PySem.wpAny_passesOwn
abbrev ACU:=@Int.mul_one
abbrev ACV:=@PyProof.Rows.callWith_type1
abbrev ACW:=@List.nodup_cons
abbrev ACX:=@List.of_mem_zip
abbrev ACY:=@PySem.wpAny_onRaise
abbrev ACZ:=@Nat.div_le_self
abbrev ACa:=@Nat.gcd_dvd_right
abbrev ACb:=@Int.natCast_ediv
abbrev ACc:=@Nat.le_of_dvd
abbrev ACd:=@Nat.succ_mul
abbrev ACe:=@List.filter_cons
abbrev ACf:=@List.find?_cons
abbrev ACg:=@Rat.divInt_eq_div
abbrev ACh:=@Rat.mul_eq_zero
abbrev ACi:=@List.getElem?_set_self
abbrev ACj:=@PySem.sizeLine_eq
abbrev ACk:=@PySem.Calls.spliced_cons
abbrev ACl:=@PySem.codeAny_mono
abbrev ACm:=@List.all_eq_true
abbrev ACn:=@List.getD_eq_getElem?_getD
abbrev ACo:=@List.getElem_mem
abbrev ACp:=@List.take_of_length_le
abbrev ACq:=@Int.toNat_natCast
abbrev ACr:=@List.forIn_nil
abbrev ACs:=@Nat.pow_le_pow_right
abbrev ACt:=@Nat.gcd_comm
abbrev ACu:=@Nat.gcd_pos_of_pos_right
abbrev ACv:=@Nat.le_add_right
abbrev ACw:=@Rat.mul_pos_iff_of_pos_left
abbrev ACx:=@Int.lt_trichotomy
abbrev ACy:=@decide_eq_false_iff_not
abbrev ACz:=@Nat.mul_le_mul_right
abbrev AC0:=@Nat.le_of_lt
abbrev AC1:=@List.filterMap_cons
abbrev AC2:=@List.append_nil
abbrev AC3:=@PySem.wpAny_call
abbrev AC4:=@PySem.mem_of_lookup
abbrev AC5:=@Prod.ext
abbrev AC6:=@PySem.Heap.get?_update_self
abbrev AC7:=@List.map_nil
abbrev AC8:=@Nat.lt_trans
abbrev AC9:=@PySem.wpAny_pyIter_list
abbrev ADA:=@PySem.wpAny_updateSeq_pair
abbrev ADB:=@PySem.wpAny_letGo
abbrev ADC:=@PySem.wpAny_attempt
abbrev ADD:=@List.getElem?_set
abbrev ADE:=@Nat.pow_add
abbrev ADF:=@Nat.pow_succ
abbrev ADG:=@Int.one_mul
abbrev ADH:=@PySem.isSubtype_type
abbrev ADI:=@List.length_reverse
abbrev ADJ:=@Option.map_eq_some_iff
abbrev ADK:=@List.foldl_append
abbrev ADL:=@PySem.F.called_set
abbrev ADM:=@List.range_succ
abbrev ADN:=@Rat.intCast_inj
abbrev ADO:=@List.flatMap_append
abbrev ADP:=@List.length_flatMap
abbrev ADQ:=@Int.emod_nonneg
abbrev ADR:=@Int.emod_lt_of_pos
abbrev ADS:=@PySem.F.slot_tuple_hash
abbrev ADT:=@Array.forIn_toList
abbrev ADU:=@PySem.wpAny_forIn_list
abbrev ADV:=@PySem.F.slot_tuple_eq
abbrev ADW:=@PySem.Paired.length
abbrev ADX:=@List.getElem?_eq_none_iff
abbrev ADY:=@PySem.wpAny_execs_nil
abbrev ADZ:=@PySem.Calls.spliced_nil
abbrev ADa:=@PyProof.Rows.slicePart_none
abbrev ADb:=@PySem.wpAny_typeOf
abbrev ADc:=@PySem.Calls.callWith_builtin
abbrev ADd:=@List.reverse_cons
abbrev ADe:=@List.mem_iff_getElem
abbrev ADf:=@List.any_eq_true
abbrev ADg:=@PySem.F.slot_tuple_iterator_next
abbrev ADh:=@List.zipIdx_cons
abbrev ADi:=@List.zipIdx_nil
abbrev ADj:=@PySem.callType_new
abbrev ADk:=@PySem.F.entry_zip_next
abbrev ADl:=@PySem.F.args_zip_next_1
abbrev ADm:=@PySem.wpAny_pyIter_zip
abbrev ADn:=@Rat.num_divInt
abbrev ADo:=@Rat.div_def
abbrev ADp:=@decide_eq_decide
abbrev ADq:=@Int.natCast_mul
abbrev ADr:=@Rat.divInt_eq_divInt_iff
abbrev ADs:=@Int.mul_comm
abbrev ADt:=@Int.mul_assoc
abbrev ADu:=@List.set_cons_succ
abbrev ADv:=@PySem.typeLookup_type
abbrev ADw:=@PySem.builtinLookup_eq_fast
abbrev ADx:=@Bool.true_or
abbrev ADy:=@PySem.call_meetsIn
abbrev ADz:=@Nat.zero_add
abbrev AD0:=@PySem.wpAny_pyIter_enum
abbrev AD1:=@PySem.Heap.get?_update_ne
abbrev AD2:=@PySem.wpAny_askSetting
abbrev AD3:=@Option.getD_some
abbrev AD4:=@List.append_assoc
abbrev AD5:=@decide_eq_true_iff
abbrev AD6:=@List.flatMap_cons
abbrev AD7:=@Int.le_refl
abbrev AD8:=@List.dropLast_concat_getLast
abbrev AD9:=@Nat.mul_lt_mul''
abbrev AEA:=@Rat.intCast_sub
abbrev AEB:=@PyProof.Rows.boot_isinstance
abbrev AEC:=@PySem.wpAny_tupleItemsOf
abbrev AED:=@Nat.add_assoc
abbrev AEE:=@PySem.isSubtype_tuple_tuple
abbrev AEF:=@beq_eq_false_iff_ne
abbrev AEG:=@PySem.wpAny_assign_Name
abbrev AEH:=@List.mem_filterMap
abbrev AEI:=@Int.fmod_eq_emod_of_nonneg
abbrev AEJ:=@PySem.wpAny_Call_Name_kw
abbrev AEK:=@List.length_take
abbrev AEL:=@PySem.noFill_tuple_add
abbrev AEM:=@PySem.F.slot_tuple_add
abbrev AEN:=@PySem.F.entry_tuple_add
abbrev AEO:=@PySem.F.args_tuple_add_2
abbrev AEP:=@Int.ediv_one
abbrev AEQ:=@List.filterMap_map
abbrev AER:=@PySem.wpAny_sequenceKey
abbrev AES:=@PyProof.Rows.entry_tuple_getitem
abbrev AET:=@PySem.wpAny_comprehension_free
abbrev AEU:=@PySem.Heap.SameBut.update
abbrev AEV:=@PySem.Obj.data_mapFields
abbrev AEW:=@List.drop_eq_getElem_cons
abbrev AEX:=@Rat.den_divInt
abbrev AEY:=@Rat.divInt_add_divInt
abbrev AEZ:=@Rat.divInt_mul_divInt
abbrev AEa:=@Nat.gcd_dvd_left
abbrev AEb:=@Int.sign_eq_one_of_pos
abbrev AEc:=@of_decide_eq_false
abbrev AEd:=@List.replicate_succ
abbrev AEe:=@List.cons_append
abbrev AEf:=@Bool.false_or
abbrev AEg:=@PySem.tupleKind_room_in1
abbrev AEh:=@PySem.F.slot_dict_get
abbrev AEi:=@PySem.wpAny_Call_method
abbrev AEj:=@PySem.F.plainAttrs_dict
abbrev AEk:=@List.getElem?_drop
abbrev AEl:=@PySem.codeAny_builtin
abbrev AEm:=@PySem.F.slot_set_init
abbrev AEn:=@List.getLast?_eq_some_getLast
abbrev AEo:=@List.mem_of_getLast?
abbrev AEp:=@List.length_eq_zero_iff
abbrev AEq:=@Nat.dvd_trans
abbrev AEr:=@Rat.div_mul_cancel
abbrev AEs:=@List.set_cons_zero
abbrev AEt:=@Nat.two_pow_pos
abbrev AEu:=@Rat.intCast_add
abbrev AEv:=@List.pairwise_map
abbrev AEw:=@Rat.natCast_mul
abbrev AEx:=@List.filter_map
abbrev AEy:=@List.flatMap_singleton
abbrev AEz:=@Int.fmod_nonneg_of_pos
abbrev AE0:=@Int.fmod_lt_of_pos
abbrev AE1:=@List.mem_reverse
abbrev AE2:=@Int.zero_add
abbrev AE3:=@PySem.W.cellsFrom_some
abbrev AE4:=@List.length_singleton
abbrev AE5:=@PyProof.noPylong_of_log2
abbrev AE6:=@PySem.F.entry_tuple_iterator_next
abbrev AE7:=@PySem.F.args_tuple_iterator_next_1
abbrev AE8:=@List.getElem?_zipWith
abbrev AE9:=@List.drop_eq_nil_of_le
abbrev AFA:=@List.getElem?_reverse
abbrev AFB:=@Int.gcd_eq_natAbs_gcd_natAbs
abbrev AFC:=@Int.fdiv_eq_ediv_of_dvd
abbrev AFD:=@Int.sign_eq_neg_one_of_neg
abbrev AFE:=@PySem.F.entry_dict_get
abbrev AFF:=@PySem.F.args_dict_get_3
abbrev AFG:=@PySem.F.slot_dict_itemiterator_iter
abbrev AFH:=@PySem.F.slot_dict_items
abbrev AFI:=@PyProof.Rows.boot_set
abbrev AFJ:=@PySem.F.plain_list_iadd
abbrev AFK:=@PySem.F.slot_dict_values
abbrev AFL:=@List.getElem?_zip_eq_some
section
namespace L2
open PySem
def D2 (s:Stmt):Arguments:=match s with
 | .FunctionDef _ a _ _ _ _ _ _ _ _=>a
 | _=>{posonlyargs:= [],args:= [],vararg:=none,kwonlyargs:= [],kw_defaults:= [],kwarg:=none,defaults:= [] }
def CC (s:Stmt):kn Stmt:=match s with
 | .FunctionDef _ _ b _ _ _ _ _ _ _=>b
 | _=> []
def Au (s:Stmt):Scope:=match s with
 | .FunctionDef _ _ _ _ _ _ sc _ _ _=>sc
 | _=>{kind:= .function,names:= [],isGenerator:=false,isCoroutine:=false}
end L2
namespace K68
open PySem L2 PyProof.Rows
abbrev pwA:=PySem.Challenge.pw_skylanes_k68_first_fault
def top (i:Nat):Stmt:=K68.pwA.main.body.getD i (.Pass ⟨0,0,0,0⟩)
abbrev Ez:Stmt:=top 49
abbrev Fp:Stmt:=top 58
abbrev Gy:Stmt:=top 50
abbrev Im:Stmt:=top 52
abbrev Io:Stmt:=top 51
abbrev Fq:Stmt:=top 69
abbrev DG:Stmt:=top 72
abbrev Eh:Stmt:=top 63
abbrev Ii:Stmt:=top 62
abbrev Gx:Stmt:=top 60
abbrev Eg:Stmt:=top 53
abbrev Fv:Stmt:=top 54
abbrev Gz:Stmt:=top 59
abbrev Fs:Stmt:=top 61
abbrev Il:Stmt:=top 64
abbrev Ij:Stmt:=top 74
abbrev LI:Stmt:=top 45
abbrev OL:Stmt:=top 12
abbrev LG:Stmt:=top 13
abbrev Iq:Stmt:=top 16
abbrev OH:Stmt:=top 8
abbrev LN:Stmt:=top 17
abbrev Fx:Stmt:=top 18
abbrev Iz:Stmt:=top 19
abbrev Ip:Stmt:=top 20
abbrev OI:Stmt:=top 1
abbrev W5:Stmt:=top 2
abbrev Ss:Stmt:=top 5
abbrev Iu:Stmt:=top 30
abbrev W6:Stmt:=top 4
abbrev G4:Stmt:=top 36
abbrev G5:Stmt:=top 35
abbrev LH:Stmt:=top 37
abbrev OJ:Stmt:=top 15
abbrev EE:Stmt:=top 9
abbrev Iv:Stmt:=top 11
abbrev Sv:Stmt:=top 3
abbrev Ei:Stmt:=top 40
abbrev W4:Stmt:=top 7
abbrev Iw:Stmt:=top 21
abbrev JA:Stmt:=top 22
abbrev Dj:Stmt:=top 39
abbrev HU:Stmt:=top 14
abbrev LJ:Stmt:=top 41
abbrev Su:Stmt:=top 6
abbrev ED:Stmt:=top 31
abbrev G3:Stmt:=top 32
abbrev LM:Stmt:=top 24
abbrev Iy:Stmt:=top 33
abbrev G6:Stmt:=top 34
abbrev LK:Stmt:=top 42
abbrev Ir:Stmt:=top 43
abbrev FD:Stmt:=top 46
abbrev Fw:Stmt:=top 75
abbrev FC:Stmt:=top 57
abbrev Fu:Stmt:=top 55
abbrev G1:Stmt:=top 56
abbrev Ik:Stmt:=top 65
abbrev Ft:Stmt:=top 66
abbrev E1:Stmt:=top 48
abbrev G0:Stmt:=top 67
abbrev G2:Stmt:=top 73
abbrev Qf:Stmt:=top 76
def m0:String:="law_skylanes_k68_first_fault"
def m1:String:="skylanes.mending"
def m2:String:="skylanes.planes"
def m3:String:="skylanes.fractions"
def m4:String:="skylanes.wedges"
def m5:String:="skylanes.meets"
def m6:String:="skylanes.nearness"
def eN (P:Params)(x:String)(i:Nat)(v:km):DictEntry:=⟨PyData.keyHash P (Str.ofString x), .str (Str.ofString x) i,v⟩
abbrev eR (P:Params)(x:String)(i f:Nat):=eN P x i (.ref f)
def fO (x:String)(s:Stmt)(m:String)(i c:Nat):Obj:=⟨.type "function",none, .func (PySem.W.fnOf (Str.ofString x) (Str.ofString x) (D2 s) (CC s) (Au s) .none .none .none (.str (Str.ofString m) i) none (.ref c) .none), #[]⟩
def xk (t:Nat)(x:String)(s:Stmt)(m:String)(i c:Nat):Obj:=⟨.type "function",none, .func (PySem.W.fnOf (Str.ofString x) (Str.ofString x) (D2 s) (CC s) (Au s) (.ref t) .none .none (.str (Str.ofString m) i) none (.ref c) .none), #[]⟩
def rV:Nat->km
 | 0=> .none
 | n+1=> .ref (n+1)
def fc (x:String)(s:Stmt)(m:String)(a c f i l n g b d e h j u:Nat)(r:AAB):AAB:=
 (c,⟨.type "code",none, .fields #[.str (Str.ofString x) i, .str (Str.ofString x) (i+1), .str (Str.ofString "/claim/cut.py") (i+2), .int l 0, .int n 0, .int 0 0, .int 0 0, .int g 0,rV b, .bool true, .int 181 0,rV d, .none,rV e,rV h,rV j, .int u 0, .int l 0, .str (Str.ofString "/claim/cut.py") (u+1)], #[]⟩) ::
 (f,fO x s m a c)::r
def fcD (t:Nat)(x:String)(s:Stmt)(m:String)(a c f i l n g b d e h j u:Nat)(r:AAB):AAB:=
 (c,⟨.type "code",none, .fields #[.str (Str.ofString x) i, .str (Str.ofString x) (i+1), .str (Str.ofString "/claim/cut.py") (i+2), .int l 0, .int n 0, .int 0 0, .int 0 0, .int g 0,rV b, .bool true, .int 181 0,rV d, .none,rV e,rV h,rV j, .int u 0, .int l 0, .str (Str.ofString "/claim/cut.py") (u+1)], #[]⟩) ::
 (f,xk t x s m a c)::r
def wE (P:Params):Obj:=⟨.type "dict",none, .dict #[eN P "__name__" 165 (.str (Str.ofString "law_skylanes_k68_first_fault") 571),eN P "__doc__" 166 .none,eN P "__package__" 167 .none,eN P "__loader__" 168 (.builtin "__main__.__loader__#opaque"),eN P "__spec__" 169 .none,eR P "__annotations__" 170 6,eR P "__builtins__" 171 4,eN P "__file__" 173 (.str (Str.ofString "/claim/cut.py") 172),eN P "__cached__" 174 .none,eR P "common" 196 21,eR P "part" 205 28,eR P "whole" 212 35,eR P "plus" 220 42,eR P "minus" 228 49,eR P "times" 236 56,eR P "over" 244 63,eR P "before" 252 70,eR P "shared_bottom" 262 77,eR P "plane_of" 270 82,eR P "summed" 276 87,eR P "crossed" 285 94,eR P "without" 292 100,eR P "placed" 298 105,eR P "is_never" 306 112,eR P "turn_of" 316 119,eR P "is_tighter" 327 126,eR P "tightest" 338 133,eR P "fault_in" 349 140,eR P "range_in" 361 147,eR P "value_in" 372 154,eR P "size_of" 382 161,eR P "NOUGHT" 387 162,eR P "ONCE" 390 163,eR P "BACK" 394 164,eR P "STRICT" 407 165,eR P "negative" 414 172,eR P "piece_between" 427 179,eR P "pieces_of" 433 184,eR P "sizes_of" 445 191,eR P "wedges_of" 462 198,eR P "time_form" 475 205,eR P "side_form" 493 212,eR P "form_of" 501 219,eR P "weights_by_time" 514 226,eR P "told_weights" 520 231,eR P "meet_in" 526 236,eR P "meet_of" 541 243,eR P "may_meet" 550 250,eR P "is_kept" 559 257,eR P "first_fault" 570 264,eR P "_law_tape" 582 271,eR P "_law_draw" 592 278,eR P "_law_part" 603 285,eR P "_law_sum" 611 292,eR P "_law_off" 619 299,eR P "_law_product" 627 306,eR P "_law_ratio" 635 313,eR P "_law_place" 643 320,eR P "_law_span" 651 327,eR P "_law_bounds" 659 334,eR P "_law_apart" 667 341,eR P "_law_rate" 679 348,eR P "_law_line" 689 355,eR P "_law_lines" 712 362,eR P "_law_can" 718 367,eR P "_law_tighter" 729 374,eR P "_law_may" 740 381,eR P "_law_leg" 753 388,eR P "_law_names" 769 395,eR P "_law_rows" 784 402,eR P "_law_ways" 796 409,eR P "_law_edged" 813 416,eR P "_law_order" 819 421,eR P "_law_meets" 825 426,eR P "_law_listed" 831 431,eR P "_law_told" 845 438,eR P "_law_due" 857 445,eR P "_law_right" 863 450,eR P "law" 869 455] 79, #[]⟩
def KK (P:Params):AAB:=(3,wE P)::(fc "_law_draw" Ez m0 571 277 278 583 197 2 3 272 273 274 275 276 590 <| fc "_law_apart" Fp m0 571 340 341 660 236 1 3 335 336 337 338 339 665 <| fc "_law_part" Gy m0 571 284 285 593 205 2 3 279 280 281 282 283 601 <| fc "_law_off" Im m0 571 298 299 612 213 2 3 293 294 295 296 297 617 <| fc "_law_sum" Io m0 571 291 292 604 211 2 3 286 287 288 289 290 609 <| fc "_law_edged" Fq m0 571 415 416 797 334 3 3 410 411 412 413 414 811 <| fc "_law_listed" DG m0 571 430 431 826 359 1 3 427 428 0 0 429 829 <| fc "_law_tighter" Eh m0 571 373 374 719 277 4 3 368 369 370 371 372 727 <| fc "_law_can" Ii m0 571 366 367 713 262 1 3 363 364 0 0 365 716 <| fc "_law_line" Gx m0 571 354 355 680 243 4 3 349 350 351 352 353 687 <| fc "_law_product" Eg m0 571 305 306 620 215 2 3 300 301 302 303 304 625 <| fc "_law_ratio" Fv m0 571 312 313 628 217 2 3 307 308 309 310 311 633 <| fc "_law_rate" Gz m0 571 347 348 668 239 3 3 342 343 344 345 346 677 <| fc "_law_lines" Fs m0 571 361 362 690 245 5 3 356 357 358 359 360 710 <| fc "_law_may" Il m0 571 380 381 730 284 3 3 375 376 377 378 379 738 <| fc "_law_due" Ij m0 571 444 445 846 370 2 3 439 440 441 442 443 855 <| fc "is_kept" LI m1 551 256 257 553 182 1 3 251 252 253 254 255 557 <| fc "summed" OL m2 263 86 87 271 33 4 3 83 84 0 0 85 274 <| fc "crossed" LG m2 263 93 94 277 39 3 3 88 89 90 91 92 283 <| fc "is_never" Iq m2 263 111 112 299 56 1 3 106 107 108 109 110 304 <| fc "before" OH m3 187 69 70 245 21 2 3 64 65 66 67 68 250 <| fc "turn_of" LN m2 263 118 119 307 59 2 3 113 114 115 116 117 314 <| fc "is_tighter" Fx m2 263 125 126 317 63 3 3 120 121 122 123 124 325 <| fc "tightest" Iz m2 263 132 133 328 71 3 3 127 128 129 130 131 336 <| fc "fault_in" Ip m2 263 139 140 339 77 2 3 134 135 136 137 138 347 <| fc "common" OI m3 187 20 21 189 2 2 3 15 16 17 18 19 194 <| fc "part" W5 m3 187 27 28 197 6 2 3 22 23 24 25 26 203 <| fc "minus" Ss m3 187 48 49 221 15 2 3 43 44 45 46 47 226 <| fc "negative" Iu m4 383 171 172 408 106 1 3 166 167 168 169 170 412 <| fc "plus" W6 m3 187 41 42 213 13 2 3 36 37 38 39 40 218 <| fc "side_form" G4 m4 383 211 212 476 136 2 3 206 207 208 209 210 491 <| fc "time_form" G5 m4 383 204 205 463 132 2 3 199 200 201 202 203 473 <| fc "form_of" LH m4 383 218 219 494 145 2 3 213 214 215 216 217 499 <| fc "placed" OJ m2 263 104 105 293 50 3 3 101 102 0 0 103 296 <| fc "shared_bottom" EE m3 187 76 77 253 23 1 3 71 72 73 74 75 260 <| fc "plane_of" Iv m2 263 81 82 265 29 3 3 78 79 0 0 80 268 <| fc "whole" Sv m3 187 34 35 206 11 1 3 29 30 31 32 33 210 <| fc "told_weights" Ei m5 502 230 231 515 155 1 3 227 228 0 0 229 518 <| fc "over" W4 m3 187 62 63 237 19 2 3 57 58 59 60 61 242 <| fc "range_in" Iw m2 263 146 147 350 86 2 3 141 142 143 144 145 359 <| fc "value_in" JA m2 263 153 154 362 95 2 3 148 149 150 151 152 370 <| fc "weights_by_time" Dj m5 502 225 226 504 148 1 3 220 221 222 223 224 512 <| fcD 95 "without" HU m2 263 99 100 287 41 3 3 96 97 0 0 98 290 <| fc "meet_in" LJ m5 502 235 236 521 160 1 3 232 233 0 0 234 524 <| fc "times" Su m3 187 55 56 229 17 2 3 50 51 52 53 54 234 <| fc "piece_between" ED m4 383 178 179 415 108 2 3 173 174 175 176 177 425 <| fc "pieces_of" G3 m4 383 183 184 428 115 1 3 180 181 0 0 182 431 <| fc "size_of" LM m6 373 160 161 375 99 2 3 155 156 157 158 159 380 <| fc "sizes_of" Iy m4 383 190 191 434 117 3 3 185 186 187 188 189 443 <| fc "wedges_of" G6 m4 383 197 198 446 123 3 3 192 193 194 195 196 460 <| fc "meet_of" LK m5 502 242 243 527 171 3 3 237 238 239 240 241 539 <| fc "may_meet" Ir m5 502 249 250 542 179 3 3 244 245 246 247 248 548 <| fc "first_fault" FD m1 551 263 264 560 184 2 3 258 259 260 261 262 568 <| fc "_law_right" Fw m0 571 449 450 858 377 3 3 446 447 0 0 448 861 <| fc "_law_bounds" FC m0 571 333 334 652 231 1 3 328 329 330 331 332 657 <| fc "_law_place" Fu m0 571 319 320 636 219 1 3 314 315 316 317 318 641 <| fc "_law_span" G1 m0 571 326 327 644 226 1 3 321 322 323 324 325 649 <| fc "_law_leg" Ik m0 571 387 388 741 290 2 3 382 383 384 385 386 751 <| fc "_law_names" Ft m0 571 394 395 754 303 2 3 389 390 391 392 393 767 <| fc "_law_tape" E1 m0 571 270 271 573 191 2 3 265 266 267 268 269 580 <| fc "_law_rows" G0 m0 571 401 402 770 315 1 3 396 397 398 399 400 782 <| fc "_law_told" G2 m0 571 437 438 832 363 2 3 432 433 434 435 436 843 <| fc "law" Qf m0 571 454 455 864 383 1 3 451 452 0 0 453 867 <| [(165,⟨.type "tuple",none, .seq #[(.int 0 395),(.int 1 396),(.int 0 397),(.int 1 398),(.int 0 399),(.int 0 400),(.int 1 401),(.int 1 402),(.int 1 403),(.int 1 404),(.int 1 405),(.int 1 406)] 0, #[]⟩),(163,⟨.type "tuple",none, .seq #[(.int 1 388),(.int 1 389)] 0, #[]⟩),(162,⟨.type "tuple",none, .seq #[(.int 0 385),(.int 1 386)] 0, #[]⟩),(164,⟨.type "tuple",none, .seq #[(.int (-1) 392),(.int 1 393)] 0, #[]⟩),(95,⟨.type "tuple",none, .seq #[(.int 2 286)] 0, #[]⟩)])
def KA:kn ki:= [3,277,278,340,341,284,285,298,299,291,292,415,416,430,431,373,374,366,367,354,355,305,306,312,313,347,348,361,362,380,381,444,445,256,257,86,87,93,94,111,112,69,70,118,119,125,126,132,133,139,140,20,21,27,28,48,49,171,172,41,42,211,212,204,205,218,219,104,105,76,77,81,82,34,35,230,231,62,63,146,147,153,154,225,226,99,100,235,236,55,56,178,179,183,184,160,161,190,191,197,198,242,243,249,250,263,264,449,450,333,334,319,320,326,327,387,388,394,395,270,271,401,402,437,438,454,455,165,163,162,164,95]
def q:gn:={K68.pwA with main:={K68.pwA.main with body:= [top 0,top 1,top 2,top 3,top 4,top 5,top 6,top 7,top 8,top 9,top 10,top 11,top 12,top 13,top 14,top 15,top 16,top 17,top 18,top 19,top 20,top 21,top 22,top 23,top 24,top 25,top 26,top 27,top 28,top 29,top 30,top 31,top 32,top 33,top 34,top 35,top 36,top 37,top 38,top 39,top 40,top 41,top 42,top 43,top 44,top 45,top 46,top 47,top 48,top 49,top 50,top 51,top 52,top 53,top 54,top 55,top 56,top 57,top 58,top 59,top 60,top 61,top 62,top 63,top 64,top 65,top 66,top 67,top 68,top 69,top 70,top 71,top 72,top 73,top 74,top 75,top 76] }}
end K68
open PySem PySem.W PyProof.Rows
def K68.se (s:kj):=openSeen K68.q [] (importedModules (K68.pwA).main.body) (λs=>xlAt K68.q [] s&&recOk [] s) true s
def K68.go:=openGood K68.q []
def K68.rn (w:fe):=openEnds treeTable K68.pwA w 6000
def K68.l0:∀w,(K68.rn w).map (λs=>(K68.se s).1)=some (K68.go.1):=by intro w;kernel_rfl
def K68.l1:∀w,(K68.rn w).map (λs=>(K68.se s).2.1)=some (K68.go.2.1):=by intro w;kernel_rfl
def K68.l2:∀w,(K68.rn w).map (λs=>(K68.se s).2.2.1)=some (K68.go.2.2.1):=by intro w;kernel_rfl
def K68.l3:∀w,(K68.rn w).map (λs=>(K68.se s).2.2.2.1)=some (K68.go.2.2.2.1):=by intro w;kernel_rfl
def K68.l4:∀w,(K68.rn w).map (λs=>(K68.se s).2.2.2.2)=some (K68.go.2.2.2.2):=by intro w;kernel_rfl
def K68.l5:∀w,(K68.rn w).map (λs=>K68.KA.map s.heap.get?)=some ((K68.KK w.params).map λp=>some p.2):=by intro w;kernel_rfl
def K68.w1:PySem.Challenge.rw_skylanes_k68_first_fault.wellSaid=true:=by
 kernel_rfl
def K68.w0:PySem.Challenge.rw_skylanes_k68_first_fault.row.wellSaid=true:=by
 kernel_rfl
end
namespace PySem
open Sem (wp)
abbrev FK:=(Int×Int)×Int
section
variable {prog:gn}{w:fe}
def II (prog:gn)(w:fe)(h:cb)(k:FK)(a:ki):Prop:=∃o items n b u,h.get? a=some o/\o.cls= .type "tuple" /\o.data= .seq items n/\items.toList= [.ref b, .int k.2 u] /\IsTupleKey (intKind prog w) h [k.1.1,k.1.2] b
def II.typeIs {s:kj}{k:FK}{a:ki}(x:II prog w s.heap k a):s.TypeIs (.ref a) "tuple" :=let ⟨o,_,_,_,_,b,hc,_⟩:=x;⟨o,b,hc⟩
def II.inj {h:cb}{a:ki}{x y:FK}(hx:II prog w h x a)(hy:II prog w h y a):x=y:=by obtain⟨o,items,n,b,u,j,_,hd,hi,hk⟩:=hx;obtain⟨k,c,m,p,r,l,_,f,g,e⟩:=hy;obtain rfl:o=k:=AAn (j.symm.trans l);rw[hd] at f;injection f with h1 _;subst h1;rw[hi] at g;injection g with h1 h2;injection h1 with h1;subst h1;injection h2 with h2 _;injection h2 with h2 _;have:=hk.inj e;obtain⟨⟨s,t⟩,v⟩:=x;obtain⟨⟨y1,y2⟩,y3⟩:=y;injection this with i d;injection d with d _;simp only at h2 i d;subst h2;subst i;subst d;rfl
def II.keeps {h h':cb}{k:FK}{a d:ki}{o:Obj}{es ep}(x:II prog w h k a)(e:h.get? d=some o)(hd:o.data= .dict es ep)(hs:Heap.SameBut d h h'):II prog w h' k a:=by
 obtain⟨f,items,n,b,u,g,hc,c,hi,hk⟩:=x;have i:a≠d:=by rintro rfl;obtain rfl:f=o:=AAn (g.symm.trans e);rw[hd] at c;exact nomatch c
 exact⟨f,items,n,b,u,(hs.2 a i).trans g,hc,c,hi,hk.keeps e hd hs⟩
def WA (prog:gn)(w:fe)(k:FK):Int:=reduceHash (Builtin.Tuple.tupleHashOf [tupleKeyHash (intKind prog w) [k.1.1,k.1.2],hashInt k.2])
variable {A:Wf}{E:km->kj->Prop}{s:kj}
def MZ {k:FK}{a:ki}{Q:Int->kj->Prop}(hu:A.units+1<cLine)(hk:II prog w s.heap k a)(h:Q (WA prog w k) {s with toks:=s.toks+5}):wpAny (model prog w) A (pyHash (.ref a)) Q E s:=by
 have f:=hk.typeIs;obtain⟨o,items,n,b,u,i,_,hd,hi,j⟩:=hk;unfold pyHash;first | unfold pyHashByItsType|skip
 first | refine AAA (wpAny_cRoomFor_or (.inr (by omega)) ?_)|skip
 refine AAA (ABr f ADS.lookup ?_);show wpAny _ _ (if (some (Value.builtin "tuple.__hash__")==some Value.none)=true then _ else _) Q E s;rw[AAD (by rw[beq_builtin_none];exact AAc)];refine AAA (ABr f ADS.lookup ?_);show wpAny _ _ (callSpecialIfBoundUnlessNone? (.ref a) "__hash__" _ >>= _) Q E s;refine AAA (wpAny_callSpecialIfBoundUnlessNone?_slot f ADS (AA0 ADS f F.entry_tuple_hash ?_ (F.args_tuple_hash_1 _)));show wpAny _ _ (Builtin.Tuple.tupleItemsOf (.ref a) >>= _) _ _ s;refine AAA (AEC i hd ?_);refine AAA ?_;rw[<-ADT,hi];refine ADU _
  (λrest (r:Array Int) d=>(rest= [.ref b, .int k.2 u] /\r.toList= [] /\d=s)\/(rest= [.int k.2 u] /\r.toList= [tupleKeyHash (intKind prog w) [k.1.1,k.1.2]] /\d={s with toks:=s.toks+3})\/
    (rest= [] /\r.toList= [tupleKeyHash (intKind prog w) [k.1.1,k.1.2],hashInt k.2] /\d={s with toks:=s.toks+4}))
  _ ?_ ?_ _ _ (.inl ⟨rfl,rfl,rfl⟩)
 .rintro x rest r d (⟨c,e,rfl⟩|⟨c,e,rfl⟩|⟨c,_⟩)
  .cases c;refine AAA (wpAny_pyHash_tuple (knd:=intKind prog w) (by first | exact hu|omega) j ?_);exact AAC (.inr (.inl ⟨rfl,by simp[e],rfl⟩))
  .cases c;refine AAA (wpAny_pyHash_int ?_);exact AAC (.inr (.inr ⟨rfl,by simp[e],by simp[AED]⟩))
  .cases c
 .rintro r d (⟨c,_⟩|⟨c,_⟩|⟨_,e,rfl⟩)
  .cases c
  .cases c
  .show wpAny _ _ (retInt (Builtin.Tuple.tupleHashOf r.toList)) _ _ _;rw[e];refine wpAny_ret_mkInt ?_;show wpAny _ _ (if (decide (-(2:Int)^63<=Builtin.Tuple.tupleHashOf [tupleKeyHash (intKind prog w) [k.1.1,k.1.2],hashInt k.2])&&decide (Builtin.Tuple.tupleHashOf [tupleKeyHash (intKind prog w) [k.1.1,k.1.2],hashInt k.2] < 2^63))=true then _ else _) Q E _;unfold WA reduceHash at h;by_cases g:(decide (-(2:Int)^63<=Builtin.Tuple.tupleHashOf [tupleKeyHash (intKind prog w) [k.1.1,k.1.2],hashInt k.2])&&decide (Builtin.Tuple.tupleHashOf [tupleKeyHash (intKind prog w) [k.1.1,k.1.2],hashInt k.2] < 2^63))=true
   .rw [AAE g];rw[AAE g] at h;exact AAC (by simpa[AED] using h)
   .rw [AAD g];rw[AAD g] at h;exact AAA (ABx (AAC (by simpa[AED] using h)))
def WB {x y:FK}{a b:ki}{P:Fin->kj->Prop}(hu:A.units<cLine)(hx:II prog w s.heap x a)(hy:II prog w s.heap y b)(h:P (.done (.ret (.bool (decide (x=y))))) s):wpAny (model prog w) A (Builtin.«tuple.__eq__» ⟨[.ref a, .ref b], []⟩) P E s:=by
 have k:=hy.typeIs;obtain⟨Q,xs,R,ba,F,l,_,m,G,n⟩:=hx;obtain⟨S,ys,T,J,H,o,_,hdb,I,p⟩:=hy;have K:xs.size=2:=by rw[<-ACB,G];rfl
 have L:ys.size=2:=by rw[<-ACB,I];rfl
 obtain⟨⟨f,g⟩,d⟩:=x;obtain⟨⟨y1,y2⟩,y3⟩:=y;show wpAny _ _ (isInstance (.ref b) (.type "tuple") >>= _) _ _ s;refine AAA (ACQ k AEE ?_);simp only[ABy,ABA,AAo];refine AAA (AEC l m ?_);refine AAA (AEC o hdb ?_);refine AAA ?_;rw[G,I];refine ADU _
  (λrest r i=>r.1=none/\i=s/\(rest= [(.ref ba, .ref J),(.int d F, .int y3 H)] \/(rest= [(.int d F, .int y3 H)] /\f=y1/\g=y2)\/(rest= [] /\f=y1/\g=y2/\d=y3)))
  _ ?_ ?_ _ _ ⟨rfl,rfl, .inl rfl⟩
 .rintro ⟨u,v⟩ rest r i ⟨t,rfl,(c|⟨c,B,C⟩|⟨c,_⟩)⟩
  .cases c;refine AAA (wpAny_eqBool_tuple (knd:=intKind prog w) (by first | exact hu|omega) n p ?_);by_cases hk:f=y1/\g=y2
   .rw [AAV (by rw[hk.1,hk.2])];simp only[ABy,ABA,AAo];exact AAC ⟨rfl,rfl, .inr (.inl ⟨by first | trivial|rfl,hk⟩)⟩
   .rw [AAW (by intro z;injection z with j e;injection e with e _;exact hk ⟨j,e⟩)];simp only[Bool.not_false,AAt];have D:decide ((((f,g),d):FK)=((y1,y2),y3))=false:=by apply AAW;intro z;injection z with j e;injection j with M N;exact hk ⟨M,N⟩
    rw[D] at h;exact AAA (AAC (AAC (AAC h)))
  .cases c;refine AAA (wpAny_eqBool_int ?_);by_cases hk:d=y3
   .rw [show (d==y3)=true by simp[hk]];simp only[ABy,ABA,AAo];exact AAC ⟨rfl,rfl, .inr (.inr ⟨by first | trivial|rfl,B,C,hk⟩)⟩
   .rw [show (d==y3)=false by simp[hk]];simp only[Bool.not_false,AAt];have D:decide ((((f,g),d):FK)=((y1,y2),y3))=false:=by apply AAW;intro z;injection z with j e;exact hk e
    rw[D] at h;exact AAA (AAC (AAC (AAC h)))
  .cases c
 .rintro ⟨U,W⟩ i ⟨t,rfl,(c|⟨c,_⟩|⟨_,B,C,O⟩)⟩
  .cases c
  .cases c
  .simp only at t;subst t;refine AAC ?_;show P (.done (.ret (.bool (xs.size==ys.size)))) i;rw[K,L];rw[AAV (by rw[B,C,O])] at h;exact h
def MY {x y:FK}{a b:ki}{Q:kd->kj->Prop}(hu:A.units+1<cLine)(hx:II prog w s.heap x a)(hy:II prog w s.heap y b)(h:Q (decide (x=y)) s):wpAny (model prog w) A (eqBool (.ref a) (.ref b)) Q E s:=by
 unfold eqBool;try with_reducible refine AAg ?_
 show wpAny _ _ (if (Value.ref a==Value.ref b)=true then _ else _) Q E s;by_cases c:(Value.ref a==Value.ref b)=true
 .rw [AAE c];have e:a=b:=by have:=eq_of_beq c;injection this
  subst e;obtain rfl:=hx.inj hy;exact AAA (ABx (AAC (by simpa using h)))
 .rw [AAD c];exact AAA (wpAny_richCompare_same_room (op:= .Eq) hx.typeIs hy.typeIs ADV
   (AA0 ADV hx.typeIs F.entry_tuple_eq (WB (by first | exact hu|omega) hx hy ⟨_,rfl,(λe=>nomatch e),ACR h⟩) (F.args_tuple_eq_2 _ _)) (by omega))
def F1 {K:Type}[DecidableEq K]{knd:KeyKind prog w K}{g:kn K}{a:ki}{Q:kd->kj->Prop}(m:Nat)(hk:IsTupleKey knd s.heap g a)(h:Q true s):wpAny (model prog w) A (eqIsQuiet (m+1) (.ref a)) Q E s:=by
 have e:=hk.typeIs;obtain⟨o,items,n,i,_,hd,hi⟩:=hk;unfold eqIsQuiet;refine AAA (ABr e ADV.lookup ?_);show wpAny _ _ (isInstance (.ref a) (.type "tuple") >>= _) _ _ s;refine AAA (ACQ e AEE ?_);simp only[ABy,ABA,AAo];refine AAA (AA2 i hd ?_);refine AAA ?_;show wpAny _ _ (forIn items _ _) _ _ s;rw[<-ADT];refine ADU _ (λrest r b=>r.1=none/\b=s/\∀v∈rest,carriedByValue v=true) _ ?_ ?_ _ _ ⟨rfl,rfl,hi.byValue⟩
 .rintro v rest r b ⟨c,rfl,f⟩;rw[eqIsQuiet_byValue _ (f v ACS)];refine AAA (AAC ?_);simp only[ABy,ABA,AAo];exact AAC ⟨rfl,rfl,λu d=>f u (ABz _ d)⟩
 .rintro ⟨j,k⟩ b ⟨c,rfl,_⟩;simp only at c;subst c;exact AAC h
def JE {k:FK}{a:ki}{Q:kd->kj->Prop}(hk:II prog w s.heap k a)(h:Q true s):wpAny (model prog w) A (eqIsQuiet 8 (.ref a)) Q E s:=by
 have f:=hk.typeIs;obtain⟨o,items,n,b,u,g,_,hd,hi,i⟩:=hk;unfold eqIsQuiet;refine AAA (ABr f ADV.lookup ?_);show wpAny _ _ (isInstance (.ref a) (.type "tuple") >>= _) _ _ s;refine AAA (ACQ f AEE ?_);simp only[ABy,ABA,AAo];refine AAA (AA2 g hd ?_);refine AAA ?_;show wpAny _ _ (forIn items _ _) _ _ s;rw[<-ADT,hi];refine ADU _ (λrest r d=>r.1=none/\d=s/\(rest= [.ref b, .int k.2 u] \/rest= [.int k.2 u] \/rest= [])) _ ?_ ?_ _ _ ⟨rfl,rfl, .inl rfl⟩
 .rintro v rest r d ⟨e,rfl,(c|c|c)⟩
  .cases c;refine AAA (F1 (knd:=intKind prog w) 6 i ?_);simp only[ABy,ABA,AAo];exact AAC ⟨rfl,rfl, .inr (.inl (by first | trivial|rfl))⟩
  .cases c;rw[eqIsQuiet_byValue _ rfl];refine AAA (AAC ?_);simp only[ABy,ABA,AAo];exact AAC ⟨rfl,rfl, .inr (.inr (by first | trivial|rfl))⟩
  .cases c
 .rintro ⟨j,l⟩ d ⟨e,rfl,_⟩;simp only at e;subst e;exact AAC h
end
def fkKind (prog:gn)(w:fe):HeapKind prog w FK where
 is:=II prog w
 hash:=WA prog w
 draws:=λ_=>5
 room:=λA=>A.units+1<cLine
 inj:=λhx hy=>hx.inj hy
 keeps:=λx a hd hs=>x.keeps a hd hs
 pyHash:=λhu hk h=>MZ hu hk h
 eqBool:=λhu hx hy h=>MY hu hx hy h
 quiet:=λhk h=>JE hk h
end PySem
namespace L2
open PySem PySem.Spec PyProof.Rows
abbrev B8:=Sum Int Str
def QO:B8->km->kd
 | .inl k,v=>Value.isInt k v
 | .inr x,v=>Value.isStrOf x v
def vV (w:fe):B8->Int
 | .inl k=>hashInt k
 | .inr x=>hashStr w x
def BW:∀{k:B8} {v:km},QO k v=true->(∃i t,k=Sum.inl i/\v=Value.int i t)\/(∃x t,k=Sum.inr x/\v=Value.str x t)
 | .inl i,v,h=>by obtain⟨t,e⟩:=Value.isInt_shape (k:=i) (v:=v) h;exact .inl ⟨i,t,rfl,e⟩
 | .inr x,v,h=>by obtain⟨t,e⟩:=Value.isStrOf_shape (x:=x) (v:=v) h;exact .inr ⟨x,t,rfl,e⟩
def Zr (i:Int)(t:Tok):QO (.inl i) (.int i t)=true:=by simp[QO,Value.isInt]
def Zs (x:Str)(t:Tok):QO (.inr x) (.str x t)=true:=by simp[QO,Value.isStrOf]
def mH (a b:Int):decide ((Sum.inl a:B8)=Sum.inl b)=(a==b):=by
 by_cases e:a=b
 .subst e;simp
 .have h:¬(Sum.inl a:B8)=Sum.inl b:=λq=>e (Sum.inl.inj q);rw[AAW h];exact(AEF.mpr e).symm
def mK (a b:Str):decide ((Sum.inr a:B8)=Sum.inr b)=decide (a=b):=by
 by_cases e:a=b
 .subst e;simp
 .have h:¬(Sum.inr a:B8)=Sum.inr b:=λq=>e (Sum.inr.inj q);rw[AAW h,AAW e]
def mI (a:Int)(b:Str):decide ((Sum.inl a:B8)=Sum.inr b)=false:=AAW (λq=>nomatch q)
def mJ (a:Str)(b:Int):decide ((Sum.inr a:B8)=Sum.inl b)=false:=AAW (λq=>nomatch q)
def Ay (prog:gn)(w:fe):PySem.KeyKind prog w B8 where
 is:=QO
 hash:=vV w
 inj:=λv a b ha hb=>by
  rcases BW ha with⟨i,t,rfl,rfl⟩|⟨x,t,rfl,rfl⟩
  .rcases BW hb with⟨j,u,rfl,e⟩|⟨y,u,rfl,e⟩
   .injection e with c _;rw[c]
   .exact nomatch e
  .rcases BW hb with⟨j,u,rfl,e⟩|⟨y,u,rfl,e⟩
   .exact nomatch e
   .injection e with c _;rw[c]
 byValue:=λk v h=>by rcases BW h with⟨i,t,rfl,rfl⟩|⟨x,t,rfl,rfl⟩ <;> rfl
 pyHash:=λhv h=>by
  rcases BW hv with⟨i,t,rfl,rfl⟩|⟨x,t,rfl,rfl⟩
  .exact wpAny_pyHash_int h
  .exact wpAny_pyHash_str h
 eqBool:=λhu hv h=>by
  rcases BW hu with⟨i,t,rfl,rfl⟩|⟨x,t,rfl,rfl⟩
  .rcases BW hv with⟨j,u,rfl,rfl⟩|⟨y,u,rfl,rfl⟩
   .rw [mH] at h;exact wpAny_eqBool_int h
   .rw [mI] at h;exact SeqAt.EqAt.int_str i t y u _ _ _ _ h
  .rcases BW hv with⟨j,u,rfl,rfl⟩|⟨y,u,rfl,rfl⟩
   .rw [mJ] at h;exact SeqAt.EqAt.str_int x t j u _ _ _ _ h
   .rw [mK] at h;exact wpAny_eqBool_str h
 «strs»:=λk x t v h=>by
  rcases BW h with⟨i,u,rfl,e⟩|⟨y,u,rfl,e⟩
  .exact nomatch e
  .injection e with c _;subst c;cases v <;> rfl
def Ue (prog:gn)(w:fe)(i:Int)(t:Tok):(Ay prog w).is (.inl i) (.int i t)=true:=Zr i t
def Uf (prog:gn)(w:fe)(x:Str)(t:Tok):(Ay prog w).is (.inr x) (.str x t)=true:=Zs x t
inductive V where
 | non|bl (b:Bool)|int (i:Int)|str (x:Str)|byt (b:Array UInt8)|flt (b:UInt64)|ref (a:Addr)|ty (n:String)
 deriving DecidableEq
def RelV:V->km->Prop
 | .non,u=>u=Value.none
 | .bl b,u=>u=Value.bool b
 | .int i,u=>∃t,u=Value.int i t
 | .str x,u=>∃t,u=Value.str x t
 | .byt b,u=>∃t,u=Value.bytes b t
 | .flt b,u=>∃t,u=Value.float b t
 | .ref a,u=>u=Value.ref a
 | .ty n,u=>u=Value.type n
abbrev Ax:kn V->kn km->Prop:=Paired RelV
def Ax.length {xs:kn V}{a:kn km}(r:Ax xs a):xs.length=a.length:=ADW r
theorem Ax.get:∀{xs:kn V} {a:kn km} {i:Nat} {x:V},Ax xs a->xs[i]? =some x->∃u,a[i]? =some u/\RelV x u
 | _,_,_,_, .nil,e=>by simp at e
 | _,_,0,_, .cons r _,e=>by simp at e;subst e;exact⟨_,rfl,r⟩
 | _,_,i+1,x, .cons _ t,e=>by obtain⟨u,h1,h2⟩:=Ax.get (i:=i) (x:=x) t (by simpa using e);exact⟨u,by simpa using h1,h2⟩
theorem Ax.set {x:V}{u:km}(r:RelV x u):∀{xs:kn V} {a:kn km} (i:Nat),Ax xs a->Ax (xs.set i x) (a.set i u)
 | _,_,_, .nil=> .nil
 | _,_,0, .cons _ t=> .cons r t
 | _,_,i+1, .cons q t=> .cons q (Ax.set r i t)
theorem Ax.append:∀{xs ys:kn V} {a b:kn km},Ax xs a->Ax ys b->Ax (xs++ys) (a++b)
 | _,_,_,_, .nil,s=>s
 | _,_,_,_, .cons r t,s=> .cons r (Ax.append t s)
theorem Ax.take:∀{xs:kn V} {a:kn km} (n:Nat),Ax xs a->Ax (xs.take n) (a.take n)
 | _,_,0,_=> .nil
 | _,_,_+1, .nil=> .nil
 | _,_,n+1, .cons r t=> .cons r (Ax.take n t)
theorem Ax.drop:∀{xs:kn V} {a:kn km} (n:Nat),Ax xs a->Ax (xs.drop n) (a.drop n)
 | _,_,0,r=>r
 | _,_,_+1, .nil=> .nil
 | _,_,n+1, .cons _ t=>Ax.drop n t
def Ax.none_of:∀{xs:kn V} {a:kn km} {i:Nat},Ax xs a->xs[i]? =none->a[i]? =none:=λ{xs a i} r e=>by have h1:=r.length;have h2:xs.length<=i:=ADX.mp e;exact ADX.mpr (by omega)
def MI:kf V->kf km->Prop
 | some v,some u=>RelV v u
 | none,none=>True
 | _,_=>False
def KV {a:Type}:kn (a×V)->kn (a×km)->Prop:=Paired λ(p:a×V) (q:a×km)=>p.1=q.1/\RelV p.2 q.2
def kV:B8->V
 | .inl i=> .int i
 | .inr x=> .str x
inductive HO where
 | lst (xs:List V)
 | tup (xs:List V)
 | dK (kvs:List (B8×V))|dT (kvs:List (List B8×V))|dN (K:AAB) (kvs:List (PySem.FK×V))
 | set (S:Int->Bool) (n:Nat)
 | ins (C dx:Addr) (fs:List (Str×V))
 | own (x:Addr)
 | xd (fs:List (Str×V))
 | met (f x:Addr)
 | rng (lo hi:Int)
 | frz (o:Obj) (u:HO)
 | tbl (ps:Array Value)
 | ext (φ:Heap->Prop)
abbrev Hp:=ki->kf HO
def upd (H:Hp)(a:ki)(o:HO):Hp:=λb=>if b=a then some o else H b
def Aj {H:Hp}{a:ki}{o:HO}:upd H a o a=some o:=by unfold upd;rw[AAE rfl]
def Ai {H:Hp}{a b:ki}{o:HO}(h:b≠a):upd H a o b=H b:=by unfold upd;rw[AAD h]
def rN {H:Hp}{a b:ki}{o u:HO}(h:H a=some o)(h':H b=some u)(d:o≠u):a≠b:=by intro e;subst e;rw[h] at h';exact d (AAn h')
def Az {H:Hp}{a b:ki}{o:HO}(h:H a=some o)(h':H b=none):a≠b:=by intro e;subst e;rw[h] at h';cases h'
def uo (K:AAB)(H:Hp)(b:ki)(t d:Int):Prop:=H b=some (.tup [.int t, .int d])\/∃(o:Obj) (a:Array km) (n:Nat),K.lookup b=some o/\o.cls= .type "tuple" /\o.data= .seq a n/\Ax [.int t, .int d] a.toList
def ft (K:AAB)(H:Hp)(a:ki)(k:PySem.FK):Prop:=∃b,H a=some (.tup [.ref b, .int k.2])/\uo K H b k.1.1 k.1.2
def ft.stay {K:AAB}{H c:Hp}{a:ki}{k:PySem.FK}(x:ft K H a k)(d:∀b xs,H b=some (.tup xs)->c b=some (.tup xs)):ft K c a k:=let ⟨b,h1,h2⟩:=x;⟨b,d _ _ h1,h2.elim (λz=> .inl (d _ _ z)) .inr⟩
section
variable (P:gn)(w:fe)
def CL (H:Hp)(h:cb)(a:ki):HO->Prop
 | .lst xs=>xs.length<=sizeLine/\∃(b:kn km) (n:Nat),Ax xs b/\h.get? a=some {cls:= .type "list",data:= .seq b.toArray n}
 | .tup xs=>xs.length<=sizeLine/\∃b:kn km,Ax xs b/\IsTup h a b.toArray
 | .dK kvs=>kvs.length<=sizeLine/\(a==sysModules)=false/\∃vs,KV kvs vs/\h.DictOf (Ay P w) a vs
 | .dT kvs=>kvs.length<=sizeLine/\(a==sysModules)=false/\∃xs:kn (kn B8×ki×km),
     Paired (λ(p:kn B8×V) (q:kn B8×ki×km)=>p.1=q.1/\H q.2.1=some (.tup (p.1.map kV))/\RelV p.2 q.2.2) kvs xs/\
     ∃o es ep,h.get? a=some o/\o.ExactDict/\o.data= .dict es ep/\es.toList=xs.map (entryOfKey (tupleKind (Ay P w)))/\(xs.map (·.1)).Nodup
 | .dN K kvs=>kvs.length<=sizeLine/\(a==sysModules)=false/\∃xs:kn (PySem.FK×ki×km),Paired (λ(p:PySem.FK×V) (q:PySem.FK×ki×km)=>p.1=q.1/\ft K H q.2.1 p.1/\RelV p.2 q.2.2) kvs xs/\∃o es ep,h.get? a=some o/\o.ExactDict/\o.data= .dict es ep/\es.toList=xs.map (entryOfKey (PySem.fkKind P w))/\(xs.map (·.1)).Nodup
 | .set S n=>h.SetOf (intKind P w) a S n
 | .ins C e d=>H e=some (.own a)/\d.length<=1000/\e≠a/\h.get? a=some (PySem.W.instObj C e)/\
     ∃c,h.Ns1 e c/\(∀f,MI (d.lookup f) (c f))/\PySem.Within c (d.map (·.1))
 | .own _=>∃o,h.get? a=some o
 | .xd d=>∃c,h.Ns1 a c/\∀f,MI (d.lookup f) (c f)
 | .rng lo hi=>∃t u v,h.get? a=some {cls:= .type "range",data:= .fields #[.int lo t, .int hi u, .int 1 v] }
 | .frz o u=>h.get? a=some o/\CL H h a u
 | .tbl ps=>h.get? a=some {cls:= .none,data:= .fields ps}
 | .met f x=>h.get? a=some (PySem.W.methodObj (.ref f) (.ref x))
 | .ext g=>g h/\(∃o,h.get? a=some o)/\∀h1 h2:cb,g h1->(∀o,h1.get? a=some o->h2.get? a=some o)->g h2
def Jb (H:Hp)(h:cb):Prop:=∀a o,H a=some o->CL P w H h a o
end
section
variable {P:gn}{w:fe}{H H':Hp}{h h':cb}{a:ki}{o:HO}
def CL.lt (x:CL P w H h a o):a<h.objs.size:=by
 cases o with
 | lst xs=>obtain⟨_,_,_,_,e⟩:=x;exact AAF e
 | tup xs=>obtain⟨_,_,_,p⟩:=x;exact p.lt
 | dK kvs=>obtain⟨_,_,_,_,o,_,_,e,_⟩:=x;exact AAF e
 | dT kvs=>obtain⟨_,_,_,_,o,_,_,e,_⟩:=x;exact AAF e
 | dN K kvs=>obtain⟨_,_,_,_,o,_,_,e,_⟩:=x;exact AAF e
 | set S n=>obtain⟨o,_,_,_,e,_⟩:=x;exact AAF e
 | ins C c b=>obtain⟨_,_,_,e,_⟩:=x;exact AAF e
 | own y=>obtain⟨_,e⟩:=x;exact AAF e
 | xd b=>obtain⟨_,⟨_,_,_,e,_⟩,_⟩:=x;exact AAF e
 | rng lo hi=>obtain⟨_,_,_,e⟩:=x;exact AAF e
 | frz d u=>obtain⟨e,_⟩:=x;exact AAF e
 | tbl ps=>exact AAF (show h.get? a=some _ from x)
 | met f y=>exact AAF (show h.get? a=some _ from x)
 | ext g=>obtain⟨_,⟨_,e⟩,_⟩:=x;exact AAF e
theorem Paired.mapP {d e:Type}{F G:d->e->Prop}:∀{c:kn d} {l₂:kn e},Paired F c l₂->(∀a b,F a b->G a b)->Paired G c l₂
 | _,_, .nil,_=> .nil
 | _,_, .cons r t,f=> .cons (f _ _ r) (Paired.mapP t f)
def CL.stay (x:CL P w H h a o)(k:∀b u,(b=a\/H b=some (.own a))->h.get? b=some u->h'.get? b=some u)(s:∀b,H b=some (.own a)->H' b=some (.own a))(m:∀b xs,H b=some (.tup xs)->H' b=some (.tup xs)):CL P w H' h' a o:=by
 induction o with
 | lst xs=>obtain⟨z,i,n,r,e⟩:=x;exact⟨z,i,n,r,k _ _ (.inl rfl) e⟩
 | tup xs=>obtain⟨z,i,r,g,e,c⟩:=x;exact⟨z,i,r,g,k _ _ (.inl rfl) e,c⟩
 | dK kvs=>obtain⟨z,y,vs,r,g,es,ep,e,c⟩:=x;exact⟨z,y,vs,r,g,es,ep,k _ _ (.inl rfl) e,c⟩
 | dT kvs=> obtain⟨z,y,xs,r,g,es,ep,e,c⟩:=x;exact⟨z,y,xs,Paired.mapP r λp q z=>⟨z.1,m _ _ z.2.1,z.2.2⟩,g,es,ep,k _ _ (.inl rfl) e,c⟩
 | dN K kvs=> obtain⟨z,y,xs,r,g,es,ep,e,c⟩:=x;exact⟨z,y,xs,Paired.mapP r λp q z=>⟨z.1,z.2.1.stay m,z.2.2⟩,g,es,ep,k _ _ (.inl rfl) e,c⟩
 | set S n=>obtain⟨g,es,ep,t,e,c⟩:=x;exact⟨g,es,ep,t,k _ _ (.inl rfl) e,c⟩
 | ins C E A=> obtain⟨d,z,ne,e,j,⟨l,es,ep,B,c⟩,r⟩:=x;exact⟨s _ d,z,ne,k _ _ (.inl rfl) e,j,⟨l,es,ep,k _ _ (.inr d) B,c⟩,r⟩
 | own y=>obtain⟨g,e⟩:=x;exact⟨g,k _ _ (.inl rfl) e⟩
 | xd A=>obtain⟨j,⟨l,es,ep,e,c⟩,r⟩:=x;exact⟨j,⟨l,es,ep,k _ _ (.inl rfl) e,c⟩,r⟩
 | rng lo hi=>obtain⟨t,u,v,e⟩:=x;exact⟨t,u,v,k _ _ (.inl rfl) e⟩
 | frz g u D=>obtain⟨e,q⟩:=x;exact⟨k _ _ (.inl rfl) e,D q⟩
 | tbl ps=> have e:h.get? a=some {cls:= .none,data:= .fields ps}:=x;show h'.get? a=some {cls:= .none,data:= .fields ps};exact k a _ (.inl rfl) e
 | met f y=> have e:h.get? a=some (PySem.W.methodObj (.ref f) (.ref y)):=x;show h'.get? a=some (PySem.W.methodObj (.ref f) (.ref y));exact k a _ (.inl rfl) e
 | ext F=>obtain⟨p,⟨o,e⟩,st⟩:=x;exact⟨st _ _ p λo q=>k _ _ (.inl rfl) q,⟨o,k _ _ (.inl rfl) e⟩,st⟩
def Jb.lt (x:Jb P w H h)(e:H a=some o):a<h.objs.size:=(x a o e).lt
def Jb.fresh (x:Jb P w H h)(e:h.objs.size<=a):H a=none:=by
 cases q:H a with
 | none=>rfl
 | some u=>exact absurd (AAX (x.lt q) e) (ACC _)
def Jb.kept (x:Jb P w H h)(k:∀b u,h.get? b=some u->h'.get? b=some u):Jb P w H h':=λa o e=>
 (x a o e).stay (λb u _ q=>k b u q) (λ_ q=>q) λ_ _ q=>q
def Jb.laid (x:Jb P w H h)(k:∀b u,h.get? b=some u->h'.get? b=some u)(hp:h.objs.size<=a)(new:CL P w (upd H a o) h' a o):Jb P w (upd H a o) h':=λb u e=>by
 have d:=x.fresh hp;by_cases hb:b=a
 .subst hb;rw[Aj] at e;cases e;exact new
 .rw [Ai hb] at e;exact(x b u e).stay (λc v _ q=>k c v q) (λc q=>by rw[Ai (Az q d)];exact q) λc xs q=>by rw[Ai (Az q d)];exact q
end
def Rd (H:Hp)(a:ki)(u:HO):Prop:=H a=some u\/∃o,H a=some (.frz o u)
def Rd.ok {P:gn}{w:fe}{H:Hp}{h:cb}{a:ki}{u:HO}(r:Rd H a u)(x:Jb P w H h):CL P w H h a u:=by
 rcases r with r|⟨o,r⟩
 .exact x a u r
 .obtain ⟨_,q⟩:=x a _ r;exact q
def qD:kf HO->Prop
 | some (.lst _)=>True
 | some (.dK _)=>True
 | some (.dT _)=>True
 | some (.dN _ _)=>True
 | some (.set _ _)=>True
 | some (.ins _ _ _)=>True
 | some (.ext _)=>True
 | _=>False
section
variable {P:gn}{w:fe}{H:Hp}{h h':cb}{x e:ki}{o':HO}
def Jb.write (ok:Jb P w H h)(f:qD (H x))(he:e=x\/H e=some (.own x))(k:∀b u,b≠e->h.get? b=some u->h'.get? b=some u)(j:∃u,h'.get? e=some u)(new:CL P w (upd H x o') h' x o'):Jb P w (upd H x o') h':=λb u q=>by
 have a:∀c y,H c=some (.own y)->c≠x:=λc y r z=>by subst z;rw[r] at f;exact f
 have d:∀c xs,H c=some (.tup xs)->c≠x:=λc xs r z=>by subst z;rw[r] at f;exact f
 by_cases hb:b=x
 .subst hb;rw[Aj] at q;cases q;exact new
 .rw [Ai hb] at q;by_cases g:b=e
  .have i:H b=some (.own x):=by
    rcases he with z|z
    .exact absurd (g.trans z) hb
    .rw [g];exact z
   rw[q] at i;cases i;obtain⟨v,hv⟩:=j;exact⟨v,by rw[g];exact hv⟩
  .refine (ok b u q).stay (λc v hc r=>k c v ?_ r) (λc r=>by rw[Ai (a c b r)];exact r) λc xs r=>by rw[Ai (d c xs r)];exact r
   rcases hc with rfl|hc
   .exact g
   .rintro rfl;rcases he with z|z
    .exact a c b hc z
    .rw [hc] at z;cases z;exact hb rfl
end
structure Un (fs ex:List Addr) (H H':Hp) (h h':Heap):Prop where
 keep:∀b o,h.get? b=some o->H b=none->b ∉ fs->b ∉ ex->h'.get? b=some o
 slot:∀b o,h.get? b=some o->H b=none->b∈fs->b ∉ ex->∃sl,h'.get? b=some {o with slots:=sl}
 free:∀b o,h.get? b=some o->H b=none->b ∉ ex->H' b=none
 there:∀b o,h.get? b=some o->b ∉ ex->∃o',h'.get? b=some o'
 tups:∀b xs,H b=some (.tup xs)->H' b=some (.tup xs)
 frzs:∀b o u,H b=some (.frz o u)->H' b=some (.frz o u)
 tbls:∀b ps,H b=some (.tbl ps)->∃more,H' b=some (.tbl (ps++more))
section
variable {fs fs' ex ex':kn ki}{H H1 H2:Hp}{h h1 h2 h':cb}{a x e:ki}{o:HO}
def Un.any (u:Un fs ex H H1 h h1){b:ki}{c:Obj}(q:h.get? b=some c)(n:H b=none)(hx:b ∉ ex):∃sl,h1.get? b=some {c with slots:=sl}:=by
 by_cases hb:b∈fs
 .exact u.slot b c q n hb hx
 .exact ⟨c.slots,u.keep b c q n hb hx⟩
def Un.kept (k:∀b u,h.get? b=some u->h'.get? b=some u):Un fs ex H H h h':=
 ⟨λb c q _ _ _=>k b c q,λb c q _ _ _=>⟨c.slots,k b c q⟩,λ_ _ _ n _=>n,λb c q _=>⟨c,k b c q⟩,λ_ _ q=>q,λ_ _ _ q=>q,λ_ ps q=>⟨#[],by rw[q];simp⟩⟩
def Un.refl:Un fs ex H H h h:=Un.kept λ_ _ q=>q
def Un.laid (k:∀b u,h.get? b=some u->h'.get? b=some u)(hp:h.objs.size<=a)(c:H a=none):Un fs ex H (upd H a o) h h' where
 keep:=λb u q _ _ _=>k b u q
 slot:=λb u q _ _ _=>⟨u.slots,k b u q⟩
 free:=λb u q n _=>by rw[Ai (AAN (AAX (AAF q) hp))];exact n
 there:=λb u q _=>⟨u,k b u q⟩
 tups:=λb xs q=>by rw[Ai (Az q c)];exact q
 frzs:=λb u xs q=>by rw[Ai (Az q c)];exact q
 tbls:=λb ps q=>⟨#[],by rw[Ai (Az q c),q];simp⟩
def Un.write (c:qD (H x))(he:e=x\/H e=some (.own x))(k:∀b u,b≠e->h.get? b=some u->h'.get? b=some u)(g:∃u,h'.get? e=some u):Un fs ex H (upd H x o) h h':=by
 have hx:∀b,H b=none->b≠x:=λb n z=>by subst z;rw[n] at c;exact c
 have hb:∀b,H b=none->b≠e:=λb n z=>by
  subst z;rcases he with r|r
  .exact hx b n r
  .rw [n] at r;cases r
 have d:∀b u,H b=some u->¬qD (some u)->b≠x:=λb u q i z=>by subst z;rw[q] at c;exact i c
 refine⟨λb u q n _ _=>k b u (hb b n) q,λb u q n _ _=>⟨u.slots,k b u (hb b n) q⟩,λb u q n _=>by rw[Ai (hx b n)];exact n,λb u q _=> ?_,
  λb xs q=>by rw[Ai (d b _ q λz=>z)];exact q,λb u xs q=>by rw[Ai (d b _ q λz=>z)];exact q,λb ps q=>⟨#[],by rw[Ai (d b _ q λz=>z),q];simp⟩⟩
 by_cases f:b=e
 .subst f;exact g
 .exact ⟨u,k b u f q⟩
end
def uH (h:cb)(H:Hp):kn ki:=(List.range h.objs.size).filter λa=>(H a).isSome
def Rg (h:cb)(H:Hp):cb:=PySem.W.hideAll h (uH h H)
def Zk (h:cb)(H:Hp):(Rg h H).objs.size=h.objs.size:=PySem.W.hideAll_size _ _
def cR {h:cb}{H:Hp}{b:ki}{o:Obj}(e:h.get? b=some o)(n:H b=none):(Rg h H).get? b=some o:=
 PySem.W.hideAll_get _ e λa=>by have q:(H b).isSome=true:=(AAT.mp a).2;rw[n] at q;simp at q
def g9 {h:cb}{H:Hp}{b:ki}{o:Obj}(e:(Rg h H).get? b=some o):h.get? b=some o/\H b=none:=by
 have a:h.get? b=some o:=PySem.W.of_hideAll (uH h H) e;refine⟨a, ?_⟩;cases q:H b with
 | none=>rfl
 | some x=> have c:b∈uH h H:=AAT.mpr ⟨AAu.mpr (AAF a),by simp[q]⟩;have z:(Rg h H).get? b=none:=PySem.W.hideAll_none (uH h H) c;rw[z] at e;cases e
def gH (g h:cb)(L:ki):kn (ki×Obj):=(List.range h.objs.size).filterMap λa=>if a=L\/(g.get? a).isSome=true then none else (h.get? a).map λo=>(a,o)
def rest (g h:cb)(L d:ki):kn (ki×Obj):=(gH g h L).filter λp=>decide (p.1≠d)
structure Mod (K:AAB) (mg:Str->Option Value) (base:Heap):Prop where
 kin:K.In base
 glob:base.Ns mainGlobals mg
 blt:∃mb,base.Ns builtinsNs mb/\∀x:Str,x≠"__name__" ->mb x=bootBuiltins x
 nolimit:base.NoLimit
structure Cx where
 prog:Program
 w:World
 K:AAB
 mg:Str->Option Value
 base:Heap
 A:Around
 N:List Str
 s₀:Shared
 H₀:Hp
 env:Env
 outer:List Env
 stack:List Env
 ex:List Addr
 fn:Str->Bool
 calm:Bool
 pn:List (Addr×Obj)
 xe:Value->Shared->Prop
def aj (l:kn Env):kn ki:=l.filterMap (·.frame)
abbrev Cx.fs (X:Cx):kn ki:=aj X.outer
def jk (sc:Scope)(x:Str):Prop:=sc.names.lookup x=some .local\/sc.names.lookup x=some .cell\/sc.names.lookup x=some .free
def Loc (sc:Scope)(x:Str):Prop:=sc.names.lookup x=some .local\/sc.names.lookup x=some .cell
def Look (env:Env)(h:cb)(m:Str->kf km)(x:Str)(u:km):Prop:=
 (env.kindOf x=some .local/\m x=some u)\/((env.kindOf x=some .cell\/env.kindOf x=some .free)/\∃c,env.cells.lookup x=some c/\h.IsCell c (some u))
structure Cx.Ok (X:Cx):Prop where
 mod:Mod X.K X.mg X.base
 kind:X.env.scope.kind= .function
 glob:X.env.globals=mainGlobals
 blt:X.env.builtins=builtinsNs
 above:X.s₀.heap.objs.size<=X.env.locals
 inj:∀x y c,X.env.cells.lookup x=some c->X.env.cells.lookup y=some c->x=y
 has:∀x,(X.env.kindOf x=some .cell\/X.env.kindOf x=some .free)->∃c,X.env.cells.lookup x=some c
 cab:∀x c,X.fn x=true->X.env.cells.lookup x=some c->X.s₀.heap.objs.size<=c
 hd:X.calm=true->X.A.handled=none
 frames:X.A.frames=some X.stack
 stk:X.stack=X.outer\/(X.stack=X.env::X.outer/\X.env.frame=some X.env.locals)
 exf:∀b∈X.ex,b≠X.env.locals/\∀x c,X.env.cells.lookup x=some c->c≠b
 bs:∀b o,X.base.get? b=some o->X.s₀.heap.get? b=some o/\X.H₀ b=none
 bsz:X.base.objs.size<=X.s₀.heap.objs.size
 noex:∀b o,X.base.get? b=some o->b ∉ X.ex
 exfs:∀b∈X.ex,b ∉ X.fs
 funs:X.s₀.heap.FunFrames X.base X.outer
 frf:∀b∈X.fs,X.H₀ b=none
structure Inv (X:Cx) (Tb:List (Addr×Obj)) (σ:List (Option V)) (H:Hp) (s:Shared):Prop where
 ok:X.Ok
 os:s.os=X.s₀.os
 bare:AllBare s.gens
 base:Un X.fs X.ex X.H₀ H X.s₀.heap s.heap
 loc:∃m,s.heap.Ns X.env.locals m/\∀(i:Nat) (x:Str) (v:V),X.N[i]? =some x->σ[i]? =some (some v)->jk X.env.scope x->∃u,RelV v u/\Look X.env s.heap m x u
 cell:∀x c,X.env.cells.lookup x=some c->∃v,s.heap.IsCell c v
 free:H X.env.locals=none
 freeC:∀x c,X.env.cells.lookup x=some c->H c=none
 pin:∀p∈X.pn++Tb,s.heap.get? p.1=some p.2/\H p.1=none/\p.1≠X.env.locals/\p.1 ∉ X.fs/\∀v,p.2.data≠ .cell v
 hok:Jb X.prog X.w H s.heap
 len:σ.length=X.N.length
section
variable {X:Cx}{Tb:kn (ki×Obj)}{σ:kn (kf V)}{H H':Hp}{s:kj}{h':cb}
def Cx.Ok.nofr (ok:X.Ok){b:ki}{o:Obj}(e:X.base.get? b=some o):b ∉ X.fs:=λhb=>by have:=(ok.funs.mem hb).1;rw[e] at this;cases this
def Inv.bs (I:Inv X Tb σ H s):∀b o,X.base.get? b=some o->s.heap.get? b=some o/\H b=none:=λb o e=>
 ⟨I.base.keep b o (I.ok.bs b o e).1 (I.ok.bs b o e).2 (I.ok.nofr e) (I.ok.noex b o e),I.base.free b o (I.ok.bs b o e).1 (I.ok.bs b o e).2 (I.ok.noex b o e)⟩
def Inv.bk (I:Inv X Tb σ H s):∀b o,X.base.get? b=some o->s.heap.get? b=some o:=λb o e=>(I.bs b o e).1
def Inv.mod (I:Inv X Tb σ H s):Mod X.K X.mg X.base:=I.ok.mod
def Inv.kIn (I:Inv X Tb σ H s):X.K.In s.heap:=I.ok.mod.kin.keeps I.bk
def Inv.nolimit (I:Inv X Tb σ H s):s.heap.NoLimit:=I.ok.mod.nolimit.keeps I.bk
def Inv.fr (I:Inv X Tb σ H s):∃m,Fr X.base X.env.locals s.heap m:=
 let ⟨m,a,_⟩:=I.loc
 ⟨m,a,I.bk,AAU I.ok.bsz I.ok.above⟩
def Inv.lt (I:Inv X Tb σ H s):X.env.locals<s.heap.objs.size:=let ⟨_,a,_⟩:=I.loc;a.lt
def Inv.sz (I:Inv X Tb σ H s):X.s₀.heap.objs.size<=s.heap.objs.size:=AAU I.ok.above (AC0 I.lt)
def Inv.nofs (I:Inv X Tb σ H s){a:ki}(h:s.heap.objs.size<=a):a ∉ X.fs:=λhb=>by obtain⟨_,o,b,_⟩:=I.ok.funs.mem hb;exact absurd (AAX (AAF b) (AAU I.sz h)) (ACC _)
def Inv.cne (I:Inv X Tb σ H s):∀x c,X.env.cells.lookup x=some c->c≠X.env.locals:=λx c e z=>by obtain⟨v,o,a,hd⟩:=I.cell x c e;obtain⟨m,⟨f,es,ep,b,d,_⟩,_⟩:=I.loc;rw[z,b] at a;cases a;rw[d] at hd;cases hd
def Inv.funs (I:Inv X Tb σ H s):s.heap.FunFrames X.base X.outer:=by
 have all:∀(l:kn Env),(∀b∈aj l,b∈X.fs)->X.s₀.heap.FunFrames X.base l->s.heap.FunFrames X.base l:=by
  intro l;induction l with
  | nil=>intro _ _;trivial
  | cons env r d=> intro hs hl;obtain⟨hk,⟨L,o,a,f,g,hd⟩,h⟩:=hl;have c:L∈X.fs:=hs L (by unfold aj;rw[AC1,a];exact ACS);obtain⟨sl,e⟩:=I.base.slot L o g (I.ok.frf L c) c λz=>I.ok.exfs L z c;exact⟨hk,⟨L,_,a,f,e,hd⟩,d (λb hb=>hs b (by unfold aj;rw[AC1,a];exact ABz _ hb)) h⟩
 exact all X.outer (λ_ hb=>hb) I.ok.funs
def Inv.stack (I:Inv X Tb σ H s):s.heap.FunFrames X.base X.stack:=by
 rcases I.ok.stk with e|⟨e,a⟩
 .rw [e];exact I.funs
 .rw [e];obtain⟨m,b,_⟩:=I.loc;refine .cons (by rw[I.ok.kind];decide) a b ?_ I.funs;exact Heap.get?_none_of_le (AAU I.ok.bsz I.ok.above)
def Inv.stkSub (I:Inv X Tb σ H s):∀b∈aj X.stack,b∈X.env.locals::X.fs:=λb hb=>by
 rcases I.ok.stk with e|⟨e,a⟩
 .rw [e] at hb;exact ABz _ hb
 .rw [e] at hb;unfold aj at hb;rw[AC1,a] at hb;exact hb
def Inv.stkFree (I:Inv X Tb σ H s):∀b∈aj X.stack,H b=none:=λb hb=>by
 rcases AAI.mp (I.stkSub b hb) with e|hb
 .rw [e];exact I.free
 .obtain ⟨_,o,a,_⟩:=I.ok.funs.mem hb;exact I.base.free b o a (I.ok.frf b hb) λz=>I.ok.exfs b z hb
def Inv.step {g':Array GenState}{t':Nat}{d':Drawn}{ch:kn ki}(I:Inv X Tb σ H s)(j:∀b∈ch,(b∈X.ex\/X.s₀.heap.objs.size<=b)/\b≠X.env.locals/\(∀x c,X.env.cells.lookup x=some c->c≠b)/\∀p∈X.pn++Tb,p.1≠b)(keep:∀b o,b≠X.env.locals->b ∉ X.fs->b ∉ ch->s.heap.get? b=some o->H b=none->h'.get? b=some o)(slot:∀b o,b≠X.env.locals->b∈X.fs->b ∉ ch->s.heap.get? b=some o->H b=none->∃sl,h'.get? b=some {o with slots:=sl})(free:∀b o,b ∉ ch->s.heap.get? b=some o->H b=none->H' b=none)(there:∀b o,b ∉ ch->s.heap.get? b=some o->∃t,h'.get? b=some t)(tups:∀b xs,H b=some (.tup xs)->H' b=some (.tup xs))(frzs:∀b o u,H b=some (.frz o u)->H' b=some (.frz o u))(tbls:∀b ps,H b=some (.tbl ps)->∃more,H' b=some (.tbl (ps++more)))(ns:∀m,s.heap.Ns X.env.locals m->h'.Ns X.env.locals m)(hok:Jb X.prog X.w H' h')(C:AllBare g'):Inv X Tb σ H' {s with heap:=h',gens:=g',drawn:=d',toks:=t'}:=by
 have y:∀b o,X.s₀.heap.get? b=some o->b≠X.env.locals:=λb o e=>AAN (AAX (AAF e) I.ok.above);have f:∀b o,X.s₀.heap.get? b=some o->b ∉ X.ex->b ∉ ch:=λb o e hx hb=>by
  rcases (j b hb).1 with z|z
  .exact hx z
  .exact absurd (AAX (AAF e) z) (ACC _)
 have cellK:∀x c,X.env.cells.lookup x=some c->∀v,s.heap.IsCell c v->h'.IsCell c v:=λx c e v ⟨o,h,hd⟩=>by
  have a:c ∉ ch:=λz=>(j c z).2.2.1 x c e rfl;by_cases hc:c∈X.fs
  .obtain ⟨sl,q⟩:=slot c o (I.cne x c e) hc a h (I.freeC x c e);exact⟨_,q,hd⟩
  .exact ⟨o,keep c o (I.cne x c e) hc a h (I.freeC x c e),hd⟩
 refine⟨I.ok,I.os,C,⟨λb o e n hb hx=> ?_,λb o e n hb hx=> ?_,λb o e n hx=> ?_,λb o e hx=> ?_,λb xs e=>tups b xs (I.base.tups b xs e),λb o xs e=>frzs b o xs (I.base.frzs b o xs e),λb ps e=> ?_⟩, ?_,λx c e=> ?_, ?_,λx c e=> ?_,λp hp=> ?_,hok,I.len⟩
 .exact keep b o (y b o e) hb (f b o e hx) (I.base.keep b o e n hb hx) (I.base.free b o e n hx)
 .obtain ⟨sl,g⟩:=I.base.slot b o e n hb hx;obtain⟨ao,A⟩:=slot b _ (y b o e) hb (f b o e hx) g (I.base.free b o e n hx);exact⟨ao,A⟩
 .obtain ⟨t,g⟩:=I.base.there b o e hx;exact free b t (f b o e hx) g (I.base.free b o e n hx)
 .obtain ⟨t,g⟩:=I.base.there b o e hx;exact there b t (f b o e hx) g
 .obtain ⟨m1,g⟩:=I.base.tbls b ps e;obtain⟨m2,A⟩:=tbls b _ g;exact⟨m1++m2,by rw[A,Array.append_assoc]⟩
 .obtain ⟨m,D,hl⟩:=I.loc;refine⟨m,ns m D,λi x v g A E=> ?_⟩;obtain⟨u,r,l⟩:=hl i x v g A E;refine⟨u,r, ?_⟩;rcases l with l|⟨k,c,e,z⟩
  .exact .inl l
  .exact .inr ⟨k,c,e,cellK x c e _ z⟩
 .obtain ⟨v,z⟩:=I.cell x c e;exact⟨v,cellK x c e v z⟩
 .obtain ⟨m,⟨o,_,_,h,_⟩,_⟩:=I.loc;exact free _ o (λz=>(j _ z).2.1 rfl) h I.free
 .obtain ⟨v,o,h,hd⟩:=I.cell x c e;exact free c o (λz=>(j c z).2.2.1 x c e rfl) h (I.freeC x c e)
 .obtain ⟨e,n,ne,B,d⟩:=I.pin p hp;have a:p.1 ∉ ch:=λz=>(j p.1 z).2.2.2 p hp rfl;exact⟨keep p.1 p.2 ne B a e n,free p.1 p.2 a e n,ne,B,d⟩
def Inv.un {t':Nat}(I:Inv X Tb σ H s)(u:Un X.fs [] H H' s.heap h')(hok:Jb X.prog X.w H' h'):Inv X Tb σ H' {s with heap:=h',toks:=t'}:=by
 obtain⟨m,⟨o,es,ep,d,r⟩,_⟩:=id I.loc;obtain⟨sl,g⟩:=u.any d I.free (by simp);exact I.step (g':=s.gens) (d':=s.drawn) (ch:= []) (λ_ z=>nomatch z) (λb o _ hb _ e n=>u.keep b o e n hb (by simp)) (λb o _ hb _ e n=>u.slot b o e n hb (by simp)) (λb o _ e n=>u.free b o e n (by simp)) (λb o _ e=>u.there b o e (by simp)) u.tups u.frzs u.tbls (λj h=>by
  obtain⟨k,a,c,f,i⟩:=h;rw[d] at f;cases f;exact⟨_,a,c,g,i⟩) hok I.bare
def Inv.call {g':Array GenState}{t':Nat}{d':Drawn}{ch:kn ki}(I:Inv X Tb σ H s)(u:Un (aj X.stack) ch H H' s.heap h')(hok:Jb X.prog X.w H' h')(j:AllBare g')(g:∀b∈ch,(b∈X.ex\/X.s₀.heap.objs.size<=b)/\b≠X.env.locals/\(∀x c,X.env.cells.lookup x=some c->c≠b)/\∀p∈X.pn++Tb,p.1≠b):Inv X Tb σ H' {s with heap:=h',gens:=g',drawn:=d',toks:=t'}:=by
 obtain⟨m,⟨o,es,ep,h,r⟩,_⟩:=id I.loc;obtain⟨sl,a⟩:=u.any h I.free λz=>(g _ z).2.1 rfl;exact I.step (ch:=ch) g (λb o a hb hc e n=>u.keep b o e n (λz=>(AAI.mp (I.stkSub b z)).elim a hb) hc) (λb o _ _ hc e n=>u.any e n hc) (λb o hc e n=>u.free b o e n hc) (λb o hc e=>u.there b o e hc) u.tups u.frzs u.tbls (λt k=>by
  obtain⟨v,d,f,i,l⟩:=k;rw[h] at i;cases i;exact⟨_,d,f,a,l⟩) hok j
def Inv.turned {t':Nat}{it:ki}(I:Inv X Tb σ H s)(k:∀b o,b≠it->s.heap.get? b=some o->h'.get? b=some o)(f:H it=none)(d:it≠X.env.locals)(h1:it∈X.ex\/X.s₀.heap.objs.size<=it)(h2:∀x c,X.env.cells.lookup x=some c->c≠it)(h3:∀p∈X.pn++Tb,p.1≠it):Inv X Tb σ H {s with heap:=h',toks:=t'}:=by
 have a:∀b u,H b=some u->b≠it:=λb u e z=>by rw[z,f] at e;cases e
 refine I.step (g':=s.gens) (d':=s.drawn) (ch:= [it]) (λb hb=> ?_) (λb o _ _ hc e _=>k b o (λz=>hc (by simp[z])) e) (λb o _ _ hc e _=>⟨o.slots,k b o (λz=>hc (by simp[z])) e⟩) (λ_ _ _ _ n=>n)
  (λb o hc e=>⟨o,k b o (λz=>hc (by simp[z])) e⟩) (λ_ _ e=>e) (λ_ _ _ e=>e) (λb ps e=>⟨#[],by rw[e];simp⟩) (λm g=> ?_) (λb u e=> ?_) I.bare
 .have e:b=it:=by simpa using hb
  subst e;exact⟨h1,d,h2,h3⟩
 .obtain ⟨o,es,ep,h,r⟩:=g;exact⟨o,es,ep,k _ o (ABI d) h,r⟩
 .refine (I.hok b u e).stay (λc v hc q=>k c v ?_ q) (λ_ q=>q) λ_ _ q=>q;rcases hc with z|z
  .rw [z];exact a b u e
  .exact a c _ z
def Inv.tok (I:Inv X Tb σ H s)(t:Nat):Inv X Tb σ H {s with toks:=t}:=I.un (h':=s.heap) (t':=t) Un.refl I.hok
def Inv.kept {t':Nat}(I:Inv X Tb σ H s)(k:∀b u,s.heap.get? b=some u->h'.get? b=some u):Inv X Tb σ H {s with heap:=h',toks:=t'}:=I.un (Un.kept k) (I.hok.kept k)
def Inv.laid {a:ki}{o:HO}{t':Nat}(I:Inv X Tb σ H s)(k:∀b u,s.heap.get? b=some u->h'.get? b=some u)(hp:s.heap.objs.size<=a)(new:CL X.prog X.w (upd H a o) h' a o):Inv X Tb σ (upd H a o) {s with heap:=h',toks:=t'}:=I.un (Un.laid k hp (I.hok.fresh hp)) (I.hok.laid k hp new)
def Inv.write {x e:ki}{o:HO}{t':Nat}(I:Inv X Tb σ H s)(a:qD (H x))(he:e=x\/H e=some (.own x))(k:∀b u,b≠e->s.heap.get? b=some u->h'.get? b=some u)(c:∃u,h'.get? e=some u)(new:CL X.prog X.w (upd H x o) h' x o):Inv X Tb σ (upd H x o) {s with heap:=h',toks:=t'}:=I.un (Un.write a he k c) (I.hok.write a he k c new)
def Inv.weak {σ':kn (kf V)}(I:Inv X Tb σ H s)(hl:σ'.length=σ.length)(w:∀(i:Nat) v,σ'[i]? =some (some v)->σ[i]? =some (some v)):Inv X Tb σ' H s:=
 ⟨I.ok,I.os,I.bare,I.base,let ⟨m,a,b⟩:=I.loc;⟨m,a,λi x v c d e=>b i x v c (w i v d) e⟩,I.cell,I.free,I.freeC,I.pin,I.hok,hl.trans I.len⟩
def Inv.pins_of {a:kn (ki×Obj)}(I:Inv X Tb σ H s)(h:∀p∈a,s.heap.get? p.1=some p.2/\H p.1=none/\p.1≠X.env.locals/\p.1 ∉ X.fs/\∀v,p.2.data≠ .cell v):Inv X a σ H s:=
 ⟨I.ok,I.os,I.bare,I.base,I.loc,I.cell,I.free,I.freeC,λp hp=>(AAL.mp hp).elim (λz=>I.pin p (List.mem_append_left _ z)) (h p),I.hok,I.len⟩
def Uh {N:kn Str}(hN:N.Nodup){i j:Nat}{x:Str}(a:N[i]? =some x)(b:N[j]? =some x):i=j:=by obtain⟨h1,c⟩:=AA3.mp a;obtain⟨h2,d⟩:=AA3.mp b;exact(List.getElem_inj hN).mp (c.trans d.symm)
def LV {M:Model}{A:Wf}{E:km->kj->Prop}{i:Nat}{x:Str}{v:V}{u:km}{Q:Unit->kj->Prop}(I:Inv X Tb σ H s)(hN:X.N.Nodup)(hi:X.N[i]? =some x)(hx:Loc X.env.scope x)(r:RelV v u)(h:∀D,Inv X Tb (σ.set i (some v)) H D->(∃a,Heap.SameBut a s.heap D.heap/\(a=X.env.locals\/X.env.cells.lookup x=some a))->Q () D)(hf:X.fn x=true\/X.env.scope.names.lookup x=some .local:=by first | exact .inl rfl|exact .inr rfl|assumption):wpAny M A (storeName X.env x u) Q E s:=by
 obtain⟨m,F,hl⟩:=id I.loc;have u9:(X.env.scope.kind == .class||(X.env.scope.kind == .module&&X.env.locals != X.env.globals))=false:=by rw[I.ok.kind];rfl
 have l:i<σ.length:=by rw[I.len];exact(AA3.mp hi).1
 have t:=I.cne;have tracked:∀{a:ki} {h':cb},(∃o,s.heap.get? a=some o/\H a=none)->Heap.SameBut a s.heap h'->Jb X.prog X.w H h':=λ{a h'} ha hs b ob e=>by
  obtain⟨_,_,U⟩:=ha;refine(I.hok b ob e).stay (λc B hc q=>(hs.2 c ?_).trans q) (λ_ q=>q) λ_ _ q=>q;rintro rfl;rcases hc with rfl|hc
  .rw [U] at e;cases e
  .rw [U] at hc;cases hc
 rcases hx with hk|hk
 .refine wpAny_storeName_local hk F (λh' G hs=> ?_) u9;obtain⟨oL,_,_,J,_⟩:=id F;refine h _ ⟨I.ok,I.os,I.bare,⟨λb o e n hb hx=> ?_,λb o e n hb hx=> ?_,I.base.free,λb o e hx=> ?_,I.base.tups,I.base.frzs,I.base.tbls⟩,⟨_,G,λj y K f g L=> ?_⟩,λy c e=> ?_,I.free,I.freeC,λp hp=> ?_,tracked ⟨oL,J,I.free⟩ hs,by simpa using I.len⟩ ⟨_,hs, .inl rfl⟩
  .exact (hs.2 b (AAN (AAX (AAF e) I.ok.above))).trans (I.base.keep b o e n hb hx)
  .obtain ⟨sl,f⟩:=I.base.slot b o e n hb hx;exact⟨sl,(hs.2 b (AAN (AAX (AAF e) I.ok.above))).trans f⟩
  .obtain ⟨O,f⟩:=I.base.there b o e hx;exact⟨O,(hs.2 b (AAN (AAX (AAF e) I.ok.above))).trans f⟩
  .by_cases hj:j=i
   .subst hj;rw[hi] at f;cases f;rw[ACi l] at g;cases g;exact⟨u,r, .inl ⟨hk,by simp⟩⟩
   .rw [AAf (ABI hj)] at g;obtain⟨P,R,q⟩:=hl j y K f g L;refine⟨P,R, ?_⟩;rcases q with⟨k,e⟩|⟨k,c,e,z⟩
    .refine .inl ⟨k, ?_⟩;have:y≠x:=λe=>hj (Uh hN f (e ▸ hi));simp[this,e]
    .exact .inr ⟨k,c,e,z.sameBut hs (t y c e)⟩
  .obtain ⟨B,z⟩:=I.cell y c e;exact⟨B,z.sameBut hs (t y c e)⟩
  .obtain ⟨e,n,ne,S,d⟩:=I.pin p hp;exact⟨(hs.2 p.1 ne).trans e,n,ne,S,d⟩
 .have T:X.fn x=true:=by
   rcases hf with z|z
   .exact z
   .rw [z] at hk;cases hk
  obtain⟨c,hc⟩:=I.ok.has x (.inl hk);obtain⟨B,z⟩:=I.cell x c hc;refine wpAny_storeName_cell I.ok.kind hk hc z (λh' W hs=> ?_);obtain⟨Y,Z,vG⟩:=id z;refine h {s with heap:=h'} ⟨I.ok,I.os,I.bare,⟨λb o e n hb hx=> ?_,λb o e n hb hx=> ?_,I.base.free,λb o e hx=> ?_,I.base.tups,I.base.frzs,I.base.tbls⟩,⟨m,F.sameBut hs (ABI (t x c hc)),λj y K f g L=> ?_⟩,λy C e=> ?_,I.free,I.freeC,λp hp=> ?_,tracked ⟨Y,Z,I.freeC x c hc⟩ hs,by simpa using I.len⟩ ⟨c,hs, .inr hc⟩
  .exact (hs.2 b (AAN (AAX (AAF e) (I.ok.cab x c T hc)))).trans (I.base.keep b o e n hb hx)
  .obtain ⟨sl,f⟩:=I.base.slot b o e n hb hx;exact⟨sl,(hs.2 b (AAN (AAX (AAF e) (I.ok.cab x c T hc)))).trans f⟩
  .obtain ⟨O,f⟩:=I.base.there b o e hx;exact⟨O,(hs.2 b (AAN (AAX (AAF e) (I.ok.cab x c T hc)))).trans f⟩
  .by_cases hj:j=i
   .subst hj;rw[hi] at f;cases f;rw[ACi l] at g;cases g;exact⟨u,r, .inr ⟨.inl hk,c,hc,W⟩⟩
   .rw [AAf (ABI hj)] at g;obtain⟨P,R,q⟩:=hl j y K f g L;refine⟨P,R, ?_⟩;rcases q with q|⟨k,C,e,z'⟩
    .exact .inl q
    .refine .inr ⟨k,C,e,z'.sameBut hs ?_⟩;rintro rfl;exact hj (Uh hN f (I.ok.inj _ _ _ e hc ▸ hi))
  .by_cases xn:C=c
   .subst xn;exact⟨_,W⟩
   .obtain ⟨w2,z2⟩:=I.cell y C e;exact⟨w2,z2.sameBut hs xn⟩
  .obtain ⟨e,n,ne,S,d⟩:=I.pin p hp;refine⟨(hs.2 p.1 ?_).trans e,n,ne,S,d⟩;intro q;rw[q,Z] at e;have q':Y=p.2:=AAn e;exact d B (by rw[<-q'];exact vG)
def HB {M:Model}{A:Wf}{E:km->kj->Prop}{i:Nat}{x:Str}{v:V}{u:km}{Q:Unit->kj->Prop}(I:Inv X Tb σ H s)(hN:X.N.Nodup)(hi:X.N[i]? =some x)(hx:Loc X.env.scope x)(r:RelV v u)(h:∀a,Inv X Tb (σ.set i (some v)) H a->Q () a)(b:X.fn x=true\/X.env.scope.names.lookup x=some .local:=by first | exact .inl rfl|exact .inr rfl|assumption):wpAny M A (storeName X.env x u) Q E s:=
 LV I hN hi hx r (λa c _=>h a c) b
def Inv.call' {a:kj}{ch:kn ki}(I:Inv X Tb σ H s)(d:a.os=s.os)(u:Un (aj X.stack) ch H H' s.heap a.heap)(hok:Jb X.prog X.w H' a.heap)(f:AllBare a.gens)(g:∀b∈ch,(b∈X.ex\/X.s₀.heap.objs.size<=b)/\b≠X.env.locals/\(∀x c,X.env.cells.lookup x=some c->c≠b)/\∀p∈X.pn++Tb,p.1≠b):Inv X Tb σ H' a:=by obtain⟨h',g',d',t',h⟩:=a;have e:h=s.os:=d;subst e;exact I.call (g':=g') (t':=t') (d':=d') u hok f g
end
abbrev XK:=km->kf ki->Hp->Prop
abbrev St:=kn (kf V)
abbrev VK:=V->Hp->Prop
abbrev TE:=St->Hp->VK->Prop
abbrev TT:=St->Hp->(kd->Hp->Prop)->Prop
abbrev TA:=St->Hp->(kn V->Hp->Prop)->Prop
structure RB where
 nx:St->Hp->Prop
 rt:VK
 bk:St->Hp->Prop:=λ_ _=>False
 ct:St->Hp->Prop:=λ_ _=>False
abbrev TS:=RB->St->Hp->Prop
def EP (X:Cx)(b:kn (ki×Obj))(c:St)(Q:VK)(u:km)(d:kj):Prop:=∃v a,Inv X b c a d/\RelV v u/\Q v a
def TP (X:Cx)(c:kn (ki×Obj))(d:St)(Q:kd->Hp->Prop)(b:kd)(e:kj):Prop:=∃a,Inv X c d a e/\Q b a
def AP (X:Cx)(b:kn (ki×Obj))(c:St)(Q:kn V->Hp->Prop)(d:kn km)(e:kj):Prop:=∃vs a,Inv X b c a e/\Ax vs d/\Q vs a
def SP (X:Cx)(b:kn (ki×Obj))(D:RB)(f:Flow)(c:kj):Prop:=
 match f with
 | .next=>∃σ' a,Inv X b σ' a c/\D.nx σ' a
 | .brk=>∃σ' a,Inv X b σ' a c/\D.bk σ' a
 | .cont=>∃σ' a,Inv X b σ' a c/\D.ct σ' a
 | .ret u=>∃v σ' a,Inv X b σ' a c/\RelV v u/\D.rt v a
def PE (X:Cx)(e:ke)(t:TE):Prop:=
 ∀(b:kn (ki×Obj)) (s:kj) (a:St) (H:Hp) (Q:VK),Inv X b a H s->t a H Q->wpAny (model X.prog X.w) X.A (eval e X.env) (EP X b a Q) X.xe s
def PT (X:Cx)(e:ke)(t:TT):Prop:=
 ∀(b:kn (ki×Obj)) (s:kj) (a:St) (H:Hp) (Q:kd->Hp->Prop),Inv X b a H s->t a H Q->wpAny (model X.prog X.w) X.A (isTrue e X.env (eval e X.env)) (TP X b a Q) X.xe s
def PW (X:Cx)(e:ke)(t:TT):Prop:=
 ∀(whole:Sem km) (b:kn (ki×Obj)) (s:kj) (a:St) (H:Hp) (Q:kd->Hp->Prop),Inv X b a H s->t a H Q->wpAny (model X.prog X.w) X.A (isTrue e X.env whole) (TP X b a Q) X.xe s
def PW.pt {X:Cx}{e:ke}{t:TT}(h:PW X e t):PT X e t:=h _
def PA (X:Cx)(es:kn ke)(t:TA):Prop:=
 ∀(pos:Pos) (b:kn (ki×Obj)) (s:kj) (a:St) (H:Hp) (Q:kn V->Hp->Prop),Inv X b a H s->t a H Q->wpAny (model X.prog X.w) X.A (spliced (backTo pos (starEach es X.env))) (AP X b a Q) X.xe s
def PS (X:Cx)(st:Stmt)(t:TS):Prop:=
 ∀(a:kn (ki×Obj)) (s:kj) (b:St) (H:Hp) (D:RB),Inv X a b H s->t D b H->wpAny (model X.prog X.w) X.A (exec st X.env) (SP X a D) X.xe s
def Th (X:Cx)(st:kn Stmt)(t:TS):Prop:=
 ∀(a:kn (ki×Obj)) (s:kj) (b:St) (H:Hp) (D:RB),Inv X a b H s->t D b H->wpAny (model X.prog X.w) X.A (execs st X.env) (SP X a D) X.xe s
def BR {b:Type}{t:Sem b}{Q c:b->kj->Prop}{M:Model}{A:Wf}{E:km->kj->Prop}{s:kj}(h:wpAny M A t Q E s)(hQ:∀a s,Q a s->c a s):wpAny M A t c E s:=AB0 h hQ λ_ _ x=>x
section
variable {X:Cx}
def JD (i:Nat):TE:=λa H Q=>∃v,a[i]? =some (some v)/\Q v H
def tC (v:V):TE:=λ_ H Q=>Q v H
def N8 {i:Nat}{x:Str}{pos:Pos}(hN:X.N[i]? =some x)(hv:jk X.env.scope x)(hd:(x==("__debug__" :Str))=false:=by decide)(d:(x==("__classdict__" :Str))=false:=by decide):PE X (.Name x pos) (JD i):=by
 intro f s g H Q I h;obtain⟨v,e,h⟩:=h;obtain⟨m,j,hl⟩:=I.loc;obtain⟨u,r,l⟩:=hl i x v hN e hv;have a:EP X f g Q u s:=⟨v,H,I,r,h⟩;rcases l with⟨hk,k⟩|⟨hk,c,hc,b⟩
 .exact wpAny_Name (wpAny_loadName_local I.ok.kind hk j k a) hd
 .rcases hk with hk|hk
  .exact wpAny_Name (wpAny_loadName_cell I.ok.kind hk hc b a) hd
  .exact wpAny_Name (wpAny_loadName_free I.ok.kind hk hc b a d) hd
def BL {i j pos}:PE X (.Constant (.int i) j pos) (tC (.int i)):=λ_ _ _ H _ I h=>wpAny_Constant_int ⟨.int i,H,I.tok _,⟨_,rfl⟩,h⟩
def rW {b j pos}:PE X (.Constant (.bool b) j pos) (tC (.bl b)):=λ_ _ _ H _ I h=>Constant_bool ⟨.bl b,H,I,rfl,h⟩
def nM {j pos}:PE X (.Constant .none j pos) (tC .non):=λ_ _ _ H _ I h=>Constant_none ⟨.non,H,I,rfl,h⟩
def nQ {x j pos}:PE X (.Constant (.str x) j pos) (tC (.str x)):=λ_ _ _ H _ I h=>Calls.Constant_str ⟨.str x,H,I.tok _,⟨_,rfl⟩,h⟩
def Gl (X:Cx)(x:Str):Prop:=X.env.kindOf x=some .globalImplicit
def YH {E:km->kj->Prop}{a:kn (ki×Obj)}{s:kj}{b:St}{H:Hp}{x:Str}{u:km}{pos:Pos}{Q:km->kj->Prop}(I:Inv X a b H s)(c:Gl X x)(d:X.mg x=some u)(h:Q u s)(hd:(x==("__debug__" :Str))=false:=by decide):wpAny (model X.prog X.w) X.A (eval (.Name x pos) X.env) Q E s:=
 Calls.Name_function_global I.ok.kind c (Calls.loadGlobal_global (by rw[I.ok.glob];exact I.mod.glob.keeps I.bk) d h) hd
def Fj {E:km->kj->Prop}{a:kn (ki×Obj)}{s:kj}{b:St}{H:Hp}{x:Str}{u:km}{pos:Pos}{Q:km->kj->Prop}(I:Inv X a b H s)(c:Gl X x)(d:X.mg x=none)(hv:bootBuiltins x=some u)(h:Q u s)(e:x≠"__name__" :=by decide)(hd:(x==("__debug__" :Str))=false:=by decide):wpAny (model X.prog X.w) X.A (eval (.Name x pos) X.env) Q E s:=by obtain⟨f,h1,h2⟩:=I.mod.blt;exact Calls.Name_function_global I.ok.kind c (Calls.loadGlobal_builtin (by rw[I.ok.glob];exact I.mod.glob.keeps I.bk) d (by rw[I.ok.blt];exact h1.keeps I.bk) ((h2 x e).trans hv) h) hd
def iM {x:Str}{v:V}{u:km}{pos:Pos}(a:Gl X x)(b:X.mg x=some u)(r:RelV v u)(hd:(x==("__debug__" :Str))=false:=by decide):PE X (.Name x pos) (tC v):=
 λ_ _ _ H _ I h=>YH I a b ⟨v,H,I,r,h⟩ hd
def iJ {x:Str}{v:V}{u:km}{pos:Pos}(a:Gl X x)(b:X.mg x=none)(hv:bootBuiltins x=some u)(r:RelV v u)(c:x≠"__name__" :=by decide)(hd:(x==("__debug__" :Str))=false:=by decide):PE X (.Name x pos) (tC v):=
 λ_ _ _ H _ I h=>Fj I a b hv ⟨v,H,I,r,h⟩ c hd
variable {a b:ke}{ta tb:TE}{pos:Pos}
def tB (t:TE):TT:=λd H Q=>t d H λx H1=>∃c,x= .bl c/\Q c H1
def nY {e:ke}{t:TE}(h:PE X e t)(he:∀whole,isTrue e X.env whole=(do let v <-whole;standAt e.pos;holding [v] (truthy v)):=by intro _;rfl):PT X e (tB t):=by intro c s f H Q I hw;refine isTrue_plain (BR (h c s f H _ I hw) λv k ⟨x,H1,g,i,j⟩=> ?_) (he _);obtain⟨d,rfl,q⟩:=j;cases i;exact ACR ⟨H1,g,q⟩
variable {tA tB':TT}{rest:kn ke}
def vt (t u:TT):TT:=λd H Q=>t d H λc H1=>if c=true then u d H1 Q else Q false H1
def tOr (t u:TT):TT:=λd H Q=>t d H λc H1=>if c=true then Q true H1 else u d H1 Q
def v7 (t:TT):TT:=λd H Q=>t d H λc H1=>Q (!c) H1
def ie (ha:PT X a tA):PW X (.BoolOp .And [a] pos) tA:=by
 intro g d s f H Q I h;refine isTrue_and (BR (ha d s f H Q I h) λc i e=> ?_);cases c with
 | true=>exact isTrue_and_nil e
 | false=>exact e
def ni (ha:PT X a tA):PW X (.BoolOp .Or [a] pos) tA:=by
 intro g d s f H Q I h;refine isTrue_or (BR (ha d s f H Q I h) λc i e=> ?_);cases c with
 | false=>exact isTrue_or_nil e
 | true=>exact e
def nh (ha:PT X a tA)(hb:PW X (.BoolOp .And (b::rest) pos) tB'):PW X (.BoolOp .And (a::b::rest) pos) (vt tA tB'):=by
 intro i d s e H Q I h;refine isTrue_and (BR (ha d s e H _ I h) λc j ⟨H1,f,g⟩=> ?_);cases c with
 | true=>exact hb i d j e H1 Q f g
 | false=>exact⟨H1,f,g⟩
def re (ha:PT X a tA)(hb:PW X (.BoolOp .Or (b::rest) pos) tB'):PW X (.BoolOp .Or (a::b::rest) pos) (tOr tA tB'):=by
 intro i d s e H Q I h;refine isTrue_or (BR (ha d s e H _ I h) λc j ⟨H1,f,g⟩=> ?_);cases c with
 | true=>exact⟨H1,f,g⟩
 | false=>exact hb i d j e H1 Q f g
def nX (ha:PT X a tA):PT X (.UnaryOp .Not a pos) (v7 tA):=by intro d s e H Q I h;exact isTrue_not (ha d s e H (λc H1=>Q (!c) H1) I h)
def sY (ta tb:TE):TE:=λd H Q=>ta d H λx H1=>∃c,x= .bl c/\if c=true then tb d H1 Q else Q (.bl false) H1
def wA (ta tb:TE):TE:=λd H Q=>ta d H λx H1=>∃c,x= .bl c/\if c=true then Q (.bl true) H1 else tb d H1 Q
def tF (ta:TE):TE:=λd H Q=>ta d H λx H1=>∃c,x= .bl c/\Q (.bl (!c)) H1
def nO {op}{t:TE}(h:PE X a t):PE X (.BoolOp op [a] pos) t:=λc s d H Q I hw=>BoolOp_one (h c s d H Q I hw)
def nK (ha:PE X a ta)(hb:PE X (.BoolOp .And (b::rest) pos) tb):PE X (.BoolOp .And (a::b::rest) pos) (sY ta tb):=by
 intro e s f H Q I h;refine BoolOp_and (BR (ha e s f H _ I h) λv i ⟨x,H1,g,j,d⟩=> ?_);obtain⟨c,rfl,d⟩:=d;cases j;refine ACR ?_;cases c with
 | true=>exact hb e i f H1 Q g d
 | false=>exact⟨.bl false,H1,g,rfl,d⟩
def rY (ha:PE X a ta)(hb:PE X (.BoolOp .Or (b::rest) pos) tb):PE X (.BoolOp .Or (a::b::rest) pos) (wA ta tb):=by
 intro e s f H Q I h;refine BoolOp_or (BR (ha e s f H _ I h) λv i ⟨x,H1,g,j,d⟩=> ?_);obtain⟨c,rfl,d⟩:=d;cases j;refine ACR ?_;cases c with
 | false=>exact hb e i f H1 Q g d
 | true=>exact⟨.bl true,H1,g,rfl,d⟩
def nN (ha:PE X a ta):PE X (.UnaryOp .Not a pos) (tF ta):=by intro e s f H Q I h;refine UnaryOp_ (BR (ha e s f H _ I h) λv j ⟨x,H1,g,i,d⟩=> ?_);obtain⟨c,rfl,d⟩:=d;cases i;exact not_of (ACR ⟨.bl (!c),H1,g,rfl,d⟩)
def tIf (t:TT)(ta tb:TE):TE:=λd H Q=>t d H λc H1=>if c=true then ta d H1 Q else tb d H1 Q
def dM {c:ke}(hc:PT X c tA)(ha:PE X a ta)(hb:PE X b tb):PE X (.IfExp c a b pos) (tIf tA ta tb):=by
 intro e s f H Q I h;refine wpAny_IfExp (BR (hc e s f H _ I h) λd g ⟨H1,i,j⟩=> ?_);cases d with
 | true=>exact ha e g f H1 Q i j
 | false=>exact hb e g f H1 Q i j
end
def Et (K:AAB)(H:Hp)(a:ki)(xs:kn V):Prop:=
 Rd H a (.lst xs)\/
  ∃(o:Obj) (b:Array km) (n:Nat),K.lookup a=some o/\o.cls= .type "list" /\o.dict=none/\o.data= .seq b n/\b.size<=sizeLine/\Ax xs b.toList
def Kx (K:AAB)(H:Hp)(a:ki)(xs:kn V):Prop:=
 Rd H a (.tup xs)\/
  ∃(o:Obj) (b:Array km) (n:Nat),K.lookup a=some o/\o.cls= .type "tuple" /\o.data= .seq b n/\b.size<=sizeLine/\Ax xs b.toList
def ut:km->kf V
 | .none=>some .non
 | .bool b=>some (.bl b)
 | .int i _=>some (.int i)
 | .str x _=>some (.str x)
 | .bytes b _=>some (.byt b)
 | .float b _=>some (.flt b)
 | .ref a=>some (.ref a)
 | .type n=>some (.ty n)
 | _=>none
def RelV.abs {x:V}{u:km}(r:RelV x u):ut u=some x:=by
 cases x with
 | non=>cases r;rfl
 | bl _=>cases r;rfl
 | int _=>obtain⟨t,rfl⟩:=r;rfl
 | str _=>obtain⟨t,rfl⟩:=r;rfl
 | byt _=>obtain⟨t,rfl⟩:=r;rfl
 | flt _=>obtain⟨t,rfl⟩:=r;rfl
 | ref _=>cases r;rfl
 | ty _=>cases r;rfl
def RelV.inj {x y:V}{u:km}(r:RelV x u)(q:RelV y u):x=y:=AAn (r.abs.symm.trans q.abs)
theorem Ax.inj:∀{xs ys:kn V} {a:kn km},Ax xs a->Ax ys a->xs=ys
 | _,_,_, .nil, .nil=>rfl
 | _,_,_, .cons r t, .cons b t'=>by rw[r.inj b,Ax.inj t t']
section
variable {X:Cx}{Tb:kn (ki×Obj)}{σ:St}{H:Hp}{s:kj}{a:ki}{xs ys:kn V}
def Et.of {K:AAB}(h:H a=some (.lst xs)):Et K H a xs:= .inl (.inl h)
def Inv.list (I:Inv X Tb σ H s)(h:Et X.K H a xs):∃b:kn km,Ax xs b/\PlainL s.heap a b.toArray/\xs.length<=sizeLine:=by
 rcases h with h|⟨o,b,n,hk,hc,hd,hs,c,r⟩
 .obtain ⟨z,b,n,r,e⟩:=h.ok I.hok;exact⟨b,r,⟨_,n,e,rfl,rfl,rfl⟩,z⟩
 .refine ⟨b.toList,r,⟨o,n,I.kIn a o hk,hc,hd,by simpa using hs⟩, ?_⟩;have e:=r.length;simp only[ACB] at e;omega
def Inv.tuple (I:Inv X Tb σ H s)(h:Kx X.K H a xs):∃b:kn km,Ax xs b/\IsTup s.heap a b.toArray/\xs.length<=sizeLine:=by
 rcases h with h|⟨o,b,n,hk,hc,hs,c,r⟩
 .obtain ⟨z,b,r,p⟩:=h.ok I.hok;exact⟨b,r,p,z⟩
 .refine ⟨b.toList,r,⟨o,I.kIn a o hk,hc,n,by simpa using hs⟩, ?_⟩;have e:=r.length;simp only[ACB] at e;omega
def Inv.list_inj (I:Inv X Tb σ H s)(h:Et X.K H a xs)(h':Et X.K H a ys):xs=ys:=by
 obtain⟨b,r,⟨o,n,e,_,_,d⟩,_⟩:=I.list h;obtain⟨its',f,⟨i,j,c,_,_,d'⟩,_⟩:=I.list h';rw[e] at c;cases c;rw[d] at d';injection d' with g _;have:b=its':=by simpa using congrArg Array.toList g
 subst this;exact r.inj f
def Inv.tuple_inj (I:Inv X Tb σ H s)(h:Kx X.K H a xs)(h':Kx X.K H a ys):xs=ys:=by
 obtain⟨b,r,⟨o,e,_,n,d⟩,_⟩:=I.tuple h;obtain⟨its',f,⟨i,c,_,j,d'⟩,_⟩:=I.tuple h';rw[e] at c;cases c;rw[d] at d';injection d' with g _;have:b=its':=by simpa using congrArg Array.toList g
 subst this;exact r.inj f
end
abbrev Cx.wish (X:Cx)(E:km->kj->Prop):Cx:={X with xe:=E}
abbrev Cx.nox (X:Cx):Cx:=X.wish λ_ _=>False
def Cx.Ok.wish {X:Cx}(ok:X.Ok)(E:km->kj->Prop):(X.wish E).Ok:=
 ⟨ok.mod,ok.kind,ok.glob,ok.blt,ok.above,ok.inj,ok.has,ok.cab,ok.hd,ok.frames,ok.stk,ok.exf,ok.bs,ok.bsz,ok.noex,ok.exfs,ok.funs,ok.frf⟩
def Cx.Ok.unwish {X:Cx}{E:km->kj->Prop}(ok:(X.wish E).Ok):X.Ok:=
 ⟨ok.mod,ok.kind,ok.glob,ok.blt,ok.above,ok.inj,ok.has,ok.cab,ok.hd,ok.frames,ok.stk,ok.exf,ok.bs,ok.bsz,ok.noex,ok.exfs,ok.funs,ok.frf⟩
section
variable {X:Cx}{Tb:kn (ki×Obj)}{σ:St}{H:Hp}{s:kj}{E:km->kj->Prop}
def Inv.wish (I:Inv X Tb σ H s)(E:km->kj->Prop):Inv (X.wish E) Tb σ H s:=⟨I.ok.wish E,I.os,I.bare,I.base,I.loc,I.cell,I.free,I.freeC,I.pin,I.hok,I.len⟩
def Inv.unwish (I:Inv (X.wish E) Tb σ H s):Inv X Tb σ H s:=⟨I.ok.unwish,I.os,I.bare,I.base,I.loc,I.cell,I.free,I.freeC,I.pin,I.hok,I.len⟩
def SP.unwish {D:RB}{f:Flow}{b:kj}(h:SP (X.wish E) Tb D f b):SP X Tb D f b:=by
 cases f with
 | next=>obtain⟨σ',a,I,q⟩:=h;exact⟨σ',a,I.unwish,q⟩
 | brk=>obtain⟨σ',a,I,q⟩:=h;exact⟨σ',a,I.unwish,q⟩
 | cont=>obtain⟨σ',a,I,q⟩:=h;exact⟨σ',a,I.unwish,q⟩
 | ret u=>obtain⟨v,σ',a,I,r,q⟩:=h;exact⟨v,σ',a,I.unwish,r,q⟩
def Th.nox {st:kn Stmt}{t:TS}(h:Th X.nox st t):Th X st t:=λTb s σ H D I hw=>
 AB0 (h Tb s σ H D (I.wish _) hw) (λ_ _ q=>q.unwish) λ_ _ z=>False.elim z
end
section
variable {X:Cx}{st:Stmt}{rest:kn Stmt}{t u:TS}{e:ke}{te:TE}{pos:Pos}
def tE:TS:=λD a H=>D.nx a H
def tI (t u:TS):TS:=λD a H=>t {D with nx:=u D} a H
def SV:Th X [] tE:=λ_ _ a H _ I h=>ADY ⟨a,H,I,h⟩
def Ct (h1:PS X st t)(h2:Th X rest u):Th X (st::rest) (tI t u):=by
 intro a s b H D I h;refine wpAny_execs_cons (BR (h1 a s b H {D with nx:=u D} I h) λf c q=> ?_);cases f with
 | next=> obtain⟨σ',d,g,q⟩:=q;exact h2 a c σ' d D g q
 | ret v=>exact q
 | brk=>exact q
 | cont=>exact q
def HS (h1:PS X st t):Th X [st] t:=by
 intro a s b H D I h;refine wpAny_execs_cons (BR (h1 a s b H D I h) λf c q=> ?_);cases f with
 | next=>exact ADY q
 | ret v=>exact q
 | brk=>exact q
 | cont=>exact q
def Inv.quiet {a:kn (ki×Obj)}{b:St}{H:Hp}{s:kj}(I:Inv X a b H s):interactive X.env=false:=by simp[interactive,I.ok.kind]
def kC (te:TE):TS:=λD a H=>te a H λ_ H1=>D.nx a H1
def ia (he:PE X e te)(hs:swapsWith e none pos.line X.env=pure false:=by rfl):PS X (.Expr e pos) (kC te):=by intro b s a H D I h;exact wpAny_Expr_any (BR (he b s a H _ I h) λv f ⟨x,H1,c,g,d⟩=>⟨a,H1,c,d⟩) I.quiet hs
def wC (te:TE):TS:=λD a H=>te a H D.rt
def SU (he:PE X e te):PS X (.Return (some e) pos) (wC te):=by intro b s a H D I h;exact wpAny_Return_some (BR (he b s a H _ I h) λv g ⟨x,H1,c,d,f⟩=>⟨x,a,H1,c,d,f⟩)
def v4 (c:TT)(t u:TS):TS:=λD a H=>c a H λb H1=>if b=true then t D a H1 else u D a H1
def dY {c:ke}{a b:kn Stmt}{i:TT}(hc:PT X c i)(ha:Th X a t)(hb:Th X b u):PS X (.If c a b pos) (v4 i t u):=by
 intro f s g H D I h;refine wpAny_If (BR (hc f s g H _ I h) λd j ⟨H1,k,l⟩=> ?_);cases d with
 | true=>exact ha f j g H1 D k l
 | false=>exact hb f j g H1 D k l
end
abbrev TG:=V->St->Hp->(St->Hp->Prop)->Prop
abbrev Vs:=kn V->St->Hp->(St->Hp->Prop)->Prop
def PG (X:Cx)(target:ke)(t:TG):Prop:=
 ∀(a:kn (ki×Obj)) (s:kj) (b:St) (H:Hp) (v:V) (u:km) (Q:St->Hp->Prop),Inv X a b H s->RelV v u->t v b H Q->
  wpAny (model X.prog X.w) X.A (assign target X.env u) (λ_ d=>∃σ' c,Inv X a σ' c d/\Q σ' c) X.xe s
def pK (X:Cx)(ts:kn ke)(t:Vs):Prop:=
 ∀(a:kn (ki×Obj)) (s:kj) (b:St) (H:Hp) (vs:kn V) (c:kn km) (Q:St->Hp->Prop),Inv X a b H s->Ax vs c->t vs b H Q->
  wpAny (model X.prog X.w) X.A (assignInOrder ((assignEach ts X.env).map (·.2)) c) (λ_ e=>∃σ' d,Inv X a σ' d e/\Q σ' d) X.xe s
abbrev bL:=V->V->V->Hp->(Hp->Prop)->Prop
def kS (X:Cx)(t:bL):Prop:=
 ∀(a:kn (ki×Obj)) (s:kj) (b:St) (H:Hp) (o i v:V) (c d u:km) (Q:Hp->Prop),Inv X a b H s->RelV o c->RelV i d->RelV v u->t o i v H Q->
  wpAny (model X.prog X.w) X.A (setItem c d u) (λ_ f=>∃e,Inv X a b e f/\Q e) X.xe s
abbrev kY:=V->V->Hp->VK->Prop
def pL (X:Cx)(op:Operator)(t:kY):Prop:=
 ∀(a:kn (ki×Obj)) (s:kj) (b:St) (H:Hp) (x y:V) (v u:km) (Q:VK),Inv X a b H s->RelV x v->RelV y u->t x y H Q->
  wpAny (model X.prog X.w) X.A (inplaceOp op v u) (EP X a b Q) X.xe s
section
variable {X:Cx}{pos:Pos}
def DF (i:Nat):TG:=λv a H Q=>Q (a.set i (some v)) H
def HR {i:Nat}{x:Str}(hN:X.N.Nodup)(hi:X.N[i]? =some x)(hx:Loc X.env.scope x)(a:X.fn x=true\/X.env.scope.names.lookup x=some .local:=by first | exact .inl rfl|exact .inr rfl|assumption):PG X (.Name x pos) (DF i):=by intro c s d H v u Q I r h;exact AEG (HB I hN hi hx r (λe b=>⟨_,H,b,h⟩) a)
def RS:Vs:=λvs a H Q=>vs= [] /\Q a H
def FU (t:TG)(u:Vs):Vs:=λvs a H Q=>∃v r,vs=v::r/\t v a H λσ' b=>u r σ' b Q
def Mi:pK X [] RS:=by intro b s a H vs c Q I r h;obtain⟨e,h⟩:=h;subst e;cases r;exact assignInOrder_nil ⟨a,H,I,h⟩
def FX {e:ke}{es:kn ke}{t:TG}{u:Vs}(h1:PG X e t)(h2:pK X es u)(hs:(assignEach (e::es) X.env).map (·.2)=assign e X.env::(assignEach es X.env).map (·.2):=by rfl):pK X (e::es) (FU t u):=by
 intro b s c H vs k Q I r h;obtain⟨v,l,d,h⟩:=h;subst d;cases r with
 | cons r f=> rw[hs];refine assignInOrder_cons (BR (h1 b s c H _ _ _ I r h) λ_ g ⟨a,H1,i,j⟩=> ?_);exact h2 b g a H1 _ _ Q i f j
def u4 (b c:TE)(t:bL):TG:=λv a H Q=>b a H λo H1=>c a H1 λi d=>t o i v d λe=>Q a e
def Wv {o i:ke}{e f:TE}{t:bL}(g:PE X o e)(hi:PE X i f)(hs:kS X t)(ha:∀v,assign (.Subscript o i pos) X.env v=(do
   let a <-holding [v] (eval o X.env);let b <-holding [v,a] (eval i X.env)
   standAt pos
   holding [v,a,b] (setItem a b v)
   release [v,a,b] []):=by intro _;rfl):PG X (.Subscript o i pos) (u4 e f t):=by intro d s c H v u Q I r h;rw[ha];refine AAA (AAg (BR (g d s c H _ I h) λa j ⟨x,H1,k,l,m⟩=> ?_));refine AAA (AAg (BR (hi d j c H1 _ k m) λb n ⟨y,p,w,z,A⟩=> ?_));refine AAA (ACD (AAA (AAg (BR (hs d n c p x y v a b u _ w l z r A) λ_ E ⟨B,C,D⟩=> ?_))));exact wpAny_release ⟨c,B,C,D⟩
def XG (b:TE)(g:TG):TS:=λD a H=>b a H λx H1=>g x a H1 D.nx
def SQ {a e:ke}{b:TE}{g:TG}(he:PE X e b)(f:PG X a g)(hs:swapsWithSole [a] e pos.line X.env=pure false:=by rfl)(hw:swappedStores [a] e X.env=pure none:=by rfl)(h1:(assignEach [a] X.env).map (·.2)= [assign a X.env] :=by rfl):PS X (.Assign [a] e pos) (XG b g):=by intro c s d H D I h;refine wpAny_Assign_stores (BR (he c s d H _ I h) λv i ⟨x,H1,j,k,l⟩=> ?_) hs hw;rw[h1];exact BR (f c i d H1 x v _ j k l) λ_ m q=>q
def Ih {i:Nat}{x:Str}{e:ke}{a:TE}{pos':Pos}(hN:X.N.Nodup)(hi:X.N[i]? =some x)(hx:Loc X.env.scope x)(he:PE X e a)(hs:swapsWith e (some (.Name x pos')) pos.line X.env=pure false:=by rfl)(b:X.fn x=true\/X.env.scope.names.lookup x=some .local:=by first | exact .inl rfl|exact .inr rfl|assumption):PS X (.Assign [.Name x pos'] e pos) (XG a (DF i)):=by intro c s d H D I h;refine wpAny_Assign_Name (BR (he c s d H _ I h) λv l ⟨y,H1,f,g,j⟩=> ?_) hs;exact HB f hN hi hx g (λm k=>⟨_,H1,k,j⟩) b
def wB (i j:Nat)(b:TA):TS:=λD a H=>b a H λvs H1=>∃v w,vs= [v,w] /\D.nx ((a.set i (some v)).set j (some w)) H1
def nW {i j:Nat}{x y:Str}{a b:ke}{r:TA}{g k l:Pos}{kt k2 pt2}(hc:X.calm=true)(hN:X.N.Nodup)(hi:X.N[i]? =some x)(hj:X.N[j]? =some y)(B:i≠j)(hx:X.env.scope.names.lookup x=some .local)(hy:X.env.scope.names.lookup y=some .local)(ha:PA X [a,b] r)(hw:swappedStores [.Tuple [.Name x g, .Name y k] kt l] (.Tuple [a,b] k2 pt2) X.env=pure (some [x,y]))(hs:swapsWithSole [.Tuple [.Name x g, .Name y k] kt l] (.Tuple [a,b] k2 pt2) pos.line X.env=pure false:=by rfl):PS X (.Assign [.Tuple [.Name x g, .Name y k] kt l] (.Tuple [a,b] k2 pt2) pos) (wB i j r):=by
 intro t s u H D I h;rw[exec_Assign_arm];refine AAA (ACD ?_);rw[hs];refine AAA (AAC ?_);rw[AAD (by decide)];refine AAA (Tuple_ (BR (ha _ t s u H _ I h) λC c ⟨vs,H1,E,F,m⟩=> ?_));obtain⟨v,w,G,m⟩:=m;subst G;obtain⟨d,f,rfl,rv,n⟩:∃d f,C= [d,f] /\RelV v d/\RelV w f:=by
  cases F with
  | cons p q=>
    cases q with
    | cons J K=> cases K;exact⟨_,_,rfl,p,J⟩
 refine AA4 ?_ (by show 2<=sizeLine;decide);have L:Inv X t u H1 {c with heap:=c.heap.push {cls:= .type "tuple",data:= .seq [d,f].toArray}}:=E.kept (t':=c.toks) λb o e=>AAG _ e;rw[hw];refine AAA (AAC ?_);show wpAny (model X.prog X.w) X.A (do rule "assign.swapped-stores";let items <-unpackItems (.ref c.heap.objs.size) 2 none;assignInOrder [λv=>bindName X.env y v,λv=>bindName X.env x v] items.reverse;pure Flow.next) _ _ _;refine AAA (ABx (AAA (unpackItems_tuple (items:= #[d,f]) (I.ok.hd hc) (IsTup.new c.heap _) λh' M=> ?_)));have O:=L.kept (h':=h') (t':=c.toks) λb o e=>M b o (AAN (AAF e)) e;show wpAny _ _ (assignInOrder [λv=>bindName X.env y v,λv=>bindName X.env x v] [f,d] >>= λ_=>pure Flow.next) _ _ _;refine AAA (assignInOrder_cons (wpAny_bindName (HB O hN hj (.inl hy) n (λQ P=> ?_) (.inr hy))));refine assignInOrder_cons (wpAny_bindName (HB P hN hi (.inl hx) rv (λR z=>assignInOrder_nil (AAC ?_)) (.inr hx)));rw[List.set_comm _ _ (ABI B)] at z;exact⟨_,H1,z,m⟩
def vw (i:Nat)(b:TE)(c:kY):TS:=λD a H=>∃x,a[i]? =some (some x)/\b a H λy H1=>c x y H1 λz d=>D.nx (a.set i (some z)) d
def nV {i:Nat}{x:Str}{e:ke}{g:TE}{op:Operator}{j:kY}{pos':Pos}(hN:X.N.Nodup)(hi:X.N[i]? =some x)(hx:Loc X.env.scope x)(he:PE X e g)(o:pL X op j)(p:X.fn x=true\/X.env.scope.names.lookup x=some .local:=by first | exact .inl rfl|exact .inr rfl|assumption):PS X (.AugAssign (.Name x pos') op e pos) (vw i g j):=by
 intro d s n H D I h;obtain⟨v,t,h⟩:=h;obtain⟨m,B,hl⟩:=I.loc;have f:jk X.env.scope x:=by rcases hx with k|k;exact .inl k;exact .inr (.inl k)
 obtain⟨u,r,l⟩:=hl i x v hi t f;refine wpAny_AugAssign_Name ?_;have go:wpAny (model X.prog X.w) X.A (eval e X.env) (λw a=>wpAny (model X.prog X.w) X.A (inplaceOp op u w) (λr b=>wpAny (model X.prog X.w) X.A (storeName X.env x r) (λ_=>SP X d D .next) X.xe b) X.xe a) X.xe s:=by refine BR (he d s n H _ I h) λw C ⟨y,H1,E,F,G⟩=> ?_;refine BR (o d C n H1 v y u w _ E r F G) λz R ⟨S,J,K,L,M⟩=> ?_;exact HB K hN hi hx L (λT O=>⟨_,J,O,M⟩) p
 rcases l with⟨hk,P⟩|⟨hk,c,hc,Q⟩
 .exact wpAny_loadName_local I.ok.kind hk B P go
 .rcases hk with hk|hk
  .exact wpAny_loadName_cell I.ok.kind hk hc Q go
  .rcases hx with k|k
   .have:X.env.scope.names.lookup x=some .free:=hk;rw[k] at this;cases this
   .have:X.env.scope.names.lookup x=some .free:=hk;rw[k] at this;cases this
def sZ (e f g:TE)(a:V->V->Hp->VK->Prop)(d:kY)(b:bL):TS:=λD c H=>e c H λo H1=>f c H1 λi h=>a o i h λx j=>g c j λy k=>d x y k λz l=>b o i z l λm=>D.nx c m
def qE (X:Cx)(t:V->V->Hp->VK->Prop):Prop:=
 ∀(a:kn (ki×Obj)) (s:kj) (b:St) (H:Hp) (o i:V) (c d:km) (Q:VK),Inv X a b H s->RelV o c->RelV i d->t o i H Q->
  wpAny (model X.prog X.w) X.A (getItem c d) (EP X a b Q) X.xe s
def iY {o i e:ke}{m n p:TE}{a:V->V->Hp->VK->Prop}{j:kY}{b:bL}{op:Operator}{k:Pos}(x:PE X o m)(hi:PE X i n)(y:qE X a)(he:PE X e p)(hp:pL X op j)(hs:kS X b)(ha:∀c d new,augStore i c d new=(do holding [new,c,d] (setItem c d new);release [new,c,d] [];pure .next):=by intros;rfl):PS X (.AugAssign (.Subscript o i k) op e pos) (sZ m n p a j b):=by intro g s f H D I h;refine wpAny_AugAssign_SubscriptAny (BR (x g s f H _ I h) λc z ⟨r,H1,A,t,B⟩=> ?_) ha;refine BR (hi g z f H1 _ A B) λd C ⟨u,E,F,w,G⟩=> ?_;refine BR (y g C f E r u c d _ F t w G) λl J ⟨K,L,M,N,O⟩=> ?_;refine BR (he g J f L _ M O) λv P ⟨Q,R,S,T,U⟩=> ?_;refine BR (hp g P f R K Q l v _ S N T U) λnew W ⟨Y,Z,I5,r5,q5⟩=> ?_;exact BR (hs g W f Z r u Y c d new _ I5 t w r5 q5) λ_ s6 ⟨H6,I6,q6⟩=>⟨f,H6,I6,q6⟩
def ipI (f:Int->Int->Int):kY:=λx y H Q=>∃i j,x= .int i/\y= .int j/\Q (.int (f i j)) H
def mC:pL X .Add (ipI λi j=>i+j):=by intro e s f H x y v u Q I a b h;obtain⟨i,j,c,d,q⟩:=h;subst c;subst d;obtain⟨t,rfl⟩:=a;obtain⟨t',rfl⟩:=b;exact iadd_int ⟨.int _,H,I.tok _,⟨_,rfl⟩,q⟩
def ou (c:TT)(f:TS):TS:=λD a H=>∃W:Nat->St->Hp->Prop,(∃m,W m a H)/\∀m a H,W m a H->
 c a H λb H1=>if b=true then ∃N:St->Hp->Prop,(∀σ' d,N σ' d->∃e,e<m/\W e σ' d)/\f {D with nx:=N,ct:=N,bk:=D.nx} a H1 else D.nx a H1
def dZ {c:ke}{body:kn Stmt}{r:TT}{t:TS}(hp:PassesOwn (model X.prog X.w) X.A X.env X.xe)(hc:PT X c r)(hb:Th X body t):PS X (.While c body [] pos) (ou r t):=by
 intro j s z H D I h;obtain⟨W,⟨m0,B⟩,turn⟩:=h;refine wpAny_While (codeAny_whileLoop (λn C=>∃σ' u,Inv X j σ' u C/\W n σ' u) ?_ m0 ⟨z,H,I,B⟩);rintro n E ⟨d,H1,F,G⟩;refine ACT hp (BR (hc j E d H1 _ F (turn n d H1 G)) λb J ⟨x,y,g⟩=> ?_);cases b with
 | true=>
   obtain⟨N,hN,g⟩:=g;rw[AAE rfl];refine ACT hp (BR (hb j J d x _ y g) λf K i=> ?_);cases f with
   | next=> obtain⟨a,e,k,l⟩:=i;obtain⟨m,o,p⟩:=hN a e l;exact⟨m,o,a,e,k,p⟩
   | cont=> obtain⟨a,e,k,l⟩:=i;obtain⟨m,o,p⟩:=hN a e l;exact⟨m,o,a,e,k,p⟩
   | brk=>exact i
   | ret v=>exact i
 | false=> rw[AAD AAc];exact ADY ⟨d,x,y,g⟩
end
structure It where
 go:Nat->Hp->Prop
 yld:Nat->Hp->V->Hp->Prop
 stop:Nat->Hp->Prop
def Fh (X:Cx)(a:kn (ki×Obj))(H:Hp)(b:ki):Prop:=
 H b=none/\b≠X.env.locals/\b ∉ X.fs/\(b∈X.ex\/X.s₀.heap.objs.size<=b)/\(∀x c,X.env.cells.lookup x=some c->c≠b)/\∀p∈X.pn++a,p.1≠b
def Inv.fpOk {X:Cx}{a:kn (ki×Obj)}{f:St}{H d:Hp}{s:kj}{b:ki}(I:Inv X a f H s)(hb:s.heap.objs.size<=b)(g:d b=none):Fh X a d b:=by
 refine⟨g,AAv (AAX I.lt hb),I.nofs hb, .inr (AAU I.sz hb),λx c e z=> ?_,λp hp z=> ?_⟩
 .obtain ⟨v,q⟩:=I.cell x c e;exact absurd (AAX q.lt (by rw[z];exact hb)) (ACC _)
 .exact absurd (AAX (AAF (I.pin p hp).1) (by rw[z];exact hb)) (ACC _)
structure Je (P:Program) (w:World) (K:AAB) (tg:Expr) (J:It) (fp:List Addr) (it:Addr) (tn:Nat->Heap->Prop):Prop where
 mem:it∈fp
 obj:∀i h,tn i h->∀b∈fp,∃o,h.get? b=some o/\∀v,o.data≠ .cell v
 keep:∀i h h',tn i h->(∀b∈fp,∀o,h.get? b=some o->h'.get? b=some o)->tn i h'
 item:∀(X:Cx),X.prog=P->X.w=w->X.K=K->X.calm=true->∀(i:Nat) (Tb:List (Addr×Obj)) (s:Shared) (σ:St) (H:Hp) (E:Value->Shared->Prop),Inv X Tb σ H s->(∀b∈fp,Fh X Tb H b)->tn i s.heap->J.go i H->
  wpAny (model P w) X.A (pyNext (.ref it)) (λr s1=>∃u,r=some u/\
   wpAny (model P w) X.A (letOwnedTupleGo tg (.ref it) u) (λ_ s2=>∃x H',Inv X Tb σ H' s2/\RelV x u/\J.yld i H x H'/\tn (i+1) s2.heap/\∀b∈fp,H' b=none) E s1) E s
 done:∀(X:Cx),X.prog=P->X.w=w->X.K=K->X.calm=true->∀(i:Nat) (Tb:List (Addr×Obj)) (s:Shared) (σ:St) (H:Hp) (E:Value->Shared->Prop),Inv X Tb σ H s->(∀b∈fp,Fh X Tb H b)->tn i s.heap->J.stop i H->
  wpAny (model P w) X.A (pyNext (.ref it)) (λr s1=>r=none/\Inv X Tb σ H s1) E s
 self:∀(A:Around) (i:Nat) (s:Shared) (Q:Value->Shared->Prop) (E:Value->Shared->Prop),tn i s.heap->Q (.ref it) s->wpAny (model P w) A (pyIter (.ref it)) Q E s
abbrev TI:=St->Hp->(It->Hp->Prop)->Prop
def xc (X:Cx)(d:kn (ki×Obj))(f:St)(g:ke)(R:It->Hp->Prop)(a:km)(e:kj):Prop:=
 ∃(it:ki) (fp:kn ki) (tn:Nat->cb->Prop) (J:It) (c:Hp),a= .ref it/\Inv X d f c e/\Je X.prog X.w X.K g J fp it tn/\tn 0 e.heap/\(∀b∈fp,Fh X d c b)/\R J c
def PI (X:Cx)(c iter:ke)(d:TI):Prop:=
 ∀(b:kn (ki×Obj)) (s:kj) (a:St) (H:Hp) (R:It->Hp->Prop),Inv X b a H s->d a H R->
  wpAny (model X.prog X.w) X.A (eval iter X.env) (λv e=>wpAny (model X.prog X.w) X.A (pyIter v) (xc X b a c R) X.xe e) X.xe s
def X0 {M:Model}{A:Wf}{E:km->kj->Prop}{s:kj}{a:ke}{it:ki}{u:km}{o:Obj}{n:String}{vs:Array km}{Q:Unit->kj->Prop}(b:s.heap.get? it=some o)(hc:o.cls= .type n)(hd:o.data= .fields vs)(c: ["enumerate","zip","dict_itemiterator","dict_reverseitemiterator","odict_iterator","itertools.zip_longest","itertools.pairwise"].contains n=false)(hQ:Q () s):wpAny M A (letOwnedTupleGo a (.ref it) u) Q E s:=by
 unfold letOwnedTupleGo;cases a <;> first
  | exact AAC hQ
  | (cases u <;> first
      | exact AAC hQ
      | (refine AAA (wpAny_load b ?_)
         rw[hc,hd];show wpAny M A (if (["enumerate","zip","dict_itemiterator","dict_reverseitemiterator","odict_iterator","itertools.zip_longest","itertools.pairwise"].contains n&&vs[0]?==some (rawInt _))=true then _ else _) Q E s;rw[AAD (by intro h;rw[c,Bool.false_and] at h;cases h)];exact AAC hQ))
def uZ (K:AAB)(a:ki):It:=
 ⟨λi H=>∃xs x,Et K H a xs/\xs[i]? =some x,λi H x b=>b=H/\∀xs,Et K H a xs->xs[i]? =some x,λi H=>∃xs,Et K H a xs/\xs.length<=i⟩
def uc (K:AAB)(a:ki):It:=
 ⟨λi H=>∃xs x,Kx K H a xs/\xs[i]? =some x,λi H x b=>b=H/\∀xs,Kx K H a xs->xs[i]? =some x,λi H=>∃xs,Kx K H a xs/\xs.length<=i⟩
def tQ (lo:Int)(n:Nat):It:=⟨λi _=>i<n,λi H x a=>a=H/\x= .int (lo+i),λi _=>n<=i⟩
def aU {P:gn}{w:fe}{K:AAB}{D:ke}(a it:ki):Je P w K D (uZ K a) [it] it (λi h=>h.IsListIter it a i) where
 mem:=by simp
 obj:=λi h st b hb=>by
  have e:b=it:=by simpa using hb
  subst e;obtain⟨o,e,c,d⟩:=st;exact⟨o,e,λv z=>by rw[d] at z;cases z⟩
 keep:=λi h h' st k=>st.at λo e=>k it (by simp) o e
 item:=by intro X l hw m hc i B s C H E I g st n;subst l hw m;obtain⟨xs,x,j,hx⟩:=n;obtain⟨r,rv,p,F⟩:=I.list j;obtain⟨u,hu,G⟩:=rv.get hx;obtain⟨f0,f1,J,t,y,A⟩:=g it (by simp);refine wpAny_pyNext_list_item st p.isList (x:=u) (by simpa using hu) λh' f L=> ?_;have M:Inv X B C H {s with heap:=h'}:=I.turned (t':=s.toks) (λb o hb e=>(L.2 b hb).trans e) f0 f1 t y A;obtain⟨o,e,c,d⟩:=id f;exact⟨u,rfl,X0 (s:={s with heap:=h'}) e c d (by decide) ⟨x,H,M,G,⟨rfl,λys hy=>by rw[I.list_inj hy j];exact hx⟩,f,λb hb=>(g b hb).1⟩⟩
 done:=by intro X l hw m hc i B s C H E I g st n;subst l hw m;obtain⟨xs,j,hx⟩:=n;obtain⟨r,rv,p,F⟩:=I.list j;obtain⟨f0,f1,J,t,y,A⟩:=g it (by simp);have hl:=rv.length;exact wpAny_pyNext_list_end (I.ok.hd hc) st p.isList (by simp;omega) λh' N=>⟨rfl,I.turned (t':=s.toks) (λb o hb e=>N b o hb e) f0 f1 t y A⟩
 self:=λ_ _ _ _ _ st h=>wpAny_pyIter_listiter st h
def XT {P:gn}{w:fe}{K:AAB}{D:ke}(a it:ki):Je P w K D (uc K a) [it] it (λi h=>h.IsTupleIter it a i) where
 mem:=by simp
 obj:=λi h st b hb=>by
  have e:b=it:=by simpa using hb
  subst e;obtain⟨o,e,c,d⟩:=st;exact⟨o,e,λv z=>by rw[d] at z;cases z⟩
 keep:=λi h h' st k=>st.at λo e=>k it (by simp) o e
 item:=by intro X m hw n hc i B s C H E I j st r;subst m hw n;obtain⟨xs,x,l,hx⟩:=r;obtain⟨f,rv,p,F⟩:=I.tuple l;obtain⟨u,hu,G⟩:=rv.get hx;obtain⟨f0,f1,J,t,y,A⟩:=j it (by simp);refine wpAny_pyNext_tuple_item st (show s.heap.IsTuple a f.toArray from p) (x:=u) (by simpa using hu) λh' g L=> ?_;have M:Inv X B C H {s with heap:=h'}:=I.turned (t':=s.toks) (λb o hb e=>(L.2 b hb).trans e) f0 f1 t y A;obtain⟨o,e,c,d⟩:=id g;exact⟨u,rfl,X0 (s:={s with heap:=h'}) e c d (by decide) ⟨x,H,M,G,⟨rfl,λys hy=>by rw[I.tuple_inj hy l];exact hx⟩,g,λb hb=>(j b hb).1⟩⟩
 done:=by intro X m hw n hc i B s C H E I j st r;subst m hw n;obtain⟨xs,l,hx⟩:=r;obtain⟨f,rv,p,F⟩:=I.tuple l;obtain⟨f0,f1,J,t,y,A⟩:=j it (by simp);have hl:=rv.length;exact wpAny_pyNext_tuple_end (I.ok.hd hc) st (show s.heap.IsTuple a f.toArray from p) (by simp;omega) λh' N=>⟨rfl,I.turned (t':=s.toks) (λb o hb e=>N b o hb e) f0 f1 t y A⟩
 self:=λ_ _ _ _ _ st h=>wpAny_pyIter_tupleiter st h
def XS {P:gn}{w:fe}{K:AAB}{x:ke}(it:ki)(lo:Int)(n:Nat):Je P w K x (tQ lo n) [it] it (λi h=>IsRangeIter h it (lo+(i:Nat)*1) ((n:Int)-(i:Nat)) 1) where
 mem:=by simp
 obj:=λi h st b hb=>by
  have e:b=it:=by simpa using hb
  subst e;exact⟨_,st,λv z=>by
   have y:Data.fields _=Data.cell v:=z;cases y⟩
 keep:=λi h h' st k=>k it (by simp) _ st
 item:=by intro X d hw f hc i p s r H E I c st g;subst d hw f;obtain⟨f0,f1,A,j,l,m⟩:=c it (by simp);have W:=Walks.range (prog:=X.prog) (w:=X.w) (I.ok.hd hc) it lo 1 n;refine W.item i s _ _ g st λv h' u hv a B=> ?_;obtain⟨t,rfl⟩:=hv;have C:Inv X p r H {s with heap:=h',toks:=u}:=I.turned (λb o hb e=>B b o (by simpa using hb) e) f0 f1 j l m;refine⟨_,rfl,X0 (s:={s with heap:=h',toks:=u}) (n:="range_iterator") a rfl rfl (by decide) ⟨.int (lo+i),H,C,⟨t, ?_⟩,⟨rfl,rfl⟩,a,λb hb=>(c b hb).1⟩⟩;rw[ACU]
 done:=by intro X d hw f hc i p s r H E I c st g;subst d hw f;obtain⟨f0,f1,A,j,l,m⟩:=c it (by simp);exact wpAny_pyNext_range_end (I.ok.hd hc) st (by have:n<=i:=g;omega) λh' D=>⟨rfl,I.turned (t':=s.toks) (λb o hb e=>D b o hb e) f0 f1 j l m⟩
 self:=λ_ _ _ _ _ st h=>wpAny_pyIter_rangeiter st h
section
variable {X:Cx}{tg:ke}
def dm {a:kn (ki×Obj)}{c:St}{H:Hp}{s:kj}{R:It->Hp->Prop}{E:km->kj->Prop}{lo hi:Int}{t u v:Tok}{d:Nat}(I:Inv X a c H s)(h1: -(2^62)<=lo)(h2:lo<2^62)(h3: -(2^62)<=hi)(g:hi<2^62)(q:R (tQ lo (hi-lo).toNat) H):wpAny (model X.prog X.w) X.A (pyIter (.ref s.heap.objs.size)) (xc X a c tg R) E {s with heap:=s.heap.push {cls:= .type "range",data:= .fields #[.int lo t, .int hi u, .int 1 v] },toks:=d}:=by
 refine wpAny_pyIter_range (IsRange.new ..) (small_one h1 h2 h3 g) ?_;have f:Inv X a c H {s with heap:=s.heap.push {cls:= .type "range",data:= .fields #[.int lo t, .int hi u, .int 1 v] },toks:=d}:=I.kept λb o e=>AAG _ e;refine⟨(s.heap.push {cls:= .type "range",data:= .fields #[.int lo t, .int hi u, .int 1 v] }).objs.size, [(s.heap.push {cls:= .type "range",data:= .fields #[.int lo t, .int hi u, .int 1 v] }).objs.size],_,_,H,rfl,
  f.kept (t':=d) λb o e=>AAG _ e,XS _ lo (hi-lo).toNat, ?_,λb hb=> ?_,q⟩
 .have h:lo+((0:Nat):Int)*1=lo:=by simp
  have i:(((hi-lo).toNat:Nat):Int)-((0:Nat):Int)=Builtin.Range.rangeSize lo hi 1:=by rw[rangeSize_one];split <;> omega
  show IsRangeIter _ _ (lo+((0:Nat):Int)*1) ((((hi-lo).toNat:Nat):Int)-((0:Nat):Int)) 1;rw[h,i];exact AAO _ rfl
 .have e:b=(s.heap.push {cls:= .type "range",data:= .fields #[.int lo t, .int hi u, .int 1 v] }).objs.size:=by simpa using hb
  subst e;exact f.fpOk (AAJ _) (f.hok.fresh (AAJ _))
def qt (a:TA):TI:=λb H R=>a b H λvs H1=>∃j:Int,vs= [.int j] /\ -(2^62)<=j/\j<2^62/\R (tQ 0 j.toNat) H1
def aA {a:ke}{c:TA}{p pos:Pos}(d:Gl X "range")(f:X.mg "range" =none)(ha:PA X [a] c)(hs:starEach [a] X.env= [(false,eval a X.env)] :=by rfl):PI X tg (.Call (.Name "range" p) [a] [] pos) (qt c):=by
 intro g s i H R I h;refine Call_ (Fj I d f boot_range (ACV (BR (ha pos g s i H _ I h) λo u ⟨vs,H1,k,l,b⟩=> ?_) hs rfl));obtain⟨j,e,b,m,q⟩:=b;subst e;cases l with
 | cons r n=> cases n;obtain⟨t,rfl⟩:=r;exact call_range_1 (dm k (by omega) (by omega) b m (by simpa using q))
def sw (e:TI)(g:TG)(f:TS):TS:=λD a H=>e a H λJ H1=>∃W:Nat->Nat->St->Hp->Prop,(∃m,W 0 m a H1)/\∀i m a H,W i m a H->
 (J.stop i H/\D.nx a H)\/(J.go i H/\∃N:St->Hp->Prop,(∀σ' b,N σ' b->∃d,d<m/\W (i+1) d σ' b)/\∀x b,J.yld i H x b->g x a b λc h=>f {D with nx:=N,ct:=N,bk:=D.nx} c h)
def K8 (fp:kn ki)(h:cb):kn (ki×Obj):=fp.filterMap λb=>(h.get? b).map λo=>(b,o)
def Dw {fp:kn ki}{h:cb}{b:ki}{o:Obj}(hb:b∈fp)(e:h.get? b=some o):(b,o)∈K8 fp h:=AEH.mpr ⟨b,hb,by rw[e];rfl⟩
def Zz {fp:kn ki}{h:cb}{p:ki×Obj}(hp:p∈K8 fp h):p.1∈fp/\h.get? p.1=some p.2:=by
 obtain⟨b,hb,e⟩:=AEH.mp hp;cases q:h.get? b with
 | none=>rw[q] at e;cases e
 | some o=> rw[q] at e;have a:(b,o)=p:=AAn e;subst a;exact⟨hb,q⟩
def Inv.pinned {a:kn (ki×Obj)}{c:St}{H:Hp}{s:kj}{fp:kn ki}(I:Inv X a c H s)(g:∀b∈fp,Fh X a H b)(h:∀b∈fp,∃o,s.heap.get? b=some o/\∀v,o.data≠ .cell v):Inv X (a++K8 fp s.heap) c H s:=
 I.pins_of λp hp=>(AAL.mp hp).elim (λz=>I.pin p (AAx _ z)) λz=>by obtain⟨hb,e⟩:=Zz z;obtain⟨f0,f1,i,_⟩:=g p.1 hb;obtain⟨o,f,d⟩:=h p.1 hb;rw[e] at f;cases f;exact⟨e,f0,f1,i,d⟩
def Inv.unpinned {a c:kn (ki×Obj)}{b:St}{H:Hp}{s:kj}(I:Inv X (a++c) b H s):Inv X a b H s:=I.pins_of λp hp=>I.pin p (AAx _ (List.mem_append_left _ hp))
def dX {iter:ke}{body:kn Stmt}{Q:TI}{g:TG}{R:TS}{pos:Pos}(hp:PassesOwn (model X.prog X.w) X.A X.env X.xe)(hc:X.calm=true)(hi:PI X tg iter Q)(hg:PG X tg g)(hb:Th X body R)(hs:∀x,foldedSetIterable iter X.env x=pure x:=by intro _;rfl):PS X (.For tg iter body [] pos) (sw Q g R):=by
 intro y s S H D I h;refine wpAny_For (BR (hi y s S H _ I h) λv s1 h1=>BR h1 λitv s2 h2=> ?_) hs;obtain⟨it,fp,tn,J,H2,e,I2,T,G,U,W,⟨m0,w0⟩,turn⟩:=h2;subst e;have c:∀{p:Hp},(∀b∈fp,p b=none)->∀b∈fp,Fh X y p b:=λhn b hb=>⟨hn b hb,(U b hb).2⟩;refine codeAny_forLoop_any (λn Y=>∃i σ' p,Inv X y σ' p Y/\tn i Y.heap/\(∀b∈fp,p b=none)/\W i n σ' p) ?_ m0 ⟨0,S,H2,I2,G,λb hb=>(U b hb).1,w0⟩;rintro n Z ⟨i,j,F,I3,B,C,w3⟩;rcases turn i n j F w3 with⟨stop,qn⟩|⟨go,N,hN,step⟩
 .refine ACT hp (BR (T.done X rfl rfl rfl hc i y Z j F X.xe I3 (c C) B stop) λr s4 ⟨K,I4⟩=> ?_);subst K;exact ADY ⟨j,F,I4,qn⟩
 .refine ACT hp (BR (T.item X rfl rfl rfl hc i y Z j F X.xe I3 (c C) B go) λr s4 ⟨u,K,h4⟩=> ?_);subst K;refine ACT hp (BR h4 λ_ s5 ⟨x,H5,I5,r5,y5,z,L⟩=> ?_);have M:=I5.pinned (c L) (T.obj _ _ z);refine ACT hp (BR (hg _ s5 j H5 x u _ M r5 (step x H5 y5)) λ_ s6 ⟨O,H6,I6,q6⟩=> ?_);refine ACT hp (BR (hb _ s6 O H6 _ I6 q6) λf P t=> ?_);have again:∀{a:St} {k:Hp},Inv X (y++K8 fp s5.heap) a k P->N a k->∃m,m<n/\∃i σ' p,Inv X y σ' p P/\tn i P.heap/\(∀b∈fp,p b=none)/\W i m σ' p:=λ{a k} l E=>by obtain⟨m',hm,w7⟩:=hN a k E;refine⟨m',hm,i+1,a,k,l.unpinned,T.keep _ _ _ z λb hb o e=>(l.pin (b,o) (AAx _ (AAx _ (Dw hb e)))).1,λb hb=> ?_,w7⟩;obtain⟨o,e,d⟩:=T.obj _ _ z b hb;exact(l.pin (b,o) (AAx _ (AAx _ (Dw hb e)))).2.1
  cases f with
  | next=>obtain⟨a,k,l,E⟩:=t;exact again l E
  | cont=>obtain⟨a,k,l,E⟩:=t;exact again l E
  | brk=>obtain⟨a,k,l,t⟩:=t;exact⟨a,k,l.unpinned,t⟩
  | ret v=>obtain⟨x7,a,k,l,r7,t⟩:=t;exact⟨x7,a,k,l.unpinned,r7,t⟩
end
abbrev R2:=V->V->Hp->VK->Prop
def D1 (X:Cx)(f:km->km->Sem km)(r:R2):Prop:=
 ∀(a:kn (ki×Obj)) (s:kj) (b:St) (H:Hp) (x y:V) (v u:km) (Q:VK),Inv X a b H s->RelV x v->RelV y u->r x y H Q->
  wpAny (model X.prog X.w) X.A (f v u) (EP X a b Q) X.xe s
def uq (X:Cx)(f:km->Sem km)(r:V->Hp->VK->Prop):Prop:=
 ∀(a:kn (ki×Obj)) (s:kj) (b:St) (H:Hp) (x:V) (v:km) (Q:VK),Inv X a b H s->RelV x v->r x H Q->
  wpAny (model X.prog X.w) X.A (f v) (EP X a b Q) X.xe s
def B3 (X:Cx)(f:km)(r:kn V->Hp->VK->Prop):Prop:=
 ∀(a:kn (ki×Obj)) (s:kj) (b:St) (H:Hp) (xs:kn V) (c:kn km) (Q:VK),Inv X a b H s->Ax xs c->r xs H Q->
  wpAny (model X.prog X.w) X.A (call f c) (EP X a b Q) X.xe s
def uk (X:Cx)(r:V->Hp->(kd->Hp->Prop)->Prop):Prop:=
 ∀(a:kn (ki×Obj)) (s:kj) (b:St) (H:Hp) (x:V) (v:km) (Q:kd->Hp->Prop),Inv X a b H s->RelV x v->r x H Q->
  wpAny (model X.prog X.w) X.A (truthy v) (TP X a b Q) X.xe s
def fU (r:R2)(b c:TE):TE:=λa H Q=>b a H λx H1=>c a H1 λy d=>r x y d Q
def tUn (r:V->Hp->VK->Prop)(a:TE):TE:=λb H Q=>a b H λx H1=>r x H1 Q
def rI (C:Int->Int->Prop)(g:Int->Int->V):R2:=λx y H Q=>∃i j,x= .int i/\y= .int j/\C i j/\Q (g i j) H
def SZ (g:Int->Int->V):R2:=λx y H Q=>∃i j,x= .int i/\y= .int j/\Q (g i j) H
def rU (g:Int->V):V->Hp->VK->Prop:=λx H Q=>∃i,x= .int i/\Q (g i) H
section
variable {X:Cx}{a b c:ke}{ta tb tc:TE}{pos:Pos}
def gK (ha:PE X a ta)(hb:PE X b tb){j:kn (ki×Obj)}{s:kj}{d:St}{H:Hp}{R:V->V->Hp->Prop}(I:Inv X j d H s)(h:ta d H λx H1=>tb d H1 λy e=>R x y e){Q:km->kj->Prop}{f:km->km->Sem km}(l:∀v u k x y e,Inv X j d e k->RelV x v->RelV y u->R x y e->wpAny (model X.prog X.w) X.A (f v u) Q X.xe k):wpAny (model X.prog X.w) X.A (eval a X.env) (λv g=>wpAny (model X.prog X.w) X.A (eval b X.env) (λu i=>wpAny (model X.prog X.w) X.A (f v u) Q X.xe i) X.xe g) X.xe s:=by refine BR (ha j s d H _ I h) λv m ⟨x,H1,n,o,p⟩=> ?_;refine BR (hb j m d H1 _ n p) λu k ⟨y,e,r,t,z⟩=> ?_;exact l v u k x y e r o t z
def B7 {op:Operator}{r:R2}(d:D1 X (binaryOp op) r)(ha:PE X a ta)(hb:PE X b tb):PE X (.BinOp a op b pos) (fU r ta tb):=by intro e s f H Q I h;exact wpAny_BinOp (gK ha hb I h λv u g x y i j k l q=>d e g f i x y v u Q j k l q)
def j4 {op:UnaryOp}{r:V->Hp->VK->Prop}(f:uq X (unaryOp op) r)(ha:PE X a ta):PE X (.UnaryOp op a pos) (tUn r ta):=by intro d s e H Q I h;exact UnaryOp_ (BR (ha d s e H _ I h) λv g ⟨x,H1,i,j,k⟩=>f d g e H1 x v Q i j k)
def nA {f:km->km->Sem km}{C:Int->Int->Prop}{g:Int->Int->Int}(rule:∀(i j:Int) (t u:Tok) (s:kj) (Q:km->kj->Prop) (E:km->kj->Prop),C i j->Q (.int (g i j) s.toks) {s with toks:=s.toks+1}->wpAny (model X.prog X.w) X.A (f (.int i t) (.int j u)) Q E s):D1 X f (rI C λi j=> .int (g i j)):=by intro k s l H x y v u Q I d e h;obtain⟨i,j,rfl,rfl,hc,q⟩:=h;obtain⟨t,rfl⟩:=d;obtain⟨t',rfl⟩:=e;exact rule i j t t' s _ _ hc ⟨.int (g i j),H,I.tok _,⟨_,rfl⟩,q⟩
def rP {f:km->km->Sem km}{g:Int->Int->Int}(rule:∀(i j:Int) (t u:Tok) (s:kj) (Q:km->kj->Prop) (E:km->kj->Prop),Q (.int (g i j) s.toks) {s with toks:=s.toks+1}->wpAny (model X.prog X.w) X.A (f (.int i t) (.int j u)) Q E s):D1 X f (SZ λi j=> .int (g i j)):=by intro k s l H x y v u Q I d e h;obtain⟨i,j,rfl,rfl,q⟩:=h;obtain⟨t,rfl⟩:=d;obtain⟨t',rfl⟩:=e;exact rule i j t t' s _ _ ⟨.int (g i j),H,I.tok _,⟨_,rfl⟩,q⟩
def iC {f:km->km->Sem km}{g:Int->Int->kd}(rule:∀(i j:Int) (t u:Tok) (s:kj) (Q:km->kj->Prop) (E:km->kj->Prop),Q (.bool (g i j)) s->wpAny (model X.prog X.w) X.A (f (.int i t) (.int j u)) Q E s):D1 X f (SZ λi j=> .bl (g i j)):=by intro k s l H x y v u Q I d e h;obtain⟨i,j,rfl,rfl,q⟩:=h;obtain⟨t,rfl⟩:=d;obtain⟨t',rfl⟩:=e;exact rule i j t t' s _ _ ⟨.bl (g i j),H,I,rfl,q⟩
def fb (i j:Int):Prop:=0<=j/\j<=1000000/\i.natAbs<2^64
def FI (i j:Int):Prop:=(-(2^64)<i/\i<2^64)\/(-(2^64)<j/\j<2^64)
def FI.ok {i j:Int}(h:FI i j):IntMulOk i j:=by
 rcases h with⟨h1,h2⟩|⟨h1,h2⟩
 .exact .of_left (intBits_le_64 h1 h2)
 .exact .of_right (intBits_le_64 h1 h2)
def Ig:D1 X (binaryOp .Add) (SZ λi j=> .int (i+j)):=rP λ_ _ _ _ _ _ _ q=>add_int q
def nG:D1 X (binaryOp .Sub) (SZ λi j=> .int (i-j)):=rP λ_ _ _ _ _ _ _ q=>sub_int q
def Fn:D1 X (binaryOp .Mod) (rI (λ_ j=>0<j) λi j=> .int (i % j)):=nA λi j _ _ _ _ _ hc q=>by have h1:(0:Int)<j:=hc;exact mod_int' (by omega) (by rw[AEI i (by omega)];exact q)
def iF:D1 X (binaryOp .Mod) (rI (λ_ j=>j≠0) λi j=> .int (i.fmod j)):=nA λ_ _ _ _ _ _ _ hc q=>mod_int' hc q
def dF:D1 X (binaryOp .Pow) (rI fb λi j=> .int (i^j.toNat)):=nA λ_ _ _ _ _ _ _ hc q=>pow_int_small hc.1 hc.2.1 hc.2.2 q
def unI {f:km->Sem km}{g:Int->Int}(rule:∀(i:Int) (t:Tok) (s:kj) (Q:km->kj->Prop) (E:km->kj->Prop),Q (.int (g i) s.toks) {s with toks:=s.toks+1}->wpAny (model X.prog X.w) X.A (f (.int i t)) Q E s):uq X f (rU λi=> .int (g i)):=by intro e s j H x v Q I d h;obtain⟨i,rfl,q⟩:=h;obtain⟨t,rfl⟩:=d;exact rule i t s _ _ ⟨.int (g i),H,I.tok _,⟨_,rfl⟩,q⟩
def fG:uq X (unaryOp .USub) (rU λi=> .int (-i)):=unI λ_ _ _ _ _ q=>neg_int q
end
def oG:V->V->kd
 | .non, .non=>true | .non, .int _=>true | .int _, .non=>true | .non, .bl _=>true | .bl _, .non=>true | .non, .str _=>true | .str _, .non=>true
 | .int _, .int _=>true | .bl _, .bl _=>true | .str _, .str _=>true | .byt _, .byt _=>true
 | .int _, .str _=>true | .str _, .int _=>true | .bl _, .str _=>true | .str _, .bl _=>true
 | _,_=>false
def yF:R2:=λx y H Q=>oG x y=true/\Q (.bl (decide (x=y))) H
def yG:R2:=λx y H Q=>oG x y=true/\Q (.bl (!decide (x=y))) H
def Xp {i j:Int}:decide (V.int i=V.int j)=(i==j):=by rw[ACE];simp
def bo {i j:kd}:decide (V.bl i=V.bl j)=(i==j):=by rw[ACE];simp
def Xq {i j:Str}:decide (V.str i=V.str j)=(i==j):=by rw[ACE];simp
def Xo {i j:Array UInt8}:decide (V.byt i=V.byt j)=(i.toList==j.toList):=by rw[ACE];cases i;cases j;simp
section
variable {X:Cx}{a b c:ke}{ta tb tc:TE}{pos:Pos}
def BF {d:kn (ki×Obj)}{f:St}{H:Hp}{s:kj}{Q:VK}{k g:kd}(I:Inv X d f H s)(q:Q (.bl k) H)(e:k=g):EP X d f Q (.bool g) s:=by subst e;exact⟨.bl k,H,I,rfl,q⟩
def rQ:D1 X (compareOp .Eq) yF:=by
 intro f s g H x y v u Q I e d h;obtain⟨hs,q⟩:=h;cases x with
 | non=>
   cases e;cases y with
   | non=>cases d;exact PySem.EqNone.eq_none_none (BF I q (by simp))
   | bl j=>cases d;exact PySem.EqNone.eq_none_bool (BF I q (by simp))
   | int j=>obtain⟨t',rfl⟩:=d;exact PySem.EqNone.eq_none_int (BF I q (by simp))
   | str j=>obtain⟨t',rfl⟩:=d;exact PySem.EqNone.eq_none_str (BF I q (by simp))
   | _=>exact absurd (show false=true from hs) AAc
 | bl i=>
   cases e;cases y with
   | non=>cases d;exact PySem.EqNone.eq_bool_none (BF I q (by simp))
   | bl j=>cases d;exact eq_bool (BF I q bo)
   | str j=>obtain⟨t',rfl⟩:=d;exact PySem.EqMixed.eq_bool_str (BF I q (by simp))
   | _=>exact absurd (show false=true from hs) AAc
 | int i=>
   obtain⟨t,rfl⟩:=e;cases y with
   | non=>cases d;exact PySem.EqNone.eq_int_none (BF I q (by simp))
   | int j=>obtain⟨t',rfl⟩:=d;exact eq_int (BF I q Xp)
   | str j=>obtain⟨t',rfl⟩:=d;exact PySem.EqMixed.eq_int_str (BF I q (by simp))
   | _=>exact absurd (show false=true from hs) AAc
 | str i=>
   obtain⟨t,rfl⟩:=e;cases y with
   | non=>cases d;exact PySem.EqNone.eq_str_none (BF I q (by simp))
   | bl j=>cases d;exact PySem.EqMixed.eq_str_bool (BF I q (by simp))
   | int j=>obtain⟨t',rfl⟩:=d;exact PySem.EqMixed.eq_str_int (BF I q (by simp))
   | str j=>obtain⟨t',rfl⟩:=d;exact eq_str (BF I q Xq)
   | _=>exact absurd (show false=true from hs) AAc
 | byt i=>
   obtain⟨t,rfl⟩:=e;cases y with
   | byt j=>obtain⟨t',rfl⟩:=d;exact PySem.W.eq_bytes (BF I q Xo)
   | _=>exact absurd (show false=true from hs) AAc
 | _=>cases y <;> exact absurd (show false=true from hs) AAc
def rT:D1 X (compareOp .NotEq) yG:=by
 intro f s g H x y v u Q I e d h;obtain⟨hs,q⟩:=h;cases x with
 | non=>
   cases e;cases y with
   | non=>cases d;exact PySem.EqNone.ne_none_none (BF I q (by simp))
   | bl j=>cases d;exact PySem.EqNone.ne_none_bool (BF I q (by simp))
   | int j=>obtain⟨t',rfl⟩:=d;exact PySem.EqNone.ne_none_int (BF I q (by simp))
   | str j=>obtain⟨t',rfl⟩:=d;exact PySem.EqNone.ne_none_str (BF I q (by simp))
   | _=>exact absurd (show false=true from hs) AAc
 | bl i=>
   cases e;cases y with
   | non=>cases d;exact PySem.EqNone.ne_bool_none (BF I q (by simp))
   | bl j=>cases d;exact ne_bool (BF I q (congrArg not bo))
   | str j=>obtain⟨t',rfl⟩:=d;exact PySem.EqMixed.ne_bool_str (BF I q (by simp))
   | _=>exact absurd (show false=true from hs) AAc
 | int i=>
   obtain⟨t,rfl⟩:=e;cases y with
   | non=>cases d;exact PySem.EqNone.ne_int_none (BF I q (by simp))
   | int j=>obtain⟨t',rfl⟩:=d;exact ne_int (BF I q (congrArg not Xp))
   | str j=>obtain⟨t',rfl⟩:=d;exact PySem.EqMixed.ne_int_str (BF I q (by simp))
   | _=>exact absurd (show false=true from hs) AAc
 | str i=>
   obtain⟨t,rfl⟩:=e;cases y with
   | non=>cases d;exact PySem.EqNone.ne_str_none (BF I q (by simp))
   | bl j=>cases d;exact PySem.EqMixed.ne_str_bool (BF I q (by simp))
   | int j=>obtain⟨t',rfl⟩:=d;exact PySem.EqMixed.ne_str_int (BF I q (by simp))
   | str j=>obtain⟨t',rfl⟩:=d;exact ne_str (BF I q (congrArg not Xq))
   | _=>exact absurd (show false=true from hs) AAc
 | byt i=>
   obtain⟨t,rfl⟩:=e;cases y with
   | byt j=>obtain⟨t',rfl⟩:=d;exact PySem.W.ne_bytes (BF I q (congrArg not Xo))
   | _=>exact absurd (show false=true from hs) AAc
 | _=>cases y <;> exact absurd (show false=true from hs) AAc
def jz:D1 X (compareOp .Lt) (SZ λi j=> .bl (decide (i<j))):=iC λ_ _ _ _ _ _ _ q=>lt_int q
def rS:D1 X (compareOp .LtE) (SZ λi j=> .bl (decide (i<=j))):=iC λ_ _ _ _ _ _ _ q=>le_int q
def jy:D1 X (compareOp .Gt) (SZ λi j=> .bl (decide (j<i))):=iC λ_ _ _ _ _ _ _ q=>gt_int q
def rR:D1 X (compareOp .GtE) (SZ λi j=> .bl (decide (j<=i))):=iC λ_ _ _ _ _ _ _ q=>ge_int q
def nD:D1 X (compareOp .Is) (λx y H Q=>y= .non/\Q (.bl (decide (x= .non))) H):=by
 intro f s g H x y v u Q I d e h;obtain⟨rfl,q⟩:=h;cases e;refine is_none_gen (BF I q ?_);cases x <;> first
  | (cases d;rfl)
  | (obtain⟨t,rfl⟩:=d;rfl)
def iH:D1 X (compareOp .IsNot) (λx y H Q=>y= .non/\Q (.bl (!decide (x= .non))) H):=by
 intro f s g H x y v u Q I d e h;obtain⟨rfl,q⟩:=h;cases e;refine isnot_none_gen (BF I q ?_);cases x <;> first
  | (cases d;rfl)
  | (obtain⟨t,rfl⟩:=d;rfl)
def D1.or {f:km->km->Sem km}{r d:R2}(h:D1 X f r)(h':D1 X f d):D1 X f (λx y H Q=>r x y H Q\/d x y H Q):=by
 intro e s g H x y v u Q I i j q;rcases q with q|q
 .exact h e s g H x y v u Q I i j q
 .exact h' e s g H x y v u Q I i j q
def CF (b:ke){op:CmpOp}(h:op≠ .In:=by decide)(h2:op≠ .NotIn:=by decide):behindInMarks op b=false:=by
 have d:(op==CmpOp.In)=false:=by cases op <;> first | rfl|exact absurd rfl h
 have e:(op==CmpOp.NotIn)=false:=by cases op <;> first | rfl|exact absurd rfl h2
 cases b <;> simp[behindInMarks,d,e]
def YR {op:CmpOp}{r:R2}(d:D1 X (compareOp op) r)(ha:PE X a ta)(hb:PE X b tb)(e:behindInMarks op b=false):PE X (.Compare a [op] [b] pos) (fU r ta tb):=by intro f s g H Q I h;exact wpAny_Compare1 (gK ha hb I h λv u i x y j k l m q=>d f i g j x y v u Q k l m q) e
def kD (t:TE):TT:=λd H Q=>t d H λx e=>∃k,x= .bl k/\Q k e
def SX {op:CmpOp}{r:R2}(g:D1 X (compareOp op) r)(ha:PE X a ta)(hb:PE X b tb)(i:behindInMarks op b=false):PT X (.Compare a [op] [b] pos) (kD (fU r ta tb)):=by
 intro d s f H Q I h;refine wpAny_isTrue_Compare1 (BR (ha d s f H _ I h) λv j ⟨x,H1,l,m,n⟩=>BR (hb d j f H1 _ l n) λu o ⟨y,p,t,w,A⟩=>
  BR (g d o f p x y v u _ t m w A) λc F ⟨z,B,C,D,k,e,E⟩=> ?_) i
 subst e;cases D;exact ACR ⟨B,C,E⟩
def kZ (K:AAB)(x:V)(H:Hp)(k:kd):Prop:=
 match x with
 | .non=>k=false
 | .bl b=>k=b
 | .int i=>k=(i != 0)
 | .str y=>y.length<=sizeLine/\k=((y.length:Int) != 0)
 | .byt y=>y.size<=sizeLine/\k=((y.size:Int) != 0)
 | .ref p=>(∃xs,Et K H p xs/\k= !xs.isEmpty)\/(∃xs,Kx K H p xs/\k= !xs.isEmpty)\/∃kvs,H p=some (.dK kvs)/\k= !kvs.isEmpty
 | _=>False
def WW {d:Type}{kvs:kn (d×V)}{vs:kn (d×km)}(r:KV kvs vs):(!vs.isEmpty)= !kvs.isEmpty:=by cases r <;> rfl
def Nu {xs:kn V}{d:kn km}(r:Ax xs d):(!d.toArray.isEmpty)= !xs.isEmpty:=by cases r <;> simp
def Gk:(sizeLine:Nat)<2^63:=by rw[ACj];decide
def fE:uk X (λx H Q=>∃k,kZ X.K x H k/\Q k H):=by
 intro u s z H x v Q I f h;obtain⟨k,e,q⟩:=h;have hl:=Gk;have hs:sizeLine=16777216:=ACj;cases x with
 | non=> cases f;have d:k=false:=e;subst d;exact truthy_none ⟨H,I,q⟩
 | bl b=> cases f;have d:k=b:=e;subst d;exact ACR ⟨H,I,q⟩
 | int i=> obtain⟨t,rfl⟩:=f;have d:k=(i != 0):=e;subst d;exact PySem.P.truthy_int ⟨H,I,q⟩
 | str y=> obtain⟨t,rfl⟩:=f;obtain⟨hy,d⟩:y.length<=sizeLine/\k=((y.length:Int) != 0):=e;subst d;exact PySem.P.truthy_str (by omega) ⟨H,I.tok _,q⟩
 | byt y=> obtain⟨t,rfl⟩:=f;obtain⟨hy,d⟩:y.size<=sizeLine/\k=((y.size:Int) != 0):=e;subst d;exact PySem.W.truthy_bytes (by omega) ⟨H,I.tok _,q⟩
 | ref p=>
   cases f;have d:(∃xs,Et X.K H p xs/\k= !xs.isEmpty)\/(∃xs,Kx X.K H p xs/\k= !xs.isEmpty)\/∃kvs,H p=some (.dK kvs)/\k= !kvs.isEmpty:=e;rcases d with⟨xs,hx,d⟩|⟨xs,hx,d⟩|⟨kvs,hx,d⟩
   .subst d;obtain⟨g,r,j,l⟩:=I.list hx;have n:=r.length;exact wpAny_truthy_list j.isList (by simp only[AAP];omega) ⟨H,I.tok _,by rw[Nu r];exact q⟩
   .subst d;obtain⟨g,r,j,l⟩:=I.tuple hx;have n:=r.length;exact truthy_tuple j (by simp only[AAP];omega) ⟨H,I.tok _,by rw[Nu r];exact q⟩
   .subst d;obtain⟨l,o,vs,r,m⟩:kvs.length<=sizeLine/\(p==sysModules)=false/\∃vs,KV kvs vs/\s.heap.DictOf (Ay X.prog X.w) p vs:=I.hok p _ hx;have n:kvs.length=vs.length:=ADW r;exact wpAny_truthy_dict o m (by omega) ⟨H,I.tok _,by rw[WW r];exact q⟩
 | _=>exact(show False from e).elim
def db (ha:PE X a ta)(he:∀whole,isTrue a X.env whole=(do let v <-whole;standAt a.pos;holding [v] (truthy v))):
 PT X a (λd H Q=>ta d H λx e=>∃k,kZ X.K x e k/\Q k e):=by intro f s d H Q I h;exact isTrue_plain (BR (ha f s d H _ I h) λv g ⟨x,H1,i,j,l⟩=>fE f g d H1 x v Q i j l) (he _)
def Ti (b:ke):Prop:=∀o i,subscripted b false o i=operate [o,i] (getItem o i)
def U2 (ha:PE X a ta)(hb:PE X b tb)(hs:Ti b):PE X (.Subscript a b pos) (fU (λx y H Q=>∃z i c,x= .str z/\y= .int i/\0<=i/\i<2^63/\i<z.length/\z.cps[i.toNat]? =some c/\Q (.str ⟨#[c]⟩) H) ta tb):=by
 intro p s r H Q I h;refine Subscript_ (gK ha hb I h λv u d x y f g j k q=> ?_);obtain⟨z,i,c,rfl,rfl,l,m,h1,hc,q⟩:=q;obtain⟨t,rfl⟩:=j;obtain⟨t',rfl⟩:=k;have e:seqIndex? i z.length=some i.toNat:=PySem.StrLaws.seqIndex_nonneg l h1;exact tail_any (typeIs_str d z t) slot_str_getitem.lookup (getItem_str (c:=c) (by
  have n:decide (i < -(2^63:Int))=false:=AAW (by omega);have o:decide (i ≥ 2^63)=false:=AAW (by omega);rw[n,o] <;> rfl) (by rw[e];exact hc) ⟨.str ⟨#[c]⟩,f,g.tok _,⟨_,rfl⟩,q⟩) (hs _ _)
def vals1 {x:V}{d:kn km}(r:Ax [x] d):∃u,d= [u] /\RelV x u:=by
 cases r with
 | cons e f=>cases f;exact⟨_,rfl,e⟩
def vals2 {x y:V}{d:kn km}(r:Ax [x,y] d):∃u e,d= [u,e] /\RelV x u/\RelV y e:=by
 cases r with
 | cons f g=>
   cases g with
   | cons h i=>cases i;exact⟨_,_,rfl,f,h⟩
def NY:B3 X (.builtin "abs") (λxs H Q=>∃i,xs= [.int i] /\Q (.int (if i<0 then -i else i)) H):=by intro d s e H xs f Q I r h;obtain⟨i,rfl,q⟩:=h;obtain⟨u,rfl,t,rfl⟩:=vals1 r;exact call_abs_int λu g=>⟨.int (if i<0 then -i else i),H,I.tok _,⟨_,rfl⟩,q⟩
def ZM (hc:X.calm=true):B3 X (.builtin "max") (λxs H Q=>∃i j,xs= [.int i, .int j] /\Q (.int (if j>i then j else i)) H):=by
 intro d s e H xs f Q I r h;obtain⟨i,j,rfl,q⟩:=h;obtain⟨u,g,rfl,⟨t,rfl⟩,⟨t',rfl⟩⟩:=vals2 r;refine max_two_ints (I.ok.hd hc) λh' l k=>⟨_,H,I.kept k, ?_,q⟩;by_cases hj:j>i
 .rw [AAE hj,AAE hj];exact⟨_,rfl⟩
 .rw [AAD hj,AAD hj];exact⟨_,rfl⟩
def QD:B3 X (.type "int") (λxs H Q=>(∃i,xs= [.int i] /\Q (.int i) H)\/∃k,xs= [.bl k] /\Q (.int (if k then 1 else 0)) H):=by
 intro e s f H xs g Q I r h;rcases h with⟨i,rfl,q⟩|⟨k,rfl,q⟩
 .obtain ⟨u,rfl,t,rfl⟩:=vals1 r;exact call_int_int ⟨.int i,H,I,⟨_,rfl⟩,q⟩
 .obtain ⟨u,rfl,d⟩:=vals1 r;cases d;exact call_int_bool ⟨.int (if k then 1 else 0),H,I.tok _,⟨_,rfl⟩,q⟩
end
structure AAb (h:Heap) (x dx C:Addr) (mA:Str->Option Value):Prop where
 obj:h.get? x=some (PySem.W.instObj C dx)
 ns:h.Ns1 dx mA
 ne:dx≠x
def MI.some_of {v:V}{o:kf km}(r:MI (some v) o):∃u,o=some u/\RelV v u:=by
 cases o with
 | none=>exact(show False from r).elim
 | some u=>exact⟨u,rfl,r⟩
structure zb (K:AAB) (C:Addr):Prop where
 pg:PySem.W.plainGet K C Str.empty=true
 hd:PySem.W.hasDictIn K C=true
 po:PySem.W.plainOver K C=true
 sa:PySem.W.findIn K (.ref C) "__setattr__" =some (some (.builtin "object.__setattr__"))
structure Con (K:AAB) (C:Addr) (f:Str) (v:V) (u:Value):Prop where
 at_:PySem.W.findIn K (.ref C) f=some (some u)
 rel:RelV v u
 get:PySem.W.specialIn K u "__get__" =some none
 cp:PySem.W.copiedNames.contains f=false
structure AAZ (K:AAB) (C:Addr) (m:Str) (f:Addr):Prop where
 at_:PySem.W.findIn K (.ref C) m=some (some (.ref f))
 fn:PySem.W.isFn K (.ref f)=true
 kp:PySem.W.keepIn K (.ref f)=true
section
variable {X:Cx}{Tb:kn (ki×Obj)}{σ:St}{H:Hp}{s:kj}{a C dx:ki}{fs:kn (Str×V)}{f:Str}{v:V}{A:Wf}{E:km->kj->Prop}
def Inv.made (I:Inv X Tb σ H s):Inv X Tb σ (upd (upd H s.heap.objs.size (.own (s.heap.objs.size+1))) (s.heap.objs.size+1) (.ins C s.heap.objs.size [])) {s with heap:=(s.heap.push PySem.W.emptyDict).push (PySem.W.instObj C s.heap.objs.size)}:=by
 have c:(s.heap.push PySem.W.emptyDict).get? s.heap.objs.size=some PySem.W.emptyDict:=AAO s.heap rfl;have d:((s.heap.push PySem.W.emptyDict).push (PySem.W.instObj C s.heap.objs.size)).get? (s.heap.objs.size+1)=some (PySem.W.instObj C s.heap.objs.size):=by
  have:=AAO (s.heap.push PySem.W.emptyDict) (o:=PySem.W.instObj C s.heap.objs.size) rfl
  rwa [AA5] at this
 have g:(s.heap.push PySem.W.emptyDict).Ns s.heap.objs.size (λ_=>none):=⟨PySem.W.emptyDict, #[],_,c,rfl,(λe he=>absurd he (by simp)),λ_=>rfl⟩;have h:=I.laid (a:=s.heap.objs.size) (o:= .own (s.heap.objs.size+1)) (h':=s.heap.push PySem.W.emptyDict) (t':=s.toks) (λb u q=>AAG _ q) (AAJ _) ⟨_,c⟩;refine h.laid (a:=s.heap.objs.size+1) (o:= .ins C s.heap.objs.size []) (t':=s.toks) (λb u q=>AAG _ q) (Nat.le_of_eq (AA5 _ _)) ?_;have ne:s.heap.objs.size≠s.heap.objs.size+1:=AAN (Nat.lt_succ_self _);refine⟨by rw[Ai ne,Aj],ABs _,ne,d,λ_=>none,(Heap.Ns1.of_empty g).at λo q=>AAG _ q,λ_=>True.intro,λy hy=>absurd rfl hy⟩
end
section
variable {X:Cx}{Tb:kn (ki×Obj)}{σ:St}{H:Hp}{s:kj}{A:Wf}{E:km->kj->Prop}{Q:km->kj->Prop}{c:km}{b:kd}
inductive NR (K:AAB) (H:Hp):V->Value->Prop where
 | non:NR K H .non (.type "NoneType")
 | bl (x:Bool):NR K H (.bl x) (.type "bool")
 | int (i:Int):NR K H (.int i) (.type "int")
 | str (x:Str):NR K H (.str x) (.type "str")
 | flt (x:UInt64):NR K H (.flt x) (.type "float")
 | lst {a:Addr} {xs:List V} (e:H a=some (.lst xs)):NR K H (.ref a) (.type "list")
 | frz {a:Addr} {o:Obj} {xs:List V} (e:H a=some (.frz o (.lst xs))):NR K H (.ref a) (.type "list")
 | tup {a:Addr} {xs:List V} (e:H a=some (.tup xs)):NR K H (.ref a) (.type "tuple")
 | dK {a:Addr} {kvs:List (B8×V)} (e:H a=some (.dK kvs)):NR K H (.ref a) (.type "dict")
 | dT {a:Addr} {kvs:List (List B8×V)} (e:H a=some (.dT kvs)):NR K H (.ref a) (.type "dict")
 | ins {a C dx:Addr} {fs:List (Str×V)} (e:H a=some (.ins C dx fs)) (cl:zb K C) (ha:PySem.W.findIn K (.ref C) "__class__" =some (some (.builtin "object.__class__")))
    (hn:PySem.W.specialIn K (.builtin "object.__class__") "__get__" =some (some (.builtin "getset_descriptor.__get__"))) (htk:PySem.W.takesIn K (.builtin "object.__class__")=some true)
    (hm:PySem.W.mroIn K C (.type "object")=some true):NR K H (.ref a) (.ref C)
end
structure Room (k:Nat) (A:Around):Prop where
 hd:A.handled=none
 dp:A.depth+3*k+5<recursionLimit
 un:A.units+16*k+200<cLine
 gd:A.guards=some []
def Room.mono {j k:Nat}{A:Wf}(r:Room k A)(h:j<=k):Room j A:=⟨r.hd,by have:=r.dp;omega,by have:=r.un;omega,r.gd⟩
def Room.deeper {k:Nat}{A:Wf}(r:Room (k+1) A)(env:Env):Room k (A.deeper env):=
 ⟨r.hd,by have:=r.dp;show A.depth+1+3*k+5<_;omega,by have:=r.un;show A.units+3+16*k+200<_;omega,r.gd⟩
def Room.in1 {k:Nat}{A:Wf}(r:Room (k+1) A):Room k A.in1:=
 ⟨r.hd,by have:=r.dp;show A.depth+3*k+5<_;omega,by have:=r.un;show A.units+1+16*k+200<_;omega,r.gd⟩
def Wc {A:Wf}{C:ki}{a:kn km}{b:kn (Str×km)}:(A.under (.builtin "type.__call__" ⟨.ref C::a,b⟩)).depth=A.depth+1:=by first | rfl|simp[Around.under,Code.weight,Code.isCreation,Code.isGuard,Code.isCaller,Code.frames,Code.isFrame,guardIds]
def We {A:Wf}{C:ki}{a:kn km}{b:kn (Str×km)}:(A.under (.builtin "type.__call__" ⟨.ref C::a,b⟩)).units=A.units+1:=by first | rfl|simp[Around.under,Code.cUnits,Code.frames,Code.isFrame]
def Room.make {k:Nat}{A:Wf}(r:Room (k+1) A)(C:ki)(a:kn km)(b:kn (Str×km)):Room k (A.under (.builtin "type.__call__" ⟨.ref C::a,b⟩)):=
 ⟨r.hd,by have:=r.dp;rw[Wc];omega,by have:=r.un;rw[We];omega,by first | exact r.gd|simpa[Around.under,pushGuards,Code.guards,Code.isGuard,guardIds] using r.gd⟩
def Room.depth {k:Nat}{A:Wf}(r:Room k A):A.depth<recursionLimit:=by have:=r.dp;omega
def Room.units {k:Nat}{A:Wf}(r:Room k A):A.units+64<cLine:=by have:=r.un;omega
def v6:TA:=λ_ H Q=>Q [] H
def sj (b:TE)(c:TA):TA:=λa H Q=>b a H λx H1=>c a H1 λxs d=>Q (x::xs) d
section
variable {X:Cx}{e:ke}{es:kn ke}{te:TE}{t:TA}{pos:Pos}
def Fo:PA X [] v6:=λ_ _ _ _ H Q I h=>ADZ ⟨[],H,I, .nil,h⟩
def D3 (ha:PE X e te)(c:PA X es t)(hs:starEach (e::es) X.env=(false,eval e X.env)::starEach es X.env:=by rfl):PA X (e::es) (sj te t):=by intro pos a s b H Q I h;rw[hs];show wpAny _ _ (spliced ((false,eval e X.env)::backTo pos (starEach es X.env))) _ _ s;refine ACk (BR (ha a s b H _ I h) λu d ⟨x,H1,f,g,i⟩=> ?_);exact BR (c pos a d b H1 _ f i) λn o ⟨xs,j,k,l,m⟩=>⟨x::xs,j,k, .cons g l,m⟩
def wD (t:TA):TE:=λa H Q=>t a H λxs H1=>xs.length<=sizeLine/\∀p,H1 p=none->Q (.ref p) (upd H1 p (.tup xs))
def v5 (t:TA):TE:=λa H Q=>t a H λxs H1=>xs.length<=sizeLine/\∀p,H1 p=none->Q (.ref p) (upd H1 p (.lst xs))
def nR {x1}(h:PA X es t):PE X (.Tuple es x1 pos) (wD t):=by intro d s f H Q I g;refine wpAny_Tuple_spliced (BR (h pos d s f H _ I g) λi a ⟨xs,H1,c,r,z,q⟩=>⟨by rw[<-r.length];exact z, ?_⟩);have j:H1 a.heap.objs.size=none:=c.hok.fresh (AAJ _);refine⟨.ref a.heap.objs.size,upd H1 a.heap.objs.size (.tup xs),c.laid (t':=a.toks) (λb u e=>AAG _ e) (AAJ _) ?_,rfl,q _ j⟩;exact⟨z,i,r,⟨_,AAO _ rfl,rfl,_,rfl⟩⟩
def dO (h:PA X es t):PE X (.List es pos) (v5 t):=by intro d s f H Q I g;refine wpAny_List_spliced (BR (h pos d s f H _ I g) λi a ⟨xs,H1,c,r,z,q⟩=>⟨by rw[<-r.length];exact z, ?_⟩);have j:H1 a.heap.objs.size=none:=c.hok.fresh (AAJ _);refine⟨.ref a.heap.objs.size,upd H1 a.heap.objs.size (.lst xs),c.laid (t':=a.toks) (λb u e=>AAG _ e) (AAJ _) ?_,rfl,q _ j⟩;exact⟨z,i,0,r,AAO _ rfl⟩
end
abbrev Sp:=kn V->Hp->VK->XK->Prop
abbrev Yy:=kn Env->Hp->kj->XK->km->kj->Prop
structure O8 (P:Program) (w:World) (K:AAB) (mg:Str->Option Value) (base:Heap) (A:Around) (outer:List Env) (s:Shared) (H:Hp):Prop where
 frames:A.frames=some outer
 mod:Mod K mg base
 bs:∀b o,base.get? b=some o->s.heap.get? b=some o/\H b=none
 bsz:base.objs.size<=s.heap.objs.size
 funs:s.heap.FunFrames base outer
 frf:∀b∈aj outer,H b=none
 hok:Jb P w H s.heap
 bare:AllBare s.gens
def CE (outer:kn Env)(P:gn)(w:fe)(H:Hp)(s:kj)(Q:VK)(u:km)(a:kj):Prop:=
 ∃v b,a.os=s.os/\AllBare a.gens/\Un (aj outer) [] H b s.heap a.heap/\Jb P w b a.heap/\RelV v u/\Q v b
def CR (CX:Yy)(outer:kn Env)(P:gn)(w:fe)(H:Hp)(s:kj)(Q:VK)(E:XK)(r:Result)(a:kj):Prop:=
 match r with
 | .ok (.ret u)=>CE outer P w H s Q u a
 | .ok _=>False
 | .error e=>CX outer H s E e a
structure De (P:Program) (w:World) (K:AAB) (mg:Str->Option Value) (base:Heap) (CX:Yy) (k:Nat) (f:Addr) (fd:FuncData) (ps:List Str) (sp:Sp):Prop where
 len:∀vs H Q E,sp vs H Q E->vs.length=ps.length
 run:∀(A:Around) (outer:List Env) (s:Shared) (H:Hp) (args:Args) (us:List Value) (vs:List V) (Q:VK) (E:XK),Room k A->O8 P w K mg base A outer s H->BindsTo s fd args (ps.zip us)->Ax vs us->sp vs H Q E->
  codeAny (model P w) A (.call (.ref f) args) (CR CX outer P w H s Q E) s
def De.mono {P:gn}{w:fe}{K:AAB}{mg:Str->kf km}{base:cb}{CX:Yy}{j k:Nat}{f:ki}{a:FuncData}{ps:kn Str}{sp:Sp}(F:De P w K mg base CX j f a ps sp)(h:j<=k):De P w K mg base CX k f a ps sp:=⟨F.len,λA outer s H args b vs Q E c=>F.run A outer s H args b vs Q E (c.mono h)⟩
def De.imp {P:gn}{w:fe}{K:AAB}{mg:Str->kf km}{base:cb}{CX:Yy}{k:Nat}{f:ki}{b:FuncData}{ps:kn Str}{sp a:Sp}(F:De P w K mg base CX k f b ps sp)(h:∀vs H Q E,a vs H Q E->sp vs H Q E):De P w K mg base CX k f b ps a:=
 ⟨λvs H Q E q=>F.len vs H Q E (h _ _ _ _ q),λA outer s H args c vs Q E d he hb hv hs=>F.run A outer s H args c vs Q E d he hb hv (h _ _ _ _ hs)⟩
def O8.make {P:gn}{w:fe}{K:AAB}{mg:Str->kf km}{base:cb}{A:Wf}{outer:kn Env}{s:kj}{H:Hp}(e:O8 P w K mg base A outer s H)(C:ki)(a:kn km)(b:kn (Str×km)):O8 P w K mg base (A.under (.builtin "type.__call__" ⟨.ref C::a,b⟩)) outer s H:=⟨by first | exact e.frames|(simpa[Around.under,Code.envs,Code.isFrame,pushEnvs] using e.frames),e.mod,e.bs,e.bsz,e.funs,e.frf,e.hok,e.bare⟩
def O8.in1 {P:gn}{w:fe}{K:AAB}{mg:Str->kf km}{base:cb}{A:Wf}{outer:kn Env}{s:kj}{H:Hp}(e:O8 P w K mg base A outer s H):O8 P w K mg base A.in1 outer s H:=⟨e.frames,e.mod,e.bs,e.bsz,e.funs,e.frf,e.hok,e.bare⟩
section
variable {X:Cx}{Tb:kn (ki×Obj)}{σ:St}{H:Hp}{s s':kj}
def Inv.env0 (I:Inv X Tb σ H s):O8 X.prog X.w X.K X.mg X.base X.A X.stack s H:=
 ⟨I.ok.frames,I.ok.mod,I.bs,AAU I.ok.bsz I.sz,I.stack,I.stkFree,I.hok,I.bare⟩
def Inv.after {Q:VK}{u:km}(I:Inv X Tb σ H s)(h:CE X.stack X.prog X.w H s Q u s'):EP X Tb σ Q u s':=by obtain⟨v,c,os,bare,un,hok,r,q⟩:=h;obtain⟨e,g,d,t,a⟩:=s';obtain rfl:a=s.os:=os;exact⟨v,c,I.call (h':=e) (g':=g) (d':=d) (t':=t) (ch:= []) un hok bare (λb z=>absurd z (by simp)),r,q⟩
end
def eT (sp:Sp)(a:kn V)(E:XK)(t:TA):TE:=λb H Q=>t b H λvs H1=>sp (vs++a) H1 Q E
def Binds (K:AAB)(b:FuncData)(ps:kn Str)(ds:kn km):Prop:=
 ∀(s:kj) (a:kn km),K.In s.heap->(a++ds).length=ps.length->BindsTo s b ⟨a, []⟩ (ps.zip (a++ds))
def Binds.all {K:AAB}{b:FuncData}{ps:kn Str}(h:∀a:kn km,a.length=ps.length->bindArgs b ⟨a, []⟩=pure (ps.zip a)):Binds K b ps [] :=λs a _ hl=>by rw[AC2] at hl ⊢;exact .of_eq (h a hl)
def Passes (CX:Yy)(X:Cx)(E:XK):Prop:=∀(b:kn (ki×Obj)) (c:St) (H:Hp) (s:kj) (e:km) (a:kj),Inv X b c H s->CX X.stack H s E e a->X.xe e a
section
variable {X:Cx}{CX:Yy}{k:Nat}{f C:ki}{fd:FuncData}{ps:kn Str}{sp:Sp}{dvs:kn V}{ds:kn km}{E:XK}{x m:Str}{p pos apos:Pos}{e o:ke}{es:kn ke}{ta:TE}{t:TA}
theorem nu {c:kn (ki×Obj)}{d:St}{H:Hp}{s:kj}{Q:VK}{a:kn km}{vs:kn V}(F:De X.prog X.w X.K X.mg X.base CX k f fd ps sp)(i:Room k X.A)(hb:Binds X.K fd ps ds)(hd:Ax dvs ds)(hx:Passes CX X E)(I:Inv X c d H s)(r:Ax vs a)(h:sp (vs++dvs) H Q E):wpAny (model X.prog X.w) X.A (call (.ref f) a) (EP X c d Q) X.xe s:=by
 have g:Ax (vs++dvs) (a++ds):=r.append hd;have hl:(a++ds).length=ps.length:=by rw[<-g.length];exact F.len _ _ _ _ h
 refine AC3 (ACl (F.run X.A X.stack s H ⟨a, []⟩ (a++ds) (vs++dvs) Q E i I.env0 (hb s a I.kIn hl) g h) λr j b=> ?_);cases r with
 | error e=>exact hx c d H s e j I b
 | ok l=>
   cases l with
   | ret u=>exact I.after b
   | next=>exact False.elim b
   | brk=>exact False.elim b
   | cont=>exact False.elim b
theorem YQ (F:De X.prog X.w X.K X.mg X.base CX k f fd ps sp)(b:Room k X.A)(c:Gl X x)(d:X.mg x=some (.ref f))(hk:PySem.W.keepIn X.K (.ref f)=true)(hb:Binds X.K fd ps ds)(hd:Ax dvs ds)(hx:Passes CX X E)(ha:PA X (e::es) t)(hdb:(x==("__debug__" :Str))=false:=by decide)(he:starEach (e::es) X.env=(false,eval e X.env)::starEach es X.env:=by rfl)(hpl:(backTo pos (starEach es X.env)).any (·.1)=false:=by rfl):PE X (.Call (.Name x p) (e::es) [] pos) (eT sp dvs E t):=by intro g s i H Q I h;refine AEJ (YH I c d ?_ hdb);refine PySem.W.callWith_K (h₀:=X.base) I.ok.mod.kin hk (BR (ha pos g s i H _ I h) λj l ⟨vs,H1,a,r,q⟩=>⟨a.kIn, ?_⟩) he hpl;exact nu F b hb hd hx a r q
structure Mk (K:AAB) (C f:Addr):Prop where
 makes:PySem.W.makesIn K C=true
 init:PySem.W.findIn K (.ref C) "__init__" =some (some (.ref f))
 fn:PySem.W.isFn K (.ref f)=true
 kp:PySem.W.keepIn K (.ref C)=true
end
section
variable {X:Cx}{CX:Yy}{k:Nat}{f C:ki}{fd:FuncData}{ps ks:kn Str}{sp:Sp}{E:XK}{x m:Str}{p pos apos kpos:Pos}{e o:ke}{es:kn ke}{kws:kn Keyword}{te ta:TE}{t tk:TA}{nm:kf Str}
structure ug (K:AAB) (fd:FuncData) (ps ks:List Str) (g:List Value->List Value->List Value) (gV:List V->List V->List V):Prop where
 to:∀(s:Shared) (us ws:List Value),K.In s.heap->(g us ws).length=ps.length->BindsTo s fd ⟨us,ks.zip ws⟩ (ps.zip (g us ws))
 rel:∀{vs:List V} {us:List Value} {zs:List V} {ws:List Value},Ax vs us->Ax zs ws->Ax (gV vs zs) (g us ws)
variable {g:kn km->kn km->kn km}{gV:kn V->kn V->kn V}
end
structure DH (N P:List Str) (sc:Scope):Prop where
 kind:sc.kind= .function
 co:sc.isCoroutine=false
 gen:sc.isGenerator=false
 nd:N.Nodup
 pre:N.take P.length=P
 par:∀x∈P,sc.names.lookup x=some .local\/sc.names.lookup x=some .cell
 nofree:∀y∈sc.names,y.2≠ .free
theorem QC {kindOf:Str->kf NameKind}{x:Str}:∀{binds:kn (Str×km)} {m:Str->kf km},(∀v,(x,v) ∉ binds)->bindL kindOf binds m x=m x
 | [],_,_=>rfl
 | (n,v)::r,m,h=>by
   unfold bindL;rw[QC λw hw=>h w (ABz _ hw)];split
   .have:x≠n:=by rintro rfl;exact h v ACS
    simp[this]
   .rfl
theorem P9 {kindOf:Str->kf NameKind}{x:Str}:∀{binds:kn (Str×km)} {m:Str->kf km},(∀v,(x,v) ∉ binds)->bindC kindOf binds m x=m x
 | [],_,_=>rfl
 | (n,v)::r,m,h=>by
   unfold bindC;rw[P9 λw hw=>h w (ABz _ hw)];split
   .rfl
   .have:x≠n:=by rintro rfl;exact h v ACS
    simp[this]
theorem QA {kindOf:Str->kf NameKind}{x:Str}{v:km}:∀{P:kn Str} {vs:kn km} {i:Nat} {m:Str->kf km},P.Nodup->P[i]? =some x->vs[i]? =some v->kindOf x=some .local-> bindL kindOf (P.zip vs) m x=some v
 | [],_,_,_,_,h,_,_=>by simp at h
 | _::_, [],_,_,_,_,h,_=>by simp at h
 | p::P,w::vs,0,m,nd,h1,h2,hk=>by simp at h1 h2;subst h1;subst h2;show bindL kindOf ((p,w)::P.zip vs) m p=_;unfold bindL;rw[QC λv hv=>(ACW.mp nd).1 (ACX hv).1,AAE hk];simp
 | p::P,w::vs,i+1,m,nd,h1,h2,hk=>by show bindL kindOf ((p,w)::P.zip vs) m x=_;unfold bindL;exact QA (i:=i) (ACW.mp nd).2 (by simpa using h1) (by simpa using h2) hk
theorem P8 {kindOf:Str->kf NameKind}{x:Str}{v:km}:∀{P:kn Str} {vs:kn km} {i:Nat} {m:Str->kf km},P.Nodup->P[i]? =some x->vs[i]? =some v->kindOf x≠some .local-> bindC kindOf (P.zip vs) m x=some v
 | [],_,_,_,_,h,_,_=>by simp at h
 | _::_, [],_,_,_,_,h,_=>by simp at h
 | p::P,w::vs,0,m,nd,h1,h2,hk=>by simp at h1 h2;subst h1;subst h2;show bindC kindOf ((p,w)::P.zip vs) m p=_;unfold bindC;rw[P9 λv hv=>(ACW.mp nd).1 (ACX hv).1,AAD hk];simp
 | p::P,w::vs,i+1,m,nd,h1,h2,hk=>by show bindC kindOf ((p,w)::P.zip vs) m x=_;unfold bindC;exact P8 (i:=i) (ACW.mp nd).2 (by simpa using h1) (by simpa using h2) hk
def start (N:kn Str)(vs:kn V):St:=vs.map some++List.replicate (N.length-vs.length) none
def PK (CX:Yy)(P:gn)(w:fe)(K:AAB)(mg:Str->kf km)(base:cb)(N:kn Str)(qual:Str)(scope:Scope)(f:ki)(b:km)(A:Wf)(outer:kn Env)(s:kj)(H:Hp)(E:XK):Cx where
 prog:=P
 w:=w
 K:=K
 mg:=mg
 base:=base
 A:=A.deeper (envOfC qual scope s.heap.objs.size f b)
 N:=N
 s₀:=s
 H₀:=H
 env:=envOfC qual scope s.heap.objs.size f b
 outer:=outer
 stack:=envOfC qual scope s.heap.objs.size f b::outer
 ex:= []
 calm:=true
 fn:=λ_=>true
 pn:= []
 xe:=λe c=>wpAny (model P w) (A.deeper (envOfC qual scope s.heap.objs.size f b)) (leaving (envOfC qual scope s.heap.objs.size f b) e) (λ_ a=>CX outer H s E e a) (λd a=>CX outer H s E d a) c
def Tv {sc:Scope}{n:Nat}{x:Str}(h:sc.names.lookup x=some .cell):∃c,(cellsFrom n sc.names []).lookup x=some c:=by have q:=AE3 sc.names n [] (.inl h);exact Option.isSome_iff_exists.mp q
def Zm {CX:Yy}{P:gn}{w:fe}{K:AAB}{mg:Str->kf km}{base:cb}{N ps:kn Str}{qual:Str}{scope:Scope}{f:ki}{l:km}{A:Wf}{outer:kn Env}{s o:kj}{H:Hp}{E:XK}{m:kn km}{vs:kn V}(S:DH N ps scope)(hd:A.handled=none)(d:O8 P w K mg base A outer s H)(hl:vs.length=ps.length)(r:Ax vs m)(x:InCallC s s.heap.objs.size (bindL (envOfC qual scope s.heap.objs.size f l).kindOf (ps.zip m) λ_=>none) (cellsFrom (s.heap.objs.size+1) scope.names []) (bindC (envOfC qual scope s.heap.objs.size f l).kindOf (ps.zip m) λ_=>none) o):Inv (PK CX P w K mg base N qual scope f l A outer s H E) [] (start N vs) H o:=by
 have hpl:ps.length<=N.length:=by have:=congrArg List.length S.pre;rw[AEK] at this;omega
 obtain⟨h1,t,rfl,hk⟩:=x.done;have g:∀b:ki,b ∉ (PK CX P w K mg base N qual scope f l A outer s H E).ex:=λb z=>absurd (show b∈([] :kn ki) from z) (by simp);refine⟨⟨d.mod,S.kind,rfl,rfl,AAJ _,λy z c h1 h2=> ?_,λy hy=> ?_,λy c _ h=> ?_,λ_=>hd,Around.frames_deeper d.frames, .inr ⟨rfl,rfl⟩,λb z=>absurd z (g b),d.bs,d.bsz,λb _ _=>g b,λb z=>absurd z (g b),d.funs,d.frf⟩,
  rfl,d.bare,Un.kept hk,⟨_,x.toInCall.ns,λi y v h1 h2 h3=> ?_⟩,λy c h=>⟨_,x.cell y c h⟩,d.hok.fresh (AAJ _),λy c h=> ?_,λp hp=>absurd (show p∈([] :kn (ki×Obj)) from hp) (by simp),d.hok.kept hk, ?_⟩
 .exact name_of_addr x.apart (AC4 h1) (AC4 h2)
 .have hy:scope.names.lookup y=some .cell\/scope.names.lookup y=some .free:=hy;rcases hy with hy|hy
  .exact Tv hy
  .exact absurd rfl (S.nofree _ (AC4 hy))
 .exact AC0 (x.above y c (AC4 h))
 .have hi:i<vs.length:=by
   unfold start at h2;by_cases hi:i<vs.length
   .exact hi
   .rw [ABt (by simpa using hi)] at h2;rw[ACF] at h2;split at h2 <;> cases h2
  have ha:vs[i]? =some v:=by
   unfold start at h2;rw[AB1 (by simpa using hi),AAh] at h2;cases e:vs[i]? with
   | none=>rw[e] at h2;cases h2
   | some a=>rw[e] at h2;cases h2;rfl
  obtain⟨u,hu,rv⟩:=r.get ha;have hp:ps[i]? =some y:=by rw[<-S.pre,List.getElem?_take_of_lt (by omega)];exact h1
  have j:ps.Nodup:=by rw[<-S.pre];exact S.nd.sublist (List.take_sublist _ _)
  refine⟨u,rv, ?_⟩;rcases S.par y (ABB hp) with k|k
  .exact .inl ⟨k,QA j hp hu k⟩
  .obtain ⟨c,e⟩:=Tv (n:=s.heap.objs.size+1) k;refine .inr ⟨.inl k,c,e, ?_⟩;have q:=x.cell y c e;rw[P8 j hp hu (by show scope.names.lookup y≠_;rw[k];decide)] at q;exact q
 .exact d.hok.fresh (AC0 (x.above y c (AC4 h)))
 .unfold start;show _=N.length;rw[AA6,AAK,ACG];omega
def jn {CX:Yy}{P:gn}{w:fe}{K:AAB}{mg:Str->kf km}{base:cb}{k:Nat}{f:ki}{name qual:Str}{params:Arguments}{body:kn Stmt}{scope:Scope}{p kV d z a ct G:km}{B L:kf ki}{i:Array (kf km)}{N ps:kn Str}{sp:Sp}(M:K.lookup f=some ⟨G,L, .func (PySem.W.fnOf name qual params body scope p kV d z B a ct),i⟩)(O:PySem.W.codeIn K a qual=true)(S:DH N ps scope)(len:∀vs H Q E,sp vs H Q E->vs.length=ps.length)(R:∀(A:Wf) (outer:kn Env) (s:kj) (H:Hp) (vs:kn V) (Q:VK) (E:XK),Room k (A.deeper (envOfC qual scope s.heap.objs.size f a))->sp vs H Q E-> ∃t,Th (PK CX P w K mg base N qual scope f a A outer s H E) body t/\t {nx:=λ_ c=>Q .non c,rt:=Q} (start N vs) H):De P w K mg base CX (k+1) f (PySem.W.fnOf name qual params body scope p kV d z B a ct) ps sp:=by
 refine⟨len,λA outer s H args T vs Q E j g hb r C=> ?_⟩;have hl:=len _ _ _ _ C;have D:K.In s.heap:=g.mod.kin.keeps λb o e=>(g.bs b o e).1;have l:s.heap.NoLimit:=g.mod.nolimit.keeps λb o e=>(g.bs b o e).1;have U:∀y∈ps.zip T,scope.names.lookup y.1=some .local\/(scope.names.lookup y.1=some .cell/\((cellsFrom (s.heap.objs.size+1) scope.names []).lookup y.1).isSome=true):=λ⟨n,v⟩ hy=>by
  rcases S.par n (ACX hy).1 with q|q
  .exact .inl q
  .exact .inr ⟨q,AE3 _ _ _ (.inl q)⟩
 refine codeAny_call_function j.depth (D _ _ M) rfl S.co S.gen rfl (PySem.W.codeRec_of D O) (hb _ _ _ _ ?_);refine wpAny_newFunctionEnv_cells S.kind U λenv he F x=> ?_;subst he;refine⟨l.keeps x.toInCall.keep,codeAny_func ?_⟩;obtain⟨t,X,Y⟩:=R A outer s H vs Q E (j.deeper _) C;have I:Inv (PK CX P w K mg base N qual scope f a A outer s H E) [] (start N vs) H F:=Zm S j.hd g hl r x;refine AB0 (X [] F (start N vs) H _ I Y) (λZ m hs=> ?_) λe m hs=>hs;have h:∀{σ':St} {c:Hp} {v:V} {u:km},Inv (PK CX P w K mg base N qual scope f a A outer s H E) [] σ' c m->RelV v u->Q v c->CE outer P w H s Q u m:=
  λ{σ' c v u} J rv q=>⟨v,c,J.os,J.bare,J.base,J.hok,rv,q⟩
 cases Z with
 | ret u=> obtain⟨v,σ',c,J,rv,q⟩:=hs;exact h J rv q
 | next=> obtain⟨σ',c,J,q⟩:=hs;exact h (v:=V.non) (u:=Value.none) J rfl q
 | brk=> obtain⟨_,_,_,q⟩:=hs;exact False.elim q
 | cont=> obtain⟨_,_,_,q⟩:=hs;exact False.elim q
section
variable {X:Cx}{x:Str}{p pos:Pos}{e:ke}{es:kn ke}{t:TA}{id T:String}{r:kn V->Hp->VK->Prop}
def vz (r:kn V->Hp->VK->Prop)(t:TA):TE:=λa H Q=>t a H λvs H1=>r vs H1 Q
def Gs (hc:B3 X (.builtin id) r)(c:Gl X x)(d:X.mg x=none)(hv:bootBuiltins x=some (.builtin id))(ha:PA X (e::es) t)(f:x≠"__name__" :=by decide)(hdb:(x==("__debug__" :Str))=false:=by decide)(he:starEach (e::es) X.env=(false,eval e X.env)::starEach es X.env:=by rfl)(hpl:(backTo pos (starEach es X.env)).any (·.1)=false:=by rfl):PE X (.Call (.Name x p) (e::es) [] pos) (vz r t):=by intro a s b H Q I h;refine AEJ (Fj I c d hv ?_ f hdb);exact PyProof.Rows.callWith_builtin1 (BR (ha pos a s b H _ I h) λg i ⟨vs,H1,j,k,l⟩=>hc a i b H1 vs g Q j k l) he hpl
def FW (hc:B3 X (.type T) r)(c:Gl X x)(d:X.mg x=none)(hv:bootBuiltins x=some (.type T))(ha:PA X (e::es) t)(f:x≠"__name__" :=by decide)(hdb:(x==("__debug__" :Str))=false:=by decide)(he:starEach (e::es) X.env=(false,eval e X.env)::starEach es X.env:=by rfl)(hpl:(backTo pos (starEach es X.env)).any (·.1)=false:=by rfl):PE X (.Call (.Name x p) (e::es) [] pos) (vz r t):=by intro a s b H Q I h;refine AEJ (Fj I c d hv ?_ f hdb);exact ACV (BR (ha pos a s b H _ I h) λg i ⟨vs,H1,j,k,l⟩=>hc a i b H1 vs g Q j k l) he hpl
end
end L2
namespace HT
open PySem PyProof.Rows
section
variable {prog:gn}{w:fe}{A:Wf}{E:km->kj->Prop}{s:kj}
def cat_tup {t b:ki}{vs a:kn km}{Q:km->kj->Prop}(m:IsTup s.heap t vs.toArray)(hb:IsTup s.heap b a.toArray)(hv:vs≠ [])(h1:a= [] ->Q (.ref t) s)(h2:a≠ [] ->Q (.ref s.heap.objs.size) {s with heap:=s.heap.push {cls:= .type "tuple",data:= .seq (vs++a).toArray}})(hsz:vs.length+a.length<=sizeLine):wpAny (model prog w) A (binaryOp .Add (.ref t) (.ref b)) Q E s:=by
 obtain⟨⟨cls,h,data,sl⟩,f,hc,n,hd⟩:=id m;obtain⟨⟨i,c,data2,d⟩,g,j,k,l⟩:=id hb;simp only at hc hd j l;subst hc hd j l;have e:vs.toArray++a.toArray=(vs++a).toArray:=by simp
 by_cases hw:a= []
 .exact concat_meets ⟨_,f,rfl⟩ ⟨_,g,rfl⟩ AEL seq_tuple_add AEM AEN (AEO _ _)
   (tuple_addW1 t b vs.toArray a.toArray n k h c sl d (by simpa using hv) (by simp[hw])) ⟨f,g,h1 hw⟩
 .refine concat_meets ⟨_,f,rfl⟩ ⟨_,g,rfl⟩ AEL seq_tuple_add AEM AEN (AEO _ _)
   (tuple_addW2 t b vs.toArray a.toArray n k h c sl d (by simpa using hv) (by simpa using hw) (by rw[AAP,AAP];exact hsz)) ⟨f,g, ?_⟩
  rw[e];exact h2 hw
def sIx (n d:Nat):kf Int->Nat
 | none=>d
 | some v=>if v<0 then (v+(n:Int)).toNat else min v.toNat n
def nw (n d:Nat)(hd:d<=n)(o:kf Int):sIx n d o<=n:=by
 cases o with
 | none=>exact hd
 | some v=>
   show (if v<0 then (v+(n:Int)).toNat else min v.toNat n)<=n;by_cases hv:v<0
   .rw [AAE hv];omega
   .rw [AAD hv];exact Nat.min_le_right _ _
def Xi (v:Int)(n d:Nat):(if v<0 then max (v+(n:Int)) 0 else min v (n:Int))=((sIx n d (some v):Nat):Int):=by
 show (if v<0 then max (v+(n:Int)) 0 else min v (n:Int))=(((if v<0 then (v+(n:Int)).toNat else min v.toNat n):Nat):Int);by_cases hv:v<0
 .simp only[AAE hv];omega
 .simp only[AAD hv];omega
def Vw (lo hi:kf Int)(n:Nat):Builtin.Slice.sliceAdjust lo hi 1 (n:Int)=(((sIx n 0 lo:Nat):Int),((sIx n n hi:Nat):Int)):=by
 have h1:¬((1:Int)<0):=by omega
 unfold Builtin.Slice.sliceAdjust;simp only[h1,AAo];refine AC5 ?_ ?_
 .cases lo with
  | none=>rfl
  | some v=>exact Xi v n 0
 .cases hi with
  | none=>rfl
  | some v=>exact Xi v n n
def Wx (i j:Nat):Builtin.Slice.slicePlaces (i:Int) (j:Int) 1=j-i:=by
 unfold Builtin.Slice.slicePlaces;have h1:(1:Int)>0:=by omega
 simp only[h1,AAt,AEP];split <;> omega
def OW {v:km}{o:kf Int}{Q:kf Int->kj->Prop}(p:IsPart v o)(h:Q o s):wpAny (model prog w) A (Builtin.Slice.slicePartIndex v) Q E s:=by
 cases p with
 | none=>exact ADa h
 | int i t=>exact slicePart_int h
def sliceApplied_gen {sl:ki}{a b:km}{lo hi:kf Int}{n:Nat}{Q:Int×Int×Nat->kj->Prop}(hs:s.heap.IsSliceOf sl a b .none)(e:IsPart a lo)(f:IsPart b hi)(h:Q (((sIx n 0 lo:Nat):Int),1,sIx n n hi-sIx n 0 lo) s):wpAny (model prog w) A (Builtin.Slice.sliceApplied (.ref sl) (pure (n:Int))) Q E s:=by obtain⟨os,c,g,d⟩:=id hs;unfold Builtin.Slice.sliceApplied Builtin.Slice.sliceFields;refine AAA (AAA (AAR c d (x:=a) rfl (AAA (AAR c d (x:=b) rfl (AAA (AAR c d (x:= .none) rfl (AAC ?_)))))));refine AAA (ADa ?_);show wpAny _ _ (if ((1:Int)==0)=true then _ else _) _ _ s;rw[AAD (by decide)];refine AAA (OW e (AAA (OW f (AAA (AAC ?_)))));show wpAny _ _ (match Builtin.Slice.sliceAdjust lo hi 1 (n:Int) with | (lo,hi)=>pure (lo,(1:Int),Builtin.Slice.slicePlaces lo hi 1)) _ _ s;rw[Vw lo hi n];show wpAny _ _ (pure (((sIx n 0 lo:Nat):Int),(1:Int),Builtin.Slice.slicePlaces ((sIx n 0 lo:Nat):Int) ((sIx n n hi:Nat):Int) 1)) _ _ s;rw[Wx];exact AAC h
def pick_gen (xs:Array km)(i k:Nat):((List.range k).filterMap λ(m:Nat)=>xs[((i:Int)+(m:Int)*1).toNat]?).toArray=((xs.toList.drop i).take k).toArray:=by
 have e:(λ(m:Nat)=>xs[((i:Int)+(m:Int)*1).toNat]?)=λm=>xs[i+m]? :=by
  funext m
  have:((i:Int)+(m:Int)*1).toNat=i+m:=by omega
  rw[this]
 rw[e];have:=pick_run xs i k;rw[AEQ] at this;have a:((λx=>xs[x]?) ∘ λx=>i+x)=λm=>xs[i+m]? :=rfl;rw[a] at this;rw[this]
def getItem_tuple_cut {t sl:ki}{items:Array km}{c d:km}{lo hi:kf Int}{Q:km->kj->Prop}(a:IsTup s.heap t items)(hs:s.heap.IsSliceOf sl c d .none)(e:IsPart c lo)(f:IsPart d hi)(hw:¬(sIx items.size 0 lo=0/\sIx items.size items.size hi=items.size))(h:Q (.ref s.heap.objs.size) {s with heap:=s.heap.push {cls:= .type "tuple",data:= .seq ((items.toList.drop (sIx items.size 0 lo)).take (sIx items.size items.size hi-sIx items.size 0 lo)).toArray}})(hsz:items.size<=sizeLine):wpAny (model prog w) A (getItem (.ref t) (.ref sl)) Q E s:=by
 have b:sizeOk (.seq ((items.toList.drop (sIx items.size 0 lo)).take (sIx items.size items.size hi-sIx items.size 0 lo)).toArray):=by show ((items.toList.drop (sIx items.size 0 lo)).take (sIx items.size items.size hi-sIx items.size 0 lo)).toArray.size<=sizeLine;rw[AAP,AEK,List.length_drop,ACB];omega
 have hj:sIx items.size items.size hi<=items.size:=nw _ _ (AAJ _) hi;obtain⟨os,g,i,l⟩:=id hs;have j:s.TypeIs (.ref sl) "slice" :=⟨os,g,i⟩;unfold getItem;try with_reducible refine AAg ?_
 first | refine AAA (AAC ?_)|skip
 refine AAA (AER a.typeIs (by decide) ?_);refine AAA (ABu (name:=Str.ofString "__getitem__") a.typeIs ABv
  (AA0 ABv a.typeIs AES ?_ (args_tuple_getitem _ _)))
 show wpAny _ _ (Builtin.Tuple.tupleItemsOf (.ref t) >>= _) _ _ s;refine AAA (tupleItemsOf_ a ?_);refine AAA (ADb j ?_);rw[AAE (by decide)];refine AAA (sliceApplied_gen hs e f ?_);have k:¬((((sIx items.size 0 lo:Nat):Int)==0&&(1:Int)==1&&(sIx items.size items.size hi-sIx items.size 0 lo)==items.size)=true):=by intro q;rw[ABD,ABD] at q;have n:((sIx items.size 0 lo:Nat):Int)=0:=eq_of_beq q.1.1;have o:sIx items.size items.size hi-sIx items.size 0 lo=items.size:=eq_of_beq q.2;exact hw ⟨by omega,by omega⟩
 show wpAny _ _ (if (((sIx items.size 0 lo:Nat):Int)==0&&(1:Int)==1&&(sIx items.size items.size hi-sIx items.size 0 lo)==items.size)=true then _ else _) _ _ s;rw[AAD k,pick_gen];first
  | exact AAA (m:=Builtin.Tuple.tupleExact _) (AA4 (AAC ⟨_,rfl,AAC h⟩) b)
  | exact AAA (m:=Builtin.Tuple.tupleExact _) (AA4 (AAA (AAC (AAC ⟨_,rfl,AAC h⟩))) b)
  | exact AAA (AAA (m:=Builtin.Tuple.tupleExact _) (AA4 (AAC (AAC ⟨_,rfl,AAC h⟩)) b))
  | exact AAA (AAA (m:=Builtin.Tuple.tupleExact _) (AA4 (AAC ⟨_,rfl,AAC h⟩) b))
end
end HT
namespace L2
open PySem PySem.Spec PyProof.Rows
abbrev TO:=St->Hp->(kf Int->Hp->Prop)->Prop
def PO (X:Cx)(e:kf ke)(t:TO):Prop:=
 ∀(b:kn (ki×Obj)) (s:kj) (a:St) (H:Hp) (Q:kf Int->Hp->Prop),Inv X b a H s->t a H Q->
  wpAny (model X.prog X.w) X.A (evalPart e X.env) (λu d=>∃o c,Inv X b a c d/\IsPart u o/\Q o c) X.xe s
def jS:TO:=λ_ H Q=>Q none H
def tG (t:TE):TO:=λa H Q=>t a H λx H1=>∃i,x= .int i/\Q (some i) H1
section
variable {X:Cx}{e:ke}{te:TE}{lo hi:kf ke}{tl th:TO}{pos p2:Pos}
def iU:PO X none jS:=by intro a s b H Q I h;rw[evalPart_none];exact AAC ⟨none,H,I, .none,h⟩
def iV (h:PE X e te):PO X (some e) (tG te):=by intro a s b H Q I hw;rw[evalPart_some];refine BR (h a s b H _ I hw) λu g ⟨x,H1,c,d,f⟩=> ?_;obtain⟨i,rfl,q⟩:=f;obtain⟨t,rfl⟩:=d;exact⟨some i,H1,c, .int i t,q⟩
def gB (X:Cx)(r:V->kf Int->kf Int->Hp->VK->Prop):Prop:=
 ∀(a:kn (ki×Obj)) (s:kj) (b:St) (H:Hp) (x:V) (v c d:km) (lo hi:kf Int) (sl:ki) (Q:VK),Inv X a b H s->RelV x v->s.heap.IsSliceOf sl c d .none->IsPart c lo->IsPart d hi->r x lo hi H Q->
  ∃T id,typeLookup (.type T) "__getitem__" =pure (some (.builtin id))/\s.TypeIs v T/\wpAny (model X.prog X.w) X.A (getItem v (.ref sl)) (EP X a b Q) X.xe s
def gB.or {r a:V->kf Int->kf Int->Hp->VK->Prop}(h:gB X r)(h':gB X a):gB X (λx lo hi H Q=>r x lo hi H Q\/a x lo hi H Q):=by
 intro b s c H x v d f lo hi sl Q I g hs i j q;rcases q with q|q
 .exact h b s c H x v d f lo hi sl Q I g hs i j q
 .exact h' b s c H x v d f lo hi sl Q I g hs i j q
def tSl (r:V->kf Int->kf Int->Hp->VK->Prop)(te:TE)(tl th:TO):TE:=λa H Q=>te a H λx H1=>tl a H1 λl b=>th a b λu c=>r x l u c Q
def U3 {r:V->kf Int->kf Int->Hp->VK->Prop}(j:gB X r)(he:PE X e te)(hl:PO X lo tl)(hu:PO X hi th):PE X (.Subscript e (.Slice lo hi none p2) pos) (tSl r te tl th):=by intro c s d H Q I h;refine Subscript_ (BR (he c s d H _ I h) λv k ⟨x,H1,m,n,o⟩=> ?_);refine wpAny_Slice (BR (hl c k d H1 _ m o) λf p ⟨l,t,y,z,B⟩=>BR (hu c p d t _ y B) λg a ⟨u,i,C,D,E⟩=> ?_);rw[evalPart_none];refine AAC ?_;have F:Inv X c d i {a with heap:=a.heap.push {cls:= .type "slice",data:= .fields #[f,g, .none] }}:=C.kept (t':=a.toks) λb L q=>AAG _ q;obtain⟨T,id,G,J,K⟩:=j c {a with heap:=a.heap.push {cls:= .type "slice",data:= .fields #[f,g, .none] }} d i x v f g l u a.heap.objs.size Q F n (Heap.IsSliceOf.new ..) z D E;show wpAny (model X.prog X.w) X.A (subscriptTail e (.Slice lo hi none p2) v (.ref a.heap.objs.size)) (EP X c d Q) X.xe {a with heap:=a.heap.push {cls:= .type "slice",data:= .fields #[f,g, .none] }};exact tail_any (ops:= [.ref a.heap.objs.size,v]) J G K (by with_unfolding_all rfl)
def PJ (xs:kn V)(lo hi:kf Int):kn V:=(xs.drop (HT.sIx xs.length 0 lo)).take (HT.sIx xs.length xs.length hi-HT.sIx xs.length 0 lo)
def Lg (xs:kn V)(lo hi:kf Int):(PJ xs lo hi).length<=xs.length:=by unfold PJ;rw[AEK,List.length_drop];omega
def vk (K:AAB):V->kf Int->kf Int->Hp->VK->Prop:=λx lo hi H Q=>∃a xs,x= .ref a/\Kx K H a xs/\
 ¬(HT.sIx xs.length 0 lo=0/\HT.sIx xs.length xs.length hi=xs.length)/\∀p,H p=none->Q (.ref p) (upd H p (.tup (PJ xs lo hi)))
def oU:gB X (vk X.K):=by
 intro l s m H x v n p lo hi sl Q I i hs j k h;obtain⟨a,xs,rfl,hx,hw,q⟩:=h;cases i;obtain⟨c,r,f,g⟩:=I.tuple hx;have d:c.toArray.size=xs.length:=by rw[AAP];exact r.length.symm
 refine⟨"tuple",_,ABv.lookup,f.typeIs, ?_⟩;refine HT.getItem_tuple_cut f hs j k (by rw[d];exact hw) ?_ (by rw[d];exact g);rw[d];refine⟨.ref s.heap.objs.size,_,I.laid (t':=s.toks) (o:= .tup (PJ xs lo hi)) (λb t q=>AAG _ q) (AAJ _) ?_,rfl,q _ (I.hok.fresh (AAJ _))⟩;exact⟨AAU (Lg xs lo hi) g,_,(r.drop (HT.sIx xs.length 0 lo)).take (HT.sIx xs.length xs.length hi-HT.sIx xs.length 0 lo),IsTup.new _ _⟩
def j6 (K:AAB):R2:=λx y H Q=>∃a b xs ys,x= .ref a/\y= .ref b/\Kx K H a xs/\Kx K H b ys/\xs≠ [] /\xs.length+ys.length<=sizeLine/\
 (ys= [] ->Q (.ref a) H)/\(ys≠ [] ->∀p,H p=none->Q (.ref p) (upd H p (.tup (xs++ys))))
def Ax.nil_iff {xs:kn V}{a:kn km}(r:Ax xs a):a= [] ↔xs= [] :=by
 cases r with
 | nil=>simp
 | cons _ _=>simp
def iE:D1 X (binaryOp .Add) (j6 X.K):=by intro p s r H x y v u Q I i j h;obtain⟨a,b,xs,ys,rfl,rfl,ha,hb,hx,f,k,l⟩:=h;cases i;cases j;obtain⟨m,d,n,_⟩:=I.tuple ha;obtain⟨g,c,p2,_⟩:=I.tuple hb;refine HT.cat_tup n p2 (λz=>hx (d.nil_iff.mp z)) (λz=>⟨.ref a,H,I,rfl,k (c.nil_iff.mp z)⟩) (λz=> ?_) (by rw[<-d.length,<-c.length];exact f);refine⟨.ref s.heap.objs.size,_,I.laid (t':=s.toks) (o:= .tup (xs++ys)) (λb t q=>AAG _ q) (AAJ _) ?_,rfl,l (λw=>z (c.nil_iff.mpr w)) _ (I.hok.fresh (AAJ _))⟩;exact⟨by rw[AA6];exact f,_,d.append c,IsTup.new _ _⟩
end
def Rl (n:Nat)(i:Int):kf Nat:=if 0<=i then (if i<n then some i.toNat else none) else if -(n:Int)<=i then some (i+n).toNat else none
def HY {a:Type}(xs:kn a)(i:Int):kf a:=(Rl xs.length i).bind λj=>xs[j]?
def YD {n:Nat}{i:Int}{j:Nat}(h:Rl n i=some j):seqIndex? i n=some j/\j<n/\ -(n:Int)<=i/\i<n:=by
 unfold Rl at h;by_cases a:0<=i
 .rw [AAE a] at h;by_cases h1:i<n
  .rw [AAE h1] at h;have e:i.toNat=j:=AAn h;exact⟨by rw[seqIndex_of a h1,e],by omega,by omega,h1⟩
  .rw [AAD h1] at h;cases h
 .rw [AAD a] at h;by_cases h1: -(n:Int)<=i
  .rw [AAE h1] at h;have e:(i+n).toNat=j:=AAn h;exact⟨by rw[seqIndex_neg (by omega) h1,e],by omega,h1,by omega⟩
  .rw [AAD h1] at h;cases h
def Xd {a:Type}{xs:kn a}{i:Int}{v:a}(h:HY xs i=some v):∃j,seqIndex? i xs.length=some j/\xs[j]? =some v/\j<xs.length/\ -(xs.length:Int)<=i/\i<xs.length:=by
 unfold HY at h;cases e:Rl xs.length i with
 | none=>rw[e] at h;cases h
 | some j=> rw[e] at h;obtain⟨h1,h2,h3,b⟩:=YD e;exact⟨j,h1,h,h2,h3,b⟩
def CB {a:Type}{xs:kn a}{j:Nat}{v:a}(h:xs[j]? =some v):HY xs (j:Int)=some v:=by
 have hj:j<xs.length:=(AA3.mp h).1;have e:Rl xs.length (j:Int)=some j:=by unfold Rl;rw[AAE (by omega),AAE (by omega)];simp
 unfold HY;rw[e];exact h
def bU {a:Type}(xs:kn a)(v:a):HY (xs ++ [v]) (-1)=some v:=by
 have hl:(xs ++ [v]).length=xs.length+1:=by simp
 have e:Rl (xs ++ [v]).length (-1)=some xs.length:=by unfold Rl;rw[hl,AAD (by decide),AAE (by omega)];congr 1;omega
 unfold HY;rw[e];show (xs ++ [v])[xs.length]? =some v;simp
def RF (b:ke):Prop:=∀o i,subscripted b false o i=operate [o,i] (getItem o i)
def fo (X:Cx)(r:R2):Prop:=
 ∀(value slice:ke) (a:kn (ki×Obj)) (s:kj) (b:St) (H:Hp) (x y:V) (v u:km) (Q:VK),Inv X a b H s->RelV x v->RelV y u->r x y H Q->
  subscripted slice false v u=operate [v,u] (getItem v u)->wpAny (model X.prog X.w) X.A (subscriptTail value slice v u) (EP X a b Q) X.xe s
def MtR (X:Cx)(id:String)(r:V->kn V->Hp->VK->Prop):Prop:=
 ∀(a:kn (ki×Obj)) (s:kj) (b:St) (H:Hp) (x:V) (xs:kn V) (v:km) (c:kn km) (Q:VK),Inv X a b H s->RelV x v->Ax xs c->r x xs H Q->
  wpAny (model X.prog X.w) X.A (call (.builtin id) (v::c)) (EP X a b Q) X.xe s
section
variable {X:Cx}{a b:ke}{ta tb:TE}{pos:Pos}
def fo.or {r c:R2}(h:fo X r)(h':fo X c):fo X (λx y H Q=>r x y H Q\/c x y H Q):=by
 intro value slice d s e H x y v u Q I f g q hs;rcases q with q|q
 .exact h value slice d s e H x y v u Q I f g q hs
 .exact h' value slice d s e H x y v u Q I f g q hs
def Lo {r:R2}(c:fo X r)(ha:PE X a ta)(hb:PE X b tb)(hs:RF b):PE X (.Subscript a b pos) (fU r ta tb):=by intro d s e H Q I h;exact Subscript_ (gK ha hb I h λv u f x y g i j k q=>c a b d f e g x y v u Q i j k q (hs _ _))
def rp (K:AAB):R2:=λx y H Q=>∃p xs i v,x= .ref p/\y= .int i/\Et K H p xs/\HY xs i=some v/\Q v H
def sA (K:AAB):R2:=λx y H Q=>∃p xs i v,x= .ref p/\y= .int i/\Kx K H p xs/\HY xs i=some v/\Q v H
def Ev:fo X (rp X.K):=by
 intro value slice g s k H x y v u Q I m n h hs;obtain⟨p,xs,i,z,rfl,rfl,o,he,q⟩:=h;cases m;obtain⟨t,rfl⟩:=n;obtain⟨d,r,e,D⟩:=I.list o;obtain⟨j,h1,h2,h3,A,B⟩:=Xd he;obtain⟨w,ew,f⟩:=r.get h2;have hl:=r.length;have E:=Gk;have c:EP X g k Q w s:=⟨z,H,I,f,q⟩;by_cases l:0<=i
 .have hj:i.toNat=j:=by rw[seqIndex_of l B] at h1;exact AAn h1
  exact item_listR e.isList l (by omega) (by rw[hj];simpa using ew) c hs
 .have hj:(i+(d.toArray.size:Int)).toNat=j:=by rw[seqIndex_neg (by omega) A] at h1;rw[AAP,<-hl];exact AAn h1
  exact subscriptTail_builtinR (x:=w) e.isList.typeIs slot_list_getitem.lookup
   (wpAny_getItem_list_neg (Q:=λr C=>r=w/\EP X g k Q r C) e.isList (by omega) (by rw[AAP] <;> omega) (by omega) (by rw[hj];simpa using ew) ⟨rfl,c⟩) hs
def mF:fo X (sA X.K):=by
 intro value slice e s f H x y v u Q I k l h hs;obtain⟨p,xs,i,z,rfl,rfl,m,he,q⟩:=h;cases k;obtain⟨t,rfl⟩:=l;obtain⟨n,r,g,A⟩:=I.tuple m;obtain⟨j,h1,h2,h3,B,C⟩:=Xd he;obtain⟨w,ew,c⟩:=r.get h2;have hl:=r.length;have D:=Gk;have d:EP X e f Q w s:=⟨z,H,I,c,q⟩;exact subscriptTail_builtinR (x:=w) g.typeIs slot_tuple_getitem.lookup
  (getItem_tuple (j:=j) (Q:=λr o=>r=w/\EP X e f Q r o) g (by omega) (by omega) (by rw[AAP,<-hl];exact h1) (by simpa using ew) ⟨rfl,d⟩) hs
def Wg (c:kn km)(n j:Nat)(u:km):Obj.mapSeq (·.setIfInBounds j u) {cls:= .type "list",data:= .seq c.toArray n}={cls:= .type "list",data:= .seq (c.set j u).toArray n}:=by simp[Obj.mapSeq]
def Inv.lst {d:kn (ki×Obj)}{f:St}{H:Hp}{s:kj}{p:ki}{xs:kn V}(I:Inv X d f H s)(h:H p=some (.lst xs)):∃(c:kn km) (n:Nat),Ax xs c/\s.heap.get? p=some {cls:= .type "list",data:= .seq c.toArray n}/\xs.length<=sizeLine:=by obtain⟨z,c,n,r,e⟩:=I.hok p _ h;exact⟨c,n,r,e,z⟩
def Inv.lstUpd {g:kn (ki×Obj)}{i:St}{H:Hp}{s:kj}{p:ki}{xs ys:kn V}{c its':kn km}{n d:Nat}{f:Obj->Obj}(I:Inv X g i H s)(h:H p=some (.lst xs))(k:s.heap.get? p=some {cls:= .type "list",data:= .seq c.toArray n})(j:f {cls:= .type "list",data:= .seq c.toArray n}={cls:= .type "list",data:= .seq its'.toArray d})(r:Ax ys its')(l:ys.length<=sizeLine)(t:Nat):Inv X g i (upd H p (.lst ys)) {s with heap:=s.heap.update p f,toks:=t}:=by
 have e:(s.heap.update p f).get? p=some {cls:= .type "list",data:= .seq its'.toArray d}:=by rw[AC6 f k (by rw[j] <;> rfl),j]
 refine I.write (x:=p) (e:=p) (by rw[h];trivial) (.inl rfl) (λb u hb q=>(Heap.get?_update_other _ _ (ABI hb)).trans q) ⟨_,e⟩ ?_;exact⟨l,its',d,r,e⟩
def sF:V->V->V->Hp->(Hp->Prop)->Prop:=λo i v H Q=>∃p xs k j,o= .ref p/\i= .int k/\H p=some (.lst xs)/\Rl xs.length k=some j/\Q (upd H p (.lst (xs.set j v)))
def KD:kS X sF:=by
 intro l s m H o i v z A u Q I w x rv h;obtain⟨p,xs,k,j,rfl,rfl,hp,hj,q⟩:=h;cases w;obtain⟨t,rfl⟩:=x;obtain⟨c,n,r,d,y⟩:=I.lst hp;obtain⟨h1,h2,h3,e⟩:=YD hj;have hl:=r.length;have B:=Gk;have f:Inv X l m (upd H p (.lst (xs.set j v))) {s with heap:=s.heap.update p (Obj.mapSeq (·.setIfInBounds j u))}:=
  I.lstUpd hp d (Wg c n j u) (r.set rv j) (by rw[List.length_set];exact y) s.toks
 by_cases g:0<=k
 .have hk:k.toNat=j:=by rw[seqIndex_of g e] at h1;exact AAn h1
  exact PySem.W.ki_setAt d g (by omega) (by rw[AAP,<-hl];exact e) (by rw[hk];exact⟨_,f,q⟩)
 .have hk:(k+(c.toArray.size:Int)).toNat=j:=by rw[seqIndex_neg (by omega) h3] at h1;rw[AAP,<-hl];exact AAn h1
  exact PySem.W.ki_setBack d (by omega) (by rw[AAP,<-hl];exact h3) (by omega) (by rw[hk];exact⟨_,f,q⟩)
def S6 (lo hi:kf Int)(n:Nat):(sliceBounds lo hi none n).1=((HT.sIx n 0 lo:Nat):Int)/\(sliceBounds lo hi none n).2.1=((HT.sIx n n hi:Nat):Int)/\(sliceBounds lo hi none n).2.2=1:=by
 refine⟨?_, ?_,rfl⟩
 .cases lo with
  | none=>simp[sliceBounds,HT.sIx]
  | some i=>
    simp only[sliceBounds,HT.sIx,Option.getD_none,show (1:Int)>0 by decide,AAt];by_cases h:i<0
    .simp only[h,AAt] <;> omega
    .simp only[h,AAo] <;> omega
 .cases hi with
  | none=>simp[sliceBounds,HT.sIx]
  | some i=>
    simp only[sliceBounds,HT.sIx,Option.getD_none,show (1:Int)>0 by decide,AAt];by_cases h:i<0
    .simp only[h,AAt] <;> omega
    .simp only[h,AAo] <;> omega
def Pp (c:kn km)(lo hi:kf Int):slicePick c.toArray lo hi none=((c.drop (HT.sIx c.length 0 lo)).take (HT.sIx c.length c.length hi-HT.sIx c.length 0 lo)).toArray:=by obtain⟨h1,h2,h3⟩:=S6 lo hi c.toArray.size;unfold slicePick;rw[h1,h2,h3];simp only[sliceRange_one,pick_run,AAP] <;> rfl
def vg (K:AAB):V->kf Int->kf Int->Hp->VK->Prop:=λx lo hi H Q=>∃a xs,x= .ref a/\Et K H a xs/\∀p,H p=none->Q (.ref p) (upd H p (.lst (PJ xs lo hi)))
def jH:gB X (vg X.K):=by intro k s l H x v m n lo hi sl Q I d hs e f h;obtain⟨a,xs,rfl,hx,q⟩:=h;cases d;obtain⟨g,r,c,i⟩:=I.list hx;have j:=r.length;refine⟨"list",_,slot_list_getitem.lookup,c.isList.typeIs, ?_⟩;refine wpAny_getItem_list_slice c.isList hs e f .none (by simp) ?_ (by rw[AAP] <;> omega);rw[Pp,<-j];refine⟨.ref s.heap.objs.size,_,I.laid (t':=s.toks) (o:= .lst (PJ xs lo hi)) (λb p q=>AAG _ q) (AAJ _) ?_,rfl,q _ (I.hok.fresh (AAJ _))⟩;exact⟨AAU (Lg xs lo hi) i,_,0,(r.drop (HT.sIx xs.length 0 lo)).take (HT.sIx xs.length xs.length hi-HT.sIx xs.length 0 lo),AAO _ rfl⟩
def Jk:B3 X (.builtin "len") (λxs H Q=>∃p ys,xs= [.ref p] /\(Et X.K H p ys\/Kx X.K H p ys)/\Q (.int ys.length) H):=by
 intro k s l H xs m Q I r h;obtain⟨p,ys,rfl,c,q⟩:=h;obtain⟨u,rfl,i⟩:=vals1 r;cases i;have n:=Gk;rcases c with c|c
 .obtain ⟨d,e,f,j⟩:=I.list c;have g:=e.length;exact Calls.call_len_list f.isList (by simp only[AAP] <;> omega) ⟨.int ys.length,H,I.tok _,⟨s.toks+1,by rw[AAP,g]⟩,q⟩
 .obtain ⟨d,e,f,j⟩:=I.tuple c;have g:=e.length;exact len_tuple f (by simp only[AAP] <;> omega) ⟨.int ys.length,H,I.tok _,⟨s.toks+1,by rw[AAP,g]⟩,q⟩
def RJ:B3 X (.builtin "len") (λxs H Q=>∃z,xs= [.str z] /\z.length<=sizeLine/\Q (.int z.length) H):=by intro c s d H xs e Q I r h;obtain⟨z,rfl,f,q⟩:=h;obtain⟨u,rfl,t,rfl⟩:=vals1 r;have g:=Gk;exact len_str (by omega) ⟨.int z.length,H,I.tok _,⟨_,rfl⟩,q⟩
def RK:B3 X (.type "list") (λxs H Q=>∃p ys,xs= [.ref p] /\(Et X.K H p ys\/Kx X.K H p ys)/\∀l,H l=none->Q (.ref l) (upd H l (.lst ys))):=by
 intro x s y H xs B Q I r h;obtain⟨p,ys,rfl,g,q⟩:=h;obtain⟨u,rfl,z⟩:=vals1 r;cases z;have i:∀(c:kn km),Ax ys c->ys.length<=sizeLine->∀(h':cb) (d:Nat),(∀b v,s.heap.get? b=some v->h'.get? b=some v)->
  h'.get? s.heap.objs.size=some {cls:= .type "list",dict:=none,data:= .seq c.toArray d,slots:= #[] }->EP X x y Q (.ref s.heap.objs.size) {s with heap:=h'}:=λc f j h' d k e=>
  ⟨.ref s.heap.objs.size,_,I.laid (t':=s.toks) k (AAJ _) (show CL X.prog X.w _ h' _ (.lst ys) from⟨j,c,d,f,e⟩),rfl,q _ (I.hok.fresh (AAJ _))⟩
 rcases g with g|g
 .obtain ⟨c,f,m,j⟩:=I.list g;have A:=f.length;obtain⟨o,t,hc,n,hd⟩:=m.isList;exact call_list_seq p (.inl rfl) t hc hd (λh' d k e=>i c f j h' d k e) (by simp only[AAP] <;> omega)
 .obtain ⟨c,f,m,j⟩:=I.tuple g;have A:=f.length;obtain⟨o,t,hc,n,hd⟩:=m;exact call_list_seq p (.inr rfl) t hc hd (λh' d k e=>i c f j h' d k e) (by simp only[AAP] <;> omega)
def PF:B3 X (.type "tuple") (λxs H Q=>∃p ys,xs= [.ref p] /\((Et X.K H p ys/\∀l,H l=none->Q (.ref l) (upd H l (.tup ys)))\/(Kx X.K H p ys/\Q (.ref p) H))):=by
 intro i s j H xs x Q I r h;obtain⟨p,ys,rfl,h⟩:=h;obtain⟨u,rfl,n⟩:=vals1 r;cases n;rcases h with⟨d,q⟩|⟨d,q⟩
 .obtain ⟨c,f,g,k⟩:=I.list d;have y:=f.length;refine call_tuple_list g.isList (λh' t=> ?_) (by simp only[AAP] <;> omega);have m:Inv X i j H {s with heap:=h'}:=I.kept (t':=s.toks) t;have v:Inv X i j (upd H h'.objs.size (.tup ys)) {s with heap:=h'.push {cls:= .type "tuple",data:= .seq c.toArray}}:=
   m.laid (t':=s.toks) (λb o e=>AAG _ e) (AAJ _) (show CL X.prog X.w _ _ _ (.tup ys) from⟨k,c,f,IsTup.new _ _⟩)
  exact⟨.ref h'.objs.size,_,v,rfl,q _ (m.hok.fresh (AAJ _))⟩
 .obtain ⟨c,f,g,k⟩:=I.tuple d;exact call_tuple_same g ⟨.ref p,H,I,rfl,q⟩
def yJ (K:AAB)(T:String)(x:V)(H:Hp):Prop:=match x with
 | .str _=>T="str"
 | .int _=>T="int"
 | .ref p=>(T="list" /\∃xs,Et K H p xs)\/(T="tuple" /\∃o,K.lookup p=some o/\o.cls= .type "tuple" /\o.dict=none)\/
     (T="dict" /\((∃kvs,H p=some (.dK kvs))\/∃kvs,H p=some (.dT kvs)))\/(T="set" /\∃S n,H p=some (.set S n))
 | _=>False
def pB {j:kn (ki×Obj)}{k:St}{H:Hp}{s:kj}{T:String}{x:V}{v:km}(I:Inv X j k H s)(r:RelV x v)(d:yJ X.K T x H):s.TypeIs v T/\∀a,v= .ref a->∃g,s.heap.get? a=some g/\g.dict=none:=by
 cases x with
 | str z=> obtain⟨t,rfl⟩:=r;cases (show T="str" from d);exact⟨typeIs_str s z t,λ_ e=>nomatch e⟩
 | int i=> obtain⟨t,rfl⟩:=r;cases (show T="int" from d);exact⟨typeIs_int s i t,λ_ e=>nomatch e⟩
 | ref p=>
   cases r;rcases d with⟨rfl,xs,l⟩|⟨rfl,o,hk,hc,hd⟩|⟨rfl,hk⟩|⟨rfl,S,n,hk⟩
   .obtain ⟨m,_,h,_⟩:=I.list l;refine⟨h.isList.typeIs,λa e=> ?_⟩;cases e;obtain⟨o,n,e,c,hd,_⟩:=h;exact⟨o,e,hd⟩
   .refine ⟨⟨o,I.kIn p o hk,hc⟩,λa e=> ?_⟩;cases e;exact⟨o,I.kIn _ o hk,hd⟩
   .have z:∃o,s.heap.get? p=some o/\o.ExactDict:=by
     rcases hk with⟨kvs,hk⟩|⟨kvs,hk⟩
     .obtain ⟨_,_,_,_,o,_,_,e,ex,_⟩:=I.hok p _ hk;exact⟨o,e,ex⟩
     .obtain ⟨_,_,_,_,o,_,_,e,ex,_⟩:=I.hok p _ hk;exact⟨o,e,ex⟩
    obtain⟨o,e,ex⟩:=z;refine⟨⟨o,e,ex.1⟩,λa f=> ?_⟩;cases f;exact⟨o,e,ex.2.1⟩
   .obtain ⟨o,_,_,_,e,ex,_⟩:=I.hok p _ hk;refine⟨⟨o,e,ex.1⟩,λa f=> ?_⟩;cases f;exact⟨o,e,ex.2.1⟩
 | _=>exact False.elim d
def yH (K:AAB)(T:String)(r:V->kn V->Hp->VK->Prop)(d:TE)(t:TA):TE:=λc H Q=>d c H λx H1=>yJ K T x H1/\t c H1 λxs e=>r x xs e Q
variable {o e:ke}{es:kn ke}{to:TE}{t:TA}{name:Str}{apos cpos:Pos}{T id:String}{r:V->kn V->Hp->VK->Prop}
def rX (j:PlainAttrs T)(slot:Slot T name id)(k:typeOf (.builtin id)=pure (.type "method_descriptor"))(l:MtR X id r)(m:PE X o to)(ha:PA X (e::es) t)(n:attributeBase o name X.env (eval o X.env)=eval o X.env:=by rfl)(p:((backTo cpos (starEach (e::es) X.env)).all (λx=> !x.1)&&(backToKw cpos (keywordEach [] X.env)).all (λx=>x.1.isSome) && decide ((e::es).length+([] :kn Keyword).length+(if ([] :kn Keyword).isEmpty then 0 else 1)<30))=true:=by rfl)(u:(apos.endLine==cpos.line)=true:=by rfl)(hs:starEach (e::es) X.env=(false,eval e X.env)::starEach es X.env:=by rfl)(w:(backTo cpos (starEach es X.env)).any (·.1)=false:=by rfl):PE X (.Call (.Attribute o name apos) (e::es) [] cpos) (yH X.K T r to t):=by intro c s d H Q I h;refine wpAny_Call_method_late n p u rfl (BR (m c s d H _ I h) λv y ⟨x,H1,f,g,z,A⟩=> ?_);obtain⟨h1,h2⟩:=pB f g z;refine⟨T,id,j,slot,k,h1,h2, ?_⟩;have i:=ha cpos c y d H1 _ f A;rw[hs] at i ⊢;refine ADc (by show (false||(backTo cpos (starEach es X.env)).any (·.1))=false;rw[w] <;> rfl) (Calls.evalArgs_plain ?_);exact BR i λB C ⟨vs,D,E,F,G⟩=>l c C d D x vs v B Q E g F G
end
def qC (X:Cx)(id:String)(r:V->kn V->Hp->VK->Prop):Prop:=
 ∀(a:kn (ki×Obj)) (s:kj) (b:St) (H:Hp) (x:V) (xs:kn V) (v:km) (c:kn km) (Q:VK),Inv X a b H s->RelV x v->Ax xs c->r x xs H Q->
  wpAny (model X.prog X.w) X.A (call (.builtin id) (v::c)) (EP X a b Q) X.xe s
def Ax.one:∀{x:V} {a:kn km},Ax [x] a->∃u,a= [u] /\RelV x u
 | _,_, .cons r .nil=>⟨_,rfl,r⟩
def Ax.two:∀{x y:V} {a:kn km},Ax [x,y] a->∃u v,a= [u,v] /\RelV x u/\RelV y v
 | _,_,_, .cons r (.cons q .nil)=>⟨_,_,rfl,r,q⟩
def Ax.zero:∀{a:kn km},Ax [] a->a= []
 | _, .nil=>rfl
def Ax.dropLast {xs:kn V}{a:kn km}(h:Ax xs a):Ax xs.dropLast a.dropLast:=by
 induction h with
 | nil=>exact .nil
 | cons r t b=>
   cases t with
   | nil=>exact .nil
   | cons q t'=>exact .cons r b
def Ax.reverse {xs:kn V}{a:kn km}(h:Ax xs a):Ax xs.reverse a.reverse:=by
 induction h with
 | nil=>exact .nil
 | cons r t b=>rw[ADd,ADd];exact Ax.append b (.cons r .nil)
section
variable {X:Cx}{Tb:kn (ki×Obj)}{σ:St}{H:Hp}{s:kj}{l b:ki}{xs ys zs:kn V}
def Inv.lset {a its':kn km}{n:Nat}{f:Array km->Array km}{t':Nat}(I:Inv X Tb σ H s)(c:H l=some (.lst xs))(e:s.heap.get? l=some {cls:= .type "list",data:= .seq a.toArray n})(d:f a.toArray=its'.toArray)(hv:Ax ys its')(g:ys.length<=sizeLine):Inv X Tb σ (upd H l (.lst ys)) {s with heap:=s.heap.update l (Obj.mapSeq f),toks:=t'}:=by have q:=PySem.IsL.update e f;rw[d] at q;refine I.write (x:=l) (e:=l) (by rw[c];exact trivial) (.inl rfl) (λh u hb hu=>(Heap.get?_update_other s.heap (Obj.mapSeq f) (ABI hb)).trans hu) ⟨_,q⟩ ?_;exact⟨g,its',_,hv,q⟩
def Inv.lnew {a:kn km}{t':Nat}(I:Inv X Tb σ H s)(hv:Ax ys a)(c:ys.length<=sizeLine):Inv X Tb σ (upd H s.heap.objs.size (.lst ys)) {s with heap:=s.heap.push {cls:= .type "list",data:= .seq a.toArray},toks:=t'}:=
 I.laid (λ_ _ q=>AAG _ q) (AAJ _) ⟨c,a,0,hv,AAO _ rfl⟩
def Inv.fresh (I:Inv X Tb σ H s):H s.heap.objs.size=none:=I.hok.fresh (AAJ _)
def Inv.lstM (I:Inv X Tb σ H s)(c:H l=some (.lst xs)):xs.length<=sizeLine/\∃(a:kn km) (n:Nat),Ax xs a/\xs.length=a.length/\s.heap.get? l=some {cls:= .type "list",data:= .seq a.toArray n}:=by obtain⟨z,a,n,r,e⟩:=I.hok l _ c;exact⟨z,a,n,r,r.length,e⟩
end
section
variable {X:Cx}
def SY:V->kn V->Hp->VK->Prop:=λx vs H Q=>∃l xs y,x= .ref l/\vs= [y] /\H l=some (.lst xs)/\xs.length<sizeLine/\Q .non (upd H l (.lst (xs ++ [y])))
def QW:qC X "list.append" SY:=by intro f s g H x vs v i Q I c rv h;obtain⟨l,xs,y,rfl,rfl,b,j,q⟩:=h;cases c;obtain⟨u,rfl,d⟩:=rv.one;obtain⟨z,a,n,r,hl,e⟩:=I.lstM b;refine call_meets F.slot_list_append ⟨_,e,rfl⟩ F.entry_list_append (F.args_list_append_2 _ _) (PySem.list_append l a.toArray n u (by rw[AAP];omega)) ⟨e, ?_⟩;refine⟨.non,_,I.lset (its':=a ++ [u]) b e (by simp) (r.append (.cons d .nil)) ?_,rfl,q⟩;rw[AA6,AE4];omega
def rh:R2:=λx y H Q=>∃l b xs a,x= .ref l/\y= .ref b/\H l=some (.lst xs)/\H b=some (.lst a)/\xs.length+a.length<=sizeLine/\∀p,H p=none->Q (.ref p) (upd H p (.lst (xs++a)))
def nB:D1 X (binaryOp .Add) rh:=by
 intro o s p H x y v u Q I d f h;obtain⟨l,b,xs,t,rfl,rfl,g,i,w,q⟩:=h;cases d;cases f;obtain⟨z,c,n,r,hl,e⟩:=I.lstM g;obtain⟨A,a,B,j,C,k⟩:=I.lstM i;refine PySem.P.add_list e k ?_ (by rw[AAP,AAP];omega);have m:c.toArray++a.toArray=(c++a).toArray:=by simp
 rw[m];exact⟨.ref _,_,I.lnew (t':=s.toks) (r.append j) (by rw[AA6];omega),rfl,q _ I.fresh⟩
end
section
variable {prog:gn}{w:fe}{A:Wf}{E:km->kj->Prop}{s:kj}
set_option maxRecDepth 100000 in
end
end L2
namespace Att
open PySem PySem.W PySem.Calls PyProof.Rows
def MP {P:Params}{h:cb}:∀(ns:kn Int) (vs:kn km),WellAll P h vs (ns.map WData.int)->IntsAre vs ns:=by
 intro ns;induction ns with
 | nil=> intro vs w;rw[AC7] at w;cases w;exact .nil
 | cons n ns c=>
   intro vs w;rw[AAM] at w;cases w with
   | cons a b=> cases a;exact .cons _ _ (c _ b)
def aK {l:OpenLaw}{n:Nat}(g:l.most=some n){P:Params}{h:cb}{args:kn WData}{vals:kn km}(f:l.row.toRowW.claim.pre args=true)(i:WellAll P h vals args):∃a vs ns,vals= [Value.ref a] /\args= [WData.list (ns.map WData.int)] /\h.get? a=some {cls:= .type "list",data:= .seq vs.toArray}/\IntsAre vs ns/\ns.length<=n:=by
 have e:WShape.hasAll [] args [.list .int] =true:=(pre_splitW f).1;have hc:l.pre.holds [] {args:=args}=true:=(pre_splitW f).2;obtain⟨d,r,rfl,h1,h2⟩:=hasAllW_cons e;obtain rfl:=hasAllW_nil h2;obtain⟨xs,rfl,h3⟩:=hasW_list h1;obtain⟨ns,rfl⟩:=items_int h3;have j:ns.length<=n:=by
  unfold OpenLaw.pre at hc;have b:(WTm.not (.lt (.lit (.int (n:Int))) (.len (.arg 0)))).holds [] {args:= [.list (ns.map .int)] }=true:=by have b:=(holds_andW hc).1;rw[g] at b;exact b
  have c:=condW_of b (w_not (w_lt w_lit (w_len_list (w_arg rfl))));rw[AAK] at c;refine Nat.le_of_not_lt λq=> ?_;have k:(n:Int)<((ns.length:Nat):Int):=by omega
  first
   | (rw[AAV k] at c;exact absurd c (by decide))
   | (simp at c;omega)
 cases i with
 | cons m o=>
   cases o;cases m with
   | list p s=>exact⟨_,_,ns,rfl,rfl,p,MP ns _ s,j⟩
def aD (l:OpenLaw)(args:kn WData):l.row.toRowW.claim.post args (.bool true) args=true:=
 postW_of (r:=l.row.toRowW) (X:=(true==true))
  (show WShape.has [] (.bool true) .bool=true by first | rfl|decide|simp[WShape.has,WShape.arms,WShape.armsAll])
  (show (WTm.eq .res (.lit (.bool true))).value [] {args:=args,res:=some (.bool true),after:=args}=some (.bool (true==true)) from w_eq_bool (w_res rfl) w_lit) rfl
def attach_call {l:OpenLaw}{n:Nat}{q:gn}{loose:kn Str}{XP:(Str->kf km)->cb->Prop}{YP:fe->cb->Prop}{d:DefRec}(m:l.most=some n)(p:d.params.defaults= [])(call:∀(w:fe) (s₀ b:kj) (mg i:Str->kf km) (e:ki) (o:Obj) (j g c:km) (a:ki) (vs:kn km) (ns:kn Int),Ground q loose [] XP w s₀ mg i b.heap->YP w b.heap-> b.heap.get? e=some o->o.data= .func (docDef d.name d.params d.body d.scope j g c)->b.heap.CodeRec g d.name->mg d.name=some (.ref e)-> b.heap.get? a=some {cls:= .type "list",data:= .seq vs.toArray}->IntsAre vs ns->ns.length<=n->b.gens= #[] -> codeAny (model l.prog w) callerA (.call (.ref e) ⟨[.ref a], []⟩) (λr h=>r= .ok (.ret (.bool true))/\OldK b.heap h.heap/\h.os=b.os/\AllBare h.gens) b):WalkO q loose XP YP l.row.toRowW d [] (λf vs=>PySem.call f vs):=by intro w s₀ b mg i G Y e o j g c s kV t hd u k v x args vals as y z A B C;obtain rfl:s= .none:=Dflts.none k p;obtain rfl:kV= .none:=Dflts.noKw k;obtain⟨a,vs,ns,rfl,rfl,D,E,F⟩:=aK m y B;refine enter_call (ACl (call w s₀ b mg i e o j g c a vs ns G Y t (fd_plain hd) u v D E F x) λr h H=> ?_);obtain⟨rfl,h2,h3,I⟩:=H;exact⟨.inl ⟨.bool true, .bool true, [],rfl,λ_=>rfl, .bool true,aD l _,λ_=>⟨List.Pairwise.nil,λ_ J=>(nomatch J)⟩⟩,h2,h3,I⟩
section
variable {prog:gn}{w:fe}{A:Wf}{E:km->kj->Prop}{s:kj}{K:Frag}
def vW (h:cb)(L d:ki):kn (ki×Obj):=(List.range h.objs.size).filterMap λa=>if a=L\/a=d then none else (h.get? a).map λo=>(a,o)
end
end Att
namespace L2
open PySem PySem.Spec PyProof.Rows
theorem Qk:∀{vs:kn km} {ns:kn Int},IntsAre vs ns->Ax (ns.map V.int) vs
 | _,_, .nil=> .nil
 | _,_, .cons n t h=> .cons ⟨t,rfl⟩ (Qk h)
def kQ (H:Hp):Prop:=∀b,H b=none\/∃o xs,H b=some (.frz o (.lst xs))
def ck {P:gn}{w:fe}{K:AAB}{mg p:Str->kf km}{CX:Yy}{k:Nat}{t a:ki}{C:FuncData}{x:Str}{sp:Sp}{c:kj}{vs:kn km}{ns:kn Int}(D:K.In c.heap)(E:c.heap.Ns mainGlobals mg)(hb:c.heap.Ns builtinsNs p)(y:∀x:Str,x≠"__name__" ->p x=bootBuiltins x)(M:c.heap.NoLimit)(N:c.gens= #[])(ha:c.heap.get? a=some {cls:= .type "list",data:= .seq vs.toArray})(hi:IntsAre vs ns)(hl:ns.length<=sizeLine)(O:Room k callerA)(F:∀base:cb,K.In base->base.Ns mainGlobals mg->De P w K mg base CX k t C [x] sp)(Q:∀(s:kj) (u:km),BindsTo s C ⟨[u], []⟩ [(x,u)])(R:∀H:Hp,kQ H->Et K H a (ns.map V.int)->sp [.ref a] H (λv _=>v= .bl true) λ_ _ _=>False)(S:∀H e g,CX [] H c (λ_ _ _=>False) e g->False):codeAny (model P w) callerA (.call (.ref t) ⟨[.ref a], []⟩) (λr g=>r= .ok (.ret (.bool true))/\OldK c.heap g.heap/\g.os=c.os/\AllBare g.gens) c:=by
 have rv:=Qk hi;have j:=hi.length;have core:∀H:Hp,kQ H->Et K H a (ns.map V.int)->Jb P w H c.heap->(∀b,H b≠none->b=a)->(H a≠none->K.lookup a=none)->
  codeAny (model P w) callerA (.call (.ref t) ⟨[.ref a], []⟩) (λr g=>r= .ok (.ret (.bool true))/\OldK c.heap g.heap/\g.os=c.os/\AllBare g.gens) c:=by
  intro H G T hok I U;have f:∀{b:ki} {o:Obj},c.heap.get? b=some o->H b=none->(Rg c.heap H).get? b=some o:=λe n=>cR e n;have A:∀{b:ki} {o:Obj} {es:Array DictEntry} {ep:Nat},c.heap.get? b=some o->o.data= .dict es ep->H b=none:=λ{b o es ep} e d=>by
   cases q:H b with
   | none=>rfl
   | some u=> have B:b=a:=I b (by rw[q];simp);subst B;rw[ha] at e;cases e;have d':Data.seq vs.toArray _=Data.dict es ep:=d;cases d'
  have i:∀{b:ki} {m:Str->kf km},c.heap.Ns b m->(Rg c.heap H).Ns b m:=λ{b m} ⟨o,es,ep,e,d,r⟩=>⟨o,es,ep,f e (A e d),d,r⟩;have J:K.In (Rg c.heap H):=λb o e=>f (D b o e) (by
   cases q:H b with
   | none=>rfl
   | some u=>
     have B:b=a:=I b (by rw[q];simp);subst B;rw[U (by rw[q];simp)] at e;cases e)
  have W:Mod K mg (Rg c.heap H):=⟨J,i E,⟨p,i hb,y⟩,let ⟨X,h1,h2⟩:=M;⟨X,i h1,h2⟩⟩;have Y:O8 P w K mg (Rg c.heap H) callerA [] c H:=⟨rfl,W,λb o e=>g9 e,Nat.le_of_eq (Zk _ _),trivial,λb hb=>absurd (show b∈([] :kn ki) from hb) (by simp),hok, .of_eq N⟩;refine ACl ((F _ J (i E)).run callerA [] c H ⟨[.ref a], []⟩ [.ref a] [.ref a] _ _ O Y (Q c (.ref a)) (.cons rfl .nil) (R H G T)) λr g h=> ?_;cases r with
  | error e=>exact(S H e g h).elim
  | ok Z=>
    cases Z with
    | next=>exact False.elim h
    | brk=>exact False.elim h
    | cont=>exact False.elim h
    | ret u=>
      obtain⟨v,H',os,bare,un,vH,r',q⟩:=h;have q':v= .bl true:=q;subst q';obtain rfl:u=Value.bool true:=r';refine⟨rfl,OldK.of_keep λb o e=> ?_,os,bare⟩;cases q:H b with
      | none=>exact un.keep b o e q (by intro z;exact absurd (show b∈([] :kn ki) from z) (by simp)) (by simp)
      | some u=>
        rcases G b with z|⟨ob,xs,z⟩
        .rw [q] at z;cases z
        .have z2:=un.frzs b ob _ z;obtain⟨L,_⟩:=hok b _ z;obtain⟨e2,_⟩:=vH b _ z2;rw[e] at L;cases L;exact e2
 cases hk:K.lookup a with
 | some o=> have e:=D a o hk;rw[ha] at e;cases e;refine core (λ_=>none) (λ_=> .inl rfl) (.inr ⟨_,vs.toArray,_,hk,rfl,rfl,rfl,by rw[AAP,j];exact hl,by simpa using rv⟩) (λb u z=>by have l:(none:kf HO)=some u:=z;cases l) (λb z=>absurd rfl z) λz=>absurd rfl z
 | none=>
   refine core (λb=>if b=a then some (.frz {cls:= .type "list",data:= .seq vs.toArray} (.lst (ns.map V.int))) else none) (λb=> ?_) (.inl (.inr ⟨{cls:= .type "list",data:= .seq vs.toArray},AAE rfl⟩)) (λb u z=> ?_) (λb z=> ?_) λ_=>hk
   .by_cases hb:b=a
    .exact .inr ⟨_,_,AAE hb⟩
    .exact .inl (AAD hb)
   .by_cases hb:b=a
    .have l:=(AAE hb).symm.trans z;cases l;subst hb;exact⟨ha,by rw[AAK];exact hl,vs,_,rv,ha⟩
    .have l:=(AAD hb).symm.trans z;cases l
   .by_cases hb:b=a
    .exact hb
    .exact absurd (AAD hb) z
abbrev KOf {K:AAB}{h:cb}(_:K.In h):AAB:=K
def walk_of {l:PySem.W.OpenLaw}{n k:Nat}{q:gn}{loose:kn Str}{XP:(Str->kf km)->cb->Prop}{YP:fe->cb->Prop}{d:DefRec}{K:Params->AAB}{CX:fe->Yy}{sp:fe->Sp}{x:Str}(y:l.most=some n)(j:n<=sizeLine)(z:d.params.defaults= [])(A:Room k callerA)(B:∀(w:fe) (h:cb),YP w h->(K w.params).In h)(F:∀(w:fe) (mg:Str->kf km) (i:ki) (h:cb),(K w.params).In h->h.Ns mainGlobals mg->mg d.name=some (.ref i)-> ∃m:FuncData,(∀(s:kj) (u:km),BindsTo s m ⟨[u], []⟩ [(x,u)])/\ ∀base:cb,(K w.params).In base->base.Ns mainGlobals mg->De l.prog w (K w.params) mg base (CX w) k i m [x] (sp w))(C:∀(w:fe) (H:Hp) (a:ki) (ns:kn Int),ns.length<=n->kQ H->Et (K w.params) H a (ns.map V.int)->sp w [.ref a] H (λv _=>v= .bl true) λ_ _ _=>False)(D:∀(w:fe) (H:Hp) (s:kj) (e:km) (p:kj),CX w [] H s (λ_ _ _=>False) e p->False):PySem.W.WalkO q loose XP YP l.row.toRowW d [] (λf vs=>PySem.call f vs):=by refine Att.attach_call y z λw s₀ c mg P i o Q R E a vs ns G Y S hd U I J L r M=> ?_;have t:=B w _ Y;obtain⟨m,hb,hF⟩:=F w mg i _ t G.T.g I;exact ck t G.T.g G.T.b G.T.builtins G.T.nolimit M J L (AAU r j) A hF hb (λH N O=>C w H a ns r N O) λH e p=>D w H c e p
abbrev MD:Yy:=λ_ _ _ _ _ _=>False
abbrev E0:XK:=λ_ _ _=>False
def j3 {X:Cx}:Passes MD X E0:=λ_ _ _ _ _ _ _ h=>h.elim
structure VY (K:AAB) (x qual:Str) (st:Stmt) (f:Addr) (fd:FuncData):Prop where
 ex:∃(oc:Value) (od:Option Addr) (kV doc pm:Value) (an:Option Addr) (cdv ct:Value) (osl:Array (Option Value)),
  fd=PySem.W.fnOf x qual (D2 st) (CC st) (Au st) .none kV doc pm an cdv ct/\K.lookup f=some ⟨oc,od, .func fd,osl⟩/\PySem.W.codeIn K cdv qual=true
 kp:PySem.W.keepIn K (.ref f)=true
section
variable {P:gn}{w:fe}{K:AAB}{mg:Str->kf km}{base:cb}
def VY.ok {x qual:Str}{st:Stmt}{f:ki}{b:FuncData}{N ps:kn Str}{k:Nat}{sp:Sp}(F:VY K x qual st f b)(S:DH N ps (Au st))(len:∀vs H Q E,sp vs H Q E->vs.length=ps.length)(c:∀(a:km) (A:Wf) (outer:kn Env) (s:kj) (H:Hp) (vs:kn V) (Q:VK) (E:XK),Room k (A.deeper (envOfC qual (Au st) s.heap.objs.size f a))->sp vs H Q E-> ∃t,Th (PK MD P w K mg base N qual (Au st) f a A outer s H E).nox (CC st) t/\t {nx:=λ_ d=>Q .non d,rt:=Q} (start N vs) H):De P w K mg base MD (k+1) f b ps sp:=by obtain⟨n,o,kV,e,p,r,a,ct,g,rfl,i,j⟩:=F.ex;refine jn i j S len λA outer s H vs Q E l m=> ?_;obtain⟨t,h,q⟩:=c a A outer s H vs Q E l m;exact⟨t,h.nox,q⟩
def VY.binds {x qual:Str}{st:Stmt}{f:ki}{g:FuncData}{ps:kn Str}(F:VY K x qual st f g)(h:∀(kV a c:km) (d:kf ki) (b ct:km) (e:kn km),e.length=ps.length->bindArgs (PySem.W.fnOf x qual (D2 st) (CC st) (Au st) .none kV a c d b ct) ⟨e, []⟩=pure (ps.zip e)):Binds K g ps [] :=by obtain⟨j,k,kV,a,c,d,b,ct,i,rfl,l,m⟩:=F.ex;exact .all (h kV a c d b ct)
def cD {x qual:Str}{st:Stmt}{f:ki}{h:km}{i e:kf ki}{d:Array (kf km)}{kV b g a ct:km}(l:K.lookup f=some ⟨h,i, .func (PySem.W.fnOf x qual (D2 st) (CC st) (Au st) .none kV b g e a ct),d⟩)(c:PySem.W.codeIn K a qual=true)(k:PySem.W.keepIn K (.ref f)=true):VY K x qual st f (PySem.W.fnOf x qual (D2 st) (CC st) (Au st) .none kV b g e a ct):=⟨⟨h,i,kV,b,g,e,a,ct,d,rfl,l,c⟩,k⟩
end
section
variable {X:Cx}
def pv (i:Nat){x:Str}{pos:Pos}(hN:X.N[i]? =some x:=by rfl)(hv:jk X.env.scope x:=by first | exact Or.inl rfl|exact Or.inr (Or.inl rfl)|exact Or.inr (Or.inr rfl))(hd:(x==("__debug__" :Str))=false:=by decide)(a:(x==("__classdict__" :Str))=false:=by decide):PE X (.Name x pos) (JD i):=N8 hN hv hd a
end
def qy {c A B:Prop}[Decidable c](h1:c->A)(h2:¬c->B):if c then A else B:=by
 by_cases h:c
 .rw [AAE h];exact h1 h
 .rw [AAD h];exact h2 h
def Tl (H a:Hp):Prop:=∀b o,H b=some o->a b=some o
def Tl.free {H a:Hp}(e:Tl H a){l:ki}(h:a l=Option.none):H l=Option.none:=by
 cases q:H l with
 | none=>rfl
 | some o=> rw[e l o q] at h;cases h
def Tl.seq {K:AAB}{H b:Hp}{a:ki}{xs:kn V}(e:Tl H b)(h:Et K H a xs):Et K b a xs:=by
 rcases h with(h|⟨o,h⟩)|h
 .exact .inl (.inl (e _ _ h))
 .exact .inl (.inr ⟨o,e _ _ h⟩)
 .exact .inr h
theorem K1 {c d:Type}[BEq c][LawfulBEq c]{k:c}{a:d}:∀{l:kn (c×d)},l.lookup k=some a->(k,a)∈l
 | [],h=>by simp at h
 | (n,b)::r,h=>by
   rw[List.lookup_cons] at h;cases e:k==n with
   | true=>
     rw[e] at h;have f:k=n:=by simpa using e
     have hb:b=a:=by simpa using h
     subst f hb;exact ACS
   | false=> rw[e] at h;exact ABz _ (K1 h)
theorem QP {c d:Type}[BEq c][LawfulBEq c]{k:c}{a:d}:∀{l:kn (c×d)},(k,a)∈l->∃b,l.lookup k=some b
 | [],h=>nomatch h
 | (n,b)::r,h=>by
   rw[List.lookup_cons];cases e:k==n with
   | true=>exact⟨b,rfl⟩
   | false=>
     rcases AAI.mp h with z|z
     .have:k=n:=congrArg Prod.fst z;rw[this] at e;simp at e
     .exact QP z
theorem Gd {env:Env}{F:Str×NameKind->kn (Str×ki)->Sem (ForInStep (kn (Str×ki)))}(h1:∀n r c,env.cells.lookup n=some c->F (n, .free) r=pure (.yield ((n,c)::r)))(h2:∀n k r,k≠NameKind.free->F (n,k) r=pure (.yield r)):∀(names:kn (Str×NameKind)) (f:kn (Str×ki)),(∀x∈names,x.2= .free->∃c,env.cells.lookup x.1=some c)-> ∃cl,(forIn names f F:Sem _)=pure cl/\(∀p∈cl,p∈f\/env.cells.lookup p.1=some p.2)/\(∀p∈f,p∈cl)/\∀x∈names,x.2= .free->∃c,(x.1,c)∈cl
 | [],f,_=>⟨f,rfl,λp hp=> .inl hp,λp hp=>hp,λx hx=>nomatch hx⟩
 | (n,k)::r,f,h=>by
   by_cases hk:k= .free
   .subst hk;obtain⟨c,hc⟩:=h (n, .free) ACS rfl;obtain⟨cl,e,a,b,d⟩:=Gd h1 h2 r ((n,c)::f) (λx hx=>h x (ABz _ hx));refine⟨cl, ?_,λp hp=> ?_,λp hp=>b p (ABz _ hp),λx hx g=> ?_⟩
    .rw [ACH,h1 n f c hc];exact e
    .rcases a p hp with z|z
     .rcases AAI.mp z with z|z
      .subst z;exact .inr hc
      .exact .inl z
     .exact .inr z
    .rcases AAI.mp hx with z|z
     .subst z;exact⟨c,b _ ACS⟩
     .exact d x z g
   .obtain ⟨cl,e,a,b,d⟩:=Gd h1 h2 r f (λx hx=>h x (ABz _ hx));refine⟨cl, ?_,a,b,λx hx g=> ?_⟩
    .rw [ACH,h2 n k f hk];exact e
    .rcases AAI.mp hx with z|z
     .subst z;exact absurd g hk
     .exact d x z g
def IR {env:Env}{scope:Scope}(h:∀x∈scope.names,x.2= .free->∃c,env.cells.lookup x.1=some c):∃cl,closureFor scope env=pure cl/\(∀y c,cl.lookup y=some c->env.cells.lookup y=some c)/\∀y,(y,NameKind.free)∈scope.names->∃c,cl.lookup y=some c:=by
 obtain⟨cl,e,a,_,d⟩:=Gd (env:=env) (F:=λx cs=>match x with | (name,kind)=>if (kind==NameKind.free)=true then do let a <-cellOf env name;pure (ForInStep.yield ((name,a)::cs)) else pure (ForInStep.yield cs))
  (λn r c hc=>by
    show (do let a <-cellOf env n;pure (ForInStep.yield ((n,a)::r)):Sem _)=_;unfold cellOf;rw[hc];rfl)
  (λn k r hk=>by
    have:(k==NameKind.free)=false:=by simpa using hk
    simp[this]) scope.names [] h
 refine⟨cl, ?_,λy c q=> ?_,λy hy=> ?_⟩
 .unfold closureFor;have b:(forIn scope.names ([] :kn (Str×ki)) λx cs=>match x with | (name,kind)=>if (kind==NameKind.free)=true then do let a <-cellOf env name;pure (ForInStep.yield ((name,a)::cs)) else pure (ForInStep.yield cs):Sem _) >>= (λr=>pure r)=pure cl:=by rw[e];rfl
  exact b
 .rcases a _ (K1 q) with z|z
  .exact nomatch z
  .exact z
 .obtain ⟨c,hc⟩:=d (y, .free) hy rfl;exact QP hc
def IP (env:Env)(sc:Scope)(cl:kn (Str×ki))(C:ki):Env:=
 {scope:=sc,locals:=C,globals:=env.globals,cells:=cl,qual:=env.qual,func:=none,code:=env.code,frame:=env.frame,builtins:=env.builtins}
def blk (X:Cx)(sc:Scope)(N:kn Str)(cl:kn (Str×ki))(C:ki)(s:kj)(H:Hp)(ex:kn ki)(pn:kn (ki×Obj)):Cx where
 prog:=X.prog
 w:=X.w
 K:=X.K
 mg:=X.mg
 base:=X.base
 A:=X.A
 N:=N
 s₀:=s
 H₀:=H
 env:=IP X.env sc cl C
 outer:=X.stack
 stack:=X.stack
 ex:=ex
 fn:=λ_=>false
 calm:=X.calm
 pn:=pn
 xe:=λ_ _=>False
section
variable {X:Cx}{Tb:kn (ki×Obj)}{σ:St}{H:Hp}{s:kj}{fp:kn ki}{sc:Scope}{N:kn Str}{cl:kn (Str×ki)}
def Inv.notStk (I:Inv X Tb σ H s){b:ki}(h1:b≠X.env.locals)(h2:b ∉ X.fs):b ∉ aj X.stack:=λz=>by
 rcases AAI.mp (I.stkSub b z) with e|e
 .exact h1 e
 .exact h2 e
def Inv.szLt (I:Inv X Tb σ H s){x:Str}{c:ki}(e:X.env.cells.lookup x=some c):c<s.heap.objs.size:=by obtain⟨v,q⟩:=I.cell x c e;exact q.lt
def lC (I:Inv X Tb σ H s)(d:∀b∈fp,Fh X Tb H b)(f:∀b∈fp,b<s.heap.objs.size)(hk:sc.kind= .function)(h1:∀y c,cl.lookup y=some c->X.env.cells.lookup y=some c)(h2:∀y,(sc.names.lookup y=some .cell\/sc.names.lookup y=some .free)->∃c,cl.lookup y=some c):(blk X sc N cl s.heap.objs.size s H fp (X.pn++Tb)).Ok where
 mod:=I.ok.mod
 kind:=hk
 glob:=I.ok.glob
 blt:=I.ok.blt
 above:=AAJ _
 inj:=λx y c a b=>I.ok.inj x y c (h1 x c a) (h1 y c b)
 has:=λx hx=>h2 x hx
 cab:=λx c z=>nomatch z
 hd:=I.ok.hd
 frames:=I.ok.frames
 stk:= .inl rfl
 exf:=λb hb=>⟨AAN (f b hb),λx c e=>(d b hb).2.2.2.2.1 x c (h1 x c e)⟩
 bs:=I.bs
 bsz:=AAU I.ok.bsz I.sz
 noex:=λb o e hb=>by
  rcases (d b hb).2.2.2.1 with z|z
  .exact I.ok.noex b o e z
  .exact absurd (AAX (AAF (I.ok.bs b o e).1) z) (ACC _)
 exfs:=λb hb=>I.notStk (d b hb).2.1 (d b hb).2.2.1
 funs:=I.stack
 frf:=I.stkFree
def CY (own:Nat)(ix:kn Nat)(σ:St):St:=List.replicate own none++ix.map λi=>(σ[i]?).getD none
def ZH {own:Nat}{ix:kn Nat}{σ:St}:(CY own ix σ).length=own+ix.length:=by simp[CY]
def IQ {own:Nat}{ix:kn Nat}{σ:St}{j:Nat}{v:V}(h:(CY own ix σ)[j]? =some (some v)):own<=j/\∃i,ix[j-own]? =some i/\σ[i]? =some (some v):=by
 unfold CY at h;by_cases hj:j<own
 .rw [AB1 (by simpa using hj),ACF] at h;simp[hj] at h
 .have ak:own<=j:=by omega
  rw[ABt (by simpa using ak),ACG,AAh] at h;refine⟨ak, ?_⟩;cases e:ix[j-own]? with
  | none=>rw[e] at h;simp at h
  | some i=>
    rw[e] at h;refine⟨i,rfl, ?_⟩;have h':(σ[i]?).getD none=some v:=by simpa using h
    cases a:σ[i]? with
    | none=>rw[a] at h';simp at h'
    | some o=>
      rw[a] at h';have:o=some v:=by simpa using h'
      rw[this]
structure bC (X:Cx) (sc:Scope) (own:Nat) (ix:List Nat) (N:List Str):Prop where
 len:N.length=own+ix.length
 out:∀j i,ix[j]? =some i->∃x,N[own+j]? =some x/\X.N[i]? =some x/\X.env.scope.names.lookup x=some .cell/\sc.names.lookup x=some .cell
def bX {own:Nat}{ix:kn Nat}{h':cb}{m:Str->kf km}{t':Nat}(I:Inv X Tb σ H s)(C:∀b∈fp,Fh X Tb H b)(D:∀b∈fp,b<s.heap.objs.size)(hk:sc.kind= .function)(h1:∀y c,cl.lookup y=some c->X.env.cells.lookup y=some c)(h2:∀y,(sc.names.lookup y=some .cell\/sc.names.lookup y=some .free)->∃c,cl.lookup y=some c)(F:bC X sc own ix N)(E:h'.Ns s.heap.objs.size m)(k:∀b o,s.heap.get? b=some o->h'.get? b=some o):Inv (blk X sc N cl s.heap.objs.size s H fp (X.pn++Tb)) [] (CY own ix σ) H {s with heap:=h',toks:=t'} where
 ok:=lC I C D hk h1 h2
 os:=rfl
 bare:=I.bare
 base:=Un.kept k
 loc:=by
  refine⟨m,E,λi x v G J S=> ?_⟩;obtain⟨ak,K,L,es⟩:=IQ J;obtain⟨y,t,M,w,A⟩:=F.out _ _ L;have g:x=y:=by have h:N[i]? =some x:=G;rw[show own+(i-own)=i by omega,h] at t;exact AAn t
  subst g;obtain⟨m0,O,j⟩:=I.loc;obtain⟨u,r,l⟩:=j K x v M es (.inr (.inl w));refine⟨u,r, ?_⟩;rcases l with⟨z,_⟩|⟨_,c,P,z⟩
  .have B:X.env.scope.names.lookup x=some .local:=z;rw[w] at B;cases B
  .obtain ⟨Q,f⟩:=h2 x (.inl A);have:=h1 x Q f;rw[P] at this;cases this;obtain⟨o,n,hd⟩:=z;exact .inr ⟨.inl A,c,f,o,k c o n,hd⟩
 cell:=λx c e=>by obtain⟨v,o,n,hd⟩:=I.cell x c (h1 x c e);exact⟨v,o,k c o n,hd⟩
 free:=I.hok.fresh (AAJ _)
 freeC:=λx c e=>I.freeC x c (h1 x c e)
 pin:=λp hp=>by
  have R:p∈X.pn++Tb:=by simpa[blk] using hp
  obtain⟨a,b,c,d,e⟩:=I.pin p R;exact⟨k _ _ a,b,AAN (AAF a),I.notStk c d,e⟩
 hok:=I.hok.kept k
 len:=by rw[ZH];exact F.len.symm
def Xf {own:Nat}{ix:kn Nat}{σ':St}{d:Hp}{e:kj}{a:kn (ki×Obj)}(I:Inv X Tb σ H s)(c:∀b∈fp,Fh X Tb H b)(f:∀b∈fp,b<s.heap.objs.size)(B:Inv (blk X sc N cl s.heap.objs.size s H fp (X.pn++Tb)) a σ' d e):Inv X Tb σ d e:=
 I.call' (ch:=fp) B.os B.base B.hok B.bare λb hb=>⟨(c b hb).2.2.2.1,(c b hb).2.1,(c b hb).2.2.2.2.1,(c b hb).2.2.2.2.2⟩
def Tq {d:Hp}{σ':St}{a:kj}{C:ki}{h':cb}(I:Inv X Tb σ H s)(f:C=s.heap.objs.size)(g:Inv X Tb σ' d a)(h:d C=none)(hs:Heap.SameBut C a.heap h'):Inv X Tb σ' d {a with heap:=h'}:=by subst f;refine g.turned (t':=a.toks) (it:=s.heap.objs.size) (λb o hb e=>(hs.2 b hb).trans e) h (AAv I.lt) (.inr I.sz) (λx c e=>AAN (I.szLt e)) λp hp=>AAN (AAF (I.pin p hp).1)
end
def jg (X:Cx)(a:kn ke)(t:TT):Prop:=
 ∀(d:kn (ki×Obj)) (s:kj) (b:St) (H:Hp) (Q:kd->Hp->Prop),Inv X d b H s->t b H Q->
  wpAny (model X.prog X.w) X.A (forIn a true λc r=>if r=true then do let ok <-isTrue c X.env (eval c X.env);pure (ForInStep.yield ok) else pure (ForInStep.yield r)) (TP X d b Q) X.xe s
def jT:TT:=λ_ H Q=>Q true H
def YS {X:Cx}:jg X [] jT:=λ_ _ _ H _ I h=>wpAny_tests_nil ⟨H,I,h⟩
def iT {X:Cx}{c:ke}{t:TT}(hc:PT X c t):jg X [c] t:=λa s b H Q I h=>wpAny_tests_one (hc a s b H Q I h)
def NO (own:Nat)(g:TG):Prop:=∀v b H Q,g v b H Q->g v b H λa c=>Q a c/\a.length=b.length/\∀j,own<=j->a[j]? =b[j]?
def NP (own:Nat)(g:Vs):Prop:=∀vs b H Q,g vs b H Q->g vs b H λa c=>Q a c/\a.length=b.length/\∀j,own<=j->a[j]? =b[j]?
def RU {own i:Nat}(h:i<own):NO own (DF i):=λv a H Q q=>⟨q,by simp,λj hj=>AAf (by omega)⟩
def Xz {own:Nat}:NP own RS:=λvs a H Q q=>⟨q.1,q.2,rfl,λ_ _=>rfl⟩
def Nj {own:Nat}{t:TG}{u:Vs}(h1:NO own t)(m1:∀v b H Q d,(∀a c,Q a c->d a c)->t v b H Q->t v b H d)(h2:NP own u)(m2:∀v b H Q d,(∀a c,Q a c->d a c)->u v b H Q->u v b H d):NP own (FU t u):=by intro vs b H Q q;obtain⟨v,r,e,q⟩:=q;refine⟨v,r,e,m1 _ _ _ _ _ (λa c z=> ?_) (h1 _ _ _ _ q)⟩;obtain⟨z,l,g⟩:=z;refine m2 _ _ _ _ _ (λh m f=> ?_) (h2 _ _ _ _ z);obtain⟨f,i,k⟩:=f;exact⟨f,i.trans l,λj hj=>(k j hj).trans (g j hj)⟩
def Mb {i:Nat}:∀v b H Q c,(∀a d,Q a d->c a d)->DF i v b H Q->DF i v b H c:=λ_ _ _ _ _ m q=>m _ _ q
def RV:∀v b H Q c,(∀a d,Q a d->c a d)->RS v b H Q->RS v b H c:=λ_ _ _ _ _ m q=>⟨q.1,m _ _ q.2⟩
def UH {t:TG}{u:Vs}(m1:∀v b H Q c,(∀a d,Q a d->c a d)->t v b H Q->t v b H c)(m2:∀v b H Q c,(∀a d,Q a d->c a d)->u v b H Q->u v b H c):∀v b H Q c,(∀a d,Q a d->c a d)->FU t u v b H Q->FU t u v b H c:=λ_ _ _ _ _ m ⟨v,r,e,q⟩=>⟨v,r,e,m1 _ _ _ _ _ (λ_ _ z=>m2 _ _ _ _ _ m z) q⟩
def Vz (J:It)(D:ki)(σ0:St)(g:TG)(f:TT)(h:TE)(Q:Hp->Prop)(W:Nat->Nat->Hp->Prop):Prop:=
 ∀i m H,W i m H->(J.stop i H/\Q H)\/(J.go i H/\∀x c,J.yld i H x c->g x σ0 c λa j=>f a j λok d=>
  if ok=true then h a d λy e=>∃ys,e D=some (.lst ys)/\ys.length<sizeLine/\∃b,b<m/\W (i+1) b (upd e D (.lst (ys ++ [y]))) else ∃b,b<m/\W (i+1) b d)
def eU (b:TI)(own:Nat)(ix:kn Nat)(g:TG)(c:TT)(d:TE):TE:=λa H Q=>b a H λJ H1=>∀D,H1 D=none->
 ∃W:Nat->Nat->Hp->Prop,(∃m,W 0 m (upd H1 D (.lst [])))/\Vz J D (CY own ix a) g c d (Q (.ref D)) W
section
variable {X:Cx}{tg elt iter:ke}{ifs:kn ke}{scope:Scope}{pos:Pos}{wi:TI}{own:Nat}{ix:kn Nat}{N:kn Str}{g:TG}{tt:TT}{te:TE}
structure Ff (X:Cx) (tg elt:Expr) (ifs:List Expr) (scope:Scope) (own:Nat) (ix:List Nat) (N:List Str) (g:TG) (tt:TT) (te:TE):Prop where
 kind:scope.kind= .function
 nocell:∀y∈scope.names,y.2≠ .cell
 names:∀y∈scope.names,y.2= .local->scope.names.lookup y.1=some .local
 frees:∀y∈scope.names,y.2= .free->X.env.scope.names.lookup y.1=some .cell
 ins:bC X (relabel scope X.env) own ix N
 keep:NO own g
 tgt:∀cl C s H ex pn,PG (blk X (relabel scope X.env) N cl C s H ex pn) tg g
 tst:∀cl C s H ex pn,jg (blk X (relabel scope X.env) N cl C s H ex pn) ifs tt
 val:∀cl C s H ex pn,PE (blk X (relabel scope X.env) N cl C s H ex pn) elt te
def Ey {env:Env}{y:Str}{k:NameKind}(c:∀y∈scope.names,y.2≠ .cell)(h:(y,k)∈(relabel scope env).names)(hk:k= .cell\/k= .free):(y,NameKind.free)∈scope.names:=by
 obtain⟨⟨n,b⟩,a,e⟩:=AAH.mp (show (y,k)∈scope.names.map _ from h);dsimp only at e;split at e
 .rename_i hc;cases e;have:b= .free:=by cases b <;> simp_all
  subst this;exact a
 .cases e;rcases hk with z|z
  .subst z;exact absurd rfl (c _ a)
  .subst z;exact a
def ZS {B:kn (ki×Obj)}{M:St}{H:Hp}{s:kj}{fp:kn ki}{cl:kn (Str×ki)}{it:ki}{tn:Nat->cb->Prop}{J:It}{D:ki}{R:Result->kj->Prop}{Qh:Hp->Prop}{W:Nat->Nat->Hp->Prop}(hc:X.calm=true)(O:Ff X tg elt ifs scope own ix N g tt te)(T:Je X.prog X.w X.K tg J fp it tn)(I:Inv X B M H s)(hf:∀b∈fp,Fh X B H b)(IW:∀b∈fp,b<s.heap.objs.size)(hW:Vz J D (CY own ix M) g tt te Qh W)(hR:∀σ' a P,Inv (blk X (relabel scope X.env) N cl s.heap.objs.size s H fp (X.pn++B)) [] σ' a P->Qh a->R (.ok .next) P)(n:Nat)(s0:kj)(h0:∃i a,Inv (blk X (relabel scope X.env) N cl s.heap.objs.size s H fp (X.pn++B)) [] (CY own ix M) a s0/\tn i s0.heap/\(∀b∈fp,a b=none)/\W i n a):codeAny (model X.prog X.w) X.A (.compLoop (.ListComp elt [⟨tg,iter,ifs,0⟩] scope pos) 0 (.ref it) (.ref D) (IP X.env (relabel scope X.env) cl s.heap.objs.size)) R s0:=by
 refine codeAny_loop rfl (λn P=>∃i a,Inv (blk X (relabel scope X.env) N cl s.heap.objs.size s H fp (X.pn++B)) [] (CY own ix M) a P/\tn i P.heap/\(∀b∈fp,a b=none)/\W i n a) (λn s1 h1=> ?_) n h0;obtain⟨i,H1,B1,S,U,w1⟩:=h1;generalize f:blk X (relabel scope X.env) N cl s.heap.objs.size s H fp (X.pn++B)=Y at *;have eA:Y.A=X.A:=by rw[<-f];rfl
 have Z:Y.prog=X.prog:=by rw[<-f];rfl
 have eW:Y.w=X.w:=by rw[<-f];rfl
 have eK:Y.K=X.K:=by rw[<-f];rfl
 have eE:IP X.env (relabel scope X.env) cl s.heap.objs.size=Y.env:=by rw[<-f];rfl
 have eX:Y.xe=λ_ _=>False:=by rw[<-f];rfl
 have eC:Y.calm=true:=by rw[<-f];exact hc
 have hg:PG Y tg g:=by rw[<-f];exact O.tgt _ _ _ _ _ _
 have ht:jg Y ifs tt:=by rw[<-f];exact O.tst _ _ _ _ _ _
 have hv:PE Y elt te:=by rw[<-f];exact O.val _ _ _ _ _ _
 have k:∀{a:Hp},(∀b∈fp,a b=none)->∀b∈fp,Fh Y [] a b:=λ{a} hn b hb=>by
  obtain⟨_,a1,a2,a3,a4,a5⟩:=hf b hb;refine⟨hn b hb, ?_, ?_, ?_, ?_, ?_⟩
  .rw [<-f];exact AAN (IW b hb)
  .rw [<-f];exact I.notStk a1 a2
  .rw [<-f];exact .inl hb
  .intro x c e;exact(B1.ok.exf b (by rw[<-f];exact hb)).2 x c e
  .intro p hp;have:p∈X.pn++B:=by rw[<-f] at hp;simpa[blk] using hp
   exact a5 p this
 rw[eE,<-eA,<-Z,<-eW];show wpAny _ _ ((compTurn (.ListComp elt [⟨tg,iter,ifs,0⟩] scope pos) 0 (.ref it) (.ref D) Y.env).onRaise (λx=>do noteFrame x Y.env;theTreesLotGoes x)) _ _ s1;refine wpAny_noted ?_;rw[compTurn_list];have ff:∀{α:Type} {t:Sem α} {Q:α->kj->Prop} {E:km->kj->Prop} {s:kj},wpAny (model Y.prog Y.w) Y.A t Q Y.xe s->wpAny (model Y.prog Y.w) Y.A t Q E s:=λh=>AB0 h (λ_ _ q=>q) λ_ _ z=>by rw[eX] at z;exact z.elim
 refine AAA (ACD (AAA ?_));rcases hW i n H1 w1 with⟨stop,qn⟩|⟨go,step⟩
 .have zd:=λE=>T.done Y Z eW eK eC i [] s1 _ H1 E B1 (k U) S stop;rw[<-Z,<-eW] at zd;refine BR (zd _) λr s4 ⟨hr,I4⟩=> ?_;subst hr;exact AAC (hR _ _ _ I4 qn)
 .have zi:=λE=>T.item Y Z eW eK eC i [] s1 _ H1 E B1 (k U) S go;rw[<-Z,<-eW] at zi;refine BR (zi _) λr s4 ⟨u,hr,h4⟩=> ?_;subst hr;refine AAA (BR h4 λ_ s5 ⟨x,H5,I5,r5,y5,C,fr5⟩=> ?_);have I5':=I5.pinned (k fr5) (T.obj _ _ C);refine AAA (BR (ff (hg _ s5 _ H5 x u _ I5' r5 (O.keep _ _ _ _ (step x H5 y5)))) λ_ s6 ⟨l,H6,I6,q6,l6,k6⟩=> ?_);refine AAA (BR (ff (ht _ s6 l H6 _ I6 q6)) λok s7 ⟨H7,I7,q7⟩=> ?_);have back:∀{F:Hp} {G:kj} {L:Nat},Inv Y ([] ++ K8 fp s5.heap) l F G->L<n->W (i+1) L F->
   ∃m,m<n/\∃i a,Inv Y [] (CY own ix M) a G/\tn i G.heap/\(∀b∈fp,a b=none)/\W i m a:=λ{F G L} I8 hm w8=>by
   refine⟨L,hm,i+1,F,I8.unpinned.weak l6.symm (λj v hj=> ?_),T.keep _ _ _ C λb hb o e=>(I8.pin (b,o) (AAx _ (AAx _ (Dw hb e)))).1,λb hb=> ?_,w8⟩
   .rw [k6 j (IQ hj).1];exact hj
   .obtain ⟨o,e,d⟩:=T.obj _ _ C b hb;exact(I8.pin (b,o) (AAx _ (AAx _ (Dw hb e)))).2.1
  cases ok with
  | false=> obtain⟨L,hm,w8⟩:=q7;exact AAC ⟨rfl,back I7 hm w8⟩
  | true=> refine AAA (AAA (BR (ff (hv _ s7 l H7 _ I7 q7)) λyv G ⟨y,F,I8,r8,ys,hD,hz,L,hm,w8⟩=> ?_));refine AAA (BR (ff (QW _ G l F (.ref D) [y] (.ref D) [yv] (λ_ H9=>H9=upd F D (.lst (ys ++ [y]))) I8 rfl (.cons r8 .nil) ⟨D,ys,y,rfl,rfl,hD,hz,rfl⟩)) λ_ s9 ⟨_,H9,I9,_,e9⟩=> ?_);subst e9;exact AAC (AAC ⟨rfl,back I9 hm w8⟩)
def Tx {f:kn (ki×Obj)}{u:St}{H:Hp}{s:kj}{use:kf (km->Sem Unit)}{Q:km->kj->Prop}{it:ki}{fp:kn ki}{cl:kn (Str×ki)}{tn:Nat->cb->Prop}{J:It}{Qd:ki->Hp->Prop}(hc:X.calm=true)(O:Ff X tg elt ifs scope own ix N g tt te)(T:Je X.prog X.w X.K tg J fp it tn)(I:Inv X f u H s)(P:∀b∈fp,Fh X f H b)(st:tn 0 s.heap)(h1:∀y c,cl.lookup y=some c->X.env.cells.lookup y=some c)(h2:∀y,(y,NameKind.free)∈scope.names->∃c,cl.lookup y=some c)(R:∀D,H D=none->∃W:Nat->Nat->Hp->Prop,(∃m,W 0 m (upd H D (.lst [])))/\Vz J D (CY own ix u) g tt te (Qd D) W)(S:∀D C j k,(∃m,k.heap.Ns C m)->Inv X f u j k->(∀h v,Inv X f h j v->∀h',Heap.SameBut C v.heap h'->Inv X f h j {v with heap:=h'})->C≠X.env.locals->(∀x c,X.env.cells.lookup x=some c->C≠c)->Qd D j-> compPost (model X.prog X.w) X.A X.xe use Q (.ref D) C (.ok .next) k):wpAny (model X.prog X.w) X.A (newList []) (λl n=>wpAny (model X.prog X.w) X.A (newFunctionEnv scope X.env.globals cl [] X.env.qual none .none (some X.env)) (λd p=> codeAny (model X.prog X.w) X.A (.compStart (.ListComp elt [⟨tg,iter,ifs,0⟩] scope pos) 0 (.ref it) l {d with scope:=relabel scope X.env}) (compPost (model X.prog X.w) X.A X.xe use Q l d.locals) p) X.xe n) X.xe s:=by
 refine AA4 ?_ (by simp[sizeOk]);have i:Inv X f u (upd H s.heap.objs.size (.lst [])) {s with heap:=s.heap.push {cls:= .type "list",data:= .seq ([] :kn km).toArray}}:=I.lnew (t':=s.toks) .nil (ABs _);have U:=I.fresh;obtain⟨W,⟨m0,Y⟩,Z⟩:=R _ U;have ln:∀b∈fp,b<s.heap.objs.size:=λb hb=>by obtain⟨o,e,_⟩:=T.obj _ _ st b hb;exact AAF e
 have E:∀b∈fp,Fh X f (upd H s.heap.objs.size (.lst [])) b:=λb hb=>by obtain⟨a0,ar⟩:=P b hb;exact⟨by rw[Ai (AAN (ln b hb))];exact a0,ar⟩
 generalize vI:({s with heap:=s.heap.push {cls:= .type "list",data:= .seq ([] :kn km).toArray}}:kj)=s3 at i;have r:tn 0 s3.heap:=T.keep _ _ _ st λb hb o e=>by rw[<-vI];exact AAG _ e
 have F:∀b∈fp,b<s3.heap.objs.size:=λb hb=>by obtain⟨o,e,_⟩:=T.obj _ _ r b hb;exact AAF e
 refine wpAny_newFunctionEnv O.nocell (by intro y hy;simp at hy) (λa pS vJ=> ?_) O.kind;have M:∀b o,s3.heap.get? b=some o->a.get? b=some o:=λb o e=>vJ.extBut b o (AAN (AAF e)) (AAG _ e);have jr:∀y,((relabel scope X.env).names.lookup y=some .cell\/(relabel scope X.env).names.lookup y=some .free)->∃c,cl.lookup y=some c:=λy hy=>by
  rcases hy with z|z
  .exact h2 y (Ey O.nocell (K1 z) (.inl rfl))
  .exact h2 y (Ey O.nocell (K1 z) (.inr rfl))
 have B:=bX (N:=N) (t':=s3.toks+([] :kn (Str×km)).length) i E F (sc:=relabel scope X.env) O.kind h1 jr O.ins pS M;have t:tn 0 a:=T.keep _ _ _ r λb hb o e=>M b o e;have loop:∀G:kj,G={s3 with heap:=a,toks:=s3.toks+([] :kn (Str×km)).length}->
  codeAny (model X.prog X.w) X.A (.compLoop (.ListComp elt [⟨tg,iter,ifs,0⟩] scope pos) 0 (.ref it) (.ref s.heap.objs.size) (IP X.env (relabel scope X.env) cl s3.heap.objs.size)) (compPost (model X.prog X.w) X.A X.xe use Q (.ref s.heap.objs.size) s3.heap.objs.size) G:=by rintro G rfl;refine ZS (cl:=cl) (Qh:=Qd s.heap.objs.size) hc O T i E F Z (λσ' j k L q'=> ?_) m0 _ ⟨0,_,B,t,λb hb=>(E b hb).1,Y⟩;refine S _ _ j k (let ⟨m,hm,_⟩:=L.loc;⟨m,hm⟩) (Xf (own:=own) (ix:=ix) i E F L) (λh v I2 h' hs=>Tq i rfl I2 L.free hs) (AAv i.lt) (λx c e=>AAv (i.szLt e)) q'
 exact codeAny_compStart_list (loop _ rfl) (T.self _ 0 _ _ _ t (loop _ rfl))
def iK (hc:X.calm=true)(hi:PI X tg iter wi)(O:Ff X tg elt ifs scope own ix N g tt te)(hs:∀x,foldedSetIterable iter X.env x=pure x:=by intro _;rfl):PE X (.ListComp elt [⟨tg,iter,ifs,0⟩] scope pos) (eU wi own ix g tt te):=by intro d s c H Q I h;obtain⟨cl,f,h1,h2⟩:=IR (env:=X.env) (scope:=scope) λy hy e=>I.ok.has y.1 (.inl (O.frees y hy e));rw[eval_ListComp];refine AET (use:=none) rfl hs f O.kind O.names (BR (hi d s c H _ I h) λv u hv=>BR hv λi w j=> ?_);obtain⟨it,fp,tn,J,z,rfl,k,T,a,l,q⟩:=j;exact Tx (Qd:=λD b=>Q (.ref D) b) hc O T k l a h1 h2 q λD C b n o p gone nl A r=>by obtain⟨m,t⟩:=o;exact⟨m,t,λh' hs=>⟨.ref D,b,gone c n p h' hs,rfl,r⟩⟩
def YT {i:Nat}{x:Str}{pos' b:Pos}(hc:X.calm=true)(hN:X.N.Nodup)(n:X.N[i]? =some x)(hx:Loc X.env.scope x)(hi:PI X tg iter wi)(O:Ff X tg elt ifs scope own ix N g tt te)(o:swapsWith (.ListComp elt [⟨tg,iter,ifs,0⟩] scope pos) (some (.Name x pos')) b.line X.env=pure true:=by rfl)(hs:∀x,foldedSetIterable iter X.env x=pure x:=by intro _;rfl)(p:X.fn x=true\/X.env.scope.names.lookup x=some .local:=by first | exact .inl rfl|exact .inr rfl|assumption):PS X (.Assign [.Name x pos'] (.ListComp elt [⟨tg,iter,ifs,0⟩] scope pos) b) (XG (eU wi own ix g tt te) (DF i)):=by
 intro k s l H D I h;obtain⟨cl,r,h1,h2⟩:=IR (env:=X.env) (scope:=scope) λy hy e=>I.ok.has y.1 (.inl (O.frees y hy e));rw[exec_Assign_Name_used _ _ _ _ o];refine AAA (ACD (AAA ?_));show wpAny _ _ (do let _ <-comprehension (.ListComp elt [⟨tg,iter,ifs,0⟩] scope pos) scope X.env _ (newList []) false (eval iter X.env) (some (assign (.Name x pos') X.env))) _ _ s;refine AAA (BR (AET (use:=some (assign (.Name x pos') X.env)) (Q:=λ_ c=>SP X k D .next c) rfl hs r O.kind O.names (BR (hi k s l H _ I h) λv U hv=>BR hv λt W u=> ?_)) λ_ c w=>AAC (AAC w));obtain⟨it,fp,tn,J,Y,rfl,A,T,f,B,q⟩:=u;refine Tx (Qd:=λd j=>DF i (.ref d) l j D.nx) hc O T A B f h1 h2 q λd C j c E F gone nl G K=> ?_;obtain⟨m,L⟩:=E;show wpAny _ _ (assign (.Name x pos') X.env (.ref d)) _ _ c;refine AEG (LV (v:= .ref d) F hN n hx rfl (λM P ⟨a,R,ha⟩=> ?_) p);have S:C≠a:=by
  rcases ha with z|z
  .rw [z];exact nl
  .exact G x a z
 exact⟨m,L.sameBut R S,λh' hs=>⟨_,j,gone _ M P h' hs,K⟩⟩
end
def Jx {n k:Nat}(h:n<2^k)(hk:0<k):n.log2<k:=by
 by_cases e:n=0
 .subst e;simpa using hk
 .exact (Nat.log2_lt e).mpr h
def HJ {i:Int}{k:Nat}(h:i.natAbs<2^k):Builtin.Int.intBits i<=k:=by
 unfold Builtin.Int.intBits;by_cases e:i=0
 .subst e;simp
 .have a:(i==0)=false:=by simpa using e
  rw[a];simp only[ABA,AAo];have b:i.natAbs≠0:=by omega
  have:=(Nat.log2_lt b).mpr h;omega
section
variable {X:Cx}
def uT (i j:Int):Prop:=i.natAbs<2^8000/\j.natAbs<2^8000
def p9 (i j:Int):Prop:=FI i j\/uT i j
def HQ:D1 X (binaryOp .Mult) (rI p9 λi j=> .int (i*j)):=nA λ_ _ _ _ _ _ _ hc q=>mul_int q (by
 rcases hc with z|z
 .exact z.ok
 .exact .of_le (HJ z.1) (HJ z.2) (by decide))
def p8 (_ j:Int):Prop:=0<j/\j.natAbs<2^8000
def dD:D1 X (binaryOp .FloorDiv) (rI p8 λi j=> .int (i/j)):=nA λi j _ _ _ _ _ hc q=>by have h1:(0:Int)<j:=hc.1;refine floordiv_int (by omega) ?_ (.inl (AE5 (AC8 (Jx hc.2 (by decide)) (by decide))));rw[ACI _ (Int.le_of_lt h1)];exact q
inductive Kd where
 | int|bl|non|str|lst|tup
 deriving DecidableEq
def KdV (K:AAB)(x:V)(H:Hp):Kd->Prop
 | .int=>∃i,x= .int i
 | .bl=>∃b,x= .bl b
 | .non=>x= .non
 | .str=>∃z,x= .str z
 | .lst=>∃a ys,x= .ref a/\Et K H a ys
 | .tup=>∃a ys,x= .ref a/\Kx K H a ys
def Rk:Kd->String->kd
 | .int,T=>T == "int"
 | .bl,T=>T == "bool" || T == "int"
 | .non,_=>false
 | .str,_=>false
 | .lst,T=>T == "list"
 | .tup,T=>T == "tuple"
def cW (T:String):Prop:=T="int" \/T="bool" \/T="tuple" \/T="list"
def nj (K:AAB):kn V->Hp->VK->Prop:=λxs H Q=>∃x T k,xs= [x, .ty T] /\cW T/\KdV K x H k/\Q (.bl (Rk k T)) H
def bf:B3 X (.builtin "isinstance") (nj X.K):=by
 intro o s p H xs w Q I r h;obtain⟨x,T,k,rfl,f,hk,q⟩:=h;cases r with
 | cons g m=>
 cases m with
 | cons rt m=>
 cases m;cases rt;have c:Q (.bl true) H->EP X o p Q (.bool true) s:=λz=>⟨.bl true,H,I,rfl,z⟩;have b:Q (.bl false) H->EP X o p Q (.bool false) {s with toks:=s.toks+1}:=λz=>⟨.bl false,H,I.tok _,rfl,z⟩;cases k with
 | int=>
   obtain⟨i,rfl⟩:=hk;obtain⟨t,rfl⟩:=g;rcases f with rfl|rfl|rfl|rfl
   .exact IsiPair.int_int (c q)
   .exact IsiPair.int_bool (b q)
   .exact IsiPair.int_tuple (b q)
   .exact IsiPair.int_list (b q)
 | bl=>
   obtain⟨i,rfl⟩:=hk;cases g;rcases f with rfl|rfl|rfl|rfl
   .exact IsiPair.bool_int (c q)
   .exact IsiPair.bool_bool (c q)
   .exact IsiPair.bool_tuple (b q)
   .exact IsiPair.bool_list (b q)
 | non=>
   have e:x= .non:=hk;subst e;cases g;rcases f with rfl|rfl|rfl|rfl
   .exact IsiPair.NoneType_int (b q)
   .exact IsiPair.NoneType_bool (b q)
   .exact IsiPair.NoneType_tuple (b q)
   .exact IsiPair.NoneType_list (b q)
 | str=>
   obtain⟨i,rfl⟩:=hk;obtain⟨t,rfl⟩:=g;rcases f with rfl|rfl|rfl|rfl
   .exact IsiPair.str_int (b q)
   .exact IsiPair.str_bool (b q)
   .exact IsiPair.str_tuple (b q)
   .exact IsiPair.str_list (b q)
 | lst=>
   obtain⟨a,ys,rfl,n⟩:=hk;cases g;obtain⟨l,u,j,v⟩:=I.list n;rcases f with rfl|rfl|rfl|rfl
   .exact IsiPair.isList_int j.isList (λ_ _ e=>e) (b q)
   .exact IsiPair.isList_bool j.isList (λ_ _ e=>e) (b q)
   .exact IsiPair.isList_tuple j.isList (λ_ _ e=>e) (b q)
   .exact IsiPair.isList_list j.isList (λ_ _ e=>e) (c q)
 | tup=>
   obtain⟨a,ys,rfl,n⟩:=hk;cases g;obtain⟨l,u,j,v⟩:=I.tuple n;have d:s.heap.IsTuple a l.toArray:=j;rcases f with rfl|rfl|rfl|rfl
   .exact IsiPair.isTuple_int d (λ_ _ e=>e) (b q)
   .exact IsiPair.isTuple_bool d (λ_ _ e=>e) (b q)
   .exact IsiPair.isTuple_tuple d (λ_ _ e=>e) (c q)
   .exact IsiPair.isTuple_list d (λ_ _ e=>e) (b q)
def aF (bs:kn kd):(List.range bs.length).all (λi=>bs.getD i true)=bs.all id:=by
 rw[ACE,ACm,ACm];constructor
 .intro h b hb;obtain⟨i,hi,e⟩:=ADe.mp hb;have:=h i (AAu.mpr hi);rw[ACn,AAY hi] at this;subst e;simpa using this
 .intro h i hi;have a:=AAu.mp hi;rw[ACn,AAY a];simpa using h _ (ACo a)
def aG (bs:kn kd):(List.range bs.length).any (λi=>bs.getD i true)=bs.any id:=by
 rw[ACE,ADf,ADf];constructor
 .rintro ⟨i,hi,h⟩;have a:=AAu.mp hi;rw[ACn,AAY a] at h;exact⟨_,ACo a,by simpa using h⟩
 .rintro ⟨b,hb,h⟩;obtain⟨i,hi,e⟩:=ADe.mp hb;refine⟨i,AAu.mpr hi, ?_⟩;rw[ACn,AAY hi];subst e;simpa using h
def Inv.walked {h:kn (ki×Obj)}{i:St}{H:Hp}{s c:kj}{o:Obj}(I:Inv X h i H s)(m:Moved [s.heap.objs.size] (λa b=>b=a) {s with heap:=s.heap.push o} c):Inv X h i H c:=by
 obtain⟨h',g',d',t',j⟩:=c;obtain⟨hk,d,hd,f,_⟩:=m;have g:∀b u,s.heap.get? b=some u->h'.get? b=some u:=λb u e=>hk b u (by
  intro z;have k:b=s.heap.objs.size:=by simpa using z
  exact absurd (AAF e) (by rw[k];exact ACC _)) (AAG _ e)
 have d:g'=s.gens:=d;have hd:d'=s.drawn:=hd;have f:j=s.os:=f;subst d hd f;exact I.kept (t':=t') g
def VS {bs:kn kd}{a:kn km}{A:Wf}(r:Ax (bs.map V.bl) a):TruthOf X.prog X.w A (λi v=>a.toArray[i]? =some v) (λi=>bs.getD i true):=by
 intro i v s Q E hv hQ;have c:a[i]? =some v:=by simpa using hv
 cases e:(bs.map V.bl)[i]? with
 | none=>rw[r.none_of e] at c;cases c
 | some x=>
   obtain⟨u,hu,f⟩:=r.get e;rw[c] at hu;cases hu;rw[AAh] at e;cases d:bs[i]? with
   | none=>rw[d] at e;cases e
   | some b=>
     rw[d] at e;cases e;cases f
     replace hQ:Q (bs.getD i true) s:=hQ
     rw[ACn,d] at hQ;unfold truthy;exact AAC hQ
def W0 (K:AAB)(f:kn kd->kd):kn V->Hp->VK->Prop:=λxs H Q=>∃p bs,xs= [.ref p] /\Et K H p (bs.map V.bl)/\Q (.bl (f bs)) H
def ZJ (hc:X.calm=true):B3 X (.builtin "all") (W0 X.K λbs=>bs.all id):=by
 intro l s n H xs o Q I r h;obtain⟨p,bs,rfl,e,q⟩:=h;obtain⟨u,rfl,f⟩:=vals1 r;cases f;obtain⟨a,b,c,t⟩:=I.list e;obtain⟨ol,d,g⟩:=id c.isList;have j:p≠s.heap.objs.size:=AAN (AAF d);have k:a.toArray.size=bs.length:=by have:=b.length;simp at this;simp[this]
 refine call_all_walkS (AC9 c.isList ?_);refine⟨_,_,_,_,_,_,_,λi=>bs.getD i true,rfl,(Walks.list (A:=X.A.in1) (show X.A.in1.handled=none from I.ok.hd hc) s.heap.objs.size p j a.toArray).toS,⟨⟨_,AAO _ rfl,rfl,rfl⟩,⟨ol,AAG _ d,g⟩⟩,VS b,λv m=> ?_⟩;rw[k,aF];exact⟨.bl (bs.all id),H,I.walked m,rfl,q⟩
def ZK (hc:X.calm=true):B3 X (.builtin "any") (W0 X.K λbs=>bs.any id):=by
 intro l s n H xs o Q I r h;obtain⟨p,bs,rfl,e,q⟩:=h;obtain⟨u,rfl,f⟩:=vals1 r;cases f;obtain⟨a,b,c,t⟩:=I.list e;obtain⟨ol,d,g⟩:=id c.isList;have j:p≠s.heap.objs.size:=AAN (AAF d);have k:a.toArray.size=bs.length:=by have:=b.length;simp at this;simp[this]
 refine call_any_walkS (AC9 c.isList ?_);refine⟨_,_,_,_,_,_,_,λi=>bs.getD i true,rfl,(Walks.list (A:=X.A.in1) (show X.A.in1.handled=none from I.ok.hd hc) s.heap.objs.size p j a.toArray).toS,⟨⟨_,AAO _ rfl,rfl,rfl⟩,⟨ol,AAG _ d,g⟩⟩,VS b,λv m=> ?_⟩;rw[k,aG];exact⟨.bl (bs.any id),H,I.walked m,rfl,q⟩
def gi (xs:kn V)(k:Nat)(y:V):kn V:=xs.take k++y::xs.drop k
def Ax.ins {xs:kn V}{a:kn km}{y:V}{u:km}(r:Ax xs a)(b:RelV y u)(k:Nat):Ax (gi xs k y) (a.take k++u::a.drop k):=Ax.append (r.take k) (.cons b (r.drop k))
def Sa:V->kn V->Hp->VK->Prop:=λx vs H Q=>∃l xs i y,x= .ref l/\vs= [.int i,y] /\H l=some (.lst xs)/\0<=i/\i<=(xs.length:Int)/\xs.length<sizeLine/\Q .non (upd H l (.lst (gi xs i.toNat y)))
def Zy:qC X "list.insert" Sa:=by
 intro o s p H x vs v u Q I f rv h;obtain⟨l,xs,i,y,rfl,rfl,c,w,h1,A,q⟩:=h;cases f;cases rv with
 | cons g b=>
 cases b with
 | cons j b=>
 cases b;rename_i d;obtain⟨t,rfl⟩:=g;obtain⟨z,a,n,r,hl,e⟩:=I.lstM c;have B:=Gk;have m:¬(!Builtin.List.listFitsIndex i)=true:=by have:=fitsIndex_both (k:=i) (by omega) (by omega);simp[this]
 refine call_meets F.slot_list_insert ⟨_,e,rfl⟩ F.entry_list_insert (F.args_list_insert_3 _ _ _) (AutoSeq1.list_insert_list_int_val_1 l a.toArray n i t d m (by rw[AAP];omega)) ⟨e, ?_⟩;refine⟨.non,_,I.lset (ys:=gi xs i.toNat y) (its':=a.take i.toNat++d::a.drop i.toNat) c e ?_ (r.ins j _) ?_,rfl,q⟩
 .dsimp only;rw[AAD (by omega),AAP,Nat.min_eq_left (by omega)];apply Array.toList_inj.mp;simp;exact ACp (by simp)
 .unfold gi;simp;omega
end
def Ma:kd->cb->ki->ki->Nat->Prop
 | true,h,q,l,k=>h.IsListIter q l k
 | false,h,q,l,k=>h.IsTupleIter q l k
def IK:kd->cb->ki->Array km->Prop
 | true,h,l,xs=>h.IsList l xs
 | false,h,l,xs=>h.IsTuple l xs
def Ma.mv {b:kd}{h h':cb}{q l:ki}{k:Nat}(x:Ma b h q l k)(e:∀o,h.get? q=some o->h'.get? q=some o):Ma b h' q l k:=by
 cases b with
 | true=>obtain⟨o,a,r⟩:=x;exact⟨o,e o a,r⟩
 | false=>obtain⟨o,a,r⟩:=x;exact⟨o,e o a,r⟩
def Ma.obj {b:kd}{h:cb}{q l:ki}{k:Nat}(x:Ma b h q l k):∃o,h.get? q=some o/\∀v,o.data≠ .cell v:=by
 cases b with
 | true=> obtain⟨o,a,_,d⟩:=x;exact⟨o,a,λv z=>by rw[d] at z;cases z⟩
 | false=> obtain⟨o,a,_,d⟩:=x;exact⟨o,a,λv z=>by rw[d] at z;cases z⟩
def IK.mv {b:kd}{h h':cb}{l:ki}{xs:Array km}(x:IK b h l xs)(e:∀o,h.get? l=some o->h'.get? l=some o):IK b h' l xs:=by
 cases b with
 | true=>obtain⟨o,a,r⟩:=x;exact⟨o,e o a,r⟩
 | false=>obtain⟨o,a,r⟩:=x;exact⟨o,e o a,r⟩
section
variable {prog:gn}{w:fe}{A:Wf}{E:km->kj->Prop}{s:kj}
def Gf {b:kd}{q l:ki}{k:Nat}{xs:Array km}{x:km}{Q:km->kj->Prop}(e:Ma b s.heap q l k)(hl:IK b s.heap l xs)(hx:xs[k]? =some x)(hQ:∀h',Ma b h' q l (k+1)->Heap.SameBut q s.heap h'->Q x {s with heap:=h'}):wpAny (model prog w) A (Builtin.SmallTypes.nextOf (.ref q)) Q E s:=by
 cases b with
 | true=>exact wpAny_nextOf_list_item e hl hx hQ
 | false=> have d:s.heap.IsTupleIter q l k:=e;obtain⟨g,c,f,a⟩:=id d;obtain⟨ol,gl,_,nl,dl⟩:=hl;unfold Builtin.SmallTypes.nextOf;refine AAA (ABu (name:=Str.ofString "__next__") d.typeIs ADg (AA0 ADg d.typeIs AE6 ?_ (AE7 _)));show wpAny _ _ (field (.ref q) 0 >>= _) _ _ _;refine AAA (AAR c a (x:= .ref l) rfl ?_);show wpAny _ _ (if (Value.ref l==Value.none)=true then _ else _) _ _ _;rw[AAD (by intro z;cases z)];show wpAny _ _ (field (.ref q) 1 >>= _) _ _ _;refine AAA (AAR c a (x:= .int k 0) rfl ?_);show wpAny _ _ (seqItems? (.ref l) >>= _) _ _ _;refine AAA (AA2 gl dl ?_);simp only[ACq,hx];refine AAA (wpAny_setField c a (by simp) (AAC ⟨x,rfl,AAC (hQ _ ?_ (AEU ..))⟩));refine⟨_,AC6 _ c (Obj.isFreed_of_fields (AEV a _)),(Obj.cls_mapFields ..).trans f, ?_⟩;rw[AEV a];simp[rawInt]
def FR {b:kd}{q l:ki}{k:Nat}{xs:Array km}{Q:km->kj->Prop}(c:A.handled=none)(h:Ma b s.heap q l k)(hl:IK b s.heap l xs)(hx:xs[k]? =none)(i:∀h' e,Heap.ExtBut q s.heap h'->(∃o,h'.get? e=some o/\o.cls= .type "StopIteration")->E (.ref e) {s with heap:=h'}):wpAny (model prog w) A (Builtin.SmallTypes.nextOf (.ref q)) Q E s:=by
 cases b with
 | true=>exact wpAny_nextOf_list_end c h hl hx i
 | false=>
   have d:s.heap.IsTupleIter q l k:=h;obtain⟨j,f,n,g⟩:=id d;obtain⟨ol,gl,_,nl,dl⟩:=hl;unfold Builtin.SmallTypes.nextOf;refine AAA (ABu (name:=Str.ofString "__next__") d.typeIs ADg (AA0 ADg d.typeIs AE6 ?_ (AE7 _)));show wpAny _ _ (field (.ref q) 0 >>= _) _ _ _;refine AAA (AAR f g (x:= .ref l) rfl ?_);show wpAny _ _ (if (Value.ref l==Value.none)=true then _ else _) _ _ _;rw[AAD (by intro z;cases z)];show wpAny _ _ (field (.ref q) 1 >>= _) _ _ _;refine AAA (AAR f g (x:= .int k 0) rfl ?_);show wpAny _ _ (seqItems? (.ref l) >>= _) _ _ _;refine AAA (AA2 gl dl ?_);simp only[ACq,hx];refine AAA (ABx (AAA (wpAny_setField f g (by simp) ?_)));refine AAA (m:=newExc (.type "StopIteration") []) ?_;simp only[newExc,newTuple];refine AAA (AA4 ?_ (by size_fits));refine AAA (m:=firstArgMember _ _) (ABJ (a:=Value.none) (by first | rfl|(simp only[firstArgMember];rfl)) (AA4 ?_ (by size_fits)));simp only[raiseNew];refine AAA (wpAny_handled ?_);first | rw[show A.in1.handled=none from c] | rw[c]
   exact AAA (AAC (wpAny_throw (i _ _ (((AEU ..).extBut.push _).push _) ⟨_,AAO _ rfl,rfl⟩)))
structure kh (b c:Bool) (z TI TO i j l m:Addr) (k:Nat) (f:Value) (h:Heap):Prop where
 zip:IsZip h z TI TO f
 its:IsPair h TI (.ref i) (.ref j)
 own:∃x y,IsPair h TO x y
 one:Ma b h i l k
 two:Ma c h j m k
def kh.mv {b c:kd}{z TI TO i j l m:ki}{k:Nat}{f:km}{h h':cb}(Z:kh b c z TI TO i j l m k f h)(e:∀p∈ [z,TI,TO,i,j],∀o,h.get? p=some o->h'.get? p=some o):kh b c z TI TO i j l m k f h':=by obtain⟨a,d,⟨x,y,g⟩,n,r⟩:=Z;exact⟨e z (by simp) _ a,e TI (by simp) _ d,⟨x,y,e TO (by simp) _ g⟩,n.mv (e i (by simp)),r.mv (e j (by simp))⟩
variable {b c:kd}{z TI TO i j l m:ki}{k:Nat}{xs ys:Array km}
def tM {x y:km}{Q:km->kj->Prop}(D:ZipApart z TI TO i j l m)(Z:kh b c z TI TO i j l m k .none s.heap)(hl:IK b s.heap l xs)(hm:IK c s.heap m ys)(hx:xs[k]? =some x)(hy:ys[k]? =some y)(hQ:∀h',IsZip h' z TI TO (rawInt s.heap.objs.size)->IsPair h' TI (.ref i) (.ref j)->IsPair h' TO x y->Ma b h' i l (k+1)->Ma c h' j m (k+1)->IsPair h' s.heap.objs.size x y-> (∀p o,p≠z->p≠TO->p≠i->p≠j->s.heap.get? p=some o->h'.get? p=some o)->Q (.ref s.heap.objs.size) {s with heap:=h'}):wpAny (model prog w) A (Builtin.«zip.__next__» ⟨[.ref z], []⟩) (λL s'=>∃v,L= .done (.ret v)/\Q v s') E s:=by
 obtain⟨n,T,⟨x0,M,zo⟩,z1,z2⟩:=Z;show wpAny _ _ (field (.ref z) 2 >>= _) _ _ _;refine AAA (AAR n rfl (x:= .bool false) rfl ?_);show wpAny _ _ (field (.ref z) 3 >>= _) _ _ _;refine AAA (AAR n rfl (x:= .ref TI) rfl (AAA (AA2 T rfl ?_)));refine AAA (m:=Builtin.SmallTypes.ownedTupleIsFree (.ref z)) ?_;unfold Builtin.SmallTypes.ownedTupleIsFree;refine AAA (AAR n rfl (x:= .none) rfl (AAC ?_));simp only[AAt];refine AAA (ABx (AAA (AAR n rfl (x:= .ref TO) rfl (AAA (ABK n (by simp) λg1 N g=> ?_)))));have N:IsZip g1 z TI TO .ellipsis:=N;refine AAA ?_;simp only[ADh,ADi,ACH,ACr];refine AAA (AAA (ACY ?_));refine AAA (m:=Builtin.SmallTypes.nextOf (.ref i)) (Gf (z1.mv λo=>g.extBut _ o D.i1z) (hl.mv λo=>g.extBut _ o D.l1z) hx λg2 e2 b2=>AAC ?_);have U:IsPair g2 TO x0 M:=b2.extBut _ _ D.TOi1 (g.extBut _ _ D.TOz zo);refine AAA (AA2 U rfl (AAA (ADA U λg3 O h=>AAA (ADB (AAC ?_)))));have O:IsPair g3 TO x M:=O;refine AAA (AAA (ACY ?_));refine AAA (m:=Builtin.SmallTypes.nextOf (.ref j)) (Gf (((z2.mv λo=>g.extBut _ o D.i2z).mv λo=>b2.extBut _ o D.i12.symm).mv λo=>h.extBut _ o D.TOi2.symm)
  (((hm.mv λo=>g.extBut _ o D.l2z).mv λo=>b2.extBut _ o D.l2i1).mv λo=>h.extBut _ o D.l2TO) hy λg4 e4 r=>AAC ?_)
 have W:IsPair g4 TO x M:=r.extBut _ _ D.TOi2 O;refine AAA (AA2 W rfl (AAA (ADA W λa G t=>AAA (ADB (AAC (AAC ?_))))));have G:IsPair a TO x y:=G;refine AAA (AA2 G rfl (AAA (wpAny_newTuple ?_)));have sz:a.objs.size=s.heap.objs.size:=by rw[t.1,r.1,h.1,b2.1,g.1]
 have X:IsZip a z TI TO .ellipsis:=t.extBut _ _ D.TOz.symm (r.extBut _ _ D.i2z.symm (h.extBut _ _ D.TOz.symm (b2.extBut _ _ D.i1z.symm N)));have d:∀p o,p≠z->p≠TO->p≠i->p≠j->s.heap.get? p=some o->a.get? p=some o:=λp o H I P R e=>
  t.extBut _ _ I (r.extBut _ _ R (h.extBut _ _ I (b2.extBut _ _ P (g.extBut _ _ H e))))
 have u:Ma b a i l (k+1):=((e2.mv λo=>h.extBut _ o D.TOi1.symm).mv λo=>r.extBut _ o D.i12).mv λo=>t.extBut _ o D.TOi1.symm;have B:Ma c a j m (k+1):=e4.mv λo=>t.extBut _ o D.TOi2.symm;have C:z<a.objs.size:=AAF X;refine AAA (m:=Builtin.SmallTypes.ownedTupleHandOut (.ref z) (.ref a.objs.size)) ?_;unfold Builtin.SmallTypes.ownedTupleHandOut;have k6:IsZip (a.push {cls:= .type "tuple",data:= .seq #[x,y] }) z TI TO .ellipsis:=AAG _ X;refine AAA (ABK k6 (by simp) λg7 S Y=> ?_);have S:IsZip g7 z TI TO (rawInt a.objs.size):=S;refine ABK S (by simp) λJ K b8=> ?_;have K:IsZip J z TI TO (rawInt a.objs.size):=K;have F:∀p o,p≠z->a.get? p=some o->J.get? p=some o:=λp o q e=>b8.extBut _ _ q (Y.extBut _ _ q (AAG _ e));have f:IsPair J a.objs.size x y:=b8.extBut _ _ (AAv C) (Y.extBut _ _ (AAv C) (AAO _ rfl));rw[sz] at K f;refine AAC ⟨_,rfl, ?_⟩;show Q (.ref a.objs.size) _;rw[sz];exact hQ J K (F _ _ D.TIz (d _ _ D.TIz D.TITO D.TIi1 D.TIi2 T)) (F _ _ D.TOz G) (u.mv λo=>F _ o D.i1z) (B.mv λo=>F _ o D.i2z) f λp o H I P R e=>F p o H (d p o H I P R e)
def xO {Q:Fin->kj->Prop}(B:A.handled=none)(D:ZipApart z TI TO i j l m)(Z:kh b c z TI TO i j l m k .none s.heap)(hl:IK b s.heap l xs)(M:IK c s.heap m ys)(N:xs[k]? =none\/ys[k]? =none)(C:∀h' e,(∀p o,p≠z->p≠TO->p≠i->p≠j->s.heap.get? p=some o->h'.get? p=some o)->(∃o,h'.get? e=some o/\o.cls= .type "StopIteration")->E (.ref e) {s with heap:=h'}):wpAny (model prog w) A (Builtin.«zip.__next__» ⟨[.ref z], []⟩) Q E s:=by
 obtain⟨g,O,⟨P,R,S⟩,F,T⟩:=Z;show wpAny _ _ (field (.ref z) 2 >>= _) _ _ _;refine AAA (AAR g rfl (x:= .bool false) rfl ?_);show wpAny _ _ (field (.ref z) 3 >>= _) _ _ _;refine AAA (AAR g rfl (x:= .ref TI) rfl (AAA (AA2 O rfl ?_)));refine AAA (m:=Builtin.SmallTypes.ownedTupleIsFree (.ref z)) ?_;unfold Builtin.SmallTypes.ownedTupleIsFree;refine AAA (AAR g rfl (x:= .none) rfl (AAC ?_));simp only[AAt];refine AAA (ABx (AAA (AAR g rfl (x:= .ref TO) rfl (AAA (ABK g (by simp) λU r a=> ?_)))));have r:IsZip U z TI TO .ellipsis:=r;refine AAA ?_;simp only[ADh,ADi,ACH,ACr];refine AAA (AAA (ACY ?_));cases hx:xs[k]? with
 | none=>
   refine AAA (m:=Builtin.SmallTypes.nextOf (.ref i)) (FR B (F.mv λo=>a.extBut _ o D.i1z) (hl.mv λo=>a.extBut _ o D.l1z) hx λt e b2 he=> ?_);obtain⟨u,d,h⟩:=he;have G:IsZip t z TI TO .ellipsis:=b2 _ _ D.i1z.symm r;have v:e≠z:=λq=>by subst q;rw[G] at d;cases d;simp at h
   refine ABK G (by simp) λH _ f=>C H e (λp o n _ y _ q=>f.extBut _ _ n (b2 _ _ y (a.extBut _ _ n q))) ⟨u,f.extBut _ _ v d,h⟩
 | some x=>
   have hy:ys[k]? =none:=by
    rcases N with q|q
    .rw [hx] at q;cases q
    .exact q
   refine AAA (m:=Builtin.SmallTypes.nextOf (.ref i)) (Gf (F.mv λo=>a.extBut _ o D.i1z) (hl.mv λo=>a.extBut _ o D.l1z) hx λt e2 b2=>AAC ?_);have I:IsPair t TO P R:=b2.extBut _ _ D.TOi1 (a.extBut _ _ D.TOz S);refine AAA (AA2 I rfl (AAA (ADA I λH o3 f=>AAA (ADB (AAC ?_)))));refine AAA (AAA (ACY ?_));refine AAA (m:=Builtin.SmallTypes.nextOf (.ref j)) (FR B (((T.mv λo=>a.extBut _ o D.i2z).mv λo=>b2.extBut _ o D.i12.symm).mv λo=>f.extBut _ o D.TOi2.symm)
    (((M.mv λo=>a.extBut _ o D.l2z).mv λo=>b2.extBut _ o D.l2i1).mv λo=>f.extBut _ o D.l2TO) hy λW e J he=> ?_)
   obtain⟨u,d,h⟩:=he;have K:IsZip W z TI TO .ellipsis:=J _ _ D.i2z.symm (f.extBut _ _ D.TOz.symm (b2.extBut _ _ D.i1z.symm r));have v:e≠z:=λq=>by subst q;rw[K] at d;cases d;simp at h
   refine ABK K (by simp) λX _ L=>C X e (λp o n Y y q4 q=>L.extBut _ _ n (J _ _ q4 (f.extBut _ _ Y (b2.extBut _ _ y (a.extBut _ _ n q))))) ⟨u,L.extBut _ _ v d,h⟩
end
def TJ (b:kd)(l:ki):Obj:={cls:= .type (match b with | true=>"list_iterator" | false=>"tuple_iterator"),data:= .fields #[.ref l, .int 0 0] }
abbrev zA (b:kd)(h:cb)(l:ki):cb:=h.push (TJ b l)
abbrev zB (b c:kd)(h:cb)(l m:ki):cb:=(zA b h l).push (TJ c m)
abbrev zC (b c:kd)(h:cb)(l m:ki):cb:=(zB b c h l m).push {cls:= .type "tuple",data:= .seq #[.ref h.objs.size, .ref (zA b h l).objs.size] }
abbrev zD (b c:kd)(h:cb)(l m:ki):cb:=(zC b c h l m).push {cls:= .type "tuple",data:= .seq #[.none, .none] }
abbrev zF (b c:kd)(h:cb)(l m:ki):cb:=(zD b c h l m).push {cls:= .type "zip",data:= .fields #[.none, .bool false, .bool false, .ref (zB b c h l m).objs.size, .ref (zC b c h l m).objs.size] }
def IZ {prog:gn}{w:fe}{A:Wf}{E:km->kj->Prop}{h:cb}{g:Array GenState}{d:Drawn}{a:Nat}{os:OsState}{b:kd}{l:ki}{xs:Array km}{Q:km->kj->Prop}(hl:IK b h l xs)(q:Q (.ref h.objs.size) ⟨h.push (TJ b l),g,d,a,os⟩):wpAny (model prog w) A (pyIter (.ref l)) Q E ⟨h,g,d,a,os⟩:=by
 cases b with
 | true=>exact AC9 (s:=⟨h,g,d,a,os⟩) hl q
 | false=>exact wpAny_pyIter_tuple (s:=⟨h,g,d,a,os⟩) hl q
def ae (b c:kd)(l m:ki)(xs ys:Array km):Meets (Builtin.«zip.__new__» ⟨[.type "zip", .ref l, .ref m], []⟩) (λ_ R s=>IK b s.heap l xs/\IK c s.heap m ys/\R (.ok (.ret (.ref (zD b c s.heap l m).objs.size))) {s with heap:=zF b c s.heap l m}):=
 .of_wp λprog w A R s h=>by
   obtain⟨hp,g,d,j,os⟩:=s;obtain⟨hl,a,h⟩:=h;have k:=sub_zip;have f:IK b hp l xs:=hl;have i:IK c (hp.push (TJ b l)) m ys:=a.mv λo e=>AAG _ e
   wp_walk using IZ f,IZ i
   exact⟨_,rfl,h⟩
section
variable {prog:gn}{w:fe}{A:Wf}{E:km->kj->Prop}{s:kj}{b c:kd}{l m:ki}{xs ys:Array km}
def YC {h:cb}{q:ki}(e:h.get? q=some (TJ b l)):Ma b h q l 0:=by
 cases b with
 | true=>exact⟨_,e,rfl,rfl⟩
 | false=>exact⟨_,e,rfl,rfl⟩
def pI (hl:IK b s.heap l xs)(r:IK c s.heap m ys){Q:km->kj->Prop}(h:∀h',kh b c (s.heap.objs.size+4) (s.heap.objs.size+2) (s.heap.objs.size+3) s.heap.objs.size (s.heap.objs.size+1) l m 0 .none h'->(∀p o,s.heap.get? p=some o->h'.get? p=some o)->Q (.ref (s.heap.objs.size+4)) {s with heap:=h'}):wpAny (model prog w) A (call (.type "zip") [.ref l, .ref m]) Q E s:=by
 refine ADj F.called_zip (by decide) (F.typeCall_zip_2 _ _) (F.newCall_zip_2 _ _) (λobj=>F.args_object_init_3 obj _ _) F.entry_zip_new (ae b c l m xs ys) ⟨hl,r, ?_⟩;have a:(zA b s.heap l).objs.size=s.heap.objs.size+1:=AA5 ..;have d:(zB b c s.heap l m).objs.size=s.heap.objs.size+2:=by rw[AA5,a]
 have f:(zC b c s.heap l m).objs.size=s.heap.objs.size+3:=by rw[AA5,d]
 have i:(zD b c s.heap l m).objs.size=s.heap.objs.size+4:=by rw[AA5,f]
 have g:(zF b c s.heap l m).get? (zD b c s.heap l m).objs.size=some _:=AAO _ rfl;have j:(zF b c s.heap l m).get? (zC b c s.heap l m).objs.size=some _:=AAG _ (AAO _ rfl);have k:(zF b c s.heap l m).get? (zB b c s.heap l m).objs.size=some _:=AAG _ (AAG _ (AAO _ rfl));have n:(zF b c s.heap l m).get? (zA b s.heap l).objs.size=some (TJ c m):=AAG _ (AAG _ (AAG _ (AAO _ rfl)));have t:(zF b c s.heap l m).get? s.heap.objs.size=some (TJ b l):=AAG _ (AAG _ (AAG _ (AAG _ (AAO _ rfl))));rw[d,f,i] at g;rw[a,d] at k;rw[f] at j;rw[a] at n;show _/\_;rw[i];exact⟨⟨_,g,rfl⟩,h _ ⟨g,k,⟨_,_,j⟩,YC t,YC n⟩ λp o e=>AAG _ (AAG _ (AAG _ (AAG _ (AAG _ e))))⟩
end
def Sq (K:AAB):kd->Hp->ki->kn V->Prop
 | true,H,a,xs=>Et K H a xs
 | false,H,a,xs=>Kx K H a xs
section
variable {X:Cx}{Tb:kn (ki×Obj)}{σ:St}{H:Hp}{s:kj}{a:ki}{ys xs:kn V}{b:kd}{h':cb}
def Inv.sq (I:Inv X Tb σ H s)(h:Sq X.K b H a xs):∃c:kn km,Ax xs c/\IK b s.heap a c.toArray/\xs.length<=sizeLine:=by
 cases b with
 | true=> obtain⟨c,r,p,z⟩:=I.list h;exact⟨c,r,p.isList,z⟩
 | false=> obtain⟨c,r,p,z⟩:=I.tuple h;exact⟨c,r,p,z⟩
def Inv.sq_inj (I:Inv X Tb σ H s)(h:Sq X.K b H a xs)(h2:Sq X.K b H a ys):xs=ys:=by
 cases b with
 | true=>exact I.list_inj h h2
 | false=>exact I.tuple_inj h h2
def Inv.turnedL {ch:kn ki}{t':Nat}(I:Inv X Tb σ H s)(c:∀p∈ch,Fh X Tb H p)(k:∀p o,p ∉ ch->s.heap.get? p=some o->h'.get? p=some o):Inv X Tb σ H {s with heap:=h',toks:=t'}:=by
 have d:∀p u,H p=some u->p ∉ ch:=λp u e z=>by rw[(c p z).1] at e;cases e
 refine I.step (g':=s.gens) (d':=s.drawn) (ch:=ch) (λp hp=>⟨(c p hp).2.2.2.1,(c p hp).2.1,(c p hp).2.2.2.2.1,(c p hp).2.2.2.2.2⟩) (λp o _ _ hc e _=>k p o hc e) (λp o _ _ hc e _=>⟨o.slots,k p o hc e⟩)
  (λ_ _ _ _ n=>n) (λp o hc e=>⟨o,k p o hc e⟩) (λ_ _ e=>e) (λ_ _ _ e=>e) (λp ps e=>⟨#[],by rw[e];simp⟩) (λm f=> ?_) (λp u e=> ?_) I.bare
 .obtain ⟨o,es,ep,g,r⟩:=f;exact⟨o,es,ep,k _ o (λz=>(c _ z).2.1 rfl) g,r⟩
 .refine (I.hok p u e).stay (λq v h i=>k q v ?_ i) (λ_ q=>q) λ_ _ q=>q;rcases h with z|z
  .rw [z];exact d p u e
  .exact d q _ z
def Inv.turnedN {ch:kn ki}{t':Nat}{n:ki}{o:HO}(I:Inv X Tb σ H s)(c:∀p∈ch,Fh X Tb H p)(l:∀p∈ch,p<s.heap.objs.size)(k:∀p o,p ∉ ch->s.heap.get? p=some o->h'.get? p=some o)(g:s.heap.objs.size<=n)(new:CL X.prog X.w (upd H n o) h' n o):Inv X Tb σ (upd H n o) {s with heap:=h',toks:=t'}:=by
 have h:Inv X Tb σ H {s with heap:=h',toks:=t'}:=I.turnedL c k;have d:H n=none:=I.hok.fresh g;have hx:∀p u,s.heap.get? p=some u->p≠n:=λp u e=>AAN (AAX (AAF e) g);refine I.step (g':=s.gens) (d':=s.drawn) (ch:=ch) (λp hp=>⟨(c p hp).2.2.2.1,(c p hp).2.1,(c p hp).2.2.2.2.1,(c p hp).2.2.2.2.2⟩) (λp o _ _ hc e _=>k p o hc e) (λp o _ _ hc e _=>⟨o.slots,k p o hc e⟩)
  (λp u _ e z=>by rw[Ai (hx p u e)];exact z) (λp o hc e=>⟨o,k p o hc e⟩) (λp xs e=>by rw[Ai (Az e d)];exact e) (λp o xs e=>by rw[Ai (Az e d)];exact e)
  (λp ps e=>⟨#[],by rw[Ai (Az e d),e];simp⟩) (λm i=> ?_) (λp u e=> ?_) I.bare
 .obtain ⟨o,es,ep,j,r⟩:=i;exact⟨o,es,ep,k _ o (λz=>(c _ z).2.1 rfl) j,r⟩
 .by_cases hp:p=n
  .subst hp;rw[Aj] at e;cases e;exact new
  .rw [Ai hp] at e;exact(h.hok p u e).stay (λ_ _ _ q=>q) (λq f=>by rw[Ai (Az f d)];exact f) λq xs f=>by rw[Ai (Az f d)];exact f
end
def ue (K:AAB)(b c:kd)(l m:ki):It:=
 ⟨λi H=>∃xs ys x y,Sq K b H l xs/\Sq K c H m ys/\xs[i]? =some x/\ys[i]? =some y,
  λi H v a=>∃T x y,v= .ref T/\H T=none/\a=upd H T (.tup [x,y])/\(∀xs,Sq K b H l xs->xs[i]? =some x)/\∀ys,Sq K c H m ys->ys[i]? =some y,
  λi H=>∃xs ys,Sq K b H l xs/\Sq K c H m ys/\(xs.length<=i\/ys.length<=i)⟩
def fF {P:gn}{w:fe}{K:AAB}{es:kn ke}{M:Nat}{pos:Pos}{b c:kd}{z TI TO i j l m:ki}(D:ZipApart z TI TO i j l m):Je P w K (.Tuple es M pos) (ue K b c l m) [z,TI,TO,i,j] z (λk h=>kh b c z TI TO i j l m k .none h) where
 mem:=by simp
 obj:=λk h Z p hp=>by
  have a:p=z\/p=TI\/p=TO\/p=i\/p=j:=by simpa using hp
  rcases a with e|e|e|e|e
  .subst e;exact⟨_,Z.zip,λv q=>nomatch q⟩
  .subst e;exact⟨_,Z.its,λv q=>nomatch q⟩
  .subst e;obtain⟨x,y,q⟩:=Z.own;exact⟨_,q,λv q=>nomatch q⟩
  .subst e;exact Z.one.obj
  .subst e;exact Z.two.obj
 keep:=λk h h' Z e=>Z.mv e
 item:=by
  intro X r hw t hc k G s J H E I g Z A;subst r hw t;obtain⟨xs,ys,x,y,hl,n,hx,hy⟩:=A;obtain⟨L,B,C,_⟩:=I.sq hl;obtain⟨vs,rv,sv,_⟩:=I.sq n;obtain⟨u,hu,N⟩:=B.get hx;obtain⟨v,hv,O⟩:=rv.get hy;have f:s.TypeIs (.ref z) "zip" :=⟨_,Z.zip,rfl⟩;unfold pyNext;refine AAA (ADC (ABu (name:=Str.ofString "__next__") f ACJ (AA0 ACJ f ADk
   (tM D Z C sv (x:=u) (y:=v) (by simpa using hu) (by simpa using hv) λh1 Q R S U W Y a7=>AAC ?_) (ADl _))))
  refine⟨_,rfl,wpAny_letOwnedTupleGo_zip (s:={s with heap:=h1}) Q λh2 c1 c2=> ?_⟩;have F:∀p∈ [z,TI,TO,i,j],p<s.heap.objs.size:=λp hp=>by
   have a:p=z\/p=TI\/p=TO\/p=i\/p=j:=by simpa using hp
   rcases a with e|e|e|e|e
   .subst e;exact AAF Z.zip
   .subst e;exact AAF Z.its
   .subst e;obtain⟨x,y,q⟩:=Z.own;exact AAF q
   .subst e;obtain⟨o,q,_⟩:=Z.one.obj;exact AAF q
   .subst e;obtain⟨o,q,_⟩:=Z.two.obj;exact AAF q
  have d:∀p o,p≠z->h1.get? p=some o->h2.get? p=some o:=λp o q e=>c2.extBut _ _ q e;have kp:∀p o,p ∉ [z,TI,TO,i,j] ->s.heap.get? p=some o->h2.get? p=some o:=λp o hp e=>by
   have a:p≠z/\p≠TI/\p≠TO/\p≠i/\p≠j:=by simpa using hp
   exact d p o a.1 (a7 p o a.1 a.2.2.1 a.2.2.2.1 a.2.2.2.2 e)
  have vP:s.heap.objs.size≠z:=AAv (F z (by simp));have I2:Inv X G J (upd H s.heap.objs.size (.tup [x,y])) {s with heap:=h2,toks:=s.toks}:=I.turnedN g F kp (AAJ _)
   ⟨(by show 2<=sizeLine;decide), [u,v], .cons N (.cons O .nil),⟨_,d _ _ vP Y,rfl,_,rfl⟩⟩
  have UV:H s.heap.objs.size=none:=I.fresh;refine⟨.ref s.heap.objs.size,upd H s.heap.objs.size (.tup [x,y]),I2,rfl,⟨_,x,y,rfl,UV,rfl,λxs' h'=> ?_,λys' h'=> ?_⟩, ?_,λp hp=> ?_⟩
  .rw [I.sq_inj h' hl];exact hx
  .rw [I.sq_inj h' n];exact hy
  .exact ⟨c1,d _ _ D.TIz R,⟨_,_,d _ _ D.TOz S⟩,U.mv λo=>d _ o D.i1z,W.mv λo=>d _ o D.i2z⟩
  .rw [Ai (AAN (F p hp))];exact(g p hp).1
 done:=by
  intro X r hw t hc k G s J H E I g Z A;subst r hw t;obtain⟨xs,ys,hl,n,he⟩:=A;obtain⟨L,B,C,_⟩:=I.sq hl;obtain⟨vs,rv,sv,_⟩:=I.sq n;have e1:=B.length;have e2:=rv.length;have lZ:L.toArray[k]? =none\/vs.toArray[k]? =none:=by
   rcases he with q|q
   .exact .inl (by simp;omega)
   .exact .inr (by simp;omega)
  have f:s.TypeIs (.ref z) "zip" :=⟨_,Z.zip,rfl⟩;unfold pyNext;refine AAA (ADC (ABu (name:=Str.ofString "__next__") f ACJ (AA0 ACJ f ADk
   (xO (I.ok.hd hc) D Z C sv lZ λh1 e hk he=> ?_) (ADl _))))
  obtain⟨o,ho,qc⟩:=he;refine AAA (ACQ (T:="StopIteration") (b:=true) ⟨o,ho,qc⟩ isSubtype_stop (AAC ⟨rfl, ?_⟩));exact I.turnedL (t':=s.toks) g λp o hp e=>by
   have a:p≠z/\p≠TI/\p≠TO/\p≠i/\p≠j:=by simpa using hp
   exact hk p o a.1 a.2.2.1 a.2.2.2.1 a.2.2.2.2 e
 self:=λ_ _ _ _ _ Z h=>ADm Z.zip h
structure Has (P:Program) (w:World) (K:AAB) (mg:Str->Option Value) (base:Heap) (k:Nat) (x:Str) (ps:List Str) (sp:Sp):Prop where
 ex:∃f fd,mg x=some (.ref f)/\PySem.W.keepIn K (.ref f)=true/\Binds K fd ps [] /\De P w K mg base MD k f fd ps sp
def Has.mono {P:gn}{w:fe}{K:AAB}{mg:Str->kf km}{base:cb}{j k:Nat}{x:Str}{ps:kn Str}{sp:Sp}(h:Has P w K mg base j x ps sp)(hk:j<=k):Has P w K mg base k x ps sp:=by obtain⟨f,e,a,b,c,d⟩:=h.ex;exact⟨f,e,a,b,c,d.mono hk⟩
section
variable {X:Cx}{x:Str}{p pos:Pos}{e:ke}{es:kn ke}{t:TA}{k:Nat}{ps:kn Str}{sp:Sp}
def nL (D:Has X.prog X.w X.K X.mg X.base k x ps sp)(a:Room k X.A)(b:Gl X x)(ha:PA X (e::es) t)(hs:starEach (e::es) X.env=(false,eval e X.env)::starEach es X.env:=by rfl)(hpl:(backTo pos (starEach es X.env)).any (·.1)=false:=by rfl)(hd:(x==("__debug__" :Str))=false:=by decide):PE X (.Call (.Name x p) (e::es) [] pos) (eT sp [] E0 t):=by obtain⟨f,h,c,d,g,G⟩:=D.ex;exact YQ G a b c d g .nil j3 ha (hdb:=hd) (he:=hs) (hpl:=hpl)
end
section
variable {X:Cx}{tg elt:ke}{ifs:kn ke}{scope:Scope}{own:Nat}{ix:kn Nat}{N:kn Str}{g:TG}{tt:TT}{te:TE}
def WD (X:Cx)(sc:Scope)(own:Nat)(ix:kn Nat)(N:kn Str):kd:=
 (List.range ix.length).all λj=>match ix[j]? with
   | none=>false
   | some i=>match N[own+j]?,X.N[i]? with
     | some x,some y=>decide (x=y)&&decide (X.env.scope.names.lookup x=some .cell)&&decide (sc.names.lookup x=some .cell)
     | _,_=>false
def cC {sc:Scope}(h1:N.length=own+ix.length)(h2:WD X sc own ix N=true):bC X sc own ix N:=by
 refine⟨h1,λj i hj=> ?_⟩;have c:j<ix.length:=(AA3.mp hj).1;have h:=ACm.mp h2 j (AAu.mpr c);rw[hj] at h;dsimp only at h;cases a:N[own+j]? with
 | none=>rw[a] at h;simp at h
 | some x=>
   cases b:X.N[i]? with
   | none=>rw[a,b] at h;simp at h
   | some y=> rw[a,b] at h;simp only[ABD,decide_eq_true_eq] at h;obtain⟨⟨h3,d⟩,e⟩:=h;subst h3;exact⟨x,rfl,rfl,d,e⟩
def Xl (h1:scope.kind= .function)(h2:(scope.names.all λy=> !decide (y.2= .cell))=true)(h3:(scope.names.all λy=> !decide (y.2= .local)||decide (scope.names.lookup y.1=some .local))=true)(c:(scope.names.all λy=> !decide (y.2= .free)||decide (X.env.scope.names.lookup y.1=some .cell))=true)(d:N.length=own+ix.length)(f:WD X (relabel scope X.env) own ix N=true)(hk:NO own g)(a:∀cl C s H ex pn,PG (blk X (relabel scope X.env) N cl C s H ex pn) tg g)(b:∀cl C s H ex pn,jg (blk X (relabel scope X.env) N cl C s H ex pn) ifs tt)(val:∀cl C s H ex pn,PE (blk X (relabel scope X.env) N cl C s H ex pn) elt te):Ff X tg elt ifs scope own ix N g tt te:=by
 refine⟨h1,λy hy e=> ?_,λy hy e=> ?_,λy hy e=> ?_,cC d f,hk,a,b,val⟩
 .have:=ACm.mp h2 y hy;simp[e] at this
 .have:=ACm.mp h3 y hy;simpa[e] using this
 .have:=ACm.mp c y hy;simpa[e] using this
end
def Tl.new {H:Hp}{p:ki}{o:HO}(h:H p=none):Tl H (upd H p o):=λb u q=>by rw[Ai (Az q h)];exact q
def uS (p:ki)(H a:Hp):Prop:=∀b o,b≠p->H b=some o->a b=some o
def Tl.but {p:ki}{H H1:Hp}(a:Tl H H1):uS p H H1:=λc o _ h=>a c o h
def uS.upd {p:ki}{H:Hp}{o:HO}:uS p H (upd H p o):=λb u n q=>by rw[Ai n];exact q
end L2
namespace PL
open PySem PySem.Spec PyProof.Rows L2
inductive PV where
 | non|bl (b:Bool)|int (i:Int)|str (x:Str)|ty (n:String)
 | tup (xs:List PV)|lst (xs:List PV)|tape|scr (ns:List Int)|dct (kvs:List (FK×Int))|dk (kvs:List (Int×Int))
def E8 (H:Hp)(p:ki):Prop:=∃d x:Int,H p=some (.lst [.int d, .int x])/\0<=d/\0<=x/\x<2147483647
def MH (o:HO):Prop:=(∀vs,o≠ .tup vs)/\∀q u,o≠ .frz q u
def MH.lst {xs:kn V}:MH (.lst xs):=⟨(λ_ e=>nomatch e),(λ_ _ e=>nomatch e)⟩
def E8.mut {H:Hp}{p:ki}(h:E8 H p):∃o,H p=some o/\MH o:=by obtain⟨d,x,e,_⟩:=h;exact⟨_,e,MH.lst⟩
def tV (K:AAB)(H:Hp)(a:ki)(xs:kn V):Prop:=H a=some (.tup xs)\/∃(o:Obj) (b:Array km) (n:Nat),K.lookup a=some o/\o.cls= .type "tuple" /\o.data= .seq b n/\b.size<=sizeLine/\Ax xs b.toList
def tV.sq {K:AAB}{H:Hp}{a:ki}{xs:kn V}(h:tV K H a xs):Kx K H a xs:=h.elim (λz=> .inl (.inl z)) .inr
def qv (kvs:kn (FK×Int)):kn (FK×V):=kvs.map λp=>(p.1,V.int p.2)
def FV (kvs:kn (Int×Int)):kn (B8×V):=kvs.map λp=>(.inl p.1,V.int p.2)
mutual
inductive Ck (K:AAB) (T M:Addr->Prop) (H:Hp):V->PV->Prop where
 | non:Ck K T M H .non .non
 | bl (b:Bool):Ck K T M H (.bl b) (.bl b)
 | int (i:Int):Ck K T M H (.int i) (.int i)
 | str (x:Str):Ck K T M H (.str x) (.str x)
 | ty (n:String):Ck K T M H (.ty n) (.ty n)
 | tup {a:Addr} {vs:List V} {xs:List PV} (h:tV K H a vs) (r:A3 K T M H vs xs):Ck K T M H (.ref a) (.tup xs)
 | lst {a:Addr} {vs:List V} {xs:List PV} (h:H a=some (.lst vs)) (t:¬T a) (m:¬M a) (r:A3 K T M H vs xs):Ck K T M H (.ref a) (.lst xs)
 | tape {a:Addr} (t:T a):Ck K T M H (.ref a) .tape
 | dct {a:Addr} {kvs:List (FK×Int)} (h:H a=some (.dN K (qv kvs))) (t:¬T a) (m:¬M a):Ck K T M H (.ref a) (.dct kvs)
 | dk {a:Addr} {o:Obj} {es:Array DictEntry} {ep:Nat} {kvs:List (Int×Int)} (h:H a=some (.frz o (.dK (FV kvs)))) (e:o.data= .dict es ep):Ck K T M H (.ref a) (.dk kvs)
 | scr {a:Addr} {ns:List Int} (h:(Rd H a (.lst (ns.map V.int))/\¬T a/\¬M a)\/∀H,Et K H a (ns.map V.int)):Ck K T M H (.ref a) (.scr ns)
inductive A3 (K:AAB) (T M:Addr->Prop) (H:Hp):List V->List PV->Prop where
 | nil:A3 K T M H [] []
 | cons {v:V} {x:PV} {vs:List V} {xs:List PV} (h:Ck K T M H v x) (t:A3 K T M H vs xs):A3 K T M H (v::vs) (x::xs)
end
structure KO (T M:Addr->Prop) (H:Hp):Prop where
 tp:∀a,T a->E8 H a
 mu:∀a,M a->∃o,H a=some o/\MH o
def KO.noFrz {T M:ki->Prop}{H:Hp}(v:KO T M H){a:ki}{q:Obj}{u:HO}(r:H a=some (.frz q u)):¬T a/\¬M a:=by
 refine⟨λz=> ?_,λz=> ?_⟩
 .obtain ⟨o,e,_,n⟩:=(v.tp a z).mut;rw[r] at e;cases e;exact n _ _ rfl
 .obtain ⟨o,e,_,n⟩:=v.mu a z;rw[r] at e;cases e;exact n _ _ rfl
def KO.noTup {T M:ki->Prop}{H:Hp}(v:KO T M H){a:ki}{vs:kn V}(r:Rd H a (.tup vs)):¬T a/\¬M a:=by
 have go:∀o,H a=some o->MH o->False:=λo e m=>by
  rcases r with r|⟨q,r⟩
  .rw [e] at r;cases r;exact m.1 _ rfl
  .rw [e] at r;cases r;exact m.2 _ _ rfl
 exact⟨λt=>let ⟨o,e,m⟩:=(v.tp a t).mut;go o e m,λt=>let ⟨o,e,m⟩:=v.mu a t;go o e m⟩
structure Mv (K:AAB) (T M:Addr->Prop) (H:Hp) (T' M':Addr->Prop) (H':Hp):Prop where
 va:KO T M H
 keep:∀b o,¬T b->¬M b->H b=some o->H' b=some o
 sub:∀b,T b->T' b
 tn:∀b,H b≠none->T' b->T b
 mn:∀b,H b≠none->M' b->M b
def YV {H:Hp}{a:ki}{u:HO}(r:Rd H a u):H a≠none:=by rcases r with r|⟨o,r⟩ <;> rw[r] <;> exact λe=>nomatch e
def sG {H b:Hp}{a:ki}{u:HO}(r:Rd H a u)(k:∀o,H a=some o->b a=some o):Rd b a u:=by
 rcases r with r|⟨o,r⟩
 .exact .inl (k _ r)
 .exact .inr ⟨o,k _ r⟩
section
variable {K:AAB}{T M T' M':ki->Prop}{H H':Hp}
mutual
theorem Ck.mv (m:Mv K T M H T' M' H'):∀{v:V} {x:PV},Ck K T M H v x->Ck K T' M' H' v x
 | _,_, .non=> .non
 | _,_, .bl b=> .bl b
 | _,_, .int i=> .int i
 | _,_, .str x=> .str x
 | _,_, .ty n=> .ty n
 | _,_, .tup (a:=a) (vs:=vs) h r=>by
   refine .tup (vs:=vs) ?_ (A3.mv m r);rcases h with h|h
   .obtain ⟨t,u⟩:=m.va.noTup (.inl h);exact .inl (m.keep _ _ t u h)
   .exact .inr h
 | _,_, .lst (a:=a) h t u r=> .lst (m.keep _ _ t u h) (λz=>t (m.tn a (by rw[h];exact λe=>nomatch e) z)) (λz=>u (m.mn a (by rw[h];exact λe=>nomatch e) z)) (A3.mv m r)
 | _,_, .tape t=> .tape (m.sub _ t)
 | _,_, .dct (a:=a) h t u=> .dct (m.keep _ _ t u h) (λz=>t (m.tn a (by rw[h];exact λe=>nomatch e) z)) (λz=>u (m.mn a (by rw[h];exact λe=>nomatch e) z))
 | _,_, .dk h e=>by obtain⟨t,u⟩:=m.va.noFrz h;exact .dk (m.keep _ _ t u h) e
 | _,_, .scr (a:=a) (.inl ⟨h,t,u⟩)=> .scr (.inl ⟨sG h λo e=>m.keep _ o t u e,λz=>t (m.tn a (YV h) z),λz=>u (m.mn a (YV h) z)⟩)
 | _,_, .scr (.inr h)=> .scr (.inr h)
theorem A3.mv (m:Mv K T M H T' M' H'):∀{vs:kn V} {xs:kn PV},A3 K T M H vs xs->A3 K T' M' H' vs xs
 | _,_, .nil=> .nil
 | _,_, .cons h t=> .cons (Ck.mv m h) (A3.mv m t)
end
end
def A3.length {K:AAB}{T M:ki->Prop}{H:Hp}:∀{vs:kn V} {xs:kn PV},A3 K T M H vs xs->vs.length=xs.length
 | _,_, .nil=>rfl
 | _,_, .cons _ t=>by simp[t.length]
theorem A3.get {K:AAB}{T M:ki->Prop}{H:Hp}:∀{vs:kn V} {xs:kn PV} {i:Nat} {x:PV},A3 K T M H vs xs->xs[i]? =some x->∃v,vs[i]? =some v/\Ck K T M H v x
 | _,_,_,_, .nil,e=>by simp at e
 | _,_,0,_, .cons h _,e=>by simp at e;subst e;exact⟨_,rfl,h⟩
 | _,_,i+1,x, .cons _ t,e=>by obtain⟨u,h1,h2⟩:=A3.get (i:=i) (x:=x) t (by simpa using e);exact⟨u,by simpa using h1,h2⟩
def A3.get' {K:AAB}{T M:ki->Prop}{H:Hp}{vs:kn V}{xs:kn PV}{i:Nat}{v:V}(h:A3 K T M H vs xs)(e:vs[i]? =some v):∃x,xs[i]? =some x/\Ck K T M H v x:=by have hl:=h.length;have hi:i<vs.length:=(AA3.mp e).1;obtain⟨w,a,r⟩:=h.get (i:=i) (x:=xs[i]'(by omega)) (AAY (by omega));rw[e] at a;cases a;exact⟨_,AAY (by omega),r⟩
def A3.append {K:AAB}{T M:ki->Prop}{H:Hp}:∀{vs a:kn V} {xs ys:kn PV},A3 K T M H vs xs->A3 K T M H a ys->A3 K T M H (vs++a) (xs++ys)
 | _,_,_,_, .nil,s=>s
 | _,_,_,_, .cons h t,s=> .cons h (t.append s)
def A3.take {K:AAB}{T M:ki->Prop}{H:Hp}:∀{vs:kn V} {xs:kn PV} (n:Nat),A3 K T M H vs xs->A3 K T M H (vs.take n) (xs.take n)
 | _,_,0,_=> .nil
 | _,_,_+1, .nil=> .nil
 | _,_,n+1, .cons r t=> .cons r (t.take n)
def A3.drop {K:AAB}{T M:ki->Prop}{H:Hp}:∀{vs:kn V} {xs:kn PV} (n:Nat),A3 K T M H vs xs->A3 K T M H (vs.drop n) (xs.drop n)
 | _,_,0,r=>r
 | _,_,_+1, .nil=> .nil
 | _,_,n+1, .cons _ t=>t.drop n
theorem A3.set {K:AAB}{T M:ki->Prop}{H:Hp}{v:V}{x:PV}(r:Ck K T M H v x):∀{vs:kn V} {xs:kn PV} (i:Nat),A3 K T M H vs xs->A3 K T M H (vs.set i v) (xs.set i x)
 | _,_,_, .nil=> .nil
 | _,_,0, .cons _ t=> .cons r t
 | _,_,i+1, .cons q t=> .cons q (A3.set r i t)
def A3.reverse {K:AAB}{T M:ki->Prop}{H:Hp}{vs:kn V}{xs:kn PV}(h:A3 K T M H vs xs):A3 K T M H vs.reverse xs.reverse:=by
 induction vs generalizing xs with
 | nil=>cases h;exact .nil
 | cons v vs a=>
   cases h with
   | cons h t=>rw[ADd,ADd];exact(a t).append (.cons h .nil)
structure DB (T:Addr->Prop) (H:Hp) (T':Addr->Prop) (H':Hp):Prop where
 keep:∀b o,¬T b->H b=some o->H' b=some o
 sub:∀b,T b->T' b
 new:∀b,T' b->T b\/H b=none
 tp:∀a,T' a->E8 H' a
def DB.refl {T:ki->Prop}{H:Hp}(h:∀a,T a->E8 H a):DB T H T H:=⟨λ_ _ _ e=>e,λ_ e=>e,λ_ e=> .inl e,h⟩
def DB.some {T c:ki->Prop}{H a:Hp}(s:DB T H c a){b:ki}(h:H b≠none):a b≠none:=by
 by_cases t:T b
 .obtain ⟨o,e,_⟩:=(s.tp b (s.sub b t)).mut;rw[e];exact λe=>nomatch e
 .cases e:H b with
  | none=>exact absurd e h
  | some o=>rw[s.keep b o t e];exact λe=>nomatch e
def DB.none {T c:ki->Prop}{H a:Hp}(s:DB T H c a){b:ki}(h:a b=none):H b=none:=by
 cases e:H b with
 | none=>rfl
 | some o=>exact absurd h (s.some (by rw[e];exact λe=>nomatch e))
def DB.trans {T T1 d:ki->Prop}{H H1 f:Hp}(a:DB T H T1 H1)(b:DB T1 H1 d f):DB T H d f where
 keep:=λc o t e=>b.keep c o (λz=>(a.new c z).elim t λn=>by rw[n] at e;cases e) (a.keep c o t e)
 sub:=λc t=>b.sub c (a.sub c t)
 new:=λc t=>(b.new c t).elim (λz=>a.new c z) λz=> .inr (a.none z)
 tp:=b.tp
def DB.lay {T:ki->Prop}{H:Hp}{p:ki}{o:HO}(h:∀a,T a->E8 H a)(hp:H p=Option.none):DB T H T (upd H p o) where
 keep:=λb u _ e=>by rw[Ai (Az e hp)];exact e
 sub:=λ_ t=>t
 new:=λ_ t=> .inl t
 tp:=λa t=>by obtain⟨d,x,e,z⟩:=h a t;exact⟨d,x,by rw[Ai (Az e hp)];exact e,z⟩
def DB.mv {K:AAB}{T a M:ki->Prop}{H c:Hp}(s:DB T H a c)(v:KO T M H):Mv K T M H a M c where
 va:=v
 keep:=λb o t _ e=>s.keep b o t e
 sub:=s.sub
 tn:=λb n t=>(s.new b t).elim id λz=>absurd z n
 mn:=λ_ _ z=>z
def Ck.stp {K:AAB}{T a M:ki->Prop}{H b:Hp}{v:V}{x:PV}(r:Ck K T M H v x)(s:DB T H a b)(va:KO T M H):Ck K a M b v x:=r.mv (s.mv va)
def A3.stp {K:AAB}{T a M:ki->Prop}{H b:Hp}{v:kn V}{x:kn PV}(r:A3 K T M H v x)(s:DB T H a b)(va:KO T M H):A3 K a M b v x:=r.mv (s.mv va)
def Mv.anti {K:AAB}{T M c:ki->Prop}{H:Hp}(v:KO T M H)(h:∀a,c a->M a):Mv K T M H T c H:=⟨v,λ_ _ _ _ e=>e,λ_ t=>t,λ_ _ t=>t,λb _ t=>h b t⟩
inductive AV where
 | val (x:PV)
 | own (xs:List PV)
abbrev BE:=kn (kf AV)
structure C5 where
 T:Addr->Prop
 H:Hp
 M:Addr->Prop
def C5.add (B:C5)(p:ki):C5:=⟨B.T,B.H,λa=>B.M a\/a=p⟩
def CG (a:L2.St)(τ:BE)(p:ki):Prop:=∃(i:Nat) (xs:kn PV),τ[i]? =some (some (.own xs))/\a[i]? =some (some (.ref p))
def mt (B:C5)(a:L2.St)(τ:BE)(p:ki):Prop:=B.M p\/CG a τ p
structure SR (K:AAB) (B:C5) (T:Addr->Prop) (H:Hp) (σ:L2.St) (τ:BE):Prop where
 len:σ.length=τ.length
 val:∀(i:Nat) (x:PV),τ[i]? =some (some (.val x))->∃v,σ[i]? =some (some v)/\Ck K T (mt B σ τ) H v x
 own:∀(i:Nat) (xs:List PV),τ[i]? =some (some (.own xs))->∃p vs,σ[i]? =some (some (.ref p))/\H p=some (.lst vs)/\A3 K T (mt B σ τ) H vs xs/\B.H p=none/\¬T p/\¬B.M p
 dist:∀(i j:Nat) (xs ys:List PV) (p:Addr),τ[i]? =some (some (.own xs))->τ[j]? =some (some (.own ys))->σ[i]? =some (some (.ref p))->σ[j]? =some (some (.ref p))->i=j
 tp:∀a,T a->E8 H a
 bm:∀a,B.M a->∃o,H a=some o/\MH o
 bt:∀a,B.M a->¬T a
 st:DB B.T B.H T H
section
variable {K:AAB}{B:C5}{T T':ki->Prop}{H H':Hp}{σ:L2.St}{τ:BE}
def SR.ownH (s:SR K B T H σ τ){p:ki}(o:CG σ τ p):∃vs,H p=some (.lst vs)/\B.H p=none/\¬T p/\¬B.M p:=by obtain⟨i,xs,h1,h2⟩:=o;obtain⟨q,vs,e,h,_,b,t,m⟩:=s.own i xs h1;rw[h2] at e;cases e;exact⟨vs,h,b,t,m⟩
def SR.va (s:SR K B T H σ τ):KO T (mt B σ τ) H:=⟨s.tp,λa m=>m.elim (s.bm a) λo=>let ⟨vs,h,_⟩:=s.ownH o;⟨_,h,MH.lst⟩⟩
def SR.nt (s:SR K B T H σ τ){a:ki}(m:mt B σ τ a):¬T a:=m.elim (s.bt a) λo=>let ⟨_,_,_,t,_⟩:=s.ownH o;t
def SR.stp (s:SR K B T H σ τ)(p:DB T H T' H'):SR K B T' H' σ τ where
 len:=s.len
 val:=λi x e=>let ⟨v,h,r⟩:=s.val i x e;⟨v,h,r.stp p s.va⟩
 own:=λi xs e=>by obtain⟨q,vs,c,h,r,b,t,m⟩:=s.own i xs e;exact⟨q,vs,c,p.keep _ _ t h,r.stp p s.va,b,(λz=>(p.new q z).elim t λn=>by rw[n] at h;cases h),m⟩
 dist:=s.dist
 tp:=p.tp
 bm:=λa m=>let ⟨o,e,q⟩:=s.bm a m;⟨o,p.keep a o (s.bt a m) e,q⟩
 bt:=λa m z=>by obtain⟨o,e,_⟩:=s.bm a m;exact(p.new a z).elim (s.bt a m) λn=>by rw[n] at e;cases e
 st:=s.st.trans p
def SR.add {p:ki}{o:HO}(s:SR K B T H σ τ)(q:DB T H T' H')(f:H p=none)(k:H' p=some o)(l:MH o)(u:¬T' p):SR K (B.add p) T' H' σ τ:=by
 have c:=s.stp q;have g:Mv K T (mt B σ τ) H T' (mt (B.add p) σ τ) H':=⟨s.va,λb o t _ e=>q.keep b o t e,q.sub,λb n t=>(q.new b t).elim id λz=>absurd z n,λb n z=>by
  rcases z with(z|z)|z
  .exact .inl z
  .subst z;exact absurd f n
  .exact .inr z⟩
 refine⟨s.len,λi x e=> ?_,λi xs e=> ?_,s.dist,c.tp,λa m=> ?_,λa m=> ?_,c.st⟩
 .obtain ⟨v,h,r⟩:=s.val i x e;exact⟨v,h,r.mv g⟩
 .obtain ⟨a,vs,j,h,r,b,t,m⟩:=s.own i xs e;obtain⟨y,w,d,h',_,A,t',C⟩:=c.own i xs e;rw[j] at d;cases d;rw[q.keep _ _ t h] at h';cases h';refine⟨a,vs,j,q.keep _ _ t h,r.mv g,b,t',λz=> ?_⟩;rcases z with z|z
  .exact m z
  .subst z;rw[f] at h;cases h
 .rcases m with m|m
  .exact c.bm a m
  .subst m;exact⟨o,k,l⟩
 .rcases m with m|m
  .exact c.bt a m
  .subst m;exact u
end
def lT:kf AV->kf AV
 | some (.own xs)=>some (.val (.lst xs))
 | o=>o
def frz (τ:BE):BE:=τ.map lT
def Xu {τ:BE}{i:Nat}:(frz τ)[i]? =(τ[i]?).map lT:=by simp[frz]
def gS {τ:BE}{i:Nat}{x:PV}(h:(frz τ)[i]? =some (some (.val x))):τ[i]? =some (some (.val x))\/∃xs,x= .lst xs/\τ[i]? =some (some (.own xs)):=by
 rw[Xu] at h;cases e:τ[i]? with
 | none=>rw[e] at h;cases h
 | some o=>
   rw[e] at h;cases o with
   | none=>cases h
   | some a=>
     cases a with
     | val y=>cases h;exact .inl rfl
     | own xs=>cases h;exact .inr ⟨xs,rfl,rfl⟩
def RR {τ:BE}{i:Nat}{xs:kn PV}:(frz τ)[i]? ≠some (some (.own xs)):=by
 rw[Xu];cases e:τ[i]? with
 | none=>exact λz=>nomatch z
 | some o=>
   cases o with
   | none=>exact λz=>nomatch z
   | some a=>cases a <;> exact λz=>nomatch z
def U0 {a:L2.St}{τ:BE}{p:ki}:¬CG a (frz τ) p:=λ⟨_,_,h,_⟩=>RR h
section
variable {K:AAB}{B:C5}{T T':ki->Prop}{H H':Hp}{σ:L2.St}{τ:BE}
def SR.frz (s:SR K B T H σ τ):SR K B T H σ (frz τ):=by
 have d:Mv K T (mt B σ τ) H T (mt B σ (PL.frz τ)) H:= .anti s.va λa m=>m.elim .inl λz=>absurd z U0;refine⟨by simp[PL.frz,s.len],λi x e=> ?_,λi xs e=>absurd e RR,λi j xs ys p e=>absurd e RR,s.tp,s.bm,s.bt,s.st⟩;rcases gS e with c|⟨xs,f,c⟩
 .obtain ⟨v,h,r⟩:=s.val i x c;exact⟨v,h,r.mv d⟩
 .subst f;obtain⟨p,vs,g,h,r,b,t,m⟩:=s.own i xs c;exact⟨.ref p,g, .lst h t (λz=>z.elim m U0) (r.mv d)⟩
end
mutual
def c5:PV->kd
 | .lst _=>false
 | .tape=>false
 | .scr _=>false
 | .dct _=>false
 | .tup xs=>Wk xs
 | _=>true
def Wk:kn PV->kd
 | [] =>true
 | x::xs=>c5 x&&Wk xs
end
section
variable {K:AAB}{T M M':ki->Prop}{H:Hp}
mutual
theorem Ck.free:∀{v:V} {x:PV},c5 x=true->Ck K T M H v x->Ck K T M' H v x
 | _,_,_, .non=> .non
 | _,_,_, .bl b=> .bl b
 | _,_,_, .int i=> .int i
 | _,_,_, .str x=> .str x
 | _,_,_, .ty n=> .ty n
 | _,_,n, .tup h r=> .tup h (A3.free (by rw[c5] at n;exact n) r)
 | _,_,n, .lst _ _ _ _=>by rw[c5] at n;cases n
 | _,_,n, .tape _=>by rw[c5] at n;cases n
 | _,_,n, .scr _=>by rw[c5] at n;cases n
 | _,_,n, .dct _ _ _=>by rw[c5] at n;cases n
 | _,_,_, .dk h e=> .dk h e
theorem A3.free:∀{vs:kn V} {xs:kn PV},Wk xs=true->A3 K T M H vs xs->A3 K T M' H vs xs
 | _,_,_, .nil=> .nil
 | _,_,n, .cons h t=>by rw[Wk,ABD] at n;exact .cons (Ck.free n.1 h) (A3.free n.2 t)
end
end
abbrev AE:=BE->(PV->Prop)->Prop
abbrev AT:=BE->(kd->Prop)->Prop
abbrev AA:=BE->(kn PV->Prop)->Prop
abbrev AF:=kn PV->(PV->Prop)->Prop
def Rt:BE->Nat->kf AV
 | [],_=>none
 | x::_,0=>x
 | _::r,n+1=>Rt r n
theorem K3:∀{τ:BE} {i:Nat} {a:AV},Rt τ i=some a->τ[i]? =some (some a)
 | [],_,_,h=>by simp[Rt] at h
 | x::_,0,_,h=>by simpa[Rt] using h
 | _::r,n+1,a,h=>by have:=K3 (τ:=r) (i:=n) (a:=a) (by simpa[Rt] using h);simpa using this
def TK (x:PV)(R:Int->Prop):Prop:=match x with | .int i=>R i|_=>False
def m7 (x y:PV)(R:Int->Int->Prop):Prop:=match x,y with | .int i, .int j=>R i j|_,_=>False
def iA (x:PV)(R:kd->Prop):Prop:=match x with | .bl b=>R b|_=>False
def Z7 (o:kf PV)(R:PV->Prop):Prop:=match o with | some z=>R z|none=>False
def m9 {o:kf PV}{R:PV->Prop}(h:Z7 o R):∃z,o=some z/\R z:=by cases o <;> first | exact⟨_,rfl,h⟩|exact h.elim
def Uy (x:PV)(R:kn PV->Prop):Prop:=match x with | .tup xs=>R xs | .lst xs=>R xs|_=>False
def Gq {x:PV}{R:Int->Prop}(h:TK x R):∃i,x= .int i/\R i:=by cases x <;> first | exact⟨_,rfl,h⟩|exact h.elim
def SD {x y:PV}{R:Int->Int->Prop}(h:m7 x y R):∃i j,x= .int i/\y= .int j/\R i j:=by cases x <;> cases y <;> first | exact⟨_,_,rfl,rfl,h⟩|exact h.elim
def SC {x:PV}{R:kd->Prop}(h:iA x R):∃b,x= .bl b/\R b:=by cases x <;> first | exact⟨_,rfl,h⟩|exact h.elim
def K7 {x:PV}{R:kn PV->Prop}(h:Uy x R):∃xs,(x= .tup xs\/x= .lst xs)/\R xs:=by cases x <;> first | exact⟨_, .inl rfl,h⟩|exact⟨_, .inr rfl,h⟩|exact h.elim
def Ck.toI {K:AAB}{T M:ki->Prop}{H:Hp}{v:V}{i:Int}(r:Ck K T M H v (.int i)):v= .int i:=by cases r;rfl
def Ck.toB {K:AAB}{T M:ki->Prop}{H:Hp}{v:V}{i:kd}(r:Ck K T M H v (.bl i)):v= .bl i:=by cases r;rfl
def MJ (K:AAB)(t:TE)(a:AE):Prop:=∀(B:C5) (T:ki->Prop) (b:L2.St) (τ:BE) (H:Hp) (Q:VK) (d:PV->Prop),SR K B T H b τ->a τ d->
 (∀v x e c,DB T H e c->Ck K e (mt B b τ) c v x->d x->Q v c)->t b H Q
def Vq (K:AAB)(t:TT)(a:AT):Prop:=∀(B:C5) (T:ki->Prop) (c:L2.St) (τ:BE) (H:Hp) (Q:kd->Hp->Prop) (d:kd->Prop),SR K B T H c τ->a τ d->
 (∀b f e,DB T H f e->d b->Q b e)->t c H Q
def kW (K:AAB)(t:TA)(a:AA):Prop:=∀(B:C5) (T:ki->Prop) (b:L2.St) (τ:BE) (H:Hp) (Q:kn V->Hp->Prop) (d:kn PV->Prop),SR K B T H b τ->a τ d->
 (∀vs xs e c,DB T H e c->A3 K e (mt B b τ) c vs xs->d xs->Q vs c)->t b H Q
def fz (K:AAB)(t:TE)(a:AA):Prop:=∀(B:C5) (T:ki->Prop) (c:L2.St) (τ:BE) (H:Hp) (Q:VK) (e:kn PV->Prop),SR K B T H c τ->a τ e->
 (∀p vs xs d b,DB T H d b->SR K (B.add p) d b c τ->H p=none->b p=some (.lst vs)->¬d p->A3 K d (mt (B.add p) c τ) b vs xs->e xs->Q (.ref p) b)->t c H Q
def SE (X:Cx)(e:ke)(a:AE):Prop:=∃t,PE X e t/\MJ X.K t a
def Vp (X:Cx)(e:ke)(a:AT):Prop:=∃t,PT X e t/\Vq X.K t a
def SW (X:Cx)(e:ke)(a:AT):Prop:=∃t,PW X e t/\Vq X.K t a
def SA (X:Cx)(es:kn ke)(a:AA):Prop:=∃t,PA X es t/\kW X.K t a
def SF (X:Cx)(e:ke)(a:AA):Prop:=∃t,PE X e t/\fz X.K t a
abbrev Hl:=PV->PV->(PV->Prop)->Prop
def B9 (K:AAB)(r:R2)(f:Hl):Prop:=∀(T M:ki->Prop) (H:Hp) (u v:V) (x y:PV) (Q:VK) (b:PV->Prop),KO T M H->Ck K T M H u x->Ck K T M H v y->f x y b->
 (∀w z c a,DB T H c a->Ck K c M a w z->b z->Q w a)->r u v H Q
def Ee (K:AAB)(r:kn V->Hp->VK->Prop)(f:AF):Prop:=∀(T M:ki->Prop) (H:Hp) (b:kn V) (xs:kn PV) (Q:VK) (c:PV->Prop),KO T M H->A3 K T M H b xs->f xs c->
 (∀w z d a,DB T H d a->Ck K d M a w z->c z->Q w a)->r b H Q
section
variable {X:Cx}{a b c:ke}{es:kn ke}{pos:Pos}{ta tb:AE}{tA tB':AT}
def aV (i:Nat):AE:=λτ Q=>match Rt τ i with | some (.val x)=>Q x|_=>False
def qK {i:Nat}{τ:BE}{Q:PV->Prop}(h:aV i τ Q):∃x,τ[i]? =some (some (.val x))/\Q x:=by
 unfold aV at h;cases e:Rt τ i with
 | none=>rw[e] at h;exact h.elim
 | some z=>
   rw[e] at h;cases z with
   | own xs=>exact h.elim
   | val x=>exact⟨x,K3 e,h⟩
def AJ (i:Nat){x:Str}{pos:Pos}(hN:X.N[i]? =some x:=by rfl)(hv:jk X.env.scope x:=by first | exact Or.inl rfl|exact Or.inr (Or.inl rfl)|exact Or.inr (Or.inr rfl))(hd:(x==("__debug__" :Str))=false:=by decide)(d:(x==("__classdict__" :Str))=false:=by decide):SE X (.Name x pos) (aV i):=by refine⟨_,N8 hN hv hd d,λB T g τ H Q j s h k=> ?_⟩;obtain⟨x,e,q⟩:=qK h;obtain⟨v,f,r⟩:=s.val i x e;exact⟨v,f,k v x T H (.refl s.tp) r q⟩
def aC (x:PV):AE:=λ_ Q=>Q x
def Qg {v:V}{x:PV}(h:∀T M H,Ck X.K T M H v x):MJ X.K (tC v) (aC x):=λB T d τ H Q e s h' k=>k v x T H (.refl s.tp) (h _ _ _) h'
def AH {i:Int}{j pos}:SE X (.Constant (.int i) j pos) (aC (.int i)):=⟨_,BL,Qg λ_ _ _=> .int i⟩
def Ej {i:kd}{j pos}:SE X (.Constant (.bool i) j pos) (aC (.bl i)):=⟨_,rW,Qg λ_ _ _=> .bl i⟩
def Bk {j pos}:SE X (.Constant .none j pos) (aC .non):=⟨_,nM,Qg λ_ _ _=> .non⟩
def Dk {i:Str}{j pos}:SE X (.Constant (.str i) j pos) (aC (.str i)):=⟨_,nQ,Qg λ_ _ _=> .str i⟩
def YZ {x:Str}{n:String}{u:km}{pos:Pos}(d:Gl X x)(e:X.mg x=none)(hv:bootBuiltins x=some u)(r:RelV (.ty n) u)(f:x≠"__name__" :=by decide)(hd:(x==("__debug__" :Str))=false:=by decide):SE X (.Name x pos) (aC (.ty n)):=
 ⟨_,iJ (v:= .ty n) d e hv r f hd,Qg λ_ _ _=> .ty n⟩
def AW (f:Hl)(ta tb:AE):AE:=λτ Q=>ta τ λx=>tb τ λy=>f x y Q
def OT {r:R2}{f:Hl}{t u:TE}(i:B9 X.K r f)(ha:MJ X.K t ta)(hb:MJ X.K u tb):MJ X.K (fU r t u) (AW f ta tb):=by intro B T g τ H Q j s h k;refine ha B T g τ H _ _ s h λv x T1 H1 d l h1=> ?_;refine hb B T1 g τ H1 _ _ (s.stp d) h1 λw y m n e o h2=> ?_;have p:=(s.stp d).stp e;exact i m _ n v w x y Q j p.va (l.stp e (s.stp d).va) o h2 λw z T3 A C D q=>k w z T3 A ((d.trans e).trans C) D q
def Af {op:Operator}{r:R2}{f:Hl}(d:D1 X (binaryOp op) r/\B9 X.K r f)(ha:SE X a ta)(hb:SE X b tb):SE X (.BinOp a op b pos) (AW f ta tb):=
 let ⟨_,p,s⟩:=ha;let ⟨_,e,g⟩:=hb;⟨_,B7 d.1 p e,OT d.2 s g⟩
def DK {op:CmpOp}{r:R2}{f:Hl}(d:D1 X (compareOp op) r/\B9 X.K r f)(ha:SE X a ta)(hb:SE X b tb)(e:behindInMarks op b=false):SE X (.Compare a [op] [b] pos) (AW f ta tb):=
 let ⟨_,p,s⟩:=ha;let ⟨_,g,h⟩:=hb;⟨_,YR d.1 p g e,OT d.2 s h⟩
def sQ {r:R2}{f:Hl}(d:fo X r/\B9 X.K r f)(ha:SE X a ta)(hb:SE X b tb)(hs:RF b):SE X (.Subscript a b pos) (AW f ta tb):=
 let ⟨_,p,s⟩:=ha;let ⟨_,e,g⟩:=hb;⟨_,Lo d.1 p e hs,OT d.2 s g⟩
def fI (g:Int->Int->PV):Hl:=λx y Q=>m7 x y λi j=>Q (g i j)
def pN (C:Int->Int->Prop)(g:Int->Int->PV):Hl:=λx y Q=>m7 x y λi j=>C i j/\Q (g i j)
def Yc {g:Int->Int->V}{g':Int->Int->PV}(d:∀i j T M H,Ck X.K T M H (g i j) (g' i j)):B9 X.K (SZ g) (fI g'):=by intro T M H u v x y Q f va e rv h k;obtain⟨i,j,rfl,rfl,q⟩:=SD h;exact⟨i,j,e.toI,rv.toI,k _ _ T H (.refl va.tp) (d i j T M H) q⟩
def Sz {C:Int->Int->Prop}{g:Int->Int->V}{g':Int->Int->PV}(d:∀i j T M H,Ck X.K T M H (g i j) (g' i j)):B9 X.K (rI C g) (pN C g'):=by intro T M H u v x y Q f va e rv h k;obtain⟨i,j,rfl,rfl,c,q⟩:=SD h;exact⟨i,j,e.toI,rv.toI,c,k _ _ T H (.refl va.tp) (d i j T M H) q⟩
abbrev GL:Hl:=fI λi j=> .int (i-j)
abbrev ZY:Hl:=fI λi j=> .bl (decide (i<j))
abbrev xj:Hl:=fI λi j=> .bl (decide (i<=j))
abbrev V9:Hl:=fI λi j=> .bl (decide (j<i))
def Cv:D1 X (binaryOp .Sub) (SZ λi j=> .int (i-j))/\B9 X.K (SZ λi j=> .int (i-j)) GL:=⟨nG,Yc λi j _ _ _=> .int _⟩
def GA:D1 X (compareOp .Lt) (SZ λi j=> .bl (decide (i<j)))/\B9 X.K (SZ λi j=> .bl (decide (i<j))) ZY:=⟨jz,Yc λi j _ _ _=> .bl _⟩
def sV:D1 X (compareOp .LtE) (SZ λi j=> .bl (decide (i<=j)))/\B9 X.K (SZ λi j=> .bl (decide (i<=j))) xj:=⟨rS,Yc λi j _ _ _=> .bl _⟩
def Fd:D1 X (compareOp .Gt) (SZ λi j=> .bl (decide (j<i)))/\B9 X.K (SZ λi j=> .bl (decide (j<i))) V9:=⟨jy,Yc λi j _ _ _=> .bl _⟩
structure MulOk (i j:Int):Prop where
 l:i.natAbs<2^1000000
 r:j.natAbs<2^1000000
def SH:D1 X (binaryOp .Mult) (rI MulOk λi j=> .int (i*j)):=nA λ_ _ _ _ _ _ _ hc q=>mul_int q (.of_le (HJ hc.l) (HJ hc.r) (by decide))
abbrev BV:Hl:=pN MulOk λi j=> .int (i*j)
def Aq:D1 X (binaryOp .Mult) (rI MulOk λi j=> .int (i*j))/\B9 X.K (rI MulOk λi j=> .int (i*j)) BV:=⟨SH,Sz λi j _ _ _=> .int _⟩
structure Xa (i j:Int):Prop where
 ne:j≠0
 lt:j.natAbs<2^8900
def dE:D1 X (binaryOp .FloorDiv) (rI Xa λi j=> .int (i.fdiv j)):=nA λi j _ _ _ _ _ hc q=>
 floordiv_int hc.ne q (.inl (AE5 (AC8 (Jx hc.lt (by decide)) (by decide))))
abbrev PQ:Hl:=pN Xa λi j=> .int (i.fdiv j)
def ES:D1 X (binaryOp .FloorDiv) (rI Xa λi j=> .int (i.fdiv j))/\B9 X.K (rI Xa λi j=> .int (i.fdiv j)) PQ:=⟨dE,Sz λi j _ _ _=> .int _⟩
abbrev RO:Hl:=pN (λ_ j=>j≠0) λi j=> .int (i.fmod j)
def LS:D1 X (binaryOp .Mod) (rI (λ_ j=>j≠0) λi j=> .int (i.fmod j))/\B9 X.K (rI (λ_ j=>j≠0) λi j=> .int (i.fmod j)) RO:=⟨iF,Sz λi j _ _ _=> .int _⟩
abbrev lM:Hl:=pN fb λi j=> .int (i^j.toNat)
def eM:D1 X (binaryOp .Pow) (rI fb λi j=> .int (i^j.toNat))/\B9 X.K (rI fb λi j=> .int (i^j.toNat)) lM:=⟨dF,Sz λi j _ _ _=> .int _⟩
def t9:PV->kd | .non=>true|_=>false
def PR:Hl:=λx y Q=>match y with | .non=>Q (.bl (t9 x))|_=>False
def Li:Hl:=λx y Q=>match y with | .non=>Q (.bl (!t9 x))|_=>False
def YB {K:AAB}{T M:ki->Prop}{H:Hp}{v:V}{x:PV}(r:Ck K T M H v x):decide (v= .non)=t9 x:=by cases r <;> simp[t9]
def LR:D1 X (compareOp .Is) (λx y H Q=>y= .non/\Q (.bl (decide (x= .non))) H)/\B9 X.K (λx y H Q=>y= .non/\Q (.bl (decide (x= .non))) H) PR:=by
 refine⟨nD,λT M H u v x y Q e va d rv h k=> ?_⟩;cases y <;> first | exact h.elim|skip
 cases rv;refine⟨rfl, ?_⟩;rw[YB d];exact k _ _ T H (.refl va.tp) (.bl _) h
def Mn:D1 X (compareOp .IsNot) (λx y H Q=>y= .non/\Q (.bl (!decide (x= .non))) H)/\B9 X.K (λx y H Q=>y= .non/\Q (.bl (!decide (x= .non))) H) Li:=by
 refine⟨iH,λT M H u v x y Q e va d rv h k=> ?_⟩;cases y <;> first | exact h.elim|skip
 cases rv;refine⟨rfl, ?_⟩;rw[YB d];exact k _ _ T H (.refl va.tp) (.bl _) h
def Ah:Hl:=λx y Q=>Uy x λxs=>TK y λi=>Z7 (HY xs i) Q
def Xe {K:AAB}{T M:ki->Prop}{H:Hp}{vs:kn V}{xs:kn PV}{i:Int}{z:PV}(r:A3 K T M H vs xs)(h:HY xs i=some z):∃v,HY vs i=some v/\Ck K T M H v z:=by
 unfold HY at h ⊢;rw[r.length];cases e:Rl xs.length i with
 | none=>rw[e] at h;cases h
 | some j=> rw[e] at h;exact r.get h
def rq (K:AAB):R2:=λx y H Q=>rp K x y H Q\/sA K x y H Q
def sU:fo X (rq X.K)/\B9 X.K (rq X.K) Ah:=by
 refine⟨Ev.or mF,λT M H u v x y Q j va g rv h k=> ?_⟩;obtain⟨xs,hx,h1⟩:=K7 h;obtain⟨i,rfl,h2⟩:=Gq h1;cases rv.toI;obtain⟨z,e,q⟩:=m9 h2;rcases hx with rfl|rfl
 .cases g with
  | tup f r=> obtain⟨w,ew,d⟩:=Xe r e;exact .inr ⟨_,_,i,w,rfl,rfl,f.sq,ew,k w z T H (.refl va.tp) d q⟩
 .cases g with
  | lst f t m r=> obtain⟨w,ew,d⟩:=Xe r e;exact .inl ⟨_,_,i,w,rfl,rfl, .inl (.inl f),ew,k w z T H (.refl va.tp) d q⟩
def PC (f:PV->(PV->Prop)->Prop)(ta:AE):AE:=λτ Q=>ta τ λx=>f x Q
def Gg (x:PV)(Q:PV->Prop):Prop:=TK x λi=>Q (.int (-i))
def DL (ha:SE X a ta):SE X (.UnaryOp .USub a pos) (PC Gg ta):=by obtain⟨t,p,s⟩:=ha;refine⟨_,j4 fG p,λB T d τ H Q j e h k=>s B T d τ H _ _ e h λv x T1 H1 f g h1=> ?_⟩;obtain⟨i,rfl,q⟩:=Gq h1;exact⟨i,g.toI,k _ _ T1 H1 f (.int _) q⟩
def b9 (x:PV)(Q:PV->Prop):Prop:=iA x λi=>Q (.bl (!i))
def W9 (ha:SE X a ta):SE X (.UnaryOp .Not a pos) (PC b9 ta):=by obtain⟨t,p,s⟩:=ha;refine⟨_,nN p,λB T d τ H Q j e h k=>s B T d τ H _ _ e h λv x T1 H1 f g h1=> ?_⟩;obtain⟨i,rfl,q⟩:=SC h1;exact⟨i,g.toB,k _ _ T1 H1 f (.bl _) q⟩
def Vt (ta tb:AE):AE:=λτ Q=>ta τ λx=>iA x λc=>if c=true then tb τ Q else Q (.bl false)
def tW (ta tb:AE):AE:=λτ Q=>ta τ λx=>iA x λc=>if c=true then Q (.bl true) else tb τ Q
def LO {op}(h:SE X a ta):SE X (.BoolOp op [a] pos) ta:=let ⟨_,p,s⟩:=h;⟨_,nO p,s⟩
def OQ {rest:kn ke}(ha:SE X a ta)(hb:SE X (.BoolOp .And (b::rest) pos) tb):SE X (.BoolOp .And (a::b::rest) pos) (Vt ta tb):=by
 obtain⟨t,p,s⟩:=ha;obtain⟨t',g,j⟩:=hb;refine⟨_,nK p g,λB T e τ H Q u f h k=>s B T e τ H _ _ f h λv x T1 H1 d l h1=> ?_⟩;obtain⟨i,rfl,q⟩:=SC h1;refine⟨i,l.toB, ?_⟩;cases i with
 | true=>rw[AAE rfl] at q ⊢;exact j B T1 e τ H1 _ _ (f.stp d) q λw y m n o r h2=>k w y m n (d.trans o) r h2
 | false=>rw[AAD AAc] at q ⊢;exact k _ _ T1 H1 d (.bl _) q
def kA {rest:kn ke}(ha:SE X a ta)(hb:SE X (.BoolOp .Or (b::rest) pos) tb):SE X (.BoolOp .Or (a::b::rest) pos) (tW ta tb):=by
 obtain⟨t,p,s⟩:=ha;obtain⟨t',g,j⟩:=hb;refine⟨_,rY p g,λB T e τ H Q u f h k=>s B T e τ H _ _ f h λv x T1 H1 d l h1=> ?_⟩;obtain⟨i,rfl,q⟩:=SC h1;refine⟨i,l.toB, ?_⟩;cases i with
 | false=>rw[AAD AAc] at q ⊢;exact j B T1 e τ H1 _ _ (f.stp d) q λw y m n o r h2=>k w y m n (d.trans o) r h2
 | true=>rw[AAE rfl] at q ⊢;exact k _ _ T1 H1 d (.bl _) q
def A6 (ta:AE):AT:=λτ Q=>ta τ λx=>iA x Q
def Yf {t:TE}(s:MJ X.K t ta):Vq X.K (kD t) (A6 ta):=λB T d τ H Q j e h k=>s B T d τ H _ _ e h λv x T1 H1 f g h1=>by obtain⟨i,rfl,q⟩:=SC h1;exact⟨i,g.toB,k _ T1 H1 f q⟩
def oY {op:CmpOp}{r:R2}{f:Hl}(d:D1 X (compareOp op) r/\B9 X.K r f)(ha:SE X a ta)(hb:SE X b tb)(e:behindInMarks op b=false):Vp X (.Compare a [op] [b] pos) (A6 (AW f ta tb)):=
 let ⟨_,p,s⟩:=ha;let ⟨_,g,h⟩:=hb;⟨_,SX d.1 p g e,Yf (OT d.2 s h)⟩
def C7 {e:ke}(h:SE X e ta)(he:∀whole,isTrue e X.env whole=(do let v <-whole;standAt e.pos;holding [v] (truthy v)):=by intro _;rfl):Vp X e (A6 ta):=
 let ⟨_,p,s⟩:=h;⟨_,nY p he,Yf s⟩
def NU (t:AT):AT:=λτ Q=>t τ λc=>Q (!c)
def Ef (t u:AT):AT:=λτ Q=>t τ λc=>if c=true then u τ Q else Q false
def Vu (t u:AT):AT:=λτ Q=>t τ λc=>if c=true then Q true else u τ Q
def Ob (ha:Vp X a tA):Vp X (.UnaryOp .Not a pos) (NU tA):=by obtain⟨t,p,s⟩:=ha;exact⟨_,nX p,λB T d τ H Q g e h k=>s B T d τ H _ _ e h λv T1 H1 f h1=>k _ T1 H1 f h1⟩
def ET (ha:Vp X a tA):SW X (.BoolOp .And [a] pos) tA:=let ⟨_,p,s⟩:=ha;⟨_,ie p,s⟩
def Oc (ha:Vp X a tA):SW X (.BoolOp .Or [a] pos) tA:=let ⟨_,p,s⟩:=ha;⟨_,ni p,s⟩
def Em {rest:kn ke}(ha:Vp X a tA)(hb:SW X (.BoolOp .And (b::rest) pos) tB'):SW X (.BoolOp .And (a::b::rest) pos) (Ef tA tB'):=by
 obtain⟨t,p,s⟩:=ha;obtain⟨t',g,j⟩:=hb;refine⟨_,nh p g,λB T e τ H Q o f h k=>s B T e τ H _ _ f h λi T1 H1 d q=> ?_⟩;cases i with
 | true=>rw[AAE rfl] at q ⊢;exact j B T1 e τ H1 _ _ (f.stp d) q λb l m n h2=>k b l m (d.trans n) h2
 | false=>rw[AAD AAc] at q ⊢;exact k _ T1 H1 d q
def VP {rest:kn ke}(ha:Vp X a tA)(hb:SW X (.BoolOp .Or (b::rest) pos) tB'):SW X (.BoolOp .Or (a::b::rest) pos) (Vu tA tB'):=by
 obtain⟨t,p,s⟩:=ha;obtain⟨t',g,j⟩:=hb;refine⟨_,re p g,λB T e τ H Q o f h k=>s B T e τ H _ _ f h λi T1 H1 d q=> ?_⟩;cases i with
 | false=>rw[AAD AAc] at q ⊢;exact j B T1 e τ H1 _ _ (f.stp d) q λb l m n h2=>k b l m (d.trans n) h2
 | true=>rw[AAE rfl] at q ⊢;exact k _ T1 H1 d q
def KH (h:SW X a tA):Vp X a tA:=let ⟨_,p,s⟩:=h;⟨_,p.pt,s⟩
def pM (t:AT)(ta tb:AE):AE:=λτ Q=>t τ λc=>if c=true then ta τ Q else tb τ Q
def YY (hc:Vp X c tA)(ha:SE X a ta)(hb:SE X b tb):SE X (.IfExp c a b pos) (pM tA ta tb):=by
 obtain⟨t,p,s⟩:=hc;obtain⟨v,r,e⟩:=ha;obtain⟨x,u,f⟩:=hb;refine⟨_,dM p r u,λB T g τ H Q z j h k=>s B T g τ H _ _ j h λi T1 H1 d q=> ?_⟩;cases i with
 | true=>rw[AAE rfl] at q ⊢;exact e B T1 g τ H1 _ _ (j.stp d) q λw y l m n o h2=>k w y l m (d.trans n) o h2
 | false=>rw[AAD AAc] at q ⊢;exact f B T1 g τ H1 _ _ (j.stp d) q λw y l m n o h2=>k w y l m (d.trans n) o h2
def AM:AA:=λ_ Q=>Q []
def AB (ta:AE)(r:AA):AA:=λτ Q=>ta τ λx=>r τ λxs=>Q (x::xs)
def FE:SA X [] AM:=⟨_,Fo,λB T e τ H Q f d h k=>k [] [] T H (.refl d.tp) .nil h⟩
def Av {e:ke}{r:AA}(ha:SE X e ta)(j:SA X es r)(hs:starEach (e::es) X.env=(false,eval e X.env)::starEach es X.env:=by rfl):SA X (e::es) (AB ta r):=by obtain⟨t,p,s⟩:=ha;obtain⟨t',l,m⟩:=j;refine⟨_,D3 p l hs,λB T g τ H Q y d h k=>s B T g τ H _ _ d h λv x T1 H1 f n h1=> ?_⟩;exact m B T1 g τ H1 _ _ (d.stp f) h1 λvs xs o u i w h2=>k _ _ o u (f.trans i) (.cons (n.stp i (d.stp f).va) w) h2
def Ak (r:AA):AE:=λτ Q=>r τ λxs=>xs.length<=sizeLine/\Q (.tup xs)
def AX {x1}{r:AA}(h:SA X es r):SE X (.Tuple es x1 pos) (Ak r):=by obtain⟨t,p,s⟩:=h;refine⟨_,nR p,λB T g τ H Q j d h k=>s B T g τ H _ _ d h λvs xs T1 H1 e f h1=>⟨by rw[f.length];exact h1.1,λq i=> ?_⟩⟩;have l:=DB.lay (o:= .tup vs) (d.stp e).tp i;exact k _ _ T1 _ (e.trans l) (.tup (.inl Aj) (f.stp l (d.stp e).va)) h1.2
def EA (r:AA):AA:=λτ Q=>r τ λxs=>xs.length<=sizeLine/\Q xs
def YG {K:AAB}{B:C5}{T:ki->Prop}{H:Hp}{d:L2.St}{τ:BE}{p:ki}{vs:kn V}{xs:kn PV}(f:SR K B T H d τ)(g:H p=none)(r:A3 K T (mt B d τ) H vs xs):DB T H T (upd H p (.lst vs))/\SR K (B.add p) T (upd H p (.lst vs)) d τ/\¬T p/\A3 K T (mt (B.add p) d τ) (upd H p (.lst vs)) vs xs:=by
 have l:=DB.lay (o:= .lst vs) f.tp g;have h:¬T p:=λz=>by obtain⟨o,e,_⟩:=(f.tp p z).mut;rw[g] at e;cases e
 refine⟨l,f.add l g Aj MH.lst h,h,r.mv ⟨f.va,λb o t _ e=>l.keep b o t e,l.sub,λb n t=>t,λb n z=> ?_⟩⟩;rcases z with(z|z)|z
 .exact .inl z
 .subst z;exact absurd g n
 .exact .inr z
def Bl {r:AA}(h:SA X es r):SF X (.List es pos) (EA r):=by obtain⟨t,p,s⟩:=h;refine⟨_,dO p,λB T j τ H Q o f h k=>s B T j τ H _ _ f h λvs xs T1 H1 d g h1=>⟨by rw[g.length];exact h1.1,λq i=> ?_⟩⟩;obtain⟨l,e,m,n⟩:=YG (f.stp d) i g;exact k q vs xs T1 _ (d.trans l) e (d.none i) Aj m n h1.2
def IL (r:AA):AE:=λτ Q=>r τ λxs=>Q (.lst xs)
def eF {t:TE}{r:AA}(s:fz X.K t r):MJ X.K t (IL r):=λB T g τ H Q v d h k=>s B T g τ H _ _ d h λp vs xs T1 H1 j f i hp l n h1=>by
 have u:¬CG g τ p:=λo=>by obtain⟨_,e,_⟩:=d.ownH o;rw[i] at e;cases e
 have hb:¬B.M p:=λo=>by obtain⟨_,e,_⟩:=d.bm p o;rw[i] at e;cases e
 exact k _ _ T1 H1 j (.lst hp l (λz=>z.elim hb u) (n.mv (.anti f.va λa m=>m.elim (λz=> .inl (.inl z)) .inr))) h1
def EO {r:AA}(h:SF X a r):SE X a (IL r):=let ⟨_,p,s⟩:=h;⟨_,p,eF s⟩
def CH (K:AAB)(n:Nat)(F:AF):Sp:=λvs H Q _=>∃(T M:ki->Prop) (xs:kn PV) (e:PV->Prop),KO T M H/\(∀a,M a->¬T a)/\A3 K T M H vs xs/\xs.length=n/\F xs e/\
 ∀v x f d,DB T H f d->Ck K f M d v x->e x->Q v d
def AN (n:Nat)(F:AF)(r:AA):AE:=λτ Q=>r τ λxs=>xs.length=n/\F xs Q
def AK {x:Str}{p:Pos}{e:ke}{k n:Nat}{ps:kn Str}{F:AF}{r:AA}(D:Has X.prog X.w X.K X.mg X.base k x ps (CH X.K n F))(g:Room k X.A)(i:Gl X x)(ha:SA X (e::es) r)(hs:starEach (e::es) X.env=(false,eval e X.env)::starEach es X.env:=by rfl)(hpl:(backTo pos (starEach es X.env)).any (·.1)=false:=by rfl)(hd:(x==("__debug__" :Str))=false:=by decide):SE X (.Call (.Name x p) (e::es) [] pos) (AN n F r):=by obtain⟨t,j,s⟩:=ha;refine⟨_,nL D g i j hs hpl hd,λB T l τ H Q o d h k=>s B T l τ H _ _ d h λvs xs T1 H1 f u h1=> ?_⟩;rw[AC2];exact⟨T1,_,xs,o,(d.stp f).va,λa m=>(d.stp f).nt m,u,h1.1,h1.2,λv x y z C E q=>k v x y z (f.trans C) E q⟩
def HI (f:AF)(r:AA):AE:=λτ Q=>r τ λxs=>f xs Q
def eD {d:kn V->Hp->VK->Prop}{f:AF}{t:TA}{r:AA}(i:Ee X.K d f)(s:kW X.K t r):MJ X.K (vz d t) (HI f r):=λB T j τ H Q l e h k=>s B T j τ H _ _ e h λvs xs T1 H1 g m h1=>
 i T1 _ H1 vs xs Q l (e.stp g).va m h1 λw z n o p u q=>k w z n o (g.trans p) u q
def BP {id:String}{x:Str}{p:Pos}{e:ke}{d:kn V->Hp->VK->Prop}{f:AF}{r:AA}(hc:B3 X (.builtin id) d/\Ee X.K d f)(g:Gl X x)(h:X.mg x=none)(hv:bootBuiltins x=some (.builtin id))(ha:SA X (e::es) r)(i:x≠"__name__" :=by decide)(hdb:(x==("__debug__" :Str))=false:=by decide)(he:starEach (e::es) X.env=(false,eval e X.env)::starEach es X.env:=by rfl)(hpl:(backTo pos (starEach es X.env)).any (·.1)=false:=by rfl):SE X (.Call (.Name x p) (e::es) [] pos) (HI f r):=by obtain⟨t,j,s⟩:=ha;exact⟨_,Gs hc.1 g h hv j i hdb he hpl,eD hc.2 s⟩
def Bt {T:String}{x:Str}{p:Pos}{e:ke}{d:kn V->Hp->VK->Prop}{f:AF}{r:AA}(hc:B3 X (.type T) d/\Ee X.K d f)(g:Gl X x)(h:X.mg x=none)(hv:bootBuiltins x=some (.type T))(ha:SA X (e::es) r)(i:x≠"__name__" :=by decide)(hdb:(x==("__debug__" :Str))=false:=by decide)(he:starEach (e::es) X.env=(false,eval e X.env)::starEach es X.env:=by rfl)(hpl:(backTo pos (starEach es X.env)).any (·.1)=false:=by rfl):SE X (.Call (.Name x p) (e::es) [] pos) (HI f r):=by obtain⟨t,j,s⟩:=ha;exact⟨_,FW hc.1 g h hv j i hdb he hpl,eD hc.2 s⟩
end
section
variable {X:Cx}
def Dp {K:AAB}{T M:ki->Prop}{H:Hp}{v:V}{xs:kn PV}(r:Ck K T M H v (.tup xs)):∃a vs,v= .ref a/\Kx K H a vs/\A3 K T M H vs xs:=by
 cases r with
 | tup h r=>exact⟨_,_,rfl,h.sq,r⟩
def oV {K:AAB}{T M:ki->Prop}{H:Hp}{v:V}{xs:kn PV}(r:Ck K T M H v (.tup xs)):∃a vs,v= .ref a/\tV K H a vs/\A3 K T M H vs xs:=by
 cases r with
 | tup h r=>exact⟨_,_,rfl,h,r⟩
def Dx {K:AAB}{T M:ki->Prop}{H:Hp}{v:V}{xs:kn PV}(r:Ck K T M H v (.lst xs)):∃a vs,v= .ref a/\H a=some (.lst vs)/\¬T a/\¬M a/\A3 K T M H vs xs:=by
 cases r with
 | lst h t m r=>exact⟨_,_,rfl,h,t,m,r⟩
def d6 {K:AAB}{T M:ki->Prop}{H:Hp}{v:V}{ns:kn Int}(r:Ck K T M H v (.scr ns)):∃a,v= .ref a/\Et K H a (ns.map V.int):=by
 cases r with
 | scr h=>
   rcases h with⟨h,_,_⟩|h
   .exact ⟨_,rfl, .inl h⟩
   .exact ⟨_,rfl,h H⟩
def MM:AF:=λxs Q=>match xs with | [.tup ys] =>Q (.int ys.length) | [.lst ys] =>Q (.int ys.length) | [.scr ns] =>Q (.int ns.length)|_=>False
def sB (K:AAB):kn V->Hp->VK->Prop:=λxs H Q=>∃p ys,xs= [.ref p] /\(Et K H p ys\/Kx K H p ys)/\Q (.int ys.length) H
def ON:B3 X (.builtin "len") (sB X.K)/\Ee X.K (sB X.K) MM:=by
 refine⟨Jk,λT M H c xs Q d va r h k=> ?_⟩;unfold MM at h;split at h <;> first | exact h.elim|skip
 .rename_i ys;cases r with | cons r t=>cases t;obtain⟨a,vs,rfl,b,r⟩:=Dp r;refine⟨a,vs,rfl, .inr b, ?_⟩;rw[r.length];exact k _ _ T H (.refl va.tp) (.int _) h
 .rename_i ys;cases r with | cons r t=>cases t;obtain⟨a,vs,rfl,b,_,_,r⟩:=Dx r;refine⟨a,vs,rfl, .inl (.inl (.inl b)), ?_⟩;rw[r.length];exact k _ _ T H (.refl va.tp) (.int _) h
 .rename_i ns;cases r with | cons r t=>cases t;obtain⟨a,rfl,b⟩:=d6 r;refine⟨a,_,rfl, .inl b, ?_⟩;rw[AAK];exact k _ _ T H (.refl va.tp) (.int _) h
def Zb:AF:=λxs Q=>match xs with | [.int i] =>Q (.int i.natAbs)|_=>False
def Sw:B3 X (.builtin "abs") (λxs H Q=>∃i,xs= [.int i] /\Q (.int (if i<0 then -i else i)) H)/\Ee X.K (λxs H Q=>∃i,xs= [.int i] /\Q (.int (if i<0 then -i else i)) H) Zb:=by
 refine⟨NY,λT M H a xs Q b va r h k=> ?_⟩;unfold Zb at h;split at h <;> first | exact h.elim|skip
 rename_i i;cases r with
 | cons r t=> cases t;cases r;refine⟨i,rfl, ?_⟩;rw[show (if i<0 then -i else i)=(i.natAbs:Int) by split <;> omega];exact k _ _ T H (.refl va.tp) (.int _) h
def qU (g:Int->Int->Int):AF:=λxs Q=>match xs with | [.int i, .int j] =>Q (.int (g i j))|_=>False
def oS {g g':Int->Int->Int}(a:∀i j,g i j=g' i j):Ee X.K (λxs H Q=>∃i j,xs= [.int i, .int j] /\Q (.int (g i j)) H) (qU g'):=by
 intro T M H c xs Q d va r h k;unfold qU at h;split at h <;> first | exact h.elim|skip
 rename_i i j;cases r with
 | cons r t=>
   cases t with
   | cons b t=> cases t;cases r;cases b;refine⟨i,j,rfl, ?_⟩;rw[a];exact k _ _ T H (.refl va.tp) (.int _) h
def oF (hc:X.calm=true):B3 X (.builtin "max") (λxs H Q=>∃i j,xs= [.int i, .int j] /\Q (.int (if j>i then j else i)) H)/\Ee X.K (λxs H Q=>∃i j,xs= [.int i, .int j] /\Q (.int (if j>i then j else i)) H) (qU max):=
 ⟨ZM hc,oS λi j=>by split <;> omega⟩
def lU:AF:=λxs Q=>match xs with | [.int i] =>Q (.int i) | [.bl k] =>Q (.int (if k then 1 else 0))|_=>False
def oE:B3 X (.type "int") (λxs H Q=>(∃i,xs= [.int i] /\Q (.int i) H)\/∃k,xs= [.bl k] /\Q (.int (if k then 1 else 0)) H)/\Ee X.K (λxs H Q=>(∃i,xs= [.int i] /\Q (.int i) H)\/∃k,xs= [.bl k] /\Q (.int (if k then 1 else 0)) H) lU:=by
 refine⟨QD,λT M H a xs Q b va r h k=> ?_⟩;unfold lU at h;split at h <;> first | exact h.elim|skip
 .cases r with | cons r t=>cases t;cases r;exact .inl ⟨_,rfl,k _ _ T H (.refl va.tp) (.int _) h⟩
 .cases r with | cons r t=>cases t;cases r;exact .inr ⟨_,rfl,k _ _ T H (.refl va.tp) (.int _) h⟩
def Di:AF:=λxs Q=>match xs with | [.tup ys] =>Q (.tup ys) | [.lst ys] =>Q (.tup ys)|_=>False
def di (K:AAB):kn V->Hp->VK->Prop:=λxs H Q=>∃p ys,xs= [.ref p] /\((Et K H p ys/\∀l,H l=none->Q (.ref l) (upd H l (.tup ys)))\/(Kx K H p ys/\Q (.ref p) H))
def Cu:B3 X (.type "tuple") (di X.K)/\Ee X.K (di X.K) Di:=by
 refine⟨PF,λT M H d xs Q e va r h k=> ?_⟩;unfold Di at h;split at h <;> first | exact h.elim|skip
 .cases r with | cons r t=>cases t;obtain⟨a,vs,rfl,b,c⟩:=oV r;exact⟨a,vs,rfl, .inr ⟨b.sq,k _ _ T H (.refl va.tp) (.tup b c) h⟩⟩
 .cases r with
  | cons r t=> cases t;obtain⟨a,vs,rfl,b,_,_,c⟩:=Dx r;refine⟨a,vs,rfl, .inl ⟨.inl (.inl b),λl hl=> ?_⟩⟩;have s:=DB.lay (o:= .tup vs) va.tp hl;exact k _ _ T _ s (.tup (.inl Aj) (c.stp s va)) h
def Xw (xs:kn PV)(Q:kn PV->Prop):Prop:=match xs with | [.tup ys] =>Q ys | [.lst ys] =>Q ys|_=>False
def bO (r:AA):AA:=λτ Q=>r τ λxs=>Xw xs Q
def i6 {x:Str}{p pos:Pos}{e:ke}{es:kn ke}{r:AA}(n:Gl X x)(o:X.mg x=none)(hv:bootBuiltins x=some (.type "list"))(ha:SA X (e::es) r)(u:x≠"__name__" :=by decide)(hdb:(x==("__debug__" :Str))=false:=by decide)(he:starEach (e::es) X.env=(false,eval e X.env)::starEach es X.env:=by rfl)(hpl:(backTo pos (starEach es X.env)).any (·.1)=false:=by rfl):SF X (.Call (.Name x p) (e::es) [] pos) (bO r):=by
 obtain⟨t,v,s⟩:=ha;refine⟨_,FW RK n o hv v u hdb he hpl,λB T i τ H Q w j h k=>s B T i τ H _ _ j h λvs xs T1 H1 c m h1=> ?_⟩;have go:∀(b:kn V) (ys:kn PV),A3 X.K T1 (mt B i τ) H1 b ys->w ys->∀l,H1 l=none->Q (.ref l) (upd H1 l (.lst b)):=λb ys y q l hl=>by obtain⟨z,d,A,C⟩:=YG (j.stp c) hl y;exact k l b ys T1 _ (c.trans z) d (c.none hl) Aj A C q
 unfold Xw at h1;split at h1 <;> first | exact h1.elim|skip
 .cases m with | cons r t=>cases t;obtain⟨a,b,rfl,f,g⟩:=Dp r;exact⟨a,b,rfl, .inr f,go b _ g h1⟩
 .cases m with | cons r t=>cases t;obtain⟨a,b,rfl,f,_,_,g⟩:=Dx r;exact⟨a,b,rfl, .inl (.inl (.inl f)),go b _ g h1⟩
def kdOf:PV->kf Kd
 | .non=>some .non | .bl _=>some .bl | .int _=>some .int | .str _=>some .str | .tup _=>some .tup | .lst _=>some .lst | .tape=>none | .scr _=>none | .ty _=>none | .dct _=>none | .dk _=>none
def WF:AF:=λxs Q=>match xs with | [x, .ty T] =>cW T/\(match kdOf x with | some k=>Q (.bl (Rk k T))|none=>False)|_=>False
def Sx:B3 X (.builtin "isinstance") (nj X.K)/\Ee X.K (nj X.K) WF:=by
 refine⟨bf,λT M H e xs Q f va r h k=> ?_⟩;unfold WF at h;split at h <;> first | exact h.elim|skip
 rename_i x ty;obtain⟨a,h⟩:=h;cases r with
 | cons r t=>
   cases t with
   | cons d t=>
     cases t;cases d;cases r with
     | non=>exact⟨_,_, .non,rfl,a,rfl,k _ _ T H (.refl va.tp) (.bl _) h⟩
     | bl b=>exact⟨_,_, .bl,rfl,a,⟨_,rfl⟩,k _ _ T H (.refl va.tp) (.bl _) h⟩
     | int b=>exact⟨_,_, .int,rfl,a,⟨_,rfl⟩,k _ _ T H (.refl va.tp) (.bl _) h⟩
     | str b=>exact⟨_,_, .str,rfl,a,⟨_,rfl⟩,k _ _ T H (.refl va.tp) (.bl _) h⟩
     | ty b=>exact h.elim
     | tup c _=>exact⟨_,_, .tup,rfl,a,⟨_,_,rfl,c.sq⟩,k _ _ T H (.refl va.tp) (.bl _) h⟩
     | lst c _ _ _=>exact⟨_,_, .lst,rfl,a,⟨_,_,rfl, .inl (.inl c)⟩,k _ _ T H (.refl va.tp) (.bl _) h⟩
     | tape _=>exact h.elim
     | scr _=>exact h.elim
     | dct _ _ _=>exact h.elim
     | dk _ _=>exact h.elim
def Ji:kn PV->kf (kn kd)
 | [] =>some []
 | .bl b::r=>(Ji r).map (b :: ·)
 | _=>none
theorem Xh {K:AAB}{T M:ki->Prop}{H:Hp}:∀{vs:kn V} {xs:kn PV} {bs:kn kd},A3 K T M H vs xs->Ji xs=some bs->vs=bs.map V.bl
 | _,_,_, .nil,e=>by simp[Ji] at e;subst e;rfl
 | _,_,bs, .cons h t,e=>by cases h <;> simp[Ji] at e;obtain⟨c,a,b⟩:=e;subst b;simp[Xh t a]
def WE (g:kn kd->kd):AF:=λxs Q=>match xs with | [.lst ys] =>(match Ji ys with | some bs=>Q (.bl (g bs))|none=>False)|_=>False
def Yd {g:kn kd->kd}:Ee X.K (W0 X.K g) (WE g):=by
 intro T M H d xs Q f va r h k;unfold WE at h;split at h <;> first | exact h.elim|skip
 split at h <;> first | exact h.elim|skip
 rename_i bs e;cases r with
 | cons r t=> cases t;obtain⟨a,i,rfl,b,_,_,c⟩:=Dx r;have:=Xh c e;subst this;exact⟨a,bs,rfl, .inl (.inl b),k _ _ T H (.refl va.tp) (.bl _) h⟩
def oC (hc:X.calm=true):B3 X (.builtin "all") (W0 X.K λbs=>bs.all id)/\Ee X.K (W0 X.K λbs=>bs.all id) (WE λbs=>bs.all id):=⟨ZJ hc,Yd⟩
def oD (hc:X.calm=true):B3 X (.builtin "any") (W0 X.K λbs=>bs.any id)/\Ee X.K (W0 X.K λbs=>bs.any id) (WE λbs=>bs.any id):=⟨ZK hc,Yd⟩
def d4:PV->PV->kf kd
 | .non, .non=>some true | .non, .int _=>some false | .int _, .non=>some false | .non, .bl _=>some false | .bl _, .non=>some false | .non, .str _=>some false | .str _, .non=>some false
 | .int i, .int j=>some (decide (i=j)) | .bl i, .bl j=>some (decide (i=j)) | .str i, .str j=>some (decide (i=j))
 | .int _, .str _=>some false | .str _, .int _=>some false | .bl _, .str _=>some false | .str _, .bl _=>some false
 | _,_=>none
def VI {K:AAB}{T M:ki->Prop}{H:Hp}{u v:V}{x y:PV}{b:kd}(r:Ck K T M H u x)(a:Ck K T M H v y)(e:d4 x y=some b):oG u v=true/\decide (u=v)=b:=by cases r <;> cases a <;> first | (cases e;done)|(cases e;exact⟨rfl,rfl⟩)|(cases e;exact⟨rfl,by simp⟩)
def VR:PV->kf kd
 | .non=>some false | .bl b=>some b | .int i=>some (i != 0) | .tup xs=>some (!xs.isEmpty) | .lst xs=>some (!xs.isEmpty)|_=>none
def gG (a:AE):AT:=λτ Q=>a τ λx=>match VR x with | some b=>Q b|none=>False
def EN {K:AAB}{T M:ki->Prop}{H:Hp}{vs:kn V}{xs:kn PV}(r:A3 K T M H vs xs):vs.isEmpty=xs.isEmpty:=by cases r <;> rfl
def eS {a:ke}{f:AE}(ha:SE X a f)(he:∀whole,isTrue a X.env whole=(do let v <-whole;standAt a.pos;holding [v] (truthy v)):=by intro _;rfl):Vp X a (gG f):=by
 obtain⟨t,p,s⟩:=ha;refine⟨_,db p he,λB T g τ H Q m i h k=>s B T g τ H _ _ i h λv x T1 H1 j l h1=> ?_⟩;cases e:VR x with
 | none=>rw[e] at h1;exact h1.elim
 | some b=>
   rw[e] at h1;refine⟨b, ?_,k b T1 H1 j h1⟩;cases l <;> simp[VR] at e
   .exact e
   .exact e.symm
   .exact e.symm
   .rename_i c d;exact .inr (.inl ⟨_,c.sq,by rw[EN d,e];simp⟩)
   .rename_i c _ _ d;exact .inl ⟨_, .inl (.inl c),by rw[EN d,e];simp⟩
end
structure JG where
 nx:BE->Prop
 rt:PV->Prop
 bk:BE->Prop
 ct:BE->Prop
abbrev AS:=JG->BE->Prop
structure E7 (T:Addr->Prop) (H:Hp) (σ:L2.St) (τ:BE) (T':Addr->Prop) (H':Hp) (σ':L2.St) (τ':BE):Prop where
 keep:∀b o,¬T b->¬CG σ τ b->H b=some o->H' b=some o
 sub:∀b,T b->T' b
 new:∀b,T' b->T b\/H b=none
 own:∀b,CG σ' τ' b->CG σ τ b\/H b=none
 some:∀b,H b≠none->H' b≠none
section
variable {K:AAB}{B:C5}{T T' T1 T2:ki->Prop}{H H' H1 H2:Hp}{σ σ' σ1 σ2:L2.St}{τ τ' τ1 τ2:BE}
def E7.refl:E7 T H σ τ T H σ τ:=⟨λ_ _ _ _ e=>e,λ_ t=>t,λ_ t=> .inl t,λ_ o=> .inl o,λ_ h=>h⟩
def E7.trans (a:E7 T H σ τ T1 H1 σ1 τ1)(b:E7 T1 H1 σ1 τ1 T2 H2 σ2 τ2):E7 T H σ τ T2 H2 σ2 τ2 where
 keep:=λc o t w e=>b.keep c o (λz=>(a.new c z).elim t λn=>by rw[n] at e;cases e) (λz=>(a.own c z).elim w λn=>by rw[n] at e;cases e) (a.keep c o t w e)
 sub:=λc t=>b.sub c (a.sub c t)
 new:=λc t=>(b.new c t).elim (λz=>a.new c z) λz=> .inr (by
  cases e:H c with
  | none=>rfl
  | some o=>exact absurd z (a.some c (by rw[e];exact λe=>nomatch e)))
 own:=λc t=>(b.own c t).elim (λz=>a.own c z) λz=> .inr (by
  cases e:H c with
  | none=>rfl
  | some o=>exact absurd z (a.some c (by rw[e];exact λe=>nomatch e)))
 some:=λc h=>b.some c (a.some c h)
def DB.prog (s:DB T H T' H'):E7 T H σ τ T' H' σ τ:=⟨λb o t _ e=>s.keep b o t e,s.sub,s.new,λ_ o=> .inl o,λ_ h=>s.some h⟩
def E7.less (h:∀b,CG σ' τ' b->CG σ τ b):E7 T H σ τ T H σ' τ':=⟨λ_ _ _ _ e=>e,λ_ t=>t,λ_ t=> .inl t,λb o=> .inl (h b o),λ_ h=>h⟩
structure ER (K:AAB) (B:C5) (T:Addr->Prop) (H:Hp) (σ:L2.St) (τ:BE) (D:RB) (AD:JG):Prop where
 nx:∀T' H' σ' τ',E7 T H σ τ T' H' σ' τ'->SR K B T' H' σ' τ'->AD.nx τ'->D.nx σ' H'
 bk:∀T' H' σ' τ',E7 T H σ τ T' H' σ' τ'->SR K B T' H' σ' τ'->AD.bk τ'->D.bk σ' H'
 ct:∀T' H' σ' τ',E7 T H σ τ T' H' σ' τ'->SR K B T' H' σ' τ'->AD.ct τ'->D.ct σ' H'
 rt:∀v x T' H',DB B.T B.H T' H'->Ck K T' B.M H' v x->AD.rt x->D.rt v H'
def ER.shift {D:RB}{a:JG}(e:ER K B T H σ τ D a)(p:E7 T H σ τ T1 H1 σ1 τ1):ER K B T1 H1 σ1 τ1 D a:=
 ⟨λ_ _ _ _ q=>e.nx _ _ _ _ (p.trans q),λ_ _ _ _ q=>e.bk _ _ _ _ (p.trans q),λ_ _ _ _ q=>e.ct _ _ _ _ (p.trans q),e.rt⟩
end
def bJ (K:AAB)(t:TS)(a:AS):Prop:=∀(B:C5) (T:ki->Prop) (b:L2.St) (τ:BE) (H:Hp) (D:RB) (c:JG),SR K B T H b τ->a c τ->ER K B T H b τ D c->t D b H
def SS (X:Cx)(st:Stmt)(a:AS):Prop:=∃t,PS X st t/\bJ X.K t a
def ZA (X:Cx)(st:kn Stmt)(a:AS):Prop:=∃t,Th X st t/\bJ X.K t a
def A7 {a:Type}{l:kn a}{i j:Nat}{x y:a}(h:(l.set i x)[j]? =some y):(j=i/\y=x/\i<l.length)\/(j≠i/\l[j]? =some y):=by
 by_cases e:j=i
 .subst e;rw[ADD] at h;simp at h;obtain⟨h1,h2⟩:=h;exact .inl ⟨rfl,h2.symm,h1⟩
 .rw [AAf (λz=>e z.symm)] at h;exact .inr ⟨e,h⟩
section
variable {K:AAB}{B:C5}{T:ki->Prop}{H:Hp}{σ:L2.St}{τ:BE}
def Cs {i:Nat}{v:V}{x:PV}{b:ki}(h:CG (σ.set i (some v)) (τ.set i (some (.val x))) b):CG σ τ b:=by
 obtain⟨j,xs,h1,h2⟩:=h;rcases A7 h1 with⟨_,e,_⟩|⟨n,a⟩
 .cases e
 .rw [AAf (λz=>n z.symm)] at h2;exact⟨j,xs,a,h2⟩
def SR.set {i:Nat}{v:V}{x:PV}(s:SR K B T H σ τ)(r:Ck K T (mt B σ τ) H v x):SR K B T H (σ.set i (some v)) (τ.set i (some (.val x))):=by
 have c:Mv K T (mt B σ τ) H T (mt B (σ.set i (some v)) (τ.set i (some (.val x)))) H:= .anti s.va λa m=>m.elim .inl λz=> .inr (Cs z);refine⟨by simp[s.len],λj y e=> ?_,λj ys e=> ?_,λj k ys o p t u h l=> ?_,s.tp,s.bm,s.bt,s.st⟩
 .rcases A7 e with⟨rfl,b,hl⟩|⟨n,b⟩
  .cases b;refine⟨v,by rw[ADD];simp[s.len,hl],r.mv c⟩
  .obtain ⟨w,hw,d⟩:=s.val j y b;exact⟨w,by rw[AAf (λz=>n z.symm)];exact hw,d.mv c⟩
 .rcases A7 e with⟨_,b,_⟩|⟨n,b⟩
  .cases b
  .obtain ⟨p,vs,h1,h2,h3,A⟩:=s.own j ys b;exact⟨p,vs,by rw[AAf (λz=>n z.symm)];exact h1,h2,h3.mv c,A⟩
 .rcases A7 t with⟨_,b,_⟩|⟨n,f⟩
  .cases b
  .rcases A7 u with⟨_,b,_⟩|⟨C,g⟩
   .cases b
   .rw [AAf (λz=>n z.symm)] at h;rw[AAf (λz=>C z.symm)] at l;exact s.dist j k ys o p f g h l
def Ll {i:Nat}{p:ki}{xs:kn PV}{b:ki}(h:CG (σ.set i (some (.ref p))) (τ.set i (some (.own xs))) b):CG σ τ b\/b=p:=by
 obtain⟨j,ys,h1,h2⟩:=h;rcases A7 h1 with⟨rfl,e,_⟩|⟨n,a⟩
 .rcases A7 h2 with⟨_,c,_⟩|⟨n,_⟩
  .cases c;exact .inr rfl
  .exact absurd rfl n
 .rw [AAf (λz=>n z.symm)] at h2;exact .inl ⟨j,ys,a,h2⟩
def SR.take {i:Nat}{p:ki}{vs:kn V}{xs:kn PV}(s:SR K (B.add p) T H σ τ)(hp:H p=some (.lst vs))(C:¬T p)(u:¬CG σ τ p)(D:¬B.M p)(E:B.H p=none)(r:A3 K T (mt (B.add p) σ τ) H vs xs):SR K B T H (σ.set i (some (.ref p))) (τ.set i (some (.own xs))):=by
 have h:Mv K T (mt (B.add p) σ τ) H T (mt B (σ.set i (some (.ref p))) (τ.set i (some (.own xs)))) H:= .anti s.va λa m=>by
  rcases m with m|m
  .exact .inl (.inl m)
  .rcases Ll m with z|z
   .exact .inr z
   .exact .inl (.inr z)
 refine⟨by simp[s.len],λj y e=> ?_,λj ys e=> ?_,λj k ys v q F x g d=> ?_,s.tp,λa m=>s.bm a (.inl m),λa m=>s.bt a (.inl m),s.st⟩
 .rcases A7 e with⟨_,b,_⟩|⟨n,b⟩
  .cases b
  .obtain ⟨w,hw,l⟩:=s.val j y b;exact⟨w,by rw[AAf (λz=>n z.symm)];exact hw,l.mv h⟩
 .rcases A7 e with⟨rfl,b,hl⟩|⟨n,b⟩
  .cases b;exact⟨p,vs,by rw[ADD];simp[s.len,hl],hp,r.mv h,E,C,D⟩
  .obtain ⟨q,G,h1,h2,h3,I,J,L⟩:=s.own j ys b;exact⟨q,G,by rw[AAf (λz=>n z.symm)];exact h1,h2,h3.mv h,I,J,λz=>L (.inl z)⟩
 .rcases A7 F with⟨A,_,_⟩|⟨n,f⟩
  .rcases A7 x with⟨o,_,_⟩|⟨t,c⟩
   .rw [A,o]
   .subst A;rw[AAf (λz=>t z.symm)] at d;rcases A7 g with⟨_,b,_⟩|⟨n,_⟩
    .cases b;exact absurd ⟨k,v,c,d⟩ u
    .exact absurd rfl n
  .rw [AAf (λz=>n z.symm)] at g;rcases A7 x with⟨o,_,_⟩|⟨t,c⟩
   .subst o;rcases A7 d with⟨_,b,_⟩|⟨n,_⟩
    .cases b;exact absurd ⟨j,ys,f,g⟩ u
    .exact absurd rfl n
   .rw [AAf (λz=>t z.symm)] at d;exact s.dist j k ys v q f c g d
def SR.write {i:Nat}{p:ki}{M vs:kn V}{xs ys:kn PV}(s:SR K B T H σ τ)(g:τ[i]? =some (some (.own xs)))(hs:σ[i]? =some (some (.ref p)))(hp:H p=some (.lst M))(r:A3 K T (mt B σ τ) H vs ys):SR K B T (upd H p (.lst vs)) σ (τ.set i (some (.own ys)))/\E7 T H σ τ T (upd H p (.lst vs)) σ (τ.set i (some (.own ys))):=by
 obtain⟨R,N,G,S,U,I,D,J⟩:=s.own i xs g;rw[hs] at G;cases G;have W:σ.set i (some (.ref p))=σ:=by
  apply List.ext_getElem?;intro k;by_cases hk:i=k
  .subst hk;rw[ADD,hs];simp[(AA3.mp hs).1]
  .rw [AAf hk]
 have l:CG σ τ p:=⟨i,xs,g,hs⟩;have L:∀b,CG σ (τ.set i (some (.own ys))) b->CG σ τ b:=λb h=>by
  obtain⟨j,f,h1,h2⟩:=h;rcases A7 h1 with⟨rfl,e,_⟩|⟨n,A⟩
  .exact ⟨j,xs,g,h2⟩
  .exact ⟨j,f,A,h2⟩
 have E:Mv K T (mt B σ τ) H T (mt B σ (τ.set i (some (.own ys)))) (upd H p (.lst vs)):=⟨s.va,λb o _ m e=>by
  rw[Ai (λz=>m (by subst z;exact .inr l))];exact e,λ_ t=>t,λ_ _ t=>t,λb _ m=>m.elim .inl λz=> .inr (L b z)⟩
 refine⟨⟨by simp[s.len],λj y e=> ?_,λj f e=> ?_,λj k f C q h1 h2 h3 u=> ?_,λa t=> ?_,λa m=> ?_,s.bt, ?_⟩,⟨λb o t w e=>by rw[Ai (λz=>w (by subst z;exact l))];exact e,λ_ t=>t,λ_ t=> .inl t,λb o=> .inl (L b o),λb h=> ?_⟩⟩
 .rcases A7 e with⟨_,c,_⟩|⟨n,c⟩
  .cases c
  .obtain ⟨v,h,O⟩:=s.val j y c;exact⟨v,h,O.mv E⟩
 .rcases A7 e with⟨rfl,c,_⟩|⟨n,c⟩
  .cases c;exact⟨p,vs,hs,Aj,r.mv E,I,D,J⟩
  .obtain ⟨q,C,h1,h2,h3,u⟩:=s.own j f c;have P:q≠p:=λz=>by subst z;exact n (s.dist j i f xs q c g h1 hs)
   exact⟨q,C,h1,by rw[Ai P];exact h2,h3.mv E,u⟩
 .rcases A7 h1 with⟨rfl,_,_⟩|⟨n,A⟩
  .rcases A7 h2 with⟨rfl,_,_⟩|⟨Q,F⟩
   .rfl
   .exact s.dist _ k xs C q g F h3 u
  .rcases A7 h2 with⟨rfl,_,_⟩|⟨Q,F⟩
   .exact s.dist j _ f xs q A g h3 u
   .exact s.dist j k f C q A F h3 u
 .obtain ⟨d,x,e,z⟩:=s.tp a t;exact⟨d,x,by rw[Ai (λw=>by subst w;exact D t)];exact e,z⟩
 .obtain ⟨o,e,z⟩:=s.bm a m;exact⟨o,by rw[Ai (λw=>by subst w;exact J m)];exact e,z⟩
 .refine ⟨λb o t e=> ?_,s.st.sub,s.st.new,λa t=> ?_⟩
  .rw [Ai (λw=>by subst w;rw[I] at e;cases e)];exact s.st.keep b o t e
  .obtain ⟨d,x,e,z⟩:=s.tp a t;exact⟨d,x,by rw[Ai (λw=>by subst w;exact D t)];exact e,z⟩
 .by_cases z:b=p
  .subst z;rw[Aj];exact λe=>nomatch e
  .rw [Ai z];exact h
end
section
variable {X:Cx}{st:Stmt}{rest:kn Stmt}{e:ke}{pos:Pos}{a b:AS}{ta:AE}
def gC (ta:AE):AE:=λτ Q=>ta (frz τ) λx=>c5 x=true/\Q x
def oH (h:SE X e ta):SE X e (gC ta):=by obtain⟨t,p,s⟩:=h;refine⟨t,p,λB T c τ H Q i d h k=>s B T c (frz τ) H _ _ d.frz h λv x T1 H1 f g h1=> ?_⟩;exact k v x T1 H1 f (g.free h1.1) h1.2
def BO:AS:=λD τ=>D.nx τ
def Ae (a b:AS):AS:=λD τ=>a {D with nx:=b D} τ
def BA:ZA X [] BO:=⟨_,SV,λB T c τ H D g d h f=>f.nx T H c τ .refl d h⟩
def AL (h1:SS X st a)(h2:ZA X rest b):ZA X (st::rest) (Ae a b):=by obtain⟨t,p,s⟩:=h1;obtain⟨t',f,g⟩:=h2;exact⟨_,Ct p f,λB T i τ H D j k h c=>s B T i τ H _ _ k h ⟨λl m σ' τ' q d h'=>g B l σ' τ' m D j d h' (c.shift q),c.bk,c.ct,c.rt⟩⟩
def AR (h1:SS X st a):ZA X [st] a:=let ⟨_,p,s⟩:=h1;⟨_,HS p,s⟩
def As (ta:AE):AS:=λD τ=>ta (frz τ) D.rt
def Ab (h:SE X e ta):SS X (.Return (some e) pos) (As ta):=by obtain⟨t,p,s⟩:=h;refine⟨_,SU p,λB T f τ H D j c h g=>s B T f (frz τ) H _ _ c.frz h λv x T1 H1 d i h1=> ?_⟩;exact g.rt v x T1 H1 (c.st.trans d) (i.mv (.anti (c.frz.stp d).va λa m=> .inl m)) h1
def CA (c:AT)(a b:AS):AS:=λD τ=>c τ λk=>if k=true then a D τ else b D τ
def BQ {c:ke}{x y:kn Stmt}{l:AT}(hc:Vp X c l)(ha:ZA X x a)(hb:ZA X y b):SS X (.If c x y pos) (CA l a b):=by
 obtain⟨t,p,s⟩:=hc;obtain⟨u,o,f⟩:=ha;obtain⟨v,r,g⟩:=hb;refine⟨_,dY p o r,λB T i τ H D m j h n=>s B T i τ H _ _ j h λk T1 H1 d h1=> ?_⟩;cases k with
 | true=>rw[AAE rfl] at h1 ⊢;exact f B T1 i τ H1 D m (j.stp d) h1 (n.shift d.prog)
 | false=>rw[AAD AAc] at h1 ⊢;exact g B T1 i τ H1 D m (j.stp d) h1 (n.shift d.prog)
abbrev AG:=PV->BE->(BE->Prop)->Prop
abbrev Vb:=kn PV->BE->(BE->Prop)->Prop
def RH (K:AAB)(g:TG)(f:AG):Prop:=∀(B:C5) (T:ki->Prop) (c:L2.St) (τ:BE) (H:Hp) (v:V) (x:PV) (Q:L2.St->Hp->Prop) (d:BE->Prop),SR K B T H c τ->Ck K T (mt B c τ) H v x->f x τ d->
 (∀σ' τ',SR K B T H σ' τ'->(∀b,CG σ' τ' b->CG c τ b)->d τ'->Q σ' H)->g v c H Q
def P7 (K:AAB)(g:Vs)(f:Vb):Prop:=∀(B:C5) (T:ki->Prop) (c:L2.St) (τ:BE) (H:Hp) (vs:kn V) (xs:kn PV) (Q:L2.St->Hp->Prop) (d:BE->Prop),SR K B T H c τ->A3 K T (mt B c τ) H vs xs->f xs τ d->
 (∀σ' τ',SR K B T H σ' τ'->(∀b,CG σ' τ' b->CG c τ b)->d τ'->Q σ' H)->g vs c H Q
def SG (X:Cx)(c:ke)(d:AG):Prop:=∃g,PG X c g/\RH X.K g d
def tT (X:Cx)(c:kn ke)(d:Vb):Prop:=∃g,pK X c g/\P7 X.K g d
def An (i:Nat):AG:=λx τ Q=>Q (τ.set i (some (.val x)))
def S4 {K:AAB}{i:Nat}:RH K (DF i) (An i):=λB T d τ H v x Q f c r h k=>k _ _ (c.set r) (λb o=>Cs o) h
def Ya {i:Nat}{x:Str}(hN:X.N.Nodup)(hi:X.N[i]? =some x)(hx:Loc X.env.scope x)(c:X.fn x=true\/X.env.scope.names.lookup x=some .local:=by first | exact .inl rfl|exact .inr rfl|assumption):SG X (.Name x pos) (An i):=
 ⟨_,HR hN hi hx c,S4⟩
def Bf:Vb:=λxs τ Q=>match xs with | [] =>Q τ|_=>False
def Ag (g:AG)(r:Vb):Vb:=λxs τ Q=>match xs with | x::t=>g x τ λτ'=>r t τ' Q | [] =>False
def VJ {K:AAB}:P7 K RS Bf:=λB T c τ H vs xs Q f d r h k=>by
 cases r with
 | nil=>exact⟨rfl,k c τ d (λ_ o=>o) h⟩
 | cons _ _=>exact h.elim
def Qi {K:AAB}{g:TG}{p:Vs}{s:AG}{c:Vb}(h1:RH K g s)(h2:P7 K p c):P7 K (FU g p) (Ag s c):=λB T w τ H vs xs Q x u r h k=>by
 cases r with
 | nil=>exact h.elim
 | cons r t=> refine⟨_,_,rfl,h1 B T w τ H _ _ _ _ u r h λd f i v y=> ?_⟩;exact h2 B T d f H _ _ Q x i (t.mv (.anti u.va λa m=>m.elim .inl λz=> .inr (v a z))) y λj l n A C=>k j l n (λb o=>v b (A b o)) C
def BH:tT X [] Bf:=⟨_,Mi,VJ⟩
def Aa {es:kn ke}{d:AG}{c:Vb}(h1:SG X e d)(h2:tT X es c)(hs:(assignEach (e::es) X.env).map (·.2)=assign e X.env::(assignEach es X.env).map (·.2):=by rfl):tT X (e::es) (Ag d c):=
 let ⟨_,p,s⟩:=h1;let ⟨_,f,g⟩:=h2;⟨_,FX p f hs,Qi s g⟩
def Ao (ta:AE)(g:AG):AS:=λD τ=>ta τ λx=>g x τ D.nx
def S3 {K:AAB}{t:TE}{g:TG}{i:AG}(s:MJ K t ta)(m:RH K g i):bJ K (XG t g) (Ao ta i):=λB T j τ H D u k h n=>s B T j τ H _ _ k h λv x T1 H1 l o h1=>
 m B T1 j τ H1 v x _ _ (k.stp l) o h1 λc d f p r=>n.nx T1 H1 c d (l.prog.trans (.less p)) f r
def EF {c:ke}{d:AG}(he:SE X e ta)(f:SG X c d)(hs:swapsWithSole [c] e pos.line X.env=pure false:=by rfl)(hw:swappedStores [c] e X.env=pure none:=by rfl)(h1:(assignEach [c] X.env).map (·.2)= [assign c X.env] :=by rfl):SS X (.Assign [c] e pos) (Ao ta d):=
 let ⟨_,p,s⟩:=he;let ⟨_,g,h⟩:=f;⟨_,SQ p g hs hw h1,S3 s h⟩
def Oa {i:Nat}{x:Str}{pos':Pos}(hN:X.N.Nodup)(hi:X.N[i]? =some x)(hx:Loc X.env.scope x)(he:SE X e ta)(hs:swapsWith e (some (.Name x pos')) pos.line X.env=pure false:=by rfl)(c:X.fn x=true\/X.env.scope.names.lookup x=some .local:=by first | exact .inl rfl|exact .inr rfl|assumption):SS X (.Assign [.Name x pos'] e pos) (Ao ta (An i)):=let ⟨_,p,s⟩:=he;⟨_,Ih hN hi hx p hs c,S3 s S4⟩
def GK (r:AA)(i:Nat):AS:=λD τ=>r τ λxs=>D.nx (τ.set i (some (.own xs)))
def Ye {K:AAB}{t:TE}{r:AA}{i:Nat}(s:fz K t r):bJ K (XG t (DF i)) (GK r i):=λB T j τ H D v c h k=>s B T j τ H _ _ c h λp vs xs T1 H1 d g f hp l m h1=>by
 have n:¬CG j τ p:=λo=>by obtain⟨_,e,_⟩:=c.ownH o;rw[f] at e;cases e
 have u:¬B.M p:=λo=>by obtain⟨_,e,_⟩:=c.bm p o;rw[f] at e;cases e
 refine k.nx T1 H1 _ _ ⟨λb o t _ e=>d.keep b o t e,d.sub,d.new,λb o=> ?_,λb h=>d.some h⟩ (g.take hp l n u (c.st.none f) m) h1;rcases Ll o with z|z
 .exact .inl z
 .subst z;exact .inr f
def El {i:Nat}{x:Str}{pos':Pos}{r:AA}(hN:X.N.Nodup)(hi:X.N[i]? =some x)(hx:Loc X.env.scope x)(he:SF X e r)(hs:swapsWith e (some (.Name x pos')) pos.line X.env=pure false:=by rfl)(c:X.fn x=true\/X.env.scope.names.lookup x=some .local:=by first | exact .inl rfl|exact .inr rfl|assumption):SS X (.Assign [.Name x pos'] e pos) (GK r i):=let ⟨_,p,s⟩:=he;⟨_,Ih hN hi hx p hs c,Ye s⟩
def ML (i j:Nat)(r:AA):AS:=λD τ=>r τ λxs=>match xs with | [x,y] =>D.nx ((τ.set i (some (.val x))).set j (some (.val y)))|_=>False
def HA {i j:Nat}{x y:Str}{c d:ke}{r:AA}{g k l:Pos}{kt k2 pt2}(hc:X.calm=true)(hN:X.N.Nodup)(hi:X.N[i]? =some x)(hj:X.N[j]? =some y)(v:i≠j)(hx:X.env.scope.names.lookup x=some .local)(hy:X.env.scope.names.lookup y=some .local)(ha:SA X [c,d] r)(hw:swappedStores [.Tuple [.Name x g, .Name y k] kt l] (.Tuple [c,d] k2 pt2) X.env=pure (some [x,y]))(hs:swapsWithSole [.Tuple [.Name x g, .Name y k] kt l] (.Tuple [c,d] k2 pt2) pos.line X.env=pure false:=by rfl):SS X (.Assign [.Tuple [.Name x g, .Name y k] kt l] (.Tuple [c,d] k2 pt2) pos) (ML i j r):=by
 obtain⟨t,p,s⟩:=ha;refine⟨_,nW hc hN hi hj v hx hy p hw hs,λB T w τ H D G n h A=>s B T w τ H _ _ n h λvs xs T1 H1 u C h1=> ?_⟩;cases C with
 | nil=>exact h1.elim
 | cons ra ta=>
   cases ta with
   | nil=>exact h1.elim
   | cons E F=>
     cases F with
     | cons _ _=>exact h1.elim
     | nil=> have f:=n.stp u;refine⟨_,_,rfl,A.nx T1 H1 _ _ ?_ ((f.set (i:=i) ra).set (i:=j) (E.mv (.anti f.va λa m=>m.elim .inl λz=> .inr (Cs z)))) h1⟩;exact u.prog.trans (.less λb o=>Cs (Cs o))
def ZD (i:Nat)(f:Hl)(ta:AE):AS:=λD τ=>match Rt τ i with | some (.val x)=>ta τ λy=>f x y λz=>D.nx (τ.set i (some (.val z)))|_=>False
def oW {i:Nat}{x:Str}{op:Operator}{g:kY}{f:Hl}{pos':Pos}(hN:X.N.Nodup)(hi:X.N[i]? =some x)(hx:Loc X.env.scope x)(he:SE X e ta)(j:pL X op g/\B9 X.K g f)(l:X.fn x=true\/X.env.scope.names.lookup x=some .local:=by first | exact .inl rfl|exact .inr rfl|assumption):SS X (.AugAssign (.Name x pos') op e pos) (ZD i f ta):=by
 obtain⟨t,p,s⟩:=he;refine⟨_,nV hN hi hx p j.1 l,λB T m τ H D I c h n=> ?_⟩;unfold ZD at h;split at h <;> first | exact h.elim|skip
 rename_i y r;obtain⟨v,A,rv⟩:=c.val i y (K3 r);refine⟨v,A,s B T m τ H _ _ c h λw z T1 H1 d C h1=> ?_⟩;refine j.2 T1 _ H1 v w y z _ _ (c.stp d).va (rv.stp d c.va) C h1 λu q E F k G h2=> ?_;exact n.nx E F _ _ ((d.trans k).prog.trans (.less λb o=>Cs o)) (((c.stp d).stp k).set G) h2
def MK (i:Nat)(τ:BE)(R:kn PV->Prop):Prop:=match Rt τ i with | some (.own xs)=>R xs|_=>False
def RI {i:Nat}{τ:BE}{R:kn PV->Prop}(h:MK i τ R):∃xs,τ[i]? =some (some (.own xs))/\R xs:=by
 unfold MK at h;cases e:Rt τ i with
 | none=>rw[e] at h;exact h.elim
 | some z=>
   rw[e] at h;cases z with
   | val x=>exact h.elim
   | own xs=>exact⟨xs,K3 e,h⟩
abbrev kR:=kn PV->kn PV->(kn PV->Prop)->Prop
def gA (K:AAB)(r:V->kn V->Hp->VK->Prop)(f:kR):Prop:=∀(T M:ki->Prop) (H:Hp) (l:ki) (g vs:kn V) (xs ys:kn PV) (Q:VK) (h:kn PV->Prop),H l=some (.lst g)->A3 K T M H g xs->A3 K T M H vs ys->f xs ys h->
 (∀c d,A3 K T M H c d->h d->Q .non (upd H l (.lst c)))->r (.ref l) vs H Q
def C3 (i:Nat)(f:kR)(r:AA):AS:=λD τ=>MK i τ λxs=>r τ λys=>f xs ys λc=>D.nx (τ.set i (some (.own c)))
def eI {K:AAB}{i:Nat}{l:V->kn V->Hp->VK->Prop}{f:kR}{t:TA}{r:AA}(u:gA K l f)(s:kW K t r):bJ K (kC (yH K "list" l (JD i) t)) (C3 i f r):=λB T m τ H D C d h v=>by obtain⟨xs,e,h⟩:=RI h;obtain⟨p,vs,n,hp,w,E,o,F⟩:=d.own i xs e;refine⟨.ref p,n, .inl ⟨rfl,vs, .inl (.inl hp)⟩,s B T m τ H _ _ d h λx ys T1 H1 c y h2=> ?_⟩;have g:=d.stp c;refine u T1 (mt B m τ) H1 p vs x xs ys _ _ (c.keep _ _ o hp) (w.stp c d.va) y h2 λz G A h3=> ?_;obtain⟨j,k⟩:=g.write (i:=i) (xs:=xs) e n (c.keep _ _ o hp) A;exact v.nx T1 _ _ _ (c.prog.trans k) j h3
def Be {i:Nat}{x name:Str}{es:kn ke}{id:String}{d:V->kn V->Hp->VK->Prop}{f:kR}{r:AA}{p apos c:Pos}(slot:Slot "list" name id)(h:typeOf (.builtin id)=pure (.type "method_descriptor"))(g:qC X id d/\gA X.K d f)(ha:SA X (e::es) r)(hN:X.N[i]? =some x:=by rfl)(hv:jk X.env.scope x:=by first | exact Or.inl rfl|exact Or.inr (Or.inl rfl)|exact Or.inr (Or.inr rfl))(hd:(x==("__debug__" :Str))=false:=by decide)(j:(x==("__classdict__" :Str))=false:=by decide)(k:attributeBase (.Name x p) name X.env (eval (.Name x p) X.env)=eval (.Name x p) X.env:=by rfl)(l:((backTo c (starEach (e::es) X.env)).all (λx=> !x.1)&&(backToKw c (keywordEach [] X.env)).all (λx=>x.1.isSome) && decide ((e::es).length+([] :kn Keyword).length+(if ([] :kn Keyword).isEmpty then 0 else 1)<30))=true:=by rfl)(m:(apos.endLine==c.line)=true:=by rfl)(hs:starEach (e::es) X.env=(false,eval e X.env)::starEach es X.env:=by rfl)(n:(backTo c (starEach es X.env)).any (·.1)=false:=by rfl)(o:swapsWith (.Call (.Attribute (.Name x p) name apos) (e::es) [] c) none pos.line X.env=pure false:=by rfl):SS X (.Expr (.Call (.Attribute (.Name x p) name apos) (e::es) [] c) pos) (C3 i f r):=by obtain⟨t,u,s⟩:=ha;exact⟨_,ia (rX PySem.F.plainAttrs_list slot h g.1 (N8 hN hv hd j) u k l m hs n) o,eI g.2 s⟩
def FA:kR:=λxs ys Q=>match ys with | [y] =>xs.length<sizeLine/\Q (xs ++ [y])|_=>False
def BD:qC X "list.append" SY/\gA X.K SY FA:=by
 refine⟨QW,λT M H l d vs xs ys Q i hl c f h k=> ?_⟩;unfold FA at h;split at h <;> first | exact h.elim|skip
 cases f with
 | cons g t=> cases t;exact⟨l,d,_,rfl,rfl,hl,by rw[c.length];exact h.1,k _ _ (c.append (.cons g .nil)) h.2⟩
def gu:kR:=λxs ys Q=>match ys with | [.int i,y] =>(0<=i/\i<=(xs.length:Int)/\xs.length<sizeLine)/\Q (xs.take i.toNat++y::xs.drop i.toNat)|_=>False
def aM:qC X "list.insert" Sa/\gA X.K Sa gu:=by
 refine⟨Zy,λT M H l d vs xs ys Q m hl c f h k=> ?_⟩;unfold gu at h;split at h <;> first | exact h.elim|skip
 cases f with
 | cons g t=>
   cases t with
   | cons i t=> cases t;cases g;obtain⟨⟨h1,h2,h3⟩,j⟩:=h;exact⟨l,d,_,_,rfl,rfl,hl,h1,by rw[c.length];exact h2,by rw[c.length];exact h3,k _ _ ((c.take _).append (.cons i (c.drop _))) j⟩
def frz1 (i:Nat)(τ:BE):BE:=match Rt τ i with | some (.own xs)=>τ.set i (some (.val (.lst xs)))|_=>τ
def SR.frz1 {K:AAB}{B:C5}{T:ki->Prop}{H:Hp}{c:L2.St}{τ:BE}(s:SR K B T H c τ)(i:Nat):SR K B T H c (frz1 i τ)/\∀b,CG c (PL.frz1 i τ) b->CG c τ b:=by
 unfold PL.frz1;split
 .rename_i xs e;have e:=K3 e;obtain⟨p,vs,f,hp,u,E,w,x⟩:=s.own i xs e;have F:c.set i (some (.ref p))=c:=by
   apply List.ext_getElem?;intro k;by_cases hk:i=k
   .subst hk;rw[ADD,f];simp[(AA3.mp f).1]
   .rw [AAf hk]
  have l:∀b,CG c (τ.set i (some (.val (.lst xs)))) b->CG c τ b/\b≠p:=λb h=>by
   obtain⟨j,ys,h1,h2⟩:=h;rcases A7 h1 with⟨_,d,_⟩|⟨n,g⟩
   .cases d
   .exact ⟨⟨j,ys,g,h2⟩,λz=>by subst z;exact n (s.dist j i ys xs b g e h2 f)⟩
  have r:Mv K T (mt B c τ) H T (mt B c (τ.set i (some (.val (.lst xs))))) H:= .anti s.va λa m=>m.elim .inl λz=> .inr (l a z).1;refine⟨⟨by simp[s.len],λj y h=> ?_,λj ys h=> ?_,λj k ys A q h1 h2 h3 t=> ?_,s.tp,s.bm,s.bt,s.st⟩,λb h=>(l b h).1⟩
  .rcases A7 h with⟨rfl,d,_⟩|⟨n,h'⟩
   .cases d;exact⟨.ref p,f, .lst hp w (λz=>z.elim x λo=>(l p o).2 rfl) (u.mv r)⟩
   .obtain ⟨v,hv,rv⟩:=s.val j y h';exact⟨v,hv,rv.mv r⟩
  .rcases A7 h with⟨_,d,_⟩|⟨n,h'⟩
   .cases d
   .obtain ⟨q,C,h1,h2,h3,t⟩:=s.own j ys h';exact⟨q,C,h1,h2,h3.mv r,t⟩
  .rcases A7 h1 with⟨_,d,_⟩|⟨n,g⟩
   .cases d
   .rcases A7 h2 with⟨_,d,_⟩|⟨G,D⟩
    .cases d
    .exact s.dist j k ys A q g D h3 t
 .exact ⟨s,λ_ o=>o⟩
def gD (i:Nat)(a:AS):AS:=λD τ=>a D (frz1 i τ)
def oX (i:Nat)(h:SS X st a):SS X st (gD i a):=by obtain⟨t,p,s⟩:=h;refine⟨t,p,λB T d τ H D f g h j=> ?_⟩;obtain⟨c,k⟩:=g.frz1 i;exact s B T d (frz1 i τ) H D f c h (j.shift (.less k))
def uG (o:kf Nat)(R:Nat->Prop):Prop:=match o with | some j=>R j|none=>False
def m8 {o:kf Nat}{R:Nat->Prop}(h:uG o R):∃z,o=some z/\R z:=by cases o <;> first | exact⟨_,rfl,h⟩|exact h.elim
def ZE (i:Nat)(c ta:AE):AS:=λD τ=>ta τ λy=>MK i τ λxs=>c τ λk=>TK k λk=>uG (Rl xs.length k) λj=>D.nx (τ.set i (some (.own (xs.set j y))))
def S7 {i:Nat}{x:Str}{ix:ke}{u:AE}{p c:Pos}(hi:SE X ix u)(he:SE X e ta)(hN:X.N[i]? =some x:=by rfl)(hv:jk X.env.scope x:=by first | exact Or.inl rfl|exact Or.inr (Or.inl rfl)|exact Or.inr (Or.inr rfl))(hd:(x==("__debug__" :Str))=false:=by decide)(I:(x==("__classdict__" :Str))=false:=by decide)(ha:∀v,assign (.Subscript (.Name x p) ix c) X.env v=(do
   let g <-holding [v] (eval (.Name x p) X.env);let l <-holding [v,g] (eval ix X.env)
   standAt c
   holding [v,g,l] (setItem g l v)
   release [v,g,l] []):=by intro _;rfl)(hs:swapsWithSole [.Subscript (.Name x p) ix c] e pos.line X.env=pure false:=by rfl)(hw:swappedStores [.Subscript (.Name x p) ix c] e X.env=pure none:=by rfl)(h1:(assignEach [.Subscript (.Name x p) ix c] X.env).map (·.2)= [assign (.Subscript (.Name x p) ix c) X.env] :=by rfl):SS X (.Assign [.Subscript (.Name x p) ix c] e pos) (ZE i u ta):=by obtain⟨t,J,s⟩:=hi;obtain⟨t',m,K⟩:=he;refine⟨_,SQ m (Wv (N8 hN hv hd I) J KD ha) hs hw h1,λB T z τ H D R A h L=>K B T z τ H _ _ A h λv y T1 H1 C M h1=> ?_⟩;have d:=A.stp C;obtain⟨xs,e,h1⟩:=RI h1;obtain⟨q,vs,E,hp,F,S,G,U⟩:=d.own i xs e;refine⟨.ref q,E,s B T1 z τ H1 _ _ d h1 λw k O W f P h3=> ?_⟩;obtain⟨k,rfl,h3⟩:=Gq h3;obtain⟨j,Q,h3⟩:=m8 h3;cases P.toI;have n:=d.stp f;obtain⟨o,r⟩:=n.write (i:=i) (xs:=xs) e E (f.keep _ _ G hp) (((F.stp f d.va)).set (M.stp f d.va) j);exact⟨q,vs,k,j,rfl,rfl,f.keep _ _ G hp,by rw[F.length];exact Q,L.nx O _ _ _ ((C.trans f).prog.trans r) o h3⟩
end
section
variable {X:Cx}{st:Stmt}{e:ke}{pos:Pos}{a b:AS}{ta:AE}
def XU (c:AT)(b:AS)(D:JG):Nat->BE->Prop
 | 0,_=>False
 | n+1,τ=>c (frz τ) λk=>if k=true then b {D with nx:=XU c b D n,ct:=XU c b D n,bk:=D.nx} τ else D.nx τ
def Vv (c:AT)(b:AS):AS:=λD τ=>∃n,XU c b D n τ
def VM {c:ke}{body:kn Stmt}{v:AT}(hp:PassesOwn (model X.prog X.w) X.A X.env X.xe)(hc:Vp X c v)(hb:ZA X body b):SS X (.While c body [] pos) (Vv v b):=by
 obtain⟨t,p,s⟩:=hc;obtain⟨t',G,I⟩:=hb;refine⟨_,dZ hp p G,λB T y τ H D z J h C=> ?_⟩;obtain⟨n,h⟩:=h;refine⟨λm f H1=>∃T1 d,SR X.K B T1 H1 f d/\E7 T H y τ T1 H1 f d/\XU v b z m d,⟨n,T,τ,J, .refl,h⟩, ?_⟩;rintro m f H1 ⟨T1,d,l,g,h1⟩;cases m with
 | zero=>exact h1.elim
 | succ m=>
   refine s B T1 f (frz d) H1 _ _ l.frz h1 λk E F x h2=> ?_;have o:=l.stp x;have r:=(C.shift g).shift x.prog;cases k with
   | false=>rw[AAD AAc] at h2 ⊢;exact r.nx E F f d .refl o h2
   | true=> rw[AAE rfl] at h2 ⊢;refine⟨λσ' u=>∃j τ',SR X.K B j u σ' τ'/\E7 T H y τ j u σ' τ'/\XU v b z m τ',λσ' u q=>⟨m,Nat.lt_succ_self m,q⟩, ?_⟩;exact I B E f d F _ _ o h2 ⟨λj u σ' τ' q i h'=>⟨j,τ',i,(g.trans x.prog).trans q,h'⟩,r.nx,λj u σ' τ' q i h'=>⟨j,τ',i,(g.trans x.prog).trans q,h'⟩,C.rt⟩
abbrev AI:=BE->(kn PV->Prop)->Prop
structure RD (K:AAB) (M:Addr->Prop) (J:It) (xs:List PV) (T:Addr->Prop) (H:Hp):Prop where
 go:∀i y,xs[i]? =some y->J.go i H
 yld:∀i y v H',xs[i]? =some y->J.yld i H v H'->DB T H T H'/\Ck K T M H' v y
 stop:∀i,xs.length<=i->J.stop i H
def fq (T:ki->Prop)(H c:Hp):Prop:=∀b o,¬T b->H b=some o->c b=some o
def qH (K:AAB)(s:kd)(j:TI)(k:AI):Prop:=∀(B:C5) (T:ki->Prop) (f:L2.St) (τ:BE) (H:Hp) (R:It->Hp->Prop) (i:kn PV->Prop),SR K B T H f τ->k τ i->
 (∀J xs g c,DB T H g c->(∀M2 h d,Mv K g (mt B f τ) c h M2 d->KO h M2 d->(s=true\/fq g c d)->RD K M2 J xs h d)->i xs->R J c)->j f H R
def SI (X:Cx)(d iter:ke)(s:kd)(f:AI):Prop:=∃c,PI X d iter c/\qH X.K s c f
def vQ (K:AAB)(c:TE):TI:=λd H R=>c d H λx H1=>∃a,x= .ref a/\(((∃xs,Et K H1 a xs)/\R (uZ K a) H1)\/((∃xs,Kx K H1 a xs)/\R (uc K a) H1))
def nS {j l:ke}{i:TE}(hl:PE X l i):PI X j l (vQ X.K i):=by
 intro k s m H R I h;refine BR (hl k s m H _ I h) λv c ⟨x,H1,d,n,r⟩=> ?_;obtain⟨a,e,q⟩:=r;subst e;cases n;rcases q with⟨⟨xs,g⟩,q⟩|⟨⟨xs,g⟩,q⟩
 .obtain ⟨f,rv,p,t⟩:=d.list g;refine AC9 p.isList ?_;refine⟨c.heap.objs.size, [c.heap.objs.size],_,_,H1,rfl,d.kept (t':=c.toks) λb o e=>AAG _ e,aU a _,⟨_,AAO _ rfl,rfl,rfl⟩,λb hb=> ?_,q⟩;have e:b=c.heap.objs.size:=by simpa using hb
  subst e;exact d.fpOk (AAJ _) (d.hok.fresh (AAJ _))
 .obtain ⟨f,rv,p,t⟩:=d.tuple g;refine wpAny_pyIter_tuple (show c.heap.IsTuple a f.toArray from p) ?_;refine⟨c.heap.objs.size, [c.heap.objs.size],_,_,H1,rfl,d.kept (t':=c.toks) λb o e=>AAG _ e,XT a _,⟨_,AAO _ rfl,rfl,rfl⟩,λb hb=> ?_,q⟩;have e:b=c.heap.objs.size:=by simpa using hb
  subst e;exact d.fpOk (AAJ _) (d.hok.fresh (AAJ _))
def Le (ta:AE):AI:=λτ Q=>ta τ λx=>Uy x Q
def cZ {K:AAB}{T M:ki->Prop}{H:Hp}{a:ki}{xs:kn PV}(va:KO T M H)(r:Ck K T M H (.ref a) (.tup xs)):RD K M (uc K a) xs T H:=by
 obtain⟨k,vs,e,c,d⟩:=Dp r;cases e;refine⟨λi y h=> ?_,λi y v l h f=> ?_,λi h=>⟨vs,c,by rw[d.length];exact h⟩⟩
 .obtain ⟨v,hv,_⟩:=d.get h;exact⟨vs,v,c,hv⟩
 .obtain ⟨rfl,f⟩:=f;obtain⟨z,g,j⟩:=d.get' (f vs c);rw[h] at g;cases g;exact⟨.refl va.tp,j⟩
def cX {K:AAB}{T M:ki->Prop}{H:Hp}{a:ki}{vs:kn V}{xs:kn PV}(va:KO T M H)(j:H a=some (.lst vs))(c:A3 K T M H vs xs):RD K M (uZ K a) xs T H:=by
 have d:Et K H a vs:= .inl (.inl j);refine⟨λi y h=> ?_,λi y v l h f=> ?_,λi h=>⟨vs,d,by rw[c.length];exact h⟩⟩
 .obtain ⟨v,hv,_⟩:=c.get h;exact⟨vs,v,d,hv⟩
 .obtain ⟨rfl,f⟩:=f;obtain⟨z,g,k⟩:=c.get' (f vs d);rw[h] at g;cases g;exact⟨.refl va.tp,k⟩
def EQ {j:ke}(h:SE X e ta):SI X j e true (Le ta):=by
 obtain⟨t,p,s⟩:=h;refine⟨_,nS p,λB T l τ H R z m h k=>s B T l τ H _ _ m h λv x T1 H1 i c h1=> ?_⟩;obtain⟨xs,hx,q⟩:=K7 h1;rcases hx with rfl|rfl
 .obtain ⟨a,vs,rfl,d,n⟩:=Dp c;refine⟨a,rfl, .inr ⟨⟨vs,d⟩,k _ xs T1 H1 i (λM2 o r f va _=>cZ va (c.mv f)) q⟩⟩
 .obtain ⟨a,vs,rfl,d,A,C,n⟩:=Dx c;refine⟨a,rfl, .inl ⟨⟨vs, .inl (.inl d)⟩,k _ xs T1 H1 i (λM2 o r f va _=> ?_) q⟩⟩;obtain⟨D,u,w,y,_,_,g⟩:=Dx (c.mv f);cases w;exact cX va y g
def rng (lo:Int)(n:Nat):kn PV:=(List.range n).map λ(k:Nat)=> .int (lo+(k:Int))
def cY {K:AAB}{T M:ki->Prop}{H:Hp}{lo:Int}{n:Nat}(va:KO T M H):RD K M (tQ lo n) (rng lo n) T H:=by
 have hl:(rng lo n).length=n:=by simp[rng]
 refine⟨λi y h=> ?_,λi y v d h c=> ?_,λi h=>by rw[hl] at h;exact h⟩
 .have:=(AA3.mp h).1;rw[hl] at this;exact this
 .obtain ⟨rfl,rfl⟩:=c;have hi:=(AA3.mp h).1;rw[hl] at hi;have:y= .int (lo+(i:Int)):=by simp[rng,List.getElem?_range hi] at h;exact h.symm
  subst this;exact⟨.refl va.tp, .int _⟩
def Jf (r:AA):AI:=λτ Q=>r τ λxs=>match xs with | [.int j] =>(-(2^62)<=j/\j<2^62)/\Q (rng 0 j.toNat)|_=>False
def G9 {d c:ke}{r:AA}{p:Pos}(f:Gl X "range")(g:X.mg "range" =none)(ha:SA X [c] r)(hs:starEach [c] X.env= [(false,eval c X.env)] :=by rfl):SI X d (.Call (.Name "range" p) [c] [] pos) true (Jf r):=by
 obtain⟨t,i,s⟩:=ha;refine⟨_,aA f g i hs,λB T j τ H R o l h k=>s B T j τ H _ _ l h λvs xs T1 H1 m n h1=> ?_⟩;split at h1 <;> first | exact h1.elim|skip
 cases n with
 | cons r t=> cases t;cases r;exact⟨_,rfl,h1.1.1,h1.1.2,k _ _ T1 H1 m (λM2 u v w va _=>cY va) h1.2⟩
def Fe (xs ys:kn PV):kn PV:=List.zipWith (λx y=> .tup [x,y]) xs ys
def qu (K:AAB)(ta:TA):TI:=λd H R=>ta d H λvs H1=>∃b c l m,vs= [.ref l, .ref m] /\(∃xs,Sq K b H1 l xs)/\(∃ys,Sq K c H1 m ys)/\R (ue K b c l m) H1
def iR {e f:ke}{ta:TA}{p pos g:Pos}{es:kn ke}{w:Nat}(x:Gl X "zip")(y:X.mg "zip" =none)(ha:PA X [e,f] ta)(hs:starEach [e,f] X.env= [(false,eval e X.env),(false,eval f X.env)] :=by rfl)(t:starEach [f] X.env= [(false,eval f X.env)] :=by rfl):PI X (.Tuple es w g) (.Call (.Name "zip" p) [e,f] [] pos) (qu X.K ta):=by
 intro z s A H R I h;refine Call_ (Fj I x y boot_zip (ACV (BR (ha pos z s A H _ I h) λB d ⟨vs,H1,i,C,D⟩=> ?_) (by rw[hs,t]) (by rw[t];rfl)));obtain⟨b,c,l,m,rfl,⟨xs,hl⟩,⟨ys,E⟩,q⟩:=D;cases C with
 | cons r j=>
 cases j with
 | cons F j=>
 cases j;cases r;cases F;obtain⟨B,L,u,_⟩:=i.sq hl;obtain⟨vs,rv,sv,_⟩:=i.sq E;have k:l<d.heap.objs.size:=by cases b <;> (obtain⟨o,e,_⟩:=u;exact AAF e)
 have n:m<d.heap.objs.size:=by cases c <;> (obtain⟨o,e,_⟩:=sv;exact AAF e)
 refine pI u sv λh1 Z G=>ADm Z.zip ?_;refine⟨_,_,_,_,H1,rfl,i.kept (t':=d.toks) G,fF (zipApart_new k n),Z,λp hp=> ?_,q⟩;have v:d.heap.objs.size<=p:=by
  have J:p=d.heap.objs.size+4\/p=d.heap.objs.size+2\/p=d.heap.objs.size+3\/p=d.heap.objs.size\/p=d.heap.objs.size+1:=by simpa using hp
  rcases J with e|e|e|e|e <;> (rw[e];omega)
 exact i.fpOk v (i.hok.fresh v)
def lA:PV->kd | .lst _=>true|_=>false
def Qj {K:AAB}{T M:ki->Prop}{H:Hp}{v:V}{x:PV}{xs:kn PV}(hx:x= .tup xs\/x= .lst xs)(r:Ck K T M H v x):∃a vs,v= .ref a/\Sq K (lA x) H a vs/\A3 K T M H vs xs:=by
 rcases hx with rfl|rfl
 .obtain ⟨a,vs,rfl,c,d⟩:=Dp r;exact⟨a,vs,rfl,c,d⟩
 .obtain ⟨a,vs,rfl,c,_,_,d⟩:=Dx r;exact⟨a,vs,rfl, .inl (.inl c),d⟩
def ca {K:AAB}{T M:ki->Prop}{H:Hp}{l m:ki}{x y:PV}{xs ys:kn PV}(va:KO T M H)(hx:x= .tup xs\/x= .lst xs)(hy:y= .tup ys\/y= .lst ys)(r:Ck K T M H (.ref l) x)(B:Ck K T M H (.ref m) y):RD K M (ue K (lA x) (lA y) l m) (Fe xs ys) T H:=by
 obtain⟨_,vs,e,f,g⟩:=Qj hx r;cases e;obtain⟨_,j,e,k,c⟩:=Qj hy B;cases e;have s:∀i z,(Fe xs ys)[i]? =some z->∃a b,xs[i]? =some a/\ys[i]? =some b/\z=PV.tup [a,b] :=λi z h=>by
  unfold Fe at h;rw[AE8] at h;cases d:xs[i]? with
  | none=>rw[d] at h;cases h
  | some a=>
    cases n:ys[i]? with
    | none=>rw[d,n] at h;cases h
    | some b=>rw[d,n] at h;cases h;exact⟨a,b,by first | rfl|exact d,by first | rfl|exact n,rfl⟩
 refine⟨λi z h=> ?_,λi z v F h C=> ?_,λi h=>⟨vs,j,f,k, ?_⟩⟩
 .obtain ⟨a,b,ha,hb,_⟩:=s i z h;obtain⟨u,hu,_⟩:=g.get ha;obtain⟨w,hw,_⟩:=c.get hb;exact⟨vs,j,u,w,f,k,hu,hw⟩
 .obtain ⟨a,b,ha,hb,rfl⟩:=s i z h;obtain⟨p,u,w,rfl,D,rfl,hu,hw⟩:=C;obtain⟨G,t,ra⟩:=g.get' (hu vs f);obtain⟨I,A,E⟩:=c.get' (hw j k);rw[ha] at t;cases t;rw[hb] at A;cases A;have st:=DB.lay (o:= .tup [u,w]) va.tp D;exact⟨st, .tup (.inl Aj) (.cons (ra.stp st va) (.cons (E.stp st va) .nil))⟩
 .rw [g.length,c.length];have:(Fe xs ys).length=min xs.length ys.length:=by simp[Fe]
  omega
def tX (r:AA):AI:=λτ Q=>r τ λc=>match c with | [x,y] =>Uy x λxs=>Uy y λys=>Q (Fe xs ys)|_=>False
def sS {e f:ke}{r:AA}{p pos c:Pos}{es:kn ke}{i:Nat}(j:Gl X "zip")(n:X.mg "zip" =none)(ha:SA X [e,f] r)(hs:starEach [e,f] X.env= [(false,eval e X.env),(false,eval f X.env)] :=by rfl)(o:starEach [f] X.env= [(false,eval f X.env)] :=by rfl):SI X (.Tuple es i c) (.Call (.Name "zip" p) [e,f] [] pos) true (tX r):=by
 obtain⟨t,u,s⟩:=ha;refine⟨_,iR j n u hs o,λB T v τ H R I w h k=>s B T v τ H _ _ w h λvs xs T1 H1 z A h1=> ?_⟩;split at h1 <;> first | exact h1.elim|skip
 rename_i x y;obtain⟨xs,hx,h2⟩:=K7 h1;obtain⟨ys,hy,h3⟩:=K7 h2;cases A with
 | cons ra t=>
   cases t with
   | cons d t=> cases t;obtain⟨l,C,rfl,D,J⟩:=Qj hx ra;obtain⟨m,E,rfl,F,G⟩:=Qj hy d;exact⟨lA x,lA y,l,m,rfl,⟨C,D⟩,⟨E,F⟩,k _ _ T1 H1 z (λM2 K L g va _=>ca va hx hy (ra.mv g) (d.mv g)) h3⟩
def DE (g:AG)(b:AS)(D:JG):kn PV->BE->Prop
 | [],τ=>D.nx τ
 | x::r,τ=>g x τ λc=>b {D with nx:=DE g b D r,ct:=DE g b D r,bk:=D.nx} c
def Df (c:AI)(g:AG)(b:AS):AS:=λD τ=>c τ λxs=>DE g b D xs τ
def E7.mvv {K:AAB}{B:C5}{T d:ki->Prop}{H f:Hp}{c σ':L2.St}{τ τ':BE}(s:SR K B T H c τ)(p:E7 T H c τ d f σ' τ'):Mv K T (mt B c τ) H d (mt B σ' τ') f:=
 ⟨s.va,λb o t m e=>p.keep b o t (λz=>m (.inr z)) e,p.sub,λb n t=>(p.new b t).elim id λz=>absurd z n,λb n m=>m.elim .inl λz=>(p.own b z).elim .inr λz=>absurd z n⟩
def BX {C iter:ke}{body:kn Stmt}{N:AI}{g:AG}(hp:PassesOwn (model X.prog X.w) X.A X.env X.xe)(hc:X.calm=true)(hi:SI X C iter true N)(U:SG X C g)(hb:ZA X body b)(hs:∀x,foldedSetIterable iter X.env x=pure x:=by intro _;rfl):SS X (.For C iter body [] pos) (Df N g b):=by
 obtain⟨wi,W,Y⟩:=hi;obtain⟨Z,pg,sg⟩:=U;obtain⟨tb,pb,sb⟩:=hb;refine⟨_,dX hp hc W pg pb hs,λB T y τ H D O P h E=>Y B T y τ H _ _ P h λJ xs T1 H1 F walk h1=> ?_⟩;have p:=P.stp F;refine⟨λi m d r=>m=xs.length-i/\∃f c,SR X.K B f r d c/\E7 T1 H1 y τ f r d c/\DE g b O (xs.drop i) c,⟨_,rfl,T1,τ,p, .refl,h1⟩, ?_⟩;rintro i m d r ⟨rfl,f,c,k,l,h2⟩;have w:=walk _ f r (l.mvv p) k.va (.inl rfl);have G:=(E.shift F.prog).shift l;by_cases Q:i<xs.length
 .have R:xs[i]? =some xs[i] :=AAY Q;rw[AEW Q] at h2;refine .inr ⟨w.go i _ R,λσ' s=>∃j τ',SR X.K B j s σ' τ'/\E7 T1 H1 y τ j s σ' τ'/\DE g b O (xs.drop (i+1)) τ',λσ' s ⟨j,τ',q1,q2,q3⟩=>⟨_,by omega,rfl,j,τ',q1,q2,q3⟩,λv z yl=> ?_⟩;obtain⟨S,r3⟩:=w.yld i _ v z R yl;have I:=k.stp S;refine sg B f d c z v _ _ _ I r3 h2 λt u L o4 h4=> ?_;have n:E7 T1 H1 y τ f z t u:=(l.trans S.prog).trans (.less o4);have M:=(E.shift F.prog).shift n;exact sb B f t u z _ _ L h4 ⟨λj s σ' τ' q o h'=>⟨j,τ',o,n.trans q,h'⟩,M.nx,λj s σ' τ' q o h'=>⟨j,τ',o,n.trans q,h'⟩,E.rt⟩
 .rw [AE9 (by omega)] at h2;exact .inl ⟨w.stop i (by omega),G.nx f r d c .refl k h2⟩
def ZI:kf AV->kf AV|some (.val x)=>some (.val x)|_=>none
def PD (own:Nat)(ix:kn Nat)(τ:BE):BE:=List.replicate own none++ix.map λi=>ZI (Rt τ i)
def DC (g:AG)(t:AT)(f:AE)(c:BE)(Q:kn PV->Prop):kn PV->kn PV->Prop
 | [],acc=>Q acc
 | x::r,acc=>g x c λd=>t d λok=>if ok=true then f d λy=>DC g t f c Q r (acc ++ [y]) else DC g t f c Q r acc
def Cm (c:AI)(own:Nat)(ix:kn Nat)(g:AG)(t:AT)(d:AE):AA:=λτ Q=>c τ λxs=>xs.length<sizeLine/\DC g t d (PD own ix τ) Q xs []
def bW {own:Nat}{ix:kn Nat}{τ:BE}{j:Nat}{x:PV}(h:(PD own ix τ)[j]? =some (some (.val x))):own<=j/\∃i,ix[j-own]? =some i/\τ[i]? =some (some (.val x)):=by
 unfold PD at h;by_cases hj:j<own
 .rw [AB1 (by simpa using hj),ACF,AAE hj] at h;cases h
 .rw [ABt (by simpa using hj),ACG,AAh] at h;cases e:ix[j-own]? with
  | none=>rw[e] at h;cases h
  | some i=>
    rw[e] at h;refine⟨by omega,i,rfl,K3 ?_⟩;cases c:Rt τ i with
    | none=>simp[c,ZI] at h
    | some z=>cases z <;> simp[c,ZI] at h;subst h;rfl
def Jh {own:Nat}{ix:kn Nat}{τ:BE}{j:Nat}{xs:kn PV}:(PD own ix τ)[j]? ≠some (some (.own xs)):=λh=>by
 unfold PD at h;by_cases hj:j<own
 .rw [AB1 (by simpa using hj),ACF,AAE hj] at h;cases h
 .rw [ABt (by simpa using hj),ACG,AAh] at h;cases e:ix[j-own]? with
  | none=>rw[e] at h;cases h
  | some i=>
    rw[e] at h;cases c:Rt τ i with
    | none=>simp[c,ZI] at h
    | some z=>cases z <;> simp[c,ZI] at h
def C5.blk (B:C5)(c:L2.St)(τ:BE)(D:ki):C5:=⟨B.T,B.H,λa=>mt B c τ a\/a=D⟩
def SR.blk {K:AAB}{B:C5}{T d:ki->Prop}{H f:Hp}{c:L2.St}{τ:BE}{D:ki}{h:kn V}{own:Nat}{ix:kn Nat}(s:SR K B T H c τ)(q:DB T H d f)(l:H D=none)(hd:f D=some (.lst h))(u:¬d D):SR K (B.blk c τ D) d f (CY own ix c) (PD own ix τ):=by
 have g:=s.stp q;have w:Mv K T (mt B c τ) H d (mt (B.blk c τ D) (CY own ix c) (PD own ix τ)) f:=⟨s.va,λb o t _ e=>q.keep b o t e,q.sub,λb n t=>(q.new b t).elim id λz=>absurd z n,λb n z=>by
  rcases z with(z|z)|⟨_,_,z,_⟩
  .exact z
  .subst z;exact absurd l n
  .exact absurd z Jh⟩
 refine⟨by simp[CY,PD],λj x e=> ?_,λj xs e=>absurd e Jh,λj k xs ys p e=>absurd e Jh,g.tp,λa m=> ?_,λa m=> ?_,g.st⟩
 .obtain ⟨hj,i,hi,y⟩:=bW e;obtain⟨v,hv,r⟩:=s.val i x y;refine⟨v, ?_,r.mv w⟩;unfold CY;rw[ABt (by simpa using hj),ACG,AAh,hi];simp[hv]
 .rcases m with m|m
  .exact g.va.mu a m
  .subst m;exact⟨_,hd,MH.lst⟩
 .rcases m with m|m
  .exact g.nt m
  .subst m;exact u
def qG (X:Cx)(c:kn ke)(t:AT):Prop:=∃d,jg X c d/\Vq X.K d t
def Gb:AT:=λ_ Q=>Q true
def Dn:qG X [] Gb:=⟨_,YS,λB T d τ H Q f c h k=>k true T H (.refl c.tp) h⟩
def HV {c:ke}{t:AT}(h:Vp X c t):qG X [c] t:=let ⟨_,p,s⟩:=h;⟨_,iT p,s⟩
def OS {K:AAB}{s:kd}{wi:TI}{ai:AI}{own:Nat}{ix:kn Nat}{g:TG}{ag:AG}{tt:TT}{C:AT}{te:TE}(hi:qH K s wi ai)(hg:RH K g ag)(ht:Vq K tt C)(he:MJ K te ta):fz K (eU wi own ix g tt te) (Cm ai own ix ag C ta):=by
 intro B T E τ H Q AQ sr h k;refine hi B T E τ H _ _ sr h λJ xs T1 H1 s1 walk h1 D F=> ?_;obtain⟨hl,h1⟩:=h1;have j:=sr.stp s1;have nt1:¬T1 D:=λz=>by obtain⟨o,e,_⟩:=(j.tp D z).mut;rw[F] at e;cases e
 have lay:=DB.lay (o:= .lst []) j.tp F;refine⟨λi m G=>m=xs.length-i/\∃p vs c,DB T1 H1 p G/\G D=some (.lst vs)/\¬p D/\A3 K p (λa=>mt B E τ a\/a=D) G vs c/\c.length<=i/\DC ag C ta (PD own ix τ) AQ (xs.drop i) c,
  ⟨_,rfl,T1, [], [],lay,Aj,nt1, .nil,AAJ _,h1⟩, ?_⟩
 rintro i m G ⟨rfl,p,vs,c,r,Z,f,r2,lW,h2⟩;have I:=j.blk (own:=own) (ix:=ix) r F Z f;have L:KO p (λa=>mt B E τ a\/a=D) G:=⟨I.tp,I.bm⟩;have w:=walk (λa=>mt B E τ a\/a=D) p G ⟨j.va,λb o t _ e=>r.keep b o t e,r.sub,λb n t=>(r.new b t).elim id λz=>absurd z n,λb n z=>z.elim id λz=>by subst z;exact absurd F n⟩ L (.inr r.keep);by_cases IW:i<xs.length
 .have cQ:xs[i]? =some xs[i] :=AAY IW;rw[AEW IW] at h2;refine .inr ⟨w.go i _ cQ,λv H3 yl=> ?_⟩;obtain⟨P,r3⟩:=w.yld i _ v H3 cQ yl;have l:=I.stp P;refine hg _ p _ _ H3 v _ _ _ l (r3.mv (.anti ⟨l.tp,l.bm⟩ λa z=>z.elim id λ⟨_,_,z,_⟩=>absurd z Jh)) h2 λR S U o4 h4=> ?_;refine ht _ p R S H3 _ _ U h4 λok T5 H5 N h5=> ?_;have u:=U.stp N;have pO:=P.keep D _ f Z;have tZ:=N.keep D _ f pO;have M:¬T5 D:=λz=>(N.new D z).elim f λn=>by rw[n] at pO;cases pO
  have r5:=(r2.stp P L).stp N ⟨l.tp,l.bm⟩;cases ok with
  | false=> rw[AAD AAc] at h5 ⊢;exact⟨_,by omega,rfl,T5,vs,c,(r.trans P).trans N,tZ,M,r5,by omega,h5⟩
  | true=>
    rw[AAE rfl] at h5 ⊢;refine he _ T5 R S H5 _ _ u h5 λvy y O H6 W r6 h6=> ?_;have A:=u.stp W;have hD6:=W.keep D _ M tZ;have Y:¬O D:=λz=>(W.new D z).elim M λn=>by rw[n] at tZ;cases tZ
    have va6:KO O (λa=>mt B E τ a\/a=D) H6:=⟨A.tp,A.bm⟩;have r7:=r5.stp W ⟨u.tp,u.bm⟩;have s7:=((r.trans P).trans N).trans W;have tp8:∀a,O a->E8 (upd H6 D (.lst (vs ++ [vy]))) a:=λa t=>by obtain⟨d,x,e,z⟩:=A.tp a t;exact⟨d,x,by rw[Ai (λw=>by subst w;exact Y t)];exact e,z⟩
    have mv8:Mv K O (λa=>mt B E τ a\/a=D) H6 O (λa=>mt B E τ a\/a=D) (upd H6 D (.lst (vs ++ [vy]))):=⟨va6,λb o _ m e=>by rw[Ai (λw=>m (.inr w))];exact e,λ_ t=>t,λ_ _ t=>t,λ_ _ z=>z⟩;refine⟨vs,hD6,by rw[r2.length];omega,_,(by omega:xs.length-(i+1)<xs.length-i),rfl,O,vs ++ [vy],c ++ [y],⟨λb o t e=> ?_,s7.sub,s7.new,tp8⟩,Aj,Y,(r7.append (.cons (r6.mv (.anti A.va λa z=> .inl z)) .nil)).mv mv8,by simp;omega,h6⟩;rw[Ai (Az e F)];exact s7.keep b o t e
 .rw [AE9 (by omega)] at h2;refine .inl ⟨w.stop i (by omega), ?_⟩;exact k D vs c p G (s1.trans r) (j.add r F Z MH.lst f) (s1.none F) Z f (r2.mv (.anti L λa z=>by
   rcases z with(z|z)|z
   .exact .inl (.inl z)
   .exact .inr z
   .exact .inl (.inr z))) h2
structure XZ (X:Cx) (tg elt:Expr) (ifs:List Expr) (scope:Scope) (own:Nat) (ix:List Nat) (N:List Str) (g:AG) (t:AT) (te:AE):Prop where
 ex:∃g' t' te',Ff X tg elt ifs scope own ix N g' t' te'/\RH X.K g' g/\Vq X.K t' t/\MJ X.K te' te
def Dm {f c iter:ke}{d:kn ke}{scope:Scope}{own:Nat}{ix:kn Nat}{N:kn Str}{g:AG}{t:AT}{s:kd}{h:AI}(hc:X.calm=true)(hi:SI X f iter s h)(O:XZ X f c d scope own ix N g t ta)(hs:∀x,foldedSetIterable iter X.env x=pure x:=by intro _;rfl):SF X (.ListComp c [⟨f,iter,d,0⟩] scope pos) (Cm h own ix g t ta):=by obtain⟨m,i,j⟩:=hi;obtain⟨g',t',k,O,sg,st,l⟩:=O.ex;exact⟨_,iK hc i O hs,OS j sg st l⟩
def OY {i:Nat}{x:Str}{pos' c:Pos}{h d iter:ke}{f:kn ke}{scope:Scope}{own:Nat}{ix:kn Nat}{N:kn Str}{g:AG}{t:AT}{s:kd}{j:AI}(hc:X.calm=true)(hN:X.N.Nodup)(k:X.N[i]? =some x)(hx:Loc X.env.scope x)(hi:SI X h iter s j)(O:XZ X h d f scope own ix N g t ta)(l:swapsWith (.ListComp d [⟨h,iter,f,0⟩] scope pos) (some (.Name x pos')) c.line X.env=pure true:=by rfl)(hs:∀x,foldedSetIterable iter X.env x=pure x:=by intro _;rfl)(m:X.fn x=true\/X.env.scope.names.lookup x=some .local:=by first | exact .inl rfl|exact .inr rfl|assumption):SS X (.Assign [.Name x pos'] (.ListComp d [⟨h,iter,f,0⟩] scope pos) c) (GK (Cm j own ix g t ta) i):=by obtain⟨u,n,o⟩:=hi;obtain⟨g',t',p,O,sg,st,r⟩:=O.ex;exact⟨_,YT hc hN k hx n O l hs m,Ye (OS o sg st r)⟩
def OZ {i:Nat}{x:Str}{pos' c:Pos}{h d iter:ke}{f:kn ke}{scope:Scope}{own:Nat}{ix:kn Nat}{N:kn Str}{g:AG}{t:AT}{s:kd}{j:AI}(hc:X.calm=true)(hN:X.N.Nodup)(k:X.N[i]? =some x)(hx:Loc X.env.scope x)(hi:SI X h iter s j)(O:XZ X h d f scope own ix N g t ta)(l:swapsWith (.ListComp d [⟨h,iter,f,0⟩] scope pos) (some (.Name x pos')) c.line X.env=pure true:=by rfl)(hs:∀x,foldedSetIterable iter X.env x=pure x:=by intro _;rfl)(m:X.fn x=true\/X.env.scope.names.lookup x=some .local:=by first | exact .inl rfl|exact .inr rfl|assumption):SS X (.Assign [.Name x pos'] (.ListComp d [⟨h,iter,f,0⟩] scope pos) c) (Ao (IL (Cm j own ix g t ta)) (An i)):=by obtain⟨u,n,o⟩:=hi;obtain⟨g',t',p,O,sg,st,r⟩:=O.ex;exact⟨_,YT hc hN k hx n O l hs m,S3 (eF (OS o sg st r)) S4⟩
end
def LU (N:Nat)(xs:kn PV):BE:=xs.map (λx=>some (.val x))++List.replicate (N-xs.length) none
def Ar (N:Nat)(b:AS):AF:=λxs Q=>b {nx:=λ_=>Q .non,rt:=Q,bk:=λ_=>False,ct:=λ_=>False} (LU N xs)
def VN {K:AAB}{T M:ki->Prop}{H:Hp}{N:kn Str}{vs:kn V}{xs:kn PV}(va:KO T M H)(b:∀a,M a->¬T a)(r:A3 K T M H vs xs):SR K ⟨T,H,M⟩ T H (start N vs) (LU N.length xs):=by
 have c:∀(j:Nat) (ys:kn PV),(LU N.length xs)[j]? ≠some (some (.own ys)):=λj ys h=>by
  unfold LU at h;by_cases hj:j<xs.length
  .rw [AB1 (by simpa using hj),AAh,AAY hj] at h;cases h
  .rw [ABt (by simpa using hj),ACF] at h;split at h <;> cases h
 refine⟨by simp[L2.start,LU,r.length],λj x h=> ?_,λj ys h=>absurd h (c j ys),λj k ys d p h=>absurd h (c j ys),va.tp,va.mu,b, .refl va.tp⟩;unfold LU at h;by_cases hj:j<xs.length
 .rw [AB1 (by simpa using hj),AAh,AAY hj] at h;cases h;obtain⟨v,hv,rv⟩:=r.get (AAY hj);refine⟨v, ?_,rv.mv (.anti va λa m=>m.elim id λ⟨_,_,z,_⟩=>absurd z (c _ _))⟩;unfold L2.start;rw[AB1 (by rw[AAK,r.length];exact hj),AAh,hv];rfl
 .rw [ABt (by simpa using hj),ACF] at h;split at h <;> cases h
section
variable {P:gn}{w:fe}{K:AAB}{mg:Str->kf km}{base:cb}
def Xs {x qual:Str}{st:Stmt}{f:ki}{g:FuncData}{N ps:kn Str}{k n:Nat}{b:AS}(F:VY K x qual st f g)(S:DH N ps (Au st))(i:n=ps.length)(j:∀(a:km) (A:Wf) (outer:kn Env) (s:kj) (H:Hp) (E:XK),Room k (A.deeper (envOfC qual (Au st) s.heap.objs.size f a))-> ZA (PK MD P w K mg base N qual (Au st) f a A outer s H E).nox (CC st) b):De P w K mg base MD (k+1) f g ps (CH K n (Ar N.length b)):=by
 refine F.ok S (λvs H Q E h=> ?_) (λa A outer s H vs Q E l h=> ?_)
 .obtain ⟨T,M,xs,m,_,_,r,hl,_⟩:=h;rw[r.length,hl,i]
 .obtain ⟨T,M,xs,m,va,c,r,hl,hF,hQ⟩:=h;obtain⟨t,p,o⟩:=j a A outer s H E l;refine⟨t,p,o ⟨T,H,M⟩ T _ _ H _ _ (VN va c r) hF ⟨λd e σ' τ' _ u q=> ?_,λ_ _ _ _ _ _ q=>q.elim,λ_ _ _ _ _ _ q=>q.elim,λv x d e y z q=>hQ v x d e y z q⟩⟩;exact hQ _ _ d e u.st .non q
end
section
variable {X:Cx}
def bi {prog:gn}{w:fe}{A:Wf}{E:km->kj->Prop}{s:kj}{t b:ki}{d:kn km}{Q:km->kj->Prop}(j:IsTup s.heap t #[])(hb:IsTup s.heap b d.toArray)(k:Q (.ref b) s):wpAny (model prog w) A (binaryOp .Add (.ref t) (.ref b)) Q E s:=by
 obtain⟨⟨cls,l,data,sl⟩,e,hc,n,hd⟩:=id j;obtain⟨⟨f,a,data2,c⟩,g,h,m,i⟩:=id hb;simp only at hc hd h i;subst hc hd h i;exact concat_meets ⟨_,e,rfl⟩ ⟨_,g,rfl⟩ AEL seq_tuple_add AEM AEN (AEO _ _)
  (tuple_addW0 t b #[] d.toArray n m l a sl c (by simp)) ⟨e,g,k⟩
def df (K:AAB):R2:=λx y H Q=>∃a b ys,x= .ref a/\y= .ref b/\Kx K H a [] /\Kx K H b ys/\Q (.ref b) H
def dC:D1 X (binaryOp .Add) (df X.K):=by intro k s l H x y v u Q I d e h;obtain⟨a,b,ys,rfl,rfl,ha,hb,q⟩:=h;cases d;cases e;obtain⟨f,g,i,_⟩:=I.tuple ha;obtain⟨c,m,j,_⟩:=I.tuple hb;cases g;exact bi i j ⟨.ref b,H,I,rfl,q⟩
def j5 (K:AAB):R2:=λx y H Q=>((SZ (λi j=>V.int (i+j)) x y H Q\/rh x y H Q)\/j6 K x y H Q)\/df K x y H Q
def Ba:Hl:=λx y Q=>match x,y with
 | .int i, .int j=>Q (.int (i+j))
 | .lst xs, .lst ys=>xs.length+ys.length<=sizeLine/\Q (.lst (xs++ys))
 | .tup xs, .tup ys=>xs.length+ys.length<=sizeLine/\Q (.tup (xs++ys))
 | _,_=>False
def BC:D1 X (binaryOp .Add) (j5 X.K)/\B9 X.K (j5 X.K) Ba:=by
 refine⟨((Ig.or nB).or iE).or dC,λT M H u v x y Q s va g rv h k=> ?_⟩;unfold Ba at h;split at h <;> first | exact h.elim|skip
 .exact .inl (.inl (.inl ⟨_,_,g.toI,rv.toI,k _ _ T H (.refl va.tp) (.int _) h⟩))
 .obtain ⟨a,vs,rfl,i,t,w,d⟩:=Dx g;obtain⟨b,f,rfl,j,l,m,c⟩:=Dx rv;refine .inl (.inl (.inr ⟨a,b,vs,f,rfl,rfl,i,j,by rw[d.length,c.length];exact h.1,λp hp=> ?_⟩));have st:=DB.lay (o:= .lst (vs++f)) va.tp hp;have n:¬T p:=λz=>by obtain⟨o,e,_⟩:=(va.tp p z).mut;rw[hp] at e;cases e
  have r:¬M p:=λz=>by obtain⟨o,e,_⟩:=va.mu p z;rw[hp] at e;cases e
  exact k _ _ T _ st (.lst Aj n r ((d.append c).stp st va)) h.2
 .obtain ⟨a,vs,rfl,i,d⟩:=Dp g;obtain⟨b,f,rfl,j,c⟩:=Dp rv;by_cases e:vs= []
  .subst e;cases d;exact .inr ⟨a,b,f,rfl,rfl,i,j,k _ _ T H (.refl va.tp) rv (by simpa using h.2)⟩
  .refine .inl (.inr ⟨a,b,vs,f,rfl,rfl,i,j,e,by rw[d.length,c.length];exact h.1,λz=> ?_,λz p hp=> ?_⟩)
   .subst z;cases c;exact k _ _ T H (.refl va.tp) g (by simpa using h.2)
   .have st:=DB.lay (o:= .tup (vs++f)) va.tp hp;exact k _ _ T _ st (.tup (.inl Aj) ((d.append c).stp st va)) h.2
def HZ {prog:gn}{w:fe}{A:Wf}{E:km->kj->Prop}{s:kj}{t sl:ki}{items:Array km}{b c:km}{lo hi:kf Int}{Q:km->kj->Prop}(a:IsTup s.heap t items)(hs:s.heap.IsSliceOf sl b c .none)(d:IsPart b lo)(e:IsPart c hi)(hw:HT.sIx items.size 0 lo=0/\HT.sIx items.size items.size hi=items.size)(h:Q (.ref t) s):wpAny (model prog w) A (getItem (.ref t) (.ref sl)) Q E s:=by
 obtain⟨os,f,g,n⟩:=id hs;have i:s.TypeIs (.ref sl) "slice" :=⟨os,f,g⟩;obtain⟨o,j,k,p,l⟩:=id a;unfold getItem;try with_reducible refine AAg ?_
 first | refine AAA (AAC ?_)|skip
 refine AAA (AER a.typeIs (by decide) ?_);refine AAA (ABu (name:=Str.ofString "__getitem__") a.typeIs ABv
  (AA0 ABv a.typeIs AES ?_ (args_tuple_getitem _ _)))
 show wpAny _ _ (Builtin.Tuple.tupleItemsOf (.ref t) >>= _) _ _ s;refine AAA (tupleItemsOf_ a ?_);refine AAA (ADb i ?_);rw[AAE (by decide)];refine AAA (HT.sliceApplied_gen hs d e ?_);have m:((((HT.sIx items.size 0 lo:Nat):Int)==0&&(1:Int)==1&&(HT.sIx items.size items.size hi-HT.sIx items.size 0 lo)==items.size)=true):=by rw[hw.1,hw.2];simp
 show wpAny _ _ (if (((HT.sIx items.size 0 lo:Nat):Int)==0&&(1:Int)==1&&(HT.sIx items.size items.size hi-HT.sIx items.size 0 lo)==items.size)=true then _ else _) _ _ s;rw[AAE m];unfold Builtin.Tuple.tupleIsExact;simp only[bind_assoc,pure_bind];refine AAA (ADb a.typeIs ?_);rw[AAE (by decide)];exact AAA (ABx (AAC ⟨_,rfl,AAC h⟩))
def vo (K:AAB):V->kf Int->kf Int->Hp->VK->Prop:=λx lo hi H Q=>∃a xs,x= .ref a/\Kx K H a xs/\
 (HT.sIx xs.length 0 lo=0/\HT.sIx xs.length xs.length hi=xs.length)/\Q (.ref a) H
def jI:gB X (vo X.K):=by
 intro i s j H x v k l lo hi sl Q I d hs e f h;obtain⟨a,xs,rfl,hx,hw,q⟩:=h;cases d;obtain⟨b,r,c,m⟩:=I.tuple hx;have g:b.toArray.size=xs.length:=by rw[AAP];exact r.length.symm
 refine⟨"tuple",_,ABv.lookup,c.typeIs, ?_⟩;exact HZ c hs e f (by rw[g];exact hw) ⟨.ref a,H,I,rfl,q⟩
def T4 (xs:kn PV)(lo hi:kf Int):kn PV:=(xs.drop (HT.sIx xs.length 0 lo)).take (HT.sIx xs.length xs.length hi-HT.sIx xs.length 0 lo)
def Xn {K:AAB}{T M:ki->Prop}{H:Hp}{vs:kn V}{xs:kn PV}(r:A3 K T M H vs xs)(lo hi:kf Int):A3 K T M H (PJ vs lo hi) (T4 xs lo hi):=by unfold PJ T4;rw[r.length];exact(r.drop _).take _
abbrev AO:=BE->(kf Int->Prop)->Prop
def uj (K:AAB)(t:TO)(a:AO):Prop:=∀(B:C5) (T:ki->Prop) (b:L2.St) (τ:BE) (H:Hp) (Q:kf Int->Hp->Prop) (c:kf Int->Prop),SR K B T H b τ->a τ c->
 (∀o e d,DB T H e d->c o->Q o d)->t b H Q
def SO (X:Cx)(e:kf ke)(a:AO):Prop:=∃t,PO X e t/\uj X.K t a
def bR:AO:=λ_ Q=>Q none
def bS (a:AE):AO:=λτ Q=>a τ λx=>TK x λi=>Q (some i)
def jJ:SO X none bR:=⟨_,iU,λB T b τ H Q c a h k=>k _ T H (.refl a.tp) h⟩
def jK {e:ke}{a:AE}(h:SE X e a):SO X (some e) (bS a):=by obtain⟨t,p,s⟩:=h;refine⟨_,iV p,λB T b τ H Q g c h k=>s B T b τ H _ _ c h λv x T1 H1 d f h1=> ?_⟩;obtain⟨i,rfl,q⟩:=Gq h1;exact⟨i,f.toI,k _ T1 H1 d q⟩
@[irreducible] def UF (x:PV)(lo hi:kf Int)(Q:PV->Prop):Prop:=match x with | .tup xs=>Q (.tup (T4 xs lo hi)) | .lst xs=>Q (.lst (T4 xs lo hi))|_=>False
def E2 {xs:kn PV}{lo hi:kf Int}{Q:PV->Prop}(h:Q (.tup (T4 xs lo hi))):UF (.tup xs) lo hi Q:=by unfold UF;exact h
def Yh {xs:kn PV}{lo hi:kf Int}{Q:PV->Prop}(h:Q (.lst (T4 xs lo hi))):UF (.lst xs) lo hi Q:=by unfold UF;exact h
def gE (a:AE)(l h:AO):AE:=λτ Q=>a τ λx=>l τ λlo=>h τ λhi=>UF x lo hi Q
def OR {e:ke}{lo hi:kf ke}{D pos:Pos}{C:AE}{l h:AO}(he:SE X e C)(hl:SO X lo l)(E:SO X hi h):SE X (.Subscript e (.Slice lo hi none D) pos) (gE C l h):=by
 obtain⟨t,p,s⟩:=he;obtain⟨N,F,r⟩:=hl;obtain⟨O,u,w⟩:=E;refine⟨_,U3 ((jH.or oU).or jI) p F u,λB T m τ H Q P d h k=>s B T m τ H _ _ d h λv x T1 H1 f G h1=> ?_⟩;refine r B T1 m τ H1 _ _ (d.stp f) h1 λlo I J g h2=> ?_;refine w B I m τ J _ _ ((d.stp f).stp g) h2 λhi T3 K y h3=> ?_;have b:=((d.stp f).stp g).stp y;have A:=(G.stp g (d.stp f).va).stp y ((d.stp f).stp g).va;have c:=(f.trans g).trans y;unfold UF at h3;split at h3 <;> first | exact h3.elim|skip
 .obtain ⟨a,vs,rfl,n,i⟩:=Dp A;by_cases hw:HT.sIx vs.length 0 lo=0/\HT.sIx vs.length vs.length hi=vs.length
  .refine .inr ⟨a,vs,rfl,n,hw,k _ _ T3 K c A ?_⟩;rename_i xs;have:T4 xs lo hi=xs:=by unfold T4;rw[<-i.length,hw.1,hw.2,i.length];simp
   rw[this] at h3;exact h3
  .refine .inl (.inr ⟨a,vs,rfl,n,hw,λq j=> ?_⟩);have st:=DB.lay (o:= .tup (PJ vs lo hi)) b.tp j;exact k _ _ T3 _ (c.trans st) (.tup (.inl Aj) ((Xn i lo hi).stp st b.va)) h3
 .obtain ⟨a,vs,rfl,n,R,S,i⟩:=Dx A;refine .inl (.inl ⟨a,vs,rfl, .inl (.inl n),λq j=> ?_⟩);have st:=DB.lay (o:= .lst (PJ vs lo hi)) b.tp j;have L:¬T3 q:=λz=>by obtain⟨o,e,_⟩:=(b.tp q z).mut;rw[j] at e;cases e
  have M:¬mt B m τ q:=λz=>by obtain⟨o,e,_⟩:=b.va.mu q z;rw[j] at e;cases e
  exact k _ _ T3 _ (c.trans st) (.lst Aj L M ((Xn i lo hi).stp st b.va)) h3
def pick_back (a:kn km):slicePick a.toArray none none (some (-1))=a.reverse.toArray:=by
 have d:sliceRange ((a.length:Int)-1) (-1) (-1)=(List.range a.length).map λk=>a.length-1-k:=by
  unfold sliceRange;rw[AAD (by decide)];by_cases h:a.length=0
  .rw [AAD (by omega),h];rfl
  .rw [AAE (by omega)];have:(((a.length:Int)-1 - -1 - -1-1)/(- -1))=(a.length:Int):=by rw[show (- -1:Int)=1 by decide,AEP];omega
   rw[this];show List.map (λk:Nat=>((a.length:Int)-1 + -1*(k:Int)).toNat) (List.range a.length)=_;apply AB2;intro k hk;have:=AAu.mp hk;omega
 have e:slicePick a.toArray none none (some (-1))=((sliceRange ((a.length:Int)-1) (-1) (-1)).filterMap (a.toArray[·]?)).toArray:=by unfold slicePick sliceBounds;simp
 rw[e,d,AEQ];congr 1;have f:(List.range a.length).filterMap ((λx=>a.toArray[x]?) ∘ λk=>a.length-1-k)=(List.range a.length).filterMap (λk=>a.reverse[k]?):=by
  have go:∀(l:kn Nat),(∀k∈l,k<a.length)->l.filterMap ((λx=>a.toArray[x]?) ∘ λk=>a.length-1-k)=l.filterMap (λk=>a.reverse[k]?):=by
   intro l;induction l with
   | nil=>intro _;rfl
   | cons k l g=>
     intro h;have h1:a.toArray[a.length-1-k]? =a.reverse[k]? :=by rw[AFA (h k (by simp))];simp
     rw[AC1,AC1,g λx hx=>h x (by simp[hx])];have h2:((λx=>a.toArray[x]?) ∘ λk=>a.length-1-k) k=a.reverse[k]? :=h1;rw[h2]
  exact go _ λk hk=>AAu.mp hk
 rw[f];have b:=HT.pick_gen a.reverse.toArray 0 a.length;have i:(λ(m:Nat)=>a.reverse.toArray[(((0:Nat):Int)+(m:Int)*1).toNat]?)=λk=>a.reverse[k]? :=by
  funext m
  have:(((0:Nat):Int)+(m:Int)*1).toNat=m:=by omega
  rw[this];simp
 rw[i] at b;have c:=congrArg Array.toList b;simp only[List.toList_toArray] at c;rw[c];simp;try exact ACp (by simp)
end
def At:AF:=λxs Q=>match xs with | [.tape, .int m] =>(0<m/\m<4611686018427387904)/\∀r,0<=r->r<m->Q (.int r)|_=>False
def GZ:AF:=λxs Q=>match xs with | [.scr ns, .int k] =>(0<=k/\k<=1000)/\Q .tape|_=>False
def qA (g:TG):Prop:=∀v b H Q c,(∀a d,Q a d->c a d)->g v b H Q->g v b H c
def kM (g:Vs):Prop:=∀v b H Q c,(∀a d,Q a d->c a d)->g v b H Q->g v b H c
def SK (own:Nat)(X:Cx)(a:ke)(b:AG):Prop:=∃g,PG X a g/\RH X.K g b/\NO own g/\qA g
def tU (own:Nat)(X:Cx)(a:kn ke)(b:Vb):Prop:=∃g,pK X a g/\P7 X.K g b/\NP own g/\kM g
section
variable {X:Cx}{pos:Pos}{own:Nat}
def jG {i:Nat}{x:Str}(hN:X.N.Nodup)(hi:X.N[i]? =some x)(hx:Loc X.env.scope x)(hk:i<own)(a:X.fn x=true\/X.env.scope.names.lookup x=some .local:=by first | exact .inl rfl|exact .inr rfl|assumption):SK own X (.Name x pos) (An i):=
 ⟨_,HR hN hi hx a,S4,RU hk,Mb⟩
def S5:tU own X [] Bf:=⟨_,Mi,VJ,Xz,RV⟩
def D9 {e:ke}{es:kn ke}{b:AG}{a:Vb}(h1:SK own X e b)(h2:tU own X es a)(hs:(assignEach (e::es) X.env).map (·.2)=assign e X.env::(assignEach es X.env).map (·.2):=by rfl):tU own X (e::es) (Ag b a):=
 let ⟨_,p,s,k,m⟩:=h1;let ⟨_,d,f,g,c⟩:=h2;⟨_,FX p d hs,Qi s f,Nj k m g c,UH m c⟩
end
def tY (K:AAB)(own:Nat)(d:AG):TG:=λv a H Q=>∃(B:C5) (T:ki->Prop) (τ:BE) (x:PV) (c:BE->Prop),SR K B T H a τ/\Ck K T (mt B a τ) H v x/\d x τ c/\
 ∀σ' τ',SR K B T H σ' τ'->(∀b,CG σ' τ' b->CG a τ b)->c τ'->(σ'.length=a.length/\∀j,own<=j->σ'[j]? =a[j]?)->Q σ' H
def v8 (K:AAB)(a:AT):TT:=λe H Q=>∃(B:C5) (T:ki->Prop) (τ:BE) (c:kd->Prop),SR K B T H e τ/\a τ c/\∀b f d,DB T H f d->c b->Q b d
def uz (K:AAB)(a:AE):TE:=λc H Q=>∃(B:C5) (T:ki->Prop) (τ:BE) (d:PV->Prop),SR K B T H c τ/\a τ d/\∀v x e b,DB T H e b->Ck K e (mt B c τ) b v x->d x->Q v b
def jD {K:AAB}{own:Nat}{a:AG}:RH K (tY K own a) a:=λB T d τ H v x Q b c r h k=>⟨B,T,τ,x,b,c,r,h,λσ' τ' s o q _=>k σ' τ' s o q⟩
def ci {K:AAB}{own:Nat}{a:AG}:NO own (tY K own a):=λv d H Q ⟨B,T,τ,x,b,c,r,h,k⟩=>⟨B,T,τ,x,b,c,r,h,λσ' τ' s o q z=>⟨k σ' τ' s o q z,z⟩⟩
def jE {K:AAB}{a:AT}:Vq K (v8 K a) a:=λB T d τ H Q b c h k=>⟨B,T,τ,b,c,h,k⟩
def jC {K:AAB}{a:AE}:MJ K (uz K a) a:=λB T d τ H Q b c h k=>⟨B,T,τ,b,c,h,k⟩
section
variable {X:Cx}
def SK.of {own:Nat}{e:ke}{f:AG}(h:SK own X e f):PG X e (tY X.K own f):=by obtain⟨g,p,s,k,m⟩:=h;intro j l a H v u Q I r hw;obtain⟨B,T,τ,x,i,n,t,h,c⟩:=hw;have h1:g v a H λσ' w=>w=H/\∃τ',SR X.K B T H σ' τ'/\(∀b,CG σ' τ' b->CG a τ b)/\i τ':=s B T a τ H v x _ i n t h λσ' τ' s o q=>⟨rfl,τ',s,o,q⟩;have h2:=k v a H _ h1;refine p j l a H v u Q I r (m v a H _ _ (λd D q=> ?_) h2);obtain⟨⟨rfl,τ',y,A,C⟩,z⟩:=q;exact c d τ' y A C z
def qG.of {b:kn ke}{a:AT}(h:qG X b a):jg X b (v8 X.K a):=by obtain⟨t,p,s⟩:=h;intro e f d H Q I hw;obtain⟨B,T,τ,g,i,h,c⟩:=hw;exact p e f d H Q I (s B T d τ H Q g i h c)
def SE.of {e:ke}{a:AE}(h:SE X e a):PE X e (uz X.K a):=by obtain⟨t,p,s⟩:=h;intro d f b H Q I hw;obtain⟨B,T,τ,g,i,h,c⟩:=hw;exact p d f b H Q I (s B T b τ H Q g i h c)
def Co {f a:ke}{b:kn ke}{scope:Scope}{own:Nat}{ix:kn Nat}{N:kn Str}{g:AG}{t:AT}{c:AE}(h1:scope.kind= .function)(h2:(scope.names.all λy=> !decide (y.2= .cell))=true)(h3:(scope.names.all λy=> !decide (y.2= .local)||decide (scope.names.lookup y.1=some .local))=true)(h:(scope.names.all λy=> !decide (y.2= .free)||decide (X.env.scope.names.lookup y.1=some .cell))=true)(i:N.length=own+ix.length)(j:WD X (relabel scope X.env) own ix N=true)(d:∀cl C s H ex pn,SK own (blk X (relabel scope X.env) N cl C s H ex pn) f g)(e:∀cl C s H ex pn,qG (blk X (relabel scope X.env) N cl C s H ex pn) b t)(val:∀cl C s H ex pn,SE (blk X (relabel scope X.env) N cl C s H ex pn) a c):XZ X f a b scope own ix N g t c:=
 ⟨tY X.K own g,v8 X.K t,uz X.K c,Xl h1 h2 h3 h i j ci (λcl C s H ex pn=>(d cl C s H ex pn).of) (λcl C s H ex pn=>(e cl C s H ex pn).of) (λcl C s H ex pn=>(val cl C s H ex pn).of),jD,jE,jC⟩
end
mutual
def pd:PV->PyData
 | .bl b=> .bool b
 | .int i=> .int i
 | .str x=> .str x
 | .tup xs=> .tuple (QZ xs)
 | .lst xs=> .list (QZ xs)
 | _=> .none
def QZ:kn PV->kn PyData
 | [] => []
 | x::xs=>pd x::QZ xs
end
mutual
def DW:Nat->PV->kd
 | _, .non=>true
 | _, .bl _=>true
 | _, .int _=>true
 | _, .str x=>PyData.strOk x
 | n+1, .tup xs=>Fk n xs
 | n+1, .lst xs=>Fk n xs
 | _,_=>false
def Fk:Nat->kn PV->kd
 | _, [] =>true
 | n,x::xs=>DW n x&&Fk n xs
end
mutual
theorem HP:∀(n:Nat) (x:PV),DW n x=true->(pd x).canLay0=true/\(pd x).depth<=n/\(pd x).hasDict=false
 | n, .non,_=>⟨rfl,ABs _,rfl⟩
 | n, .bl _,_=>⟨rfl,ABs _,rfl⟩
 | n, .int _,_=>⟨rfl,ABs _,rfl⟩
 | n, .str x,h=>⟨by simpa[pd,PyData.canLay0,DW] using h,ABs _,rfl⟩
 | 0, .tup xs,h=>by simp[DW] at h
 | 0, .lst xs,h=>by simp[DW] at h
 | n+1, .tup xs,h=>by obtain⟨a,b,c⟩:=N3 n xs (by simpa[DW] using h);exact⟨by simpa[pd,PyData.canLay0] using a,by simpa[pd,PyData.depth] using b,by simpa[pd,PyData.hasDict] using c⟩
 | n+1, .lst xs,h=>by obtain⟨a,b,c⟩:=N3 n xs (by simpa[DW] using h);exact⟨by simpa[pd,PyData.canLay0] using a,by simpa[pd,PyData.depth] using b,by simpa[pd,PyData.hasDict] using c⟩
 | n, .tape,h=>by simp[DW] at h
 | n, .scr _,h=>by simp[DW] at h
 | n, .ty _,h=>by simp[DW] at h
 | n, .dct _,h=>by simp[DW] at h
 | n, .dk _,h=>by simp[DW] at h
theorem N3:∀(n:Nat) (xs:kn PV),Fk n xs=true->PyData.canLayAll0 (QZ xs)=true/\PyData.depthAll (QZ xs)<=n/\PyData.hasDictAll (QZ xs)=false
 | n, [],_=>⟨rfl,ABs _,rfl⟩
 | n,x::xs,h=>by simp only[Fk,ABD] at h;obtain⟨a,b,c⟩:=HP n x h.1;obtain⟨d,f,e⟩:=N3 n xs h.2;exact⟨by simp[QZ,PyData.canLayAll0,a,d],by simp only[QZ,PyData.depthAll];omega,by simp[QZ,PyData.hasDictAll,c,e]⟩
end
section
variable {X:Cx}{Tb:kn (ki×Obj)}{σ:L2.St}{H:Hp}{s:kj}
mutual
theorem Gw (I:Inv X Tb σ H s){T M:ki->Prop}:∀(n:Nat) {x:PV} {v:V} {u:km},Ck X.K T M H v x->DW n x=true->RelV v u->∃as,Reads s.heap u (pd x) as
 | _,_,_,_, .non,_,r=>by cases r;exact⟨_, .none⟩
 | _,_,_,_, .bl b,_,r=>by cases r;exact⟨_, .bool b⟩
 | _,_,_,_, .int i,_,r=>by obtain⟨t,rfl⟩:=r;exact⟨_, .int i t⟩
 | _,_,_,_, .str x,_,r=>by obtain⟨t,rfl⟩:=r;exact⟨_, .str x t⟩
 | _,_,_,_, .ty n,h,r=>by simp[DW] at h
 | 0,_,_,_, .tup hq rs,h,r=>by simp[DW] at h
 | 0,_,_,_, .lst hq t m rs,h,r=>by simp[DW] at h
 | n+1,_,_,_, .tup hq rs,h,r=>by cases r;obtain⟨a,rv,⟨o,c,hc,k,hd⟩,_⟩:=I.tuple hq.sq;obtain⟨as,ra⟩:=Gv I n rs (by simpa[DW] using h) rv;exact⟨_, .tuple c hc hd (by simpa using ra)⟩
 | n+1,_,_,_, .lst hq t m rs,h,r=>by cases r;obtain⟨a,rv,⟨o,k,c,hc,_,hd⟩,_⟩:=I.list (Et.of hq);obtain⟨as,ra⟩:=Gv I n rs (by simpa[DW] using h) rv;exact⟨_, .list c hc hd (by simpa using ra)⟩
 | _,_,_,_, .tape _,h,r=>by simp[DW] at h
 | _,_,_,_, .scr _,h,r=>by simp[DW] at h
 | _,_,_,_, .dct _ _ _,h,r=>by simp[DW] at h
 | _,_,_,_, .dk _ _,h,r=>by simp[DW] at h
theorem Gv (I:Inv X Tb σ H s){T M:ki->Prop}:∀(n:Nat) {xs:kn PV} {vs:kn V} {a:kn km},A3 X.K T M H vs xs->Fk n xs=true->Ax vs a->∃as,ReadsAll s.heap a (QZ xs) as
 | _,_,_,_, .nil,_,r=>by cases r;exact⟨_, .nil⟩
 | n,_,_,_, .cons h t,hk,r=>by
   simp only[Fk,ABD] at hk;cases r with
   | cons r b=> obtain⟨as,ra⟩:=Gw I n h hk.1 r;obtain⟨bs,c⟩:=Gv I n t hk.2 b;exact⟨_, .cons ra c⟩
end
end
section
variable {X:Cx}
def lJ (x y:PV):kd:=PyData.eqv (pd x) (pd y)
def ig (K:AAB)(neg:kd):R2:=λu v H Q=>∃(T M:ki->Prop) (x y:PV),Ck K T M H u x/\Ck K T M H v y/\DW 30 x=true/\DW 30 y=true/\Q (.bl (if neg then !lJ x y else lJ x y)) H
def nC {k:Nat}(c:Room k X.A):D1 X (compareOp .Eq) (ig X.K false):=by intro l s m H u v n o Q I d rv h;obtain⟨T,M,x,y,e,f,a,b,q⟩:=h;obtain⟨as,ra⟩:=Gw I 30 e a d;obtain⟨bs,g⟩:=Gw I 30 f b rv;obtain⟨i,p,_⟩:=HP 30 x a;obtain⟨j,b2,_⟩:=HP 30 y b;exact SeqAt.compareEq_reads ra g i j (by have:=c.un;omega) ⟨.bl _,H,I,rfl,q⟩
def nE {k:Nat}(c:Room k X.A):D1 X (compareOp .NotEq) (ig X.K true):=by intro l s m H u v n o Q I d rv h;obtain⟨T,M,x,y,e,f,a,b,q⟩:=h;obtain⟨as,ra⟩:=Gw I 30 e a d;obtain⟨bs,g⟩:=Gw I 30 f b rv;obtain⟨i,p,_⟩:=HP 30 x a;obtain⟨j,b2,_⟩:=HP 30 y b;exact SeqAt.compareNe_reads ra g i j (by have:=c.un;omega) ⟨.bl _,H,I,rfl,q⟩
def Lh:Hl:=λx y Q=>match d4 x y with | some b=>Q (.bl b)|none=>(DW 30 x=true/\DW 30 y=true)/\Q (.bl (lJ x y))
def gO:Hl:=λx y Q=>match d4 x y with | some b=>Q (.bl (!b))|none=>(DW 30 x=true/\DW 30 y=true)/\Q (.bl (!lJ x y))
def rj (K:AAB):R2:=λx y H Q=>yF x y H Q\/ig K false x y H Q
def sD (K:AAB):R2:=λx y H Q=>yG x y H Q\/ig K true x y H Q
def DS {k:Nat}(c:Room k X.A):D1 X (compareOp .Eq) (rj X.K)/\B9 X.K (rj X.K) Lh:=by
 refine⟨rQ.or (nC c),λT M H u v x y Q d va a rv h k=> ?_⟩;unfold Lh at h;split at h
 .rename_i b e;obtain⟨h1,h2⟩:=VI a rv e;refine .inl ⟨h1, ?_⟩;rw[h2];exact k _ _ T H (.refl va.tp) (.bl _) h
 .exact .inr ⟨T,M,x,y,a,rv,h.1.1,h.1.2,k _ _ T H (.refl va.tp) (.bl _) h.2⟩
def VL {k:Nat}(c:Room k X.A):D1 X (compareOp .NotEq) (sD X.K)/\B9 X.K (sD X.K) gO:=by
 refine⟨rT.or (nE c),λT M H u v x y Q d va a rv h k=> ?_⟩;unfold gO at h;split at h
 .rename_i b e;obtain⟨h1,h2⟩:=VI a rv e;refine .inl ⟨h1, ?_⟩;rw[h2];exact k _ _ T H (.refl va.tp) (.bl _) h
 .exact .inr ⟨T,M,x,y,a,rv,h.1.1,h.1.2,k _ _ T H (.refl va.tp) (.bl _) h.2⟩
structure kU (x:PV):Prop where
 ok:DW 30 x=true
 sh:(pd x).showable=true
 sz:(pd x).shown.length<=sizeLine
end
section
variable {prog:gn}{w:fe}{A:Wf}{E:km->kj->Prop}{s:kj}
def Lj {h:cb}{l:ki}{items:Array km}(hl:h.IsList l items)(o:Obj):(h.push o).IsList l items:=by obtain⟨a,e,r⟩:=hl;exact⟨a,AAG _ e,r⟩
theorem QH {it t:ki}{items:Array km}(f:t≠it):∀(n i:Nat) (s:kj) (Q:kn km->kj->Prop),s.heap.IsListIter it t i->s.heap.IsList t items->i+n<=items.size-> (∀h',h'.IsListIter it t (i+n)->Heap.SameBut it s.heap h'->Q ((items.toList.drop i).take n) {s with heap:=h'})->wpAny (model prog w) A (draw (.ref it) n) Q E s
 | 0,i,s,Q,hit,_,_,hQ=>by show wpAny _ _ (pure []) Q E s;exact AAC (by simpa using hQ s.heap hit (Heap.SameBut.refl ..))
 | n+1,i,s,Q,hit,ht,ak,hQ=>by
   have g:i<items.size:=by omega
   show wpAny _ _ (pyNext (.ref it) >>= _) Q E s;refine AAA (wpAny_pyNext_list_item hit ht (x:=items[i]) (by simp[g]) λh b a=> ?_);refine AAA (AAg (QH f n (i+1) _ _ b (ht.extBut a.extBut f) (by omega) λe c d=>AAC ?_));have hd:items.toList.drop i=items[i] :: items.toList.drop (i+1):=by simp[AEW,g]
   have:=hQ e (by rw[show i+(n+1)=i+1+n by omega];exact c) (a.trans d);rw[hd,List.take_succ_cons] at this;exact this
def LW {t:ki}{items:Array km}{Q:kn km->kj->Prop}(k:A.handled=none)(g:s.heap.IsList t items)(hQ:∀h',Heap.ExtBut s.heap.objs.size s.heap h'->Q items.toList {s with heap:=h'}):wpAny (model prog w) A (unpackItems (.ref t) items.size none) Q E s:=by
 have j:t≠s.heap.objs.size:=by obtain⟨o,l,_⟩:=g;exact AAN (AAF l)
 unfold unpackItems;refine AAA ?_
 .unfold notIterableAtAll;refine AAA (ABr g.typeIs slot_list_iter.lookup ?_);refine AAC ?_;simp only[ABA,AAo];refine AAA (AAg (AC9 g ?_));refine AAA (AAg (QH j items.size 0 _ _ ⟨_,AAO _ rfl,rfl,rfl⟩ (Lj g _) (by omega) λh c a=> ?_));have m:List.take items.size (List.drop 0 items.toList)=items.toList:=by rw[List.drop_zero];exact ACp (by simp)
  rw[m];rw[AAD (by simp)];have d:h.IsList t items:=(Lj g _).extBut a.extBut j;refine AAA (AAg (wpAny_pyNext_list_end k c d (by simp) λi f=> ?_));simp only[Option.isSome_none,ABA,AAo];refine AAC (hQ i λb o hb e=>f b o hb (a.extBut b o hb (AAG _ e)))
def Jg {env:Env}{elts:kn ke}{x1}{pos:Pos}{t:ki}{items:Array km}{Q:Unit->kj->Prop}(a:A.handled=none)(b:s.heap.IsList t items)(c:(assignEach elts env).length=items.size)(d:(assignEach elts env).findIdx? (·.1)=none)(h:∀h',Heap.ExtBut s.heap.objs.size s.heap h'->wpAny (model prog w) A (assignInOrder ((assignEach elts env).map (·.2)) items.toList) Q E {s with heap:=h'}):wpAny (model prog w) A (assign (.Tuple elts x1 pos) env (.ref t)) Q E s:=by rw[assign_Tuple];refine AAA (ACD ?_);unfold unpack;rw[c,d];exact AAA (AAg (LW a b h))
end
section
variable {X:Cx}{pos:Pos}
def WG (K:AAB)(n:Nat)(t:Vs):TG:=λv b H Q=>∃a xs,v= .ref a/\(Kx K H a xs\/Et K H a xs)/\xs.length=n/\t xs b H Q
def SL {es:kn ke}{k:Nat}{t:Vs}{n:Nat}(hc:X.calm=true)(h:pK X es t)(l:(assignEach es X.env).length=n:=by rfl)(m:(assignEach es X.env).findIdx? (·.1)=none:=by rfl):PG X (.Tuple es k pos) (WG X.K n t):=by
 intro d s f H v u Q I r hw;obtain⟨a,xs,p,c,hl,hw⟩:=hw;subst p;cases r;rcases c with c|c
 .obtain ⟨g,rv,i,w⟩:=I.tuple c;refine assign_Tuple_tuple (I.ok.hd hc) i (by simp[l,<-hl,rv.length]) m λh' hx=> ?_;have j:Inv X d f H {s with heap:=h'}:=I.kept (t':=s.toks) λb o e=>hx b o (AAN (AAF e)) e;exact h d _ f H xs _ Q j (by simpa using rv) hw
 .obtain ⟨g,rv,i,w⟩:=I.list c;refine Jg (I.ok.hd hc) i.isList (by simp[l,<-hl,rv.length]) m λh' hx=> ?_;have j:Inv X d f H {s with heap:=h'}:=I.kept (t':=s.toks) λb o e=>hx b o (AAN (AAF e)) e;exact h d _ f H xs _ Q j (by simpa using rv) hw
def Hm (n:Nat)(r:Vb):AG:=λx τ Q=>Uy x λxs=>xs.length=n/\r xs τ Q
def eG {K:AAB}{n:Nat}{d:Vs}{a:Vb}(s:P7 K d a):RH K (WG K n d) (Hm n a):=λB T e τ H v x Q f g r h k=>by
 obtain⟨xs,hx,h⟩:=K7 h;rcases hx with rfl|rfl
 .obtain ⟨p,vs,rfl,c,b⟩:=Dp r;exact⟨p,vs,rfl, .inl c,by rw[b.length];exact h.1,s B T e τ H vs _ Q f g b h.2 k⟩
 .obtain ⟨p,vs,rfl,c,i,j,b⟩:=Dx r;exact⟨p,vs,rfl, .inr (.inl (.inl c)),by rw[b.length];exact h.1,s B T e τ H vs _ Q f g b h.2 k⟩
def Bc {es:kn ke}{k:Nat}{a:Vb}{n:Nat}(hc:X.calm=true)(h:tT X es a)(b:(assignEach es X.env).length=n:=by rfl)(c:(assignEach es X.env).findIdx? (·.1)=none:=by rfl):SG X (.Tuple es k pos) (Hm n a):=
 let ⟨_,p,s⟩:=h;⟨_,SL hc p b c,eG s⟩
def cI {own:Nat}{K:AAB}{n:Nat}{t:Vs}(h:NP own t):NO own (WG K n t):=λv b H Q ⟨a,xs,e,h1,h2,h3⟩=>⟨a,xs,e,h1,h2,h xs b H Q h3⟩
def XC {own:Nat}{es:kn ke}{k:Nat}{b:Vb}{n:Nat}(hc:X.calm=true)(h:tU own X es b)(c:(assignEach es X.env).length=n:=by rfl)(d:(assignEach es X.env).findIdx? (·.1)=none:=by rfl):SK own X (.Tuple es k pos) (Hm n b):=
 let ⟨_,p,s,f,m⟩:=h;⟨_,SL hc p c d,eG s,cI f,λv g H Q i z ⟨a,xs,e,h1,h2,h3⟩=>⟨a,xs,e,h1,h2,m _ _ _ _ _ z h3⟩⟩
def mD:pL X .Mult (λx y H Q=>∃i j,x= .int i/\y= .int j/\MulOk i j/\Q (.int (i*j)) H):=by intro f s g H x y v u Q I a b h;obtain⟨i,j,d,e,c,q⟩:=h;subst d;subst e;obtain⟨t,rfl⟩:=a;obtain⟨t',rfl⟩:=b;exact AutoIntOps.imul_0 (show (Made.int (i*j)).post _ _ from⟨.int _,H,I.tok _,⟨_,rfl⟩,q⟩) (.of_le (HJ c.l) (HJ c.r) (by decide))
def oN:pL X .Mult (λx y H Q=>∃i j,x= .int i/\y= .int j/\MulOk i j/\Q (.int (i*j)) H)/\B9 X.K (λx y H Q=>∃i j,x= .int i/\y= .int j/\MulOk i j/\Q (.int (i*j)) H) BV:=⟨mD,λT M H u v x y Q b va a rv h k=>by
 obtain⟨i,j,rfl,rfl,c,q⟩:=SD h;exact⟨i,j,a.toI,rv.toI,c,k _ _ T H (.refl va.tp) (.int _) q⟩⟩
end
def OX {i:Int}(a:0<=i)(b:i<2147483647): -(2^64)<i/\i<2^64:=⟨by omega,by omega⟩
def b01 (b:kd):(0:Int)<=(if b=true then 1 else 0):=by cases b <;> decide
def xi (b:kd): -(2^64)<(if b=true then (1:Int) else 0)/\(if b=true then (1:Int) else 0)<2^64:=by cases b <;> decide
def e6 {T:ki->Prop}{H:Hp}{p:ki}{d x:Int}(tp:∀a,T a->E8 H a)(t:T p)(c:0<=d)(f:0<=x)(g:x<2147483647):DB T H T (upd H p (.lst [.int d, .int x])) where
 keep:=λb o n e=>by rw[Ai (λz=>n (by subst z;exact t))];exact e
 sub:=λ_ t=>t
 new:=λ_ t=> .inl t
 tp:=λa h=>by
  by_cases z:a=p
  .subst z;exact⟨d,x,Aj,c,f,g⟩
  .obtain ⟨d',i,e,q⟩:=tp a h;exact⟨d',i,by rw[Ai z];exact e,q⟩
def ef {T:ki->Prop}{H:Hp}{p:ki}{d x:Int}(tp:∀a,T a->E8 H a)(hp:H p=none)(f:0<=d)(g:0<=x)(h:x<2147483647):DB T H (λb=>T b\/b=p) (upd H p (.lst [.int d, .int x])) where
 keep:=λb o n e=>by rw[Ai (Az e hp)];exact e
 sub:=λ_ t=> .inl t
 new:=λb t=>t.elim .inl λz=> .inr (by subst z;exact hp)
 tp:=λa c=>by
  by_cases z:a=p
  .subst z;exact⟨d,x,Aj,f,g,h⟩
  .rcases c with c|c
   .obtain ⟨d',i,e,q⟩:=tp a c;exact⟨d',i,by rw[Ai z];exact e,q⟩
   .exact absurd c z
def law_sp {K:AAB}{H:Hp}{a:ki}{ns:kn Int}{F:AF}(b:Et K H a (ns.map V.int))(h:F [.scr ns] λx=>x= .bl true):CH K 1 F [.ref a] H (λv _=>v= .bl true) λ_ _ _=>False:=by
 refine⟨λ_=>False,λ_=>False, [.scr ns],_,⟨λ_ z=>z.elim,λ_ z=>z.elim⟩,λ_ z=>z.elim, .cons (.scr ?_) .nil,rfl,h,λv x c d _ r e=> ?_⟩
 .rcases b with h|h
  .exact .inl ⟨h,id,id⟩
  .exact .inr λH=> .inr h
 .subst e;cases r;rfl
theorem Js {g:AG}{b:AS}{D:JG}(a:kn PV->BE->Prop)(hd:∀τ,a [] τ->D.nx τ)(hs:∀x r τ (R:BE->Prop),(∀τ,a r τ->R τ)->a (x::r) τ->g x τ λc=>b {D with nx:=R,ct:=R,bk:=D.nx} c):∀xs τ,a xs τ->DE g b D xs τ
 | [],τ,h=>hd τ h
 | x::r,τ,h=>hs x r τ _ (λd h2=>Js a hd hs r d h2) h
theorem Xj {g:AG}{t:AT}{f:AE}{b:BE}{Q:kn PV->Prop}(c:kn PV->kn PV->Prop)(hd:∀a,c [] a->Q a)(hs:∀x r a (R:kn PV->Prop),(∀a,c r a->R a)->c (x::r) a->g x b λd=>t d λok=>if ok=true then f d λy=>R (a ++ [y]) else R a):∀xs a,c xs a->DC g t f b Q xs a
 | [],a,h=>hd a h
 | x::r,a,h=>hs x r a _ (λe h2=>Xj c hd hs r e h2) h
def J5 (lo:Int)(n:Nat):rng lo (n+1)= .int lo::rng (lo+1) n:=by
 unfold rng;rw[List.range_succ_eq_map,AAM,AA7];congr 1
 .simp
 .apply AB2;intro k _;simp only[Function.comp];congr 1;omega
def W2 (lo:Int)(n:Nat):(rng lo n).length=n:=by simp[rng]
end PL
namespace PL
open PySem L2 PyProof.Rows
def fr (r:Rat):PV:= .tup [.int r.num, .int (r.den:Int)]
def UY {b:kd}{A B:Prop}(h1:b=true->A)(h2:b=false->B):if b=true then A else B:=by
 cases b with
 | true=>rw[AAE rfl];exact h1 rfl
 | false=>rw[AAD AAc];exact h2 rfl
structure Bd (n:Nat) (r:Rat):Prop where
 top:r.num.natAbs<2^n
 bot:r.den<2^n
def Bd.botI {n:Nat}{r:Rat}(b:Bd n r):(r.den:Int).natAbs<2^n:=by simpa using b.bot
def OA {m n:Nat}(h:m<=n):2^m<=2^n:=ACs (by decide) h
def Bd.mono {m n:Nat}{r:Rat}(b:Bd m r)(h:m<=n):Bd n r:=⟨AAX b.top (OA h),AAX b.bot (OA h)⟩
def Wj {a b m n:Nat}(ha:a<2^m)(hb:b<2^n):a*b<2^(m+n):=by rw[ADE];exact Nat.mul_lt_mul_of_lt_of_le ha (AC0 hb) (Nat.pos_of_ne_zero (by intro z;rw[z] at hb;omega)) |> λh=>h
def A8 {a b:Int}{m n:Nat}(ha:a.natAbs<2^m)(hb:b.natAbs<2^n):(a*b).natAbs<2^(m+n):=by rw[ABL];exact Wj ha hb
def Xc {a b:Int}{n:Nat}(ha:a.natAbs<2^n)(hb:b.natAbs<2^n):(a+b).natAbs<2^(n+1):=by rw[ADF];omega
def Yr {a b:Int}{n:Nat}(ha:a.natAbs<2^n)(hb:b.natAbs<2^n):(a-b).natAbs<2^(n+1):=by rw[ADF];omega
def Aw {a m n:Nat}(h:a<2^m)(b:m<=n):a<2^n:=AAX h (OA b)
def MulOk.of {a b:Int}{m n:Nat}(ha:a.natAbs<2^m)(hb:b.natAbs<2^n)(c:m<=1000000:=by omega)(d:n<=1000000:=by omega):MulOk a b:=⟨Aw ha c,Aw hb d⟩
def V7 (t b:Int):(Rat.divInt t b).num.natAbs<=t.natAbs:=by
 rw[ADn];by_cases h:b=0
 .subst h;simp
 .have e:(b.gcd t:Int) ∣ b.sign*t:=Int.dvd_trans (Int.gcd_dvd_right ..) (Int.dvd_mul_left ..);rw[Int.natAbs_ediv_of_dvd e,ABL];refine AAU (ACZ _ _) ?_;rw[Int.natAbs_sign_of_ne_zero h];omega
def V6 (t b:Int)(h:b≠0):(Rat.divInt t b).den<=b.natAbs:=by rw[AEX,AAD h];exact ACZ _ _
def Bd.divInt {n:Nat}{t b:Int}(h:b≠0)(a:t.natAbs<2^n)(hb:b.natAbs<2^n):Bd n (Rat.divInt t b):=
 ⟨AAw (V7 t b) a,AAw (V6 t b h) hb⟩
def BU (a:Rat):(a.den:Int)≠0:=by have:=a.den_pos;omega
def IM (a b:Rat):a+b=Rat.divInt (a.num*b.den+b.num*a.den) (a.den*b.den):=by have h:=AEY a.num b.num (BU a) (BU b);rw[ABQ,ABQ] at h;exact h
def JC (a b:Rat):a-b=Rat.divInt (a.num*b.den-b.num*a.den) (a.den*b.den):=by have h:=Rat.divInt_sub_divInt a.num b.num (BU a) (BU b);rw[ABQ,ABQ] at h;exact h
def Ic (a b:Rat):a*b=Rat.divInt (a.num*b.num) (a.den*b.den):=by have h:=AEZ a.num b.num (d₁:=a.den) (d₂:=b.den);rw[ABQ,ABQ] at h;exact h
def Fi (a b:Rat):a/b=Rat.divInt (a.num*b.den) (a.den*b.num):=by rw[ADo,Rat.inv_def];have h:=AEZ a.num b.den (d₁:=a.den) (d₂:=b.num);rw[ABQ] at h;exact h
def Cr {a b:Int}(ha:a≠0)(hb:b≠0):a*b≠0:=Int.mul_ne_zero ha hb
def Ru {b:Rat}(h:b≠0):b.num≠0:=λz=>h (Rat.num_eq_zero.mp z)
def Bd.add {m n:Nat}{a b:Rat}(ha:Bd m a)(hb:Bd n b):Bd (m+n+1) (a+b):=by
 rw[IM];refine .divInt (Cr (BU a) (BU b)) (Xc (A8 ha.top (by simpa using hb.bot)) ?_) ?_
 .rw [Nat.add_comm m n];exact A8 hb.top (by simpa using ha.bot)
 .exact Aw (A8 (by simpa using ha.bot) (by simpa using hb.bot)) (by omega)
def Bd.sub {m n:Nat}{a b:Rat}(ha:Bd m a)(hb:Bd n b):Bd (m+n+1) (a-b):=by
 rw[JC];refine .divInt (Cr (BU a) (BU b)) (Yr (A8 ha.top (by simpa using hb.bot)) ?_) ?_
 .rw [Nat.add_comm m n];exact A8 hb.top (by simpa using ha.bot)
 .exact Aw (A8 (by simpa using ha.bot) (by simpa using hb.bot)) (by omega)
def Bd.mul {m n:Nat}{a b:Rat}(ha:Bd m a)(hb:Bd n b):Bd (m+n) (a*b):=by rw[Ic];exact .divInt (Cr (BU a) (BU b)) (A8 ha.top hb.top) (A8 (by simpa using ha.bot) (by simpa using hb.bot))
def Bd.div {m n:Nat}{a b:Rat}(h:b≠0)(ha:Bd m a)(hb:Bd n b):Bd (m+n) (a/b):=by rw[Fi];exact .divInt (Cr (BU a) (Ru h)) (A8 ha.top (by simpa using hb.bot)) (A8 (by simpa using ha.bot) hb.top)
def Bd.neg {n:Nat}{a:Rat}(ha:Bd n a):Bd n (-a):=⟨by show (-a.num).natAbs<_;rw[AB3];exact ha.top,ha.bot⟩
def lS (n:Int):fr (n:Rat)= .tup [.int n, .int 1] :=by simp[fr]
def Bd.int {n:Int}{k:Nat}(h:n.natAbs<2^k)(hk:1<=k):Bd k (n:Rat):=⟨by simpa using h,by simp;omega⟩
def av:AS:=
 (Ae (Vv (A6 (AW gO (aV 1) (aC (.int 0)))) (ML 0 1 (AB (aV 1) (AB (AW RO (aV 0) (aV 1)) AM))))
   (As (aV 0)))
def FO:AF:=Ar 2 av
def GX (x y:Nat)(Q:PV->Prop)(h:Q (.int (Nat.gcd x y:Nat))):FO [.int x, .int y] Q:=by
 have go:∀y x:Nat,∀D:JG,D.nx [some (.val (.int (Nat.gcd x y:Nat))),some (.val (.int 0))] ->∃n,XU (A6 (AW gO (aV 1) (aC (.int 0)))) (ML 0 1 (AB (aV 1) (AB (AW RO (aV 0) (aV 1)) AM))) D n [some (.val (.int x)),some (.val (.int y))] :=by
  intro y;induction y using Nat.strongRecOn with
  | _ y d=>
    intro x D c;by_cases hy:y=0
    .subst hy;refine⟨1, ?_⟩;rw[Nat.gcd_zero_right] at c;exact c
    .obtain ⟨n,a⟩:=d (x % y) (Nat.mod_lt _ (by omega)) y D (by rw[ACt y,<-Nat.gcd_rec,ACt y];exact c);refine⟨n+1, ?_⟩;refine UY (b:= !decide ((y:Int)=0)) (λ_=> ?_) (λz=> ?_)
     .have e:(x:Int).fmod (y:Int)=((x % y:Nat):Int):=by rw[AEI _ (by omega)];simp
      refine⟨by omega, ?_⟩;rw[<-e] at a;exact a
     .have:(y:Int)=0:=by simpa using z
      omega
 obtain⟨n,a⟩:=go y x {nx:=λτ=>As (aV 0) {nx:=λ_=>Q .non,rt:=Q,bk:=λ_=>False,ct:=λ_=>False} τ,rt:=Q,bk:=λ_=>False,ct:=λ_=>False} h;exact⟨n,a⟩
def Yw:AS:=
 (Ae (CA (A6 (AW ZY (aV 1) (aC (.int 0)))) (Ao (PC Gg (aV 2)) (An 2)) BO)
   (As (Ak (AB (AW PQ (aV 0) (aV 2)) (AB (AW PQ (aV 1) (aV 2)) AM)))))
def kH:AS:=
 (Ae (Ao (AN 2 FO (AB (HI Zb (AB (aV 0) AM)) (AB (HI Zb (AB (aV 1) AM)) AM))) (An 2))
   Yw)
def Fg:AF:=Ar 3 kH
def dH (t b:Int)(hb:b≠0):∀s:Int,s=(if b<0 then -(Nat.gcd t.natAbs b.natAbs:Int) else (Nat.gcd t.natAbs b.natAbs:Int))->s≠0/\t.fdiv s=(Rat.divInt t b).num/\b.fdiv s=((Rat.divInt t b).den:Int):=by
 intro s hs;have g:0<Nat.gcd t.natAbs b.natAbs:=ACu _ (by omega);have f:b.gcd t=Nat.gcd t.natAbs b.natAbs:=by rw[AFB,ACt]
 have a:(Nat.gcd t.natAbs b.natAbs:Int) ∣ t:=by rw[<-Int.dvd_natAbs];exact Int.ofNat_dvd.mpr (AEa ..)
 have c:(Nat.gcd t.natAbs b.natAbs:Int) ∣ b:=by rw[<-Int.dvd_natAbs];exact Int.ofNat_dvd.mpr (ACa ..)
 have d:s ∣ t:=by rw[hs];split <;> first | exact Int.neg_dvd.mpr a|exact a
 have e:s ∣ b:=by rw[hs];split <;> first | exact Int.neg_dvd.mpr c|exact c
 refine⟨by rw[hs];split <;> omega, ?_, ?_⟩
 .rw [AFC d,ADn,f,hs];by_cases h:b<0
  .rw [AAE h,AFD h,Int.ediv_neg];have:(-1:Int)*t= -t:=by omega
   rw[this,Int.neg_ediv_of_dvd a]
  .rw [AAD h,AEb (by omega),ADG]
 .rw [AFC e,AEX,AAD hb,f,hs];by_cases h:b<0
  .rw [AAE h,Int.ediv_neg];have:(b.natAbs:Int)= -b:=by omega
   rw[ACb,this,Int.neg_ediv_of_dvd c]
  .rw [AAD h];have:(b.natAbs:Int)=b:=by omega
   rw[ACb,this]
def Dv (t b:Int)(hb:b≠0)(f:b.natAbs<2^8900)(Q:PV->Prop)(h:Q (fr (Rat.divInt t b))):Fg [.int t, .int b] Q:=by
 have g:0<Nat.gcd t.natAbs b.natAbs:=ACu _ (by omega);have gl:Nat.gcd t.natAbs b.natAbs<2^8900:=AAw (ACc (by omega) (ACa ..)) f;obtain⟨a,c,d⟩:=dH t b hb _ rfl;refine⟨rfl,GX _ _ _ ?_⟩;refine UY (b:=decide (b<0)) (λz=> ?_) (λz=> ?_)
 .have e:b<0:=AB4 z;rw[AAE e] at a c d;refine⟨⟨a,by rw[AB3];exact gl⟩,⟨a,by rw[AB3];exact gl⟩,(show 2<=sizeLine by decide), ?_⟩;unfold fr at h;rw[<-c,<-d] at h;exact h
 .have e:¬b<0:=AEc z;rw[AAD e] at a c d;refine⟨⟨a,gl⟩,⟨a,gl⟩,(show 2<=sizeLine by decide), ?_⟩;unfold fr at h;rw[<-c,<-d] at h;exact h
def Bd.mt {n:Nat}{a b:Rat}(ha:Bd 4000 a)(hb:Bd 4000 b):MulOk a.num b.den/\MulOk b.num a.den/\MulOk a.den b.den/\MulOk a.num b.num/\MulOk a.den b.num:=
 ⟨.of ha.top (by simpa using hb.bot), .of hb.top (by simpa using ha.bot), .of (by simpa using ha.bot) (by simpa using hb.bot), .of ha.top hb.top, .of (by simpa using ha.bot) hb.top⟩
def QG {a b:Rat}(ha:Bd 4000 a)(hb:Bd 4000 b):((a.den:Int)*(b.den:Int)).natAbs<2^8900:=Aw (A8 (a:=(a.den:Int)) (by simpa using ha.bot) (by simpa using hb.bot)) (by omega)
def kI:AS:=
 (As (AN 2 Fg (AB (AW Ba (AW BV (AW Ah (aV 0) (aC (.int 0))) (AW Ah (aV 1) (aC (.int 1)))) (AW BV (AW Ah (aV 1) (aC (.int 0))) (AW Ah (aV 0) (aC (.int 1))))) (AB (AW BV (AW Ah (aV 0) (aC (.int 1))) (AW Ah (aV 1) (aC (.int 1)))) AM))))
def E5:AF:=Ar 2 kI
def Y9 {a b:Rat}(ha:Bd 4000 a)(hb:Bd 4000 b){Q:PV->Prop}(h:Q (fr (a+b))):E5 [fr a,fr b] Q:=by obtain⟨m1,m2,m3,_⟩:=Bd.mt (n:=0) ha hb;refine⟨m1,m2,m3,rfl,Dv _ _ (Cr (BU a) (BU b)) (QG ha hb) _ ?_⟩;rw[IM] at h;exact h
def fY:AS:=
 (As (AN 2 Fg (AB (AW GL (AW BV (AW Ah (aV 0) (aC (.int 0))) (AW Ah (aV 1) (aC (.int 1)))) (AW BV (AW Ah (aV 1) (aC (.int 0))) (AW Ah (aV 0) (aC (.int 1))))) (AB (AW BV (AW Ah (aV 0) (aC (.int 1))) (AW Ah (aV 1) (aC (.int 1)))) AM))))
def EL:AF:=Ar 2 fY
def Vm {a b:Rat}(ha:Bd 4000 a)(hb:Bd 4000 b){Q:PV->Prop}(h:Q (fr (a-b))):EL [fr a,fr b] Q:=by obtain⟨m1,m2,m3,_⟩:=Bd.mt (n:=0) ha hb;refine⟨m1,m2,m3,rfl,Dv _ _ (Cr (BU a) (BU b)) (QG ha hb) _ ?_⟩;rw[JC] at h;exact h
def fZ:AS:=
 (As (AN 2 Fg (AB (AW BV (AW Ah (aV 0) (aC (.int 0))) (AW Ah (aV 1) (aC (.int 0)))) (AB (AW BV (AW Ah (aV 0) (aC (.int 1))) (AW Ah (aV 1) (aC (.int 1)))) AM))))
def Ja:AF:=Ar 2 fZ
def Vn {a b:Rat}(ha:Bd 4000 a)(hb:Bd 4000 b){Q:PV->Prop}(h:Q (fr (a*b))):Ja [fr a,fr b] Q:=by obtain⟨_,_,m3,m4,_⟩:=Bd.mt (n:=0) ha hb;refine⟨m4,m3,rfl,Dv _ _ (Cr (BU a) (BU b)) (QG ha hb) _ ?_⟩;rw[Ic] at h;exact h
def kF:AS:=
 (As (AN 2 Fg (AB (AW BV (AW Ah (aV 0) (aC (.int 0))) (AW Ah (aV 1) (aC (.int 1)))) (AB (AW BV (AW Ah (aV 0) (aC (.int 1))) (AW Ah (aV 1) (aC (.int 0)))) AM))))
def IH:AF:=Ar 2 kF
def Y8 {a b:Rat}(c:b≠0)(ha:Bd 4000 a)(hb:Bd 4000 b){Q:PV->Prop}(h:Q (fr (a/b))):IH [fr a,fr b] Q:=by obtain⟨m1,_,_,_,m5⟩:=Bd.mt (n:=0) ha hb;refine⟨m1,m5,rfl,Dv _ _ (Cr (BU a) (Ru c)) (Aw (A8 (a:=(a.den:Int)) (by simpa using ha.bot) hb.top) (by omega)) _ ?_⟩;rw[Fi] at h;exact h
def Mq:AS:=
 (Ae (Ao (AW GL (aC (.int 1)) (AW BV (aC (.int 2)) (HI lU (AB (AW ZY (aV 1) (aC (.int 0))) AM)))) (An 2))
   (As (Ak (AB (AW PQ (AW BV (aV 2) (aV 0)) (aV 3)) (AB (AW PQ (AW BV (aV 2) (aV 1)) (aV 3)) AM)))))
def Mp:AS:=
 (Ae (Vv (A6 (AW V9 (aV 4) (aC (.int 0)))) (ML 3 4 (AB (aV 4) (AB (AW RO (aV 3) (aV 4)) AM))))
   Mq)
def TM:AS:=
 (Ae (ML 3 4 (AB (HI Zb (AB (aV 0) AM)) (AB (HI Zb (AB (aV 1) AM)) AM)))
   Mp)
def A4:AF:=Ar 5 TM
def Rn (t b:Int)(hb:b≠0):∀s:Int,s=(if b<0 then -1 else 1)->(s*t).fdiv (Nat.gcd t.natAbs b.natAbs:Int)=(Rat.divInt t b).num/\(s*b).fdiv (Nat.gcd t.natAbs b.natAbs:Int)=((Rat.divInt t b).den:Int):=by
 intro s hs;have c:0<Nat.gcd t.natAbs b.natAbs:=ACu _ (by omega);have a:b.gcd t=Nat.gcd t.natAbs b.natAbs:=by rw[AFB,ACt]
 have es:b.sign=s:=by
  rw[hs];split
  .rename_i h;exact AFD h
  .exact AEb (by omega)
 rw[ADn,AEX,AAD hb,a,es,ACI _ (by omega),ACI _ (by omega)];refine⟨rfl, ?_⟩;rw[ACb];congr 1;rw[hs];split <;> omega
def B4 (t b:Int)(hb:b≠0)(g:t.natAbs<2^900000)(d:b.natAbs<2^8900){Q:PV->Prop}(h:Q (fr (Rat.divInt t b))):A4 [.int t, .int b] Q:=by
 have k:0<Nat.gcd t.natAbs b.natAbs:=ACu _ (by omega);have gl:Nat.gcd t.natAbs b.natAbs<2^8900:=AAw (ACc (by omega) (ACa ..)) d;have sg:(1:Int)-2*(if decide (b<0)=true then 1 else 0)=(if b<0 then -1 else 1):=by by_cases z:b<0 <;> simp[z]
 obtain⟨i,a⟩:=Rn t b hb _ sg;have go:∀y x:Nat,∀D:JG,∀u v w,D.nx [u,v,w,some (.val (.int (Nat.gcd x y:Nat))),some (.val (.int 0))] ->∃n,XU (A6 (AW V9 (aV 4) (aC (.int 0)))) (ML 3 4 (AB (aV 4) (AB (AW RO (aV 3) (aV 4)) AM))) D n [u,v,w,some (.val (.int x)),some (.val (.int y))] :=by
  intro y;induction y using Nat.strongRecOn with
  | _ y j=>
    intro x D u v w c;by_cases hy:y=0
    .subst hy;refine⟨1, ?_⟩;rw[Nat.gcd_zero_right] at c;exact c
    .obtain ⟨n,e⟩:=j (x % y) (Nat.mod_lt _ (by omega)) y D u v w (by rw[ACt y,<-Nat.gcd_rec,ACt y];exact c);refine⟨n+1, ?_⟩;refine UY (b:=decide (0<(y:Int))) (λ_=> ?_) (λz=> ?_)
     .have a:(x:Int).fmod (y:Int)=((x % y:Nat):Int):=by rw[AEI _ (by omega)];simp
      refine⟨by omega, ?_⟩;rw[<-a] at e;exact e
     .have:¬(0:Int)<y:=AEc z;omega
 refine go b.natAbs t.natAbs _ (some (.val (.int t))) (some (.val (.int b))) none ?_;have one:(1:Int).natAbs<2^1:=by decide
 have f:((1:Int)-2*(if decide (b<0)=true then 1 else 0)).natAbs<2^1:=by rw[sg];split <;> decide
 refine⟨.of (m:=2) (n:=1) (by decide) (by split <;> decide), .of f g,⟨by omega,gl⟩, .of f d,⟨by omega,gl⟩,(show 2<=sizeLine by decide), ?_⟩;unfold fr at h;rw[<-i,<-a] at h;exact h
def Eu {m:Int}{Q:PV->Prop}(m0:0<m)(m1:m<4611686018427387904)(h:∀r,0<=r->r<m->Q (.int r)):At [.tape, .int m] Q:=⟨⟨m0,m1⟩,h⟩
mutual
def okS:Nat->PV->kd
 | 0,_=>false
 | _+1, .non=>true
 | _+1, .bl _=>true
 | _+1, .int _=>true
 | n+1, .tup xs=>rO n xs&&decide (xs.length<sizeLine)
 | _+1,_=>false
def rO:Nat->kn PV->kd
 | _, [] =>true
 | n,x::xs=>okS n x&&rO n xs
end
def jR {t:Int}{n:Nat}(h:t.natAbs<2^n)(a:n<=900000:=by omega):t.natAbs<2^900000:=Aw h a
section
variable {a b:Rat}{Q:PV->Prop}
theorem mP (ha:Bd 4000 a)(hb:Bd 4000 b)(h:Q (fr (a+b))):A4 [.int (a.num*b.den+b.num*a.den), .int (a.den*b.den)] Q:=
 B4 _ _ (Cr (BU a) (BU b)) (jR (Xc (n:=8000) (A8 ha.top hb.botI) (A8 hb.top ha.botI))) (QG ha hb) (by rw[<-IM];exact h)
theorem mS (ha:Bd 4000 a)(hb:Bd 4000 b)(h:Q (fr (a-b))):A4 [.int (a.num*b.den-b.num*a.den), .int (a.den*b.den)] Q:=
 B4 _ _ (Cr (BU a) (BU b)) (jR (Yr (n:=8000) (A8 ha.top hb.botI) (A8 hb.top ha.botI))) (QG ha hb) (by rw[<-JC];exact h)
theorem mR (ha:Bd 4000 a)(hb:Bd 4000 b)(h:Q (fr (a*b))):A4 [.int (a.num*b.num), .int (a.den*b.den)] Q:=
 B4 _ _ (Cr (BU a) (BU b)) (jR (A8 ha.top hb.top)) (QG ha hb) (by rw[<-Ic];exact h)
theorem mQ (c:b≠0)(ha:Bd 4000 a)(hb:Bd 4000 b)(h:Q (fr (a/b))):A4 [.int (a.num*b.den), .int (a.den*b.num)] Q:=
 B4 _ _ (Cr (BU a) (Ru c)) (jR (A8 ha.top (by simpa using hb.bot))) (Aw (A8 (a:=(a.den:Int)) (by simpa using ha.bot) hb.top) (by omega)) (by rw[<-Fi];exact h)
end
def TC {n:Int}{Q:PV->Prop}(h:Q (fr (n:Rat))):Q (.tup [.int n, .int 1]):=by rw[<-lS];exact h
def Bd.part {t b:Int}{n:Nat}(h:b≠0)(a:t.natAbs<2^n)(hb:b.natAbs<2^n):Bd n (Rat.divInt t b):= .divInt h a hb
def lz {a b:Nat}(h:Nat.ble a b=true:=by rfl):a<=b:=ABE h
structure Sh (d n:Nat) (x:PV):Prop where
 ok:DW d x=true
 sh:(pd x).showable=true
 sz:(pd x).shown.length<=n
mutual
theorem N2:∀{d e:Nat} (x:PV),d<=e->DW d x=true->DW e x=true
 | _,_, .non,_,_=>by simp[DW]
 | _,_, .bl _,_,_=>by simp[DW]
 | _,_, .int _,_,_=>by simp[DW]
 | _,_, .str x,_,h=>by simpa[DW] using h
 | 0,_, .tup xs,_,h=>by simp[DW] at h
 | 0,_, .lst xs,_,h=>by simp[DW] at h
 | d+1,0, .tup xs,h,_=>by omega
 | d+1,0, .lst xs,h,_=>by omega
 | d+1,e+1, .tup xs,h,k=>by simp only[DW] at k ⊢;exact K4 xs (by omega) k
 | d+1,e+1, .lst xs,h,k=>by simp only[DW] at k ⊢;exact K4 xs (by omega) k
 | _,_, .tape,_,h=>by simp[DW] at h
 | _,_, .scr _,_,h=>by simp[DW] at h
 | _,_, .dct _,_,h=>by simp[DW] at h
 | _,_, .dk _,_,h=>by simp[DW] at h
 | _,_, .ty _,_,h=>by simp[DW] at h
theorem K4:∀{d e:Nat} (xs:kn PV),d<=e->Fk d xs=true->Fk e xs=true
 | _,_, [],_,_=>by simp[Fk]
 | _,_,x::xs,h,k=>by simp only[Fk,ABD] at k ⊢;exact⟨N2 x h k.1,K4 xs h k.2⟩
end
def Sh.mono {d n e m:Nat}{x:PV}(s:Sh d n x)(h1:d<=e)(h2:n<=m):Sh e m x:=⟨N2 x h1 s.ok,s.sh,AAU s.sz h2⟩
def Sh.go {d n:Nat}{x:PV}(s:Sh d n x)(h1:d<=30:=by omega)(h2:n<=16777216:=by omega):kU x:=⟨N2 x h1 s.ok,s.sh,AAU s.sz h2⟩
def Sh.int {i:Int}(h:i.natAbs<2^1900):Sh 0 1902 (.int i):=by
 refine⟨rfl, ?_, ?_⟩
 .show decide (i.natAbs.log2<1920)=true;exact AAV (AC8 (Jx h (by decide)) (by decide))
 .show (Str.ofString (toString i)).length<=1902;rw[PySem.ofString_length];exact AAU (int_text_length_le (k:=1900) (by decide) (Jx h (by decide))) (by decide)
theorem Go {d:Nat}:∀{xs:kn PV},(∀x∈xs,DW d x=true)->Fk d xs=true
 | [],_=>rfl
 | x::xs,h=>by simp only[Fk,ABD];exact⟨h x (by simp),Go λy hy=>h y (by simp[hy])⟩
theorem XA:∀{xs:kn PV},(∀x∈xs,(pd x).showable=true)->PyData.showableAll (QZ xs)=true
 | [],_=>rfl
 | x::xs,h=>by simp only[QZ,PyData.showableAll,ABD];exact⟨h x (by simp),XA λy hy=>h y (by simp[hy])⟩
theorem S9 {n:Nat}:∀{xs:kn PV},(∀x∈xs,(pd x).shown.length<=n)->((PyData.shownAll (QZ xs)).map (·.length)).sum<=xs.length*n
 | [],_=>by simp[QZ,PyData.shownAll]
 | x::xs,h=>by simp only[QZ,PyData.shownAll,AAM,AAy,AA8];have h1:=h x (by simp);have h2:=S9 (n:=n) (xs:=xs) λy hy=>h y (by simp[hy]);rw[ACd];omega
theorem Fz:∀(xs:kn PV),(PyData.shownAll (QZ xs)).length=xs.length
 | [] =>rfl
 | x::xs=>by simp[QZ,PyData.shownAll,Fz xs]
def Sh.tup {d n:Nat}{xs:kn PV}(h:∀x∈xs,Sh d n x):Sh (d+1) (xs.length*(n+2)+3) (.tup xs):=by refine⟨by simp only[DW];exact Go λx hx=>(h x hx).ok,by simp only[pd,PyData.showable];exact XA λx hx=>(h x hx).sh, ?_⟩;have h1:=S9 (n:=n) (xs:=xs) λx hx=>(h x hx).sz;have h2:=tupleText_len_le (PyData.shownAll (QZ xs));rw[Fz] at h2;simp only[pd,PyData.shown];rw[Nat.mul_add];omega
def Sh.lst {d n:Nat}{xs:kn PV}(h:∀x∈xs,Sh d n x):Sh (d+1) (xs.length*(n+2)+3) (.lst xs):=by refine⟨by simp only[DW];exact Go λx hx=>(h x hx).ok,by simp only[pd,PyData.showable];exact XA λx hx=>(h x hx).sh, ?_⟩;have h1:=S9 (n:=n) (xs:=xs) λx hx=>(h x hx).sz;have h2:=listText_len_le (PyData.shownAll (QZ xs));rw[Fz] at h2;simp only[pd,PyData.shown];rw[Nat.mul_add];omega
def vY {c:Type}{P:c->Prop}{a b:c}(ha:P a)(hb:P b):∀x∈ [a,b],P x:=λx hx=>by
 simp only[AAI,AAp,AAq] at hx;rcases hx with rfl|rfl
 .exact ha
 .exact hb
def vZ {d:Type}{P:d->Prop}{a b c:d}(ha:P a)(hb:P b)(hc:P c):∀x∈ [a,b,c],P x:=λx hx=>by
 simp only[AAI,AAp,AAq] at hx;rcases hx with rfl|rfl|rfl
 .exact ha
 .exact hb
 .exact hc
def rL {e:Type}{P:e->Prop}{a b c d:e}(ha:P a)(hb:P b)(hc:P c)(hd:P d):∀x∈ [a,b,c,d],P x:=λx hx=>by
 simp only[AAI,AAp,AAq] at hx;rcases hx with rfl|rfl|rfl|rfl
 .exact ha
 .exact hb
 .exact hc
 .exact hd
def Sh.fr {r:Rat}(h:Bd 1900 r):Sh 1 4000 (fr r):=(Sh.tup (vY (Sh.int h.top) (Sh.int h.botI))).mono (by omega) lz
def UC {d:Nat}{x:PV}(h:DW d x=true):lJ x x=true:=SeqAt.eqv_refl _ (HP d x h).1
def rK {a b:Rat}:decide (a.num*(b.den:Int)<b.num*(a.den:Int))=decide (a<b):=by rw[ADp];exact(Rat.lt_iff a b).symm
def au:AS:=
 (As (AW ZY (AW BV (AW Ah (aV 0) (aC (.int 0))) (AW Ah (aV 1) (aC (.int 1)))) (AW BV (AW Ah (aV 1) (aC (.int 0))) (AW Ah (aV 0) (aC (.int 1))))))
def Dc:AF:=Ar 2 au
section
variable {a b:Rat}{Q:PV->Prop}
def Vd:AS:=
 (As (AN 2 A4 (AB (AW Ba (AW BV (AW Ah (aV 0) (aC (.int 0))) (AW Ah (aV 1) (aC (.int 1)))) (AW BV (AW Ah (aV 1) (aC (.int 0))) (AW Ah (aV 0) (aC (.int 1))))) (AB (AW BV (AW Ah (aV 0) (aC (.int 1))) (AW Ah (aV 1) (aC (.int 1)))) AM))))
def Bi:AF:=Ar 2 Vd
theorem PB (ha:Bd 4000 a)(hb:Bd 4000 b)(h:Q (fr (a+b))):Bi [fr a,fr b] Q:=by obtain⟨m1,m2,m3,_⟩:=Bd.mt (n:=0) ha hb;exact⟨m1,m2,m3,rfl,mP ha hb h⟩
def Vc:AS:=
 (As (AN 2 A4 (AB (AW GL (AW BV (AW Ah (aV 0) (aC (.int 0))) (AW Ah (aV 1) (aC (.int 1)))) (AW BV (AW Ah (aV 1) (aC (.int 0))) (AW Ah (aV 0) (aC (.int 1))))) (AB (AW BV (AW Ah (aV 0) (aC (.int 1))) (AW Ah (aV 1) (aC (.int 1)))) AM))))
def BK:AF:=Ar 2 Vc
theorem O9 (ha:Bd 4000 a)(hb:Bd 4000 b)(h:Q (fr (a-b))):BK [fr a,fr b] Q:=by obtain⟨m1,m2,m3,_⟩:=Bd.mt (n:=0) ha hb;exact⟨m1,m2,m3,rfl,mS ha hb h⟩
def Mr:AS:=
 (As (AN 2 A4 (AB (AW BV (AW Ah (aV 0) (aC (.int 0))) (AW Ah (aV 1) (aC (.int 0)))) (AB (AW BV (AW Ah (aV 0) (aC (.int 1))) (AW Ah (aV 1) (aC (.int 1)))) AM))))
def Cd:AF:=Ar 2 Mr
theorem JZ (ha:Bd 4000 a)(hb:Bd 4000 b)(h:Q (fr (a*b))):Cd [fr a,fr b] Q:=by obtain⟨m1,m2,m3,m4,_⟩:=Bd.mt (n:=0) ha hb;exact⟨m4,m3,rfl,mR ha hb h⟩
def Qo:AS:=
 (As (AN 2 A4 (AB (AW BV (AW Ah (aV 0) (aC (.int 0))) (AW Ah (aV 1) (aC (.int 1)))) (AB (AW BV (AW Ah (aV 0) (aC (.int 1))) (AW Ah (aV 1) (aC (.int 0)))) AM))))
def Db:AF:=Ar 2 Qo
theorem MF (c:b≠0)(ha:Bd 4000 a)(hb:Bd 4000 b)(h:Q (fr (a/b))):Db [fr a,fr b] Q:=by obtain⟨m1,m2,m3,m4,m5⟩:=Bd.mt (n:=0) ha hb;exact⟨m1,m5,rfl,mQ c ha hb h⟩
end
def ux {t b:Int}(a:0<t)(hb:0<b):0<Rat.divInt t b:=by
 rw[Rat.lt_iff];have h1:=ADn t b;show (0:Int)*_<_*1;rw[Int.zero_mul,ACU,h1,AEb hb,ADG];have g:0<(b.gcd t:Int):=by have:=Int.gcd_pos_of_ne_zero_left t (show b≠0 by omega);omega
 exact Int.ediv_pos_of_pos_of_dvd a (by omega) (Int.gcd_dvd_right ..)
def JB {t b:Int}{Q:PV->Prop}(k:Nat)(hb:b≠0)(a:t.natAbs<2^k)(c:b.natAbs<2^k)(hk:k<=2000)(h:Bd k (Rat.divInt t b)->Q (fr (Rat.divInt t b))):A4 [.int t, .int b] Q:=
 B4 t b hb (Aw a (by omega)) (Aw c (by omega)) (h (.part hb a c))
def Mul (D N:Nat)(a:Rat):Prop:=0<D/\∃k:Int,a=Rat.divInt k D/\k.natAbs<=N
def Mul.bd {D N n:Nat}{a:Rat}(h:Mul D N a)(h1:N<2^n)(h2:D<2^n):Bd n a:=by obtain⟨b,k,rfl,hk⟩:=h;exact .divInt (by omega) (by omega) (by simpa using h2)
def Mul.part {t b:Int}{c:Nat}(hb:0<b)(hc:0<c){N:Nat}(h:(t*c).natAbs<=N):Mul (b.toNat*c) N (Rat.divInt t b):=by
 refine⟨ABF (by omega) hc,t*c, ?_,h⟩;have e:((b.toNat*c:Nat):Int)=b*c:=by rw[ADq];congr 1;omega
 rw[e,(ADr (by omega) (Cr (by omega) (by omega)))];rw[ADs b,ADt]
def Mul.add {D N M:Nat}{a b:Rat}(ha:Mul D N a)(hb:Mul D M b):Mul D (N+M) (a+b):=by obtain⟨c,k,rfl,hk⟩:=ha;obtain⟨_,l,rfl,hl⟩:=hb;refine⟨c,k+l, ?_,by omega⟩;rw[AEY _ _ (by omega) (by omega),ADr (Cr (by omega) (by omega)) (by omega)];rw[<-Int.add_mul,ADt]
def Mul.mono {D N M:Nat}{a:Rat}(h:Mul D N a)(b:N<=M):Mul D M a:=⟨h.1,let ⟨k,e,hk⟩:=h.2;⟨k,e,by omega⟩⟩
def Mul.int {n:Int}{D N:Nat}(a:0<D)(h:(n*D).natAbs<=N):Mul D N (n:Rat):=by
 have e:(n:Rat)=Rat.divInt n 1:=by rw[<-ABQ (n:Rat)];simp
 rw[e];have:=Mul.part (t:=n) (b:=1) (c:=D) (by decide) a h;simpa using this
def Ms:AS:=
 (Ae (CA (A6 (AW ZY (aV 1) (aC (.int 3)))) (As (Ak (AB (AW Ba (aC (.int 1)) (AN 2 At (AB (aV 0) (AB (aC (.int 5)) AM)))) (AB (aC (.int 1)) AM)))) BO)
   (As (AN 2 A4 (AB (AW Ba (aC (.int 1)) (AN 2 At (AB (aV 0) (AB (aC (.int 8)) AM)))) (AB (AW GL (aV 1) (aC (.int 1))) AM)))))
def TN:AS:=
 (Ae (Ao (AN 2 At (AB (aV 0) (AB (aC (.int 5)) AM))) (An 1))
   Ms)
def Es:AF:=Ar 2 TN
def MG {Q:PV->Prop}(h:∀a,Bd 8 a->0<a->Mul 6 48 a->Q (fr a)):Es [.tape] Q:=by
 refine⟨rfl,Eu (by decide) (by decide) λw g i=> ?_⟩;refine UY (b:=decide (w<3)) (λ_=> ?_) (λz=> ?_)
 .refine ⟨rfl,Eu (by decide) (by decide) λr d f=>⟨lz, ?_⟩⟩;exact TC (h _ (.int (by omega) (by decide)) (by exact_mod_cast (by omega:(0:Int)<1+r)) (.int (by decide) (by omega)))
 .have j:¬w<3:=AEc z;have hw:w-1=2\/w-1=3:=by omega
  refine⟨rfl,Eu (by decide) (by decide) λr d f=>⟨rfl, ?_⟩⟩;refine JB 8 (by omega) (by omega) (by omega) (by decide) λb=>h _ b (ux (by omega) (by omega)) ?_;rcases hw with e|e
  .rw [e];exact Mul.part (t:=1+r) (b:=2) (c:=3) (by decide) (by decide) (by omega)
  .rw [e];exact Mul.part (t:=1+r) (b:=3) (c:=2) (by decide) (by decide) (by omega)
def L8:AS:=
 (Ae (CA (A6 (AW Lh (aV 1) (aC (.int 6)))) (As (AN 2 A4 (AB (AW GL (AN 2 At (AB (aV 0) (AB (aC (.int 25)) AM))) (aC (.int 6))) (AB (aC (.int 2)) AM)))) BO)
   (As (AN 2 A4 (AB (AW GL (AN 2 At (AB (aV 0) (AB (aC (.int 31)) AM))) (aC (.int 9))) (AB (aC (.int 3)) AM)))))
def L7:AS:=
 (Ae (CA (A6 (AW ZY (aV 1) (aC (.int 6)))) (As (Ak (AB (AW GL (AN 2 At (AB (aV 0) (AB (aC (.int 10)) AM))) (aC (.int 3))) (AB (aC (.int 1)) AM)))) BO)
   L8)
def Qn:AS:=
 (Ae (Ao (AN 2 At (AB (aV 0) (AB (aC (.int 8)) AM))) (An 1))
   L7)
def Cz:AF:=Ar 2 Qn
def ME {Q:PV->Prop}(h:∀a,Mul 6 60 a->Q (fr a)):Cz [.tape] Q:=by
 refine⟨rfl,Eu (by decide) (by decide) λw f g=> ?_⟩;refine UY (b:=decide (w<6)) (λ_=> ?_) (λz=> ?_)
 .refine ⟨rfl,Eu (by decide) (by decide) λr d e=>⟨lz, ?_⟩⟩;exact TC (h _ (.int (by decide) (by omega)))
 refine UY (b:=decide (w=6)) (λ_=> ?_) (λz=> ?_)
 .exact ⟨rfl,Eu (by decide) (by decide) λr d e=>⟨rfl,JB 8 (by omega) (by omega) (by omega) (by decide) λb=>h _ (Mul.part (t:=r-6) (b:=2) (c:=3) (by decide) (by decide) (by omega))⟩⟩
 .exact ⟨rfl,Eu (by decide) (by decide) λr d e=>⟨rfl,JB 8 (by omega) (by omega) (by omega) (by decide) λb=>h _ (Mul.part (t:=r-9) (b:=3) (c:=2) (by decide) (by decide) (by omega))⟩⟩
abbrev C4:=Rat×Rat×Rat×Rat
def cor (c:C4):PV:= .tup [fr c.1,fr c.2.1,fr c.2.2.1,fr c.2.2.2]
def corL (c:C4):PV:= .lst [fr c.1,fr c.2.1,fr c.2.2.1,fr c.2.2.2]
def FZ (cs:kn C4):PV:= .tup (cs.map cor)
structure F6 (B:Nat) (c:C4):Prop where
 m:Bd B c.1
 x:Bd B c.2.1
 y:Bd B c.2.2.1
 z:Bd B c.2.2.2
def F6.mono {B a:Nat}{c:C4}(h:F6 B c)(k:B<=a):F6 a c:=⟨h.m.mono k,h.x.mono k,h.y.mono k,h.z.mono k⟩
structure FI (D N:Nat) (c:C4):Prop where
 m:Mul D N c.1
 x:Mul D N c.2.1
 y:Mul D N c.2.2.1
 z:Mul D N c.2.2.2
def FI.mono {D N M:Nat}{c:C4}(h:FI D N c)(k:N<=M):FI D M c:=⟨h.m.mono k,h.x.mono k,h.y.mono k,h.z.mono k⟩
def FI.bd {D N n:Nat}{c:C4}(h:FI D N c)(h1:N<2^n)(h2:D<2^n):F6 n c:=⟨h.m.bd h1 h2,h.x.bd h1 h2,h.y.bd h1 h2,h.z.bd h1 h2⟩
def TH (cs:kn C4):Prop:=cs.Pairwise λa b=>a.1<b.1
structure Tj (n D N:Nat) (cs:List C4):Prop where
 two:2<=cs.length
 few:cs.length<=n
 mu:∀c∈cs,FI D N c
 ris:TH cs
structure bH (n B:Nat) (cs:List C4):Prop where
 two:2<=cs.length
 few:cs.length<=n
 bd:∀c∈cs,F6 B c
 ris:TH cs
def dn {cs:kn C4}{c d:C4}(h:TH (cs ++ [c]))(hd:c.1<d.1):TH (cs ++ [c] ++ [d]):=by
 refine List.pairwise_append.mpr ⟨h,by simp,λa ha b hb=> ?_⟩;simp at hb;subst hb;rcases AAL.mp ha with ha|ha
 .have:=(List.pairwise_append.mp h).2.2 a ha c (by simp);grind
 .simp at ha;subst ha;exact hd
def mid (a b:Rat):Rat:=(a+b)/2
def Mul.mid {D N:Nat}{a b:Rat}(ha:Mul D N a)(hb:Mul D N b):Mul (2*D) (2*N) (mid a b):=by
 obtain⟨c,k,rfl,hk⟩:=ha;obtain⟨_,l,rfl,hl⟩:=hb;refine⟨by omega,k+l, ?_,by omega⟩;have h2:(2:Rat)=Rat.divInt 2 1:=rfl;unfold PL.mid;rw[AEY _ _ (by omega) (by omega),ADo,h2,Rat.inv_divInt,AEZ,ACU,ADr (Cr (Cr (by omega) (by omega)) (by decide)) (by omega),<-Int.add_mul];have e:((2*D:Nat):Int)=2*(D:Int):=by omega
 rw[e,ADt,ADt,ADs 2 (D:Int)]
def Mul.dbl {D N:Nat}{a:Rat}(h:Mul D N a):Mul (2*D) (2*N) a:=by
 have:=h.mid h
 rwa [show PL.mid a a=a by unfold PL.mid;grind] at this
def Ld (cs:kn C4)(v:PV):Prop:=∃f:C4->PV,(f=cor\/f=corL)/\(v= .tup (cs.map f)\/v= .lst (cs.map f))
def Ld.self (cs:kn C4):Ld cs (FZ cs):=⟨cor, .inl rfl, .inl rfl⟩
def Ld.lists (cs:kn C4):Ld cs (.lst (cs.map corL)):=⟨corL, .inr rfl, .inr rfl⟩
theorem HK {i m:Type}{g:AG}{j:AE}{d:BE}{Q:kn PV->Prop}(f:i->PV)(k:m->PV)(e:i->m)(P:i->Prop)(hs:∀a,P a->∀R:PV->Prop,R (k (e a))->g (f a) d λl=>j l R):∀(xs:kn i) (c:kn PV),(∀a∈xs,P a)->Q (c++(xs.map e).map k)->DC g Gb j d Q (xs.map f) c
 | [],c,_,h=>(by simpa using h:Q c)
 | a::xs,c,hp,h=>by refine hs a (hp a (by simp)) (λy=>DC g Gb j d Q (xs.map f) (c ++ [y])) (HK f k e P hs xs _ (λb hb=>hp b (by simp[hb])) ?_);simpa using h
def Sh.cor {c:C4}(h:F6 1900 c):Sh 2 17000 (cor c):=(Sh.tup (rL (Sh.fr h.m) (Sh.fr h.x) (Sh.fr h.y) (Sh.fr h.z))).mono (by decide) lz
def Sh.corL {c:C4}(h:F6 1900 c):Sh 2 17000 (corL c):=(Sh.lst (rL (Sh.fr h.m) (Sh.fr h.x) (Sh.fr h.y) (Sh.fr h.z))).mono (by decide) lz
abbrev T3:=Rat×Rat×Rat
def inter (a b:C4)(m:Rat):T3:=(a.2.1+(m-a.1)/(b.1-a.1)*(b.2.1-a.2.1),a.2.2.1+(m-a.1)/(b.1-a.1)*(b.2.2.1-a.2.2.1),a.2.2.2+(m-a.1)/(b.1-a.1)*(b.2.2.2-a.2.2.2))
def spotG:C4->kn C4->Rat->kf T3
 | _, [],_=>none
 | a,b::r,m=>if b.1<m then spotG b r m else some (inter a b m)
def spotC:kn C4->Rat->kf T3
 | [],_=>none
 | a::r,m=>if m<a.1 then none else spotG a r m
def vq (t:T3):PV:= .tup [fr t.1,fr t.2.1,fr t.2.2]
structure NQ (B:Nat) (t:T3):Prop where
 x:Bd B t.1
 y:Bd B t.2.1
 z:Bd B t.2.2
def NQ.mono {B a:Nat}{t:T3}(h:NQ B t)(k:B<=a):NQ a t:=⟨h.x.mono k,h.y.mono k,h.z.mono k⟩
section
variable {B M:Nat}{a b:C4}{m:Rat}
theorem oi {x y:Rat}(h:x<y):y-x≠0:=by grind
theorem Bd.share (ha:F6 B a)(hb:F6 B b)(c:Bd M m)(h:a.1<b.1):Bd (M+B+1+(B+B+1)) ((m-a.1)/(b.1-a.1)):=(c.sub ha.m).div (oi h) (hb.m.sub ha.m)
theorem NQ.inter (ha:F6 B a)(hb:F6 B b)(c:Bd M m)(h:a.1<b.1):NQ (M+6*B+10) (inter a b m):=by have s:=Bd.share ha hb c h;exact⟨(ha.x.add (s.mul (hb.x.sub ha.x))).mono (by omega),(ha.y.add (s.mul (hb.y.sub ha.y))).mono (by omega),(ha.z.add (s.mul (hb.z.sub ha.z))).mono (by omega)⟩
end
theorem NQ.spotG {B M:Nat}{m:Rat}(d:Bd M m):∀{a:C4} {r:kn C4},TH (a::r)->(∀c∈a::r,F6 B c)->∀t,spotG a r m=some t->NQ (M+6*B+10) t
 | a, [],_,_,t,e=>by cases e
 | a,b::r,hr,hb,t,e=>by
   unfold PL.spotG at e;split at e
   .exact NQ.spotG d (AA9.mp hr).2 (λc hc=>hb c (by simp[hc])) t e
   .cases e;exact .inter (hb a (by simp)) (hb b (by simp)) d ((AA9.mp hr).1 b (by simp))
def NQ.spotC {B M:Nat}{m:Rat}{cs:kn C4}(b:Bd M m)(d:TH cs)(hb:∀c∈cs,F6 B c):∀t,spotC cs m=some t->NQ (M+6*B+10) t:=λt e=>by
 cases cs with
 | nil=>cases e
 | cons a r=>
   simp only[PL.spotC] at e;split at e
   .cases e
   .exact NQ.spotG b d hb t e
def Xy {f:C4->PV}{cs:kn C4}{i:Int}{k:Nat}{c:C4}{Q:PV->Prop}(hk:i=(k:Int))(e:cs[k]? =some c)(h:Q (f c)):Z7 (HY (cs.map f) i) Q:=by have q:HY (cs.map f) ((k:Nat):Int)=some (f c):=CB (by rw[AAh,e] <;> rfl);rw[hk,q];exact h
def cG {f:C4->PV}{cs:kn C4}{c:C4}{Q:PV->Prop}(e:cs.getLast?=some c)(h:Q (f c)):Z7 (HY (cs.map f) (-1)) Q:=by
 have a:cs≠ [] :=by intro z;subst z;cases e
 have hl:0<cs.length:=List.length_pos_iff.mpr a;have q:HY (cs.map f) (-1)=some (f c):=by
  unfold HY Rl;rw[AAK,AAD (by decide),AAE (by omega)];have b:(-1+(cs.length:Int)).toNat=cs.length-1:=by omega
  rw[Option.bind_some,b,AAh,<-List.getLast?_eq_getElem?,e];rfl
 rw[q];exact h
def YX {cs:kn C4}(h:TH cs){k:Nat}{a b:C4}(c:cs[k]? =some a)(d:cs[k+1]? =some b):a.1<b.1:=by have h1:=(AA3.mp c);have h2:=(AA3.mp d);obtain⟨e,rfl⟩:=h1;obtain⟨f,rfl⟩:=h2;exact List.pairwise_iff_getElem.mp h k (k+1) e f (by omega)
def kU.t3 {t:T3}(h:NQ 1900 t):kU (vq t):=(Sh.tup (vZ (Sh.fr h.x) (Sh.fr h.y) (Sh.fr h.z))).go (by decide) lz
def sp (cs:kn C4)(m:Rat):C4:=(m,(spotC cs m).getD (0,0,0))
def qO (f t:Rat)(c:C4):kd:=decide (f<c.1)&&decide (c.1<t)
def Zt {a b l:C4}{r:kn C4}(e:(a::b::r).getLast?=some l):(b::r).getLast?=some l:=by simpa[List.getLast?_cons_cons] using e
def mx (b a:Rat):Rat:=if b<a then a else b
def mn (e l:Rat):Rat:=if e<l then e else l
theorem Cn {i:Type}{g:AG}{j:AT}{l:AE}{d:BE}{Q:kn PV->Prop}(f k:i->PV)(p:i->kd)(P:i->Prop)(hs:∀a,P a->∀(R:PV->Prop) (N:Prop),(p a=true->R (k a))->(p a=false->N)->g (f a) d λe=>j e λok=>if ok=true then l e R else N):∀(xs:kn i) (c:kn PV),(∀a∈xs,P a)->Q (c++(xs.filter p).map k)->DC g j l d Q (xs.map f) c
 | [],c,_,h=>(by simpa using h:Q c)
 | a::xs,c,hp,h=>by
   refine hs a (hp a (by simp)) (λy=>DC g j l d Q (xs.map f) (c ++ [y])) _ (λz=> ?_) (λz=> ?_)
   .exact Cn f k p P hs xs _ (λb hb=>hp b (by simp[hb])) (by simpa[ACe,z] using h)
   .exact Cn f k p P hs xs _ (λb hb=>hp b (by simp[hb])) (by simpa[ACe,z] using h)
def both {f t:Rat}{c:C4}{b:(kd->Prop)->Prop}{A:Prop}{N:Prop}(h1:qO f t c=true->A)(h2:qO f t c=false->N):if decide (f<c.1)=true then (if decide (c.1<t)=true then A else N) else N:=by unfold qO at h1 h2;refine UY (λz=>UY (λa=>h1 (by rw[z,a];rfl)) (λa=>h2 (by rw[z,a];rfl))) (λz=>h2 (by rw[z];rfl))
def Bd.mx {n:Nat}{a b:Rat}(ha:Bd n a)(hb:Bd n b):Bd n (mx a b):=by unfold PL.mx;split <;> assumption
def Bd.mn {n:Nat}{a b:Rat}(ha:Bd n a)(hb:Bd n b):Bd n (mn a b):=by unfold PL.mn;split <;> assumption
section
variable {a b:AS}{ta tb:AE}{tt tu:AT}{g:AG}{gs:Vb}{nx bk ct:BE->Prop}{rt:PV->Prop}{τ:BE}{Q:PV->Prop}{QB:kd->Prop}{QL:kn PV->Prop}{QT:BE->Prop}{r:AA}{ai:AI}{F:AF}{n i j:Nat}{x y z:PV}{xs ys:kn PV}
def sH {f:Hl}(e:Rt τ i=some (.val x))(h:ta τ λy=>f x y λz=>nx (τ.set i (some (.val z)))):ZD i f ta ⟨nx,rt,bk,ct⟩ τ:=by unfold ZD;rw[e];exact h
def sN (e:Rt τ i=some (.own xs))(h:QL xs):MK i τ QL:=by unfold MK;rw[e];exact h
def s_V (e:Rt τ i=some (.val x))(h:Q x):aV i τ Q:=by unfold aV;rw[e];exact h
def xw (x:PV)(i:Int):kf PV:=match x with | .tup xs=>HY xs i | .lst xs=>HY xs i|_=>none
def vp {i:Int}(e:xw x i=some z)(h:Q z):Ah x (.int i) Q:=by cases x <;> first | (cases e;done)|(show Z7 (HY _ i) Q;rw[show HY _ i=some z from e];exact h)
def oA {l:C4}{cs:kn C4}(c:cs.getLast?=some l)(h:Q (cor l)):Ah (FZ cs) (.int (-1)) Q:=cG c h
def oB {cs:kn C4}(h:Q (.int cs.length)):MM [FZ cs] Q:=by show Q (.int (cs.map cor).length);rw[AAK];exact h
def sM {T:String}{k:Kd}(c:cW T)(e:kdOf x=some k)(h:Q (.bl (Rk k T))):WF [x, .ty T] Q:=by refine⟨c, ?_⟩;rw[e];exact h
def j9 {g:kn kd->kd}{bs:kn kd}(e:Ji xs=some bs)(h:Q (.bl (g bs))):WE g [.lst xs] Q:=by show (match Ji xs with | some bs=>Q (.bl (g bs))|none=>False);rw[e];exact h
def sJ {c:kd}{A B:Prop}(e:c=true)(h:A):if c=true then A else B:=by rw[AAE e];exact h
def sI {c:kd}{A B:Prop}(e:c=false)(h:B):if c=true then A else B:=by rw[AAD (by rw[e];exact AAc)];exact h
def sK {p:Prop}[Decidable p]{A B:Prop}(h1:p->A)(h2:¬p->B):if decide p=true then A else B:=by
 by_cases h:p
 .rw [AAE (AAV h)];exact h1 h
 .rw [AAD (by simp[h])];exact h2 h
def sL {p:Prop}[Decidable p]{A B:Prop}(h1:¬p->A)(h2:p->B):if (!decide p)=true then A else B:=by
 by_cases h:p
 .rw [AAD (by simp[h])];exact h2 h
 .rw [AAE (by simp[h])];exact h1 h
end
def qN:Bd 1 (0:Rat):=⟨by decide,by decide⟩
section
variable {g:AG}{b:AS}{nx bk ct:BE->Prop}{rt:PV->Prop}
def EM (P:Nat->BE->Prop){lo:Int}{n:Nat}(hd:∀τ,P n τ->nx τ)(hs:∀i,i<n->∀τ (R:BE->Prop),(∀τ,P (i+1) τ->R τ)->P i τ->g (.int (lo+i)) τ λc=>b ⟨R,rt,nx,R⟩ c){τ:BE}(f:P 0 τ):DE g b ⟨nx,rt,bk,ct⟩ (rng lo n) τ:=by
 refine Js (λr τ=>∃i,i<=n/\r=rng (lo+i) (n-i)/\P i τ) ?_ ?_ _ _ ⟨0,ABs _,by simp,f⟩
 .rintro τ ⟨i,hi,a,hp⟩;have:n-i=0:=by
   cases e:n-i with
   | zero=>rfl
   | succ k=>rw[e,J5] at a;cases a
  have:i=n:=by omega
  subst this;exact hd τ hp
 .rintro x r τ R h ⟨i,hi,a,hp⟩;cases e:n-i with
  | zero=>rw[e] at a;cases a
  | succ k=> rw[e,J5] at a;cases a;exact hs i (by omega) τ R (λd h2=>h d ⟨i+1,by omega,by rw[show n-(i+1)=k by omega,show lo+((i+1:Nat):Int)=lo+i+1 by omega],h2⟩) hp
def CZ {d:Type}(f:d->PV)(P:kn d->kn d->BE->Prop){cs:kn d}(hd:∀τ,P cs [] τ->nx τ)(hs:∀a c vs,a++c::vs=cs->∀τ (R:BE->Prop),(∀τ,P (a ++ [c]) vs τ->R τ)->P a (c::vs) τ->g (f c) τ λi=>b ⟨R,rt,nx,R⟩ i){τ:BE}(k:P [] cs τ):DE g b ⟨nx,rt,bk,ct⟩ (cs.map f) τ:=by
 refine Js (λr τ=>∃a vs,a++vs=cs/\r=vs.map f/\P a vs τ) ?_ ?_ _ _ ⟨[],cs,rfl,rfl,k⟩
 .rintro τ ⟨a,vs,e,h,hp⟩;cases vs with
  | nil=>rw[AC2] at e;subst e;exact hd τ hp
  | cons v vs=>cases h
 .rintro x r τ R l ⟨a,vs,e,h,hp⟩;cases vs with
  | nil=>cases h
  | cons c vs=> cases h;exact hs a c vs e τ R (λj h2=>l j ⟨a ++ [c],vs,by simpa using e,rfl,h2⟩) hp
end
section
variable {g:AG}{tt:AT}{te:AE}{τ0:BE}{Q:kn PV->Prop}
def Xk (P:Nat->kn PV->Prop){lo:Int}{n:Nat}(hd:∀a,P n a->Q a)(hs:∀i,i<n->∀a (R:kn PV->Prop),(∀a,P (i+1) a->R a)->P i a->g (.int (lo+i)) τ0 λc=>tt c λok=>if ok=true then te c λy=>R (a ++ [y]) else R a)(f:P 0 []):DC g tt te τ0 Q (rng lo n) [] :=by
 refine Xj (λr a=>∃i,i<=n/\r=rng (lo+i) (n-i)/\P i a) ?_ ?_ _ _ ⟨0,ABs _,by simp,f⟩
 .rintro a ⟨i,hi,b,hp⟩;have:n-i=0:=by
   cases e:n-i with
   | zero=>rfl
   | succ k=>rw[e,J5] at b;cases b
  have:i=n:=by omega
  subst this;exact hd a hp
 .rintro x r a R h ⟨i,hi,b,hp⟩;cases e:n-i with
  | zero=>rw[e] at b;cases b
  | succ k=> rw[e,J5] at b;cases b;exact hs i (by omega) a R (λd h2=>h d ⟨i+1,by omega,by rw[show n-(i+1)=k by omega,show lo+((i+1:Nat):Int)=lo+i+1 by omega],h2⟩) hp
end
end PL
namespace PL
section
variable {p:Prop}[Decidable p]{A B:Prop}
def n9 (h:p)(a:A):if decide p=true then A else B:=by rw[AAE (AAV h)];exact a
def n8 (h:¬p)(a:B):if decide p=true then A else B:=by rw[AAD (by simp[h])];exact a
end
end PL
namespace PL
open PySem PySem.Spec PyProof.Rows L2
def Kc (K:AAB)(mg:Str->kf km)(x:Str)(v:PV):Prop:=∃(u:km) (V:V),mg x=some u/\RelV V u/\∀T M H,Ck K T M H V v
section
variable {K:AAB}{T M:ki->Prop}{H:Hp}
def Bm {i:Int}{t:Tok}:∃V,RelV V (.int i t)/\∀T M H,Ck K T M H V (.int i):=⟨.int i,⟨t,rfl⟩,λ_ _ _=> .int i⟩
inductive KR (K:AAB):List Value->List PV->Prop where
 | nil:KR K [] []
 | cons {u:Value} {x:PV} {us:List Value} {xs:List PV} (h:∃V,RelV V u/\∀T M H,Ck K T M H V x) (t:KR K us xs):KR K (u::us) (x::xs)
theorem KR.reps:∀{a:kn km} {xs:kn PV},KR K a xs->∃vs,Ax vs a/\∀T M H,A3 K T M H vs xs
 | _,_, .nil=>⟨[], .nil,λ_ _ _=> .nil⟩
 | _,_, .cons ⟨V,r,h⟩ t=>by obtain⟨vs,b,h2⟩:=KR.reps t;exact⟨V::vs, .cons r b,λT M H=> .cons (h T M H) (h2 T M H)⟩
def KR.length:∀{a:kn km} {xs:kn PV},KR K a xs->a.length=xs.length
 | _,_, .nil=>rfl
 | _,_, .cons _ t=>by simp[t.length]
def Ml {a:ki}{b:kn km}{xs:kn PV}{n:Nat}{c:kf ki}{sl:Array (kf km)}(hl:K.lookup a=some ⟨.type "tuple",c, .seq b.toArray n,sl⟩)(h:KR K b xs)(hs:xs.length<=sizeLine:=by decide):∃V,RelV V (.ref a)/\∀T M H,Ck K T M H V (.tup xs):=by obtain⟨vs,r,q⟩:=h.reps;refine⟨.ref a,rfl,λT M H=> .tup (vs:=vs) (.inr ⟨_,b.toArray,n,hl,rfl,rfl, ?_,by simpa using r⟩) (q T M H)⟩;rw[AAP,h.length];exact hs
end
def YE {K:AAB}{mg:Str->kf km}{x:Str}{u:km}{v:PV}(a:mg x=some u)(h:∃V,RelV V u/\∀T M H,Ck K T M H V v):Kc K mg x v:=let ⟨V,r,q⟩:=h;⟨u,V,a,r,q⟩
section
variable {X:Cx}
def BM {x:Str}{v:PV}{pos:Pos}(c:Kc X.K X.mg x v)(a:Gl X x)(hd:(x==("__debug__" :Str))=false:=by decide):SE X (.Name x pos) (aC v):=by obtain⟨u,V,b,r,h⟩:=c;exact⟨_,iM a b r hd,Qg h⟩
end
end PL
namespace PL
open PySem L2 PyProof.Rows
class Wp (P:Prop) (P':outParam Prop):Prop where
 go:P'->P
class ZC (P:Prop) (C P':outParam Prop):Prop where
 go:C->P'->P
class xf (P:Prop) (P':outParam Prop):Prop where
 go:P'->P
class ur (P:Prop) (A B:outParam Prop):Prop where
 go:A->B->P
class fw (τ:BE) (i:Nat) (x:outParam AV):Prop where
 e:Rt τ i=some x
instance{v:AV}{r:BE}:fw (some v::r) 0 v:=⟨rfl⟩
instance{y:kf AV}{r:BE}{i:Nat}{v:AV}[h:fw r i v] :fw (y::r) (i+1) v:=⟨h.e⟩
class ZB (τ:BE) (i:Nat) (v:AV) (τ':outParam BE):Prop where
 e:τ.set i (some v)=τ'
instance{y:kf AV}{r:BE}{v:AV}:ZB (y::r) 0 v (some v::r):=⟨rfl⟩
instance{y:kf AV}{r a:BE}{i:Nat}{v:AV}[h:ZB r i v a] :ZB (y::r) (i+1) v (y::a):=⟨by rw[ADu,h.e]⟩
class bD (τ:BE) (τ':outParam BE):Prop where
 e:frz τ=τ'
instance:bD [] [] :=⟨rfl⟩
instance (priority:=low){z:kf AV}{r a:BE}[h:bD r a] :bD (z::r) (lT z::a):=⟨by rw[<-h.e];rfl⟩
instance{r a:BE}[h:bD r a] :bD (none::r) (none::a):=⟨by rw[<-h.e];rfl⟩
instance{x:PV}{r a:BE}[h:bD r a] :bD (some (.val x)::r) (some (.val x)::a):=⟨by rw[<-h.e];rfl⟩
instance{x:kn PV}{r a:BE}[h:bD r a] :bD (some (.own x)::r) (some (.val (.lst x))::a):=⟨by rw[<-h.e];rfl⟩
class tO (ix:List Nat) (τ:BE) (τ':outParam BE):Prop where
 e:(ix.map λi=>ZI (Rt τ i))=τ'
instance{τ:BE}:tO [] τ [] :=⟨rfl⟩
instance{τ r:BE}{i:Nat}{ix:kn Nat}{x:PV}[h:fw τ i (.val x)][h2:tO ix τ r] :tO (i::ix) τ (some (.val x)::r):=⟨by rw[AAM,h.e,h2.e];rfl⟩
class tS (n:Nat) (τ:outParam BE):Prop where
 e:List.replicate n none=τ
instance:tS 0 [] :=⟨rfl⟩
instance{n:Nat}{τ:BE}[h:tS n τ] :tS (n+1) (none::τ):=⟨by rw[AEd,h.e]⟩
class fg (xs ys:BE) (zs:outParam BE):Prop where
 e:xs++ys=zs
instance{ys:BE}:fg [] ys ys:=⟨rfl⟩
instance{x:kf AV}{xs ys a:BE}[h:fg xs ys a] :fg (x::xs) ys (x::a):=⟨by rw[AEe,h.e]⟩
class aw (xs ys:List PV) (zs:outParam (List PV)):Prop where
 e:xs++ys=zs
instance{ys:kn PV}:aw [] ys ys:=⟨rfl⟩
instance{x:PV}{xs ys a:kn PV}[h:aw xs ys a] :aw (x::xs) ys (x::a):=⟨by rw[AEe,h.e]⟩
class fy (xs:List PV) (n:outParam Nat):Prop where
 e:xs.length=n
instance:fy [] 0:=⟨rfl⟩
instance{x:PV}{xs:kn PV}{n:Nat}[h:fy xs n] :fy (x::xs) (n+1):=⟨by rw[AA8,h.e]⟩
class Ix (x:PV) (i:Int) (y:outParam PV):Prop where
 e:xw x i=some y
section
variable {a b:AS}{ta tb:AE}{tt tu:AT}{g:AG}{gs:Vb}{nx bk ct:BE->Prop}{rt:PV->Prop}{τ τ' τ2:BE}{Q:PV->Prop}{QB:kd->Prop}{QL:kn PV->Prop}{QT:BE->Prop}{r:AA}{ai:AI}{F:AF}{n i j:Nat}{x y z:PV}{xs ys zs:kn PV}
instance{c:PV}{q:kn PV}:Ix (.tup (c::q)) 0 c:=⟨CB (j:=0) rfl⟩
instance{c:PV}{q:kn PV}:Ix (.lst (c::q)) 0 c:=⟨CB (j:=0) rfl⟩
instance{d c:PV}{q:kn PV}:Ix (.tup (d::c::q)) 1 c:=⟨CB (j:=1) rfl⟩
instance{d c:PV}{q:kn PV}:Ix (.lst (d::c::q)) 1 c:=⟨CB (j:=1) rfl⟩
instance{d e c:PV}{q:kn PV}:Ix (.tup (d::e::c::q)) 2 c:=⟨CB (j:=2) rfl⟩
instance{d e c:PV}{q:kn PV}:Ix (.lst (d::e::c::q)) 2 c:=⟨CB (j:=2) rfl⟩
instance{q:Rat}:Ix (fr q) 0 (.int q.num):=⟨rfl⟩
instance{q:Rat}:Ix (fr q) 1 (.int q.den):=⟨rfl⟩
instance{c:C4}:Ix (cor c) 0 (fr c.1):=⟨rfl⟩
instance{c:C4}:Ix (corL c) 0 (fr c.1):=⟨rfl⟩
instance{c:C4}:Ix (cor c) 1 (fr c.2.1):=⟨rfl⟩
instance{c:C4}:Ix (cor c) 2 (fr c.2.2.1):=⟨rfl⟩
instance{c:C4}:Ix (cor c) 3 (fr c.2.2.2):=⟨rfl⟩
instance:Wp (Ae a b ⟨nx,rt,bk,ct⟩ τ) (a ⟨b ⟨nx,rt,bk,ct⟩,rt,bk,ct⟩ τ):=⟨id⟩
instance:Wp (Ao ta g ⟨nx,rt,bk,ct⟩ τ) (ta τ λx=>g x τ nx):=⟨id⟩
instance[h:bD τ τ'] :Wp (As ta ⟨nx,rt,bk,ct⟩ τ) (ta τ' rt):=⟨λk=>by unfold As;rw[h.e];exact k⟩
instance:Wp (BO ⟨nx,rt,bk,ct⟩ τ) (nx τ):=⟨id⟩
instance:Wp (CA tt a b ⟨nx,rt,bk,ct⟩ τ) (tt τ λk=>if k=true then a ⟨nx,rt,bk,ct⟩ τ else b ⟨nx,rt,bk,ct⟩ τ):=⟨id⟩
def Pn (τ:BE)(i:Nat)(v:AV)(QT:BE->Prop):Prop:=QT (τ.set i (some v))
instance{v:AV}[h:ZB τ i v τ'] :Wp (Pn τ i v QT) (QT τ'):=⟨λk=>by unfold Pn;rw[h.e];exact k⟩
instance:Wp (GK r i ⟨nx,rt,bk,ct⟩ τ) (r τ λxs=>Pn τ i (.own xs) nx):=⟨id⟩
instance[h:ZB τ i (.val x) τ'] :Wp (An i x τ QT) (QT τ'):=⟨λk=>by unfold An;rw[h.e];exact k⟩
instance{f:Hl}[h:fw τ i (.val x)] :Wp (ZD i f ta ⟨nx,rt,bk,ct⟩ τ) (ta τ λy=>f x y λz=>Pn τ i (.val z) nx):=⟨λk=>sH h.e k⟩
instance[h:fw τ i (.own xs)] :Wp (MK i τ QL) (QL xs):=⟨λk=>sN h.e k⟩
instance{f:kR}:Wp (C3 i f r ⟨nx,rt,bk,ct⟩ τ) (MK i τ λxs=>r τ λys=>f xs ys λzs=>Pn τ i (.own zs) nx):=⟨id⟩
instance:Wp (FA xs [y] QL) (xs.length<sizeLine/\QL (xs ++ [y])):=⟨id⟩
instance{k:Int}:Wp (gu xs [.int k,y] QL) ((0<=k/\k<=(xs.length:Int)/\xs.length<sizeLine)/\QL (xs.take k.toNat++y::xs.drop k.toNat)):=⟨id⟩
instance[h:fw τ i (.own xs)][h2:ZB τ i (.val (.lst xs)) τ'] :Wp (gD i a ⟨nx,rt,bk,ct⟩ τ) (a ⟨nx,rt,bk,ct⟩ τ'):=⟨λk=>by unfold gD frz1;rw[h.e];show a ⟨nx,rt,bk,ct⟩ (τ.set i (some (.val (.lst xs))));rw[h2.e];exact k⟩
instance:Wp (Df ai g b ⟨nx,rt,bk,ct⟩ τ) (ai τ λxs=>DE g b ⟨nx,rt,bk,ct⟩ xs τ):=⟨id⟩
instance:Wp (DE g b ⟨nx,rt,bk,ct⟩ [] τ) (nx τ):=⟨id⟩
instance{q:kn PV}:xf (DE g b ⟨nx,rt,bk,ct⟩ (x::q) τ) (g x τ λc=>b ⟨DE g b ⟨nx,rt,bk,ct⟩ q,rt,nx,DE g b ⟨nx,rt,bk,ct⟩ q⟩ c):=⟨id⟩
instance:Wp (Bf [] τ QT) (QT τ):=⟨id⟩
instance{t:kn PV}:Wp (Ag g gs (x::t) τ QT) (g x τ λτ'=>gs t τ' QT):=⟨id⟩
instance:Wp (Hm n gs x τ QT) (Uy x λxs=>xs.length=n/\gs xs τ QT):=⟨id⟩
instance[h:fw τ i (.val x)] :Wp (aV i τ Q) (Q x):=⟨λk=>s_V h.e k⟩
instance:Wp (aC x τ Q) (Q x):=⟨id⟩
instance{f:Hl}:Wp (AW f ta tb τ Q) (ta τ λx=>tb τ λy=>f x y Q):=⟨id⟩
instance{f:PV->(PV->Prop)->Prop}:Wp (PC f ta τ Q) (ta τ λx=>f x Q):=⟨id⟩
instance:Wp (Vt ta tb τ Q) (ta τ λx=>iA x λc=>if c=true then tb τ Q else Q (.bl false)):=⟨id⟩
instance:Wp (tW ta tb τ Q) (ta τ λx=>iA x λc=>if c=true then Q (.bl true) else tb τ Q):=⟨id⟩
instance:Wp (A6 ta τ QB) (ta τ λx=>iA x QB):=⟨id⟩
def yE (x:PV)(QB:kd->Prop):Prop:=match VR x with | some b=>QB b|none=>False
instance:Wp (gG ta τ QB) (ta τ λx=>yE x QB):=⟨id⟩
instance{c:kd}:Wp (yE (.bl c) QB) (QB c):=⟨id⟩
instance:Wp (NU tt τ QB) (tt τ λc=>QB (!c)):=⟨id⟩
instance:Wp (Ef tt tu τ QB) (tt τ λc=>if c=true then tu τ QB else QB false):=⟨id⟩
instance:Wp (Vu tt tu τ QB) (tt τ λc=>if c=true then QB true else tu τ QB):=⟨id⟩
instance:Wp (pM tt ta tb τ Q) (tt τ λc=>if c=true then ta τ Q else tb τ Q):=⟨id⟩
instance:Wp (Gb τ QB) (QB true):=⟨id⟩
instance[h:bD τ τ'] :Wp (gC ta τ Q) (ta τ' λx=>c5 x=true/\Q x):=⟨λk=>by unfold gC;rw[h.e];exact k⟩
instance:Wp (AM τ QL) (QL []):=⟨id⟩
instance:Wp (AB ta r τ QL) (ta τ λx=>r τ λxs=>QL (x::xs)):=⟨id⟩
def YM (xs:kn PV)(Q:PV->Prop):Prop:=xs.length<=sizeLine/\Q (.tup xs)
instance:Wp (Ak r τ Q) (r τ λxs=>YM xs Q):=⟨id⟩
instance:Wp (EA r τ QL) (r τ λxs=>xs.length<=sizeLine/\QL xs):=⟨id⟩
instance:Wp (IL r τ Q) (r τ λxs=>Q (.lst xs)):=⟨id⟩
instance:Wp (AN n F r τ Q) (r τ λxs=>xs.length=n/\F xs Q):=⟨id⟩
instance:Wp (HI F r τ Q) (r τ λxs=>F xs Q):=⟨id⟩
instance:Wp (bO r τ QL) (r τ λxs=>Xw xs QL):=⟨id⟩
instance{own:Nat}{ix:kn Nat}{f:AE}{c d:BE}[h1:tS own c][h2:tO ix τ d][h3:fg c d τ'] :Wp (Cm ai own ix g tt f τ QL) (ai τ λxs=>xs.length<sizeLine/\DC g tt f τ' QL xs []):=⟨λk=>by unfold Cm PD;rw[h1.e,h2.e,h3.e];exact k⟩
instance{d:AE}{c:kn PV}:Wp (DC g tt d τ QL [] c) (QL c):=⟨id⟩
instance{e:AE}{c q:kn PV}:Wp (DC g tt e τ QL (x::q) c) (g x τ λd=>tt d λok=>if ok=true then e d λy=>DC g tt e τ QL q (c ++ [y]) else DC g tt e τ QL q c):=⟨id⟩
instance:Wp (Le ta τ QL) (ta τ λx=>Uy x QL):=⟨id⟩
instance:Wp (Jf (AB ta AM) τ QL) (ta τ λx=>TK x λj=>(-(2^62)<=j/\j<2^62)/\QL (rng 0 j.toNat)):=⟨λh=>by have e:(λx=>TK x λj=>(-(2^62)<=j/\j<2^62)/\QL (rng 0 j.toNat))=(λx=>match [x] with | [.int j] =>(-(2^62)<=j/\j<2^62)/\QL (rng 0 j.toNat)|_=>False):=(funext λx=>by cases x <;> rfl);rw[e] at h;exact h⟩
instance:Wp (tX (AB ta (AB tb AM)) τ QL) (ta τ λx=>tb τ λy=>Uy x λxs=>Uy y λys=>QL (Fe xs ys)):=⟨id⟩
instance:Wp (ML i j (AB ta (AB tb AM)) ⟨nx,rt,bk,ct⟩ τ) (ta τ λx=>tb τ λy=>Pn τ i (.val x) λc=>Pn c j (.val y) nx):=⟨id⟩
instance{R:Int->Prop}{k:Int}:Wp (TK (.int k) R) (R k):=⟨id⟩
instance{R:kd->Prop}{c:kd}:Wp (iA (.bl c) R) (R c):=⟨id⟩
instance:Wp (Uy (.tup xs) QL) (QL xs):=⟨id⟩
instance:Wp (Uy (.lst xs) QL) (QL xs):=⟨id⟩
instance{q:Rat}:Wp (Uy (fr q) QL) (QL [.int q.num, .int q.den]):=⟨id⟩
instance{f:Int->Int->PV}{k l:Int}:Wp (fI f (.int k) (.int l) Q) (Q (f k l)):=⟨id⟩
instance{C:Int->Int->Prop}{f:Int->Int->PV}{k l:Int}:Wp (pN C f (.int k) (.int l) Q) (C k l/\Q (f k l)):=⟨id⟩
instance:Wp (PR .non .non Q) (Q (.bl true)):=⟨id⟩
instance:Wp (Li .non .non Q) (Q (.bl false)):=⟨id⟩
instance:Wp (PR (.tup xs) .non Q) (Q (.bl false)):=⟨id⟩
instance:Wp (Li (.tup xs) .non Q) (Q (.bl true)):=⟨id⟩
instance{k:Int}[h:Ix x k z] :Wp (Ah x (.int k) Q) (Q z):=⟨λq=>vp h.e q⟩
instance{k:Int}:Wp (Gg (.int k) Q) (Q (.int (-k))):=⟨id⟩
instance w_not {c:kd}:Wp (b9 (.bl c) Q) (Q (.bl (!c))):=⟨id⟩
instance{k l:Int}:Wp (Ba (.int k) (.int l) Q) (Q (.int (k+l))):=⟨id⟩
instance (priority:=high)[h:aw xs ys zs]{n:Nat}[h2:fy zs n] :Wp (Ba (.tup xs) (.tup ys) Q) (n<=sizeLine/\Q (.tup zs)):=⟨λk=>⟨by have e:=h2.e;rw[<-h.e,AA6] at e;rw[e];exact k.1,by rw[h.e];exact k.2⟩⟩
instance{k l:Int}:Wp (Lh (.int k) (.int l) Q) (Q (.bl (decide (k=l)))):=⟨id⟩
instance{k l:Str}:Wp (Lh (.str k) (.str l) Q) (Q (.bl (decide (k=l)))):=⟨id⟩
instance:Wp (MM [.tup xs] Q) (Q (.int xs.length)):=⟨id⟩
instance{cs:kn C4}:Wp (MM [FZ cs] Q) (Q (.int cs.length)):=⟨oB⟩
instance (priority:=high){c:Type}{f:c->PV}{cs:kn c}:Wp (MM [.tup (cs.map f)] Q) (Q (.int cs.length)):=⟨λh=>by show Q (.int (cs.map f).length);rw[AAK];exact h⟩
instance (priority:=high){c:Type}{f:c->PV}{cs:kn c}:Wp (MM [.lst (cs.map f)] Q) (Q (.int cs.length)):=⟨λh=>by show Q (.int (cs.map f).length);rw[AAK];exact h⟩
instance{f:Int->Int->Int}{k l:Int}:Wp (qU f [.int k, .int l] Q) (Q (.int (f k l))):=⟨id⟩
instance:Wp (Di [.lst xs] Q) (Q (.tup xs)):=⟨id⟩
instance:Wp (Xw [.tup xs] QL) (QL xs):=⟨id⟩
instance{l h:AO}:Wp (gE ta l h τ Q) (ta τ λx=>l τ λlo=>h τ λhi=>UF x lo hi Q):=⟨id⟩
instance{R:kf Int->Prop}:Wp (bR τ R) (R none):=⟨id⟩
instance{R:kf Int->Prop}:Wp (bS ta τ R) (ta τ λx=>TK x λi=>R (some i)):=⟨id⟩
instance{A B:Prop}:Wp (if true=true then A else B) (A):=⟨λh=>by rw[AAE rfl];exact h⟩
instance{A B:Prop}:Wp (if false=true then A else B) (B):=⟨λh=>by rw[AAD AAc];exact h⟩
instance{A B:Prop}:Wp (if (!true)=true then A else B) (B):=⟨λh=>h⟩
instance{A B:Prop}:Wp (if (!false)=true then A else B) (A):=⟨λh=>h⟩
instance{p A B:Prop}[Decidable p] :ur (if decide p=true then A else B) (p->A) (¬p->B):=⟨sK⟩
instance{p A B:Prop}[Decidable p] :ur (if (!decide p)=true then A else B) (¬p->A) (p->B):=⟨sL⟩
instance{p A B:Prop}[Decidable p]{c:kd}:Wp (if (decide p&&c)=true then A else B) (if decide p=true then (if c=true then A else B) else B):=⟨λh=>by by_cases z:p <;> simp[z] at h ⊢ <;> exact h⟩
instance{A:Prop}:Wp (([] :kn PV).length<=sizeLine/\A) (A):=⟨λh=>⟨lz,h⟩⟩
instance{A:Prop}:Wp (([] :kn PV).length<sizeLine/\A) (A):=⟨λh=>⟨lz,h⟩⟩
instance{c:PV}{A:Prop}:Wp ([c].length=1/\A) (A):=⟨λh=>⟨rfl,h⟩⟩
instance{c:PV}{A:Prop}:Wp ([c].length<=sizeLine/\A) (A):=⟨λh=>⟨lz,h⟩⟩
instance{c:PV}{A:Prop}:Wp ([c].length<sizeLine/\A) (A):=⟨λh=>⟨lz,h⟩⟩
instance{c d:PV}{A:Prop}:Wp ([c,d].length=2/\A) (A):=⟨λh=>⟨rfl,h⟩⟩
instance{c d:PV}{A:Prop}:Wp ([c,d].length<=sizeLine/\A) (A):=⟨λh=>⟨lz,h⟩⟩
instance{c d:PV}{A:Prop}:Wp ([c,d].length<sizeLine/\A) (A):=⟨λh=>⟨lz,h⟩⟩
instance{c d e:PV}{A:Prop}:Wp ([c,d,e].length=3/\A) (A):=⟨λh=>⟨rfl,h⟩⟩
instance{c d e:PV}{A:Prop}:Wp ([c,d,e].length<=sizeLine/\A) (A):=⟨λh=>⟨lz,h⟩⟩
instance{c d e:PV}{A:Prop}:Wp ([c,d,e].length<sizeLine/\A) (A):=⟨λh=>⟨lz,h⟩⟩
instance{c d e f:PV}{A:Prop}:Wp ([c,d,e,f].length=4/\A) (A):=⟨λh=>⟨rfl,h⟩⟩
instance{c d e f:PV}{A:Prop}:Wp ([c,d,e,f].length<=sizeLine/\A) (A):=⟨λh=>⟨lz,h⟩⟩
instance{c d e f:PV}{A:Prop}:Wp ([c,d,e,f].length<sizeLine/\A) (A):=⟨λh=>⟨lz,h⟩⟩
instance{c d e f k:PV}{A:Prop}:Wp ([c,d,e,f,k].length=5/\A) (A):=⟨λh=>⟨rfl,h⟩⟩
instance{c d e f k:PV}{A:Prop}:Wp ([c,d,e,f,k].length<=sizeLine/\A) (A):=⟨λh=>⟨lz,h⟩⟩
instance{c d e f k l:PV}{A:Prop}:Wp ([c,d,e,f,k,l].length<=sizeLine/\A) (A):=⟨λh=>⟨lz,h⟩⟩
instance:Wp (YM [] Q) (Q (.tup [])):=⟨λh=>⟨lz,h⟩⟩
instance{c:PV}:Wp (YM [c] Q) (Q (.tup [c])):=⟨λh=>⟨lz,h⟩⟩
instance{c d:PV}:Wp (YM [c,d] Q) (Q (.tup [c,d])):=⟨λh=>⟨lz,h⟩⟩
instance{c d e:PV}:Wp (YM [c,d,e] Q) (Q (.tup [c,d,e])):=⟨λh=>⟨lz,h⟩⟩
instance{c d e f:PV}:Wp (YM [c,d,e,f] Q) (Q (.tup [c,d,e,f])):=⟨λh=>⟨lz,h⟩⟩
instance{c d e f k l:PV}:Wp (YM [c,d,e,f,k,l] Q) (Q (.tup [c,d,e,f,k,l])):=⟨λh=>⟨lz,h⟩⟩
instance (priority:=high+10):Wp (YM [.int 0, .int 1] Q) (Q (fr 0)):=⟨λh=>⟨lz,h⟩⟩
instance (priority:=high+10):Wp (YM [.int 1, .int 1] Q) (Q (fr 1)):=⟨λh=>⟨lz,h⟩⟩
instance (priority:=high){k:Int}:Wp (YM [.int k, .int 1] Q) (Q (fr (k:Rat))):=⟨λh=>⟨lz,TC h⟩⟩
instance (priority:=high){p q r t:Rat}:Wp (YM [fr p,fr q,fr r,fr t] Q) (Q (cor (p,q,r,t))):=⟨λh=>⟨lz,h⟩⟩
instance (priority:=high){k:Rat}{p q r:Rat}:Wp (Ba (.tup [fr k]) (.tup [fr p,fr q,fr r]) Q) (Q (cor (k,p,q,r))):=⟨λh=>⟨lz,h⟩⟩
instance (priority:=high){k l:Rat}{q r:Rat}:Wp (Ba (.tup [fr k,fr l]) (.tup [fr q,fr r]) Q) (Q (cor (k,l,q,r))):=⟨λh=>⟨lz,h⟩⟩
def lP:PV.tup [.int 1, .int 2] =fr (1/2):=by unfold fr;rw[show ((1:Rat)/2).num=1 by decide +kernel,show ((1:Rat)/2).den=2 by decide +kernel];rfl
instance (priority:=high):Wp (YM [.int 1, .int 2] Q) (Q (fr (1/2))):=⟨λh=>⟨lz,by rw[lP];exact h⟩⟩
def lQ:PV.tup [.int 1, .int 3] =fr (1/3):=by unfold fr;rw[show ((1:Rat)/3).num=1 by decide +kernel,show ((1:Rat)/3).den=3 by decide +kernel];rfl
instance (priority:=high):Wp (YM [.int 1, .int 3] Q) (Q (fr (1/3))):=⟨λh=>⟨lz,by rw[lQ];exact h⟩⟩
def lR:PV.tup [.int 3, .int 2] =fr (3/2):=by unfold fr;rw[show ((3:Rat)/2).num=3 by decide +kernel,show ((3:Rat)/2).den=2 by decide +kernel];rfl
instance (priority:=high):Wp (YM [.int 3, .int 2] Q) (Q (fr (3/2))):=⟨λh=>⟨lz,by rw[lR];exact h⟩⟩
class Zp (xs ys:List PV) (zs:outParam (List PV)):Prop where
 e:Fe xs ys=zs
instance:Zp [] [] [] :=⟨rfl⟩
instance[h:Zp xs ys zs] :Zp (x::xs) (y::ys) (.tup [x,y] :: zs):=⟨by rw[<-h.e];rfl⟩
instance[h:Zp xs ys zs] :Wp (DE g b ⟨nx,rt,bk,ct⟩ (Fe xs ys) τ) (DE g b ⟨nx,rt,bk,ct⟩ zs τ):=⟨λk=>by rw[h.e];exact k⟩
instance{d:AE}{c:kn PV}[h:Zp xs ys zs] :Wp (DC g tt d τ QL (Fe xs ys) c) (DC g tt d τ QL zs c):=⟨λk=>by rw[h.e];exact k⟩
instance{A:Prop}[h:Zp xs ys zs] :Wp ((Fe xs ys).length<sizeLine/\A) (zs.length<sizeLine/\A):=⟨λk=>by rw[h.e];exact k⟩
instance (priority:=high){d:AE}{c q zs:kn PV}[h:aw c [y] zs] :Wp (DC g tt d τ QL q (c ++ [y])) (DC g tt d τ QL q zs):=⟨λk=>by rw[h.e];exact k⟩
instance{m:Int}:ZC (At [.tape, .int m] Q) (0<m/\m<4611686018427387904) (∀r,0<=r->r<m->Q (.int r)):=⟨λc h=>Eu c.1 c.2 h⟩
instance{ns:kn Int}{k:Int}:ZC (GZ [.scr ns, .int k] Q) (0<=k/\k<=1000) (Q .tape):=⟨λc h=>⟨c,h⟩⟩
instance{a b:Rat}:ZC (E5 [fr a,fr b] Q) (Bd 4000 a/\Bd 4000 b) (Q (fr (a+b))):=⟨λc h=>Y9 c.1 c.2 h⟩
instance{a b:Rat}:ZC (EL [fr a,fr b] Q) (Bd 4000 a/\Bd 4000 b) (Q (fr (a-b))):=⟨λc h=>Vm c.1 c.2 h⟩
instance{a b:Rat}:ZC (Ja [fr a,fr b] Q) (Bd 4000 a/\Bd 4000 b) (Q (fr (a*b))):=⟨λc h=>Vn c.1 c.2 h⟩
instance{a b:Rat}:ZC (Bi [fr a,fr b] Q) (Bd 4000 a/\Bd 4000 b) (Q (fr (a+b))):=⟨λc h=>PB c.1 c.2 h⟩
instance{a b:Rat}:ZC (BK [fr a,fr b] Q) (Bd 4000 a/\Bd 4000 b) (Q (fr (a-b))):=⟨λc h=>O9 c.1 c.2 h⟩
instance{a b:Rat}:ZC (Cd [fr a,fr b] Q) (Bd 4000 a/\Bd 4000 b) (Q (fr (a*b))):=⟨λc h=>JZ c.1 c.2 h⟩
instance{a b:Rat}:ZC (IH [fr a,fr b] Q) (b≠0/\Bd 4000 a/\Bd 4000 b) (Q (fr (a/b))):=⟨λc h=>Y8 c.1 c.2.1 c.2.2 h⟩
instance{a b:Rat}:ZC (Db [fr a,fr b] Q) (b≠0/\Bd 4000 a/\Bd 4000 b) (Q (fr (a/b))):=⟨λc h=>MF c.1 c.2.1 c.2.2 h⟩
instance{lo:Int}{A:Prop}:Wp ((rng lo n).length<sizeLine/\A) (n<16777216/\A):=⟨λk=>⟨by rw[W2];exact k.1,k.2⟩⟩
instance{c:Type}{f:c->PV}{cs:kn c}{A:Prop}:Wp ((cs.map f).length<sizeLine/\A) (cs.length<16777216/\A):=⟨λk=>⟨by rw[AAK];exact k.1,k.2⟩⟩
instance (priority:=high){c:Type}{k:c}[Decidable (k=k)]{A B:Prop}:Wp (if decide (k=k)=true then A else B) A:=⟨λh=>by rw[AAE (AAV rfl)];exact h⟩
instance{c:C4}:Wp (UF (cor c) (some 1) none Q) (Q (.tup [fr c.2.1,fr c.2.2.1,fr c.2.2.2])):=⟨λh=>E2 h⟩
end
end PL
namespace L2
open PySem PySem.Spec PyProof.Rows
abbrev y1 (b:kd)(h:cb)(l:ki):cb:=h.push (TJ b l)
abbrev y2 (b c:kd)(h:cb)(l m:ki):cb:=(y1 b h l).push (TJ c m)
abbrev y3 (b c d:kd)(h:cb)(l m n:ki):cb:=(y2 b c h l m).push (TJ d n)
abbrev y4 (b c d:kd)(h:cb)(l m n:ki):cb:=(y3 b c d h l m n).push {cls:= .type "tuple",data:= .seq #[.ref h.objs.size, .ref (y1 b h l).objs.size, .ref (y2 b c h l m).objs.size] }
abbrev y5 (b c d:kd)(h:cb)(l m n:ki):cb:=(y4 b c d h l m n).push {cls:= .type "tuple",data:= .seq #[.none, .none, .none] }
end L2
namespace L2
open PySem PySem.Spec PyProof.Rows
def U1:Manifest.owners.lookup (String.ofList ['d','e','s','r','e','v','e','r'].reverse)=some Manifest.sig_reversed:=by kernel_rfl
def F0:Slot "reversed" "__next__" "reversed.__next__" :=
 .of (owner:="reversed") (n:="__next__") (by rw[ADv,ADw];kernel_rfl) (by decide +kernel) (by decide +kernel) (by decide +kernel)
   (by first | exact .inl (by decide +kernel)|exact .inr (by decide +kernel)) (by rw[ADH];kernel_rfl)
def PP:entryFor table "reversed.__next__" =some Builtin.«reversed.__next__»:=entryFor_of_tree (by kernel_rfl)
def NW (a:km):argsOk "reversed.__next__" ⟨[a], []⟩:=by unfold argsOk;rw[signature?_of (id:="reversed.__next__") (n:= ['_','_','t','x','e','n','_','_']) (o:= ['d','e','s','r','e','v','e','r']) (by kernel_rfl) U1];kernel_rfl
def KG:Slot "reversed" "__iter__" "reversed.__iter__" :=
 .of (owner:="reversed") (n:="__iter__") (by rw[ADv,ADw];kernel_rfl) (by decide +kernel) (by decide +kernel) (by decide +kernel)
   (by first | exact .inl (by decide +kernel)|exact .inr (by decide +kernel)) (by rw[ADH];kernel_rfl)
def NV (a:km):argsOk "reversed.__iter__" ⟨[a], []⟩:=by unfold argsOk;rw[signature?_of (id:="reversed.__iter__") (n:= ['_','_','r','e','t','i','_','_']) (o:= ['d','e','s','r','e','v','e','r']) (by kernel_rfl) U1];kernel_rfl
def PN:entryFor table "reversed.__iter__" =some Builtin.«dict_keyiterator.__iter__»:=
 entryFor_alias (id':="dict_keyiterator.__iter__") (by kernel_rfl) (by first | rfl|decide +kernel|(unfold String.splitOn;simp +decide [String.splitOnAux])) (by decide +kernel) (by kernel_rfl)
def aS:typeLookup (.type "tuple") "__reversed__" =pure none:=by rw[ADv,ADw];kernel_rfl
def S8:isSubtype (.type "tuple") (.type "dict")=pure false:=by rw[ADH];kernel_rfl
def fT (m:ki)(i:Int):Obj:={cls:= .type "reversed",data:= .fields #[.ref m,rawInt i] }
def IJ (h:cb)(q m:ki)(i:Int):Prop:=h.get? q=some (fT m i)
section
variable {prog:gn}{w:fe}{A:Wf}{E:km->kj->Prop}{s:kj}
def IJ.typeIs {q m:ki}{i:Int}(x:IJ s.heap q m i):s.TypeIs (.ref q) "reversed" :=⟨_,x,rfl⟩
end
def dw (l:ki)(items:Array km)(c:(items.size:Int)<2^63):Meets (Builtin.«reversed.__new__» ⟨[.type "reversed", .ref l], []⟩) (λ_ R s=>IsTup s.heap l items/\R (.ok (.ret (.ref s.heap.objs.size))) {s with heap:=s.heap.push (fT l ((items.size:Int)-1)),toks:=s.toks+1+1}):=
 .of_wp λprog w A R s h=>by
   obtain⟨hl,h⟩:=h;unfold Builtin.«reversed.__new__»;refine AAA (ABJ (newClass_reversed _) ?_);try dsimp only
   refine AAA (ABJ (a:=()) (by first | rfl|kernel_rfl) ?_);refine AAA (ABJ (a:=()) (by first | rfl|kernel_rfl) ?_);try dsimp only
   refine AAA (ABr hl.typeIs aS ?_);try dsimp only
   refine AAA ?_
   wp_delta
   refine AAA (ACQ (T:="tuple") (b:=false) hl.typeIs S8 ?_);rw[AAD (by decide)];refine AAA (ABr hl.typeIs ABv.lookup ?_);dsimp only;rw[AAE (by decide +kernel)];refine AAC ?_;rw[AAD (by decide)];refine AAA (len_tuple hl c ?_);refine AAA (ABJ (a:=some (items.size:Int)) rfl ?_);dsimp only;unfold Builtin.SmallTypes.newRecord;refine AAA (AA4 (AAC ?_));exact⟨_,rfl,h⟩
def ir:Slot "reversed" "__init__" "object.__init__" :=
 .of (owner:="object") (n:="__init__") (by rw[ADv,ADw];kernel_rfl) (by decide +kernel) (by decide +kernel) (by decide +kernel)
   (by first | exact .inl (by decide +kernel)|exact .inr (by decide +kernel)) (by rw[ADH];kernel_rfl)
def ZO:TypeCalled "reversed" "reversed.__new__" "object.__init__" :=
 ⟨by decide +kernel,by decide +kernel,⟨_,_,F.mro_reversed⟩,F.made_reversed,by decide +kernel,by rw[ADH];kernel_rfl,ir⟩
section
variable {prog:gn}{w:fe}{A:Wf}{E:km->kj->Prop}{s:kj}
def gL {l:ki}{items:Array km}{Q:km->kj->Prop}(hl:IsTup s.heap l items)(a:(items.size:Int)<2^63)(h:Q (.ref s.heap.objs.size) {s with heap:=s.heap.push (fT l ((items.size:Int)-1)),toks:=s.toks+1+1}):wpAny (model prog w) A (call (.type "reversed") [.ref l]) Q E s:=by refine ADj ZO (by decide) (F.typeCall_reversed_1 _) (F.newCall_reversed_1 _) (λobj=>F.args_object_init_2 obj _) F.entry_reversed_new (dw l items a) ⟨hl, ?_⟩;exact⟨⟨_,AAO _ rfl,rfl⟩,h⟩
def gk {q m:ki}{i:Int}{Q:km->kj->Prop}(a:IJ s.heap q m i)(h:Q (.ref q) s):wpAny (model prog w) A (pyIter (.ref q)) Q E s:=by refine wpAny_pyIter_slot a.typeIs KG (AA0 KG a.typeIs PN ?_ (NV _));show wpAny _ _ (ret (.ref q)) _ _ s;exact AAC ⟨_,rfl,"reversed",_,a.typeIs,F0.lookup,h⟩
def g6 {q m:ki}{k:Nat}{xs:Array km}{x:km}{Q:km->kj->Prop}(b:IJ s.heap q m ((xs.size:Int)-1-k))(hl:IsTup s.heap m xs)(h:(xs.size:Int)<2^63)(hk:k<xs.size)(hx:xs[xs.size-1-k]? =some x)(hQ:∀h' c,IJ h' q m ((xs.size:Int)-1-(k+1:Nat))->Heap.SameBut q s.heap h'->Q x {s with heap:=h',toks:=c}):wpAny (model prog w) A (Builtin.SmallTypes.nextOf (.ref q)) Q E s:=by
 unfold Builtin.SmallTypes.nextOf;refine AAA (ABu (name:=Str.ofString "__next__") b.typeIs F0 (AA0 F0 b.typeIs PP ?_ (NW _)));unfold Builtin.«reversed.__next__»;refine AAA (ABJ (a:=(Value.ref q, [])) rfl ?_);try dsimp only
 refine AAA (AAR b rfl (x:= .ref m) rfl ?_);refine AAA (AAR b rfl (x:=rawInt ((xs.size:Int)-1-k)) rfl ?_);show wpAny _ _ (if ((xs.size:Int)-1-k)<0 then _ else _) _ _ s;rw[AAD (by omega)];refine AAA (ABr hl.typeIs ABv.lookup ?_);rw[AAD (by decide)];refine AAA (wpAny_mkInt ?_);have d:seqIndex? ((xs.size:Int)-1-k) xs.size=some (xs.size-1-k):=by
  unfold seqIndex?;have e:¬((xs.size:Int)-1-k<0):=by omega
  have f:(0:Int)<=(xs.size:Int)-1-k:=by omega
  have g:(xs.size:Int)-1-k<xs.size:=by omega
  simp only[AAD e,f,g,decide_true,Bool.and_true,AAt];congr 1;omega
 refine AAA (ADC (getItem_tuple hl (by omega) (by omega) d hx ?_));refine AAA (AAR (s:={s with toks:=s.toks+1}) b rfl (x:=rawInt ((xs.size:Int)-1-k)) rfl ?_);refine AAA (wpAny_setField (s:={s with toks:=s.toks+1}) b rfl (by simp) (AAC ⟨x,rfl,AAC (hQ _ _ ?_ (AEU ..))⟩));unfold IJ;rw[AC6 _ b (Obj.isFreed_of_fields (AEV rfl _))];rw[show (xs.size:Int)-1-(k+1:Nat)=(xs.size:Int)-1-k-1 by omega];rfl
end
structure ZR (z TI TO i j l m:Addr) (n:Nat) (k:Nat) (f:Value) (h:Heap):Prop where
 zip:IsZip h z TI TO f
 its:IsPair h TI (.ref i) (.ref j)
 own:∃x y,IsPair h TO x y
 one:Ma false h i l k
 two:IJ h j m ((n:Int)-1-k)
def ZR.mv {z TI TO i j l m:ki}{n k:Nat}{f:km}{h h':cb}(Z:ZR z TI TO i j l m n k f h)(e:∀p∈ [z,TI,TO,i,j],∀o,h.get? p=some o->h'.get? p=some o):ZR z TI TO i j l m n k f h':=by obtain⟨a,b,⟨x,y,c⟩,d,g⟩:=Z;exact⟨e z (by simp) _ a,e TI (by simp) _ b,⟨x,y,e TO (by simp) _ c⟩,d.mv (e i (by simp)),e j (by simp) _ g⟩
section
variable {prog:gn}{w:fe}{A:Wf}{E:km->kj->Prop}{s:kj}
variable {z TI TO i j l m:ki}{k:Nat}{xs ys:Array km}
def pJ {x y:km}{Q:km->kj->Prop}(D:ZipApart z TI TO i j l m)(Z:ZR z TI TO i j l m ys.size k .none s.heap)(hl:IK false s.heap l xs)(hm:IsTup s.heap m ys)(UU:(ys.size:Int)<2^63)(hx:xs[k]? =some x)(hk:k<ys.size)(hy:ys[ys.size-1-k]? =some y)(hQ:∀h' K,IsZip h' z TI TO (rawInt s.heap.objs.size)->IsPair h' TI (.ref i) (.ref j)->IsPair h' TO x y->Ma false h' i l (k+1)->IJ h' j m ((ys.size:Int)-1-(k+1:Nat))->IsPair h' s.heap.objs.size x y-> (∀p o,p≠z->p≠TO->p≠i->p≠j->s.heap.get? p=some o->h'.get? p=some o)->Q (.ref s.heap.objs.size) {s with heap:=h',toks:=K}):wpAny (model prog w) A (Builtin.«zip.__next__» ⟨[.ref z], []⟩) (λL s'=>∃v,L= .done (.ret v)/\Q v s') E s:=by
 obtain⟨g,Y,⟨x0,M,zo⟩,z1,z2⟩:=Z;show wpAny _ _ (field (.ref z) 2 >>= _) _ _ _;refine AAA (AAR g rfl (x:= .bool false) rfl ?_);show wpAny _ _ (field (.ref z) 3 >>= _) _ _ _;refine AAA (AAR g rfl (x:= .ref TI) rfl (AAA (AA2 Y rfl ?_)));refine AAA (m:=Builtin.SmallTypes.ownedTupleIsFree (.ref z)) ?_;unfold Builtin.SmallTypes.ownedTupleIsFree;refine AAA (AAR g rfl (x:= .none) rfl (AAC ?_));simp only[AAt];refine AAA (ABx (AAA (AAR g rfl (x:= .ref TO) rfl (AAA (ABK g (by simp) λg1 N d=> ?_)))));have N:IsZip g1 z TI TO .ellipsis:=N;refine AAA ?_;simp only[ADh,ADi,ACH,ACr];refine AAA (AAA (ACY ?_));refine AAA (m:=Builtin.SmallTypes.nextOf (.ref i)) (Gf (z1.mv λo=>d.extBut _ o D.i1z) (hl.mv λo=>d.extBut _ o D.l1z) hx λg2 e2 b2=>AAC ?_);have o2:IsPair g2 TO x0 M:=b2.extBut _ _ D.TOi1 (d.extBut _ _ D.TOz zo);refine AAA (AA2 o2 rfl (AAA (ADA o2 λO P f=>AAA (ADB (AAC ?_)))));have P:IsPair O TO x M:=P;refine AAA (AAA (ACY ?_));have R:∀h h':cb,(∀o,h.get? m=some o->h'.get? m=some o)->IsTup h m ys->IsTup h' m ys:=λh h' e x=>(show IK false h m ys from x).mv e;have S:IsTup O m ys:=R _ _ (λo=>f.extBut _ o D.l2TO) (R _ _ (λo=>b2.extBut _ o D.l2i1) (R _ _ (λo=>d.extBut _ o D.l2z) hm));have T:IJ O j m ((ys.size:Int)-1-k):=f.extBut _ _ D.TOi2.symm (b2.extBut _ _ D.i12.symm (d.extBut _ _ D.i2z z2));refine AAA (m:=Builtin.SmallTypes.nextOf (.ref j)) (g6 T S UU hk hy λg4 K e4 n=>AAC ?_);have o4:IsPair g4 TO x M:=n.extBut _ _ D.TOi2 P;refine AAA (AA2 o4 rfl (AAA (ADA o4 λa F r=>AAA (ADB (AAC (AAC ?_))))));have F:IsPair a TO x y:=F;refine AAA (AA2 F rfl (AAA (wpAny_newTuple ?_)));have sz:a.objs.size=s.heap.objs.size:=by rw[r.1,n.1,f.1,b2.1,d.1]
 have k5:IsZip a z TI TO .ellipsis:=r.extBut _ _ D.TOz.symm (n.extBut _ _ D.i2z.symm (f.extBut _ _ D.TOz.symm (b2.extBut _ _ D.i1z.symm N)));have b:∀p o,p≠z->p≠TO->p≠i->p≠j->s.heap.get? p=some o->a.get? p=some o:=λp o G H U W e=>
  r.extBut _ _ H (n.extBut _ _ W (f.extBut _ _ H (b2.extBut _ _ U (d.extBut _ _ G e))))
 have t:Ma false a i l (k+1):=((e2.mv λo=>f.extBut _ o D.TOi1.symm).mv λo=>n.extBut _ o D.i12).mv λo=>r.extBut _ o D.TOi1.symm;have u:IJ a j m ((ys.size:Int)-1-(k+1:Nat)):=r.extBut _ _ D.TOi2.symm e4;have B:z<a.objs.size:=AAF k5;refine AAA (m:=Builtin.SmallTypes.ownedTupleHandOut (.ref z) (.ref a.objs.size)) ?_;unfold Builtin.SmallTypes.ownedTupleHandOut;have k6:IsZip (a.push {cls:= .type "tuple",data:= .seq #[x,y] }) z TI TO .ellipsis:=AAG _ k5;refine AAA (ABK k6 (by simp) λg7 X b7=> ?_);have X:IsZip g7 z TI TO (rawInt a.objs.size):=X;refine ABK X (by simp) λI J b8=> ?_;have J:IsZip I z TI TO (rawInt a.objs.size):=J;have C:∀p o,p≠z->a.get? p=some o->I.get? p=some o:=λp o q e=>b8.extBut _ _ q (b7.extBut _ _ q (AAG _ e));have c:IsPair I a.objs.size x y:=b8.extBut _ _ (AAv B) (b7.extBut _ _ (AAv B) (AAO _ rfl));rw[sz] at J c;refine AAC ⟨_,rfl, ?_⟩;show Q (.ref a.objs.size) _;rw[sz];exact hQ I K J (C _ _ D.TIz (b _ _ D.TIz D.TITO D.TIi1 D.TIi2 Y)) (C _ _ D.TOz F) (t.mv λo=>C _ o D.i1z) (C _ _ D.i2z u) c λp o G H U W e=>C p o G (b p o G H U W e)
def tN {n:Nat}{Q:Fin->kj->Prop}(t:A.handled=none)(D:ZipApart z TI TO i j l m)(Z:ZR z TI TO i j l m n k .none s.heap)(hl:IK false s.heap l xs)(hx:xs[k]? =none)(u:∀h' e,(∀p o,p≠z->p≠TO->p≠i->p≠j->s.heap.get? p=some o->h'.get? p=some o)->(∃o,h'.get? e=some o/\o.cls= .type "StopIteration")->E (.ref e) {s with heap:=h'}):wpAny (model prog w) A (Builtin.«zip.__next__» ⟨[.ref z], []⟩) Q E s:=by
 obtain⟨a,v,⟨J,K,L⟩,y,M⟩:=Z;show wpAny _ _ (field (.ref z) 2 >>= _) _ _ _;refine AAA (AAR a rfl (x:= .bool false) rfl ?_);show wpAny _ _ (field (.ref z) 3 >>= _) _ _ _;refine AAA (AAR a rfl (x:= .ref TI) rfl (AAA (AA2 v rfl ?_)));refine AAA (m:=Builtin.SmallTypes.ownedTupleIsFree (.ref z)) ?_;unfold Builtin.SmallTypes.ownedTupleIsFree;refine AAA (AAR a rfl (x:= .none) rfl (AAC ?_));simp only[AAt];refine AAA (ABx (AAA (AAR a rfl (x:= .ref TO) rfl (AAA (ABK a (by simp) λB b c=> ?_)))));have b:IsZip B z TI TO .ellipsis:=b;refine AAA ?_;simp only[ADh,ADi,ACH,ACr];refine AAA (AAA (ACY ?_));refine AAA (m:=Builtin.SmallTypes.nextOf (.ref i)) (FR t (y.mv λo=>c.extBut _ o D.i1z) (hl.mv λo=>c.extBut _ o D.l1z) hx λC e b2 he=> ?_);obtain⟨F,d,f⟩:=he;have g:IsZip C z TI TO .ellipsis:=b2 _ _ D.i1z.symm b;have G:e≠z:=λq=>by subst q;rw[g] at d;cases d;simp at f
 refine ABK g (by simp) λH _ h=>u H e (λp o r _ I _ q=>h.extBut _ _ r (b2 _ _ I (c.extBut _ _ r q))) ⟨F,h.extBut _ _ G d,f⟩
end
def je {n l m:Nat}(h1:l<n)(h2:m<n):ZipApart (n+4) (n+2) (n+3) (n+1) n l m where
 TIz:=(by omega:(n+2:Nat)≠n+4)
 TOz:=(by omega:(n+3:Nat)≠n+4)
 i1z:=(by omega:(n+1:Nat)≠n+4)
 i2z:=(by omega:(n:Nat)≠n+4)
 TITO:=(by omega:(n+2:Nat)≠n+3)
 TIi1:=(by omega:(n+2:Nat)≠n+1)
 TIi2:=(by omega:(n+2:Nat)≠n)
 TOi1:=(by omega:(n+3:Nat)≠n+1)
 TOi2:=(by omega:(n+3:Nat)≠n)
 i12:=(by omega:(n+1:Nat)≠n)
 l1z:=(by omega:(l:Nat)≠n+4)
 l1TO:=(by omega:(l:Nat)≠n+3)
 l1i1:=(by omega:(l:Nat)≠n+1)
 l1i2:=(by omega:(l:Nat)≠n)
 l2z:=(by omega:(m:Nat)≠n+4)
 l2TO:=(by omega:(m:Nat)≠n+3)
 l2i1:=(by omega:(m:Nat)≠n+1)
 l2i2:=(by omega:(m:Nat)≠n)
abbrev rA (h:cb)(l:ki):cb:=h.push (TJ false l)
abbrev rC (h:cb)(l r:ki):cb:=(rA h l).push {cls:= .type "tuple",data:= .seq #[.ref h.objs.size, .ref r] }
abbrev rD (h:cb)(l r:ki):cb:=(rC h l r).push {cls:= .type "tuple",data:= .seq #[.none, .none] }
abbrev rF (h:cb)(l r:ki):cb:=(rD h l r).push {cls:= .type "zip",data:= .fields #[.none, .bool false, .bool false, .ref (rA h l).objs.size, .ref (rC h l r).objs.size] }
def cf {prog:gn}{w:fe}{A:Wf}{E:km->kj->Prop}{h:cb}{g:Array GenState}{d:Drawn}{a:Nat}{os:OsState}{q m:ki}{i:Int}{Q:km->kj->Prop}(b:IJ h q m i)(k:Q (.ref q) ⟨h,g,d,a,os⟩):wpAny (model prog w) A (pyIter (.ref q)) Q E ⟨h,g,d,a,os⟩:=gk (s:=⟨h,g,d,a,os⟩) b k
def XX (l r m:ki)(i:Int)(xs:Array km):Meets (Builtin.«zip.__new__» ⟨[.type "zip", .ref l, .ref r], []⟩) (λ_ R s=>IK false s.heap l xs/\IJ s.heap r m i/\R (.ok (.ret (.ref (rD s.heap l r).objs.size))) {s with heap:=rF s.heap l r}):=
 .of_wp λprog w A R s h=>by
   obtain⟨hp,g,d,e,os⟩:=s;obtain⟨hl,a,h⟩:=h;have f:=sub_zip;have b:IK false hp l xs:=hl;have c:IJ (hp.push (TJ false l)) r m i:=AAG _ a
   wp_walk using IZ b,cf c
   exact⟨_,rfl,h⟩
section
variable {prog:gn}{w:fe}{A:Wf}{E:km->kj->Prop}{s:kj}{l m r:ki}{xs:Array km}{n:Nat}
def jc (hl:IK false s.heap l xs)(f:IJ s.heap r m ((n:Int)-1)){Q:km->kj->Prop}(h:∀h',ZR (s.heap.objs.size+3) (s.heap.objs.size+1) (s.heap.objs.size+2) s.heap.objs.size r l m n 0 .none h'->(∀p o,s.heap.get? p=some o->h'.get? p=some o)->Q (.ref (s.heap.objs.size+3)) {s with heap:=h'}):wpAny (model prog w) A (call (.type "zip") [.ref l, .ref r]) Q E s:=by
 refine ADj F.called_zip (by decide) (F.typeCall_zip_2 _ _) (F.newCall_zip_2 _ _) (λobj=>F.args_object_init_3 obj _ _) F.entry_zip_new (XX l r m _ xs) ⟨hl,f, ?_⟩;have b:(rA s.heap l).objs.size=s.heap.objs.size+1:=AA5 ..;have c:(rC s.heap l r).objs.size=s.heap.objs.size+2:=by rw[AA5,b]
 have i:(rD s.heap l r).objs.size=s.heap.objs.size+3:=by rw[AA5,c]
 have a:∀(g:cb) (x:Obj) (p:ki) (o:Obj),g.get? p=some o->(g.push x).get? p=some o:=λg x p o e=>AAG _ e;have d:(rF s.heap l r).get? (rD s.heap l r).objs.size=some _:=AAO _ rfl;have j:(rF s.heap l r).get? (rC s.heap l r).objs.size=some _:=a _ _ _ _ (AAO _ rfl);have k:(rF s.heap l r).get? (rA s.heap l).objs.size=some _:=a _ _ _ _ (a _ _ _ _ (AAO _ rfl));have t:(rF s.heap l r).get? s.heap.objs.size=some (TJ false l):=a _ _ _ _ (a _ _ _ _ (a _ _ _ _ (AAO _ rfl)));have all:∀p o,s.heap.get? p=some o->(rF s.heap l r).get? p=some o:=λp o e=>a _ _ _ _ (a _ _ _ _ (a _ _ _ _ (a _ _ _ _ e)));rw[b,c,i] at d;rw[b] at k;rw[c] at j;show _/\_;rw[i];exact⟨⟨_,d,rfl⟩,h _ ⟨d,k,⟨_,_,j⟩,YC t,by rw[show (n:Int)-1-(0:Nat)=(n:Int)-1 by omega];exact all _ _ f⟩ all⟩
end
def ud (K:AAB)(l m:ki)(n:Nat):It:=
 ⟨λi H=>∃xs ys x y,Sq K false H l xs/\Sq K false H m ys/\ys.length=n/\xs[i]? =some x/\i<n/\ys[n-1-i]? =some y,
  λi H v a=>∃T x y,v= .ref T/\H T=none/\a=upd H T (.tup [x,y])/\(∀xs,Sq K false H l xs->xs[i]? =some x)/\∀ys,Sq K false H m ys->ys[n-1-i]? =some y,
  λi H=>∃xs,Sq K false H l xs/\xs.length<=i⟩
def aX {P:gn}{w:fe}{K:AAB}{es:kn ke}{Q:Nat}{pos:Pos}{z TI TO i j l m:ki}{n:Nat}(D:ZipApart z TI TO i j l m):Je P w K (.Tuple es Q pos) (ud K l m n) [z,TI,TO,i,j] z (λk h=>ZR z TI TO i j l m n k .none h) where
 mem:=by simp
 obj:=λk h Z p hp=>by
  have a:p=z\/p=TI\/p=TO\/p=i\/p=j:=by simpa using hp
  rcases a with e|e|e|e|e
  .subst e;exact⟨_,Z.zip,λv q=>nomatch q⟩
  .subst e;exact⟨_,Z.its,λv q=>nomatch q⟩
  .subst e;obtain⟨x,y,q⟩:=Z.own;exact⟨_,q,λv q=>nomatch q⟩
  .subst e;exact Z.one.obj
  .subst e;exact⟨_,Z.two,λv q=>nomatch q⟩
 keep:=λk h h' Z e=>Z.mv e
 item:=by
  intro X r hw t hc k G s J H E I g Z A;subst r hw t;obtain⟨xs,ys,x,y,hl,L,M,hx,hk,hy⟩:=A;obtain⟨R,B,C,_⟩:=I.sq hl;obtain⟨vs,rv,sv,S⟩:=I.sq L;obtain⟨u,hu,U⟩:=B.get hx;obtain⟨v,hv,W⟩:=rv.get hy;have d:vs.toArray.size=n:=by rw[AAP,<-rv.length];exact M
  have f:s.TypeIs (.ref z) "zip" :=⟨_,Z.zip,rfl⟩;rw[<-d] at Z;unfold pyNext;refine AAA (ADC (ABu (name:=Str.ofString "__next__") f ACJ (AA0 ACJ f ADk
   (pJ D Z C sv (by rw[d,<-M];exact Int.lt_of_le_of_lt (Int.ofNat_le.mpr S) (by decide)) (x:=u) (y:=v) (by simpa using hu) (by rw[d];exact hk) (by rw[d];simpa using hv) λh1 N Y a2 a3 a4 O a6 a7=>AAC ?_) (ADl _))))
  refine⟨_,rfl,wpAny_letOwnedTupleGo_zip (s:={s with heap:=h1,toks:=N}) Y λh2 c1 c2=> ?_⟩;have F:∀p∈ [z,TI,TO,i,j],p<s.heap.objs.size:=λp hp=>by
   have a:p=z\/p=TI\/p=TO\/p=i\/p=j:=by simpa using hp
   rcases a with e|e|e|e|e
   .subst e;exact AAF Z.zip
   .subst e;exact AAF Z.its
   .subst e;obtain⟨x,y,q⟩:=Z.own;exact AAF q
   .subst e;obtain⟨o,q,_⟩:=Z.one.obj;exact AAF q
   .subst e;exact AAF Z.two
  have c:∀p o,p≠z->h1.get? p=some o->h2.get? p=some o:=λp o q e=>c2.extBut _ _ q e;have kp:∀p o,p ∉ [z,TI,TO,i,j] ->s.heap.get? p=some o->h2.get? p=some o:=λp o hp e=>by
   have a:p≠z/\p≠TI/\p≠TO/\p≠i/\p≠j:=by simpa using hp
   exact c p o a.1 (a7 p o a.1 a.2.2.1 a.2.2.2.1 a.2.2.2.2 e)
  have vP:s.heap.objs.size≠z:=AAv (F z (by simp));have I2:Inv X G J (upd H s.heap.objs.size (.tup [x,y])) {s with heap:=h2,toks:=N}:=I.turnedN g F kp (AAJ _)
   ⟨(by show 2<=sizeLine;decide), [u,v], .cons U (.cons W .nil),⟨_,c _ _ vP a6,rfl,_,rfl⟩⟩
  have UV:H s.heap.objs.size=none:=I.fresh;refine⟨.ref s.heap.objs.size,upd H s.heap.objs.size (.tup [x,y]),I2,rfl,⟨_,x,y,rfl,UV,rfl,λxs' h'=> ?_,λys' h'=> ?_⟩, ?_,λp hp=> ?_⟩
  .rw [I.sq_inj h' hl];exact hx
  .rw [I.sq_inj h' L];exact hy
  .rw [d] at O;exact⟨c1,c _ _ D.TIz a2,⟨_,_,c _ _ D.TOz a3⟩,a4.mv λo=>c _ o D.i1z,c _ _ D.i2z O⟩
  .rw [Ai (AAN (F p hp))];exact(g p hp).1
 done:=by
  intro X r hw t hc k G s J H E I g Z A;subst r hw t;obtain⟨xs,hl,he⟩:=A;obtain⟨R,B,C,_⟩:=I.sq hl;have e1:=B.length;have f:s.TypeIs (.ref z) "zip" :=⟨_,Z.zip,rfl⟩;unfold pyNext;refine AAA (ADC (ABu (name:=Str.ofString "__next__") f ACJ (AA0 ACJ f ADk
   (tN (I.ok.hd hc) D Z C (by simp;omega) λh1 e hk he=> ?_) (ADl _))))
  obtain⟨o,ho,qc⟩:=he;refine AAA (ACQ (T:="StopIteration") (b:=true) ⟨o,ho,qc⟩ isSubtype_stop (AAC ⟨rfl, ?_⟩));exact I.turnedL (t':=s.toks) g λp o hp e=>by
   have a:p≠z/\p≠TI/\p≠TO/\p≠i/\p≠j:=by simpa using hp
   exact hk p o a.1 a.2.2.1 a.2.2.2.1 a.2.2.2.2 e
 self:=λ_ _ _ _ _ Z h=>ADm Z.zip h
section
variable {X:Cx}
def iS {e f:ke}{z A:TE}{p n pos c i:Pos}{es:kn ke}{M:Nat}(N:Gl X "zip")(O:X.mg "zip" =none)(P:Gl X "reversed")(Q:X.mg "reversed" =none)(he:PE X e z)(S:PE X f A)(hs:starEach [e, .Call (.Name "reversed" n) [f] [] c] X.env= [(false,eval e X.env),(false,eval (.Call (.Name "reversed" n) [f] [] c) X.env)] :=by rfl)(B:starEach [f] X.env= [(false,eval f X.env)] :=by rfl):PI X (.Tuple es M i) (.Call (.Name "zip" p) [e, .Call (.Name "reversed" n) [f] [] c] [] pos) (λd H R=>z d H λu H1=>A d H1 λv g=>∃l m ys,u= .ref l/\v= .ref m/\(∃xs,Sq X.K false g l xs)/\Sq X.K false g m ys/\R (ud X.K l m ys.length) g):=by
 intro r s d H R I h;refine Call_ (Fj I N O boot_zip (ACV ?_ (by rw[hs];rfl) rfl));rw[hs];show wpAny _ _ (spliced ((false,eval e X.env) :: [(false,eval (.Call (.Name "reversed" n) [f] [] c) X.env)])) _ _ s;refine ACk (BR (he r s d H _ I h) λv C ⟨x,H1,D,T,U⟩=> ?_);refine ACk ?_;refine Call_ (Fj D P Q boot_reversed (ACV ?_ (by rw[B];rfl) rfl));rw[B];show wpAny _ _ (spliced ((false,eval f X.env) :: [])) _ _ C;refine ACk (BR (S r C d H1 _ D U) λv2 a ⟨x2,g,j,W,Y⟩=>ADZ ?_);obtain⟨l,m,ys,rfl,rfl,⟨xs,hl⟩,lp,q⟩:=Y;cases T;cases W;obtain⟨us,ru,E,_⟩:=j.sq hl;obtain⟨vs,rv,sv,hz⟩:=j.sq lp;have F:vs.toArray.size=ys.length:=by rw[AAP,<-rv.length]
 have t:l<a.heap.objs.size:=by obtain⟨o,e,_⟩:=E;exact AAF e
 have w:m<a.heap.objs.size:=by obtain⟨o,e,_⟩:=sv;exact AAF e
 refine gL sv (by rw[F];exact Int.lt_of_le_of_lt (Int.ofNat_le.mpr hz) (by decide)) (ADZ ?_);have G:∀b o,a.heap.get? b=some o->(a.heap.push (fT m ((vs.toArray.size:Int)-1))).get? b=some o:=λb o e=>AAG _ e;have k:(a.heap.push (fT m ((vs.toArray.size:Int)-1))).objs.size=a.heap.objs.size+1:=AA5 ..;have y:IK false (a.heap.push (fT m ((vs.toArray.size:Int)-1))) l us.toArray:=E.mv λo e=>G _ o e;have hR:IJ (a.heap.push (fT m ((vs.toArray.size:Int)-1))) a.heap.objs.size m ((ys.length:Int)-1):=by rw[<-F];exact AAO _ rfl
 refine jc (s:={a with heap:=a.heap.push (fT m ((vs.toArray.size:Int)-1)),toks:=a.toks+1+1}) y hR λh1 Z kp=>ADm Z.zip ?_;have I3:Inv X r d g {a with heap:=h1,toks:=a.toks+1+1}:=j.kept (t':=a.toks+1+1) λb J q=>kp b J (G b J q);have Z':ZR (a.heap.objs.size+4) (a.heap.objs.size+2) (a.heap.objs.size+3) (a.heap.objs.size+1) a.heap.objs.size l m ys.length 0 .none h1:=by have Z2:=Z;rw[show ({a with heap:=a.heap.push (fT m ((vs.toArray.size:Int)-1)),toks:=a.toks+1+1}:kj).heap.objs.size=a.heap.objs.size+1 from k] at Z2;exact Z2
 refine⟨_,_,_,_,g, ?_,I3,aX (je t w),Z',λp hp=> ?_,q⟩
 .exact congrArg Value.ref (by show (a.heap.push (fT m ((vs.toArray.size:Int)-1))).objs.size+3=_;rw[k])
 have L:a.heap.objs.size<=p:=by
  have ly:p=a.heap.objs.size+4\/p=a.heap.objs.size+2\/p=a.heap.objs.size+3\/p=a.heap.objs.size+1\/p=a.heap.objs.size:=by simpa using hp
  rcases ly with e|e|e|e|e <;> (rw[e];first | exact AAJ _|exact ACv _ _)
 exact j.fpOk L (j.hok.fresh L)
end
end L2
namespace PL
open PySem PySem.Spec PyProof.Rows L2
def VX {xs ys:kn PV}{i:Nat}{u:PV}(h:(Fe xs ys)[i]? =some u):∃x y,xs[i]? =some x/\ys[i]? =some y/\u= .tup [x,y] :=by
 unfold Fe at h;rw[AE8] at h;cases hx:xs[i]? with
 | none=>rw[hx] at h;simp at h
 | some x=>
   cases hy:ys[i]? with
   | none=>rw[hx,hy] at h;simp at h
   | some y=>rw[hx,hy] at h;simp at h;exact⟨x,y,rfl,rfl,h.symm⟩
def Zq {K:AAB}{T M:ki->Prop}{H:Hp}{l m:ki}{xs ys:kn PV}{n:Nat}(va:KO T M H)(D:xs.length=ys.length)(y:ys.length=n)(r:Ck K T M H (.ref l) (.tup xs))(z:Ck K T M H (.ref m) (.tup ys)):RD K M (ud K l m n) (Fe xs ys.reverse) T H:=by
 obtain⟨_,vs,e,d,f⟩:=Dp r;cases e;obtain⟨_,k,e,s,c⟩:=Dp z;cases e;have E:=c.length;have t:∀i b,ys.reverse[i]? =some b->i<n/\ys[n-1-i]? =some b:=λi b h=>by have hi:i<ys.reverse.length:=(AA3.mp h).1;rw[ADI] at hi;rw[AFA hi,y] at h;exact⟨by omega,h⟩
 refine⟨λi w h=> ?_,λi w v F h A=> ?_,λi h=>⟨vs,d, ?_⟩⟩
 .obtain ⟨a,b,ha,hb,_⟩:=VX h;obtain⟨hi,hb⟩:=t i b hb;obtain⟨g,h1,_⟩:=f.get ha;obtain⟨j,h2,_⟩:=c.get hb;exact⟨vs,k,g,j,d,s,by omega,h1,hi,h2⟩
 .obtain ⟨a,b,ha,hb,rfl⟩:=VX h;obtain⟨hi,hb⟩:=t i b hb;obtain⟨p,g,j,rfl,B,rfl,h1,h2⟩:=A;obtain⟨G,u,ra⟩:=f.get' (h1 vs d);obtain⟨I,x,C⟩:=c.get' (h2 k s);rw[ha] at u;cases u;rw[hb] at x;cases x;have st:=DB.lay (o:= .tup [g,j]) va.tp B;exact⟨st, .tup (.inl Aj) (.cons (ra.stp st va) (.cons (C.stp st va) .nil))⟩
 .have:(Fe xs ys.reverse).length=xs.length:=by unfold Fe;rw[List.length_zipWith,ADI];omega
  rw[this] at h;rw[f.length];exact h
section
variable {X:Cx}
def kz (a b:AE):AI:=λτ Q=>a τ λx=>b τ λy=>match x,y with | .tup xs, .tup ys=>xs.length=ys.length/\Q (Fe xs ys.reverse)|_,_=>False
def sT {e f:ke}{n o:AE}{p d pos a b:Pos}{es:kn ke}{C:Nat}(D:Gl X "zip")(E:X.mg "zip" =none)(F:Gl X "reversed")(G:X.mg "reversed" =none)(ha:SE X e n)(hb:SE X f o)(hs:starEach [e, .Call (.Name "reversed" d) [f] [] a] X.env= [(false,eval e X.env),(false,eval (.Call (.Name "reversed" d) [f] [] a) X.env)] :=by rfl)(I:starEach [f] X.env= [(false,eval f X.env)] :=by rfl):SI X (.Tuple es C b) (.Call (.Name "zip" p) [e, .Call (.Name "reversed" d) [f] [] a] [] pos) true (kz n o):=by
 obtain⟨t,J,s⟩:=ha;obtain⟨t',K,L⟩:=hb;refine⟨_,iS D E F G J K hs I,λB T r τ H R Y g h k=>s B T r τ H _ _ g h λu x T1 H1 i M h1=>L B T1 r τ H1 _ _ (g.stp i) h1 λv y N O w z h2=> ?_⟩;split at h2 <;> first | exact h2.elim|skip
 obtain⟨P,h2⟩:=h2;have c:=M.stp w (g.stp i).va;obtain⟨l,Q,rfl,S,Z⟩:=Dp c;obtain⟨m,U,rfl,W,j⟩:=Dp z;exact⟨l,m,U,rfl,rfl,⟨Q,S⟩,W,k _ _ N O (i.trans w) (λM2 T3 H3 A va _=>Zq va P (by rw[j.length]) (c.mv A) (z.mv A)) h2⟩
end
end PL
namespace PL
open PySem L2 PyProof.Rows
class bI (Ts:List String):Prop where
 q:Ts.any (Rk .tup)=true/\Ts.any (Rk .lst)=true/\Ts.any (Rk .int)=false/\Ts.any (Rk .bl)=false/\Ts.any (Rk .non)=false/\Ts.any (Rk .str)=false
instance:bI ["tuple","list"] :=⟨by decide⟩
instance:bI ["list","tuple"] :=⟨by decide⟩
end PL
namespace L2
open PySem PySem.Spec PyProof.Rows
section
variable {κ:Type}[DecidableEq κ]
def KM (kvs:kn (κ×V))(k:κ):kf V:=(kvs.find? λa=>decide (a.1=k)).map (·.2)
def Fa (kvs:kn (κ×V))(k:κ)(v:V):kn (κ×V):=
 if (kvs.any λa=>decide (a.1=k))=true then kvs.map (λa=>if a.1=k then (a.1,v) else a) else kvs ++ [(k,v)]
def HF {p:κ×V}{r:kn (κ×V)}{k:κ}(e:p.1=k):KM (p::r) k=some p.2:=by simp[KM,ACf,e]
def HE {p:κ×V}{r:kn (κ×V)}{k:κ}(e:¬p.1=k):KM (p::r) k=KM r k:=by simp[KM,ACf,e]
theorem VT (k:κ):∀kvs:kn (κ×V),(kvs.any λa=>decide (a.1=k))=(KM kvs k).isSome
 | [] =>rfl
 | p::r=>by
   rw[ACK];by_cases e:p.1=k
   .simp only[HF e,AAV e,ADx,Option.isSome_some]
   .rw [HE e,AAW e,AEf];exact VT k r
def Ew (kvs:kn (κ×V))(k:κ)(v:V):(Fa kvs k v).length<=kvs.length+1:=by
 unfold Fa;split
 .rw [AAK];omega
 .rw [AA6,AA8,List.length_nil];omega
def MI.isSome_eq {o:kf V}{u:kf km}(r:MI o u):o.isSome=u.isSome:=by
 cases o with
 | none=>cases u with
   | none=>rfl
   | some _=>exact(show False from r).elim
 | some _=>cases u with
   | none=>exact(show False from r).elim
   | some _=>rfl
def MI.getD {o:kf V}{u:kf km}{d:V}{d':km}(r:MI o u)(a:RelV d d'):RelV (o.getD d) (u.getD d'):=by
 cases o with
 | none=>cases u with
   | none=>exact a
   | some _=>exact(show False from r).elim
 | some _=>cases u with
   | none=>exact(show False from r).elim
   | some _=>exact r
def KV.val {kvs:kn (κ×V)}{vs:kn (κ×km)}(r:KV kvs vs)(k:κ):MI (KM kvs k) (valueAt vs k):=by
 unfold KV at r;induction r with
 | nil=>exact True.intro
 | @cons p q ps qs h t c=>
   obtain⟨h1,h2⟩:=h;by_cases e:p.1=k
   .have a:q.1=k:=h1.symm.trans e;have b:valueAt (q::qs) k=some q.2:=by simp[valueAt,ACf,a]
    rw[HF e,b];exact h2
   .have a:¬q.1=k:=λz=>e (h1.trans z);have b:valueAt (q::qs) k=valueAt qs k:=by simp[valueAt,ACf,a]
    rw[HE e,b];exact c
def KV.any {kvs:kn (κ×V)}{vs:kn (κ×km)}(r:KV kvs vs)(k:κ):(kvs.any λa=>decide (a.1=k))=vs.any λa=>decide (a.1=k):=by
 unfold KV at r;induction r with
 | nil=>rfl
 | cons h t b=>rw[ACK,ACK,b,h.1]
def KV.repl {kvs:kn (κ×V)}{vs:kn (κ×km)}(r:KV kvs vs)(k:κ){y:V}{u:km}(b:RelV y u):KV (kvs.map λa=>if a.1=k then (a.1,y) else a) (vs.map λa=>if a.1=k then (a.1,u) else a):=by
 unfold KV at r ⊢;induction r with
 | nil=>exact .nil
 | @cons p q ps qs h t c=>
   rw[AAM,AAM];refine .cons ?_ c;obtain⟨h1,h2⟩:=h;by_cases e:p.1=k
   .rw [AAE e,AAE (h1.symm.trans e)];exact⟨h1,b⟩
   .rw [AAD e,AAD (λz=>e (h1.trans z))];exact⟨h1,h2⟩
def KV.put {kvs:kn (κ×V)}{vs:kn (κ×km)}(r:KV kvs vs)(k:κ){y:V}{u:km}(a:RelV y u):KV (Fa kvs k y) (stored vs k u):=by
 unfold Fa stored;rw[r.any k];by_cases e:(vs.any λb=>decide (b.1=k))=true
 .rw [AAE e,AAE e];exact r.repl k a
 .rw [AAD e,AAD e];exact Paired.snoc r ⟨rfl,a⟩
def KV.keys {kvs:kn (κ×V)}{vs:kn (κ×km)}(r:KV kvs vs):kvs.map (·.1)=vs.map (·.1):=by
 unfold KV at r;induction r with
 | nil=>rfl
 | cons h t a=>rw[AAM,AAM,a,h.1]
def KV.length {kvs:kn (κ×V)}{vs:kn (κ×km)}(r:KV kvs vs):kvs.length=vs.length:=ADW r
end
def QN {P:gn}{w:fe}{k:B8}{u:km}(r:RelV (kV k) u):(Ay P w).is k u=true:=by
 cases k with
 | inl i=>obtain⟨t,e⟩:=(show ∃t,u=Value.int i t from r);subst e;exact Ue P w i t
 | inr x=>obtain⟨t,e⟩:=(show ∃t,u=Value.str x t from r);subst e;exact Uf P w x t
theorem QM {P:gn}{w:fe}:∀{a:kn B8} {b:kn km},Ax (a.map kV) b->ItemsAre (Ay P w) a b
 | [],_,r=>by rw[AC7] at r;cases r;exact .nil
 | k::a,_,r=>by
   rw[AAM] at r;cases r with
   | cons h t=>exact .cons (QN h) (QM t)
abbrev KT (H:Hp):kn (kn B8×V)->kn (kn B8×ki×km)->Prop:=Paired λp q=>p.1=q.1/\H q.2.1=some (.tup (p.1.map kV))/\RelV p.2 q.2.2
def KT.val {H:Hp}{kvs:kn (kn B8×V)}{xs:kn (kn B8×ki×km)}(r:KT H kvs xs)(k:kn B8):MI (KM kvs k) ((atKey xs k).map (·.2)):=by
 induction r with
 | nil=>exact True.intro
 | @cons p q ps qs h t c=>
   obtain⟨h1,_,h2⟩:=h;by_cases e:p.1=k
   .have a:q.1=k:=h1.symm.trans e;have b:atKey (q::qs) k=some q.2:=by simp[atKey,ACf,a]
    rw[HF e,b];exact h2
   .have a:¬q.1=k:=λz=>e (h1.trans z);have b:atKey (q::qs) k=atKey qs k:=by simp[atKey,ACf,a]
    rw[HE e,b];exact c
def KT.repl {H:Hp}{kvs:kn (kn B8×V)}{xs:kn (kn B8×ki×km)}(r:KT H kvs xs)(k:kn B8){y:V}{u:km}(b:RelV y u):KT H (kvs.map λa=>if a.1=k then (a.1,y) else a) (xs.map (putAt k u)):=by
 induction r with
 | nil=>exact .nil
 | @cons p q ps qs h t c=>
   rw[AAM,AAM];refine .cons ?_ c;obtain⟨h1,h2,h3⟩:=h;unfold putAt;by_cases e:p.1=k
   .rw [AAE e,AAE (h1.symm.trans e)];exact⟨h1,h2,b⟩
   .rw [AAD e,AAD (λz=>e (h1.trans z))];exact⟨h1,h2,h3⟩
def KT.put {H:Hp}{kvs:kn (kn B8×V)}{xs:kn (kn B8×ki×km)}(r:KT H kvs xs)(k:kn B8){b:ki}{y:V}{u:km}(hb:H b=some (.tup (k.map kV)))(a:RelV y u):KT H (Fa kvs k y) (storedH xs k b u):=by
 have e:(kvs.any λc=>decide (c.1=k))=(atKey xs k).isSome:=by rw[VT,(r.val k).isSome_eq,Option.isSome_map]
 unfold Fa storedH;rw[e];by_cases q:(atKey xs k).isSome=true
 .rw [AAE q,AAE q];exact r.repl k a
 .rw [AAD q,AAD q];exact Paired.snoc r ⟨rfl,hb,a⟩
def KT.keeps {H a:Hp}{kvs:kn (kn B8×V)}{xs:kn (kn B8×ki×km)}(r:KT H kvs xs)(c:∀b ys,H b=some (.tup ys)->a b=some (.tup ys)):KT a kvs xs:=
 Paired.mapP r λ_ _ z=>⟨z.1,c _ _ z.2.1,z.2.2⟩
section
variable {P:gn}{w:fe}{H:Hp}{h:cb}{a:ki}
def j7 {u:HO}(ok:Jb P w H h)(e:Rd H a u):CL P w H h a u:=e.ok ok
def UA {kvs:kn (B8×V)}(ok:Jb P w H h)(e:Rd H a (.dK kvs)):kvs.length<=sizeLine/\(a==sysModules)=false/\∃vs,KV kvs vs/\h.DictOf (Ay P w) a vs:=
 show CL P w H h a (.dK kvs) from j7 ok e
def Xr {kvs:kn (B8×V)}(ok:Jb P w H h)(e:H a=some (.dK kvs)):kvs.length<=sizeLine/\(a==sysModules)=false/\∃vs,KV kvs vs/\h.DictOf (Ay P w) a vs:=UA ok (.inl e)
def Rm {b:kn B8}(ok:Jb P w H h)(e:H a=some (.tup (b.map kV))):(tupleKind (Ay P w)).is h b a:=by obtain⟨_,c,r,o,h1,h2,n,h3⟩:=(show CL P w H h a (.tup (b.map kV)) from ok a _ e);exact⟨o,c.toArray,n,h1,h2,h3,by simpa using QM r⟩
def UB {kvs:kn (kn B8×V)}(ok:Jb P w H h)(e:Rd H a (.dT kvs)):kvs.length<=sizeLine/\(a==sysModules)=false/\ ∃xs,KT H kvs xs/\h.DictOfH (tupleKind (Ay P w)) a xs:=by
 obtain⟨z,y,xs,r,o,es,ep,h1,h2,h3,c,d⟩:=(show CL P w H h a (.dT kvs) from j7 ok e);refine⟨z,y,xs,r,o,es,ep,h1,h2,h3,c,λx hx=> ?_,d⟩;have all:∀{l:kn (kn B8×V)} {m:kn (kn B8×ki×km)},KT H l m->∀x∈m,(tupleKind (Ay P w)).is h x.1 x.2.1:=by
  intro l m q;induction q with
  | nil=>intro x hx;exact nomatch hx
  | @cons p q ps qs b t f=>
    intro x hx;rcases AAI.mp hx with e|hx
    .subst e;exact Rm ok (by rw[<-b.1];exact b.2.1)
    .exact f x hx
 exact all r x hx
def qR {kvs:kn (kn B8×V)}(ok:Jb P w H h)(e:H a=some (.dT kvs)):kvs.length<=sizeLine/\(a==sysModules)=false/\ ∃xs,KT H kvs xs/\h.DictOfH (tupleKind (Ay P w)) a xs:=UB ok (.inl e)
end
def O5 (H:Hp)(a:ki)(y:V)(r:kf V):Prop:=
 (∃kvs k,Rd H a (.dK kvs)/\y=kV k/\r=KM kvs k)\/∃kvs k b,Rd H a (.dT kvs)/\y= .ref b/\H b=some (.tup (k.map kV))/\r=KM kvs k
def Ve (H:Hp)(a:ki)(y v:V)(c:Hp):Prop:=
 (∃kvs k,H a=some (.dK kvs)/\y=kV k/\kvs.length<sizeLine/\c=upd H a (.dK (Fa kvs k v)))\/
 ∃kvs k b,H a=some (.dT kvs)/\y= .ref b/\H b=some (.tup (k.map kV))/\kvs.length<sizeLine/\c=upd H a (.dT (Fa kvs k v))
def O5.k {H:Hp}{a:ki}{kvs:kn (B8×V)}{k:B8}(e:H a=some (.dK kvs)):O5 H a (kV k) (KM kvs k):= .inl ⟨kvs,k, .inl e,rfl,rfl⟩
def O5.t {H:Hp}{a b:ki}{kvs:kn (kn B8×V)}{k:kn B8}(e:H a=some (.dT kvs))(c:H b=some (.tup (k.map kV))):O5 H a (.ref b) (KM kvs k):= .inr ⟨kvs,k,b, .inl e,rfl,c,rfl⟩
def Ve.k {H:Hp}{a:ki}{kvs:kn (B8×V)}{k:B8}{v:V}(e:H a=some (.dK kvs))(hl:kvs.length<sizeLine):Ve H a (kV k) v (upd H a (.dK (Fa kvs k v))):= .inl ⟨kvs,k,e,rfl,hl,rfl⟩
def Ve.t {H:Hp}{a b:ki}{kvs:kn (kn B8×V)}{k:kn B8}{v:V}(e:H a=some (.dT kvs))(c:H b=some (.tup (k.map kV)))(hl:kvs.length<sizeLine):Ve H a (.ref b) v (upd H a (.dT (Fa kvs k v))):= .inr ⟨kvs,k,b,e,rfl,c,hl,rfl⟩
section
variable {X:Cx}{Tb:kn (ki×Obj)}{σ:St}{H:Hp}{s:kj}{a:ki}{y v:V}{u r:km}{o:kf V}{A:Wf}{E:km->kj->Prop}
def Inv.big (I:Inv X Tb σ H s):sysModules<s.heap.objs.size:=by have h:mainGlobals<s.heap.objs.size:=(I.mod.glob.keeps I.bk).lt;exact AC8 (by decide) h
def ZV {Q:km->kj->Prop}(hu:A.units+1<cLine)(I:Inv X Tb σ H s)(g:O5 H a y (some v))(m:RelV y u)(h:∀f n,Inv X Tb σ H n->RelV v f->Q f n):wpAny (model X.prog X.w) A (getItem (.ref a) u) Q E s:=by
 rcases g with⟨kvs,k,e,i,l⟩|⟨kvs,k,b,e,i,t,l⟩
 .subst i;obtain⟨z,hd,vs,c,j⟩:=UA I.hok e;obtain⟨f,hw,d⟩:=MI.some_of (v:=v) (o:=valueAt vs k) (by rw[l];exact c.val k);exact wpAny_getItem_of (QN m) j.mapOf hw (h f _ (I.tok _) d)
 .subst i;cases (show u=Value.ref b from m);obtain⟨z,hd,xs,c,j⟩:=UB I.hok e;obtain⟨f,hw,d⟩:=MI.some_of (v:=v) (o:=(atKey xs k).map (·.2)) (by rw[l];exact c.val k);obtain⟨p,hp,x⟩:=ADJ.mp hw;refine wpAny_getItem_heap (AEg hu) (Rm I.hok t) j hp ?_;rw[x];exact h f _ (I.tok _) d
def Jn {h':cb}{t':Nat}{c:HO}(I:Inv X Tb σ H s)(d:qD (H a))(hs:Heap.SameBut a s.heap h')(he:∃q,h'.get? a=some q)(new:CL X.prog X.w (upd H a c) h' a c):Inv X Tb σ (upd H a c) {s with heap:=h',toks:=t'}:=
 I.write (x:=a) (e:=a) d (.inl rfl) (λb q hb z=>(hs.2 b hb).trans z) he new
def RM {P:gn}{w:fe}{c:Hp}{h':cb}{kvs:kn (B8×V)}{vs:kn (B8×km)}(z:kvs.length<=sizeLine)(hd:(a==sysModules)=false)(b:KV kvs vs)(d:h'.DictOf (Ay P w) a vs):CL P w c h' a (.dK kvs):=⟨z,hd,vs,b,d⟩
def ZW {t:Hp}{Q:Unit->kj->Prop}(hu:A.units+1<cLine)(I:Inv X Tb σ H s)(g:Ve H a y v t)(x:RelV y u)(rv:RelV v r)(h:∀B,Inv X Tb σ t B->Q () B):wpAny (model X.prog X.w) A (setItem (.ref a) u r) Q E s:=by
 rcases g with⟨kvs,k,e,j,l,m⟩|⟨kvs,k,b,e,j,C,l,m⟩
 .subst j m;obtain⟨z,hd,vs,d,n⟩:=Xr I.hok e;have p:vs.length<=sizeLine:=by rw[<-d.length];exact z
  have hl:(Fa kvs k v).length<=sizeLine:=by have:=Ew kvs k v;omega
  refine wpAny_setItem_pairs (hsz:=p) (QN x) n λh' f hs=>h _ ?_;have he:∃q,h'.get? a=some q:=let ⟨q,_,_,i,_⟩:=f;⟨q,i⟩;exact Jn I (by rw[e];exact True.intro) hs he (RM hl hd (d.put k rv) f)
 .subst j m;cases (show u=Value.ref b from x);obtain⟨z,hd,xs,d,n⟩:=qR I.hok e;have p:xs.length<=sizeLine:=by rw[<-ADW d];exact z
  have hl:(Fa kvs k v).length<=sizeLine:=by have:=Ew kvs k v;omega
  refine wpAny_setItem_heap (hsz:=p) (AEg hu) (Rm I.hok C) n λh' f hs=>h _ ?_;obtain⟨q,es,ep,i,h2,h3,F,_,G⟩:=f;refine Jn I (by rw[e];exact True.intro) hs ⟨q,i⟩ ⟨hl,hd,_,(d.put k C rv).keeps λc ys D=> ?_,q,es,ep,i,h2,h3,F,G⟩;rw[Ai (rN D e (λz=>nomatch z))];exact D
end
def kP (i:ke):Prop:=∀a b,subscripted i false a b=operate [a,b] (getItem a b)
def jP {prog:gn}{w:fe}{A:Wf}{E:km->kj->Prop}{s:kj}{env:Env}{value slice:ke}{pos:Pos}{T id:String}{Q:km->kj->Prop}(hl:typeLookup (.type T) "__getitem__" =pure (some (.builtin id)))(hs:kP slice)(h:wpAny (model prog w) A (eval value env) (λo c=>wpAny (model prog w) A (eval slice env) (λi a=>a.TypeIs o T/\wpAny (model prog w) A (getItem o i) Q E a) E c) E s):wpAny (model prog w) A (eval (.Subscript value slice pos) env) Q E s:=by
 refine Subscript_ (AB0 h (λo c f=>AB0 f (λi a b=> ?_) λ_ _ x=>x) λ_ _ x=>x);obtain⟨j,b⟩:=b;unfold subscriptTail;refine AAA ?_;rw[getitemInPython_of_ne j.not_modules];refine AAA (ABr j hl ?_);have e:wpAny (model prog w) A (subscripted slice false o i) (λr d=>wpAny (model prog w) A (letTemporaryGo value o r >>= λ_=>pure r) Q E d) E a:=by rw[hs o i];exact wpAny_operating (AB0 b (λr d g=>AAA (wpAny_letTemporaryGo (AAC g))) λ_ _ x=>x)
 first
  | exact AAC (AAA e)
  | exact AAA (AAC (AAA e))
  | exact AAA e
def T8 {X:Cx}{d:kn (ki×Obj)}{f:St}{H:Hp}{s:kj}{a:ki}{y:V}{o:kf V}(I:Inv X d f H s)(g:O5 H a y o):s.TypeIs (.ref a) "dict" :=by
 rcases g with⟨kvs,k,e,_,_⟩|⟨kvs,k,b,e,_,_,_⟩
 .obtain ⟨_,_,vs,_,c⟩:=UA I.hok e;exact c.typeIs
 .obtain ⟨_,_,xs,_,c⟩:=UB I.hok e;exact c.typeIs
def sn (d e:TE):TE:=λb H Q=>d b H λx H1=>e b H1 λy c=>∃a v,x= .ref a/\O5 c a y (some v)/\Q v c
def j8 (d e f:TE):TS:=λD b H=>f b H λv H1=>d b H1 λx g=>e b g λy h=>∃a c,x= .ref a/\Ve h a y v c/\D.nx b c
section
variable {X:Cx}{o i e value:ke}{pos pos' tpos:Pos}{td ty tv:TE}
def iL (hu:X.A.units+1<cLine)(j:PE X o td)(hi:PE X i ty)(hs:kP i):PE X (.Subscript o i pos) (sn td ty):=by intro c s d H Q I h;refine jP PySem.F.slot_dict_getitem.lookup hs (BR (j c s d H _ I h) λu k ⟨x,H1,l,m,n⟩=>BR (hi c k d H1 _ l n) λz B ⟨y,p,f,r,a,v,ex,g,t⟩=> ?_);subst ex;obtain rfl:u=Value.ref a:=m;exact⟨T8 f g,ZV hu f g r λC D w b=>⟨v,p,w,b,t⟩⟩
def iZ (hu:X.A.units+1<cLine)(d:PE X o td)(hi:PE X i ty)(hv:PE X value tv)(hs:swapsWith value (some (.Subscript o i pos')) pos.line X.env=pure false):PS X (.Assign [.Subscript o i pos'] value pos) (j8 td ty tv):=by intro c s b H D I h;refine wpAny_Assign_Subscript (BR (hv c s b H _ I h) λr f ⟨v,H1,j,rv,k⟩=>BR (d c f b H1 _ j k) λu l ⟨x,m,n,p,t⟩=>BR (hi c l b m _ n t) λF G ⟨y,J,w,z,a,B,ex,g,C⟩=> ?_) hs;subst ex;obtain rfl:u=Value.ref a:=p;exact ZW hu w g z rv λK E=>⟨b,B,E,C⟩
end
def T9 {P:gn}{w:fe}{H:Hp}(h:cb)(hb:sysModules<h.objs.size):CL P w H (h.push {cls:= .type "dict",data:= .dict #[] }) h.objs.size (.dK []):=
 ⟨ABs _,AEF.mpr (ABI (AAN hb)), [], .nil,Heap.DictOf.new h⟩
def XH:kn (TE×TE)->St->Hp->(kn (V×V)->Hp->Prop)->Prop
 | [],_,H,Q=>Q [] H
 | (tk,tv)::r,σ,H,Q=>tk σ H λx H1=>tv σ H1 λy a=>XH r σ a λps b=>Q ((x,y)::ps) b
abbrev VV:kn (V×V)->kn (km×km)->Prop:=Paired λp q=>RelV p.1 q.1/\RelV p.2 q.2
def tR (X:Cx)(pos:Pos)(keys:kn (kf ke))(values:kn ke)(a:kn (TE×TE)):Prop:=
 ∀(c:kn (ki×Obj)) (s:kj) (b:St) (H:Hp) (Q:kn (V×V)->Hp->Prop),Inv X c b H s->XH a b H Q->
  wpAny (model X.prog X.w) X.A (evalPairs (pairTrees keys values X.env pos)) (λvs e=>∃ps d,Inv X c b d e/\VV ps vs/\Q ps d) X.xe s
def iW {X:Cx}{pos:Pos}:tR X pos [] [] [] :=λa s b H Q I h=>pairTrees_nil_walk ⟨[],H,I, .nil,h⟩
def dS {X:Cx}{pos:Pos}{k v:ke}{e:kn (kf ke)}{vs:kn ke}{f g:TE}{a:kn (TE×TE)}(hk:PE X k f)(hv:PE X v g)(i:tR X pos e vs a):tR X pos (some k::e) (v::vs) ((f,g)::a):=λb s c H Q I h=>
 pairTrees_cons_walk (BR (hk b s c H _ I h) λu j ⟨x,H1,l,m,n⟩=>BR (hv b j c H1 _ l n) λC o ⟨y,p,r,t,w⟩=>
  BR (i b o c p _ r w) λD E ⟨ps,z,A,d,B⟩=>⟨(x,y)::ps,z,A, .cons ⟨m,t⟩ d,B⟩)
def N1 (kvs more:kn (B8×V)):kn (B8×V):=more.foldl (λa b=>Fa a b.1 b.2) kvs
def KV.merge:∀{more:kn (B8×V)} {a:kn (B8×km)} {kvs:kn (B8×V)} {vs:kn (B8×km)},KV more a->KV kvs vs->KV (N1 kvs more) (merged vs a):=by
 intro more a kvs vs r;unfold KV at r;induction r generalizing kvs vs with
 | nil=>intro q;exact q
 | @cons p q ps qs h t b=>
   intro c;have e:KV (Fa kvs p.1 p.2) (stored vs q.1 q.2):=by have:=c.put p.1 h.2;rw[<-h.1];exact this
   exact b e
theorem Hr:∀(more kvs:kn (B8×V)),(N1 kvs more).length<=kvs.length+more.length
 | [],kvs=>by show kvs.length<=kvs.length+0;omega
 | p::r,kvs=>by have h1:=Hr r (Fa kvs p.1 p.2);have h2:=Ew kvs p.1 p.2;show (N1 (Fa kvs p.1 p.2) r).length<=_;rw[AA8];omega
theorem NZ {P:gn}{w:fe}:∀{kvs:kn (B8×V)} {e:kn (km×km)},VV (kvs.map λf=>(kV f.1,f.2)) e->∃d,Carries (Ay P w) e d/\KV kvs d
 | [],_,r=>by rw[AC7] at r;cases r;exact⟨[],True.intro, .nil⟩
 | p::kvs,_,r=>by
   rw[AAM] at r;cases r with
   | @cons a b as bs h t=> obtain⟨d,c,q⟩:=NZ (P:=P) (w:=w) t;obtain⟨g,b2⟩:=b;exact⟨(p.1,b2)::d,⟨QN h.1,rfl,c⟩, .cons ⟨rfl,h.2⟩ q⟩
structure M1 (X:Cx) (o:Expr) (m:Str) (apos:Pos) (e:Expr) (cpos:Pos):Prop where
 base:attributeBase o m X.env (eval o X.env)=eval o X.env
 few:((backTo cpos (starEach [e] X.env)).all (λx=> !x.1)&&(backToKw cpos (keywordEach [] X.env)).all (λx=>x.1.isSome)
  && decide (([e] :List Expr).length+([] :List Keyword).length+(if ([] :List Keyword).isEmpty then 0 else 1)<30))=true
 line:(apos.endLine==cpos.line)=true
 trees:backTo cpos (starEach [e] X.env)= [(false,eval e X.env)]
structure M2 (X:Cx) (o:Expr) (m:Str) (apos:Pos) (e f:Expr) (cpos:Pos):Prop where
 base:attributeBase o m X.env (eval o X.env)=eval o X.env
 few:((backTo cpos (starEach [e,f] X.env)).all (λx=> !x.1)&&(backToKw cpos (keywordEach [] X.env)).all (λx=>x.1.isSome)
  && decide (([e,f] :List Expr).length+([] :List Keyword).length+(if ([] :List Keyword).isEmpty then 0 else 1)<30))=true
 line:(apos.endLine==cpos.line)=true
 trees:backTo cpos (starEach [e,f] X.env)= [(false,eval e X.env),(false,eval f X.env)]
def xZ (H:Hp)(a:ki):Prop:=(∃kvs,Rd H a (.dK kvs))\/∃kvs,Rd H a (.dT kvs)
def Rj {X:Cx}{g:kn (ki×Obj)}{h:St}{H:Hp}{s:kj}{a:ki}(I:Inv X g h H s)(d:xZ H a):s.TypeIs (.ref a) "dict" /\(∀b,Value.ref a= .ref b->∃c,s.heap.get? b=some c/\c.dict=none)/\(a==sysModules)=false:=by
 rcases d with⟨kvs,e⟩|⟨kvs,e⟩
 .obtain ⟨_,hd,vs,_,f⟩:=UA I.hok e;refine⟨f.typeIs,λb q=> ?_,hd⟩;cases q;obtain⟨c,_,_,h1,h2,_⟩:=f;exact⟨c,h1,h2.2.1⟩
 .obtain ⟨_,hd,xs,_,f⟩:=UB I.hok e;refine⟨f.typeIs,λb q=> ?_,hd⟩;cases q;obtain⟨c,_,_,h1,h2,_⟩:=f;exact⟨c,h1,h2.2.1⟩
section
variable {X:Cx}{Tb:kn (ki×Obj)}{σ:St}{H:Hp}{s:kj}{a:ki}{y d:V}{u r:km}{o:kf V}{A:Wf}{E:km->kj->Prop}
def lF {Q:km->kj->Prop}(hu:A.units+1<cLine)(I:Inv X Tb σ H s)(g:O5 H a y o)(j:RelV y u)(m:RelV d r)(h:∀n p,Inv X Tb σ H p->RelV (o.getD d) n->Q n p):wpAny (model X.prog X.w) A (call (.builtin "dict.get") [.ref a,u,r]) Q E s:=by
 rcases g with⟨kvs,k,e,i,l⟩|⟨kvs,k,b,e,i,t,l⟩
 .subst i;obtain⟨z,hd,vs,c,f⟩:=UA I.hok e;refine ADy AEh f.typeIs AFE (AFF _ _ _) (meets_dict_get_default (Ay X.prog X.w) a (QN j) hd r) ⟨_,f.mapOf,h _ _ (I.tok _) ?_⟩;rw[l];exact(c.val k).getD m
 .subst i;cases (show u=Value.ref b from j);obtain⟨z,hd,xs,c,f⟩:=UB I.hok e;refine ADy AEh f.typeIs AFE (AFF _ _ _) (meetsH_dict_get_default (tupleKind (Ay X.prog X.w)) a b hd r) ⟨AEg hu,k,xs,Rm I.hok t,f,h _ _ (I.tok _) ?_⟩;rw[l];exact(c.val k).getD m
end
def eY (d e f:TE):TE:=λb H Q=>d b H λx H1=>∃a,x= .ref a/\xZ H1 a/\e b H1 λy g=>f b g λz c=>∃o,O5 c a y o/\Q (o.getD z) c
section
variable {X:Cx}{o e f:ke}{apos cpos:Pos}{td ty tx:TE}
def dJ (hu:X.A.units+1<cLine)(k:PE X o td)(he:PE X e ty)(l:PE X f tx)(m:M2 X o "get" apos e f cpos):PE X (.Call (.Attribute o "get" apos) [e,f] [] cpos) (eY td ty tx):=by
 intro b s c H Q I h;refine AEi m.base m.few m.line AEj AEh PySem.F.type_dict_get (BR (k b s c H _ I h) λu n ⟨x,H1,j,p,a,ex,d,r⟩=> ?_);subst ex;obtain rfl:u=Value.ref a:=p;obtain⟨t,v,_⟩:=Rj j d;refine⟨t,v, ?_⟩;rw[m.trees];refine ADc rfl (Calls.evalArgs_plain (ACk (BR (he b n c H1 _ j r) λN w ⟨y,B,C,D,E⟩=>
  ACk (BR (l b w c B _ C E) λO P ⟨z,G,J,K,R,g,L⟩=>ADZ ?_))))
 exact lF hu J g D K λS T M i=>⟨_,G,M,i,L⟩
end
end L2
namespace PL
open PySem PySem.Spec PyProof.Rows L2
section
variable {K:AAB}{T M:ki->Prop}{H H':Hp}
def KO.ext (va:KO T M H)(ex:∀b o,H b=some o->H' b=some o):Mv K T M H T M H':=⟨va,λb o _ _ e=>ex b o e,λ_ t=>t,λ_ _ t=>t,λ_ _ m=>m⟩
def jN (va:KO T M H)(ex:∀b o,H b=some o->H' b=some o):DB T H T H' where
 keep:=λb u _ e=>ex b u e
 sub:=λ_ t=>t
 new:=λ_ t=> .inl t
 tp:=λa t=>let ⟨d,x,e,q⟩:=va.tp a t;⟨d,x,ex _ _ e,q⟩
end
end PL
namespace L2
open PySem PySem.Spec PyProof.Rows
section
variable {X:Cx}{a b:ke}{rest:kn ke}{pos:Pos}{ta tb:TE}
def v9 (K:AAB)(ta tb:TE):TE:=λc H Q=>ta c H λx H1=>∃k,kZ K x H1 k/\if k=true then Q x H1 else tb c H1 Q
def nP (ha:PE X a ta)(hb:PE X (.BoolOp .Or (b::rest) pos) tb):PE X (.BoolOp .Or (a::b::rest) pos) (v9 X.K ta tb):=by
 intro d s e H Q I h;refine BoolOp_or (BR (ha d s e H _ I h) λv l ⟨x,H1,m,f,k,n,g⟩=> ?_);refine BR (fE d l e H1 x v (λc i=>c=k/\i=H1) m f ⟨k,n,rfl,rfl⟩) λc o ⟨i,j,p,r⟩=> ?_;subst p r;cases c with
 | false=>exact hb d o e _ Q j g
 | true=>exact⟨x,_,j,f,g⟩
end
end L2
namespace PL
open PySem PySem.Spec PyProof.Rows L2
section
variable {X:Cx}{a b:ke}{rest:kn ke}{pos:Pos}{ta tb:AE}
def ko (ta tb:AE):AE:=λτ Q=>ta τ λx=>match VR x with | some true=>Q x|some false=>tb τ Q|none=>False
def oJ (ha:SE X a ta)(hb:SE X (.BoolOp .Or (b::rest) pos) tb):SE X (.BoolOp .Or (a::b::rest) pos) (ko ta tb):=by
 obtain⟨t,p,s⟩:=ha;obtain⟨t',l,m⟩:=hb;refine⟨_,nP p l,λB T g τ H Q z i h k=>s B T g τ H _ _ i h λv x T1 H1 c j h1=> ?_⟩;cases e:VR x with
 | none=>rw[e] at h1;exact h1.elim
 | some b=>
   rw[e] at h1;refine⟨b, ?_, ?_⟩
   .cases j <;> simp[VR] at e
    .exact e
    .exact e.symm
    .exact e.symm
    .rename_i d f;exact .inr (.inl ⟨_,d.sq,by rw[EN f,e];simp⟩)
    .rename_i d _ _ f;exact .inl ⟨_, .inl (.inl d),by rw[EN f,e];simp⟩
   .cases b with
    | true=>exact k _ _ T1 H1 c j h1
    | false=>exact m B T1 g τ H1 _ _ (i.stp c) h1 λw y n o r u h2=>k w y n o (c.trans r) u h2
end
end PL
namespace L2
open PySem PySem.Spec PyProof.Rows
def V4 (own:Nat)(a:St):St:=List.replicate own none++a.drop own
def ZU {own:Nat}{a:St}{j:Nat}{v:V}(h:(V4 own a)[j]? =some (some v)):own<=j/\a[j]? =some (some v):=by
 unfold V4 at h;by_cases hj:j<own
 .rw [AB1 (by simpa using hj),ACF,AAE hj] at h;cases h
 .have ak:own<=j:=by omega
  rw[ABt (by simpa using ak),ACG,AEk] at h;rw[show own+(j-own)=j by omega] at h;exact⟨ak,h⟩
end L2
namespace PL
open PySem PySem.Spec PyProof.Rows L2
def ZT (own:Nat)(τ:BE):BE:=List.replicate own none++τ.drop own
def SR.noOwn {K:AAB}{B:C5}{T:ki->Prop}{H:Hp}{a:L2.St}{τ:BE}(s:SR K B T H a τ)(c:∀b,¬CG a τ b){i:Nat}{xs:kn PV}:τ[i]? ≠some (some (.own xs)):=λe=>by obtain⟨p,vs,d,_⟩:=s.own i xs e;exact c p ⟨i,xs,e,d⟩
def SR.swap {K:AAB}{B:C5}{l f:ki->Prop}{m g:Hp}{a σ0:L2.St}{τ k:BE}(c:SR K B l m a τ)(n:∀b,¬CG a τ b)(d:SR K B f g σ0 k)(o:Mv K l (mt B a τ) m f (mt B a τ) g):SR K B f g a τ:=
 ⟨c.len,λi x e=>let ⟨v,h,r⟩:=c.val i x e;⟨v,h,r.mv o⟩,λi xs e=>absurd e (c.noOwn n),λi j xs ys p e=>absurd e (c.noOwn n),d.tp,d.bm,d.bt,d.st⟩
def Jm {own:Nat}{τ:BE}{j:Nat}{x:AV}(h:(ZT own τ)[j]? =some (some x)):own<=j/\τ[j]? =some (some x):=by
 unfold ZT at h;by_cases hj:j<own
 .rw [AB1 (by simpa using hj),ACF,AAE hj] at h;cases h
 .have ak:own<=j:=by omega
  rw[ABt (by simpa using ak),ACG,AEk] at h;rw[show own+(j-own)=j by omega] at h;exact⟨ak,h⟩
def SR.cut {K:AAB}{B:C5}{T:ki->Prop}{H:Hp}{c:L2.St}{τ:BE}{own:Nat}(s:SR K B T H c τ)(d:∀b,¬CG c τ b):SR K B T H (V4 own c) (ZT own τ)/\∀b,¬CG (V4 own c) (ZT own τ) b:=by have g:∀b,¬CG (V4 own c) (ZT own τ) b:=λb ⟨i,xs,h,f⟩=>d b ⟨i,xs,(Jm h).2,(ZU f).2⟩;refine⟨⟨by simp[V4,ZT,s.len],λi x e=> ?_,λi xs e=>absurd (Jm e).2 (s.noOwn d),λi j xs ys p e=>absurd (Jm e).2 (s.noOwn d),s.tp,s.bm,s.bt,s.st⟩,g⟩;obtain⟨ak,f⟩:=Jm e;obtain⟨v,hv,r⟩:=s.val i x f;refine⟨v, ?_,r.mv (.anti s.va λa z=>z.elim .inl λz=>absurd z (g a))⟩;unfold V4;rw[ABt (by simpa using ak),ACG,AEk,show own+(i-own)=i by omega];exact hv
structure qI (D:Addr) (T:Addr->Prop) (H:Hp) (T':Addr->Prop) (H':Hp):Prop where
 keep:∀b o,¬T b->b≠D->H b=some o->H' b=some o
 sub:∀b,T b->T' b
 new:∀b,T' b->T b\/H b=none
 tp:∀b,H b≠none->H' b≠none
def qI.upd {D:ki}{T:ki->Prop}{H:Hp}{o:HO}:qI D T H T (upd H D o):=⟨λb a _ n e=>by rw[Ai n];exact e,λ_ e=>e,λ_ e=> .inl e,λb e=>by
 by_cases h:b=D
 .subst h;rw[Aj];exact λz=>nomatch z
 .rw [Ai h];exact e⟩
end PL
namespace PL
open PySem L2 PyProof.Rows
section
variable {ai ai2:AI}{g g2:AG}{tt t2:AT}{te:AE}{τ τ':BE}{QL:kn PV->Prop}{own own2:Nat}{ix:kn Nat}
instance{i:Nat}{a b:AE}{nx bk ct:BE->Prop}{rt:PV->Prop}:Wp (ZE i a b ⟨nx,rt,bk,ct⟩ τ) (b τ λy=>MK i τ λxs=>a τ λk=>TK k λk=>uG (Rl xs.length k) λj=>Pn τ i (.own (xs.set j y)) nx):=⟨id⟩
end
end PL
namespace L2
open PySem PySem.Spec PyProof.Rows
def dAt {P:gn}{w:fe}{h:cb}{d:ki}{o:Obj}{es:Array DictEntry}{ep:Nat}{vs:kn (B8×km)}(g:h.get? d=some o)(e:o.data= .dict es ep)(x:h.DictOf (Ay P w) d vs):h.DictAt (Ay P w) d vs ep:=by obtain⟨i,b,f,g',c,a,r⟩:=x;rw[g] at g';cases g';rw[e] at a;cases a;exact⟨o,es,g,c,e,r⟩
def Oh (H:Hp)(d:ki)(n ep:Nat)(kvs:kn (B8×V)):Prop:=∃o es,H d=some (.frz o (.dK kvs))/\o.data= .dict es ep/\kvs.length=n
def Itm (d:ki)(n ep:Nat):It:=
 ⟨λi H=>∃kvs k x,Oh H d n ep kvs/\kvs[i]? =some (k,x),
  λi H v a=>∃T k x,v= .ref T/\H T=none/\a=upd H T (.tup [kV k,x])/\∀kvs,Oh H d n ep kvs->kvs[i]? =some (k,x),
  λi H=>∃kvs,Oh H d n ep kvs/\kvs.length<=i⟩
def Oh.one {H:Hp}{d:ki}{n ep:Nat}{a b:kn (B8×V)}(x:Oh H d n ep a)(y:Oh H d n ep b):a=b:=by obtain⟨o,es,e,_⟩:=x;obtain⟨g,f,c,_⟩:=y;rw[e] at c;cases c;rfl
def Oh.at {X:Cx}{b:kn (ki×Obj)}{c:St}{H:Hp}{s:kj}{d:ki}{n ep:Nat}{kvs:kn (B8×V)}(I:Inv X b c H s)(x:Oh H d n ep kvs):∃vs,KV kvs vs/\s.heap.DictAt (Ay X.prog X.w) d vs ep:=by obtain⟨o,es,e,f,_⟩:=x;obtain⟨g,z,hd,vs,a,h⟩:=(show CL X.prog X.w H s.heap d (.frz o (.dK kvs)) from I.hok d _ e);exact⟨vs,a,dAt g f h⟩
def cg {P:gn}{w:fe}{k:B8}{u:km}(h:(Ay P w).is k u=true):RelV (kV k) u:=by
 rcases BW h with⟨i,t,rfl,rfl⟩|⟨x,t,rfl,rfl⟩
 .exact ⟨_,rfl⟩
 .exact ⟨_,rfl⟩
def cj {kvs:kn (B8×V)}{vs:kn (B8×km)}(r:KV kvs vs):∀{i:Nat} {k:B8} {x:V},kvs[i]? =some (k,x)->∃u,vs[i]? =some (k,u)/\RelV x u:=by
 unfold KV at r;induction r with
 | nil=>intro i k x h;simp at h
 | @cons p q ps qs h t a=>
   intro i k x e;cases i with
   | zero=> simp at e;subst e;obtain⟨d,b⟩:=q;obtain⟨h1,h2⟩:=h;exact⟨b,by simp at h1;simp[h1],h2⟩
   | succ i=> obtain⟨u,hu,c⟩:=a (i:=i) (k:=k) (x:=x) (by simpa using e);exact⟨u,by simpa using hu,c⟩
def PM:entryFor table "dict_itemiterator.__iter__" =some Builtin.«dict_keyiterator.__iter__»:=
 entryFor_alias (id':="dict_keyiterator.__iter__") (by kernel_rfl) (by first | rfl|decide +kernel|(unfold String.splitOn;simp +decide [String.splitOnAux])) (by decide +kernel) (by kernel_rfl)
def PX {prog:gn}{w:fe}{A:Wf}{E:km->kj->Prop}{s:kj}{it d:ki}{k n ep:Nat}{ok b:km}{Q:km->kj->Prop}(he:IsItemIter s.heap it d k n ep ok b)(h:Q (.ref it) s):wpAny (model prog w) A (pyIter (.ref it)) Q E s:=by have a:s.TypeIs (.ref it) "dict_itemiterator" :=⟨_,he,rfl⟩;refine wpAny_pyIter_slot a AFG (AA0 AFG a PM ?_ (F.args_dict_itemiterator_iter_1 _));show wpAny _ _ (ret (.ref it)) _ _ s;exact AAC ⟨_,rfl,"dict_itemiterator",_,a,F.slot_dict_itemiterator_next.lookup,h⟩
def XR {P:gn}{w:fe}{K:AAB}{es:kn ke}{G:Nat}{pos:Pos}{it d:ki}{n ep:Nat}:Je P w K (.Tuple es G pos) (Itm d n ep) [it] it (λk h=>∃ok c,IsItemIter h it d k n ep ok c) where
 mem:=by simp
 obj:=λk h st p hp=>by
  obtain⟨ok,c,he⟩:=st;have b:p=it:=by simpa using hp
  subst b;exact⟨_,he,λv z=>nomatch z⟩
 keep:=λk h h' st l=>by obtain⟨ok,c,he⟩:=st;exact⟨ok,c,l it (by simp) _ he⟩
 item:=by
  intro X m hw r hc k B s C H E I j st t;subst m hw r;obtain⟨ok,c,he⟩:=st;obtain⟨kvs,y,x,f,hx⟩:=t;obtain⟨vs,a,A⟩:=f.at I;have hl:vs.length=n:=by obtain⟨_,_,_,_,e⟩:=f;rw[<-e];exact a.length.symm
  subst hl;obtain⟨u,hu,J⟩:=cj a hx;have g:it<s.heap.objs.size:=AAF he;refine wpAny_pyNext_items_item he A hu λkey h1 L M N U O=> ?_;refine⟨_,rfl,wpAny_letOwnedTupleGo_items (s:={s with heap:=h1}) M λh2 Q R=> ?_⟩;have i:∀p o,p≠it->h1.get? p=some o->h2.get? p=some o:=λp o q z=>R.extBut _ _ q z;have D:∀p∈ [it],p<s.heap.objs.size:=λp hp=>by
   have b:p=it:=by simpa using hp
   rw[b];exact g
  have l:∀p o,p ∉ [it] ->s.heap.get? p=some o->h2.get? p=some o:=λp o hp z=>by
   have b:p≠it:=by simpa using hp
   exact i p o b (O p o b z)
  have S:Inv X B C (upd H s.heap.objs.size (.tup [kV y,x])) {s with heap:=h2,toks:=s.toks}:=I.turnedN j D l (AAJ _)
   ⟨(by show 2<=sizeLine;decide), [key,u], .cons (cg L) (.cons J .nil),⟨_,i _ _ (AAv g) N,rfl,_,rfl⟩⟩
  refine⟨.ref s.heap.objs.size,upd H s.heap.objs.size (.tup [kV y,x]),S,rfl,⟨_,y,x,rfl,I.fresh,rfl,λF h'=> ?_⟩,⟨key,u,Q⟩,λp hp=> ?_⟩
  .rw [h'.one f];exact hx
  .rw [Ai (AAN (D p hp))];exact(j p hp).1
 done:=by
  intro X m hw r hc k B s C H E I j st t;subst m hw r;obtain⟨ok,c,he⟩:=st;obtain⟨kvs,f,hx⟩:=t;obtain⟨vs,a,A⟩:=f.at I;have hl:vs.length=n:=by obtain⟨_,_,_,_,e⟩:=f;rw[<-e];exact a.length.symm
  have W:=a.length;subst hl;refine wpAny_pyNext_items_end (I.ok.hd hc) he A (by rw[ADX];omega) λh' T=>⟨rfl, ?_⟩;exact I.turnedL (t':=s.toks) j λp o hp z=>by
   have b:p≠it:=by simpa using hp
   exact T p o b z
 self:=λ_ _ _ _ _ st h=>by obtain⟨ok,c,he⟩:=st;exact PX he h
section
variable {X:Cx}
def U4 {e:ke}{z:TE}{apos f j:Pos}{es:kn ke}{C:Nat}(he:PE X e z)(hb:attributeBase e "items" X.env (eval e X.env)=eval e X.env)(D:((backTo f (starEach [] X.env)).all (λx=> !x.1)&&(backToKw f (keywordEach [] X.env)).all (λx=>x.1.isSome)&&decide (([] :kn ke).length+([] :kn Keyword).length+(if ([] :kn Keyword).isEmpty then 0 else 1)<30))=true)(hl:(apos.endLine==f.line)=true)(E:backTo f (starEach [] X.env)= []):PI X (.Tuple es C j) (.Call (.Attribute e "items" apos) [] [] f) (λm H R=>z m H λv H1=>∃d n ep kvs,v= .ref d/\Oh H1 d n ep kvs/\R (Itm d n ep) H1):=by
 intro G s m H R I h;refine AEi hb D hl AEj AFH PySem.F.type_dict_items (BR (he G s m H _ I h) λu i ⟨x,H1,k,J,d,n,ep,kvs,ex,t,K⟩=> ?_);subst ex;obtain rfl:u=Value.ref d:=J;obtain⟨vs,y,A⟩:=t.at k;have L:vs.length=n:=by obtain⟨_,_,_,_,e⟩:=t;rw[<-e];exact y.length.symm
 obtain⟨o,M,N,U,_⟩:=id t;obtain⟨O,P,Q⟩:=Rj k (.inl ⟨kvs, .inr ⟨o,N⟩⟩);have B:i.heap.DictOf (Ay X.prog X.w) d vs:=let ⟨o,es,a,b,c,r⟩:=A;⟨o,es,ep,a,b,c,r⟩;refine⟨O,P, ?_⟩;rw[E];refine ADc rfl (PySem.evalArgs_none ?_);refine ADy AFH B.typeIs PySem.F.entry_dict_items (PySem.F.args_dict_items_1 _) (meets_dict_items (Ay X.prog X.w) d Q) ⟨⟨vs,B⟩, ?_⟩;have S:(i.heap.push {cls:= .type "dict_items",data:= .fields #[.ref d] }).DictAt (Ay X.prog X.w) d vs ep:=by obtain⟨o,es,g,r⟩:=A;exact⟨o,es,AAG _ g,r⟩
 refine wpAny_pyIter_items (s:={i with heap:=i.heap.push {cls:= .type "dict_items",data:= .fields #[.ref d] }}) (knd:=Ay X.prog X.w) (d:=d) ?_ S ?_
 .exact ⟨_,AAO _ rfl,rfl,rfl⟩
 subst L;have l:(i.heap.push {cls:= .type "dict_items",data:= .fields #[.ref d] }).objs.size=i.heap.objs.size+1:=AA5 ..;refine⟨_, [i.heap.objs.size+1],_,_,H1,congrArg Value.ref l,k.kept (t':=i.toks) λb W q=>AAG _ (AAG _ q),XR,⟨.none, .none, ?_⟩,λp hp=> ?_,K⟩
 .have:=AAO (i.heap.push {cls:= .type "dict_items",data:= .fields #[.ref d] }) (o:={cls:= .type "dict_itemiterator",data:= .fields #[Value.none,Value.bool false,Value.ref d,Value.int 0 0,Value.int (vs.length:Int) 0,Value.int (ep:Int) 0,Value.none,Value.none] }) rfl;rw[l] at this;exact this
 .have T:p=i.heap.objs.size+1:=by simpa using hp
  subst T;exact k.fpOk (ACv _ _) (k.hok.fresh (ACv _ _))
end
end L2
namespace PL
open PySem PySem.Spec PyProof.Rows L2
section
variable {X:Cx}
def oj (a:kn (TE×TE)):TE:=λd H Q=>∀p,H p=none->XH a d (upd H p (.dK [])) λps b=>b p=some (.dK [])/\∃kvs:kn (B8×V),ps=kvs.map (λc=>(kV c.1,c.2))/\kvs.length<=15/\∀o es ep,o.data= .dict es ep->Q (.ref p) (upd b p (.frz o (.dK (N1 [] kvs))))
def dL {pos:Pos}{keys:kn (kf ke)}{values:kn ke}{b:kn (TE×TE)}(h:tR X pos keys values b)(k:keys.all (·.isSome)=true)(hl:keys.length=values.length)(l:keys≠ [])(f:keys.length<=15):PE X (.Dict keys values pos) (oj b):=by
 intro m s n H Q I q;have p:=I.hok.fresh (AAJ s.heap.objs.size);have r:=I.laid (a:=s.heap.objs.size) (o:= .dK []) (h':=s.heap.push {cls:= .type "dict",data:= .dict #[] }) (t':=s.toks) (λ_ _ q=>AAG _ q) (AAJ _) (T9 s.heap I.big);refine wpAny_Dict_walk (knd:=Ay X.prog X.w) k hl l f (BR (h m _ n _ _ r (q _ p)) λD E ⟨ps,F,i,g,e,kvs,ep,G,t⟩=> ?_);subst ep;obtain⟨u,c,v⟩:=NZ (P:=X.prog) (w:=X.w) g;obtain⟨z,hd,x,y,A⟩:=Xr i.hok e;cases y;have B:(N1 [] kvs).length<=sizeLine:=by have h1:=Hr kvs [];rw[List.length_nil] at h1;rw[ACj];omega
 refine⟨u,c,A,λh' d hs=> ?_⟩;obtain⟨o,es,ep,j,C⟩:=id d;refine⟨.ref s.heap.objs.size,_, ?_,rfl,t o es ep C.2.1⟩;exact Jn i (by rw[e];exact True.intro) hs ⟨o,j⟩ ⟨j,RM B hd (v.merge .nil) d⟩
def jO {T c:ki->Prop}{H f:Hp}{d:ki}{o:HO}(s:DB T H c f)(hd:H d=none)(g:¬c d):DB T H c (upd f d o) where
 keep b q t e:=by
  have n:b≠d:=λz=>by subst z;rw[hd] at e;cases e
  rw[Ai n];exact s.keep b q t e
 sub:=s.sub
 new:=s.new
 tp a t:=by
  have n:a≠d:=λz=>by subst z;exact g t
  obtain⟨x,y,e,r⟩:=s.tp a t;exact⟨x,y,by rw[Ai n];exact e,r⟩
def bN (a b:AE):AE:=λτ Q=>a τ λx=>b τ λy=>match x,y with | .int i, .int j=>Q (.dk [(i,j)])|_,_=>False
def oI {a b:ke}{u w:AE}{p:Pos}(ha:SE X a u)(hb:SE X b w):SE X (.Dict [some a] [b] p) (bN u w):=by
 obtain⟨t,E,s⟩:=ha;obtain⟨t',h,F⟩:=hb;refine⟨_,dL (dS E h iW) rfl rfl (List.cons_ne_nil _ _) (ABE rfl),λB T y τ H Q N k q G=> ?_⟩;intro d hd;have c:DB T H T (upd H d (.dK [])):=DB.lay k.tp hd;have f:=k.stp c;have A:¬T d:=λz=>by obtain⟨o,e,_⟩:=(k.tp d z).mut;rw[hd] at e;cases e
 refine s B T y τ _ _ _ f q λv x T1 H1 l I J=>F B T1 y τ _ _ _ (f.stp l) J λO P C K D L m=> ?_;split at m <;> first | exact m.elim|skip
 rename_i i j;cases I;cases L;have n:K d=some (.dK []):=(l.trans D).keep _ _ A Aj;have g:=l.trans D;have r:¬C d:=λz=>by
  rcases g.new d z with z|z
  .exact A z
  .rw [Aj] at z;cases z
 refine⟨n, [(.inl i, .int j)],rfl,ABE rfl,λo es ep M=> ?_⟩;exact G _ _ C _ (jO (c.trans g) hd r) (.dk (kvs:= [(i,j)]) Aj M) m
end
end PL
namespace L2
open PySem PySem.Spec PyProof.Rows
def RL (J:It)(D:ki)(σ0:St)(g:TG)(f:TT)(h j:TE)(Q:Hp->Prop)(W:Nat->Nat->Hp->Prop):Prop:=
 ∀i m H,W i m H->(J.stop i H/\Q H)\/(J.go i H/\∀x c,J.yld i H x c->g x σ0 c λa l=>f a l λok d=>
  if ok=true then h a d λy n=>j a n λz e=>∃k kvs,y=kV k/\e D=some (.dK kvs)/\kvs.length<sizeLine/\∃b,b<m/\W (i+1) b (upd e D (.dK (Fa kvs k z))) else ∃b,b<m/\W (i+1) b d)
def eV (b:TI)(own:Nat)(ix:kn Nat)(g:TG)(c:TT)(d e:TE):TE:=λa H Q=>b a H λJ H1=>∀D,H1 D=none->
 ∃W:Nat->Nat->Hp->Prop,(∃m,W 0 m (upd H1 D (.dK [])))/\RL J D (CY own ix a) g c d e (Q (.ref D)) W
section
variable {X:Cx}{tg kx vx iter:ke}{ifs:kn ke}{scope:Scope}{pos:Pos}{wi:TI}{own:Nat}{ix:kn Nat}{N:kn Str}{g:TG}{tt:TT}{tk tv:TE}
def V5 {F:kn (ki×Obj)}{S:St}{H:Hp}{s:kj}{fp:kn ki}{cl:kn (Str×ki)}{it:ki}{tn:Nat->cb->Prop}{J:It}{D:ki}{R:Result->kj->Prop}{Qh:Hp->Prop}{W:Nat->Nat->Hp->Prop}(hc:X.calm=true)(O:Ff X tg kx ifs scope own ix N g tt tk)(OV:∀cl C s H ex pn,PE (blk X (relabel scope X.env) N cl C s H ex pn) vx tv)(T:Je X.prog X.w X.K tg J fp it tn)(I:Inv X F S H s)(hf:∀b∈fp,Fh X F H b)(IW:∀b∈fp,b<s.heap.objs.size)(hW:RL J D (CY own ix S) g tt tk tv Qh W)(hR:∀σ' a U,Inv (blk X (relabel scope X.env) N cl s.heap.objs.size s H fp (X.pn++F)) [] σ' a U->Qh a->R (.ok .next) U)(n:Nat)(s0:kj)(h0:∃i a,Inv (blk X (relabel scope X.env) N cl s.heap.objs.size s H fp (X.pn++F)) [] (CY own ix S) a s0/\tn i s0.heap/\(∀b∈fp,a b=none)/\W i n a):codeAny (model X.prog X.w) X.A (.compLoop (.DictComp kx vx [⟨tg,iter,ifs,0⟩] scope pos) 0 (.ref it) (.ref D) (IP X.env (relabel scope X.env) cl s.heap.objs.size)) R s0:=by
 refine codeAny_loop rfl (λn U=>∃i a,Inv (blk X (relabel scope X.env) N cl s.heap.objs.size s H fp (X.pn++F)) [] (CY own ix S) a U/\tn i U.heap/\(∀b∈fp,a b=none)/\W i n a) (λn s1 h1=> ?_) n h0;obtain⟨i,H1,B1,Z,fr1,w1⟩:=h1;generalize f:blk X (relabel scope X.env) N cl s.heap.objs.size s H fp (X.pn++F)=Y at *;have eA:Y.A=X.A:=by rw[<-f];rfl
 have eP:Y.prog=X.prog:=by rw[<-f];rfl
 have eW:Y.w=X.w:=by rw[<-f];rfl
 have eK:Y.K=X.K:=by rw[<-f];rfl
 have eE:IP X.env (relabel scope X.env) cl s.heap.objs.size=Y.env:=by rw[<-f];rfl
 have eX:Y.xe=λ_ _=>False:=by rw[<-f];rfl
 have eC:Y.calm=true:=by rw[<-f];exact hc
 have hg:PG Y tg g:=by rw[<-f];exact O.tgt _ _ _ _ _ _
 have ht:jg Y ifs tt:=by rw[<-f];exact O.tst _ _ _ _ _ _
 have hk:PE Y kx tk:=by rw[<-f];exact O.val _ _ _ _ _ _
 have hv:PE Y vx tv:=by rw[<-f];exact OV _ _ _ _ _ _
 have l:∀{a:Hp},(∀b∈fp,a b=none)->∀b∈fp,Fh Y [] a b:=λ{a} hn b hb=>by
  obtain⟨_,a1,a2,a3,a4,a5⟩:=hf b hb;refine⟨hn b hb, ?_, ?_, ?_, ?_, ?_⟩
  .rw [<-f];exact AAN (IW b hb)
  .rw [<-f];exact I.notStk a1 a2
  .rw [<-f];exact .inl hb
  .intro x c e;exact(B1.ok.exf b (by rw[<-f];exact hb)).2 x c e
  .intro p hp;have:p∈X.pn++F:=by rw[<-f] at hp;simpa[blk] using hp
   exact a5 p this
 rw[eE,<-eA,<-eP,<-eW];show wpAny _ _ ((compTurn (.DictComp kx vx [⟨tg,iter,ifs,0⟩] scope pos) 0 (.ref it) (.ref D) Y.env).onRaise (λx=>do noteFrame x Y.env;theTreesLotGoes x)) _ _ s1;refine wpAny_noted ?_;rw[compTurn_dict];have ff:∀{α:Type} {t:Sem α} {Q:α->kj->Prop} {E:km->kj->Prop} {s:kj},wpAny (model Y.prog Y.w) Y.A t Q Y.xe s->wpAny (model Y.prog Y.w) Y.A t Q E s:=λh=>AB0 h (λ_ _ q=>q) λ_ _ z=>by rw[eX] at z;exact z.elim
 refine AAA (ACD (AAA ?_));rcases hW i n H1 w1 with⟨stop,qn⟩|⟨go,step⟩
 .have zd:=λE=>T.done Y eP eW eK eC i [] s1 _ H1 E B1 (l fr1) Z stop;rw[<-eP,<-eW] at zd;refine BR (zd _) λr s4 ⟨hr,I4⟩=> ?_;subst hr;exact AAC (hR _ _ _ I4 qn)
 .have zi:=λE=>T.item Y eP eW eK eC i [] s1 _ H1 E B1 (l fr1) Z go;rw[<-eP,<-eW] at zi;refine BR (zi _) λr s4 ⟨u,hr,h4⟩=> ?_;subst hr;refine AAA (BR h4 λ_ s5 ⟨x,H5,I5,r5,y5,G,fr5⟩=> ?_);have I5':=I5.pinned (l fr5) (T.obj _ _ G);refine AAA (BR (ff (hg _ s5 _ H5 x u _ I5' r5 (O.keep _ _ _ _ (step x H5 y5)))) λ_ s6 ⟨B,H6,I6,q6,l6,k6⟩=> ?_);refine AAA (BR (ff (ht _ s6 B H6 _ I6 q6)) λok s7 ⟨H7,I7,q7⟩=> ?_);have back:∀{L:Hp} {M:kj} {P:Nat},Inv Y ([] ++ K8 fp s5.heap) B L M->P<n->W (i+1) P L->
   ∃m,m<n/\∃i a,Inv Y [] (CY own ix S) a M/\tn i M.heap/\(∀b∈fp,a b=none)/\W i m a:=λ{L M P} I8 hm w8=>by
   refine⟨P,hm,i+1,L,I8.unpinned.weak l6.symm (λj v hj=> ?_),T.keep _ _ _ G λb hb o e=>(I8.pin (b,o) (AAx _ (AAx _ (Dw hb e)))).1,λb hb=> ?_,w8⟩
   .rw [k6 j (IQ hj).1];exact hj
   .obtain ⟨o,e,d⟩:=T.obj _ _ G b hb;exact(I8.pin (b,o) (AAx _ (AAx _ (Dw hb e)))).2.1
  cases ok with
  | false=> obtain⟨P,hm,w8⟩:=q7;exact AAC ⟨rfl,back I7 hm w8⟩
  | true=>
    refine AAA (AAA (BR (ff (hk _ s7 B H7 _ I7 q7)) λkv M ⟨y,L,I8,r8,q8⟩=> ?_));refine AAA (AAg (BR (ff (hv _ M B L _ I8 q8)) λvv s9 ⟨z,H9,I9,r9,k,kvs,ey,hD,hz,P,hm,w9⟩=> ?_));subst ey;refine AAA (ACD (AAg ?_));obtain⟨z1,hd1,vs,rel,dd⟩:=Xr I9.hok hD;have hz2:vs.length<=sizeLine:=by rw[<-rel.length];exact z1
    have hl:(Fa kvs k z).length<=sizeLine:=by have:=Ew kvs k z;omega
    refine wpAny_dictSet_pairs (hsz:=hz2) (QN r8) dd λh' dd' hs=> ?_;have he:∃q,h'.get? D=some q:=let ⟨q,_,_,hq,_⟩:=dd';⟨q,hq⟩;have I10:=Jn (t':=s9.toks+1) I9 (by rw[hD];exact True.intro) hs he (RM hl hd1 (rel.put k r9) dd');exact AAC ⟨rfl,back I10 hm w9⟩
def ZX {h:kn (ki×Obj)}{v:St}{H:Hp}{s:kj}{use:kf (km->Sem Unit)}{Q:km->kj->Prop}{it:ki}{fp:kn ki}{cl:kn (Str×ki)}{tn:Nat->cb->Prop}{J:It}{Qd:ki->Hp->Prop}(hc:X.calm=true)(O:Ff X tg kx ifs scope own ix N g tt tk)(R:∀cl C s H ex pn,PE (blk X (relabel scope X.env) N cl C s H ex pn) vx tv)(T:Je X.prog X.w X.K tg J fp it tn)(I:Inv X h v H s)(S:∀b∈fp,Fh X h H b)(st:tn 0 s.heap)(h1:∀y c,cl.lookup y=some c->X.env.cells.lookup y=some c)(h2:∀y,(y,NameKind.free)∈scope.names->∃c,cl.lookup y=some c)(U:∀D,H D=none->∃W:Nat->Nat->Hp->Prop,(∃m,W 0 m (upd H D (.dK [])))/\RL J D (CY own ix v) g tt tk tv (Qd D) W)(Y:∀D C k l,(∃m,l.heap.Ns C m)->Inv X h v k l->(∀i E,Inv X h i k E->∀h',Heap.SameBut C E.heap h'->Inv X h i k {E with heap:=h'})->C≠X.env.locals->(∀x c,X.env.cells.lookup x=some c->C≠c)->Qd D k-> compPost (model X.prog X.w) X.A X.xe use Q (.ref D) C (.ok .next) l):wpAny (model X.prog X.w) X.A (newDict #[]) (λn p=>wpAny (model X.prog X.w) X.A (newFunctionEnv scope X.env.globals cl [] X.env.qual none .none (some X.env)) (λf r=> codeAny (model X.prog X.w) X.A (.compStart (.DictComp kx vx [⟨tg,iter,ifs,0⟩] scope pos) 0 (.ref it) n {f with scope:=relabel scope X.env}) (compPost (model X.prog X.w) X.A X.xe use Q n f.locals) r) X.xe p) X.xe s:=by
 refine AA4 ?_ (by simp[sizeOk]);have j:Inv X h v (upd H s.heap.objs.size (.dK [])) {s with heap:=s.heap.push {cls:= .type "dict",data:= .dict #[] }}:=I.laid (a:=s.heap.objs.size) (o:= .dK []) (t':=s.toks) (λ_ _ q=>AAG _ q) (AAJ _) (T9 s.heap I.big);have Z:=I.fresh;obtain⟨W,⟨m0,w0⟩,hW⟩:=U _ Z;have ln:∀b∈fp,b<s.heap.objs.size:=λb hb=>by obtain⟨o,e,_⟩:=T.obj _ _ st b hb;exact AAF e
 have F:∀b∈fp,Fh X h (upd H s.heap.objs.size (.dK [])) b:=λb hb=>by obtain⟨a0,ar⟩:=S b hb;exact⟨by rw[Ai (AAN (ln b hb))];exact a0,ar⟩
 generalize vI:({s with heap:=s.heap.push {cls:= .type "dict",data:= .dict #[] }}:kj)=s3 at j;have t:tn 0 s3.heap:=T.keep _ _ _ st λb hb o e=>by rw[<-vI];exact AAG _ e
 have G:∀b∈fp,b<s3.heap.objs.size:=λb hb=>by obtain⟨o,e,_⟩:=T.obj _ _ t b hb;exact AAF e
 refine wpAny_newFunctionEnv O.nocell (by intro y hy;simp at hy) (λd pS vJ=> ?_) O.kind;have P:∀b o,s3.heap.get? b=some o->d.get? b=some o:=λb o e=>vJ.extBut b o (AAN (AAF e)) (AAG _ e);have jr:∀y,((relabel scope X.env).names.lookup y=some .cell\/(relabel scope X.env).names.lookup y=some .free)->∃c,cl.lookup y=some c:=λy hy=>by
  rcases hy with z|z
  .exact h2 y (Ey O.nocell (K1 z) (.inl rfl))
  .exact h2 y (Ey O.nocell (K1 z) (.inr rfl))
 have B:=bX (N:=N) (t':=s3.toks+([] :kn (Str×km)).length) j F G (sc:=relabel scope X.env) O.kind h1 jr O.ins pS P;have u:tn 0 d:=T.keep _ _ _ t λb hb o e=>P b o e;have loop:∀L:kj,L={s3 with heap:=d,toks:=s3.toks+([] :kn (Str×km)).length}->
  codeAny (model X.prog X.w) X.A (.compLoop (.DictComp kx vx [⟨tg,iter,ifs,0⟩] scope pos) 0 (.ref it) (.ref s.heap.objs.size) (IP X.env (relabel scope X.env) cl s3.heap.objs.size)) (compPost (model X.prog X.w) X.A X.xe use Q (.ref s.heap.objs.size) s3.heap.objs.size) L:=by rintro L rfl;refine V5 (cl:=cl) (Qh:=Qd s.heap.objs.size) hc O R T j F G hW (λσ' k l M q'=> ?_) m0 _ ⟨0,_,B,u,λb hb=>(F b hb).1,w0⟩;refine Y _ _ k l (let ⟨m,hm,_⟩:=M.loc;⟨m,hm⟩) (Xf (own:=own) (ix:=ix) j F G M) (λi E I2 h' hs=>Tq j rfl I2 M.free hs) (AAv j.lt) (λx c e=>AAv (j.szLt e)) q'
 exact codeAny_compStart_dict (loop _ rfl) (T.self _ 0 _ _ _ u (loop _ rfl))
def dW {i:Nat}{x:Str}{pos' b:Pos}(hc:X.calm=true)(hN:X.N.Nodup)(n:X.N[i]? =some x)(hx:Loc X.env.scope x)(hi:PI X tg iter wi)(O:Ff X tg kx ifs scope own ix N g tt tk)(o:∀cl C s H ex pn,PE (blk X (relabel scope X.env) N cl C s H ex pn) vx tv)(p:swapsWith (.DictComp kx vx [⟨tg,iter,ifs,0⟩] scope pos) (some (.Name x pos')) b.line X.env=pure true:=by rfl)(hs:∀x,foldedSetIterable iter X.env x=pure x:=by intro _;rfl)(r:X.fn x=true\/X.env.scope.names.lookup x=some .local:=by first | exact .inl rfl|exact .inr rfl|assumption):PS X (.Assign [.Name x pos'] (.DictComp kx vx [⟨tg,iter,ifs,0⟩] scope pos) b) (XG (eV wi own ix g tt tk tv) (DF i)):=by
 intro k s l H D I h;obtain⟨cl,t,h1,h2⟩:=IR (env:=X.env) (scope:=scope) λy hy e=>I.ok.has y.1 (.inl (O.frees y hy e));rw[exec_Assign_Name_used _ _ _ _ p];refine AAA (ACD (AAA ?_));show wpAny _ _ (do let _ <-comprehension (.DictComp kx vx [⟨tg,iter,ifs,0⟩] scope pos) scope X.env _ (newDict #[]) false (eval iter X.env) (some (assign (.Name x pos') X.env))) _ _ s;refine AAA (BR (AET (use:=some (assign (.Name x pos') X.env)) (Q:=λ_ c=>SP X k D .next c) rfl hs t O.kind O.names (BR (hi k s l H _ I h) λv W hv=>BR hv λu Y w=> ?_)) λ_ c A=>AAC (AAC A));obtain⟨it,fp,tn,J,Z,rfl,B,T,f,E,q⟩:=w;refine ZX (Qd:=λd j=>DF i (.ref d) l j D.nx) hc O o T B E f h1 h2 q λd C j c F G gone nl K L=> ?_;obtain⟨m,M⟩:=F;show wpAny _ _ (assign (.Name x pos') X.env (.ref d)) _ _ c;refine AEG (LV (v:= .ref d) G hN n hx rfl (λP R ⟨a,S,ha⟩=> ?_) r);have U:C≠a:=by
  rcases ha with z|z
  .rw [z];exact nl
  .exact K x a z
 exact⟨m,M.sameBut S U,λh' hs=>⟨_,j,gone _ P R h' hs,L⟩⟩
end
section
variable {X:Cx}
def om (i:Nat)(t:TS):TS:=λD b H=>∃a kvs,b[i]? =some (some (.ref a))/\H a=some (.dK kvs)/\∀o es ep,o.data= .dict es ep->t D b (upd H a (.frz o (.dK kvs)))
def ib {rest:kn Stmt}{t:TS}{i:Nat}(h:Th X rest t):Th X rest (om i t):=by intro c s d H D I q;obtain⟨a,kvs,_,e,q⟩:=q;obtain⟨z,hd,vs,b,f⟩:=Xr I.hok e;obtain⟨o,es,ep,g,j⟩:=id f;have k:Inv X c d (upd H a (.frz o (.dK kvs))) {s with heap:=s.heap,toks:=s.toks}:=Jn (h':=s.heap) I (by rw[e];exact True.intro) ⟨rfl,λ_ _=>rfl⟩ ⟨o,g⟩ ⟨g,RM z hd b f⟩;exact h c s d _ D k (q o es ep j.2.1)
end
end L2
namespace PL
open PySem PySem.Spec PyProof.Rows L2
def Bw (m:kn (Int×Int))(k v:Int):kn (Int×Int):=if (m.any λp=>decide (p.1=k))=true then m.map (λp=>if p.1=k then (p.1,v) else p) else m ++ [(k,v)]
def B6 (m:kn (Int×Int))(k:Int):Int:=((m.find? λp=>decide (p.1=k)).map (·.2)).getD 0
def gf (m:kn (Int×Int))(k:Int):((FV m).any λb=>decide (b.1=(.inl k:B8)))=m.any λp=>decide (p.1=k):=by
 induction m with
 | nil=>rfl
 | cons p r a=> unfold FV at a ⊢;rw[AAM,ACK,ACK,a];congr 1;simp
def X9 (m:kn (Int×Int))(k v:Int):FV (Bw m k v)=Fa (FV m) (.inl k) (.int v):=by
 unfold Bw Fa;rw[gf];split
 .unfold FV;rw[AA7,AA7];apply AB2;intro p _;simp only[Function.comp];by_cases h:p.1=k
  .simp [h]
  .simp [h]
 .unfold FV;rw[ACL];rfl
def gg (m:kn (Int×Int))(k:Int):(KM (FV m) (.inl k)).getD (.int 0)= .int (B6 m k):=by
 induction m with
 | nil=>rfl
 | cons p r a=>
   unfold FV at a ⊢;rw[AAM];by_cases h:p.1=k
   .rw [HF (by simp[h])];simp[B6,h]
   .rw [HE (by simp[h]),a];simp[B6,h]
def J4 (m:kn (Int×Int))(k v:Int):(Bw m k v).length<=m.length+1:=by
 unfold Bw;split
 .rw [AAK];omega
 .simp
def BZ (many:Int)(m:kn (Int×Int)):kn (Int×Int):=m.foldl (λa p=>Bw a p.1 (many*p.2)) []
def Ri {m:kn (Int×Int)}{i:Nat}(h:i<m.length):(FV m)[i]? =some (.inl m[i].1, .int m[i].2):=by unfold FV;rw[AAh,AAY h];rfl
def HW {c a:Type}{f:a->c->a}{b:a}{m:kn c}{i:Nat}(h:i<m.length):(m.take (i+1)).foldl f b=f ((m.take i).foldl f b) m[i] :=by rw[List.take_succ_eq_append_getElem h,ADK];rfl
def gN {K:AAB}{H:Hp}{r:L2.St}{s:Nat}{many:Int}{d n ep:Nat}{m:kn (Int×Int)}{Q:V->Hp->Prop}(y:Oh H d n ep (FV m))(A:r[s]? =some (some (.int many)))(hl:m.length<sizeLine)(ok:∀p∈m,MulOk many p.2)(q:∀D c,H D=none->(∀b o,H b=some o->c b=some o)->c D=some (.dK (FV (BZ many m)))->Q (.ref D) c):∀D,H D=none->∃W:Nat->Nat->Hp->Prop,(∃k,W 0 k (upd H D (.dK [])))/\RL (Itm d n ep) D (CY 2 [s] r) (WG K 2 (FU (DF 0) (FU (DF 1) RS))) jT (JD 0) (fU (rI MulOk λi j=> .int (i*j)) (JD 2) (JD 1)) (Q (.ref D)) W:=by
 intro D u;have B:CY 2 [s] r= [none,none,some (.int many)] :=by unfold CY;simp[A]
 rw[B];let W:Nat->Nat->Hp->Prop:=λi k c=>i+k=m.length/\(∀b o,H b=some o->c b=some o)/\c D=some (.dK (FV (BZ many (m.take i))))/\(BZ many (m.take i)).length<=i;refine⟨W,⟨m.length,ADz _,λb o e=>by rw[Ai (Az e u)];exact e,Aj,AAJ _⟩, ?_⟩;rintro i k c ⟨hi,ex,l,C⟩;have f:Oh c d n ep (FV m):=let ⟨o,es,a,b⟩:=y;⟨o,es,ex _ _ a,b⟩;cases k with
 | zero=> left;refine⟨⟨_,f,by unfold FV;rw[AAK];omega⟩,q D c u ex ?_⟩;rw[ACp (by omega)] at l;exact l
 | succ k=>
   right;have g:i<m.length:=by omega
   refine⟨⟨_,_,_,f,Ri g⟩,λx F E=> ?_⟩;obtain⟨t,G,I,rfl,v,rfl,hu⟩:=E;have hx:=hu _ f;rw[Ri g] at hx;cases hx;have J:D≠t:=λz=>by subst z;rw[l] at v;cases v
   have h:∀b o,c b=some o->upd c t (.tup [kV (.inl m[i].1), .int m[i].2]) b=some o:=λb o e=>by rw[Ai (Az e v)];exact e
   refine⟨t,_,rfl, .inl (.inl (.inl Aj)),rfl,_,_,rfl,_,_,rfl,rfl, ?_⟩;dsimp only[jT];rw[AAE rfl];refine⟨_,rfl,_,rfl,_,rfl,many,m[i].2,rfl,rfl,ok _ (ACo g), ?_⟩;refine⟨.inl m[i].1,_,rfl,h _ _ l,by unfold FV;rw[AAK];omega,k,by omega,by omega,λb o e=> ?_, ?_, ?_⟩
   .rw [Ai (Az e u)];exact h _ _ (ex _ _ e)
   .rw [Aj];unfold BZ;rw[HW g,X9]
   .unfold BZ at C ⊢;rw[HW g];have:=J4 ((m.take i).foldl (λw p=>Bw w p.1 (many*p.2)) []) m[i].1 (many*m[i].2);omega
def BY (more:Int)(a m:kn (Int×Int)):kn (Int×Int):=m.foldl (λa p=>Bw a p.1 (B6 a p.1+more*p.2)) a
def cx (d a b c:Nat):TS:=j8 (JD d) (JD a) (fU (SZ λi j=> .int (i+j)) (eY (JD d) (JD a) (tC (.int 0))) (fU (rI MulOk λi j=> .int (i*j)) (JD c) (JD b)))
def gx {K:AAB}{H H1:Hp}{σ0:L2.St}{D:RB}{B c f s:Nat}{more:Int}{d n ep a:Nat}{m acc0:kn (Int×Int)}(X:B≠c)(Y:B≠f)(Z:s≠c)(n4:s≠f)(n5:c≠f)(l1:c<σ0.length)(l2:f<σ0.length)(fd:Oh H d n ep (FV m))(ha:H a=none)(J:∀b o,H b=some o->H1 b=some o)(h1:H1 a=some (.dK (FV acc0)))(hw:σ0[B]? =some (some (.ref a)))(hm:σ0[s]? =some (some (.int more)))(ok:∀p∈m,MulOk more p.2)(hl:acc0.length+m.length<sizeLine)(L:∀σ' g,σ'.length=σ0.length->(∀j,j≠c->j≠f->σ'[j]? =σ0[j]?)->(∀b o,H b=some o->g b=some o)->g a=some (.dK (FV (BY more acc0 m)))->D.nx σ' g):∃W:Nat->Nat->L2.St->Hp->Prop,(∃k,W 0 k σ0 H1)/\∀i k v g,W i k v g-> ((Itm d n ep).stop i g/\D.nx v g)\/((Itm d n ep).go i g/\∃N:L2.St->Hp->Prop,(∀σ' w,N σ' w->∃R,R<k/\W (i+1) R σ' w)/\∀x w,(Itm d n ep).yld i g x w->WG K 2 (FU (DF c) (FU (DF f) RS)) x v w λl S=>cx B c f s {D with nx:=N,ct:=N,bk:=D.nx} l S):=by
 let W:Nat->Nat->L2.St->Hp->Prop:=λi k v g=>i+k=m.length/\(v.length=σ0.length/\∀j,j≠c->j≠f->v[j]? =σ0[j]?)/\(∀b o,H b=some o->g b=some o)/\g a=some (.dK (FV (BY more acc0 (m.take i))))/\(BY more acc0 (m.take i)).length<=acc0.length+i;refine⟨W,⟨m.length,ADz _,⟨rfl,λ_ _ _=>rfl⟩,J,h1,AAJ _⟩, ?_⟩;rintro i k v g ⟨hi,⟨T,U⟩,ex,M,O⟩;have y:Oh g d n ep (FV m):=let ⟨o,es,a,b⟩:=fd;⟨o,es,ex _ _ a,b⟩;cases k with
 | zero=> left;refine⟨⟨_,y,by unfold FV;rw[AAK];omega⟩,L v g T U ex ?_⟩;rw[ACp (by omega)] at M;exact M
 | succ k=>
   right;have C:i<m.length:=by omega
   refine⟨⟨_,_,_,y,Ri C⟩,λσ' w=>W (i+1) k σ' w,λσ' w h=>⟨k,by omega,h⟩,λx w yl=> ?_⟩;obtain⟨t,kk,xx,rfl,hn,rfl,hu⟩:=yl;have hx:=hu _ y;rw[Ri C] at hx;cases hx;have z:∀b o,g b=some o->upd g t (.tup [kV (.inl m[i].1), .int m[i].2]) b=some o:=λb o e=>by rw[Ai (Az e hn)];exact e
   refine⟨t,_,rfl, .inl (.inl (.inl Aj)),rfl,_,_,rfl,_,_,rfl,rfl, ?_⟩;generalize G:(v.set c (some (kV (.inl m[i].1)))).set f (some (V.int m[i].2))=l;have A:l.length=σ0.length:=by rw[<-G];simp[T]
   have r:∀j,j≠c->j≠f->l[j]? =σ0[j]? :=λj h h'=>by rw[<-G,AAf (ABI h'),AAf (ABI h)];exact U j h h'
   have E:l[c]? =some (some (.int m[i].1)):=by rw[<-G,AAf (ABI n5),ACi (by omega)];rfl
   have P:l[f]? =some (some (.int m[i].2)):=by rw[<-G,ACi (by simp;omega)]
   have F:l[B]? =some (some (.ref a)):=by rw[r B X Y];exact hw
   have Q:l[s]? =some (some (.int more)):=by rw[r s Z n4];exact hm
   have I:=z _ _ M;generalize hH:upd g t (.tup [kV (.inl m[i].1), .int m[i].2])=S at z I;refine⟨_,F,a,rfl, .inl ⟨_, .inl I⟩,_,E,_,O5.k (k:= .inl m[i].1) I,_,Q,_,P,more,m[i].2,rfl,rfl,ok _ (ACo C), ?_⟩;rw[gg];refine⟨_,_,rfl,rfl,_,F,_,E,a,_,rfl,Ve.k (k:= .inl m[i].1) I (by unfold FV;rw[AAK];omega),by omega,⟨A,r⟩,λb o e=> ?_, ?_, ?_⟩
   .rw [Ai (Az e ha)];exact z _ _ (ex _ _ e)
   .rw [Aj];unfold BY;rw[HW C,X9]
   .unfold BY at O ⊢;rw[HW C];have:=J4 ((m.take i).foldl (λu p=>Bw u p.1 (B6 u p.1+more*p.2)) acc0) m[i].1 (B6 ((m.take i).foldl (λu p=>Bw u p.1 (B6 u p.1+more*p.2)) acc0) m[i].1+more*m[i].2);omega
def xv (a:TE):TI:=λb H R=>a b H λv H1=>∃d n ep kvs,v= .ref d/\Oh H1 d n ep kvs/\R (Itm d n ep) H1
def dcT (K:AAB)(a:TE)(b c:Nat):TS:=XG (eV (xv a) 2 [c] (WG K 2 (FU (DF 0) (FU (DF 1) RS))) jT (JD 0) (fU (rI MulOk λi j=> .int (i*j)) (JD 2) (JD 1))) (DF b)
def yD (K:AAB)(d:TE)(e a b c:Nat):TS:=sw (xv d) (WG K 2 (FU (DF a) (FU (DF b) RS))) (cx e a b c)
section
variable {K:AAB}{B:C5}{T:ki->Prop}{H:Hp}{σ σ':L2.St}{τ τ':BE}
def SR.loose (s:SR K B T H σ τ)(hl:σ'.length=τ'.length)(h:∀(j:Nat) (a:AV),τ'[j]? =some (some a)->τ[j]? =some (some a)/\σ'[j]? =σ[j]?):SR K B T H σ' τ'/\∀b,CG σ' τ' b->CG σ τ b:=by
 have g:∀b,CG σ' τ' b->CG σ τ b:=λb ⟨j,xs,h1,h2⟩=>let ⟨c,d⟩:=h j _ h1;⟨j,xs,c,by rw[<-d];exact h2⟩;have i:Mv K T (mt B σ τ) H T (mt B σ' τ') H:= .anti s.va λa m=>m.elim .inl λz=> .inr (g a z);refine⟨⟨hl,λj y e=> ?_,λj ys e=> ?_,λj k ys o p r t l n=> ?_,s.tp,s.bm,s.bt,s.st⟩,g⟩
 .obtain ⟨c,d⟩:=h j _ e;obtain⟨w,hw,f⟩:=s.val j y c;exact⟨w,by rw[d];exact hw,f.mv i⟩
 .obtain ⟨c,d⟩:=h j _ e;obtain⟨p,vs,h1,h2,h3,u⟩:=s.own j ys c;exact⟨p,vs,by rw[d];exact h1,h2,h3.mv i,u⟩
 .obtain ⟨c,d⟩:=h j _ r;obtain⟨v,b2⟩:=h k _ t;rw[d] at l;rw[b2] at n;exact s.dist j k ys o p c v l n
end
def iB (x:PV)(R:kn (Int×Int)->Prop):Prop:=match x with | .dk m=>R m|_=>False
def YN {x:PV}{R:kn (Int×Int)->Prop}(h:iB x R):∃m,x= .dk m/\R m:=by cases x <;> first | exact⟨_,rfl,h⟩|exact h.elim
def bP (c a b e d:Nat)(f g:AE):AS:=λD τ=>(c<τ.length/\a<τ.length/\b<τ.length)/\f τ λx=>iB x λm1=>∃many,τ[e]? =some (some (.val (.int many)))/\m1.length<sizeLine/\(∀p∈m1,MulOk many p.2)/\
 g (τ.set c none) λy=>iB y λm2=>∃more,τ[d]? =some (some (.val (.int more)))/\(BZ many m1).length+m2.length<sizeLine/\(∀p∈m2,MulOk more p.2)/\
 D.nx (((τ.set c (some (.val (.dk (BY more (BZ many m1) m2))))).set a none).set b none)
def wG {k:Nat}{A:Wf}(a:Room k A):A.units+1<cLine:=by have:=a.un;omega
section
variable {X:Cx}
def eO {e1 e2:ke}{ta tb:AE}{m p:Stmt}{rest:kn Stmt}{b:AS}{f g k im s:Nat}(n1:f≠g)(n2:f≠k)(n3:s≠g)(n4:s≠k)(n5:g≠k)(n6:s≠f)(h1:SE X e1 ta)(h2:SE X e2 tb)(p1:∀I,PE X e1 I->PS X m (dcT X.K I f im))(p2:∀I,PE X e2 I->PS X p (yD X.K I f g k s))(h3:ZA X rest b):ZA X (m::p::rest) (Ae (bP f g k im s ta tb) b):=by
 obtain⟨t1,q1,s1⟩:=h1;obtain⟨t2,q2,s2⟩:=h2;obtain⟨t3,q3,s3⟩:=h3;refine⟨_,Ct (p1 t1 q1) (Ct (p2 t2 q2) (ib (i:=f) q3)),λB T J τ H D AD A h er=> ?_⟩;obtain⟨⟨l0,l1,l2⟩,h⟩:=h;refine s1 B T J τ H _ _ A h λv x T1 H1 m r1 h1=> ?_;obtain⟨m1,rfl,many,qg,Y,Z,h1⟩:=YN h1;have u:=A.stp m;obtain⟨vm,hvm,rvm⟩:=u.val _ _ qg;cases rvm;cases r1 with
 | dk hh eo=>
 rename_i d o es ep;have L:Oh H1 d m1.length ep (FV m1):=⟨o,es,hh,eo,by unfold FV;rw[AAK]⟩;refine⟨_,_,_,_,rfl,L, ?_⟩;refine gN (K:=X.K) (Q:=λx H1=>DF f x J H1 (tI (yD X.K t2 f g k s) (om f t3) D)) L hvm Y Z λa H2 ha ex hD=> ?_;have M:¬T1 a:=λz=>by obtain⟨o,e,_⟩:=(u.tp a z).mut;rw[ha] at e;cases e
 have N:DB T1 H1 T1 H2:=jN u.va ex;have sr2:=u.stp N;obtain⟨O,_⟩:=sr2.loose (σ':=J.set f (some (.ref a))) (τ':=τ.set f none) (by simp[A.len]) λj c e=>by
  rcases A7 e with⟨_,C,_⟩|⟨n,C⟩
  .cases C
  .exact ⟨C,AAf (λz=>n z.symm)⟩
 refine s2 B T1 _ _ H2 _ _ O h1 λv2 y U G p r2 h2=> ?_;obtain⟨m2,rfl,more,qi,hsz,ok2,h2⟩:=YN h2;obtain⟨vr,hvr,rvr⟩:=A.val _ _ qi;cases rvr;have pO:G a=some (.dK (FV (BZ many m1))):=p.keep _ _ M hD;have na2:¬U a:=λz=>by
  rcases p.new a z with z|z
  .exact M z
  .rw [hD] at z;cases z
 cases r2 with
 | dk W P=>
 rename_i d2 o2 R ep2;have da:d2≠a:=λz=>by subst z;rw[pO] at W;cases W
 have fd2:Oh G d2 m2.length ep2 (FV m2):=⟨o2,R,W,P,by unfold FV;rw[AAK]⟩;refine⟨_,_,_,_,rfl,fd2, ?_⟩;let H0:Hp:=λb=>if b=a then none else G b
 have E:(J.set f (some (V.ref a))).length=τ.length:=by simp[A.len]
 refine gx (K:=X.K) (H:=H0) (H1:=G) (σ0:=J.set f (some (V.ref a))) (D:={D with nx:=om f t3 D}) (acc0:=BZ many m1) (a:=a) (more:=more) n1 n2 n3 n4 n5 (by rw[E];exact l1) (by rw[E];exact l2) ⟨o2,R,(AAD da).trans W,P,by unfold FV;rw[AAK]⟩ (AAE rfl) (λb o e=> ?_) pO ?_ ?_ ok2 hsz λσ' H4 sl so S hD4=> ?_
 .by_cases z:b=a
  .rw [show H0 b=none from AAE z] at e;cases e
  .rw [show H0 b=G b from AAD z] at e;exact e
 .rw [ACi (by rw[A.len];exact l0)]
 .rw [AAf (λz=>n6 z.symm)];exact hvr
 refine⟨a,_, ?_,hD4,λo es ep eo=> ?_⟩
 .rw [so f n1 n2,ACi (by rw[A.len];exact l0)]
 have l:DB T H U G:=(m.trans N).trans p;have St:DB T H U (upd H4 a (.frz o (.dK (FV (BY more (BZ many m1) m2))))):=by
  refine⟨λb q nt e=> ?_,l.sub,l.new,λx t=> ?_⟩
  .have z:b≠a:=λz=>by subst z;have:=m.keep _ _ nt e;rw[ha] at this;cases this
   rw[Ai z];exact S b q ((AAD z).trans (l.keep b q nt e))
  .have z:x≠a:=λz=>by subst z;exact na2 t
   obtain⟨d,w,e,r⟩:=l.tp x t;exact⟨d,w,by rw[Ai z];exact S _ _ ((AAD z).trans e),r⟩
 have sr5:=A.stp St;have sr6:=sr5.set (i:=f) (v:= .ref a) (x:= .dk (BY more (BZ many m1) m2)) (.dk Aj eo);obtain⟨sr7,ow⟩:=sr6.loose (σ':=σ') (τ':=((τ.set f (some (.val (.dk (BY more (BZ many m1) m2))))).set g none).set k none) (by rw[sl,E];simp) λj c e=>by
  rcases A7 e with⟨_,C,_⟩|⟨k2,C⟩
  .cases C
  .rcases A7 C with⟨_,F,_⟩|⟨k1,F⟩
   .cases F
   .exact ⟨F,so j k1 k2⟩
 exact s3 B U σ' _ _ D AD sr7 h2 (er.shift (St.prog.trans (.less λb z=>Cs (ow b z))))
end
end PL
namespace L2
open PySem PySem.Spec PyProof.Rows
def uY (K:AAB)(l:ki):It:=
 ⟨λi H=>∃xs x,Et K H l xs/\xs[i]? =some x,
  λi H v a=>∃T x,v= .ref T/\H T=none/\a=upd H T (.tup [.int i,x])/\∀xs,Et K H l xs->xs[i]? =some x,
  λi H=>∃xs,Et K H l xs/\xs.length<=i⟩
def aT {P:gn}{w:fe}{K:AAB}{es:kn ke}{J:Nat}{pos:Pos}{e it l:ki}(C:e≠it):Je P w K (.Tuple es J pos) (uY K l) [e,it] e (λk h=>(∃b,IsEnum h e it (k:Nat) b)/\h.IsListIter it l k) where
 mem:=by simp
 obj:=λk h st p hp=>by
  obtain⟨⟨b,he⟩,hi⟩:=st;have f:p=e\/p=it:=by simpa using hp
  rcases f with q|q
  .subst q;exact⟨_,he,λv z=>nomatch z⟩
  .subst q;obtain⟨o,a,c,d⟩:=hi;exact⟨o,a,λv z=>by rw[d] at z;cases z⟩
 keep:=λk h h' st j=>by obtain⟨⟨b,he⟩,hi⟩:=st;exact⟨⟨b,j e (by simp) _ he⟩,hi.at λo a=>j it (by simp) o a⟩
 item:=by
  intro X r hw t hc k D s F H E I m st y;subst r hw t;obtain⟨⟨b,he⟩,hi⟩:=st;obtain⟨xs,x,n,hx⟩:=y;obtain⟨A,rv,p,L⟩:=I.list n;obtain⟨u,hu,M⟩:=rv.get hx;have i:e<s.heap.objs.size:=AAF he;have B:it<s.heap.objs.size:=by obtain⟨o,a,_⟩:=id hi;exact AAF a
  refine wpAny_pyNext_enum_item he hi p.isList (x:=u) (by simpa using hu) C λh1 N O Q a4 R=> ?_;refine⟨_,rfl,wpAny_letOwnedTupleGo_enum (s:={s with heap:=h1,toks:=s.toks+1}) N λh2 S T=> ?_⟩;have g:∀p o,p≠e->h1.get? p=some o->h2.get? p=some o:=λp o q z=>T.extBut _ _ q z;have G:∀p∈ [e,it],p<s.heap.objs.size:=λp hp=>by
   have f:p=e\/p=it:=by simpa using hp
   rcases f with q|q
   .rw [q];exact i
   .rw [q];exact B
  have j:∀p o,p ∉ [e,it] ->s.heap.get? p=some o->h2.get? p=some o:=λp o hp z=>by
   have f:p≠e/\p≠it:=by simpa using hp
   exact g p o f.1 (R p o f.1 f.2 z)
  have U:Inv X D F (upd H s.heap.objs.size (.tup [.int k,x])) {s with heap:=h2,toks:=s.toks+1}:=I.turnedN m G j (AAJ _)
   ⟨(by show 2<=sizeLine;decide), [.int k s.toks,u], .cons ⟨_,rfl⟩ (.cons M .nil),⟨_,g _ _ (AAv i) Q,rfl,_,rfl⟩⟩
  have W:H s.heap.objs.size=none:=I.fresh;refine⟨.ref s.heap.objs.size,upd H s.heap.objs.size (.tup [.int k,x]),U,rfl,⟨_,x,rfl,W,rfl,λY h'=> ?_⟩,⟨⟨u, ?_⟩, ?_⟩,λp hp=> ?_⟩
  .rw [I.list_inj h' n];exact hx
  .have:((k+1:Nat):Int)=(k:Int)+1:=by push_cast;rfl
   rw[this];exact S
  .exact O.at λo z=>g it o C.symm z
  .rw [Ai (AAN (G p hp))];exact(m p hp).1
 done:=by
  intro X r hw t hc k D s F H E I m st y;subst r hw t;obtain⟨⟨b,he⟩,hi⟩:=st;obtain⟨xs,n,hx⟩:=y;obtain⟨A,rv,p,L⟩:=I.list n;have hl:=rv.length;refine wpAny_pyNext_enum_end (I.ok.hd hc) he hi p.isList (by simp;omega) λh' Z=>⟨rfl, ?_⟩;exact I.turnedL (t':=s.toks) m λp o hp z=>by
   have f:p≠e/\p≠it:=by simpa using hp
   exact Z p o f.2 z
 self:=λ_ _ _ _ _ st h=>by obtain⟨⟨b,he⟩,_⟩:=st;exact AD0 he h
section
variable {X:Cx}
def qr (K:AAB)(a:TA):TI:=λb H R=>a b H λvs H1=>∃l,vs= [.ref l] /\(∃xs,Et K H1 l xs)/\R (uY K l) H1
def iP {e:ke}{d:TA}{p pos b:Pos}{es:kn ke}{i:Nat}(j:Gl X "enumerate")(k:X.mg "enumerate" =none)(ha:PA X [e] d)(hs:starEach [e] X.env= [(false,eval e X.env)] :=by rfl):PI X (.Tuple es i b) (.Call (.Name "enumerate" p) [e] [] pos) (qr X.K d):=by
 intro m s n H R I h;refine Call_ (Fj I j k boot_enumerate (ACV (BR (ha pos m s n H _ I h) λx a ⟨vs,H1,c,o,t⟩=> ?_) (by rw[hs];rfl) rfl));obtain⟨l,rfl,⟨xs,hl⟩,q⟩:=t;cases o with
 | cons r u=>
 cases u;cases r;obtain⟨v,rv,p,y⟩:=c.list hl;refine call_enumerate_list p.isList λh' f b2 z w=> ?_;refine AD0 f ?_;have g:∀p∈ [a.heap.objs.size+1,a.heap.objs.size],a.heap.objs.size<=p:=λp hp=>by
  have A:p=a.heap.objs.size+1\/p=a.heap.objs.size:=by simpa using hp
  omega
 exact⟨_,_,_,_,H1,rfl,c.kept (t':=a.toks) w,aT (Nat.succ_ne_self _),⟨⟨.none,f⟩,b2⟩,λp hp=>c.fpOk (g p hp) (c.hok.fresh (g p hp)),q⟩
end
end L2
namespace PL
open PySem PySem.Spec PyProof.Rows L2
def B0 (k:Nat):kn PV->kn PV
 | [] => []
 | x::r=> .tup [.int k,x] :: B0 (k+1) r
theorem Ky:∀(xs:kn PV) (k:Nat),(B0 k xs).length=xs.length
 | [],_=>rfl
 | _::r,k=>by rw[B0,AA8,Ky r,AA8]
theorem FS:∀(xs:kn PV) (k i:Nat) (z:PV),(B0 k xs)[i]? =some z->∃x,xs[i]? =some x/\z= .tup [.int ((k+i:Nat):Int),x]
 | [],_,_,_,h=>by simp[B0] at h
 | x::r,k,0,z,h=>⟨x,rfl,by simp[B0] at h;rw[<-h];rfl⟩
 | x::r,k,i+1,z,h=>by obtain⟨y,h1,h2⟩:=FS r (k+1) i z (by simpa[B0] using h);refine⟨y,by simpa using h1, ?_⟩;rw[h2,show k+1+i=k+(i+1) by omega]
def Zn {K:AAB}{T M:ki->Prop}{H:Hp}{l:ki}{xs:kn PV}(va:KO T M H)(r:Ck K T M H (.ref l) (.lst xs)):RD K M (uY K l) (B0 0 xs) T H:=by
 obtain⟨a,vs,e,f,m,n,b⟩:=Dx r;cases e;have c:Et K H l vs:= .inl (.inl f);refine⟨λi z h=> ?_,λi z v s h g=> ?_,λi h=>⟨vs,c, ?_⟩⟩
 .obtain ⟨x,hx,_⟩:=FS xs 0 i z h;obtain⟨u,hu,_⟩:=b.get hx;exact⟨vs,u,c,hu⟩
 .obtain ⟨x,hx,rfl⟩:=FS xs 0 i z h;obtain⟨p,u,rfl,j,rfl,hu⟩:=g;obtain⟨t,d,k⟩:=b.get' (hu vs c);rw[hx] at d;cases d;have st:=DB.lay (o:= .tup [.int (i:Nat),u]) va.tp j;rw[ADz];exact⟨st, .tup (.inl Aj) (.cons (.int _) (.cons (k.stp st va) .nil))⟩
 .rw [b.length];rw[Ky] at h;exact h
section
variable {X:Cx}
def qL (r:AA):AI:=λτ Q=>r τ λa=>match a with | [.lst xs] =>Q (B0 0 xs)|_=>False
def oM {e:ke}{r:AA}{p pos b:Pos}{es:kn ke}{c:Nat}(d:Gl X "enumerate")(f:X.mg "enumerate" =none)(ha:SA X [e] r)(hs:starEach [e] X.env= [(false,eval e X.env)] :=by rfl):SI X (.Tuple es c b) (.Call (.Name "enumerate" p) [e] [] pos) true (qL r):=by
 obtain⟨t,g,s⟩:=ha;refine⟨_,iP d f g hs,λB T i τ H R v j h k=>s B T i τ H _ _ j h λvs xs T1 H1 l m h1=> ?_⟩;split at h1 <;> first | exact h1.elim|skip
 cases m with
 | cons ra t=> cases t;obtain⟨a,n,rfl,o,_,_,w⟩:=Dx ra;exact⟨a,rfl,⟨n, .inl (.inl o)⟩,k _ _ T1 H1 l (λM2 x y u va _=>Zn va (ra.mv u)) h1⟩
end
end PL
namespace L2
open PySem PySem.Spec PyProof.Rows
def bq {prog:gn}{w:fe}{A:Wf}(c:A.handled=none)(b:kd)(it l:ki)(d:l≠it)(items:Array km):Draws prog w A it [it,l] items.size (λi v=>items[i]? =some v) (λi h=>Ma b h it l i/\IK b h l items) where
 live:=λ_ _ st=>let ⟨o,f,_⟩:=st.1.obj;⟨o,f⟩
 frame:=λ_ _ _ st hk=>⟨st.1.mv λo e=>hk it (by simp) o e,st.2.mv λo e=>hk l (by simp) o e⟩
 item:=λi s Q E hi st hQ=>by refine Gf st.1 st.2 (x:=items[i]) (by simp[hi]) λh' g a=> ?_;exact hQ _ h' s.toks (by simp[hi]) ⟨g,st.2.mv λo e=>a.extBut _ _ d e⟩ a
 done:=λs Q E st j=>FR c st.1 st.2 (by simp) j
def kN (K:AAB)(b:kd)(l:ki):It:=
 ⟨λi H=>∃xs x,Sq K b H l xs/\xs[i]? =some x,
  λi H v a=>∃T x,v= .ref T/\H T=none/\a=upd H T (.tup [.int i,x])/\∀xs,Sq K b H l xs->xs[i]? =some x,
  λi H=>∃xs,Sq K b H l xs/\xs.length<=i⟩
def jF {b:kd}{h:cb}{q l:ki}{k:Nat}(x:Ma b h q l k):∃o,h.get? q=some o/\(o.cls= .type "list_iterator" \/o.cls= .type "tuple_iterator"):=by
 cases b with
 | true=>obtain⟨o,a,c,_⟩:=x;exact⟨o,a, .inl c⟩
 | false=>obtain⟨o,a,c,_⟩:=x;exact⟨o,a, .inr c⟩
def jM {b:kd}{h:cb}{l:ki}{xs:Array km}(x:IK b h l xs):∃o,h.get? l=some o/\(o.cls= .type "list" \/o.cls= .type "tuple"):=by
 cases b with
 | true=>obtain⟨o,a,c,_⟩:=x;exact⟨o,a, .inl c⟩
 | false=>obtain⟨o,a,c,_⟩:=x;exact⟨o,a, .inr c⟩
def eQ {b:kd}{h:cb}{e it l:ki}{k:Nat}{i:Int}{f:km}{xs:Array km}(x:IK b h l xs)(y:Ma b h it l k)(z:IsEnum h e it i f):l≠it/\l≠e:=by
 obtain⟨o,a,c⟩:=jM x;obtain⟨j,g,d⟩:=jF y;refine⟨λq=> ?_,λq=> ?_⟩
 .subst q;rw[a] at g;cases g;rcases c with c|c <;> rcases d with d|d <;> (rw[c] at d;simp at d)
 .subst q;rw[z] at a;cases a;rcases c with c|c <;> simp at c
def XQ {P:gn}{w:fe}{K:AAB}{es:kn ke}{T:Nat}{pos:Pos}{b:kd}{e it l:ki}(B:e≠it):Je P w K (.Tuple es T pos) (kN K b l) [e,it] e (λk h=>(∃c,IsEnum h e it (k:Nat) c)/\Ma b h it l k) where
 mem:=by simp
 obj:=λk h st p hp=>by
  obtain⟨⟨c,he⟩,hi⟩:=st;have f:p=e\/p=it:=by simpa using hp
  rcases f with q|q
  .subst q;exact⟨_,he,λv z=>nomatch z⟩
  .subst q;exact hi.obj
 keep:=λk h h' st m=>by obtain⟨⟨c,he⟩,hi⟩:=st;exact⟨⟨c,m e (by simp) _ he⟩,hi.mv λo a=>m it (by simp) o a⟩
 item:=by
  intro X C hw D hc k M s N H E I r st F;subst C hw D;obtain⟨⟨c,he⟩,hi⟩:=st;obtain⟨xs,x,t,hx⟩:=F;obtain⟨d,rv,p,U⟩:=I.sq t;obtain⟨u,hu,W⟩:=rv.get hx;have j:e<s.heap.objs.size:=AAF he;have G:it<s.heap.objs.size:=by obtain⟨o,a,_⟩:=hi.obj;exact AAF a
  obtain⟨O,R⟩:=eQ p hi he;have Y:k<d.toArray.size:=by have:=(AA3.mp hu).1;simpa using this
  refine wpAny_pyNext_enum_itemD (bq (prog:=X.prog) (w:=X.w) (A:=X.A.in1) (I.ok.hd hc) b it l O d.toArray) he ⟨hi,p⟩ Y B (by simp only[AAI,AAp,AAq];rintro(z|z);exact B z;exact R z.symm) λy h1 J hy Z a2 a3 a4 a5=> ?_;have L:y=u:=by
   have:d[k]? =some y:=by simpa using hy
   rw[hu] at this;exact(AAn this).symm
  subst L;refine⟨_,rfl,wpAny_letOwnedTupleGo_enum (s:={s with heap:=h1,toks:=J+1}) Z λh2 c1 c2=> ?_⟩;have g:∀p o,p≠e->h1.get? p=some o->h2.get? p=some o:=λp o q z=>c2.extBut _ _ q z;have S:∀p∈ [e,it],p<s.heap.objs.size:=λp hp=>by
   have f:p=e\/p=it:=by simpa using hp
   rcases f with q|q
   .rw [q];exact j
   .rw [q];exact G
  have m:∀p o,p ∉ [e,it] ->s.heap.get? p=some o->h2.get? p=some o:=λp o hp z=>by
   have f:p≠e/\p≠it:=by simpa using hp
   exact g p o f.1 (a5 p o f.1 f.2 z)
  have I2:Inv X M N (upd H s.heap.objs.size (.tup [.int k,x])) {s with heap:=h2,toks:=J+1}:=I.turnedN r S m (AAJ _)
   ⟨(by show 2<=sizeLine;decide), [.int k J,y], .cons ⟨_,rfl⟩ (.cons W .nil),⟨_,g _ _ (AAv j) a3,rfl,_,rfl⟩⟩
  have UV:H s.heap.objs.size=none:=I.fresh;refine⟨.ref s.heap.objs.size,upd H s.heap.objs.size (.tup [.int k,x]),I2,rfl,⟨_,x,rfl,UV,rfl,λxs' h'=> ?_⟩,⟨⟨y, ?_⟩, ?_⟩,λp hp=> ?_⟩
  .rw [I.sq_inj h' t];exact hx
  .have:((k+1:Nat):Int)=(k:Int)+1:=by push_cast;rfl
   rw[this];exact c1
  .exact a2.1.mv λo z=>g it o B.symm z
  .rw [Ai (AAN (S p hp))];exact(r p hp).1
 done:=by
  intro X C hw D hc k M s N H E I r st F;subst C hw D;obtain⟨⟨c,he⟩,hi⟩:=st;obtain⟨xs,t,hx⟩:=F;obtain⟨d,rv,p,U⟩:=I.sq t;have hl:=rv.length;have sz:d.toArray.size<=k:=by simp;omega
  obtain⟨O,R⟩:=eQ p hi he;refine wpAny_pyNext_enum_endD (n:=k) (P:=λ_ _=>True) (St:=λi h=>i=k/\Ma b h it l k/\IK b h l d.toArray) (fp:= [it,l]) ⟨λ_ _ st=>let ⟨o,ho,_⟩:=st.2.1.obj;⟨o,ho⟩,λ_ _ _ st hk=>⟨st.1,st.2.1.mv λo e=>hk it (by simp) o e,st.2.2.mv λo e=>hk l (by simp) o e⟩,λi s Q E hi st hQ=>absurd hi (by rw[st.1];omega),λs Q E st hE=>FR (A:=X.A.in1) (I.ok.hd hc) st.2.1 st.2.2 (by simp;simpa using sz) hE⟩ he ⟨rfl,hi,p⟩ λh' eb=>⟨rfl, ?_⟩;exact I.turnedL (t':=s.toks) r λp o hp z=>by
   have f:p≠e/\p≠it:=by simpa using hp
   exact eb p o f.2 z
 self:=λ_ _ _ _ _ st h=>by obtain⟨⟨c,he⟩,_⟩:=st;exact AD0 he h
def Ib (b:kd)(l:ki)(items:Array km):Meets (Builtin.«enumerate.__new__» ⟨[.type "enumerate", .ref l], []⟩) (λ_ R s=>IK b s.heap l items/\ R (.ok (.ret (.ref (s.heap.push (TJ b l)).objs.size))) {s with heap:=(s.heap.push (TJ b l)).push {cls:= .type "enumerate",data:= .fields #[.none, .bool false, .ref s.heap.objs.size,rawInt 0, .none, .none] }}):=
 .of_wp λprog w A R s h=>by
   obtain⟨hp,g,d,e,os⟩:=s;obtain⟨hl,h⟩:=h;have f:=sub_enumerate;have a:IK b hp l items:=hl
   wp_walk using IZ a
   refine wpAny_stack_any λst=>AAC ?_;split
   .rename_i c _ _ _ _ _;cases (c==Value.type "enumerate")
    .wp_walk using IZ a
     exact⟨_,rfl,h⟩
    .wp_walk using IZ a
     exact⟨_,rfl,h⟩
   .wp_walk using IZ a
    exact⟨_,rfl,h⟩
section
variable {prog:gn}{w:fe}{A:Wf}{E:km->kj->Prop}{s:kj}
def Jj {b:kd}{l:ki}{items:Array km}{Q:km->kj->Prop}(c:IK b s.heap l items)(h:∀h',IsEnum h' (s.heap.objs.size+1) s.heap.objs.size 0 .none->Ma b h' s.heap.objs.size l 0->h'.objs.size=s.heap.objs.size+2-> (∀b o,s.heap.get? b=some o->h'.get? b=some o)->Q (.ref (s.heap.objs.size+1)) {s with heap:=h'}):wpAny (model prog w) A (call (.type "enumerate") [.ref l]) Q E s:=by
 refine ADj F.called_enumerate (by decide) (F.typeCall_enumerate_1 _) (F.newCall_enumerate_1 _) (λobj=>F.args_object_init_2 obj _) F.entry_enumerate_new
  (Ib b l items) ⟨c, ?_⟩
 have a:(s.heap.push (TJ b l)).objs.size=s.heap.objs.size+1:=AA5 ..;show _/\_;rw[a];have he:IsEnum ((s.heap.push (TJ b l)).push
  {cls:= .type "enumerate",data:= .fields #[.none, .bool false, .ref s.heap.objs.size,rawInt 0, .none, .none] }) (s.heap.objs.size+1) s.heap.objs.size 0 .none:=by
  have:=AAO (s.heap.push (TJ b l))
   (o:={cls:= .type "enumerate",data:= .fields #[.none, .bool false, .ref s.heap.objs.size,rawInt 0, .none, .none] }) rfl
  rw[a] at this;exact this
 exact⟨⟨_,he,rfl⟩,h _ he (YC (AAG _ (AAO _ rfl))) (by rw[AA5,a]) λb o x=>AAG _ (AAG _ x)⟩
end
section
variable {X:Cx}
def l9 (K:AAB)(a:TA):TI:=λc H R=>a c H λvs H1=>∃b l,vs= [.ref l] /\(∃xs,Sq K b H1 l xs)/\R (kN K b l) H1
def dQ {e:ke}{f:TA}{p pos c:Pos}{es:kn ke}{j:Nat}(k:Gl X "enumerate")(m:X.mg "enumerate" =none)(ha:PA X [e] f)(hs:starEach [e] X.env= [(false,eval e X.env)] :=by rfl):PI X (.Tuple es j c) (.Call (.Name "enumerate" p) [e] [] pos) (l9 X.K f):=by
 intro n s o H R I h;refine Call_ (Fj I k m boot_enumerate (ACV (BR (ha pos n s o H _ I h) λy a ⟨vs,H1,d,t,u⟩=> ?_) (by rw[hs];rfl) rfl));obtain⟨b,l,rfl,⟨xs,hl⟩,q⟩:=u;cases t with
 | cons r v=>
 cases v;cases r;obtain⟨w,rv,p,z⟩:=d.sq hl;refine Jj p λh' g b2 A x=> ?_;refine AD0 g ?_;have i:∀p∈ [a.heap.objs.size+1,a.heap.objs.size],a.heap.objs.size<=p:=λp hp=>by
  have B:p=a.heap.objs.size+1\/p=a.heap.objs.size:=by simpa using hp
  omega
 exact⟨_,_,_,_,H1,rfl,d.kept (t':=a.toks) x,XQ (Nat.succ_ne_self _),⟨⟨.none,g⟩,b2⟩,λp hp=>d.fpOk (i p hp) (d.hok.fresh (i p hp)),q⟩
end
end L2
namespace PL
open PySem PySem.Spec PyProof.Rows L2
def WX {K:AAB}{T M:ki->Prop}{H:Hp}{l:ki}{x:PV}{xs:kn PV}(va:KO T M H)(hx:x= .tup xs\/x= .lst xs)(r:Ck K T M H (.ref l) x):RD K M (kN K (lA x) l) (B0 0 xs) T H:=by
 obtain⟨_,vs,e,a,b⟩:=Qj hx r;cases e;refine⟨λi z h=> ?_,λi z v j h d=> ?_,λi h=>⟨vs,a, ?_⟩⟩
 .obtain ⟨x,hx,_⟩:=FS xs 0 i z h;obtain⟨u,hu,_⟩:=b.get hx;exact⟨vs,u,a,hu⟩
 .obtain ⟨x,hx,rfl⟩:=FS xs 0 i z h;obtain⟨p,u,rfl,f,rfl,hu⟩:=d;obtain⟨k,c,g⟩:=b.get' (hu vs a);rw[hx] at c;cases c;have st:=DB.lay (o:= .tup [.int (i:Nat),u]) va.tp f;rw[ADz];exact⟨st, .tup (.inl Aj) (.cons (.int _) (.cons (g.stp st va) .nil))⟩
 .rw [b.length];rw[Ky] at h;exact h
section
variable {X:Cx}
def ku (r:AA):AI:=λτ Q=>r τ λa=>match a with | [x] =>Uy x λxs=>Q (B0 0 xs)|_=>False
def sR {e:ke}{r:AA}{p pos a:Pos}{es:kn ke}{b:Nat}(c:Gl X "enumerate")(d:X.mg "enumerate" =none)(ha:SA X [e] r)(hs:starEach [e] X.env= [(false,eval e X.env)] :=by rfl):SI X (.Tuple es b a) (.Call (.Name "enumerate" p) [e] [] pos) true (ku r):=by
 obtain⟨t,f,s⟩:=ha;refine⟨_,dQ c d f hs,λB T g τ H R v i h k=>s B T g τ H _ _ i h λvs xs T1 H1 j m h1=> ?_⟩;split at h1 <;> first | exact h1.elim|skip
 rename_i x;obtain⟨xs,hx,h2⟩:=K7 h1;cases m with
 | cons ra t=> cases t;obtain⟨l,n,rfl,o,w⟩:=Qj hx ra;exact⟨lA x,l,rfl,⟨n,o⟩,k _ _ T1 H1 j (λM2 y z u va _=>WX va hx (ra.mv u)) h2⟩
end
instance{r:AA}{τ:BE}{a:kn PV->Prop}:Wp (ku r τ a) (r τ λb=>match b with | [x] =>Uy x λxs=>a (B0 0 xs)|_=>False):=⟨id⟩
end PL
namespace L2
open PySem PySem.Spec PyProof.Rows
section
variable {prog:gn}{w:fe}{A:Wf}{E:km->kj->Prop}{s:kj}
def eB {d:km}{Q:km->kj->Prop}(h:∀(g:kd),wpAny (model prog w) A.in1.in1 (Builtin.«set.__init__» {pos:= [.ref s.heap.objs.size,d] }) (λj b=> match j with
     | Fin.done f=>wants (λr i=>r=Value.none/\Q (.ref s.heap.objs.size) i) E (Except.ok f) b
     | Fin.again l=>l.quiet=true/\codeAny (model prog w) A.in1 l (wants (λr i=>r=Value.none/\Q (.ref s.heap.objs.size) i) E) b)
   (λe b=>wants (λr i=>r=Value.none/\Q (.ref s.heap.objs.size) i) E (Except.error e) b) {s with heap:=s.heap.push {cls:= .type "set",data:= .set #[] 0 (SetTable.fresh 0 0 g)}}):
 wpAny (model prog w) A (call (.type "set") [d]) Q E s:=by
 obtain⟨c,y,p⟩:=ADL.mro;refine AC3 (codeAny_of_tree ?_)
 wp_walk
 refine⟨by kernel_rfl,AEl F.entry_type_call ?_⟩;rw[Around.under_plain (weight_type_call_type ..) rfl];show wpAny (model prog w) A.in1 (Builtin.«type.__call__» {pos:= [.type "set",d] }) _ _ s;unfold Builtin.«type.__call__»;simp only[ADL.notType,ADL.canCreate,F.typeCall_set_1,p,ADL.made,pure_bind,List.isEmpty_cons,ABA,AAo];refine AAA (AAg (AC3 (ACl (code_set_new_1 (Q₁:=λobj o=>∃g,obj= .ref s.heap.objs.size/\o={s with heap:=s.heap.push {cls:= .type "set",data:= .set #[] 0 (SetTable.fresh 0 0 g)}}) (E:=E) d λg=>⟨g,rfl,rfl⟩) λr o k=> ?_)));match r,k with
 | .error e,k=>exact k
 | .ok (.ret obj),k=>
   obtain⟨g,rfl,rfl⟩:=k;have t:(s.heap.push {cls:= .type "set",data:= .set #[] 0 (SetTable.fresh 0 0 g)}).get? s.heap.objs.size=some {cls:= .type "set",data:= .set #[] 0 (SetTable.fresh 0 0 g)}:=AAO _ rfl;have n:Shared.TypeIs {s with heap:=s.heap.push {cls:= .type "set",data:= .set #[] 0 (SetTable.fresh 0 0 g)}} (.ref s.heap.objs.size) "set" :=⟨_,t,rfl⟩;refine AAA (ACQ n ADL.sub ?_);simp only[ABy,ABA,AAo];refine AAA (AAg ?_);unfold callSpecial?;refine AAA (ABr n AEm.lookup ?_);refine AAg (AAA (ABJ (AEm.bind _) ?_));refine AAA (AC3 (codeAny_call_builtin AEm.plain F.entry_set_init (check_set_init_1 n ?_)));have back:∀(v:km) (b:kj),(v=Value.none/\Q (.ref s.heap.objs.size) b)->wpAny (model prog w) A.in1 (pure (some v)) (λa b=>wpAny (model prog w) A.in1 (match a with
    | none=>ret (Value.ref s.heap.objs.size)
    | some r=>if (r != Value.none)=true then do
              rule "type.call.init-returned-value"
              let __do_lift <-typeNameOf r
              raiseErrorMade "TypeError" (toString "__init__() should return None, not '" ++ toString __do_lift++toString "'")
              ret (Value.ref s.heap.objs.size)
             else ret (Value.ref s.heap.objs.size)) (λj b=>
             match j with
             | Fin.done f=>
               match Except.ok f with
               | Except.ok (Flow.ret v)=>Q v b
               | Except.ok a=>False
               | Except.error e=>E e b
             | Fin.again l=>l.quiet=true/\codeAny (model prog w) A l (λr b=>
                    match r with
                    | Except.ok (Flow.ret v)=>Q v b
                    | Except.ok a=>False
                    | Except.error e=>E e b) b) (λe b=>E e b) b) (λe b=>E e b) b:=by rintro v b ⟨rfl,u⟩;refine AAC ?_;exact AAC u
   refine BR (h g) λj b m=> ?_;match j,m with
   | .done (.ret v),m=>exact back v b m
   | .again l,m=>
     refine⟨m.1,ACl m.2 λr x k=> ?_⟩;match r,k with
     | .error e,k=>exact k
     | .ok (.ret v),k=>exact back v x k
def Z9 {M:Model}{f:Nat->PUnit->Sem (ForInStep PUnit)}{Q:PUnit->kj->Prop}{n:Nat}(b:n=1)(h:wpAny M A (f 0 PUnit.unit) (λr a=>r=ForInStep.yield PUnit.unit/\Q PUnit.unit a) E s):wpAny M A (forIn [:n] PUnit.unit f) Q E s:=by subst b;rw[Std.Legacy.Range.forIn_eq_forIn_range'];show wpAny M A (forIn [0] PUnit.unit f) Q E s;rw[ACH];refine AAA (BR h ?_);rintro r a ⟨rfl,c⟩;show wpAny M A (forIn [] PUnit.unit f) Q E a;rw[ACr];exact AAC c
def d5 (k:Int)(a:Tok):byScan (.int k a) #[] =true:=by unfold byScan;simp[Value.scannable,scanBound]
def WC (h:Int)(a:kd):∃j,(SetTable.fresh 0 0 a).freeSlot h=some (j,false):=⟨_,rfl⟩
def Zu (h:Int)(x:km)(a:kd):∃t:SetTable,layNew (SetTable.fresh 0 0 a) #[] h x=(#[(h,x)],t,false,false)/\t.mask=7/\t.dummies= #[] /\t.place.size=1/\t.plain=true:=by obtain⟨j,e⟩:=WC h a;unfold layNew;rw[e];exact⟨_,rfl,rfl,rfl,rfl,rfl⟩
def Tt {d:ki}{o:Obj}{ep:Nat}{k:Int}{c:Tok}{v:km}{Q:km->kj->Prop}(hd:s.heap.get? d=some o)(hc:o.cls= .type "dict")(he:o.data= .dict #[⟨hashInt k, .int k c,v⟩] ep)(hs:(d==sysModules)=false)(q:∀(h':cb) (t:SetTable) (n:Nat),t.mask=7->t.dummies= #[] ->t.place.size=1->h'.get? s.heap.objs.size=some ⟨.type "set",none, .set #[(hashInt k, .int k c)] n t, #[]⟩->(∀b o,b<s.heap.objs.size->s.heap.get? b=some o->h'.get? b=some o)->h'.objs.size=s.heap.objs.size+1->Q (.ref s.heap.objs.size) {s with heap:=h'}):wpAny (model prog w) A (call (.type "set") [.ref d]) Q E s:=by
 obtain⟨cls,u,data,sl⟩:=o;simp only at hc he;subst hc he;refine eB λa=> ?_;have h:(s.heap.push {cls:= .type "set",data:= .set #[] 0 (SetTable.fresh 0 0 a)}).get? s.heap.objs.size=some {cls:= .type "set",data:= .set #[] 0 (SetTable.fresh 0 0 a)}:=AAO _ rfl;have i:=AAG {cls:= .type "set",data:= .set #[] 0 (SetTable.fresh 0 0 a)} hd;unfold Builtin.«set.__init__»
 wp_walk using ABJ F.sub_dict_set,ABJ F.sub_dict_frozenset
 refine Z9 rfl ?_;obtain⟨t,j,f,g,e,l⟩:=Zu (hashInt k) (.int k c) a;have x:t.tooFull=false:=by unfold SetTable.tooFull SetTable.fill;rw[f,g,e];rfl
 wp_walk
 rw[AAE (show byScan #[({hash:=hashInt k,key:=Value.int k c,val:=v}:DictEntry)][0].key #[] =true from d5 k c)];show wpAny (model prog w) A.in1.in1 (do
  let __do_lift <-setAddByScan s.heap.objs.size (.int k c) (hashInt k) #[] (SetTable.fresh 0 0 a);match __do_lift with
   | some added=>pure added
   | none=>setAddHashedIn s.heap.objs.size (.int k c) (hashInt k) 99999) _ _ _
 unfold setAddByScan;simp only[j]
 wp_walk
 rw[AAE rfl];have m:d<s.heap.objs.size:=AAF hd;have p:=(AD1 (s.heap.push {cls:= .type "set",data:= .set #[] 0 (SetTable.fresh 0 0 a)}) d s.heap.objs.size (Obj.putSet #[(hashInt k, .int k c)] t) (AAN m)).trans i
 wp_walk using wpAny_loadPart' p
 refine⟨rfl,AAC (AAC ⟨rfl, ?_⟩)⟩;refine q _ t 1 f g e ?_ (λb o hb r=> ?_) ?_
 .exact AC6 (Obj.putSet #[(hashInt k, .int k c)] t) h rfl
 .rw [AD1 _ _ _ _ (AAN hb)];exact AAG _ r
 .rw [Heap.size_update,AA5]
end
def RN:entryFor table "set.__or__" =some Builtin.«frozenset.__or__»:=
 entryFor_alias (id':="frozenset.__or__") (by kernel_rfl) (by first | rfl|decide +kernel|(unfold String.splitOn;simp +decide [String.splitOnAux])) (by decide +kernel) (by kernel_rfl)
abbrev Po (h:Int)(x:km)(n:Nat)(t:SetTable):Obj:=⟨.type "set",none, .set #[(h,x)] n t, #[]⟩
structure T1 (t:SetTable):Prop where
 m:t.mask=7
 d:t.dummies= #[]
 p:t.place.size=1
def T1.fits {t:SetTable}(h:T1 t):t.fits 1=true:=by unfold SetTable.fits SetTable.fill;rw[h.m,h.d,h.p];rfl
def T1.room {t:SetTable}(h:T1 t):t.roomFor 1=none:=by unfold SetTable.roomFor SetTable.fill;rw[h.m,h.d,h.p];rfl
section
variable {prog:gn}{w:fe}{A:Wf}{E:km->kj->Prop}{s:kj}
def Ud {S a:ki}{h:Int}{x:km}{n:Nat}{t:SetTable}{b:kd}{Q:Unit->kj->Prop}(e:s.heap.get? S=some ⟨.type "set",none, .set #[] 0 (SetTable.fresh 0 0 b), #[]⟩)(ha:s.heap.get? a=some (Po h x n t))(ne:(S==a)=false)(c:T1 t)(q:∀g:SetTable,T1 g->Q () {s with heap:=s.heap.update S (Obj.putSet #[(h,x)] g)}):wpAny (model prog w) A (setMerge S a) Q E s:=by
 unfold setMerge;rw[AAD (by rw[ne];decide)];refine AAA (AB5 ha rfl c.fits ?_);show wpAny (model prog w) A (do
  setRoomFor S 1
  let __x <-setState S;match __x with
   | (fst,f,ts)=>_) Q E s
 refine AAA ?_;unfold setRoomFor;refine AAA (AB5 e rfl rfl ?_);show wpAny _ _ (pure ()) _ _ _;refine AAC (AAA (AB5 e rfl rfl ?_));have i:(SetTable.fresh 0 0 b).road t=SetTable.Road.slotForSlot:=by unfold SetTable.road;rw[AAD (by cases b <;> decide),c.m,c.d];rfl
 dsimp only;rw[i];exact wpAny_storeSet_of e rfl (q _ ⟨c.m,c.d,c.p⟩)
def rZ {a:Type}(f:Nat->Nat)(x:a):pickOrder f #[x] = #[x] :=by show pickOrder.go f 1 0 [x] #[] = #[x];simp[pickOrder.go,Nat.mod_one]
def walk1 {b:ki}{h:Int}{x:km}{n:Nat}{t:SetTable}{os:kn ki}{c:kf ki}{Q:Array (Int×km)->kj->Prop}(hb:s.heap.get? b=some (Po h x n t))(a:T1 t)(q:Q #[(h,x)] s):wpAny (model prog w) A (setWalkUnseen b os c) Q E s:=by
 unfold setWalkUnseen;refine AAA (AB5 hb rfl a.fits ?_);unfold setsByText;refine AAA (AAA (AD2 (AAC ?_)));dsimp only;rw[AAE (by simp)];unfold setWalk;refine AAA (AB5 hb rfl a.fits ?_);unfold setsByText;refine AAA (AAA (AD2 (AAC ?_)));dsimp only;split
 .refine AAA (AD2 (AAC ?_));dsimp only;rw[rZ];exact q
 .split
  .rename_i d;exact absurd d (by show ¬(!t.plain&&decide (#[(h,x)].size>1))=true;simp)
  .refine AAA ?_;show wpAny _ _ (if (!t.led&&decide (#[(h,x)].size>1))=true then unsupported "set:maker-not-led" else pure ()) _ _ _;rw[AAD (by simp)];exact AAC (AAC q)
def Z8 {M:Model}{b:Type}{x:b}{f:b->PUnit->Sem (ForInStep PUnit)}{Q:PUnit->kj->Prop}(h:wpAny M A (f x PUnit.unit) (λr a=>r=ForInStep.yield PUnit.unit/\Q PUnit.unit a) E s):wpAny M A (forIn #[x] PUnit.unit f) Q E s:=by rw[<-ADT];show wpAny M A (forIn [x] PUnit.unit f) Q E s;rw[ACH];refine AAA (BR h ?_);rintro r a ⟨rfl,c⟩;show wpAny M A (forIn [] PUnit.unit f) Q E a;rw[ACr];exact AAC c
def isInt_self (j:Int)(a:Tok):Value.isInt j (.int j a)=true:=by simp[Value.isInt]
def i5 {h:cb}{S:ki}{i:Int}{a:Tok}{n:Nat}{t:SetTable}(b:h.get? S=some (Po (hashInt i) (.int i a) n t))(c:T1 t):h.SetOf (intKind prog w) S (λk=>decide (k=i)) 1:=by
 refine⟨_,_,_,_,b, ?_,rfl, ?_, ?_, ?_,c.fits,rfl⟩
 .first | exact⟨rfl,rfl⟩|exact⟨rfl,rfl,rfl⟩|exact Or.inl rfl
 .intro e he;simp only[AAa] at he;subst he;exact⟨⟨i,isInt_self i a,rfl⟩,rfl⟩
 .intro k;simp[intKind,Value.isInt];exact eq_comm
 .simp [scanBound]
def Zx {S b:ki}{i j:Int}{o c:Tok}{n m:Nat}{t u:SetTable}{id:String}{Q:Unit->kj->Prop}(f:s.heap.get? S=some (Po (hashInt i) (.int i o) n t))(hb:s.heap.get? b=some (Po (hashInt j) (.int j c) m u))(ne:(S==b)=false)(a:T1 t)(hu:T1 u)(q:∀h',Heap.SameBut S s.heap h'->h'.SetOf (intKind prog w) S (λk=>decide (k=i)||decide (k=j)) (if i=j then 1 else 2)->Q () {s with heap:=h'}):wpAny (model prog w) A (setMerge S b (Builtin.Frozenset.unchanged id b m)) Q E s:=by
 unfold setMerge;rw[AAD (by rw[ne];decide)];refine AAA (AB5 hb rfl hu.fits ?_);show wpAny (model prog w) A (do
  setRoomFor S 1
  let __x <-setState S;match __x with
   | (fst,g,ts)=>_) Q E s
 refine AAA ?_;unfold setRoomFor;refine AAA (AB5 f rfl a.fits ?_);dsimp only;rw[a.room];refine AAC (AAA (AB5 f rfl a.fits ?_));have r:t.road u=SetTable.Road.oneByOne:=by unfold SetTable.road SetTable.fill;rw[a.d,a.p];rfl
 dsimp only;rw[r];refine AAA (walk1 hb hu ?_);refine AAA (Z8 ?_);dsimp only;refine AAA (AAg (wpAny_setAddHashed_of (knd:=intKind prog w) (k:=j) (isInt_self j c) rfl (i5 f a) (by simp[scanBound]) λh' h v=> ?_));have l:h'.get? b=some (Po (hashInt j) (.int j c) m u):=by rw[h.2 b (λz=>by rw[z] at ne;simp at ne)];exact hb
 unfold Builtin.Frozenset.unchanged;refine AAA (AAA (wpAny_setEpoch_of l rfl hu.fits ?_));rw[AAD (by simp)];refine AAC (AAA (AB5 l rfl hu.fits ?_));rw[AAD (by simp)];refine AAC ⟨rfl,AAC (q h' h ?_)⟩;have e:(if decide (j=i)=true then 1 else 1+1)=if i=j then 1 else 2:=by
  by_cases z:i=j
  .rw [AAE z,AAE (by simp[z])]
  .rw [AAD z,AAD (by simp;exact λy=>z y.symm)]
 rw[<-e];exact v
def iI {a b:ki}{i j:Int}{e y:Tok}{n m:Nat}{t u:SetTable}{Q:km->kj->Prop}(ha:s.heap.get? a=some (Po (hashInt i) (.int i e) n t))(hb:s.heap.get? b=some (Po (hashInt j) (.int j y) m u))(D:a≠b)(G:T1 t)(hu:T1 u)(q:∀(h':cb),h'.SetOf (intKind prog w) s.heap.objs.size (λk=>decide (k=i)||decide (k=j)) (if i=j then 1 else 2)->(∀c o,c<s.heap.objs.size->s.heap.get? c=some o->h'.get? c=some o)->Q (.ref s.heap.objs.size) {s with heap:=h'}):wpAny (model prog w) A (binaryOp .BitOr (.ref a) (.ref b)) Q E s:=by
 have H:=AAF ha;have B:=AAF hb;refine wpAny_binaryOp_same (T:="set") ⟨_,ha,rfl⟩ ⟨_,hb,rfl⟩ F.fills_set_or F.slot_set_or ?_;refine AC3 (codeAny_call_builtin F.slot_set_or.plain RN ?_);refine F.slot_set_or.check (model prog w) A.in1 _ s (.ref a) [.ref b] [] _ ⟨_,ha,rfl⟩ (F.args_set_or_2 _ _) ?_;unfold Builtin.«frozenset.__or__»
 wp_walk using ABJ F.sub_set_set,AD2
 have C:∀{c:Nat},c<s.heap.objs.size->(s.heap.objs.size==c)=false:=λ{c} h=>by simp only[AEF,ne_eq];exact λz=>absurd h (by rw[z];exact ACC _)
 show wpAny _ _ (setMerge s.heap.objs.size a) _ _ _;refine Ud (AAO _ rfl) (AAG _ ha) (C H) G λf g=> ?_;have I:=AAG {cls:= .type "set",data:= .set #[] 0 (SetTable.fresh 0 0 !((model prog w).w.params.followText "set-order"))} hb;have l:((s.heap.push {cls:= .type "set",data:= .set #[] 0 (SetTable.fresh 0 0 !((model prog w).w.params.followText "set-order"))}).update s.heap.objs.size (Obj.putSet #[(hashInt i, .int i e)] f)).get? s.heap.objs.size=some (Po (hashInt i) (.int i e) 1 f):=AC6 (Obj.putSet #[(hashInt i, .int i e)] f) (AAO _ rfl) rfl;have J:=(AD1 _ b s.heap.objs.size (Obj.putSet #[(hashInt i, .int i e)] f) (AAN B)).trans I;have v:∀c o,c<s.heap.objs.size->s.heap.get? c=some o->((s.heap.push {cls:= .type "set",data:= .set #[] 0 (SetTable.fresh 0 0 !((model prog w).w.params.followText "set-order"))}).update s.heap.objs.size (Obj.putSet #[(hashInt i, .int i e)] f)).get? c=some o:=λc o hc x=>by rw[AD1 _ _ _ _ (AAN hc)];exact AAG _ x
 refine AAC ?_;show wpAny (model prog w) A.in1 (if (Value.ref b != Value.ref a)=true then do
  let r <-holding [Value.ref s.heap.objs.size] (Builtin.Frozenset.updateFrom (toString "frozenset." ++ toString "__or__") s.heap.objs.size (Value.ref b))
  pure (Value.ref s.heap.objs.size)
  else pure (Value.ref s.heap.objs.size)) _ _ {s with heap:=(s.heap.push {cls:= .type "set",data:= .set #[] 0 (SetTable.fresh 0 0 !((model prog w).w.params.followText "set-order"))}).update s.heap.objs.size (Obj.putSet #[(hashInt i, .int i e)] f)}
 generalize (s.heap.push {cls:= .type "set",data:= .set #[] 0 (SetTable.fresh 0 0 !((model prog w).w.params.followText "set-order"))}).update s.heap.objs.size (Obj.putSet #[(hashInt i, .int i e)] f)=H1 at *;rw[AAE (by simp;exact λz=>D z.symm)];refine AAA (AAg ?_);unfold Builtin.Frozenset.updateFrom Builtin.Frozenset.isAnySet
 wp_walk using ABJ F.sub_set_set
 have K:(u.place.size != #[(hashInt j,Value.int j y)].size||decide (u.fill>u.mask))=false:=by unfold SetTable.fill;rw[hu.m,hu.d,hu.p];rfl
 rw[AAD (by rw[K];decide)];refine AAC (AAC (Zx l J (C B) g hu λh' L M=> ?_));refine AAC (AAC ⟨(λz=>nomatch z),q h' M λc o hc x=> ?_⟩);rw[L.2 c (AAN hc)];exact v c o hc x
end
def UX (p:ki)(k:Int)(h:cb):Prop:=∃a n t,h.get? p=some (Po (hashInt k) (.int k a) n t)/\T1 t
def gj {P:gn}{w:fe}{H:Hp}{h:cb}{p:ki}{k:Int}(x:UX p k h):CL P w H h p (.ext (UX p k)):=by obtain⟨a,n,t,e,y⟩:=id x;refine⟨x,⟨_,e⟩,λh1 h2 z q=> ?_⟩;obtain⟨a,n,t,e,y⟩:=z;exact⟨a,n,t,q _ e,y⟩
def sE:kn V->Hp->VK->Prop:=λxs H Q=>∃a o k v,xs= [.ref a] /\H a=some (.frz o (.dK [(.inl k,v)]))/\∀p,H p=none->Q (.ref p) (upd H p (.ext (UX p k)))
def vf:R2:=λx y H Q=>∃a b i j,x= .ref a/\y= .ref b/\a≠b/\H a=some (.ext (UX a i))/\H b=some (.ext (UX b j))/\∀p,H p=none->Q (.ref p) (upd H p (.set (λk=>decide (k=i)||decide (k=j)) (if i=j then 1 else 2)))
def sC:kn V->Hp->VK->Prop:=λxs H Q=>∃a S n,xs= [.ref a] /\H a=some (.set S n)/\Q (.int n) H
section
variable {X:Cx}
def qQ {P:gn}{w:fe}{H:Hp}{h:cb}{a:ki}{o:Obj}{k:Int}{v:V}(x:CL P w H h a (.frz o (.dK [(.inl k,v)]))):h.get? a=some o/\o.cls= .type "dict" /\(a==sysModules)=false/\∃n u ep,o.data= .dict #[⟨hashInt k, .int k n,u⟩] ep:=by
 obtain⟨g,z,hs,vs,d,D,es,ep,j,ex,hd,r,ps,E⟩:=x;rw[g] at j;cases j;refine⟨g,ex.1,hs, ?_⟩;cases d with
 | cons q d=>
   rename_i p vs;cases d;obtain⟨c,u⟩:=p;have s:Sum.inl k=c:=q.1;subst s;generalize l:es.toList=L at ps;cases ps with
   | cons h1 h2 h3=>
     rename_i b _;cases h3;have y:b∈es:=by rw[<-Array.mem_toList_iff,l];simp
     obtain⟨A,B,m⟩:=r b y;have C:Sum.inl k=A:=(Ay P w).inj _ _ _ h1 B;subst C;rcases BW (k:=Sum.inl k) (v:=b.key) h1 with⟨i,t,e,f⟩|⟨x,t,e,f⟩
     .cases e;refine⟨t,b.val,ep, ?_⟩;rw[hd];have:es= #[b] :=by apply Array.toList_inj.mp;rw[l]
      rw[this];obtain⟨F,G,I⟩:=b;simp only at f m;rw[f,m];rfl
     .cases e
def QE:B3 X (.type "set") sE:=by intro m s p H xs w Q I r h;obtain⟨a,o,k,v,rfl,e,q⟩:=h;obtain⟨u,rfl,d⟩:=vals1 r;cases d;obtain⟨f,hc,hs,g,u,ep,hd⟩:=qQ (I.hok a _ e);refine Tt f hc hd hs λh' t n i j tp l c sz=> ?_;have keep:∀b o,s.heap.get? b=some o->h'.get? b=some o:=λb o e=>c b o (AAF e) e;exact⟨.ref _,_,I.laid (a:=s.heap.objs.size) (t':=s.toks) keep (AAJ _) (gj ⟨g,n,t,l,⟨i,j,tp⟩⟩),rfl,q _ (I.hok.fresh (AAJ _))⟩
def nF:D1 X (binaryOp .BitOr) vf:=by intro n s p H x y v u Q I d f h;obtain⟨a,b,i,j,rfl,rfl,ne,ha,hb,q⟩:=h;cases d;cases f;obtain⟨⟨r,t,w,g,y1⟩,_,_⟩:=I.hok a _ ha;obtain⟨⟨z,A,B,l,y2⟩,_,_⟩:=I.hok b _ hb;refine iI g l ne y1 y2 λh' m c=> ?_;have keep:∀b o,s.heap.get? b=some o->h'.get? b=some o:=λb o e=>c b o (AAF e) e;exact⟨.ref _,_,I.laid (a:=s.heap.objs.size) (o:= .set (λk=>decide (k=i)||decide (k=j)) (if i=j then 1 else 2)) (t':=s.toks) keep (AAJ _) m,rfl,q _ (I.hok.fresh (AAJ _))⟩
def ZL:B3 X (.builtin "len") sC:=by intro i s j H xs k Q I r h;obtain⟨a,S,n,rfl,e,q⟩:=h;obtain⟨u,rfl,b⟩:=vals1 r;cases b;obtain⟨o,es,ep,t,c,hx,hd,_,_,d,f,g⟩:=I.hok a _ e;refine call_len_set c hx hd f (by rw[show scanBound=4096 from rfl] at d;omega) ?_;rw[g];exact⟨.int n,H,I.tok _,⟨_,rfl⟩,q⟩
end
end L2
namespace PL
open PySem PySem.Spec PyProof.Rows L2
def uJ (i j:Int):Nat:=if i=j then 1 else 2
def kr (a b:AE):AE:=λτ Q=>a τ λx=>match x with | .dk [(i,_)] =>b τ λy=>(match y with | .dk [(j,_)] =>Q (.int (uJ i j))|_=>False)|_=>False
section
variable {X:Cx}
def oK {a b:ke}{E F:AE}{p r s c d u pos:Pos}(M:Gl X "len")(N:X.mg "len" =none)(G:Gl X "set")(I:X.mg "set" =none)(ha:SE X a E)(hb:SE X b F)(J:starEach [.BinOp (.Call (.Name "set" r) [a] [] c) .BitOr (.Call (.Name "set" s) [b] [] d) u] X.env=(false,eval (.BinOp (.Call (.Name "set" r) [a] [] c) .BitOr (.Call (.Name "set" s) [b] [] d) u) X.env)::starEach [] X.env:=by rfl)(h1:starEach [a] X.env=(false,eval a X.env)::starEach [] X.env:=by rfl)(h2:starEach [b] X.env=(false,eval b X.env)::starEach [] X.env:=by rfl):SE X (.Call (.Name "len" p) [.BinOp (.Call (.Name "set" r) [a] [] c) .BitOr (.Call (.Name "set" s) [b] [] d) u] [] pos) (kr E F):=by
 obtain⟨t,O,P⟩:=ha;obtain⟨t',w,R⟩:=hb;refine⟨_,Gs ZL M N ACN (D3 (B7 nF (FW QE G I AFI (D3 O Fo h1) (he:=h1)) (FW QE G I AFI (D3 w Fo h2) (he:=h2))) Fo J) (he:=J),λB T K τ H Q AQ f h k=> ?_⟩;refine P B T K τ H _ _ f h λv x T1 H1 g S c=> ?_;split at c <;> first | exact c.elim|skip
 rename_i i _;cases S;rename_i U o1 W Y d1 Z;refine⟨U,_,i,_,rfl,Z,λp hp=> ?_⟩;have m:=DB.lay (o:= .ext (UX p i)) (f.stp g).tp hp;have nt:¬T1 p:=λz=>by obtain⟨o,e,_⟩:=((f.stp g).tp p z).mut;rw[hp] at e;cases e
 refine R B T1 K τ _ _ _ ((f.stp g).stp m) c λv2 y T2 H2 n r2 d=> ?_;split at d <;> first | exact d.elim|skip
 rename_i j _;cases r2;rename_i a2 o2 es2 ep2 d2 e2;refine⟨a2,_,j,_,rfl,e2,λA C=> ?_⟩;have l:H2 p=some (.ext (UX p i)):=n.keep _ _ nt Aj;have ne:p≠A:=λz=>by subst z;rw[l] at C;cases C
 have L:=DB.lay (o:= .ext (UX A j)) (((f.stp g).stp m).stp n).tp C;refine⟨p,A,i,j,rfl,rfl,ne,by rw[Ai ne];exact l,Aj,λp3 D=> ?_⟩;have l3:=DB.lay (o:= .set (λk=>decide (k=i)||decide (k=j)) (if i=j then 1 else 2)) ((((f.stp g).stp m).stp n).stp L).tp D;refine⟨p3,_,_,rfl,Aj, ?_⟩;exact k _ _ T2 _ ((((g.trans m).trans n).trans L).trans l3) (.int _) d
end
end PL
namespace L2
open PySem PySem.Spec PyProof.Rows
structure RC (K:AAB) (x qual:Str) (st:Stmt) (f:Addr) (fd:FuncData) (d:Int):Prop where
 ex:∃(oc:Value) (od:Option Addr) (kV doc pm:Value) (an:Option Addr) (cdv ct:Value) (osl:Array (Option Value)) (t:Addr),
  fd=PySem.W.fnOf x qual (D2 st) (CC st) (Au st) (.ref t) kV doc pm an cdv ct/\K.lookup f=some ⟨oc,od, .func fd,osl⟩/\PySem.W.codeIn K cdv qual=true/\∃o tk n,K.lookup t=some o/\o.data= .seq #[.int d tk] n
 kp:PySem.W.keepIn K (.ref f)=true
structure Vo (P:Program) (w:World) (K:AAB) (mg:Str->Option Value) (base:Heap) (k:Nat) (x:Str) (ps:List Str) (d:Int) (sp:Sp):Prop where
 ex:∃f fd tk,mg x=some (.ref f)/\PySem.W.keepIn K (.ref f)=true/\Binds K fd ps [.int d tk] /\De P w K mg base MD k f fd ps sp
def Vo.mono {P:gn}{w:fe}{K:AAB}{mg:Str->kf km}{base:cb}{j k:Nat}{x:Str}{ps:kn Str}{d:Int}{sp:Sp}(h:Vo P w K mg base j x ps d sp)(hk:j<=k):Vo P w K mg base k x ps d sp:=by obtain⟨f,e,g,a,b,c,d⟩:=h.ex;exact⟨f,e,g,a,b,c,d.mono hk⟩
section
variable {P:gn}{w:fe}{K:AAB}{mg:Str->kf km}{base:cb}
def RC.ok {x qual:Str}{st:Stmt}{f:ki}{b:FuncData}{d:Int}{N ps:kn Str}{k:Nat}{sp:Sp}(F:RC K x qual st f b d)(S:DH N ps (Au st))(len:∀vs H Q E,sp vs H Q E->vs.length=ps.length)(c:∀(a:km) (A:Wf) (outer:kn Env) (s:kj) (H:Hp) (vs:kn V) (Q:VK) (E:XK),Room k (A.deeper (envOfC qual (Au st) s.heap.objs.size f a))->sp vs H Q E-> ∃t,Th (PK MD P w K mg base N qual (Au st) f a A outer s H E).nox (CC st) t/\t {nx:=λ_ e=>Q .non e,rt:=Q} (start N vs) H):De P w K mg base MD (k+1) f b ps sp:=by obtain⟨o,p,kV,g,r,u,a,ct,i,t,rfl,j,l,_⟩:=F.ex;refine jn j l S len λA outer s H vs Q E m n=> ?_;obtain⟨t,h,q⟩:=c a A outer s H vs Q E m n;exact⟨t,h.nox,q⟩
def RC.binds3 {x qual:Str}{st:Stmt}{f:ki}{m:FuncData}{d:Int}{a b c:Str}(F:RC K x qual st f m d)(h:∀(t:ki) (kV e i:km) (j:kf ki) (g ct:km) (u v:km),∃k:kf (Array km)->Sem (kn (Str×km)),bindArgs (PySem.W.fnOf x qual (D2 st) (CC st) (Au st) (.ref t) kV e i j g ct) ⟨[u,v], []⟩=seqItems? (.ref t) >>= k/\∀z,k (some #[z])=pure [(a,u),(b,v),(c,z)]):∃l,Binds K m [a,b,c] [.int d l] :=by
 obtain⟨B,C,kV,e,i,j,g,ct,r,t,rfl,D,E,o,l,n,y,A⟩:=F.ex;refine⟨l,λs p X hl=> ?_⟩;have hl:p.length=2:=by simpa using hl
 match p,hl with
 | [u,v],_=> obtain⟨k,h1,h2⟩:=h t kV e i j g ct u v;exact BindsTo.of_defaults (T:=t) rfl (X _ _ y) A h1 (h2 _)
end
section
variable {X:Cx}{x:Str}{p pos:Pos}{e:ke}{es:kn ke}{t:TA}{k:Nat}{ps:kn Str}{d:Int}{sp:Sp}
def iN (D:Vo X.prog X.w X.K X.mg X.base k x ps d sp)(a:Room k X.A)(b:Gl X x)(ha:PA X (e::es) t)(hs:starEach (e::es) X.env=(false,eval e X.env)::starEach es X.env:=by rfl)(hpl:(backTo pos (starEach es X.env)).any (·.1)=false:=by rfl)(hd:(x==("__debug__" :Str))=false:=by decide):PE X (.Call (.Name x p) (e::es) [] pos) (eT sp [.int d] E0 t):=by obtain⟨f,j,c,g,h,i,G⟩:=D.ex;exact YQ G a b g h i (.cons ⟨c,rfl⟩ .nil) j3 ha (hdb:=hd) (he:=hs) (hpl:=hpl)
end
end L2
namespace PL
open PySem PySem.Spec PyProof.Rows L2
def bM (n:Nat)(F:AF)(d:Int)(r:AA):AE:=λτ Q=>r τ λxs=>(xs ++ [PV.int d]).length=n/\F (xs ++ [.int d]) Q
section
variable {X:Cx}
theorem A3.snoc {K:AAB}{T M:ki->Prop}{H:Hp}:∀{vs:kn V} {xs:kn PV} {v:V} {x:PV},A3 K T M H vs xs->Ck K T M H v x->A3 K T M H (vs ++ [v]) (xs ++ [x])
 | [], [],_,_,_,r=> .cons r .nil
 | _::_,_::_,_,_, .cons h t,r=> .cons h (A3.snoc t r)
def d7 {x:Str}{p pos:Pos}{e:ke}{es:kn ke}{k n:Nat}{ps:kn Str}{d:Int}{F:AF}{r:AA}(D:Vo X.prog X.w X.K X.mg X.base k x ps d (CH X.K n F))(f:Room k X.A)(g:Gl X x)(ha:SA X (e::es) r)(hs:starEach (e::es) X.env=(false,eval e X.env)::starEach es X.env:=by rfl)(hpl:(backTo pos (starEach es X.env)).any (·.1)=false:=by rfl)(hd:(x==("__debug__" :Str))=false:=by decide):SE X (.Call (.Name x p) (e::es) [] pos) (bM n F d r):=by obtain⟨t,i,s⟩:=ha;refine⟨_,iN D f g i hs hpl hd,λB T j τ H Q l b h k=>s B T j τ H _ _ b h λvs xs T1 H1 c o h1=> ?_⟩;exact⟨T1,_,_,l,(b.stp c).va,λa m=>(b.stp c).nt m,o.snoc (.int d),h1.1,h1.2,λv x u y z C q=>k v x u y (c.trans z) C q⟩
end
section
variable {P:gn}{w:fe}{K:AAB}{mg:Str->kf km}{base:cb}
def cB {x qual:Str}{st:Stmt}{f:ki}{i:FuncData}{d:Int}{N ps:kn Str}{k n:Nat}{b:AS}(F:RC K x qual st f i d)(S:DH N ps (Au st))(j:n=ps.length)(l:∀(a:km) (A:Wf) (outer:kn Env) (s:kj) (H:Hp) (E:XK),Room k (A.deeper (envOfC qual (Au st) s.heap.objs.size f a))-> ZA (PK MD P w K mg base N qual (Au st) f a A outer s H E).nox (CC st) b):De P w K mg base MD (k+1) f i ps (CH K n (Ar N.length b)):=by
 refine F.ok S (λvs H Q E h=> ?_) (λa A outer s H vs Q E m h=> ?_)
 .obtain ⟨T,M,xs,o,_,_,r,hl,_⟩:=h;rw[r.length,hl,j]
 .obtain ⟨T,M,xs,o,va,c,r,hl,hF,hQ⟩:=h;obtain⟨t,p,u⟩:=l a A outer s H E m;refine⟨t,p,u ⟨T,H,M⟩ T _ _ H _ _ (VN va c r) hF ⟨λe g σ' τ' _ y q=> ?_,λ_ _ _ _ _ _ q=>q.elim,λ_ _ _ _ _ _ q=>q.elim,λv x e g z B q=>hQ v x e g z B q⟩⟩;exact hQ _ _ e g y.st .non q
end
end PL
namespace L2
open PySem PySem.Spec PyProof.Rows PySem.W
theorem ints_of {P:gn}{w:fe}:∀{vs:kn (B8×km)} {m:kn (Int×Int)} {a:kn km},KV (m.map λp=>((.inl p.1:B8),V.int p.2)) vs->a.length=vs.length->(∀(j:Nat) v,a[j]? =some v->∃k x,vs[j]? =some (k,x)/\(Ay P w).is k v=true)->IntsAre a (m.map (·.1))
 | [], [], [],_,_,_=> .nil
 | [], [],u::a,_,hl,_=>by simp at hl
 | v::vs,m::ms, [],_,hl,_=>by simp at hl
 | v::vs,m::ms,u::a,r,hl,h=>by
   cases r with
   | cons c d=> obtain⟨k,x,f,g⟩:=h 0 u rfl;cases f;obtain⟨b,_⟩:=c;dsimp only at b;subst b;have q:RelV (kV (.inl m.1)) u:=cg g;obtain⟨t,rfl⟩:=q;exact .cons _ t (ints_of d (by simpa using hl) λj v e=>by simpa using h (j+1) v (by simpa using e))
def W1:kn V->Hp->VK->Prop:=λxs H Q=>∃a o es ep,∃m:kn (Int×Int),xs= [.ref a] /\H a=some (.frz o (.dK (m.map λp:Int×Int=>((.inl p.1:B8),V.int p.2))))/\o.data= .dict es ep/\m.length<64/\∀(p:ki) (ns:kn Int),H p=none->ns.Perm (m.map (·.1))->ns.Pairwise (· <= ·)->Q (.ref p) (upd H p (.lst (ns.map V.int)))
section
variable {X:Cx}
def PH {P:gn}{w:fe}{A:Wf}{E:km->kj->Prop}{s:kj}{T:String}{r d:ki}{n:Nat}{j:Nat->km->Prop}{u:cb->Prop}{R:kn km->kj->Prop}(K:KdlSrc P w T r d n j u)(z:A.handled=none)(hok:u s.heap)(B:n<=sizeLine)(h:∀(h':cb) (g:Nat) (a:Array km),s.heap.objs.size<=h'.objs.size->(∀b o,s.heap.get? b=some o->h'.get? b=some o)->ItemsOf j a n->R a.toList {s with heap:=h',toks:=g}):wpAny (model P w) A (collect (.ref r)) R E s:=by
 obtain⟨C,D⟩:=K.there _ hok;unfold collect;refine AAA (wpAny_runValue (AEl entry_proto_collect' ?_));rw[Around.under_plainId PySem.F.plain_proto_collect _];refine AAA (m:=newList []) (AA4 ?_);refine AAC ⟨plainId_quiet AFJ _,AEl entry_list_iadd' ?_⟩;rw[Around.under_plainId AFJ _];have k:(s.heap.push {cls:= .type "list",data:= .seq ([] :kn km).toArray}).get? s.heap.objs.size=some {cls:= .type "list",data:= .seq #[] }:=AAO _ rfl;have l:∀(h':cb) (g:Nat) (a:Array km) (c:Nat),(∀b o,b≠s.heap.objs.size->(s.heap.push {cls:= .type "list",data:= .seq ([] :kn km).toArray}).get? b=some o->h'.get? b=some o)->h'.get? s.heap.objs.size=some {cls:= .type "list",dict:=none,data:= .seq a c,slots:= #[] }->ItemsOf j a n->
  wpAny (model P w) A (load s.heap.objs.size >>= λo=>match o.data with | .seq xs _=>pure xs.toList|_=>unsupported "internal:collect") R E {s with heap:=h',toks:=g}:=λh' g a c p i it=>
  AAA (wpAny_load i (AAC (h h' g a (AC0 (AAF i)) (λb o e=>p b o (AAN (AAF e)) (AAG _ e)) it)))
 refine AB0 (kdl_extend (A:=A) (s:={s with heap:=s.heap.push {cls:= .type "list",data:= .seq ([] :kn km).toArray}}) (R:=λq t=>match q with | .ok (.ret v)=>v= .ref s.heap.objs.size/\wpAny (model P w) A (load s.heap.objs.size >>= λo=>match o.data with | .seq xs _=>pure xs.toList|_=>unsupported "internal:collect") R E t|_=>False)
  K z (K.keep _ _ hok λb _ o e=>AAG _ e) s.heap.objs.size (AAv C) (AAv D) (.ref s.heap.objs.size) 0 k (λh' g a c p i it=>⟨rfl,l h' g a c p i it⟩) B) (λf t x=> ?_) λe t x=>x.elim
 cases f with
 | done f=>
   cases f with
   | ret v=> obtain⟨rfl,y⟩:=x;exact y
   | _=>exact x.elim
 | again c=>
   refine⟨x.1,ACl x.2 λq G y=> ?_⟩;cases q with
   | error e=>exact y.elim
   | ok f=>
     cases f with
     | ret v=> obtain⟨rfl,y⟩:=y;exact y
     | _=>exact y.elim
def V0 (hc:X.calm=true):B3 X (.builtin "sorted") W1:=by
 intro O s R H xs g Q I r h;obtain⟨a,o,es,ep,m,rfl,e,hd,S,q⟩:=h;obtain⟨u,rfl,C⟩:=vals1 r;cases C;have D:Oh H a m.length ep (m.map λp:Int×Int=>((.inl p.1:B8),V.int p.2)):=⟨o,es,e,hd,by rw[AAK]⟩;obtain⟨vs,d,E⟩:=D.at I;have T:vs.length=m.length:=by have:=d.length;rw[AAK] at this;exact this.symm
 obtain⟨U,W,F⟩:=Rj I (.inl ⟨_, .inr ⟨o,e⟩⟩);refine Calls.call_function_entry kind_sorted plain_sorted entry_sorted (args_sorted1 _) ?_;unfold Builtin.«sorted»;refine AAA (m:=checkCount "sorted" 1 1 _) (AAC ?_);refine AAA (PH (A:=X.A.in1) (kdl_dict (knd:=Ay X.prog X.w) (kvs:=vs) (ep:=ep) F) (I.ok.hd hc) E (by rw[ACj];omega) λh' G c l hk x=> ?_);have hl:c.toList.length=vs.length:=by rw[ACB];exact x.1
 have J:IntsAre c.toList (m.map (·.1)):=ints_of (P:=X.prog) (w:=X.w) d hl λj v z=>x.2 j v (by rw[<-Array.getElem?_toList];exact z);refine AAA (wpAny_newList ?_ (by rw[hl,ACj];omega));have f:(h'.push (seqObj "list" c.toList.toArray 0)).get? h'.objs.size=some (seqObj "list" c.toList.toArray 0):=AAO _ rfl;refine AAA (AAg (AA0 slot_list_sort ⟨_,f,rfl⟩ entry_list_sort (list_sort_tree f J (by omega) λout i K y L=>⟨_,rfl, ?_⟩) (args_list_sort _)));refine AAC ⟨_,rfl, ?_⟩;obtain⟨ne,M⟩:=sortedHeap_at (out:=out) f;have hsz:h'.objs.size<(h'.push (seqObj "list" c.toList.toArray 0)).objs.size:=AAF f;have keep:∀b k,s.heap.get? b=some k->(sortedHeap (h'.push (seqObj "list" c.toList.toArray 0)) h'.objs.size c.toList out).get? b=some k:=λb k z=>by have B:=AAF (hk _ _ z);rw[sortedHeap_old (AAN B) (AC8 B hsz),AAG _ (hk _ _ z)]
 have vals:∀{g:kn km} {ns:kn Int},IntsAre g ns->Ax (ns.map V.int) g:=λh=>by
  induction h with
  | nil=>exact .nil
  | cons n t h N=>exact .cons ⟨t,rfl⟩ N
 refine⟨.ref _,_,I.laid (a:=h'.objs.size) (o:= .lst (i.map V.int)) (t':=G) keep l ⟨?_,out.toList,ne,vals K,by rw[M]⟩,rfl,q _ _ (I.hok.fresh l) y L⟩;rw[AAK,y.length_eq,AAK,ACj];omega
end
end L2
namespace PL
open PySem PySem.Spec PyProof.Rows L2
def cE:AF:=λxs Q=>match xs with | [.dk m] =>m.length<64/\∀ns:kn Int,ns.Perm (m.map (·.1))->ns.Pairwise (· <= ·)->Q (.lst (ns.map PV.int))|_=>False
theorem Qb {K:AAB}{T M:ki->Prop}{H:Hp}:∀ns:kn Int,A3 K T M H (ns.map V.int) (ns.map PV.int)
 | [] => .nil
 | n::ns=> .cons (.int n) (Qb ns)
def dz {X:Cx}(hc:X.calm=true):B3 X (.builtin "sorted") W1/\Ee X.K W1 cE:=by
 refine⟨V0 hc,λT M H vs xs Q g va r h k=> ?_⟩;match xs,r,h with
 | [.dk m], .cons (.dk (a:=a) (o:=o) (es:=es) (ep:=ep) hh e) .nil,h=>
   refine⟨a,o,es,ep,m,rfl,hh,e,h.1,λp ns hp b c=> ?_⟩;have l:=DB.lay (o:= .lst (ns.map V.int)) va.tp hp;have d:¬T p:=λz=>by obtain⟨o,e,_⟩:=(va.tp p z).mut;rw[hp] at e;cases e
   have f:¬M p:=λz=>by obtain⟨o,e,_⟩:=va.mu p z;rw[hp] at e;cases e
   exact k _ _ T _ l (.lst Aj d f (Qb ns)) (h.2 ns b c)
end PL
namespace L2
open PySem PySem.Spec PyProof.Rows
def uf (d:ki)(n ep:Nat):It:=
 ⟨λi H=>∃kvs k x,Oh H d n ep kvs/\kvs[i]? =some (k,x),
  λi H v a=>a=H/\∀kvs,Oh H d n ep kvs->∃k,kvs[i]? =some (k,v),
  λi H=>∃kvs,Oh H d n ep kvs/\kvs.length<=i⟩
def aW {P:gn}{w:fe}{K:AAB}{B:ke}{it d:ki}{n ep:Nat}:Je P w K B (uf d n ep) [it] it (λk h=>h.IsValIter it d k n ep) where
 mem:=by simp
 obj:=λk h st p hp=>by
  obtain⟨o,i,hc,hd⟩:=st;have c:p=it:=by simpa using hp
  subst c;exact⟨o,i,λv z=>by rw[hd] at z;cases z⟩
 keep:=λk h h' st C=>st.at λo e=>C it (by simp) o e
 item:=by
  intro X j hw l hc k t s y H E I g st m;subst j hw l;obtain⟨kvs,D,x,b,hx⟩:=m;obtain⟨vs,a,r⟩:=b.at I;have hl:vs.length=n:=by obtain⟨_,_,_,_,e⟩:=b;rw[<-e];exact a.length.symm
  subst hl;obtain⟨u,hu,F⟩:=cj a hx;refine wpAny_pyNext_values_item st r hu λh1 f G=> ?_;refine⟨_,rfl, ?_⟩;obtain⟨o,i,J,hd⟩:=id f;refine X0 (s:={s with heap:=h1}) i J hd (by decide) ?_;have L:Inv X t y H {s with heap:=h1,toks:=s.toks}:=I.turnedL (t':=s.toks) g λp o hp z=>by
   have c:p≠it:=by simpa using hp
   exact G.extBut p o c z
  exact⟨x,H,L,F,⟨rfl,λA h'=>⟨D,by rw[h'.one b];exact hx⟩⟩,f,λp hp=>(g p hp).1⟩
 done:=by
  intro X j hw l hc k t s y H E I g st m;subst j hw l;obtain⟨kvs,b,hx⟩:=m;obtain⟨vs,a,r⟩:=b.at I;have hl:vs.length=n:=by obtain⟨_,_,_,_,e⟩:=b;rw[<-e];exact a.length.symm
  have N:=a.length;subst hl;refine wpAny_pyNext_values_end (I.ok.hd hc) st r (by rw[ADX];omega) λh' M=>⟨rfl, ?_⟩;exact I.turnedL (t':=s.toks) g λp o hp z=>by
   have c:p≠it:=by simpa using hp
   exact M p o c z
 self:=λ_ _ _ _ _ st h=>wpAny_pyIter_valiter st h
section
variable {X:Cx}
def iQ {A e:ke}{t:TE}{apos f:Pos}(he:PE X e t)(hb:attributeBase e "values" X.env (eval e X.env)=eval e X.env)(B:((backTo f (starEach [] X.env)).all (λx=> !x.1)&&(backToKw f (keywordEach [] X.env)).all (λx=>x.1.isSome)&&decide (([] :kn ke).length+([] :kn Keyword).length+(if ([] :kn Keyword).isEmpty then 0 else 1)<30))=true)(hl:(apos.endLine==f.line)=true)(C:backTo f (starEach [] X.env)= []):PI X A (.Call (.Attribute e "values" apos) [] [] f) (λk H R=>t k H λv H1=>∃d n ep kvs,v= .ref d/\Oh H1 d n ep kvs/\R (uf d n ep) H1):=by
 intro D s k H R I h;refine AEi hb B hl AEj AFK PySem.F.type_dict_values (BR (he D s k H _ I h) λu g ⟨x,H1,i,E,d,n,ep,kvs,ex,l,G⟩=> ?_);subst ex;obtain rfl:u=Value.ref d:=E;obtain⟨vs,m,y⟩:=l.at i;have J:vs.length=n:=by obtain⟨_,_,_,_,e⟩:=l;rw[<-e];exact m.length.symm
 obtain⟨o,K,L,S,_⟩:=id l;obtain⟨M,N,O⟩:=Rj i (.inl ⟨kvs, .inr ⟨o,L⟩⟩);have z:g.heap.DictOf (Ay X.prog X.w) d vs:=let ⟨o,es,a,b,c,r⟩:=y;⟨o,es,ep,a,b,c,r⟩;refine⟨M,N, ?_⟩;rw[C];refine ADc rfl (PySem.evalArgs_none ?_);refine ADy AFK z.typeIs PySem.F.entry_dict_values (PySem.F.args_dict_values_1 _) (meets_dict_values (Ay X.prog X.w) d O) ⟨⟨vs,z⟩, ?_⟩;have P:(g.heap.push {cls:= .type "dict_values",data:= .fields #[.ref d] }).DictAt (Ay X.prog X.w) d vs ep:=y.push _;refine wpAny_pyIter_values (s:={g with heap:=g.heap.push {cls:= .type "dict_values",data:= .fields #[.ref d] }}) (knd:=Ay X.prog X.w) (d:=d) ⟨_,AAO _ rfl,rfl,rfl⟩ P ?_;subst J;have j:(g.heap.push {cls:= .type "dict_values",data:= .fields #[.ref d] }).objs.size=g.heap.objs.size+1:=AA5 ..;refine⟨_, [g.heap.objs.size+1],_,_,H1,congrArg Value.ref j,i.kept (t':=g.toks) λb T q=>AAG _ (AAG _ q),aW, ?_,λp hp=> ?_,G⟩
 .have:=AAO (g.heap.push {cls:= .type "dict_values",data:= .fields #[.ref d] }) (o:={cls:= .type "dict_valueiterator",data:= .fields #[Value.ref d,Value.int 0 0,Value.int (vs.length:Int) 0,Value.int (ep:Int) 0] }) rfl;rw[j] at this;exact⟨_,this,rfl,rfl⟩
 .have Q:p=g.heap.objs.size+1:=by simpa using hp
  subst Q;exact i.fpOk (ACv _ _) (i.hok.fresh (ACv _ _))
end
end L2
namespace PL
open PySem PySem.Spec PyProof.Rows L2
def Zo {K:AAB}{T M:ki->Prop}{H:Hp}{d:ki}{o:Obj}{es:Array DictEntry}{ep:Nat}{m:kn (Int×Int)}(va:KO T M H)(h:H d=some (.frz o (.dK (FV m))))(e:o.data= .dict es ep):RD K M (uf d m.length ep) (m.map λp=> .int p.2) T H:=by
 have b:Oh H d m.length ep (FV m):=⟨o,es,h,e,by unfold FV;rw[AAK]⟩;have a:∀{i:Nat} {y:PV},(m.map λp=>PV.int p.2)[i]? =some y->∃p:Int×Int,y= .int p.2/\(FV m)[i]? =some (.inl p.1, .int p.2):=λ{i y} hy=>by rw[AAh] at hy;obtain⟨p,hp,rfl⟩:=ADJ.mp hy;refine⟨p,rfl, ?_⟩;unfold FV;rw[AAh,hp];rfl
 refine⟨λi y hy=> ?_,λi y v f hy c=> ?_,λi hi=>⟨_,b,by unfold FV;simpa using hi⟩⟩
 .obtain ⟨p,_,hp⟩:=a hy;exact⟨_,_,_,b,hp⟩
 .obtain ⟨p,rfl,hp⟩:=a hy;obtain⟨rfl,hu⟩:=c;obtain⟨k,hx⟩:=hu _ b;rw[hp] at hx;cases hx;exact⟨DB.refl va.tp, .int _⟩
section
variable {X:Cx}
def qM (a:AE):AI:=λτ Q=>a τ λx=>match x with | .dk m=>Q (m.map λp=> .int p.2)|_=>False
def i8 {f e:ke}{c:AE}{apos a:Pos}(he:SE X e c)(hb:attributeBase e "values" X.env (eval e X.env)=eval e X.env:=by rfl)(g:((backTo a (starEach [] X.env)).all (λx=> !x.1)&&(backToKw a (keywordEach [] X.env)).all (λx=>x.1.isSome)&&decide (([] :kn ke).length+([] :kn Keyword).length+(if ([] :kn Keyword).isEmpty then 0 else 1)<30))=true:=by rfl)(hl:(apos.endLine==a.line)=true:=by rfl)(i:backTo a (starEach [] X.env)= [] :=by rfl):SI X f (.Call (.Attribute e "values" apos) [] [] a) true (qM c):=by
 obtain⟨t,j,s⟩:=he;refine⟨_,iQ j hb g hl i,λB T l τ H R r n h k=>s B T l τ H _ _ n h λv x T1 H1 o p h1=> ?_⟩;split at h1 <;> first | exact h1.elim|skip
 rename_i m;cases p with
 | dk b e=> exact⟨_,_,_,_,rfl,⟨_,_,b,e,by unfold FV;rw[AAK]⟩,k _ _ T1 H1 o (λM2 w y d va _=>Zo va (by obtain⟨t,u⟩:=d.va.noFrz b;exact d.keep _ _ t u b) e) h1⟩
end
end PL
namespace L2
open PySem PySem.Spec PyProof.Rows
def rm:V->V->Hp->VK->Prop:=λx y H Q=>∃p xs i v,x= .ref p/\y= .int i/\0<=i/\H p=some (.lst xs)/\xs[i.toNat]? =some v/\Q v H
section
variable {X:Cx}
def cH:qE X rm:=by intro g s j H x y k l Q I b c h;obtain⟨p,xs,i,v,rfl,rfl,d,hp,hx,q⟩:=h;cases b;obtain⟨t,rfl⟩:=c;obtain⟨e,n,r,f,m⟩:=I.lst hp;obtain⟨w,ew,a⟩:=r.get hx;have hl:=r.length;have o:=Gk;have u:i.toNat<xs.length:=(AA3.mp hx).1;exact wpAny_getItem_list (x:=w) ⟨_,f,rfl,n,rfl⟩ d (by omega) (by simpa using ew) ⟨v,H,I,a,q⟩
end
end L2
namespace PL
open PySem PySem.Spec PyProof.Rows L2
section
variable {X:Cx}{e:ke}{ta:AE}{pos:Pos}
def jl (i:Nat)(c ta:AE):AS:=λD τ=>MK i τ λxs=>c τ λk=>TK k λk=>0<=k/\k<xs.length/\TK (xs.getD k.toNat .non) λa=>ta τ λy=>TK y λb=>D.nx (τ.set i (some (.own (xs.set k.toNat (.int (a+b))))))
def jL {i:Nat}{x:Str}{ix:ke}{C:AE}{p d:Pos}(hi:SE X ix C)(he:SE X e ta)(hN:X.N[i]? =some x:=by rfl)(hv:jk X.env.scope x:=by first | exact Or.inl rfl|exact Or.inr (Or.inl rfl)|exact Or.inr (Or.inr rfl))(hd:(x==("__debug__" :Str))=false:=by decide)(O:(x==("__classdict__" :Str))=false:=by decide)(ha:∀g j new,augStore ix g j new=(do holding [new,g,j] (setItem g j new);release [new,g,j] [];pure .next):=by intros;rfl):SS X (.AugAssign (.Subscript (.Name x p) ix d) .Add e pos) (jl i C ta):=by
 obtain⟨t,P,s⟩:=hi;obtain⟨t',n,Q⟩:=he;refine⟨_,iY (N8 hN hv hd O) P cH n mC KD ha,λB T E τ H D AD l h R=> ?_⟩;obtain⟨xs,e,h⟩:=RI h;obtain⟨q,vs,F,hp,G,b0,I,nb⟩:=l.own i xs e;refine⟨.ref q,F,s B T E τ H _ _ l h λw k T1 H1 f S h1=> ?_⟩;obtain⟨k,rfl,h1⟩:=Gq h1;obtain⟨k0,k1,h1⟩:=h1;obtain⟨a,J,h1⟩:=Gq h1;cases S.toI;have c:=l.stp f;have K:=f.keep _ _ I hp;have L:=G.stp f l.va;have o:k.toNat<xs.length:=by omega
 have U:k.toNat<vs.length:=by rw[G.length];exact o
 have W:xs[k.toNat]? =some (.int a):=by rw[ACn,AAY o,AD3] at J;rw[AAY o,J]
 obtain⟨u,Y,Z⟩:=L.get W;cases Z.toI;refine⟨q,vs,k,_,rfl,rfl,k0,K,Y,Q B T1 E τ H1 _ _ c h1 λw2 y T2 H2 m r4 h2=> ?_⟩;obtain⟨b,rfl,h2⟩:=Gq h2;cases r4.toI;have M:=m.keep _ _ (λz=>by
  rcases f.new q z with z|z
  .exact I z
  .rw [hp] at z;cases z) K
 have r:=c.stp m;obtain⟨v,A⟩:=r.write (i:=i) (xs:=xs) e F M (A3.set (.int (a+b)) k.toNat (L.stp m c.va));refine⟨a,b,rfl,rfl,q,vs,k,k.toNat,rfl,rfl,M, ?_,R.nx T2 _ _ _ ((f.trans m).prog.trans A) v h2⟩;unfold Rl;rw[AAE k0,AAE (by omega)]
end
def xg (a b:AE):AE:=λτ Q=>a τ λx=>iB x λm=>b τ λy=>TK y λk=>∃v,m.lookup k=some v/\Q (.int v)
theorem VU {k v:Int}:∀{m:kn (Int×Int)},m.lookup k=some v->KM (FV m) (.inl k:B8)=some (.int v)
 | [],h=>by cases h
 | p::m,h=>by
   by_cases e:p.1=k
   .subst e;simp[List.lookup] at h;subst h;exact HF (p:=((Sum.inl p.1:B8),V.int p.2)) rfl
   .have a:(k==p.1)=false:=by simpa using λz=>e z.symm
    obtain⟨b,c⟩:=p;simp only[List.lookup,a] at h;refine(HE (p:=((Sum.inl b:B8),V.int c)) (r:=FV m) (k:=(Sum.inl k:B8)) λz=>e ?_).trans (VU h);cases z;rfl
section
variable {X:Cx}
def sP {o i:ke}{e f:AE}{pos:Pos}{k:Nat}(n:Room k X.A)(p:SE X o e)(hi:SE X i f)(hs:kP i):SE X (.Subscript o i pos) (xg e f):=by
 obtain⟨t,r,s⟩:=p;obtain⟨t',b,u⟩:=hi;refine⟨_,iL (wG n) r b hs,λB T g τ H Q G c h k=>s B T g τ H _ _ c h λv x T1 H1 d w h1=> ?_⟩;cases x <;> first | exact h1.elim|skip
 rename_i m;cases w;rename_i a z es ep I j;refine u B T1 g τ H1 _ _ (c.stp d) h1 λJ y C D l E h2=> ?_;obtain⟨i,rfl,v,hv,h2⟩:=Gq h2;cases E.toI;obtain⟨F,_⟩:=(c.stp d).va.noFrz j;exact⟨a, .int v,rfl, .inl ⟨FV m, .inl i, .inr ⟨z,l.keep _ _ F j⟩,rfl,(VU hv).symm⟩,k _ _ C D (d.trans l) (.int v) h2⟩
end
def Ex (x:Str):Prop:=PyData.strOk x=true
def Jz {x:Str}:Ex x↔∀c∈x.cps.toList,c<0x110000:=by unfold Ex PyData.strOk;rw[Array.all_eq_true'];simp
def Wl {l:kn Nat}(h:∀c∈l,c<0x110000):Ex ⟨l.toArray⟩:=Jz.mpr h
def hV {x y:Str}(hx:Ex x)(hy:Ex y):Ex (x++y):=by
 rw[Jz] at *;intro c hc;have:c∈x.cps.toList++y.cps.toList:=by have e:(x++y).cps=x.cps++y.cps:=rfl;rw[e,Array.toList_append] at hc;exact hc
 rcases AAL.mp this with h|h
 .exact hx c h
 .exact hy c h
def gJ (x y:Str):(x++y).length=x.length+y.length:=by show (x.cps++y.cps).size=_;rw[Array.size_append];rfl
theorem Nd (a:Array Nat):∀(n:Nat) (b:Array Nat),((List.replicate n a).foldl (· ++ ·) b).toList=b.toList++(List.replicate n a.toList).flatten
 | 0,b=>by simp
 | n+1,b=>by rw[AEd,ABw,Nd a n,AEd,List.flatten_cons,Array.toList_append,AD4]
def hZ {x:Str}{n:Int}(hx:Ex x):Ex (Txt.mul x n):=by
 unfold Txt.mul;split
 .exact Wl (l:= []) (by simp)
 .split
  .exact hx
  .rw [Jz] at *;intro c hc;rw[Nd] at hc;rcases AAL.mp hc with h|h
   .cases h
   .obtain ⟨l,hl,h⟩:=List.mem_flatten.mp h;rw[(List.mem_replicate.mp hl).2] at h;exact hx c h
def gy {x:Str}{n:Int}(a:0<=n)(h1:n<=10)(hx:x.length<=10):(Txt.mul x n).length<=100:=by
 unfold Txt.mul;split
 .exact (by decide:(0:Nat)<=100)
 .split
  .omega
  .show Array.size _<=100;rw[<-ACB,Nd];simp only[Array.toList_empty,ABR,List.length_flatten,List.map_replicate,List.sum_replicate_nat,ACB];have:x.cps.size<=10:=hx;have:=ABS (show n.toNat<=10 by omega) this;omega
def hX {x:Str}{l u:kf Int}(hx:Ex x):Ex (Txt.slice x l u):=by
 unfold Txt.slice;split
 .exact hx
 .refine Wl λc hc=> ?_;obtain⟨i,_,e⟩:=AEH.mp hc;exact Jz.mp hx c (by
   have:=Array.mem_of_getElem? e;simpa using this)
section
variable {X:Cx}{a b e:ke}{ta tb:AE}{pos:Pos}
def dg:R2:=λx y H Q=>∃(s:Str) (k:Int),x= .str s/\y= .int k/\0<=k/\k<=10/\s.length<=10/\Q (.str (Txt.mul s k)) H
def iG:D1 X (binaryOp .Mult) dg:=by
 intro d s f H u v g i Q I c rv h;obtain⟨x,k,rfl,rfl,j,h1,hx,q⟩:=h;obtain⟨t,rfl⟩:=c;obtain⟨t',rfl⟩:=rv;refine SB.mul ⟨?_,λh2 _=> ?_,λ_ _=> ?_⟩ λt' l=>⟨.str (Txt.mul x k),H,I.tok _,⟨_,rfl⟩,q⟩
 .rw [AAW (by omega),AAW (by omega)];rfl
 .have:(2^63-1)/(10:Int)<=(2^63-1)/k:=by
   refine Int.le_ediv_of_mul_le (by omega) ?_;have:(2^63-1)/(10:Int)*k<=(2^63-1)/(10:Int)*10:=Int.mul_le_mul_of_nonneg_left h1 (by decide);have:(2^63-1)/(10:Int)*10<=2^63-1:=by decide
   omega
  have:(10:Int)<(2^63-1)/(10:Int):=by decide
  omega
 .have:=ABS hx (show k.toNat<=10 by omega);unfold Builtin.Str.tooLong;simp;exact AAU this (ABE rfl)
def UE:Hl:=λx y Q=>match x,y with | .str s, .int k=>(0<=k/\k<=10/\s.length<=10/\Ex s)/\∀c,Ex c->c.length<=100->Q (.str c)|_,_=>False
def Yl:D1 X (binaryOp .Mult) dg/\B9 X.K dg UE:=by
 refine⟨iG,λT M H u v x y Q d va c rv h k=> ?_⟩;unfold UE at h;split at h <;> first | exact h.elim|skip
 rename_i s j;cases c;cases rv;exact⟨s,j,rfl,rfl,h.1.1,h.1.2.1,h.1.2.2.1,k _ _ T H (.refl va.tp) (.str _) (h.2 _ (hZ h.1.2.2.2) (gy h.1.1 h.1.2.1 h.1.2.2.1))⟩
def de:R2:=λx y H Q=>∃(s t:Str),x= .str s/\y= .str t/\s.length+t.length<=10000/\Q (.str (s++t)) H
def iD:D1 X (binaryOp .Add) de:=by intro d s f H u v g i Q I c rv h;obtain⟨x,y,rfl,rfl,h1,q⟩:=h;obtain⟨t,rfl⟩:=c;obtain⟨t',rfl⟩:=rv;exact SB.add (λt' j=>⟨.str (x++y),H,I.tok _,⟨_,rfl⟩,q⟩) (AAU h1 (ABE rfl))
def UD:Hl:=λx y Q=>match x,y with | .str s, .str t=>(s.length+t.length<=10000/\Ex s/\Ex t)/\∀c,Ex c->c.length=s.length+t.length->Q (.str c)|_,_=>False
def Yk:D1 X (binaryOp .Add) de/\B9 X.K de UD:=by
 refine⟨iD,λT M H u v x y Q d va c rv h k=> ?_⟩;unfold UD at h;split at h <;> first | exact h.elim|skip
 rename_i s t;cases c;cases rv;exact⟨s,t,rfl,rfl,h.1.1,k _ _ T H (.refl va.tp) (.str _) (h.2 _ (hV h.1.2.1 h.1.2.2) (gJ s t))⟩
def b6:Hl:=λx y Q=>match x,y with | .str s, .int i=>(0<=i/\i<s.length/\s.length<=1000/\Ex s)/\∀c,Ex c->c.length=1->Q (.str c)|_,_=>False
def d8 (ha:SE X a ta)(hb:SE X b tb)(hs:Ti b):SE X (.Subscript a b pos) (AW b6 ta tb):=by
 obtain⟨t,p,s⟩:=ha;obtain⟨t',d,f⟩:=hb;refine⟨_,U2 p d hs,OT (λT M H u v x y Q n va g rv h k=> ?_) s f⟩;unfold b6 at h;split at h <;> first | exact h.elim|skip
 rename_i z i;cases g;cases rv;obtain⟨⟨j,h1,h2,h3⟩,m⟩:=h;have hk:i.toNat<z.cps.size:=by have:z.length=z.cps.size:=rfl;omega
 refine⟨z,i,z.cps[i.toNat],rfl,rfl,j,by omega,h1,Array.getElem?_eq_getElem hk,k _ _ T H (.refl va.tp) (.str _) (m _ ?_ rfl)⟩;exact Wl (l:= [z.cps[i.toNat]]) λc hc=>by rw[AAa.mp hc];exact Jz.mp h3 _ (by simp)
def vh:V->kf Int->kf Int->Hp->VK->Prop:=λx lo hi H Q=>∃s:Str,x= .str s/\s.length<=10000/\Q (.str (Txt.slice s lo hi)) H
def oT:gB X vh:=by
 intro p s r H x v d f lo hi sl Q I g hs m c h;obtain⟨z,rfl,n,q⟩:=h;obtain⟨t,rfl⟩:=g;have e:∃l u:kf (Int×Tok),d=partValue l/\f=partValue u/\l.map (·.1)=lo/\u.map (·.1)=hi:=by
  cases m with
  | none=>
    cases c with
    | none=>exact⟨none,none,rfl,rfl,rfl,rfl⟩
    | int j w=>exact⟨none,some (j,w),rfl,rfl,rfl,rfl⟩
  | int i w=>
    cases c with
    | none=>exact⟨some (i,w),none,rfl,rfl,rfl,rfl⟩
    | int j o=>exact⟨some (i,w),some (j,o),rfl,rfl,rfl,rfl⟩
 obtain⟨l,u,rfl,rfl,rfl,rfl⟩:=e;refine⟨"str",_,F.slot_str_getitem.lookup,typeIs_str _ _ _,wpAny_getItem_str_slice (l:=l) (u:=u) (st:=none) hs rfl ?_⟩;exact post_val_or_str ⟨AAU (Txt.slice_le z _ _) (AAU n (ABE rfl)),λt' k=>⟨.str _,H,I.tok _,⟨_,rfl⟩,q⟩⟩
def gP (x:PV)(lo hi:kf Int)(Q:PV->Prop):Prop:=match x with | .str s=>(s.length<=10000/\Ex s)/\∀c,Ex c->c.length<=s.length->Q (.str c)|_=>False
def gF (ta:AE)(l h:AO):AE:=λτ Q=>ta τ λx=>l τ λlo=>h τ λhi=>gP x lo hi Q
def d9 {lo hi:kf ke}{o:Pos}{l h:AO}(he:SE X e ta)(hl:SO X lo l)(r:SO X hi h):SE X (.Subscript e (.Slice lo hi none o) pos) (gF ta l h):=by
 obtain⟨t,p,s⟩:=he;obtain⟨E,u,f⟩:=hl;obtain⟨F,g,i⟩:=r;refine⟨_,U3 oT p u g,λB T j τ H Q G c h k=>s B T j τ H _ _ c h λv x T1 H1 d w h1=> ?_⟩;refine f B T1 j τ H1 _ _ (c.stp d) h1 λlo y A m h2=> ?_;refine i B y j τ A _ _ ((c.stp d).stp m) h2 λhi T3 C n h3=> ?_;have D:=((c.stp d).stp m).stp n;unfold gP at h3;split at h3 <;> first | exact h3.elim|skip
 rename_i z;cases w;exact⟨z,rfl,h3.1.1,k _ _ T3 C ((d.trans m).trans n) (.str _) (h3.2 _ (hX h3.1.2) (Txt.slice_le z _ _))⟩
def Xv:AF:=λxs Q=>match xs with | [.str s] =>s.length<=10000/\Q (.int s.length)|_=>False
def iy:B3 X (.builtin "len") (λxs H Q=>∃z,xs= [.str z] /\z.length<=sizeLine/\Q (.int z.length) H)/\Ee X.K (λxs H Q=>∃z,xs= [.str z] /\z.length<=sizeLine/\Q (.int z.length) H) Xv:=by
 refine⟨RJ,λT M H c xs Q d va r h k=> ?_⟩;unfold Xv at h;split at h <;> first | exact h.elim|skip
 rename_i z;cases r with
 | cons r t=> cases t;cases r;exact⟨z,rfl,AAU h.1 (ABE rfl),k _ _ T H (.refl va.tp) (.int _) h.2⟩
end
end PL
namespace HT
open PySem PySem.Spec PyProof.Rows
section
variable {prog:gn}{w:fe}{A:Wf}{E:km->kj->Prop}{s:kj}
def KF {sl:ki}{c:Tok}{n:Nat}{Q:Int×Int×Nat->kj->Prop}(hs:s.heap.IsSliceOf sl .none .none (.int (-1) c))(h:Q ((n:Int)-1, -1,n) s):wpAny (model prog w) A (Builtin.Slice.sliceApplied (.ref sl) (pure (n:Int))) Q E s:=by
 obtain⟨os,a,f,b⟩:=id hs;unfold Builtin.Slice.sliceApplied Builtin.Slice.sliceFields;refine AAA (AAA (AAR a b (x:= .none) rfl (AAA (AAR a b (x:= .none) rfl (AAA (AAR a b (x:= .int (-1) c) rfl (AAC ?_)))))));refine AAA (slicePart_int ?_);show wpAny _ _ (if ((-1:Int)==0)=true then _ else _) _ _ s;rw[AAD (by decide)];refine AAA (ADa (AAA (ADa (AAA (AAC ?_)))));show wpAny _ _ (match Builtin.Slice.sliceAdjust none none (-1) (n:Int) with | (lo,hi)=>pure (lo,(-1:Int),Builtin.Slice.slicePlaces lo hi (-1))) _ _ s;have e:Builtin.Slice.sliceAdjust none none (-1) (n:Int)=((n:Int)-1, -1):=by unfold Builtin.Slice.sliceAdjust;rfl
 rw[e];show wpAny _ _ (pure ((n:Int)-1,(-1:Int),Builtin.Slice.slicePlaces ((n:Int)-1) (-1) (-1))) _ _ s;have d:Builtin.Slice.slicePlaces ((n:Int)-1) (-1) (-1)=n:=by unfold Builtin.Slice.slicePlaces;simp;omega
 rw[d];exact AAC h
def Vx (n:Nat):sliceRange ((n:Int)-1) (-1) (-1)=(List.range n).map λk=>n-1-k:=by
 unfold sliceRange;rw[AAD (by decide)];by_cases h:n=0
 .rw [AAD (by omega),h];rfl
 .rw [AAE (by omega)];have:(((n:Int)-1 - -1 - -1-1)/(- -1))=(n:Int):=by rw[show (- -1:Int)=1 by decide,AEP];omega
  rw[this];show List.map (λk:Nat=>((n:Int)-1 + -1*(k:Int)).toNat) (List.range n)=_;apply AB2;intro k hk;have:=AAu.mp hk;omega
def ZG (a:kn km):((List.range a.toArray.size).filterMap λ(k:Nat)=>a.toArray[(((a.toArray.size:Nat):Int)-1+(k:Int) * -1).toNat]?).toArray=a.reverse.toArray:=by
 rw[<-PL.pick_back a,AAP];have b:slicePick a.toArray none none (some (-1))=((sliceRange ((a.length:Int)-1) (-1) (-1)).filterMap (a.toArray[·]?)).toArray:=by unfold slicePick sliceBounds;simp
 rw[b,Vx,AEQ];congr 2
 funext k
 show a.toArray[((a.length:Int)-1+(k:Int) * -1).toNat]? =a.toArray[a.length-1-k]?;congr 1;omega
def getItem_tuple_back {t sl:ki}{a:kn km}{d:Tok}{Q:km->kj->Prop}(b:IsTup s.heap t a.toArray)(hs:s.heap.IsSliceOf sl .none .none (.int (-1) d))(h:Q (.ref s.heap.objs.size) {s with heap:=s.heap.push {cls:= .type "tuple",data:= .seq a.reverse.toArray}})(hsz:a.length<=sizeLine):wpAny (model prog w) A (getItem (.ref t) (.ref sl)) Q E s:=by
 have c:sizeOk (.seq a.reverse.toArray):=by show a.reverse.toArray.size<=sizeLine;rw[AAP,ADI];exact hsz
 obtain⟨os,e,f,j⟩:=id hs;have g:s.TypeIs (.ref sl) "slice" :=⟨os,e,f⟩;unfold getItem;try with_reducible refine AAg ?_
 first | refine AAA (AAC ?_)|skip
 refine AAA (AER b.typeIs (by decide) ?_);refine AAA (ABu (name:=Str.ofString "__getitem__") b.typeIs ABv
  (AA0 ABv b.typeIs AES ?_ (args_tuple_getitem _ _)))
 show wpAny _ _ (Builtin.Tuple.tupleItemsOf (.ref t) >>= _) _ _ s;refine AAA (tupleItemsOf_ b ?_);refine AAA (ADb g ?_);rw[AAE (by decide)];refine AAA (KF hs ?_);have i:¬(((((a.toArray.size:Nat):Int)-1)==0&&(-1:Int)==1&&a.toArray.size==a.toArray.size)=true):=by intro q;rw[ABD,ABD] at q;exact absurd q.1.2 (by decide)
 show wpAny _ _ (if ((((a.toArray.size:Nat):Int)-1)==0&&(-1:Int)==1&&a.toArray.size==a.toArray.size)=true then _ else _) _ _ s;rw[AAD i,ZG];first
  | exact AAA (m:=Builtin.Tuple.tupleExact _) (AA4 (AAC ⟨_,rfl,AAC h⟩) c)
  | exact AAA (m:=Builtin.Tuple.tupleExact _) (AA4 (AAA (AAC (AAC ⟨_,rfl,AAC h⟩))) c)
  | exact AAA (AAA (m:=Builtin.Tuple.tupleExact _) (AA4 (AAC (AAC ⟨_,rfl,AAC h⟩)) c))
  | exact AAA (AAA (m:=Builtin.Tuple.tupleExact _) (AA4 (AAC ⟨_,rfl,AAC h⟩) c))
end
end HT
namespace PL
open PySem PySem.Spec PyProof.Rows L2
section
variable {X:Cx}
def tH (K:AAB)(b:TE):TE:=λc H Q=>b c H λx H1=>∃a xs,x= .ref a/\Kx K H1 a xs/\∀p,H1 p=none->Q (.ref p) (upd H1 p (.tup xs.reverse))
def iO {e:ke}{i:TE}{l m n pos:Pos}{j}(he:PE X e i):PE X (.Subscript e (.Slice none none (some (.UnaryOp .USub (.Constant (.int 1) j m) n)) l) pos) (tH X.K i):=by intro d s f H Q I h;refine Subscript_ (BR (he d s f H _ I h) λv p ⟨x,H1,t,u,w⟩=> ?_);obtain⟨a,xs,rfl,hx,q⟩:=w;cases u;refine wpAny_Slice ?_;rw[evalPart_none];refine AAC ?_;refine AAC ?_;rw[evalPart_some];refine BR (j4 (X:=X) fG BL d p f H1 (λv z=>v= .int (-1)/\z=H1) t ⟨1,rfl,rfl,rfl⟩) λvs c ⟨y,A,B,C,D,E⟩=> ?_;subst D E;obtain⟨F,rfl⟩:=C;have g:Inv X d f A {c with heap:=c.heap.push {cls:= .type "slice",data:= .fields #[.none, .none, .int (-1) F] }}:=B.kept (t':=c.toks) λb G q=>AAG _ q;obtain⟨J,r,k,L⟩:=g.tuple hx;have M:=r.length;refine tail_any (ops:= [.ref a, .ref c.heap.objs.size]) (T:="tuple") k.typeIs slot_tuple_getitem.lookup ?_ (by with_unfolding_all rfl);refine HT.getItem_tuple_back k (Heap.IsSliceOf.new ..) ?_ (by omega);refine⟨.ref _,_,g.laid (t':=c.toks) (o:= .tup xs.reverse) (λb G q=>AAG _ q) (AAJ _) ?_,rfl,q _ (g.hok.fresh (AAJ _))⟩;exact⟨by rw[ADI];exact L,_,r.reverse,IsTup.new _ _⟩
def bQ (a:AE):AE:=λτ Q=>a τ λx=>match x with | .tup xs=>Q (.tup xs.reverse)|_=>False
def i4 {e:ke}{c:AE}{g i l pos:Pos}{j}(he:SE X e c):SE X (.Subscript e (.Slice none none (some (.UnaryOp .USub (.Constant (.int 1) j i) l)) g) pos) (bQ c):=by
 obtain⟨t,p,s⟩:=he;refine⟨_,iO p,λB T m τ H Q y d h k=>s B T m τ H _ _ d h λv x T1 H1 f n h1=> ?_⟩;split at h1 <;> first | exact h1.elim|skip
 obtain⟨a,vs,rfl,r,u⟩:=Dp n;refine⟨a,vs,rfl,r,λq w=> ?_⟩;have b:=d.stp f;have st:=DB.lay (o:= .tup vs.reverse) b.tp w;exact k _ _ T1 _ (f.trans st) (.tup (.inl Aj) (u.reverse.stp st b.va)) h1
end
end PL
namespace PL
open PySem PySem.Spec PyProof.Rows L2
section
variable {X:Cx}{a b c d e:ke}{ta tb tc td:AE}{pos:Pos}
def Bo (ha:SE X a ta)(h:starEach [a] X.env=(false,eval a X.env)::starEach [] X.env:=by rfl):SA X [a] (AB ta AM):=Av ha FE h
def Al (ha:SE X a ta)(hb:SE X b tb)(h:starEach [a,b] X.env=(false,eval a X.env)::starEach [b] X.env:=by rfl)(h2:starEach [b] X.env=(false,eval b X.env)::starEach [] X.env:=by rfl):SA X [a,b] (AB ta (AB tb AM)):=Av ha (Bo hb h2) h
def CW (ha:SE X a ta)(hb:SE X b tb)(hc:SE X c tc)(h:starEach [a,b,c] X.env=(false,eval a X.env)::starEach [b,c] X.env:=by rfl)(h2:starEach [b,c] X.env=(false,eval b X.env)::starEach [c] X.env:=by rfl)(h3:starEach [c] X.env=(false,eval c X.env)::starEach [] X.env:=by rfl):SA X [a,b,c] (AB ta (AB tb (AB tc AM))):=Av ha (Al hb hc h2 h3) h
def AU (ha:SE X a ta)(hb:SE X b tb)(hs:RF b:=by exact λ_ _=>rfl):SE X (.Subscript a b pos) (AW Ah ta tb):=sQ sU ha hb hs
def En {op:CmpOp}{r:R2}{f:Hl}(g:D1 X (compareOp op) r/\B9 X.K r f)(ha:SE X a ta)(hb:SE X b tb)(h:behindInMarks op b=false:=by exact CF _):Vp X (.Compare a [op] [b] pos) (A6 (AW f ta tb)):=oY g ha hb h
def Ca (i:Nat){x:Str}{pos':Pos}(hN:X.N.Nodup)(he:SE X e ta)(hi:X.N[i]? =some x:=by rfl)(hx:Loc X.env.scope x:=by exact Or.inl rfl)(hs:swapsWith e (some (.Name x pos')) pos.line X.env=pure false:=by rfl)(f:X.fn x=true\/X.env.scope.names.lookup x=some .local:=by first | exact .inl rfl|exact .inr rfl|assumption):SS X (.Assign [.Name x pos'] e pos) (Ao ta (An i)):=Oa hN hi hx he hs f
def CU (i:Nat){x:Str}(hN:X.N.Nodup)(hi:X.N[i]? =some x:=by rfl)(hx:Loc X.env.scope x:=by exact Or.inl rfl)(f:X.fn x=true\/X.env.scope.names.lookup x=some .local:=by first | exact .inl rfl|exact .inr rfl|assumption):SG X (.Name x pos) (An i):=Ya hN hi hx f
def On (i:Nat){own:Nat}{x:Str}(hN:X.N.Nodup)(hi:X.N[i]? =some x:=by rfl)(hx:Loc X.env.scope x:=by exact Or.inl rfl)(hk:i<own:=by decide)(f:X.fn x=true\/X.env.scope.names.lookup x=some .local:=by first | exact .inl rfl|exact .inr rfl|assumption):SK own X (.Name x pos) (An i):=jG hN hi hx hk f
end
def map_pair {a b c:Type}{o:kf a}{f:a->b}{g:a->c}{x:b}{y:c}(h1:o.map f=some x)(h2:o.map g=some y):o.map (λs=>(f s,g s))=some (x,y):=by
 cases o with
 | none=>cases h1
 | some s=>cases h1;cases h2;rfl
def map5 {a A B C D E:Type}{o:kf a}{F:a->A×B×C×D×E}{X:A×B×C×D×E}(h1:o.map (λs=>(F s).1)=some X.1)(h2:o.map (λs=>(F s).2.1)=some X.2.1)(h3:o.map (λs=>(F s).2.2.1)=some X.2.2.1)(b:o.map (λs=>(F s).2.2.2.1)=some X.2.2.2.1)(c:o.map (λs=>(F s).2.2.2.2)=some X.2.2.2.2):o.map F=some X:=by
 cases o with
 | none=>cases h1
 | some s=>exact congrArg some (AC5 (AAn h1) (AC5 (AAn h2) (AC5 (AAn h3) (AC5 (AAn b) (AAn c)))))
def Bb {P:gn}{w:fe}{K:AAB}{mg:Str->kf km}{base:cb}{k a:Nat}{x:Str}{ps:kn Str}{sp:Sp}(H:Has P w K mg base k x ps sp)(h:k<=a:=by decide):Has P w K mg base a x ps sp:=H.mono h
end PL
open PySem L2 PL PyProof.Rows
local macro_rules | `(tactic| decreasing_trivial_pre_omega)=> `(tactic| first | assumption|omega|((apply Bd.mono);(focus (repeat' (first | assumption|exact F6.m (by assumption)|exact F6.x (by assumption)|exact F6.y (by assumption)|exact F6.z (by assumption)|exact qN|exact bd1|with_reducible apply Bd.add|with_reducible apply Bd.sub|with_reducible apply Bd.mul|with_reducible apply Bd.neg|with_reducible apply Bd.mx|with_reducible apply Bd.mn)));first | omega|decide)|decide|(simp only [List.length_map,List.length_append,List.length_cons,List.length_nil,List.length_take,List.length_drop,List.length_zip,List.length_reverse];omega)|(show _<=16777216;simp only [List.length_map,List.length_append,List.length_cons,List.length_nil,List.length_take,List.length_drop,List.length_zip,List.length_reverse];omega)|(show _<16777216;simp only [List.length_map,List.length_append,List.length_cons,List.length_nil,List.length_take,List.length_drop,List.length_zip,List.length_reverse];omega)|(refine And.intro ?_ ?_ <;> decreasing_trivial_pre_omega)|exact rfl)
local macro_rules | `(tactic| array_mem_dec)=> `(tactic| first
 | refine Wp.go ?_
 | ((refine ZC.go ?_ ?_);focus (first | exact True.intro|decreasing_trivial_pre_omega))
 | ((with_reducible apply And.intro);focus decreasing_trivial_pre_omega)
 | ((with_reducible apply n9);focus decide)
 | ((with_reducible apply n8);focus decide)
 | ((with_reducible apply s_ifnT);focus decide)
 | ((with_reducible apply s_ifnF);focus decide)
 | refine ur.go (λ_=> ?_) (λ_=> ?_)
 | ((with_reducible apply oA);focus assumption)
 | ((with_reducible apply j9);focus exact rfl)
 | ((with_reducible apply sM);(focus (first | exact .inl rfl|exact .inr (.inl rfl)|exact .inr (.inr (.inl rfl))|exact .inr (.inr (.inr rfl))));(focus exact rfl))
 | ((with_reducible apply sJ);focus exact rfl)
 | ((with_reducible apply sI);focus exact rfl)
 | intro _
 | with_reducible rfl)
local macro_rules | `(tactic| array_get_dec)=> `(tactic| first | array_mem_dec|refine xf.go ?_|fail)
local macro_rules | `(tactic| ac_rfl)=> `(tactic| repeat' array_mem_dec)
namespace PL
open PySem L2 PyProof.Rows
abbrev XY:AS:=
 (As (Ak (AB (aV 0) (AB (aC (.int 1)) AM))))
def HH:AF:=Ar 1 XY
def aJ {a:PV}{Q:PV->Prop}(h:XY ⟨λ_=>Q .non,Q,λ_=>False,λ_=>False⟩ [some (.val a)]):HH [a] Q:=h
instance{k:Int}{Q:PV->Prop}:Wp (HH [.int k] Q) (Q (fr (k:Rat))):=⟨λh=>by
 apply aJ;repeat' array_get_dec
 exact h⟩
def bH.open {n B:Nat}{cs:kn C4}(p:bH n B cs):∃a r l,cs=a::r/\r≠ [] /\(a::r).getLast?=some l/\a.1<l.1:=by
 obtain⟨c,d,e,b⟩:=p;match cs,c,b with
 | a::b0::r,_,b=>exact⟨a,b0::r,_,rfl,by simp,AEn (by simp),(AA9.mp b).1 _ (AEo (Zt (AEn (by simp))))⟩
abbrev Mx:AS:=
 (As (Ak (AB (PC Gg (AW Ah (aV 0) (aC (.int 0)))) (AB (AW Ah (aV 0) (aC (.int 1))) AM))))
def Cg:AF:=Ar 1 Mx
def Si {a:PV}{Q:PV->Prop}(h:Mx ⟨λ_=>Q .non,Q,λ_=>False,λ_=>False⟩ [some (.val a)]):Cg [a] Q:=h
abbrev Py:AS:=
 (As (pM (A6 (AW Lh (aV 1) (aC (.int 2)))) (AW Ah (aV 0) (aC (.int 1))) (AW Ah (aV 0) (aC (.int 0)))))
def C0:AF:=Ar 2 Py
def VF {a b:PV}{Q:PV->Prop}(h:Py ⟨λ_=>Q .non,Q,λ_=>False,λ_=>False⟩ [some (.val a),some (.val b)]):C0 [a,b] Q:=h
abbrev O2:AS:=
 (Ae (Ao (AN 2 E5 (AB (AN 2 C0 (AB (AW Ah (aV 0) (aC (.int 1))) (AB (aV 4) AM))) (AB (AN 2 C0 (AB (AW Ah (aV 1) (aC (.int 1))) (AB (aV 4) AM))) AM))) (An 5))
   (C3 3 FA (AB (AN 2 E5 (AB (AN 2 C0 (AB (aV 2) (AB (aV 4) AM))) (AB (aV 5) AM))) AM)))
abbrev O3:AS:=
 (Ae (Df (Jf (AB (aC (.int 3)) AM)) (An 4) O2)
   (As (aV 3)))
abbrev M8:AS:=
 (Ae (GK (EA AM) 3)
   O3)
def Ec:AF:=Ar 6 M8
def Sm {a b c:PV}{Q:PV->Prop}(h:M8 ⟨λ_=>Q .non,Q,λ_=>False,λ_=>False⟩ [some (.val a),some (.val b),some (.val c),none,none,none]):Ec [a,b,c] Q:=h
def Yx (b:T3)(v:PV):Prop:=v=vq b\/v= .lst [fr b.1,fr b.2.1,fr b.2.2]
def Kv (cs:kn C4)(b:T3)(v:PV):Prop:=∃p w,Ld cs p/\Yx b w/\(v= .tup [p,w] \/v= .lst [p,w])
def Yv (d:Rat×Rat)(v:PV):Prop:=v= .tup [fr d.1,fr d.2] \/v= .lst [fr d.1,fr d.2]
def mf (r:Rat):PV.tup [.int (-r.num), .int r.den] =fr (-r):=by unfold fr;rw[Rat.neg_num,Rat.neg_den]
def Gm {r:Rat}{Q:PV->Prop}(q:Q (fr (-r))):Cg [fr r] Q:=by
 apply Si;repeat' array_get_dec
 rw[mf];exact q
def c0 {x:PV}{c:C4}{R:PV->Prop}(hx:x=cor c\/x=corL c)(h:R (fr c.1)):Ah x (.int 0) R:=by rcases hx with rfl|rfl <;> exact h
def f0 {cs:kn C4}{b:T3}{v:PV}{R:PV->Prop}(hv:Kv cs b v)(h:∀p,Ld cs p->R p):Ah v (.int 0) R:=by obtain⟨p,w,hp,hw,hv⟩:=hv;rcases hv with rfl|rfl <;> exact h p hp
def f1 {cs:kn C4}{b:T3}{v:PV}{R:PV->Prop}(hv:Kv cs b v)(h:∀w,Yx b w->R w):Ah v (.int 1) R:=by obtain⟨p,w,hp,hw,hv⟩:=hv;rcases hv with rfl|rfl <;> exact h w hw
def b2 {b:T3}{w:PV}{R:PV->Prop}(hw:Yx b w)(h:R (fr b.2.2)):Ah w (.int 2) R:=by rcases hw with rfl|rfl <;> exact h
def QR {k n:Nat}(h:k<=n)(a:n<1000000):k<sizeLine:=AAw h (AAX a (ABE rfl))
def szs (b e:T3)(d:Rat×Rat):T3:=(d.1+(b.1+e.1),d.1+(b.1+e.1),d.2+(b.2.1+e.2.1))
def Yg {w:PV}{x y:Rat}{k:Int}(a:∀{R:PV->Prop},R (fr x)->Ah w (.int 0) R)(h1:∀{R:PV->Prop},R (fr y)->Ah w (.int 1) R){Q:PV->Prop}(q:Q (fr (if k=2 then y else x))):C0 [w, .int k] Q:=by
 apply VF;ac_rfl
 .rename_i h;rw[AAE h] at q;exact h1 q
 .rename_i h;rw[AAD h] at q;exact a q
def Tr {b:T3}{w:PV}{k:Int}(hw:Yx b w){Q:PV->Prop}(q:Q (fr (if k=2 then b.2.1 else b.1))):C0 [w, .int k] Q:=
 Yg (λh=>by rcases hw with rfl|rfl <;> exact h) (λh=>by rcases hw with rfl|rfl <;> exact h) q
def bT {d:Rat×Rat}{w:PV}{k:Int}(hw:Yv d w){Q:PV->Prop}(q:Q (fr (if k=2 then d.2 else d.1))):C0 [w, .int k] Q:=
 Yg (λh=>by rcases hw with rfl|rfl <;> exact h) (λh=>by rcases hw with rfl|rfl <;> exact h) q
def eJ {cs ds:kn C4}{b e:T3}{d:Rat×Rat}{v w u:PV}(hv:Kv cs b v)(hw:Kv ds e w)(hu:Yv d u)(l:NQ 100 b)(m:NQ 100 e)(F:Bd 100 d.1)(b2:Bd 100 d.2){Q:PV->Prop}(q:Q (.lst [fr (szs b e d).1,fr (szs b e d).2.1,fr (szs b e d).2.2])):Ec [v,w,u] Q:=by
 have s:=l.x;have f:=l.y;have ex:=m.x;have z:=m.y;have G:=s.add ex;have H:=f.add z;apply Sm;ac_rfl;have bk:∀k:Int,Bd 100 (if k=2 then b.2.1 else b.1):=λk=>by split <;> assumption
 have A:∀k:Int,Bd 100 (if k=2 then e.2.1 else e.1):=λk=>by split <;> assumption
 have B:∀k:Int,Bd 100 (if k=2 then d.2 else d.1):=λk=>by split <;> assumption
 refine EM (λi τ=>∃a c,τ= [some (.val v),some (.val w),some (.val u),some (.own ((List.range i).map λk:Nat=>fr ((if (k:Int)=2 then d.2 else d.1)+((if (k:Int)=2 then b.2.1 else b.1)+(if (k:Int)=2 then e.2.1 else e.1))))),a,c]) ?_ ?_ ⟨_,_,rfl⟩
 .rintro τ ⟨a,c,rfl⟩;ac_rfl;exact q
 .rintro i hi τ R o ⟨a,c,rfl⟩;have I:i<3:=hi;have g:∀a c,R [some (.val v),some (.val w),some (.val u),some (.own (((List.range i).map λk:Nat=>fr ((if (k:Int)=2 then d.2 else d.1)+((if (k:Int)=2 then b.2.1 else b.1)+(if (k:Int)=2 then e.2.1 else e.1)))) ++ [fr ((if (i:Int)=2 then d.2 else d.1)+((if (i:Int)=2 then b.2.1 else b.1)+(if (i:Int)=2 then e.2.1 else e.1)))])),a,c] :=λa c=>o _ ⟨a,c,by rw[ADM,ACL];rfl⟩;clear o;have h:=bk i;have j:=A i;have C:=B i;have J:=h.add j;have D:((List.range i).map λk:Nat=>fr ((if (k:Int)=2 then d.2 else d.1)+((if (k:Int)=2 then b.2.1 else b.1)+(if (k:Int)=2 then e.2.1 else e.1)))).length<=3:=by rw[AAK,List.length_range];omega
  generalize ((List.range i).map λk:Nat=>fr ((if (k:Int)=2 then d.2 else d.1)+((if (k:Int)=2 then b.2.1 else b.1)+(if (k:Int)=2 then e.2.1 else e.1))))=L at *;have E:(0:Int)+i=i:=by omega
  rw[E];ac_rfl;refine f1 hv λx hx=> ?_;ac_rfl;refine Tr hx ?_;ac_rfl;refine f1 hw λx hx=> ?_;ac_rfl;refine Tr hx ?_;generalize (if (i:Int)=2 then b.2.1 else b.1)=p at *;generalize (if (i:Int)=2 then e.2.1 else e.1)=r at *;ac_rfl;refine bT hu ?_;generalize (if (i:Int)=2 then d.2 else d.1)=t at *;ac_rfl;refine⟨QR (n:=3) D (by decide), ?_⟩;ac_rfl;exact g _ _
abbrev Dg (cs:kn C4)(b:T3):PV:= .tup [FZ cs, .tup [fr b.1,fr b.2.1,fr b.2.2]]
abbrev JH:AS:=
 (Ae (Ao (IL (EA (AB (Ak (AB (aC (.int 1)) (AB (aC (.int 1)) AM))) (AB (Ak (AB (aC (.int 2)) (AB (aC (.int 1)) AM))) (AB (Ak (AB (aC (.int 3)) (AB (aC (.int 2)) AM))) (AB (Ak (AB (aC (.int 1)) (AB (aC (.int 3)) AM))) (AB (Ak (AB (aC (.int 5)) (AB (aC (.int 1)) AM))) AM))))))) (An 1))
   (As (Ak (AB (AW Ah (aV 1) (AN 2 At (AB (aV 0) (AB (aC (.int 5)) AM)))) (AB (AW Ah (aV 1) (AN 2 At (AB (aV 0) (AB (aC (.int 5)) AM)))) AM)))))
def F__law_apart:AF:=Ar 2 JH
def s_F__law_apart {a:PV}{Q:PV->Prop}(h:JH ⟨λ_=>Q .non,Q,λ_=>False,λ_=>False⟩ [some (.val a),none]):F__law_apart [a] Q:=h
def gm {xs:kn PV}{k:Int}{R:PV->Prop}(a:0<=k)(h1:k<xs.length)(h:∀x∈xs,R x):Ah (.lst xs) (.int k) R:=by show Z7 (HY xs k) R;have hk:xs[k.toNat]? =some (xs[k.toNat]'(by omega)):=AAY (by omega);have e:=CB hk;rw[show ((k.toNat:Nat):Int)=k by omega] at e;rw[e];exact h _ (ACo _)
def Nv {xs:kn Rat}{k:Int}{R:PV->Prop}(a:0<=k)(h1:k<xs.length)(h:∀x∈xs,R (fr x)):Ah (.lst (xs.map fr)) (.int k) R:=by refine gm a (by simpa using h1) λx hx=> ?_;obtain⟨y,hy,rfl⟩:=AAH.mp hx;exact h y hy
def Yj {r:Rat}(h:r.num.natAbs<2^8:=by decide +kernel)(h2:r.den<2^8:=by decide +kernel):Bd 8 r:=⟨h,h2⟩
instance{a b:AE}{τ:BE}{c:kn PV->Prop}:Wp (kz a b τ c) (a τ λx=>b τ λy=>match x,y with | .tup xs, .tup ys=>xs.length=ys.length/\c (Fe xs ys.reverse)|_,_=>False):=⟨id⟩
section
variable {τ:BE}
instance{i:Nat}{xs:kn PV}{P:kn PV->Prop}[h:fw τ i (.own xs)] :Wp (MK i τ P) (P xs):=⟨λk=>by unfold MK;rw[h.e];exact k⟩
end
def yI:PV.tup [.int (-1), .int 3] =fr (-1/3):=by unfold fr;rw[show (-1/3:Rat).num= -1 by decide +kernel,show (-1/3:Rat).den=3 by decide +kernel];rfl
def absR (r:Rat):Rat:=if r<0 then -r else r
def Bd.absR {n:Nat}{r:Rat}(h:Bd n r):Bd n (absR r):=by unfold PL.absR;split;exact h.neg;exact h
def vb (p q:T3)(d:Rat×Rat):T3:=((p.1-q.1)/d.1,(p.2.1-q.2.1)/d.1,(p.2.2-q.2.2)/d.2)
def u5 (o:T3):Rat:=mx (mx (mx 0 (absR o.1)) (absR o.2.1)) (absR o.2.2)
def e8 (a l b c:C4)(m:Rat):Prop:=(¬m<a.1/\¬m<b.1)/\m<l.1/\m<c.1
instance {a l b c:C4}{m:Rat}:Decidable (e8 a l b c m):=by unfold e8;infer_instance
def ins:kn Rat->Rat->kn Rat
 | [],x=> [x]
 | q::r,x=>if q<x then q::ins r x else if q=x then q::r else x::q::r
abbrev ji (qs:kn Rat):Prop:=qs.Pairwise (· < ·)
theorem Rp {x y:Rat}:∀{qs:kn Rat},y∈ins qs x↔y=x\/y∈qs
 | [] =>by simp[ins]
 | q::r=>by
   unfold ins;split
   .rw [AAI,Rp,AAI];grind
   .split
    .rename_i h;subst h;simp
    .simp
theorem Yo {x:Rat}:∀{qs:kn Rat},ji qs->ji (ins qs x)
 | [],_=>by simp[ins]
 | q::r,h=>by
   obtain⟨h1,h2⟩:=AA9.mp h;unfold ins;split
   .rename_i a;refine AA9.mpr ⟨λy hy=> ?_,Yo h2⟩;rcases Rp.mp hy with rfl|hy
    .exact a
    .exact h1 y hy
   .split
    .exact h
    .refine AA9.mpr ⟨λy hy=> ?_,h⟩;rcases AAI.mp hy with rfl|hy
     .grind
     .have:=h1 y hy;grind
theorem YA {x:Rat}:∀{qs:kn Rat},(ins qs x).length<=qs.length+1
 | [] =>by simp[ins]
 | q::r=>by
   have:=YA (x:=x) (qs:=r);unfold ins;split
   .simp;omega
   .split <;> simp
theorem Yn:∀{a b:kn Rat},ji a->ji b->(∀x,x∈a↔x∈b)->a=b
 | [], [],_,_,_=>rfl
 | [],y::b,_,_,h=>by have:=(h y).mpr (by simp);simp at this
 | x::a, [],_,_,h=>by have:=(h x).mp (by simp);simp at this
 | x::a,y::b,ha,hb,h=>by
   obtain⟨g,j⟩:=AA9.mp ha;obtain⟨i,b2⟩:=AA9.mp hb;have d:x=y:=by
    rcases AAI.mp ((h x).mp (by simp)) with e|e
    .exact e
    .rcases AAI.mp ((h y).mpr (by simp)) with f|f
     .exact f.symm
     .have:=i x e;have:=g y f;grind
   subst d;congr 1;refine Yn j b2 λz=>⟨λc=> ?_,λc=> ?_⟩
   .rcases AAI.mp ((h z).mp (by simp[c])) with e|e
    .subst e;have:=g z c;grind
    .exact e
   .rcases AAI.mp ((h z).mpr (by simp[c])) with e|e
    .subst e;have:=i z c;grind
    .exact e
def Pi (xs:kn Rat):kn Rat:=xs.foldl ins []
theorem Mm:∀(xs qs:kn Rat),ji qs->ji (xs.foldl ins qs)/\(∀y,y∈xs.foldl ins qs↔y∈xs\/y∈qs)/\(xs.foldl ins qs).length<=qs.length+xs.length
 | [],qs,h=>⟨h,by simp,by simp⟩
 | x::xs,qs,h=>by
   obtain⟨h1,h2,h3⟩:=Mm xs (ins qs x) (Yo h);refine⟨h1,λy=> ?_, ?_⟩
   .rw [ABw,h2,Rp,AAI];grind
   .have:=YA (x:=x) (qs:=qs);rw[ABw,AA8];omega
def Fb {xs:kn Rat}:ji (Pi xs):=(Mm xs [] .nil).1
def D8 {xs:kn Rat}{y:Rat}:y∈Pi xs↔y∈xs:=by rw[Pi,(Mm xs [] .nil).2.1];simp
def du {xs:kn Rat}:(Pi xs).length<=xs.length:=by have:=(Mm xs [] .nil).2.2;unfold Pi;simpa using this
abbrev Pl:=Rat×Int
abbrev C6:=Rat×Int×kf Rat
def bp (s:C6):Pl:=(s.1,1-s.2.1)
def ep (s:C6):kf Pl:=s.2.2.map λe=>(e,0)
def Uz (s:C6)(p:Pl):Int:=(if bp s=p then 1 else 0)-(if ep s=some p then 1 else 0)
def cnt (ss:kn C6)(p:Pl):Int:=(ss.map λs=>Uz s p).sum
def qw (ss:kn C6)(p:Pl):Prop:=∃s∈ss,bp s=p\/ep s=some p
def Ol (x p:Pl):kd:=decide (x.1<p.1)||(decide (x.1=p.1)&&decide (x.2<=p.2))
def C1 (s:C6)(p:Pl):kd:=(decide (s.1<p.1)||(decide (s.1=p.1)&&decide (0<s.2.1+p.2)))&&(match s.2.2 with | none=>true|some e=>decide (p.1<e))
structure GJ (B:Nat) (s:C6):Prop where
 b:Bd B s.1
 h:s.2.1=0\/s.2.1=1
 e:∀e,s.2.2=some e->s.1<e/\Bd B e
def tm (s:C6)(p:Pl):Int:=(if Ol (bp s) p=true then 1 else 0)-(if (ep s).any (Ol · p)=true then 1 else 0)
def tJ {B:Nat}{s:C6}{p:Pl}(ok:GJ B s)(hp:0<=p.2):tm s p=if C1 s p=true then 1 else 0:=by
 obtain⟨b,h,e⟩:=s;obtain⟨q,i⟩:=p;have g:h=0\/h=1:=ok.h;have hp:0<=i:=hp;have d:Ol (bp (b,h,e)) (q,i)=(decide (b<q)||(decide (b=q)&&decide (0<h+i))):=by unfold Ol bp;congr 2;exact ADp.mpr (by show 1-h<=i↔0<h+i;omega)
 cases e with
 | none=> unfold tm C1;rw[d];simp[ep]
 | some e=>
   have j:b<e:=(ok.e e rfl).1;have f:(ep (b,h,some e)).any (Ol · (q,i))= !decide (q<e):=by
    show Ol (e,0) (q,i)=_;unfold Ol;by_cases z:q<e
    .have a:¬e<q:=by grind
     have c:¬e=q:=by grind
     simp[z,a,c]
    .by_cases a:e<q
     .simp [z,a]
     .have c:e=q:=by grind
      simp[c,hp]
   unfold tm C1;rw[d,f];by_cases z:q<e
   .simp [z]
   .have a:b<q:=by grind
    simp[z,a]
def Hn (ss:kn C6)(p:Pl):Nat:=(ss.filter (C1 · p)).length
theorem WS {B:Nat}{p:Pl}(hp:0<=p.2):∀{ss:kn C6},(∀s∈ss,GJ B s)->(Hn ss p:Int)=(ss.map λs=>tm s p).sum
 | [],_=>rfl
 | s::ss,h=>by
   have a:=WS hp (ss:=ss) λx hx=>h x (by simp[hx]);have e:=tJ (p:=p) (h s (by simp)) hp;rw[AAM,AAy,<-a,e];unfold Hn;rw[ACe];split
   .simp;omega
   .simp
def Me (x p:Pl):Prop:=x.1<p.1\/(x.1=p.1/\x.2<p.2)
def K2 {a b c:Pl}(h:Me a b)(h2:Me b c):Me a c:=by
 unfold Me at *;rcases h with h|⟨h,h'⟩ <;> rcases h2 with h2|⟨h2,d⟩
 .left;grind
 .left;grind
 .left;grind
 .right;exact⟨by grind,by omega⟩
def Gj {x p:Pl}:Ol x p=true↔Me x p\/x=p:=by
 obtain⟨a,i⟩:=x;obtain⟨b,j⟩:=p;unfold Ol Me;simp only[Bool.or_eq_true,ABD,AD5,Prod.mk.injEq];constructor
 .rintro (h|⟨h,h2⟩)
  .exact .inl (.inl h)
  .by_cases e:i=j
   .exact .inr ⟨h,e⟩
   .exact .inl (.inr ⟨h,by omega⟩)
 .rintro ((h|⟨h,h2⟩)|⟨h,h2⟩)
  .exact .inl h
  .exact .inr ⟨h,by omega⟩
  .exact .inr ⟨h,by omega⟩
def Mf {p:Pl}:¬Me p p:=by
 unfold Me;rintro(h|⟨_,h⟩)
 .grind
 .omega
def Ub (x:Pl):kf Pl->kd|none=>false|some p=>Ol x p
def jV (s:C6)(o:kf Pl):Int:=(if Ub (bp s) o=true then 1 else 0)-(if (ep s).any (Ub · o)=true then 1 else 0)
def vX:kf Pl->Pl->Prop|none,_=>True|some q,p=>Me q p
def KI {x p:Pl}{o:kf Pl}(hx:Ub x o=true\/x=p\/Me p x)(a:vX o p):Ol x p=(Ub x o||decide (x=p))/\¬(Ub x o=true/\x=p):=by
 have h1:Ub x o=true->Me x p:=λh=>by
  cases o with
  | none=>cases h
  | some q=>rcases Gj.mp h with h|h
            .exact K2 h a
            .rw [h];exact a
 refine⟨?_,λh=>by rw[h.2] at h1;exact Mf (h1 (h.2 ▸ h.1))⟩;rw[ACE,Bool.or_eq_true,AD5,Gj];constructor
 .rintro (h|h)
  .rcases hx with z|z|z
   .exact .inl z
   .exact .inr z
   .exact absurd (K2 h z) Mf
  .exact .inr h
 .rintro (h|h)
  .exact .inl (h1 h)
  .exact .inr h
def cV {A:kd}{E:Prop}[Decidable E](h:¬(A=true/\E)):(if (A||decide E)=true then (1:Int) else 0)=(if A=true then 1 else 0)+if E then 1 else 0:=by cases A <;> by_cases e:E <;> simp_all
def jX {s:C6}{p:Pl}{o:kf Pl}(hb:Ub (bp s) o=true\/bp s=p\/Me p (bp s))(he:∀x,ep s=some x->Ub x o=true\/x=p\/Me p x)(a:vX o p):tm s p=jV s o+Uz s p:=by
 obtain⟨b,b2⟩:=KI hb a;unfold tm jV Uz;rw[b,cV b2];cases e:ep s with
 | none=>simp
 | some x=>
   obtain⟨c,d⟩:=KI (he x e) a;have h1:(if (some x).any (Ol · p)=true then (1:Int) else 0)=(if Ub x o=true then 1 else 0)+if x=p then 1 else 0:=by show (if Ol x p=true then (1:Int) else 0)=_;rw[c,cV d]
   rw[h1];show _=(_-(if Ub x o=true then (1:Int) else 0))+(_-(if some x=some p then (1:Int) else 0));have h2:(if some x=some p then (1:Int) else 0)=if x=p then 1 else 0:=by by_cases z:x=p <;> simp[z]
   rw[h2];omega
def bE (X:kn Pl):Prop:=X.Pairwise Me
def Ko (ss:kn C6):Int->kn Pl->Prop
 | _, [] =>True
 | c,p::r=>(Hn ss p:Int)=c+cnt ss p/\Ko ss (Hn ss p) r
theorem Ys {a:Type}(f g:a->Int):∀xs:kn a,(xs.map λx=>f x+g x).sum=(xs.map f).sum+(xs.map g).sum
 | [] =>rfl
 | x::xs=>by simp only[AAM,AAy,Ys f g xs];omega
theorem Na {B:Nat}{ss:kn C6}(ok:∀s∈ss,GJ B s):∀(X:kn Pl) (o:kf Pl),bE X->(∀p∈X,vX o p/\0<=p.2)->(∀s∈ss,(Ub (bp s) o=true\/bp s∈X)/\∀x,ep s=some x->Ub x o=true\/x∈X)->Ko ss ((ss.map λs=>jV s o).sum) X
 | [],_,_,_,_=>True.intro
 | p::r,o,hs,ho,hk=>by
   obtain⟨h1,h2⟩:=AA9.mp hs;obtain⟨op,a⟩:=ho p (by simp);have cls:∀x,(Ub x o=true\/x∈p::r)->Ub x o=true\/x=p\/Me p x:=λx h=>by
    rcases h with h|h
    .exact .inl h
    .rcases AAI.mp h with h|h
     .exact .inr (.inl h)
     .exact .inr (.inr (h1 x h))
   have e:(Hn ss p:Int)=(ss.map λs=>jV s o).sum+cnt ss p:=by rw[WS a ok];unfold cnt;rw[<-Ys];congr 1;apply AB2;intro s hs;exact jX (cls _ (hk s hs).1) (λx ex=>cls x ((hk s hs).2 x ex)) op
   refine⟨e, ?_⟩;have:=Na ok r (some p) h2 (λq b=>⟨h1 q b,(ho q (by simp[b])).2⟩) (λs hs=>⟨?_,λx ex=> ?_⟩)
   .rw [show (ss.map λs=>jV s (some p)).sum=(Hn ss p:Int) from(WS a ok).symm] at this;exact this
   .rcases cls _ (hk s hs).1 with z|z|z
    .exact .inl (by rw[show Ub (bp s) (some p)=Ol (bp s) p from rfl,(KI (.inl z) op).1,z];rfl)
    .exact .inl (Gj.mpr (.inr z))
    .rcases (hk s hs).1 with y|y
     .exact .inl (by rw[show Ub (bp s) (some p)=Ol (bp s) p from rfl,(KI (.inl y) op).1,y];rfl)
     .rcases AAI.mp y with y|y
      .exact .inl (Gj.mpr (.inr y))
      .exact .inr y
   .rcases (hk s hs).2 x ex with y|y
    .exact .inl (by rw[show Ub x (some p)=Ol x p from rfl,(KI (.inl y) op).1,y];rfl)
    .rcases AAI.mp y with y|y
     .exact .inl (Gj.mpr (.inr y))
     .exact .inr y
def places (qs:kn Rat):kn Pl:=qs.flatMap λq=> [(q,0),(q,1)]
def Bj {qs:kn Rat}{p:Pl}:p∈places qs↔p.1∈qs/\(p.2=0\/p.2=1):=by
 obtain⟨a,i⟩:=p;unfold places;simp only[ABG,AAI,AAp,AAq,Prod.mk.injEq];constructor
 .rintro ⟨q,b,⟨rfl,rfl⟩|⟨rfl,rfl⟩⟩
  .exact ⟨b, .inl rfl⟩
  .exact ⟨b, .inr rfl⟩
 .rintro ⟨h,h2⟩;exact⟨a,h,h2.elim (λz=> .inl ⟨rfl,z⟩) (λz=> .inr ⟨rfl,z⟩)⟩
theorem Ek:∀{qs:kn Rat},ji qs->bE (places qs)
 | [],_=>List.Pairwise.nil
 | q::r,h=>by
   obtain⟨h1,h2⟩:=AA9.mp h;have b:=Ek h2;have a:∀(i:Int),∀p∈places r,Me (q,i) p:=λi p hp=> .inl (h1 _ (Bj.mp hp).1);show bE ((q,0)::(q,1)::places r);refine AA9.mpr ⟨λp hp=> ?_,AA9.mpr ⟨a 1,b⟩⟩;rcases AAI.mp hp with rfl|hp
   .exact .inr ⟨rfl,by show (0:Int)<1;decide⟩
   .exact a 0 p hp
def D7 (ss:kn C6):kn Rat:=ss.flatMap λs=>s.1::s.2.2.toList
def E3 (ss:kn C6):kn Pl:=places (Pi (D7 ss))
def Nw {B:Nat}{ss:kn C6}(ok:∀s∈ss,GJ B s){s:C6}(hs:s∈ss):bp s∈E3 ss/\∀x,ep s=some x->x∈E3 ss:=by
 refine⟨Bj.mpr ⟨D8.mpr (ABG.mpr ⟨s,hs,by simp[bp]⟩), ?_⟩,λx ex=> ?_⟩
 .have:=(ok s hs).h;unfold bp;simp only;omega
 .obtain ⟨e,he,rfl⟩:=ADJ.mp ex;exact Bj.mpr ⟨D8.mpr (ABG.mpr ⟨s,hs,by simp[he]⟩), .inl rfl⟩
def Tw {B:Nat}{ss:kn C6}(ok:∀s∈ss,GJ B s):Ko ss 0 (E3 ss):=by
 have h:=Na ok (E3 ss) none (Ek Fb) (λp hp=>⟨True.intro,by rcases (Bj.mp hp).2 with z|z <;> omega⟩) (λs hs=>⟨.inr (Nw ok hs).1,λx ex=> .inr ((Nw ok hs).2 x ex)⟩);have:(ss.map λs=>jV s none).sum=0:=by
  clear h ok;induction ss with
  | nil=>rfl
  | cons s ss a=> rw[AAM,AAy,a];unfold jV;cases ep s <;> rfl
 rw[this] at h;exact h
def un (k:FK):Rat:=mkRat k.1.1 k.1.2.toNat
def stepI (st:kn C6×kf Pl)(x:Pl×kd):kn C6×kf Pl:=
 match st.2,x.2 with
 | none,true=>(st.1,some x.1)
 | some b,false=>(st.1 ++ [(b.1,1-b.2,some x.1.1)],none)
 | _,_=>st
def UG (st:kn C6×kf Pl):kn C6:=match st.2 with | none=>st.1|some b=>st.1 ++ [(b.1,1-b.2,none)]
def Qc (X:kn (Pl×kd)):kn C6:=UG (X.foldl stepI ([],none))
theorem QS:∀{ss:kn C6},(D7 ss).length<=2*ss.length
 | [] =>by simp[D7]
 | s::ss=>by
   have a:=QS (ss:=ss);unfold D7 at *;rw[AD6,AA6,AA8,AA8];have:s.2.2.toList.length<=1:=by cases s.2.2 <;> simp
   omega
theorem N9:∀{qs:kn Rat},(places qs).length=2*qs.length
 | [] =>rfl
 | q::qs=>by have a:=N9 (qs:=qs);unfold places at *;rw[AD6,AA6,a,AA8];simp;omega
def Vr (In key:Pl->kd):kd->kn Pl->Prop
 | _, [] =>True
 | c,p::r=>(key p=false->In p=c)/\Vr In key (In p) r
def XF {st:kn C6×kf Pl}{p:Pl}{i:kd}:(stepI st (p,i)).2.isSome=i:=by obtain⟨L,b⟩:=st;cases b <;> cases i <;> rfl
def XE {st:kn C6×kf Pl}{p:Pl}{i:kd}(h:i=st.2.isSome):stepI st (p,i)=st:=by obtain⟨L,b⟩:=st;cases b <;> cases i <;> first | rfl|cases h
theorem K9 {In key:Pl->kd}:∀(X:kn Pl) (st:kn C6×kf Pl),Vr In key st.2.isSome X->(X.map λp=>(p,In p)).foldl stepI st=((X.filter key).map λp=>(p,In p)).foldl stepI st
 | [],st,_=>rfl
 | p::r,st,h=>by
   rw[AAM,ABw,ACe];cases k:key p with
   | true=> rw[AAE rfl,AAM,ABw];exact K9 r _ (by rw[XF];exact h.2)
   | false=> have e:=h.1 k;rw[AAD (by decide),XE e];exact K9 r st (by have:=h.2;rw[e] at this;exact this)
theorem OU {ss:kn C6}{key:Pl->kd}{n:Int}(hk:∀p,key p=false->cnt ss p=0):∀(X:kn Pl) (c:Int),Ko ss c X->Vr (λp=>decide (n<=(Hn ss p:Int))) key (decide (n<=c)) X
 | [],_,_=>True.intro
 | p::r,c,h=>⟨λk=>(by show decide (n<=(Hn ss p:Int))=_;rw[h.1,hk p k,Int.add_zero]),OU hk r _ h.2⟩
def canon (n:Int)(ss:kn C6):kn C6:=Qc ((E3 ss).map λp=>(p,decide (n<=(Hn ss p:Int))))
def bj {ss:kn C6}{p:Pl}(h:¬qw ss p):cnt ss p=0:=by
 have key:∀ss:kn C6,(∀s∈ss,¬(bp s=p\/ep s=some p))->cnt ss p=0:=by
  intro ss;induction ss with
  | nil=>intro _;rfl
  | cons s ss a=>
    intro h;have h1:=h s (by simp);have e:cnt (s::ss) p=Uz s p+cnt ss p:=by simp[cnt]
    rw[e,a λx hx=>h x (by simp[hx])];unfold Uz;rw[AAD λz=>h1 (.inl z),AAD λz=>h1 (.inr z)];rfl
 exact key ss λs hs z=>h ⟨s,hs,z⟩
def Rh {ss:kn C6}{p:Pl}:decide ((1:Int)<=(Hn ss p:Int))=ss.any (C1 · p):=by
 rw[ACE,AD5,ADf];unfold Hn;constructor
 .intro h;obtain⟨s,hs⟩:=List.exists_mem_of_length_pos (l:=ss.filter (C1 · p)) (by omega);have:=AAT.mp hs;exact⟨s,this.1,this.2⟩
 .rintro ⟨s,hs,h⟩;have:=List.length_pos_of_mem (AAT.mpr ⟨hs,h⟩:s∈ss.filter (C1 · p));omega
def EC (In:Pl->kd):kn Pl->kf Pl->kn C6
 | [],none=> []
 | [],some b=> [(b.1,1-b.2,none)]
 | p::r,none=>if In p=true then EC In r (some p) else EC In r none
 | p::r,some b=>if In p=true then EC In r (some b) else (b.1,1-b.2,some p.1)::EC In r none
theorem OC {In:Pl->kd}:∀(X:kn Pl) (a:kn C6) (b:kf Pl),UG ((X.map λp=>(p,In p)).foldl stepI (a,b))=a++EC In X b
 | [],a,none=>by simp[UG,EC]
 | [],a,some b=>by simp[UG,EC]
 | p::r,a,none=>by
   rw[AAM,ABw];unfold EC;cases e:In p with
   | true=>exact OC r a (some p)
   | false=>exact OC r a none
 | p::r,a,some b=>by
   rw[AAM,ABw];unfold EC;cases e:In p with
   | true=>exact OC r a (some b)
   | false=> show UG ((r.map λp=>(p,In p)).foldl stepI (a ++ [(b.1,1-b.2,some p.1)],none))=a++((b.1,1-b.2,some p.1)::EC In r none);rw[OC r _ none];simp
def Qe {In:Pl->kd}{X:kn Pl}:Qc (X.map λp=>(p,In p))=EC In X none:=by unfold Qc;rw[OC];rfl
def Mc {q p:Pl}{e:kf Rat}(a:q.2=0\/q.2=1)(hp:0<=p.2):C1 (q.1,1-q.2,e) p=(Ol q p&&(match e with | none=>true|some e=>decide (p.1<e))):=by unfold C1 Ol;congr 2;congr 1;exact ADp.mpr (by show 0<1-q.2+p.2↔q.2<=p.2;omega)
def Kr (In:Pl->kd):kd->kn Pl->Prop
 | _, [] =>True
 | c,p::r=>(c=true->In p=false->p.2=0)/\Kr In (In p) r
theorem YW {In:Pl->kd}:∀(X:kn Pl),bE X->(∀x∈X,x.2=0\/x.2=1)-> (Kr In false X->(∀p:Pl,0<=p.2->(∀x∈X,Me p x)->(EC In X none).any (C1 · p)=false)/\∀p∈X,(EC In X none).any (C1 · p)=In p)/\ (Kr In true X->∀q:Pl,(q.2=0\/q.2=1)->(∀x∈X,Me q x)->(∀p:Pl,0<=p.2->(∀x∈X,Me p x)->(EC In X (some q)).any (C1 · p)=Ol q p)/\∀p∈X,(EC In X (some q)).any (C1 · p)=In p)
 | [],_,_=>⟨λ_=>⟨λp _ _=>rfl,λp hp=>by cases hp⟩,λ_ q f _=>⟨λp hp _=>by show (C1 (q.1,1-q.2,none) p||false)=_;rw[Mc f hp];simp,λp hp=>by cases hp⟩⟩
 | x::r,hs,X1=>by
   obtain⟨h1,h2⟩:=AA9.mp hs;have k:=YW (In:=In) r h2 λy hy=>X1 y (by simp[hy]);have l:=X1 x (by simp);have g:0<=x.2:=by omega
   have i:∀p:Pl,(∀y∈x::r,Me p y)->∀y∈r,Me p y:=λp h y hy=>h y (by simp[hy]);have nl:∀p:Pl,Me p x->Ol x p=false:=λp h=>by
    rw[<-Bool.not_eq_true,Gj];rintro(z|z)
    .exact Mf (K2 z h)
    .rw [z] at h;exact Mf h
   have n:Ol x x=true:=Gj.mpr (.inr rfl);refine⟨λhd=> ?_,λhd q f m=> ?_⟩
   .unfold EC;cases e:In x with
    | true=>
      have a:=hd.2;rw[e] at a;obtain⟨b,d⟩:=k.2 a x l h1;rw[AAE rfl];refine⟨λp c hp=> ?_,λp hp=> ?_⟩
      .rw [b p c (i p hp),nl p (hp x (by simp))]
      .rcases AAI.mp hp with rfl|hp
       .rw [b p g h1,n,e]
       .exact d p hp
    | false=>
      have a:=hd.2;rw[e] at a;obtain⟨b,d⟩:=k.1 a;rw[AAD (by decide)];refine⟨λp c hp=>b p c (i p hp),λp hp=> ?_⟩;rcases AAI.mp hp with rfl|hp
      .rw [b p g h1,e]
      .exact d p hp
   .unfold EC;have o:Ol q x=true:=Gj.mpr (.inl (m x (by simp)));cases e:In x with
    | true=>
      have a:=hd.2;rw[e] at a;obtain⟨b,d⟩:=k.2 a q f (i q m);rw[AAE rfl];refine⟨λp c hp=>b p c (i p hp),λp hp=> ?_⟩;rcases AAI.mp hp with rfl|hp
      .rw [b p g h1,o,e]
      .exact d p hp
    | false=>
      have a:=hd.2;rw[e] at a;obtain⟨b,d⟩:=k.1 a;have t:=hd.1 rfl e;rw[AAD (by decide)];have j:∀p:Pl,(p=x\/Me x p)->¬p.1<x.1:=λp h=>by rcases h with h|h|⟨h,_⟩ <;> grind
      refine⟨λp c hp=> ?_,λp hp=> ?_⟩
      .have s:p.1<x.1:=by
        rcases hp x (by simp) with z|⟨_,z⟩
        .exact z
        .omega
       show (C1 (q.1,1-q.2,some x.1) p||(EC In r none).any (C1 · p))=_;rw[Mc f c,b p c (i p hp)];simp[s]
      .show (C1 (q.1,1-q.2,some x.1) p||(EC In r none).any (C1 · p))=_;rcases AAI.mp hp with rfl|hp
       .rw [Mc f g,b p g h1,e];simp[j p (.inl rfl)]
       .rw [Mc f (by have:=X1 p (by simp[hp]);omega),d p hp];simp[j p (.inr (h1 p hp))]
theorem U7 {In:Pl->kd}(P:Rat->Prop):∀(X:kn Pl) (b:kf Pl),bE X->(∀x∈X,(x.2=0\/x.2=1)/\P x.1)->Kr In b.isSome X->(∀q,b=some q->(q.2=0\/q.2=1)/\P q.1/\∀x∈X,Me q x)-> ∀s∈EC In X b,P s.1/\(s.2.1=0\/s.2.1=1)/\∀e,s.2.2=some e->s.1<e/\P e
 | [],none,_,_,_,_=>λs hs=>by cases hs
 | [],some q,_,_,_,hb=>λs hs=>by obtain⟨h1,h2,_⟩:=hb q rfl;simp only[EC,AAa] at hs;subst hs;exact⟨h2,by show 1-q.2=0\/1-q.2=1;omega,λe he=>by cases he⟩
 | x::r,b,hs,X1,hd,hb=>by
   obtain⟨h1,h2⟩:=AA9.mp hs;have f:=λb d hb=>U7 (In:=In) P r b h2 (λy hy=>X1 y (by simp[hy])) d hb;have a:=hd.2;cases b with
   | none=>
     unfold EC;cases e:In x with
     | true=> rw[AAE rfl];rw[e] at a;exact f (some x) a λq c=>by cases c;exact⟨(X1 x (by simp)).1,(X1 x (by simp)).2,h1⟩
     | false=> rw[AAD (by decide)];rw[e] at a;exact f none a λq c=>by cases c
   | some q=>
     obtain⟨i,g,h⟩:=hb q rfl;unfold EC;cases e:In x with
     | true=> rw[AAE rfl];rw[e] at a;exact f (some q) a λj c=>by cases c;exact⟨i,g,λy hy=>h y (by simp[hy])⟩
     | false=>
       rw[AAD (by decide)];rw[e] at a;have k:=hd.1 rfl e;intro s hs;rcases AAI.mp hs with rfl|hs
       .refine ⟨g,by show 1-q.2=0\/1-q.2=1;omega,λl he=> ?_⟩;cases he;refine⟨?_,(X1 x (by simp)).2⟩;rcases h x (by simp) with z|⟨_,z⟩
        .exact z
        .omega
       .exact f none a (λq c=>by cases c) s hs
theorem IS {ss:kn C6}:∀(X:kn Pl) (c:Int),(∀x∈X,x.2=0\/x.2=1)->Ko ss c X->Kr (λp=>ss.any (C1 · p)) (decide (1<=c)) X
 | [],_,_,_=>True.intro
 | p::r,c,X1,h=>by
   have a:=IS r (Hn ss p) (λx hx=>X1 x (by simp[hx])) h.2;rw[Rh] at a;refine⟨λhc hi=> ?_,a⟩;rcases X1 p (by simp) with z|z
   .exact z
   .have hc:1<=c:=by simpa using hc
    have hi:ss.any (C1 · p)=false:=hi;rw[<-Rh] at hi;have hi:¬(1:Int)<=Hn ss p:=by simpa using hi
    have c0:0<=cnt ss p:=by
     have go:∀ss:kn C6,0<=cnt ss p:=by
      intro ss;induction ss with
      | nil=>exact AD7 _
      | cons s ss a=>
        have e:cnt (s::ss) p=Uz s p+cnt ss p:=by simp[cnt]
        have o:0<=Uz s p:=by
         unfold Uz;have:¬ep s=some p:=λy=>by obtain⟨d,_,b⟩:=ADJ.mp y;have:(0:Int)=p.2:=congrArg Prod.snd b;omega
         rw[AAD this];split <;> decide
        omega
     exact go ss
    have:=h.1;omega
def Ym {ss:kn C6}:∀x∈E3 ss,x.2=0\/x.2=1:=λx hx=>(Bj.mp hx).2
def ZQ {ss:kn C6}:canon 1 ss=EC (λp=>ss.any (C1 · p)) (E3 ss) none:=by unfold canon;rw[<-Qe];congr 1;apply AB2;intro p _;rw[Rh]
def XD {ss:kn C6}{B:Nat}(ok:∀s∈ss,GJ B s):Kr (λp=>ss.any (C1 · p)) false (E3 ss):=IS (E3 ss) 0 Ym (Tw ok)
def V3 {ss:kn C6}{B:Nat}(ok:∀s∈ss,GJ B s):∀s∈canon 1 ss,s.1∈D7 ss/\(s.2.1=0\/s.2.1=1)/\∀e,s.2.2=some e->s.1<e/\e∈D7 ss:=by rw[ZQ];exact U7 (· ∈D7 ss) (E3 ss) none (Ek Fb) (λx hx=>⟨Ym x hx,D8.mp (Bj.mp hx).1⟩) (XD ok) λq a=>by cases a
def YJ {ss:kn C6}{B:Nat}(ok:∀s∈ss,GJ B s):∀x∈D7 ss,Bd B x:=λx h=>by
 obtain⟨s,hs,hx⟩:=ABG.mp h;rcases AAI.mp hx with rfl|hx
 .exact (ok s hs).b
 .exact ((ok s hs).e x (by simpa using hx)).2
def bh {ss:kn C6}{B:Nat}(ok:∀s∈ss,GJ B s):∀s∈canon 1 ss,GJ B s:=λs hs=>by obtain⟨h1,h2,h3⟩:=V3 ok s hs;exact⟨YJ ok _ h1,h2,λe he=>⟨(h3 e he).1,YJ ok _ (h3 e he).2⟩⟩
theorem Hs (f:Rat->kd):∀qs:kn Rat,(places qs).filter (λp=>f p.1)=places (qs.filter f)
 | [] =>rfl
 | q::qs=>by show ((q,0)::(q,1)::places qs).filter (λp=>f p.1)=_;rw[ACe,ACe,ACe,Hs f qs];cases f q <;> rfl
def vd (x:PV)(A:Prop)(Q:PV->Prop):Prop:=match VR x with | some true=>Q x|some false=>A|none=>False
instance{a b:AE}{τ:BE}{Q:PV->Prop}:Wp (ko a b τ Q) (a τ λx=>vd x (b τ Q) Q):=⟨id⟩
def Gi {xs:kn PV}{k:Int}{R:PV->Prop}(a:0<=k)(h1:k<xs.length)(h:∀x∈xs,R x):Ah (.lst xs) (.int k) R:=by
 have hk:k.toNat<xs.length:=by omega
 have e:HY xs ((k.toNat:Nat):Int)=some xs[k.toNat] :=CB (AAY hk);rw[show ((k.toNat:Nat):Int)=k by omega] at e;show Z7 (HY xs k) R;rw[e];exact h _ (ACo hk)
def DM (ms:kn Rat)(ss:kn C6):kn Pl:=places (Pi (ms++D7 ss))
def Jl {B:Nat}{ms:kn Rat}{ss:kn C6}(ok:∀s∈ss,GJ B s):Ko ss 0 (DM ms ss):=by
 have c:∀s∈ss,bp s∈DM ms ss/\∀x,ep s=some x->x∈DM ms ss:=λs hs=>by
  obtain⟨h1,h2⟩:=Nw ok hs;have d:∀x∈E3 ss,x∈DM ms ss:=λx hx=>by obtain⟨a,b⟩:=Bj.mp hx;exact Bj.mpr ⟨D8.mpr (AAx _ (D8.mp a)),b⟩
  exact⟨d _ h1,λx ex=>d _ (h2 x ex)⟩
 have h:=Na ok (DM ms ss) none (Ek Fb) (λp hp=>⟨True.intro,by rcases (Bj.mp hp).2 with z|z <;> omega⟩) (λs hs=>⟨.inr (c s hs).1,λx ex=> .inr ((c s hs).2 x ex)⟩);have z:(ss.map λs=>jV s none).sum=0:=by
  clear h c ok;induction ss with
  | nil=>rfl
  | cons s ss e=> rw[AAM,AAy,e];unfold jV;cases ep s <;> rfl
 rw[z] at h;exact h
def V2 {B:Nat}{ms:kn Rat}{ss:kn C6}{n:Int}(ok:∀s∈ss,GJ B s)(c:0<n):Qc ((DM ms ss).map λp=>(p,decide (n<=(Hn ss p:Int))))=canon n ss:=by
 have hk:∀p:Pl,decide (p.1∈D7 ss)=false->cnt ss p=0:=λp hp=>bj λ⟨s,hs,z⟩=>by
  have hp:¬p.1∈D7 ss:=by simpa using hp
  refine hp (ABG.mpr ⟨s,hs, ?_⟩);rcases z with z|z
  .rw [<-z];simp[bp]
  .obtain ⟨d,he,rfl⟩:=ADJ.mp z;simp[he]
 have a:=OU (n:=n) (ss:=ss) (key:=λp=>decide (p.1∈D7 ss)) hk (DM ms ss) 0 (Jl ok);rw[AAW (by omega)] at a;have h:=K9 (DM ms ss) ([],none) a;have b:(DM ms ss).filter (λp=>decide (p.1∈D7 ss))=E3 ss:=by unfold DM E3;rw[Hs (λx=>decide (x∈D7 ss))];congr 1;refine Yn (Fb.filter _) Fb λx=> ?_;rw[AAT,D8,D8,AD5];exact⟨λh=>h.2,λh=>⟨AAx _ h,h⟩⟩
 rw[b] at h;show UG _=UG _;rw[h]
def Tu {B:Nat}{ss:kn C6}(ok:∀s∈ss,GJ B s){p:Pl}(hp:p.2=0\/p.2=1):(canon 1 ss).any (C1 · p)=ss.any (C1 · p):=by
 have b:p∈DM [p.1] ss:=Bj.mpr ⟨D8.mpr (by simp),hp⟩;have a:∀x∈DM [p.1] ss,x.2=0\/x.2=1:=λx hx=>(Bj.mp hx).2;have c:=IS (DM [p.1] ss) 0 a (Jl ok);have e:canon 1 ss=EC (λp=>ss.any (C1 · p)) (DM [p.1] ss) none:=by rw[<-V2 (ms:= [p.1]) ok (by decide),<-Qe];congr 1;apply AB2;intro q _;rw[Rh]
 rw[e];exact((YW (DM [p.1] ss) (Ek Fb) a).1 c).2 p b
def hN (L:kn C6)(p:Pl):Nat:=(L.filter (C1 · p)).length
theorem Xg {a:Type}(f:a->kd):∀xs:kn a,Ji (xs.map λx=> .bl (f x))=some (xs.map f)
 | [] =>rfl
 | x::xs=>by show (Ji (xs.map λx=> .bl (f x))).map (f x :: ·)=_;rw[Xg f xs];rfl
theorem Nc:∀(X:kn (Pl×kd)) (st:kn C6×kf Pl),2*(X.foldl stepI st).1.length+(if (X.foldl stepI st).2.isSome then 1 else 0)<=2*st.1.length+(if st.2.isSome then 1 else 0)+X.length
 | [],st=>AAJ _
 | x::X,st=>by
   have h1:=Nc X (stepI st x);have h2:2*(stepI st x).1.length+(if (stepI st x).2.isSome then 1 else 0)<=2*st.1.length+(if st.2.isSome then 1 else 0)+1:=by obtain⟨L,b⟩:=st;obtain⟨p,c⟩:=x;cases b <;> cases c <;> simp[stepI] <;> omega
   rw[ABw,AA8];omega
def aI (X:kn (Pl×kd)):2*(Qc X).length<=X.length+1:=by have h:=Nc X ([],none);unfold Qc;generalize X.foldl stepI ([],none)=st at *;obtain⟨L,b⟩:=st;cases b <;> simp[UG] at * <;> omega
def V1 {n:Int}{ss:kn C6}:(canon n ss).length<=2*ss.length:=by unfold canon E3;have h:=aI ((places (Pi (D7 ss))).map λp=>(p,decide (n<=(Hn ss p:Int))));have a:=du (xs:=D7 ss);have b:=QS (ss:=ss);have c:=N9 (qs:=Pi (D7 ss));rw[AAK] at h;omega
def lt_size {k n:Nat}(h:k<=n)(a:n<1000000):k<sizeLine:=AAw h (AAX a (ABE rfl))
abbrev IG:AS:=
 (Ae (Df (Le (aV 0)) (Hm 2 (Ag (An 2) (Ag (An 3) Bf))) (ZD 1 BV (AW PQ (aV 3) (AN 2 FO (AB (aV 1) (AB (aV 3) AM))))))
   (As (aV 1)))
abbrev F5:AS:=
 (Ae (Ao (aC (.int 1)) (An 1))
   IG)
def CK:AF:=Ar 4 F5
def J9 {a:PV}{Q:PV->Prop}(h:F5 ⟨λ_=>Q .non,Q,λ_=>False,λ_=>False⟩ [some (.val a),none,none,none]):CK [a] Q:=h
def Fc (xs:kn Rat):Nat:=xs.foldl (λN r=>N*(r.den/Nat.gcd N r.den)) 1
def Sy (xs:kn Rat)(r:Rat):Fc (xs ++ [r])=Fc xs*(r.den/Nat.gcd (Fc xs) r.den):=by unfold Fc;rw[ADK];rfl
def i7 {N d:Nat}(hN:0<N)(hd:0<d):0<N*(d/Nat.gcd N d)/\N ∣ N*(d/Nat.gcd N d)/\d ∣ N*(d/Nat.gcd N d)/\N*(d/Nat.gcd N d)<=N*d:=by have g:Nat.gcd N d ∣ d:=ACa ..;have a:0<Nat.gcd N d:=ACu _ hd;refine⟨ABF hN (Nat.div_pos (ACc hd g) a),Nat.dvd_mul_right .., ?_,AB6 _ (ACZ ..)⟩;rw[<-Nat.mul_div_assoc _ g];exact Nat.dvd_lcm_right ..
theorem G8 {W:Nat}:∀(n:Nat) (xs:kn Rat),xs.length=n->(∀x∈xs,Bd W x)->0<Fc xs/\(∀x∈xs,x.den ∣ Fc xs)/\Fc xs<2^(n*W+1)
 | 0,xs,e,_=>by have:xs= [] :=AEp.mp e;subst this;exact⟨by decide,by simp,by simp[Fc]⟩
 | n+1,xs,e,h=>by
   obtain⟨ys,r,rfl⟩:∃ys r,xs=ys ++ [r] :=⟨xs.dropLast,xs.getLast (by intro z;subst z;cases e),(AD8 _).symm⟩;have a:ys.length=n:=by simpa using e
   obtain⟨h1,h2,h3⟩:=G8 n ys a λx hx=>h x (by simp[hx]);have b:=(h r (by simp)).bot;rw[Sy];obtain⟨c,d,f,g⟩:=i7 h1 r.den_pos;refine⟨c,λx hx=> ?_, ?_⟩
   .rcases AAL.mp hx with hx|hx
    .exact AEq (h2 x hx) d
    .simp at hx;subst hx;exact f
   .refine AAw g ?_;have:=Wj h3 b;rw[show n*W+1+W=(n+1)*W+1 by rw[ACd];omega] at this;exact this
def TL (N:Nat)(r:Rat):Int:=r.num*((N:Int).fdiv (r.den:Int))
def Fy {N:Nat}{r:Rat}(h:r.den ∣ N):(TL N r:Rat)=r*N:=by
 obtain⟨k,rfl⟩:=h;have hd:=r.den_pos;unfold TL;rw[ADq,Int.mul_fdiv_cancel_left _ (by omega),AAQ];have b:((r.den:Int):Rat)≠0:=λz=>by have:(r.den:Int)=0:=ADN.mp z;omega
 have e:r=(r.num:Rat)/((r.den:Int):Rat):=by rw[<-ACg,ABQ]
 have a:r*((r.den:Int):Rat)=r.num:=by
  conv=>lhs;arg 1;rw[e]
  grind
 rw[<-a,show ((r.den*k:Nat):Rat)=((r.den:Int):Rat)*((k:Int):Rat) by rw[<-AAQ,<-ADq,ABT]];grind
structure Pc where
 b:Rat
 e:Rat
 o0:T3
 o1:T3
def Pc.six (p:Pc):kn Rat:= [p.o0.1,p.o0.2.1,p.o0.2.2,p.o1.1,p.o1.2.1,p.o1.2.2]
def Pc.N (p:Pc):Nat:=Fc p.six
def pA (cs ds:kn C4)(b e:Rat):kn Rat:=Pi ([b,e] ++ ((cs.filter (qO b e)++ds.filter (qO b e)).map (·.1)))
def vc (cs ds:kn C4)(d:Rat×Rat)(m:Rat):T3:=vb ((spotC cs m).getD (0,0,0)) ((spotC ds m).getD (0,0,0)) d
def ve (cs ds:kn C4)(d:Rat×Rat)(ts:kn Rat):kn Pc:=(ts.zip ts.tail).map λp=>⟨p.1,p.2,vc cs ds d p.1,vc cs ds d p.2⟩
def qT (cs:kn C4):Rat:=(cs.head?.getD (0,0,0,0)).1
def lstM (cs:kn C4):Rat:=(cs.getLast?.getD (0,0,0,0)).1
def lB (cs ds:kn C4):Rat:=mx (qT cs) (qT ds)
def lI (cs ds:kn C4):Rat:=mn (lstM cs) (lstM ds)
def tsT (cs ds:kn C4):kn Rat:=pA cs ds (lB cs ds) (lI cs ds)
def open2 {cs:kn C4}(h:2<=cs.length):∃a r l,cs=a::r/\r≠ [] /\(a::r).getLast?=some l:=by
 match cs,h with
 | a::b::r,_=> obtain⟨l,c⟩:∃l,(a::b::r).getLast?=some l:=⟨_,AEn (by simp)⟩;exact⟨a,b::r,l,rfl,by simp,c⟩
def pcs (cs ds:kn C4)(d:Rat×Rat):kn Pc:=if lB cs ds<lI cs ds then ve cs ds d (tsT cs ds) else []
abbrev Ow:AS:=
 (Ae (Ao (HI Di (AB (IL (Cm (Le (aV 0)) 2 [3] (Hm 2 (Ag (An 0) (Ag (An 1) Bf))) Gb (AW BV (aV 0) (AW PQ (aV 2) (aV 1))))) AM)) (An 4))
   (As (Ak (AB (aV 4) (AB (aV 1) (AB (bN (aV 2) (aV 3)) AM))))))
abbrev My:AS:=
 (Ae (Ao (AN 1 CK (AB (aV 0) AM)) (An 3))
   Ow)
def Ea:AF:=Ar 5 My
def Sj {a b c:PV}{Q:PV->Prop}(h:My ⟨λ_=>Q .non,Q,λ_=>False,λ_=>False⟩ [some (.val a),some (.val b),some (.val c),none,none]):Ea [a,b,c] Q:=h
abbrev TX:AS:=
 (Ae (bP 5 6 7 1 3 (AW Ah (aV 0) (aC (.int 2))) (AW Ah (aV 2) (aC (.int 2))))
   (As (Ak (AB (aV 4) (AB (HI (qU max) (AB (AW Ah (aV 0) (aC (.int 1))) (AB (AW Ah (aV 2) (aC (.int 1))) AM))) (AB (aV 5) AM))))))
abbrev TW:AS:=
 (Ae (Ao (HI Di (AB (IL (Cm (tX (AB (AW Ah (aV 0) (aC (.int 0))) (AB (AW Ah (aV 2) (aC (.int 0))) AM))) 2 [1,3] (Hm 2 (Ag (An 0) (Ag (An 1) Bf))) Gb (AW Ba (AW BV (aV 2) (aV 0)) (AW BV (aV 3) (aV 1))))) AM)) (An 4))
   TX)
def GY:AF:=Ar 8 TW
def W3 {a b c d:PV}{Q:PV->Prop}(h:TW ⟨λ_=>Q .non,Q,λ_=>False,λ_=>False⟩ [some (.val a),some (.val b),some (.val c),some (.val d),none,none,none,none]):GY [a,b,c,d] Q:=h
abbrev Pq:AS:=
 (As (AN 4 GY (AB (aV 0) (AB (PC Gg (AW Ah (AW Ah (aV 1) (aC (.int 0))) (aV 2))) (AB (aV 1) (AB (AW Ah (AW Ah (aV 0) (aC (.int 0))) (aV 2)) AM))))))
def EV:AF:=Ar 3 Pq
def U9 {a b c:PV}{Q:PV->Prop}(h:Pq ⟨λ_=>Q .non,Q,λ_=>False,λ_=>False⟩ [some (.val a),some (.val b),some (.val c)]):EV [a,b,c] Q:=h
abbrev Mu:AS:=
 (Ae (Ao (AW Ah (AW Ah (aV 0) (aC (.int 0))) (aC (.int 0))) (An 1))
   (As (tW (AW ZY (aV 1) (aC (.int 0))) (Vt (AW Lh (aV 1) (aC (.int 0))) (AW Lh (AW Ah (aV 0) (aC (.int 1))) (aC (.int 1)))))))
def Dt:AF:=Ar 2 Mu
def Sf {a:PV}{Q:PV->Prop}(h:Mu ⟨λ_=>Q .non,Q,λ_=>False,λ_=>False⟩ [some (.val a),none]):Dt [a] Q:=h
abbrev Q6:AS:=
 (Ae (Ao (AW Ah (AW Ah (aV 0) (aC (.int 0))) (aV 1)) (An 3))
   (As (pM (A6 (AW V9 (aV 3) (aC (.int 0)))) (Ak (AB (PC Gg (aV 2)) (AB (aV 3) AM))) (Ak (AB (aV 2) (AB (PC Gg (aV 3)) AM))))))
abbrev Pz:AS:=
 (Ae (Ao (AW Ah (AW Ah (aV 0) (aC (.int 0))) (aC (.int 0))) (An 2))
   Q6)
def DP:AF:=Ar 4 Pz
def VG {a b:PV}{Q:PV->Prop}(h:Pz ⟨λ_=>Q .non,Q,λ_=>False,λ_=>False⟩ [some (.val a),some (.val b),none,none]):DP [a,b] Q:=h
abbrev MB:AS:=
 (Ae (CA (A6 (AN 2 Dc (AB (aV 4) (AB (aV 3) AM)))) (As (AW V9 (AW Ah (AW Ah (aV 0) (aC (.int 0))) (aV 2)) (aC (.int 0)))) BO)
   (As (AW V9 (AW Ah (aV 0) (aC (.int 1))) (AW Ah (aV 1) (aC (.int 1))))))
abbrev MA:AS:=
 (Ae (CA (A6 (AN 2 Dc (AB (aV 3) (AB (aV 4) AM)))) (As (AW ZY (AW Ah (AW Ah (aV 0) (aC (.int 0))) (aV 2)) (aC (.int 0)))) BO)
   MB)
abbrev L9:AS:=
 (Ae (Ao (AN 2 DP (AB (aV 1) (AB (aV 2) AM))) (An 4))
   MA)
abbrev JU:AS:=
 (Ae (Ao (AN 2 DP (AB (aV 0) (AB (aV 2) AM))) (An 3))
   L9)
def Dd:AF:=Ar 5 JU
def OF {a b c:PV}{Q:PV->Prop}(h:JU ⟨λ_=>Q .non,Q,λ_=>False,λ_=>False⟩ [some (.val a),some (.val b),some (.val c),none,none]):Dd [a,b,c] Q:=h
abbrev O4:AS:=
 (Ae (Df (Le (aV 0)) (An 4) (CA (Ef (A6 (AW V9 (AW BV (AW Ah (AW Ah (aV 4) (aC (.int 0))) (aV 1)) (aV 2)) (aC (.int 0)))) (Vu (A6 (AW PR (aV 3) (aC .non))) (A6 (AN 3 Dd (AB (aV 4) (AB (aV 3) (AB (aV 1) AM))))))) (Ao (aV 4) (An 3)) BO))
   (As (aV 3)))
abbrev M9:AS:=
 (Ae (Ao (aC .non) (An 3))
   O4)
def Ch:AF:=Ar 5 M9
def Sn {a b c:PV}{Q:PV->Prop}(h:M9 ⟨λ_=>Q .non,Q,λ_=>False,λ_=>False⟩ [some (.val a),some (.val b),some (.val c),none,none]):Ch [a,b,c] Q:=h
abbrev Ov:AS:=
 (Ae (Ao (AN 3 EV (AB (AN 3 Ch (AB (aV 0) (AB (aV 1) (AB (aC (.int 1)) AM)))) (AB (aV 3) (AB (aV 1) AM)))) (An 4))
   (As (pM (A6 (AN 1 Dt (AB (aV 4) AM))) (aV 4) (aC .non))))
abbrev Ou:AS:=
 (Ae (CA (A6 (AW PR (aV 3) (aC .non))) (As (aC .non)) BO)
   Ov)
abbrev Ot:AS:=
 (Ae (Ao (AN 3 Ch (AB (aV 0) (AB (aV 1) (AB (PC Gg (aC (.int 1))) AM)))) (An 3))
   Ou)
abbrev Mt:AS:=
 (Ae (Df (Le (aV 0)) (An 2) (CA (Ef (A6 (AW Lh (AW Ah (AW Ah (aV 2) (aC (.int 0))) (aV 1)) (aC (.int 0)))) (A6 (AN 1 Dt (AB (aV 2) AM)))) (As (aV 2)) BO))
   Ot)
def Ds:AF:=Ar 5 Mt
def Se {a b:PV}{Q:PV->Prop}(h:Mt ⟨λ_=>Q .non,Q,λ_=>False,λ_=>False⟩ [some (.val a),some (.val b),none,none,none]):Ds [a,b] Q:=h
abbrev O1:AS:=
 (Ae (Ao (AN 2 DP (AB (aV 4) (AB (aV 1) AM))) (An 5))
   (As (Ak (AB (aV 3) (AB (AW GL (aC (.int 1)) (AW Ah (aV 2) (aC (.int 1)))) (AB (AN 2 Fg (AB (AW Ah (aV 5) (aC (.int 0))) (AB (AW Ah (aV 5) (aC (.int 1))) AM))) AM))))))
abbrev O0:AS:=
 (Ae (CA (A6 (AW PR (aV 4) (aC .non))) (As (Ak (AB (aV 3) (AB (AW GL (aC (.int 1)) (AW Ah (aV 2) (aC (.int 1)))) (AB (aC .non) AM))))) BO)
   O1)
abbrev Oz:AS:=
 (Ae (Ao (AN 3 Ch (AB (aV 0) (AB (aV 1) (AB (PC Gg (aC (.int 1))) AM)))) (An 4))
   O0)
abbrev Oy:AS:=
 (Ae (Ao (AN 2 Fg (AB (AW Ah (aV 3) (aC (.int 0))) (AB (AW Ah (aV 3) (aC (.int 1))) AM))) (An 3))
   Oz)
abbrev Ox:AS:=
 (Ae (Ao (AN 2 DP (AB (aV 2) (AB (aV 1) AM))) (An 3))
   Oy)
abbrev Mz:AS:=
 (Ae (Ao (AN 3 Ch (AB (aV 0) (AB (aV 1) (AB (aC (.int 1)) AM)))) (An 2))
   Ox)
def Eb:AF:=Ar 6 Mz
def Sk {a b:PV}{Q:PV->Prop}(h:Mz ⟨λ_=>Q .non,Q,λ_=>False,λ_=>False⟩ [some (.val a),some (.val b),none,none,none,none]):Eb [a,b] Q:=h
structure Ed where
 c0:Int
 c1:Int
 s:Int
 w:List (Int×Int)
structure fx (N:Nat) (p:Ed):Prop where
 a:p.c0.natAbs<2^N
 b:p.c1.natAbs<2^N
 w:∀e∈p.w,e.2.natAbs<2^N
 l:p.w.length<=12
 s:p.s=0\/p.s=1
def lG {a b:AE}{τ:BE}{Q:PV->Prop}:bN a b τ Q=a τ λx=>b τ λy=>TK x λi=>TK y λj=>Q (.dk [(i,j)]):=by
 unfold bN;congr 1
 funext x
 congr 1
 funext y
 cases x <;> cases y <;> rfl
instance{a b:AE}{τ:BE}{Q:PV->Prop}:Wp (bN a b τ Q) (a τ λx=>b τ λy=>TK x λi=>TK y λj=>Q (.dk [(i,j)])):=⟨λh=>by rw[lG];exact h⟩
def OB (p:Ed)(t:Rat):Rat:=p.c0+p.c1*t
def W8 {S:Nat}{r:Rat}{W N:Nat}(b:Bd W r)(h:S<2^N):(TL S r).natAbs<2^(W+N):=by unfold TL;rw[ABL];refine Wj b.top ?_;rw[ACI _ (by omega),<-ACb,ABH];exact AAw (ACZ ..) h
def OP {many:Int}{m:kn (Int×Int)}:(BZ many m).length<=m.length:=by
 have key:∀(m a:kn (Int×Int)),(m.foldl (λa p=>Bw a p.1 (many*p.2)) a).length<=a.length+m.length:=by
  intro m;induction m with
  | nil=>intro a;simp
  | cons x r b=> intro a;rw[ABw,AA8];have:=b (Bw a x.1 (many*x.2));have:=J4 a x.1 (many*x.2);omega
 have:=key m [];simpa[BZ] using this
def FB (p:Ed):kd:=decide (p.c0<0\/(p.c0=0/\p.s=1))
def Bp (p:Ed):Int×Int:=if 0<p.c1 then (-p.c0,p.c1) else (p.c0, -p.c1)
def CI (p:Ed):Rat:= -(p.c0:Rat)/p.c1
def Od (p r:Ed):kd:=if (Bp p).1*(Bp r).2<(Bp r).1*(Bp p).2 then decide (p.c1<0) else if (Bp r).1*(Bp p).2<(Bp p).1*(Bp r).2 then decide (0<p.c1) else decide (r.s<p.s)
def HD {p:Ed}{N:Nat}(h:fx N p):(Bp p).1.natAbs<2^N/\(Bp p).2.natAbs<2^N:=by
 unfold Bp;have:=h.a;have:=h.b;split
 .rw [AB3];exact⟨h.a,h.b⟩
 .rw [AB3];exact⟨h.a,h.b⟩
def NX {a b c d:Int}{N:Nat}(h1:a.natAbs<2^N)(h2:b.natAbs<2^N)(h3:c.natAbs<2^N)(e:d.natAbs<2^N)(hN:N<=10000){Q:PV->Prop}(q:Q (.bl (decide (a*d<c*b)))):Dc [.tup [.int a, .int b], .tup [.int c, .int d]] Q:=by refine⟨.of h1 e, .of h3 h2,q⟩
def holds (p:Ed)(t:Rat):Prop:=0<OB p t\/(OB p t=0/\p.s=0)
def CN {p:Ed}(h:p.c1≠0):0<(Bp p).2/\((Bp p).1:Rat)=CI p*((Bp p).2:Rat)/\(p.c0:Rat)= - (CI p*p.c1):=by
 have hc:(p.c1:Rat)≠0:=by exact_mod_cast h
 have e:CI p*(p.c1:Rat)= -(p.c0:Rat):=by unfold CI;exact AEr hc
 unfold Bp;split
 .rename_i h1;refine⟨h1, ?_, ?_⟩
  .rw [e];push_cast;rfl
  .rw [e];grind
 .rename_i h1;refine⟨by show 0 < -p.c1;omega, ?_, ?_⟩
  .push_cast;grind
  .rw [e];grind
def Yt {p r:Ed}(hp:p.c1≠0)(a:r.c1≠0):(Bp p).1*(Bp r).2<(Bp r).1*(Bp p).2↔CI p<CI r:=by
 obtain⟨b,c,_⟩:=CN hp;obtain⟨d,b2,_⟩:=CN a;have e:(0:Rat)<((Bp p).2:Rat):=by exact_mod_cast b
 have f:(0:Rat)<((Bp r).2:Rat):=by exact_mod_cast d
 rw[<-AB7,AAQ,AAQ,c,b2];generalize ((Bp p).2:Rat)=x at *;generalize ((Bp r).2:Rat)=y at *;have g:0<x*y:=ACO e f;rw[show CI p*x*y=CI p*(x*y) by grind,show CI r*y*x=CI r*(x*y) by grind];exact Rat.mul_lt_mul_right g
def YU {p:Ed}(h:p.c1≠0)(t:Rat):OB p t=p.c1*(t-CI p):=by obtain⟨_,_,e⟩:=CN h;unfold OB;rw[e];grind
def C2 {p:Ed}(h:0<p.c1)(t:Rat):holds p t↔(CI p<t\/(CI p=t/\p.s=0)):=by
 have hc:(0:Rat)<p.c1:=by exact_mod_cast h
 unfold holds;rw[YU (by omega)];have a:0<(p.c1:Rat)*(t-CI p)↔CI p<t:=by rw[ACw hc];grind
 have b:(p.c1:Rat)*(t-CI p)=0↔CI p=t:=by rw[ACh];grind
 rw[a,b]
def CD {p:Ed}(h:p.c1<0)(t:Rat):holds p t↔(t<CI p\/(CI p=t/\p.s=0)):=by
 have hc:(0:Rat) < -(p.c1:Rat):=by
  have:(p.c1:Rat)<0:=by exact_mod_cast h
  grind
 unfold holds;rw[YU (by omega)];have a:0<(p.c1:Rat)*(t-CI p)↔t<CI p:=by rw[show (p.c1:Rat)*(t-CI p)= -(p.c1:Rat)*(CI p-t) by grind,ACw hc];grind
 have b:(p.c1:Rat)*(t-CI p)=0↔CI p=t:=by rw[ACh];grind
 rw[a,b]
def Oe (sg:Int)(o:kf Ed)(p:Ed):kf Ed:=if 0<p.c1*sg then (match o with | none=>some p|some r=>if Od p r=true then some p else some r) else o
def tight (sg:Int)(ps:kn Ed):kf Ed:=ps.foldl (Oe sg) none
def fA {p r:Ed}{sg:Int}(h:sg=1\/sg= -1)(hp:0<p.c1*sg)(a:0<r.c1*sg)(sp:p.s=0\/p.s=1)(d:r.s=0\/r.s=1)(t:Rat):(Od p r=true->holds p t->holds r t)/\(Od p r=false->holds r t->holds p t):=by
 have b:p.c1≠0:=by intro z;rw[z] at hp;simp at hp
 have c:r.c1≠0:=by intro z;rw[z] at a;simp at a
 unfold Od;simp only[Yt b c,Yt c b];rcases h with rfl|rfl
 .have hp:0<p.c1:=by omega
  have a:0<r.c1:=by omega
  rw[C2 hp,C2 a];split
  .simp [show ¬p.c1<0 by omega];grind
  .split
   .simp [hp];grind
   .simp;grind
 .have hp:p.c1<0:=by omega
  have a:r.c1<0:=by omega
  rw[CD hp,CD a];split
  .simp [hp];grind
  .split
   .simp [show ¬0<p.c1 by omega];grind
   .simp;grind
structure kX (sg:Int) (ps:List Ed) (o:Option Ed):Prop where
 no:o=none->∀p∈ps,¬0<p.c1*sg
 so:∀r,o=some r->r∈ps/\0<r.c1*sg/\∀p∈ps,0<p.c1*sg->∀t,holds r t->holds p t
def aP {sg:Int}(h:sg=1\/sg= -1){ps:kn Ed}{o:kf Ed}{p:Ed}(hs:∀p∈ps,p.s=0\/p.s=1)(hp:p.s=0\/p.s=1)(i:kX sg ps o):kX sg (ps ++ [p]) (Oe sg o p):=by
 unfold Oe;split
 .rename_i h1;cases o with
  | none=>
    refine⟨λz=>(by cases z),λr e=> ?_⟩;cases e;refine⟨by simp,h1,λx hx h2 t a=> ?_⟩;rcases AAL.mp hx with hx|hx
    .exact absurd h2 (i.no rfl x hx)
    .rw [AAa.mp hx];exact a
  | some r=>
    obtain⟨m,b,c⟩:=i.so r rfl;have d:=fA h h1 b hp (hs r m);dsimp only;split
    .rename_i h2;refine⟨λz=>(by cases z),λf e=> ?_⟩;cases e;refine⟨by simp,h1,λx hx h3 t a=> ?_⟩;rcases AAL.mp hx with hx|hx
     .exact c x hx h3 t ((d t).1 h2 a)
     .rw [AAa.mp hx];exact a
    .rename_i h2;refine⟨λz=>(by cases z),λf e=> ?_⟩;cases e;refine⟨by simp[m],b,λx hx h3 t a=> ?_⟩;rcases AAL.mp hx with hx|hx
     .exact c x hx h3 t a
     .rw [AAa.mp hx];exact(d t).2 (by simpa using h2) a
 .rename_i h1;refine⟨λz x hx=> ?_,λr e=> ?_⟩
  .rcases AAL.mp hx with hx|hx
   .exact i.no z x hx
   .rw [AAa.mp hx];exact h1
  .obtain ⟨m,b,c⟩:=i.so r e;refine⟨by simp[m],b,λx hx h3 t a=> ?_⟩;rcases AAL.mp hx with hx|hx
   .exact c x hx h3 t a
   .rw [AAa.mp hx] at h3;exact absurd h3 h1
def aO (sg:Int)(a:kn Ed)(p:Ed):tight sg (a ++ [p])=Oe sg (tight sg a) p:=by unfold tight;rw[ADK];rfl
theorem DU {sg:Int}(h:sg=1\/sg= -1):∀(n:Nat) (ps:kn Ed),ps.length=n->(∀p∈ps,p.s=0\/p.s=1)->kX sg ps (tight sg ps)
 | 0,ps,e,_=>by have:ps= [] :=AEp.mp e;subst this;exact⟨λ_=>by simp,λr e=>by cases e⟩
 | n+1,ps,e,hs=>by obtain⟨ys,r,rfl⟩:∃ys r,ps=ys ++ [r] :=⟨ps.dropLast,ps.getLast (by intro z;subst z;cases e),(AD8 _).symm⟩;rw[aO];exact aP h (λp hp=>hs p (by simp[hp])) (hs r (by simp)) (DU h n ys (by simpa using e) λp hp=>hs p (by simp[hp]))
def XN {p:Ed}(h:p.c1≠0):Rat.divInt (Bp p).1 (Bp p).2=CI p:=by
 obtain⟨a,b,_⟩:=CN h;have c:((Bp p).2:Rat)≠0:=by
  have:(0:Rat)<((Bp p).2:Rat):=by exact_mod_cast a
  grind
 rw[ACg,b];exact Rat.mul_div_cancel c
abbrev ID:AS:=
 (Ae (Ao (AN 2 IH (AB (AN 2 EL (AB (aV 5) (AB (aV 4) AM))) (AB (aV 2) AM))) (An 6))
   (C3 3 FA (AB (Ak (AB (AN 2 EL (AB (aV 4) (AB (AN 2 Ja (AB (aV 6) (AB (AW Ah (aV 0) (aC (.int 0))) AM))) AM))) (AB (aV 6) AM))) AM)))
abbrev IF:AS:=
 (Ae (Df (tX (AB (gE (aV 0) (bS (aC (.int 1))) bR) (AB (gE (aV 1) (bS (aC (.int 1))) bR) AM))) (Hm 2 (Ag (An 4) (Ag (An 5) Bf))) ID)
   (As (Ak (AB (AW Ah (aV 0) (aC (.int 0))) (AB (AW Ah (aV 1) (aC (.int 0))) (AB (aV 3) AM))))))
abbrev IE:AS:=
 (Ae (GK (EA AM) 3)
   IF)
abbrev F4:AS:=
 (Ae (Ao (AN 2 EL (AB (AW Ah (aV 1) (aC (.int 0))) (AB (AW Ah (aV 0) (aC (.int 0))) AM))) (An 2))
   IE)
def Bs:AF:=Ar 7 F4
def J8 {a b:PV}{Q:PV->Prop}(h:F4 ⟨λ_=>Q .non,Q,λ_=>False,λ_=>False⟩ [some (.val a),some (.val b),none,none,none,none,none]):Bs [a,b] Q:=h
abbrev LX:AS:=
 (As (IL (Cm (Jf (AB (AW GL (HI MM (AB (aV 0) AM)) (aC (.int 1))) AM)) 1 [0] (An 0) Gb (AN 2 Bs (AB (AW Ah (aV 1) (aV 0)) (AB (AW Ah (aV 1) (AW Ba (aV 0) (aC (.int 1)))) AM))))))
def DO:AF:=Ar 1 LX
def Pj {a:PV}{Q:PV->Prop}(h:LX ⟨λ_=>Q .non,Q,λ_=>False,λ_=>False⟩ [some (.val a)]):DO [a] Q:=h
def Yi (b e:C4)(x y:Rat):Rat:=(y-x)/(e.1-b.1)
def ah (b e:C4)(x y:Rat):Rat:=x-Yi b e x y*b.1
def mN (b e:C4)(x y:Rat):PV:= .tup [fr (ah b e x y),fr (Yi b e x y)]
def CV (b e:C4):PV:= .tup [fr b.1,fr e.1, .lst [mN b e b.2.1 e.2.1,mN b e b.2.2.1 e.2.2.1,mN b e b.2.2.2 e.2.2.2]]
def FF {b e:C4}{x y:Rat}{B:Nat}(hb:Bd B b.1)(he:Bd B e.1)(hx:Bd B x)(hy:Bd B y)(h:b.1<e.1):Bd (4*B+2) (Yi b e x y)/\Bd (6*B+3) (ah b e x y):=by have s:Bd (4*B+2) (Yi b e x y):=(Bd.div (by grind) (hy.sub hx) (he.sub hb)).mono (by omega);exact⟨s,(hx.sub (s.mul hb)).mono (by omega)⟩
def dR {f:C4->PV}(a:f=cor\/f=corL){b e:C4}{B:Nat}(hb:F6 B b)(he:F6 B e)(h:b.1<e.1)(l:6*B+3<=3900){Q:PV->Prop}(q:Q (CV b e)):Bs [f b,f e] Q:=by
 obtain⟨c,d⟩:=FF hb.m he.m hb.x he.x h;obtain⟨g,i⟩:=FF hb.m he.m hb.y he.y h;obtain⟨j,k⟩:=FF hb.m he.m hb.z he.z h;have n:e.1-b.1≠0:=by grind
 have bs:=he.m.sub hb.m;apply J8;rcases a with rfl|rfl
 .repeat' array_get_dec
  exact q
 .repeat' array_get_dec
  show UF (.lst [fr b.1,fr b.2.1,fr b.2.2.1,fr b.2.2.2]) (some 1) none _;refine Yh ?_;repeat' array_get_dec
  show UF (.lst [fr e.1,fr e.2.1,fr e.2.2.1,fr e.2.2.2]) (some 1) none _;refine Yh ?_;show Uy (.lst [fr b.2.1,fr b.2.2.1,fr b.2.2.2]) λxs=>Uy (.lst [fr e.2.1,fr e.2.2.1,fr e.2.2.2]) λys=>_;repeat' array_get_dec
  exact q
def EI (cs:kn C4):kn (C4×C4):=cs.zip cs.tail
def SN {cs:kn C4}{i:Nat}(h:i+1<cs.length):∃b e,cs[i]? =some b/\cs[i+1]? =some e/\(EI cs)[i]? =some (b,e):=by refine⟨cs[i],cs[i+1],AAY _,AAY _, ?_⟩;unfold EI;rw[AFL];refine⟨AAY _, ?_⟩;rw[List.getElem?_tail];exact AAY _
def Mj {cs:kn C4}(a:TH cs){p:C4×C4}(h:p∈EI cs):p.1∈cs/\p.2∈cs/\p.1.1<p.2.1:=by obtain⟨i,hi⟩:=List.getElem?_of_mem h;unfold EI at hi;rw[AFL] at hi;obtain⟨h1,h2⟩:=hi;rw[List.getElem?_tail] at h2;exact⟨ABB h1,ABB h2,YX a h1 h2⟩
def dU {cs:kn C4}{v:PV}{B:Nat}(hv:Ld cs v)(hc:∀c∈cs,F6 B c)(o:TH cs)(h2:2<=cs.length)(hl:cs.length<=1000)(r:6*B+3<=3900){Q:PV->Prop}(q:Q (.lst ((EI cs).map λp=>CV p.1 p.2))):DO [v] Q:=by
 obtain⟨f,s,hv⟩:=hv;apply Pj;have t:(EI cs).length=cs.length-1:=by unfold EI;simp
 have go:∀w:PV,(∀(k:Int) (j:Nat) (c:C4) {R:PV->Prop},k=(j:Int)->cs[j]? =some c->R (f c)->Ah w (.int k) R)->DC (An 0) Gb (AN 2 Bs (AB (AW Ah (aV 1) (aV 0)) (AB (AW Ah (aV 1) (AW Ba (aV 0) (aC (PV.int 1)))) AM))) [none,some (AV.val w)] (λxs=>Q (PV.lst xs)) (rng 0 ((cs.length:Int)-1).toNat) [] :=λw ix=>by
  refine Xk (λi a=>a=((EI cs).map λp=>CV p.1 p.2).take i) (λa e=> ?_) (λi hi a R n e=> ?_) rfl
  .rw [e,ACp (by rw[AAK,t];omega)];exact q
  .obtain ⟨b,d,g,l,ep⟩:=SN (cs:=cs) (i:=i) (by omega);have m:=n (a ++ [CV b d]) (by rw[e,List.take_add_one,AAh,ep];rfl);clear n;ac_rfl;refine ix _ i b (by omega) g ?_;ac_rfl;refine ix _ (i+1) d (by omega) l ?_;ac_rfl;refine dR s (hc b (ABB g)) (hc d (ABB l)) (YX o g l) r ?_;exact m
 rcases hv with rfl|rfl
 .ac_rfl;exact go _ λk j c R hk e h=>Xy hk e h
 .ac_rfl;exact go _ λk j c R hk e h=>Xy hk e h
def bY {b:T3}{w:PV}(hw:Yx b w){R:PV->Prop}:(R (fr b.1)->Ah w (.int 0) R)/\(R (fr b.2.1)->Ah w (.int 1) R)/\(R (fr b.2.2)->Ah w (.int 2) R):=by rcases hw with rfl|rfl <;> exact⟨id,id,id⟩
abbrev Fm:=Rat×Rat×Int
def hF (f:Fm)(t:Rat):Prop:=0<f.1+f.2.1*t\/(f.1+f.2.1*t=0/\f.2.2=0)
structure kT (N:Nat) (f:Fm) (p:Ed):Prop where
 ok:fx N p
 s:p.s=f.2.2
 ex:∃S:Rat,0<S/\(p.c0:Rat)=f.1*S/\(p.c1:Rat)=f.2.1*S
inductive bF (N:Nat):List Fm->List Ed->Prop where
 | nil:bF N [] []
 | cons {f:Fm} {p:Ed} {fs:List Fm} {ps:List Ed} (h:kT N f p) (t:bF N fs ps):bF N (f::fs) (p::ps)
def kT.sign {N:Nat}{f:Fm}{p:Ed}(h:kT N f p):(0<p.c1↔0<f.2.1)/\(p.c1<0↔f.2.1<0):=by
 obtain⟨S,c,e,d⟩:=h.ex;have a:0<p.c1↔(0:Rat)<(p.c1:Rat):=by rw[<-ABU,AB7]
 have b:p.c1<0↔(p.c1:Rat)<0:=by rw[<-ABU,AB7]
 rw[a,b,d];refine⟨?_, ?_⟩
 .rw [Rat.mul_comm,ACw c]
 .constructor
  .intro k;have:0<S*(-f.2.1):=by grind
   rw[ACw c] at this;grind
  .intro k;have:0<S*(-f.2.1):=ACO c (by grind);grind
def kT.turn {N:Nat}{f:Fm}{p:Ed}(h:kT N f p)(e:f.2.1≠0):f.1+f.2.1*CI p=0:=by
 obtain⟨S,g,b,a⟩:=h.ex;have hs:S≠0:=by grind
 have c:(p.c1:Rat)≠0:=by rw[a];intro z;rcases ACh.mp z with z|z <;> contradiction
 have d:p.c1≠0:=by intro z;rw[z] at c;exact c rfl
 have:=(CN d).2.2;rw[b,a] at this;have:S*(f.1+f.2.1*CI p)=0:=by grind
 rcases ACh.mp this with z|z
 .contradiction
 .exact z
def bF.mem {N:Nat}:∀{e:kn Fm} {ps:kn Ed},bF N e ps->(∀p∈ps,∃f∈e,kT N f p)/\(∀f∈e,∃p∈ps,kT N f p)/\ps.length=e.length
 | _,_, .nil=>⟨by simp,by simp,rfl⟩
 | _,_, .cons h t=>by
   obtain⟨a,b,c⟩:=t.mem;refine⟨λp hp=> ?_,λf d=> ?_,by simp[c]⟩
   .rcases AAI.mp hp with rfl|hp
    .exact ⟨_,by simp,h⟩
    .obtain ⟨f,d,k⟩:=a p hp;exact⟨f,by simp[d],k⟩
   .rcases AAI.mp d with rfl|d
    .exact ⟨_,by simp,h⟩
    .obtain ⟨p,hp,k⟩:=b f d;exact⟨p,by simp[hp],k⟩
def uX (lo hi p:T3):Prop:=(lo.1<p.1/\p.1<hi.1)/\(lo.2.1<p.2.1/\p.2.1<hi.2.1)/\(lo.2.2<p.2.2/\p.2.2<hi.2.2)
instance (lo hi p:T3):Decidable (uX lo hi p):=by unfold uX;infer_instance
def mB (lo hi:T3)(p:C4×C4)(t:Rat):Prop:=p.1.1<=t/\t<p.2.1/\uX lo hi (inter p.1 p.2 t)
def xb (lo hi:T3)(p:C4×C4)(m:Rat):Prop:=m=p.1.1\/m=p.2.1\/(p.1.1<m/\m<p.2.1/\((p.1.2.1≠p.2.2.1/\((inter p.1 p.2 m).1=lo.1\/(inter p.1 p.2 m).1=hi.1))\/(p.1.2.2.1≠p.2.2.2.1/\((inter p.1 p.2 m).2.1=lo.2.1\/(inter p.1 p.2 m).2.1=hi.2.1))\/(p.1.2.2.2≠p.2.2.2.2/\((inter p.1 p.2 m).2.2=lo.2.2\/(inter p.1 p.2 m).2.2=hi.2.2))))
def TB {p:Ed}{N:Nat}(h:fx N p)(c:p.c1≠0):Bd N (CI p):=by obtain⟨a,b⟩:=HD h;rw[<-XN c];exact .divInt (by have:=(CN c).1;omega) a b
structure bK (N:Nat) (lo hi:T3) (p:C4×C4) (s:C6):Prop where
 ok:GJ N s
 fin:∃x,s.2.2=some x/\xb lo hi p x
 bmk:xb lo hi p s.1
 sem:∀t,C1 s (t,0)=true↔mB lo hi p t
structure Jd (N:Nat) (lo hi:T3) (us:List (C4×C4)) (ss:List C6):Prop where
 ok:∀s∈ss,∃p∈us,bK N lo hi p s
 all:∀p∈us,∀t,mB lo hi p t->∃s∈ss,C1 s (t,0)=true
 len:ss.length<=us.length
def Jd.more {N:Nat}{lo hi:T3}{c:kn (C4×C4)}{ss:kn C6}{p:C4×C4}{s:C6}(h:Jd N lo hi c ss)(k:bK N lo hi p s):Jd N lo hi (c ++ [p]) (ss ++ [s]):=by
 refine⟨λx hx=> ?_,λq a t b=> ?_,by have:=h.len;simp;omega⟩
 .rcases AAL.mp hx with hx|hx
  .obtain ⟨q,a,r⟩:=h.ok x hx;exact⟨q,by simp[a],r⟩
  .rw [AAa.mp hx];exact⟨p,by simp,k⟩
 .rcases AAL.mp a with a|a
  .obtain ⟨x,hx,r⟩:=h.all q a t b;exact⟨x,by simp[hx],r⟩
  .rw [AAa.mp a] at b;exact⟨s,by simp,(k.sem t).mpr b⟩
def Jd.st {N:Nat}{lo hi:T3}{a:kn (C4×C4)}{ss:kn C6}(h:Jd N lo hi a ss):∀s∈ss,GJ N s:=λs hs=>let ⟨_,_,k⟩:=h.ok s hs;k.ok
instance{r:AA}{τ:BE}{a:kn PV->Prop}:Wp (qL r τ a) (r τ λb=>match b with | [.lst xs] =>a (B0 0 xs)|_=>False):=⟨id⟩
def sO (k:Int)(c:C4):Rat:=if k % 3=0 then c.2.1 else if k % 3=1 then c.2.2.1 else c.2.2.2
def E6 (lo hi:T3):kn (Int×Rat):= [(0,lo.1),(1,lo.2.1),(2,lo.2.2),(3,hi.1),(4,hi.2.1),(5,hi.2.2)]
def uU (p:C4×C4)(u:Int×Rat)(m:Rat):Prop:=p.1.1<m/\m<p.2.1/\sO u.1 p.1≠sO u.1 p.2/\sO u.1 p.1+(m-p.1.1)/(p.2.1-p.1.1)*(sO u.1 p.2-sO u.1 p.1)=u.2
structure kO (W:Nat) (cs:List C4) (us:List (C4×C4)) (lo hi:T3) (p:C4×C4) (ws:List (Int×Rat)) (ms:List Rat):Prop where
 bd:∀m∈ms,Bd W m
 crn:∀c∈cs,c.1∈ms
 ed:∀p∈us,∀u∈E6 lo hi,∀m,uU p u m->m∈ms
 ed2:∀u∈ws,∀m,uU p u m->m∈ms
 len:ms.length<=cs.length+6*us.length+ws.length
def kO.more {W:Nat}{cs:kn C4}{b:kn (C4×C4)}{lo hi:T3}{p:C4×C4}{d:kn (Int×Rat)}{ms:kn Rat}{u:Int×Rat}(h:kO W cs b lo hi p d ms){x:Rat}(e:Bd W x)(k:∀m,uU p u m->m=x):kO W cs b lo hi p (d ++ [u]) (ms ++ [x]):=by
 refine⟨λm a=> ?_,λc hc=>by simp[h.crn c hc],λq f v hv m a=>by simp[h.ed q f v hv m a],λv hv m a=> ?_,by have:=h.len;simp;omega⟩
 .rcases AAL.mp a with a|a
  .exact h.bd m a
  .rw [AAa.mp a];exact e
 .rcases AAL.mp hv with hv|hv
  .simp [h.ed2 v hv m a]
  .rw [AAa.mp hv] at a;simp[k m a]
def sv (p:Int×Int):Rat:=(p.1:Rat)/(p.2:Rat)
section
variable {cs ds:kn C4}{d:Rat×Rat}{M W:Nat}
def Rs (cs ds:kn C4)(d:Rat×Rat)(m:Rat):Prop:=lB cs ds<=m/\m<lI cs ds/\u5 (vc cs ds d m)<1
instance {m:Rat}:Decidable (Rs cs ds d m):=by unfold Rs;infer_instance
structure jf (cs ds:List C4) (d:Rat×Rat) (B:Nat) (ss:List C6):Prop where
 few:ss.length<=201
 ok:∀s∈ss,GJ B s
 fin:∀s∈ss,∃x,s.2.2=some x
 sem:∀m,ss.any (C1 · (m,0))=true↔Rs cs ds d m
 pf:ss.length<=(pcs cs ds d).length
end
def gX {ss:kn C6}(a:∀s∈ss,∃x,s.2.2=some x)(k:Rat):∃m,k<m/\ss.any (C1 · (m,0))=false:=by
 induction ss with
 | nil=>exact⟨k+1,by grind,rfl⟩
 | cons s ss g=>
   obtain⟨x,hx⟩:=a s (by simp);have c:∀(b:kn C6),(∀s∈b,∃x,s.2.2=some x)->∃n:Rat,k<n/\∀s∈b,∀x,s.2.2=some x->x<n:=by
    intro b;induction b with
    | nil=>intro _;exact⟨k+1,by grind,by simp⟩
    | cons t b d=>
      intro e;obtain⟨n,h1,h2⟩:=d λs hs=>e s (by simp[hs]);obtain⟨y,hy⟩:=e t (by simp);by_cases z:y<n
      .refine ⟨n,h1,λs hs x hx=> ?_⟩;rcases AAI.mp hs with rfl|hs
       .rw [hy] at hx;cases hx;exact z
       .exact h2 s hs x hx
      .refine ⟨y+1,by grind,λs hs x hx=> ?_⟩;rcases AAI.mp hs with rfl|hs
       .rw [hy] at hx;cases hx;grind
       .have:=h2 s hs x hx;grind
   obtain⟨n,h1,h2⟩:=c (s::ss) a;refine⟨n,h1, ?_⟩;rw[List.any_eq_false];intro t f z;obtain⟨y,hy⟩:=a t f;have:=h2 t f y hy;unfold C1 at z;rw[hy] at z;simp at z;grind
def ZP {B:Nat}{ss:kn C6}(ok:∀s∈ss,GJ B s)(a:∀s∈ss,∃x,s.2.2=some x):∀r∈canon 1 ss,∃x,r.2.2=some x:=by
 intro r b;cases e:r.2.2 with
 | some x=>exact⟨x,rfl⟩
 | none=> exfalso;obtain⟨m,h1,h2⟩:=gX a r.1;rw[<-Tu ok (p:=(m,0)) (.inl rfl)] at h2;rw[List.any_eq_false] at h2;refine h2 r b ?_;unfold C1;rw[e];simp;exact .inl h1
structure Told (P:Rat->Prop) (B:Nat) (cc:List C6):Prop where
 ok:∀s∈cc,GJ B s
 fin:∀s∈cc,∃x,s.2.2=some x
 few:cc.length<=2000
 sem:∀m,cc.any (C1 · (m,0))=true↔P m
def jf.told {cs ds:kn C4}{d:Rat×Rat}{B:Nat}{ss:kn C6}(n:jf cs ds d B ss):Told (Rs cs ds d) B (canon 1 ss):=
 ⟨bh n.ok,ZP n.ok n.fin,by have:=V1 (n:=1) (ss:=ss);have:=n.few;omega,λm=>by rw[Tu n.ok (p:=(m,0)) (.inl rfl)];exact n.sem m⟩
def Jd.sem {N:Nat}{lo hi:T3}{a:kn (C4×C4)}{ss:kn C6}(h:Jd N lo hi a ss)(m:Rat):ss.any (C1 · (m,0))=true↔∃p∈a,mB lo hi p m:=by
 rw[ADf];constructor
 .rintro ⟨s,hs,k⟩;obtain⟨p,hp,o⟩:=h.ok s hs;exact⟨p,hp,(o.sem m).mp k⟩
 .rintro ⟨p,hp,k⟩;exact h.all p hp m k
def Jd.fin {N:Nat}{lo hi:T3}{a:kn (C4×C4)}{ss:kn C6}(h:Jd N lo hi a ss):∀s∈ss,∃x,s.2.2=some x:=λs hs=>by obtain⟨p,hp,k⟩:=h.ok s hs;obtain⟨x,hx,_⟩:=k.fin;exact⟨x,hx⟩
end PL
namespace PL.K31
open PySem L2 PL PyProof.Rows
abbrev KS:AS:=
 (Ae (CA (A6 (AW Lh (AN 2 At (AB (aV 0) (AB (aC (.int 2)) AM))) (aC (.int 0)))) (As (Ak (AB (Ak (AB (aC (.int 0)) (AB (aC (.int 1)) AM))) (AB (Ak (AB (aC (.int 0)) (AB (aC (.int 1)) AM))) (AB (Ak (AB (aC (.int 0)) (AB (aC (.int 1)) AM))) AM))))) BO)
   (As (Ak (AB (AW Ah (aV 1) (AN 2 At (AB (aV 0) (AB (aC (.int 4)) AM)))) (AB (AW Ah (aV 1) (AN 2 At (AB (aV 0) (AB (aC (.int 4)) AM)))) (AB (AW Ah (aV 1) (AN 2 At (AB (aV 0) (AB (aC (.int 6)) AM)))) AM))))))
abbrev He:AS:=
 (Ae (Ao (IL (EA (AB (Ak (AB (aC (.int 0)) (AB (aC (.int 1)) AM))) (AB (Ak (AB (aC (.int 1)) (AB (aC (.int 2)) AM))) (AB (Ak (AB (aC (.int 1)) (AB (aC (.int 1)) AM))) (AB (Ak (AB (aC (.int 1)) (AB (aC (.int 3)) AM))) (AB (Ak (AB (aC (.int 3)) (AB (aC (.int 1)) AM))) (AB (Ak (AB (aC (.int 40)) (AB (aC (.int 1)) AM))) AM)))))))) (An 1))
   KS)
def C9:AF:=Ar 2 He
def MT {a:PV}{Q:PV->Prop}(h:He ⟨λ_=>Q .non,Q,λ_=>False,λ_=>False⟩ [some (.val a),none]):C9 [a] Q:=h
def lN (cs:kn C4)(b:T3):Kv cs b (Dg cs b):=⟨_,_,⟨cor, .inl rfl, .inl rfl⟩, .inl rfl, .inl rfl⟩
end PL.K31
namespace PL
open PySem L2 PyProof.Rows PL.K31
abbrev Fl:=kn C4×T3
end PL
namespace PL
open PySem L2 PL PyProof.Rows
abbrev NA:AS:=
 (Ae (Ao (Ak (AB (Ak (AB (AN 1 Cg (AB (AW Ah (aV 3) (aC (.int 0))) AM)) (AB (aC (.tup [(.int 1),(.int 1)])) (AB (aC (.tup [(.int 0),(.int 1)])) AM)))) (AB (Ak (AB (AW Ah (aV 3) (aC (.int 1))) (AB (aC (.tup [(.int (-1)),(.int 1)])) (AB (aC (.tup [(.int 0),(.int 1)])) AM)))) (AB (Ak (AB (AN 1 Cg (AB (AW Ah (aV 4) (aC (.int 0))) AM)) (AB (aC (.tup [(.int 0),(.int 1)])) (AB (aC (.tup [(.int 1),(.int 1)])) AM)))) (AB (Ak (AB (AW Ah (aV 4) (aC (.int 1))) (AB (aC (.tup [(.int 0),(.int 1)])) (AB (aC (.tup [(.int (-1)),(.int 1)])) AM)))) (AB (Ak (AB (AW Ah (aV 6) (aC (.int 0))) (AB (aC (.tup [(.int 1),(.int 1)])) (AB (aC (.tup [(.int (-1)),(.int 1)])) AM)))) (AB (Ak (AB (AW Ah (aV 6) (aC (.int 1))) (AB (aC (.tup [(.int (-1)),(.int 1)])) (AB (aC (.tup [(.int 1),(.int 1)])) AM)))) AM))))))) (An 2))
   (As (AW Ah (aV 2) (aV 1))))
abbrev LZ:AS:=
 (Ae (Ao (aV 0) (Hm 4 (Ag (An 3) (Ag (An 4) (Ag (An 5) (Ag (An 6) Bf))))))
   NA)
def D5:AF:=Ar 7 LZ
def Pk {a b:PV}{Q:PV->Prop}(h:LZ ⟨λ_=>Q .non,Q,λ_=>False,λ_=>False⟩ [some (.val a),some (.val b),none,none,none,none,none]):D5 [a,b] Q:=h
abbrev M7:AS:=
 (Ae (CA (A6 (AW Lh (AW RO (aV 1) (aC (.int 2))) (aC (.int 0)))) (As (Ak (AB (AN 2 EL (AB (AW Ah (aV 6) (aV 2)) (AB (aV 3) AM))) (AB (AN 1 Cg (AB (aV 9) AM)) (AB (aV 11) AM))))) BO)
   (As (Ak (AB (AN 2 E5 (AB (AW Ah (aV 6) (aV 2)) (AB (aV 3) AM))) (AB (aV 9) (AB (AN 1 Cg (AB (aV 11) AM)) AM))))))
abbrev M6:AS:=
 (Ae (Ao (AN 2 EL (AB (aV 8) (AB (aV 10) AM))) (An 3))
   M7)
abbrev M5:AS:=
 (Ae (Ao (AW Ah (AW Ah (aV 5) (aC (.int 2))) (aV 2)) (Hm 2 (Ag (An 10) (Ag (An 11) Bf))))
   M6)
abbrev M4:AS:=
 (Ae (Ao (AW Ah (AW Ah (aV 4) (aC (.int 2))) (aV 2)) (Hm 2 (Ag (An 8) (Ag (An 9) Bf))))
   M5)
abbrev M3:AS:=
 (Ae (Ao (AW PQ (AW GL (aV 1) (aC (.int 6))) (aC (.int 2))) (An 2))
   M4)
abbrev LY:AS:=
 (Ae (Ao (aV 0) (Hm 4 (Ag (An 4) (Ag (An 5) (Ag (An 6) (Ag (An 7) Bf))))))
   M3)
def BS:AF:=Ar 12 LY
def CT {a b:PV}{Q:PV->Prop}(h:LY ⟨λ_=>Q .non,Q,λ_=>False,λ_=>False⟩ [some (.val a),some (.val b),none,none,none,none,none,none,none,none,none,none]):BS [a,b] Q:=h
abbrev Ps:AS:=
 (As (pM (A6 (AW ZY (aV 1) (aC (.int 6)))) (AN 2 D5 (AB (aV 0) (AB (aV 1) AM))) (AN 2 BS (AB (aV 0) (AB (aV 1) AM)))))
def FP:AF:=Ar 2 Ps
def VA {a b:PV}{Q:PV->Prop}(h:Ps ⟨λ_=>Q .non,Q,λ_=>False,λ_=>False⟩ [some (.val a),some (.val b)]):FP [a,b] Q:=h
abbrev TV:AS:=
 (Ae (ZE 3 (aV 1) (aC (.int 0)))
   (As (Ak (AB (HI Di (AB (aV 3) AM)) (AB (AW Ah (aV 0) (aC (.int 1))) (AB (AW Ah (aV 0) (aC (.int 2))) AM))))))
abbrev TU:AS:=
 (Ae (jl 3 (aC (.int 0)) (AW BV (AW Ah (AW Ah (aV 0) (aC (.int 0))) (aV 1)) (aV 4)))
   TV)
abbrev TR:AS:=
 (Ae (GK (Cm (Le (AW Ah (aV 0) (aC (.int 0)))) 1 [5] (An 0) Gb (AW BV (aV 1) (aV 0))) 3)
   TU)
abbrev TQ:AS:=
 (Ae (Ao (aV 2) (Hm 2 (Ag (An 4) (Ag (An 5) Bf))))
   TR)
def D4:AF:=Ar 6 TQ
def OG {a b c:PV}{Q:PV->Prop}(h:TQ ⟨λ_=>Q .non,Q,λ_=>False,λ_=>False⟩ [some (.val a),some (.val b),some (.val c),none,none,none]):D4 [a,b,c] Q:=h
abbrev JV:AS:=
 (Ae (Df (qM (aV 0)) (An 2) (Ao (AN 2 FO (AB (aV 2) (AB (aV 1) AM))) (An 1)))
   (As (HI Di (AB (IL (Cm (Le (HI cE (AB (aV 0) AM))) 1 [1,0] (An 0) Gb (Ak (AB (aV 0) (AB (AN 1 HH (AB (AW PQ (xg (aV 2) (aV 0)) (aV 1)) AM)) AM))))) AM))))
abbrev GT:AS:=
 (Ae (Ao (aC (.int 0)) (An 1))
   JV)
def Ci:AF:=Ar 3 GT
def LF {a:PV}{Q:PV->Prop}(h:GT ⟨λ_=>Q .non,Q,λ_=>False,λ_=>False⟩ [some (.val a),none,none]):Ci [a] Q:=h
abbrev NC:AS:=
 (Ae (Ao (AN 2 Eb (AB (aV 0) (AB (aV 1) AM))) (Hm 3 (Ag (An 2) (Ag (An 3) (Ag (An 4) Bf)))))
   (As (AN 2 IH (AB (AN 2 E5 (AB (aV 2) (AB (aV 4) AM))) (AB (AN 1 HH (AB (aC (.int 2)) AM)) AM)))))
def Cj:AF:=Ar 5 NC
def So {a b:PV}{Q:PV->Prop}(h:NC ⟨λ_=>Q .non,Q,λ_=>False,λ_=>False⟩ [some (.val a),some (.val b),none,none,none]):Cj [a,b] Q:=h
abbrev GV:AS:=
 (Ae (CA (NU (A6 (AN 2 Dc (AB (AW Ah (aV 2) (aC (.int 0))) (AB (AN 2 E5 (AB (AW Ah (aV 1) (aC (.int 1))) (AB (AW Ah (aV 4) (aC (.int 0))) AM))) AM))))) (As (Ak (AB (Ak (AB (aC (.int 1)) (AB (aC (.tup [(.int 1),(.int 1)])) AM))) (AB (Ak (AB (aC (.int 2)) (AB (aC (.tup [(.int 1),(.int 1)])) AM))) (AB (Ak (AB (aC (.int 4)) (AB (aC (.tup [(.int 1),(.int 1)])) AM))) AM))))) BO)
   (As (aC .non)))
abbrev GU:AS:=
 (Ae (CA (NU (A6 (AN 2 Dc (AB (AW Ah (aV 1) (aC (.int 0))) (AB (AN 2 E5 (AB (AW Ah (aV 2) (aC (.int 1))) (AB (AW Ah (aV 4) (aC (.int 1))) AM))) AM))))) (As (Ak (AB (Ak (AB (aC (.int 0)) (AB (aC (.tup [(.int 1),(.int 1)])) AM))) (AB (Ak (AB (aC (.int 3)) (AB (aC (.tup [(.int 1),(.int 1)])) AM))) (AB (Ak (AB (aC (.int 5)) (AB (aC (.tup [(.int 1),(.int 1)])) AM))) AM))))) BO)
   GV)
abbrev Er:AS:=
 (Ae (Ao (aV 0) (Hm 4 (Ag (An 1) (Ag (An 2) (Ag (An 3) (Ag (An 4) Bf))))))
   GU)
def Bu:AF:=Ar 5 Er
def Hd {a:PV}{Q:PV->Prop}(h:Er ⟨λ_=>Q .non,Q,λ_=>False,λ_=>False⟩ [some (.val a),none,none,none,none]):Bu [a] Q:=h
abbrev Q9:AS:=
 (Ae (Df (Le (aV 3)) (An 6) (Df (Le (aV 4)) (An 7) (CA (A6 (AW xj (kr (AW Ah (aV 6) (aC (.int 2))) (AW Ah (aV 7) (aC (.int 2)))) (aV 2))) (C3 5 FA (AB (AN 3 EV (AB (aV 6) (AB (aV 7) (AB (aV 1) AM)))) AM)) BO)))
   (As (aV 5)))
abbrev Q8:AS:=
 (Ae (GK (Cm (Le (aV 0)) 1 [1] (An 0) (A6 (AW Lh (AW Ah (AW Ah (aV 0) (aC (.int 0))) (aV 1)) (aC (.int 0)))) (aV 0)) 5)
   Q9)
abbrev Q7:AS:=
 (Ae (Ao (IL (Cm (Le (aV 0)) 1 [1] (An 0) (A6 (AW ZY (AW Ah (AW Ah (aV 0) (aC (.int 0))) (aV 1)) (aC (.int 0)))) (aV 0))) (An 4))
   Q8)
abbrev P0:AS:=
 (Ae (Ao (IL (Cm (Le (aV 0)) 1 [1] (An 0) (A6 (AW V9 (AW Ah (AW Ah (aV 0) (aC (.int 0))) (aV 1)) (aC (.int 0)))) (aV 0))) (An 3))
   Q7)
def EY:AF:=Ar 8 P0
def VH {a b c:PV}{Q:PV->Prop}(h:P0 ⟨λ_=>Q .non,Q,λ_=>False,λ_=>False⟩ [some (.val a),some (.val b),some (.val c),none,none,none,none,none]):EY [a,b,c] Q:=h
abbrev Q3:AS:=
 (Ae (Ao (AN 2 Cj (AB (aV 3) (AB (aC (.int 1)) AM))) (An 5))
   (As (Ak (AB (Ak (AB (aV 5) (AB (AN 2 Cj (AB (IL (Cm (Le (aV 2)) 1 [5] (An 0) Gb (AN 3 D4 (AB (aV 0) (AB (aC (.int 1)) (AB (aV 1) AM)))))) (AB (aC (.int 2)) AM))) AM))) (AB (aC .non) AM)))))
abbrev Q2:AS:=
 (Ae (CA (A6 (AW Li (aV 4) (aC .non))) (As (Ak (AB (aC .non) (AB (AN 1 Ci (AB (AW Ah (aV 4) (aC (.int 2))) AM)) AM)))) BO)
   Q3)
abbrev Q1:AS:=
 (Ae (Ao (AN 2 Ds (AB (aV 3) (AB (aC (.int 1)) AM))) (An 4))
   Q2)
abbrev Q0:AS:=
 (Ae (Ao (bM 3 EY 2 (AB (aV 2) (AB (aC (.int 2)) AM))) (An 3))
   Q1)
abbrev Qz:AS:=
 (Ae (Ao (IL (Cm (Jf (AB (aC (.int 12)) AM)) 1 [0] (An 0) Gb (AN 3 Ea (AB (AN 2 FP (AB (aV 1) (AB (aV 0) AM))) (AB (AW Ah (aC (.tup [(.int 0),(.int 1),(.int 0),(.int 1),(.int 0),(.int 0),(.int 1),(.int 1),(.int 1),(.int 1),(.int 1),(.int 1)])) (aV 0)) (AB (aV 0) AM)))))) (An 2))
   Q0)
abbrev Qy:AS:=
 (Ae (CA (A6 (AW Li (aV 1) (aC .non))) (As (Ak (AB (aC .non) (AB (aV 1) AM)))) BO)
   Qz)
abbrev Pw:AS:=
 (Ae (Ao (AN 1 Bu (AB (aV 0) AM)) (An 1))
   Qy)
def FQ:AF:=Ar 6 Pw
def VD {a:PV}{Q:PV->Prop}(h:Pw ⟨λ_=>Q .non,Q,λ_=>False,λ_=>False⟩ [some (.val a),none,none,none,none,none]):FQ [a] Q:=h
abbrev NG:AS:=
 (Ae (Df (qL (AB (AN 1 DO (AB (AW Ah (aV 0) (aC (.int 0))) AM)) AM)) (Hm 2 (Ag (An 7) (Ag (An 8) Bf))) (Df (qL (AB (aV 5) AM)) (Hm 2 (Ag (An 9) (Ag (An 10) Bf))) (C3 6 FA (AB (Ak (AB (aV 7) (AB (aV 9) (AB (Ak (AB (aV 8) (AB (aV 10) (AB (aV 3) (AB (aV 4) AM))))) AM)))) AM))))
   (As (aV 6)))
abbrev NF:AS:=
 (Ae (GK (EA AM) 6)
   NG)
abbrev NE:AS:=
 (Ae (Ao (AN 1 DO (AB (AW Ah (aV 1) (aC (.int 0))) AM)) (An 5))
   NF)
abbrev ND:AS:=
 (Ae (Ao (Ak (AB (AW Ah (AW Ah (aV 0) (aC (.int 1))) (aC (.int 2))) (AB (AW Ah (AW Ah (aV 1) (aC (.int 1))) (aC (.int 2))) AM))) (An 4))
   NE)
abbrev La:AS:=
 (Ae (Ao (AN 3 Ec (AB (aV 0) (AB (aV 1) (AB (aV 2) AM)))) (An 3))
   ND)
def DQ:AF:=Ar 11 La
def Pm {a b c:PV}{Q:PV->Prop}(h:La ⟨λ_=>Q .non,Q,λ_=>False,λ_=>False⟩ [some (.val a),some (.val b),some (.val c),none,none,none,none,none,none,none,none]):DQ [a,b,c] Q:=h
abbrev MC:AS:=
 (Ae (CA (A6 (AW Li (aV 7) (aC .non))) (As (Ak (AB (aC (.str "meet")) (AB (AW Ah (aV 7) (aC (.int 0))) (AB (AW Ah (aV 7) (aC (.int 1))) AM))))) BO)
   (C3 3 FA (AB (Ak (AB (aV 4) (AB (aV 5) (AB (aV 8) AM)))) AM)))
abbrev Q4:AS:=
 (Ae (Ao (AN 1 FQ (AB (aV 6) AM)) (Hm 2 (Ag (An 7) (Ag (An 8) Bf))))
   MC)
abbrev Q5:AS:=
 (Ae (Df (Le (AN 3 DQ (AB (aV 0) (AB (aV 1) (AB (aV 2) AM))))) (Hm 3 (Ag (An 4) (Ag (An 5) (Ag (An 6) Bf)))) Q4)
   (As (Ak (AB (aC (.str "apart")) (AB (HI Di (AB (aV 3) AM)) AM)))))
abbrev Px:AS:=
 (Ae (GK (EA AM) 3)
   Q5)
def EX:AF:=Ar 9 Px
def VE {a b c:PV}{Q:PV->Prop}(h:Px ⟨λ_=>Q .non,Q,λ_=>False,λ_=>False⟩ [some (.val a),some (.val b),some (.val c),none,none,none,none,none,none]):EX [a,b,c] Q:=h
end PL
namespace PL
open PySem L2 PyProof.Rows
def Vy {a b:Rat}{Q:PV->Prop}(ha:Bd 8800 a)(hb:Bd 8800 b)(h:Q (.bl (decide (a<b)))):Dc [fr a,fr b] Q:=by refine⟨.of ha.top hb.botI, .of hb.top ha.botI, ?_⟩;rw[<-rK] at h;exact h
def dG {a b:Rat}{Q:PV->Prop}(c:b≠0)(ha:Bd 8000 a)(hb:Bd 100 b)(h:Q (fr (a/b))):IH [fr a,fr b] Q:=by refine⟨.of ha.top hb.botI, .of ha.botI hb.top,rfl,Dv _ _ (Cr (BU a) (Ru c)) (Aw (A8 (a:=(a.den:Int)) ha.botI hb.top) (by omega)) _ ?_⟩;rw[Fi] at h;exact h
instance (priority:=high){a b:Rat}{Q:PV->Prop}:ZC (Dc [fr a,fr b] Q) (Bd 8800 a/\Bd 8800 b) (Q (.bl (decide (a<b)))):=⟨λc h=>Vy c.1 c.2 h⟩
structure Bz where
 c0:Int
 c1:Int
 c2:Int
 s:Int
 w:List (Int×Int)
def A0 (p:Bz):PV:= .tup [.tup [.int p.c0, .int p.c1, .int p.c2], .int p.s, .dk p.w]
def Oi (a:kd):Int:=if a then 2 else 1
def Bz.pr (a:kd)(p:Bz):Ed:=⟨p.c0,if a then p.c2 else p.c1,p.s,p.w⟩
structure Bn (N:Nat) (p:Bz):Prop where
 a:p.c0.natAbs<2^N
 b:p.c1.natAbs<2^N
 c:p.c2.natAbs<2^N
 w:∀e∈p.w,e.2.natAbs<2^N
 l:p.w.length<=12
 s:p.s=0\/p.s=1
def Bn.pr {N:Nat}{p:Bz}(h:Bn N p)(a:kd):fx N (p.pr a):=⟨h.a,by cases a;exact h.b;exact h.c,h.w,h.l,h.s⟩
instance{p:Bz}:Ix (A0 p) 0 (.tup [.int p.c0, .int p.c1, .int p.c2]):=⟨rfl⟩
instance{p:Bz}:Ix (A0 p) 1 (.int p.s):=⟨rfl⟩
instance{p:Bz}:Ix (A0 p) 2 (.dk p.w):=⟨rfl⟩
def Gc {a:kd}{p:Bz}{Q:PV->Prop}(q:Q (.int (p.pr a).c1)):Ah (.tup [.int p.c0, .int p.c1, .int p.c2]) (.int (Oi a)) Q:=by cases a <;> exact q
def sW (p r:Bz)(many more:Int):Bz:=⟨many*p.c0+more*r.c0,many*p.c1+more*r.c1,many*p.c2+more*r.c2,max p.s r.s,BY more (BZ many p.w) r.w⟩
def jQ {p r:Bz}{N:Nat}{many more:Int}(hp:Bn N p)(f:Bn N r)(h1:many.natAbs<2^N)(h2:more.natAbs<2^N)(hN:N<=10000){Q:PV->Prop}(q:Q (A0 (sW p r many more))):GY [A0 p, .int many,A0 r, .int more] Q:=by
 have d:∀x y:Int,x.natAbs<2^N->y.natAbs<2^N->MulOk x y:=λx y a b=> .of a b;have sl:(BZ many p.w).length<=p.w.length:=OP;have g:=hp.l;have h:=f.l;apply W3;repeat' array_get_dec
 refine⟨d _ _ h1 hp.a, ?_⟩;repeat' array_get_dec
 refine⟨d _ _ h2 f.a, ?_⟩;repeat' array_get_dec
 refine⟨d _ _ h1 hp.b, ?_⟩;repeat' array_get_dec
 refine⟨d _ _ h2 f.b, ?_⟩;repeat' array_get_dec
 refine⟨d _ _ h1 hp.c, ?_⟩;repeat' array_get_dec
 refine⟨d _ _ h2 f.c, ?_⟩;repeat' array_get_dec
 refine⟨⟨ABE rfl,ABE rfl,ABE rfl⟩, ?_⟩;repeat' array_get_dec
 refine⟨many,rfl,QR (n:=12) g (by decide),λe he=>d _ _ h1 (hp.w e he), ?_⟩;show AW Ah (aV 2) (aC (.int 2)) [some (AV.val (A0 p)),some (AV.val (PV.int many)),some (AV.val (A0 r)),some (AV.val (PV.int more)),some (AV.val (PV.tup [PV.int (many*p.c0+more*r.c0),PV.int (many*p.c1+more*r.c1),PV.int (many*p.c2+more*r.c2)])),none,none,none] _;repeat' array_get_dec
 refine⟨more,rfl,QR (n:=24) (by omega) (by decide),λe he=>d _ _ h2 (f.w e he), ?_⟩;simp only[ADu,AEs];repeat' array_get_dec
 exact q
def A9 (a:kd)(p r:Bz):Bz:=sW p r (-(r.pr a).c1) (p.pr a).c1
def QF {a:kd}{p r:Bz}{N:Nat}(hp:Bn N p)(c:Bn N r)(hN:N<=10000){Q:PV->Prop}(q:Q (A0 (A9 a p r))):EV [A0 p,A0 r, .int (Oi a)] Q:=by
 apply U9;repeat' array_get_dec
 refine Gc ?_;repeat' array_get_dec
 refine Gc ?_;repeat' array_get_dec
 exact jQ hp c (by rw[AB3];exact(c.pr a).b) (hp.pr a).b hN q
def QX {p:Bz}(a:kd){Q:PV->Prop}(q:Q (.bl (FB (p.pr a)))):Dt [A0 p] Q:=by
 unfold FB at q;have b:(p.pr a).c0=p.c0:=rfl;have c:(p.pr a).s=p.s:=rfl;rw[b,c] at q;apply Sf;repeat' array_get_dec
 .rename_i h;rw[AAV (.inl h)] at q;exact q
 .rename_i h1 h2;rw[show decide (p.c0<0\/p.c0=0/\p.s=1)=decide (p.s=1) by rw[ADp];omega] at q;exact q
 .rename_i h1 h2;rw[AAW (by omega)] at q;exact q
def KL {a:kd}{p:Bz}{Q:PV->Prop}(q:Q (.tup [.int (Bp (p.pr a)).1, .int (Bp (p.pr a)).2])):DP [A0 p, .int (Oi a)] Q:=by
 unfold Bp at q;have b:(p.pr a).c0=p.c0:=rfl;rw[b] at q;apply VG;repeat' array_get_dec
 refine Gc ?_;generalize (p.pr a).c1=f at *;repeat' array_get_dec
 .rename_i h;rw[AAE h] at q;exact q
 .rename_i h;rw[AAD h] at q;exact q
def VQ {a:kd}{p r:Bz}{N:Nat}(hp:Bn N p)(e:Bn N r)(hN:N<=10000){Q:PV->Prop}(q:Q (.bl (Od (p.pr a) (r.pr a)))):Dd [A0 p,A0 r, .int (Oi a)] Q:=by
 obtain⟨b,c⟩:=HD (hp.pr a);obtain⟨d,b2⟩:=HD (e.pr a);unfold Od at q;apply OF;ac_rfl;refine KL ?_;ac_rfl;refine KL ?_;ac_rfl;refine NX b c d b2 hN ?_;ac_rfl
 .rename_i h;refine Gc ?_;ac_rfl;rw[AAE h] at q;exact q
 rename_i h;rw[AAD h] at q;refine NX d b2 b c hN ?_;ac_rfl
 .rename_i h;refine Gc ?_;ac_rfl;rw[AAE h] at q;exact q
 .rename_i h;rw[AAD h] at q;exact q
instance{p:Bz}{Q:PV->Prop}:Wp (PR (A0 p) .non Q) (Q (.bl false)):=⟨id⟩
def SJ:kf Bz->PV|none=> .non|some p=>A0 p
def HC (a:kd)(sg:Int)(o:kf Bz)(p:Bz):kf Bz:=if 0<(p.pr a).c1*sg then (match o with | none=>some p|some r=>if Od (p.pr a) (r.pr a)=true then some p else some r) else o
def Cw (a:kd)(sg:Int)(ps:kn Bz):kf Bz:=ps.foldl (HC a sg) none
def XO {a:kd}{sg:Int}{o:kf Bz}{p:Bz}:(HC a sg o p).map (Bz.pr a)=Oe sg (o.map (Bz.pr a)) (p.pr a):=by
 unfold HC Oe;split
 .cases o with
  | none=>rfl
  | some r=>
    show Option.map _ (if Od (p.pr a) (r.pr a)=true then some p else some r)=if Od (p.pr a) (r.pr a)=true then some (p.pr a) else some (r.pr a)
    cases Od (p.pr a) (r.pr a) <;> rfl
 .rfl
def XI (a:kd)(sg:Int)(b:kn Bz)(p:Bz):Cw a sg (b ++ [p])=HC a sg (Cw a sg b) p:=by unfold Cw;rw[ADK];rfl
def XJ {a:kd}{sg:Int}{ps:kn Bz}:(Cw a sg ps).map (Bz.pr a)=tight sg (ps.map (Bz.pr a)):=by
 have key:∀(ps:kn Bz) (o:kf Bz),(ps.foldl (HC a sg) o).map (Bz.pr a)=(ps.map (Bz.pr a)).foldl (Oe sg) (o.map (Bz.pr a)):=by
  intro ps;induction ps with
  | nil=>intro o;rfl
  | cons p ps b=> intro o;rw[ABw,b,XO];rfl
 exact key ps none
def Dy {a:kd}{sg:Int}:∀{ps:kn Bz} {r:Bz},Cw a sg ps=some r->r∈ps:=by
 have key:∀(ps:kn Bz) (o:kf Bz) (r:Bz),ps.foldl (HC a sg) o=some r->r∈ps\/o=some r:=by
  intro ps;induction ps with
  | nil=>intro o r h;exact .inr h
  | cons p ps b=>
    intro o r h;rcases b _ _ h with h|h
    .exact .inl (by simp[h])
    .unfold HC at h;split at h
     .cases o with
      | none=>cases h;exact .inl (by simp)
      | some q=>
        dsimp only at h;split at h
        .cases h;exact .inl (by simp)
        .exact .inr h
     .exact .inr h
 intro ps r h;rcases key ps none r h with h|h
 .exact h
 .cases h
def EU {v:PV}{a:kd}{ps:kn Bz}{N:Nat}{sg:Int}(hv:v= .lst (ps.map A0))(h:sg=1\/sg= -1)(ok:∀p∈ps,Bn N p)(hN:N<=10000)(hl:ps.length<=1000){Q:PV->Prop}(q:Q (SJ (Cw a sg ps))):Ch [v, .int (Oi a), .int sg] Q:=by
 subst hv;apply Sn;ac_rfl;refine CZ A0 (λd vs τ=>∃f,τ= [some (.val (.lst (ps.map A0))),some (.val (.int (Oi a))),some (.val (.int sg)),some (.val (SJ (Cw a sg d))),f]) ?_ ?_ ⟨_,rfl⟩
 .rintro τ ⟨f,rfl⟩;ac_rfl;exact q
 .rintro d p vs e τ R i ⟨f,rfl⟩;have j:Bn N p:=ok p (by rw[<-e];simp);have k:∀x∈d,Bn N x:=λx hx=>ok x (by rw[<-e];simp[hx]);have c:=i [some (.val (.lst (ps.map A0))),some (.val (.int (Oi a))),some (.val (.int sg)),some (.val (SJ (Cw a sg (d ++ [p])))),some (.val (A0 p))] ⟨_,rfl⟩;clear i;rw[XI] at c;unfold HC at c;have m1:MulOk (p.pr a).c1 sg:= .of (m:=10000) (n:=10000) (Aw (j.pr a).b hN) (Aw (m:=1) (by omega) (by decide));cases g:Cw a sg d with
  | none=>
    rw[g] at c;rw[show SJ none=PV.non from rfl];ac_rfl;refine Gc ?_;ac_rfl
    .rename_i z;rw[AAE z] at c;exact c
    .rename_i z;rw[AAD z] at c;exact c
  | some r=>
    rw[g] at c;have l:=k r (Dy g);rw[show SJ (some r)=A0 r from rfl];ac_rfl;refine Gc ?_;ac_rfl
    .rename_i z;rw[AAE z] at c;refine VQ j l hN ?_;dsimp only at c;cases hb:Od (p.pr a) (r.pr a) with
     | true=> rw[hb,AAE rfl] at c;ac_rfl;exact c
     | false=> rw[hb,AAD (by decide)] at c;ac_rfl;exact c
    .rename_i z;rw[AAD z] at c;exact c
def aE {v:PV}{a:kd}{ps:kn Bz}{N:Nat}{l h:Bz}(hv:v= .lst (ps.map A0))(ok:∀p∈ps,Bn N p)(hN:N<=8900)(hl:ps.length<=1000)(b:Cw a 1 ps=some l)(c:Cw a (-1) ps=some h)(d:(l.pr a).c1≠0)(e:(h.pr a).c1≠0){Q:PV->Prop}(q:Q (.tup [fr (CI (l.pr a)), .int (1-l.s),fr (CI (h.pr a))])):Eb [v, .int (Oi a)] Q:=by have f:=HD ((ok l (Dy b)).pr a);have b2:=HD ((ok h (Dy c)).pr a);have g:=(CN d).1;have i:=(CN e).1;rw[<-XN d,<-XN e] at q;apply Sk;ac_rfl;refine EU hv (.inl rfl) ok (by omega) hl ?_;rw[b,show SJ (some l)=A0 l from rfl];ac_rfl;refine KL ?_;ac_rfl;refine Dv _ _ (by omega) (Aw f.2 hN) _ ?_;ac_rfl;refine EU hv (.inr rfl) ok (by omega) hl ?_;rw[c,show SJ (some h)=A0 h from rfl];ac_rfl;refine KL ?_;ac_rfl;refine Dv _ _ (by omega) (Aw b2.2 hN) _ ?_;ac_rfl;exact q
def uv:Bd 100 ((2:Int):Rat):=by constructor <;> decide
def Ql {v:PV}{a:kd}{ps:kn Bz}{N:Nat}{l h:Bz}(hv:v= .lst (ps.map A0))(ok:∀p∈ps,Bn N p)(hN:N<=8900)(hl:ps.length<=1000)(b:Cw a 1 ps=some l)(c:Cw a (-1) ps=some h)(d:(l.pr a).c1≠0)(e:(h.pr a).c1≠0)(f:Bd 3900 (CI (l.pr a)))(b2:Bd 3900 (CI (h.pr a))){Q:PV->Prop}(q:Q (fr ((CI (l.pr a)+CI (h.pr a))/2))):Cj [v, .int (Oi a)] Q:=by apply So;ac_rfl;refine aE hv ok hN hl b c d e ?_;ac_rfl;refine dG (by grind) ((f.add b2).mono (by decide)) uv ?_;exact q
def Tz {p:Ed}(h:p.c1=0)(t u:Rat):holds p t↔holds p u:=by
 unfold holds OB;rw[h];have e:∀t:Rat,(p.c0:Rat)+((0:Int):Rat)*t=p.c0:=λt=>by grind
 rw[e,e]
def QV {ps:kn Ed}{l h:Ed}(hs:∀p∈ps,p.s=0\/p.s=1)(g:tight 1 ps=some l)(i:tight (-1) ps=some h){t0:Rat}(a:∀p∈ps,holds p t0):∀p∈ps,holds p ((CI l+CI h)/2):=by
 have b:=(DU (.inl rfl) ps.length ps rfl hs).so l g;have c:=(DU (.inr rfl) ps.length ps rfl hs).so h i;have d:0<l.c1:=by have:=b.2.1;omega
 have f:h.c1<0:=by have:=c.2.1;omega
 have m:=(C2 d t0).mp (a l b.1);have n:=(CD f t0).mp (a h c.1);by_cases o:CI l<CI h
 .have j:holds l ((CI l+CI h)/2):=(C2 d _).mpr (.inl (by grind));have k:holds h ((CI l+CI h)/2):=(CD f _).mpr (.inl (by grind));intro p hp;rcases ACx p.c1 0 with z|z|z
  .exact c.2.2 p hp (by omega) _ k
  .exact (Tz z _ _).mp (a p hp)
  .exact b.2.2 p hp (by omega) _ j
 .have e:(CI l+CI h)/2=t0:=by grind
  rw[e];exact a
def Ge {l h:Ed}(b:0<l.c1)(c:h.c1<0)(u:l.s=0\/l.s=1)(v:h.s=0\/h.s=1)(w:kn (Int×Int)):FB ⟨-h.c1*l.c0+l.c1*h.c0, -h.c1*l.c1+l.c1*h.c1,max l.s h.s,w⟩=false↔∃t,holds l t/\holds h t:=by
 have g:(0:Rat)<l.c1:=by exact_mod_cast b
 have i:(0:Rat) < -(h.c1:Rat):=by
  have:(h.c1:Rat)<0:=by exact_mod_cast c
  grind
 have k:((-h.c1*l.c0+l.c1*h.c0:Int):Rat)=(l.c1 * -(h.c1:Rat))*(CI h-CI l):=by
  push_cast
  rw[(CN (p:=l) (by omega)).2.2,(CN (p:=h) (by omega)).2.2];grind
 have pos:=ACO g i;have key:CI l<CI h↔0 < -h.c1*l.c0+l.c1*h.c0:=by rw[<-AB7,k,ABU,ACw pos];grind
 have a:CI l=CI h↔ -h.c1*l.c0+l.c1*h.c0=0:=by
  rw[<-ADN,k,ABU,ACh];constructor
  .intro e;right;grind
  .rintro (z|z)
   .grind
   .grind
 unfold FB;rw[ACy];dsimp only;constructor
 .intro n;rcases Int.lt_or_eq_of_le (show 0<= -h.c1*l.c0+l.c1*h.c0 by omega) with z|z
  .have m:=key.mpr z;exact⟨(CI l+CI h)/2,(C2 b _).mpr (.inl (by grind)),(CD c _).mpr (.inl (by grind))⟩
  .have j:=a.mpr z.symm;have m0:l.s=0/\h.s=0:=by omega
   exact⟨CI l,(C2 b _).mpr (.inr ⟨rfl,m0.1⟩),(CD c _).mpr (.inr ⟨j.symm,m0.2⟩)⟩
 .rintro ⟨t,o,r⟩;have d:=(C2 b t).mp o;have f:=(CD c t).mp r;by_cases m:CI l<CI h
  .have:=key.mp m;omega
  .have j:CI l=CI h:=by grind
   have:=a.mp j;have:l.s=0:=by
    rcases d with d|d
    .exfalso;grind
    .exact d.2
   have:h.s=0:=by
    rcases f with f|f
    .exfalso;grind
    .exact f.2
   omega
def ZZ {v:PV}{a:kd}{ps:kn Bz}{N:Nat}(hv:v= .lst (ps.map A0))(ok:∀p∈ps,Bn N p)(hN:N<=10000)(hl:ps.length<=1000){l h:Bz}(k:Cw a 1 ps=some l)(m:Cw a (-1) ps=some h){Q:PV->Prop}(s:(∀p∈ps,(p.pr a).c1=0->FB (p.pr a)=false)->FB ((A9 a l h).pr a)=false->Q .non)(n:∀p,(p∈ps/\(p.pr a).c1=0)\/p=A9 a l h->FB (p.pr a)=true->Q (A0 p)):Ds [v, .int (Oi a)] Q:=by
 subst hv;apply Se;ac_rfl;refine CZ A0 (λo vs τ=>(∀p∈o,(p.pr a).c1=0->FB (p.pr a)=false)/\∃i f g,τ= [some (.val (.lst (ps.map A0))),some (.val (.int (Oi a))),i,f,g]) ?_ ?_ ⟨by simp,_,_,_,rfl⟩
 .rintro τ ⟨j,i,f,g,rfl⟩;ac_rfl;refine EU rfl (.inr rfl) ok (by omega) hl ?_;rw[m,show SJ (some h)=A0 h from rfl];ac_rfl;refine EU rfl (.inl rfl) ok (by omega) hl ?_;rw[k,show SJ (some l)=A0 l from rfl];ac_rfl;refine QF (ok l (Dy k)) (ok h (Dy m)) hN ?_;have f1:=n (A9 a l h) (.inr rfl);have t:=s j;generalize A9 a l h=b at *;ac_rfl;refine QX a ?_;cases c:FB (b.pr a) with
  | true=> ac_rfl;exact f1 c
  | false=> ac_rfl;exact t c
 .rintro o p vs e τ R r ⟨j,i,f,g,rfl⟩;have u:p∈ps:=by rw[<-e];simp
  have d:((p.pr a).c1=0->FB (p.pr a)=false)->R [some (AV.val (PV.lst (List.map A0 ps))),some (AV.val (PV.int (Oi a))),some (AV.val (A0 p)),f,g] :=λh=>r _ ⟨λx hx=>by
   rcases AAL.mp hx with hx|hx
   .exact j x hx
   .rw [AAa.mp hx];exact h,_,_,_,rfl⟩
  clear r;ac_rfl;refine Gc ?_;ac_rfl
  .rename_i z;refine QX a ?_;cases c:FB (p.pr a) with
   | true=> ac_rfl;exact n p (.inl ⟨u,z⟩) c
   | false=> ac_rfl;exact d λ_=>c
  .rename_i z;exact d λh=>absurd h z
def N7 {o:kf Nat}{R:Nat->Prop}(j:Nat)(h:o=some j)(q:R j):uG o R:=by subst h;exact q
def DJ (a:kd)(r:Rat)(p:Bz):Bz:=if a then ⟨r.den*p.c0+p.c2*r.num,r.den*p.c1,0,p.s,p.w⟩ else ⟨r.den*p.c0+p.c1*r.num,0,r.den*p.c2,p.s,p.w⟩
def Ww {a:kd}{p:Bz}{r:Rat}{N M:Nat}(hp:Bn N p)(d:Bd M r)(hN:N<=100000)(e:M<=100000){Q:PV->Prop}(q:Q (A0 (DJ a r p))):D4 [A0 p, .int (Oi a),fr r] Q:=by
 have m0:MulOk (r.den:Int) p.c0:= .of d.botI hp.a;have m1:MulOk (r.den:Int) p.c1:= .of d.botI hp.b;have m2:MulOk (r.den:Int) p.c2:= .of d.botI hp.c;have m3:MulOk (p.pr a).c1 r.num:= .of (hp.pr a).b d.top;cases a
 .show D4 [A0 p, .int 1,fr r] Q;have m3:MulOk p.c1 r.num:=m3;apply OG;repeat' array_get_dec
  refine⟨AD7 0,(by show (0:Int)<3;decide), ?_⟩;show AW BV (AW Ah (AW Ah (aV 0) (aC (PV.int 0))) (aV 1)) (aV 4) _ _;simp only[ADu,AEs,Int.toNat_zero];repeat' array_get_dec
  refine N7 1 (by simp[Rl]) ?_;show Pn _ 3 (AV.own [PV.int (r.den*p.c0+p.c1*r.num),PV.int 0,PV.int (r.den*p.c2)]) _;repeat' array_get_dec
  exact q
 .show D4 [A0 p, .int 2,fr r] Q;have m3:MulOk p.c2 r.num:=m3;apply OG;repeat' array_get_dec
  refine⟨AD7 0,(by show (0:Int)<3;decide), ?_⟩;show AW BV (AW Ah (AW Ah (aV 0) (aC (PV.int 0))) (aV 1)) (aV 4) _ _;simp only[ADu,AEs,Int.toNat_zero];repeat' array_get_dec
  refine N7 2 (by simp[Rl]) ?_;show Pn _ 3 (AV.own [PV.int (r.den*p.c0+p.c2*r.num),PV.int (r.den*p.c1),PV.int 0]) _;repeat' array_get_dec
  exact q
def mq (x:PV)(R:Int->Prop):Prop:=match x with | .dk [(i,_)] =>R i|_=>False
instance{i v:Int}{R:Int->Prop}:Wp (mq (.dk [(i,v)]) R) (R i):=⟨id⟩
instance{a b:AE}{τ:BE}{Q:PV->Prop}:Wp (kr a b τ Q) (a τ λx=>mq x λi=>b τ λy=>mq y λj=>Q (.int (uJ i j))):=⟨id⟩
def Dq (a:kd)(ps:kn Bz):kn Bz:=ps.filter (λp=>decide ((p.pr a).c1=0))++(ps.filter λp=>decide (0<(p.pr a).c1)).flatMap λl=>(ps.filter λp=>decide ((p.pr a).c1<0)).map λh=>A9 a l h
def YO {m:kn (Int×Int)}(h:m.length=1):∃i v,m= [(i,v)] :=by
 match m,h with
 | [(i,v)],_=>exact⟨i,v,rfl⟩
def pC (i j:Int):uJ i j<=2:=by unfold uJ;split <;> decide
def VW {v:PV}{a:kd}{ps:kn Bz}{N:Nat}(hv:v= .lst (ps.map A0))(ok:∀p∈ps,Bn N p)(one:∀p∈ps,p.w.length=1)(hN:N<=10000)(hl:ps.length<=20){Q:PV->Prop}(q:Q (.lst ((Dq a ps).map A0))):EY [v, .int (Oi a), .int 2] Q:=by
 subst hv;unfold Dq at q;apply VH;ac_rfl;refine Cn A0 A0 (λp=>decide (0<(p.pr a).c1)) (λ_=>True) (λp _ R N h1 h2=> ?_) ps [] (λ_ _=>trivial) ?_
 .ac_rfl;refine Gc ?_;ac_rfl
  .rename_i h;exact h1 (AAV h)
  .rename_i h;exact h2 (AAW h)
 rw[ABR];have f:∀p∈(ps.filter λp=>decide (0<(p.pr a).c1)),p∈ps:=λp hp=>(AAT.mp hp).1;have y:(ps.filter λp=>decide (0<(p.pr a).c1)).length<=20:=AAU (AB8 ..) hl;generalize (ps.filter λp=>decide (0<(p.pr a).c1))=lows at *;ac_rfl;refine Cn A0 A0 (λp=>decide ((p.pr a).c1<0)) (λ_=>True) (λp _ R N h1 h2=> ?_) ps [] (λ_ _=>trivial) ?_
 .ac_rfl;refine Gc ?_;ac_rfl
  .rename_i h;exact h1 (AAV h)
  .rename_i h;exact h2 (AAW h)
 rw[ABR];have g:∀p∈(ps.filter λp=>decide ((p.pr a).c1<0)),p∈ps:=λp hp=>(AAT.mp hp).1;have m:(ps.filter λp=>decide ((p.pr a).c1<0)).length<=20:=AAU (AB8 ..) hl;generalize (ps.filter λp=>decide ((p.pr a).c1<0))=F8 at *;ac_rfl;refine Cn A0 A0 (λp=>decide ((p.pr a).c1=0)) (λ_=>True) (λp _ R N h1 h2=> ?_) ps [] (λ_ _=>trivial) ?_
 .ac_rfl;refine Gc ?_;ac_rfl
  .rename_i h;exact h1 (AAV h)
  .rename_i h;exact h2 (AAW h)
 rw[ABR];have z:(ps.filter λp=>decide ((p.pr a).c1=0)).length<=20:=AAU (AB8 ..) hl;generalize (ps.filter λp=>decide ((p.pr a).c1=0))=zs at *;ac_rfl;refine CZ A0 (λb vs τ=>∃n c,τ= [some (.val (.lst (ps.map A0))),some (.val (.int (Oi a))),some (.val (.int 2)),some (.val (.lst (lows.map A0))),some (.val (.lst (F8.map A0))),some (.own ((zs++b.flatMap λl=>F8.map λh=>A9 a l h).map A0)),n,c]) ?_ ?_ ⟨none,none,by simp⟩
 .rintro τ ⟨n,c,rfl⟩;ac_rfl;exact q
 .rintro b l vs e τ R o ⟨n,c,rfl⟩;have r:l∈lows:=by rw[<-e];simp
  have ul:b.length<=20:=by have:=congrArg List.length e;simp at this;omega
  ac_rfl;refine CZ A0 (λd xs τ=>∃c,τ= [some (.val (.lst (ps.map A0))),some (.val (.int (Oi a))),some (.val (.int 2)),some (.val (.lst (lows.map A0))),some (.val (.lst (F8.map A0))),some (.own (((zs++b.flatMap λl=>F8.map λh=>A9 a l h)++d.map λh=>A9 a l h).map A0)),some (.val (A0 l)),c]) ?_ ?_ ⟨c,by simp⟩
  .rintro τ ⟨c,rfl⟩;exact o _ ⟨some (.val (A0 l)),c,by simp[ADO]⟩
  .rintro d h xs s τ F t ⟨c,rfl⟩;have u:h∈F8:=by rw[<-s];simp
   have G:d.length<=20:=by have:=congrArg List.length s;simp at this;omega
   obtain⟨i,H,B⟩:=YO (one l (f l r));obtain⟨j,I,C⟩:=YO (one h (g h u));have J:=pC i j;have k:=t [some (.val (.lst (ps.map A0))),some (.val (.int (Oi a))),some (.val (.int 2)),some (.val (.lst (lows.map A0))),some (.val (.lst (F8.map A0))),some (.own (((zs++b.flatMap λl=>F8.map λh=>A9 a l h)++(d ++ [h]).map λh=>A9 a l h).map A0)),some (.val (A0 l)),some (.val (A0 h))] ⟨_,rfl⟩;clear t o;have D:∀A:kn Bz,(A++(d ++ [h]).map λh=>A9 a l h).map A0=(A++d.map λh=>A9 a l h).map A0 ++ [A0 (A9 a l h)] :=λA=>by simp
   rw[D] at k;have len:(((zs++b.flatMap λl=>F8.map λh=>A9 a l h)++d.map λh=>A9 a l h).map A0).length<=1000:=by
    have:(b.flatMap λl=>F8.map λh=>A9 a l h).length<=20*20:=by
     rw[ADP];have:∀b:kn Bz,(b.map λl=>(F8.map λh=>A9 a l h).length).sum=b.length*F8.length:=λb=>by
      induction b with
      | nil=>simp
      | cons x b E=>simp[AAM,AAy,ACd] at E ⊢;omega
     rw[this];exact ABS ul m
    simp only[AAK,AA6];omega
   generalize (((zs++b.flatMap λl=>F8.map λh=>A9 a l h)++d.map λh=>A9 a l h).map A0)=told at *;ac_rfl;rw[B];ac_rfl;rw[C];ac_rfl
   .refine QF (ok l (f l r)) (ok h (g h u)) hN ?_;ac_rfl;refine⟨QR len (by decide), ?_⟩;ac_rfl;exact k
   .exfalso;omega
def h3 (p:Bz)(s t:Rat):Prop:=0<(p.c0:Rat)+p.c1*s+p.c2*t\/((p.c0:Rat)+p.c1*s+p.c2*t=0/\p.s=0)
def Jo (r:Rat):(0:Rat)<(r.den:Rat)/\(r.num:Rat)=(r.den:Rat)*r:=by
 have hd:(0:Rat)<(r.den:Rat):=by exact_mod_cast r.den_pos
 refine⟨hd, ?_⟩;have:(r.num:Rat)/(r.den:Rat)=r:=by
  have:=ABQ r;rw[ACg] at this
  exact_mod_cast this
 have e:(r.num:Rat)/(r.den:Rat)*(r.den:Rat)=(r.num:Rat):=AEr (by grind);rw[this] at e;grind
def CM {d x:Rat}(h:0<d):(0<d*x↔0<x)/\(d*x=0↔x=0):=by refine⟨ACw h, ?_⟩;rw[ACh];grind
def CS {p:Bz}{r t:Rat}:holds ((DJ false r p).pr true) t↔h3 p r t:=by
 obtain⟨hd,a⟩:=Jo r;have e:OB ((DJ false r p).pr true) t=(r.den:Rat)*((p.c0:Rat)+p.c1*r+p.c2*t):=by
  show (((r.den:Int)*p.c0+p.c1*r.num:Int):Rat)+(((r.den:Int)*p.c2:Int):Rat)*t=_
  push_cast
  rw[a];grind
 unfold holds h3;rw[e,(CM hd).1,(CM hd).2];rfl
def QY {p:Bz}{s t:Rat}(h:p.c2=0):holds (p.pr false) s↔h3 p s t:=by
 have e:OB (p.pr false) s=(p.c0:Rat)+p.c1*s+p.c2*t:=by show (p.c0:Rat)+(p.c1:Rat)*s=_;rw[h];grind
 unfold holds h3;rw[e];rfl
def Lf {l h:Bz}(s:Rat)(f:0<l.c2)(g:h.c2<0)(i:l.s=0\/l.s=1)(j:h.s=0\/h.s=1):holds ((A9 true l h).pr false) s↔∃t,h3 l s t/\h3 h s t:=by
 obtain⟨hd,k⟩:=Jo s;have hi:(0:Int)<s.den:=by exact_mod_cast s.den_pos
 have m:=Ge (l:=(DJ false s l).pr true) (h:=(DJ false s h).pr true) (AB9 hi f) (by show (s.den:Int)*h.c2<0;exact Int.mul_neg_of_pos_of_neg hi g) i j [];have e:(∃t,holds ((DJ false s l).pr true) t/\holds ((DJ false s h).pr true) t)↔∃t,h3 l s t/\h3 h s t:=by
  constructor
  .rintro ⟨t,a,b⟩;exact⟨t,CS.mp a,CS.mp b⟩
  .rintro ⟨t,a,b⟩;exact⟨t,CS.mpr a,CS.mpr b⟩
 rw[<-e,<-m];unfold FB;rw[ACy];dsimp only;have c:(((-((DJ false s h).pr true).c1*((DJ false s l).pr true).c0+((DJ false s l).pr true).c1*((DJ false s h).pr true).c0:Int)):Rat)=((s.den:Rat)*s.den)*OB ((A9 true l h).pr false) s:=by
  show ((-((s.den:Int)*h.c2)*((s.den:Int)*l.c0+l.c1*s.num)+((s.den:Int)*l.c2)*((s.den:Int)*h.c0+h.c1*s.num):Int):Rat)=((s.den:Rat)*s.den)*((((-h.c2)*l.c0+l.c2*h.c0:Int):Rat)+(((-h.c2)*l.c1+l.c2*h.c1:Int):Rat)*s)
  push_cast
  rw[k];grind
 generalize (-((DJ false s h).pr true).c1*((DJ false s l).pr true).c0+((DJ false s l).pr true).c1*((DJ false s h).pr true).c0:Int)=V at *;have d:=ACO hd hd;have n:0<V↔0<OB ((A9 true l h).pr false) s:=by rw[<-(CM d).1,<-c,<-ABU,AB7]
 have o:V=0↔OB ((A9 true l h).pr false) s=0:=by rw[<-(CM d).2,<-c,<-ABU,ADN]
 unfold holds;rw[<-n,<-o];show (0<V\/V=0/\max l.s h.s=0)↔¬(V<0\/V=0/\max l.s h.s=1);omega
def fm {ps:kn Bz}(hs:∀p∈ps,p.s=0\/p.s=1)(lo:∃p∈ps,0<p.c2)(hi:∃p∈ps,p.c2<0)(s:Rat):(∀p∈Dq true ps,holds (p.pr false) s)↔∃t,∀p∈ps,h3 p s t:=by
 have d:(0:Int)<s.den:=by exact_mod_cast s.den_pos
 constructor
 .intro b;have n:∀p∈ps,p.c2=0->holds (p.pr false) s:=λp hp z=>b p (by unfold Dq;exact AAL.mpr (.inl (AAT.mpr ⟨hp,AAV z⟩)));have cs:∀l∈ps,∀h∈ps,0<l.c2->h.c2<0->∃t,h3 l s t/\h3 h s t:=λl hl h a f g=>(Lf s f g (hs l hl) (hs h a)).mp (b _ (by
   unfold Dq;exact AAL.mpr (.inr (ABG.mpr ⟨l,AAT.mpr ⟨hl,AAV f⟩,AAH.mpr ⟨h,AAT.mpr ⟨a,AAV g⟩,rfl⟩⟩))))
  have i:∀q∈ps.map (λp=>(DJ false s p).pr true),q.s=0\/q.s=1:=λq i=>by obtain⟨p,hp,rfl⟩:=AAH.mp i;exact hs p hp
  have j:=DU (.inl rfl) _ (ps.map λp=>(DJ false s p).pr true) rfl i;have k:=DU (.inr rfl) _ (ps.map λp=>(DJ false s p).pr true) rfl i;have c:∀p:Bz,((DJ false s p).pr true).c1=s.den*p.c2:=λp=>rfl;obtain⟨o,r⟩:∃l,tight 1 (ps.map λp=>(DJ false s p).pr true)=some l:=by
   cases e:tight 1 (ps.map λp=>(DJ false s p).pr true) with
   | some l=>exact⟨l,rfl⟩
   | none=> obtain⟨p,hp,h⟩:=lo;refine absurd ?_ (j.no e _ (AAH.mpr ⟨p,hp,rfl⟩));rw[c,ACU];exact AB9 d h
  obtain⟨h',u⟩:∃l,tight (-1) (ps.map λp=>(DJ false s p).pr true)=some l:=by
   cases e:tight (-1) (ps.map λp=>(DJ false s p).pr true) with
   | some l=>exact⟨l,rfl⟩
   | none=> obtain⟨p,hp,h⟩:=hi;refine absurd ?_ (k.no e _ (AAH.mpr ⟨p,hp,rfl⟩));rw[c];have:=AB9 d (show 0 < -p.c2 by omega);grind
  obtain⟨m1,m,v⟩:=j.so o r;obtain⟨m2,w,y⟩:=k.so h' u;obtain⟨l,hl,rfl⟩:=AAH.mp m1;obtain⟨h,a,rfl⟩:=AAH.mp m2;have sg:∀x:Int,(0<s.den*x↔0<x):=λx=>⟨λz=>Int.pos_of_mul_pos_right z d,λz=>AB9 d z⟩;have f:0<l.c2:=by rw[c,ACU,sg] at m;exact m
  have g:h.c2<0:=by rw[c,show (s.den:Int)*h.c2 * -1=s.den * -h.c2 by grind,sg] at w;omega
  obtain⟨t,A,B⟩:=cs l hl h a f g;refine⟨t,λp hp=> ?_⟩;rcases ACx p.c2 0 with z|z|z
  .refine CS.mp (y _ (AAH.mpr ⟨p,hp,rfl⟩) ?_ t (CS.mpr B));rw[c,show (s.den:Int)*p.c2 * -1=s.den * -p.c2 by grind,sg];omega
  .exact (QY z).mp (n p hp z)
  .refine CS.mp (v _ (AAH.mpr ⟨p,hp,rfl⟩) ?_ t (CS.mpr A));rw[c,ACU,sg];exact z
 .rintro ⟨t,b⟩ p hp;unfold Dq at hp;rcases AAL.mp hp with hp|hp
  .obtain ⟨hp,z⟩:=AAT.mp hp;exact(QY (t:=t) (AB4 z)).mpr (b p hp)
  .obtain ⟨l,hl,hp⟩:=ABG.mp hp;obtain⟨h,a,rfl⟩:=AAH.mp hp;obtain⟨hl,C⟩:=AAT.mp hl;obtain⟨a,D⟩:=AAT.mp a;exact(Lf s (AB4 C) (AB4 D) (hs l hl) (hs h a)).mpr ⟨t,b l hl,b h a⟩
def PY (a b c:Rat)(s n:Int):Bz:=⟨TL (Fc [a,b,c]) a,TL (Fc [a,b,c]) b,TL (Fc [a,b,c]) c,s, [(n,(Fc [a,b,c] :Nat))]⟩
def XB {a b c:Rat}{W:Nat}(ba:Bd W a)(j:Bd W b)(f:Bd W c)(i:W<=1400){Q:PV->Prop}(q:Q (.int (Fc [a,b,c] :Nat))):CK [.tup [fr a,fr b,fr c]] Q:=by
 have hx:∀x∈ [a,b,c],Bd W x:=by simp;exact⟨ba,j,f⟩
 apply J9;ac_rfl;show DE _ _ _ ([a,b,c].map fr) _;refine CZ fr (λd vs τ=>∃g h,τ= [some (.val (.tup [fr a,fr b,fr c])),some (.val (.int (Fc d:Nat))),g,h]) ?_ ?_ ⟨_,_,rfl⟩
 .rintro τ ⟨g,h,rfl⟩;ac_rfl;exact q
 .rintro d c vs e τ R k ⟨g,h,rfl⟩;have hu:∀x∈d,Bd W x:=λx l=>hx x (by rw[<-e];simp[l]);have ul:d.length<=6:=by have:=congrArg List.length e;simp at this;omega
  obtain⟨h1,h2,h3⟩:=G8 d.length d rfl hu;have f:=(hx c (by rw[<-e];simp)).bot;have p:d.length*W<=6*1400:=ABS ul i;have r:0<Nat.gcd (Fc d) c.den:=ACu _ c.den_pos;have gl:Nat.gcd (Fc d) c.den<2^8900:=Aw (AAw (ACc c.den_pos (ACa ..)) f) (by omega);ac_rfl;refine GX _ _ _ ?_;ac_rfl;refine⟨⟨by omega,by simpa using gl⟩, ?_⟩;have o:((c.den:Nat):Int).fdiv ((Nat.gcd (Fc d) c.den:Nat):Int)=((c.den/Nat.gcd (Fc d) c.den:Nat):Int):=by rw[ACI _ (by omega),ACb]
  rw[o];have dl:c.den/Nat.gcd (Fc d) c.den<2^1400:=Aw (AAw (ACZ ..) f) i;ac_rfl;refine⟨MulOk.of (m:=8401) (n:=1400) (by simpa using Aw h3 (by omega)) (by rw[ABH];exact dl), ?_⟩;exact k _ ⟨some (.val (.int c.num)),some (.val (.int c.den)),by rw[Sy,ADq];rfl⟩
def aB {a b c:Rat}{W:Nat}{s n:Int}(ba:Bd W a)(e:Bd W b)(f:Bd W c)(d:W<=1400){Q:PV->Prop}(q:Q (A0 (PY a b c s n))):Ea [.tup [fr a,fr b,fr c], .int s, .int n] Q:=by
 obtain⟨h1,h2,h3⟩:=G8 (W:=W) 3 [a,b,c] rfl (by simp;exact⟨ba,e,f⟩);have g:∀x:Rat,((Fc [a,b,c] :Int).fdiv (x.den:Int)).natAbs<2^4201:=λx=>by rw[ACI _ (by omega),<-ACb,ABH];exact AAw (ACZ ..) (Aw h3 (by omega))
 have v1:=g a;have h:=g b;have i:=g c;have m:0<a.den:=a.den_pos;have o:0<b.den:=b.den_pos;have p:0<c.den:=c.den_pos;have j:=(ba.mono d).bot;have k:=(e.mono d).bot;have l:=(f.mono d).bot;apply Sj;ac_rfl;refine XB ba e f d ?_;unfold PY TL at q;generalize Fc [a,b,c] =S at *;repeat' array_get_dec
 refine⟨⟨by omega,by rw[ABH];exact Aw j (by decide)⟩, ?_⟩;repeat' array_get_dec
 refine⟨MulOk.of (ba.mono d).top v1, ?_⟩;repeat' array_get_dec
 refine⟨⟨by omega,by rw[ABH];exact Aw k (by decide)⟩, ?_⟩;repeat' array_get_dec
 refine⟨MulOk.of (e.mono d).top h, ?_⟩;repeat' array_get_dec
 refine⟨⟨by omega,by rw[ABH];exact Aw l (by decide)⟩, ?_⟩;repeat' array_get_dec
 refine⟨MulOk.of (f.mono d).top i, ?_⟩;repeat' array_get_dec
 exact q
def cz {a b c:Rat}{W M:Nat}{s n:Int}(ba:Bd W a)(f:Bd W b)(g:Bd W c)(d:Fc [a,b,c] < 2^M)(hs:s=0\/s=1):Bn (W+M) (PY a b c s n)/\∀x y:Rat,h3 (PY a b c s n) x y↔(0<a+b*x+c*y\/(a+b*x+c*y=0/\s=0)):=by
 obtain⟨h1,h2,_⟩:=G8 (W:=W) 3 [a,b,c] rfl (by simp;exact⟨ba,f,g⟩);have h:(0:Rat)<((Fc [a,b,c] :Nat):Rat):=by exact_mod_cast h1
 have i:=Fy (h2 a (by simp));have j:=Fy (h2 b (by simp));have k:=Fy (h2 c (by simp));refine⟨⟨W8 ba d,W8 f d,W8 g d,by simp[PY];exact Aw d (by omega),by simp[PY],hs⟩,λx y=> ?_⟩;have e:((PY a b c s n).c0:Rat)+(PY a b c s n).c1*x+(PY a b c s n).c2*y=((Fc [a,b,c] :Nat):Rat)*(a+b*x+c*y):=by show ((TL (Fc [a,b,c]) a:Int):Rat)+((TL (Fc [a,b,c]) b:Int):Rat)*x+((TL (Fc [a,b,c]) c:Int):Rat)*y=_;rw[i,j,k];grind
 unfold h3;rw[e,(CM h).1,(CM h).2];rfl
def D6 (m:kn (Int×Int)):Nat:=m.foldl (λg e=>Nat.gcd e.2.toNat g) 0
def ii (m:kn (Int×Int))(k:Int):PV:= .tup [.int k,fr (((((m.lookup k).getD 0).fdiv (D6 m:Nat):Int)):Rat)]
def cF (m:kn (Int×Int))(e:Int×Int):D6 (m ++ [e])=Nat.gcd e.2.toNat (D6 m):=by unfold D6;rw[ADK];rfl
def Wa {m:kn (Int×Int)}{k:Int}(h:k∈m.map (·.1)):∃v,m.lookup k=some v/\(k,v)∈m:=by
 induction m with
 | nil=>simp at h
 | cons e m c=>
   obtain⟨i,v⟩:=e;by_cases z:k=i
   .subst z;exact⟨v,by simp[List.lookup],by simp⟩
   .have:k∈m.map (·.1):=by simp[z] at h;simpa using h
    obtain⟨d,a,b⟩:=c this;have f:(k==i)=false:=by simpa using z
    exact⟨d,by simp[List.lookup,f,a],by simp[b]⟩
theorem RT:∀(m:kn (Int×Int)) (g:Nat),(0<g\/m≠ [])->(∀e∈m,0<e.2)->0<m.foldl (λg e=>Nat.gcd e.2.toNat g) g
 | [],g,h,_=>by simpa using h
 | e::m,g,_,hp=>RT m _ (.inl (Nat.gcd_pos_of_pos_left _ (by have:=hp e (by simp);omega))) λx hx=>hp x (by simp[hx])
theorem Xx {N:Nat}:∀(m:kn (Int×Int)) (g:Nat),(∀e∈m,0<e.2/\e.2.natAbs<2^N)->(g<2^N)->m.foldl (λg e=>Nat.gcd e.2.toNat g) g<2^N
 | [],g,_,h=>h
 | e::m,g,hp,_=>Xx m _ (λx hx=>hp x (by simp[hx])) (by
    have h:=hp e (by simp);exact AAw (ACc (by omega) (AEa ..)) (by omega))
def aR {m:kn (Int×Int)}{N:Nat}(hp:∀e∈m,0<e.2/\e.2.natAbs<2^N)(i:m≠ [])(hl:m.length<64)(hN:N<=8900){Q:PV->Prop}(q:∀ns:kn Int,ns.Perm (m.map (·.1))->ns.Pairwise (· <= ·)->Q (.tup (ns.map (ii m)))):Ci [.dk m] Q:=by
 have o:0<D6 m:=RT m 0 (.inr i) λe he=>(hp e he).1;have j:D6 m<2^N:=Xx m 0 hp (AEt N);apply LF;ac_rfl;show DE _ _ _ (m.map λp=>PV.int p.2) _;refine CZ (λp:Int×Int=>PV.int p.2) (λc vs τ=>∃d,τ= [some (.val (.dk m)),some (.val (.int (D6 c:Nat))),d]) ?_ ?_ ⟨_,rfl⟩
 .rintro τ ⟨d,rfl⟩;ac_rfl;refine⟨hl,λns f l=> ?_⟩;ac_rfl;have a:=q ns f l;refine⟨by rw[f.length_eq,AAK];omega, ?_⟩;refine HK PV.int (ii m) id (λk=>k∈m.map (·.1)) (λk hk R b=> ?_) ns [] (λk hk=>f.mem_iff.mp hk) ?_
  .obtain ⟨v,g,r⟩:=Wa hk;unfold ii id at b;rw[g,AD3] at b;ac_rfl;refine⟨v,g, ?_⟩;ac_rfl;refine⟨⟨by omega,by simpa using Aw j hN⟩, ?_⟩;ac_rfl;exact b
  .rw [ABR,List.map_id];ac_rfl;exact a
 .rintro c e vs n τ R b ⟨d,rfl⟩;have he:=(hp e (by rw[<-n];simp)).1;have h:e.2=((e.2.toNat:Nat):Int):=by omega
  have a:=b [some (.val (.dk m)),some (.val (.int (D6 (c ++ [e]):Nat))),some (.val (.int e.2))] ⟨_,rfl⟩;clear b;rw[cF] at a;ac_rfl;rw[h];refine GX _ _ _ ?_;rw[h] at a;ac_rfl;exact a
structure Wd where
 b:C4
 e:C4
 b':C4
 e':C4
 z:T3
 l:Rat
 l':Rat
def fX (w:Wd):PV:= .tup [CV w.b w.e,CV w.b' w.e', .lst [fr w.z.1,fr w.z.2.1,fr w.z.2.2], .tup [fr w.l,fr w.l']]
def sl (w:Wd):Nat->Rat|0=>Yi w.b w.e w.b.2.1 w.e.2.1|1=>Yi w.b w.e w.b.2.2.1 w.e.2.2.1|_=>Yi w.b w.e w.b.2.2.2 w.e.2.2.2
def ao (w:Wd):Nat->Rat|0=>Yi w.b' w.e' w.b'.2.1 w.e'.2.1|1=>Yi w.b' w.e' w.b'.2.2.1 w.e'.2.2.1|_=>Yi w.b' w.e' w.b'.2.2.2 w.e'.2.2.2
def ba (w:Wd):Nat->Rat|0=>ah w.b w.e w.b.2.1 w.e.2.1|1=>ah w.b w.e w.b.2.2.1 w.e.2.2.1|_=>ah w.b w.e w.b.2.2.2 w.e.2.2.2
def af (w:Wd):Nat->Rat|0=>ah w.b' w.e' w.b'.2.1 w.e'.2.1|1=>ah w.b' w.e' w.b'.2.2.1 w.e'.2.2.1|_=>ah w.b' w.e' w.b'.2.2.2 w.e'.2.2.2
def sz (w:Wd):Nat->Rat|0=>w.z.1|1=>w.z.2.1|_=>w.z.2.2
def Ad (w:Wd):Nat->Rat×Rat×Rat
 | 0=>(-w.b.1,1,0)
 | 1=>(w.e.1, -1,0)
 | 2=>(-w.b'.1,0,1)
 | 3=>(w.e'.1,0, -1)
 | 4=>(w.l,1, -1)
 | 5=>(w.l', -1,1)
 | 6=>(sz w 0-(ba w 0-af w 0), -sl w 0,ao w 0)
 | 7=>(sz w 0+(ba w 0-af w 0),sl w 0, -ao w 0)
 | 8=>(sz w 1-(ba w 1-af w 1), -sl w 1,ao w 1)
 | 9=>(sz w 1+(ba w 1-af w 1),sl w 1, -ao w 1)
 | 10=>(sz w 2-(ba w 2-af w 2), -sl w 2,ao w 2)
 | _=>(sz w 2+(ba w 2-af w 2),sl w 2, -ao w 2)
structure Tn (W:Nat) (w:Wd):Prop where
 t1:Bd W w.b.1
 t2:Bd W w.e.1
 t3:Bd W w.b'.1
 t4:Bd W w.e'.1
 l1:Bd W w.l
 l2:Bd W w.l'
 z:∀k,Bd W (sz w k)
 s:∀k,Bd W (sl w k)
 s':∀k,Bd W (ao w k)
 a:∀k,Bd W (ba w k)
 a':∀k,Bd W (af w k)
def jZ (x:Rat×Rat×Rat):PV:= .tup [fr x.1,fr x.2.1,fr x.2.2]
def jU {w:Wd}{n:Nat}(h:n<6){Q:PV->Prop}(q:Q (jZ (Ad w n))):D5 [fX w, .int n] Q:=by
 apply Pk;unfold fX CV;repeat' array_get_dec
 refine Gm ?_;repeat' array_get_dec
 refine Gm ?_;repeat' array_get_dec
 have cs:n=0\/n=1\/n=2\/n=3\/n=4\/n=5:=by omega
 rcases cs with rfl|rfl|rfl|rfl|rfl|rfl <;> exact q
def aZ (d e f g h:PV)(a s b c:Nat->Rat)(z:Nat->Rat):PV:= .tup [.tup [d,e, .lst [.tup [fr (a 0),fr (s 0)], .tup [fr (a 1),fr (s 1)], .tup [fr (a 2),fr (s 2)]]], .tup [f,g, .lst [.tup [fr (b 0),fr (c 0)], .tup [fr (b 1),fr (c 1)], .tup [fr (b 2),fr (c 2)]]], .lst [fr (z 0),fr (z 1),fr (z 2)],h]
section
variable {x1 x2 x3 x4 ls:PV}{a s a' s' z:Nat->Rat}{W:Nat}{Q:PV->Prop}
theorem oO (d:W<=1300)(ha:Bd W (a 0))(b:Bd W (a' 0))(c:Bd W (z 0))(q:Q (.tup [fr (z 0-(a 0-a' 0)),fr (-s 0),fr (s' 0)])):BS [aZ x1 x2 x3 x4 ls a s a' s' z, .int 6] Q:=by
 have e:=(ha.sub b).mono (n:=3900) (by omega);have ha:=ha.mono (n:=3900) (by omega);have b:=b.mono (n:=3900) (by omega);have c:=c.mono (n:=3900) (by omega);apply CT;unfold aZ;repeat' array_get_dec
 refine⟨⟨by decide,by decide⟩, ?_⟩;show An 2 (.int 0) _ _;repeat' array_get_dec
 refine Gm ?_;repeat' array_get_dec
 exact q
theorem oP (d:W<=1300)(ha:Bd W (a 0))(b:Bd W (a' 0))(c:Bd W (z 0))(q:Q (.tup [fr (z 0+(a 0-a' 0)),fr (s 0),fr (-s' 0)])):BS [aZ x1 x2 x3 x4 ls a s a' s' z, .int 7] Q:=by
 have e:=(ha.sub b).mono (n:=3900) (by omega);have ha:=ha.mono (n:=3900) (by omega);have b:=b.mono (n:=3900) (by omega);have c:=c.mono (n:=3900) (by omega);apply CT;unfold aZ;repeat' array_get_dec
 refine⟨⟨by decide,by decide⟩, ?_⟩;show An 2 (.int 0) _ _;repeat' array_get_dec
 refine Gm ?_;repeat' array_get_dec
 exact q
theorem oQ (d:W<=1300)(ha:Bd W (a 1))(b:Bd W (a' 1))(c:Bd W (z 1))(q:Q (.tup [fr (z 1-(a 1-a' 1)),fr (-s 1),fr (s' 1)])):BS [aZ x1 x2 x3 x4 ls a s a' s' z, .int 8] Q:=by
 have e:=(ha.sub b).mono (n:=3900) (by omega);have ha:=ha.mono (n:=3900) (by omega);have b:=b.mono (n:=3900) (by omega);have c:=c.mono (n:=3900) (by omega);apply CT;unfold aZ;repeat' array_get_dec
 refine⟨⟨by decide,by decide⟩, ?_⟩;show An 2 (.int 1) _ _;repeat' array_get_dec
 refine Gm ?_;repeat' array_get_dec
 exact q
theorem oR (d:W<=1300)(ha:Bd W (a 1))(b:Bd W (a' 1))(c:Bd W (z 1))(q:Q (.tup [fr (z 1+(a 1-a' 1)),fr (s 1),fr (-s' 1)])):BS [aZ x1 x2 x3 x4 ls a s a' s' z, .int 9] Q:=by
 have e:=(ha.sub b).mono (n:=3900) (by omega);have ha:=ha.mono (n:=3900) (by omega);have b:=b.mono (n:=3900) (by omega);have c:=c.mono (n:=3900) (by omega);apply CT;unfold aZ;repeat' array_get_dec
 refine⟨⟨by decide,by decide⟩, ?_⟩;show An 2 (.int 1) _ _;repeat' array_get_dec
 refine Gm ?_;repeat' array_get_dec
 exact q
theorem i9 (d:W<=1300)(ha:Bd W (a 2))(b:Bd W (a' 2))(c:Bd W (z 2))(q:Q (.tup [fr (z 2-(a 2-a' 2)),fr (-s 2),fr (s' 2)])):BS [aZ x1 x2 x3 x4 ls a s a' s' z, .int 10] Q:=by
 have e:=(ha.sub b).mono (n:=3900) (by omega);have ha:=ha.mono (n:=3900) (by omega);have b:=b.mono (n:=3900) (by omega);have c:=c.mono (n:=3900) (by omega);apply CT;unfold aZ;repeat' array_get_dec
 refine⟨⟨by decide,by decide⟩, ?_⟩;show An 2 (.int 2) _ _;repeat' array_get_dec
 refine Gm ?_;repeat' array_get_dec
 exact q
theorem jA (d:W<=1300)(ha:Bd W (a 2))(b:Bd W (a' 2))(c:Bd W (z 2))(q:Q (.tup [fr (z 2+(a 2-a' 2)),fr (s 2),fr (-s' 2)])):BS [aZ x1 x2 x3 x4 ls a s a' s' z, .int 11] Q:=by
 have e:=(ha.sub b).mono (n:=3900) (by omega);have ha:=ha.mono (n:=3900) (by omega);have b:=b.mono (n:=3900) (by omega);have c:=c.mono (n:=3900) (by omega);apply CT;unfold aZ;repeat' array_get_dec
 refine⟨⟨by decide,by decide⟩, ?_⟩;show An 2 (.int 2) _ _;repeat' array_get_dec
 refine Gm ?_;repeat' array_get_dec
 exact q
end
def jB {w:Wd}{W:Nat}(ok:Tn W w)(c:W<=1300){n:Nat}(h:6<=n)(h':n<12){Q:PV->Prop}(q:Q (jZ (Ad w n))):BS [fX w, .int n] Q:=by
 have e:fX w=aZ (fr w.b.1) (fr w.e.1) (fr w.b'.1) (fr w.e'.1) (.tup [fr w.l,fr w.l']) (ba w) (sl w) (af w) (ao w) (sz w):=rfl;rw[e];have cs:n=6\/n=7\/n=8\/n=9\/n=10\/n=11:=by omega
 rcases cs with rfl|rfl|rfl|rfl|rfl|rfl
 .exact oO c (ok.a 0) (ok.a' 0) (ok.z 0) q
 .exact oP c (ok.a 0) (ok.a' 0) (ok.z 0) q
 .exact oQ c (ok.a 1) (ok.a' 1) (ok.z 1) q
 .exact oR c (ok.a 1) (ok.a' 1) (ok.z 1) q
 .exact i9 c (ok.a 2) (ok.a' 2) (ok.z 2) q
 .exact jA c (ok.a 2) (ok.a' 2) (ok.z 2) q
def gR {w:Wd}{W:Nat}(ok:Tn W w)(a:W<=1300){n:Nat}(h:n<12){Q:PV->Prop}(q:Q (jZ (Ad w n))):FP [fX w, .int n] Q:=by
 apply VA;ac_rfl
 .exact jU (by omega) q
 .exact jB ok a (by omega) h q
def FT {w:Wd}{W:Nat}(ok:Tn W w)(n:Nat):Bd (3*W+2) (Ad w n).1/\Bd (3*W+2) (Ad w n).2.1/\Bd (3*W+2) (Ad w n).2.2:=by
 have b:Bd (3*W+2) (1:Rat):=Bd.mono (m:=2) (by constructor <;> decide) (by omega);have c:Bd (3*W+2) (-1:Rat):=Bd.mono (m:=2) (by constructor <;> decide) (by omega);have d:Bd (3*W+2) (0:Rat):=Bd.mono (m:=2) (by constructor <;> decide) (by omega);have m:∀{r:Rat},Bd W r->Bd (3*W+2) r:=λh=>h.mono (by omega);have p:∀k,Bd (3*W+2) (sz w k+(ba w k-af w k)):=λk=>((ok.z k).add ((ok.a k).sub (ok.a' k))).mono (by omega);have q:∀k,Bd (3*W+2) (sz w k-(ba w k-af w k)):=λk=>((ok.z k).sub ((ok.a k).sub (ok.a' k))).mono (by omega);unfold Ad;split
 .exact ⟨(m ok.t1).neg,b,d⟩
 .exact ⟨m ok.t2,c,d⟩
 .exact ⟨(m ok.t3).neg,d,b⟩
 .exact ⟨m ok.t4,d,c⟩
 .exact ⟨m ok.l1,b,c⟩
 .exact ⟨m ok.l2,c,b⟩
 .exact ⟨q 0,(m (ok.s 0)).neg,m (ok.s' 0)⟩
 .exact ⟨p 0,m (ok.s 0),(m (ok.s' 0)).neg⟩
 .exact ⟨q 1,(m (ok.s 1)).neg,m (ok.s' 1)⟩
 .exact ⟨p 1,m (ok.s 1),(m (ok.s' 1)).neg⟩
 .exact ⟨q 2,(m (ok.s 2)).neg,m (ok.s' 2)⟩
 .exact ⟨p 2,m (ok.s 2),(m (ok.s' 2)).neg⟩
def E4 {a:kd}{sg:Int}{ps:kn Bz}(h:sg=1\/sg= -1)(hs:∀p∈ps,p.s=0\/p.s=1)(ex:∃p∈ps,0<(p.pr a).c1*sg):∃l,Cw a sg ps=some l/\l∈ps/\0<(l.pr a).c1*sg/\tight sg (ps.map (Bz.pr a))=some (l.pr a):=by
 have b:∀q∈ps.map (Bz.pr a),q.s=0\/q.s=1:=λq b=>by obtain⟨p,hp,rfl⟩:=AAH.mp b;exact hs p hp
 have j:=DU h _ (ps.map (Bz.pr a)) rfl b;have e:=XJ (a:=a) (sg:=sg) (ps:=ps);cases t:Cw a sg ps with
 | none=> rw[t] at e;obtain⟨p,hp,z⟩:=ex;exact absurd z (j.no e.symm _ (AAH.mpr ⟨p,hp,rfl⟩))
 | some l=> rw[t] at e;exact⟨l,rfl,Dy t,(j.so _ e.symm).2.1,e.symm⟩
def HN {p:Ed}(z:p.c1=0)(hs:p.s=0\/p.s=1)(t:Rat):holds p t↔FB p=false:=by
 unfold holds OB FB;rw[z,ACy];have a:(p.c0:Rat)+((0:Int):Rat)*t=(p.c0:Rat):=by grind
 rw[a,<-ABU,AB7,ADN];omega
def ZF {ps:kn Ed}{l h:Ed}(hs:∀p∈ps,p.s=0\/p.s=1)(a:tight 1 ps=some l)(b:tight (-1) ps=some h)(c:∀p∈ps,p.c1=0->FB p=false){t:Rat}(d:holds l t)(e:holds h t):∀p∈ps,holds p t:=by
 have f:=(DU (.inl rfl) ps.length ps rfl hs).so l a;have g:=(DU (.inr rfl) ps.length ps rfl hs).so h b;intro p hp;rcases ACx p.c1 0 with z|z|z
 .exact g.2.2 p hp (by omega) t e
 .exact (HN z (hs p hp) t).mpr (c p hp z)
 .exact f.2.2 p hp (by omega) t d
def U5 {P:Int->Prop}{m:kn (Int×Int)}{k v:Int}(h:∀e∈m,P e.2)(hv:P v):∀e∈Bw m k v,P e.2:=by
 intro e he;unfold Bw at he;split at he
 .obtain ⟨p,hp,rfl⟩:=AAH.mp he;split
  .exact hv
  .exact h p hp
 .rcases AAL.mp he with he|he
  .exact h e he
  .rw [AAa.mp he];exact hv
def ic {m:kn (Int×Int)}{k v:Int}:Bw m k v≠ [] :=by
 unfold Bw;split
 .rename_i h;intro z;rw[List.map_eq_nil_iff] at z;subst z;simp at h
 .simp
def Zc {m:kn (Int×Int)}{k C:Int}(h:∀e∈m,0<e.2/\e.2<C)(a:0<C):0<=B6 m k/\B6 m k<C:=by
 unfold B6;cases e:m.find? λp=>decide (p.1=k) with
 | none=>exact⟨AD7 _,a⟩
 | some p=> have:=h p (List.mem_of_find?_eq_some e);show 0<=p.2/\p.2<C;omega
def W7 {many C:Int}{m:kn (Int×Int)}(h:∀e∈m,0<many*e.2/\many*e.2<C):∀e∈BZ many m,0<e.2/\e.2<C:=by
 have key:∀(m a:kn (Int×Int)),(∀e∈m,0<many*e.2/\many*e.2<C)->(∀e∈a,0<e.2/\e.2<C)->∀e∈m.foldl (λa p=>Bw a p.1 (many*p.2)) a,0<e.2/\e.2<C:=by
  intro m;induction m with
  | nil=>intro a _ h;exact h
  | cons x m b=> intro a h1 h2;exact b _ (λe he=>h1 e (by simp[he])) (U5 (P:=λx=>0<x/\x<C) h2 (h1 x (by simp)))
 exact key m [] h (by simp)
theorem Nz {more D:Int}(b:0<D):∀(m a:kn (Int×Int)) (C:Int),0<C->(∀e∈m,0<more*e.2/\more*e.2<D)->(∀e∈a,0<e.2/\e.2<C)->∀e∈BY more a m,0<e.2/\e.2<C+m.length*D
 | [],a,C,_,_,h=>by simpa[BY] using h
 | x::m,a,C,hC,h1,h2=>by
   have hx:=h1 x (by simp);have g:=Zc (k:=x.1) h2 hC;have st:∀e∈Bw a x.1 (B6 a x.1+more*x.2),0<e.2/\e.2<C+D:=U5 (P:=λy=>0<y/\y<C+D) (λe he=>by have:=h2 e he;omega) (by omega);have r:=Nz b m (Bw a x.1 (B6 a x.1+more*x.2)) (C+D) (by omega) (λe he=>h1 e (by simp[he])) st;intro e he;have:=r e he;rw[AA8];have c:C+((m.length+1:Nat):Int)*D=C+D+(m.length:Int)*D:=by push_cast;grind
   rw[c];exact this
theorem N0 {more:Int}:∀(m a:kn (Int×Int)),(BY more a m).length<=a.length+m.length
 | [],a=>by simp[BY]
 | x::m,a=>by have r:=N0 (more:=more) m (Bw a x.1 (B6 a x.1+more*x.2));have p:=J4 a x.1 (B6 a x.1+more*x.2);show (BY more (Bw a x.1 (B6 a x.1+more*x.2)) m).length<=_;rw[AA8];omega
theorem QU {more:Int}:∀(m a:kn (Int×Int)),m≠ [] \/a≠ [] ->BY more a m≠ []
 | [],a,h=>by simpa[BY] using h
 | x::m,a,_=>QU m (Bw a x.1 (B6 a x.1+more*x.2)) (.inr ic)
structure kb (L N:Nat) (m:List (Int×Int)):Prop where
 p:∀e∈m,0<e.2/\e.2.natAbs<2^N
 l:m.length<=L
 n:m≠ []
def rM {x y:Int}{N:Nat}(hx:0<x)(hy:0<y)(h1:x.natAbs<2^N)(h2:y.natAbs<2^N):0<x*y/\x*y<((2^(2*N):Nat):Int):=by refine⟨AB9 hx hy, ?_⟩;have:=AD9 h1 h2;rw[<-ADE,show N+N=2*N by omega,<-ABL] at this;have p:=AB9 hx hy;omega
def Xm {a:kd}{l h:Bz}{L N:Nat}(hl:Bn N l)(d:Bn N h)(g:kb L N l.w)(f:kb L N h.w)(t:L<=6)(r:0<(l.pr a).c1)(u:(h.pr a).c1<0):Bn (2*N+4) (A9 a l h)/\kb (2*L) (2*N+4) (A9 a l h).w:=by
 have i:=(hl.pr a).b;have b2:=(d.pr a).b;have j:(0:Int)<((2^(2*N):Nat):Int):=by exact_mod_cast AEt _
 have sc:=W7 (many:= -(h.pr a).c1) (C:=((2^(2*N):Nat):Int)) (m:=l.w) λe he=>rM (by omega) (g.p e he).1 (by rw[AB3];exact b2) (g.p e he).2;have mg:=Nz (more:=(l.pr a).c1) j h.w (BZ (-(h.pr a).c1) l.w) _ j (λe he=>rM r (f.p e he).1 i (f.p e he).2) sc;have sl:(BZ (-(h.pr a).c1) l.w).length<=l.w.length:=OP;have v:=N0 (more:=(l.pr a).c1) h.w (BZ (-(h.pr a).c1) l.w);have k:2^(2*N+4)=16*2^(2*N):=by rw[ADE];omega
 have z:=g.l;have A:=f.l;have o:∀e∈(A9 a l h).w,0<e.2/\e.2.natAbs<2^(2*N+4):=λe he=>by have:=mg e he;have:(h.w.length:Int)*((2^(2*N):Nat):Int)<=6*((2^(2*N):Nat):Int):=Int.mul_le_mul_of_nonneg_right (by omega) (by omega);rw[k];omega
 have num:∀x y:Int,x.natAbs<2^N->y.natAbs<2^N->(-(h.pr a).c1*x+(l.pr a).c1*y).natAbs<2^(2*N+4):=λx y hx hy=>by
  have m1:=AD9 b2 hx;have m2:=AD9 i hy;rw[<-ADE,show N+N=2*N by omega,<-ABL] at m1 m2;have e: -(h.pr a).c1*x= -((h.pr a).c1*x):=by grind
  rw[e,k];omega
 refine⟨⟨num _ _ hl.a d.a,num _ _ hl.b d.b,num _ _ hl.c d.c,λe he=>(o e he).2, ?_, ?_⟩,⟨o, ?_,QU _ _ (.inl f.n)⟩⟩
 .show (BY (l.pr a).c1 (BZ (-(h.pr a).c1) l.w) h.w).length<=12;omega
 .show max l.s h.s=0\/max l.s h.s=1;have:=hl.s;have:=d.s;omega
 .show (BY (l.pr a).c1 (BZ (-(h.pr a).c1) l.w) h.w).length<=2*L;omega
def kB:kn Int:= [0,1,0,1,0,0,1,1,1,1,1,1]
def strN (n:Nat):Int:=kB.getD n 0
def FY (w:Wd)(n:Nat):Bz:=PY (Ad w n).1 (Ad w n).2.1 (Ad w n).2.2 (strN n) n
def EB (w:Wd):kn Bz:=(List.range 12).map (FY w)
def Om (w:Wd)(s t:Rat):Prop:=∀n<12,0<(Ad w n).1+(Ad w n).2.1*s+(Ad w n).2.2*t\/((Ad w n).1+(Ad w n).2.1*s+(Ad w n).2.2*t=0/\strN n=0)
def uI:PV:= .tup [.tup [.int 0, .tup [.int 1, .int 1]], .tup [.int 3, .tup [.int 1, .int 1]], .tup [.int 5, .tup [.int 1, .int 1]]]
def wF:PV:= .tup [.tup [.int 1, .tup [.int 1, .int 1]], .tup [.int 2, .tup [.int 1, .int 1]], .tup [.int 4, .tup [.int 1, .int 1]]]
def c6 {w:Wd}{s t:Rat}(h:Om w s t):w.b.1<=s/\s<w.e.1/\w.b'.1<=t/\t<w.e'.1/\t-s<=w.l/\s-t<=w.l':=by
 have a:=h 0 (by decide);have h1:=h 1 (by decide);have h2:=h 2 (by decide);have h3:=h 3 (by decide);have c:=h 4 (by decide);have d:=h 5 (by decide);have f:strN 1=1:=rfl;have g:strN 3=1:=rfl;rw[f] at h1;rw[g] at h3;simp only[Ad] at a h1 h2 h3 c d;refine⟨?_, ?_, ?_, ?_, ?_, ?_⟩
 .rcases a with z|z <;> grind
 .rcases h1 with z|z
  .grind
  .omega
 .rcases h2 with z|z <;> grind
 .rcases h3 with z|z
  .grind
  .omega
 .rcases c with z|z <;> grind
 .rcases d with z|z <;> grind
def pD {w:Wd}{W:Nat}(ok:Tn W w)(f:W<=1300){Q:PV->Prop}(a:(¬∃s t,Om w s t)->w.e'.1+w.l'<=w.b.1->Q uI)(c:(¬∃s t,Om w s t)->w.e.1+w.l<=w.b'.1->Q wF)(q:Q .non):Bu [fX w] Q:=by
 have g:=ok.t2.mono (n:=3900) (by omega);have i:=ok.t4.mono (n:=3900) (by omega);have j:=ok.t1.mono (n:=3900) (by omega);have k:=ok.t3.mono (n:=3900) (by omega);have ol:=ok.l1.mono (n:=3900) (by omega);have d:=ok.l2.mono (n:=3900) (by omega);have m:=(ok.t4.add ok.l2).mono (n:=3900) (by omega);have p:=(ok.t2.add ok.l1).mono (n:=3900) (by omega);apply Hd;unfold fX CV;repeat' array_get_dec
 .rename_i h;refine a ?_ (by grind);rintro⟨s,t,o⟩;have:=c6 o;grind
 .rename_i h;refine c ?_ (by grind);rintro⟨s,t,o⟩;have:=c6 o;grind
 .exact q
def Yp (n:Nat):strN n=0\/strN n=1:=by unfold strN kB;rcases n with _|_|_|_|_|_|_|_|_|_|_|_|n <;> simp
structure kg (N:Nat) (w:Wd):Prop where
 W:∃W,Tn W w/\3*W+2<=1300
 p:∀n<12,Bn N (FY w n)
def kg.sh {N:Nat}{w:Wd}(h:kg N w):∀n<12,Fc [(Ad w n).1,(Ad w n).2.1,(Ad w n).2.2] < 2^N:=λn a=>by have:=(h.p n a).w ((n:Int),((Fc [(Ad w n).1,(Ad w n).2.1,(Ad w n).2.2] :Nat):Int)) (by simp[FY,PY]);simpa using this
def iX {w:Wd}{N:Nat}(h:kg N w):∀p∈EB w,Bn N p/\kb 1 N p.w/\p.w.length=1:=by
 intro p hp;obtain⟨n,a,rfl⟩:=AAH.mp hp;have a:=AAu.mp a;obtain⟨W,ok,_⟩:=h.W;obtain⟨b,b2,c⟩:=FT ok n;have k:=h.p n a;obtain⟨h1,_,_⟩:=G8 (W:=3*W+2) 3 [(Ad w n).1,(Ad w n).2.1,(Ad w n).2.2] rfl (by simp;exact⟨b,b2,c⟩);refine⟨k,⟨λe he=>⟨?_,k.w e he⟩,AAJ _,by simp[FY,PY]⟩,rfl⟩;have:e=((n:Int),((Fc [(Ad w n).1,(Ad w n).2.1,(Ad w n).2.2] :Nat):Int)):=by simpa[FY,PY] using he
 rw[this];show (0:Int)<_;omega
def nU {w:Wd}{W M:Nat}(ok:Tn W w)(d:∀n<12,Fc [(Ad w n).1,(Ad w n).2.1,(Ad w n).2.2] < 2^M)(s t:Rat):(∀p∈EB w,h3 p s t)↔Om w s t:=by
 unfold EB Om;constructor
 .intro h n a;obtain⟨b,b2,c⟩:=FT ok n;exact((cz (n:=n) b b2 c (d n a) (Yp n)).2 s t).mp (h _ (AAH.mpr ⟨n,AAu.mpr a,rfl⟩))
 .intro h p hp;obtain⟨n,a,rfl⟩:=AAH.mp hp;have a:=AAu.mp a;obtain⟨b,b2,c⟩:=FT ok n;exact((cz (n:=n) b b2 c (d n a) (Yp n)).2 s t).mpr (h n a)
def cy {a b:Rat}{N:Nat}(ha:Bd N a)(hb:Bd N b):Bd (2*N+4) ((a+b)/2):=by have:=Bd.div (a:=a+b) (b:=((2:Int):Rat)) (by grind) (ha.add hb) (Bd.mono (m:=2) (n:=2) (by constructor <;> decide) (by omega));exact this.mono (by omega)
def ng {p:Bz}{r:Rat}{N M:Nat}(h:Bn N p)(d:Bd M r):Bn (N+M+1) (DJ false r p):=by
 have f:=d.bot;have i:=d.top;have g:2^(N+M+1)=2*2^(N+M):=by rw[ADF];omega
 have m:∀x y:Int,x.natAbs<2^N->y.natAbs<2^M->(x*y).natAbs<2^(N+M):=λx y a b=>by have:=AD9 a b;rw[<-ADE,<-ABL] at this;exact this
 have j:=m p.c0 r.den h.a (by rw[ABH];exact f);have k:=m p.c1 r.num h.b i;have n:=m p.c2 r.den h.c (by rw[ABH];exact f);refine⟨?_,by show (0:Int).natAbs<_;exact AEt _, ?_,λe he=>Aw (h.w e he) (by omega),h.l,h.s⟩
 .show ((r.den:Int)*p.c0+p.c1*r.num).natAbs<_;rw[ADs,g];omega
 .show ((r.den:Int)*p.c2).natAbs<_;rw[ADs,g];omega
def Ap (m:kn (Int×Int)):kn Int:=m.map (·.1)
def Dz (g:Int->Rat)(m:kn (Int×Int)):Rat:=(m.map λe=>(e.2:Rat)*g e.1).sum
def HG {g:Int->Rat}:Dz g [] =0:=rfl
def DV {g:Int->Rat}{x:Int×Int}{m:kn (Int×Int)}:Dz g (x::m)=(x.2:Rat)*g x.1+Dz g m:=by simp[Dz]
def Wz {x:Int×Int}{m:kn (Int×Int)}{k v:Int}(h:x.1≠k):Bw (x::m) k v=x::Bw m k v:=by unfold Bw;simp only[ACK,AAW h,AEf,AAM,AAD h,AEe];split <;> rfl
def nZ {m:kn (Int×Int)}{k v:Int}(h:k ∉ Ap m):(m.map λp=>if p.1=k then (p.1,v) else p)=m:=by
 induction m with
 | nil=>rfl
 | cons x m a=> have h1:x.1≠k:=λz=>h (by simp[Ap,z]);have h2:k ∉ Ap m:=λz=>h (by simp[Ap] at z ⊢;exact .inr z);rw[AAM,AAD h1,a h2]
def dc {x:Int×Int}{m:kn (Int×Int)}{k v:Int}(h:x.1=k)(a:k ∉ Ap m):Bw (x::m) k v=(k,v)::m:=by unfold Bw;simp only[ACK,AAV h,ADx,AAt,AAM,AAE h];rw[nZ a,h]
def Ni {x:Int×Int}{m:kn (Int×Int)}{k:Int}:B6 (x::m) k=if x.1=k then x.2 else B6 m k:=by
 unfold B6;rw[ACf];by_cases h:x.1=k
 .rw [AAV h,AAE h];rfl
 .rw [AAW h,AAD h]
def lV {m:kn (Int×Int)}{k:Int}(h:k ∉ Ap m):B6 m k=0:=by
 induction m with
 | nil=>rfl
 | cons x m a=> have h1:x.1≠k:=λz=>h (by simp[Ap,z]);have h2:k ∉ Ap m:=λz=>h (by simp[Ap] at z ⊢;exact .inr z);rw[Ni,AAD h1,a h2]
def Mh {x:Int×Int}{m:kn (Int×Int)}(h:(Ap (x::m)).Nodup):x.1 ∉ Ap m/\(Ap m).Nodup:=ACW.mp h
theorem Of {g:Int->Rat}{k v:Int}:∀(m:kn (Int×Int)),(Ap m).Nodup->Dz g (Bw m k v)=Dz g m+((v-B6 m k:Int):Rat)*g k
 | [],_=>by rw[show Bw [] k v= [(k,v)] from rfl,DV,HG,show B6 [] k=0 from rfl,Int.sub_zero];grind
 | x::m,nd=>by
   obtain⟨a,b⟩:=Mh nd;by_cases h:x.1=k
   .rw [dc h (h ▸ a),DV,DV,Ni,AAE h,<-h,AEA];grind
   .rw [Wz h,DV,DV,Of m b,Ni,AAD h];grind
theorem Gu {k v:Int}:∀(m:kn (Int×Int)) (i:Int),i∈Ap (Bw m k v)↔i∈Ap m\/i=k
 | [],i=>by rw[show Bw [] k v= [(k,v)] from rfl];simp[Ap]
 | x::m,i=>by
   by_cases h:x.1=k
   .unfold Bw;simp only[ACK,AAV h,ADx,AAt];have e:Ap ((x::m).map λp=>if p.1=k then (p.1,v) else p)=Ap (x::m):=by unfold Ap;rw[AA7];refine AB2 λp _=> ?_;show (if p.1=k then (p.1,v) else p).1=p.1;split <;> rfl
    rw[e];constructor
    .exact .inl
    .rintro (z|rfl)
     .exact z
     .simp [Ap,h]
   .rw [Wz h];have:=Gu (k:=k) (v:=v) m i;simp only[Ap,AAM,AAI] at this ⊢;rw[this];grind
theorem Wy {k v:Int}:∀(m:kn (Int×Int)),(Ap m).Nodup->(Ap (Bw m k v)).Nodup
 | [],_=>by rw[show Bw [] k v= [(k,v)] from rfl];simp[Ap]
 | x::m,nd=>by
   obtain⟨a,b⟩:=Mh nd;by_cases h:x.1=k
   .rw [dc h (h ▸ a)];exact ACW.mpr ⟨h ▸ a,b⟩
   .rw [Wz h];refine ACW.mpr ⟨λz=> ?_,Wy m b⟩;rcases (Gu m x.1).mp z with z|z
    .exact a z
    .exact h z
theorem Ng {g:Int->Rat}{many:Int}:∀(m a:kn (Int×Int)),(Ap m).Nodup->(Ap a).Nodup->(∀i∈Ap m,i ∉ Ap a)->Dz g (m.foldl (λa p=>Bw a p.1 (many*p.2)) a)=Dz g a+(many:Rat)*Dz g m/\(Ap (m.foldl (λa p=>Bw a p.1 (many*p.2)) a)).Nodup/\∀i,i∈Ap (m.foldl (λa p=>Bw a p.1 (many*p.2)) a)↔i∈Ap a\/i∈Ap m
 | [],a,_,na,_=>⟨by rw[HG];show Dz g a=_;grind,na,λi=>by simp[Ap]⟩
 | x::m,a,nm,na,dj=>by
   obtain⟨b,c⟩:=Mh nm;have hx:x.1 ∉ Ap a:=dj x.1 (by simp[Ap]);obtain⟨h1,h2,h3⟩:=Ng (g:=g) (many:=many) m (Bw a x.1 (many*x.2)) c (Wy a na) (λi hi z=>by
    rcases (Gu a i).mp z with z|z
    .exact dj i (by simp[Ap] at hi ⊢;exact .inr hi) z
    .exact b (z ▸ hi))
   refine⟨?_,h2,λi=> ?_⟩
   .show Dz g (m.foldl _ (Bw a x.1 (many*x.2)))=_;rw[h1,Of a na,lV hx,DV,Int.sub_zero,AAQ];grind
   .show i∈Ap (m.foldl _ (Bw a x.1 (many*x.2)))↔_;rw[h3,Gu];show _↔_\/i∈x.1::Ap m;rw[AAI];grind
theorem Nf {g:Int->Rat}{more:Int}:∀(m a:kn (Int×Int)),(Ap a).Nodup->Dz g (BY more a m)=Dz g a+(more:Rat)*Dz g m/\(Ap (BY more a m)).Nodup/\∀i,i∈Ap (BY more a m)↔i∈Ap a\/i∈Ap m
 | [],a,na=>⟨by rw[HG];show Dz g a=_;grind,na,λi=>by simp[Ap,BY]⟩
 | x::m,a,na=>by
   obtain⟨h1,h2,h3⟩:=Nf (g:=g) (more:=more) m (Bw a x.1 (B6 a x.1+more*x.2)) (Wy a na);refine⟨?_,h2,λi=> ?_⟩
   .show Dz g (BY more (Bw a x.1 (B6 a x.1+more*x.2)) m)=_;rw[h1,Of a na,DV,show B6 a x.1+more*x.2-B6 a x.1=more*x.2 by omega,AAQ];grind
   .show i∈Ap (BY more (Bw a x.1 (B6 a x.1+more*x.2)) m)↔_;rw[h3,Gu];show _↔_\/i∈x.1::Ap m;rw[AAI];grind
def fK (w:Wd):Nat->Int->Rat
 | 0,n=>(Ad w n.toNat).1
 | 1,n=>(Ad w n.toNat).2.1
 | _,n=>(Ad w n.toNat).2.2
structure RG (w:Wd) (p:Bz):Prop where
 a:(p.c0:Rat)=Dz (fK w 0) p.w
 b:(p.c1:Rat)=Dz (fK w 1) p.w
 c:(p.c2:Rat)=Dz (fK w 2) p.w
 s:p.s=1->∃i∈Ap p.w,strN i.toNat=1
 n:(Ap p.w).Nodup
 k:∀i∈Ap p.w,0<=i/\i<12
def iu {w:Wd}{W:Nat}(ok:Tn W w){n:Nat}(j:n<12):RG w (FY w n):=by
 obtain⟨b,b2,c⟩:=FT ok n;obtain⟨h1,h2,_⟩:=G8 (W:=3*W+2) 3 [(Ad w n).1,(Ad w n).2.1,(Ad w n).2.2] rfl (by simp;exact⟨b,b2,c⟩);have d:=Fy (h2 (Ad w n).1 (by simp));have e:=Fy (h2 (Ad w n).2.1 (by simp));have f:=Fy (h2 (Ad w n).2.2 (by simp));have a:∀g,Dz g (FY w n).w=((Fc [(Ad w n).1,(Ad w n).2.1,(Ad w n).2.2] :Nat):Rat)*g n:=λg=>by show Dz g [((n:Int),((Fc [(Ad w n).1,(Ad w n).2.1,(Ad w n).2.2] :Nat):Int))] =_;rw[DV,HG,ABT];grind
 refine⟨?_, ?_, ?_,λh=>⟨n,by simp[FY,PY,Ap], ?_⟩,by simp[FY,PY,Ap],λi hi=> ?_⟩
 .rw [a];exact d.trans (by show _=_*(Ad w ((n:Int).toNat)).1;rw[ACq];grind)
 .rw [a];exact e.trans (by show _=_*(Ad w ((n:Int).toNat)).2.1;rw[ACq];grind)
 .rw [a];exact f.trans (by show _=_*(Ad w ((n:Int).toNat)).2.2;rw[ACq];grind)
 .rw [ACq];exact h
 .have:i=n:=by simpa[FY,PY,Ap] using hi
  omega
def OM {w:Wd}{a:kd}{l h:Bz}(hl:RG w l)(f:RG w h)(sl:l.s=0\/l.s=1)(j:h.s=0\/h.s=1):RG w (A9 a l h):=by
 have S:=λg=>Ng (g:=g) (many:= -(h.pr a).c1) l.w [] hl.n (by simp[Ap]) (by simp[Ap]);have M:=λg=>Nf (g:=g) (more:=(l.pr a).c1) h.w (BZ (-(h.pr a).c1) l.w) (S g).2.1;have E:∀g,Dz g (A9 a l h).w=((-(h.pr a).c1:Int):Rat)*Dz g l.w+((l.pr a).c1:Rat)*Dz g h.w:=λg=>by refine(M g).1.trans ?_;have:=(S g).1;rw[HG,Rat.zero_add] at this;rw[show BZ (-(h.pr a).c1) l.w=l.w.foldl (λd p=>Bw d p.1 (-(h.pr a).c1*p.2)) [] from rfl,this]
 have K:∀i,i∈Ap (A9 a l h).w↔i∈Ap l.w\/i∈Ap h.w:=λi=>by refine((M λ_=>0).2.2 i).trans ?_;have:=(S λ_=>0).2.2 i;rw[show BZ (-(h.pr a).c1) l.w=l.w.foldl (λd p=>Bw d p.1 (-(h.pr a).c1*p.2)) [] from rfl,this];simp[Ap]
 refine⟨?_, ?_, ?_,λz=> ?_,(M λ_=>0).2.1,λi hi=> ?_⟩
 .show ((-(h.pr a).c1*l.c0+(l.pr a).c1*h.c0:Int):Rat)=_;rw[E,<-hl.a,<-f.a,AEu,AAQ,AAQ]
 .show ((-(h.pr a).c1*l.c1+(l.pr a).c1*h.c1:Int):Rat)=_;rw[E,<-hl.b,<-f.b,AEu,AAQ,AAQ]
 .show ((-(h.pr a).c1*l.c2+(l.pr a).c1*h.c2:Int):Rat)=_;rw[E,<-hl.c,<-f.c,AEu,AAQ,AAQ]
 .have z:max l.s h.s=1:=z;have:l.s=1\/h.s=1:=by omega
  rcases this with q|q
  .obtain ⟨i,hi,e⟩:=hl.s q;exact⟨i,(K i).mpr (.inl hi),e⟩
  .obtain ⟨i,hi,e⟩:=f.s q;exact⟨i,(K i).mpr (.inr hi),e⟩
 .rcases (K i).mp hi with q|q
  .exact hl.k i q
  .exact f.k i q
def Sc (rows:kn (Int×Rat)):PV:= .tup (rows.map λe=> .tup [.int e.1,fr e.2])
def Ha (w:Wd)(k:Nat)(rows:kn (Int×Rat)):Rat:=(rows.map λe=>e.2*fK w k e.1).sum
structure jh (N:Nat) (w:Wd) (rows:List (Int×Rat)):Prop where
 r:rows.Pairwise λa b=>a.1<b.1
 k:∀e∈rows,0<=e.1/\e.1<12
 p:∀e∈rows,0<e.2/\Bd N e.2
 l:rows.length<=12
 b:Ha w 1 rows=0
 c:Ha w 2 rows=0
 a:Ha w 0 rows<0\/(Ha w 0 rows=0/\∃e∈rows,strN e.1.toNat=1)
def GB (m:kn (Int×Int))(ns:kn Int):kn (Int×Rat):=ns.map λk=>(k,((((m.lookup k).getD 0).fdiv (D6 m:Nat):Int):Rat))
theorem Nh:∀(m:kn (Int×Int)) (g:Nat),(m.foldl (λg e=>Nat.gcd e.2.toNat g) g ∣ g)/\∀e∈m,m.foldl (λg e=>Nat.gcd e.2.toNat g) g ∣ e.2.toNat
 | [],g=>⟨Nat.dvd_refl _,by simp⟩
 | x::m,g=>by
   obtain⟨h1,h2⟩:=Nh m (Nat.gcd x.2.toNat g);refine⟨AEq h1 (ACa ..),λe he=> ?_⟩;rcases AAI.mp he with rfl|he
   .exact AEq h1 (AEa ..)
   .exact h2 e he
def QQ {m:kn (Int×Int)}{e:Int×Int}(b:(Ap m).Nodup)(h:e∈m):m.lookup e.1=some e.2:=by
 induction m with
 | nil=>cases h
 | cons x m c=>
   obtain⟨d,f⟩:=Mh b;rcases AAI.mp h with rfl|a
   .obtain ⟨i,v⟩:=e;simp[List.lookup]
   .have ne:e.1≠x.1:=λz=>d (z ▸ AAH.mpr ⟨e,a,rfl⟩);obtain⟨i,v⟩:=x;have g:(e.1==i)=false:=by simpa using ne
    simp[List.lookup,g,c f a]
def dP {xs ys:kn Rat}(h:xs.Perm ys):xs.sum=ys.sum:=by
 induction h with
 | nil=>rfl
 | cons x _ c=>rw[AAy,AAy,c]
 | swap x y l=>simp only[AAy];grind
 | trans _ _ a b=>rw[a,b]
def aY {w:Wd}{k:Nat}{m:kn (Int×Int)}{ns:kn Int}(d:ns.Perm (Ap m))(f:(Ap m).Nodup)(pos:∀e∈m,0<e.2)(n:0<D6 m):Ha w k (GB m ns)*(D6 m:Nat)=Dz (fK w k) m:=by
 have g:Ha w k (GB m ns)=Ha w k (GB m (Ap m)):=by unfold Ha GB;exact dP ((d.map _).map _)
 have key:∀e∈m,((((m.lookup e.1).getD 0).fdiv (D6 m:Nat):Int):Rat)*(D6 m:Nat)=e.2:=λe he=>by
  rw[QQ f he,AD3];have p:=pos e he;have b:=(Nh m 0).2 e he;have b:((D6 m:Nat):Int) ∣ e.2:=by
   have:((D6 m:Nat):Int) ∣ ((e.2.toNat:Nat):Int):=Int.natCast_dvd_natCast.mpr b
   rwa [Int.toNat_of_nonneg (by omega)] at this
  rw[ACI _ (by omega)];have:=Int.ediv_mul_cancel b;rw[<-ABT (D6 m),<-AAQ,this]
 rw[g];unfold Ha GB Ap Dz;rw[AA7,AA7];generalize o:D6 m=G at *;have c:∀a:kn (Int×Int),(∀e∈a,e∈m)->(a.map ((λe:Int×Rat=>e.2*fK w k e.1) ∘ (λk=>(k,((((m.lookup k).getD 0).fdiv (G:Nat):Int):Rat))) ∘ λx=>x.1)).sum*(G:Nat)=(a.map λe=>(e.2:Rat)*fK w k e.1).sum:=by
  intro a;induction a with
  | nil=>intro _;simp
  | cons x a j=> intro h;have i:=j λe he=>h e (by simp[he]);have l:=key x (h x (by simp));simp only[AAM,AAy,Function.comp] at i ⊢;rw[<-i,<-l];grind
 exact c m λe he=>he
def nH {w:Wd}{N:Nat}{p:Bz}(hp:RG w p)(pos:∀e∈p.w,0<e.2/\e.2.natAbs<2^N)(hl:p.w.length<=12)(g:p.c1=0)(j:p.c2=0)(c0:p.c0<0\/(p.c0=0/\p.s=1))(ne:p.w≠ []){ns:kn Int}(d:ns.Perm (p.w.map (·.1)))(l:ns.Pairwise (· <= ·)):jh (N+1) w (GB p.w ns):=by
 have f:0<D6 p.w:=RT p.w 0 (.inr ne) λe he=>(pos e he).1;have d:ns.Perm (Ap p.w):=d;have S:=λk=>aY (w:=w) (k:=k) d hp.n (λe he=>(pos e he).1) f;have m:(0:Rat)<((D6 p.w:Nat):Rat):=by exact_mod_cast f
 have o:ns.Nodup:=d.nodup_iff.mpr hp.n;have zero:∀k,Dz (fK w k) p.w=0->Ha w k (GB p.w ns)=0:=λk h=>by
  have:=S k;rw[h] at this;rcases ACh.mp this with z|z
  .exact z
  .grind
 have vals:∀i∈ns,0<((p.w.lookup i).getD 0).fdiv (D6 p.w:Nat)/\(((p.w.lookup i).getD 0).fdiv (D6 p.w:Nat)).natAbs<2^N:=λi hi=>by
  obtain⟨e,he,rfl⟩:=AAH.mp (d.mem_iff.mp hi);rw[QQ hp.n he,AD3,ACI _ (by omega)];obtain⟨y,A⟩:=pos e he;have r:=(Nh p.w 0).2 e he;have t:=ACc (by omega) r;have B:0<e.2.toNat/D6 p.w:=Nat.div_pos t f;have C:e.2.toNat/D6 p.w<=e.2.toNat:=ACZ ..;have u:e.2/((D6 p.w:Nat):Int)=((e.2.toNat/D6 p.w:Nat):Int):=by rw[ACb,Int.toNat_of_nonneg (by omega)]
  rw[u];omega
 refine⟨?_, ?_, ?_, ?_,zero 1 (by rw[<-hp.b,g];rfl),zero 2 (by rw[<-hp.c,j];rfl), ?_⟩
 .refine AEv.mpr ?_;have:ns.Pairwise λa b=>a<=b/\a≠b:=l.and o;exact this.imp λ{a b} h=>by show a<b;omega
 .intro e he;obtain⟨i,hi,rfl⟩:=AAH.mp he;exact hp.k i (d.mem_iff.mp hi)
 .intro e he;obtain⟨i,hi,rfl⟩:=AAH.mp he;obtain⟨v1,v⟩:=vals i hi;refine⟨Rat.intCast_pos.mpr v1,⟨?_, ?_⟩⟩
  .rw [Rat.num_intCast];exact Aw v (by omega)
  .rw [Rat.den_intCast];exact AAX (by decide:1<2^1) (ACs (by decide) (by omega))
 .unfold GB;rw[AAK,d.length_eq];unfold Ap;rw[AAK];exact hl
 .have:=S 0;rw[<-hp.a] at this;rcases c0 with z|⟨z,x⟩
  .left;have:Ha w 0 (GB p.w ns)*((D6 p.w:Nat):Rat)<0:=by rw[this];exact_mod_cast z
   by_cases q:0<=Ha w 0 (GB p.w ns)
   .have:=Rat.mul_nonneg q (Rat.le_of_lt m);grind
   .grind
  .right;refine⟨zero 0 (by rw[<-hp.a,z];rfl), ?_⟩;obtain⟨i,hi,e⟩:=hp.s x;exact⟨_,AAH.mpr ⟨i,d.mem_iff.mpr hi,rfl⟩,e⟩
instance{p:Bz}{Q:PV->Prop}:Wp (Li (A0 p) .non Q) (Q (.bl true)):=⟨id⟩
def oZ {n:Nat}(h:n<12){Q:PV->Prop}(q:Q (.int (strN n))):Ah (.tup [(.int 0),(.int 1),(.int 0),(.int 1),(.int 0),(.int 0),(.int 1),(.int 1),(.int 1),(.int 1),(.int 1),(.int 1)]) (.int n) Q:=by
 have cs:n=0\/n=1\/n=2\/n=3\/n=4\/n=5\/n=6\/n=7\/n=8\/n=9\/n=10\/n=11:=by omega
 rcases cs with rfl|rfl|rfl|rfl|rfl|rfl|rfl|rfl|rfl|rfl|rfl|rfl <;> exact q
def J2 (w:Wd):(EB w).length=12:=by simp[EB]
def J3 (w:Wd){n:Nat}(h:n<12):FY w n∈EB w:=AAH.mpr ⟨n,AAu.mpr h,rfl⟩
def aQ {a:kd}{ps:kn Bz}(h:ps.length<=12):(Dq a ps).length<=1000:=by
 unfold Dq;rw[AA6,ADP];have f:(ps.filter λp=>decide ((p.pr a).c1=0)).length<=12:=AAU (AB8 ..) h;have c:(ps.filter λp=>decide (0<(p.pr a).c1)).length<=12:=AAU (AB8 ..) h;have d:(ps.filter λp=>decide ((p.pr a).c1<0)).length<=12:=AAU (AB8 ..) h;generalize (ps.filter λp=>decide ((p.pr a).c1=0))=zs at *;generalize (ps.filter λp=>decide (0<(p.pr a).c1))=b at *;generalize (ps.filter λp=>decide ((p.pr a).c1<0))=hs at *;have:∀b:kn Bz,(b.map λl=>(hs.map λh=>A9 a l h).length).sum=b.length*hs.length:=λb=>by
  induction b with
  | nil=>simp
  | cons x b e=>simp[AAM,AAy,ACd] at e ⊢;omega
 rw[this];have:=ABS c d;omega
def fD {ps:kn Bz}{N:Nat}(h:∀p∈ps,Bn N p/\kb 1 N p.w):∀p∈Dq true ps,Bn (2*N+4) p/\kb 2 (2*N+4) p.w:=by
 intro p hp;unfold Dq at hp;rcases AAL.mp hp with hp|hp
 .obtain ⟨k,w⟩:=h p (AAT.mp hp).1;exact⟨⟨Aw k.a (by omega),Aw k.b (by omega),Aw k.c (by omega),λe he=>Aw (k.w e he) (by omega),k.l,k.s⟩,⟨λe he=>⟨(w.p e he).1,Aw (w.p e he).2 (by omega)⟩,by have:=w.l;omega,w.n⟩⟩
 .obtain ⟨l,hl,hp⟩:=ABG.mp hp;obtain⟨h',d,rfl⟩:=AAH.mp hp;obtain⟨hl,f⟩:=AAT.mp hl;obtain⟨d,g⟩:=AAT.mp d;exact Xm (h l hl).1 (h h' d).1 (h l hl).2 (h h' d).2 (by decide) (AB4 f) (AB4 g)
def SM {w:Wd}{W:Nat}(ok:Tn W w){n:Nat}(c:n<12):∃S:Rat,0<S/\((FY w n).c1:Rat)=(Ad w n).2.1*S/\((FY w n).c2:Rat)=(Ad w n).2.2*S:=by obtain⟨a,b2,b⟩:=FT ok n;obtain⟨h1,h2,_⟩:=G8 (W:=3*W+2) 3 [(Ad w n).1,(Ad w n).2.1,(Ad w n).2.2] rfl (by simp;exact⟨a,b2,b⟩);exact⟨((Fc [(Ad w n).1,(Ad w n).2.1,(Ad w n).2.2] :Nat):Rat),by exact_mod_cast h1,Fy (h2 _ (by simp)),Fy (h2 _ (by simp))⟩
def LP {x:Int}{y:Rat}{S:Rat}(a:0<S)(e:(x:Rat)=y*S):(0<y->0<x)/\(y=0->x=0)/\(y<0->x<0):=by
 refine⟨λh=> ?_,λh=> ?_,λh=> ?_⟩
 .have:(0:Rat)<x:=by rw[e];exact ACO h a
  exact_mod_cast this
 .have:(x:Rat)=0:=by rw[e,h];grind
  exact_mod_cast this
 .have p:0 < -y*S:=ACO (by grind) a;have:(x:Rat)<0:=by rw[e];grind
  exact_mod_cast this
def ja (m:kn (Int×Int))(ns:kn Int):Sc (GB m ns)= .tup (ns.map (ii m)):=by unfold Sc GB;rw[AA7];rfl
def XM {w:Wd}{ps:kn Bz}(h:∀p∈ps,RG w p)(hs:∀p∈ps,p.s=0\/p.s=1):∀p∈Dq true ps,RG w p/\p.c2=0:=by
 intro p hp;unfold Dq at hp;rcases AAL.mp hp with hp|hp
 .obtain ⟨hp,z⟩:=AAT.mp hp;exact⟨h p hp,AB4 z⟩
 .obtain ⟨l,hl,hp⟩:=ABG.mp hp;obtain⟨h',a,rfl⟩:=AAH.mp hp;obtain⟨hl,b⟩:=AAT.mp hl;obtain⟨a,c⟩:=AAT.mp a;refine⟨OM (h l hl) (h h' a) (hs l hl) (hs h' a), ?_⟩;show -h'.c2*l.c2+l.c2*h'.c2=0;grind
def dB {N:Nat}:Bd (N+1) (1:Rat):=⟨AAX (by decide:1<2^1) (ACs (by decide) (by omega)),AAX (by decide:1<2^1) (ACs (by decide) (by omega))⟩
def nI {w:Wd}{N:Nat}(h:w.e'.1+w.l'<=w.b.1)(hN:1<=N):jh N w [(0,1),(3,1),(5,1)] :=by
 obtain⟨N,rfl⟩:∃n,N=n+1:=⟨N-1,by omega⟩;have e:∀k,Ha w k [(0,1),(3,1),(5,1)] =fK w k 0+fK w k 3+fK w k 5:=λk=>by unfold Ha;simp only[AAM,AC7,AAy,List.sum_nil];grind
 refine⟨by simp,by simp,λe he=> ?_,by decide, ?_, ?_, ?_⟩
 .simp only[AAI,AAp,AAq] at he;rcases he with rfl|rfl|rfl <;> exact⟨by decide,dB⟩
 .rw [e];show (1:Rat)+0 + -1=0;grind
 .rw [e];show (0:Rat) + -1+1=0;grind
 .rw [e];show -w.b.1+w.e'.1+w.l'<0\/(-w.b.1+w.e'.1+w.l'=0/\_);by_cases z:w.e'.1+w.l'=w.b.1
  .exact .inr ⟨by grind,(3,1),by simp,rfl⟩
  .exact .inl (by grind)
def nJ {w:Wd}{N:Nat}(h:w.e.1+w.l<=w.b'.1)(hN:1<=N):jh N w [(1,1),(2,1),(4,1)] :=by
 obtain⟨N,rfl⟩:∃n,N=n+1:=⟨N-1,by omega⟩;have e:∀k,Ha w k [(1,1),(2,1),(4,1)] =fK w k 1+fK w k 2+fK w k 4:=λk=>by unfold Ha;simp only[AAM,AC7,AAy,List.sum_nil];grind
 refine⟨by simp,by simp,λe he=> ?_,by decide, ?_, ?_, ?_⟩
 .simp only[AAI,AAp,AAq] at he;rcases he with rfl|rfl|rfl <;> exact⟨by decide,dB⟩
 .rw [e];show (-1:Rat)+0+1=0;grind
 .rw [e];show (0:Rat)+1 + -1=0;grind
 .rw [e];show w.e.1 + -w.b'.1+w.l<0\/(w.e.1 + -w.b'.1+w.l=0/\_);by_cases z:w.e.1+w.l=w.b'.1
  .exact .inr ⟨by grind,(1,1),by simp,rfl⟩
  .exact .inl (by grind)
def Wh {w:Wd}{N:Nat}(h:kg N w)(hN:N<=770){Q:PV->Prop}(J:(¬∃s t,Om w s t)->∀rows,jh (4*N+13) w rows->Q (.tup [.non,Sc rows]))(qm:∀s t,Om w s t->Bd (4*N+12) s->Bd (10*N+30) t->Q (.tup [.tup [fr s,fr t], .non])):FQ [fX w] Q:=by
 have k0:=iX h;obtain⟨W,ok,hW⟩:=h.W;have hh:=λs t=>nU ok h.sh s t;have sy:∀p∈EB w,RG w p:=λp hp=>by obtain⟨n,hn,rfl⟩:=AAH.mp hp;exact iu ok (AAu.mp hn)
 have c0:=SM ok (n:=0) (by decide);have c1:=SM ok (n:=1) (by decide);have c2:=SM ok (n:=2) (by decide);have c3:=SM ok (n:=3) (by decide);have K:=λn=>FT ok n;apply VD;ac_rfl;refine pD ok (by omega) (λv r=> ?_) (λv r=> ?_) ?_
 .have b:=J v [(0,1),(3,1),(5,1)] (nI r (by omega));rw[show Sc [(0,1),(3,1),(5,1)] =uI from rfl] at b;unfold uI at b ⊢;ac_rfl;exact b
 .have b:=J v [(1,1),(2,1),(4,1)] (nJ r (by omega));rw[show Sc [(1,1),(2,1),(4,1)] =wF from rfl] at b;unfold wF at b ⊢;ac_rfl;exact b
 ac_rfl;refine Xk (λi f=>f=((List.range i).map (FY w)).map A0) (λf e=> ?_) (λi hi f R E e=> ?_) rfl;rotate_left
 .have b:=E (f ++ [A0 (FY w i)]) (by rw[e,ADM,ACL,ACL];rfl);clear E;have hi:i<12:=hi;rw[show (0:Int)+(i:Int)=i by omega];ac_rfl;refine gR ok (by omega) hi ?_;unfold jZ;ac_rfl;refine oZ hi ?_;ac_rfl;obtain⟨F,b2,b3⟩:=K i;refine aB F b2 b3 (by omega) ?_;exact b
 subst e;show An 2 (.lst ((EB w).map A0)) _ _;ac_rfl;have hs:∀p∈EB w,p.s=0\/p.s=1:=λp hp=>(k0 p hp).1.s;have x:∃p∈EB w,0<p.c2:=by obtain⟨S,g,_,e⟩:=c2;exact⟨_,J3 w (n:=2) (by decide),(LP g e).1 (by simp only[Ad];decide)⟩
 have xo:∃p∈EB w,p.c2<0:=by obtain⟨S,g,_,e⟩:=c3;exact⟨_,J3 w (n:=3) (by decide),(LP g e).2.2 (by simp only[Ad];decide)⟩
 have FM:=λs=>fm hs x xo s;have m0:∃p∈Dq true (EB w),0<(p.pr false).c1*1:=by obtain⟨S,g,e,L⟩:=c0;refine⟨FY w 0,AAL.mpr (.inl (AAT.mpr ⟨J3 w (by decide),AAV ((LP g L).2.1 (by simp only[Ad]))⟩)), ?_⟩;have:=(LP g e).1 (by simp only[Ad];decide);show 0<(FY w 0).c1*1;omega
 have m1:∃p∈Dq true (EB w),0<(p.pr false).c1 * -1:=by obtain⟨S,g,e,L⟩:=c1;refine⟨FY w 1,AAL.mpr (.inl (AAT.mpr ⟨J3 w (by decide),AAV ((LP g L).2.1 (by simp only[Ad]))⟩)), ?_⟩;have:=(LP g e).2.2 (by simp only[Ad];decide);show 0<(FY w 1).c1 * -1;omega
 have d:=fD (ps:=EB w) λp hp=>⟨(k0 p hp).1,(k0 p hp).2.1⟩;have st:=XM sy hs;have r:=aQ (a:=true) (ps:=EB w) (by rw[J2];decide);refine⟨rfl, ?_⟩;show EY [.lst ((EB w).map A0), .int (Oi true), .int 2] _;refine VW rfl (λp hp=>(k0 p hp).1) (λp hp=>(k0 p hp).2.2) (by omega) (by rw[J2];decide) ?_;generalize Dq true (EB w)=first at *
 have j:∀p∈first,p.s=0\/p.s=1:=λp hp=>(d p hp).1.s
 have y:∀q∈first.map (Bz.pr false),q.s=0\/q.s=1:=λq c=>by obtain⟨p,hp,rfl⟩:=AAH.mp c;exact j p hp
 obtain⟨l,e1,k,gl,t1⟩:=E4 (a:=false) (.inl rfl) j m0;obtain⟨h,e2,m,M,t2⟩:=E4 (a:=false) (.inr rfl) j m1;have gl:0<(l.pr false).c1:=by omega
 have M:(h.pr false).c1<0:=by omega
 have cn:=Ge (l:=l.pr false) (h:=h.pr false) gl M (j l k) (j h m) (A9 false l h).w;have cw:=Xm (a:=false) (d l k).1 (d h m).1 (d l k).2 (d h m).2 (by decide) gl M;ac_rfl;show Ds [.lst (first.map A0), .int (Oi false)] _;refine ZZ rfl (λp hp=>(d p hp).1) (by omega) r e1 e2 (λO nc=> ?_) (λp hp G=> ?_)
 .obtain ⟨s0,a1,a2⟩:=cn.mp nc;have A:=ZF y t1 t2 (λq c z=>by
   obtain⟨p,hp,rfl⟩:=AAH.mp c;exact O p hp z) a1 a2
  have md:=QV y t1 t2 A;have F:=TB ((d l k).1.pr false) (by omega);have b2:=TB ((d h m).1.pr false) (by omega);have bs:=cy F b2;obtain⟨t0,ht⟩:=(FM _).mp λp hp=>md _ (AAH.mpr ⟨p,hp,rfl⟩);ac_rfl;show Cj [.lst (first.map A0), .int (Oi false)] _;refine Ql rfl (λp hp=>(d p hp).1) (by omega) r e1 e2 (by omega) (by omega) (F.mono (by omega)) (b2.mono (by omega)) ?_;generalize (CI (l.pr false)+CI (h.pr false))/2=s at *;have lh:(0:Int)<s.den:=by exact_mod_cast s.den_pos
  have H:∀q∈(EB w).map (DJ false s),Bn (N+(2*(2*(N)+4)+4)+1) q:=λq c=>by obtain⟨p,hp,rfl⟩:=AAH.mp c;exact ng (k0 p hp).1 bs
  have P:∀q∈(EB w).map (DJ false s),q.s=0\/q.s=1:=λq c=>(H q c).s;have lq:((EB w).map (DJ false s)).length<=1000:=by rw[AAK,J2];decide
  have n0:∃p∈(EB w).map (DJ false s),0<(p.pr true).c1*1:=by obtain⟨p,hp,z⟩:=x;refine⟨_,AAH.mpr ⟨p,hp,rfl⟩, ?_⟩;show 0<(s.den:Int)*p.c2*1;rw[ACU];exact AB9 lh z
  have n1:∃p∈(EB w).map (DJ false s),0<(p.pr true).c1 * -1:=by obtain⟨p,hp,z⟩:=xo;refine⟨_,AAH.mpr ⟨p,hp,rfl⟩, ?_⟩;show 0<(s.den:Int)*p.c2 * -1;rw[show (s.den:Int)*p.c2 * -1=s.den * -p.c2 by grind];exact AB9 lh (by omega)
  obtain⟨l',T,U,gl',X⟩:=E4 (a:=true) (.inl rfl) P n0;obtain⟨h',Y,Z,gh',t2'⟩:=E4 (a:=true) (.inr rfl) P n1;have md':=QV (λq c=>by
   obtain⟨p,hp,rfl⟩:=AAH.mp c;exact P p hp) X t2' (t0:=t0) λq c=>by obtain⟨q',UW,rfl⟩:=AAH.mp c;obtain⟨p,hp,rfl⟩:=AAH.mp UW;exact CS.mpr (ht p hp)
  have B:=TB ((H l' U).pr true) (by omega);have C:=TB ((H h' Z).pr true) (by omega);have bt:=cy B C;have b:=qm s _ ((hh s _).mp λp hp=>CS.mp (md' _ (AAH.mpr ⟨_,AAH.mpr ⟨p,hp,rfl⟩,rfl⟩))) (bs.mono (by omega)) (bt.mono (by omega));ac_rfl;refine⟨by rw[J2];decide, ?_⟩;refine HK A0 A0 (DJ false s) (λp=>p∈EB w) (λp hp R E=> ?_) (EB w) [] (λp hp=>hp) ?_
  .ac_rfl;show D4 [A0 p, .int (Oi false),fr s] _;exact Ww (k0 p hp).1 bs (by omega) (by omega) E
  rw[ABR];generalize (EB w).map (DJ false s)=qs at *;ac_rfl;show Cj [.lst (qs.map A0), .int (Oi true)] _;refine Ql rfl H (by omega) lq T Y (by omega) (by omega) (B.mono (by omega)) (C.mono (by omega)) ?_;generalize (CI (l'.pr true)+CI (h'.pr true))/2=t at *;ac_rfl;exact b
 .have v:¬∃s t,Om w s t:=by
   rintro⟨s,t,o⟩;have A:=(FM s).mpr ⟨t,(hh s t).mpr o⟩;rcases hp with⟨hp,z⟩|rfl
   .have:=(HN z (j p hp) s).mp (A p hp);rw[this] at G;cases G
   .have:=cn.mpr ⟨s,A l k,A h m⟩;have D:FB ⟨-(h.pr false).c1*(l.pr false).c0+(l.pr false).c1*(h.pr false).c0, -(h.pr false).c1*(l.pr false).c1+(l.pr false).c1*(h.pr false).c1,max (l.pr false).s (h.pr false).s,(A9 false l h).w⟩=true:=G;rw[this] at D;cases D
  have u:kb 4 (2*(2*(N)+4)+4) p.w:=by
   rcases hp with⟨hp,z⟩|rfl
   .have I:=(d p hp).2;exact⟨λe he=>⟨(I.p e he).1,Aw (I.p e he).2 (by omega)⟩,by have:=I.l;omega,I.n⟩
   .exact cw.2
  have sp:RG w p/\p.c1=0/\p.c2=0:=by
   rcases hp with⟨hp,z⟩|rfl
   .exact ⟨(st p hp).1,z,(st p hp).2⟩
   .refine ⟨OM (st l k).1 (st h m).1 (j l k) (j h m), ?_, ?_⟩
    .show -(h.pr false).c1*l.c1+(l.pr false).c1*h.c1=0;show -h.c1*l.c1+l.c1*h.c1=0;grind
    .show -(h.pr false).c1*l.c2+(l.pr false).c1*h.c2=0;rw[(st l k).2,(st h m).2];grind
  have O:p.c0<0\/(p.c0=0/\p.s=1):=by have:decide (p.c0<0\/(p.c0=0/\p.s=1))=true:=G;exact AB4 this
  have b:=λns pm pw=>J v _ (cast (congrArg (λn=>jh n w _) (by omega:2*(2*N+4)+4+1=4*N+13)) (nH (ns:=ns) sp.1 u.p (by have:=u.l;omega) sp.2.1 sp.2.2 O u.n pm pw));ac_rfl;refine aR u.p u.n (by have:=u.l;omega) (by omega) λns pm pw=> ?_;have b:=b ns pm pw;rw[ja] at b;ac_rfl;exact b
def V8 {a:Type}:Nat->kn a->kn (Nat×a)
 | _, [] => []
 | k,x::xs=>(k,x)::V8 (k+1) xs
theorem Jp {a:Type}:∀(k:Nat) (xs:kn a),(V8 k xs).length=xs.length
 | _, [] =>rfl
 | k,x::xs=>by simp[V8,Jp (k+1) xs]
theorem Jr {a:Type}:∀(k:Nat) (xs:kn a),(V8 k xs).map (·.2)=xs
 | _, [] =>rfl
 | k,x::xs=>by simp[V8,Jr (k+1) xs]
theorem Kz {a:Type}(g:a->PV):∀(k:Nat) (xs:kn a),B0 k (xs.map g)=(V8 k xs).map λp=> .tup [.int p.1,g p.2]
 | _, [] =>rfl
 | k,x::xs=>by have:=Kz g (k+1) xs;simp only[AAM,B0,V8];rw[<-this]
def BG (cs ds:kn C4)(b e:T3)(d:Rat×Rat)(p q:C4×C4):Wd:=⟨p.1,p.2,q.1,q.2,szs b e d,b.2.2,e.2.2⟩
def wrow (x:Nat×Nat×Wd):PV:= .tup [.int x.1, .int x.2.1,fX x.2.2]
def fH (cs ds:kn C4)(b e:T3)(d:Rat×Rat):kn (Nat×Nat×Wd):=(V8 0 (EI cs)).flatMap λp=>(V8 0 (EI ds)).map λq=>(p.1,q.1,BG cs ds b e d p.2 q.2)
def TF {cs ds:kn C4}{b e:T3}{d:Rat×Rat}{x:Nat×Nat×Wd}(h:x∈fH cs ds b e d):∃p∈EI cs,∃q∈EI ds,x.2.2=BG cs ds b e d p q:=by obtain⟨p,hp,h⟩:=ABG.mp h;obtain⟨q,a,rfl⟩:=AAH.mp h;exact⟨p.2,by rw[<-Jr 0 (EI cs)];exact AAH.mpr ⟨p,hp,rfl⟩,q.2,by rw[<-Jr 0 (EI ds)];exact AAH.mpr ⟨q,a,rfl⟩,rfl⟩
def YK {cs ds:kn C4}{b e:T3}{d:Rat×Rat}{p q:C4×C4}(hp:p∈EI cs)(a:q∈EI ds):∃x∈fH cs ds b e d,x.2.2=BG cs ds b e d p q:=by rw[<-Jr 0 (EI cs)] at hp;rw[<-Jr 0 (EI ds)] at a;obtain⟨c,f,rfl⟩:=AAH.mp hp;obtain⟨g,h,rfl⟩:=AAH.mp a;exact⟨_,ABG.mpr ⟨c,f,AAH.mpr ⟨g,h,rfl⟩⟩,rfl⟩
def cA {cs:kn C4}{b:T3}{v:PV}(h:Kv cs b v):∃p w,Ld cs p/\Yx b w/\∀{R:PV->Prop},(R p->Ah v (.int 0) R)/\(R w->Ah v (.int 1) R):=by
 obtain⟨p,w,h1,h2,rfl|rfl⟩:=h
 .exact ⟨p,w,h1,h2,id,id⟩
 .exact ⟨p,w,h1,h2,id,id⟩
def aa {cs ds:kn C4}{b e:T3}{d:Rat×Rat}{v w u:PV}{B:Nat}(hv:Kv cs b v)(hw:Kv ds e w)(hu:Yv d u)(H:NQ 100 b)(I:NQ 100 e)(J:Bd 100 d.1)(b2:Bd 100 d.2)(hc:∀c∈cs,F6 B c)(K:TH cs)(h2:2<=cs.length)(hl:cs.length<=100)(L:∀c∈ds,F6 B c)(M:TH ds)(N:2<=ds.length)(U:ds.length<=100)(E:6*B+3<=3900){Q:PV->Prop}(q:Q (.lst ((fH cs ds b e d).map wrow))):DQ [v,w,u] Q:=by
 have sz:=λ{Q}=>eJ (Q:=Q) hv hw hu H I J b2;obtain⟨W,X,l,m,i⟩:=cA hv;obtain⟨Y,Z,n,o,j⟩:=cA hw;have r:(EI cs).length<=100:=by unfold EI;simp;omega
 have s:(EI ds).length<=100:=by unfold EI;simp;omega
 apply Pm;ac_rfl;refine sz ?_;ac_rfl;refine i.2 ?_;ac_rfl;refine(bY m).2.2 ?_;ac_rfl;refine j.2 ?_;ac_rfl;refine(bY o).2.2 ?_;ac_rfl;refine j.1 ?_;ac_rfl;refine dU n L M N (by omega) E ?_;ac_rfl;refine i.1 ?_;ac_rfl;refine dU l hc K h2 (by omega) E ?_;ac_rfl;show DE _ _ _ (B0 0 ((EI cs).map λp=>CV p.1 p.2)) _;rw[Kz];unfold fH at q;have O:(V8 0 (EI cs)).length<=100:=by rw[Jp];exact r
 have t:(V8 0 (EI ds)).length<=100:=by rw[Jp];exact s
 have y:B0 0 ((EI ds).map λp=>CV p.1 p.2)=(V8 0 (EI ds)).map λp=> .tup [.int p.1,CV p.2.1 p.2.2] :=Kz _ 0 _;generalize (V8 0 (EI cs))=us1 at *;generalize (V8 0 (EI ds))=us2 at *;generalize hP:((EI ds).map λp=>CV p.1 p.2)=P2 at *;refine CZ (λp:Nat×C4×C4=> .tup [.int p.1,CV p.2.1 p.2.2]) (λf vs τ=>∃z C g a,τ= [some (.val v),some (.val w),some (.val u),some (.val (.lst [fr (szs b e d).1,fr (szs b e d).2.1,fr (szs b e d).2.2])),some (.val (.tup [fr b.2.2,fr e.2.2])),some (.val (.lst P2)),some (.own ((f.flatMap λp=>us2.map λq=>(p.1,q.1,BG cs ds b e d p.2 q.2)).map wrow)),z,C,g,a]) ?_ ?_ ⟨none,none,none,none,rfl⟩
 .rintro τ ⟨z,C,g,a,rfl⟩;ac_rfl;exact q
 .rintro f p vs P τ R F ⟨z,C,g,a,rfl⟩;have ul:f.length<=100:=by have:=congrArg List.length P;simp at this;omega
  ac_rfl;show DE _ _ _ (B0 0 P2) _;rw[y];refine CZ (λp:Nat×C4×C4=> .tup [.int p.1,CV p.2.1 p.2.2]) (λh xs τ=>∃g a,τ= [some (.val v),some (.val w),some (.val u),some (.val (.lst [fr (szs b e d).1,fr (szs b e d).2.1,fr (szs b e d).2.2])),some (.val (.tup [fr b.2.2,fr e.2.2])),some (.val (.lst P2)),some (.own (((f.flatMap λp=>us2.map λq=>(p.1,q.1,BG cs ds b e d p.2 q.2))++h.map λq=>(p.1,q.1,BG cs ds b e d p.2 q.2)).map wrow)),some (.val (.int p.1)),some (.val (CV p.2.1 p.2.2)),g,a]) ?_ ?_ ⟨g,a,by simp⟩
  .rintro τ ⟨g,a,rfl⟩;exact F _ ⟨some (.val (.int p.1)),some (.val (CV p.2.1 p.2.2)),g,a,by simp[ADO]⟩
  .rintro h x xs D τ R' G ⟨g,a,rfl⟩;have wl:h.length<=100:=by have:=congrArg List.length D;simp at this;omega
   have k:=G [some (.val v),some (.val w),some (.val u),some (.val (.lst [fr (szs b e d).1,fr (szs b e d).2.1,fr (szs b e d).2.2])),some (.val (.tup [fr b.2.2,fr e.2.2])),some (.val (.lst P2)),some (.own (((f.flatMap λp=>us2.map λq=>(p.1,q.1,BG cs ds b e d p.2 q.2))++(h ++ [x]).map λq=>(p.1,q.1,BG cs ds b e d p.2 q.2)).map wrow)),some (.val (.int p.1)),some (.val (CV p.2.1 p.2.2)),some (.val (.int x.1)),some (.val (CV x.2.1 x.2.2))] ⟨_,_,rfl⟩;clear G F;have S:∀A:kn (Nat×Nat×Wd),(A++(h ++ [x]).map λq=>(p.1,q.1,BG cs ds b e d p.2 q.2)).map wrow=(A++h.map λq=>(p.1,q.1,BG cs ds b e d p.2 q.2)).map wrow ++ [wrow (p.1,x.1,BG cs ds b e d p.2 x.2)] :=λA=>by simp
   rw[S] at k;have len:(((f.flatMap λp=>us2.map λq=>(p.1,q.1,BG cs ds b e d p.2 q.2))++h.map λq=>(p.1,q.1,BG cs ds b e d p.2 q.2)).map wrow).length<=10100:=by
    have:(f.flatMap λp=>us2.map λq=>(p.1,q.1,BG cs ds b e d p.2 q.2)).length<=100*100:=by
     rw[ADP];have:∀f:kn (Nat×C4×C4),(f.map λp=>(us2.map λq=>(p.1,q.1,BG cs ds b e d p.2 q.2)).length).sum=f.length*us2.length:=λf=>by
      induction f with
      | nil=>simp
      | cons x f T=>simp[AAM,AAy,ACd] at T ⊢;omega
     rw[this];exact ABS ul t
    simp only[AAK,AA6];omega
   generalize (((f.flatMap λp=>us2.map λq=>(p.1,q.1,BG cs ds b e d p.2 q.2))++h.map λq=>(p.1,q.1,BG cs ds b e d p.2 q.2)).map wrow)=told at *;ac_rfl;refine⟨QR len (by decide), ?_⟩;ac_rfl;exact k
def Gr (x:(Nat×Nat×Wd)×kn (Int×Rat)):PV:= .tup [.int x.1.1, .int x.1.2.1,Sc x.2]
def Wi {v w u:PV}{L:kn (Nat×Nat×Wd)}(hw:∀{Q:PV->Prop},Q (.lst (L.map wrow))->DQ [v,w,u] Q)(hl:L.length<=10100){N:Nat}(hN:N<=770)(p:∀x∈L,kg N x.2.2){Q:PV->Prop}(r:(∀x∈L,¬∃s t,Om x.2.2 s t)->∀ps:kn (kn (Int×Rat)),L.length=ps.length->(∀y∈L.zip ps,jh (4*N+13) y.1.2.2 y.2)->Q (.tup [.str "apart", .tup ((L.zip ps).map Gr)]))(z:∀x∈L,∀s t,Om x.2.2 s t->Bd (4*N+12) s->Bd (10*N+30) t->Q (.tup [.str "meet",fr s,fr t])):EX [v,w,u] Q:=by
 apply VE;ac_rfl;refine hw ?_;ac_rfl;refine CZ wrow (λa vs τ=>(∀x∈a,¬∃s t,Om x.2.2 s t)/\∃(ps:kn (kn (Int×Rat))) (c d f g h:kf AV),a.length=ps.length/\(∀y∈a.zip ps,jh (4*N+13) y.1.2.2 y.2)/\τ= [some (.val v),some (.val w),some (.val u),some (.own ((a.zip ps).map Gr)),c,d,f,g,h]) ?_ ?_ ⟨by simp, [],_,_,_,_,_,rfl,by simp,rfl⟩
 .rintro τ ⟨i,ps,c,d,f,g,h,hl,hp,rfl⟩;have b:=r i ps hl hp;ac_rfl;exact b
 .rintro a x vs e τ R j ⟨i,ps,c,d,f,g,h,l,A,rfl⟩;have mx:x∈L:=by rw[<-e];simp
  have ul:a.length<=10100:=by have:=congrArg List.length e;simp at this;omega
  have k:=z x mx;unfold wrow;ac_rfl;refine Wh (p x mx) hN (λnx rows hp=> ?_) (λs t o bs bt=> ?_)
  .have m:(a ++ [x]).zip (ps ++ [rows])=a.zip ps ++ [(x,rows)] :=by rw[List.zip_append l];rfl
   have b:=j [some (.val v),some (.val w),some (.val u),some (.own ((a.zip ps).map Gr ++ [Gr (x,rows)])),some (.val (.int x.1)),some (.val (.int x.2.1)),some (.val (fX x.2.2)),some (.val .non),some (.val (Sc rows))] ⟨λy hy=>by
    rcases AAL.mp hy with hy|hy
    .exact i y hy
    .rw [AAa.mp hy];exact nx,ps ++ [rows],_,_,_,_,_,by simp[l],λy hy=>by
    rw[m] at hy;rcases AAL.mp hy with hy|hy
    .exact A y hy
    .rw [AAa.mp hy];exact hp,by rw[m,ACL];rfl⟩
   clear j;have B:((a.zip ps).map Gr).length<=10100:=by rw[AAK,List.length_zip];omega
   generalize (a.zip ps).map Gr=told at *;unfold Gr Sc at b;unfold Sc;ac_rfl;refine⟨QR (n:=10100) (by omega) (by decide), ?_⟩;ac_rfl;exact b
  .clear j;ac_rfl;exact k s t o bs bt
def Mul.get {D N:Nat}{a:Rat}(h:Mul D N a):∃k:Int,a*(D:Rat)=(k:Rat)/\k.natAbs<=N:=by
 obtain⟨b,k,rfl,hk⟩:=h;refine⟨k, ?_,hk⟩;have:(D:Rat)≠0:=by exact_mod_cast (by omega:D≠0)
 rw[ACg,ABT];grind
def Mul.mk' {D N:Nat}{a:Rat}{k:Int}(b:0<D)(e:a*(D:Rat)=(k:Rat))(hk:k.natAbs<=N):Mul D N a:=by
 refine⟨b,k, ?_,hk⟩;have:(D:Rat)≠0:=by exact_mod_cast (by omega:D≠0)
 rw[ACg,ABT];grind
def Mul.neg {D N:Nat}{a:Rat}(h:Mul D N a):Mul D N (-a):=by obtain⟨k,e,hk⟩:=h.get;exact .mk' h.1 (k:= -k) (by rw[Rat.intCast_neg,<-e];grind) (by omega)
def Mul.sub {D N M:Nat}{a b:Rat}(ha:Mul D N a)(hb:Mul D M b):Mul D (N+M) (a-b):=by rw[Rat.sub_eq_add_neg];exact ha.add hb.neg
def Mul.mul {D N E M:Nat}{a b:Rat}(ha:Mul D N a)(hb:Mul E M b):Mul (D*E) (N*M) (a*b):=by obtain⟨k,e,hk⟩:=ha.get;obtain⟨l,f,hl⟩:=hb.get;refine .mk' (ABF ha.1 hb.1) (k:=k*l) ?_ (by rw[ABL];exact ABS hk hl);rw[AAQ,<-e,<-f,AEw];grind
def Mul.upc {D N c:Nat}{a:Rat}(ha:Mul D N a)(hc:0<c):Mul (D*c) (N*c) a:=by obtain⟨k,e,hk⟩:=ha.get;refine .mk' (ABF ha.1 hc) (k:=k*c) ?_ (by rw[ABL,ABH];exact ACz c hk);rw[AAQ,<-e,AEw,ABT];grind
def Mul.den {D N:Nat}{a:Rat}(h:Mul D N a):a.den ∣ D:=by
 obtain⟨b,k,rfl,_⟩:=h;have e:=ABQ (Rat.divInt k D);rw[ADr (by exact_mod_cast (Rat.divInt k D).den_nz) (by omega)] at e;have c:=(Rat.divInt k D).reduced;generalize (Rat.divInt k D).num=x at e c;generalize (Rat.divInt k D).den=y at e c;have:y ∣ x.natAbs*D:=by have:=congrArg Int.natAbs e;rw[ABL,ABL,ABH,ABH] at this;exact⟨k.natAbs,by rw[this,ACA]⟩
 exact Nat.Coprime.dvd_of_dvd_mul_left (Nat.Coprime.symm c) this
theorem Yb {D:Nat}:∀(n:Nat) (xs:kn Rat),xs.length=n->(∀x∈xs,x.den ∣ D)->Fc xs ∣ D
 | 0,xs,e,_=>by rw[AEp.mp e];exact Nat.one_dvd D
 | n+1,xs,e,h=>by
   obtain⟨ys,x,rfl⟩:∃ys x,xs=ys ++ [x] :=⟨xs.dropLast,xs.getLast (by intro z;subst z;simp at e),(AD8 _).symm⟩;have a:=Yb n ys (by simp at e;omega) λy hy=>h y (by simp[hy]);have hx:=h x (by simp);rw[Sy];have:Fc ys*(x.den/Nat.gcd (Fc ys) x.den)=Nat.lcm (Fc ys) x.den:=by unfold Nat.lcm;rw[Nat.mul_div_assoc _ (ACa ..)]
   rw[this];exact Nat.lcm_dvd a hx
def iz {D N S:Nat}{a:Rat}(h:Mul D N a)(b:S ∣ D)(ha:a.den ∣ S):(TL S a).natAbs<=N:=by
 obtain⟨k,e,hk⟩:=h.get;obtain⟨c,rfl⟩:=b;have c0:0<c:=Nat.pos_of_ne_zero λz=>by have:=h.1;simp[z] at this
 have f:=Fy ha;have:((TL S a*c:Int):Rat)=(k:Rat):=by rw[AAQ,f,<-e,AEw,ABT];grind
 have:TL S a*c=k:=by exact_mod_cast this
 have:(TL S a).natAbs*c=k.natAbs:=by rw[<-this,ABL,ABH]
 have d:(TL S a).natAbs*1<=(TL S a).natAbs*c:=AB6 _ c0;omega
def YL {a b c:Rat}{D N B:Nat}{s n:Int}(ha:Mul D N a)(hb:Mul D N b)(hc:Mul D N c)(hs:s=0\/s=1)(hN:N<2^B)(d:D<2^B):Bn B (PY a b c s n):=by have e:Fc [a,b,c] ∣ D:=Yb 3 _ rfl (by simp;exact⟨ha.den,hb.den,hc.den⟩);obtain⟨W,f,g,h⟩:∃W,Bd W a/\Bd W b/\Bd W c:=⟨B,ha.bd hN d,hb.bd hN d,hc.bd hN d⟩;obtain⟨h1,h2,_⟩:=G8 (W:=W) 3 [a,b,c] rfl (by simp;exact⟨f,g,h⟩);have sl:=AAw (ACc ha.1 e) d;have q:∀x,Mul D N x->x∈ [a,b,c] ->(TL (Fc [a,b,c]) x).natAbs<2^B:=λx hx m=>AAw (iz hx e (h2 x m)) hN;exact⟨q a ha (by simp),q b hb (by simp),q c hc (by simp),by simp[PY];exact sl,by simp[PY],hs⟩
def gM (k:Nat)(c:C4):Rat:=match k with | 0=>c.2.1|1=>c.2.2.1|_=>c.2.2.2
def LQ (p:C4×C4)(k:Nat):Rat:=Yi p.1 p.2 (gM k p.1) (gM k p.2)
def KP (p:C4×C4)(k:Nat):Rat:=ah p.1 p.2 (gM k p.1) (gM k p.2)
structure ui (DT NT JM NS NB:Nat) (p:C4×C4):Prop where
 t1:Mul DT NT p.1.1
 t2:Mul DT NT p.2.1
 j:∃J,0<J/\J<=JM/\∀k,Mul J NS (LQ p k)/\Mul J NB (KP p k)
def tK {cs ds:kn C4}{b e:T3}{d:Rat×Rat}{p q:C4×C4}(k:Nat):sl (BG cs ds b e d p q) k=LQ p k/\ao (BG cs ds b e d p q) k=LQ q k/\ba (BG cs ds b e d p q) k=KP p k/\af (BG cs ds b e d p q) k=KP q k:=by rcases k with _|_|k <;> exact⟨rfl,rfl,rfl,rfl⟩
def aN (z:T3)(k:Nat):Rat:=match k with | 0=>z.1|1=>z.2.1|_=>z.2.2
def tL {cs ds:kn C4}{b e:T3}{d:Rat×Rat}{p q:C4×C4}(k:Nat):sz (BG cs ds b e d p q) k=aN (szs b e d) k:=by rcases k with _|_|k <;> rfl
def jb {g i f m l a r W N:Nat}{cs ds:kn C4}{b e:T3}{d:Rat×Rat}{p q:C4×C4}(hp:ui g i f m l p)(F:ui g i f m l q)(Q:∀k,Mul a r (aN (szs b e d) k))(hl:Mul g i b.2.2)(X:Mul g i e.2.2)(B:g<2^W)(C:i<2^W)(Y:f<2^W)(w4:m<2^W)(w5:l<2^W)(w6:a<2^W)(w7:r<2^W)(hW:3*W+2<=1300)(n1:f*f*a<2^N)(n2:r*(f*f)+2*(l*f*a)<2^N)(n3:m*f*a<2^N)(n4:g<2^N)(n5:i+g<2^N):kg N (BG cs ds b e d p q):=by
 obtain⟨J,I,K,L⟩:=hp.j;obtain⟨h,s,t,u⟩:=F.j;have o:=λk=>tK (cs:=cs) (ds:=ds) (b:=b) (e:=e) (d:=d) (p:=p) (q:=q) k;have w:=λk=>tL (cs:=cs) (ds:=ds) (b:=b) (e:=e) (d:=d) (p:=p) (q:=q) k;have G:0<a:=(Q 0).1;have jj:J*h<=f*f:=ABS K t;have D0:0<J*h*a:=ABF (ABF I s) G;have DD:J*h*a<2^N:=AAw (ACz a jj) n1;have jW:J<2^W:=AAw K Y;have H:h<2^W:=AAw t Y;refine⟨⟨W,⟨hp.t1.bd C B,hp.t2.bd C B,F.t1.bd C B,F.t2.bd C B,hl.bd C B,X.bd C B,λk=> ?_,λk=> ?_,λk=> ?_,λk=> ?_,λk=> ?_⟩,hW⟩,λn hn=> ?_⟩
 .rw [w];exact(Q k).bd w7 w6
 .rw [(o k).1];exact(L k).1.bd w4 jW
 .rw [(o k).2.1];exact(u k).1.bd w4 H
 .rw [(o k).2.2.1];exact(L k).2.bd w5 jW
 .rw [(o k).2.2.2];exact(u k).2.bd w5 H
 have S:∀k,Mul (J*h*a) (m*f*a) (LQ p k):=λk=>by
  have:=((L k).1.upc (c:=h*a) (ABF s G)).mono (M:=m*f*a) (by rw[<-ABV];exact ACz _ (AB6 _ t))
  rwa [<-ABV] at this
 have E:∀k,Mul (J*h*a) (m*f*a) (LQ q k):=λk=>by
  have:=((u k).1.upc (c:=J*a) (ABF I G)).mono (M:=m*f*a) (by rw[<-ABV];exact ACz _ (AB6 _ K))
  rwa [<-ABV,ACA h J] at this
 have A:∀k,Mul (J*h*a) (l*f*a) (KP p k):=λk=>by
  have:=((L k).2.upc (c:=h*a) (ABF s G)).mono (M:=l*f*a) (by rw[<-ABV];exact ACz _ (AB6 _ t))
  rwa [<-ABV] at this
 have A':∀k,Mul (J*h*a) (l*f*a) (KP q k):=λk=>by
  have:=((u k).2.upc (c:=J*a) (ABF I G)).mono (M:=l*f*a) (by rw[<-ABV];exact ACz _ (AB6 _ K))
  rwa [<-ABV,ACA h J] at this
 have Z:∀k,Mul (J*h*a) (r*(f*f)) (aN (szs b e d) k):=λk=>by
  have:=((Q k).upc (c:=J*h) (ABF I s)).mono (M:=r*(f*f)) (AB6 _ jj)
  rwa [ACA a] at this
 have O:=λk=>(A k).sub (A' k);have R:∀k,Mul (J*h*a) (r*(f*f)+2*(l*f*a)) (aN (szs b e d) k-(KP p k-KP q k)):=λk=>((Z k).sub (O k)).mono (by omega);have T:∀k,Mul (J*h*a) (r*(f*f)+2*(l*f*a)) (aN (szs b e d) k+(KP p k-KP q k)):=λk=>((Z k).add (O k)).mono (by omega);have side:∀{x y z:Rat},Mul (J*h*a) (r*(f*f)+2*(l*f*a)) x->Mul (J*h*a) (m*f*a) y->Mul (J*h*a) (m*f*a) z->Bn N (PY x y z (strN n) n):=λ{x y z} hx hy vO=>
  YL (N:=max (r*(f*f)+2*(l*f*a)) (m*f*a)) (hx.mono (Nat.le_max_left ..)) (hy.mono (Nat.le_max_right ..)) (vO.mono (Nat.le_max_right ..)) (Yp n) (by omega) DD
 have dt:=hp.t1.1;have v:Mul g (i+g) (1:Rat):=by have:=(Mul.int (n:=1) (D:=g) (N:=g) dt (by simp)).mono (M:=i+g) (by omega);simpa using this
 have P:Mul g (i+g) (0:Rat):=by have:=(Mul.int (n:=0) (D:=g) (N:=g) dt (by simp)).mono (M:=i+g) (by omega);simpa using this
 have time:∀{x y z:Rat},Mul g i x->Mul g (i+g) y->Mul g (i+g) z->Bn N (PY x y z (strN n) n):=λ{x y z} hx hy vO=>YL (hx.mono (ACv ..)) hy vO (Yp n) n5 n4;have U:n=0\/n=1\/n=2\/n=3\/n=4\/n=5\/n=6\/n=7\/n=8\/n=9\/n=10\/n=11:=by omega
 unfold FY;rcases U with rfl|rfl|rfl|rfl|rfl|rfl|rfl|rfl|rfl|rfl|rfl|rfl
 .exact time hp.t1.neg v P
 .exact time hp.t2 v.neg P
 .exact time F.t1.neg P v
 .exact time F.t2 P v.neg
 .exact time hl v v.neg
 .exact time X v.neg v
 .simp only[Ad,o,w];exact side (R 0) (S 0).neg (E 0)
 .simp only[Ad,o,w];exact side (T 0) (S 0) (E 0).neg
 .simp only[Ad,o,w];exact side (R 1) (S 1).neg (E 1)
 .simp only[Ad,o,w];exact side (T 1) (S 1) (E 1).neg
 .simp only[Ad,o,w];exact side (R 2) (S 2).neg (E 2)
 .simp only[Ad,o,w];exact side (T 2) (S 2) (E 2).neg
def dI {D N:Nat}{p:C4×C4}(h1:FI D N p.1)(h2:FI D N p.2)(n:p.1.1<p.2.1):ui D N (D*(2*N)) (D*(2*N)) (4*N*N) p:=by
 have b:∀{c:C4} k,FI D N c->Mul D N (gM k c):=λk h=>by
  rcases k with _|_|k
  .exact h.x
  .exact h.y
  .exact h.z
 obtain⟨i,f,hi⟩:=h1.m.get;obtain⟨j,g,hj⟩:=h2.m.get;have d:=h1.m.1;have o:(0:Rat)<(D:Rat):=by exact_mod_cast d
 have u:i<j:=by
  have:(i:Rat)<(j:Rat):=by rw[<-f,<-g];exact(Rat.mul_lt_mul_right o).mpr n
  exact_mod_cast this
 obtain⟨J,r⟩:∃J:Nat,(J:Int)=j-i:=⟨(j-i).toNat,by omega⟩;have e:0<J:=by omega
 have l:J<=2*N:=by omega
 have s:(J:Rat)=(p.2.1-p.1.1)*D:=by
  have:((J:Int):Rat)=((j-i:Int):Rat):=by rw[r]
  rw[ABT,AEA,<-f,<-g] at this;grind
 have ne:p.2.1-p.1.1≠0:=by grind
 have S:∀k,Mul J (2*N) (LQ p k):=λk=>by obtain⟨x,ex,hx⟩:=(b k h1).get;obtain⟨y,t,hy⟩:=(b k h2).get;refine .mk' e (k:=y-x) ?_ (by omega);rw[AEA,<-ex,<-t,s];show (gM k p.2-gM k p.1)/(p.2.1-p.1.1)*((p.2.1-p.1.1)*D)=_;rw[<-Rat.mul_assoc,AEr ne];grind
 refine⟨h1.m,h2.m,D*J,ABF d e,AB6 D l,λk=>⟨?_, ?_⟩⟩
 .have:=(S k).upc (c:=D) d;rw[ACA J D,ACA (2*N) D] at this;exact this
 .have a:=(b k h1).upc (c:=J) e;have m:=(S k).mul h1.m;rw[ACA J D] at m;exact(a.sub m).mono (by
   have:N*J<=N*(2*N):=AB6 N l;have v:N*(2*N)=2*(N*N):=by rw[ACA 2 N,<-ABV,ACA]
   have w:2*N*N=2*(N*N):=ABV ..;have A:4*N*N=4*(N*N):=ABV ..;omega)
def P6 (x y z:Rat):Prop:=x-y<z/\ -z<x-y
def uh (x y z:T3):Prop:=P6 x.1 y.1 z.1/\P6 x.2.1 y.2.1 z.2.1/\P6 x.2.2 y.2.2 z.2.2
def hU {w:Wd}(s t:Rat):Om w s t↔(w.b.1<=s/\s<w.e.1/\w.b'.1<=t/\t<w.e'.1/\t-s<=w.l/\s-t<=w.l')/\∀k<3,P6 (ba w k+sl w k*s) (af w k+ao w k*t) (sz w k):=by
 have c:∀x:Rat,0<x\/(x=0/\(1:Int)=0)↔0<x:=λx=>⟨λz=>by rcases z with z|z;exact z;omega, .inl⟩;constructor
 .intro o;refine⟨c6 o,λk hk=> ?_⟩;have cs:k=0\/k=1\/k=2:=by omega
  have h:=o 6 (by decide);have i:=o 7 (by decide);have j:=o 8 (by decide);have m:=o 9 (by decide);have d:=o 10 (by decide);have f:=o 11 (by decide);rw[show strN 6=1 from rfl,c] at h;rw[show strN 7=1 from rfl,c] at i;rw[show strN 8=1 from rfl,c] at j;rw[show strN 9=1 from rfl,c] at m;rw[show strN 10=1 from rfl,c] at d;rw[show strN 11=1 from rfl,c] at f;simp only[Ad] at h i j m d f;unfold P6;rcases cs with rfl|rfl|rfl
  .exact ⟨by grind,by grind⟩
  .exact ⟨by grind,by grind⟩
  .exact ⟨by grind,by grind⟩
 .rintro ⟨⟨u,v,y,A,B,C⟩,g⟩ n D;have k0:=g 0 (by decide);have p:=g 1 (by decide);have r:=g 2 (by decide);unfold P6 at k0 p r;have a:∀x:Rat,0<=x->0<x\/(x=0/\(0:Int)=0):=λx hx=>by
   rcases Rat.le_iff_lt_or_eq.mp hx with z|z
   .exact .inl z
   .exact .inr ⟨z.symm,rfl⟩
  have cs:n=0\/n=1\/n=2\/n=3\/n=4\/n=5\/n=6\/n=7\/n=8\/n=9\/n=10\/n=11:=by omega
  rcases cs with rfl|rfl|rfl|rfl|rfl|rfl|rfl|rfl|rfl|rfl|rfl|rfl <;> simp only[Ad]
  .exact a _ (by grind)
  .left;grind
  .exact a _ (by grind)
  .left;grind
  .exact a _ (by grind)
  .exact a _ (by grind)
  .left;grind
  .left;grind
  .left;grind
  .left;grind
  .left;grind
  .left;grind
def Ro {p:C4×C4}{s:Rat}{x y:Rat}:ah p.1 p.2 x y+Yi p.1 p.2 x y*s=x+(s-p.1.1)/(p.2.1-p.1.1)*(y-x):=by unfold ah Yi;rw[ADo,ADo];grind
def c7 {cs ds:kn C4}{b e:T3}{d:Rat×Rat}{p q:C4×C4}(s t:Rat):Om (BG cs ds b e d p q) s t↔(p.1.1<=s/\s<p.2.1)/\(q.1.1<=t/\t<q.2.1)/\(t-s<=b.2.2/\s-t<=e.2.2)/\uh (inter p.1 p.2 s) (inter q.1 q.2 t) (szs b e d):=by
 rw[hU];have a:∀{p:C4×C4} {s:Rat},KP p 0+LQ p 0*s=(inter p.1 p.2 s).1:=Ro;have c:∀{p:C4×C4} {s:Rat},KP p 1+LQ p 1*s=(inter p.1 p.2 s).2.1:=Ro;have f:∀{p:C4×C4} {s:Rat},KP p 2+LQ p 2*s=(inter p.1 p.2 s).2.2:=Ro;have v:=λk=>tK (cs:=cs) (ds:=ds) (b:=b) (e:=e) (d:=d) (p:=p) (q:=q) k;have w:=λk=>tL (cs:=cs) (ds:=ds) (b:=b) (e:=e) (d:=d) (p:=p) (q:=q) k;simp only[v,w];unfold uh;constructor
 .rintro ⟨⟨j,l,m,o,r,u⟩,n⟩;have g:=n 0 (by decide);have h:=n 1 (by decide);have i:=n 2 (by decide);rw[a,a] at g;rw[c,c] at h;rw[f,f] at i;exact⟨⟨j,l⟩,⟨m,o⟩,⟨r,u⟩,g,h,i⟩
 .rintro ⟨⟨j,l⟩,⟨m,o⟩,⟨r,u⟩,g,h,i⟩;refine⟨⟨j,l,m,o,r,u⟩,λk hk=> ?_⟩;have cs:k=0\/k=1\/k=2:=by omega
  rcases cs with rfl|rfl|rfl
  .rw [a,a];exact g
  .rw [c,c];exact h
  .rw [f,f];exact i
def xP (cs:kn C4)(s:Rat)(x:T3):Prop:=∃p∈EI cs,p.1.1<=s/\s<p.2.1/\inter p.1 p.2 s=x
def Tg (cs ds:kn C4)(b e:T3)(d:Rat×Rat)(s t:Rat):Prop:=∃x y,xP cs s x/\xP ds t y/\(t-s<=b.2.2/\s-t<=e.2.2)/\uh x y (szs b e d)
def HM {cs ds:kn C4}{b e:T3}{d:Rat×Rat}{s t:Rat}:Tg cs ds b e d s t↔∃x∈fH cs ds b e d,Om x.2.2 s t:=by
 constructor
 .rintro ⟨x,y,⟨p,hp,g,h,rfl⟩,⟨q,a,i,j,rfl⟩,tm,k⟩;obtain⟨z,c,f⟩:=YK (b:=b) (e:=e) (d:=d) hp a;exact⟨z,c,by rw[f,c7];exact⟨⟨g,h⟩,⟨i,j⟩,tm,k⟩⟩
 .rintro ⟨z,c,o⟩;obtain⟨p,hp,q,a,f⟩:=TF c;rw[f,c7] at o;exact⟨_,_,⟨p,hp,o.1.1,o.1.2,rfl⟩,⟨q,a,o.2.1.1,o.2.1.2,rfl⟩,o.2.2⟩
def gw {cs ds:kn C4}{b e:T3}{d:Rat×Rat}{v w u:PV}{N B:Nat}(hv:Kv cs b v)(hw:Kv ds e w)(hu:Yv d u)(f:NQ 100 b)(g:NQ 100 e)(h:Bd 100 d.1)(b2:Bd 100 d.2)(hc:∀c∈cs,F6 B c)(i:TH cs)(h2:2<=cs.length)(hl:cs.length<=60)(j:∀c∈ds,F6 B c)(k:TH ds)(l:2<=ds.length)(J:ds.length<=60)(m:6*B+3<=3900)(hN:N<=770)(n:∀p∈EI cs,∀q∈EI ds,kg N (BG cs ds b e d p q)){Q:PV->Prop}(r:(∀s t,¬Tg cs ds b e d s t)->∀ps:kn (kn (Int×Rat)),(fH cs ds b e d).length=ps.length->(∀y∈(fH cs ds b e d).zip ps,jh (4*N+13) y.1.2.2 y.2)->Q (.tup [.str "apart", .tup (((fH cs ds b e d).zip ps).map Gr)]))(A:∀s t,Tg cs ds b e d s t->Bd (4*N+12) s->Bd (10*N+30) t->Q (.tup [.str "meet",fr s,fr t])):EX [v,w,u] Q:=by
 have C:(fH cs ds b e d).length<=10100:=by
  unfold fH;rw[ADP];have:∀a:kn (Nat×C4×C4),(a.map λp=>((V8 0 (EI ds)).map λq=>(p.1,q.1,BG cs ds b e d p.2 q.2)).length).sum=a.length*(EI ds).length:=λa=>by
   induction a with
   | nil=>simp
   | cons x a D=>simp[AAM,AAy,ACd,Jp] at D ⊢;omega
  rw[this,Jp];have E:(EI cs).length<=60:=by unfold EI;simp;omega
  have F:(EI ds).length<=60:=by unfold EI;simp;omega
  have:=ABS E F;omega
 refine Wi (L:=fH cs ds b e d) (λ{Q} q=>aa hv hw hu f g h b2 hc i h2 (by omega) j k l (by omega) m q) C hN (λx hx=> ?_) (λG ps hl hp=> ?_) (λx hx s t o bs bt=> ?_)
 .obtain ⟨p,hp,q,H,I⟩:=TF hx;rw[I];exact n p hp q H
 .exact r (λs t z=>by
   obtain⟨x,hx,o⟩:=HM.mp z;exact G x hx ⟨s,t,o⟩) ps hl hp
 .exact A s t (HM.mpr ⟨x,hx,o⟩) bs bt
abbrev GM:AS:=
 (As (Ak (AB (AW BV (AW BV (AW Ah (aV 0) (aC (.int 0))) (AW Ah (aV 1) (aC (.int 1)))) (AW Ah (aV 2) (aC (.int 1)))) (AB (AW BV (AW BV (AW Ah (aV 1) (aC (.int 0))) (AW Ah (aV 0) (aC (.int 1)))) (AW Ah (aV 2) (aC (.int 1)))) (AB (AW BV (AW BV (AW Ah (aV 2) (aC (.int 0))) (AW Ah (aV 0) (aC (.int 1)))) (AW Ah (aV 1) (aC (.int 1)))) (AB (aV 3) AM))))))
def A2:AF:=Ar 4 GM
def LA {a b c d:PV}{Q:PV->Prop}(h:GM ⟨λ_=>Q .non,Q,λ_=>False,λ_=>False⟩ [some (.val a),some (.val b),some (.val c),some (.val d)]):A2 [a,b,c,d] Q:=h
abbrev JK:AS:=
 (Ae (Ao (AN 2 Db (AB (AN 2 BK (AB (AW Ah (aV 5) (AW Ba (aC (.int 1)) (aV 2))) (AB (AW Ah (aV 4) (AW Ba (aC (.int 1)) (aV 2))) AM))) (AB (AN 2 BK (AB (AW Ah (aV 5) (aC (.int 0))) (AB (AW Ah (aV 4) (aC (.int 0))) AM))) AM))) (An 3))
   (As (Ak (AB (aV 3) (AB (AN 2 BK (AB (AW Ah (aV 4) (AW Ba (aC (.int 1)) (aV 2))) (AB (AN 2 Cd (AB (aV 3) (AB (AW Ah (aV 4) (aC (.int 0))) AM))) AM))) AM)))))
abbrev GN:AS:=
 (Ae (ML 4 5 (AB (AW Ah (aV 0) (aV 1)) (AB (AW Ah (aV 0) (AW Ba (aV 1) (aC (.int 1)))) AM)))
   JK)
def B5:AF:=Ar 6 GN
def LB {a b c:PV}{Q:PV->Prop}(h:GN ⟨λ_=>Q .non,Q,λ_=>False,λ_=>False⟩ [some (.val a),some (.val b),some (.val c),none,none,none]):B5 [a,b,c] Q:=h
abbrev GI:AS:=
 (Ae (C3 5 FA (AB (AN 4 A2 (AB (AN 2 BK (AB (aV 7) (AB (aV 13) AM))) (AB (aV 15) (AB (AN 2 BK (AB (aV 11) (AB (aV 12) AM))) (AB (aC (.bl true)) AM))))) AM))
   (C3 5 FA (AB (AN 4 A2 (AB (aV 13) (AB (AN 2 BK (AB (aV 7) (AB (aV 15) AM))) (AB (AN 2 Bi (AB (aV 11) (AB (aV 12) AM))) (AB (aC (.bl true)) AM))))) AM)))
abbrev GH:AS:=
 (Ae (Ao (AN 2 BK (AB (aV 14) (AB (aV 16) AM))) (An 12))
   GI)
abbrev GG:AS:=
 (Ae (Ao (AN 2 Bi (AB (AW Ah (aV 2) (aV 10)) (AB (AN 2 Bi (AB (AW Ah (AW Ah (aV 0) (aC (.int 1))) (aV 10)) (AB (AW Ah (AW Ah (aV 1) (aC (.int 1))) (aV 10)) AM))) AM))) (An 11))
   GH)
abbrev GF:AS:=
 (Ae (Ao (AW PQ (aV 6) (aC (.int 2))) (An 10))
   GG)
abbrev GE:AS:=
 (Ae (Ao (AN 3 B5 (AB (AW Ah (aV 1) (aC (.int 0))) (AB (aV 4) (AB (aV 6) AM)))) (Hm 2 (Ag (An 15) (Ag (An 16) Bf))))
   GF)
abbrev Ht:AS:=
 (Ae (Ao (AN 3 B5 (AB (AW Ah (aV 0) (aC (.int 0))) (AB (aV 3) (AB (aV 6) AM)))) (Hm 2 (Ag (An 13) (Ag (An 14) Bf))))
   GE)
abbrev IA:AS:=
 (Ae (Df (Jf (AB (aC (.int 3)) AM)) (An 6) Ht)
   (As (aV 5)))
abbrev Hz:AS:=
 (Ae (C3 5 FA (AB (AN 4 A2 (AB (aV 9) (AB (aV 8) (AB (AW Ah (AW Ah (aV 1) (aC (.int 1))) (aC (.int 2))) (AB (aC (.bl false)) AM))))) AM))
   IA)
abbrev Hy:AS:=
 (Ae (C3 5 FA (AB (AN 4 A2 (AB (aV 8) (AB (aV 9) (AB (AW Ah (AW Ah (aV 0) (aC (.int 1))) (aC (.int 2))) (AB (aC (.bl false)) AM))))) AM))
   Hz)
abbrev Hx:AS:=
 (Ae (C3 5 FA (AB (AN 4 A2 (AB (aV 7) (AB (aV 9) (AB (AW Ah (AW Ah (AW Ah (aV 1) (aC (.int 0))) (AW Ba (aV 4) (aC (.int 1)))) (aC (.int 0))) (AB (aC (.bl true)) AM))))) AM))
   Hy)
abbrev Hw:AS:=
 (Ae (C3 5 FA (AB (AN 4 A2 (AB (aV 7) (AB (aV 8) (AB (AN 2 BK (AB (aV 7) (AB (AW Ah (AW Ah (AW Ah (aV 1) (aC (.int 0))) (aV 4)) (aC (.int 0))) AM))) (AB (aC (.bl false)) AM))))) AM))
   Hx)
abbrev Hv:AS:=
 (Ae (C3 5 FA (AB (AN 4 A2 (AB (aV 9) (AB (aV 7) (AB (AW Ah (AW Ah (AW Ah (aV 0) (aC (.int 0))) (AW Ba (aV 3) (aC (.int 1)))) (aC (.int 0))) (AB (aC (.bl true)) AM))))) AM))
   Hw)
abbrev Hu:AS:=
 (Ae (GK (EA (AB (AN 4 A2 (AB (aV 8) (AB (aV 7) (AB (AN 2 BK (AB (aV 7) (AB (AW Ah (AW Ah (AW Ah (aV 0) (aC (.int 0))) (aV 3)) (aC (.int 0))) AM))) (AB (aC (.bl false)) AM))))) AM)) 5)
   Hv)
abbrev F2:AS:=
 (Ae (Ao (Ak (AB (Ak (AB (aC (.int 0)) (AB (aC (.int 1)) AM))) (AB (Ak (AB (aC (.int 1)) (AB (aC (.int 1)) AM))) (AB (Ak (AB (PC Gg (aC (.int 1))) (AB (aC (.int 1)) AM))) AM)))) (Hm 3 (Ag (An 7) (Ag (An 8) (Ag (An 9) Bf)))))
   Hu)
def CJ:AF:=Ar 17 F2
def J6 {a b c d e:PV}{Q:PV->Prop}(h:F2 ⟨λ_=>Q .non,Q,λ_=>False,λ_=>False⟩ [some (.val a),some (.val b),some (.val c),some (.val d),some (.val e),none,none,none,none,none,none,none,none,none,none,none,none]):CJ [a,b,c,d,e] Q:=h
abbrev GR:AS:=
 (Ae (CA (Vu (A6 (AW V9 (aV 4) (aC (.int 0)))) (Ef (A6 (AW Lh (aV 4) (aC (.int 0)))) (gG (aV 2)))) (As (Ak (AB (aV 1) (AB (aV 2) AM)))) BO)
   (As (aV 0)))
abbrev GQ:AS:=
 (Ae (Ao (AW BV (aV 3) (AW GL (AW BV (AW Ah (aV 1) (aC (.int 0))) (AW Ah (AW Ah (aV 0) (aC (.int 0))) (aC (.int 1)))) (AW BV (AW Ah (AW Ah (aV 0) (aC (.int 0))) (aC (.int 0))) (AW Ah (aV 1) (aC (.int 1)))))) (An 4))
   GR)
abbrev Ep:AS:=
 (Ae (CA (A6 (AW Lh (AW Ah (aV 0) (aC (.int 0))) (Ak (AB (aC (.int 0)) (AB (aC (.int 0)) AM))))) (As (Ak (AB (aV 1) (AB (aV 2) AM)))) BO)
   GQ)
def BB:AF:=Ar 5 Ep
def Hc {a b c d:PV}{Q:PV->Prop}(h:Ep ⟨λ_=>Q .non,Q,λ_=>False,λ_=>False⟩ [some (.val a),some (.val b),some (.val c),some (.val d),none]):BB [a,b,c,d] Q:=h
abbrev HX:AS:=
 (Ae (CA (A6 (AW V9 (aV 3) (aC (.int 0)))) (Ao (AN 4 BB (AB (aV 7) (AB (Ak (AB (PC Gg (aV 5)) (AB (aV 3) AM))) (AB (aV 6) (AB (aC (.int 1)) AM))))) (An 7)) BO)
   (CA (A6 (AW ZY (aV 3) (aC (.int 0)))) (Ao (AN 4 BB (AB (aV 8) (AB (Ak (AB (aV 5) (AB (PC Gg (aV 3)) AM))) (AB (aV 6) (AB (PC Gg (aC (.int 1))) AM))))) (An 8)) BO))
abbrev KU:AS:=
 (Ae (CA (Ef (A6 (AW Lh (aV 3) (aC (.int 0)))) (Vu (A6 (AW ZY (aV 5) (aC (.int 0)))) (Ef (A6 (AW Lh (aV 5) (aC (.int 0)))) (gG (aV 6))))) (As (aC (.bl false))) BO)
   HX)
abbrev KZ:AS:=
 (Ae (Ao (AW GL (AW BV (AW Ah (AW Ah (aV 8) (aC (.int 0))) (aC (.int 0))) (AW Ah (AW Ah (aV 7) (aC (.int 0))) (aC (.int 1)))) (AW BV (AW Ah (AW Ah (aV 7) (aC (.int 0))) (aC (.int 0))) (AW Ah (AW Ah (aV 8) (aC (.int 0))) (aC (.int 1))))) (An 2))
   (As (tW (AW V9 (aV 2) (aC (.int 0))) (Vt (AW Lh (aV 2) (aC (.int 0))) (Vt (PC b9 (AW Ah (aV 7) (aC (.int 1)))) (PC b9 (AW Ah (aV 8) (aC (.int 1)))))))))
abbrev FG:AS:=
 (Ae (gD 1 (Df (Le (aV 1)) (Hm 3 (Ag (An 3) (Ag (An 5) (Ag (An 6) Bf)))) KU))
   KZ)
abbrev KY:AS:=
 (Ae (Ao (Ak (AB (Ak (AB (Ak (AB (aC (.int 0)) (AB (aC (.int 0)) AM))) (AB (aC (.bl false)) AM))) (AB (Ak (AB (Ak (AB (aC (.int 0)) (AB (aC (.int 0)) AM))) (AB (aC (.bl false)) AM))) AM))) (Hm 2 (Ag (An 7) (Ag (An 8) Bf))))
   FG)
abbrev KW:AS:=
 (Ae (Df (Le (IL (Cm (Le (aV 0)) 1 [] (An 0) (A6 (AW V9 (AW Ah (aV 0) (aC (.int 1))) (aC (.int 0)))) (aV 0)))) (Hm 4 (Ag (An 3) (Ag (An 4) (Ag (An 5) (Ag (An 6) Bf))))) (Df (Le (IL (Cm (Le (aV 0)) 1 [] (An 0) (A6 (AW ZY (AW Ah (aV 0) (aC (.int 1))) (aC (.int 0)))) (aV 0)))) (Hm 4 (Ag (An 9) (Ag (An 10) (Ag (An 11) (Ag (An 12) Bf))))) (C3 1 FA (AB (Ak (AB (AW GL (AW BV (aV 9) (aV 4)) (AW BV (aV 3) (aV 10))) (AB (AW GL (AW BV (aV 11) (aV 4)) (AW BV (aV 5) (aV 10))) (AB (ko (aV 6) (aV 12)) AM)))) AM))))
   KY)
abbrev Hf:AS:=
 (Ae (GK (Cm (Le (aV 0)) 4 [] (Hm 4 (Ag (An 0) (Ag (An 1) (Ag (An 2) (Ag (An 3) Bf))))) (A6 (AW Lh (aV 1) (aC (.int 0)))) (Ak (AB (aV 0) (AB (aV 2) (AB (aV 3) AM))))) 1)
   KW)
def CP:AF:=Ar 13 Hf
def MU {a:PV}{Q:PV->Prop}(h:Hf ⟨λ_=>Q .non,Q,λ_=>False,λ_=>False⟩ [some (.val a),none,none,none,none,none,none,none,none,none,none,none,none]):CP [a] Q:=h
abbrev Hh:AS:=
 (Ae (Df (Jf (AB (AW GL (HI MM (AB (AW Ah (aV 0) (aC (.int 0))) AM)) (aC (.int 1))) AM)) (An 3) (Df (Jf (AB (AW GL (HI MM (AB (AW Ah (aV 1) (aC (.int 0))) AM)) (aC (.int 1))) AM)) (An 4) (CA (A6 (AN 1 CP (AB (AN 5 CJ (AB (aV 0) (AB (aV 1) (AB (aV 2) (AB (aV 3) (AB (aV 4) AM)))))) AM))) (As (aC (.bl true))) BO)))
   (As (aC (.bl false))))
def CQ:AF:=Ar 5 Hh
def MW {a b c:PV}{Q:PV->Prop}(h:Hh ⟨λ_=>Q .non,Q,λ_=>False,λ_=>False⟩ [some (.val a),some (.val b),some (.val c),none,none]):CQ [a,b,c] Q:=h
instance{A:Prop}{B:PV->Prop}:Wp (vd (.bl true) A B) (B (.bl true)):=⟨id⟩
instance{A:Prop}{B:PV->Prop}:Wp (vd (.bl false) A B) A:=⟨id⟩
structure Ln where
 a:Int
 b:Int
 c:Int
 s:Bool
def Ia (l:Ln):PV:= .tup [.int l.a, .int l.b, .int l.c, .bl l.s]
def b2i (b:kd):Int:=if b then 1 else 0
def Ln.p (l:Ln):Bz:=⟨l.c,l.a,l.b,b2i l.s, []⟩
structure Jc (N:Nat) (l:Ln):Prop where
 a:l.a.natAbs<2^N
 b:l.b.natAbs<2^N
 c:l.c.natAbs<2^N
structure R1 where
 a:Int
 c:Int
 s:Bool
def U6 (r:R1):PV:= .tup [.int r.a, .int r.c, .bl r.s]
def R1.p (r:R1):Ed:=⟨r.c,r.a,b2i r.s, []⟩
def Ln.r (l:Ln):R1:=⟨l.a,l.c,l.s⟩
def VZ (l h:Ln):R1:=⟨h.a*l.b-l.a*h.b,h.c*l.b-l.c*h.b,l.s||h.s⟩
def F9 (a:kn Ln):kn R1:=(a.filter λl=>decide (l.b=0)).map Ln.r++(a.filter λl=>decide (0<l.b)).flatMap λl=>(a.filter λh=>decide (h.b<0)).map (VZ l)
def k9 (a b:kd):b2i (a||b)=max (b2i a) (b2i b):=by cases a <;> cases b <;> rfl
def IN (a:kd):b2i a=0\/b2i a=1:=by cases a;exact .inl rfl;exact .inr rfl
def uw (l h:Ln):(A9 true l.p h.p).pr false=(VZ l h).p:=by show Ed.mk (-(h.b)*l.c+l.b*h.c) (-(h.b)*l.a+l.b*h.a) (max (b2i l.s) (b2i h.s)) _=Ed.mk (h.c*l.b-l.c*h.b) (h.a*l.b-l.a*h.b) (b2i (l.s||h.s)) [];rw[k9,show -(h.b)*l.c+l.b*h.c=h.c*l.b-l.c*h.b by grind,show -(h.b)*l.a+l.b*h.a=h.a*l.b-l.a*h.b by grind];rfl
def Zv (b:kn Ln):(Dq true (b.map Ln.p)).map (Bz.pr false)=(F9 b).map R1.p:=by
 unfold Dq F9;rw[AEx,AEx,AEx,ACL,ACL,AA7,AA7,List.map_flatMap,List.map_flatMap,List.flatMap_map];congr 1;have go:∀a vs:kn Ln,a.flatMap (λl=>(((vs.map Ln.p).map λh=>A9 true l.p h)).map (Bz.pr false))=a.flatMap λl=>(vs.map (VZ l)).map R1.p:=λa vs=>by
  induction a with
  | nil=>rfl
  | cons l a c=> rw[AD6,AD6,c,AA7,AA7,AA7];congr 1;exact AB2 λh _=>uw l h
 exact go _ _
def xl {a:kn Ln}(lo:∃l∈a,0<l.b)(hi:∃l∈a,l.b<0)(s:Rat):(∀r∈F9 a,holds r.p s)↔∃t,∀l∈a,h3 l.p s t:=by
 have f:=fm (ps:=a.map Ln.p) (λp hp=>by obtain⟨l,_,rfl⟩:=AAH.mp hp;exact IN l.s) (by obtain⟨l,hl,z⟩:=lo;exact⟨l.p,AAH.mpr ⟨l,hl,rfl⟩,z⟩) (by obtain⟨l,hl,z⟩:=hi;exact⟨l.p,AAH.mpr ⟨l,hl,rfl⟩,z⟩) s;have e:=Zv a;constructor
 .intro h;obtain⟨t,c⟩:=f.mp λp hp=>by
   have:p.pr false∈(F9 a).map R1.p:=by rw[<-e];exact AAH.mpr ⟨p,hp,rfl⟩
   obtain⟨r,d,i⟩:=AAH.mp this;rw[<-i];exact h r d
  exact⟨t,λl hl=>c l.p (AAH.mpr ⟨l,hl,rfl⟩)⟩
 .rintro ⟨t,c⟩ r d;have g:=f.mpr ⟨t,λp hp=>by obtain⟨l,hl,rfl⟩:=AAH.mp hp;exact c l hl⟩;have:r.p∈(Dq true (a.map Ln.p)).map (Bz.pr false):=by rw[e];exact AAH.mpr ⟨r,d,rfl⟩
  obtain⟨p,hp,ep⟩:=AAH.mp this;rw[<-ep];exact g p hp
def kV (sg:Int):kf R1->PV
 | none=> .tup [.tup [.int 0, .int 0], .bl false]
 | some r=> .tup [.tup [.int (-sg*r.c), .int (sg*r.a)], .bl r.s]
def EH (sg:Int)(k r:R1):Int:=sg*(k.c*r.a-r.c*k.a)
def VO (sg:Int)(o:kf R1)(r:R1):R1:=match o with | none=>r|some k=>if 0<EH sg k r\/(EH sg k r=0/\r.s=true) then r else k
structure Tk (N:Nat) (r:R1):Prop where
 a:r.a.natAbs<2^N
 c:r.c.natAbs<2^N
def qS {x y:Int}{Q:PV->Prop}(q:Q (.bl (decide (x=0)&&decide (y=0)))):Lh (.tup [.int x, .int y]) (.tup [.int 0, .int 0]) Q:=by
 refine⟨⟨rfl,rfl⟩, ?_⟩;have e:lJ (.tup [.int x, .int y]) (.tup [.int 0, .int 0])=(decide (x=0)&&decide (y=0)):=by simp[lJ,pd,QZ,PyData.eqv,PyData.eqvAll];rfl
 rw[e];exact q
def KJ {sg:Int}{o:kf R1}{r:R1}{N:Nat}{v0 v1:PV}(h:sg=1\/sg= -1)(d:Tk N r)(l:∀k,o=some k->Tk N k/\0<k.a*sg)(hN:N<=20000){Q:PV->Prop}(q:Q (kV sg (some (VO sg o r)))):BB [kV sg o, .tup [.int (-sg*r.c), .int (sg*r.a)], .bl r.s, .int sg] Q:=by
 apply Hc;cases o with
 | none=> rw[show kV sg none= .tup [.tup [.int 0, .int 0], .bl false] from rfl];ac_rfl;refine qS ?_;ac_rfl;exact q
 | some k=>
   obtain⟨hk,k0⟩:=l k rfl;have p:=hk.a;have t:=hk.c;have ra:=d.a;have u:=d.c;have e:sg*(-sg*r.c*(sg*k.a) - -sg*k.c*(sg*r.a))=EH sg k r:=by unfold EH;rcases h with rfl|rfl <;> grind
   have f:(-sg*r.c).natAbs<2^N:=by rcases h with rfl|rfl <;> omega
   have g:(sg*k.a).natAbs<2^N:=by rcases h with rfl|rfl <;> omega
   have i:(-sg*k.c).natAbs<2^N:=by rcases h with rfl|rfl <;> omega
   have j:(sg*r.a).natAbs<2^N:=by rcases h with rfl|rfl <;> omega
   have m1:=A8 f g;have m2:=A8 i j;have m3:(-sg*r.c*(sg*k.a) - -sg*k.c*(sg*r.a)).natAbs<2^(N+N+1):=by rw[ADF];omega
   have n:¬sg*k.a=0:=by rcases h with rfl|rfl <;> omega
   rw[show kV sg (some k)= .tup [.tup [.int (-sg*k.c), .int (sg*k.a)], .bl k.s] from rfl];ac_rfl;refine qS ?_;rw[AAW n,Bool.and_false];ac_rfl;refine⟨MulOk.of f g, ?_⟩;ac_rfl;refine⟨MulOk.of i j, ?_⟩;ac_rfl;refine⟨MulOk.of (m:=2) (by rcases h with rfl|rfl <;> decide) m3, ?_⟩;rw[e];have q:Q (kV sg (some (if 0<EH sg k r\/(EH sg k r=0/\r.s=true) then r else k))):=q;generalize EH sg k r=M at *;cases hs:r.s with
   | true=>
     ac_rfl
     .rename_i z;rw[AAE (.inl z)] at q;rw[<-hs];exact q
     .rename_i z b;rw[AAE (.inr ⟨b,hs⟩)] at q;rw[<-hs];exact q
     .rename_i z b;rw[AAD (by rintro(y|y);exact z y;exact b y.1)] at q;exact q
   | false=>
     ac_rfl
     .rename_i z;rw[AAE (.inl z)] at q;rw[<-hs];exact q
     all_goals
      rename_i z b;rw[AAD (by rintro(y|y);exact z y;rw[hs] at y;cases y.2)] at q;exact q
def fB {sg:Int}{k r:R1}(h:sg=1\/sg= -1)(hk:0<k.a*sg)(A:0<r.a*sg)(t:Rat):((0<EH sg k r\/(EH sg k r=0/\r.s=true))->holds r.p t->holds k.p t)/\(¬(0<EH sg k r\/(EH sg k r=0/\r.s=true))->holds k.p t->holds r.p t):=by
 have k0:(k.p).c1≠0:=by show k.a≠0;rcases h with rfl|rfl <;> omega
 have o:(r.p).c1≠0:=by show r.a≠0;rcases h with rfl|rfl <;> omega
 have i:(k.c:Rat)= -(CI k.p*k.a):=(CN k0).2.2;have j:(r.c:Rat)= -(CI r.p*r.a):=(CN o).2.2;have u:(k.p).s=b2i k.s:=rfl;have l:(r.p).s=b2i r.s:=rfl;have m:r.s=true↔(r.p).s=1:=by rw[l];cases r.s <;> simp[b2i]
 have key:((EH sg k r:Int):Rat)=(sg*k.a*r.a:Int)*(CI r.p-CI k.p):=by unfold EH;rw[AAQ,AEA,AAQ,AAQ,i,j,AAQ,AAQ];grind
 have b:(r.p).s=0\/(r.p).s=1:=IN _;have v:(k.p).s=0\/(k.p).s=1:=IN _;generalize EH sg k r=M at *;rw[m];have n:0<M↔(0:Rat)<(M:Rat):=by rw[<-ABU,AB7]
 have M1:M=0↔(M:Rat)=0:=by rw[<-ABU,ADN]
 rw[n,M1,key];clear n M1 key m i j u l;rcases h with rfl|rfl
 .have d:0<(k.p).c1:=by show 0<k.a;omega
  have ra:0<(r.p).c1:=by show 0<r.a;omega
  rw[C2 d,C2 ra];have P:(0:Rat)<((1*k.a*r.a:Int):Rat):=by
   have:0<1*k.a*r.a:=by rw[ADG];exact AB9 d ra
   rw[<-ABU,AB7];exact this
  generalize ((1*k.a*r.a:Int):Rat)=c at *;rw[(CM P).1,(CM P).2];constructor
  .rintro (z|⟨z,f⟩) (y|⟨y,y2⟩)
   .left;grind
   .left;grind
   .left;grind
   .omega
  .intro z;by_cases g:0<CI r.p-CI k.p
   .exact absurd (.inl g) z
   .by_cases f:CI r.p-CI k.p=0
    .rintro (y|⟨y,y2⟩)
     .left;grind
     .refine .inr ⟨by grind, ?_⟩;rcases b with w|w
      .exact w
      .exact absurd (.inr ⟨f,w⟩) z
    .rintro (y|⟨y,y2⟩)
     .left;grind
     .left;grind
 .have d:(k.p).c1<0:=by show k.a<0;omega
  have ra:(r.p).c1<0:=by show r.a<0;omega
  rw[CD d,CD ra];have P:(0:Rat) < -((-1*k.a*r.a:Int):Rat):=by
   have:0<k.a*r.a:=Int.mul_pos_of_neg_of_neg d ra;have e: -((-1*k.a*r.a:Int):Rat)=((k.a*r.a:Int):Rat):=by rw[<-Rat.intCast_neg];congr 1;grind
   rw[e,<-ABU,AB7];exact this
  have x:((-1*k.a*r.a:Int):Rat)*(CI r.p-CI k.p)= -((-1*k.a*r.a:Int):Rat)*(CI k.p-CI r.p):=by grind
  rw[x];generalize -((-1*k.a*r.a:Int):Rat)=c at *;rw[(CM P).1,(CM P).2];constructor
  .rintro (z|⟨z,f⟩) (y|⟨y,y2⟩)
   .left;grind
   .left;grind
   .left;grind
   .omega
  .intro z;by_cases g:0<CI k.p-CI r.p
   .exact absurd (.inl g) z
   .by_cases f:CI k.p-CI r.p=0
    .rintro (y|⟨y,y2⟩)
     .left;grind
     .refine .inr ⟨by grind, ?_⟩;rcases b with w|w
      .exact w
      .exact absurd (.inr ⟨f,w⟩) z
    .rintro (y|⟨y,y2⟩)
     .left;grind
     .left;grind
structure RE (sg:Int) (us:List R1) (o:Option R1):Prop where
 so:∀k,o=some k->k∈us/\0<k.a*sg/\∀r∈us,0<r.a*sg->∀t,holds k.p t->holds r.p t
 no:o=none->∀r∈us,¬0<r.a*sg
def UZ {sg:Int}:RE sg [] none:=⟨λ_ e=>(by cases e),λ_ _ h=>(by cases h)⟩
def q0 (l:R1):kV 1 (some l)= .tup [.tup [.int (-l.c), .int l.a], .bl l.s] :=by show PV.tup [.tup [.int (-1*l.c), .int (1*l.a)], .bl l.s] =_;rw[ADG,show (-1:Int)*l.c= -l.c by omega]
def qz (h:R1):kV (-1) (some h)= .tup [.tup [.int h.c, .int (-h.a)], .bl h.s] :=by show PV.tup [.tup [.int (- -1*h.c), .int (-1*h.a)], .bl h.s] =_;rw[show (- -1:Int)*h.c=h.c by omega,show (-1:Int)*h.a= -h.a by omega]
def Ua {sg:Int}{g:kn R1}{o:kf R1}{r:R1}(h:sg=1\/sg= -1)(i:RE sg g o)(f:0<r.a*sg):RE sg (g ++ [r]) (some (VO sg o r)):=by
 refine⟨λk e=> ?_,λe=>by cases e⟩;cases e;cases o with
 | none=>
   refine⟨by simp[VO],f,λx hx c t b=> ?_⟩;rcases AAL.mp hx with hx|hx
   .exact absurd c (i.no rfl x hx)
   .rw [AAa.mp hx];exact b
 | some k=>
   obtain⟨m,k0,d⟩:=i.so k rfl;unfold VO;by_cases z:0<EH sg k r\/(EH sg k r=0/\r.s=true)
   .simp only[z,AAt];refine⟨by simp,f,λx hx c t b=> ?_⟩;rcases AAL.mp hx with hx|hx
    .exact d x hx c t ((fB h k0 f t).1 z b)
    .rw [AAa.mp hx];exact b
   .simp only[z,AAo];refine⟨by simp[m],k0,λx hx c t b=> ?_⟩;rcases AAL.mp hx with hx|hx
    .exact d x hx c t b
    .rw [AAa.mp hx];exact(fB h k0 f t).2 z b
def HL {sg:Int}{d:kn R1}{o:kf R1}{r:R1}(i:RE sg d o)(f:¬0<r.a*sg):RE sg (d ++ [r]) o:=by
 refine⟨λk e=> ?_,λe x hx=> ?_⟩
 .obtain ⟨m,k0,b⟩:=i.so k e;refine⟨by simp[m],k0,λx hx c t g=> ?_⟩;rcases AAL.mp hx with hx|hx
  .exact b x hx c t g
  .rw [AAa.mp hx] at c;exact absurd c f
 .rcases AAL.mp hx with hx|hx
  .exact i.no e x hx
  .rw [AAa.mp hx];exact f
def rf {N:Nat}{l:Ln}(h:Jc N l):Tk (2*N+1) l.r:=⟨Aw h.a (by omega),Aw h.c (by omega)⟩
def Yq {x y:Int}{M:Nat}(hx:x.natAbs<2^M)(hy:y.natAbs<2^M):(x-y).natAbs<2^(M+1):=by rw[ADF];omega
def qP {N:Nat}{l h:Ln}(hl:Jc N l)(d:Jc N h):Tk (2*N+1) (VZ l h):=by
 have e:N+N+1=2*N+1:=by omega
 rw[<-e];exact⟨Yq (A8 d.a hl.b) (A8 hl.a d.b),Yq (A8 d.c hl.b) (A8 hl.c d.b)⟩
def gr {N:Nat}{a:kn Ln}(ok:∀l∈a,Jc N l):∀r∈F9 a,Tk (2*N+1) r:=λr b=>by
 unfold F9 at b;rcases AAL.mp b with h|h
 .obtain ⟨l,hl,rfl⟩:=AAH.mp h;exact rf (ok l (AAT.mp hl).1)
 .obtain ⟨l,hl,h⟩:=ABG.mp h;obtain⟨k,hk,rfl⟩:=AAH.mp h;exact qP (ok l (AAT.mp hl).1) (ok k (AAT.mp hk).1)
def gT {l h:R1}(b:0<l.a)(d:h.a<0):(0<h.c*l.a - -l.c * -h.a\/(h.c*l.a - -l.c * -h.a=0/\l.s=false/\h.s=false))↔∃t,holds l.p t/\holds h.p t:=by
 have c:=Ge (l:=l.p) (h:=h.p) b d (IN _) (IN _) [];rw[<-c];have e: -(h.p).c1*(l.p).c0+(l.p).c1*(h.p).c0=h.c*l.a - -l.c * -h.a:=by show -h.a*l.c+l.a*h.c=_;grind
 unfold FB;rw[ACy];show _↔¬(-(h.p).c1*(l.p).c0+(l.p).c1*(h.p).c0<0\/(-(h.p).c1*(l.p).c0+(l.p).c1*(h.p).c0=0/\max (b2i l.s) (b2i h.s)=1));rw[e];generalize h.c*l.a - -l.c * -h.a=G;cases l.s <;> cases h.s <;> simp[b2i] <;> omega
def lE {j:kn R1}{N:Nat}{X Y Z:BE->Prop}{Q:PV->Prop}{J D d K f i L n u v:kf AV}(ok:∀r∈j,Tk N r)(hl:j.length<=200)(lo:∃r∈j,0<r.a)(hi:∃r∈j,r.a<0)(hN:N<=20000)(q:∀k:kd,(k=true↔∃s,∀r∈j,holds r.p s)->Q (.bl k)):FG {nx:=X,rt:=Q,bk:=Y,ct:=Z} [J,some (.own (j.map U6)),D,d,K,f,i,some (.val (kV 1 none)),some (.val (kV (-1) none)),L,n,u,v] :=by
 ac_rfl;refine CZ U6 (λH vs τ=>∃(o p:kf R1) (d f i:kf AV),RE 1 H o/\RE (-1) H p/\(∀r∈H,r.a=0->FB r.p=false)/\τ= [J,some (.val (.lst (j.map U6))),D,d,K,f,i,some (.val (kV 1 o)),some (.val (kV (-1) p)),L,n,u,v]) ?_ ?_ ⟨none,none,_,_,_,UZ,UZ,by simp,rfl⟩
 .rintro τ ⟨o,p,d,f,i,E,F,S,rfl⟩;obtain⟨l,rfl⟩:∃l,o=some l:=by
   cases o with
   | some l=>exact⟨l,rfl⟩
   | none=>obtain⟨r,I,z⟩:=lo;exact absurd (by omega) (E.no rfl r I)
  obtain⟨h,rfl⟩:∃h,p=some h:=by
   cases p with
   | some h=>exact⟨h,rfl⟩
   | none=>obtain⟨r,I,z⟩:=hi;exact absurd (by omega) (F.no rfl r I)
  obtain⟨ml,l0,dl⟩:=E.so l rfl;obtain⟨mh,h0,dh⟩:=F.so h rfl;have l0:0<l.a:=by omega
  have h0:h.a<0:=by omega
  have g:=gT l0 h0;have M:(∃t,holds l.p t/\holds h.p t)↔∃s,∀r∈j,holds r.p s:=by
   constructor
   .rintro ⟨t,t1,t2⟩;refine⟨t,λr I=> ?_⟩;rcases ACx r.a 0 with z|z|z
    .exact dh r I (by omega) t t2
    .exact (HN z (IN _) t).mpr (S r I z)
    .exact dl r I (by omega) t t1
   .rintro ⟨t,T⟩;exact⟨t,T l ml,T h mh⟩
  rw[M] at g;have b:∀k:kd,(k=true↔(0<h.c*l.a - -l.c * -h.a\/(h.c*l.a - -l.c * -h.a=0/\l.s=false/\h.s=false)))->Q (.bl k):=λk hk=>q k (hk.trans g);clear q g M dl dh E F;obtain⟨la,lc⟩:=ok l ml;obtain⟨ha,hc⟩:=ok h mh;have ec:(-l.c).natAbs<2^N:=by rw[AB3];exact lc
  have ea:(-h.a).natAbs<2^N:=by rw[AB3];exact ha
  rw[q0,qz];ac_rfl;refine⟨MulOk.of hc la, ?_⟩;ac_rfl;refine⟨MulOk.of ec ea, ?_⟩;have b:Q (.bl (decide (0<h.c*l.a - -l.c * -h.a)||(decide (h.c*l.a - -l.c * -h.a=0)&&(!l.s&&!h.s)))):=b _ (by cases l.s <;> cases h.s <;> simp)
  array_mem_dec
  generalize h.c*l.a - -l.c * -h.a=G at *;ac_rfl
  .rename_i z;rw[AAV z,ADx] at b;exact b
  .rename_i z D;rw[AAW z,AAV D,AEf,Bool.true_and] at b;cases hl:l.s with
   | true=> rw[hl] at b;exact b
   | false=> rw[hl] at b;ac_rfl;exact b
  .rename_i z D;rw[AAW z,AAW D] at b;exact b
 .rintro H r vs e τ R hR ⟨o,p,d,f,i,E,F,S,rfl⟩;have mr:r∈j:=by rw[<-e];simp
  have O:=ok r mr;have oo:∀k,o=some k->Tk N k/\0<k.a*1:=λk hk=>by obtain⟨m,k0,_⟩:=E.so k hk;exact⟨ok k (by rw[<-e];simp[m]),k0⟩
  have op:∀k,p=some k->Tk N k/\0<k.a * -1:=λk hk=>by obtain⟨m,k0,_⟩:=F.so k hk;exact⟨ok k (by rw[<-e];simp[m]),k0⟩
  have A:r.a=0->(r.c<0\/(r.c=0/\r.s=true))->Q (.bl false):=λz y=>q false (by
   constructor
   .intro h;cases h
   .rintro ⟨t,T⟩;have:=(HN (p:=r.p) z (IN _) t).mp (T r mr);unfold FB at this;rw[ACy] at this;refine absurd ?_ this;rcases y with y|⟨y,w⟩
    .exact .inl y
    .exact .inr ⟨y,by show b2i r.s=1;rw[w];rfl⟩)
  have P:¬(r.a=0/\(r.c<0\/(r.c=0/\r.s=true)))->∀x∈H ++ [r],x.a=0->FB x.p=false:=λh3 x hx U=>by
   rcases AAL.mp hx with hx|hx
   .exact S x hx U
   .rw [AAa.mp hx] at U ⊢;unfold FB;rw[ACy];rintro(y|⟨y,w⟩)
    .exact h3 ⟨U, .inl y⟩
    .refine h3 ⟨U, .inr ⟨y, ?_⟩⟩;have w:b2i r.s=1:=w;cases hs:r.s with
     | true=>rfl
     | false=>rw[hs] at w;cases w
  have good:∀W p' d f i,RE 1 (H ++ [r]) W->RE (-1) (H ++ [r]) p'->¬(r.a=0/\(r.c<0\/(r.c=0/\r.s=true)))->R [J,some (.val (.lst (j.map U6))),D,d,K,f,i,some (.val (kV 1 W)),some (.val (kV (-1) p')),L,n,u,v] :=λW p' d f i h1 h2 h3=>hR _ ⟨W,p',d,f,i,h1,h2,P h3,rfl⟩;clear hR q S P;have T1:0<r.a->∀{Q:PV->Prop},Q (kV 1 (some (VO 1 o r)))->BB [kV 1 o, .tup [.int (-r.c), .int r.a], .bl r.s, .int 1] Q:=λ_ {Q} q=>by have:=KJ (sg:=1) (o:=o) (r:=r) (v0:= .non) (v1:= .non) (.inl rfl) O oo hN q;rw[ADG,show (-1:Int)*r.c= -r.c by omega] at this;exact this
  have T2:r.a<0->∀{Q:PV->Prop},Q (kV (-1) (some (VO (-1) p r)))->BB [kV (-1) p, .tup [.int r.c, .int (-r.a)], .bl r.s, .int (-1)] Q:=λ_ {Q} q=>by have:=KJ (sg:= -1) (o:=p) (r:=r) (v0:= .non) (v1:= .non) (.inr rfl) O op hN q;rw[show (- -1:Int)*r.c=r.c by omega,show (-1:Int)*r.a= -r.a by omega] at this;exact this
  have P1:0<r.a->∀d f i,R [J,some (.val (.lst (j.map U6))),D,d,K,f,i,some (.val (kV 1 (some (VO 1 o r)))),some (.val (kV (-1) p)),L,n,u,v] :=λz d f i=>good _ _ _ _ _ (Ua (.inl rfl) E (by omega)) (HL F (by omega)) (by rintro⟨y,_⟩;omega);have P2:r.a<0->∀d f i,R [J,some (.val (.lst (j.map U6))),D,d,K,f,i,some (.val (kV 1 o)),some (.val (kV (-1) (some (VO (-1) p r)))),L,n,u,v] :=λz d f i=>good _ _ _ _ _ (HL E (by omega)) (Ua (.inr rfl) F (by omega)) (by rintro⟨y,_⟩;omega);have P3:r.a=0->¬(r.c<0\/(r.c=0/\r.s=true))->∀d f i,R [J,some (.val (.lst (j.map U6))),D,d,K,f,i,some (.val (kV 1 o)),some (.val (kV (-1) p)),L,n,u,v] :=λz w d f i=>good _ _ _ _ _ (HL E (by omega)) (HL F (by omega)) (by rintro⟨_,y⟩;exact w y);clear good E F oo op;rw[show U6 r=PV.tup [.int r.a, .int r.c, .bl r.s] from rfl];cases hs:r.s with
  | true=>
    rw[hs] at T1 T2 A P3;rcases ACx r.a 0 with z|z|z
    .have B:¬r.a=0:=by omega
     have C:¬0<r.a:=by omega
     repeat' (first | exact absurd ‹r.a=0› B|exact absurd ‹0<r.a› C|exact absurd z ‹_› | refine T2 z ?_|array_mem_dec)
     exact P2 z _ _ _
    .have B:¬r.a<0:=by omega
     have C:¬0<r.a:=by omega
     repeat' (first | exact absurd ‹r.a<0› B|exact absurd ‹0<r.a› C|exact absurd z ‹_› | array_mem_dec)
     .exact A z (.inl ‹_›)
     .exact A z (.inr ⟨‹_›,rfl⟩)
     .exact P3 z (by rintro(y|y);exact absurd y ‹_›;exact absurd y.1 ‹_›) _ _ _
    .have B:¬r.a=0:=by omega
     have C:¬r.a<0:=by omega
     repeat' (first | exact absurd ‹r.a=0› B|exact absurd ‹r.a<0› C|exact absurd z ‹_› | refine T1 z ?_|array_mem_dec)
     exact P1 z _ _ _
  | false=>
    rw[hs] at T1 T2 A P3;rcases ACx r.a 0 with z|z|z
    .have B:¬r.a=0:=by omega
     have C:¬0<r.a:=by omega
     repeat' (first | exact absurd ‹r.a=0› B|exact absurd ‹0<r.a› C|exact absurd z ‹_› | refine T2 z ?_|array_mem_dec)
     exact P2 z _ _ _
    .have B:¬r.a<0:=by omega
     have C:¬0<r.a:=by omega
     repeat' (first | exact absurd ‹r.a<0› B|exact absurd ‹0<r.a› C|exact absurd z ‹_› | array_mem_dec)
     .exact A z (.inl ‹_›)
     all_goals exact P3 z (by rintro(y|y);exact absurd y ‹_›;cases y.2) _ _ _
    .have B:¬r.a=0:=by omega
     have C:¬r.a<0:=by omega
     repeat' (first | exact absurd ‹r.a=0› B|exact absurd ‹r.a<0› C|exact absurd z ‹_› | refine T1 z ?_|array_mem_dec)
     exact P1 z _ _ _
def lD {d:kn Ln}{N:Nat}(ok:∀l∈d,Jc N l)(hl:d.length<=12)(lo:∃l∈d,0<l.b)(hi:∃l∈d,l.b<0)(v:∃l∈d,l.b=0/\0<l.a)(w:∃l∈d,l.b=0/\l.a<0)(hN:N<=9000){Q:PV->Prop}(q:∀k:kd,(k=true↔∃s t,∀l∈d,h3 l.p s t)->Q (.bl k)):CP [.lst (d.map Ia)] Q:=by
 have y:∀k:kd,(k=true↔∃s,∀r∈F9 d,holds r.p s)->Q (.bl k):=λk hk=>q k (hk.trans (by
  constructor
  .rintro ⟨s,h⟩;exact⟨s,(xl lo hi s).mp h⟩
  .rintro ⟨s,h⟩;exact⟨s,(xl lo hi s).mpr h⟩))
 clear q;have A:=gr ok;have B:∃r∈F9 d,0<r.a:=by obtain⟨l,h1,h2,h3⟩:=v;exact⟨l.r,AAL.mpr (.inl (AAH.mpr ⟨l,AAT.mpr ⟨h1,AAV h2⟩,rfl⟩)),h3⟩
 have C:∃r∈F9 d,r.a<0:=by obtain⟨l,h1,h2,h3⟩:=w;exact⟨l.r,AAL.mpr (.inl (AAH.mpr ⟨l,AAT.mpr ⟨h1,AAV h2⟩,rfl⟩)),h3⟩
 have f1:(d.filter λl=>decide (l.b=0)).length<=12:=AAU (AB8 _ _) hl;have M:(d.filter λl=>decide (0<l.b)).length<=12:=AAU (AB8 _ _) hl;have H:(d.filter λl=>decide (l.b<0)).length<=12:=AAU (AB8 _ _) hl;have I:∀(j vs:kn Ln),(j.flatMap λl=>vs.map (VZ l)).length=j.length*vs.length:=λj vs=>by
  rw[ADP];induction j with
  | nil=>simp
  | cons x j O=>simp[AAM,AAy,ACd] at O ⊢;omega
 have Y:(F9 d).length<=160:=by unfold F9;rw[AA6,I,AAK];have:=ABS M H;omega
 apply MU;ac_rfl;refine Cn Ia (λl=>U6 l.r) (λl=>decide (l.b=0)) (λl=>l∈d) (λl hl R N h1 h2=> ?_) d [] (λl hl=>hl) ?_
 .unfold Ia;ac_rfl
  .rename_i z;exact h1 (AAV z)
  .rename_i z;exact h2 (AAW z)
 rw[ABR,show List.map (λl:Ln=>U6 l.r) (d.filter λl=>decide (l.b=0))=((d.filter λl=>decide (l.b=0)).map Ln.r).map U6 by rw[AA7];rfl];ac_rfl;refine Cn Ia Ia (λl=>decide (0<l.b)) (λl=>l∈d) (λl hl R N h1 h2=> ?_) d [] (λl hl=>hl) ?_
 .unfold Ia;ac_rfl
  .rename_i z;exact h1 (AAV z)
  .rename_i z;exact h2 (AAW z)
 rw[ABR];have m2:∀l∈(d.filter λl=>decide (0<l.b)),Jc N l:=λl h=>ok l (AAT.mp h).1;have m3:∀l∈(d.filter λl=>decide (l.b<0)),Jc N l:=λl h=>ok l (AAT.mp h).1;have P:F9 d=(d.filter λl=>decide (l.b=0)).map Ln.r++(d.filter λl=>decide (0<l.b)).flatMap λl=>(d.filter λh=>decide (h.b<0)).map (VZ l):=rfl;have Z:((d.filter λl=>decide (l.b=0)).map Ln.r).length<=12:=by rw[AAK];exact f1
 generalize S:(d.filter λh=>decide (h.b<0))=hs at *;generalize (d.filter λl=>decide (l.b=0)).map Ln.r=zs at *;generalize (d.filter λl=>decide (0<l.b))=us0 at *;ac_rfl;refine CZ Ia (λj vs τ=>∃(D E F G m f g i:kf AV),τ= [some (.val (.lst (d.map Ia))),some (.own ((zs++j.flatMap λl=>hs.map (VZ l)).map U6)),none,D,E,F,G,none,none,m,f,g,i]) ?_ ?_ ⟨none,none,none,none,none,none,none,none,by simp⟩
 .rintro τ ⟨D,E,F,G,m,f,g,i,rfl⟩;rw[<-P];repeat' (first | exact lE A (by omega) B C (by omega) y|array_mem_dec)
 .rintro j l vs e τ R T ⟨D,E,F,G,m,f,g,i,rfl⟩;have hl:=m2 l (by rw[<-e];simp);have ul:j.length<=12:=by have:=congrArg List.length e;simp at this;omega
  rw[show Ia l= .tup [.int l.a, .int l.b, .int l.c, .bl l.s] from rfl];ac_rfl;refine Cn Ia Ia (λl=>decide (l.b<0)) (λl=>l∈d) (λl hl R N h1 h2=> ?_) d [] (λl hl=>hl) ?_
  .unfold Ia;ac_rfl
   .rename_i z;exact h1 (AAV z)
   .rename_i z;exact h2 (AAW z)
  rw[ABR,S];ac_rfl;refine CZ Ia (λu xs τ=>∃(m f g i:kf AV),τ= [some (.val (.lst (d.map Ia))),some (.own (((zs++j.flatMap λl=>hs.map (VZ l))++u.map (VZ l)).map U6)),none,some (.val (.int l.a)),some (.val (.int l.b)),some (.val (.int l.c)),some (.val (.bl l.s)),none,none,m,f,g,i]) ?_ ?_ ⟨m,f,g,i,by simp⟩
  .rintro τ ⟨m,f,g,i,rfl⟩;exact T _ ⟨_,_,_,_,_,_,_,_,by rw[ADO,AEy,AD4]⟩
  .rintro u h xs J τ R2 K ⟨m,f,g,i,rfl⟩;have U:=m3 h (by rw[<-J];simp);have wl:u.length<=12:=by have:=congrArg List.length J;simp at this;omega
   have len:(zs++j.flatMap λl=>hs.map (VZ l)).length<=156:=by rw[AA6,I];have:=ABS ul H;omega
   have o:∀m f g i,R2 [some (.val (.lst (d.map Ia))),some (.own (((zs++j.flatMap λl=>hs.map (VZ l))++u.map (VZ l)).map U6 ++ [U6 (VZ l h)])),none,some (.val (.int l.a)),some (.val (.int l.b)),some (.val (.int l.c)),some (.val (.bl l.s)),none,none,m,f,g,i] :=λm f g i=>K _ ⟨m,f,g,i,by simp⟩;clear K;generalize (zs++j.flatMap λl=>hs.map (VZ l))=ys at *;have sz:((ys++u.map (VZ l)).map U6).length<sizeLine:=lt_size (n:=200) (by simp;omega) (by decide);obtain⟨W,L,X⟩:=hl;obtain⟨ha,hb,hc⟩:=U;rw[show Ia h= .tup [.int h.a, .int h.b, .int h.c, .bl h.s] from rfl];rw[show U6 (VZ l h)= .tup [.int (h.a*l.b-l.a*h.b), .int (h.c*l.b-l.c*h.b), .bl (l.s||h.s)] from rfl] at o;ac_rfl;refine⟨MulOk.of ha L, ?_⟩;ac_rfl;refine⟨MulOk.of W hb, ?_⟩;ac_rfl;refine⟨MulOk.of hc L, ?_⟩;ac_rfl;refine⟨MulOk.of X hb, ?_⟩;cases h1:l.s with
   | true=> rw[h1] at o;ac_rfl;exact o _ _ _ _
   | false=> rw[h1] at o;ac_rfl;exact o _ _ _ _
def BI (f:Rat×Rat×Rat)(s:kd):Ln:=⟨f.2.1.num*f.2.2.den*f.1.den,f.2.2.num*f.2.1.den*f.1.den,f.1.num*f.2.1.den*f.2.2.den,s⟩
def Rq {x y z:Int}{M:Nat}(hx:x.natAbs<2^M)(hy:y.natAbs<2^M)(a:z.natAbs<2^M):(x*y).natAbs<2^(2*M)/\(x*y*z).natAbs<2^(3*M):=by have h:=A8 hx hy;have h2:=A8 h a;rw[show M+M=2*M by omega] at h;rw[show M+M+M=3*M by omega] at h2;exact⟨h,h2⟩
def DR {a b c:Rat}{s:kd}{M:Nat}(ha:Bd M a)(hb:Bd M b)(hc:Bd M c)(l:M<=3000){Q:PV->Prop}(q:Jc (3*M) (BI (c,a,b) s)->Q (Ia (BI (c,a,b) s))):A2 [fr a,fr b,fr c, .bl s] Q:=by have f:=ha.top;have d:=ha.botI;have g:=hb.top;have b2:=hb.botI;have h:=hc.top;have e:=hc.botI;obtain⟨i,y1⟩:=Rq f b2 e;obtain⟨j,y2⟩:=Rq g d e;obtain⟨k,y3⟩:=Rq h d b2;have q:=q ⟨y1,y2,y3⟩;unfold BI Ia at q;apply LA;unfold fr;ac_rfl;refine⟨MulOk.of f b2, ?_⟩;ac_rfl;refine⟨MulOk.of i e, ?_⟩;ac_rfl;refine⟨MulOk.of g d, ?_⟩;ac_rfl;refine⟨MulOk.of j e, ?_⟩;ac_rfl;refine⟨MulOk.of h d, ?_⟩;ac_rfl;refine⟨MulOk.of k b2, ?_⟩;ac_rfl;exact q
def jw {f:Rat×Rat×Rat}{s:kd}{x y:Rat}:h3 (BI f s).p x y↔(0<f.1+f.2.1*x+f.2.2*y\/(f.1+f.2.1*x+f.2.2*y=0/\s=false)):=by
 obtain⟨c,a,b⟩:=f;obtain⟨d,g⟩:=Jo a;obtain⟨h,i⟩:=Jo b;obtain⟨c0,j⟩:=Jo c;have K:(0:Rat)<(a.den:Rat)*(b.den:Rat)*(c.den:Rat):=ACO (ACO d h) c0;have e:((c.num*a.den*b.den:Int):Rat)+((a.num*b.den*c.den:Int):Rat)*x+((b.num*a.den*c.den:Int):Rat)*y=(a.den:Rat)*(b.den:Rat)*(c.den:Rat)*(c+a*x+b*y):=by rw[AAQ,AAQ,AAQ,AAQ,AAQ,AAQ,g,i,j,ABT,ABT,ABT];grind
 show (0<((c.num*a.den*b.den:Int):Rat)+((a.num*b.den*c.den:Int):Rat)*x+((b.num*a.den*c.den:Int):Rat)*y\/(((c.num*a.den*b.den:Int):Rat)+((a.num*b.den*c.den:Int):Rat)*x+((b.num*a.den*c.den:Int):Rat)*y=0/\b2i s=0))↔_;rw[e,(CM K).1,(CM K).2];cases s <;> simp[b2i]
def E9 (w:Wd):kn Ln:=(List.range 12).map λn=>BI (Ad w n) (decide (strN n=1))
def Nx {w:Wd}{s t:Rat}:(∀l∈E9 w,h3 l.p s t)↔Om w s t:=by
 unfold E9 Om;have st:∀n<12,(decide (strN n=1)=false↔strN n=0):=by decide
 constructor
 .intro h n a;have:=jw.mp (h _ (AAH.mpr ⟨n,AAu.mpr a,rfl⟩));rw[st n a] at this;exact this
 .intro h l hl;obtain⟨n,a,rfl⟩:=AAH.mp hl;have a:=AAu.mp a;rw[jw,st n a];exact h n a
def pU {cs:kn C4}{k:Nat}{c:C4}{i:Int}(hi:i=(k:Int))(h:cs[k]? =some c){R:PV->Prop}(r:R (cor c)):Ah (FZ cs) (.int i) R:=by show Z7 (HY (cs.map cor) i) R;rw[hi,show HY (cs.map cor) ((k:Nat):Int)=some (cor c) from CB (by rw[AAh,h];rfl)];exact r
def Qa {cs:kn C4}{p:C4×C4}{k:Nat}{i a:Int}{B:Nat}(hi:i=(k:Int))(hs:a=0\/a=1\/a=2)(e:cs[k]? =some p.1)(h1:cs[k+1]? =some p.2)(f:p.1.1<p.2.1)(b:F6 B p.1)(b2:F6 B p.2)(s:B<=100){Q:PV->Prop}(q:Q (.tup [fr (LQ p a.toNat),fr (KP p a.toNat)])):B5 [FZ cs, .int i, .int a] Q:=by
 have g:=b.m;have c0:=b2.m;have d:∀c:C4,F6 B c->Bd B (gM a.toNat c):=λc h=>by rcases hs with rfl|rfl|rfl;exact h.x;exact h.y;exact h.z
 have j:=d _ b;have l:=d _ b2;have ne:¬p.2.1-p.1.1=0:=by grind
 have n:=λ{R:PV->Prop} (r:R (cor p.1))=>pU (R:=R) hi e r;have o:=λ{R:PV->Prop} (r:R (cor p.2))=>pU (R:=R) (i:=i+1) (k:=k+1) (by omega) h1 r;have J:∀{c:C4} {R:PV->Prop},R (fr (gM a.toNat c))->Ah (cor c) (.int (1+a)) R:=λ{c R} r=>by rcases hs with rfl|rfl|rfl <;> exact r
 have sl:Bd (4*B+2) (LQ p a.toNat):=(FF g c0 j l f).1;unfold LQ KP ah at q;unfold LQ at sl;unfold Yi at q sl;apply LB;repeat' (first | with_reducible apply n|with_reducible apply o|with_reducible apply J|array_mem_dec)
 exact q
def Zw (w:Wd):E9 w= [BI (Ad w 0) false,BI (Ad w 1) true,BI (Ad w 2) false,BI (Ad w 3) true,BI (Ad w 4) false,BI (Ad w 5) false,BI (Ad w 6) true,BI (Ad w 7) true,BI (Ad w 8) true,BI (Ad w 9) true,BI (Ad w 10) true,BI (Ad w 11) true] :=rfl
def gz (x:Rat):0-x= -x:=by grind
def i0 (p q:C4×C4)(z:T3)(k:Nat):kn Ln:= [BI (aN z k-(KP p k-KP q k),0-LQ p k,LQ q k) true,BI (aN z k+(KP p k-KP q k),LQ p k,0-LQ q k) true]
def WZ {cs ds:kn C4}{b e:T3}{d:Rat×Rat}{p q:C4×C4}{k m:Nat}{i j:Int}{B:Nat}(hi:i=(k:Int))(hj:j=(m:Int))(h0:cs[k]? =some p.1)(h1:cs[k+1]? =some p.2)(g0:ds[m]? =some q.1)(g1:ds[m+1]? =some q.2)(S:p.1.1<p.2.1)(lt':q.1.1<q.2.1)(H:F6 B p.1)(b2:F6 B p.2)(I:F6 B q.1)(J:F6 B q.2)(hB:B<=100)(U:NQ 100 b)(W:NQ 100 e)(d1:Bd 100 d.1)(d2:Bd 100 d.2){Q:PV->Prop}(E:(∀l∈E9 (BG cs ds b e d p q),Jc 6000 l)->Q (.lst ((E9 (BG cs ds b e d p q)).map Ia))):CJ [Dg cs b,Dg ds e, .tup [fr d.1,fr d.2], .int i, .int j] Q:=by
 have v:=λ{R:PV->Prop} (r:R (cor p.1))=>pU (R:=R) hi h0 r;have w:=λ{R:PV->Prop} (r:R (cor p.2))=>pU (R:=R) (i:=i+1) (k:=k+1) (by omega) h1 r;have C:=λ{R:PV->Prop} (r:R (cor q.1))=>pU (R:=R) hj g0 r;have D:=λ{R:PV->Prop} (r:R (cor q.2))=>pU (R:=R) (i:=j+1) (k:=m+1) (by omega) g1 r;have Y:=H.m;have Z:=b2.m;have c0:=I.m;have c1:=J.m;have bx:=U.x;have by':=U.y;have bz:=U.z;have ex:=W.x;have ey:=W.y;have ez:=W.z;have one:Bd 2 (1:Rat):=by constructor <;> decide
 have neg:Bd 2 (-1:Rat):=by constructor <;> decide
 have S0:=FF Y Z H.x b2.x S;have S1:=FF Y Z H.y b2.y S;have S2:=FF Y Z H.z b2.z S;have T0:=FF c0 c1 I.x J.x lt';have T1:=FF c0 c1 I.y J.y lt';have T2:=FF c0 c1 I.z J.z lt';apply J6;repeat' (first | with_reducible apply v|with_reducible apply w|with_reducible apply C|with_reducible apply D|array_mem_dec)
 refine DR (M:=2000) (by decreasing_trivial_pre_omega) (by decreasing_trivial_pre_omega) (by decreasing_trivial_pre_omega) (by decide) λo0=> ?_;repeat' (first | with_reducible apply v|with_reducible apply w|with_reducible apply C|with_reducible apply D|array_mem_dec)
 refine DR (M:=2000) (by decreasing_trivial_pre_omega) (by decreasing_trivial_pre_omega) (by decreasing_trivial_pre_omega) (by decide) λo1=> ?_;repeat' (first | with_reducible apply v|with_reducible apply w|with_reducible apply C|with_reducible apply D|array_mem_dec)
 refine DR (M:=2000) (by decreasing_trivial_pre_omega) (by decreasing_trivial_pre_omega) (by decreasing_trivial_pre_omega) (by decide) λo2=> ?_;repeat' (first | with_reducible apply v|with_reducible apply w|with_reducible apply C|with_reducible apply D|array_mem_dec)
 refine DR (M:=2000) (by decreasing_trivial_pre_omega) (by decreasing_trivial_pre_omega) (by decreasing_trivial_pre_omega) (by decide) λo3=> ?_;repeat' (first | with_reducible apply v|with_reducible apply w|with_reducible apply C|with_reducible apply D|array_mem_dec)
 refine DR (M:=2000) (by decreasing_trivial_pre_omega) (by decreasing_trivial_pre_omega) (by decreasing_trivial_pre_omega) (by decide) λo4=> ?_;repeat' (first | with_reducible apply v|with_reducible apply w|with_reducible apply C|with_reducible apply D|array_mem_dec)
 refine DR (M:=2000) (by decreasing_trivial_pre_omega) (by decreasing_trivial_pre_omega) (by decreasing_trivial_pre_omega) (by decide) λo5=> ?_;repeat' (first | with_reducible apply v|with_reducible apply w|with_reducible apply C|with_reducible apply D|array_mem_dec)
 have RP:=λ(F:Int) (hs:F=0\/F=1\/F=2) {Q:PV->Prop} q=>Qa (cs:=cs) (p:=p) (Q:=Q) (B:=B) hi hs h0 h1 S H b2 hB q;have RQ:=λ(F:Int) (hs:F=0\/F=1\/F=2) {Q:PV->Prop} q'=>Qa (cs:=ds) (p:=q) (Q:=Q) (B:=B) hj hs g0 g1 lt' I J hB q';rw[show ([Ia (BI (0-p.1.1,1,0) false)] ++ [Ia (BI (p.2.1,((-1:Int):Rat),0) true)] ++ [Ia (BI (0-q.1.1,0,1) false)] ++ [Ia (BI (q.2.1,0,((-1:Int):Rat)) true)] ++ [Ia (BI (b.2.2,1,((-1:Int):Rat)) false)] ++ [Ia (BI (e.2.2,((-1:Int):Rat),1) false)] :kn PV)= [BI (Ad (BG cs ds b e d p q) 0) false,BI (Ad (BG cs ds b e d p q) 1) true,BI (Ad (BG cs ds b e d p q) 2) false,BI (Ad (BG cs ds b e d p q) 3) true,BI (Ad (BG cs ds b e d p q) 4) false,BI (Ad (BG cs ds b e d p q) 5) false].map Ia by rw[gz,gz];rfl];rw[gz] at o0 o2;have six:∀l∈ [BI (Ad (BG cs ds b e d p q) 0) false,BI (Ad (BG cs ds b e d p q) 1) true,BI (Ad (BG cs ds b e d p q) 2) false,BI (Ad (BG cs ds b e d p q) 3) true,BI (Ad (BG cs ds b e d p q) 4) false,BI (Ad (BG cs ds b e d p q) 5) false],Jc 6000 l:=λl hl=>by
  simp only[AAI,AAp,AAq] at hl;rcases hl with rfl|rfl|rfl|rfl|rfl|rfl
  .exact o0
  .exact o1
  .exact o2
  .exact o3
  .exact o4
  .exact o5
 clear o0 o1 o2 o3 o4 o5;have L:E9 (BG cs ds b e d p q)= [BI (Ad (BG cs ds b e d p q) 0) false,BI (Ad (BG cs ds b e d p q) 1) true,BI (Ad (BG cs ds b e d p q) 2) false,BI (Ad (BG cs ds b e d p q) 3) true,BI (Ad (BG cs ds b e d p q) 4) false,BI (Ad (BG cs ds b e d p q) 5) false] ++ (List.range 3).flatMap (i0 p q (szs b e d)):=by rw[Zw];show _= [_,_,_,_,_,_,_,_,_,_,_,_];simp only[gz];rfl
 rw[L] at E;have N:([BI (Ad (BG cs ds b e d p q) 0) false,BI (Ad (BG cs ds b e d p q) 1) true,BI (Ad (BG cs ds b e d p q) 2) false,BI (Ad (BG cs ds b e d p q) 3) true,BI (Ad (BG cs ds b e d p q) 4) false,BI (Ad (BG cs ds b e d p q) 5) false] :kn Ln).length=6:=rfl;generalize [BI (Ad (BG cs ds b e d p q) 0) false,BI (Ad (BG cs ds b e d p q) 1) true,BI (Ad (BG cs ds b e d p q) 2) false,BI (Ad (BG cs ds b e d p q) 3) true,BI (Ad (BG cs ds b e d p q) 4) false,BI (Ad (BG cs ds b e d p q) 5) false] =A at *;clear L v w C D;refine EM (λi' τ=>(∀l∈A++(List.range i').flatMap (i0 p q (szs b e d)),Jc 6000 l)/\∃G c f g o s t u,τ= [some (.val (Dg cs b)),some (.val (Dg ds e)),some (.val (.tup [fr d.1,fr d.2])),some (.val (.int i)),some (.val (.int j)),some (.own ((A++(List.range i').flatMap (i0 p q (szs b e d))).map Ia)),G,some (.val (fr 0)),some (.val (fr 1)),some (.val (fr ((-1:Int):Rat))),c,f,g,o,s,t,u]) ?_ ?_ ⟨by simpa using six,none,none,none,none,none,none,none,none,by simp⟩
 .rintro τ ⟨T,G,c,f,g,o,s,t,u,rfl⟩;ac_rfl;exact E T
 .rintro n hn τ R hR ⟨T,G,c,f,g,o,s,t,u,rfl⟩;have O:n=0\/n=1\/n=2:=by have:n<3:=hn;omega
  have len:(A++(List.range n).flatMap (i0 p q (szs b e d))).length<=12:=by rcases O with rfl|rfl|rfl <;> simp[N,ADM,i0]
  have P:∀G c f g o s t u,Jc 6000 (BI (aN (szs b e d) n-(KP p n-KP q n),0-LQ p n,LQ q n) true)->Jc 6000 (BI (aN (szs b e d) n+(KP p n-KP q n),LQ p n,0-LQ q n) true)->R [some (.val (Dg cs b)),some (.val (Dg ds e)),some (.val (.tup [fr d.1,fr d.2])),some (.val (.int i)),some (.val (.int j)),some (.own ((A++(List.range n).flatMap (i0 p q (szs b e d))).map Ia ++ [Ia (BI (aN (szs b e d) n-(KP p n-KP q n),0-LQ p n,LQ q n) true)] ++ [Ia (BI (aN (szs b e d) n+(KP p n-KP q n),LQ p n,0-LQ q n) true)])),G,some (.val (fr 0)),some (.val (fr 1)),some (.val (fr ((-1:Int):Rat))),c,f,g,o,s,t,u] :=λG c f g o s t u o6 o7=>hR _ ⟨λl hl=>by
   rw[ADM,ADO,AEy,<-AD4] at hl;rcases AAL.mp hl with hl|hl
   .exact T l hl
   .unfold i0 at hl;simp only[AAI,AAp,AAq] at hl;rcases hl with rfl|rfl
    .exact o6
    .exact o7,G,c,f,g,o,s,t,u,by rw[ADM,ADO,AEy,<-AD4,ACL (l₂:=i0 p q (szs b e d) n)];simp[i0]⟩
  clear hR T six E;have Sp:Bd (4*B+2) (LQ p n)/\Bd (6*B+3) (KP p n):=by rcases O with rfl|rfl|rfl;exact S0;exact S1;exact S2
  have Sq:Bd (4*B+2) (LQ q n)/\Bd (6*B+3) (KP q n):=by rcases O with rfl|rfl|rfl;exact T0;exact T1;exact T2
  obtain⟨p1,p2⟩:=Sp;obtain⟨q1,q2⟩:=Sq;clear S0 S1 S2 T0 T1 T2;have K:(λx:Int=>x.fdiv 2) (0+(n:Int))=if n=2 then 1 else 0:=by rcases O with rfl|rfl|rfl <;> rfl
  have K:(0+(n:Int)).fdiv 2=if n=2 then 1 else 0:=K
  have X:∀{x y z:Rat} {R:PV->Prop},R (fr (if n=2 then y else x))->Ah (.tup [fr x,fr y,fr z]) (.int (if n=2 then 1 else 0)) R:=λ{x y z R} r=>by by_cases h:n=2 <;> simp only[h,AAt,AAo] at r ⊢ <;> exact r
  have X2:∀{x y:Rat} {R:PV->Prop},R (fr (if n=2 then y else x))->Ah (.tup [fr x,fr y]) (.int (if n=2 then 1 else 0)) R:=λ{x y R} r=>by by_cases h:n=2 <;> simp only[h,AAt,AAo] at r ⊢ <;> exact r
  have eZ:aN (szs b e d) n=(if n=2 then d.2 else d.1)+((if n=2 then b.2.1 else b.1)+(if n=2 then e.2.1 else e.1)):=by rcases O with rfl|rfl|rfl <;> rfl
  have a:∀{x y:Rat},Bd 100 x->Bd 100 y->Bd 100 (if n=2 then y else x):=λh1 h2=>by split;exact h2;exact h1
  have w1:=a d1 d2;have w2:=a bx by';have w3:=a ex ey;rw[eZ] at P;clear a eZ;ac_rfl;refine RP (0+(n:Int)) (by omega) ?_;rw[show (0+(n:Int)).toNat=n by omega];ac_rfl;refine RQ (0+(n:Int)) (by omega) ?_;rw[show (0+(n:Int)).toNat=n by omega];ac_rfl;refine⟨⟨by decide,by decide +kernel⟩, ?_⟩;rw[K];repeat' (first | with_reducible apply X|with_reducible apply X2|array_mem_dec)
  generalize (if n=2 then d.2 else d.1)=u1 at *;generalize (if n=2 then b.2.1 else b.1)=u2 at *;generalize (if n=2 then e.2.1 else e.1)=u3 at *;ac_rfl;refine DR (M:=2000) (by decreasing_trivial_pre_omega) (by decreasing_trivial_pre_omega) (by decreasing_trivial_pre_omega) (by decide) λo6=> ?_;ac_rfl;refine DR (M:=2000) (by decreasing_trivial_pre_omega) (by decreasing_trivial_pre_omega) (by decreasing_trivial_pre_omega) (by decide) λo7=> ?_;ac_rfl;refine⟨lt_size (n:=20) (by rw[AA6,AAK];simp only[AE4];omega) (by decide), ?_⟩;exact P _ _ _ _ _ _ _ _ o6 o7
def bg {w:Wd}(ok:∀l∈E9 w,Jc 6000 l){Q:PV->Prop}(q:∀k:kd,(k=true↔∃s t,Om w s t)->Q (.bl k)):CP [.lst ((E9 w).map Ia)] Q:=by
 have m:∀n<12,BI (Ad w n) (decide (strN n=1))∈E9 w:=λn a=>AAH.mpr ⟨n,AAu.mpr a,rfl⟩;have c:=(-w.b.1).den_pos;have d:=(w.e.1).den_pos;have f:=(-w.b'.1).den_pos;have g:=(w.e'.1).den_pos;refine lD ok (by unfold E9;simp) ⟨_,m 2 (by decide), ?_⟩ ⟨_,m 3 (by decide), ?_⟩ ⟨_,m 0 (by decide), ?_, ?_⟩ ⟨_,m 1 (by decide), ?_, ?_⟩ (by decide) λk hk=>q k (hk.trans ?_)
 .show (0:Int)<1*1*((-w.b'.1).den:Int);omega
 .show (-1:Int)*1*((w.e'.1).den:Int)<0;omega
 .show (0:Int)*1*((-w.b.1).den:Int)=0;omega
 .show (0:Int)<1*1*((-w.b.1).den:Int);omega
 .show (0:Int)*1*((w.e.1).den:Int)=0;omega
 .show (-1:Int)*1*((w.e.1).den:Int)<0;omega
 .constructor
  .rintro ⟨s,t,h⟩;exact⟨s,t,Nx.mp h⟩
  .rintro ⟨s,t,h⟩;exact⟨s,t,Nx.mpr h⟩
def cv {cs ds:kn C4}{b e:T3}{d:Rat×Rat}{B:Nat}(hc:∀c∈cs,F6 B c)(J:TH cs)(E:∀c∈ds,F6 B c)(K:TH ds)(l1:cs.length<=60)(l2:ds.length<=60)(h1:2<=cs.length)(h2:2<=ds.length)(L:B<=100)(M:NQ 100 b)(N:NQ 100 e)(O:Bd 100 d.1)(P:Bd 100 d.2){Q:PV->Prop}(q:∀k:kd,(k=true↔∃s t,Tg cs ds b e d s t)->Q (.bl k)):CQ [Dg cs b,Dg ds e, .tup [fr d.1,fr d.2]] Q:=by
 have j:∀p∈EI cs,∀a∈EI ds,(∃s t,Om (BG cs ds b e d p a) s t)->Q (.bl true):=λp hp a r ⟨s,t,h⟩=>q true ⟨λ_=>by
  obtain⟨x,hx,ex⟩:=YK (b:=b) (e:=e) (d:=d) hp r;exact⟨s,t,HM.mpr ⟨x,hx,by rw[ex];exact h⟩⟩,λ_=>rfl⟩
 have F:(∀p∈EI cs,∀a∈EI ds,¬∃s t,Om (BG cs ds b e d p a) s t)->Q (.bl false):=λh=>q false ⟨λz=>(by cases z),λ⟨s,t,z⟩=>by
  obtain⟨x,hx,o⟩:=HM.mp z;obtain⟨p,hp,a,r,ex⟩:=TF hx;rw[ex] at o;exact absurd ⟨s,t,o⟩ (h p hp a r)⟩
 clear q;apply MW;ac_rfl;refine EM (λn τ=>(∀k p,k<n->(EI cs)[k]? =some p->∀a∈EI ds,¬∃s t,Om (BG cs ds b e d p a) s t)/\∃v f:kf AV,τ= [some (.val (Dg cs b)),some (.val (Dg ds e)),some (.val (.tup [fr d.1,fr d.2])),v,f]) ?_ ?_ ⟨λk p hk=>absurd hk (by omega),_,_,rfl⟩
 .rintro τ ⟨w,v,f,rfl⟩;have y:=F λp hp=>by
   obtain⟨k,hk,g⟩:=ADe.mp hp;have S:(EI cs).length=cs.length-1:=by unfold EI;simp
   exact w k p (by omega) (by rw[<-g];exact AAY hk)
  ac_rfl;exact y
 .rintro n hn τ R G ⟨w,v,f,rfl⟩;obtain⟨c0,u,T,U,ep⟩:=SN (cs:=cs) (i:=n) (by omega);obtain⟨m1,m2,W⟩:=Mj J (ABB ep);ac_rfl;refine EM (λm τ=>(∀k a,k<m->(EI ds)[k]? =some a->¬∃s t,Om (BG cs ds b e d (c0,u) a) s t)/\∃f:kf AV,τ= [some (.val (Dg cs b)),some (.val (Dg ds e)),some (.val (.tup [fr d.1,fr d.2])),some (.val (.int (0+n))),f]) ?_ ?_ ⟨λk p hk=>absurd hk (by omega),_,rfl⟩
  .rintro τ ⟨l,f,rfl⟩;refine G _ ⟨λk p hk g a r=> ?_,_,_,rfl⟩;by_cases z:k<n
   .exact w k p z g a r
   .have:k=n:=by omega
    subst this;rw[ep] at g;cases g;obtain⟨m,H,X⟩:=ADe.mp r;have S:(EI ds).length=ds.length-1:=by unfold EI;simp
    exact l m a (by omega) (by rw[<-X];exact AAY H)
  .rintro m H τ R2 I ⟨l,f,rfl⟩;obtain⟨A,C,f0,f1,fp⟩:=SN (cs:=ds) (i:=m) (by omega);obtain⟨Y,Z,lt'⟩:=Mj K (ABB fp);have j:=j (c0,u) (ABB ep) (A,C) (ABB fp);have D:(¬∃s t,Om (BG cs ds b e d (c0,u) (A,C)) s t)->∀f,R2 [some (.val (Dg cs b)),some (.val (Dg ds e)),some (.val (.tup [fr d.1,fr d.2])),some (.val (.int (0+n))),f] :=λh f=>I _ ⟨λk a hk g=>by
    by_cases z:k<m
    .exact l k a z g
    .have:k=m:=by omega
     subst this;rw[fp] at g;cases g;exact h,f,rfl⟩
   clear I G F;ac_rfl;refine WZ (p:=(c0,u)) (q:=(A,C)) (k:=n) (m:=m) (by omega) (by omega) T U f0 f1 W lt' (hc _ m1) (hc _ m2) (E _ Y) (E _ Z) L M N O P λok=> ?_;ac_rfl;refine bg ok λk hk=> ?_;cases k with
   | true=> have:=j (hk.mp rfl);ac_rfl;exact this
   | false=>
     have:=D λz=>by have:=hk.mpr z;cases this
     ac_rfl;exact this _
end PL
namespace PL
open PySem L2 PyProof.Rows
open PL.K31
instance (priority:=2000){Q:PV->Prop}:ZC (Cz [.tape] Q) (True) (∀a,Bd 8 a->Mul 6 60 a->Q (fr a)):=⟨λ_ h=>ME λa m=>h a (m.bd (by decide) (by decide)) m⟩
structure p7 (b:T3):Prop where
 bd:NQ 8 b
 x0:0<=b.1
 y0:0<=b.2.1
 z0:0<=b.2.2
 mx:Mul 6 240 b.1
 my:Mul 6 240 b.2.1
 mz:Mul 6 240 b.2.2
def bZ {Q:PV->Prop}(q:∀b:T3,p7 b->Q (vq b)):C9 [.tape] Q:=by
 apply MT;have a:Mul 6 240 (0:Rat):=Mul.int (n:=0) (by decide) (by decide);have all:∀x∈ [(0:Rat),1/2,1,1/3,3,40],Bd 8 x/\0<=x/\Mul 6 240 x:=by
  intro x hx;simp only[AAI,AAp,AAq] at hx;rcases hx with rfl|rfl|rfl|rfl|rfl|rfl
  .exact ⟨Yj,by decide +kernel,a⟩
  .exact ⟨Yj,by decide +kernel, .mk' (k:=3) (by decide) (by decide +kernel) (by decide)⟩
  .exact ⟨Yj,by decide +kernel, .mk' (k:=6) (by decide) (by decide +kernel) (by decide)⟩
  .exact ⟨Yj,by decide +kernel, .mk' (k:=2) (by decide) (by decide +kernel) (by decide)⟩
  .exact ⟨Yj,by decide +kernel, .mk' (k:=18) (by decide) (by decide +kernel) (by decide)⟩
  .exact ⟨Yj,by decide +kernel, .mk' (k:=240) (by decide) (by decide +kernel) (by decide)⟩
 ac_rfl
 .exact q (0,0,0) ⟨⟨Yj,Yj,Yj⟩,(by decide),(by decide),(by decide),a,a,a⟩
 refine Nv (xs:= [(0:Rat),1/2,1,1/3,3,40]) (by omega) (by show _<(6:Int);omega) λx hx=> ?_;ac_rfl;refine Nv (xs:= [(0:Rat),1/2,1,1/3,3,40]) (by omega) (by show _<(6:Int);omega) λy hy=> ?_;ac_rfl;refine Nv (xs:= [(0:Rat),1/2,1,1/3,3,40]) (by omega) (by show _<(6:Int);omega) λz c=> ?_;ac_rfl;exact q (x,y,z) ⟨⟨(all x hx).1,(all y hy).1,(all z c).1⟩,(all x hx).2.1,(all y hy).2.1,(all z c).2.1,(all x hx).2.2,(all y hy).2.2,(all z c).2.2⟩
structure kE (d:Rat×Rat):Prop where
 b1:Bd 8 d.1
 b2:Bd 8 d.2
 p1:1/3<=d.1
 p2:1/3<=d.2
 m1:Mul 6 30 d.1
 m2:Mul 6 30 d.2
 c1:Bd 3 d.1
 c2:Bd 3 d.2
def gI {Q:PV->Prop}(q:∀d:Rat×Rat,kE d->Q (.tup [fr d.1,fr d.2])):PL.F__law_apart [.tape] Q:=by
 apply PL.s_F__law_apart;have all:∀x∈ [(1:Rat),2,3/2,1/3,5],Bd 8 x/\1/3<=x/\Mul 6 30 x/\Bd 3 x:=by
  intro x hx;simp only[AAI,AAp,AAq] at hx;rcases hx with rfl|rfl|rfl|rfl|rfl
  .exact ⟨Yj,by decide +kernel, .mk' (k:=6) (by decide) (by decide +kernel) (by decide),⟨by decide +kernel,by decide +kernel⟩⟩
  .exact ⟨Yj,by decide +kernel, .mk' (k:=12) (by decide) (by decide +kernel) (by decide),⟨by decide +kernel,by decide +kernel⟩⟩
  .exact ⟨Yj,by decide +kernel, .mk' (k:=9) (by decide) (by decide +kernel) (by decide),⟨by decide +kernel,by decide +kernel⟩⟩
  .exact ⟨Yj,by decide +kernel, .mk' (k:=2) (by decide) (by decide +kernel) (by decide),⟨by decide +kernel,by decide +kernel⟩⟩
  .exact ⟨Yj,by decide +kernel, .mk' (k:=30) (by decide) (by decide +kernel) (by decide),⟨by decide +kernel,by decide +kernel⟩⟩
 ac_rfl;refine Nv (xs:= [(1:Rat),2,3/2,1/3,5]) (by omega) (by show _<(5:Int);omega) λx hx=> ?_;ac_rfl;refine Nv (xs:= [(1:Rat),2,3/2,1/3,5]) (by omega) (by show _<(5:Int);omega) λy hy=> ?_;ac_rfl;exact q (x,y) ⟨(all x hx).1,(all y hy).1,(all x hx).2.1,(all y hy).2.1,(all x hx).2.2.1,(all y hy).2.2.1,(all x hx).2.2.2,(all y hy).2.2.2⟩
def sX {b e:T3}{d:Rat×Rat}(a:Mul 6 240 b.1)(b2:Mul 6 240 b.2.1)(c:Mul 6 240 e.1)(g:Mul 6 240 e.2.1)(f:Mul 6 240 d.1)(h:Mul 6 240 d.2):∀k,Mul 12 4800 (aN (szs b e d) k):=λk=>by
 rcases k with _|_|k
 .exact ((f.add (a.add c)).dbl).mono (by decide)
 .exact ((f.add (a.add c)).dbl).mono (by decide)
 .exact ((h.add (b2.add g)).dbl).mono (by decide)
end PL
namespace PL.K68
open PySem L2 PL PyProof.Rows
open PL.K31
abbrev Pt:AS:=
 (As (AW gO (AW Ah (aV 0) (aC (.int 1))) (aC (.str "lost"))))
def DN:AF:=Ar 1 Pt
def VB {a:PV}{Q:PV->Prop}(h:Pt ⟨λ_=>Q .non,Q,λ_=>False,λ_=>False⟩ [some (.val a)]):DN [a] Q:=h
abbrev Mw:AS:=
 (As (AW Lh (AW Ah (AN 3 EX (AB (aV 0) (AB (aV 1) (AB (aV 2) AM)))) (aC (.int 0))) (aC (.str "meet"))))
def Du:AF:=Ar 3 Mw
def Sg {a b c:PV}{Q:PV->Prop}(h:Mw ⟨λ_=>Q .non,Q,λ_=>False,λ_=>False⟩ [some (.val a),some (.val b),some (.val c)]):Du [a,b,c] Q:=h
abbrev Hi:AS:=
 (Ae (Df (ku (AB (aV 0) AM)) (Hm 2 (Ag (An 2) (Ag (An 3) Bf))) (Df (Jf (AB (aV 2) AM)) (An 4) (CA (Ef (A6 (AN 1 DN (AB (aV 3) AM))) (Ef (A6 (AN 1 DN (AB (AW Ah (aV 0) (aV 4)) AM))) (A6 (AN 3 Du (AB (AW Ah (AW Ah (aV 0) (aV 4)) (aC (.int 2))) (AB (AW Ah (aV 3) (aC (.int 2))) (AB (aV 1) AM))))))) (As (Ak (AB (aV 4) (AB (aV 2) AM)))) BO)))
   (As (aC .non)))
def Bx:AF:=Ar 5 Hi
def MX {a b:PV}{Q:PV->Prop}(h:Hi ⟨λ_=>Q .non,Q,λ_=>False,λ_=>False⟩ [some (.val a),some (.val b),none,none,none]):Bx [a,b] Q:=h
abbrev Kk:AS:=
 (Ae (CA (A6 (AW V9 (aV 6) (aC (.int 2)))) (Ao (IL (EA (AB (AW Ah (aV 3) (aC (.int 0))) (AB (AN 1 Cz (AB (aV 0) AM)) (AB (AW Ah (aV 3) (aC (.int 2))) AM))))) (An 3)) BO)
   (C3 4 FA (AB (Ak (AB (aV 2) (AB (AW Ah (aV 3) (aC (.int 0))) (AB (AW Ah (aV 3) (aC (.int 1))) (AB (AW Ah (aV 3) (aC (.int 2))) AM))))) AM)))
abbrev Kh:AS:=
 (Ae (CA (A6 (AW V9 (aV 6) (aC (.int 0)))) (Ao (IL (EA (AB (Ak (AB (AN 2 At (AB (aV 0) (AB (aV 1) AM))) (AB (aC (.int 1)) AM))) (AB (AW Ah (aV 3) (aC (.int 1))) (AB (AW Ah (IL (EA (AB (AW Ah (aV 3) (aC (.int 2))) (AB (Ak (AB (AN 2 At (AB (aV 0) (AB (aC (.int 3)) AM))) (AB (aC (.int 1)) AM))) AM)))) (AW RO (aV 6) (aC (.int 2)))) AM))))) (An 3)) BO)
   Kk)
abbrev Kg:AS:=
 (Ae (Ao (AN 2 At (AB (aV 0) (AB (aC (.int 5)) AM))) (An 6))
   Kh)
abbrev Oo:AS:=
 (Ae (Ao (AN 2 Bi (AB (aV 2) (AB (AN 1 Es (AB (aV 0) AM)) AM))) (An 2))
   Kg)
abbrev Os:AS:=
 (Ae (Df (Jf (AB (AW Ba (aC (.int 1)) (AN 2 At (AB (aV 0) (AB (aC (.int 2)) AM)))) AM)) (An 5) Oo)
   (As (HI Di (AB (aV 4) AM))))
abbrev Oq:AS:=
 (Ae (GK (EA (AB (Ak (AB (aV 2) (AB (AW Ah (aV 3) (aC (.int 0))) (AB (AW Ah (aV 3) (aC (.int 1))) (AB (AW Ah (aV 3) (aC (.int 2))) AM))))) AM)) 4)
   Os)
abbrev Op:AS:=
 (Ae (Ao (IL (EA (AB (Ak (AB (AN 2 At (AB (aV 0) (AB (aV 1) AM))) (AB (aC (.int 1)) AM))) (AB (AN 1 Cz (AB (aV 0) AM)) (AB (Ak (AB (AN 2 At (AB (aV 0) (AB (aC (.int 3)) AM))) (AB (aC (.int 1)) AM))) AM))))) (An 3))
   Oq)
abbrev Mo:AS:=
 (Ae (Ao (AN 2 A4 (AB (AN 2 At (AB (aV 0) (AB (aC (.int 25)) AM))) (AB (AW Ah (IL (EA (AB (aC (.int 1)) (AB (aC (.int 1)) (AB (aC (.int 1)) (AB (aC (.int 2)) AM)))))) (AN 2 At (AB (aV 0) (AB (aC (.int 4)) AM)))) AM))) (An 2))
   Op)
def EZ:AF:=Ar 7 Mo
def Sd {a b:PV}{Q:PV->Prop}(h:Mo ⟨λ_=>Q .non,Q,λ_=>False,λ_=>False⟩ [some (.val a),some (.val b),none,none,none,none,none]):EZ [a,b] Q:=h
abbrev Lz:AS:=
 (Ae (Ao (AW UE (AW b6 (aV 2) (AW RO (AW Ba (aV 7) (AW BV (aC (.int 7)) (aV 6))) (aC (.int 26)))) (AW Ba (aC (.int 1)) (AW BV (AW RO (aV 6) (aC (.int 2))) (aV 8)))) (An 9))
   (C3 5 gu (AB (AN 2 At (AB (aV 0) (AB (AW Ba (aV 6) (aC (.int 1))) AM))) (AB (AW UD (AW UD (gF (aV 3) bR (bS (aV 4))) (aV 9)) (gF (aV 3) (bS (aV 4)) bR)) AM))))
abbrev L6:AS:=
 (Ae (CA (A6 (AW Lh (AN 2 At (AB (aV 0) (AB (aC (.int 8)) AM))) (aC (.int 0)))) (ZE 5 (AN 2 At (AB (aV 0) (AB (aV 1) AM))) (AW Ah (IL (EA (AB (aC (.str "lost")) (AB (aC (.str "none")) (AB (aC (.str "wait")) AM))))) (AN 2 At (AB (aV 0) (AB (aC (.int 3)) AM))))) BO)
   (As (aV 5)))
abbrev L5:AS:=
 (Ae (Df (Jf (AB (aV 1) AM)) (An 6) Lz)
   L6)
abbrev L4:AS:=
 (Ae (GK (EA AM) 5)
   L5)
abbrev L3:AS:=
 (Ae (ML 7 8 (AB (AN 2 At (AB (aV 0) (AB (aC (.int 26)) AM))) (AB (AN 2 At (AB (aV 0) (AB (aC (.int 2)) AM))) AM)))
   L4)
abbrev L1:AS:=
 (Ae (Ao (AN 2 At (AB (aV 0) (AB (AW Ba (HI Xv (AB (aV 3) AM)) (aC (.int 1))) AM))) (An 4))
   L3)
abbrev L0:AS:=
 (Ae (Ao (AW UE (AW b6 (aV 2) (AN 2 At (AB (aV 0) (AB (aC (.int 26)) AM)))) (AN 2 At (AB (aV 0) (AB (aC (.int 7)) AM)))) (An 3))
   L1)
abbrev JJ:AS:=
 (Ae (Ao (aC (.str "abcdefghijklmnopqrstuvwxyz")) (An 2))
   L0)
def DZ:AF:=Ar 10 JJ
def OE {a b:PV}{Q:PV->Prop}(h:JJ ⟨λ_=>Q .non,Q,λ_=>False,λ_=>False⟩ [some (.val a),some (.val b),none,none,none,none,none,none,none,none]):DZ [a,b] Q:=h
instance{s:Str}{k:Int}{Q:PV->Prop}:Wp (UE (.str s) (.int k) Q) ((0<=k/\k<=10/\s.length<=10/\Ex s)/\∀c,Ex c->c.length<=100->Q (.str c)):=⟨id⟩
instance{s t:Str}{Q:PV->Prop}:Wp (UD (.str s) (.str t) Q) ((s.length+t.length<=10000/\Ex s/\Ex t)/\∀c,Ex c->c.length=s.length+t.length->Q (.str c)):=⟨id⟩
instance{s:Str}{i:Int}{Q:PV->Prop}:Wp (b6 (.str s) (.int i) Q) ((0<=i/\i<s.length/\s.length<=1000/\Ex s)/\∀c,Ex c->c.length=1->Q (.str c)):=⟨id⟩
instance{s:Str}{lo hi:kf Int}{Q:PV->Prop}:Wp (gP (.str s) lo hi Q) ((s.length<=10000/\Ex s)/\∀c,Ex c->c.length<=s.length->Q (.str c)):=⟨id⟩
instance{a:AE}{l h:AO}{τ:BE}{Q:PV->Prop}:Wp (gF a l h τ Q) (a τ λx=>l τ λlo=>h τ λhi=>gP x lo hi Q):=⟨id⟩
instance{s:Str}{Q:PV->Prop}:Wp (Xv [.str s] Q) (s.length<=10000/\Q (.int s.length)):=⟨id⟩
def WY:Ex "abcdefghijklmnopqrstuvwxyz" :=by unfold Ex;decide +kernel
def Uc:Str.length "abcdefghijklmnopqrstuvwxyz" =26:=by decide +kernel
def lO (x:Int):0<=x.fmod 26/\x.fmod 26<26:=⟨AEz x (by decide),AE0 x (by decide)⟩
def jx (s:Str):PV:= .str s
def c4 {n:Int}(T:1<=n)(U:n<=12){Q:PV->Prop}(q:∀ns:kn Str,(ns.length:Int)=n->(∀s∈ns,Ex s)->Q (.lst (ns.map jx))):DZ [.tape, .int n] Q:=by
 have L:=WY;have W:=Uc;apply OE;ac_rfl;generalize ("abcdefghijklmnopqrstuvwxyz" :Str)=ab at *;ac_rfl;rename_i X D E Y F A Z G H st B t at_ I xh f J K a M uI;refine EM (λi τ=>∃(ns:kn Str) (b c:kf AV),ns.length=i/\(∀s∈ns,Ex s)/\τ= [some (.val .tape),some (.val (.int n)),some (.val (.str ab)),some (.val (.str st)),some (.val (.int at_)),some (.own (ns.map jx)),b,some (.val (.int f)),some (.val (.int a)),c]) ?_ ?_ ⟨[],_,_,rfl,by simp,rfl⟩
 .rintro τ ⟨ns,b,c,h1,h2,rfl⟩;have nl:(ns.length:Int)=n:=by omega
  ac_rfl
  .rename_i r1 N O e r P u;refine Gi P u λx hx=> ?_;obtain⟨w,rfl,v⟩:∃w:Str,x= .str w/\Ex w:=by simp only[AAI,AAp,AAq] at hx;rcases hx with rfl|rfl|rfl <;> exact⟨_,rfl,by unfold Ex;decide +kernel⟩
   ac_rfl;rename_i j j0 j1;refine N7 j.toNat ?_ ?_
   .rw [AAK];exact(by unfold Rl;rw[AAE (by omega)];simp;omega)
   .ac_rfl;have:=q (ns.set j.toNat w) (by simpa using nl) (λs hs=>by
     rcases List.mem_or_eq_of_mem_set hs with h|h
     .exact h2 s h
     .rw [h];exact v)
    rw[List.map_set] at this;exact this
  .exact q ns nl h2
 .rintro i hi τ R C ⟨ns,b,c,h1,h2,rfl⟩;have z:∀(s:Str) (k:Nat) b c,Ex s->R [some (.val .tape),some (.val (.int n)),some (.val (.str ab)),some (.val (.str st)),some (.val (.int at_)),some (.own ((ns.map jx).take k++jx s::(ns.map jx).drop k)),b,some (.val (.int f)),some (.val (.int a)),c] :=λs k b c o=>C _ ⟨ns.take k++s::ns.drop k,b,c,by simp;omega,λx hx=>by
   rcases AAL.mp hx with h|h
   .exact h2 x (List.mem_of_mem_take h)
   .rcases AAI.mp h with rfl|h
    .exact o
    .exact h2 x (List.mem_of_mem_drop h),by simp⟩
  have S:=lO (f+7*(0+(i:Int)));have f2:0<=(0+(i:Int)).fmod 2/\(0+(i:Int)).fmod 2<2:=⟨AEz _ (by decide),AE0 _ (by decide)⟩;clear C;ac_rfl;refine⟨MulOk.of (m:=3) (n:=10) (by decide) (by omega), ?_⟩;ac_rfl;generalize (f+7*(0+(i:Int))).fmod 26=d at *;generalize hg:(0+(i:Int)).fmod 2=g at *;have gt:(g*a).natAbs<=1/\0<=g*a:=by
   have l:g=0\/g=1:=by omega
   have p:a=0\/a=1:=by omega
   rcases l with l|l <;> rcases p with p|p <;> rw[l,p] <;> decide
  ac_rfl;refine⟨MulOk.of (m:=3) (n:=3) (by omega) (by omega), ?_⟩;generalize g*a=y at *;ac_rfl;exact z _ _ _ _ (by assumption)
abbrev GP:AS:=
 (Ae (Ao (AW Ah (IL (EA (AB (aC (.int 5)) (AB (aC (.int 0)) (AB (aC (.int 9)) (AB (aC (.int 5)) (AB (aC (.int 3)) AM))))))) (AN 2 At (AB (aV 7) (AB (aC (.int 5)) AM)))) (An 8))
   (C3 2 FA (AB (Ak (AB (aV 6) (AB (aV 8) (AB (Ak (AB (AN 2 EZ (AB (aV 7) (AB (aV 4) AM))) (AB (AN 1 C9 (AB (aV 7) AM)) AM))) AM)))) AM)))
abbrev JL:AS:=
 (Ae (Ao (AN 2 GZ (AB (aV 0) (AB (AW Ba (aC (.int 2)) (aV 5)) AM))) (An 7))
   GP)
abbrev JQ:AS:=
 (Ae (Df (qL (AB (AN 2 DZ (AB (aV 1) (AB (aV 3) AM))) AM)) (Hm 2 (Ag (An 5) (Ag (An 6) Bf))) JL)
   (As (HI Di (AB (aV 2) AM))))
abbrev Eo:AS:=
 (Ae (GK (EA AM) 2)
   JQ)
abbrev JP:AS:=
 (Ae (CA (A6 (AW Lh (AN 2 At (AB (aV 1) (AB (aC (.int 8)) AM))) (aC (.int 0)))) (ML 3 4 (AB (AW Ba (aC (.int 7)) (AN 2 At (AB (aV 1) (AB (aC (.int 4)) AM)))) (AB (aC (.int 90)) AM))) BO)
   Eo)
abbrev JO:AS:=
 (Ae (ML 3 4 (AB (AW Ba (aC (.int 2)) (AN 2 At (AB (aV 1) (AB (aC (.int 3)) AM)))) (AB (aC (.int 5)) AM)))
   JP)
abbrev GO:AS:=
 (Ae (Ao (AN 2 GZ (AB (aV 0) (AB (aC (.int 0)) AM))) (An 1))
   JO)
def Ce:AF:=Ar 9 GO
def LC {a:PV}{Q:PV->Prop}(h:GO ⟨λ_=>Q .non,Q,λ_=>False,λ_=>False⟩ [some (.val a),none,none,none,none,none,none,none,none]):Ce [a] Q:=h
abbrev Kb:AS:=
 (Ae (ZE 8 (PC Gg (aC (.int 1))) (gC (AW Ba (gE (AW Ah (aV 1) (PC Gg (aC (.int 1)))) bR (bS (aC (.int 2)))) (Ak (AB (Ak (AB (HI Di (AB (aV 6) AM)) (AB (aV 7) AM))) AM)))))
   (As (HI Di (AB (aV 8) AM))))
abbrev Ly:AS:=
 (Ae (ZE 8 (aC (.int 0)) (AW Ba (gE (AW Ah (aV 1) (aC (.int 0))) bR (bS (aC (.int 2)))) (Ak (AB (Ak (AB (aV 3) (AB (aV 7) AM))) AM))))
   Kb)
abbrev Lx:AS:=
 (Ae (GK (bO (AB (aV 1) AM)) 8)
   Ly)
abbrev Lw:AS:=
 (Ae (Ao (Ak (AB (Ak (AB (aC (.int 0)) (AB (aC (.int 1)) AM))) (AB (Ak (AB (aC (.int 0)) (AB (aC (.int 1)) AM))) (AB (Ak (AB (aC (.int 0)) (AB (aC (.int 1)) AM))) AM)))) (An 7))
   Lx)
abbrev Lv:AS:=
 (Ae (Df (kz (aV 3) (aV 3)) (Hm 2 (Ag (An 9) (Ag (An 10) Bf))) (CA (A6 (AW Lh (aV 4) (aC (.int 0)))) (C3 6 FA (AB (AW Ba (Ak (AB (AN 2 Bi (AB (AW Ah (aV 9) (aC (.int 0))) (AB (aV 5) AM))) AM)) (gE (aV 10) (bS (aC (.int 1))) bR)) AM)) (C3 6 FA (AB (AW Ba (AW Ba (gE (aV 9) bR (bS (aV 4))) (Ak (AB (AN 2 Bi (AB (AW Ah (aV 9) (aV 4)) (AB (aV 5) AM))) AM))) (gE (aV 9) (bS (AW Ba (aV 4) (aC (.int 1)))) bR)) AM))))
   Lw)
abbrev Lu:AS:=
 (Ae (GK (EA AM) 6)
   Lv)
abbrev Ls:AS:=
 (Ae (Ao (AN 2 Bi (AB (aV 5) (AB (AW Ah (IL (EA (AB (Ak (AB (aC (.int 0)) (AB (aC (.int 1)) AM))) (AB (Ak (AB (PC Gg (aC (.int 1))) (AB (AW lM (aC (.int 10)) (aC (.int 18))) AM))) (AB (Ak (AB (aC (.int 1)) (AB (AW lM (aC (.int 10)) (aC (.int 18))) AM))) AM))))) (AN 2 At (AB (aV 0) (AB (aC (.int 3)) AM)))) AM))) (An 5))
   Lu)
abbrev Lr:AS:=
 (Ae (Ao (AW Ah (IL (EA (AB (AN 2 BK (AB (AW Ah (AW Ah (aV 3) (PC Gg (aC (.int 1)))) (aC (.int 0))) (AB (AW Ah (AW Ah (aV 3) (aC (.int 0))) (aC (.int 0))) AM))) (AB (AW Ah (aV 2) (aC (.int 0))) (AB (AW Ah (aV 2) (aC (.int 0))) (AB (AW Ah (aV 2) (aC (.int 1))) AM)))))) (aV 4)) (An 5))
   Ls)
abbrev Lq:AS:=
 (Ae (Ao (AN 2 At (AB (aV 0) (AB (aC (.int 4)) AM))) (An 4))
   Lr)
abbrev Lp:AS:=
 (Ae (Ao (AW Ah (AW Ah (AW Ah (aV 1) (aC (.int 0))) (aC (.int 2))) (aC (.int 0))) (An 3))
   Lq)
abbrev JI:AS:=
 (Ae (CA (A6 (AW V9 (AN 2 At (AB (aV 0) (AB (aC (.int 4)) AM))) (aC (.int 0)))) (As (aV 1)) BO)
   Lp)
def DY:AF:=Ar 11 JI
def OD {a b c:PV}{Q:PV->Prop}(h:JI ⟨λ_=>Q .non,Q,λ_=>False,λ_=>False⟩ [some (.val a),some (.val b),some (.val c),none,none,none,none,none,none,none,none]):DY [a,b,c] Q:=h
abbrev FH (F:AF):AS:=
 (Ae (CA (Ef (A6 (HI WF (AB (aV 0) (AB (aC (.ty "tuple")) AM)))) (NU (Ef (A6 (AW Lh (HI MM (AB (aV 0) AM)) (aC (.int 2)))) (A6 (HI (WE λbs=>bs.all id) (AB (IL (Cm (Le (aV 0)) 1 [] (An 0) Gb (HI WF (AB (aV 0) (AB (aC (.ty "int")) AM))))) AM)))))) (As (IL (Cm (Le (aV 0)) 1 [] (An 0) Gb (AN 1 F (AB (aV 0) AM))))) BO)
   (As (aV 0)))
def AZ:Nat->AF
 | 0=>λ_ _=>False
 | n+1=>Ar 1 (FH (AZ n))
def A1 {m:Nat}{a:PV}{Q:PV->Prop}(h:FH (AZ m) ⟨λ_=>Q .non,Q,λ_=>False,λ_=>False⟩ [some (.val a)]):AZ (m+1) [a] Q:=h
abbrev JR:AS:=
 (Ae (Ao (AW Ah (IL (EA (AB (aC .non) (AB (aC (.str "lost")) (AB (Ak (AB (aC (.str "wait")) (AB (Ak (AB (aC (.int 1)) (AB (aC (.int 2)) AM))) AM))) (AB (aC .non) (AB (Ak (AB (aC (.str "up")) (AB (Ak (AB (aC (.int 3)) (AB (aC (.int 1)) AM))) AM))) (AB (aC .non) AM)))))))) (AN 2 At (AB (aV 2) (AB (aC (.int 6)) AM)))) (An 7))
   (C3 3 FA (AB (Ak (AB (aV 4) (AB (aV 7) (AB (aV 6) AM)))) AM)))
abbrev JT:AS:=
 (Ae (Df (Le (aV 1)) (Hm 3 (Ag (An 4) (Ag (An 5) (Ag (An 6) Bf)))) JR)
   (As (HI Di (AB (aV 3) AM))))
abbrev JS:AS:=
 (Ae (GK (EA AM) 3)
   JT)
abbrev GS:AS:=
 (Ae (Ao (AN 2 GZ (AB (aV 0) (AB (aC (.int 1)) AM))) (An 2))
   JS)
def Cf:AF:=Ar 8 GS
def LD {a b:PV}{Q:PV->Prop}(h:GS ⟨λ_=>Q .non,Q,λ_=>False,λ_=>False⟩ [some (.val a),some (.val b),none,none,none,none,none,none]):Cf [a,b] Q:=h
abbrev Ka:AS:=
 (Ae (ML 4 5 (AB (AW Ah (aV 0) (aV 3)) (AB (AW Ah (aV 0) (aV 2)) AM)))
   (CA (Ef (A6 (AW gO (AW Ah (aV 4) (aC (.int 1))) (aC (.str "lost")))) (Ef (A6 (AW gO (AW Ah (aV 5) (aC (.int 1))) (aC (.str "lost")))) (A6 (AN 3 CQ (AB (AW Ah (aV 4) (aC (.int 2))) (AB (AW Ah (aV 5) (aC (.int 2))) (AB (aV 1) AM))))))) (As (Ak (AB (aV 3) (AB (aV 2) AM)))) BO))
abbrev Hg:AS:=
 (Ae (Df (Jf (AB (HI MM (AB (aV 0) AM)) AM)) (An 2) (Df (Jf (AB (aV 2) AM)) (An 3) Ka))
   (As (aC .non)))
def DA:AF:=Ar 6 Hg
def MV {a b:PV}{Q:PV->Prop}(h:Hg ⟨λ_=>Q .non,Q,λ_=>False,λ_=>False⟩ [some (.val a),some (.val b),none,none,none,none]):DA [a,b] Q:=h
abbrev IC:AS:=
 (Ae (CA (A6 (AW PR (aV 4) (aC .non))) (As (AW PR (aV 3) (aC .non))) BO)
   (As (Vt (HI WF (AB (aV 3) (AB (aC (.ty "tuple")) AM))) (Vt (AW Lh (aV 3) (aV 4)) (PC b9 (HI (WE λbs=>bs.any id) (AB (IL (Cm (Le (aV 3)) 1 [] (An 0) Gb (HI WF (AB (aV 0) (AB (aC (.ty "bool")) AM))))) AM)))))))
abbrev IB:AS:=
 (Ae (Ao (AN 2 DA (AB (aV 0) (AB (aV 1) AM))) (An 4))
   IC)
abbrev F3:AS:=
 (Ae (Ao (AN 2 Bx (AB (aV 2) (AB (aV 1) AM))) (An 3))
   IB)
def Br:AF:=Ar 5 F3
def J7 {a b c:PV}{Q:PV->Prop}(h:F3 ⟨λ_=>Q .non,Q,λ_=>False,λ_=>False⟩ [some (.val a),some (.val b),some (.val c),none,none]):Br [a,b,c] Q:=h
abbrev Qx:AS:=
 (Ae (Ao (HI Di (AB (IL (Cm (Le (aV 4)) 1 [] (An 0) Gb (Ak (AB (AW Ah (aV 0) (aC (.int 0))) (AB (aC (.str "lost")) (AB (AW Ah (aV 0) (aC (.int 2))) AM)))))) AM)) (An 8))
   (As (AW PR (AN 2 Bx (AB (aV 8) (AB (aV 2) AM))) (aC .non))))
abbrev Qw:AS:=
 (Ae (CA (Vu (NU (A6 (AN 3 Br (AB (aV 7) (AB (aV 2) (AB (aV 7) AM)))))) (A6 (AW Li (AN 2 Bx (AB (Ak AM) (AB (aV 2) AM))) (aC .non)))) (As (aC (.bl false))) BO)
   Qx)
abbrev Qv:AS:=
 (Ae (Ao (bQ (aV 4)) (An 7))
   Qw)
abbrev Qu:AS:=
 (Ae (CA (Vu (NU (A6 (AN 3 Br (AB (aV 4) (AB (aV 2) (AB (aV 6) AM)))))) (A6 (AW gO (aV 5) (AN 1 (AZ 12) (AB (aV 4) AM))))) (As (aC (.bl false))) BO)
   Qv)
abbrev Qt:AS:=
 (Ae (Ao (AW Ah (IL (EA (AB (aV 4) (AB (aV 5) AM)))) (AN 2 At (AB (aV 1) (AB (aC (.int 2)) AM)))) (An 6))
   Qu)
abbrev Qs:AS:=
 (Ae (Ao (AN 1 (AZ 12) (AB (aV 4) AM)) (An 5))
   Qt)
abbrev Qr:AS:=
 (Ae (Ao (AN 2 Cf (AB (aV 0) (AB (aV 3) AM))) (An 4))
   Qs)
abbrev Qq:AS:=
 (Ae (Ao (AN 3 DY (AB (aV 1) (AB (AN 1 Ce (AB (aV 0) AM)) (AB (aV 2) AM)))) (An 3))
   Qr)
abbrev Qp:AS:=
 (Ae (Ao (AN 1 F__law_apart (AB (aV 1) AM)) (An 2))
   Qq)
abbrev Pu:AS:=
 (Ae (Ao (AN 2 GZ (AB (aV 0) (AB (aC (.int 2)) AM))) (An 1))
   Qp)
def EW:AF:=Ar 9 Pu
def VC {a:PV}{Q:PV->Prop}(h:Pu ⟨λ_=>Q .non,Q,λ_=>False,λ_=>False⟩ [some (.val a),none,none,none,none,none,none,none,none]):EW [a] Q:=h
def Jy {n:Int}{N:Nat}(h:n.natAbs*6<=N):Mul 6 N (n:Rat):= .mk' (by decide) (k:=n*6) (by rw[AAQ];rfl) (by omega)
def mM {j:Int}(T:1<=j)(h1:j<=90){Q:PV->Prop}(q:∀cs,Tj 9 6 600 cs->Q (FZ cs)):EZ [.tape, .int j] Q:=by
 apply Sd;ac_rfl;rename_i a U W k k0 J;refine Gi k0 J λx hx=> ?_;obtain⟨m,rfl,m1,m2⟩:∃m:Int,x= .int m/\1<=m/\m<=2:=by simp only[AAI,AAp,AAq] at hx;rcases hx with rfl|rfl|rfl|rfl;all_goals exact⟨_,rfl,by omega,by omega⟩
 ac_rfl;refine B4 _ _ (by omega) (AAX (show _<2^6 by omega) (ACs (by decide) (by decide))) (AAX (show _<2^5 by omega) (ACs (by decide) (by decide))) ?_;have C:Mul 6 144 (Rat.divInt a m):=by
  have:m=1\/m=2:=by omega
  rcases this with rfl|rfl
  .exact .mk' (by decide) (k:=a*6) (by rw[ACg,AAQ];push_cast;grind) (by omega)
  .exact .mk' (by decide) (k:=a*3) (by rw[ACg,AAQ];push_cast;grind) (by omega)
 generalize Rat.divInt a m=t0 at *;ac_rfl;rename_i x X D y K E z Y F n Z n1;have mx:Mul 6 600 (x:Rat):=Jy (by omega);have l:=E.mono (M:=600) (by decide);have g:Mul 6 600 (z:Rat):=Jy (by omega);clear E K;refine EM (λi τ=>∃(cs:kn C4) (t x y z:Rat) (e f:kf AV),cs.length=i/\Mul 6 (144+48*i) t/\Mul 6 600 x/\Mul 6 600 y/\Mul 6 600 z/\(∀c∈cs ++ [(t,x,y,z)],FI 6 600 c)/\TH (cs ++ [(t,x,y,z)])/\τ= [some (.val .tape),some (.val (.int j)),some (.val (fr t)),some (.val (.lst [fr x,fr y,fr z])),some (.own ((cs ++ [(t,x,y,z)]).map cor)),e,f]) ?_ ?_ ⟨[],t0,x,y,z,_,_,rfl,C,mx,l,g,by simp;exact⟨C.mono (by decide),mx,l,g⟩,by simp[TH],rfl⟩
 .rintro τ ⟨cs,t,x,y,z,e,f,h1,_,_,_,_,h2,h3,rfl⟩;ac_rfl;exact q _ ⟨by simp;omega,by simp;omega,h2,h3⟩
 .rintro i hi τ R G ⟨cs,t,x,y,z,e,f,h1,mt,mx,l,g,h2,h3,rfl⟩;have i2:i<2:=by omega
  have bt:Bd 12 t:=mt.bd (by omega) (by decide);have b:∀(u o p d:Rat) e f,Mul 6 48 u->0<u->Mul 6 600 o->Mul 6 600 p->Mul 6 600 d->R [some (.val .tape),some (.val (.int j)),some (.val (fr (t+u))),some (.val (.lst [fr o,fr p,fr d])),some (.own ((cs ++ [(t,x,y,z)]).map cor ++ [cor (t+u,o,p,d)])),e,f] :=λu o p d e f H A m1 m2 m3=>G _ ⟨cs ++ [(t,x,y,z)],t+u,o,p,d,e,f,by simp;omega,(mt.add H).mono (by omega),m1,m2,m3,λc hc=>by
   rcases AAL.mp hc with h|h
   .exact h2 c h
   .rw [AAa.mp h];exact⟨(mt.add H).mono (by omega),m1,m2,m3⟩,dn h3 (by show t<t+u;grind),by simp⟩
  clear G;have lt:((cs ++ [(t,x,y,z)]).map cor).length<sizeLine:=lt_size (n:=20) (by simp;omega) (by decide);have I:∀r:Int,0<=r.fmod 2/\r.fmod 2<2:=λr=>⟨AEz _ (by decide),AE0 _ (by decide)⟩;repeat' (first | refine MG λu L A B=> ?_|array_mem_dec)
  .rename_i u L A B w w0 w1 hw D N O F P S;have m1:Mul 6 600 (D:Rat):=Jy (by omega);have m3:Mul 6 600 (F:Rat):=Jy (by omega);refine Gi (I w).1 (by show _<(2:Int);exact(I w).2) λv hv=> ?_;obtain⟨d,rfl,s⟩:∃d:Rat,v=fr d/\Mul 6 600 d:=by
    simp only[AAI,AAp,AAq] at hv;rcases hv with rfl|rfl
    .exact ⟨_,rfl,g⟩
    .exact ⟨_,rfl,m3⟩
   ac_rfl
   .exact b u _ _ _ _ _ B A m1 ((by assumption:Mul 6 60 _).mono (by decide)) s
   .exact b u _ _ _ _ _ B A m1 l s
  .exact b _ _ _ _ _ _ (by assumption) (by assumption) mx ((by assumption:Mul 6 60 _).mono (by decide)) g
  .exact b _ _ _ _ _ _ (by assumption) (by assumption) mx l g
structure Fl where
 nm:Str
 cs:List C4
 b:T3
def DX (x:Fl×Int):PV:= .tup [.str x.1.nm, .int x.2,Dg x.1.cs x.1.b]
structure kK (f:Fl):Prop where
 nm:Ex f.nm
 pl:Tj 9 6 600 f.cs
 bn:p7 f.b
def iq {ns:kn Int}{n u:Int}{X Y Z:BE->Prop}{Q:PV->Prop}{B c d i j:kf AV}(K:2<=n)(C:n<=12)(D:1<=u)(h1:u<=90)(L:ns.length<=63)(q:∀a:kn (Fl×Int),2<=a.length->a.length<=12->(∀f∈a,kK f.1)->Q (.tup (a.map DX))):Eo {nx:=X,rt:=Q,bk:=Y,ct:=Z} [some (.val (.scr ns)),some (.val .tape),B,some (.val (.int n)),some (.val (.int u)),c,d,i,j] :=by
 ac_rfl;refine c4 (by omega) C λp nl E=> ?_;ac_rfl;show DE _ _ _ (B0 0 (p.map jx)) _;refine Js (λz τ=>∃(s l:kn Str) (a:kn (Fl×Int)) (c d i j:kf AV),s++l=p/\z=B0 s.length (l.map jx)/\a.length=s.length/\(∀f∈a,kK f.1)/\τ= [some (.val (.scr ns)),some (.val .tape),some (.own (a.map DX)),some (.val (.int n)),some (.val (.int u)),c,d,i,j]) ?_ ?_ _ _ ⟨[],p, [],_,_,_,_,rfl,rfl,rfl,by simp,rfl⟩
 .rintro τ ⟨s,l,a,c,d,i,j,e,t,hl,ok,rfl⟩;cases l with
  | cons w l=>rw[AAM,B0] at t;cases t
  | nil=> rw[AC2] at e;subst e;ac_rfl;exact q a (by omega) (by omega) ok
 .rintro x z τ R A ⟨s,l,a,c,d,i,j,e,t,hl,ok,rfl⟩;cases l with
  | nil=>simp[B0] at t
  | cons w l=>
    rw[AAM,B0] at t;cases t;have v:=E w (by rw[<-e];simp);have ul:s.length<12:=by have:=congrArg List.length e;simp at this;omega
    have y:∀(f:Fl) (k:Int) c d i j,kK f->R [some (.val (.scr ns)),some (.val .tape),some (.own (a.map DX ++ [DX (f,k)])),some (.val (.int n)),some (.val (.int u)),c,d,i,j] :=λf k c d i j o=>A _ ⟨s ++ [w],l,a ++ [(f,k)],c,d,i,j,by rw[<-e];simp,by simp,by simp[hl],λg F=>by
     rcases AAL.mp F with h|h
     .exact ok g h
     .rw [AAa.mp h];exact o,by simp⟩
    clear A;have M:(a.map DX).length<sizeLine:=lt_size (n:=20) (by rw[AAK];omega) (by decide);rw[show jx w= .str w from rfl];ac_rfl;rename_i r G H;refine Gi G H λx hx=> ?_;obtain⟨m,rfl⟩:∃m:Int,x= .int m:=by simp only[AAI,AAp,AAq] at hx;rcases hx with rfl|rfl|rfl|rfl|rfl;all_goals exact⟨_,rfl⟩
    ac_rfl;refine mM D h1 λcs I=> ?_;ac_rfl;refine bZ λb J=> ?_;ac_rfl;exact y ⟨w,cs,b⟩ m _ _ _ _ ⟨v,I,J⟩
def ik {ns:kn Int}(b:ns.length<=63){Q:PV->Prop}(q:∀a:kn (Fl×Int),2<=a.length->a.length<=12->(∀f∈a,kK f.1)->Q (.tup (a.map DX))):Ce [.scr ns] Q:=by apply LC;repeat' (first | exact iq (by omega) (by omega) (by decide) (by decide) b q|array_mem_dec)
abbrev DD:Nat:=6*10^18
abbrev NN:Nat:=2000*10^18
structure fj (f:Fl):Prop where
 nm:Ex f.nm
 pl:Tj 10 DD NN f.cs
 bn:p7 f.b
def TD {N:Nat}{x:Rat}(h:Mul 6 N x):Mul DD (N*10^18) x:=h.upc (c:=10^18) (by decide)
def FI.up {c:C4}(h:FI 6 600 c):FI DD (600*10^18) c:=⟨TD h.m,TD h.x,TD h.y,TD h.z⟩
def kK.up {f:Fl}(h:kK f):fj f:=⟨h.nm,⟨h.pl.two,by have:=h.pl.few;omega,λc hc=>(FI.up (h.pl.mu c hc)).mono (by decide),h.pl.ris⟩,h.bn⟩
def mZ (s:Int)(y:Rat)(c:C4):C4:=if s=1 then (c.1,c.2.1+y,c.2.2.1,c.2.2.2) else if s=2 then (c.1,c.2.1,c.2.2.1+y,c.2.2.2) else (c.1,c.2.1,c.2.2.1,c.2.2.2+y)
def Tp (s:Int)(y:Rat)(p:C4×C4):C4:=if s=0 then (p.1.1+y,p.2.2) else mZ s y p.1
def jd (cs ds:kn C4):Fe (cs.map cor) (ds.map cor)=(cs.zip ds).map λp=> .tup [cor p.1,cor p.2] :=by unfold Fe;rw[List.zip,List.map_zipWith,List.zipWith_map]
def bV {cs:kn C4}{s:Int}{y:Rat}(p:Tj 9 6 600 cs)(e:Mul DD (1300*10^18) y):Tj 10 DD NN ((cs.zip cs.reverse).map (Tp s y)):=by
 have i:(cs.zip cs.reverse).length=cs.length:=by simp
 have g:(cs.zip cs.reverse).map Prod.fst=cs:=List.map_fst_zip (by simp);refine⟨by rw[AAK,i];exact p.two,by rw[AAK,i];have:=p.few;omega,λc hc=> ?_, ?_⟩
 .obtain ⟨x,hx,rfl⟩:=AAH.mp hc;have h1:=FI.up (p.mu x.1 (ACX hx).1);have h2:=FI.up (p.mu x.2 (AE1.mp (ACX hx).2));have d:600*10^18<=NN:=by decide
  have f:600*10^18+1300*10^18<=NN:=by decide
  unfold Tp mZ;split
  .exact ⟨(h1.m.add e).mono f,h2.x.mono d,h2.y.mono d,h2.z.mono d⟩
  .split
   .exact ⟨h1.m.mono d,(h1.x.add e).mono f,h1.y.mono d,h1.z.mono d⟩
   .split
    .exact ⟨h1.m.mono d,h1.x.mono d,(h1.y.add e).mono f,h1.z.mono d⟩
    .exact ⟨h1.m.mono d,h1.x.mono d,h1.y.mono d,(h1.z.add e).mono f⟩
 .unfold TH;rw[AEv];have r:((cs.zip cs.reverse).map Prod.fst).Pairwise λa b=>a.1<b.1:=by rw[g];exact p.ris
  rw[AEv] at r;refine r.imp λ{a b} h=> ?_;unfold Tp mZ;by_cases z:s=0
  .rw [AAE z,AAE z];show a.1.1+y<b.1.1+y;grind
  .rw [AAD z,AAD z];split
   .exact h
   .split <;> exact h
def mO (k:Int)(a:0<=k)(h1:k<3){R:PV->Prop}(r:∀y:Rat,Bd 62 y->Mul DD (10^18) y->R (fr y)):Ah (.lst [.tup [.int 0, .int 1], .tup [.int (-1), .int (10^18)], .tup [.int 1, .int (10^18)]]) (.int k) R:=by
 refine Gi a h1 λx hx=> ?_;simp only[AAI,AAp,AAq] at hx;rcases hx with rfl|rfl|rfl
 .exact r 0 (qN.mono (by decide)) (.mk' (by decide) (k:=0) (by decide +kernel) (by decide))
 .have:=r (-1/10^18) ⟨by decide +kernel,by decide +kernel⟩ (.mk' (by decide) (k:= -6) (by decide +kernel) (by decide));unfold fr at this;rw[show ((-1/10^18:Rat)).num= -1 by decide +kernel,show ((-1/10^18:Rat)).den=10^18 by decide +kernel] at this;exact this
 .have:=r (1/10^18) ⟨by decide +kernel,by decide +kernel⟩ (.mk' (by decide) (k:=6) (by decide +kernel) (by decide));unfold fr at this;rw[show ((1/10^18:Rat)).num=1 by decide +kernel,show ((1/10^18:Rat)).den=10^18 by decide +kernel] at this;exact this
instance{c:C4}{Q:PV->Prop}:Wp (UF (cor c) none (some 1) Q) (Q (.tup [fr c.1])):=⟨λh=>E2 h⟩
instance{c:C4}{Q:PV->Prop}:Wp (UF (cor c) none (some 2) Q) (Q (.tup [fr c.1,fr c.2.1])):=⟨λh=>E2 h⟩
instance{c:C4}{Q:PV->Prop}:Wp (UF (cor c) none (some 3) Q) (Q (.tup [fr c.1,fr c.2.1,fr c.2.2.1])):=⟨λh=>E2 h⟩
instance{c:C4}{Q:PV->Prop}:Wp (UF (cor c) (some (1+1)) none Q) (Q (.tup [fr c.2.2.1,fr c.2.2.2])):=⟨λh=>E2 h⟩
instance{c:C4}{Q:PV->Prop}:Wp (UF (cor c) (some (2+1)) none Q) (Q (.tup [fr c.2.2.2])):=⟨λh=>E2 h⟩
instance{c:C4}{Q:PV->Prop}:Wp (UF (cor c) (some (3+1)) none Q) (Q (.tup [])):=⟨λh=>E2 h⟩
instance{x y z:PV}{Q:PV->Prop}:Wp (UF (.tup [x,y,z]) none (some 2) Q) (Q (.tup [x,y])):=⟨λh=>E2 h⟩
theorem Ug:∀cs:kn C4,Wk (cs.map cor)=true
 | [] =>rfl
 | c::cs=>by rw[AAM,Wk,show c5 (cor c)=true from rfl,Ug cs];rfl
def jv {x:PV}{xs:kn PV}{R:PV->Prop}(h:R x):Ah (.tup (x::xs)) (.int 0) R:=by show Z7 (HY (x::xs) ((0:Nat):Int)) R;rw[CB (show (x::xs)[0]? =some x from rfl)];exact h
def mE {x:PV}{xs:kn PV}{R:PV->Prop}(h:R x):Ah (.tup (xs ++ [x])) (.int (-1)) R:=by show Z7 (HY (xs ++ [x]) (-1)) R;rw[bU];exact h
def bu {j:kn (Fl×Int)}{d:Rat×Rat}(E:2<=j.length)(A:j.length<=12)(ok:∀f∈j,kK f.1)(hd:kE d){Q:PV->Prop}(q:∀C:kn (Fl×Int),C.length<=12->2<=C.length->(∀g∈C,fj g.1)->Q (.tup (C.map DX))):DY [.tape, .tup (j.map DX), .tup [fr d.1,fr d.2]] Q:=by
 cases j with
 | nil=>simp at E
 | cons f j=>
   have F:=ok f (by simp);have z:=F.pl;have G:=z.two;obtain⟨a,r,l,o,h0,H⟩:=open2 G;have D:∀c∈f.1.cs,F6 10 c:=λc hc=>(z.mu c hc).bd (by decide) (by decide);have K:=hd.b1;have b2:=hd.b2;have L:∀{R:PV->Prop},R (.tup [.str f.1.nm, .int f.2,Dg f.1.cs f.1.b])->Ah (.tup ((f::j).map DX)) (.int 0) R:=λh=>jv h;have ba:=(D a (by rw[o];simp)).m;have T:=(D l (by rw[o];exact AEo H)).m;have U:=(z.mu a (by rw[o];simp)).m;have W:=(z.mu l (by rw[o];exact AEo H)).m;have X:f.1.cs.getLast?=some l:=by rw[o];exact H
   have M:∀{R:PV->Prop},R (cor a)->Ah (FZ f.1.cs) (.int 0) R:=λh=>by rw[o];exact jv h
   apply OD;repeat' (first | with_reducible apply L|with_reducible apply M|array_mem_dec)
   .exact q (f::j) A E λg Y=>(ok g Y).up
   rename_i t N O;refine Gi N O λx hx=> ?_;obtain⟨w,rfl,Z,mw⟩:∃w:Rat,x=fr w/\Bd 22 w/\Mul DD (1200*10^18) w:=by
    simp only[AAI,AAp,AAq] at hx;rcases hx with rfl|rfl|rfl|rfl
    .exact ⟨_,rfl,(T.sub ba).mono (by decide),TD ((Mul.sub W U).mono (by decide))⟩
    .exact ⟨_,rfl,K.mono (by decide),(TD hd.m1).mono (by decide)⟩
    .exact ⟨_,rfl,K.mono (by decide),(TD hd.m1).mono (by decide)⟩
    .exact ⟨_,rfl,b2.mono (by decide),(TD hd.m2).mono (by decide)⟩
   clear hx;ac_rfl;rename_i k k0 k1;refine mO k k0 k1 λy I my=> ?_;have bz:Bd 90 (w+y):=(Z.add I).mono (by decide);have mz:Mul DD (1300*10^18) (w+y):=(mw.add my).mono (by decide);clear M;ac_rfl;generalize w+y=v at *;rw[show (FZ f.1.cs)= .tup (f.1.cs.map cor) from rfl];ac_rfl;rw[<-List.map_reverse,jd];have zl:(f.1.cs.zip f.1.cs.reverse).length<=9:=by have:=z.few;simp;omega
   have zm:∀p∈f.1.cs.zip f.1.cs.reverse,F6 10 p.1/\F6 10 p.2:=λp hp=>⟨D _ (ACX hp).1,D _ (AE1.mp (ACX hp).2)⟩;refine CZ (λp:C4×C4=> .tup [cor p.1,cor p.2]) (λB vs τ=>∃u i:kf AV,τ= [some (.val .tape),some (.val (.tup ((f::j).map DX))),some (.val (.tup [fr d.1,fr d.2])),some (.val (.tup (f.1.cs.map cor))),some (.val (.int t)),some (.val (fr v)),some (.own ((B.map (Tp t v)).map cor)),none,none,u,i]) ?_ ?_ ⟨_,_,rfl⟩
   .rintro τ ⟨u,i,rfl⟩;have bp:=bV (s:=t) z mz;generalize (f.1.cs.zip f.1.cs.reverse).map (Tp t v)=es at *;obtain⟨init,g,rfl⟩:∃init g,j=init ++ [g] :=⟨j.dropLast,j.getLast (by rintro rfl;simp at E),(AD8 _).symm⟩;have I2:∀{R:PV->Prop},R (.tup [.str g.1.nm, .int g.2,Dg g.1.cs g.1.b])->Ah (.tup ((f::(init ++ [g])).map DX)) (.int (-1)) R:=λh=>by rw[show (f::(init ++ [g])).map DX=(f::init).map DX ++ [DX g] by simp];exact mE h
    repeat' (first | with_reducible apply L|array_mem_dec)
    refine N7 0 (by unfold Rl;rw[AAE (by decide),AAK];simp;omega) ?_;repeat' (first | with_reducible apply I2|array_mem_dec)
    rw[show ((f::(init ++ [g])).map DX).set 0 (.tup [.str f.1.nm, .int f.2, .tup [.tup (f.1.cs.map cor), .tup [fr 0,fr 0,fr 0]]])=(DX (⟨f.1.nm,f.1.cs,(0,0,0)⟩,f.2)::init.map DX) ++ [DX g] by simp[DX,FZ]];refine⟨by simp[c5,Wk,Ug,fr], ?_⟩;ac_rfl;refine N7 (init.length+1) (by unfold Rl;rw[AAD (by decide),AAE (by simp;omega)];simp;omega) ?_;rw[show ((DX (⟨f.1.nm,f.1.cs,(0,0,0)⟩,f.2)::init.map DX) ++ [DX g]).set (init.length+1) (.tup [.str g.1.nm, .int g.2, .tup [.tup (es.map cor), .tup [fr 0,fr 0,fr 0]]])=(((⟨f.1.nm,f.1.cs,(0,0,0)⟩:Fl),f.2)::init ++ [((⟨g.1.nm,es,(0,0,0)⟩:Fl),g.2)]).map DX by simp[DX,FZ]];ac_rfl;have P:p7 (0,0,0):=⟨⟨qN.mono (by decide),qN.mono (by decide),qN.mono (by decide)⟩,by decide,by decide,by decide,Mul.int (n:=0) (by decide) (by decide),Mul.int (n:=0) (by decide) (by decide),Mul.int (n:=0) (by decide) (by decide)⟩;refine q _ (by simp at A ⊢;omega) (by simp) λx hx=> ?_;rcases AAL.mp hx with hx|hx
    .rcases AAI.mp hx with rfl|hx
     .exact ⟨F.nm,F.up.pl,P⟩
     .exact (ok x (by simp[hx])).up
    .rw [AAa.mp hx];exact⟨(ok g (by simp)).nm,bp,P⟩
   .rintro B p vs e τ R S ⟨u,i,rfl⟩;have ul:B.length<9:=by have:=congrArg List.length e;simp at this;simp at zl;omega
    obtain⟨c1,c2⟩:=zm p (by rw[<-e];simp);have t1:=c1.m;have lt:((B.map (Tp t v)).map cor).length<sizeLine:=lt_size (n:=20) (by simp;omega) (by decide);have J:∀u i,R [some (.val .tape),some (.val (.tup ((f::j).map DX))),some (.val (.tup [fr d.1,fr d.2])),some (.val (.tup (f.1.cs.map cor))),some (.val (.int t)),some (.val (fr v)),some (.own ((B.map (Tp t v)).map cor ++ [cor (Tp t v p)])),none,none,u,i] :=λu i=>S _ ⟨u,i,by simp⟩;clear S;have cs:t=0\/t=1\/t=2\/t=3:=by omega
    clear N O;rcases cs with rfl|rfl|rfl|rfl;all_goals
     ac_rfl;exact J _ _
inductive fk where
 | kept
 | lost
 | by (wd:Str) (x:Rat)
def am:fk->PV | .kept=> .non | .lost=> .str "lost" | .by wd x=> .tup [.str wd,fr x]
def gc:fk->PV | .kept=> .non | .lost=> .str "lost" | .by wd x=> .lst [.str wd,fr x]
def EG:fk->kd | .lost=>false|_=>true
structure To where
 f:Fl
 h:fk
def KQ (t:To):PV:= .tup [.str t.f.nm,am t.h,Dg t.f.cs t.f.b]
def gQ (cs:kn C4)(b:T3):PV:= .lst [.lst (cs.map corL), .lst [fr b.1,fr b.2.1,fr b.2.2]]
def fC (t:To):PV:= .lst [.str t.f.nm,gc t.h,gQ t.f.cs t.f.b]
structure Ga (t:To):Prop where
 f:fj t.f
 h:∀wd x,t.h= .by wd x->Ex wd
def jY {ns:kn Int}{j:kn (Fl×Int)}(z:ns.length<=63)(s:j.length<=12)(A:2<=j.length)(ok:∀g∈j,fj g.1){Q:PV->Prop}(q:∀ts:kn To,ts.length<=12->2<=ts.length->(∀t∈ts,Ga t)->Q (.tup (ts.map KQ))):Cf [.scr ns, .tup (j.map DX)] Q:=by
 apply LD;ac_rfl;refine CZ DX (λk vs τ=>∃(ts:kn To) (c d f i:kf AV),ts.length=k.length/\(∀t∈ts,Ga t)/\τ= [some (.val (.scr ns)),some (.val (.tup (j.map DX))),some (.val .tape),some (.own (ts.map KQ)),c,d,f,i]) ?_ ?_ ⟨[],_,_,_,_,rfl,by simp,rfl⟩
 .rintro τ ⟨ts,c,d,f,i,h1,h2,rfl⟩;ac_rfl;exact q ts (by omega) (by omega) h2
 .rintro k g vs e τ R p ⟨ts,c,d,f,i,h1,h2,rfl⟩;have u:=ok g (by rw[<-e];simp);have ul:k.length<12:=by have:=congrArg List.length e;simp at this;omega
  have l:∀(h:fk) c d f i,(∀a x,h= .by a x->Ex a)->R [some (.val (.scr ns)),some (.val (.tup (j.map DX))),some (.val .tape),some (.own (ts.map KQ ++ [.tup [.str g.1.nm,am h,Dg g.1.cs g.1.b]])),c,d,f,i] :=λh c d f i o=>p _ ⟨ts ++ [⟨g.1,h⟩],c,d,f,i,by simp[h1],λt v=>by
   rcases AAL.mp v with h|h
   .exact h2 t h
   .rw [AAa.mp h];exact⟨u,o⟩,by simp[KQ]⟩
  clear p;have B:(ts.map KQ).length<sizeLine:=lt_size (n:=20) (by rw[AAK];omega) (by decide);rw[show DX g= .tup [.str g.1.nm, .int g.2,Dg g.1.cs g.1.b] from rfl];ac_rfl;rename_i r w y;refine Gi w y λx hx=> ?_;obtain⟨h,rfl,o⟩:∃h:fk,x=am h/\∀a x,h= .by a x->Ex a:=by
   simp only[AAI,AAp,AAq] at hx;have m:∀a x,fk.kept= .by a x->Ex a:=λ_ _ h=>by cases h
   rcases hx with rfl|rfl|rfl|rfl|rfl|rfl
   .exact ⟨.kept,rfl,m⟩
   .exact ⟨.lost,rfl,λ_ _ h=>by cases h⟩
   .exact ⟨.by "wait" (1/2),rfl,λ_ _ h=>by cases h;unfold Ex;decide +kernel⟩
   .exact ⟨.kept,rfl,m⟩
   .exact ⟨.by "up" 3,rfl,λ_ _ h=>by cases h;unfold Ex;decide +kernel⟩
   .exact ⟨.kept,rfl,m⟩
  ac_rfl;exact l h _ _ _ _ o
def cr {m:Nat}{r:Rat}{Q:PV->Prop}(q:Q (fr r)):AZ (m+1) [fr r] Q:=by
 apply A1;rw[show fr r=PV.tup [.int r.num, .int r.den] from rfl] at q ⊢;repeat' array_get_dec
 exact q
def Wb {m:Nat}{s:Str}{Q:PV->Prop}(q:Q (.str s)):AZ (m+1) [.str s] Q:=by
 apply A1;repeat' array_get_dec
 exact q
def mW {m:Nat}{Q:PV->Prop}(q:Q .non):AZ (m+1) [.non] Q:=by
 apply A1;repeat' array_get_dec
 exact q
def mT {m:Nat}{c:C4}{Q:PV->Prop}(q:Q (corL c)):AZ (m+2) [cor c] Q:=by
 apply A1;rw[show cor c=PV.tup [fr c.1,fr c.2.1,fr c.2.2.1,fr c.2.2.2] from rfl];repeat' (first | with_reducible apply cr|array_get_dec)
 all_goals exact q
def rJ {m:Nat}{b:T3}{Q:PV->Prop}(q:Q (.lst [fr b.1,fr b.2.1,fr b.2.2])):AZ (m+2) [.tup [fr b.1,fr b.2.1,fr b.2.2]] Q:=by
 apply A1;repeat' (first | with_reducible apply cr|array_get_dec)
 all_goals exact q
def mV {m:Nat}{h:fk}{Q:PV->Prop}(q:Q (gc h)):AZ (m+2) [am h] Q:=by
 cases h with
 | kept=>exact mW q
 | lost=>exact Wb q
 | «by» a x=>
   apply A1;rw[show am (.by a x)= .tup [.str a,fr x] from rfl];repeat' (first | with_reducible apply cr|with_reducible apply Wb|array_get_dec)
   all_goals exact q
def cu {a:Type}{f g:a->PV}{m:Nat}{xs:kn a}(hl:xs.length<=100)(b:∀x∈xs,∃ys,f x= .tup ys)(c:∀x∈xs,∀{Q:PV->Prop},Q (g x)->AZ m [f x] Q){Q:PV->Prop}(q:Q (.lst (xs.map g))):AZ (m+1) [.tup (xs.map f)] Q:=by
 have go:DC (An 0) Gb (AN 1 (AZ m) (AB (aV 0) AM)) [none] (λxs=>Q (PV.lst xs)) (List.map f xs) [] :=by refine HK f g id (λx=>x∈xs) (λx hx R r=> ?_) xs [] (λx hx=>hx) (by simpa using q);ac_rfl;exact c x hx r
 apply A1;ac_rfl
 .rename_i h2;refine HK f PV.bl (λ_=>false) (λx=>x∈xs) (λx hx R r=> ?_) xs [] (λx hx=>hx) ?_
  .obtain ⟨ys,d⟩:=b x hx;rw[d];ac_rfl;exact r
  .rw [ABR,AA7];ac_rfl;refine j9 (Xg (λ_:a=>false) xs) ?_;have:(xs.map λ_=>false).all id=false:=by
    cases xs with
    | nil=>simp at h2
    | cons x xs=>rfl
   rw[this];ac_rfl;exact go
 .exact go
def mU {m:Nat}{cs:kn C4}{b:T3}(hl:cs.length<=60){Q:PV->Prop}(q:Q (gQ cs b)):AZ (m+4) [Dg cs b] Q:=by
 have P:∀{Q:PV->Prop},Q (.lst (cs.map corL))->AZ (m+3) [FZ cs] Q:=λq=>cu (by omega) (λc _=>⟨_,rfl⟩) (λc _ {Q} q=>mT q) q;have T:∀{Q:PV->Prop},Q (.lst [fr b.1,fr b.2.1,fr b.2.2])->AZ (m+3) [.tup [fr b.1,fr b.2.1,fr b.2.2]] Q:=λq=>rJ q;apply A1;rw[show Dg cs b= .tup [.tup (cs.map cor), .tup [fr b.1,fr b.2.1,fr b.2.2]] from rfl]
 change ∀{Q:PV->Prop},Q (.lst (cs.map corL))->AZ (m+3) [.tup (cs.map cor)] Q at P
 repeat' (first | with_reducible apply P|with_reducible apply T|array_get_dec)
 all_goals exact q
def mX {m:Nat}{t:To}(hl:t.f.cs.length<=60){Q:PV->Prop}(q:Q (fC t)):AZ (m+5) [KQ t] Q:=by
 have F:∀{Q:PV->Prop},Q (gQ t.f.cs t.f.b)->AZ (m+4) [Dg t.f.cs t.f.b] Q:=λq=>mU hl q;have H:∀{Q:PV->Prop},Q (gc t.h)->AZ (m+4) [am t.h] Q:=λq=>mV q;have S:∀{Q:PV->Prop},Q (.str t.f.nm)->AZ (m+4) [.str t.f.nm] Q:=λq=>Wb q;apply A1;rw[show KQ t= .tup [.str t.f.nm,am t.h,Dg t.f.cs t.f.b] from rfl];repeat' (first | with_reducible apply F|with_reducible apply H|with_reducible apply S|array_get_dec)
 .rename_i h;exact absurd h (by simp)
 .exact q
def YI {ts:kn To}(hl:ts.length<=12)(h:∀t∈ts,t.f.cs.length<=60){Q:PV->Prop}(q:Q (.lst (ts.map fC))):AZ 12 [.tup (ts.map KQ)] Q:=cu (m:=11) (by omega) (λt _=>⟨_,rfl⟩) (λt a {Q} q=>mX (m:=6) (h t a) q) q
def qJ (ts:kn To)(v:PV):Prop:=v= .tup (ts.map KQ)\/v= .lst (ts.map fC)
def Rr {h:fk}{v:PV}(hv:v=am h\/v=gc h)(ok:∀a x,h= .by a x->Ex a){Q:PV->Prop}(q:Q (.bl (EG h))):gO v (.str "lost") Q:=by
 cases h with
 | kept=>rcases hv with rfl|rfl <;> exact q
 | lost=>rcases hv with rfl|rfl <;> exact q
 | «by» a x=>
   have o:PyData.strOk a=true:=ok a x rfl;rcases hv with rfl|rfl
   .exact ⟨⟨by simp[am,DW,Fk,fr,o],by simp only[DW];decide +kernel⟩,q⟩
   .exact ⟨⟨by simp[gc,DW,Fk,fr,o],by simp only[DW];decide +kernel⟩,q⟩
def qF (t:To)(v:PV):Prop:=v=KQ t\/v=fC t
def dy {t:To}{v:PV}(hv:qF t v):(∀{R:PV->Prop},(∀w,(w=am t.h\/w=gc t.h)->R w)->Ah v (.int 1) R)/\∀{R:PV->Prop},(∀w,Kv t.f.cs t.f.b w->R w)->Ah v (.int 2) R:=by
 rcases hv with rfl|rfl
 .exact ⟨λh=>h _ (.inl rfl),λh=>h _ (lN _ _)⟩
 .exact ⟨λh=>h _ (.inr rfl),λh=>h _ ⟨_,_, .lists _, .inr rfl, .inr rfl⟩⟩
def YF {t:To}{v:PV}(hv:qF t v)(ok:Ga t){Q:PV->Prop}(q:Q (.bl (EG t.h))):DN [v] Q:=by apply VB;ac_rfl;refine(dy hv).1 λw hw=> ?_;ac_rfl;exact Rr hw ok.h q
def Ny (x y:To)(d:Rat×Rat):Prop:=∃s t,Tg x.f.cs y.f.cs x.f.b y.f.b d s t
def mY {x y:To}{d:Rat×Rat}{v w u:PV}(a:Ga x)(e:Ga y)(hd:kE d)(hv:Kv x.f.cs x.f.b v)(hw:Kv y.f.cs y.f.b w)(hu:Yv d u){Q:PV->Prop}(q:∀k:kd,(k=true↔Ny x y d)->Q (.bl k)):Du [v,w,u] Q:=by
 have g:∀{t:To},Ga t->∀c∈t.f.cs,F6 72 c:=λo c hc=>(o.f.pl.mu c hc).bd (by decide) (by decide);have i:∀{t:To},Ga t->t.f.cs.length<=60:=λo=>by have:=o.f.pl.few;omega
 have l:=sX a.f.bn.mx a.f.bn.my e.f.bn.mx e.f.bn.my (hd.m1.mono (M:=240) (by decide)) (hd.m2.mono (M:=240) (by decide));have j:∀{b:T3},p7 b->Mul DD NN b.2.2:=λh=>(TD h.mz).mono (by decide);apply Sg;ac_rfl;refine gw (N:=300) (B:=72) hv hw hu (a.f.bn.bd.mono (by decide)) (e.f.bn.bd.mono (by decide)) (hd.b1.mono (by decide)) (hd.b2.mono (by decide)) (g a) a.f.pl.ris a.f.pl.two (i a) (g e) e.f.pl.ris e.f.pl.two (i e) (by decide) (by decide) (λp hp q n=> ?_) (λr ps _ _=> ?_) (λs t m _ _=> ?_)
 .obtain ⟨m1,m2,m3⟩:=Mj a.f.pl.ris hp;obtain⟨z,A,C⟩:=Mj e.f.pl.ris n;exact jb (dI (a.f.pl.mu _ m1) (a.f.pl.mu _ m2) m3) (dI (e.f.pl.mu _ z) (e.f.pl.mu _ A) C) l (j a.f.bn) (j e.f.bn) (W:=150) (by decide) (by decide) (by decide) (by decide) (by decide) (by decide) (by decide) (by decide) (by decide) (by decide) (by decide) (by decide) (by decide)
 .have:=q false ⟨λh=>(by cases h),λ⟨s,t,m⟩=>absurd m (r s t)⟩;ac_rfl;exact this
 .have:=q true ⟨λ_=>⟨s,t,m⟩,λ_=>rfl⟩;ac_rfl;exact this
def mL {x y:To}{d:Rat×Rat}(a:Ga x)(e:Ga y)(hd:kE d){Q:PV->Prop}(q:∀k:kd,(k=true↔Ny x y d)->Q (.bl k)):CQ [Dg x.f.cs x.f.b,Dg y.f.cs y.f.b, .tup [fr d.1,fr d.2]] Q:=by
 have g:∀{t:To},Ga t->∀c∈t.f.cs,F6 72 c:=λo c hc=>(o.f.pl.mu c hc).bd (by decide) (by decide);have h:∀{t:To},Ga t->t.f.cs.length<=60:=λo=>by have:=o.f.pl.few;omega
 exact cv (g a) a.f.pl.ris (g e) e.f.pl.ris (h a) (h e) a.f.pl.two e.f.pl.two (by decide) (a.f.bn.bd.mono (by decide)) (e.f.bn.bd.mono (by decide)) (hd.b1.mono (by decide)) (hd.b2.mono (by decide)) q
def Lm (ts:kn To)(d:Rat×Rat)(f l:Nat):Prop:=∃x y,ts[f]? =some x/\ts[l]? =some y/\EG x.h=true/\EG y.h=true/\Ny x y d
def Xb (P:Nat->Nat->Prop)(n:Nat):kf (Nat×Nat)->Prop
 | none=>∀l<n,∀f<l,¬P f l
 | some (f,l)=>l<n/\f<l/\P f l/\(∀b<l,∀a<b,¬P a b)/\∀a<f,¬P a l
def K0 {P:Nat->Nat->Prop}{n:Nat}:∀{a b:kf (Nat×Nat)},Xb P n a->Xb P n b->a=b
 | none,none,_,_=>rfl
 | none,some (f,l),h,⟨h1,h2,h3,_⟩=>absurd h3 (h l h1 f h2)
 | some (f,l),none,⟨h1,h2,h3,_⟩,h=>absurd h3 (h l h1 f h2)
 | some (f,l),some (c,d),⟨r,i,e,j,k⟩,⟨s,b2,g,m,o⟩=>by
   have p:l=d:=by
    rcases Nat.lt_trichotomy l d with h|h|h
    .exact absurd e (m l h f i)
    .exact h
    .exact absurd g (j d h c b2)
   subst p;rcases Nat.lt_trichotomy f c with h|h|h
   .exact absurd e (o f h)
   .rw [h]
   .exact absurd g (k c h)
def aH:kf (Nat×Nat)->PV|none=> .non|some (f,l)=> .tup [.int f, .int l]
def ixT {ts:kn To}{v:PV}(hv:qJ ts v){i:Int}{k:Nat}{t:To}(hi:i=(k:Int))(h:ts[k]? =some t){R:PV->Prop}(r:∀w,qF t w->R w):Ah v (.int i) R:=by
 subst hi;rcases hv with rfl|rfl
 .show Z7 (HY (ts.map KQ) ((k:Nat):Int)) R;rw[CB (show (ts.map KQ)[k]? =some (KQ t) by rw[AAh,h];rfl)];exact r _ (.inl rfl)
 .show Z7 (HY (ts.map fC) ((k:Nat):Int)) R;rw[CB (show (ts.map fC)[k]? =some (fC t) by rw[AAh,h];rfl)];exact r _ (.inr rfl)
def Nb {ts:kn To}{d:Rat×Rat}{v u:PV}(hv:qJ ts v)(hu:Yv d u)(ok:∀t∈ts,Ga t)(hl:ts.length<=12)(hd:kE d){Q:PV->Prop}(q:∀r,Xb (Lm ts d) ts.length r->Q (aH r)):Bx [v,u] Q:=by
 obtain⟨g,N,O⟩:∃g:To->PV,(g=KQ\/g=fC)/\(v= .tup (ts.map g)\/v= .lst (ts.map g)):=by
  rcases hv with h|h
  .exact ⟨KQ, .inl rfl, .inl h⟩
  .exact ⟨fC, .inr rfl, .inr h⟩
 have D:∀t,qF t (g t):=λt=>by rcases N with rfl|rfl;exact .inl rfl;exact .inr rfl
 apply MX;have key:DE (Hm 2 (Ag (An 2) (Ag (An 3) Bf))) (Df (Jf (AB (aV 2) AM)) (An 4) (CA (Ef (A6 (AN 1 DN (AB (aV 3) AM))) (Ef (A6 (AN 1 DN (AB (AW Ah (aV 0) (aV 4)) AM))) (A6 (AN 3 Du (AB (AW Ah (AW Ah (aV 0) (aV 4)) (aC (.int 2))) (AB (AW Ah (aV 3) (aC (.int 2))) (AB (aV 1) AM))))))) (As (Ak (AB (aV 4) (AB (aV 2) AM)))) BO)) {nx:=As (aC .non) {nx:=λx=>Q PV.non,rt:=Q,bk:=λx=>False,ct:=λx=>False},rt:=Q,bk:=λx=>False,ct:=λx=>False} (B0 0 (ts.map g)) [some (.val v),some (.val u),none,none,none] :=by
  refine Js (λE τ=>∃(a c:kn To) (j m b:kf AV),a++c=ts/\E=B0 a.length (c.map g)/\(∀l<a.length,∀f<l,¬Lm ts d f l)/\τ= [some (.val v),some (.val u),j,m,b]) ?_ ?_ _ _ ⟨[],ts,_,_,_,rfl,rfl,λl h=>absurd h (by simp),rfl⟩
  .rintro τ ⟨a,c,j,m,b,e,p,s,rfl⟩;cases c with
   | cons w c=>rw[AAM,B0] at p;cases p
   | nil=> rw[AC2] at e;subst e;have:=q none s;ac_rfl;exact this
  .rintro x E τ R F ⟨a,c,j,m,b,e,p,s,rfl⟩;cases c with
   | nil=>simp[B0] at p
   | cons y c=>
     rw[AAM,B0] at p;cases p;have G:ts[a.length]? =some y:=by rw[<-e];simp
     have H:=ok y (by rw[<-e];simp);have ul:a.length<ts.length:=by rw[<-e];simp
     have next:(∀f<a.length,¬Lm ts d f a.length)->∀j m b,R [some (.val v),some (.val u),j,m,b] :=λh j m b=>F _ ⟨a ++ [y],c,j,m,b,by rw[<-e];simp,by simp,λl hl f A=>by
      by_cases z:l<a.length
      .exact s l z f A
      .have:l=a.length:=by simp at hl;omega
       subst this;exact h f A,rfl⟩
     clear F;ac_rfl;refine EM (λn τ=>(∀f<n,¬Lm ts d f a.length)/\∃b:kf AV,τ= [some (.val v),some (.val u),some (.val (.int a.length)),some (.val (g y)),b]) ?_ ?_ ⟨λf h=>absurd h (by omega),_,rfl⟩
     .rintro τ ⟨B,b,rfl⟩;exact next (λf A=>B f (by omega)) _ _ _
     .rintro n S τ R2 I ⟨B,b,rfl⟩;have nl:n<a.length:=by omega
      obtain⟨x,ex⟩:∃x,ts[n]? =some x:=⟨_,AAY (by omega)⟩;have J:=ok x (ABB ex);have K:=λ{R:PV->Prop} (r:∀w,qF x w->R w)=>ixT (R:=R) hv (i:=0+(n:Int)) (k:=n) (by omega) ex r;have C:EG x.h=true->EG y.h=true->Ny x y d->Q (.tup [.int (0+(n:Int)), .int a.length]):=λh1 h2 h3=>by have:=q (some (n,a.length)) ⟨ul,nl,⟨x,y,ex,G,h1,h2,h3⟩,s,B⟩;rw[AE2];exact this
      have o:¬(EG x.h=true/\EG y.h=true/\Ny x y d)->∀b,R2 [some (.val v),some (.val u),some (.val (.int a.length)),some (.val (g y)),b] :=λh b=>I _ ⟨λf A=>by
       by_cases z:f<n
       .exact B f z
       .have:f=n:=by omega
        subst this;rintro⟨T,U,L,M,h1,h2,h3⟩;rw[ex] at L;rw[G] at M;cases L;cases M;exact h ⟨h1,h2,h3⟩,b,rfl⟩
      clear I;ac_rfl;refine YF (D y) H ?_;cases hy:EG y.h with
      | false=>
        have:=o λz=>by rw[hy] at z;cases z.2.1
        ac_rfl;exact this _
      | true=>
        ac_rfl;refine K λw hw=> ?_;ac_rfl;refine YF hw J ?_;cases hx:EG x.h with
        | false=>
          have:=o λz=>by rw[hx] at z;cases z.1
          ac_rfl;exact this _
        | true=>
          ac_rfl;refine K λw hw=> ?_;ac_rfl;refine(dy hw).2 λW f1=> ?_;ac_rfl;refine(dy (D y)).2 λX P=> ?_;ac_rfl;refine mY J H hd f1 P hu λk hk=> ?_;cases k with
          | true=> have:=C hx hy (hk.mp rfl);ac_rfl;exact this
          | false=>
            have:=o λz=>by have:=hk.mpr z.2.2;cases this
            ac_rfl;exact this _
 rcases O with rfl|rfl
 .ac_rfl;exact key
 .ac_rfl;exact key
def lH {ts:kn To}{d:Rat×Rat}(ok:∀t∈ts,Ga t)(hl:ts.length<=12)(hd:kE d){Q:PV->Prop}(q:∀r,Xb (Lm ts d) ts.length r->Q (aH r)):DA [.tup (ts.map KQ), .tup [fr d.1,fr d.2]] Q:=by
 have w:∀{k:Nat} {i:Int} {t:To},i=(k:Int)->ts[k]? =some t->∀{R:PV->Prop},R (.tup [.str t.f.nm,am t.h,Dg t.f.cs t.f.b])->Ah (.tup (ts.map KQ)) (.int i) R:=λ{k i t} hi h {R} r=>by subst hi;show Z7 (HY (ts.map KQ) ((k:Nat):Int)) R;rw[CB (show (ts.map KQ)[k]? =some (KQ t) by rw[AAh,h];rfl)];exact r
 apply MV;ac_rfl;refine EM (λm τ=>(∀l<m,∀f<l,¬Lm ts d f l)/\∃g a c e:kf AV,τ= [some (.val (.tup (ts.map KQ))),some (.val (.tup [fr d.1,fr d.2])),g,a,c,e]) ?_ ?_ ⟨λl h=>absurd h (by omega),_,_,_,_,rfl⟩
 .rintro τ ⟨p,g,a,c,e,rfl⟩;have:=q none λl J f o=>p l (by omega) f o;ac_rfl;exact this
 .rintro m K τ R A ⟨p,g,a,c,e,rfl⟩;have B:m<ts.length:=by omega
  obtain⟨y,s⟩:∃y,ts[m]? =some y:=⟨_,AAY B⟩;have C:=ok y (ABB s);have next:(∀f<m,¬Lm ts d f m)->∀g a c e,R [some (.val (.tup (ts.map KQ))),some (.val (.tup [fr d.1,fr d.2])),g,a,c,e] :=λh g a c e=>A _ ⟨λl hl f o=>by
   by_cases z:l<m
   .exact p l z f o
   .have:l=m:=by omega
    subst this;exact h f o,g,a,c,e,rfl⟩
  clear A;ac_rfl;refine EM (λn τ=>(∀f<n,¬Lm ts d f m)/\∃a c e:kf AV,τ= [some (.val (.tup (ts.map KQ))),some (.val (.tup [fr d.1,fr d.2])),some (.val (.int (0+m))),a,c,e]) ?_ ?_ ⟨λf h=>absurd h (by omega),_,_,_,rfl⟩
  .rintro τ ⟨u,a,c,e,rfl⟩;exact next (λf o=>u f (by omega)) _ _ _ _
  .rintro n L τ R2 D ⟨u,a,c,e,rfl⟩;have nl:n<m:=by omega
   obtain⟨x,ex⟩:∃x,ts[n]? =some x:=⟨_,AAY (by omega)⟩;have E:=ok x (ABB ex);have H:=λ{R:PV->Prop} r=>w (i:=0+(n:Int)) (k:=n) (by omega) ex (R:=R) r;have I:=λ{R:PV->Prop} r=>w (i:=0+(m:Int)) (k:=m) (by omega) s (R:=R) r;have v:EG x.h=true->EG y.h=true->Ny x y d->Q (.tup [.int (0+(n:Int)), .int (0+(m:Int))]):=λh1 h2 h3=>by have:=q (some (n,m)) ⟨B,nl,⟨x,y,ex,s,h1,h2,h3⟩,p,u⟩;rw[AE2,AE2];exact this
   have j:¬(EG x.h=true/\EG y.h=true/\Ny x y d)->∀a c e,R2 [some (.val (.tup (ts.map KQ))),some (.val (.tup [fr d.1,fr d.2])),some (.val (.int (0+m))),a,c,e] :=λh a c e=>D _ ⟨λf o=>by
    by_cases z:f<n
    .exact u f z
    .have:f=n:=by omega
     subst this;rintro⟨M,N,F,G,h1,h2,h3⟩;rw[ex] at F;rw[s] at G;cases F;cases G;exact h ⟨h1,h2,h3⟩,a,c,e,rfl⟩
   clear D;repeat' (first | with_reducible apply H|with_reducible apply I|array_mem_dec)
   refine Rr (.inl rfl) E.h ?_;cases hx:EG x.h with
   | false=>
     have:=j λz=>by rw[hx] at z;cases z.1
     ac_rfl;exact this _ _ _
   | true=>
     ac_rfl;refine Rr (.inl rfl) C.h ?_;cases hy:EG y.h with
     | false=>
       have:=j λz=>by rw[hy] at z;cases z.2.1
       ac_rfl;exact this _ _ _
     | true=>
       ac_rfl;refine mL E C hd λk hk=> ?_;cases k with
       | true=> have:=v hx hy (hk.mp rfl);ac_rfl;exact this
       | false=>
         have:=j λz=>by have:=hk.mpr z.2.2;cases this
         ac_rfl;exact this _ _ _
def lK {a b:Int}{Q:PV->Prop}(q:Q (.bl true)):Lh (.tup [.int a, .int b]) (.tup [.int a, .int b]) Q:=by refine⟨⟨rfl,rfl⟩, ?_⟩;rw[UC (show DW 30 (.tup [.int a, .int b])=true from rfl)];exact q
def U8 {ts:kn To}{d:Rat×Rat}{v:PV}(hv:qJ ts v)(ok:∀t∈ts,Ga t)(hl:ts.length<=12)(hd:kE d){Q:PV->Prop}(q:Q (.bl true)):Br [.tup (ts.map KQ), .tup [fr d.1,fr d.2],v] Q:=by
 apply J7;ac_rfl;refine Nb hv (.inl rfl) ok hl hd λr b=> ?_;ac_rfl;refine lH ok hl hd λa c=> ?_;have:a=r:=K0 c b;subst this;cases a with
 | none=> rw[show aH none= .non from rfl];ac_rfl;exact q
 | some p=>
   obtain⟨f,l⟩:=p;rw[show aH (some (f,l))= .tup [.int f, .int l] from rfl];repeat' array_get_dec
   refine lK ?_;repeat' array_get_dec
   exact q
def Za {ts:kn To}(ok:∀t∈ts,Ga t):DW 30 (.lst (ts.map fC))=true:=by
 simp only[DW];refine Go λx hx=> ?_;obtain⟨t,b,rfl⟩:=AAH.mp hx;obtain⟨o,d⟩:=ok t b;have g:Fk 26 (t.f.cs.map corL)=true:=Go λy hy=>by obtain⟨c,_,rfl⟩:=AAH.mp hy;simp[corL,fr,DW,Fk]
 have i:PyData.strOk t.f.nm=true:=o.nm;have h1:DW 28 (gc t.h)=true:=by
  cases e:t.h with
  | kept=>rfl
  | lost=>simp only[gc,DW];decide +kernel
  | «by» a x=> have:PyData.strOk a=true:=d a x e;simp[gc,DW,Fk,fr,this]
 simp[fC,gQ,DW,Fk,fr,g,i,h1]
instance{a:AE}{τ:BE}{Q:PV->Prop}:Wp (bQ a τ Q) (a τ λx=>match x with | .tup xs=>Q (.tup xs.reverse)|_=>False):=⟨id⟩
def cm (ns:kn Int)(u:ns.length<=63):EW [.scr ns] λx=>x= .bl true:=by
 apply VC;ac_rfl;refine gI λd hd=> ?_;ac_rfl;refine ik u λD A j m=> ?_;ac_rfl;refine bu A j m hd λE n B e=> ?_;ac_rfl;refine jY u n B e λts a F c=> ?_;have w:∀t∈ts,t.f.cs.length<=60:=λt i=>by have:=(c t i).f.pl.few;omega
 ac_rfl;refine YI a w ?_;ac_rfl;rename_i k k0 C;refine Gi k0 C λv hv=> ?_;have hv:qJ ts v:=by simpa[qJ] using hv
 ac_rfl;refine U8 hv c a hd ?_;ac_rfl;refine YI a w ?_;ac_rfl;have g:=Za c;refine⟨⟨g,g⟩, ?_⟩;rw[UC g];ac_rfl;rw[<-List.map_reverse];have o:∀t∈ts.reverse,Ga t:=λt i=>c t (AE1.mp i);refine U8 (.inl rfl) o (by rw[ADI];exact a) hd ?_;ac_rfl;refine Nb (ts:= []) (.inl rfl) (.inl rfl) (by simp) (by simp) hd λr p=> ?_;have s:r=none:=K0 p λl h=>absurd h (by simp);subst s;rw[show aH none= .non from rfl];ac_rfl;refine HK KQ KQ (λt=>(⟨t.f, .lost⟩:To)) (λ_=>True) (λt _ R r=> ?_) ts [] (λ_ _=>trivial) ?_
 .rw [show KQ t= .tup [.str t.f.nm,am t.h,Dg t.f.cs t.f.b] from rfl];ac_rfl;exact r
 rw[ABR];ac_rfl;have e:∀t∈ts.map (λt=>(⟨t.f, .lost⟩:To)),Ga t:=λt i=>by obtain⟨x,hx,rfl⟩:=AAH.mp i;exact⟨(c x hx).f,λ_ _ h=>by cases h⟩
 refine Nb (.inl rfl) (.inl rfl) e (by rw[AAK];exact a) hd λr p=> ?_;have s:r=none:=K0 p λl _ f _ ⟨x,y,ex,_,hx,_⟩=>by have:=ABB ex;obtain⟨z,_,rfl⟩:=AAH.mp this;cases hx
 subst s;rw[show aH none= .non from rfl];ac_rfl
end PL.K68
section
namespace K68
open PySem L2 PL PL.K68 PyProof.Rows
open PL.K31
open PyProof.Rows
def DI {N Q:kn Str}{s:Scope}(a:s.kind= .function:=by rfl)(b:s.isCoroutine=false:=by rfl)(c:s.isGenerator=false:=by rfl)(d:N.Nodup:=by decide +kernel)(e:N.take Q.length=Q:=by rfl)(f:∀x∈Q,s.names.lookup x=some .local\/s.names.lookup x=some .cell:=by decide +kernel)(g:∀y∈s.names,y.2≠ .free:=by decide +kernel):DH N Q s:=⟨a,b,c,d,e,f,g⟩
section
variable (P:gn)(w:fe)(K:AAB)(Z:Str->kf km)(Y:cb)(n:Nat)
abbrev Bg:=Has P w K Z Y n "_law_draw" ["_law_tape_here","_law_many"] (CH K 2 At)
abbrev RW:=Has P w K Z Y n "_law_apart" ["_law_tape_here"] (CH K 1 F__law_apart)
abbrev Cp:=Has P w K Z Y n "_law_part" ["_law_top","_law_bottom"] (CH K 2 A4)
abbrev IU:=Has P w K Z Y n "_law_off" ["_law_one","_law_other"] (CH K 2 BK)
abbrev IV:=Has P w K Z Y n "_law_sum" ["_law_one","_law_other"] (CH K 2 Bi)
abbrev RX:=Has P w K Z Y n "_law_edged" ["_law_tape_here","_law_rows_here","_law_apart_here"] (CH K 3 DY)
abbrev Ho (m:Nat):=Has P w K Z Y n "_law_listed" ["_law_thing"] (CH K 1 (AZ m))
abbrev Nm:=Has P w K Z Y n "_law_tighter" ["_law_kept","_law_bound","_law_strict","_law_sign"] (CH K 4 BB)
abbrev WH:=Has P w K Z Y n "_law_can" ["_law_lines_here"] (CH K 1 CP)
abbrev UI:=Has P w K Z Y n "_law_line" ["_law_a","_law_b","_law_c","_law_strict"] (CH K 4 A2)
abbrev Nk:=Has P w K Z Y n "_law_product" ["_law_one","_law_other"] (CH K 2 Cd)
abbrev Rb:=Has P w K Z Y n "_law_ratio" ["_law_one","_law_other"] (CH K 2 Db)
abbrev UJ:=Has P w K Z Y n "_law_rate" ["_law_plan","_law_k","_law_side"] (CH K 3 B5)
abbrev RY:=Has P w K Z Y n "_law_lines" ["_law_one","_law_other","_law_apart_here","_law_i","_law_j"] (CH K 5 CJ)
abbrev WK:=Has P w K Z Y n "_law_may" ["_law_one","_law_other","_law_apart_here"] (CH K 3 CQ)
abbrev WI:=Has P w K Z Y n "_law_due" ["_law_told_here","_law_apart_here"] (CH K 2 DA)
abbrev Zf:=Has P w K Z Y n "is_kept" ["told_row"] (CH K 1 DN)
abbrev cN:=Has P w K Z Y n "summed" ["one","many","other","more"] (CH K 4 GY)
abbrev QI:=Has P w K Z Y n "crossed" ["low","high","at"] (CH K 3 EV)
abbrev WM:=Has P w K Z Y n "is_never" ["plane"] (CH K 1 Dt)
abbrev UN:=Has P w K Z Y n "before" ["one","other"] (CH K 2 Dc)
abbrev QJ:=Has P w K Z Y n "turn_of" ["plane","at"] (CH K 2 DP)
abbrev Re:=Has P w K Z Y n "is_tighter" ["plane","other","at"] (CH K 3 Dd)
abbrev Nr:=Has P w K Z Y n "tightest" ["planes","at","sign"] (CH K 3 Ch)
abbrev WL:=Has P w K Z Y n "fault_in" ["planes","at"] (CH K 2 Ds)
abbrev Nn:=Has P w K Z Y n "common" ["one","other"] (CH K 2 FO)
abbrev Nq:=Has P w K Z Y n "part" ["top","bottom"] (CH K 2 Fg)
abbrev X3:=Has P w K Z Y n "minus" ["one","other"] (CH K 2 EL)
abbrev Np:=Has P w K Z Y n "negative" ["number"] (CH K 1 Cg)
abbrev Rf:=Has P w K Z Y n "plus" ["one","other"] (CH K 2 E5)
abbrev UP:=Has P w K Z Y n "side_form" ["wedge","number"] (CH K 2 BS)
abbrev UQ:=Has P w K Z Y n "time_form" ["wedge","number"] (CH K 2 D5)
abbrev Ze:=Has P w K Z Y n "form_of" ["wedge","number"] (CH K 2 FP)
abbrev cM:=Has P w K Z Y n "placed" ["plane","at","value"] (CH K 3 D4)
abbrev MO:=Has P w K Z Y n "shared_bottom" ["numbers"] (CH K 1 CK)
abbrev WO:=Has P w K Z Y n "plane_of" ["form","strict","number"] (CH K 3 Ea)
abbrev X4:=Has P w K Z Y n "whole" ["n"] (CH K 1 HH)
abbrev Nt:=Has P w K Z Y n "told_weights" ["weights"] (CH K 1 Ci)
abbrev cK:=Has P w K Z Y n "over" ["one","other"] (CH K 2 IH)
abbrev WP:=Has P w K Z Y n "range_in" ["planes","at"] (CH K 2 Eb)
abbrev WR:=Has P w K Z Y n "value_in" ["planes","at"] (CH K 2 Cj)
abbrev Jt:=Has P w K Z Y n "weights_by_time" ["wedge"] (CH K 1 Bu)
abbrev Zj:=Vo P w K Z Y n "without" ["planes","at","most"] 2 (CH K 3 EY)
abbrev Zg:=Has P w K Z Y n "meet_in" ["wedge"] (CH K 1 FQ)
abbrev gW:=Has P w K Z Y n "times" ["one","other"] (CH K 2 Ja)
abbrev MN:=Has P w K Z Y n "piece_between" ["former","latter"] (CH K 2 Bs)
abbrev UO:=Has P w K Z Y n "pieces_of" ["plan"] (CH K 1 DO)
abbrev Zi:=Has P w K Z Y n "size_of" ["apart","side"] (CH K 2 C0)
abbrev WQ:=Has P w K Z Y n "sizes_of" ["one","other","apart"] (CH K 3 Ec)
abbrev UR:=Has P w K Z Y n "wedges_of" ["one","other","apart"] (CH K 3 DQ)
abbrev Zh:=Has P w K Z Y n "meet_of" ["one","other","apart"] (CH K 3 EX)
abbrev WN:=Has P w K Z Y n "may_meet" ["one","other","apart"] (CH K 3 Du)
abbrev Hq:=Has P w K Z Y n "first_fault" ["told","apart"] (CH K 2 Bx)
abbrev Rc:=Has P w K Z Y n "_law_right" ["_law_told_here","_law_apart_here","_law_handed"] (CH K 3 Br)
abbrev PU:=Has P w K Z Y n "_law_bounds" ["_law_tape_here"] (CH K 1 C9)
abbrev Ra:=Has P w K Z Y n "_law_place" ["_law_tape_here"] (CH K 1 Cz)
abbrev UL:=Has P w K Z Y n "_law_span" ["_law_tape_here"] (CH K 1 Es)
abbrev WJ:=Has P w K Z Y n "_law_leg" ["_law_tape_here","_law_broad"] (CH K 2 EZ)
abbrev RZ:=Has P w K Z Y n "_law_names" ["_law_tape_here","_law_many"] (CH K 2 DZ)
abbrev Gh:=Has P w K Z Y n "_law_tape" ["_law_script","_law_k"] (CH K 2 GZ)
abbrev UK:=Has P w K Z Y n "_law_rows" ["_law_script"] (CH K 1 Ce)
abbrev UM:=Has P w K Z Y n "_law_told" ["_law_script","_law_rows_here"] (CH K 2 Cf)
end
section
variable {P:gn}{w:fe}{K:AAB}{Z:Str->kf km}{Y:cb}{n m:Nat}{f:ki}{U:FuncData}
theorem KB:DH ["_law_tape_here","_law_many","_law_once","_law_found"] ["_law_tape_here","_law_many"] (Au Ez):=DI
theorem Rv (F:VY K "_law_draw" "_law_draw" Ez f U):De P w K Z Y MD (n+1) f U ["_law_tape_here","_law_many"] (CH K 2 At):=by
 have k:=KB.nd;refine F.ok KB (λvs H Q E h=> ?_) (λu A outer s H vs Q E J h=> ?_)
 .obtain ⟨T,M,xs,v,_,_,r,hl,_⟩:=h;rw[r.length,hl] <;> rfl
 obtain⟨T,M,xs,v,va,_,r,hl,hF,hQ⟩:=h;unfold At at hF;split at hF <;> first | exact hF.elim|skip
 rename_i m;obtain⟨⟨m0,m1⟩,hF⟩:=hF;cases r with
 | cons r j=>
 cases j with
 | cons y j=>
 cases j;cases y;cases r with
 | tape tp=>
 rename_i p;obtain⟨d,x,hp,l,z,B⟩:=va.tp p tp;refine⟨_,(Ct (dY (SX jy (Lo Ev (pv 0) BL (λ_ _=>rfl)) BL (CF _)) (Ct (Ih (i:=3) k rfl (Or.inl rfl) (B7 Fn (Lo Ev (pv 0) BL (λ_ _=>rfl)) (pv 1)))
  (Ct (SQ (B7 dD (Lo Ev (pv 0) BL (λ_ _=>rfl)) (pv 1)) (Wv (pv 0) BL KD))
  (HS (SU (pv 3))))) SV)
  (Ct (SQ (B7 Fn (B7 Ig (B7 HQ (Lo Ev (pv 0) BL (λ_ _=>rfl)) BL) BL) BL) (Wv (pv 0) BL KD))
  (Ct (Ih (i:=2) k rfl (Or.inl rfl) (B7 Fn (B7 HQ (Lo Ev (pv 0) BL (λ_ _=>rfl)) (B7 Ig (B7 Fn (Lo Ev (pv 0) BL (λ_ _=>rfl)) BL) BL)) BL))
  (HS (SU (B7 Fn (B7 Fn (B7 HQ (pv 2) (B7 Ig (B7 Fn (pv 2) BL) BL)) BL) (pv 1))))))), ?_⟩
 have e:∀(r d' g:Int),0<=r->r<m->0<=d'->0<=g->g<2147483647->Q (.int r) (upd H p (.lst [.int d', .int g])):=λr d' g C D a b c=>
  hQ _ (.int r) T _ (e6 va.tp tp a b c) (.int r) (hF r C D)
 refine⟨_,rfl,p,_,_,_,rfl,rfl,Et.of hp,rfl,_,_,rfl,rfl,_,rfl, ?_⟩;refine qy (λc=> ?_) (λc=> ?_)
 .refine ⟨_,rfl,p,_,_,_,rfl,rfl,Et.of hp,rfl,_,rfl,_,_,rfl,rfl,m0, ?_⟩;refine⟨_,rfl,p,_,_,_,rfl,rfl,Et.of hp,rfl,_,rfl,_,_,rfl,rfl,⟨m0,by omega⟩, ?_⟩;refine⟨_,rfl,p,_,_,_,rfl,rfl,hp,rfl, ?_⟩;exact⟨_,rfl,e _ _ _ (ADQ _ (by omega)) (ADR _ m0) (Int.ediv_nonneg l (by omega)) z B⟩
 .refine ⟨_,rfl,p,_,_,_,rfl,rfl,Et.of hp,rfl,_,_,rfl,rfl, .inl (.inr ⟨by decide,by decide⟩),_,_,rfl,rfl,_,_,rfl,rfl,(show (0:Int)<2147483647 by decide), ?_⟩;refine⟨_,rfl,p,_,_,_,rfl,rfl,hp,rfl, ?_⟩;have o:0<=(x*48271+12345) % 2147483647:=ADQ _ (by decide);have y1:(x*48271+12345) % 2147483647<2147483647:=ADR _ (by decide);have t:upd H p (.lst ([V.int d,V.int x].set (Int.toNat 1) (V.int ((x*48271+12345) % 2147483647)))) p=some (.lst [.int d, .int ((x*48271+12345) % 2147483647)]):=Aj;have G:0<=(x*48271+12345) % 2147483647*((x*48271+12345) % 2147483647 % 1009+3) % 2147483629:=ADQ _ (by decide);have I:(x*48271+12345) % 2147483647*((x*48271+12345) % 2147483647 % 1009+3) % 2147483629<2147483629:=ADR _ (by decide);refine⟨_,rfl,p,_,_,_,rfl,rfl,Et.of t,rfl,_,rfl,p,_,_,_,rfl,rfl,Et.of t,rfl,_,_,rfl,rfl,(show (0:Int)<1009 by decide),_,_,rfl,rfl,_,_,rfl,rfl, .inl (.inl (OX o y1)),_,_,rfl,rfl,(show (0:Int)<2147483629 by decide), ?_⟩;refine⟨_,rfl,_,rfl,_,_,rfl,rfl,(show (0:Int)<997 by decide),_,_,rfl,rfl,_,_,rfl,rfl, .inl (.inl (OX G (Int.lt_trans I (by decide)))),_,_,rfl,rfl,(show (0:Int)<998244353 by decide),_,rfl,_,_,rfl,rfl,m0, ?_⟩;exact e _ _ _ (ADQ _ (by omega)) (ADR _ m0) l o y1
theorem Dh {P:gn}{w:fe}{K:AAB}{Z:Str->kf km}{Y:cb}{x q:Str}{st:Stmt}{f:ki}{U:FuncData}{N:kn Str}{k n:Nat}{b:AS}(F:VY K x q st f U)(S:DH N (N.take n) (Au st))(a:n=(N.take n).length)(h:∀(v:km) (A:Wf) (o:kn Env) (s:kj) (H:Hp) (E:XK),Room k (A.deeper (envOfC q (Au st) s.heap.objs.size f v))->N.Nodup->ZA (PK MD P w K Z Y N q (Au st) f v A o s H E).nox (CC st) b):De P w K Z Y MD (k+1) f U (N.take n) (CH K n (Ar N.length b)):=
 Xs F S a λv A o s H E r=>h v A o s H E r S.nd
abbrev Z1 (K:AAB)(x:Str)(s:Stmt)(f:ki)(d:FuncData):=VY K x x s f d
abbrev Z2 (P:gn)(w:fe)(K:AAB)(Z:Str->kf km)(b:cb)(n:Nat)(f:ki)(d:FuncData)(N:kn Str)(k:Nat)(F:AF):=De P w K Z b MD (n+1) f d (N.take k) (CH K k F)
theorem PZ (F:Z1 K "_law_apart" Fp f U)(a:Bg P w K Z Y n):Z2 P w K Z Y n f U ["_law_tape_here","_law_some"] 1 F__law_apart:=Dh F DI rfl λ_ _ _ _ _ _ b c=>(AL (Ca 1 c (EO (Bl (Av (AX (Al AH AH)) (Av (AX (Al AH AH)) (CW (AX (Al AH AH)) (AX (Al AH AH)) (AX (Al AH AH)))))))) (AR (Ab (AX (Al (AU (AJ 1) (AK a b rfl (Al (AJ 0) AH))) (AU (AJ 1) (AK a b rfl (Al (AJ 0) AH))))))))
theorem Ry (F:Z1 K "_law_part" Gy f U)(b:Z "abs" =none)(c:Z "int" =none):Z2 P w K Z Y n f U ["_law_top","_law_bottom","_law_sign","_law_one","_law_other"] 2 A4:=Dh F DI rfl λ_ _ _ _ _ _ _ a=>(AL (HA (i:=3) (j:=4) rfl a rfl rfl (by decide) rfl rfl (Al (BP Sw rfl b boot_abs (Bo (AJ 0))) (BP Sw rfl b boot_abs (Bo (AJ 1)))) rfl) (AL (VM AAS (En Fd (AJ 4) AH) (AR (HA (i:=3) (j:=4) rfl a rfl rfl (by decide) rfl rfl (Al (AJ 4) (Af LS (AJ 3) (AJ 4))) rfl))) (AL (Ca 2 a (Af Cv AH (Af Aq AH (Bt oE rfl c boot_int (Bo (DK GA (AJ 1) AH (CF _))))))) (AR (Ab (AX (Al (Af ES (Af Aq (AJ 2) (AJ 0)) (AJ 3)) (Af ES (Af Aq (AJ 2) (AJ 1)) (AJ 3)))))))))
theorem Um (F:Z1 K "_law_off" Im f U)(a:Cp P w K Z Y n):Z2 P w K Z Y n f U ["_law_one","_law_other"] 2 BK:=Dh F DI rfl λ_ _ _ _ _ _ b _=>(AR (Ab (AK a b rfl (Al (Af Cv (Af Aq (AU (AJ 0) AH) (AU (AJ 1) AH)) (Af Aq (AU (AJ 1) AH) (AU (AJ 0) AH))) (Af Aq (AU (AJ 0) AH) (AU (AJ 1) AH))))))
theorem Uo (F:Z1 K "_law_sum" Io f U)(a:Cp P w K Z Y n):Z2 P w K Z Y n f U ["_law_one","_law_other"] 2 Bi:=Dh F DI rfl λ_ _ _ _ _ _ b _=>(AR (Ab (AK a b rfl (Al (Af BC (Af Aq (AU (AJ 0) AH) (AU (AJ 1) AH)) (Af Aq (AU (AJ 1) AH) (AU (AJ 0) AH))) (Af Aq (AU (AJ 0) AH) (AU (AJ 1) AH))))))
theorem Pa (F:Z1 K "_law_edged" Fq f U)(c:Bg P w K Z Y n)(g:IU P w K Z Y n)(d:IV P w K Z Y n)(h:Z "list" =none)(j:Z "reversed" =none)(e:Z "tuple" =none)(k:Z "zip" =none):Z2 P w K Z Y n f U ["_law_tape_here","_law_rows_here","_law_apart_here","_law_plan","_law_side","_law_by","_law_beside","_law_bare","_law_edged_here","_law_corner","_law_back"] 3 DY:=Dh F DI rfl λ_ _ _ _ _ _ b a=>(AL (BQ (En Fd (AK c b rfl (Al (AJ 0) AH)) AH) (AR (Ab (AJ 1))) BA) (AL (Ca 3 a (AU (AU (AU (AJ 1) AH) AH) AH)) (AL (Ca 4 a (AK c b rfl (Al (AJ 0) AH))) (AL (Ca 5 a (AU (EO (Bl (Av (AK g b rfl (Al (AU (AU (AJ 3) (DL AH)) AH) (AU (AU (AJ 3) AH) AH))) (CW (AU (AJ 2) AH) (AU (AJ 2) AH) (AU (AJ 2) AH))))) (AJ 4))) (AL (Ca 5 a (AK d b rfl (Al (AJ 5) (AU (EO (Bl (CW (AX (Al AH AH)) (AX (Al (DL AH) (Af eM AH AH))) (AX (Al AH (Af eM AH AH)))))) (AK c b rfl (Al (AJ 0) AH)))))) (AL (El (i:=6) a rfl (Or.inl rfl) (Bl FE)) (AL (BX AAS rfl (sT rfl k rfl j (AJ 3) (AJ 3)) (Bc (n:=2) rfl (Aa (CU 9 a) (Aa (CU 10 a) BH))) (AR (BQ (En (DS b) (AJ 4) AH) (AR (Be (i:=6) AAr AAs BD (Bo (Af BC (AX (Bo (AK d b rfl (Al (AU (AJ 9) AH) (AJ 5))))) (OR (AJ 10) (jK AH) jJ))))) (AR (Be (i:=6) AAr AAs BD (Bo (Af BC (Af BC (OR (AJ 9) jJ (jK (AJ 4))) (AX (Bo (AK d b rfl (Al (AU (AJ 9) (AJ 4)) (AJ 5)))))) (OR (AJ 9) (jK (Af BC (AJ 4) AH)) jJ)))))))) (AL (Ca 7 a (AX (CW (AX (Al AH AH)) (AX (Al AH AH)) (AX (Al AH AH))))) (AL (El (i:=8) a rfl (Or.inl rfl) (i6 rfl h boot_list (Bo (AJ 1)))) (AL (S7 (i:=8) AH (Af BC (OR (AU (AJ 1) AH) jJ (jK AH)) (AX (Bo (AX (Al (AJ 3) (AJ 7))))))) (AL (S7 (i:=8) (DL AH) (oH (Af BC (OR (AU (AJ 1) (DL AH)) jJ (jK AH)) (AX (Bo (AX (Al (Bt Cu rfl e ABC (Bo (AJ 6))) (AJ 7)))))))) (AR (Ab (Bt Cu rfl e ABC (Bo (AJ 8))))))))))))))))
theorem G7:DH ["_law_thing"] ["_law_thing"] (Au DG):=DI
theorem N5 (F:VY K "_law_listed" "_law_listed" DG f U)(e:Ho P w K Z Y n m)(g:Z "all" =none)(h:Z "int" =none)(c:Z "isinstance" =none)(i:Z "len" =none)(j:Z "tuple" =none):De P w K Z Y MD (n+1) f U ["_law_thing"] (CH K 1 (AZ (m+1))):=by
 have k:=G7.nd;have a:(["_law_one"] :kn Str).Nodup:=by decide +kernel
 have b:(["_law_inner"] :kn Str).Nodup:=by decide +kernel
 exact Xs F G7 rfl λ_ _ _ _ _ _ d=>(AL (BQ (KH (Em (C7 (BP Sx rfl c AEB (Al (AJ 0) (YZ (n:="tuple") rfl j ABC rfl)))) (ET (Ob (KH (Em (En (DS d) (BP ON rfl i ACN (Bo (AJ 0))) AH) (ET (C7 (BP (oC rfl) rfl g boot_all (Bo (EO (Dm rfl (EQ (AJ 0)) (Co (own:=1) (ix:= []) (N:= ["_law_one"]) rfl rfl rfl rfl rfl rfl (λ_ _ _ _ _ _=>(On 0 a)) (λ_ _ _ _ _ _=>Dn) (λ_ _ _ _ _ _=>(BP Sx rfl c AEB (Al (AJ 0) (YZ (n:="int") rfl h boot_int rfl))))))))))))))))) (AR (Ab (EO (Dm rfl (EQ (AJ 0)) (Co (own:=1) (ix:= []) (N:= ["_law_inner"]) rfl rfl rfl rfl rfl rfl (λ_ _ _ _ _ _=>(On 0 b)) (λ_ _ _ _ _ _=>Dn) (λ_ _ _ _ _ _=>(AK e d rfl (Bo (AJ 0))))))))) BA) (AR (Ab (AJ 0))))
theorem MR (F:Z1 K "_law_tighter" Eh f U):Z2 P w K Z Y n f U ["_law_kept","_law_bound","_law_strict","_law_sign","_law_more"] 4 BB:=Dh F DI rfl λ_ _ _ _ _ _ a b=>(AL (BQ (En (DS a) (AU (AJ 0) AH) (AX (Al AH AH))) (AR (Ab (AX (Al (AJ 1) (AJ 2))))) BA) (AL (Ca 4 b (Af Aq (AJ 3) (Af Cv (Af Aq (AU (AJ 1) AH) (AU (AU (AJ 0) AH) AH)) (Af Aq (AU (AU (AJ 0) AH) AH) (AU (AJ 1) AH))))) (AL (BQ (KH (VP (En Fd (AJ 4) AH) (Oc (KH (Em (En (DS a) (AJ 4) AH) (ET (eS (AJ 2)))))))) (AR (Ab (AX (Al (AJ 1) (AJ 2))))) BA) (AR (Ab (AJ 0))))))
theorem Ui (F:Z1 K "_law_can" Ii f U)(g:Nm P w K Z Y n):Z2 P w K Z Y n f U ["_law_lines_here","_law_left","_law_gap","_law_a","_law_b","_law_c","_law_strict","_law_low","_law_high","_law_d","_law_e","_law_f","_law_more"] 1 CP:=by
 have b:(["_law_a","_law_b","_law_c","_law_strict"] :kn Str).Nodup:=by decide +kernel
 have d:(["_law_line_here"] :kn Str).Nodup:=by decide +kernel
 have e:(["_law_line_here"] :kn Str).Nodup:=by decide +kernel
 exact Dh F DI rfl λ_ _ _ _ _ _ c a=>(AL (OY (i:=1) rfl a rfl (Or.inl rfl) (EQ (AJ 0)) (Co (own:=4) (ix:= []) (N:= ["_law_a","_law_b" ,"_law_c" ,"_law_strict" ]) rfl rfl rfl rfl rfl rfl (λ_ _ _ _ _ _=>(XC (n:=4) rfl (D9 (On 0 b) (D9 (On 1 b) (D9 (On 2 b) (D9 (On 3 b) S5)))))) (λ_ _ _ _ _ _=>(HV (En (DS c) (AJ 1) AH))) (λ_ _ _ _ _ _=>(AX (CW (AJ 0) (AJ 2) (AJ 3)))))) (AL (BX AAS rfl (EQ (EO (Dm rfl (EQ (AJ 0)) (Co (own:=1) (ix:= []) (N:= ["_law_line_here"]) rfl rfl rfl rfl rfl rfl (λ_ _ _ _ _ _=>(On 0 d)) (λ_ _ _ _ _ _=>(HV (En Fd (AU (AJ 0) AH) AH))) (λ_ _ _ _ _ _=>(AJ 0)))))) (Bc (n:=4) rfl (Aa (CU 3 a) (Aa (CU 4 a) (Aa (CU 5 a) (Aa (CU 6 a) BH))))) (AR (BX AAS rfl (EQ (EO (Dm rfl (EQ (AJ 0)) (Co (own:=1) (ix:= []) (N:= ["_law_line_here"]) rfl rfl rfl rfl rfl rfl (λ_ _ _ _ _ _=>(On 0 e)) (λ_ _ _ _ _ _=>(HV (En GA (AU (AJ 0) AH) AH))) (λ_ _ _ _ _ _=>(AJ 0)))))) (Bc (n:=4) rfl (Aa (CU 9 a) (Aa (CU 10 a) (Aa (CU 11 a) (Aa (CU 12 a) BH))))) (AR (Be (i:=1) AAr AAs BD (Bo (AX (CW (Af Cv (Af Aq (AJ 9) (AJ 4)) (Af Aq (AJ 3) (AJ 10))) (Af Cv (Af Aq (AJ 11) (AJ 4)) (Af Aq (AJ 5) (AJ 10))) (oJ (AJ 6) (LO (AJ 12))))))))))) (AL (EF (AX (Al (AX (Al (AX (Al AH AH)) Ej)) (AX (Al (AX (Al AH AH)) Ej)))) (Bc (n:=2) rfl (Aa (CU 7 a) (Aa (CU 8 a) BH)))) (AL (oX 1 (BX AAS rfl (EQ (AJ 1)) (Bc (n:=3) rfl (Aa (CU 3 a) (Aa (CU 5 a) (Aa (CU 6 a) BH)))) (AL (BQ (KH (Em (En (DS c) (AJ 3) AH) (ET (KH (VP (En GA (AJ 5) AH) (Oc (KH (Em (En (DS c) (AJ 5) AH) (ET (eS (AJ 6))))))))))) (AR (Ab Ej)) BA) (AL (BQ (En Fd (AJ 3) AH) (AR (Ca 7 a (AK g c rfl (Av (AJ 7) (CW (AX (Al (DL (AJ 5)) (AJ 3))) (AJ 6) AH))))) BA) (AR (BQ (En GA (AJ 3) AH) (AR (Ca 8 a (AK g c rfl (Av (AJ 8) (CW (AX (Al (AJ 5) (DL (AJ 3)))) (AJ 6) (DL AH)))))) BA)))))) (AL (Ca 2 a (Af Cv (Af Aq (AU (AU (AJ 8) AH) AH) (AU (AU (AJ 7) AH) AH)) (Af Aq (AU (AU (AJ 7) AH) AH) (AU (AU (AJ 8) AH) AH)))) (AR (Ab (kA (DK Fd (AJ 2) AH (CF _)) (LO (OQ (DK (DS c) (AJ 2) AH (CF _)) (OQ (W9 (AU (AJ 7) AH)) (LO (W9 (AU (AJ 8) AH))))))))))))))
theorem Rx (F:Z1 K "_law_line" Gx f U):Z2 P w K Z Y n f U ["_law_a","_law_b","_law_c","_law_strict"] 4 A2:=Dh F DI rfl λ_ _ _ _ _ _ _ _=>(AR (Ab (AX (Av (Af Aq (Af Aq (AU (AJ 0) AH) (AU (AJ 1) AH)) (AU (AJ 2) AH)) (CW (Af Aq (Af Aq (AU (AJ 1) AH) (AU (AJ 0) AH)) (AU (AJ 2) AH)) (Af Aq (Af Aq (AU (AJ 2) AH) (AU (AJ 0) AH)) (AU (AJ 1) AH)) (AJ 3))))))
theorem MQ (F:Z1 K "_law_product" Eg f U)(a:Cp P w K Z Y n):Z2 P w K Z Y n f U ["_law_one","_law_other"] 2 Cd:=Dh F DI rfl λ_ _ _ _ _ _ b _=>(AR (Ab (AK a b rfl (Al (Af Aq (AU (AJ 0) AH) (AU (AJ 1) AH)) (Af Aq (AU (AJ 0) AH) (AU (AJ 1) AH))))))
theorem Pf (F:Z1 K "_law_ratio" Fv f U)(a:Cp P w K Z Y n):Z2 P w K Z Y n f U ["_law_one","_law_other"] 2 Db:=Dh F DI rfl λ_ _ _ _ _ _ b _=>(AR (Ab (AK a b rfl (Al (Af Aq (AU (AJ 0) AH) (AU (AJ 1) AH)) (Af Aq (AU (AJ 0) AH) (AU (AJ 1) AH))))))
theorem Rz (F:Z1 K "_law_rate" Gz f U)(b:IU P w K Z Y n)(d:Nk P w K Z Y n)(e:Rb P w K Z Y n):Z2 P w K Z Y n f U ["_law_plan","_law_k","_law_side","_law_rate_here","_law_one","_law_other"] 3 B5:=Dh F DI rfl λ_ _ _ _ _ _ a c=>(AL (HA (i:=4) (j:=5) rfl c rfl rfl (by decide) rfl rfl (Al (AU (AJ 0) (AJ 1)) (AU (AJ 0) (Af BC (AJ 1) AH))) rfl) (AL (Ca 3 c (AK e a rfl (Al (AK b a rfl (Al (AU (AJ 5) (Af BC AH (AJ 2))) (AU (AJ 4) (Af BC AH (AJ 2))))) (AK b a rfl (Al (AU (AJ 5) AH) (AU (AJ 4) AH)))))) (AR (Ab (AX (Al (AJ 3) (AK b a rfl (Al (AU (AJ 4) (Af BC AH (AJ 2))) (AK d a rfl (Al (AJ 3) (AU (AJ 4) AH)))))))))))
theorem Pb (F:Z1 K "_law_lines" Fs f U)(c:UI P w K Z Y n)(d:IU P w K Z Y n)(g:UJ P w K Z Y n)(e:IV P w K Z Y n)(h:Z "range" =none):Z2 P w K Z Y n f U ["_law_one","_law_other","_law_apart_here","_law_i","_law_j","_law_lines_here","_law_side","_law_nought","_law_up","_law_down","_law_kind","_law_reach","_law_off_here","_law_rate_here","_law_base","_law_more","_law_ground"] 5 CJ:=Dh F DI rfl λ_ _ _ _ _ _ a b=>(AL (EF (AX (CW (AX (Al AH AH)) (AX (Al AH AH)) (AX (Al (DL AH) AH)))) (Bc (n:=3) rfl (Aa (CU 7 b) (Aa (CU 8 b) (Aa (CU 9 b) BH))))) (AL (El (i:=5) b rfl (Or.inl rfl) (Bl (Bo (AK c a rfl (Av (AJ 8) (CW (AJ 7) (AK d a rfl (Al (AJ 7) (AU (AU (AU (AJ 0) AH) (AJ 3)) AH))) Ej)))))) (AL (Be (i:=5) AAr AAs BD (Bo (AK c a rfl (Av (AJ 9) (CW (AJ 7) (AU (AU (AU (AJ 0) AH) (Af BC (AJ 3) AH)) AH) Ej))))) (AL (Be (i:=5) AAr AAs BD (Bo (AK c a rfl (Av (AJ 7) (CW (AJ 8) (AK d a rfl (Al (AJ 7) (AU (AU (AU (AJ 1) AH) (AJ 4)) AH))) Ej))))) (AL (Be (i:=5) AAr AAs BD (Bo (AK c a rfl (Av (AJ 7) (CW (AJ 9) (AU (AU (AU (AJ 1) AH) (Af BC (AJ 4) AH)) AH) Ej))))) (AL (Be (i:=5) AAr AAs BD (Bo (AK c a rfl (Av (AJ 8) (CW (AJ 9) (AU (AU (AJ 0) AH) AH) Ej))))) (AL (Be (i:=5) AAr AAs BD (Bo (AK c a rfl (Av (AJ 9) (CW (AJ 8) (AU (AU (AJ 1) AH) AH) Ej))))) (AL (BX AAS rfl (G9 rfl h (Bo AH)) (CU 6 b) (AL (EF (AK g a rfl (CW (AU (AJ 0) AH) (AJ 3) (AJ 6))) (Bc (n:=2) rfl (Aa (CU 13 b) (Aa (CU 14 b) BH)))) (AL (EF (AK g a rfl (CW (AU (AJ 1) AH) (AJ 4) (AJ 6))) (Bc (n:=2) rfl (Aa (CU 15 b) (Aa (CU 16 b) BH)))) (AL (Ca 10 b (Af ES (AJ 6) AH)) (AL (Ca 11 b (AK e a rfl (Al (AU (AJ 2) (AJ 10)) (AK e a rfl (Al (AU (AU (AJ 0) AH) (AJ 10)) (AU (AU (AJ 1) AH) (AJ 10))))))) (AL (Ca 12 b (AK d a rfl (Al (AJ 14) (AJ 16)))) (AL (Be (i:=5) AAr AAs BD (Bo (AK c a rfl (Av (AK d a rfl (Al (AJ 7) (AJ 13))) (CW (AJ 15) (AK d a rfl (Al (AJ 11) (AJ 12))) Ej))))) (AR (Be (i:=5) AAr AAs BD (Bo (AK c a rfl (Av (AJ 13) (CW (AK d a rfl (Al (AJ 7) (AJ 15))) (AK e a rfl (Al (AJ 11) (AJ 12))) Ej))))))))))))) (AR (Ab (AJ 5)))))))))))
theorem Ul (F:Z1 K "_law_may" Il f U)(e:WH P w K Z Y n)(g:RY P w K Z Y n)(a:Z "len" =none)(b:Z "range" =none):Z2 P w K Z Y n f U ["_law_one","_law_other","_law_apart_here","_law_i","_law_j"] 3 CQ:=Dh F DI rfl λ_ _ _ _ _ _ c d=>(AL (BX AAS rfl (G9 rfl b (Bo (Af Cv (BP ON rfl a ACN (Bo (AU (AJ 0) AH))) AH))) (CU 3 d) (AR (BX AAS rfl (G9 rfl b (Bo (Af Cv (BP ON rfl a ACN (Bo (AU (AJ 1) AH))) AH))) (CU 4 d) (AR (BQ (C7 (AK e c rfl (Bo (AK g c rfl (Av (AJ 0) (Av (AJ 1) (CW (AJ 2) (AJ 3) (AJ 4)))))))) (AR (Ab Ej)) BA))))) (AR (Ab Ej)))
theorem Uj (F:Z1 K "_law_due" Ij f U)(d:WK P w K Z Y n)(e:Z "len" =none)(c:Z "range" =none):Z2 P w K Z Y n f U ["_law_told_here","_law_apart_here","_law_latter","_law_former","_law_one","_law_other"] 2 DA:=Dh F DI rfl λ_ _ _ _ _ _ a b=>(AL (BX AAS rfl (G9 rfl c (Bo (BP ON rfl e ACN (Bo (AJ 0))))) (CU 2 b) (AR (BX AAS rfl (G9 rfl c (Bo (AJ 2))) (CU 3 b) (AL (HA (i:=4) (j:=5) rfl b rfl rfl (by decide) rfl rfl (Al (AU (AJ 0) (AJ 3)) (AU (AJ 0) (AJ 2))) rfl) (AR (BQ (KH (Em (En (VL a) (AU (AJ 4) AH) Dk) (Em (En (VL a) (AU (AJ 5) AH) Dk) (ET (C7 (AK d a rfl (CW (AU (AJ 4) AH) (AU (AJ 5) AH) (AJ 1)))))))) (AR (Ab (AX (Al (AJ 3) (AJ 2))))) BA)))))) (AR (Ab Bk)))
theorem Wo (F:Z1 K "is_kept" LI f U):Z2 P w K Z Y n f U ["told_row"] 1 DN:=Dh F DI rfl λ_ _ _ _ _ _ a _=>(AR (Ab (DK (VL a) (AU (AJ 0) AH) Dk (CF _))))
theorem Z6 (F:Z1 K "summed" OL f U)(g:Z "max" =none)(h:Z "tuple" =none)(j:Z "zip" =none):Z2 P w K Z Y n f U ["one","many","other","more","numbers","weights","number","weight"] 4 GY:=by
 have a:(["former","latter","many","more"] :kn Str).Nodup:=by decide +kernel
 have b:(["number","weight","many"] :kn Str).Nodup:=by decide +kernel
 exact Dh F DI rfl λ_ _ _ _ _ _ e c=>(AL (Ca 4 c (Bt Cu rfl h ABC (Bo (EO (Dm rfl (sS rfl j (Al (AU (AJ 0) AH) (AU (AJ 2) AH))) (Co (own:=2) (ix:= [1,3]) (N:= ["former","latter" ,"many" ,"more" ]) rfl rfl rfl rfl rfl rfl (λ_ _ _ _ _ _=>(XC (n:=2) rfl (D9 (On 0 a) (D9 (On 1 a) S5)))) (λ_ _ _ _ _ _=>Dn) (λ_ _ _ _ _ _=>(Af BC (Af Aq (AJ 2) (AJ 0)) (Af Aq (AJ 3) (AJ 1)))))))))) (eO (by decide) (by decide) (by decide) (by decide) (by decide) (by decide) (AU (AJ 0) AH) (AU (AJ 2) AH) (λk d=>dW (i:=5) rfl c rfl (Or.inl rfl) (U4 d rfl rfl rfl rfl) (Xl (own:=2) (ix:= [1]) (N:= ["number","weight" ,"many" ]) rfl rfl rfl rfl rfl rfl (cI (Nj (RU (by decide)) Mb (Nj (RU (by decide)) Mb Xz RV) (UH Mb RV))) (λ_ _ _ _ _ _=>(SL rfl (FX (HR (i:=0) b rfl (Or.inl rfl)) (FX (HR (i:=1) b rfl (Or.inl rfl)) Mi)))) (λ_ _ _ _ _ _=>YS) (λ_ _ _ _ _ _=>(pv 0))) (λ_ _ _ _ _ _=>(B7 SH (pv 2) (pv 1)))) (λk d=>dX AAS rfl (U4 d rfl rfl rfl rfl) (SL rfl (FX (HR (i:=6) c rfl (Or.inl rfl)) (FX (HR (i:=7) c rfl (Or.inl rfl)) Mi))) (HS (iZ (wG e) (pv 5) (pv 6) (B7 Ig (dJ (wG e) (pv 5) (pv 6) BL ⟨rfl,rfl,rfl,rfl⟩) (B7 SH (pv 3) (pv 7))) rfl))) (AR (Ab (AX (CW (AJ 4) (BP (oF rfl) rfl g boot_max (Al (AU (AJ 0) AH) (AU (AJ 2) AH))) (AJ 5)))))))
theorem Wm (F:Z1 K "crossed" LG f U)(a:cN P w K Z Y n):Z2 P w K Z Y n f U ["low","high","at"] 3 EV:=Dh F DI rfl λ_ _ _ _ _ _ b _=>(AR (Ab (AK a b rfl (Av (AJ 0) (CW (DL (AU (AU (AJ 1) AH) (AJ 2))) (AJ 1) (AU (AU (AJ 0) AH) (AJ 2)))))))
theorem Uq (F:Z1 K "is_never" Iq f U):Z2 P w K Z Y n f U ["plane","total"] 1 Dt:=Dh F DI rfl λ_ _ _ _ _ _ a b=>(AL (Ca 1 b (AU (AU (AJ 0) AH) AH)) (AR (Ab (kA (DK GA (AJ 1) AH (CF _)) (LO (OQ (DK (DS a) (AJ 1) AH (CF _)) (LO (DK (DS a) (AU (AJ 0) AH) AH (CF _)))))))))
theorem Z3 (F:Z1 K "before" OH f U):Z2 P w K Z Y n f U ["one","other"] 2 Dc:=Dh F DI rfl λ_ _ _ _ _ _ _ _=>(AR (Ab (DK GA (Af Aq (AU (AJ 0) AH) (AU (AJ 1) AH)) (Af Aq (AU (AJ 1) AH) (AU (AJ 0) AH)) (CF _))))
theorem Wt (F:Z1 K "turn_of" LN f U):Z2 P w K Z Y n f U ["plane","at","total","factor"] 2 DP:=Dh F DI rfl λ_ _ _ _ _ _ _ a=>(AL (Ca 2 a (AU (AU (AJ 0) AH) AH)) (AL (Ca 3 a (AU (AU (AJ 0) AH) (AJ 1))) (AR (Ab (YY (En Fd (AJ 3) AH) (AX (Al (DL (AJ 2)) (AJ 3))) (AX (Al (AJ 2) (DL (AJ 3)))))))))
theorem Ph (F:Z1 K "is_tighter" Fx f U)(b:UN P w K Z Y n)(c:QJ P w K Z Y n):Z2 P w K Z Y n f U ["plane","other","at","here","there"] 3 Dd:=Dh F DI rfl λ_ _ _ _ _ _ a d=>(AL (Ca 3 d (AK c a rfl (Al (AJ 0) (AJ 2)))) (AL (Ca 4 d (AK c a rfl (Al (AJ 1) (AJ 2)))) (AL (BQ (C7 (AK b a rfl (Al (AJ 3) (AJ 4)))) (AR (Ab (DK GA (AU (AU (AJ 0) AH) (AJ 2)) AH (CF _)))) BA) (AL (BQ (C7 (AK b a rfl (Al (AJ 4) (AJ 3)))) (AR (Ab (DK Fd (AU (AU (AJ 0) AH) (AJ 2)) AH (CF _)))) BA) (AR (Ab (DK Fd (AU (AJ 0) AH) (AU (AJ 1) AH) (CF _))))))))
theorem Uw (F:Z1 K "tightest" Iz f U)(b:Re P w K Z Y n):Z2 P w K Z Y n f U ["planes","at","sign","told","plane"] 3 Ch:=Dh F DI rfl λ_ _ _ _ _ _ c a=>(AL (Ca 3 a Bk) (AL (BX AAS rfl (EQ (AJ 0)) (CU 4 a) (AR (BQ (KH (Em (En Fd (Af Aq (AU (AU (AJ 4) AH) (AJ 1)) (AJ 2)) AH) (ET (KH (VP (En LR (AJ 3) Bk) (Oc (C7 (AK b c rfl (CW (AJ 4) (AJ 3) (AJ 1)))))))))) (AR (Ca 3 a (AJ 4))) BA))) (AR (Ab (AJ 3)))))
theorem Up (F:Z1 K "fault_in" Ip f U)(e:QI P w K Z Y n)(c:WM P w K Z Y n)(d:Nr P w K Z Y n):Z2 P w K Z Y n f U ["planes","at","plane","high","both"] 2 Ds:=Dh F DI rfl λ_ _ _ _ _ _ a b=>(AL (BX AAS rfl (EQ (AJ 0)) (CU 2 b) (AR (BQ (KH (Em (En (DS a) (AU (AU (AJ 2) AH) (AJ 1)) AH) (ET (C7 (AK c a rfl (Bo (AJ 2))))))) (AR (Ab (AJ 2))) BA))) (AL (Ca 3 b (AK d a rfl (CW (AJ 0) (AJ 1) (DL AH)))) (AL (BQ (En LR (AJ 3) Bk) (AR (Ab Bk)) BA) (AL (Ca 4 b (AK e a rfl (CW (AK d a rfl (CW (AJ 0) (AJ 1) AH)) (AJ 3) (AJ 1)))) (AR (Ab (YY (C7 (AK c a rfl (Bo (AJ 4)))) (AJ 4) Bk)))))))
theorem Z4 (F:Z1 K "common" OI f U):Z2 P w K Z Y n f U ["one","other"] 2 FO:=Dh F DI rfl λ_ _ _ _ _ _ a b=>(AL (VM AAS (En (VL a) (AJ 1) AH) (AR (HA (i:=0) (j:=1) rfl b rfl rfl (by decide) rfl rfl (Al (AJ 1) (Af LS (AJ 0) (AJ 1))) rfl))) (AR (Ab (AJ 0))))
theorem h8 (F:Z1 K "part" W5 f U)(c:Nn P w K Z Y n)(a:Z "abs" =none):Z2 P w K Z Y n f U ["top","bottom","shared"] 2 Fg:=Dh F DI rfl λ_ _ _ _ _ _ d b=>(AL (Ca 2 b (AK c d rfl (Al (BP Sw rfl a boot_abs (Bo (AJ 0))) (BP Sw rfl a boot_abs (Bo (AJ 1)))))) (AL (BQ (En GA (AJ 1) AH) (AR (Ca 2 b (DL (AJ 2)))) BA) (AR (Ab (AX (Al (Af ES (AJ 0) (AJ 2)) (Af ES (AJ 1) (AJ 2))))))))
theorem c8 (F:Z1 K "minus" Ss f U)(a:Nq P w K Z Y n):Z2 P w K Z Y n f U ["one","other"] 2 EL:=Dh F DI rfl λ_ _ _ _ _ _ b _=>(AR (Ab (AK a b rfl (Al (Af Cv (Af Aq (AU (AJ 0) AH) (AU (AJ 1) AH)) (Af Aq (AU (AJ 1) AH) (AU (AJ 0) AH))) (Af Aq (AU (AJ 0) AH) (AU (AJ 1) AH))))))
theorem Us (F:Z1 K "negative" Iu f U):Z2 P w K Z Y n f U ["number"] 1 Cg:=Dh F DI rfl λ_ _ _ _ _ _ _ _=>(AR (Ab (AX (Al (DL (AU (AJ 0) AH)) (AU (AJ 0) AH)))))
theorem h9 (F:Z1 K "plus" W6 f U)(a:Nq P w K Z Y n):Z2 P w K Z Y n f U ["one","other"] 2 E5:=Dh F DI rfl λ_ _ _ _ _ _ b _=>(AR (Ab (AK a b rfl (Al (Af BC (Af Aq (AU (AJ 0) AH) (AU (AJ 1) AH)) (Af Aq (AU (AJ 1) AH) (AU (AJ 0) AH))) (Af Aq (AU (AJ 0) AH) (AU (AJ 1) AH))))))
theorem R7 (F:Z1 K "side_form" G4 f U)(c:X3 P w K Z Y n)(d:Np P w K Z Y n)(e:Rf P w K Z Y n):Z2 P w K Z Y n f U ["wedge","number","side","off","one","other","sizes","lates","base","slope","other_base","other_slope"] 2 BS:=Dh F DI rfl λ_ _ _ _ _ _ b a=>(AL (EF (AJ 0) (Bc (n:=4) rfl (Aa (CU 4 a) (Aa (CU 5 a) (Aa (CU 6 a) (Aa (CU 7 a) BH)))))) (AL (Ca 2 a (Af ES (Af Cv (AJ 1) AH) AH)) (AL (EF (AU (AU (AJ 4) AH) (AJ 2)) (Bc (n:=2) rfl (Aa (CU 8 a) (Aa (CU 9 a) BH)))) (AL (EF (AU (AU (AJ 5) AH) (AJ 2)) (Bc (n:=2) rfl (Aa (CU 10 a) (Aa (CU 11 a) BH)))) (AL (Ca 3 a (AK c b rfl (Al (AJ 8) (AJ 10)))) (AL (BQ (En (DS b) (Af LS (AJ 1) AH) AH) (AR (Ab (AX (CW (AK c b rfl (Al (AU (AJ 6) (AJ 2)) (AJ 3))) (AK d b rfl (Bo (AJ 9))) (AJ 11))))) BA) (AR (Ab (AX (CW (AK e b rfl (Al (AU (AJ 6) (AJ 2)) (AJ 3))) (AJ 9) (AK d b rfl (Bo (AJ 11)))))))))))))
theorem R8 (F:Z1 K "time_form" G5 f U)(e:Np P w K Z Y n)(b:Kc K Z "BACK" (.tup [(.int (-1)),(.int 1)]))(a:Kc K Z "NOUGHT" (.tup [(.int 0),(.int 1)]))(c:Kc K Z "ONCE" (.tup [(.int 1),(.int 1)])):Z2 P w K Z Y n f U ["wedge","number","forms","one","other","sizes","lates"] 2 D5:=Dh F DI rfl λ_ _ _ _ _ _ g d=>(AL (EF (AJ 0) (Bc (n:=4) rfl (Aa (CU 3 d) (Aa (CU 4 d) (Aa (CU 5 d) (Aa (CU 6 d) BH)))))) (AL (Ca 2 d (AX (Av (AX (CW (AK e g rfl (Bo (AU (AJ 3) AH))) (BM c rfl) (BM a rfl))) (Av (AX (CW (AU (AJ 3) AH) (BM b rfl) (BM a rfl))) (Av (AX (CW (AK e g rfl (Bo (AU (AJ 4) AH))) (BM a rfl) (BM c rfl))) (CW (AX (CW (AU (AJ 4) AH) (BM a rfl) (BM b rfl))) (AX (CW (AU (AJ 6) AH) (BM c rfl) (BM b rfl))) (AX (CW (AU (AJ 6) AH) (BM b rfl) (BM c rfl))))))))) (AR (Ab (AU (AJ 2) (AJ 1))))))
theorem Wn (F:Z1 K "form_of" LH f U)(b:UP P w K Z Y n)(c:UQ P w K Z Y n):Z2 P w K Z Y n f U ["wedge","number"] 2 FP:=Dh F DI rfl λ_ _ _ _ _ _ a _=>(AR (Ab (YY (En GA (AJ 1) AH) (AK c a rfl (Al (AJ 0) (AJ 1))) (AK b a rfl (Al (AJ 0) (AJ 1))))))
theorem Z5 (F:Z1 K "placed" OJ f U)(c:Z "tuple" =none):Z2 P w K Z Y n f U ["plane","at","value","numbers","top","bottom"] 3 D4:=by
 have a:(["number","bottom"] :kn Str).Nodup:=by decide +kernel
 exact Dh F DI rfl λ_ _ _ _ _ _ _ b=>(AL (EF (AJ 2) (Bc (n:=2) rfl (Aa (CU 4 b) (Aa (Ya (i:=5) b rfl (Or.inr rfl)) BH)))) (AL (OY (i:=3) rfl b rfl (Or.inl rfl) (EQ (AU (AJ 0) AH)) (Co (own:=1) (ix:= [5]) (N:= ["number","bottom" ]) rfl rfl rfl rfl rfl rfl (λ_ _ _ _ _ _=>(On 0 a)) (λ_ _ _ _ _ _=>Dn) (λ_ _ _ _ _ _=>(Af Aq (AJ 1) (AJ 0))))) (AL (jL (i:=3) AH (Af Aq (AU (AU (AJ 0) AH) (AJ 1)) (AJ 4))) (AL (S7 (i:=3) (AJ 1) AH) (AR (Ab (AX (CW (Bt Cu rfl c ABC (Bo (AJ 3))) (AU (AJ 0) AH) (AU (AJ 0) AH)))))))))
theorem K6 (F:Z1 K "shared_bottom" EE f U)(b:Nn P w K Z Y n):Z2 P w K Z Y n f U ["numbers","told","top","bottom"] 1 CK:=Dh F DI rfl λ_ _ _ _ _ _ c a=>(AL (Ca 1 a AH) (AL (BX AAS rfl (EQ (AJ 0)) (Bc (n:=2) rfl (Aa (CU 2 a) (Aa (CU 3 a) BH))) (AR (oW (i:=1) a rfl (Or.inl rfl) (Af ES (AJ 3) (AK b c rfl (Al (AJ 1) (AJ 3)))) oN))) (AR (Ab (AJ 1)))))
theorem Ut (F:Z1 K "plane_of" Iv f U)(c:MO P w K Z Y n)(d:Z "tuple" =none):Z2 P w K Z Y n f U ["form","strict","number","shared","numbers"] 3 Ea:=by
 have a:(["top","bottom","shared"] :kn Str).Nodup:=by decide +kernel
 exact Dh F DI rfl λ_ _ _ _ _ _ e b=>(AL (Oa (i:=3) b rfl (Or.inr rfl) (AK c e rfl (Bo (AJ 0)))) (AL (Ca 4 b (Bt Cu rfl d ABC (Bo (EO (Dm rfl (EQ (AJ 0)) (Co (own:=2) (ix:= [3]) (N:= ["top","bottom" ,"shared" ]) rfl rfl rfl rfl rfl rfl (λ_ _ _ _ _ _=>(XC (n:=2) rfl (D9 (On 0 a) (D9 (On 1 a) S5)))) (λ_ _ _ _ _ _=>Dn) (λ_ _ _ _ _ _=>(Af Aq (AJ 0) (Af ES (AJ 2) (AJ 1)))))))))) (AR (Ab (AX (CW (AJ 4) (AJ 1) (oI (AJ 2) (AJ 3))))))))
theorem dA (F:Z1 K "whole" Sv f U):Z2 P w K Z Y n f U ["n"] 1 HH:=Dh F DI rfl λ_ _ _ _ _ _ _ _=>(AR (Ab (AX (Al (AJ 0) AH))))
theorem MS (F:Z1 K "told_weights" Ei f U)(d:Nn P w K Z Y n)(e:X4 P w K Z Y n)(g:Z "sorted" =none)(h:Z "tuple" =none):Z2 P w K Z Y n f U ["weights","shared","weight"] 1 Ci:=by
 have a:(["number","shared","weights"] :kn Str).Nodup:=by decide +kernel
 exact Dh F DI rfl λ_ _ _ _ _ _ b c=>(AL (Oa (i:=1) c rfl (Or.inr rfl) AH) (AL (BX AAS rfl (i8 (AJ 0)) (CU 2 c) (AR (Oa (i:=1) c rfl (Or.inr rfl) (AK d b rfl (Al (AJ 2) (AJ 1)))))) (AR (Ab (Bt Cu rfl h ABC (Bo (EO (Dm rfl (EQ (BP (dz rfl) rfl g boot_sorted (Bo (AJ 0)))) (Co (own:=1) (ix:= [1,0]) (N:= ["number","shared" ,"weights" ]) rfl rfl rfl rfl rfl rfl (λ_ _ _ _ _ _=>(On 0 a)) (λ_ _ _ _ _ _=>Dn) (λ_ _ _ _ _ _=>(AX (Al (AJ 0) (AK e b rfl (Bo (Af ES (sP b (AJ 2) (AJ 0) (λ_ _=>rfl)) (AJ 1))))))))))))))))
theorem h7 (F:Z1 K "over" W4 f U)(a:Nq P w K Z Y n):Z2 P w K Z Y n f U ["one","other"] 2 IH:=Dh F DI rfl λ_ _ _ _ _ _ b _=>(AR (Ab (AK a b rfl (Al (Af Aq (AU (AJ 0) AH) (AU (AJ 1) AH)) (Af Aq (AU (AJ 0) AH) (AU (AJ 1) AH))))))
theorem Uu (F:Z1 K "range_in" Iw f U)(c:Nq P w K Z Y n)(d:Nr P w K Z Y n)(e:QJ P w K Z Y n):Z2 P w K Z Y n f U ["planes","at","low","least","high","greatest"] 2 Eb:=Dh F DI rfl λ_ _ _ _ _ _ a b=>(AL (Ca 2 b (AK d a rfl (CW (AJ 0) (AJ 1) AH))) (AL (Ca 3 b (AK e a rfl (Al (AJ 2) (AJ 1)))) (AL (Ca 3 b (AK c a rfl (Al (AU (AJ 3) AH) (AU (AJ 3) AH)))) (AL (Ca 4 b (AK d a rfl (CW (AJ 0) (AJ 1) (DL AH)))) (AL (BQ (En LR (AJ 4) Bk) (AR (Ab (AX (CW (AJ 3) (Af Cv AH (AU (AJ 2) AH)) Bk)))) BA) (AL (Ca 5 b (AK e a rfl (Al (AJ 4) (AJ 1)))) (AR (Ab (AX (CW (AJ 3) (Af Cv AH (AU (AJ 2) AH)) (AK c a rfl (Al (AU (AJ 5) AH) (AU (AJ 5) AH)))))))))))))
theorem Ux (F:Z1 K "value_in" JA f U)(c:cK P w K Z Y n)(d:Rf P w K Z Y n)(e:WP P w K Z Y n)(g:X4 P w K Z Y n):Z2 P w K Z Y n f U ["planes","at","least","held","greatest"] 2 Cj:=Dh F DI rfl λ_ _ _ _ _ _ a b=>(AL (EF (AK e a rfl (Al (AJ 0) (AJ 1))) (Bc (n:=3) rfl (Aa (CU 2 b) (Aa (CU 3 b) (Aa (CU 4 b) BH))))) (AR (Ab (AK c a rfl (Al (AK d a rfl (Al (AJ 2) (AJ 4))) (AK g a rfl (Bo AH)))))))
theorem Ie (F:Z1 K "weights_by_time" Dj f U)(d:UN P w K Z Y n)(e:Rf P w K Z Y n)(a:Kc K Z "ONCE" (.tup [(.int 1),(.int 1)])):Z2 P w K Z Y n f U ["wedge","one","other","sizes","lates"] 1 Bu:=Dh F DI rfl λ_ _ _ _ _ _ b c=>(AL (EF (AJ 0) (Bc (n:=4) rfl (Aa (CU 1 c) (Aa (CU 2 c) (Aa (CU 3 c) (Aa (CU 4 c) BH)))))) (AL (BQ (Ob (C7 (AK d b rfl (Al (AU (AJ 1) AH) (AK e b rfl (Al (AU (AJ 2) AH) (AU (AJ 4) AH))))))) (AR (Ab (AX (CW (AX (Al AH (BM a rfl))) (AX (Al AH (BM a rfl))) (AX (Al AH (BM a rfl))))))) BA) (AL (BQ (Ob (C7 (AK d b rfl (Al (AU (AJ 2) AH) (AK e b rfl (Al (AU (AJ 1) AH) (AU (AJ 4) AH))))))) (AR (Ab (AX (CW (AX (Al AH (BM a rfl))) (AX (Al AH (BM a rfl))) (AX (Al AH (BM a rfl))))))) BA) (AR (Ab Bk)))))
theorem OO:DH ["planes","at","most","lows","highs","told","low","high"] ["planes","at","most"] (Au HU):=DI
theorem Wu (F:RC K "without" "without" HU f U 2)(g:QI P w K Z Y n)(h:Z "len" =none)(j:Z "set" =none):De P w K Z Y MD (n+1) f U ["planes","at","most"] (CH K 3 EY):=by
 have a:=OO.nd;have b:(["plane","at"] :kn Str).Nodup:=by decide +kernel
 have c:(["plane","at"] :kn Str).Nodup:=by decide +kernel
 have d:(["plane","at"] :kn Str).Nodup:=by decide +kernel
 exact cB F OO rfl λ_ _ _ _ _ _ e=>(AL (OZ (i:=3) rfl a rfl (Or.inl rfl) (EQ (AJ 0)) (Co (own:=1) (ix:= [1]) (N:= ["plane","at" ]) rfl rfl rfl rfl rfl rfl (λ_ _ _ _ _ _=>(On 0 b)) (λ_ _ _ _ _ _=>(HV (En Fd (AU (AU (AJ 0) AH) (AJ 1)) AH))) (λ_ _ _ _ _ _=>(AJ 0)))) (AL (OZ (i:=4) rfl a rfl (Or.inl rfl) (EQ (AJ 0)) (Co (own:=1) (ix:= [1]) (N:= ["plane","at" ]) rfl rfl rfl rfl rfl rfl (λ_ _ _ _ _ _=>(On 0 c)) (λ_ _ _ _ _ _=>(HV (En GA (AU (AU (AJ 0) AH) (AJ 1)) AH))) (λ_ _ _ _ _ _=>(AJ 0)))) (AL (OY (i:=5) rfl a rfl (Or.inl rfl) (EQ (AJ 0)) (Co (own:=1) (ix:= [1]) (N:= ["plane","at" ]) rfl rfl rfl rfl rfl rfl (λ_ _ _ _ _ _=>(On 0 d)) (λ_ _ _ _ _ _=>(HV (En (DS e) (AU (AU (AJ 0) AH) (AJ 1)) AH))) (λ_ _ _ _ _ _=>(AJ 0)))) (AL (BX AAS rfl (EQ (AJ 3)) (CU 6 a) (AR (BX AAS rfl (EQ (AJ 4)) (CU 7 a) (AR (BQ (En sV (oK rfl h rfl j (AU (AJ 6) AH) (AU (AJ 7) AH)) (AJ 2)) (AR (Be (i:=5) AAr AAs BD (Bo (AK g e rfl (CW (AJ 6) (AJ 7) (AJ 1)))))) BA))))) (AR (Ab (AJ 5)))))))
theorem Wq (F:Z1 K "meet_in" LJ f U)(h:WL P w K Z Y n)(j:Ze P w K Z Y n)(k:cM P w K Z Y n)(l:WO P w K Z Y n)(o:Nt P w K Z Y n)(g:WR P w K Z Y n)(p:Jt P w K Z Y n)(r:Zj P w K Z Y n)(s:Z "range" =none)(a:Kc K Z "STRICT" (.tup [(.int 0),(.int 1),(.int 0),(.int 1),(.int 0),(.int 0),(.int 1),(.int 1),(.int 1),(.int 1),(.int 1),(.int 1)])):Z2 P w K Z Y n f U ["wedge","weights","planes","first","fault","s"] 1 FQ:=by
 have d:(["number","wedge"] :kn Str).Nodup:=by decide +kernel
 have e:(["plane","s"] :kn Str).Nodup:=by decide +kernel
 exact Dh F DI rfl λ_ _ _ _ _ _ b c=>(AL (Ca 1 c (AK p b rfl (Bo (AJ 0)))) (AL (BQ (En Mn (AJ 1) Bk) (AR (Ab (AX (Al Bk (AJ 1))))) BA) (AL (OZ (i:=2) rfl c rfl (Or.inl rfl) (G9 rfl s (Bo AH)) (Co (own:=1) (ix:= [0]) (N:= ["number","wedge" ]) rfl rfl rfl rfl rfl rfl (λ_ _ _ _ _ _=>(On 0 d)) (λ_ _ _ _ _ _=>Dn) (λ_ _ _ _ _ _=>(AK l b rfl (CW (AK j b rfl (Al (AJ 1) (AJ 0))) (AU (BM a rfl) (AJ 0)) (AJ 0)))))) (AL (Ca 3 c (d7 r b rfl (Al (AJ 2) AH))) (AL (Ca 4 c (AK h b rfl (Al (AJ 3) AH))) (AL (BQ (En Mn (AJ 4) Bk) (AR (Ab (AX (Al Bk (AK o b rfl (Bo (AU (AJ 4) AH))))))) BA) (AL (Oa (i:=5) c rfl (Or.inr rfl) (AK g b rfl (Al (AJ 3) AH))) (AR (Ab (AX (Al (AX (Al (AJ 5) (AK g b rfl (Al (EO (Dm rfl (EQ (AJ 2)) (Co (own:=1) (ix:= [5]) (N:= ["plane","s" ]) rfl rfl rfl rfl rfl rfl (λ_ _ _ _ _ _=>(On 0 e)) (λ_ _ _ _ _ _=>Dn) (λ_ _ _ _ _ _=>(AK k b rfl (CW (AJ 0) AH (AJ 1))))))) AH)))) Bk)))))))))))
theorem c9 (F:Z1 K "times" Su f U)(a:Nq P w K Z Y n):Z2 P w K Z Y n f U ["one","other"] 2 Ja:=Dh F DI rfl λ_ _ _ _ _ _ b _=>(AR (Ab (AK a b rfl (Al (Af Aq (AU (AJ 0) AH) (AU (AJ 1) AH)) (Af Aq (AU (AJ 0) AH) (AU (AJ 1) AH))))))
theorem K5 (F:Z1 K "piece_between" ED f U)(c:X3 P w K Z Y n)(d:cK P w K Z Y n)(e:gW P w K Z Y n)(g:Z "zip" =none):Z2 P w K Z Y n f U ["former","latter","span","lines","low","high","slope"] 2 Bs:=Dh F DI rfl λ_ _ _ _ _ _ a b=>(AL (Ca 2 b (AK c a rfl (Al (AU (AJ 1) AH) (AU (AJ 0) AH)))) (AL (El (i:=3) b rfl (Or.inl rfl) (Bl FE)) (AL (BX AAS rfl (sS rfl g (Al (OR (AJ 0) (jK AH) jJ) (OR (AJ 1) (jK AH) jJ))) (Bc (n:=2) rfl (Aa (CU 4 b) (Aa (CU 5 b) BH))) (AL (Ca 6 b (AK d a rfl (Al (AK c a rfl (Al (AJ 5) (AJ 4))) (AJ 2)))) (AR (Be (i:=3) AAr AAs BD (Bo (AX (Al (AK c a rfl (Al (AJ 4) (AK e a rfl (Al (AJ 6) (AU (AJ 0) AH))))) (AJ 6)))))))) (AR (Ab (AX (CW (AU (AJ 0) AH) (AU (AJ 1) AH) (AJ 3))))))))
theorem R6 (F:Z1 K "pieces_of" G3 f U)(b:MN P w K Z Y n)(c:Z "len" =none)(d:Z "range" =none):Z2 P w K Z Y n f U ["plan"] 1 DO:=by
 have a:(["at","plan"] :kn Str).Nodup:=by decide +kernel
 exact Dh F DI rfl λ_ _ _ _ _ _ e _=>(AR (Ab (EO (Dm rfl (G9 rfl d (Bo (Af Cv (BP ON rfl c ACN (Bo (AJ 0))) AH))) (Co (own:=1) (ix:= [0]) (N:= ["at","plan" ]) rfl rfl rfl rfl rfl rfl (λ_ _ _ _ _ _=>(On 0 a)) (λ_ _ _ _ _ _=>Dn) (λ_ _ _ _ _ _=>(AK b e rfl (Al (AU (AJ 1) (AJ 0)) (AU (AJ 1) (Af BC (AJ 0) AH))))))))))
theorem Ws (F:Z1 K "size_of" LM f U):Z2 P w K Z Y n f U ["apart","side"] 2 C0:=Dh F DI rfl λ_ _ _ _ _ _ a _=>(AR (Ab (YY (En (DS a) (AJ 1) AH) (AU (AJ 0) AH) (AU (AJ 0) AH))))
theorem Uv (F:Z1 K "sizes_of" Iy f U)(d:Rf P w K Z Y n)(b:Zi P w K Z Y n)(e:Z "range" =none):Z2 P w K Z Y n f U ["one","other","apart","told","side","asides"] 3 Ec:=Dh F DI rfl λ_ _ _ _ _ _ a c=>(AL (El (i:=3) c rfl (Or.inl rfl) (Bl FE)) (AL (BX AAS rfl (G9 rfl e (Bo AH)) (CU 4 c) (AL (Ca 5 c (AK d a rfl (Al (AK b a rfl (Al (AU (AJ 0) AH) (AJ 4))) (AK b a rfl (Al (AU (AJ 1) AH) (AJ 4)))))) (AR (Be (i:=3) AAr AAs BD (Bo (AK d a rfl (Al (AK b a rfl (Al (AJ 2) (AJ 4))) (AJ 5)))))))) (AR (Ab (AJ 3)))))
theorem R9 (F:Z1 K "wedges_of" G6 f U)(c:UO P w K Z Y n)(e:WQ P w K Z Y n)(d:Z "enumerate" =none):Z2 P w K Z Y n f U ["one","other","apart","sizes","lates","others","told","i","former","j","latter"] 3 DQ:=Dh F DI rfl λ_ _ _ _ _ _ b a=>(AL (Ca 3 a (AK e b rfl (CW (AJ 0) (AJ 1) (AJ 2)))) (AL (Ca 4 a (AX (Al (AU (AU (AJ 0) AH) AH) (AU (AU (AJ 1) AH) AH)))) (AL (Ca 5 a (AK c b rfl (Bo (AU (AJ 1) AH)))) (AL (El (i:=6) a rfl (Or.inl rfl) (Bl FE)) (AL (BX AAS rfl (oM rfl d (Bo (AK c b rfl (Bo (AU (AJ 0) AH))))) (Bc (n:=2) rfl (Aa (CU 7 a) (Aa (CU 8 a) BH))) (AR (BX AAS rfl (oM rfl d (Bo (AJ 5))) (Bc (n:=2) rfl (Aa (CU 9 a) (Aa (CU 10 a) BH))) (AR (Be (i:=6) AAr AAs BD (Bo (AX (CW (AJ 7) (AJ 9) (AX (Av (AJ 8) (CW (AJ 10) (AJ 3) (AJ 4)))))))))))) (AR (Ab (AJ 6))))))))
theorem Wr (F:Z1 K "meet_of" LK f U)(c:Zg P w K Z Y n)(d:UR P w K Z Y n)(e:Z "tuple" =none):Z2 P w K Z Y n f U ["one","other","apart","rows","i","j","wedge","moments","weights"] 3 EX:=Dh F DI rfl λ_ _ _ _ _ _ b a=>(AL (El (i:=3) a rfl (Or.inl rfl) (Bl FE)) (AL (BX AAS rfl (EQ (AK d b rfl (CW (AJ 0) (AJ 1) (AJ 2)))) (Bc (n:=3) rfl (Aa (CU 4 a) (Aa (CU 5 a) (Aa (CU 6 a) BH)))) (AL (EF (AK c b rfl (Bo (AJ 6))) (Bc (n:=2) rfl (Aa (CU 7 a) (Aa (CU 8 a) BH)))) (AL (BQ (En Mn (AJ 7) Bk) (AR (Ab (AX (CW Dk (AU (AJ 7) AH) (AU (AJ 7) AH))))) BA) (AR (Be (i:=3) AAr AAs BD (Bo (AX (CW (AJ 4) (AJ 5) (AJ 8))))))))) (AR (Ab (AX (Al Dk (Bt Cu rfl e ABC (Bo (AJ 3)))))))))
theorem Ur (F:Z1 K "may_meet" Ir f U)(b:Zh P w K Z Y n):Z2 P w K Z Y n f U ["one","other","apart"] 3 Du:=Dh F DI rfl λ_ _ _ _ _ _ a _=>(AR (Ab (DK (DS a) (AU (AK b a rfl (CW (AJ 0) (AJ 1) (AJ 2))) AH) Dk (CF _))))
theorem N6 (F:Z1 K "first_fault" FD f U)(c:Zf P w K Z Y n)(d:WN P w K Z Y n)(e:Z "enumerate" =none)(g:Z "range" =none):Z2 P w K Z Y n f U ["told","apart","latter","row","former"] 2 Bx:=Dh F DI rfl λ_ _ _ _ _ _ a b=>(AL (BX AAS rfl (sR rfl e (Bo (AJ 0))) (Bc (n:=2) rfl (Aa (CU 2 b) (Aa (CU 3 b) BH))) (AR (BX AAS rfl (G9 rfl g (Bo (AJ 2))) (CU 4 b) (AR (BQ (KH (Em (C7 (AK c a rfl (Bo (AJ 3)))) (Em (C7 (AK c a rfl (Bo (AU (AJ 0) (AJ 4))))) (ET (C7 (AK d a rfl (CW (AU (AU (AJ 0) (AJ 4)) AH) (AU (AJ 3) AH) (AJ 1)))))))) (AR (Ab (AX (Al (AJ 4) (AJ 2))))) BA))))) (AR (Ab Bk)))
theorem Pg (F:Z1 K "_law_right" Fw f U)(e:WI P w K Z Y n)(g:Hq P w K Z Y n)(h:Z "any" =none)(i:Z "bool" =none)(c:Z "isinstance" =none)(j:Z "tuple" =none):Z2 P w K Z Y n f U ["_law_told_here","_law_apart_here","_law_handed","_law_found","_law_due_here"] 3 Br:=by
 have a:(["_law_one"] :kn Str).Nodup:=by decide +kernel
 exact Dh F DI rfl λ_ _ _ _ _ _ b d=>(AL (Ca 3 d (AK g b rfl (Al (AJ 2) (AJ 1)))) (AL (Ca 4 d (AK e b rfl (Al (AJ 0) (AJ 1)))) (AL (BQ (En LR (AJ 4) Bk) (AR (Ab (DK LR (AJ 3) Bk (CF _)))) BA) (AR (Ab (OQ (BP Sx rfl c AEB (Al (AJ 3) (YZ (n:="tuple") rfl j ABC rfl))) (OQ (DK (DS b) (AJ 3) (AJ 4) (CF _)) (LO (W9 (BP (oD rfl) rfl h boot_any (Bo (EO (Dm rfl (EQ (AJ 3)) (Co (own:=1) (ix:= []) (N:= ["_law_one"]) rfl rfl rfl rfl rfl rfl (λ_ _ _ _ _ _=>(On 0 a)) (λ_ _ _ _ _ _=>Dn) (λ_ _ _ _ _ _=>(BP Sx rfl c AEB (Al (AJ 0) (YZ (n:="bool") rfl i boot_bool rfl))))))))))))))))))
theorem N4 (F:Z1 K "_law_bounds" FC f U)(b:Bg P w K Z Y n):Z2 P w K Z Y n f U ["_law_tape_here","_law_some"] 1 C9:=Dh F DI rfl λ_ _ _ _ _ _ a c=>(AL (Ca 1 c (EO (Bl (Av (AX (Al AH AH)) (Av (AX (Al AH AH)) (Av (AX (Al AH AH)) (CW (AX (Al AH AH)) (AX (Al AH AH)) (AX (Al AH AH))))))))) (AL (BQ (En (DS a) (AK b a rfl (Al (AJ 0) AH)) AH) (AR (Ab (AX (CW (AX (Al AH AH)) (AX (Al AH AH)) (AX (Al AH AH)))))) BA) (AR (Ab (AX (CW (AU (AJ 1) (AK b a rfl (Al (AJ 0) AH))) (AU (AJ 1) (AK b a rfl (Al (AJ 0) AH))) (AU (AJ 1) (AK b a rfl (Al (AJ 0) AH)))))))))
theorem Pe (F:Z1 K "_law_place" Fu f U)(b:Bg P w K Z Y n)(c:Cp P w K Z Y n):Z2 P w K Z Y n f U ["_law_tape_here","_law_kind"] 1 Cz:=Dh F DI rfl λ_ _ _ _ _ _ a d=>(AL (Ca 1 d (AK b a rfl (Al (AJ 0) AH))) (AL (BQ (En GA (AJ 1) AH) (AR (Ab (AX (Al (Af Cv (AK b a rfl (Al (AJ 0) AH)) AH) AH)))) BA) (AL (BQ (En (DS a) (AJ 1) AH) (AR (Ab (AK c a rfl (Al (Af Cv (AK b a rfl (Al (AJ 0) AH)) AH) AH)))) BA) (AR (Ab (AK c a rfl (Al (Af Cv (AK b a rfl (Al (AJ 0) AH)) AH) AH)))))))
theorem R3 (F:Z1 K "_law_span" G1 f U)(b:Bg P w K Z Y n)(c:Cp P w K Z Y n):Z2 P w K Z Y n f U ["_law_tape_here","_law_way"] 1 Es:=Dh F DI rfl λ_ _ _ _ _ _ a d=>(AL (Ca 1 d (AK b a rfl (Al (AJ 0) AH))) (AL (BQ (En GA (AJ 1) AH) (AR (Ab (AX (Al (Af BC AH (AK b a rfl (Al (AJ 0) AH))) AH)))) BA) (AR (Ab (AK c a rfl (Al (Af BC AH (AK b a rfl (Al (AJ 0) AH))) (Af Cv (AJ 1) AH)))))))
theorem Uk (F:Z1 K "_law_leg" Ik f U)(b:Bg P w K Z Y n)(e:Cp P w K Z Y n)(d:Ra P w K Z Y n)(g:UL P w K Z Y n)(h:IV P w K Z Y n)(j:Z "range" =none)(k:Z "tuple" =none):Z2 P w K Z Y n f U ["_law_tape_here","_law_broad","_law_m","_law_spot","_law_corners","_law_k","_law_way"] 2 EZ:=Dh F DI rfl λ_ _ _ _ _ _ a c=>(AL (Ca 2 c (AK e a rfl (Al (AK b a rfl (Al (AJ 0) AH)) (AU (EO (Bl (Av AH (CW AH AH AH)))) (AK b a rfl (Al (AJ 0) AH)))))) (AL (Ca 3 c (EO (Bl (CW (AX (Al (AK b a rfl (Al (AJ 0) (AJ 1))) AH)) (AK d a rfl (Bo (AJ 0))) (AX (Al (AK b a rfl (Al (AJ 0) AH)) AH)))))) (AL (El (i:=4) c rfl (Or.inl rfl) (Bl (Bo (AX (Av (AJ 2) (CW (AU (AJ 3) AH) (AU (AJ 3) AH) (AU (AJ 3) AH))))))) (AL (BX AAS rfl (G9 rfl j (Bo (Af BC AH (AK b a rfl (Al (AJ 0) AH))))) (CU 5 c) (AL (Ca 2 c (AK h a rfl (Al (AJ 2) (AK g a rfl (Bo (AJ 0)))))) (AL (Ca 6 c (AK b a rfl (Al (AJ 0) AH))) (AL (BQ (En Fd (AJ 6) AH) (AR (Ca 3 c (EO (Bl (CW (AX (Al (AK b a rfl (Al (AJ 0) (AJ 1))) AH)) (AU (AJ 3) AH) (AU (EO (Bl (Al (AU (AJ 3) AH) (AX (Al (AK b a rfl (Al (AJ 0) AH)) AH))))) (Af LS (AJ 6) AH))))))) BA) (AL (BQ (En Fd (AJ 6) AH) (AR (Ca 3 c (EO (Bl (CW (AU (AJ 3) AH) (AK d a rfl (Bo (AJ 0))) (AU (AJ 3) AH)))))) BA) (AR (Be (i:=4) AAr AAs BD (Bo (AX (Av (AJ 2) (CW (AU (AJ 3) AH) (AU (AJ 3) AH) (AU (AJ 3) AH)))))))))))) (AR (Ab (Bt Cu rfl k ABC (Bo (AJ 4)))))))))
theorem Pd (F:Z1 K "_law_names" Ft f U)(b:Bg P w K Z Y n)(d:Z "len" =none)(e:Z "range" =none):Z2 P w K Z Y n f U ["_law_tape_here","_law_many","_law_letters","_law_stem","_law_at","_law_found","_law_k","_law_first","_law_twice","_law_letter"] 2 DZ:=Dh F DI rfl λ_ _ _ _ _ _ a c=>(AL (Ca 2 c Dk) (AL (Ca 3 c (Af Yl (d8 (AJ 2) (AK b a rfl (Al (AJ 0) AH)) (λ_ _=>rfl)) (AK b a rfl (Al (AJ 0) AH)))) (AL (Ca 4 c (AK b a rfl (Al (AJ 0) (Af BC (BP iy rfl d ACN (Bo (AJ 3))) AH)))) (AL (HA (i:=7) (j:=8) rfl c rfl rfl (by decide) rfl rfl (Al (AK b a rfl (Al (AJ 0) AH)) (AK b a rfl (Al (AJ 0) AH))) rfl) (AL (El (i:=5) c rfl (Or.inl rfl) (Bl FE)) (AL (BX AAS rfl (G9 rfl e (Bo (AJ 1))) (CU 6 c) (AL (Ca 9 c (Af Yl (d8 (AJ 2) (Af LS (Af BC (AJ 7) (Af Aq AH (AJ 6))) AH) (λ_ _=>rfl)) (Af BC AH (Af Aq (Af LS (AJ 6) AH) (AJ 8))))) (AR (Be (i:=5) PySem.F.slot_list_insert PySem.F.type_list_insert aM (Al (AK b a rfl (Al (AJ 0) (Af BC (AJ 6) AH))) (Af Yk (Af Yk (d9 (AJ 3) jJ (jK (AJ 4))) (AJ 9)) (d9 (AJ 3) (jK (AJ 4)) jJ))))))) (AL (BQ (En (DS a) (AK b a rfl (Al (AJ 0) AH)) AH) (AR (S7 (i:=5) (AK b a rfl (Al (AJ 0) (AJ 1))) (AU (EO (Bl (CW Dk Dk Dk))) (AK b a rfl (Al (AJ 0) AH))))) BA) (AR (Ab (AJ 5))))))))))
theorem KC:DH ["_law_script","_law_k","_law_cell","_law_digits"] ["_law_script","_law_k"] (Au E1):=DI
theorem R4 (F:VY K "_law_tape" "_law_tape" E1 f U)(j:Z "abs" =none)(o:Z "int" =none)(t:Z "len" =none):De P w K Z Y MD (n+1) f U ["_law_script","_law_k"] (CH K 2 GZ):=by
 have e:=KC.nd;refine F.ok KC (λvs H Q E h=> ?_) (λu A outer s H vs Q E z h=> ?_)
 .obtain ⟨T,M,xs,v,_,_,r,hl,_⟩:=h;rw[r.length,hl] <;> rfl
 obtain⟨T,M,xs,v,va,_,r,hl,hF,hQ⟩:=h;unfold GZ at hF;split at hF <;> first | exact hF.elim|skip
 rename_i ns k;obtain⟨⟨k0,B⟩,hF⟩:=hF;cases r with
 | cons r g=>
 cases g with
 | cons x g=>
 cases g;cases x;obtain⟨a,rfl,l⟩:=d6 r;refine⟨_,(Ct (Ih (i:=2) e rfl (Or.inl rfl) BL)
  (Ct (dY (SX jz (pv 1) (Gs Jk rfl t ACN (D3 (pv 0) Fo)) (CF _)) (HS (Ih (i:=2) e rfl (Or.inl rfl) (Lo Ev (pv 0) (pv 1) (λ_ _=>rfl)))) SV)
  (Ct (Ih (i:=3) e rfl (Or.inl rfl) (B7 HQ (Gs NY rfl j boot_abs (D3 (pv 2) Fo)) (FW QD rfl o PyProof.Rows.boot_int (D3 (YR rR (Gs NY rfl j boot_abs (D3 (pv 2) Fo)) (B7 dF BL BL) (CF _)) Fo))))
  (HS (SU (dO (D3 (pv 3) (D3 (B7 Fn (B7 HQ (B7 Fn (B7 Ig (B7 Ig (pv 2) (B7 HQ BL (pv 1))) BL) BL) BL) BL) Fo)))))))), ?_⟩
 have hl:(ns.map V.int).length=ns.length:=AAK _;have d:∀(c:Int) (p:ki),H p=none->Q (.ref p) (upd H p (.lst [.int ((if c<0 then -c else c)*(if decide ((10:Int)^18<=(if c<0 then -c else c)) then 1 else 0)), .int ((c+7919*k+1) % 2147483647*48271 % 2147483647)])):=λc p hp=>
  hQ _ .tape (λb=>T b\/b=p) _ (ef va.tp hp (Int.mul_nonneg (by split <;> omega) (b01 _)) (ADQ _ (by decide)) (ADR _ (by decide))) (.tape (.inr rfl)) hF
 refine⟨_,rfl,_,rfl,a,_,rfl, .inl l,_,_,rfl,rfl,_,rfl, ?_⟩;refine qy (λc=> ?_) (λc=> ?_)
 .have y:k<(((ns.map V.int).length:Nat):Int):=AB4 c;rw[hl] at y;have hk:k.toNat<ns.length:=by omega
  have hv:HY (ns.map V.int) k=some (.int ns[k.toNat]):=by
   have q:HY (ns.map V.int) ((k.toNat:Nat):Int)=some (.int ns[k.toNat]):=CB (by rw[AAh,AAY hk] <;> rfl)
   rwa [show ((k.toNat:Nat):Int)=k by omega] at q
  refine⟨_,rfl,_,rfl,a,_,_,_,rfl,rfl,l,hv, ?_⟩;refine⟨_,rfl,_,rfl,_,rfl,_,rfl,_,_,rfl,rfl,⟨by decide,by decide,by decide⟩,_,_,rfl,rfl, .inr ⟨_,rfl,_,_,rfl,rfl, .inl (.inr (xi _)), ?_⟩⟩;exact⟨_,rfl,_,rfl,_,rfl,_,_,rfl,rfl, .inl (.inl ⟨by decide,by decide⟩),_,_,rfl,rfl,_,_,rfl,rfl,_,_,rfl,rfl,(show (0:Int)<2147483647 by decide),_,_,rfl,rfl, .inl (.inr ⟨by decide,by decide⟩),_,_,rfl,rfl,(show (0:Int)<2147483647 by decide),(show 2<=sizeLine by decide),λp hp=>d _ p hp⟩
 .refine ⟨_,rfl,_,rfl,_,rfl,_,rfl,_,_,rfl,rfl,⟨by decide,by decide,by decide⟩,_,_,rfl,rfl, .inr ⟨_,rfl,_,_,rfl,rfl, .inl (.inr (xi _)), ?_⟩⟩;exact⟨_,rfl,_,rfl,_,rfl,_,_,rfl,rfl, .inl (.inl ⟨by decide,by decide⟩),_,_,rfl,rfl,_,_,rfl,rfl,_,_,rfl,rfl,(show (0:Int)<2147483647 by decide),_,_,rfl,rfl, .inl (.inr ⟨by decide,by decide⟩),_,_,rfl,rfl,(show (0:Int)<2147483647 by decide),(show 2<=sizeLine by decide),λp hp=>d 0 p hp⟩
theorem R0 (F:Z1 K "_law_rows" G0 f U)(e:PU P w K Z Y n)(c:Bg P w K Z Y n)(g:WJ P w K Z Y n)(h:RZ P w K Z Y n)(d:Gh P w K Z Y n)(k:Z "enumerate" =none)(l:Z "tuple" =none):Z2 P w K Z Y n f U ["_law_script","_law_tape_here","_law_rows_here","_law_many","_law_broad","_law_k","_law_name","_law_own","_law_rank"] 1 Ce:=Dh F DI rfl λ_ _ _ _ _ _ a b=>(AL (Ca 1 b (AK d a rfl (Al (AJ 0) AH))) (AL (HA (i:=3) (j:=4) rfl b rfl rfl (by decide) rfl rfl (Al (Af BC AH (AK c a rfl (Al (AJ 1) AH))) AH) rfl) (AL (BQ (En (DS a) (AK c a rfl (Al (AJ 1) AH)) AH) (AR (HA (i:=3) (j:=4) rfl b rfl rfl (by decide) rfl rfl (Al (Af BC AH (AK c a rfl (Al (AJ 1) AH))) AH) rfl)) BA) (AL (El (i:=2) b rfl (Or.inl rfl) (Bl FE)) (AL (BX AAS rfl (oM rfl k (Bo (AK h a rfl (Al (AJ 1) (AJ 3))))) (Bc (n:=2) rfl (Aa (CU 5 b) (Aa (CU 6 b) BH))) (AL (Ca 7 b (AK d a rfl (Al (AJ 0) (Af BC AH (AJ 5))))) (AL (Ca 8 b (AU (EO (Bl (Av AH (Av AH (CW AH AH AH))))) (AK c a rfl (Al (AJ 7) AH)))) (AR (Be (i:=2) AAr AAs BD (Bo (AX (CW (AJ 6) (AJ 8) (AX (Al (AK g a rfl (Al (AJ 7) (AJ 4))) (AK e a rfl (Bo (AJ 7))))))))))))) (AR (Ab (Bt Cu rfl l ABC (Bo (AJ 2))))))))))
theorem R5 (F:Z1 K "_law_told" G2 f U)(c:Bg P w K Z Y n)(d:Gh P w K Z Y n)(e:Z "tuple" =none):Z2 P w K Z Y n f U ["_law_script","_law_rows_here","_law_tape_here","_law_found","_law_name","_law_rank","_law_flight","_law_how"] 2 Cf:=Dh F DI rfl λ_ _ _ _ _ _ b a=>(AL (Ca 2 a (AK d b rfl (Al (AJ 0) AH))) (AL (El (i:=3) a rfl (Or.inl rfl) (Bl FE)) (AL (BX AAS rfl (EQ (AJ 1)) (Bc (n:=3) rfl (Aa (CU 4 a) (Aa (CU 5 a) (Aa (CU 6 a) BH)))) (AL (Ca 7 a (AU (EO (Bl (Av Bk (Av Dk (Av (AX (Al Dk (AX (Al AH AH)))) (CW Bk (AX (Al Dk (AX (Al AH AH)))) Bk)))))) (AK c b rfl (Al (AJ 2) AH)))) (AR (Be (i:=3) AAr AAs BD (Bo (AX (CW (AJ 4) (AJ 7) (AJ 6)))))))) (AR (Ab (Bt Cu rfl e ABC (Bo (AJ 3))))))))
theorem mj (F:Z1 K "law" Qf f U)(h:RW P w K Z Y n)(i:Bg P w K Z Y n)(j:RX P w K Z Y n)(d:Ho P w K Z Y n 12)(e:Rc P w K Z Y n)(k:UK P w K Z Y n)(l:Gh P w K Z Y n)(o:UM P w K Z Y n)(g:Hq P w K Z Y n)(p:Z "tuple" =none):Z2 P w K Z Y n f U ["_law_script","_law_tape_here","_law_apart_here","_law_rows_here","_law_told_here","_law_as_lists","_law_handed","_law_back","_law_gone"] 1 EW:=by
 have c:(["_law_row"] :kn Str).Nodup:=by decide +kernel
 exact Dh F DI rfl λ_ _ _ _ _ _ a b=>(AL (Ca 1 b (AK l a rfl (Al (AJ 0) AH))) (AL (Ca 2 b (AK h a rfl (Bo (AJ 1)))) (AL (Ca 3 b (AK j a rfl (CW (AJ 1) (AK k a rfl (Bo (AJ 0))) (AJ 2)))) (AL (Ca 4 b (AK o a rfl (Al (AJ 0) (AJ 3)))) (AL (Ca 5 b (AK d a rfl (Bo (AJ 4)))) (AL (Ca 6 b (AU (EO (Bl (Al (AJ 4) (AJ 5)))) (AK i a rfl (Al (AJ 1) AH)))) (AL (BQ (KH (VP (Ob (C7 (AK e a rfl (CW (AJ 4) (AJ 2) (AJ 6))))) (Oc (En (VL a) (AJ 5) (AK d a rfl (Bo (AJ 4))))))) (AR (Ab Ej)) BA) (AL (Ca 7 b (i4 (AJ 4))) (AL (BQ (KH (VP (Ob (C7 (AK e a rfl (CW (AJ 7) (AJ 2) (AJ 7))))) (Oc (En Mn (AK g a rfl (Al (AX FE) (AJ 2))) Bk)))) (AR (Ab Ej)) BA) (AL (Ca 8 b (Bt Cu rfl p ABC (Bo (EO (Dm rfl (EQ (AJ 4)) (Co (own:=1) (ix:= []) (N:= ["_law_row"]) rfl rfl rfl rfl rfl rfl (λ_ _ _ _ _ _=>(On 0 c)) (λ_ _ _ _ _ _=>Dn) (λ_ _ _ _ _ _=>(AX (CW (AU (AJ 0) AH) Dk (AU (AJ 0) AH)))))))))) (AR (Ab (DK LR (AK g a rfl (Al (AJ 8) (AJ 2))) Bk (CF _))))))))))))))
end
def cO {P:gn}{w:fe}{K:AAB}{Z:Str->kf km}{Y:cb}{k:Nat}{x:Str}{st:Stmt}{ps:kn Str}{sp:Sp}{f:ki}{U:FuncData}(F:VY K x x st f U)(b:Binds K U ps [])(m:Z x=some (.ref f))(G:De P w K Z Y MD k f U ps sp):Has P w K Z Y k x ps sp:=⟨f,U,m,F.kp,b,G⟩
theorem F7 {P:gn}{w:fe}{K:AAB}{Z:Str->kf km}{Y:cb}{k0:Nat}{f:ki}{U:FuncData}(F:VY K "_law_listed" "_law_listed" DG f U)(b:Binds K U ["_law_thing"] [])(m:Z "_law_listed" =some (.ref f))(a:Z "all" =none)(c:Z "int" =none)(d:Z "isinstance" =none)(e:Z "len" =none)(g:Z "tuple" =none):∀n:Nat,De P w K Z Y MD (k0+n) f U ["_law_thing"] (CH K 1 (AZ n))
 | 0=>by
   have i:∀vs H Q E,¬CH K 1 (AZ 0) vs H Q E:=λvs H Q E h=>by obtain⟨_,_,_,_,_,_,_,_,h,_⟩:=h;exact h
   exact⟨λvs H Q E h=>absurd h (i vs H Q E),λA outer s H args j vs Q E _ _ _ _ h=>absurd h (i vs H Q E)⟩
 | n+1=>N5 (n:=k0+n) F (cO F b m (F7 F b m a c d e g n)) a c d e g
def q9 {a:kn km}(hl:a.length=1):∃b:km,a= [b] :=by match a,hl with | [b],_=>exact⟨_,rfl⟩
def rB {a:kn km}(hl:a.length=2):∃b c:km,a= [b,c] :=by match a,hl with | [b,c],_=>exact⟨_,_,rfl⟩
def rE {a:kn km}(hl:a.length=3):∃b c d:km,a= [b,c,d] :=by match a,hl with | [b,c,d],_=>exact⟨_,_,_,rfl⟩
def rG {a:kn km}(hl:a.length=4):∃b c d e:km,a= [b,c,d,e] :=by match a,hl with | [b,c,d,e],_=>exact⟨_,_,_,_,rfl⟩
def rH {a:kn km}(hl:a.length=5):∃b c d e f:km,a= [b,c,d,e,f] :=by match a,hl with | [b,c,d,e,f],_=>exact⟨_,_,_,_,_,rfl⟩
def C8 (K:AAB)(x:Str)(st:Stmt)(f:ki):Prop:=PySem.W.nsIn K mainGlobals x=some (some (.ref f))/\∃U,VY K x x st f U
def xh {K:AAB}{x:Str}{st:Stmt}{f:ki}{g:km}{h i:kf ki}{d:Array (kf km)}{kV e j b ct:km}(a:PySem.W.nsIn K mainGlobals x=some (some (.ref f)))(l:K.lookup f=some ⟨g,h, .func (PySem.W.fnOf x x (D2 st) (CC st) (Au st) .none kV e j i b ct),d⟩)(c:PySem.W.codeIn K b x=true)(k:PySem.W.keepIn K (.ref f)=true):C8 K x st f:=⟨a,_,cD l c k⟩
def u8 {P:gn}{w:fe}{K:AAB}{h Y:cb}{Z:Str->kf km}{k:Nat}{x:Str}{st:Stmt}{ps:kn Str}{sp:Sp}{f:ki}(A:C8 K x st f)(X:K.In h)(G:h.Ns mainGlobals Z)(g:∀U,VY K x x st f U->Binds K U ps [] ->Z x=some (.ref f)->De P w K Z Y MD k f U ps sp)(b:∀U,VY K x x st f U->Binds K U ps [] :=by exact λ_ F=>F.binds λ_ _ _ _ _ _ c hl=>by first | (obtain⟨_,rfl⟩:=q9 hl;rfl)|(obtain⟨_,_,rfl⟩:=rB hl;rfl)|(obtain⟨_,_,_,rfl⟩:=rE hl;rfl)|(obtain⟨_,_,_,_,rfl⟩:=rG hl;rfl)|(obtain⟨_,_,_,_,_,rfl⟩:=rH hl;rfl)):Has P w K Z Y k x ps sp:=
 let ⟨a,U,F⟩:=A;cO F (b U F) (ACP X G a) (g U F (b U F) (ACP X G a))
def uR (K:AAB)(x:Str)(st:Stmt)(f:ki)(d:Int):Prop:=PySem.W.nsIn K mainGlobals x=some (some (.ref f))/\∃U,RC K x x st f U d
def qY {P:gn}{w:fe}{K:AAB}{h Y:cb}{Z:Str->kf km}{k:Nat}{x:Str}{st:Stmt}{ps:kn Str}{d:Int}{sp:Sp}{f:ki}(A:uR K x st f d)(X:K.In h)(G:h.Ns mainGlobals Z)(b:∀U,RC K x x st f U d->∃c,Binds K U ps [.int d c])(g:∀U,RC K x x st f U d->De P w K Z Y MD k f U ps sp):Vo P w K Z Y k x ps d sp:=
 let ⟨a,U,F⟩:=A;let ⟨c,B⟩:=b U F;⟨f,U,c,ACP X G a,F.kp,B,g U F⟩
def all_mk {l:PySem.W.OpenLaw}{w:fe}{K:AAB}{h:cb}{Z:Str->kf km}{fa f1 f2 f3 f4 f5 f6 f7 f8 f9 N O P Q R S T f17 f18 f19 f20 f21 f22 f23 f24 f25 f26 f27 f28 f29 f30 f31 f32 f33 f34 f35 f36 f37 f38 f39 f40 f41 f42 f43 f44 f45 f46 f47 f48 f49 f50 f51 f52 f53 f54 f55 f56 f57 f58 f59 f60 f61 f62 f63:ki}(X:K.In h)(G:h.Ns mainGlobals Z)(hfa:Z "law" =some (.ref fa))(a1:C8 K "_law_draw" Ez f1)(a2:C8 K "_law_apart" Fp f2)(a3:C8 K "_law_part" Gy f3)(a4:C8 K "_law_off" Im f4)(a5:C8 K "_law_sum" Io f5)(a6:C8 K "_law_edged" Fq f6)(a7:C8 K "_law_listed" DG f7)(a8:C8 K "_law_tighter" Eh f8)(a9:C8 K "_law_can" Ii f9)(a10:C8 K "_law_line" Gx N)(a11:C8 K "_law_product" Eg O)(a12:C8 K "_law_ratio" Fv P)(a13:C8 K "_law_rate" Gz Q)(a14:C8 K "_law_lines" Fs R)(a15:C8 K "_law_may" Il S)(a16:C8 K "_law_due" Ij T)(a17:C8 K "is_kept" LI f17)(a18:C8 K "summed" OL f18)(a19:C8 K "crossed" LG f19)(a20:C8 K "is_never" Iq f20)(a21:C8 K "before" OH f21)(a22:C8 K "turn_of" LN f22)(a23:C8 K "is_tighter" Fx f23)(a24:C8 K "tightest" Iz f24)(a25:C8 K "fault_in" Ip f25)(a26:C8 K "common" OI f26)(a27:C8 K "part" W5 f27)(a28:C8 K "minus" Ss f28)(a29:C8 K "negative" Iu f29)(a30:C8 K "plus" W6 f30)(a31:C8 K "side_form" G4 f31)(a32:C8 K "time_form" G5 f32)(a33:C8 K "form_of" LH f33)(a34:C8 K "placed" OJ f34)(a35:C8 K "shared_bottom" EE f35)(a36:C8 K "plane_of" Iv f36)(a37:C8 K "whole" Sv f37)(a38:C8 K "told_weights" Ei f38)(a39:C8 K "over" W4 f39)(a40:C8 K "range_in" Iw f40)(a41:C8 K "value_in" JA f41)(a42:C8 K "weights_by_time" Dj f42)(a43:uR K "without" HU f43 2)(a44:C8 K "meet_in" LJ f44)(a45:C8 K "times" Su f45)(a46:C8 K "piece_between" ED f46)(a47:C8 K "pieces_of" G3 f47)(a48:C8 K "size_of" LM f48)(a49:C8 K "sizes_of" Iy f49)(a50:C8 K "wedges_of" G6 f50)(a51:C8 K "meet_of" LK f51)(a52:C8 K "may_meet" Ir f52)(a53:C8 K "first_fault" FD f53)(a54:C8 K "_law_right" Fw f54)(a55:C8 K "_law_bounds" FC f55)(a56:C8 K "_law_place" Fu f56)(a57:C8 K "_law_span" G1 f57)(a58:C8 K "_law_leg" Ik f58)(a59:C8 K "_law_names" Ft f59)(a60:C8 K "_law_tape" E1 f60)(a61:C8 K "_law_rows" G0 f61)(a62:C8 K "_law_told" G2 f62)(J:C8 K "law" Qf f63)(x:PySem.W.nsIn K mainGlobals "abs" =some none)(y:PySem.W.nsIn K mainGlobals "all" =some none)(z:PySem.W.nsIn K mainGlobals "any" =some none)(y_bool:PySem.W.nsIn K mainGlobals "bool" =some none)(c:PySem.W.nsIn K mainGlobals "enumerate" =some none)(A:PySem.W.nsIn K mainGlobals "int" =some none)(a:PySem.W.nsIn K mainGlobals "isinstance" =some none)(B:PySem.W.nsIn K mainGlobals "len" =some none)(r:PySem.W.nsIn K mainGlobals "list" =some none)(C:PySem.W.nsIn K mainGlobals "max" =some none)(o:PySem.W.nsIn K mainGlobals "range" =some none)(d:PySem.W.nsIn K mainGlobals "reversed" =some none)(D:PySem.W.nsIn K mainGlobals "set" =some none)(g:PySem.W.nsIn K mainGlobals "sorted" =some none)(p:PySem.W.nsIn K mainGlobals "tuple" =some none)(E:PySem.W.nsIn K mainGlobals "zip" =some none){qBACK_2:Tok}{qBACK_3:Tok}{qBACK_1:ki}{qBACK_1n:Nat}{qBACK_1d:kf ki}{qBACK_1s:Array (kf km)}{qNOUGHT_5:Tok}{qNOUGHT_6:Tok}{qNOUGHT_4:ki}{qNOUGHT_4n:Nat}{qNOUGHT_4d:kf ki}{qNOUGHT_4s:Array (kf km)}{qONCE_8:Tok}{qONCE_9:Tok}{qONCE_7:ki}{qONCE_7n:Nat}{qONCE_7d:kf ki}{qONCE_7s:Array (kf km)}{qSTRICT_11:Tok}{qSTRICT_12:Tok}{qSTRICT_13:Tok}{qSTRICT_14:Tok}{qSTRICT_15:Tok}{qSTRICT_16:Tok}{qSTRICT_17:Tok}{qSTRICT_18:Tok}{qSTRICT_19:Tok}{qSTRICT_20:Tok}{qSTRICT_21:Tok}{qSTRICT_22:Tok}{qSTRICT_10:ki}{qSTRICT_10n:Nat}{qSTRICT_10d:kf ki}{qSTRICT_10s:Array (kf km)}(a_STRICT:PySem.W.nsIn K mainGlobals "STRICT" =some (some (.ref qSTRICT_10)))(a_ONCE:PySem.W.nsIn K mainGlobals "ONCE" =some (some (.ref qONCE_7)))(a_NOUGHT:PySem.W.nsIn K mainGlobals "NOUGHT" =some (some (.ref qNOUGHT_4)))(a_BACK:PySem.W.nsIn K mainGlobals "BACK" =some (some (.ref qBACK_1)))(h_qBACK_1:K.lookup qBACK_1=some ⟨.type "tuple",qBACK_1d, .seq (List.toArray [(.int (-1) qBACK_2),(.int 1 qBACK_3)]) qBACK_1n,qBACK_1s⟩)(h_qNOUGHT_4:K.lookup qNOUGHT_4=some ⟨.type "tuple",qNOUGHT_4d, .seq (List.toArray [(.int 0 qNOUGHT_5),(.int 1 qNOUGHT_6)]) qNOUGHT_4n,qNOUGHT_4s⟩)(h_qONCE_7:K.lookup qONCE_7=some ⟨.type "tuple",qONCE_7d, .seq (List.toArray [(.int 1 qONCE_8),(.int 1 qONCE_9)]) qONCE_7n,qONCE_7s⟩)(h_qSTRICT_10:K.lookup qSTRICT_10=some ⟨.type "tuple",qSTRICT_10d, .seq (List.toArray [(.int 0 qSTRICT_11),(.int 1 qSTRICT_12),(.int 0 qSTRICT_13),(.int 1 qSTRICT_14),(.int 0 qSTRICT_15),(.int 0 qSTRICT_16),(.int 1 qSTRICT_17),(.int 1 qSTRICT_18),(.int 1 qSTRICT_19),(.int 1 qSTRICT_20),(.int 1 qSTRICT_21),(.int 1 qSTRICT_22)]) qSTRICT_10n,qSTRICT_10s⟩):∃U:FuncData,(∀(s:kj) (v:km),BindsTo s U ⟨[v], []⟩ [("_law_script",v)])/\∀Y:cb,K.In Y->Y.Ns mainGlobals Z->De l.prog w K Z Y MD 13 fa U ["_law_script"] (CH K 1 EW):=by have e:=hfa.symm.trans (ACP X G J.1);cases e;obtain⟨aL,fdL,FL⟩:=J;obtain⟨⟨oc,od,kV,doc,pm,an,cdv,ct,osl,eL,lL,cL⟩,kL⟩:=FL;subst eL;have FL:=cD lL cL kL;have GC:=AAz X G x;have Qm:=AAz X G y;have fJ:=AAz X G z;have XV:=AAz X G y_bool;have Bh:=AAz X G c;have GD:=AAz X G A;have BN:=AAz X G a;have H:=AAz X G B;have XW:=AAz X G r;have fL:=AAz X G C;have t:=AAz X G o;have JF:=AAz X G d;have fM:=AAz X G D;have Og:=AAz X G g;have k:=AAz X G p;have KN:=AAz X G E;have u:Kc K Z "BACK" (.tup [(.int (-1)),(.int 1)]):=YE (ACP X G a_BACK) (Ml h_qBACK_1 (.cons Bm (.cons Bm .nil)));have i:Kc K Z "NOUGHT" (.tup [(.int 0),(.int 1)]):=YE (ACP X G a_NOUGHT) (Ml h_qNOUGHT_4 (.cons Bm (.cons Bm .nil)));have f:Kc K Z "ONCE" (.tup [(.int 1),(.int 1)]):=YE (ACP X G a_ONCE) (Ml h_qONCE_7 (.cons Bm (.cons Bm .nil)));have j:Kc K Z "STRICT" (.tup [(.int 0),(.int 1),(.int 0),(.int 1),(.int 0),(.int 0),(.int 1),(.int 1),(.int 1),(.int 1),(.int 1),(.int 1)]):=YE (ACP X G a_STRICT) (Ml h_qSTRICT_10 (.cons Bm (.cons Bm (.cons Bm (.cons Bm (.cons Bm (.cons Bm (.cons Bm (.cons Bm (.cons Bm (.cons Bm (.cons Bm (.cons Bm .nil)))))))))))));refine⟨PySem.W.fnOf "law" "law" (D2 Qf) (CC Qf) (Au Qf) .none kV doc pm an cdv ct,λs v=> .of_eq rfl,λY _ _=> ?_⟩;have hs:= @u8 l.prog w K h Y Z;have H1:=hs a1 X G λ_ F _ _=>Rv (n:=0) F;have H2:=hs a2 X G λ_ F _ _=>PZ (n:=1) F (Bb H1);have I:=hs a3 X G λ_ F _ _=>Ry (n:=0) F GC GD;have H4:=hs a4 X G λ_ F _ _=>Um (n:=1) F (Bb I);have H5:=hs a5 X G λ_ F _ _=>Uo (n:=1) F (Bb I);have H6:=hs a6 X G λ_ F _ _=>Pa (n:=2) F (Bb H1) (Bb H4) (Bb H5) XW JF k KN;have H7:=hs a7 X G λ_ F b m=>F7 (k0:=0) F b m Qm GD BN H k 12;have H8:=hs a8 X G λ_ F _ _=>MR (n:=0) F;have H9:=hs a9 X G λ_ F _ _=>Ui (n:=1) F (Bb H8);have zc:=hs a10 X G λ_ F _ _=>Rx (n:=0) F;have ze:=hs a11 X G λ_ F _ _=>MQ (n:=1) F (Bb I);have zf:=hs a12 X G λ_ F _ _=>Pf (n:=1) F (Bb I);have zg:=hs a13 X G λ_ F _ _=>Rz (n:=2) F (Bb H4) (Bb ze) (Bb zf);have zh:=hs a14 X G λ_ F _ _=>Pb (n:=3) F (Bb zc) (Bb H4) (Bb zg) (Bb H5) t;have zj:=hs a15 X G λ_ F _ _=>Ul (n:=4) F (Bb H9) (Bb zh) H t;have zk:=hs a16 X G λ_ F _ _=>Uj (n:=5) F (Bb zj) H t;have zn:=hs a17 X G λ_ F _ _=>Wo (n:=0) F;have zp:=hs a18 X G λ_ F _ _=>Z6 (n:=0) F fL k KN;have xQ:=hs a19 X G λ_ F _ _=>Wm (n:=1) F (Bb zp);have zq:=hs a20 X G λ_ F _ _=>Uq (n:=0) F;have xR:=hs a21 X G λ_ F _ _=>Z3 (n:=0) F;have xS:=hs a22 X G λ_ F _ _=>Wt (n:=0) F;have zr:=hs a23 X G λ_ F _ _=>Ph (n:=1) F (Bb xR) (Bb xS);have xT:=hs a24 X G λ_ F _ _=>Uw (n:=2) F (Bb zr);have zt:=hs a25 X G λ_ F _ _=>Up (n:=3) F (Bb xQ) (Bb zq) (Bb xT);have uV:=hs a26 X G λ_ F _ _=>Z4 (n:=0) F;have L:=hs a27 X G λ_ F _ _=>h8 (n:=1) F (Bb uV) GC;have xU:=hs a28 X G λ_ F _ _=>c8 (n:=2) F (Bb L);have xV:=hs a29 X G λ_ F _ _=>Us (n:=0) F;have M:=hs a30 X G λ_ F _ _=>h9 (n:=2) F (Bb L);have zu:=hs a31 X G λ_ F _ _=>R7 (n:=3) F (Bb xU) (Bb xV) (Bb M);have zw:=hs a32 X G λ_ F _ _=>R8 (n:=1) F (Bb xV) u i f;have zx:=hs a33 X G λ_ F _ _=>Wn (n:=4) F (Bb zu) (Bb zw);have zy:=hs a34 X G λ_ F _ _=>Z5 (n:=0) F k;have H35:=hs a35 X G λ_ F _ _=>K6 (n:=1) F (Bb uV);have H36:=hs a36 X G λ_ F _ _=>Ut (n:=2) F (Bb H35) k;have xW:=hs a37 X G λ_ F _ _=>dA (n:=0) F;have H38:=hs a38 X G λ_ F _ _=>MS (n:=1) F (Bb uV) (Bb xW) Og k;have xX:=hs a39 X G λ_ F _ _=>h7 (n:=2) F (Bb L);have H40:=hs a40 X G λ_ F _ _=>Uu (n:=3) F (Bb L) (Bb xT) (Bb xS);have H41:=hs a41 X G λ_ F _ _=>Ux (n:=4) F (Bb xX) (Bb M) (Bb H40) (Bb xW);have H42:=hs a42 X G λ_ F _ _=>Ie (n:=3) F (Bb xR) (Bb M) f;have H43:= @qY l.prog w K h Y Z _ _ _ _ _ _ _ a43 X G (λ_ F=>F.binds3 λ_ _ _ _ _ _ _ _ _=>⟨_,rfl,λ_=>rfl⟩) λ_ F=>Wu (n:=2) F (Bb xQ) H fM;have H44:=hs a44 X G λ_ F _ _=>Wq (n:=5) F (Bb zt) (Bb zx) (Bb zy) (Bb H36) (Bb H38) (Bb H41) (Bb H42) (H43.mono (by decide)) t j;have H45:=hs a45 X G λ_ F _ _=>c9 (n:=2) F (Bb L);have H46:=hs a46 X G λ_ F _ _=>K5 (n:=3) F (Bb xU) (Bb xX) (Bb H45) KN;have H47:=hs a47 X G λ_ F _ _=>R6 (n:=4) F (Bb H46) H t;have H48:=hs a48 X G λ_ F _ _=>Ws (n:=0) F;have H49:=hs a49 X G λ_ F _ _=>Uv (n:=3) F (Bb M) (Bb H48) t;have H50:=hs a50 X G λ_ F _ _=>R9 (n:=5) F (Bb H47) (Bb H49) Bh;have H51:=hs a51 X G λ_ F _ _=>Wr (n:=6) F (Bb H44) (Bb H50) k;have H52:=hs a52 X G λ_ F _ _=>Ur (n:=7) F (Bb H51);have xY:=hs a53 X G λ_ F _ _=>N6 (n:=8) F (Bb zn) (Bb H52) Bh t;have H54:=hs a54 X G λ_ F _ _=>Pg (n:=9) F (Bb zk) (Bb xY) fJ XV BN k;have H55:=hs a55 X G λ_ F _ _=>N4 (n:=1) F (Bb H1);have H56:=hs a56 X G λ_ F _ _=>Pe (n:=1) F (Bb H1) (Bb I);have H57:=hs a57 X G λ_ F _ _=>R3 (n:=1) F (Bb H1) (Bb I);have H58:=hs a58 X G λ_ F _ _=>Uk (n:=2) F (Bb H1) (Bb I) (Bb H56) (Bb H57) (Bb H5) t k;have H59:=hs a59 X G λ_ F _ _=>Pd (n:=1) F (Bb H1) H t;have uW:=hs a60 X G λ_ F _ _=>R4 (n:=0) F GC GD H;have H61:=hs a61 X G λ_ F _ _=>R0 (n:=3) F (Bb H55) (Bb H1) (Bb H58) (Bb H59) (Bb uW) Bh k;have H62:=hs a62 X G λ_ F _ _=>R5 (n:=1) F (Bb H1) (Bb uW) k;exact mj (n:=12) FL (Bb H2) (Bb H1) (Bb H6) (Bb H7) (Bb H54) (Bb H61) (Bb uW) (Bb H62) (Bb xY) k
def walk {l:PySem.W.OpenLaw}{q:gn}{loose:kn Str}{XP:(Str->kf km)->cb->Prop}{YP:fe->cb->Prop}{d:DefRec}{K:Params->AAB}(c:l.most=some 63)(e:d.params.defaults= [])(g:∀(w:fe) (h:cb),YP w h->(K w.params).In h)(F:∀(w:fe) (Z:Str->kf km) (b:ki) (h:cb),(K w.params).In h->h.Ns mainGlobals Z->Z d.name=some (.ref b)-> ∃U:FuncData,(∀(s:kj) (u:km),BindsTo s U ⟨[u], []⟩ [("_law_script",u)])/\∀Y:cb,(K w.params).In Y->Y.Ns mainGlobals Z->De l.prog w (K w.params) Z Y MD 13 b U ["_law_script"] (CH (K w.params) 1 EW)):PySem.W.WalkO q loose XP YP l.row.toRowW d [] (λf vs=>PySem.call f vs):=
 L2.walk_of (n:=63) (k:=13) (x:="_law_script") (CX:=λ_=>MD) (sp:=λw=>CH (K w.params) 1 EW) c (by decide) e ⟨rfl,by decide,by decide,rfl⟩ g F (λ_ _ a ns hl _ i=>PL.law_sp i (cm ns hl)) λ_ _ _ _ _ z=>z
def atKD {K:AAB}{x:String}{s:Stmt}{d:Int}(t:Nat)(b n:Nat)(m:String)(i c f:Nat)(a:PySem.W.nsIn K mainGlobals (Str.ofString x)=some (some (.ref f)):=by kernel_rfl)(l:K.lookup f=some (xk t x s m i c):=by kernel_rfl)(e:PySem.W.codeIn K (.ref c) (Str.ofString x)=true:=by kernel_rfl)(k:PySem.W.keepIn K (.ref f)=true:=by kernel_rfl)(g:K.lookup t=some ⟨.type "tuple",none, .seq #[.int d b] n, #[]⟩:=by kernel_rfl):uR K (Str.ofString x) s f d:=⟨a,_,⟨⟨_,_,_,_,_,_,_,_,_,t,rfl,l,e,_,b,n,g,rfl⟩,k⟩⟩
def atK {K:AAB}{x:String}{s:Stmt}(m:String)(i c f:Nat)(a:PySem.W.nsIn K mainGlobals (Str.ofString x)=some (some (.ref f)):=by kernel_rfl)(l:K.lookup f=some (fO x s m i c):=by kernel_rfl)(d:PySem.W.codeIn K (.ref c) (Str.ofString x)=true:=by kernel_rfl)(k:PySem.W.keepIn K (.ref f)=true:=by kernel_rfl):C8 K (Str.ofString x) s f:=xh a l d k
end K68
open PySem PySem.W PyProof.Rows
def K68.lg:LeftO K68.pwA K68.q [] (λs=>xlAt K68.q [] s&&recOk [] s) (λs=>K68.KA.map s.heap.get?) (λw=>(K68.KK w.params).map λp=>some p.2) 6000:=λw=>PL.map_pair (PL.map5 (K68.l0 w) (K68.l1 w) (K68.l2 w) (K68.l3 w) (K68.l4 w)) (K68.l5 w)
theorem PySem.Challenge.cw_skylanes_k68_first_fault_holds : PySem.Challenge.rw_skylanes_k68_first_fault.Holds := by
 refine ⟨K68.w1, ?_⟩
 refine PySem.W.holds_open (q:=K68.q) (loose:= []) (Xt:=λs=>xlAt K68.q [] s&&recOk [] s) (XP:=XL K68.q []) (YP:=InK K68.KK) (N:=6000) K68.lg (InK.of (as:=K68.KA) λ_=>by kernel_rfl) InK.keeps (λs e=>xl_of s (Bool.and_eq_true_iff.mp e).1) XL.keeps (by rfl) (by rfl) (by rfl) (λs e=>recFacts_of (Bool.and_eq_true_iff.mp e).2) (by rfl) K68.w0 (by decide +kernel) ⟨rfl,rfl,rfl,rfl,rfl,by decide +kernel⟩ ?hw ?hc
 (case hw=>w_witness2)
 case hc=>
 refine K68.walk (l:=PySem.Challenge.rw_skylanes_k68_first_fault) (K:=K68.KK) rfl rfl (λw h Y=>Y) ?F
 intro w mg fa h KX G qh
 refine' K68.all_mk KX G qh (K68.atK K68.m0 571 277 278) (K68.atK K68.m0 571 340 341) (K68.atK K68.m0 571 284 285) (K68.atK K68.m0 571 298 299) (K68.atK K68.m0 571 291 292) (K68.atK K68.m0 571 415 416) (K68.atK K68.m0 571 430 431) (K68.atK K68.m0 571 373 374) (K68.atK K68.m0 571 366 367) (K68.atK K68.m0 571 354 355) (K68.atK K68.m0 571 305 306) (K68.atK K68.m0 571 312 313) (K68.atK K68.m0 571 347 348) (K68.atK K68.m0 571 361 362) (K68.atK K68.m0 571 380 381) (K68.atK K68.m0 571 444 445) (K68.atK K68.m1 551 256 257) (K68.atK K68.m2 263 86 87) (K68.atK K68.m2 263 93 94) (K68.atK K68.m2 263 111 112) (K68.atK K68.m3 187 69 70) (K68.atK K68.m2 263 118 119) (K68.atK K68.m2 263 125 126) (K68.atK K68.m2 263 132 133) (K68.atK K68.m2 263 139 140) (K68.atK K68.m3 187 20 21) (K68.atK K68.m3 187 27 28) (K68.atK K68.m3 187 48 49) (K68.atK K68.m4 383 171 172) (K68.atK K68.m3 187 41 42) (K68.atK K68.m4 383 211 212) (K68.atK K68.m4 383 204 205) (K68.atK K68.m4 383 218 219) (K68.atK K68.m2 263 104 105) (K68.atK K68.m3 187 76 77) (K68.atK K68.m2 263 81 82) (K68.atK K68.m3 187 34 35) (K68.atK K68.m5 502 230 231) (K68.atK K68.m3 187 62 63) (K68.atK K68.m2 263 146 147) (K68.atK K68.m2 263 153 154) (K68.atK K68.m5 502 225 226) (K68.atKD 95 286 0 K68.m2 263 99 100) (K68.atK K68.m5 502 235 236) (K68.atK K68.m3 187 55 56) (K68.atK K68.m4 383 178 179) (K68.atK K68.m4 383 183 184) (K68.atK K68.m6 373 160 161) (K68.atK K68.m4 383 190 191) (K68.atK K68.m4 383 197 198) (K68.atK K68.m5 502 242 243) (K68.atK K68.m5 502 249 250) (K68.atK K68.m1 551 263 264) (K68.atK K68.m0 571 449 450) (K68.atK K68.m0 571 333 334) (K68.atK K68.m0 571 319 320) (K68.atK K68.m0 571 326 327) (K68.atK K68.m0 571 387 388) (K68.atK K68.m0 571 394 395) (K68.atK K68.m0 571 270 271) (K68.atK K68.m0 571 401 402) (K68.atK K68.m0 571 437 438) (K68.atK K68.m0 571 454 455) (by kernel_rfl) (by kernel_rfl) (by kernel_rfl) (by kernel_rfl) (by kernel_rfl) (by kernel_rfl) (by kernel_rfl) (by kernel_rfl) (by kernel_rfl) (by kernel_rfl) (by kernel_rfl) (by kernel_rfl) (by kernel_rfl) (by kernel_rfl) (by kernel_rfl) (by kernel_rfl) ?a_STRICT ?a_ONCE ?a_NOUGHT ?a_BACK ?h_qBACK_1 ?h_qNOUGHT_4 ?h_qONCE_7 ?h_qSTRICT_10 (qBACK_1:=164) (qBACK_1n:=0) (qBACK_1d:=none) (qBACK_1s:= #[]) (qBACK_2:=392) (qBACK_3:=393) (qNOUGHT_4:=162) (qNOUGHT_4n:=0) (qNOUGHT_4d:=none) (qNOUGHT_4s:= #[]) (qNOUGHT_5:=385) (qNOUGHT_6:=386) (qONCE_7:=163) (qONCE_7n:=0) (qONCE_7d:=none) (qONCE_7s:= #[]) (qONCE_8:=388) (qONCE_9:=389) (qSTRICT_10:=165) (qSTRICT_10n:=0) (qSTRICT_10d:=none) (qSTRICT_10s:= #[]) (qSTRICT_11:=395) (qSTRICT_12:=396) (qSTRICT_13:=397) (qSTRICT_14:=398) (qSTRICT_15:=399) (qSTRICT_16:=400) (qSTRICT_17:=401) (qSTRICT_18:=402) (qSTRICT_19:=403) (qSTRICT_20:=404) (qSTRICT_21:=405) (qSTRICT_22:=406)
 (case a_STRICT=>kernel_rfl)
 (case a_ONCE=>kernel_rfl)
 (case a_NOUGHT=>kernel_rfl)
 (case a_BACK=>kernel_rfl)
 (case h_qBACK_1=>kernel_rfl)
 (case h_qNOUGHT_4=>kernel_rfl)
 (case h_qONCE_7=>kernel_rfl)
 (case h_qSTRICT_10=>kernel_rfl)
end
