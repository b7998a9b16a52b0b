import PyProof.Rows.All
import KE.KDictOf
import KE.KItem
import KE.KEqDict
import KE.KDictList
import KE.IntBitsLaws
import PySem.Challenge.RW_skylanes_k37_papers_of_any_shape
set_option Elab.async false
set_option linter.all false
set_option maxRecDepth 100000
set_option maxHeartbeats 0
abbrev kn:=@List
abbrev km:=PySem.Value
abbrev kl:=PySem.Shared
abbrev kj:=PySem.Addr
abbrev ki:=@Option
abbrev kf:=PySem.Expr
abbrev ke:=Bool
abbrev kd:=PySem.Program
abbrev kc:=PySem.World
abbrev gn:=PySem.Heap
abbrev fe:=PySem.Around
abbrev AAC:=@PySem.wpAny_bind
abbrev AAD:=PySem.W.Frag
abbrev AAE:=@PySem.wpAny_pure
abbrev AAF:=@if_neg
abbrev AAG:=@if_pos
abbrev AAH:=@PySem.Heap.lt_size
abbrev AAI:=@PySem.Heap.get?_push_of_some
abbrev AAJ:=@List.mem_cons
abbrev AAK:=@List.mem_map
abbrev AAL:=@Nat.le_refl
abbrev AAM:=@List.map_cons
abbrev AAN:=@Nat.ne_of_lt
abbrev AAO:=@List.length_map
abbrev AAP:=@decide_eq_true
abbrev AAQ:=@List.mem_append
abbrev AAR:=@PySem.Heap.get?_push_size
abbrev AAS:=@List.getElem?_eq_getElem
abbrev AAT:=@List.mem_singleton
abbrev AAU:=@Bool.false_ne_true
abbrev AAV:=@Nat.lt_of_lt_of_le
abbrev AAW:=@List.size_toArray
abbrev AAX:=@Nat.le_trans
abbrev AAY:=@decide_eq_false
abbrev AAZ:=@List.mem_filter
abbrev AAa:=@Rat.intCast_mul
abbrev AAb:=@Option.some.inj
abbrev AAc:=@List.getElem?_set_ne
abbrev AAd:=@PySem.wpAny_field
abbrev AAe:=@List.not_mem_nil
abbrev AAf:=@or_false
abbrev AAg:=@PySem.wpAny_holding
abbrev AAh:=@Nat.ne_of_gt
abbrev AAi:=@List.length_append
abbrev AAj:=@Nat.lt_of_le_of_lt
abbrev AAk:=@PySem.PassesOwn.never
abbrev AAl:=@List.pairwise_cons
abbrev AAm:=@PySem.W.mg_none_of
abbrev AAn:=@if_false
abbrev AAo:=@List.sum_cons
abbrev AAp:=@List.length_cons
abbrev AAq:=@List.mem_append_right
abbrev AAr:=@List.getElem?_map
abbrev AAs:=@Bool.and_eq_true
abbrev AAt:=@Bool.false_eq_true
abbrev AAu:=@Int.natAbs_natCast
abbrev AAv:=@Int.natAbs_mul
abbrev AAw:=@Nat.mul_pos
abbrev AAx:=@List.nil_append
abbrev AAy:=@PySem.wpAny_call_entry
abbrev AAz:=@Ne.symm
abbrev AA0:=@List.getElem?_eq_some_iff
abbrev AA1:=@PySem.Heap.size_push
abbrev AA2:=@List.getElem_mem
abbrev AA3:=@List.map_map
abbrev AA4:=@Rat.num_divInt_den
abbrev AA5:=@of_decide_eq_true
abbrev AA6:=@PySem.boot_len
abbrev AA7:=@List.mem_flatMap
abbrev AA8:=@Nat.mul_assoc
abbrev AA9:=@if_true
abbrev ABA:=@List.mem_range
abbrev ABB:=@List.length_singleton
abbrev ABC:=@PySem.isSubtype_type
abbrev ABD:=@Rat.intCast_natCast
abbrev ABE:=@Nat.mul_le_mul
abbrev ABF:=@PyProof.Rows.boot_tuple
abbrev ABG:=@PySem.wpAny_seqItems
abbrev ABH:=@PySem.wpAny_newObj_type
abbrev ABI:=@Nat.zero_le
abbrev ABJ:=@List.getElem?_append_right
abbrev ABK:=@Int.mul_pos
abbrev ABL:=@List.length_zip
abbrev ABM:=@Bool.not_true
abbrev ABN:=@List.mem_cons_of_mem
abbrev ABO:=@Nat.lt_irrefl
abbrev ABP:=@PySem.wpAny_mono
abbrev ABQ:=@List.getElem?_append_left
abbrev ABR:=@PySem.wpAny_setField_rec
abbrev ABS:=@Nat.pow_add
abbrev ABT:=@Nat.le_of_ble_eq_true
abbrev ABU:=@Nat.succ_mul
abbrev ABV:=@PySem.wpAny_setState_of
abbrev ABW:=@List.foldl_cons
abbrev ABX:=@Nat.mul_le_mul_left
abbrev ABY:=@Rat.mul_eq_zero
abbrev ABZ:=@Nat.mul_comm
abbrev ABa:=@PySem.F.slot_list_append
abbrev ABb:=@PySem.F.type_list_append
abbrev ABc:=@PySem.wpAny_rule
abbrev ABd:=@PySem.wpAny_standAt
abbrev ABe:=@Bool.eq_iff_iff
abbrev ABf:=@List.getElem?_replicate
abbrev ABg:=@List.length_replicate
abbrev ABh:=@PySem.wpAny_callSpecial?_slot
abbrev ABi:=@Int.fdiv_eq_ediv_of_nonneg
abbrev ABj:=@List.all_eq_true
abbrev ABk:=@List.take_of_length_le
abbrev ABl:=@List.map_append
abbrev ABm:=@List.any_cons
abbrev ABn:=@Rat.intCast_zero
abbrev ABo:=@PySem.W.mg_of
abbrev ABp:=@PySem.wpAny_specialOf
abbrev ABq:=@PySem.wpAny_truthy_bool
abbrev ABr:=@List.mem_cons_self
abbrev ABs:=@PySem.wpAny_passesOwn
abbrev ABt:=@Int.mul_one
abbrev ABu:=@PyProof.Rows.callWith_type1
abbrev ABv:=@List.nodup_cons
abbrev ABw:=@List.of_mem_zip
abbrev ABx:=@Int.toNat_natCast
abbrev ABy:=@List.map_nil
abbrev ABz:=@Nat.div_le_self
abbrev AB0:=@Int.natAbs_neg
abbrev AB1:=@Nat.gcd_dvd_right
abbrev AB2:=@Int.natCast_ediv
abbrev AB3:=@Nat.le_of_dvd
abbrev AB4:=@decide_eq_decide
abbrev AB5:=@List.filter_cons
abbrev AB6:=@List.find?_cons
abbrev AB7:=@Rat.intCast_lt_intCast
abbrev AB8:=@Rat.mul_pos_iff_of_pos_left
abbrev AB9:=@Bool.true_and
abbrev ACA:=@Array.length_toList
abbrev ACB:=@PySem.wpAny_isInstance
abbrev ACC:=@Nat.le_of_lt
abbrev ACD:=@List.getElem?_set_self
abbrev ACE:=@PySem.Calls.spliced_cons
abbrev ACF:=@PySem.codeAny_mono
abbrev ACG:=@PySem.wpAny_Call_Name_kw
abbrev ACH:=@List.mem_of_getElem?
abbrev ACI:=@PyProof.Rows.slot_tuple_getitem
abbrev ACJ:=@List.forIn_cons
abbrev ACK:=@List.getD_eq_getElem?_getD
abbrev ACL:=@PySem.wpAny_of_eq
abbrev ACN:=@List.map_congr_left
abbrev ACO:=@Nat.gcd_comm
abbrev ACP:=@Nat.gcd_pos_of_pos_right
abbrev ACQ:=@Rat.divInt_eq_div
abbrev ACR:=@Rat.mul_pos
abbrev ACS:=@List.length_filter_le
abbrev ACT:=@Nat.mul_le_mul_right
abbrev ACU:=@PySem.sizeLine_eq
abbrev ACV:=@PySem.wpAny_call
abbrev ACW:=@PySem.mem_of_lookup
abbrev ACX:=@Prod.ext
abbrev ACY:=@List.replicate_succ
abbrev ACZ:=@Nat.lt_trans
abbrev ACa:=@List.any_eq_true
abbrev ACb:=@PySem.wpAny_pyIter_list
abbrev ACc:=@Nat.pow_le_pow_right
abbrev ACd:=@Rat.div_def
abbrev ACe:=@of_decide_eq_false
abbrev ACf:=@Option.map_eq_some_iff
abbrev ACg:=@Nat.le_add_right
abbrev ACh:=@List.foldl_append
abbrev ACi:=@PySem.F.called_set
abbrev ACj:=@PySem.codeAny_builtin
abbrev ACk:=@decide_eq_true_iff
abbrev ACl:=@List.length_flatMap
abbrev ACm:=@Nat.mul_lt_mul''
abbrev ACn:=@List.getElem_zip
abbrev ACo:=@Int.emod_nonneg
abbrev ACp:=@Int.emod_lt_of_pos
abbrev ACq:=@PyProof.Rows.boot_isinstance
abbrev ACr:=@PySem.F.slot_tuple_hash
abbrev ACs:=@Array.forIn_toList
abbrev ACt:=@PySem.wpAny_forIn_list
abbrev ACu:=@PySem.F.slot_tuple_eq
abbrev ACv:=@beq_eq_false_iff_ne
abbrev ACw:=@List.getElem?_eq_none_iff
abbrev ACx:=@PySem.wpAny_execs_nil
abbrev ACy:=@PySem.Calls.spliced_nil
abbrev ACz:=@List.length_take
abbrev AC0:=@PySem.wpAny_typeOf
abbrev AC1:=@PySem.Heap.get?_update_self
abbrev AC2:=@PySem.Calls.callWith_builtin
abbrev AC3:=@List.reverse_cons
abbrev AC4:=@PySem.F.slot_tuple_iterator_next
abbrev AC5:=@List.forIn_nil
abbrev AC6:=@PySem.wpAny_onRaise
abbrev AC7:=@PySem.wpAny_attempt
abbrev AC8:=@PySem.F.slot_zip_next
abbrev AC9:=@List.getElem?_set
abbrev ADA:=@Rat.num_divInt
abbrev ADB:=@Int.natCast_mul
abbrev ADC:=@Rat.divInt_eq_divInt_iff
abbrev ADD:=@Int.mul_comm
abbrev ADE:=@Int.mul_assoc
abbrev ADF:=@List.set_cons_succ
abbrev ADG:=@List.cons_append
abbrev ADH:=@PySem.call_meetsIn
abbrev ADI:=@PySem.Heap.get?_update_ne
abbrev ADJ:=@PySem.wpAny_askSetting
abbrev ADK:=@Option.getD_some
abbrev ADL:=@PySem.F.slot_enumerate_next
abbrev ADM:=@Int.le_refl
abbrev ADN:=@Rat.intCast_inj
abbrev ADO:=@Nat.two_pow_pos
abbrev ADP:=@Rat.intCast_add
abbrev ADQ:=@PySem.wpAny_tupleItemsOf
abbrev ADR:=@Nat.add_assoc
abbrev ADS:=@PySem.isSubtype_tuple_tuple
abbrev ADT:=@List.filterMap_cons
abbrev ADU:=@PySem.wpAny_assign_Name
abbrev ADV:=@Bool.false_and
abbrev ADW:=@Int.fmod_eq_emod_of_nonneg
abbrev ADX:=@List.append_nil
abbrev ADY:=@PySem.noFill_tuple_add
abbrev ADZ:=@PySem.F.slot_tuple_add
abbrev ADa:=@PySem.F.entry_tuple_add
abbrev ADb:=@PySem.F.args_tuple_add_2
abbrev ADc:=@List.length_drop
abbrev ADd:=@PySem.wpAny_comprehension_free
abbrev ADe:=@PySem.wpAny_updateSeq_pair
abbrev ADf:=@List.drop_eq_getElem_cons
abbrev ADg:=@Nat.pow_succ
abbrev ADh:=@Rat.den_divInt
abbrev ADi:=@Rat.divInt_add_divInt
abbrev ADj:=@Rat.divInt_mul_divInt
abbrev ADk:=@Nat.gcd_dvd_left
abbrev ADl:=@Int.sign_eq_one_of_pos
abbrev ADm:=@Bool.true_or
abbrev ADn:=@Bool.false_or
abbrev ADo:=@PySem.tupleKind_room_in1
abbrev ADp:=@PySem.F.slot_dict_get
abbrev ADq:=@PySem.wpAny_Call_method
abbrev ADr:=@PySem.F.plainAttrs_dict
abbrev ADs:=@List.getElem?_drop
abbrev ADt:=@Nat.zero_add
abbrev ADu:=@PySem.wpAny_pyIter_enum
abbrev ADv:=@PySem.F.slot_set_init
abbrev ADw:=@PySem.F.slot_enumerate_getattribute
abbrev ADx:=@List.getLast?_eq_some_getLast
abbrev ADy:=@List.mem_of_getLast?
abbrev ADz:=@Bool.or_eq_true
abbrev AD0:=@List.length_eq_zero_iff
abbrev AD1:=@List.dropLast_concat_getLast
abbrev AD2:=@Nat.dvd_trans
abbrev AD3:=@Rat.div_mul_cancel
abbrev AD4:=@List.zip_cons_cons
abbrev AD5:=@List.set_cons_zero
abbrev AD6:=@Int.lt_trichotomy
abbrev AD7:=@decide_eq_false_iff_not
abbrev AD8:=@Rat.intCast_sub
abbrev AD9:=@List.sum_nil
abbrev AEA:=@Rat.natCast_mul
abbrev AEB:=@Nat.min_eq_left
abbrev AEC:=@PySem.W.cellsFrom_some
abbrev AED:=@PyProof.Rows.callWith_builtin1
abbrev AEE:=@PyProof.noPylong_of_log2
abbrev AEF:=@PySem.F.entry_tuple_iterator_next
abbrev AEG:=@PySem.F.args_tuple_iterator_next_1
abbrev AEH:=@List.drop_eq_nil_of_le
abbrev AEI:=@Int.gcd_eq_natAbs_gcd_natAbs
abbrev AEJ:=@Int.fdiv_eq_ediv_of_dvd
abbrev AEK:=@Int.sign_eq_neg_one_of_neg
abbrev AEL:=@List.pairwise_iff_getElem
abbrev AEM:=@List.getLast?_cons_cons
abbrev AEN:=@PySem.F.entry_dict_get
abbrev AEO:=@PySem.F.args_dict_get_3
abbrev AEP:=@PySem.F.slot_dict_itemiterator_iter
abbrev AEQ:=@PySem.F.slot_dict_items
abbrev AER:=@PyProof.Rows.boot_set
abbrev AES:=@PySem.F.plain_list_iadd
abbrev AET:=@PySem.F.slot_dict_values
abbrev AEU:=@List.getElem?_zip_eq_some
abbrev AEV:=@List.zipWith_cons_cons
section
namespace L2
open PySem
def Ds (s:Stmt):Arguments:=match s with
 | .FunctionDef _ a _ _ _ _ _ _ _ _=>a
 | _=>{posonlyargs:= [],args:= [],vararg:=none,kwonlyargs:= [],kw_defaults:= [],kwarg:=none,defaults:= [] }
def CC (s:Stmt):kn Stmt:=match s with
 | .FunctionDef _ _ b _ _ _ _ _ _ _=>b
 | _=> []
def As (s:Stmt):Scope:=match s with
 | .FunctionDef _ _ _ _ _ _ sc _ _ _=>sc
 | _=>{kind:= .function,names:= [],isGenerator:=false,isCoroutine:=false}
end L2
namespace K37
open PySem L2 PyProof.Rows
abbrev pwA:=PySem.Challenge.pw_skylanes_k37_papers_of_any_shape
def top (i:Nat):Stmt:=K37.pwA.main.body.getD i (.Pass ⟨0,0,0,0⟩)
abbrev Ez:Stmt:=top 55
abbrev Fw:Stmt:=top 66
abbrev Eb:Stmt:=top 68
abbrev DR:Stmt:=top 69
abbrev E1:Stmt:=top 54
abbrev FG:Stmt:=top 65
abbrev Ge:Stmt:=top 56
abbrev Fx:Stmt:=top 62
abbrev Gg:Stmt:=top 63
abbrev IB:Stmt:=top 58
abbrev Gf:Stmt:=top 64
abbrev IC:Stmt:=top 67
abbrev Na:Stmt:=top 37
abbrev J6:Stmt:=top 38
abbrev IE:Stmt:=top 41
abbrev NW:Stmt:=top 9
abbrev KD:Stmt:=top 42
abbrev Fz:Stmt:=top 43
abbrev IK:Stmt:=top 44
abbrev ID:Stmt:=top 45
abbrev NX:Stmt:=top 2
abbrev VT:Stmt:=top 3
abbrev RX:Stmt:=top 6
abbrev IG:Stmt:=top 19
abbrev VU:Stmt:=top 5
abbrev Gk:Stmt:=top 25
abbrev Gm:Stmt:=top 24
abbrev J7:Stmt:=top 26
abbrev NZ:Stmt:=top 40
abbrev D9:Stmt:=top 11
abbrev IH:Stmt:=top 36
abbrev RZ:Stmt:=top 4
abbrev Ec:Stmt:=top 50
abbrev VS:Stmt:=top 8
abbrev II:Stmt:=top 46
abbrev IL:Stmt:=top 47
abbrev DS:Stmt:=top 49
abbrev HB:Stmt:=top 39
abbrev J9:Stmt:=top 51
abbrev RY:Stmt:=top 7
abbrev D8:Stmt:=top 20
abbrev Gi:Stmt:=top 21
abbrev KC:Stmt:=top 13
abbrev IJ:Stmt:=top 22
abbrev Go:Stmt:=top 23
abbrev KB:Stmt:=top 52
abbrev Fy:Stmt:=top 28
abbrev IF:Stmt:=top 1
abbrev J8:Stmt:=top 10
abbrev Gh:Stmt:=top 29
abbrev FH:Stmt:=top 30
abbrev NY:Stmt:=top 33
abbrev FJ:Stmt:=top 31
abbrev Gj:Stmt:=top 32
abbrev FI:Stmt:=top 34
abbrev Pk:Stmt:=top 70
def m0:String:="law_skylanes_k37_papers_of_any_shape"
def m1:String:="skylanes.planes"
def m2:String:="skylanes.fractions"
def m3:String:="skylanes.wedges"
def m4:String:="skylanes.meets"
def m5:String:="skylanes.nearness"
def m6:String:="skylanes.apart"
def eN (P:Params)(x:String)(i:Nat)(v:km):DictEntry:=⟨PyData.keyHash P (Str.ofString x), .str (Str.ofString x) i,v⟩
abbrev eR (P:Params)(x:String)(i f:Nat):=eN P x i (.ref f)
def fO (x:String)(s:Stmt)(m:String)(i c:Nat):Obj:=⟨.type "function",none, .func (PySem.W.fnOf (Str.ofString x) (Str.ofString x) (Ds s) (CC s) (As s) .none .none .none (.str (Str.ofString m) i) none (.ref c) .none), #[]⟩
def vc (t:Nat)(x:String)(s:Stmt)(m:String)(i c:Nat):Obj:=⟨.type "function",none, .func (PySem.W.fnOf (Str.ofString x) (Str.ofString x) (Ds s) (CC s) (As s) (.ref t) .none .none (.str (Str.ofString m) i) none (.ref c) .none), #[]⟩
def rV:Nat->km
 | 0=> .none
 | n+1=> .ref (n+1)
def fc (x:String)(s:Stmt)(m:String)(a c f i l n g b d e h j u:Nat)(r:AAD):AAD:=
 (c,⟨.type "code",none, .fields #[.str (Str.ofString x) i, .str (Str.ofString x) (i+1), .str (Str.ofString "/claim/cut.py") (i+2), .int l 0, .int n 0, .int 0 0, .int 0 0, .int g 0,rV b, .bool true, .int 181 0,rV d, .none,rV e,rV h,rV j, .int u 0, .int l 0, .str (Str.ofString "/claim/cut.py") (u+1)], #[]⟩) ::
 (f,fO x s m a c)::r
def yP (t:Nat)(x:String)(s:Stmt)(m:String)(a c f i l n g b d e h j u:Nat)(r:AAD):AAD:=
 (c,⟨.type "code",none, .fields #[.str (Str.ofString x) i, .str (Str.ofString x) (i+1), .str (Str.ofString "/claim/cut.py") (i+2), .int l 0, .int n 0, .int 0 0, .int 0 0, .int g 0,rV b, .bool true, .int 181 0,rV d, .none,rV e,rV h,rV j, .int u 0, .int l 0, .str (Str.ofString "/claim/cut.py") (u+1)], #[]⟩) ::
 (f,vc t x s m a c)::r
def tV (P:Params):Obj:=⟨.type "dict",none, .dict #[eN P "__name__" 165 (.str (Str.ofString "law_skylanes_k37_papers_of_any_shape") 628),eN P "__doc__" 166 .none,eN P "__package__" 167 .none,eN P "__loader__" 168 (.builtin "__main__.__loader__#opaque"),eN P "__spec__" 169 .none,eR P "__annotations__" 170 6,eR P "__builtins__" 171 4,eN P "__file__" 173 (.str (Str.ofString "/claim/cut.py") 172),eN P "__cached__" 174 .none,eR P "is_whole" 195 21,eR P "common" 203 28,eR P "part" 212 35,eR P "whole" 219 42,eR P "plus" 227 49,eR P "minus" 235 56,eR P "times" 243 63,eR P "over" 251 70,eR P "before" 259 77,eR P "is_part" 268 84,eR P "shared_bottom" 278 91,eR P "size_of" 288 98,eR P "NOUGHT" 293 99,eR P "ONCE" 296 100,eR P "BACK" 300 101,eR P "STRICT" 313 102,eR P "negative" 320 109,eR P "piece_between" 333 116,eR P "pieces_of" 339 121,eR P "sizes_of" 351 128,eR P "wedges_of" 368 135,eR P "time_form" 381 142,eR P "side_form" 399 149,eR P "form_of" 407 156,eR P "is_list_of" 417 163,eR P "is_weight" 426 170,eR P "are_weights" 432 175,eR P "weighed_sum" 447 182,eR P "shows_row" 453 187,eR P "is_row" 462 194,eR P "shows_apart" 477 201,eR P "plane_of" 485 206,eR P "summed" 491 211,eR P "crossed" 500 218,eR P "without" 507 224,eR P "placed" 513 229,eR P "is_never" 521 236,eR P "turn_of" 531 243,eR P "is_tighter" 542 250,eR P "tightest" 553 257,eR P "fault_in" 564 264,eR P "range_in" 576 271,eR P "value_in" 587 278,eR P "weights_by_time" 600 285,eR P "told_weights" 606 290,eR P "meet_in" 612 295,eR P "meet_of" 627 302,eR P "_law_tape" 639 309,eR P "_law_draw" 649 316,eR P "_law_part" 660 323,eR P "_law_less" 668 330,eR P "_law_sum" 676 337,eR P "_law_off" 684 344,eR P "_law_product" 692 351,eR P "_law_ratio" 700 358,eR P "_law_place" 708 365,eR P "_law_span" 716 372,eR P "_law_plan" 728 379,eR P "_law_bounds" 736 386,eR P "_law_apart" 744 393,eR P "_law_two" 750 398,eR P "_law_bad_row" 756 403,eR P "_law_bad_papers" 762 408,eR P "law" 777 415] 73, #[]⟩
def KK (P:Params):AAD:=(3,tV P)::(fc "_law_draw" Ez m0 628 315 316 640 234 2 3 310 311 312 313 314 647 <| fc "_law_apart" Fw m0 628 392 393 737 291 1 3 387 388 389 390 391 742 <| fc "_law_bad_row" Eb m0 628 402 403 751 308 2 3 399 400 0 0 401 754 <| fc "_law_bad_papers" DR m0 628 407 408 757 323 2 3 404 405 0 0 406 760 <| fc "_law_tape" E1 m0 628 308 309 630 228 2 3 303 304 305 306 307 637 <| fc "_law_bounds" FG m0 628 385 386 729 286 1 3 380 381 382 383 384 734 <| fc "_law_part" Ge m0 628 322 323 650 242 2 3 317 318 319 320 321 658 <| fc "_law_place" Fx m0 628 364 365 701 258 1 3 359 360 361 362 363 706 <| fc "_law_span" Gg m0 628 371 372 709 265 1 3 366 367 368 369 370 714 <| fc "_law_sum" IB m0 628 336 337 669 250 2 3 331 332 333 334 335 674 <| fc "_law_plan" Gf m0 628 378 379 717 270 1 3 373 374 375 376 377 726 <| fc "_law_two" IC m0 628 397 398 745 294 1 3 394 395 0 0 396 748 <| fc "summed" Na m1 478 210 211 486 130 4 3 207 208 0 0 209 489 <| fc "crossed" J6 m1 478 217 218 492 136 3 3 212 213 214 215 216 498 <| fc "is_never" IE m1 478 235 236 514 153 1 3 230 231 232 233 234 519 <| fc "before" NW m2 187 76 77 252 23 2 3 71 72 73 74 75 257 <| fc "turn_of" KD m1 478 242 243 522 156 2 3 237 238 239 240 241 529 <| fc "is_tighter" Fz m1 478 249 250 532 160 3 3 244 245 246 247 248 540 <| fc "tightest" IK m1 478 256 257 543 168 3 3 251 252 253 254 255 551 <| fc "fault_in" ID m1 478 263 264 554 174 2 3 258 259 260 261 262 562 <| fc "common" NX m2 187 27 28 196 4 2 3 22 23 24 25 26 201 <| fc "part" VT m2 187 34 35 204 8 2 3 29 30 31 32 33 210 <| fc "minus" RX m2 187 55 56 228 17 2 3 50 51 52 53 54 233 <| fc "negative" IG m3 289 108 109 314 45 1 3 103 104 105 106 107 318 <| fc "plus" VU m2 187 48 49 220 15 2 3 43 44 45 46 47 225 <| fc "side_form" Gk m3 289 148 149 382 75 2 3 143 144 145 146 147 397 <| fc "time_form" Gm m3 289 141 142 369 71 2 3 136 137 138 139 140 379 <| fc "form_of" J7 m3 289 155 156 400 84 2 3 150 151 152 153 154 405 <| fc "placed" NZ m1 478 228 229 508 147 3 3 225 226 0 0 227 511 <| fc "shared_bottom" D9 m2 187 90 91 269 32 1 3 85 86 87 88 89 276 <| fc "plane_of" IH m1 478 205 206 480 126 3 3 202 203 0 0 204 483 <| fc "whole" RZ m2 187 41 42 213 13 1 3 36 37 38 39 40 217 <| fc "told_weights" Ec m4 588 289 290 601 203 1 3 286 287 0 0 288 604 <| fc "over" VS m2 187 69 70 244 21 2 3 64 65 66 67 68 249 <| fc "range_in" II m1 478 270 271 565 183 2 3 265 266 267 268 269 574 <| fc "value_in" IL m1 478 277 278 577 192 2 3 272 273 274 275 276 585 <| fc "weights_by_time" DS m4 588 284 285 590 196 1 3 279 280 281 282 283 598 <| yP 219 "without" HB m1 478 223 224 502 138 3 3 220 221 0 0 222 505 <| fc "meet_in" J9 m4 588 294 295 607 208 1 3 291 292 0 0 293 610 <| fc "times" RY m2 187 62 63 236 19 2 3 57 58 59 60 61 241 <| fc "piece_between" D8 m3 289 115 116 321 47 2 3 110 111 112 113 114 331 <| fc "pieces_of" Gi m3 289 120 121 334 54 1 3 117 118 0 0 119 337 <| fc "size_of" KC m5 279 97 98 281 38 2 3 92 93 94 95 96 286 <| fc "sizes_of" IJ m3 289 127 128 340 56 3 3 122 123 124 125 126 349 <| fc "wedges_of" Go m3 289 134 135 352 62 3 3 129 130 131 132 133 366 <| fc "meet_of" KB m4 588 301 302 613 219 3 3 296 297 298 299 300 625 <| fc "is_list_of" Fy m6 408 162 163 410 87 2 3 157 158 159 160 161 415 <| fc "is_whole" IF m2 187 20 21 189 2 1 3 15 16 17 18 19 193 <| fc "is_part" J8 m2 187 83 84 260 25 1 3 78 79 80 81 82 266 <| fc "is_weight" Gh m6 408 169 170 418 89 1 3 164 165 166 167 168 424 <| fc "are_weights" FH m6 408 174 175 427 94 1 3 171 172 0 0 173 430 <| fc "is_row" NY m6 408 193 194 454 113 3 3 188 189 190 191 192 460 <| fc "weighed_sum" FJ m6 408 181 182 433 98 3 3 176 177 178 179 180 445 <| fc "shows_row" Gj m6 408 186 187 448 106 2 3 183 184 0 0 185 451 <| fc "shows_apart" FI m6 408 200 201 463 117 4 3 195 196 197 198 199 475 <| fc "law" Pk m0 628 414 415 763 327 1 3 409 410 411 412 413 775 <| [(102,⟨.type "tuple",none, .seq #[(.int 0 301),(.int 1 302),(.int 0 303),(.int 1 304),(.int 0 305),(.int 0 306),(.int 1 307),(.int 1 308),(.int 1 309),(.int 1 310),(.int 1 311),(.int 1 312)] 0, #[]⟩),(100,⟨.type "tuple",none, .seq #[(.int 1 294),(.int 1 295)] 0, #[]⟩),(99,⟨.type "tuple",none, .seq #[(.int 0 291),(.int 1 292)] 0, #[]⟩),(101,⟨.type "tuple",none, .seq #[(.int (-1) 298),(.int 1 299)] 0, #[]⟩),(219,⟨.type "tuple",none, .seq #[(.int 2 501)] 0, #[]⟩)])
def KA:kn kj:= [3,315,316,392,393,402,403,407,408,308,309,385,386,322,323,364,365,371,372,336,337,378,379,397,398,210,211,217,218,235,236,76,77,242,243,249,250,256,257,263,264,27,28,34,35,55,56,108,109,48,49,148,149,141,142,155,156,228,229,90,91,205,206,41,42,289,290,69,70,270,271,277,278,284,285,223,224,294,295,62,63,115,116,120,121,97,98,127,128,134,135,301,302,162,163,20,21,83,84,169,170,174,175,193,194,181,182,186,187,200,201,414,415,102,100,99,101,219]
def q:kd:={K37.pwA with main:={K37.pwA.main with body:= [top 0,top 1,top 2,top 3,top 4,top 5,top 6,top 7,top 8,top 9,top 10,top 11,top 12,top 13,top 14,top 15,top 16,top 17,top 18,top 19,top 20,top 21,top 22,top 23,top 24,top 25,top 26,top 27,top 28,top 29,top 30,top 31,top 32,top 33,top 34,top 35,top 36,top 37,top 38,top 39,top 40,top 41,top 42,top 43,top 44,top 45,top 46,top 47,top 48,top 49,top 50,top 51,top 52,top 53,top 54,top 55,top 56,top 57,top 58,top 59,top 60,top 61,top 62,top 63,top 64,top 65,top 66,top 67,top 68,top 69,top 70] }}
end K37
open PySem PySem.W PyProof.Rows
def K37.se (s:kl):=openSeen K37.q [] (importedModules (K37.pwA).main.body) (λs=>xlAt K37.q [] s&&recOk [] s) true s
def K37.go:=openGood K37.q []
def K37.rn (w:kc):=openEnds treeTable K37.pwA w 6000
def K37.l0:∀w,(K37.rn w).map (λs=>(K37.se s).1)=some (K37.go.1):=by intro w;kernel_rfl
def K37.l1:∀w,(K37.rn w).map (λs=>(K37.se s).2.1)=some (K37.go.2.1):=by intro w;kernel_rfl
def K37.l2:∀w,(K37.rn w).map (λs=>(K37.se s).2.2.1)=some (K37.go.2.2.1):=by intro w;kernel_rfl
def K37.l3:∀w,(K37.rn w).map (λs=>(K37.se s).2.2.2.1)=some (K37.go.2.2.2.1):=by intro w;kernel_rfl
def K37.l4:∀w,(K37.rn w).map (λs=>(K37.se s).2.2.2.2)=some (K37.go.2.2.2.2):=by intro w;kernel_rfl
def K37.l5:∀w,(K37.rn w).map (λs=>K37.KA.map s.heap.get?)=some ((K37.KK w.params).map λp=>some p.2):=by intro w;kernel_rfl
def K37.w1:PySem.Challenge.rw_skylanes_k37_papers_of_any_shape.wellSaid=true:=by
 kernel_rfl
def K37.w0:PySem.Challenge.rw_skylanes_k37_papers_of_any_shape.row.wellSaid=true:=by
 kernel_rfl
end
namespace PySem
open Sem (wp)
abbrev FK:=(Int×Int)×Int
section
variable {prog:kd}{w:kc}
def Hi (prog:kd)(w:kc)(h:gn)(k:FK)(a:kj):Prop:=∃o items n b u,h.get? a=some o/\o.cls= .type "tuple" /\o.data= .seq items n/\items.toList= [.ref b, .int k.2 u] /\IsTupleKey (intKind prog w) h [k.1.1,k.1.2] b
def Hi.typeIs {s:kl}{k:FK}{a:kj}(x:Hi prog w s.heap k a):s.TypeIs (.ref a) "tuple" :=let ⟨o,_,_,_,_,b,hc,_⟩:=x;⟨o,b,hc⟩
def Hi.inj {h:gn}{a:kj}{x y:FK}(hx:Hi prog w h x a)(i:Hi prog w h y a):x=y:=by obtain⟨o,items,n,b,u,j,_,hd,hi,hk⟩:=hx;obtain⟨k,c,p,r,s,l,_,e,f,m⟩:=i;obtain rfl:o=k:=AAb (j.symm.trans l);rw[hd] at e;injection e with h1 _;subst h1;rw[hi] at f;injection f with h1 h2;injection h1 with h1;subst h1;injection h2 with h2 _;injection h2 with h2 _;have:=hk.inj m;obtain⟨⟨x1,t⟩,v⟩:=x;obtain⟨⟨y1,y2⟩,y3⟩:=y;injection this with g d;injection d with d _;simp only at h2 g d;subst h2;subst g;subst d;rfl
def Hi.keeps {h h':gn}{k:FK}{a d:kj}{o:Obj}{es ep}(x:Hi prog w h k a)(e:h.get? d=some o)(hd:o.data= .dict es ep)(hs:Heap.SameBut d h h'):Hi prog w h' k a:=by
 obtain⟨f,items,n,b,u,g,hc,c,hi,hk⟩:=x;have i:a≠d:=by rintro rfl;obtain rfl:f=o:=AAb (g.symm.trans e);rw[hd] at c;exact nomatch c
 exact⟨f,items,n,b,u,(hs.2 a i).trans g,hc,c,hi,hk.keeps e hd hs⟩
def Ul (prog:kd)(w:kc)(k:FK):Int:=reduceHash (Builtin.Tuple.tupleHashOf [tupleKeyHash (intKind prog w) [k.1.1,k.1.2],hashInt k.2])
variable {A:fe}{E:km->kl->Prop}{s:kl}
def LW {k:FK}{a:kj}{Q:Int->kl->Prop}(hu:A.units+1<cLine)(hk:Hi prog w s.heap k a)(h:Q (Ul prog w k) {s with toks:=s.toks+5}):wpAny (model prog w) A (pyHash (.ref a)) Q E s:=by
 have f:=hk.typeIs;obtain⟨o,items,n,b,u,i,_,hd,hi,j⟩:=hk;unfold pyHash;first | unfold pyHashByItsType|skip
 first | refine AAC (wpAny_cRoomFor_or (.inr (by omega)) ?_)|skip
 refine AAC (ABp f ACr.lookup ?_);show wpAny _ _ (if (some (Value.builtin "tuple.__hash__")==some Value.none)=true then _ else _) Q E s;rw[AAF (by rw[beq_builtin_none];exact AAU)];refine AAC (ABp f ACr.lookup ?_);show wpAny _ _ (callSpecialIfBoundUnlessNone? (.ref a) "__hash__" _ >>= _) Q E s;refine AAC (wpAny_callSpecialIfBoundUnlessNone?_slot f ACr (AAy ACr f F.entry_tuple_hash ?_ (F.args_tuple_hash_1 _)));show wpAny _ _ (Builtin.Tuple.tupleItemsOf (.ref a) >>= _) _ _ s;refine AAC (ADQ i hd ?_);refine AAC ?_;rw[<-ACs,hi];refine ACt _
  (λrest (r:Array Int) d=>(rest= [.ref b, .int k.2 u] /\r.toList= [] /\d=s)\/(rest= [.int k.2 u] /\r.toList= [tupleKeyHash (intKind prog w) [k.1.1,k.1.2]] /\d={s with toks:=s.toks+3})\/
    (rest= [] /\r.toList= [tupleKeyHash (intKind prog w) [k.1.1,k.1.2],hashInt k.2] /\d={s with toks:=s.toks+4}))
  _ ?_ ?_ _ _ (.inl ⟨rfl,rfl,rfl⟩)
 .rintro x rest r d (⟨c,e,rfl⟩|⟨c,e,rfl⟩|⟨c,_⟩)
  .cases c;refine AAC (wpAny_pyHash_tuple (knd:=intKind prog w) (by first | exact hu|omega) j ?_);exact AAE (.inr (.inl ⟨rfl,by simp[e],rfl⟩))
  .cases c;refine AAC (wpAny_pyHash_int ?_);exact AAE (.inr (.inr ⟨rfl,by simp[e],by simp[ADR]⟩))
  .cases c
 .rintro r d (⟨c,_⟩|⟨c,_⟩|⟨_,e,rfl⟩)
  .cases c
  .cases c
  .show wpAny _ _ (retInt (Builtin.Tuple.tupleHashOf r.toList)) _ _ _;rw[e];refine wpAny_ret_mkInt ?_;show wpAny _ _ (if (decide (-(2:Int)^63<=Builtin.Tuple.tupleHashOf [tupleKeyHash (intKind prog w) [k.1.1,k.1.2],hashInt k.2])&&decide (Builtin.Tuple.tupleHashOf [tupleKeyHash (intKind prog w) [k.1.1,k.1.2],hashInt k.2] < 2^63))=true then _ else _) Q E _;unfold Ul reduceHash at h;by_cases g:(decide (-(2:Int)^63<=Builtin.Tuple.tupleHashOf [tupleKeyHash (intKind prog w) [k.1.1,k.1.2],hashInt k.2])&&decide (Builtin.Tuple.tupleHashOf [tupleKeyHash (intKind prog w) [k.1.1,k.1.2],hashInt k.2] < 2^63))=true
   .rw [AAG g];rw[AAG g] at h;exact AAE (by simpa[ADR] using h)
   .rw [AAF g];rw[AAF g] at h;exact AAC (ABc (AAE (by simpa[ADR] using h)))
def Um {x y:FK}{a b:kj}{P:Fin->kl->Prop}(hu:A.units<cLine)(hx:Hi prog w s.heap x a)(n:Hi prog w s.heap y b)(h:P (.done (.ret (.bool (decide (x=y))))) s):wpAny (model prog w) A (Builtin.«tuple.__eq__» ⟨[.ref a, .ref b], []⟩) P E s:=by
 have D:=n.typeIs;obtain⟨R,xs,S,ba,o,F,_,G,p,H⟩:=hx;obtain⟨T,t,U,I,B,J,_,hdb,C,K⟩:=n;have L:xs.size=2:=by rw[<-ACA,p];rfl
 have M:t.size=2:=by rw[<-ACA,C];rfl
 obtain⟨⟨x1,f⟩,d⟩:=x;obtain⟨⟨y1,y2⟩,y3⟩:=y;show wpAny _ _ (isInstance (.ref b) (.type "tuple") >>= _) _ _ s;refine AAC (ACB D ADS ?_);simp only[ABM,AAt,AAn];refine AAC (ADQ F G ?_);refine AAC (ADQ J hdb ?_);refine AAC ?_;rw[p,C];refine ACt _
  (λrest r g=>r.1=none/\g=s/\(rest= [(.ref ba, .ref I),(.int d o, .int y3 B)] \/(rest= [(.int d o, .int y3 B)] /\x1=y1/\f=y2)\/(rest= [] /\x1=y1/\f=y2/\d=y3)))
  _ ?_ ?_ _ _ ⟨rfl,rfl, .inl rfl⟩
 .rintro ⟨u,v⟩ rest r g ⟨j,rfl,(c|⟨c,k,l⟩|⟨c,_⟩)⟩
  .cases c;refine AAC (wpAny_eqBool_tuple (knd:=intKind prog w) (by first | exact hu|omega) H K ?_);by_cases hk:x1=y1/\f=y2
   .rw [AAP (by rw[hk.1,hk.2])];simp only[ABM,AAt,AAn];exact AAE ⟨rfl,rfl, .inr (.inl ⟨by first | trivial|rfl,hk⟩)⟩
   .rw [AAY (by intro z;injection z with i e;injection e with e _;exact hk ⟨i,e⟩)];simp only[Bool.not_false,AA9];have m:decide ((((x1,f),d):FK)=((y1,y2),y3))=false:=by apply AAY;intro z;injection z with i e;injection i with N O;exact hk ⟨N,O⟩
    rw[m] at h;exact AAC (AAE (AAE (AAE h)))
  .cases c;refine AAC (wpAny_eqBool_int ?_);by_cases hk:d=y3
   .rw [show (d==y3)=true by simp[hk]];simp only[ABM,AAt,AAn];exact AAE ⟨rfl,rfl, .inr (.inr ⟨by first | trivial|rfl,k,l,hk⟩)⟩
   .rw [show (d==y3)=false by simp[hk]];simp only[Bool.not_false,AA9];have m:decide ((((x1,f),d):FK)=((y1,y2),y3))=false:=by apply AAY;intro z;injection z with i e;exact hk e
    rw[m] at h;exact AAC (AAE (AAE (AAE h)))
  .cases c
 .rintro ⟨W,X⟩ g ⟨j,rfl,(c|⟨c,_⟩|⟨_,k,l,Q⟩)⟩
  .cases c
  .cases c
  .simp only at j;subst j;refine AAE ?_;show P (.done (.ret (.bool (xs.size==t.size)))) g;rw[L,M];rw[AAP (by rw[k,l,Q])] at h;exact h
def LV {x y:FK}{a b:kj}{Q:ke->kl->Prop}(hu:A.units+1<cLine)(hx:Hi prog w s.heap x a)(c:Hi prog w s.heap y b)(h:Q (decide (x=y)) s):wpAny (model prog w) A (eqBool (.ref a) (.ref b)) Q E s:=by
 unfold eqBool;try with_reducible refine AAg ?_
 show wpAny _ _ (if (Value.ref a==Value.ref b)=true then _ else _) Q E s;by_cases d:(Value.ref a==Value.ref b)=true
 .rw [AAG d];have e:a=b:=by have:=eq_of_beq d;injection this
  subst e;obtain rfl:=hx.inj c;exact AAC (ABc (AAE (by simpa using h)))
 .rw [AAF d];exact AAC (wpAny_richCompare_same_room (op:= .Eq) hx.typeIs c.typeIs ACu
   (AAy ACu hx.typeIs F.entry_tuple_eq (Um (by first | exact hu|omega) hx c ⟨_,rfl,(λe=>nomatch e),ABq h⟩) (F.args_tuple_eq_2 _ _)) (by omega))
def F5 {K:Type}[DecidableEq K]{knd:KeyKind prog w K}{f:kn K}{a:kj}{Q:ke->kl->Prop}(m:Nat)(hk:IsTupleKey knd s.heap f a)(h:Q true s):wpAny (model prog w) A (eqIsQuiet (m+1) (.ref a)) Q E s:=by
 have d:=hk.typeIs;obtain⟨o,items,n,g,_,hd,hi⟩:=hk;unfold eqIsQuiet;refine AAC (ABp d ACu.lookup ?_);show wpAny _ _ (isInstance (.ref a) (.type "tuple") >>= _) _ _ s;refine AAC (ACB d ADS ?_);simp only[ABM,AAt,AAn];refine AAC (ABG g hd ?_);refine AAC ?_;show wpAny _ _ (forIn items _ _) _ _ s;rw[<-ACs];refine ACt _ (λrest r b=>r.1=none/\b=s/\∀v∈rest,carriedByValue v=true) _ ?_ ?_ _ _ ⟨rfl,rfl,hi.byValue⟩
 .rintro v rest r b ⟨c,rfl,e⟩;rw[eqIsQuiet_byValue _ (e v ABr)];refine AAC (AAE ?_);simp only[ABM,AAt,AAn];exact AAE ⟨rfl,rfl,λu i=>e u (ABN _ i)⟩
 .rintro ⟨j,k⟩ b ⟨c,rfl,_⟩;simp only at c;subst c;exact AAE h
def IP {k:FK}{a:kj}{Q:ke->kl->Prop}(hk:Hi prog w s.heap k a)(h:Q true s):wpAny (model prog w) A (eqIsQuiet 8 (.ref a)) Q E s:=by
 have f:=hk.typeIs;obtain⟨o,items,n,b,u,g,_,hd,hi,i⟩:=hk;unfold eqIsQuiet;refine AAC (ABp f ACu.lookup ?_);show wpAny _ _ (isInstance (.ref a) (.type "tuple") >>= _) _ _ s;refine AAC (ACB f ADS ?_);simp only[ABM,AAt,AAn];refine AAC (ABG g hd ?_);refine AAC ?_;show wpAny _ _ (forIn items _ _) _ _ s;rw[<-ACs,hi];refine ACt _ (λrest r d=>r.1=none/\d=s/\(rest= [.ref b, .int k.2 u] \/rest= [.int k.2 u] \/rest= [])) _ ?_ ?_ _ _ ⟨rfl,rfl, .inl rfl⟩
 .rintro v rest r d ⟨e,rfl,(c|c|c)⟩
  .cases c;refine AAC (F5 (knd:=intKind prog w) 6 i ?_);simp only[ABM,AAt,AAn];exact AAE ⟨rfl,rfl, .inr (.inl (by first | trivial|rfl))⟩
  .cases c;rw[eqIsQuiet_byValue _ rfl];refine AAC (AAE ?_);simp only[ABM,AAt,AAn];exact AAE ⟨rfl,rfl, .inr (.inr (by first | trivial|rfl))⟩
  .cases c
 .rintro ⟨j,l⟩ d ⟨e,rfl,_⟩;simp only at e;subst e;exact AAE h
end
def fkKind (prog:kd)(w:kc):HeapKind prog w FK where
 is:=Hi prog w
 hash:=Ul prog w
 draws:=λ_=>5
 room:=λA=>A.units+1<cLine
 inj:=λhx a=>hx.inj a
 keeps:=λx b hd hs=>x.keeps b hd hs
 pyHash:=λhu hk h=>LW hu hk h
 eqBool:=λhu hx a h=>LV hu hx a h
 quiet:=λhk h=>IP hk h
end PySem
namespace L2
open PySem PySem.Spec PyProof.Rows
abbrev Bx:=Sum Int Str
def PR:Bx->km->ke
 | .inl k,v=>Value.isInt k v
 | .inr x,v=>Value.isStrOf x v
def sV (w:kc):Bx->Int
 | .inl k=>hashInt k
 | .inr x=>hashStr w x
def BQ:∀{k:Bx} {v:km},PR k v=true->(∃i t,k=Sum.inl i/\v=Value.int i t)\/(∃x t,k=Sum.inr x/\v=Value.str x t)
 | .inl i,v,h=>by obtain⟨t,e⟩:=Value.isInt_shape (k:=i) (v:=v) h;exact .inl ⟨i,t,rfl,e⟩
 | .inr x,v,h=>by obtain⟨t,e⟩:=Value.isStrOf_shape (x:=x) (v:=v) h;exact .inr ⟨x,t,rfl,e⟩
def YH (i:Int)(t:Tok):PR (.inl i) (.int i t)=true:=by simp[PR,Value.isInt]
def YI (x:Str)(t:Tok):PR (.inr x) (.str x t)=true:=by simp[PR,Value.isStrOf]
def jG (a b:Int):decide ((Sum.inl a:Bx)=Sum.inl b)=(a==b):=by
 by_cases e:a=b
 .subst e;simp
 .have h:¬(Sum.inl a:Bx)=Sum.inl b:=λq=>e (Sum.inl.inj q);rw[AAY h];exact(ACv.mpr e).symm
def jJ (a b:Str):decide ((Sum.inr a:Bx)=Sum.inr b)=decide (a=b):=by
 by_cases e:a=b
 .subst e;simp
 .have h:¬(Sum.inr a:Bx)=Sum.inr b:=λq=>e (Sum.inr.inj q);rw[AAY h,AAY e]
def jH (a:Int)(b:Str):decide ((Sum.inl a:Bx)=Sum.inr b)=false:=AAY (λq=>nomatch q)
def jI (a:Str)(b:Int):decide ((Sum.inr a:Bx)=Sum.inl b)=false:=AAY (λq=>nomatch q)
def Ak (prog:kd)(w:kc):PySem.KeyKind prog w Bx where
 is:=PR
 hash:=sV w
 inj:=λv a b ha hb=>by
  rcases BQ ha with⟨i,t,rfl,rfl⟩|⟨x,t,rfl,rfl⟩
  .rcases BQ hb with⟨j,u,rfl,e⟩|⟨y,u,rfl,e⟩
   .injection e with c _;rw[c]
   .exact nomatch e
  .rcases BQ hb with⟨j,u,rfl,e⟩|⟨y,u,rfl,e⟩
   .exact nomatch e
   .injection e with c _;rw[c]
 byValue:=λk v h=>by rcases BQ h with⟨i,t,rfl,rfl⟩|⟨x,t,rfl,rfl⟩ <;> rfl
 pyHash:=λhv h=>by
  rcases BQ hv with⟨i,t,rfl,rfl⟩|⟨x,t,rfl,rfl⟩
  .exact wpAny_pyHash_int h
  .exact wpAny_pyHash_str h
 eqBool:=λhu hv h=>by
  rcases BQ hu with⟨i,t,rfl,rfl⟩|⟨x,t,rfl,rfl⟩
  .rcases BQ hv with⟨j,u,rfl,rfl⟩|⟨y,u,rfl,rfl⟩
   .rw [jG] at h;exact wpAny_eqBool_int h
   .rw [jH] at h;exact SeqAt.EqAt.int_str i t y u _ _ _ _ h
  .rcases BQ hv with⟨j,u,rfl,rfl⟩|⟨y,u,rfl,rfl⟩
   .rw [jI] at h;exact SeqAt.EqAt.str_int x t j u _ _ _ _ h
   .rw [jJ] at h;exact wpAny_eqBool_str h
 «strs»:=λk x t v h=>by
  rcases BQ h with⟨i,u,rfl,e⟩|⟨y,u,rfl,e⟩
  .exact nomatch e
  .injection e with c _;subst c;cases v <;> rfl
def Ku (prog:kd)(w:kc)(i:Int)(t:Tok):(Ak prog w).is (.inl i) (.int i t)=true:=YH i t
def TC (prog:kd)(w:kc)(x:Str)(t:Tok):(Ak prog w).is (.inr x) (.str x t)=true:=YI x t
inductive V where
 | non|bl (b:Bool)|int (i:Int)|str (x:Str)|byt (b:Array UInt8)|flt (b:UInt64)|ref (a:Addr)|ty (n:String)
 deriving DecidableEq
def RelV:V->km->Prop
 | .non,u=>u=Value.none
 | .bl b,u=>u=Value.bool b
 | .int i,u=>∃t,u=Value.int i t
 | .str x,u=>∃t,u=Value.str x t
 | .byt b,u=>∃t,u=Value.bytes b t
 | .flt b,u=>∃t,u=Value.float b t
 | .ref a,u=>u=Value.ref a
 | .ty n,u=>u=Value.type n
abbrev Ap:kn V->kn km->Prop:=Paired RelV
def Ap.length {xs:kn V}{a:kn km}(r:Ap xs a):xs.length=a.length:=Paired.length r
theorem Ap.get:∀{xs:kn V} {a:kn km} {i:Nat} {x:V},Ap xs a->xs[i]? =some x->∃u,a[i]? =some u/\RelV x u
 | _,_,_,_, .nil,e=>by simp at e
 | _,_,0,_, .cons r _,e=>by simp at e;subst e;exact⟨_,rfl,r⟩
 | _,_,i+1,x, .cons _ t,e=>by obtain⟨u,h1,h2⟩:=Ap.get (i:=i) (x:=x) t (by simpa using e);exact⟨u,by simpa using h1,h2⟩
theorem Ap.set {x:V}{u:km}(r:RelV x u):∀{xs:kn V} {a:kn km} (i:Nat),Ap xs a->Ap (xs.set i x) (a.set i u)
 | _,_,_, .nil=> .nil
 | _,_,0, .cons _ t=> .cons r t
 | _,_,i+1, .cons q t=> .cons q (Ap.set r i t)
theorem Ap.append:∀{xs a:kn V} {b c:kn km},Ap xs b->Ap a c->Ap (xs++a) (b++c)
 | _,_,_,_, .nil,s=>s
 | _,_,_,_, .cons r t,s=> .cons r (Ap.append t s)
theorem Ap.take:∀{xs:kn V} {a:kn km} (n:Nat),Ap xs a->Ap (xs.take n) (a.take n)
 | _,_,0,_=> .nil
 | _,_,_+1, .nil=> .nil
 | _,_,n+1, .cons r t=> .cons r (Ap.take n t)
theorem Ap.drop:∀{xs:kn V} {a:kn km} (n:Nat),Ap xs a->Ap (xs.drop n) (a.drop n)
 | _,_,0,r=>r
 | _,_,_+1, .nil=> .nil
 | _,_,n+1, .cons _ t=>Ap.drop n t
def Ap.none_of:∀{xs:kn V} {a:kn km} {i:Nat},Ap xs a->xs[i]? =none->a[i]? =none:=λ{xs a i} r e=>by have h1:=r.length;have h2:xs.length<=i:=ACw.mp e;exact ACw.mpr (by omega)
def LF:ki V->ki km->Prop
 | some v,some u=>RelV v u
 | none,none=>True
 | _,_=>False
def KV {a:Type}:kn (a×V)->kn (a×km)->Prop:=Paired λ(p:a×V) (q:a×km)=>p.1=q.1/\RelV p.2 q.2
def kV:Bx->V
 | .inl i=> .int i
 | .inr x=> .str x
inductive HO where
 | lst (xs:List V)
 | tup (xs:List V)
 | dK (kvs:List (Bx×V))|dT (kvs:List (List Bx×V))|dN (K:AAD) (kvs:List (PySem.FK×V))
 | set (S:Int->Bool) (n:Nat)
 | ins (C dx:Addr) (fs:List (Str×V))
 | own (x:Addr)
 | xd (fs:List (Str×V))
 | met (f x:Addr)
 | rng (lo hi:Int)
 | frz (o:Obj) (u:HO)
 | tbl (ps:Array Value)
 | ext (φ:Heap->Prop)
abbrev Hp:=kj->ki HO
def upd (H:Hp)(a:kj)(o:HO):Hp:=λb=>if b=a then some o else H b
def Af {H:Hp}{a:kj}{o:HO}:upd H a o a=some o:=by unfold upd;rw[AAG rfl]
def Ah {H:Hp}{a b:kj}{o:HO}(h:b≠a):upd H a o b=H b:=by unfold upd;rw[AAF h]
def nY {H:Hp}{a b:kj}{o u:HO}(h:H a=some o)(h':H b=some u)(d:o≠u):a≠b:=by intro e;subst e;rw[h] at h';exact d (AAb h')
def Av {H:Hp}{a b:kj}{o:HO}(h:H a=some o)(h':H b=none):a≠b:=by intro e;subst e;rw[h] at h';cases h'
def rG (K:AAD)(H:Hp)(b:kj)(t d:Int):Prop:=H b=some (.tup [.int t, .int d])\/∃(o:Obj) (its:Array km) (n:Nat),K.lookup b=some o/\o.cls= .type "tuple" /\o.data= .seq its n/\Ap [.int t, .int d] its.toList
def cx (K:AAD)(H:Hp)(a:kj)(k:PySem.FK):Prop:=∃b,H a=some (.tup [.ref b, .int k.2])/\rG K H b k.1.1 k.1.2
def cx.stay {K:AAD}{H c:Hp}{a:kj}{k:PySem.FK}(x:cx K H a k)(d:∀b xs,H b=some (.tup xs)->c b=some (.tup xs)):cx K c a k:=let ⟨b,h1,h2⟩:=x;⟨b,d _ _ h1,h2.elim (λz=> .inl (d _ _ z)) .inr⟩
section
variable (P:kd)(w:kc)
def B2 (H:Hp)(h:gn)(a:kj):HO->Prop
 | .lst xs=>xs.length<=sizeLine/\∃(its:kn km) (n:Nat),Ap xs its/\h.get? a=some {cls:= .type "list",data:= .seq its.toArray n}
 | .tup xs=>xs.length<=sizeLine/\∃its:kn km,Ap xs its/\IsTup h a its.toArray
 | .dK kvs=>kvs.length<=sizeLine/\(a==sysModules)=false/\∃vs,KV kvs vs/\h.DictOf (Ak P w) a vs
 | .dT kvs=>kvs.length<=sizeLine/\(a==sysModules)=false/\∃xs:kn (kn Bx×kj×km),
     Paired (λ(p:kn Bx×V) (q:kn Bx×kj×km)=>p.1=q.1/\H q.2.1=some (.tup (p.1.map kV))/\RelV p.2 q.2.2) kvs xs/\
     ∃o es ep,h.get? a=some o/\o.ExactDict/\o.data= .dict es ep/\es.toList=xs.map (entryOfKey (tupleKind (Ak P w)))/\(xs.map (·.1)).Nodup
 | .dN K kvs=>kvs.length<=sizeLine/\(a==sysModules)=false/\∃xs:kn (PySem.FK×kj×km),Paired (λ(p:PySem.FK×V) (q:PySem.FK×kj×km)=>p.1=q.1/\cx K H q.2.1 p.1/\RelV p.2 q.2.2) kvs xs/\∃o es ep,h.get? a=some o/\o.ExactDict/\o.data= .dict es ep/\es.toList=xs.map (entryOfKey (PySem.fkKind P w))/\(xs.map (·.1)).Nodup
 | .set S n=>h.SetOf (intKind P w) a S n
 | .ins C d c=>H d=some (.own a)/\c.length<=1000/\d≠a/\h.get? a=some (PySem.W.instObj C d)/\
     ∃b,h.Ns1 d b/\(∀f,LF (c.lookup f) (b f))/\PySem.Within b (c.map (·.1))
 | .own _=>∃o,h.get? a=some o
 | .xd c=>∃b,h.Ns1 a b/\∀f,LF (c.lookup f) (b f)
 | .rng lo hi=>∃t u v,h.get? a=some {cls:= .type "range",data:= .fields #[.int lo t, .int hi u, .int 1 v] }
 | .frz o u=>h.get? a=some o/\B2 H h a u
 | .tbl ps=>h.get? a=some {cls:= .none,data:= .fields ps}
 | .met f x=>h.get? a=some (PySem.W.methodObj (.ref f) (.ref x))
 | .ext e=>e h/\(∃o,h.get? a=some o)/\∀h1 h2:gn,e h1->(∀o,h1.get? a=some o->h2.get? a=some o)->e h2
def Ie (H:Hp)(h:gn):Prop:=∀a o,H a=some o->B2 P w H h a o
end
section
variable {P:kd}{w:kc}{H H':Hp}{h h':gn}{a:kj}{o:HO}
def B2.lt (x:B2 P w H h a o):a<h.objs.size:=by
 cases o with
 | lst xs=>obtain⟨_,_,_,_,e⟩:=x;exact AAH e
 | tup xs=>obtain⟨_,_,_,p⟩:=x;exact p.lt
 | dK kvs=>obtain⟨_,_,_,_,o,_,_,e,_⟩:=x;exact AAH e
 | dT kvs=>obtain⟨_,_,_,_,o,_,_,e,_⟩:=x;exact AAH e
 | dN K kvs=>obtain⟨_,_,_,_,o,_,_,e,_⟩:=x;exact AAH e
 | set S n=>obtain⟨o,_,_,_,e,_⟩:=x;exact AAH e
 | ins C c b=>obtain⟨_,_,_,e,_⟩:=x;exact AAH e
 | own y=>obtain⟨_,e⟩:=x;exact AAH e
 | xd b=>obtain⟨_,⟨_,_,_,e,_⟩,_⟩:=x;exact AAH e
 | rng lo hi=>obtain⟨_,_,_,e⟩:=x;exact AAH e
 | frz d u=>obtain⟨e,_⟩:=x;exact AAH e
 | tbl ps=>exact AAH (show h.get? a=some _ from x)
 | met f y=>exact AAH (show h.get? a=some _ from x)
 | ext g=>obtain⟨_,⟨_,e⟩,_⟩:=x;exact AAH e
theorem Paired.mapP {d e:Type}{F G:d->e->Prop}:∀{l₁:kn d} {c:kn e},Paired F l₁ c->(∀a b,F a b->G a b)->Paired G l₁ c
 | _,_, .nil,_=> .nil
 | _,_, .cons r t,f=> .cons (f _ _ r) (Paired.mapP t f)
def B2.stay (x:B2 P w H h a o)(k:∀b u,(b=a\/H b=some (.own a))->h.get? b=some u->h'.get? b=some u)(m:∀b,H b=some (.own a)->H' b=some (.own a))(l:∀b xs,H b=some (.tup xs)->H' b=some (.tup xs)):B2 P w H' h' a o:=by
 induction o with
 | lst xs=>obtain⟨z,its,n,r,e⟩:=x;exact⟨z,its,n,r,k _ _ (.inl rfl) e⟩
 | tup xs=>obtain⟨z,its,r,g,e,c⟩:=x;exact⟨z,its,r,g,k _ _ (.inl rfl) e,c⟩
 | dK kvs=>obtain⟨z,y,vs,r,g,es,ep,e,c⟩:=x;exact⟨z,y,vs,r,g,es,ep,k _ _ (.inl rfl) e,c⟩
 | dT kvs=> obtain⟨z,y,xs,r,g,es,ep,e,c⟩:=x;exact⟨z,y,xs,Paired.mapP r λp q z=>⟨z.1,l _ _ z.2.1,z.2.2⟩,g,es,ep,k _ _ (.inl rfl) e,c⟩
 | dN K kvs=> obtain⟨z,y,xs,r,g,es,ep,e,c⟩:=x;exact⟨z,y,xs,Paired.mapP r λp q z=>⟨z.1,z.2.1.stay l,z.2.2⟩,g,es,ep,k _ _ (.inl rfl) e,c⟩
 | set S n=>obtain⟨g,es,ep,t,e,c⟩:=x;exact⟨g,es,ep,t,k _ _ (.inl rfl) e,c⟩
 | ins C D s=> obtain⟨d,z,ne,e,i,⟨j,es,ep,A,c⟩,r⟩:=x;exact⟨m _ d,z,ne,k _ _ (.inl rfl) e,i,⟨j,es,ep,k _ _ (.inr d) A,c⟩,r⟩
 | own y=>obtain⟨g,e⟩:=x;exact⟨g,k _ _ (.inl rfl) e⟩
 | xd s=>obtain⟨i,⟨j,es,ep,e,c⟩,r⟩:=x;exact⟨i,⟨j,es,ep,k _ _ (.inl rfl) e,c⟩,r⟩
 | rng lo hi=>obtain⟨t,u,v,e⟩:=x;exact⟨t,u,v,k _ _ (.inl rfl) e⟩
 | frz g u B=>obtain⟨e,q⟩:=x;exact⟨k _ _ (.inl rfl) e,B q⟩
 | tbl ps=> have e:h.get? a=some {cls:= .none,data:= .fields ps}:=x;show h'.get? a=some {cls:= .none,data:= .fields ps};exact k a _ (.inl rfl) e
 | met f y=> have e:h.get? a=some (PySem.W.methodObj (.ref f) (.ref y)):=x;show h'.get? a=some (PySem.W.methodObj (.ref f) (.ref y));exact k a _ (.inl rfl) e
 | ext E=>obtain⟨p,⟨o,e⟩,st⟩:=x;exact⟨st _ _ p λo q=>k _ _ (.inl rfl) q,⟨o,k _ _ (.inl rfl) e⟩,st⟩
def Ie.lt (x:Ie P w H h)(e:H a=some o):a<h.objs.size:=(x a o e).lt
def Ie.fresh (x:Ie P w H h)(e:h.objs.size<=a):H a=none:=by
 cases q:H a with
 | none=>rfl
 | some u=>exact absurd (AAV (x.lt q) e) (ABO _)
def Ie.kept (x:Ie P w H h)(k:∀b u,h.get? b=some u->h'.get? b=some u):Ie P w H h':=λa o e=>
 (x a o e).stay (λb u _ q=>k b u q) (λ_ q=>q) λ_ _ q=>q
def Ie.laid (x:Ie P w H h)(k:∀b u,h.get? b=some u->h'.get? b=some u)(hp:h.objs.size<=a)(new:B2 P w (upd H a o) h' a o):Ie P w (upd H a o) h':=λb u e=>by
 have d:=x.fresh hp;by_cases hb:b=a
 .subst hb;rw[Af] at e;cases e;exact new
 .rw [Ah hb] at e;exact(x b u e).stay (λc v _ q=>k c v q) (λc q=>by rw[Ah (Av q d)];exact q) λc xs q=>by rw[Ah (Av q d)];exact q
end
def Rd (H:Hp)(a:kj)(u:HO):Prop:=H a=some u\/∃o,H a=some (.frz o u)
def Rd.ok {P:kd}{w:kc}{H:Hp}{h:gn}{a:kj}{u:HO}(r:Rd H a u)(x:Ie P w H h):B2 P w H h a u:=by
 rcases r with r|⟨o,r⟩
 .exact x a u r
 .obtain ⟨_,q⟩:=x a _ r;exact q
def mE:ki HO->Prop
 | some (.lst _)=>True
 | some (.dK _)=>True
 | some (.dT _)=>True
 | some (.dN _ _)=>True
 | some (.set _ _)=>True
 | some (.ins _ _ _)=>True
 | some (.ext _)=>True
 | _=>False
section
variable {P:kd}{w:kc}{H:Hp}{h h':gn}{x e:kj}{o':HO}
def Ie.write (ok:Ie P w H h)(f:mE (H x))(he:e=x\/H e=some (.own x))(k:∀b u,b≠e->h.get? b=some u->h'.get? b=some u)(j:∃u,h'.get? e=some u)(new:B2 P w (upd H x o') h' x o'):Ie P w (upd H x o') h':=λb u q=>by
 have a:∀c y,H c=some (.own y)->c≠x:=λc y r z=>by subst z;rw[r] at f;exact f
 have d:∀c xs,H c=some (.tup xs)->c≠x:=λc xs r z=>by subst z;rw[r] at f;exact f
 by_cases hb:b=x
 .subst hb;rw[Af] at q;cases q;exact new
 .rw [Ah hb] at q;by_cases g:b=e
  .have i:H b=some (.own x):=by
    rcases he with z|z
    .exact absurd (g.trans z) hb
    .rw [g];exact z
   rw[q] at i;cases i;obtain⟨v,hv⟩:=j;exact⟨v,by rw[g];exact hv⟩
  .refine (ok b u q).stay (λc v hc r=>k c v ?_ r) (λc r=>by rw[Ah (a c b r)];exact r) λc xs r=>by rw[Ah (d c xs r)];exact r
   rcases hc with rfl|hc
   .exact g
   .rintro rfl;rcases he with z|z
    .exact a c b hc z
    .rw [hc] at z;cases z;exact hb rfl
end
structure Un (fs ex:List Addr) (H H':Hp) (h h':Heap):Prop where
 keep:∀b o,h.get? b=some o->H b=none->b ∉ fs->b ∉ ex->h'.get? b=some o
 slot:∀b o,h.get? b=some o->H b=none->b∈fs->b ∉ ex->∃sl,h'.get? b=some {o with slots:=sl}
 free:∀b o,h.get? b=some o->H b=none->b ∉ ex->H' b=none
 there:∀b o,h.get? b=some o->b ∉ ex->∃o',h'.get? b=some o'
 tups:∀b xs,H b=some (.tup xs)->H' b=some (.tup xs)
 frzs:∀b o u,H b=some (.frz o u)->H' b=some (.frz o u)
 tbls:∀b ps,H b=some (.tbl ps)->∃more,H' b=some (.tbl (ps++more))
section
variable {fs fs' ex ex':kn kj}{H H1 H2:Hp}{h h1 h2 h':gn}{a x e:kj}{o:HO}
def Un.any (u:Un fs ex H H1 h h1){b:kj}{c:Obj}(q:h.get? b=some c)(n:H b=none)(hx:b ∉ ex):∃sl,h1.get? b=some {c with slots:=sl}:=by
 by_cases hb:b∈fs
 .exact u.slot b c q n hb hx
 .exact ⟨c.slots,u.keep b c q n hb hx⟩
def Un.kept (k:∀b u,h.get? b=some u->h'.get? b=some u):Un fs ex H H h h':=
 ⟨λb c q _ _ _=>k b c q,λb c q _ _ _=>⟨c.slots,k b c q⟩,λ_ _ _ n _=>n,λb c q _=>⟨c,k b c q⟩,λ_ _ q=>q,λ_ _ _ q=>q,λ_ ps q=>⟨#[],by rw[q];simp⟩⟩
def Un.refl:Un fs ex H H h h:=Un.kept λ_ _ q=>q
def Un.laid (k:∀b u,h.get? b=some u->h'.get? b=some u)(hp:h.objs.size<=a)(c:H a=none):Un fs ex H (upd H a o) h h' where
 keep:=λb u q _ _ _=>k b u q
 slot:=λb u q _ _ _=>⟨u.slots,k b u q⟩
 free:=λb u q n _=>by rw[Ah (AAN (AAV (AAH q) hp))];exact n
 there:=λb u q _=>⟨u,k b u q⟩
 tups:=λb xs q=>by rw[Ah (Av q c)];exact q
 frzs:=λb u xs q=>by rw[Ah (Av q c)];exact q
 tbls:=λb ps q=>⟨#[],by rw[Ah (Av q c),q];simp⟩
def Un.write (c:mE (H x))(he:e=x\/H e=some (.own x))(k:∀b u,b≠e->h.get? b=some u->h'.get? b=some u)(g:∃u,h'.get? e=some u):Un fs ex H (upd H x o) h h':=by
 have hx:∀b,H b=none->b≠x:=λb n z=>by subst z;rw[n] at c;exact c
 have hb:∀b,H b=none->b≠e:=λb n z=>by
  subst z;rcases he with r|r
  .exact hx b n r
  .rw [n] at r;cases r
 have d:∀b u,H b=some u->¬mE (some u)->b≠x:=λb u q i z=>by subst z;rw[q] at c;exact i c
 refine⟨λb u q n _ _=>k b u (hb b n) q,λb u q n _ _=>⟨u.slots,k b u (hb b n) q⟩,λb u q n _=>by rw[Ah (hx b n)];exact n,λb u q _=> ?_,
  λb xs q=>by rw[Ah (d b _ q λz=>z)];exact q,λb u xs q=>by rw[Ah (d b _ q λz=>z)];exact q,λb ps q=>⟨#[],by rw[Ah (d b _ q λz=>z),q];simp⟩⟩
 by_cases f:b=e
 .subst f;exact g
 .exact ⟨u,k b u f q⟩
end
def qX (h:gn)(H:Hp):kn kj:=(List.range h.objs.size).filter λa=>(H a).isSome
def Qj (h:gn)(H:Hp):gn:=PySem.W.hideAll h (qX h H)
def YA (h:gn)(H:Hp):(Qj h H).objs.size=h.objs.size:=PySem.W.hideAll_size _ _
def Zw {h:gn}{H:Hp}{b:kj}{o:Obj}(e:h.get? b=some o)(n:H b=none):(Qj h H).get? b=some o:=
 PySem.W.hideAll_get _ e λa=>by have q:(H b).isSome=true:=(AAZ.mp a).2;rw[n] at q;simp at q
def dm {h:gn}{H:Hp}{b:kj}{o:Obj}(e:(Qj h H).get? b=some o):h.get? b=some o/\H b=none:=by
 have a:h.get? b=some o:=PySem.W.of_hideAll (qX h H) e;refine⟨a, ?_⟩;cases q:H b with
 | none=>rfl
 | some x=> have c:b∈qX h H:=AAZ.mpr ⟨ABA.mpr (AAH a),by simp[q]⟩;have z:(Qj h H).get? b=none:=PySem.W.hideAll_none (qX h H) c;rw[z] at e;cases e
def c7 (g h:gn)(L:kj):kn (kj×Obj):=(List.range h.objs.size).filterMap λa=>if a=L\/(g.get? a).isSome=true then none else (h.get? a).map λo=>(a,o)
def rest (g h:gn)(L d:kj):kn (kj×Obj):=(c7 g h L).filter λp=>decide (p.1≠d)
structure Mod (K:AAD) (mg:Str->Option Value) (base:Heap):Prop where
 kin:K.In base
 glob:base.Ns mainGlobals mg
 blt:∃mb,base.Ns builtinsNs mb/\∀x:Str,x≠"__name__" ->mb x=bootBuiltins x
 nolimit:base.NoLimit
structure Cx where
 prog:Program
 w:World
 K:AAD
 mg:Str->Option Value
 base:Heap
 A:Around
 N:List Str
 s₀:Shared
 H₀:Hp
 env:Env
 outer:List Env
 stack:List Env
 ex:List Addr
 fn:Str->Bool
 calm:Bool
 pn:List (Addr×Obj)
 xe:Value->Shared->Prop
def Yx (l:kn Env):kn kj:=l.filterMap (·.frame)
abbrev Cx.fs (X:Cx):kn kj:=Yx X.outer
def cT (sc:Scope)(x:Str):Prop:=sc.names.lookup x=some .local\/sc.names.lookup x=some .cell\/sc.names.lookup x=some .free
def Loc (sc:Scope)(x:Str):Prop:=sc.names.lookup x=some .local\/sc.names.lookup x=some .cell
def Look (env:Env)(h:gn)(m:Str->ki km)(x:Str)(u:km):Prop:=
 (env.kindOf x=some .local/\m x=some u)\/((env.kindOf x=some .cell\/env.kindOf x=some .free)/\∃c,env.cells.lookup x=some c/\h.IsCell c (some u))
structure Cx.Ok (X:Cx):Prop where
 mod:Mod X.K X.mg X.base
 kind:X.env.scope.kind= .function
 glob:X.env.globals=mainGlobals
 blt:X.env.builtins=builtinsNs
 above:X.s₀.heap.objs.size<=X.env.locals
 inj:∀x y c,X.env.cells.lookup x=some c->X.env.cells.lookup y=some c->x=y
 has:∀x,(X.env.kindOf x=some .cell\/X.env.kindOf x=some .free)->∃c,X.env.cells.lookup x=some c
 cab:∀x c,X.fn x=true->X.env.cells.lookup x=some c->X.s₀.heap.objs.size<=c
 hd:X.calm=true->X.A.handled=none
 frames:X.A.frames=some X.stack
 stk:X.stack=X.outer\/(X.stack=X.env::X.outer/\X.env.frame=some X.env.locals)
 exf:∀b∈X.ex,b≠X.env.locals/\∀x c,X.env.cells.lookup x=some c->c≠b
 bs:∀b o,X.base.get? b=some o->X.s₀.heap.get? b=some o/\X.H₀ b=none
 bsz:X.base.objs.size<=X.s₀.heap.objs.size
 noex:∀b o,X.base.get? b=some o->b ∉ X.ex
 exfs:∀b∈X.ex,b ∉ X.fs
 funs:X.s₀.heap.FunFrames X.base X.outer
 frf:∀b∈X.fs,X.H₀ b=none
structure Inv (X:Cx) (Wf:List (Addr×Obj)) (σ:List (Option V)) (H:Hp) (s:Shared):Prop where
 ok:X.Ok
 os:s.os=X.s₀.os
 bare:AllBare s.gens
 base:Un X.fs X.ex X.H₀ H X.s₀.heap s.heap
 loc:∃m,s.heap.Ns X.env.locals m/\∀(i:Nat) (x:Str) (v:V),X.N[i]? =some x->σ[i]? =some (some v)->cT X.env.scope x->∃u,RelV v u/\Look X.env s.heap m x u
 cell:∀x c,X.env.cells.lookup x=some c->∃v,s.heap.IsCell c v
 free:H X.env.locals=none
 freeC:∀x c,X.env.cells.lookup x=some c->H c=none
 pin:∀p∈X.pn++Wf,s.heap.get? p.1=some p.2/\H p.1=none/\p.1≠X.env.locals/\p.1 ∉ X.fs/\∀v,p.2.data≠ .cell v
 hok:Ie X.prog X.w H s.heap
 len:σ.length=X.N.length
section
variable {X:Cx}{Wf:kn (kj×Obj)}{σ:kn (ki V)}{H H':Hp}{s:kl}{h':gn}
def Cx.Ok.nofr (ok:X.Ok){b:kj}{o:Obj}(e:X.base.get? b=some o):b ∉ X.fs:=λhb=>by have:=(ok.funs.mem hb).1;rw[e] at this;cases this
def Inv.bs (I:Inv X Wf σ H s):∀b o,X.base.get? b=some o->s.heap.get? b=some o/\H b=none:=λb o e=>
 ⟨I.base.keep b o (I.ok.bs b o e).1 (I.ok.bs b o e).2 (I.ok.nofr e) (I.ok.noex b o e),I.base.free b o (I.ok.bs b o e).1 (I.ok.bs b o e).2 (I.ok.noex b o e)⟩
def Inv.bk (I:Inv X Wf σ H s):∀b o,X.base.get? b=some o->s.heap.get? b=some o:=λb o e=>(I.bs b o e).1
def Inv.mod (I:Inv X Wf σ H s):Mod X.K X.mg X.base:=I.ok.mod
def Inv.kIn (I:Inv X Wf σ H s):X.K.In s.heap:=I.ok.mod.kin.keeps I.bk
def Inv.nolimit (I:Inv X Wf σ H s):s.heap.NoLimit:=I.ok.mod.nolimit.keeps I.bk
def Inv.fr (I:Inv X Wf σ H s):∃m,Fr X.base X.env.locals s.heap m:=
 let ⟨m,a,_⟩:=I.loc
 ⟨m,a,I.bk,AAX I.ok.bsz I.ok.above⟩
def Inv.lt (I:Inv X Wf σ H s):X.env.locals<s.heap.objs.size:=let ⟨_,a,_⟩:=I.loc;a.lt
def Inv.sz (I:Inv X Wf σ H s):X.s₀.heap.objs.size<=s.heap.objs.size:=AAX I.ok.above (ACC I.lt)
def Inv.nofs (I:Inv X Wf σ H s){a:kj}(h:s.heap.objs.size<=a):a ∉ X.fs:=λhb=>by obtain⟨_,o,b,_⟩:=I.ok.funs.mem hb;exact absurd (AAV (AAH b) (AAX I.sz h)) (ABO _)
def Inv.cne (I:Inv X Wf σ H s):∀x c,X.env.cells.lookup x=some c->c≠X.env.locals:=λx c e z=>by obtain⟨v,o,a,hd⟩:=I.cell x c e;obtain⟨m,⟨f,es,ep,b,d,_⟩,_⟩:=I.loc;rw[z,b] at a;cases a;rw[d] at hd;cases hd
def Inv.funs (I:Inv X Wf σ H s):s.heap.FunFrames X.base X.outer:=by
 have all:∀(l:kn Env),(∀b∈Yx l,b∈X.fs)->X.s₀.heap.FunFrames X.base l->s.heap.FunFrames X.base l:=by
  intro l;induction l with
  | nil=>intro _ _;trivial
  | cons env r d=> intro hs hl;obtain⟨hk,⟨L,o,a,f,g,hd⟩,h⟩:=hl;have c:L∈X.fs:=hs L (by unfold Yx;rw[ADT,a];exact ABr);obtain⟨sl,e⟩:=I.base.slot L o g (I.ok.frf L c) c λz=>I.ok.exfs L z c;exact⟨hk,⟨L,_,a,f,e,hd⟩,d (λb hb=>hs b (by unfold Yx;rw[ADT,a];exact ABN _ hb)) h⟩
 exact all X.outer (λ_ hb=>hb) I.ok.funs
def Inv.stack (I:Inv X Wf σ H s):s.heap.FunFrames X.base X.stack:=by
 rcases I.ok.stk with e|⟨e,a⟩
 .rw [e];exact I.funs
 .rw [e];obtain⟨m,b,_⟩:=I.loc;refine .cons (by rw[I.ok.kind];decide) a b ?_ I.funs;exact Heap.get?_none_of_le (AAX I.ok.bsz I.ok.above)
def Inv.stkSub (I:Inv X Wf σ H s):∀b∈Yx X.stack,b∈X.env.locals::X.fs:=λb hb=>by
 rcases I.ok.stk with e|⟨e,a⟩
 .rw [e] at hb;exact ABN _ hb
 .rw [e] at hb;unfold Yx at hb;rw[ADT,a] at hb;exact hb
def Inv.stkFree (I:Inv X Wf σ H s):∀b∈Yx X.stack,H b=none:=λb hb=>by
 rcases AAJ.mp (I.stkSub b hb) with e|hb
 .rw [e];exact I.free
 .obtain ⟨_,o,a,_⟩:=I.ok.funs.mem hb;exact I.base.free b o a (I.ok.frf b hb) λz=>I.ok.exfs b z hb
def Inv.step {g':Array GenState}{t':Nat}{d':Drawn}{ch:kn kj}(I:Inv X Wf σ H s)(j:∀b∈ch,(b∈X.ex\/X.s₀.heap.objs.size<=b)/\b≠X.env.locals/\(∀x c,X.env.cells.lookup x=some c->c≠b)/\∀p∈X.pn++Wf,p.1≠b)(keep:∀b o,b≠X.env.locals->b ∉ X.fs->b ∉ ch->s.heap.get? b=some o->H b=none->h'.get? b=some o)(slot:∀b o,b≠X.env.locals->b∈X.fs->b ∉ ch->s.heap.get? b=some o->H b=none->∃sl,h'.get? b=some {o with slots:=sl})(free:∀b o,b ∉ ch->s.heap.get? b=some o->H b=none->H' b=none)(there:∀b o,b ∉ ch->s.heap.get? b=some o->∃t,h'.get? b=some t)(tups:∀b xs,H b=some (.tup xs)->H' b=some (.tup xs))(frzs:∀b o u,H b=some (.frz o u)->H' b=some (.frz o u))(tbls:∀b ps,H b=some (.tbl ps)->∃more,H' b=some (.tbl (ps++more)))(ns:∀m,s.heap.Ns X.env.locals m->h'.Ns X.env.locals m)(hok:Ie X.prog X.w H' h')(C:AllBare g'):Inv X Wf σ H' {s with heap:=h',gens:=g',drawn:=d',toks:=t'}:=by
 have y:∀b o,X.s₀.heap.get? b=some o->b≠X.env.locals:=λb o e=>AAN (AAV (AAH e) I.ok.above);have f:∀b o,X.s₀.heap.get? b=some o->b ∉ X.ex->b ∉ ch:=λb o e hx hb=>by
  rcases (j b hb).1 with z|z
  .exact hx z
  .exact absurd (AAV (AAH e) z) (ABO _)
 have cellK:∀x c,X.env.cells.lookup x=some c->∀v,s.heap.IsCell c v->h'.IsCell c v:=λx c e v ⟨o,h,hd⟩=>by
  have a:c ∉ ch:=λz=>(j c z).2.2.1 x c e rfl;by_cases hc:c∈X.fs
  .obtain ⟨sl,q⟩:=slot c o (I.cne x c e) hc a h (I.freeC x c e);exact⟨_,q,hd⟩
  .exact ⟨o,keep c o (I.cne x c e) hc a h (I.freeC x c e),hd⟩
 refine⟨I.ok,I.os,C,⟨λb o e n hb hx=> ?_,λb o e n hb hx=> ?_,λb o e n hx=> ?_,λb o e hx=> ?_,λb xs e=>tups b xs (I.base.tups b xs e),λb o xs e=>frzs b o xs (I.base.frzs b o xs e),λb ps e=> ?_⟩, ?_,λx c e=> ?_, ?_,λx c e=> ?_,λp hp=> ?_,hok,I.len⟩
 .exact keep b o (y b o e) hb (f b o e hx) (I.base.keep b o e n hb hx) (I.base.free b o e n hx)
 .obtain ⟨sl,g⟩:=I.base.slot b o e n hb hx;obtain⟨Y1,A⟩:=slot b _ (y b o e) hb (f b o e hx) g (I.base.free b o e n hx);exact⟨Y1,A⟩
 .obtain ⟨t,g⟩:=I.base.there b o e hx;exact free b t (f b o e hx) g (I.base.free b o e n hx)
 .obtain ⟨t,g⟩:=I.base.there b o e hx;exact there b t (f b o e hx) g
 .obtain ⟨m1,g⟩:=I.base.tbls b ps e;obtain⟨m2,A⟩:=tbls b _ g;exact⟨m1++m2,by rw[A,Array.append_assoc]⟩
 .obtain ⟨m,D,hl⟩:=I.loc;refine⟨m,ns m D,λi x v g A E=> ?_⟩;obtain⟨u,r,l⟩:=hl i x v g A E;refine⟨u,r, ?_⟩;rcases l with l|⟨k,c,e,z⟩
  .exact .inl l
  .exact .inr ⟨k,c,e,cellK x c e _ z⟩
 .obtain ⟨v,z⟩:=I.cell x c e;exact⟨v,cellK x c e v z⟩
 .obtain ⟨m,⟨o,_,_,h,_⟩,_⟩:=I.loc;exact free _ o (λz=>(j _ z).2.1 rfl) h I.free
 .obtain ⟨v,o,h,hd⟩:=I.cell x c e;exact free c o (λz=>(j c z).2.2.1 x c e rfl) h (I.freeC x c e)
 .obtain ⟨e,n,ne,B,d⟩:=I.pin p hp;have a:p.1 ∉ ch:=λz=>(j p.1 z).2.2.2 p hp rfl;exact⟨keep p.1 p.2 ne B a e n,free p.1 p.2 a e n,ne,B,d⟩
def Inv.un {t':Nat}(I:Inv X Wf σ H s)(u:Un X.fs [] H H' s.heap h')(hok:Ie X.prog X.w H' h'):Inv X Wf σ H' {s with heap:=h',toks:=t'}:=by
 obtain⟨m,⟨o,es,ep,d,r⟩,_⟩:=id I.loc;obtain⟨sl,g⟩:=u.any d I.free (by simp);exact I.step (g':=s.gens) (d':=s.drawn) (ch:= []) (λ_ z=>nomatch z) (λb o _ hb _ e n=>u.keep b o e n hb (by simp)) (λb o _ hb _ e n=>u.slot b o e n hb (by simp)) (λb o _ e n=>u.free b o e n (by simp)) (λb o _ e=>u.there b o e (by simp)) u.tups u.frzs u.tbls (λj h=>by
  obtain⟨k,a,c,f,i⟩:=h;rw[d] at f;cases f;exact⟨_,a,c,g,i⟩) hok I.bare
def Inv.call {g':Array GenState}{t':Nat}{d':Drawn}{ch:kn kj}(I:Inv X Wf σ H s)(u:Un (Yx X.stack) ch H H' s.heap h')(hok:Ie X.prog X.w H' h')(j:AllBare g')(g:∀b∈ch,(b∈X.ex\/X.s₀.heap.objs.size<=b)/\b≠X.env.locals/\(∀x c,X.env.cells.lookup x=some c->c≠b)/\∀p∈X.pn++Wf,p.1≠b):Inv X Wf σ H' {s with heap:=h',gens:=g',drawn:=d',toks:=t'}:=by
 obtain⟨m,⟨o,es,ep,h,r⟩,_⟩:=id I.loc;obtain⟨sl,a⟩:=u.any h I.free λz=>(g _ z).2.1 rfl;exact I.step (ch:=ch) g (λb o a hb hc e n=>u.keep b o e n (λz=>(AAJ.mp (I.stkSub b z)).elim a hb) hc) (λb o _ _ hc e n=>u.any e n hc) (λb o hc e n=>u.free b o e n hc) (λb o hc e=>u.there b o e hc) u.tups u.frzs u.tbls (λt k=>by
  obtain⟨v,d,f,i,l⟩:=k;rw[h] at i;cases i;exact⟨_,d,f,a,l⟩) hok j
def Inv.turned {t':Nat}{it:kj}(I:Inv X Wf σ H s)(k:∀b o,b≠it->s.heap.get? b=some o->h'.get? b=some o)(f:H it=none)(d:it≠X.env.locals)(h1:it∈X.ex\/X.s₀.heap.objs.size<=it)(h2:∀x c,X.env.cells.lookup x=some c->c≠it)(h3:∀p∈X.pn++Wf,p.1≠it):Inv X Wf σ H {s with heap:=h',toks:=t'}:=by
 have a:∀b u,H b=some u->b≠it:=λb u e z=>by rw[z,f] at e;cases e
 refine I.step (g':=s.gens) (d':=s.drawn) (ch:= [it]) (λb hb=> ?_) (λb o _ _ hc e _=>k b o (λz=>hc (by simp[z])) e) (λb o _ _ hc e _=>⟨o.slots,k b o (λz=>hc (by simp[z])) e⟩) (λ_ _ _ _ n=>n)
  (λb o hc e=>⟨o,k b o (λz=>hc (by simp[z])) e⟩) (λ_ _ e=>e) (λ_ _ _ e=>e) (λb ps e=>⟨#[],by rw[e];simp⟩) (λm g=> ?_) (λb u e=> ?_) I.bare
 .have e:b=it:=by simpa using hb
  subst e;exact⟨h1,d,h2,h3⟩
 .obtain ⟨o,es,ep,h,r⟩:=g;exact⟨o,es,ep,k _ o (AAz d) h,r⟩
 .refine (I.hok b u e).stay (λc v hc q=>k c v ?_ q) (λ_ q=>q) λ_ _ q=>q;rcases hc with z|z
  .rw [z];exact a b u e
  .exact a c _ z
def Inv.tok (I:Inv X Wf σ H s)(t:Nat):Inv X Wf σ H {s with toks:=t}:=I.un (h':=s.heap) (t':=t) Un.refl I.hok
def Inv.kept {t':Nat}(I:Inv X Wf σ H s)(k:∀b u,s.heap.get? b=some u->h'.get? b=some u):Inv X Wf σ H {s with heap:=h',toks:=t'}:=I.un (Un.kept k) (I.hok.kept k)
def Inv.laid {a:kj}{o:HO}{t':Nat}(I:Inv X Wf σ H s)(k:∀b u,s.heap.get? b=some u->h'.get? b=some u)(hp:s.heap.objs.size<=a)(new:B2 X.prog X.w (upd H a o) h' a o):Inv X Wf σ (upd H a o) {s with heap:=h',toks:=t'}:=I.un (Un.laid k hp (I.hok.fresh hp)) (I.hok.laid k hp new)
def Inv.write {x e:kj}{o:HO}{t':Nat}(I:Inv X Wf σ H s)(a:mE (H x))(he:e=x\/H e=some (.own x))(k:∀b u,b≠e->s.heap.get? b=some u->h'.get? b=some u)(c:∃u,h'.get? e=some u)(new:B2 X.prog X.w (upd H x o) h' x o):Inv X Wf σ (upd H x o) {s with heap:=h',toks:=t'}:=I.un (Un.write a he k c) (I.hok.write a he k c new)
def Inv.weak {σ':kn (ki V)}(I:Inv X Wf σ H s)(hl:σ'.length=σ.length)(w:∀(i:Nat) v,σ'[i]? =some (some v)->σ[i]? =some (some v)):Inv X Wf σ' H s:=
 ⟨I.ok,I.os,I.bare,I.base,let ⟨m,a,b⟩:=I.loc;⟨m,a,λi x v c d e=>b i x v c (w i v d) e⟩,I.cell,I.free,I.freeC,I.pin,I.hok,hl.trans I.len⟩
def Inv.pins_of {a:kn (kj×Obj)}(I:Inv X Wf σ H s)(h:∀p∈a,s.heap.get? p.1=some p.2/\H p.1=none/\p.1≠X.env.locals/\p.1 ∉ X.fs/\∀v,p.2.data≠ .cell v):Inv X a σ H s:=
 ⟨I.ok,I.os,I.bare,I.base,I.loc,I.cell,I.free,I.freeC,λp hp=>(AAQ.mp hp).elim (λz=>I.pin p (List.mem_append_left _ z)) (h p),I.hok,I.len⟩
def TJ {N:kn Str}(hN:N.Nodup){i j:Nat}{x:Str}(a:N[i]? =some x)(b:N[j]? =some x):i=j:=by obtain⟨h1,c⟩:=AA0.mp a;obtain⟨h2,d⟩:=AA0.mp b;exact(List.getElem_inj hN).mp (c.trans d.symm)
def KI {M:Model}{A:fe}{E:km->kl->Prop}{i:Nat}{x:Str}{v:V}{u:km}{Q:Unit->kl->Prop}(I:Inv X Wf σ H s)(hN:X.N.Nodup)(hi:X.N[i]? =some x)(hx:Loc X.env.scope x)(r:RelV v u)(h:∀D,Inv X Wf (σ.set i (some v)) H D->(∃a,Heap.SameBut a s.heap D.heap/\(a=X.env.locals\/X.env.cells.lookup x=some a))->Q () D)(Z:X.fn x=true\/X.env.scope.names.lookup x=some .local:=by first | exact .inl rfl|exact .inr rfl|assumption):wpAny M A (storeName X.env x u) Q E s:=by
 obtain⟨m,F,hl⟩:=id I.loc;have rf:(X.env.scope.kind == .class||(X.env.scope.kind == .module&&X.env.locals != X.env.globals))=false:=by rw[I.ok.kind];rfl
 have l:i<σ.length:=by rw[I.len];exact(AA0.mp hi).1
 have t:=I.cne;have tracked:∀{a:kj} {h':gn},(∃o,s.heap.get? a=some o/\H a=none)->Heap.SameBut a s.heap h'->Ie X.prog X.w H h':=λ{a h'} ha hs b ob e=>by
  obtain⟨_,_,S⟩:=ha;refine(I.hok b ob e).stay (λc B hc q=>(hs.2 c ?_).trans q) (λ_ q=>q) λ_ _ q=>q;rintro rfl;rcases hc with rfl|hc
  .rw [S] at e;cases e
  .rw [S] at hc;cases hc
 rcases hx with hk|hk
 .refine wpAny_storeName_local hk F (λh' vw hs=> ?_) rf;obtain⟨oL,_,_,yx,_⟩:=id F;refine h _ ⟨I.ok,I.os,I.bare,⟨λb o e n hb hx=> ?_,λb o e n hb hx=> ?_,I.base.free,λb o e hx=> ?_,I.base.tups,I.base.frzs,I.base.tbls⟩,⟨_,vw,λj y G f g J=> ?_⟩,λy c e=> ?_,I.free,I.freeC,λp hp=> ?_,tracked ⟨oL,yx,I.free⟩ hs,by simpa using I.len⟩ ⟨_,hs, .inl rfl⟩
  .exact (hs.2 b (AAN (AAV (AAH e) I.ok.above))).trans (I.base.keep b o e n hb hx)
  .obtain ⟨sl,f⟩:=I.base.slot b o e n hb hx;exact⟨sl,(hs.2 b (AAN (AAV (AAH e) I.ok.above))).trans f⟩
  .obtain ⟨K,f⟩:=I.base.there b o e hx;exact⟨K,(hs.2 b (AAN (AAV (AAH e) I.ok.above))).trans f⟩
  .by_cases hj:j=i
   .subst hj;rw[hi] at f;cases f;rw[ACD l] at g;cases g;exact⟨u,r, .inl ⟨hk,by simp⟩⟩
   .rw [AAc (AAz hj)] at g;obtain⟨L,O,q⟩:=hl j y G f g J;refine⟨L,O, ?_⟩;rcases q with⟨k,e⟩|⟨k,c,e,z⟩
    .refine .inl ⟨k, ?_⟩;have:y≠x:=λe=>hj (TJ hN f (e ▸ hi));simp[this,e]
    .exact .inr ⟨k,c,e,z.sameBut hs (t y c e)⟩
  .obtain ⟨B,z⟩:=I.cell y c e;exact⟨B,z.sameBut hs (t y c e)⟩
  .obtain ⟨e,n,ne,P,d⟩:=I.pin p hp;exact⟨(hs.2 p.1 ne).trans e,n,ne,P,d⟩
 .have R:X.fn x=true:=by
   rcases Z with z|z
   .exact z
   .rw [z] at hk;cases hk
  obtain⟨c,hc⟩:=I.ok.has x (.inl hk);obtain⟨B,z⟩:=I.cell x c hc;refine wpAny_storeName_cell I.ok.kind hk hc z (λh' T hs=> ?_);obtain⟨U,W,sC⟩:=id z;refine h {s with heap:=h'} ⟨I.ok,I.os,I.bare,⟨λb o e n hb hx=> ?_,λb o e n hb hx=> ?_,I.base.free,λb o e hx=> ?_,I.base.tups,I.base.frzs,I.base.tbls⟩,⟨m,F.sameBut hs (AAz (t x c hc)),λj y G f g J=> ?_⟩,λy C e=> ?_,I.free,I.freeC,λp hp=> ?_,tracked ⟨U,W,I.freeC x c hc⟩ hs,by simpa using I.len⟩ ⟨c,hs, .inr hc⟩
  .exact (hs.2 b (AAN (AAV (AAH e) (I.ok.cab x c R hc)))).trans (I.base.keep b o e n hb hx)
  .obtain ⟨sl,f⟩:=I.base.slot b o e n hb hx;exact⟨sl,(hs.2 b (AAN (AAV (AAH e) (I.ok.cab x c R hc)))).trans f⟩
  .obtain ⟨K,f⟩:=I.base.there b o e hx;exact⟨K,(hs.2 b (AAN (AAV (AAH e) (I.ok.cab x c R hc)))).trans f⟩
  .by_cases hj:j=i
   .subst hj;rw[hi] at f;cases f;rw[ACD l] at g;cases g;exact⟨u,r, .inr ⟨.inl hk,c,hc,T⟩⟩
   .rw [AAc (AAz hj)] at g;obtain⟨L,O,q⟩:=hl j y G f g J;refine⟨L,O, ?_⟩;rcases q with q|⟨k,C,e,z'⟩
    .exact .inl q
    .refine .inr ⟨k,C,e,z'.sameBut hs ?_⟩;rintro rfl;exact hj (TJ hN f (I.ok.inj _ _ _ e hc ▸ hi))
  .by_cases Y:C=c
   .subst Y;exact⟨_,T⟩
   .obtain ⟨w2,z2⟩:=I.cell y C e;exact⟨w2,z2.sameBut hs Y⟩
  .obtain ⟨e,n,ne,P,d⟩:=I.pin p hp;refine⟨(hs.2 p.1 ?_).trans e,n,ne,P,d⟩;intro q;rw[q,W] at e;have q':U=p.2:=AAb e;exact d B (by rw[<-q'];exact sC)
def Gu {M:Model}{A:fe}{E:km->kl->Prop}{i:Nat}{x:Str}{v:V}{u:km}{Q:Unit->kl->Prop}(I:Inv X Wf σ H s)(hN:X.N.Nodup)(hi:X.N[i]? =some x)(hx:Loc X.env.scope x)(r:RelV v u)(h:∀a,Inv X Wf (σ.set i (some v)) H a->Q () a)(b:X.fn x=true\/X.env.scope.names.lookup x=some .local:=by first | exact .inl rfl|exact .inr rfl|assumption):wpAny M A (storeName X.env x u) Q E s:=
 KI I hN hi hx r (λa c _=>h a c) b
def Inv.call' {a:kl}{ch:kn kj}(I:Inv X Wf σ H s)(d:a.os=s.os)(u:Un (Yx X.stack) ch H H' s.heap a.heap)(hok:Ie X.prog X.w H' a.heap)(f:AllBare a.gens)(g:∀b∈ch,(b∈X.ex\/X.s₀.heap.objs.size<=b)/\b≠X.env.locals/\(∀x c,X.env.cells.lookup x=some c->c≠b)/\∀p∈X.pn++Wf,p.1≠b):Inv X Wf σ H' a:=by obtain⟨h',g',d',t',h⟩:=a;have e:h=s.os:=d;subst e;exact I.call (g':=g') (t':=t') (d':=d') u hok f g
end
abbrev XK:=km->ki kj->Hp->Prop
abbrev St:=kn (ki V)
abbrev VK:=V->Hp->Prop
abbrev TE:=St->Hp->VK->Prop
abbrev TT:=St->Hp->(ke->Hp->Prop)->Prop
abbrev TA:=St->Hp->(kn V->Hp->Prop)->Prop
structure QG where
 nx:St->Hp->Prop
 rt:VK
 bk:St->Hp->Prop:=λ_ _=>False
 ct:St->Hp->Prop:=λ_ _=>False
abbrev TS:=QG->St->Hp->Prop
def EP (X:Cx)(b:kn (kj×Obj))(c:St)(Q:VK)(u:km)(d:kl):Prop:=∃v a,Inv X b c a d/\RelV v u/\Q v a
def TP (X:Cx)(c:kn (kj×Obj))(d:St)(Q:ke->Hp->Prop)(b:ke)(e:kl):Prop:=∃a,Inv X c d a e/\Q b a
def AP (X:Cx)(b:kn (kj×Obj))(c:St)(Q:kn V->Hp->Prop)(d:kn km)(e:kl):Prop:=∃vs a,Inv X b c a e/\Ap vs d/\Q vs a
def SP (X:Cx)(b:kn (kj×Obj))(D:QG)(f:Flow)(c:kl):Prop:=
 match f with
 | .next=>∃σ' a,Inv X b σ' a c/\D.nx σ' a
 | .brk=>∃σ' a,Inv X b σ' a c/\D.bk σ' a
 | .cont=>∃σ' a,Inv X b σ' a c/\D.ct σ' a
 | .ret u=>∃v σ' a,Inv X b σ' a c/\RelV v u/\D.rt v a
def PE (X:Cx)(e:kf)(t:TE):Prop:=
 ∀(b:kn (kj×Obj)) (s:kl) (a:St) (H:Hp) (Q:VK),Inv X b a H s->t a H Q->wpAny (model X.prog X.w) X.A (eval e X.env) (EP X b a Q) X.xe s
def PT (X:Cx)(e:kf)(t:TT):Prop:=
 ∀(b:kn (kj×Obj)) (s:kl) (a:St) (H:Hp) (Q:ke->Hp->Prop),Inv X b a H s->t a H Q->wpAny (model X.prog X.w) X.A (isTrue e X.env (eval e X.env)) (TP X b a Q) X.xe s
def PW (X:Cx)(e:kf)(t:TT):Prop:=
 ∀(whole:Sem km) (b:kn (kj×Obj)) (s:kl) (a:St) (H:Hp) (Q:ke->Hp->Prop),Inv X b a H s->t a H Q->wpAny (model X.prog X.w) X.A (isTrue e X.env whole) (TP X b a Q) X.xe s
def PW.pt {X:Cx}{e:kf}{t:TT}(h:PW X e t):PT X e t:=h _
def PA (X:Cx)(es:kn kf)(t:TA):Prop:=
 ∀(pos:Pos) (b:kn (kj×Obj)) (s:kl) (a:St) (H:Hp) (Q:kn V->Hp->Prop),Inv X b a H s->t a H Q->wpAny (model X.prog X.w) X.A (spliced (backTo pos (starEach es X.env))) (AP X b a Q) X.xe s
def PS (X:Cx)(st:Stmt)(t:TS):Prop:=
 ∀(a:kn (kj×Obj)) (s:kl) (b:St) (H:Hp) (D:QG),Inv X a b H s->t D b H->wpAny (model X.prog X.w) X.A (exec st X.env) (SP X a D) X.xe s
def R9 (X:Cx)(st:kn Stmt)(t:TS):Prop:=
 ∀(a:kn (kj×Obj)) (s:kl) (b:St) (H:Hp) (D:QG),Inv X a b H s->t D b H->wpAny (model X.prog X.w) X.A (execs st X.env) (SP X a D) X.xe s
def BO {b:Type}{t:Sem b}{Q c:b->kl->Prop}{M:Model}{A:fe}{E:km->kl->Prop}{s:kl}(h:wpAny M A t Q E s)(hQ:∀a s,Q a s->c a s):wpAny M A t c E s:=ABP h hQ λ_ _ x=>x
section
variable {X:Cx}
def IN (i:Nat):TE:=λa H Q=>∃v,a[i]? =some (some v)/\Q v H
def tC (v:V):TE:=λ_ H Q=>Q v H
def Hz {i:Nat}{x:Str}{pos:Pos}(hN:X.N[i]? =some x)(hv:cT X.env.scope x)(hd:(x==("__debug__" :Str))=false:=by decide)(d:(x==("__classdict__" :Str))=false:=by decide):PE X (.Name x pos) (IN i):=by
 intro f s g H Q I h;obtain⟨v,e,h⟩:=h;obtain⟨m,j,hl⟩:=I.loc;obtain⟨u,r,l⟩:=hl i x v hN e hv;have a:EP X f g Q u s:=⟨v,H,I,r,h⟩;rcases l with⟨hk,k⟩|⟨hk,c,hc,b⟩
 .exact wpAny_Name (wpAny_loadName_local I.ok.kind hk j k a) hd
 .rcases hk with hk|hk
  .exact wpAny_Name (wpAny_loadName_cell I.ok.kind hk hc b a) hd
  .exact wpAny_Name (wpAny_loadName_free I.ok.kind hk hc b a d) hd
def BG {i j pos}:PE X (.Constant (.int i) j pos) (tC (.int i)):=λ_ _ _ H _ I h=>wpAny_Constant_int ⟨.int i,H,I.tok _,⟨_,rfl⟩,h⟩
def n8 {b j pos}:PE X (.Constant (.bool b) j pos) (tC (.bl b)):=λ_ _ _ H _ I h=>Constant_bool ⟨.bl b,H,I,rfl,h⟩
def jo {j pos}:PE X (.Constant .none j pos) (tC .non):=λ_ _ _ H _ I h=>Constant_none ⟨.non,H,I,rfl,h⟩
def jr {x j pos}:PE X (.Constant (.str x) j pos) (tC (.str x)):=λ_ _ _ H _ I h=>Calls.Constant_str ⟨.str x,H,I.tok _,⟨_,rfl⟩,h⟩
def Gl (X:Cx)(x:Str):Prop:=X.env.kindOf x=some .globalImplicit
def Wh {E:km->kl->Prop}{a:kn (kj×Obj)}{s:kl}{b:St}{H:Hp}{x:Str}{u:km}{pos:Pos}{Q:km->kl->Prop}(I:Inv X a b H s)(c:Gl X x)(d:X.mg x=some u)(h:Q u s)(hd:(x==("__debug__" :Str))=false:=by decide):wpAny (model X.prog X.w) X.A (eval (.Name x pos) X.env) Q E s:=
 Calls.Name_function_global I.ok.kind c (Calls.loadGlobal_global (by rw[I.ok.glob];exact I.mod.glob.keeps I.bk) d h) hd
def FE {E:km->kl->Prop}{a:kn (kj×Obj)}{s:kl}{b:St}{H:Hp}{x:Str}{u:km}{pos:Pos}{Q:km->kl->Prop}(I:Inv X a b H s)(c:Gl X x)(d:X.mg x=none)(hv:bootBuiltins x=some u)(h:Q u s)(e:x≠"__name__" :=by decide)(hd:(x==("__debug__" :Str))=false:=by decide):wpAny (model X.prog X.w) X.A (eval (.Name x pos) X.env) Q E s:=by obtain⟨f,h1,h2⟩:=I.mod.blt;exact Calls.Name_function_global I.ok.kind c (Calls.loadGlobal_builtin (by rw[I.ok.glob];exact I.mod.glob.keeps I.bk) d (by rw[I.ok.blt];exact h1.keeps I.bk) ((h2 x e).trans hv) h) hd
def eJ {x:Str}{v:V}{u:km}{pos:Pos}(a:Gl X x)(b:X.mg x=some u)(r:RelV v u)(hd:(x==("__debug__" :Str))=false:=by decide):PE X (.Name x pos) (tC v):=
 λ_ _ _ H _ I h=>Wh I a b ⟨v,H,I,r,h⟩ hd
def Fv {x:Str}{v:V}{u:km}{pos:Pos}(a:Gl X x)(b:X.mg x=none)(hv:bootBuiltins x=some u)(r:RelV v u)(c:x≠"__name__" :=by decide)(hd:(x==("__debug__" :Str))=false:=by decide):PE X (.Name x pos) (tC v):=
 λ_ _ _ H _ I h=>FE I a b hv ⟨v,H,I,r,h⟩ c hd
variable {a b:kf}{ta tb:TE}{pos:Pos}
def tB (t:TE):TT:=λd H Q=>t d H λx H1=>∃c,x= .bl c/\Q c H1
def j3 {e:kf}{t:TE}(h:PE X e t)(he:∀whole,isTrue e X.env whole=(do let v <-whole;standAt e.pos;holding [v] (truthy v)):=by intro _;rfl):PT X e (tB t):=by intro c s f H Q I hw;refine isTrue_plain (BO (h c s f H _ I hw) λv k ⟨x,H1,g,i,j⟩=> ?_) (he _);obtain⟨d,rfl,q⟩:=j;cases i;exact ABq ⟨H1,g,q⟩
variable {tA tB':TT}{rest:kn kf}
def tJ (t u:TT):TT:=λd H Q=>t d H λc H1=>if c=true then u d H1 Q else Q false H1
def zT (t u:TT):TT:=λd H Q=>t d H λc H1=>if c=true then Q true H1 else u d H1 Q
def tP (t:TT):TT:=λd H Q=>t d H λc H1=>Q (!c) H1
def fC (ha:PT X a tA):PW X (.BoolOp .And [a] pos) tA:=by
 intro g d s f H Q I h;refine isTrue_and (BO (ha d s f H Q I h) λc i e=> ?_);cases c with
 | true=>exact isTrue_and_nil e
 | false=>exact e
def j7 (ha:PT X a tA):PW X (.BoolOp .Or [a] pos) tA:=by
 intro g d s f H Q I h;refine isTrue_or (BO (ha d s f H Q I h) λc i e=> ?_);cases c with
 | false=>exact isTrue_or_nil e
 | true=>exact e
def j6 (ha:PT X a tA)(hb:PW X (.BoolOp .And (b::rest) pos) tB'):PW X (.BoolOp .And (a::b::rest) pos) (tJ tA tB'):=by
 intro i d s e H Q I h;refine isTrue_and (BO (ha d s e H _ I h) λc j ⟨H1,f,g⟩=> ?_);cases c with
 | true=>exact hb i d j e H1 Q f g
 | false=>exact⟨H1,f,g⟩
def oF (ha:PT X a tA)(hb:PW X (.BoolOp .Or (b::rest) pos) tB'):PW X (.BoolOp .Or (a::b::rest) pos) (zT tA tB'):=by
 intro i d s e H Q I h;refine isTrue_or (BO (ha d s e H _ I h) λc j ⟨H1,f,g⟩=> ?_);cases c with
 | true=>exact⟨H1,f,g⟩
 | false=>exact hb i d j e H1 Q f g
def jz (ha:PT X a tA):PT X (.UnaryOp .Not a pos) (tP tA):=by intro d s e H Q I h;exact isTrue_not (ha d s e H (λc H1=>Q (!c) H1) I h)
def pE (ta tb:TE):TE:=λd H Q=>ta d H λx H1=>∃c,x= .bl c/\if c=true then tb d H1 Q else Q (.bl false) H1
def tR (ta tb:TE):TE:=λd H Q=>ta d H λx H1=>∃c,x= .bl c/\if c=true then Q (.bl true) H1 else tb d H1 Q
def pL (ta:TE):TE:=λd H Q=>ta d H λx H1=>∃c,x= .bl c/\Q (.bl (!c)) H1
def jq {op}{t:TE}(h:PE X a t):PE X (.BoolOp op [a] pos) t:=λc s d H Q I hw=>BoolOp_one (h c s d H Q I hw)
def jk (ha:PE X a ta)(hb:PE X (.BoolOp .And (b::rest) pos) tb):PE X (.BoolOp .And (a::b::rest) pos) (pE ta tb):=by
 intro e s f H Q I h;refine BoolOp_and (BO (ha e s f H _ I h) λv i ⟨x,H1,g,j,d⟩=> ?_);obtain⟨c,rfl,d⟩:=d;cases j;refine ABq ?_;cases c with
 | true=>exact hb e i f H1 Q g d
 | false=>exact⟨.bl false,H1,g,rfl,d⟩
def oA (ha:PE X a ta)(hb:PE X (.BoolOp .Or (b::rest) pos) tb):PE X (.BoolOp .Or (a::b::rest) pos) (tR ta tb):=by
 intro e s f H Q I h;refine BoolOp_or (BO (ha e s f H _ I h) λv i ⟨x,H1,g,j,d⟩=> ?_);obtain⟨c,rfl,d⟩:=d;cases j;refine ABq ?_;cases c with
 | false=>exact hb e i f H1 Q g d
 | true=>exact⟨.bl true,H1,g,rfl,d⟩
def jp (ha:PE X a ta):PE X (.UnaryOp .Not a pos) (pL ta):=by intro e s f H Q I h;refine UnaryOp_ (BO (ha e s f H _ I h) λv j ⟨x,H1,g,i,d⟩=> ?_);obtain⟨c,rfl,d⟩:=d;cases i;exact not_of (ABq ⟨.bl (!c),H1,g,rfl,d⟩)
def zS (t:TT)(ta tb:TE):TE:=λd H Q=>t d H λc H1=>if c=true then ta d H1 Q else tb d H1 Q
def am {c:kf}(hc:PT X c tA)(ha:PE X a ta)(hb:PE X b tb):PE X (.IfExp c a b pos) (zS tA ta tb):=by
 intro e s f H Q I h;refine wpAny_IfExp (BO (hc e s f H _ I h) λd g ⟨H1,i,j⟩=> ?_);cases d with
 | true=>exact ha e g f H1 Q i j
 | false=>exact hb e g f H1 Q i j
end
def FR (K:AAD)(H:Hp)(a:kj)(xs:kn V):Prop:=
 Rd H a (.lst xs)\/
  ∃(o:Obj) (its:Array km) (n:Nat),K.lookup a=some o/\o.cls= .type "list" /\o.dict=none/\o.data= .seq its n/\its.size<=sizeLine/\Ap xs its.toList
def LX (K:AAD)(H:Hp)(a:kj)(xs:kn V):Prop:=
 Rd H a (.tup xs)\/
  ∃(o:Obj) (its:Array km) (n:Nat),K.lookup a=some o/\o.cls= .type "tuple" /\o.data= .seq its n/\its.size<=sizeLine/\Ap xs its.toList
def rK:km->ki V
 | .none=>some .non
 | .bool b=>some (.bl b)
 | .int i _=>some (.int i)
 | .str x _=>some (.str x)
 | .bytes b _=>some (.byt b)
 | .float b _=>some (.flt b)
 | .ref a=>some (.ref a)
 | .type n=>some (.ty n)
 | _=>none
def RelV.abs {x:V}{u:km}(r:RelV x u):rK u=some x:=by
 cases x with
 | non=>cases r;rfl
 | bl _=>cases r;rfl
 | int _=>obtain⟨t,rfl⟩:=r;rfl
 | str _=>obtain⟨t,rfl⟩:=r;rfl
 | byt _=>obtain⟨t,rfl⟩:=r;rfl
 | flt _=>obtain⟨t,rfl⟩:=r;rfl
 | ref _=>cases r;rfl
 | ty _=>cases r;rfl
def RelV.inj {x y:V}{u:km}(r:RelV x u)(q:RelV y u):x=y:=AAb (r.abs.symm.trans q.abs)
theorem Ap.inj:∀{xs a:kn V} {b:kn km},Ap xs b->Ap a b->xs=a
 | _,_,_, .nil, .nil=>rfl
 | _,_,_, .cons r t, .cons c t'=>by rw[r.inj c,Ap.inj t t']
section
variable {X:Cx}{Wf:kn (kj×Obj)}{σ:St}{H:Hp}{s:kl}{a:kj}{xs ys:kn V}
def FR.of {K:AAD}(h:H a=some (.lst xs)):FR K H a xs:= .inl (.inl h)
def Inv.list (I:Inv X Wf σ H s)(h:FR X.K H a xs):∃its:kn km,Ap xs its/\PlainL s.heap a its.toArray/\xs.length<=sizeLine:=by
 rcases h with h|⟨o,its,n,hk,hc,hd,hs,b,r⟩
 .obtain ⟨z,its,n,r,e⟩:=h.ok I.hok;exact⟨its,r,⟨_,n,e,rfl,rfl,rfl⟩,z⟩
 .refine ⟨its.toList,r,⟨o,n,I.kIn a o hk,hc,hd,by simpa using hs⟩, ?_⟩;have e:=r.length;simp only[ACA] at e;omega
def Inv.tuple (I:Inv X Wf σ H s)(h:LX X.K H a xs):∃its:kn km,Ap xs its/\IsTup s.heap a its.toArray/\xs.length<=sizeLine:=by
 rcases h with h|⟨o,its,n,hk,hc,hs,b,r⟩
 .obtain ⟨z,its,r,p⟩:=h.ok I.hok;exact⟨its,r,p,z⟩
 .refine ⟨its.toList,r,⟨o,I.kIn a o hk,hc,n,by simpa using hs⟩, ?_⟩;have e:=r.length;simp only[ACA] at e;omega
def Inv.list_inj (I:Inv X Wf σ H s)(h:FR X.K H a xs)(h':FR X.K H a ys):xs=ys:=by
 obtain⟨its,r,⟨o,n,e,_,_,d⟩,_⟩:=I.list h;obtain⟨its',c,⟨g,i,b,_,_,d'⟩,_⟩:=I.list h';rw[e] at b;cases b;rw[d] at d';injection d' with f _;have:its=its':=by simpa using congrArg Array.toList f
 subst this;exact r.inj c
def Inv.tuple_inj (I:Inv X Wf σ H s)(h:LX X.K H a xs)(h':LX X.K H a ys):xs=ys:=by
 obtain⟨its,r,⟨o,e,_,n,d⟩,_⟩:=I.tuple h;obtain⟨its',c,⟨g,b,_,i,d'⟩,_⟩:=I.tuple h';rw[e] at b;cases b;rw[d] at d';injection d' with f _;have:its=its':=by simpa using congrArg Array.toList f
 subst this;exact r.inj c
end
abbrev Cx.wish (X:Cx)(E:km->kl->Prop):Cx:={X with xe:=E}
abbrev Cx.nox (X:Cx):Cx:=X.wish λ_ _=>False
def Cx.Ok.wish {X:Cx}(ok:X.Ok)(E:km->kl->Prop):(X.wish E).Ok:=
 ⟨ok.mod,ok.kind,ok.glob,ok.blt,ok.above,ok.inj,ok.has,ok.cab,ok.hd,ok.frames,ok.stk,ok.exf,ok.bs,ok.bsz,ok.noex,ok.exfs,ok.funs,ok.frf⟩
def Cx.Ok.unwish {X:Cx}{E:km->kl->Prop}(ok:(X.wish E).Ok):X.Ok:=
 ⟨ok.mod,ok.kind,ok.glob,ok.blt,ok.above,ok.inj,ok.has,ok.cab,ok.hd,ok.frames,ok.stk,ok.exf,ok.bs,ok.bsz,ok.noex,ok.exfs,ok.funs,ok.frf⟩
section
variable {X:Cx}{Wf:kn (kj×Obj)}{σ:St}{H:Hp}{s:kl}{E:km->kl->Prop}
def Inv.wish (I:Inv X Wf σ H s)(E:km->kl->Prop):Inv (X.wish E) Wf σ H s:=⟨I.ok.wish E,I.os,I.bare,I.base,I.loc,I.cell,I.free,I.freeC,I.pin,I.hok,I.len⟩
def Inv.unwish (I:Inv (X.wish E) Wf σ H s):Inv X Wf σ H s:=⟨I.ok.unwish,I.os,I.bare,I.base,I.loc,I.cell,I.free,I.freeC,I.pin,I.hok,I.len⟩
def SP.unwish {D:QG}{f:Flow}{b:kl}(h:SP (X.wish E) Wf D f b):SP X Wf D f b:=by
 cases f with
 | next=>obtain⟨σ',a,I,q⟩:=h;exact⟨σ',a,I.unwish,q⟩
 | brk=>obtain⟨σ',a,I,q⟩:=h;exact⟨σ',a,I.unwish,q⟩
 | cont=>obtain⟨σ',a,I,q⟩:=h;exact⟨σ',a,I.unwish,q⟩
 | ret u=>obtain⟨v,σ',a,I,r,q⟩:=h;exact⟨v,σ',a,I.unwish,r,q⟩
def R9.nox {st:kn Stmt}{t:TS}(h:R9 X.nox st t):R9 X st t:=λWf s σ H D I hw=>
 ABP (h Wf s σ H D (I.wish _) hw) (λ_ _ q=>q.unwish) λ_ _ z=>False.elim z
end
section
variable {X:Cx}{st:Stmt}{rest:kn Stmt}{t u:TS}{e:kf}{te:TE}{pos:Pos}
def pJ:TS:=λD a H=>D.nx a H
def pN (t u:TS):TS:=λD a H=>t {D with nx:=u D} a H
def RJ:R9 X [] pJ:=λ_ _ a H _ I h=>ACx ⟨a,H,I,h⟩
def Cc (h1:PS X st t)(h2:R9 X rest u):R9 X (st::rest) (pN t u):=by
 intro a s b H D I h;refine wpAny_execs_cons (BO (h1 a s b H {D with nx:=u D} I h) λf c q=> ?_);cases f with
 | next=> obtain⟨σ',d,g,q⟩:=q;exact h2 a c σ' d D g q
 | ret v=>exact q
 | brk=>exact q
 | cont=>exact q
def HA (h1:PS X st t):R9 X [st] t:=by
 intro a s b H D I h;refine wpAny_execs_cons (BO (h1 a s b H D I h) λf c q=> ?_);cases f with
 | next=>exact ACx q
 | ret v=>exact q
 | brk=>exact q
 | cont=>exact q
def Inv.quiet {a:kn (kj×Obj)}{b:St}{H:Hp}{s:kl}(I:Inv X a b H s):interactive X.env=false:=by simp[interactive,I.ok.kind]
def gv (te:TE):TS:=λD a H=>te a H λ_ H1=>D.nx a H1
def e8 (he:PE X e te)(hs:swapsWith e none pos.line X.env=pure false:=by rfl):PS X (.Expr e pos) (gv te):=by intro b s a H D I h;exact wpAny_Expr_any (BO (he b s a H _ I h) λv f ⟨x,H1,c,g,d⟩=>⟨a,H1,c,d⟩) I.quiet hs
def tT (te:TE):TS:=λD a H=>te a H D.rt
def RI (he:PE X e te):PS X (.Return (some e) pos) (tT te):=by intro b s a H D I h;exact wpAny_Return_some (BO (he b s a H _ I h) λv g ⟨x,H1,c,d,f⟩=>⟨x,a,H1,c,d,f⟩)
def tN (c:TT)(t u:TS):TS:=λD a H=>c a H λb H1=>if b=true then t D a H1 else u D a H1
def bB {c:kf}{a b:kn Stmt}{i:TT}(hc:PT X c i)(ha:R9 X a t)(hb:R9 X b u):PS X (.If c a b pos) (tN i t u):=by
 intro f s g H D I h;refine wpAny_If (BO (hc f s g H _ I h) λd j ⟨H1,k,l⟩=> ?_);cases d with
 | true=>exact ha f j g H1 D k l
 | false=>exact hb f j g H1 D k l
end
abbrev TG:=V->St->Hp->(St->Hp->Prop)->Prop
abbrev UX:=kn V->St->Hp->(St->Hp->Prop)->Prop
def PG (X:Cx)(target:kf)(t:TG):Prop:=
 ∀(a:kn (kj×Obj)) (s:kl) (b:St) (H:Hp) (v:V) (u:km) (Q:St->Hp->Prop),Inv X a b H s->RelV v u->t v b H Q->
  wpAny (model X.prog X.w) X.A (assign target X.env u) (λ_ d=>∃σ' c,Inv X a σ' c d/\Q σ' c) X.xe s
def lN (X:Cx)(e:kn kf)(t:UX):Prop:=
 ∀(a:kn (kj×Obj)) (s:kl) (b:St) (H:Hp) (vs:kn V) (c:kn km) (Q:St->Hp->Prop),Inv X a b H s->Ap vs c->t vs b H Q->
  wpAny (model X.prog X.w) X.A (assignInOrder ((assignEach e X.env).map (·.2)) c) (λ_ f=>∃σ' d,Inv X a σ' d f/\Q σ' d) X.xe s
abbrev ZI:=V->V->V->Hp->(Hp->Prop)->Prop
def h7 (X:Cx)(t:ZI):Prop:=
 ∀(a:kn (kj×Obj)) (s:kl) (b:St) (H:Hp) (o i v:V) (c d u:km) (Q:Hp->Prop),Inv X a b H s->RelV o c->RelV i d->RelV v u->t o i v H Q->
  wpAny (model X.prog X.w) X.A (setItem c d u) (λ_ f=>∃e,Inv X a b e f/\Q e) X.xe s
abbrev iE:=V->V->Hp->VK->Prop
def lO (X:Cx)(op:Operator)(t:iE):Prop:=
 ∀(a:kn (kj×Obj)) (s:kl) (b:St) (H:Hp) (x y:V) (v u:km) (Q:VK),Inv X a b H s->RelV x v->RelV y u->t x y H Q->
  wpAny (model X.prog X.w) X.A (inplaceOp op v u) (EP X a b Q) X.xe s
section
variable {X:Cx}{pos:Pos}
def Cw (i:Nat):TG:=λv a H Q=>Q (a.set i (some v)) H
def G9 {i:Nat}{x:Str}(hN:X.N.Nodup)(hi:X.N[i]? =some x)(hx:Loc X.env.scope x)(a:X.fn x=true\/X.env.scope.names.lookup x=some .local:=by first | exact .inl rfl|exact .inr rfl|assumption):PG X (.Name x pos) (Cw i):=by intro c s d H v u Q I r h;exact ADU (Gu I hN hi hx r (λe b=>⟨_,H,b,h⟩) a)
def Qa:UX:=λvs a H Q=>vs= [] /\Q a H
def FW (t:TG)(u:UX):UX:=λvs a H Q=>∃v r,vs=v::r/\t v a H λσ' b=>u r σ' b Q
def Ln:lN X [] Qa:=by intro b s a H vs c Q I r h;obtain⟨e,h⟩:=h;subst e;cases r;exact assignInOrder_nil ⟨a,H,I,h⟩
def FZ {e:kf}{es:kn kf}{t:TG}{u:UX}(h1:PG X e t)(h2:lN X es u)(hs:(assignEach (e::es) X.env).map (·.2)=assign e X.env::(assignEach es X.env).map (·.2):=by rfl):lN X (e::es) (FW t u):=by
 intro b s c H vs k Q I r h;obtain⟨v,l,d,h⟩:=h;subst d;cases r with
 | cons r f=> rw[hs];refine assignInOrder_cons (BO (h1 b s c H _ _ _ I r h) λ_ g ⟨a,H1,i,j⟩=> ?_);exact h2 b g a H1 _ _ Q i f j
def rQ (b c:TE)(t:ZI):TG:=λv a H Q=>b a H λo H1=>c a H1 λi d=>t o i v d λe=>Q a e
def VI {o i:kf}{e f:TE}{t:ZI}(g:PE X o e)(hi:PE X i f)(hs:h7 X t)(ha:∀v,assign (.Subscript o i pos) X.env v=(do
   let a <-holding [v] (eval o X.env);let b <-holding [v,a] (eval i X.env)
   standAt pos
   holding [v,a,b] (setItem a b v)
   release [v,a,b] []):=by intro _;rfl):PG X (.Subscript o i pos) (rQ e f t):=by intro d s c H v u Q I r h;rw[ha];refine AAC (AAg (BO (g d s c H _ I h) λa j ⟨x,H1,k,l,m⟩=> ?_));refine AAC (AAg (BO (hi d j c H1 _ k m) λb n ⟨y,p,w,z,A⟩=> ?_));refine AAC (ABd (AAC (AAg (BO (hs d n c p x y v a b u _ w l z r A) λ_ E ⟨B,C,D⟩=> ?_))));exact wpAny_release ⟨c,B,C,D⟩
def Vj (b:TE)(g:TG):TS:=λD a H=>b a H λx H1=>g x a H1 D.nx
def RH {a e:kf}{b:TE}{g:TG}(he:PE X e b)(f:PG X a g)(hs:swapsWithSole [a] e pos.line X.env=pure false:=by rfl)(hw:swappedStores [a] e X.env=pure none:=by rfl)(h1:(assignEach [a] X.env).map (·.2)= [assign a X.env] :=by rfl):PS X (.Assign [a] e pos) (Vj b g):=by intro c s d H D I h;refine wpAny_Assign_stores (BO (he c s d H _ I h) λv i ⟨x,H1,j,k,l⟩=> ?_) hs hw;rw[h1];exact BO (f c i d H1 x v _ j k l) λ_ m q=>q
def IA {i:Nat}{x:Str}{e:kf}{a:TE}{pos':Pos}(hN:X.N.Nodup)(hi:X.N[i]? =some x)(hx:Loc X.env.scope x)(he:PE X e a)(hs:swapsWith e (some (.Name x pos')) pos.line X.env=pure false:=by rfl)(b:X.fn x=true\/X.env.scope.names.lookup x=some .local:=by first | exact .inl rfl|exact .inr rfl|assumption):PS X (.Assign [.Name x pos'] e pos) (Vj a (Cw i)):=by intro c s d H D I h;refine wpAny_Assign_Name (BO (he c s d H _ I h) λv l ⟨y,H1,f,g,j⟩=> ?_) hs;exact Gu f hN hi hx g (λm k=>⟨_,H1,k,j⟩) b
def tS (i j:Nat)(b:TA):TS:=λD a H=>b a H λvs H1=>∃v w,vs= [v,w] /\D.nx ((a.set i (some v)).set j (some w)) H1
def jy {i j:Nat}{x y:Str}{a b:kf}{r:TA}{g k l:Pos}{kt k2 pt2}(hc:X.calm=true)(hN:X.N.Nodup)(hi:X.N[i]? =some x)(hj:X.N[j]? =some y)(C:i≠j)(hx:X.env.scope.names.lookup x=some .local)(t:X.env.scope.names.lookup y=some .local)(ha:PA X [a,b] r)(hw:swappedStores [.Tuple [.Name x g, .Name y k] kt l] (.Tuple [a,b] k2 pt2) X.env=pure (some [x,y]))(hs:swapsWithSole [.Tuple [.Name x g, .Name y k] kt l] (.Tuple [a,b] k2 pt2) pos.line X.env=pure false:=by rfl):PS X (.Assign [.Tuple [.Name x g, .Name y k] kt l] (.Tuple [a,b] k2 pt2) pos) (tS i j r):=by
 intro u s z H D I h;rw[exec_Assign_arm];refine AAC (ABd ?_);rw[hs];refine AAC (AAE ?_);rw[AAF (by decide)];refine AAC (Tuple_ (BO (ha _ u s z H _ I h) λE c ⟨vs,H1,F,G,m⟩=> ?_));obtain⟨v,w,J,m⟩:=m;subst J;obtain⟨d,f,rfl,rv,n⟩:∃d f,E= [d,f] /\RelV v d/\RelV w f:=by
  cases G with
  | cons p q=>
    cases q with
    | cons K L=> cases L;exact⟨_,_,rfl,p,K⟩
 refine ABH ?_ (by show 2<=sizeLine;decide);have M:Inv X u z H1 {c with heap:=c.heap.push {cls:= .type "tuple",data:= .seq [d,f].toArray}}:=F.kept (t':=c.toks) λb o e=>AAI _ e;rw[hw];refine AAC (AAE ?_);show wpAny (model X.prog X.w) X.A (do rule "assign.swapped-stores";let items <-unpackItems (.ref c.heap.objs.size) 2 none;assignInOrder [λv=>bindName X.env y v,λv=>bindName X.env x v] items.reverse;pure Flow.next) _ _ _;refine AAC (ABc (AAC (unpackItems_tuple (items:= #[d,f]) (I.ok.hd hc) (IsTup.new c.heap _) λh' O=> ?_)));have P:=M.kept (h':=h') (t':=c.toks) λb o e=>O b o (AAN (AAH e)) e;show wpAny _ _ (assignInOrder [λv=>bindName X.env y v,λv=>bindName X.env x v] [f,d] >>= λ_=>pure Flow.next) _ _ _;refine AAC (assignInOrder_cons (wpAny_bindName (Gu P hN hj (.inl t) n (λR Q=> ?_) (.inr t))));refine assignInOrder_cons (wpAny_bindName (Gu Q hN hi (.inl hx) rv (λS B=>assignInOrder_nil (AAE ?_)) (.inr hx)));rw[List.set_comm _ _ (AAz C)] at B;exact⟨_,H1,B,m⟩
def tK (i:Nat)(b:TE)(c:iE):TS:=λD a H=>∃x,a[i]? =some (some x)/\b a H λy H1=>c x y H1 λz d=>D.nx (a.set i (some z)) d
def jx {i:Nat}{x:Str}{e:kf}{g:TE}{op:Operator}{j:iE}{pos':Pos}(hN:X.N.Nodup)(hi:X.N[i]? =some x)(hx:Loc X.env.scope x)(he:PE X e g)(o:lO X op j)(p:X.fn x=true\/X.env.scope.names.lookup x=some .local:=by first | exact .inl rfl|exact .inr rfl|assumption):PS X (.AugAssign (.Name x pos') op e pos) (tK i g j):=by
 intro d s n H D I h;obtain⟨v,t,h⟩:=h;obtain⟨m,B,hl⟩:=I.loc;have f:cT X.env.scope x:=by rcases hx with k|k;exact .inl k;exact .inr (.inl k)
 obtain⟨u,r,l⟩:=hl i x v hi t f;refine wpAny_AugAssign_Name ?_;have go:wpAny (model X.prog X.w) X.A (eval e X.env) (λw a=>wpAny (model X.prog X.w) X.A (inplaceOp op u w) (λr b=>wpAny (model X.prog X.w) X.A (storeName X.env x r) (λ_=>SP X d D .next) X.xe b) X.xe a) X.xe s:=by refine BO (he d s n H _ I h) λw C ⟨y,H1,E,F,G⟩=> ?_;refine BO (o d C n H1 v y u w _ E r F G) λz R ⟨S,J,K,L,M⟩=> ?_;exact Gu K hN hi hx L (λT O=>⟨_,J,O,M⟩) p
 rcases l with⟨hk,P⟩|⟨hk,c,hc,Q⟩
 .exact wpAny_loadName_local I.ok.kind hk B P go
 .rcases hk with hk|hk
  .exact wpAny_loadName_cell I.ok.kind hk hc Q go
  .rcases hx with k|k
   .have:X.env.scope.names.lookup x=some .free:=hk;rw[k] at this;cases this
   .have:X.env.scope.names.lookup x=some .free:=hk;rw[k] at this;cases this
def pF (e f g:TE)(a:V->V->Hp->VK->Prop)(d:iE)(b:ZI):TS:=λD c H=>e c H λo H1=>f c H1 λi h=>a o i h λx j=>g c j λy k=>d x y k λz l=>b o i z l λm=>D.nx c m
def mH (X:Cx)(t:V->V->Hp->VK->Prop):Prop:=
 ∀(a:kn (kj×Obj)) (s:kl) (b:St) (H:Hp) (o i:V) (c d:km) (Q:VK),Inv X a b H s->RelV o c->RelV i d->t o i H Q->
  wpAny (model X.prog X.w) X.A (getItem c d) (EP X a b Q) X.xe s
def e5 {o i e:kf}{m n p:TE}{a:V->V->Hp->VK->Prop}{j:iE}{b:ZI}{op:Operator}{k:Pos}(w:PE X o m)(hi:PE X i n)(x:mH X a)(he:PE X e p)(hp:lO X op j)(hs:h7 X b)(ha:∀c d new,augStore i c d new=(do holding [new,c,d] (setItem c d new);release [new,c,d] [];pure .next):=by intros;rfl):PS X (.AugAssign (.Subscript o i k) op e pos) (pF m n p a j b):=by intro g s f H D I h;refine wpAny_AugAssign_SubscriptAny (BO (w g s f H _ I h) λc y ⟨x1,H1,z,r,A⟩=> ?_) ha;refine BO (hi g y f H1 _ z A) λd B ⟨t,C,E,u,F⟩=> ?_;refine BO (x g B f C x1 t c d _ E r u F) λl G ⟨J,K,L,M,N⟩=> ?_;refine BO (he g G f K _ L N) λv O ⟨P,Q,R,S,T⟩=> ?_;refine BO (hp g O f Q J P l v _ R M S T) λnew U ⟨W,Y,Z,r5,q5⟩=> ?_;exact BO (hs g U f Y x1 t W c d new _ Z r u r5 q5) λ_ s6 ⟨H6,I6,q6⟩=>⟨f,H6,I6,q6⟩
def zK (f:Int->Int->Int):iE:=λx y H Q=>∃i j,x= .int i/\y= .int j/\Q (.int (f i j)) H
def jB:lO X .Add (zK λi j=>i+j):=by intro e s f H x y v u Q I a b h;obtain⟨i,j,c,d,q⟩:=h;subst c;subst d;obtain⟨t,rfl⟩:=a;obtain⟨t',rfl⟩:=b;exact iadd_int ⟨.int _,H,I.tok _,⟨_,rfl⟩,q⟩
def ku (c:TT)(f:TS):TS:=λD a H=>∃W:Nat->St->Hp->Prop,(∃m,W m a H)/\∀m a H,W m a H->
 c a H λb H1=>if b=true then ∃N:St->Hp->Prop,(∀σ' d,N σ' d->∃e,e<m/\W e σ' d)/\f {D with nx:=N,ct:=N,bk:=D.nx} a H1 else D.nx a H1
def bC {c:kf}{body:kn Stmt}{r:TT}{t:TS}(hp:PassesOwn (model X.prog X.w) X.A X.env X.xe)(hc:PT X c r)(hb:R9 X body t):PS X (.While c body [] pos) (ku r t):=by
 intro j s z H D I h;obtain⟨W,⟨m0,B⟩,turn⟩:=h;refine wpAny_While (codeAny_whileLoop (λn C=>∃σ' u,Inv X j σ' u C/\W n σ' u) ?_ m0 ⟨z,H,I,B⟩);rintro n E ⟨d,H1,F,G⟩;refine ABs hp (BO (hc j E d H1 _ F (turn n d H1 G)) λb J ⟨x,y,g⟩=> ?_);cases b with
 | true=>
   obtain⟨N,hN,g⟩:=g;rw[AAG rfl];refine ABs hp (BO (hb j J d x _ y g) λf K i=> ?_);cases f with
   | next=> obtain⟨a,e,k,l⟩:=i;obtain⟨m,o,p⟩:=hN a e l;exact⟨m,o,a,e,k,p⟩
   | cont=> obtain⟨a,e,k,l⟩:=i;obtain⟨m,o,p⟩:=hN a e l;exact⟨m,o,a,e,k,p⟩
   | brk=>exact i
   | ret v=>exact i
 | false=> rw[AAF AAU];exact ACx ⟨d,x,y,g⟩
end
structure It where
 go:Nat->Hp->Prop
 yld:Nat->Hp->V->Hp->Prop
 stop:Nat->Hp->Prop
def Fk (X:Cx)(a:kn (kj×Obj))(H:Hp)(b:kj):Prop:=
 H b=none/\b≠X.env.locals/\b ∉ X.fs/\(b∈X.ex\/X.s₀.heap.objs.size<=b)/\(∀x c,X.env.cells.lookup x=some c->c≠b)/\∀p∈X.pn++a,p.1≠b
def Inv.fpOk {X:Cx}{a:kn (kj×Obj)}{f:St}{H d:Hp}{s:kl}{b:kj}(I:Inv X a f H s)(hb:s.heap.objs.size<=b)(g:d b=none):Fk X a d b:=by
 refine⟨g,AAh (AAV I.lt hb),I.nofs hb, .inr (AAX I.sz hb),λx c e z=> ?_,λp hp z=> ?_⟩
 .obtain ⟨v,q⟩:=I.cell x c e;exact absurd (AAV q.lt (by rw[z];exact hb)) (ABO _)
 .exact absurd (AAV (AAH (I.pin p hp).1) (by rw[z];exact hb)) (ABO _)
structure LG (P:Program) (w:World) (K:AAD) (tg:Expr) (J:It) (fp:List Addr) (it:Addr) (tn:Nat->Heap->Prop):Prop where
 mem:it∈fp
 obj:∀i h,tn i h->∀b∈fp,∃o,h.get? b=some o/\∀v,o.data≠ .cell v
 keep:∀i h h',tn i h->(∀b∈fp,∀o,h.get? b=some o->h'.get? b=some o)->tn i h'
 item:∀(X:Cx),X.prog=P->X.w=w->X.K=K->X.calm=true->∀(i:Nat) (Wf:List (Addr×Obj)) (s:Shared) (σ:St) (H:Hp) (E:Value->Shared->Prop),Inv X Wf σ H s->(∀b∈fp,Fk X Wf H b)->tn i s.heap->J.go i H->
  wpAny (model P w) X.A (pyNext (.ref it)) (λr s1=>∃u,r=some u/\
   wpAny (model P w) X.A (letOwnedTupleGo tg (.ref it) u) (λ_ s2=>∃x H',Inv X Wf σ H' s2/\RelV x u/\J.yld i H x H'/\tn (i+1) s2.heap/\∀b∈fp,H' b=none) E s1) E s
 done:∀(X:Cx),X.prog=P->X.w=w->X.K=K->X.calm=true->∀(i:Nat) (Wf:List (Addr×Obj)) (s:Shared) (σ:St) (H:Hp) (E:Value->Shared->Prop),Inv X Wf σ H s->(∀b∈fp,Fk X Wf H b)->tn i s.heap->J.stop i H->
  wpAny (model P w) X.A (pyNext (.ref it)) (λr s1=>r=none/\Inv X Wf σ H s1) E s
 self:∀(A:Around) (i:Nat) (s:Shared) (Q:Value->Shared->Prop) (E:Value->Shared->Prop),tn i s.heap->Q (.ref it) s->wpAny (model P w) A (pyIter (.ref it)) Q E s
abbrev TI:=St->Hp->(It->Hp->Prop)->Prop
def vQ (X:Cx)(d:kn (kj×Obj))(g:St)(h:kf)(R:It->Hp->Prop)(a:km)(e:kl):Prop:=
 ∃(it:kj) (f:kn kj) (tn:Nat->gn->Prop) (J:It) (c:Hp),a= .ref it/\Inv X d g c e/\LG X.prog X.w X.K h J f it tn/\tn 0 e.heap/\(∀b∈f,Fk X d c b)/\R J c
def PI (X:Cx)(c iter:kf)(d:TI):Prop:=
 ∀(b:kn (kj×Obj)) (s:kl) (a:St) (H:Hp) (R:It->Hp->Prop),Inv X b a H s->d a H R->
  wpAny (model X.prog X.w) X.A (eval iter X.env) (λv e=>wpAny (model X.prog X.w) X.A (pyIter v) (vQ X b a c R) X.xe e) X.xe s
def WU {M:Model}{A:fe}{E:km->kl->Prop}{s:kl}{a:kf}{it:kj}{u:km}{o:Obj}{n:String}{vs:Array km}{Q:Unit->kl->Prop}(b:s.heap.get? it=some o)(hc:o.cls= .type n)(hd:o.data= .fields vs)(c: ["enumerate","zip","dict_itemiterator","dict_reverseitemiterator","odict_iterator","itertools.zip_longest","itertools.pairwise"].contains n=false)(hQ:Q () s):wpAny M A (letOwnedTupleGo a (.ref it) u) Q E s:=by
 unfold letOwnedTupleGo;cases a <;> first
  | exact AAE hQ
  | (cases u <;> first
      | exact AAE hQ
      | (refine AAC (wpAny_load b ?_)
         rw[hc,hd];show wpAny M A (if (["enumerate","zip","dict_itemiterator","dict_reverseitemiterator","odict_iterator","itertools.zip_longest","itertools.pairwise"].contains n&&vs[0]?==some (rawInt _))=true then _ else _) Q E s;rw[AAF (by intro h;rw[c,ADV] at h;cases h)];exact AAE hQ))
def qy (K:AAD)(a:kj):It:=
 ⟨λi H=>∃xs x,FR K H a xs/\xs[i]? =some x,λi H x b=>b=H/\∀xs,FR K H a xs->xs[i]? =some x,λi H=>∃xs,FR K H a xs/\xs.length<=i⟩
def qz (K:AAD)(a:kj):It:=
 ⟨λi H=>∃xs x,LX K H a xs/\xs[i]? =some x,λi H x b=>b=H/\∀xs,LX K H a xs->xs[i]? =some x,λi H=>∃xs,LX K H a xs/\xs.length<=i⟩
def mC (lo:Int)(n:Nat):It:=⟨λi _=>i<n,λi H x a=>a=H/\x= .int (lo+i),λi _=>n<=i⟩
def Yo {P:kd}{w:kc}{K:AAD}{C:kf}(a it:kj):LG P w K C (qy K a) [it] it (λi h=>h.IsListIter it a i) where
 mem:=by simp
 obj:=λi h st b hb=>by
  have e:b=it:=by simpa using hb
  subst e;obtain⟨o,e,c,d⟩:=st;exact⟨o,e,λv z=>by rw[d] at z;cases z⟩
 keep:=λi h h' st k=>st.at λo e=>k it (by simp) o e
 item:=by intro X l hw m hc i A s B H E I g st n;subst l hw m;obtain⟨xs,x,j,hx⟩:=n;obtain⟨its,rv,p,D⟩:=I.list j;obtain⟨u,hu,F⟩:=rv.get hx;obtain⟨f0,f1,G,r,t,y⟩:=g it (by simp);refine wpAny_pyNext_list_item st p.isList (x:=u) (by simpa using hu) λh' f J=> ?_;have L:Inv X A B H {s with heap:=h'}:=I.turned (t':=s.toks) (λb o hb e=>(J.2 b hb).trans e) f0 f1 r t y;obtain⟨o,e,c,d⟩:=id f;exact⟨u,rfl,WU (s:={s with heap:=h'}) e c d (by decide) ⟨x,H,L,F,⟨rfl,λO M=>by rw[I.list_inj M j];exact hx⟩,f,λb hb=>(g b hb).1⟩⟩
 done:=by intro X l hw m hc i A s B H E I g st n;subst l hw m;obtain⟨xs,j,hx⟩:=n;obtain⟨its,rv,p,D⟩:=I.list j;obtain⟨f0,f1,G,r,t,y⟩:=g it (by simp);have hl:=rv.length;exact wpAny_pyNext_list_end (I.ok.hd hc) st p.isList (by simp;omega) λh' N=>⟨rfl,I.turned (t':=s.toks) (λb o hb e=>N b o hb e) f0 f1 r t y⟩
 self:=λ_ _ _ _ _ st h=>wpAny_pyIter_listiter st h
def Vt {P:kd}{w:kc}{K:AAD}{C:kf}(a it:kj):LG P w K C (qz K a) [it] it (λi h=>h.IsTupleIter it a i) where
 mem:=by simp
 obj:=λi h st b hb=>by
  have e:b=it:=by simpa using hb
  subst e;obtain⟨o,e,c,d⟩:=st;exact⟨o,e,λv z=>by rw[d] at z;cases z⟩
 keep:=λi h h' st k=>st.at λo e=>k it (by simp) o e
 item:=by intro X l hw m hc i A s B H E I g st n;subst l hw m;obtain⟨xs,x,j,hx⟩:=n;obtain⟨its,rv,p,D⟩:=I.tuple j;obtain⟨u,hu,F⟩:=rv.get hx;obtain⟨f0,f1,G,r,t,y⟩:=g it (by simp);refine wpAny_pyNext_tuple_item st (show s.heap.IsTuple a its.toArray from p) (x:=u) (by simpa using hu) λh' f J=> ?_;have L:Inv X A B H {s with heap:=h'}:=I.turned (t':=s.toks) (λb o hb e=>(J.2 b hb).trans e) f0 f1 r t y;obtain⟨o,e,c,d⟩:=id f;exact⟨u,rfl,WU (s:={s with heap:=h'}) e c d (by decide) ⟨x,H,L,F,⟨rfl,λO M=>by rw[I.tuple_inj M j];exact hx⟩,f,λb hb=>(g b hb).1⟩⟩
 done:=by intro X l hw m hc i A s B H E I g st n;subst l hw m;obtain⟨xs,j,hx⟩:=n;obtain⟨its,rv,p,D⟩:=I.tuple j;obtain⟨f0,f1,G,r,t,y⟩:=g it (by simp);have hl:=rv.length;exact wpAny_pyNext_tuple_end (I.ok.hd hc) st (show s.heap.IsTuple a its.toArray from p) (by simp;omega) λh' N=>⟨rfl,I.turned (t':=s.toks) (λb o hb e=>N b o hb e) f0 f1 r t y⟩
 self:=λ_ _ _ _ _ st h=>wpAny_pyIter_tupleiter st h
def Vs {P:kd}{w:kc}{K:AAD}{x:kf}(it:kj)(lo:Int)(n:Nat):LG P w K x (mC lo n) [it] it (λi h=>IsRangeIter h it (lo+(i:Nat)*1) ((n:Int)-(i:Nat)) 1) where
 mem:=by simp
 obj:=λi h st b hb=>by
  have e:b=it:=by simpa using hb
  subst e;exact⟨_,st,λv z=>by
   have y:Data.fields _=Data.cell v:=z;cases y⟩
 keep:=λi h h' st k=>k it (by simp) _ st
 item:=by intro X d hw f hc i p s r H E I c st g;subst d hw f;obtain⟨f0,f1,A,j,l,m⟩:=c it (by simp);have W:=Walks.range (prog:=X.prog) (w:=X.w) (I.ok.hd hc) it lo 1 n;refine W.item i s _ _ g st λv h' u hv a B=> ?_;obtain⟨t,rfl⟩:=hv;have C:Inv X p r H {s with heap:=h',toks:=u}:=I.turned (λb o hb e=>B b o (by simpa using hb) e) f0 f1 j l m;refine⟨_,rfl,WU (s:={s with heap:=h',toks:=u}) (n:="range_iterator") a rfl rfl (by decide) ⟨.int (lo+i),H,C,⟨t, ?_⟩,⟨rfl,rfl⟩,a,λb hb=>(c b hb).1⟩⟩;rw[ABt]
 done:=by intro X d hw f hc i p s r H E I c st g;subst d hw f;obtain⟨f0,f1,A,j,l,m⟩:=c it (by simp);exact wpAny_pyNext_range_end (I.ok.hd hc) st (by have:n<=i:=g;omega) λh' D=>⟨rfl,I.turned (t':=s.toks) (λb o hb e=>D b o hb e) f0 f1 j l m⟩
 self:=λ_ _ _ _ _ st h=>wpAny_pyIter_rangeiter st h
section
variable {X:Cx}{tg:kf}
def Tf {a:kn (kj×Obj)}{c:St}{H:Hp}{s:kl}{R:It->Hp->Prop}{E:km->kl->Prop}{lo hi:Int}{t u v:Tok}{d:Nat}(I:Inv X a c H s)(h1: -(2^62)<=lo)(h2:lo<2^62)(h3: -(2^62)<=hi)(g:hi<2^62)(q:R (mC lo (hi-lo).toNat) H):wpAny (model X.prog X.w) X.A (pyIter (.ref s.heap.objs.size)) (vQ X a c tg R) E {s with heap:=s.heap.push {cls:= .type "range",data:= .fields #[.int lo t, .int hi u, .int 1 v] },toks:=d}:=by
 refine wpAny_pyIter_range (IsRange.new ..) (small_one h1 h2 h3 g) ?_;have f:Inv X a c H {s with heap:=s.heap.push {cls:= .type "range",data:= .fields #[.int lo t, .int hi u, .int 1 v] },toks:=d}:=I.kept λb o e=>AAI _ e;refine⟨(s.heap.push {cls:= .type "range",data:= .fields #[.int lo t, .int hi u, .int 1 v] }).objs.size, [(s.heap.push {cls:= .type "range",data:= .fields #[.int lo t, .int hi u, .int 1 v] }).objs.size],_,_,H,rfl,
  f.kept (t':=d) λb o e=>AAI _ e,Vs _ lo (hi-lo).toNat, ?_,λb hb=> ?_,q⟩
 .have h:lo+((0:Nat):Int)*1=lo:=by simp
  have i:(((hi-lo).toNat:Nat):Int)-((0:Nat):Int)=Builtin.Range.rangeSize lo hi 1:=by rw[rangeSize_one];split <;> omega
  show IsRangeIter _ _ (lo+((0:Nat):Int)*1) ((((hi-lo).toNat:Nat):Int)-((0:Nat):Int)) 1;rw[h,i];exact AAR _ rfl
 .have e:b=(s.heap.push {cls:= .type "range",data:= .fields #[.int lo t, .int hi u, .int 1 v] }).objs.size:=by simpa using hb
  subst e;exact f.fpOk (AAL _) (f.hok.fresh (AAL _))
def nJ (a:TA):TI:=λb H R=>a b H λvs H1=>∃j:Int,vs= [.int j] /\ -(2^62)<=j/\j<2^62/\R (mC 0 j.toNat) H1
def nK (a:TA):TI:=λb H R=>a b H λvs H1=>∃i j:Int,vs= [.int i, .int j] /\(-(2^62)<=i/\i<2^62/\ -(2^62)<=j/\j<2^62)/\R (mC i (j-i).toNat) H1
def YX {a:kf}{c:TA}{p pos:Pos}(d:Gl X "range")(f:X.mg "range" =none)(ha:PA X [a] c)(hs:starEach [a] X.env= [(false,eval a X.env)] :=by rfl):PI X tg (.Call (.Name "range" p) [a] [] pos) (nJ c):=by
 intro g s i H R I h;refine Call_ (FE I d f boot_range (ABu (BO (ha pos g s i H _ I h) λo u ⟨vs,H1,k,l,b⟩=> ?_) hs rfl));obtain⟨j,e,b,m,q⟩:=b;subst e;cases l with
 | cons r n=> cases n;obtain⟨t,rfl⟩:=r;exact call_range_1 (Tf k (by omega) (by omega) b m (by simpa using q))
def YY {a b:kf}{f:TA}{p pos:Pos}(k:Gl X "range")(l:X.mg "range" =none)(ha:PA X [a,b] f)(hs:starEach [a,b] X.env= [(false,eval a X.env),(false,eval b X.env)] :=by rfl)(g:starEach [b] X.env= [(false,eval b X.env)] :=by rfl):PI X tg (.Call (.Name "range" p) [a,b] [] pos) (nK f):=by
 intro m s n H R I h;refine Call_ (FE I k l boot_range (ABu (BO (ha pos m s n H _ I h) λz A ⟨vs,H1,o,u,c⟩=> ?_) (by rw[hs,g]) (by rw[g];rfl)));obtain⟨i,j,e,⟨c,v,w,x⟩,q⟩:=c;subst e;cases u with
 | cons r d=>
   cases d with
   | cons y d=> cases d;obtain⟨t,rfl⟩:=r;obtain⟨t',rfl⟩:=y;exact call_range_2 (Tf o c v w x q)
def pH (e:TI)(g:TG)(f:TS):TS:=λD a H=>e a H λJ H1=>∃W:Nat->Nat->St->Hp->Prop,(∃m,W 0 m a H1)/\∀i m a H,W i m a H->
 (J.stop i H/\D.nx a H)\/(J.go i H/\∃N:St->Hp->Prop,(∀σ' b,N σ' b->∃d,d<m/\W (i+1) d σ' b)/\∀x b,J.yld i H x b->g x a b λc h=>f {D with nx:=N,ct:=N,bk:=D.nx} c h)
def J2 (a:kn kj)(h:gn):kn (kj×Obj):=a.filterMap λb=>(h.get? b).map λo=>(b,o)
def Dj {a:kn kj}{h:gn}{b:kj}{o:Obj}(hb:b∈a)(e:h.get? b=some o):(b,o)∈J2 a h:=List.mem_filterMap.mpr ⟨b,hb,by rw[e];rfl⟩
def YN {a:kn kj}{h:gn}{p:kj×Obj}(hp:p∈J2 a h):p.1∈a/\h.get? p.1=some p.2:=by
 obtain⟨b,hb,e⟩:=List.mem_filterMap.mp hp;cases q:h.get? b with
 | none=>rw[q] at e;cases e
 | some o=> rw[q] at e;have c:(b,o)=p:=AAb e;subst c;exact⟨hb,q⟩
def Inv.pinned {a:kn (kj×Obj)}{f:St}{H:Hp}{s:kl}{c:kn kj}(I:Inv X a f H s)(h:∀b∈c,Fk X a H b)(i:∀b∈c,∃o,s.heap.get? b=some o/\∀v,o.data≠ .cell v):Inv X (a++J2 c s.heap) f H s:=
 I.pins_of λp hp=>(AAQ.mp hp).elim (λz=>I.pin p (AAq _ z)) λz=>by obtain⟨hb,e⟩:=YN z;obtain⟨f0,f1,j,_⟩:=h p.1 hb;obtain⟨o,g,d⟩:=i p.1 hb;rw[e] at g;cases g;exact⟨e,f0,f1,j,d⟩
def Inv.unpinned {a c:kn (kj×Obj)}{b:St}{H:Hp}{s:kl}(I:Inv X (a++c) b H s):Inv X a b H s:=I.pins_of λp hp=>I.pin p (AAq _ (List.mem_append_left _ hp))
def bA {iter:kf}{body:kn Stmt}{R:TI}{g:TG}{S:TS}{pos:Pos}(hp:PassesOwn (model X.prog X.w) X.A X.env X.xe)(hc:X.calm=true)(hi:PI X tg iter R)(hg:PG X tg g)(hb:R9 X body S)(hs:∀x,foldedSetIterable iter X.env x=pure x:=by intro _;rfl):PS X (.For tg iter body [] pos) (pH R g S):=by
 intro y s U H D I h;refine wpAny_For (BO (hi y s U H _ I h) λv s1 h1=>BO h1 λitv s2 h2=> ?_) hs;obtain⟨it,B,tn,J,H2,e,I2,T,K,Y,W,⟨m0,w0⟩,turn⟩:=h2;subst e;have c:∀{p:Hp},(∀b∈B,p b=none)->∀b∈B,Fk X y p b:=λhn b hb=>⟨hn b hb,(Y b hb).2⟩;refine codeAny_forLoop_any (λn Z=>∃i σ' p,Inv X y σ' p Z/\tn i Z.heap/\(∀b∈B,p b=none)/\W i n σ' p) ?_ m0 ⟨0,U,H2,I2,K,λb hb=>(Y b hb).1,w0⟩;rintro n s3 ⟨i,j,G,I3,C,E,w3⟩;rcases turn i n j G w3 with⟨stop,qn⟩|⟨go,N,hN,step⟩
 .refine ABs hp (BO (T.done X rfl rfl rfl hc i y s3 j G X.xe I3 (c E) C stop) λr s4 ⟨L,I4⟩=> ?_);subst L;exact ACx ⟨j,G,I4,qn⟩
 .refine ABs hp (BO (T.item X rfl rfl rfl hc i y s3 j G X.xe I3 (c E) C go) λr s4 ⟨u,L,h4⟩=> ?_);subst L;refine ABs hp (BO h4 λ_ s5 ⟨x,H5,I5,r5,y5,z,M⟩=> ?_);have O:=I5.pinned (c M) (T.obj _ _ z);refine ABs hp (BO (hg _ s5 j H5 x u _ O r5 (step x H5 y5)) λ_ s6 ⟨P,H6,I6,q6⟩=> ?_);refine ABs hp (BO (hb _ s6 P H6 _ I6 q6) λf Q t=> ?_);have again:∀{a:St} {k:Hp},Inv X (y++J2 B s5.heap) a k Q->N a k->∃m,m<n/\∃i σ' p,Inv X y σ' p Q/\tn i Q.heap/\(∀b∈B,p b=none)/\W i m σ' p:=λ{a k} l F=>by obtain⟨m',hm,w7⟩:=hN a k F;refine⟨m',hm,i+1,a,k,l.unpinned,T.keep _ _ _ z λb hb o e=>(l.pin (b,o) (AAq _ (AAq _ (Dj hb e)))).1,λb hb=> ?_,w7⟩;obtain⟨o,e,d⟩:=T.obj _ _ z b hb;exact(l.pin (b,o) (AAq _ (AAq _ (Dj hb e)))).2.1
  cases f with
  | next=>obtain⟨a,k,l,F⟩:=t;exact again l F
  | cont=>obtain⟨a,k,l,F⟩:=t;exact again l F
  | brk=>obtain⟨a,k,l,t⟩:=t;exact⟨a,k,l.unpinned,t⟩
  | ret v=>obtain⟨x7,a,k,l,r7,t⟩:=t;exact⟨x7,a,k,l.unpinned,r7,t⟩
end
abbrev R2:=V->V->Hp->VK->Prop
def DY (X:Cx)(f:km->km->Sem km)(r:R2):Prop:=
 ∀(a:kn (kj×Obj)) (s:kl) (b:St) (H:Hp) (x y:V) (v u:km) (Q:VK),Inv X a b H s->RelV x v->RelV y u->r x y H Q->
  wpAny (model X.prog X.w) X.A (f v u) (EP X a b Q) X.xe s
def rH (X:Cx)(f:km->Sem km)(r:V->Hp->VK->Prop):Prop:=
 ∀(a:kn (kj×Obj)) (s:kl) (b:St) (H:Hp) (x:V) (v:km) (Q:VK),Inv X a b H s->RelV x v->r x H Q->
  wpAny (model X.prog X.w) X.A (f v) (EP X a b Q) X.xe s
def Bu (X:Cx)(f:km)(r:kn V->Hp->VK->Prop):Prop:=
 ∀(a:kn (kj×Obj)) (s:kl) (b:St) (H:Hp) (xs:kn V) (c:kn km) (Q:VK),Inv X a b H s->Ap xs c->r xs H Q->
  wpAny (model X.prog X.w) X.A (call f c) (EP X a b Q) X.xe s
def fw (r:R2)(b c:TE):TE:=λa H Q=>b a H λx H1=>c a H1 λy d=>r x y d Q
def zV (r:V->Hp->VK->Prop)(a:TE):TE:=λb H Q=>a b H λx H1=>r x H1 Q
def rI (C:Int->Int->Prop)(g:Int->Int->V):R2:=λx y H Q=>∃i j,x= .int i/\y= .int j/\C i j/\Q (g i j) H
def RM (g:Int->Int->V):R2:=λx y H Q=>∃i j,x= .int i/\y= .int j/\Q (g i j) H
def rU (g:Int->V):V->Hp->VK->Prop:=λx H Q=>∃i,x= .int i/\Q (g i) H
section
variable {X:Cx}{a b c:kf}{ta tb tc:TE}{pos:Pos}
def iN (ha:PE X a ta)(hb:PE X b tb){j:kn (kj×Obj)}{s:kl}{d:St}{H:Hp}{R:V->V->Hp->Prop}(I:Inv X j d H s)(h:ta d H λx H1=>tb d H1 λy e=>R x y e){Q:km->kl->Prop}{f:km->km->Sem km}(l:∀v u k x y e,Inv X j d e k->RelV x v->RelV y u->R x y e->wpAny (model X.prog X.w) X.A (f v u) Q X.xe k):wpAny (model X.prog X.w) X.A (eval a X.env) (λv g=>wpAny (model X.prog X.w) X.A (eval b X.env) (λu i=>wpAny (model X.prog X.w) X.A (f v u) Q X.xe i) X.xe g) X.xe s:=by refine BO (ha j s d H _ I h) λv m ⟨x,H1,n,o,p⟩=> ?_;refine BO (hb j m d H1 _ n p) λu k ⟨y,e,r,t,z⟩=> ?_;exact l v u k x y e r o t z
def Bo {op:Operator}{r:R2}(d:DY X (binaryOp op) r)(ha:PE X a ta)(hb:PE X b tb):PE X (.BinOp a op b pos) (fw r ta tb):=by intro e s f H Q I h;exact wpAny_BinOp (iN ha hb I h λv u g x y i j k l q=>d e g f i x y v u Q j k l q)
def oB {op:UnaryOp}{r:V->Hp->VK->Prop}(f:rH X (unaryOp op) r)(ha:PE X a ta):PE X (.UnaryOp op a pos) (zV r ta):=by intro d s e H Q I h;exact UnaryOp_ (BO (ha d s e H _ I h) λv g ⟨x,H1,i,j,k⟩=>f d g e H1 x v Q i j k)
def jY {f:km->km->Sem km}{C:Int->Int->Prop}{g:Int->Int->Int}(rule:∀(i j:Int) (t u:Tok) (s:kl) (Q:km->kl->Prop) (E:km->kl->Prop),C i j->Q (.int (g i j) s.toks) {s with toks:=s.toks+1}->wpAny (model X.prog X.w) X.A (f (.int i t) (.int j u)) Q E s):DY X f (rI C λi j=> .int (g i j)):=by intro k s l H x y v u Q I d e h;obtain⟨i,j,rfl,rfl,hc,q⟩:=h;obtain⟨t,rfl⟩:=d;obtain⟨t',rfl⟩:=e;exact rule i j t t' s _ _ hc ⟨.int (g i j),H,I.tok _,⟨_,rfl⟩,q⟩
def ng {f:km->km->Sem km}{g:Int->Int->Int}(rule:∀(i j:Int) (t u:Tok) (s:kl) (Q:km->kl->Prop) (E:km->kl->Prop),Q (.int (g i j) s.toks) {s with toks:=s.toks+1}->wpAny (model X.prog X.w) X.A (f (.int i t) (.int j u)) Q E s):DY X f (RM λi j=> .int (g i j)):=by intro k s l H x y v u Q I d e h;obtain⟨i,j,rfl,rfl,q⟩:=h;obtain⟨t,rfl⟩:=d;obtain⟨t',rfl⟩:=e;exact rule i j t t' s _ _ ⟨.int (g i j),H,I.tok _,⟨_,rfl⟩,q⟩
def d5 {f:km->km->Sem km}{g:Int->Int->ke}(rule:∀(i j:Int) (t u:Tok) (s:kl) (Q:km->kl->Prop) (E:km->kl->Prop),Q (.bool (g i j)) s->wpAny (model X.prog X.w) X.A (f (.int i t) (.int j u)) Q E s):DY X f (RM λi j=> .bl (g i j)):=by intro k s l H x y v u Q I d e h;obtain⟨i,j,rfl,rfl,q⟩:=h;obtain⟨t,rfl⟩:=d;obtain⟨t',rfl⟩:=e;exact rule i j t t' s _ _ ⟨.bl (g i j),H,I,rfl,q⟩
def qq (i j:Int):Prop:=0<=j/\j<=1000000/\i.natAbs<2^64
def GN (i j:Int):Prop:=(-(2^64)<i/\i<2^64)\/(-(2^64)<j/\j<2^64)
def GN.ok {i j:Int}(h:GN i j):IntMulOk i j:=by
 rcases h with⟨h1,h2⟩|⟨h1,h2⟩
 .exact .of_left (intBits_le_64 h1 h2)
 .exact .of_right (intBits_le_64 h1 h2)
def Hy:DY X (binaryOp .Add) (RM λi j=> .int (i+j)):=ng λ_ _ _ _ _ _ _ q=>add_int q
def jf:DY X (binaryOp .Sub) (RM λi j=> .int (i-j)):=ng λ_ _ _ _ _ _ _ q=>sub_int q
def Fu:DY X (binaryOp .Mod) (rI (λ_ j=>0<j) λi j=> .int (i % j)):=jY λi j _ _ _ _ _ hc q=>by have h1:(0:Int)<j:=hc;exact mod_int' (by omega) (by rw[ADW i (by omega)];exact q)
def d7:DY X (binaryOp .Mod) (rI (λ_ j=>j≠0) λi j=> .int (i.fmod j)):=jY λ_ _ _ _ _ _ _ hc q=>mod_int' hc q
def je:DY X (binaryOp .Pow) (rI qq λi j=> .int (i^j.toNat)):=jY λ_ _ _ _ _ _ _ hc q=>pow_int_small hc.1 hc.2.1 hc.2.2 q
def zW {f:km->Sem km}{g:Int->Int}(rule:∀(i:Int) (t:Tok) (s:kl) (Q:km->kl->Prop) (E:km->kl->Prop),Q (.int (g i) s.toks) {s with toks:=s.toks+1}->wpAny (model X.prog X.w) X.A (f (.int i t)) Q E s):rH X f (rU λi=> .int (g i)):=by intro e s j H x v Q I d h;obtain⟨i,rfl,q⟩:=h;obtain⟨t,rfl⟩:=d;exact rule i t s _ _ ⟨.int (g i),H,I.tok _,⟨_,rfl⟩,q⟩
def lD:rH X (unaryOp .USub) (rU λi=> .int (-i)):=zW λ_ _ _ _ _ q=>neg_int q
end
def kJ:V->V->ke
 | .non, .non=>true | .non, .int _=>true | .int _, .non=>true | .non, .bl _=>true | .bl _, .non=>true | .non, .str _=>true | .str _, .non=>true
 | .int _, .int _=>true | .bl _, .bl _=>true | .str _, .str _=>true | .byt _, .byt _=>true
 | .int _, .str _=>true | .str _, .int _=>true | .bl _, .str _=>true | .str _, .bl _=>true
 | _,_=>false
def wE:R2:=λx y H Q=>kJ x y=true/\Q (.bl (decide (x=y))) H
def wF:R2:=λx y H Q=>kJ x y=true/\Q (.bl (!decide (x=y))) H
def WJ {i j:Int}:decide (V.int i=V.int j)=(i==j):=by rw[ABe];simp
def Zb {i j:ke}:decide (V.bl i=V.bl j)=(i==j):=by rw[ABe];simp
def WK {i j:Str}:decide (V.str i=V.str j)=(i==j):=by rw[ABe];simp
def WI {i j:Array UInt8}:decide (V.byt i=V.byt j)=(i.toList==j.toList):=by rw[ABe];cases i;cases j;simp
section
variable {X:Cx}{a b c:kf}{ta tb tc:TE}{pos:Pos}
def A8 {d:kn (kj×Obj)}{f:St}{H:Hp}{s:kl}{Q:VK}{k g:ke}(I:Inv X d f H s)(q:Q (.bl k) H)(e:k=g):EP X d f Q (.bool g) s:=by subst e;exact⟨.bl k,H,I,rfl,q⟩
def nh:DY X (compareOp .Eq) wE:=by
 intro f s g H x y v u Q I e d h;obtain⟨hs,q⟩:=h;cases x with
 | non=>
   cases e;cases y with
   | non=>cases d;exact PySem.EqNone.eq_none_none (A8 I q (by simp))
   | bl j=>cases d;exact PySem.EqNone.eq_none_bool (A8 I q (by simp))
   | int j=>obtain⟨t',rfl⟩:=d;exact PySem.EqNone.eq_none_int (A8 I q (by simp))
   | str j=>obtain⟨t',rfl⟩:=d;exact PySem.EqNone.eq_none_str (A8 I q (by simp))
   | _=>exact absurd (show false=true from hs) AAU
 | bl i=>
   cases e;cases y with
   | non=>cases d;exact PySem.EqNone.eq_bool_none (A8 I q (by simp))
   | bl j=>cases d;exact eq_bool (A8 I q Zb)
   | str j=>obtain⟨t',rfl⟩:=d;exact PySem.EqMixed.eq_bool_str (A8 I q (by simp))
   | _=>exact absurd (show false=true from hs) AAU
 | int i=>
   obtain⟨t,rfl⟩:=e;cases y with
   | non=>cases d;exact PySem.EqNone.eq_int_none (A8 I q (by simp))
   | int j=>obtain⟨t',rfl⟩:=d;exact eq_int (A8 I q WJ)
   | str j=>obtain⟨t',rfl⟩:=d;exact PySem.EqMixed.eq_int_str (A8 I q (by simp))
   | _=>exact absurd (show false=true from hs) AAU
 | str i=>
   obtain⟨t,rfl⟩:=e;cases y with
   | non=>cases d;exact PySem.EqNone.eq_str_none (A8 I q (by simp))
   | bl j=>cases d;exact PySem.EqMixed.eq_str_bool (A8 I q (by simp))
   | int j=>obtain⟨t',rfl⟩:=d;exact PySem.EqMixed.eq_str_int (A8 I q (by simp))
   | str j=>obtain⟨t',rfl⟩:=d;exact eq_str (A8 I q WK)
   | _=>exact absurd (show false=true from hs) AAU
 | byt i=>
   obtain⟨t,rfl⟩:=e;cases y with
   | byt j=>obtain⟨t',rfl⟩:=d;exact PySem.W.eq_bytes (A8 I q WI)
   | _=>exact absurd (show false=true from hs) AAU
 | _=>cases y <;> exact absurd (show false=true from hs) AAU
def nk:DY X (compareOp .NotEq) wF:=by
 intro f s g H x y v u Q I e d h;obtain⟨hs,q⟩:=h;cases x with
 | non=>
   cases e;cases y with
   | non=>cases d;exact PySem.EqNone.ne_none_none (A8 I q (by simp))
   | bl j=>cases d;exact PySem.EqNone.ne_none_bool (A8 I q (by simp))
   | int j=>obtain⟨t',rfl⟩:=d;exact PySem.EqNone.ne_none_int (A8 I q (by simp))
   | str j=>obtain⟨t',rfl⟩:=d;exact PySem.EqNone.ne_none_str (A8 I q (by simp))
   | _=>exact absurd (show false=true from hs) AAU
 | bl i=>
   cases e;cases y with
   | non=>cases d;exact PySem.EqNone.ne_bool_none (A8 I q (by simp))
   | bl j=>cases d;exact ne_bool (A8 I q (congrArg not Zb))
   | str j=>obtain⟨t',rfl⟩:=d;exact PySem.EqMixed.ne_bool_str (A8 I q (by simp))
   | _=>exact absurd (show false=true from hs) AAU
 | int i=>
   obtain⟨t,rfl⟩:=e;cases y with
   | non=>cases d;exact PySem.EqNone.ne_int_none (A8 I q (by simp))
   | int j=>obtain⟨t',rfl⟩:=d;exact ne_int (A8 I q (congrArg not WJ))
   | str j=>obtain⟨t',rfl⟩:=d;exact PySem.EqMixed.ne_int_str (A8 I q (by simp))
   | _=>exact absurd (show false=true from hs) AAU
 | str i=>
   obtain⟨t,rfl⟩:=e;cases y with
   | non=>cases d;exact PySem.EqNone.ne_str_none (A8 I q (by simp))
   | bl j=>cases d;exact PySem.EqMixed.ne_str_bool (A8 I q (by simp))
   | int j=>obtain⟨t',rfl⟩:=d;exact PySem.EqMixed.ne_str_int (A8 I q (by simp))
   | str j=>obtain⟨t',rfl⟩:=d;exact ne_str (A8 I q (congrArg not WK))
   | _=>exact absurd (show false=true from hs) AAU
 | byt i=>
   obtain⟨t,rfl⟩:=e;cases y with
   | byt j=>obtain⟨t',rfl⟩:=d;exact PySem.W.ne_bytes (A8 I q (congrArg not WI))
   | _=>exact absurd (show false=true from hs) AAU
 | _=>cases y <;> exact absurd (show false=true from hs) AAU
def gX:DY X (compareOp .Lt) (RM λi j=> .bl (decide (i<j))):=d5 λ_ _ _ _ _ _ _ q=>lt_int q
def nj:DY X (compareOp .LtE) (RM λi j=> .bl (decide (i<=j))):=d5 λ_ _ _ _ _ _ _ q=>le_int q
def gW:DY X (compareOp .Gt) (RM λi j=> .bl (decide (j<i))):=d5 λ_ _ _ _ _ _ _ q=>gt_int q
def ni:DY X (compareOp .GtE) (RM λi j=> .bl (decide (j<=i))):=d5 λ_ _ _ _ _ _ _ q=>ge_int q
def jb:DY X (compareOp .Is) (λx y H Q=>y= .non/\Q (.bl (decide (x= .non))) H):=by
 intro f s g H x y v u Q I d e h;obtain⟨rfl,q⟩:=h;cases e;refine is_none_gen (A8 I q ?_);cases x <;> first
  | (cases d;rfl)
  | (obtain⟨t,rfl⟩:=d;rfl)
def d9:DY X (compareOp .IsNot) (λx y H Q=>y= .non/\Q (.bl (!decide (x= .non))) H):=by
 intro f s g H x y v u Q I d e h;obtain⟨rfl,q⟩:=h;cases e;refine isnot_none_gen (A8 I q ?_);cases x <;> first
  | (cases d;rfl)
  | (obtain⟨t,rfl⟩:=d;rfl)
def DY.or {f:km->km->Sem km}{r d:R2}(h:DY X f r)(h':DY X f d):DY X f (λx y H Q=>r x y H Q\/d x y H Q):=by
 intro e s g H x y v u Q I i j q;rcases q with q|q
 .exact h e s g H x y v u Q I i j q
 .exact h' e s g H x y v u Q I i j q
def BU (b:kf){op:CmpOp}(h:op≠ .In:=by decide)(h2:op≠ .NotIn:=by decide):behindInMarks op b=false:=by
 have d:(op==CmpOp.In)=false:=by cases op <;> first | rfl|exact absurd rfl h
 have e:(op==CmpOp.NotIn)=false:=by cases op <;> first | rfl|exact absurd rfl h2
 cases b <;> simp[behindInMarks,d,e]
def RD {op:CmpOp}{r:R2}(d:DY X (compareOp op) r)(ha:PE X a ta)(hb:PE X b tb)(e:behindInMarks op b=false):PE X (.Compare a [op] [b] pos) (fw r ta tb):=by intro f s g H Q I h;exact wpAny_Compare1 (iN ha hb I h λv u i x y j k l m q=>d f i g j x y v u Q k l m q) e
def gw (t:TE):TT:=λd H Q=>t d H λx e=>∃k,x= .bl k/\Q k e
def RK {op:CmpOp}{r:R2}(g:DY X (compareOp op) r)(ha:PE X a ta)(hb:PE X b tb)(i:behindInMarks op b=false):PT X (.Compare a [op] [b] pos) (gw (fw r ta tb)):=by
 intro d s f H Q I h;refine wpAny_isTrue_Compare1 (BO (ha d s f H _ I h) λv j ⟨x,H1,l,m,n⟩=>BO (hb d j f H1 _ l n) λu o ⟨y,p,t,w,A⟩=>
  BO (g d o f p x y v u _ t m w A) λc F ⟨z,B,C,D,k,e,E⟩=> ?_) i
 subst e;cases D;exact ABq ⟨B,C,E⟩
def b6 (r f:R2)(ta tb tc:TE):TE:=λd H Q=>ta d H λx H1=>tb d H1 λy g=>r x y g λz e=>∃k,z= .bl k/\
 (if k=true then tc d e λh i=>f y h i Q else Q (.bl false) e)
def af {op f:CmpOp}{r j:R2}(p:DY X (compareOp op) r)(t:DY X (compareOp f) j)(ha:PE X a ta)(hb:PE X b tb)(hc:PE X c tc)(w:lastMarks [op,f] [b,c] =false:=by with_unfolding_all rfl):PE X (.Compare a [op,f] [b,c] pos) (b6 r j ta tb tc):=by
 intro g s i H Q I h;refine Compare_chain (BO (ha g s i H _ I h) λv A ⟨x,H1,B,C,D⟩=>chain_link (BO (hb g A i H1 _ B D) λu E ⟨y,F,G,l,J⟩=>
  BO (p g E i F x y v u _ G C l J) λd K ⟨z,m,n,L,k,e,o⟩=> ?_)) w
 subst e;cases L;refine ABq ?_;cases k with
 | false=>exact ite_ff ⟨.bl false,m,n,rfl,o⟩
 | true=>exact ite_tt (chain_last (BO (hc g K i m _ n o) λM N ⟨O,P,R,S,T⟩=>t g N i P y O u M Q R l S T))
def M8:(sizeLine:Nat)<2^63:=by rw[ACU];decide
def vals1 {x:V}{d:kn km}(r:Ap [x] d):∃u,d= [u] /\RelV x u:=by
 cases r with
 | cons e f=>cases f;exact⟨_,rfl,e⟩
def vals2 {x y:V}{d:kn km}(r:Ap [x,y] d):∃u e,d= [u,e] /\RelV x u/\RelV y e:=by
 cases r with
 | cons f g=>
   cases g with
   | cons h i=>cases i;exact⟨_,_,rfl,f,h⟩
def Mi:Bu X (.builtin "abs") (λxs H Q=>∃i,xs= [.int i] /\Q (.int (if i<0 then -i else i)) H):=by intro d s e H xs f Q I r h;obtain⟨i,rfl,q⟩:=h;obtain⟨u,rfl,t,rfl⟩:=vals1 r;exact call_abs_int λu g=>⟨.int (if i<0 then -i else i),H,I.tok _,⟨_,rfl⟩,q⟩
def Xn (hc:X.calm=true):Bu X (.builtin "max") (λxs H Q=>∃i j,xs= [.int i, .int j] /\Q (.int (if j>i then j else i)) H):=by
 intro d s e H xs f Q I r h;obtain⟨i,j,rfl,q⟩:=h;obtain⟨u,g,rfl,⟨t,rfl⟩,⟨t',rfl⟩⟩:=vals2 r;refine max_two_ints (I.ok.hd hc) λh' l k=>⟨_,H,I.kept k, ?_,q⟩;by_cases hj:j>i
 .rw [AAG hj,AAG hj];exact⟨_,rfl⟩
 .rw [AAF hj,AAF hj];exact⟨_,rfl⟩
def Xo (hc:X.calm=true):Bu X (.builtin "min") (λxs H Q=>∃i j,xs= [.int i, .int j] /\Q (.int (if j<i then j else i)) H):=by
 intro d s e H xs f Q I r h;obtain⟨i,j,rfl,q⟩:=h;obtain⟨u,g,rfl,⟨t,rfl⟩,⟨t',rfl⟩⟩:=vals2 r;refine min_two_ints (I.ok.hd hc) λh' l k=>⟨_,H,I.kept k, ?_,q⟩;by_cases hj:j<i
 .rw [AAG hj,AAG hj];exact⟨_,rfl⟩
 .rw [AAF hj,AAF hj];exact⟨_,rfl⟩
def O8:Bu X (.type "int") (λxs H Q=>(∃i,xs= [.int i] /\Q (.int i) H)\/∃k,xs= [.bl k] /\Q (.int (if k then 1 else 0)) H):=by
 intro e s f H xs g Q I r h;rcases h with⟨i,rfl,q⟩|⟨k,rfl,q⟩
 .obtain ⟨u,rfl,t,rfl⟩:=vals1 r;exact call_int_int ⟨.int i,H,I,⟨_,rfl⟩,q⟩
 .obtain ⟨u,rfl,d⟩:=vals1 r;cases d;exact call_int_bool ⟨.int (if k then 1 else 0),H,I.tok _,⟨_,rfl⟩,q⟩
end
structure yG (h:Heap) (x dx C:Addr) (mA:Str->Option Value):Prop where
 obj:h.get? x=some (PySem.W.instObj C dx)
 ns:h.Ns1 dx mA
 ne:dx≠x
def LF.some_of {v:V}{o:ki km}(r:LF (some v) o):∃u,o=some u/\RelV v u:=by
 cases o with
 | none=>exact(show False from r).elim
 | some u=>exact⟨u,rfl,r⟩
structure xU (K:AAD) (C:Addr):Prop where
 pg:PySem.W.plainGet K C Str.empty=true
 hd:PySem.W.hasDictIn K C=true
 po:PySem.W.plainOver K C=true
 sa:PySem.W.findIn K (.ref C) "__setattr__" =some (some (.builtin "object.__setattr__"))
structure Con (K:AAD) (C:Addr) (f:Str) (v:V) (u:Value):Prop where
 at_:PySem.W.findIn K (.ref C) f=some (some u)
 rel:RelV v u
 get:PySem.W.specialIn K u "__get__" =some none
 cp:PySem.W.copiedNames.contains f=false
structure yE (K:AAD) (C:Addr) (m:Str) (f:Addr):Prop where
 at_:PySem.W.findIn K (.ref C) m=some (some (.ref f))
 fn:PySem.W.isFn K (.ref f)=true
 kp:PySem.W.keepIn K (.ref f)=true
section
variable {X:Cx}{Wf:kn (kj×Obj)}{σ:St}{H:Hp}{s:kl}{a C dx:kj}{fs:kn (Str×V)}{f:Str}{v:V}{A:fe}{E:km->kl->Prop}
def Inv.made (I:Inv X Wf σ H s):Inv X Wf σ (upd (upd H s.heap.objs.size (.own (s.heap.objs.size+1))) (s.heap.objs.size+1) (.ins C s.heap.objs.size [])) {s with heap:=(s.heap.push PySem.W.emptyDict).push (PySem.W.instObj C s.heap.objs.size)}:=by
 have c:(s.heap.push PySem.W.emptyDict).get? s.heap.objs.size=some PySem.W.emptyDict:=AAR s.heap rfl;have d:((s.heap.push PySem.W.emptyDict).push (PySem.W.instObj C s.heap.objs.size)).get? (s.heap.objs.size+1)=some (PySem.W.instObj C s.heap.objs.size):=by
  have:=AAR (s.heap.push PySem.W.emptyDict) (o:=PySem.W.instObj C s.heap.objs.size) rfl
  rwa [AA1] at this
 have g:(s.heap.push PySem.W.emptyDict).Ns s.heap.objs.size (λ_=>none):=⟨PySem.W.emptyDict, #[],_,c,rfl,(λe he=>absurd he (by simp)),λ_=>rfl⟩;have h:=I.laid (a:=s.heap.objs.size) (o:= .own (s.heap.objs.size+1)) (h':=s.heap.push PySem.W.emptyDict) (t':=s.toks) (λb u q=>AAI _ q) (AAL _) ⟨_,c⟩;refine h.laid (a:=s.heap.objs.size+1) (o:= .ins C s.heap.objs.size []) (t':=s.toks) (λb u q=>AAI _ q) (Nat.le_of_eq (AA1 _ _)) ?_;have ne:s.heap.objs.size≠s.heap.objs.size+1:=AAN (Nat.lt_succ_self _);refine⟨by rw[Ah ne,Af],ABI _,ne,d,λ_=>none,(Heap.Ns1.of_empty g).at λo q=>AAI _ q,λ_=>True.intro,λy i=>absurd rfl i⟩
end
section
variable {X:Cx}{Wf:kn (kj×Obj)}{σ:St}{H:Hp}{s:kl}{A:fe}{E:km->kl->Prop}{Q:km->kl->Prop}{c:km}{b:ke}
inductive Md (K:AAD) (H:Hp):V->Value->Prop where
 | non:Md K H .non (.type "NoneType")
 | bl (x:Bool):Md K H (.bl x) (.type "bool")
 | int (i:Int):Md K H (.int i) (.type "int")
 | str (x:Str):Md K H (.str x) (.type "str")
 | flt (x:UInt64):Md K H (.flt x) (.type "float")
 | lst {a:Addr} {xs:List V} (e:H a=some (.lst xs)):Md K H (.ref a) (.type "list")
 | frz {a:Addr} {o:Obj} {xs:List V} (e:H a=some (.frz o (.lst xs))):Md K H (.ref a) (.type "list")
 | tup {a:Addr} {xs:List V} (e:H a=some (.tup xs)):Md K H (.ref a) (.type "tuple")
 | dK {a:Addr} {kvs:List (Bx×V)} (e:H a=some (.dK kvs)):Md K H (.ref a) (.type "dict")
 | dT {a:Addr} {kvs:List (List Bx×V)} (e:H a=some (.dT kvs)):Md K H (.ref a) (.type "dict")
 | ins {a C dx:Addr} {fs:List (Str×V)} (e:H a=some (.ins C dx fs)) (cl:xU K C) (ha:PySem.W.findIn K (.ref C) "__class__" =some (some (.builtin "object.__class__")))
    (hn:PySem.W.specialIn K (.builtin "object.__class__") "__get__" =some (some (.builtin "getset_descriptor.__get__"))) (htk:PySem.W.takesIn K (.builtin "object.__class__")=some true)
    (hm:PySem.W.mroIn K C (.type "object")=some true):Md K H (.ref a) (.ref C)
end
structure Room (k:Nat) (A:Around):Prop where
 hd:A.handled=none
 dp:A.depth+3*k+5<recursionLimit
 un:A.units+16*k+200<cLine
 gd:A.guards=some []
def Room.mono {j k:Nat}{A:fe}(r:Room k A)(h:j<=k):Room j A:=⟨r.hd,by have:=r.dp;omega,by have:=r.un;omega,r.gd⟩
def Room.deeper {k:Nat}{A:fe}(r:Room (k+1) A)(env:Env):Room k (A.deeper env):=
 ⟨r.hd,by have:=r.dp;show A.depth+1+3*k+5<_;omega,by have:=r.un;show A.units+3+16*k+200<_;omega,r.gd⟩
def Room.in1 {k:Nat}{A:fe}(r:Room (k+1) A):Room k A.in1:=
 ⟨r.hd,by have:=r.dp;show A.depth+3*k+5<_;omega,by have:=r.un;show A.units+1+16*k+200<_;omega,r.gd⟩
def U2 {A:fe}{C:kj}{a:kn km}{b:kn (Str×km)}:(A.under (.builtin "type.__call__" ⟨.ref C::a,b⟩)).depth=A.depth+1:=by first | rfl|simp[Around.under,Code.weight,Code.isCreation,Code.isGuard,Code.isCaller,Code.frames,Code.isFrame,guardIds]
def U3 {A:fe}{C:kj}{a:kn km}{b:kn (Str×km)}:(A.under (.builtin "type.__call__" ⟨.ref C::a,b⟩)).units=A.units+1:=by first | rfl|simp[Around.under,Code.cUnits,Code.frames,Code.isFrame]
def Room.make {k:Nat}{A:fe}(r:Room (k+1) A)(C:kj)(a:kn km)(b:kn (Str×km)):Room k (A.under (.builtin "type.__call__" ⟨.ref C::a,b⟩)):=
 ⟨r.hd,by have:=r.dp;rw[U2];omega,by have:=r.un;rw[U3];omega,by first | exact r.gd|simpa[Around.under,pushGuards,Code.guards,Code.isGuard,guardIds] using r.gd⟩
def Room.depth {k:Nat}{A:fe}(r:Room k A):A.depth<recursionLimit:=by have:=r.dp;omega
def Room.units {k:Nat}{A:fe}(r:Room k A):A.units+64<cLine:=by have:=r.un;omega
def pK:TA:=λ_ H Q=>Q [] H
def cA (b:TE)(c:TA):TA:=λa H Q=>b a H λx H1=>c a H1 λxs d=>Q (x::xs) d
section
variable {X:Cx}{e:kf}{es:kn kf}{te:TE}{t:TA}{pos:Pos}
def Dk:PA X [] pK:=λ_ _ _ _ H Q I h=>ACy ⟨[],H,I, .nil,h⟩
def Bn (ha:PE X e te)(c:PA X es t)(hs:starEach (e::es) X.env=(false,eval e X.env)::starEach es X.env:=by rfl):PA X (e::es) (cA te t):=by intro pos a s b H Q I h;rw[hs];show wpAny _ _ (spliced ((false,eval e X.env)::backTo pos (starEach es X.env))) _ _ s;refine ACE (BO (ha a s b H _ I h) λu d ⟨x,H1,f,g,i⟩=> ?_);exact BO (c pos a d b H1 _ f i) λn o ⟨xs,j,k,l,m⟩=>⟨x::xs,j,k, .cons g l,m⟩
def tU (t:TA):TE:=λa H Q=>t a H λxs H1=>xs.length<=sizeLine/\∀p,H1 p=none->Q (.ref p) (upd H1 p (.tup xs))
def tO (t:TA):TE:=λa H Q=>t a H λxs H1=>xs.length<=sizeLine/\∀p,H1 p=none->Q (.ref p) (upd H1 p (.lst xs))
def jt {x1}(h:PA X es t):PE X (.Tuple es x1 pos) (tU t):=by intro d s f H Q I g;refine wpAny_Tuple_spliced (BO (h pos d s f H _ I g) λi a ⟨xs,H1,c,r,z,q⟩=>⟨by rw[<-r.length];exact z, ?_⟩);have j:H1 a.heap.objs.size=none:=c.hok.fresh (AAL _);refine⟨.ref a.heap.objs.size,upd H1 a.heap.objs.size (.tup xs),c.laid (t':=a.toks) (λb u e=>AAI _ e) (AAL _) ?_,rfl,q _ j⟩;exact⟨z,i,r,⟨_,AAR _ rfl,rfl,_,rfl⟩⟩
def ao (h:PA X es t):PE X (.List es pos) (tO t):=by intro d s f H Q I g;refine wpAny_List_spliced (BO (h pos d s f H _ I g) λi a ⟨xs,H1,c,r,z,q⟩=>⟨by rw[<-r.length];exact z, ?_⟩);have j:H1 a.heap.objs.size=none:=c.hok.fresh (AAL _);refine⟨.ref a.heap.objs.size,upd H1 a.heap.objs.size (.lst xs),c.laid (t':=a.toks) (λb u e=>AAI _ e) (AAL _) ?_,rfl,q _ j⟩;exact⟨z,i,0,r,AAR _ rfl⟩
end
abbrev Sp:=kn V->Hp->VK->XK->Prop
abbrev XV:=kn Env->Hp->kl->XK->km->kl->Prop
structure OM (P:Program) (w:World) (K:AAD) (mg:Str->Option Value) (base:Heap) (A:Around) (outer:List Env) (s:Shared) (H:Hp):Prop where
 frames:A.frames=some outer
 mod:Mod K mg base
 bs:∀b o,base.get? b=some o->s.heap.get? b=some o/\H b=none
 bsz:base.objs.size<=s.heap.objs.size
 funs:s.heap.FunFrames base outer
 frf:∀b∈Yx outer,H b=none
 hok:Ie P w H s.heap
 bare:AllBare s.gens
def CE (outer:kn Env)(P:kd)(w:kc)(H:Hp)(s:kl)(Q:VK)(u:km)(a:kl):Prop:=
 ∃v b,a.os=s.os/\AllBare a.gens/\Un (Yx outer) [] H b s.heap a.heap/\Ie P w b a.heap/\RelV v u/\Q v b
def CR (CX:XV)(outer:kn Env)(P:kd)(w:kc)(H:Hp)(s:kl)(Q:VK)(E:XK)(r:Result)(a:kl):Prop:=
 match r with
 | .ok (.ret u)=>CE outer P w H s Q u a
 | .ok _=>False
 | .error e=>CX outer H s E e a
structure Dh (P:Program) (w:World) (K:AAD) (mg:Str->Option Value) (base:Heap) (CX:XV) (k:Nat) (f:Addr) (fd:FuncData) (ps:List Str) (sp:Sp):Prop where
 len:∀vs H Q E,sp vs H Q E->vs.length=ps.length
 run:∀(A:Around) (outer:List Env) (s:Shared) (H:Hp) (args:Args) (us:List Value) (vs:List V) (Q:VK) (E:XK),Room k A->OM P w K mg base A outer s H->BindsTo s fd args (ps.zip us)->Ap vs us->sp vs H Q E->
  codeAny (model P w) A (.call (.ref f) args) (CR CX outer P w H s Q E) s
def Dh.mono {P:kd}{w:kc}{K:AAD}{mg:Str->ki km}{base:gn}{CX:XV}{j k:Nat}{f:kj}{a:FuncData}{ps:kn Str}{sp:Sp}(F:Dh P w K mg base CX j f a ps sp)(h:j<=k):Dh P w K mg base CX k f a ps sp:=⟨F.len,λA outer s H args b vs Q E c=>F.run A outer s H args b vs Q E (c.mono h)⟩
def Dh.imp {P:kd}{w:kc}{K:AAD}{mg:Str->ki km}{base:gn}{CX:XV}{k:Nat}{f:kj}{b:FuncData}{ps:kn Str}{sp a:Sp}(F:Dh P w K mg base CX k f b ps sp)(h:∀vs H Q E,a vs H Q E->sp vs H Q E):Dh P w K mg base CX k f b ps a:=
 ⟨λvs H Q E q=>F.len vs H Q E (h _ _ _ _ q),λA outer s H args c vs Q E d he hb hv hs=>F.run A outer s H args c vs Q E d he hb hv (h _ _ _ _ hs)⟩
def OM.make {P:kd}{w:kc}{K:AAD}{mg:Str->ki km}{base:gn}{A:fe}{outer:kn Env}{s:kl}{H:Hp}(e:OM P w K mg base A outer s H)(C:kj)(a:kn km)(b:kn (Str×km)):OM P w K mg base (A.under (.builtin "type.__call__" ⟨.ref C::a,b⟩)) outer s H:=⟨by first | exact e.frames|(simpa[Around.under,Code.envs,Code.isFrame,pushEnvs] using e.frames),e.mod,e.bs,e.bsz,e.funs,e.frf,e.hok,e.bare⟩
def OM.in1 {P:kd}{w:kc}{K:AAD}{mg:Str->ki km}{base:gn}{A:fe}{outer:kn Env}{s:kl}{H:Hp}(e:OM P w K mg base A outer s H):OM P w K mg base A.in1 outer s H:=⟨e.frames,e.mod,e.bs,e.bsz,e.funs,e.frf,e.hok,e.bare⟩
section
variable {X:Cx}{Wf:kn (kj×Obj)}{σ:St}{H:Hp}{s s':kl}
def Inv.env0 (I:Inv X Wf σ H s):OM X.prog X.w X.K X.mg X.base X.A X.stack s H:=
 ⟨I.ok.frames,I.ok.mod,I.bs,AAX I.ok.bsz I.sz,I.stack,I.stkFree,I.hok,I.bare⟩
def Inv.after {Q:VK}{u:km}(I:Inv X Wf σ H s)(h:CE X.stack X.prog X.w H s Q u s'):EP X Wf σ Q u s':=by obtain⟨v,c,os,bare,un,hok,r,q⟩:=h;obtain⟨e,g,d,t,a⟩:=s';obtain rfl:a=s.os:=os;exact⟨v,c,I.call (h':=e) (g':=g) (d':=d) (t':=t) (ch:= []) un hok bare (λb z=>absurd z (by simp)),r,q⟩
end
def bu (sp:Sp)(a:kn V)(E:XK)(t:TA):TE:=λb H Q=>t b H λvs H1=>sp (vs++a) H1 Q E
def Binds (K:AAD)(b:FuncData)(ps:kn Str)(ds:kn km):Prop:=
 ∀(s:kl) (a:kn km),K.In s.heap->(a++ds).length=ps.length->BindsTo s b ⟨a, []⟩ (ps.zip (a++ds))
def Binds.all {K:AAD}{b:FuncData}{ps:kn Str}(h:∀a:kn km,a.length=ps.length->bindArgs b ⟨a, []⟩=pure (ps.zip a)):Binds K b ps [] :=λs a _ hl=>by rw[ADX] at hl ⊢;exact .of_eq (h a hl)
def Passes (CX:XV)(X:Cx)(E:XK):Prop:=∀(b:kn (kj×Obj)) (c:St) (H:Hp) (s:kl) (e:km) (a:kl),Inv X b c H s->CX X.stack H s E e a->X.xe e a
section
variable {X:Cx}{CX:XV}{k:Nat}{f C:kj}{fd:FuncData}{ps:kn Str}{sp:Sp}{dvs:kn V}{ds:kn km}{E:XK}{x m:Str}{p pos apos:Pos}{e o:kf}{es:kn kf}{ta:TE}{t:TA}
theorem j9 {c:kn (kj×Obj)}{d:St}{H:Hp}{s:kl}{Q:VK}{a:kn km}{vs:kn V}(F:Dh X.prog X.w X.K X.mg X.base CX k f fd ps sp)(i:Room k X.A)(hb:Binds X.K fd ps ds)(hd:Ap dvs ds)(hx:Passes CX X E)(I:Inv X c d H s)(r:Ap vs a)(h:sp (vs++dvs) H Q E):wpAny (model X.prog X.w) X.A (call (.ref f) a) (EP X c d Q) X.xe s:=by
 have g:Ap (vs++dvs) (a++ds):=r.append hd;have hl:(a++ds).length=ps.length:=by rw[<-g.length];exact F.len _ _ _ _ h
 refine ACV (ACF (F.run X.A X.stack s H ⟨a, []⟩ (a++ds) (vs++dvs) Q E i I.env0 (hb s a I.kIn hl) g h) λr j b=> ?_);cases r with
 | error e=>exact hx c d H s e j I b
 | ok l=>
   cases l with
   | ret u=>exact I.after b
   | next=>exact False.elim b
   | brk=>exact False.elim b
   | cont=>exact False.elim b
theorem Wo (F:Dh X.prog X.w X.K X.mg X.base CX k f fd ps sp)(b:Room k X.A)(c:Gl X x)(d:X.mg x=some (.ref f))(hk:PySem.W.keepIn X.K (.ref f)=true)(hb:Binds X.K fd ps ds)(hd:Ap dvs ds)(hx:Passes CX X E)(ha:PA X (e::es) t)(hdb:(x==("__debug__" :Str))=false:=by decide)(he:starEach (e::es) X.env=(false,eval e X.env)::starEach es X.env:=by rfl)(hpl:(backTo pos (starEach es X.env)).any (·.1)=false:=by rfl):PE X (.Call (.Name x p) (e::es) [] pos) (bu sp dvs E t):=by intro g s i H Q I h;refine ACG (Wh I c d ?_ hdb);refine PySem.W.callWith_K (h₀:=X.base) I.ok.mod.kin hk (BO (ha pos g s i H _ I h) λj l ⟨vs,H1,a,r,q⟩=>⟨a.kIn, ?_⟩) he hpl;exact j9 F b hb hd hx a r q
structure Mk (K:AAD) (C f:Addr):Prop where
 makes:PySem.W.makesIn K C=true
 init:PySem.W.findIn K (.ref C) "__init__" =some (some (.ref f))
 fn:PySem.W.isFn K (.ref f)=true
 kp:PySem.W.keepIn K (.ref C)=true
end
section
variable {X:Cx}{CX:XV}{k:Nat}{f C:kj}{fd:FuncData}{ps ks:kn Str}{sp:Sp}{E:XK}{x m:Str}{p pos apos kpos:Pos}{e o:kf}{es:kn kf}{kws:kn Keyword}{te ta:TE}{t tk:TA}{nm:ki Str}
structure rA (K:AAD) (fd:FuncData) (ps ks:List Str) (g:List Value->List Value->List Value) (gV:List V->List V->List V):Prop where
 to:∀(s:Shared) (us ws:List Value),K.In s.heap->(g us ws).length=ps.length->BindsTo s fd ⟨us,ks.zip ws⟩ (ps.zip (g us ws))
 rel:∀{vs:List V} {us:List Value} {zs:List V} {ws:List Value},Ap vs us->Ap zs ws->Ap (gV vs zs) (g us ws)
variable {g:kn km->kn km->kn km}{gV:kn V->kn V->kn V}
end
structure DN (N P:List Str) (sc:Scope):Prop where
 kind:sc.kind= .function
 co:sc.isCoroutine=false
 gen:sc.isGenerator=false
 nd:N.Nodup
 pre:N.take P.length=P
 par:∀x∈P,sc.names.lookup x=some .local\/sc.names.lookup x=some .cell
 nofree:∀y∈sc.names,y.2≠ .free
theorem O7 {kindOf:Str->ki NameKind}{x:Str}:∀{binds:kn (Str×km)} {m:Str->ki km},(∀v,(x,v) ∉ binds)->bindL kindOf binds m x=m x
 | [],_,_=>rfl
 | (n,v)::r,m,h=>by
   unfold bindL;rw[O7 λw hw=>h w (ABN _ hw)];split
   .have:x≠n:=by rintro rfl;exact h v ABr
    simp[this]
   .rfl
theorem O5 {kindOf:Str->ki NameKind}{x:Str}:∀{binds:kn (Str×km)} {m:Str->ki km},(∀v,(x,v) ∉ binds)->bindC kindOf binds m x=m x
 | [],_,_=>rfl
 | (n,v)::r,m,h=>by
   unfold bindC;rw[O5 λw hw=>h w (ABN _ hw)];split
   .rfl
   .have:x≠n:=by rintro rfl;exact h v ABr
    simp[this]
theorem O6 {kindOf:Str->ki NameKind}{x:Str}{v:km}:∀{P:kn Str} {vs:kn km} {i:Nat} {m:Str->ki km},P.Nodup->P[i]? =some x->vs[i]? =some v->kindOf x=some .local-> bindL kindOf (P.zip vs) m x=some v
 | [],_,_,_,_,h,_,_=>by simp at h
 | _::_, [],_,_,_,_,h,_=>by simp at h
 | p::P,w::vs,0,m,nd,h1,h2,hk=>by simp at h1 h2;subst h1;subst h2;show bindL kindOf ((p,w)::P.zip vs) m p=_;unfold bindL;rw[O7 λv hv=>(ABv.mp nd).1 (ABw hv).1,AAG hk];simp
 | p::P,w::vs,i+1,m,nd,h1,h2,hk=>by show bindL kindOf ((p,w)::P.zip vs) m x=_;unfold bindL;exact O6 (i:=i) (ABv.mp nd).2 (by simpa using h1) (by simpa using h2) hk
theorem O4 {kindOf:Str->ki NameKind}{x:Str}{v:km}:∀{P:kn Str} {vs:kn km} {i:Nat} {m:Str->ki km},P.Nodup->P[i]? =some x->vs[i]? =some v->kindOf x≠some .local-> bindC kindOf (P.zip vs) m x=some v
 | [],_,_,_,_,h,_,_=>by simp at h
 | _::_, [],_,_,_,_,h,_=>by simp at h
 | p::P,w::vs,0,m,nd,h1,h2,hk=>by simp at h1 h2;subst h1;subst h2;show bindC kindOf ((p,w)::P.zip vs) m p=_;unfold bindC;rw[O5 λv hv=>(ABv.mp nd).1 (ABw hv).1,AAF hk];simp
 | p::P,w::vs,i+1,m,nd,h1,h2,hk=>by show bindC kindOf ((p,w)::P.zip vs) m x=_;unfold bindC;exact O4 (i:=i) (ABv.mp nd).2 (by simpa using h1) (by simpa using h2) hk
def start (N:kn Str)(vs:kn V):St:=vs.map some++List.replicate (N.length-vs.length) none
def OT (CX:XV)(P:kd)(w:kc)(K:AAD)(mg:Str->ki km)(base:gn)(N:kn Str)(qual:Str)(scope:Scope)(f:kj)(b:km)(A:fe)(outer:kn Env)(s:kl)(H:Hp)(E:XK):Cx where
 prog:=P
 w:=w
 K:=K
 mg:=mg
 base:=base
 A:=A.deeper (envOfC qual scope s.heap.objs.size f b)
 N:=N
 s₀:=s
 H₀:=H
 env:=envOfC qual scope s.heap.objs.size f b
 outer:=outer
 stack:=envOfC qual scope s.heap.objs.size f b::outer
 ex:= []
 calm:=true
 fn:=λ_=>true
 pn:= []
 xe:=λe c=>wpAny (model P w) (A.deeper (envOfC qual scope s.heap.objs.size f b)) (leaving (envOfC qual scope s.heap.objs.size f b) e) (λ_ a=>CX outer H s E e a) (λd a=>CX outer H s E d a) c
def SU {sc:Scope}{n:Nat}{x:Str}(h:sc.names.lookup x=some .cell):∃c,(cellsFrom n sc.names []).lookup x=some c:=by have q:=AEC sc.names n [] (.inl h);exact Option.isSome_iff_exists.mp q
def YD {CX:XV}{P:kd}{w:kc}{K:AAD}{mg:Str->ki km}{base:gn}{N ps:kn Str}{qual:Str}{scope:Scope}{f:kj}{m:km}{A:fe}{outer:kn Env}{s t:kl}{H:Hp}{E:XK}{o:kn km}{vs:kn V}(S:DN N ps scope)(hd:A.handled=none)(d:OM P w K mg base A outer s H)(hl:vs.length=ps.length)(r:Ap vs o)(x:InCallC s s.heap.objs.size (bindL (envOfC qual scope s.heap.objs.size f m).kindOf (ps.zip o) λ_=>none) (cellsFrom (s.heap.objs.size+1) scope.names []) (bindC (envOfC qual scope s.heap.objs.size f m).kindOf (ps.zip o) λ_=>none) t):Inv (OT CX P w K mg base N qual scope f m A outer s H E) [] (start N vs) H t:=by
 have hpl:ps.length<=N.length:=by have:=congrArg List.length S.pre;rw[ACz] at this;omega
 obtain⟨h1,B,rfl,hk⟩:=x.done;have g:∀b:kj,b ∉ (OT CX P w K mg base N qual scope f m A outer s H E).ex:=λb z=>absurd (show b∈([] :kn kj) from z) (by simp);refine⟨⟨d.mod,S.kind,rfl,rfl,AAL _,λy z c h1 h2=> ?_,λy j=> ?_,λy c _ h=> ?_,λ_=>hd,Around.frames_deeper d.frames, .inr ⟨rfl,rfl⟩,λb z=>absurd z (g b),d.bs,d.bsz,λb _ _=>g b,λb z=>absurd z (g b),d.funs,d.frf⟩,
  rfl,d.bare,Un.kept hk,⟨_,x.toInCall.ns,λi y v h1 h2 h3=> ?_⟩,λy c h=>⟨_,x.cell y c h⟩,d.hok.fresh (AAL _),λy c h=> ?_,λp hp=>absurd (show p∈([] :kn (kj×Obj)) from hp) (by simp),d.hok.kept hk, ?_⟩
 .exact name_of_addr x.apart (ACW h1) (ACW h2)
 .have j:scope.names.lookup y=some .cell\/scope.names.lookup y=some .free:=j;rcases j with j|j
  .exact SU j
  .exact absurd rfl (S.nofree _ (ACW j))
 .exact ACC (x.above y c (ACW h))
 .have hi:i<vs.length:=by
   unfold start at h2;by_cases hi:i<vs.length
   .exact hi
   .rw [ABJ (by simpa using hi)] at h2;rw[ABf] at h2;split at h2 <;> cases h2
  have ha:vs[i]? =some v:=by
   unfold start at h2;rw[ABQ (by simpa using hi),AAr] at h2;cases e:vs[i]? with
   | none=>rw[e] at h2;cases h2
   | some a=>rw[e] at h2;cases h2;rfl
  obtain⟨u,hu,rv⟩:=r.get ha;have hp:ps[i]? =some y:=by rw[<-S.pre,List.getElem?_take_of_lt (by omega)];exact h1
  have l:ps.Nodup:=by rw[<-S.pre];exact S.nd.sublist (List.take_sublist _ _)
  refine⟨u,rv, ?_⟩;rcases S.par y (ACH hp) with k|k
  .exact .inl ⟨k,O6 l hp hu k⟩
  .obtain ⟨c,e⟩:=SU (n:=s.heap.objs.size+1) k;refine .inr ⟨.inl k,c,e, ?_⟩;have q:=x.cell y c e;rw[O4 l hp hu (by show scope.names.lookup y≠_;rw[k];decide)] at q;exact q
 .exact d.hok.fresh (ACC (x.above y c (ACW h)))
 .unfold start;show _=N.length;rw[AAi,AAO,ABg];omega
def gM {CX:XV}{P:kd}{w:kc}{K:AAD}{mg:Str->ki km}{base:gn}{k:Nat}{f:kj}{name qual:Str}{params:Arguments}{body:kn Stmt}{scope:Scope}{p kV d z a ct G:km}{B L:ki kj}{i:Array (ki km)}{N ps:kn Str}{sp:Sp}(M:K.lookup f=some ⟨G,L, .func (PySem.W.fnOf name qual params body scope p kV d z B a ct),i⟩)(O:PySem.W.codeIn K a qual=true)(S:DN N ps scope)(len:∀vs H Q E,sp vs H Q E->vs.length=ps.length)(R:∀(A:fe) (outer:kn Env) (s:kl) (H:Hp) (vs:kn V) (Q:VK) (E:XK),Room k (A.deeper (envOfC qual scope s.heap.objs.size f a))->sp vs H Q E-> ∃t,R9 (OT CX P w K mg base N qual scope f a A outer s H E) body t/\t {nx:=λ_ c=>Q .non c,rt:=Q} (start N vs) H):Dh P w K mg base CX (k+1) f (PySem.W.fnOf name qual params body scope p kV d z B a ct) ps sp:=by
 refine⟨len,λA outer s H args T vs Q E j g hb r C=> ?_⟩;have hl:=len _ _ _ _ C;have D:K.In s.heap:=g.mod.kin.keeps λb o e=>(g.bs b o e).1;have l:s.heap.NoLimit:=g.mod.nolimit.keeps λb o e=>(g.bs b o e).1;have U:∀y∈ps.zip T,scope.names.lookup y.1=some .local\/(scope.names.lookup y.1=some .cell/\((cellsFrom (s.heap.objs.size+1) scope.names []).lookup y.1).isSome=true):=λ⟨n,v⟩ X=>by
  rcases S.par n (ABw X).1 with q|q
  .exact .inl q
  .exact .inr ⟨q,AEC _ _ _ (.inl q)⟩
 refine codeAny_call_function j.depth (D _ _ M) rfl S.co S.gen rfl (PySem.W.codeRec_of D O) (hb _ _ _ _ ?_);refine wpAny_newFunctionEnv_cells S.kind U λenv he F x=> ?_;subst he;refine⟨l.keeps x.toInCall.keep,codeAny_func ?_⟩;obtain⟨t,Y,Z⟩:=R A outer s H vs Q E (j.deeper _) C;have I:Inv (OT CX P w K mg base N qual scope f a A outer s H E) [] (start N vs) H F:=YD S j.hd g hl r x;refine ABP (Y [] F (start N vs) H _ I Z) (λfl m hs=> ?_) λe m hs=>hs;have h:∀{σ':St} {c:Hp} {v:V} {u:km},Inv (OT CX P w K mg base N qual scope f a A outer s H E) [] σ' c m->RelV v u->Q v c->CE outer P w H s Q u m:=
  λ{σ' c v u} J rv q=>⟨v,c,J.os,J.bare,J.base,J.hok,rv,q⟩
 cases fl with
 | ret u=> obtain⟨v,σ',c,J,rv,q⟩:=hs;exact h J rv q
 | next=> obtain⟨σ',c,J,q⟩:=hs;exact h (v:=V.non) (u:=Value.none) J rfl q
 | brk=> obtain⟨_,_,_,q⟩:=hs;exact False.elim q
 | cont=> obtain⟨_,_,_,q⟩:=hs;exact False.elim q
section
variable {X:Cx}{x:Str}{p pos:Pos}{e:kf}{es:kn kf}{t:TA}{id T:String}{r:kn V->Hp->VK->Prop}
def tL (r:kn V->Hp->VK->Prop)(t:TA):TE:=λa H Q=>t a H λvs H1=>r vs H1 Q
def GY (hc:Bu X (.builtin id) r)(c:Gl X x)(d:X.mg x=none)(hv:bootBuiltins x=some (.builtin id))(ha:PA X (e::es) t)(f:x≠"__name__" :=by decide)(hdb:(x==("__debug__" :Str))=false:=by decide)(he:starEach (e::es) X.env=(false,eval e X.env)::starEach es X.env:=by rfl)(hpl:(backTo pos (starEach es X.env)).any (·.1)=false:=by rfl):PE X (.Call (.Name x p) (e::es) [] pos) (tL r t):=by intro a s b H Q I h;refine ACG (FE I c d hv ?_ f hdb);exact AED (BO (ha pos a s b H _ I h) λg i ⟨vs,H1,j,k,l⟩=>hc a i b H1 vs g Q j k l) he hpl
def FY (hc:Bu X (.type T) r)(c:Gl X x)(d:X.mg x=none)(hv:bootBuiltins x=some (.type T))(ha:PA X (e::es) t)(f:x≠"__name__" :=by decide)(hdb:(x==("__debug__" :Str))=false:=by decide)(he:starEach (e::es) X.env=(false,eval e X.env)::starEach es X.env:=by rfl)(hpl:(backTo pos (starEach es X.env)).any (·.1)=false:=by rfl):PE X (.Call (.Name x p) (e::es) [] pos) (tL r t):=by intro a s b H Q I h;refine ACG (FE I c d hv ?_ f hdb);exact ABu (BO (ha pos a s b H _ I h) λg i ⟨vs,H1,j,k,l⟩=>hc a i b H1 vs g Q j k l) he hpl
end
end L2
namespace HT
open PySem PyProof.Rows
section
variable {prog:kd}{w:kc}{A:fe}{E:km->kl->Prop}{s:kl}
def cat_tup {t b:kj}{vs a:kn km}{Q:km->kl->Prop}(m:IsTup s.heap t vs.toArray)(hb:IsTup s.heap b a.toArray)(hv:vs≠ [])(h1:a= [] ->Q (.ref t) s)(h2:a≠ [] ->Q (.ref s.heap.objs.size) {s with heap:=s.heap.push {cls:= .type "tuple",data:= .seq (vs++a).toArray}})(hsz:vs.length+a.length<=sizeLine):wpAny (model prog w) A (binaryOp .Add (.ref t) (.ref b)) Q E s:=by
 obtain⟨⟨cls,h,data,sl⟩,f,hc,n,hd⟩:=id m;obtain⟨⟨i,c,data2,d⟩,g,j,k,l⟩:=id hb;simp only at hc hd j l;subst hc hd j l;have e:vs.toArray++a.toArray=(vs++a).toArray:=by simp
 by_cases hw:a= []
 .exact concat_meets ⟨_,f,rfl⟩ ⟨_,g,rfl⟩ ADY seq_tuple_add ADZ ADa (ADb _ _)
   (tuple_addW1 t b vs.toArray a.toArray n k h c sl d (by simpa using hv) (by simp[hw])) ⟨f,g,h1 hw⟩
 .refine concat_meets ⟨_,f,rfl⟩ ⟨_,g,rfl⟩ ADY seq_tuple_add ADZ ADa (ADb _ _)
   (tuple_addW2 t b vs.toArray a.toArray n k h c sl d (by simpa using hv) (by simpa using hw) (by rw[AAW,AAW];exact hsz)) ⟨f,g, ?_⟩
  rw[e];exact h2 hw
def sIx (n d:Nat):ki Int->Nat
 | none=>d
 | some v=>if v<0 then (v+(n:Int)).toNat else min v.toNat n
def sIx_none (n d:Nat):sIx n d none=d:=rfl
def sIx_nat (n d k:Nat):sIx n d (some (k:Int))=min k n:=by show (if (k:Int)<0 then ((k:Int)+(n:Int)).toNat else min (k:Int).toNat n)=min k n;rw[AAF (by omega),ABx]
def kA (n d:Nat)(hd:d<=n)(o:ki Int):sIx n d o<=n:=by
 cases o with
 | none=>exact hd
 | some v=>
   show (if v<0 then (v+(n:Int)).toNat else min v.toNat n)<=n;by_cases hv:v<0
   .rw [AAG hv];omega
   .rw [AAF hv];exact Nat.min_le_right _ _
def WC (v:Int)(n d:Nat):(if v<0 then max (v+(n:Int)) 0 else min v (n:Int))=((sIx n d (some v):Nat):Int):=by
 show (if v<0 then max (v+(n:Int)) 0 else min v (n:Int))=(((if v<0 then (v+(n:Int)).toNat else min v.toNat n):Nat):Int);by_cases hv:v<0
 .simp only[AAG hv];omega
 .simp only[AAF hv];omega
def UZ (lo hi:ki Int)(n:Nat):Builtin.Slice.sliceAdjust lo hi 1 (n:Int)=(((sIx n 0 lo:Nat):Int),((sIx n n hi:Nat):Int)):=by
 have h1:¬((1:Int)<0):=by omega
 unfold Builtin.Slice.sliceAdjust;simp only[h1,AAn];refine ACX ?_ ?_
 .cases lo with
  | none=>rfl
  | some v=>exact WC v n 0
 .cases hi with
  | none=>rfl
  | some v=>exact WC v n n
def VL (i j:Nat):Builtin.Slice.slicePlaces (i:Int) (j:Int) 1=j-i:=by
 unfold Builtin.Slice.slicePlaces;have h1:(1:Int)>0:=by omega
 simp only[h1,AA9,Int.ediv_one];split <;> omega
def Nm {v:km}{o:ki Int}{Q:ki Int->kl->Prop}(p:IsPart v o)(h:Q o s):wpAny (model prog w) A (Builtin.Slice.slicePartIndex v) Q E s:=by
 cases p with
 | none=>exact slicePart_none h
 | int i t=>exact slicePart_int h
def sliceApplied_gen {sl:kj}{a b:km}{lo hi:ki Int}{n:Nat}{Q:Int×Int×Nat->kl->Prop}(hs:s.heap.IsSliceOf sl a b .none)(e:IsPart a lo)(f:IsPart b hi)(h:Q (((sIx n 0 lo:Nat):Int),1,sIx n n hi-sIx n 0 lo) s):wpAny (model prog w) A (Builtin.Slice.sliceApplied (.ref sl) (pure (n:Int))) Q E s:=by obtain⟨os,c,g,d⟩:=id hs;unfold Builtin.Slice.sliceApplied Builtin.Slice.sliceFields;refine AAC (AAC (AAd c d (x:=a) rfl (AAC (AAd c d (x:=b) rfl (AAC (AAd c d (x:= .none) rfl (AAE ?_)))))));refine AAC (slicePart_none ?_);show wpAny _ _ (if ((1:Int)==0)=true then _ else _) _ _ s;rw[AAF (by decide)];refine AAC (Nm e (AAC (Nm f (AAC (AAE ?_)))));show wpAny _ _ (match Builtin.Slice.sliceAdjust lo hi 1 (n:Int) with | (lo,hi)=>pure (lo,(1:Int),Builtin.Slice.slicePlaces lo hi 1)) _ _ s;rw[UZ lo hi n];show wpAny _ _ (pure (((sIx n 0 lo:Nat):Int),(1:Int),Builtin.Slice.slicePlaces ((sIx n 0 lo:Nat):Int) ((sIx n n hi:Nat):Int) 1)) _ _ s;rw[VL];exact AAE h
def av (xs:Array km)(i k:Nat):((List.range k).filterMap λ(m:Nat)=>xs[((i:Int)+(m:Int)*1).toNat]?).toArray=((xs.toList.drop i).take k).toArray:=by
 have e:(λ(m:Nat)=>xs[((i:Int)+(m:Int)*1).toNat]?)=λm=>xs[i+m]? :=by
  funext m
  have:((i:Int)+(m:Int)*1).toNat=i+m:=by omega
  rw[this]
 rw[e];have:=pick_run xs i k;rw[List.filterMap_map] at this;have a:((λx=>xs[x]?) ∘ λx=>i+x)=λm=>xs[i+m]? :=rfl;rw[a] at this;rw[this]
def getItem_tuple_cut {t sl:kj}{items:Array km}{c d:km}{lo hi:ki Int}{Q:km->kl->Prop}(a:IsTup s.heap t items)(hs:s.heap.IsSliceOf sl c d .none)(e:IsPart c lo)(f:IsPart d hi)(hw:¬(sIx items.size 0 lo=0/\sIx items.size items.size hi=items.size))(h:Q (.ref s.heap.objs.size) {s with heap:=s.heap.push {cls:= .type "tuple",data:= .seq ((items.toList.drop (sIx items.size 0 lo)).take (sIx items.size items.size hi-sIx items.size 0 lo)).toArray}})(hsz:items.size<=sizeLine):wpAny (model prog w) A (getItem (.ref t) (.ref sl)) Q E s:=by
 have b:sizeOk (.seq ((items.toList.drop (sIx items.size 0 lo)).take (sIx items.size items.size hi-sIx items.size 0 lo)).toArray):=by show ((items.toList.drop (sIx items.size 0 lo)).take (sIx items.size items.size hi-sIx items.size 0 lo)).toArray.size<=sizeLine;rw[AAW,ACz,ADc,ACA];omega
 have hj:sIx items.size items.size hi<=items.size:=kA _ _ (AAL _) hi;obtain⟨os,g,i,l⟩:=id hs;have j:s.TypeIs (.ref sl) "slice" :=⟨os,g,i⟩;unfold getItem;try with_reducible refine AAg ?_
 first | refine AAC (AAE ?_)|skip
 refine AAC (wpAny_sequenceKey a.typeIs (by decide) ?_);refine AAC (ABh (name:=Str.ofString "__getitem__") a.typeIs ACI
  (AAy ACI a.typeIs entry_tuple_getitem ?_ (args_tuple_getitem _ _)))
 show wpAny _ _ (Builtin.Tuple.tupleItemsOf (.ref t) >>= _) _ _ s;refine AAC (tupleItemsOf_ a ?_);refine AAC (AC0 j ?_);rw[AAG (by decide)];refine AAC (sliceApplied_gen hs e f ?_);have k:¬((((sIx items.size 0 lo:Nat):Int)==0&&(1:Int)==1&&(sIx items.size items.size hi-sIx items.size 0 lo)==items.size)=true):=by intro q;rw[AAs,AAs] at q;have n:((sIx items.size 0 lo:Nat):Int)=0:=eq_of_beq q.1.1;have o:sIx items.size items.size hi-sIx items.size 0 lo=items.size:=eq_of_beq q.2;exact hw ⟨by omega,by omega⟩
 show wpAny _ _ (if (((sIx items.size 0 lo:Nat):Int)==0&&(1:Int)==1&&(sIx items.size items.size hi-sIx items.size 0 lo)==items.size)=true then _ else _) _ _ s;rw[AAF k,av];first
  | exact AAC (m:=Builtin.Tuple.tupleExact _) (ABH (AAE ⟨_,rfl,AAE h⟩) b)
  | exact AAC (m:=Builtin.Tuple.tupleExact _) (ABH (AAC (AAE (AAE ⟨_,rfl,AAE h⟩))) b)
  | exact AAC (AAC (m:=Builtin.Tuple.tupleExact _) (ABH (AAE (AAE ⟨_,rfl,AAE h⟩)) b))
  | exact AAC (AAC (m:=Builtin.Tuple.tupleExact _) (ABH (AAE ⟨_,rfl,AAE h⟩) b))
end
end HT
namespace L2
open PySem PySem.Spec PyProof.Rows
abbrev TO:=St->Hp->(ki Int->Hp->Prop)->Prop
def PO (X:Cx)(e:ki kf)(t:TO):Prop:=
 ∀(b:kn (kj×Obj)) (s:kl) (a:St) (H:Hp) (Q:ki Int->Hp->Prop),Inv X b a H s->t a H Q->
  wpAny (model X.prog X.w) X.A (evalPart e X.env) (λu d=>∃o c,Inv X b a c d/\IsPart u o/\Q o c) X.xe s
def ft:TO:=λ_ H Q=>Q none H
def pM (t:TE):TO:=λa H Q=>t a H λx H1=>∃i,x= .int i/\Q (some i) H1
section
variable {X:Cx}{e:kf}{te:TE}{lo hi:ki kf}{tl th:TO}{pos p2:Pos}
def eY:PO X none ft:=by intro a s b H Q I h;rw[evalPart_none];exact AAE ⟨none,H,I, .none,h⟩
def eZ (h:PE X e te):PO X (some e) (pM te):=by intro a s b H Q I hw;rw[evalPart_some];refine BO (h a s b H _ I hw) λu g ⟨x,H1,c,d,f⟩=> ?_;obtain⟨i,rfl,q⟩:=f;obtain⟨t,rfl⟩:=d;exact⟨some i,H1,c, .int i t,q⟩
def gI (X:Cx)(r:V->ki Int->ki Int->Hp->VK->Prop):Prop:=
 ∀(a:kn (kj×Obj)) (s:kl) (b:St) (H:Hp) (x:V) (v c d:km) (lo hi:ki Int) (sl:kj) (Q:VK),Inv X a b H s->RelV x v->s.heap.IsSliceOf sl c d .none->IsPart c lo->IsPart d hi->r x lo hi H Q->
  ∃T id,typeLookup (.type T) "__getitem__" =pure (some (.builtin id))/\s.TypeIs v T/\wpAny (model X.prog X.w) X.A (getItem v (.ref sl)) (EP X a b Q) X.xe s
def gI.or {r a:V->ki Int->ki Int->Hp->VK->Prop}(h:gI X r)(h':gI X a):gI X (λx lo hi H Q=>r x lo hi H Q\/a x lo hi H Q):=by
 intro b s c H x v d f lo hi sl Q I g hs i j q;rcases q with q|q
 .exact h b s c H x v d f lo hi sl Q I g hs i j q
 .exact h' b s c H x v d f lo hi sl Q I g hs i j q
def zU (r:V->ki Int->ki Int->Hp->VK->Prop)(te:TE)(tl th:TO):TE:=λa H Q=>te a H λx H1=>tl a H1 λl b=>th a b λu c=>r x l u c Q
def aq {r:V->ki Int->ki Int->Hp->VK->Prop}(j:gI X r)(he:PE X e te)(hl:PO X lo tl)(hu:PO X hi th):PE X (.Subscript e (.Slice lo hi none p2) pos) (zU r te tl th):=by intro c s d H Q I h;refine Subscript_ (BO (he c s d H _ I h) λv k ⟨x,H1,m,n,o⟩=> ?_);refine wpAny_Slice (BO (hl c k d H1 _ m o) λf p ⟨l,t,y,z,B⟩=>BO (hu c p d t _ y B) λg a ⟨u,i,C,D,E⟩=> ?_);rw[evalPart_none];refine AAE ?_;have F:Inv X c d i {a with heap:=a.heap.push {cls:= .type "slice",data:= .fields #[f,g, .none] }}:=C.kept (t':=a.toks) λb L q=>AAI _ q;obtain⟨T,id,G,J,K⟩:=j c {a with heap:=a.heap.push {cls:= .type "slice",data:= .fields #[f,g, .none] }} d i x v f g l u a.heap.objs.size Q F n (Heap.IsSliceOf.new ..) z D E;show wpAny (model X.prog X.w) X.A (subscriptTail e (.Slice lo hi none p2) v (.ref a.heap.objs.size)) (EP X c d Q) X.xe {a with heap:=a.heap.push {cls:= .type "slice",data:= .fields #[f,g, .none] }};exact tail_any (ops:= [.ref a.heap.objs.size,v]) J G K (by with_unfolding_all rfl)
def OS (xs:kn V)(lo hi:ki Int):kn V:=(xs.drop (HT.sIx xs.length 0 lo)).take (HT.sIx xs.length xs.length hi-HT.sIx xs.length 0 lo)
def Kk (xs:kn V)(lo hi:ki Int):(OS xs lo hi).length<=xs.length:=by unfold OS;rw[ACz,ADc];omega
def tF (K:AAD):V->ki Int->ki Int->Hp->VK->Prop:=λx lo hi H Q=>∃a xs,x= .ref a/\LX K H a xs/\
 ¬(HT.sIx xs.length 0 lo=0/\HT.sIx xs.length xs.length hi=xs.length)/\∀p,H p=none->Q (.ref p) (upd H p (.tup (OS xs lo hi)))
def kW:gI X (tF X.K):=by
 intro k s l H x v m n lo hi sl Q I g hs i j h;obtain⟨a,xs,rfl,hx,hw,q⟩:=h;cases g;obtain⟨its,r,d,f⟩:=I.tuple hx;have c:its.toArray.size=xs.length:=by rw[AAW];exact r.length.symm
 refine⟨"tuple",_,ACI.lookup,d.typeIs, ?_⟩;refine HT.getItem_tuple_cut d hs i j (by rw[c];exact hw) ?_ (by rw[c];exact f);rw[c];refine⟨.ref s.heap.objs.size,_,I.laid (t':=s.toks) (o:= .tup (OS xs lo hi)) (λb p q=>AAI _ q) (AAL _) ?_,rfl,q _ (I.hok.fresh (AAL _))⟩;exact⟨AAX (Kk xs lo hi) f,_,(r.drop (HT.sIx xs.length 0 lo)).take (HT.sIx xs.length xs.length hi-HT.sIx xs.length 0 lo),IsTup.new _ _⟩
def ga (K:AAD):R2:=λx y H Q=>∃a b xs c,x= .ref a/\y= .ref b/\LX K H a xs/\LX K H b c/\xs≠ [] /\xs.length+c.length<=sizeLine/\
 (c= [] ->Q (.ref a) H)/\(c≠ [] ->∀p,H p=none->Q (.ref p) (upd H p (.tup (xs++c))))
def Ap.nil_iff {xs:kn V}{a:kn km}(r:Ap xs a):a= [] ↔xs= [] :=by
 cases r with
 | nil=>simp
 | cons _ _=>simp
def d6:DY X (binaryOp .Add) (ga X.K):=by intro p s r H x y v u Q I i j h;obtain⟨a,b,xs,k,rfl,rfl,ha,hb,hx,f,l,m⟩:=h;cases i;cases j;obtain⟨its,d,n,_⟩:=I.tuple ha;obtain⟨g,c,p2,_⟩:=I.tuple hb;refine HT.cat_tup n p2 (λz=>hx (d.nil_iff.mp z)) (λz=>⟨.ref a,H,I,rfl,l (c.nil_iff.mp z)⟩) (λz=> ?_) (by rw[<-d.length,<-c.length];exact f);refine⟨.ref s.heap.objs.size,_,I.laid (t':=s.toks) (o:= .tup (xs++k)) (λb t q=>AAI _ q) (AAL _) ?_,rfl,m (λw=>z (c.nil_iff.mpr w)) _ (I.hok.fresh (AAL _))⟩;exact⟨by rw[AAi];exact f,_,d.append c,IsTup.new _ _⟩
end
def YG (n:Nat)(i:Int):ki Nat:=if 0<=i then (if i<n then some i.toNat else none) else if -(n:Int)<=i then some (i+n).toNat else none
def Me {a:Type}(xs:kn a)(i:Int):ki a:=(YG xs.length i).bind λj=>xs[j]?
def We {n:Nat}{i:Int}{j:Nat}(h:YG n i=some j):seqIndex? i n=some j/\j<n/\ -(n:Int)<=i/\i<n:=by
 unfold YG at h;by_cases a:0<=i
 .rw [AAG a] at h;by_cases h1:i<n
  .rw [AAG h1] at h;have e:i.toNat=j:=AAb h;exact⟨by rw[seqIndex_of a h1,e],by omega,by omega,h1⟩
  .rw [AAF h1] at h;cases h
 .rw [AAF a] at h;by_cases h1: -(n:Int)<=i
  .rw [AAG h1] at h;have e:(i+n).toNat=j:=AAb h;exact⟨by rw[seqIndex_neg (by omega) h1,e],by omega,h1,by omega⟩
  .rw [AAF h1] at h;cases h
def V7 {a:Type}{xs:kn a}{i:Int}{v:a}(h:Me xs i=some v):∃j,seqIndex? i xs.length=some j/\xs[j]? =some v/\j<xs.length/\ -(xs.length:Int)<=i/\i<xs.length:=by
 unfold Me at h;cases e:YG xs.length i with
 | none=>rw[e] at h;cases h
 | some j=> rw[e] at h;obtain⟨h1,h2,h3,b⟩:=We e;exact⟨j,h1,h,h2,h3,b⟩
def DO {a:Type}{xs:kn a}{j:Nat}{v:a}(h:xs[j]? =some v):Me xs (j:Int)=some v:=by
 have hj:j<xs.length:=(AA0.mp h).1;have e:YG xs.length (j:Int)=some j:=by unfold YG;rw[AAG (by omega),AAG (by omega)];simp
 unfold Me;rw[e];exact h
def QI (b:kf):Prop:=∀o i,subscripted b false o i=operate [o,i] (getItem o i)
def cu (X:Cx)(r:R2):Prop:=
 ∀(value slice:kf) (a:kn (kj×Obj)) (s:kl) (b:St) (H:Hp) (x y:V) (v u:km) (Q:VK),Inv X a b H s->RelV x v->RelV y u->r x y H Q->
  subscripted slice false v u=operate [v,u] (getItem v u)->wpAny (model X.prog X.w) X.A (subscriptTail value slice v u) (EP X a b Q) X.xe s
def yF (X:Cx)(id:String)(r:V->kn V->Hp->VK->Prop):Prop:=
 ∀(a:kn (kj×Obj)) (s:kl) (b:St) (H:Hp) (x:V) (xs:kn V) (v:km) (c:kn km) (Q:VK),Inv X a b H s->RelV x v->Ap xs c->r x xs H Q->
  wpAny (model X.prog X.w) X.A (call (.builtin id) (v::c)) (EP X a b Q) X.xe s
section
variable {X:Cx}{a b:kf}{ta tb:TE}{pos:Pos}
def cu.or {r c:R2}(h:cu X r)(h':cu X c):cu X (λx y H Q=>r x y H Q\/c x y H Q):=by
 intro value slice d s e H x y v u Q I f g q hs;rcases q with q|q
 .exact h value slice d s e H x y v u Q I f g q hs
 .exact h' value slice d s e H x y v u Q I f g q hs
def Kx {r:R2}(c:cu X r)(ha:PE X a ta)(hb:PE X b tb)(hs:QI b):PE X (.Subscript a b pos) (fw r ta tb):=by intro d s e H Q I h;exact Subscript_ (iN ha hb I h λv u f x y g i j k q=>c a b d f e g x y v u Q i j k q (hs _ _))
def oJ (K:AAD):R2:=λx y H Q=>∃p xs i v,x= .ref p/\y= .int i/\FR K H p xs/\Me xs i=some v/\Q v H
def oM (K:AAD):R2:=λx y H Q=>∃p xs i v,x= .ref p/\y= .int i/\LX K H p xs/\Me xs i=some v/\Q v H
def Ew:cu X (oJ X.K):=by
 intro value slice f s g H x y v u Q I l m h hs;obtain⟨p,xs,i,z,rfl,rfl,n,he,q⟩:=h;cases l;obtain⟨t,rfl⟩:=m;obtain⟨its,r,d,C⟩:=I.list n;obtain⟨j,h1,h2,h3,o,A⟩:=V7 he;obtain⟨w,ew,e⟩:=r.get h2;have hl:=r.length;have D:=M8;have c:EP X f g Q w s:=⟨z,H,I,e,q⟩;by_cases k:0<=i
 .have hj:i.toNat=j:=by rw[seqIndex_of k A] at h1;exact AAb h1
  exact item_listR d.isList k (by omega) (by rw[hj];simpa using ew) c hs
 .have hj:(i+(its.toArray.size:Int)).toNat=j:=by rw[seqIndex_neg (by omega) o] at h1;rw[AAW,<-hl];exact AAb h1
  exact subscriptTail_builtinR (x:=w) d.isList.typeIs slot_list_getitem.lookup
   (wpAny_getItem_list_neg (Q:=λr B=>r=w/\EP X f g Q r B) d.isList (by omega) (by rw[AAW] <;> omega) (by omega) (by rw[hj];simpa using ew) ⟨rfl,c⟩) hs
def jF:cu X (oM X.K):=by
 intro value slice e s f H x y v u Q I k l h hs;obtain⟨p,xs,i,z,rfl,rfl,m,he,q⟩:=h;cases k;obtain⟨t,rfl⟩:=l;obtain⟨its,r,g,o⟩:=I.tuple m;obtain⟨j,h1,h2,h3,A,B⟩:=V7 he;obtain⟨w,ew,c⟩:=r.get h2;have hl:=r.length;have C:=M8;have d:EP X e f Q w s:=⟨z,H,I,c,q⟩;exact subscriptTail_builtinR (x:=w) g.typeIs slot_tuple_getitem.lookup
  (getItem_tuple (j:=j) (Q:=λr n=>r=w/\EP X e f Q r n) g (by omega) (by omega) (by rw[AAW,<-hl];exact h1) (by simpa using ew) ⟨rfl,d⟩) hs
def U4 (its:kn km)(n j:Nat)(u:km):Obj.mapSeq (·.setIfInBounds j u) {cls:= .type "list",data:= .seq its.toArray n}={cls:= .type "list",data:= .seq (its.set j u).toArray n}:=by simp[Obj.mapSeq]
def Inv.lst {c:kn (kj×Obj)}{d:St}{H:Hp}{s:kl}{p:kj}{xs:kn V}(I:Inv X c d H s)(h:H p=some (.lst xs)):∃(its:kn km) (n:Nat),Ap xs its/\s.heap.get? p=some {cls:= .type "list",data:= .seq its.toArray n}/\xs.length<=sizeLine:=by obtain⟨z,its,n,r,e⟩:=I.hok p _ h;exact⟨its,n,r,e,z⟩
def Inv.lstUpd {g:kn (kj×Obj)}{i:St}{H:Hp}{s:kl}{p:kj}{xs c:kn V}{its its':kn km}{n d:Nat}{f:Obj->Obj}(I:Inv X g i H s)(h:H p=some (.lst xs))(k:s.heap.get? p=some {cls:= .type "list",data:= .seq its.toArray n})(j:f {cls:= .type "list",data:= .seq its.toArray n}={cls:= .type "list",data:= .seq its'.toArray d})(r:Ap c its')(l:c.length<=sizeLine)(t:Nat):Inv X g i (upd H p (.lst c)) {s with heap:=s.heap.update p f,toks:=t}:=by
 have e:(s.heap.update p f).get? p=some {cls:= .type "list",data:= .seq its'.toArray d}:=by rw[AC1 f k (by rw[j] <;> rfl),j]
 refine I.write (x:=p) (e:=p) (by rw[h];trivial) (.inl rfl) (λb u hb q=>(Heap.get?_update_other _ _ (AAz hb)).trans q) ⟨_,e⟩ ?_;exact⟨l,its',d,r,e⟩
def oR:V->V->V->Hp->(Hp->Prop)->Prop:=λo i v H Q=>∃p xs k j,o= .ref p/\i= .int k/\H p=some (.lst xs)/\YG xs.length k=some j/\Q (upd H p (.lst (xs.set j v)))
def JP:h7 X oR:=by
 intro g s l H o i v y z u Q I m w rv h;obtain⟨p,xs,k,j,rfl,rfl,hp,hj,q⟩:=h;cases m;obtain⟨t,rfl⟩:=w;obtain⟨its,n,r,c,x⟩:=I.lst hp;obtain⟨h1,h2,h3,d⟩:=We hj;have hl:=r.length;have A:=M8;have e:Inv X g l (upd H p (.lst (xs.set j v))) {s with heap:=s.heap.update p (Obj.mapSeq (·.setIfInBounds j u))}:=
  I.lstUpd hp c (U4 its n j u) (r.set rv j) (by rw[List.length_set];exact x) s.toks
 by_cases f:0<=k
 .have hk:k.toNat=j:=by rw[seqIndex_of f d] at h1;exact AAb h1
  exact PySem.W.ki_setAt c f (by omega) (by rw[AAW,<-hl];exact d) (by rw[hk];exact⟨_,e,q⟩)
 .have hk:(k+(its.toArray.size:Int)).toNat=j:=by rw[seqIndex_neg (by omega) h3] at h1;rw[AAW,<-hl];exact AAb h1
  exact PySem.W.ki_setBack c (by omega) (by rw[AAW,<-hl];exact h3) (by omega) (by rw[hk];exact⟨_,e,q⟩)
def Rh (lo hi:ki Int)(n:Nat):(sliceBounds lo hi none n).1=((HT.sIx n 0 lo:Nat):Int)/\(sliceBounds lo hi none n).2.1=((HT.sIx n n hi:Nat):Int)/\(sliceBounds lo hi none n).2.2=1:=by
 refine⟨?_, ?_,rfl⟩
 .cases lo with
  | none=>simp[sliceBounds,HT.sIx]
  | some i=>
    simp only[sliceBounds,HT.sIx,Option.getD_none,show (1:Int)>0 by decide,AA9];by_cases h:i<0
    .simp only[h,AA9] <;> omega
    .simp only[h,AAn] <;> omega
 .cases hi with
  | none=>simp[sliceBounds,HT.sIx]
  | some i=>
    simp only[sliceBounds,HT.sIx,Option.getD_none,show (1:Int)>0 by decide,AA9];by_cases h:i<0
    .simp only[h,AA9] <;> omega
    .simp only[h,AAn] <;> omega
def On (its:kn km)(lo hi:ki Int):slicePick its.toArray lo hi none=((its.drop (HT.sIx its.length 0 lo)).take (HT.sIx its.length its.length hi-HT.sIx its.length 0 lo)).toArray:=by obtain⟨h1,h2,h3⟩:=Rh lo hi its.toArray.size;unfold slicePick;rw[h1,h2,h3];simp only[sliceRange_one,pick_run,AAW] <;> rfl
def tE (K:AAD):V->ki Int->ki Int->Hp->VK->Prop:=λx lo hi H Q=>∃a xs,x= .ref a/\FR K H a xs/\∀p,H p=none->Q (.ref p) (upd H p (.lst (OS xs lo hi)))
def fZ:gI X (tE X.K):=by intro j s k H x v l m lo hi sl Q I d hs e f h;obtain⟨a,xs,rfl,hx,q⟩:=h;cases d;obtain⟨its,r,c,g⟩:=I.list hx;have i:=r.length;refine⟨"list",_,slot_list_getitem.lookup,c.isList.typeIs, ?_⟩;refine wpAny_getItem_list_slice c.isList hs e f .none (by simp) ?_ (by rw[AAW] <;> omega);rw[On,<-i];refine⟨.ref s.heap.objs.size,_,I.laid (t':=s.toks) (o:= .lst (OS xs lo hi)) (λb n q=>AAI _ q) (AAL _) ?_,rfl,q _ (I.hok.fresh (AAL _))⟩;exact⟨AAX (Kk xs lo hi) g,_,0,(r.drop (HT.sIx xs.length 0 lo)).take (HT.sIx xs.length xs.length hi-HT.sIx xs.length 0 lo),AAR _ rfl⟩
def Im:Bu X (.builtin "len") (λxs H Q=>∃p c,xs= [.ref p] /\(FR X.K H p c\/LX X.K H p c)/\Q (.int c.length) H):=by
 intro k s l H xs m Q I r h;obtain⟨p,c,rfl,d,q⟩:=h;obtain⟨u,rfl,i⟩:=vals1 r;cases i;have n:=M8;rcases d with d|d
 .obtain ⟨its,e,f,j⟩:=I.list d;have g:=e.length;exact Calls.call_len_list f.isList (by simp only[AAW] <;> omega) ⟨.int c.length,H,I.tok _,⟨s.toks+1,by rw[AAW,g]⟩,q⟩
 .obtain ⟨its,e,f,j⟩:=I.tuple d;have g:=e.length;exact len_tuple f (by simp only[AAW] <;> omega) ⟨.int c.length,H,I.tok _,⟨s.toks+1,by rw[AAW,g]⟩,q⟩
def QR:Bu X (.type "list") (λxs H Q=>∃p c,xs= [.ref p] /\(FR X.K H p c\/LX X.K H p c)/\∀l,H l=none->Q (.ref l) (upd H l (.lst c))):=by
 intro x s y H xs B Q I r h;obtain⟨p,c,rfl,g,q⟩:=h;obtain⟨u,rfl,z⟩:=vals1 r;cases z;have i:∀(its:kn km),Ap c its->c.length<=sizeLine->∀(h':gn) (d:Nat),(∀b v,s.heap.get? b=some v->h'.get? b=some v)->
  h'.get? s.heap.objs.size=some {cls:= .type "list",dict:=none,data:= .seq its.toArray d,slots:= #[] }->EP X x y Q (.ref s.heap.objs.size) {s with heap:=h'}:=λits f j h' d k e=>
  ⟨.ref s.heap.objs.size,_,I.laid (t':=s.toks) k (AAL _) (show B2 X.prog X.w _ h' _ (.lst c) from⟨j,its,d,f,e⟩),rfl,q _ (I.hok.fresh (AAL _))⟩
 rcases g with g|g
 .obtain ⟨its,f,m,j⟩:=I.list g;have A:=f.length;obtain⟨o,t,hc,n,hd⟩:=m.isList;exact call_list_seq p (.inl rfl) t hc hd (λh' d k e=>i its f j h' d k e) (by simp only[AAW] <;> omega)
 .obtain ⟨its,f,m,j⟩:=I.tuple g;have A:=f.length;obtain⟨o,t,hc,n,hd⟩:=m;exact call_list_seq p (.inr rfl) t hc hd (λh' d k e=>i its f j h' d k e) (by simp only[AAW] <;> omega)
def OQ:Bu X (.type "tuple") (λxs H Q=>∃p c,xs= [.ref p] /\((FR X.K H p c/\∀l,H l=none->Q (.ref l) (upd H l (.tup c)))\/(LX X.K H p c/\Q (.ref p) H))):=by
 intro i s j H xs x Q I r h;obtain⟨p,c,rfl,h⟩:=h;obtain⟨u,rfl,n⟩:=vals1 r;cases n;rcases h with⟨d,q⟩|⟨d,q⟩
 .obtain ⟨its,f,g,k⟩:=I.list d;have y:=f.length;refine call_tuple_list g.isList (λh' t=> ?_) (by simp only[AAW] <;> omega);have m:Inv X i j H {s with heap:=h'}:=I.kept (t':=s.toks) t;have v:Inv X i j (upd H h'.objs.size (.tup c)) {s with heap:=h'.push {cls:= .type "tuple",data:= .seq its.toArray}}:=
   m.laid (t':=s.toks) (λb o e=>AAI _ e) (AAL _) (show B2 X.prog X.w _ _ _ (.tup c) from⟨k,its,f,IsTup.new _ _⟩)
  exact⟨.ref h'.objs.size,_,v,rfl,q _ (m.hok.fresh (AAL _))⟩
 .obtain ⟨its,f,g,k⟩:=I.tuple d;exact call_tuple_same g ⟨.ref p,H,I,rfl,q⟩
def wK (K:AAD)(T:String)(x:V)(H:Hp):Prop:=match x with
 | .str _=>T="str"
 | .int _=>T="int"
 | .ref p=>(T="list" /\∃xs,FR K H p xs)\/(T="tuple" /\∃o,K.lookup p=some o/\o.cls= .type "tuple" /\o.dict=none)\/
     (T="dict" /\((∃kvs,H p=some (.dK kvs))\/∃kvs,H p=some (.dT kvs)))\/(T="set" /\∃S n,H p=some (.set S n))
 | _=>False
def lB {j:kn (kj×Obj)}{k:St}{H:Hp}{s:kl}{T:String}{x:V}{v:km}(I:Inv X j k H s)(r:RelV x v)(d:wK X.K T x H):s.TypeIs v T/\∀a,v= .ref a->∃g,s.heap.get? a=some g/\g.dict=none:=by
 cases x with
 | str z=> obtain⟨t,rfl⟩:=r;cases (show T="str" from d);exact⟨typeIs_str s z t,λ_ e=>nomatch e⟩
 | int i=> obtain⟨t,rfl⟩:=r;cases (show T="int" from d);exact⟨typeIs_int s i t,λ_ e=>nomatch e⟩
 | ref p=>
   cases r;rcases d with⟨rfl,xs,l⟩|⟨rfl,o,hk,hc,hd⟩|⟨rfl,hk⟩|⟨rfl,S,n,hk⟩
   .obtain ⟨its,_,h,_⟩:=I.list l;refine⟨h.isList.typeIs,λa e=> ?_⟩;cases e;obtain⟨o,n,e,c,hd,_⟩:=h;exact⟨o,e,hd⟩
   .refine ⟨⟨o,I.kIn p o hk,hc⟩,λa e=> ?_⟩;cases e;exact⟨o,I.kIn _ o hk,hd⟩
   .have z:∃o,s.heap.get? p=some o/\o.ExactDict:=by
     rcases hk with⟨kvs,hk⟩|⟨kvs,hk⟩
     .obtain ⟨_,_,_,_,o,_,_,e,ex,_⟩:=I.hok p _ hk;exact⟨o,e,ex⟩
     .obtain ⟨_,_,_,_,o,_,_,e,ex,_⟩:=I.hok p _ hk;exact⟨o,e,ex⟩
    obtain⟨o,e,ex⟩:=z;refine⟨⟨o,e,ex.1⟩,λa f=> ?_⟩;cases f;exact⟨o,e,ex.2.1⟩
   .obtain ⟨o,_,_,_,e,ex,_⟩:=I.hok p _ hk;refine⟨⟨o,e,ex.1⟩,λa f=> ?_⟩;cases f;exact⟨o,e,ex.2.1⟩
 | _=>exact False.elim d
def wI (K:AAD)(T:String)(r:V->kn V->Hp->VK->Prop)(d:TE)(t:TA):TE:=λc H Q=>d c H λx H1=>wK K T x H1/\t c H1 λxs e=>r x xs e Q
variable {o e:kf}{es:kn kf}{to:TE}{t:TA}{name:Str}{apos cpos:Pos}{T id:String}{r:V->kn V->Hp->VK->Prop}
def n9 (j:PlainAttrs T)(slot:Slot T name id)(k:typeOf (.builtin id)=pure (.type "method_descriptor"))(l:yF X id r)(m:PE X o to)(ha:PA X (e::es) t)(n:attributeBase o name X.env (eval o X.env)=eval o X.env:=by rfl)(p:((backTo cpos (starEach (e::es) X.env)).all (λx=> !x.1)&&(backToKw cpos (keywordEach [] X.env)).all (λx=>x.1.isSome) && decide ((e::es).length+([] :kn Keyword).length+(if ([] :kn Keyword).isEmpty then 0 else 1)<30))=true:=by rfl)(u:(apos.endLine==cpos.line)=true:=by rfl)(hs:starEach (e::es) X.env=(false,eval e X.env)::starEach es X.env:=by rfl)(w:(backTo cpos (starEach es X.env)).any (·.1)=false:=by rfl):PE X (.Call (.Attribute o name apos) (e::es) [] cpos) (wI X.K T r to t):=by intro c s d H Q I h;refine wpAny_Call_method_late n p u rfl (BO (m c s d H _ I h) λv y ⟨x,H1,f,g,z,A⟩=> ?_);obtain⟨h1,h2⟩:=lB f g z;refine⟨T,id,j,slot,k,h1,h2, ?_⟩;have i:=ha cpos c y d H1 _ f A;rw[hs] at i ⊢;refine AC2 (by show (false||(backTo cpos (starEach es X.env)).any (·.1))=false;rw[w] <;> rfl) (Calls.evalArgs_plain ?_);exact BO i λB C ⟨vs,D,E,F,G⟩=>l c C d D x vs v B Q E g F G
end
def rB (X:Cx)(id:String)(r:V->kn V->Hp->VK->Prop):Prop:=
 ∀(a:kn (kj×Obj)) (s:kl) (b:St) (H:Hp) (x:V) (xs:kn V) (v:km) (c:kn km) (Q:VK),Inv X a b H s->RelV x v->Ap xs c->r x xs H Q->
  wpAny (model X.prog X.w) X.A (call (.builtin id) (v::c)) (EP X a b Q) X.xe s
def Ap.one:∀{x:V} {a:kn km},Ap [x] a->∃u,a= [u] /\RelV x u
 | _,_, .cons r .nil=>⟨_,rfl,r⟩
def Ap.two:∀{x y:V} {a:kn km},Ap [x,y] a->∃u v,a= [u,v] /\RelV x u/\RelV y v
 | _,_,_, .cons r (.cons q .nil)=>⟨_,_,rfl,r,q⟩
def Ap.zero:∀{a:kn km},Ap [] a->a= []
 | _, .nil=>rfl
def Ap.dropLast {xs:kn V}{a:kn km}(h:Ap xs a):Ap xs.dropLast a.dropLast:=by
 induction h with
 | nil=>exact .nil
 | cons r t b=>
   cases t with
   | nil=>exact .nil
   | cons q t'=>exact .cons r b
def Ap.reverse {xs:kn V}{a:kn km}(h:Ap xs a):Ap xs.reverse a.reverse:=by
 induction h with
 | nil=>exact .nil
 | cons r t b=>rw[AC3,AC3];exact Ap.append b (.cons r .nil)
theorem Ap.rep {xs:kn V}{a:kn km}(h:Ap xs a):∀k:Nat,Ap (List.replicate k xs).flatten (List.replicate k a).flatten
 | 0=> .nil
 | k+1=>by rw[ACY,ACY,List.flatten_cons,List.flatten_cons];exact Ap.append h (Ap.rep h k)
section
variable {X:Cx}{Wf:kn (kj×Obj)}{σ:St}{H:Hp}{s:kl}{l b:kj}{xs ys zs:kn V}
def Inv.lset {its its':kn km}{n:Nat}{f:Array km->Array km}{t':Nat}(I:Inv X Wf σ H s)(a:H l=some (.lst xs))(e:s.heap.get? l=some {cls:= .type "list",data:= .seq its.toArray n})(c:f its.toArray=its'.toArray)(hv:Ap ys its')(d:ys.length<=sizeLine):Inv X Wf σ (upd H l (.lst ys)) {s with heap:=s.heap.update l (Obj.mapSeq f),toks:=t'}:=by have q:=PySem.IsL.update e f;rw[c] at q;refine I.write (x:=l) (e:=l) (by rw[a];exact trivial) (.inl rfl) (λg u hb hu=>(Heap.get?_update_other s.heap (Obj.mapSeq f) (AAz hb)).trans hu) ⟨_,q⟩ ?_;exact⟨d,its',_,hv,q⟩
def Inv.lnew {its:kn km}{t':Nat}(I:Inv X Wf σ H s)(hv:Ap ys its)(a:ys.length<=sizeLine):Inv X Wf σ (upd H s.heap.objs.size (.lst ys)) {s with heap:=s.heap.push {cls:= .type "list",data:= .seq its.toArray},toks:=t'}:=
 I.laid (λ_ _ q=>AAI _ q) (AAL _) ⟨a,its,0,hv,AAR _ rfl⟩
def Inv.fresh (I:Inv X Wf σ H s):H s.heap.objs.size=none:=I.hok.fresh (AAL _)
def Inv.lstM (I:Inv X Wf σ H s)(a:H l=some (.lst xs)):xs.length<=sizeLine/\∃(its:kn km) (n:Nat),Ap xs its/\xs.length=its.length/\s.heap.get? l=some {cls:= .type "list",data:= .seq its.toArray n}:=by obtain⟨z,its,n,r,e⟩:=I.hok l _ a;exact⟨z,its,n,r,r.length,e⟩
end
section
variable {X:Cx}
def RL:V->kn V->Hp->VK->Prop:=λx vs H Q=>∃l xs y,x= .ref l/\vs= [y] /\H l=some (.lst xs)/\xs.length<sizeLine/\Q .non (upd H l (.lst (xs ++ [y])))
def Pd:rB X "list.append" RL:=by intro d s f H x vs v g Q I b rv h;obtain⟨l,xs,y,rfl,rfl,a,i,q⟩:=h;cases b;obtain⟨u,rfl,c⟩:=rv.one;obtain⟨z,its,n,r,hl,e⟩:=I.lstM a;refine call_meets F.slot_list_append ⟨_,e,rfl⟩ F.entry_list_append (F.args_list_append_2 _ _) (PySem.list_append l its.toArray n u (by rw[AAW];omega)) ⟨e, ?_⟩;refine⟨.non,_,I.lset (its':=its ++ [u]) a e (by simp) (r.append (.cons c .nil)) ?_,rfl,q⟩;rw[AAi,ABB];omega
def oG:R2:=λx y H Q=>∃l b xs a,x= .ref l/\y= .ref b/\H l=some (.lst xs)/\H b=some (.lst a)/\xs.length+a.length<=sizeLine/\∀p,H p=none->Q (.ref p) (upd H p (.lst (xs++a)))
def VH:DY X (binaryOp .Add) oG:=by
 intro m s o H x y v u Q I c d h;obtain⟨l,b,xs,p,rfl,rfl,f,g,t,q⟩:=h;cases c;cases d;obtain⟨z,its,n,r,hl,e⟩:=I.lstM f;obtain⟨w,a,A,i,B,j⟩:=I.lstM g;refine PySem.P.add_list e j ?_ (by rw[AAW,AAW];omega);have k:its.toArray++a.toArray=(its++a).toArray:=by simp
 rw[k];exact⟨.ref _,_,I.lnew (t':=s.toks) (r.append i) (by rw[AAi];omega),rfl,q _ I.fresh⟩
end
section
variable {prog:kd}{w:kc}{A:fe}{E:km->kl->Prop}{s:kl}
set_option maxRecDepth 100000 in
end
end L2
namespace Att
open PySem PySem.W PySem.Calls PyProof.Rows
def LN {P:Params}{h:gn}:∀(ns:kn Int) (vs:kn km),WellAll P h vs (ns.map WData.int)->IntsAre vs ns:=by
 intro ns;induction ns with
 | nil=> intro vs w;rw[ABy] at w;cases w;exact .nil
 | cons n ns c=>
   intro vs w;rw[AAM] at w;cases w with
   | cons a b=> cases a;exact .cons _ _ (c _ b)
def Yg {l:OpenLaw}{n:Nat}(f:l.most=some n){P:Params}{h:gn}{args:kn WData}{vals:kn km}(e:l.row.toRowW.claim.pre args=true)(g:WellAll P h vals args):∃a vs ns,vals= [Value.ref a] /\args= [WData.list (ns.map WData.int)] /\h.get? a=some {cls:= .type "list",data:= .seq vs.toArray}/\IntsAre vs ns/\ns.length<=n:=by
 have i:WShape.hasAll [] args [.list .int] =true:=(pre_splitW e).1;have hc:l.pre.holds [] {args:=args}=true:=(pre_splitW e).2;obtain⟨d,r,rfl,h1,h2⟩:=hasAllW_cons i;obtain rfl:=hasAllW_nil h2;obtain⟨xs,rfl,h3⟩:=hasW_list h1;obtain⟨ns,rfl⟩:=items_int h3;have j:ns.length<=n:=by
  unfold OpenLaw.pre at hc;have b:(WTm.not (.lt (.lit (.int (n:Int))) (.len (.arg 0)))).holds [] {args:= [.list (ns.map .int)] }=true:=by have b:=(holds_andW hc).1;rw[f] at b;exact b
  have c:=condW_of b (w_not (w_lt w_lit (w_len_list (w_arg rfl))));rw[AAO] at c;refine Nat.le_of_not_lt λq=> ?_;have k:(n:Int)<((ns.length:Nat):Int):=by omega
  first
   | (rw[AAP k] at c;exact absurd c (by decide))
   | (simp at c;omega)
 cases g with
 | cons m o=>
   cases o;cases m with
   | list p s=>exact⟨_,_,ns,rfl,rfl,p,LN ns _ s,j⟩
def Ya (l:OpenLaw)(args:kn WData):l.row.toRowW.claim.post args (.bool true) args=true:=
 postW_of (r:=l.row.toRowW) (X:=(true==true))
  (show WShape.has [] (.bool true) .bool=true by first | rfl|decide|simp[WShape.has,WShape.arms,WShape.armsAll])
  (show (WTm.eq .res (.lit (.bool true))).value [] {args:=args,res:=some (.bool true),after:=args}=some (.bool (true==true)) from w_eq_bool (w_res rfl) w_lit) rfl
def attach_call {l:OpenLaw}{n:Nat}{q:kd}{loose:kn Str}{XP:(Str->ki km)->gn->Prop}{YP:kc->gn->Prop}{d:DefRec}(m:l.most=some n)(p:d.params.defaults= [])(call:∀(w:kc) (s₀ b:kl) (mg i:Str->ki km) (e:kj) (o:Obj) (j g c:km) (a:kj) (vs:kn km) (ns:kn Int),Ground q loose [] XP w s₀ mg i b.heap->YP w b.heap-> b.heap.get? e=some o->o.data= .func (docDef d.name d.params d.body d.scope j g c)->b.heap.CodeRec g d.name->mg d.name=some (.ref e)-> b.heap.get? a=some {cls:= .type "list",data:= .seq vs.toArray}->IntsAre vs ns->ns.length<=n->b.gens= #[] -> codeAny (model l.prog w) callerA (.call (.ref e) ⟨[.ref a], []⟩) (λr h=>r= .ok (.ret (.bool true))/\OldK b.heap h.heap/\h.os=b.os/\AllBare h.gens) b):WalkO q loose XP YP l.row.toRowW d [] (λf vs=>PySem.call f vs):=by intro w s₀ b mg i G Y e o j g c s kV t hd u k v x args vals as y J z A B;obtain rfl:s= .none:=Dflts.none k p;obtain rfl:kV= .none:=Dflts.noKw k;obtain⟨a,vs,ns,rfl,rfl,C,D,E⟩:=Yg m y A;refine enter_call (ACF (call w s₀ b mg i e o j g c a vs ns G Y t (fd_plain hd) u v C D E x) λr h F=> ?_);obtain⟨rfl,h2,h3,H⟩:=F;exact⟨.inl ⟨.bool true, .bool true, [],rfl,λ_=>rfl, .bool true,Ya l _,λ_=>⟨List.Pairwise.nil,λ_ I=>(nomatch I)⟩⟩,h2,h3,H⟩
section
variable {prog:kd}{w:kc}{A:fe}{E:km->kl->Prop}{s:kl}{K:Frag}
def sW (h:gn)(L d:kj):kn (kj×Obj):=(List.range h.objs.size).filterMap λa=>if a=L\/a=d then none else (h.get? a).map λo=>(a,o)
end
end Att
namespace L2
open PySem PySem.Spec PyProof.Rows
theorem Pp:∀{vs:kn km} {ns:kn Int},IntsAre vs ns->Ap (ns.map V.int) vs
 | _,_, .nil=> .nil
 | _,_, .cons n t h=> .cons ⟨t,rfl⟩ (Pp h)
def hZ (H:Hp):Prop:=∀b,H b=none\/∃o xs,H b=some (.frz o (.lst xs))
def aE {P:kd}{w:kc}{K:AAD}{mg p:Str->ki km}{CX:XV}{k:Nat}{t a:kj}{B:FuncData}{x:Str}{sp:Sp}{c:kl}{vs:kn km}{ns:kn Int}(C:K.In c.heap)(D:c.heap.Ns mainGlobals mg)(hb:c.heap.Ns builtinsNs p)(L:∀x:Str,x≠"__name__" ->p x=bootBuiltins x)(M:c.heap.NoLimit)(N:c.gens= #[])(ha:c.heap.get? a=some {cls:= .type "list",data:= .seq vs.toArray})(hi:IntsAre vs ns)(hl:ns.length<=sizeLine)(O:Room k callerA)(F:∀base:gn,K.In base->base.Ns mainGlobals mg->Dh P w K mg base CX k t B [x] sp)(Q:∀(s:kl) (u:km),BindsTo s B ⟨[u], []⟩ [(x,u)])(R:∀H:Hp,hZ H->FR K H a (ns.map V.int)->sp [.ref a] H (λv _=>v= .bl true) λ_ _ _=>False)(S:∀H e g,CX [] H c (λ_ _ _=>False) e g->False):codeAny (model P w) callerA (.call (.ref t) ⟨[.ref a], []⟩) (λr g=>r= .ok (.ret (.bool true))/\OldK c.heap g.heap/\g.os=c.os/\AllBare g.gens) c:=by
 have rv:=Pp hi;have j:=hi.length;have core:∀H:Hp,hZ H->FR K H a (ns.map V.int)->Ie P w H c.heap->(∀b,H b≠none->b=a)->(H a≠none->K.lookup a=none)->
  codeAny (model P w) callerA (.call (.ref t) ⟨[.ref a], []⟩) (λr g=>r= .ok (.ret (.bool true))/\OldK c.heap g.heap/\g.os=c.os/\AllBare g.gens) c:=by
  intro H E T hok G U;have f:∀{b:kj} {o:Obj},c.heap.get? b=some o->H b=none->(Qj c.heap H).get? b=some o:=λe n=>Zw e n;have y:∀{b:kj} {o:Obj} {es:Array DictEntry} {ep:Nat},c.heap.get? b=some o->o.data= .dict es ep->H b=none:=λ{b o es ep} e d=>by
   cases q:H b with
   | none=>rfl
   | some u=> have A:b=a:=G b (by rw[q];simp);subst A;rw[ha] at e;cases e;have d':Data.seq vs.toArray _=Data.dict es ep:=d;cases d'
  have i:∀{b:kj} {m:Str->ki km},c.heap.Ns b m->(Qj c.heap H).Ns b m:=λ{b m} ⟨o,es,ep,e,d,r⟩=>⟨o,es,ep,f e (y e d),d,r⟩;have I:K.In (Qj c.heap H):=λb o e=>f (C b o e) (by
   cases q:H b with
   | none=>rfl
   | some u=>
     have A:b=a:=G b (by rw[q];simp);subst A;rw[U (by rw[q];simp)] at e;cases e)
  have W:Mod K mg (Qj c.heap H):=⟨I,i D,⟨p,i hb,L⟩,let ⟨X,h1,h2⟩:=M;⟨X,i h1,h2⟩⟩;have Y:OM P w K mg (Qj c.heap H) callerA [] c H:=⟨rfl,W,λb o e=>dm e,Nat.le_of_eq (YA _ _),trivial,λb hb=>absurd (show b∈([] :kn kj) from hb) (by simp),hok, .of_eq N⟩;refine ACF ((F _ I (i D)).run callerA [] c H ⟨[.ref a], []⟩ [.ref a] [.ref a] _ _ O Y (Q c (.ref a)) (.cons rfl .nil) (R H E T)) λr g h=> ?_;cases r with
  | error e=>exact(S H e g h).elim
  | ok Z=>
    cases Z with
    | next=>exact False.elim h
    | brk=>exact False.elim h
    | cont=>exact False.elim h
    | ret u=>
      obtain⟨v,H',os,bare,un,sD,r',q⟩:=h;have q':v= .bl true:=q;subst q';obtain rfl:u=Value.bool true:=r';refine⟨rfl,OldK.of_keep λb o e=> ?_,os,bare⟩;cases q:H b with
      | none=>exact un.keep b o e q (by intro z;exact absurd (show b∈([] :kn kj) from z) (by simp)) (by simp)
      | some u=>
        rcases E b with z|⟨ob,xs,z⟩
        .rw [q] at z;cases z
        .have z2:=un.frzs b ob _ z;obtain⟨J,_⟩:=hok b _ z;obtain⟨e2,_⟩:=sD b _ z2;rw[e] at J;cases J;exact e2
 cases hk:K.lookup a with
 | some o=> have e:=C a o hk;rw[ha] at e;cases e;refine core (λ_=>none) (λ_=> .inl rfl) (.inr ⟨_,vs.toArray,_,hk,rfl,rfl,rfl,by rw[AAW,j];exact hl,by simpa using rv⟩) (λb u z=>by have l:(none:ki HO)=some u:=z;cases l) (λb z=>absurd rfl z) λz=>absurd rfl z
 | none=>
   refine core (λb=>if b=a then some (.frz {cls:= .type "list",data:= .seq vs.toArray} (.lst (ns.map V.int))) else none) (λb=> ?_) (.inl (.inr ⟨{cls:= .type "list",data:= .seq vs.toArray},AAG rfl⟩)) (λb u z=> ?_) (λb z=> ?_) λ_=>hk
   .by_cases hb:b=a
    .exact .inr ⟨_,_,AAG hb⟩
    .exact .inl (AAF hb)
   .by_cases hb:b=a
    .have l:=(AAG hb).symm.trans z;cases l;subst hb;exact⟨ha,by rw[AAO];exact hl,vs,_,rv,ha⟩
    .have l:=(AAF hb).symm.trans z;cases l
   .by_cases hb:b=a
    .exact hb
    .exact absurd (AAF hb) z
abbrev KOf {K:AAD}{h:gn}(_:K.In h):AAD:=K
def walk_of {l:PySem.W.OpenLaw}{n k:Nat}{q:kd}{loose:kn Str}{XP:(Str->ki km)->gn->Prop}{YP:kc->gn->Prop}{d:DefRec}{K:Params->AAD}{CX:kc->XV}{sp:kc->Sp}{x:Str}(t:l.most=some n)(y:n<=sizeLine)(z:d.params.defaults= [])(A:Room k callerA)(B:∀(w:kc) (h:gn),YP w h->(K w.params).In h)(F:∀(w:kc) (mg:Str->ki km) (i:kj) (h:gn),(K w.params).In h->h.Ns mainGlobals mg->mg d.name=some (.ref i)-> ∃j:FuncData,(∀(s:kl) (u:km),BindsTo s j ⟨[u], []⟩ [(x,u)])/\ ∀base:gn,(K w.params).In base->base.Ns mainGlobals mg->Dh l.prog w (K w.params) mg base (CX w) k i j [x] (sp w))(C:∀(w:kc) (H:Hp) (a:kj) (ns:kn Int),ns.length<=n->hZ H->FR (K w.params) H a (ns.map V.int)->sp w [.ref a] H (λv _=>v= .bl true) λ_ _ _=>False)(D:∀(w:kc) (H:Hp) (s:kl) (e:km) (m:kl),CX w [] H s (λ_ _ _=>False) e m->False):PySem.W.WalkO q loose XP YP l.row.toRowW d [] (λf vs=>PySem.call f vs):=by refine Att.attach_call t z λw s₀ c mg P i o Q R E a vs ns G Y S hd U I J L p M=> ?_;have r:=B w _ Y;obtain⟨j,hb,hF⟩:=F w mg i _ r G.T.g I;exact aE r G.T.g G.T.b G.T.builtins G.T.nolimit M J L (AAX p y) A hF hb (λH N O=>C w H a ns p N O) λH e m=>D w H c e m
abbrev MR:XV:=λ_ _ _ _ _ _=>False
abbrev E0:XK:=λ_ _ _=>False
def gY {X:Cx}:Passes MR X E0:=λ_ _ _ _ _ _ _ h=>h.elim
structure Vz (K:AAD) (x qual:Str) (st:Stmt) (f:Addr) (fd:FuncData):Prop where
 ex:∃(oc:Value) (od:Option Addr) (kV doc pm:Value) (an:Option Addr) (cdv ct:Value) (osl:Array (Option Value)),
  fd=PySem.W.fnOf x qual (Ds st) (CC st) (As st) .none kV doc pm an cdv ct/\K.lookup f=some ⟨oc,od, .func fd,osl⟩/\PySem.W.codeIn K cdv qual=true
 kp:PySem.W.keepIn K (.ref f)=true
section
variable {P:kd}{w:kc}{K:AAD}{mg:Str->ki km}{base:gn}
def Vz.ok {x qual:Str}{st:Stmt}{f:kj}{b:FuncData}{N ps:kn Str}{k:Nat}{sp:Sp}(F:Vz K x qual st f b)(S:DN N ps (As st))(len:∀vs H Q E,sp vs H Q E->vs.length=ps.length)(c:∀(a:km) (A:fe) (outer:kn Env) (s:kl) (H:Hp) (vs:kn V) (Q:VK) (E:XK),Room k (A.deeper (envOfC qual (As st) s.heap.objs.size f a))->sp vs H Q E-> ∃t,R9 (OT MR P w K mg base N qual (As st) f a A outer s H E).nox (CC st) t/\t {nx:=λ_ d=>Q .non d,rt:=Q} (start N vs) H):Dh P w K mg base MR (k+1) f b ps sp:=by obtain⟨n,o,kV,e,p,r,a,ct,g,rfl,i,j⟩:=F.ex;refine gM i j S len λA outer s H vs Q E l m=> ?_;obtain⟨t,h,q⟩:=c a A outer s H vs Q E l m;exact⟨t,h.nox,q⟩
def Vz.binds {x qual:Str}{st:Stmt}{f:kj}{g:FuncData}{ps:kn Str}(F:Vz K x qual st f g)(h:∀(kV a c:km) (d:ki kj) (b ct:km) (e:kn km),e.length=ps.length->bindArgs (PySem.W.fnOf x qual (Ds st) (CC st) (As st) .none kV a c d b ct) ⟨e, []⟩=pure (ps.zip e)):Binds K g ps [] :=by obtain⟨j,k,kV,a,c,d,b,ct,i,rfl,l,m⟩:=F.ex;exact .all (h kV a c d b ct)
def Zj {x qual:Str}{st:Stmt}{f:kj}{h:km}{i e:ki kj}{d:Array (ki km)}{kV b g a ct:km}(l:K.lookup f=some ⟨h,i, .func (PySem.W.fnOf x qual (Ds st) (CC st) (As st) .none kV b g e a ct),d⟩)(c:PySem.W.codeIn K a qual=true)(k:PySem.W.keepIn K (.ref f)=true):Vz K x qual st f (PySem.W.fnOf x qual (Ds st) (CC st) (As st) .none kV b g e a ct):=⟨⟨h,i,kV,b,g,e,a,ct,d,rfl,l,c⟩,k⟩
end
section
variable {X:Cx}
def pv (i:Nat){x:Str}{pos:Pos}(hN:X.N[i]? =some x:=by rfl)(hv:cT X.env.scope x:=by first | exact Or.inl rfl|exact Or.inr (Or.inl rfl)|exact Or.inr (Or.inr rfl))(hd:(x==("__debug__" :Str))=false:=by decide)(a:(x==("__classdict__" :Str))=false:=by decide):PE X (.Name x pos) (IN i):=Hz hN hv hd a
end
def nO {c A B:Prop}[Decidable c](h1:c->A)(h2:¬c->B):if c then A else B:=by
 by_cases h:c
 .rw [AAG h];exact h1 h
 .rw [AAF h];exact h2 h
def SC (H a:Hp):Prop:=∀b o,H b=some o->a b=some o
def SC.free {H a:Hp}(e:SC H a){l:kj}(h:a l=Option.none):H l=Option.none:=by
 cases q:H l with
 | none=>rfl
 | some o=> rw[e l o q] at h;cases h
def SC.seq {K:AAD}{H b:Hp}{a:kj}{xs:kn V}(e:SC H b)(h:FR K H a xs):FR K b a xs:=by
 rcases h with(h|⟨o,h⟩)|h
 .exact .inl (.inl (e _ _ h))
 .exact .inl (.inr ⟨o,e _ _ h⟩)
 .exact .inr h
theorem Ju {c d:Type}[BEq c][LawfulBEq c]{k:c}{a:d}:∀{l:kn (c×d)},l.lookup k=some a->(k,a)∈l
 | [],h=>by simp at h
 | (n,b)::r,h=>by
   rw[List.lookup_cons] at h;cases e:k==n with
   | true=>
     rw[e] at h;have f:k=n:=by simpa using e
     have hb:b=a:=by simpa using h
     subst f hb;exact ABr
   | false=> rw[e] at h;exact ABN _ (Ju h)
theorem PU {c d:Type}[BEq c][LawfulBEq c]{k:c}{a:d}:∀{l:kn (c×d)},(k,a)∈l->∃b,l.lookup k=some b
 | [],h=>nomatch h
 | (n,b)::r,h=>by
   rw[List.lookup_cons];cases e:k==n with
   | true=>exact⟨b,rfl⟩
   | false=>
     rcases AAJ.mp h with z|z
     .have:k=n:=congrArg Prod.fst z;rw[this] at e;simp at e
     .exact PU z
theorem GU {env:Env}{F:Str×NameKind->kn (Str×kj)->Sem (ForInStep (kn (Str×kj)))}(h1:∀n r c,env.cells.lookup n=some c->F (n, .free) r=pure (.yield ((n,c)::r)))(h2:∀n k r,k≠NameKind.free->F (n,k) r=pure (.yield r)):∀(names:kn (Str×NameKind)) (f:kn (Str×kj)),(∀x∈names,x.2= .free->∃c,env.cells.lookup x.1=some c)-> ∃cl,(forIn names f F:Sem _)=pure cl/\(∀p∈cl,p∈f\/env.cells.lookup p.1=some p.2)/\(∀p∈f,p∈cl)/\∀x∈names,x.2= .free->∃c,(x.1,c)∈cl
 | [],f,_=>⟨f,rfl,λp hp=> .inl hp,λp hp=>hp,λx hx=>nomatch hx⟩
 | (n,k)::r,f,h=>by
   by_cases hk:k= .free
   .subst hk;obtain⟨c,hc⟩:=h (n, .free) ABr rfl;obtain⟨cl,e,a,b,d⟩:=GU h1 h2 r ((n,c)::f) (λx hx=>h x (ABN _ hx));refine⟨cl, ?_,λp hp=> ?_,λp hp=>b p (ABN _ hp),λx hx g=> ?_⟩
    .rw [ACJ,h1 n f c hc];exact e
    .rcases a p hp with z|z
     .rcases AAJ.mp z with z|z
      .subst z;exact .inr hc
      .exact .inl z
     .exact .inr z
    .rcases AAJ.mp hx with z|z
     .subst z;exact⟨c,b _ ABr⟩
     .exact d x z g
   .obtain ⟨cl,e,a,b,d⟩:=GU h1 h2 r f (λx hx=>h x (ABN _ hx));refine⟨cl, ?_,a,b,λx hx g=> ?_⟩
    .rw [ACJ,h2 n k f hk];exact e
    .rcases AAJ.mp hx with z|z
     .subst z;exact absurd g hk
     .exact d x z g
def Hr {env:Env}{scope:Scope}(h:∀x∈scope.names,x.2= .free->∃c,env.cells.lookup x.1=some c):∃cl,closureFor scope env=pure cl/\(∀y c,cl.lookup y=some c->env.cells.lookup y=some c)/\∀y,(y,NameKind.free)∈scope.names->∃c,cl.lookup y=some c:=by
 obtain⟨cl,e,a,_,d⟩:=GU (env:=env) (F:=λx cs=>match x with | (name,kind)=>if (kind==NameKind.free)=true then do let a <-cellOf env name;pure (ForInStep.yield ((name,a)::cs)) else pure (ForInStep.yield cs))
  (λn r c hc=>by
    show (do let a <-cellOf env n;pure (ForInStep.yield ((n,a)::r)):Sem _)=_;unfold cellOf;rw[hc];rfl)
  (λn k r hk=>by
    have:(k==NameKind.free)=false:=by simpa using hk
    simp[this]) scope.names [] h
 refine⟨cl, ?_,λy c q=> ?_,λy b=> ?_⟩
 .unfold closureFor;have f:(forIn scope.names ([] :kn (Str×kj)) λx cs=>match x with | (name,kind)=>if (kind==NameKind.free)=true then do let a <-cellOf env name;pure (ForInStep.yield ((name,a)::cs)) else pure (ForInStep.yield cs):Sem _) >>= (λr=>pure r)=pure cl:=by rw[e];rfl
  exact f
 .rcases a _ (Ju q) with z|z
  .exact nomatch z
  .exact z
 .obtain ⟨c,hc⟩:=d (y, .free) b rfl;exact PU hc
def Hm (env:Env)(sc:Scope)(cl:kn (Str×kj))(C:kj):Env:=
 {scope:=sc,locals:=C,globals:=env.globals,cells:=cl,qual:=env.qual,func:=none,code:=env.code,frame:=env.frame,builtins:=env.builtins}
def blk (X:Cx)(sc:Scope)(N:kn Str)(cl:kn (Str×kj))(C:kj)(s:kl)(H:Hp)(ex:kn kj)(pn:kn (kj×Obj)):Cx where
 prog:=X.prog
 w:=X.w
 K:=X.K
 mg:=X.mg
 base:=X.base
 A:=X.A
 N:=N
 s₀:=s
 H₀:=H
 env:=Hm X.env sc cl C
 outer:=X.stack
 stack:=X.stack
 ex:=ex
 fn:=λ_=>false
 calm:=X.calm
 pn:=pn
 xe:=λ_ _=>False
section
variable {X:Cx}{Wf:kn (kj×Obj)}{σ:St}{H:Hp}{s:kl}{fp:kn kj}{sc:Scope}{N:kn Str}{cl:kn (Str×kj)}
def Inv.notStk (I:Inv X Wf σ H s){b:kj}(h1:b≠X.env.locals)(h2:b ∉ X.fs):b ∉ Yx X.stack:=λz=>by
 rcases AAJ.mp (I.stkSub b z) with e|e
 .exact h1 e
 .exact h2 e
def Inv.szLt (I:Inv X Wf σ H s){x:Str}{c:kj}(e:X.env.cells.lookup x=some c):c<s.heap.objs.size:=by obtain⟨v,q⟩:=I.cell x c e;exact q.lt
def iO (I:Inv X Wf σ H s)(d:∀b∈fp,Fk X Wf H b)(f:∀b∈fp,b<s.heap.objs.size)(hk:sc.kind= .function)(h1:∀y c,cl.lookup y=some c->X.env.cells.lookup y=some c)(h2:∀y,(sc.names.lookup y=some .cell\/sc.names.lookup y=some .free)->∃c,cl.lookup y=some c):(blk X sc N cl s.heap.objs.size s H fp (X.pn++Wf)).Ok where
 mod:=I.ok.mod
 kind:=hk
 glob:=I.ok.glob
 blt:=I.ok.blt
 above:=AAL _
 inj:=λx y c a b=>I.ok.inj x y c (h1 x c a) (h1 y c b)
 has:=λx hx=>h2 x hx
 cab:=λx c z=>nomatch z
 hd:=I.ok.hd
 frames:=I.ok.frames
 stk:= .inl rfl
 exf:=λb hb=>⟨AAN (f b hb),λx c e=>(d b hb).2.2.2.2.1 x c (h1 x c e)⟩
 bs:=I.bs
 bsz:=AAX I.ok.bsz I.sz
 noex:=λb o e hb=>by
  rcases (d b hb).2.2.2.1 with z|z
  .exact I.ok.noex b o e z
  .exact absurd (AAV (AAH (I.ok.bs b o e).1) z) (ABO _)
 exfs:=λb hb=>I.notStk (d b hb).2.1 (d b hb).2.2.1
 funs:=I.stack
 frf:=I.stkFree
def CQ (own:Nat)(ix:kn Nat)(σ:St):St:=List.replicate own none++ix.map λi=>(σ[i]?).getD none
def Xi {own:Nat}{ix:kn Nat}{σ:St}:(CQ own ix σ).length=own+ix.length:=by simp[CQ]
def Ho {own:Nat}{ix:kn Nat}{σ:St}{j:Nat}{v:V}(h:(CQ own ix σ)[j]? =some (some v)):own<=j/\∃i,ix[j-own]? =some i/\σ[i]? =some (some v):=by
 unfold CQ at h;by_cases hj:j<own
 .rw [ABQ (by simpa using hj),ABf] at h;simp[hj] at h
 .have Qk:own<=j:=by omega
  rw[ABJ (by simpa using Qk),ABg,AAr] at h;refine⟨Qk, ?_⟩;cases e:ix[j-own]? with
  | none=>rw[e] at h;simp at h
  | some i=>
    rw[e] at h;refine⟨i,rfl, ?_⟩;have h':(σ[i]?).getD none=some v:=by simpa using h
    cases a:σ[i]? with
    | none=>rw[a] at h';simp at h'
    | some o=>
      rw[a] at h';have:o=some v:=by simpa using h'
      rw[this]
structure ZB (X:Cx) (sc:Scope) (own:Nat) (ix:List Nat) (N:List Str):Prop where
 len:N.length=own+ix.length
 out:∀j i,ix[j]? =some i->∃x,N[own+j]? =some x/\X.N[i]? =some x/\X.env.scope.names.lookup x=some .cell/\sc.names.lookup x=some .cell
def ZU {own:Nat}{ix:kn Nat}{h':gn}{m:Str->ki km}{t':Nat}(I:Inv X Wf σ H s)(B:∀b∈fp,Fk X Wf H b)(C:∀b∈fp,b<s.heap.objs.size)(hk:sc.kind= .function)(h1:∀y c,cl.lookup y=some c->X.env.cells.lookup y=some c)(h2:∀y,(sc.names.lookup y=some .cell\/sc.names.lookup y=some .free)->∃c,cl.lookup y=some c)(F:ZB X sc own ix N)(D:h'.Ns s.heap.objs.size m)(k:∀b o,s.heap.get? b=some o->h'.get? b=some o):Inv (blk X sc N cl s.heap.objs.size s H fp (X.pn++Wf)) [] (CQ own ix σ) H {s with heap:=h',toks:=t'} where
 ok:=iO I B C hk h1 h2
 os:=rfl
 bare:=I.bare
 base:=Un.kept k
 loc:=by
  refine⟨m,D,λi x v E G S=> ?_⟩;obtain⟨Qk,J,K,es⟩:=Ho G;obtain⟨y,n,L,t,w⟩:=F.out _ _ K;have g:x=y:=by have h:N[i]? =some x:=E;rw[show own+(i-own)=i by omega,h] at n;exact AAb n
  subst g;obtain⟨m0,M,O⟩:=I.loc;obtain⟨u,r,l⟩:=O J x v L es (.inr (.inl t));refine⟨u,r, ?_⟩;rcases l with⟨z,_⟩|⟨_,c,P,z⟩
  .have A:X.env.scope.names.lookup x=some .local:=z;rw[t] at A;cases A
  .obtain ⟨Q,f⟩:=h2 x (.inl w);have:=h1 x Q f;rw[P] at this;cases this;obtain⟨o,j,hd⟩:=z;exact .inr ⟨.inl w,c,f,o,k c o j,hd⟩
 cell:=λx c e=>by obtain⟨v,o,j,hd⟩:=I.cell x c (h1 x c e);exact⟨v,o,k c o j,hd⟩
 free:=I.hok.fresh (AAL _)
 freeC:=λx c e=>I.freeC x c (h1 x c e)
 pin:=λp hp=>by
  have R:p∈X.pn++Wf:=by simpa[blk] using hp
  obtain⟨a,b,c,d,e⟩:=I.pin p R;exact⟨k _ _ a,b,AAN (AAH a),I.notStk c d,e⟩
 hok:=I.hok.kept k
 len:=by rw[Xi];exact F.len.symm
def WA {own:Nat}{ix:kn Nat}{σ':St}{d:Hp}{e:kl}{a:kn (kj×Obj)}(I:Inv X Wf σ H s)(c:∀b∈fp,Fk X Wf H b)(f:∀b∈fp,b<s.heap.objs.size)(B:Inv (blk X sc N cl s.heap.objs.size s H fp (X.pn++Wf)) a σ' d e):Inv X Wf σ d e:=
 I.call' (ch:=fp) B.os B.base B.hok B.bare λb hb=>⟨(c b hb).2.2.2.1,(c b hb).2.1,(c b hb).2.2.2.2.1,(c b hb).2.2.2.2.2⟩
def SD {d:Hp}{σ':St}{a:kl}{C:kj}{h':gn}(I:Inv X Wf σ H s)(f:C=s.heap.objs.size)(g:Inv X Wf σ' d a)(h:d C=none)(hs:Heap.SameBut C a.heap h'):Inv X Wf σ' d {a with heap:=h'}:=by subst f;refine g.turned (t':=a.toks) (it:=s.heap.objs.size) (λb o hb e=>(hs.2 b hb).trans e) h (AAh I.lt) (.inr I.sz) (λx c e=>AAN (I.szLt e)) λp hp=>AAN (AAH (I.pin p hp).1)
end
def gH (X:Cx)(a:kn kf)(t:TT):Prop:=
 ∀(d:kn (kj×Obj)) (s:kl) (b:St) (H:Hp) (Q:ke->Hp->Prop),Inv X d b H s->t b H Q->
  wpAny (model X.prog X.w) X.A (forIn a true λc r=>if r=true then do let ok <-isTrue c X.env (eval c X.env);pure (ForInStep.yield ok) else pure (ForInStep.yield r)) (TP X d b Q) X.xe s
def fx:TT:=λ_ H Q=>Q true H
def Wq {X:Cx}:gH X [] fx:=λ_ _ _ H _ I h=>wpAny_tests_nil ⟨H,I,h⟩
def eV {X:Cx}{c:kf}{t:TT}(hc:PT X c t):gH X [c] t:=λa s b H Q I h=>wpAny_tests_one (hc a s b H Q I h)
def Ma (own:Nat)(g:TG):Prop:=∀v b H Q,g v b H Q->g v b H λa c=>Q a c/\a.length=b.length/\∀j,own<=j->a[j]? =b[j]?
def Mb (own:Nat)(g:UX):Prop:=∀vs b H Q,g vs b H Q->g vs b H λa c=>Q a c/\a.length=b.length/\∀j,own<=j->a[j]? =b[j]?
def Qc {own i:Nat}(h:i<own):Ma own (Cw i):=λv a H Q q=>⟨q,by simp,λj hj=>AAc (by omega)⟩
def WT {own:Nat}:Mb own Qa:=λvs a H Q q=>⟨q.1,q.2,rfl,λ_ _=>rfl⟩
def Mw {own:Nat}{t:TG}{u:UX}(h1:Ma own t)(m1:∀v b H Q d,(∀a c,Q a c->d a c)->t v b H Q->t v b H d)(h2:Mb own u)(m2:∀v b H Q d,(∀a c,Q a c->d a c)->u v b H Q->u v b H d):Mb own (FW t u):=by intro vs b H Q q;obtain⟨v,r,e,q⟩:=q;refine⟨v,r,e,m1 _ _ _ _ _ (λa c z=> ?_) (h1 _ _ _ _ q)⟩;obtain⟨z,l,g⟩:=z;refine m2 _ _ _ _ _ (λh m f=> ?_) (h2 _ _ _ _ z);obtain⟨f,i,k⟩:=f;exact⟨f,i.trans l,λj hj=>(k j hj).trans (g j hj)⟩
def Lc {i:Nat}:∀v b H Q c,(∀a d,Q a d->c a d)->Cw i v b H Q->Cw i v b H c:=λ_ _ _ _ _ m q=>m _ _ q
def Qe:∀v b H Q c,(∀a d,Q a d->c a d)->Qa v b H Q->Qa v b H c:=λ_ _ _ _ _ m q=>⟨q.1,m _ _ q.2⟩
def Ss {t:TG}{u:UX}(m1:∀v b H Q c,(∀a d,Q a d->c a d)->t v b H Q->t v b H c)(m2:∀v b H Q c,(∀a d,Q a d->c a d)->u v b H Q->u v b H c):∀v b H Q c,(∀a d,Q a d->c a d)->FW t u v b H Q->FW t u v b H c:=λ_ _ _ _ _ m ⟨v,r,e,q⟩=>⟨v,r,e,m1 _ _ _ _ _ (λ_ _ z=>m2 _ _ _ _ _ m z) q⟩
def Uc (J:It)(D:kj)(σ0:St)(g:TG)(h:TT)(j:TE)(Q:Hp->Prop)(W:Nat->Nat->Hp->Prop):Prop:=
 ∀i m H,W i m H->(J.stop i H/\Q H)\/(J.go i H/\∀x d,J.yld i H x d->g x σ0 d λa k=>h a k λok e=>
  if ok=true then j a e λy f=>∃c,f D=some (.lst c)/\c.length<sizeLine/\∃b,b<m/\W (i+1) b (upd f D (.lst (c ++ [y]))) else ∃b,b<m/\W (i+1) b e)
def b9 (b:TI)(own:Nat)(ix:kn Nat)(g:TG)(c:TT)(d:TE):TE:=λa H Q=>b a H λJ H1=>∀D,H1 D=none->
 ∃W:Nat->Nat->Hp->Prop,(∃m,W 0 m (upd H1 D (.lst [])))/\Uc J D (CQ own ix a) g c d (Q (.ref D)) W
section
variable {X:Cx}{tg elt iter:kf}{ifs:kn kf}{scope:Scope}{pos:Pos}{wi:TI}{own:Nat}{ix:kn Nat}{N:kn Str}{g:TG}{tt:TT}{te:TE}
structure Fg (X:Cx) (tg elt:Expr) (ifs:List Expr) (scope:Scope) (own:Nat) (ix:List Nat) (N:List Str) (g:TG) (tt:TT) (te:TE):Prop where
 kind:scope.kind= .function
 nocell:∀y∈scope.names,y.2≠ .cell
 names:∀y∈scope.names,y.2= .local->scope.names.lookup y.1=some .local
 frees:∀y∈scope.names,y.2= .free->X.env.scope.names.lookup y.1=some .cell
 ins:ZB X (relabel scope X.env) own ix N
 keep:Ma own g
 tgt:∀cl C s H ex pn,PG (blk X (relabel scope X.env) N cl C s H ex pn) tg g
 tst:∀cl C s H ex pn,gH (blk X (relabel scope X.env) N cl C s H ex pn) ifs tt
 val:∀cl C s H ex pn,PE (blk X (relabel scope X.env) N cl C s H ex pn) elt te
def Ey {env:Env}{y:Str}{k:NameKind}(c:∀y∈scope.names,y.2≠ .cell)(h:(y,k)∈(relabel scope env).names)(hk:k= .cell\/k= .free):(y,NameKind.free)∈scope.names:=by
 obtain⟨⟨n,b⟩,a,e⟩:=AAK.mp (show (y,k)∈scope.names.map _ from h);dsimp only at e;split at e
 .rename_i hc;cases e;have:b= .free:=by cases b <;> simp_all
  subst this;exact a
 .cases e;rcases hk with z|z
  .subst z;exact absurd rfl (c _ a)
  .subst z;exact a
def Xr {C:kn (kj×Obj)}{P:St}{H:Hp}{s:kl}{k:kn kj}{cl:kn (Str×kj)}{it:kj}{tn:Nat->gn->Prop}{J:It}{D:kj}{R:Result->kl->Prop}{Qh:Hp->Prop}{W:Nat->Nat->Hp->Prop}(hc:X.calm=true)(O:Fg X tg elt ifs scope own ix N g tt te)(T:LG X.prog X.w X.K tg J k it tn)(I:Inv X C P H s)(hf:∀b∈k,Fk X C H b)(GG:∀b∈k,b<s.heap.objs.size)(hW:Uc J D (CQ own ix P) g tt te Qh W)(hR:∀σ' a S,Inv (blk X (relabel scope X.env) N cl s.heap.objs.size s H k (X.pn++C)) [] σ' a S->Qh a->R (.ok .next) S)(n:Nat)(s0:kl)(h0:∃i a,Inv (blk X (relabel scope X.env) N cl s.heap.objs.size s H k (X.pn++C)) [] (CQ own ix P) a s0/\tn i s0.heap/\(∀b∈k,a b=none)/\W i n a):codeAny (model X.prog X.w) X.A (.compLoop (.ListComp elt [⟨tg,iter,ifs,0⟩] scope pos) 0 (.ref it) (.ref D) (Hm X.env (relabel scope X.env) cl s.heap.objs.size)) R s0:=by
 refine codeAny_loop rfl (λn S=>∃i a,Inv (blk X (relabel scope X.env) N cl s.heap.objs.size s H k (X.pn++C)) [] (CQ own ix P) a S/\tn i S.heap/\(∀b∈k,a b=none)/\W i n a) (λn s1 h1=> ?_) n h0;obtain⟨i,H1,B1,U,Z,w1⟩:=h1;generalize f:blk X (relabel scope X.env) N cl s.heap.objs.size s H k (X.pn++C)=Y at *;have eA:Y.A=X.A:=by rw[<-f];rfl
 have eP:Y.prog=X.prog:=by rw[<-f];rfl
 have eW:Y.w=X.w:=by rw[<-f];rfl
 have eK:Y.K=X.K:=by rw[<-f];rfl
 have eE:Hm X.env (relabel scope X.env) cl s.heap.objs.size=Y.env:=by rw[<-f];rfl
 have eX:Y.xe=λ_ _=>False:=by rw[<-f];rfl
 have eC:Y.calm=true:=by rw[<-f];exact hc
 have hg:PG Y tg g:=by rw[<-f];exact O.tgt _ _ _ _ _ _
 have ht:gH Y ifs tt:=by rw[<-f];exact O.tst _ _ _ _ _ _
 have hv:PE Y elt te:=by rw[<-f];exact O.val _ _ _ _ _ _
 have l:∀{a:Hp},(∀b∈k,a b=none)->∀b∈k,Fk Y [] a b:=λ{a} hn b hb=>by
  obtain⟨_,a1,a2,a3,a4,a5⟩:=hf b hb;refine⟨hn b hb, ?_, ?_, ?_, ?_, ?_⟩
  .rw [<-f];exact AAN (GG b hb)
  .rw [<-f];exact I.notStk a1 a2
  .rw [<-f];exact .inl hb
  .intro x c e;exact(B1.ok.exf b (by rw[<-f];exact hb)).2 x c e
  .intro p hp;have:p∈X.pn++C:=by rw[<-f] at hp;simpa[blk] using hp
   exact a5 p this
 rw[eE,<-eA,<-eP,<-eW];show wpAny _ _ ((compTurn (.ListComp elt [⟨tg,iter,ifs,0⟩] scope pos) 0 (.ref it) (.ref D) Y.env).onRaise (λx=>do noteFrame x Y.env;theTreesLotGoes x)) _ _ s1;refine wpAny_noted ?_;rw[compTurn_list];have ff:∀{α:Type} {t:Sem α} {Q:α->kl->Prop} {E:km->kl->Prop} {s:kl},wpAny (model Y.prog Y.w) Y.A t Q Y.xe s->wpAny (model Y.prog Y.w) Y.A t Q E s:=λh=>ABP h (λ_ _ q=>q) λ_ _ z=>by rw[eX] at z;exact z.elim
 refine AAC (ABd (AAC ?_));rcases hW i n H1 w1 with⟨stop,qn⟩|⟨go,step⟩
 .have zd:=λE=>T.done Y eP eW eK eC i [] s1 _ H1 E B1 (l Z) U stop;rw[<-eP,<-eW] at zd;refine BO (zd _) λr s4 ⟨hr,I4⟩=> ?_;subst hr;exact AAE (hR _ _ _ I4 qn)
 .have zi:=λE=>T.item Y eP eW eK eC i [] s1 _ H1 E B1 (l Z) U go;rw[<-eP,<-eW] at zi;refine BO (zi _) λr s4 ⟨u,hr,h4⟩=> ?_;subst hr;refine AAC (BO h4 λ_ s5 ⟨x,H5,I5,r5,y5,F,fr5⟩=> ?_);have I5':=I5.pinned (l fr5) (T.obj _ _ F);refine AAC (BO (ff (hg _ s5 _ H5 x u _ I5' r5 (O.keep _ _ _ _ (step x H5 y5)))) λ_ s6 ⟨B,H6,I6,q6,l6,k6⟩=> ?_);refine AAC (BO (ff (ht _ s6 B H6 _ I6 q6)) λok s7 ⟨H7,I7,q7⟩=> ?_);have back:∀{G:Hp} {L:kl} {M:Nat},Inv Y ([] ++ J2 k s5.heap) B G L->M<n->W (i+1) M G->
   ∃m,m<n/\∃i a,Inv Y [] (CQ own ix P) a L/\tn i L.heap/\(∀b∈k,a b=none)/\W i m a:=λ{G L M} I8 hm w8=>by
   refine⟨M,hm,i+1,G,I8.unpinned.weak l6.symm (λj v hj=> ?_),T.keep _ _ _ F λb hb o e=>(I8.pin (b,o) (AAq _ (AAq _ (Dj hb e)))).1,λb hb=> ?_,w8⟩
   .rw [k6 j (Ho hj).1];exact hj
   .obtain ⟨o,e,d⟩:=T.obj _ _ F b hb;exact(I8.pin (b,o) (AAq _ (AAq _ (Dj hb e)))).2.1
  cases ok with
  | false=> obtain⟨M,hm,w8⟩:=q7;exact AAE ⟨rfl,back I7 hm w8⟩
  | true=> refine AAC (AAC (BO (ff (hv _ s7 B H7 _ I7 q7)) λyv L ⟨y,G,I8,r8,ys,hD,hz,M,hm,w8⟩=> ?_));refine AAC (BO (ff (Pd _ L B G (.ref D) [y] (.ref D) [yv] (λ_ H9=>H9=upd G D (.lst (ys ++ [y]))) I8 rfl (.cons r8 .nil) ⟨D,ys,y,rfl,rfl,hD,hz,rfl⟩)) λ_ s9 ⟨_,H9,I9,_,e9⟩=> ?_);subst e9;exact AAE (AAE ⟨rfl,back I9 hm w8⟩)
def SX {f:kn (kj×Obj)}{v:St}{H:Hp}{s:kl}{use:ki (km->Sem Unit)}{Q:km->kl->Prop}{it:kj}{k:kn kj}{cl:kn (Str×kj)}{tn:Nat->gn->Prop}{J:It}{Qd:kj->Hp->Prop}(hc:X.calm=true)(O:Fg X tg elt ifs scope own ix N g tt te)(T:LG X.prog X.w X.K tg J k it tn)(I:Inv X f v H s)(S:∀b∈k,Fk X f H b)(st:tn 0 s.heap)(h1:∀y c,cl.lookup y=some c->X.env.cells.lookup y=some c)(h2:∀y,(y,NameKind.free)∈scope.names->∃c,cl.lookup y=some c)(U:∀D,H D=none->∃W:Nat->Nat->Hp->Prop,(∃m,W 0 m (upd H D (.lst [])))/\Uc J D (CQ own ix v) g tt te (Qd D) W)(Y:∀D C j l,(∃m,l.heap.Ns C m)->Inv X f v j l->(∀h E,Inv X f h j E->∀h',Heap.SameBut C E.heap h'->Inv X f h j {E with heap:=h'})->C≠X.env.locals->(∀x c,X.env.cells.lookup x=some c->C≠c)->Qd D j-> compPost (model X.prog X.w) X.A X.xe use Q (.ref D) C (.ok .next) l):wpAny (model X.prog X.w) X.A (newList []) (λn p=>wpAny (model X.prog X.w) X.A (newFunctionEnv scope X.env.globals cl [] X.env.qual none .none (some X.env)) (λd r=> codeAny (model X.prog X.w) X.A (.compStart (.ListComp elt [⟨tg,iter,ifs,0⟩] scope pos) 0 (.ref it) n {d with scope:=relabel scope X.env}) (compPost (model X.prog X.w) X.A X.xe use Q n d.locals) r) X.xe p) X.xe s:=by
 refine ABH ?_ (by simp[sizeOk]);have i:Inv X f v (upd H s.heap.objs.size (.lst [])) {s with heap:=s.heap.push {cls:= .type "list",data:= .seq ([] :kn km).toArray}}:=I.lnew (t':=s.toks) .nil (ABI _);have Z:=I.fresh;obtain⟨W,⟨m0,w0⟩,hW⟩:=U _ Z;have i4:∀b∈k,b<s.heap.objs.size:=λb hb=>by obtain⟨o,e,_⟩:=T.obj _ _ st b hb;exact AAH e
 have F:∀b∈k,Fk X f (upd H s.heap.objs.size (.lst [])) b:=λb hb=>by obtain⟨a0,ar⟩:=S b hb;exact⟨by rw[Ah (AAN (i4 b hb))];exact a0,ar⟩
 generalize sH:({s with heap:=s.heap.push {cls:= .type "list",data:= .seq ([] :kn km).toArray}}:kl)=s3 at i;have t:tn 0 s3.heap:=T.keep _ _ _ st λb hb o e=>by rw[<-sH];exact AAI _ e
 have G:∀b∈k,b<s3.heap.objs.size:=λb hb=>by obtain⟨o,e,_⟩:=T.obj _ _ t b hb;exact AAH e
 refine wpAny_newFunctionEnv O.nocell (by intro y L;simp at L) (λa lX sI=> ?_) O.kind;have R:∀b o,s3.heap.get? b=some o->a.get? b=some o:=λb o e=>sI.extBut b o (AAN (AAH e)) (AAI _ e);have gR:∀y,((relabel scope X.env).names.lookup y=some .cell\/(relabel scope X.env).names.lookup y=some .free)->∃c,cl.lookup y=some c:=λy L=>by
  rcases L with z|z
  .exact h2 y (Ey O.nocell (Ju z) (.inl rfl))
  .exact h2 y (Ey O.nocell (Ju z) (.inr rfl))
 have B:=ZU (N:=N) (t':=s3.toks+([] :kn (Str×km)).length) i F G (sc:=relabel scope X.env) O.kind h1 gR O.ins lX R;have u:tn 0 a:=T.keep _ _ _ t λb hb o e=>R b o e;have loop:∀M:kl,M={s3 with heap:=a,toks:=s3.toks+([] :kn (Str×km)).length}->
  codeAny (model X.prog X.w) X.A (.compLoop (.ListComp elt [⟨tg,iter,ifs,0⟩] scope pos) 0 (.ref it) (.ref s.heap.objs.size) (Hm X.env (relabel scope X.env) cl s3.heap.objs.size)) (compPost (model X.prog X.w) X.A X.xe use Q (.ref s.heap.objs.size) s3.heap.objs.size) M:=by rintro M rfl;refine Xr (cl:=cl) (Qh:=Qd s.heap.objs.size) hc O T i F G hW (λσ' j l P q'=> ?_) m0 _ ⟨0,_,B,u,λb hb=>(F b hb).1,w0⟩;refine Y _ _ j l (let ⟨m,hm,_⟩:=P.loc;⟨m,hm⟩) (WA (own:=own) (ix:=ix) i F G P) (λh E I2 h' hs=>SD i rfl I2 P.free hs) (AAh i.lt) (λx c e=>AAh (i.szLt e)) q'
 exact codeAny_compStart_list (loop _ rfl) (T.self _ 0 _ _ _ u (loop _ rfl))
def eG (hc:X.calm=true)(hi:PI X tg iter wi)(O:Fg X tg elt ifs scope own ix N g tt te)(hs:∀x,foldedSetIterable iter X.env x=pure x:=by intro _;rfl):PE X (.ListComp elt [⟨tg,iter,ifs,0⟩] scope pos) (b9 wi own ix g tt te):=by intro d s c H Q I h;obtain⟨cl,f,h1,h2⟩:=Hr (env:=X.env) (scope:=scope) λy i e=>I.ok.has y.1 (.inl (O.frees y i e));rw[eval_ListComp];refine ADd (use:=none) rfl hs f O.kind O.names (BO (hi d s c H _ I h) λv w hv=>BO hv λj z k=> ?_);obtain⟨it,A,tn,J,B,rfl,l,T,a,n,q⟩:=k;exact SX (Qd:=λD b=>Q (.ref D) b) hc O T l n a h1 h2 q λD C b o p r gone E F t=>by obtain⟨m,u⟩:=p;exact⟨m,u,λh' hs=>⟨.ref D,b,gone c o r h' hs,rfl,t⟩⟩
def Ws {i:Nat}{x:Str}{pos' b:Pos}(hc:X.calm=true)(hN:X.N.Nodup)(n:X.N[i]? =some x)(hx:Loc X.env.scope x)(hi:PI X tg iter wi)(O:Fg X tg elt ifs scope own ix N g tt te)(o:swapsWith (.ListComp elt [⟨tg,iter,ifs,0⟩] scope pos) (some (.Name x pos')) b.line X.env=pure true:=by rfl)(hs:∀x,foldedSetIterable iter X.env x=pure x:=by intro _;rfl)(p:X.fn x=true\/X.env.scope.names.lookup x=some .local:=by first | exact .inl rfl|exact .inr rfl|assumption):PS X (.Assign [.Name x pos'] (.ListComp elt [⟨tg,iter,ifs,0⟩] scope pos) b) (Vj (b9 wi own ix g tt te) (Cw i)):=by
 intro k s l H D I h;obtain⟨cl,r,h1,h2⟩:=Hr (env:=X.env) (scope:=scope) λy t e=>I.ok.has y.1 (.inl (O.frees y t e));rw[exec_Assign_Name_used _ _ _ _ o];refine AAC (ABd (AAC ?_));show wpAny _ _ (do let _ <-comprehension (.ListComp elt [⟨tg,iter,ifs,0⟩] scope pos) scope X.env _ (newList []) false (eval iter X.env) (some (assign (.Name x pos') X.env))) _ _ s;refine AAC (BO (ADd (use:=some (assign (.Name x pos') X.env)) (Q:=λ_ c=>SP X k D .next c) rfl hs r O.kind O.names (BO (hi k s l H _ I h) λv Y hv=>BO hv λu Z w=> ?_)) λ_ c A=>AAE (AAE A));obtain⟨it,fp,tn,J,H2,rfl,B,T,f,E,q⟩:=w;refine SX (Qd:=λd j=>Cw i (.ref d) l j D.nx) hc O T B E f h1 h2 q λd C j c F G gone K L M=> ?_;obtain⟨m,P⟩:=F;show wpAny _ _ (assign (.Name x pos') X.env (.ref d)) _ _ c;refine ADU (KI (v:= .ref d) G hN n hx rfl (λR S ⟨a,U,ha⟩=> ?_) p);have W:C≠a:=by
  rcases ha with z|z
  .rw [z];exact K
  .exact L x a z
 exact⟨m,P.sameBut U W,λh' hs=>⟨_,j,gone _ R S h' hs,M⟩⟩
end
def JB {n k:Nat}(h:n<2^k)(hk:0<k):n.log2<k:=by
 by_cases e:n=0
 .subst e;simpa using hk
 .exact (Nat.log2_lt e).mpr h
def G7 {i:Int}{k:Nat}(h:i.natAbs<2^k):Builtin.Int.intBits i<=k:=by
 unfold Builtin.Int.intBits;by_cases e:i=0
 .subst e;simp
 .have a:(i==0)=false:=by simpa using e
  rw[a];simp only[AAt,AAn];have b:i.natAbs≠0:=by omega
  have:=(Nat.log2_lt b).mpr h;omega
section
variable {X:Cx}
def qp (i j:Int):Prop:=i.natAbs<2^8000/\j.natAbs<2^8000
def l7 (i j:Int):Prop:=GN i j\/qp i j
def G8:DY X (binaryOp .Mult) (rI l7 λi j=> .int (i*j)):=jY λ_ _ _ _ _ _ _ hc q=>mul_int q (by
 rcases hc with z|z
 .exact z.ok
 .exact .of_le (G7 z.1) (G7 z.2) (by decide))
def ly (_ j:Int):Prop:=0<j/\j.natAbs<2^8000
def aX:DY X (binaryOp .FloorDiv) (rI ly λi j=> .int (i/j)):=jY λi j _ _ _ _ _ hc q=>by have h1:(0:Int)<j:=hc.1;refine floordiv_int (by omega) ?_ (.inl (AEE (ACZ (JB hc.2 (by decide)) (by decide))));rw[ABi _ (Int.le_of_lt h1)];exact q
inductive Kd where
 | int|bl|non|str|lst|tup
 deriving DecidableEq
def mD (K:AAD)(x:V)(H:Hp):Kd->Prop
 | .int=>∃i,x= .int i
 | .bl=>∃b,x= .bl b
 | .non=>x= .non
 | .str=>∃z,x= .str z
 | .lst=>∃a c,x= .ref a/\FR K H a c
 | .tup=>∃a c,x= .ref a/\LX K H a c
def HI:Kd->String->ke
 | .int,T=>T == "int"
 | .bl,T=>T == "bool" || T == "int"
 | .non,_=>false
 | .str,_=>false
 | .lst,T=>T == "list"
 | .tup,T=>T == "tuple"
def HW (T:String):Prop:=T="int" \/T="bool" \/T="tuple" \/T="list"
def j8 (K:AAD):kn V->Hp->VK->Prop:=λxs H Q=>∃x T k,xs= [x, .ty T] /\HW T/\mD K x H k/\Q (.bl (HI k T)) H
def ZW:Bu X (.builtin "isinstance") (j8 X.K):=by
 intro n s o H xs w Q I r h;obtain⟨x,T,k,rfl,f,hk,q⟩:=h;cases r with
 | cons g l=>
 cases l with
 | cons rt l=>
 cases l;cases rt;have c:Q (.bl true) H->EP X n o Q (.bool true) s:=λz=>⟨.bl true,H,I,rfl,z⟩;have b:Q (.bl false) H->EP X n o Q (.bool false) {s with toks:=s.toks+1}:=λz=>⟨.bl false,H,I.tok _,rfl,z⟩;cases k with
 | int=>
   obtain⟨i,rfl⟩:=hk;obtain⟨t,rfl⟩:=g;rcases f with rfl|rfl|rfl|rfl
   .exact IsiPair.int_int (c q)
   .exact IsiPair.int_bool (b q)
   .exact IsiPair.int_tuple (b q)
   .exact IsiPair.int_list (b q)
 | bl=>
   obtain⟨i,rfl⟩:=hk;cases g;rcases f with rfl|rfl|rfl|rfl
   .exact IsiPair.bool_int (c q)
   .exact IsiPair.bool_bool (c q)
   .exact IsiPair.bool_tuple (b q)
   .exact IsiPair.bool_list (b q)
 | non=>
   have e:x= .non:=hk;subst e;cases g;rcases f with rfl|rfl|rfl|rfl
   .exact IsiPair.NoneType_int (b q)
   .exact IsiPair.NoneType_bool (b q)
   .exact IsiPair.NoneType_tuple (b q)
   .exact IsiPair.NoneType_list (b q)
 | str=>
   obtain⟨i,rfl⟩:=hk;obtain⟨t,rfl⟩:=g;rcases f with rfl|rfl|rfl|rfl
   .exact IsiPair.str_int (b q)
   .exact IsiPair.str_bool (b q)
   .exact IsiPair.str_tuple (b q)
   .exact IsiPair.str_list (b q)
 | lst=>
   obtain⟨a,p,rfl,m⟩:=hk;cases g;obtain⟨its,u,j,v⟩:=I.list m;rcases f with rfl|rfl|rfl|rfl
   .exact IsiPair.isList_int j.isList (λ_ _ e=>e) (b q)
   .exact IsiPair.isList_bool j.isList (λ_ _ e=>e) (b q)
   .exact IsiPair.isList_tuple j.isList (λ_ _ e=>e) (b q)
   .exact IsiPair.isList_list j.isList (λ_ _ e=>e) (c q)
 | tup=>
   obtain⟨a,p,rfl,m⟩:=hk;cases g;obtain⟨its,u,j,v⟩:=I.tuple m;have d:s.heap.IsTuple a its.toArray:=j;rcases f with rfl|rfl|rfl|rfl
   .exact IsiPair.isTuple_int d (λ_ _ e=>e) (b q)
   .exact IsiPair.isTuple_bool d (λ_ _ e=>e) (b q)
   .exact IsiPair.isTuple_tuple d (λ_ _ e=>e) (c q)
   .exact IsiPair.isTuple_list d (λ_ _ e=>e) (b q)
def Yc (bs:kn ke):(List.range bs.length).all (λi=>bs.getD i true)=bs.all id:=by
 rw[ABe,ABj,ABj];constructor
 .intro h b hb;obtain⟨i,hi,e⟩:=List.mem_iff_getElem.mp hb;have:=h i (ABA.mpr hi);rw[ACK,AAS hi] at this;subst e;simpa using this
 .intro h i hi;have a:=ABA.mp hi;rw[ACK,AAS a];simpa using h _ (AA2 a)
def Yd (bs:kn ke):(List.range bs.length).any (λi=>bs.getD i true)=bs.any id:=by
 rw[ABe,ACa,ACa];constructor
 .rintro ⟨i,hi,h⟩;have a:=ABA.mp hi;rw[ACK,AAS a] at h;exact⟨_,AA2 a,by simpa using h⟩
 .rintro ⟨b,hb,h⟩;obtain⟨i,hi,e⟩:=List.mem_iff_getElem.mp hb;refine⟨i,ABA.mpr hi, ?_⟩;rw[ACK,AAS hi];subst e;simpa using h
def Inv.walked {g:kn (kj×Obj)}{h:St}{H:Hp}{s c:kl}{o:Obj}(I:Inv X g h H s)(m:Moved [s.heap.objs.size] (λa b=>b=a) {s with heap:=s.heap.push o} c):Inv X g h H c:=by
 obtain⟨h',g',d',t',i⟩:=c;obtain⟨hk,d,hd,f,_⟩:=m;have j:∀b u,s.heap.get? b=some u->h'.get? b=some u:=λb u e=>hk b u (by
  intro z;have k:b=s.heap.objs.size:=by simpa using z
  exact absurd (AAH e) (by rw[k];exact ABO _)) (AAI _ e)
 have d:g'=s.gens:=d;have hd:d'=s.drawn:=hd;have f:i=s.os:=f;subst d hd f;exact I.kept (t':=t') j
def T0 {bs:kn ke}{its:kn km}{A:fe}(r:Ap (bs.map V.bl) its):TruthOf X.prog X.w A (λi v=>its.toArray[i]? =some v) (λi=>bs.getD i true):=by
 intro i v s Q E hv hQ;have a:its[i]? =some v:=by simpa using hv
 cases e:(bs.map V.bl)[i]? with
 | none=>rw[r.none_of e] at a;cases a
 | some x=>
   obtain⟨u,hu,d⟩:=r.get e;rw[a] at hu;cases hu;rw[AAr] at e;cases c:bs[i]? with
   | none=>rw[c] at e;cases e
   | some b=>
     rw[c] at e;cases e;cases d
     replace hQ:Q (bs.getD i true) s:=hQ
     rw[ACK,c] at hQ;unfold truthy;exact AAE hQ
def VO (K:AAD)(f:kn ke->ke):kn V->Hp->VK->Prop:=λxs H Q=>∃p bs,xs= [.ref p] /\FR K H p (bs.map V.bl)/\Q (.bl (f bs)) H
def Xk (hc:X.calm=true):Bu X (.builtin "all") (VO X.K λbs=>bs.all id):=by
 intro k s l H xs n Q I r h;obtain⟨p,bs,rfl,d,q⟩:=h;obtain⟨u,rfl,e⟩:=vals1 r;cases e;obtain⟨its,a,b,o⟩:=I.list d;obtain⟨ol,c,f⟩:=id b.isList;have g:p≠s.heap.objs.size:=AAN (AAH c);have j:its.toArray.size=bs.length:=by have:=a.length;simp at this;simp[this]
 refine call_all_walkS (ACb b.isList ?_);refine⟨_,_,_,_,_,_,_,λi=>bs.getD i true,rfl,(Walks.list (A:=X.A.in1) (show X.A.in1.handled=none from I.ok.hd hc) s.heap.objs.size p g its.toArray).toS,⟨⟨_,AAR _ rfl,rfl,rfl⟩,⟨ol,AAI _ c,f⟩⟩,T0 a,λt m=> ?_⟩;rw[j,Yc];exact⟨.bl (bs.all id),H,I.walked m,rfl,q⟩
def Xl (hc:X.calm=true):Bu X (.builtin "any") (VO X.K λbs=>bs.any id):=by
 intro k s l H xs n Q I r h;obtain⟨p,bs,rfl,d,q⟩:=h;obtain⟨u,rfl,e⟩:=vals1 r;cases e;obtain⟨its,a,b,o⟩:=I.list d;obtain⟨ol,c,f⟩:=id b.isList;have g:p≠s.heap.objs.size:=AAN (AAH c);have j:its.toArray.size=bs.length:=by have:=a.length;simp at this;simp[this]
 refine call_any_walkS (ACb b.isList ?_);refine⟨_,_,_,_,_,_,_,λi=>bs.getD i true,rfl,(Walks.list (A:=X.A.in1) (show X.A.in1.handled=none from I.ok.hd hc) s.heap.objs.size p g its.toArray).toS,⟨⟨_,AAR _ rfl,rfl,rfl⟩,⟨ol,AAI _ c,f⟩⟩,T0 a,λt m=> ?_⟩;rw[j,Yd];exact⟨.bl (bs.any id),H,I.walked m,rfl,q⟩
def sQ (xs:kn V)(k:Nat)(y:V):kn V:=xs.take k++y::xs.drop k
def Ap.ins {xs:kn V}{a:kn km}{y:V}{u:km}(r:Ap xs a)(b:RelV y u)(k:Nat):Ap (sQ xs k y) (a.take k++u::a.drop k):=Ap.append (r.take k) (.cons b (r.drop k))
end
def N0:ke->gn->kj->kj->Nat->Prop
 | true,h,q,l,k=>h.IsListIter q l k
 | false,h,q,l,k=>h.IsTupleIter q l k
def Ka:ke->gn->kj->Array km->Prop
 | true,h,l,xs=>h.IsList l xs
 | false,h,l,xs=>h.IsTuple l xs
def N0.mv {b:ke}{h h':gn}{q l:kj}{k:Nat}(x:N0 b h q l k)(e:∀o,h.get? q=some o->h'.get? q=some o):N0 b h' q l k:=by
 cases b with
 | true=>obtain⟨o,a,r⟩:=x;exact⟨o,e o a,r⟩
 | false=>obtain⟨o,a,r⟩:=x;exact⟨o,e o a,r⟩
def N0.obj {b:ke}{h:gn}{q l:kj}{k:Nat}(x:N0 b h q l k):∃o,h.get? q=some o/\∀v,o.data≠ .cell v:=by
 cases b with
 | true=> obtain⟨o,a,_,d⟩:=x;exact⟨o,a,λv z=>by rw[d] at z;cases z⟩
 | false=> obtain⟨o,a,_,d⟩:=x;exact⟨o,a,λv z=>by rw[d] at z;cases z⟩
def Ka.mv {b:ke}{h h':gn}{l:kj}{xs:Array km}(x:Ka b h l xs)(e:∀o,h.get? l=some o->h'.get? l=some o):Ka b h' l xs:=by
 cases b with
 | true=>obtain⟨o,a,r⟩:=x;exact⟨o,e o a,r⟩
 | false=>obtain⟨o,a,r⟩:=x;exact⟨o,e o a,r⟩
section
variable {prog:kd}{w:kc}{A:fe}{E:km->kl->Prop}{s:kl}
def Ir {b:ke}{q l:kj}{k:Nat}{xs:Array km}{x:km}{Q:km->kl->Prop}(e:N0 b s.heap q l k)(hl:Ka b s.heap l xs)(hx:xs[k]? =some x)(hQ:∀h',N0 b h' q l (k+1)->Heap.SameBut q s.heap h'->Q x {s with heap:=h'}):wpAny (model prog w) A (Builtin.SmallTypes.nextOf (.ref q)) Q E s:=by
 cases b with
 | true=>exact wpAny_nextOf_list_item e hl hx hQ
 | false=> have d:s.heap.IsTupleIter q l k:=e;obtain⟨g,c,f,a⟩:=id d;obtain⟨ol,gl,_,h,dl⟩:=hl;unfold Builtin.SmallTypes.nextOf;refine AAC (ABh (name:=Str.ofString "__next__") d.typeIs AC4 (AAy AC4 d.typeIs AEF ?_ (AEG _)));show wpAny _ _ (field (.ref q) 0 >>= _) _ _ _;refine AAC (AAd c a (x:= .ref l) rfl ?_);show wpAny _ _ (if (Value.ref l==Value.none)=true then _ else _) _ _ _;rw[AAF (by intro z;cases z)];show wpAny _ _ (field (.ref q) 1 >>= _) _ _ _;refine AAC (AAd c a (x:= .int k 0) rfl ?_);show wpAny _ _ (seqItems? (.ref l) >>= _) _ _ _;refine AAC (ABG gl dl ?_);simp only[ABx,hx];refine AAC (wpAny_setField c a (by simp) (AAE ⟨x,rfl,AAE (hQ _ ?_ (Heap.SameBut.update ..))⟩));refine⟨_,AC1 _ c (Obj.isFreed_of_fields (Obj.data_mapFields a _)),(Obj.cls_mapFields ..).trans f, ?_⟩;rw[Obj.data_mapFields a];simp[rawInt]
def Jo {b:ke}{q l:kj}{k:Nat}{xs:Array km}{Q:km->kl->Prop}(c:A.handled=none)(h:N0 b s.heap q l k)(hl:Ka b s.heap l xs)(hx:xs[k]? =none)(i:∀h' e,Heap.ExtBut q s.heap h'->(∃o,h'.get? e=some o/\o.cls= .type "StopIteration")->E (.ref e) {s with heap:=h'}):wpAny (model prog w) A (Builtin.SmallTypes.nextOf (.ref q)) Q E s:=by
 cases b with
 | true=>exact wpAny_nextOf_list_end c h hl hx i
 | false=>
   have d:s.heap.IsTupleIter q l k:=h;obtain⟨j,f,n,g⟩:=id d;obtain⟨ol,gl,_,p,dl⟩:=hl;unfold Builtin.SmallTypes.nextOf;refine AAC (ABh (name:=Str.ofString "__next__") d.typeIs AC4 (AAy AC4 d.typeIs AEF ?_ (AEG _)));show wpAny _ _ (field (.ref q) 0 >>= _) _ _ _;refine AAC (AAd f g (x:= .ref l) rfl ?_);show wpAny _ _ (if (Value.ref l==Value.none)=true then _ else _) _ _ _;rw[AAF (by intro z;cases z)];show wpAny _ _ (field (.ref q) 1 >>= _) _ _ _;refine AAC (AAd f g (x:= .int k 0) rfl ?_);show wpAny _ _ (seqItems? (.ref l) >>= _) _ _ _;refine AAC (ABG gl dl ?_);simp only[ABx,hx];refine AAC (ABc (AAC (wpAny_setField f g (by simp) ?_)));refine AAC (m:=newExc (.type "StopIteration") []) ?_;simp only[newExc,newTuple];refine AAC (ABH ?_ (by size_fits));refine AAC (m:=firstArgMember _ _) (ACL (a:=Value.none) (by first | rfl|(simp only[firstArgMember];rfl)) (ABH ?_ (by size_fits)));simp only[raiseNew];refine AAC (wpAny_handled ?_);first | rw[show A.in1.handled=none from c] | rw[c]
   exact AAC (AAE (wpAny_throw (i _ _ (((Heap.SameBut.update ..).extBut.push _).push _) ⟨_,AAR _ rfl,rfl⟩)))
structure iH (b c:Bool) (z TI TO i j l m:Addr) (k:Nat) (f:Value) (h:Heap):Prop where
 zip:IsZip h z TI TO f
 its:IsPair h TI (.ref i) (.ref j)
 own:∃x y,IsPair h TO x y
 one:N0 b h i l k
 two:N0 c h j m k
def iH.mv {b c:ke}{z TI TO i j l m:kj}{k:Nat}{f:km}{h h':gn}(Z:iH b c z TI TO i j l m k f h)(e:∀p∈ [z,TI,TO,i,j],∀o,h.get? p=some o->h'.get? p=some o):iH b c z TI TO i j l m k f h':=by obtain⟨a,d,⟨x,y,g⟩,n,r⟩:=Z;exact⟨e z (by simp) _ a,e TI (by simp) _ d,⟨x,y,e TO (by simp) _ g⟩,n.mv (e i (by simp)),r.mv (e j (by simp))⟩
variable {b c:ke}{z TI TO i j l m:kj}{k:Nat}{xs ys:Array km}
def pY {x y:km}{Q:km->kl->Prop}(D:ZipApart z TI TO i j l m)(Z:iH b c z TI TO i j l m k .none s.heap)(hl:Ka b s.heap l xs)(hm:Ka c s.heap m ys)(hx:xs[k]? =some x)(hy:ys[k]? =some y)(hQ:∀h',IsZip h' z TI TO (rawInt s.heap.objs.size)->IsPair h' TI (.ref i) (.ref j)->IsPair h' TO x y->N0 b h' i l (k+1)->N0 c h' j m (k+1)->IsPair h' s.heap.objs.size x y-> (∀p o,p≠z->p≠TO->p≠i->p≠j->s.heap.get? p=some o->h'.get? p=some o)->Q (.ref s.heap.objs.size) {s with heap:=h'}):wpAny (model prog w) A (Builtin.«zip.__next__» ⟨[.ref z], []⟩) (λL s'=>∃v,L= .done (.ret v)/\Q v s') E s:=by
 obtain⟨n,T,⟨x0,M,zo⟩,z1,z2⟩:=Z;show wpAny _ _ (field (.ref z) 2 >>= _) _ _ _;refine AAC (AAd n rfl (x:= .bool false) rfl ?_);show wpAny _ _ (field (.ref z) 3 >>= _) _ _ _;refine AAC (AAd n rfl (x:= .ref TI) rfl (AAC (ABG T rfl ?_)));refine AAC (m:=Builtin.SmallTypes.ownedTupleIsFree (.ref z)) ?_;unfold Builtin.SmallTypes.ownedTupleIsFree;refine AAC (AAd n rfl (x:= .none) rfl (AAE ?_));simp only[AA9];refine AAC (ABc (AAC (AAd n rfl (x:= .ref TO) rfl (AAC (ABR n (by simp) λg1 N g=> ?_)))));have N:IsZip g1 z TI TO .ellipsis:=N;refine AAC ?_;simp only[List.zipIdx_cons,List.zipIdx_nil,ACJ,AC5];refine AAC (AAC (AC6 ?_));refine AAC (m:=Builtin.SmallTypes.nextOf (.ref i)) (Ir (z1.mv λo=>g.extBut _ o D.i1z) (hl.mv λo=>g.extBut _ o D.l1z) hx λg2 e2 b2=>AAE ?_);have U:IsPair g2 TO x0 M:=b2.extBut _ _ D.TOi1 (g.extBut _ _ D.TOz zo);refine AAC (ABG U rfl (AAC (ADe U λg3 O h=>AAC (wpAny_letGo (AAE ?_)))));have O:IsPair g3 TO x M:=O;refine AAC (AAC (AC6 ?_));refine AAC (m:=Builtin.SmallTypes.nextOf (.ref j)) (Ir (((z2.mv λo=>g.extBut _ o D.i2z).mv λo=>b2.extBut _ o D.i12.symm).mv λo=>h.extBut _ o D.TOi2.symm)
  (((hm.mv λo=>g.extBut _ o D.l2z).mv λo=>b2.extBut _ o D.l2i1).mv λo=>h.extBut _ o D.l2TO) hy λg4 e4 r=>AAE ?_)
 have W:IsPair g4 TO x M:=r.extBut _ _ D.TOi2 O;refine AAC (ABG W rfl (AAC (ADe W λa G t=>AAC (wpAny_letGo (AAE (AAE ?_))))));have G:IsPair a TO x y:=G;refine AAC (ABG G rfl (AAC (wpAny_newTuple ?_)));have sz:a.objs.size=s.heap.objs.size:=by rw[t.1,r.1,h.1,b2.1,g.1]
 have X:IsZip a z TI TO .ellipsis:=t.extBut _ _ D.TOz.symm (r.extBut _ _ D.i2z.symm (h.extBut _ _ D.TOz.symm (b2.extBut _ _ D.i1z.symm N)));have d:∀p o,p≠z->p≠TO->p≠i->p≠j->s.heap.get? p=some o->a.get? p=some o:=λp o H I P R e=>
  t.extBut _ _ I (r.extBut _ _ R (h.extBut _ _ I (b2.extBut _ _ P (g.extBut _ _ H e))))
 have u:N0 b a i l (k+1):=((e2.mv λo=>h.extBut _ o D.TOi1.symm).mv λo=>r.extBut _ o D.i12).mv λo=>t.extBut _ o D.TOi1.symm;have B:N0 c a j m (k+1):=e4.mv λo=>t.extBut _ o D.TOi2.symm;have C:z<a.objs.size:=AAH X;refine AAC (m:=Builtin.SmallTypes.ownedTupleHandOut (.ref z) (.ref a.objs.size)) ?_;unfold Builtin.SmallTypes.ownedTupleHandOut;have k6:IsZip (a.push {cls:= .type "tuple",data:= .seq #[x,y] }) z TI TO .ellipsis:=AAI _ X;refine AAC (ABR k6 (by simp) λg7 S Y=> ?_);have S:IsZip g7 z TI TO (rawInt a.objs.size):=S;refine ABR S (by simp) λJ K b8=> ?_;have K:IsZip J z TI TO (rawInt a.objs.size):=K;have F:∀p o,p≠z->a.get? p=some o->J.get? p=some o:=λp o q e=>b8.extBut _ _ q (Y.extBut _ _ q (AAI _ e));have f:IsPair J a.objs.size x y:=b8.extBut _ _ (AAh C) (Y.extBut _ _ (AAh C) (AAR _ rfl));rw[sz] at K f;refine AAE ⟨_,rfl, ?_⟩;show Q (.ref a.objs.size) _;rw[sz];exact hQ J K (F _ _ D.TIz (d _ _ D.TIz D.TITO D.TIi1 D.TIi2 T)) (F _ _ D.TOz G) (u.mv λo=>F _ o D.i1z) (B.mv λo=>F _ o D.i2z) f λp o H I P R e=>F p o H (d p o H I P R e)
def vB {Q:Fin->kl->Prop}(B:A.handled=none)(D:ZipApart z TI TO i j l m)(Z:iH b c z TI TO i j l m k .none s.heap)(hl:Ka b s.heap l xs)(M:Ka c s.heap m ys)(N:xs[k]? =none\/ys[k]? =none)(C:∀h' e,(∀p o,p≠z->p≠TO->p≠i->p≠j->s.heap.get? p=some o->h'.get? p=some o)->(∃o,h'.get? e=some o/\o.cls= .type "StopIteration")->E (.ref e) {s with heap:=h'}):wpAny (model prog w) A (Builtin.«zip.__next__» ⟨[.ref z], []⟩) Q E s:=by
 obtain⟨g,O,⟨P,R,S⟩,F,T⟩:=Z;show wpAny _ _ (field (.ref z) 2 >>= _) _ _ _;refine AAC (AAd g rfl (x:= .bool false) rfl ?_);show wpAny _ _ (field (.ref z) 3 >>= _) _ _ _;refine AAC (AAd g rfl (x:= .ref TI) rfl (AAC (ABG O rfl ?_)));refine AAC (m:=Builtin.SmallTypes.ownedTupleIsFree (.ref z)) ?_;unfold Builtin.SmallTypes.ownedTupleIsFree;refine AAC (AAd g rfl (x:= .none) rfl (AAE ?_));simp only[AA9];refine AAC (ABc (AAC (AAd g rfl (x:= .ref TO) rfl (AAC (ABR g (by simp) λU r a=> ?_)))));have r:IsZip U z TI TO .ellipsis:=r;refine AAC ?_;simp only[List.zipIdx_cons,List.zipIdx_nil,ACJ,AC5];refine AAC (AAC (AC6 ?_));cases hx:xs[k]? with
 | none=>
   refine AAC (m:=Builtin.SmallTypes.nextOf (.ref i)) (Jo B (F.mv λo=>a.extBut _ o D.i1z) (hl.mv λo=>a.extBut _ o D.l1z) hx λt e b2 he=> ?_);obtain⟨u,d,h⟩:=he;have G:IsZip t z TI TO .ellipsis:=b2 _ _ D.i1z.symm r;have v:e≠z:=λq=>by subst q;rw[G] at d;cases d;simp at h
   refine ABR G (by simp) λH _ f=>C H e (λp o n _ y _ q=>f.extBut _ _ n (b2 _ _ y (a.extBut _ _ n q))) ⟨u,f.extBut _ _ v d,h⟩
 | some x=>
   have W:ys[k]? =none:=by
    rcases N with q|q
    .rw [hx] at q;cases q
    .exact q
   refine AAC (m:=Builtin.SmallTypes.nextOf (.ref i)) (Ir (F.mv λo=>a.extBut _ o D.i1z) (hl.mv λo=>a.extBut _ o D.l1z) hx λt e2 b2=>AAE ?_);have I:IsPair t TO P R:=b2.extBut _ _ D.TOi1 (a.extBut _ _ D.TOz S);refine AAC (ABG I rfl (AAC (ADe I λH o3 f=>AAC (wpAny_letGo (AAE ?_)))));refine AAC (AAC (AC6 ?_));refine AAC (m:=Builtin.SmallTypes.nextOf (.ref j)) (Jo B (((T.mv λo=>a.extBut _ o D.i2z).mv λo=>b2.extBut _ o D.i12.symm).mv λo=>f.extBut _ o D.TOi2.symm)
    (((M.mv λo=>a.extBut _ o D.l2z).mv λo=>b2.extBut _ o D.l2i1).mv λo=>f.extBut _ o D.l2TO) W λX e J he=> ?_)
   obtain⟨u,d,h⟩:=he;have K:IsZip X z TI TO .ellipsis:=J _ _ D.i2z.symm (f.extBut _ _ D.TOz.symm (b2.extBut _ _ D.i1z.symm r));have v:e≠z:=λq=>by subst q;rw[K] at d;cases d;simp at h
   refine ABR K (by simp) λY _ L=>C Y e (λp o n q2 y q4 q=>L.extBut _ _ n (J _ _ q4 (f.extBut _ _ q2 (b2.extBut _ _ y (a.extBut _ _ n q))))) ⟨u,L.extBut _ _ v d,h⟩
end
def U0 (b:ke)(l:kj):Obj:={cls:= .type (match b with | true=>"list_iterator" | false=>"tuple_iterator"),data:= .fields #[.ref l, .int 0 0] }
abbrev zA (b:ke)(h:gn)(l:kj):gn:=h.push (U0 b l)
abbrev zB (b c:ke)(h:gn)(l m:kj):gn:=(zA b h l).push (U0 c m)
abbrev zC (b c:ke)(h:gn)(l m:kj):gn:=(zB b c h l m).push {cls:= .type "tuple",data:= .seq #[.ref h.objs.size, .ref (zA b h l).objs.size] }
abbrev zD (b c:ke)(h:gn)(l m:kj):gn:=(zC b c h l m).push {cls:= .type "tuple",data:= .seq #[.none, .none] }
abbrev zF (b c:ke)(h:gn)(l m:kj):gn:=(zD b c h l m).push {cls:= .type "zip",data:= .fields #[.none, .bool false, .bool false, .ref (zB b c h l m).objs.size, .ref (zC b c h l m).objs.size] }
def Jt {prog:kd}{w:kc}{A:fe}{E:km->kl->Prop}{h:gn}{g:Array GenState}{d:Drawn}{a:Nat}{os:OsState}{b:ke}{l:kj}{xs:Array km}{Q:km->kl->Prop}(hl:Ka b h l xs)(q:Q (.ref h.objs.size) ⟨h.push (U0 b l),g,d,a,os⟩):wpAny (model prog w) A (pyIter (.ref l)) Q E ⟨h,g,d,a,os⟩:=by
 cases b with
 | true=>exact ACb (s:=⟨h,g,d,a,os⟩) hl q
 | false=>exact wpAny_pyIter_tuple (s:=⟨h,g,d,a,os⟩) hl q
def Yt (b c:ke)(l m:kj)(xs a:Array km):Meets (Builtin.«zip.__new__» ⟨[.type "zip", .ref l, .ref m], []⟩) (λ_ R s=>Ka b s.heap l xs/\Ka c s.heap m a/\R (.ok (.ret (.ref (zD b c s.heap l m).objs.size))) {s with heap:=zF b c s.heap l m}):=
 .of_wp λprog w A R s h=>by
   obtain⟨hp,g,d,k,os⟩:=s;obtain⟨hl,f,h⟩:=h;have n:=sub_zip;have i:Ka b hp l xs:=hl;have j:Ka c (hp.push (U0 b l)) m a:=f.mv λo e=>AAI _ e
   wp_walk using Jt i,Jt j
   exact⟨_,rfl,h⟩
section
variable {prog:kd}{w:kc}{A:fe}{E:km->kl->Prop}{s:kl}{b c:ke}{l m:kj}{xs ys:Array km}
def Z9 {h:gn}{q:kj}(e:h.get? q=some (U0 b l)):N0 b h q l 0:=by
 cases b with
 | true=>exact⟨_,e,rfl,rfl⟩
 | false=>exact⟨_,e,rfl,rfl⟩
def lK (hl:Ka b s.heap l xs)(r:Ka c s.heap m ys){Q:km->kl->Prop}(h:∀h',iH b c (s.heap.objs.size+4) (s.heap.objs.size+2) (s.heap.objs.size+3) s.heap.objs.size (s.heap.objs.size+1) l m 0 .none h'->(∀p o,s.heap.get? p=some o->h'.get? p=some o)->Q (.ref (s.heap.objs.size+4)) {s with heap:=h'}):wpAny (model prog w) A (call (.type "zip") [.ref l, .ref m]) Q E s:=by
 refine callType_new F.called_zip (by decide) (F.typeCall_zip_2 _ _) (F.newCall_zip_2 _ _) (λobj=>F.args_object_init_3 obj _ _) F.entry_zip_new (Yt b c l m xs ys) ⟨hl,r, ?_⟩;have a:(zA b s.heap l).objs.size=s.heap.objs.size+1:=AA1 ..;have d:(zB b c s.heap l m).objs.size=s.heap.objs.size+2:=by rw[AA1,a]
 have f:(zC b c s.heap l m).objs.size=s.heap.objs.size+3:=by rw[AA1,d]
 have i:(zD b c s.heap l m).objs.size=s.heap.objs.size+4:=by rw[AA1,f]
 have g:(zF b c s.heap l m).get? (zD b c s.heap l m).objs.size=some _:=AAR _ rfl;have j:(zF b c s.heap l m).get? (zC b c s.heap l m).objs.size=some _:=AAI _ (AAR _ rfl);have k:(zF b c s.heap l m).get? (zB b c s.heap l m).objs.size=some _:=AAI _ (AAI _ (AAR _ rfl));have n:(zF b c s.heap l m).get? (zA b s.heap l).objs.size=some (U0 c m):=AAI _ (AAI _ (AAI _ (AAR _ rfl)));have t:(zF b c s.heap l m).get? s.heap.objs.size=some (U0 b l):=AAI _ (AAI _ (AAI _ (AAI _ (AAR _ rfl))));rw[d,f,i] at g;rw[a,d] at k;rw[f] at j;rw[a] at n;show _/\_;rw[i];exact⟨⟨_,g,rfl⟩,h _ ⟨g,k,⟨_,_,j⟩,Z9 t,Z9 n⟩ λp o e=>AAI _ (AAI _ (AAI _ (AAI _ (AAI _ e))))⟩
end
def Sq (K:AAD):ke->Hp->kj->kn V->Prop
 | true,H,a,xs=>FR K H a xs
 | false,H,a,xs=>LX K H a xs
section
variable {X:Cx}{Wf:kn (kj×Obj)}{σ:St}{H:Hp}{s:kl}{a:kj}{ys xs:kn V}{b:ke}{h':gn}
def Inv.sq (I:Inv X Wf σ H s)(h:Sq X.K b H a xs):∃its:kn km,Ap xs its/\Ka b s.heap a its.toArray/\xs.length<=sizeLine:=by
 cases b with
 | true=> obtain⟨its,r,p,z⟩:=I.list h;exact⟨its,r,p.isList,z⟩
 | false=> obtain⟨its,r,p,z⟩:=I.tuple h;exact⟨its,r,p,z⟩
def Inv.sq_inj (I:Inv X Wf σ H s)(h:Sq X.K b H a xs)(h2:Sq X.K b H a ys):xs=ys:=by
 cases b with
 | true=>exact I.list_inj h h2
 | false=>exact I.tuple_inj h h2
def Inv.turnedL {ch:kn kj}{t':Nat}(I:Inv X Wf σ H s)(c:∀p∈ch,Fk X Wf H p)(k:∀p o,p ∉ ch->s.heap.get? p=some o->h'.get? p=some o):Inv X Wf σ H {s with heap:=h',toks:=t'}:=by
 have d:∀p u,H p=some u->p ∉ ch:=λp u e z=>by rw[(c p z).1] at e;cases e
 refine I.step (g':=s.gens) (d':=s.drawn) (ch:=ch) (λp hp=>⟨(c p hp).2.2.2.1,(c p hp).2.1,(c p hp).2.2.2.2.1,(c p hp).2.2.2.2.2⟩) (λp o _ _ hc e _=>k p o hc e) (λp o _ _ hc e _=>⟨o.slots,k p o hc e⟩)
  (λ_ _ _ _ n=>n) (λp o hc e=>⟨o,k p o hc e⟩) (λ_ _ e=>e) (λ_ _ _ e=>e) (λp ps e=>⟨#[],by rw[e];simp⟩) (λm f=> ?_) (λp u e=> ?_) I.bare
 .obtain ⟨o,es,ep,g,r⟩:=f;exact⟨o,es,ep,k _ o (λz=>(c _ z).2.1 rfl) g,r⟩
 .refine (I.hok p u e).stay (λq v h i=>k q v ?_ i) (λ_ q=>q) λ_ _ q=>q;rcases h with z|z
  .rw [z];exact d p u e
  .exact d q _ z
def Inv.turnedN {ch:kn kj}{t':Nat}{n:kj}{o:HO}(I:Inv X Wf σ H s)(c:∀p∈ch,Fk X Wf H p)(l:∀p∈ch,p<s.heap.objs.size)(k:∀p o,p ∉ ch->s.heap.get? p=some o->h'.get? p=some o)(g:s.heap.objs.size<=n)(new:B2 X.prog X.w (upd H n o) h' n o):Inv X Wf σ (upd H n o) {s with heap:=h',toks:=t'}:=by
 have h:Inv X Wf σ H {s with heap:=h',toks:=t'}:=I.turnedL c k;have d:H n=none:=I.hok.fresh g;have hx:∀p u,s.heap.get? p=some u->p≠n:=λp u e=>AAN (AAV (AAH e) g);refine I.step (g':=s.gens) (d':=s.drawn) (ch:=ch) (λp hp=>⟨(c p hp).2.2.2.1,(c p hp).2.1,(c p hp).2.2.2.2.1,(c p hp).2.2.2.2.2⟩) (λp o _ _ hc e _=>k p o hc e) (λp o _ _ hc e _=>⟨o.slots,k p o hc e⟩)
  (λp u _ e z=>by rw[Ah (hx p u e)];exact z) (λp o hc e=>⟨o,k p o hc e⟩) (λp xs e=>by rw[Ah (Av e d)];exact e) (λp o xs e=>by rw[Ah (Av e d)];exact e)
  (λp ps e=>⟨#[],by rw[Ah (Av e d),e];simp⟩) (λm i=> ?_) (λp u e=> ?_) I.bare
 .obtain ⟨o,es,ep,j,r⟩:=i;exact⟨o,es,ep,k _ o (λz=>(c _ z).2.1 rfl) j,r⟩
 .by_cases hp:p=n
  .subst hp;rw[Af] at e;cases e;exact new
  .rw [Ah hp] at e;exact(h.hok p u e).stay (λ_ _ _ q=>q) (λq f=>by rw[Ah (Av f d)];exact f) λq xs f=>by rw[Ah (Av f d)];exact f
end
def q0 (K:AAD)(b c:ke)(l m:kj):It:=
 ⟨λi H=>∃xs a x y,Sq K b H l xs/\Sq K c H m a/\xs[i]? =some x/\a[i]? =some y,
  λi H v d=>∃T x y,v= .ref T/\H T=none/\d=upd H T (.tup [x,y])/\(∀xs,Sq K b H l xs->xs[i]? =some x)/\∀a,Sq K c H m a->a[i]? =some y,
  λi H=>∃xs a,Sq K b H l xs/\Sq K c H m a/\(xs.length<=i\/a.length<=i)⟩
def cI {P:kd}{w:kc}{K:AAD}{es:kn kf}{x1:Nat}{pos:Pos}{b c:ke}{z TI TO i j l m:kj}(D:ZipApart z TI TO i j l m):LG P w K (.Tuple es x1 pos) (q0 K b c l m) [z,TI,TO,i,j] z (λk h=>iH b c z TI TO i j l m k .none h) where
 mem:=by simp
 obj:=λk h Z p hp=>by
  have a:p=z\/p=TI\/p=TO\/p=i\/p=j:=by simpa using hp
  rcases a with e|e|e|e|e
  .subst e;exact⟨_,Z.zip,λv q=>nomatch q⟩
  .subst e;exact⟨_,Z.its,λv q=>nomatch q⟩
  .subst e;obtain⟨x,y,q⟩:=Z.own;exact⟨_,q,λv q=>nomatch q⟩
  .subst e;exact Z.one.obj
  .subst e;exact Z.two.obj
 keep:=λk h h' Z e=>Z.mv e
 item:=by
  intro X r hw t hc k J s L H E I g Z A;subst r hw t;obtain⟨xs,O,x,y,hl,n,hx,M⟩:=A;obtain⟨N,B,C,_⟩:=I.sq hl;obtain⟨vs,rv,sv,_⟩:=I.sq n;obtain⟨u,hu,Q⟩:=B.get hx;obtain⟨v,hv,R⟩:=rv.get M;have f:s.TypeIs (.ref z) "zip" :=⟨_,Z.zip,rfl⟩;unfold pyNext;refine AAC (AC7 (ABh (name:=Str.ofString "__next__") f AC8 (AAy AC8 f F.entry_zip_next
   (pY D Z C sv (x:=u) (y:=v) (by simpa using hu) (by simpa using hv) λh1 S U W Y a5 a6 a7=>AAE ?_) (F.args_zip_next_1 _))))
  refine⟨_,rfl,wpAny_letOwnedTupleGo_zip (s:={s with heap:=h1}) S λh2 c1 c2=> ?_⟩;have G:∀p∈ [z,TI,TO,i,j],p<s.heap.objs.size:=λp hp=>by
   have a:p=z\/p=TI\/p=TO\/p=i\/p=j:=by simpa using hp
   rcases a with e|e|e|e|e
   .subst e;exact AAH Z.zip
   .subst e;exact AAH Z.its
   .subst e;obtain⟨x,y,q⟩:=Z.own;exact AAH q
   .subst e;obtain⟨o,q,_⟩:=Z.one.obj;exact AAH q
   .subst e;obtain⟨o,q,_⟩:=Z.two.obj;exact AAH q
  have d:∀p o,p≠z->h1.get? p=some o->h2.get? p=some o:=λp o q e=>c2.extBut _ _ q e;have kp:∀p o,p ∉ [z,TI,TO,i,j] ->s.heap.get? p=some o->h2.get? p=some o:=λp o hp e=>by
   have a:p≠z/\p≠TI/\p≠TO/\p≠i/\p≠j:=by simpa using hp
   exact d p o a.1 (a7 p o a.1 a.2.2.1 a.2.2.2.1 a.2.2.2.2 e)
  have zJ:s.heap.objs.size≠z:=AAh (G z (by simp));have I2:Inv X J L (upd H s.heap.objs.size (.tup [x,y])) {s with heap:=h2,toks:=s.toks}:=I.turnedN g G kp (AAL _)
   ⟨(by show 2<=sizeLine;decide), [u,v], .cons Q (.cons R .nil),⟨_,d _ _ zJ a6,rfl,_,rfl⟩⟩
  have X9:H s.heap.objs.size=none:=I.fresh;refine⟨.ref s.heap.objs.size,upd H s.heap.objs.size (.tup [x,y]),I2,rfl,⟨_,x,y,rfl,X9,rfl,λxs' h'=> ?_,λys' h'=> ?_⟩, ?_,λp hp=> ?_⟩
  .rw [I.sq_inj h' hl];exact hx
  .rw [I.sq_inj h' n];exact M
  .exact ⟨c1,d _ _ D.TIz U,⟨_,_,d _ _ D.TOz W⟩,Y.mv λo=>d _ o D.i1z,a5.mv λo=>d _ o D.i2z⟩
  .rw [Ah (AAN (G p hp))];exact(g p hp).1
 done:=by
  intro X r hw t hc k J s L H E I g Z A;subst r hw t;obtain⟨xs,O,hl,n,he⟩:=A;obtain⟨N,B,C,_⟩:=I.sq hl;obtain⟨vs,rv,sv,_⟩:=I.sq n;have e1:=B.length;have e2:=rv.length;have iu:N.toArray[k]? =none\/vs.toArray[k]? =none:=by
   rcases he with q|q
   .exact .inl (by simp;omega)
   .exact .inr (by simp;omega)
  have f:s.TypeIs (.ref z) "zip" :=⟨_,Z.zip,rfl⟩;unfold pyNext;refine AAC (AC7 (ABh (name:=Str.ofString "__next__") f AC8 (AAy AC8 f F.entry_zip_next
   (vB (I.ok.hd hc) D Z C sv iu λh1 e hk he=> ?_) (F.args_zip_next_1 _))))
  obtain⟨o,ho,re⟩:=he;refine AAC (ACB (T:="StopIteration") (b:=true) ⟨o,ho,re⟩ isSubtype_stop (AAE ⟨rfl, ?_⟩));exact I.turnedL (t':=s.toks) g λp o hp e=>by
   have a:p≠z/\p≠TI/\p≠TO/\p≠i/\p≠j:=by simpa using hp
   exact hk p o a.1 a.2.2.1 a.2.2.2.1 a.2.2.2.2 e
 self:=λ_ _ _ _ _ Z h=>wpAny_pyIter_zip Z.zip h
structure Has (P:Program) (w:World) (K:AAD) (mg:Str->Option Value) (base:Heap) (k:Nat) (x:Str) (ps:List Str) (sp:Sp):Prop where
 ex:∃f fd,mg x=some (.ref f)/\PySem.W.keepIn K (.ref f)=true/\Binds K fd ps [] /\Dh P w K mg base MR k f fd ps sp
def Has.mono {P:kd}{w:kc}{K:AAD}{mg:Str->ki km}{base:gn}{j k:Nat}{x:Str}{ps:kn Str}{sp:Sp}(h:Has P w K mg base j x ps sp)(hk:j<=k):Has P w K mg base k x ps sp:=by obtain⟨f,e,a,b,c,d⟩:=h.ex;exact⟨f,e,a,b,c,d.mono hk⟩
section
variable {X:Cx}{x:Str}{p pos:Pos}{e:kf}{es:kn kf}{t:TA}{k:Nat}{ps:kn Str}{sp:Sp}
def jn (D:Has X.prog X.w X.K X.mg X.base k x ps sp)(a:Room k X.A)(b:Gl X x)(ha:PA X (e::es) t)(hs:starEach (e::es) X.env=(false,eval e X.env)::starEach es X.env:=by rfl)(hpl:(backTo pos (starEach es X.env)).any (·.1)=false:=by rfl)(hd:(x==("__debug__" :Str))=false:=by decide):PE X (.Call (.Name x p) (e::es) [] pos) (bu sp [] E0 t):=by obtain⟨f,h,c,d,g,G⟩:=D.ex;exact Wo G a b c d g .nil gY ha (hdb:=hd) (he:=hs) (hpl:=hpl)
end
section
variable {X:Cx}{tg elt:kf}{ifs:kn kf}{scope:Scope}{own:Nat}{ix:kn Nat}{N:kn Str}{g:TG}{tt:TT}{te:TE}
def Up (X:Cx)(sc:Scope)(own:Nat)(ix:kn Nat)(N:kn Str):ke:=
 (List.range ix.length).all λj=>match ix[j]? with
   | none=>false
   | some i=>match N[own+j]?,X.N[i]? with
     | some x,some y=>decide (x=y)&&decide (X.env.scope.names.lookup x=some .cell)&&decide (sc.names.lookup x=some .cell)
     | _,_=>false
def Zh {sc:Scope}(h1:N.length=own+ix.length)(h2:Up X sc own ix N=true):ZB X sc own ix N:=by
 refine⟨h1,λj i hj=> ?_⟩;have c:j<ix.length:=(AA0.mp hj).1;have h:=ABj.mp h2 j (ABA.mpr c);rw[hj] at h;dsimp only at h;cases a:N[own+j]? with
 | none=>rw[a] at h;simp at h
 | some x=>
   cases b:X.N[i]? with
   | none=>rw[a,b] at h;simp at h
   | some y=> rw[a,b] at h;simp only[AAs,decide_eq_true_eq] at h;obtain⟨⟨h3,d⟩,e⟩:=h;subst h3;exact⟨x,rfl,rfl,d,e⟩
def WE (h1:scope.kind= .function)(h2:(scope.names.all λy=> !decide (y.2= .cell))=true)(h3:(scope.names.all λy=> !decide (y.2= .local)||decide (scope.names.lookup y.1=some .local))=true)(d:(scope.names.all λy=> !decide (y.2= .free)||decide (X.env.scope.names.lookup y.1=some .cell))=true)(f:N.length=own+ix.length)(h:Up X (relabel scope X.env) own ix N=true)(hk:Ma own g)(b:∀cl C s H ex pn,PG (blk X (relabel scope X.env) N cl C s H ex pn) tg g)(c:∀cl C s H ex pn,gH (blk X (relabel scope X.env) N cl C s H ex pn) ifs tt)(val:∀cl C s H ex pn,PE (blk X (relabel scope X.env) N cl C s H ex pn) elt te):Fg X tg elt ifs scope own ix N g tt te:=by
 refine⟨h1,λy a e=> ?_,λy a e=> ?_,λy a e=> ?_,Zh f h,hk,b,c,val⟩
 .have:=ABj.mp h2 y a;simp[e] at this
 .have:=ABj.mp h3 y a;simpa[e] using this
 .have:=ABj.mp d y a;simpa[e] using this
end
def SC.new {H:Hp}{p:kj}{o:HO}(h:H p=none):SC H (upd H p o):=λb u q=>by rw[Ah (Av q h)];exact q
def qo (p:kj)(H a:Hp):Prop:=∀b o,b≠p->H b=some o->a b=some o
def SC.but {p:kj}{H H1:Hp}(a:SC H H1):qo p H H1:=λc o _ h=>a c o h
def qo.upd {p:kj}{H:Hp}{o:HO}:qo p H (upd H p o):=λb u n q=>by rw[Ah n];exact q
end L2
namespace PL
open PySem PySem.Spec PyProof.Rows L2
inductive PV where
 | non|bl (b:Bool)|int (i:Int)|str (x:Str)|ty (n:String)
 | tup (xs:List PV)|lst (xs:List PV)|tape|scr (ns:List Int)|dct (kvs:List (FK×Int))|dk (kvs:List (Int×Int))
def FA (H:Hp)(p:kj):Prop:=∃d x:Int,H p=some (.lst [.int d, .int x])/\0<=d/\0<=x/\x<2147483647
def LD (o:HO):Prop:=(∀vs,o≠ .tup vs)/\∀q u,o≠ .frz q u
def LD.lst {xs:kn V}:LD (.lst xs):=⟨(λ_ e=>nomatch e),(λ_ _ e=>nomatch e)⟩
def FA.mut {H:Hp}{p:kj}(h:FA H p):∃o,H p=some o/\LD o:=by obtain⟨d,x,e,_⟩:=h;exact⟨_,e,LD.lst⟩
def qC (K:AAD)(H:Hp)(a:kj)(xs:kn V):Prop:=H a=some (.tup xs)\/∃(o:Obj) (its:Array km) (n:Nat),K.lookup a=some o/\o.cls= .type "tuple" /\o.data= .seq its n/\its.size<=sizeLine/\Ap xs its.toList
def qC.sq {K:AAD}{H:Hp}{a:kj}{xs:kn V}(h:qC K H a xs):LX K H a xs:=h.elim (λz=> .inl (.inl z)) .inr
def nM (kvs:kn (FK×Int)):kn (FK×V):=kvs.map λp=>(p.1,V.int p.2)
def FX (kvs:kn (Int×Int)):kn (Bx×V):=kvs.map λp=>(.inl p.1,V.int p.2)
mutual
inductive Cn (K:AAD) (T M:Addr->Prop) (H:Hp):V->PV->Prop where
 | non:Cn K T M H .non .non
 | bl (b:Bool):Cn K T M H (.bl b) (.bl b)
 | int (i:Int):Cn K T M H (.int i) (.int i)
 | str (x:Str):Cn K T M H (.str x) (.str x)
 | ty (n:String):Cn K T M H (.ty n) (.ty n)
 | tup {a:Addr} {vs:List V} {xs:List PV} (h:qC K H a vs) (r:Ay K T M H vs xs):Cn K T M H (.ref a) (.tup xs)
 | lst {a:Addr} {vs:List V} {xs:List PV} (h:H a=some (.lst vs)) (t:¬T a) (m:¬M a) (r:Ay K T M H vs xs):Cn K T M H (.ref a) (.lst xs)
 | tape {a:Addr} (t:T a):Cn K T M H (.ref a) .tape
 | dct {a:Addr} {kvs:List (FK×Int)} (h:H a=some (.dN K (nM kvs))) (t:¬T a) (m:¬M a):Cn K T M H (.ref a) (.dct kvs)
 | dk {a:Addr} {o:Obj} {es:Array DictEntry} {ep:Nat} {kvs:List (Int×Int)} (h:H a=some (.frz o (.dK (FX kvs)))) (e:o.data= .dict es ep):Cn K T M H (.ref a) (.dk kvs)
 | scr {a:Addr} {ns:List Int} (h:(Rd H a (.lst (ns.map V.int))/\¬T a/\¬M a)\/∀H,FR K H a (ns.map V.int)):Cn K T M H (.ref a) (.scr ns)
inductive Ay (K:AAD) (T M:Addr->Prop) (H:Hp):List V->List PV->Prop where
 | nil:Ay K T M H [] []
 | cons {v:V} {x:PV} {vs:List V} {xs:List PV} (h:Cn K T M H v x) (t:Ay K T M H vs xs):Ay K T M H (v::vs) (x::xs)
end
structure Kb (T M:Addr->Prop) (H:Hp):Prop where
 tp:∀a,T a->FA H a
 mu:∀a,M a->∃o,H a=some o/\LD o
def Kb.noFrz {T M:kj->Prop}{H:Hp}(v:Kb T M H){a:kj}{q:Obj}{u:HO}(r:H a=some (.frz q u)):¬T a/\¬M a:=by
 refine⟨λz=> ?_,λz=> ?_⟩
 .obtain ⟨o,e,_,n⟩:=(v.tp a z).mut;rw[r] at e;cases e;exact n _ _ rfl
 .obtain ⟨o,e,_,n⟩:=v.mu a z;rw[r] at e;cases e;exact n _ _ rfl
def Kb.noTup {T M:kj->Prop}{H:Hp}(v:Kb T M H){a:kj}{vs:kn V}(r:Rd H a (.tup vs)):¬T a/\¬M a:=by
 have go:∀o,H a=some o->LD o->False:=λo e m=>by
  rcases r with r|⟨q,r⟩
  .rw [e] at r;cases r;exact m.1 _ rfl
  .rw [e] at r;cases r;exact m.2 _ _ rfl
 exact⟨λt=>let ⟨o,e,m⟩:=(v.tp a t).mut;go o e m,λt=>let ⟨o,e,m⟩:=v.mu a t;go o e m⟩
structure Mv (K:AAD) (T M:Addr->Prop) (H:Hp) (T' M':Addr->Prop) (H':Hp):Prop where
 va:Kb T M H
 keep:∀b o,¬T b->¬M b->H b=some o->H' b=some o
 sub:∀b,T b->T' b
 tn:∀b,H b≠none->T' b->T b
 mn:∀b,H b≠none->M' b->M b
def Wu {H:Hp}{a:kj}{u:HO}(r:Rd H a u):H a≠none:=by rcases r with r|⟨o,r⟩ <;> rw[r] <;> exact λe=>nomatch e
def oS {H b:Hp}{a:kj}{u:HO}(r:Rd H a u)(k:∀o,H a=some o->b a=some o):Rd b a u:=by
 rcases r with r|⟨o,r⟩
 .exact .inl (k _ r)
 .exact .inr ⟨o,k _ r⟩
section
variable {K:AAD}{T M T' M':kj->Prop}{H H':Hp}
mutual
theorem Cn.mv (m:Mv K T M H T' M' H'):∀{v:V} {x:PV},Cn K T M H v x->Cn K T' M' H' v x
 | _,_, .non=> .non
 | _,_, .bl b=> .bl b
 | _,_, .int i=> .int i
 | _,_, .str x=> .str x
 | _,_, .ty n=> .ty n
 | _,_, .tup (a:=a) (vs:=vs) h r=>by
   refine .tup (vs:=vs) ?_ (Ay.mv m r);rcases h with h|h
   .obtain ⟨t,u⟩:=m.va.noTup (.inl h);exact .inl (m.keep _ _ t u h)
   .exact .inr h
 | _,_, .lst (a:=a) h t u r=> .lst (m.keep _ _ t u h) (λz=>t (m.tn a (by rw[h];exact λe=>nomatch e) z)) (λz=>u (m.mn a (by rw[h];exact λe=>nomatch e) z)) (Ay.mv m r)
 | _,_, .tape t=> .tape (m.sub _ t)
 | _,_, .dct (a:=a) h t u=> .dct (m.keep _ _ t u h) (λz=>t (m.tn a (by rw[h];exact λe=>nomatch e) z)) (λz=>u (m.mn a (by rw[h];exact λe=>nomatch e) z))
 | _,_, .dk h e=>by obtain⟨t,u⟩:=m.va.noFrz h;exact .dk (m.keep _ _ t u h) e
 | _,_, .scr (a:=a) (.inl ⟨h,t,u⟩)=> .scr (.inl ⟨oS h λo e=>m.keep _ o t u e,λz=>t (m.tn a (Wu h) z),λz=>u (m.mn a (Wu h) z)⟩)
 | _,_, .scr (.inr h)=> .scr (.inr h)
theorem Ay.mv (m:Mv K T M H T' M' H'):∀{vs:kn V} {xs:kn PV},Ay K T M H vs xs->Ay K T' M' H' vs xs
 | _,_, .nil=> .nil
 | _,_, .cons h t=> .cons (Cn.mv m h) (Ay.mv m t)
end
end
def Ay.length {K:AAD}{T M:kj->Prop}{H:Hp}:∀{vs:kn V} {xs:kn PV},Ay K T M H vs xs->vs.length=xs.length
 | _,_, .nil=>rfl
 | _,_, .cons _ t=>by simp[t.length]
theorem Ay.get {K:AAD}{T M:kj->Prop}{H:Hp}:∀{vs:kn V} {xs:kn PV} {i:Nat} {x:PV},Ay K T M H vs xs->xs[i]? =some x->∃v,vs[i]? =some v/\Cn K T M H v x
 | _,_,_,_, .nil,e=>by simp at e
 | _,_,0,_, .cons h _,e=>by simp at e;subst e;exact⟨_,rfl,h⟩
 | _,_,i+1,x, .cons _ t,e=>by obtain⟨u,h1,h2⟩:=Ay.get (i:=i) (x:=x) t (by simpa using e);exact⟨u,by simpa using h1,h2⟩
def Ay.get' {K:AAD}{T M:kj->Prop}{H:Hp}{vs:kn V}{xs:kn PV}{i:Nat}{v:V}(h:Ay K T M H vs xs)(e:vs[i]? =some v):∃x,xs[i]? =some x/\Cn K T M H v x:=by have hl:=h.length;have hi:i<vs.length:=(AA0.mp e).1;obtain⟨w,a,r⟩:=h.get (i:=i) (x:=xs[i]'(by omega)) (AAS (by omega));rw[e] at a;cases a;exact⟨_,AAS (by omega),r⟩
def Ay.append {K:AAD}{T M:kj->Prop}{H:Hp}:∀{vs a:kn V} {xs b:kn PV},Ay K T M H vs xs->Ay K T M H a b->Ay K T M H (vs++a) (xs++b)
 | _,_,_,_, .nil,s=>s
 | _,_,_,_, .cons h t,s=> .cons h (t.append s)
def Ay.take {K:AAD}{T M:kj->Prop}{H:Hp}:∀{vs:kn V} {xs:kn PV} (n:Nat),Ay K T M H vs xs->Ay K T M H (vs.take n) (xs.take n)
 | _,_,0,_=> .nil
 | _,_,_+1, .nil=> .nil
 | _,_,n+1, .cons r t=> .cons r (t.take n)
def Ay.drop {K:AAD}{T M:kj->Prop}{H:Hp}:∀{vs:kn V} {xs:kn PV} (n:Nat),Ay K T M H vs xs->Ay K T M H (vs.drop n) (xs.drop n)
 | _,_,0,r=>r
 | _,_,_+1, .nil=> .nil
 | _,_,n+1, .cons _ t=>t.drop n
theorem Ay.set {K:AAD}{T M:kj->Prop}{H:Hp}{v:V}{x:PV}(r:Cn K T M H v x):∀{vs:kn V} {xs:kn PV} (i:Nat),Ay K T M H vs xs->Ay K T M H (vs.set i v) (xs.set i x)
 | _,_,_, .nil=> .nil
 | _,_,0, .cons _ t=> .cons r t
 | _,_,i+1, .cons q t=> .cons q (Ay.set r i t)
def Ay.reverse {K:AAD}{T M:kj->Prop}{H:Hp}{vs:kn V}{xs:kn PV}(h:Ay K T M H vs xs):Ay K T M H vs.reverse xs.reverse:=by
 induction vs generalizing xs with
 | nil=>cases h;exact .nil
 | cons v vs a=>
   cases h with
   | cons h t=>rw[AC3,AC3];exact(a t).append (.cons h .nil)
structure Ct (T:Addr->Prop) (H:Hp) (T':Addr->Prop) (H':Hp):Prop where
 keep:∀b o,¬T b->H b=some o->H' b=some o
 sub:∀b,T b->T' b
 new:∀b,T' b->T b\/H b=none
 tp:∀a,T' a->FA H' a
def Ct.refl {T:kj->Prop}{H:Hp}(h:∀a,T a->FA H a):Ct T H T H:=⟨λ_ _ _ e=>e,λ_ e=>e,λ_ e=> .inl e,h⟩
def Ct.some {T c:kj->Prop}{H a:Hp}(s:Ct T H c a){b:kj}(h:H b≠none):a b≠none:=by
 by_cases t:T b
 .obtain ⟨o,e,_⟩:=(s.tp b (s.sub b t)).mut;rw[e];exact λe=>nomatch e
 .cases e:H b with
  | none=>exact absurd e h
  | some o=>rw[s.keep b o t e];exact λe=>nomatch e
def Ct.none {T c:kj->Prop}{H a:Hp}(s:Ct T H c a){b:kj}(h:a b=none):H b=none:=by
 cases e:H b with
 | none=>rfl
 | some o=>exact absurd h (s.some (by rw[e];exact λe=>nomatch e))
def Ct.trans {T T1 d:kj->Prop}{H H1 f:Hp}(a:Ct T H T1 H1)(b:Ct T1 H1 d f):Ct T H d f where
 keep:=λc o t e=>b.keep c o (λz=>(a.new c z).elim t λn=>by rw[n] at e;cases e) (a.keep c o t e)
 sub:=λc t=>b.sub c (a.sub c t)
 new:=λc t=>(b.new c t).elim (λz=>a.new c z) λz=> .inr (a.none z)
 tp:=b.tp
def Ct.lay {T:kj->Prop}{H:Hp}{p:kj}{o:HO}(h:∀a,T a->FA H a)(hp:H p=Option.none):Ct T H T (upd H p o) where
 keep:=λb u _ e=>by rw[Ah (Av e hp)];exact e
 sub:=λ_ t=>t
 new:=λ_ t=> .inl t
 tp:=λa t=>by obtain⟨d,x,e,z⟩:=h a t;exact⟨d,x,by rw[Ah (Av e hp)];exact e,z⟩
def Ct.mv {K:AAD}{T a M:kj->Prop}{H c:Hp}(s:Ct T H a c)(v:Kb T M H):Mv K T M H a M c where
 va:=v
 keep:=λb o t _ e=>s.keep b o t e
 sub:=s.sub
 tn:=λb n t=>(s.new b t).elim id λz=>absurd z n
 mn:=λ_ _ z=>z
def Cn.stp {K:AAD}{T a M:kj->Prop}{H b:Hp}{v:V}{x:PV}(r:Cn K T M H v x)(s:Ct T H a b)(va:Kb T M H):Cn K a M b v x:=r.mv (s.mv va)
def Ay.stp {K:AAD}{T a M:kj->Prop}{H b:Hp}{v:kn V}{x:kn PV}(r:Ay K T M H v x)(s:Ct T H a b)(va:Kb T M H):Ay K a M b v x:=r.mv (s.mv va)
def Mv.anti {K:AAD}{T M c:kj->Prop}{H:Hp}(v:Kb T M H)(h:∀a,c a->M a):Mv K T M H T c H:=⟨v,λ_ _ _ _ e=>e,λ_ t=>t,λ_ _ t=>t,λb _ t=>h b t⟩
inductive AV where
 | val (x:PV)
 | own (xs:List PV)
abbrev A6:=kn (ki AV)
structure Cu where
 T:Addr->Prop
 H:Hp
 M:Addr->Prop
def Cu.add (B:Cu)(p:kj):Cu:=⟨B.T,B.H,λa=>B.M a\/a=p⟩
def CZ (a:L2.St)(τ:A6)(p:kj):Prop:=∃(i:Nat) (xs:kn PV),τ[i]? =some (some (.own xs))/\a[i]? =some (some (.ref p))
def mt (B:Cu)(a:L2.St)(τ:A6)(p:kj):Prop:=B.M p\/CZ a τ p
structure SR (K:AAD) (B:Cu) (T:Addr->Prop) (H:Hp) (σ:L2.St) (τ:A6):Prop where
 len:σ.length=τ.length
 val:∀(i:Nat) (x:PV),τ[i]? =some (some (.val x))->∃v,σ[i]? =some (some v)/\Cn K T (mt B σ τ) H v x
 own:∀(i:Nat) (xs:List PV),τ[i]? =some (some (.own xs))->∃p vs,σ[i]? =some (some (.ref p))/\H p=some (.lst vs)/\Ay K T (mt B σ τ) H vs xs/\B.H p=none/\¬T p/\¬B.M p
 dist:∀(i j:Nat) (xs ys:List PV) (p:Addr),τ[i]? =some (some (.own xs))->τ[j]? =some (some (.own ys))->σ[i]? =some (some (.ref p))->σ[j]? =some (some (.ref p))->i=j
 tp:∀a,T a->FA H a
 bm:∀a,B.M a->∃o,H a=some o/\LD o
 bt:∀a,B.M a->¬T a
 st:Ct B.T B.H T H
section
variable {K:AAD}{B:Cu}{T T':kj->Prop}{H H':Hp}{σ:L2.St}{τ:A6}
def SR.ownH (s:SR K B T H σ τ){p:kj}(o:CZ σ τ p):∃vs,H p=some (.lst vs)/\B.H p=none/\¬T p/\¬B.M p:=by obtain⟨i,xs,h1,h2⟩:=o;obtain⟨q,vs,e,h,_,b,t,m⟩:=s.own i xs h1;rw[h2] at e;cases e;exact⟨vs,h,b,t,m⟩
def SR.va (s:SR K B T H σ τ):Kb T (mt B σ τ) H:=⟨s.tp,λa m=>m.elim (s.bm a) λo=>let ⟨vs,h,_⟩:=s.ownH o;⟨_,h,LD.lst⟩⟩
def SR.nt (s:SR K B T H σ τ){a:kj}(m:mt B σ τ a):¬T a:=m.elim (s.bt a) λo=>let ⟨_,_,_,t,_⟩:=s.ownH o;t
def SR.stp (s:SR K B T H σ τ)(p:Ct T H T' H'):SR K B T' H' σ τ where
 len:=s.len
 val:=λi x e=>let ⟨v,h,r⟩:=s.val i x e;⟨v,h,r.stp p s.va⟩
 own:=λi xs e=>by obtain⟨q,vs,c,h,r,b,t,m⟩:=s.own i xs e;exact⟨q,vs,c,p.keep _ _ t h,r.stp p s.va,b,(λz=>(p.new q z).elim t λn=>by rw[n] at h;cases h),m⟩
 dist:=s.dist
 tp:=p.tp
 bm:=λa m=>let ⟨o,e,q⟩:=s.bm a m;⟨o,p.keep a o (s.bt a m) e,q⟩
 bt:=λa m z=>by obtain⟨o,e,_⟩:=s.bm a m;exact(p.new a z).elim (s.bt a m) λn=>by rw[n] at e;cases e
 st:=s.st.trans p
def SR.add {p:kj}{o:HO}(s:SR K B T H σ τ)(q:Ct T H T' H')(f:H p=none)(k:H' p=some o)(l:LD o)(u:¬T' p):SR K (B.add p) T' H' σ τ:=by
 have c:=s.stp q;have g:Mv K T (mt B σ τ) H T' (mt (B.add p) σ τ) H':=⟨s.va,λb o t _ e=>q.keep b o t e,q.sub,λb n t=>(q.new b t).elim id λz=>absurd z n,λb n z=>by
  rcases z with(z|z)|z
  .exact .inl z
  .subst z;exact absurd f n
  .exact .inr z⟩
 refine⟨s.len,λi x e=> ?_,λi xs e=> ?_,s.dist,c.tp,λa m=> ?_,λa m=> ?_,c.st⟩
 .obtain ⟨v,h,r⟩:=s.val i x e;exact⟨v,h,r.mv g⟩
 .obtain ⟨a,vs,j,h,r,b,t,m⟩:=s.own i xs e;obtain⟨y,w,d,h',_,A,t',C⟩:=c.own i xs e;rw[j] at d;cases d;rw[q.keep _ _ t h] at h';cases h';refine⟨a,vs,j,q.keep _ _ t h,r.mv g,b,t',λz=> ?_⟩;rcases z with z|z
  .exact m z
  .subst z;rw[f] at h;cases h
 .rcases m with m|m
  .exact c.bm a m
  .subst m;exact⟨o,k,l⟩
 .rcases m with m|m
  .exact c.bt a m
  .subst m;exact u
end
def ib:ki AV->ki AV
 | some (.own xs)=>some (.val (.lst xs))
 | o=>o
def frz (τ:A6):A6:=τ.map ib
def WO {τ:A6}{i:Nat}:(frz τ)[i]? =(τ[i]?).map ib:=by simp[frz]
def dH {τ:A6}{i:Nat}{x:PV}(h:(frz τ)[i]? =some (some (.val x))):τ[i]? =some (some (.val x))\/∃xs,x= .lst xs/\τ[i]? =some (some (.own xs)):=by
 rw[WO] at h;cases e:τ[i]? with
 | none=>rw[e] at h;cases h
 | some o=>
   rw[e] at h;cases o with
   | none=>cases h
   | some a=>
     cases a with
     | val y=>cases h;exact .inl rfl
     | own xs=>cases h;exact .inr ⟨xs,rfl,rfl⟩
def QZ {τ:A6}{i:Nat}{xs:kn PV}:(frz τ)[i]? ≠some (some (.own xs)):=by
 rw[WO];cases e:τ[i]? with
 | none=>exact λz=>nomatch z
 | some o=>
   cases o with
   | none=>exact λz=>nomatch z
   | some a=>cases a <;> exact λz=>nomatch z
def Ta {a:L2.St}{τ:A6}{p:kj}:¬CZ a (frz τ) p:=λ⟨_,_,h,_⟩=>QZ h
section
variable {K:AAD}{B:Cu}{T T':kj->Prop}{H H':Hp}{σ:L2.St}{τ:A6}
def SR.frz (s:SR K B T H σ τ):SR K B T H σ (frz τ):=by
 have d:Mv K T (mt B σ τ) H T (mt B σ (PL.frz τ)) H:= .anti s.va λa m=>m.elim .inl λz=>absurd z Ta;refine⟨by simp[PL.frz,s.len],λi x e=> ?_,λi xs e=>absurd e QZ,λi j xs k p e=>absurd e QZ,s.tp,s.bm,s.bt,s.st⟩;rcases dH e with c|⟨xs,f,c⟩
 .obtain ⟨v,h,r⟩:=s.val i x c;exact⟨v,h,r.mv d⟩
 .subst f;obtain⟨p,vs,g,h,r,b,t,m⟩:=s.own i xs c;exact⟨.ref p,g, .lst h t (λz=>z.elim m Ta) (r.mv d)⟩
end
mutual
def Rs:PV->ke
 | .lst _=>false
 | .tape=>false
 | .scr _=>false
 | .dct _=>false
 | .tup xs=>JC xs
 | _=>true
def JC:kn PV->ke
 | [] =>true
 | x::xs=>Rs x&&JC xs
end
section
variable {K:AAD}{T M M':kj->Prop}{H:Hp}
mutual
theorem Cn.free:∀{v:V} {x:PV},Rs x=true->Cn K T M H v x->Cn K T M' H v x
 | _,_,_, .non=> .non
 | _,_,_, .bl b=> .bl b
 | _,_,_, .int i=> .int i
 | _,_,_, .str x=> .str x
 | _,_,_, .ty n=> .ty n
 | _,_,n, .tup h r=> .tup h (Ay.free (by rw[Rs] at n;exact n) r)
 | _,_,n, .lst _ _ _ _=>by rw[Rs] at n;cases n
 | _,_,n, .tape _=>by rw[Rs] at n;cases n
 | _,_,n, .scr _=>by rw[Rs] at n;cases n
 | _,_,n, .dct _ _ _=>by rw[Rs] at n;cases n
 | _,_,_, .dk h e=> .dk h e
theorem Ay.free:∀{vs:kn V} {xs:kn PV},JC xs=true->Ay K T M H vs xs->Ay K T M' H vs xs
 | _,_,_, .nil=> .nil
 | _,_,n, .cons h t=>by rw[JC,AAs] at n;exact .cons (Cn.free n.1 h) (Ay.free n.2 t)
end
end
abbrev AE:=A6->(PV->Prop)->Prop
abbrev AT:=A6->(ke->Prop)->Prop
abbrev AA:=A6->(kn PV->Prop)->Prop
abbrev AF:=kn PV->(PV->Prop)->Prop
def Rt:A6->Nat->ki AV
 | [],_=>none
 | x::_,0=>x
 | _::r,n+1=>Rt r n
theorem NF:∀{τ:A6} {i:Nat} {a:AV},Rt τ i=some a->τ[i]? =some (some a)
 | [],_,_,h=>by simp[Rt] at h
 | x::_,0,_,h=>by simpa[Rt] using h
 | _::r,n+1,a,h=>by have:=NF (τ:=r) (i:=n) (a:=a) (by simpa[Rt] using h);simpa using this
def Ru (x:PV)(R:Int->Prop):Prop:=match x with | .int i=>R i|_=>False
def YU (x y:PV)(R:Int->Int->Prop):Prop:=match x,y with | .int i, .int j=>R i j|_,_=>False
def Y0 (x:PV)(R:ke->Prop):Prop:=match x with | .bl b=>R b|_=>False
def jV (o:ki PV)(R:PV->Prop):Prop:=match o with | some z=>R z|none=>False
def jX {o:ki PV}{R:PV->Prop}(h:jV o R):∃z,o=some z/\R z:=by cases o <;> first | exact⟨_,rfl,h⟩|exact h.elim
def Q8 (x:PV)(R:kn PV->Prop):Prop:=match x with | .tup xs=>R xs | .lst xs=>R xs|_=>False
def GX {x:PV}{R:Int->Prop}(h:Ru x R):∃i,x= .int i/\R i:=by cases x <;> first | exact⟨_,rfl,h⟩|exact h.elim
def Q7 {x y:PV}{R:Int->Int->Prop}(h:YU x y R):∃i j,x= .int i/\y= .int j/\R i j:=by cases x <;> cases y <;> first | exact⟨_,_,rfl,rfl,h⟩|exact h.elim
def NN {x:PV}{R:ke->Prop}(h:Y0 x R):∃b,x= .bl b/\R b:=by cases x <;> first | exact⟨_,rfl,h⟩|exact h.elim
def NO {x:PV}{R:kn PV->Prop}(h:Q8 x R):∃xs,(x= .tup xs\/x= .lst xs)/\R xs:=by cases x <;> first | exact⟨_, .inl rfl,h⟩|exact⟨_, .inr rfl,h⟩|exact h.elim
def Cn.toI {K:AAD}{T M:kj->Prop}{H:Hp}{v:V}{i:Int}(r:Cn K T M H v (.int i)):v= .int i:=by cases r;rfl
def Cn.toB {K:AAD}{T M:kj->Prop}{H:Hp}{v:V}{i:ke}(r:Cn K T M H v (.bl i)):v= .bl i:=by cases r;rfl
def HF (K:AAD)(t:TE)(a:AE):Prop:=∀(B:Cu) (T:kj->Prop) (b:L2.St) (τ:A6) (H:Hp) (Q:VK) (d:PV->Prop),SR K B T H b τ->a τ d->
 (∀v x e c,Ct T H e c->Cn K e (mt B b τ) c v x->d x->Q v c)->t b H Q
def UV (K:AAD)(t:TT)(a:AT):Prop:=∀(B:Cu) (T:kj->Prop) (c:L2.St) (τ:A6) (H:Hp) (Q:ke->Hp->Prop) (d:ke->Prop),SR K B T H c τ->a τ d->
 (∀b f e,Ct T H f e->d b->Q b e)->t c H Q
def iB (K:AAD)(t:TA)(a:AA):Prop:=∀(B:Cu) (T:kj->Prop) (b:L2.St) (τ:A6) (H:Hp) (Q:kn V->Hp->Prop) (d:kn PV->Prop),SR K B T H b τ->a τ d->
 (∀vs xs e c,Ct T H e c->Ay K e (mt B b τ) c vs xs->d xs->Q vs c)->t b H Q
def c5 (K:AAD)(t:TE)(a:AA):Prop:=∀(B:Cu) (T:kj->Prop) (c:L2.St) (τ:A6) (H:Hp) (Q:VK) (e:kn PV->Prop),SR K B T H c τ->a τ e->
 (∀p vs xs d b,Ct T H d b->SR K (B.add p) d b c τ->H p=none->b p=some (.lst vs)->¬d p->Ay K d (mt (B.add p) c τ) b vs xs->e xs->Q (.ref p) b)->t c H Q
def SE (X:Cx)(e:kf)(a:AE):Prop:=∃t,PE X e t/\HF X.K t a
def V1 (X:Cx)(e:kf)(a:AT):Prop:=∃t,PT X e t/\UV X.K t a
def SW (X:Cx)(e:kf)(a:AT):Prop:=∃t,PW X e t/\UV X.K t a
def SA (X:Cx)(es:kn kf)(a:AA):Prop:=∃t,PA X es t/\iB X.K t a
def SF (X:Cx)(e:kf)(a:AA):Prop:=∃t,PE X e t/\c5 X.K t a
abbrev G6:=PV->PV->(PV->Prop)->Prop
def Bw (K:AAD)(r:R2)(f:G6):Prop:=∀(T M:kj->Prop) (H:Hp) (u v:V) (x y:PV) (Q:VK) (b:PV->Prop),Kb T M H->Cn K T M H u x->Cn K T M H v y->f x y b->
 (∀w z c a,Ct T H c a->Cn K c M a w z->b z->Q w a)->r u v H Q
def ED (K:AAD)(r:kn V->Hp->VK->Prop)(f:AF):Prop:=∀(T M:kj->Prop) (H:Hp) (b:kn V) (xs:kn PV) (Q:VK) (c:PV->Prop),Kb T M H->Ay K T M H b xs->f xs c->
 (∀w z d a,Ct T H d a->Cn K d M a w z->c z->Q w a)->r b H Q
section
variable {X:Cx}{a b c:kf}{es:kn kf}{pos:Pos}{ta tb:AE}{tA tB':AT}
def aV (i:Nat):AE:=λτ Q=>match Rt τ i with | some (.val x)=>Q x|_=>False
def mL {i:Nat}{τ:A6}{Q:PV->Prop}(h:aV i τ Q):∃x,τ[i]? =some (some (.val x))/\Q x:=by
 unfold aV at h;cases e:Rt τ i with
 | none=>rw[e] at h;exact h.elim
 | some z=>
   rw[e] at h;cases z with
   | own xs=>exact h.elim
   | val x=>exact⟨x,NF e,h⟩
def AJ (i:Nat){x:Str}{pos:Pos}(hN:X.N[i]? =some x:=by rfl)(hv:cT X.env.scope x:=by first | exact Or.inl rfl|exact Or.inr (Or.inl rfl)|exact Or.inr (Or.inr rfl))(hd:(x==("__debug__" :Str))=false:=by decide)(d:(x==("__classdict__" :Str))=false:=by decide):SE X (.Name x pos) (aV i):=by refine⟨_,Hz hN hv hd d,λB T g τ H Q j s h k=> ?_⟩;obtain⟨x,e,q⟩:=mL h;obtain⟨v,f,r⟩:=s.val i x e;exact⟨v,f,k v x T H (.refl s.tp) r q⟩
def aC (x:PV):AE:=λ_ Q=>Q x
def Pm {v:V}{x:PV}(h:∀T M H,Cn X.K T M H v x):HF X.K (tC v) (aC x):=λB T d τ H Q e s h' k=>k v x T H (.refl s.tp) (h _ _ _) h'
def AH {i:Int}{j pos}:SE X (.Constant (.int i) j pos) (aC (.int i)):=⟨_,BG,Pm λ_ _ _=> .int i⟩
def Db {i:ke}{j pos}:SE X (.Constant (.bool i) j pos) (aC (.bl i)):=⟨_,n8,Pm λ_ _ _=> .bl i⟩
def Bh {j pos}:SE X (.Constant .none j pos) (aC .non):=⟨_,jo,Pm λ_ _ _=> .non⟩
def FQ {i:Str}{j pos}:SE X (.Constant (.str i) j pos) (aC (.str i)):=⟨_,jr,Pm λ_ _ _=> .str i⟩
def gi {x:Str}{n:String}{u:km}{pos:Pos}(d:Gl X x)(e:X.mg x=none)(hv:bootBuiltins x=some u)(r:RelV (.ty n) u)(f:x≠"__name__" :=by decide)(hd:(x==("__debug__" :Str))=false:=by decide):SE X (.Name x pos) (aC (.ty n)):=
 ⟨_,Fv (v:= .ty n) d e hv r f hd,Pm λ_ _ _=> .ty n⟩
def AX (f:G6)(ta tb:AE):AE:=λτ Q=>ta τ λx=>tb τ λy=>f x y Q
def Rf {r:R2}{f:G6}{t u:TE}(i:Bw X.K r f)(ha:HF X.K t ta)(hb:HF X.K u tb):HF X.K (fw r t u) (AX f ta tb):=by intro B T g τ H Q j s h k;refine ha B T g τ H _ _ s h λv x T1 H1 d l h1=> ?_;refine hb B T1 g τ H1 _ _ (s.stp d) h1 λw y m n e o h2=> ?_;have p:=(s.stp d).stp e;exact i m _ n v w x y Q j p.va (l.stp e (s.stp d).va) o h2 λw z T3 A C D q=>k w z T3 A ((d.trans e).trans C) D q
def Aj {op:Operator}{r:R2}{f:G6}(d:DY X (binaryOp op) r/\Bw X.K r f)(ha:SE X a ta)(hb:SE X b tb):SE X (.BinOp a op b pos) (AX f ta tb):=
 let ⟨_,p,s⟩:=ha;let ⟨_,e,g⟩:=hb;⟨_,Bo d.1 p e,Rf d.2 s g⟩
def B7 {op:CmpOp}{r:R2}{f:G6}(d:DY X (compareOp op) r/\Bw X.K r f)(ha:SE X a ta)(hb:SE X b tb)(e:behindInMarks op b=false):SE X (.Compare a [op] [b] pos) (AX f ta tb):=
 let ⟨_,p,s⟩:=ha;let ⟨_,g,h⟩:=hb;⟨_,RD d.1 p g e,Rf d.2 s h⟩
def om {r:R2}{f:G6}(d:cu X r/\Bw X.K r f)(ha:SE X a ta)(hb:SE X b tb)(hs:QI b):SE X (.Subscript a b pos) (AX f ta tb):=
 let ⟨_,p,s⟩:=ha;let ⟨_,e,g⟩:=hb;⟨_,Kx d.1 p e hs,Rf d.2 s g⟩
def fI (g:Int->Int->PV):G6:=λx y Q=>YU x y λi j=>Q (g i j)
def mU (C:Int->Int->Prop)(g:Int->Int->PV):G6:=λx y Q=>YU x y λi j=>C i j/\Q (g i j)
def W1 {g:Int->Int->V}{g':Int->Int->PV}(d:∀i j T M H,Cn X.K T M H (g i j) (g' i j)):Bw X.K (RM g) (fI g'):=by intro T M H u v x y Q f va e rv h k;obtain⟨i,j,rfl,rfl,q⟩:=Q7 h;exact⟨i,j,e.toI,rv.toI,k _ _ T H (.refl va.tp) (d i j T M H) q⟩
def Vb {C:Int->Int->Prop}{g:Int->Int->V}{g':Int->Int->PV}(d:∀i j T M H,Cn X.K T M H (g i j) (g' i j)):Bw X.K (rI C g) (mU C g'):=by intro T M H u v x y Q f va e rv h k;obtain⟨i,j,rfl,rfl,c,q⟩:=Q7 h;exact⟨i,j,e.toI,rv.toI,c,k _ _ T H (.refl va.tp) (d i j T M H) q⟩
abbrev Js:G6:=fI λi j=> .int (i-j)
abbrev UE:G6:=fI λi j=> .bl (decide (i<j))
abbrev rP:G6:=fI λi j=> .bl (decide (i<=j))
abbrev Xz:G6:=fI λi j=> .bl (decide (j<i))
def EB:DY X (binaryOp .Sub) (RM λi j=> .int (i-j))/\Bw X.K (RM λi j=> .int (i-j)) Js:=⟨jf,W1 λi j _ _ _=> .int _⟩
def Ed:DY X (compareOp .Lt) (RM λi j=> .bl (decide (i<j)))/\Bw X.K (RM λi j=> .bl (decide (i<j))) UE:=⟨gX,W1 λi j _ _ _=> .bl _⟩
def gm:DY X (compareOp .LtE) (RM λi j=> .bl (decide (i<=j)))/\Bw X.K (RM λi j=> .bl (decide (i<=j))) rP:=⟨nj,W1 λi j _ _ _=> .bl _⟩
def Gr:DY X (compareOp .Gt) (RM λi j=> .bl (decide (j<i)))/\Bw X.K (RM λi j=> .bl (decide (j<i))) Xz:=⟨gW,W1 λi j _ _ _=> .bl _⟩
structure MulOk (i j:Int):Prop where
 l:i.natAbs<2^1000000
 r:j.natAbs<2^1000000
def Q9:DY X (binaryOp .Mult) (rI MulOk λi j=> .int (i*j)):=jY λ_ _ _ _ _ _ _ hc q=>mul_int q (.of_le (G7 hc.l) (G7 hc.r) (by decide))
abbrev Ci:G6:=mU MulOk λi j=> .int (i*j)
def BH:DY X (binaryOp .Mult) (rI MulOk λi j=> .int (i*j))/\Bw X.K (rI MulOk λi j=> .int (i*j)) Ci:=⟨Q9,Vb λi j _ _ _=> .int _⟩
structure Vy (i j:Int):Prop where
 ne:j≠0
 lt:j.natAbs<2^8900
def aY:DY X (binaryOp .FloorDiv) (rI Vy λi j=> .int (i.fdiv j)):=jY λi j _ _ _ _ _ hc q=>
 floordiv_int hc.ne q (.inl (AEE (ACZ (JB hc.lt (by decide)) (by decide))))
abbrev QY:G6:=mU Vy λi j=> .int (i.fdiv j)
def E3:DY X (binaryOp .FloorDiv) (rI Vy λi j=> .int (i.fdiv j))/\Bw X.K (rI Vy λi j=> .int (i.fdiv j)) QY:=⟨aY,Vb λi j _ _ _=> .int _⟩
abbrev X1:G6:=mU (λ_ j=>j≠0) λi j=> .int (i.fmod j)
def Ve:DY X (binaryOp .Mod) (rI (λ_ j=>j≠0) λi j=> .int (i.fmod j))/\Bw X.K (rI (λ_ j=>j≠0) λi j=> .int (i.fmod j)) X1:=⟨d7,Vb λi j _ _ _=> .int _⟩
def qO:PV->ke | .non=>true|_=>false
def X0:G6:=λx y Q=>match y with | .non=>Q (.bl (qO x))|_=>False
def Mp:G6:=λx y Q=>match y with | .non=>Q (.bl (!qO x))|_=>False
def Wc {K:AAD}{T M:kj->Prop}{H:Hp}{v:V}{x:PV}(r:Cn K T M H v x):decide (v= .non)=qO x:=by cases r <;> simp[qO]
def Vd:DY X (compareOp .Is) (λx y H Q=>y= .non/\Q (.bl (decide (x= .non))) H)/\Bw X.K (λx y H Q=>y= .non/\Q (.bl (decide (x= .non))) H) X0:=by
 refine⟨jb,λT M H u v x y Q e va d rv h k=> ?_⟩;cases y <;> first | exact h.elim|skip
 cases rv;refine⟨rfl, ?_⟩;rw[Wc d];exact k _ _ T H (.refl va.tp) (.bl _) h
def Ri:DY X (compareOp .IsNot) (λx y H Q=>y= .non/\Q (.bl (!decide (x= .non))) H)/\Bw X.K (λx y H Q=>y= .non/\Q (.bl (!decide (x= .non))) H) Mp:=by
 refine⟨d9,λT M H u v x y Q e va d rv h k=> ?_⟩;cases y <;> first | exact h.elim|skip
 cases rv;refine⟨rfl, ?_⟩;rw[Wc d];exact k _ _ T H (.refl va.tp) (.bl _) h
def An:G6:=λx y Q=>Q8 x λxs=>Ru y λi=>jV (Me xs i) Q
def V8 {K:AAD}{T M:kj->Prop}{H:Hp}{vs:kn V}{xs:kn PV}{i:Int}{z:PV}(r:Ay K T M H vs xs)(h:Me xs i=some z):∃v,Me vs i=some v/\Cn K T M H v z:=by
 unfold Me at h ⊢;rw[r.length];cases e:YG xs.length i with
 | none=>rw[e] at h;cases h
 | some j=> rw[e] at h;exact r.get h
def oK (K:AAD):R2:=λx y H Q=>oJ K x y H Q\/oM K x y H Q
def pA:cu X (oK X.K)/\Bw X.K (oK X.K) An:=by
 refine⟨Ew.or jF,λT M H u v x y Q j va g rv h k=> ?_⟩;obtain⟨xs,hx,h1⟩:=NO h;obtain⟨i,rfl,h2⟩:=GX h1;cases rv.toI;obtain⟨z,e,q⟩:=jX h2;rcases hx with rfl|rfl
 .cases g with
  | tup f r=> obtain⟨w,ew,d⟩:=V8 r e;exact .inr ⟨_,_,i,w,rfl,rfl,f.sq,ew,k w z T H (.refl va.tp) d q⟩
 .cases g with
  | lst f t m r=> obtain⟨w,ew,d⟩:=V8 r e;exact .inl ⟨_,_,i,w,rfl,rfl, .inl (.inl f),ew,k w z T H (.refl va.tp) d q⟩
def V4 (f:PV->(PV->Prop)->Prop)(ta:AE):AE:=λτ Q=>ta τ λx=>f x Q
def LJ (x:PV)(Q:PV->Prop):Prop:=Ru x λi=>Q (.int (-i))
def FP (ha:SE X a ta):SE X (.UnaryOp .USub a pos) (V4 LJ ta):=by obtain⟨t,p,s⟩:=ha;refine⟨_,oB lD p,λB T d τ H Q j e h k=>s B T d τ H _ _ e h λv x T1 H1 f g h1=> ?_⟩;obtain⟨i,rfl,q⟩:=GX h1;exact⟨i,g.toI,k _ _ T1 H1 f (.int _) q⟩
def iW (x:PV)(Q:PV->Prop):Prop:=Y0 x λi=>Q (.bl (!i))
def kO (ha:SE X a ta):SE X (.UnaryOp .Not a pos) (V4 iW ta):=by obtain⟨t,p,s⟩:=ha;refine⟨_,jp p,λB T d τ H Q j e h k=>s B T d τ H _ _ e h λv x T1 H1 f g h1=> ?_⟩;obtain⟨i,rfl,q⟩:=NN h1;exact⟨i,g.toB,k _ _ T1 H1 f (.bl _) q⟩
def LH (ta tb:AE):AE:=λτ Q=>ta τ λx=>Y0 x λc=>if c=true then tb τ Q else Q (.bl false)
def qE (ta tb:AE):AE:=λτ Q=>ta τ λx=>Y0 x λc=>if c=true then Q (.bl true) else tb τ Q
def F1 {op}(h:SE X a ta):SE X (.BoolOp op [a] pos) ta:=let ⟨_,p,s⟩:=h;⟨_,jq p,s⟩
def FO {rest:kn kf}(ha:SE X a ta)(hb:SE X (.BoolOp .And (b::rest) pos) tb):SE X (.BoolOp .And (a::b::rest) pos) (LH ta tb):=by
 obtain⟨t,p,s⟩:=ha;obtain⟨t',g,j⟩:=hb;refine⟨_,jk p g,λB T e τ H Q u f h k=>s B T e τ H _ _ f h λv x T1 H1 d l h1=> ?_⟩;obtain⟨i,rfl,q⟩:=NN h1;refine⟨i,l.toB, ?_⟩;cases i with
 | true=>rw[AAG rfl] at q ⊢;exact j B T1 e τ H1 _ _ (f.stp d) q λw y m n o r h2=>k w y m n (d.trans o) r h2
 | false=>rw[AAF AAU] at q ⊢;exact k _ _ T1 H1 d (.bl _) q
def gg {rest:kn kf}(ha:SE X a ta)(hb:SE X (.BoolOp .Or (b::rest) pos) tb):SE X (.BoolOp .Or (a::b::rest) pos) (qE ta tb):=by
 obtain⟨t,p,s⟩:=ha;obtain⟨t',g,j⟩:=hb;refine⟨_,oA p g,λB T e τ H Q u f h k=>s B T e τ H _ _ f h λv x T1 H1 d l h1=> ?_⟩;obtain⟨i,rfl,q⟩:=NN h1;refine⟨i,l.toB, ?_⟩;cases i with
 | false=>rw[AAF AAU] at q ⊢;exact j B T1 e τ H1 _ _ (f.stp d) q λw y m n o r h2=>k w y m n (d.trans o) r h2
 | true=>rw[AAG rfl] at q ⊢;exact k _ _ T1 H1 d (.bl _) q
def BA (ta:AE):AT:=λτ Q=>ta τ λx=>Y0 x Q
def W4 {t:TE}(s:HF X.K t ta):UV X.K (gw t) (BA ta):=λB T d τ H Q j e h k=>s B T d τ H _ _ e h λv x T1 H1 f g h1=>by obtain⟨i,rfl,q⟩:=NN h1;exact⟨i,g.toB,k _ T1 H1 f q⟩
def kZ {op:CmpOp}{r:R2}{f:G6}(d:DY X (compareOp op) r/\Bw X.K r f)(ha:SE X a ta)(hb:SE X b tb)(e:behindInMarks op b=false):V1 X (.Compare a [op] [b] pos) (BA (AX f ta tb)):=
 let ⟨_,p,s⟩:=ha;let ⟨_,g,h⟩:=hb;⟨_,RK d.1 p g e,W4 (Rf d.2 s h)⟩
def CF {e:kf}(h:SE X e ta)(he:∀whole,isTrue e X.env whole=(do let v <-whole;standAt e.pos;holding [v] (truthy v)):=by intro _;rfl):V1 X e (BA ta):=
 let ⟨_,p,s⟩:=h;⟨_,j3 p he,W4 s⟩
def EE (t:AT):AT:=λτ Q=>t τ λc=>Q (!c)
def V2 (t u:AT):AT:=λτ Q=>t τ λc=>if c=true then u τ Q else Q false
def ON (t u:AT):AT:=λτ Q=>t τ λc=>if c=true then Q true else u τ Q
def DW (ha:V1 X a tA):V1 X (.UnaryOp .Not a pos) (EE tA):=by obtain⟨t,p,s⟩:=ha;exact⟨_,jz p,λB T d τ H Q g e h k=>s B T d τ H _ _ e h λv T1 H1 f h1=>k _ T1 H1 f h1⟩
def XG (ha:V1 X a tA):SW X (.BoolOp .And [a] pos) tA:=let ⟨_,p,s⟩:=ha;⟨_,fC p,s⟩
def IM (ha:V1 X a tA):SW X (.BoolOp .Or [a] pos) tA:=let ⟨_,p,s⟩:=ha;⟨_,j7 p,s⟩
def bq {rest:kn kf}(ha:V1 X a tA)(hb:SW X (.BoolOp .And (b::rest) pos) tB'):SW X (.BoolOp .And (a::b::rest) pos) (V2 tA tB'):=by
 obtain⟨t,p,s⟩:=ha;obtain⟨t',g,j⟩:=hb;refine⟨_,j6 p g,λB T e τ H Q o f h k=>s B T e τ H _ _ f h λi T1 H1 d q=> ?_⟩;cases i with
 | true=>rw[AAG rfl] at q ⊢;exact j B T1 e τ H1 _ _ (f.stp d) q λb l m n h2=>k b l m (d.trans n) h2
 | false=>rw[AAF AAU] at q ⊢;exact k _ T1 H1 d q
def K0 {rest:kn kf}(ha:V1 X a tA)(hb:SW X (.BoolOp .Or (b::rest) pos) tB'):SW X (.BoolOp .Or (a::b::rest) pos) (ON tA tB'):=by
 obtain⟨t,p,s⟩:=ha;obtain⟨t',g,j⟩:=hb;refine⟨_,oF p g,λB T e τ H Q o f h k=>s B T e τ H _ _ f h λi T1 H1 d q=> ?_⟩;cases i with
 | false=>rw[AAF AAU] at q ⊢;exact j B T1 e τ H1 _ _ (f.stp d) q λb l m n h2=>k b l m (d.trans n) h2
 | true=>rw[AAG rfl] at q ⊢;exact k _ T1 H1 d q
def Rj (h:SW X a tA):V1 X a tA:=let ⟨_,p,s⟩:=h;⟨_,p.pt,s⟩
def lP (t:AT)(ta tb:AE):AE:=λτ Q=>t τ λc=>if c=true then ta τ Q else tb τ Q
def Wy (hc:V1 X c tA)(ha:SE X a ta)(hb:SE X b tb):SE X (.IfExp c a b pos) (lP tA ta tb):=by
 obtain⟨t,p,s⟩:=hc;obtain⟨v,r,e⟩:=ha;obtain⟨x,u,f⟩:=hb;refine⟨_,am p r u,λB T g τ H Q z j h k=>s B T g τ H _ _ j h λi T1 H1 d q=> ?_⟩;cases i with
 | true=>rw[AAG rfl] at q ⊢;exact e B T1 g τ H1 _ _ (j.stp d) q λw y l m n o h2=>k w y l m (d.trans n) o h2
 | false=>rw[AAF AAU] at q ⊢;exact f B T1 g τ H1 _ _ (j.stp d) q λw y l m n o h2=>k w y l m (d.trans n) o h2
def AK:AA:=λ_ Q=>Q []
def AB (ta:AE)(r:AA):AA:=λτ Q=>ta τ λx=>r τ λxs=>Q (x::xs)
def EA:SA X [] AK:=⟨_,Dk,λB T e τ H Q f d h k=>k [] [] T H (.refl d.tp) .nil h⟩
def Ag {e:kf}{r:AA}(ha:SE X e ta)(j:SA X es r)(hs:starEach (e::es) X.env=(false,eval e X.env)::starEach es X.env:=by rfl):SA X (e::es) (AB ta r):=by obtain⟨t,p,s⟩:=ha;obtain⟨t',l,m⟩:=j;refine⟨_,Bn p l hs,λB T g τ H Q y d h k=>s B T g τ H _ _ d h λv x T1 H1 f n h1=> ?_⟩;exact m B T1 g τ H1 _ _ (d.stp f) h1 λvs xs o u i w h2=>k _ _ o u (f.trans i) (.cons (n.stp i (d.stp f).va) w) h2
def Ab (r:AA):AE:=λτ Q=>r τ λxs=>xs.length<=sizeLine/\Q (.tup xs)
def AN {x1}{r:AA}(h:SA X es r):SE X (.Tuple es x1 pos) (Ab r):=by obtain⟨t,p,s⟩:=h;refine⟨_,jt p,λB T g τ H Q j d h k=>s B T g τ H _ _ d h λvs xs T1 H1 e f h1=>⟨by rw[f.length];exact h1.1,λq i=> ?_⟩⟩;have l:=Ct.lay (o:= .tup vs) (d.stp e).tp i;exact k _ _ T1 _ (e.trans l) (.tup (.inl Af) (f.stp l (d.stp e).va)) h1.2
def C3 (r:AA):AA:=λτ Q=>r τ λxs=>xs.length<=sizeLine/\Q xs
def Lg {K:AAD}{B:Cu}{T:kj->Prop}{H:Hp}{d:L2.St}{τ:A6}{p:kj}{vs:kn V}{xs:kn PV}(f:SR K B T H d τ)(g:H p=none)(r:Ay K T (mt B d τ) H vs xs):Ct T H T (upd H p (.lst vs))/\SR K (B.add p) T (upd H p (.lst vs)) d τ/\¬T p/\Ay K T (mt (B.add p) d τ) (upd H p (.lst vs)) vs xs:=by
 have l:=Ct.lay (o:= .lst vs) f.tp g;have h:¬T p:=λz=>by obtain⟨o,e,_⟩:=(f.tp p z).mut;rw[g] at e;cases e
 refine⟨l,f.add l g Af LD.lst h,h,r.mv ⟨f.va,λb o t _ e=>l.keep b o t e,l.sub,λb n t=>t,λb n z=> ?_⟩⟩;rcases z with(z|z)|z
 .exact .inl z
 .subst z;exact absurd g n
 .exact .inr z
def BE {r:AA}(h:SA X es r):SF X (.List es pos) (C3 r):=by obtain⟨t,p,s⟩:=h;refine⟨_,ao p,λB T j τ H Q o f h k=>s B T j τ H _ _ f h λvs xs T1 H1 d g h1=>⟨by rw[g.length];exact h1.1,λq i=> ?_⟩⟩;obtain⟨l,e,m,n⟩:=Lg (f.stp d) i g;exact k q vs xs T1 _ (d.trans l) e (d.none i) Af m n h1.2
def FB (r:AA):AE:=λτ Q=>r τ λxs=>Q (.lst xs)
def bY {t:TE}{r:AA}(s:c5 X.K t r):HF X.K t (FB r):=λB T g τ H Q v d h k=>s B T g τ H _ _ d h λp vs xs T1 H1 j f i hp l n h1=>by
 have u:¬CZ g τ p:=λo=>by obtain⟨_,e,_⟩:=d.ownH o;rw[i] at e;cases e
 have hb:¬B.M p:=λo=>by obtain⟨_,e,_⟩:=d.bm p o;rw[i] at e;cases e
 exact k _ _ T1 H1 j (.lst hp l (λz=>z.elim hb u) (n.mv (.anti f.va λa m=>m.elim (λz=> .inl (.inl z)) .inr))) h1
def Cr {r:AA}(h:SF X a r):SE X a (FB r):=let ⟨_,p,s⟩:=h;⟨_,p,bY s⟩
def Co (K:AAD)(n:Nat)(F:AF):Sp:=λvs H Q _=>∃(T M:kj->Prop) (xs:kn PV) (e:PV->Prop),Kb T M H/\(∀a,M a->¬T a)/\Ay K T M H vs xs/\xs.length=n/\F xs e/\
 ∀v x f d,Ct T H f d->Cn K f M d v x->e x->Q v d
def AR (n:Nat)(F:AF)(r:AA):AE:=λτ Q=>r τ λxs=>xs.length=n/\F xs Q
def AL {x:Str}{p:Pos}{e:kf}{k n:Nat}{ps:kn Str}{F:AF}{r:AA}(D:Has X.prog X.w X.K X.mg X.base k x ps (Co X.K n F))(g:Room k X.A)(i:Gl X x)(ha:SA X (e::es) r)(hs:starEach (e::es) X.env=(false,eval e X.env)::starEach es X.env:=by rfl)(hpl:(backTo pos (starEach es X.env)).any (·.1)=false:=by rfl)(hd:(x==("__debug__" :Str))=false:=by decide):SE X (.Call (.Name x p) (e::es) [] pos) (AR n F r):=by obtain⟨t,j,s⟩:=ha;refine⟨_,jn D g i j hs hpl hd,λB T l τ H Q o d h k=>s B T l τ H _ _ d h λvs xs T1 H1 f u h1=> ?_⟩;rw[ADX];exact⟨T1,_,xs,o,(d.stp f).va,λa m=>(d.stp f).nt m,u,h1.1,h1.2,λv x y z C E q=>k v x y z (f.trans C) E q⟩
def Fn (f:AF)(r:AA):AE:=λτ Q=>r τ λxs=>f xs Q
def bX {d:kn V->Hp->VK->Prop}{f:AF}{t:TA}{r:AA}(i:ED X.K d f)(s:iB X.K t r):HF X.K (tL d t) (Fn f r):=λB T j τ H Q l e h k=>s B T j τ H _ _ e h λvs xs T1 H1 g m h1=>
 i T1 _ H1 vs xs Q l (e.stp g).va m h1 λw z n o p u q=>k w z n o (g.trans p) u q
def A1 {id:String}{x:Str}{p:Pos}{e:kf}{d:kn V->Hp->VK->Prop}{f:AF}{r:AA}(hc:Bu X (.builtin id) d/\ED X.K d f)(g:Gl X x)(h:X.mg x=none)(hv:bootBuiltins x=some (.builtin id))(ha:SA X (e::es) r)(i:x≠"__name__" :=by decide)(hdb:(x==("__debug__" :Str))=false:=by decide)(he:starEach (e::es) X.env=(false,eval e X.env)::starEach es X.env:=by rfl)(hpl:(backTo pos (starEach es X.env)).any (·.1)=false:=by rfl):SE X (.Call (.Name x p) (e::es) [] pos) (Fn f r):=by obtain⟨t,j,s⟩:=ha;exact⟨_,GY hc.1 g h hv j i hdb he hpl,bX hc.2 s⟩
def B6 {T:String}{x:Str}{p:Pos}{e:kf}{d:kn V->Hp->VK->Prop}{f:AF}{r:AA}(hc:Bu X (.type T) d/\ED X.K d f)(g:Gl X x)(h:X.mg x=none)(hv:bootBuiltins x=some (.type T))(ha:SA X (e::es) r)(i:x≠"__name__" :=by decide)(hdb:(x==("__debug__" :Str))=false:=by decide)(he:starEach (e::es) X.env=(false,eval e X.env)::starEach es X.env:=by rfl)(hpl:(backTo pos (starEach es X.env)).any (·.1)=false:=by rfl):SE X (.Call (.Name x p) (e::es) [] pos) (Fn f r):=by obtain⟨t,j,s⟩:=ha;exact⟨_,FY hc.1 g h hv j i hdb he hpl,bX hc.2 s⟩
end
section
variable {X:Cx}
def F4 {K:AAD}{T M:kj->Prop}{H:Hp}{v:V}{xs:kn PV}(r:Cn K T M H v (.tup xs)):∃a vs,v= .ref a/\LX K H a vs/\Ay K T M H vs xs:=by
 cases r with
 | tup h r=>exact⟨_,_,rfl,h.sq,r⟩
def kX {K:AAD}{T M:kj->Prop}{H:Hp}{v:V}{xs:kn PV}(r:Cn K T M H v (.tup xs)):∃a vs,v= .ref a/\qC K H a vs/\Ay K T M H vs xs:=by
 cases r with
 | tup h r=>exact⟨_,_,rfl,h,r⟩
def C8 {K:AAD}{T M:kj->Prop}{H:Hp}{v:V}{xs:kn PV}(r:Cn K T M H v (.lst xs)):∃a vs,v= .ref a/\H a=some (.lst vs)/\¬T a/\¬M a/\Ay K T M H vs xs:=by
 cases r with
 | lst h t m r=>exact⟨_,_,rfl,h,t,m,r⟩
def bQ {K:AAD}{T M:kj->Prop}{H:Hp}{v:V}{ns:kn Int}(r:Cn K T M H v (.scr ns)):∃a,v= .ref a/\FR K H a (ns.map V.int):=by
 cases r with
 | scr h=>
   rcases h with⟨h,_,_⟩|h
   .exact ⟨_,rfl, .inl h⟩
   .exact ⟨_,rfl,h H⟩
def Fq:AF:=λxs Q=>match xs with | [.tup ys] =>Q (.int ys.length) | [.lst ys] =>Q (.int ys.length) | [.scr ns] =>Q (.int ns.length)|_=>False
def oN (K:AAD):kn V->Hp->VK->Prop:=λxs H Q=>∃p a,xs= [.ref p] /\(FR K H p a\/LX K H p a)/\Q (.int a.length) H
def FN:Bu X (.builtin "len") (oN X.K)/\ED X.K (oN X.K) Fq:=by
 refine⟨Im,λT M H d xs Q e va r h k=> ?_⟩;unfold Fq at h;split at h <;> first | exact h.elim|skip
 .rename_i c;cases r with | cons r t=>cases t;obtain⟨a,vs,rfl,b,r⟩:=F4 r;refine⟨a,vs,rfl, .inr b, ?_⟩;rw[r.length];exact k _ _ T H (.refl va.tp) (.int _) h
 .rename_i c;cases r with | cons r t=>cases t;obtain⟨a,vs,rfl,b,_,_,r⟩:=C8 r;refine⟨a,vs,rfl, .inl (.inl (.inl b)), ?_⟩;rw[r.length];exact k _ _ T H (.refl va.tp) (.int _) h
 .rename_i ns;cases r with | cons r t=>cases t;obtain⟨a,rfl,b⟩:=bQ r;refine⟨a,_,rfl, .inl b, ?_⟩;rw[AAO];exact k _ _ T H (.refl va.tp) (.int _) h
def Sm:AF:=λxs Q=>match xs with | [.int i] =>Q (.int i.natAbs)|_=>False
def Nc:Bu X (.builtin "abs") (λxs H Q=>∃i,xs= [.int i] /\Q (.int (if i<0 then -i else i)) H)/\ED X.K (λxs H Q=>∃i,xs= [.int i] /\Q (.int (if i<0 then -i else i)) H) Sm:=by
 refine⟨Mi,λT M H a xs Q b va r h k=> ?_⟩;unfold Sm at h;split at h <;> first | exact h.elim|skip
 rename_i i;cases r with
 | cons r t=> cases t;cases r;refine⟨i,rfl, ?_⟩;rw[show (if i<0 then -i else i)=(i.natAbs:Int) by split <;> omega];exact k _ _ T H (.refl va.tp) (.int _) h
def ic (g:Int->Int->Int):AF:=λxs Q=>match xs with | [.int i, .int j] =>Q (.int (g i j))|_=>False
def bW {g g':Int->Int->Int}(a:∀i j,g i j=g' i j):ED X.K (λxs H Q=>∃i j,xs= [.int i, .int j] /\Q (.int (g i j)) H) (ic g'):=by
 intro T M H c xs Q d va r h k;unfold ic at h;split at h <;> first | exact h.elim|skip
 rename_i i j;cases r with
 | cons r t=>
   cases t with
   | cons b t=> cases t;cases r;cases b;refine⟨i,j,rfl, ?_⟩;rw[a];exact k _ _ T H (.refl va.tp) (.int _) h
def kI (hc:X.calm=true):Bu X (.builtin "min") (λxs H Q=>∃i j,xs= [.int i, .int j] /\Q (.int (if j<i then j else i)) H)/\ED X.K (λxs H Q=>∃i j,xs= [.int i, .int j] /\Q (.int (if j<i then j else i)) H) (ic min):=
 ⟨Xo hc,bW λi j=>by split <;> omega⟩
def kH (hc:X.calm=true):Bu X (.builtin "max") (λxs H Q=>∃i j,xs= [.int i, .int j] /\Q (.int (if j>i then j else i)) H)/\ED X.K (λxs H Q=>∃i j,xs= [.int i, .int j] /\Q (.int (if j>i then j else i)) H) (ic max):=
 ⟨Xn hc,bW λi j=>by split <;> omega⟩
def ie:AF:=λxs Q=>match xs with | [.int i] =>Q (.int i) | [.bl k] =>Q (.int (if k then 1 else 0))|_=>False
def kF:Bu X (.type "int") (λxs H Q=>(∃i,xs= [.int i] /\Q (.int i) H)\/∃k,xs= [.bl k] /\Q (.int (if k then 1 else 0)) H)/\ED X.K (λxs H Q=>(∃i,xs= [.int i] /\Q (.int i) H)\/∃k,xs= [.bl k] /\Q (.int (if k then 1 else 0)) H) ie:=by
 refine⟨O8,λT M H a xs Q b va r h k=> ?_⟩;unfold ie at h;split at h <;> first | exact h.elim|skip
 .cases r with | cons r t=>cases t;cases r;exact .inl ⟨_,rfl,k _ _ T H (.refl va.tp) (.int _) h⟩
 .cases r with | cons r t=>cases t;cases r;exact .inr ⟨_,rfl,k _ _ T H (.refl va.tp) (.int _) h⟩
def EZ:AF:=λxs Q=>match xs with | [.tup ys] =>Q (.tup ys) | [.lst ys] =>Q (.tup ys)|_=>False
def bF (K:AAD):kn V->Hp->VK->Prop:=λxs H Q=>∃p a,xs= [.ref p] /\((FR K H p a/\∀l,H l=none->Q (.ref l) (upd H l (.tup a)))\/(LX K H p a/\Q (.ref p) H))
def D4:Bu X (.type "tuple") (bF X.K)/\ED X.K (bF X.K) EZ:=by
 refine⟨OQ,λT M H d xs Q e va r h k=> ?_⟩;unfold EZ at h;split at h <;> first | exact h.elim|skip
 .cases r with | cons r t=>cases t;obtain⟨a,vs,rfl,b,c⟩:=kX r;exact⟨a,vs,rfl, .inr ⟨b.sq,k _ _ T H (.refl va.tp) (.tup b c) h⟩⟩
 .cases r with
  | cons r t=> cases t;obtain⟨a,vs,rfl,b,_,_,c⟩:=C8 r;refine⟨a,vs,rfl, .inl ⟨.inl (.inl b),λl hl=> ?_⟩⟩;have s:=Ct.lay (o:= .tup vs) va.tp hl;exact k _ _ T _ s (.tup (.inl Af) (c.stp s va)) h
def WQ (xs:kn PV)(Q:kn PV->Prop):Prop:=match xs with | [.tup ys] =>Q ys | [.lst ys] =>Q ys|_=>False
def ZM (r:AA):AA:=λτ Q=>r τ λxs=>WQ xs Q
def fM {x:Str}{p pos:Pos}{e:kf}{es:kn kf}{r:AA}(o:Gl X x)(u:X.mg x=none)(hv:bootBuiltins x=some (.type "list"))(ha:SA X (e::es) r)(v:x≠"__name__" :=by decide)(hdb:(x==("__debug__" :Str))=false:=by decide)(he:starEach (e::es) X.env=(false,eval e X.env)::starEach es X.env:=by rfl)(hpl:(backTo pos (starEach es X.env)).any (·.1)=false:=by rfl):SF X (.Call (.Name x p) (e::es) [] pos) (ZM r):=by
 obtain⟨t,w,s⟩:=ha;refine⟨_,FY QR o u hv w v hdb he hpl,λB T j τ H Q y m h k=>s B T j τ H _ _ m h λvs xs T1 H1 d n h1=> ?_⟩;have go:∀(b:kn V) (c:kn PV),Ay X.K T1 (mt B j τ) H1 b c->y c->∀l,H1 l=none->Q (.ref l) (upd H1 l (.lst b)):=λb c z q l hl=>by obtain⟨A,f,C,D⟩:=Lg (m.stp d) hl z;exact k l b c T1 _ (d.trans A) f (d.none hl) Af C D q
 unfold WQ at h1;split at h1 <;> first | exact h1.elim|skip
 .cases n with | cons r t=>cases t;obtain⟨a,b,rfl,g,i⟩:=F4 r;exact⟨a,b,rfl, .inr g,go b _ i h1⟩
 .cases n with | cons r t=>cases t;obtain⟨a,b,rfl,g,_,_,i⟩:=C8 r;exact⟨a,b,rfl, .inl (.inl (.inl g)),go b _ i h1⟩
def kdOf:PV->ki Kd
 | .non=>some .non | .bl _=>some .bl | .int _=>some .int | .str _=>some .str | .tup _=>some .tup | .lst _=>some .lst | .tape=>none | .scr _=>none | .ty _=>none | .dct _=>none | .dk _=>none
def Zk:AF:=λxs Q=>match xs with | [x, .ty T] =>HW T/\(match kdOf x with | some k=>Q (.bl (HI k T))|none=>False)|_=>False
def bM:Bu X (.builtin "isinstance") (j8 X.K)/\ED X.K (j8 X.K) Zk:=by
 refine⟨ZW,λT M H e xs Q f va r h k=> ?_⟩;unfold Zk at h;split at h <;> first | exact h.elim|skip
 rename_i x ty;obtain⟨a,h⟩:=h;cases r with
 | cons r t=>
   cases t with
   | cons d t=>
     cases t;cases d;cases r with
     | non=>exact⟨_,_, .non,rfl,a,rfl,k _ _ T H (.refl va.tp) (.bl _) h⟩
     | bl b=>exact⟨_,_, .bl,rfl,a,⟨_,rfl⟩,k _ _ T H (.refl va.tp) (.bl _) h⟩
     | int b=>exact⟨_,_, .int,rfl,a,⟨_,rfl⟩,k _ _ T H (.refl va.tp) (.bl _) h⟩
     | str b=>exact⟨_,_, .str,rfl,a,⟨_,rfl⟩,k _ _ T H (.refl va.tp) (.bl _) h⟩
     | ty b=>exact h.elim
     | tup c _=>exact⟨_,_, .tup,rfl,a,⟨_,_,rfl,c.sq⟩,k _ _ T H (.refl va.tp) (.bl _) h⟩
     | lst c _ _ _=>exact⟨_,_, .lst,rfl,a,⟨_,_,rfl, .inl (.inl c)⟩,k _ _ T H (.refl va.tp) (.bl _) h⟩
     | tape _=>exact h.elim
     | scr _=>exact h.elim
     | dct _ _ _=>exact h.elim
     | dk _ _=>exact h.elim
def GT:kn PV->ki (kn ke)
 | [] =>some []
 | .bl b::r=>(GT r).map (b :: ·)
 | _=>none
theorem WB {K:AAD}{T M:kj->Prop}{H:Hp}:∀{vs:kn V} {xs:kn PV} {bs:kn ke},Ay K T M H vs xs->GT xs=some bs->vs=bs.map V.bl
 | _,_,_, .nil,e=>by simp[GT] at e;subst e;rfl
 | _,_,bs, .cons h t,e=>by cases h <;> simp[GT] at e;obtain⟨c,a,b⟩:=e;subst b;simp[WB t a]
def Sn (g:kn ke->ke):AF:=λxs Q=>match xs with | [.lst ys] =>(match GT ys with | some bs=>Q (.bl (g bs))|none=>False)|_=>False
def W2 {g:kn ke->ke}:ED X.K (VO X.K g) (Sn g):=by
 intro T M H d xs Q f va r h k;unfold Sn at h;split at h <;> first | exact h.elim|skip
 split at h <;> first | exact h.elim|skip
 rename_i bs e;cases r with
 | cons r t=> cases t;obtain⟨a,i,rfl,b,_,_,c⟩:=C8 r;have:=WB c e;subst this;exact⟨a,bs,rfl, .inl (.inl b),k _ _ T H (.refl va.tp) (.bl _) h⟩
def bL (hc:X.calm=true):Bu X (.builtin "all") (VO X.K λbs=>bs.all id)/\ED X.K (VO X.K λbs=>bs.all id) (Sn λbs=>bs.all id):=⟨Xk hc,W2⟩
def kE (hc:X.calm=true):Bu X (.builtin "any") (VO X.K λbs=>bs.any id)/\ED X.K (VO X.K λbs=>bs.any id) (Sn λbs=>bs.any id):=⟨Xl hc,W2⟩
def bO:PV->PV->ki ke
 | .non, .non=>some true | .non, .int _=>some false | .int _, .non=>some false | .non, .bl _=>some false | .bl _, .non=>some false | .non, .str _=>some false | .str _, .non=>some false
 | .int i, .int j=>some (decide (i=j)) | .bl i, .bl j=>some (decide (i=j)) | .str i, .str j=>some (decide (i=j))
 | .int _, .str _=>some false | .str _, .int _=>some false | .bl _, .str _=>some false | .str _, .bl _=>some false
 | _,_=>none
def Tr {K:AAD}{T M:kj->Prop}{H:Hp}{u v:V}{x y:PV}{b:ke}(r:Cn K T M H u x)(a:Cn K T M H v y)(e:bO x y=some b):kJ u v=true/\decide (u=v)=b:=by cases r <;> cases a <;> first | (cases e;done)|(cases e;exact⟨rfl,rfl⟩)|(cases e;exact⟨rfl,by simp⟩)
end
structure GH where
 nx:A6->Prop
 rt:PV->Prop
 bk:A6->Prop
 ct:A6->Prop
abbrev AS:=GH->A6->Prop
structure E9 (T:Addr->Prop) (H:Hp) (σ:L2.St) (τ:A6) (T':Addr->Prop) (H':Hp) (σ':L2.St) (τ':A6):Prop where
 keep:∀b o,¬T b->¬CZ σ τ b->H b=some o->H' b=some o
 sub:∀b,T b->T' b
 new:∀b,T' b->T b\/H b=none
 own:∀b,CZ σ' τ' b->CZ σ τ b\/H b=none
 some:∀b,H b≠none->H' b≠none
section
variable {K:AAD}{B:Cu}{T T' T1 T2:kj->Prop}{H H' H1 H2:Hp}{σ σ' σ1 σ2:L2.St}{τ τ' τ1 τ2:A6}
def E9.refl:E9 T H σ τ T H σ τ:=⟨λ_ _ _ _ e=>e,λ_ t=>t,λ_ t=> .inl t,λ_ o=> .inl o,λ_ h=>h⟩
def E9.trans (a:E9 T H σ τ T1 H1 σ1 τ1)(b:E9 T1 H1 σ1 τ1 T2 H2 σ2 τ2):E9 T H σ τ T2 H2 σ2 τ2 where
 keep:=λc o t w e=>b.keep c o (λz=>(a.new c z).elim t λn=>by rw[n] at e;cases e) (λz=>(a.own c z).elim w λn=>by rw[n] at e;cases e) (a.keep c o t w e)
 sub:=λc t=>b.sub c (a.sub c t)
 new:=λc t=>(b.new c t).elim (λz=>a.new c z) λz=> .inr (by
  cases e:H c with
  | none=>rfl
  | some o=>exact absurd z (a.some c (by rw[e];exact λe=>nomatch e)))
 own:=λc t=>(b.own c t).elim (λz=>a.own c z) λz=> .inr (by
  cases e:H c with
  | none=>rfl
  | some o=>exact absurd z (a.some c (by rw[e];exact λe=>nomatch e)))
 some:=λc h=>b.some c (a.some c h)
def Ct.prog (s:Ct T H T' H'):E9 T H σ τ T' H' σ τ:=⟨λb o t _ e=>s.keep b o t e,s.sub,s.new,λ_ o=> .inl o,λ_ h=>s.some h⟩
def E9.less (h:∀b,CZ σ' τ' b->CZ σ τ b):E9 T H σ τ T H σ' τ':=⟨λ_ _ _ _ e=>e,λ_ t=>t,λ_ t=> .inl t,λb o=> .inl (h b o),λ_ h=>h⟩
structure ER (K:AAD) (B:Cu) (T:Addr->Prop) (H:Hp) (σ:L2.St) (τ:A6) (D:QG) (AD:GH):Prop where
 nx:∀T' H' σ' τ',E9 T H σ τ T' H' σ' τ'->SR K B T' H' σ' τ'->AD.nx τ'->D.nx σ' H'
 bk:∀T' H' σ' τ',E9 T H σ τ T' H' σ' τ'->SR K B T' H' σ' τ'->AD.bk τ'->D.bk σ' H'
 ct:∀T' H' σ' τ',E9 T H σ τ T' H' σ' τ'->SR K B T' H' σ' τ'->AD.ct τ'->D.ct σ' H'
 rt:∀v x T' H',Ct B.T B.H T' H'->Cn K T' B.M H' v x->AD.rt x->D.rt v H'
def ER.shift {D:QG}{a:GH}(e:ER K B T H σ τ D a)(p:E9 T H σ τ T1 H1 σ1 τ1):ER K B T1 H1 σ1 τ1 D a:=
 ⟨λ_ _ _ _ q=>e.nx _ _ _ _ (p.trans q),λ_ _ _ _ q=>e.bk _ _ _ _ (p.trans q),λ_ _ _ _ q=>e.ct _ _ _ _ (p.trans q),e.rt⟩
end
def ZG (K:AAD)(t:TS)(a:AS):Prop:=∀(B:Cu) (T:kj->Prop) (b:L2.St) (τ:A6) (H:Hp) (D:QG) (c:GH),SR K B T H b τ->a c τ->ER K B T H b τ D c->t D b H
def SS (X:Cx)(st:Stmt)(a:AS):Prop:=∃t,PS X st t/\ZG X.K t a
def Xf (X:Cx)(st:kn Stmt)(a:AS):Prop:=∃t,R9 X st t/\ZG X.K t a
def BD {a:Type}{l:kn a}{i j:Nat}{x y:a}(h:(l.set i x)[j]? =some y):(j=i/\y=x/\i<l.length)\/(j≠i/\l[j]? =some y):=by
 by_cases e:j=i
 .subst e;rw[AC9] at h;simp at h;obtain⟨h1,h2⟩:=h;exact .inl ⟨rfl,h2.symm,h1⟩
 .rw [AAc (λz=>e z.symm)] at h;exact .inr ⟨e,h⟩
section
variable {K:AAD}{B:Cu}{T:kj->Prop}{H:Hp}{σ:L2.St}{τ:A6}
def Ca {i:Nat}{v:V}{x:PV}{b:kj}(h:CZ (σ.set i (some v)) (τ.set i (some (.val x))) b):CZ σ τ b:=by
 obtain⟨j,xs,h1,h2⟩:=h;rcases BD h1 with⟨_,e,_⟩|⟨n,a⟩
 .cases e
 .rw [AAc (λz=>n z.symm)] at h2;exact⟨j,xs,a,h2⟩
def SR.set {i:Nat}{v:V}{x:PV}(s:SR K B T H σ τ)(r:Cn K T (mt B σ τ) H v x):SR K B T H (σ.set i (some v)) (τ.set i (some (.val x))):=by
 have c:Mv K T (mt B σ τ) H T (mt B (σ.set i (some v)) (τ.set i (some (.val x)))) H:= .anti s.va λa m=>m.elim .inl λz=> .inr (Ca z);refine⟨by simp[s.len],λj y e=> ?_,λj d e=> ?_,λj k d t p u A l o=> ?_,s.tp,s.bm,s.bt,s.st⟩
 .rcases BD e with⟨rfl,b,hl⟩|⟨n,b⟩
  .cases b;refine⟨v,by rw[AC9];simp[s.len,hl],r.mv c⟩
  .obtain ⟨w,hw,f⟩:=s.val j y b;exact⟨w,by rw[AAc (λz=>n z.symm)];exact hw,f.mv c⟩
 .rcases BD e with⟨_,b,_⟩|⟨n,b⟩
  .cases b
  .obtain ⟨p,vs,h1,h2,h3,C⟩:=s.own j d b;exact⟨p,vs,by rw[AAc (λz=>n z.symm)];exact h1,h2,h3.mv c,C⟩
 .rcases BD u with⟨_,b,_⟩|⟨n,g⟩
  .cases b
  .rcases BD A with⟨_,b,_⟩|⟨D,h⟩
   .cases b
   .rw [AAc (λz=>n z.symm)] at l;rw[AAc (λz=>D z.symm)] at o;exact s.dist j k d t p g h l o
def Kv {i:Nat}{p:kj}{xs:kn PV}{b:kj}(h:CZ (σ.set i (some (.ref p))) (τ.set i (some (.own xs))) b):CZ σ τ b\/b=p:=by
 obtain⟨j,a,h1,h2⟩:=h;rcases BD h1 with⟨rfl,e,_⟩|⟨n,c⟩
 .rcases BD h2 with⟨_,d,_⟩|⟨n,_⟩
  .cases d;exact .inr rfl
  .exact absurd rfl n
 .rw [AAc (λz=>n z.symm)] at h2;exact .inl ⟨j,a,c,h2⟩
def SR.take {i:Nat}{p:kj}{vs:kn V}{xs:kn PV}(s:SR K (B.add p) T H σ τ)(hp:H p=some (.lst vs))(D:¬T p)(v:¬CZ σ τ p)(E:¬B.M p)(F:B.H p=none)(r:Ay K T (mt (B.add p) σ τ) H vs xs):SR K B T H (σ.set i (some (.ref p))) (τ.set i (some (.own xs))):=by
 have l:Mv K T (mt (B.add p) σ τ) H T (mt B (σ.set i (some (.ref p))) (τ.set i (some (.own xs)))) H:= .anti s.va λa m=>by
  rcases m with m|m
  .exact .inl (.inl m)
  .rcases Kv m with z|z
   .exact .inr z
   .exact .inl (.inr z)
 refine⟨by simp[s.len],λj y e=> ?_,λj g e=> ?_,λj k g x q G A h d=> ?_,s.tp,λa m=>s.bm a (.inl m),λa m=>s.bt a (.inl m),s.st⟩
 .rcases BD e with⟨_,b,_⟩|⟨n,b⟩
  .cases b
  .obtain ⟨w,hw,o⟩:=s.val j y b;exact⟨w,by rw[AAc (λz=>n z.symm)];exact hw,o.mv l⟩
 .rcases BD e with⟨rfl,b,hl⟩|⟨n,b⟩
  .cases b;exact⟨p,vs,by rw[AC9];simp[s.len,hl],hp,r.mv l,F,D,E⟩
  .obtain ⟨q,I,h1,h2,h3,J,L,N⟩:=s.own j g b;exact⟨q,I,by rw[AAc (λz=>n z.symm)];exact h1,h2,h3.mv l,J,L,λz=>N (.inl z)⟩
 .rcases BD G with⟨C,_,_⟩|⟨n,f⟩
  .rcases BD A with⟨t,_,_⟩|⟨u,c⟩
   .rw [C,t]
   .subst C;rw[AAc (λz=>u z.symm)] at d;rcases BD h with⟨_,b,_⟩|⟨n,_⟩
    .cases b;exact absurd ⟨k,x,c,d⟩ v
    .exact absurd rfl n
  .rw [AAc (λz=>n z.symm)] at h;rcases BD A with⟨t,_,_⟩|⟨u,c⟩
   .subst t;rcases BD d with⟨_,b,_⟩|⟨n,_⟩
    .cases b;exact absurd ⟨j,g,f,h⟩ v
    .exact absurd rfl n
   .rw [AAc (λz=>u z.symm)] at d;exact s.dist j k g x q f c h d
def SR.write {i:Nat}{p:kj}{N vs:kn V}{xs l:kn PV}(s:SR K B T H σ τ)(g:τ[i]? =some (some (.own xs)))(hs:σ[i]? =some (some (.ref p)))(hp:H p=some (.lst N))(r:Ay K T (mt B σ τ) H vs l):SR K B T (upd H p (.lst vs)) σ (τ.set i (some (.own l)))/\E9 T H σ τ T (upd H p (.lst vs)) σ (τ.set i (some (.own l))):=by
 obtain⟨S,O,I,U,W,J,E,L⟩:=s.own i xs g;rw[hs] at I;cases I;have X:σ.set i (some (.ref p))=σ:=by
  apply List.ext_getElem?;intro k;by_cases hk:i=k
  .subst hk;rw[AC9,hs];simp[(AA0.mp hs).1]
  .rw [AAc hk]
 have u:CZ σ τ p:=⟨i,xs,g,hs⟩;have M:∀b,CZ σ (τ.set i (some (.own l))) b->CZ σ τ b:=λb h=>by
  obtain⟨j,f,h1,h2⟩:=h;rcases BD h1 with⟨rfl,e,_⟩|⟨n,C⟩
  .exact ⟨j,xs,g,h2⟩
  .exact ⟨j,f,C,h2⟩
 have F:Mv K T (mt B σ τ) H T (mt B σ (τ.set i (some (.own l)))) (upd H p (.lst vs)):=⟨s.va,λb o _ m e=>by
  rw[Ah (λz=>m (by subst z;exact .inr u))];exact e,λ_ t=>t,λ_ _ t=>t,λb _ m=>m.elim .inl λz=> .inr (M b z)⟩
 refine⟨⟨by simp[s.len],λj y e=> ?_,λj f e=> ?_,λj k f D q h1 h2 h3 A=> ?_,λa t=> ?_,λa m=> ?_,s.bt, ?_⟩,⟨λb o t w e=>by rw[Ah (λz=>w (by subst z;exact u))];exact e,λ_ t=>t,λ_ t=> .inl t,λb o=> .inl (M b o),λb h=> ?_⟩⟩
 .rcases BD e with⟨_,c,_⟩|⟨n,c⟩
  .cases c
  .obtain ⟨v,h,P⟩:=s.val j y c;exact⟨v,h,P.mv F⟩
 .rcases BD e with⟨rfl,c,_⟩|⟨n,c⟩
  .cases c;exact⟨p,vs,hs,Af,r.mv F,J,E,L⟩
  .obtain ⟨q,D,h1,h2,h3,A⟩:=s.own j f c;have Q:q≠p:=λz=>by subst z;exact n (s.dist j i f xs q c g h1 hs)
   exact⟨q,D,h1,by rw[Ah Q];exact h2,h3.mv F,A⟩
 .rcases BD h1 with⟨rfl,_,_⟩|⟨n,C⟩
  .rcases BD h2 with⟨rfl,_,_⟩|⟨R,G⟩
   .rfl
   .exact s.dist _ k xs D q g G h3 A
  .rcases BD h2 with⟨rfl,_,_⟩|⟨R,G⟩
   .exact s.dist j _ f xs q C g h3 A
   .exact s.dist j k f D q C G h3 A
 .obtain ⟨d,x,e,z⟩:=s.tp a t;exact⟨d,x,by rw[Ah (λw=>by subst w;exact E t)];exact e,z⟩
 .obtain ⟨o,e,z⟩:=s.bm a m;exact⟨o,by rw[Ah (λw=>by subst w;exact L m)];exact e,z⟩
 .refine ⟨λb o t e=> ?_,s.st.sub,s.st.new,λa t=> ?_⟩
  .rw [Ah (λw=>by subst w;rw[J] at e;cases e)];exact s.st.keep b o t e
  .obtain ⟨d,x,e,z⟩:=s.tp a t;exact⟨d,x,by rw[Ah (λw=>by subst w;exact E t)];exact e,z⟩
 .by_cases z:b=p
  .subst z;rw[Af];exact λe=>nomatch e
  .rw [Ah z];exact h
end
section
variable {X:Cx}{st:Stmt}{rest:kn Stmt}{e:kf}{pos:Pos}{a b:AS}{ta:AE}
def c6 (ta:AE):AE:=λτ Q=>ta (frz τ) λx=>Rs x=true/\Q x
def kK (h:SE X e ta):SE X e (c6 ta):=by obtain⟨t,p,s⟩:=h;refine⟨t,p,λB T c τ H Q i d h k=>s B T c (frz τ) H _ _ d.frz h λv x T1 H1 f g h1=> ?_⟩;exact k v x T1 H1 f (g.free h1.1) h1.2
def BF:AS:=λD τ=>D.nx τ
def Aa (a b:AS):AS:=λD τ=>a {D with nx:=b D} τ
def A2:Xf X [] BF:=⟨_,RJ,λB T c τ H D g d h f=>f.nx T H c τ .refl d h⟩
def AM (h1:SS X st a)(h2:Xf X rest b):Xf X (st::rest) (Aa a b):=by obtain⟨t,p,s⟩:=h1;obtain⟨t',f,g⟩:=h2;exact⟨_,Cc p f,λB T i τ H D j k h c=>s B T i τ H _ _ k h ⟨λl m σ' τ' q d h'=>g B l σ' τ' m D j d h' (c.shift q),c.bk,c.ct,c.rt⟩⟩
def AU (h1:SS X st a):Xf X [st] a:=let ⟨_,p,s⟩:=h1;⟨_,HA p,s⟩
def Au (ta:AE):AS:=λD τ=>ta (frz τ) D.rt
def AY (h:SE X e ta):SS X (.Return (some e) pos) (Au ta):=by obtain⟨t,p,s⟩:=h;refine⟨_,RI p,λB T f τ H D j c h g=>s B T f (frz τ) H _ _ c.frz h λv x T1 H1 d i h1=> ?_⟩;exact g.rt v x T1 H1 (c.st.trans d) (i.mv (.anti (c.frz.stp d).va λa m=> .inl m)) h1
def B9 (c:AT)(a b:AS):AS:=λD τ=>c τ λk=>if k=true then a D τ else b D τ
def BK {c:kf}{x y:kn Stmt}{l:AT}(hc:V1 X c l)(ha:Xf X x a)(hb:Xf X y b):SS X (.If c x y pos) (B9 l a b):=by
 obtain⟨t,p,s⟩:=hc;obtain⟨u,o,f⟩:=ha;obtain⟨v,r,g⟩:=hb;refine⟨_,bB p o r,λB T i τ H D m j h n=>s B T i τ H _ _ j h λk T1 H1 d h1=> ?_⟩;cases k with
 | true=>rw[AAG rfl] at h1 ⊢;exact f B T1 i τ H1 D m (j.stp d) h1 (n.shift d.prog)
 | false=>rw[AAF AAU] at h1 ⊢;exact g B T1 i τ H1 D m (j.stp d) h1 (n.shift d.prog)
abbrev AG:=PV->A6->(A6->Prop)->Prop
abbrev UH:=kn PV->A6->(A6->Prop)->Prop
def QN (K:AAD)(g:TG)(f:AG):Prop:=∀(B:Cu) (T:kj->Prop) (c:L2.St) (τ:A6) (H:Hp) (v:V) (x:PV) (Q:L2.St->Hp->Prop) (d:A6->Prop),SR K B T H c τ->Cn K T (mt B c τ) H v x->f x τ d->
 (∀σ' τ',SR K B T H σ' τ'->(∀b,CZ σ' τ' b->CZ c τ b)->d τ'->Q σ' H)->g v c H Q
def O1 (K:AAD)(g:UX)(f:UH):Prop:=∀(B:Cu) (T:kj->Prop) (c:L2.St) (τ:A6) (H:Hp) (vs:kn V) (xs:kn PV) (Q:L2.St->Hp->Prop) (d:A6->Prop),SR K B T H c τ->Ay K T (mt B c τ) H vs xs->f xs τ d->
 (∀σ' τ',SR K B T H σ' τ'->(∀b,CZ σ' τ' b->CZ c τ b)->d τ'->Q σ' H)->g vs c H Q
def SG (X:Cx)(c:kf)(d:AG):Prop:=∃g,PG X c g/\QN X.K g d
def qA (X:Cx)(c:kn kf)(d:UH):Prop:=∃g,lN X c g/\O1 X.K g d
def Aq (i:Nat):AG:=λx τ Q=>Q (τ.set i (some (.val x)))
def Re {K:AAD}{i:Nat}:QN K (Cw i) (Aq i):=λB T d τ H v x Q f c r h k=>k _ _ (c.set r) (λb o=>Ca o) h
def HC {i:Nat}{x:Str}(hN:X.N.Nodup)(hi:X.N[i]? =some x)(hx:Loc X.env.scope x)(c:X.fn x=true\/X.env.scope.names.lookup x=some .local:=by first | exact .inl rfl|exact .inr rfl|assumption):SG X (.Name x pos) (Aq i):=
 ⟨_,G9 hN hi hx c,Re⟩
def Bb:UH:=λxs τ Q=>match xs with | [] =>Q τ|_=>False
def Ad (g:AG)(r:UH):UH:=λxs τ Q=>match xs with | x::t=>g x τ λτ'=>r t τ' Q | [] =>False
def Tu {K:AAD}:O1 K Qa Bb:=λB T c τ H vs xs Q f d r h k=>by
 cases r with
 | nil=>exact⟨rfl,k c τ d (λ_ o=>o) h⟩
 | cons _ _=>exact h.elim
def Pn {K:AAD}{g:TG}{p:UX}{s:AG}{c:UH}(h1:QN K g s)(h2:O1 K p c):O1 K (FW g p) (Ad s c):=λB T w τ H vs xs Q x u r h k=>by
 cases r with
 | nil=>exact h.elim
 | cons r t=> refine⟨_,_,rfl,h1 B T w τ H _ _ _ _ u r h λd f i v y=> ?_⟩;exact h2 B T d f H _ _ Q x i (t.mv (.anti u.va λa m=>m.elim .inl λz=> .inr (v a z))) y λj l n A C=>k j l n (λb o=>v b (A b o)) C
def BI:qA X [] Bb:=⟨_,Ln,Tu⟩
def AW {es:kn kf}{d:AG}{c:UH}(h1:SG X e d)(h2:qA X es c)(hs:(assignEach (e::es) X.env).map (·.2)=assign e X.env::(assignEach es X.env).map (·.2):=by rfl):qA X (e::es) (Ad d c):=
 let ⟨_,p,s⟩:=h1;let ⟨_,f,g⟩:=h2;⟨_,FZ p f hs,Pn s g⟩
def Ao (ta:AE)(g:AG):AS:=λD τ=>ta τ λx=>g x τ D.nx
def Rc {K:AAD}{t:TE}{g:TG}{i:AG}(s:HF K t ta)(m:QN K g i):ZG K (Vj t g) (Ao ta i):=λB T j τ H D u k h n=>s B T j τ H _ _ k h λv x T1 H1 l o h1=>
 m B T1 j τ H1 v x _ _ (k.stp l) o h1 λc d f p r=>n.nx T1 H1 c d (l.prog.trans (.less p)) f r
def Dm {c:kf}{d:AG}(he:SE X e ta)(f:SG X c d)(hs:swapsWithSole [c] e pos.line X.env=pure false:=by rfl)(hw:swappedStores [c] e X.env=pure none:=by rfl)(h1:(assignEach [c] X.env).map (·.2)= [assign c X.env] :=by rfl):SS X (.Assign [c] e pos) (Ao ta d):=
 let ⟨_,p,s⟩:=he;let ⟨_,g,h⟩:=f;⟨_,RH p g hs hw h1,Rc s h⟩
def Gs {i:Nat}{x:Str}{pos':Pos}(hN:X.N.Nodup)(hi:X.N[i]? =some x)(hx:Loc X.env.scope x)(he:SE X e ta)(hs:swapsWith e (some (.Name x pos')) pos.line X.env=pure false:=by rfl)(c:X.fn x=true\/X.env.scope.names.lookup x=some .local:=by first | exact .inl rfl|exact .inr rfl|assumption):SS X (.Assign [.Name x pos'] e pos) (Ao ta (Aq i)):=let ⟨_,p,s⟩:=he;⟨_,IA hN hi hx p hs c,Rc s Re⟩
def Fo (r:AA)(i:Nat):AS:=λD τ=>r τ λxs=>D.nx (τ.set i (some (.own xs)))
def W3 {K:AAD}{t:TE}{r:AA}{i:Nat}(s:c5 K t r):ZG K (Vj t (Cw i)) (Fo r i):=λB T j τ H D v c h k=>s B T j τ H _ _ c h λp vs xs T1 H1 d g f hp l m h1=>by
 have n:¬CZ j τ p:=λo=>by obtain⟨_,e,_⟩:=c.ownH o;rw[f] at e;cases e
 have u:¬B.M p:=λo=>by obtain⟨_,e,_⟩:=c.bm p o;rw[f] at e;cases e
 refine k.nx T1 H1 _ _ ⟨λb o t _ e=>d.keep b o t e,d.sub,d.new,λb o=> ?_,λb h=>d.some h⟩ (g.take hp l n u (c.st.none f) m) h1;rcases Kv o with z|z
 .exact .inl z
 .subst z;exact .inr f
def Dn {i:Nat}{x:Str}{pos':Pos}{r:AA}(hN:X.N.Nodup)(hi:X.N[i]? =some x)(hx:Loc X.env.scope x)(he:SF X e r)(hs:swapsWith e (some (.Name x pos')) pos.line X.env=pure false:=by rfl)(c:X.fn x=true\/X.env.scope.names.lookup x=some .local:=by first | exact .inl rfl|exact .inr rfl|assumption):SS X (.Assign [.Name x pos'] e pos) (Fo r i):=let ⟨_,p,s⟩:=he;⟨_,IA hN hi hx p hs c,W3 s⟩
def Xg (i j:Nat)(r:AA):AS:=λD τ=>r τ λxs=>match xs with | [x,y] =>D.nx ((τ.set i (some (.val x))).set j (some (.val y)))|_=>False
def Vg {i j:Nat}{x y:Str}{c d:kf}{r:AA}{g k l:Pos}{kt k2 pt2}(hc:X.calm=true)(hN:X.N.Nodup)(hi:X.N[i]? =some x)(hj:X.N[j]? =some y)(v:i≠j)(hx:X.env.scope.names.lookup x=some .local)(w:X.env.scope.names.lookup y=some .local)(ha:SA X [c,d] r)(hw:swappedStores [.Tuple [.Name x g, .Name y k] kt l] (.Tuple [c,d] k2 pt2) X.env=pure (some [x,y]))(hs:swapsWithSole [.Tuple [.Name x g, .Name y k] kt l] (.Tuple [c,d] k2 pt2) pos.line X.env=pure false:=by rfl):SS X (.Assign [.Tuple [.Name x g, .Name y k] kt l] (.Tuple [c,d] k2 pt2) pos) (Xg i j r):=by
 obtain⟨t,p,s⟩:=ha;refine⟨_,jy hc hN hi hj v hx w p hw hs,λB T A τ H D I n h C=>s B T A τ H _ _ n h λvs xs T1 H1 u E h1=> ?_⟩;cases E with
 | nil=>exact h1.elim
 | cons ra ta=>
   cases ta with
   | nil=>exact h1.elim
   | cons F G=>
     cases G with
     | cons _ _=>exact h1.elim
     | nil=> have f:=n.stp u;refine⟨_,_,rfl,C.nx T1 H1 _ _ ?_ ((f.set (i:=i) ra).set (i:=j) (F.mv (.anti f.va λa m=>m.elim .inl λz=> .inr (Ca z)))) h1⟩;exact u.prog.trans (.less λb o=>Ca (Ca o))
def UY (i:Nat)(f:G6)(ta:AE):AS:=λD τ=>match Rt τ i with | some (.val x)=>ta τ λy=>f x y λz=>D.nx (τ.set i (some (.val z)))|_=>False
def bi {i:Nat}{x:Str}{op:Operator}{g:iE}{f:G6}{pos':Pos}(hN:X.N.Nodup)(hi:X.N[i]? =some x)(hx:Loc X.env.scope x)(he:SE X e ta)(j:lO X op g/\Bw X.K g f)(l:X.fn x=true\/X.env.scope.names.lookup x=some .local:=by first | exact .inl rfl|exact .inr rfl|assumption):SS X (.AugAssign (.Name x pos') op e pos) (UY i f ta):=by
 obtain⟨t,p,s⟩:=he;refine⟨_,jx hN hi hx p j.1 l,λB T m τ H D I c h n=> ?_⟩;unfold UY at h;split at h <;> first | exact h.elim|skip
 rename_i y r;obtain⟨v,A,rv⟩:=c.val i y (NF r);refine⟨v,A,s B T m τ H _ _ c h λw z T1 H1 d C h1=> ?_⟩;refine j.2 T1 _ H1 v w y z _ _ (c.stp d).va (rv.stp d c.va) C h1 λu q E F k G h2=> ?_;exact n.nx E F _ _ ((d.trans k).prog.trans (.less λb o=>Ca o)) (((c.stp d).stp k).set G) h2
def HG (i:Nat)(τ:A6)(R:kn PV->Prop):Prop:=match Rt τ i with | some (.own xs)=>R xs|_=>False
def Ih {i:Nat}{τ:A6}{R:kn PV->Prop}(h:HG i τ R):∃xs,τ[i]? =some (some (.own xs))/\R xs:=by
 unfold HG at h;cases e:Rt τ i with
 | none=>rw[e] at h;exact h.elim
 | some z=>
   rw[e] at h;cases z with
   | val x=>exact h.elim
   | own xs=>exact⟨xs,NF e,h⟩
abbrev lM:=kn PV->kn PV->(kn PV->Prop)->Prop
def iC (K:AAD)(r:V->kn V->Hp->VK->Prop)(f:lM):Prop:=∀(T M:kj->Prop) (H:Hp) (l:kj) (g vs:kn V) (xs h:kn PV) (Q:VK) (i:kn PV->Prop),H l=some (.lst g)->Ay K T M H g xs->Ay K T M H vs h->f xs h i->
 (∀c d,Ay K T M H c d->i d->Q .non (upd H l (.lst c)))->r (.ref l) vs H Q
def FV (i:Nat)(f:lM)(r:AA):AS:=λD τ=>HG i τ λxs=>r τ λc=>f xs c λd=>D.nx (τ.set i (some (.own d)))
def bg {K:AAD}{i:Nat}{l:V->kn V->Hp->VK->Prop}{f:lM}{t:TA}{r:AA}(u:iC K l f)(s:iB K t r):ZG K (gv (wI K "list" l (IN i) t)) (FV i f r):=λB T m τ H D E d h v=>by obtain⟨xs,e,h⟩:=Ih h;obtain⟨p,vs,n,hp,w,F,o,G⟩:=d.own i xs e;refine⟨.ref p,n, .inl ⟨rfl,vs, .inl (.inl hp)⟩,s B T m τ H _ _ d h λx y T1 H1 c z h2=> ?_⟩;have g:=d.stp c;refine u T1 (mt B m τ) H1 p vs x xs y _ _ (c.keep _ _ o hp) (w.stp c d.va) z h2 λA I C h3=> ?_;obtain⟨j,k⟩:=g.write (i:=i) (xs:=xs) e n (c.keep _ _ o hp) C;exact v.nx T1 _ _ _ (c.prog.trans k) j h3
def EH {i:Nat}{x name:Str}{es:kn kf}{id:String}{d:V->kn V->Hp->VK->Prop}{f:lM}{r:AA}{p apos c:Pos}(slot:Slot "list" name id)(h:typeOf (.builtin id)=pure (.type "method_descriptor"))(g:rB X id d/\iC X.K d f)(ha:SA X (e::es) r)(hN:X.N[i]? =some x:=by rfl)(hv:cT X.env.scope x:=by first | exact Or.inl rfl|exact Or.inr (Or.inl rfl)|exact Or.inr (Or.inr rfl))(hd:(x==("__debug__" :Str))=false:=by decide)(j:(x==("__classdict__" :Str))=false:=by decide)(k:attributeBase (.Name x p) name X.env (eval (.Name x p) X.env)=eval (.Name x p) X.env:=by rfl)(l:((backTo c (starEach (e::es) X.env)).all (λx=> !x.1)&&(backToKw c (keywordEach [] X.env)).all (λx=>x.1.isSome) && decide ((e::es).length+([] :kn Keyword).length+(if ([] :kn Keyword).isEmpty then 0 else 1)<30))=true:=by rfl)(m:(apos.endLine==c.line)=true:=by rfl)(hs:starEach (e::es) X.env=(false,eval e X.env)::starEach es X.env:=by rfl)(n:(backTo c (starEach es X.env)).any (·.1)=false:=by rfl)(o:swapsWith (.Call (.Attribute (.Name x p) name apos) (e::es) [] c) none pos.line X.env=pure false:=by rfl):SS X (.Expr (.Call (.Attribute (.Name x p) name apos) (e::es) [] c) pos) (FV i f r):=by obtain⟨t,u,s⟩:=ha;exact⟨_,e8 (n9 PySem.F.plainAttrs_list slot h g.1 (Hz hN hv hd j) u k l m hs n) o,bg g.2 s⟩
def Jw:lM:=λxs c Q=>match c with | [y] =>xs.length<sizeLine/\Q (xs ++ [y])|_=>False
def Cm:rB X "list.append" RL/\iC X.K RL Jw:=by
 refine⟨Pd,λT M H l d vs xs i Q j hl c f h k=> ?_⟩;unfold Jw at h;split at h <;> first | exact h.elim|skip
 cases f with
 | cons g t=> cases t;exact⟨l,d,_,rfl,rfl,hl,by rw[c.length];exact h.1,k _ _ (c.append (.cons g .nil)) h.2⟩
def qW (o:ki Nat)(R:Nat->Prop):Prop:=match o with | some j=>R j|none=>False
def jU {o:ki Nat}{R:Nat->Prop}(h:qW o R):∃z,o=some z/\R z:=by cases o <;> first | exact⟨_,rfl,h⟩|exact h.elim
def iJ (i:Nat)(c ta:AE):AS:=λD τ=>ta τ λy=>HG i τ λxs=>c τ λk=>Ru k λk=>qW (YG xs.length k) λj=>D.nx (τ.set i (some (.own (xs.set j y))))
def kY {i:Nat}{x:Str}{ix:kf}{u:AE}{p c:Pos}(hi:SE X ix u)(he:SE X e ta)(hN:X.N[i]? =some x:=by rfl)(hv:cT X.env.scope x:=by first | exact Or.inl rfl|exact Or.inr (Or.inl rfl)|exact Or.inr (Or.inr rfl))(hd:(x==("__debug__" :Str))=false:=by decide)(I:(x==("__classdict__" :Str))=false:=by decide)(ha:∀v,assign (.Subscript (.Name x p) ix c) X.env v=(do
   let g <-holding [v] (eval (.Name x p) X.env);let l <-holding [v,g] (eval ix X.env)
   standAt c
   holding [v,g,l] (setItem g l v)
   release [v,g,l] []):=by intro _;rfl)(hs:swapsWithSole [.Subscript (.Name x p) ix c] e pos.line X.env=pure false:=by rfl)(hw:swappedStores [.Subscript (.Name x p) ix c] e X.env=pure none:=by rfl)(h1:(assignEach [.Subscript (.Name x p) ix c] X.env).map (·.2)= [assign (.Subscript (.Name x p) ix c) X.env] :=by rfl):SS X (.Assign [.Subscript (.Name x p) ix c] e pos) (iJ i u ta):=by obtain⟨t,J,s⟩:=hi;obtain⟨t',m,K⟩:=he;refine⟨_,RH m (VI (Hz hN hv hd I) J JP ha) hs hw h1,λB T z τ H D R A h L=>K B T z τ H _ _ A h λv y T1 H1 C M h1=> ?_⟩;have d:=A.stp C;obtain⟨xs,e,h1⟩:=Ih h1;obtain⟨q,vs,E,hp,F,S,G,U⟩:=d.own i xs e;refine⟨.ref q,E,s B T1 z τ H1 _ _ d h1 λw k O W f P h3=> ?_⟩;obtain⟨k,rfl,h3⟩:=GX h3;obtain⟨j,Q,h3⟩:=jU h3;cases P.toI;have n:=d.stp f;obtain⟨o,r⟩:=n.write (i:=i) (xs:=xs) e E (f.keep _ _ G hp) (((F.stp f d.va)).set (M.stp f d.va) j);exact⟨q,vs,k,j,rfl,rfl,f.keep _ _ G hp,by rw[F.length];exact Q,L.nx O _ _ _ ((C.trans f).prog.trans r) o h3⟩
end
section
variable {X:Cx}{st:Stmt}{e:kf}{pos:Pos}{a b:AS}{ta:AE}
def UB (c:AT)(b:AS)(D:GH):Nat->A6->Prop
 | 0,_=>False
 | n+1,τ=>c (frz τ) λk=>if k=true then b {D with nx:=UB c b D n,ct:=UB c b D n,bk:=D.nx} τ else D.nx τ
def QO (c:AT)(b:AS):AS:=λD τ=>∃n,UB c b D n τ
def Nr {c:kf}{body:kn Stmt}{v:AT}(hp:PassesOwn (model X.prog X.w) X.A X.env X.xe)(hc:V1 X c v)(hb:Xf X body b):SS X (.While c body [] pos) (QO v b):=by
 obtain⟨t,p,s⟩:=hc;obtain⟨t',G,I⟩:=hb;refine⟨_,bC hp p G,λB T y τ H D z J h C=> ?_⟩;obtain⟨n,h⟩:=h;refine⟨λm f H1=>∃T1 d,SR X.K B T1 H1 f d/\E9 T H y τ T1 H1 f d/\UB v b z m d,⟨n,T,τ,J, .refl,h⟩, ?_⟩;rintro m f H1 ⟨T1,d,l,g,h1⟩;cases m with
 | zero=>exact h1.elim
 | succ m=>
   refine s B T1 f (frz d) H1 _ _ l.frz h1 λk E F x h2=> ?_;have o:=l.stp x;have r:=(C.shift g).shift x.prog;cases k with
   | false=>rw[AAF AAU] at h2 ⊢;exact r.nx E F f d .refl o h2
   | true=> rw[AAG rfl] at h2 ⊢;refine⟨λσ' u=>∃j τ',SR X.K B j u σ' τ'/\E9 T H y τ j u σ' τ'/\UB v b z m τ',λσ' u q=>⟨m,Nat.lt_succ_self m,q⟩, ?_⟩;exact I B E f d F _ _ o h2 ⟨λj u σ' τ' q i h'=>⟨j,τ',i,(g.trans x.prog).trans q,h'⟩,r.nx,λj u σ' τ' q i h'=>⟨j,τ',i,(g.trans x.prog).trans q,h'⟩,C.rt⟩
abbrev AI:=A6->(kn PV->Prop)->Prop
structure UU (K:AAD) (M:Addr->Prop) (J:It) (xs:List PV) (T:Addr->Prop) (H:Hp):Prop where
 go:∀i y,xs[i]? =some y->J.go i H
 yld:∀i y v H',xs[i]? =some y->J.yld i H v H'->Ct T H T H'/\Cn K T M H' v y
 stop:∀i,xs.length<=i->J.stop i H
def cv (T:kj->Prop)(H c:Hp):Prop:=∀b o,¬T b->H b=some o->c b=some o
def mJ (K:AAD)(s:ke)(j:TI)(k:AI):Prop:=∀(B:Cu) (T:kj->Prop) (f:L2.St) (τ:A6) (H:Hp) (R:It->Hp->Prop) (i:kn PV->Prop),SR K B T H f τ->k τ i->
 (∀J xs g c,Ct T H g c->(∀M2 h d,Mv K g (mt B f τ) c h M2 d->Kb h M2 d->(s=true\/cv g c d)->UU K M2 J xs h d)->i xs->R J c)->j f H R
def SI (X:Cx)(d iter:kf)(s:ke)(f:AI):Prop:=∃c,PI X d iter c/\mJ X.K s c f
def sP (K:AAD)(c:TE):TI:=λd H R=>c d H λx H1=>∃a,x= .ref a/\(((∃xs,FR K H1 a xs)/\R (qy K a) H1)\/((∃xs,LX K H1 a xs)/\R (qz K a) H1))
def ju {i l:kf}{g:TE}(hl:PE X l g):PI X i l (sP X.K g):=by
 intro j s k H R I h;refine BO (hl j s k H _ I h) λv c ⟨x,H1,d,m,n⟩=> ?_;obtain⟨a,e,q⟩:=n;subst e;cases m;rcases q with⟨⟨xs,f⟩,q⟩|⟨⟨xs,f⟩,q⟩
 .obtain ⟨its,rv,p,r⟩:=d.list f;refine ACb p.isList ?_;refine⟨c.heap.objs.size, [c.heap.objs.size],_,_,H1,rfl,d.kept (t':=c.toks) λb o e=>AAI _ e,Yo a _,⟨_,AAR _ rfl,rfl,rfl⟩,λb hb=> ?_,q⟩;have e:b=c.heap.objs.size:=by simpa using hb
  subst e;exact d.fpOk (AAL _) (d.hok.fresh (AAL _))
 .obtain ⟨its,rv,p,r⟩:=d.tuple f;refine wpAny_pyIter_tuple (show c.heap.IsTuple a its.toArray from p) ?_;refine⟨c.heap.objs.size, [c.heap.objs.size],_,_,H1,rfl,d.kept (t':=c.toks) λb o e=>AAI _ e,Vt a _,⟨_,AAR _ rfl,rfl,rfl⟩,λb hb=> ?_,q⟩;have e:b=c.heap.objs.size:=by simpa using hb
  subst e;exact d.fpOk (AAL _) (d.hok.fresh (AAL _))
def N1 (ta:AE):AI:=λτ Q=>ta τ λx=>Q8 x Q
def Z7 {K:AAD}{T M:kj->Prop}{H:Hp}{a:kj}{xs:kn PV}(va:Kb T M H)(r:Cn K T M H (.ref a) (.tup xs)):UU K M (qz K a) xs T H:=by
 obtain⟨k,vs,e,c,d⟩:=F4 r;cases e;refine⟨λi y h=> ?_,λi y v l h f=> ?_,λi h=>⟨vs,c,by rw[d.length];exact h⟩⟩
 .obtain ⟨v,hv,_⟩:=d.get h;exact⟨vs,v,c,hv⟩
 .obtain ⟨rfl,f⟩:=f;obtain⟨z,g,j⟩:=d.get' (f vs c);rw[h] at g;cases g;exact⟨.refl va.tp,j⟩
def Z6 {K:AAD}{T M:kj->Prop}{H:Hp}{a:kj}{vs:kn V}{xs:kn PV}(va:Kb T M H)(j:H a=some (.lst vs))(c:Ay K T M H vs xs):UU K M (qy K a) xs T H:=by
 have d:FR K H a vs:= .inl (.inl j);refine⟨λi y h=> ?_,λi y v l h f=> ?_,λi h=>⟨vs,d,by rw[c.length];exact h⟩⟩
 .obtain ⟨v,hv,_⟩:=c.get h;exact⟨vs,v,d,hv⟩
 .obtain ⟨rfl,f⟩:=f;obtain⟨z,g,k⟩:=c.get' (f vs d);rw[h] at g;cases g;exact⟨.refl va.tp,k⟩
def Fe {j:kf}(h:SE X e ta):SI X j e true (N1 ta):=by
 obtain⟨t,p,s⟩:=h;refine⟨_,ju p,λB T l τ H R z m h k=>s B T l τ H _ _ m h λv x T1 H1 i c h1=> ?_⟩;obtain⟨xs,hx,q⟩:=NO h1;rcases hx with rfl|rfl
 .obtain ⟨a,vs,rfl,d,n⟩:=F4 c;refine⟨a,rfl, .inr ⟨⟨vs,d⟩,k _ xs T1 H1 i (λM2 o r f va _=>Z7 va (c.mv f)) q⟩⟩
 .obtain ⟨a,vs,rfl,d,A,C,n⟩:=C8 c;refine⟨a,rfl, .inl ⟨⟨vs, .inl (.inl d)⟩,k _ xs T1 H1 i (λM2 o r f va _=> ?_) q⟩⟩;obtain⟨D,u,w,y,_,_,g⟩:=C8 (c.mv f);cases w;exact Z6 va y g
def rng (lo:Int)(n:Nat):kn PV:=(List.range n).map λ(k:Nat)=> .int (lo+(k:Int))
def S8 {K:AAD}{T M:kj->Prop}{H:Hp}{lo:Int}{n:Nat}(va:Kb T M H):UU K M (mC lo n) (rng lo n) T H:=by
 have hl:(rng lo n).length=n:=by simp[rng]
 refine⟨λi y h=> ?_,λi y v d h c=> ?_,λi h=>by rw[hl] at h;exact h⟩
 .have:=(AA0.mp h).1;rw[hl] at this;exact this
 .obtain ⟨rfl,rfl⟩:=c;have hi:=(AA0.mp h).1;rw[hl] at hi;have:y= .int (lo+(i:Int)):=by simp[rng,List.getElem?_range hi] at h;exact h.symm
  subst this;exact⟨.refl va.tp, .int _⟩
def QP (r:AA):AI:=λτ Q=>r τ λxs=>match xs with | [.int j] =>(-(2^62)<=j/\j<2^62)/\Q (rng 0 j.toNat)|_=>False
def iL (r:AA):AI:=λτ Q=>r τ λxs=>match xs with | [.int i, .int j] =>(-(2^62)<=i/\i<2^62/\ -(2^62)<=j/\j<2^62)/\Q (rng i (j-i).toNat)|_=>False
def Nh {d c:kf}{r:AA}{p:Pos}(f:Gl X "range")(g:X.mg "range" =none)(ha:SA X [c] r)(hs:starEach [c] X.env= [(false,eval c X.env)] :=by rfl):SI X d (.Call (.Name "range" p) [c] [] pos) true (QP r):=by
 obtain⟨t,i,s⟩:=ha;refine⟨_,YX f g i hs,λB T j τ H R o l h k=>s B T j τ H _ _ l h λvs xs T1 H1 m n h1=> ?_⟩;split at h1 <;> first | exact h1.elim|skip
 cases n with
 | cons r t=> cases t;cases r;exact⟨_,rfl,h1.1.1,h1.1.2,k _ _ T1 H1 m (λM2 u v w va _=>S8 va) h1.2⟩
def ox {f c d:kf}{r:AA}{p:Pos}(g:Gl X "range")(i:X.mg "range" =none)(ha:SA X [c,d] r)(hs:starEach [c,d] X.env= [(false,eval c X.env),(false,eval d X.env)] :=by rfl)(j:starEach [d] X.env= [(false,eval d X.env)] :=by rfl):SI X f (.Call (.Name "range" p) [c,d] [] pos) true (iL r):=by
 obtain⟨t,l,s⟩:=ha;refine⟨_,YY g i l hs j,λB T m τ H R w n h k=>s B T m τ H _ _ n h λvs xs T1 H1 o u h1=> ?_⟩;split at h1 <;> first | exact h1.elim|skip
 cases u with
 | cons r t=>
   cases t with
   | cons v t=> cases t;cases r;cases v;exact⟨_,_,rfl,h1.1,k _ _ T1 H1 o (λM2 x y z va _=>S8 va) h1.2⟩
def G3 (xs c:kn PV):kn PV:=List.zipWith (λx y=> .tup [x,y]) xs c
def nL (K:AAD)(ta:TA):TI:=λd H R=>ta d H λvs H1=>∃b c l m,vs= [.ref l, .ref m] /\(∃xs,Sq K b H1 l xs)/\(∃f,Sq K c H1 m f)/\R (q0 K b c l m) H1
def eU {e f:kf}{ta:TA}{p pos g:Pos}{es:kn kf}{x1:Nat}(w:Gl X "zip")(x:X.mg "zip" =none)(ha:PA X [e,f] ta)(hs:starEach [e,f] X.env= [(false,eval e X.env),(false,eval f X.env)] :=by rfl)(t:starEach [f] X.env= [(false,eval f X.env)] :=by rfl):PI X (.Tuple es x1 g) (.Call (.Name "zip" p) [e,f] [] pos) (nL X.K ta):=by
 intro y s z H R I h;refine Call_ (FE I w x boot_zip (ABu (BO (ha pos y s z H _ I h) λA d ⟨vs,H1,i,B,C⟩=> ?_) (by rw[hs,t]) (by rw[t];rfl)));obtain⟨b,c,l,m,rfl,⟨xs,hl⟩,⟨J,D⟩,q⟩:=C;cases B with
 | cons r j=>
 cases j with
 | cons E j=>
 cases j;cases r;cases E;obtain⟨A,L,u,_⟩:=i.sq hl;obtain⟨vs,rv,sv,_⟩:=i.sq D;have k:l<d.heap.objs.size:=by cases b <;> (obtain⟨o,e,_⟩:=u;exact AAH e)
 have n:m<d.heap.objs.size:=by cases c <;> (obtain⟨o,e,_⟩:=sv;exact AAH e)
 refine lK u sv λh1 Z F=>wpAny_pyIter_zip Z.zip ?_;refine⟨_,_,_,_,H1,rfl,i.kept (t':=d.toks) F,cI (zipApart_new k n),Z,λp hp=> ?_,q⟩;have v:d.heap.objs.size<=p:=by
  have G:p=d.heap.objs.size+4\/p=d.heap.objs.size+2\/p=d.heap.objs.size+3\/p=d.heap.objs.size\/p=d.heap.objs.size+1:=by simpa using hp
  rcases G with e|e|e|e|e <;> (rw[e];omega)
 exact i.fpOk v (i.hok.fresh v)
def mN:PV->ke | .lst _=>true|_=>false
def Tv {K:AAD}{T M:kj->Prop}{H:Hp}{v:V}{x:PV}{xs:kn PV}(hx:x= .tup xs\/x= .lst xs)(r:Cn K T M H v x):∃a vs,v= .ref a/\Sq K (mN x) H a vs/\Ay K T M H vs xs:=by
 rcases hx with rfl|rfl
 .obtain ⟨a,vs,rfl,c,d⟩:=F4 r;exact⟨a,vs,rfl,c,d⟩
 .obtain ⟨a,vs,rfl,c,_,_,d⟩:=C8 r;exact⟨a,vs,rfl, .inl (.inl c),d⟩
def Z8 {K:AAD}{T M:kj->Prop}{H:Hp}{l m:kj}{x y:PV}{xs c:kn PV}(va:Kb T M H)(hx:x= .tup xs\/x= .lst xs)(C:y= .tup c\/y= .lst c)(r:Cn K T M H (.ref l) x)(D:Cn K T M H (.ref m) y):UU K M (q0 K (mN x) (mN y) l m) (G3 xs c) T H:=by
 obtain⟨_,vs,e,g,j⟩:=Tv hx r;cases e;obtain⟨_,k,e,n,d⟩:=Tv C D;cases e;have t:∀i z,(G3 xs c)[i]? =some z->∃a b,xs[i]? =some a/\c[i]? =some b/\z=PV.tup [a,b] :=λi z h=>by
  unfold G3 at h;rw[List.getElem?_zipWith] at h;cases f:xs[i]? with
  | none=>rw[f] at h;cases h
  | some a=>
    cases s:c[i]? with
    | none=>rw[f,s] at h;cases h
    | some b=>rw[f,s] at h;cases h;exact⟨a,b,by first | rfl|exact f,by first | rfl|exact s,rfl⟩
 refine⟨λi z h=> ?_,λi z v I h E=> ?_,λi h=>⟨vs,k,g,n, ?_⟩⟩
 .obtain ⟨a,b,ha,hb,_⟩:=t i z h;obtain⟨u,hu,_⟩:=j.get ha;obtain⟨w,hw,_⟩:=d.get hb;exact⟨vs,k,u,w,g,n,hu,hw⟩
 .obtain ⟨a,b,ha,hb,rfl⟩:=t i z h;obtain⟨p,u,w,rfl,F,rfl,hu,hw⟩:=E;obtain⟨J,A,ra⟩:=j.get' (hu vs g);obtain⟨L,B,G⟩:=d.get' (hw k n);rw[ha] at A;cases A;rw[hb] at B;cases B;have st:=Ct.lay (o:= .tup [u,w]) va.tp F;exact⟨st, .tup (.inl Af) (.cons (ra.stp st va) (.cons (G.stp st va) .nil))⟩
 .rw [j.length,d.length];have:(G3 xs c).length=min xs.length c.length:=by simp[G3]
  omega
def lQ (r:AA):AI:=λτ Q=>r τ λc=>match c with | [x,y] =>Q8 x λxs=>Q8 y λd=>Q (G3 xs d)|_=>False
def fQ {e f:kf}{r:AA}{p pos c:Pos}{es:kn kf}{x1:Nat}(j:Gl X "zip")(n:X.mg "zip" =none)(ha:SA X [e,f] r)(hs:starEach [e,f] X.env= [(false,eval e X.env),(false,eval f X.env)] :=by rfl)(o:starEach [f] X.env= [(false,eval f X.env)] :=by rfl):SI X (.Tuple es x1 c) (.Call (.Name "zip" p) [e,f] [] pos) true (lQ r):=by
 obtain⟨t,u,s⟩:=ha;refine⟨_,eU j n u hs o,λB T v τ H R I w h k=>s B T v τ H _ _ w h λvs xs T1 H1 z A h1=> ?_⟩;split at h1 <;> first | exact h1.elim|skip
 rename_i x y;obtain⟨xs,hx,h2⟩:=NO h1;obtain⟨J,d,h3⟩:=NO h2;cases A with
 | cons ra t=>
   cases t with
   | cons g t=> cases t;obtain⟨l,C,rfl,D,K⟩:=Tv hx ra;obtain⟨m,E,rfl,F,G⟩:=Tv d g;exact⟨mN x,mN y,l,m,rfl,⟨C,D⟩,⟨E,F⟩,k _ _ T1 H1 z (λM2 L M i va _=>Z8 va hx d (ra.mv i) (g.mv i)) h3⟩
def Cv (g:AG)(b:AS)(D:GH):kn PV->A6->Prop
 | [],τ=>D.nx τ
 | x::r,τ=>g x τ λc=>b {D with nx:=Cv g b D r,ct:=Cv g b D r,bk:=D.nx} c
def GE (c:AI)(g:AG)(b:AS):AS:=λD τ=>c τ λxs=>Cv g b D xs τ
def E9.mvv {K:AAD}{B:Cu}{T d:kj->Prop}{H f:Hp}{c σ':L2.St}{τ τ':A6}(s:SR K B T H c τ)(p:E9 T H c τ d f σ' τ'):Mv K T (mt B c τ) H d (mt B σ' τ') f:=
 ⟨s.va,λb o t m e=>p.keep b o t (λz=>m (.inr z)) e,p.sub,λb n t=>(p.new b t).elim id λz=>absurd z n,λb n m=>m.elim .inl λz=>(p.own b z).elim .inr λz=>absurd z n⟩
def Cs {C iter:kf}{body:kn Stmt}{N:AI}{g:AG}(hp:PassesOwn (model X.prog X.w) X.A X.env X.xe)(hc:X.calm=true)(hi:SI X C iter true N)(U:SG X C g)(hb:Xf X body b)(hs:∀x,foldedSetIterable iter X.env x=pure x:=by intro _;rfl):SS X (.For C iter body [] pos) (GE N g b):=by
 obtain⟨wi,W,Y⟩:=hi;obtain⟨Z,pg,sg⟩:=U;obtain⟨tb,pb,sb⟩:=hb;refine⟨_,bA hp hc W pg pb hs,λB T y τ H D O P h E=>Y B T y τ H _ _ P h λJ xs T1 H1 F walk h1=> ?_⟩;have p:=P.stp F;refine⟨λi m d r=>m=xs.length-i/\∃f c,SR X.K B f r d c/\E9 T1 H1 y τ f r d c/\Cv g b O (xs.drop i) c,⟨_,rfl,T1,τ,p, .refl,h1⟩, ?_⟩;rintro i m d r ⟨rfl,f,c,k,l,h2⟩;have w:=walk _ f r (l.mvv p) k.va (.inl rfl);have G:=(E.shift F.prog).shift l;by_cases Q:i<xs.length
 .have R:xs[i]? =some xs[i] :=AAS Q;rw[ADf Q] at h2;refine .inr ⟨w.go i _ R,λσ' s=>∃j τ',SR X.K B j s σ' τ'/\E9 T1 H1 y τ j s σ' τ'/\Cv g b O (xs.drop (i+1)) τ',λσ' s ⟨j,τ',q1,q2,q3⟩=>⟨_,by omega,rfl,j,τ',q1,q2,q3⟩,λv z yl=> ?_⟩;obtain⟨S,r3⟩:=w.yld i _ v z R yl;have I:=k.stp S;refine sg B f d c z v _ _ _ I r3 h2 λt u L o4 h4=> ?_;have n:E9 T1 H1 y τ f z t u:=(l.trans S.prog).trans (.less o4);have M:=(E.shift F.prog).shift n;exact sb B f t u z _ _ L h4 ⟨λj s σ' τ' q o h'=>⟨j,τ',o,n.trans q,h'⟩,M.nx,λj s σ' τ' q o h'=>⟨j,τ',o,n.trans q,h'⟩,E.rt⟩
 .rw [AEH (by omega)] at h2;exact .inl ⟨w.stop i (by omega),G.nx f r d c .refl k h2⟩
def Xj:ki AV->ki AV|some (.val x)=>some (.val x)|_=>none
def OP (own:Nat)(ix:kn Nat)(τ:A6):A6:=List.replicate own none++ix.map λi=>Xj (Rt τ i)
def DF (g:AG)(t:AT)(f:AE)(c:A6)(Q:kn PV->Prop):kn PV->kn PV->Prop
 | [],acc=>Q acc
 | x::r,acc=>g x c λd=>t d λok=>if ok=true then f d λy=>DF g t f c Q r (acc ++ [y]) else DF g t f c Q r acc
def CH (c:AI)(own:Nat)(ix:kn Nat)(g:AG)(t:AT)(d:AE):AA:=λτ Q=>c τ λxs=>xs.length<sizeLine/\DF g t d (OP own ix τ) Q xs []
def ZT {own:Nat}{ix:kn Nat}{τ:A6}{j:Nat}{x:PV}(h:(OP own ix τ)[j]? =some (some (.val x))):own<=j/\∃i,ix[j-own]? =some i/\τ[i]? =some (some (.val x)):=by
 unfold OP at h;by_cases hj:j<own
 .rw [ABQ (by simpa using hj),ABf,AAG hj] at h;cases h
 .rw [ABJ (by simpa using hj),ABg,AAr] at h;cases e:ix[j-own]? with
  | none=>rw[e] at h;cases h
  | some i=>
    rw[e] at h;refine⟨by omega,i,rfl,NF ?_⟩;cases c:Rt τ i with
    | none=>simp[c,Xj] at h
    | some z=>cases z <;> simp[c,Xj] at h;subst h;rfl
def Ij {own:Nat}{ix:kn Nat}{τ:A6}{j:Nat}{xs:kn PV}:(OP own ix τ)[j]? ≠some (some (.own xs)):=λh=>by
 unfold OP at h;by_cases hj:j<own
 .rw [ABQ (by simpa using hj),ABf,AAG hj] at h;cases h
 .rw [ABJ (by simpa using hj),ABg,AAr] at h;cases e:ix[j-own]? with
  | none=>rw[e] at h;cases h
  | some i=>
    rw[e] at h;cases c:Rt τ i with
    | none=>simp[c,Xj] at h
    | some z=>cases z <;> simp[c,Xj] at h
def Cu.blk (B:Cu)(c:L2.St)(τ:A6)(D:kj):Cu:=⟨B.T,B.H,λa=>mt B c τ a\/a=D⟩
def SR.blk {K:AAD}{B:Cu}{T d:kj->Prop}{H f:Hp}{c:L2.St}{τ:A6}{D:kj}{h:kn V}{own:Nat}{ix:kn Nat}(s:SR K B T H c τ)(q:Ct T H d f)(l:H D=none)(hd:f D=some (.lst h))(u:¬d D):SR K (B.blk c τ D) d f (CQ own ix c) (OP own ix τ):=by
 have g:=s.stp q;have w:Mv K T (mt B c τ) H d (mt (B.blk c τ D) (CQ own ix c) (OP own ix τ)) f:=⟨s.va,λb o t _ e=>q.keep b o t e,q.sub,λb n t=>(q.new b t).elim id λz=>absurd z n,λb n z=>by
  rcases z with(z|z)|⟨_,_,z,_⟩
  .exact z
  .subst z;exact absurd l n
  .exact absurd z Ij⟩
 refine⟨by simp[CQ,OP],λj x e=> ?_,λj xs e=>absurd e Ij,λj k xs A p e=>absurd e Ij,g.tp,λa m=> ?_,λa m=> ?_,g.st⟩
 .obtain ⟨hj,i,hi,y⟩:=ZT e;obtain⟨v,hv,r⟩:=s.val i x y;refine⟨v, ?_,r.mv w⟩;unfold CQ;rw[ABJ (by simpa using hj),ABg,AAr,hi];simp[hv]
 .rcases m with m|m
  .exact g.va.mu a m
  .subst m;exact⟨_,hd,LD.lst⟩
 .rcases m with m|m
  .exact g.nt m
  .subst m;exact u
def mI (X:Cx)(c:kn kf)(t:AT):Prop:=∃d,gH X c d/\UV X.K d t
def FC:AT:=λ_ Q=>Q true
def Bz:mI X [] FC:=⟨_,Wq,λB T d τ H Q f c h k=>k true T H (.refl c.tp) h⟩
def Rb {c:kf}{t:AT}(h:V1 X c t):mI X [c] t:=let ⟨_,p,s⟩:=h;⟨_,eV p,s⟩
def Ni {K:AAD}{s:ke}{wi:TI}{ai:AI}{own:Nat}{ix:kn Nat}{g:TG}{ag:AG}{tt:TT}{C:AT}{te:TE}(hi:mJ K s wi ai)(hg:QN K g ag)(ht:UV K tt C)(he:HF K te ta):c5 K (b9 wi own ix g tt te) (CH ai own ix ag C ta):=by
 intro B T E τ H Q AQ sr h k;refine hi B T E τ H _ _ sr h λJ xs T1 H1 s1 walk h1 D F=> ?_;obtain⟨hl,h1⟩:=h1;have j:=sr.stp s1;have nt1:¬T1 D:=λz=>by obtain⟨o,e,_⟩:=(j.tp D z).mut;rw[F] at e;cases e
 have lay:=Ct.lay (o:= .lst []) j.tp F;refine⟨λi m G=>m=xs.length-i/\∃p vs c,Ct T1 H1 p G/\G D=some (.lst vs)/\¬p D/\Ay K p (λa=>mt B E τ a\/a=D) G vs c/\c.length<=i/\DF ag C ta (OP own ix τ) AQ (xs.drop i) c,
  ⟨_,rfl,T1, [], [],lay,Af,nt1, .nil,AAL _,h1⟩, ?_⟩
 rintro i m G ⟨rfl,p,vs,c,r,Z,f,r2,ii,h2⟩;have I:=j.blk (own:=own) (ix:=ix) r F Z f;have L:Kb p (λa=>mt B E τ a\/a=D) G:=⟨I.tp,I.bm⟩;have w:=walk (λa=>mt B E τ a\/a=D) p G ⟨j.va,λb o t _ e=>r.keep b o t e,r.sub,λb n t=>(r.new b t).elim id λz=>absurd z n,λb n z=>z.elim id λz=>by subst z;exact absurd F n⟩ L (.inr r.keep);by_cases GG:i<xs.length
 .have Zv:xs[i]? =some xs[i] :=AAS GG;rw[ADf GG] at h2;refine .inr ⟨w.go i _ Zv,λv H3 yl=> ?_⟩;obtain⟨P,r3⟩:=w.yld i _ v H3 Zv yl;have l:=I.stp P;refine hg _ p _ _ H3 v _ _ _ l (r3.mv (.anti ⟨l.tp,l.bm⟩ λa z=>z.elim id λ⟨_,_,z,_⟩=>absurd z Ij)) h2 λR S U o4 h4=> ?_;refine ht _ p R S H3 _ _ U h4 λok T5 H5 N h5=> ?_;have u:=U.stp N;have lS:=P.keep D _ f Z;have qJ:=N.keep D _ f lS;have M:¬T5 D:=λz=>(N.new D z).elim f λn=>by rw[n] at lS;cases lS
  have r5:=(r2.stp P L).stp N ⟨l.tp,l.bm⟩;cases ok with
  | false=> rw[AAF AAU] at h5 ⊢;exact⟨_,by omega,rfl,T5,vs,c,(r.trans P).trans N,qJ,M,r5,by omega,h5⟩
  | true=>
    rw[AAG rfl] at h5 ⊢;refine he _ T5 R S H5 _ _ u h5 λvy y O H6 W r6 h6=> ?_;have A:=u.stp W;have yb:=W.keep D _ M qJ;have Y:¬O D:=λz=>(W.new D z).elim M λn=>by rw[n] at qJ;cases qJ
    have va6:Kb O (λa=>mt B E τ a\/a=D) H6:=⟨A.tp,A.bm⟩;have r7:=r5.stp W ⟨u.tp,u.bm⟩;have s7:=((r.trans P).trans N).trans W;have tp8:∀a,O a->FA (upd H6 D (.lst (vs ++ [vy]))) a:=λa t=>by obtain⟨d,x,e,z⟩:=A.tp a t;exact⟨d,x,by rw[Ah (λw=>by subst w;exact Y t)];exact e,z⟩
    have mv8:Mv K O (λa=>mt B E τ a\/a=D) H6 O (λa=>mt B E τ a\/a=D) (upd H6 D (.lst (vs ++ [vy]))):=⟨va6,λb o _ m e=>by rw[Ah (λw=>m (.inr w))];exact e,λ_ t=>t,λ_ _ t=>t,λ_ _ z=>z⟩;refine⟨vs,yb,by rw[r2.length];omega,_,(by omega:xs.length-(i+1)<xs.length-i),rfl,O,vs ++ [vy],c ++ [y],⟨λb o t e=> ?_,s7.sub,s7.new,tp8⟩,Af,Y,(r7.append (.cons (r6.mv (.anti A.va λa z=> .inl z)) .nil)).mv mv8,by simp;omega,h6⟩;rw[Ah (Av e F)];exact s7.keep b o t e
 .rw [AEH (by omega)] at h2;refine .inl ⟨w.stop i (by omega), ?_⟩;exact k D vs c p G (s1.trans r) (j.add r F Z LD.lst f) (s1.none F) Z f (r2.mv (.anti L λa z=>by
   rcases z with(z|z)|z
   .exact .inl (.inl z)
   .exact .inr z
   .exact .inl (.inr z))) h2
structure Vx (X:Cx) (tg elt:Expr) (ifs:List Expr) (scope:Scope) (own:Nat) (ix:List Nat) (N:List Str) (g:AG) (t:AT) (te:AE):Prop where
 ex:∃g' t' te',Fg X tg elt ifs scope own ix N g' t' te'/\QN X.K g' g/\UV X.K t' t/\HF X.K te' te
def DU {f c iter:kf}{d:kn kf}{scope:Scope}{own:Nat}{ix:kn Nat}{N:kn Str}{g:AG}{t:AT}{s:ke}{h:AI}(hc:X.calm=true)(hi:SI X f iter s h)(O:Vx X f c d scope own ix N g t ta)(hs:∀x,foldedSetIterable iter X.env x=pure x:=by intro _;rfl):SF X (.ListComp c [⟨f,iter,d,0⟩] scope pos) (CH h own ix g t ta):=by obtain⟨m,i,j⟩:=hi;obtain⟨g',t',k,O,sg,st,l⟩:=O.ex;exact⟨_,eG hc i O hs,Ni j sg st l⟩
def Tw {i:Nat}{x:Str}{pos' c:Pos}{h d iter:kf}{f:kn kf}{scope:Scope}{own:Nat}{ix:kn Nat}{N:kn Str}{g:AG}{t:AT}{s:ke}{j:AI}(hc:X.calm=true)(hN:X.N.Nodup)(k:X.N[i]? =some x)(hx:Loc X.env.scope x)(hi:SI X h iter s j)(O:Vx X h d f scope own ix N g t ta)(l:swapsWith (.ListComp d [⟨h,iter,f,0⟩] scope pos) (some (.Name x pos')) c.line X.env=pure true:=by rfl)(hs:∀x,foldedSetIterable iter X.env x=pure x:=by intro _;rfl)(m:X.fn x=true\/X.env.scope.names.lookup x=some .local:=by first | exact .inl rfl|exact .inr rfl|assumption):SS X (.Assign [.Name x pos'] (.ListComp d [⟨h,iter,f,0⟩] scope pos) c) (Fo (CH j own ix g t ta) i):=by obtain⟨u,n,o⟩:=hi;obtain⟨g',t',p,O,sg,st,r⟩:=O.ex;exact⟨_,Ws hc hN k hx n O l hs m,W3 (Ni o sg st r)⟩
def Ff {i:Nat}{x:Str}{pos' c:Pos}{h d iter:kf}{f:kn kf}{scope:Scope}{own:Nat}{ix:kn Nat}{N:kn Str}{g:AG}{t:AT}{s:ke}{j:AI}(hc:X.calm=true)(hN:X.N.Nodup)(k:X.N[i]? =some x)(hx:Loc X.env.scope x)(hi:SI X h iter s j)(O:Vx X h d f scope own ix N g t ta)(l:swapsWith (.ListComp d [⟨h,iter,f,0⟩] scope pos) (some (.Name x pos')) c.line X.env=pure true:=by rfl)(hs:∀x,foldedSetIterable iter X.env x=pure x:=by intro _;rfl)(m:X.fn x=true\/X.env.scope.names.lookup x=some .local:=by first | exact .inl rfl|exact .inr rfl|assumption):SS X (.Assign [.Name x pos'] (.ListComp d [⟨h,iter,f,0⟩] scope pos) c) (Ao (FB (CH j own ix g t ta)) (Aq i)):=by obtain⟨u,n,o⟩:=hi;obtain⟨g',t',p,O,sg,st,r⟩:=O.ex;exact⟨_,Ws hc hN k hx n O l hs m,Rc (bY (Ni o sg st r)) Re⟩
end
def KH (N:Nat)(xs:kn PV):A6:=xs.map (λx=>some (.val x))++List.replicate (N-xs.length) none
def Ar (N:Nat)(b:AS):AF:=λxs Q=>b {nx:=λ_=>Q .non,rt:=Q,bk:=λ_=>False,ct:=λ_=>False} (KH N xs)
def Tx {K:AAD}{T M:kj->Prop}{H:Hp}{N:kn Str}{vs:kn V}{xs:kn PV}(va:Kb T M H)(c:∀a,M a->¬T a)(r:Ay K T M H vs xs):SR K ⟨T,H,M⟩ T H (start N vs) (KH N.length xs):=by
 have d:∀(j:Nat) (b:kn PV),(KH N.length xs)[j]? ≠some (some (.own b)):=λj b h=>by
  unfold KH at h;by_cases hj:j<xs.length
  .rw [ABQ (by simpa using hj),AAr,AAS hj] at h;cases h
  .rw [ABJ (by simpa using hj),ABf] at h;split at h <;> cases h
 refine⟨by simp[L2.start,KH,r.length],λj x h=> ?_,λj b h=>absurd h (d j b),λj k b e p h=>absurd h (d j b),va.tp,va.mu,c, .refl va.tp⟩;unfold KH at h;by_cases hj:j<xs.length
 .rw [ABQ (by simpa using hj),AAr,AAS hj] at h;cases h;obtain⟨v,hv,rv⟩:=r.get (AAS hj);refine⟨v, ?_,rv.mv (.anti va λa m=>m.elim id λ⟨_,_,z,_⟩=>absurd z (d _ _))⟩;unfold L2.start;rw[ABQ (by rw[AAO,r.length];exact hj),AAr,hv];rfl
 .rw [ABJ (by simpa using hj),ABf] at h;split at h <;> cases h
section
variable {P:kd}{w:kc}{K:AAD}{mg:Str->ki km}{base:gn}
def dF {x qual:Str}{st:Stmt}{f:kj}{g:FuncData}{N ps:kn Str}{k n:Nat}{b:AS}(F:Vz K x qual st f g)(S:DN N ps (As st))(i:n=ps.length)(j:∀(a:km) (A:fe) (outer:kn Env) (s:kl) (H:Hp) (E:XK),Room k (A.deeper (envOfC qual (As st) s.heap.objs.size f a))-> Xf (OT MR P w K mg base N qual (As st) f a A outer s H E).nox (CC st) b):Dh P w K mg base MR (k+1) f g ps (Co K n (Ar N.length b)):=by
 refine F.ok S (λvs H Q E h=> ?_) (λa A outer s H vs Q E l h=> ?_)
 .obtain ⟨T,M,xs,m,_,_,r,hl,_⟩:=h;rw[r.length,hl,i]
 .obtain ⟨T,M,xs,m,va,c,r,hl,hF,hQ⟩:=h;obtain⟨t,p,o⟩:=j a A outer s H E l;refine⟨t,p,o ⟨T,H,M⟩ T _ _ H _ _ (Tx va c r) hF ⟨λd e σ' τ' _ u q=> ?_,λ_ _ _ _ _ _ q=>q.elim,λ_ _ _ _ _ _ q=>q.elim,λv x d e y z q=>hQ v x d e y z q⟩⟩;exact hQ _ _ d e u.st .non q
end
section
variable {X:Cx}
def ZY {prog:kd}{w:kc}{A:fe}{E:km->kl->Prop}{s:kl}{t b:kj}{d:kn km}{Q:km->kl->Prop}(j:IsTup s.heap t #[])(hb:IsTup s.heap b d.toArray)(k:Q (.ref b) s):wpAny (model prog w) A (binaryOp .Add (.ref t) (.ref b)) Q E s:=by
 obtain⟨⟨cls,l,data,sl⟩,e,hc,n,hd⟩:=id j;obtain⟨⟨f,a,data2,c⟩,g,h,m,i⟩:=id hb;simp only at hc hd h i;subst hc hd h i;exact concat_meets ⟨_,e,rfl⟩ ⟨_,g,rfl⟩ ADY seq_tuple_add ADZ ADa (ADb _ _)
  (tuple_addW0 t b #[] d.toArray n m l a sl c (by simp)) ⟨e,g,k⟩
def bE (K:AAD):R2:=λx y H Q=>∃a b c,x= .ref a/\y= .ref b/\LX K H a [] /\LX K H b c/\Q (.ref b) H
def aW:DY X (binaryOp .Add) (bE X.K):=by intro j s k H x y v u Q I d e h;obtain⟨a,b,l,rfl,rfl,ha,hb,q⟩:=h;cases d;cases e;obtain⟨its,f,g,_⟩:=I.tuple ha;obtain⟨c,m,i,_⟩:=I.tuple hb;cases f;exact ZY g i ⟨.ref b,H,I,rfl,q⟩
def gZ (K:AAD):R2:=λx y H Q=>((RM (λi j=>V.int (i+j)) x y H Q\/oG x y H Q)\/ga K x y H Q)\/bE K x y H Q
def BW:G6:=λx y Q=>match x,y with
 | .int i, .int j=>Q (.int (i+j))
 | .lst xs, .lst a=>xs.length+a.length<=sizeLine/\Q (.lst (xs++a))
 | .tup xs, .tup a=>xs.length+a.length<=sizeLine/\Q (.tup (xs++a))
 | _,_=>False
def A9:DY X (binaryOp .Add) (gZ X.K)/\Bw X.K (gZ X.K) BW:=by
 refine⟨((Hy.or VH).or d6).or aW,λT M H u v x y Q s va g rv h k=> ?_⟩;unfold BW at h;split at h <;> first | exact h.elim|skip
 .exact .inl (.inl (.inl ⟨_,_,g.toI,rv.toI,k _ _ T H (.refl va.tp) (.int _) h⟩))
 .obtain ⟨a,vs,rfl,i,t,w,d⟩:=C8 g;obtain⟨b,f,rfl,j,l,m,c⟩:=C8 rv;refine .inl (.inl (.inr ⟨a,b,vs,f,rfl,rfl,i,j,by rw[d.length,c.length];exact h.1,λp hp=> ?_⟩));have st:=Ct.lay (o:= .lst (vs++f)) va.tp hp;have n:¬T p:=λz=>by obtain⟨o,e,_⟩:=(va.tp p z).mut;rw[hp] at e;cases e
  have r:¬M p:=λz=>by obtain⟨o,e,_⟩:=va.mu p z;rw[hp] at e;cases e
  exact k _ _ T _ st (.lst Af n r ((d.append c).stp st va)) h.2
 .obtain ⟨a,vs,rfl,i,d⟩:=F4 g;obtain⟨b,f,rfl,j,c⟩:=F4 rv;by_cases e:vs= []
  .subst e;cases d;exact .inr ⟨a,b,f,rfl,rfl,i,j,k _ _ T H (.refl va.tp) rv (by simpa using h.2)⟩
  .refine .inl (.inr ⟨a,b,vs,f,rfl,rfl,i,j,e,by rw[d.length,c.length];exact h.1,λz=> ?_,λz p hp=> ?_⟩)
   .subst z;cases c;exact k _ _ T H (.refl va.tp) g (by simpa using h.2)
   .have st:=Ct.lay (o:= .tup (vs++f)) va.tp hp;exact k _ _ T _ st (.tup (.inl Af) ((d.append c).stp st va)) h.2
def HH {prog:kd}{w:kc}{A:fe}{E:km->kl->Prop}{s:kl}{t sl:kj}{items:Array km}{b c:km}{lo hi:ki Int}{Q:km->kl->Prop}(a:IsTup s.heap t items)(hs:s.heap.IsSliceOf sl b c .none)(d:IsPart b lo)(e:IsPart c hi)(hw:HT.sIx items.size 0 lo=0/\HT.sIx items.size items.size hi=items.size)(h:Q (.ref t) s):wpAny (model prog w) A (getItem (.ref t) (.ref sl)) Q E s:=by
 obtain⟨os,f,g,n⟩:=id hs;have i:s.TypeIs (.ref sl) "slice" :=⟨os,f,g⟩;obtain⟨o,j,k,p,l⟩:=id a;unfold getItem;try with_reducible refine AAg ?_
 first | refine AAC (AAE ?_)|skip
 refine AAC (wpAny_sequenceKey a.typeIs (by decide) ?_);refine AAC (ABh (name:=Str.ofString "__getitem__") a.typeIs ACI
  (AAy ACI a.typeIs entry_tuple_getitem ?_ (args_tuple_getitem _ _)))
 show wpAny _ _ (Builtin.Tuple.tupleItemsOf (.ref t) >>= _) _ _ s;refine AAC (tupleItemsOf_ a ?_);refine AAC (AC0 i ?_);rw[AAG (by decide)];refine AAC (HT.sliceApplied_gen hs d e ?_);have m:((((HT.sIx items.size 0 lo:Nat):Int)==0&&(1:Int)==1&&(HT.sIx items.size items.size hi-HT.sIx items.size 0 lo)==items.size)=true):=by rw[hw.1,hw.2];simp
 show wpAny _ _ (if (((HT.sIx items.size 0 lo:Nat):Int)==0&&(1:Int)==1&&(HT.sIx items.size items.size hi-HT.sIx items.size 0 lo)==items.size)=true then _ else _) _ _ s;rw[AAG m];unfold Builtin.Tuple.tupleIsExact;simp only[bind_assoc,pure_bind];refine AAC (AC0 a.typeIs ?_);rw[AAG (by decide)];exact AAC (ABc (AAE ⟨_,rfl,AAE h⟩))
def tG (K:AAD):V->ki Int->ki Int->Hp->VK->Prop:=λx lo hi H Q=>∃a xs,x= .ref a/\LX K H a xs/\
 (HT.sIx xs.length 0 lo=0/\HT.sIx xs.length xs.length hi=xs.length)/\Q (.ref a) H
def fb:gI X (tG X.K):=by
 intro g s i H x v j k lo hi sl Q I c hs d e h;obtain⟨a,xs,rfl,hx,hw,q⟩:=h;cases c;obtain⟨its,r,b,l⟩:=I.tuple hx;have f:its.toArray.size=xs.length:=by rw[AAW];exact r.length.symm
 refine⟨"tuple",_,ACI.lookup,b.typeIs, ?_⟩;exact HH b hs d e (by rw[f];exact hw) ⟨.ref a,H,I,rfl,q⟩
def FD (xs:kn PV)(lo hi:ki Int):kn PV:=(xs.drop (HT.sIx xs.length 0 lo)).take (HT.sIx xs.length xs.length hi-HT.sIx xs.length 0 lo)
def WG {K:AAD}{T M:kj->Prop}{H:Hp}{vs:kn V}{xs:kn PV}(r:Ay K T M H vs xs)(lo hi:ki Int):Ay K T M H (OS vs lo hi) (FD xs lo hi):=by unfold OS FD;rw[r.length];exact(r.drop _).take _
abbrev AO:=A6->(ki Int->Prop)->Prop
def rF (K:AAD)(t:TO)(a:AO):Prop:=∀(B:Cu) (T:kj->Prop) (b:L2.St) (τ:A6) (H:Hp) (Q:ki Int->Hp->Prop) (c:ki Int->Prop),SR K B T H b τ->a τ c->
 (∀o e d,Ct T H e d->c o->Q o d)->t b H Q
def SO (X:Cx)(e:ki kf)(a:AO):Prop:=∃t,PO X e t/\rF X.K t a
def cV:AO:=λ_ Q=>Q none
def cW (a:AE):AO:=λτ Q=>a τ λx=>Ru x λi=>Q (some i)
def gj:SO X none cV:=⟨_,eY,λB T b τ H Q c a h k=>k _ T H (.refl a.tp) h⟩
def gk {e:kf}{a:AE}(h:SE X e a):SO X (some e) (cW a):=by obtain⟨t,p,s⟩:=h;refine⟨_,eZ p,λB T b τ H Q g c h k=>s B T b τ H _ _ c h λv x T1 H1 d f h1=> ?_⟩;obtain⟨i,rfl,q⟩:=GX h1;exact⟨i,f.toI,k _ T1 H1 d q⟩
@[irreducible] def Zd (x:PV)(lo hi:ki Int)(Q:PV->Prop):Prop:=match x with | .tup xs=>Q (.tup (FD xs lo hi)) | .lst xs=>Q (.lst (FD xs lo hi))|_=>False
def Rg {xs:kn PV}{lo hi:ki Int}{Q:PV->Prop}(h:Q (.tup (FD xs lo hi))):Zd (.tup xs) lo hi Q:=by unfold Zd;exact h
def E2 {xs:kn PV}{lo hi:ki Int}{Q:PV->Prop}(h:Q (.lst (FD xs lo hi))):Zd (.lst xs) lo hi Q:=by unfold Zd;exact h
def cU (a:AE)(l h:AO):AE:=λτ Q=>a τ λx=>l τ λlo=>h τ λhi=>Zd x lo hi Q
def Kz {e:kf}{lo hi:ki kf}{D pos:Pos}{C:AE}{l h:AO}(he:SE X e C)(hl:SO X lo l)(E:SO X hi h):SE X (.Subscript e (.Slice lo hi none D) pos) (cU C l h):=by
 obtain⟨t,p,s⟩:=he;obtain⟨N,F,r⟩:=hl;obtain⟨O,u,w⟩:=E;refine⟨_,aq ((fZ.or kW).or fb) p F u,λB T m τ H Q P d h k=>s B T m τ H _ _ d h λv x T1 H1 f G h1=> ?_⟩;refine r B T1 m τ H1 _ _ (d.stp f) h1 λlo I J g h2=> ?_;refine w B I m τ J _ _ ((d.stp f).stp g) h2 λhi T3 K y h3=> ?_;have b:=((d.stp f).stp g).stp y;have A:=(G.stp g (d.stp f).va).stp y ((d.stp f).stp g).va;have c:=(f.trans g).trans y;unfold Zd at h3;split at h3 <;> first | exact h3.elim|skip
 .obtain ⟨a,vs,rfl,n,i⟩:=F4 A;by_cases hw:HT.sIx vs.length 0 lo=0/\HT.sIx vs.length vs.length hi=vs.length
  .refine .inr ⟨a,vs,rfl,n,hw,k _ _ T3 K c A ?_⟩;rename_i xs;have:FD xs lo hi=xs:=by unfold FD;rw[<-i.length,hw.1,hw.2,i.length];simp
   rw[this] at h3;exact h3
  .refine .inl (.inr ⟨a,vs,rfl,n,hw,λq j=> ?_⟩);have st:=Ct.lay (o:= .tup (OS vs lo hi)) b.tp j;exact k _ _ T3 _ (c.trans st) (.tup (.inl Af) ((WG i lo hi).stp st b.va)) h3
 .obtain ⟨a,vs,rfl,n,R,S,i⟩:=C8 A;refine .inl (.inl ⟨a,vs,rfl, .inl (.inl n),λq j=> ?_⟩);have st:=Ct.lay (o:= .lst (OS vs lo hi)) b.tp j;have L:¬T3 q:=λz=>by obtain⟨o,e,_⟩:=(b.tp q z).mut;rw[j] at e;cases e
  have M:¬mt B m τ q:=λz=>by obtain⟨o,e,_⟩:=b.va.mu q z;rw[j] at e;cases e
  exact k _ _ T3 _ (c.trans st) (.lst Af L M ((WG i lo hi).stp st b.va)) h3
end
def BB:AF:=λxs Q=>match xs with | [.tape, .int m] =>(0<m/\m<4611686018427387904)/\∀r,0<=r->r<m->Q (.int r)|_=>False
def MZ:AF:=λxs Q=>match xs with | [.scr ns, .int k] =>(0<=k/\k<=1000)/\Q .tape|_=>False
def l9 (g:TG):Prop:=∀v b H Q c,(∀a d,Q a d->c a d)->g v b H Q->g v b H c
def hU (g:UX):Prop:=∀v b H Q c,(∀a d,Q a d->c a d)->g v b H Q->g v b H c
def SK (own:Nat)(X:Cx)(a:kf)(b:AG):Prop:=∃g,PG X a g/\QN X.K g b/\Ma own g/\l9 g
def qB (own:Nat)(X:Cx)(a:kn kf)(b:UH):Prop:=∃g,lN X a g/\O1 X.K g b/\Mb own g/\hU g
section
variable {X:Cx}{pos:Pos}{own:Nat}
def fX {i:Nat}{x:Str}(hN:X.N.Nodup)(hi:X.N[i]? =some x)(hx:Loc X.env.scope x)(hk:i<own)(a:X.fn x=true\/X.env.scope.names.lookup x=some .local:=by first | exact .inl rfl|exact .inr rfl|assumption):SK own X (.Name x pos) (Aq i):=
 ⟨_,G9 hN hi hx a,Re,Qc hk,Lc⟩
def JQ:qB own X [] Bb:=⟨_,Ln,Tu,WT,Qe⟩
def Cy {e:kf}{es:kn kf}{b:AG}{a:UH}(h1:SK own X e b)(h2:qB own X es a)(hs:(assignEach (e::es) X.env).map (·.2)=assign e X.env::(assignEach es X.env).map (·.2):=by rfl):qB own X (e::es) (Ad b a):=
 let ⟨_,p,s,k,m⟩:=h1;let ⟨_,d,f,g,c⟩:=h2;⟨_,FZ p d hs,Pn s f,Mw k m g c,Ss m c⟩
end
def qI (K:AAD)(own:Nat)(d:AG):TG:=λv a H Q=>∃(B:Cu) (T:kj->Prop) (τ:A6) (x:PV) (c:A6->Prop),SR K B T H a τ/\Cn K T (mt B a τ) H v x/\d x τ c/\
 ∀σ' τ',SR K B T H σ' τ'->(∀b,CZ σ' τ' b->CZ a τ b)->c τ'->(σ'.length=a.length/\∀j,own<=j->σ'[j]? =a[j]?)->Q σ' H
def tQ (K:AAD)(a:AT):TT:=λe H Q=>∃(B:Cu) (T:kj->Prop) (τ:A6) (c:ke->Prop),SR K B T H e τ/\a τ c/\∀b f d,Ct T H f d->c b->Q b d
def rO (K:AAD)(a:AE):TE:=λc H Q=>∃(B:Cu) (T:kj->Prop) (τ:A6) (d:PV->Prop),SR K B T H c τ/\a τ d/\∀v x e b,Ct T H e b->Cn K e (mt B c τ) b v x->d x->Q v b
def fV {K:AAD}{own:Nat}{a:AG}:QN K (qI K own a) a:=λB T d τ H v x Q b c r h k=>⟨B,T,τ,x,b,c,r,h,λσ' τ' s o q _=>k σ' τ' s o q⟩
def aB {K:AAD}{own:Nat}{a:AG}:Ma own (qI K own a):=λv d H Q ⟨B,T,τ,x,b,c,r,h,k⟩=>⟨B,T,τ,x,b,c,r,h,λσ' τ' s o q z=>⟨k σ' τ' s o q z,z⟩⟩
def fW {K:AAD}{a:AT}:UV K (tQ K a) a:=λB T d τ H Q b c h k=>⟨B,T,τ,b,c,h,k⟩
def fU {K:AAD}{a:AE}:HF K (rO K a) a:=λB T d τ H Q b c h k=>⟨B,T,τ,b,c,h,k⟩
section
variable {X:Cx}
def SK.of {own:Nat}{e:kf}{f:AG}(h:SK own X e f):PG X e (qI X.K own f):=by obtain⟨g,p,s,k,m⟩:=h;intro j l a H v u Q I r hw;obtain⟨B,T,τ,x,i,n,t,h,c⟩:=hw;have h1:g v a H λσ' w=>w=H/\∃τ',SR X.K B T H σ' τ'/\(∀b,CZ σ' τ' b->CZ a τ b)/\i τ':=s B T a τ H v x _ i n t h λσ' τ' s o q=>⟨rfl,τ',s,o,q⟩;have h2:=k v a H _ h1;refine p j l a H v u Q I r (m v a H _ _ (λd D q=> ?_) h2);obtain⟨⟨rfl,τ',y,A,C⟩,z⟩:=q;exact c d τ' y A C z
def mI.of {b:kn kf}{a:AT}(h:mI X b a):gH X b (tQ X.K a):=by obtain⟨t,p,s⟩:=h;intro e f d H Q I hw;obtain⟨B,T,τ,g,i,h,c⟩:=hw;exact p e f d H Q I (s B T d τ H Q g i h c)
def SE.of {e:kf}{a:AE}(h:SE X e a):PE X e (rO X.K a):=by obtain⟨t,p,s⟩:=h;intro d f b H Q I hw;obtain⟨B,T,τ,g,i,h,c⟩:=hw;exact p d f b H Q I (s B T b τ H Q g i h c)
def CB {f a:kf}{b:kn kf}{scope:Scope}{own:Nat}{ix:kn Nat}{N:kn Str}{g:AG}{t:AT}{c:AE}(h1:scope.kind= .function)(h2:(scope.names.all λy=> !decide (y.2= .cell))=true)(h3:(scope.names.all λy=> !decide (y.2= .local)||decide (scope.names.lookup y.1=some .local))=true)(h:(scope.names.all λy=> !decide (y.2= .free)||decide (X.env.scope.names.lookup y.1=some .cell))=true)(i:N.length=own+ix.length)(j:Up X (relabel scope X.env) own ix N=true)(d:∀cl C s H ex pn,SK own (blk X (relabel scope X.env) N cl C s H ex pn) f g)(e:∀cl C s H ex pn,mI (blk X (relabel scope X.env) N cl C s H ex pn) b t)(val:∀cl C s H ex pn,SE (blk X (relabel scope X.env) N cl C s H ex pn) a c):Vx X f a b scope own ix N g t c:=
 ⟨qI X.K own g,tQ X.K t,rO X.K c,WE h1 h2 h3 h i j aB (λcl C s H ex pn=>(d cl C s H ex pn).of) (λcl C s H ex pn=>(e cl C s H ex pn).of) (λcl C s H ex pn=>(val cl C s H ex pn).of),fV,fW,fU⟩
end
mutual
def pd:PV->PyData
 | .bl b=> .bool b
 | .int i=> .int i
 | .str x=> .str x
 | .tup xs=> .tuple (RC xs)
 | .lst xs=> .list (RC xs)
 | _=> .none
def RC:kn PV->kn PyData
 | [] => []
 | x::xs=>pd x::RC xs
end
mutual
def EN:Nat->PV->ke
 | _, .non=>true
 | _, .bl _=>true
 | _, .int _=>true
 | _, .str x=>PyData.strOk x
 | n+1, .tup xs=>Jx n xs
 | n+1, .lst xs=>Jx n xs
 | _,_=>false
def Jx:Nat->kn PV->ke
 | _, [] =>true
 | n,x::xs=>EN n x&&Jx n xs
end
mutual
theorem JD:∀(n:Nat) (x:PV),EN n x=true->(pd x).canLay0=true/\(pd x).depth<=n/\(pd x).hasDict=false
 | n, .non,_=>⟨rfl,ABI _,rfl⟩
 | n, .bl _,_=>⟨rfl,ABI _,rfl⟩
 | n, .int _,_=>⟨rfl,ABI _,rfl⟩
 | n, .str x,h=>⟨by simpa[pd,PyData.canLay0,EN] using h,ABI _,rfl⟩
 | 0, .tup xs,h=>by simp[EN] at h
 | 0, .lst xs,h=>by simp[EN] at h
 | n+1, .tup xs,h=>by obtain⟨a,b,c⟩:=NI n xs (by simpa[EN] using h);exact⟨by simpa[pd,PyData.canLay0] using a,by simpa[pd,PyData.depth] using b,by simpa[pd,PyData.hasDict] using c⟩
 | n+1, .lst xs,h=>by obtain⟨a,b,c⟩:=NI n xs (by simpa[EN] using h);exact⟨by simpa[pd,PyData.canLay0] using a,by simpa[pd,PyData.depth] using b,by simpa[pd,PyData.hasDict] using c⟩
 | n, .tape,h=>by simp[EN] at h
 | n, .scr _,h=>by simp[EN] at h
 | n, .ty _,h=>by simp[EN] at h
 | n, .dct _,h=>by simp[EN] at h
 | n, .dk _,h=>by simp[EN] at h
theorem NI:∀(n:Nat) (xs:kn PV),Jx n xs=true->PyData.canLayAll0 (RC xs)=true/\PyData.depthAll (RC xs)<=n/\PyData.hasDictAll (RC xs)=false
 | n, [],_=>⟨rfl,ABI _,rfl⟩
 | n,x::xs,h=>by simp only[Jx,AAs] at h;obtain⟨a,b,c⟩:=JD n x h.1;obtain⟨d,f,e⟩:=NI n xs h.2;exact⟨by simp[RC,PyData.canLayAll0,a,d],by simp only[RC,PyData.depthAll];omega,by simp[RC,PyData.hasDictAll,c,e]⟩
end
section
variable {X:Cx}{Wf:kn (kj×Obj)}{σ:L2.St}{H:Hp}{s:kl}
mutual
theorem Gb (I:Inv X Wf σ H s){T M:kj->Prop}:∀(n:Nat) {x:PV} {v:V} {u:km},Cn X.K T M H v x->EN n x=true->RelV v u->∃as,Reads s.heap u (pd x) as
 | _,_,_,_, .non,_,r=>by cases r;exact⟨_, .none⟩
 | _,_,_,_, .bl b,_,r=>by cases r;exact⟨_, .bool b⟩
 | _,_,_,_, .int i,_,r=>by obtain⟨t,rfl⟩:=r;exact⟨_, .int i t⟩
 | _,_,_,_, .str x,_,r=>by obtain⟨t,rfl⟩:=r;exact⟨_, .str x t⟩
 | _,_,_,_, .ty n,h,r=>by simp[EN] at h
 | 0,_,_,_, .tup hq rs,h,r=>by simp[EN] at h
 | 0,_,_,_, .lst hq t m rs,h,r=>by simp[EN] at h
 | n+1,_,_,_, .tup hq rs,h,r=>by cases r;obtain⟨its,rv,⟨o,a,hc,k,hd⟩,_⟩:=I.tuple hq.sq;obtain⟨as,ra⟩:=Ga I n rs (by simpa[EN] using h) rv;exact⟨_, .tuple a hc hd (by simpa using ra)⟩
 | n+1,_,_,_, .lst hq t m rs,h,r=>by cases r;obtain⟨its,rv,⟨o,k,a,hc,_,hd⟩,_⟩:=I.list (FR.of hq);obtain⟨as,ra⟩:=Ga I n rs (by simpa[EN] using h) rv;exact⟨_, .list a hc hd (by simpa using ra)⟩
 | _,_,_,_, .tape _,h,r=>by simp[EN] at h
 | _,_,_,_, .scr _,h,r=>by simp[EN] at h
 | _,_,_,_, .dct _ _ _,h,r=>by simp[EN] at h
 | _,_,_,_, .dk _ _,h,r=>by simp[EN] at h
theorem Ga (I:Inv X Wf σ H s){T M:kj->Prop}:∀(n:Nat) {xs:kn PV} {vs:kn V} {a:kn km},Ay X.K T M H vs xs->Jx n xs=true->Ap vs a->∃as,ReadsAll s.heap a (RC xs) as
 | _,_,_,_, .nil,_,r=>by cases r;exact⟨_, .nil⟩
 | n,_,_,_, .cons h t,hk,r=>by
   simp only[Jx,AAs] at hk;cases r with
   | cons r b=> obtain⟨as,ra⟩:=Gb I n h hk.1 r;obtain⟨bs,c⟩:=Ga I n t hk.2 b;exact⟨_, .cons ra c⟩
end
end
section
variable {X:Cx}
def qH (x y:PV):ke:=PyData.eqv (pd x) (pd y)
def fD (K:AAD)(neg:ke):R2:=λu v H Q=>∃(T M:kj->Prop) (x y:PV),Cn K T M H u x/\Cn K T M H v y/\EN 30 x=true/\EN 30 y=true/\Q (.bl (if neg then !qH x y else qH x y)) H
def ja {k:Nat}(c:Room k X.A):DY X (compareOp .Eq) (fD X.K false):=by intro l s m H u v n o Q I d rv h;obtain⟨T,M,x,y,e,f,a,b,q⟩:=h;obtain⟨as,ra⟩:=Gb I 30 e a d;obtain⟨bs,g⟩:=Gb I 30 f b rv;obtain⟨i,p,_⟩:=JD 30 x a;obtain⟨j,b2,_⟩:=JD 30 y b;exact SeqAt.compareEq_reads ra g i j (by have:=c.un;omega) ⟨.bl _,H,I,rfl,q⟩
def jc {k:Nat}(c:Room k X.A):DY X (compareOp .NotEq) (fD X.K true):=by intro l s m H u v n o Q I d rv h;obtain⟨T,M,x,y,e,f,a,b,q⟩:=h;obtain⟨as,ra⟩:=Gb I 30 e a d;obtain⟨bs,g⟩:=Gb I 30 f b rv;obtain⟨i,p,_⟩:=JD 30 x a;obtain⟨j,b2,_⟩:=JD 30 y b;exact SeqAt.compareNe_reads ra g i j (by have:=c.un;omega) ⟨.bl _,H,I,rfl,q⟩
def Mo:G6:=λx y Q=>match bO x y with | some b=>Q (.bl b)|none=>(EN 30 x=true/\EN 30 y=true)/\Q (.bl (qH x y))
def gL:G6:=λx y Q=>match bO x y with | some b=>Q (.bl (!b))|none=>(EN 30 x=true/\EN 30 y=true)/\Q (.bl (!qH x y))
def oH (K:AAD):R2:=λx y H Q=>wE x y H Q\/fD K false x y H Q
def oP (K:AAD):R2:=λx y H Q=>wF x y H Q\/fD K true x y H Q
def DV {k:Nat}(c:Room k X.A):DY X (compareOp .Eq) (oH X.K)/\Bw X.K (oH X.K) Mo:=by
 refine⟨nh.or (ja c),λT M H u v x y Q d va a rv h k=> ?_⟩;unfold Mo at h;split at h
 .rename_i b e;obtain⟨h1,h2⟩:=Tr a rv e;refine .inl ⟨h1, ?_⟩;rw[h2];exact k _ _ T H (.refl va.tp) (.bl _) h
 .exact .inr ⟨T,M,x,y,a,rv,h.1.1,h.1.2,k _ _ T H (.refl va.tp) (.bl _) h.2⟩
def W7 {k:Nat}(c:Room k X.A):DY X (compareOp .NotEq) (oP X.K)/\Bw X.K (oP X.K) gL:=by
 refine⟨nk.or (jc c),λT M H u v x y Q d va a rv h k=> ?_⟩;unfold gL at h;split at h
 .rename_i b e;obtain⟨h1,h2⟩:=Tr a rv e;refine .inl ⟨h1, ?_⟩;rw[h2];exact k _ _ T H (.refl va.tp) (.bl _) h
 .exact .inr ⟨T,M,x,y,a,rv,h.1.1,h.1.2,k _ _ T H (.refl va.tp) (.bl _) h.2⟩
structure iA (x:PV):Prop where
 ok:EN 30 x=true
 sh:(pd x).showable=true
 sz:(pd x).shown.length<=sizeLine
end
section
variable {prog:kd}{w:kc}{A:fe}{E:km->kl->Prop}{s:kl}
def Kr {h:gn}{l:kj}{items:Array km}(hl:h.IsList l items)(o:Obj):(h.push o).IsList l items:=by obtain⟨a,e,r⟩:=hl;exact⟨a,AAI _ e,r⟩
theorem PC {it t:kj}{items:Array km}(f:t≠it):∀(n i:Nat) (s:kl) (Q:kn km->kl->Prop),s.heap.IsListIter it t i->s.heap.IsList t items->i+n<=items.size-> (∀h',h'.IsListIter it t (i+n)->Heap.SameBut it s.heap h'->Q ((items.toList.drop i).take n) {s with heap:=h'})->wpAny (model prog w) A (draw (.ref it) n) Q E s
 | 0,i,s,Q,hit,_,_,hQ=>by show wpAny _ _ (pure []) Q E s;exact AAE (by simpa using hQ s.heap hit (Heap.SameBut.refl ..))
 | n+1,i,s,Q,hit,ht,Qk,hQ=>by
   have g:i<items.size:=by omega
   show wpAny _ _ (pyNext (.ref it) >>= _) Q E s;refine AAC (wpAny_pyNext_list_item hit ht (x:=items[i]) (by simp[g]) λh b a=> ?_);refine AAC (AAg (PC f n (i+1) _ _ b (ht.extBut a.extBut f) (by omega) λe c d=>AAE ?_));have hd:items.toList.drop i=items[i] :: items.toList.drop (i+1):=by simp[ADf,g]
   have:=hQ e (by rw[show i+(n+1)=i+1+n by omega];exact c) (a.trans d);rw[hd,List.take_succ_cons] at this;exact this
def KM {t:kj}{items:Array km}{Q:kn km->kl->Prop}(k:A.handled=none)(g:s.heap.IsList t items)(hQ:∀h',Heap.ExtBut s.heap.objs.size s.heap h'->Q items.toList {s with heap:=h'}):wpAny (model prog w) A (unpackItems (.ref t) items.size none) Q E s:=by
 have j:t≠s.heap.objs.size:=by obtain⟨o,l,_⟩:=g;exact AAN (AAH l)
 unfold unpackItems;refine AAC ?_
 .unfold notIterableAtAll;refine AAC (ABp g.typeIs slot_list_iter.lookup ?_);refine AAE ?_;simp only[AAt,AAn];refine AAC (AAg (ACb g ?_));refine AAC (AAg (PC j items.size 0 _ _ ⟨_,AAR _ rfl,rfl,rfl⟩ (Kr g _) (by omega) λh c a=> ?_));have m:List.take items.size (List.drop 0 items.toList)=items.toList:=by rw[List.drop_zero];exact ABk (by simp)
  rw[m];rw[AAF (by simp)];have d:h.IsList t items:=(Kr g _).extBut a.extBut j;refine AAC (AAg (wpAny_pyNext_list_end k c d (by simp) λi f=> ?_));simp only[Option.isSome_none,AAt,AAn];refine AAE (hQ i λb o hb e=>f b o hb (a.extBut b o hb (AAI _ e)))
def Ii {env:Env}{elts:kn kf}{x1}{pos:Pos}{t:kj}{items:Array km}{Q:Unit->kl->Prop}(a:A.handled=none)(b:s.heap.IsList t items)(c:(assignEach elts env).length=items.size)(d:(assignEach elts env).findIdx? (·.1)=none)(h:∀h',Heap.ExtBut s.heap.objs.size s.heap h'->wpAny (model prog w) A (assignInOrder ((assignEach elts env).map (·.2)) items.toList) Q E {s with heap:=h'}):wpAny (model prog w) A (assign (.Tuple elts x1 pos) env (.ref t)) Q E s:=by rw[assign_Tuple];refine AAC (ABd ?_);unfold unpack;rw[c,d];exact AAC (AAg (KM a b h))
end
section
variable {X:Cx}{pos:Pos}
def Uq (K:AAD)(n:Nat)(t:UX):TG:=λv b H Q=>∃a xs,v= .ref a/\(LX K H a xs\/FR K H a xs)/\xs.length=n/\t xs b H Q
def RE {es:kn kf}{k:Nat}{t:UX}{n:Nat}(hc:X.calm=true)(h:lN X es t)(j:(assignEach es X.env).length=n:=by rfl)(l:(assignEach es X.env).findIdx? (·.1)=none:=by rfl):PG X (.Tuple es k pos) (Uq X.K n t):=by
 intro d s f H v u Q I r hw;obtain⟨a,xs,m,c,hl,hw⟩:=hw;subst m;cases r;rcases c with c|c
 .obtain ⟨its,rv,g,p⟩:=I.tuple c;refine assign_Tuple_tuple (I.ok.hd hc) g (by simp[j,<-hl,rv.length]) l λh' hx=> ?_;have i:Inv X d f H {s with heap:=h'}:=I.kept (t':=s.toks) λb o e=>hx b o (AAN (AAH e)) e;exact h d _ f H xs _ Q i (by simpa using rv) hw
 .obtain ⟨its,rv,g,p⟩:=I.list c;refine Ii (I.ok.hd hc) g.isList (by simp[j,<-hl,rv.length]) l λh' hx=> ?_;have i:Inv X d f H {s with heap:=h'}:=I.kept (t':=s.toks) λb o e=>hx b o (AAN (AAH e)) e;exact h d _ f H xs _ Q i (by simpa using rv) hw
def Hl (n:Nat)(r:UH):AG:=λx τ Q=>Q8 x λxs=>xs.length=n/\r xs τ Q
def bZ {K:AAD}{n:Nat}{d:UX}{a:UH}(s:O1 K d a):QN K (Uq K n d) (Hl n a):=λB T e τ H v x Q f g r h k=>by
 obtain⟨xs,hx,h⟩:=NO h;rcases hx with rfl|rfl
 .obtain ⟨p,vs,rfl,c,b⟩:=F4 r;exact⟨p,vs,rfl, .inl c,by rw[b.length];exact h.1,s B T e τ H vs _ Q f g b h.2 k⟩
 .obtain ⟨p,vs,rfl,c,i,j,b⟩:=C8 r;exact⟨p,vs,rfl, .inr (.inl (.inl c)),by rw[b.length];exact h.1,s B T e τ H vs _ Q f g b h.2 k⟩
def Bi {es:kn kf}{k:Nat}{a:UH}{n:Nat}(hc:X.calm=true)(h:qA X es a)(b:(assignEach es X.env).length=n:=by rfl)(c:(assignEach es X.env).findIdx? (·.1)=none:=by rfl):SG X (.Tuple es k pos) (Hl n a):=
 let ⟨_,p,s⟩:=h;⟨_,RE hc p b c,bZ s⟩
def Zo {own:Nat}{K:AAD}{n:Nat}{t:UX}(h:Mb own t):Ma own (Uq K n t):=λv b H Q ⟨a,xs,e,h1,h2,h3⟩=>⟨a,xs,e,h1,h2,h xs b H Q h3⟩
def Nj {own:Nat}{es:kn kf}{k:Nat}{b:UH}{n:Nat}(hc:X.calm=true)(h:qB own X es b)(c:(assignEach es X.env).length=n:=by rfl)(d:(assignEach es X.env).findIdx? (·.1)=none:=by rfl):SK own X (.Tuple es k pos) (Hl n b):=
 let ⟨_,p,s,f,m⟩:=h;⟨_,RE hc p c d,bZ s,Zo f,λv g H Q i z ⟨a,xs,e,h1,h2,h3⟩=>⟨a,xs,e,h1,h2,m _ _ _ _ _ z h3⟩⟩
def jC:lO X .Mult (λx y H Q=>∃i j,x= .int i/\y= .int j/\MulOk i j/\Q (.int (i*j)) H):=by intro f s g H x y v u Q I a b h;obtain⟨i,j,d,e,c,q⟩:=h;subst d;subst e;obtain⟨t,rfl⟩:=a;obtain⟨t',rfl⟩:=b;exact AutoIntOps.imul_0 (show (Made.int (i*j)).post _ _ from⟨.int _,H,I.tok _,⟨_,rfl⟩,q⟩) (.of_le (G7 c.l) (G7 c.r) (by decide))
def bV:lO X .Mult (λx y H Q=>∃i j,x= .int i/\y= .int j/\MulOk i j/\Q (.int (i*j)) H)/\Bw X.K (λx y H Q=>∃i j,x= .int i/\y= .int j/\MulOk i j/\Q (.int (i*j)) H) Ci:=⟨jC,λT M H u v x y Q b va a rv h k=>by
 obtain⟨i,j,rfl,rfl,c,q⟩:=Q7 h;exact⟨i,j,a.toI,rv.toI,c,k _ _ T H (.refl va.tp) (.int _) q⟩⟩
end
def Nn {i:Int}(a:0<=i)(b:i<2147483647): -(2^64)<i/\i<2^64:=⟨by omega,by omega⟩
def yI (b:ke):(0:Int)<=(if b=true then 1 else 0):=by cases b <;> decide
def vW (b:ke): -(2^64)<(if b=true then (1:Int) else 0)/\(if b=true then (1:Int) else 0)<2^64:=by cases b <;> decide
def cE {T:kj->Prop}{H:Hp}{p:kj}{d x:Int}(tp:∀a,T a->FA H a)(t:T p)(c:0<=d)(f:0<=x)(x1:x<2147483647):Ct T H T (upd H p (.lst [.int d, .int x])) where
 keep:=λb o n e=>by rw[Ah (λz=>n (by subst z;exact t))];exact e
 sub:=λ_ t=>t
 new:=λ_ t=> .inl t
 tp:=λa g=>by
  by_cases z:a=p
  .subst z;exact⟨d,x,Af,c,f,x1⟩
  .obtain ⟨d',h,e,q⟩:=tp a g;exact⟨d',h,by rw[Ah z];exact e,q⟩
def cD {T:kj->Prop}{H:Hp}{p:kj}{d x:Int}(tp:∀a,T a->FA H a)(hp:H p=none)(f:0<=d)(g:0<=x)(x1:x<2147483647):Ct T H (λb=>T b\/b=p) (upd H p (.lst [.int d, .int x])) where
 keep:=λb o n e=>by rw[Ah (Av e hp)];exact e
 sub:=λ_ t=> .inl t
 new:=λb t=>t.elim .inl λz=> .inr (by subst z;exact hp)
 tp:=λa c=>by
  by_cases z:a=p
  .subst z;exact⟨d,x,Af,f,g,x1⟩
  .rcases c with c|c
   .obtain ⟨d',h,e,q⟩:=tp a c;exact⟨d',h,by rw[Ah z];exact e,q⟩
   .exact absurd c z
def law_sp {K:AAD}{H:Hp}{a:kj}{ns:kn Int}{F:AF}(b:FR K H a (ns.map V.int))(h:F [.scr ns] λx=>x= .bl true):Co K 1 F [.ref a] H (λv _=>v= .bl true) λ_ _ _=>False:=by
 refine⟨λ_=>False,λ_=>False, [.scr ns],_,⟨λ_ z=>z.elim,λ_ z=>z.elim⟩,λ_ z=>z.elim, .cons (.scr ?_) .nil,rfl,h,λv x c d _ r e=> ?_⟩
 .rcases b with h|h
  .exact .inl ⟨h,id,id⟩
  .exact .inr λH=> .inr h
 .subst e;cases r;rfl
theorem Lb {g:AG}{b:AS}{D:GH}(a:kn PV->A6->Prop)(hd:∀τ,a [] τ->D.nx τ)(hs:∀x r τ (R:A6->Prop),(∀τ,a r τ->R τ)->a (x::r) τ->g x τ λc=>b {D with nx:=R,ct:=R,bk:=D.nx} c):∀xs τ,a xs τ->Cv g b D xs τ
 | [],τ,h=>hd τ h
 | x::r,τ,h=>hs x r τ _ (λd h2=>Lb a hd hs r d h2) h
theorem WD {g:AG}{t:AT}{f:AE}{b:A6}{Q:kn PV->Prop}(c:kn PV->kn PV->Prop)(hd:∀a,c [] a->Q a)(hs:∀x r a (R:kn PV->Prop),(∀a,c r a->R a)->c (x::r) a->g x b λd=>t d λok=>if ok=true then f d λy=>R (a ++ [y]) else R a):∀xs a,c xs a->DF g t f b Q xs a
 | [],a,h=>hd a h
 | x::r,a,h=>hs x r a _ (λe h2=>WD c hd hs r e h2) h
theorem cM {c:AT}{b:AS}{D:GH}(a:Nat->A6->Prop)(e:∀τ,¬a 0 τ)(hs:∀n τ (R:A6->Prop),(∀τ,a n τ->R τ)->a (n+1) τ->c (frz τ) λk=>if k=true then b {D with nx:=R,ct:=R,bk:=D.nx} τ else D.nx τ):∀n τ,a n τ->UB c b D n τ
 | 0,τ,h=>absurd h (e τ)
 | n+1,τ,h=>hs n τ _ (λd h2=>cM a e hs n d h2) h
def JH (lo:Int)(n:Nat):rng lo (n+1)= .int lo::rng (lo+1) n:=by
 unfold rng;rw[List.range_succ_eq_map,AAM,AA3];congr 1
 .simp
 .apply ACN;intro k _;simp only[Function.comp];congr 1;omega
def VQ (lo:Int)(n:Nat):(rng lo n).length=n:=by simp[rng]
end PL
namespace PL
open PySem L2 PyProof.Rows
def fr (r:Rat):PV:= .tup [.int r.num, .int (r.den:Int)]
def LO {b:ke}{A B:Prop}(h1:b=true->A)(h2:b=false->B):if b=true then A else B:=by
 cases b with
 | true=>rw[AAG rfl];exact h1 rfl
 | false=>rw[AAF AAU];exact h2 rfl
structure Bd (n:Nat) (r:Rat):Prop where
 top:r.num.natAbs<2^n
 bot:r.den<2^n
def Bd.botI {n:Nat}{r:Rat}(b:Bd n r):(r.den:Int).natAbs<2^n:=by simpa using b.bot
def NQ {m n:Nat}(h:m<=n):2^m<=2^n:=ACc (by decide) h
def Bd.mono {m n:Nat}{r:Rat}(b:Bd m r)(h:m<=n):Bd n r:=⟨AAV b.top (NQ h),AAV b.bot (NQ h)⟩
def U7 {a b m n:Nat}(ha:a<2^m)(hb:b<2^n):a*b<2^(m+n):=by rw[ABS];exact Nat.mul_lt_mul_of_lt_of_le ha (ACC hb) (Nat.pos_of_ne_zero (by intro z;rw[z] at hb;omega)) |> λh=>h
def CD {a b:Int}{m n:Nat}(ha:a.natAbs<2^m)(hb:b.natAbs<2^n):(a*b).natAbs<2^(m+n):=by rw[AAv];exact U7 ha hb
def V5 {a b:Int}{n:Nat}(ha:a.natAbs<2^n)(hb:b.natAbs<2^n):(a+b).natAbs<2^(n+1):=by rw[ADg];omega
def fo {a b:Int}{n:Nat}(ha:a.natAbs<2^n)(hb:b.natAbs<2^n):(a-b).natAbs<2^(n+1):=by rw[ADg];omega
def Al {a m n:Nat}(h:a<2^m)(b:m<=n):a<2^n:=AAV h (NQ b)
def MulOk.of {a b:Int}{m n:Nat}(ha:a.natAbs<2^m)(hb:b.natAbs<2^n)(c:m<=1000000:=by omega)(d:n<=1000000:=by omega):MulOk a b:=⟨Al ha c,Al hb d⟩
def Uk (t b:Int):(Rat.divInt t b).num.natAbs<=t.natAbs:=by
 rw[ADA];by_cases h:b=0
 .subst h;simp
 .have e:(b.gcd t:Int) ∣ b.sign*t:=Int.dvd_trans (Int.gcd_dvd_right ..) (Int.dvd_mul_left ..);rw[Int.natAbs_ediv_of_dvd e,AAv];refine AAX (ABz _ _) ?_;rw[Int.natAbs_sign_of_ne_zero h];omega
def Uj (t b:Int)(h:b≠0):(Rat.divInt t b).den<=b.natAbs:=by rw[ADh,AAF h];exact ABz _ _
def Bd.divInt {n:Nat}{t b:Int}(h:b≠0)(a:t.natAbs<2^n)(hb:b.natAbs<2^n):Bd n (Rat.divInt t b):=
 ⟨AAj (Uk t b) a,AAj (Uj t b h) hb⟩
def Bs (a:Rat):(a.den:Int)≠0:=by have:=a.den_pos;omega
def Hk (a b:Rat):a+b=Rat.divInt (a.num*b.den+b.num*a.den) (a.den*b.den):=by have h:=ADi a.num b.num (Bs a) (Bs b);rw[AA4,AA4] at h;exact h
def Nt (a b:Rat):a-b=Rat.divInt (a.num*b.den-b.num*a.den) (a.den*b.den):=by have h:=Rat.divInt_sub_divInt a.num b.num (Bs a) (Bs b);rw[AA4,AA4] at h;exact h
def NE (a b:Rat):a*b=Rat.divInt (a.num*b.num) (a.den*b.den):=by have h:=ADj a.num b.num (d₁:=a.den) (d₂:=b.den);rw[AA4,AA4] at h;exact h
def Hs (a b:Rat):a/b=Rat.divInt (a.num*b.den) (a.den*b.num):=by rw[ACd,Rat.inv_def];have h:=ADj a.num b.den (d₁:=a.den) (d₂:=b.num);rw[AA4] at h;exact h
def DQ {a b:Int}(ha:a≠0)(hb:b≠0):a*b≠0:=Int.mul_ne_zero ha hb
def U8 {b:Rat}(h:b≠0):b.num≠0:=λz=>h (Rat.num_eq_zero.mp z)
def Bd.add {m n:Nat}{a b:Rat}(ha:Bd m a)(hb:Bd n b):Bd (m+n+1) (a+b):=by
 rw[Hk];refine .divInt (DQ (Bs a) (Bs b)) (V5 (CD ha.top (by simpa using hb.bot)) ?_) ?_
 .rw [Nat.add_comm m n];exact CD hb.top (by simpa using ha.bot)
 .exact Al (CD (by simpa using ha.bot) (by simpa using hb.bot)) (by omega)
def Bd.sub {m n:Nat}{a b:Rat}(ha:Bd m a)(hb:Bd n b):Bd (m+n+1) (a-b):=by
 rw[Nt];refine .divInt (DQ (Bs a) (Bs b)) (fo (CD ha.top (by simpa using hb.bot)) ?_) ?_
 .rw [Nat.add_comm m n];exact CD hb.top (by simpa using ha.bot)
 .exact Al (CD (by simpa using ha.bot) (by simpa using hb.bot)) (by omega)
def Bd.mul {m n:Nat}{a b:Rat}(ha:Bd m a)(hb:Bd n b):Bd (m+n) (a*b):=by rw[NE];exact .divInt (DQ (Bs a) (Bs b)) (CD ha.top hb.top) (CD (by simpa using ha.bot) (by simpa using hb.bot))
def Bd.div {m n:Nat}{a b:Rat}(h:b≠0)(ha:Bd m a)(hb:Bd n b):Bd (m+n) (a/b):=by rw[Hs];exact .divInt (DQ (Bs a) (U8 h)) (CD ha.top (by simpa using hb.bot)) (CD (by simpa using ha.bot) hb.top)
def Bd.neg {n:Nat}{a:Rat}(ha:Bd n a):Bd n (-a):=⟨by show (-a.num).natAbs<_;rw[AB0];exact ha.top,ha.bot⟩
def Zg (n:Int):fr (n:Rat)= .tup [.int n, .int 1] :=by simp[fr]
def Bd.int {n:Int}{k:Nat}(h:n.natAbs<2^k)(hk:1<=k):Bd k (n:Rat):=⟨by simpa using h,by simp;omega⟩
def Y4:AS:=
 (Aa (QO (BA (AX gL (aV 1) (aC (.int 0)))) (Xg 0 1 (AB (aV 1) (AB (AX X1 (aV 0) (aV 1)) AK))))
   (Au (aV 0)))
def ES:AF:=Ar 2 Y4
def Et (x y:Nat)(Q:PV->Prop)(h:Q (.int (Nat.gcd x y:Nat))):ES [.int x, .int y] Q:=by
 have go:∀y x:Nat,∀D:GH,D.nx [some (.val (.int (Nat.gcd x y:Nat))),some (.val (.int 0))] ->∃n,UB (BA (AX gL (aV 1) (aC (.int 0)))) (Xg 0 1 (AB (aV 1) (AB (AX X1 (aV 0) (aV 1)) AK))) D n [some (.val (.int x)),some (.val (.int y))] :=by
  intro y;induction y using Nat.strongRecOn with
  | _ y d=>
    intro x D c;by_cases e:y=0
    .subst e;refine⟨1, ?_⟩;rw[Nat.gcd_zero_right] at c;exact c
    .obtain ⟨n,a⟩:=d (x % y) (Nat.mod_lt _ (by omega)) y D (by rw[ACO y,<-Nat.gcd_rec,ACO y];exact c);refine⟨n+1, ?_⟩;refine LO (b:= !decide ((y:Int)=0)) (λ_=> ?_) (λz=> ?_)
     .have f:(x:Int).fmod (y:Int)=((x % y:Nat):Int):=by rw[ADW _ (by omega)];simp
      refine⟨by omega, ?_⟩;rw[<-f] at a;exact a
     .have:(y:Int)=0:=by simpa using z
      omega
 obtain⟨n,a⟩:=go y x {nx:=λτ=>Au (aV 0) {nx:=λ_=>Q .non,rt:=Q,bk:=λ_=>False,ct:=λ_=>False} τ,rt:=Q,bk:=λ_=>False,ct:=λ_=>False} h;exact⟨n,a⟩
def XS:AS:=
 (Aa (B9 (BA (AX UE (aV 1) (aC (.int 0)))) (Ao (V4 LJ (aV 2)) (Aq 2)) BF)
   (Au (Ab (AB (AX QY (aV 0) (aV 2)) (AB (AX QY (aV 1) (aV 2)) AK)))))
def gz:AS:=
 (Aa (Ao (AR 2 ES (AB (Fn Sm (AB (aV 0) AK)) (AB (Fn Sm (AB (aV 1) AK)) AK))) (Aq 2))
   XS)
def Fj:AF:=Ar 3 gz
def aa (t b:Int)(hb:b≠0):∀s:Int,s=(if b<0 then -(Nat.gcd t.natAbs b.natAbs:Int) else (Nat.gcd t.natAbs b.natAbs:Int))->s≠0/\t.fdiv s=(Rat.divInt t b).num/\b.fdiv s=((Rat.divInt t b).den:Int):=by
 intro s hs;have g:0<Nat.gcd t.natAbs b.natAbs:=ACP _ (by omega);have f:b.gcd t=Nat.gcd t.natAbs b.natAbs:=by rw[AEI,ACO]
 have a:(Nat.gcd t.natAbs b.natAbs:Int) ∣ t:=by rw[<-Int.dvd_natAbs];exact Int.ofNat_dvd.mpr (ADk ..)
 have c:(Nat.gcd t.natAbs b.natAbs:Int) ∣ b:=by rw[<-Int.dvd_natAbs];exact Int.ofNat_dvd.mpr (AB1 ..)
 have d:s ∣ t:=by rw[hs];split <;> first | exact Int.neg_dvd.mpr a|exact a
 have e:s ∣ b:=by rw[hs];split <;> first | exact Int.neg_dvd.mpr c|exact c
 refine⟨by rw[hs];split <;> omega, ?_, ?_⟩
 .rw [AEJ d,ADA,f,hs];by_cases h:b<0
  .rw [AAG h,AEK h,Int.ediv_neg];have:(-1:Int)*t= -t:=by omega
   rw[this,Int.neg_ediv_of_dvd a]
  .rw [AAF h,ADl (by omega),Int.one_mul]
 .rw [AEJ e,ADh,AAF hb,f,hs];by_cases h:b<0
  .rw [AAG h,Int.ediv_neg];have:(b.natAbs:Int)= -b:=by omega
   rw[AB2,this,Int.neg_ediv_of_dvd c]
  .rw [AAF h];have:(b.natAbs:Int)=b:=by omega
   rw[AB2,this]
def Dg (t b:Int)(hb:b≠0)(f:b.natAbs<2^8900)(Q:PV->Prop)(h:Q (fr (Rat.divInt t b))):Fj [.int t, .int b] Q:=by
 have g:0<Nat.gcd t.natAbs b.natAbs:=ACP _ (by omega);have gl:Nat.gcd t.natAbs b.natAbs<2^8900:=AAj (AB3 (by omega) (AB1 ..)) f;obtain⟨a,c,d⟩:=aa t b hb _ rfl;refine⟨rfl,Et _ _ _ ?_⟩;refine LO (b:=decide (b<0)) (λz=> ?_) (λz=> ?_)
 .have e:b<0:=AA5 z;rw[AAG e] at a c d;refine⟨⟨a,by rw[AB0];exact gl⟩,⟨a,by rw[AB0];exact gl⟩,(show 2<=sizeLine by decide), ?_⟩;unfold fr at h;rw[<-c,<-d] at h;exact h
 .have e:¬b<0:=ACe z;rw[AAF e] at a c d;refine⟨⟨a,gl⟩,⟨a,gl⟩,(show 2<=sizeLine by decide), ?_⟩;unfold fr at h;rw[<-c,<-d] at h;exact h
def Bd.mt {n:Nat}{a b:Rat}(ha:Bd 4000 a)(hb:Bd 4000 b):MulOk a.num b.den/\MulOk b.num a.den/\MulOk a.den b.den/\MulOk a.num b.num/\MulOk a.den b.num:=
 ⟨.of ha.top (by simpa using hb.bot), .of hb.top (by simpa using ha.bot), .of (by simpa using ha.bot) (by simpa using hb.bot), .of ha.top hb.top, .of (by simpa using ha.bot) hb.top⟩
def WH {a b:Rat}(ha:Bd 4000 a)(hb:Bd 4000 b):((a.den:Int)*(b.den:Int)).natAbs<2^8900:=Al (CD (a:=(a.den:Int)) (by simpa using ha.bot) (by simpa using hb.bot)) (by omega)
def g6:AS:=
 (Au (AR 2 Fj (AB (AX BW (AX Ci (AX An (aV 0) (aC (.int 0))) (AX An (aV 1) (aC (.int 1)))) (AX Ci (AX An (aV 1) (aC (.int 0))) (AX An (aV 0) (aC (.int 1))))) (AB (AX Ci (AX An (aV 0) (aC (.int 1))) (AX An (aV 1) (aC (.int 1)))) AK))))
def E8:AF:=Ar 2 g6
def Xd {a b:Rat}(ha:Bd 4000 a)(hb:Bd 4000 b){Q:PV->Prop}(h:Q (fr (a+b))):E8 [fr a,fr b] Q:=by obtain⟨m1,m2,m3,_⟩:=Bd.mt (n:=0) ha hb;refine⟨m1,m2,m3,rfl,Dg _ _ (DQ (Bs a) (Bs b)) (WH ha hb) _ ?_⟩;rw[Hk] at h;exact h
def ca:AS:=
 (Au (AR 2 Fj (AB (AX Js (AX Ci (AX An (aV 0) (aC (.int 0))) (AX An (aV 1) (aC (.int 1)))) (AX Ci (AX An (aV 1) (aC (.int 0))) (AX An (aV 0) (aC (.int 1))))) (AB (AX Ci (AX An (aV 0) (aC (.int 1))) (AX An (aV 1) (aC (.int 1)))) AK))))
def EF:AF:=Ar 2 ca
def UR {a b:Rat}(ha:Bd 4000 a)(hb:Bd 4000 b){Q:PV->Prop}(h:Q (fr (a-b))):EF [fr a,fr b] Q:=by obtain⟨m1,m2,m3,_⟩:=Bd.mt (n:=0) ha hb;refine⟨m1,m2,m3,rfl,Dg _ _ (DQ (Bs a) (Bs b)) (WH ha hb) _ ?_⟩;rw[Nt] at h;exact h
def cf:AS:=
 (Au (AR 2 Fj (AB (AX Ci (AX An (aV 0) (aC (.int 0))) (AX An (aV 1) (aC (.int 0)))) (AB (AX Ci (AX An (aV 0) (aC (.int 1))) (AX An (aV 1) (aC (.int 1)))) AK))))
def Ic:AF:=Ar 2 cf
def US {a b:Rat}(ha:Bd 4000 a)(hb:Bd 4000 b){Q:PV->Prop}(h:Q (fr (a*b))):Ic [fr a,fr b] Q:=by obtain⟨_,_,m3,m4,_⟩:=Bd.mt (n:=0) ha hb;refine⟨m4,m3,rfl,Dg _ _ (DQ (Bs a) (Bs b)) (WH ha hb) _ ?_⟩;rw[NE] at h;exact h
def gy:AS:=
 (Au (AR 2 Fj (AB (AX Ci (AX An (aV 0) (aC (.int 0))) (AX An (aV 1) (aC (.int 1)))) (AB (AX Ci (AX An (aV 0) (aC (.int 1))) (AX An (aV 1) (aC (.int 0)))) AK))))
def Hg:AF:=Ar 2 gy
def Xc {a b:Rat}(c:b≠0)(ha:Bd 4000 a)(hb:Bd 4000 b){Q:PV->Prop}(h:Q (fr (a/b))):Hg [fr a,fr b] Q:=by obtain⟨m1,_,_,_,m5⟩:=Bd.mt (n:=0) ha hb;refine⟨m1,m5,rfl,Dg _ _ (DQ (Bs a) (U8 c)) (Al (CD (a:=(a.den:Int)) (by simpa using ha.bot) hb.top) (by omega)) _ ?_⟩;rw[Hs] at h;exact h
def Lv:AS:=
 (Aa (Ao (AX Js (aC (.int 1)) (AX Ci (aC (.int 2)) (Fn ie (AB (AX UE (aV 1) (aC (.int 0))) AK)))) (Aq 2))
   (Au (Ab (AB (AX QY (AX Ci (aV 2) (aV 0)) (aV 3)) (AB (AX QY (AX Ci (aV 2) (aV 1)) (aV 3)) AK)))))
def Lu:AS:=
 (Aa (QO (BA (AX Xz (aV 4) (aC (.int 0)))) (Xg 3 4 (AB (aV 4) (AB (AX X1 (aV 3) (aV 4)) AK))))
   Lv)
def Rx:AS:=
 (Aa (Xg 3 4 (AB (Fn Sm (AB (aV 0) AK)) (AB (Fn Sm (AB (aV 1) AK)) AK)))
   Lu)
def BZ:AF:=Ar 5 Rx
def Qr (t b:Int)(hb:b≠0):∀s:Int,s=(if b<0 then -1 else 1)->(s*t).fdiv (Nat.gcd t.natAbs b.natAbs:Int)=(Rat.divInt t b).num/\(s*b).fdiv (Nat.gcd t.natAbs b.natAbs:Int)=((Rat.divInt t b).den:Int):=by
 intro s hs;have c:0<Nat.gcd t.natAbs b.natAbs:=ACP _ (by omega);have a:b.gcd t=Nat.gcd t.natAbs b.natAbs:=by rw[AEI,ACO]
 have es:b.sign=s:=by
  rw[hs];split
  .rename_i h;exact AEK h
  .exact ADl (by omega)
 rw[ADA,ADh,AAF hb,a,es,ABi _ (by omega),ABi _ (by omega)];refine⟨rfl, ?_⟩;rw[AB2];congr 1;rw[hs];split <;> omega
def GP (t b:Int)(hb:b≠0)(g:t.natAbs<2^900000)(d:b.natAbs<2^8900){Q:PV->Prop}(h:Q (fr (Rat.divInt t b))):BZ [.int t, .int b] Q:=by
 have l:0<Nat.gcd t.natAbs b.natAbs:=ACP _ (by omega);have gl:Nat.gcd t.natAbs b.natAbs<2^8900:=AAj (AB3 (by omega) (AB1 ..)) d;have sg:(1:Int)-2*(if decide (b<0)=true then 1 else 0)=(if b<0 then -1 else 1):=by by_cases z:b<0 <;> simp[z]
 obtain⟨i,a⟩:=Qr t b hb _ sg;have go:∀y x:Nat,∀D:GH,∀u v w,D.nx [u,v,w,some (.val (.int (Nat.gcd x y:Nat))),some (.val (.int 0))] ->∃n,UB (BA (AX Xz (aV 4) (aC (.int 0)))) (Xg 3 4 (AB (aV 4) (AB (AX X1 (aV 3) (aV 4)) AK))) D n [u,v,w,some (.val (.int x)),some (.val (.int y))] :=by
  intro y;induction y using Nat.strongRecOn with
  | _ y j=>
    intro x D u v w c;by_cases k:y=0
    .subst k;refine⟨1, ?_⟩;rw[Nat.gcd_zero_right] at c;exact c
    .obtain ⟨n,e⟩:=j (x % y) (Nat.mod_lt _ (by omega)) y D u v w (by rw[ACO y,<-Nat.gcd_rec,ACO y];exact c);refine⟨n+1, ?_⟩;refine LO (b:=decide (0<(y:Int))) (λ_=> ?_) (λz=> ?_)
     .have a:(x:Int).fmod (y:Int)=((x % y:Nat):Int):=by rw[ADW _ (by omega)];simp
      refine⟨by omega, ?_⟩;rw[<-a] at e;exact e
     .have:¬(0:Int)<y:=ACe z;omega
 refine go b.natAbs t.natAbs _ (some (.val (.int t))) (some (.val (.int b))) none ?_;have one:(1:Int).natAbs<2^1:=by decide
 have f:((1:Int)-2*(if decide (b<0)=true then 1 else 0)).natAbs<2^1:=by rw[sg];split <;> decide
 refine⟨.of (m:=2) (n:=1) (by decide) (by split <;> decide), .of f g,⟨by omega,gl⟩, .of f d,⟨by omega,gl⟩,(show 2<=sizeLine by decide), ?_⟩;unfold fr at h;rw[<-i,<-a] at h;exact h
def Ch {m:Int}{Q:PV->Prop}(m0:0<m)(m1:m<4611686018427387904)(h:∀r,0<=r->r<m->Q (.int r)):BB [.tape, .int m] Q:=⟨⟨m0,m1⟩,h⟩
mutual
def zL:Nat->PV->ke
 | 0,_=>false
 | _+1, .non=>true
 | _+1, .bl _=>true
 | _+1, .int _=>true
 | n+1, .tup xs=>nZ n xs&&decide (xs.length<sizeLine)
 | _+1,_=>false
def nZ:Nat->kn PV->ke
 | _, [] =>true
 | n,x::xs=>zL n x&&nZ n xs
end
def tI {t:Int}{n:Nat}(h:t.natAbs<2^n)(a:n<=900000:=by omega):t.natAbs<2^900000:=Al h a
section
variable {a b:Rat}{Q:PV->Prop}
theorem jM (ha:Bd 4000 a)(hb:Bd 4000 b)(h:Q (fr (a+b))):BZ [.int (a.num*b.den+b.num*a.den), .int (a.den*b.den)] Q:=
 GP _ _ (DQ (Bs a) (Bs b)) (tI (V5 (n:=8000) (CD ha.top hb.botI) (CD hb.top ha.botI))) (WH ha hb) (by rw[<-Hk];exact h)
end
def Rm {n:Int}{Q:PV->Prop}(h:Q (fr (n:Rat))):Q (.tup [.int n, .int 1]):=by rw[<-Zg];exact h
def Bd.part {t b:Int}{n:Nat}(h:b≠0)(a:t.natAbs<2^n)(hb:b.natAbs<2^n):Bd n (Rat.divInt t b):= .divInt h a hb
def lz {a b:Nat}(h:Nat.ble a b=true:=by rfl):a<=b:=ABT h
structure Sh (d n:Nat) (x:PV):Prop where
 ok:EN d x=true
 sh:(pd x).showable=true
 sz:(pd x).shown.length<=n
mutual
theorem NG:∀{d e:Nat} (x:PV),d<=e->EN d x=true->EN e x=true
 | _,_, .non,_,_=>by simp[EN]
 | _,_, .bl _,_,_=>by simp[EN]
 | _,_, .int _,_,_=>by simp[EN]
 | _,_, .str x,_,h=>by simpa[EN] using h
 | 0,_, .tup xs,_,h=>by simp[EN] at h
 | 0,_, .lst xs,_,h=>by simp[EN] at h
 | d+1,0, .tup xs,h,_=>by omega
 | d+1,0, .lst xs,h,_=>by omega
 | d+1,e+1, .tup xs,h,k=>by simp only[EN] at k ⊢;exact Jy xs (by omega) k
 | d+1,e+1, .lst xs,h,k=>by simp only[EN] at k ⊢;exact Jy xs (by omega) k
 | _,_, .tape,_,h=>by simp[EN] at h
 | _,_, .scr _,_,h=>by simp[EN] at h
 | _,_, .dct _,_,h=>by simp[EN] at h
 | _,_, .dk _,_,h=>by simp[EN] at h
 | _,_, .ty _,_,h=>by simp[EN] at h
theorem Jy:∀{d e:Nat} (xs:kn PV),d<=e->Jx d xs=true->Jx e xs=true
 | _,_, [],_,_=>by simp[Jx]
 | _,_,x::xs,h,k=>by simp only[Jx,AAs] at k ⊢;exact⟨NG x h k.1,Jy xs h k.2⟩
end
def Sh.mono {d n e m:Nat}{x:PV}(s:Sh d n x)(h1:d<=e)(h2:n<=m):Sh e m x:=⟨NG x h1 s.ok,s.sh,AAX s.sz h2⟩
def Sh.go {d n:Nat}{x:PV}(s:Sh d n x)(h1:d<=30:=by omega)(h2:n<=16777216:=by omega):iA x:=⟨NG x h1 s.ok,s.sh,AAX s.sz h2⟩
def Sh.int {i:Int}(h:i.natAbs<2^1900):Sh 0 1902 (.int i):=by
 refine⟨rfl, ?_, ?_⟩
 .show decide (i.natAbs.log2<1920)=true;exact AAP (ACZ (JB h (by decide)) (by decide))
 .show (Str.ofString (toString i)).length<=1902;rw[PySem.ofString_length];exact AAX (int_text_length_le (k:=1900) (by decide) (JB h (by decide))) (by decide)
theorem NH {d:Nat}:∀{xs:kn PV},(∀x∈xs,EN d x=true)->Jx d xs=true
 | [],_=>rfl
 | x::xs,h=>by simp only[Jx,AAs];exact⟨h x (by simp),NH λy a=>h y (by simp[a])⟩
theorem VY:∀{xs:kn PV},(∀x∈xs,(pd x).showable=true)->PyData.showableAll (RC xs)=true
 | [],_=>rfl
 | x::xs,h=>by simp only[RC,PyData.showableAll,AAs];exact⟨h x (by simp),VY λy a=>h y (by simp[a])⟩
theorem Rk {n:Nat}:∀{xs:kn PV},(∀x∈xs,(pd x).shown.length<=n)->((PyData.shownAll (RC xs)).map (·.length)).sum<=xs.length*n
 | [],_=>by simp[RC,PyData.shownAll]
 | x::xs,h=>by simp only[RC,PyData.shownAll,AAM,AAo,AAp];have h1:=h x (by simp);have h2:=Rk (n:=n) (xs:=xs) λy a=>h y (by simp[a]);rw[ABU];omega
theorem F2:∀(xs:kn PV),(PyData.shownAll (RC xs)).length=xs.length
 | [] =>rfl
 | x::xs=>by simp[RC,PyData.shownAll,F2 xs]
def Sh.tup {d n:Nat}{xs:kn PV}(h:∀x∈xs,Sh d n x):Sh (d+1) (xs.length*(n+2)+3) (.tup xs):=by refine⟨by simp only[EN];exact NH λx hx=>(h x hx).ok,by simp only[pd,PyData.showable];exact VY λx hx=>(h x hx).sh, ?_⟩;have h1:=Rk (n:=n) (xs:=xs) λx hx=>(h x hx).sz;have h2:=tupleText_len_le (PyData.shownAll (RC xs));rw[F2] at h2;simp only[pd,PyData.shown];rw[Nat.mul_add];omega
def Sh.lst {d n:Nat}{xs:kn PV}(h:∀x∈xs,Sh d n x):Sh (d+1) (xs.length*(n+2)+3) (.lst xs):=by refine⟨by simp only[EN];exact NH λx hx=>(h x hx).ok,by simp only[pd,PyData.showable];exact VY λx hx=>(h x hx).sh, ?_⟩;have h1:=Rk (n:=n) (xs:=xs) λx hx=>(h x hx).sz;have h2:=listText_len_le (PyData.shownAll (RC xs));rw[F2] at h2;simp only[pd,PyData.shown];rw[Nat.mul_add];omega
def sY {c:Type}{P:c->Prop}{a b:c}(ha:P a)(hb:P b):∀x∈ [a,b],P x:=λx hx=>by
 simp only[AAJ,AAe,AAf] at hx;rcases hx with rfl|rfl
 .exact ha
 .exact hb
def sZ {d:Type}{P:d->Prop}{a b c:d}(ha:P a)(hb:P b)(hc:P c):∀x∈ [a,b,c],P x:=λx hx=>by
 simp only[AAJ,AAe,AAf] at hx;rcases hx with rfl|rfl|rfl
 .exact ha
 .exact hb
 .exact hc
def nW {e:Type}{P:e->Prop}{a b c d:e}(ha:P a)(hb:P b)(hc:P c)(hd:P d):∀x∈ [a,b,c,d],P x:=λx hx=>by
 simp only[AAJ,AAe,AAf] at hx;rcases hx with rfl|rfl|rfl|rfl
 .exact ha
 .exact hb
 .exact hc
 .exact hd
def Sh.fr {r:Rat}(h:Bd 1900 r):Sh 1 4000 (fr r):=(Sh.tup (sY (Sh.int h.top) (Sh.int h.botI))).mono (by omega) lz
def nV {a b:Rat}:decide (a.num*(b.den:Int)<b.num*(a.den:Int))=decide (a<b):=by rw[AB4];exact(Rat.lt_iff a b).symm
def Y3:AS:=
 (Au (AX UE (AX Ci (AX An (aV 0) (aC (.int 0))) (AX An (aV 1) (aC (.int 1)))) (AX Ci (AX An (aV 1) (aC (.int 0))) (AX An (aV 0) (aC (.int 1))))))
def DL:AF:=Ar 2 Y3
section
variable {a b:Rat}{Q:PV->Prop}
def UI:AS:=
 (Au (AR 2 BZ (AB (AX BW (AX Ci (AX An (aV 0) (aC (.int 0))) (AX An (aV 1) (aC (.int 1)))) (AX Ci (AX An (aV 1) (aC (.int 0))) (AX An (aV 0) (aC (.int 1))))) (AB (AX Ci (AX An (aV 0) (aC (.int 1))) (AX An (aV 1) (aC (.int 1)))) AK))))
def C2:AF:=Ar 2 UI
theorem HV (ha:Bd 4000 a)(hb:Bd 4000 b)(h:Q (fr (a+b))):C2 [fr a,fr b] Q:=by obtain⟨m1,m2,m3,_⟩:=Bd.mt (n:=0) ha hb;exact⟨m1,m2,m3,rfl,jM ha hb h⟩
end
def rN {t b:Int}(a:0<t)(hb:0<b):0<Rat.divInt t b:=by
 rw[Rat.lt_iff];have h1:=ADA t b;show (0:Int)*_<_*1;rw[Int.zero_mul,ABt,h1,ADl hb,Int.one_mul];have g:0<(b.gcd t:Int):=by have:=Int.gcd_pos_of_ne_zero_left t (show b≠0 by omega);omega
 exact Int.ediv_pos_of_pos_of_dvd a (by omega) (Int.gcd_dvd_right ..)
def F3 {t b:Int}{Q:PV->Prop}(k:Nat)(hb:b≠0)(a:t.natAbs<2^k)(c:b.natAbs<2^k)(hk:k<=2000)(h:Bd k (Rat.divInt t b)->Q (fr (Rat.divInt t b))):BZ [.int t, .int b] Q:=
 GP t b hb (Al a (by omega)) (Al c (by omega)) (h (.part hb a c))
def Mul (D N:Nat)(a:Rat):Prop:=0<D/\∃k:Int,a=Rat.divInt k D/\k.natAbs<=N
def Mul.bd {D N n:Nat}{a:Rat}(h:Mul D N a)(h1:N<2^n)(h2:D<2^n):Bd n a:=by obtain⟨b,k,rfl,hk⟩:=h;exact .divInt (by omega) (by omega) (by simpa using h2)
def Mul.part {t b:Int}{c:Nat}(hb:0<b)(hc:0<c){N:Nat}(h:(t*c).natAbs<=N):Mul (b.toNat*c) N (Rat.divInt t b):=by
 refine⟨AAw (by omega) hc,t*c, ?_,h⟩;have e:((b.toNat*c:Nat):Int)=b*c:=by rw[ADB];congr 1;omega
 rw[e,(ADC (by omega) (DQ (by omega) (by omega)))];rw[ADD b,ADE]
def Mul.add {D N M:Nat}{a b:Rat}(ha:Mul D N a)(hb:Mul D M b):Mul D (N+M) (a+b):=by obtain⟨c,k,rfl,hk⟩:=ha;obtain⟨_,l,rfl,hl⟩:=hb;refine⟨c,k+l, ?_,by omega⟩;rw[ADi _ _ (by omega) (by omega),ADC (DQ (by omega) (by omega)) (by omega)];rw[<-Int.add_mul,ADE]
def Mul.mono {D N M:Nat}{a:Rat}(h:Mul D N a)(b:N<=M):Mul D M a:=⟨h.1,let ⟨k,e,hk⟩:=h.2;⟨k,e,by omega⟩⟩
def Mul.int {n:Int}{D N:Nat}(a:0<D)(h:(n*D).natAbs<=N):Mul D N (n:Rat):=by
 have e:(n:Rat)=Rat.divInt n 1:=by rw[<-AA4 (n:Rat)];simp
 rw[e];have:=Mul.part (t:=n) (b:=1) (c:=D) (by decide) a h;simpa using this
def L1:AS:=
 (Aa (B9 (BA (AX UE (aV 1) (aC (.int 3)))) (Au (Ab (AB (AX BW (aC (.int 1)) (AR 2 BB (AB (aV 0) (AB (aC (.int 5)) AK)))) (AB (aC (.int 1)) AK)))) BF)
   (Au (AR 2 BZ (AB (AX BW (aC (.int 1)) (AR 2 BB (AB (aV 0) (AB (aC (.int 8)) AK)))) (AB (AX Js (aV 1) (aC (.int 1))) AK)))))
def Rz:AS:=
 (Aa (Ao (AR 2 BB (AB (aV 0) (AB (aC (.int 5)) AK))) (Aq 1))
   L1)
def Es:AF:=Ar 2 Rz
def LC {Q:PV->Prop}(h:∀a,Bd 8 a->0<a->Mul 6 48 a->Q (fr a)):Es [.tape] Q:=by
 refine⟨rfl,Ch (by decide) (by decide) λw g i=> ?_⟩;refine LO (b:=decide (w<3)) (λ_=> ?_) (λz=> ?_)
 .refine ⟨rfl,Ch (by decide) (by decide) λr d f=>⟨lz, ?_⟩⟩;exact Rm (h _ (.int (by omega) (by decide)) (by exact_mod_cast (by omega:(0:Int)<1+r)) (.int (by decide) (by omega)))
 .have j:¬w<3:=ACe z;have hw:w-1=2\/w-1=3:=by omega
  refine⟨rfl,Ch (by decide) (by decide) λr d f=>⟨rfl, ?_⟩⟩;refine F3 8 (by omega) (by omega) (by omega) (by decide) λb=>h _ b (rN (by omega) (by omega)) ?_;rcases hw with e|e
  .rw [e];exact Mul.part (t:=1+r) (b:=2) (c:=3) (by decide) (by decide) (by omega)
  .rw [e];exact Mul.part (t:=1+r) (b:=3) (c:=2) (by decide) (by decide) (by omega)
def K2:AS:=
 (Aa (B9 (BA (AX Mo (aV 1) (aC (.int 6)))) (Au (AR 2 BZ (AB (AX Js (AR 2 BB (AB (aV 0) (AB (aC (.int 25)) AK))) (aC (.int 6))) (AB (aC (.int 2)) AK)))) BF)
   (Au (AR 2 BZ (AB (AX Js (AR 2 BB (AB (aV 0) (AB (aC (.int 31)) AK))) (aC (.int 9))) (AB (aC (.int 3)) AK)))))
def K1:AS:=
 (Aa (B9 (BA (AX UE (aV 1) (aC (.int 6)))) (Au (Ab (AB (AX Js (AR 2 BB (AB (aV 0) (AB (aC (.int 10)) AK))) (aC (.int 3))) (AB (aC (.int 1)) AK)))) BF)
   K2)
def Pu:AS:=
 (Aa (Ao (AR 2 BB (AB (aV 0) (AB (aC (.int 8)) AK))) (Aq 1))
   K1)
def A4:AF:=Ar 2 Pu
def A3 {Q:PV->Prop}(h:∀a,Mul 6 60 a->Q (fr a)):A4 [.tape] Q:=by
 refine⟨rfl,Ch (by decide) (by decide) λw f g=> ?_⟩;refine LO (b:=decide (w<6)) (λ_=> ?_) (λz=> ?_)
 .refine ⟨rfl,Ch (by decide) (by decide) λr d e=>⟨lz, ?_⟩⟩;exact Rm (h _ (.int (by decide) (by omega)))
 refine LO (b:=decide (w=6)) (λ_=> ?_) (λz=> ?_)
 .exact ⟨rfl,Ch (by decide) (by decide) λr d e=>⟨rfl,F3 8 (by omega) (by omega) (by omega) (by decide) λb=>h _ (Mul.part (t:=r-6) (b:=2) (c:=3) (by decide) (by decide) (by omega))⟩⟩
 .exact ⟨rfl,Ch (by decide) (by decide) λr d e=>⟨rfl,F3 8 (by omega) (by omega) (by omega) (by decide) λb=>h _ (Mul.part (t:=r-9) (b:=3) (c:=2) (by decide) (by decide) (by omega))⟩⟩
abbrev C4:=Rat×Rat×Rat×Rat
def cor (c:C4):PV:= .tup [fr c.1,fr c.2.1,fr c.2.2.1,fr c.2.2.2]
def corL (c:C4):PV:= .lst [fr c.1,fr c.2.1,fr c.2.2.1,fr c.2.2.2]
def D3 (cs:kn C4):PV:= .tup (cs.map cor)
structure JV (B:Nat) (c:C4):Prop where
 m:Bd B c.1
 x:Bd B c.2.1
 y:Bd B c.2.2.1
 z:Bd B c.2.2.2
def JV.mono {B a:Nat}{c:C4}(h:JV B c)(k:B<=a):JV a c:=⟨h.m.mono k,h.x.mono k,h.y.mono k,h.z.mono k⟩
structure GN (D N:Nat) (c:C4):Prop where
 m:Mul D N c.1
 x:Mul D N c.2.1
 y:Mul D N c.2.2.1
 z:Mul D N c.2.2.2
def GN.mono {D N M:Nat}{c:C4}(h:GN D N c)(k:N<=M):GN D M c:=⟨h.m.mono k,h.x.mono k,h.y.mono k,h.z.mono k⟩
def GN.bd {D N n:Nat}{c:C4}(h:GN D N c)(h1:N<2^n)(h2:D<2^n):JV n c:=⟨h.m.bd h1 h2,h.x.bd h1 h2,h.y.bd h1 h2,h.z.bd h1 h2⟩
def QJ (cs:kn C4):Prop:=cs.Pairwise λa b=>a.1<b.1
structure B4 (n D N:Nat) (cs:List C4):Prop where
 two:2<=cs.length
 few:cs.length<=n
 mu:∀c∈cs,GN D N c
 ris:QJ cs
structure Jn (n B:Nat) (cs:List C4):Prop where
 two:2<=cs.length
 few:cs.length<=n
 bd:∀c∈cs,JV B c
 ris:QJ cs
def bH {cs:kn C4}{c d:C4}(h:QJ (cs ++ [c]))(hd:c.1<d.1):QJ (cs ++ [c] ++ [d]):=by
 refine List.pairwise_append.mpr ⟨h,by simp,λa ha b hb=> ?_⟩;simp at hb;subst hb;rcases AAQ.mp ha with ha|ha
 .have:=(List.pairwise_append.mp h).2.2 a ha c (by simp);grind
 .simp at ha;subst ha;exact hd
def IT:AS:=
 (Aa (B9 (BA (AX Xz (aV 5) (aC (.int 3)))) (Ao (FB (C3 (AB (AR 1 A4 (AB (aV 0) AK)) (AB (AR 1 A4 (AB (aV 0) AK)) (AB (AR 1 A4 (AB (aV 0) AK)) AK))))) (Aq 3)) (B9 (BA (AX Xz (aV 5) (aC (.int 0)))) (Ao (AX BW (AX BW (cU (aV 3) cV (cW (AX Js (aV 5) (aC (.int 1))))) (FB (C3 (AB (AR 1 A4 (AB (aV 0) AK)) AK)))) (cU (aV 3) (cW (aV 5)) cV)) (Aq 3)) BF))
   (FV 4 Jw (AB (Ab (AB (aV 2) (AB (AX An (aV 3) (aC (.int 0))) (AB (AX An (aV 3) (aC (.int 1))) (AB (AX An (aV 3) (aC (.int 2))) AK))))) AK)))
def IS:AS:=
 (Aa (Ao (AR 2 BB (AB (aV 0) (AB (aC (.int 6)) AK))) (Aq 5))
   IT)
def Lw:AS:=
 (Aa (Ao (AR 2 C2 (AB (aV 2) (AB (AR 1 Es (AB (aV 0) AK)) AK))) (Aq 2))
   IS)
def L0:AS:=
 (Aa (QO (BA (AX UE (Fn Fq (AB (aV 4) AK)) (aV 1))) Lw)
   (Au (Fn EZ (AB (aV 4) AK))))
def Lz:AS:=
 (Aa (Fo (C3 (AB (Ab (AB (aV 2) (AB (AX An (aV 3) (aC (.int 0))) (AB (AX An (aV 3) (aC (.int 1))) (AB (AX An (aV 3) (aC (.int 2))) AK))))) AK)) 4)
   L0)
def Ly:AS:=
 (Aa (Ao (FB (C3 (AB (AR 1 A4 (AB (aV 0) AK)) (AB (AR 1 A4 (AB (aV 0) AK)) (AB (AR 1 A4 (AB (aV 0) AK)) AK))))) (Aq 3))
   Lz)
def GJ:AS:=
 (Aa (Ao (Ab (AB (AR 2 BB (AB (aV 0) (AB (aC (.int 12)) AK))) (AB (aC (.int 1)) AK))) (Aq 2))
   Ly)
def Lx:AS:=
 (Aa (B9 (BA (AX Mo (AR 2 BB (AB (aV 0) (AB (aC (.int 8)) AK))) (aC (.int 0)))) (Ao (AX BW (aC (.int 7)) (AR 2 BB (AB (aV 0) (AB (aC (.int 3)) AK)))) (Aq 1)) BF)
   GJ)
def Ry:AS:=
 (Aa (Ao (AX BW (aC (.int 2)) (AR 2 BB (AB (aV 0) (AB (aC (.int 4)) AK)))) (Aq 1))
   Lx)
def Dw:AF:=Ar 6 Ry
def Wr (many:Int)(D o f:ki AV)(j:ki AV)(K:2<=many)(h1:many<=9){Q:PV->Prop}(h:∀cs,B4 9 6 512 cs->Q (D3 cs)):GJ {nx:=λ_=>Q .non,rt:=Q,bk:=λ_=>False,ct:=λ_=>False} [some (.val .tape),some (.val (.int many)),D,o,j,f] :=by
 refine⟨rfl,Ch (by decide) (by decide) λm m0 m1=>⟨lz, ?_⟩⟩;refine⟨rfl,A3 λx hx=>⟨rfl,A3 λy k=>⟨rfl,A3 λz l=>⟨lz, ?_⟩⟩⟩⟩;refine⟨lz,lz, ?_⟩;refine⟨(many-1).toNat+1,cM (λn τ=>∃(cs:kn C4) (c:C4) (f:ki AV),n+(cs.length+1)=many.toNat+1/\1<=n/\(∀d∈cs ++ [c],GN 6 (66+48*cs.length) d)/\(Mul 6 60 c.2.1/\Mul 6 60 c.2.2.1/\Mul 6 60 c.2.2.2)/\QJ (cs ++ [c])/\
  τ= [some (.val .tape),some (.val (.int many)),some (.val (fr c.1)),some (.val (.lst [fr c.2.1,fr c.2.2.1,fr c.2.2.2])),some (.own ((cs ++ [c]).map cor)),f]) ?_ ?_ _ _ ⟨[],((m:Rat),x,y,z),f, ?_, ?_, ?_, ?_, ?_, ?_⟩⟩
 .rintro τ ⟨cs,c,f,_,E,_⟩;omega
 .rintro n τ R F ⟨cs,c,f,E,L,hb,g,u,rfl⟩;have v:(((cs ++ [c]).map cor).length:Int)=(cs.length:Int)+1:=by simp
  refine LO (b:=decide ((((cs ++ [c]).map cor).length:Int)<many)) (λz=> ?_) (λz=> ?_)
  .have r:(((cs ++ [c]).map cor).length:Int)<many:=AA5 z;rw[v] at r;have A:=hb c (by simp);refine⟨rfl,LC λs G M H=>⟨rfl,HV ((A.m.bd (n:=12) (by omega) (by decide)).mono (by omega)) (G.mono (by omega)) ?_⟩⟩;refine⟨rfl,Ch (by decide) (by decide) λw N O=> ?_⟩;have a:∀(t:GH) (x y z:Rat) (f:ki AV),t.nx=R->Mul 6 60 x->Mul 6 60 y->Mul 6 60 z->FV 4 Jw (AB (Ab (AB (aV 2) (AB (AX An (aV 3) (aC (.int 0))) (AB (AX An (aV 3) (aC (.int 1))) (AB (AX An (aV 3) (aC (.int 2))) AK))))) AK)
    t [some (.val .tape),some (.val (.int many)),some (.val (fr (c.1+s))),some (.val (.lst [fr x,fr y,fr z])),some (.own ((cs ++ [c]).map cor)),f] :=by
    intro t x y z f I B i C;refine⟨lz, ?_, ?_⟩
    .show _<16777216;omega
    .rw [I];have J:Mul 6 (66+48*(cs.length+1)) (c.1+s):=(A.m.add H).mono (by omega);refine F _ ⟨cs ++ [c],(c.1+s,x,y,z),f,by simp;omega,by omega, ?_,⟨B,i,C⟩,bH u ?_, ?_⟩
     .intro d hd;rcases AAQ.mp hd with hd|hd
      .exact (hb d hd).mono (by simp;omega)
      .simp at hd;subst hd;have e:(cs ++ [c]).length=cs.length+1:=by simp
       rw[e];exact⟨J,B.mono (by omega),i.mono (by omega),C.mono (by omega)⟩
     .show c.1<c.1+s;grind
     .rw [ABl (l₁:=cs ++ [c])];rfl
   refine LO (b:=decide (3<w)) (λ_=> ?_) (λo=> ?_)
   .exact ⟨rfl,A3 λx hx=>⟨rfl,A3 λy k=>⟨rfl,A3 λz l=>⟨lz,a _ x y z _ rfl hx k l⟩⟩⟩⟩
   refine LO (b:=decide (0<w)) (λj=> ?_) (λj=> ?_)
   .have P:¬3<w:=ACe o;have S:0<w:=AA5 j;have hw:w=1\/w=2\/w=3:=by omega
    rcases hw with rfl|rfl|rfl
    .exact E2 ⟨rfl,A3 λp hp=>⟨lz,lz,E2 ⟨lz,a _ p _ _ _ rfl hp g.2.1 g.2.2⟩⟩⟩
    .exact E2 ⟨rfl,A3 λp hp=>⟨lz,lz,E2 ⟨lz,a _ _ p _ _ rfl g.1 hp g.2.2⟩⟩⟩
    .exact E2 ⟨rfl,A3 λp hp=>⟨lz,lz,E2 ⟨lz,a _ _ _ p _ rfl g.1 g.2.1 hp⟩⟩⟩
   .exact a _ _ _ _ _ rfl g.1 g.2.1 g.2.2
  .have r:¬(((cs ++ [c]).map cor).length:Int)<many:=ACe z;rw[v] at r;refine h (cs ++ [c]) ⟨by simp;omega,by simp;omega,λd hd=>(hb d hd).mono (by omega),u⟩
 .simp;omega
 .omega
 .intro d hd;simp at hd;subst hd;exact⟨.int (by decide) (by simp;omega),hx.mono (by decide),k.mono (by decide),l.mono (by decide)⟩
 .exact ⟨hx,k,l⟩
 .exact List.pairwise_singleton _ _
 .simp only[cor,Zg,AAx,AAM,ABy];rfl
def GQ {Q:PV->Prop}(h:∀cs,B4 9 6 512 cs->Q (D3 cs)):Dw [.tape] Q:=by
 refine⟨rfl,Ch (by decide) (by decide) λa d e=>⟨rfl,Ch (by decide) (by decide) λb f g=> ?_⟩⟩;refine LO (b:=decide (b=0)) (λ_=> ?_) (λ_=> ?_)
 .exact ⟨rfl,Ch (by decide) (by decide) λc c0 i=>Wr (7+c) _ _ _ _ (by omega) (by omega) h⟩
 .exact Wr (2+a) _ _ _ _ (by omega) (by omega) h
def mid (a b:Rat):Rat:=(a+b)/2
def iS {cs:kn C4}{i:Int}{k:Nat}(hk:i=(k:Int))(h:k<=cs.length):FD (cs.map cor) none (some i)=(cs.take k).map cor:=by unfold FD;rw[hk,HT.sIx_none,HT.sIx_nat];rw[show min k (cs.map cor).length=k by simp;omega,List.map_take];simp
def Mul.mid {D N:Nat}{a b:Rat}(ha:Mul D N a)(hb:Mul D N b):Mul (2*D) (2*N) (mid a b):=by
 obtain⟨c,k,rfl,hk⟩:=ha;obtain⟨_,l,rfl,hl⟩:=hb;refine⟨by omega,k+l, ?_,by omega⟩;have h2:(2:Rat)=Rat.divInt 2 1:=rfl;unfold PL.mid;rw[ADi _ _ (by omega) (by omega),ACd,h2,Rat.inv_divInt,ADj,ABt,ADC (DQ (DQ (by omega) (by omega)) (by decide)) (by omega),<-Int.add_mul];have e:((2*D:Nat):Int)=2*(D:Int):=by omega
 rw[e,ADE,ADE,ADD 2 (D:Int)]
def Mul.dbl {D N:Nat}{a:Rat}(h:Mul D N a):Mul (2*D) (2*N) a:=by
 have:=h.mid h
 rwa [show PL.mid a a=a by unfold PL.mid;grind] at this
def GN.dbl {D N:Nat}{c:C4}(h:GN D N c):GN (2*D) (2*N) c:=⟨h.m.dbl,h.x.dbl,h.y.dbl,h.z.dbl⟩
def B4.ok {n D N m:Nat}{cs:kn C4}(p:B4 n D N cs)(h1:N<2^m)(h2:D<2^m):Jn n m cs:=⟨p.two,p.few,λc hc=>(p.mu c hc).bd h1 h2,p.ris⟩
def KZ (cs:kn C4)(v:PV):Prop:=∃f:C4->PV,(f=cor\/f=corL)/\(v= .tup (cs.map f)\/v= .lst (cs.map f))
def KZ.self (cs:kn C4):KZ cs (D3 cs):=⟨cor, .inl rfl, .inl rfl⟩
def KZ.lists (cs:kn C4):KZ cs (.lst (cs.map corL)):=⟨corL, .inr rfl, .inr rfl⟩
theorem EG {i m:Type}{g:AG}{j:AE}{d:A6}{Q:kn PV->Prop}(f:i->PV)(k:m->PV)(e:i->m)(P:i->Prop)(hs:∀a,P a->∀R:PV->Prop,R (k (e a))->g (f a) d λl=>j l R):∀(xs:kn i) (c:kn PV),(∀a∈xs,P a)->Q (c++(xs.map e).map k)->DF g FC j d Q (xs.map f) c
 | [],c,_,h=>(by simpa using h:Q c)
 | a::xs,c,hp,h=>by refine hs a (hp a (by simp)) (λy=>DF g FC j d Q (xs.map f) (c ++ [y])) (EG f k e P hs xs _ (λb hb=>hp b (by simp[hb])) ?_);simpa using h
def Sh.cor {c:C4}(h:JV 1900 c):Sh 2 17000 (cor c):=(Sh.tup (nW (Sh.fr h.m) (Sh.fr h.x) (Sh.fr h.y) (Sh.fr h.z))).mono (by decide) lz
def Sh.corL {c:C4}(h:JV 1900 c):Sh 2 17000 (corL c):=(Sh.lst (nW (Sh.fr h.m) (Sh.fr h.x) (Sh.fr h.y) (Sh.fr h.z))).mono (by decide) lz
abbrev T3:=Rat×Rat×Rat
def inter (a b:C4)(m:Rat):T3:=(a.2.1+(m-a.1)/(b.1-a.1)*(b.2.1-a.2.1),a.2.2.1+(m-a.1)/(b.1-a.1)*(b.2.2.1-a.2.2.1),a.2.2.2+(m-a.1)/(b.1-a.1)*(b.2.2.2-a.2.2.2))
def spotG:C4->kn C4->Rat->ki T3
 | _, [],_=>none
 | a,b::r,m=>if b.1<m then spotG b r m else some (inter a b m)
def spotC:kn C4->Rat->ki T3
 | [],_=>none
 | a::r,m=>if m<a.1 then none else spotG a r m
def tH (t:T3):PV:= .tup [fr t.1,fr t.2.1,fr t.2.2]
structure IQ (B:Nat) (t:T3):Prop where
 x:Bd B t.1
 y:Bd B t.2.1
 z:Bd B t.2.2
def IQ.mono {B a:Nat}{t:T3}(h:IQ B t)(k:B<=a):IQ a t:=⟨h.x.mono k,h.y.mono k,h.z.mono k⟩
section
variable {B M:Nat}{a b:C4}{m:Rat}
theorem ka {x y:Rat}(h:x<y):y-x≠0:=by grind
theorem Bd.share (ha:JV B a)(hb:JV B b)(c:Bd M m)(h:a.1<b.1):Bd (M+B+1+(B+B+1)) ((m-a.1)/(b.1-a.1)):=(c.sub ha.m).div (ka h) (hb.m.sub ha.m)
theorem IQ.inter (ha:JV B a)(hb:JV B b)(c:Bd M m)(h:a.1<b.1):IQ (M+6*B+10) (inter a b m):=by have s:=Bd.share ha hb c h;exact⟨(ha.x.add (s.mul (hb.x.sub ha.x))).mono (by omega),(ha.y.add (s.mul (hb.y.sub ha.y))).mono (by omega),(ha.z.add (s.mul (hb.z.sub ha.z))).mono (by omega)⟩
end
theorem IQ.spotG {B M:Nat}{m:Rat}(d:Bd M m):∀{a:C4} {r:kn C4},QJ (a::r)->(∀c∈a::r,JV B c)->∀t,spotG a r m=some t->IQ (M+6*B+10) t
 | a, [],_,_,t,e=>by cases e
 | a,b::r,hr,hb,t,e=>by
   unfold PL.spotG at e;split at e
   .exact IQ.spotG d (AAl.mp hr).2 (λc hc=>hb c (by simp[hc])) t e
   .cases e;exact .inter (hb a (by simp)) (hb b (by simp)) d ((AAl.mp hr).1 b (by simp))
def IQ.spotC {B M:Nat}{m:Rat}{cs:kn C4}(b:Bd M m)(d:QJ cs)(hb:∀c∈cs,JV B c):∀t,spotC cs m=some t->IQ (M+6*B+10) t:=λt e=>by
 cases cs with
 | nil=>cases e
 | cons a r=>
   simp only[PL.spotC] at e;split at e
   .cases e
   .exact IQ.spotG b d hb t e
def WS {f:C4->PV}{cs:kn C4}{i:Int}{k:Nat}{c:C4}{Q:PV->Prop}(hk:i=(k:Int))(e:cs[k]? =some c)(h:Q (f c)):jV (Me (cs.map f) i) Q:=by have q:Me (cs.map f) ((k:Nat):Int)=some (f c):=DO (by rw[AAr,e] <;> rfl);rw[hk,q];exact h
def Ww {cs:kn C4}(h:QJ cs){k:Nat}{a b:C4}(c:cs[k]? =some a)(d:cs[k+1]? =some b):a.1<b.1:=by have h1:=(AA0.mp c);have h2:=(AA0.mp d);obtain⟨e,rfl⟩:=h1;obtain⟨f,rfl⟩:=h2;exact AEL.mp h k (k+1) e f (by omega)
def S6 {a b:C4}(h:a.1<b.1):inter a b a.1=a.2:=by
 have s:(a.1-a.1)/(b.1-a.1)=0:=by grind
 simp only[inter,s];obtain⟨m,x,y,z⟩:=a;show (x+0*(b.2.1-x),y+0*(b.2.2.1-y),z+0*(b.2.2.2-z))=(x,y,z);rw[show x+0*(b.2.1-x)=x by grind,show y+0*(b.2.2.1-y)=y by grind,show z+0*(b.2.2.2-z)=z by grind]
def M5 {a b:C4}(h:a.1<b.1):inter a b b.1=b.2:=by
 have s:(b.1-a.1)/(b.1-a.1)=1:=by grind
 simp only[inter,s];obtain⟨m,x,y,z⟩:=b;show (a.2.1+1*(x-a.2.1),a.2.2.1+1*(y-a.2.2.1),a.2.2.2+1*(z-a.2.2.2))=(x,y,z);rw[show a.2.1+1*(x-a.2.1)=x by grind,show a.2.2.1+1*(y-a.2.2.1)=y by grind,show a.2.2.2+1*(z-a.2.2.2)=z by grind]
def iA.t3 {t:T3}(h:IQ 1900 t):iA (tH t):=(Sh.tup (sZ (Sh.fr h.x) (Sh.fr h.y) (Sh.fr h.z))).go (by decide) lz
def sp (cs:kn C4)(m:Rat):C4:=(m,(spotC cs m).getD (0,0,0))
def lR (f t:Rat)(c:C4):ke:=decide (f<c.1)&&decide (c.1<t)
theorem Nq {m:Rat}:∀{a:C4} {r:kn C4} {l:C4},r≠ [] ->(a::r).getLast?=some l->m<=l.1->∃t,spotG a r m=some t
 | a, [],l,h,_,_=>absurd rfl h
 | a,b::r,l,_,e,hm=>by
   simp only[spotG];split
   .rename_i h;cases r with
    | nil=>
      have:b=l:=by simpa using e
      subst this;grind
    | cons c r=>exact Nq (l:=l) (by simp) (by simpa[AEM] using e) hm
   .exact ⟨_,rfl⟩
def Np {a:C4}{r:kn C4}{l:C4}{m:Rat}(h2:r≠ [])(e:(a::r).getLast?=some l)(b:a.1<=m)(h1:m<=l.1):∃t,spotC (a::r) m=some t:=by simp only[spotC];rw[AAF (by grind)];exact Nq h2 e h1
def YJ {a b l:C4}{r:kn C4}(e:(a::b::r).getLast?=some l):(b::r).getLast?=some l:=by simpa[AEM] using e
def mx (b a:Rat):Rat:=if b<a then a else b
def mn (e l:Rat):Rat:=if e<l then e else l
theorem EW {i:Type}{g:AG}{j:AT}{l:AE}{d:A6}{Q:kn PV->Prop}(f k:i->PV)(p:i->ke)(P:i->Prop)(hs:∀a,P a->∀(R:PV->Prop) (N:Prop),(p a=true->R (k a))->(p a=false->N)->g (f a) d λe=>j e λok=>if ok=true then l e R else N):∀(xs:kn i) (c:kn PV),(∀a∈xs,P a)->Q (c++(xs.filter p).map k)->DF g j l d Q (xs.map f) c
 | [],c,_,h=>(by simpa using h:Q c)
 | a::xs,c,hp,h=>by
   refine hs a (hp a (by simp)) (λy=>DF g j l d Q (xs.map f) (c ++ [y])) _ (λz=> ?_) (λz=> ?_)
   .exact EW f k p P hs xs _ (λb hb=>hp b (by simp[hb])) (by simpa[AB5,z] using h)
   .exact EW f k p P hs xs _ (λb hb=>hp b (by simp[hb])) (by simpa[AB5,z] using h)
def both {f t:Rat}{c:C4}{b:(ke->Prop)->Prop}{A:Prop}{N:Prop}(h1:lR f t c=true->A)(h2:lR f t c=false->N):if decide (f<c.1)=true then (if decide (c.1<t)=true then A else N) else N:=by unfold lR at h1 h2;refine LO (λz=>LO (λa=>h1 (by rw[z,a];rfl)) (λa=>h2 (by rw[z,a];rfl))) (λz=>h2 (by rw[z];rfl))
def Bd.mx {n:Nat}{a b:Rat}(ha:Bd n a)(hb:Bd n b):Bd n (mx a b):=by unfold PL.mx;split <;> assumption
def Bd.mn {n:Nat}{a b:Rat}(ha:Bd n a)(hb:Bd n b):Bd n (mn a b):=by unfold PL.mn;split <;> assumption
section
variable {a b:AS}{ta tb:AE}{tt tu:AT}{g:AG}{gs:UH}{nx bk ct:A6->Prop}{rt:PV->Prop}{τ:A6}{Q:PV->Prop}{QB:ke->Prop}{QL:kn PV->Prop}{QT:A6->Prop}{r:AA}{ai:AI}{F:AF}{n i j:Nat}{x y z:PV}{xs ys:kn PV}
def oT {f:G6}(e:Rt τ i=some (.val x))(h:ta τ λy=>f x y λz=>nx (τ.set i (some (.val z)))):UY i f ta ⟨nx,rt,bk,ct⟩ τ:=by unfold UY;rw[e];exact h
def og (e:Rt τ i=some (.own xs))(h:QL xs):HG i τ QL:=by unfold HG;rw[e];exact h
def wG (e:Rt τ i=some (.val x))(h:Q x):aV i τ Q:=by unfold aV;rw[e];exact h
def v6 (x:PV)(i:Int):ki PV:=match x with | .tup xs=>Me xs i | .lst xs=>Me xs i|_=>none
def oZ {i:Int}(e:v6 x i=some z)(h:Q z):An x (.int i) Q:=by cases x <;> first | (cases e;done)|(show jV (Me _ i) Q;rw[show Me _ i=some z from e];exact h)
def kD {cs:kn C4}(h:Q (.int cs.length)):Fq [D3 cs] Q:=by show Q (.int (cs.map cor).length);rw[AAO];exact h
def oY {T:String}{k:Kd}(c:HW T)(e:kdOf x=some k)(h:Q (.bl (HI k T))):Zk [x, .ty T] Q:=by refine⟨c, ?_⟩;rw[e];exact h
def Tq {g:kn ke->ke}{bs:kn ke}(e:GT xs=some bs)(h:Q (.bl (g bs))):Sn g [.lst xs] Q:=by show (match GT xs with | some bs=>Q (.bl (g bs))|none=>False);rw[e];exact h
def oV {c:ke}{A B:Prop}(e:c=true)(h:A):if c=true then A else B:=by rw[AAG e];exact h
def oU {c:ke}{A B:Prop}(e:c=false)(h:B):if c=true then A else B:=by rw[AAF (by rw[e];exact AAU)];exact h
def oW {p:Prop}[Decidable p]{A B:Prop}(h1:p->A)(h2:¬p->B):if decide p=true then A else B:=by
 by_cases h:p
 .rw [AAG (AAP h)];exact h1 h
 .rw [AAF (by simp[h])];exact h2 h
def oX {p:Prop}[Decidable p]{A B:Prop}(h1:¬p->A)(h2:p->B):if (!decide p)=true then A else B:=by
 by_cases h:p
 .rw [AAF (by simp[h])];exact h2 h
 .rw [AAG (by simp[h])];exact h1 h
end
def qG:Bd 1 (0:Rat):=⟨by decide,by decide⟩
def vX:Bd 1 (1:Rat):=⟨by decide,by decide⟩
section
variable {g:AG}{b:AS}{nx bk ct:A6->Prop}{rt:PV->Prop}
def WM (P:Nat->A6->Prop){lo:Int}{n:Nat}(hd:∀τ,P n τ->nx τ)(hs:∀i,i<n->∀τ (R:A6->Prop),(∀τ,P (i+1) τ->R τ)->P i τ->g (.int (lo+i)) τ λc=>b ⟨R,rt,nx,R⟩ c){τ:A6}(f:P 0 τ):Cv g b ⟨nx,rt,bk,ct⟩ (rng lo n) τ:=by
 refine Lb (λr τ=>∃i,i<=n/\r=rng (lo+i) (n-i)/\P i τ) ?_ ?_ _ _ ⟨0,ABI _,by simp,f⟩
 .rintro τ ⟨i,hi,a,hp⟩;have:n-i=0:=by
   cases e:n-i with
   | zero=>rfl
   | succ k=>rw[e,JH] at a;cases a
  have:i=n:=by omega
  subst this;exact hd τ hp
 .rintro x r τ R h ⟨i,hi,a,hp⟩;cases e:n-i with
  | zero=>rw[e] at a;cases a
  | succ k=> rw[e,JH] at a;cases a;exact hs i (by omega) τ R (λd h2=>h d ⟨i+1,by omega,by rw[show n-(i+1)=k by omega,show lo+((i+1:Nat):Int)=lo+i+1 by omega],h2⟩) hp
def Cj {d:Type}(f:d->PV)(P:kn d->kn d->A6->Prop){cs:kn d}(hd:∀τ,P cs [] τ->nx τ)(hs:∀a c vs,a++c::vs=cs->∀τ (R:A6->Prop),(∀τ,P (a ++ [c]) vs τ->R τ)->P a (c::vs) τ->g (f c) τ λi=>b ⟨R,rt,nx,R⟩ i){τ:A6}(k:P [] cs τ):Cv g b ⟨nx,rt,bk,ct⟩ (cs.map f) τ:=by
 refine Lb (λr τ=>∃a vs,a++vs=cs/\r=vs.map f/\P a vs τ) ?_ ?_ _ _ ⟨[],cs,rfl,rfl,k⟩
 .rintro τ ⟨a,vs,e,h,hp⟩;cases vs with
  | nil=>rw[ADX] at e;subst e;exact hd τ hp
  | cons v vs=>cases h
 .rintro x r τ R l ⟨a,vs,e,h,hp⟩;cases vs with
  | nil=>cases h
  | cons c vs=> cases h;exact hs a c vs e τ R (λj h2=>l j ⟨a ++ [c],vs,by simpa using e,rfl,h2⟩) hp
def dG (P:A6->Prop){xs:kn PV}(hd:∀τ,P τ->nx τ)(hs:∀x∈xs,∀τ (R:A6->Prop),(∀τ,P τ->R τ)->P τ->g x τ λa=>b ⟨R,rt,nx,R⟩ a){τ:A6}(e:P τ):Cv g b ⟨nx,rt,bk,ct⟩ xs τ:=by
 refine Lb (λr τ=>(∀x∈r,x∈xs)/\P τ) ?_ ?_ _ _ ⟨λ_ h=>h,e⟩
 .rintro τ ⟨_,hp⟩;exact hd τ hp
 .rintro x r τ R f ⟨d,hp⟩;exact hs x (d x (by simp)) τ R (λc h2=>f c ⟨λy i=>d y (by simp[i]),h2⟩) hp
end
section
variable {g:AG}{tt:AT}{te:AE}{τ0:A6}{Q:kn PV->Prop}
def LZ (P:Nat->kn PV->Prop){lo:Int}{n:Nat}(hd:∀a,P n a->Q a)(hs:∀i,i<n->∀a (R:kn PV->Prop),(∀a,P (i+1) a->R a)->P i a->g (.int (lo+i)) τ0 λc=>tt c λok=>if ok=true then te c λy=>R (a ++ [y]) else R a)(f:P 0 []):DF g tt te τ0 Q (rng lo n) [] :=by
 refine WD (λr a=>∃i,i<=n/\r=rng (lo+i) (n-i)/\P i a) ?_ ?_ _ _ ⟨0,ABI _,by simp,f⟩
 .rintro a ⟨i,hi,b,hp⟩;have:n-i=0:=by
   cases e:n-i with
   | zero=>rfl
   | succ k=>rw[e,JH] at b;cases b
  have:i=n:=by omega
  subst this;exact hd a hp
 .rintro x r a R h ⟨i,hi,b,hp⟩;cases e:n-i with
  | zero=>rw[e] at b;cases b
  | succ k=> rw[e,JH] at b;cases b;exact hs i (by omega) a R (λd h2=>h d ⟨i+1,by omega,by rw[show n-(i+1)=k by omega,show lo+((i+1:Nat):Int)=lo+i+1 by omega],h2⟩) hp
end
end PL
namespace PL
section
variable {p:Prop}[Decidable p]{A B:Prop}
def kC (h:p)(a:A):if decide p=true then A else B:=by rw[AAG (AAP h)];exact a
def kB (h:¬p)(a:B):if decide p=true then A else B:=by rw[AAF (by simp[h])];exact a
end
end PL
namespace PL
open PySem PySem.Spec PyProof.Rows L2
def Kc (K:AAD)(mg:Str->ki km)(x:Str)(v:PV):Prop:=∃(u:km) (V:V),mg x=some u/\RelV V u/\∀T M H,Cn K T M H V v
section
variable {K:AAD}{T M:kj->Prop}{H:Hp}
def Be {i:Int}{t:Tok}:∃V,RelV V (.int i t)/\∀T M H,Cn K T M H V (.int i):=⟨.int i,⟨t,rfl⟩,λ_ _ _=> .int i⟩
inductive KR (K:AAD):List Value->List PV->Prop where
 | nil:KR K [] []
 | cons {u:Value} {x:PV} {us:List Value} {xs:List PV} (h:∃V,RelV V u/\∀T M H,Cn K T M H V x) (t:KR K us xs):KR K (u::us) (x::xs)
theorem KR.reps:∀{a:kn km} {xs:kn PV},KR K a xs->∃vs,Ap vs a/\∀T M H,Ay K T M H vs xs
 | _,_, .nil=>⟨[], .nil,λ_ _ _=> .nil⟩
 | _,_, .cons ⟨V,r,h⟩ t=>by obtain⟨vs,b,h2⟩:=KR.reps t;exact⟨V::vs, .cons r b,λT M H=> .cons (h T M H) (h2 T M H)⟩
def KR.length:∀{a:kn km} {xs:kn PV},KR K a xs->a.length=xs.length
 | _,_, .nil=>rfl
 | _,_, .cons _ t=>by simp[t.length]
def Lp {a:kj}{b:kn km}{xs:kn PV}{n:Nat}{c:ki kj}{sl:Array (ki km)}(hl:K.lookup a=some ⟨.type "tuple",c, .seq b.toArray n,sl⟩)(h:KR K b xs)(hs:xs.length<=sizeLine:=by decide):∃V,RelV V (.ref a)/\∀T M H,Cn K T M H V (.tup xs):=by obtain⟨vs,r,q⟩:=h.reps;refine⟨.ref a,rfl,λT M H=> .tup (vs:=vs) (.inr ⟨_,b.toArray,n,hl,rfl,rfl, ?_,by simpa using r⟩) (q T M H)⟩;rw[AAW,h.length];exact hs
end
def Wg {K:AAD}{mg:Str->ki km}{x:Str}{u:km}{v:PV}(a:mg x=some u)(h:∃V,RelV V u/\∀T M H,Cn K T M H V v):Kc K mg x v:=let ⟨V,r,q⟩:=h;⟨u,V,a,r,q⟩
section
variable {X:Cx}
def BC {x:Str}{v:PV}{pos:Pos}(c:Kc X.K X.mg x v)(a:Gl X x)(hd:(x==("__debug__" :Str))=false:=by decide):SE X (.Name x pos) (aC v):=by obtain⟨u,V,b,r,h⟩:=c;exact⟨_,eJ a b r hd,Pm h⟩
end
end PL
namespace PL
open PySem L2 PyProof.Rows
class Wp (P:Prop) (P':outParam Prop):Prop where
 go:P'->P
class ZJ (P:Prop) (C P':outParam Prop):Prop where
 go:C->P'->P
class vT (P:Prop) (P':outParam Prop):Prop where
 go:P'->P
class rJ (P:Prop) (A B:outParam Prop):Prop where
 go:A->B->P
class Xe (τ:A6) (i:Nat) (x:outParam AV):Prop where
 e:Rt τ i=some x
instance{v:AV}{r:A6}:Xe (some v::r) 0 v:=⟨rfl⟩
instance{y:ki AV}{r:A6}{i:Nat}{v:AV}[h:Xe r i v] :Xe (y::r) (i+1) v:=⟨h.e⟩
instance{a b c d:ki AV}{r:A6}{i:Nat}{v:AV}[h:Xe r i v] :Xe (a::b::c::d::r) (i+4) v:=⟨h.e⟩
instance{a b c d e f g k:ki AV}{r:A6}{i:Nat}{v:AV}[h:Xe r i v] :Xe (a::b::c::d::e::f::g::k::r) (i+8) v:=⟨h.e⟩
class QM (τ:A6) (i:Nat) (v:AV) (τ':outParam A6):Prop where
 e:τ.set i (some v)=τ'
instance{y:ki AV}{r:A6}{v:AV}:QM (y::r) 0 v (some v::r):=⟨rfl⟩
instance{y:ki AV}{r a:A6}{i:Nat}{v:AV}[h:QM r i v a] :QM (y::r) (i+1) v (y::a):=⟨by rw[ADF,h.e]⟩
instance{a b c d:ki AV}{r f:A6}{i:Nat}{v:AV}[h:QM r i v f] :QM (a::b::c::d::r) (i+4) v (a::b::c::d::f):=⟨by rw[<-h.e];rfl⟩
instance{a b c d e f g k:ki AV}{r j:A6}{i:Nat}{v:AV}[h:QM r i v j] :QM (a::b::c::d::e::f::g::k::r) (i+8) v (a::b::c::d::e::f::g::k::j):=⟨by rw[<-h.e];rfl⟩
class Yu (τ:A6) (τ':outParam A6):Prop where
 e:frz τ=τ'
instance:Yu [] [] :=⟨rfl⟩
instance (priority:=low){z:ki AV}{r a:A6}[h:Yu r a] :Yu (z::r) (ib z::a):=⟨by rw[<-h.e];rfl⟩
instance{r a:A6}[h:Yu r a] :Yu (none::r) (none::a):=⟨by rw[<-h.e];rfl⟩
instance{x:PV}{r a:A6}[h:Yu r a] :Yu (some (.val x)::r) (some (.val x)::a):=⟨by rw[<-h.e];rfl⟩
instance{x:kn PV}{r a:A6}[h:Yu r a] :Yu (some (.own x)::r) (some (.val (.lst x))::a):=⟨by rw[<-h.e];rfl⟩
class pZ (ix:List Nat) (τ:A6) (τ':outParam A6):Prop where
 e:(ix.map λi=>Xj (Rt τ i))=τ'
instance{τ:A6}:pZ [] τ [] :=⟨rfl⟩
instance{τ r:A6}{i:Nat}{ix:kn Nat}{x:PV}[h:Xe τ i (.val x)][h2:pZ ix τ r] :pZ (i::ix) τ (some (.val x)::r):=⟨by rw[AAM,h.e,h2.e];rfl⟩
class pz (n:Nat) (τ:outParam A6):Prop where
 e:List.replicate n none=τ
instance:pz 0 [] :=⟨rfl⟩
instance{n:Nat}{τ:A6}[h:pz n τ] :pz (n+1) (none::τ):=⟨by rw[ACY,h.e]⟩
class ci (xs ys:A6) (zs:outParam A6):Prop where
 e:xs++ys=zs
instance{a:A6}:ci [] a a:=⟨rfl⟩
instance{x:ki AV}{xs a b:A6}[h:ci xs a b] :ci (x::xs) a (x::b):=⟨by rw[ADG,h.e]⟩
class cj (xs ys:List PV) (zs:outParam (List PV)):Prop where
 e:xs++ys=zs
instance{a:kn PV}:cj [] a a:=⟨rfl⟩
instance{x:PV}{xs a b:kn PV}[h:cj xs a b] :cj (x::xs) a (x::b):=⟨by rw[ADG,h.e]⟩
class c4 (xs:List PV) (n:outParam Nat):Prop where
 e:xs.length=n
instance:c4 [] 0:=⟨rfl⟩
instance{x:PV}{xs:kn PV}{n:Nat}[h:c4 xs n] :c4 (x::xs) (n+1):=⟨by rw[AAp,h.e]⟩
class Ix (x:PV) (i:Int) (y:outParam PV):Prop where
 e:v6 x i=some y
section
variable {a b:AS}{ta tb:AE}{tt tu:AT}{g:AG}{gs:UH}{nx bk ct:A6->Prop}{rt:PV->Prop}{τ τ' τ2:A6}{Q:PV->Prop}{QB:ke->Prop}{QL:kn PV->Prop}{QT:A6->Prop}{r:AA}{ai:AI}{F:AF}{n i j:Nat}{x y z:PV}{xs ys zs:kn PV}
instance{c:PV}{q:kn PV}:Ix (.tup (c::q)) 0 c:=⟨DO (j:=0) rfl⟩
instance{c:PV}{q:kn PV}:Ix (.lst (c::q)) 0 c:=⟨DO (j:=0) rfl⟩
instance{d c:PV}{q:kn PV}:Ix (.tup (d::c::q)) 1 c:=⟨DO (j:=1) rfl⟩
instance{d c:PV}{q:kn PV}:Ix (.lst (d::c::q)) 1 c:=⟨DO (j:=1) rfl⟩
instance{d e c:PV}{q:kn PV}:Ix (.tup (d::e::c::q)) 2 c:=⟨DO (j:=2) rfl⟩
instance{d e c:PV}{q:kn PV}:Ix (.lst (d::e::c::q)) 2 c:=⟨DO (j:=2) rfl⟩
instance{q:Rat}:Ix (fr q) 0 (.int q.num):=⟨rfl⟩
instance{q:Rat}:Ix (fr q) 1 (.int q.den):=⟨rfl⟩
instance{c:C4}:Ix (cor c) 0 (fr c.1):=⟨rfl⟩
instance{c:C4}:Ix (corL c) 0 (fr c.1):=⟨rfl⟩
instance{c:C4}:Ix (cor c) 1 (fr c.2.1):=⟨rfl⟩
instance{c:C4}:Ix (cor c) 2 (fr c.2.2.1):=⟨rfl⟩
instance{c:C4}:Ix (cor c) 3 (fr c.2.2.2):=⟨rfl⟩
instance:Wp (Aa a b ⟨nx,rt,bk,ct⟩ τ) (a ⟨b ⟨nx,rt,bk,ct⟩,rt,bk,ct⟩ τ):=⟨id⟩
instance:Wp (Ao ta g ⟨nx,rt,bk,ct⟩ τ) (ta τ λx=>g x τ nx):=⟨id⟩
instance[h:Yu τ τ'] :Wp (Au ta ⟨nx,rt,bk,ct⟩ τ) (ta τ' rt):=⟨λk=>by unfold Au;rw[h.e];exact k⟩
instance:Wp (BF ⟨nx,rt,bk,ct⟩ τ) (nx τ):=⟨id⟩
instance:Wp (B9 tt a b ⟨nx,rt,bk,ct⟩ τ) (tt τ λk=>if k=true then a ⟨nx,rt,bk,ct⟩ τ else b ⟨nx,rt,bk,ct⟩ τ):=⟨id⟩
def Tt (τ:A6)(i:Nat)(v:AV)(QT:A6->Prop):Prop:=QT (τ.set i (some v))
instance{v:AV}[h:QM τ i v τ'] :Wp (Tt τ i v QT) (QT τ'):=⟨λk=>by unfold Tt;rw[h.e];exact k⟩
instance:Wp (Fo r i ⟨nx,rt,bk,ct⟩ τ) (r τ λxs=>Tt τ i (.own xs) nx):=⟨id⟩
instance[h:QM τ i (.val x) τ'] :Wp (Aq i x τ QT) (QT τ'):=⟨λk=>by unfold Aq;rw[h.e];exact k⟩
instance{f:G6}[h:Xe τ i (.val x)] :Wp (UY i f ta ⟨nx,rt,bk,ct⟩ τ) (ta τ λy=>f x y λz=>Tt τ i (.val z) nx):=⟨λk=>oT h.e k⟩
instance[h:Xe τ i (.own xs)] :Wp (HG i τ QL) (QL xs):=⟨λk=>og h.e k⟩
instance{f:lM}:Wp (FV i f r ⟨nx,rt,bk,ct⟩ τ) (HG i τ λxs=>r τ λys=>f xs ys λzs=>Tt τ i (.own zs) nx):=⟨id⟩
instance:Wp (Jw xs [y] QL) (xs.length<sizeLine/\QL (xs ++ [y])):=⟨id⟩
instance:Wp (GE ai g b ⟨nx,rt,bk,ct⟩ τ) (ai τ λxs=>Cv g b ⟨nx,rt,bk,ct⟩ xs τ):=⟨id⟩
instance:Wp (Cv g b ⟨nx,rt,bk,ct⟩ [] τ) (nx τ):=⟨id⟩
instance{q:kn PV}:vT (Cv g b ⟨nx,rt,bk,ct⟩ (x::q) τ) (g x τ λc=>b ⟨Cv g b ⟨nx,rt,bk,ct⟩ q,rt,nx,Cv g b ⟨nx,rt,bk,ct⟩ q⟩ c):=⟨id⟩
instance:Wp (Bb [] τ QT) (QT τ):=⟨id⟩
instance{t:kn PV}:Wp (Ad g gs (x::t) τ QT) (g x τ λτ'=>gs t τ' QT):=⟨id⟩
instance:Wp (Hl n gs x τ QT) (Q8 x λxs=>xs.length=n/\gs xs τ QT):=⟨id⟩
instance[h:Xe τ i (.val x)] :Wp (aV i τ Q) (Q x):=⟨λk=>wG h.e k⟩
instance:Wp (aC x τ Q) (Q x):=⟨id⟩
instance{f:G6}:Wp (AX f ta tb τ Q) (ta τ λx=>tb τ λy=>f x y Q):=⟨id⟩
instance{f:PV->(PV->Prop)->Prop}:Wp (V4 f ta τ Q) (ta τ λx=>f x Q):=⟨id⟩
instance:Wp (LH ta tb τ Q) (ta τ λx=>Y0 x λc=>if c=true then tb τ Q else Q (.bl false)):=⟨id⟩
instance:Wp (qE ta tb τ Q) (ta τ λx=>Y0 x λc=>if c=true then Q (.bl true) else tb τ Q):=⟨id⟩
instance:Wp (BA ta τ QB) (ta τ λx=>Y0 x QB):=⟨id⟩
instance:Wp (EE tt τ QB) (tt τ λc=>QB (!c)):=⟨id⟩
instance:Wp (V2 tt tu τ QB) (tt τ λc=>if c=true then tu τ QB else QB false):=⟨id⟩
instance:Wp (ON tt tu τ QB) (tt τ λc=>if c=true then QB true else tu τ QB):=⟨id⟩
instance:Wp (lP tt ta tb τ Q) (tt τ λc=>if c=true then ta τ Q else tb τ Q):=⟨id⟩
instance:Wp (FC τ QB) (QB true):=⟨id⟩
instance[h:Yu τ τ'] :Wp (c6 ta τ Q) (ta τ' λx=>Rs x=true/\Q x):=⟨λk=>by unfold c6;rw[h.e];exact k⟩
instance:Wp (AK τ QL) (QL []):=⟨id⟩
instance:Wp (AB ta r τ QL) (ta τ λx=>r τ λxs=>QL (x::xs)):=⟨id⟩
def YM (xs:kn PV)(Q:PV->Prop):Prop:=xs.length<=sizeLine/\Q (.tup xs)
instance:Wp (Ab r τ Q) (r τ λxs=>YM xs Q):=⟨id⟩
instance:Wp (C3 r τ QL) (r τ λxs=>xs.length<=sizeLine/\QL xs):=⟨id⟩
instance:Wp (FB r τ Q) (r τ λxs=>Q (.lst xs)):=⟨id⟩
instance:Wp (AR n F r τ Q) (r τ λxs=>xs.length=n/\F xs Q):=⟨id⟩
instance:Wp (Fn F r τ Q) (r τ λxs=>F xs Q):=⟨id⟩
instance:Wp (ZM r τ QL) (r τ λxs=>WQ xs QL):=⟨id⟩
instance{own:Nat}{ix:kn Nat}{f:AE}{c d:A6}[h1:pz own c][h2:pZ ix τ d][h3:ci c d τ'] :Wp (CH ai own ix g tt f τ QL) (ai τ λxs=>xs.length<sizeLine/\DF g tt f τ' QL xs []):=⟨λk=>by unfold CH OP;rw[h1.e,h2.e,h3.e];exact k⟩
instance{d:AE}{c:kn PV}:Wp (DF g tt d τ QL [] c) (QL c):=⟨id⟩
instance{e:AE}{c q:kn PV}:Wp (DF g tt e τ QL (x::q) c) (g x τ λd=>tt d λok=>if ok=true then e d λy=>DF g tt e τ QL q (c ++ [y]) else DF g tt e τ QL q c):=⟨id⟩
instance:Wp (N1 ta τ QL) (ta τ λx=>Q8 x QL):=⟨id⟩
instance:Wp (QP (AB ta AK) τ QL) (ta τ λx=>Ru x λj=>(-(2^62)<=j/\j<2^62)/\QL (rng 0 j.toNat)):=⟨λh=>by have e:(λx=>Ru x λj=>(-(2^62)<=j/\j<2^62)/\QL (rng 0 j.toNat))=(λx=>match [x] with | [.int j] =>(-(2^62)<=j/\j<2^62)/\QL (rng 0 j.toNat)|_=>False):=(funext λx=>by cases x <;> rfl);rw[e] at h;exact h⟩
instance:Wp (iL (AB ta (AB tb AK)) τ QL) (ta τ λx=>tb τ λy=>YU x y λi j=>(-(2^62)<=i/\i<2^62/\ -(2^62)<=j/\j<2^62)/\QL (rng i (j-i).toNat)):=⟨λh=>by have e:(λx=>tb τ λy=>YU x y λi j=>(-(2^62)<=i/\i<2^62/\ -(2^62)<=j/\j<2^62)/\QL (rng i (j-i).toNat))=(λx=>tb τ λy=>match [x,y] with | [.int i, .int j] =>(-(2^62)<=i/\i<2^62/\ -(2^62)<=j/\j<2^62)/\QL (rng i (j-i).toNat)|_=>False):=(funext λx=>congrArg (tb τ) (funext λy=>by cases x <;> cases y <;> rfl));rw[e] at h;exact h⟩
instance:Wp (lQ (AB ta (AB tb AK)) τ QL) (ta τ λx=>tb τ λy=>Q8 x λxs=>Q8 y λys=>QL (G3 xs ys)):=⟨id⟩
instance{R:Int->Prop}{k:Int}:Wp (Ru (.int k) R) (R k):=⟨id⟩
instance{R:Int->Int->Prop}{k l:Int}:Wp (YU (.int k) (.int l) R) (R k l):=⟨id⟩
instance{R:ke->Prop}{c:ke}:Wp (Y0 (.bl c) R) (R c):=⟨id⟩
instance:Wp (Q8 (.tup xs) QL) (QL xs):=⟨id⟩
instance:Wp (Q8 (.lst xs) QL) (QL xs):=⟨id⟩
instance{q:Rat}:Wp (Q8 (fr q) QL) (QL [.int q.num, .int q.den]):=⟨id⟩
instance{cs:kn C4}:Wp (Q8 (D3 cs) QL) (QL (cs.map cor)):=⟨id⟩
instance{f:Int->Int->PV}{k l:Int}:Wp (fI f (.int k) (.int l) Q) (Q (f k l)):=⟨id⟩
instance{C:Int->Int->Prop}{f:Int->Int->PV}{k l:Int}:Wp (mU C f (.int k) (.int l) Q) (C k l/\Q (f k l)):=⟨id⟩
instance:Wp (X0 .non .non Q) (Q (.bl true)):=⟨id⟩
instance:Wp (Mp .non .non Q) (Q (.bl false)):=⟨id⟩
instance:Wp (Mp (.tup xs) .non Q) (Q (.bl true)):=⟨id⟩
instance{k:Int}[h:Ix x k z] :Wp (An x (.int k) Q) (Q z):=⟨λq=>oZ h.e q⟩
instance{k:Int}:Wp (LJ (.int k) Q) (Q (.int (-k))):=⟨id⟩
instance w_not {c:ke}:Wp (iW (.bl c) Q) (Q (.bl (!c))):=⟨id⟩
instance{k l:Int}:Wp (BW (.int k) (.int l) Q) (Q (.int (k+l))):=⟨id⟩
instance:Wp (BW (.tup xs) (.tup ys) Q) (xs.length+ys.length<=sizeLine/\Q (.tup (xs++ys))):=⟨id⟩
instance:Wp (BW (.lst xs) (.lst ys) Q) (xs.length+ys.length<=sizeLine/\Q (.lst (xs++ys))):=⟨id⟩
instance{k l:Int}:Wp (Mo (.int k) (.int l) Q) (Q (.bl (decide (k=l)))):=⟨id⟩
instance{k l:Int}:Wp (gL (.int k) (.int l) Q) (Q (.bl (!decide (k=l)))):=⟨id⟩
instance{k l:Str}:Wp (Mo (.str k) (.str l) Q) (Q (.bl (decide (k=l)))):=⟨id⟩
instance:Wp (Fq [.tup xs] Q) (Q (.int xs.length)):=⟨id⟩
instance:Wp (Fq [.lst xs] Q) (Q (.int xs.length)):=⟨id⟩
instance{ns:kn Int}:Wp (Fq [.scr ns] Q) (Q (.int ns.length)):=⟨id⟩
instance{cs:kn C4}:Wp (Fq [D3 cs] Q) (Q (.int cs.length)):=⟨kD⟩
instance (priority:=high){c:Type}{f:c->PV}{cs:kn c}:Wp (Fq [.tup (cs.map f)] Q) (Q (.int cs.length)):=⟨λh=>by show Q (.int (cs.map f).length);rw[AAO];exact h⟩
instance (priority:=high){c:Type}{f:c->PV}{cs:kn c}:Wp (Fq [.lst (cs.map f)] Q) (Q (.int cs.length)):=⟨λh=>by show Q (.int (cs.map f).length);rw[AAO];exact h⟩
instance{k:Int}:Wp (Sm [.int k] Q) (Q (.int k.natAbs)):=⟨id⟩
instance{f:Int->Int->Int}{k l:Int}:Wp (ic f [.int k, .int l] Q) (Q (.int (f k l))):=⟨id⟩
instance:Wp (EZ [.lst xs] Q) (Q (.tup xs)):=⟨id⟩
instance:Wp (WQ [.tup xs] QL) (QL xs):=⟨id⟩
instance{lo hi:ki Int}:Wp (Zd (.tup xs) lo hi Q) (Q (.tup (FD xs lo hi))):=⟨Rg⟩
instance{l h:AO}:Wp (cU ta l h τ Q) (ta τ λx=>l τ λlo=>h τ λhi=>Zd x lo hi Q):=⟨id⟩
instance{R:ki Int->Prop}:Wp (cV τ R) (R none):=⟨id⟩
instance{R:ki Int->Prop}:Wp (cW ta τ R) (ta τ λx=>Ru x λi=>R (some i)):=⟨id⟩
instance{A B:Prop}:Wp (if true=true then A else B) (A):=⟨λh=>by rw[AAG rfl];exact h⟩
instance{A B:Prop}:Wp (if false=true then A else B) (B):=⟨λh=>by rw[AAF AAU];exact h⟩
instance{A B:Prop}:Wp (if (!true)=true then A else B) (B):=⟨λh=>h⟩
instance{A B:Prop}:Wp (if (!false)=true then A else B) (A):=⟨λh=>h⟩
instance{p A B:Prop}[Decidable p] :rJ (if decide p=true then A else B) (p->A) (¬p->B):=⟨oW⟩
instance{p A B:Prop}[Decidable p] :rJ (if (!decide p)=true then A else B) (¬p->A) (p->B):=⟨oX⟩
instance{A:Prop}:Wp (([] :kn PV).length<=sizeLine/\A) (A):=⟨λh=>⟨lz,h⟩⟩
instance{A:Prop}:Wp (([] :kn PV).length<sizeLine/\A) (A):=⟨λh=>⟨lz,h⟩⟩
instance{c:PV}{A:Prop}:Wp ([c].length=1/\A) (A):=⟨λh=>⟨rfl,h⟩⟩
instance{c:PV}{A:Prop}:Wp ([c].length<=sizeLine/\A) (A):=⟨λh=>⟨lz,h⟩⟩
instance{c d:PV}{A:Prop}:Wp ([c,d].length=2/\A) (A):=⟨λh=>⟨rfl,h⟩⟩
instance{c d e:PV}{A:Prop}:Wp ([c,d,e].length=3/\A) (A):=⟨λh=>⟨rfl,h⟩⟩
instance{c d e:PV}{A:Prop}:Wp ([c,d,e].length<=sizeLine/\A) (A):=⟨λh=>⟨lz,h⟩⟩
instance{c d e:PV}{A:Prop}:Wp ([c,d,e].length<sizeLine/\A) (A):=⟨λh=>⟨lz,h⟩⟩
instance{c d e f:PV}{A:Prop}:Wp ([c,d,e,f].length=4/\A) (A):=⟨λh=>⟨rfl,h⟩⟩
instance{c d e f k:PV}{A:Prop}:Wp ([c,d,e,f,k].length<=sizeLine/\A) (A):=⟨λh=>⟨lz,h⟩⟩
instance{c d e f k l:PV}{A:Prop}:Wp ([c,d,e,f,k,l].length<=sizeLine/\A) (A):=⟨λh=>⟨lz,h⟩⟩
instance{c d e f k l m o p s:PV}{A:Prop}:Wp ([c,d,e,f,k,l,m,o,p,s].length<=sizeLine/\A) (A):=⟨λh=>⟨lz,h⟩⟩
instance{d e f k l m o p s t c:PV}{A:Prop}:Wp ([d,e,f,k,l,m,o,p,s,t,c].length<=sizeLine/\A) (A):=⟨λh=>⟨lz,h⟩⟩
instance:Wp (YM [] Q) (Q (.tup [])):=⟨λh=>⟨lz,h⟩⟩
instance{c:PV}:Wp (YM [c] Q) (Q (.tup [c])):=⟨λh=>⟨lz,h⟩⟩
instance{c d:PV}:Wp (YM [c,d] Q) (Q (.tup [c,d])):=⟨λh=>⟨lz,h⟩⟩
instance{c d e:PV}:Wp (YM [c,d,e] Q) (Q (.tup [c,d,e])):=⟨λh=>⟨lz,h⟩⟩
instance{c d e f:PV}:Wp (YM [c,d,e,f] Q) (Q (.tup [c,d,e,f])):=⟨λh=>⟨lz,h⟩⟩
instance{c d e f k l:PV}:Wp (YM [c,d,e,f,k,l] Q) (Q (.tup [c,d,e,f,k,l])):=⟨λh=>⟨lz,h⟩⟩
instance (priority:=high+10):Wp (YM [.int 0, .int 1] Q) (Q (fr 0)):=⟨λh=>⟨lz,h⟩⟩
instance (priority:=high+10):Wp (YM [.int 1, .int 1] Q) (Q (fr 1)):=⟨λh=>⟨lz,h⟩⟩
instance (priority:=high){k:Int}:Wp (YM [.int k, .int 1] Q) (Q (fr (k:Rat))):=⟨λh=>⟨lz,Rm h⟩⟩
instance (priority:=high){k:Rat}{p q r:Rat}:Wp (BW (.tup [fr k]) (.tup [fr p,fr q,fr r]) Q) (Q (cor (k,p,q,r))):=⟨λh=>⟨lz,h⟩⟩
def iY:PV.tup [.int 1, .int 2] =fr (1/2):=by unfold fr;rw[show ((1:Rat)/2).num=1 by decide +kernel,show ((1:Rat)/2).den=2 by decide +kernel];rfl
instance (priority:=high):Wp (YM [.int 1, .int 2] Q) (Q (fr (1/2))):=⟨λh=>⟨lz,by rw[iY];exact h⟩⟩
def iZ:PV.tup [.int 1, .int 3] =fr (1/3):=by unfold fr;rw[show ((1:Rat)/3).num=1 by decide +kernel,show ((1:Rat)/3).den=3 by decide +kernel];rfl
instance (priority:=high):Wp (YM [.int 1, .int 3] Q) (Q (fr (1/3))):=⟨λh=>⟨lz,by rw[iZ];exact h⟩⟩
def ia:PV.tup [.int 3, .int 2] =fr (3/2):=by unfold fr;rw[show ((3:Rat)/2).num=3 by decide +kernel,show ((3:Rat)/2).den=2 by decide +kernel];rfl
instance (priority:=high):Wp (YM [.int 3, .int 2] Q) (Q (fr (3/2))):=⟨λh=>⟨lz,by rw[ia];exact h⟩⟩
class Zp (xs ys:List PV) (zs:outParam (List PV)):Prop where
 e:G3 xs ys=zs
instance:Zp [] [] [] :=⟨rfl⟩
instance[h:Zp xs ys zs] :Zp (x::xs) (y::ys) (.tup [x,y] :: zs):=⟨by rw[<-h.e];rfl⟩
instance[h:Zp xs ys zs] :Wp (Cv g b ⟨nx,rt,bk,ct⟩ (G3 xs ys) τ) (Cv g b ⟨nx,rt,bk,ct⟩ zs τ):=⟨λk=>by rw[h.e];exact k⟩
instance{d:AE}{c:kn PV}[h:Zp xs ys zs] :Wp (DF g tt d τ QL (G3 xs ys) c) (DF g tt d τ QL zs c):=⟨λk=>by rw[h.e];exact k⟩
instance{A:Prop}[h:Zp xs ys zs] :Wp ((G3 xs ys).length<sizeLine/\A) (zs.length<sizeLine/\A):=⟨λk=>by rw[h.e];exact k⟩
instance (priority:=high){d:AE}{c q zs:kn PV}[h:cj c [y] zs] :Wp (DF g tt d τ QL q (c ++ [y])) (DF g tt d τ QL q zs):=⟨λk=>by rw[h.e];exact k⟩
instance{m:Int}:ZJ (BB [.tape, .int m] Q) (0<m/\m<4611686018427387904) (∀r,0<=r->r<m->Q (.int r)):=⟨λc h=>Ch c.1 c.2 h⟩
instance{ns:kn Int}{k:Int}:ZJ (MZ [.scr ns, .int k] Q) (0<=k/\k<=1000) (Q .tape):=⟨λc h=>⟨c,h⟩⟩
instance{a b:Rat}:ZJ (E8 [fr a,fr b] Q) (Bd 4000 a/\Bd 4000 b) (Q (fr (a+b))):=⟨λc h=>Xd c.1 c.2 h⟩
instance{a b:Rat}:ZJ (EF [fr a,fr b] Q) (Bd 4000 a/\Bd 4000 b) (Q (fr (a-b))):=⟨λc h=>UR c.1 c.2 h⟩
instance{a b:Rat}:ZJ (Ic [fr a,fr b] Q) (Bd 4000 a/\Bd 4000 b) (Q (fr (a*b))):=⟨λc h=>US c.1 c.2 h⟩
instance{a b:Rat}:ZJ (C2 [fr a,fr b] Q) (Bd 4000 a/\Bd 4000 b) (Q (fr (a+b))):=⟨λc h=>HV c.1 c.2 h⟩
instance{a b:Rat}:ZJ (Hg [fr a,fr b] Q) (b≠0/\Bd 4000 a/\Bd 4000 b) (Q (fr (a/b))):=⟨λc h=>Xc c.1 c.2.1 c.2.2 h⟩
instance{lo:Int}{A:Prop}:Wp ((rng lo n).length<sizeLine/\A) (n<16777216/\A):=⟨λk=>⟨by rw[VQ];exact k.1,k.2⟩⟩
instance{c:Type}{f:c->PV}{cs:kn c}{A:Prop}:Wp ((cs.map f).length<sizeLine/\A) (cs.length<16777216/\A):=⟨λk=>⟨by rw[AAO];exact k.1,k.2⟩⟩
instance (priority:=high){c:Type}{k:c}[Decidable (k=k)]{A B:Prop}:Wp (if decide (k=k)=true then A else B) A:=⟨λh=>by rw[AAG (AAP rfl)];exact h⟩
instance (priority:=high){c:Type}{k:c}[Decidable (k=k)]{A B:Prop}:Wp (if (!decide (k=k))=true then A else B) B:=⟨λh=>by rw[AAF (by simp)];exact h⟩
def nP {d:Type}{f:d->PV}{cs:kn d}{k:Int}{R:PV->Prop}(c:0<=k/\k<cs.length)(h:∀c,cs[k.toNat]? =some c->c∈cs->R (f c)):jV (Me (cs.map f) k) R:=by
 have hk:k.toNat<cs.length:=by omega
 have e:Me (cs.map f) ((k.toNat:Nat):Int)=some (f cs[k.toNat]):=DO (by rw[AAr,AAS hk] <;> rfl);rw[show k=((k.toNat:Nat):Int) by omega,e];exact h _ (AAS hk) (AA2 hk)
instance{d:Type}{f:d->PV}{cs:kn d}{k:Int}:ZJ (An (.tup (cs.map f)) (.int k) Q) (0<=k/\k<cs.length) (∀c,cs[k.toNat]? =some c->c∈cs->Q (f c)):=⟨λc h=>nP c h⟩
instance{c:C4}:Wp (Zd (cor c) (some 1) none Q) (Q (.tup [fr c.2.1,fr c.2.2.1,fr c.2.2.2])):=⟨λh=>Rg h⟩
class Ev (ta:AE) (τ:A6) (x:outParam PV):Prop where
 go:∀{Q:PV->Prop},Q x->ta τ Q
instance[h:Xe τ i (.val x)] :Ev (aV i) τ x:=⟨λk=>wG h.e k⟩
instance:Ev (aC x) τ x:=⟨id⟩
instance{k:Int}[h1:Ev ta τ x][h2:Ev tb τ (.int k)][h3:Ix x k z] :Ev (AX An ta tb) τ z:=⟨λq=>h1.go (h2.go (oZ h3.e q))⟩
class l8 (r:AA) (τ:A6) (xs:outParam (List PV)):Prop where
 go:∀{Q:List PV->Prop},Q xs->r τ Q
instance:l8 AK τ [] :=⟨id⟩
instance[h:Ev ta τ x][h2:l8 r τ xs] :l8 (AB ta r) τ (x::xs):=⟨λq=>h.go (h2.go q)⟩
instance (priority:=high)[h:l8 r τ xs][h2:c4 xs n] :Wp (AR n F r τ Q) (F xs Q):=⟨λq=>h.go ⟨h2.e,q⟩⟩
instance (priority:=high)[h:l8 r τ xs] :Wp (Fn F r τ Q) (F xs Q):=⟨λq=>h.go q⟩
instance (priority:=high){f:G6}[h:Ev ta τ x][h2:Ev tb τ y] :Wp (AX f ta tb τ Q) (f x y Q):=⟨λq=>h.go (h2.go q)⟩
instance (priority:=high):Wp (Aa (Ao ta (Aq i)) b ⟨nx,rt,bk,ct⟩ τ) (ta τ λx=>Aq i x τ (b ⟨nx,rt,bk,ct⟩)):=⟨id⟩
instance (priority:=high):Wp (B9 (BA ta) a b ⟨nx,rt,bk,ct⟩ τ) (ta τ λx=>Y0 x λk=>if k=true then a ⟨nx,rt,bk,ct⟩ τ else b ⟨nx,rt,bk,ct⟩ τ):=⟨id⟩
end
end PL
namespace L2
open PySem PySem.Spec PyProof.Rows
abbrev y1 (b:ke)(h:gn)(l:kj):gn:=h.push (U0 b l)
abbrev y2 (b c:ke)(h:gn)(l m:kj):gn:=(y1 b h l).push (U0 c m)
abbrev y3 (b c d:ke)(h:gn)(l m n:kj):gn:=(y2 b c h l m).push (U0 d n)
abbrev y4 (b c d:ke)(h:gn)(l m n:kj):gn:=(y3 b c d h l m n).push {cls:= .type "tuple",data:= .seq #[.ref h.objs.size, .ref (y1 b h l).objs.size, .ref (y2 b c h l m).objs.size] }
abbrev y5 (b c d:ke)(h:gn)(l m n:kj):gn:=(y4 b c d h l m n).push {cls:= .type "tuple",data:= .seq #[.none, .none, .none] }
end L2
namespace L2
open PySem PySem.Spec PyProof.Rows
def pU {T:String}(h:HW T):typeOf (.type T)=pure (.type "type"):=by rcases h with rfl|rfl|rfl|rfl <;> rfl
def qV:Kd->String
 | .int=>"int" | .bl=>"bool" | .non=>"NoneType" | .str=>"str" | .lst=>"list" | .tup=>"tuple"
section
variable {X:Cx}
def de {K:AAD}{d:kn (kj×Obj)}{s:kl}{f:St}{H:Hp}{x:V}{u:km}{k:Kd}(I:Inv X d f H s)(r:RelV x u)(h:mD X.K x H k):s.TypeIs u (qV k):=by
 cases k with
 | int=>obtain⟨i,rfl⟩:=h;obtain⟨t,rfl⟩:=r;exact rfl
 | bl=>obtain⟨i,rfl⟩:=h;cases r;exact rfl
 | non=>have e:x= .non:=h;subst e;cases r;exact rfl
 | str=>obtain⟨i,rfl⟩:=h;obtain⟨t,rfl⟩:=r;exact rfl
 | lst=> obtain⟨a,g,rfl,b⟩:=h;cases r;obtain⟨its,j,l,m⟩:=I.list b;obtain⟨o,e,c,_⟩:=l.isList;exact⟨o,e,c⟩
 | tup=> obtain⟨a,g,rfl,b⟩:=h;cases r;obtain⟨its,j,⟨o,e,c,_⟩,m⟩:=I.tuple b;exact⟨o,e,c⟩
def iM {H:Hp}{x:V}{u:km}{k:Kd}{T:String}(r:RelV x u)(h:mD X.K x H k)(c:HW T):Answers (λs=>s.TypeIs u (qV k)) u (.type T) (HI k T):=by
 have b:=pU c;cases k with
 | int=>
   obtain⟨i,rfl⟩:=h;obtain⟨t,rfl⟩:=r;rcases c with rfl|rfl|rfl|rfl
   .exact .of_true b (by rw[ABC];kernel_rfl)
   all_goals exact .of_false_int (by rfl) b (by rw[ABC];kernel_rfl)
 | bl=>
   obtain⟨i,rfl⟩:=h;cases r;rcases c with rfl|rfl|rfl|rfl
   .exact .of_true b (by rw[ABC];kernel_rfl)
   .exact .of_true b (by rw[ABC];kernel_rfl)
   all_goals exact .of_false_bool (by rfl) b (by rw[ABC];kernel_rfl)
 | non=> have e:x= .non:=h;subst e;cases r;rcases c with rfl|rfl|rfl|rfl;all_goals exact .of_false_none (by rfl) b (by rw[ABC];kernel_rfl)
 | str=> obtain⟨i,rfl⟩:=h;obtain⟨t,rfl⟩:=r;rcases c with rfl|rfl|rfl|rfl;all_goals exact .of_false_str (by rfl) b (by rw[ABC];kernel_rfl)
 | lst=>
   obtain⟨a,d,rfl,f⟩:=h;cases r;rcases c with rfl|rfl|rfl|rfl
   case inr.inr.inr=>exact .of_true b (by rw[ABC];kernel_rfl)
   all_goals exact .of_false_list (by rfl) b (by rw[ABC];kernel_rfl)
 | tup=>
   obtain⟨a,d,rfl,f⟩:=h;cases r;rcases c with rfl|rfl|rfl|rfl
   case inr.inr.inl=>exact .of_true b (by rw[ABC];kernel_rfl)
   all_goals exact .of_false_tuple (by rfl) b (by rw[ABC];kernel_rfl)
theorem V6 {H:Hp}{x:V}{u:km}{k:Kd}(r:RelV x u)(h:mD X.K x H k):∀{a:kn String},(∀T∈a,HW T)->AnswersAll (λs=>s.TypeIs u (qV k)) u (a.map Value.type) (a.map (HI k))
 | [],_=>True.intro
 | T::a,hT=>⟨iM r h (hT T (by simp)),V6 r h λT h=>hT T (by simp[h])⟩
def pI (K:AAD)(b:TE)(a:kn String):TE:=λc H Q=>b c H λx H1=>∀q,H1 q=none->∃k,mD K x H1 k/\Q (.bl (a.any (HI k))) (upd H1 q (.tup (a.map V.ty)))
def pO (a:kn String):TA:=λ_ H Q=>Q (a.map V.ty) H
theorem T8:∀{a:kn String} {b:kn km},Ap (a.map V.ty) b->b=a.map Value.type
 | [],_,h=>by cases h;rfl
 | T::a,_,h=>by
   rw[AAM] at h;cases h with
   | cons h t=>cases h;rw[T8 t,AAM]
def eO {x:Str}{p f pos:Pos}{e:kf}{es:kn kf}{x1:Nat}{l:TE}{d:kn String}(B:Gl X x)(C:X.mg x=none)(hv:bootBuiltins x=some (.builtin "isinstance"))(ha:PE X e l)(D:PA X es (pO d))(E:∀T∈d,HW T)(hl:d.length<=sizeLine)(F:x≠"__name__" :=by decide)(hdb:(x==("__debug__" :Str))=false:=by decide)(he:starEach (e :: [.Tuple es x1 f]) X.env=(false,eval e X.env)::starEach [.Tuple es x1 f] X.env:=by rfl)(hpl:(backTo pos (starEach [.Tuple es x1 f] X.env)).any (·.1)=false:=by rfl)(G:starEach [.Tuple es x1 f] X.env=(false,eval (.Tuple es x1 f) X.env)::starEach [] X.env:=by rfl):PE X (.Call (.Name x p) [e, .Tuple es x1 f] [] pos) (pI X.K l d):=by
 intro m s n H Q I h;refine ACG (FE I B C hv ?_ F hdb);refine AED ?_ he hpl;rw[he];show wpAny _ _ (spliced ((false,eval e X.env)::backTo pos (starEach [.Tuple es x1 f] X.env))) _ _ s;refine ACE (BO (ha m s n H _ I h) λu r ⟨v,H1,J,t,L⟩=> ?_);rw[G];show wpAny _ _ (spliced ((false,eval (.Tuple es x1 f) X.env)::backTo pos (starEach [] X.env))) _ _ r;refine ACE (wpAny_Tuple_spliced (BO (D f m r n H1 (λvs M=>vs=d.map V.ty/\M=H1) J ⟨rfl,rfl⟩) λi g ⟨vs,N,j,y,O,P⟩=> ?_));subst O P;have R:N g.heap.objs.size=none:=j.hok.fresh (AAL _);obtain⟨k,hk,S⟩:=L _ R;have z:=T8 y;have U:i.length<=sizeLine:=by rw[z,AAO];exact hl
 have W:=j.laid (t':=g.toks) (a:=g.heap.objs.size) (o:= .tup (d.map V.ty)) (h':=g.heap.push {cls:= .type "tuple",data:= .seq i.toArray}) (λb u e=>AAI _ e) (AAL _) (show B2 X.prog X.w _ _ _ (.tup (d.map V.ty)) from⟨by rw[AAO];exact hl,i,y,⟨_,AAR _ rfl,rfl,_,rfl⟩⟩);have Y:Shared.TypeIs {g with heap:=g.heap.push {cls:= .type "tuple",data:= .seq i.toArray}} u (qV k):=by
  have A:=de (K:=X.K) j t hk;cases u with
  | ref a=>obtain⟨o,e,c⟩:=A;exact⟨o,AAI _ e,c⟩
  | _=>exact A
 refine⟨U,ACy ?_⟩;refine IsiPair.tupleOfB (cs:=d.map Value.type) (vs:=d.map (HI k)) (b:=d.any (HI k)) (V6 t hk E) Y ?_ ?_ λZ=>⟨.bl _,_,W.tok _,rfl,S⟩
 .rw [<-z];exact AAR _ rfl
 .rw [List.any_map];rfl
end
end L2
namespace PL
open PySem PySem.Spec PyProof.Rows L2
section
variable {X:Cx}
def O3 (a:AE)(b:kn String):AE:=λτ Q=>a τ λx=>match kdOf x with | some k=>Q (.bl (b.any (HI k)))|none=>False
def fH {x:Str}{p c pos:Pos}{e:kf}{es:kn kf}{x1:Nat}{l:AE}(d:kn String)(n:Gl X x)(o:X.mg x=none)(hv:bootBuiltins x=some (.builtin "isinstance"))(ha:SE X e l)(r:PA X es (pO d))(u:∀T∈d,HW T)(hl:d.length<=sizeLine)(w:x≠"__name__" :=by decide)(hdb:(x==("__debug__" :Str))=false:=by decide)(he:starEach (e :: [.Tuple es x1 c]) X.env=(false,eval e X.env)::starEach [.Tuple es x1 c] X.env:=by rfl)(hpl:(backTo pos (starEach [.Tuple es x1 c] X.env)).any (·.1)=false:=by rfl)(y:starEach [.Tuple es x1 c] X.env=(false,eval (.Tuple es x1 c) X.env)::starEach [] X.env:=by rfl):SE X (.Call (.Name x p) [e, .Tuple es x1 c] [] pos) (O3 l d):=by
 obtain⟨t,z,s⟩:=ha;refine⟨_,eO n o hv z r u hl w hdb he hpl y,λB T A τ H Q C m h k=> ?_⟩;refine s B T A τ H _ _ m h λv x T1 H1 f D h1=> ?_;intro q E;have g:=m.stp f;have i:Ct T1 H1 T1 (upd H1 q (.tup (d.map V.ty))):=Ct.lay g.tp E;have a:∀b,C (.bl b)->Q (.bl b) (upd H1 q (.tup (d.map V.ty))):=λb hb=>k _ _ T1 _ (f.trans i) (.bl _) hb;cases D with
 | non=>exact⟨.non,rfl,a _ h1⟩
 | bl b=>exact⟨.bl,⟨_,rfl⟩,a _ h1⟩
 | int b=>exact⟨.int,⟨_,rfl⟩,a _ h1⟩
 | str b=>exact⟨.str,⟨_,rfl⟩,a _ h1⟩
 | ty b=>exact h1.elim
 | tup j _=>exact⟨.tup,⟨_,_,rfl,j.sq⟩,a _ h1⟩
 | lst j _ _ _=>exact⟨.lst,⟨_,_,rfl, .inl (.inl j)⟩,a _ h1⟩
 | tape _=>exact h1.elim
 | scr _=>exact h1.elim
 | dct _ _ _=>exact h1.elim
 | dk _ _=>exact h1.elim
def Ng {x:Str}{p a pos:Pos}{e:kf}{es:kn kf}{x1:Nat}{b:AE}(A B:String)(c:Gl X x)(d:X.mg x=none)(hv:bootBuiltins x=some (.builtin "isinstance"))(ha:SE X e b)(f:PA X es (cA (tC (.ty A)) (cA (tC (.ty B)) pK)))(g:∀T∈ [A,B],HW T)(h:x≠"__name__" :=by decide)(hdb:(x==("__debug__" :Str))=false:=by decide)(he:starEach (e :: [.Tuple es x1 a]) X.env=(false,eval e X.env)::starEach [.Tuple es x1 a] X.env:=by rfl)(hpl:(backTo pos (starEach [.Tuple es x1 a] X.env)).any (·.1)=false:=by rfl)(i:starEach [.Tuple es x1 a] X.env=(false,eval (.Tuple es x1 a) X.env)::starEach [] X.env:=by rfl):SE X (.Call (.Name x p) [e, .Tuple es x1 a] [] pos) (O3 b [A,B]):=
 fH [A,B] c d hv ha f g (ABT rfl) h hdb he hpl i
def M6:∀T∈ ["tuple","list"],HW T:=λT h=>by
 simp only[AAJ,AAe,AAf] at h;rcases h with rfl|rfl
 .exact .inr (.inr (.inl rfl))
 .exact .inr (.inr (.inr rfl))
end
end PL
namespace PL
open PySem L2 PyProof.Rows
def jT (a:kn String)(x:PV)(Q:PV->Prop):Prop:=match kdOf x with | some k=>Q (.bl (a.any (HI k)))|none=>False
instance{a:AE}{b:kn String}{τ:A6}{Q:PV->Prop}:Wp (O3 a b τ Q) (a τ λx=>jT b x Q):=⟨id⟩
class ZF (Ts:List String):Prop where
 q:Ts.any (HI .tup)=true/\Ts.any (HI .lst)=true/\Ts.any (HI .int)=false/\Ts.any (HI .bl)=false/\Ts.any (HI .non)=false/\Ts.any (HI .str)=false
instance:ZF ["tuple","list"] :=⟨by decide⟩
instance:ZF ["list","tuple"] :=⟨by decide⟩
section
variable {Ts:kn String}[h:ZF Ts]{Q:PV->Prop}{xs:kn PV}
instance:Wp (jT Ts (.tup xs) Q) (Q (.bl true)):=⟨λk=>by show Q _;rw[h.q.1];exact k⟩
instance:Wp (jT Ts (.lst xs) Q) (Q (.bl true)):=⟨λk=>by show Q _;rw[h.q.2.1];exact k⟩
instance{i:Int}:Wp (jT Ts (.int i) Q) (Q (.bl false)):=⟨λk=>by show Q _;rw[h.q.2.2.1];exact k⟩
instance{i:ke}:Wp (jT Ts (.bl i) Q) (Q (.bl false)):=⟨λk=>by show Q _;rw[h.q.2.2.2.1];exact k⟩
instance:Wp (jT Ts .non Q) (Q (.bl false)):=⟨λk=>by show Q _;rw[h.q.2.2.2.2.1];exact k⟩
instance{i:Str}:Wp (jT Ts (.str i) Q) (Q (.bl false)):=⟨λk=>by show Q _;rw[h.q.2.2.2.2.2];exact k⟩
end
end PL
namespace L2
open PySem PySem.Spec PyProof.Rows
section
variable {κ:Type}[DecidableEq κ]
def JT (kvs:kn (κ×V))(k:κ):ki V:=(kvs.find? λa=>decide (a.1=k)).map (·.2)
def Fb (kvs:kn (κ×V))(k:κ)(v:V):kn (κ×V):=
 if (kvs.any λa=>decide (a.1=k))=true then kvs.map (λa=>if a.1=k then (a.1,v) else a) else kvs ++ [(k,v)]
def Gy {p:κ×V}{r:kn (κ×V)}{k:κ}(e:p.1=k):JT (p::r) k=some p.2:=by simp[JT,AB6,e]
def Gx {p:κ×V}{r:kn (κ×V)}{k:κ}(e:¬p.1=k):JT (p::r) k=JT r k:=by simp[JT,AB6,e]
theorem T9 (k:κ):∀kvs:kn (κ×V),(kvs.any λa=>decide (a.1=k))=(JT kvs k).isSome
 | [] =>rfl
 | p::r=>by
   rw[ABm];by_cases e:p.1=k
   .simp only[Gy e,AAP e,ADm,Option.isSome_some]
   .rw [Gx e,AAY e,ADn];exact T9 k r
def Ex (kvs:kn (κ×V))(k:κ)(v:V):(Fb kvs k v).length<=kvs.length+1:=by
 unfold Fb;split
 .rw [AAO];omega
 .rw [AAi,AAp,List.length_nil];omega
def LF.isSome_eq {o:ki V}{u:ki km}(r:LF o u):o.isSome=u.isSome:=by
 cases o with
 | none=>cases u with
   | none=>rfl
   | some _=>exact(show False from r).elim
 | some _=>cases u with
   | none=>exact(show False from r).elim
   | some _=>rfl
def LF.getD {o:ki V}{u:ki km}{d:V}{d':km}(r:LF o u)(a:RelV d d'):RelV (o.getD d) (u.getD d'):=by
 cases o with
 | none=>cases u with
   | none=>exact a
   | some _=>exact(show False from r).elim
 | some _=>cases u with
   | none=>exact(show False from r).elim
   | some _=>exact r
def KV.val {kvs:kn (κ×V)}{vs:kn (κ×km)}(r:KV kvs vs)(k:κ):LF (JT kvs k) (valueAt vs k):=by
 unfold KV at r;induction r with
 | nil=>exact True.intro
 | @cons p q ps qs h t c=>
   obtain⟨h1,h2⟩:=h;by_cases e:p.1=k
   .have a:q.1=k:=h1.symm.trans e;have b:valueAt (q::qs) k=some q.2:=by simp[valueAt,AB6,a]
    rw[Gy e,b];exact h2
   .have a:¬q.1=k:=λz=>e (h1.trans z);have b:valueAt (q::qs) k=valueAt qs k:=by simp[valueAt,AB6,a]
    rw[Gx e,b];exact c
def KV.any {kvs:kn (κ×V)}{vs:kn (κ×km)}(r:KV kvs vs)(k:κ):(kvs.any λa=>decide (a.1=k))=vs.any λa=>decide (a.1=k):=by
 unfold KV at r;induction r with
 | nil=>rfl
 | cons h t b=>rw[ABm,ABm,b,h.1]
def KV.repl {kvs:kn (κ×V)}{vs:kn (κ×km)}(r:KV kvs vs)(k:κ){y:V}{u:km}(b:RelV y u):KV (kvs.map λa=>if a.1=k then (a.1,y) else a) (vs.map λa=>if a.1=k then (a.1,u) else a):=by
 unfold KV at r ⊢;induction r with
 | nil=>exact .nil
 | @cons p q ps qs h t c=>
   rw[AAM,AAM];refine .cons ?_ c;obtain⟨h1,h2⟩:=h;by_cases e:p.1=k
   .rw [AAG e,AAG (h1.symm.trans e)];exact⟨h1,b⟩
   .rw [AAF e,AAF (λz=>e (h1.trans z))];exact⟨h1,h2⟩
def KV.put {kvs:kn (κ×V)}{vs:kn (κ×km)}(r:KV kvs vs)(k:κ){y:V}{u:km}(a:RelV y u):KV (Fb kvs k y) (stored vs k u):=by
 unfold Fb stored;rw[r.any k];by_cases e:(vs.any λb=>decide (b.1=k))=true
 .rw [AAG e,AAG e];exact r.repl k a
 .rw [AAF e,AAF e];exact Paired.snoc r ⟨rfl,a⟩
def KV.keys {kvs:kn (κ×V)}{vs:kn (κ×km)}(r:KV kvs vs):kvs.map (·.1)=vs.map (·.1):=by
 unfold KV at r;induction r with
 | nil=>rfl
 | cons h t a=>rw[AAM,AAM,a,h.1]
def KV.length {kvs:kn (κ×V)}{vs:kn (κ×km)}(r:KV kvs vs):kvs.length=vs.length:=Paired.length r
end
def PQ {P:kd}{w:kc}{k:Bx}{u:km}(r:RelV (kV k) u):(Ak P w).is k u=true:=by
 cases k with
 | inl i=>obtain⟨t,e⟩:=(show ∃t,u=Value.int i t from r);subst e;exact Ku P w i t
 | inr x=>obtain⟨t,e⟩:=(show ∃t,u=Value.str x t from r);subst e;exact TC P w x t
theorem PP {P:kd}{w:kc}:∀{a:kn Bx} {b:kn km},Ap (a.map kV) b->ItemsAre (Ak P w) a b
 | [],_,r=>by rw[ABy] at r;cases r;exact .nil
 | k::a,_,r=>by
   rw[AAM] at r;cases r with
   | cons h t=>exact .cons (PQ h) (PP t)
abbrev KT (H:Hp):kn (kn Bx×V)->kn (kn Bx×kj×km)->Prop:=Paired λp q=>p.1=q.1/\H q.2.1=some (.tup (p.1.map kV))/\RelV p.2 q.2.2
def KT.val {H:Hp}{kvs:kn (kn Bx×V)}{xs:kn (kn Bx×kj×km)}(r:KT H kvs xs)(k:kn Bx):LF (JT kvs k) ((atKey xs k).map (·.2)):=by
 induction r with
 | nil=>exact True.intro
 | @cons p q ps qs h t c=>
   obtain⟨h1,_,h2⟩:=h;by_cases e:p.1=k
   .have a:q.1=k:=h1.symm.trans e;have b:atKey (q::qs) k=some q.2:=by simp[atKey,AB6,a]
    rw[Gy e,b];exact h2
   .have a:¬q.1=k:=λz=>e (h1.trans z);have b:atKey (q::qs) k=atKey qs k:=by simp[atKey,AB6,a]
    rw[Gx e,b];exact c
def KT.repl {H:Hp}{kvs:kn (kn Bx×V)}{xs:kn (kn Bx×kj×km)}(r:KT H kvs xs)(k:kn Bx){y:V}{u:km}(b:RelV y u):KT H (kvs.map λa=>if a.1=k then (a.1,y) else a) (xs.map (putAt k u)):=by
 induction r with
 | nil=>exact .nil
 | @cons p q ps qs h t c=>
   rw[AAM,AAM];refine .cons ?_ c;obtain⟨h1,h2,h3⟩:=h;unfold putAt;by_cases e:p.1=k
   .rw [AAG e,AAG (h1.symm.trans e)];exact⟨h1,h2,b⟩
   .rw [AAF e,AAF (λz=>e (h1.trans z))];exact⟨h1,h2,h3⟩
def KT.put {H:Hp}{kvs:kn (kn Bx×V)}{xs:kn (kn Bx×kj×km)}(r:KT H kvs xs)(k:kn Bx){b:kj}{y:V}{u:km}(hb:H b=some (.tup (k.map kV)))(a:RelV y u):KT H (Fb kvs k y) (storedH xs k b u):=by
 have e:(kvs.any λc=>decide (c.1=k))=(atKey xs k).isSome:=by rw[T9,(r.val k).isSome_eq,Option.isSome_map]
 unfold Fb storedH;rw[e];by_cases q:(atKey xs k).isSome=true
 .rw [AAG q,AAG q];exact r.repl k a
 .rw [AAF q,AAF q];exact Paired.snoc r ⟨rfl,hb,a⟩
def KT.keeps {H a:Hp}{kvs:kn (kn Bx×V)}{xs:kn (kn Bx×kj×km)}(r:KT H kvs xs)(d:∀b c,H b=some (.tup c)->a b=some (.tup c)):KT a kvs xs:=
 Paired.mapP r λ_ _ z=>⟨z.1,d _ _ z.2.1,z.2.2⟩
section
variable {P:kd}{w:kc}{H:Hp}{h:gn}{a:kj}
def gc {u:HO}(ok:Ie P w H h)(e:Rd H a u):B2 P w H h a u:=e.ok ok
def Sd {kvs:kn (Bx×V)}(ok:Ie P w H h)(e:Rd H a (.dK kvs)):kvs.length<=sizeLine/\(a==sysModules)=false/\∃vs,KV kvs vs/\h.DictOf (Ak P w) a vs:=
 show B2 P w H h a (.dK kvs) from gc ok e
def Sc {kvs:kn (Bx×V)}(ok:Ie P w H h)(e:H a=some (.dK kvs)):kvs.length<=sizeLine/\(a==sysModules)=false/\∃vs,KV kvs vs/\h.DictOf (Ak P w) a vs:=Sd ok (.inl e)
def Qq {b:kn Bx}(ok:Ie P w H h)(e:H a=some (.tup (b.map kV))):(tupleKind (Ak P w)).is h b a:=by obtain⟨_,its,r,o,h1,h2,n,h3⟩:=(show B2 P w H h a (.tup (b.map kV)) from ok a _ e);exact⟨o,its.toArray,n,h1,h2,h3,by simpa using PP r⟩
def Sf {kvs:kn (kn Bx×V)}(ok:Ie P w H h)(e:Rd H a (.dT kvs)):kvs.length<=sizeLine/\(a==sysModules)=false/\ ∃xs,KT H kvs xs/\h.DictOfH (tupleKind (Ak P w)) a xs:=by
 obtain⟨z,y,xs,r,o,es,ep,h1,h2,h3,c,d⟩:=(show B2 P w H h a (.dT kvs) from gc ok e);refine⟨z,y,xs,r,o,es,ep,h1,h2,h3,c,λx hx=> ?_,d⟩;have all:∀{l:kn (kn Bx×V)} {m:kn (kn Bx×kj×km)},KT H l m->∀x∈m,(tupleKind (Ak P w)).is h x.1 x.2.1:=by
  intro l m q;induction q with
  | nil=>intro x hx;exact nomatch hx
  | @cons p q ps qs b t f=>
    intro x hx;rcases AAJ.mp hx with e|hx
    .subst e;exact Qq ok (by rw[<-b.1];exact b.2.1)
    .exact f x hx
 exact all r x hx
def mT {kvs:kn (kn Bx×V)}(ok:Ie P w H h)(e:H a=some (.dT kvs)):kvs.length<=sizeLine/\(a==sysModules)=false/\ ∃xs,KT H kvs xs/\h.DictOfH (tupleKind (Ak P w)) a xs:=Sf ok (.inl e)
end
def OI (H:Hp)(a:kj)(y:V)(r:ki V):Prop:=
 (∃kvs k,Rd H a (.dK kvs)/\y=kV k/\r=JT kvs k)\/∃kvs k b,Rd H a (.dT kvs)/\y= .ref b/\H b=some (.tup (k.map kV))/\r=JT kvs k
def UJ (H:Hp)(a:kj)(y v:V)(c:Hp):Prop:=
 (∃kvs k,H a=some (.dK kvs)/\y=kV k/\kvs.length<sizeLine/\c=upd H a (.dK (Fb kvs k v)))\/
 ∃kvs k b,H a=some (.dT kvs)/\y= .ref b/\H b=some (.tup (k.map kV))/\kvs.length<sizeLine/\c=upd H a (.dT (Fb kvs k v))
def OI.k {H:Hp}{a:kj}{kvs:kn (Bx×V)}{k:Bx}(e:H a=some (.dK kvs)):OI H a (kV k) (JT kvs k):= .inl ⟨kvs,k, .inl e,rfl,rfl⟩
def OI.t {H:Hp}{a b:kj}{kvs:kn (kn Bx×V)}{k:kn Bx}(e:H a=some (.dT kvs))(c:H b=some (.tup (k.map kV))):OI H a (.ref b) (JT kvs k):= .inr ⟨kvs,k,b, .inl e,rfl,c,rfl⟩
def UJ.k {H:Hp}{a:kj}{kvs:kn (Bx×V)}{k:Bx}{v:V}(e:H a=some (.dK kvs))(hl:kvs.length<sizeLine):UJ H a (kV k) v (upd H a (.dK (Fb kvs k v))):= .inl ⟨kvs,k,e,rfl,hl,rfl⟩
def UJ.t {H:Hp}{a b:kj}{kvs:kn (kn Bx×V)}{k:kn Bx}{v:V}(e:H a=some (.dT kvs))(c:H b=some (.tup (k.map kV)))(hl:kvs.length<sizeLine):UJ H a (.ref b) v (upd H a (.dT (Fb kvs k v))):= .inr ⟨kvs,k,b,e,rfl,c,hl,rfl⟩
section
variable {X:Cx}{Wf:kn (kj×Obj)}{σ:St}{H:Hp}{s:kl}{a:kj}{y v:V}{u r:km}{o:ki V}{A:fe}{E:km->kl->Prop}
def Inv.big (I:Inv X Wf σ H s):sysModules<s.heap.objs.size:=by have h:mainGlobals<s.heap.objs.size:=(I.mod.glob.keeps I.bk).lt;exact ACZ (by decide) h
def Xv {Q:km->kl->Prop}(hu:A.units+1<cLine)(I:Inv X Wf σ H s)(g:OI H a y (some v))(m:RelV y u)(h:∀f n,Inv X Wf σ H n->RelV v f->Q f n):wpAny (model X.prog X.w) A (getItem (.ref a) u) Q E s:=by
 rcases g with⟨kvs,k,e,i,l⟩|⟨kvs,k,b,e,i,t,l⟩
 .subst i;obtain⟨z,hd,vs,c,j⟩:=Sd I.hok e;obtain⟨f,hw,d⟩:=LF.some_of (v:=v) (o:=valueAt vs k) (by rw[l];exact c.val k);exact wpAny_getItem_of (PQ m) j.mapOf hw (h f _ (I.tok _) d)
 .subst i;cases (show u=Value.ref b from m);obtain⟨z,hd,xs,c,j⟩:=Sf I.hok e;obtain⟨f,hw,d⟩:=LF.some_of (v:=v) (o:=(atKey xs k).map (·.2)) (by rw[l];exact c.val k);obtain⟨p,hp,x⟩:=ACf.mp hw;refine wpAny_getItem_heap (ADo hu) (Qq I.hok t) j hp ?_;rw[x];exact h f _ (I.tok _) d
def Iq {h':gn}{t':Nat}{c:HO}(I:Inv X Wf σ H s)(d:mE (H a))(hs:Heap.SameBut a s.heap h')(he:∃q,h'.get? a=some q)(new:B2 X.prog X.w (upd H a c) h' a c):Inv X Wf σ (upd H a c) {s with heap:=h',toks:=t'}:=
 I.write (x:=a) (e:=a) d (.inl rfl) (λb q hb z=>(hs.2 b hb).trans z) he new
def QU {P:kd}{w:kc}{c:Hp}{h':gn}{kvs:kn (Bx×V)}{vs:kn (Bx×km)}(z:kvs.length<=sizeLine)(hd:(a==sysModules)=false)(b:KV kvs vs)(d:h'.DictOf (Ak P w) a vs):B2 P w c h' a (.dK kvs):=⟨z,hd,vs,b,d⟩
def Xw {t:Hp}{Q:Unit->kl->Prop}(hu:A.units+1<cLine)(I:Inv X Wf σ H s)(g:UJ H a y v t)(x:RelV y u)(rv:RelV v r)(h:∀B,Inv X Wf σ t B->Q () B):wpAny (model X.prog X.w) A (setItem (.ref a) u r) Q E s:=by
 rcases g with⟨kvs,k,e,j,l,m⟩|⟨kvs,k,b,e,j,C,l,m⟩
 .subst j m;obtain⟨z,hd,vs,d,n⟩:=Sc I.hok e;have p:vs.length<=sizeLine:=by rw[<-d.length];exact z
  have hl:(Fb kvs k v).length<=sizeLine:=by have:=Ex kvs k v;omega
  refine wpAny_setItem_pairs (hsz:=p) (PQ x) n λh' f hs=>h _ ?_;have he:∃q,h'.get? a=some q:=let ⟨q,_,_,i,_⟩:=f;⟨q,i⟩;exact Iq I (by rw[e];exact True.intro) hs he (QU hl hd (d.put k rv) f)
 .subst j m;cases (show u=Value.ref b from x);obtain⟨z,hd,xs,d,n⟩:=mT I.hok e;have p:xs.length<=sizeLine:=by rw[<-Paired.length d];exact z
  have hl:(Fb kvs k v).length<=sizeLine:=by have:=Ex kvs k v;omega
  refine wpAny_setItem_heap (hsz:=p) (ADo hu) (Qq I.hok C) n λh' f hs=>h _ ?_;obtain⟨q,es,ep,i,h2,h3,F,_,G⟩:=f;refine Iq I (by rw[e];exact True.intro) hs ⟨q,i⟩ ⟨hl,hd,_,(d.put k C rv).keeps λc J D=> ?_,q,es,ep,i,h2,h3,F,G⟩;rw[Ah (nY D e (λz=>nomatch z))];exact D
end
def hX (i:kf):Prop:=∀a b,subscripted i false a b=operate [a,b] (getItem a b)
def fk {prog:kd}{w:kc}{A:fe}{E:km->kl->Prop}{s:kl}{env:Env}{value slice:kf}{pos:Pos}{T id:String}{Q:km->kl->Prop}(hl:typeLookup (.type T) "__getitem__" =pure (some (.builtin id)))(hs:hX slice)(h:wpAny (model prog w) A (eval value env) (λo c=>wpAny (model prog w) A (eval slice env) (λi a=>a.TypeIs o T/\wpAny (model prog w) A (getItem o i) Q E a) E c) E s):wpAny (model prog w) A (eval (.Subscript value slice pos) env) Q E s:=by
 refine Subscript_ (ABP h (λo c f=>ABP f (λi a b=> ?_) λ_ _ x=>x) λ_ _ x=>x);obtain⟨j,b⟩:=b;unfold subscriptTail;refine AAC ?_;rw[getitemInPython_of_ne j.not_modules];refine AAC (ABp j hl ?_);have e:wpAny (model prog w) A (subscripted slice false o i) (λr d=>wpAny (model prog w) A (letTemporaryGo value o r >>= λ_=>pure r) Q E d) E a:=by rw[hs o i];exact wpAny_operating (ABP b (λr d g=>AAC (wpAny_letTemporaryGo (AAE g))) λ_ _ x=>x)
 first
  | exact AAE (AAC e)
  | exact AAC (AAE (AAC e))
  | exact AAC e
def Sa {X:Cx}{d:kn (kj×Obj)}{f:St}{H:Hp}{s:kl}{a:kj}{y:V}{o:ki V}(I:Inv X d f H s)(g:OI H a y o):s.TypeIs (.ref a) "dict" :=by
 rcases g with⟨kvs,k,e,_,_⟩|⟨kvs,k,b,e,_,_,_⟩
 .obtain ⟨_,_,vs,_,c⟩:=Sd I.hok e;exact c.typeIs
 .obtain ⟨_,_,xs,_,c⟩:=Sf I.hok e;exact c.typeIs
def pG (d e:TE):TE:=λb H Q=>d b H λx H1=>e b H1 λy c=>∃a v,x= .ref a/\OI c a y (some v)/\Q v c
def gf (d e f:TE):TS:=λD b H=>f b H λv H1=>d b H1 λx g=>e b g λy h=>∃a c,x= .ref a/\UJ h a y v c/\D.nx b c
section
variable {X:Cx}{o i e value:kf}{pos pos' tpos:Pos}{td ty tv:TE}
def eI (hu:X.A.units+1<cLine)(j:PE X o td)(hi:PE X i ty)(hs:hX i):PE X (.Subscript o i pos) (pG td ty):=by intro c s d H Q I h;refine fk PySem.F.slot_dict_getitem.lookup hs (BO (j c s d H _ I h) λu k ⟨x,H1,l,m,n⟩=>BO (hi c k d H1 _ l n) λz B ⟨y,p,f,r,a,v,ex,g,t⟩=> ?_);subst ex;obtain rfl:u=Value.ref a:=m;exact⟨Sa f g,Xv hu f g r λC D w b=>⟨v,p,w,b,t⟩⟩
def e6 (hu:X.A.units+1<cLine)(d:PE X o td)(hi:PE X i ty)(hv:PE X value tv)(hs:swapsWith value (some (.Subscript o i pos')) pos.line X.env=pure false):PS X (.Assign [.Subscript o i pos'] value pos) (gf td ty tv):=by intro c s b H D I h;refine wpAny_Assign_Subscript (BO (hv c s b H _ I h) λr f ⟨v,H1,j,rv,k⟩=>BO (d c f b H1 _ j k) λu l ⟨x,m,n,p,t⟩=>BO (hi c l b m _ n t) λF G ⟨y,J,w,z,a,B,ex,g,C⟩=> ?_) hs;subst ex;obtain rfl:u=Value.ref a:=p;exact Xw hu w g z rv λK E=>⟨b,B,E,C⟩
end
def Mm {P:kd}{w:kc}{H:Hp}(h:gn)(hb:sysModules<h.objs.size):B2 P w H (h.push {cls:= .type "dict",data:= .dict #[] }) h.objs.size (.dK []):=
 ⟨ABI _,ACv.mpr (AAz (AAN hb)), [], .nil,Heap.DictOf.new h⟩
def kh:TE:=λ_ H Q=>∀p,H p=none->Q (.ref p) (upd H p (.dK []))
section
variable {X:Cx}{pos:Pos}
def ak:PE X (.Dict [] [] pos) kh:=λb s c H Q I h=>
 wpAny_Dict_empty ⟨.ref s.heap.objs.size,_,I.laid (a:=s.heap.objs.size) (o:= .dK []) (t':=s.toks) (λ_ _ q=>AAI _ q) (AAL _) (Mm s.heap I.big),rfl,h _ (I.hok.fresh (AAL _))⟩
end
def Vk:kn (TE×TE)->St->Hp->(kn (V×V)->Hp->Prop)->Prop
 | [],_,H,Q=>Q [] H
 | (tk,tv)::r,σ,H,Q=>tk σ H λx H1=>tv σ H1 λy a=>Vk r σ a λps b=>Q ((x,y)::ps) b
abbrev VV:kn (V×V)->kn (km×km)->Prop:=Paired λp q=>RelV p.1 q.1/\RelV p.2 q.2
def pq (X:Cx)(pos:Pos)(keys:kn (ki kf))(values:kn kf)(a:kn (TE×TE)):Prop:=
 ∀(c:kn (kj×Obj)) (s:kl) (b:St) (H:Hp) (Q:kn (V×V)->Hp->Prop),Inv X c b H s->Vk a b H Q->
  wpAny (model X.prog X.w) X.A (evalPairs (pairTrees keys values X.env pos)) (λvs e=>∃ps d,Inv X c b d e/\VV ps vs/\Q ps d) X.xe s
def ef {X:Cx}{pos:Pos}:pq X pos [] [] [] :=λa s b H Q I h=>pairTrees_nil_walk ⟨[],H,I, .nil,h⟩
def ax {X:Cx}{pos:Pos}{k v:kf}{e:kn (ki kf)}{vs:kn kf}{f g:TE}{a:kn (TE×TE)}(hk:PE X k f)(hv:PE X v g)(i:pq X pos e vs a):pq X pos (some k::e) (v::vs) ((f,g)::a):=λb s c H Q I h=>
 pairTrees_cons_walk (BO (hk b s c H _ I h) λu j ⟨x,H1,l,m,n⟩=>BO (hv b j c H1 _ l n) λC o ⟨y,p,r,t,w⟩=>
  BO (i b o c p _ r w) λD E ⟨ps,z,A,d,B⟩=>⟨(x,y)::ps,z,A, .cons ⟨m,t⟩ d,B⟩)
def ND (kvs more:kn (Bx×V)):kn (Bx×V):=more.foldl (λa b=>Fb a b.1 b.2) kvs
def KV.merge:∀{more:kn (Bx×V)} {a:kn (Bx×km)} {kvs:kn (Bx×V)} {vs:kn (Bx×km)},KV more a->KV kvs vs->KV (ND kvs more) (merged vs a):=by
 intro more a kvs vs r;unfold KV at r;induction r generalizing kvs vs with
 | nil=>intro q;exact q
 | @cons p q ps qs h t b=>
   intro c;have e:KV (Fb kvs p.1 p.2) (stored vs q.1 q.2):=by have:=c.put p.1 h.2;rw[<-h.1];exact this
   exact b e
theorem HX:∀(more kvs:kn (Bx×V)),(ND kvs more).length<=kvs.length+more.length
 | [],kvs=>by show kvs.length<=kvs.length+0;omega
 | p::r,kvs=>by have h1:=HX r (Fb kvs p.1 p.2);have h2:=Ex kvs p.1 p.2;show (ND (Fb kvs p.1 p.2) r).length<=_;rw[AAp];omega
theorem Mj {P:kd}{w:kc}:∀{kvs:kn (Bx×V)} {e:kn (km×km)},VV (kvs.map λf=>(kV f.1,f.2)) e->∃d,Carries (Ak P w) e d/\KV kvs d
 | [],_,r=>by rw[ABy] at r;cases r;exact⟨[],True.intro, .nil⟩
 | p::kvs,_,r=>by
   rw[AAM] at r;cases r with
   | @cons a b as bs h t=> obtain⟨d,c,q⟩:=Mj (P:=P) (w:=w) t;obtain⟨g,b2⟩:=b;exact⟨(p.1,b2)::d,⟨PQ h.1,rfl,c⟩, .cons ⟨rfl,h.2⟩ q⟩
structure M2 (X:Cx) (o:Expr) (m:Str) (apos:Pos) (e f:Expr) (cpos:Pos):Prop where
 base:attributeBase o m X.env (eval o X.env)=eval o X.env
 few:((backTo cpos (starEach [e,f] X.env)).all (λx=> !x.1)&&(backToKw cpos (keywordEach [] X.env)).all (λx=>x.1.isSome)
  && decide (([e,f] :List Expr).length+([] :List Keyword).length+(if ([] :List Keyword).isEmpty then 0 else 1)<30))=true
 line:(apos.endLine==cpos.line)=true
 trees:backTo cpos (starEach [e,f] X.env)= [(false,eval e X.env),(false,eval f X.env)]
def vO (H:Hp)(a:kj):Prop:=(∃kvs,Rd H a (.dK kvs))\/∃kvs,Rd H a (.dT kvs)
def Qo {X:Cx}{g:kn (kj×Obj)}{h:St}{H:Hp}{s:kl}{a:kj}(I:Inv X g h H s)(d:vO H a):s.TypeIs (.ref a) "dict" /\(∀b,Value.ref a= .ref b->∃c,s.heap.get? b=some c/\c.dict=none)/\(a==sysModules)=false:=by
 rcases d with⟨kvs,e⟩|⟨kvs,e⟩
 .obtain ⟨_,hd,vs,_,f⟩:=Sd I.hok e;refine⟨f.typeIs,λb q=> ?_,hd⟩;cases q;obtain⟨c,_,_,h1,h2,_⟩:=f;exact⟨c,h1,h2.2.1⟩
 .obtain ⟨_,hd,xs,_,f⟩:=Sf I.hok e;refine⟨f.typeIs,λb q=> ?_,hd⟩;cases q;obtain⟨c,_,_,h1,h2,_⟩:=f;exact⟨c,h1,h2.2.1⟩
section
variable {X:Cx}{Wf:kn (kj×Obj)}{σ:St}{H:Hp}{s:kl}{a:kj}{y d:V}{u r:km}{o:ki V}{A:fe}{E:km->kl->Prop}
def iT {Q:km->kl->Prop}(hu:A.units+1<cLine)(I:Inv X Wf σ H s)(g:OI H a y o)(j:RelV y u)(m:RelV d r)(h:∀n p,Inv X Wf σ H p->RelV (o.getD d) n->Q n p):wpAny (model X.prog X.w) A (call (.builtin "dict.get") [.ref a,u,r]) Q E s:=by
 rcases g with⟨kvs,k,e,i,l⟩|⟨kvs,k,b,e,i,t,l⟩
 .subst i;obtain⟨z,hd,vs,c,f⟩:=Sd I.hok e;refine ADH ADp f.typeIs AEN (AEO _ _ _) (meets_dict_get_default (Ak X.prog X.w) a (PQ j) hd r) ⟨_,f.mapOf,h _ _ (I.tok _) ?_⟩;rw[l];exact(c.val k).getD m
 .subst i;cases (show u=Value.ref b from j);obtain⟨z,hd,xs,c,f⟩:=Sf I.hok e;refine ADH ADp f.typeIs AEN (AEO _ _ _) (meetsH_dict_get_default (tupleKind (Ak X.prog X.w)) a b hd r) ⟨ADo hu,k,xs,Qq I.hok t,f,h _ _ (I.tok _) ?_⟩;rw[l];exact(c.val k).getD m
end
def cC (d e f:TE):TE:=λb H Q=>d b H λx H1=>∃a,x= .ref a/\vO H1 a/\e b H1 λy g=>f b g λz c=>∃o,OI c a y o/\Q (o.getD z) c
section
variable {X:Cx}{o e f:kf}{apos cpos:Pos}{td ty tx:TE}
def ah (hu:X.A.units+1<cLine)(k:PE X o td)(he:PE X e ty)(l:PE X f tx)(m:M2 X o "get" apos e f cpos):PE X (.Call (.Attribute o "get" apos) [e,f] [] cpos) (cC td ty tx):=by
 intro b s c H Q I h;refine ADq m.base m.few m.line ADr ADp PySem.F.type_dict_get (BO (k b s c H _ I h) λu n ⟨x,H1,j,p,a,ex,d,r⟩=> ?_);subst ex;obtain rfl:u=Value.ref a:=p;obtain⟨t,v,_⟩:=Qo j d;refine⟨t,v, ?_⟩;rw[m.trees];refine AC2 rfl (Calls.evalArgs_plain (ACE (BO (he b n c H1 _ j r) λN w ⟨y,B,C,D,E⟩=>
  ACE (BO (l b w c B _ C E) λO P ⟨z,G,J,K,R,g,L⟩=>ACy ?_))))
 exact iT hu J g D K λS T M i=>⟨_,G,M,i,L⟩
end
end L2
namespace PL
open PySem PySem.Spec PyProof.Rows L2
section
variable {K:AAD}{T M:kj->Prop}{H H':Hp}
def Kb.ext (va:Kb T M H)(ex:∀b o,H b=some o->H' b=some o):Mv K T M H T M H':=⟨va,λb o _ _ e=>ex b o e,λ_ t=>t,λ_ _ t=>t,λ_ _ m=>m⟩
def fi (va:Kb T M H)(ex:∀b o,H b=some o->H' b=some o):Ct T H T H' where
 keep:=λb u _ e=>ex b u e
 sub:=λ_ t=>t
 new:=λ_ t=> .inl t
 tp:=λa t=>let ⟨d,x,e,q⟩:=va.tp a t;⟨d,x,ex _ _ e,q⟩
end
end PL
namespace L2
open PySem PySem.Spec PyProof.Rows
def Uh (own:Nat)(a:St):St:=List.replicate own none++a.drop own
def Xu {own:Nat}{a:St}{j:Nat}{v:V}(h:(Uh own a)[j]? =some (some v)):own<=j/\a[j]? =some (some v):=by
 unfold Uh at h;by_cases hj:j<own
 .rw [ABQ (by simpa using hj),ABf,AAG hj] at h;cases h
 .have Qk:own<=j:=by omega
  rw[ABJ (by simpa using Qk),ABg,ADs] at h;rw[show own+(j-own)=j by omega] at h;exact⟨Qk,h⟩
end L2
namespace PL
open PySem PySem.Spec PyProof.Rows L2
def Xs (own:Nat)(τ:A6):A6:=List.replicate own none++τ.drop own
def SR.noOwn {K:AAD}{B:Cu}{T:kj->Prop}{H:Hp}{a:L2.St}{τ:A6}(s:SR K B T H a τ)(c:∀b,¬CZ a τ b){i:Nat}{xs:kn PV}:τ[i]? ≠some (some (.own xs)):=λe=>by obtain⟨p,vs,d,_⟩:=s.own i xs e;exact c p ⟨i,xs,e,d⟩
def SR.swap {K:AAD}{B:Cu}{l f:kj->Prop}{m g:Hp}{a σ0:L2.St}{τ k:A6}(c:SR K B l m a τ)(n:∀b,¬CZ a τ b)(d:SR K B f g σ0 k)(o:Mv K l (mt B a τ) m f (mt B a τ) g):SR K B f g a τ:=
 ⟨c.len,λi x e=>let ⟨v,h,r⟩:=c.val i x e;⟨v,h,r.mv o⟩,λi xs e=>absurd e (c.noOwn n),λi j xs s p e=>absurd e (c.noOwn n),d.tp,d.bm,d.bt,d.st⟩
def Ip {own:Nat}{τ:A6}{j:Nat}{x:AV}(h:(Xs own τ)[j]? =some (some x)):own<=j/\τ[j]? =some (some x):=by
 unfold Xs at h;by_cases hj:j<own
 .rw [ABQ (by simpa using hj),ABf,AAG hj] at h;cases h
 .have Qk:own<=j:=by omega
  rw[ABJ (by simpa using Qk),ABg,ADs] at h;rw[show own+(j-own)=j by omega] at h;exact⟨Qk,h⟩
def SR.cut {K:AAD}{B:Cu}{T:kj->Prop}{H:Hp}{c:L2.St}{τ:A6}{own:Nat}(s:SR K B T H c τ)(d:∀b,¬CZ c τ b):SR K B T H (Uh own c) (Xs own τ)/\∀b,¬CZ (Uh own c) (Xs own τ) b:=by have g:∀b,¬CZ (Uh own c) (Xs own τ) b:=λb ⟨i,xs,h,f⟩=>d b ⟨i,xs,(Ip h).2,(Xu f).2⟩;refine⟨⟨by simp[Uh,Xs,s.len],λi x e=> ?_,λi xs e=>absurd (Ip e).2 (s.noOwn d),λi j xs k p e=>absurd (Ip e).2 (s.noOwn d),s.tp,s.bm,s.bt,s.st⟩,g⟩;obtain⟨Qk,f⟩:=Ip e;obtain⟨v,hv,r⟩:=s.val i x f;refine⟨v, ?_,r.mv (.anti s.va λa z=>z.elim .inl λz=>absurd z (g a))⟩;unfold Uh;rw[ABJ (by simpa using Qk),ABg,ADs,show own+(i-own)=i by omega];exact hv
structure mK (D:Addr) (T:Addr->Prop) (H:Hp) (T':Addr->Prop) (H':Hp):Prop where
 keep:∀b o,¬T b->b≠D->H b=some o->H' b=some o
 sub:∀b,T b->T' b
 new:∀b,T' b->T b\/H b=none
 tp:∀b,H b≠none->H' b≠none
def mK.upd {D:kj}{T:kj->Prop}{H:Hp}{o:HO}:mK D T H T (upd H D o):=⟨λb a _ n e=>by rw[Ah n];exact e,λ_ e=>e,λ_ e=> .inl e,λb e=>by
 by_cases h:b=D
 .subst h;rw[Af];exact λz=>nomatch z
 .rw [Ah h];exact e⟩
end PL
namespace PL
open PySem L2 PyProof.Rows
section
variable {ai ai2:AI}{g g2:AG}{tt t2:AT}{te:AE}{τ τ':A6}{QL:kn PV->Prop}{own own2:Nat}{ix:kn Nat}
instance{i:Nat}{a b:AE}{nx bk ct:A6->Prop}{rt:PV->Prop}:Wp (iJ i a b ⟨nx,rt,bk,ct⟩ τ) (b τ λy=>HG i τ λxs=>a τ λk=>Ru k λk=>qW (YG xs.length k) λj=>Tt τ i (.own (xs.set j y)) nx):=⟨id⟩
end
end PL
namespace L2
open PySem PySem.Spec PyProof.Rows
def yL {P:kd}{w:kc}{h:gn}{d:kj}{o:Obj}{es:Array DictEntry}{ep:Nat}{vs:kn (Bx×km)}(g:h.get? d=some o)(e:o.data= .dict es ep)(x:h.DictOf (Ak P w) d vs):h.DictAt (Ak P w) d vs ep:=by obtain⟨i,b,f,g',c,a,r⟩:=x;rw[g] at g';cases g';rw[e] at a;cases a;exact⟨o,es,g,c,e,r⟩
def Nz (H:Hp)(d:kj)(n ep:Nat)(kvs:kn (Bx×V)):Prop:=∃o es,H d=some (.frz o (.dK kvs))/\o.data= .dict es ep/\kvs.length=n
def Itm (d:kj)(n ep:Nat):It:=
 ⟨λi H=>∃kvs k x,Nz H d n ep kvs/\kvs[i]? =some (k,x),
  λi H v a=>∃T k x,v= .ref T/\H T=none/\a=upd H T (.tup [kV k,x])/\∀kvs,Nz H d n ep kvs->kvs[i]? =some (k,x),
  λi H=>∃kvs,Nz H d n ep kvs/\kvs.length<=i⟩
def Nz.one {H:Hp}{d:kj}{n ep:Nat}{a b:kn (Bx×V)}(x:Nz H d n ep a)(y:Nz H d n ep b):a=b:=by obtain⟨o,es,e,_⟩:=x;obtain⟨g,f,c,_⟩:=y;rw[e] at c;cases c;rfl
def Nz.at {X:Cx}{b:kn (kj×Obj)}{c:St}{H:Hp}{s:kl}{d:kj}{n ep:Nat}{kvs:kn (Bx×V)}(I:Inv X b c H s)(x:Nz H d n ep kvs):∃vs,KV kvs vs/\s.heap.DictAt (Ak X.prog X.w) d vs ep:=by obtain⟨o,es,e,f,_⟩:=x;obtain⟨g,z,hd,vs,a,h⟩:=(show B2 X.prog X.w H s.heap d (.frz o (.dK kvs)) from I.hok d _ e);exact⟨vs,a,yL g f h⟩
def aA {P:kd}{w:kc}{k:Bx}{u:km}(h:(Ak P w).is k u=true):RelV (kV k) u:=by
 rcases BQ h with⟨i,t,rfl,rfl⟩|⟨x,t,rfl,rfl⟩
 .exact ⟨_,rfl⟩
 .exact ⟨_,rfl⟩
def aD {kvs:kn (Bx×V)}{vs:kn (Bx×km)}(r:KV kvs vs):∀{i:Nat} {k:Bx} {x:V},kvs[i]? =some (k,x)->∃u,vs[i]? =some (k,u)/\RelV x u:=by
 unfold KV at r;induction r with
 | nil=>intro i k x h;simp at h
 | @cons p q ps qs h t a=>
   intro i k x e;cases i with
   | zero=> simp at e;subst e;obtain⟨d,b⟩:=q;obtain⟨h1,h2⟩:=h;exact⟨b,by simp at h1;simp[h1],h2⟩
   | succ i=> obtain⟨u,hu,c⟩:=a (i:=i) (k:=k) (x:=x) (by simpa using e);exact⟨u,by simpa using hu,c⟩
def OU:entryFor table "dict_itemiterator.__iter__" =some Builtin.«dict_keyiterator.__iter__»:=
 entryFor_alias (id':="dict_keyiterator.__iter__") (by kernel_rfl) (by first | rfl|decide +kernel|(unfold String.splitOn;simp +decide [String.splitOnAux])) (by decide +kernel) (by kernel_rfl)
def Ob {prog:kd}{w:kc}{A:fe}{E:km->kl->Prop}{s:kl}{it d:kj}{k n ep:Nat}{ok b:km}{Q:km->kl->Prop}(he:IsItemIter s.heap it d k n ep ok b)(h:Q (.ref it) s):wpAny (model prog w) A (pyIter (.ref it)) Q E s:=by have a:s.TypeIs (.ref it) "dict_itemiterator" :=⟨_,he,rfl⟩;refine wpAny_pyIter_slot a AEP (AAy AEP a OU ?_ (F.args_dict_itemiterator_iter_1 _));show wpAny _ _ (ret (.ref it)) _ _ s;exact AAE ⟨_,rfl,"dict_itemiterator",_,a,F.slot_dict_itemiterator_next.lookup,h⟩
def Vr {P:kd}{w:kc}{K:AAD}{es:kn kf}{x1:Nat}{pos:Pos}{it d:kj}{n ep:Nat}:LG P w K (.Tuple es x1 pos) (Itm d n ep) [it] it (λk h=>∃ok c,IsItemIter h it d k n ep ok c) where
 mem:=by simp
 obj:=λk h st p hp=>by
  obtain⟨ok,c,he⟩:=st;have b:p=it:=by simpa using hp
  subst b;exact⟨_,he,λv z=>nomatch z⟩
 keep:=λk h h' st l=>by obtain⟨ok,c,he⟩:=st;exact⟨ok,c,l it (by simp) _ he⟩
 item:=by
  intro X m hw r hc k B s C H E I j st t;subst m hw r;obtain⟨ok,c,he⟩:=st;obtain⟨kvs,y,x,f,hx⟩:=t;obtain⟨vs,a,A⟩:=f.at I;have hl:vs.length=n:=by obtain⟨_,_,_,_,e⟩:=f;rw[<-e];exact a.length.symm
  subst hl;obtain⟨u,hu,G⟩:=aD a hx;have g:it<s.heap.objs.size:=AAH he;refine wpAny_pyNext_items_item he A hu λkey h1 J L M T N=> ?_;refine⟨_,rfl,wpAny_letOwnedTupleGo_items (s:={s with heap:=h1}) L λh2 O Q=> ?_⟩;have i:∀p o,p≠it->h1.get? p=some o->h2.get? p=some o:=λp o q z=>Q.extBut _ _ q z;have D:∀p∈ [it],p<s.heap.objs.size:=λp hp=>by
   have b:p=it:=by simpa using hp
   rw[b];exact g
  have l:∀p o,p ∉ [it] ->s.heap.get? p=some o->h2.get? p=some o:=λp o hp z=>by
   have b:p≠it:=by simpa using hp
   exact i p o b (N p o b z)
  have R:Inv X B C (upd H s.heap.objs.size (.tup [kV y,x])) {s with heap:=h2,toks:=s.toks}:=I.turnedN j D l (AAL _)
   ⟨(by show 2<=sizeLine;decide), [key,u], .cons (aA J) (.cons G .nil),⟨_,i _ _ (AAh g) M,rfl,_,rfl⟩⟩
  refine⟨.ref s.heap.objs.size,upd H s.heap.objs.size (.tup [kV y,x]),R,rfl,⟨_,y,x,rfl,I.fresh,rfl,λF h'=> ?_⟩,⟨key,u,O⟩,λp hp=> ?_⟩
  .rw [h'.one f];exact hx
  .rw [Ah (AAN (D p hp))];exact(j p hp).1
 done:=by
  intro X m hw r hc k B s C H E I j st t;subst m hw r;obtain⟨ok,c,he⟩:=st;obtain⟨kvs,f,hx⟩:=t;obtain⟨vs,a,A⟩:=f.at I;have hl:vs.length=n:=by obtain⟨_,_,_,_,e⟩:=f;rw[<-e];exact a.length.symm
  have U:=a.length;subst hl;refine wpAny_pyNext_items_end (I.ok.hd hc) he A (by rw[ACw];omega) λh' S=>⟨rfl, ?_⟩;exact I.turnedL (t':=s.toks) j λp o hp z=>by
   have b:p≠it:=by simpa using hp
   exact S p o b z
 self:=λ_ _ _ _ _ st h=>by obtain⟨ok,c,he⟩:=st;exact Ob he h
section
variable {X:Cx}
def Td {e:kf}{z:TE}{apos f j:Pos}{es:kn kf}{x1:Nat}(he:PE X e z)(hb:attributeBase e "items" X.env (eval e X.env)=eval e X.env)(C:((backTo f (starEach [] X.env)).all (λx=> !x.1)&&(backToKw f (keywordEach [] X.env)).all (λx=>x.1.isSome)&&decide (([] :kn kf).length+([] :kn Keyword).length+(if ([] :kn Keyword).isEmpty then 0 else 1)<30))=true)(hl:(apos.endLine==f.line)=true)(D:backTo f (starEach [] X.env)= []):PI X (.Tuple es x1 j) (.Call (.Attribute e "items" apos) [] [] f) (λm H R=>z m H λv H1=>∃d n ep kvs,v= .ref d/\Nz H1 d n ep kvs/\R (Itm d n ep) H1):=by
 intro E s m H R I h;refine ADq hb C hl ADr AEQ PySem.F.type_dict_items (BO (he E s m H _ I h) λu i ⟨x,H1,k,G,d,n,ep,kvs,ex,t,J⟩=> ?_);subst ex;obtain rfl:u=Value.ref d:=G;obtain⟨vs,y,A⟩:=t.at k;have K:vs.length=n:=by obtain⟨_,_,_,_,e⟩:=t;rw[<-e];exact y.length.symm
 obtain⟨o,L,M,T,_⟩:=id t;obtain⟨N,O,P⟩:=Qo k (.inl ⟨kvs, .inr ⟨o,M⟩⟩);have B:i.heap.DictOf (Ak X.prog X.w) d vs:=let ⟨o,es,a,b,c,r⟩:=A;⟨o,es,ep,a,b,c,r⟩;refine⟨N,O, ?_⟩;rw[D];refine AC2 rfl (PySem.evalArgs_none ?_);refine ADH AEQ B.typeIs PySem.F.entry_dict_items (PySem.F.args_dict_items_1 _) (meets_dict_items (Ak X.prog X.w) d P) ⟨⟨vs,B⟩, ?_⟩;have Q:(i.heap.push {cls:= .type "dict_items",data:= .fields #[.ref d] }).DictAt (Ak X.prog X.w) d vs ep:=by obtain⟨o,es,g,r⟩:=A;exact⟨o,es,AAI _ g,r⟩
 refine wpAny_pyIter_items (s:={i with heap:=i.heap.push {cls:= .type "dict_items",data:= .fields #[.ref d] }}) (knd:=Ak X.prog X.w) (d:=d) ?_ Q ?_
 .exact ⟨_,AAR _ rfl,rfl,rfl⟩
 subst K;have l:(i.heap.push {cls:= .type "dict_items",data:= .fields #[.ref d] }).objs.size=i.heap.objs.size+1:=AA1 ..;refine⟨_, [i.heap.objs.size+1],_,_,H1,congrArg Value.ref l,k.kept (t':=i.toks) λb U q=>AAI _ (AAI _ q),Vr,⟨.none, .none, ?_⟩,λp hp=> ?_,J⟩
 .have:=AAR (i.heap.push {cls:= .type "dict_items",data:= .fields #[.ref d] }) (o:={cls:= .type "dict_itemiterator",data:= .fields #[Value.none,Value.bool false,Value.ref d,Value.int 0 0,Value.int (vs.length:Int) 0,Value.int (ep:Int) 0,Value.none,Value.none] }) rfl;rw[l] at this;exact this
 .have S:p=i.heap.objs.size+1:=by simpa using hp
  subst S;exact k.fpOk (ACg _ _) (k.hok.fresh (ACg _ _))
end
end L2
namespace PL
open PySem PySem.Spec PyProof.Rows L2
section
variable {X:Cx}
def ko (a:kn (TE×TE)):TE:=λd H Q=>∀p,H p=none->Vk a d (upd H p (.dK [])) λps b=>b p=some (.dK [])/\∃kvs:kn (Bx×V),ps=kvs.map (λc=>(kV c.1,c.2))/\kvs.length<=15/\∀o es ep,o.data= .dict es ep->Q (.ref p) (upd b p (.frz o (.dK (ND [] kvs))))
def aj {pos:Pos}{keys:kn (ki kf)}{values:kn kf}{b:kn (TE×TE)}(h:pq X pos keys values b)(j:keys.all (·.isSome)=true)(hl:keys.length=values.length)(k:keys≠ [])(l:keys.length<=15):PE X (.Dict keys values pos) (ko b):=by
 intro m s n H Q I q;have p:=I.hok.fresh (AAL s.heap.objs.size);have r:=I.laid (a:=s.heap.objs.size) (o:= .dK []) (h':=s.heap.push {cls:= .type "dict",data:= .dict #[] }) (t':=s.toks) (λ_ _ q=>AAI _ q) (AAL _) (Mm s.heap I.big);refine wpAny_Dict_walk (knd:=Ak X.prog X.w) j hl k l (BO (h m _ n _ _ r (q _ p)) λD E ⟨ps,F,g,f,e,kvs,ep,G,t⟩=> ?_);subst ep;obtain⟨u,c,v⟩:=Mj (P:=X.prog) (w:=X.w) f;obtain⟨z,hd,x,y,A⟩:=Sc g.hok e;cases y;have B:(ND [] kvs).length<=sizeLine:=by have h1:=HX kvs [];rw[List.length_nil] at h1;rw[ACU];omega
 refine⟨u,c,A,λh' d hs=> ?_⟩;obtain⟨o,es,ep,i,C⟩:=id d;refine⟨.ref s.heap.objs.size,_, ?_,rfl,t o es ep C.2.1⟩;exact Iq g (by rw[e];exact True.intro) hs ⟨o,i⟩ ⟨i,QU B hd (v.merge .nil) d⟩
def fj {T c:kj->Prop}{H f:Hp}{d:kj}{o:HO}(s:Ct T H c f)(hd:H d=none)(g:¬c d):Ct T H c (upd f d o) where
 keep b q t e:=by
  have n:b≠d:=λz=>by subst z;rw[hd] at e;cases e
  rw[Ah n];exact s.keep b q t e
 sub:=s.sub
 new:=s.new
 tp a t:=by
  have n:a≠d:=λz=>by subst z;exact g t
  obtain⟨x,y,e,r⟩:=s.tp a t;exact⟨x,y,by rw[Ah n];exact e,r⟩
def ZL (a b:AE):AE:=λτ Q=>a τ λx=>b τ λy=>match x,y with | .int i, .int j=>Q (.dk [(i,j)])|_,_=>False
def kN {a b:kf}{u w:AE}{p:Pos}(ha:SE X a u)(hb:SE X b w):SE X (.Dict [some a] [b] p) (ZL u w):=by
 obtain⟨t,E,s⟩:=ha;obtain⟨t',h,F⟩:=hb;refine⟨_,aj (ax E h ef) rfl rfl (List.cons_ne_nil _ _) (ABT rfl),λB T y τ H Q N k q G=> ?_⟩;intro d hd;have c:Ct T H T (upd H d (.dK [])):=Ct.lay k.tp hd;have f:=k.stp c;have A:¬T d:=λz=>by obtain⟨o,e,_⟩:=(k.tp d z).mut;rw[hd] at e;cases e
 refine s B T y τ _ _ _ f q λv x T1 H1 l I J=>F B T1 y τ _ _ _ (f.stp l) J λO P C K D L m=> ?_;split at m <;> first | exact m.elim|skip
 rename_i i j;cases I;cases L;have n:K d=some (.dK []):=(l.trans D).keep _ _ A Af;have g:=l.trans D;have r:¬C d:=λz=>by
  rcases g.new d z with z|z
  .exact A z
  .rw [Af] at z;cases z
 refine⟨n, [(.inl i, .int j)],rfl,ABT rfl,λo es ep M=> ?_⟩;exact G _ _ C _ (fj (c.trans g) hd r) (.dk (kvs:= [(i,j)]) Af M) m
end
end PL
namespace L2
open PySem PySem.Spec PyProof.Rows
def QS (J:It)(D:kj)(σ0:St)(g:TG)(f:TT)(h j:TE)(Q:Hp->Prop)(W:Nat->Nat->Hp->Prop):Prop:=
 ∀i m H,W i m H->(J.stop i H/\Q H)\/(J.go i H/\∀x c,J.yld i H x c->g x σ0 c λa l=>f a l λok d=>
  if ok=true then h a d λy n=>j a n λz e=>∃k kvs,y=kV k/\e D=some (.dK kvs)/\kvs.length<sizeLine/\∃b,b<m/\W (i+1) b (upd e D (.dK (Fb kvs k z))) else ∃b,b<m/\W (i+1) b d)
def cB (b:TI)(own:Nat)(ix:kn Nat)(g:TG)(c:TT)(d e:TE):TE:=λa H Q=>b a H λJ H1=>∀D,H1 D=none->
 ∃W:Nat->Nat->Hp->Prop,(∃m,W 0 m (upd H1 D (.dK [])))/\QS J D (CQ own ix a) g c d e (Q (.ref D)) W
section
variable {X:Cx}{tg kx vx iter:kf}{ifs:kn kf}{scope:Scope}{pos:Pos}{wi:TI}{own:Nat}{ix:kn Nat}{N:kn Str}{g:TG}{tt:TT}{tk tv:TE}
def Ui {G:kn (kj×Obj)}{U:St}{H:Hp}{s:kl}{l:kn kj}{cl:kn (Str×kj)}{it:kj}{tn:Nat->gn->Prop}{J:It}{D:kj}{R:Result->kl->Prop}{Qh:Hp->Prop}{W:Nat->Nat->Hp->Prop}(hc:X.calm=true)(O:Fg X tg kx ifs scope own ix N g tt tk)(OV:∀cl C s H ex pn,PE (blk X (relabel scope X.env) N cl C s H ex pn) vx tv)(T:LG X.prog X.w X.K tg J l it tn)(I:Inv X G U H s)(hf:∀b∈l,Fk X G H b)(GG:∀b∈l,b<s.heap.objs.size)(hW:QS J D (CQ own ix U) g tt tk tv Qh W)(hR:∀σ' a Z,Inv (blk X (relabel scope X.env) N cl s.heap.objs.size s H l (X.pn++G)) [] σ' a Z->Qh a->R (.ok .next) Z)(n:Nat)(s0:kl)(h0:∃i a,Inv (blk X (relabel scope X.env) N cl s.heap.objs.size s H l (X.pn++G)) [] (CQ own ix U) a s0/\tn i s0.heap/\(∀b∈l,a b=none)/\W i n a):codeAny (model X.prog X.w) X.A (.compLoop (.DictComp kx vx [⟨tg,iter,ifs,0⟩] scope pos) 0 (.ref it) (.ref D) (Hm X.env (relabel scope X.env) cl s.heap.objs.size)) R s0:=by
 refine codeAny_loop rfl (λn Z=>∃i a,Inv (blk X (relabel scope X.env) N cl s.heap.objs.size s H l (X.pn++G)) [] (CQ own ix U) a Z/\tn i Z.heap/\(∀b∈l,a b=none)/\W i n a) (λn s1 h1=> ?_) n h0;obtain⟨i,H1,B1,st1,fr1,w1⟩:=h1;generalize f:blk X (relabel scope X.env) N cl s.heap.objs.size s H l (X.pn++G)=Y at *;have eA:Y.A=X.A:=by rw[<-f];rfl
 have eP:Y.prog=X.prog:=by rw[<-f];rfl
 have eW:Y.w=X.w:=by rw[<-f];rfl
 have eK:Y.K=X.K:=by rw[<-f];rfl
 have eE:Hm X.env (relabel scope X.env) cl s.heap.objs.size=Y.env:=by rw[<-f];rfl
 have eX:Y.xe=λ_ _=>False:=by rw[<-f];rfl
 have eC:Y.calm=true:=by rw[<-f];exact hc
 have hg:PG Y tg g:=by rw[<-f];exact O.tgt _ _ _ _ _ _
 have ht:gH Y ifs tt:=by rw[<-f];exact O.tst _ _ _ _ _ _
 have hk:PE Y kx tk:=by rw[<-f];exact O.val _ _ _ _ _ _
 have hv:PE Y vx tv:=by rw[<-f];exact OV _ _ _ _ _ _
 have B:∀{a:Hp},(∀b∈l,a b=none)->∀b∈l,Fk Y [] a b:=λ{a} hn b hb=>by
  obtain⟨_,a1,a2,a3,a4,a5⟩:=hf b hb;refine⟨hn b hb, ?_, ?_, ?_, ?_, ?_⟩
  .rw [<-f];exact AAN (GG b hb)
  .rw [<-f];exact I.notStk a1 a2
  .rw [<-f];exact .inl hb
  .intro x c e;exact(B1.ok.exf b (by rw[<-f];exact hb)).2 x c e
  .intro p hp;have:p∈X.pn++G:=by rw[<-f] at hp;simpa[blk] using hp
   exact a5 p this
 rw[eE,<-eA,<-eP,<-eW];show wpAny _ _ ((compTurn (.DictComp kx vx [⟨tg,iter,ifs,0⟩] scope pos) 0 (.ref it) (.ref D) Y.env).onRaise (λx=>do noteFrame x Y.env;theTreesLotGoes x)) _ _ s1;refine wpAny_noted ?_;rw[compTurn_dict];have ff:∀{α:Type} {t:Sem α} {Q:α->kl->Prop} {E:km->kl->Prop} {s:kl},wpAny (model Y.prog Y.w) Y.A t Q Y.xe s->wpAny (model Y.prog Y.w) Y.A t Q E s:=λh=>ABP h (λ_ _ q=>q) λ_ _ z=>by rw[eX] at z;exact z.elim
 refine AAC (ABd (AAC ?_));rcases hW i n H1 w1 with⟨stop,qn⟩|⟨go,step⟩
 .have zd:=λE=>T.done Y eP eW eK eC i [] s1 _ H1 E B1 (B fr1) st1 stop;rw[<-eP,<-eW] at zd;refine BO (zd _) λr s4 ⟨hr,I4⟩=> ?_;subst hr;exact AAE (hR _ _ _ I4 qn)
 .have zi:=λE=>T.item Y eP eW eK eC i [] s1 _ H1 E B1 (B fr1) st1 go;rw[<-eP,<-eW] at zi;refine BO (zi _) λr s4 ⟨u,hr,h4⟩=> ?_;subst hr;refine AAC (BO h4 λ_ s5 ⟨x,H5,I5,r5,y5,L,fr5⟩=> ?_);have I5':=I5.pinned (B fr5) (T.obj _ _ L);refine AAC (BO (ff (hg _ s5 _ H5 x u _ I5' r5 (O.keep _ _ _ _ (step x H5 y5)))) λ_ s6 ⟨F,H6,I6,q6,l6,k6⟩=> ?_);refine AAC (BO (ff (ht _ s6 F H6 _ I6 q6)) λok s7 ⟨H7,I7,q7⟩=> ?_);have back:∀{M:Hp} {P:kl} {S:Nat},Inv Y ([] ++ J2 l s5.heap) F M P->S<n->W (i+1) S M->
   ∃m,m<n/\∃i a,Inv Y [] (CQ own ix U) a P/\tn i P.heap/\(∀b∈l,a b=none)/\W i m a:=λ{M P S} I8 hm w8=>by
   refine⟨S,hm,i+1,M,I8.unpinned.weak l6.symm (λj v hj=> ?_),T.keep _ _ _ L λb hb o e=>(I8.pin (b,o) (AAq _ (AAq _ (Dj hb e)))).1,λb hb=> ?_,w8⟩
   .rw [k6 j (Ho hj).1];exact hj
   .obtain ⟨o,e,d⟩:=T.obj _ _ L b hb;exact(I8.pin (b,o) (AAq _ (AAq _ (Dj hb e)))).2.1
  cases ok with
  | false=> obtain⟨S,hm,w8⟩:=q7;exact AAE ⟨rfl,back I7 hm w8⟩
  | true=>
    refine AAC (AAC (BO (ff (hk _ s7 F H7 _ I7 q7)) λkv P ⟨y,M,I8,r8,q8⟩=> ?_));refine AAC (AAg (BO (ff (hv _ P F M _ I8 q8)) λvv s9 ⟨z,H9,I9,r9,k,kvs,ey,hD,hz,S,hm,w9⟩=> ?_));subst ey;refine AAC (ABd (AAg ?_));obtain⟨z1,mf,vs,rel,dd⟩:=Sc I9.hok hD;have zI:vs.length<=sizeLine:=by rw[<-rel.length];exact z1
    have hl:(Fb kvs k z).length<=sizeLine:=by have:=Ex kvs k z;omega
    refine wpAny_dictSet_pairs (hsz:=zI) (PQ r8) dd λh' dd' hs=> ?_;have he:∃q,h'.get? D=some q:=let ⟨q,_,_,hq,_⟩:=dd';⟨q,hq⟩;have I10:=Iq (t':=s9.toks+1) I9 (by rw[hD];exact True.intro) hs he (QU hl mf (rel.put k r9) dd');exact AAE ⟨rfl,back I10 hm w9⟩
def Xx {h:kn (kj×Obj)}{E:St}{H:Hp}{s:kl}{use:ki (km->Sem Unit)}{Q:km->kl->Prop}{it:kj}{l:kn kj}{cl:kn (Str×kj)}{tn:Nat->gn->Prop}{J:It}{Qd:kj->Hp->Prop}(hc:X.calm=true)(O:Fg X tg kx ifs scope own ix N g tt tk)(U:∀cl C s H ex pn,PE (blk X (relabel scope X.env) N cl C s H ex pn) vx tv)(T:LG X.prog X.w X.K tg J l it tn)(I:Inv X h E H s)(Y:∀b∈l,Fk X h H b)(st:tn 0 s.heap)(h1:∀y c,cl.lookup y=some c->X.env.cells.lookup y=some c)(h2:∀y,(y,NameKind.free)∈scope.names->∃c,cl.lookup y=some c)(Z:∀D,H D=none->∃W:Nat->Nat->Hp->Prop,(∃m,W 0 m (upd H D (.dK [])))/\QS J D (CQ own ix E) g tt tk tv (Qd D) W)(hR:∀D C k n,(∃m,n.heap.Ns C m)->Inv X h E k n->(∀i F,Inv X h i k F->∀h',Heap.SameBut C F.heap h'->Inv X h i k {F with heap:=h'})->C≠X.env.locals->(∀x c,X.env.cells.lookup x=some c->C≠c)->Qd D k-> compPost (model X.prog X.w) X.A X.xe use Q (.ref D) C (.ok .next) n):wpAny (model X.prog X.w) X.A (newDict #[]) (λp r=>wpAny (model X.prog X.w) X.A (newFunctionEnv scope X.env.globals cl [] X.env.qual none .none (some X.env)) (λf t=> codeAny (model X.prog X.w) X.A (.compStart (.DictComp kx vx [⟨tg,iter,ifs,0⟩] scope pos) 0 (.ref it) p {f with scope:=relabel scope X.env}) (compPost (model X.prog X.w) X.A X.xe use Q p f.locals) t) X.xe r) X.xe s:=by
 refine ABH ?_ (by simp[sizeOk]);have j:Inv X h E (upd H s.heap.objs.size (.dK [])) {s with heap:=s.heap.push {cls:= .type "dict",data:= .dict #[] }}:=I.laid (a:=s.heap.objs.size) (o:= .dK []) (t':=s.toks) (λ_ _ q=>AAI _ q) (AAL _) (Mm s.heap I.big);have X9:=I.fresh;obtain⟨W,⟨m0,w0⟩,hW⟩:=Z _ X9;have i4:∀b∈l,b<s.heap.objs.size:=λb hb=>by obtain⟨o,e,_⟩:=T.obj _ _ st b hb;exact AAH e
 have G:∀b∈l,Fk X h (upd H s.heap.objs.size (.dK [])) b:=λb hb=>by obtain⟨a0,ar⟩:=Y b hb;exact⟨by rw[Ah (AAN (i4 b hb))];exact a0,ar⟩
 generalize sH:({s with heap:=s.heap.push {cls:= .type "dict",data:= .dict #[] }}:kl)=s3 at j;have u:tn 0 s3.heap:=T.keep _ _ _ st λb hb o e=>by rw[<-sH];exact AAI _ e
 have L:∀b∈l,b<s3.heap.objs.size:=λb hb=>by obtain⟨o,e,_⟩:=T.obj _ _ u b hb;exact AAH e
 refine wpAny_newFunctionEnv O.nocell (by intro y M;simp at M) (λd lX sI=> ?_) O.kind;have S:∀b o,s3.heap.get? b=some o->d.get? b=some o:=λb o e=>sI.extBut b o (AAN (AAH e)) (AAI _ e);have gR:∀y,((relabel scope X.env).names.lookup y=some .cell\/(relabel scope X.env).names.lookup y=some .free)->∃c,cl.lookup y=some c:=λy M=>by
  rcases M with z|z
  .exact h2 y (Ey O.nocell (Ju z) (.inl rfl))
  .exact h2 y (Ey O.nocell (Ju z) (.inr rfl))
 have B:=ZU (N:=N) (t':=s3.toks+([] :kn (Str×km)).length) j G L (sc:=relabel scope X.env) O.kind h1 gR O.ins lX S;have v:tn 0 d:=T.keep _ _ _ u λb hb o e=>S b o e;have loop:∀P:kl,P={s3 with heap:=d,toks:=s3.toks+([] :kn (Str×km)).length}->
  codeAny (model X.prog X.w) X.A (.compLoop (.DictComp kx vx [⟨tg,iter,ifs,0⟩] scope pos) 0 (.ref it) (.ref s.heap.objs.size) (Hm X.env (relabel scope X.env) cl s3.heap.objs.size)) (compPost (model X.prog X.w) X.A X.xe use Q (.ref s.heap.objs.size) s3.heap.objs.size) P:=by rintro P rfl;refine Ui (cl:=cl) (Qh:=Qd s.heap.objs.size) hc O U T j G L hW (λσ' k n R q'=> ?_) m0 _ ⟨0,_,B,v,λb hb=>(G b hb).1,w0⟩;refine hR _ _ k n (let ⟨m,hm,_⟩:=R.loc;⟨m,hm⟩) (WA (own:=own) (ix:=ix) j G L R) (λi F I2 h' hs=>SD j rfl I2 R.free hs) (AAh j.lt) (λx c e=>AAh (j.szLt e)) q'
 exact codeAny_compStart_dict (loop _ rfl) (T.self _ 0 _ _ _ v (loop _ rfl))
def az {i:Nat}{x:Str}{pos' b:Pos}(hc:X.calm=true)(hN:X.N.Nodup)(n:X.N[i]? =some x)(hx:Loc X.env.scope x)(hi:PI X tg iter wi)(O:Fg X tg kx ifs scope own ix N g tt tk)(o:∀cl C s H ex pn,PE (blk X (relabel scope X.env) N cl C s H ex pn) vx tv)(p:swapsWith (.DictComp kx vx [⟨tg,iter,ifs,0⟩] scope pos) (some (.Name x pos')) b.line X.env=pure true:=by rfl)(hs:∀x,foldedSetIterable iter X.env x=pure x:=by intro _;rfl)(r:X.fn x=true\/X.env.scope.names.lookup x=some .local:=by first | exact .inl rfl|exact .inr rfl|assumption):PS X (.Assign [.Name x pos'] (.DictComp kx vx [⟨tg,iter,ifs,0⟩] scope pos) b) (Vj (cB wi own ix g tt tk tv) (Cw i)):=by
 intro k s l H D I h;obtain⟨cl,t,h1,h2⟩:=Hr (env:=X.env) (scope:=scope) λy u e=>I.ok.has y.1 (.inl (O.frees y u e));rw[exec_Assign_Name_used _ _ _ _ p];refine AAC (ABd (AAC ?_));show wpAny _ _ (do let _ <-comprehension (.DictComp kx vx [⟨tg,iter,ifs,0⟩] scope pos) scope X.env _ (newDict #[]) false (eval iter X.env) (some (assign (.Name x pos') X.env))) _ _ s;refine AAC (BO (ADd (use:=some (assign (.Name x pos') X.env)) (Q:=λ_ c=>SP X k D .next c) rfl hs t O.kind O.names (BO (hi k s l H _ I h) λv Z hv=>BO hv λw s2 A=> ?_)) λ_ c B=>AAE (AAE B));obtain⟨it,fp,tn,J,H2,rfl,E,T,f,F,q⟩:=A;refine Xx (Qd:=λd j=>Cw i (.ref d) l j D.nx) hc O o T E F f h1 h2 q λd C j c G K gone L M P=> ?_;obtain⟨m,R⟩:=G;show wpAny _ _ (assign (.Name x pos') X.env (.ref d)) _ _ c;refine ADU (KI (v:= .ref d) K hN n hx rfl (λS U ⟨a,W,ha⟩=> ?_) r);have Y:C≠a:=by
  rcases ha with z|z
  .rw [z];exact L
  .exact M x a z
 exact⟨m,R.sameBut W Y,λh' hs=>⟨_,j,gone _ S U h' hs,P⟩⟩
end
section
variable {X:Cx}
def kr (i:Nat)(t:TS):TS:=λD b H=>∃a kvs,b[i]? =some (some (.ref a))/\H a=some (.dK kvs)/\∀o es ep,o.data= .dict es ep->t D b (upd H a (.frz o (.dK kvs)))
def fA {rest:kn Stmt}{t:TS}{i:Nat}(h:R9 X rest t):R9 X rest (kr i t):=by intro c s d H D I q;obtain⟨a,kvs,_,e,q⟩:=q;obtain⟨z,hd,vs,b,f⟩:=Sc I.hok e;obtain⟨o,es,ep,g,j⟩:=id f;have k:Inv X c d (upd H a (.frz o (.dK kvs))) {s with heap:=s.heap,toks:=s.toks}:=Iq (h':=s.heap) I (by rw[e];exact True.intro) ⟨rfl,λ_ _=>rfl⟩ ⟨o,g⟩ ⟨g,QU z hd b f⟩;exact h c s d _ D k (q o es ep j.2.1)
end
end L2
namespace PL
open PySem PySem.Spec PyProof.Rows L2
def Bp (m:kn (Int×Int))(k v:Int):kn (Int×Int):=if (m.any λp=>decide (p.1=k))=true then m.map (λp=>if p.1=k then (p.1,v) else p) else m ++ [(k,v)]
def B5 (m:kn (Int×Int))(k:Int):Int:=((m.find? λp=>decide (p.1=k)).map (·.2)).getD 0
def dW (m:kn (Int×Int))(k:Int):((FX m).any λb=>decide (b.1=(.inl k:Bx)))=m.any λp=>decide (p.1=k):=by
 induction m with
 | nil=>rfl
 | cons p r a=> unfold FX at a ⊢;rw[AAM,ABm,ABm,a];congr 1;simp
def Wa (m:kn (Int×Int))(k v:Int):FX (Bp m k v)=Fb (FX m) (.inl k) (.int v):=by
 unfold Bp Fb;rw[dW];split
 .unfold FX;rw[AA3,AA3];apply ACN;intro p _;simp only[Function.comp];by_cases h:p.1=k
  .simp [h]
  .simp [h]
 .unfold FX;rw[ABl];rfl
def dX (m:kn (Int×Int))(k:Int):(JT (FX m) (.inl k)).getD (.int 0)= .int (B5 m k):=by
 induction m with
 | nil=>rfl
 | cons p r a=>
   unfold FX at a ⊢;rw[AAM];by_cases h:p.1=k
   .rw [Gy (by simp[h])];simp[B5,h]
   .rw [Gx (by simp[h]),a];simp[B5,h]
def JG (m:kn (Int×Int))(k v:Int):(Bp m k v).length<=m.length+1:=by
 unfold Bp;split
 .rw [AAO];omega
 .simp
def BV (many:Int)(m:kn (Int×Int)):kn (Int×Int):=m.foldl (λa p=>Bp a p.1 (many*p.2)) []
def Qn {m:kn (Int×Int)}{i:Nat}(h:i<m.length):(FX m)[i]? =some (.inl m[i].1, .int m[i].2):=by unfold FX;rw[AAr,AAS h];rfl
def HD {c a:Type}{f:a->c->a}{b:a}{m:kn c}{i:Nat}(h:i<m.length):(m.take (i+1)).foldl f b=f ((m.take i).foldl f b) m[i] :=by rw[List.take_succ_eq_append_getElem h,ACh];rfl
def dC {K:AAD}{H:Hp}{r:L2.St}{s:Nat}{many:Int}{d n ep:Nat}{m:kn (Int×Int)}{Q:V->Hp->Prop}(y:Nz H d n ep (FX m))(A:r[s]? =some (some (.int many)))(hl:m.length<sizeLine)(ok:∀p∈m,MulOk many p.2)(q:∀D c,H D=none->(∀b o,H b=some o->c b=some o)->c D=some (.dK (FX (BV many m)))->Q (.ref D) c):∀D,H D=none->∃W:Nat->Nat->Hp->Prop,(∃k,W 0 k (upd H D (.dK [])))/\QS (Itm d n ep) D (CQ 2 [s] r) (Uq K 2 (FW (Cw 0) (FW (Cw 1) Qa))) fx (IN 0) (fw (rI MulOk λi j=> .int (i*j)) (IN 2) (IN 1)) (Q (.ref D)) W:=by
 intro D u;have B:CQ 2 [s] r= [none,none,some (.int many)] :=by unfold CQ;simp[A]
 rw[B];let W:Nat->Nat->Hp->Prop:=λi k c=>i+k=m.length/\(∀b o,H b=some o->c b=some o)/\c D=some (.dK (FX (BV many (m.take i))))/\(BV many (m.take i)).length<=i;refine⟨W,⟨m.length,ADt _,λb o e=>by rw[Ah (Av e u)];exact e,Af,AAL _⟩, ?_⟩;rintro i k c ⟨hi,ex,l,C⟩;have f:Nz c d n ep (FX m):=let ⟨o,es,a,b⟩:=y;⟨o,es,ex _ _ a,b⟩;cases k with
 | zero=> left;refine⟨⟨_,f,by unfold FX;rw[AAO];omega⟩,q D c u ex ?_⟩;rw[ABk (by omega)] at l;exact l
 | succ k=>
   right;have g:i<m.length:=by omega
   refine⟨⟨_,_,_,f,Qn g⟩,λx F E=> ?_⟩;obtain⟨t,G,I,rfl,v,rfl,hu⟩:=E;have hx:=hu _ f;rw[Qn g] at hx;cases hx;have J:D≠t:=λz=>by subst z;rw[l] at v;cases v
   have h:∀b o,c b=some o->upd c t (.tup [kV (.inl m[i].1), .int m[i].2]) b=some o:=λb o e=>by rw[Ah (Av e v)];exact e
   refine⟨t,_,rfl, .inl (.inl (.inl Af)),rfl,_,_,rfl,_,_,rfl,rfl, ?_⟩;dsimp only[fx];rw[AAG rfl];refine⟨_,rfl,_,rfl,_,rfl,many,m[i].2,rfl,rfl,ok _ (AA2 g), ?_⟩;refine⟨.inl m[i].1,_,rfl,h _ _ l,by unfold FX;rw[AAO];omega,k,by omega,by omega,λb o e=> ?_, ?_, ?_⟩
   .rw [Ah (Av e u)];exact h _ _ (ex _ _ e)
   .rw [Af];unfold BV;rw[HD g,Wa]
   .unfold BV at C ⊢;rw[HD g];have:=JG ((m.take i).foldl (λw p=>Bp w p.1 (many*p.2)) []) m[i].1 (many*m[i].2);omega
def BS (more:Int)(a m:kn (Int×Int)):kn (Int×Int):=m.foldl (λa p=>Bp a p.1 (B5 a p.1+more*p.2)) a
def aH (d a b c:Nat):TS:=gf (IN d) (IN a) (fw (RM λi j=> .int (i+j)) (cC (IN d) (IN a) (tC (.int 0))) (fw (rI MulOk λi j=> .int (i*j)) (IN c) (IN b)))
def di {K:AAD}{H H1:Hp}{σ0:L2.St}{D:QG}{B c f s:Nat}{more:Int}{d n ep a:Nat}{m acc0:kn (Int×Int)}(U:B≠c)(X:B≠f)(Y:s≠c)(Z:s≠f)(n5:c≠f)(l1:c<σ0.length)(l2:f<σ0.length)(fd:Nz H d n ep (FX m))(ha:H a=none)(J:∀b o,H b=some o->H1 b=some o)(h1:H1 a=some (.dK (FX acc0)))(hw:σ0[B]? =some (some (.ref a)))(hm:σ0[s]? =some (some (.int more)))(ok:∀p∈m,MulOk more p.2)(hl:acc0.length+m.length<sizeLine)(L:∀σ' g,σ'.length=σ0.length->(∀j,j≠c->j≠f->σ'[j]? =σ0[j]?)->(∀b o,H b=some o->g b=some o)->g a=some (.dK (FX (BS more acc0 m)))->D.nx σ' g):∃W:Nat->Nat->L2.St->Hp->Prop,(∃k,W 0 k σ0 H1)/\∀i k v g,W i k v g-> ((Itm d n ep).stop i g/\D.nx v g)\/((Itm d n ep).go i g/\∃N:L2.St->Hp->Prop,(∀σ' w,N σ' w->∃Q,Q<k/\W (i+1) Q σ' w)/\∀x w,(Itm d n ep).yld i g x w->Uq K 2 (FW (Cw c) (FW (Cw f) Qa)) x v w λl R=>aH B c f s {D with nx:=N,ct:=N,bk:=D.nx} l R):=by
 let W:Nat->Nat->L2.St->Hp->Prop:=λi k v g=>i+k=m.length/\(v.length=σ0.length/\∀j,j≠c->j≠f->v[j]? =σ0[j]?)/\(∀b o,H b=some o->g b=some o)/\g a=some (.dK (FX (BS more acc0 (m.take i))))/\(BS more acc0 (m.take i)).length<=acc0.length+i;refine⟨W,⟨m.length,ADt _,⟨rfl,λ_ _ _=>rfl⟩,J,h1,AAL _⟩, ?_⟩;rintro i k v g ⟨hi,⟨S,T⟩,ex,M,yt⟩;have y:Nz g d n ep (FX m):=let ⟨o,es,a,b⟩:=fd;⟨o,es,ex _ _ a,b⟩;cases k with
 | zero=> left;refine⟨⟨_,y,by unfold FX;rw[AAO];omega⟩,L v g S T ex ?_⟩;rw[ABk (by omega)] at M;exact M
 | succ k=>
   right;have C:i<m.length:=by omega
   refine⟨⟨_,_,_,y,Qn C⟩,λσ' w=>W (i+1) k σ' w,λσ' w h=>⟨k,by omega,h⟩,λx w yl=> ?_⟩;obtain⟨t,kk,xx,rfl,hn,rfl,hu⟩:=yl;have hx:=hu _ y;rw[Qn C] at hx;cases hx;have z:∀b o,g b=some o->upd g t (.tup [kV (.inl m[i].1), .int m[i].2]) b=some o:=λb o e=>by rw[Ah (Av e hn)];exact e
   refine⟨t,_,rfl, .inl (.inl (.inl Af)),rfl,_,_,rfl,_,_,rfl,rfl, ?_⟩;generalize G:(v.set c (some (kV (.inl m[i].1)))).set f (some (V.int m[i].2))=l;have A:l.length=σ0.length:=by rw[<-G];simp[S]
   have r:∀j,j≠c->j≠f->l[j]? =σ0[j]? :=λj h h'=>by rw[<-G,AAc (AAz h'),AAc (AAz h)];exact T j h h'
   have E:l[c]? =some (some (.int m[i].1)):=by rw[<-G,AAc (AAz n5),ACD (by omega)];rfl
   have O:l[f]? =some (some (.int m[i].2)):=by rw[<-G,ACD (by simp;omega)]
   have F:l[B]? =some (some (.ref a)):=by rw[r B U X];exact hw
   have P:l[s]? =some (some (.int more)):=by rw[r s Y Z];exact hm
   have I:=z _ _ M;generalize hH:upd g t (.tup [kV (.inl m[i].1), .int m[i].2])=R at z I;refine⟨_,F,a,rfl, .inl ⟨_, .inl I⟩,_,E,_,OI.k (k:= .inl m[i].1) I,_,P,_,O,more,m[i].2,rfl,rfl,ok _ (AA2 C), ?_⟩;rw[dX];refine⟨_,_,rfl,rfl,_,F,_,E,a,_,rfl,UJ.k (k:= .inl m[i].1) I (by unfold FX;rw[AAO];omega),by omega,⟨A,r⟩,λb o e=> ?_, ?_, ?_⟩
   .rw [Ah (Av e ha)];exact z _ _ (ex _ _ e)
   .rw [Af];unfold BS;rw[HD C,Wa]
   .unfold BS at yt ⊢;rw[HD C];have:=JG ((m.take i).foldl (λu p=>Bp u p.1 (B5 u p.1+more*p.2)) acc0) m[i].1 (B5 ((m.take i).foldl (λu p=>Bp u p.1 (B5 u p.1+more*p.2)) acc0) m[i].1+more*m[i].2);omega
def v5 (a:TE):TI:=λb H R=>a b H λv H1=>∃d n ep kvs,v= .ref d/\Nz H1 d n ep kvs/\R (Itm d n ep) H1
def yM (K:AAD)(a:TE)(b c:Nat):TS:=Vj (cB (v5 a) 2 [c] (Uq K 2 (FW (Cw 0) (FW (Cw 1) Qa))) fx (IN 0) (fw (rI MulOk λi j=> .int (i*j)) (IN 2) (IN 1))) (Cw b)
def wD (K:AAD)(d:TE)(e a b c:Nat):TS:=pH (v5 d) (Uq K 2 (FW (Cw a) (FW (Cw b) Qa))) (aH e a b c)
section
variable {K:AAD}{B:Cu}{T:kj->Prop}{H:Hp}{σ σ':L2.St}{τ τ':A6}
def SR.loose (s:SR K B T H σ τ)(hl:σ'.length=τ'.length)(h:∀(j:Nat) (a:AV),τ'[j]? =some (some a)->τ[j]? =some (some a)/\σ'[j]? =σ[j]?):SR K B T H σ' τ'/\∀b,CZ σ' τ' b->CZ σ τ b:=by
 have i:∀b,CZ σ' τ' b->CZ σ τ b:=λb ⟨j,xs,h1,h2⟩=>let ⟨c,d⟩:=h j _ h1;⟨j,xs,c,by rw[<-d];exact h2⟩;have l:Mv K T (mt B σ τ) H T (mt B σ' τ') H:= .anti s.va λa m=>m.elim .inl λz=> .inr (i a z);refine⟨⟨hl,λj y e=> ?_,λj f e=> ?_,λj k f r p t u n o=> ?_,s.tp,s.bm,s.bt,s.st⟩,i⟩
 .obtain ⟨c,d⟩:=h j _ e;obtain⟨w,hw,g⟩:=s.val j y c;exact⟨w,by rw[d];exact hw,g.mv l⟩
 .obtain ⟨c,d⟩:=h j _ e;obtain⟨p,vs,h1,h2,h3,v⟩:=s.own j f c;exact⟨p,vs,by rw[d];exact h1,h2,h3.mv l,v⟩
 .obtain ⟨c,d⟩:=h j _ t;obtain⟨x,b2⟩:=h k _ u;rw[d] at n;rw[b2] at o;exact s.dist j k f r p c x n o
end
def d4 (x:PV)(R:kn (Int×Int)->Prop):Prop:=match x with | .dk m=>R m|_=>False
def Wm {x:PV}{R:kn (Int×Int)->Prop}(h:d4 x R):∃m,x= .dk m/\R m:=by cases x <;> first | exact⟨_,rfl,h⟩|exact h.elim
def ZO (c a b e d:Nat)(f g:AE):AS:=λD τ=>(c<τ.length/\a<τ.length/\b<τ.length)/\f τ λx=>d4 x λm1=>∃many,τ[e]? =some (some (.val (.int many)))/\m1.length<sizeLine/\(∀p∈m1,MulOk many p.2)/\
 g (τ.set c none) λy=>d4 y λm2=>∃more,τ[d]? =some (some (.val (.int more)))/\(BV many m1).length+m2.length<sizeLine/\(∀p∈m2,MulOk more p.2)/\
 D.nx (((τ.set c (some (.val (.dk (BS more (BV many m1) m2))))).set a none).set b none)
def tY {k:Nat}{A:fe}(a:Room k A):A.units+1<cLine:=by have:=a.un;omega
section
variable {X:Cx}
def bj {e1 e2:kf}{ta tb:AE}{m p:Stmt}{rest:kn Stmt}{b:AS}{f g k im s:Nat}(n1:f≠g)(n2:f≠k)(n3:s≠g)(n4:s≠k)(n5:g≠k)(n6:s≠f)(h1:SE X e1 ta)(h2:SE X e2 tb)(p1:∀I,PE X e1 I->PS X m (yM X.K I f im))(p2:∀I,PE X e2 I->PS X p (wD X.K I f g k s))(h3:Xf X rest b):Xf X (m::p::rest) (Aa (ZO f g k im s ta tb) b):=by
 obtain⟨t1,q1,s1⟩:=h1;obtain⟨t2,q2,s2⟩:=h2;obtain⟨t3,q3,s3⟩:=h3;refine⟨_,Cc (p1 t1 q1) (Cc (p2 t2 q2) (fA (i:=f) q3)),λB T J τ H D AD A h er=> ?_⟩;obtain⟨⟨l0,l1,l2⟩,h⟩:=h;refine s1 B T J τ H _ _ A h λv x T1 H1 m r1 h1=> ?_;obtain⟨m1,rfl,many,nA,Y,Z,h1⟩:=Wm h1;have u:=A.stp m;obtain⟨vm,zG,rvm⟩:=u.val _ _ nA;cases rvm;cases r1 with
 | dk hh eo=>
 rename_i d o es ep;have L:Nz H1 d m1.length ep (FX m1):=⟨o,es,hh,eo,by unfold FX;rw[AAO]⟩;refine⟨_,_,_,_,rfl,L, ?_⟩;refine dC (K:=X.K) (Q:=λx H1=>Cw f x J H1 (pN (wD X.K t2 f g k s) (kr f t3) D)) L zG Y Z λa H2 ha ex hD=> ?_;have M:¬T1 a:=λz=>by obtain⟨o,e,_⟩:=(u.tp a z).mut;rw[ha] at e;cases e
 have N:Ct T1 H1 T1 H2:=fi u.va ex;have sr2:=u.stp N;obtain⟨O,_⟩:=sr2.loose (σ':=J.set f (some (.ref a))) (τ':=τ.set f none) (by simp[A.len]) λj c e=>by
  rcases BD e with⟨_,C,_⟩|⟨n,C⟩
  .cases C
  .exact ⟨C,AAc (λz=>n z.symm)⟩
 refine s2 B T1 _ _ H2 _ _ O h1 λv2 y U G p r2 h2=> ?_;obtain⟨m2,rfl,more,nC,hsz,ok2,h2⟩:=Wm h2;obtain⟨vr,zH,rvr⟩:=A.val _ _ nC;cases rvr;have lS:G a=some (.dK (FX (BV many m1))):=p.keep _ _ M hD;have na2:¬U a:=λz=>by
  rcases p.new a z with z|z
  .exact M z
  .rw [hD] at z;cases z
 cases r2 with
 | dk W P=>
 rename_i d2 o2 R ep2;have da:d2≠a:=λz=>by subst z;rw[lS] at W;cases W
 have fd2:Nz G d2 m2.length ep2 (FX m2):=⟨o2,R,W,P,by unfold FX;rw[AAO]⟩;refine⟨_,_,_,_,rfl,fd2, ?_⟩;let H0:Hp:=λb=>if b=a then none else G b
 have E:(J.set f (some (V.ref a))).length=τ.length:=by simp[A.len]
 refine di (K:=X.K) (H:=H0) (H1:=G) (σ0:=J.set f (some (V.ref a))) (D:={D with nx:=kr f t3 D}) (acc0:=BV many m1) (a:=a) (more:=more) n1 n2 n3 n4 n5 (by rw[E];exact l1) (by rw[E];exact l2) ⟨o2,R,(AAF da).trans W,P,by unfold FX;rw[AAO]⟩ (AAG rfl) (λb o e=> ?_) lS ?_ ?_ ok2 hsz λσ' H4 sl so S ya=> ?_
 .by_cases z:b=a
  .rw [show H0 b=none from AAG z] at e;cases e
  .rw [show H0 b=G b from AAF z] at e;exact e
 .rw [ACD (by rw[A.len];exact l0)]
 .rw [AAc (λz=>n6 z.symm)];exact zH
 refine⟨a,_, ?_,ya,λo es ep eo=> ?_⟩
 .rw [so f n1 n2,ACD (by rw[A.len];exact l0)]
 have l:Ct T H U G:=(m.trans N).trans p;have St:Ct T H U (upd H4 a (.frz o (.dK (FX (BS more (BV many m1) m2))))):=by
  refine⟨λb q nt e=> ?_,l.sub,l.new,λx t=> ?_⟩
  .have z:b≠a:=λz=>by subst z;have:=m.keep _ _ nt e;rw[ha] at this;cases this
   rw[Ah z];exact S b q ((AAF z).trans (l.keep b q nt e))
  .have z:x≠a:=λz=>by subst z;exact na2 t
   obtain⟨d,w,e,r⟩:=l.tp x t;exact⟨d,w,by rw[Ah z];exact S _ _ ((AAF z).trans e),r⟩
 have sr5:=A.stp St;have sr6:=sr5.set (i:=f) (v:= .ref a) (x:= .dk (BS more (BV many m1) m2)) (.dk Af eo);obtain⟨sr7,ow⟩:=sr6.loose (σ':=σ') (τ':=((τ.set f (some (.val (.dk (BS more (BV many m1) m2))))).set g none).set k none) (by rw[sl,E];simp) λj c e=>by
  rcases BD e with⟨_,C,_⟩|⟨k2,C⟩
  .cases C
  .rcases BD C with⟨_,F,_⟩|⟨k1,F⟩
   .cases F
   .exact ⟨F,so j k1 k2⟩
 exact s3 B U σ' _ _ D AD sr7 h2 (er.shift (St.prog.trans (.less λb z=>Ca (ow b z))))
end
end PL
namespace L2
open PySem PySem.Spec PyProof.Rows
def qw (K:AAD)(l:kj):It:=
 ⟨λi H=>∃xs x,FR K H l xs/\xs[i]? =some x,
  λi H v a=>∃T x,v= .ref T/\H T=none/\a=upd H T (.tup [.int i,x])/\∀xs,FR K H l xs->xs[i]? =some x,
  λi H=>∃xs,FR K H l xs/\xs.length<=i⟩
def Yn {P:kd}{w:kc}{K:AAD}{es:kn kf}{x1:Nat}{pos:Pos}{e it l:kj}(B:e≠it):LG P w K (.Tuple es x1 pos) (qw K l) [e,it] e (λk h=>(∃b,IsEnum h e it (k:Nat) b)/\h.IsListIter it l k) where
 mem:=by simp
 obj:=λk h st p hp=>by
  obtain⟨⟨b,he⟩,hi⟩:=st;have f:p=e\/p=it:=by simpa using hp
  rcases f with q|q
  .subst q;exact⟨_,he,λv z=>nomatch z⟩
  .subst q;obtain⟨o,a,c,d⟩:=hi;exact⟨o,a,λv z=>by rw[d] at z;cases z⟩
 keep:=λk h h' st j=>by obtain⟨⟨b,he⟩,hi⟩:=st;exact⟨⟨b,j e (by simp) _ he⟩,hi.at λo a=>j it (by simp) o a⟩
 item:=by
  intro X r hw t hc k C s D H E I m st y;subst r hw t;obtain⟨⟨b,he⟩,hi⟩:=st;obtain⟨xs,x,n,hx⟩:=y;obtain⟨its,rv,p,G⟩:=I.list n;obtain⟨u,hu,J⟩:=rv.get hx;have i:e<s.heap.objs.size:=AAH he;have A:it<s.heap.objs.size:=by obtain⟨o,a,_⟩:=id hi;exact AAH a
  refine wpAny_pyNext_enum_item he hi p.isList (x:=u) (by simpa using hu) B λh1 L M N Y O=> ?_;refine⟨_,rfl,wpAny_letOwnedTupleGo_enum (s:={s with heap:=h1,toks:=s.toks+1}) L λh2 Q R=> ?_⟩;have g:∀p o,p≠e->h1.get? p=some o->h2.get? p=some o:=λp o q z=>R.extBut _ _ q z;have F:∀p∈ [e,it],p<s.heap.objs.size:=λp hp=>by
   have f:p=e\/p=it:=by simpa using hp
   rcases f with q|q
   .rw [q];exact i
   .rw [q];exact A
  have j:∀p o,p ∉ [e,it] ->s.heap.get? p=some o->h2.get? p=some o:=λp o hp z=>by
   have f:p≠e/\p≠it:=by simpa using hp
   exact g p o f.1 (O p o f.1 f.2 z)
  have S:Inv X C D (upd H s.heap.objs.size (.tup [.int k,x])) {s with heap:=h2,toks:=s.toks+1}:=I.turnedN m F j (AAL _)
   ⟨(by show 2<=sizeLine;decide), [.int k s.toks,u], .cons ⟨_,rfl⟩ (.cons J .nil),⟨_,g _ _ (AAh i) N,rfl,_,rfl⟩⟩
  have T:H s.heap.objs.size=none:=I.fresh;refine⟨.ref s.heap.objs.size,upd H s.heap.objs.size (.tup [.int k,x]),S,rfl,⟨_,x,rfl,T,rfl,λU h'=> ?_⟩,⟨⟨u, ?_⟩, ?_⟩,λp hp=> ?_⟩
  .rw [I.list_inj h' n];exact hx
  .have:((k+1:Nat):Int)=(k:Int)+1:=by push_cast;rfl
   rw[this];exact Q
  .exact M.at λo z=>g it o B.symm z
  .rw [Ah (AAN (F p hp))];exact(m p hp).1
 done:=by
  intro X r hw t hc k C s D H E I m st y;subst r hw t;obtain⟨⟨b,he⟩,hi⟩:=st;obtain⟨xs,n,hx⟩:=y;obtain⟨its,rv,p,G⟩:=I.list n;have hl:=rv.length;refine wpAny_pyNext_enum_end (I.ok.hd hc) he hi p.isList (by simp;omega) λh' W=>⟨rfl, ?_⟩;exact I.turnedL (t':=s.toks) m λp o hp z=>by
   have f:p≠e/\p≠it:=by simpa using hp
   exact W p o f.2 z
 self:=λ_ _ _ _ _ st h=>by obtain⟨⟨b,he⟩,_⟩:=st;exact ADu he h
section
variable {X:Cx}
def nI (K:AAD)(a:TA):TI:=λb H R=>a b H λvs H1=>∃l,vs= [.ref l] /\(∃xs,FR K H1 l xs)/\R (qw K l) H1
def eQ {e:kf}{d:TA}{p pos b:Pos}{es:kn kf}{x1:Nat}(i:Gl X "enumerate")(j:X.mg "enumerate" =none)(ha:PA X [e] d)(hs:starEach [e] X.env= [(false,eval e X.env)] :=by rfl):PI X (.Tuple es x1 b) (.Call (.Name "enumerate" p) [e] [] pos) (nI X.K d):=by
 intro k s m H R I h;refine Call_ (FE I i j boot_enumerate (ABu (BO (ha pos k s m H _ I h) λv a ⟨vs,H1,c,n,o⟩=> ?_) (by rw[hs];rfl) rfl));obtain⟨l,rfl,⟨xs,hl⟩,q⟩:=o;cases n with
 | cons r t=>
 cases t;cases r;obtain⟨its,rv,p,w⟩:=c.list hl;refine call_enumerate_list p.isList λh' f b2 x u=> ?_;refine ADu f ?_;have g:∀p∈ [a.heap.objs.size+1,a.heap.objs.size],a.heap.objs.size<=p:=λp hp=>by
  have y:p=a.heap.objs.size+1\/p=a.heap.objs.size:=by simpa using hp
  omega
 exact⟨_,_,_,_,H1,rfl,c.kept (t':=a.toks) u,Yn (Nat.succ_ne_self _),⟨⟨.none,f⟩,b2⟩,λp hp=>c.fpOk (g p hp) (c.hok.fresh (g p hp)),q⟩
end
end L2
namespace PL
open PySem PySem.Spec PyProof.Rows L2
def EX (k:Nat):kn PV->kn PV
 | [] => []
 | x::r=> .tup [.int k,x] :: EX (k+1) r
theorem PD:∀(xs:kn PV) (k:Nat),(EX k xs).length=xs.length
 | [],_=>rfl
 | _::r,k=>by rw[EX,AAp,PD r,AAp]
theorem Jp:∀(xs:kn PV) (k i:Nat) (z:PV),(EX k xs)[i]? =some z->∃x,xs[i]? =some x/\z= .tup [.int ((k+i:Nat):Int),x]
 | [],_,_,_,h=>by simp[EX] at h
 | x::r,k,0,z,h=>⟨x,rfl,by simp[EX] at h;rw[<-h];rfl⟩
 | x::r,k,i+1,z,h=>by obtain⟨y,h1,h2⟩:=Jp r (k+1) i z (by simpa[EX] using h);refine⟨y,by simpa using h1, ?_⟩;rw[h2,show k+1+i=k+(i+1) by omega]
def YE {K:AAD}{T M:kj->Prop}{H:Hp}{l:kj}{xs:kn PV}(va:Kb T M H)(r:Cn K T M H (.ref l) (.lst xs)):UU K M (qw K l) (EX 0 xs) T H:=by
 obtain⟨a,vs,e,f,m,n,b⟩:=C8 r;cases e;have c:FR K H l vs:= .inl (.inl f);refine⟨λi z h=> ?_,λi z v s h g=> ?_,λi h=>⟨vs,c, ?_⟩⟩
 .obtain ⟨x,hx,_⟩:=Jp xs 0 i z h;obtain⟨u,hu,_⟩:=b.get hx;exact⟨vs,u,c,hu⟩
 .obtain ⟨x,hx,rfl⟩:=Jp xs 0 i z h;obtain⟨p,u,rfl,j,rfl,hu⟩:=g;obtain⟨t,d,k⟩:=b.get' (hu vs c);rw[hx] at d;cases d;have st:=Ct.lay (o:= .tup [.int (i:Nat),u]) va.tp j;rw[ADt];exact⟨st, .tup (.inl Af) (.cons (.int _) (.cons (k.stp st va) .nil))⟩
 .rw [b.length];rw[PD] at h;exact h
section
variable {X:Cx}
def qF (r:AA):AI:=λτ Q=>r τ λa=>match a with | [.lst xs] =>Q (EX 0 xs)|_=>False
def ou {e:kf}{r:AA}{p pos b:Pos}{es:kn kf}{x1:Nat}(c:Gl X "enumerate")(d:X.mg "enumerate" =none)(ha:SA X [e] r)(hs:starEach [e] X.env= [(false,eval e X.env)] :=by rfl):SI X (.Tuple es x1 b) (.Call (.Name "enumerate" p) [e] [] pos) true (qF r):=by
 obtain⟨t,f,s⟩:=ha;refine⟨_,eQ c d f hs,λB T g τ H R u i h k=>s B T g τ H _ _ i h λvs xs T1 H1 j l h1=> ?_⟩;split at h1 <;> first | exact h1.elim|skip
 cases l with
 | cons ra t=> cases t;obtain⟨a,m,rfl,n,_,_,v⟩:=C8 ra;exact⟨a,rfl,⟨m, .inl (.inl n)⟩,k _ _ T1 H1 j (λM2 w x o va _=>YE va (ra.mv o)) h1⟩
end
end PL
namespace L2
open PySem PySem.Spec PyProof.Rows
def Se {prog:kd}{w:kc}{A:fe}(c:A.handled=none)(b:ke)(it l:kj)(d:l≠it)(items:Array km):Draws prog w A it [it,l] items.size (λi v=>items[i]? =some v) (λi h=>N0 b h it l i/\Ka b h l items) where
 live:=λ_ _ st=>let ⟨o,f,_⟩:=st.1.obj;⟨o,f⟩
 frame:=λ_ _ _ st hk=>⟨st.1.mv λo e=>hk it (by simp) o e,st.2.mv λo e=>hk l (by simp) o e⟩
 item:=λi s Q E hi st hQ=>by refine Ir st.1 st.2 (x:=items[i]) (by simp[hi]) λh' g a=> ?_;exact hQ _ h' s.toks (by simp[hi]) ⟨g,st.2.mv λo e=>a.extBut _ _ d e⟩ a
 done:=λs Q E st j=>Jo c st.1 st.2 (by simp) j
def XD {b:ke}{h:gn}{l:kj}{xs:Array km}(x:Ka b h l xs):∃o,h.get? l=some o/\(o.cls= .type "list" \/o.cls= .type "tuple"):=by
 cases b with
 | true=>obtain⟨o,a,c,_⟩:=x;exact⟨o,a, .inl c⟩
 | false=>obtain⟨o,a,c,_⟩:=x;exact⟨o,a, .inr c⟩
def Hv (b:ke)(l:kj)(items:Array km):Meets (Builtin.«enumerate.__new__» ⟨[.type "enumerate", .ref l], []⟩) (λ_ R s=>Ka b s.heap l items/\ R (.ok (.ret (.ref (s.heap.push (U0 b l)).objs.size))) {s with heap:=(s.heap.push (U0 b l)).push {cls:= .type "enumerate",data:= .fields #[.none, .bool false, .ref s.heap.objs.size,rawInt 0, .none, .none] }}):=
 .of_wp λprog w A R s h=>by
   obtain⟨hp,g,d,e,os⟩:=s;obtain⟨hl,h⟩:=h;have f:=sub_enumerate;have a:Ka b hp l items:=hl
   wp_walk using Jt a
   refine wpAny_stack_any λst=>AAE ?_;split
   .rename_i c _ _ _ _ _;cases (c==Value.type "enumerate")
    .wp_walk using Jt a
     exact⟨_,rfl,h⟩
    .wp_walk using Jt a
     exact⟨_,rfl,h⟩
   .wp_walk using Jt a
    exact⟨_,rfl,h⟩
section
variable {prog:kd}{w:kc}{A:fe}{E:km->kl->Prop}{s:kl}
def Il {b:ke}{l:kj}{items:Array km}{Q:km->kl->Prop}(c:Ka b s.heap l items)(h:∀h',IsEnum h' (s.heap.objs.size+1) s.heap.objs.size 0 .none->N0 b h' s.heap.objs.size l 0->h'.objs.size=s.heap.objs.size+2-> (∀b o,s.heap.get? b=some o->h'.get? b=some o)->Q (.ref (s.heap.objs.size+1)) {s with heap:=h'}):wpAny (model prog w) A (call (.type "enumerate") [.ref l]) Q E s:=by
 refine callType_new F.called_enumerate (by decide) (F.typeCall_enumerate_1 _) (F.newCall_enumerate_1 _) (λobj=>F.args_object_init_2 obj _) F.entry_enumerate_new
  (Hv b l items) ⟨c, ?_⟩
 have a:(s.heap.push (U0 b l)).objs.size=s.heap.objs.size+1:=AA1 ..;show _/\_;rw[a];have he:IsEnum ((s.heap.push (U0 b l)).push
  {cls:= .type "enumerate",data:= .fields #[.none, .bool false, .ref s.heap.objs.size,rawInt 0, .none, .none] }) (s.heap.objs.size+1) s.heap.objs.size 0 .none:=by
  have:=AAR (s.heap.push (U0 b l))
   (o:={cls:= .type "enumerate",data:= .fields #[.none, .bool false, .ref s.heap.objs.size,rawInt 0, .none, .none] }) rfl
  rw[a] at this;exact this
 exact⟨⟨_,he,rfl⟩,h _ he (Z9 (AAI _ (AAR _ rfl))) (by rw[AA1,a]) λb o x=>AAI _ (AAI _ x)⟩
end
end L2
namespace L2
open PySem PySem.Spec PyProof.Rows
section
variable {prog:kd}{w:kc}{A:fe}{E:km->kl->Prop}{s:kl}
def bU {d:km}{Q:km->kl->Prop}(h:∀(g:ke),wpAny (model prog w) A.in1.in1 (Builtin.«set.__init__» {pos:= [.ref s.heap.objs.size,d] }) (λj b=> match j with
     | Fin.done f=>wants (λr i=>r=Value.none/\Q (.ref s.heap.objs.size) i) E (Except.ok f) b
     | Fin.again l=>l.quiet=true/\codeAny (model prog w) A.in1 l (wants (λr i=>r=Value.none/\Q (.ref s.heap.objs.size) i) E) b)
   (λe b=>wants (λr i=>r=Value.none/\Q (.ref s.heap.objs.size) i) E (Except.error e) b) {s with heap:=s.heap.push {cls:= .type "set",data:= .set #[] 0 (SetTable.fresh 0 0 g)}}):
 wpAny (model prog w) A (call (.type "set") [d]) Q E s:=by
 obtain⟨c,y,p⟩:=ACi.mro;refine ACV (codeAny_of_tree ?_)
 wp_walk
 refine⟨by kernel_rfl,ACj F.entry_type_call ?_⟩;rw[Around.under_plain (weight_type_call_type ..) rfl];show wpAny (model prog w) A.in1 (Builtin.«type.__call__» {pos:= [.type "set",d] }) _ _ s;unfold Builtin.«type.__call__»;simp only[ACi.notType,ACi.canCreate,F.typeCall_set_1,p,ACi.made,pure_bind,List.isEmpty_cons,AAt,AAn];refine AAC (AAg (ACV (ACF (code_set_new_1 (Q₁:=λobj o=>∃g,obj= .ref s.heap.objs.size/\o={s with heap:=s.heap.push {cls:= .type "set",data:= .set #[] 0 (SetTable.fresh 0 0 g)}}) (E:=E) d λg=>⟨g,rfl,rfl⟩) λr o k=> ?_)));match r,k with
 | .error e,k=>exact k
 | .ok (.ret obj),k=>
   obtain⟨g,rfl,rfl⟩:=k;have t:(s.heap.push {cls:= .type "set",data:= .set #[] 0 (SetTable.fresh 0 0 g)}).get? s.heap.objs.size=some {cls:= .type "set",data:= .set #[] 0 (SetTable.fresh 0 0 g)}:=AAR _ rfl;have n:Shared.TypeIs {s with heap:=s.heap.push {cls:= .type "set",data:= .set #[] 0 (SetTable.fresh 0 0 g)}} (.ref s.heap.objs.size) "set" :=⟨_,t,rfl⟩;refine AAC (ACB n ACi.sub ?_);simp only[ABM,AAt,AAn];refine AAC (AAg ?_);unfold callSpecial?;refine AAC (ABp n ADv.lookup ?_);refine AAg (AAC (ACL (ADv.bind _) ?_));refine AAC (ACV (codeAny_call_builtin ADv.plain F.entry_set_init (check_set_init_1 n ?_)));have back:∀(v:km) (b:kl),(v=Value.none/\Q (.ref s.heap.objs.size) b)->wpAny (model prog w) A.in1 (pure (some v)) (λa b=>wpAny (model prog w) A.in1 (match a with
    | none=>ret (Value.ref s.heap.objs.size)
    | some r=>if (r != Value.none)=true then do
              rule "type.call.init-returned-value"
              let __do_lift <-typeNameOf r
              raiseErrorMade "TypeError" (toString "__init__() should return None, not '" ++ toString __do_lift++toString "'")
              ret (Value.ref s.heap.objs.size)
             else ret (Value.ref s.heap.objs.size)) (λj b=>
             match j with
             | Fin.done f=>
               match Except.ok f with
               | Except.ok (Flow.ret v)=>Q v b
               | Except.ok a=>False
               | Except.error e=>E e b
             | Fin.again l=>l.quiet=true/\codeAny (model prog w) A l (λr b=>
                    match r with
                    | Except.ok (Flow.ret v)=>Q v b
                    | Except.ok a=>False
                    | Except.error e=>E e b) b) (λe b=>E e b) b) (λe b=>E e b) b:=by rintro v b ⟨rfl,u⟩;refine AAE ?_;exact AAE u
   refine BO (h g) λj b m=> ?_;match j,m with
   | .done (.ret v),m=>exact back v b m
   | .again l,m=>
     refine⟨m.1,ACF m.2 λr x k=> ?_⟩;match r,k with
     | .error e,k=>exact k
     | .ok (.ret v),k=>exact back v x k
def YW {M:Model}{f:Nat->PUnit->Sem (ForInStep PUnit)}{Q:PUnit->kl->Prop}{n:Nat}(b:n=1)(h:wpAny M A (f 0 PUnit.unit) (λr a=>r=ForInStep.yield PUnit.unit/\Q PUnit.unit a) E s):wpAny M A (forIn [:n] PUnit.unit f) Q E s:=by subst b;rw[Std.Legacy.Range.forIn_eq_forIn_range'];show wpAny M A (forIn [0] PUnit.unit f) Q E s;rw[ACJ];refine AAC (BO h ?_);rintro r a ⟨rfl,c⟩;show wpAny M A (forIn [] PUnit.unit f) Q E a;rw[AC5];exact AAE c
def bP (k:Int)(a:Tok):byScan (.int k a) #[] =true:=by unfold byScan;simp[Value.scannable,scanBound]
def Uo (h:Int)(a:ke):∃j,(SetTable.fresh 0 0 a).freeSlot h=some (j,false):=⟨_,rfl⟩
def YK (h:Int)(x:km)(a:ke):∃t:SetTable,layNew (SetTable.fresh 0 0 a) #[] h x=(#[(h,x)],t,false,false)/\t.mask=7/\t.dummies= #[] /\t.place.size=1/\t.plain=true:=by obtain⟨j,e⟩:=Uo h a;unfold layNew;rw[e];exact⟨_,rfl,rfl,rfl,rfl,rfl⟩
def SN {d:kj}{o:Obj}{ep:Nat}{k:Int}{c:Tok}{v:km}{Q:km->kl->Prop}(hd:s.heap.get? d=some o)(hc:o.cls= .type "dict")(he:o.data= .dict #[⟨hashInt k, .int k c,v⟩] ep)(hs:(d==sysModules)=false)(q:∀(h':gn) (t:SetTable) (n:Nat),t.mask=7->t.dummies= #[] ->t.place.size=1->h'.get? s.heap.objs.size=some ⟨.type "set",none, .set #[(hashInt k, .int k c)] n t, #[]⟩->(∀b o,b<s.heap.objs.size->s.heap.get? b=some o->h'.get? b=some o)->h'.objs.size=s.heap.objs.size+1->Q (.ref s.heap.objs.size) {s with heap:=h'}):wpAny (model prog w) A (call (.type "set") [.ref d]) Q E s:=by
 obtain⟨cls,u,data,sl⟩:=o;simp only at hc he;subst hc he;refine bU λa=> ?_;have h:(s.heap.push {cls:= .type "set",data:= .set #[] 0 (SetTable.fresh 0 0 a)}).get? s.heap.objs.size=some {cls:= .type "set",data:= .set #[] 0 (SetTable.fresh 0 0 a)}:=AAR _ rfl;have i:=AAI {cls:= .type "set",data:= .set #[] 0 (SetTable.fresh 0 0 a)} hd;unfold Builtin.«set.__init__»
 wp_walk using ACL F.sub_dict_set,ACL F.sub_dict_frozenset
 refine YW rfl ?_;obtain⟨t,j,f,g,e,l⟩:=YK (hashInt k) (.int k c) a;have x:t.tooFull=false:=by unfold SetTable.tooFull SetTable.fill;rw[f,g,e];rfl
 wp_walk
 rw[AAG (show byScan #[({hash:=hashInt k,key:=Value.int k c,val:=v}:DictEntry)][0].key #[] =true from bP k c)];show wpAny (model prog w) A.in1.in1 (do
  let __do_lift <-setAddByScan s.heap.objs.size (.int k c) (hashInt k) #[] (SetTable.fresh 0 0 a);match __do_lift with
   | some added=>pure added
   | none=>setAddHashedIn s.heap.objs.size (.int k c) (hashInt k) 99999) _ _ _
 unfold setAddByScan;simp only[j]
 wp_walk
 rw[AAG rfl];have m:d<s.heap.objs.size:=AAH hd;have p:=(ADI (s.heap.push {cls:= .type "set",data:= .set #[] 0 (SetTable.fresh 0 0 a)}) d s.heap.objs.size (Obj.putSet #[(hashInt k, .int k c)] t) (AAN m)).trans i
 wp_walk using wpAny_loadPart' p
 refine⟨rfl,AAE (AAE ⟨rfl, ?_⟩)⟩;refine q _ t 1 f g e ?_ (λb o hb r=> ?_) ?_
 .exact AC1 (Obj.putSet #[(hashInt k, .int k c)] t) h rfl
 .rw [ADI _ _ _ _ (AAN hb)];exact AAI _ r
 .rw [Heap.size_update,AA1]
end
def QX:entryFor table "set.__or__" =some Builtin.«frozenset.__or__»:=
 entryFor_alias (id':="frozenset.__or__") (by kernel_rfl) (by first | rfl|decide +kernel|(unfold String.splitOn;simp +decide [String.splitOnAux])) (by decide +kernel) (by kernel_rfl)
abbrev Om (h:Int)(x:km)(n:Nat)(t:SetTable):Obj:=⟨.type "set",none, .set #[(h,x)] n t, #[]⟩
structure T1 (t:SetTable):Prop where
 m:t.mask=7
 d:t.dummies= #[]
 p:t.place.size=1
def T1.fits {t:SetTable}(h:T1 t):t.fits 1=true:=by unfold SetTable.fits SetTable.fill;rw[h.m,h.d,h.p];rfl
def T1.room {t:SetTable}(h:T1 t):t.roomFor 1=none:=by unfold SetTable.roomFor SetTable.fill;rw[h.m,h.d,h.p];rfl
section
variable {prog:kd}{w:kc}{A:fe}{E:km->kl->Prop}{s:kl}
def TB {S a:kj}{h:Int}{x:km}{n:Nat}{t:SetTable}{b:ke}{Q:Unit->kl->Prop}(e:s.heap.get? S=some ⟨.type "set",none, .set #[] 0 (SetTable.fresh 0 0 b), #[]⟩)(ha:s.heap.get? a=some (Om h x n t))(ne:(S==a)=false)(c:T1 t)(q:∀g:SetTable,T1 g->Q () {s with heap:=s.heap.update S (Obj.putSet #[(h,x)] g)}):wpAny (model prog w) A (setMerge S a) Q E s:=by
 unfold setMerge;rw[AAF (by rw[ne];decide)];refine AAC (ABV ha rfl c.fits ?_);show wpAny (model prog w) A (do
  setRoomFor S 1
  let __x <-setState S;match __x with
   | (fst,f,j)=>_) Q E s
 refine AAC ?_;unfold setRoomFor;refine AAC (ABV e rfl rfl ?_);show wpAny _ _ (pure ()) _ _ _;refine AAE (AAC (ABV e rfl rfl ?_));have i:(SetTable.fresh 0 0 b).road t=SetTable.Road.slotForSlot:=by unfold SetTable.road;rw[AAF (by cases b <;> decide),c.m,c.d];rfl
 dsimp only;rw[i];exact wpAny_storeSet_of e rfl (q _ ⟨c.m,c.d,c.p⟩)
def oC {a:Type}(f:Nat->Nat)(x:a):pickOrder f #[x] = #[x] :=by show pickOrder.go f 1 0 [x] #[] = #[x];simp[pickOrder.go,Nat.mod_one]
def walk1 {b:kj}{h:Int}{x:km}{n:Nat}{t:SetTable}{os:kn kj}{c:ki kj}{Q:Array (Int×km)->kl->Prop}(hb:s.heap.get? b=some (Om h x n t))(a:T1 t)(q:Q #[(h,x)] s):wpAny (model prog w) A (setWalkUnseen b os c) Q E s:=by
 unfold setWalkUnseen;refine AAC (ABV hb rfl a.fits ?_);unfold setsByText;refine AAC (AAC (ADJ (AAE ?_)));dsimp only;rw[AAG (by simp)];unfold setWalk;refine AAC (ABV hb rfl a.fits ?_);unfold setsByText;refine AAC (AAC (ADJ (AAE ?_)));dsimp only;split
 .refine AAC (ADJ (AAE ?_));dsimp only;rw[oC];exact q
 .split
  .rename_i d;exact absurd d (by show ¬(!t.plain&&decide (#[(h,x)].size>1))=true;simp)
  .refine AAC ?_;show wpAny _ _ (if (!t.led&&decide (#[(h,x)].size>1))=true then unsupported "set:maker-not-led" else pure ()) _ _ _;rw[AAF (by simp)];exact AAE (AAE q)
def YV {M:Model}{b:Type}{x:b}{f:b->PUnit->Sem (ForInStep PUnit)}{Q:PUnit->kl->Prop}(h:wpAny M A (f x PUnit.unit) (λr a=>r=ForInStep.yield PUnit.unit/\Q PUnit.unit a) E s):wpAny M A (forIn #[x] PUnit.unit f) Q E s:=by rw[<-ACs];show wpAny M A (forIn [x] PUnit.unit f) Q E s;rw[ACJ];refine AAC (BO h ?_);rintro r a ⟨rfl,c⟩;show wpAny M A (forIn [] PUnit.unit f) Q E a;rw[AC5];exact AAE c
def isInt_self (j:Int)(a:Tok):Value.isInt j (.int j a)=true:=by simp[Value.isInt]
def fJ {h:gn}{S:kj}{i:Int}{a:Tok}{n:Nat}{t:SetTable}(b:h.get? S=some (Om (hashInt i) (.int i a) n t))(c:T1 t):h.SetOf (intKind prog w) S (λk=>decide (k=i)) 1:=by
 refine⟨_,_,_,_,b, ?_,rfl, ?_, ?_, ?_,c.fits,rfl⟩
 .first | exact⟨rfl,rfl⟩|exact⟨rfl,rfl,rfl⟩|exact Or.inl rfl
 .intro e he;simp only[AAT] at he;subst he;exact⟨⟨i,isInt_self i a,rfl⟩,rfl⟩
 .intro k;simp[intKind,Value.isInt];exact eq_comm
 .simp [scanBound]
def YL {S b:kj}{i j:Int}{o c:Tok}{n m:Nat}{t u:SetTable}{id:String}{Q:Unit->kl->Prop}(f:s.heap.get? S=some (Om (hashInt i) (.int i o) n t))(hb:s.heap.get? b=some (Om (hashInt j) (.int j c) m u))(ne:(S==b)=false)(a:T1 t)(hu:T1 u)(q:∀h',Heap.SameBut S s.heap h'->h'.SetOf (intKind prog w) S (λk=>decide (k=i)||decide (k=j)) (if i=j then 1 else 2)->Q () {s with heap:=h'}):wpAny (model prog w) A (setMerge S b (Builtin.Frozenset.unchanged id b m)) Q E s:=by
 unfold setMerge;rw[AAF (by rw[ne];decide)];refine AAC (ABV hb rfl hu.fits ?_);show wpAny (model prog w) A (do
  setRoomFor S 1
  let __x <-setState S;match __x with
   | (fst,g,x)=>_) Q E s
 refine AAC ?_;unfold setRoomFor;refine AAC (ABV f rfl a.fits ?_);dsimp only;rw[a.room];refine AAE (AAC (ABV f rfl a.fits ?_));have r:t.road u=SetTable.Road.oneByOne:=by unfold SetTable.road SetTable.fill;rw[a.d,a.p];rfl
 dsimp only;rw[r];refine AAC (walk1 hb hu ?_);refine AAC (YV ?_);dsimp only;refine AAC (AAg (wpAny_setAddHashed_of (knd:=intKind prog w) (k:=j) (isInt_self j c) rfl (fJ f a) (by simp[scanBound]) λh' h v=> ?_));have l:h'.get? b=some (Om (hashInt j) (.int j c) m u):=by rw[h.2 b (λz=>by rw[z] at ne;simp at ne)];exact hb
 unfold Builtin.Frozenset.unchanged;refine AAC (AAC (wpAny_setEpoch_of l rfl hu.fits ?_));rw[AAF (by simp)];refine AAE (AAC (ABV l rfl hu.fits ?_));rw[AAF (by simp)];refine AAE ⟨rfl,AAE (q h' h ?_)⟩;have e:(if decide (j=i)=true then 1 else 1+1)=if i=j then 1 else 2:=by
  by_cases z:i=j
  .rw [AAG z,AAG (by simp[z])]
  .rw [AAF z,AAF (by simp;exact λy=>z y.symm)]
 rw[<-e];exact v
def eB {a b:kj}{i j:Int}{e v:Tok}{n m:Nat}{t u:SetTable}{Q:km->kl->Prop}(ha:s.heap.get? a=some (Om (hashInt i) (.int i e) n t))(hb:s.heap.get? b=some (Om (hashInt j) (.int j v) m u))(B:a≠b)(C:T1 t)(hu:T1 u)(q:∀(h':gn),h'.SetOf (intKind prog w) s.heap.objs.size (λk=>decide (k=i)||decide (k=j)) (if i=j then 1 else 2)->(∀c o,c<s.heap.objs.size->s.heap.get? c=some o->h'.get? c=some o)->Q (.ref s.heap.objs.size) {s with heap:=h'}):wpAny (model prog w) A (binaryOp .BitOr (.ref a) (.ref b)) Q E s:=by
 have D:=AAH ha;have x:=AAH hb;refine wpAny_binaryOp_same (T:="set") ⟨_,ha,rfl⟩ ⟨_,hb,rfl⟩ F.fills_set_or F.slot_set_or ?_;refine ACV (codeAny_call_builtin F.slot_set_or.plain QX ?_);refine F.slot_set_or.check (model prog w) A.in1 _ s (.ref a) [.ref b] [] _ ⟨_,ha,rfl⟩ (F.args_set_or_2 _ _) ?_;unfold Builtin.«frozenset.__or__»
 wp_walk using ACL F.sub_set_set,ADJ
 have y:∀{c:Nat},c<s.heap.objs.size->(s.heap.objs.size==c)=false:=λ{c} h=>by simp only[ACv,ne_eq];exact λz=>absurd h (by rw[z];exact ABO _)
 show wpAny _ _ (setMerge s.heap.objs.size a) _ _ _;refine TB (AAR _ rfl) (AAI _ ha) (y D) C λf G=> ?_;have H:=AAI {cls:= .type "set",data:= .set #[] 0 (SetTable.fresh 0 0 !((model prog w).w.params.followText "set-order"))} hb;have I:((s.heap.push {cls:= .type "set",data:= .set #[] 0 (SetTable.fresh 0 0 !((model prog w).w.params.followText "set-order"))}).update s.heap.objs.size (Obj.putSet #[(hashInt i, .int i e)] f)).get? s.heap.objs.size=some (Om (hashInt i) (.int i e) 1 f):=AC1 (Obj.putSet #[(hashInt i, .int i e)] f) (AAR _ rfl) rfl;have J:=(ADI _ b s.heap.objs.size (Obj.putSet #[(hashInt i, .int i e)] f) (AAN x)).trans H;have g:∀c o,c<s.heap.objs.size->s.heap.get? c=some o->((s.heap.push {cls:= .type "set",data:= .set #[] 0 (SetTable.fresh 0 0 !((model prog w).w.params.followText "set-order"))}).update s.heap.objs.size (Obj.putSet #[(hashInt i, .int i e)] f)).get? c=some o:=λc o hc l=>by rw[ADI _ _ _ _ (AAN hc)];exact AAI _ l
 refine AAE ?_;show wpAny (model prog w) A.in1 (if (Value.ref b != Value.ref a)=true then do
  let r <-holding [Value.ref s.heap.objs.size] (Builtin.Frozenset.updateFrom (toString "frozenset." ++ toString "__or__") s.heap.objs.size (Value.ref b))
  pure (Value.ref s.heap.objs.size)
  else pure (Value.ref s.heap.objs.size)) _ _ {s with heap:=(s.heap.push {cls:= .type "set",data:= .set #[] 0 (SetTable.fresh 0 0 !((model prog w).w.params.followText "set-order"))}).update s.heap.objs.size (Obj.putSet #[(hashInt i, .int i e)] f)}
 generalize (s.heap.push {cls:= .type "set",data:= .set #[] 0 (SetTable.fresh 0 0 !((model prog w).w.params.followText "set-order"))}).update s.heap.objs.size (Obj.putSet #[(hashInt i, .int i e)] f)=H1 at *;rw[AAG (by simp;exact λz=>B z.symm)];refine AAC (AAg ?_);unfold Builtin.Frozenset.updateFrom Builtin.Frozenset.isAnySet
 wp_walk using ACL F.sub_set_set
 have K:(u.place.size != #[(hashInt j,Value.int j v)].size||decide (u.fill>u.mask))=false:=by unfold SetTable.fill;rw[hu.m,hu.d,hu.p];rfl
 rw[AAF (by rw[K];decide)];refine AAE (AAE (YL I J (y x) G hu λh' L M=> ?_));refine AAE (AAE ⟨(λz=>nomatch z),q h' M λc o hc l=> ?_⟩);rw[L.2 c (AAN hc)];exact g c o hc l
end
def S7 (p:kj)(k:Int)(h:gn):Prop:=∃a n t,h.get? p=some (Om (hashInt k) (.int k a) n t)/\T1 t
def dZ {P:kd}{w:kc}{H:Hp}{h:gn}{p:kj}{k:Int}(x:S7 p k h):B2 P w H h p (.ext (S7 p k)):=by obtain⟨a,n,t,e,y⟩:=id x;refine⟨x,⟨_,e⟩,λh1 h2 z q=> ?_⟩;obtain⟨a,n,t,e,y⟩:=z;exact⟨a,n,t,q _ e,y⟩
def oQ:kn V->Hp->VK->Prop:=λxs H Q=>∃a o k v,xs= [.ref a] /\H a=some (.frz o (.dK [(.inl k,v)]))/\∀p,H p=none->Q (.ref p) (upd H p (.ext (S7 p k)))
def sw:R2:=λx y H Q=>∃a b i j,x= .ref a/\y= .ref b/\a≠b/\H a=some (.ext (S7 a i))/\H b=some (.ext (S7 b j))/\∀p,H p=none->Q (.ref p) (upd H p (.set (λk=>decide (k=i)||decide (k=j)) (if i=j then 1 else 2)))
def oO:kn V->Hp->VK->Prop:=λxs H Q=>∃a S n,xs= [.ref a] /\H a=some (.set S n)/\Q (.int n) H
section
variable {X:Cx}
def mS {P:kd}{w:kc}{H:Hp}{h:gn}{a:kj}{o:Obj}{k:Int}{v:V}(x:B2 P w H h a (.frz o (.dK [(.inl k,v)]))):h.get? a=some o/\o.cls= .type "dict" /\(a==sysModules)=false/\∃n u ep,o.data= .dict #[⟨hashInt k, .int k n,u⟩] ep:=by
 obtain⟨g,z,hs,vs,d,D,es,ep,j,ex,hd,r,ps,E⟩:=x;rw[g] at j;cases j;refine⟨g,ex.1,hs, ?_⟩;cases d with
 | cons q d=>
   rename_i p vs;cases d;obtain⟨c,u⟩:=p;have s:Sum.inl k=c:=q.1;subst s;generalize l:es.toList=L at ps;cases ps with
   | cons h1 h2 h3=>
     rename_i b _;cases h3;have y:b∈es:=by rw[<-Array.mem_toList_iff,l];simp
     obtain⟨A,B,m⟩:=r b y;have C:Sum.inl k=A:=(Ak P w).inj _ _ _ h1 B;subst C;rcases BQ (k:=Sum.inl k) (v:=b.key) h1 with⟨i,t,e,f⟩|⟨x,t,e,f⟩
     .cases e;refine⟨t,b.val,ep, ?_⟩;rw[hd];have:es= #[b] :=by apply Array.toList_inj.mp;rw[l]
      rw[this];obtain⟨F,G,I⟩:=b;simp only at f m;rw[f,m];rfl
     .cases e
def O9:Bu X (.type "set") oQ:=by intro m s p H xs w Q I r h;obtain⟨a,o,k,v,rfl,e,q⟩:=h;obtain⟨u,rfl,d⟩:=vals1 r;cases d;obtain⟨f,hc,hs,g,u,ep,hd⟩:=mS (I.hok a _ e);refine SN f hc hd hs λh' t n i j tp l c sz=> ?_;have keep:∀b o,s.heap.get? b=some o->h'.get? b=some o:=λb o e=>c b o (AAH e) e;exact⟨.ref _,_,I.laid (a:=s.heap.objs.size) (t':=s.toks) keep (AAL _) (dZ ⟨g,n,t,l,⟨i,j,tp⟩⟩),rfl,q _ (I.hok.fresh (AAL _))⟩
def jd:DY X (binaryOp .BitOr) sw:=by intro n s p H x y v u Q I d f h;obtain⟨a,b,i,j,rfl,rfl,ne,ha,hb,q⟩:=h;cases d;cases f;obtain⟨⟨r,t,w,g,y1⟩,_,_⟩:=I.hok a _ ha;obtain⟨⟨z,A,B,l,y2⟩,_,_⟩:=I.hok b _ hb;refine eB g l ne y1 y2 λh' m c=> ?_;have keep:∀b o,s.heap.get? b=some o->h'.get? b=some o:=λb o e=>c b o (AAH e) e;exact⟨.ref _,_,I.laid (a:=s.heap.objs.size) (o:= .set (λk=>decide (k=i)||decide (k=j)) (if i=j then 1 else 2)) (t':=s.toks) keep (AAL _) m,rfl,q _ (I.hok.fresh (AAL _))⟩
def Xm:Bu X (.builtin "len") oO:=by intro i s j H xs k Q I r h;obtain⟨a,S,n,rfl,e,q⟩:=h;obtain⟨u,rfl,b⟩:=vals1 r;cases b;obtain⟨o,es,ep,t,c,hx,hd,_,_,d,f,g⟩:=I.hok a _ e;refine call_len_set c hx hd f (by rw[show scanBound=4096 from rfl] at d;omega) ?_;rw[g];exact⟨.int n,H,I.tok _,⟨_,rfl⟩,q⟩
end
end L2
namespace PL
open PySem PySem.Spec PyProof.Rows L2
def qY (i j:Int):Nat:=if i=j then 1 else 2
def iK (a b:AE):AE:=λτ Q=>a τ λx=>match x with | .dk [(i,_)] =>b τ λy=>(match y with | .dk [(j,_)] =>Q (.int (qY i j))|_=>False)|_=>False
section
variable {X:Cx}
def kP {a b:kf}{D E:AE}{p r s c d u pos:Pos}(L:Gl X "len")(M:X.mg "len" =none)(F:Gl X "set")(G:X.mg "set" =none)(ha:SE X a D)(hb:SE X b E)(I:starEach [.BinOp (.Call (.Name "set" r) [a] [] c) .BitOr (.Call (.Name "set" s) [b] [] d) u] X.env=(false,eval (.BinOp (.Call (.Name "set" r) [a] [] c) .BitOr (.Call (.Name "set" s) [b] [] d) u) X.env)::starEach [] X.env:=by rfl)(h1:starEach [a] X.env=(false,eval a X.env)::starEach [] X.env:=by rfl)(h2:starEach [b] X.env=(false,eval b X.env)::starEach [] X.env:=by rfl):SE X (.Call (.Name "len" p) [.BinOp (.Call (.Name "set" r) [a] [] c) .BitOr (.Call (.Name "set" s) [b] [] d) u] [] pos) (iK D E):=by
 obtain⟨t,N,O⟩:=ha;obtain⟨t',w,P⟩:=hb;refine⟨_,GY Xm L M AA6 (Bn (Bo jd (FY O9 F G AER (Bn N Dk h1) (he:=h1)) (FY O9 F G AER (Bn w Dk h2) (he:=h2))) Dk I) (he:=I),λB T J τ H Q AQ f h k=> ?_⟩;refine O B T J τ H _ _ f h λv x T1 H1 g R c=> ?_;split at c <;> first | exact c.elim|skip
 rename_i i _;cases R;rename_i S o1 U W d1 Y;refine⟨S,_,i,_,rfl,Y,λp hp=> ?_⟩;have m:=Ct.lay (o:= .ext (S7 p i)) (f.stp g).tp hp;have Z:¬T1 p:=λz=>by obtain⟨o,e,_⟩:=((f.stp g).tp p z).mut;rw[hp] at e;cases e
 refine P B T1 J τ _ _ _ ((f.stp g).stp m) c λv2 y T2 H2 n r2 d=> ?_;split at d <;> first | exact d.elim|skip
 rename_i j _;cases r2;rename_i a2 o2 es2 ep2 d2 e2;refine⟨a2,_,j,_,rfl,e2,λA C=> ?_⟩;have l:H2 p=some (.ext (S7 p i)):=n.keep _ _ Z Af;have ne:p≠A:=λz=>by subst z;rw[l] at C;cases C
 have K:=Ct.lay (o:= .ext (S7 A j)) (((f.stp g).stp m).stp n).tp C;refine⟨p,A,i,j,rfl,rfl,ne,by rw[Ah ne];exact l,Af,λp3 y6=> ?_⟩;have l3:=Ct.lay (o:= .set (λk=>decide (k=i)||decide (k=j)) (if i=j then 1 else 2)) ((((f.stp g).stp m).stp n).stp K).tp y6;refine⟨p3,_,_,rfl,Af, ?_⟩;exact k _ _ T2 _ ((((g.trans m).trans n).trans K).trans l3) (.int _) d
end
end PL
namespace L2
open PySem PySem.Spec PyProof.Rows
structure QH (K:AAD) (x qual:Str) (st:Stmt) (f:Addr) (fd:FuncData) (d:Int):Prop where
 ex:∃(oc:Value) (od:Option Addr) (kV doc pm:Value) (an:Option Addr) (cdv ct:Value) (osl:Array (Option Value)) (t:Addr),
  fd=PySem.W.fnOf x qual (Ds st) (CC st) (As st) (.ref t) kV doc pm an cdv ct/\K.lookup f=some ⟨oc,od, .func fd,osl⟩/\PySem.W.codeIn K cdv qual=true/\∃o tk n,K.lookup t=some o/\o.data= .seq #[.int d tk] n
 kp:PySem.W.keepIn K (.ref f)=true
structure UT (P:Program) (w:World) (K:AAD) (mg:Str->Option Value) (base:Heap) (k:Nat) (x:Str) (ps:List Str) (d:Int) (sp:Sp):Prop where
 ex:∃f fd tk,mg x=some (.ref f)/\PySem.W.keepIn K (.ref f)=true/\Binds K fd ps [.int d tk] /\Dh P w K mg base MR k f fd ps sp
def UT.mono {P:kd}{w:kc}{K:AAD}{mg:Str->ki km}{base:gn}{j k:Nat}{x:Str}{ps:kn Str}{d:Int}{sp:Sp}(h:UT P w K mg base j x ps d sp)(hk:j<=k):UT P w K mg base k x ps d sp:=by obtain⟨f,e,g,a,b,c,d⟩:=h.ex;exact⟨f,e,g,a,b,c,d.mono hk⟩
section
variable {P:kd}{w:kc}{K:AAD}{mg:Str->ki km}{base:gn}
def QH.ok {x qual:Str}{st:Stmt}{f:kj}{b:FuncData}{d:Int}{N ps:kn Str}{k:Nat}{sp:Sp}(F:QH K x qual st f b d)(S:DN N ps (As st))(len:∀vs H Q E,sp vs H Q E->vs.length=ps.length)(c:∀(a:km) (A:fe) (outer:kn Env) (s:kl) (H:Hp) (vs:kn V) (Q:VK) (E:XK),Room k (A.deeper (envOfC qual (As st) s.heap.objs.size f a))->sp vs H Q E-> ∃t,R9 (OT MR P w K mg base N qual (As st) f a A outer s H E).nox (CC st) t/\t {nx:=λ_ e=>Q .non e,rt:=Q} (start N vs) H):Dh P w K mg base MR (k+1) f b ps sp:=by obtain⟨o,p,kV,g,r,u,a,ct,i,t,rfl,j,l,_⟩:=F.ex;refine gM j l S len λA outer s H vs Q E m n=> ?_;obtain⟨t,h,q⟩:=c a A outer s H vs Q E m n;exact⟨t,h.nox,q⟩
def QH.binds3 {x qual:Str}{st:Stmt}{f:kj}{m:FuncData}{d:Int}{a b c:Str}(F:QH K x qual st f m d)(h:∀(t:kj) (kV e i:km) (j:ki kj) (g ct:km) (u v:km),∃k:ki (Array km)->Sem (kn (Str×km)),bindArgs (PySem.W.fnOf x qual (Ds st) (CC st) (As st) (.ref t) kV e i j g ct) ⟨[u,v], []⟩=seqItems? (.ref t) >>= k/\∀z,k (some #[z])=pure [(a,u),(b,v),(c,z)]):∃l,Binds K m [a,b,c] [.int d l] :=by
 obtain⟨B,C,kV,e,i,j,g,ct,r,t,rfl,D,E,o,l,n,y,A⟩:=F.ex;refine⟨l,λs p X hl=> ?_⟩;have hl:p.length=2:=by simpa using hl
 match p,hl with
 | [u,v],_=> obtain⟨k,h1,h2⟩:=h t kV e i j g ct u v;exact BindsTo.of_defaults (T:=t) rfl (X _ _ y) A h1 (h2 _)
end
section
variable {X:Cx}{x:Str}{p pos:Pos}{e:kf}{es:kn kf}{t:TA}{k:Nat}{ps:kn Str}{d:Int}{sp:Sp}
def eM (D:UT X.prog X.w X.K X.mg X.base k x ps d sp)(a:Room k X.A)(b:Gl X x)(ha:PA X (e::es) t)(hs:starEach (e::es) X.env=(false,eval e X.env)::starEach es X.env:=by rfl)(hpl:(backTo pos (starEach es X.env)).any (·.1)=false:=by rfl)(hd:(x==("__debug__" :Str))=false:=by decide):PE X (.Call (.Name x p) (e::es) [] pos) (bu sp [.int d] E0 t):=by obtain⟨f,j,c,g,h,i,G⟩:=D.ex;exact Wo G a b g h i (.cons ⟨c,rfl⟩ .nil) gY ha (hdb:=hd) (he:=hs) (hpl:=hpl)
end
end L2
namespace PL
open PySem PySem.Spec PyProof.Rows L2
def ZK (n:Nat)(F:AF)(d:Int)(r:AA):AE:=λτ Q=>r τ λxs=>(xs ++ [PV.int d]).length=n/\F (xs ++ [.int d]) Q
section
variable {X:Cx}
theorem Ay.snoc {K:AAD}{T M:kj->Prop}{H:Hp}:∀{vs:kn V} {xs:kn PV} {v:V} {x:PV},Ay K T M H vs xs->Cn K T M H v x->Ay K T M H (vs ++ [v]) (xs ++ [x])
 | [], [],_,_,_,r=> .cons r .nil
 | _::_,_::_,_,_, .cons h t,r=> .cons h (Ay.snoc t r)
def bR {x:Str}{p pos:Pos}{e:kf}{es:kn kf}{k n:Nat}{ps:kn Str}{d:Int}{F:AF}{r:AA}(D:UT X.prog X.w X.K X.mg X.base k x ps d (Co X.K n F))(f:Room k X.A)(g:Gl X x)(ha:SA X (e::es) r)(hs:starEach (e::es) X.env=(false,eval e X.env)::starEach es X.env:=by rfl)(hpl:(backTo pos (starEach es X.env)).any (·.1)=false:=by rfl)(hd:(x==("__debug__" :Str))=false:=by decide):SE X (.Call (.Name x p) (e::es) [] pos) (ZK n F d r):=by obtain⟨t,i,s⟩:=ha;refine⟨_,eM D f g i hs hpl hd,λB T j τ H Q l b h k=>s B T j τ H _ _ b h λvs xs T1 H1 c o h1=> ?_⟩;exact⟨T1,_,_,l,(b.stp c).va,λa m=>(b.stp c).nt m,o.snoc (.int d),h1.1,h1.2,λv x u y z C q=>k v x u y (c.trans z) C q⟩
end
section
variable {P:kd}{w:kc}{K:AAD}{mg:Str->ki km}{base:gn}
def Zf {x qual:Str}{st:Stmt}{f:kj}{i:FuncData}{d:Int}{N ps:kn Str}{k n:Nat}{b:AS}(F:QH K x qual st f i d)(S:DN N ps (As st))(j:n=ps.length)(l:∀(a:km) (A:fe) (outer:kn Env) (s:kl) (H:Hp) (E:XK),Room k (A.deeper (envOfC qual (As st) s.heap.objs.size f a))-> Xf (OT MR P w K mg base N qual (As st) f a A outer s H E).nox (CC st) b):Dh P w K mg base MR (k+1) f i ps (Co K n (Ar N.length b)):=by
 refine F.ok S (λvs H Q E h=> ?_) (λa A outer s H vs Q E m h=> ?_)
 .obtain ⟨T,M,xs,o,_,_,r,hl,_⟩:=h;rw[r.length,hl,j]
 .obtain ⟨T,M,xs,o,va,c,r,hl,hF,hQ⟩:=h;obtain⟨t,p,u⟩:=l a A outer s H E m;refine⟨t,p,u ⟨T,H,M⟩ T _ _ H _ _ (Tx va c r) hF ⟨λe g σ' τ' _ y q=> ?_,λ_ _ _ _ _ _ q=>q.elim,λ_ _ _ _ _ _ q=>q.elim,λv x e g z B q=>hQ v x e g z B q⟩⟩;exact hQ _ _ e g y.st .non q
end
end PL
namespace L2
open PySem PySem.Spec PyProof.Rows PySem.W
theorem ints_of {P:kd}{w:kc}:∀{vs:kn (Bx×km)} {m:kn (Int×Int)} {a:kn km},KV (m.map λp=>((.inl p.1:Bx),V.int p.2)) vs->a.length=vs.length->(∀(j:Nat) v,a[j]? =some v->∃k x,vs[j]? =some (k,x)/\(Ak P w).is k v=true)->IntsAre a (m.map (·.1))
 | [], [], [],_,_,_=> .nil
 | [], [],u::a,_,hl,_=>by simp at hl
 | v::vs,m::ms, [],_,hl,_=>by simp at hl
 | v::vs,m::ms,u::a,r,hl,h=>by
   cases r with
   | cons c d=> obtain⟨k,x,f,g⟩:=h 0 u rfl;cases f;obtain⟨b,_⟩:=c;dsimp only at b;subst b;have q:RelV (kV (.inl m.1)) u:=aA g;obtain⟨t,rfl⟩:=q;exact .cons _ t (ints_of d (by simpa using hl) λj v e=>by simpa using h (j+1) v (by simpa using e))
def VP:kn V->Hp->VK->Prop:=λxs H Q=>∃a o es ep,∃m:kn (Int×Int),xs= [.ref a] /\H a=some (.frz o (.dK (m.map λp:Int×Int=>((.inl p.1:Bx),V.int p.2))))/\o.data= .dict es ep/\m.length<64/\∀(p:kj) (ns:kn Int),H p=none->ns.Perm (m.map (·.1))->ns.Pairwise (· <= ·)->Q (.ref p) (upd H p (.lst (ns.map V.int)))
section
variable {X:Cx}
def OR {P:kd}{w:kc}{A:fe}{E:km->kl->Prop}{s:kl}{T:String}{r d:kj}{n:Nat}{j:Nat->km->Prop}{u:gn->Prop}{R:kn km->kl->Prop}(K:KdlSrc P w T r d n j u)(z:A.handled=none)(hok:u s.heap)(B:n<=sizeLine)(h:∀(h':gn) (g:Nat) (a:Array km),s.heap.objs.size<=h'.objs.size->(∀b o,s.heap.get? b=some o->h'.get? b=some o)->ItemsOf j a n->R a.toList {s with heap:=h',toks:=g}):wpAny (model P w) A (collect (.ref r)) R E s:=by
 obtain⟨C,D⟩:=K.there _ hok;unfold collect;refine AAC (wpAny_runValue (ACj entry_proto_collect' ?_));rw[Around.under_plainId PySem.F.plain_proto_collect _];refine AAC (m:=newList []) (ABH ?_);refine AAE ⟨plainId_quiet AES _,ACj entry_list_iadd' ?_⟩;rw[Around.under_plainId AES _];have k:(s.heap.push {cls:= .type "list",data:= .seq ([] :kn km).toArray}).get? s.heap.objs.size=some {cls:= .type "list",data:= .seq #[] }:=AAR _ rfl;have l:∀(h':gn) (g:Nat) (a:Array km) (c:Nat),(∀b o,b≠s.heap.objs.size->(s.heap.push {cls:= .type "list",data:= .seq ([] :kn km).toArray}).get? b=some o->h'.get? b=some o)->h'.get? s.heap.objs.size=some {cls:= .type "list",dict:=none,data:= .seq a c,slots:= #[] }->ItemsOf j a n->
  wpAny (model P w) A (load s.heap.objs.size >>= λo=>match o.data with | .seq xs _=>pure xs.toList|_=>unsupported "internal:collect") R E {s with heap:=h',toks:=g}:=λh' g a c p i it=>
  AAC (wpAny_load i (AAE (h h' g a (ACC (AAH i)) (λb o e=>p b o (AAN (AAH e)) (AAI _ e)) it)))
 refine ABP (kdl_extend (A:=A) (s:={s with heap:=s.heap.push {cls:= .type "list",data:= .seq ([] :kn km).toArray}}) (R:=λq t=>match q with | .ok (.ret v)=>v= .ref s.heap.objs.size/\wpAny (model P w) A (load s.heap.objs.size >>= λo=>match o.data with | .seq xs _=>pure xs.toList|_=>unsupported "internal:collect") R E t|_=>False)
  K z (K.keep _ _ hok λb _ o e=>AAI _ e) s.heap.objs.size (AAh C) (AAh D) (.ref s.heap.objs.size) 0 k (λh' g a c p i it=>⟨rfl,l h' g a c p i it⟩) B) (λf t x=> ?_) λe t x=>x.elim
 cases f with
 | done f=>
   cases f with
   | ret v=> obtain⟨rfl,y⟩:=x;exact y
   | _=>exact x.elim
 | again c=>
   refine⟨x.1,ACF x.2 λq G y=> ?_⟩;cases q with
   | error e=>exact y.elim
   | ok f=>
     cases f with
     | ret v=> obtain⟨rfl,y⟩:=y;exact y
     | _=>exact y.elim
def Ud (hc:X.calm=true):Bu X (.builtin "sorted") VP:=by
 intro O s R H xs g Q I r h;obtain⟨a,o,es,ep,m,rfl,e,hd,S,q⟩:=h;obtain⟨u,rfl,C⟩:=vals1 r;cases C;have D:Nz H a m.length ep (m.map λp:Int×Int=>((.inl p.1:Bx),V.int p.2)):=⟨o,es,e,hd,by rw[AAO]⟩;obtain⟨vs,d,E⟩:=D.at I;have T:vs.length=m.length:=by have:=d.length;rw[AAO] at this;exact this.symm
 obtain⟨U,W,F⟩:=Qo I (.inl ⟨_, .inr ⟨o,e⟩⟩);refine Calls.call_function_entry kind_sorted plain_sorted entry_sorted (args_sorted1 _) ?_;unfold Builtin.«sorted»;refine AAC (m:=checkCount "sorted" 1 1 _) (AAE ?_);refine AAC (OR (A:=X.A.in1) (kdl_dict (knd:=Ak X.prog X.w) (kvs:=vs) (ep:=ep) F) (I.ok.hd hc) E (by rw[ACU];omega) λh' G c l hk x=> ?_);have hl:c.toList.length=vs.length:=by rw[ACA];exact x.1
 have J:IntsAre c.toList (m.map (·.1)):=ints_of (P:=X.prog) (w:=X.w) d hl λj v z=>x.2 j v (by rw[<-Array.getElem?_toList];exact z);refine AAC (wpAny_newList ?_ (by rw[hl,ACU];omega));have f:(h'.push (seqObj "list" c.toList.toArray 0)).get? h'.objs.size=some (seqObj "list" c.toList.toArray 0):=AAR _ rfl;refine AAC (AAg (AAy slot_list_sort ⟨_,f,rfl⟩ entry_list_sort (list_sort_tree f J (by omega) λout i K y L=>⟨_,rfl, ?_⟩) (args_list_sort _)));refine AAE ⟨_,rfl, ?_⟩;obtain⟨ne,M⟩:=sortedHeap_at (out:=out) f;have hsz:h'.objs.size<(h'.push (seqObj "list" c.toList.toArray 0)).objs.size:=AAH f;have keep:∀b k,s.heap.get? b=some k->(sortedHeap (h'.push (seqObj "list" c.toList.toArray 0)) h'.objs.size c.toList out).get? b=some k:=λb k z=>by have B:=AAH (hk _ _ z);rw[sortedHeap_old (AAN B) (ACZ B hsz),AAI _ (hk _ _ z)]
 have vals:∀{g:kn km} {ns:kn Int},IntsAre g ns->Ap (ns.map V.int) g:=λh=>by
  induction h with
  | nil=>exact .nil
  | cons n t h N=>exact .cons ⟨t,rfl⟩ N
 refine⟨.ref _,_,I.laid (a:=h'.objs.size) (o:= .lst (i.map V.int)) (t':=G) keep l ⟨?_,out.toList,ne,vals K,by rw[M]⟩,rfl,q _ _ (I.hok.fresh l) y L⟩;rw[AAO,y.length_eq,AAO,ACU];omega
end
end L2
namespace PL
open PySem PySem.Spec PyProof.Rows L2
def Zl:AF:=λxs Q=>match xs with | [.dk m] =>m.length<64/\∀ns:kn Int,ns.Perm (m.map (·.1))->ns.Pairwise (· <= ·)->Q (.lst (ns.map PV.int))|_=>False
theorem Ph {K:AAD}{T M:kj->Prop}{H:Hp}:∀ns:kn Int,Ay K T M H (ns.map V.int) (ns.map PV.int)
 | [] => .nil
 | n::ns=> .cons (.int n) (Ph ns)
def bN {X:Cx}(hc:X.calm=true):Bu X (.builtin "sorted") VP/\ED X.K VP Zl:=by
 refine⟨Ud hc,λT M H vs xs Q g va r h k=> ?_⟩;match xs,r,h with
 | [.dk m], .cons (.dk (a:=a) (o:=o) (es:=es) (ep:=ep) hh e) .nil,h=>
   refine⟨a,o,es,ep,m,rfl,hh,e,h.1,λp ns hp b c=> ?_⟩;have l:=Ct.lay (o:= .lst (ns.map V.int)) va.tp hp;have d:¬T p:=λz=>by obtain⟨o,e,_⟩:=(va.tp p z).mut;rw[hp] at e;cases e
   have f:¬M p:=λz=>by obtain⟨o,e,_⟩:=va.mu p z;rw[hp] at e;cases e
   exact k _ _ T _ l (.lst Af d f (Ph ns)) (h.2 ns b c)
end PL
namespace L2
open PySem PySem.Spec PyProof.Rows
def q9 (d:kj)(n ep:Nat):It:=
 ⟨λi H=>∃kvs k x,Nz H d n ep kvs/\kvs[i]? =some (k,x),
  λi H v a=>a=H/\∀kvs,Nz H d n ep kvs->∃k,kvs[i]? =some (k,v),
  λi H=>∃kvs,Nz H d n ep kvs/\kvs.length<=i⟩
def Yp {P:kd}{w:kc}{K:AAD}{B:kf}{it d:kj}{n ep:Nat}:LG P w K B (q9 d n ep) [it] it (λk h=>h.IsValIter it d k n ep) where
 mem:=by simp
 obj:=λk h st p hp=>by
  obtain⟨o,i,hc,hd⟩:=st;have c:p=it:=by simpa using hp
  subst c;exact⟨o,i,λv z=>by rw[hd] at z;cases z⟩
 keep:=λk h h' st C=>st.at λo e=>C it (by simp) o e
 item:=by
  intro X j hw l hc k t s y H E I g st m;subst j hw l;obtain⟨kvs,D,x,b,hx⟩:=m;obtain⟨vs,a,r⟩:=b.at I;have hl:vs.length=n:=by obtain⟨_,_,_,_,e⟩:=b;rw[<-e];exact a.length.symm
  subst hl;obtain⟨u,hu,F⟩:=aD a hx;refine wpAny_pyNext_values_item st r hu λh1 f G=> ?_;refine⟨_,rfl, ?_⟩;obtain⟨o,i,J,hd⟩:=id f;refine WU (s:={s with heap:=h1}) i J hd (by decide) ?_;have L:Inv X t y H {s with heap:=h1,toks:=s.toks}:=I.turnedL (t':=s.toks) g λp o hp z=>by
   have c:p≠it:=by simpa using hp
   exact G.extBut p o c z
  exact⟨x,H,L,F,⟨rfl,λA h'=>⟨D,by rw[h'.one b];exact hx⟩⟩,f,λp hp=>(g p hp).1⟩
 done:=by
  intro X j hw l hc k t s y H E I g st m;subst j hw l;obtain⟨kvs,b,hx⟩:=m;obtain⟨vs,a,r⟩:=b.at I;have hl:vs.length=n:=by obtain⟨_,_,_,_,e⟩:=b;rw[<-e];exact a.length.symm
  have N:=a.length;subst hl;refine wpAny_pyNext_values_end (I.ok.hd hc) st r (by rw[ACw];omega) λh' M=>⟨rfl, ?_⟩;exact I.turnedL (t':=s.toks) g λp o hp z=>by
   have c:p≠it:=by simpa using hp
   exact M p o c z
 self:=λ_ _ _ _ _ st h=>wpAny_pyIter_valiter st h
section
variable {X:Cx}
def eS {A e:kf}{t:TE}{apos f:Pos}(he:PE X e t)(hb:attributeBase e "values" X.env (eval e X.env)=eval e X.env)(B:((backTo f (starEach [] X.env)).all (λx=> !x.1)&&(backToKw f (keywordEach [] X.env)).all (λx=>x.1.isSome)&&decide (([] :kn kf).length+([] :kn Keyword).length+(if ([] :kn Keyword).isEmpty then 0 else 1)<30))=true)(hl:(apos.endLine==f.line)=true)(C:backTo f (starEach [] X.env)= []):PI X A (.Call (.Attribute e "values" apos) [] [] f) (λk H R=>t k H λv H1=>∃d n ep kvs,v= .ref d/\Nz H1 d n ep kvs/\R (q9 d n ep) H1):=by
 intro D s k H R I h;refine ADq hb B hl ADr AET PySem.F.type_dict_values (BO (he D s k H _ I h) λu g ⟨x,H1,i,E,d,n,ep,kvs,ex,l,G⟩=> ?_);subst ex;obtain rfl:u=Value.ref d:=E;obtain⟨vs,m,y⟩:=l.at i;have J:vs.length=n:=by obtain⟨_,_,_,_,e⟩:=l;rw[<-e];exact m.length.symm
 obtain⟨o,K,L,S,_⟩:=id l;obtain⟨M,N,O⟩:=Qo i (.inl ⟨kvs, .inr ⟨o,L⟩⟩);have z:g.heap.DictOf (Ak X.prog X.w) d vs:=let ⟨o,es,a,b,c,r⟩:=y;⟨o,es,ep,a,b,c,r⟩;refine⟨M,N, ?_⟩;rw[C];refine AC2 rfl (PySem.evalArgs_none ?_);refine ADH AET z.typeIs PySem.F.entry_dict_values (PySem.F.args_dict_values_1 _) (meets_dict_values (Ak X.prog X.w) d O) ⟨⟨vs,z⟩, ?_⟩;have P:(g.heap.push {cls:= .type "dict_values",data:= .fields #[.ref d] }).DictAt (Ak X.prog X.w) d vs ep:=y.push _;refine wpAny_pyIter_values (s:={g with heap:=g.heap.push {cls:= .type "dict_values",data:= .fields #[.ref d] }}) (knd:=Ak X.prog X.w) (d:=d) ⟨_,AAR _ rfl,rfl,rfl⟩ P ?_;subst J;have j:(g.heap.push {cls:= .type "dict_values",data:= .fields #[.ref d] }).objs.size=g.heap.objs.size+1:=AA1 ..;refine⟨_, [g.heap.objs.size+1],_,_,H1,congrArg Value.ref j,i.kept (t':=g.toks) λb T q=>AAI _ (AAI _ q),Yp, ?_,λp hp=> ?_,G⟩
 .have:=AAR (g.heap.push {cls:= .type "dict_values",data:= .fields #[.ref d] }) (o:={cls:= .type "dict_valueiterator",data:= .fields #[Value.ref d,Value.int 0 0,Value.int (vs.length:Int) 0,Value.int (ep:Int) 0] }) rfl;rw[j] at this;exact⟨_,this,rfl,rfl⟩
 .have Q:p=g.heap.objs.size+1:=by simpa using hp
  subst Q;exact i.fpOk (ACg _ _) (i.hok.fresh (ACg _ _))
end
end L2
namespace PL
open PySem PySem.Spec PyProof.Rows L2
def YF {K:AAD}{T M:kj->Prop}{H:Hp}{d:kj}{o:Obj}{es:Array DictEntry}{ep:Nat}{m:kn (Int×Int)}(va:Kb T M H)(h:H d=some (.frz o (.dK (FX m))))(e:o.data= .dict es ep):UU K M (q9 d m.length ep) (m.map λp=> .int p.2) T H:=by
 have c:Nz H d m.length ep (FX m):=⟨o,es,h,e,by unfold FX;rw[AAO]⟩;have b:∀{i:Nat} {y:PV},(m.map λp=>PV.int p.2)[i]? =some y->∃p:Int×Int,y= .int p.2/\(FX m)[i]? =some (.inl p.1, .int p.2):=λ{i y} a=>by rw[AAr] at a;obtain⟨p,hp,rfl⟩:=ACf.mp a;refine⟨p,rfl, ?_⟩;unfold FX;rw[AAr,hp];rfl
 refine⟨λi y a=> ?_,λi y v g a f=> ?_,λi hi=>⟨_,c,by unfold FX;simpa using hi⟩⟩
 .obtain ⟨p,_,hp⟩:=b a;exact⟨_,_,_,c,hp⟩
 .obtain ⟨p,rfl,hp⟩:=b a;obtain⟨rfl,hu⟩:=f;obtain⟨k,hx⟩:=hu _ c;rw[hp] at hx;cases hx;exact⟨Ct.refl va.tp, .int _⟩
section
variable {X:Cx}
def mM (a:AE):AI:=λτ Q=>a τ λx=>match x with | .dk m=>Q (m.map λp=> .int p.2)|_=>False
def fP {f e:kf}{c:AE}{apos a:Pos}(he:SE X e c)(hb:attributeBase e "values" X.env (eval e X.env)=eval e X.env:=by rfl)(g:((backTo a (starEach [] X.env)).all (λx=> !x.1)&&(backToKw a (keywordEach [] X.env)).all (λx=>x.1.isSome)&&decide (([] :kn kf).length+([] :kn Keyword).length+(if ([] :kn Keyword).isEmpty then 0 else 1)<30))=true:=by rfl)(hl:(apos.endLine==a.line)=true:=by rfl)(i:backTo a (starEach [] X.env)= [] :=by rfl):SI X f (.Call (.Attribute e "values" apos) [] [] a) true (mM c):=by
 obtain⟨t,j,s⟩:=he;refine⟨_,eS j hb g hl i,λB T l τ H R r n h k=>s B T l τ H _ _ n h λv x T1 H1 o p h1=> ?_⟩;split at h1 <;> first | exact h1.elim|skip
 rename_i m;cases p with
 | dk b e=> exact⟨_,_,_,_,rfl,⟨_,_,b,e,by unfold FX;rw[AAO]⟩,k _ _ T1 H1 o (λM2 w y d va _=>YF va (by obtain⟨t,u⟩:=d.va.noFrz b;exact d.keep _ _ t u b) e) h1⟩
end
end PL
namespace L2
open PySem PySem.Spec PyProof.Rows
def oI:V->V->Hp->VK->Prop:=λx y H Q=>∃p xs i v,x= .ref p/\y= .int i/\0<=i/\H p=some (.lst xs)/\xs[i.toNat]? =some v/\Q v H
section
variable {X:Cx}
def Zn:mH X oI:=by intro f s g H x y j k Q I b c h;obtain⟨p,xs,i,v,rfl,rfl,d,hp,hx,q⟩:=h;cases b;obtain⟨t,rfl⟩:=c;obtain⟨its,n,r,e,l⟩:=I.lst hp;obtain⟨w,ew,a⟩:=r.get hx;have hl:=r.length;have m:=M8;have o:i.toNat<xs.length:=(AA0.mp hx).1;exact wpAny_getItem_list (x:=w) ⟨_,e,rfl,n,rfl⟩ d (by omega) (by simpa using ew) ⟨v,H,I,a,q⟩
end
end L2
namespace PL
open PySem PySem.Spec PyProof.Rows L2
section
variable {X:Cx}{e:kf}{ta:AE}{pos:Pos}
def gJ (i:Nat)(c ta:AE):AS:=λD τ=>HG i τ λxs=>c τ λk=>Ru k λk=>0<=k/\k<xs.length/\Ru (xs.getD k.toNat .non) λa=>ta τ λy=>Ru y λb=>D.nx (τ.set i (some (.own (xs.set k.toNat (.int (a+b))))))
def fg {i:Nat}{x:Str}{ix:kf}{C:AE}{p d:Pos}(hi:SE X ix C)(he:SE X e ta)(hN:X.N[i]? =some x:=by rfl)(hv:cT X.env.scope x:=by first | exact Or.inl rfl|exact Or.inr (Or.inl rfl)|exact Or.inr (Or.inr rfl))(hd:(x==("__debug__" :Str))=false:=by decide)(P:(x==("__classdict__" :Str))=false:=by decide)(ha:∀g j new,augStore ix g j new=(do holding [new,g,j] (setItem g j new);release [new,g,j] [];pure .next):=by intros;rfl):SS X (.AugAssign (.Subscript (.Name x p) ix d) .Add e pos) (gJ i C ta):=by
 obtain⟨t,Q,s⟩:=hi;obtain⟨t',n,R⟩:=he;refine⟨_,e5 (Hz hN hv hd P) Q Zn n jB JP ha,λB T E τ H D AD l h S=> ?_⟩;obtain⟨xs,e,h⟩:=Ih h;obtain⟨q,vs,F,hp,G,b0,I,nb⟩:=l.own i xs e;refine⟨.ref q,F,s B T E τ H _ _ l h λw k T1 H1 f U h1=> ?_⟩;obtain⟨k,rfl,h1⟩:=GX h1;obtain⟨J,k1,h1⟩:=h1;obtain⟨a,K,h1⟩:=GX h1;cases U.toI;have c:=l.stp f;have L:=f.keep _ _ I hp;have M:=G.stp f l.va;have o:k.toNat<xs.length:=by omega
 have W:k.toNat<vs.length:=by rw[G.length];exact o
 have Y:xs[k.toNat]? =some (.int a):=by rw[ACK,AAS o,ADK] at K;rw[AAS o,K]
 obtain⟨u,Z,ru⟩:=M.get Y;cases ru.toI;refine⟨q,vs,k,_,rfl,rfl,J,L,Z,R B T1 E τ H1 _ _ c h1 λw2 y T2 H2 m r4 h2=> ?_⟩;obtain⟨b,rfl,h2⟩:=GX h2;cases r4.toI;have O:=m.keep _ _ (λz=>by
  rcases f.new q z with z|z
  .exact I z
  .rw [hp] at z;cases z) L
 have r:=c.stp m;obtain⟨v,A⟩:=r.write (i:=i) (xs:=xs) e F O (Ay.set (.int (a+b)) k.toNat (M.stp m c.va));refine⟨a,b,rfl,rfl,q,vs,k,k.toNat,rfl,rfl,O, ?_,S.nx T2 _ _ _ ((f.trans m).prog.trans A) v h2⟩;unfold YG;rw[AAG J,AAG (by omega)]
end
def vU (a b:AE):AE:=λτ Q=>a τ λx=>d4 x λm=>b τ λy=>Ru y λk=>∃v,m.lookup k=some v/\Q (.int v)
theorem UA {k v:Int}:∀{m:kn (Int×Int)},m.lookup k=some v->JT (FX m) (.inl k:Bx)=some (.int v)
 | [],h=>by cases h
 | p::m,h=>by
   by_cases e:p.1=k
   .subst e;simp[List.lookup] at h;subst h;exact Gy (p:=((Sum.inl p.1:Bx),V.int p.2)) rfl
   .have a:(k==p.1)=false:=by simpa using λz=>e z.symm
    obtain⟨b,c⟩:=p;simp only[List.lookup,a] at h;refine(Gx (p:=((Sum.inl b:Bx),V.int c)) (r:=FX m) (k:=(Sum.inl k:Bx)) λz=>e ?_).trans (UA h);cases z;rfl
section
variable {X:Cx}
def oj {o i:kf}{e f:AE}{pos:Pos}{k:Nat}(n:Room k X.A)(p:SE X o e)(hi:SE X i f)(hs:hX i):SE X (.Subscript o i pos) (vU e f):=by
 obtain⟨t,r,s⟩:=p;obtain⟨t',b,u⟩:=hi;refine⟨_,eI (tY n) r b hs,λB T g τ H Q G c h k=>s B T g τ H _ _ c h λv x T1 H1 d w h1=> ?_⟩;cases x <;> first | exact h1.elim|skip
 rename_i m;cases w;rename_i a z es ep I j;refine u B T1 g τ H1 _ _ (c.stp d) h1 λJ y C D l E h2=> ?_;obtain⟨i,rfl,v,hv,h2⟩:=GX h2;cases E.toI;obtain⟨F,_⟩:=(c.stp d).va.noFrz j;exact⟨a, .int v,rfl, .inl ⟨FX m, .inl i, .inr ⟨z,l.keep _ _ F j⟩,rfl,(UA hv).symm⟩,k _ _ C D (d.trans l) (.int v) h2⟩
end
section
variable {X:Cx}{a b c:kf}{ta tb tc:AE}{pos:Pos}
def qD (f d:G6)(ta tb tc:AE):AE:=λτ Q=>ta τ λx=>tb τ λy=>f x y λz=>Y0 z λk=>if k=true then tc τ λw=>d y w Q else Q (.bl false)
def kU {r p:R2}{f A:G6}{t u v:TE}(F:Bw X.K r f)(G:Bw X.K p A)(ha:HF X.K t ta)(hb:HF X.K u tb)(hc:HF X.K v tc):HF X.K (b6 r p t u v) (qD f A ta tb tc):=by
 intro B T m τ H Q I s h k;refine ha B T m τ H _ _ s h λJ x T1 H1 e L h1=> ?_;refine hb B T1 m τ H1 _ _ (s.stp e) h1 λC y M N g D h2=> ?_;have n:=(s.stp e).stp g;refine F M _ N J C x y _ _ n.va (L.stp g (s.stp e).va) D h2 λw z T3 E j O q=> ?_;obtain⟨i,rfl,l⟩:=NN q;clear q;refine⟨i,O.toB, ?_⟩;have d:=n.stp j;cases i with
 | false=> rw[AAF (by decide)] at l ⊢;exact k _ _ T3 E ((e.trans g).trans j) (.bl false) l
 | true=> rw[AAG rfl] at l ⊢;refine hc B T3 m τ E _ _ d l λP y4 R S o U W=> ?_;exact G R _ S C P y y4 Q I (d.stp o).va ((D.stp j n.va).stp o d.va) U W λw z Y Z s5 r5 q=>k w z Y Z (((e.trans g).trans j).trans (o.trans s5)) r5 q
def oi {op d:CmpOp}{r e:R2}{f g:G6}(h:DY X (compareOp op) r/\Bw X.K r f)(i:DY X (compareOp d) e/\Bw X.K e g)(ha:SE X a ta)(hb:SE X b tb)(hc:SE X c tc)(j:lastMarks [op,d] [b,c] =false:=by with_unfolding_all rfl):SE X (.Compare a [op,d] [b,c] pos) (qD f g ta tb tc):=
 let ⟨_,p,s⟩:=ha;let ⟨_,k,l⟩:=hb;let ⟨_,m,n⟩:=hc;⟨_,af h.1 i.1 p k m j,kU h.2 i.2 s l n⟩
end
instance{f a:G6}{b c d:AE}{τ:A6}{Q:PV->Prop}:Wp (qD f a b c d τ Q) (b τ λx=>c τ λy=>f x y λz=>Y0 z λk=>if k=true then d τ λw=>a y w Q else Q (.bl false)):=⟨id⟩
end PL
namespace PL
open PySem L2 PyProof.Rows
variable {X:Cx}
def d8:DY X (compareOp .IsNot) (λx y H Q=>∃b c,x= .bl b/\y= .bl c/\Q (.bl (!(b==c))) H):=by intro e s f H x y v u Q I a d h;obtain⟨b,c,rfl,rfl,q⟩:=h;cases a;cases d;refine wpAny_isNot_plain rfl (A8 I q ?_);cases b <;> cases c <;> rfl
def PF:G6:=λx y Q=>match x,y with | .bl b, .bl c=>Q (.bl (!(b==c)))|_,_=>False
def W8:DY X (compareOp .IsNot) (λx y H Q=>∃b c,x= .bl b/\y= .bl c/\Q (.bl (!(b==c))) H)/\Bw X.K (λx y H Q=>∃b c,x= .bl b/\y= .bl c/\Q (.bl (!(b==c))) H) PF:=by
 refine⟨d8,λT M H u v x y Q d va a rv h k=> ?_⟩;cases x <;> first | exact h.elim|skip
 cases y <;> first | exact h.elim|skip
 cases a;cases rv;exact⟨_,_,rfl,rfl,k _ _ T H (.refl va.tp) (.bl _) h⟩
variable {Q:PV->Prop}{b:ke}
instance:Wp (PF (.bl b) (.bl true) Q) (Q (.bl (!b))):=⟨λh=>by cases b <;> exact h⟩
instance:Wp (PF (.bl b) (.bl false) Q) (Q (.bl b)):=⟨λh=>by cases b <;> exact h⟩
end PL
namespace PL
open PySem PySem.Spec PyProof.Rows L2
section
variable {X:Cx}
def O2 (i:Nat)(b:AE):AA:=λτ Q=>HG i τ λxs=>b τ λy=>match y with
 | .lst a=>xs.length+a.length<=sizeLine/\Q (xs++a)
 | _=>False
def V3 (i:Nat)(b:AE):AA:=λτ Q=>HG i τ λxs=>b (frz τ) λy=>match y with
 | .lst a=>xs.length+a.length<=sizeLine/\JC a=true/\Q (xs++a)
 | _=>False
def Lr (i:Nat){x:Str}{b:kf}{pos pos':Pos}{n:AE}(hb:SE X b n)(hN:X.N[i]? =some x:=by rfl)(hv:cT X.env.scope x:=by first | exact Or.inl rfl|exact Or.inr (Or.inl rfl)|exact Or.inr (Or.inr rfl))(hd:(x==("__debug__" :Str))=false:=by decide)(r:(x==("__classdict__" :Str))=false:=by decide):SF X (.BinOp (.Name x pos') .Add b pos) (O2 i n):=by
 obtain⟨t',s,t⟩:=hb;refine⟨_,Bo VH (Hz hN hv hd r) s,λB T u τ H Q L f h k=> ?_⟩;obtain⟨xs,e,h⟩:=Ih h;obtain⟨p,vs,w,hp,z,M,A,O⟩:=f.own i xs e;refine⟨.ref p,w,t B T u τ H _ _ f h λv y C P a D h2=> ?_⟩;split at h2 <;> first | exact h2.elim|skip
 obtain⟨hl,h2⟩:=h2;have g:=f.stp a;obtain⟨j,E,rfl,F,G,I,c⟩:=C8 D;have d:=z.stp a f.va;refine⟨p,j,vs,E,rfl,rfl,a.keep _ _ A hp,F,by rw[d.length,c.length];exact hl,λq o=> ?_⟩;obtain⟨l,m,J,K⟩:=Lg g o (d.append c);exact k q _ _ C _ (a.trans l) m (a.none o) Af J K h2
def fL (i:Nat){x:Str}{b:kf}{pos pos':Pos}{n:AE}(hb:SE X b n)(hN:X.N[i]? =some x:=by rfl)(hv:cT X.env.scope x:=by first | exact Or.inl rfl|exact Or.inr (Or.inl rfl)|exact Or.inr (Or.inr rfl))(hd:(x==("__debug__" :Str))=false:=by decide)(r:(x==("__classdict__" :Str))=false:=by decide):SF X (.BinOp (.Name x pos') .Add b pos) (V3 i n):=by
 obtain⟨t',s,t⟩:=hb;refine⟨_,Bo VH (Hz hN hv hd r) s,λB T u τ H Q M f h k=> ?_⟩;obtain⟨xs,e,h⟩:=Ih h;obtain⟨p,vs,w,hp,z,O,A,P⟩:=f.own i xs e;refine⟨.ref p,w,t B T u (frz τ) H _ _ f.frz h λv y C R a D h2=> ?_⟩;split at h2 <;> first | exact h2.elim|skip
 obtain⟨hl,E,h2⟩:=h2;have g:=f.stp a;obtain⟨j,F,rfl,G,I,J,c⟩:=C8 D;have d:=z.stp a f.va;refine⟨p,j,vs,F,rfl,rfl,a.keep _ _ A hp,G,by rw[d.length,c.length];exact hl,λq o=> ?_⟩;obtain⟨l,m,K,L⟩:=Lg g o (d.append (Ay.free E c));exact k q _ _ C _ (a.trans l) m (a.none o) Af K L h2
end
end PL
namespace L2
open PySem PySem.Spec PyProof.Rows
def LI:typeLookup (.type "enumerate") "__getattr__" =pure none:=by rw[typeLookup_type,builtinLookup_eq_fast];kernel_rfl
def QV:typeLookup (.type "enumerate") "keys" =pure none:=by rw[typeLookup_type,builtinLookup_eq_fast];kernel_rfl
def Si:entryFor table "enumerate.__getattribute__" =some Builtin.«object.__getattribute__»:=
 entryFor_alias (id':="object.__getattribute__") (by kernel_rfl) (by decide +kernel) (by decide +kernel) (by kernel_rfl)
def Zc (a:kj)(o:Obj)(c:Array km)(u:Tok)(hc:o.cls= .type "enumerate")(hd:o.dict=none)(b:o.data= .fields c):Meets (Builtin.«object.__getattribute__» ⟨[.ref a, .str "keys" u], []⟩) (λA R s=>s.heap.get? a=some o/\raisesAttr (.ref a) "keys" A R s):=
 Meets.of_wp λprog w A R s hs=>by
  obtain⟨cls,f,data,sl⟩:=o;simp only at hc hd b;subst hc hd b;obtain⟨hp,g,d,e,os⟩:=s;obtain⟨hx,hs⟩:=hs;have h:(⟨hp,g,d,e,os⟩:kl).TypeIs (.ref a) "enumerate" :=⟨_,hx,rfl⟩;have f0:=QV;unfold Builtin.«object.__getattribute__»;repeat (any_goals (first | assumption|wp_step))
  exact wpAny_raiseAttrError hs.1 hs.2 (attrMsg_fits (by decide +kernel) (by decide))
section
variable {prog:kd}{w:kc}{A:fe}{E:km->kl->Prop}{s:kl}
def Xy {e it:kj}{i:Int}{a:km}{Q:ki km->kl->Prop}(he:IsEnum s.heap e it i a)(l:A.handled=none)(h:∀h' f,(∀b o,s.heap.get? b=some o->h'.get? b=some o)->Q none {s with heap:=h',toks:=f}):wpAny (model prog w) A (getAttr? (.ref e) "keys") Q E s:=by
 obtain⟨hp,g,d,f,os⟩:=s;have he:hp.get? e=some {cls:= .type "enumerate",data:= .fields #[.none, .bool false, .ref it,rawInt i, .none,a] }:=he;have j:∀c,(⟨hp,g,d,c,os⟩:kl).TypeIs (.ref e) "enumerate" :=λ_=>⟨_,he,rfl⟩;have f1:=sub_AttributeError;have m:=ADw.lookup;have n:=ADw.bind (.ref e);have p:=LI;unfold getAttr? getAttrBy? getAttrBy;repeat (any_goals (first | assumption|exact j _|((with_reducible show wpAny _ _ (call (Value.builtin "enumerate.__getattribute__") _ _) _ _ _);refine call_meets ADw (j _) Si (F.args_enumerate_getattribute_2 _ _) (Zc e _ _ _ rfl rfl rfl) ⟨he,l,λh' c e k=> ?_⟩)|wp_step))
 obtain⟨t',r,t⟩:=k.there;show wpAny _ _ (getattributeRaised _ _ _ _ _ _ _) _ _ _;unfold getattributeRaised;repeat (any_goals (first | assumption|wp_step))
 exact h _ _ k.keeps
abbrev KY (h:gn)(e it:kj)(i:Int)(f0 f1 a:km):Prop:=
 h.get? e=some {cls:= .type "enumerate",dict:=none,data:= .fields #[f0,f1, .ref it,rawInt i, .none,a],slots:= #[] }
def ZP {M:Model}{a:kj}{Q:ki Obj->kl->Prop}(h:Q (s.heap.get? a) s):wpAny M A (loadIfAlive a) Q E s:=λ_ _ _=>h
def Sj {e it a:kj}{W:kn kj}{n i:Nat}{P:Nat->km->Prop}{St:Nat->gn->Prop}{C:km}{N:ke}{R:Obj}{Q:km->kl->Prop}(D:Draws prog w A it W n P St)(he:KY s.heap e it i (rawInt a) (.bool N) C)(ha:s.heap.get? a=some R)(Z:St i s.heap)(GG:i<n)(Lf:e≠it)(X:e ∉ W)(ye:a≠e)(yf:a≠it)(hQ:∀x h' z,P i x->KY h' e it ((i:Int)+1) (rawInt a) (.bool true) C->St (i+1) h'-> h'.get? s.heap.objs.size=some {cls:= .type "tuple",data:= .seq #[.int i z,x] }->h'.objs.size=s.heap.objs.size+1-> (∀b o,b≠e->b≠it->s.heap.get? b=some o->h'.get? b=some o)->Q (.ref s.heap.objs.size) {s with heap:=h',toks:=z+1}):wpAny (model prog w) A (Builtin.«enumerate.__next__» ⟨[.ref e], []⟩) (λS s'=>∃v,S= .done (.ret v)/\Q v s') E s:=by
 obtain⟨hp,g,d,T,os⟩:=s;show wpAny _ _ (field (.ref e) 2 >>= _) _ _ _;refine AAC (AAd he rfl (x:= .ref it) rfl ?_);refine AAC (D.item i _ _ _ GG Z λx k z Y H c=> ?_)
 replace c:Heap.SameBut it hp k:=c
 have r:KY k e it i (rawInt a) (.bool N) C:=(c.2 e Lf).trans he;show wpAny _ _ (field (.ref e) 3 >>= _) _ _ ⟨k,g,d,z,os⟩;refine AAC (AAd r rfl (x:=rawInt i) rfl ?_);show wpAny _ _ (field (.ref e) 4 >>= _) _ _ ⟨k,g,d,z,os⟩;refine AAC (AAd r rfl (x:= .none) rfl ?_);show wpAny _ _ (mkInt i >>= _) _ _ ⟨k,g,d,z,os⟩;refine AAC (wpAny_mkInt ?_);show wpAny _ _ (setField (.ref e) 3 (rawInt ((i:Int)+1)) >>= _) _ _ ⟨k,g,d,z+1,os⟩;refine AAC (ABR r (by simp) λB t f=> ?_)
 replace f:Heap.SameBut e k B:=f
 replace t:KY B e it ((i:Int)+1) (rawInt a) (.bool N) C:=t
 show wpAny _ _ (setField (.ref e) 4 .none >>= _) _ _ ⟨B,g,d,z+1,os⟩;refine AAC (ABR t (by simp) λl u h=> ?_)
 replace h:Heap.SameBut e B l:=h
 replace u:KY l e it ((i:Int)+1) (rawInt a) (.bool N) C:=u
 show wpAny _ _ (newTuple [.int i z,x] >>= _) _ _ ⟨l,g,d,z+1,os⟩;refine AAC (wpAny_newTuple ?_);have m:KY (l.push {cls:= .type "tuple",data:= .seq #[.int i z,x] }) e it ((i:Int)+1) (rawInt a) (.bool N) C:=AAI _ u;generalize p:l.push {cls:= .type "tuple",data:= .seq #[.int i z,x] }=h₄ at m;have hsz:l.objs.size=hp.objs.size:=by rw[h.1,f.1,c.1]
 have yj:e<hp.objs.size:=AAH he;have J:h₄.get? hp.objs.size=some {cls:= .type "tuple",data:= .seq #[.int i z,x] }:=by rw[<-p,<-hsz];exact AAR _ rfl
 have K:h₄.objs.size=hp.objs.size+1:=by rw[<-p,AA1,hsz]
 have F:∀b o,b≠e->b≠it->hp.get? b=some o->h₄.get? b=some o:=λb o M U hb=>by rw[<-p];exact AAI _ (h.extBut b o M (f.extBut b o M (c.extBut b o U hb)))
 have I:St (i+1) h₄:=D.frame _ _ _ H λb hb o y=>by have M:b≠e:=λq=>X (q ▸ hb);rw[<-p];exact AAI _ (h.extBut b o M (f.extBut b o M y))
 have O:h₄.get? a=some R:=F a _ ye yf ha;show wpAny _ _ (Builtin.SmallTypes.ownedTupleIsFree (.ref e) >>= _) _ _ ⟨h₄,g,d,z+1,os⟩;rw[hsz];clear p u h t f r c H hsz l B k;refine AAC ?_;unfold Builtin.SmallTypes.ownedTupleIsFree;refine AAC (AAd m rfl (x:=rawInt a) rfl ?_);show wpAny _ _ (loadIfAlive (Int.toNat a) >>= _) _ _ _;refine AAC (ZP ?_);rw[show (⟨h₄,g,d,z+1,os⟩:kl).heap.get? (Int.toNat a)=some R from O];simp only[Option.isNone_some,AAt,AAn];refine AAC (AAd m rfl (x:= .bool N) rfl ?_);cases N with
 | true=> rw[AAF (by decide)];exact AAE (AAE ⟨_,rfl,hQ x h₄ z Y m I J K F⟩)
 | false=>
   rw[AAG (by decide)];refine AAC (ABR m (by simp) λL G j=> ?_)
   replace j:Heap.SameBut e h₄ L:=j
   replace G:KY L e it ((i:Int)+1) (rawInt a) (.bool true) C:=G
   refine AAE (AAE ⟨_,rfl,hQ x L z Y G ?_ ?_ ?_ ?_⟩)
   .exact D.frame _ _ _ I λb hb o y=>j.extBut b o (λq=>X (q ▸ hb)) y
   .exact j.extBut _ _ (AAh yj) J
   .rw [j.1,K]
   .exact λb o M U hb=>j.extBut b o M (F b o M U hb)
def Sg:entryFor table "dict.update.loop" =some Builtin.«dict.update.loop»:=entryFor_of_tree (by kernel_rfl)
def Xb (h:gn)(e it:kj)(i:Nat):Prop:=(∃b,IsEnum h e it i b)\/∃(a:kj) (c:Obj) (d:ke) (b:km),KY h e it i (rawInt a) (.bool d) b/\h.get? a=some c/\a≠e/\a≠it
def Xb.cls {h:gn}{e it:kj}{i:Nat}(x:Xb h e it i):∃o,h.get? e=some o/\o.cls= .type "enumerate" :=by rcases x with⟨_,x⟩|⟨_,_,_,_,x,_⟩ <;> exact⟨_,x,rfl⟩
def dE {b:ke}{e it l:kj}{i:Nat}{its:Array km}{Q:ki km->kl->Prop}(I:A.in1.handled=none)(x:Xb s.heap e it i)(hi:N0 b s.heap it l i)(y:Ka b s.heap l its)(B:i<its.size)(j:e≠it)(Qk:l≠e)(J:l≠it)(h:∀v c h',Xb h' e it (i+1)->N0 b h' it l (i+1)->h'.get? s.heap.objs.size=some {cls:= .type "tuple",data:= .seq #[.int i c,v] }->(∀b o,b≠e->b≠it->s.heap.get? b=some o->h'.get? b=some o)->h'.objs.size=s.heap.objs.size+1->Q (some (.ref s.heap.objs.size)) {s with heap:=h',toks:=c+1}):wpAny (model prog w) A (pyNext (.ref e)) Q E s:=by
 have D:=Se (prog:=prog) (w:=w) (A:=A.in1) I b it l J its;have C:e ∉ [it,l] :=by simp only[AAJ,AAe,AAf];rintro(z|z);exact j z;exact Qk z.symm
 have k:e<s.heap.objs.size:=let ⟨_,q,_⟩:=x.cls;AAH q;have m:it<s.heap.objs.size:=by obtain⟨o,a,_⟩:=hi.obj;exact AAH a
 rcases x with⟨d,he⟩|⟨a,G,K,d,he,ha,n,p⟩
 .refine wpAny_pyNext_enum_itemD D he ⟨hi,y⟩ B j C λv h1 c _ r t f u g=> ?_;exact h v c h1 (.inr ⟨_,_,_,_,r,f,AAh k,AAh m⟩) t.1 f g u
 .have H:s.TypeIs (.ref e) "enumerate" :=⟨_,he,rfl⟩;unfold pyNext;exact AAC (AC7 (ABh (name:=Str.ofString "__next__") H ADL
   (AAy ADL H F.entry_enumerate_next
     (Sj D he ha ⟨hi,y⟩ B j C n p λv h1 c _ r t f u g=>AAE (h v c h1 (.inr ⟨a,G,true,d,r,g a G n p ha,n,p⟩) t.1 f g u)) (F.args_enumerate_next_1 _))))
def iV {b:ke}{e it l:kj}{its:Array km}{Q:ki km->kl->Prop}(g:A.in1.handled=none)(x:Xb s.heap e it its.size)(hi:N0 b s.heap it l its.size)(d:Ka b s.heap l its)(i:l≠it)(h:∀h',Heap.ExtBut it s.heap h'->Q none {s with heap:=h'}):wpAny (model prog w) A (pyNext (.ref e)) Q E s:=by
 have D:=Se (prog:=prog) (w:=w) (A:=A.in1) g b it l i its;rcases x with⟨c,he⟩|⟨a,n,p,c,he,ha,r,t⟩
 .exact wpAny_pyNext_enum_endD D he ⟨hi,d⟩ h
 .have f:s.TypeIs (.ref e) "enumerate" :=⟨_,he,rfl⟩;unfold pyNext;refine AAC (AC7 (ABh (name:=Str.ofString "__next__") f ADL
   (AAy ADL f F.entry_enumerate_next ?_ (F.args_enumerate_next_1 _))))
  show wpAny _ _ (field (.ref e) 2 >>= _) _ _ _;refine AAC (AAd he rfl (x:= .ref it) rfl ?_);refine AAC (D.done _ _ _ ⟨hi,d⟩ λh' x j k=> ?_);obtain⟨o,m,hc⟩:=k;refine AAC (ACB (T:="StopIteration") (b:=true) ⟨o,m,hc⟩ isSubtype_stop ?_);exact AAE (h _ j)
def Yi {K:Type}[DecidableEq K]{kvs:kn (K×km)}{k:K}{v:km}:stored kvs k v≠ [] /\(stored kvs k v).length<=kvs.length+1:=by
 unfold stored;split
 .rename_i z;refine⟨λe=> ?_,by simp⟩;have:kvs= [] :=by simpa using e
  rw[this] at z;cases z
 .exact ⟨by simp,by simp⟩
def dD {b:ke}{e it l d:kj}{its:Array km}(M:A.handled=none)(hsz:its.size<=sizeLine)(X:e≠it)(Qk:l≠e)(D:l≠it)(u:d≠e)(F:d≠it)(Y:d≠l)(N:gn)(s:kl){R:Result->kl->Prop}(G:∀(h':gn) (Z:Nat) (kvs:kn (Bx×km)),(kvs= [] ->its.size=0)->h'.DictOf (Ak prog w) d kvs->(∀c o,c≠e->c≠it->c≠d->N.get? c=some o->h'.get? c=some o)->R (.ok (.ret .none)) {s with heap:=h',toks:=Z}):∀(n i:Nat) (h:gn) (t:Nat) (kvs:kn (Bx×km)),n+i=its.size->Xb h e it i->N0 b h it l i->Ka b h l its->h.DictOf (Ak prog w) d kvs->kvs.length<=i->(kvs= [] ->i=0)->(∀c o,c≠e->c≠it->c≠d->N.get? c=some o->h.get? c=some o)-> codeAny (model prog w) A (.builtin "dict.update.loop" ⟨[.ref d, .ref e,rawInt i, .none], []⟩) R {s with heap:=h,toks:=t}:=by
 intro n;induction n with
 | zero=>
   intro i h t kvs H x hi y hd hl O I;have H:i=its.size:=by omega
   subst H;refine ACj Sg ?_;unfold Builtin.«dict.update.loop»;refine AAC (iV M x hi y D λh' ex=> ?_);show wpAny _ _ (Builtin.Dict.addKeywords d [] >>= _) _ _ _;refine AAC (AAE (AAE ?_));exact G h' t kvs O (hd.extBut ex F) (λc o j m B z=>ex c o m (I c o j m B z))
 | succ n ih=>
   intro i h t kvs H x hi y hd hl O I;refine ACj Sg ?_;unfold Builtin.«dict.update.loop»;refine AAC (dE M x hi y (by omega) X Qk D λv C h1 x1 i1 ht J z1=> ?_);have K:d<h.objs.size:=by obtain⟨o,_,_,p,_⟩:=hd;exact AAH p
   have mf:h1.DictOf (Ak prog w) d kvs:=by obtain⟨o,es,ep,p,r⟩:=hd;exact⟨o,es,ep,J d o u F p,r⟩
   have hT:(⟨h1,s.gens,s.drawn,C+1,s.os⟩:kl).TypeIs (.ref h.objs.size) "tuple" :=⟨_,ht,rfl⟩;refine AAC (AAg ?_);refine AAC (wpAny_tryCatch ?_);unfold Builtin.Dict.pairItems;have hk:(Ak prog w).is (Sum.inl (i:Int)) (.int i C)=true:=Ku prog w i C;have y7:kvs.length<=sizeLine:=by omega
   wp_walk using wpAny_dictSet_pairs (s:=⟨h1,s.gens,s.drawn,C+1,s.os⟩) (k:=Sum.inl (i:Int)) hk mf (hsz:=y7)
   intro h2 P s2;have dne:h.objs.size≠d:=AAh K;have L:rawInt ((i:Int)+1)=rawInt ((i+1:Nat):Int):=by rw[Int.natCast_add];rfl
   rw[L];have f:∀c o,c≠d->h1.get? c=some o->h2.get? c=some o:=λc o j z=>s2.extBut c o j z;obtain⟨sn,sl⟩:=Yi (kvs:=kvs) (k:=(Sum.inl (i:Int):Bx)) (v:=v);refine AAE ⟨Code.quiet_builtin _ (by decide +kernel),ih (i+1) h2 _ _ (by omega) ?_ (i1.mv λo z=>f it o F.symm z) ((y.mv λo z=>J l o Qk D z).mv λo z=>f l o Y.symm z) P (by omega) (λz=>absurd z sn) λc o j m B z=>f c o B (J c o j m (I c o j m B z))⟩;rcases x1 with⟨g,he⟩|⟨a,Q,S,g,he,ha,T,U⟩
   .exact .inl ⟨g,f e _ u.symm he⟩
   .by_cases W:a=d
    .subst W;obtain⟨o,_,_,p,_⟩:=P;exact .inr ⟨a,o,S,g,f e _ u.symm he,p,T,U⟩
    .exact .inr ⟨a,Q,S,g,f e _ u.symm he,f a Q W ha,T,U⟩
def dB {b:ke}{e it l:kj}{its:Array km}{Q:km->kl->Prop}(p:A.handled=none)(hsz:its.size<=sizeLine)(x:e≠it)(Qk:l≠e)(B:l≠it){i0:km}(he:IsEnum s.heap e it 0 i0)(hi:N0 b s.heap it l 0)(t:Ka b s.heap l its)(h:∀(h':gn) (i:Nat) (kvs:kn (Bx×km)),(kvs= [] ->its.size=0)->h'.DictOf (Ak prog w) s.heap.objs.size kvs->(∀c o,c≠e->c≠it->s.heap.get? c=some o->h'.get? c=some o)->Q (.ref s.heap.objs.size) {s with heap:=h',toks:=i}):wpAny (model prog w) A (call (.type "dict") [.ref e]) Q E s:=by
 refine callType_codes (Q₁:=λobj d=>obj= .ref s.heap.objs.size/\d={s with heap:=s.heap.push {cls:= .type "dict",data:= .dict #[] }}) F.kt_called_dict (F.kt_typeCall_dict_1 _) F.entry_dict_init (kt_code_dict_new _ ⟨rfl,rfl⟩) ?_;rintro obj d ⟨rfl,rfl⟩;have j:(s.heap.push {cls:= .type "dict",data:= .dict #[] }).DictOf (Ak prog w) s.heap.objs.size [] :=Heap.DictOf.new s.heap;have f:∀c o,s.heap.get? c=some o->(s.heap.push {cls:= .type "dict",data:= .dict #[] }).get? c=some o:=λc o z=>AAI _ z;have k:e<s.heap.objs.size:=AAH he;have m:it<s.heap.objs.size:=by obtain⟨o,a,_⟩:=hi.obj;exact AAH a
 have n:l<s.heap.objs.size:=by obtain⟨o,a,_⟩:=XD t;exact AAH a
 refine⟨j.typeIs,F.args_dict_init_2 _ _, ?_⟩;unfold Builtin.«dict.__init__»;refine AAC ?_;unfold Builtin.Dict.selfAndRest;refine AAC (wpAny_notOrdered_dict j.typeIs ?_);show wpAny _ _ (pure (s.heap.objs.size, [Value.ref e])) _ _ _;refine AAE ?_;show wpAny _ _ (Builtin.Dict.updateFrom "dict.__init__" s.heap.objs.size (.ref e) [] .none) _ _ _;unfold Builtin.Dict.updateFrom;have C:({s with heap:=s.heap.push {cls:= .type "dict",data:= .dict #[] }}:kl).TypeIs (.ref e) "enumerate" :=⟨_,f _ _ he,rfl⟩;refine AAC (AC0 C ?_);rw[AAG (by decide)];refine AAC (Xy (f _ _ he) p λh1 D g=> ?_);rw[AAG (show (none:ki km).isNone=true from rfl)];refine AAC (ABc ?_);refine AAC (ADu (g _ _ (f _ _ he)) ?_);refine AAE ⟨Code.quiet_builtin _ (by decide +kernel), ?_⟩;have G:h1.DictOf (Ak prog w) s.heap.objs.size [] :=by obtain⟨o,es,ep,H,r⟩:=j;exact⟨o,es,ep,g _ _ H,r⟩
 exact dD (A:=A.in1) p hsz x Qk B (AAh k) (AAh m) (AAh n) s.heap s (λh' i kvs z I J=>⟨rfl,h h' i kvs z I λc o u v y=>J c o u v (AAN (AAH y)) y⟩) its.size 0 h1 D [] (by omega) (.inl ⟨_,g _ _ (f _ _ he)⟩) ((hi.mv λo z=>f it o z).mv λo z=>g it o z) ((t.mv λo z=>f l o z).mv λo z=>g l o z) G (by simp) (λ_=>rfl) λc o u v K z=>g c o (f c o z)
end
def PN (P:kd)(w:kc)(p:kj)(h:gn):Prop:=(p==sysModules)=false/\∃kvs:kn (Bx×km),kvs≠ [] /\h.DictOf (Ak P w) p kvs
def Z4 {P:kd}{w:kc}{H:Hp}{h:gn}{p:kj}(x:PN P w p h):B2 P w H h p (.ext (PN P w p)):=by obtain⟨b,kvs,z,o,es,ep,a,r⟩:=id x;refine⟨x,⟨_,a⟩,λh1 h2 z q=> ?_⟩;obtain⟨b,kvs,z,o,es,ep,a,r⟩:=z;exact⟨b,kvs,z,o,es,ep,q _ a,r⟩
def tM (P:kd)(w:kc)(K:AAD)(a:TA):TE:=λc H Q=>a c H λvs H1=>∃b l xs,vs= [.ref l] /\Sq K b H1 l xs/\0<xs.length/\∀p,H1 p=none->Q (.ref p) (upd H1 p (.ext (PN P w p)))
def sj (P:kd)(w:kc):R2:=λx y H Q=>∃a b,x= .ref a/\y= .ref b/\H a=some (.ext (PN P w a))/\H b=some (.dK [])/\Q (.bl false) H
section
variable {X:Cx}
def jl {e:kf}{t:TA}{p k pos d:Pos}(hc:X.calm=true)(B:Gl X "dict")(C:X.mg "dict" =none)(D:Gl X "enumerate")(E:X.mg "enumerate" =none)(ha:PA X [e] t)(hs:starEach [e] X.env= [(false,eval e X.env)] :=by rfl)(v:starEach [.Call (.Name "enumerate" k) [e] [] d] X.env= [(false,eval (.Call (.Name "enumerate" k) [e] [] d) X.env)] :=by rfl):PE X (.Call (.Name "dict" p) [.Call (.Name "enumerate" k) [e] [] d] [] pos) (tM X.prog X.w X.K t):=by
 intro F s G H Q I h;refine ACG (FE I B C PyProof.Rows.boot_dict (ABu ?_ (by rw[v];rfl) rfl) (by decide) (by decide));rw[v];show wpAny _ _ (spliced [(false,eval (.Call (.Name "enumerate" k) [e] [] d) X.env)]) _ _ s;refine ACE (ACG (FE I D E PyProof.Rows.boot_enumerate (ABu (BO (ha d F s G H _ I h) λT f ⟨vs,H1,g,J,L⟩=> ?_) (by rw[hs];rfl) rfl) (by decide) (by decide)));obtain⟨b,l,xs,rfl,hl,x,q⟩:=L;obtain⟨u,rfl,M⟩:=vals1 J;cases M;obtain⟨its,rv,m,U⟩:=g.sq hl;have y:=rv.length;refine Il m λh' N b2 W A=>ACy ?_;have i:l<f.heap.objs.size:=by obtain⟨o,a,_⟩:=XD m;exact AAH a
 refine dB (s:={f with heap:=h'}) (its:=its.toArray) (b:=b) (l:=l) (i0:= .none) (g.ok.hd hc) (by simp;omega) (Nat.succ_ne_self _) (AAN (Nat.lt_succ_of_lt i)) (AAN i) N b2 (m.mv λo z=>A l o z) λh2 O kvs kz P R=> ?_;have keep:∀c o,f.heap.get? c=some o->h2.get? c=some o:=λc o z=>by have j:c<f.heap.objs.size:=AAH z;exact R c o (AAN (Nat.lt_succ_of_lt j)) (AAN j) (A c o z)
 have ne:kvs≠ [] :=λz=>by
  have S:its.length=0:=by simpa using kz z
  rw[S] at y;rw[y] at x;exact absurd x (ABO _)
 have n:=g.big;have r:f.heap.objs.size<=h'.objs.size:=by omega
 exact⟨.ref _,_,g.laid (a:=h'.objs.size) (o:= .ext (PN X.prog X.w h'.objs.size)) (t':=O) keep r (Z4 ⟨ACv.mpr (AAz (AAN (AAV n r))),kvs,ne,P⟩),rfl,q _ (g.hok.fresh r)⟩
def jZ (hu:X.A.units<cLine):DY X (compareOp .Eq) (sj X.prog X.w):=by
 intro k s l H x y v u Q I d e h;obtain⟨a,b,rfl,rfl,ha,hb,q⟩:=h;cases d;cases e;obtain⟨⟨f,kvs,c,g⟩,_,_⟩:=I.hok a _ ha;obtain⟨_,hs,vs,i,j⟩:=Sc I.hok hb;cases i;refine PySem.W.keq_eq (r:=false) f hs g j hu (λz=> ?_) ?_
 .cases kvs with
  | nil=>exact absurd rfl c
  | cons x xs=>cases z
 .cases kvs with
  | nil=>exact absurd rfl c
  | cons x xs=>exact⟨.bl false,H,I,rfl,q⟩
end
end L2
namespace PL
open PySem PySem.Spec PyProof.Rows L2
def iI (a:AE):AE:=λτ Q=>a τ λx=>Q8 x λxs=>0<xs.length/\Q (.bl false)
section
variable {X:Cx}
def kM {k:Nat}{e:kf}{m:AE}{p f pos a b c:Pos}(s:Room k X.A)(hc:X.calm=true)(u:Gl X "dict")(y:X.mg "dict" =none)(C:Gl X "enumerate")(D:X.mg "enumerate" =none)(ha:SE X e m)(hs:starEach [e] X.env= [(false,eval e X.env)] :=by rfl)(E:starEach [.Call (.Name "enumerate" f) [e] [] a] X.env= [(false,eval (.Call (.Name "enumerate" f) [e] [] a) X.env)] :=by rfl):SE X (.Compare (.Call (.Name "dict" p) [.Call (.Name "enumerate" f) [e] [] a] [] pos) [.Eq] [.Dict [] [] b] c) (iI m):=by
 obtain⟨t,F,G⟩:=ha;refine⟨_,RD (jZ (by have:=s.un;omega)) (jl hc u y C D (Bn F Dk hs) hs E) ak (BU _),λB T I τ H Q J g h k=> ?_⟩;refine G B T I τ H _ _ g h λv x T1 H1 i K d=> ?_;obtain⟨xs,hx,O,d⟩:∃xs,(x= .tup xs\/x= .lst xs)/\0<xs.length/\J (.bl false):=by
  cases x <;> first | exact d.elim|skip
  .exact ⟨_, .inl rfl,d⟩
  .exact ⟨_, .inr rfl,d⟩
 obtain⟨l,vs,rfl,L,M⟩:=Tv hx K;have hl:=M.length;refine⟨_,l,vs,rfl,L,by omega,λp hp=> ?_⟩;have n:=Ct.lay (o:= .ext (PN X.prog X.w p)) (g.stp i).tp hp;intro r j;have N:=Ct.lay (o:= .dK []) ((g.stp i).stp n).tp j;have ne:p≠r:=λz=>by subst z;rw[Af] at j;cases j
 exact⟨p,r,rfl,rfl,by rw[Ah ne];exact Af,Af,k _ _ T1 _ ((i.trans n).trans N) (.bl false) d⟩
def So:AF:=λxs Q=>match xs with | [.int i] =>i.natAbs<1000000/\Q (.str (Str.ofString (toString i)))|_=>False
def gb:kn V->Hp->VK->Prop:=λa H Q=>∃i:Int,a= [.int i] /\i.natAbs<1000000/\Q (.str (Str.ofString (toString i))) H
def Wx:Bu X (.type "str") gb/\ED X.K gb So:=by
 refine⟨?_,λT M H b xs Q c va r h k=> ?_⟩
 .intro d s e H b vs Q I r h;obtain⟨i,rfl,hi,q⟩:=h;cases r with
  | cons r t=>
    cases t;obtain⟨f,rfl⟩:=r;have hl:i.natAbs.log2<1920:=by
     by_cases a:i.natAbs=0
     .rw [a];decide
     .have:=(Nat.log2_lt a (k:=20)).mpr (by omega);omega
    exact P.str_of_int hl ⟨.str _,H,I.tok _,⟨_,rfl⟩,q⟩
 .unfold So at h;split at h <;> first | exact h.elim|skip
  cases r with
  | cons r t=> cases t;cases r;exact⟨_,rfl,h.1,k _ _ T H (.refl va.tp) (.str _) h.2⟩
end
section
variable {X:Cx}{a b c d e:kf}{ta tb tc td:AE}{pos:Pos}
def BN (ha:SE X a ta)(h:starEach [a] X.env=(false,eval a X.env)::starEach [] X.env:=by rfl):SA X [a] (AB ta AK):=Ag ha EA h
def At (ha:SE X a ta)(hb:SE X b tb)(h:starEach [a,b] X.env=(false,eval a X.env)::starEach [b] X.env:=by rfl)(h2:starEach [b] X.env=(false,eval b X.env)::starEach [] X.env:=by rfl):SA X [a,b] (AB ta (AB tb AK)):=Ag ha (BN hb h2) h
def CI (ha:SE X a ta)(hb:SE X b tb)(hc:SE X c tc)(h:starEach [a,b,c] X.env=(false,eval a X.env)::starEach [b,c] X.env:=by rfl)(h2:starEach [b,c] X.env=(false,eval b X.env)::starEach [c] X.env:=by rfl)(h3:starEach [c] X.env=(false,eval c X.env)::starEach [] X.env:=by rfl):SA X [a,b,c] (AB ta (AB tb (AB tc AK))):=Ag ha (At hb hc h2 h3) h
def AZ (ha:SE X a ta)(hb:SE X b tb)(hs:QI b:=by exact λ_ _=>rfl):SE X (.Subscript a b pos) (AX An ta tb):=om pA ha hb hs
def GF {op:CmpOp}{r:R2}{f:G6}(g:DY X (compareOp op) r/\Bw X.K r f)(ha:SE X a ta)(hb:SE X b tb)(h:behindInMarks op b=false:=by exact BU _):V1 X (.Compare a [op] [b] pos) (BA (AX f ta tb)):=kZ g ha hb h
def DK (i:Nat){x:Str}{pos':Pos}(hN:X.N.Nodup)(he:SE X e ta)(hi:X.N[i]? =some x:=by rfl)(hx:Loc X.env.scope x:=by exact Or.inl rfl)(hs:swapsWith e (some (.Name x pos')) pos.line X.env=pure false:=by rfl)(f:X.fn x=true\/X.env.scope.names.lookup x=some .local:=by first | exact .inl rfl|exact .inr rfl|assumption):SS X (.Assign [.Name x pos'] e pos) (Ao ta (Aq i)):=Gs hN hi hx he hs f
def Dc (i:Nat){x:Str}(hN:X.N.Nodup)(hi:X.N[i]? =some x:=by rfl)(hx:Loc X.env.scope x:=by exact Or.inl rfl)(f:X.fn x=true\/X.env.scope.names.lookup x=some .local:=by first | exact .inl rfl|exact .inr rfl|assumption):SG X (.Name x pos) (Aq i):=HC hN hi hx f
def Ls (i:Nat){own:Nat}{x:Str}(hN:X.N.Nodup)(hi:X.N[i]? =some x:=by rfl)(hx:Loc X.env.scope x:=by exact Or.inl rfl)(hk:i<own:=by decide)(f:X.fn x=true\/X.env.scope.names.lookup x=some .local:=by first | exact .inl rfl|exact .inr rfl|assumption):SK own X (.Name x pos) (Aq i):=fX hN hi hx hk f
end
def map_pair {a b c:Type}{o:ki a}{f:a->b}{g:a->c}{x:b}{y:c}(h1:o.map f=some x)(h2:o.map g=some y):o.map (λs=>(f s,g s))=some (x,y):=by
 cases o with
 | none=>cases h1
 | some s=>cases h1;cases h2;rfl
def map5 {a A B C D E:Type}{o:ki a}{F:a->A×B×C×D×E}{X:A×B×C×D×E}(h1:o.map (λs=>(F s).1)=some X.1)(h2:o.map (λs=>(F s).2.1)=some X.2.1)(h3:o.map (λs=>(F s).2.2.1)=some X.2.2.1)(b:o.map (λs=>(F s).2.2.2.1)=some X.2.2.2.1)(c:o.map (λs=>(F s).2.2.2.2)=some X.2.2.2.2):o.map F=some X:=by
 cases o with
 | none=>cases h1
 | some s=>exact congrArg some (ACX (AAb h1) (ACX (AAb h2) (ACX (AAb h3) (ACX (AAb b) (AAb c)))))
def Bk {P:kd}{w:kc}{K:AAD}{mg:Str->ki km}{base:gn}{k a:Nat}{x:Str}{ps:kn Str}{sp:Sp}(H:Has P w K mg base k x ps sp)(h:k<=a:=by decide):Has P w K mg base a x ps sp:=H.mono h
end PL
open PySem L2 PL PyProof.Rows
local macro_rules | `(tactic| decreasing_trivial_pre_omega)=> `(tactic| first | assumption|omega|((apply Bd.mono);(focus (repeat' (first | assumption|exact JV.m (by assumption)|exact JV.x (by assumption)|exact JV.y (by assumption)|exact JV.z (by assumption)|exact qG|exact vX|with_reducible apply Bd.add|with_reducible apply Bd.sub|with_reducible apply Bd.mul|with_reducible apply Bd.neg|with_reducible apply Bd.mx|with_reducible apply Bd.mn)));first | omega|decide)|decide|(simp only [List.length_map,List.length_append,List.length_cons,List.length_nil,List.length_take,List.length_drop,List.length_zip,List.length_reverse];omega)|(show _<=16777216;simp only [List.length_map,List.length_append,List.length_cons,List.length_nil,List.length_take,List.length_drop,List.length_zip,List.length_reverse];omega)|(show _<16777216;simp only [List.length_map,List.length_append,List.length_cons,List.length_nil,List.length_take,List.length_drop,List.length_zip,List.length_reverse];omega)|(refine And.intro ?_ ?_ <;> decreasing_trivial_pre_omega)|exact rfl)
local macro_rules | `(tactic| array_mem_dec)=> `(tactic| first
 | refine Wp.go ?_
 | ((refine ZJ.go ?_ ?_);focus (first | exact True.intro|decreasing_trivial_pre_omega))
 | ((with_reducible apply And.intro);focus decreasing_trivial_pre_omega)
 | ((with_reducible apply kC);focus decide)
 | ((with_reducible apply kB);focus decide)
 | ((with_reducible apply s_ifnT);focus decide)
 | ((with_reducible apply s_ifnF);focus decide)
 | refine rJ.go (λ_=> ?_) (λ_=> ?_)
 | ((with_reducible apply s_ixPl);focus assumption)
 | ((with_reducible apply Tq);focus exact rfl)
 | ((with_reducible apply oY);(focus (first | exact .inl rfl|exact .inr (.inl rfl)|exact .inr (.inr (.inl rfl))|exact .inr (.inr (.inr rfl))));(focus exact rfl))
 | ((with_reducible apply oV);focus exact rfl)
 | ((with_reducible apply oU);focus exact rfl)
 | intro _
 | with_reducible rfl)
local macro_rules | `(tactic| array_get_dec)=> `(tactic| first | array_mem_dec|refine vT.go ?_|fail)
local macro_rules | `(tactic| ac_rfl)=> `(tactic| repeat' array_mem_dec)
namespace PL
open PySem L2 PyProof.Rows
abbrev Vw:AS:=
 (Au (Ab (AB (aV 0) (AB (aC (.int 1)) AK))))
def G5:AF:=Ar 1 Vw
def Yf {a:PV}{Q:PV->Prop}(h:Vw ⟨λ_=>Q .non,Q,λ_=>False,λ_=>False⟩ [some (.val a)]):G5 [a] Q:=h
instance{k:Int}{Q:PV->Prop}:Wp (G5 [.int k] Q) (Q (fr (k:Rat))):=⟨λh=>by
 apply Yf;repeat' array_get_dec
 exact h⟩
def Jn.open {n B:Nat}{cs:kn C4}(p:Jn n B cs):∃a r l,cs=a::r/\r≠ [] /\(a::r).getLast?=some l/\a.1<l.1:=by
 obtain⟨c,d,e,b⟩:=p;match cs,c,b with
 | a::b0::r,_,b=>exact⟨a,b0::r,_,rfl,by simp,ADx (by simp),(AAl.mp b).1 _ (ADy (YJ (ADx (by simp))))⟩
abbrev L8:AS:=
 (Au (Ab (AB (V4 LJ (AX An (aV 0) (aC (.int 0)))) (AB (AX An (aV 0) (aC (.int 1))) AK))))
def CU:AF:=Ar 1 L8
def RR {a:PV}{Q:PV->Prop}(h:L8 ⟨λ_=>Q .non,Q,λ_=>False,λ_=>False⟩ [some (.val a)]):CU [a] Q:=h
abbrev Ov:AS:=
 (Au (lP (BA (AX Mo (aV 1) (aC (.int 2)))) (AX An (aV 0) (aC (.int 1))) (AX An (aV 0) (aC (.int 0)))))
def Cg:AF:=Ar 2 Ov
def Tn {a x1:PV}{Q:PV->Prop}(h:Ov ⟨λ_=>Q .non,Q,λ_=>False,λ_=>False⟩ [some (.val a),some (.val x1)]):Cg [a,x1] Q:=h
abbrev OF:AS:=
 (Aa (Ao (AR 2 E8 (AB (AR 2 Cg (AB (AX An (aV 0) (aC (.int 1))) (AB (aV 4) AK))) (AB (AR 2 Cg (AB (AX An (aV 1) (aC (.int 1))) (AB (aV 4) AK))) AK))) (Aq 5))
   (FV 3 Jw (AB (AR 2 E8 (AB (AR 2 Cg (AB (aV 2) (AB (aV 4) AK))) (AB (aV 5) AK))) AK)))
abbrev OG:AS:=
 (Aa (GE (QP (AB (aC (.int 3)) AK)) (Aq 4) OF)
   (Au (aV 3)))
abbrev MJ:AS:=
 (Aa (Fo (C3 AK) 3)
   OG)
def EV:AF:=Ar 6 MJ
def RU {a x1 b:PV}{Q:PV->Prop}(h:MJ ⟨λ_=>Q .non,Q,λ_=>False,λ_=>False⟩ [some (.val a),some (.val x1),some (.val b),none,none,none]):EV [a,x1,b] Q:=h
def XU (b:T3)(v:PV):Prop:=v=tH b\/v= .lst [fr b.1,fr b.2.1,fr b.2.2]
def Hh (cs:kn C4)(b:T3)(v:PV):Prop:=∃p w,KZ cs p/\XU b w/\(v= .tup [p,w] \/v= .lst [p,w])
def XR (d:Rat×Rat)(v:PV):Prop:=v= .tup [fr d.1,fr d.2] \/v= .lst [fr d.1,fr d.2]
def jQ (r:Rat):PV.tup [.int (-r.num), .int r.den] =fr (-r):=by unfold fr;rw[Rat.neg_num,Rat.neg_den]
def GW {r:Rat}{Q:PV->Prop}(q:Q (fr (-r))):CU [fr r] Q:=by
 apply RR;repeat' array_get_dec
 rw[jQ];exact q
def c0 {x:PV}{c:C4}{R:PV->Prop}(hx:x=cor c\/x=corL c)(h:R (fr c.1)):An x (.int 0) R:=by rcases hx with rfl|rfl <;> exact h
def f0 {cs:kn C4}{b:T3}{v:PV}{R:PV->Prop}(hv:Hh cs b v)(h:∀p,KZ cs p->R p):An v (.int 0) R:=by obtain⟨p,w,hp,hw,hv⟩:=hv;rcases hv with rfl|rfl <;> exact h p hp
def f1 {cs:kn C4}{b:T3}{v:PV}{R:PV->Prop}(hv:Hh cs b v)(h:∀w,XU b w->R w):An v (.int 1) R:=by obtain⟨p,w,hp,hw,hv⟩:=hv;rcases hv with rfl|rfl <;> exact h w hw
def b2 {b:T3}{w:PV}{R:PV->Prop}(hw:XU b w)(h:R (fr b.2.2)):An w (.int 2) R:=by rcases hw with rfl|rfl <;> exact h
def M9 {k n:Nat}(h:k<=n)(a:n<1000000):k<sizeLine:=AAj h (AAV a (ABT rfl))
def szs (b e:T3)(d:Rat×Rat):T3:=(d.1+(b.1+e.1),d.1+(b.1+e.1),d.2+(b.2.1+e.2.1))
def W5 {w:PV}{x y:Rat}{k:Int}(a:∀{R:PV->Prop},R (fr x)->An w (.int 0) R)(h1:∀{R:PV->Prop},R (fr y)->An w (.int 1) R){Q:PV->Prop}(q:Q (fr (if k=2 then y else x))):Cg [w, .int k] Q:=by
 apply Tn;ac_rfl
 .rename_i h;rw[AAG h] at q;exact h1 q
 .rename_i h;rw[AAF h] at q;exact a q
def SJ {b:T3}{w:PV}{k:Int}(hw:XU b w){Q:PV->Prop}(q:Q (fr (if k=2 then b.2.1 else b.1))):Cg [w, .int k] Q:=
 W5 (λh=>by rcases hw with rfl|rfl <;> exact h) (λh=>by rcases hw with rfl|rfl <;> exact h) q
def ZQ {d:Rat×Rat}{w:PV}{k:Int}(hw:XR d w){Q:PV->Prop}(q:Q (fr (if k=2 then d.2 else d.1))):Cg [w, .int k] Q:=
 W5 (λh=>by rcases hw with rfl|rfl <;> exact h) (λh=>by rcases hw with rfl|rfl <;> exact h) q
def bh {cs ds:kn C4}{b e:T3}{d:Rat×Rat}{v w u:PV}(hv:Hh cs b v)(hw:Hh ds e w)(hu:XR d u)(l:IQ 100 b)(m:IQ 100 e)(F:Bd 100 d.1)(b2:Bd 100 d.2){Q:PV->Prop}(q:Q (.lst [fr (szs b e d).1,fr (szs b e d).2.1,fr (szs b e d).2.2])):EV [v,w,u] Q:=by
 have s:=l.x;have f:=l.y;have ex:=m.x;have z:=m.y;have G:=s.add ex;have H:=f.add z;apply RU;ac_rfl;have bk:∀k:Int,Bd 100 (if k=2 then b.2.1 else b.1):=λk=>by split <;> assumption
 have A:∀k:Int,Bd 100 (if k=2 then e.2.1 else e.1):=λk=>by split <;> assumption
 have B:∀k:Int,Bd 100 (if k=2 then d.2 else d.1):=λk=>by split <;> assumption
 refine WM (λi τ=>∃a c,τ= [some (.val v),some (.val w),some (.val u),some (.own ((List.range i).map λk:Nat=>fr ((if (k:Int)=2 then d.2 else d.1)+((if (k:Int)=2 then b.2.1 else b.1)+(if (k:Int)=2 then e.2.1 else e.1))))),a,c]) ?_ ?_ ⟨_,_,rfl⟩
 .rintro τ ⟨a,c,rfl⟩;ac_rfl;exact q
 .rintro i hi τ R o ⟨a,c,rfl⟩;have I:i<3:=hi;have g:∀a c,R [some (.val v),some (.val w),some (.val u),some (.own (((List.range i).map λk:Nat=>fr ((if (k:Int)=2 then d.2 else d.1)+((if (k:Int)=2 then b.2.1 else b.1)+(if (k:Int)=2 then e.2.1 else e.1)))) ++ [fr ((if (i:Int)=2 then d.2 else d.1)+((if (i:Int)=2 then b.2.1 else b.1)+(if (i:Int)=2 then e.2.1 else e.1)))])),a,c] :=λa c=>o _ ⟨a,c,by rw[List.range_succ,ABl];rfl⟩;clear o;have h:=bk i;have j:=A i;have C:=B i;have J:=h.add j;have D:((List.range i).map λk:Nat=>fr ((if (k:Int)=2 then d.2 else d.1)+((if (k:Int)=2 then b.2.1 else b.1)+(if (k:Int)=2 then e.2.1 else e.1)))).length<=3:=by rw[AAO,List.length_range];omega
  generalize ((List.range i).map λk:Nat=>fr ((if (k:Int)=2 then d.2 else d.1)+((if (k:Int)=2 then b.2.1 else b.1)+(if (k:Int)=2 then e.2.1 else e.1))))=L at *;have E:(0:Int)+i=i:=by omega
  rw[E];ac_rfl;refine f1 hv λx hx=> ?_;ac_rfl;refine SJ hx ?_;ac_rfl;refine f1 hw λx hx=> ?_;ac_rfl;refine SJ hx ?_;generalize (if (i:Int)=2 then b.2.1 else b.1)=p at *;generalize (if (i:Int)=2 then e.2.1 else e.1)=r at *;ac_rfl;refine ZQ hu ?_;generalize (if (i:Int)=2 then d.2 else d.1)=t at *;ac_rfl;refine⟨M9 (n:=3) D (by decide), ?_⟩;ac_rfl;exact g _ _
abbrev Iv (cs:kn C4)(b:T3):PV:= .tup [D3 cs, .tup [fr b.1,fr b.2.1,fr b.2.2]]
end PL
namespace PL.K31
open PySem L2 PL PyProof.Rows
abbrev JY:AS:=
 (Aa (B9 (BA (AX Mo (AR 2 BB (AB (aV 0) (AB (aC (.int 2)) AK))) (aC (.int 0)))) (Au (Ab (AB (Ab (AB (aC (.int 0)) (AB (aC (.int 1)) AK))) (AB (Ab (AB (aC (.int 0)) (AB (aC (.int 1)) AK))) (AB (Ab (AB (aC (.int 0)) (AB (aC (.int 1)) AK))) AK))))) BF)
   (Au (Ab (AB (AX An (aV 1) (AR 2 BB (AB (aV 0) (AB (aC (.int 4)) AK)))) (AB (AX An (aV 1) (AR 2 BB (AB (aV 0) (AB (aC (.int 4)) AK)))) (AB (AX An (aV 1) (AR 2 BB (AB (aV 0) (AB (aC (.int 6)) AK)))) AK))))))
abbrev HM:AS:=
 (Aa (Ao (FB (C3 (AB (Ab (AB (aC (.int 0)) (AB (aC (.int 1)) AK))) (AB (Ab (AB (aC (.int 1)) (AB (aC (.int 2)) AK))) (AB (Ab (AB (aC (.int 1)) (AB (aC (.int 1)) AK))) (AB (Ab (AB (aC (.int 1)) (AB (aC (.int 3)) AK))) (AB (Ab (AB (aC (.int 3)) (AB (aC (.int 1)) AK))) (AB (Ab (AB (aC (.int 40)) (AB (aC (.int 1)) AK))) AK)))))))) (Aq 1))
   JY)
def CJ:AF:=Ar 2 HM
def LS {a:PV}{Q:PV->Prop}(h:HM ⟨λ_=>Q .non,Q,λ_=>False,λ_=>False⟩ [some (.val a),none]):CJ [a] Q:=h
abbrev Jc:AS:=
 (Aa (GE (N1 (aV 1)) (Aq 7) (FV 6 Jw (AB (AX BW (Ab (AB (AR 2 C2 (AB (AX An (aV 7) (aC (.int 0))) (AB (aV 3) AK))) AK)) (Fn EZ (AB (FB (CH (QP (AB (aC (.int 3)) AK)) 1 [7,5] (Aq 0) FC (AR 2 C2 (AB (AX An (aV 1) (AX BW (aV 0) (aC (.int 1)))) (AB (AX An (aV 2) (aV 0)) AK))))) AK))) AK)))
   (Ao (c6 (Fn EZ (AB (aV 6) AK))) (Aq 2)))
abbrev Jb:AS:=
 (Aa (Fo (C3 AK) 6)
   Jc)
abbrev Ja:AS:=
 (Aa (Ao (FB (CH (QP (AB (aC (.int 3)) AK)) 1 [4,0] (Aq 0) FC (AX An (aV 1) (AR 2 BB (AB (aV 2) (AB (aC (.int 6)) AK)))))) (Aq 5))
   Jb)
abbrev JZ:AS:=
 (Aa (Ao (FB (C3 (AB (AR 1 A4 (AB (aV 0) AK)) (AB (Ab (AB (aC (.int 0)) (AB (aC (.int 1)) AK))) (AB (AR 1 A4 (AB (aV 0) AK)) (AB (Ab (AB (aC (.int 1)) (AB (aC (.int 1)) AK))) (AB (Ab (AB (aC (.int 0)) (AB (aC (.int 1)) AK))) (AB (Ab (AB (AR 2 BB (AB (aV 0) (AB (aC (.int 3)) AK))) (AB (aC (.int 1)) AK))) AK)))))))) (Aq 4))
   Ja)
abbrev HN:AS:=
 (Aa (Ao (AX An (FB (C3 (AB (Ab (AB (AR 2 BB (AB (aV 0) (AB (aC (.int 4)) AK))) (AB (aC (.int 1)) AK))) (AB (Ab (AB (aC (.int 0)) (AB (aC (.int 1)) AK))) (AB (AR 2 BZ (AB (AR 2 BB (AB (aV 0) (AB (aC (.int 9)) AK))) (AB (aC (.int 2)) AK))) AK))))) (AR 2 BB (AB (aV 0) (AB (aC (.int 3)) AK)))) (Aq 3))
   JZ)
abbrev HP:AS:=
 (Aa (B9 (BA (AX Xz (Fn Fq (AB (aV 1) AK)) (aC (.int 5)))) (Ao (cU (aV 2) cV (cW (aC (.int 3)))) (Aq 2)) BF)
   (Au (Ab (AB (Ab (AB (aV 1) (AB (AR 1 CJ (AB (aV 0) AK)) AK))) (AB (Ab (AB (aV 2) (AB (AR 1 CJ (AB (aV 0) AK)) AK))) AK)))))
abbrev N5:AS:=
 (Aa (B9 (BA (AX Mo (AR 2 BB (AB (aV 0) (AB (aC (.int 3)) AK))) (aC (.int 0)))) HN BF)
   HP)
abbrev N4:AS:=
 (Aa (Ao (AR 1 Dw (AB (aV 0) AK)) (Aq 2))
   N5)
abbrev L3:AS:=
 (Aa (Ao (AR 1 Dw (AB (aV 0) AK)) (Aq 1))
   N4)
def EQ:AF:=Ar 8 L3
def RO {a:PV}{Q:PV->Prop}(h:L3 ⟨λ_=>Q .non,Q,λ_=>False,λ_=>False⟩ [some (.val a),none,none,none,none,none,none,none]):EQ [a] Q:=h
def rM (xs:kn C4):FD (xs.map cor) none (some 3)=(xs.take 3).map cor:=by
 by_cases h:3<=xs.length
 .exact iS (k:=3) rfl h
 .rw [ABk (by omega)];unfold FD HT.sIx;simp;rw[ABk (by simp;omega)]
def TD (t:Rat)(o:T3)(c:C4):C4:=(c.1+t,c.2.1+o.1,c.2.2.1+o.2.1,c.2.2.2+o.2.2)
def jP {cs:kn C4}{t:Rat}{o:T3}(p:Jn 9 12 cs)(bt:Bd 12 t)(e:IQ 12 o):Jn 9 40 (cs.map (TD t o)):=by
 refine⟨by simpa using p.two,by simpa using p.few,λc hc=> ?_, ?_⟩
 .obtain ⟨d,hd,rfl⟩:=AAK.mp hc;have b:=p.bd d hd;exact⟨(b.m.add bt).mono (by decide),(b.x.add e.x).mono (by decide),(b.y.add e.y).mono (by decide),(b.z.add e.z).mono (by decide)⟩
 .refine List.pairwise_map.mpr (p.ris.imp λ{a b} h=> ?_);show a.1+t<b.1+t;grind
theorem TH:∀cs:kn C4,JC (cs.map cor)=true
 | [] =>rfl
 | c::cs=>by rw[AAM,JC,show Rs (cor c)=true from rfl,TH cs];rfl
def iX (cs:kn C4)(b:T3):Hh cs b (Iv cs b):=⟨_,_,⟨cor, .inl rfl, .inl rfl⟩, .inl rfl, .inl rfl⟩
end PL.K31
namespace PL
open PySem L2 PyProof.Rows
abbrev IR:AS:=
 (Aa (Ao (FB (C3 (AB (Ab (AB (aC (.int 1)) (AB (aC (.int 1)) AK))) (AB (Ab (AB (aC (.int 2)) (AB (aC (.int 1)) AK))) (AB (Ab (AB (aC (.int 3)) (AB (aC (.int 2)) AK))) (AB (Ab (AB (aC (.int 1)) (AB (aC (.int 3)) AK))) (AB (Ab (AB (aC (.int 5)) (AB (aC (.int 1)) AK))) AK))))))) (Aq 1))
   (Au (Ab (AB (AX An (aV 1) (AR 2 BB (AB (aV 0) (AB (aC (.int 5)) AK)))) (AB (AX An (aV 1) (AR 2 BB (AB (aV 0) (AB (aC (.int 5)) AK)))) AK)))))
def F__law_apart:AF:=Ar 2 IR
def s_F__law_apart {a:PV}{Q:PV->Prop}(h:IR ⟨λ_=>Q .non,Q,λ_=>False,λ_=>False⟩ [some (.val a),none]):F__law_apart [a] Q:=h
def dc {xs:kn PV}{k:Int}{R:PV->Prop}(a:0<=k)(h1:k<xs.length)(h:∀x∈xs,R x):An (.lst xs) (.int k) R:=by show jV (Me xs k) R;have hk:xs[k.toNat]? =some (xs[k.toNat]'(by omega)):=AAS (by omega);have e:=DO hk;rw[show ((k.toNat:Nat):Int)=k by omega] at e;rw[e];exact h _ (AA2 _)
def Ft {xs:kn Rat}{k:Int}{R:PV->Prop}(a:0<=k)(h1:k<xs.length)(h:∀x∈xs,R (fr x)):An (.lst (xs.map fr)) (.int k) R:=by refine dc a (by simpa using h1) λx hx=> ?_;obtain⟨y,b,rfl⟩:=AAK.mp hx;exact h y b
def W6 {r:Rat}(h:r.num.natAbs<2^8:=by decide +kernel)(h2:r.den<2^8:=by decide +kernel):Bd 8 r:=⟨h,h2⟩
abbrev TD (t:Rat)(o:T3)(c:C4):C4:=(c.1+t,c.2.1+o.1,c.2.2.1+o.2.1,c.2.2.2+o.2.2)
section
variable {τ:A6}
instance{i:Nat}{xs:kn PV}{P:kn PV->Prop}[h:Xe τ i (.own xs)] :Wp (HG i τ P) (P xs):=⟨λk=>by unfold HG;rw[h.e];exact k⟩
end
def wJ:PV.tup [.int (-1), .int 3] =fr (-1/3):=by unfold fr;rw[show (-1/3:Rat).num= -1 by decide +kernel,show (-1/3:Rat).den=3 by decide +kernel];rfl
def absR (r:Rat):Rat:=if r<0 then -r else r
def Bd.absR {n:Nat}{r:Rat}(h:Bd n r):Bd n (absR r):=by unfold PL.absR;split;exact h.neg;exact h
def aN (p q:T3)(d:Rat×Rat):T3:=((p.1-q.1)/d.1,(p.2.1-q.2.1)/d.1,(p.2.2-q.2.2)/d.2)
def rR (o:T3):Rat:=mx (mx (mx 0 (absR o.1)) (absR o.2.1)) (absR o.2.2)
def cF (a l b c:C4)(m:Rat):Prop:=(¬m<a.1/\¬m<b.1)/\m<l.1/\m<c.1
instance {a l b c:C4}{m:Rat}:Decidable (cF a l b c m):=by unfold cF;infer_instance
def ins:kn Rat->Rat->kn Rat
 | [],x=> [x]
 | q::r,x=>if q<x then q::ins r x else if q=x then q::r else x::q::r
abbrev cS (qs:kn Rat):Prop:=qs.Pairwise (· < ·)
theorem Qu {x y:Rat}:∀{qs:kn Rat},y∈ins qs x↔y=x\/y∈qs
 | [] =>by simp[ins]
 | q::r=>by
   unfold ins;split
   .rw [AAJ,Qu,AAJ];grind
   .split
    .rename_i h;subst h;simp
    .simp
theorem XC {x:Rat}:∀{qs:kn Rat},cS qs->cS (ins qs x)
 | [],_=>by simp[ins]
 | q::r,h=>by
   obtain⟨h1,h2⟩:=AAl.mp h;unfold ins;split
   .rename_i b;refine AAl.mpr ⟨λy a=> ?_,XC h2⟩;rcases Qu.mp a with rfl|a
    .exact b
    .exact h1 y a
   .split
    .exact h
    .refine AAl.mpr ⟨λy a=> ?_,h⟩;rcases AAJ.mp a with rfl|a
     .grind
     .have:=h1 y a;grind
theorem Wb {x:Rat}:∀{qs:kn Rat},(ins qs x).length<=qs.length+1
 | [] =>by simp[ins]
 | q::r=>by
   have:=Wb (x:=x) (qs:=r);unfold ins;split
   .simp;omega
   .split <;> simp
theorem XB:∀{a b:kn Rat},cS a->cS b->(∀x,x∈a↔x∈b)->a=b
 | [], [],_,_,_=>rfl
 | [],y::b,_,_,h=>by have:=(h y).mpr (by simp);simp at this
 | x::a, [],_,_,h=>by have:=(h x).mp (by simp);simp at this
 | x::a,y::b,ha,hb,h=>by
   obtain⟨g,j⟩:=AAl.mp ha;obtain⟨i,b2⟩:=AAl.mp hb;have d:x=y:=by
    rcases AAJ.mp ((h x).mp (by simp)) with e|e
    .exact e
    .rcases AAJ.mp ((h y).mpr (by simp)) with f|f
     .exact f.symm
     .have:=i x e;have:=g y f;grind
   subst d;congr 1;refine XB j b2 λz=>⟨λc=> ?_,λc=> ?_⟩
   .rcases AAJ.mp ((h z).mp (by simp[c])) with e|e
    .subst e;have:=g z c;grind
    .exact e
   .rcases AAJ.mp ((h z).mpr (by simp[c])) with e|e
    .subst e;have:=i z c;grind
    .exact e
def Oh (xs:kn Rat):kn Rat:=xs.foldl ins []
theorem Lq:∀(xs qs:kn Rat),cS qs->cS (xs.foldl ins qs)/\(∀y,y∈xs.foldl ins qs↔y∈xs\/y∈qs)/\(xs.foldl ins qs).length<=qs.length+xs.length
 | [],qs,h=>⟨h,by simp,by simp⟩
 | x::xs,qs,h=>by
   obtain⟨h1,h2,h3⟩:=Lq xs (ins qs x) (XC h);refine⟨h1,λy=> ?_, ?_⟩
   .rw [ABW,h2,Qu,AAJ];grind
   .have:=Wb (x:=x) (qs:=qs);rw[ABW,AAp];omega
def Ea {xs:kn Rat}:cS (Oh xs):=(Lq xs [] .nil).1
def DP {xs:kn Rat}{y:Rat}:y∈Oh xs↔y∈xs:=by rw[Oh,(Lq xs [] .nil).2.1];simp
def bI {xs:kn Rat}:(Oh xs).length<=xs.length:=by have:=(Lq xs [] .nil).2.2;unfold Oh;simpa using this
abbrev Pl:=Rat×Int
abbrev Cp:=Rat×Int×ki Rat
def bp (s:Cp):Pl:=(s.1,1-s.2.1)
def ep (s:Cp):ki Pl:=s.2.2.map λe=>(e,0)
def TZ (s:Cp)(p:Pl):Int:=(if bp s=p then 1 else 0)-(if ep s=some p then 1 else 0)
def cnt (ss:kn Cp)(p:Pl):Int:=(ss.map λs=>TZ s p).sum
def nN (ss:kn Cp)(p:Pl):Prop:=∃s∈ss,bp s=p\/ep s=some p
def N3 (x p:Pl):ke:=decide (x.1<p.1)||(decide (x.1=p.1)&&decide (x.2<=p.2))
def Ck (s:Cp)(p:Pl):ke:=(decide (s.1<p.1)||(decide (s.1=p.1)&&decide (0<s.2.1+p.2)))&&(match s.2.2 with | none=>true|some e=>decide (p.1<e))
structure GD (B:Nat) (s:Cp):Prop where
 b:Bd B s.1
 h:s.2.1=0\/s.2.1=1
 e:∀e,s.2.2=some e->s.1<e/\Bd B e
def tm (s:Cp)(p:Pl):Int:=(if N3 (bp s) p=true then 1 else 0)-(if (ep s).any (N3 · p)=true then 1 else 0)
def pP {B:Nat}{s:Cp}{p:Pl}(ok:GD B s)(hp:0<=p.2):tm s p=if Ck s p=true then 1 else 0:=by
 obtain⟨b,h,e⟩:=s;obtain⟨q,i⟩:=p;have g:h=0\/h=1:=ok.h;have hp:0<=i:=hp;have d:N3 (bp (b,h,e)) (q,i)=(decide (b<q)||(decide (b=q)&&decide (0<h+i))):=by unfold N3 bp;congr 2;exact AB4.mpr (by show 1-h<=i↔0<h+i;omega)
 cases e with
 | none=> unfold tm Ck;rw[d];simp[ep]
 | some e=>
   have j:b<e:=(ok.e e rfl).1;have f:(ep (b,h,some e)).any (N3 · (q,i))= !decide (q<e):=by
    show N3 (e,0) (q,i)=_;unfold N3;by_cases z:q<e
    .have a:¬e<q:=by grind
     have c:¬e=q:=by grind
     simp[z,a,c]
    .by_cases a:e<q
     .simp [z,a]
     .have c:e=q:=by grind
      simp[c,hp]
   unfold tm Ck;rw[d,f];by_cases z:q<e
   .simp [z]
   .have a:b<q:=by grind
    simp[z,a]
def Hn (ss:kn Cp)(p:Pl):Nat:=(ss.filter (Ck · p)).length
theorem Uy {B:Nat}{p:Pl}(hp:0<=p.2):∀{ss:kn Cp},(∀s∈ss,GD B s)->(Hn ss p:Int)=(ss.map λs=>tm s p).sum
 | [],_=>rfl
 | s::ss,h=>by
   have a:=Uy hp (ss:=ss) λx hx=>h x (by simp[hx]);have e:=pP (p:=p) (h s (by simp)) hp;rw[AAM,AAo,<-a,e];unfold Hn;rw[AB5];split
   .simp;omega
   .simp
def Li (x p:Pl):Prop:=x.1<p.1\/(x.1=p.1/\x.2<p.2)
def Jv {a b c:Pl}(h:Li a b)(h2:Li b c):Li a c:=by
 unfold Li at *;rcases h with h|⟨h,h'⟩ <;> rcases h2 with h2|⟨h2,d⟩
 .left;grind
 .left;grind
 .left;grind
 .right;exact⟨by grind,by omega⟩
def GV {x p:Pl}:N3 x p=true↔Li x p\/x=p:=by
 obtain⟨a,i⟩:=x;obtain⟨b,j⟩:=p;unfold N3 Li;simp only[ADz,AAs,ACk,Prod.mk.injEq];constructor
 .rintro (h|⟨h,h2⟩)
  .exact .inl (.inl h)
  .by_cases e:i=j
   .exact .inr ⟨h,e⟩
   .exact .inl (.inr ⟨h,by omega⟩)
 .rintro ((h|⟨h,h2⟩)|⟨h,h2⟩)
  .exact .inl h
  .exact .inr ⟨h,by omega⟩
  .exact .inr ⟨h,by omega⟩
def Lj {p:Pl}:¬Li p p:=by
 unfold Li;rintro(h|⟨_,h⟩)
 .grind
 .omega
def S9 (x:Pl):ki Pl->ke|none=>false|some p=>N3 x p
def fz (s:Cp)(o:ki Pl):Int:=(if S9 (bp s) o=true then 1 else 0)-(if (ep s).any (S9 · o)=true then 1 else 0)
def sX:ki Pl->Pl->Prop|none,_=>True|some q,p=>Li q p
def JR {x p:Pl}{o:ki Pl}(hx:S9 x o=true\/x=p\/Li p x)(a:sX o p):N3 x p=(S9 x o||decide (x=p))/\¬(S9 x o=true/\x=p):=by
 have h1:S9 x o=true->Li x p:=λh=>by
  cases o with
  | none=>cases h
  | some q=>rcases GV.mp h with h|h
            .exact Jv h a
            .rw [h];exact a
 refine⟨?_,λh=>by rw[h.2] at h1;exact Lj (h1 (h.2 ▸ h.1))⟩;rw[ABe,ADz,ACk,GV];constructor
 .rintro (h|h)
  .rcases hx with z|z|z
   .exact .inl z
   .exact .inr z
   .exact absurd (Jv h z) Lj
  .exact .inr h
 .rintro (h|h)
  .exact .inl (h1 h)
  .exact .inr h
def Z3 {A:ke}{E:Prop}[Decidable E](h:¬(A=true/\E)):(if (A||decide E)=true then (1:Int) else 0)=(if A=true then 1 else 0)+if E then 1 else 0:=by cases A <;> by_cases e:E <;> simp_all
def gA {s:Cp}{p:Pl}{o:ki Pl}(hb:S9 (bp s) o=true\/bp s=p\/Li p (bp s))(he:∀x,ep s=some x->S9 x o=true\/x=p\/Li p x)(a:sX o p):tm s p=fz s o+TZ s p:=by
 obtain⟨b,b2⟩:=JR hb a;unfold tm fz TZ;rw[b,Z3 b2];cases e:ep s with
 | none=>simp
 | some x=>
   obtain⟨c,d⟩:=JR (he x e) a;have h1:(if (some x).any (N3 · p)=true then (1:Int) else 0)=(if S9 x o=true then 1 else 0)+if x=p then 1 else 0:=by show (if N3 x p=true then (1:Int) else 0)=_;rw[c,Z3 d]
   rw[h1];show _=(_-(if S9 x o=true then (1:Int) else 0))+(_-(if some x=some p then (1:Int) else 0));have h2:(if some x=some p then (1:Int) else 0)=if x=p then 1 else 0:=by by_cases z:x=p <;> simp[z]
   rw[h2];omega
def ZD (X:kn Pl):Prop:=X.Pairwise Li
def Ji (ss:kn Cp):Int->kn Pl->Prop
 | _, [] =>True
 | c,p::r=>(Hn ss p:Int)=c+cnt ss p/\Ji ss (Hn ss p) r
theorem XF {a:Type}(f g:a->Int):∀xs:kn a,(xs.map λx=>f x+g x).sum=(xs.map f).sum+(xs.map g).sum
 | [] =>rfl
 | x::xs=>by simp only[AAM,AAo,XF f g xs];omega
theorem Ml {B:Nat}{ss:kn Cp}(ok:∀s∈ss,GD B s):∀(X:kn Pl) (o:ki Pl),ZD X->(∀p∈X,sX o p/\0<=p.2)->(∀s∈ss,(S9 (bp s) o=true\/bp s∈X)/\∀x,ep s=some x->S9 x o=true\/x∈X)->Ji ss ((ss.map λs=>fz s o).sum) X
 | [],_,_,_,_=>True.intro
 | p::r,o,hs,ho,hk=>by
   obtain⟨h1,h2⟩:=AAl.mp hs;obtain⟨op,a⟩:=ho p (by simp);have cls:∀x,(S9 x o=true\/x∈p::r)->S9 x o=true\/x=p\/Li p x:=λx h=>by
    rcases h with h|h
    .exact .inl h
    .rcases AAJ.mp h with h|h
     .exact .inr (.inl h)
     .exact .inr (.inr (h1 x h))
   have e:(Hn ss p:Int)=(ss.map λs=>fz s o).sum+cnt ss p:=by rw[Uy a ok];unfold cnt;rw[<-XF];congr 1;apply ACN;intro s hs;exact gA (cls _ (hk s hs).1) (λx ex=>cls x ((hk s hs).2 x ex)) op
   refine⟨e, ?_⟩;have:=Ml ok r (some p) h2 (λq b=>⟨h1 q b,(ho q (by simp[b])).2⟩) (λs hs=>⟨?_,λx ex=> ?_⟩)
   .rw [show (ss.map λs=>fz s (some p)).sum=(Hn ss p:Int) from(Uy a ok).symm] at this;exact this
   .rcases cls _ (hk s hs).1 with z|z|z
    .exact .inl (by rw[show S9 (bp s) (some p)=N3 (bp s) p from rfl,(JR (.inl z) op).1,z];rfl)
    .exact .inl (GV.mpr (.inr z))
    .rcases (hk s hs).1 with y|y
     .exact .inl (by rw[show S9 (bp s) (some p)=N3 (bp s) p from rfl,(JR (.inl y) op).1,y];rfl)
     .rcases AAJ.mp y with y|y
      .exact .inl (GV.mpr (.inr y))
      .exact .inr y
   .rcases (hk s hs).2 x ex with y|y
    .exact .inl (by rw[show S9 x (some p)=N3 x p from rfl,(JR (.inl y) op).1,y];rfl)
    .rcases AAJ.mp y with y|y
     .exact .inl (GV.mpr (.inr y))
     .exact .inr y
def places (qs:kn Rat):kn Pl:=qs.flatMap λq=> [(q,0),(q,1)]
def Bc {qs:kn Rat}{p:Pl}:p∈places qs↔p.1∈qs/\(p.2=0\/p.2=1):=by
 obtain⟨a,i⟩:=p;unfold places;simp only[AA7,AAJ,AAe,AAf,Prod.mk.injEq];constructor
 .rintro ⟨q,b,⟨rfl,rfl⟩|⟨rfl,rfl⟩⟩
  .exact ⟨b, .inl rfl⟩
  .exact ⟨b, .inr rfl⟩
 .rintro ⟨h,h2⟩;exact⟨a,h,h2.elim (λz=> .inl ⟨rfl,z⟩) (λz=> .inr ⟨rfl,z⟩)⟩
theorem Ee:∀{qs:kn Rat},cS qs->ZD (places qs)
 | [],_=>List.Pairwise.nil
 | q::r,h=>by
   obtain⟨h1,h2⟩:=AAl.mp h;have b:=Ee h2;have a:∀(i:Int),∀p∈places r,Li (q,i) p:=λi p hp=> .inl (h1 _ (Bc.mp hp).1);show ZD ((q,0)::(q,1)::places r);refine AAl.mpr ⟨λp hp=> ?_,AAl.mpr ⟨a 1,b⟩⟩;rcases AAJ.mp hp with rfl|hp
   .exact .inr ⟨rfl,by show (0:Int)<1;decide⟩
   .exact a 0 p hp
def D2 (ss:kn Cp):kn Rat:=ss.flatMap λs=>s.1::s.2.2.toList
def E4 (ss:kn Cp):kn Pl:=places (Oh (D2 ss))
def M7 {B:Nat}{ss:kn Cp}(ok:∀s∈ss,GD B s){s:Cp}(hs:s∈ss):bp s∈E4 ss/\∀x,ep s=some x->x∈E4 ss:=by
 refine⟨Bc.mpr ⟨DP.mpr (AA7.mpr ⟨s,hs,by simp[bp]⟩), ?_⟩,λx ex=> ?_⟩
 .have:=(ok s hs).h;unfold bp;simp only;omega
 .obtain ⟨e,he,rfl⟩:=ACf.mp ex;exact Bc.mpr ⟨DP.mpr (AA7.mpr ⟨s,hs,by simp[he]⟩), .inl rfl⟩
def SV {B:Nat}{ss:kn Cp}(ok:∀s∈ss,GD B s):Ji ss 0 (E4 ss):=by
 have h:=Ml ok (E4 ss) none (Ee Ea) (λp hp=>⟨True.intro,by rcases (Bc.mp hp).2 with z|z <;> omega⟩) (λs hs=>⟨.inr (M7 ok hs).1,λx ex=> .inr ((M7 ok hs).2 x ex)⟩);have:(ss.map λs=>fz s none).sum=0:=by
  clear h ok;induction ss with
  | nil=>rfl
  | cons s ss a=> rw[AAM,AAo,a];unfold fz;cases ep s <;> rfl
 rw[this] at h;exact h
def un (k:FK):Rat:=mkRat k.1.1 k.1.2.toNat
def stepI (st:kn Cp×ki Pl)(x:Pl×ke):kn Cp×ki Pl:=
 match st.2,x.2 with
 | none,true=>(st.1,some x.1)
 | some b,false=>(st.1 ++ [(b.1,1-b.2,some x.1.1)],none)
 | _,_=>st
def Sk (st:kn Cp×ki Pl):kn Cp:=match st.2 with | none=>st.1|some b=>st.1 ++ [(b.1,1-b.2,none)]
def Pi (X:kn (Pl×ke)):kn Cp:=Sk (X.foldl stepI ([],none))
theorem PY:∀{ss:kn Cp},(D2 ss).length<=2*ss.length
 | [] =>by simp[D2]
 | s::ss=>by
   have a:=PY (ss:=ss);unfold D2 at *;rw[List.flatMap_cons,AAi,AAp,AAp];have:s.2.2.toList.length<=1:=by cases s.2.2 <;> simp
   omega
theorem NP:∀{qs:kn Rat},(places qs).length=2*qs.length
 | [] =>rfl
 | q::qs=>by have a:=NP (qs:=qs);unfold places at *;rw[List.flatMap_cons,AAi,a,AAp];simp;omega
def UW (In key:Pl->ke):ke->kn Pl->Prop
 | _, [] =>True
 | c,p::r=>(key p=false->In p=c)/\UW In key (In p) r
def Vi {st:kn Cp×ki Pl}{p:Pl}{i:ke}:(stepI st (p,i)).2.isSome=i:=by obtain⟨L,b⟩:=st;cases b <;> cases i <;> rfl
def Vh {st:kn Cp×ki Pl}{p:Pl}{i:ke}(h:i=st.2.isSome):stepI st (p,i)=st:=by obtain⟨L,b⟩:=st;cases b <;> cases i <;> first | rfl|cases h
theorem J3 {In key:Pl->ke}:∀(X:kn Pl) (st:kn Cp×ki Pl),UW In key st.2.isSome X->(X.map λp=>(p,In p)).foldl stepI st=((X.filter key).map λp=>(p,In p)).foldl stepI st
 | [],st,_=>rfl
 | p::r,st,h=>by
   rw[AAM,ABW,AB5];cases k:key p with
   | true=> rw[AAG rfl,AAM,ABW];exact J3 r _ (by rw[Vi];exact h.2)
   | false=> have e:=h.1 k;rw[AAF (by decide),Vh e];exact J3 r st (by have:=h.2;rw[e] at this;exact this)
theorem Nk {ss:kn Cp}{key:Pl->ke}{n:Int}(hk:∀p,key p=false->cnt ss p=0):∀(X:kn Pl) (c:Int),Ji ss c X->UW (λp=>decide (n<=(Hn ss p:Int))) key (decide (n<=c)) X
 | [],_,_=>True.intro
 | p::r,c,h=>⟨λk=>(by show decide (n<=(Hn ss p:Int))=_;rw[h.1,hk p k,Int.add_zero]),Nk hk r _ h.2⟩
def canon (n:Int)(ss:kn Cp):kn Cp:=Pi ((E4 ss).map λp=>(p,decide (n<=(Hn ss p:Int))))
def ZZ {ss:kn Cp}{p:Pl}(h:¬nN ss p):cnt ss p=0:=by
 have key:∀ss:kn Cp,(∀s∈ss,¬(bp s=p\/ep s=some p))->cnt ss p=0:=by
  intro ss;induction ss with
  | nil=>intro _;rfl
  | cons s ss a=>
    intro h;have h1:=h s (by simp);have e:cnt (s::ss) p=TZ s p+cnt ss p:=by simp[cnt]
    rw[e,a λx hx=>h x (by simp[hx])];unfold TZ;rw[AAF λz=>h1 (.inl z),AAF λz=>h1 (.inr z)];rfl
 exact key ss λs hs z=>h ⟨s,hs,z⟩
def Ql {ss:kn Cp}{p:Pl}:decide ((1:Int)<=(Hn ss p:Int))=ss.any (Ck · p):=by
 rw[ABe,ACk,ACa];unfold Hn;constructor
 .intro h;obtain⟨s,hs⟩:=List.exists_mem_of_length_pos (l:=ss.filter (Ck · p)) (by omega);have:=AAZ.mp hs;exact⟨s,this.1,this.2⟩
 .rintro ⟨s,hs,h⟩;have:=List.length_pos_of_mem (AAZ.mpr ⟨hs,h⟩:s∈ss.filter (Ck · p));omega
def D6 (In:Pl->ke):kn Pl->ki Pl->kn Cp
 | [],none=> []
 | [],some b=> [(b.1,1-b.2,none)]
 | p::r,none=>if In p=true then D6 In r (some p) else D6 In r none
 | p::r,some b=>if In p=true then D6 In r (some b) else (b.1,1-b.2,some p.1)::D6 In r none
theorem NR {In:Pl->ke}:∀(X:kn Pl) (a:kn Cp) (b:ki Pl),Sk ((X.map λp=>(p,In p)).foldl stepI (a,b))=a++D6 In X b
 | [],a,none=>by simp[Sk,D6]
 | [],a,some b=>by simp[Sk,D6]
 | p::r,a,none=>by
   rw[AAM,ABW];unfold D6;cases e:In p with
   | true=>exact NR r a (some p)
   | false=>exact NR r a none
 | p::r,a,some b=>by
   rw[AAM,ABW];unfold D6;cases e:In p with
   | true=>exact NR r a (some b)
   | false=> show Sk ((r.map λp=>(p,In p)).foldl stepI (a ++ [(b.1,1-b.2,some p.1)],none))=a++((b.1,1-b.2,some p.1)::D6 In r none);rw[NR r _ none];simp
def Pj {In:Pl->ke}{X:kn Pl}:Pi (X.map λp=>(p,In p))=D6 In X none:=by unfold Pi;rw[NR];rfl
def Ld {q p:Pl}{e:ki Rat}(a:q.2=0\/q.2=1)(hp:0<=p.2):Ck (q.1,1-q.2,e) p=(N3 q p&&(match e with | none=>true|some e=>decide (p.1<e))):=by unfold Ck N3;congr 2;congr 1;exact AB4.mpr (by show 0<1-q.2+p.2↔q.2<=p.2;omega)
def Jl (In:Pl->ke):ke->kn Pl->Prop
 | _, [] =>True
 | c,p::r=>(c=true->In p=false->p.2=0)/\Jl In (In p) r
theorem Wv {In:Pl->ke}:∀(X:kn Pl),ZD X->(∀x∈X,x.2=0\/x.2=1)-> (Jl In false X->(∀p:Pl,0<=p.2->(∀x∈X,Li p x)->(D6 In X none).any (Ck · p)=false)/\∀p∈X,(D6 In X none).any (Ck · p)=In p)/\ (Jl In true X->∀q:Pl,(q.2=0\/q.2=1)->(∀x∈X,Li q x)->(∀p:Pl,0<=p.2->(∀x∈X,Li p x)->(D6 In X (some q)).any (Ck · p)=N3 q p)/\∀p∈X,(D6 In X (some q)).any (Ck · p)=In p)
 | [],_,_=>⟨λ_=>⟨λp _ _=>rfl,λp hp=>by cases hp⟩,λ_ q f _=>⟨λp hp _=>by show (Ck (q.1,1-q.2,none) p||false)=_;rw[Ld f hp];simp,λp hp=>by cases hp⟩⟩
 | x::r,hs,UF=>by
   obtain⟨h1,h2⟩:=AAl.mp hs;have k:=Wv (In:=In) r h2 λy l=>UF y (by simp[l]);have m:=UF x (by simp);have g:0<=x.2:=by omega
   have i:∀p:Pl,(∀y∈x::r,Li p y)->∀y∈r,Li p y:=λp h y l=>h y (by simp[l]);have o:∀p:Pl,Li p x->N3 x p=false:=λp h=>by
    rw[<-Bool.not_eq_true,GV];rintro(z|z)
    .exact Lj (Jv z h)
    .rw [z] at h;exact Lj h
   have s:N3 x x=true:=GV.mpr (.inr rfl);refine⟨λhd=> ?_,λhd q f n=> ?_⟩
   .unfold D6;cases e:In x with
    | true=>
      have a:=hd.2;rw[e] at a;obtain⟨b,d⟩:=k.2 a x m h1;rw[AAG rfl];refine⟨λp c hp=> ?_,λp hp=> ?_⟩
      .rw [b p c (i p hp),o p (hp x (by simp))]
      .rcases AAJ.mp hp with rfl|hp
       .rw [b p g h1,s,e]
       .exact d p hp
    | false=>
      have a:=hd.2;rw[e] at a;obtain⟨b,d⟩:=k.1 a;rw[AAF (by decide)];refine⟨λp c hp=>b p c (i p hp),λp hp=> ?_⟩;rcases AAJ.mp hp with rfl|hp
      .rw [b p g h1,e]
      .exact d p hp
   .unfold D6;have t:N3 q x=true:=GV.mpr (.inl (n x (by simp)));cases e:In x with
    | true=>
      have a:=hd.2;rw[e] at a;obtain⟨b,d⟩:=k.2 a q f (i q n);rw[AAG rfl];refine⟨λp c hp=>b p c (i p hp),λp hp=> ?_⟩;rcases AAJ.mp hp with rfl|hp
      .rw [b p g h1,t,e]
      .exact d p hp
    | false=>
      have a:=hd.2;rw[e] at a;obtain⟨b,d⟩:=k.1 a;have v:=hd.1 rfl e;rw[AAF (by decide)];have j:∀p:Pl,(p=x\/Li x p)->¬p.1<x.1:=λp h=>by rcases h with h|h|⟨h,_⟩ <;> grind
      refine⟨λp c hp=> ?_,λp hp=> ?_⟩
      .have u:p.1<x.1:=by
        rcases hp x (by simp) with z|⟨_,z⟩
        .exact z
        .omega
       show (Ck (q.1,1-q.2,some x.1) p||(D6 In r none).any (Ck · p))=_;rw[Ld f c,b p c (i p hp)];simp[u]
      .show (Ck (q.1,1-q.2,some x.1) p||(D6 In r none).any (Ck · p))=_;rcases AAJ.mp hp with rfl|hp
       .rw [Ld f g,b p g h1,e];simp[j p (.inl rfl)]
       .rw [Ld f (by have:=UF p (by simp[hp]);omega),d p hp];simp[j p (.inr (h1 p hp))]
theorem Tg {In:Pl->ke}(P:Rat->Prop):∀(X:kn Pl) (b:ki Pl),ZD X->(∀x∈X,(x.2=0\/x.2=1)/\P x.1)->Jl In b.isSome X->(∀q,b=some q->(q.2=0\/q.2=1)/\P q.1/\∀x∈X,Li q x)-> ∀s∈D6 In X b,P s.1/\(s.2.1=0\/s.2.1=1)/\∀e,s.2.2=some e->s.1<e/\P e
 | [],none,_,_,_,_=>λs hs=>by cases hs
 | [],some q,_,_,_,hb=>λs hs=>by obtain⟨h1,h2,_⟩:=hb q rfl;simp only[D6,AAT] at hs;subst hs;exact⟨h2,by show 1-q.2=0\/1-q.2=1;omega,λe he=>by cases he⟩
 | x::r,b,hs,UF,hd,hb=>by
   obtain⟨h1,h2⟩:=AAl.mp hs;have f:=λb d hb=>Tg (In:=In) P r b h2 (λy g=>UF y (by simp[g])) d hb;have a:=hd.2;cases b with
   | none=>
     unfold D6;cases e:In x with
     | true=> rw[AAG rfl];rw[e] at a;exact f (some x) a λq c=>by cases c;exact⟨(UF x (by simp)).1,(UF x (by simp)).2,h1⟩
     | false=> rw[AAF (by decide)];rw[e] at a;exact f none a λq c=>by cases c
   | some q=>
     obtain⟨j,h,i⟩:=hb q rfl;unfold D6;cases e:In x with
     | true=> rw[AAG rfl];rw[e] at a;exact f (some q) a λk c=>by cases c;exact⟨j,h,λy g=>i y (by simp[g])⟩
     | false=>
       rw[AAF (by decide)];rw[e] at a;have l:=hd.1 rfl e;intro s hs;rcases AAJ.mp hs with rfl|hs
       .refine ⟨h,by show 1-q.2=0\/1-q.2=1;omega,λm he=> ?_⟩;cases he;refine⟨?_,(UF x (by simp)).2⟩;rcases i x (by simp) with z|⟨_,z⟩
        .exact z
        .omega
       .exact f none a (λq c=>by cases c) s hs
theorem Ht {ss:kn Cp}:∀(X:kn Pl) (c:Int),(∀x∈X,x.2=0\/x.2=1)->Ji ss c X->Jl (λp=>ss.any (Ck · p)) (decide (1<=c)) X
 | [],_,_,_=>True.intro
 | p::r,c,UF,h=>by
   have a:=Ht r (Hn ss p) (λx hx=>UF x (by simp[hx])) h.2;rw[Ql] at a;refine⟨λhc hi=> ?_,a⟩;rcases UF p (by simp) with z|z
   .exact z
   .have hc:1<=c:=by simpa using hc
    have hi:ss.any (Ck · p)=false:=hi;rw[<-Ql] at hi;have hi:¬(1:Int)<=Hn ss p:=by simpa using hi
    have c0:0<=cnt ss p:=by
     have go:∀ss:kn Cp,0<=cnt ss p:=by
      intro ss;induction ss with
      | nil=>exact ADM _
      | cons s ss a=>
        have e:cnt (s::ss) p=TZ s p+cnt ss p:=by simp[cnt]
        have o:0<=TZ s p:=by
         unfold TZ;have:¬ep s=some p:=λy=>by obtain⟨d,_,b⟩:=ACf.mp y;have:(0:Int)=p.2:=congrArg Prod.snd b;omega
         rw[AAF this];split <;> decide
        omega
     exact go ss
    have:=h.1;omega
def W9 {ss:kn Cp}:∀x∈E4 ss,x.2=0\/x.2=1:=λx hx=>(Bc.mp hx).2
def Xq {ss:kn Cp}:canon 1 ss=D6 (λp=>ss.any (Ck · p)) (E4 ss) none:=by unfold canon;rw[<-Pj];congr 1;apply ACN;intro p _;rw[Ql]
def Vf {ss:kn Cp}{B:Nat}(ok:∀s∈ss,GD B s):Jl (λp=>ss.any (Ck · p)) false (E4 ss):=Ht (E4 ss) 0 W9 (SV ok)
def Ug {ss:kn Cp}{B:Nat}(ok:∀s∈ss,GD B s):∀s∈canon 1 ss,s.1∈D2 ss/\(s.2.1=0\/s.2.1=1)/\∀e,s.2.2=some e->s.1<e/\e∈D2 ss:=by rw[Xq];exact Tg (· ∈D2 ss) (E4 ss) none (Ee Ea) (λx hx=>⟨W9 x hx,DP.mp (Bc.mp hx).1⟩) (Vf ok) λq a=>by cases a
def Wj {ss:kn Cp}{B:Nat}(ok:∀s∈ss,GD B s):∀x∈D2 ss,Bd B x:=λx h=>by
 obtain⟨s,hs,hx⟩:=AA7.mp h;rcases AAJ.mp hx with rfl|hx
 .exact (ok s hs).b
 .exact ((ok s hs).e x (by simpa using hx)).2
def ZX {ss:kn Cp}{B:Nat}(ok:∀s∈ss,GD B s):∀s∈canon 1 ss,GD B s:=λs hs=>by obtain⟨h1,h2,h3⟩:=Ug ok s hs;exact⟨Wj ok _ h1,h2,λe he=>⟨(h3 e he).1,Wj ok _ (h3 e he).2⟩⟩
theorem HY (f:Rat->ke):∀qs:kn Rat,(places qs).filter (λp=>f p.1)=places (qs.filter f)
 | [] =>rfl
 | q::qs=>by show ((q,0)::(q,1)::places qs).filter (λp=>f p.1)=_;rw[AB5,AB5,AB5,HY f qs];cases f q <;> rfl
def ix_any {xs:kn PV}{k:Int}{R:PV->Prop}(a:0<=k)(h1:k<xs.length)(h:∀x∈xs,R x):An (.lst xs) (.int k) R:=by
 have hk:k.toNat<xs.length:=by omega
 have e:Me xs ((k.toNat:Nat):Int)=some xs[k.toNat] :=DO (AAS hk);rw[show ((k.toNat:Nat):Int)=k by omega] at e;show jV (Me xs k) R;rw[e];exact h _ (AA2 hk)
def C7 (ms:kn Rat)(ss:kn Cp):kn Pl:=places (Oh (ms++D2 ss))
def Io {B:Nat}{ms:kn Rat}{ss:kn Cp}(ok:∀s∈ss,GD B s):Ji ss 0 (C7 ms ss):=by
 have c:∀s∈ss,bp s∈C7 ms ss/\∀x,ep s=some x->x∈C7 ms ss:=λs hs=>by
  obtain⟨h1,h2⟩:=M7 ok hs;have d:∀x∈E4 ss,x∈C7 ms ss:=λx hx=>by obtain⟨a,b⟩:=Bc.mp hx;exact Bc.mpr ⟨DP.mpr (AAq _ (DP.mp a)),b⟩
  exact⟨d _ h1,λx ex=>d _ (h2 x ex)⟩
 have h:=Ml ok (C7 ms ss) none (Ee Ea) (λp hp=>⟨True.intro,by rcases (Bc.mp hp).2 with z|z <;> omega⟩) (λs hs=>⟨.inr (c s hs).1,λx ex=> .inr ((c s hs).2 x ex)⟩);have z:(ss.map λs=>fz s none).sum=0:=by
  clear h c ok;induction ss with
  | nil=>rfl
  | cons s ss e=> rw[AAM,AAo,e];unfold fz;cases ep s <;> rfl
 rw[z] at h;exact h
def Uf {B:Nat}{ms:kn Rat}{ss:kn Cp}{n:Int}(ok:∀s∈ss,GD B s)(c:0<n):Pi ((C7 ms ss).map λp=>(p,decide (n<=(Hn ss p:Int))))=canon n ss:=by
 have hk:∀p:Pl,decide (p.1∈D2 ss)=false->cnt ss p=0:=λp hp=>ZZ λ⟨s,hs,z⟩=>by
  have hp:¬p.1∈D2 ss:=by simpa using hp
  refine hp (AA7.mpr ⟨s,hs, ?_⟩);rcases z with z|z
  .rw [<-z];simp[bp]
  .obtain ⟨d,he,rfl⟩:=ACf.mp z;simp[he]
 have a:=Nk (n:=n) (ss:=ss) (key:=λp=>decide (p.1∈D2 ss)) hk (C7 ms ss) 0 (Io ok);rw[AAY (by omega)] at a;have h:=J3 (C7 ms ss) ([],none) a;have b:(C7 ms ss).filter (λp=>decide (p.1∈D2 ss))=E4 ss:=by unfold C7 E4;rw[HY (λx=>decide (x∈D2 ss))];congr 1;refine XB (Ea.filter _) Ea λx=> ?_;rw[AAZ,DP,DP,ACk];exact⟨λh=>h.2,λh=>⟨AAq _ h,h⟩⟩
 rw[b] at h;show Sk _=Sk _;rw[h]
def SQ {B:Nat}{ss:kn Cp}(ok:∀s∈ss,GD B s){p:Pl}(hp:p.2=0\/p.2=1):(canon 1 ss).any (Ck · p)=ss.any (Ck · p):=by
 have b:p∈C7 [p.1] ss:=Bc.mpr ⟨DP.mpr (by simp),hp⟩;have a:∀x∈C7 [p.1] ss,x.2=0\/x.2=1:=λx hx=>(Bc.mp hx).2;have c:=Ht (C7 [p.1] ss) 0 a (Io ok);have e:canon 1 ss=D6 (λp=>ss.any (Ck · p)) (C7 [p.1] ss) none:=by rw[<-Uf (ms:= [p.1]) ok (by decide),<-Pj];congr 1;apply ACN;intro q _;rw[Ql]
 rw[e];exact((Wv (C7 [p.1] ss) (Ee Ea) a).1 c).2 p b
def hN (L:kn Cp)(p:Pl):Nat:=(L.filter (Ck · p)).length
theorem LY {a:Type}(f:a->ke):∀xs:kn a,GT (xs.map λx=> .bl (f x))=some (xs.map f)
 | [] =>rfl
 | x::xs=>by show (GT (xs.map λx=> .bl (f x))).map (f x :: ·)=_;rw[LY f xs];rfl
theorem Mq:∀(X:kn (Pl×ke)) (st:kn Cp×ki Pl),2*(X.foldl stepI st).1.length+(if (X.foldl stepI st).2.isSome then 1 else 0)<=2*st.1.length+(if st.2.isSome then 1 else 0)+X.length
 | [],st=>AAL _
 | x::X,st=>by
   have h1:=Mq X (stepI st x);have h2:2*(stepI st x).1.length+(if (stepI st x).2.isSome then 1 else 0)<=2*st.1.length+(if st.2.isSome then 1 else 0)+1:=by obtain⟨L,b⟩:=st;obtain⟨p,c⟩:=x;cases b <;> cases c <;> simp[stepI] <;> omega
   rw[ABW,AAp];omega
def Ye (X:kn (Pl×ke)):2*(Pi X).length<=X.length+1:=by have h:=Mq X ([],none);unfold Pi;generalize X.foldl stepI ([],none)=st at *;obtain⟨L,b⟩:=st;cases b <;> simp[Sk] at * <;> omega
def Ue {n:Int}{ss:kn Cp}:(canon n ss).length<=2*ss.length:=by unfold canon E4;have h:=Ye ((places (Oh (D2 ss))).map λp=>(p,decide (n<=(Hn ss p:Int))));have a:=bI (xs:=D2 ss);have b:=PY (ss:=ss);have c:=NP (qs:=Oh (D2 ss));rw[AAO] at h;omega
def lt_size {k n:Nat}(h:k<=n)(a:n<1000000):k<sizeLine:=AAj h (AAV a (ABT rfl))
def lin (p q:T3)(s:Rat):T3:=(p.1+s*(q.1-p.1),p.2.1+s*(q.2.1-p.2.1),p.2.2+s*(q.2.2-p.2.2))
def jK {a D b e m x X:Rat}(c:D≠0)(h:e-b≠0):x+(m-a)/D*X=(x+(b-a)/D*X)+(m-b)/(e-b)*((x+(e-a)/D*X)-(x+(b-a)/D*X)):=by grind
def YC {a c:C4}{b e m:Rat}(h1:a.1<c.1)(h2:b<e):inter a c m=lin (inter a c b) (inter a c e) ((m-b)/(e-b)):=by
 have d:c.1-a.1≠0:=by grind
 have f:e-b≠0:=by grind
 simp only[inter,lin];rw[<-jK d f,<-jK d f,<-jK d f]
def aG (p q:T3):lin p q 0=p:=by obtain⟨a,b,c⟩:=p;simp[lin,Rat.zero_mul,Rat.add_zero]
theorem KG {b e m:Rat}{p q:T3}(f:b<e)(h1:b<=m)(h2:m<=e):∀{a:C4} {r:kn C4},QJ (a::r)->(∀c∈r,¬(b<c.1/\c.1<e))->spotG a r b=some p->spotG a r e=some q->spotG a r m=some (lin p q ((m-b)/(e-b)))
 | a, [],_,_,hp,_=>by cases hp
 | a,c::r,hr,hn,hp,hq=>by
   have g:=(AAl.mp hr).1 c (by simp);have h:QJ (c::r):=(AAl.mp hr).2;by_cases i:c.1<b
   .simp only[spotG] at hp hq ⊢;rw[AAG i] at hp;rw[AAG (by grind)] at hq ⊢;exact KG f h1 h2 h (λx hx=>hn x (by simp[hx])) hp hq
   .simp only[spotG] at hp hq ⊢;rw[AAF i] at hp;by_cases k:b=c.1
    .subst k;rw[M5 g] at hp;cases hp;by_cases j:c.1<m
     .rw [AAG j];rw[AAG (by grind)] at hq;refine KG f h1 h2 h (λx hx=>hn x (by simp[hx])) ?_ hq;cases r with
      | nil=>cases hq
      | cons d r=> have l:=(AAl.mp h).1 d (by simp);simp only[spotG];rw[AAF (by grind),S6 l]
     .have n:m=c.1:=by grind
      subst n;rw[AAF j,M5 g];have z:(c.1-c.1)/(e-c.1)=0:=by grind
      rw[z,aG]
    .have o:¬c.1<e:=λz=>hn c (by simp) ⟨by grind,z⟩;cases hp;rw[AAF o] at hq;cases hq;rw[AAF (by grind)];rw[<-YC g f]
def Po {b e m:Rat}{p q:T3}{cs:kn C4}(f:QJ cs)(g:b<e)(h1:b<=m)(h2:m<=e)(h:∀c∈cs,¬(b<c.1/\c.1<e))(hp:spotC cs b=some p)(d:spotC cs e=some q):spotC cs m=some (lin p q ((m-b)/(e-b))):=by
 cases cs with
 | nil=>cases hp
 | cons a r=>
   simp only[spotC] at hp d ⊢;by_cases k:b<a.1
   .rw [AAG k] at hp;cases hp
   .rw [AAF k] at hp;rw[AAF (by grind)] at d ⊢;exact KG g h1 h2 f (λc hc=>h c (by simp[hc])) hp d
abbrev He:AS:=
 (Aa (GE (N1 (aV 0)) (Hl 2 (Ad (Aq 2) (Ad (Aq 3) Bb))) (UY 1 Ci (AX QY (aV 3) (AR 2 ES (AB (aV 1) (AB (aV 3) AK))))))
   (Au (aV 1)))
abbrev F8:AS:=
 (Aa (Ao (aC (.int 1)) (Aq 1))
   He)
def CG:AF:=Ar 4 F8
def JK {a:PV}{Q:PV->Prop}(h:F8 ⟨λ_=>Q .non,Q,λ_=>False,λ_=>False⟩ [some (.val a),none,none,none]):CG [a] Q:=h
def Fd (xs:kn Rat):Nat:=xs.foldl (λN r=>N*(r.den/Nat.gcd N r.den)) 1
def Ra (xs:kn Rat)(r:Rat):Fd (xs ++ [r])=Fd xs*(r.den/Nat.gcd (Fd xs) r.den):=by unfold Fd;rw[ACh];rfl
def fN {N d:Nat}(hN:0<N)(hd:0<d):0<N*(d/Nat.gcd N d)/\N ∣ N*(d/Nat.gcd N d)/\d ∣ N*(d/Nat.gcd N d)/\N*(d/Nat.gcd N d)<=N*d:=by have g:Nat.gcd N d ∣ d:=AB1 ..;have a:0<Nat.gcd N d:=ACP _ hd;refine⟨AAw hN (Nat.div_pos (AB3 hd g) a),Nat.dvd_mul_right .., ?_,ABX _ (ABz ..)⟩;rw[<-Nat.mul_div_assoc _ g];exact Nat.dvd_lcm_right ..
theorem Gq {W:Nat}:∀(n:Nat) (xs:kn Rat),xs.length=n->(∀x∈xs,Bd W x)->0<Fd xs/\(∀x∈xs,x.den ∣ Fd xs)/\Fd xs<2^(n*W+1)
 | 0,xs,e,_=>by have:xs= [] :=AD0.mp e;subst this;exact⟨by decide,by simp,by simp[Fd]⟩
 | n+1,xs,e,h=>by
   obtain⟨a,r,rfl⟩:∃a r,xs=a ++ [r] :=⟨xs.dropLast,xs.getLast (by intro z;subst z;cases e),(AD1 _).symm⟩;have b:a.length=n:=by simpa using e
   obtain⟨h1,h2,h3⟩:=Gq n a b λx hx=>h x (by simp[hx]);have c:=(h r (by simp)).bot;rw[Ra];obtain⟨d,f,g,i⟩:=fN h1 r.den_pos;refine⟨d,λx hx=> ?_, ?_⟩
   .rcases AAQ.mp hx with hx|hx
    .exact AD2 (h2 x hx) f
    .simp at hx;subst hx;exact g
   .refine AAj i ?_;have:=U7 h3 c;rw[show n*W+1+W=(n+1)*W+1 by rw[ABU];omega] at this;exact this
def Rv (N:Nat)(r:Rat):Int:=r.num*((N:Int).fdiv (r.den:Int))
def F0 {N:Nat}{r:Rat}(h:r.den ∣ N):(Rv N r:Rat)=r*N:=by
 obtain⟨k,rfl⟩:=h;have hd:=r.den_pos;unfold Rv;rw[ADB,Int.mul_fdiv_cancel_left _ (by omega),AAa];have b:((r.den:Int):Rat)≠0:=λz=>by have:(r.den:Int)=0:=ADN.mp z;omega
 have e:r=(r.num:Rat)/((r.den:Int):Rat):=by rw[<-ACQ,AA4]
 have a:r*((r.den:Int):Rat)=r.num:=by
  conv=>lhs;arg 1;rw[e]
  grind
 rw[<-a,show ((r.den*k:Nat):Rat)=((r.den:Int):Rat)*((k:Int):Rat) by rw[<-AAa,<-ADB,ABD]];grind
structure Pc where
 b:Rat
 e:Rat
 o0:T3
 o1:T3
def Pc.six (p:Pc):kn Rat:= [p.o0.1,p.o0.2.1,p.o0.2.2,p.o1.1,p.o1.2.1,p.o1.2.2]
def Pc.N (p:Pc):Nat:=Fd p.six
def KJ (cs ds:kn C4)(b e:Rat):kn Rat:=Oh ([b,e] ++ ((cs.filter (lR b e)++ds.filter (lR b e)).map (·.1)))
def KL {cs ds:kn C4}{b e x:Rat}:x∈KJ cs ds b e↔x=b\/x=e\/(b<x/\x<e/\∃c,(c∈cs\/c∈ds)/\c.1=x):=by
 unfold KJ;rw[DP];simp only[ADG,AAx,AAJ,AAK,AAQ,AAZ,lR,AAs,decide_eq_true_eq];constructor
 .rintro (h|h|⟨c,h,rfl⟩)
  .exact .inl h
  .exact .inr (.inl h)
  .rcases h with⟨h1,h2,h3⟩|⟨h1,h2,h3⟩
   .exact .inr (.inr ⟨h2,h3,c, .inl h1,rfl⟩)
   .exact .inr (.inr ⟨h2,h3,c, .inr h1,rfl⟩)
 .rintro (h|h|⟨h1,h2,c,h,rfl⟩)
  .exact .inl h
  .exact .inr (.inl h)
  .exact .inr (.inr ⟨c,h.elim (λh=> .inl ⟨h,h1,h2⟩) (λh=> .inr ⟨h,h1,h2⟩),rfl⟩)
def Yz (cs ds:kn C4)(d:Rat×Rat)(m:Rat):T3:=aN ((spotC cs m).getD (0,0,0)) ((spotC ds m).getD (0,0,0)) d
def nu (cs ds:kn C4)(d:Rat×Rat)(a:kn Rat):kn Pc:=(a.zip a.tail).map λp=>⟨p.1,p.2,Yz cs ds d p.1,Yz cs ds d p.2⟩
structure vS (cs ds:List C4) (b e:Rat):Prop where
 lt:b<e
 one:∀m,b<=m->m<=e->∃t,spotC cs m=some t
 other:∀m,b<=m->m<=e->∃t,spotC ds m=some t
def k9 {a l b c:C4}{r d:kn C4}(f:r≠ [])(g:d≠ [])(i:(a::r).getLast?=some l)(e:(b::d).getLast?=some c)(h:mx a.1 b.1<mn l.1 c.1):vS (a::r) (b::d) (mx a.1 b.1) (mn l.1 c.1):=by
 have j:a.1<=mx a.1 b.1:=by unfold mx;split <;> grind
 have k:b.1<=mx a.1 b.1:=by unfold mx;split <;> grind
 have n:mn l.1 c.1<=l.1:=by unfold mn;split <;> grind
 have o:mn l.1 c.1<=c.1:=by unfold mn;split <;> grind
 exact⟨h,λm h1 h2=>Np f i (by grind) (by grind),λm h1 h2=>Np g e (by grind) (by grind)⟩
def Yq {cs ds:kn C4}{b e:Rat}:cS (KJ cs ds b e):=Ea
def cK {cs ds:kn C4}{b e x:Rat}(h:b<e)(hx:x∈KJ cs ds b e):b<=x/\x<=e:=by rcases KL.mp hx with rfl|rfl|⟨h1,h2,_⟩ <;> exact⟨by grind,by grind⟩
def cJ {cs ds:kn C4}{b e x:Rat}{M:Nat}(hc:∀c∈cs,Bd M c.1)(a:∀c∈ds,Bd M c.1)(d:Bd M b)(f:Bd M e)(hx:x∈KJ cs ds b e):Bd M x:=by
 rcases KL.mp hx with rfl|rfl|⟨_,_,c,h,rfl⟩
 .exact d
 .exact f
 .rcases h with h|h
  .exact hc c h
  .exact a c h
def Zi (cs:kn C4):Rat:=(cs.head?.getD (0,0,0,0)).1
def lstM (cs:kn C4):Rat:=(cs.getLast?.getD (0,0,0,0)).1
def Mh (cs ds:kn C4):Rat:=mx (Zi cs) (Zi ds)
def Mn (cs ds:kn C4):Rat:=mn (lstM cs) (lstM ds)
def pQ (cs ds:kn C4):kn Rat:=KJ cs ds (Mh cs ds) (Mn cs ds)
structure UD (cs ds:List C4) (d:Rat×Rat) (M W:Nat):Prop where
 c1:∀c∈cs,JV 150 c
 c2:∀c∈ds,JV 150 c
 r1:QJ cs
 r2:QJ ds
 t1:2<=cs.length
 t2:2<=ds.length
 f1:cs.length<=100
 f2:ds.length<=100
 m1:∀c∈cs,Bd M c.1
 m2:∀c∈ds,Bd M c.1
 b1:Bd 100 d.1
 b2:Bd 100 d.2
 p1:0<d.1
 p2:0<d.2
 w:Mh cs ds<Mn cs ds->∀m∈pQ cs ds,IQ W (Yz cs ds d m)
 hM:M<=150
 hW:W<=1050
def open2 {cs:kn C4}(h:2<=cs.length):∃a r l,cs=a::r/\r≠ [] /\(a::r).getLast?=some l:=by
 match cs,h with
 | a::b::r,_=> obtain⟨l,c⟩:∃l,(a::b::r).getLast?=some l:=⟨_,ADx (by simp)⟩;exact⟨a,b::r,l,rfl,by simp,c⟩
def WP {a:C4}{r:kn C4}:Zi (a::r)=a.1:=rfl
def Lh {cs:kn C4}{l:C4}(e:cs.getLast?=some l):lstM cs=l.1:=by unfold lstM;rw[e];rfl
section
variable {cs ds:kn C4}{d:Rat×Rat}{M W:Nat}
theorem UD.fstB (D:UD cs ds d M W):Bd M (Zi cs):=by obtain⟨a,r,l,rfl,b,c⟩:=open2 D.t1;exact D.m1 a (by simp)
theorem UD.fstB2 (D:UD cs ds d M W):Bd M (Zi ds):=by obtain⟨a,r,l,rfl,b,c⟩:=open2 D.t2;exact D.m2 a (by simp)
theorem UD.lstB (D:UD cs ds d M W):Bd M (lstM cs):=by obtain⟨a,r,l,rfl,c,b⟩:=open2 D.t1;rw[Lh b];exact D.m1 l (ADy b)
theorem UD.lstB2 (D:UD cs ds d M W):Bd M (lstM ds):=by obtain⟨a,r,l,rfl,c,b⟩:=open2 D.t2;rw[Lh b];exact D.m2 l (ADy b)
theorem UD.begB (D:UD cs ds d M W):Bd M (Mh cs ds):=D.fstB.mx D.fstB2
theorem UD.endB (D:UD cs ds d M W):Bd M (Mn cs ds):=D.lstB.mn D.lstB2
theorem UD.tog (D:UD cs ds d M W)(h:Mh cs ds<Mn cs ds):vS cs ds (Mh cs ds) (Mn cs ds):=by obtain⟨a,r,l,rfl,e,c⟩:=open2 D.t1;obtain⟨g,i,j,rfl,f,b⟩:=open2 D.t2;unfold Mh Mn at h ⊢;rw[WP,WP,Lh c,Lh b] at h ⊢;exact k9 e f c b h
end
def sd (cs ds:kn C4)(d:Rat×Rat):kn Pc:=if Mh cs ds<Mn cs ds then nu cs ds d (pQ cs ds) else []
abbrev N9:AS:=
 (Aa (Ao (Fn EZ (AB (FB (CH (N1 (aV 0)) 2 [3] (Hl 2 (Ad (Aq 0) (Ad (Aq 1) Bb))) FC (AX Ci (aV 0) (AX QY (aV 2) (aV 1))))) AK)) (Aq 4))
   (Au (Ab (AB (aV 4) (AB (aV 1) (AB (ZL (aV 2) (aV 3)) AK))))))
abbrev L9:AS:=
 (Aa (Ao (AR 1 CG (AB (aV 0) AK)) (Aq 3))
   N9)
def ET:AF:=Ar 5 L9
def RS {a x1 b:PV}{Q:PV->Prop}(h:L9 ⟨λ_=>Q .non,Q,λ_=>False,λ_=>False⟩ [some (.val a),some (.val x1),some (.val b),none,none]):ET [a,x1,b] Q:=h
abbrev R6:AS:=
 (Aa (ZO 5 6 7 1 3 (AX An (aV 0) (aC (.int 2))) (AX An (aV 2) (aC (.int 2))))
   (Au (Ab (AB (aV 4) (AB (Fn (ic max) (AB (AX An (aV 0) (aC (.int 1))) (AB (AX An (aV 2) (aC (.int 1))) AK))) (AB (aV 5) AK))))))
abbrev R5:AS:=
 (Aa (Ao (Fn EZ (AB (FB (CH (lQ (AB (AX An (aV 0) (aC (.int 0))) (AB (AX An (aV 2) (aC (.int 0))) AK))) 2 [1,3] (Hl 2 (Ad (Aq 0) (Ad (Aq 1) Bb))) FC (AX BW (AX Ci (aV 2) (aV 0)) (AX Ci (aV 3) (aV 1))))) AK)) (Aq 4))
   R6)
def GR:AF:=Ar 8 R5
def VR {a x1 b c:PV}{Q:PV->Prop}(h:R5 ⟨λ_=>Q .non,Q,λ_=>False,λ_=>False⟩ [some (.val a),some (.val x1),some (.val b),some (.val c),none,none,none,none]):GR [a,x1,b,c] Q:=h
abbrev Oo:AS:=
 (Au (AR 4 GR (AB (aV 0) (AB (V4 LJ (AX An (AX An (aV 1) (aC (.int 0))) (aV 2))) (AB (aV 1) (AB (AX An (AX An (aV 0) (aC (.int 0))) (aV 2)) AK))))))
def EJ:AF:=Ar 3 Oo
def Th {a x1 b:PV}{Q:PV->Prop}(h:Oo ⟨λ_=>Q .non,Q,λ_=>False,λ_=>False⟩ [some (.val a),some (.val x1),some (.val b)]):EJ [a,x1,b] Q:=h
abbrev L5:AS:=
 (Aa (Ao (AX An (AX An (aV 0) (aC (.int 0))) (aC (.int 0))) (Aq 1))
   (Au (qE (AX UE (aV 1) (aC (.int 0))) (LH (AX Mo (aV 1) (aC (.int 0))) (AX Mo (AX An (aV 0) (aC (.int 1))) (aC (.int 1)))))))
def Df:AF:=Ar 2 L5
def RQ {a:PV}{Q:PV->Prop}(h:L5 ⟨λ_=>Q .non,Q,λ_=>False,λ_=>False⟩ [some (.val a),none]):Df [a] Q:=h
abbrev P9:AS:=
 (Aa (Ao (AX An (AX An (aV 0) (aC (.int 0))) (aV 1)) (Aq 3))
   (Au (lP (BA (AX Xz (aV 3) (aC (.int 0)))) (Ab (AB (V4 LJ (aV 2)) (AB (aV 3) AK))) (Ab (AB (aV 2) (AB (V4 LJ (aV 3)) AK))))))
abbrev Ow:AS:=
 (Aa (Ao (AX An (AX An (aV 0) (aC (.int 0))) (aC (.int 0))) (Aq 2))
   P9)
def DE:AF:=Ar 4 Ow
def To {a x1:PV}{Q:PV->Prop}(h:Ow ⟨λ_=>Q .non,Q,λ_=>False,λ_=>False⟩ [some (.val a),some (.val x1),none,none]):DE [a,x1] Q:=h
abbrev K5:AS:=
 (Aa (B9 (BA (AR 2 DL (AB (aV 4) (AB (aV 3) AK)))) (Au (AX Xz (AX An (AX An (aV 0) (aC (.int 0))) (aV 2)) (aC (.int 0)))) BF)
   (Au (AX Xz (AX An (aV 0) (aC (.int 1))) (AX An (aV 1) (aC (.int 1))))))
abbrev K4:AS:=
 (Aa (B9 (BA (AR 2 DL (AB (aV 3) (AB (aV 4) AK)))) (Au (AX UE (AX An (AX An (aV 0) (aC (.int 0))) (aV 2)) (aC (.int 0)))) BF)
   K5)
abbrev K3:AS:=
 (Aa (Ao (AR 2 DE (AB (aV 1) (AB (aV 2) AK))) (Aq 4))
   K4)
abbrev IW:AS:=
 (Aa (Ao (AR 2 DE (AB (aV 0) (AB (aV 2) AK))) (Aq 3))
   K3)
def DM:AF:=Ar 5 IW
def NU {a x1 b:PV}{Q:PV->Prop}(h:IW ⟨λ_=>Q .non,Q,λ_=>False,λ_=>False⟩ [some (.val a),some (.val x1),some (.val b),none,none]):DM [a,x1,b] Q:=h
abbrev OH:AS:=
 (Aa (GE (N1 (aV 0)) (Aq 4) (B9 (V2 (BA (AX Xz (AX Ci (AX An (AX An (aV 4) (aC (.int 0))) (aV 1)) (aV 2)) (aC (.int 0)))) (ON (BA (AX X0 (aV 3) (aC .non))) (BA (AR 3 DM (AB (aV 4) (AB (aV 3) (AB (aV 1) AK))))))) (Ao (aV 4) (Aq 3)) BF))
   (Au (aV 3)))
abbrev MK:AS:=
 (Aa (Ao (aC .non) (Aq 3))
   OH)
def CV:AF:=Ar 5 MK
def RV {a x1 b:PV}{Q:PV->Prop}(h:MK ⟨λ_=>Q .non,Q,λ_=>False,λ_=>False⟩ [some (.val a),some (.val x1),some (.val b),none,none]):CV [a,x1,b] Q:=h
abbrev N8:AS:=
 (Aa (Ao (AR 3 EJ (AB (AR 3 CV (AB (aV 0) (AB (aV 1) (AB (aC (.int 1)) AK)))) (AB (aV 3) (AB (aV 1) AK)))) (Aq 4))
   (Au (lP (BA (AR 1 Df (AB (aV 4) AK))) (aV 4) (aC .non))))
abbrev N7:AS:=
 (Aa (B9 (BA (AX X0 (aV 3) (aC .non))) (Au (aC .non)) BF)
   N8)
abbrev N6:AS:=
 (Aa (Ao (AR 3 CV (AB (aV 0) (AB (aV 1) (AB (V4 LJ (aC (.int 1))) AK)))) (Aq 3))
   N7)
abbrev L4:AS:=
 (Aa (GE (N1 (aV 0)) (Aq 2) (B9 (V2 (BA (AX Mo (AX An (AX An (aV 2) (aC (.int 0))) (aV 1)) (aC (.int 0)))) (BA (AR 1 Df (AB (aV 2) AK)))) (Au (aV 2)) BF))
   N6)
def De:AF:=Ar 5 L4
def RP {a x1:PV}{Q:PV->Prop}(h:L4 ⟨λ_=>Q .non,Q,λ_=>False,λ_=>False⟩ [some (.val a),some (.val x1),none,none,none]):De [a,x1] Q:=h
abbrev OE:AS:=
 (Aa (Ao (AR 2 DE (AB (aV 4) (AB (aV 1) AK))) (Aq 5))
   (Au (Ab (AB (aV 3) (AB (AX Js (aC (.int 1)) (AX An (aV 2) (aC (.int 1)))) (AB (AR 2 Fj (AB (AX An (aV 5) (aC (.int 0))) (AB (AX An (aV 5) (aC (.int 1))) AK))) AK))))))
abbrev OD:AS:=
 (Aa (B9 (BA (AX X0 (aV 4) (aC .non))) (Au (Ab (AB (aV 3) (AB (AX Js (aC (.int 1)) (AX An (aV 2) (aC (.int 1)))) (AB (aC .non) AK))))) BF)
   OE)
abbrev OC:AS:=
 (Aa (Ao (AR 3 CV (AB (aV 0) (AB (aV 1) (AB (V4 LJ (aC (.int 1))) AK)))) (Aq 4))
   OD)
abbrev OB:AS:=
 (Aa (Ao (AR 2 Fj (AB (AX An (aV 3) (aC (.int 0))) (AB (AX An (aV 3) (aC (.int 1))) AK))) (Aq 3))
   OC)
abbrev OA:AS:=
 (Aa (Ao (AR 2 DE (AB (aV 2) (AB (aV 1) AK))) (Aq 3))
   OB)
abbrev MA:AS:=
 (Aa (Ao (AR 3 CV (AB (aV 0) (AB (aV 1) (AB (aC (.int 1)) AK)))) (Aq 2))
   OA)
def EU:AF:=Ar 6 MA
def RT {a x1:PV}{Q:PV->Prop}(h:MA ⟨λ_=>Q .non,Q,λ_=>False,λ_=>False⟩ [some (.val a),some (.val x1),none,none,none,none]):EU [a,x1] Q:=h
structure Eh where
 c0:Int
 c1:Int
 s:Int
 w:List (Int×Int)
structure cz (N:Nat) (p:Eh):Prop where
 a:p.c0.natAbs<2^N
 b:p.c1.natAbs<2^N
 w:∀e∈p.w,e.2.natAbs<2^N
 l:p.w.length<=12
 s:p.s=0\/p.s=1
def iU {a b:AE}{τ:A6}{Q:PV->Prop}:ZL a b τ Q=a τ λx=>b τ λy=>Ru x λi=>Ru y λj=>Q (.dk [(i,j)]):=by
 unfold ZL;congr 1
 funext x
 congr 1
 funext y
 cases x <;> cases y <;> rfl
instance{a b:AE}{τ:A6}{Q:PV->Prop}:Wp (ZL a b τ Q) (a τ λx=>b τ λy=>Ru x λi=>Ru y λj=>Q (.dk [(i,j)])):=⟨λh=>by rw[iU];exact h⟩
def LR (p:Eh)(t:Rat):Rat:=p.c0+p.c1*t
def VX {S:Nat}{r:Rat}{W N:Nat}(b:Bd W r)(h:S<2^N):(Rv S r).natAbs<2^(W+N):=by unfold Rv;rw[AAv];refine U7 b.top ?_;rw[ABi _ (by omega),<-AB2,AAu];exact AAj (ABz ..) h
def Nf {many:Int}{m:kn (Int×Int)}:(BV many m).length<=m.length:=by
 have key:∀(m a:kn (Int×Int)),(m.foldl (λa p=>Bp a p.1 (many*p.2)) a).length<=a.length+m.length:=by
  intro m;induction m with
  | nil=>intro a;simp
  | cons x r b=> intro a;rw[ABW,AAp];have:=b (Bp a x.1 (many*x.2));have:=JG a x.1 (many*x.2);omega
 have:=key m [];simpa[BV] using this
def HJ (p:Eh):ke:=decide (p.c0<0\/(p.c0=0/\p.s=1))
def Bg (p:Eh):Int×Int:=if 0<p.c1 then (-p.c0,p.c1) else (p.c0, -p.c1)
def DH (p:Eh):Rat:= -(p.c0:Rat)/p.c1
def Nu (p r:Eh):ke:=if (Bg p).1*(Bg r).2<(Bg r).1*(Bg p).2 then decide (p.c1<0) else if (Bg r).1*(Bg p).2<(Bg p).1*(Bg r).2 then decide (0<p.c1) else decide (r.s<p.s)
def Gw {p:Eh}{N:Nat}(h:cz N p):(Bg p).1.natAbs<2^N/\(Bg p).2.natAbs<2^N:=by
 unfold Bg;have:=h.a;have:=h.b;split
 .rw [AB0];exact⟨h.a,h.b⟩
 .rw [AB0];exact⟨h.a,h.b⟩
def Mf {a b c d:Int}{N:Nat}(h1:a.natAbs<2^N)(h2:b.natAbs<2^N)(h3:c.natAbs<2^N)(e:d.natAbs<2^N)(hN:N<=10000){Q:PV->Prop}(q:Q (.bl (decide (a*d<c*b)))):DL [.tup [.int a, .int b], .tup [.int c, .int d]] Q:=by refine⟨.of h1 e, .of h3 h2,q⟩
def holds (p:Eh)(t:Rat):Prop:=0<LR p t\/(LR p t=0/\p.s=0)
def Cz {p:Eh}(h:p.c1≠0):0<(Bg p).2/\((Bg p).1:Rat)=DH p*((Bg p).2:Rat)/\(p.c0:Rat)= - (DH p*p.c1):=by
 have hc:(p.c1:Rat)≠0:=by exact_mod_cast h
 have e:DH p*(p.c1:Rat)= -(p.c0:Rat):=by unfold DH;exact AD3 hc
 unfold Bg;split
 .rename_i h1;refine⟨h1, ?_, ?_⟩
  .rw [e];push_cast;rfl
  .rw [e];grind
 .rename_i h1;refine⟨by show 0 < -p.c1;omega, ?_, ?_⟩
  .push_cast;grind
  .rw [e];grind
def XH {p r:Eh}(hp:p.c1≠0)(a:r.c1≠0):(Bg p).1*(Bg r).2<(Bg r).1*(Bg p).2↔DH p<DH r:=by
 obtain⟨b,c,_⟩:=Cz hp;obtain⟨d,b2,_⟩:=Cz a;have e:(0:Rat)<((Bg p).2:Rat):=by exact_mod_cast b
 have f:(0:Rat)<((Bg r).2:Rat):=by exact_mod_cast d
 rw[<-AB7,AAa,AAa,c,b2];generalize ((Bg p).2:Rat)=x at *;generalize ((Bg r).2:Rat)=y at *;have g:0<x*y:=ACR e f;rw[show DH p*x*y=DH p*(x*y) by grind,show DH r*y*x=DH r*(x*y) by grind];exact Rat.mul_lt_mul_right g
def Wt {p:Eh}(h:p.c1≠0)(t:Rat):LR p t=p.c1*(t-DH p):=by obtain⟨_,_,e⟩:=Cz h;unfold LR;rw[e];grind
def Di {p:Eh}(h:0<p.c1)(t:Rat):holds p t↔(DH p<t\/(DH p=t/\p.s=0)):=by
 have hc:(0:Rat)<p.c1:=by exact_mod_cast h
 unfold holds;rw[Wt (by omega)];have a:0<(p.c1:Rat)*(t-DH p)↔DH p<t:=by rw[AB8 hc];grind
 have b:(p.c1:Rat)*(t-DH p)=0↔DH p=t:=by rw[ABY];grind
 rw[a,b]
def C5 {p:Eh}(h:p.c1<0)(t:Rat):holds p t↔(t<DH p\/(DH p=t/\p.s=0)):=by
 have hc:(0:Rat) < -(p.c1:Rat):=by
  have:(p.c1:Rat)<0:=by exact_mod_cast h
  grind
 unfold holds;rw[Wt (by omega)];have a:0<(p.c1:Rat)*(t-DH p)↔t<DH p:=by rw[show (p.c1:Rat)*(t-DH p)= -(p.c1:Rat)*(DH p-t) by grind,AB8 hc];grind
 have b:(p.c1:Rat)*(t-DH p)=0↔DH p=t:=by rw[ABY];grind
 rw[a,b]
def Nv (sg:Int)(o:ki Eh)(p:Eh):ki Eh:=if 0<p.c1*sg then (match o with | none=>some p|some r=>if Nu p r=true then some p else some r) else o
def tight (sg:Int)(ps:kn Eh):ki Eh:=ps.foldl (Nv sg) none
def cG {p r:Eh}{sg:Int}(h:sg=1\/sg= -1)(hp:0<p.c1*sg)(a:0<r.c1*sg)(sp:p.s=0\/p.s=1)(d:r.s=0\/r.s=1)(t:Rat):(Nu p r=true->holds p t->holds r t)/\(Nu p r=false->holds r t->holds p t):=by
 have b:p.c1≠0:=by intro z;rw[z] at hp;simp at hp
 have c:r.c1≠0:=by intro z;rw[z] at a;simp at a
 unfold Nu;simp only[XH b c,XH c b];rcases h with rfl|rfl
 .have hp:0<p.c1:=by omega
  have a:0<r.c1:=by omega
  rw[Di hp,Di a];split
  .simp [show ¬p.c1<0 by omega];grind
  .split
   .simp [hp];grind
   .simp;grind
 .have hp:p.c1<0:=by omega
  have a:r.c1<0:=by omega
  rw[C5 hp,C5 a];split
  .simp [hp];grind
  .split
   .simp [show ¬0<p.c1 by omega];grind
   .simp;grind
structure iD (sg:Int) (ps:List Eh) (o:Option Eh):Prop where
 no:o=none->∀p∈ps,¬0<p.c1*sg
 so:∀r,o=some r->r∈ps/\0<r.c1*sg/\∀p∈ps,0<p.c1*sg->∀t,holds r t->holds p t
def Yk {sg:Int}(h:sg=1\/sg= -1){ps:kn Eh}{o:ki Eh}{p:Eh}(hs:∀p∈ps,p.s=0\/p.s=1)(hp:p.s=0\/p.s=1)(i:iD sg ps o):iD sg (ps ++ [p]) (Nv sg o p):=by
 unfold Nv;split
 .rename_i h1;cases o with
  | none=>
    refine⟨λz=>(by cases z),λr e=> ?_⟩;cases e;refine⟨by simp,h1,λx hx h2 t a=> ?_⟩;rcases AAQ.mp hx with hx|hx
    .exact absurd h2 (i.no rfl x hx)
    .rw [AAT.mp hx];exact a
  | some r=>
    obtain⟨m,b,c⟩:=i.so r rfl;have d:=cG h h1 b hp (hs r m);dsimp only;split
    .rename_i h2;refine⟨λz=>(by cases z),λf e=> ?_⟩;cases e;refine⟨by simp,h1,λx hx h3 t a=> ?_⟩;rcases AAQ.mp hx with hx|hx
     .exact c x hx h3 t ((d t).1 h2 a)
     .rw [AAT.mp hx];exact a
    .rename_i h2;refine⟨λz=>(by cases z),λf e=> ?_⟩;cases e;refine⟨by simp[m],b,λx hx h3 t a=> ?_⟩;rcases AAQ.mp hx with hx|hx
     .exact c x hx h3 t a
     .rw [AAT.mp hx];exact(d t).2 (by simpa using h2) a
 .rename_i h1;refine⟨λz x hx=> ?_,λr e=> ?_⟩
  .rcases AAQ.mp hx with hx|hx
   .exact i.no z x hx
   .rw [AAT.mp hx];exact h1
  .obtain ⟨m,b,c⟩:=i.so r e;refine⟨by simp[m],b,λx hx h3 t a=> ?_⟩;rcases AAQ.mp hx with hx|hx
   .exact c x hx h3 t a
   .rw [AAT.mp hx] at h3;exact absurd h3 h1
def Yj (sg:Int)(a:kn Eh)(p:Eh):tight sg (a ++ [p])=Nv sg (tight sg a) p:=by unfold tight;rw[ACh];rfl
theorem DG {sg:Int}(h:sg=1\/sg= -1):∀(n:Nat) (ps:kn Eh),ps.length=n->(∀p∈ps,p.s=0\/p.s=1)->iD sg ps (tight sg ps)
 | 0,ps,e,_=>by have:ps= [] :=AD0.mp e;subst this;exact⟨λ_=>by simp,λr e=>by cases e⟩
 | n+1,ps,e,hs=>by obtain⟨a,r,rfl⟩:∃a r,ps=a ++ [r] :=⟨ps.dropLast,ps.getLast (by intro z;subst z;cases e),(AD1 _).symm⟩;rw[Yj];exact Yk h (λp hp=>hs p (by simp[hp])) (hs r (by simp)) (DG h n a (by simpa using e) λp hp=>hs p (by simp[hp]))
def Vp {p:Eh}(h:p.c1≠0):Rat.divInt (Bg p).1 (Bg p).2=DH p:=by
 obtain⟨a,b,_⟩:=Cz h;have c:((Bg p).2:Rat)≠0:=by
  have:(0:Rat)<((Bg p).2:Rat):=by exact_mod_cast a
  grind
 rw[ACQ,b];exact Rat.mul_div_cancel c
abbrev Ha:AS:=
 (Aa (Ao (AR 2 Hg (AB (AR 2 EF (AB (aV 5) (AB (aV 4) AK))) (AB (aV 2) AK))) (Aq 6))
   (FV 3 Jw (AB (Ab (AB (AR 2 EF (AB (aV 4) (AB (AR 2 Ic (AB (aV 6) (AB (AX An (aV 0) (aC (.int 0))) AK))) AK))) (AB (aV 6) AK))) AK)))
abbrev Hd:AS:=
 (Aa (GE (lQ (AB (cU (aV 0) (cW (aC (.int 1))) cV) (AB (cU (aV 1) (cW (aC (.int 1))) cV) AK))) (Hl 2 (Ad (Aq 4) (Ad (Aq 5) Bb))) Ha)
   (Au (Ab (AB (AX An (aV 0) (aC (.int 0))) (AB (AX An (aV 1) (aC (.int 0))) (AB (aV 3) AK))))))
abbrev Hc:AS:=
 (Aa (Fo (C3 AK) 3)
   Hd)
abbrev F7:AS:=
 (Aa (Ao (AR 2 EF (AB (AX An (aV 1) (aC (.int 0))) (AB (AX An (aV 0) (aC (.int 0))) AK))) (Aq 2))
   Hc)
def Bj:AF:=Ar 7 F7
def JJ {a x1:PV}{Q:PV->Prop}(h:F7 ⟨λ_=>Q .non,Q,λ_=>False,λ_=>False⟩ [some (.val a),some (.val x1),none,none,none,none,none]):Bj [a,x1] Q:=h
abbrev KP:AS:=
 (Au (FB (CH (QP (AB (AX Js (Fn Fq (AB (aV 0) AK)) (aC (.int 1))) AK)) 1 [0] (Aq 0) FC (AR 2 Bj (AB (AX An (aV 1) (aV 0)) (AB (AX An (aV 1) (AX BW (aV 0) (aC (.int 1)))) AK))))))
def DB:AF:=Ar 1 KP
def Oi {a:PV}{Q:PV->Prop}(h:KP ⟨λ_=>Q .non,Q,λ_=>False,λ_=>False⟩ [some (.val a)]):DB [a] Q:=h
def Yh (b e:C4)(x y:Rat):Rat:=(y-x)/(e.1-b.1)
def ZS (b e:C4)(x y:Rat):Rat:=x-Yh b e x y*b.1
def jL (b e:C4)(x y:Rat):PV:= .tup [fr (ZS b e x y),fr (Yh b e x y)]
def CN (b e:C4):PV:= .tup [fr b.1,fr e.1, .lst [jL b e b.2.1 e.2.1,jL b e b.2.2.1 e.2.2.1,jL b e b.2.2.2 e.2.2.2]]
def Vc {b e:C4}{x y:Rat}{B:Nat}(hb:Bd B b.1)(he:Bd B e.1)(hx:Bd B x)(a:Bd B y)(h:b.1<e.1):Bd (4*B+2) (Yh b e x y)/\Bd (6*B+3) (ZS b e x y):=by have s:Bd (4*B+2) (Yh b e x y):=(Bd.div (by grind) (a.sub hx) (he.sub hb)).mono (by omega);exact⟨s,(hx.sub (s.mul hb)).mono (by omega)⟩
def aw {f:C4->PV}(a:f=cor\/f=corL){b e:C4}{B:Nat}(hb:JV B b)(he:JV B e)(h:b.1<e.1)(l:6*B+3<=3900){Q:PV->Prop}(q:Q (CN b e)):Bj [f b,f e] Q:=by
 obtain⟨c,d⟩:=Vc hb.m he.m hb.x he.x h;obtain⟨g,i⟩:=Vc hb.m he.m hb.y he.y h;obtain⟨j,k⟩:=Vc hb.m he.m hb.z he.z h;have n:e.1-b.1≠0:=by grind
 have bs:=he.m.sub hb.m;apply JJ;rcases a with rfl|rfl
 .repeat' array_get_dec
  exact q
 .repeat' array_get_dec
  show Zd (.lst [fr b.1,fr b.2.1,fr b.2.2.1,fr b.2.2.2]) (some 1) none _;refine E2 ?_;repeat' array_get_dec
  show Zd (.lst [fr e.1,fr e.2.1,fr e.2.2.1,fr e.2.2.2]) (some 1) none _;refine E2 ?_;show Q8 (.lst [fr b.2.1,fr b.2.2.1,fr b.2.2.2]) λxs=>Q8 (.lst [fr e.2.1,fr e.2.2.1,fr e.2.2.2]) λo=>_;repeat' array_get_dec
  exact q
def FF (cs:kn C4):kn (C4×C4):=cs.zip cs.tail
def eh {cs:kn C4}{i:Nat}(h:i+1<cs.length):∃b e,cs[i]? =some b/\cs[i+1]? =some e/\(FF cs)[i]? =some (b,e):=by refine⟨cs[i],cs[i+1],AAS _,AAS _, ?_⟩;unfold FF;rw[AEU];refine⟨AAS _, ?_⟩;rw[List.getElem?_tail];exact AAS _
def Lo {cs:kn C4}(a:QJ cs){p:C4×C4}(h:p∈FF cs):p.1∈cs/\p.2∈cs/\p.1.1<p.2.1:=by obtain⟨i,hi⟩:=List.getElem?_of_mem h;unfold FF at hi;rw[AEU] at hi;obtain⟨h1,h2⟩:=hi;rw[List.getElem?_tail] at h2;exact⟨ACH h1,ACH h2,Ww a h1 h2⟩
def ay {cs:kn C4}{v:PV}{B:Nat}(hv:KZ cs v)(hc:∀c∈cs,JV B c)(o:QJ cs)(h2:2<=cs.length)(hl:cs.length<=1000)(r:6*B+3<=3900){Q:PV->Prop}(q:Q (.lst ((FF cs).map λp=>CN p.1 p.2))):DB [v] Q:=by
 obtain⟨f,s,hv⟩:=hv;apply Oi;have t:(FF cs).length=cs.length-1:=by unfold FF;simp
 have go:∀w:PV,(∀(k:Int) (j:Nat) (c:C4) {R:PV->Prop},k=(j:Int)->cs[j]? =some c->R (f c)->An w (.int k) R)->DF (Aq 0) FC (AR 2 Bj (AB (AX An (aV 1) (aV 0)) (AB (AX An (aV 1) (AX BW (aV 0) (aC (PV.int 1)))) AK))) [none,some (AV.val w)] (λxs=>Q (PV.lst xs)) (rng 0 ((cs.length:Int)-1).toNat) [] :=λw ix=>by
  refine LZ (λi a=>a=((FF cs).map λp=>CN p.1 p.2).take i) (λa e=> ?_) (λi hi a R n e=> ?_) rfl
  .rw [e,ABk (by rw[AAO,t];omega)];exact q
  .obtain ⟨b,d,g,l,ep⟩:=eh (cs:=cs) (i:=i) (by omega);have m:=n (a ++ [CN b d]) (by rw[e,List.take_add_one,AAr,ep];rfl);clear n;ac_rfl;refine ix _ i b (by omega) g ?_;ac_rfl;refine ix _ (i+1) d (by omega) l ?_;ac_rfl;refine aw s (hc b (ACH g)) (hc d (ACH l)) (Ww o g l) r ?_;exact m
 rcases hv with rfl|rfl
 .ac_rfl;exact go _ λk j c R hk e h=>WS hk e h
 .ac_rfl;exact go _ λk j c R hk e h=>WS hk e h
def ZV {b:T3}{w:PV}(hw:XU b w){R:PV->Prop}:(R (fr b.1)->An w (.int 0) R)/\(R (fr b.2.1)->An w (.int 1) R)/\(R (fr b.2.2)->An w (.int 2) R):=by rcases hw with rfl|rfl <;> exact⟨id,id,id⟩
abbrev Fm:=Rat×Rat×Int
def hF (f:Fm)(t:Rat):Prop:=0<f.1+f.2.1*t\/(f.1+f.2.1*t=0/\f.2.2=0)
structure cy (N:Nat) (f:Fm) (p:Eh):Prop where
 ok:cz N p
 s:p.s=f.2.2
 ex:∃S:Rat,0<S/\(p.c0:Rat)=f.1*S/\(p.c1:Rat)=f.2.1*S
inductive ZE (N:Nat):List Fm->List Eh->Prop where
 | nil:ZE N [] []
 | cons {f:Fm} {p:Eh} {fs:List Fm} {ps:List Eh} (h:cy N f p) (t:ZE N fs ps):ZE N (f::fs) (p::ps)
def cy.hold {N:Nat}{f:Fm}{p:Eh}(h:cy N f p)(t:Rat):holds p t↔hF f t:=by
 obtain⟨S,a,b,c⟩:=h.ex;unfold holds hF LR;rw[b,c,h.s,show f.1*S+f.2.1*S*t=S*(f.1+f.2.1*t) by grind,AB8 a,ABY];have:S≠0:=by grind
 simp[this]
def cy.sign {N:Nat}{f:Fm}{p:Eh}(h:cy N f p):(0<p.c1↔0<f.2.1)/\(p.c1<0↔f.2.1<0):=by
 obtain⟨S,c,e,d⟩:=h.ex;have a:0<p.c1↔(0:Rat)<(p.c1:Rat):=by rw[<-ABn,AB7]
 have b:p.c1<0↔(p.c1:Rat)<0:=by rw[<-ABn,AB7]
 rw[a,b,d];refine⟨?_, ?_⟩
 .rw [Rat.mul_comm,AB8 c]
 .constructor
  .intro k;have:0<S*(-f.2.1):=by grind
   rw[AB8 c] at this;grind
  .intro k;have:0<S*(-f.2.1):=ACR c (by grind);grind
def cy.turn {N:Nat}{f:Fm}{p:Eh}(h:cy N f p)(e:f.2.1≠0):f.1+f.2.1*DH p=0:=by
 obtain⟨S,g,b,a⟩:=h.ex;have hs:S≠0:=by grind
 have c:(p.c1:Rat)≠0:=by rw[a];intro z;rcases ABY.mp z with z|z <;> contradiction
 have d:p.c1≠0:=by intro z;rw[z] at c;exact c rfl
 have:=(Cz d).2.2;rw[b,a] at this;have:S*(f.1+f.2.1*DH p)=0:=by grind
 rcases ABY.mp this with z|z
 .contradiction
 .exact z
def ZE.mem {N:Nat}:∀{e:kn Fm} {ps:kn Eh},ZE N e ps->(∀p∈ps,∃f∈e,cy N f p)/\(∀f∈e,∃p∈ps,cy N f p)/\ps.length=e.length
 | _,_, .nil=>⟨by simp,by simp,rfl⟩
 | _,_, .cons h t=>by
   obtain⟨a,b,c⟩:=t.mem;refine⟨λp hp=> ?_,λf d=> ?_,by simp[c]⟩
   .rcases AAJ.mp hp with rfl|hp
    .exact ⟨_,by simp,h⟩
    .obtain ⟨f,d,k⟩:=a p hp;exact⟨f,by simp[d],k⟩
   .rcases AAJ.mp d with rfl|d
    .exact ⟨_,by simp,h⟩
    .obtain ⟨p,hp,k⟩:=b f d;exact⟨p,by simp[hp],k⟩
def qv (lo hi p:T3):Prop:=(lo.1<p.1/\p.1<hi.1)/\(lo.2.1<p.2.1/\p.2.1<hi.2.1)/\(lo.2.2<p.2.2/\p.2.2<hi.2.2)
instance (lo hi p:T3):Decidable (qv lo hi p):=by unfold qv;infer_instance
def jA (lo hi:T3)(p:C4×C4)(t:Rat):Prop:=p.1.1<=t/\t<p.2.1/\qv lo hi (inter p.1 p.2 t)
def vP (lo hi:T3)(p:C4×C4)(m:Rat):Prop:=m=p.1.1\/m=p.2.1\/(p.1.1<m/\m<p.2.1/\((p.1.2.1≠p.2.2.1/\((inter p.1 p.2 m).1=lo.1\/(inter p.1 p.2 m).1=hi.1))\/(p.1.2.2.1≠p.2.2.2.1/\((inter p.1 p.2 m).2.1=lo.2.1\/(inter p.1 p.2 m).2.1=hi.2.1))\/(p.1.2.2.2≠p.2.2.2.2/\((inter p.1 p.2 m).2.2=lo.2.2\/(inter p.1 p.2 m).2.2=hi.2.2))))
def Rl {p:Eh}{N:Nat}(h:cz N p)(c:p.c1≠0):Bd N (DH p):=by obtain⟨a,b⟩:=Gw h;rw[<-Vp c];exact .divInt (by have:=(Cz c).1;omega) a b
structure ZH (N:Nat) (lo hi:T3) (p:C4×C4) (s:Cp):Prop where
 ok:GD N s
 fin:∃x,s.2.2=some x/\vP lo hi p x
 bmk:vP lo hi p s.1
 sem:∀t,Ck s (t,0)=true↔jA lo hi p t
structure Ig (N:Nat) (lo hi:T3) (us:List (C4×C4)) (ss:List Cp):Prop where
 ok:∀s∈ss,∃p∈us,ZH N lo hi p s
 all:∀p∈us,∀t,jA lo hi p t->∃s∈ss,Ck s (t,0)=true
 len:ss.length<=us.length
def Ig.more {N:Nat}{lo hi:T3}{c:kn (C4×C4)}{ss:kn Cp}{p:C4×C4}{s:Cp}(h:Ig N lo hi c ss)(k:ZH N lo hi p s):Ig N lo hi (c ++ [p]) (ss ++ [s]):=by
 refine⟨λx hx=> ?_,λq a t b=> ?_,by have:=h.len;simp;omega⟩
 .rcases AAQ.mp hx with hx|hx
  .obtain ⟨q,a,r⟩:=h.ok x hx;exact⟨q,by simp[a],r⟩
  .rw [AAT.mp hx];exact⟨p,by simp,k⟩
 .rcases AAQ.mp a with a|a
  .obtain ⟨x,hx,r⟩:=h.all q a t b;exact⟨x,by simp[hx],r⟩
  .rw [AAT.mp a] at b;exact⟨s,by simp,(k.sem t).mpr b⟩
def Ig.st {N:Nat}{lo hi:T3}{a:kn (C4×C4)}{ss:kn Cp}(h:Ig N lo hi a ss):∀s∈ss,GD N s:=λs hs=>let ⟨_,_,k⟩:=h.ok s hs;k.ok
instance{r:AA}{τ:A6}{a:kn PV->Prop}:Wp (qF r τ a) (r τ λb=>match b with | [.lst xs] =>a (EX 0 xs)|_=>False):=⟨id⟩
def oh (k:Int)(c:C4):Rat:=if k % 3=0 then c.2.1 else if k % 3=1 then c.2.2.1 else c.2.2.2
def E6 (lo hi:T3):kn (Int×Rat):= [(0,lo.1),(1,lo.2.1),(2,lo.2.2),(3,hi.1),(4,hi.2.1),(5,hi.2.2)]
def qr (p:C4×C4)(u:Int×Rat)(m:Rat):Prop:=p.1.1<m/\m<p.2.1/\oh u.1 p.1≠oh u.1 p.2/\oh u.1 p.1+(m-p.1.1)/(p.2.1-p.1.1)*(oh u.1 p.2-oh u.1 p.1)=u.2
structure hV (W:Nat) (cs:List C4) (us:List (C4×C4)) (lo hi:T3) (p:C4×C4) (ws:List (Int×Rat)) (ms:List Rat):Prop where
 bd:∀m∈ms,Bd W m
 crn:∀c∈cs,c.1∈ms
 ed:∀p∈us,∀u∈E6 lo hi,∀m,qr p u m->m∈ms
 ed2:∀u∈ws,∀m,qr p u m->m∈ms
 len:ms.length<=cs.length+6*us.length+ws.length
def hV.more {W:Nat}{cs:kn C4}{b:kn (C4×C4)}{lo hi:T3}{p:C4×C4}{d:kn (Int×Rat)}{ms:kn Rat}{u:Int×Rat}(h:hV W cs b lo hi p d ms){x:Rat}(e:Bd W x)(k:∀m,qr p u m->m=x):hV W cs b lo hi p (d ++ [u]) (ms ++ [x]):=by
 refine⟨λm a=> ?_,λc hc=>by simp[h.crn c hc],λq f v hv m a=>by simp[h.ed q f v hv m a],λv hv m a=> ?_,by have:=h.len;simp;omega⟩
 .rcases AAQ.mp a with a|a
  .exact h.bd m a
  .rw [AAT.mp a];exact e
 .rcases AAQ.mp hv with hv|hv
  .simp [h.ed2 v hv m a]
  .rw [AAT.mp hv] at a;simp[k m a]
def sv (p:Int×Int):Rat:=(p.1:Rat)/(p.2:Rat)
def dn {p q a b:T3}{d:Rat×Rat}{s:Rat}:aN (lin p q s) (lin a b s) d=lin (aN p a d) (aN q b d) s:=by
 unfold aN lin;simp only[ACd];congr 1
 .grind
 .congr 1 <;> grind
def cR {c:kn Rat}(h:cS c):∀p∈c.zip c.tail,p.1∈c/\p.2∈c/\p.1<p.2/\∀x∈c,¬(p.1<x/\x<p.2):=by
 induction c with
 | nil=>intro p hp;simp at hp
 | cons a r e=>
   cases r with
   | nil=>intro p hp;simp at hp
   | cons b r=>
     have h1:=AAl.mp h;intro p hp;simp only[List.tail_cons,AD4,AAJ] at hp;rcases hp with rfl|hp
     .refine ⟨by simp,by simp,h1.1 b (by simp),λx hx z=> ?_⟩;rcases AAJ.mp hx with rfl|hx
      .grind
      .rcases AAJ.mp hx with rfl|hx
       .grind
       .have:=(AAl.mp h1.2).1 x hx;grind
     .obtain ⟨d,f,g,i⟩:=e h1.2 p hp;refine⟨by simp[d],by simp[f],g,λx hx z=> ?_⟩;rcases AAJ.mp hx with rfl|hx
      .have:=h1.1 p.1 d;grind
      .exact i x hx z
section
variable {cs ds:kn C4}{d:Rat×Rat}{M W:Nat}
structure rE (cs ds:List C4) (d:Rat×Rat) (M W:Nat) (p:Pc):Prop where
 lt:p.b<p.e
 w0:IQ W p.o0
 w1:IQ W p.o1
 bb:Bd M p.b
 be:Bd M p.e
 lo:Mh cs ds<=p.b
 hi:p.e<=Mn cs ds
 at0:p.o0=Yz cs ds d p.b
 vV:p.o1=Yz cs ds d p.e
 lin:∀m,p.b<=m->m<=p.e->Yz cs ds d m=lin p.o0 p.o1 ((m-p.b)/(p.e-p.b))
theorem UD.pc (D:UD cs ds d M W):∀p∈sd cs ds d,rE cs ds d M W p:=by
 intro p hp;unfold sd at hp;by_cases h:Mh cs ds<Mn cs ds
 .rw [AAG h] at hp;have e:=D.tog h;have j:∀x∈pQ cs ds,Mh cs ds<=x/\x<=Mn cs ds:=λx hx=>cK h hx;have k:∀x∈pQ cs ds,Bd M x:=λx hx=>cJ D.m1 D.m2 D.begB D.endB hx;have l:∀x∈pQ cs ds,IQ W (Yz cs ds d x):=D.w h;unfold nu at hp;obtain⟨q,t,rfl⟩:=AAK.mp hp;obtain⟨f,g,i,u⟩:=cR Yq q t;have a:=j _ f;have b:=j _ g;refine⟨i,l _ f,l _ g,k _ f,k _ g,a.1,b.2,rfl,rfl,λm m1 m2=> ?_⟩;have m1:q.1<=m:=m1;have m2:m<=q.2:=m2;have n:∀c,c∈cs\/c∈ds->¬(q.1<c.1/\c.1<q.2):=λc hc z=>by refine u c.1 (KL.mpr (.inr (.inr ⟨by grind,by grind,c,hc,rfl⟩))) z
  obtain⟨A,o⟩:=e.one q.1 a.1 a.2;obtain⟨B,r⟩:=e.one q.2 b.1 b.2;obtain⟨C,f1⟩:=e.other q.1 a.1 a.2;obtain⟨E,s⟩:=e.other q.2 b.1 b.2;have v:=Po D.r1 i m1 m2 (λc hc=>n c (.inl hc)) o r;have y:=Po D.r2 i m1 m2 (λc hc=>n c (.inr hc)) f1 s;show Yz cs ds d m=PL.lin (Yz cs ds d q.1) (Yz cs ds d q.2) ((m-q.1)/(q.2-q.1));unfold Yz;rw[v,y,o,r,f1,s];exact dn
 .rw [AAF h] at hp;cases hp
def Qv (cs ds:kn C4)(d:Rat×Rat)(m:Rat):Prop:=Mh cs ds<=m/\m<Mn cs ds/\rR (Yz cs ds d m)<1
instance {m:Rat}:Decidable (Qv cs ds d m):=by unfold Qv;infer_instance
structure gG (cs ds:List C4) (d:Rat×Rat) (B:Nat) (ss:List Cp):Prop where
 few:ss.length<=201
 ok:∀s∈ss,GD B s
 fin:∀s∈ss,∃x,s.2.2=some x
 sem:∀m,ss.any (Ck · (m,0))=true↔Qv cs ds d m
 pf:ss.length<=(sd cs ds d).length
end
def dM {ss:kn Cp}(a:∀s∈ss,∃x,s.2.2=some x)(k:Rat):∃m,k<m/\ss.any (Ck · (m,0))=false:=by
 induction ss with
 | nil=>exact⟨k+1,by grind,rfl⟩
 | cons s ss h=>
   obtain⟨x,hx⟩:=a s (by simp);have d:∀(b:kn Cp),(∀s∈b,∃x,s.2.2=some x)->∃n:Rat,k<n/\∀s∈b,∀x,s.2.2=some x->x<n:=by
    intro b;induction b with
    | nil=>intro _;exact⟨k+1,by grind,by simp⟩
    | cons t b e=>
      intro f;obtain⟨n,h1,h2⟩:=e λs hs=>f s (by simp[hs]);obtain⟨y,c⟩:=f t (by simp);by_cases z:y<n
      .refine ⟨n,h1,λs hs x hx=> ?_⟩;rcases AAJ.mp hs with rfl|hs
       .rw [c] at hx;cases hx;exact z
       .exact h2 s hs x hx
      .refine ⟨y+1,by grind,λs hs x hx=> ?_⟩;rcases AAJ.mp hs with rfl|hs
       .rw [c] at hx;cases hx;grind
       .have:=h2 s hs x hx;grind
   obtain⟨n,h1,h2⟩:=d (s::ss) a;refine⟨n,h1, ?_⟩;rw[List.any_eq_false];intro t g z;obtain⟨y,c⟩:=a t g;have:=h2 t g y c;unfold Ck at z;rw[c] at z;simp at z;grind
def Xp {B:Nat}{ss:kn Cp}(ok:∀s∈ss,GD B s)(a:∀s∈ss,∃x,s.2.2=some x):∀r∈canon 1 ss,∃x,r.2.2=some x:=by
 intro r b;cases e:r.2.2 with
 | some x=>exact⟨x,rfl⟩
 | none=> exfalso;obtain⟨m,h1,h2⟩:=dM a r.1;rw[<-SQ ok (p:=(m,0)) (.inl rfl)] at h2;rw[List.any_eq_false] at h2;refine h2 r b ?_;unfold Ck;rw[e];simp;exact .inl h1
structure Told (P:Rat->Prop) (B:Nat) (cc:List Cp):Prop where
 ok:∀s∈cc,GD B s
 fin:∀s∈cc,∃x,s.2.2=some x
 few:cc.length<=2000
 sem:∀m,cc.any (Ck · (m,0))=true↔P m
def gG.told {cs ds:kn C4}{d:Rat×Rat}{B:Nat}{ss:kn Cp}(n:gG cs ds d B ss):Told (Qv cs ds d) B (canon 1 ss):=
 ⟨ZX n.ok,Xp n.ok n.fin,by have:=Ue (n:=1) (ss:=ss);have:=n.few;omega,λm=>by rw[SQ n.ok (p:=(m,0)) (.inl rfl)];exact n.sem m⟩
abbrev L7:AS:=
 (Au (LH (Fn Zk (AB (aV 0) (AB (aC (.ty "int")) AK))) (V4 iW (Fn Zk (AB (aV 0) (AB (aC (.ty "bool")) AK))))))
def Br:AF:=Ar 1 L7
def JI {a:PV}{Q:PV->Prop}(h:L7 ⟨λ_=>Q .non,Q,λ_=>False,λ_=>False⟩ [some (.val a)]):Br [a] Q:=h
def B8 {i:Int}{Q:PV->Prop}(q:Q (.bl true)):Br [.int i] Q:=by apply JI;ac_rfl;exact q
def Ig.sem {N:Nat}{lo hi:T3}{a:kn (C4×C4)}{ss:kn Cp}(h:Ig N lo hi a ss)(m:Rat):ss.any (Ck · (m,0))=true↔∃p∈a,jA lo hi p m:=by
 rw[ACa];constructor
 .rintro ⟨s,hs,k⟩;obtain⟨p,hp,o⟩:=h.ok s hs;exact⟨p,hp,(o.sem m).mp k⟩
 .rintro ⟨p,hp,k⟩;exact h.all p hp m k
def Ig.fin {N:Nat}{lo hi:T3}{a:kn (C4×C4)}{ss:kn Cp}(h:Ig N lo hi a ss):∀s∈ss,∃x,s.2.2=some x:=λs hs=>by obtain⟨p,hp,k⟩:=h.ok s hs;obtain⟨x,hx,_⟩:=k.fin;exact⟨x,hx⟩
end PL
namespace PL
open PySem L2 PyProof.Rows PL.K31
abbrev Fl:=kn C4×T3
section
variable {lo hi:T3}{f:Fl}
def IQ.up {n m:Nat}{t:T3}(h:IQ n t)(k:n<=m):IQ m t:=⟨h.x.mono k,h.y.mono k,h.z.mono k⟩
end
end PL
namespace PL
open PySem L2 PL PyProof.Rows
abbrev ML:AS:=
 (Aa (Ao (Ab (AB (Ab (AB (AR 1 CU (AB (AX An (aV 3) (aC (.int 0))) AK)) (AB (aC (.tup [(.int 1),(.int 1)])) (AB (aC (.tup [(.int 0),(.int 1)])) AK)))) (AB (Ab (AB (AX An (aV 3) (aC (.int 1))) (AB (aC (.tup [(.int (-1)),(.int 1)])) (AB (aC (.tup [(.int 0),(.int 1)])) AK)))) (AB (Ab (AB (AR 1 CU (AB (AX An (aV 4) (aC (.int 0))) AK)) (AB (aC (.tup [(.int 0),(.int 1)])) (AB (aC (.tup [(.int 1),(.int 1)])) AK)))) (AB (Ab (AB (AX An (aV 4) (aC (.int 1))) (AB (aC (.tup [(.int 0),(.int 1)])) (AB (aC (.tup [(.int (-1)),(.int 1)])) AK)))) (AB (Ab (AB (AX An (aV 6) (aC (.int 0))) (AB (aC (.tup [(.int 1),(.int 1)])) (AB (aC (.tup [(.int (-1)),(.int 1)])) AK)))) (AB (Ab (AB (AX An (aV 6) (aC (.int 1))) (AB (aC (.tup [(.int (-1)),(.int 1)])) (AB (aC (.tup [(.int 1),(.int 1)])) AK)))) AK))))))) (Aq 2))
   (Au (AX An (aV 2) (aV 1))))
abbrev KU:AS:=
 (Aa (Ao (aV 0) (Hl 4 (Ad (Aq 3) (Ad (Aq 4) (Ad (Aq 5) (Ad (Aq 6) Bb))))))
   ML)
def Dy:AF:=Ar 7 KU
def Oj {a x1:PV}{Q:PV->Prop}(h:KU ⟨λ_=>Q .non,Q,λ_=>False,λ_=>False⟩ [some (.val a),some (.val x1),none,none,none,none,none]):Dy [a,x1] Q:=h
abbrev MI:AS:=
 (Aa (B9 (BA (AX Mo (AX X1 (aV 1) (aC (.int 2))) (aC (.int 0)))) (Au (Ab (AB (AR 2 EF (AB (AX An (aV 6) (aV 2)) (AB (aV 3) AK))) (AB (AR 1 CU (AB (aV 9) AK)) (AB (aV 11) AK))))) BF)
   (Au (Ab (AB (AR 2 E8 (AB (AX An (aV 6) (aV 2)) (AB (aV 3) AK))) (AB (aV 9) (AB (AR 1 CU (AB (aV 11) AK)) AK))))))
abbrev MH:AS:=
 (Aa (Ao (AR 2 EF (AB (aV 8) (AB (aV 10) AK))) (Aq 3))
   MI)
abbrev MG:AS:=
 (Aa (Ao (AX An (AX An (aV 5) (aC (.int 2))) (aV 2)) (Hl 2 (Ad (Aq 10) (Ad (Aq 11) Bb))))
   MH)
abbrev MF:AS:=
 (Aa (Ao (AX An (AX An (aV 4) (aC (.int 2))) (aV 2)) (Hl 2 (Ad (Aq 8) (Ad (Aq 9) Bb))))
   MG)
abbrev ME:AS:=
 (Aa (Ao (AX QY (AX Js (aV 1) (aC (.int 6))) (aC (.int 2))) (Aq 2))
   MF)
abbrev KS:AS:=
 (Aa (Ao (aV 0) (Hl 4 (Ad (Aq 4) (Ad (Aq 5) (Ad (Aq 6) (Ad (Aq 7) Bb))))))
   ME)
def BP:AF:=Ar 12 KS
def CL {a x1:PV}{Q:PV->Prop}(h:KS ⟨λ_=>Q .non,Q,λ_=>False,λ_=>False⟩ [some (.val a),some (.val x1),none,none,none,none,none,none,none,none,none,none]):BP [a,x1] Q:=h
abbrev Op:AS:=
 (Au (lP (BA (AX UE (aV 1) (aC (.int 6)))) (AR 2 Dy (AB (aV 0) (AB (aV 1) AK))) (AR 2 BP (AB (aV 0) (AB (aV 1) AK)))))
def EK:AF:=Ar 2 Op
def Ti {a x1:PV}{Q:PV->Prop}(h:Op ⟨λ_=>Q .non,Q,λ_=>False,λ_=>False⟩ [some (.val a),some (.val x1)]):EK [a,x1] Q:=h
abbrev R4:AS:=
 (Aa (iJ 3 (aV 1) (aC (.int 0)))
   (Au (Ab (AB (Fn EZ (AB (aV 3) AK)) (AB (AX An (aV 0) (aC (.int 1))) (AB (AX An (aV 0) (aC (.int 2))) AK))))))
abbrev R3:AS:=
 (Aa (gJ 3 (aC (.int 0)) (AX Ci (AX An (AX An (aV 0) (aC (.int 0))) (aV 1)) (aV 4)))
   R4)
abbrev R1:AS:=
 (Aa (Fo (CH (N1 (AX An (aV 0) (aC (.int 0)))) 1 [5] (Aq 0) FC (AX Ci (aV 1) (aV 0))) 3)
   R3)
abbrev R0:AS:=
 (Aa (Ao (aV 2) (Hl 2 (Ad (Aq 4) (Ad (Aq 5) Bb))))
   R1)
def Dx:AF:=Ar 6 R0
def NV {a x1 b:PV}{Q:PV->Prop}(h:R0 ⟨λ_=>Q .non,Q,λ_=>False,λ_=>False⟩ [some (.val a),some (.val x1),some (.val b),none,none,none]):Dx [a,x1,b] Q:=h
abbrev IX:AS:=
 (Aa (GE (mM (aV 0)) (Aq 2) (Ao (AR 2 ES (AB (aV 2) (AB (aV 1) AK))) (Aq 1)))
   (Au (Fn EZ (AB (FB (CH (N1 (Fn Zl (AB (aV 0) AK))) 1 [1,0] (Aq 0) FC (Ab (AB (aV 0) (AB (AR 1 G5 (AB (AX QY (vU (aV 2) (aV 0)) (aV 1)) AK)) AK))))) AK))))
abbrev GK:AS:=
 (Aa (Ao (aC (.int 0)) (Aq 1))
   IX)
def CW:AF:=Ar 3 GK
def J5 {a:PV}{Q:PV->Prop}(h:GK ⟨λ_=>Q .non,Q,λ_=>False,λ_=>False⟩ [some (.val a),none,none]):CW [a] Q:=h
abbrev MM:AS:=
 (Aa (Ao (AR 2 EU (AB (aV 0) (AB (aV 1) AK))) (Hl 3 (Ad (Aq 2) (Ad (Aq 3) (Ad (Aq 4) Bb)))))
   (Au (AR 2 Hg (AB (AR 2 E8 (AB (aV 2) (AB (aV 4) AK))) (AB (AR 1 G5 (AB (aC (.int 2)) AK)) AK)))))
def CY:AF:=Ar 5 MM
def RW {a x1:PV}{Q:PV->Prop}(h:MM ⟨λ_=>Q .non,Q,λ_=>False,λ_=>False⟩ [some (.val a),some (.val x1),none,none,none]):CY [a,x1] Q:=h
abbrev GM:AS:=
 (Aa (B9 (EE (BA (AR 2 DL (AB (AX An (aV 2) (aC (.int 0))) (AB (AR 2 E8 (AB (AX An (aV 1) (aC (.int 1))) (AB (AX An (aV 4) (aC (.int 0))) AK))) AK))))) (Au (Ab (AB (Ab (AB (aC (.int 1)) (AB (aC (.tup [(.int 1),(.int 1)])) AK))) (AB (Ab (AB (aC (.int 2)) (AB (aC (.tup [(.int 1),(.int 1)])) AK))) (AB (Ab (AB (aC (.int 4)) (AB (aC (.tup [(.int 1),(.int 1)])) AK))) AK))))) BF)
   (Au (aC .non)))
abbrev GL:AS:=
 (Aa (B9 (EE (BA (AR 2 DL (AB (AX An (aV 1) (aC (.int 0))) (AB (AR 2 E8 (AB (AX An (aV 2) (aC (.int 1))) (AB (AX An (aV 4) (aC (.int 1))) AK))) AK))))) (Au (Ab (AB (Ab (AB (aC (.int 0)) (AB (aC (.tup [(.int 1),(.int 1)])) AK))) (AB (Ab (AB (aC (.int 3)) (AB (aC (.tup [(.int 1),(.int 1)])) AK))) (AB (Ab (AB (aC (.int 5)) (AB (aC (.tup [(.int 1),(.int 1)])) AK))) AK))))) BF)
   GM)
abbrev Er:AS:=
 (Aa (Ao (aV 0) (Hl 4 (Ad (Aq 1) (Ad (Aq 2) (Ad (Aq 3) (Ad (Aq 4) Bb))))))
   GL)
def Bm:AF:=Ar 5 Er
def HL {a:PV}{Q:PV->Prop}(h:Er ⟨λ_=>Q .non,Q,λ_=>False,λ_=>False⟩ [some (.val a),none,none,none,none]):Bm [a] Q:=h
abbrev QD:AS:=
 (Aa (GE (N1 (aV 3)) (Aq 6) (GE (N1 (aV 4)) (Aq 7) (B9 (BA (AX rP (iK (AX An (aV 6) (aC (.int 2))) (AX An (aV 7) (aC (.int 2)))) (aV 2))) (FV 5 Jw (AB (AR 3 EJ (AB (aV 6) (AB (aV 7) (AB (aV 1) AK)))) AK)) BF)))
   (Au (aV 5)))
abbrev QC:AS:=
 (Aa (Fo (CH (N1 (aV 0)) 1 [1] (Aq 0) (BA (AX Mo (AX An (AX An (aV 0) (aC (.int 0))) (aV 1)) (aC (.int 0)))) (aV 0)) 5)
   QD)
abbrev QA:AS:=
 (Aa (Ao (FB (CH (N1 (aV 0)) 1 [1] (Aq 0) (BA (AX UE (AX An (AX An (aV 0) (aC (.int 0))) (aV 1)) (aC (.int 0)))) (aV 0))) (Aq 4))
   QC)
abbrev Ox:AS:=
 (Aa (Ao (FB (CH (N1 (aV 0)) 1 [1] (Aq 0) (BA (AX Xz (AX An (AX An (aV 0) (aC (.int 0))) (aV 1)) (aC (.int 0)))) (aV 0))) (Aq 3))
   QA)
def EM:AF:=Ar 8 Ox
def Tp {a x1 b:PV}{Q:PV->Prop}(h:Ox ⟨λ_=>Q .non,Q,λ_=>False,λ_=>False⟩ [some (.val a),some (.val x1),some (.val b),none,none,none,none,none]):EM [a,x1,b] Q:=h
abbrev P6:AS:=
 (Aa (Ao (AR 2 CY (AB (aV 3) (AB (aC (.int 1)) AK))) (Aq 5))
   (Au (Ab (AB (Ab (AB (aV 5) (AB (AR 2 CY (AB (FB (CH (N1 (aV 2)) 1 [5] (Aq 0) FC (AR 3 Dx (AB (aV 0) (AB (aC (.int 1)) (AB (aV 1) AK)))))) (AB (aC (.int 2)) AK))) AK))) (AB (aC .non) AK)))))
abbrev P5:AS:=
 (Aa (B9 (BA (AX Mp (aV 4) (aC .non))) (Au (Ab (AB (aC .non) (AB (AR 1 CW (AB (AX An (aV 4) (aC (.int 2))) AK)) AK)))) BF)
   P6)
abbrev P4:AS:=
 (Aa (Ao (AR 2 De (AB (aV 3) (AB (aC (.int 1)) AK))) (Aq 4))
   P5)
abbrev P3:AS:=
 (Aa (Ao (ZK 3 EM 2 (AB (aV 2) (AB (aC (.int 2)) AK))) (Aq 3))
   P4)
abbrev P0:AS:=
 (Aa (Ao (FB (CH (QP (AB (aC (.int 12)) AK)) 1 [0] (Aq 0) FC (AR 3 ET (AB (AR 2 EK (AB (aV 1) (AB (aV 0) AK))) (AB (AX An (aC (.tup [(.int 0),(.int 1),(.int 0),(.int 1),(.int 0),(.int 0),(.int 1),(.int 1),(.int 1),(.int 1),(.int 1),(.int 1)])) (aV 0)) (AB (aV 0) AK)))))) (Aq 2))
   P3)
abbrev Pz:AS:=
 (Aa (B9 (BA (AX Mp (aV 1) (aC .non))) (Au (Ab (AB (aC .non) (AB (aV 1) AK)))) BF)
   P0)
abbrev Ot:AS:=
 (Aa (Ao (AR 1 Bm (AB (aV 0) AK)) (Aq 1))
   Pz)
def FU:AF:=Ar 6 Ot
def Tk {a:PV}{Q:PV->Prop}(h:Ot ⟨λ_=>Q .non,Q,λ_=>False,λ_=>False⟩ [some (.val a),none,none,none,none,none]):FU [a] Q:=h
abbrev MQ:AS:=
 (Aa (GE (qF (AB (AR 1 DB (AB (AX An (aV 0) (aC (.int 0))) AK)) AK)) (Hl 2 (Ad (Aq 7) (Ad (Aq 8) Bb))) (GE (qF (AB (aV 5) AK)) (Hl 2 (Ad (Aq 9) (Ad (Aq 10) Bb))) (FV 6 Jw (AB (Ab (AB (aV 7) (AB (aV 9) (AB (Ab (AB (aV 8) (AB (aV 10) (AB (aV 3) (AB (aV 4) AK))))) AK)))) AK))))
   (Au (aV 6)))
abbrev MP:AS:=
 (Aa (Fo (C3 AK) 6)
   MQ)
abbrev MO:AS:=
 (Aa (Ao (AR 1 DB (AB (AX An (aV 1) (aC (.int 0))) AK)) (Aq 5))
   MP)
abbrev MN:AS:=
 (Aa (Ao (Ab (AB (AX An (AX An (aV 0) (aC (.int 1))) (aC (.int 2))) (AB (AX An (AX An (aV 1) (aC (.int 1))) (aC (.int 2))) AK))) (Aq 4))
   MO)
abbrev KW:AS:=
 (Aa (Ao (AR 3 EV (AB (aV 0) (AB (aV 1) (AB (aV 2) AK)))) (Aq 3))
   MN)
def A0:AF:=Ar 11 KW
def Ol {a x1 b:PV}{Q:PV->Prop}(h:KW ⟨λ_=>Q .non,Q,λ_=>False,λ_=>False⟩ [some (.val a),some (.val x1),some (.val b),none,none,none,none,none,none,none,none]):A0 [a,x1,b] Q:=h
abbrev LB:AS:=
 (Aa (B9 (BA (AX Mp (aV 7) (aC .non))) (Au (Ab (AB (aC (.str "meet")) (AB (AX An (aV 7) (aC (.int 0))) (AB (AX An (aV 7) (aC (.int 1))) AK))))) BF)
   (FV 3 Jw (AB (Ab (AB (aV 4) (AB (aV 5) (AB (aV 8) AK)))) AK)))
abbrev P7:AS:=
 (Aa (Ao (AR 1 FU (AB (aV 6) AK)) (Hl 2 (Ad (Aq 7) (Ad (Aq 8) Bb))))
   LB)
abbrev P8:AS:=
 (Aa (GE (N1 (AR 3 A0 (AB (aV 0) (AB (aV 1) (AB (aV 2) AK))))) (Hl 3 (Ad (Aq 4) (Ad (Aq 5) (Ad (Aq 6) Bb)))) P7)
   (Au (Ab (AB (aC (.str "apart")) (AB (Fn EZ (AB (aV 3) AK)) AK)))))
abbrev Ou:AS:=
 (Aa (Fo (C3 AK) 3)
   P8)
def DA:AF:=Ar 9 Ou
def Tl {a x1 b:PV}{Q:PV->Prop}(h:Ou ⟨λ_=>Q .non,Q,λ_=>False,λ_=>False⟩ [some (.val a),some (.val x1),some (.val b),none,none,none,none,none,none]):DA [a,x1,b] Q:=h
end PL
namespace PL
open PySem L2 PyProof.Rows
def Ub {a b:Rat}{Q:PV->Prop}(ha:Bd 8800 a)(hb:Bd 8800 b)(h:Q (.bl (decide (a<b)))):DL [fr a,fr b] Q:=by refine⟨.of ha.top hb.botI, .of hb.top ha.botI, ?_⟩;rw[<-nV] at h;exact h
def aZ {a b:Rat}{Q:PV->Prop}(c:b≠0)(ha:Bd 8000 a)(hb:Bd 100 b)(h:Q (fr (a/b))):Hg [fr a,fr b] Q:=by refine⟨.of ha.top hb.botI, .of ha.botI hb.top,rfl,Dg _ _ (DQ (Bs a) (U8 c)) (Al (CD (a:=(a.den:Int)) ha.botI hb.top) (by omega)) _ ?_⟩;rw[Hs] at h;exact h
instance (priority:=high){a b:Rat}{Q:PV->Prop}:ZJ (DL [fr a,fr b] Q) (Bd 8800 a/\Bd 8800 b) (Q (.bl (decide (a<b)))):=⟨λc h=>Ub c.1 c.2 h⟩
structure B3 where
 c0:Int
 c1:Int
 c2:Int
 s:Int
 w:List (Int×Int)
def Aw (p:B3):PV:= .tup [.tup [.int p.c0, .int p.c1, .int p.c2], .int p.s, .dk p.w]
def N2 (a:ke):Int:=if a then 2 else 1
def B3.pr (a:ke)(p:B3):Eh:=⟨p.c0,if a then p.c2 else p.c1,p.s,p.w⟩
structure Bf (N:Nat) (p:B3):Prop where
 a:p.c0.natAbs<2^N
 b:p.c1.natAbs<2^N
 c:p.c2.natAbs<2^N
 w:∀e∈p.w,e.2.natAbs<2^N
 l:p.w.length<=12
 s:p.s=0\/p.s=1
def Bf.pr {N:Nat}{p:B3}(h:Bf N p)(a:ke):cz N (p.pr a):=⟨h.a,by cases a;exact h.b;exact h.c,h.w,h.l,h.s⟩
instance{p:B3}:Ix (Aw p) 0 (.tup [.int p.c0, .int p.c1, .int p.c2]):=⟨rfl⟩
instance{p:B3}:Ix (Aw p) 1 (.int p.s):=⟨rfl⟩
instance{p:B3}:Ix (Aw p) 2 (.dk p.w):=⟨rfl⟩
def GS {a:ke}{p:B3}{Q:PV->Prop}(q:Q (.int (p.pr a).c1)):An (.tup [.int p.c0, .int p.c1, .int p.c2]) (.int (N2 a)) Q:=by cases a <;> exact q
def pB (p r:B3)(many more:Int):B3:=⟨many*p.c0+more*r.c0,many*p.c1+more*r.c1,many*p.c2+more*r.c2,max p.s r.s,BS more (BV many p.w) r.w⟩
def fq {p r:B3}{N:Nat}{many more:Int}(hp:Bf N p)(f:Bf N r)(h1:many.natAbs<2^N)(h2:more.natAbs<2^N)(hN:N<=10000){Q:PV->Prop}(q:Q (Aw (pB p r many more))):GR [Aw p, .int many,Aw r, .int more] Q:=by
 have d:∀x y:Int,x.natAbs<2^N->y.natAbs<2^N->MulOk x y:=λx y a b=> .of a b;have sl:(BV many p.w).length<=p.w.length:=Nf;have g:=hp.l;have h:=f.l;apply VR;repeat' array_get_dec
 refine⟨d _ _ h1 hp.a, ?_⟩;repeat' array_get_dec
 refine⟨d _ _ h2 f.a, ?_⟩;repeat' array_get_dec
 refine⟨d _ _ h1 hp.b, ?_⟩;repeat' array_get_dec
 refine⟨d _ _ h2 f.b, ?_⟩;repeat' array_get_dec
 refine⟨d _ _ h1 hp.c, ?_⟩;repeat' array_get_dec
 refine⟨d _ _ h2 f.c, ?_⟩;repeat' array_get_dec
 refine⟨⟨ABT rfl,ABT rfl,ABT rfl⟩, ?_⟩;repeat' array_get_dec
 refine⟨many,rfl,M9 (n:=12) g (by decide),λe he=>d _ _ h1 (hp.w e he), ?_⟩;show AX An (aV 2) (aC (.int 2)) [some (AV.val (Aw p)),some (AV.val (PV.int many)),some (AV.val (Aw r)),some (AV.val (PV.int more)),some (AV.val (PV.tup [PV.int (many*p.c0+more*r.c0),PV.int (many*p.c1+more*r.c1),PV.int (many*p.c2+more*r.c2)])),none,none,none] _;repeat' array_get_dec
 refine⟨more,rfl,M9 (n:=24) (by omega) (by decide),λe he=>d _ _ h2 (f.w e he), ?_⟩;simp only[ADF,AD5];repeat' array_get_dec
 exact q
def A7 (a:ke)(p r:B3):B3:=pB p r (-(r.pr a).c1) (p.pr a).c1
def PB {a:ke}{p r:B3}{N:Nat}(hp:Bf N p)(c:Bf N r)(hN:N<=10000){Q:PV->Prop}(q:Q (Aw (A7 a p r))):EJ [Aw p,Aw r, .int (N2 a)] Q:=by
 apply Th;repeat' array_get_dec
 refine GS ?_;repeat' array_get_dec
 refine GS ?_;repeat' array_get_dec
 exact fq hp c (by rw[AB0];exact(c.pr a).b) (hp.pr a).b hN q
def Pf {p:B3}(a:ke){Q:PV->Prop}(q:Q (.bl (HJ (p.pr a)))):Df [Aw p] Q:=by
 unfold HJ at q;have b:(p.pr a).c0=p.c0:=rfl;have c:(p.pr a).s=p.s:=rfl;rw[b,c] at q;apply RQ;repeat' array_get_dec
 .rename_i h;rw[AAP (.inl h)] at q;exact q
 .rename_i h1 h2;rw[show decide (p.c0<0\/p.c0=0/\p.s=1)=decide (p.s=1) by rw[AB4];omega] at q;exact q
 .rename_i h1 h2;rw[AAY (by omega)] at q;exact q
def JS {a:ke}{p:B3}{Q:PV->Prop}(q:Q (.tup [.int (Bg (p.pr a)).1, .int (Bg (p.pr a)).2])):DE [Aw p, .int (N2 a)] Q:=by
 unfold Bg at q;have b:(p.pr a).c0=p.c0:=rfl;rw[b] at q;apply To;repeat' array_get_dec
 refine GS ?_;generalize (p.pr a).c1=f at *;repeat' array_get_dec
 .rename_i h;rw[AAG h] at q;exact q
 .rename_i h;rw[AAF h] at q;exact q
def Tz {a:ke}{p r:B3}{N:Nat}(hp:Bf N p)(e:Bf N r)(hN:N<=10000){Q:PV->Prop}(q:Q (.bl (Nu (p.pr a) (r.pr a)))):DM [Aw p,Aw r, .int (N2 a)] Q:=by
 obtain⟨b,c⟩:=Gw (hp.pr a);obtain⟨d,b2⟩:=Gw (e.pr a);unfold Nu at q;apply NU;ac_rfl;refine JS ?_;ac_rfl;refine JS ?_;ac_rfl;refine Mf b c d b2 hN ?_;ac_rfl
 .rename_i h;refine GS ?_;ac_rfl;rw[AAG h] at q;exact q
 rename_i h;rw[AAF h] at q;refine Mf d b2 b c hN ?_;ac_rfl
 .rename_i h;refine GS ?_;ac_rfl;rw[AAG h] at q;exact q
 .rename_i h;rw[AAF h] at q;exact q
instance{p:B3}{Q:PV->Prop}:Wp (X0 (Aw p) .non Q) (Q (.bl false)):=⟨id⟩
def RA:ki B3->PV|none=> .non|some p=>Aw p
def Gv (a:ke)(sg:Int)(o:ki B3)(p:B3):ki B3:=if 0<(p.pr a).c1*sg then (match o with | none=>some p|some r=>if Nu (p.pr a) (r.pr a)=true then some p else some r) else o
def Cd (a:ke)(sg:Int)(ps:kn B3):ki B3:=ps.foldl (Gv a sg) none
def Vq {a:ke}{sg:Int}{o:ki B3}{p:B3}:(Gv a sg o p).map (B3.pr a)=Nv sg (o.map (B3.pr a)) (p.pr a):=by
 unfold Gv Nv;split
 .cases o with
  | none=>rfl
  | some r=>
    show Option.map _ (if Nu (p.pr a) (r.pr a)=true then some p else some r)=if Nu (p.pr a) (r.pr a)=true then some (p.pr a) else some (r.pr a)
    cases Nu (p.pr a) (r.pr a) <;> rfl
 .rfl
def Vm (a:ke)(sg:Int)(b:kn B3)(p:B3):Cd a sg (b ++ [p])=Gv a sg (Cd a sg b) p:=by unfold Cd;rw[ACh];rfl
def Vn {a:ke}{sg:Int}{ps:kn B3}:(Cd a sg ps).map (B3.pr a)=tight sg (ps.map (B3.pr a)):=by
 have key:∀(ps:kn B3) (o:ki B3),(ps.foldl (Gv a sg) o).map (B3.pr a)=(ps.map (B3.pr a)).foldl (Nv sg) (o.map (B3.pr a)):=by
  intro ps;induction ps with
  | nil=>intro o;rfl
  | cons p ps b=> intro o;rw[ABW,b,Vq];rfl
 exact key ps none
def Dp {a:ke}{sg:Int}:∀{ps:kn B3} {r:B3},Cd a sg ps=some r->r∈ps:=by
 have key:∀(ps:kn B3) (o:ki B3) (r:B3),ps.foldl (Gv a sg) o=some r->r∈ps\/o=some r:=by
  intro ps;induction ps with
  | nil=>intro o r h;exact .inr h
  | cons p ps b=>
    intro o r h;rcases b _ _ h with h|h
    .exact .inl (by simp[h])
    .unfold Gv at h;split at h
     .cases o with
      | none=>cases h;exact .inl (by simp)
      | some q=>
        dsimp only at h;split at h
        .cases h;exact .inl (by simp)
        .exact .inr h
     .exact .inr h
 intro ps r h;rcases key ps none r h with h|h
 .exact h
 .cases h
def EI {v:PV}{a:ke}{ps:kn B3}{N:Nat}{sg:Int}(hv:v= .lst (ps.map Aw))(h:sg=1\/sg= -1)(ok:∀p∈ps,Bf N p)(hN:N<=10000)(hl:ps.length<=1000){Q:PV->Prop}(q:Q (RA (Cd a sg ps))):CV [v, .int (N2 a), .int sg] Q:=by
 subst hv;apply RV;ac_rfl;refine Cj Aw (λd vs τ=>∃f,τ= [some (.val (.lst (ps.map Aw))),some (.val (.int (N2 a))),some (.val (.int sg)),some (.val (RA (Cd a sg d))),f]) ?_ ?_ ⟨_,rfl⟩
 .rintro τ ⟨f,rfl⟩;ac_rfl;exact q
 .rintro d p vs e τ R i ⟨f,rfl⟩;have j:Bf N p:=ok p (by rw[<-e];simp);have k:∀x∈d,Bf N x:=λx hx=>ok x (by rw[<-e];simp[hx]);have c:=i [some (.val (.lst (ps.map Aw))),some (.val (.int (N2 a))),some (.val (.int sg)),some (.val (RA (Cd a sg (d ++ [p])))),some (.val (Aw p))] ⟨_,rfl⟩;clear i;rw[Vm] at c;unfold Gv at c;have m1:MulOk (p.pr a).c1 sg:= .of (m:=10000) (n:=10000) (Al (j.pr a).b hN) (Al (m:=1) (by omega) (by decide));cases g:Cd a sg d with
  | none=>
    rw[g] at c;rw[show RA none=PV.non from rfl];ac_rfl;refine GS ?_;ac_rfl
    .rename_i z;rw[AAG z] at c;exact c
    .rename_i z;rw[AAF z] at c;exact c
  | some r=>
    rw[g] at c;have l:=k r (Dp g);rw[show RA (some r)=Aw r from rfl];ac_rfl;refine GS ?_;ac_rfl
    .rename_i z;rw[AAG z] at c;refine Tz j l hN ?_;dsimp only at c;cases hb:Nu (p.pr a) (r.pr a) with
     | true=> rw[hb,AAG rfl] at c;ac_rfl;exact c
     | false=> rw[hb,AAF (by decide)] at c;ac_rfl;exact c
    .rename_i z;rw[AAF z] at c;exact c
def Yb {v:PV}{a:ke}{ps:kn B3}{N:Nat}{l h:B3}(hv:v= .lst (ps.map Aw))(ok:∀p∈ps,Bf N p)(hN:N<=8900)(hl:ps.length<=1000)(b:Cd a 1 ps=some l)(c:Cd a (-1) ps=some h)(d:(l.pr a).c1≠0)(e:(h.pr a).c1≠0){Q:PV->Prop}(q:Q (.tup [fr (DH (l.pr a)), .int (1-l.s),fr (DH (h.pr a))])):EU [v, .int (N2 a)] Q:=by have f:=Gw ((ok l (Dp b)).pr a);have b2:=Gw ((ok h (Dp c)).pr a);have g:=(Cz d).1;have i:=(Cz e).1;rw[<-Vp d,<-Vp e] at q;apply RT;ac_rfl;refine EI hv (.inl rfl) ok (by omega) hl ?_;rw[b,show RA (some l)=Aw l from rfl];ac_rfl;refine JS ?_;ac_rfl;refine Dg _ _ (by omega) (Al f.2 hN) _ ?_;ac_rfl;refine EI hv (.inr rfl) ok (by omega) hl ?_;rw[c,show RA (some h)=Aw h from rfl];ac_rfl;refine JS ?_;ac_rfl;refine Dg _ _ (by omega) (Al b2.2 hN) _ ?_;ac_rfl;exact q
def rL:Bd 100 ((2:Int):Rat):=by constructor <;> decide
def Pq {v:PV}{a:ke}{ps:kn B3}{N:Nat}{l h:B3}(hv:v= .lst (ps.map Aw))(ok:∀p∈ps,Bf N p)(hN:N<=8900)(hl:ps.length<=1000)(b:Cd a 1 ps=some l)(c:Cd a (-1) ps=some h)(d:(l.pr a).c1≠0)(e:(h.pr a).c1≠0)(f:Bd 3900 (DH (l.pr a)))(b2:Bd 3900 (DH (h.pr a))){Q:PV->Prop}(q:Q (fr ((DH (l.pr a)+DH (h.pr a))/2))):CY [v, .int (N2 a)] Q:=by apply RW;ac_rfl;refine Yb hv ok hN hl b c d e ?_;ac_rfl;refine aZ (by grind) ((f.add b2).mono (by decide)) rL ?_;exact q
def SY {p:Eh}(h:p.c1=0)(t u:Rat):holds p t↔holds p u:=by
 unfold holds LR;rw[h];have e:∀t:Rat,(p.c0:Rat)+((0:Int):Rat)*t=p.c0:=λt=>by grind
 rw[e,e]
def Pb {ps:kn Eh}{l h:Eh}(hs:∀p∈ps,p.s=0\/p.s=1)(g:tight 1 ps=some l)(i:tight (-1) ps=some h){t0:Rat}(a:∀p∈ps,holds p t0):∀p∈ps,holds p ((DH l+DH h)/2):=by
 have b:=(DG (.inl rfl) ps.length ps rfl hs).so l g;have c:=(DG (.inr rfl) ps.length ps rfl hs).so h i;have d:0<l.c1:=by have:=b.2.1;omega
 have f:h.c1<0:=by have:=c.2.1;omega
 have m:=(Di d t0).mp (a l b.1);have n:=(C5 f t0).mp (a h c.1);by_cases o:DH l<DH h
 .have j:holds l ((DH l+DH h)/2):=(Di d _).mpr (.inl (by grind));have k:holds h ((DH l+DH h)/2):=(C5 f _).mpr (.inl (by grind));intro p hp;rcases AD6 p.c1 0 with z|z|z
  .exact c.2.2 p hp (by omega) _ k
  .exact (SY z _ _).mp (a p hp)
  .exact b.2.2 p hp (by omega) _ j
 .have e:(DH l+DH h)/2=t0:=by grind
  rw[e];exact a
def Kh {l h:Eh}(b:0<l.c1)(c:h.c1<0)(u:l.s=0\/l.s=1)(v:h.s=0\/h.s=1)(w:kn (Int×Int)):HJ ⟨-h.c1*l.c0+l.c1*h.c0, -h.c1*l.c1+l.c1*h.c1,max l.s h.s,w⟩=false↔∃t,holds l t/\holds h t:=by
 have g:(0:Rat)<l.c1:=by exact_mod_cast b
 have i:(0:Rat) < -(h.c1:Rat):=by
  have:(h.c1:Rat)<0:=by exact_mod_cast c
  grind
 have k:((-h.c1*l.c0+l.c1*h.c0:Int):Rat)=(l.c1 * -(h.c1:Rat))*(DH h-DH l):=by
  push_cast
  rw[(Cz (p:=l) (by omega)).2.2,(Cz (p:=h) (by omega)).2.2];grind
 have pos:=ACR g i;have key:DH l<DH h↔0 < -h.c1*l.c0+l.c1*h.c0:=by rw[<-AB7,k,ABn,AB8 pos];grind
 have a:DH l=DH h↔ -h.c1*l.c0+l.c1*h.c0=0:=by
  rw[<-ADN,k,ABn,ABY];constructor
  .intro e;right;grind
  .rintro (z|z)
   .grind
   .grind
 unfold HJ;rw[AD7];dsimp only;constructor
 .intro n;rcases Int.lt_or_eq_of_le (show 0<= -h.c1*l.c0+l.c1*h.c0 by omega) with z|z
  .have m:=key.mpr z;exact⟨(DH l+DH h)/2,(Di b _).mpr (.inl (by grind)),(C5 c _).mpr (.inl (by grind))⟩
  .have j:=a.mpr z.symm;have m0:l.s=0/\h.s=0:=by omega
   exact⟨DH l,(Di b _).mpr (.inr ⟨rfl,m0.1⟩),(C5 c _).mpr (.inr ⟨j.symm,m0.2⟩)⟩
 .rintro ⟨t,o,r⟩;have d:=(Di b t).mp o;have f:=(C5 c t).mp r;by_cases m:DH l<DH h
  .have:=key.mp m;omega
  .have j:DH l=DH h:=by grind
   have:=a.mp j;have:l.s=0:=by
    rcases d with d|d
    .exfalso;grind
    .exact d.2
   have:h.s=0:=by
    rcases f with f|f
    .exfalso;grind
    .exact f.2
   omega
def X2 {v:PV}{a:ke}{ps:kn B3}{N:Nat}(hv:v= .lst (ps.map Aw))(ok:∀p∈ps,Bf N p)(hN:N<=10000)(hl:ps.length<=1000){l h:B3}(k:Cd a 1 ps=some l)(m:Cd a (-1) ps=some h){Q:PV->Prop}(s:(∀p∈ps,(p.pr a).c1=0->HJ (p.pr a)=false)->HJ ((A7 a l h).pr a)=false->Q .non)(n:∀p,(p∈ps/\(p.pr a).c1=0)\/p=A7 a l h->HJ (p.pr a)=true->Q (Aw p)):De [v, .int (N2 a)] Q:=by
 subst hv;apply RP;ac_rfl;refine Cj Aw (λo vs τ=>(∀p∈o,(p.pr a).c1=0->HJ (p.pr a)=false)/\∃i f g,τ= [some (.val (.lst (ps.map Aw))),some (.val (.int (N2 a))),i,f,g]) ?_ ?_ ⟨by simp,_,_,_,rfl⟩
 .rintro τ ⟨j,i,f,g,rfl⟩;ac_rfl;refine EI rfl (.inr rfl) ok (by omega) hl ?_;rw[m,show RA (some h)=Aw h from rfl];ac_rfl;refine EI rfl (.inl rfl) ok (by omega) hl ?_;rw[k,show RA (some l)=Aw l from rfl];ac_rfl;refine PB (ok l (Dp k)) (ok h (Dp m)) hN ?_;have f1:=n (A7 a l h) (.inr rfl);have t:=s j;generalize A7 a l h=b at *;ac_rfl;refine Pf a ?_;cases c:HJ (b.pr a) with
  | true=> ac_rfl;exact f1 c
  | false=> ac_rfl;exact t c
 .rintro o p vs e τ R r ⟨j,i,f,g,rfl⟩;have u:p∈ps:=by rw[<-e];simp
  have d:((p.pr a).c1=0->HJ (p.pr a)=false)->R [some (AV.val (PV.lst (List.map Aw ps))),some (AV.val (PV.int (N2 a))),some (AV.val (Aw p)),f,g] :=λh=>r _ ⟨λx hx=>by
   rcases AAQ.mp hx with hx|hx
   .exact j x hx
   .rw [AAT.mp hx];exact h,_,_,_,rfl⟩
  clear r;ac_rfl;refine GS ?_;ac_rfl
  .rename_i z;refine Pf a ?_;cases c:HJ (p.pr a) with
   | true=> ac_rfl;exact n p (.inl ⟨u,z⟩) c
   | false=> ac_rfl;exact d λ_=>c
  .rename_i z;exact d λh=>absurd h z
def aT {o:ki Nat}{R:Nat->Prop}(j:Nat)(h:o=some j)(q:R j):qW o R:=by subst h;exact q
def C6 (a:ke)(r:Rat)(p:B3):B3:=if a then ⟨r.den*p.c0+p.c2*r.num,r.den*p.c1,0,p.s,p.w⟩ else ⟨r.den*p.c0+p.c1*r.num,0,r.den*p.c2,p.s,p.w⟩
def VJ {a:ke}{p:B3}{r:Rat}{N M:Nat}(hp:Bf N p)(d:Bd M r)(hN:N<=100000)(e:M<=100000){Q:PV->Prop}(q:Q (Aw (C6 a r p))):Dx [Aw p, .int (N2 a),fr r] Q:=by
 have m0:MulOk (r.den:Int) p.c0:= .of d.botI hp.a;have m1:MulOk (r.den:Int) p.c1:= .of d.botI hp.b;have m2:MulOk (r.den:Int) p.c2:= .of d.botI hp.c;have m3:MulOk (p.pr a).c1 r.num:= .of (hp.pr a).b d.top;cases a
 .show Dx [Aw p, .int 1,fr r] Q;have m3:MulOk p.c1 r.num:=m3;apply NV;repeat' array_get_dec
  refine⟨ADM 0,(by show (0:Int)<3;decide), ?_⟩;show AX Ci (AX An (AX An (aV 0) (aC (PV.int 0))) (aV 1)) (aV 4) _ _;simp only[ADF,AD5,Int.toNat_zero];repeat' array_get_dec
  refine aT 1 (by simp[YG]) ?_;show Tt _ 3 (AV.own [PV.int (r.den*p.c0+p.c1*r.num),PV.int 0,PV.int (r.den*p.c2)]) _;repeat' array_get_dec
  exact q
 .show Dx [Aw p, .int 2,fr r] Q;have m3:MulOk p.c2 r.num:=m3;apply NV;repeat' array_get_dec
  refine⟨ADM 0,(by show (0:Int)<3;decide), ?_⟩;show AX Ci (AX An (AX An (aV 0) (aC (PV.int 0))) (aV 1)) (aV 4) _ _;simp only[ADF,AD5,Int.toNat_zero];repeat' array_get_dec
  refine aT 2 (by simp[YG]) ?_;show Tt _ 3 (AV.own [PV.int (r.den*p.c0+p.c2*r.num),PV.int (r.den*p.c1),PV.int 0]) _;repeat' array_get_dec
  exact q
def jS (x:PV)(R:Int->Prop):Prop:=match x with | .dk [(i,_)] =>R i|_=>False
instance{i v:Int}{R:Int->Prop}:Wp (jS (.dk [(i,v)]) R) (R i):=⟨id⟩
instance{a b:AE}{τ:A6}{Q:PV->Prop}:Wp (iK a b τ Q) (a τ λx=>jS x λi=>b τ λy=>jS y λj=>Q (.int (qY i j))):=⟨id⟩
def Ef (a:ke)(ps:kn B3):kn B3:=ps.filter (λp=>decide ((p.pr a).c1=0))++(ps.filter λp=>decide (0<(p.pr a).c1)).flatMap λl=>(ps.filter λp=>decide ((p.pr a).c1<0)).map λh=>A7 a l h
def Wn {m:kn (Int×Int)}(h:m.length=1):∃i v,m= [(i,v)] :=by
 match m,h with
 | [(i,v)],_=>exact⟨i,v,rfl⟩
def lC (i j:Int):qY i j<=2:=by unfold qY;split <;> decide
def UC {v:PV}{a:ke}{ps:kn B3}{N:Nat}(hv:v= .lst (ps.map Aw))(ok:∀p∈ps,Bf N p)(one:∀p∈ps,p.w.length=1)(hN:N<=10000)(hl:ps.length<=20){Q:PV->Prop}(q:Q (.lst ((Ef a ps).map Aw))):EM [v, .int (N2 a), .int 2] Q:=by
 subst hv;unfold Ef at q;apply Tp;ac_rfl;refine EW Aw Aw (λp=>decide (0<(p.pr a).c1)) (λ_=>True) (λp _ R N h1 h2=> ?_) ps [] (λ_ _=>trivial) ?_
 .ac_rfl;refine GS ?_;ac_rfl
  .rename_i h;exact h1 (AAP h)
  .rename_i h;exact h2 (AAY h)
 rw[AAx];have f:∀p∈(ps.filter λp=>decide (0<(p.pr a).c1)),p∈ps:=λp hp=>(AAZ.mp hp).1;have y:(ps.filter λp=>decide (0<(p.pr a).c1)).length<=20:=AAX (ACS ..) hl;generalize (ps.filter λp=>decide (0<(p.pr a).c1))=lows at *;ac_rfl;refine EW Aw Aw (λp=>decide ((p.pr a).c1<0)) (λ_=>True) (λp _ R N h1 h2=> ?_) ps [] (λ_ _=>trivial) ?_
 .ac_rfl;refine GS ?_;ac_rfl
  .rename_i h;exact h1 (AAP h)
  .rename_i h;exact h2 (AAY h)
 rw[AAx];have g:∀p∈(ps.filter λp=>decide ((p.pr a).c1<0)),p∈ps:=λp hp=>(AAZ.mp hp).1;have m:(ps.filter λp=>decide ((p.pr a).c1<0)).length<=20:=AAX (ACS ..) hl;generalize (ps.filter λp=>decide ((p.pr a).c1<0))=F9 at *;ac_rfl;refine EW Aw Aw (λp=>decide ((p.pr a).c1=0)) (λ_=>True) (λp _ R N h1 h2=> ?_) ps [] (λ_ _=>trivial) ?_
 .ac_rfl;refine GS ?_;ac_rfl
  .rename_i h;exact h1 (AAP h)
  .rename_i h;exact h2 (AAY h)
 rw[AAx];have z:(ps.filter λp=>decide ((p.pr a).c1=0)).length<=20:=AAX (ACS ..) hl;generalize (ps.filter λp=>decide ((p.pr a).c1=0))=zs at *;ac_rfl;refine Cj Aw (λb vs τ=>∃n c,τ= [some (.val (.lst (ps.map Aw))),some (.val (.int (N2 a))),some (.val (.int 2)),some (.val (.lst (lows.map Aw))),some (.val (.lst (F9.map Aw))),some (.own ((zs++b.flatMap λl=>F9.map λh=>A7 a l h).map Aw)),n,c]) ?_ ?_ ⟨none,none,by simp⟩
 .rintro τ ⟨n,c,rfl⟩;ac_rfl;exact q
 .rintro b l vs e τ R o ⟨n,c,rfl⟩;have r:l∈lows:=by rw[<-e];simp
  have ul:b.length<=20:=by have:=congrArg List.length e;simp at this;omega
  ac_rfl;refine Cj Aw (λd xs τ=>∃c,τ= [some (.val (.lst (ps.map Aw))),some (.val (.int (N2 a))),some (.val (.int 2)),some (.val (.lst (lows.map Aw))),some (.val (.lst (F9.map Aw))),some (.own (((zs++b.flatMap λl=>F9.map λh=>A7 a l h)++d.map λh=>A7 a l h).map Aw)),some (.val (Aw l)),c]) ?_ ?_ ⟨c,by simp⟩
  .rintro τ ⟨c,rfl⟩;exact o _ ⟨some (.val (Aw l)),c,by simp[List.flatMap_append]⟩
  .rintro d h xs s τ F t ⟨c,rfl⟩;have u:h∈F9:=by rw[<-s];simp
   have G:d.length<=20:=by have:=congrArg List.length s;simp at this;omega
   obtain⟨i,H,B⟩:=Wn (one l (f l r));obtain⟨j,I,C⟩:=Wn (one h (g h u));have J:=lC i j;have k:=t [some (.val (.lst (ps.map Aw))),some (.val (.int (N2 a))),some (.val (.int 2)),some (.val (.lst (lows.map Aw))),some (.val (.lst (F9.map Aw))),some (.own (((zs++b.flatMap λl=>F9.map λh=>A7 a l h)++(d ++ [h]).map λh=>A7 a l h).map Aw)),some (.val (Aw l)),some (.val (Aw h))] ⟨_,rfl⟩;clear t o;have D:∀A:kn B3,(A++(d ++ [h]).map λh=>A7 a l h).map Aw=(A++d.map λh=>A7 a l h).map Aw ++ [Aw (A7 a l h)] :=λA=>by simp
   rw[D] at k;have len:(((zs++b.flatMap λl=>F9.map λh=>A7 a l h)++d.map λh=>A7 a l h).map Aw).length<=1000:=by
    have:(b.flatMap λl=>F9.map λh=>A7 a l h).length<=20*20:=by
     rw[ACl];have:∀b:kn B3,(b.map λl=>(F9.map λh=>A7 a l h).length).sum=b.length*F9.length:=λb=>by
      induction b with
      | nil=>simp
      | cons x b E=>simp[AAM,AAo,ABU] at E ⊢;omega
     rw[this];exact ABE ul m
    simp only[AAO,AAi];omega
   generalize (((zs++b.flatMap λl=>F9.map λh=>A7 a l h)++d.map λh=>A7 a l h).map Aw)=told at *;ac_rfl;rw[B];ac_rfl;rw[C];ac_rfl
   .refine PB (ok l (f l r)) (ok h (g h u)) hN ?_;ac_rfl;refine⟨M9 len (by decide), ?_⟩;ac_rfl;exact k
   .exfalso;omega
def h3 (p:B3)(s t:Rat):Prop:=0<(p.c0:Rat)+p.c1*s+p.c2*t\/((p.c0:Rat)+p.c1*s+p.c2*t=0/\p.s=0)
def WL (r:Rat):(0:Rat)<(r.den:Rat)/\(r.num:Rat)=(r.den:Rat)*r:=by
 have hd:(0:Rat)<(r.den:Rat):=by exact_mod_cast r.den_pos
 refine⟨hd, ?_⟩;have:(r.num:Rat)/(r.den:Rat)=r:=by
  have:=AA4 r;rw[ACQ] at this
  exact_mod_cast this
 have e:(r.num:Rat)/(r.den:Rat)*(r.den:Rat)=(r.num:Rat):=AD3 (by grind);rw[this] at e;grind
def Fc {d x:Rat}(h:0<d):(0<d*x↔0<x)/\(d*x=0↔x=0):=by refine⟨AB8 h, ?_⟩;rw[ABY];grind
def CK {p:B3}{r t:Rat}:holds ((C6 false r p).pr true) t↔h3 p r t:=by
 obtain⟨hd,a⟩:=WL r;have e:LR ((C6 false r p).pr true) t=(r.den:Rat)*((p.c0:Rat)+p.c1*r+p.c2*t):=by
  show (((r.den:Int)*p.c0+p.c1*r.num:Int):Rat)+(((r.den:Int)*p.c2:Int):Rat)*t=_
  push_cast
  rw[a];grind
 unfold holds h3;rw[e,(Fc hd).1,(Fc hd).2];rfl
def Pg {p:B3}{s t:Rat}(h:p.c2=0):holds (p.pr false) s↔h3 p s t:=by
 have e:LR (p.pr false) s=(p.c0:Rat)+p.c1*s+p.c2*t:=by show (p.c0:Rat)+(p.c1:Rat)*s=_;rw[h];grind
 unfold holds h3;rw[e];rfl
def Kg {l h:B3}(s:Rat)(f:0<l.c2)(g:h.c2<0)(i:l.s=0\/l.s=1)(j:h.s=0\/h.s=1):holds ((A7 true l h).pr false) s↔∃t,h3 l s t/\h3 h s t:=by
 obtain⟨hd,k⟩:=WL s;have hi:(0:Int)<s.den:=by exact_mod_cast s.den_pos
 have m:=Kh (l:=(C6 false s l).pr true) (h:=(C6 false s h).pr true) (ABK hi f) (by show (s.den:Int)*h.c2<0;exact Int.mul_neg_of_pos_of_neg hi g) i j [];have e:(∃t,holds ((C6 false s l).pr true) t/\holds ((C6 false s h).pr true) t)↔∃t,h3 l s t/\h3 h s t:=by
  constructor
  .rintro ⟨t,a,b⟩;exact⟨t,CK.mp a,CK.mp b⟩
  .rintro ⟨t,a,b⟩;exact⟨t,CK.mpr a,CK.mpr b⟩
 rw[<-e,<-m];unfold HJ;rw[AD7];dsimp only;have c:(((-((C6 false s h).pr true).c1*((C6 false s l).pr true).c0+((C6 false s l).pr true).c1*((C6 false s h).pr true).c0:Int)):Rat)=((s.den:Rat)*s.den)*LR ((A7 true l h).pr false) s:=by
  show ((-((s.den:Int)*h.c2)*((s.den:Int)*l.c0+l.c1*s.num)+((s.den:Int)*l.c2)*((s.den:Int)*h.c0+h.c1*s.num):Int):Rat)=((s.den:Rat)*s.den)*((((-h.c2)*l.c0+l.c2*h.c0:Int):Rat)+(((-h.c2)*l.c1+l.c2*h.c1:Int):Rat)*s)
  push_cast
  rw[k];grind
 generalize (-((C6 false s h).pr true).c1*((C6 false s l).pr true).c0+((C6 false s l).pr true).c1*((C6 false s h).pr true).c0:Int)=V at *;have d:=ACR hd hd;have n:0<V↔0<LR ((A7 true l h).pr false) s:=by rw[<-(Fc d).1,<-c,<-ABn,AB7]
 have o:V=0↔LR ((A7 true l h).pr false) s=0:=by rw[<-(Fc d).2,<-c,<-ABn,ADN]
 unfold holds;rw[<-n,<-o];show (0<V\/V=0/\max l.s h.s=0)↔¬(V<0\/V=0/\max l.s h.s=1);omega
def fm {ps:kn B3}(hs:∀p∈ps,p.s=0\/p.s=1)(lo:∃p∈ps,0<p.c2)(hi:∃p∈ps,p.c2<0)(s:Rat):(∀p∈Ef true ps,holds (p.pr false) s)↔∃t,∀p∈ps,h3 p s t:=by
 have d:(0:Int)<s.den:=by exact_mod_cast s.den_pos
 constructor
 .intro b;have n:∀p∈ps,p.c2=0->holds (p.pr false) s:=λp hp z=>b p (by unfold Ef;exact AAQ.mpr (.inl (AAZ.mpr ⟨hp,AAP z⟩)));have cs:∀l∈ps,∀h∈ps,0<l.c2->h.c2<0->∃t,h3 l s t/\h3 h s t:=λl hl h a f g=>(Kg s f g (hs l hl) (hs h a)).mp (b _ (by
   unfold Ef;exact AAQ.mpr (.inr (AA7.mpr ⟨l,AAZ.mpr ⟨hl,AAP f⟩,AAK.mpr ⟨h,AAZ.mpr ⟨a,AAP g⟩,rfl⟩⟩))))
  have i:∀q∈ps.map (λp=>(C6 false s p).pr true),q.s=0\/q.s=1:=λq i=>by obtain⟨p,hp,rfl⟩:=AAK.mp i;exact hs p hp
  have j:=DG (.inl rfl) _ (ps.map λp=>(C6 false s p).pr true) rfl i;have k:=DG (.inr rfl) _ (ps.map λp=>(C6 false s p).pr true) rfl i;have c:∀p:B3,((C6 false s p).pr true).c1=s.den*p.c2:=λp=>rfl;obtain⟨o,r⟩:∃l,tight 1 (ps.map λp=>(C6 false s p).pr true)=some l:=by
   cases e:tight 1 (ps.map λp=>(C6 false s p).pr true) with
   | some l=>exact⟨l,rfl⟩
   | none=> obtain⟨p,hp,h⟩:=lo;refine absurd ?_ (j.no e _ (AAK.mpr ⟨p,hp,rfl⟩));rw[c,ABt];exact ABK d h
  obtain⟨h',u⟩:∃l,tight (-1) (ps.map λp=>(C6 false s p).pr true)=some l:=by
   cases e:tight (-1) (ps.map λp=>(C6 false s p).pr true) with
   | some l=>exact⟨l,rfl⟩
   | none=> obtain⟨p,hp,h⟩:=hi;refine absurd ?_ (k.no e _ (AAK.mpr ⟨p,hp,rfl⟩));rw[c];have:=ABK d (show 0 < -p.c2 by omega);grind
  obtain⟨m1,m,v⟩:=j.so o r;obtain⟨m2,w,y⟩:=k.so h' u;obtain⟨l,hl,rfl⟩:=AAK.mp m1;obtain⟨h,a,rfl⟩:=AAK.mp m2;have sg:∀x:Int,(0<s.den*x↔0<x):=λx=>⟨λz=>Int.pos_of_mul_pos_right z d,λz=>ABK d z⟩;have f:0<l.c2:=by rw[c,ABt,sg] at m;exact m
  have g:h.c2<0:=by rw[c,show (s.den:Int)*h.c2 * -1=s.den * -h.c2 by grind,sg] at w;omega
  obtain⟨t,A,B⟩:=cs l hl h a f g;refine⟨t,λp hp=> ?_⟩;rcases AD6 p.c2 0 with z|z|z
  .refine CK.mp (y _ (AAK.mpr ⟨p,hp,rfl⟩) ?_ t (CK.mpr B));rw[c,show (s.den:Int)*p.c2 * -1=s.den * -p.c2 by grind,sg];omega
  .exact (Pg z).mp (n p hp z)
  .refine CK.mp (v _ (AAK.mpr ⟨p,hp,rfl⟩) ?_ t (CK.mpr A));rw[c,ABt,sg];exact z
 .rintro ⟨t,b⟩ p hp;unfold Ef at hp;rcases AAQ.mp hp with hp|hp
  .obtain ⟨hp,z⟩:=AAZ.mp hp;exact(Pg (t:=t) (AA5 z)).mpr (b p hp)
  .obtain ⟨l,hl,hp⟩:=AA7.mp hp;obtain⟨h,a,rfl⟩:=AAK.mp hp;obtain⟨hl,C⟩:=AAZ.mp hl;obtain⟨a,D⟩:=AAZ.mp a;exact(Kg s (AA5 C) (AA5 D) (hs l hl) (hs h a)).mpr ⟨t,b l hl,b h a⟩
def Oc (a b c:Rat)(s n:Int):B3:=⟨Rv (Fd [a,b,c]) a,Rv (Fd [a,b,c]) b,Rv (Fd [a,b,c]) c,s, [(n,(Fd [a,b,c] :Nat))]⟩
def VZ {a b c:Rat}{W:Nat}(ba:Bd W a)(j:Bd W b)(f:Bd W c)(i:W<=1400){Q:PV->Prop}(q:Q (.int (Fd [a,b,c] :Nat))):CG [.tup [fr a,fr b,fr c]] Q:=by
 have hx:∀x∈ [a,b,c],Bd W x:=by simp;exact⟨ba,j,f⟩
 apply JK;ac_rfl;show Cv _ _ _ ([a,b,c].map fr) _;refine Cj fr (λd vs τ=>∃g h,τ= [some (.val (.tup [fr a,fr b,fr c])),some (.val (.int (Fd d:Nat))),g,h]) ?_ ?_ ⟨_,_,rfl⟩
 .rintro τ ⟨g,h,rfl⟩;ac_rfl;exact q
 .rintro d c vs e τ R k ⟨g,h,rfl⟩;have hu:∀x∈d,Bd W x:=λx l=>hx x (by rw[<-e];simp[l]);have ul:d.length<=6:=by have:=congrArg List.length e;simp at this;omega
  obtain⟨h1,h2,h3⟩:=Gq d.length d rfl hu;have f:=(hx c (by rw[<-e];simp)).bot;have p:d.length*W<=6*1400:=ABE ul i;have r:0<Nat.gcd (Fd d) c.den:=ACP _ c.den_pos;have gl:Nat.gcd (Fd d) c.den<2^8900:=Al (AAj (AB3 c.den_pos (AB1 ..)) f) (by omega);ac_rfl;refine Et _ _ _ ?_;ac_rfl;refine⟨⟨by omega,by simpa using gl⟩, ?_⟩;have o:((c.den:Nat):Int).fdiv ((Nat.gcd (Fd d) c.den:Nat):Int)=((c.den/Nat.gcd (Fd d) c.den:Nat):Int):=by rw[ABi _ (by omega),AB2]
  rw[o];have dl:c.den/Nat.gcd (Fd d) c.den<2^1400:=Al (AAj (ABz ..) f) i;ac_rfl;refine⟨MulOk.of (m:=8401) (n:=1400) (by simpa using Al h3 (by omega)) (by rw[AAu];exact dl), ?_⟩;exact k _ ⟨some (.val (.int c.num)),some (.val (.int c.den)),by rw[Ra,ADB];rfl⟩
def YZ {a b c:Rat}{W:Nat}{s n:Int}(ba:Bd W a)(e:Bd W b)(f:Bd W c)(d:W<=1400){Q:PV->Prop}(q:Q (Aw (Oc a b c s n))):ET [.tup [fr a,fr b,fr c], .int s, .int n] Q:=by
 obtain⟨h1,h2,h3⟩:=Gq (W:=W) 3 [a,b,c] rfl (by simp;exact⟨ba,e,f⟩);have g:∀x:Rat,((Fd [a,b,c] :Int).fdiv (x.den:Int)).natAbs<2^4201:=λx=>by rw[ABi _ (by omega),<-AB2,AAu];exact AAj (ABz ..) (Al h3 (by omega))
 have h:=g a;have i:=g b;have j:=g c;have o:0<a.den:=a.den_pos;have p:0<b.den:=b.den_pos;have r:0<c.den:=c.den_pos;have k:=(ba.mono d).bot;have l:=(e.mono d).bot;have m:=(f.mono d).bot;apply RS;ac_rfl;refine VZ ba e f d ?_;unfold Oc Rv at q;generalize Fd [a,b,c] =S at *;repeat' array_get_dec
 refine⟨⟨by omega,by rw[AAu];exact Al k (by decide)⟩, ?_⟩;repeat' array_get_dec
 refine⟨MulOk.of (ba.mono d).top h, ?_⟩;repeat' array_get_dec
 refine⟨⟨by omega,by rw[AAu];exact Al l (by decide)⟩, ?_⟩;repeat' array_get_dec
 refine⟨MulOk.of (e.mono d).top i, ?_⟩;repeat' array_get_dec
 refine⟨⟨by omega,by rw[AAu];exact Al m (by decide)⟩, ?_⟩;repeat' array_get_dec
 refine⟨MulOk.of (f.mono d).top j, ?_⟩;repeat' array_get_dec
 exact q
def aJ {a b c:Rat}{W M:Nat}{s n:Int}(ba:Bd W a)(f:Bd W b)(g:Bd W c)(d:Fd [a,b,c] < 2^M)(hs:s=0\/s=1):Bf (W+M) (Oc a b c s n)/\∀x y:Rat,h3 (Oc a b c s n) x y↔(0<a+b*x+c*y\/(a+b*x+c*y=0/\s=0)):=by
 obtain⟨h1,h2,_⟩:=Gq (W:=W) 3 [a,b,c] rfl (by simp;exact⟨ba,f,g⟩);have h:(0:Rat)<((Fd [a,b,c] :Nat):Rat):=by exact_mod_cast h1
 have i:=F0 (h2 a (by simp));have j:=F0 (h2 b (by simp));have k:=F0 (h2 c (by simp));refine⟨⟨VX ba d,VX f d,VX g d,by simp[Oc];exact Al d (by omega),by simp[Oc],hs⟩,λx y=> ?_⟩;have e:((Oc a b c s n).c0:Rat)+(Oc a b c s n).c1*x+(Oc a b c s n).c2*y=((Fd [a,b,c] :Nat):Rat)*(a+b*x+c*y):=by show ((Rv (Fd [a,b,c]) a:Int):Rat)+((Rv (Fd [a,b,c]) b:Int):Rat)*x+((Rv (Fd [a,b,c]) c:Int):Rat)*y=_;rw[i,j,k];grind
 unfold h3;rw[e,(Fc h).1,(Fc h).2];rfl
def D1 (m:kn (Int×Int)):Nat:=m.foldl (λg e=>Nat.gcd e.2.toNat g) 0
def fE (m:kn (Int×Int))(k:Int):PV:= .tup [.int k,fr (((((m.lookup k).getD 0).fdiv (D1 m:Nat):Int)):Rat)]
def Zm (m:kn (Int×Int))(e:Int×Int):D1 (m ++ [e])=Nat.gcd e.2.toNat (D1 m):=by unfold D1;rw[ACh];rfl
def U1 {m:kn (Int×Int)}{k:Int}(h:k∈m.map (·.1)):∃v,m.lookup k=some v/\(k,v)∈m:=by
 induction m with
 | nil=>simp at h
 | cons e m c=>
   obtain⟨i,v⟩:=e;by_cases z:k=i
   .subst z;exact⟨v,by simp[List.lookup],by simp⟩
   .have:k∈m.map (·.1):=by simp[z] at h;simpa using h
    obtain⟨d,a,b⟩:=c this;have f:(k==i)=false:=by simpa using z
    exact⟨d,by simp[List.lookup,f,a],by simp[b]⟩
theorem Qb:∀(m:kn (Int×Int)) (g:Nat),(0<g\/m≠ [])->(∀e∈m,0<e.2)->0<m.foldl (λg e=>Nat.gcd e.2.toNat g) g
 | [],g,h,_=>by simpa using h
 | e::m,g,_,hp=>Qb m _ (.inl (Nat.gcd_pos_of_pos_left _ (by have:=hp e (by simp);omega))) λx hx=>hp x (by simp[hx])
theorem WR {N:Nat}:∀(m:kn (Int×Int)) (g:Nat),(∀e∈m,0<e.2/\e.2.natAbs<2^N)->(g<2^N)->m.foldl (λg e=>Nat.gcd e.2.toNat g) g<2^N
 | [],g,_,h=>h
 | e::m,g,hp,_=>WR m _ (λx hx=>hp x (by simp[hx])) (by
    have h:=hp e (by simp);exact AAj (AB3 (by omega) (ADk ..)) (by omega))
def Ym {m:kn (Int×Int)}{N:Nat}(hp:∀e∈m,0<e.2/\e.2.natAbs<2^N)(i:m≠ [])(hl:m.length<64)(hN:N<=8900){Q:PV->Prop}(q:∀ns:kn Int,ns.Perm (m.map (·.1))->ns.Pairwise (· <= ·)->Q (.tup (ns.map (fE m)))):CW [.dk m] Q:=by
 have o:0<D1 m:=Qb m 0 (.inr i) λe he=>(hp e he).1;have j:D1 m<2^N:=WR m 0 hp (ADO N);apply J5;ac_rfl;show Cv _ _ _ (m.map λp=>PV.int p.2) _;refine Cj (λp:Int×Int=>PV.int p.2) (λc vs τ=>∃d,τ= [some (.val (.dk m)),some (.val (.int (D1 c:Nat))),d]) ?_ ?_ ⟨_,rfl⟩
 .rintro τ ⟨d,rfl⟩;ac_rfl;refine⟨hl,λns f l=> ?_⟩;ac_rfl;have a:=q ns f l;refine⟨by rw[f.length_eq,AAO];omega, ?_⟩;refine EG PV.int (fE m) id (λk=>k∈m.map (·.1)) (λk hk R b=> ?_) ns [] (λk hk=>f.mem_iff.mp hk) ?_
  .obtain ⟨v,g,r⟩:=U1 hk;unfold fE id at b;rw[g,ADK] at b;ac_rfl;refine⟨v,g, ?_⟩;ac_rfl;refine⟨⟨by omega,by simpa using Al j hN⟩, ?_⟩;ac_rfl;exact b
  .rw [AAx,List.map_id];ac_rfl;exact a
 .rintro c e vs n τ R b ⟨d,rfl⟩;have he:=(hp e (by rw[<-n];simp)).1;have h:e.2=((e.2.toNat:Nat):Int):=by omega
  have a:=b [some (.val (.dk m)),some (.val (.int (D1 (c ++ [e]):Nat))),some (.val (.int e.2))] ⟨_,rfl⟩;clear b;rw[Zm] at a;ac_rfl;rw[h];refine Et _ _ _ ?_;rw[h] at a;ac_rfl;exact a
structure Wd where
 b:C4
 e:C4
 b':C4
 e':C4
 z:T3
 l:Rat
 l':Rat
def Y2 (w:Wd):PV:= .tup [CN w.b w.e,CN w.b' w.e', .lst [fr w.z.1,fr w.z.2.1,fr w.z.2.2], .tup [fr w.l,fr w.l']]
def sl (w:Wd):Nat->Rat|0=>Yh w.b w.e w.b.2.1 w.e.2.1|1=>Yh w.b w.e w.b.2.2.1 w.e.2.2.1|_=>Yh w.b w.e w.b.2.2.2 w.e.2.2.2
def Y1 (w:Wd):Nat->Rat|0=>Yh w.b' w.e' w.b'.2.1 w.e'.2.1|1=>Yh w.b' w.e' w.b'.2.2.1 w.e'.2.2.1|_=>Yh w.b' w.e' w.b'.2.2.2 w.e'.2.2.2
def ba (w:Wd):Nat->Rat|0=>ZS w.b w.e w.b.2.1 w.e.2.1|1=>ZS w.b w.e w.b.2.2.1 w.e.2.2.1|_=>ZS w.b w.e w.b.2.2.2 w.e.2.2.2
def Yv (w:Wd):Nat->Rat|0=>ZS w.b' w.e' w.b'.2.1 w.e'.2.1|1=>ZS w.b' w.e' w.b'.2.2.1 w.e'.2.2.1|_=>ZS w.b' w.e' w.b'.2.2.2 w.e'.2.2.2
def sz (w:Wd):Nat->Rat|0=>w.z.1|1=>w.z.2.1|_=>w.z.2.2
def Ai (w:Wd):Nat->Rat×Rat×Rat
 | 0=>(-w.b.1,1,0)
 | 1=>(w.e.1, -1,0)
 | 2=>(-w.b'.1,0,1)
 | 3=>(w.e'.1,0, -1)
 | 4=>(w.l,1, -1)
 | 5=>(w.l', -1,1)
 | 6=>(sz w 0-(ba w 0-Yv w 0), -sl w 0,Y1 w 0)
 | 7=>(sz w 0+(ba w 0-Yv w 0),sl w 0, -Y1 w 0)
 | 8=>(sz w 1-(ba w 1-Yv w 1), -sl w 1,Y1 w 1)
 | 9=>(sz w 1+(ba w 1-Yv w 1),sl w 1, -Y1 w 1)
 | 10=>(sz w 2-(ba w 2-Yv w 2), -sl w 2,Y1 w 2)
 | _=>(sz w 2+(ba w 2-Yv w 2),sl w 2, -Y1 w 2)
structure Hj (W:Nat) (w:Wd):Prop where
 t1:Bd W w.b.1
 t2:Bd W w.e.1
 t3:Bd W w.b'.1
 t4:Bd W w.e'.1
 l1:Bd W w.l
 l2:Bd W w.l'
 z:∀k,Bd W (sz w k)
 s:∀k,Bd W (sl w k)
 s':∀k,Bd W (Y1 w k)
 a:∀k,Bd W (ba w k)
 a':∀k,Bd W (Yv w k)
def LU (x:Rat×Rat×Rat):PV:= .tup [fr x.1,fr x.2.1,fr x.2.2]
def fy {w:Wd}{n:Nat}(h:n<6){Q:PV->Prop}(q:Q (LU (Ai w n))):Dy [Y2 w, .int n] Q:=by
 apply Oj;unfold Y2 CN;repeat' array_get_dec
 refine GW ?_;repeat' array_get_dec
 refine GW ?_;repeat' array_get_dec
 have cs:n=0\/n=1\/n=2\/n=3\/n=4\/n=5:=by omega
 rcases cs with rfl|rfl|rfl|rfl|rfl|rfl <;> exact q
def Ys (x1 d e f g:PV)(a s b c:Nat->Rat)(z:Nat->Rat):PV:= .tup [.tup [x1,d, .lst [.tup [fr (a 0),fr (s 0)], .tup [fr (a 1),fr (s 1)], .tup [fr (a 2),fr (s 2)]]], .tup [e,f, .lst [.tup [fr (b 0),fr (c 0)], .tup [fr (b 1),fr (c 1)], .tup [fr (b 2),fr (c 2)]]], .lst [fr (z 0),fr (z 1),fr (z 2)],g]
section
variable {x1 x2 x3 x4 ls:PV}{a s a' s' z:Nat->Rat}{W:Nat}{Q:PV->Prop}
theorem kQ (d:W<=1300)(ha:Bd W (a 0))(b:Bd W (a' 0))(c:Bd W (z 0))(q:Q (.tup [fr (z 0-(a 0-a' 0)),fr (-s 0),fr (s' 0)])):BP [Ys x1 x2 x3 x4 ls a s a' s' z, .int 6] Q:=by
 have e:=(ha.sub b).mono (n:=3900) (by omega);have ha:=ha.mono (n:=3900) (by omega);have b:=b.mono (n:=3900) (by omega);have c:=c.mono (n:=3900) (by omega);apply CL;unfold Ys;repeat' array_get_dec
 refine⟨⟨by decide,by decide⟩, ?_⟩;show Aq 2 (.int 0) _ _;repeat' array_get_dec
 refine GW ?_;repeat' array_get_dec
 exact q
theorem kR (d:W<=1300)(ha:Bd W (a 0))(b:Bd W (a' 0))(c:Bd W (z 0))(q:Q (.tup [fr (z 0+(a 0-a' 0)),fr (s 0),fr (-s' 0)])):BP [Ys x1 x2 x3 x4 ls a s a' s' z, .int 7] Q:=by
 have e:=(ha.sub b).mono (n:=3900) (by omega);have ha:=ha.mono (n:=3900) (by omega);have b:=b.mono (n:=3900) (by omega);have c:=c.mono (n:=3900) (by omega);apply CL;unfold Ys;repeat' array_get_dec
 refine⟨⟨by decide,by decide⟩, ?_⟩;show Aq 2 (.int 0) _ _;repeat' array_get_dec
 refine GW ?_;repeat' array_get_dec
 exact q
theorem kS (d:W<=1300)(ha:Bd W (a 1))(b:Bd W (a' 1))(c:Bd W (z 1))(q:Q (.tup [fr (z 1-(a 1-a' 1)),fr (-s 1),fr (s' 1)])):BP [Ys x1 x2 x3 x4 ls a s a' s' z, .int 8] Q:=by
 have e:=(ha.sub b).mono (n:=3900) (by omega);have ha:=ha.mono (n:=3900) (by omega);have b:=b.mono (n:=3900) (by omega);have c:=c.mono (n:=3900) (by omega);apply CL;unfold Ys;repeat' array_get_dec
 refine⟨⟨by decide,by decide⟩, ?_⟩;show Aq 2 (.int 1) _ _;repeat' array_get_dec
 refine GW ?_;repeat' array_get_dec
 exact q
theorem kT (d:W<=1300)(ha:Bd W (a 1))(b:Bd W (a' 1))(c:Bd W (z 1))(q:Q (.tup [fr (z 1+(a 1-a' 1)),fr (s 1),fr (-s' 1)])):BP [Ys x1 x2 x3 x4 ls a s a' s' z, .int 9] Q:=by
 have e:=(ha.sub b).mono (n:=3900) (by omega);have ha:=ha.mono (n:=3900) (by omega);have b:=b.mono (n:=3900) (by omega);have c:=c.mono (n:=3900) (by omega);apply CL;unfold Ys;repeat' array_get_dec
 refine⟨⟨by decide,by decide⟩, ?_⟩;show Aq 2 (.int 1) _ _;repeat' array_get_dec
 refine GW ?_;repeat' array_get_dec
 exact q
theorem fR (d:W<=1300)(ha:Bd W (a 2))(b:Bd W (a' 2))(c:Bd W (z 2))(q:Q (.tup [fr (z 2-(a 2-a' 2)),fr (-s 2),fr (s' 2)])):BP [Ys x1 x2 x3 x4 ls a s a' s' z, .int 10] Q:=by
 have e:=(ha.sub b).mono (n:=3900) (by omega);have ha:=ha.mono (n:=3900) (by omega);have b:=b.mono (n:=3900) (by omega);have c:=c.mono (n:=3900) (by omega);apply CL;unfold Ys;repeat' array_get_dec
 refine⟨⟨by decide,by decide⟩, ?_⟩;show Aq 2 (.int 2) _ _;repeat' array_get_dec
 refine GW ?_;repeat' array_get_dec
 exact q
theorem fS (d:W<=1300)(ha:Bd W (a 2))(b:Bd W (a' 2))(c:Bd W (z 2))(q:Q (.tup [fr (z 2+(a 2-a' 2)),fr (s 2),fr (-s' 2)])):BP [Ys x1 x2 x3 x4 ls a s a' s' z, .int 11] Q:=by
 have e:=(ha.sub b).mono (n:=3900) (by omega);have ha:=ha.mono (n:=3900) (by omega);have b:=b.mono (n:=3900) (by omega);have c:=c.mono (n:=3900) (by omega);apply CL;unfold Ys;repeat' array_get_dec
 refine⟨⟨by decide,by decide⟩, ?_⟩;show Aq 2 (.int 2) _ _;repeat' array_get_dec
 refine GW ?_;repeat' array_get_dec
 exact q
end
def fT {w:Wd}{W:Nat}(ok:Hj W w)(c:W<=1300){n:Nat}(h:6<=n)(h':n<12){Q:PV->Prop}(q:Q (LU (Ai w n))):BP [Y2 w, .int n] Q:=by
 have e:Y2 w=Ys (fr w.b.1) (fr w.e.1) (fr w.b'.1) (fr w.e'.1) (.tup [fr w.l,fr w.l']) (ba w) (sl w) (Yv w) (Y1 w) (sz w):=rfl;rw[e];have cs:n=6\/n=7\/n=8\/n=9\/n=10\/n=11:=by omega
 rcases cs with rfl|rfl|rfl|rfl|rfl|rfl
 .exact kQ c (ok.a 0) (ok.a' 0) (ok.z 0) q
 .exact kR c (ok.a 0) (ok.a' 0) (ok.z 0) q
 .exact kS c (ok.a 1) (ok.a' 1) (ok.z 1) q
 .exact kT c (ok.a 1) (ok.a' 1) (ok.z 1) q
 .exact fR c (ok.a 2) (ok.a' 2) (ok.z 2) q
 .exact fS c (ok.a 2) (ok.a' 2) (ok.z 2) q
def WN {w:Wd}{W:Nat}(ok:Hj W w)(a:W<=1300){n:Nat}(h:n<12){Q:PV->Prop}(q:Q (LU (Ai w n))):EK [Y2 w, .int n] Q:=by
 apply Ti;ac_rfl
 .exact fy (by omega) q
 .exact fT ok a (by omega) h q
def EY {w:Wd}{W:Nat}(ok:Hj W w)(n:Nat):Bd (3*W+2) (Ai w n).1/\Bd (3*W+2) (Ai w n).2.1/\Bd (3*W+2) (Ai w n).2.2:=by
 have b:Bd (3*W+2) (1:Rat):=Bd.mono (m:=2) (by constructor <;> decide) (by omega);have c:Bd (3*W+2) (-1:Rat):=Bd.mono (m:=2) (by constructor <;> decide) (by omega);have d:Bd (3*W+2) (0:Rat):=Bd.mono (m:=2) (by constructor <;> decide) (by omega);have m:∀{r:Rat},Bd W r->Bd (3*W+2) r:=λh=>h.mono (by omega);have p:∀k,Bd (3*W+2) (sz w k+(ba w k-Yv w k)):=λk=>((ok.z k).add ((ok.a k).sub (ok.a' k))).mono (by omega);have q:∀k,Bd (3*W+2) (sz w k-(ba w k-Yv w k)):=λk=>((ok.z k).sub ((ok.a k).sub (ok.a' k))).mono (by omega);unfold Ai;split
 .exact ⟨(m ok.t1).neg,b,d⟩
 .exact ⟨m ok.t2,c,d⟩
 .exact ⟨(m ok.t3).neg,d,b⟩
 .exact ⟨m ok.t4,d,c⟩
 .exact ⟨m ok.l1,b,c⟩
 .exact ⟨m ok.l2,c,b⟩
 .exact ⟨q 0,(m (ok.s 0)).neg,m (ok.s' 0)⟩
 .exact ⟨p 0,m (ok.s 0),(m (ok.s' 0)).neg⟩
 .exact ⟨q 1,(m (ok.s 1)).neg,m (ok.s' 1)⟩
 .exact ⟨p 1,m (ok.s 1),(m (ok.s' 1)).neg⟩
 .exact ⟨q 2,(m (ok.s 2)).neg,m (ok.s' 2)⟩
 .exact ⟨p 2,m (ok.s 2),(m (ok.s' 2)).neg⟩
def E5 {a:ke}{sg:Int}{ps:kn B3}(h:sg=1\/sg= -1)(hs:∀p∈ps,p.s=0\/p.s=1)(ex:∃p∈ps,0<(p.pr a).c1*sg):∃l,Cd a sg ps=some l/\l∈ps/\0<(l.pr a).c1*sg/\tight sg (ps.map (B3.pr a))=some (l.pr a):=by
 have b:∀q∈ps.map (B3.pr a),q.s=0\/q.s=1:=λq b=>by obtain⟨p,hp,rfl⟩:=AAK.mp b;exact hs p hp
 have j:=DG h _ (ps.map (B3.pr a)) rfl b;have e:=Vn (a:=a) (sg:=sg) (ps:=ps);cases t:Cd a sg ps with
 | none=> rw[t] at e;obtain⟨p,hp,z⟩:=ex;exact absurd z (j.no e.symm _ (AAK.mpr ⟨p,hp,rfl⟩))
 | some l=> rw[t] at e;exact⟨l,rfl,Dp t,(j.so _ e.symm).2.1,e.symm⟩
def Pe {p:Eh}(z:p.c1=0)(hs:p.s=0\/p.s=1)(t:Rat):holds p t↔HJ p=false:=by
 unfold holds LR HJ;rw[z,AD7];have a:(p.c0:Rat)+((0:Int):Rat)*t=(p.c0:Rat):=by grind
 rw[a,<-ABn,AB7,ADN];omega
def Xh {ps:kn Eh}{l h:Eh}(hs:∀p∈ps,p.s=0\/p.s=1)(a:tight 1 ps=some l)(b:tight (-1) ps=some h)(c:∀p∈ps,p.c1=0->HJ p=false){t:Rat}(d:holds l t)(e:holds h t):∀p∈ps,holds p t:=by
 have f:=(DG (.inl rfl) ps.length ps rfl hs).so l a;have g:=(DG (.inr rfl) ps.length ps rfl hs).so h b;intro p hp;rcases AD6 p.c1 0 with z|z|z
 .exact g.2.2 p hp (by omega) t e
 .exact (Pe z (hs p hp) t).mpr (c p hp z)
 .exact f.2.2 p hp (by omega) t d
def Te {P:Int->Prop}{m:kn (Int×Int)}{k v:Int}(h:∀e∈m,P e.2)(hv:P v):∀e∈Bp m k v,P e.2:=by
 intro e he;unfold Bp at he;split at he
 .obtain ⟨p,hp,rfl⟩:=AAK.mp he;split
  .exact hv
  .exact h p hp
 .rcases AAQ.mp he with he|he
  .exact h e he
  .rw [AAT.mp he];exact hv
def fB {m:kn (Int×Int)}{k v:Int}:Bp m k v≠ [] :=by
 unfold Bp;split
 .rename_i h;intro z;rw[List.map_eq_nil_iff] at z;subst z;simp at h
 .simp
def X3 {m:kn (Int×Int)}{k C:Int}(h:∀e∈m,0<e.2/\e.2<C)(a:0<C):0<=B5 m k/\B5 m k<C:=by
 unfold B5;cases e:m.find? λp=>decide (p.1=k) with
 | none=>exact⟨ADM _,a⟩
 | some p=> have:=h p (List.mem_of_find?_eq_some e);show 0<=p.2/\p.2<C;omega
def VW {many C:Int}{m:kn (Int×Int)}(h:∀e∈m,0<many*e.2/\many*e.2<C):∀e∈BV many m,0<e.2/\e.2<C:=by
 have key:∀(m a:kn (Int×Int)),(∀e∈m,0<many*e.2/\many*e.2<C)->(∀e∈a,0<e.2/\e.2<C)->∀e∈m.foldl (λa p=>Bp a p.1 (many*p.2)) a,0<e.2/\e.2<C:=by
  intro m;induction m with
  | nil=>intro a _ h;exact h
  | cons x m b=> intro a h1 h2;exact b _ (λe he=>h1 e (by simp[he])) (Te (P:=λx=>0<x/\x<C) h2 (h1 x (by simp)))
 exact key m [] h (by simp)
theorem NA {more D:Int}(b:0<D):∀(m a:kn (Int×Int)) (C:Int),0<C->(∀e∈m,0<more*e.2/\more*e.2<D)->(∀e∈a,0<e.2/\e.2<C)->∀e∈BS more a m,0<e.2/\e.2<C+m.length*D
 | [],a,C,_,_,h=>by simpa[BS] using h
 | x::m,a,C,hC,h1,h2=>by
   have hx:=h1 x (by simp);have g:=X3 (k:=x.1) h2 hC;have st:∀e∈Bp a x.1 (B5 a x.1+more*x.2),0<e.2/\e.2<C+D:=Te (P:=λy=>0<y/\y<C+D) (λe he=>by have:=h2 e he;omega) (by omega);have r:=NA b m (Bp a x.1 (B5 a x.1+more*x.2)) (C+D) (by omega) (λe he=>h1 e (by simp[he])) st;intro e he;have:=r e he;rw[AAp];have c:C+((m.length+1:Nat):Int)*D=C+D+(m.length:Int)*D:=by push_cast;grind
   rw[c];exact this
theorem NC {more:Int}:∀(m a:kn (Int×Int)),(BS more a m).length<=a.length+m.length
 | [],a=>by simp[BS]
 | x::m,a=>by have r:=NC (more:=more) m (Bp a x.1 (B5 a x.1+more*x.2));have p:=JG a x.1 (B5 a x.1+more*x.2);show (BS more (Bp a x.1 (B5 a x.1+more*x.2)) m).length<=_;rw[AAp];omega
theorem Pa {more:Int}:∀(m a:kn (Int×Int)),m≠ [] \/a≠ [] ->BS more a m≠ []
 | [],a,h=>by simpa[BS] using h
 | x::m,a,_=>Pa m (Bp a x.1 (B5 a x.1+more*x.2)) (.inr fB)
structure iF (L N:Nat) (m:List (Int×Int)):Prop where
 p:∀e∈m,0<e.2/\e.2.natAbs<2^N
 l:m.length<=L
 n:m≠ []
def nX {x y:Int}{N:Nat}(hx:0<x)(a:0<y)(h1:x.natAbs<2^N)(h2:y.natAbs<2^N):0<x*y/\x*y<((2^(2*N):Nat):Int):=by refine⟨ABK hx a, ?_⟩;have:=ACm h1 h2;rw[<-ABS,show N+N=2*N by omega,<-AAv] at this;have p:=ABK hx a;omega
def WF {a:ke}{l h:B3}{L N:Nat}(hl:Bf N l)(d:Bf N h)(g:iF L N l.w)(f:iF L N h.w)(u:L<=6)(r:0<(l.pr a).c1)(v:(h.pr a).c1<0):Bf (2*N+4) (A7 a l h)/\iF (2*L) (2*N+4) (A7 a l h).w:=by
 have i:=(hl.pr a).b;have b2:=(d.pr a).b;have j:(0:Int)<((2^(2*N):Nat):Int):=by exact_mod_cast ADO _
 have sc:=VW (many:= -(h.pr a).c1) (C:=((2^(2*N):Nat):Int)) (m:=l.w) λe he=>nX (by omega) (g.p e he).1 (by rw[AB0];exact b2) (g.p e he).2;have mg:=NA (more:=(l.pr a).c1) j h.w (BV (-(h.pr a).c1) l.w) _ j (λe he=>nX r (f.p e he).1 i (f.p e he).2) sc;have sl:(BV (-(h.pr a).c1) l.w).length<=l.w.length:=Nf;have z:=NC (more:=(l.pr a).c1) h.w (BV (-(h.pr a).c1) l.w);have k:2^(2*N+4)=16*2^(2*N):=by rw[ABS];omega
 have A:=g.l;have B:=f.l;have o:∀e∈(A7 a l h).w,0<e.2/\e.2.natAbs<2^(2*N+4):=λe he=>by have:=mg e he;have:(h.w.length:Int)*((2^(2*N):Nat):Int)<=6*((2^(2*N):Nat):Int):=Int.mul_le_mul_of_nonneg_right (by omega) (by omega);rw[k];omega
 have num:∀x y:Int,x.natAbs<2^N->y.natAbs<2^N->(-(h.pr a).c1*x+(l.pr a).c1*y).natAbs<2^(2*N+4):=λx y hx t=>by
  have m1:=ACm b2 hx;have m2:=ACm i t;rw[<-ABS,show N+N=2*N by omega,<-AAv] at m1 m2;have e: -(h.pr a).c1*x= -((h.pr a).c1*x):=by grind
  rw[e,k];omega
 refine⟨⟨num _ _ hl.a d.a,num _ _ hl.b d.b,num _ _ hl.c d.c,λe he=>(o e he).2, ?_, ?_⟩,⟨o, ?_,Pa _ _ (.inl f.n)⟩⟩
 .show (BS (l.pr a).c1 (BV (-(h.pr a).c1) l.w) h.w).length<=12;omega
 .show max l.s h.s=0\/max l.s h.s=1;have:=hl.s;have:=d.s;omega
 .show (BS (l.pr a).c1 (BV (-(h.pr a).c1) l.w) h.w).length<=2*L;omega
def gr:kn Int:= [0,1,0,1,0,0,1,1,1,1,1,1]
def strN (n:Nat):Int:=gr.getD n 0
def Fa (w:Wd)(n:Nat):B3:=Oc (Ai w n).1 (Ai w n).2.1 (Ai w n).2.2 (strN n) n
def D5 (w:Wd):kn B3:=(List.range 12).map (Fa w)
def Wl (w:Wd)(s t:Rat):Prop:=∀n<12,0<(Ai w n).1+(Ai w n).2.1*s+(Ai w n).2.2*t\/((Ai w n).1+(Ai w n).2.1*s+(Ai w n).2.2*t=0/\strN n=0)
def tW:PV:= .tup [.tup [.int 0, .tup [.int 1, .int 1]], .tup [.int 3, .tup [.int 1, .int 1]], .tup [.int 5, .tup [.int 1, .int 1]]]
def tX:PV:= .tup [.tup [.int 1, .tup [.int 1, .int 1]], .tup [.int 2, .tup [.int 1, .int 1]], .tup [.int 4, .tup [.int 1, .int 1]]]
def aO {w:Wd}{s t:Rat}(h:Wl w s t):w.b.1<=s/\s<w.e.1/\w.b'.1<=t/\t<w.e'.1/\t-s<=w.l/\s-t<=w.l':=by
 have a:=h 0 (by decide);have h1:=h 1 (by decide);have h2:=h 2 (by decide);have h3:=h 3 (by decide);have c:=h 4 (by decide);have d:=h 5 (by decide);have f:strN 1=1:=rfl;have g:strN 3=1:=rfl;rw[f] at h1;rw[g] at h3;simp only[Ai] at a h1 h2 h3 c d;refine⟨?_, ?_, ?_, ?_, ?_, ?_⟩
 .rcases a with z|z <;> grind
 .rcases h1 with z|z
  .grind
  .omega
 .rcases h2 with z|z <;> grind
 .rcases h3 with z|z
  .grind
  .omega
 .rcases c with z|z <;> grind
 .rcases d with z|z <;> grind
def lE {w:Wd}{W:Nat}(ok:Hj W w)(f:W<=1300){Q:PV->Prop}(a:(¬∃s t,Wl w s t)->w.e'.1+w.l'<=w.b.1->Q tW)(c:(¬∃s t,Wl w s t)->w.e.1+w.l<=w.b'.1->Q tX)(q:Q .non):Bm [Y2 w] Q:=by
 have g:=ok.t2.mono (n:=3900) (by omega);have i:=ok.t4.mono (n:=3900) (by omega);have j:=ok.t1.mono (n:=3900) (by omega);have k:=ok.t3.mono (n:=3900) (by omega);have ol:=ok.l1.mono (n:=3900) (by omega);have d:=ok.l2.mono (n:=3900) (by omega);have m:=(ok.t4.add ok.l2).mono (n:=3900) (by omega);have p:=(ok.t2.add ok.l1).mono (n:=3900) (by omega);apply HL;unfold Y2 CN;repeat' array_get_dec
 .rename_i h;refine a ?_ (by grind);rintro⟨s,t,o⟩;have:=aO o;grind
 .rename_i h;refine c ?_ (by grind);rintro⟨s,t,o⟩;have:=aO o;grind
 .exact q
def XE (n:Nat):strN n=0\/strN n=1:=by unfold strN gr;rcases n with _|_|_|_|_|_|_|_|_|_|_|_|n <;> simp
structure iG (N:Nat) (w:Wd):Prop where
 W:∃W,Hj W w/\3*W+2<=1300
 p:∀n<12,Bf N (Fa w n)
def iG.sh {N:Nat}{w:Wd}(h:iG N w):∀n<12,Fd [(Ai w n).1,(Ai w n).2.1,(Ai w n).2.2] < 2^N:=λn a=>by have:=(h.p n a).w ((n:Int),((Fd [(Ai w n).1,(Ai w n).2.1,(Ai w n).2.2] :Nat):Int)) (by simp[Fa,Oc]);simpa using this
def em {w:Wd}{N:Nat}(h:iG N w):∀p∈D5 w,Bf N p/\iF 1 N p.w/\p.w.length=1:=by
 intro p hp;obtain⟨n,a,rfl⟩:=AAK.mp hp;have a:=ABA.mp a;obtain⟨W,ok,_⟩:=h.W;obtain⟨b,b2,c⟩:=EY ok n;have k:=h.p n a;obtain⟨h1,_,_⟩:=Gq (W:=3*W+2) 3 [(Ai w n).1,(Ai w n).2.1,(Ai w n).2.2] rfl (by simp;exact⟨b,b2,c⟩);refine⟨k,⟨λe he=>⟨?_,k.w e he⟩,AAL _,by simp[Fa,Oc]⟩,rfl⟩;have:e=((n:Int),((Fd [(Ai w n).1,(Ai w n).2.1,(Ai w n).2.2] :Nat):Int)):=by simpa[Fa,Oc] using he
 rw[this];show (0:Int)<_;omega
def jw {w:Wd}{W M:Nat}(ok:Hj W w)(d:∀n<12,Fd [(Ai w n).1,(Ai w n).2.1,(Ai w n).2.2] < 2^M)(s t:Rat):(∀p∈D5 w,h3 p s t)↔Wl w s t:=by
 unfold D5 Wl;constructor
 .intro h n a;obtain⟨b,b2,c⟩:=EY ok n;exact((aJ (n:=n) b b2 c (d n a) (XE n)).2 s t).mp (h _ (AAK.mpr ⟨n,ABA.mpr a,rfl⟩))
 .intro h p hp;obtain⟨n,a,rfl⟩:=AAK.mp hp;have a:=ABA.mp a;obtain⟨b,b2,c⟩:=EY ok n;exact((aJ (n:=n) b b2 c (d n a) (XE n)).2 s t).mpr (h n a)
def aI {a b:Rat}{N:Nat}(ha:Bd N a)(hb:Bd N b):Bd (2*N+4) ((a+b)/2):=by have:=Bd.div (a:=a+b) (b:=((2:Int):Rat)) (by grind) (ha.add hb) (Bd.mono (m:=2) (n:=2) (by constructor <;> decide) (by omega));exact this.mono (by omega)
def j5 {p:B3}{r:Rat}{N M:Nat}(h:Bf N p)(d:Bd M r):Bf (N+M+1) (C6 false r p):=by
 have f:=d.bot;have i:=d.top;have g:2^(N+M+1)=2*2^(N+M):=by rw[ADg];omega
 have m:∀x y:Int,x.natAbs<2^N->y.natAbs<2^M->(x*y).natAbs<2^(N+M):=λx y a b=>by have:=ACm a b;rw[<-ABS,<-AAv] at this;exact this
 have j:=m p.c0 r.den h.a (by rw[AAu];exact f);have k:=m p.c1 r.num h.b i;have n:=m p.c2 r.den h.c (by rw[AAu];exact f);refine⟨?_,by show (0:Int).natAbs<_;exact ADO _, ?_,λe he=>Al (h.w e he) (by omega),h.l,h.s⟩
 .show ((r.den:Int)*p.c0+p.c1*r.num).natAbs<_;rw[ADD,g];omega
 .show ((r.den:Int)*p.c2).natAbs<_;rw[ADD,g];omega
def Am (m:kn (Int×Int)):kn Int:=m.map (·.1)
def Dr (g:Int->Rat)(m:kn (Int×Int)):Rat:=(m.map λe=>(e.2:Rat)*g e.1).sum
def G0 {g:Int->Rat}:Dr g [] =0:=rfl
def DI {g:Int->Rat}{x:Int×Int}{m:kn (Int×Int)}:Dr g (x::m)=(x.2:Rat)*g x.1+Dr g m:=by simp[Dr]
def VN {x:Int×Int}{m:kn (Int×Int)}{k v:Int}(h:x.1≠k):Bp (x::m) k v=x::Bp m k v:=by unfold Bp;simp only[ABm,AAY h,ADn,AAM,AAF h,ADG];split <;> rfl
def j4 {m:kn (Int×Int)}{k v:Int}(h:k ∉ Am m):(m.map λp=>if p.1=k then (p.1,v) else p)=m:=by
 induction m with
 | nil=>rfl
 | cons x m a=> have h1:x.1≠k:=λz=>h (by simp[Am,z]);have h2:k ∉ Am m:=λz=>h (by simp[Am] at z ⊢;exact .inr z);rw[AAM,AAF h1,a h2]
def bD {x:Int×Int}{m:kn (Int×Int)}{k v:Int}(h:x.1=k)(a:k ∉ Am m):Bp (x::m) k v=(k,v)::m:=by unfold Bp;simp only[ABm,AAP h,ADm,AA9,AAM,AAG h];rw[j4 a,h]
def Mu {x:Int×Int}{m:kn (Int×Int)}{k:Int}:B5 (x::m) k=if x.1=k then x.2 else B5 m k:=by
 unfold B5;rw[AB6];by_cases h:x.1=k
 .rw [AAP h,AAG h];rfl
 .rw [AAY h,AAF h]
def ig {m:kn (Int×Int)}{k:Int}(h:k ∉ Am m):B5 m k=0:=by
 induction m with
 | nil=>rfl
 | cons x m a=> have h1:x.1≠k:=λz=>h (by simp[Am,z]);have h2:k ∉ Am m:=λz=>h (by simp[Am] at z ⊢;exact .inr z);rw[Mu,AAF h1,a h2]
def Lm {x:Int×Int}{m:kn (Int×Int)}(h:(Am (x::m)).Nodup):x.1 ∉ Am m/\(Am m).Nodup:=ABv.mp h
theorem Nw {g:Int->Rat}{k v:Int}:∀(m:kn (Int×Int)),(Am m).Nodup->Dr g (Bp m k v)=Dr g m+((v-B5 m k:Int):Rat)*g k
 | [],_=>by rw[show Bp [] k v= [(k,v)] from rfl,DI,G0,show B5 [] k=0 from rfl,Int.sub_zero];grind
 | x::m,nd=>by
   obtain⟨a,b⟩:=Lm nd;by_cases h:x.1=k
   .rw [bD h (h ▸ a),DI,DI,Mu,AAG h,<-h,AD8];grind
   .rw [VN h,DI,DI,Nw m b,Mu,AAF h];grind
theorem GZ {k v:Int}:∀(m:kn (Int×Int)) (i:Int),i∈Am (Bp m k v)↔i∈Am m\/i=k
 | [],i=>by rw[show Bp [] k v= [(k,v)] from rfl];simp[Am]
 | x::m,i=>by
   by_cases h:x.1=k
   .unfold Bp;simp only[ABm,AAP h,ADm,AA9];have e:Am ((x::m).map λp=>if p.1=k then (p.1,v) else p)=Am (x::m):=by unfold Am;rw[AA3];refine ACN λp _=> ?_;show (if p.1=k then (p.1,v) else p).1=p.1;split <;> rfl
    rw[e];constructor
    .exact .inl
    .rintro (z|rfl)
     .exact z
     .simp [Am,h]
   .rw [VN h];have:=GZ (k:=k) (v:=v) m i;simp only[Am,AAM,AAJ] at this ⊢;rw[this];grind
theorem VM {k v:Int}:∀(m:kn (Int×Int)),(Am m).Nodup->(Am (Bp m k v)).Nodup
 | [],_=>by rw[show Bp [] k v= [(k,v)] from rfl];simp[Am]
 | x::m,nd=>by
   obtain⟨a,b⟩:=Lm nd;by_cases h:x.1=k
   .rw [bD h (h ▸ a)];exact ABv.mpr ⟨h ▸ a,b⟩
   .rw [VN h];refine ABv.mpr ⟨λz=> ?_,VM m b⟩;rcases (GZ m x.1).mp z with z|z
    .exact a z
    .exact h z
theorem Ms {g:Int->Rat}{many:Int}:∀(m a:kn (Int×Int)),(Am m).Nodup->(Am a).Nodup->(∀i∈Am m,i ∉ Am a)->Dr g (m.foldl (λa p=>Bp a p.1 (many*p.2)) a)=Dr g a+(many:Rat)*Dr g m/\(Am (m.foldl (λa p=>Bp a p.1 (many*p.2)) a)).Nodup/\∀i,i∈Am (m.foldl (λa p=>Bp a p.1 (many*p.2)) a)↔i∈Am a\/i∈Am m
 | [],a,_,na,_=>⟨by rw[G0];show Dr g a=_;grind,na,λi=>by simp[Am]⟩
 | x::m,a,nm,na,dj=>by
   obtain⟨b,c⟩:=Lm nm;have hx:x.1 ∉ Am a:=dj x.1 (by simp[Am]);obtain⟨h1,h2,h3⟩:=Ms (g:=g) (many:=many) m (Bp a x.1 (many*x.2)) c (VM a na) (λi hi z=>by
    rcases (GZ a i).mp z with z|z
    .exact dj i (by simp[Am] at hi ⊢;exact .inr hi) z
    .exact b (z ▸ hi))
   refine⟨?_,h2,λi=> ?_⟩
   .show Dr g (m.foldl _ (Bp a x.1 (many*x.2)))=_;rw[h1,Nw a na,ig hx,DI,Int.sub_zero,AAa];grind
   .show i∈Am (m.foldl _ (Bp a x.1 (many*x.2)))↔_;rw[h3,GZ];show _↔_\/i∈x.1::Am m;rw[AAJ];grind
theorem Mr {g:Int->Rat}{more:Int}:∀(m a:kn (Int×Int)),(Am a).Nodup->Dr g (BS more a m)=Dr g a+(more:Rat)*Dr g m/\(Am (BS more a m)).Nodup/\∀i,i∈Am (BS more a m)↔i∈Am a\/i∈Am m
 | [],a,na=>⟨by rw[G0];show Dr g a=_;grind,na,λi=>by simp[Am,BS]⟩
 | x::m,a,na=>by
   obtain⟨h1,h2,h3⟩:=Mr (g:=g) (more:=more) m (Bp a x.1 (B5 a x.1+more*x.2)) (VM a na);refine⟨?_,h2,λi=> ?_⟩
   .show Dr g (BS more (Bp a x.1 (B5 a x.1+more*x.2)) m)=_;rw[h1,Nw a na,DI,show B5 a x.1+more*x.2-B5 a x.1=more*x.2 by omega,AAa];grind
   .show i∈Am (BS more (Bp a x.1 (B5 a x.1+more*x.2)) m)↔_;rw[h3,GZ];show _↔_\/i∈x.1::Am m;rw[AAJ];grind
def fK (w:Wd):Nat->Int->Rat
 | 0,n=>(Ai w n.toNat).1
 | 1,n=>(Ai w n.toNat).2.1
 | _,n=>(Ai w n.toNat).2.2
structure QK (w:Wd) (p:B3):Prop where
 a:(p.c0:Rat)=Dr (fK w 0) p.w
 b:(p.c1:Rat)=Dr (fK w 1) p.w
 c:(p.c2:Rat)=Dr (fK w 2) p.w
 s:p.s=1->∃i∈Am p.w,strN i.toNat=1
 n:(Am p.w).Nodup
 k:∀i∈Am p.w,0<=i/\i<12
def fF {w:Wd}{W:Nat}(ok:Hj W w){n:Nat}(j:n<12):QK w (Fa w n):=by
 obtain⟨b,b2,c⟩:=EY ok n;obtain⟨h1,h2,_⟩:=Gq (W:=3*W+2) 3 [(Ai w n).1,(Ai w n).2.1,(Ai w n).2.2] rfl (by simp;exact⟨b,b2,c⟩);have d:=F0 (h2 (Ai w n).1 (by simp));have e:=F0 (h2 (Ai w n).2.1 (by simp));have f:=F0 (h2 (Ai w n).2.2 (by simp));have a:∀g,Dr g (Fa w n).w=((Fd [(Ai w n).1,(Ai w n).2.1,(Ai w n).2.2] :Nat):Rat)*g n:=λg=>by show Dr g [((n:Int),((Fd [(Ai w n).1,(Ai w n).2.1,(Ai w n).2.2] :Nat):Int))] =_;rw[DI,G0,ABD];grind
 refine⟨?_, ?_, ?_,λh=>⟨n,by simp[Fa,Oc,Am], ?_⟩,by simp[Fa,Oc,Am],λi hi=> ?_⟩
 .rw [a];exact d.trans (by show _=_*(Ai w ((n:Int).toNat)).1;rw[ABx];grind)
 .rw [a];exact e.trans (by show _=_*(Ai w ((n:Int).toNat)).2.1;rw[ABx];grind)
 .rw [a];exact f.trans (by show _=_*(Ai w ((n:Int).toNat)).2.2;rw[ABx];grind)
 .rw [ABx];exact h
 .have:i=n:=by simpa[Fa,Oc,Am] using hi
  omega
def Nb {w:Wd}{a:ke}{l h:B3}(hl:QK w l)(f:QK w h)(sl:l.s=0\/l.s=1)(j:h.s=0\/h.s=1):QK w (A7 a l h):=by
 have S:=λg=>Ms (g:=g) (many:= -(h.pr a).c1) l.w [] hl.n (by simp[Am]) (by simp[Am]);have M:=λg=>Mr (g:=g) (more:=(l.pr a).c1) h.w (BV (-(h.pr a).c1) l.w) (S g).2.1;have E:∀g,Dr g (A7 a l h).w=((-(h.pr a).c1:Int):Rat)*Dr g l.w+((l.pr a).c1:Rat)*Dr g h.w:=λg=>by refine(M g).1.trans ?_;have:=(S g).1;rw[G0,Rat.zero_add] at this;rw[show BV (-(h.pr a).c1) l.w=l.w.foldl (λd p=>Bp d p.1 (-(h.pr a).c1*p.2)) [] from rfl,this]
 have K:∀i,i∈Am (A7 a l h).w↔i∈Am l.w\/i∈Am h.w:=λi=>by refine((M λ_=>0).2.2 i).trans ?_;have:=(S λ_=>0).2.2 i;rw[show BV (-(h.pr a).c1) l.w=l.w.foldl (λd p=>Bp d p.1 (-(h.pr a).c1*p.2)) [] from rfl,this];simp[Am]
 refine⟨?_, ?_, ?_,λz=> ?_,(M λ_=>0).2.1,λi hi=> ?_⟩
 .show ((-(h.pr a).c1*l.c0+(l.pr a).c1*h.c0:Int):Rat)=_;rw[E,<-hl.a,<-f.a,ADP,AAa,AAa]
 .show ((-(h.pr a).c1*l.c1+(l.pr a).c1*h.c1:Int):Rat)=_;rw[E,<-hl.b,<-f.b,ADP,AAa,AAa]
 .show ((-(h.pr a).c1*l.c2+(l.pr a).c1*h.c2:Int):Rat)=_;rw[E,<-hl.c,<-f.c,ADP,AAa,AAa]
 .have z:max l.s h.s=1:=z;have:l.s=1\/h.s=1:=by omega
  rcases this with q|q
  .obtain ⟨i,hi,e⟩:=hl.s q;exact⟨i,(K i).mpr (.inl hi),e⟩
  .obtain ⟨i,hi,e⟩:=f.s q;exact⟨i,(K i).mpr (.inr hi),e⟩
 .rcases (K i).mp hi with q|q
  .exact hl.k i q
  .exact f.k i q
def Gc (rows:kn (Int×Rat)):PV:= .tup (rows.map λe=> .tup [.int e.1,fr e.2])
def Cq (w:Wd)(k:Nat)(rows:kn (Int×Rat)):Rat:=(rows.map λe=>e.2*fK w k e.1).sum
structure V0 (N:Nat) (w:Wd) (rows:List (Int×Rat)):Prop where
 r:rows.Pairwise λa b=>a.1<b.1
 k:∀e∈rows,0<=e.1/\e.1<12
 p:∀e∈rows,0<e.2/\Bd N e.2
 l:rows.length<=12
 b:Cq w 1 rows=0
 c:Cq w 2 rows=0
 a:Cq w 0 rows<0\/(Cq w 0 rows=0/\∃e∈rows,strN e.1.toNat=1)
def GB (m:kn (Int×Int))(ns:kn Int):kn (Int×Rat):=ns.map λk=>(k,((((m.lookup k).getD 0).fdiv (D1 m:Nat):Int):Rat))
theorem Mt:∀(m:kn (Int×Int)) (g:Nat),(m.foldl (λg e=>Nat.gcd e.2.toNat g) g ∣ g)/\∀e∈m,m.foldl (λg e=>Nat.gcd e.2.toNat g) g ∣ e.2.toNat
 | [],g=>⟨Nat.dvd_refl _,by simp⟩
 | x::m,g=>by
   obtain⟨h1,h2⟩:=Mt m (Nat.gcd x.2.toNat g);refine⟨AD2 h1 (AB1 ..),λe he=> ?_⟩;rcases AAJ.mp he with rfl|he
   .exact AD2 h1 (ADk ..)
   .exact h2 e he
def PX {m:kn (Int×Int)}{e:Int×Int}(b:(Am m).Nodup)(h:e∈m):m.lookup e.1=some e.2:=by
 induction m with
 | nil=>cases h
 | cons x m c=>
   obtain⟨d,f⟩:=Lm b;rcases AAJ.mp h with rfl|a
   .obtain ⟨i,v⟩:=e;simp[List.lookup]
   .have ne:e.1≠x.1:=λz=>d (z ▸ AAK.mpr ⟨e,a,rfl⟩);obtain⟨i,v⟩:=x;have g:(e.1==i)=false:=by simpa using ne
    simp[List.lookup,g,c f a]
def au {xs c:kn Rat}(h:xs.Perm c):xs.sum=c.sum:=by
 induction h with
 | nil=>rfl
 | cons x _ d=>rw[AAo,AAo,d]
 | swap x y l=>simp only[AAo];grind
 | trans _ _ a b=>rw[a,b]
def Yr {w:Wd}{k:Nat}{m:kn (Int×Int)}{ns:kn Int}(d:ns.Perm (Am m))(f:(Am m).Nodup)(pos:∀e∈m,0<e.2)(n:0<D1 m):Cq w k (GB m ns)*(D1 m:Nat)=Dr (fK w k) m:=by
 have g:Cq w k (GB m ns)=Cq w k (GB m (Am m)):=by unfold Cq GB;exact au ((d.map _).map _)
 have key:∀e∈m,((((m.lookup e.1).getD 0).fdiv (D1 m:Nat):Int):Rat)*(D1 m:Nat)=e.2:=λe he=>by
  rw[PX f he,ADK];have p:=pos e he;have b:=(Mt m 0).2 e he;have b:((D1 m:Nat):Int) ∣ e.2:=by
   have:((D1 m:Nat):Int) ∣ ((e.2.toNat:Nat):Int):=Int.natCast_dvd_natCast.mpr b
   rwa [Int.toNat_of_nonneg (by omega)] at this
  rw[ABi _ (by omega)];have:=Int.ediv_mul_cancel b;rw[<-ABD (D1 m),<-AAa,this]
 rw[g];unfold Cq GB Am Dr;rw[AA3,AA3];generalize o:D1 m=G at *;have c:∀a:kn (Int×Int),(∀e∈a,e∈m)->(a.map ((λe:Int×Rat=>e.2*fK w k e.1) ∘ (λk=>(k,((((m.lookup k).getD 0).fdiv (G:Nat):Int):Rat))) ∘ λx=>x.1)).sum*(G:Nat)=(a.map λe=>(e.2:Rat)*fK w k e.1).sum:=by
  intro a;induction a with
  | nil=>intro _;simp
  | cons x a j=> intro h;have i:=j λe he=>h e (by simp[he]);have l:=key x (h x (by simp));simp only[AAM,AAo,Function.comp] at i ⊢;rw[<-i,<-l];grind
 exact c m λe he=>he
def jg {w:Wd}{N:Nat}{p:B3}(hp:QK w p)(pos:∀e∈p.w,0<e.2/\e.2.natAbs<2^N)(hl:p.w.length<=12)(g:p.c1=0)(j:p.c2=0)(c0:p.c0<0\/(p.c0=0/\p.s=1))(ne:p.w≠ []){ns:kn Int}(d:ns.Perm (p.w.map (·.1)))(l:ns.Pairwise (· <= ·)):V0 (N+1) w (GB p.w ns):=by
 have f:0<D1 p.w:=Qb p.w 0 (.inr ne) λe he=>(pos e he).1;have d:ns.Perm (Am p.w):=d;have S:=λk=>Yr (w:=w) (k:=k) d hp.n (λe he=>(pos e he).1) f;have m:(0:Rat)<((D1 p.w:Nat):Rat):=by exact_mod_cast f
 have o:ns.Nodup:=d.nodup_iff.mpr hp.n;have zero:∀k,Dr (fK w k) p.w=0->Cq w k (GB p.w ns)=0:=λk h=>by
  have:=S k;rw[h] at this;rcases ABY.mp this with z|z
  .exact z
  .grind
 have vals:∀i∈ns,0<((p.w.lookup i).getD 0).fdiv (D1 p.w:Nat)/\(((p.w.lookup i).getD 0).fdiv (D1 p.w:Nat)).natAbs<2^N:=λi hi=>by
  obtain⟨e,he,rfl⟩:=AAK.mp (d.mem_iff.mp hi);rw[PX hp.n he,ADK,ABi _ (by omega)];obtain⟨A,B⟩:=pos e he;have r:=(Mt p.w 0).2 e he;have t:=AB3 (by omega) r;have C:0<e.2.toNat/D1 p.w:=Nat.div_pos t f;have D:e.2.toNat/D1 p.w<=e.2.toNat:=ABz ..;have u:e.2/((D1 p.w:Nat):Int)=((e.2.toNat/D1 p.w:Nat):Int):=by rw[AB2,Int.toNat_of_nonneg (by omega)]
  rw[u];omega
 refine⟨?_, ?_, ?_, ?_,zero 1 (by rw[<-hp.b,g];rfl),zero 2 (by rw[<-hp.c,j];rfl), ?_⟩
 .refine List.pairwise_map.mpr ?_;have:ns.Pairwise λa b=>a<=b/\a≠b:=l.and o;exact this.imp λ{a b} h=>by show a<b;omega
 .intro e he;obtain⟨i,hi,rfl⟩:=AAK.mp he;exact hp.k i (d.mem_iff.mp hi)
 .intro e he;obtain⟨i,hi,rfl⟩:=AAK.mp he;obtain⟨v,x⟩:=vals i hi;refine⟨Rat.intCast_pos.mpr v,⟨?_, ?_⟩⟩
  .rw [Rat.num_intCast];exact Al x (by omega)
  .rw [Rat.den_intCast];exact AAV (by decide:1<2^1) (ACc (by decide) (by omega))
 .unfold GB;rw[AAO,d.length_eq];unfold Am;rw[AAO];exact hl
 .have:=S 0;rw[<-hp.a] at this;rcases c0 with z|⟨z,y⟩
  .left;have:Cq w 0 (GB p.w ns)*((D1 p.w:Nat):Rat)<0:=by rw[this];exact_mod_cast z
   by_cases q:0<=Cq w 0 (GB p.w ns)
   .have:=Rat.mul_nonneg q (Rat.le_of_lt m);grind
   .grind
  .right;refine⟨zero 0 (by rw[<-hp.a,z];rfl), ?_⟩;obtain⟨i,hi,e⟩:=hp.s y;exact⟨_,AAK.mpr ⟨i,d.mem_iff.mpr hi,rfl⟩,e⟩
instance{p:B3}{Q:PV->Prop}:Wp (Mp (Aw p) .non Q) (Q (.bl true)):=⟨id⟩
def bn {n:Nat}(h:n<12){Q:PV->Prop}(q:Q (.int (strN n))):An (.tup [(.int 0),(.int 1),(.int 0),(.int 1),(.int 0),(.int 0),(.int 1),(.int 1),(.int 1),(.int 1),(.int 1),(.int 1)]) (.int n) Q:=by
 have cs:n=0\/n=1\/n=2\/n=3\/n=4\/n=5\/n=6\/n=7\/n=8\/n=9\/n=10\/n=11:=by omega
 rcases cs with rfl|rfl|rfl|rfl|rfl|rfl|rfl|rfl|rfl|rfl|rfl|rfl <;> exact q
def JE (w:Wd):(D5 w).length=12:=by simp[D5]
def JF (w:Wd){n:Nat}(h:n<12):Fa w n∈D5 w:=AAK.mpr ⟨n,ABA.mpr h,rfl⟩
def Yl {a:ke}{ps:kn B3}(h:ps.length<=12):(Ef a ps).length<=1000:=by
 unfold Ef;rw[AAi,ACl];have f:(ps.filter λp=>decide ((p.pr a).c1=0)).length<=12:=AAX (ACS ..) h;have c:(ps.filter λp=>decide (0<(p.pr a).c1)).length<=12:=AAX (ACS ..) h;have d:(ps.filter λp=>decide ((p.pr a).c1<0)).length<=12:=AAX (ACS ..) h;generalize (ps.filter λp=>decide ((p.pr a).c1=0))=zs at *;generalize (ps.filter λp=>decide (0<(p.pr a).c1))=b at *;generalize (ps.filter λp=>decide ((p.pr a).c1<0))=hs at *;have:∀b:kn B3,(b.map λl=>(hs.map λh=>A7 a l h).length).sum=b.length*hs.length:=λb=>by
  induction b with
  | nil=>simp
  | cons x b e=>simp[AAM,AAo,ABU] at e ⊢;omega
 rw[this];have:=ABE c d;omega
def cH {ps:kn B3}{N:Nat}(h:∀p∈ps,Bf N p/\iF 1 N p.w):∀p∈Ef true ps,Bf (2*N+4) p/\iF 2 (2*N+4) p.w:=by
 intro p hp;unfold Ef at hp;rcases AAQ.mp hp with hp|hp
 .obtain ⟨k,w⟩:=h p (AAZ.mp hp).1;exact⟨⟨Al k.a (by omega),Al k.b (by omega),Al k.c (by omega),λe he=>Al (k.w e he) (by omega),k.l,k.s⟩,⟨λe he=>⟨(w.p e he).1,Al (w.p e he).2 (by omega)⟩,by have:=w.l;omega,w.n⟩⟩
 .obtain ⟨l,hl,hp⟩:=AA7.mp hp;obtain⟨h',d,rfl⟩:=AAK.mp hp;obtain⟨hl,f⟩:=AAZ.mp hl;obtain⟨d,g⟩:=AAZ.mp d;exact WF (h l hl).1 (h h' d).1 (h l hl).2 (h h' d).2 (by decide) (AA5 f) (AA5 g)
def RF {w:Wd}{W:Nat}(ok:Hj W w){n:Nat}(c:n<12):∃S:Rat,0<S/\((Fa w n).c1:Rat)=(Ai w n).2.1*S/\((Fa w n).c2:Rat)=(Ai w n).2.2*S:=by obtain⟨a,b2,b⟩:=EY ok n;obtain⟨h1,h2,_⟩:=Gq (W:=3*W+2) 3 [(Ai w n).1,(Ai w n).2.1,(Ai w n).2.2] rfl (by simp;exact⟨a,b2,b⟩);exact⟨((Fd [(Ai w n).1,(Ai w n).2.1,(Ai w n).2.2] :Nat):Rat),by exact_mod_cast h1,F0 (h2 _ (by simp)),F0 (h2 _ (by simp))⟩
def KF {x:Int}{y:Rat}{S:Rat}(a:0<S)(e:(x:Rat)=y*S):(0<y->0<x)/\(y=0->x=0)/\(y<0->x<0):=by
 refine⟨λh=> ?_,λh=> ?_,λh=> ?_⟩
 .have:(0:Rat)<x:=by rw[e];exact ACR h a
  exact_mod_cast this
 .have:(x:Rat)=0:=by rw[e,h];grind
  exact_mod_cast this
 .have p:0 < -y*S:=ACR (by grind) a;have:(x:Rat)<0:=by rw[e];grind
  exact_mod_cast this
def gC (m:kn (Int×Int))(ns:kn Int):Gc (GB m ns)= .tup (ns.map (fE m)):=by unfold Gc GB;rw[AA3];rfl
def Vo {w:Wd}{ps:kn B3}(h:∀p∈ps,QK w p)(hs:∀p∈ps,p.s=0\/p.s=1):∀p∈Ef true ps,QK w p/\p.c2=0:=by
 intro p hp;unfold Ef at hp;rcases AAQ.mp hp with hp|hp
 .obtain ⟨hp,z⟩:=AAZ.mp hp;exact⟨h p hp,AA5 z⟩
 .obtain ⟨l,hl,hp⟩:=AA7.mp hp;obtain⟨h',a,rfl⟩:=AAK.mp hp;obtain⟨hl,b⟩:=AAZ.mp hl;obtain⟨a,c⟩:=AAZ.mp a;refine⟨Nb (h l hl) (h h' a) (hs l hl) (hs h' a), ?_⟩;show -h'.c2*l.c2+l.c2*h'.c2=0;grind
def aU {N:Nat}:Bd (N+1) (1:Rat):=⟨AAV (by decide:1<2^1) (ACc (by decide) (by omega)),AAV (by decide:1<2^1) (ACc (by decide) (by omega))⟩
def jh {w:Wd}{N:Nat}(h:w.e'.1+w.l'<=w.b.1)(hN:1<=N):V0 N w [(0,1),(3,1),(5,1)] :=by
 obtain⟨N,rfl⟩:∃n,N=n+1:=⟨N-1,by omega⟩;have e:∀k,Cq w k [(0,1),(3,1),(5,1)] =fK w k 0+fK w k 3+fK w k 5:=λk=>by unfold Cq;simp only[AAM,ABy,AAo,AD9];grind
 refine⟨by simp,by simp,λe he=> ?_,by decide, ?_, ?_, ?_⟩
 .simp only[AAJ,AAe,AAf] at he;rcases he with rfl|rfl|rfl <;> exact⟨by decide,aU⟩
 .rw [e];show (1:Rat)+0 + -1=0;grind
 .rw [e];show (0:Rat) + -1+1=0;grind
 .rw [e];show -w.b.1+w.e'.1+w.l'<0\/(-w.b.1+w.e'.1+w.l'=0/\_);by_cases z:w.e'.1+w.l'=w.b.1
  .exact .inr ⟨by grind,(3,1),by simp,rfl⟩
  .exact .inl (by grind)
def ji {w:Wd}{N:Nat}(h:w.e.1+w.l<=w.b'.1)(hN:1<=N):V0 N w [(1,1),(2,1),(4,1)] :=by
 obtain⟨N,rfl⟩:∃n,N=n+1:=⟨N-1,by omega⟩;have e:∀k,Cq w k [(1,1),(2,1),(4,1)] =fK w k 1+fK w k 2+fK w k 4:=λk=>by unfold Cq;simp only[AAM,ABy,AAo,AD9];grind
 refine⟨by simp,by simp,λe he=> ?_,by decide, ?_, ?_, ?_⟩
 .simp only[AAJ,AAe,AAf] at he;rcases he with rfl|rfl|rfl <;> exact⟨by decide,aU⟩
 .rw [e];show (-1:Rat)+0+1=0;grind
 .rw [e];show (0:Rat)+1 + -1=0;grind
 .rw [e];show w.e.1 + -w.b'.1+w.l<0\/(w.e.1 + -w.b'.1+w.l=0/\_);by_cases z:w.e.1+w.l=w.b'.1
  .exact .inr ⟨by grind,(1,1),by simp,rfl⟩
  .exact .inl (by grind)
def U5 {w:Wd}{N:Nat}(h:iG N w)(hN:N<=770){Q:PV->Prop}(K:(¬∃s t,Wl w s t)->∀rows,V0 (4*N+13) w rows->Q (.tup [.non,Gc rows]))(qm:∀s t,Wl w s t->Bd (4*N+12) s->Bd (10*N+30) t->Q (.tup [.tup [fr s,fr t], .non])):FU [Y2 w] Q:=by
 have r:=em h;obtain⟨W,ok,hW⟩:=h.W;have hh:=λs t=>jw ok h.sh s t;have sy:∀p∈D5 w,QK w p:=λp hp=>by obtain⟨n,hn,rfl⟩:=AAK.mp hp;exact fF ok (ABA.mp hn)
 have c0:=RF ok (n:=0) (by decide);have c1:=RF ok (n:=1) (by decide);have c2:=RF ok (n:=2) (by decide);have c3:=RF ok (n:=3) (by decide);have L:=λn=>EY ok n;apply Tk;ac_rfl;refine lE ok (by omega) (λx u=> ?_) (λx u=> ?_) ?_
 .have b:=K x [(0,1),(3,1),(5,1)] (jh u (by omega));rw[show Gc [(0,1),(3,1),(5,1)] =tW from rfl] at b;unfold tW at b ⊢;ac_rfl;exact b
 .have b:=K x [(1,1),(2,1),(4,1)] (ji u (by omega));rw[show Gc [(1,1),(2,1),(4,1)] =tX from rfl] at b;unfold tX at b ⊢;ac_rfl;exact b
 ac_rfl;refine LZ (λi f=>f=((List.range i).map (Fa w)).map Aw) (λf e=> ?_) (λi hi f R F e=> ?_) rfl;rotate_left
 .have b:=F (f ++ [Aw (Fa w i)]) (by rw[e,List.range_succ,ABl,ABl];rfl);clear F;have hi:i<12:=hi;rw[show (0:Int)+(i:Int)=i by omega];ac_rfl;refine WN ok (by omega) hi ?_;unfold LU;ac_rfl;refine bn hi ?_;ac_rfl;obtain⟨G,b2,b3⟩:=L i;refine YZ G b2 b3 (by omega) ?_;exact b
 subst e;show Aq 2 (.lst ((D5 w).map Aw)) _ _;ac_rfl;have hs:∀p∈D5 w,p.s=0\/p.s=1:=λp hp=>(r p hp).1.s;have y:∃p∈D5 w,0<p.c2:=by obtain⟨S,g,_,e⟩:=c2;exact⟨_,JF w (n:=2) (by decide),(KF g e).1 (by simp only[Ai];decide)⟩
 have vn:∃p∈D5 w,p.c2<0:=by obtain⟨S,g,_,e⟩:=c3;exact⟨_,JF w (n:=3) (by decide),(KF g e).2.2 (by simp only[Ai];decide)⟩
 have FM:=λs=>fm hs y vn s;have m0:∃p∈Ef true (D5 w),0<(p.pr false).c1*1:=by obtain⟨S,g,e,M⟩:=c0;refine⟨Fa w 0,AAQ.mpr (.inl (AAZ.mpr ⟨JF w (by decide),AAP ((KF g M).2.1 (by simp only[Ai]))⟩)), ?_⟩;have:=(KF g e).1 (by simp only[Ai];decide);show 0<(Fa w 0).c1*1;omega
 have m1:∃p∈Ef true (D5 w),0<(p.pr false).c1 * -1:=by obtain⟨S,g,e,M⟩:=c1;refine⟨Fa w 1,AAQ.mpr (.inl (AAZ.mpr ⟨JF w (by decide),AAP ((KF g M).2.1 (by simp only[Ai]))⟩)), ?_⟩;have:=(KF g e).2.2 (by simp only[Ai];decide);show 0<(Fa w 1).c1 * -1;omega
 have d:=cH (ps:=D5 w) λp hp=>⟨(r p hp).1,(r p hp).2.1⟩;have st:=Vo sy hs;have u:=Yl (a:=true) (ps:=D5 w) (by rw[JE];decide);refine⟨rfl, ?_⟩;show EM [.lst ((D5 w).map Aw), .int (N2 true), .int 2] _;refine UC rfl (λp hp=>(r p hp).1) (λp hp=>(r p hp).2.2) (by omega) (by rw[JE];decide) ?_;generalize Ef true (D5 w)=first at *
 have j:∀p∈first,p.s=0\/p.s=1:=λp hp=>(d p hp).1.s
 have A:∀q∈first.map (B3.pr false),q.s=0\/q.s=1:=λq c=>by obtain⟨p,hp,rfl⟩:=AAK.mp c;exact j p hp
 obtain⟨l,e1,k,gl,t1⟩:=E5 (a:=false) (.inl rfl) j m0;obtain⟨h,e2,m,O,t2⟩:=E5 (a:=false) (.inr rfl) j m1;have gl:0<(l.pr false).c1:=by omega
 have O:(h.pr false).c1<0:=by omega
 have cn:=Kh (l:=l.pr false) (h:=h.pr false) gl O (j l k) (j h m) (A7 false l h).w;have cw:=WF (a:=false) (d l k).1 (d h m).1 (d l k).2 (d h m).2 (by decide) gl O;ac_rfl;show De [.lst (first.map Aw), .int (N2 false)] _;refine X2 rfl (λp hp=>(d p hp).1) (by omega) u e1 e2 (λP nc=> ?_) (λp hp H=> ?_)
 .obtain ⟨s0,a1,a2⟩:=cn.mp nc;have B:=Xh A t1 t2 (λq c z=>by
   obtain⟨p,hp,rfl⟩:=AAK.mp c;exact P p hp z) a1 a2
  have md:=Pb A t1 t2 B;have G:=Rl ((d l k).1.pr false) (by omega);have b2:=Rl ((d h m).1.pr false) (by omega);have bs:=aI G b2;obtain⟨t0,ht⟩:=(FM _).mp λp hp=>md _ (AAK.mpr ⟨p,hp,rfl⟩);ac_rfl;show CY [.lst (first.map Aw), .int (N2 false)] _;refine Pq rfl (λp hp=>(d p hp).1) (by omega) u e1 e2 (by omega) (by omega) (G.mono (by omega)) (b2.mono (by omega)) ?_;generalize (DH (l.pr false)+DH (h.pr false))/2=s at *;have iz:(0:Int)<s.den:=by exact_mod_cast s.den_pos
  have I:∀q∈(D5 w).map (C6 false s),Bf (N+(2*(2*(N)+4)+4)+1) q:=λq c=>by obtain⟨p,hp,rfl⟩:=AAK.mp c;exact j5 (r p hp).1 bs
  have T:∀q∈(D5 w).map (C6 false s),q.s=0\/q.s=1:=λq c=>(I q c).s;have lq:((D5 w).map (C6 false s)).length<=1000:=by rw[AAO,JE];decide
  have n0:∃p∈(D5 w).map (C6 false s),0<(p.pr true).c1*1:=by obtain⟨p,hp,z⟩:=y;refine⟨_,AAK.mpr ⟨p,hp,rfl⟩, ?_⟩;show 0<(s.den:Int)*p.c2*1;rw[ABt];exact ABK iz z
  have n1:∃p∈(D5 w).map (C6 false s),0<(p.pr true).c1 * -1:=by obtain⟨p,hp,z⟩:=vn;refine⟨_,AAK.mpr ⟨p,hp,rfl⟩, ?_⟩;show 0<(s.den:Int)*p.c2 * -1;rw[show (s.den:Int)*p.c2 * -1=s.den * -p.c2 by grind];exact ABK iz (by omega)
  obtain⟨l',U,X,gl',Y⟩:=E5 (a:=true) (.inl rfl) T n0;obtain⟨h',Z,mh',gh',t2'⟩:=E5 (a:=true) (.inr rfl) T n1;have md':=Pb (λq c=>by
   obtain⟨p,hp,rfl⟩:=AAK.mp c;exact T p hp) Y t2' (t0:=t0) λq c=>by obtain⟨q',LM,rfl⟩:=AAK.mp c;obtain⟨p,hp,rfl⟩:=AAK.mp LM;exact CK.mpr (ht p hp)
  have C:=Rl ((I l' X).pr true) (by omega);have D:=Rl ((I h' mh').pr true) (by omega);have bt:=aI C D;have b:=qm s _ ((hh s _).mp λp hp=>CK.mp (md' _ (AAK.mpr ⟨_,AAK.mpr ⟨p,hp,rfl⟩,rfl⟩))) (bs.mono (by omega)) (bt.mono (by omega));ac_rfl;refine⟨by rw[JE];decide, ?_⟩;refine EG Aw Aw (C6 false s) (λp=>p∈D5 w) (λp hp R F=> ?_) (D5 w) [] (λp hp=>hp) ?_
  .ac_rfl;show Dx [Aw p, .int (N2 false),fr s] _;exact VJ (r p hp).1 bs (by omega) (by omega) F
  rw[AAx];generalize (D5 w).map (C6 false s)=qs at *;ac_rfl;show CY [.lst (qs.map Aw), .int (N2 true)] _;refine Pq rfl I (by omega) lq U Z (by omega) (by omega) (C.mono (by omega)) (D.mono (by omega)) ?_;generalize (DH (l'.pr true)+DH (h'.pr true))/2=t at *;ac_rfl;exact b
 .have x:¬∃s t,Wl w s t:=by
   rintro⟨s,t,o⟩;have B:=(FM s).mpr ⟨t,(hh s t).mpr o⟩;rcases hp with⟨hp,z⟩|rfl
   .have:=(Pe z (j p hp) s).mp (B p hp);rw[this] at H;cases H
   .have:=cn.mpr ⟨s,B l k,B h m⟩;have E:HJ ⟨-(h.pr false).c1*(l.pr false).c0+(l.pr false).c1*(h.pr false).c0, -(h.pr false).c1*(l.pr false).c1+(l.pr false).c1*(h.pr false).c1,max (l.pr false).s (h.pr false).s,(A7 false l h).w⟩=true:=H;rw[this] at E;cases E
  have v:iF 4 (2*(2*(N)+4)+4) p.w:=by
   rcases hp with⟨hp,z⟩|rfl
   .have J:=(d p hp).2;exact⟨λe he=>⟨(J.p e he).1,Al (J.p e he).2 (by omega)⟩,by have:=J.l;omega,J.n⟩
   .exact cw.2
  have sp:QK w p/\p.c1=0/\p.c2=0:=by
   rcases hp with⟨hp,z⟩|rfl
   .exact ⟨(st p hp).1,z,(st p hp).2⟩
   .refine ⟨Nb (st l k).1 (st h m).1 (j l k) (j h m), ?_, ?_⟩
    .show -(h.pr false).c1*l.c1+(l.pr false).c1*h.c1=0;show -h.c1*l.c1+l.c1*h.c1=0;grind
    .show -(h.pr false).c1*l.c2+(l.pr false).c1*h.c2=0;rw[(st l k).2,(st h m).2];grind
  have P:p.c0<0\/(p.c0=0/\p.s=1):=by have:decide (p.c0<0\/(p.c0=0/\p.s=1))=true:=H;exact AA5 this
  have b:=λns pm pw=>K x _ (cast (congrArg (λn=>V0 n w _) (by omega:2*(2*N+4)+4+1=4*N+13)) (jg (ns:=ns) sp.1 v.p (by have:=v.l;omega) sp.2.1 sp.2.2 P v.n pm pw));ac_rfl;refine Ym v.p v.n (by have:=v.l;omega) (by omega) λns pm pw=> ?_;have b:=b ns pm pw;rw[gC] at b;ac_rfl;exact b
def Rr {a:Type}:Nat->kn a->kn (Nat×a)
 | _, [] => []
 | k,x::xs=>(k,x)::Rr (k+1) xs
theorem Fp {a:Type}:∀(k:Nat) (xs:kn a),(Rr k xs).length=xs.length
 | _, [] =>rfl
 | k,x::xs=>by simp[Rr,Fp (k+1) xs]
theorem Iu {a:Type}:∀(k:Nat) (xs:kn a),(Rr k xs).map (·.2)=xs
 | _, [] =>rfl
 | k,x::xs=>by simp[Rr,Iu (k+1) xs]
theorem Jr {a:Type}(g:a->PV):∀(k:Nat) (xs:kn a),EX k (xs.map g)=(Rr k xs).map λp=> .tup [.int p.1,g p.2]
 | _, [] =>rfl
 | k,x::xs=>by have:=Jr g (k+1) xs;simp only[AAM,EX,Rr];rw[<-this]
def Dq (cs ds:kn C4)(b e:T3)(d:Rat×Rat)(p q:C4×C4):Wd:=⟨p.1,p.2,q.1,q.2,szs b e d,b.2.2,e.2.2⟩
def wrow (x:Nat×Nat×Wd):PV:= .tup [.int x.1, .int x.2.1,Y2 x.2.2]
def JX (cs ds:kn C4)(b e:T3)(d:Rat×Rat):kn (Nat×Nat×Wd):=(Rr 0 (FF cs)).flatMap λp=>(Rr 0 (FF ds)).map λq=>(p.1,q.1,Dq cs ds b e d p.2 q.2)
def Rn {cs ds:kn C4}{b e:T3}{d:Rat×Rat}{x:Nat×Nat×Wd}(h:x∈JX cs ds b e d):∃p∈FF cs,∃q∈FF ds,x.2.2=Dq cs ds b e d p q:=by obtain⟨p,hp,h⟩:=AA7.mp h;obtain⟨q,a,rfl⟩:=AAK.mp h;exact⟨p.2,by rw[<-Iu 0 (FF cs)];exact AAK.mpr ⟨p,hp,rfl⟩,q.2,by rw[<-Iu 0 (FF ds)];exact AAK.mpr ⟨q,a,rfl⟩,rfl⟩
def dh {cs ds:kn C4}{b e:T3}{d:Rat×Rat}{p q:C4×C4}(hp:p∈FF cs)(a:q∈FF ds):∃x∈JX cs ds b e d,x.2.2=Dq cs ds b e d p q:=by rw[<-Iu 0 (FF cs)] at hp;rw[<-Iu 0 (FF ds)] at a;obtain⟨c,f,rfl⟩:=AAK.mp hp;obtain⟨g,h,rfl⟩:=AAK.mp a;exact⟨_,AA7.mpr ⟨c,f,AAK.mpr ⟨g,h,rfl⟩⟩,rfl⟩
def Ze {cs:kn C4}{b:T3}{v:PV}(h:Hh cs b v):∃p w,KZ cs p/\XU b w/\∀{R:PV->Prop},(R p->An v (.int 0) R)/\(R w->An v (.int 1) R):=by
 obtain⟨p,w,h1,h2,rfl|rfl⟩:=h
 .exact ⟨p,w,h1,h2,id,id⟩
 .exact ⟨p,w,h1,h2,id,id⟩
def Ps {cs ds:kn C4}{b e:T3}{d:Rat×Rat}{v w u:PV}{B:Nat}(hv:Hh cs b v)(hw:Hh ds e w)(hu:XR d u)(H:IQ 100 b)(I:IQ 100 e)(J:Bd 100 d.1)(b2:Bd 100 d.2)(hc:∀c∈cs,JV B c)(K:QJ cs)(h2:2<=cs.length)(hl:cs.length<=100)(L:∀c∈ds,JV B c)(M:QJ ds)(N:2<=ds.length)(U:ds.length<=100)(E:6*B+3<=3900){Q:PV->Prop}(q:Q (.lst ((JX cs ds b e d).map wrow))):A0 [v,w,u] Q:=by
 have sz:=λ{Q}=>bh (Q:=Q) hv hw hu H I J b2;obtain⟨W,X,l,m,i⟩:=Ze hv;obtain⟨Y,Z,n,o,j⟩:=Ze hw;have r:(FF cs).length<=100:=by unfold FF;simp;omega
 have s:(FF ds).length<=100:=by unfold FF;simp;omega
 apply Ol;ac_rfl;refine sz ?_;ac_rfl;refine i.2 ?_;ac_rfl;refine(ZV m).2.2 ?_;ac_rfl;refine j.2 ?_;ac_rfl;refine(ZV o).2.2 ?_;ac_rfl;refine j.1 ?_;ac_rfl;refine ay n L M N (by omega) E ?_;ac_rfl;refine i.1 ?_;ac_rfl;refine ay l hc K h2 (by omega) E ?_;ac_rfl;show Cv _ _ _ (EX 0 ((FF cs).map λp=>CN p.1 p.2)) _;rw[Jr];unfold JX at q;have O:(Rr 0 (FF cs)).length<=100:=by rw[Fp];exact r
 have t:(Rr 0 (FF ds)).length<=100:=by rw[Fp];exact s
 have y:EX 0 ((FF ds).map λp=>CN p.1 p.2)=(Rr 0 (FF ds)).map λp=> .tup [.int p.1,CN p.2.1 p.2.2] :=Jr _ 0 _;generalize (Rr 0 (FF cs))=us1 at *;generalize (Rr 0 (FF ds))=us2 at *;generalize hP:((FF ds).map λp=>CN p.1 p.2)=P2 at *;refine Cj (λp:Nat×C4×C4=> .tup [.int p.1,CN p.2.1 p.2.2]) (λf vs τ=>∃z C g a,τ= [some (.val v),some (.val w),some (.val u),some (.val (.lst [fr (szs b e d).1,fr (szs b e d).2.1,fr (szs b e d).2.2])),some (.val (.tup [fr b.2.2,fr e.2.2])),some (.val (.lst P2)),some (.own ((f.flatMap λp=>us2.map λq=>(p.1,q.1,Dq cs ds b e d p.2 q.2)).map wrow)),z,C,g,a]) ?_ ?_ ⟨none,none,none,none,rfl⟩
 .rintro τ ⟨z,C,g,a,rfl⟩;ac_rfl;exact q
 .rintro f p vs P τ R F ⟨z,C,g,a,rfl⟩;have ul:f.length<=100:=by have:=congrArg List.length P;simp at this;omega
  ac_rfl;show Cv _ _ _ (EX 0 P2) _;rw[y];refine Cj (λp:Nat×C4×C4=> .tup [.int p.1,CN p.2.1 p.2.2]) (λh xs τ=>∃g a,τ= [some (.val v),some (.val w),some (.val u),some (.val (.lst [fr (szs b e d).1,fr (szs b e d).2.1,fr (szs b e d).2.2])),some (.val (.tup [fr b.2.2,fr e.2.2])),some (.val (.lst P2)),some (.own (((f.flatMap λp=>us2.map λq=>(p.1,q.1,Dq cs ds b e d p.2 q.2))++h.map λq=>(p.1,q.1,Dq cs ds b e d p.2 q.2)).map wrow)),some (.val (.int p.1)),some (.val (CN p.2.1 p.2.2)),g,a]) ?_ ?_ ⟨g,a,by simp⟩
  .rintro τ ⟨g,a,rfl⟩;exact F _ ⟨some (.val (.int p.1)),some (.val (CN p.2.1 p.2.2)),g,a,by simp[List.flatMap_append]⟩
  .rintro h x xs D τ R' G ⟨g,a,rfl⟩;have wl:h.length<=100:=by have:=congrArg List.length D;simp at this;omega
   have k:=G [some (.val v),some (.val w),some (.val u),some (.val (.lst [fr (szs b e d).1,fr (szs b e d).2.1,fr (szs b e d).2.2])),some (.val (.tup [fr b.2.2,fr e.2.2])),some (.val (.lst P2)),some (.own (((f.flatMap λp=>us2.map λq=>(p.1,q.1,Dq cs ds b e d p.2 q.2))++(h ++ [x]).map λq=>(p.1,q.1,Dq cs ds b e d p.2 q.2)).map wrow)),some (.val (.int p.1)),some (.val (CN p.2.1 p.2.2)),some (.val (.int x.1)),some (.val (CN x.2.1 x.2.2))] ⟨_,_,rfl⟩;clear G F;have S:∀A:kn (Nat×Nat×Wd),(A++(h ++ [x]).map λq=>(p.1,q.1,Dq cs ds b e d p.2 q.2)).map wrow=(A++h.map λq=>(p.1,q.1,Dq cs ds b e d p.2 q.2)).map wrow ++ [wrow (p.1,x.1,Dq cs ds b e d p.2 x.2)] :=λA=>by simp
   rw[S] at k;have len:(((f.flatMap λp=>us2.map λq=>(p.1,q.1,Dq cs ds b e d p.2 q.2))++h.map λq=>(p.1,q.1,Dq cs ds b e d p.2 q.2)).map wrow).length<=10100:=by
    have:(f.flatMap λp=>us2.map λq=>(p.1,q.1,Dq cs ds b e d p.2 q.2)).length<=100*100:=by
     rw[ACl];have:∀f:kn (Nat×C4×C4),(f.map λp=>(us2.map λq=>(p.1,q.1,Dq cs ds b e d p.2 q.2)).length).sum=f.length*us2.length:=λf=>by
      induction f with
      | nil=>simp
      | cons x f T=>simp[AAM,AAo,ABU] at T ⊢;omega
     rw[this];exact ABE ul t
    simp only[AAO,AAi];omega
   generalize (((f.flatMap λp=>us2.map λq=>(p.1,q.1,Dq cs ds b e d p.2 q.2))++h.map λq=>(p.1,q.1,Dq cs ds b e d p.2 q.2)).map wrow)=told at *;ac_rfl;refine⟨M9 len (by decide), ?_⟩;ac_rfl;exact k
def Az (x:(Nat×Nat×Wd)×kn (Int×Rat)):PV:= .tup [.int x.1.1, .int x.1.2.1,Gc x.2]
def U6 {v w u:PV}{L:kn (Nat×Nat×Wd)}(hw:∀{Q:PV->Prop},Q (.lst (L.map wrow))->A0 [v,w,u] Q)(hl:L.length<=10100){N:Nat}(hN:N<=770)(r:∀x∈L,iG N x.2.2){Q:PV->Prop}(z:(∀x∈L,¬∃s t,Wl x.2.2 s t)->∀ps:kn (kn (Int×Rat)),L.length=ps.length->(∀y∈L.zip ps,V0 (4*N+13) y.1.2.2 y.2)->Q (.tup [.str "apart", .tup ((L.zip ps).map Az)]))(A:∀x∈L,∀s t,Wl x.2.2 s t->Bd (4*N+12) s->Bd (10*N+30) t->Q (.tup [.str "meet",fr s,fr t])):DA [v,w,u] Q:=by
 apply Tl;ac_rfl;refine hw ?_;ac_rfl;refine Cj wrow (λb vs τ=>(∀x∈b,¬∃s t,Wl x.2.2 s t)/\∃(ps:kn (kn (Int×Rat))) (d f g h i:ki AV),b.length=ps.length/\(∀y∈b.zip ps,V0 (4*N+13) y.1.2.2 y.2)/\τ= [some (.val v),some (.val w),some (.val u),some (.own ((b.zip ps).map Az)),d,f,g,h,i]) ?_ ?_ ⟨by simp, [],_,_,_,_,_,rfl,by simp,rfl⟩
 .rintro τ ⟨j,ps,d,f,g,h,i,hl,hp,rfl⟩;have c:=z j ps hl hp;ac_rfl;exact c
 .rintro b x vs e τ R k ⟨j,ps,d,f,g,h,i,m,B,rfl⟩;have mx:x∈L:=by rw[<-e];simp
  have ul:b.length<=10100:=by have:=congrArg List.length e;simp at this;omega
  have l:=A x mx;unfold wrow;ac_rfl;refine U5 (r x mx) hN (λnx rows hp=> ?_) (λs t o bs bt=> ?_)
  .have p:(b ++ [x]).zip (ps ++ [rows])=b.zip ps ++ [(x,rows)] :=by rw[List.zip_append m];rfl
   have c:=k [some (.val v),some (.val w),some (.val u),some (.own ((b.zip ps).map Az ++ [Az (x,rows)])),some (.val (.int x.1)),some (.val (.int x.2.1)),some (.val (Y2 x.2.2)),some (.val .non),some (.val (Gc rows))] ⟨λy a=>by
    rcases AAQ.mp a with a|a
    .exact j y a
    .rw [AAT.mp a];exact nx,ps ++ [rows],_,_,_,_,_,by simp[m],λy a=>by
    rw[p] at a;rcases AAQ.mp a with a|a
    .exact B y a
    .rw [AAT.mp a];exact hp,by rw[p,ABl];rfl⟩
   clear k;have C:((b.zip ps).map Az).length<=10100:=by rw[AAO,ABL];omega
   generalize (b.zip ps).map Az=told at *;unfold Az Gc at c;unfold Gc;ac_rfl;refine⟨M9 (n:=10100) (by omega) (by decide), ?_⟩;ac_rfl;exact c
  .clear k;ac_rfl;exact l s t o bs bt
def Mul.get {D N:Nat}{a:Rat}(h:Mul D N a):∃k:Int,a*(D:Rat)=(k:Rat)/\k.natAbs<=N:=by
 obtain⟨b,k,rfl,hk⟩:=h;refine⟨k, ?_,hk⟩;have:(D:Rat)≠0:=by exact_mod_cast (by omega:D≠0)
 rw[ACQ,ABD];grind
def Mul.mk' {D N:Nat}{a:Rat}{k:Int}(b:0<D)(e:a*(D:Rat)=(k:Rat))(hk:k.natAbs<=N):Mul D N a:=by
 refine⟨b,k, ?_,hk⟩;have:(D:Rat)≠0:=by exact_mod_cast (by omega:D≠0)
 rw[ACQ,ABD];grind
def Mul.neg {D N:Nat}{a:Rat}(h:Mul D N a):Mul D N (-a):=by obtain⟨k,e,hk⟩:=h.get;exact .mk' h.1 (k:= -k) (by rw[Rat.intCast_neg,<-e];grind) (by omega)
def Mul.sub {D N M:Nat}{a b:Rat}(ha:Mul D N a)(hb:Mul D M b):Mul D (N+M) (a-b):=by rw[Rat.sub_eq_add_neg];exact ha.add hb.neg
def Mul.mul {D N E M:Nat}{a b:Rat}(ha:Mul D N a)(hb:Mul E M b):Mul (D*E) (N*M) (a*b):=by obtain⟨k,e,hk⟩:=ha.get;obtain⟨l,f,hl⟩:=hb.get;refine .mk' (AAw ha.1 hb.1) (k:=k*l) ?_ (by rw[AAv];exact ABE hk hl);rw[AAa,<-e,<-f,AEA];grind
def Mul.upc {D N c:Nat}{a:Rat}(ha:Mul D N a)(hc:0<c):Mul (D*c) (N*c) a:=by obtain⟨k,e,hk⟩:=ha.get;refine .mk' (AAw ha.1 hc) (k:=k*c) ?_ (by rw[AAv,AAu];exact ACT c hk);rw[AAa,<-e,AEA,ABD];grind
def Mul.den {D N:Nat}{a:Rat}(h:Mul D N a):a.den ∣ D:=by
 obtain⟨b,k,rfl,_⟩:=h;have e:=AA4 (Rat.divInt k D);rw[ADC (by exact_mod_cast (Rat.divInt k D).den_nz) (by omega)] at e;have c:=(Rat.divInt k D).reduced;generalize (Rat.divInt k D).num=x at e c;generalize (Rat.divInt k D).den=y at e c;have:y ∣ x.natAbs*D:=by have:=congrArg Int.natAbs e;rw[AAv,AAv,AAu,AAu] at this;exact⟨k.natAbs,by rw[this,ABZ]⟩
 exact Nat.Coprime.dvd_of_dvd_mul_left (Nat.Coprime.symm c) this
theorem W0 {D:Nat}:∀(n:Nat) (xs:kn Rat),xs.length=n->(∀x∈xs,x.den ∣ D)->Fd xs ∣ D
 | 0,xs,e,_=>by rw[AD0.mp e];exact Nat.one_dvd D
 | n+1,xs,e,h=>by
   obtain⟨a,x,rfl⟩:∃a x,xs=a ++ [x] :=⟨xs.dropLast,xs.getLast (by intro z;subst z;simp at e),(AD1 _).symm⟩;have b:=W0 n a (by simp at e;omega) λy c=>h y (by simp[c]);have hx:=h x (by simp);rw[Ra];have:Fd a*(x.den/Nat.gcd (Fd a) x.den)=Nat.lcm (Fd a) x.den:=by unfold Nat.lcm;rw[Nat.mul_div_assoc _ (AB1 ..)]
   rw[this];exact Nat.lcm_dvd b hx
def fG {D N S:Nat}{a:Rat}(h:Mul D N a)(b:S ∣ D)(ha:a.den ∣ S):(Rv S a).natAbs<=N:=by
 obtain⟨k,e,hk⟩:=h.get;obtain⟨c,rfl⟩:=b;have c0:0<c:=Nat.pos_of_ne_zero λz=>by have:=h.1;simp[z] at this
 have f:=F0 ha;have:((Rv S a*c:Int):Rat)=(k:Rat):=by rw[AAa,f,<-e,AEA,ABD];grind
 have:Rv S a*c=k:=by exact_mod_cast this
 have:(Rv S a).natAbs*c=k.natAbs:=by rw[<-this,AAv,AAu]
 have d:(Rv S a).natAbs*1<=(Rv S a).natAbs*c:=ABX _ c0;omega
def Wk {a b c:Rat}{D N B:Nat}{s n:Int}(ha:Mul D N a)(hb:Mul D N b)(hc:Mul D N c)(hs:s=0\/s=1)(hN:N<2^B)(d:D<2^B):Bf B (Oc a b c s n):=by have e:Fd [a,b,c] ∣ D:=W0 3 _ rfl (by simp;exact⟨ha.den,hb.den,hc.den⟩);obtain⟨W,f,g,h⟩:∃W,Bd W a/\Bd W b/\Bd W c:=⟨B,ha.bd hN d,hb.bd hN d,hc.bd hN d⟩;obtain⟨h1,h2,_⟩:=Gq (W:=W) 3 [a,b,c] rfl (by simp;exact⟨f,g,h⟩);have sl:=AAj (AB3 ha.1 e) d;have q:∀x,Mul D N x->x∈ [a,b,c] ->(Rv (Fd [a,b,c]) x).natAbs<2^B:=λx hx m=>AAj (fG hx e (h2 x m)) hN;exact⟨q a ha (by simp),q b hb (by simp),q c hc (by simp),by simp[Oc];exact sl,by simp[Oc],hs⟩
def iQ (k:Nat)(c:C4):Rat:=match k with | 0=>c.2.1|1=>c.2.2.1|_=>c.2.2.2
def fY (p:C4×C4)(k:Nat):Rat:=Yh p.1 p.2 (iQ k p.1) (iQ k p.2)
def Yw (p:C4×C4)(k:Nat):Rat:=ZS p.1 p.2 (iQ k p.1) (iQ k p.2)
structure rD (DT NT JM NS NB:Nat) (p:C4×C4):Prop where
 t1:Mul DT NT p.1.1
 t2:Mul DT NT p.2.1
 j:∃J,0<J/\J<=JM/\∀k,Mul J NS (fY p k)/\Mul J NB (Yw p k)
def pW {cs ds:kn C4}{b e:T3}{d:Rat×Rat}{p q:C4×C4}(k:Nat):sl (Dq cs ds b e d p q) k=fY p k/\Y1 (Dq cs ds b e d p q) k=fY q k/\ba (Dq cs ds b e d p q) k=Yw p k/\Yv (Dq cs ds b e d p q) k=Yw q k:=by rcases k with _|_|k <;> exact⟨rfl,rfl,rfl,rfl⟩
def kb (z:T3)(k:Nat):Rat:=match k with | 0=>z.1|1=>z.2.1|_=>z.2.2
def pX {cs ds:kn C4}{b e:T3}{d:Rat×Rat}{p q:C4×C4}(k:Nat):sz (Dq cs ds b e d p q) k=kb (szs b e d) k:=by rcases k with _|_|k <;> rfl
def XJ {g i f m l a r W N:Nat}{cs ds:kn C4}{b e:T3}{d:Rat×Rat}{p q:C4×C4}(hp:rD g i f m l p)(F:rD g i f m l q)(Q:∀k,Mul a r (kb (szs b e d) k))(hl:Mul g i b.2.2)(X:Mul g i e.2.2)(B:g<2^W)(C:i<2^W)(Y:f<2^W)(w4:m<2^W)(w5:l<2^W)(w6:a<2^W)(w7:r<2^W)(hW:3*W+2<=1300)(n1:f*f*a<2^N)(n2:r*(f*f)+2*(l*f*a)<2^N)(n3:m*f*a<2^N)(n4:g<2^N)(n5:i+g<2^N):iG N (Dq cs ds b e d p q):=by
 obtain⟨J,I,K,L⟩:=hp.j;obtain⟨h,s,t,u⟩:=F.j;have o:=λk=>pW (cs:=cs) (ds:=ds) (b:=b) (e:=e) (d:=d) (p:=p) (q:=q) k;have w:=λk=>pX (cs:=cs) (ds:=ds) (b:=b) (e:=e) (d:=d) (p:=p) (q:=q) k;have G:0<a:=(Q 0).1;have jj:J*h<=f*f:=ABE K t;have D0:0<J*h*a:=AAw (AAw I s) G;have DD:J*h*a<2^N:=AAj (ACT a jj) n1;have jW:J<2^W:=AAj K Y;have H:h<2^W:=AAj t Y;refine⟨⟨W,⟨hp.t1.bd C B,hp.t2.bd C B,F.t1.bd C B,F.t2.bd C B,hl.bd C B,X.bd C B,λk=> ?_,λk=> ?_,λk=> ?_,λk=> ?_,λk=> ?_⟩,hW⟩,λn hn=> ?_⟩
 .rw [w];exact(Q k).bd w7 w6
 .rw [(o k).1];exact(L k).1.bd w4 jW
 .rw [(o k).2.1];exact(u k).1.bd w4 H
 .rw [(o k).2.2.1];exact(L k).2.bd w5 jW
 .rw [(o k).2.2.2];exact(u k).2.bd w5 H
 have S:∀k,Mul (J*h*a) (m*f*a) (fY p k):=λk=>by
  have:=((L k).1.upc (c:=h*a) (AAw s G)).mono (M:=m*f*a) (by rw[<-AA8];exact ACT _ (ABX _ t))
  rwa [<-AA8] at this
 have E:∀k,Mul (J*h*a) (m*f*a) (fY q k):=λk=>by
  have:=((u k).1.upc (c:=J*a) (AAw I G)).mono (M:=m*f*a) (by rw[<-AA8];exact ACT _ (ABX _ K))
  rwa [<-AA8,ABZ h J] at this
 have A:∀k,Mul (J*h*a) (l*f*a) (Yw p k):=λk=>by
  have:=((L k).2.upc (c:=h*a) (AAw s G)).mono (M:=l*f*a) (by rw[<-AA8];exact ACT _ (ABX _ t))
  rwa [<-AA8] at this
 have A':∀k,Mul (J*h*a) (l*f*a) (Yw q k):=λk=>by
  have:=((u k).2.upc (c:=J*a) (AAw I G)).mono (M:=l*f*a) (by rw[<-AA8];exact ACT _ (ABX _ K))
  rwa [<-AA8,ABZ h J] at this
 have Z:∀k,Mul (J*h*a) (r*(f*f)) (kb (szs b e d) k):=λk=>by
  have:=((Q k).upc (c:=J*h) (AAw I s)).mono (M:=r*(f*f)) (ABX _ jj)
  rwa [ABZ a] at this
 have O:=λk=>(A k).sub (A' k);have R:∀k,Mul (J*h*a) (r*(f*f)+2*(l*f*a)) (kb (szs b e d) k-(Yw p k-Yw q k)):=λk=>((Z k).sub (O k)).mono (by omega);have T:∀k,Mul (J*h*a) (r*(f*f)+2*(l*f*a)) (kb (szs b e d) k+(Yw p k-Yw q k)):=λk=>((Z k).add (O k)).mono (by omega);have side:∀{x y z:Rat},Mul (J*h*a) (r*(f*f)+2*(l*f*a)) x->Mul (J*h*a) (m*f*a) y->Mul (J*h*a) (m*f*a) z->Bf N (Oc x y z (strN n) n):=λ{x y z} hx hy sO=>
  Wk (N:=max (r*(f*f)+2*(l*f*a)) (m*f*a)) (hx.mono (Nat.le_max_left ..)) (hy.mono (Nat.le_max_right ..)) (sO.mono (Nat.le_max_right ..)) (XE n) (by omega) DD
 have dt:=hp.t1.1;have v:Mul g (i+g) (1:Rat):=by have:=(Mul.int (n:=1) (D:=g) (N:=g) dt (by simp)).mono (M:=i+g) (by omega);simpa using this
 have P:Mul g (i+g) (0:Rat):=by have:=(Mul.int (n:=0) (D:=g) (N:=g) dt (by simp)).mono (M:=i+g) (by omega);simpa using this
 have time:∀{x y z:Rat},Mul g i x->Mul g (i+g) y->Mul g (i+g) z->Bf N (Oc x y z (strN n) n):=λ{x y z} hx hy sO=>Wk (hx.mono (ACg ..)) hy sO (XE n) n5 n4;have U:n=0\/n=1\/n=2\/n=3\/n=4\/n=5\/n=6\/n=7\/n=8\/n=9\/n=10\/n=11:=by omega
 unfold Fa;rcases U with rfl|rfl|rfl|rfl|rfl|rfl|rfl|rfl|rfl|rfl|rfl|rfl
 .exact time hp.t1.neg v P
 .exact time hp.t2 v.neg P
 .exact time F.t1.neg P v
 .exact time F.t2 P v.neg
 .exact time hl v v.neg
 .exact time X v.neg v
 .simp only[Ai,o,w];exact side (R 0) (S 0).neg (E 0)
 .simp only[Ai,o,w];exact side (T 0) (S 0) (E 0).neg
 .simp only[Ai,o,w];exact side (R 1) (S 1).neg (E 1)
 .simp only[Ai,o,w];exact side (T 1) (S 1) (E 1).neg
 .simp only[Ai,o,w];exact side (R 2) (S 2).neg (E 2)
 .simp only[Ai,o,w];exact side (T 2) (S 2) (E 2).neg
def RB {D N:Nat}{p:C4×C4}(h1:GN D N p.1)(h2:GN D N p.2)(n:p.1.1<p.2.1):rD D N (D*(2*N)) (D*(2*N)) (4*N*N) p:=by
 have b:∀{c:C4} k,GN D N c->Mul D N (iQ k c):=λk h=>by
  rcases k with _|_|k
  .exact h.x
  .exact h.y
  .exact h.z
 obtain⟨i,f,hi⟩:=h1.m.get;obtain⟨j,g,hj⟩:=h2.m.get;have d:=h1.m.1;have o:(0:Rat)<(D:Rat):=by exact_mod_cast d
 have u:i<j:=by
  have:(i:Rat)<(j:Rat):=by rw[<-f,<-g];exact(Rat.mul_lt_mul_right o).mpr n
  exact_mod_cast this
 obtain⟨J,r⟩:∃J:Nat,(J:Int)=j-i:=⟨(j-i).toNat,by omega⟩;have e:0<J:=by omega
 have l:J<=2*N:=by omega
 have s:(J:Rat)=(p.2.1-p.1.1)*D:=by
  have:((J:Int):Rat)=((j-i:Int):Rat):=by rw[r]
  rw[ABD,AD8,<-f,<-g] at this;grind
 have ne:p.2.1-p.1.1≠0:=by grind
 have S:∀k,Mul J (2*N) (fY p k):=λk=>by obtain⟨x,ex,hx⟩:=(b k h1).get;obtain⟨y,t,v⟩:=(b k h2).get;refine .mk' e (k:=y-x) ?_ (by omega);rw[AD8,<-ex,<-t,s];show (iQ k p.2-iQ k p.1)/(p.2.1-p.1.1)*((p.2.1-p.1.1)*D)=_;rw[<-Rat.mul_assoc,AD3 ne];grind
 refine⟨h1.m,h2.m,D*J,AAw d e,ABX D l,λk=>⟨?_, ?_⟩⟩
 .have:=(S k).upc (c:=D) d;rw[ABZ J D,ABZ (2*N) D] at this;exact this
 .have a:=(b k h1).upc (c:=J) e;have m:=(S k).mul h1.m;rw[ABZ J D] at m;exact(a.sub m).mono (by
   have:N*J<=N*(2*N):=ABX N l;have w:N*(2*N)=2*(N*N):=by rw[ABZ 2 N,<-AA8,ABZ]
   have A:2*N*N=2*(N*N):=AA8 ..;have B:4*N*N=4*(N*N):=AA8 ..;omega)
def O0 (x y z:Rat):Prop:=x-y<z/\ -z<x-y
def rC (x y z:T3):Prop:=O0 x.1 y.1 z.1/\O0 x.2.1 y.2.1 z.2.1/\O0 x.2.2 y.2.2 z.2.2
def du {w:Wd}(s t:Rat):Wl w s t↔(w.b.1<=s/\s<w.e.1/\w.b'.1<=t/\t<w.e'.1/\t-s<=w.l/\s-t<=w.l')/\∀k<3,O0 (ba w k+sl w k*s) (Yv w k+Y1 w k*t) (sz w k):=by
 have c:∀x:Rat,0<x\/(x=0/\(1:Int)=0)↔0<x:=λx=>⟨λz=>by rcases z with z|z;exact z;omega, .inl⟩;constructor
 .intro o;refine⟨aO o,λk hk=> ?_⟩;have cs:k=0\/k=1\/k=2:=by omega
  have h:=o 6 (by decide);have i:=o 7 (by decide);have j:=o 8 (by decide);have m:=o 9 (by decide);have d:=o 10 (by decide);have f:=o 11 (by decide);rw[show strN 6=1 from rfl,c] at h;rw[show strN 7=1 from rfl,c] at i;rw[show strN 8=1 from rfl,c] at j;rw[show strN 9=1 from rfl,c] at m;rw[show strN 10=1 from rfl,c] at d;rw[show strN 11=1 from rfl,c] at f;simp only[Ai] at h i j m d f;unfold O0;rcases cs with rfl|rfl|rfl
  .exact ⟨by grind,by grind⟩
  .exact ⟨by grind,by grind⟩
  .exact ⟨by grind,by grind⟩
 .rintro ⟨⟨v,y,A,B,C,D⟩,g⟩ n E;have p:=g 0 (by decide);have r:=g 1 (by decide);have u:=g 2 (by decide);unfold O0 at p r u;have a:∀x:Rat,0<=x->0<x\/(x=0/\(0:Int)=0):=λx hx=>by
   rcases Rat.le_iff_lt_or_eq.mp hx with z|z
   .exact .inl z
   .exact .inr ⟨z.symm,rfl⟩
  have cs:n=0\/n=1\/n=2\/n=3\/n=4\/n=5\/n=6\/n=7\/n=8\/n=9\/n=10\/n=11:=by omega
  rcases cs with rfl|rfl|rfl|rfl|rfl|rfl|rfl|rfl|rfl|rfl|rfl|rfl <;> simp only[Ai]
  .exact a _ (by grind)
  .left;grind
  .exact a _ (by grind)
  .left;grind
  .exact a _ (by grind)
  .exact a _ (by grind)
  .left;grind
  .left;grind
  .left;grind
  .left;grind
  .left;grind
  .left;grind
def Qs {p:C4×C4}{s:Rat}{x y:Rat}:ZS p.1 p.2 x y+Yh p.1 p.2 x y*s=x+(s-p.1.1)/(p.2.1-p.1.1)*(y-x):=by unfold ZS Yh;rw[ACd,ACd];grind
def aP {cs ds:kn C4}{b e:T3}{d:Rat×Rat}{p q:C4×C4}(s t:Rat):Wl (Dq cs ds b e d p q) s t↔(p.1.1<=s/\s<p.2.1)/\(q.1.1<=t/\t<q.2.1)/\(t-s<=b.2.2/\s-t<=e.2.2)/\rC (inter p.1 p.2 s) (inter q.1 q.2 t) (szs b e d):=by
 rw[du];have a:∀{p:C4×C4} {s:Rat},Yw p 0+fY p 0*s=(inter p.1 p.2 s).1:=Qs;have c:∀{p:C4×C4} {s:Rat},Yw p 1+fY p 1*s=(inter p.1 p.2 s).2.1:=Qs;have f:∀{p:C4×C4} {s:Rat},Yw p 2+fY p 2*s=(inter p.1 p.2 s).2.2:=Qs;have v:=λk=>pW (cs:=cs) (ds:=ds) (b:=b) (e:=e) (d:=d) (p:=p) (q:=q) k;have w:=λk=>pX (cs:=cs) (ds:=ds) (b:=b) (e:=e) (d:=d) (p:=p) (q:=q) k;simp only[v,w];unfold rC;constructor
 .rintro ⟨⟨j,l,m,o,r,u⟩,n⟩;have g:=n 0 (by decide);have h:=n 1 (by decide);have i:=n 2 (by decide);rw[a,a] at g;rw[c,c] at h;rw[f,f] at i;exact⟨⟨j,l⟩,⟨m,o⟩,⟨r,u⟩,g,h,i⟩
 .rintro ⟨⟨j,l⟩,⟨m,o⟩,⟨r,u⟩,g,h,i⟩;refine⟨⟨j,l,m,o,r,u⟩,λk hk=> ?_⟩;have cs:k=0\/k=1\/k=2:=by omega
  rcases cs with rfl|rfl|rfl
  .rw [a,a];exact g
  .rw [c,c];exact h
  .rw [f,f];exact i
def vC (cs:kn C4)(s:Rat)(x:T3):Prop:=∃p∈FF cs,p.1.1<=s/\s<p.2.1/\inter p.1 p.2 s=x
def Mc (cs ds:kn C4)(b e:T3)(d:Rat×Rat)(s t:Rat):Prop:=∃x y,vC cs s x/\vC ds t y/\(t-s<=b.2.2/\s-t<=e.2.2)/\rC x y (szs b e d)
def PZ {cs ds:kn C4}{b e:T3}{d:Rat×Rat}{s t:Rat}:Mc cs ds b e d s t↔∃x∈JX cs ds b e d,Wl x.2.2 s t:=by
 constructor
 .rintro ⟨x,y,⟨p,hp,g,h,rfl⟩,⟨q,a,i,j,rfl⟩,tm,k⟩;obtain⟨z,c,f⟩:=dh (b:=b) (e:=e) (d:=d) hp a;exact⟨z,c,by rw[f,aP];exact⟨⟨g,h⟩,⟨i,j⟩,tm,k⟩⟩
 .rintro ⟨z,c,o⟩;obtain⟨p,hp,q,a,f⟩:=Rn c;rw[f,aP] at o;exact⟨_,_,⟨p,hp,o.1.1,o.1.2,rfl⟩,⟨q,a,o.2.1.1,o.2.1.2,rfl⟩,o.2.2⟩
def dg {cs ds:kn C4}{b e:T3}{d:Rat×Rat}{v w u:PV}{N B:Nat}(hv:Hh cs b v)(hw:Hh ds e w)(hu:XR d u)(f:IQ 100 b)(g:IQ 100 e)(h:Bd 100 d.1)(b2:Bd 100 d.2)(hc:∀c∈cs,JV B c)(i:QJ cs)(h2:2<=cs.length)(hl:cs.length<=60)(j:∀c∈ds,JV B c)(k:QJ ds)(l:2<=ds.length)(J:ds.length<=60)(m:6*B+3<=3900)(hN:N<=770)(n:∀p∈FF cs,∀q∈FF ds,iG N (Dq cs ds b e d p q)){Q:PV->Prop}(r:(∀s t,¬Mc cs ds b e d s t)->∀ps:kn (kn (Int×Rat)),(JX cs ds b e d).length=ps.length->(∀y∈(JX cs ds b e d).zip ps,V0 (4*N+13) y.1.2.2 y.2)->Q (.tup [.str "apart", .tup (((JX cs ds b e d).zip ps).map Az)]))(A:∀s t,Mc cs ds b e d s t->Bd (4*N+12) s->Bd (10*N+30) t->Q (.tup [.str "meet",fr s,fr t])):DA [v,w,u] Q:=by
 have C:(JX cs ds b e d).length<=10100:=by
  unfold JX;rw[ACl];have:∀a:kn (Nat×C4×C4),(a.map λp=>((Rr 0 (FF ds)).map λq=>(p.1,q.1,Dq cs ds b e d p.2 q.2)).length).sum=a.length*(FF ds).length:=λa=>by
   induction a with
   | nil=>simp
   | cons x a D=>simp[AAM,AAo,ABU,Fp] at D ⊢;omega
  rw[this,Fp];have E:(FF cs).length<=60:=by unfold FF;simp;omega
  have F:(FF ds).length<=60:=by unfold FF;simp;omega
  have:=ABE E F;omega
 refine U6 (L:=JX cs ds b e d) (λ{Q} q=>Ps hv hw hu f g h b2 hc i h2 (by omega) j k l (by omega) m q) C hN (λx hx=> ?_) (λG ps hl hp=> ?_) (λx hx s t o bs bt=> ?_)
 .obtain ⟨p,hp,q,H,I⟩:=Rn hx;rw[I];exact n p hp q H
 .exact r (λs t z=>by
   obtain⟨x,hx,o⟩:=PZ.mp z;exact G x hx ⟨s,t,o⟩) ps hl hp
 .exact A s t (PZ.mpr ⟨x,hx,o⟩) bs bt
end PL
namespace PL
open PySem L2 PyProof.Rows
open PL.K31
instance (priority:=2000){Q:PV->Prop}:ZJ (A4 [.tape] Q) (True) (∀a,Bd 8 a->Mul 6 60 a->Q (fr a)):=⟨λ_ h=>A3 λa m=>h a (m.bd (by decide) (by decide)) m⟩
structure cg (b:T3):Prop where
 bd:IQ 8 b
 x0:0<=b.1
 y0:0<=b.2.1
 z0:0<=b.2.2
 mx:Mul 6 240 b.1
 my:Mul 6 240 b.2.1
 mz:Mul 6 240 b.2.2
def Ik {Q:PV->Prop}(q:∀b:T3,cg b->Q (tH b)):CJ [.tape] Q:=by
 apply LS;have a:Mul 6 240 (0:Rat):=Mul.int (n:=0) (by decide) (by decide);have all:∀x∈ [(0:Rat),1/2,1,1/3,3,40],Bd 8 x/\0<=x/\Mul 6 240 x:=by
  intro x hx;simp only[AAJ,AAe,AAf] at hx;rcases hx with rfl|rfl|rfl|rfl|rfl|rfl
  .exact ⟨W6,by decide +kernel,a⟩
  .exact ⟨W6,by decide +kernel, .mk' (k:=3) (by decide) (by decide +kernel) (by decide)⟩
  .exact ⟨W6,by decide +kernel, .mk' (k:=6) (by decide) (by decide +kernel) (by decide)⟩
  .exact ⟨W6,by decide +kernel, .mk' (k:=2) (by decide) (by decide +kernel) (by decide)⟩
  .exact ⟨W6,by decide +kernel, .mk' (k:=18) (by decide) (by decide +kernel) (by decide)⟩
  .exact ⟨W6,by decide +kernel, .mk' (k:=240) (by decide) (by decide +kernel) (by decide)⟩
 ac_rfl
 .exact q (0,0,0) ⟨⟨W6,W6,W6⟩,(by decide),(by decide),(by decide),a,a,a⟩
 refine Ft (xs:= [(0:Rat),1/2,1,1/3,3,40]) (by omega) (by show _<(6:Int);omega) λx hx=> ?_;ac_rfl;refine Ft (xs:= [(0:Rat),1/2,1,1/3,3,40]) (by omega) (by show _<(6:Int);omega) λy c=> ?_;ac_rfl;refine Ft (xs:= [(0:Rat),1/2,1,1/3,3,40]) (by omega) (by show _<(6:Int);omega) λz d=> ?_;ac_rfl;exact q (x,y,z) ⟨⟨(all x hx).1,(all y c).1,(all z d).1⟩,(all x hx).2.1,(all y c).2.1,(all z d).2.1,(all x hx).2.2,(all y c).2.2,(all z d).2.2⟩
structure qk (d:Rat×Rat):Prop where
 b1:Bd 8 d.1
 b2:Bd 8 d.2
 p1:1/3<=d.1
 p2:1/3<=d.2
 m1:Mul 6 30 d.1
 m2:Mul 6 30 d.2
 c1:Bd 3 d.1
 c2:Bd 3 d.2
def c8 {Q:PV->Prop}(q:∀d:Rat×Rat,qk d->Q (.tup [fr d.1,fr d.2])):PL.F__law_apart [.tape] Q:=by
 apply PL.s_F__law_apart;have all:∀x∈ [(1:Rat),2,3/2,1/3,5],Bd 8 x/\1/3<=x/\Mul 6 30 x/\Bd 3 x:=by
  intro x hx;simp only[AAJ,AAe,AAf] at hx;rcases hx with rfl|rfl|rfl|rfl|rfl
  .exact ⟨W6,by decide +kernel, .mk' (k:=6) (by decide) (by decide +kernel) (by decide),⟨by decide +kernel,by decide +kernel⟩⟩
  .exact ⟨W6,by decide +kernel, .mk' (k:=12) (by decide) (by decide +kernel) (by decide),⟨by decide +kernel,by decide +kernel⟩⟩
  .exact ⟨W6,by decide +kernel, .mk' (k:=9) (by decide) (by decide +kernel) (by decide),⟨by decide +kernel,by decide +kernel⟩⟩
  .exact ⟨W6,by decide +kernel, .mk' (k:=2) (by decide) (by decide +kernel) (by decide),⟨by decide +kernel,by decide +kernel⟩⟩
  .exact ⟨W6,by decide +kernel, .mk' (k:=30) (by decide) (by decide +kernel) (by decide),⟨by decide +kernel,by decide +kernel⟩⟩
 ac_rfl;refine Ft (xs:= [(1:Rat),2,3/2,1/3,5]) (by omega) (by show _<(5:Int);omega) λx hx=> ?_;ac_rfl;refine Ft (xs:= [(1:Rat),2,3/2,1/3,5]) (by omega) (by show _<(5:Int);omega) λy a=> ?_;ac_rfl;exact q (x,y) ⟨(all x hx).1,(all y a).1,(all x hx).2.1,(all y a).2.1,(all x hx).2.2.1,(all y a).2.2.1,(all x hx).2.2.2,(all y a).2.2.2⟩
def dA {cs:kn C4}(p:B4 9 6 600 cs):B4 9 6 600 (cs.take 3):=by have:=p.two;exact⟨by simp;omega,by simp;omega,λc hc=>p.mu c (List.mem_of_mem_take hc),List.Pairwise.sublist (List.take_sublist _ _) p.ris⟩
def XI {X Y Z:A6->Prop}{Q:PV->Prop}{cs ds:kn C4}{d f g h i:ki AV}(j:B4 9 6 600 cs)(pd:B4 9 6 600 ds)(q:∀ds b e,B4 9 6 600 ds->cg b->cg e->Q (.tup [Iv cs b,Iv ds e])):HP {nx:=X,rt:=Q,bk:=Y,ct:=Z} [some (.val .tape),some (.val (D3 cs)),some (.val (D3 ds)),d,f,g,h,i] :=by
 have k:=j.few;have c:=pd.few;have a:=dA pd;ac_rfl
 .refine Rg ?_;rw[rM];ac_rfl;refine Ik λb hb=> ?_;ac_rfl;refine Ik λe he=> ?_;ac_rfl;exact q _ b e a hb he
 .refine Ik λb hb=> ?_;ac_rfl;refine Ik λe he=> ?_;ac_rfl;exact q ds b e pd hb he
def gB {X Y Z:A6->Prop}{Q:PV->Prop}{cs ds:kn C4}(pm0:B4 9 6 512 cs)(q:∀ds B l C D d,B4 9 6 600 ds->X [some (.val .tape),some (.val (D3 cs)),some (.val (D3 ds)),B,l,C,D,d]):HN {nx:=X,rt:=Q,bk:=Y,ct:=Z} [some (.val .tape),some (.val (D3 cs)),some (.val (D3 ds)),none,none,none,none,none] :=by
 have p:Jn 9 12 cs:=pm0.ok (by decide) (by decide);ac_rfl;rename_i E F G v H I;refine F3 8 (by omega) (by omega) (by omega) (by decide) λb=> ?_;ac_rfl;refine Ft (xs:= [(E:Rat),0,Rat.divInt v 2]) (by omega) (by show _<(3:Int);omega) λt k=> ?_;have bt:Bd 12 t:=by
  simp only[AAJ,AAe,AAf] at k;rcases k with rfl|rfl|rfl
  .exact .int (by omega) (by decide)
  .exact qG.mono (by decide)
  .exact b.mono (by decide)
 have mt:Mul 6 27 t:=by
  simp only[AAJ,AAe,AAf] at k;rcases k with rfl|rfl|rfl
  .exact .int (by decide) (by omega)
  .exact Mul.int (n:=0) (by decide) (by decide)
  .exact Mul.part (t:=v) (b:=2) (c:=3) (by decide) (by decide) (by omega)
 clear k b F G H I;ac_rfl;rename_i f m0 w g m1 A i J K;have a:∀x∈ [f,0,g,1,0,(i:Rat)],Mul 6 60 x:=by
  intro x hx;simp only[AAJ,AAe,AAf] at hx;rcases hx with rfl|rfl|rfl|rfl|rfl|rfl
  .exact w
  .exact Mul.int (n:=0) (by decide) (by decide)
  .exact A
  .exact Mul.int (n:=1) (by decide) (by decide)
  .exact Mul.int (n:=0) (by decide) (by decide)
  .exact .int (by decide) (by omega)
 have all:∀x∈ [f,0,g,1,0,(i:Rat)],Bd 12 x:=by
  intro x hx;simp only[AAJ,AAe,AAf] at hx;rcases hx with rfl|rfl|rfl|rfl|rfl|rfl
  .exact m0.mono (by decide)
  .exact qG.mono (by decide)
  .exact m1.mono (by decide)
  .exact vX.mono (by decide)
  .exact qG.mono (by decide)
  .exact .int (by omega) (by decide)
 rw[show rng 0 (Int.toNat 3)= [.int 0, .int 1, .int 2] from rfl];repeat' array_get_dec
 refine Ft (xs:= [f,0,g,1,0,(i:Rat)]) (by omega) (by show _<(6:Int);omega) λx hx=> ?_;repeat' array_get_dec
 refine Ft (xs:= [f,0,g,1,0,(i:Rat)]) (by omega) (by show _<(6:Int);omega) λy r=> ?_;repeat' array_get_dec
 refine Ft (xs:= [f,0,g,1,0,(i:Rat)]) (by omega) (by show _<(6:Int);omega) λz s=> ?_;have o:IQ 12 (x,y,z):=⟨all x hx,all y r,all z s⟩;have M:B4 9 6 600 (cs.map (TD t (x,y,z))):=by refine⟨by simpa using pm0.two,by simpa using pm0.few,λc hc=> ?_,(jP p bt o).ris⟩;obtain⟨N,O,rfl⟩:=AAK.mp hc;have m:=pm0.mu N O;exact⟨(m.m.add mt).mono (by decide),(m.x.add (a x hx)).mono (by decide),(m.y.add (a y r)).mono (by decide),(m.z.add (a z s)).mono (by decide)⟩
 have P:=p.few;repeat' array_get_dec
 clear all a hx r s J K m0 m1 w A mt;generalize some (AV.val (PV.lst [fr f,fr 0,fr g,fr 1,fr 0,fr (i:Rat)]))=l;refine Cj cor (λj vs τ=>∃d,τ= [some (.val .tape),some (.val (D3 cs)),some (.val (D3 ds)),some (.val (fr t)),l,some (AV.val (PV.lst [fr x,fr y,fr z])),some (.own ((j.map (TD t (x,y,z))).map cor)),d]) ?_ ?_ ⟨_,rfl⟩
 .rintro τ ⟨d,rfl⟩;ac_rfl;refine⟨TH _, ?_⟩;ac_rfl;exact q _ _ _ _ _ _ M
 .rintro j c vs e τ R S ⟨d,rfl⟩;have W:=p.bd c (by rw[<-e];simp);have ul:j.length<=9:=by have h:=p.few;rw[<-e] at h;simp at h;omega
  have u:∀d,R [some (.val .tape),some (.val (D3 cs)),some (.val (D3 ds)),some (.val (fr t)),l,some (AV.val (PV.lst [fr x,fr y,fr z])),some (.own ((j.map (TD t (x,y,z))).map cor ++ [cor (TD t (x,y,z) c)])),d] :=λd=>S _ ⟨d,by simp⟩;have bx:Bd 12 x:=o.x;have T:Bd 12 y:=o.y;have bz:Bd 12 z:=o.z;have U:((j.map (TD t (x,y,z))).map cor).length<=9:=by simpa using ul
  generalize (j.map (TD t (x,y,z))).map cor=L at *;ac_rfl;rw[show rng 0 (Int.toNat 3)= [.int 0, .int 1, .int 2] from rfl];repeat' array_get_dec
  rw[show (0:Int)+1=1 from rfl];repeat' array_get_dec
  rw[show (1:Int)+1=2 from rfl];repeat' array_get_dec
  rw[show (2:Int)+1=3 from rfl];repeat' array_get_dec
  refine⟨M9 (n:=9) U (by decide), ?_⟩;repeat' array_get_dec
  exact u _
def pR {Q:PV->Prop}(q:∀cs ds b e,B4 9 6 600 cs->B4 9 6 600 ds->cg b->cg e->Q (.tup [Iv cs b,Iv ds e])):EQ [.tape] Q:=by apply RO;ac_rfl;refine GQ λcs d=> ?_;ac_rfl;refine GQ λds pd=> ?_;have a:B4 9 6 600 cs:=⟨d.two,d.few,λc hc=>(d.mu c hc).mono (by decide),d.ris⟩;have f:B4 9 6 600 ds:=⟨pd.two,pd.few,λc hc=>(pd.mu c hc).mono (by decide),pd.ris⟩;have h:=d.few;have g:=pd.few;repeat' (first | exact gB d λds i j k l m pd=>XI a pd λds b e=>q cs ds b e a|exact XI a f λds b e=>q cs ds b e a|array_mem_dec)
def jO {cs ds:kn C4}{b e:T3}{d:Rat×Rat}{v w u:PV}(a:B4 20 12 1400 cs)(pd:B4 20 12 1400 ds)(hv:Hh cs b v)(hw:Hh ds e w)(hu:XR d u)(g:IQ 20 b)(h:IQ 20 e)(i:Bd 20 d.1)(b2:Bd 20 d.2)(j:Mul 12 1400 b.2.2)(l:Mul 12 1400 e.2.2)(m:∀k,Mul 12 4800 (kb (szs b e d) k)){Q:PV->Prop}(n:(∀s t,¬Mc cs ds b e d s t)->∀ps:kn (kn (Int×Rat)),(JX cs ds b e d).length=ps.length->(∀y∈(JX cs ds b e d).zip ps,V0 201 y.1.2.2 y.2)->Q (.tup [.str "apart", .tup (((JX cs ds b e d).zip ps).map Az)]))(o:∀s t,Mc cs ds b e d s t->Bd 200 s->Bd 500 t->Q (.tup [.str "meet",fr s,fr t])):DA [v,w,u] Q:=by have f:∀{cs:kn C4},B4 20 12 1400 cs->∀c∈cs,JV 11 c:=λp c hc=>(p.mu c hc).bd (by decide) (by decide);refine dg (N:=47) (B:=11) hv hw hu (g.mono (by decide)) (h.mono (by decide)) (i.mono (by decide)) (b2.mono (by decide)) (f a) a.ris a.two (by have:=a.few;omega) (f pd) pd.ris pd.two (by have:=pd.few;omega) (by decide) (by decide) (λp hp q r=> ?_) n o;obtain⟨m1,m2,m3⟩:=Lo a.ris hp;obtain⟨x,z,A⟩:=Lo pd.ris r;exact XJ (RB (a.mu _ m1) (a.mu _ m2) m3) (RB (pd.mu _ x) (pd.mu _ z) A) m j l (W:=30) (by decide) (by decide) (by decide) (by decide) (by decide) (by decide) (by decide) (by decide) (by decide) (by decide) (by decide) (by decide) (by decide)
def B4.d12 {cs:kn C4}(p:B4 9 6 600 cs):B4 20 12 1400 cs:=⟨p.two,by have:=p.few;omega,λc hc=>(p.mu c hc).dbl.mono (by decide),p.ris⟩
def gu {b e:T3}{d:Rat×Rat}(a:Mul 6 240 b.1)(b2:Mul 6 240 b.2.1)(c:Mul 6 240 e.1)(g:Mul 6 240 e.2.1)(f:Mul 6 240 d.1)(h:Mul 6 240 d.2):∀k,Mul 12 4800 (kb (szs b e d) k):=λk=>by
 rcases k with _|_|k
 .exact ((f.add (a.add c)).dbl).mono (by decide)
 .exact ((f.add (a.add c)).dbl).mono (by decide)
 .exact ((h.add (b2.add g)).dbl).mono (by decide)
def La {cs:kn C4}{b:T3}:Hh cs b (Iv cs b):=iX cs b
def jN {cs ds:kn C4}{b e:T3}{d:Rat×Rat}{v w u:PV}(a:B4 9 6 600 cs)(pd:B4 9 6 600 ds)(hb:cg b)(he:cg e)(hd:qk d)(hv:Hh cs b v)(hw:Hh ds e w)(hu:XR d u){Q:PV->Prop}(c:(∀s t,¬Mc cs ds b e d s t)->∀ps:kn (kn (Int×Rat)),(JX cs ds b e d).length=ps.length->(∀y∈(JX cs ds b e d).zip ps,V0 201 y.1.2.2 y.2)->Q (.tup [.str "apart", .tup (((JX cs ds b e d).zip ps).map Az)]))(f:∀s t,Mc cs ds b e d s t->Bd 200 s->Bd 500 t->Q (.tup [.str "meet",fr s,fr t])):DA [v,w,u] Q:=
 jO a.d12 pd.d12 hv hw hu (hb.bd.mono (by decide)) (he.bd.mono (by decide)) (hd.b1.mono (by decide)) (hd.b2.mono (by decide)) (hb.mz.dbl.mono (by decide)) (he.mz.dbl.mono (by decide)) (gu hb.mx hb.my he.mx he.my (hd.m1.mono (by decide)) (hd.m2.mono (by decide))) c f
end PL
namespace PL
open PySem L2 PyProof.Rows
def Qp:PV->ke | .int _=>true|_=>false
def Gz {x:PV}(hk:kdOf x≠none){Q:PV->Prop}(q:Q (.bl (Qp x))):Br [x] Q:=by
 apply JI;cases x <;> first | exact absurd rfl hk|skip
 all_goals
  repeat' array_get_dec
  exact q
def Oa:kn PV->ke
 | [.int a, .int b] =>decide (0<b)&&decide (Nat.gcd a.natAbs b.natAbs=1)
 | _=>false
def Z5 {xs:kn PV}(h:¬(xs.length:Int)=2):Oa xs=false:=by
 match xs,h with
 | [],_=>rfl
 | [a],_=>cases a <;> rfl
 | [a,b],h=>exact absurd rfl h
 | a::b::c::r,_=>cases a <;> cases b <;> rfl
def lA {xs:kn PV}(h:(xs.length:Int)=2):∃a b,xs= [a,b] :=by
 match xs,h with
 | [],h=>simp at h
 | [a],h=>simp at h
 | [a,b],_=>exact⟨a,b,rfl⟩
 | a::b::c::r,h=>simp at h;omega
def gx {x:PV}(h:Qp x=true):∃i,x= .int i:=by cases x <;> first | exact⟨_,rfl⟩|cases h
def jD {x y:PV}(h:Qp x=false):Oa [x,y] =false:=by cases x <;> first | rfl|cases h
def jE {x y:PV}(h:Qp y=false):Oa [x,y] =false:=by cases x <;> cases y <;> first | rfl|cases h
abbrev IV:AS:=
 (Aa (B9 (ON (EE (BA (AR 1 Br (AB (aV 1) AK)))) (EE (BA (AR 1 Br (AB (aV 2) AK))))) (Au (aC (.bl false))) BF)
   (Au (LH (AX Xz (aV 2) (aC (.int 0))) (AX Mo (AR 2 ES (AB (Fn Sm (AB (aV 1) AK)) (AB (aV 2) AK))) (aC (.int 1))))))
abbrev Pw:AS:=
 (Aa (Ao (aV 0) (Hl 2 (Ad (Aq 1) (Ad (Aq 2) Bb))))
   IV)
abbrev Oq:AS:=
 (Aa (B9 (ON (EE (BA (O3 (aV 0) ["tuple","list"]))) (BA (AX gL (Fn Fq (AB (aV 0) AK)) (aC (.int 2))))) (Au (aC (.bl false))) BF)
   Pw)
def Cf:AF:=Ar 3 Oq
def Ky {a:PV}{Q:PV->Prop}(h:Oq ⟨λ_=>Q .non,Q,λ_=>False,λ_=>False⟩ [some (.val a),none,none]):Cf [a] Q:=h
def ae {x y z:PV}(hx:x= .tup [y,z] \/x= .lst [y,z])(f:kdOf y≠none)(g:kdOf z≠none){Q:PV->Prop}(q:Q (.bl (Oa [y,z]))):IV {nx:=λx=>Q PV.non,rt:=Q,bk:=λx=>False,ct:=λx=>False} [some (.val x),some (.val y),some (.val z)] :=by
 repeat' array_get_dec
 refine Gz f ?_;repeat' array_get_dec
 cases c:Qp y with
 | false=>rw[jD c] at q;exact q
 | true=>
   obtain⟨a,rfl⟩:=gx c;repeat' array_get_dec
   refine Gz g ?_;repeat' array_get_dec
   cases d:Qp z with
   | false=>rw[jE d] at q;exact q
   | true=>
     obtain⟨b,rfl⟩:=gx d;repeat' array_get_dec
     .rename_i hb;obtain⟨n,rfl⟩:∃n:Nat,b=n:=⟨b.toNat,by omega⟩;refine Et _ _ _ ?_;repeat' array_get_dec
      have e:Oa [.int a, .int (n:Int)] =decide (((Nat.gcd a.natAbs n:Nat):Int)=1):=by show (decide (0<(n:Int))&&decide (Nat.gcd a.natAbs (n:Int).natAbs=1))=_;rw[AAP hb,AB9,AAu];exact AB4.mpr ⟨λh=>by rw[h];rfl,λh=>by omega⟩
      rw[e] at q;exact q
     .rename_i hb;have e:Oa [.int a, .int b] =false:=by show (decide (0<b)&&_)=_;rw[AAY hb,ADV]
      rw[e] at q;exact q
def Tc {B:Nat}{x:PV}{xs:kn PV}(hx:x= .tup xs\/x= .lst xs)(hl:xs.length<=100)(hi:(∀y∈xs,kdOf y≠none)/\∀a b,xs= [a, .int b] ->b.natAbs<B){Q:PV->Prop}(q:Q (.bl (Oa xs))):Cf [x] Q:=by
 apply Ky;rcases hx with rfl|rfl;all_goals
  repeat' array_get_dec
  .rename_i z;rw[Z5 z] at q;exact q
  .rename_i h2;obtain⟨y,z,rfl⟩:=lA h2;exact ae (by first | exact .inl rfl|exact .inr rfl) (hi.1 y (by simp)) (hi.1 z (by simp)) q
def dY (r:Rat):Oa [.int r.num, .int (r.den:Int)] =true:=by show (decide (0<(r.den:Int))&&decide (Nat.gcd r.num.natAbs (r.den:Int).natAbs=1))=true;have:=r.den_pos;rw[AAP (by omega),AB9,AAu];exact AAP r.reduced
def eF {r:Rat}{x:PV}(hx:x=fr r\/x= .lst [.int r.num, .int (r.den:Int)]){Q:PV->Prop}(q:Q (.bl true)):Cf [x] Q:=by
 refine Tc (B:=r.den+1) hx (by simp) ⟨λy c=> ?_,λa b e=> ?_⟩ (by rw[dY];exact q)
 .simp only[AAJ,AAe,AAf] at c;rcases c with rfl|rfl <;> exact λz=>by cases z
 .cases e;simp
abbrev IU:AS:=
 (Au (LH (O3 (aV 0) ["tuple","list"]) (AX Mo (Fn Fq (AB (aV 0) AK)) (aV 1))))
def BX:AF:=Ar 2 IU
def Gd {a x1:PV}{Q:PV->Prop}(h:IU ⟨λ_=>Q .non,Q,λ_=>False,λ_=>False⟩ [some (.val a),some (.val x1)]):BX [a,x1] Q:=h
abbrev L6:AS:=
 (Aa (Ao (aV 0) (Hl 2 (Ad (Aq 1) (Ad (Aq 2) Bb))))
   (Au (LH (AR 1 Br (AB (aV 1) AK)) (LH (qD rP UE (aC (.int 0)) (aV 1) (aC (.int 12))) (LH (AR 1 Cf (AB (aV 2) AK)) (AX Xz (AX An (aV 2) (aC (.int 0))) (aC (.int 0))))))))
abbrev KO:AS:=
 (Aa (B9 (EE (BA (AR 2 BX (AB (aV 0) (AB (aC (.int 2)) AK))))) (Au (aC (.bl false))) BF)
   L6)
def C9:AF:=Ar 3 KO
def Dt {a:PV}{Q:PV->Prop}(h:KO ⟨λ_=>Q .non,Q,λ_=>False,λ_=>False⟩ [some (.val a),none,none]):C9 [a] Q:=h
abbrev HQ:AS:=
 (Aa (B9 (ON (EE (BA (O3 (aV 0) ["tuple","list"]))) (EE (BA (Fn (Sn λbs=>bs.all id) (AB (FB (CH (N1 (aV 0)) 1 [] (Aq 0) FC (AR 1 C9 (AB (aV 0) AK)))) AK))))) (Au (aC (.bl false))) BF)
   (Au (Fn (Sn λbs=>bs.all id) (AB (FB (CH (iL (AB (aC (.int 1)) (AB (Fn Fq (AB (aV 0) AK)) AK))) 1 [0] (Aq 0) FC (AX UE (AX An (AX An (aV 1) (AX Js (aV 0) (aC (.int 1)))) (aC (.int 0))) (AX An (AX An (aV 1) (aV 0)) (aC (.int 0)))))) AK))))
def Bq:AF:=Ar 1 HQ
def C0 {a:PV}{Q:PV->Prop}(h:HQ ⟨λ_=>Q .non,Q,λ_=>False,λ_=>False⟩ [some (.val a)]):Bq [a] Q:=h
abbrev KN:AS:=
 (Aa (B9 (ON (EE (BA (AR 2 BX (AB (aV 0) (AB (aC (.int 3)) AK))))) (ON (EE (BA (AR 1 Br (AB (AX An (aV 0) (aC (.int 0))) AK)))) (EE (BA (AR 1 Br (AB (AX An (aV 0) (aC (.int 1))) AK)))))) (Au (aC (.bl false))) BF)
   (Au (LH (AX Mo (AX An (aV 0) (aC (.int 0))) (aV 1)) (LH (AX Mo (AX An (aV 0) (aC (.int 1))) (aV 2)) (AR 1 Bq (AB (AX An (aV 0) (aC (.int 2))) AK))))))
def CT:AF:=Ar 3 KN
def Bt {a x1 b:PV}{Q:PV->Prop}(h:KN ⟨λ_=>Q .non,Q,λ_=>False,λ_=>False⟩ [some (.val a),some (.val x1),some (.val b)]):CT [a,x1,b] Q:=h
abbrev HE:AS:=
 (Aa (Ao (AX BW (AX Ci (aV 3) (aV 6)) (AX Ci (AX Ci (aV 7) (AX An (AX An (aV 5) (aV 2)) (aC (.int 0)))) (aV 4))) (Aq 3))
   (UY 4 Ci (aV 6)))
abbrev Jf:AS:=
 (Aa (Ao (AX Ci (aV 8) (AX An (AX An (aV 5) (aV 2)) (aC (.int 1)))) (Aq 6))
   HE)
abbrev Jh:AS:=
 (Aa (GE (lQ (AB (aV 0) (AB (aV 1) AK))) (Hl 2 (Ad (Aq 5) (Ad (Hl 2 (Ad (Aq 7) (Ad (Aq 8) Bb))) Bb))) Jf)
   (Au (aV 3)))
abbrev Jg:AS:=
 (Aa (Ao (aC (.int 1)) (Aq 4))
   Jh)
abbrev HS:AS:=
 (Aa (Ao (aC (.int 0)) (Aq 3))
   Jg)
def Ba:AF:=Ar 9 HS
def GA {a x1 b:PV}{Q:PV->Prop}(h:HS ⟨λ_=>Q .non,Q,λ_=>False,λ_=>False⟩ [some (.val a),some (.val x1),some (.val b),none,none,none,none,none,none]):Ba [a,x1,b] Q:=h
abbrev MD:AS:=
 (Aa (Ao (AR 3 Ba (AB (aV 2) (AB (aV 3) (AB (aC (.int 0)) AK)))) (Aq 4))
   (Au (qE (AX UE (aV 4) (aC (.int 0))) (LH (AX Mo (aV 4) (aC (.int 0))) (Fn (Sn λbs=>bs.any id) (AB (FB (CH (N1 (aV 1)) 2 [] (Hl 2 (Ad (Aq 0) (Ad (Aq 1) Bb))) FC (AX Mo (AX An (aC (.tup [(.int 0),(.int 1),(.int 0),(.int 1),(.int 0),(.int 0),(.int 1),(.int 1),(.int 1),(.int 1),(.int 1),(.int 1)])) (aV 0)) (aC (.int 1))))) AK))))))
abbrev MC:AS:=
 (Aa (B9 (ON (BA (AX gL (AR 3 Ba (AB (aV 2) (AB (aV 3) (AB (aC (.int 1)) AK)))) (aC (.int 0)))) (BA (AX gL (AR 3 Ba (AB (aV 2) (AB (aV 3) (AB (aC (.int 2)) AK)))) (aC (.int 0))))) (Au (aC (.bl false))) BF)
   MD)
abbrev MB:AS:=
 (Aa (Ao (FB (CH (N1 (aV 1)) 2 [] (Hl 2 (Ad (Aq 0) (Ad (Aq 1) Bb))) FC (aV 1))) (Aq 3))
   MC)
abbrev KQ:AS:=
 (Aa (Ao (FB (CH (N1 (aV 1)) 2 [0] (Hl 2 (Ad (Aq 0) (Ad (Aq 1) Bb))) FC (AR 2 EK (AB (aV 2) (AB (aV 0) AK))))) (Aq 2))
   MB)
def DC:AF:=Ar 5 KQ
def HZ {a x1:PV}{Q:PV->Prop}(h:KQ ⟨λ_=>Q .non,Q,λ_=>False,λ_=>False⟩ [some (.val a),some (.val x1),none,none,none]):DC [a,x1] Q:=h
abbrev Je:AS:=
 (Aa (GE (lQ (AB (aV 4) (AB (aV 3) AK))) (Hl 2 (Ad (Hl 3 (Ad (Aq 6) (Ad (Aq 7) (Ad (Aq 8) Bb)))) (Ad (Aq 5) Bb))) (B9 (ON (EE (BA (AR 3 CT (AB (aV 5) (AB (aV 6) (AB (aV 7) AK)))))) (EE (BA (AR 2 DC (AB (aV 8) (AB (AX An (aV 5) (aC (.int 2))) AK)))))) (Au (aC (.bl false))) BF))
   (Au (aC (.bl true))))
abbrev Jd:AS:=
 (Aa (B9 (EE (BA (AR 2 BX (AB (aV 3) (AB (Fn Fq (AB (aV 4) AK)) AK))))) (Au (aC (.bl false))) BF)
   Je)
abbrev HR:AS:=
 (Aa (Ao (AR 3 A0 (AB (aV 0) (AB (aV 1) (AB (aV 2) AK)))) (Aq 4))
   Jd)
def BM:AF:=Ar 9 HR
def D7 {a x1 b c:PV}{Q:PV->Prop}(h:HR ⟨λ_=>Q .non,Q,λ_=>False,λ_=>False⟩ [some (.val a),some (.val x1),some (.val b),some (.val c),none,none,none,none,none]):BM [a,x1,b,c] Q:=h
structure SB (N:Nat) (rows:List (Int×Rat)):Prop where
 r:rows.Pairwise λa b=>a.1<b.1
 k:∀e∈rows,0<=e.1/\e.1<12
 p:∀e∈rows,0<e.2/\Bd N e.2
 l:rows.length<=12
def V0.s {N:Nat}{w:Wd}{rows:kn (Int×Rat)}(h:V0 N w rows):SB N rows:=⟨h.r,h.k,h.p,h.l⟩
def Wz (w:Wd)(rows:kn (Int×Rat)):ke:=decide (Cq w 1 rows=0)&&(decide (Cq w 2 rows=0)&&(decide (Cq w 0 rows<0)||(decide (Cq w 0 rows=0)&&rows.any λe=>decide (strN e.1.toNat=1))))
def V0.sh {N:Nat}{w:Wd}{rows:kn (Int×Rat)}(h:V0 N w rows):Wz w rows=true:=by
 unfold Wz;rw[AAP h.b,AAP h.c,AB9,AB9,ADz,AAs,ACa];rcases h.a with z|⟨z,e,he,d⟩
 .exact .inl (AAP z)
 .exact .inr ⟨AAP z,e,he,AAP d⟩
def Du (e:Int×Rat):PV:= .tup [.int e.1,fr e.2]
def RN (rows:kn (Int×Rat)):Gc rows= .tup (rows.map Du):=rfl
def aM {x:Rat}(h:0<x):0<x.num:=by have h1:=Rat.num_nonneg (q:= -x);rw[Rat.neg_num] at h1;grind
def BR {v:PV}{xs:kn PV}{n:Int}(hv:v= .tup xs\/v= .lst xs)(hl:xs.length<=100000){Q:PV->Prop}(q:Q (.bl (decide ((xs.length:Int)=n)))):BX [v, .int n] Q:=by
 apply Gd;rcases hv with rfl|rfl
 .ac_rfl;exact q
 .ac_rfl;exact q
def Pt {e:Int×Rat}(k:0<=e.1/\e.1<12)(p:0<e.2){Q:PV->Prop}(q:Q (.bl true)):C9 [Du e] Q:=by
 have n:=aM p;apply Dt;unfold Du;repeat' array_get_dec
 refine BR (.inl rfl) (by simp) ?_;rw[show decide (((([PV.int e.1,fr e.2] :kn PV).length:Nat):Int)=2)=true from rfl];repeat' array_get_dec
 refine B8 ?_;repeat' array_get_dec
 .refine eF (.inl rfl) ?_;repeat' array_get_dec
  rw[AAP n];exact q
 .rename_i z;exact absurd k.2 z
 .rename_i z;exact absurd k.1 z
def bK {w:Wd}{a:Nat}{b:kn (Int×Rat)}{e:Int×Rat}:Cq w a (b ++ [e])=Cq w a b+e.2*fK w a e.1:=by unfold Cq;rw[ABl,List.sum_append,AAM,ABy,AAo,AD9,Rat.add_zero]
def SZ (x:Rat):x*(x.den:Rat)=(x.num:Rat):=by
 have a:(x.den:Rat)≠0:=by exact_mod_cast x.den_nz
 have:=AA4 x;rw[ACQ,ABD] at this;grind
def mV {w:Wd}{W:Nat}(ok:Hj W w)(a:Nat)(n:Int):Bd (3*W+2) (fK w a n):=by
 obtain⟨b,b2,c⟩:=EY ok n.toNat;rcases a with _|_|a
 .exact b
 .exact b2
 .exact c
def Ll {x y:Int}{m n:Nat}(hx:x.natAbs<2^m)(a:y.natAbs<2^n):(x*y).natAbs<2^(m+n):=by rw[AAv,ABS];exact ACm hx a
def fh {T S r x y a b nx c:Rat}(d:T=S*r)(x1:x*a=nx)(e:y*b=c):T*(a*b)+nx*c*S=S*(a*b)*(r+x*y):=by rw[d,<-x1,<-e];grind
def gD {w:Wd}{rows:kn (Int×Rat)}{a:Nat}{N W:Nat}(ha:a<3)(h:SB N rows)(ok:Hj W w)(hN:N+(3*W+2)<=2000){Q:PV->Prop}(q:∀n:Int,(n=0↔Cq w a rows=0)->(n<0↔Cq w a rows<0)->Q (.int n)):Ba [.lst (rows.map λe=>LU (Ai w e.1.toNat)), .lst (rows.map λe=>fr e.2), .int a] Q:=by
 have i:∀(n:Int) {R:PV->Prop},R (fr (fK w a n))->An (LU (Ai w n.toNat)) (.int a) R:=λn R r=>by
  have cs:a=0\/a=1\/a=2:=by omega
  rcases cs with rfl|rfl|rfl <;> exact r
 have hl:=h.l;generalize hc:N+(3*W+2)=c at *;apply GA;ac_rfl;rw[show G3 (rows.map λe=>LU (Ai w e.1.toNat)) (rows.map λe=>fr e.2)=rows.map λe=> .tup [LU (Ai w e.1.toNat),fr e.2] by unfold G3;rw[List.zipWith_map,List.zipWith_self]];generalize PV.lst (rows.map λe=>LU (Ai w e.1.toNat))=G1;generalize PV.lst (rows.map λe=>fr e.2)=G2;refine Cj (λe:Int×Rat=> .tup [LU (Ai w e.1.toNat),fr e.2]) (λd vs τ=>∃(T S:Int) (j k m o:ki AV),0<S/\(T:Rat)=(S:Rat)*Cq w a d/\S.natAbs<2^(d.length*c+1)/\T.natAbs<=d.length*2^(d.length*c+1)/\τ= [some (.val G1),some (.val G2),some (.val (.int a)),some (.val (.int T)),some (.val (.int S)),j,k,m,o]) ?_ ?_ ⟨0,1,_,_,_,_,by decide,by unfold Cq;simp,by simp,by simp,rfl⟩
 .rintro τ ⟨T,S,j,k,m,o,s,f,_,_,rfl⟩;have Sq:(0:Rat)<(S:Rat):=by exact_mod_cast s
  have g:=q T (by
   constructor
   .intro z;rw[z] at f;rcases ABY.mp f.symm with y|y
    .grind
    .exact y
   .intro z;rw[z,Rat.mul_zero] at f
    exact_mod_cast f) (by
   have:(T<0)↔(T:Rat)<0:=by rw[<-ABn,AB7]
   rw[this,f];have:=Rat.mul_lt_mul_left (a:=Cq w a rows) (b:=0) Sq;rw[Rat.mul_zero] at this;exact this)
  ac_rfl;exact g
 .rintro d e vs v τ R x ⟨T,S,j,k,m,o,s,f,t,D,rfl⟩;have E:e∈rows:=by rw[<-v];simp
  have ul:d.length<=12:=by have:=congrArg List.length v;simp at this;omega
  obtain⟨O,bw⟩:=h.p e E;have bf:=mV ok a e.1;have u:((e.2.den:Int)*((fK w a e.1).den:Int)).natAbs<2^c:=by rw[<-hc];exact Ll (by simpa using bw.bot) (by simpa using bf.bot)
  have A:(e.2.num*(fK w a e.1).num).natAbs<2^c:=by rw[<-hc];exact Ll bw.top bf.top
  have F:0<(e.2.den:Int)*((fK w a e.1).den:Int):=ABK (by exact_mod_cast e.2.den_pos) (by exact_mod_cast (fK w a e.1).den_pos);have P:d.length*c<=12*2000:=ABE ul (by omega);have sc:(d.length+1)*c=d.length*c+c:=by rw[ABU]
  have B:S.natAbs<2^24001:=Al t (by omega);have G:T.natAbs<2^24005:=by
   have:d.length*2^(d.length*c+1)<=12*2^24001:=ABE ul (ACc (by decide) (by omega));have:12*2^24001<2^24005:=by rw[show (24005:Nat)=24001+4 from rfl,ABS];have:=ADO 24001;omega
   omega
  have g:=x [some (.val G1),some (.val G2),some (.val (.int a)),some (.val (.int (T*(e.2.den*(fK w a e.1).den)+e.2.num*(fK w a e.1).num*S))),some (.val (.int (S*(e.2.den*(fK w a e.1).den)))),some (.val (LU (Ai w e.1.toNat))),some (.val (.int (e.2.den*(fK w a e.1).den))),some (.val (.int e.2.num)),some (.val (.int e.2.den))] ⟨_,_,_,_,_,_,ABK s F,by
   have x1:=SZ e.2;have H:=SZ (fK w a e.1);rw[bK,ADP,AAa,AAa,AAa,AAa,AAa,AAa,ABD,ABD];exact fh f x1 H,by
   have:=Ll t u;rw[AAi,ABB,sc];exact Al this (by omega),by
   have m1:(T*((e.2.den:Int)*((fK w a e.1).den:Int))).natAbs<=d.length*2^(d.length*c+1)*2^c:=by rw[AAv];exact ABE D (ACC u)
   have m2:=Ll A t;rw[AAi,ABB,sc,ABU,show d.length*c+c+1=d.length*c+1+c by omega,ABS,<-AA8];rw[show c+(d.length*c+1)=d.length*c+1+c by omega,ABS] at m2;omega,rfl⟩
  clear x;have I:((e.2.den:Nat):Int).natAbs<2^2001:=by simpa using Al bw.bot (by omega)
  have J:(((fK w a e.1).den:Nat):Int).natAbs<2^2001:=by simpa using Al bf.bot (by omega)
  have K:=Al bw.top (n:=2001) (by omega);have L:=Al bf.top (n:=2001) (by omega);have C:=Al u (n:=2001) (by omega);have M:=Al A (n:=2001) (by omega);ac_rfl;refine i _ ?_;ac_rfl;refine⟨MulOk.of I J, ?_⟩;ac_rfl;refine⟨MulOk.of G C, ?_⟩;ac_rfl;refine i _ ?_;ac_rfl;refine⟨MulOk.of K L, ?_⟩;ac_rfl;refine⟨MulOk.of M B, ?_⟩;ac_rfl;refine⟨MulOk.of B C, ?_⟩;ac_rfl;exact g
theorem SH:∀n:Nat,GT (List.replicate n (.bl true))=some (List.replicate n true)
 | 0=>rfl
 | n+1=>by rw[ACY,ACY];show (GT (List.replicate n (.bl true))).map (true :: ·)=_;rw[SH n];rfl
def c9 {rows:kn (Int×Rat)}{N:Nat}(h:SB N rows){Q:PV->Prop}(q:Q (.bl true)):Bq [Gc rows] Q:=by
 have hl:=h.l;rw[RN];apply C0;ac_rfl;refine EG Du PV.bl (λ_=>true) (λe=>e∈rows) (λe he R r=> ?_) rows [] (λe he=>he) ?_
 .ac_rfl;exact Pt (h.k e he) (h.p e he).1 r
 rw[AAx];ac_rfl;rw[AA3];refine Tq (LY (λ_=>true) rows) ?_;rw[show (rows.map λ_=>true).all id=true by simp];ac_rfl;refine LZ (λi a=>a=List.replicate i (.bl true)) (λa e=> ?_) (λi hi a R f e=> ?_) rfl
 .subst e;ac_rfl;refine Tq (bs:=List.replicate ((rows.length:Int)-1).toNat true) (SH _) ?_;rw[show (List.replicate ((rows.length:Int)-1).toNat true).all id=true by simp];exact q
 .have d:=f (a ++ [.bl true]) (by rw[e,List.replicate_succ']);clear f;have g:i+1<rows.length:=by omega
  have j:=AEL.mp h.r i (i+1) (by omega) g (by omega);have m:=AAS (l:=rows) (i:=i) (by omega);have n:=AAS (l:=rows) (i:=i+1) g;ac_rfl;rename_i c b _;have b:c=rows[i] :=by rw[show (1+(i:Int)-1).toNat=i by omega,m] at b;exact(AAb b).symm
  subst b;unfold Du;ac_rfl;rename_i c b _;have b:c=rows[i+1] :=by rw[show (1+(i:Int)).toNat=i+1 by omega,n] at b;exact(AAb b).symm
  subst b;rw[AAP j];exact d
def bJ {i j:Int}{rows:kn (Int×Rat)}{N:Nat}(h:SB N rows){Q:PV->Prop}(q:Q (.bl true)):CT [.tup [.int i, .int j,Gc rows], .int i, .int j] Q:=by apply Bt;ac_rfl;refine BR (.inl rfl) (by simp) ?_;rw[show decide (((([PV.int i,PV.int j,Gc rows] :kn PV).length:Nat):Int)=3)=true from rfl];ac_rfl;refine B8 ?_;ac_rfl;refine B8 ?_;ac_rfl;exact c9 h q
def XA {w:Wd}{rows:kn (Int×Rat)}{N W:Nat}(h:SB N rows)(ok:Hj W w)(v:W<=1300)(hN:N+(3*W+2)<=2000){Q:PV->Prop}(q:Q (.bl (Wz w rows))):DC [Y2 w,Gc rows] Q:=by
 have hl:=h.l;have j:∀e∈rows,∃n:Nat,n<12/\e.1=n:=λe he=>⟨e.1.toNat,by have:=h.k e he;omega,by have:=h.k e he;omega⟩;rw[RN];apply HZ;ac_rfl;refine EG Du LU (λe=>Ai w e.1.toNat) (λe=>e∈rows) (λe he R r=> ?_) rows [] (λe he=>he) ?_
 .obtain ⟨n,b,g⟩:=j e he;unfold Du;ac_rfl;rw[g] at r ⊢;exact WN ok (by omega) b (by simpa using r)
 rw[AAx];ac_rfl;refine EG Du fr (λe=>e.2) (λe=>e∈rows) (λe he R r=> ?_) rows [] (λe he=>he) ?_
 .unfold Du;ac_rfl;exact r
 rw[AAx,AA3,AA3];have S:=λa ha {Q:PV->Prop} q=>gD (Q:=Q) (a:=a) ha h ok hN q;ac_rfl;refine S 1 (by decide) λm o _=> ?_;unfold Wz at q;by_cases c:Cq w 1 rows=0;rotate_left
 .rw [AAY c] at q;have:¬m=0:=λz=>c (o.mp z);ac_rfl;all_goals first
   | exact q
   | (rename_i z;exact absurd z this)
 rw[AAP c,AB9] at q;have:m=0:=o.mpr c;subst this;ac_rfl;refine S 2 (by decide) λp s _=> ?_;by_cases d:Cq w 2 rows=0;rotate_left
 .rw [AAY d] at q;have:¬p=0:=λz=>d (s.mp z);ac_rfl;all_goals first
   | exact q
   | (rename_i z;exact absurd z this)
 rw[AAP d,AB9] at q;have:p=0:=s.mpr d;subst this;ac_rfl;refine S 0 (by decide) λf t u=> ?_;have q:Q (.bl (decide (f<0)||(decide (f=0)&&rows.any λe=>decide (strN e.1.toNat=1)))):=by rw[show decide (f<0)=decide (Cq w 0 rows<0) from AB4.mpr u,show decide (f=0)=decide (Cq w 0 rows=0) from AB4.mpr t];exact q
 ac_rfl
 .rename_i z;rw[AAP z] at q;exact q
 .rename_i z i;rw[AAY z,AAP i,ADn,AB9] at q;refine EG Du PV.bl (λe=>decide (strN e.1.toNat=1)) (λe=>e∈rows) (λe he R r=> ?_) rows [] (λe he=>he) ?_
  .obtain ⟨n,b,g⟩:=j e he;unfold Du;ac_rfl;rw[g] at r ⊢;refine bn b ?_;ac_rfl;simpa using r
  rw[AAx,AA3];ac_rfl;refine Tq (LY (λe:Int×Rat=>decide (strN e.1.toNat=1)) rows) ?_;rw[List.any_map];exact q
 .rename_i z i;rw[AAY z,AAY i] at q;exact q
def gF {L:kn (Nat×Nat×Wd)}{ps:kn (kn (Int×Rat))}(h:L.length=ps.length):G3 (L.map wrow) ((L.zip ps).map Az)=(L.zip ps).map λy=> .tup [wrow y.1,Az y] :=by
 unfold G3;induction L generalizing ps with
 | nil=>rfl
 | cons x L a=>
   cases ps with
   | nil=>simp at h
   | cons p ps=> have:=a (ps:=ps) (by simpa using h);simp only[AD4,AAM,AEV];rw[this]
def Va {v w u:PV}{L:kn (Nat×Nat×Wd)}{ps:kn (kn (Int×Rat))}{N:Nat}(hw:∀{Q:PV->Prop},Q (.lst (L.map wrow))->A0 [v,w,u] Q)(hl:L.length<=10100)(hp:L.length=ps.length)(ok:∀y∈L.zip ps,SB N y.2/\∃W,Hj W y.1.2.2/\3*W+2<=1300)(hN:N<=700){Q:PV->Prop}(q:Q (.bl ((L.zip ps).all λy=>Wz y.1.2.2 y.2))):BM [v,w,u, .tup ((L.zip ps).map Az)] Q:=by
 have m:(L.zip ps).length=L.length:=by rw[ABL];omega
 apply D7;ac_rfl;refine hw ?_;ac_rfl;refine BR (.inl rfl) (by rw[AAO];omega) ?_;rw[show decide ((((L.zip ps).map Az).length:Int)=(L.length:Int))=true by rw[AAO,m];exact AAP rfl];ac_rfl;rw[gF hp];generalize PV.tup ((L.zip ps).map Az)=P1;generalize PV.lst (L.map wrow)=P2;generalize L.zip ps=ys at *;refine Cj (λy:(Nat×Nat×Wd)×kn (Int×Rat)=> .tup [wrow y.1,Az y]) (λi vs τ=>(i.all λy=>Wz y.1.2.2 y.2)=true/\∃b c d e:ki AV,τ= [some (.val v),some (.val w),some (.val u),some (.val P1),some (.val P2),b,c,d,e]) ?_ ?_ ⟨rfl,_,_,_,_,rfl⟩
 .rintro τ ⟨f,_,_,_,_,rfl⟩;rw[f] at q;ac_rfl;exact q
 .rintro i y vs j τ R k ⟨f,b,c,d,e,rfl⟩;obtain⟨l,W,n,p⟩:=ok y (by rw[<-j];simp);have g:Wz y.1.2.2 y.2=true->∀b c d e:ki AV,R [some (.val v),some (.val w),some (.val u),some (.val P1),some (.val P2),b,c,d,e] :=λh b c d e=>k _ ⟨by rw[List.all_append,f];simp[h],b,c,d,e,rfl⟩;have o:Wz y.1.2.2 y.2=false->Q (.bl false):=λh=>by rw[<-j,List.all_append,List.all_cons,h,ADV,Bool.and_false] at q;exact q
  clear k;unfold wrow Az;ac_rfl;refine bJ l ?_;ac_rfl;refine XA l n (by omega) (by omega) ?_;cases hb:Wz y.1.2.2 y.2 with
  | true=> have a:=g hb;ac_rfl;exact a _ _ _ _
  | false=> have a:=o hb;ac_rfl;exact a
def h9 (v:PV):Prop:=v= .non\/(∃b,v= .bl b)\/(∃i,v= .int i)\/∃s,v= .str s
def df {v:PV}{n:Int}(h:h9 v){Q:PV->Prop}(q:Q (.bl false)):BX [v, .int n] Q:=by
 apply Gd;rcases h with rfl|⟨b,rfl⟩|⟨i,rfl⟩|⟨s,rfl⟩;all_goals
  ac_rfl;exact q
def mF (n:Nat)(v:PV):Prop:=h9 v\/∃xs,(v= .tup xs\/v= .lst xs)/\xs.length<=100000/\xs.length≠n
def Qt {v:PV}{n:Nat}(h:mF n v){Q:PV->Prop}(q:Q (.bl false)):BX [v, .int (n:Int)] Q:=by
 rcases h with h|⟨xs,hv,hl,a⟩
 .exact df h q
 .refine BR hv hl ?_;rw[AAY (by omega)];exact q
def Rq (v:PV)(k:ke):Prop:=∀{Q:PV->Prop},Q (.bl k)->C9 [v] Q
def Ro {e:Int×Rat}(k:0<=e.1/\e.1<12)(p:0<e.2):Rq (Du e) true:=λq=>Pt k p q
def XN {v:PV}(h:mF 2 v):Rq v false:=λ{Q} q=>by apply Dt;ac_rfl;refine Qt h ?_;ac_rfl;exact q
def Nx {a b:PV}(h:kdOf a≠none)(hw:Qp a=false):Rq (.tup [a,b]) false:=λ{Q} q=>by apply Dt;ac_rfl;refine BR (.inl rfl) (by simp) ?_;rw[show decide (((([a,b] :kn PV).length:Nat):Int)=2)=true from rfl];ac_rfl;refine Gz h ?_;rw[hw];ac_rfl;exact q
def Rp {n:Int}{b:PV}(h:(0<=n/\n<12)->∀{Q:PV->Prop},Q (.bl false)->Cf [b] Q):Rq (.tup [.int n,b]) false:=λ{Q} q=>by
 apply Dt;ac_rfl;refine BR (.inl rfl) (by simp) ?_;rw[show decide (((([PV.int n,b] :kn PV).length:Nat):Int)=2)=true from rfl];ac_rfl;refine B8 ?_;ac_rfl
 .rename_i a c;refine h ⟨a,c⟩ ?_;ac_rfl;exact q
 all_goals exact q
def Y5 (v:PV):Prop:=∀{Q:PV->Prop},Q (.bl false)->Bq [v] Q
def ZR {v:PV}(h:h9 v):Y5 v:=λ{Q} q=>by
 apply C0;rcases h with rfl|⟨b,rfl⟩|⟨i,rfl⟩|⟨s,rfl⟩;all_goals
  ac_rfl;exact q
def V9 {a:kn PV}(ps:kn (PV×ke))(e:a=ps.map Prod.fst)(hl:ps.length<=100)(h:∀p∈ps,Rq p.1 p.2)(hb:∃p∈ps,p.2=false):Y5 (.tup a):=λ{Q} q=>by
 subst e;apply C0;ac_rfl;refine EG Prod.fst PV.bl Prod.snd (λp=>p∈ps) (λp hp R r=> ?_) ps [] (λp hp=>hp) ?_
 .ac_rfl;exact h p hp r
 rw[AAx];ac_rfl;rw[AA3];refine Tq (LY Prod.snd ps) ?_;have:(ps.map Prod.snd).all id=false:=by obtain⟨p,hp,z⟩:=hb;rw[List.all_eq_false];exact⟨p.2,AAK.mpr ⟨p,hp,rfl⟩,by rw[z];decide⟩
 rw[this];ac_rfl;exact q
def E7 (i j:Int)(v:PV):Prop:=∀{Q:PV->Prop},Q (.bl false)->CT [v, .int i, .int j] Q
def SM {i j:Int}{v:PV}(h:mF 3 v):E7 i j v:=λ{Q} q=>by apply Bt;ac_rfl;refine Qt h ?_;ac_rfl;exact q
def mO {i j:Int}{a b c:PV}(h:kdOf a≠none)(hw:Qp a=false):E7 i j (.tup [a,b,c]):=λ{Q} q=>by apply Bt;ac_rfl;refine BR (.inl rfl) (by simp) ?_;rw[show decide (((([a,b,c] :kn PV).length:Nat):Int)=3)=true from rfl];ac_rfl;refine Gz h ?_;rw[hw];ac_rfl;exact q
def mP {i j a:Int}{b c:PV}(h:kdOf b≠none)(hw:Qp b=false):E7 i j (.tup [.int a,b,c]):=λ{Q} q=>by apply Bt;ac_rfl;refine BR (.inl rfl) (by simp) ?_;rw[show decide (((([PV.int a,b,c] :kn PV).length:Nat):Int)=3)=true from rfl];ac_rfl;refine B8 ?_;ac_rfl;refine Gz h ?_;rw[hw];ac_rfl;exact q
def QQ {i j a:Int}{c:PV}(h:a=i->Y5 c):E7 i j (.tup [.int a, .int j,c]):=λ{Q} q=>by
 apply Bt;ac_rfl;refine BR (.inl rfl) (by simp) ?_;rw[show decide (((([PV.int a,PV.int j,c] :kn PV).length:Nat):Int)=3)=true from rfl];ac_rfl;refine B8 ?_;ac_rfl;refine B8 ?_;ac_rfl
 .rename_i z;exact h z q
 all_goals exact q
structure ZC (y:(Nat×Nat×Wd)×PV) (rs:List (Int×Rat)):Prop where
 e:y.2=Az (y.1,rs)
 s:SB 700 rs
 w:∃W,Hj W y.1.2.2/\3*W+2<=1300
 t:Wz y.1.2.2 rs=true
def XT (y:(Nat×Nat×Wd)×PV):Prop:=E7 y.1.1 y.1.2.1 y.2\/((∀{Q:PV->Prop},Q (.bl true)->CT [y.2, .int y.1.1, .int y.1.2.1] Q)/\∃c,(∀{R:PV->Prop},R c->An y.2 (.int 2) R)/\∀{Q:PV->Prop},Q (.bl false)->DC [Y2 y.1.2.2,c] Q)
def gE {L:kn (Nat×Nat×Wd)}{vs:kn PV}:G3 (L.map wrow) vs=(L.zip vs).map λy=> .tup [wrow y.1,y.2] :=by
 unfold G3;induction L generalizing vs with
 | nil=>rfl
 | cons x L a=>
   cases vs with
   | nil=>rfl
   | cons p vs=>rw[AAM,AEV,AD4,AAM,a]
def QE (v w u:PV)(x:PV):Prop:=∀{Q:PV->Prop},Q (.bl false)->BM [v,w,u,x] Q
def SL {v w u x:PV}{L:kn (Nat×Nat×Wd)}(hw:∀{Q:PV->Prop},Q (.lst (L.map wrow))->A0 [v,w,u] Q)(h:mF L.length x):QE v w u x:=λ{Q} q=>by apply D7;ac_rfl;refine hw ?_;ac_rfl;refine Qt h ?_;ac_rfl;exact q
def gK {v w u x:PV}{vs:kn PV}{L:kn (Nat×Nat×Wd)}(hw:∀{Q:PV->Prop},Q (.lst (L.map wrow))->A0 [v,w,u] Q)(hl:L.length<=10100)(hv:x= .tup vs\/x= .lst vs)(p:vs.length=L.length)(all:∀y∈L.zip vs,(∃n,ZC y n)\/XT y)(i:∃y∈L.zip vs,XT y):QE v w u x:=λ{Q} q=>by
 apply D7;ac_rfl;refine hw ?_;ac_rfl;refine BR hv (by omega) ?_;rw[AAP (by rw[p])];ac_rfl;have j:∀{R:kn PV->Prop},R vs->Q8 x R:=λ{R} r=>by rcases hv with rfl|rfl <;> exact r
 refine j ?_;rw[gE];refine Cj (λy:(Nat×Nat×Wd)×PV=> .tup [wrow y.1,y.2]) (λo vs τ=>(∀y∈o,¬XT y)/\∃a b d f:ki AV,τ= [some (.val v),some (.val w),some (.val u),some (.val x),some (.val (.lst (L.map wrow))),a,b,d,f]) ?_ ?_ ⟨λy h=>(by cases h),_,_,_,_,rfl⟩
 .rintro τ ⟨k,_⟩;obtain⟨y,h,hb⟩:=i;exact absurd hb (k y h)
 .rintro o y z A τ R l ⟨k,a,b,d,f,rfl⟩;have h:y∈L.zip vs:=by rw[<-A];simp
  by_cases hb:XT y
  .clear l;unfold wrow;ac_rfl;rcases hb with hb|⟨h1,c,h2,h3⟩
   .refine hb ?_;ac_rfl;exact q
   .refine h1 ?_;ac_rfl;refine h2 ?_;ac_rfl;refine h3 ?_;ac_rfl;exact q
  .obtain ⟨n,g⟩:=(all y h).resolve_right hb;have m:=λa b d f=>l [some (.val v),some (.val w),some (.val u),some (.val x),some (.val (.lst (L.map wrow))),a,b,d,f] ⟨λB h'=>by
    rw[AAQ,AAT] at h';rcases h' with h'|rfl
    .exact k B h'
    .exact hb,a,b,d,f,rfl⟩
   clear l;obtain⟨W,C,D⟩:=g.w;rw[g.e];unfold wrow Az;ac_rfl;refine bJ g.s ?_;ac_rfl;refine XA g.s C (by omega) (by omega) ?_;rw[g.t];ac_rfl;exact m _ _ _ _
def iP {v w u:PV}{L:kn (Nat×Nat×Wd)}{ps:kn (kn (Int×Rat))}{k:Nat}{r:PV}(hw:∀{Q:PV->Prop},Q (.lst (L.map wrow))->A0 [v,w,u] Q)(hl:L.length<=10100)(hp:L.length=ps.length)(good:∀y∈L.zip ps,ZC (y.1,Az y) y.2)(hk:k<L.length)(a:E7 L[k].1 L[k].2.1 r):QE v w u (.tup (((L.zip ps).map Az).set k r)):=by
 have b:(L.zip ps).length=L.length:=by rw[ABL];omega
 have sl:(((L.zip ps).map Az).set k r).length=L.length:=by rw[List.length_set,AAO,b]
 intro Q q;refine gK hw hl (.inl rfl) sl (λy c=> ?_) ⟨(L[k],r), ?_, .inl a⟩ q
 .obtain ⟨n,d,e⟩:=List.getElem_of_mem c;rw[ACn] at e;have f:n<L.length:=by rw[ABL] at d;omega
  subst e;rw[List.getElem_set];split
  .rename_i z;subst z;exact .inr (.inl a)
  .refine .inl ⟨ps[n]'(by omega), ?_⟩;rw[List.getElem_map,ACn];exact good (L[n],ps[n]'(by omega)) (by
    have e:(L.zip ps)[n]'(by omega)=(L[n],ps[n]'(by omega)):=ACn;rw[<-e];exact AA2 _)
 .have:(L.zip (((L.zip ps).map Az).set k r))[k]'(by rw[ABL,sl];omega)=(L[k],r):=by rw[ACn,List.getElem_set_self]
  rw[<-this];exact AA2 _
end PL
namespace PL.K37
open PySem L2 PL PyProof.Rows
open PL.K31
abbrev C1:AS:=
 (Aa (Fo (V3 2 (FB (CH (N1 (aV 3)) 1 [4,5,6] (Aq 0) FC (Ab (AB (aV 1) (AB (aV 2) (AB (AX BW (Ab (AB (aV 0) AK)) (cU (aV 3) (cW (aC (.int 1))) cV)) AK))))))) 2)
   (Au (AX An (aV 2) (AR 2 BB (AB (aV 0) (AB (Fn Fq (AB (aV 2) AK)) AK))))))
abbrev CP:AS:=
 (Aa (B9 (BA (AX UE (aV 4) (aC (.int 2)))) (FV 2 Jw (AB (Ab (AB (AX Mo (aV 4) (aC (.int 1))) (AB (aV 5) (AB (aV 6) AK)))) AK)) BF)
   C1)
abbrev CO:AS:=
 (Aa (B9 (BA (AX UE (aV 7) (aC (.int 2)))) (FV 3 Jw (AB (Ab (AB (AX Mo (aV 7) (aC (.int 1))) (AB (aV 8) AK))) AK)) BF)
   CP)
abbrev Ep:AS:=
 (Aa (Fo (O2 3 (FB (C3 (AB (Ab (AB (Fn So (AB (aV 7) AK)) (AB (aV 8) AK))) (AB (Ab (AB (Ab (AB (aV 7) AK)) (AB (aV 8) AK))) (AB (Ab (AB (aC .non) (AB (aV 8) AK))) (AB (Ab (AB (aV 7) (AB (Ab (AB (aC (.int 1)) (AB (aC (.bl true)) AK))) AK))) (AB (Ab (AB (aV 7) (AB (Ab (AB (aC (.str "1")) (AB (aC (.int 1)) AK))) AK))) AK)))))))) 3)
   CO)
abbrev Eo:AS:=
 (Aa (Fo (O2 3 (FB (C3 (AB (Ab (AB (aV 7) (AB (Ab (AB (aC (.int 1)) (AB (aC (.int 1)) (AB (aC (.int 1)) AK)))) AK))) (AB (Ab (AB (aV 7) (AB (aC .non) AK))) (AB (Ab (AB (aV 7) (AB (aC (.str "1")) AK))) (AB (Ab (AB (aV 7) AK)) (AB (Ab (AB (aV 7) (AB (aV 8) (AB (aV 8) AK)))) (AB (aV 7) AK))))))))) 3)
   Ep)
abbrev En:AS:=
 (Aa (Fo (C3 (AB (Ab (AB (aV 7) (AB (aC (.int 1)) AK))) (AB (Ab (AB (aV 7) (AB (Ab (AB (aC (.int 2)) (AB (aC (.int 4)) AK))) AK))) (AB (Ab (AB (aV 7) (AB (Ab (AB (V4 LJ (aC (.int 1))) (AB (V4 LJ (aC (.int 1))) AK))) AK))) (AB (Ab (AB (aV 7) (AB (Ab (AB (aC (.int 1)) (AB (aC (.int 0)) AK))) AK))) (AB (Ab (AB (aV 7) (AB (Ab (AB (aC (.bl true)) (AB (aC (.int 2)) AK))) AK))) (AB (Ab (AB (aV 7) (AB (Ab (AB (aC (.int 1)) AK)) AK))) AK))))))) 3)
   Eo)
abbrev Em:AS:=
 (Aa (Fo (O2 2 (FB (C3 (AB (Ab (AB (FB (C3 (AB (aV 4) AK))) (AB (aV 5) (AB (aV 6) AK)))) (AB (Ab (AB (aV 4) (AB (Ab (AB (aV 5) AK)) (AB (aV 6) AK)))) (AB (Ab (AB (aV 4) (AB (aV 5) (AB (Ab (AB (aV 6) AK)) AK)))) (AB (aC (.str "row")) (AB (Ab (AB (aV 4) (AB (aV 5) (AB (AX BW (aV 6) (Ab (AB (aC .non) AK))) AK)))) AK)))))))) 2)
   En)
abbrev El:AS:=
 (Aa (Fo (O2 2 (FB (C3 (AB (Ab (AB (AX BW (aV 4) (aC (.int 40))) (AB (aV 5) (AB (aV 6) AK)))) (AB (Ab (AB (aV 4) (AB (aV 5) (AB (AX BW (aV 6) (Ab (AB (Ab (AB (aC (.int 12)) (AB (Ab (AB (aC (.int 1)) (AB (aC (.int 1)) AK))) AK))) AK))) AK)))) (AB (Ab (AB (aV 4) (AB (aV 5) (AB (AX BW (Ab (AB (Ab (AB (V4 LJ (aC (.int 1))) (AB (Ab (AB (aC (.int 1)) (AB (aC (.int 1)) AK))) AK))) AK)) (aV 6)) AK)))) AK)))))) 2)
   Em)
abbrev Ek:AS:=
 (Aa (Fo (C3 (AB (Ab (AB (aV 4) (AB (aV 5) AK))) (AB (Ab (AB (aV 4) (AB (aV 5) (AB (aV 6) (AB (Ab AK) AK))))) (AB (Ab (AB (aV 4) (AB (Fn So (AB (aV 5) AK)) (AB (aV 6) AK)))) (AB (Ab (AB (aV 4) (AB (aV 5) (AB (aC .non) AK)))) (AB (Ab (AB (aV 4) (AB (aV 5) (AB (aC (.int 3)) AK)))) (AB (Ab (AB (aV 4) (AB (aV 5) (AB (aC (.str "0")) AK)))) (AB (aV 4) (AB (aC .non) (AB (aC (.bl true)) (AB (Ab AK) AK))))))))))) 2)
   El)
abbrev Ej:AS:=
 (Aa (Ao (AX An (aV 6) (aC (.int 0))) (Hl 2 (Ad (Aq 7) (Ad (Aq 8) Bb))))
   Ek)
abbrev EO:AS:=
 (Aa (Ao (aV 1) (Hl 3 (Ad (Aq 4) (Ad (Aq 5) (Ad (Aq 6) Bb)))))
   Ej)
def B0:AF:=Ar 9 EO
def J4 {a x1:PV}{Q:PV->Prop}(h:EO ⟨λ_=>Q .non,Q,λ_=>False,λ_=>False⟩ [some (.val a),some (.val x1),none,none,none,none,none,none,none]):B0 [a,x1] Q:=h
abbrev GI:AS:=
 (Aa (Ao (FB (CH (QP (AB (aC (.int 8)) AK)) 1 [1,2,0] (Aq 0) FC (AX BW (AX BW (cU (aV 1) cV (cW (aV 2))) (Ab (AB (AR 2 B0 (AB (aV 3) (AB (AX An (aV 1) (aV 2)) AK))) AK))) (cU (aV 1) (cW (AX BW (aV 2) (aC (.int 1)))) cV)))) (Aq 3))
   (Au (AX BW (aV 3) (FB (C3 (AB (Ab (AB (aC (.str "apart")) (AB (aV 1) AK))) (AB (Ab (AB (aV 1) AK)) (AB (AX BW (aV 1) (Ab (AB (aC .non) AK))) (AB (AX BW (FB (ZM (AB (aV 1) AK))) (FB (C3 (AB (AX An (aV 1) (aC (.int 0))) AK)))) (AB (iI (aV 1)) AK))))))))))
abbrev Ei:AS:=
 (Aa (Ao (AR 2 BB (AB (aV 0) (AB (Fn Fq (AB (aV 1) AK)) AK))) (Aq 2))
   GI)
def Bl:AF:=Ar 4 Ei
def HK {a x1:PV}{Q:PV->Prop}(h:Ei ⟨λ_=>Q .non,Q,λ_=>False,λ_=>False⟩ [some (.val a),some (.val x1),none,none]):Bl [a,x1] Q:=h
abbrev Px:AS:=
 (Aa (Ao (AX BW (aV 5) (AR 2 Bl (AB (aV 2) (AB (AX An (aV 4) (aC (.int 1))) AK)))) (Aq 5))
   (B9 (BA (AX PF (AR 4 BM (AB (aV 7) (AB (aV 8) (AB (aV 3) (AB (AX An (aV 4) (aC (.int 1))) AK))))) (aC (.bl true)))) (Au (aC (.bl false))) BF))
abbrev LA:AS:=
 (Aa (B9 (BA (AX Mo (AX An (aV 4) (aC (.int 0))) (aC (.str "apart")))) Px BF)
   (GE (N1 (aV 5)) (Aq 6) (B9 (BA (AX PF (AR 4 BM (AB (aV 7) (AB (aV 8) (AB (aV 3) (AB (aV 6) AK))))) (aC (.bl false)))) (Au (aC (.bl false))) BF)))
abbrev K9:AS:=
 (Aa (Ao (FB (C3 (AB (aC .non) (AB (aC (.bl true)) (AB (aC (.int 0)) (AB (aC (.int 7)) (AB (aC (.str "apart")) (AB (aC (.str "")) (AB (FB (C3 (AB (aC .non) AK))) (AB (FB (C3 (AB (FB (C3 AK)) AK))) (AB (Ab (AB (Ab AK) AK)) (AB (Ab (AB (aC (.int 0)) (AB (aC (.int 0)) (AB (Ab AK) AK)))) (AB (FB (C3 (AB (FB (C3 (AB (aC (.int 0)) (AB (aC (.int 0)) (AB (FB (C3 AK)) AK))))) AK))) AK))))))))))))) (Aq 5))
   LA)
abbrev K8:AS:=
 (Aa (Ao (AR 3 DA (AB (aV 7) (AB (aV 8) (AB (aV 3) AK)))) (Aq 4))
   K9)
abbrev K7:AS:=
 (Aa (Ao (AR 1 F__law_apart (AB (aV 2) AK)) (Aq 3))
   K8)
abbrev K6:AS:=
 (Aa (Ao (AR 1 EQ (AB (aV 2) AK)) (Hl 2 (Ad (Aq 7) (Ad (Aq 8) Bb))))
   K7)
abbrev Py:AS:=
 (Aa (Ao (AR 2 MZ (AB (aV 0) (AB (aV 1) AK))) (Aq 2))
   K6)
abbrev Os:AS:=
 (Aa (GE (QP (AB (AX BW (aC (.int 1)) (Fn (ic min) (AB (aC (.int 2)) (AB (Fn Fq (AB (aV 0) AK)) AK)))) AK)) (Aq 1) Py)
   (Au (aC (.bl true))))
def EL:AF:=Ar 9 Os
def Tj {a:PV}{Q:PV->Prop}(h:Os ⟨λ_=>Q .non,Q,λ_=>False,λ_=>False⟩ [some (.val a),none,none,none,none,none,none,none,none]):EL [a] Q:=h
section
variable {i:Nat}{ta tb:AE}{τ τ':A6}{Q:kn PV->Prop}{xs ys:kn PV}{R:PV->Prop}
def mQ (xs:kn PV)(Q:kn PV->Prop):PV->Prop | .lst ys=>xs.length+ys.length<=sizeLine/\Q (xs++ys)|_=>False
def mR (xs:kn PV)(Q:kn PV->Prop):PV->Prop | .lst ys=>xs.length+ys.length<=sizeLine/\JC ys=true/\Q (xs++ys)|_=>False
instance:Wp (O2 i tb τ Q) (HG i τ λxs=>tb τ λy=>mQ xs Q y):=⟨id⟩
instance[h:Yu τ τ'] :Wp (V3 i tb τ Q) (HG i τ λxs=>tb τ' λy=>mR xs Q y):=⟨λk=>by unfold V3;rw[h.e];exact k⟩
instance:Wp (mQ xs Q (.lst ys)) (xs.length+ys.length<=sizeLine/\Q (xs++ys)):=⟨id⟩
instance:Wp (mR xs Q (.lst ys)) (xs.length+ys.length<=sizeLine/\JC ys=true/\Q (xs++ys)):=⟨id⟩
instance:Wp (iI ta τ R) (ta τ λx=>Q8 x λxs=>0<xs.length/\R (.bl false)):=⟨id⟩
end
def oD {b:PV}(h:h9 b){Q:PV->Prop}(q:Q (.bl false)):Cf [b] Q:=by
 apply Ky;rcases h with rfl|⟨b,rfl⟩|⟨i,rfl⟩|⟨s,rfl⟩;all_goals
  ac_rfl;exact q
def wH:kn PV->ke
 | [_, .int b] =>decide (b.natAbs<9)
 | _=>true
def oE {xs:kn PV}(h:(decide (xs.length<=5)&&(xs.all (λx=>(kdOf x).isSome)&&(wH xs&&!Oa xs)))=true){Q:PV->Prop}(q:Q (.bl false)):Cf [.tup xs] Q:=by
 rw[AAs,AAs,AAs,ACk,ABj,Bool.not_eq_true'] at h;obtain⟨h1,h2,h3,c⟩:=h;refine Tc (B:=9) (.inl rfl) (by omega) ⟨λy d z=> ?_,λa b e=> ?_⟩ (by rw[c];exact q)
 .have:=h2 y d;rw[z] at this;cases this
 .subst e;exact AA5 h3
def aK {i j n:Int}{e:Int×Rat}{a:kn (Int×Rat)}(h:∀p∈a,(0<=p.1/\p.1<12)/\0<p.2)(hl:a.length<=20){m:PV}(b:Rq m false):E7 i j (.tup [.int i, .int j, .tup (m::a.map Du)]):=by
 intro Q q;refine QQ (λ_=> ?_) q;refine V9 ((m,false)::a.map λp=>(Du p,true)) (by simp[Function.comp_def]) (by simp;omega) (λp hp=> ?_) ⟨(m,false),by simp,rfl⟩;rw[AAJ,AAK] at hp;rcases hp with rfl|⟨p,hp,rfl⟩
 .exact b
 .exact Ro (h p hp).1 (h p hp).2
def TF {xs:kn PV}(h:∀x∈xs,Rs x=true):JC xs=true:=by
 induction xs with
 | nil=>rfl
 | cons x xs a=>rw[JC,AAs];exact⟨h x (by simp),a λy b=>h y (by simp[b])⟩
def kg {S M:kn PV}{i j:Int}{x1 x7 x8:ki AV}{e:Int×Rat}{a:kn (Int×Rat)}(h:∀p∈a,(0<=p.1/\p.1<12)/\0<p.2)(hl:a.length<=20)(sl:S.length<=40)(d:M.length<=40)(l:0<S.length)(hs:∀v∈S,E7 i j v)(c:∀v∈M,Rq v false/\Rs v=true){Q:PV->Prop}(q:∀v,E7 i j v->Q v):C1 ⟨λ_=>Q .non,Q,λ_=>False,λ_=>False⟩ [some (.val .tape),x1,some (.own S),some (.own M),some (.val (.int i)),some (.val (.int j)),some (.val (.tup (Du e::a.map Du))),x7,x8] :=by
 have f:FD (Du e::a.map Du) (some 1) none=a.map Du:=by rw[show ((1:Int))=((1:Nat):Int) from rfl];unfold FD;rw[HT.sIx_none,HT.sIx_nat,AEB (by simp)];exact ABk (by simp)
 have o:(a.map Du).length<=20:=by simpa using hl
 ac_rfl;refine⟨AAj d (by decide), ?_⟩;rw[show M=M.map id by simp];refine EG id (λm:PV=> .tup [.int i, .int j, .tup (m::a.map Du)]) id (λm=>m∈M) (λm b R r=> ?_) M [] (λm b=>b) ?_
 .ac_rfl;rw[f];refine⟨AAX (show _<=30 by rw[ABB];omega) (by decide), ?_⟩;ac_rfl;exact r
 rw[AAx,List.map_id];ac_rfl;refine⟨TF λx hx=> ?_, ?_⟩
 .obtain ⟨m,b,rfl⟩:=AAK.mp hx;have g:JC (a.map Du)=true:=TF λx hx=>by obtain⟨p,_,rfl⟩:=AAK.mp hx;rfl
  have k:=(c m b).2;simp[Rs,JC,g,k]
 have s:(S++M.map λm=>PV.tup [.int i, .int j, .tup (m::a.map Du)]).length=S.length+M.length:=by simp
 have all:∀v∈S++M.map λm=>PV.tup [.int i, .int j, .tup (m::a.map Du)],E7 i j v:=λv hv=>by
  rw[AAQ,AAK] at hv;rcases hv with hv|⟨m,b,rfl⟩
  .exact hs v hv
  .exact aK (n:=0) (e:=e) h hl (c m b).1
 generalize S++M.map (λm=>PV.tup [.int i, .int j, .tup (m::a.map Du)])=F at *;ac_rfl;exact PL.ix_any ‹_› ‹_› λv hv=>q v (all v hv)
def pD {S M:kn PV}{i j:Int}{x1 x7 x8:ki AV}{e:Int×Rat}{a:kn (Int×Rat)}(h:∀p∈a,(0<=p.1/\p.1<12)/\0<p.2)(hl:a.length<=20)(sl:S.length<=30)(c:M.length<=40)(d:0<S.length)(hs:∀v∈S,E7 i j v)(f:∀v∈M,Rq v false/\Rs v=true){Q:PV->Prop}(q:∀v,E7 i j v->Q v):CP ⟨λ_=>Q .non,Q,λ_=>False,λ_=>False⟩ [some (.val .tape),x1,some (.own S),some (.own M),some (.val (.int i)),some (.val (.int j)),some (.val (.tup (Du e::a.map Du))),x7,x8] :=by
 have nx:=λ{b:kn PV} (l:b.length<=40) (g:0<b.length) (hs:∀v∈b,E7 i j v)=>kg (x1:=x1) (x7:=x7) (x8:=x8) (e:=e) h hl l c g hs f (Q:=Q) q;unfold CP;generalize C1=T at *;ac_rfl
 .refine ⟨AAj sl (by decide), ?_⟩;ac_rfl;refine nx (by simp;omega) (by simp) λv hv=> ?_;rw[AAQ,AAT] at hv;rcases hv with hv|rfl
  .exact hs v hv
  .exact mO (λz=>by cases z) rfl
 .exact nx (by omega) d hs
def pC {S M:kn PV}{i j n:Int}{w:PV}{x1:ki AV}{e:Int×Rat}{b:kn (Int×Rat)}(d:Rs w=true)(h:∀p∈b,(0<=p.1/\p.1<12)/\0<p.2)(hl:b.length<=20)(sl:S.length<=30)(f:M.length<=30)(g:0<S.length)(hs:∀v∈S,E7 i j v)(a:∀v∈M,Rq v false/\Rs v=true){Q:PV->Prop}(q:∀v,E7 i j v->Q v):CO ⟨λ_=>Q .non,Q,λ_=>False,λ_=>False⟩ [some (.val .tape),x1,some (.own S),some (.own M),some (.val (.int i)),some (.val (.int j)),some (.val (.tup (Du e::b.map Du))),some (.val (.int n)),some (.val w)] :=by
 have nx:=λ{c:kn PV} (l:c.length<=40) (a:∀v∈c,Rq v false/\Rs v=true)=>pD (x1:=x1) (x7:=some (.val (.int n))) (x8:=some (.val w)) (e:=e) h hl sl l g hs a (Q:=Q) q;unfold CO;generalize CP=T at *;ac_rfl
 .refine ⟨AAj f (by decide), ?_⟩;ac_rfl;refine nx (by simp;omega) λv hv=> ?_;rw[AAQ,AAT] at hv;rcases hv with hv|rfl
  .exact a v hv
  .exact ⟨Nx (λz=>by cases z) rfl,by simp[Rs,JC,d]⟩
 .exact nx (by omega) a
def Ua {i j:Int}{e:Int×Rat}{c:kn (Int×Rat)}(hi:i.natAbs<1000)(hj:j.natAbs<1000)(h:∀p∈e::c,(0<=p.1/\p.1<12)/\0<p.2)(hl:c.length<=20){Q:PV->Prop}(q:∀v,E7 i j v->Q v):B0 [.tape, .tup [.int i, .int j,Gc (e::c)]] Q:=by
 obtain⟨⟨t,l⟩,ep⟩:=h e (by simp);have o:∀p∈c,(0<=p.1/\p.1<12)/\0<p.2:=λp hp=>h p (by simp[hp]);have u:e.1.natAbs<1000000:=by omega
 have nx:=λ{S M:kn PV}=>pC (S:=S) (M:=M) (i:=i) (j:=j) (n:=e.1) (w:=fr e.2) (x1:=some (.val (.tup [.int i, .int j,Gc (e::c)]))) (e:=e) rfl o hl (Q:=Q);rw[RN,AAM] at nx ⊢;apply J4;unfold EO Ej Ek El Em En Eo Ep;generalize CO=T at *;have B:(c.map Du).length<=20:=by simpa using hl
 have y:∀{k:Nat},k<=3->(c.map Du).length+k<=sizeLine:=λ{k} hk=>AAX (show _<=23 by omega) (by decide);generalize A:c.map Du=W at *;have ss:∀{i:Int} {R:PV->Prop},i.natAbs<1000000->R (.str (Str.ofString (toString i)))->So [.int i] R:=λa b=>⟨a,b⟩;unfold Du;ac_rfl;refine ss (by omega) ?_;ac_rfl;refine ss u ?_;ac_rfl;subst A;have sc:∀{i j:Int} {v:PV},h9 v->E7 i j v:=λ{i j v} h {_} q=>SM (.inl h) q;have len:∀{i j:Int} {xs:kn PV},xs.length<=9->xs.length≠3->E7 i j (.tup xs):=λ{i j xs} h1 h2 {_} q=>SM (.inr ⟨_, .inl rfl,by omega,h2⟩) q;have d:∀{xs:kn PV},xs.length<=9->xs.length≠2->Rq (.tup xs) false:=λ{xs} h1 h2 {_} q=>XN (.inr ⟨_, .inl rfl,by omega,h2⟩) q;have good:∀p∈(Du e,true)::c.map (λp=>(Du p,true)),Rq p.1 p.2:=λp hp=>by
  rw[AAJ,AAK] at hp;rcases hp with rfl|⟨p,hp,rfl⟩
  .exact Ro ⟨t,l⟩ ep
  .exact Ro (o p hp).1 (o p hp).2
 have f:((Du e,true)::c.map (λp=>(Du p,true))).map Prod.fst=Du e::c.map Du:=by simp[Function.comp_def]
 have s:((Du e,true)::c.map (λp=>(Du p,true))).length<=21:=by simp;omega
 have behind:∀{m:PV},Rq m false->Y5 (.tup (Du e::c.map Du ++ [m])):=λ{m} hm=>V9 (((Du e,true)::c.map λp=>(Du p,true)) ++ [(m,false)]) (by rw[ABl,f];rfl) (by rw[AAi,ABB];omega) (λp hp=>by
  rw[AAQ,AAT] at hp;rcases hp with hp|rfl
  .exact good p hp
  .exact hm) ⟨(m,false),by simp,rfl⟩
 have ahead:∀{m:PV},Rq m false->Y5 (.tup ([m] ++ Du e::c.map Du)):=λ{m} hm=>V9 ((m,false)::(Du e,true)::c.map λp=>(Du p,true)) (by rw[AAM,f];rfl) (by rw[AAp];omega) (λp hp=>by
  rw[AAJ] at hp;rcases hp with rfl|hp
  .exact hm
  .exact good p hp) ⟨(m,false),by simp,rfl⟩
 have num:∀{n:Int} {b:PV},¬(0<=n/\n<12)->Rq (.tup [.int n,b]) false:=λh=>Rp λz=>absurd z h;have r:Rq (.tup (Du e::c.map Du)) false:=by
  match c,hl with
  | [],_=>exact λ{_} q=>d (xs:= [Du e]) (by simp) (by simp) q
  | [p],_=>exact λ{_} q=>Nx (a:=Du e) (b:=Du p) (λz=>by cases z) rfl q
  | p::p'::c,hl=>exact λ{_} q=>XN (.inr ⟨_, .inl rfl,by simp at hl ⊢;omega,by simp⟩) q
 refine nx (by simp) (by simp) (by simp) ?_ ?_ q
 .intro v hv;simp only[AAQ,AAJ,AAe,AAf] at hv;rcases hv with(((rfl|rfl|rfl|rfl|rfl|rfl|rfl|rfl|rfl|rfl)|rfl|rfl|rfl)|rfl|rfl|rfl|rfl|rfl)
  .exact len (by simp) (by simp)
  .exact len (by simp) (by simp)
  .exact mP (λz=>by cases z) rfl
  .exact QQ λ_=>ZR (.inl rfl)
  .exact QQ λ_=>ZR (.inr (.inr (.inl ⟨_,rfl⟩)))
  .exact QQ λ_=>ZR (.inr (.inr (.inr ⟨_,rfl⟩)))
  .exact sc (.inr (.inr (.inl ⟨_,rfl⟩)))
  .exact sc (.inl rfl)
  .exact sc (.inr (.inl ⟨_,rfl⟩))
  .exact len (by simp) (by simp)
  .exact QQ λz=>absurd z (by omega)
  .exact QQ λ_=>behind (num (by omega))
  .exact QQ λ_=>ahead (num (by omega))
  .exact mO (λz=>by cases z) rfl
  .exact mP (λz=>by cases z) rfl
  .exact QQ λ_=>V9 [(_,false)] rfl (by simp) (λp hp=>by rw[AAT] at hp;subst hp;exact r) ⟨_,List.mem_singleton_self _,rfl⟩
  .exact sc (.inr (.inr (.inr ⟨_,rfl⟩)))
  .exact QQ λ_=>behind λ{_} q=>XN (.inl (.inl rfl)) q
 .have g:∀{xs:kn PV},(decide (xs.length<=5)&&(xs.all (λx=>(kdOf x).isSome)&&(wH xs&&!Oa xs)))=true->∀{n:Int},Rq (.tup [.int n, .tup xs]) false:=λ{xs} h {n}=>Rp λ_ {_} q=>oE h q;have ps:∀{b:PV} {n:Int},h9 b->Rq (.tup [.int n,b]) false:=λ{b n} h=>Rp λ_ {_} q=>oD h q;intro v hv;simp only[AAQ,AAJ,AAe,AAf] at hv;rcases hv with(((rfl|rfl|rfl|rfl|rfl|rfl)|rfl|rfl|rfl|rfl|rfl|rfl)|rfl|rfl|rfl|rfl|rfl)
  .exact ⟨ps (.inr (.inr (.inl ⟨_,rfl⟩))),rfl⟩
  .exact ⟨g (by decide),rfl⟩
  .exact ⟨g (by decide),rfl⟩
  .exact ⟨g (by decide),rfl⟩
  .exact ⟨g (by decide),rfl⟩
  .exact ⟨g (by decide),rfl⟩
  .exact ⟨g (by decide),rfl⟩
  .exact ⟨ps (.inl rfl),rfl⟩
  .exact ⟨ps (.inr (.inr (.inr ⟨_,rfl⟩))),rfl⟩
  .exact ⟨d (by simp) (by simp),rfl⟩
  .exact ⟨d (by simp) (by simp),rfl⟩
  .exact ⟨λ{_} q=>XN (.inl (.inr (.inr (.inl ⟨_,rfl⟩)))) q,rfl⟩
  .exact ⟨Nx (λz=>by cases z) rfl,rfl⟩
  .exact ⟨Nx (λz=>by cases z) rfl,rfl⟩
  .exact ⟨Nx (λz=>by cases z) rfl,rfl⟩
  .exact ⟨g (by decide),rfl⟩
  .exact ⟨g (by decide),rfl⟩
def iR {xs:kn PV}{k:Nat}(h:k<=xs.length):FD xs none (some (k:Int))=xs.take k:=by unfold FD;rw[HT.sIx_none,HT.sIx_nat,AEB h];simp
def Za {xs:kn PV}{k:Nat}(h:k<=xs.length):FD xs (some (k:Int)) none=xs.drop k:=by unfold FD;rw[HT.sIx_none,HT.sIx_nat,AEB h];exact ABk (by simp)
structure vR (v w u:PV) (L:List (Nat×Nat×Wd)) (ps:List (List (Int×Rat))):Prop where
 hw:∀{Q:PV->Prop},Q (.lst (L.map wrow))->A0 [v,w,u] Q
 hl:L.length<=900
 h0:0<L.length
 hp:L.length=ps.length
 ix:∀y∈L,y.1<100/\y.2.1<100
 good:∀y∈L.zip ps,ZC (y.1,Az y) y.2
def oo {w:Wd}:Wz w [] =false:=by unfold Wz Cq;simp
def Hq {v w u x:PV}{vs:kn PV}{L:kn (Nat×Nat×Wd)}(hw:∀{Q:PV->Prop},Q (.lst (L.map wrow))->A0 [v,w,u] Q)(hl:L.length<=900)(c:0<L.length)(hv:x= .tup vs\/x= .lst vs)(sl:vs.length<=1000)(h:vs.length=L.length->∀y∈L.zip vs,XT y):QE v w u x:=λ{Q} q=>by
 by_cases a:vs.length=L.length
 .have d:0<(L.zip vs).length:=by rw[ABL];omega
  exact gK hw (by omega) hv a (λy b=> .inr (h a y b)) ⟨(L.zip vs)[0],AA2 _,h a _ (AA2 _)⟩ q
 .exact SL hw (.inr ⟨vs,hv,by omega,a⟩) q
def F6 {L:kn (Nat×Nat×Wd)}{vs:kn PV}{y:(Nat×Nat×Wd)×PV}(h:y∈L.zip vs):y.2∈vs:=(ABw (show (y.1,y.2)∈L.zip vs from h)).2
def OO {v w u:PV}{L:kn (Nat×Nat×Wd)}{ps:kn (kn (Int×Rat))}(P:vR v w u L ps){Q:PV->Prop}(q:∀T:kn PV,T.length<=20->(∀x∈T,QE v w u x)->Q (.lst T)):Bl [.tape, .tup ((L.zip ps).map Az)] Q:=by
 have hl:=P.hl;have E:=P.h0;have hp:=P.hp;have f:((L.zip ps).map Az).length=L.length:=by rw[AAO,ABL];omega
 have d:∀{n:Nat},n<=2000->n<=sizeLine:=λh=>AAX h (by decide);apply HK;ac_rfl;rename_i k S J;obtain⟨n,rfl⟩:∃n:Nat,k=n:=⟨k.toNat,by omega⟩;have hk:n<L.length:=by
  have K:(L.zip ps).length=L.length:=by rw[ABL];omega
  rw[K] at J;omega
 have M:FD ((L.zip ps).map Az) none (some (n:Int))=((L.zip ps).map Az).take n:=iR (by omega);have N:FD ((L.zip ps).map Az) (some ((n:Int)+1)) none=((L.zip ps).map Az).drop (n+1):=by rw[show ((n:Int)+1)=((n+1:Nat):Int) by omega];exact Za (by omega)
 have U:(((L.zip ps).map Az).take n).length<=900:=by rw[ACz];omega
 have W:(((L.zip ps).map Az).drop (n+1)).length<=900:=by rw[ADc];omega
 have F:(L.zip ps)[n]? =some (L[n],ps[n]'(by omega)):=by rw[AAS (by rw[ABL];omega),ACn]
 have O:(L[n],ps[n]'(by omega))∈L.zip ps:=ACH F;have g:=P.good _ O;obtain⟨X,Y⟩:=P.ix _ (AA2 hk);have z:∀{Q:PV->Prop},(∀r,E7 L[n].1 L[n].2.1 r->Q r)->B0 [.tape, .tup [.int (L[n].1:Int), .int (L[n].2.1:Int),Gc (ps[n]'(by omega))]] Q:=λ{Q} q=>by
  have A:SB 700 (ps[n]'(by omega)):=g.s;have G:Wz L[n].2.2 (ps[n]'(by omega))=true:=g.t;generalize ps[n]'(by omega)=H at *;cases H with
  | nil=>rw[oo] at G;cases G
  | cons e H=>exact Ua (by omega) (by omega) (λp hp=>⟨A.k p hp,(A.p p hp).1⟩) (by have:=A.l;rw[AAp] at this;omega) q
 refine LZ (λi a=>a.length=i/\∀x∈a,QE v w u x) (λa ⟨B,C⟩=> ?_) (λi hi a R I ⟨B,C⟩=> ?_) ⟨rfl,λ_ h=>by cases h⟩
 .ac_rfl;refine q _ (by rw[AAi,B];simp) λx hx=> ?_;rw[AAQ] at hx;rcases hx with hx|hx
  .exact C x hx
  simp only[AAJ,AAe,AAf] at hx;have one:L.length≠3->∀i j,E7 i j (.tup ((L.zip ps).map Az)):=λh i j {_} q=>SM (.inr ⟨_, .inl rfl,by omega,by omega⟩) q;rcases hx with rfl|rfl|rfl|rfl|rfl
  .refine λ{_} q=>Hq (vs:= [_,_]) P.hw hl E (.inl rfl) (by simp) (λe y D=> .inl ?_) q;have e:2=L.length:=e;have m:=F6 D;simp only[AAJ,AAe,AAf] at m;rcases m with m|m
   .rw [m];exact λ{_} q=>SM (.inl (.inr (.inr (.inr ⟨_,rfl⟩)))) q
   .rw [m];exact λ{_} q=>one (by omega) _ _ q
  .refine λ{_} q=>Hq (vs:= [_]) P.hw hl E (.inl rfl) (by simp) (λe y D=> .inl ?_) q;have e:1=L.length:=e;have m:=F6 D;rw[AAT] at m;rw[m];exact λ{_} q=>one (by omega) _ _ q
  .exact λ{_} q=>SL P.hw (.inr ⟨_, .inl rfl,by rw[AAi,f,ABB];omega,by rw[AAi,f,ABB];omega⟩) q
  .exact λ{_} q=>SL P.hw (.inr ⟨_, .inr rfl,by rw[AAi,f,ABB];omega,by rw[AAi,f,ABB];omega⟩) q
  .exact λ{_} q=>SL P.hw (.inl (.inr (.inl ⟨_,rfl⟩))) q
 .have b:=λr (hb:E7 L[n].1 L[n].2.1 r)=>I (a ++ [.tup (((L.zip ps).map Az).set n r)]) ⟨by rw[AAi,B];rfl,λx hx=>by
   rw[AAQ,AAT] at hx;rcases hx with hx|rfl
   .exact C x hx
   .exact iP P.hw (by omega) hp P.good hk hb⟩
  clear I;ac_rfl;rename_i c o _;have o:c=(L[n],ps[n]'(by omega)):=by rw[show (n:Int).toNat=n by omega,F] at o;exact(AAb o).symm
  subst o;refine z λr hb=> ?_;ac_rfl;rw[M];refine⟨d (by rw[ABB];omega), ?_⟩;ac_rfl;rw[N];refine⟨d (by rw[AAi,ABB];omega), ?_⟩;have b:=b r hb;rw[List.set_eq_take_append_cons_drop,AAG (by omega)] at b;rw[List.append_assoc];exact b
def vA {a:Int}{Q:PV->Prop}(q:Q (.int 0)):Ba [.lst [], .lst [], .int a] Q:=by apply GA;ac_rfl;exact q
def yH {Q:PV->Prop}(q:Q (.bl true)):Bq [.lst []] Q:=by apply C0;ac_rfl;rw[show rng 1 (((([] :kn PV).length:Nat):Int)-1).toNat= [] from rfl];ac_rfl;exact q
def Vl {v w u:PV}{L:kn (Nat×Nat×Wd)}(hw:∀{Q:PV->Prop},Q (.lst (L.map wrow))->A0 [v,w,u] Q)(hl:L.length<=900)(b:0<L.length)(d:∀y∈L,∃W,Hj W y.2.2/\3*W+2<=1300):∀x∈ [PV.non, .bl true, .int 0, .int 7, .str "apart", .str "", .lst [.non], .lst [.lst []], .tup [.tup []], .tup [.int 0, .int 0, .tup []], .lst [.lst [.int 0, .int 0, .lst []]]],QE v w u x:=by
 have sc:∀{x:PV},h9 x->QE v w u x:=λ{x} h {_} q=>SL hw (.inl h) q;have c:∀{y:(Nat×Nat×Wd)×PV},mF 3 y.2->XT y:=λ{y} h=> .inl λ{_} q=>SM h q;intro x hx;simp only[AAJ,AAe,AAf] at hx;rcases hx with rfl|rfl|rfl|rfl|rfl|rfl|rfl|rfl|rfl|rfl|rfl
 .exact sc (.inl rfl)
 .exact sc (.inr (.inl ⟨_,rfl⟩))
 .exact sc (.inr (.inr (.inl ⟨_,rfl⟩)))
 .exact sc (.inr (.inr (.inl ⟨_,rfl⟩)))
 .exact sc (.inr (.inr (.inr ⟨_,rfl⟩)))
 .exact sc (.inr (.inr (.inr ⟨_,rfl⟩)))
 .refine λ{_} q=>Hq hw hl b (.inr rfl) (by simp) (λe y a=>c ?_) q;rw[AAT.mp (F6 a)];exact .inl (.inl rfl)
 .refine λ{_} q=>Hq hw hl b (.inr rfl) (by simp) (λe y a=>c ?_) q;rw[AAT.mp (F6 a)];exact .inr ⟨[], .inr rfl,by simp,by simp⟩
 .refine λ{_} q=>Hq hw hl b (.inl rfl) (by simp) (λe y a=>c ?_) q;rw[AAT.mp (F6 a)];exact .inr ⟨[], .inl rfl,by simp,by simp⟩
 .refine λ{_} q=>Hq hw hl b (.inl rfl) (by simp) (λe y a=>c ?_) q;have m:=F6 a;simp only[AAJ,AAe,AAf] at m;rcases m with m|m|m
  .rw [m];exact .inl (.inr (.inr (.inl ⟨_,rfl⟩)))
  .rw [m];exact .inl (.inr (.inr (.inl ⟨_,rfl⟩)))
  .rw [m];exact .inr ⟨[], .inl rfl,by simp,by simp⟩
 .refine λ{_} q=>Hq hw hl b (.inr rfl) (by simp) (λe y a=> ?_) q;have m:=AAT.mp (F6 a);obtain⟨W,ok,g⟩:=d y.1 (ABw (show (y.1,y.2)∈_ from a)).1;by_cases f:(y.1.1:Int)=0/\(y.1.2.1:Int)=0
  .refine .inr ⟨λ{Q} q=> ?_, .lst [],λ{R} r=>by rw[m];exact r,λ{Q} q=> ?_⟩
   .rw [m,f.1,f.2];apply Bt;ac_rfl;refine BR (.inr rfl) (by simp) ?_;rw[show decide (((([PV.int 0,PV.int 0,PV.lst []] :kn PV).length:Nat):Int)=3)=true from rfl];ac_rfl;refine B8 ?_;ac_rfl;refine B8 ?_;ac_rfl;exact yH q
   .apply HZ;ac_rfl;refine vA ?_;ac_rfl;refine vA ?_;ac_rfl;refine vA ?_;ac_rfl;exact q
  .refine .inl λ{Q} q=> ?_;rw[m];apply Bt;ac_rfl;refine BR (.inr rfl) (by simp) ?_;rw[show decide (((([PV.int 0,PV.int 0,PV.lst []] :kn PV).length:Nat):Int)=3)=true from rfl];ac_rfl;refine B8 ?_;ac_rfl;refine B8 ?_;ac_rfl;all_goals first
    | exact q
    | exact absurd ⟨Eq.symm ‹0=(y.1.1:Int)›,Eq.symm ‹0=(y.1.2.1:Int)›⟩ f
theorem QW {a:Type}:∀{k:Nat} {xs:kn a} {p:Nat×a},p∈Rr k xs->p.1<k+xs.length
 | _, [],_,h=>by cases h
 | k,x::xs,p,h=>by
   rw[Rr,AAJ] at h;rw[AAp];rcases h with rfl|h
   .show k<_;omega
   .have:=QW h;omega
def RG (cs:kn C4):(FF cs).length=cs.length-1:=by unfold FF;rw[ABL,List.length_tail];omega
def lJ {cs ds:kn C4}{b e:T3}{d:Rat×Rat}{x:Nat×Nat×Wd}(h:x∈JX cs ds b e d):x.1<cs.length/\x.2.1<ds.length:=by obtain⟨p,hp,h⟩:=AA7.mp h;obtain⟨q,a,rfl⟩:=AAK.mp h;have h1:=QW hp;have h2:=QW a;rw[RG] at h1 h2;exact⟨by show p.1<_;omega,by show q.1<_;omega⟩
def XM {cs ds:kn C4}{b e:T3}{d:Rat×Rat}:(JX cs ds b e d).length=(cs.length-1)*(ds.length-1):=by
 unfold JX;rw[ACl];have:∀a:kn (Nat×C4×C4),(a.map λp=>((Rr 0 (FF ds)).map λq=>(p.1,q.1,Dq cs ds b e d p.2 q.2)).length).sum=a.length*(FF ds).length:=λa=>by
  induction a with
  | nil=>simp
  | cons x a c=>simp[AAM,AAo,ABU,Fp] at c ⊢;omega
 rw[this,Fp,RG,RG]
def jv {cs ds:kn C4}{b e:T3}{d:Rat×Rat}(a:B4 9 6 600 cs)(pd:B4 9 6 600 ds)(hb:cg b)(he:cg e)(hd:qk d):(∀{Q:PV->Prop},Q (.lst ((JX cs ds b e d).map wrow))->A0 [Iv cs b,Iv ds e, .tup [fr d.1,fr d.2]] Q)/\(JX cs ds b e d).length<=900/\0<(JX cs ds b e d).length/\(∀y∈JX cs ds b e d,∃W,Hj W y.2.2/\3*W+2<=1300):=by
 have f:∀{cs:kn C4},B4 9 6 600 cs->∀c∈cs,JV 11 c:=λp c hc=>(p.mu c hc).bd (by decide) (by decide);have n:=a.two;have o:=a.few;have s:=pd.two;have t:=pd.few;refine⟨λ{Q} q=>Ps (B:=11) (La (b:=b)) (La (b:=e)) (.inl rfl) (hb.bd.mono (by decide)) (he.bd.mono (by decide)) (hd.b1.mono (by decide)) (hd.b2.mono (by decide)) (f a) a.ris a.two (by omega) (f pd) pd.ris pd.two (by omega) (by decide) q, ?_, ?_,λy g=> ?_⟩
 .rw [XM];exact AAX (ABE (show cs.length-1<=30 by omega) (show ds.length-1<=30 by omega)) (by decide)
 .rw [XM];exact AAw (by omega) (by omega)
 .obtain ⟨p,h,r,i,j⟩:=Rn g;rw[j];obtain⟨m1,m2,m3⟩:=Lo a.ris h;obtain⟨k,l,m⟩:=Lo pd.ris i;exact(XJ (cs:=cs) (ds:=ds) (RB (a.d12.mu _ m1) (a.d12.mu _ m2) m3) (RB (pd.d12.mu _ k) (pd.d12.mu _ l) m) (gu hb.mx hb.my he.mx he.my (hd.m1.mono (by decide)) (hd.m2.mono (by decide))) (hb.mz.dbl.mono (by decide)) (he.mz.dbl.mono (by decide)) (W:=30) (N:=47) (by decide) (by decide) (by decide) (by decide) (by decide) (by decide) (by decide) (by decide) (by decide) (by decide) (by decide) (by decide) (by decide)).W
def Wi {v w u:PV}{T:kn PV}{b c d e f a:ki AV}{X Y:A6->Prop}{Q:PV->Prop}(h:∀x∈T,QE v w u x)(g:∀a,X [b,c,d,some (.val u),e,f,a,some (.val v),some (.val w)]):Cv (Aq 6) (B9 (BA (AX PF (AR 4 BM (AB (aV 7) (AB (aV 8) (AB (aV 3) (AB (aV 6) AK))))) (aC (.bl false)))) (Au (aC (.bl false))) BF) ⟨X,Q,Y,X⟩ T [b,c,d,some (.val u),e,f,a,some (.val v),some (.val w)] :=by
 refine dG (λτ=>∃a,τ= [b,c,d,some (.val u),e,f,a,some (.val v),some (.val w)]) ?_ ?_ ⟨_,rfl⟩
 .rintro τ ⟨a,rfl⟩;exact g a
 .rintro x hx τ R i ⟨a,rfl⟩;have nx:=λa=>i _ ⟨a,rfl⟩;clear i;ac_rfl;refine h x hx ?_;ac_rfl;exact nx _
def aF (ns:kn Int)(L:ns.length<=63):EL [.scr ns] λx=>x= .bl true:=by
 apply Tj;ac_rfl;refine WM (λi τ=>∃z:kn (ki AV),z.length=8/\τ=some (.val (.scr ns))::z) ?_ ?_ ⟨_,rfl,rfl⟩
 .rintro τ ⟨z,g,rfl⟩;rfl
 .rintro i hi τ R n ⟨z,g,rfl⟩;obtain⟨o,A,B,C,D,h,E,F,rfl⟩:∃o A B C D h E F,z= [o,A,B,C,D,h,E,F] :=by
   match z,g with
   | [_,_,_,_,_,_,_,_],_=>exact⟨_,_,_,_,_,_,_,_,rfl⟩
  have again:∀z:kn (ki AV),z.length=8->R (some (.val (.scr ns))::z):=λz g=>n _ ⟨z,g,rfl⟩;clear n;ac_rfl;refine pR λcs ds b e j pd hb he=> ?_;ac_rfl;refine c8 λd hd=> ?_;ac_rfl;obtain⟨hw,hl,G,f⟩:=jv j pd hb he hd;have H:=Vl (v:=Iv cs b) (w:=Iv ds e) (u:= .tup [fr d.1,fr d.2]) hw hl G f;refine jN j pd hb he hd La La (.inl rfl) (λ_ ps m c=> ?_) (λs t _ _ _=> ?_)
  .have P:vR (Iv cs b) (Iv ds e) (.tup [fr d.1,fr d.2]) (JX cs ds b e d) ps:=⟨hw,hl,G,m,λy a=>by
    have:=lJ a;have:=j.few;have:=pd.few;omega,λy a=>⟨rfl,⟨(c y a).r,(c y a).k,λe he=>⟨((c y a).p e he).1,((c y a).p e he).2.mono (by decide)⟩,(c y a).l⟩,f y.1 (ABw (show (y.1,y.2)∈_ from a)).1,(c y a).sh⟩⟩
   have I:(((JX cs ds b e d).zip ps).all λy=>Wz y.1.2.2 y.2)=true:=ABj.mpr λy a=>(c y a).sh;have J:∀{Q:PV->Prop},Q (.bl true)->BM [Iv cs b,Iv ds e, .tup [fr d.1,fr d.2], .tup (((JX cs ds b e d).zip ps).map Az)] Q:=λ{Q} q=>
    Va (N:=201) hw (by omega) m (λy a=>⟨(c y a).s,f y.1 (ABw (show (y.1,y.2)∈_ from a)).1⟩) (by decide) (by rw[I];exact q)
   have bp:=λ{Q:PV->Prop} q=>OO P (Q:=Q) q;clear m c P I;generalize PV.tup (((JX cs ds b e d).zip ps).map Az)=pap at *;ac_rfl;refine bp λT M K=> ?_;ac_rfl;refine J ?_;ac_rfl;exact Wi (λx hx {_} _=>by
    rw[AAQ] at hx;exact hx.elim (λhx=>H x hx ‹_›) (λhx=>K x hx ‹_›)) (λh=>again _ rfl)
  .ac_rfl;exact Wi H (λh=>again _ rfl)
end PL.K37
section
namespace K37
open PySem L2 PL PL.K37 PyProof.Rows
open PL.K31
open PyProof.Rows
def DZ {N Q:kn Str}{s:Scope}(a:s.kind= .function:=by rfl)(b:s.isCoroutine=false:=by rfl)(c:s.isGenerator=false:=by rfl)(d:N.Nodup:=by decide +kernel)(e:N.take Q.length=Q:=by rfl)(f:∀x∈Q,s.names.lookup x=some .local\/s.names.lookup x=some .cell:=by decide +kernel)(g:∀y∈s.names,y.2≠ .free:=by decide +kernel):DN N Q s:=⟨a,b,c,d,e,f,g⟩
section
variable (P:kd)(w:kc)(K:AAD)(Z:Str->ki km)(Y:gn)(n:Nat)
abbrev CA:=Has P w K Z Y n "_law_draw" ["_law_tape_here","_law_many"] (Co K 2 BB)
abbrev Qf:=Has P w K Z Y n "_law_apart" ["_law_tape_here"] (Co K 1 F__law_apart)
abbrev Mx:=Has P w K Z Y n "_law_bad_row" ["_law_tape_here","_law_row"] (Co K 2 B0)
abbrev Iw:=Has P w K Z Y n "_law_bad_papers" ["_law_tape_here","_law_paper"] (Co K 2 Bl)
abbrev Sw:=Has P w K Z Y n "_law_tape" ["_law_script","_law_k"] (Co K 2 MZ)
abbrev OW:=Has P w K Z Y n "_law_bounds" ["_law_tape_here"] (Co K 1 CJ)
abbrev Eu:=Has P w K Z Y n "_law_part" ["_law_top","_law_bottom"] (Co K 2 BZ)
abbrev Iy:=Has P w K Z Y n "_law_place" ["_law_tape_here"] (Co K 1 A4)
abbrev Sv:=Has P w K Z Y n "_law_span" ["_law_tape_here"] (Co K 1 Es)
abbrev My:=Has P w K Z Y n "_law_sum" ["_law_one","_law_other"] (Co K 2 C2)
abbrev Su:=Has P w K Z Y n "_law_plan" ["_law_tape_here"] (Co K 1 Dw)
abbrev Ur:=Has P w K Z Y n "_law_two" ["_law_tape_here"] (Co K 1 EQ)
abbrev Zt:=Has P w K Z Y n "summed" ["one","many","other","more"] (Co K 4 GR)
abbrev PH:=Has P w K Z Y n "crossed" ["low","high","at"] (Co K 3 EJ)
abbrev Ut:=Has P w K Z Y n "is_never" ["plane"] (Co K 1 Df)
abbrev Sx:=Has P w K Z Y n "before" ["one","other"] (Co K 2 DL)
abbrev PK:=Has P w K Z Y n "turn_of" ["plane","at"] (Co K 2 DE)
abbrev Qg:=Has P w K Z Y n "is_tighter" ["plane","other","at"] (Co K 3 DM)
abbrev M1:=Has P w K Z Y n "tightest" ["planes","at","sign"] (Co K 3 CV)
abbrev Us:=Has P w K Z Y n "fault_in" ["planes","at"] (Co K 2 De)
abbrev Iz:=Has P w K Z Y n "common" ["one","other"] (Co K 2 ES)
abbrev M0:=Has P w K Z Y n "part" ["top","bottom"] (Co K 2 Fj)
abbrev WV:=Has P w K Z Y n "minus" ["one","other"] (Co K 2 EF)
abbrev Mz:=Has P w K Z Y n "negative" ["number"] (Co K 1 CU)
abbrev Qi:=Has P w K Z Y n "plus" ["one","other"] (Co K 2 E8)
abbrev S2:=Has P w K Z Y n "side_form" ["wedge","number"] (Co K 2 BP)
abbrev S3:=Has P w K Z Y n "time_form" ["wedge","number"] (Co K 2 Dy)
abbrev PJ:=Has P w K Z Y n "form_of" ["wedge","number"] (Co K 2 EK)
abbrev Zs:=Has P w K Z Y n "placed" ["plane","at","value"] (Co K 3 Dx)
abbrev LL:=Has P w K Z Y n "shared_bottom" ["numbers"] (Co K 1 CG)
abbrev Uu:=Has P w K Z Y n "plane_of" ["form","strict","number"] (Co K 3 ET)
abbrev WW:=Has P w K Z Y n "whole" ["n"] (Co K 1 G5)
abbrev M3:=Has P w K Z Y n "told_weights" ["weights"] (Co K 1 CW)
abbrev Zr:=Has P w K Z Y n "over" ["one","other"] (Co K 2 Hg)
abbrev Uv:=Has P w K Z Y n "range_in" ["planes","at"] (Co K 2 EU)
abbrev Ux:=Has P w K Z Y n "value_in" ["planes","at"] (Co K 2 CY)
abbrev I0:=Has P w K Z Y n "weights_by_time" ["wedge"] (Co K 1 Bm)
abbrev X8:=UT P w K Z Y n "without" ["planes","at","most"] 2 (Co K 3 EM)
abbrev X5:=Has P w K Z Y n "meet_in" ["wedge"] (Co K 1 FU)
abbrev dL:=Has P w K Z Y n "times" ["one","other"] (Co K 2 Ic)
abbrev LK:=Has P w K Z Y n "piece_between" ["former","latter"] (Co K 2 Bj)
abbrev Sz:=Has P w K Z Y n "pieces_of" ["plan"] (Co K 1 DB)
abbrev X7:=Has P w K Z Y n "size_of" ["apart","side"] (Co K 2 Cg)
abbrev Uw:=Has P w K Z Y n "sizes_of" ["one","other","apart"] (Co K 3 EV)
abbrev Ko:=Has P w K Z Y n "wedges_of" ["one","other","apart"] (Co K 3 A0)
abbrev X6:=Has P w K Z Y n "meet_of" ["one","other","apart"] (Co K 3 DA)
abbrev Fs:=Has P w K Z Y n "is_list_of" ["thing","many"] (Co K 2 BX)
abbrev Hu:=Has P w K Z Y n "is_whole" ["thing"] (Co K 1 Br)
abbrev X4:=Has P w K Z Y n "is_part" ["thing"] (Co K 1 Cf)
abbrev Sy:=Has P w K Z Y n "is_weight" ["thing"] (Co K 1 C9)
abbrev OX:=Has P w K Z Y n "are_weights" ["thing"] (Co K 1 Bq)
abbrev Zq:=Has P w K Z Y n "is_row" ["thing","i","j"] (Co K 3 CT)
abbrev OZ:=Has P w K Z Y n "weighed_sum" ["forms","weights","at"] (Co K 3 Ba)
abbrev S1:=Has P w K Z Y n "shows_row" ["wedge","pairs"] (Co K 2 DC)
abbrev OY:=Has P w K Z Y n "shows_apart" ["one","other","apart","paper"] (Co K 4 BM)
end
section
variable {P:kd}{w:kc}{K:AAD}{Z:Str->ki km}{Y:gn}{n m:Nat}{f:kj}{U:FuncData}
theorem JL:DN ["_law_tape_here","_law_many","_law_once","_law_found"] ["_law_tape_here","_law_many"] (As Ez):=DZ
theorem Qw (F:Vz K "_law_draw" "_law_draw" Ez f U):Dh P w K Z Y MR (n+1) f U ["_law_tape_here","_law_many"] (Co K 2 BB):=by
 have k:=JL.nd;refine F.ok JL (λvs H Q E h=> ?_) (λu A outer s H vs Q E I h=> ?_)
 .obtain ⟨T,M,xs,v,_,_,r,hl,_⟩:=h;rw[r.length,hl] <;> rfl
 obtain⟨T,M,xs,v,va,_,r,hl,hF,hQ⟩:=h;unfold BB at hF;split at hF <;> first | exact hF.elim|skip
 rename_i m;obtain⟨⟨m0,m1⟩,hF⟩:=hF;cases r with
 | cons r j=>
 cases j with
 | cons y j=>
 cases j;cases y;cases r with
 | tape tp=>
 rename_i p;obtain⟨d,x,hp,l,z,x1⟩:=va.tp p tp;refine⟨_,(Cc (bB (RK gW (Kx Ew (pv 0) BG (λ_ _=>rfl)) BG (BU _)) (Cc (IA (i:=3) k rfl (Or.inl rfl) (Bo Fu (Kx Ew (pv 0) BG (λ_ _=>rfl)) (pv 1)))
  (Cc (RH (Bo aX (Kx Ew (pv 0) BG (λ_ _=>rfl)) (pv 1)) (VI (pv 0) BG JP))
  (HA (RI (pv 3))))) RJ)
  (Cc (RH (Bo Fu (Bo Hy (Bo G8 (Kx Ew (pv 0) BG (λ_ _=>rfl)) BG) BG) BG) (VI (pv 0) BG JP))
  (Cc (IA (i:=2) k rfl (Or.inl rfl) (Bo Fu (Bo G8 (Kx Ew (pv 0) BG (λ_ _=>rfl)) (Bo Hy (Bo Fu (Kx Ew (pv 0) BG (λ_ _=>rfl)) BG) BG)) BG))
  (HA (RI (Bo Fu (Bo Fu (Bo G8 (pv 2) (Bo Hy (Bo Fu (pv 2) BG) BG)) BG) (pv 1))))))), ?_⟩
 have e:∀(r d' g:Int),0<=r->r<m->0<=d'->0<=g->g<2147483647->Q (.int r) (upd H p (.lst [.int d', .int g])):=λr d' g B C a b c=>
  hQ _ (.int r) T _ (cE va.tp tp a b c) (.int r) (hF r B C)
 refine⟨_,rfl,p,_,_,_,rfl,rfl,FR.of hp,rfl,_,_,rfl,rfl,_,rfl, ?_⟩;refine nO (λc=> ?_) (λc=> ?_)
 .refine ⟨_,rfl,p,_,_,_,rfl,rfl,FR.of hp,rfl,_,rfl,_,_,rfl,rfl,m0, ?_⟩;refine⟨_,rfl,p,_,_,_,rfl,rfl,FR.of hp,rfl,_,rfl,_,_,rfl,rfl,⟨m0,by omega⟩, ?_⟩;refine⟨_,rfl,p,_,_,_,rfl,rfl,hp,rfl, ?_⟩;exact⟨_,rfl,e _ _ _ (ACo _ (by omega)) (ACp _ m0) (Int.ediv_nonneg l (by omega)) z x1⟩
 .refine ⟨_,rfl,p,_,_,_,rfl,rfl,FR.of hp,rfl,_,_,rfl,rfl, .inl (.inr ⟨by decide,by decide⟩),_,_,rfl,rfl,_,_,rfl,rfl,(show (0:Int)<2147483647 by decide), ?_⟩;refine⟨_,rfl,p,_,_,_,rfl,rfl,hp,rfl, ?_⟩;have o:0<=(x*48271+12345) % 2147483647:=ACo _ (by decide);have y1:(x*48271+12345) % 2147483647<2147483647:=ACp _ (by decide);have t:upd H p (.lst ([V.int d,V.int x].set (Int.toNat 1) (V.int ((x*48271+12345) % 2147483647)))) p=some (.lst [.int d, .int ((x*48271+12345) % 2147483647)]):=Af;have D:0<=(x*48271+12345) % 2147483647*((x*48271+12345) % 2147483647 % 1009+3) % 2147483629:=ACo _ (by decide);have G:(x*48271+12345) % 2147483647*((x*48271+12345) % 2147483647 % 1009+3) % 2147483629<2147483629:=ACp _ (by decide);refine⟨_,rfl,p,_,_,_,rfl,rfl,FR.of t,rfl,_,rfl,p,_,_,_,rfl,rfl,FR.of t,rfl,_,_,rfl,rfl,(show (0:Int)<1009 by decide),_,_,rfl,rfl,_,_,rfl,rfl, .inl (.inl (Nn o y1)),_,_,rfl,rfl,(show (0:Int)<2147483629 by decide), ?_⟩;refine⟨_,rfl,_,rfl,_,_,rfl,rfl,(show (0:Int)<997 by decide),_,_,rfl,rfl,_,_,rfl,rfl, .inl (.inl (Nn D (Int.lt_trans G (by decide)))),_,_,rfl,rfl,(show (0:Int)<998244353 by decide),_,rfl,_,_,rfl,rfl,m0, ?_⟩;exact e _ _ _ (ACo _ (by omega)) (ACp _ m0) l o y1
theorem Dz {P:kd}{w:kc}{K:AAD}{Z:Str->ki km}{Y:gn}{x q:Str}{st:Stmt}{f:kj}{U:FuncData}{N:kn Str}{k n:Nat}{b:AS}(F:Vz K x q st f U)(S:DN N (N.take n) (As st))(a:n=(N.take n).length)(h:∀(v:km) (A:fe) (o:kn Env) (s:kl) (H:Hp) (E:XK),Room k (A.deeper (envOfC q (As st) s.heap.objs.size f v))->N.Nodup->Xf (OT MR P w K Z Y N q (As st) f v A o s H E).nox (CC st) b):Dh P w K Z Y MR (k+1) f U (N.take n) (Co K n (Ar N.length b)):=
 dF F S a λv A o s H E r=>h v A o s H E r S.nd
abbrev Z1 (K:AAD)(x:Str)(s:Stmt)(f:kj)(d:FuncData):=Vz K x x s f d
abbrev Z2 (P:kd)(w:kc)(K:AAD)(Z:Str->ki km)(b:gn)(n:Nat)(f:kj)(d:FuncData)(N:kn Str)(k:Nat)(F:AF):=Dh P w K Z b MR (n+1) f d (N.take k) (Co K k F)
theorem Od (F:Z1 K "_law_apart" Fw f U)(a:CA P w K Z Y n):Z2 P w K Z Y n f U ["_law_tape_here","_law_some"] 1 F__law_apart:=Dz F DZ rfl λ_ _ _ _ _ _ b c=>(AM (DK 1 c (Cr (BE (Ag (AN (At AH AH)) (Ag (AN (At AH AH)) (CI (AN (At AH AH)) (AN (At AH AH)) (AN (At AH AH)))))))) (AU (AY (AN (At (AZ (AJ 1) (AL a b rfl (At (AJ 0) AH))) (AZ (AJ 1) (AL a b rfl (At (AJ 0) AH))))))))
theorem LP (F:Z1 K "_law_bad_row" Eb f U)(e:CA P w K Z Y n)(g:Z "len" =none)(d:Z "str" =none):Z2 P w K Z Y n f U ["_law_tape_here","_law_row","_law_some","_law_more","_law_i","_law_j","_law_weights","_law_number","_law_weight"] 2 B0:=by
 have b:(["_law_bad","_law_i","_law_j","_law_weights"] :kn Str).Nodup:=by decide +kernel
 exact Dz F DZ rfl λ_ _ _ _ _ _ c a=>(AM (Dm (AJ 1) (Bi (n:=3) rfl (AW (HC (i:=4) a rfl (Or.inr rfl)) (AW (HC (i:=5) a rfl (Or.inr rfl)) (AW (HC (i:=6) a rfl (Or.inr rfl)) BI))))) (AM (Dm (AZ (AJ 6) AH) (Bi (n:=2) rfl (AW (Dc 7 a) (AW (Dc 8 a) BI)))) (AM (Dn (i:=2) a rfl (Or.inl rfl) (BE (Ag (AN (At (AJ 4) (AJ 5))) (Ag (AN (Ag (AJ 4) (CI (AJ 5) (AJ 6) (AN EA)))) (Ag (AN (CI (AJ 4) (B6 Wx rfl d boot_str (BN (AJ 5))) (AJ 6))) (Ag (AN (CI (AJ 4) (AJ 5) Bh)) (Ag (AN (CI (AJ 4) (AJ 5) AH)) (Ag (AN (CI (AJ 4) (AJ 5) FQ)) (Ag (AJ 4) (CI Bh Db (AN EA))))))))))) (AM (Dn (i:=2) a rfl (Or.inl rfl) (Lr 2 (Cr (BE (CI (AN (CI (Aj A9 (AJ 4) AH) (AJ 5) (AJ 6))) (AN (CI (AJ 4) (AJ 5) (Aj A9 (AJ 6) (AN (BN (AN (At AH (AN (At AH AH))))))))) (AN (CI (AJ 4) (AJ 5) (Aj A9 (AN (BN (AN (At (FP AH) (AN (At AH AH)))))) (AJ 6))))))))) (AM (Dn (i:=2) a rfl (Or.inl rfl) (Lr 2 (Cr (BE (Ag (AN (CI (Cr (BE (BN (AJ 4)))) (AJ 5) (AJ 6))) (Ag (AN (CI (AJ 4) (AN (BN (AJ 5))) (AJ 6))) (CI (AN (CI (AJ 4) (AJ 5) (AN (BN (AJ 6))))) FQ (AN (CI (AJ 4) (AJ 5) (Aj A9 (AJ 6) (AN (BN Bh)))))))))))) (AM (Dn (i:=3) a rfl (Or.inl rfl) (BE (Ag (AN (At (AJ 7) AH)) (Ag (AN (At (AJ 7) (AN (At AH AH)))) (Ag (AN (At (AJ 7) (AN (At (FP AH) (FP AH))))) (CI (AN (At (AJ 7) (AN (At AH AH)))) (AN (At (AJ 7) (AN (At Db AH)))) (AN (At (AJ 7) (AN (BN AH)))))))))) (AM (Dn (i:=3) a rfl (Or.inl rfl) (Lr 3 (Cr (BE (Ag (AN (At (AJ 7) (AN (CI AH AH AH)))) (Ag (AN (At (AJ 7) Bh)) (Ag (AN (At (AJ 7) FQ)) (CI (AN (BN (AJ 7))) (AN (CI (AJ 7) (AJ 8) (AJ 8))) (AJ 7))))))))) (AM (Dn (i:=3) a rfl (Or.inl rfl) (Lr 3 (Cr (BE (Ag (AN (At (B6 Wx rfl d boot_str (BN (AJ 7))) (AJ 8))) (Ag (AN (At (AN (BN (AJ 7))) (AJ 8))) (CI (AN (At Bh (AJ 8))) (AN (At (AJ 7) (AN (At AH Db)))) (AN (At (AJ 7) (AN (At FQ AH))))))))))) (AM (BK (GF Ed (AJ 7) AH) (AU (EH (i:=3) ABa ABb Cm (BN (AN (At (B7 (DV c) (AJ 7) AH (BU _)) (AJ 8)))))) A2) (AM (BK (GF Ed (AJ 4) AH) (AU (EH (i:=2) ABa ABb Cm (BN (AN (CI (B7 (DV c) (AJ 4) AH (BU _)) (AJ 5) (AJ 6)))))) A2) (AM (Dn (i:=2) a rfl (Or.inl rfl) (fL 2 (Cr (DU rfl (Fe (AJ 3)) (CB (own:=1) (ix:= [4,5,6]) (N:= ["_law_bad","_law_i" ,"_law_j" ,"_law_weights" ]) rfl rfl rfl rfl rfl rfl (λ_ _ _ _ _ _=>(Ls 0 b)) (λ_ _ _ _ _ _=>Bz) (λ_ _ _ _ _ _=>(AN (CI (AJ 1) (AJ 2) (Aj A9 (AN (BN (AJ 0))) (Kz (AJ 3) (gk AH) gj)))))))))) (AU (AY (AZ (AJ 2) (AL e c rfl (At (AJ 0) (A1 FN rfl g AA6 (BN (AJ 2)))))))))))))))))))
theorem Hw (F:Z1 K "_law_bad_papers" DR f U)(d:Mx P w K Z Y n)(e:CA P w K Z Y n)(g:Z "dict" =none)(h:Z "enumerate" =none)(j:Z "len" =none)(k:Z "list" =none)(l:Z "range" =none):Z2 P w K Z Y n f U ["_law_tape_here","_law_paper","_law_at","_law_made"] 2 Bl:=by
 have a:(["_law_turn","_law_paper","_law_at","_law_tape_here"] :kn Str).Nodup:=by decide +kernel
 exact Dz F DZ rfl λ_ _ _ _ _ _ b c=>(AM (Gs (i:=2) c rfl (Or.inr rfl) (AL e b rfl (At (AJ 0) (A1 FN rfl j AA6 (BN (AJ 1)))))) (AM (Ff (i:=3) rfl c rfl (Or.inl rfl) (Nh rfl l (BN AH)) (CB (own:=1) (ix:= [1,2,0]) (N:= ["_law_turn","_law_paper" ,"_law_at" ,"_law_tape_here" ]) rfl rfl rfl rfl rfl rfl (λ_ _ _ _ _ _=>(Ls 0 a)) (λ_ _ _ _ _ _=>Bz) (λ_ _ _ _ _ _=>(Aj A9 (Aj A9 (Kz (AJ 1) gj (gk (AJ 2))) (AN (BN (AL d b rfl (At (AJ 3) (AZ (AJ 1) (AJ 2))))))) (Kz (AJ 1) (gk (Aj A9 (AJ 2) AH)) gj))))) (AU (AY (Aj A9 (AJ 3) (Cr (BE (Ag (AN (At FQ (AJ 1))) (Ag (AN (BN (AJ 1))) (CI (Aj A9 (AJ 1) (AN (BN Bh))) (Aj A9 (Cr (fM rfl k boot_list (BN (AJ 1)))) (Cr (BE (BN (AZ (AJ 1) AH))))) (kM b rfl rfl g rfl h (AJ 1))))))))))))
theorem JO:DN ["_law_script","_law_k","_law_cell","_law_digits"] ["_law_script","_law_k"] (As E1):=DZ
theorem Q0 (F:Vz K "_law_tape" "_law_tape" E1 f U)(j:Z "abs" =none)(o:Z "int" =none)(t:Z "len" =none):Dh P w K Z Y MR (n+1) f U ["_law_script","_law_k"] (Co K 2 MZ):=by
 have e:=JO.nd;refine F.ok JO (λvs H Q E h=> ?_) (λu A outer s H vs Q E z h=> ?_)
 .obtain ⟨T,M,xs,v,_,_,r,hl,_⟩:=h;rw[r.length,hl] <;> rfl
 obtain⟨T,M,xs,v,va,_,r,hl,hF,hQ⟩:=h;unfold MZ at hF;split at hF <;> first | exact hF.elim|skip
 rename_i ns k;obtain⟨⟨B,C⟩,hF⟩:=hF;cases r with
 | cons r g=>
 cases g with
 | cons x g=>
 cases g;cases x;obtain⟨a,rfl,l⟩:=bQ r;refine⟨_,(Cc (IA (i:=2) e rfl (Or.inl rfl) BG)
  (Cc (bB (RK gX (pv 1) (GY Im rfl t AA6 (Bn (pv 0) Dk)) (BU _)) (HA (IA (i:=2) e rfl (Or.inl rfl) (Kx Ew (pv 0) (pv 1) (λ_ _=>rfl)))) RJ)
  (Cc (IA (i:=3) e rfl (Or.inl rfl) (Bo G8 (GY Mi rfl j boot_abs (Bn (pv 2) Dk)) (FY O8 rfl o PyProof.Rows.boot_int (Bn (RD ni (GY Mi rfl j boot_abs (Bn (pv 2) Dk)) (Bo je BG BG) (BU _)) Dk))))
  (HA (RI (ao (Bn (pv 3) (Bn (Bo Fu (Bo G8 (Bo Fu (Bo Hy (Bo Hy (pv 2) (Bo G8 BG (pv 1))) BG) BG) BG) BG) Dk)))))))), ?_⟩
 have hl:(ns.map V.int).length=ns.length:=AAO _;have d:∀(c:Int) (p:kj),H p=none->Q (.ref p) (upd H p (.lst [.int ((if c<0 then -c else c)*(if decide ((10:Int)^18<=(if c<0 then -c else c)) then 1 else 0)), .int ((c+7919*k+1) % 2147483647*48271 % 2147483647)])):=λc p hp=>
  hQ _ .tape (λb=>T b\/b=p) _ (cD va.tp hp (Int.mul_nonneg (by split <;> omega) (yI _)) (ACo _ (by decide)) (ACp _ (by decide))) (.tape (.inr rfl)) hF
 refine⟨_,rfl,_,rfl,a,_,rfl, .inl l,_,_,rfl,rfl,_,rfl, ?_⟩;refine nO (λc=> ?_) (λc=> ?_)
 .have y:k<(((ns.map V.int).length:Nat):Int):=AA5 c;rw[hl] at y;have hk:k.toNat<ns.length:=by omega
  have hv:Me (ns.map V.int) k=some (.int ns[k.toNat]):=by
   have q:Me (ns.map V.int) ((k.toNat:Nat):Int)=some (.int ns[k.toNat]):=DO (by rw[AAr,AAS hk] <;> rfl)
   rwa [show ((k.toNat:Nat):Int)=k by omega] at q
  refine⟨_,rfl,_,rfl,a,_,_,_,rfl,rfl,l,hv, ?_⟩;refine⟨_,rfl,_,rfl,_,rfl,_,rfl,_,_,rfl,rfl,⟨by decide,by decide,by decide⟩,_,_,rfl,rfl, .inr ⟨_,rfl,_,_,rfl,rfl, .inl (.inr (vW _)), ?_⟩⟩;exact⟨_,rfl,_,rfl,_,rfl,_,_,rfl,rfl, .inl (.inl ⟨by decide,by decide⟩),_,_,rfl,rfl,_,_,rfl,rfl,_,_,rfl,rfl,(show (0:Int)<2147483647 by decide),_,_,rfl,rfl, .inl (.inr ⟨by decide,by decide⟩),_,_,rfl,rfl,(show (0:Int)<2147483647 by decide),(show 2<=sizeLine by decide),λp hp=>d _ p hp⟩
 .refine ⟨_,rfl,_,rfl,_,rfl,_,rfl,_,_,rfl,rfl,⟨by decide,by decide,by decide⟩,_,_,rfl,rfl, .inr ⟨_,rfl,_,_,rfl,rfl, .inl (.inr (vW _)), ?_⟩⟩;exact⟨_,rfl,_,rfl,_,rfl,_,_,rfl,rfl, .inl (.inl ⟨by decide,by decide⟩),_,_,rfl,rfl,_,_,rfl,rfl,_,_,rfl,rfl,(show (0:Int)<2147483647 by decide),_,_,rfl,rfl, .inl (.inr ⟨by decide,by decide⟩),_,_,rfl,rfl,(show (0:Int)<2147483647 by decide),(show 2<=sizeLine by decide),λp hp=>d 0 p hp⟩
theorem NJ (F:Z1 K "_law_bounds" FG f U)(b:CA P w K Z Y n):Z2 P w K Z Y n f U ["_law_tape_here","_law_some"] 1 CJ:=Dz F DZ rfl λ_ _ _ _ _ _ a c=>(AM (DK 1 c (Cr (BE (Ag (AN (At AH AH)) (Ag (AN (At AH AH)) (Ag (AN (At AH AH)) (CI (AN (At AH AH)) (AN (At AH AH)) (AN (At AH AH))))))))) (AM (BK (GF (DV a) (AL b a rfl (At (AJ 0) AH)) AH) (AU (AY (AN (CI (AN (At AH AH)) (AN (At AH AH)) (AN (At AH AH)))))) A2) (AU (AY (AN (CI (AZ (AJ 1) (AL b a rfl (At (AJ 0) AH))) (AZ (AJ 1) (AL b a rfl (At (AJ 0) AH))) (AZ (AJ 1) (AL b a rfl (At (AJ 0) AH)))))))))
theorem Qx (F:Z1 K "_law_part" Ge f U)(b:Z "abs" =none)(c:Z "int" =none):Z2 P w K Z Y n f U ["_law_top","_law_bottom","_law_sign","_law_one","_law_other"] 2 BZ:=Dz F DZ rfl λ_ _ _ _ _ _ _ a=>(AM (Vg (i:=3) (j:=4) rfl a rfl rfl (by decide) rfl rfl (At (A1 Nc rfl b boot_abs (BN (AJ 0))) (A1 Nc rfl b boot_abs (BN (AJ 1)))) rfl) (AM (Nr AAk (GF Gr (AJ 4) AH) (AU (Vg (i:=3) (j:=4) rfl a rfl rfl (by decide) rfl rfl (At (AJ 4) (Aj Ve (AJ 3) (AJ 4))) rfl))) (AM (DK 2 a (Aj EB AH (Aj BH AH (B6 kF rfl c boot_int (BN (B7 Ed (AJ 1) AH (BU _))))))) (AU (AY (AN (At (Aj E3 (Aj BH (AJ 2) (AJ 0)) (AJ 3)) (Aj E3 (Aj BH (AJ 2) (AJ 1)) (AJ 3)))))))))
theorem Oe (F:Z1 K "_law_place" Fx f U)(b:CA P w K Z Y n)(c:Eu P w K Z Y n):Z2 P w K Z Y n f U ["_law_tape_here","_law_kind"] 1 A4:=Dz F DZ rfl λ_ _ _ _ _ _ a d=>(AM (DK 1 d (AL b a rfl (At (AJ 0) AH))) (AM (BK (GF Ed (AJ 1) AH) (AU (AY (AN (At (Aj EB (AL b a rfl (At (AJ 0) AH)) AH) AH)))) A2) (AM (BK (GF (DV a) (AJ 1) AH) (AU (AY (AL c a rfl (At (Aj EB (AL b a rfl (At (AJ 0) AH)) AH) AH)))) A2) (AU (AY (AL c a rfl (At (Aj EB (AL b a rfl (At (AJ 0) AH)) AH) AH)))))))
theorem Qz (F:Z1 K "_law_span" Gg f U)(b:CA P w K Z Y n)(c:Eu P w K Z Y n):Z2 P w K Z Y n f U ["_law_tape_here","_law_way"] 1 Es:=Dz F DZ rfl λ_ _ _ _ _ _ a d=>(AM (DK 1 d (AL b a rfl (At (AJ 0) AH))) (AM (BK (GF Ed (AJ 1) AH) (AU (AY (AN (At (Aj A9 AH (AL b a rfl (At (AJ 0) AH))) AH)))) A2) (AU (AY (AL c a rfl (At (Aj A9 AH (AL b a rfl (At (AJ 0) AH))) (Aj EB (AJ 1) AH)))))))
theorem TK (F:Z1 K "_law_sum" IB f U)(a:Eu P w K Z Y n):Z2 P w K Z Y n f U ["_law_one","_law_other"] 2 C2:=Dz F DZ rfl λ_ _ _ _ _ _ b _=>(AU (AY (AL a b rfl (At (Aj A9 (Aj BH (AZ (AJ 0) AH) (AZ (AJ 1) AH)) (Aj BH (AZ (AJ 1) AH) (AZ (AJ 0) AH))) (Aj BH (AZ (AJ 0) AH) (AZ (AJ 1) AH))))))
theorem Qy (F:Z1 K "_law_plan" Gf f U)(d:CA P w K Z Y n)(c:Iy P w K Z Y n)(e:Sv P w K Z Y n)(g:My P w K Z Y n)(h:Z "len" =none)(j:Z "tuple" =none):Z2 P w K Z Y n f U ["_law_tape_here","_law_many","_law_m","_law_spot","_law_corners","_law_way"] 1 Dw:=Dz F DZ rfl λ_ _ _ _ _ _ a b=>(AM (DK 1 b (Aj A9 AH (AL d a rfl (At (AJ 0) AH)))) (AM (BK (GF (DV a) (AL d a rfl (At (AJ 0) AH)) AH) (AU (DK 1 b (Aj A9 AH (AL d a rfl (At (AJ 0) AH))))) A2) (AM (DK 2 b (AN (At (AL d a rfl (At (AJ 0) AH)) AH))) (AM (DK 3 b (Cr (BE (CI (AL c a rfl (BN (AJ 0))) (AL c a rfl (BN (AJ 0))) (AL c a rfl (BN (AJ 0))))))) (AM (Dn (i:=4) b rfl (Or.inl rfl) (BE (BN (AN (Ag (AJ 2) (CI (AZ (AJ 3) AH) (AZ (AJ 3) AH) (AZ (AJ 3) AH))))))) (AM (Nr AAk (GF Ed (A1 FN rfl h AA6 (BN (AJ 4))) (AJ 1)) (AM (DK 2 b (AL g a rfl (At (AJ 2) (AL e a rfl (BN (AJ 0)))))) (AM (DK 5 b (AL d a rfl (At (AJ 0) AH))) (AM (BK (GF Gr (AJ 5) AH) (AU (DK 3 b (Cr (BE (CI (AL c a rfl (BN (AJ 0))) (AL c a rfl (BN (AJ 0))) (AL c a rfl (BN (AJ 0)))))))) (AU (BK (GF Gr (AJ 5) AH) (AU (DK 3 b (Aj A9 (Aj A9 (Kz (AJ 3) gj (gk (Aj EB (AJ 5) AH))) (Cr (BE (BN (AL c a rfl (BN (AJ 0))))))) (Kz (AJ 3) (gk (AJ 5)) gj)))) A2))) (AU (EH (i:=4) ABa ABb Cm (BN (AN (Ag (AJ 2) (CI (AZ (AJ 3) AH) (AZ (AJ 3) AH) (AZ (AJ 3) AH))))))))))) (AU (AY (B6 D4 rfl j ABF (BN (AJ 4)))))))))))
theorem TL (F:Z1 K "_law_two" IC f U)(g:OW P w K Z Y n)(c:CA P w K Z Y n)(p:Eu P w K Z Y n)(h:Iy P w K Z Y n)(j:Su P w K Z Y n)(k:My P w K Z Y n)(r:Z "len" =none)(l:Z "range" =none)(o:Z "tuple" =none):Z2 P w K Z Y n f U ["_law_tape_here","_law_plan_here","_law_other","_law_late","_law_by","_law_off_here","_law_corners","_law_one"] 1 EQ:=by
 have d:(["_law_k","_law_by","_law_tape_here"] :kn Str).Nodup:=by decide +kernel
 have e:(["_law_k","_law_one","_law_off_here"] :kn Str).Nodup:=by decide +kernel
 exact Dz F DZ rfl λ_ _ _ _ _ _ a b=>(AM (DK 1 b (AL j a rfl (BN (AJ 0)))) (AM (DK 2 b (AL j a rfl (BN (AJ 0)))) (AM (BK (GF (DV a) (AL c a rfl (At (AJ 0) AH)) AH) (AM (DK 3 b (AZ (Cr (BE (CI (AN (At (AL c a rfl (At (AJ 0) AH)) AH)) (AN (At AH AH)) (AL p a rfl (At (AL c a rfl (At (AJ 0) AH)) AH))))) (AL c a rfl (At (AJ 0) AH)))) (AM (Gs (i:=4) b rfl (Or.inr rfl) (Cr (BE (Ag (AL h a rfl (BN (AJ 0))) (Ag (AN (At AH AH)) (Ag (AL h a rfl (BN (AJ 0))) (CI (AN (At AH AH)) (AN (At AH AH)) (AN (At (AL c a rfl (At (AJ 0) AH)) AH))))))))) (AM (Gs (i:=5) b rfl (Or.inr rfl) (Cr (DU rfl (Nh rfl l (BN AH)) (CB (own:=1) (ix:= [4,0]) (N:= ["_law_k","_law_by" ,"_law_tape_here" ]) rfl rfl rfl rfl rfl rfl (λ_ _ _ _ _ _=>(Ls 0 d)) (λ_ _ _ _ _ _=>Bz) (λ_ _ _ _ _ _=>(AZ (AJ 1) (AL c a rfl (At (AJ 2) AH)))))))) (AM (Dn (i:=6) b rfl (Or.inl rfl) (BE EA)) (AM (Cs AAk rfl (Fe (AJ 1)) (HC (i:=7) b rfl (Or.inr rfl)) (AU (EH (i:=6) ABa ABb Cm (BN (Aj A9 (AN (BN (AL k a rfl (At (AZ (AJ 7) AH) (AJ 3))))) (B6 D4 rfl o ABF (BN (Cr (DU rfl (Nh rfl l (BN AH)) (CB (own:=1) (ix:= [7,5]) (N:= ["_law_k","_law_one" ,"_law_off_here" ]) rfl rfl rfl rfl rfl rfl (λ_ _ _ _ _ _=>(Ls 0 e)) (λ_ _ _ _ _ _=>Bz) (λ_ _ _ _ _ _=>(AL k a rfl (At (AZ (AJ 1) (Aj A9 (AJ 0) AH)) (AZ (AJ 2) (AJ 0))))))))))))))) (AU (DK 2 b (kK (B6 D4 rfl o ABF (BN (AJ 6))))))))))) A2) (AM (BK (GF Gr (A1 FN rfl r AA6 (BN (AJ 1))) AH) (AU (DK 2 b (Kz (AJ 2) gj (gk AH)))) A2) (AU (AY (AN (At (AN (At (AJ 1) (AL g a rfl (BN (AJ 0))))) (AN (At (AJ 2) (AL g a rfl (BN (AJ 0)))))))))))))
theorem YT (F:Z1 K "summed" Na f U)(g:Z "max" =none)(h:Z "tuple" =none)(j:Z "zip" =none):Z2 P w K Z Y n f U ["one","many","other","more","numbers","weights","number","weight"] 4 GR:=by
 have a:(["former","latter","many","more"] :kn Str).Nodup:=by decide +kernel
 have b:(["number","weight","many"] :kn Str).Nodup:=by decide +kernel
 exact Dz F DZ rfl λ_ _ _ _ _ _ e c=>(AM (DK 4 c (B6 D4 rfl h ABF (BN (Cr (DU rfl (fQ rfl j (At (AZ (AJ 0) AH) (AZ (AJ 2) AH))) (CB (own:=2) (ix:= [1,3]) (N:= ["former","latter" ,"many" ,"more" ]) rfl rfl rfl rfl rfl rfl (λ_ _ _ _ _ _=>(Nj (n:=2) rfl (Cy (Ls 0 a) (Cy (Ls 1 a) JQ)))) (λ_ _ _ _ _ _=>Bz) (λ_ _ _ _ _ _=>(Aj A9 (Aj BH (AJ 2) (AJ 0)) (Aj BH (AJ 3) (AJ 1)))))))))) (bj (by decide) (by decide) (by decide) (by decide) (by decide) (by decide) (AZ (AJ 0) AH) (AZ (AJ 2) AH) (λk d=>az (i:=5) rfl c rfl (Or.inl rfl) (Td d rfl rfl rfl rfl) (WE (own:=2) (ix:= [1]) (N:= ["number","weight" ,"many" ]) rfl rfl rfl rfl rfl rfl (Zo (Mw (Qc (by decide)) Lc (Mw (Qc (by decide)) Lc WT Qe) (Ss Lc Qe))) (λ_ _ _ _ _ _=>(RE rfl (FZ (G9 (i:=0) b rfl (Or.inl rfl)) (FZ (G9 (i:=1) b rfl (Or.inl rfl)) Ln)))) (λ_ _ _ _ _ _=>Wq) (λ_ _ _ _ _ _=>(pv 0))) (λ_ _ _ _ _ _=>(Bo Q9 (pv 2) (pv 1)))) (λk d=>bA AAk rfl (Td d rfl rfl rfl rfl) (RE rfl (FZ (G9 (i:=6) c rfl (Or.inl rfl)) (FZ (G9 (i:=7) c rfl (Or.inl rfl)) Ln))) (HA (e6 (tY e) (pv 5) (pv 6) (Bo Hy (ah (tY e) (pv 5) (pv 6) BG ⟨rfl,rfl,rfl,rfl⟩) (Bo Q9 (pv 3) (pv 7))) rfl))) (AU (AY (AN (CI (AJ 4) (A1 (kH rfl) rfl g boot_max (At (AZ (AJ 0) AH) (AZ (AJ 2) AH))) (AJ 5)))))))
theorem U9 (F:Z1 K "crossed" J6 f U)(a:Zt P w K Z Y n):Z2 P w K Z Y n f U ["low","high","at"] 3 EJ:=Dz F DZ rfl λ_ _ _ _ _ _ b _=>(AU (AY (AL a b rfl (Ag (AJ 0) (CI (FP (AZ (AZ (AJ 1) AH) (AJ 2))) (AJ 1) (AZ (AZ (AJ 0) AH) (AJ 2)))))))
theorem TN (F:Z1 K "is_never" IE f U):Z2 P w K Z Y n f U ["plane","total"] 1 Df:=Dz F DZ rfl λ_ _ _ _ _ _ a b=>(AM (DK 1 b (AZ (AZ (AJ 0) AH) AH)) (AU (AY (gg (B7 Ed (AJ 1) AH (BU _)) (F1 (FO (B7 (DV a) (AJ 1) AH (BU _)) (F1 (B7 (DV a) (AZ (AJ 0) AH) AH (BU _)))))))))
theorem YO (F:Z1 K "before" NW f U):Z2 P w K Z Y n f U ["one","other"] 2 DL:=Dz F DZ rfl λ_ _ _ _ _ _ _ _=>(AU (AY (B7 Ed (Aj BH (AZ (AJ 0) AH) (AZ (AJ 1) AH)) (Aj BH (AZ (AJ 1) AH) (AZ (AJ 0) AH)) (BU _))))
theorem VF (F:Z1 K "turn_of" KD f U):Z2 P w K Z Y n f U ["plane","at","total","factor"] 2 DE:=Dz F DZ rfl λ_ _ _ _ _ _ _ a=>(AM (DK 2 a (AZ (AZ (AJ 0) AH) AH)) (AM (DK 3 a (AZ (AZ (AJ 0) AH) (AJ 1))) (AU (AY (Wy (GF Gr (AJ 3) AH) (AN (At (FP (AJ 2)) (AJ 3))) (AN (At (AJ 2) (FP (AJ 3)))))))))
theorem Og (F:Z1 K "is_tighter" Fz f U)(b:Sx P w K Z Y n)(c:PK P w K Z Y n):Z2 P w K Z Y n f U ["plane","other","at","here","there"] 3 DM:=Dz F DZ rfl λ_ _ _ _ _ _ a d=>(AM (DK 3 d (AL c a rfl (At (AJ 0) (AJ 2)))) (AM (DK 4 d (AL c a rfl (At (AJ 1) (AJ 2)))) (AM (BK (CF (AL b a rfl (At (AJ 3) (AJ 4)))) (AU (AY (B7 Ed (AZ (AZ (AJ 0) AH) (AJ 2)) AH (BU _)))) A2) (AM (BK (CF (AL b a rfl (At (AJ 4) (AJ 3)))) (AU (AY (B7 Gr (AZ (AZ (AJ 0) AH) (AJ 2)) AH (BU _)))) A2) (AU (AY (B7 Gr (AZ (AJ 0) AH) (AZ (AJ 1) AH) (BU _))))))))
theorem TX (F:Z1 K "tightest" IK f U)(b:Qg P w K Z Y n):Z2 P w K Z Y n f U ["planes","at","sign","told","plane"] 3 CV:=Dz F DZ rfl λ_ _ _ _ _ _ c a=>(AM (DK 3 a Bh) (AM (Cs AAk rfl (Fe (AJ 0)) (Dc 4 a) (AU (BK (Rj (bq (GF Gr (Aj BH (AZ (AZ (AJ 4) AH) (AJ 1)) (AJ 2)) AH) (XG (Rj (K0 (GF Vd (AJ 3) Bh) (IM (CF (AL b c rfl (CI (AJ 4) (AJ 3) (AJ 1)))))))))) (AU (DK 3 a (AJ 4))) A2))) (AU (AY (AJ 3)))))
theorem TM (F:Z1 K "fault_in" ID f U)(e:PH P w K Z Y n)(c:Ut P w K Z Y n)(d:M1 P w K Z Y n):Z2 P w K Z Y n f U ["planes","at","plane","high","both"] 2 De:=Dz F DZ rfl λ_ _ _ _ _ _ a b=>(AM (Cs AAk rfl (Fe (AJ 0)) (Dc 2 b) (AU (BK (Rj (bq (GF (DV a) (AZ (AZ (AJ 2) AH) (AJ 1)) AH) (XG (CF (AL c a rfl (BN (AJ 2))))))) (AU (AY (AJ 2))) A2))) (AM (DK 3 b (AL d a rfl (CI (AJ 0) (AJ 1) (FP AH)))) (AM (BK (GF Vd (AJ 3) Bh) (AU (AY Bh)) A2) (AM (DK 4 b (AL e a rfl (CI (AL d a rfl (CI (AJ 0) (AJ 1) AH)) (AJ 3) (AJ 1)))) (AU (AY (Wy (CF (AL c a rfl (BN (AJ 4)))) (AJ 4) Bh)))))))
theorem YQ (F:Z1 K "common" NX f U):Z2 P w K Z Y n f U ["one","other"] 2 ES:=Dz F DZ rfl λ_ _ _ _ _ _ a b=>(AM (Nr AAk (GF (W7 a) (AJ 1) AH) (AU (Vg (i:=0) (j:=1) rfl b rfl rfl (by decide) rfl rfl (At (AJ 1) (Aj Ve (AJ 0) (AJ 1))) rfl))) (AU (AY (AJ 0))))
theorem dz (F:Z1 K "part" VT f U)(c:Iz P w K Z Y n)(a:Z "abs" =none):Z2 P w K Z Y n f U ["top","bottom","shared"] 2 Fj:=Dz F DZ rfl λ_ _ _ _ _ _ d b=>(AM (DK 2 b (AL c d rfl (At (A1 Nc rfl a boot_abs (BN (AJ 0))) (A1 Nc rfl a boot_abs (BN (AJ 1)))))) (AM (BK (GF Ed (AJ 1) AH) (AU (DK 2 b (FP (AJ 2)))) A2) (AU (AY (AN (At (Aj E3 (AJ 0) (AJ 2)) (Aj E3 (AJ 1) (AJ 2))))))))
theorem aQ (F:Z1 K "minus" RX f U)(a:M0 P w K Z Y n):Z2 P w K Z Y n f U ["one","other"] 2 EF:=Dz F DZ rfl λ_ _ _ _ _ _ b _=>(AU (AY (AL a b rfl (At (Aj EB (Aj BH (AZ (AJ 0) AH) (AZ (AJ 1) AH)) (Aj BH (AZ (AJ 1) AH) (AZ (AJ 0) AH))) (Aj BH (AZ (AJ 0) AH) (AZ (AJ 1) AH))))))
theorem TR (F:Z1 K "negative" IG f U):Z2 P w K Z Y n f U ["number"] 1 CU:=Dz F DZ rfl λ_ _ _ _ _ _ _ _=>(AU (AY (AN (At (FP (AZ (AJ 0) AH)) (AZ (AJ 0) AH)))))
theorem d3 (F:Z1 K "plus" VU f U)(a:M0 P w K Z Y n):Z2 P w K Z Y n f U ["one","other"] 2 E8:=Dz F DZ rfl λ_ _ _ _ _ _ b _=>(AU (AY (AL a b rfl (At (Aj A9 (Aj BH (AZ (AJ 0) AH) (AZ (AJ 1) AH)) (Aj BH (AZ (AJ 1) AH) (AZ (AJ 0) AH))) (Aj BH (AZ (AJ 0) AH) (AZ (AJ 1) AH))))))
theorem Q4 (F:Z1 K "side_form" Gk f U)(c:WV P w K Z Y n)(d:Mz P w K Z Y n)(e:Qi P w K Z Y n):Z2 P w K Z Y n f U ["wedge","number","side","off","one","other","sizes","lates","base","slope","other_base","other_slope"] 2 BP:=Dz F DZ rfl λ_ _ _ _ _ _ b a=>(AM (Dm (AJ 0) (Bi (n:=4) rfl (AW (Dc 4 a) (AW (Dc 5 a) (AW (Dc 6 a) (AW (Dc 7 a) BI)))))) (AM (DK 2 a (Aj E3 (Aj EB (AJ 1) AH) AH)) (AM (Dm (AZ (AZ (AJ 4) AH) (AJ 2)) (Bi (n:=2) rfl (AW (Dc 8 a) (AW (Dc 9 a) BI)))) (AM (Dm (AZ (AZ (AJ 5) AH) (AJ 2)) (Bi (n:=2) rfl (AW (Dc 10 a) (AW (Dc 11 a) BI)))) (AM (DK 3 a (AL c b rfl (At (AJ 8) (AJ 10)))) (AM (BK (GF (DV b) (Aj Ve (AJ 1) AH) AH) (AU (AY (AN (CI (AL c b rfl (At (AZ (AJ 6) (AJ 2)) (AJ 3))) (AL d b rfl (BN (AJ 9))) (AJ 11))))) A2) (AU (AY (AN (CI (AL e b rfl (At (AZ (AJ 6) (AJ 2)) (AJ 3))) (AJ 9) (AL d b rfl (BN (AJ 11)))))))))))))
theorem Q5 (F:Z1 K "time_form" Gm f U)(e:Mz P w K Z Y n)(b:Kc K Z "BACK" (.tup [(.int (-1)),(.int 1)]))(a:Kc K Z "NOUGHT" (.tup [(.int 0),(.int 1)]))(c:Kc K Z "ONCE" (.tup [(.int 1),(.int 1)])):Z2 P w K Z Y n f U ["wedge","number","forms","one","other","sizes","lates"] 2 Dy:=Dz F DZ rfl λ_ _ _ _ _ _ g d=>(AM (Dm (AJ 0) (Bi (n:=4) rfl (AW (Dc 3 d) (AW (Dc 4 d) (AW (Dc 5 d) (AW (Dc 6 d) BI)))))) (AM (DK 2 d (AN (Ag (AN (CI (AL e g rfl (BN (AZ (AJ 3) AH))) (BC c rfl) (BC a rfl))) (Ag (AN (CI (AZ (AJ 3) AH) (BC b rfl) (BC a rfl))) (Ag (AN (CI (AL e g rfl (BN (AZ (AJ 4) AH))) (BC a rfl) (BC c rfl))) (CI (AN (CI (AZ (AJ 4) AH) (BC a rfl) (BC b rfl))) (AN (CI (AZ (AJ 6) AH) (BC c rfl) (BC b rfl))) (AN (CI (AZ (AJ 6) AH) (BC b rfl) (BC c rfl))))))))) (AU (AY (AZ (AJ 2) (AJ 1))))))
theorem VA (F:Z1 K "form_of" J7 f U)(b:S2 P w K Z Y n)(c:S3 P w K Z Y n):Z2 P w K Z Y n f U ["wedge","number"] 2 EK:=Dz F DZ rfl λ_ _ _ _ _ _ a _=>(AU (AY (Wy (GF Ed (AJ 1) AH) (AL c a rfl (At (AJ 0) (AJ 1))) (AL b a rfl (At (AJ 0) (AJ 1))))))
theorem YS (F:Z1 K "placed" NZ f U)(c:Z "tuple" =none):Z2 P w K Z Y n f U ["plane","at","value","numbers","top","bottom"] 3 Dx:=by
 have a:(["number","bottom"] :kn Str).Nodup:=by decide +kernel
 exact Dz F DZ rfl λ_ _ _ _ _ _ _ b=>(AM (Dm (AJ 2) (Bi (n:=2) rfl (AW (Dc 4 b) (AW (HC (i:=5) b rfl (Or.inr rfl)) BI)))) (AM (Tw (i:=3) rfl b rfl (Or.inl rfl) (Fe (AZ (AJ 0) AH)) (CB (own:=1) (ix:= [5]) (N:= ["number","bottom" ]) rfl rfl rfl rfl rfl rfl (λ_ _ _ _ _ _=>(Ls 0 a)) (λ_ _ _ _ _ _=>Bz) (λ_ _ _ _ _ _=>(Aj BH (AJ 1) (AJ 0))))) (AM (fg (i:=3) AH (Aj BH (AZ (AZ (AJ 0) AH) (AJ 1)) (AJ 4))) (AM (kY (i:=3) (AJ 1) AH) (AU (AY (AN (CI (B6 D4 rfl c ABF (BN (AJ 3))) (AZ (AJ 0) AH) (AZ (AJ 0) AH)))))))))
theorem J1 (F:Z1 K "shared_bottom" D9 f U)(b:Iz P w K Z Y n):Z2 P w K Z Y n f U ["numbers","told","top","bottom"] 1 CG:=Dz F DZ rfl λ_ _ _ _ _ _ c a=>(AM (DK 1 a AH) (AM (Cs AAk rfl (Fe (AJ 0)) (Bi (n:=2) rfl (AW (Dc 2 a) (AW (Dc 3 a) BI))) (AU (bi (i:=1) a rfl (Or.inl rfl) (Aj E3 (AJ 3) (AL b c rfl (At (AJ 1) (AJ 3)))) bV))) (AU (AY (AJ 1)))))
theorem TU (F:Z1 K "plane_of" IH f U)(c:LL P w K Z Y n)(d:Z "tuple" =none):Z2 P w K Z Y n f U ["form","strict","number","shared","numbers"] 3 ET:=by
 have a:(["top","bottom","shared"] :kn Str).Nodup:=by decide +kernel
 exact Dz F DZ rfl λ_ _ _ _ _ _ e b=>(AM (Gs (i:=3) b rfl (Or.inr rfl) (AL c e rfl (BN (AJ 0)))) (AM (DK 4 b (B6 D4 rfl d ABF (BN (Cr (DU rfl (Fe (AJ 0)) (CB (own:=2) (ix:= [3]) (N:= ["top","bottom" ,"shared" ]) rfl rfl rfl rfl rfl rfl (λ_ _ _ _ _ _=>(Nj (n:=2) rfl (Cy (Ls 0 a) (Cy (Ls 1 a) JQ)))) (λ_ _ _ _ _ _=>Bz) (λ_ _ _ _ _ _=>(Aj BH (AJ 0) (Aj E3 (AJ 2) (AJ 1)))))))))) (AU (AY (AN (CI (AJ 4) (AJ 1) (kN (AJ 2) (AJ 3))))))))
theorem aS (F:Z1 K "whole" RZ f U):Z2 P w K Z Y n f U ["n"] 1 G5:=Dz F DZ rfl λ_ _ _ _ _ _ _ _=>(AU (AY (AN (At (AJ 0) AH))))
theorem LQ (F:Z1 K "told_weights" Ec f U)(d:Iz P w K Z Y n)(e:WW P w K Z Y n)(g:Z "sorted" =none)(h:Z "tuple" =none):Z2 P w K Z Y n f U ["weights","shared","weight"] 1 CW:=by
 have a:(["number","shared","weights"] :kn Str).Nodup:=by decide +kernel
 exact Dz F DZ rfl λ_ _ _ _ _ _ b c=>(AM (Gs (i:=1) c rfl (Or.inr rfl) AH) (AM (Cs AAk rfl (fP (AJ 0)) (Dc 2 c) (AU (Gs (i:=1) c rfl (Or.inr rfl) (AL d b rfl (At (AJ 2) (AJ 1)))))) (AU (AY (B6 D4 rfl h ABF (BN (Cr (DU rfl (Fe (A1 (bN rfl) rfl g boot_sorted (BN (AJ 0)))) (CB (own:=1) (ix:= [1,0]) (N:= ["number","shared" ,"weights" ]) rfl rfl rfl rfl rfl rfl (λ_ _ _ _ _ _=>(Ls 0 a)) (λ_ _ _ _ _ _=>Bz) (λ_ _ _ _ _ _=>(AN (At (AJ 0) (AL e b rfl (BN (Aj E3 (oj b (AJ 2) (AJ 0) (λ_ _=>rfl)) (AJ 1))))))))))))))))
theorem dw (F:Z1 K "over" VS f U)(a:M0 P w K Z Y n):Z2 P w K Z Y n f U ["one","other"] 2 Hg:=Dz F DZ rfl λ_ _ _ _ _ _ b _=>(AU (AY (AL a b rfl (At (Aj BH (AZ (AJ 0) AH) (AZ (AJ 1) AH)) (Aj BH (AZ (AJ 0) AH) (AZ (AJ 1) AH))))))
theorem TV (F:Z1 K "range_in" II f U)(c:M0 P w K Z Y n)(d:M1 P w K Z Y n)(e:PK P w K Z Y n):Z2 P w K Z Y n f U ["planes","at","low","least","high","greatest"] 2 EU:=Dz F DZ rfl λ_ _ _ _ _ _ a b=>(AM (DK 2 b (AL d a rfl (CI (AJ 0) (AJ 1) AH))) (AM (DK 3 b (AL e a rfl (At (AJ 2) (AJ 1)))) (AM (DK 3 b (AL c a rfl (At (AZ (AJ 3) AH) (AZ (AJ 3) AH)))) (AM (DK 4 b (AL d a rfl (CI (AJ 0) (AJ 1) (FP AH)))) (AM (BK (GF Vd (AJ 4) Bh) (AU (AY (AN (CI (AJ 3) (Aj EB AH (AZ (AJ 2) AH)) Bh)))) A2) (AM (DK 5 b (AL e a rfl (At (AJ 4) (AJ 1)))) (AU (AY (AN (CI (AJ 3) (Aj EB AH (AZ (AJ 2) AH)) (AL c a rfl (At (AZ (AJ 5) AH) (AZ (AJ 5) AH)))))))))))))
theorem TY (F:Z1 K "value_in" IL f U)(c:Zr P w K Z Y n)(d:Qi P w K Z Y n)(e:Uv P w K Z Y n)(g:WW P w K Z Y n):Z2 P w K Z Y n f U ["planes","at","least","held","greatest"] 2 CY:=Dz F DZ rfl λ_ _ _ _ _ _ a b=>(AM (Dm (AL e a rfl (At (AJ 0) (AJ 1))) (Bi (n:=3) rfl (AW (Dc 2 b) (AW (Dc 3 b) (AW (Dc 4 b) BI))))) (AU (AY (AL c a rfl (At (AL d a rfl (At (AJ 2) (AJ 4))) (AL g a rfl (BN AH)))))))
theorem Hx (F:Z1 K "weights_by_time" DS f U)(d:Sx P w K Z Y n)(e:Qi P w K Z Y n)(a:Kc K Z "ONCE" (.tup [(.int 1),(.int 1)])):Z2 P w K Z Y n f U ["wedge","one","other","sizes","lates"] 1 Bm:=Dz F DZ rfl λ_ _ _ _ _ _ b c=>(AM (Dm (AJ 0) (Bi (n:=4) rfl (AW (Dc 1 c) (AW (Dc 2 c) (AW (Dc 3 c) (AW (Dc 4 c) BI)))))) (AM (BK (DW (CF (AL d b rfl (At (AZ (AJ 1) AH) (AL e b rfl (At (AZ (AJ 2) AH) (AZ (AJ 4) AH))))))) (AU (AY (AN (CI (AN (At AH (BC a rfl))) (AN (At AH (BC a rfl))) (AN (At AH (BC a rfl))))))) A2) (AM (BK (DW (CF (AL d b rfl (At (AZ (AJ 2) AH) (AL e b rfl (At (AZ (AJ 1) AH) (AZ (AJ 4) AH))))))) (AU (AY (AN (CI (AN (At AH (BC a rfl))) (AN (At AH (BC a rfl))) (AN (At AH (BC a rfl))))))) A2) (AU (AY Bh)))))
theorem Nd:DN ["planes","at","most","lows","highs","told","low","high"] ["planes","at","most"] (As HB):=DZ
theorem VG (F:QH K "without" "without" HB f U 2)(g:PH P w K Z Y n)(h:Z "len" =none)(j:Z "set" =none):Dh P w K Z Y MR (n+1) f U ["planes","at","most"] (Co K 3 EM):=by
 have a:=Nd.nd;have b:(["plane","at"] :kn Str).Nodup:=by decide +kernel
 have c:(["plane","at"] :kn Str).Nodup:=by decide +kernel
 have d:(["plane","at"] :kn Str).Nodup:=by decide +kernel
 exact Zf F Nd rfl λ_ _ _ _ _ _ e=>(AM (Ff (i:=3) rfl a rfl (Or.inl rfl) (Fe (AJ 0)) (CB (own:=1) (ix:= [1]) (N:= ["plane","at" ]) rfl rfl rfl rfl rfl rfl (λ_ _ _ _ _ _=>(Ls 0 b)) (λ_ _ _ _ _ _=>(Rb (GF Gr (AZ (AZ (AJ 0) AH) (AJ 1)) AH))) (λ_ _ _ _ _ _=>(AJ 0)))) (AM (Ff (i:=4) rfl a rfl (Or.inl rfl) (Fe (AJ 0)) (CB (own:=1) (ix:= [1]) (N:= ["plane","at" ]) rfl rfl rfl rfl rfl rfl (λ_ _ _ _ _ _=>(Ls 0 c)) (λ_ _ _ _ _ _=>(Rb (GF Ed (AZ (AZ (AJ 0) AH) (AJ 1)) AH))) (λ_ _ _ _ _ _=>(AJ 0)))) (AM (Tw (i:=5) rfl a rfl (Or.inl rfl) (Fe (AJ 0)) (CB (own:=1) (ix:= [1]) (N:= ["plane","at" ]) rfl rfl rfl rfl rfl rfl (λ_ _ _ _ _ _=>(Ls 0 d)) (λ_ _ _ _ _ _=>(Rb (GF (DV e) (AZ (AZ (AJ 0) AH) (AJ 1)) AH))) (λ_ _ _ _ _ _=>(AJ 0)))) (AM (Cs AAk rfl (Fe (AJ 3)) (Dc 6 a) (AU (Cs AAk rfl (Fe (AJ 4)) (Dc 7 a) (AU (BK (GF gm (kP rfl h rfl j (AZ (AJ 6) AH) (AZ (AJ 7) AH)) (AJ 2)) (AU (EH (i:=5) ABa ABb Cm (BN (AL g e rfl (CI (AJ 6) (AJ 7) (AJ 1)))))) A2))))) (AU (AY (AJ 5)))))))
theorem VC (F:Z1 K "meet_in" J9 f U)(h:Us P w K Z Y n)(j:PJ P w K Z Y n)(k:Zs P w K Z Y n)(l:Uu P w K Z Y n)(o:M3 P w K Z Y n)(g:Ux P w K Z Y n)(p:I0 P w K Z Y n)(r:X8 P w K Z Y n)(s:Z "range" =none)(a:Kc K Z "STRICT" (.tup [(.int 0),(.int 1),(.int 0),(.int 1),(.int 0),(.int 0),(.int 1),(.int 1),(.int 1),(.int 1),(.int 1),(.int 1)])):Z2 P w K Z Y n f U ["wedge","weights","planes","first","fault","s"] 1 FU:=by
 have d:(["number","wedge"] :kn Str).Nodup:=by decide +kernel
 have e:(["plane","s"] :kn Str).Nodup:=by decide +kernel
 exact Dz F DZ rfl λ_ _ _ _ _ _ b c=>(AM (DK 1 c (AL p b rfl (BN (AJ 0)))) (AM (BK (GF Ri (AJ 1) Bh) (AU (AY (AN (At Bh (AJ 1))))) A2) (AM (Ff (i:=2) rfl c rfl (Or.inl rfl) (Nh rfl s (BN AH)) (CB (own:=1) (ix:= [0]) (N:= ["number","wedge" ]) rfl rfl rfl rfl rfl rfl (λ_ _ _ _ _ _=>(Ls 0 d)) (λ_ _ _ _ _ _=>Bz) (λ_ _ _ _ _ _=>(AL l b rfl (CI (AL j b rfl (At (AJ 1) (AJ 0))) (AZ (BC a rfl) (AJ 0)) (AJ 0)))))) (AM (DK 3 c (bR r b rfl (At (AJ 2) AH))) (AM (DK 4 c (AL h b rfl (At (AJ 3) AH))) (AM (BK (GF Ri (AJ 4) Bh) (AU (AY (AN (At Bh (AL o b rfl (BN (AZ (AJ 4) AH))))))) A2) (AM (Gs (i:=5) c rfl (Or.inr rfl) (AL g b rfl (At (AJ 3) AH))) (AU (AY (AN (At (AN (At (AJ 5) (AL g b rfl (At (Cr (DU rfl (Fe (AJ 2)) (CB (own:=1) (ix:= [5]) (N:= ["plane","s" ]) rfl rfl rfl rfl rfl rfl (λ_ _ _ _ _ _=>(Ls 0 e)) (λ_ _ _ _ _ _=>Bz) (λ_ _ _ _ _ _=>(AL k b rfl (CI (AJ 0) AH (AJ 1))))))) AH)))) Bh)))))))))))
theorem aR (F:Z1 K "times" RY f U)(a:M0 P w K Z Y n):Z2 P w K Z Y n f U ["one","other"] 2 Ic:=Dz F DZ rfl λ_ _ _ _ _ _ b _=>(AU (AY (AL a b rfl (At (Aj BH (AZ (AJ 0) AH) (AZ (AJ 1) AH)) (Aj BH (AZ (AJ 0) AH) (AZ (AJ 1) AH))))))
theorem Jz (F:Z1 K "piece_between" D8 f U)(c:WV P w K Z Y n)(d:Zr P w K Z Y n)(e:dL P w K Z Y n)(g:Z "zip" =none):Z2 P w K Z Y n f U ["former","latter","span","lines","low","high","slope"] 2 Bj:=Dz F DZ rfl λ_ _ _ _ _ _ a b=>(AM (DK 2 b (AL c a rfl (At (AZ (AJ 1) AH) (AZ (AJ 0) AH)))) (AM (Dn (i:=3) b rfl (Or.inl rfl) (BE EA)) (AM (Cs AAk rfl (fQ rfl g (At (Kz (AJ 0) (gk AH) gj) (Kz (AJ 1) (gk AH) gj))) (Bi (n:=2) rfl (AW (Dc 4 b) (AW (Dc 5 b) BI))) (AM (DK 6 b (AL d a rfl (At (AL c a rfl (At (AJ 5) (AJ 4))) (AJ 2)))) (AU (EH (i:=3) ABa ABb Cm (BN (AN (At (AL c a rfl (At (AJ 4) (AL e a rfl (At (AJ 6) (AZ (AJ 0) AH))))) (AJ 6)))))))) (AU (AY (AN (CI (AZ (AJ 0) AH) (AZ (AJ 1) AH) (AJ 3))))))))
theorem Q2 (F:Z1 K "pieces_of" Gi f U)(b:LK P w K Z Y n)(c:Z "len" =none)(d:Z "range" =none):Z2 P w K Z Y n f U ["plan"] 1 DB:=by
 have a:(["at","plan"] :kn Str).Nodup:=by decide +kernel
 exact Dz F DZ rfl λ_ _ _ _ _ _ e _=>(AU (AY (Cr (DU rfl (Nh rfl d (BN (Aj EB (A1 FN rfl c AA6 (BN (AJ 0))) AH))) (CB (own:=1) (ix:= [0]) (N:= ["at","plan" ]) rfl rfl rfl rfl rfl rfl (λ_ _ _ _ _ _=>(Ls 0 a)) (λ_ _ _ _ _ _=>Bz) (λ_ _ _ _ _ _=>(AL b e rfl (At (AZ (AJ 1) (AJ 0)) (AZ (AJ 1) (Aj A9 (AJ 0) AH))))))))))
theorem VE (F:Z1 K "size_of" KC f U):Z2 P w K Z Y n f U ["apart","side"] 2 Cg:=Dz F DZ rfl λ_ _ _ _ _ _ a _=>(AU (AY (Wy (GF (DV a) (AJ 1) AH) (AZ (AJ 0) AH) (AZ (AJ 0) AH))))
theorem TW (F:Z1 K "sizes_of" IJ f U)(d:Qi P w K Z Y n)(b:X7 P w K Z Y n)(e:Z "range" =none):Z2 P w K Z Y n f U ["one","other","apart","told","side","asides"] 3 EV:=Dz F DZ rfl λ_ _ _ _ _ _ a c=>(AM (Dn (i:=3) c rfl (Or.inl rfl) (BE EA)) (AM (Cs AAk rfl (Nh rfl e (BN AH)) (Dc 4 c) (AM (DK 5 c (AL d a rfl (At (AL b a rfl (At (AZ (AJ 0) AH) (AJ 4))) (AL b a rfl (At (AZ (AJ 1) AH) (AJ 4)))))) (AU (EH (i:=3) ABa ABb Cm (BN (AL d a rfl (At (AL b a rfl (At (AJ 2) (AJ 4))) (AJ 5)))))))) (AU (AY (AJ 3)))))
theorem Q6 (F:Z1 K "wedges_of" Go f U)(c:Sz P w K Z Y n)(e:Uw P w K Z Y n)(d:Z "enumerate" =none):Z2 P w K Z Y n f U ["one","other","apart","sizes","lates","others","told","i","former","j","latter"] 3 A0:=Dz F DZ rfl λ_ _ _ _ _ _ b a=>(AM (DK 3 a (AL e b rfl (CI (AJ 0) (AJ 1) (AJ 2)))) (AM (DK 4 a (AN (At (AZ (AZ (AJ 0) AH) AH) (AZ (AZ (AJ 1) AH) AH)))) (AM (DK 5 a (AL c b rfl (BN (AZ (AJ 1) AH)))) (AM (Dn (i:=6) a rfl (Or.inl rfl) (BE EA)) (AM (Cs AAk rfl (ou rfl d (BN (AL c b rfl (BN (AZ (AJ 0) AH))))) (Bi (n:=2) rfl (AW (Dc 7 a) (AW (Dc 8 a) BI))) (AU (Cs AAk rfl (ou rfl d (BN (AJ 5))) (Bi (n:=2) rfl (AW (Dc 9 a) (AW (Dc 10 a) BI))) (AU (EH (i:=6) ABa ABb Cm (BN (AN (CI (AJ 7) (AJ 9) (AN (Ag (AJ 8) (CI (AJ 10) (AJ 3) (AJ 4)))))))))))) (AU (AY (AJ 6))))))))
theorem VD (F:Z1 K "meet_of" KB f U)(c:X5 P w K Z Y n)(d:Ko P w K Z Y n)(e:Z "tuple" =none):Z2 P w K Z Y n f U ["one","other","apart","rows","i","j","wedge","moments","weights"] 3 DA:=Dz F DZ rfl λ_ _ _ _ _ _ b a=>(AM (Dn (i:=3) a rfl (Or.inl rfl) (BE EA)) (AM (Cs AAk rfl (Fe (AL d b rfl (CI (AJ 0) (AJ 1) (AJ 2)))) (Bi (n:=3) rfl (AW (Dc 4 a) (AW (Dc 5 a) (AW (Dc 6 a) BI)))) (AM (Dm (AL c b rfl (BN (AJ 6))) (Bi (n:=2) rfl (AW (Dc 7 a) (AW (Dc 8 a) BI)))) (AM (BK (GF Ri (AJ 7) Bh) (AU (AY (AN (CI FQ (AZ (AJ 7) AH) (AZ (AJ 7) AH))))) A2) (AU (EH (i:=3) ABa ABb Cm (BN (AN (CI (AJ 4) (AJ 5) (AJ 8))))))))) (AU (AY (AN (At FQ (B6 D4 rfl e ABF (BN (AJ 3)))))))))
theorem Of (F:Z1 K "is_list_of" Fy f U)(a:Z "isinstance" =none)(b:Z "len" =none)(c:Z "list" =none)(d:Z "tuple" =none):Z2 P w K Z Y n f U ["thing","many"] 2 BX:=Dz F DZ rfl λ_ _ _ _ _ _ e _=>(AU (AY (FO (Ng "tuple" "list" rfl a ACq (AJ 0) (Bn (Fv (v:= .ty "tuple") rfl d ABF rfl) (Bn (Fv (v:= .ty "list") rfl c boot_list rfl) Dk)) M6) (F1 (B7 (DV e) (A1 FN rfl b AA6 (BN (AJ 0))) (AJ 1) (BU _))))))
theorem TQ (F:Z1 K "is_whole" IF f U)(b:Z "bool" =none)(c:Z "int" =none)(a:Z "isinstance" =none):Z2 P w K Z Y n f U ["thing"] 1 Br:=Dz F DZ rfl λ_ _ _ _ _ _ _ _=>(AU (AY (FO (A1 bM rfl a ACq (At (AJ 0) (gi (n:="int") rfl c boot_int rfl))) (F1 (kO (A1 bM rfl a ACq (At (AJ 0) (gi (n:="bool") rfl b boot_bool rfl))))))))
theorem VB (F:Z1 K "is_part" J8 f U)(d:Iz P w K Z Y n)(b:Hu P w K Z Y n)(e:Z "abs" =none)(g:Z "isinstance" =none)(h:Z "len" =none)(i:Z "list" =none)(j:Z "tuple" =none):Z2 P w K Z Y n f U ["thing","top","bottom"] 1 Cf:=Dz F DZ rfl λ_ _ _ _ _ _ a c=>(AM (BK (Rj (K0 (DW (CF (Ng "tuple" "list" rfl g ACq (AJ 0) (Bn (Fv (v:= .ty "tuple") rfl j ABF rfl) (Bn (Fv (v:= .ty "list") rfl i boot_list rfl) Dk)) M6))) (IM (GF (W7 a) (A1 FN rfl h AA6 (BN (AJ 0))) AH)))) (AU (AY Db)) A2) (AM (Dm (AJ 0) (Bi (n:=2) rfl (AW (Dc 1 c) (AW (Dc 2 c) BI)))) (AM (BK (Rj (K0 (DW (CF (AL b a rfl (BN (AJ 1))))) (IM (DW (CF (AL b a rfl (BN (AJ 2)))))))) (AU (AY Db)) A2) (AU (AY (FO (B7 Gr (AJ 2) AH (BU _)) (F1 (B7 (DV a) (AL d a rfl (At (A1 Nc rfl e boot_abs (BN (AJ 1))) (AJ 2))) AH (BU _)))))))))
theorem Q1 (F:Z1 K "is_weight" Gh f U)(c:Fs P w K Z Y n)(d:X4 P w K Z Y n)(e:Hu P w K Z Y n):Z2 P w K Z Y n f U ["thing","number","weight"] 1 C9:=Dz F DZ rfl λ_ _ _ _ _ _ a b=>(AM (BK (DW (CF (AL c a rfl (At (AJ 0) AH)))) (AU (AY Db)) A2) (AM (Dm (AJ 0) (Bi (n:=2) rfl (AW (Dc 1 b) (AW (Dc 2 b) BI)))) (AU (AY (FO (AL e a rfl (BN (AJ 1))) (FO (oi gm Ed AH (AJ 1) AH) (FO (AL d a rfl (BN (AJ 2))) (F1 (B7 Gr (AZ (AJ 2) AH) AH (BU _))))))))))
theorem NK (F:Z1 K "are_weights" FH f U)(d:Sy P w K Z Y n)(c:Z "all" =none)(e:Z "isinstance" =none)(g:Z "len" =none)(h:Z "list" =none)(i:Z "range" =none)(j:Z "tuple" =none):Z2 P w K Z Y n f U ["thing"] 1 Bq:=by
 have a:(["pair"] :kn Str).Nodup:=by decide +kernel
 have b:(["at","thing"] :kn Str).Nodup:=by decide +kernel
 exact Dz F DZ rfl λ_ _ _ _ _ _ k _=>(AM (BK (Rj (K0 (DW (CF (Ng "tuple" "list" rfl e ACq (AJ 0) (Bn (Fv (v:= .ty "tuple") rfl j ABF rfl) (Bn (Fv (v:= .ty "list") rfl h boot_list rfl) Dk)) M6))) (IM (DW (CF (A1 (bL rfl) rfl c boot_all (BN (Cr (DU rfl (Fe (AJ 0)) (CB (own:=1) (ix:= []) (N:= ["pair"]) rfl rfl rfl rfl rfl rfl (λ_ _ _ _ _ _=>(Ls 0 a)) (λ_ _ _ _ _ _=>Bz) (λ_ _ _ _ _ _=>(AL d k rfl (BN (AJ 0)))))))))))))) (AU (AY Db)) A2) (AU (AY (A1 (bL rfl) rfl c boot_all (BN (Cr (DU rfl (ox rfl i (At AH (A1 FN rfl g AA6 (BN (AJ 0))))) (CB (own:=1) (ix:= [0]) (N:= ["at","thing" ]) rfl rfl rfl rfl rfl rfl (λ_ _ _ _ _ _=>(Ls 0 b)) (λ_ _ _ _ _ _=>Bz) (λ_ _ _ _ _ _=>(B7 Ed (AZ (AZ (AJ 1) (Aj EB (AJ 0) AH)) AH) (AZ (AZ (AJ 1) (AJ 0)) AH) (BU _)))))))))))
theorem YR (F:Z1 K "is_row" NY f U)(c:OX P w K Z Y n)(d:Fs P w K Z Y n)(b:Hu P w K Z Y n):Z2 P w K Z Y n f U ["thing","i","j"] 3 CT:=Dz F DZ rfl λ_ _ _ _ _ _ a _=>(AM (BK (Rj (K0 (DW (CF (AL d a rfl (At (AJ 0) AH)))) (K0 (DW (CF (AL b a rfl (BN (AZ (AJ 0) AH))))) (IM (DW (CF (AL b a rfl (BN (AZ (AJ 0) AH))))))))) (AU (AY Db)) A2) (AU (AY (FO (B7 (DV a) (AZ (AJ 0) AH) (AJ 1) (BU _)) (FO (B7 (DV a) (AZ (AJ 0) AH) (AJ 2) (BU _)) (F1 (AL c a rfl (BN (AZ (AJ 0) AH)))))))))
theorem NM (F:Z1 K "weighed_sum" FJ f U)(b:Z "zip" =none):Z2 P w K Z Y n f U ["forms","weights","at","total","shared","form","factor","top","bottom"] 3 Ba:=Dz F DZ rfl λ_ _ _ _ _ _ _ a=>(AM (DK 3 a AH) (AM (DK 4 a AH) (AM (Cs AAk rfl (fQ rfl b (At (AJ 0) (AJ 1))) (Bi (n:=2) rfl (AW (Dc 5 a) (AW (Bi (n:=2) rfl (AW (Dc 7 a) (AW (Dc 8 a) BI))) BI))) (AM (DK 6 a (Aj BH (AJ 8) (AZ (AZ (AJ 5) (AJ 2)) AH))) (AM (DK 3 a (Aj A9 (Aj BH (AJ 3) (AJ 6)) (Aj BH (Aj BH (AJ 7) (AZ (AZ (AJ 5) (AJ 2)) AH)) (AJ 4)))) (AU (bi (i:=4) a rfl (Or.inl rfl) (AJ 6) bV))))) (AU (AY (AJ 3))))))
theorem Q3 (F:Z1 K "shows_row" Gj f U)(j:PJ P w K Z Y n)(g:OZ P w K Z Y n)(k:Z "any" =none)(a:Kc K Z "STRICT" (.tup [(.int 0),(.int 1),(.int 0),(.int 1),(.int 0),(.int 0),(.int 1),(.int 1),(.int 1),(.int 1),(.int 1),(.int 1)])):Z2 P w K Z Y n f U ["wedge","pairs","forms","weights","total"] 2 DC:=by
 have c:(["number","weight","wedge"] :kn Str).Nodup:=by decide +kernel
 have d:(["number","weight"] :kn Str).Nodup:=by decide +kernel
 have e:(["number","weight"] :kn Str).Nodup:=by decide +kernel
 exact Dz F DZ rfl λ_ _ _ _ _ _ b h=>(AM (Ff (i:=2) rfl h rfl (Or.inl rfl) (Fe (AJ 1)) (CB (own:=2) (ix:= [0]) (N:= ["number","weight" ,"wedge" ]) rfl rfl rfl rfl rfl rfl (λ_ _ _ _ _ _=>(Nj (n:=2) rfl (Cy (Ls 0 c) (Cy (Ls 1 c) JQ)))) (λ_ _ _ _ _ _=>Bz) (λ_ _ _ _ _ _=>(AL j b rfl (At (AJ 2) (AJ 0)))))) (AM (Ff (i:=3) rfl h rfl (Or.inl rfl) (Fe (AJ 1)) (CB (own:=2) (ix:= []) (N:= ["number","weight" ]) rfl rfl rfl rfl rfl rfl (λ_ _ _ _ _ _=>(Nj (n:=2) rfl (Cy (Ls 0 d) (Cy (Ls 1 d) JQ)))) (λ_ _ _ _ _ _=>Bz) (λ_ _ _ _ _ _=>(AJ 1)))) (AM (BK (Rj (K0 (GF (W7 b) (AL g b rfl (CI (AJ 2) (AJ 3) AH)) AH) (IM (GF (W7 b) (AL g b rfl (CI (AJ 2) (AJ 3) AH)) AH)))) (AU (AY Db)) A2) (AM (DK 4 h (AL g b rfl (CI (AJ 2) (AJ 3) AH))) (AU (AY (gg (B7 Ed (AJ 4) AH (BU _)) (F1 (FO (B7 (DV b) (AJ 4) AH (BU _)) (F1 (A1 (kE rfl) rfl k boot_any (BN (Cr (DU rfl (Fe (AJ 1)) (CB (own:=2) (ix:= []) (N:= ["number","weight" ]) rfl rfl rfl rfl rfl rfl (λ_ _ _ _ _ _=>(Nj (n:=2) rfl (Cy (Ls 0 e) (Cy (Ls 1 e) JQ)))) (λ_ _ _ _ _ _=>Bz) (λ_ _ _ _ _ _=>(B7 (DV b) (AZ (BC a rfl) (AJ 0)) AH (BU _))))))))))))))))))
theorem NL (F:Z1 K "shows_apart" FI f U)(c:Fs P w K Z Y n)(d:Zq P w K Z Y n)(e:S1 P w K Z Y n)(g:Ko P w K Z Y n)(h:Z "len" =none)(i:Z "zip" =none):Z2 P w K Z Y n f U ["one","other","apart","paper","wedges","row","i","j","wedge"] 4 BM:=Dz F DZ rfl λ_ _ _ _ _ _ b a=>(AM (DK 4 a (AL g b rfl (CI (AJ 0) (AJ 1) (AJ 2)))) (AM (BK (DW (CF (AL c b rfl (At (AJ 3) (A1 FN rfl h AA6 (BN (AJ 4))))))) (AU (AY Db)) A2) (AM (Cs AAk rfl (fQ rfl i (At (AJ 4) (AJ 3))) (Bi (n:=2) rfl (AW (Bi (n:=3) rfl (AW (Dc 6 a) (AW (Dc 7 a) (AW (Dc 8 a) BI)))) (AW (Dc 5 a) BI))) (AU (BK (Rj (K0 (DW (CF (AL d b rfl (CI (AJ 5) (AJ 6) (AJ 7))))) (IM (DW (CF (AL e b rfl (At (AJ 8) (AZ (AJ 5) AH)))))))) (AU (AY Db)) A2))) (AU (AY Db)))))
theorem jR (F:Z1 K "law" Pk f U)(d:Qf P w K Z Y n)(e:Iw P w K Z Y n)(g:Sw P w K Z Y n)(h:Ur P w K Z Y n)(i:X6 P w K Z Y n)(c:OY P w K Z Y n)(j:Z "len" =none)(k:Z "min" =none)(l:Z "range" =none):Z2 P w K Z Y n f U ["_law_script","_law_k","_law_tape_here","_law_apart_here","_law_found","_law_things","_law_thing","_law_one","_law_other"] 1 EL:=Dz F DZ rfl λ_ _ _ _ _ _ b a=>(AM (Cs AAk rfl (Nh rfl l (BN (Aj A9 AH (A1 (kI rfl) rfl k boot_min (At AH (A1 FN rfl j AA6 (BN (AJ 0)))))))) (Dc 1 a) (AM (DK 2 a (AL g b rfl (At (AJ 0) (AJ 1)))) (AM (Dm (AL h b rfl (BN (AJ 2))) (Bi (n:=2) rfl (AW (Dc 7 a) (AW (Dc 8 a) BI)))) (AM (DK 3 a (AL d b rfl (BN (AJ 2)))) (AM (DK 4 a (AL i b rfl (CI (AJ 7) (AJ 8) (AJ 3)))) (AM (DK 5 a (Cr (BE (Ag Bh (Ag Db (Ag AH (Ag AH (Ag FQ (Ag FQ (Ag (Cr (BE (BN Bh))) (Ag (Cr (BE (BN (Cr (BE EA))))) (CI (AN (BN (AN EA))) (AN (CI AH AH (AN EA))) (Cr (BE (BN (Cr (BE (CI AH AH (Cr (BE EA)))))))))))))))))))) (AM (BK (GF (DV b) (AZ (AJ 4) AH) FQ) (AM (DK 5 a (Aj A9 (AJ 5) (AL e b rfl (At (AJ 2) (AZ (AJ 4) AH))))) (AU (BK (GF W8 (AL c b rfl (Ag (AJ 7) (CI (AJ 8) (AJ 3) (AZ (AJ 4) AH)))) Db) (AU (AY Db)) A2))) A2) (AU (Cs AAk rfl (Fe (AJ 5)) (Dc 6 a) (AU (BK (GF W8 (AL c b rfl (Ag (AJ 7) (CI (AJ 8) (AJ 3) (AJ 6)))) Db) (AU (AY Db)) A2))))))))))) (AU (AY Db)))
end
def ik {P:kd}{w:kc}{K:AAD}{Z:Str->ki km}{Y:gn}{k:Nat}{x:Str}{st:Stmt}{ps:kn Str}{sp:Sp}{f:kj}{U:FuncData}(F:Vz K x x st f U)(b:Binds K U ps [])(m:Z x=some (.ref f))(G:Dh P w K Z Y MR k f U ps sp):Has P w K Z Y k x ps sp:=⟨f,U,m,F.kp,b,G⟩
def nQ {a:kn km}(hl:a.length=1):∃b:km,a= [b] :=by match a,hl with | [b],_=>exact⟨_,rfl⟩
def nR {a:kn km}(hl:a.length=2):∃b x1:km,a= [b,x1] :=by match a,hl with | [b,x1],_=>exact⟨_,_,rfl⟩
def nS {a:kn km}(hl:a.length=3):∃b x1 c:km,a= [b,x1,c] :=by match a,hl with | [b,x1,c],_=>exact⟨_,_,_,rfl⟩
def nU {a:kn km}(hl:a.length=4):∃b x1 c d:km,a= [b,x1,c,d] :=by match a,hl with | [b,x1,c,d],_=>exact⟨_,_,_,_,rfl⟩
def DX (K:AAD)(x:Str)(st:Stmt)(f:kj):Prop:=PySem.W.nsIn K mainGlobals x=some (some (.ref f))/\∃U,Vz K x x st f U
def vV {K:AAD}{x:Str}{st:Stmt}{f:kj}{g:km}{h i:ki kj}{d:Array (ki km)}{kV e j b ct:km}(a:PySem.W.nsIn K mainGlobals x=some (some (.ref f)))(l:K.lookup f=some ⟨g,h, .func (PySem.W.fnOf x x (Ds st) (CC st) (As st) .none kV e j i b ct),d⟩)(c:PySem.W.codeIn K b x=true)(k:PySem.W.keepIn K (.ref f)=true):DX K x st f:=⟨a,_,Zj l c k⟩
def rZ {P:kd}{w:kc}{K:AAD}{h Y:gn}{Z:Str->ki km}{k:Nat}{x:Str}{st:Stmt}{ps:kn Str}{sp:Sp}{f:kj}(A:DX K x st f)(X:K.In h)(G:h.Ns mainGlobals Z)(g:∀U,Vz K x x st f U->Binds K U ps [] ->Z x=some (.ref f)->Dh P w K Z Y MR k f U ps sp)(b:∀U,Vz K x x st f U->Binds K U ps [] :=by exact λ_ F=>F.binds λ_ _ _ _ _ _ c hl=>by first | (obtain⟨_,rfl⟩:=nQ hl;rfl)|(obtain⟨_,_,rfl⟩:=nR hl;rfl)|(obtain⟨_,_,_,rfl⟩:=nS hl;rfl)|(obtain⟨_,_,_,_,rfl⟩:=nU hl;rfl)):Has P w K Z Y k x ps sp:=
 let ⟨a,U,F⟩:=A;ik F (b U F) (ABo X G a) (g U F (b U F) (ABo X G a))
def ql (K:AAD)(x:Str)(st:Stmt)(f:kj)(d:Int):Prop:=PySem.W.nsIn K mainGlobals x=some (some (.ref f))/\∃U,QH K x x st f U d
def mZ {P:kd}{w:kc}{K:AAD}{h Y:gn}{Z:Str->ki km}{k:Nat}{x:Str}{st:Stmt}{ps:kn Str}{d:Int}{sp:Sp}{f:kj}(A:ql K x st f d)(X:K.In h)(G:h.Ns mainGlobals Z)(b:∀U,QH K x x st f U d->∃c,Binds K U ps [.int d c])(g:∀U,QH K x x st f U d->Dh P w K Z Y MR k f U ps sp):UT P w K Z Y k x ps d sp:=
 let ⟨a,U,F⟩:=A;let ⟨c,B⟩:=b U F;⟨f,U,c,ABo X G a,F.kp,B,g U F⟩
def all_mk {l:PySem.W.OpenLaw}{w:kc}{K:AAD}{h:gn}{Z:Str->ki km}{fa f1 f2 f3 f4 f5 f6 f7 f8 f9 S T f12 f13 f14 f15 f16 f17 f18 f19 f20 f21 f22 f23 f24 f25 f26 f27 f28 f29 f30 f31 f32 f33 f34 f35 f36 f37 f38 f39 f40 f41 f42 f43 f44 f45 f46 f47 f48 f49 f50 f51 f52 f53 f54 f55 f56:kj}(X:K.In h)(G:h.Ns mainGlobals Z)(yk:Z "law" =some (.ref fa))(a1:DX K "_law_draw" Ez f1)(a2:DX K "_law_apart" Fw f2)(a3:DX K "_law_bad_row" Eb f3)(a4:DX K "_law_bad_papers" DR f4)(a5:DX K "_law_tape" E1 f5)(a6:DX K "_law_bounds" FG f6)(a7:DX K "_law_part" Ge f7)(a8:DX K "_law_place" Fx f8)(a9:DX K "_law_span" Gg f9)(a10:DX K "_law_sum" IB S)(a11:DX K "_law_plan" Gf T)(a12:DX K "_law_two" IC f12)(a13:DX K "summed" Na f13)(a14:DX K "crossed" J6 f14)(a15:DX K "is_never" IE f15)(a16:DX K "before" NW f16)(a17:DX K "turn_of" KD f17)(a18:DX K "is_tighter" Fz f18)(a19:DX K "tightest" IK f19)(a20:DX K "fault_in" ID f20)(a21:DX K "common" NX f21)(a22:DX K "part" VT f22)(a23:DX K "minus" RX f23)(a24:DX K "negative" IG f24)(a25:DX K "plus" VU f25)(a26:DX K "side_form" Gk f26)(a27:DX K "time_form" Gm f27)(a28:DX K "form_of" J7 f28)(a29:DX K "placed" NZ f29)(a30:DX K "shared_bottom" D9 f30)(a31:DX K "plane_of" IH f31)(a32:DX K "whole" RZ f32)(a33:DX K "told_weights" Ec f33)(a34:DX K "over" VS f34)(a35:DX K "range_in" II f35)(a36:DX K "value_in" IL f36)(a37:DX K "weights_by_time" DS f37)(a38:ql K "without" HB f38 2)(a39:DX K "meet_in" J9 f39)(a40:DX K "times" RY f40)(a41:DX K "piece_between" D8 f41)(a42:DX K "pieces_of" Gi f42)(a43:DX K "size_of" KC f43)(a44:DX K "sizes_of" IJ f44)(a45:DX K "wedges_of" Go f45)(a46:DX K "meet_of" KB f46)(a47:DX K "is_list_of" Fy f47)(a48:DX K "is_whole" IF f48)(a49:DX K "is_part" J8 f49)(a50:DX K "is_weight" Gh f50)(a51:DX K "are_weights" FH f51)(a52:DX K "is_row" NY f52)(a53:DX K "weighed_sum" FJ f53)(a54:DX K "shows_row" Gj f54)(a55:DX K "shows_apart" FI f55)(I:DX K "law" Pk f56)(t:PySem.W.nsIn K mainGlobals "abs" =some none)(u:PySem.W.nsIn K mainGlobals "all" =some none)(x:PySem.W.nsIn K mainGlobals "any" =some none)(y_bool:PySem.W.nsIn K mainGlobals "bool" =some none)(o:PySem.W.nsIn K mainGlobals "dict" =some none)(c:PySem.W.nsIn K mainGlobals "enumerate" =some none)(y:PySem.W.nsIn K mainGlobals "int" =some none)(a:PySem.W.nsIn K mainGlobals "isinstance" =some none)(z:PySem.W.nsIn K mainGlobals "len" =some none)(p:PySem.W.nsIn K mainGlobals "list" =some none)(A:PySem.W.nsIn K mainGlobals "max" =some none)(B:PySem.W.nsIn K mainGlobals "min" =some none)(j:PySem.W.nsIn K mainGlobals "range" =some none)(C:PySem.W.nsIn K mainGlobals "set" =some none)(f:PySem.W.nsIn K mainGlobals "sorted" =some none)(D:PySem.W.nsIn K mainGlobals "str" =some none)(k:PySem.W.nsIn K mainGlobals "tuple" =some none)(E:PySem.W.nsIn K mainGlobals "zip" =some none){qBACK_2:Tok}{qBACK_3:Tok}{qBACK_1:kj}{qBACK_1n:Nat}{qBACK_1d:ki kj}{qBACK_1s:Array (ki km)}{qNOUGHT_5:Tok}{qNOUGHT_6:Tok}{qNOUGHT_4:kj}{qNOUGHT_4n:Nat}{qNOUGHT_4d:ki kj}{qNOUGHT_4s:Array (ki km)}{qONCE_8:Tok}{qONCE_9:Tok}{qONCE_7:kj}{qONCE_7n:Nat}{qONCE_7d:ki kj}{qONCE_7s:Array (ki km)}{qSTRICT_11:Tok}{qSTRICT_12:Tok}{qSTRICT_13:Tok}{qSTRICT_14:Tok}{qSTRICT_15:Tok}{qSTRICT_16:Tok}{qSTRICT_17:Tok}{qSTRICT_18:Tok}{qSTRICT_19:Tok}{qSTRICT_20:Tok}{qSTRICT_21:Tok}{qSTRICT_22:Tok}{qSTRICT_10:kj}{qSTRICT_10n:Nat}{qSTRICT_10d:ki kj}{qSTRICT_10s:Array (ki km)}(a_STRICT:PySem.W.nsIn K mainGlobals "STRICT" =some (some (.ref qSTRICT_10)))(a_ONCE:PySem.W.nsIn K mainGlobals "ONCE" =some (some (.ref qONCE_7)))(a_NOUGHT:PySem.W.nsIn K mainGlobals "NOUGHT" =some (some (.ref qNOUGHT_4)))(a_BACK:PySem.W.nsIn K mainGlobals "BACK" =some (some (.ref qBACK_1)))(h_qBACK_1:K.lookup qBACK_1=some ⟨.type "tuple",qBACK_1d, .seq (List.toArray [(.int (-1) qBACK_2),(.int 1 qBACK_3)]) qBACK_1n,qBACK_1s⟩)(h_qNOUGHT_4:K.lookup qNOUGHT_4=some ⟨.type "tuple",qNOUGHT_4d, .seq (List.toArray [(.int 0 qNOUGHT_5),(.int 1 qNOUGHT_6)]) qNOUGHT_4n,qNOUGHT_4s⟩)(h_qONCE_7:K.lookup qONCE_7=some ⟨.type "tuple",qONCE_7d, .seq (List.toArray [(.int 1 qONCE_8),(.int 1 qONCE_9)]) qONCE_7n,qONCE_7s⟩)(h_qSTRICT_10:K.lookup qSTRICT_10=some ⟨.type "tuple",qSTRICT_10d, .seq (List.toArray [(.int 0 qSTRICT_11),(.int 1 qSTRICT_12),(.int 0 qSTRICT_13),(.int 1 qSTRICT_14),(.int 0 qSTRICT_15),(.int 0 qSTRICT_16),(.int 1 qSTRICT_17),(.int 1 qSTRICT_18),(.int 1 qSTRICT_19),(.int 1 qSTRICT_20),(.int 1 qSTRICT_21),(.int 1 qSTRICT_22)]) qSTRICT_10n,qSTRICT_10s⟩):∃U:FuncData,(∀(s:kl) (v:km),BindsTo s U ⟨[v], []⟩ [("_law_script",v)])/\∀Y:gn,K.In Y->Y.Ns mainGlobals Z->Dh l.prog w K Z Y MR 8 fa U ["_law_script"] (Co K 1 EL):=by have e:=yk.symm.trans (ABo X G I.1);cases e;obtain⟨aL,fdL,FL⟩:=I;obtain⟨⟨oc,od,kV,doc,pm,an,cdv,ct,osl,eL,lL,cL⟩,kL⟩:=FL;subst eL;have FL:=Zj lL cL kL;have L:=AAm X G t;have XO:=AAm X G u;have cN:=AAm X G x;have Vu:=AAm X G y_bool;have Vv:=AAm X G o;have Ce:=AAm X G c;have JU:=AAm X G y;have M:=AAm X G a;have i:=AAm X G z;have N:=AAm X G p;have cO:=AAm X G A;have cP:=AAm X G B;have H:=AAm X G j;have cQ:=AAm X G C;have Ny:=AAm X G f;have XQ:=AAm X G D;have m:=AAm X G k;have O:=AAm X G E;have r:Kc K Z "BACK" (.tup [(.int (-1)),(.int 1)]):=Wg (ABo X G a_BACK) (Lp h_qBACK_1 (.cons Be (.cons Be .nil)));have g:Kc K Z "NOUGHT" (.tup [(.int 0),(.int 1)]):=Wg (ABo X G a_NOUGHT) (Lp h_qNOUGHT_4 (.cons Be (.cons Be .nil)));have d:Kc K Z "ONCE" (.tup [(.int 1),(.int 1)]):=Wg (ABo X G a_ONCE) (Lp h_qONCE_7 (.cons Be (.cons Be .nil)));have b:Kc K Z "STRICT" (.tup [(.int 0),(.int 1),(.int 0),(.int 1),(.int 0),(.int 0),(.int 1),(.int 1),(.int 1),(.int 1),(.int 1),(.int 1)]):=Wg (ABo X G a_STRICT) (Lp h_qSTRICT_10 (.cons Be (.cons Be (.cons Be (.cons Be (.cons Be (.cons Be (.cons Be (.cons Be (.cons Be (.cons Be (.cons Be (.cons Be .nil)))))))))))));refine⟨PySem.W.fnOf "law" "law" (Ds Pk) (CC Pk) (As Pk) .none kV doc pm an cdv ct,λs v=> .of_eq rfl,λY _ _=> ?_⟩;have hs:= @rZ l.prog w K h Y Z;have H1:=hs a1 X G λ_ F _ _=>Qw (n:=0) F;have H2:=hs a2 X G λ_ F _ _=>Od (n:=1) F (Bk H1);have H3:=hs a3 X G λ_ F _ _=>LP (n:=1) F (Bk H1) i XQ;have H4:=hs a4 X G λ_ F _ _=>Hw (n:=2) F (Bk H3) (Bk H1) Vv Ce i N H;have H5:=hs a5 X G λ_ F _ _=>Q0 (n:=0) F L JU i;have H6:=hs a6 X G λ_ F _ _=>NJ (n:=1) F (Bk H1);have P:=hs a7 X G λ_ F _ _=>Qx (n:=0) F L JU;have H8:=hs a8 X G λ_ F _ _=>Oe (n:=1) F (Bk H1) (Bk P);have H9:=hs a9 X G λ_ F _ _=>Qz (n:=1) F (Bk H1) (Bk P);have vD:=hs a10 X G λ_ F _ _=>TK (n:=1) F (Bk P);have xV:=hs a11 X G λ_ F _ _=>Qy (n:=2) F (Bk H1) (Bk H8) (Bk H9) (Bk vD) i m;have xW:=hs a12 X G λ_ F _ _=>TL (n:=3) F (Bk H6) (Bk H1) (Bk P) (Bk H8) (Bk xV) (Bk vD) i H m;have xX:=hs a13 X G λ_ F _ _=>YT (n:=0) F cO m O;have vE:=hs a14 X G λ_ F _ _=>U9 (n:=1) F (Bk xX);have xY:=hs a15 X G λ_ F _ _=>TN (n:=0) F;have vF:=hs a16 X G λ_ F _ _=>YO (n:=0) F;have vG:=hs a17 X G λ_ F _ _=>VF (n:=0) F;have xZ:=hs a18 X G λ_ F _ _=>Og (n:=1) F (Bk vF) (Bk vG);have vH:=hs a19 X G λ_ F _ _=>TX (n:=2) F (Bk xZ);have xb:=hs a20 X G λ_ F _ _=>TM (n:=3) F (Bk vE) (Bk xY) (Bk vH);have Q:=hs a21 X G λ_ F _ _=>YQ (n:=0) F;have J:=hs a22 X G λ_ F _ _=>dz (n:=1) F (Bk Q) L;have vI:=hs a23 X G λ_ F _ _=>aQ (n:=2) F (Bk J);have vJ:=hs a24 X G λ_ F _ _=>TR (n:=0) F;have R:=hs a25 X G λ_ F _ _=>d3 (n:=2) F (Bk J);have xc:=hs a26 X G λ_ F _ _=>Q4 (n:=3) F (Bk vI) (Bk vJ) (Bk R);have xf:=hs a27 X G λ_ F _ _=>Q5 (n:=1) F (Bk vJ) r g d;have vK:=hs a28 X G λ_ F _ _=>VA (n:=4) F (Bk xc) (Bk xf);have xg:=hs a29 X G λ_ F _ _=>YS (n:=0) F m;have xh:=hs a30 X G λ_ F _ _=>J1 (n:=1) F (Bk Q);have xi:=hs a31 X G λ_ F _ _=>TU (n:=2) F (Bk xh) m;have vL:=hs a32 X G λ_ F _ _=>aS (n:=0) F;have xj:=hs a33 X G λ_ F _ _=>LQ (n:=1) F (Bk Q) (Bk vL) Ny m;have vM:=hs a34 X G λ_ F _ _=>dw (n:=2) F (Bk J);have xk:=hs a35 X G λ_ F _ _=>TV (n:=3) F (Bk J) (Bk vH) (Bk vG);have xl:=hs a36 X G λ_ F _ _=>TY (n:=4) F (Bk vM) (Bk R) (Bk xk) (Bk vL);have xm:=hs a37 X G λ_ F _ _=>Hx (n:=3) F (Bk vF) (Bk R) d;have xn:= @mZ l.prog w K h Y Z _ _ _ _ _ _ _ a38 X G (λ_ F=>F.binds3 λ_ _ _ _ _ _ _ _ _=>⟨_,rfl,λ_=>rfl⟩) λ_ F=>VG (n:=2) F (Bk vE) i cQ;have xo:=hs a39 X G λ_ F _ _=>VC (n:=5) F (Bk xb) (Bk vK) (Bk xg) (Bk xi) (Bk xj) (Bk xl) (Bk xm) (xn.mono (by decide)) H b;have xp:=hs a40 X G λ_ F _ _=>aR (n:=2) F (Bk J);have xq:=hs a41 X G λ_ F _ _=>Jz (n:=3) F (Bk vI) (Bk vM) (Bk xp) O;have xr:=hs a42 X G λ_ F _ _=>Q2 (n:=4) F (Bk xq) i H;have xt:=hs a43 X G λ_ F _ _=>VE (n:=0) F;have xu:=hs a44 X G λ_ F _ _=>TW (n:=3) F (Bk R) (Bk xt) H;have vN:=hs a45 X G λ_ F _ _=>Q6 (n:=5) F (Bk xr) (Bk xu) Ce;have xv:=hs a46 X G λ_ F _ _=>VD (n:=6) F (Bk xo) (Bk vN) m;have qt:=hs a47 X G λ_ F _ _=>Of (n:=0) F M i N m;have qu:=hs a48 X G λ_ F _ _=>TQ (n:=0) F Vu JU M;have xw:=hs a49 X G λ_ F _ _=>VB (n:=1) F (Bk Q) (Bk qu) L M i N m;have x6:=hs a50 X G λ_ F _ _=>Q1 (n:=2) F (Bk qt) (Bk xw) (Bk qu);have x9:=hs a51 X G λ_ F _ _=>NK (n:=3) F (Bk x6) XO M i N H m;have yA:=hs a52 X G λ_ F _ _=>YR (n:=4) F (Bk x9) (Bk qt) (Bk qu);have yB:=hs a53 X G λ_ F _ _=>NM (n:=0) F O;have yC:=hs a54 X G λ_ F _ _=>Q3 (n:=5) F (Bk vK) (Bk yB) cN b;have yD:=hs a55 X G λ_ F _ _=>NL (n:=6) F (Bk qt) (Bk yA) (Bk yC) (Bk vN) i O;exact jR (n:=7) FL (Bk H2) (Bk H4) (Bk H5) (Bk xW) (Bk xv) (Bk yD) i cP H
def walk {l:PySem.W.OpenLaw}{q:kd}{loose:kn Str}{XP:(Str->ki km)->gn->Prop}{YP:kc->gn->Prop}{d:DefRec}{K:Params->AAD}(c:l.most=some 63)(e:d.params.defaults= [])(g:∀(w:kc) (h:gn),YP w h->(K w.params).In h)(F:∀(w:kc) (Z:Str->ki km) (b:kj) (h:gn),(K w.params).In h->h.Ns mainGlobals Z->Z d.name=some (.ref b)-> ∃U:FuncData,(∀(s:kl) (u:km),BindsTo s U ⟨[u], []⟩ [("_law_script",u)])/\∀Y:gn,(K w.params).In Y->Y.Ns mainGlobals Z->Dh l.prog w (K w.params) Z Y MR 8 b U ["_law_script"] (Co (K w.params) 1 EL)):PySem.W.WalkO q loose XP YP l.row.toRowW d [] (λf vs=>PySem.call f vs):=
 L2.walk_of (n:=63) (k:=8) (x:="_law_script") (CX:=λ_=>MR) (sp:=λw=>Co (K w.params) 1 EL) c (by decide) e ⟨rfl,by decide,by decide,rfl⟩ g F (λ_ _ a ns hl _ i=>PL.law_sp i (aF ns hl)) λ_ _ _ _ _ z=>z
def atKD {K:AAD}{x:String}{s:Stmt}{d:Int}(t:Nat)(b n:Nat)(m:String)(i c f:Nat)(a:PySem.W.nsIn K mainGlobals (Str.ofString x)=some (some (.ref f)):=by kernel_rfl)(l:K.lookup f=some (vc t x s m i c):=by kernel_rfl)(e:PySem.W.codeIn K (.ref c) (Str.ofString x)=true:=by kernel_rfl)(k:PySem.W.keepIn K (.ref f)=true:=by kernel_rfl)(g:K.lookup t=some ⟨.type "tuple",none, .seq #[.int d b] n, #[]⟩:=by kernel_rfl):ql K (Str.ofString x) s f d:=⟨a,_,⟨⟨_,_,_,_,_,_,_,_,_,t,rfl,l,e,_,b,n,g,rfl⟩,k⟩⟩
def atK {K:AAD}{x:String}{s:Stmt}(m:String)(i c f:Nat)(a:PySem.W.nsIn K mainGlobals (Str.ofString x)=some (some (.ref f)):=by kernel_rfl)(l:K.lookup f=some (fO x s m i c):=by kernel_rfl)(d:PySem.W.codeIn K (.ref c) (Str.ofString x)=true:=by kernel_rfl)(k:PySem.W.keepIn K (.ref f)=true:=by kernel_rfl):DX K (Str.ofString x) s f:=vV a l d k
end K37
open PySem PySem.W PyProof.Rows
def K37.lg:LeftO K37.pwA K37.q [] (λs=>xlAt K37.q [] s&&recOk [] s) (λs=>K37.KA.map s.heap.get?) (λw=>(K37.KK w.params).map λp=>some p.2) 6000:=λw=>PL.map_pair (PL.map5 (K37.l0 w) (K37.l1 w) (K37.l2 w) (K37.l3 w) (K37.l4 w)) (K37.l5 w)
theorem PySem.Challenge.cw_skylanes_k37_papers_of_any_shape_holds : PySem.Challenge.rw_skylanes_k37_papers_of_any_shape.Holds := by
 refine ⟨K37.w1, ?_⟩
 refine PySem.W.holds_open (q:=K37.q) (loose:= []) (Xt:=λs=>xlAt K37.q [] s&&recOk [] s) (XP:=XL K37.q []) (YP:=InK K37.KK) (N:=6000) K37.lg (InK.of (as:=K37.KA) λ_=>by kernel_rfl) InK.keeps (λs e=>xl_of s (Bool.and_eq_true_iff.mp e).1) XL.keeps (by rfl) (by rfl) (by rfl) (λs e=>recFacts_of (Bool.and_eq_true_iff.mp e).2) (by rfl) K37.w0 (by decide +kernel) ⟨rfl,rfl,rfl,rfl,rfl,by decide +kernel⟩ ?hw ?hc
 (case hw=>w_witness2)
 case hc=>
 refine K37.walk (l:=PySem.Challenge.rw_skylanes_k37_papers_of_any_shape) (K:=K37.KK) rfl rfl (λw h Y=>Y) ?F
 intro w mg fa h KX G nB
 refine' K37.all_mk KX G nB (K37.atK K37.m0 628 315 316) (K37.atK K37.m0 628 392 393) (K37.atK K37.m0 628 402 403) (K37.atK K37.m0 628 407 408) (K37.atK K37.m0 628 308 309) (K37.atK K37.m0 628 385 386) (K37.atK K37.m0 628 322 323) (K37.atK K37.m0 628 364 365) (K37.atK K37.m0 628 371 372) (K37.atK K37.m0 628 336 337) (K37.atK K37.m0 628 378 379) (K37.atK K37.m0 628 397 398) (K37.atK K37.m1 478 210 211) (K37.atK K37.m1 478 217 218) (K37.atK K37.m1 478 235 236) (K37.atK K37.m2 187 76 77) (K37.atK K37.m1 478 242 243) (K37.atK K37.m1 478 249 250) (K37.atK K37.m1 478 256 257) (K37.atK K37.m1 478 263 264) (K37.atK K37.m2 187 27 28) (K37.atK K37.m2 187 34 35) (K37.atK K37.m2 187 55 56) (K37.atK K37.m3 289 108 109) (K37.atK K37.m2 187 48 49) (K37.atK K37.m3 289 148 149) (K37.atK K37.m3 289 141 142) (K37.atK K37.m3 289 155 156) (K37.atK K37.m1 478 228 229) (K37.atK K37.m2 187 90 91) (K37.atK K37.m1 478 205 206) (K37.atK K37.m2 187 41 42) (K37.atK K37.m4 588 289 290) (K37.atK K37.m2 187 69 70) (K37.atK K37.m1 478 270 271) (K37.atK K37.m1 478 277 278) (K37.atK K37.m4 588 284 285) (K37.atKD 219 501 0 K37.m1 478 223 224) (K37.atK K37.m4 588 294 295) (K37.atK K37.m2 187 62 63) (K37.atK K37.m3 289 115 116) (K37.atK K37.m3 289 120 121) (K37.atK K37.m5 279 97 98) (K37.atK K37.m3 289 127 128) (K37.atK K37.m3 289 134 135) (K37.atK K37.m4 588 301 302) (K37.atK K37.m6 408 162 163) (K37.atK K37.m2 187 20 21) (K37.atK K37.m2 187 83 84) (K37.atK K37.m6 408 169 170) (K37.atK K37.m6 408 174 175) (K37.atK K37.m6 408 193 194) (K37.atK K37.m6 408 181 182) (K37.atK K37.m6 408 186 187) (K37.atK K37.m6 408 200 201) (K37.atK K37.m0 628 414 415) (by kernel_rfl) (by kernel_rfl) (by kernel_rfl) (by kernel_rfl) (by kernel_rfl) (by kernel_rfl) (by kernel_rfl) (by kernel_rfl) (by kernel_rfl) (by kernel_rfl) (by kernel_rfl) (by kernel_rfl) (by kernel_rfl) (by kernel_rfl) (by kernel_rfl) (by kernel_rfl) (by kernel_rfl) (by kernel_rfl) ?a_STRICT ?a_ONCE ?a_NOUGHT ?a_BACK ?h_qBACK_1 ?h_qNOUGHT_4 ?h_qONCE_7 ?h_qSTRICT_10 (qBACK_1:=101) (qBACK_1n:=0) (qBACK_1d:=none) (qBACK_1s:= #[]) (qBACK_2:=298) (qBACK_3:=299) (qNOUGHT_4:=99) (qNOUGHT_4n:=0) (qNOUGHT_4d:=none) (qNOUGHT_4s:= #[]) (qNOUGHT_5:=291) (qNOUGHT_6:=292) (qONCE_7:=100) (qONCE_7n:=0) (qONCE_7d:=none) (qONCE_7s:= #[]) (qONCE_8:=294) (qONCE_9:=295) (qSTRICT_10:=102) (qSTRICT_10n:=0) (qSTRICT_10d:=none) (qSTRICT_10s:= #[]) (qSTRICT_11:=301) (qSTRICT_12:=302) (qSTRICT_13:=303) (qSTRICT_14:=304) (qSTRICT_15:=305) (qSTRICT_16:=306) (qSTRICT_17:=307) (qSTRICT_18:=308) (qSTRICT_19:=309) (qSTRICT_20:=310) (qSTRICT_21:=311) (qSTRICT_22:=312)
 (case a_STRICT=>kernel_rfl)
 (case a_ONCE=>kernel_rfl)
 (case a_NOUGHT=>kernel_rfl)
 (case a_BACK=>kernel_rfl)
 (case h_qBACK_1=>kernel_rfl)
 (case h_qNOUGHT_4=>kernel_rfl)
 (case h_qONCE_7=>kernel_rfl)
 (case h_qSTRICT_10=>kernel_rfl)
end
