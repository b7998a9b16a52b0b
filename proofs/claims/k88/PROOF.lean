import PyProof.Rows.All
import KE.KItem
import KE.KDictList
import KE.IntBitsLaws
import PySem.Challenge.RW_skylanes_k88_whole_wider_bounds
set_option Elab.async false
set_option linter.all false
set_option maxRecDepth 100000
set_option maxHeartbeats 0
abbrev zy:=@List
abbrev zx:=PySem.Value
abbrev zw:=PySem.Shared
abbrev zu:=PySem.Addr
abbrev zt:=@Option
abbrev zr:=PySem.Expr
abbrev kn:=Bool
abbrev km:=PySem.Program
abbrev kj:=PySem.World
abbrev ki:=PySem.Heap
abbrev kf:=PySem.Around
abbrev AAA:=@PySem.wpAny_bind
abbrev AAB:=PySem.W.Frag
abbrev AAC:=@if_neg
abbrev AAD:=@PySem.wpAny_pure
abbrev AAE:=@if_pos
abbrev AAF:=@List.mem_cons
abbrev AAG:=@PySem.Heap.lt_size
abbrev AAH:=@PySem.Heap.get?_push_of_some
abbrev AAI:=@List.mem_map
abbrev AAJ:=@Nat.le_refl
abbrev AAK:=@List.length_map
abbrev AAL:=@List.map_cons
abbrev AAM:=@Nat.ne_of_lt
abbrev AAN:=@List.pairwise_cons
abbrev AAO:=@decide_eq_true
abbrev AAP:=@PySem.Heap.get?_push_size
abbrev AAQ:=@List.mem_append
abbrev AAR:=@List.mem_filter
abbrev AAS:=@Rat.intCast_mul
abbrev AAT:=@Bool.false_ne_true
abbrev AAU:=@Rat.le_refl
abbrev AAV:=@Nat.lt_of_lt_of_le
abbrev AAW:=@List.getElem?_eq_getElem
abbrev AAX:=@Option.some.inj
abbrev AAY:=@Nat.le_trans
abbrev AAZ:=@List.size_toArray
abbrev AAa:=@decide_eq_false
abbrev AAb:=@List.getElem?_set_ne
abbrev AAc:=@List.mem_singleton
abbrev AAd:=@PySem.PassesOwn.never
abbrev AAe:=@PySem.wpAny_holding
abbrev AAf:=@Nat.lt_of_le_of_lt
abbrev AAg:=@List.getElem?_map
abbrev AAh:=@List.sum_cons
abbrev AAi:=@List.length_cons
abbrev AAj:=@List.not_mem_nil
abbrev AAk:=@or_false
abbrev AAl:=@if_false
abbrev AAm:=@List.mem_append_right
abbrev AAn:=@PySem.W.mg_none_of
abbrev AAo:=@PySem.wpAny_field
abbrev AAp:=@Rat.div_def
abbrev AAq:=@PyProof.Rows.boot_tuple
abbrev AAr:=@Int.natAbs_mul
abbrev AAs:=@of_decide_eq_true
abbrev AAt:=@Rat.intCast_natCast
abbrev AAu:=@Int.natAbs_natCast
abbrev AAv:=@Bool.false_eq_true
abbrev AAw:=@Nat.ne_of_gt
abbrev AAx:=@List.length_append
abbrev AAy:=@Rat.num_divInt_den
abbrev AAz:=@List.getElem?_eq_some_iff
abbrev AA0:=@Bool.and_eq_true
abbrev AA1:=@Nat.mul_pos
abbrev AA2:=@Nat.mul_le_mul
abbrev AA3:=@Nat.mul_assoc
abbrev AA4:=@if_true
abbrev AA5:=@List.mem_range
abbrev AA6:=@Ne.symm
abbrev AA7:=@List.map_map
abbrev AA8:=@List.nil_append
abbrev AA9:=@PySem.isSubtype_type
abbrev ABA:=@PySem.boot_len
abbrev ABB:=@List.mem_flatMap
abbrev ABC:=@PySem.wpAny_call_entry
abbrev ABD:=@PySem.wpAny_seqItems
abbrev ABE:=@List.mem_cons_of_mem
abbrev ABF:=@PySem.wpAny_newObj_type
abbrev ABG:=@Nat.zero_le
abbrev ABH:=@List.getElem?_append_right
abbrev ABI:=@Int.mul_pos
abbrev ABJ:=@Bool.not_true
abbrev ABK:=@List.mem_cons_self
abbrev ABL:=@PySem.wpAny_mono
abbrev ABM:=@PySem.Heap.size_push
abbrev ABN:=@List.getElem?_append_left
abbrev ABO:=@Nat.pow_add
abbrev ABP:=@Nat.le_of_ble_eq_true
abbrev ABQ:=@Nat.succ_mul
abbrev ABR:=@PySem.wpAny_setState_of
abbrev ABS:=@List.foldl_cons
abbrev ABT:=@Nat.mul_le_mul_left
abbrev ABU:=@Rat.divInt_eq_div
abbrev ABV:=@Nat.mul_comm
abbrev ABW:=@Nat.lt_irrefl
abbrev ABX:=@PySem.wpAny_standAt
abbrev ABY:=@Bool.eq_iff_iff
abbrev ABZ:=@List.getElem?_replicate
abbrev ABa:=@List.length_replicate
abbrev ABb:=@Int.fdiv_eq_ediv_of_nonneg
abbrev ABc:=@of_decide_eq_false
abbrev ABd:=@List.length_filter_le
abbrev ABe:=@List.any_cons
abbrev ABf:=@Rat.mul_eq_zero
abbrev ABg:=@Rat.intCast_zero
abbrev ABh:=@PySem.W.mg_of
abbrev ABi:=@PySem.wpAny_specialOf
abbrev ABj:=@PySem.wpAny_rule
abbrev ABk:=@PySem.wpAny_truthy_bool
abbrev ABl:=@PySem.wpAny_passesOwn
abbrev ABm:=@Int.mul_one
abbrev ABn:=@List.nodup_cons
abbrev ABo:=@List.mem_of_getElem?
abbrev ABp:=@Int.toNat_natCast
abbrev ABq:=@Prod.ext
abbrev ABr:=@List.map_nil
abbrev ABs:=@List.all_eq_true
abbrev ABt:=@Nat.div_le_self
abbrev ABu:=@Int.natAbs_neg
abbrev ABv:=@Nat.gcd_dvd_right
abbrev ABw:=@Int.natCast_ediv
abbrev ABx:=@Nat.le_of_dvd
abbrev ABy:=@decide_eq_decide
abbrev ABz:=@List.map_append
abbrev AB0:=@List.filter_cons
abbrev AB1:=@List.find?_cons
abbrev AB2:=@Rat.intCast_lt_intCast
abbrev AB3:=@Rat.le_of_lt
abbrev AB4:=@Bool.true_and
abbrev AB5:=@PySem.F.slot_list_append
abbrev AB6:=@PySem.F.type_list_append
abbrev AB7:=@Array.length_toList
abbrev AB8:=@Nat.le_of_lt
abbrev AB9:=@List.getElem?_set_self
abbrev ACA:=@PySem.codeAny_mono
abbrev ACB:=@PySem.wpAny_callSpecial?_slot
abbrev ACC:=@PyProof.Rows.slot_tuple_getitem
abbrev ACD:=@List.forIn_cons
abbrev ACE:=@List.getD_eq_getElem?_getD
abbrev ACF:=@List.getElem_mem
abbrev ACG:=@PySem.wpAny_of_eq
abbrev ACH:=@PySem.wpAny_setField_rec
abbrev ACI:=@List.take_of_length_le
abbrev ACJ:=@List.map_congr_left
abbrev ACK:=@Nat.gcd_comm
abbrev ACL:=@Nat.gcd_pos_of_pos_right
abbrev ACN:=@List.getLast?_cons_cons
abbrev ACO:=@List.cons_append
abbrev ACP:=@Rat.mul_pos
abbrev ACQ:=@Rat.mul_pos_iff_of_pos_left
abbrev ACR:=@Nat.mul_le_mul_right
abbrev ACS:=@PySem.wpAny_isInstance
abbrev ACT:=@PyProof.Rows.callWith_type1
abbrev ACU:=@PySem.sizeLine_eq
abbrev ACV:=@PySem.Calls.spliced_cons
abbrev ACW:=@PySem.wpAny_call
abbrev ACX:=@PySem.mem_of_lookup
abbrev ACY:=@Nat.lt_trans
abbrev ACZ:=@List.any_eq_true
abbrev ACa:=@PySem.wpAny_pyIter_list
abbrev ACb:=@Nat.pow_le_pow_right
abbrev ACc:=@Option.map_eq_some_iff
abbrev ACd:=@Nat.le_add_right
abbrev ACe:=@List.foldl_append
abbrev ACf:=@PySem.F.called_set
abbrev ACg:=@List.mem_of_getLast?
abbrev ACh:=@List.length_flatMap
abbrev ACi:=@Nat.mul_lt_mul''
abbrev ACj:=@Rat.intCast_add
abbrev ACk:=@Int.emod_nonneg
abbrev ACl:=@Int.emod_lt_of_pos
abbrev ACm:=@PyProof.Rows.boot_isinstance
abbrev ACn:=@PySem.F.slot_tuple_hash
abbrev ACo:=@Array.forIn_toList
abbrev ACp:=@PySem.wpAny_forIn_list
abbrev ACq:=@PySem.F.slot_tuple_eq
abbrev ACr:=@List.getElem?_eq_none_iff
abbrev ACs:=@PySem.wpAny_execs_nil
abbrev ACt:=@PySem.wpAny_Call_Name_kw
abbrev ACu:=@List.of_mem_zip
abbrev ACv:=@PySem.Heap.get?_update_self
abbrev ACw:=@PySem.Calls.callWith_builtin
abbrev ACx:=@List.reverse_cons
abbrev ACy:=@PySem.F.slot_tuple_iterator_next
abbrev ACz:=@List.forIn_nil
abbrev AC0:=@PySem.wpAny_onRaise
abbrev AC1:=@PySem.F.slot_zip_next
abbrev AC2:=@List.getElem?_set
abbrev AC3:=@Rat.num_divInt
abbrev AC4:=@Int.natCast_mul
abbrev AC5:=@Rat.divInt_eq_divInt_iff
abbrev AC6:=@Int.mul_comm
abbrev AC7:=@Int.mul_assoc
abbrev AC8:=@List.getElem?_drop
abbrev AC9:=@List.length_nil
abbrev ADA:=@List.set_cons_succ
abbrev ADB:=@PySem.call_meetsIn
abbrev ADC:=@PySem.Heap.get?_update_ne
abbrev ADD:=@PySem.wpAny_askSetting
abbrev ADE:=@Option.getD_some
abbrev ADF:=@decide_eq_true_iff
abbrev ADG:=@Int.le_refl
abbrev ADH:=@Rat.intCast_inj
abbrev ADI:=@Rat.div_mul_cancel
abbrev ADJ:=@Nat.two_pow_pos
abbrev ADK:=@PySem.wpAny_tupleItemsOf
abbrev ADL:=@Nat.add_assoc
abbrev ADM:=@PySem.isSubtype_tuple_tuple
abbrev ADN:=@beq_eq_false_iff_ne
abbrev ADO:=@List.filterMap_cons
abbrev ADP:=@PySem.wpAny_assign_Name
abbrev ADQ:=@Bool.false_and
abbrev ADR:=@Int.fmod_eq_emod_of_nonneg
abbrev ADS:=@PySem.Calls.spliced_nil
abbrev ADT:=@List.append_nil
abbrev ADU:=@List.length_take
abbrev ADV:=@PySem.noFill_tuple_add
abbrev ADW:=@PySem.F.slot_tuple_add
abbrev ADX:=@PySem.F.entry_tuple_add
abbrev ADY:=@PySem.F.args_tuple_add_2
abbrev ADZ:=@List.length_singleton
abbrev ADa:=@PySem.wpAny_comprehension_free
abbrev ADb:=@PySem.wpAny_updateSeq_pair
abbrev ADc:=@List.drop_eq_getElem_cons
abbrev ADd:=@Nat.pow_succ
abbrev ADe:=@Rat.den_divInt
abbrev ADf:=@Rat.divInt_add_divInt
abbrev ADg:=@Rat.divInt_mul_divInt
abbrev ADh:=@Nat.gcd_dvd_left
abbrev ADi:=@Int.sign_eq_one_of_pos
abbrev ADj:=@List.pairwise_append
abbrev ADk:=@List.replicate_succ
abbrev ADl:=@Bool.true_or
abbrev ADm:=@Bool.false_or
abbrev ADn:=@PySem.tupleKind_room_in1
abbrev ADo:=@PySem.F.slot_dict_get
abbrev ADp:=@PySem.wpAny_Call_method
abbrev ADq:=@PySem.F.plainAttrs_dict
abbrev ADr:=@Nat.zero_add
abbrev ADs:=@PySem.codeAny_builtin
abbrev ADt:=@PySem.F.slot_set_init
abbrev ADu:=@List.getLast?_eq_some_getLast
abbrev ADv:=@Bool.or_eq_true
abbrev ADw:=@List.length_eq_zero_iff
abbrev ADx:=@List.dropLast_concat_getLast
abbrev ADy:=@Nat.dvd_trans
abbrev ADz:=@List.set_cons_zero
abbrev AD0:=@Int.lt_trichotomy
abbrev AD1:=@decide_eq_false_iff_not
abbrev AD2:=@Rat.intCast_sub
abbrev AD3:=@Rat.mul_nonneg
abbrev AD4:=@List.sum_nil
abbrev AD5:=@Rat.natCast_mul
abbrev AD6:=@PySem.W.cellsFrom_some
abbrev AD7:=@PyProof.Rows.callWith_builtin1
abbrev AD8:=@PyProof.noPylong_of_log2
abbrev AD9:=@PySem.F.entry_tuple_iterator_next
abbrev AEA:=@PySem.F.args_tuple_iterator_next_1
abbrev AEB:=@List.drop_eq_nil_of_le
abbrev AEC:=@Int.gcd_eq_natAbs_gcd_natAbs
abbrev AED:=@Int.fdiv_eq_ediv_of_dvd
abbrev AEE:=@Int.sign_eq_neg_one_of_neg
abbrev AEF:=@List.pairwise_singleton
abbrev AEG:=@List.pairwise_iff_getElem
abbrev AEH:=@PySem.F.entry_dict_get
abbrev AEI:=@PySem.F.args_dict_get_3
abbrev AEJ:=@PySem.F.slot_dict_itemiterator_iter
abbrev AEK:=@PySem.F.slot_dict_items
abbrev AEL:=@PyProof.Rows.boot_set
abbrev AEM:=@PySem.F.plain_list_iadd
abbrev AEN:=@PySem.F.slot_dict_values
abbrev AEO:=@List.getElem?_zip_eq_some
abbrev AEP:=@Rat.mul_le_mul_of_nonneg_right
section
namespace L2
open PySem
def Dy (s:Stmt):Arguments:=match s with
 | .FunctionDef _ a _ _ _ _ _ _ _ _=>a
 | _=>{posonlyargs:= [],args:= [],vararg:=none,kwonlyargs:= [],kw_defaults:= [],kwarg:=none,defaults:= [] }
def B8 (s:Stmt):zy Stmt:=match s with
 | .FunctionDef _ _ b _ _ _ _ _ _ _=>b
 | _=> []
def As (s:Stmt):Scope:=match s with
 | .FunctionDef _ _ _ _ _ _ sc _ _ _=>sc
 | _=>{kind:= .function,names:= [],isGenerator:=false,isCoroutine:=false}
end L2
namespace K88
open PySem L2 PyProof.Rows
abbrev pwA:=PySem.Challenge.pw_skylanes_k88_whole_wider_bounds
def top (i:Nat):Stmt:=K88.pwA.main.body.getD i (.Pass ⟨0,0,0,0⟩)
abbrev E1:Stmt:=top 63
abbrev Fw:Stmt:=top 74
abbrev Gk:Stmt:=top 64
abbrev IK:Stmt:=top 67
abbrev Ei:Stmt:=top 68
abbrev IL:Stmt:=top 66
abbrev N7:Stmt:=top 9
abbrev N8:Stmt:=top 2
abbrev WA:Stmt:=top 3
abbrev SD:Stmt:=top 6
abbrev V9:Stmt:=top 8
abbrev WB:Stmt:=top 5
abbrev SH:Stmt:=top 7
abbrev Ej:Stmt:=top 28
abbrev KS:Stmt:=top 29
abbrev Gq:Stmt:=top 30
abbrev DY:Stmt:=top 31
abbrev KL:Stmt:=top 11
abbrev OA:Stmt:=top 10
abbrev KP:Stmt:=top 32
abbrev Eh:Stmt:=top 77
abbrev E2:Stmt:=top 62
abbrev FB:Stmt:=top 73
abbrev Fx:Stmt:=top 70
abbrev Go:Stmt:=top 71
abbrev Gm:Stmt:=top 72
abbrev IM:Stmt:=top 75
abbrev Fy:Stmt:=top 76
abbrev OC:Stmt:=top 16
abbrev KI:Stmt:=top 17
abbrev IP:Stmt:=top 20
abbrev KU:Stmt:=top 21
abbrev F0:Stmt:=top 22
abbrev IV:Stmt:=top 23
abbrev IN:Stmt:=top 24
abbrev IR:Stmt:=top 40
abbrev Gv:Stmt:=top 46
abbrev Gw:Stmt:=top 45
abbrev KJ:Stmt:=top 47
abbrev OB:Stmt:=top 19
abbrev EH:Stmt:=top 13
abbrev IS:Stmt:=top 15
abbrev SJ:Stmt:=top 4
abbrev Ek:Stmt:=top 50
abbrev IT:Stmt:=top 25
abbrev IW:Stmt:=top 26
abbrev DZ:Stmt:=top 49
abbrev HJ:Stmt:=top 18
abbrev KN:Stmt:=top 51
abbrev EG:Stmt:=top 41
abbrev Gs:Stmt:=top 42
abbrev KQ:Stmt:=top 34
abbrev IU:Stmt:=top 43
abbrev Gx:Stmt:=top 44
abbrev KO:Stmt:=top 52
abbrev Fz:Stmt:=top 54
abbrev IQ:Stmt:=top 1
abbrev KM:Stmt:=top 12
abbrev Gr:Stmt:=top 55
abbrev FC:Stmt:=top 56
abbrev N9:Stmt:=top 59
abbrev FE:Stmt:=top 57
abbrev Gu:Stmt:=top 58
abbrev FD:Stmt:=top 60
abbrev QQ:Stmt:=top 78
def m0:String:="law_skylanes_k88_whole_wider_bounds"
def m1:String:="skylanes.fractions"
def m2:String:="skylanes.plans"
def m3:String:="skylanes.planes"
def m4:String:="skylanes.wedges"
def m5:String:="skylanes.meets"
def m6:String:="skylanes.nearness"
def m7:String:="skylanes.apart"
def eN (P:Params)(x:String)(i:Nat)(v:zx):DictEntry:=⟨PyData.keyHash P (Str.ofString x), .str (Str.ofString x) i,v⟩
abbrev eR (P:Params)(x:String)(i f:Nat):=eN P x i (.ref f)
def fO (x:String)(s:Stmt)(m:String)(i c:Nat):Obj:=⟨.type "function",none, .func (PySem.W.fnOf (Str.ofString x) (Str.ofString x) (Dy s) (B8 s) (As s) .none .none .none (.str (Str.ofString m) i) none (.ref c) .none), #[]⟩
def u9 (t:Nat)(x:String)(s:Stmt)(m:String)(i c:Nat):Obj:=⟨.type "function",none, .func (PySem.W.fnOf (Str.ofString x) (Str.ofString x) (Dy s) (B8 s) (As s) (.ref t) .none .none (.str (Str.ofString m) i) none (.ref c) .none), #[]⟩
def rV:Nat->zx
 | 0=> .none
 | n+1=> .ref (n+1)
def fc (x:String)(s:Stmt)(m:String)(a c f i l n g b d e h j u:Nat)(r:AAB):AAB:=
 (c,⟨.type "code",none, .fields #[.str (Str.ofString x) i, .str (Str.ofString x) (i+1), .str (Str.ofString "/claim/cut.py") (i+2), .int l 0, .int n 0, .int 0 0, .int 0 0, .int g 0,rV b, .bool true, .int 181 0,rV d, .none,rV e,rV h,rV j, .int u 0, .int l 0, .str (Str.ofString "/claim/cut.py") (u+1)], #[]⟩) ::
 (f,fO x s m a c)::r
def xn (t:Nat)(x:String)(s:Stmt)(m:String)(a c f i l n g b d e h j u:Nat)(r:AAB):AAB:=
 (c,⟨.type "code",none, .fields #[.str (Str.ofString x) i, .str (Str.ofString x) (i+1), .str (Str.ofString "/claim/cut.py") (i+2), .int l 0, .int n 0, .int 0 0, .int 0 0, .int g 0,rV b, .bool true, .int 181 0,rV d, .none,rV e,rV h,rV j, .int u 0, .int l 0, .str (Str.ofString "/claim/cut.py") (u+1)], #[]⟩) ::
 (f,u9 t x s m a c)::r
def tN (P:Params):Obj:=⟨.type "dict",none, .dict #[eN P "__name__" 165 (.str (Str.ofString "law_skylanes_k88_whole_wider_bounds") 687),eN P "__doc__" 166 .none,eN P "__package__" 167 .none,eN P "__loader__" 168 (.builtin "__main__.__loader__#opaque"),eN P "__spec__" 169 .none,eR P "__annotations__" 170 6,eR P "__builtins__" 171 4,eN P "__file__" 173 (.str (Str.ofString "/claim/cut.py") 172),eN P "__cached__" 174 .none,eR P "is_whole" 195 21,eR P "common" 203 28,eR P "part" 212 35,eR P "whole" 219 42,eR P "plus" 227 49,eR P "minus" 235 56,eR P "times" 243 63,eR P "over" 251 70,eR P "before" 259 77,eR P "lesser" 267 84,eR P "greater" 275 91,eR P "is_part" 284 98,eR P "shared_bottom" 294 105,eR P "plane_of" 302 110,eR P "summed" 308 115,eR P "crossed" 317 122,eR P "without" 324 128,eR P "placed" 330 133,eR P "is_never" 338 140,eR P "turn_of" 348 147,eR P "is_tighter" 359 154,eR P "tightest" 370 161,eR P "fault_in" 381 168,eR P "range_in" 393 175,eR P "value_in" 404 182,eR P "spot_between" 412 187,eR P "spot_at" 421 194,eR P "corner_at" 429 201,eR P "corners_between" 435 206,eR P "part_of" 447 213,eR P "size_of" 457 220,eR P "NOUGHT" 462 221,eR P "ONCE" 465 222,eR P "BACK" 469 223,eR P "STRICT" 482 224,eR P "negative" 489 231,eR P "piece_between" 502 238,eR P "pieces_of" 508 243,eR P "sizes_of" 520 250,eR P "wedges_of" 537 257,eR P "time_form" 550 264,eR P "side_form" 568 271,eR P "form_of" 576 278,eR P "weights_by_time" 589 285,eR P "told_weights" 595 290,eR P "meet_in" 601 295,eR P "meet_of" 616 302,eR P "is_list_of" 626 309,eR P "is_weight" 635 316,eR P "are_weights" 641 321,eR P "weighed_sum" 656 328,eR P "shows_row" 662 333,eR P "is_row" 671 340,eR P "shows_apart" 686 347,eR P "_law_tape" 698 354,eR P "_law_draw" 708 361,eR P "_law_part" 719 368,eR P "_law_less" 727 375,eR P "_law_sum" 735 382,eR P "_law_off" 743 389,eR P "_law_product" 751 396,eR P "_law_ratio" 759 403,eR P "_law_place" 767 410,eR P "_law_span" 775 417,eR P "_law_plan" 787 424,eR P "_law_bounds" 795 431,eR P "_law_apart" 803 438,eR P "_law_two" 809 443,eR P "_law_wider" 815 448,eR P "_law_part_by" 827 455,eR P "law" 833 460] 80, #[]⟩
def KK (P:Params):AAB:=(3,tN P)::(fc "_law_draw" E1 m0 687 360 361 699 260 2 3 355 356 357 358 359 706 <| fc "_law_apart" Fw m0 687 437 438 796 317 1 3 432 433 434 435 436 801 <| fc "_law_part" Gk m0 687 367 368 709 268 2 3 362 363 364 365 366 717 <| fc "_law_off" IK m0 687 388 389 736 278 2 3 383 384 385 386 387 741 <| fc "_law_product" Ei m0 687 395 396 744 280 2 3 390 391 392 393 394 749 <| fc "_law_sum" IL m0 687 381 382 728 276 2 3 376 377 378 379 380 733 <| fc "before" N7 m1 187 76 77 252 23 2 3 71 72 73 74 75 257 <| fc "common" N8 m1 187 27 28 196 4 2 3 22 23 24 25 26 201 <| fc "part" WA m1 187 34 35 204 8 2 3 29 30 31 32 33 210 <| fc "minus" SD m1 187 55 56 228 17 2 3 50 51 52 53 54 233 <| fc "over" V9 m1 187 69 70 244 21 2 3 64 65 66 67 68 249 <| fc "plus" WB m1 187 48 49 220 15 2 3 43 44 45 46 47 225 <| fc "times" SH m1 187 62 63 236 19 2 3 57 58 59 60 61 241 <| fc "spot_between" Ej m2 405 186 187 407 112 3 3 183 184 0 0 185 410 <| fc "spot_at" KS m2 405 193 194 413 115 2 3 188 189 190 191 192 419 <| fc "corner_at" Gq m2 405 200 201 422 122 2 3 195 196 197 198 199 427 <| fc "corners_between" DY m2 405 205 206 430 124 3 3 202 203 0 0 204 433 <| fc "greater" KL m1 187 90 91 268 27 2 3 85 86 87 88 89 273 <| fc "lesser" OA m1 187 83 84 260 25 2 3 78 79 80 81 82 265 <| fc "part_of" KP m2 405 212 213 436 126 3 3 207 208 209 210 211 445 <| fc "_law_part_by" Eh m0 687 454 455 816 337 2 3 449 450 451 452 453 825 <| fc "_law_tape" E2 m0 687 353 354 689 254 2 3 348 349 350 351 352 696 <| fc "_law_bounds" FB m0 687 430 431 788 312 1 3 425 426 427 428 429 793 <| fc "_law_place" Fx m0 687 409 410 760 284 1 3 404 405 406 407 408 765 <| fc "_law_span" Go m0 687 416 417 768 291 1 3 411 412 413 414 415 773 <| fc "_law_plan" Gm m0 687 423 424 776 296 1 3 418 419 420 421 422 785 <| fc "_law_two" IM m0 687 442 443 804 320 1 3 439 440 0 0 441 807 <| fc "_law_wider" Fy m0 687 447 448 810 334 2 3 444 445 0 0 446 813 <| fc "summed" OC m3 295 114 115 303 46 4 3 111 112 0 0 113 306 <| fc "crossed" KI m3 295 121 122 309 52 3 3 116 117 118 119 120 315 <| fc "is_never" IP m3 295 139 140 331 69 1 3 134 135 136 137 138 336 <| fc "turn_of" KU m3 295 146 147 339 72 2 3 141 142 143 144 145 346 <| fc "is_tighter" F0 m3 295 153 154 349 76 3 3 148 149 150 151 152 357 <| fc "tightest" IV m3 295 160 161 360 84 3 3 155 156 157 158 159 368 <| fc "fault_in" IN m3 295 167 168 371 90 2 3 162 163 164 165 166 379 <| fc "negative" IR m4 458 230 231 483 141 1 3 225 226 227 228 229 487 <| fc "side_form" Gv m4 458 270 271 551 171 2 3 265 266 267 268 269 566 <| fc "time_form" Gw m4 458 263 264 538 167 2 3 258 259 260 261 262 548 <| fc "form_of" KJ m4 458 277 278 569 180 2 3 272 273 274 275 276 574 <| fc "placed" OB m3 295 132 133 325 63 3 3 129 130 0 0 131 328 <| fc "shared_bottom" EH m1 187 104 105 285 36 1 3 99 100 101 102 103 292 <| fc "plane_of" IS m3 295 109 110 297 42 3 3 106 107 0 0 108 300 <| fc "whole" SJ m1 187 41 42 213 13 1 3 36 37 38 39 40 217 <| fc "told_weights" Ek m5 577 289 290 590 190 1 3 286 287 0 0 288 593 <| fc "range_in" IT m3 295 174 175 382 99 2 3 169 170 171 172 173 391 <| fc "value_in" IW m3 295 181 182 394 108 2 3 176 177 178 179 180 402 <| fc "weights_by_time" DZ m5 577 284 285 579 183 1 3 279 280 281 282 283 587 <| xn 123 "without" HJ m3 295 127 128 319 54 3 3 124 125 0 0 126 322 <| fc "meet_in" KN m5 577 294 295 596 195 1 3 291 292 0 0 293 599 <| fc "piece_between" EG m4 458 237 238 490 143 2 3 232 233 234 235 236 500 <| fc "pieces_of" Gs m4 458 242 243 503 150 1 3 239 240 0 0 241 506 <| fc "size_of" KQ m6 448 219 220 450 134 2 3 214 215 216 217 218 455 <| fc "sizes_of" IU m4 458 249 250 509 152 3 3 244 245 246 247 248 518 <| fc "wedges_of" Gx m4 458 256 257 521 158 3 3 251 252 253 254 255 535 <| fc "meet_of" KO m5 577 301 302 602 206 3 3 296 297 298 299 300 614 <| fc "is_list_of" Fz m7 617 308 309 619 215 2 3 303 304 305 306 307 624 <| fc "is_whole" IQ m1 187 20 21 189 2 1 3 15 16 17 18 19 193 <| fc "is_part" KM m1 187 97 98 276 29 1 3 92 93 94 95 96 282 <| fc "is_weight" Gr m7 617 315 316 627 217 1 3 310 311 312 313 314 633 <| fc "are_weights" FC m7 617 320 321 636 222 1 3 317 318 0 0 319 639 <| fc "is_row" N9 m7 617 339 340 663 241 3 3 334 335 336 337 338 669 <| fc "weighed_sum" FE m7 617 327 328 642 226 3 3 322 323 324 325 326 654 <| fc "shows_row" Gu m7 617 332 333 657 234 2 3 329 330 0 0 331 660 <| fc "shows_apart" FD m7 617 346 347 672 245 4 3 341 342 343 344 345 684 <| fc "law" QQ m0 687 459 460 828 342 1 3 456 457 0 0 458 831 <| [(224,⟨.type "tuple",none, .seq #[(.int 0 470),(.int 1 471),(.int 0 472),(.int 1 473),(.int 0 474),(.int 0 475),(.int 1 476),(.int 1 477),(.int 1 478),(.int 1 479),(.int 1 480),(.int 1 481)] 0, #[]⟩),(222,⟨.type "tuple",none, .seq #[(.int 1 463),(.int 1 464)] 0, #[]⟩),(221,⟨.type "tuple",none, .seq #[(.int 0 460),(.int 1 461)] 0, #[]⟩),(223,⟨.type "tuple",none, .seq #[(.int (-1) 467),(.int 1 468)] 0, #[]⟩),(123,⟨.type "tuple",none, .seq #[(.int 2 318)] 0, #[]⟩)])
def KA:zy zu:= [3,360,361,437,438,367,368,388,389,395,396,381,382,76,77,27,28,34,35,55,56,69,70,48,49,62,63,186,187,193,194,200,201,205,206,90,91,83,84,212,213,454,455,353,354,430,431,409,410,416,417,423,424,442,443,447,448,114,115,121,122,139,140,146,147,153,154,160,161,167,168,230,231,270,271,263,264,277,278,132,133,104,105,109,110,41,42,289,290,174,175,181,182,284,285,127,128,294,295,237,238,242,243,219,220,249,250,256,257,301,302,308,309,20,21,97,98,315,316,320,321,339,340,327,328,332,333,346,347,459,460,224,222,221,223,123]
def q:km:={K88.pwA with main:={K88.pwA.main with body:= [top 0,top 1,top 2,top 3,top 4,top 5,top 6,top 7,top 8,top 9,top 10,top 11,top 12,top 13,top 14,top 15,top 16,top 17,top 18,top 19,top 20,top 21,top 22,top 23,top 24,top 25,top 26,top 27,top 28,top 29,top 30,top 31,top 32,top 33,top 34,top 35,top 36,top 37,top 38,top 39,top 40,top 41,top 42,top 43,top 44,top 45,top 46,top 47,top 48,top 49,top 50,top 51,top 52,top 53,top 54,top 55,top 56,top 57,top 58,top 59,top 60,top 61,top 62,top 63,top 64,top 65,top 66,top 67,top 68,top 69,top 70,top 71,top 72,top 73,top 74,top 75,top 76,top 77,top 78] }}
end K88
open PySem PySem.W PyProof.Rows
def K88.se (s:zw):=openSeen K88.q [] (importedModules (K88.pwA).main.body) (λs=>xlAt K88.q [] s&&recOk [] s) true s
def K88.go:=openGood K88.q []
def K88.rn (w:kj):=openEnds treeTable K88.pwA w 6000
def K88.l0:∀w,(K88.rn w).map (λs=>(K88.se s).1)=some (K88.go.1):=by intro w;kernel_rfl
def K88.l1:∀w,(K88.rn w).map (λs=>(K88.se s).2.1)=some (K88.go.2.1):=by intro w;kernel_rfl
def K88.l2:∀w,(K88.rn w).map (λs=>(K88.se s).2.2.1)=some (K88.go.2.2.1):=by intro w;kernel_rfl
def K88.l3:∀w,(K88.rn w).map (λs=>(K88.se s).2.2.2.1)=some (K88.go.2.2.2.1):=by intro w;kernel_rfl
def K88.l4:∀w,(K88.rn w).map (λs=>(K88.se s).2.2.2.2)=some (K88.go.2.2.2.2):=by intro w;kernel_rfl
def K88.l5:∀w,(K88.rn w).map (λs=>K88.KA.map s.heap.get?)=some ((K88.KK w.params).map λp=>some p.2):=by intro w;kernel_rfl
def K88.w1:PySem.Challenge.rw_skylanes_k88_whole_wider_bounds.wellSaid=true:=by
 kernel_rfl
def K88.w0:PySem.Challenge.rw_skylanes_k88_whole_wider_bounds.row.wellSaid=true:=by
 kernel_rfl
end
namespace PySem
open Sem (wp)
abbrev FK:=(Int×Int)×Int
section
variable {prog:km}{w:kj}
def Ht (prog:km)(w:kj)(h:ki)(k:FK)(a:zu):Prop:=∃o items n b u,h.get? a=some o/\o.cls= .type "tuple" /\o.data= .seq items n/\items.toList= [.ref b, .int k.2 u] /\IsTupleKey (intKind prog w) h [k.1.1,k.1.2] b
def Ht.typeIs {s:zw}{k:FK}{a:zu}(x:Ht prog w s.heap k a):s.TypeIs (.ref a) "tuple" :=let ⟨o,_,_,_,_,b,hc,_⟩:=x;⟨o,b,hc⟩
def Ht.inj {h:ki}{a:zu}{x y:FK}(hx:Ht prog w h x a)(i:Ht prog w h y a):x=y:=by obtain⟨o,items,n,b,u,j,_,hd,hi,hk⟩:=hx;obtain⟨k,c,p,r,s,l,_,e,f,m⟩:=i;obtain rfl:o=k:=AAX (j.symm.trans l);rw[hd] at e;injection e with h1 _;subst h1;rw[hi] at f;injection f with h1 h2;injection h1 with h1;subst h1;injection h2 with h2 _;injection h2 with h2 _;have:=hk.inj m;obtain⟨⟨t,v⟩,z⟩:=x;obtain⟨⟨y1,y2⟩,y3⟩:=y;injection this with g d;injection d with d _;simp only at h2 g d;subst h2;subst g;subst d;rfl
def Ht.keeps {h h':ki}{k:FK}{a d:zu}{o:Obj}{es ep}(x:Ht prog w h k a)(e:h.get? d=some o)(hd:o.data= .dict es ep)(hs:Heap.SameBut d h h'):Ht prog w h' k a:=by
 obtain⟨f,items,n,b,u,g,hc,c,hi,hk⟩:=x;have i:a≠d:=by rintro rfl;obtain rfl:f=o:=AAX (g.symm.trans e);rw[hd] at c;exact nomatch c
 exact⟨f,items,n,b,u,(hs.2 a i).trans g,hc,c,hi,hk.keeps e hd hs⟩
def VP (prog:km)(w:kj)(k:FK):Int:=reduceHash (Builtin.Tuple.tupleHashOf [tupleKeyHash (intKind prog w) [k.1.1,k.1.2],hashInt k.2])
variable {A:kf}{E:zx->zw->Prop}{s:zw}
def Lw {k:FK}{a:zu}{Q:Int->zw->Prop}(hu:A.units+1<cLine)(hk:Ht prog w s.heap k a)(h:Q (VP prog w k) {s with toks:=s.toks+5}):wpAny (model prog w) A (pyHash (.ref a)) Q E s:=by
 have f:=hk.typeIs;obtain⟨o,items,n,b,u,i,_,hd,hi,j⟩:=hk;unfold pyHash;first | unfold pyHashByItsType|skip
 first | refine AAA (wpAny_cRoomFor_or (.inr (by omega)) ?_)|skip
 refine AAA (ABi f ACn.lookup ?_);show wpAny _ _ (if (some (Value.builtin "tuple.__hash__")==some Value.none)=true then _ else _) Q E s;rw[AAC (by rw[beq_builtin_none];exact AAT)];refine AAA (ABi f ACn.lookup ?_);show wpAny _ _ (callSpecialIfBoundUnlessNone? (.ref a) "__hash__" _ >>= _) Q E s;refine AAA (wpAny_callSpecialIfBoundUnlessNone?_slot f ACn (ABC ACn f F.entry_tuple_hash ?_ (F.args_tuple_hash_1 _)));show wpAny _ _ (Builtin.Tuple.tupleItemsOf (.ref a) >>= _) _ _ s;refine AAA (ADK i hd ?_);refine AAA ?_;rw[<-ACo,hi];refine ACp _
  (λrest (r:Array Int) d=>(rest= [.ref b, .int k.2 u] /\r.toList= [] /\d=s)\/(rest= [.int k.2 u] /\r.toList= [tupleKeyHash (intKind prog w) [k.1.1,k.1.2]] /\d={s with toks:=s.toks+3})\/
    (rest= [] /\r.toList= [tupleKeyHash (intKind prog w) [k.1.1,k.1.2],hashInt k.2] /\d={s with toks:=s.toks+4}))
  _ ?_ ?_ _ _ (.inl ⟨rfl,rfl,rfl⟩)
 .rintro x rest r d (⟨c,e,rfl⟩|⟨c,e,rfl⟩|⟨c,_⟩)
  .cases c;refine AAA (wpAny_pyHash_tuple (knd:=intKind prog w) (by first | exact hu|omega) j ?_);exact AAD (.inr (.inl ⟨rfl,by simp[e],rfl⟩))
  .cases c;refine AAA (wpAny_pyHash_int ?_);exact AAD (.inr (.inr ⟨rfl,by simp[e],by simp[ADL]⟩))
  .cases c
 .rintro r d (⟨c,_⟩|⟨c,_⟩|⟨_,e,rfl⟩)
  .cases c
  .cases c
  .show wpAny _ _ (retInt (Builtin.Tuple.tupleHashOf r.toList)) _ _ _;rw[e];refine wpAny_ret_mkInt ?_;show wpAny _ _ (if (decide (-(2:Int)^63<=Builtin.Tuple.tupleHashOf [tupleKeyHash (intKind prog w) [k.1.1,k.1.2],hashInt k.2])&&decide (Builtin.Tuple.tupleHashOf [tupleKeyHash (intKind prog w) [k.1.1,k.1.2],hashInt k.2] < 2^63))=true then _ else _) Q E _;unfold VP reduceHash at h;by_cases g:(decide (-(2:Int)^63<=Builtin.Tuple.tupleHashOf [tupleKeyHash (intKind prog w) [k.1.1,k.1.2],hashInt k.2])&&decide (Builtin.Tuple.tupleHashOf [tupleKeyHash (intKind prog w) [k.1.1,k.1.2],hashInt k.2] < 2^63))=true
   .rw [AAE g];rw[AAE g] at h;exact AAD (by simpa[ADL] using h)
   .rw [AAC g];rw[AAC g] at h;exact AAA (ABj (AAD (by simpa[ADL] using h)))
def VQ {x y:FK}{a b:zu}{P:Fin->zw->Prop}(hu:A.units<cLine)(hx:Ht prog w s.heap x a)(o:Ht prog w s.heap y b)(h:P (.done (.ret (.bool (decide (x=y))))) s):wpAny (model prog w) A (Builtin.«tuple.__eq__» ⟨[.ref a, .ref b], []⟩) P E s:=by
 have F:=o.typeIs;obtain⟨S,xs,T,ba,p,G,_,H,t,I⟩:=hx;obtain⟨U,B,W,J,C,K,_,hdb,D,L⟩:=o;have M:xs.size=2:=by rw[<-AB7,t];rfl
 have N:B.size=2:=by rw[<-AB7,D];rfl
 obtain⟨⟨f,g⟩,d⟩:=x;obtain⟨⟨y1,y2⟩,y3⟩:=y;show wpAny _ _ (isInstance (.ref b) (.type "tuple") >>= _) _ _ s;refine AAA (ACS F ADM ?_);simp only[ABJ,AAv,AAl];refine AAA (ADK G H ?_);refine AAA (ADK K hdb ?_);refine AAA ?_;rw[t,D];refine ACp _
  (λrest r i=>r.1=none/\i=s/\(rest= [(.ref ba, .ref J),(.int d p, .int y3 C)] \/(rest= [(.int d p, .int y3 C)] /\f=y1/\g=y2)\/(rest= [] /\f=y1/\g=y2/\d=y3)))
  _ ?_ ?_ _ _ ⟨rfl,rfl, .inl rfl⟩
 .rintro ⟨u,v⟩ rest r i ⟨k,rfl,(c|⟨c,l,m⟩|⟨c,_⟩)⟩
  .cases c;refine AAA (wpAny_eqBool_tuple (knd:=intKind prog w) (by first | exact hu|omega) I L ?_);by_cases hk:f=y1/\g=y2
   .rw [AAO (by rw[hk.1,hk.2])];simp only[ABJ,AAv,AAl];exact AAD ⟨rfl,rfl, .inr (.inl ⟨by first | trivial|rfl,hk⟩)⟩
   .rw [AAa (by intro z;injection z with j e;injection e with e _;exact hk ⟨j,e⟩)];simp only[Bool.not_false,AA4];have n:decide ((((f,g),d):FK)=((y1,y2),y3))=false:=by apply AAa;intro z;injection z with j e;injection j with O Q;exact hk ⟨O,Q⟩
    rw[n] at h;exact AAA (AAD (AAD (AAD h)))
  .cases c;refine AAA (wpAny_eqBool_int ?_);by_cases hk:d=y3
   .rw [show (d==y3)=true by simp[hk]];simp only[ABJ,AAv,AAl];exact AAD ⟨rfl,rfl, .inr (.inr ⟨by first | trivial|rfl,l,m,hk⟩)⟩
   .rw [show (d==y3)=false by simp[hk]];simp only[Bool.not_false,AA4];have n:decide ((((f,g),d):FK)=((y1,y2),y3))=false:=by apply AAa;intro z;injection z with j e;exact hk e
    rw[n] at h;exact AAA (AAD (AAD (AAD h)))
  .cases c
 .rintro ⟨X,Y⟩ i ⟨k,rfl,(c|⟨c,_⟩|⟨_,l,m,R⟩)⟩
  .cases c
  .cases c
  .simp only at k;subst k;refine AAD ?_;show P (.done (.ret (.bool (xs.size==B.size)))) i;rw[M,N];rw[AAO (by rw[l,m,R])] at h;exact h
def Lv {x y:FK}{a b:zu}{Q:kn->zw->Prop}(hu:A.units+1<cLine)(hx:Ht prog w s.heap x a)(c:Ht prog w s.heap y b)(h:Q (decide (x=y)) s):wpAny (model prog w) A (eqBool (.ref a) (.ref b)) Q E s:=by
 unfold eqBool;try with_reducible refine AAe ?_
 show wpAny _ _ (if (Value.ref a==Value.ref b)=true then _ else _) Q E s;by_cases d:(Value.ref a==Value.ref b)=true
 .rw [AAE d];have e:a=b:=by have:=eq_of_beq d;injection this
  subst e;obtain rfl:=hx.inj c;exact AAA (ABj (AAD (by simpa using h)))
 .rw [AAC d];exact AAA (wpAny_richCompare_same_room (op:= .Eq) hx.typeIs c.typeIs ACq
   (ABC ACq hx.typeIs F.entry_tuple_eq (VQ (by first | exact hu|omega) hx c ⟨_,rfl,(λe=>nomatch e),ABk h⟩) (F.args_tuple_eq_2 _ _)) (by omega))
def F8 {K:Type}[DecidableEq K]{knd:KeyKind prog w K}{f:zy K}{a:zu}{Q:kn->zw->Prop}(m:Nat)(hk:IsTupleKey knd s.heap f a)(h:Q true s):wpAny (model prog w) A (eqIsQuiet (m+1) (.ref a)) Q E s:=by
 have d:=hk.typeIs;obtain⟨o,items,n,g,_,hd,hi⟩:=hk;unfold eqIsQuiet;refine AAA (ABi d ACq.lookup ?_);show wpAny _ _ (isInstance (.ref a) (.type "tuple") >>= _) _ _ s;refine AAA (ACS d ADM ?_);simp only[ABJ,AAv,AAl];refine AAA (ABD g hd ?_);refine AAA ?_;show wpAny _ _ (forIn items _ _) _ _ s;rw[<-ACo];refine ACp _ (λrest r b=>r.1=none/\b=s/\∀v∈rest,carriedByValue v=true) _ ?_ ?_ _ _ ⟨rfl,rfl,hi.byValue⟩
 .rintro v rest r b ⟨c,rfl,e⟩;rw[eqIsQuiet_byValue _ (e v ABK)];refine AAA (AAD ?_);simp only[ABJ,AAv,AAl];exact AAD ⟨rfl,rfl,λu i=>e u (ABE _ i)⟩
 .rintro ⟨j,k⟩ b ⟨c,rfl,_⟩;simp only at c;subst c;exact AAD h
def IZ {k:FK}{a:zu}{Q:kn->zw->Prop}(hk:Ht prog w s.heap k a)(h:Q true s):wpAny (model prog w) A (eqIsQuiet 8 (.ref a)) Q E s:=by
 have f:=hk.typeIs;obtain⟨o,items,n,b,u,g,_,hd,hi,i⟩:=hk;unfold eqIsQuiet;refine AAA (ABi f ACq.lookup ?_);show wpAny _ _ (isInstance (.ref a) (.type "tuple") >>= _) _ _ s;refine AAA (ACS f ADM ?_);simp only[ABJ,AAv,AAl];refine AAA (ABD g hd ?_);refine AAA ?_;show wpAny _ _ (forIn items _ _) _ _ s;rw[<-ACo,hi];refine ACp _ (λrest r d=>r.1=none/\d=s/\(rest= [.ref b, .int k.2 u] \/rest= [.int k.2 u] \/rest= [])) _ ?_ ?_ _ _ ⟨rfl,rfl, .inl rfl⟩
 .rintro v rest r d ⟨e,rfl,(c|c|c)⟩
  .cases c;refine AAA (F8 (knd:=intKind prog w) 6 i ?_);simp only[ABJ,AAv,AAl];exact AAD ⟨rfl,rfl, .inr (.inl (by first | trivial|rfl))⟩
  .cases c;rw[eqIsQuiet_byValue _ rfl];refine AAA (AAD ?_);simp only[ABJ,AAv,AAl];exact AAD ⟨rfl,rfl, .inr (.inr (by first | trivial|rfl))⟩
  .cases c
 .rintro ⟨j,l⟩ d ⟨e,rfl,_⟩;simp only at e;subst e;exact AAD h
end
def fkKind (prog:km)(w:kj):HeapKind prog w FK where
 is:=Ht prog w
 hash:=VP prog w
 draws:=λ_=>5
 room:=λA=>A.units+1<cLine
 inj:=λhx a=>hx.inj a
 keeps:=λx b hd hs=>x.keeps b hd hs
 pyHash:=λhu hk h=>Lw hu hk h
 eqBool:=λhu hx a h=>Lv hu hx a h
 quiet:=λhk h=>IZ hk h
end PySem
namespace L2
open PySem PySem.Spec PyProof.Rows
abbrev B6:=Sum Int Str
def QA:B6->zx->kn
 | .inl k,v=>Value.isInt k v
 | .inr x,v=>Value.isStrOf x v
def sR (w:kj):B6->Int
 | .inl k=>hashInt k
 | .inr x=>hashStr w x
def BL:∀{k:B6} {v:zx},QA k v=true->(∃i t,k=Sum.inl i/\v=Value.int i t)\/(∃x t,k=Sum.inr x/\v=Value.str x t)
 | .inl i,v,h=>by obtain⟨t,e⟩:=Value.isInt_shape (k:=i) (v:=v) h;exact .inl ⟨i,t,rfl,e⟩
 | .inr x,v,h=>by obtain⟨t,e⟩:=Value.isStrOf_shape (x:=x) (v:=v) h;exact .inr ⟨x,t,rfl,e⟩
def Yo (i:Int)(t:Tok):QA (.inl i) (.int i t)=true:=by simp[QA,Value.isInt]
def Yp (x:Str)(t:Tok):QA (.inr x) (.str x t)=true:=by simp[QA,Value.isStrOf]
def ji (a b:Int):decide ((Sum.inl a:B6)=Sum.inl b)=(a==b):=by
 by_cases e:a=b
 .subst e;simp
 .have h:¬(Sum.inl a:B6)=Sum.inl b:=λq=>e (Sum.inl.inj q);rw[AAa h];exact(ADN.mpr e).symm
def jn (a b:Str):decide ((Sum.inr a:B6)=Sum.inr b)=decide (a=b):=by
 by_cases e:a=b
 .subst e;simp
 .have h:¬(Sum.inr a:B6)=Sum.inr b:=λq=>e (Sum.inr.inj q);rw[AAa h,AAa e]
def jk (a:Int)(b:Str):decide ((Sum.inl a:B6)=Sum.inr b)=false:=AAa (λq=>nomatch q)
def jl (a:Str)(b:Int):decide ((Sum.inr a:B6)=Sum.inl b)=false:=AAa (λq=>nomatch q)
def Aw (prog:km)(w:kj):PySem.KeyKind prog w B6 where
 is:=QA
 hash:=sR w
 inj:=λv a b ha hb=>by
  rcases BL ha with⟨i,t,rfl,rfl⟩|⟨x,t,rfl,rfl⟩
  .rcases BL hb with⟨j,u,rfl,e⟩|⟨y,u,rfl,e⟩
   .injection e with c _;rw[c]
   .exact nomatch e
  .rcases BL hb with⟨j,u,rfl,e⟩|⟨y,u,rfl,e⟩
   .exact nomatch e
   .injection e with c _;rw[c]
 byValue:=λk v h=>by rcases BL h with⟨i,t,rfl,rfl⟩|⟨x,t,rfl,rfl⟩ <;> rfl
 pyHash:=λhv h=>by
  rcases BL hv with⟨i,t,rfl,rfl⟩|⟨x,t,rfl,rfl⟩
  .exact wpAny_pyHash_int h
  .exact wpAny_pyHash_str h
 eqBool:=λhu hv h=>by
  rcases BL hu with⟨i,t,rfl,rfl⟩|⟨x,t,rfl,rfl⟩
  .rcases BL hv with⟨j,u,rfl,rfl⟩|⟨y,u,rfl,rfl⟩
   .rw [ji] at h;exact wpAny_eqBool_int h
   .rw [jk] at h;exact SeqAt.EqAt.int_str i t y u _ _ _ _ h
  .rcases BL hv with⟨j,u,rfl,rfl⟩|⟨y,u,rfl,rfl⟩
   .rw [jl] at h;exact SeqAt.EqAt.str_int x t j u _ _ _ _ h
   .rw [jn] at h;exact wpAny_eqBool_str h
 «strs»:=λk x t v h=>by
  rcases BL h with⟨i,u,rfl,e⟩|⟨y,u,rfl,e⟩
  .exact nomatch e
  .injection e with c _;subst c;cases v <;> rfl
def Tt (prog:km)(w:kj)(i:Int)(t:Tok):(Aw prog w).is (.inl i) (.int i t)=true:=Yo i t
def Tu (prog:km)(w:kj)(x:Str)(t:Tok):(Aw prog w).is (.inr x) (.str x t)=true:=Yp x t
inductive V where
 | non|bl (b:Bool)|int (i:Int)|str (x:Str)|byt (b:Array UInt8)|flt (b:UInt64)|ref (a:Addr)|ty (n:String)
 deriving DecidableEq
def RelV:V->zx->Prop
 | .non,u=>u=Value.none
 | .bl b,u=>u=Value.bool b
 | .int i,u=>∃t,u=Value.int i t
 | .str x,u=>∃t,u=Value.str x t
 | .byt b,u=>∃t,u=Value.bytes b t
 | .flt b,u=>∃t,u=Value.float b t
 | .ref a,u=>u=Value.ref a
 | .ty n,u=>u=Value.type n
abbrev At:zy V->zy zx->Prop:=Paired RelV
def At.length {xs:zy V}{a:zy zx}(r:At xs a):xs.length=a.length:=Paired.length r
theorem At.get:∀{xs:zy V} {a:zy zx} {i:Nat} {x:V},At xs a->xs[i]? =some x->∃u,a[i]? =some u/\RelV x u
 | _,_,_,_, .nil,e=>by simp at e
 | _,_,0,_, .cons r _,e=>by simp at e;subst e;exact⟨_,rfl,r⟩
 | _,_,i+1,x, .cons _ t,e=>by obtain⟨u,h1,h2⟩:=At.get (i:=i) (x:=x) t (by simpa using e);exact⟨u,by simpa using h1,h2⟩
theorem At.set {x:V}{u:zx}(r:RelV x u):∀{xs:zy V} {a:zy zx} (i:Nat),At xs a->At (xs.set i x) (a.set i u)
 | _,_,_, .nil=> .nil
 | _,_,0, .cons _ t=> .cons r t
 | _,_,i+1, .cons q t=> .cons q (At.set r i t)
theorem At.append:∀{xs a:zy V} {b c:zy zx},At xs b->At a c->At (xs++a) (b++c)
 | _,_,_,_, .nil,s=>s
 | _,_,_,_, .cons r t,s=> .cons r (At.append t s)
theorem At.take:∀{xs:zy V} {a:zy zx} (n:Nat),At xs a->At (xs.take n) (a.take n)
 | _,_,0,_=> .nil
 | _,_,_+1, .nil=> .nil
 | _,_,n+1, .cons r t=> .cons r (At.take n t)
theorem At.drop:∀{xs:zy V} {a:zy zx} (n:Nat),At xs a->At (xs.drop n) (a.drop n)
 | _,_,0,r=>r
 | _,_,_+1, .nil=> .nil
 | _,_,n+1, .cons _ t=>At.drop n t
def At.none_of:∀{xs:zy V} {a:zy zx} {i:Nat},At xs a->xs[i]? =none->a[i]? =none:=λ{xs a i} r e=>by have h1:=r.length;have h2:xs.length<=i:=ACr.mp e;exact ACr.mpr (by omega)
def La:zt V->zt zx->Prop
 | some v,some u=>RelV v u
 | none,none=>True
 | _,_=>False
def KV {a:Type}:zy (a×V)->zy (a×zx)->Prop:=Paired λ(p:a×V) (q:a×zx)=>p.1=q.1/\RelV p.2 q.2
def kV:B6->V
 | .inl i=> .int i
 | .inr x=> .str x
inductive HO where
 | lst (xs:List V)
 | tup (xs:List V)
 | dK (kvs:List (B6×V))|dT (kvs:List (List B6×V))|dN (K:AAB) (kvs:List (PySem.FK×V))
 | set (S:Int->Bool) (n:Nat)
 | ins (C dx:Addr) (fs:List (Str×V))
 | own (x:Addr)
 | xd (fs:List (Str×V))
 | met (f x:Addr)
 | rng (lo hi:Int)
 | frz (o:Obj) (u:HO)
 | tbl (ps:Array Value)
 | ext (φ:Heap->Prop)
abbrev Hp:=zu->zt HO
def upd (H:Hp)(a:zu)(o:HO):Hp:=λb=>if b=a then some o else H b
def Aj {H:Hp}{a:zu}{o:HO}:upd H a o a=some o:=by unfold upd;rw[AAE rfl]
def Ag {H:Hp}{a b:zu}{o:HO}(h:b≠a):upd H a o b=H b:=by unfold upd;rw[AAC h]
def oI {H:Hp}{a b:zu}{o u:HO}(h:H a=some o)(h':H b=some u)(d:o≠u):a≠b:=by intro e;subst e;rw[h] at h';exact d (AAX h')
def Au {H:Hp}{a b:zu}{o:HO}(h:H a=some o)(h':H b=none):a≠b:=by intro e;subst e;rw[h] at h';cases h'
def rJ (K:AAB)(H:Hp)(b:zu)(t d:Int):Prop:=H b=some (.tup [.int t, .int d])\/∃(o:Obj) (a:Array zx) (n:Nat),K.lookup b=some o/\o.cls= .type "tuple" /\o.data= .seq a n/\At [.int t, .int d] a.toList
def dg (K:AAB)(H:Hp)(a:zu)(k:PySem.FK):Prop:=∃b,H a=some (.tup [.ref b, .int k.2])/\rJ K H b k.1.1 k.1.2
def dg.stay {K:AAB}{H c:Hp}{a:zu}{k:PySem.FK}(x:dg K H a k)(d:∀b xs,H b=some (.tup xs)->c b=some (.tup xs)):dg K c a k:=let ⟨b,h1,h2⟩:=x;⟨b,d _ _ h1,h2.elim (λz=> .inl (d _ _ z)) .inr⟩
section
variable (P:km)(w:kj)
def CC (H:Hp)(h:ki)(a:zu):HO->Prop
 | .lst xs=>xs.length<=sizeLine/\∃(b:zy zx) (n:Nat),At xs b/\h.get? a=some {cls:= .type "list",data:= .seq b.toArray n}
 | .tup xs=>xs.length<=sizeLine/\∃b:zy zx,At xs b/\IsTup h a b.toArray
 | .dK kvs=>kvs.length<=sizeLine/\(a==sysModules)=false/\∃vs,KV kvs vs/\h.DictOf (Aw P w) a vs
 | .dT kvs=>kvs.length<=sizeLine/\(a==sysModules)=false/\∃xs:zy (zy B6×zu×zx),
     Paired (λ(p:zy B6×V) (q:zy B6×zu×zx)=>p.1=q.1/\H q.2.1=some (.tup (p.1.map kV))/\RelV p.2 q.2.2) kvs xs/\
     ∃o es ep,h.get? a=some o/\o.ExactDict/\o.data= .dict es ep/\es.toList=xs.map (entryOfKey (tupleKind (Aw P w)))/\(xs.map (·.1)).Nodup
 | .dN K kvs=>kvs.length<=sizeLine/\(a==sysModules)=false/\∃xs:zy (PySem.FK×zu×zx),Paired (λ(p:PySem.FK×V) (q:PySem.FK×zu×zx)=>p.1=q.1/\dg K H q.2.1 p.1/\RelV p.2 q.2.2) kvs xs/\∃o es ep,h.get? a=some o/\o.ExactDict/\o.data= .dict es ep/\es.toList=xs.map (entryOfKey (PySem.fkKind P w))/\(xs.map (·.1)).Nodup
 | .set S n=>h.SetOf (intKind P w) a S n
 | .ins C e d=>H e=some (.own a)/\d.length<=1000/\e≠a/\h.get? a=some (PySem.W.instObj C e)/\
     ∃c,h.Ns1 e c/\(∀f,La (d.lookup f) (c f))/\PySem.Within c (d.map (·.1))
 | .own _=>∃o,h.get? a=some o
 | .xd d=>∃c,h.Ns1 a c/\∀f,La (d.lookup f) (c f)
 | .rng lo hi=>∃t u v,h.get? a=some {cls:= .type "range",data:= .fields #[.int lo t, .int hi u, .int 1 v] }
 | .frz o u=>h.get? a=some o/\CC H h a u
 | .tbl ps=>h.get? a=some {cls:= .none,data:= .fields ps}
 | .met f x=>h.get? a=some (PySem.W.methodObj (.ref f) (.ref x))
 | .ext g=>g h/\(∃o,h.get? a=some o)/\∀h1 h2:ki,g h1->(∀o,h1.get? a=some o->h2.get? a=some o)->g h2
def Iy (H:Hp)(h:ki):Prop:=∀a o,H a=some o->CC P w H h a o
end
section
variable {P:km}{w:kj}{H H':Hp}{h h':ki}{a:zu}{o:HO}
def CC.lt (x:CC P w H h a o):a<h.objs.size:=by
 cases o with
 | lst xs=>obtain⟨_,_,_,_,e⟩:=x;exact AAG e
 | tup xs=>obtain⟨_,_,_,p⟩:=x;exact p.lt
 | dK kvs=>obtain⟨_,_,_,_,o,_,_,e,_⟩:=x;exact AAG e
 | dT kvs=>obtain⟨_,_,_,_,o,_,_,e,_⟩:=x;exact AAG e
 | dN K kvs=>obtain⟨_,_,_,_,o,_,_,e,_⟩:=x;exact AAG e
 | set S n=>obtain⟨o,_,_,_,e,_⟩:=x;exact AAG e
 | ins C c b=>obtain⟨_,_,_,e,_⟩:=x;exact AAG e
 | own y=>obtain⟨_,e⟩:=x;exact AAG e
 | xd b=>obtain⟨_,⟨_,_,_,e,_⟩,_⟩:=x;exact AAG e
 | rng lo hi=>obtain⟨_,_,_,e⟩:=x;exact AAG e
 | frz d u=>obtain⟨e,_⟩:=x;exact AAG e
 | tbl ps=>exact AAG (show h.get? a=some _ from x)
 | met f y=>exact AAG (show h.get? a=some _ from x)
 | ext g=>obtain⟨_,⟨_,e⟩,_⟩:=x;exact AAG e
theorem Paired.mapP {d e:Type}{F G:d->e->Prop}:∀{l₁:zy d} {c:zy e},Paired F l₁ c->(∀a b,F a b->G a b)->Paired G l₁ c
 | _,_, .nil,_=> .nil
 | _,_, .cons r t,f=> .cons (f _ _ r) (Paired.mapP t f)
def CC.stay (x:CC P w H h a o)(k:∀b u,(b=a\/H b=some (.own a))->h.get? b=some u->h'.get? b=some u)(s:∀b,H b=some (.own a)->H' b=some (.own a))(m:∀b xs,H b=some (.tup xs)->H' b=some (.tup xs)):CC P w H' h' a o:=by
 induction o with
 | lst xs=>obtain⟨z,i,n,r,e⟩:=x;exact⟨z,i,n,r,k _ _ (.inl rfl) e⟩
 | tup xs=>obtain⟨z,i,r,g,e,c⟩:=x;exact⟨z,i,r,g,k _ _ (.inl rfl) e,c⟩
 | dK kvs=>obtain⟨z,y,vs,r,g,es,ep,e,c⟩:=x;exact⟨z,y,vs,r,g,es,ep,k _ _ (.inl rfl) e,c⟩
 | dT kvs=> obtain⟨z,y,xs,r,g,es,ep,e,c⟩:=x;exact⟨z,y,xs,Paired.mapP r λp q z=>⟨z.1,m _ _ z.2.1,z.2.2⟩,g,es,ep,k _ _ (.inl rfl) e,c⟩
 | dN K kvs=> obtain⟨z,y,xs,r,g,es,ep,e,c⟩:=x;exact⟨z,y,xs,Paired.mapP r λp q z=>⟨z.1,z.2.1.stay m,z.2.2⟩,g,es,ep,k _ _ (.inl rfl) e,c⟩
 | set S n=>obtain⟨g,es,ep,t,e,c⟩:=x;exact⟨g,es,ep,t,k _ _ (.inl rfl) e,c⟩
 | ins C E A=> obtain⟨d,z,ne,e,j,⟨l,es,ep,B,c⟩,r⟩:=x;exact⟨s _ d,z,ne,k _ _ (.inl rfl) e,j,⟨l,es,ep,k _ _ (.inr d) B,c⟩,r⟩
 | own y=>obtain⟨g,e⟩:=x;exact⟨g,k _ _ (.inl rfl) e⟩
 | xd A=>obtain⟨j,⟨l,es,ep,e,c⟩,r⟩:=x;exact⟨j,⟨l,es,ep,k _ _ (.inl rfl) e,c⟩,r⟩
 | rng lo hi=>obtain⟨t,u,v,e⟩:=x;exact⟨t,u,v,k _ _ (.inl rfl) e⟩
 | frz g u D=>obtain⟨e,q⟩:=x;exact⟨k _ _ (.inl rfl) e,D q⟩
 | tbl ps=> have e:h.get? a=some {cls:= .none,data:= .fields ps}:=x;show h'.get? a=some {cls:= .none,data:= .fields ps};exact k a _ (.inl rfl) e
 | met f y=> have e:h.get? a=some (PySem.W.methodObj (.ref f) (.ref y)):=x;show h'.get? a=some (PySem.W.methodObj (.ref f) (.ref y));exact k a _ (.inl rfl) e
 | ext F=>obtain⟨p,⟨o,e⟩,st⟩:=x;exact⟨st _ _ p λo q=>k _ _ (.inl rfl) q,⟨o,k _ _ (.inl rfl) e⟩,st⟩
def Iy.lt (x:Iy P w H h)(e:H a=some o):a<h.objs.size:=(x a o e).lt
def Iy.fresh (x:Iy P w H h)(e:h.objs.size<=a):H a=none:=by
 cases q:H a with
 | none=>rfl
 | some u=>exact absurd (AAV (x.lt q) e) (ABW _)
def Iy.kept (x:Iy P w H h)(k:∀b u,h.get? b=some u->h'.get? b=some u):Iy P w H h':=λa o e=>
 (x a o e).stay (λb u _ q=>k b u q) (λ_ q=>q) λ_ _ q=>q
def Iy.laid (x:Iy P w H h)(k:∀b u,h.get? b=some u->h'.get? b=some u)(hp:h.objs.size<=a)(new:CC P w (upd H a o) h' a o):Iy P w (upd H a o) h':=λb u e=>by
 have d:=x.fresh hp;by_cases hb:b=a
 .subst hb;rw[Aj] at e;cases e;exact new
 .rw [Ag hb] at e;exact(x b u e).stay (λc v _ q=>k c v q) (λc q=>by rw[Ag (Au q d)];exact q) λc xs q=>by rw[Ag (Au q d)];exact q
end
def Rd (H:Hp)(a:zu)(u:HO):Prop:=H a=some u\/∃o,H a=some (.frz o u)
def Rd.ok {P:km}{w:kj}{H:Hp}{h:ki}{a:zu}{u:HO}(r:Rd H a u)(x:Iy P w H h):CC P w H h a u:=by
 rcases r with r|⟨o,r⟩
 .exact x a u r
 .obtain ⟨_,q⟩:=x a _ r;exact q
def mj:zt HO->Prop
 | some (.lst _)=>True
 | some (.dK _)=>True
 | some (.dT _)=>True
 | some (.dN _ _)=>True
 | some (.set _ _)=>True
 | some (.ins _ _ _)=>True
 | some (.ext _)=>True
 | _=>False
section
variable {P:km}{w:kj}{H:Hp}{h h':ki}{x e:zu}{o':HO}
def Iy.write (ok:Iy P w H h)(f:mj (H x))(he:e=x\/H e=some (.own x))(k:∀b u,b≠e->h.get? b=some u->h'.get? b=some u)(j:∃u,h'.get? e=some u)(new:CC P w (upd H x o') h' x o'):Iy P w (upd H x o') h':=λb u q=>by
 have a:∀c y,H c=some (.own y)->c≠x:=λc y r z=>by subst z;rw[r] at f;exact f
 have d:∀c xs,H c=some (.tup xs)->c≠x:=λc xs r z=>by subst z;rw[r] at f;exact f
 by_cases hb:b=x
 .subst hb;rw[Aj] at q;cases q;exact new
 .rw [Ag hb] at q;by_cases g:b=e
  .have i:H b=some (.own x):=by
    rcases he with z|z
    .exact absurd (g.trans z) hb
    .rw [g];exact z
   rw[q] at i;cases i;obtain⟨v,hv⟩:=j;exact⟨v,by rw[g];exact hv⟩
  .refine (ok b u q).stay (λc v hc r=>k c v ?_ r) (λc r=>by rw[Ag (a c b r)];exact r) λc xs r=>by rw[Ag (d c xs r)];exact r
   rcases hc with rfl|hc
   .exact g
   .rintro rfl;rcases he with z|z
    .exact a c b hc z
    .rw [hc] at z;cases z;exact hb rfl
end
structure Un (fs ex:List Addr) (H H':Hp) (h h':Heap):Prop where
 keep:∀b o,h.get? b=some o->H b=none->b ∉ fs->b ∉ ex->h'.get? b=some o
 slot:∀b o,h.get? b=some o->H b=none->b∈fs->b ∉ ex->∃sl,h'.get? b=some {o with slots:=sl}
 free:∀b o,h.get? b=some o->H b=none->b ∉ ex->H' b=none
 there:∀b o,h.get? b=some o->b ∉ ex->∃o',h'.get? b=some o'
 tups:∀b xs,H b=some (.tup xs)->H' b=some (.tup xs)
 frzs:∀b o u,H b=some (.frz o u)->H' b=some (.frz o u)
 tbls:∀b ps,H b=some (.tbl ps)->∃more,H' b=some (.tbl (ps++more))
section
variable {fs fs' ex ex':zy zu}{H H1 H2:Hp}{h h1 h2 h':ki}{a x e:zu}{o:HO}
def Un.any (u:Un fs ex H H1 h h1){b:zu}{c:Obj}(q:h.get? b=some c)(n:H b=none)(hx:b ∉ ex):∃sl,h1.get? b=some {c with slots:=sl}:=by
 by_cases hb:b∈fs
 .exact u.slot b c q n hb hx
 .exact ⟨c.slots,u.keep b c q n hb hx⟩
def Un.kept (k:∀b u,h.get? b=some u->h'.get? b=some u):Un fs ex H H h h':=
 ⟨λb c q _ _ _=>k b c q,λb c q _ _ _=>⟨c.slots,k b c q⟩,λ_ _ _ n _=>n,λb c q _=>⟨c,k b c q⟩,λ_ _ q=>q,λ_ _ _ q=>q,λ_ ps q=>⟨#[],by rw[q];simp⟩⟩
def Un.refl:Un fs ex H H h h:=Un.kept λ_ _ q=>q
def Un.laid (k:∀b u,h.get? b=some u->h'.get? b=some u)(hp:h.objs.size<=a)(c:H a=none):Un fs ex H (upd H a o) h h' where
 keep:=λb u q _ _ _=>k b u q
 slot:=λb u q _ _ _=>⟨u.slots,k b u q⟩
 free:=λb u q n _=>by rw[Ag (AAM (AAV (AAG q) hp))];exact n
 there:=λb u q _=>⟨u,k b u q⟩
 tups:=λb xs q=>by rw[Ag (Au q c)];exact q
 frzs:=λb u xs q=>by rw[Ag (Au q c)];exact q
 tbls:=λb ps q=>⟨#[],by rw[Ag (Au q c),q];simp⟩
def Un.write (c:mj (H x))(he:e=x\/H e=some (.own x))(k:∀b u,b≠e->h.get? b=some u->h'.get? b=some u)(g:∃u,h'.get? e=some u):Un fs ex H (upd H x o) h h':=by
 have hx:∀b,H b=none->b≠x:=λb n z=>by subst z;rw[n] at c;exact c
 have hb:∀b,H b=none->b≠e:=λb n z=>by
  subst z;rcases he with r|r
  .exact hx b n r
  .rw [n] at r;cases r
 have d:∀b u,H b=some u->¬mj (some u)->b≠x:=λb u q i z=>by subst z;rw[q] at c;exact i c
 refine⟨λb u q n _ _=>k b u (hb b n) q,λb u q n _ _=>⟨u.slots,k b u (hb b n) q⟩,λb u q n _=>by rw[Ag (hx b n)];exact n,λb u q _=> ?_,
  λb xs q=>by rw[Ag (d b _ q λz=>z)];exact q,λb u xs q=>by rw[Ag (d b _ q λz=>z)];exact q,λb ps q=>⟨#[],by rw[Ag (d b _ q λz=>z),q];simp⟩⟩
 by_cases f:b=e
 .subst f;exact g
 .exact ⟨u,k b u f q⟩
end
def qd (h:ki)(H:Hp):zy zu:=(List.range h.objs.size).filter λa=>(H a).isSome
def RN (h:ki)(H:Hp):ki:=PySem.W.hideAll h (qd h H)
def Yi (h:ki)(H:Hp):(RN h H).objs.size=h.objs.size:=PySem.W.hideAll_size _ _
def aY {h:ki}{H:Hp}{b:zu}{o:Obj}(e:h.get? b=some o)(n:H b=none):(RN h H).get? b=some o:=
 PySem.W.hideAll_get _ e λa=>by have q:(H b).isSome=true:=(AAR.mp a).2;rw[n] at q;simp at q
def e6 {h:ki}{H:Hp}{b:zu}{o:Obj}(e:(RN h H).get? b=some o):h.get? b=some o/\H b=none:=by
 have a:h.get? b=some o:=PySem.W.of_hideAll (qd h H) e;refine⟨a, ?_⟩;cases q:H b with
 | none=>rfl
 | some x=> have c:b∈qd h H:=AAR.mpr ⟨AA5.mpr (AAG a),by simp[q]⟩;have z:(RN h H).get? b=none:=PySem.W.hideAll_none (qd h H) c;rw[z] at e;cases e
def dw (g h:ki)(L:zu):zy (zu×Obj):=(List.range h.objs.size).filterMap λa=>if a=L\/(g.get? a).isSome=true then none else (h.get? a).map λo=>(a,o)
def rest (g h:ki)(L d:zu):zy (zu×Obj):=(dw g h L).filter λp=>decide (p.1≠d)
structure Mod (K:AAB) (mg:Str->Option Value) (base:Heap):Prop where
 kin:K.In base
 glob:base.Ns mainGlobals mg
 blt:∃mb,base.Ns builtinsNs mb/\∀x:Str,x≠"__name__" ->mb x=bootBuiltins x
 nolimit:base.NoLimit
structure Cx where
 prog:Program
 w:World
 K:AAB
 mg:Str->Option Value
 base:Heap
 A:Around
 N:List Str
 s₀:Shared
 H₀:Hp
 env:Env
 outer:List Env
 stack:List Env
 ex:List Addr
 fn:Str->Bool
 calm:Bool
 pn:List (Addr×Obj)
 xe:Value->Shared->Prop
def ZW (l:zy Env):zy zu:=l.filterMap (·.frame)
abbrev Cx.fs (X:Cx):zy zu:=ZW X.outer
def gy (sc:Scope)(x:Str):Prop:=sc.names.lookup x=some .local\/sc.names.lookup x=some .cell\/sc.names.lookup x=some .free
def Loc (sc:Scope)(x:Str):Prop:=sc.names.lookup x=some .local\/sc.names.lookup x=some .cell
def Look (env:Env)(h:ki)(m:Str->zt zx)(x:Str)(u:zx):Prop:=
 (env.kindOf x=some .local/\m x=some u)\/((env.kindOf x=some .cell\/env.kindOf x=some .free)/\∃c,env.cells.lookup x=some c/\h.IsCell c (some u))
structure Cx.Ok (X:Cx):Prop where
 mod:Mod X.K X.mg X.base
 kind:X.env.scope.kind= .function
 glob:X.env.globals=mainGlobals
 blt:X.env.builtins=builtinsNs
 above:X.s₀.heap.objs.size<=X.env.locals
 inj:∀x y c,X.env.cells.lookup x=some c->X.env.cells.lookup y=some c->x=y
 has:∀x,(X.env.kindOf x=some .cell\/X.env.kindOf x=some .free)->∃c,X.env.cells.lookup x=some c
 cab:∀x c,X.fn x=true->X.env.cells.lookup x=some c->X.s₀.heap.objs.size<=c
 hd:X.calm=true->X.A.handled=none
 frames:X.A.frames=some X.stack
 stk:X.stack=X.outer\/(X.stack=X.env::X.outer/\X.env.frame=some X.env.locals)
 exf:∀b∈X.ex,b≠X.env.locals/\∀x c,X.env.cells.lookup x=some c->c≠b
 bs:∀b o,X.base.get? b=some o->X.s₀.heap.get? b=some o/\X.H₀ b=none
 bsz:X.base.objs.size<=X.s₀.heap.objs.size
 noex:∀b o,X.base.get? b=some o->b ∉ X.ex
 exfs:∀b∈X.ex,b ∉ X.fs
 funs:X.s₀.heap.FunFrames X.base X.outer
 frf:∀b∈X.fs,X.H₀ b=none
structure Inv (X:Cx) (ke:List (Addr×Obj)) (σ:List (Option V)) (H:Hp) (s:Shared):Prop where
 ok:X.Ok
 os:s.os=X.s₀.os
 bare:AllBare s.gens
 base:Un X.fs X.ex X.H₀ H X.s₀.heap s.heap
 loc:∃m,s.heap.Ns X.env.locals m/\∀(i:Nat) (x:Str) (v:V),X.N[i]? =some x->σ[i]? =some (some v)->gy X.env.scope x->∃u,RelV v u/\Look X.env s.heap m x u
 cell:∀x c,X.env.cells.lookup x=some c->∃v,s.heap.IsCell c v
 free:H X.env.locals=none
 freeC:∀x c,X.env.cells.lookup x=some c->H c=none
 pin:∀p∈X.pn++ke,s.heap.get? p.1=some p.2/\H p.1=none/\p.1≠X.env.locals/\p.1 ∉ X.fs/\∀v,p.2.data≠ .cell v
 hok:Iy X.prog X.w H s.heap
 len:σ.length=X.N.length
section
variable {X:Cx}{ke:zy (zu×Obj)}{σ:zy (zt V)}{H H':Hp}{s:zw}{h':ki}
def Cx.Ok.nofr (ok:X.Ok){b:zu}{o:Obj}(e:X.base.get? b=some o):b ∉ X.fs:=λhb=>by have:=(ok.funs.mem hb).1;rw[e] at this;cases this
def Inv.bs (I:Inv X ke σ H s):∀b o,X.base.get? b=some o->s.heap.get? b=some o/\H b=none:=λb o e=>
 ⟨I.base.keep b o (I.ok.bs b o e).1 (I.ok.bs b o e).2 (I.ok.nofr e) (I.ok.noex b o e),I.base.free b o (I.ok.bs b o e).1 (I.ok.bs b o e).2 (I.ok.noex b o e)⟩
def Inv.bk (I:Inv X ke σ H s):∀b o,X.base.get? b=some o->s.heap.get? b=some o:=λb o e=>(I.bs b o e).1
def Inv.mod (I:Inv X ke σ H s):Mod X.K X.mg X.base:=I.ok.mod
def Inv.kIn (I:Inv X ke σ H s):X.K.In s.heap:=I.ok.mod.kin.keeps I.bk
def Inv.nolimit (I:Inv X ke σ H s):s.heap.NoLimit:=I.ok.mod.nolimit.keeps I.bk
def Inv.fr (I:Inv X ke σ H s):∃m,Fr X.base X.env.locals s.heap m:=
 let ⟨m,a,_⟩:=I.loc
 ⟨m,a,I.bk,AAY I.ok.bsz I.ok.above⟩
def Inv.lt (I:Inv X ke σ H s):X.env.locals<s.heap.objs.size:=let ⟨_,a,_⟩:=I.loc;a.lt
def Inv.sz (I:Inv X ke σ H s):X.s₀.heap.objs.size<=s.heap.objs.size:=AAY I.ok.above (AB8 I.lt)
def Inv.nofs (I:Inv X ke σ H s){a:zu}(h:s.heap.objs.size<=a):a ∉ X.fs:=λhb=>by obtain⟨_,o,b,_⟩:=I.ok.funs.mem hb;exact absurd (AAV (AAG b) (AAY I.sz h)) (ABW _)
def Inv.cne (I:Inv X ke σ H s):∀x c,X.env.cells.lookup x=some c->c≠X.env.locals:=λx c e z=>by obtain⟨v,o,a,hd⟩:=I.cell x c e;obtain⟨m,⟨f,es,ep,b,d,_⟩,_⟩:=I.loc;rw[z,b] at a;cases a;rw[d] at hd;cases hd
def Inv.funs (I:Inv X ke σ H s):s.heap.FunFrames X.base X.outer:=by
 have all:∀(l:zy Env),(∀b∈ZW l,b∈X.fs)->X.s₀.heap.FunFrames X.base l->s.heap.FunFrames X.base l:=by
  intro l;induction l with
  | nil=>intro _ _;trivial
  | cons env r d=> intro hs hl;obtain⟨hk,⟨L,o,a,f,g,hd⟩,h⟩:=hl;have c:L∈X.fs:=hs L (by unfold ZW;rw[ADO,a];exact ABK);obtain⟨sl,e⟩:=I.base.slot L o g (I.ok.frf L c) c λz=>I.ok.exfs L z c;exact⟨hk,⟨L,_,a,f,e,hd⟩,d (λb hb=>hs b (by unfold ZW;rw[ADO,a];exact ABE _ hb)) h⟩
 exact all X.outer (λ_ hb=>hb) I.ok.funs
def Inv.stack (I:Inv X ke σ H s):s.heap.FunFrames X.base X.stack:=by
 rcases I.ok.stk with e|⟨e,a⟩
 .rw [e];exact I.funs
 .rw [e];obtain⟨m,b,_⟩:=I.loc;refine .cons (by rw[I.ok.kind];decide) a b ?_ I.funs;exact Heap.get?_none_of_le (AAY I.ok.bsz I.ok.above)
def Inv.stkSub (I:Inv X ke σ H s):∀b∈ZW X.stack,b∈X.env.locals::X.fs:=λb hb=>by
 rcases I.ok.stk with e|⟨e,a⟩
 .rw [e] at hb;exact ABE _ hb
 .rw [e] at hb;unfold ZW at hb;rw[ADO,a] at hb;exact hb
def Inv.stkFree (I:Inv X ke σ H s):∀b∈ZW X.stack,H b=none:=λb hb=>by
 rcases AAF.mp (I.stkSub b hb) with e|hb
 .rw [e];exact I.free
 .obtain ⟨_,o,a,_⟩:=I.ok.funs.mem hb;exact I.base.free b o a (I.ok.frf b hb) λz=>I.ok.exfs b z hb
def Inv.step {g':Array GenState}{t':Nat}{d':Drawn}{ch:zy zu}(I:Inv X ke σ H s)(j:∀b∈ch,(b∈X.ex\/X.s₀.heap.objs.size<=b)/\b≠X.env.locals/\(∀x c,X.env.cells.lookup x=some c->c≠b)/\∀p∈X.pn++ke,p.1≠b)(keep:∀b o,b≠X.env.locals->b ∉ X.fs->b ∉ ch->s.heap.get? b=some o->H b=none->h'.get? b=some o)(slot:∀b o,b≠X.env.locals->b∈X.fs->b ∉ ch->s.heap.get? b=some o->H b=none->∃sl,h'.get? b=some {o with slots:=sl})(free:∀b o,b ∉ ch->s.heap.get? b=some o->H b=none->H' b=none)(there:∀b o,b ∉ ch->s.heap.get? b=some o->∃t,h'.get? b=some t)(tups:∀b xs,H b=some (.tup xs)->H' b=some (.tup xs))(frzs:∀b o u,H b=some (.frz o u)->H' b=some (.frz o u))(tbls:∀b ps,H b=some (.tbl ps)->∃more,H' b=some (.tbl (ps++more)))(ns:∀m,s.heap.Ns X.env.locals m->h'.Ns X.env.locals m)(hok:Iy X.prog X.w H' h')(C:AllBare g'):Inv X ke σ H' {s with heap:=h',gens:=g',drawn:=d',toks:=t'}:=by
 have y:∀b o,X.s₀.heap.get? b=some o->b≠X.env.locals:=λb o e=>AAM (AAV (AAG e) I.ok.above);have f:∀b o,X.s₀.heap.get? b=some o->b ∉ X.ex->b ∉ ch:=λb o e hx hb=>by
  rcases (j b hb).1 with z|z
  .exact hx z
  .exact absurd (AAV (AAG e) z) (ABW _)
 have cellK:∀x c,X.env.cells.lookup x=some c->∀v,s.heap.IsCell c v->h'.IsCell c v:=λx c e v ⟨o,h,hd⟩=>by
  have a:c ∉ ch:=λz=>(j c z).2.2.1 x c e rfl;by_cases hc:c∈X.fs
  .obtain ⟨sl,q⟩:=slot c o (I.cne x c e) hc a h (I.freeC x c e);exact⟨_,q,hd⟩
  .exact ⟨o,keep c o (I.cne x c e) hc a h (I.freeC x c e),hd⟩
 refine⟨I.ok,I.os,C,⟨λb o e n hb hx=> ?_,λb o e n hb hx=> ?_,λb o e n hx=> ?_,λb o e hx=> ?_,λb xs e=>tups b xs (I.base.tups b xs e),λb o xs e=>frzs b o xs (I.base.frzs b o xs e),λb ps e=> ?_⟩, ?_,λx c e=> ?_, ?_,λx c e=> ?_,λp hp=> ?_,hok,I.len⟩
 .exact keep b o (y b o e) hb (f b o e hx) (I.base.keep b o e n hb hx) (I.base.free b o e n hx)
 .obtain ⟨sl,g⟩:=I.base.slot b o e n hb hx;obtain⟨Zd,A⟩:=slot b _ (y b o e) hb (f b o e hx) g (I.base.free b o e n hx);exact⟨Zd,A⟩
 .obtain ⟨t,g⟩:=I.base.there b o e hx;exact free b t (f b o e hx) g (I.base.free b o e n hx)
 .obtain ⟨t,g⟩:=I.base.there b o e hx;exact there b t (f b o e hx) g
 .obtain ⟨m1,g⟩:=I.base.tbls b ps e;obtain⟨m2,A⟩:=tbls b _ g;exact⟨m1++m2,by rw[A,Array.append_assoc]⟩
 .obtain ⟨m,D,hl⟩:=I.loc;refine⟨m,ns m D,λi x v g A E=> ?_⟩;obtain⟨u,r,l⟩:=hl i x v g A E;refine⟨u,r, ?_⟩;rcases l with l|⟨k,c,e,z⟩
  .exact .inl l
  .exact .inr ⟨k,c,e,cellK x c e _ z⟩
 .obtain ⟨v,z⟩:=I.cell x c e;exact⟨v,cellK x c e v z⟩
 .obtain ⟨m,⟨o,_,_,h,_⟩,_⟩:=I.loc;exact free _ o (λz=>(j _ z).2.1 rfl) h I.free
 .obtain ⟨v,o,h,hd⟩:=I.cell x c e;exact free c o (λz=>(j c z).2.2.1 x c e rfl) h (I.freeC x c e)
 .obtain ⟨e,n,ne,B,d⟩:=I.pin p hp;have a:p.1 ∉ ch:=λz=>(j p.1 z).2.2.2 p hp rfl;exact⟨keep p.1 p.2 ne B a e n,free p.1 p.2 a e n,ne,B,d⟩
def Inv.un {t':Nat}(I:Inv X ke σ H s)(u:Un X.fs [] H H' s.heap h')(hok:Iy X.prog X.w H' h'):Inv X ke σ H' {s with heap:=h',toks:=t'}:=by
 obtain⟨m,⟨o,es,ep,d,r⟩,_⟩:=id I.loc;obtain⟨sl,g⟩:=u.any d I.free (by simp);exact I.step (g':=s.gens) (d':=s.drawn) (ch:= []) (λ_ z=>nomatch z) (λb o _ hb _ e n=>u.keep b o e n hb (by simp)) (λb o _ hb _ e n=>u.slot b o e n hb (by simp)) (λb o _ e n=>u.free b o e n (by simp)) (λb o _ e=>u.there b o e (by simp)) u.tups u.frzs u.tbls (λj h=>by
  obtain⟨k,a,c,f,i⟩:=h;rw[d] at f;cases f;exact⟨_,a,c,g,i⟩) hok I.bare
def Inv.call {g':Array GenState}{t':Nat}{d':Drawn}{ch:zy zu}(I:Inv X ke σ H s)(u:Un (ZW X.stack) ch H H' s.heap h')(hok:Iy X.prog X.w H' h')(j:AllBare g')(g:∀b∈ch,(b∈X.ex\/X.s₀.heap.objs.size<=b)/\b≠X.env.locals/\(∀x c,X.env.cells.lookup x=some c->c≠b)/\∀p∈X.pn++ke,p.1≠b):Inv X ke σ H' {s with heap:=h',gens:=g',drawn:=d',toks:=t'}:=by
 obtain⟨m,⟨o,es,ep,h,r⟩,_⟩:=id I.loc;obtain⟨sl,a⟩:=u.any h I.free λz=>(g _ z).2.1 rfl;exact I.step (ch:=ch) g (λb o a hb hc e n=>u.keep b o e n (λz=>(AAF.mp (I.stkSub b z)).elim a hb) hc) (λb o _ _ hc e n=>u.any e n hc) (λb o hc e n=>u.free b o e n hc) (λb o hc e=>u.there b o e hc) u.tups u.frzs u.tbls (λt k=>by
  obtain⟨v,d,f,i,l⟩:=k;rw[h] at i;cases i;exact⟨_,d,f,a,l⟩) hok j
def Inv.turned {t':Nat}{it:zu}(I:Inv X ke σ H s)(k:∀b o,b≠it->s.heap.get? b=some o->h'.get? b=some o)(f:H it=none)(d:it≠X.env.locals)(h1:it∈X.ex\/X.s₀.heap.objs.size<=it)(h2:∀x c,X.env.cells.lookup x=some c->c≠it)(h3:∀p∈X.pn++ke,p.1≠it):Inv X ke σ H {s with heap:=h',toks:=t'}:=by
 have a:∀b u,H b=some u->b≠it:=λb u e z=>by rw[z,f] at e;cases e
 refine I.step (g':=s.gens) (d':=s.drawn) (ch:= [it]) (λb hb=> ?_) (λb o _ _ hc e _=>k b o (λz=>hc (by simp[z])) e) (λb o _ _ hc e _=>⟨o.slots,k b o (λz=>hc (by simp[z])) e⟩) (λ_ _ _ _ n=>n)
  (λb o hc e=>⟨o,k b o (λz=>hc (by simp[z])) e⟩) (λ_ _ e=>e) (λ_ _ _ e=>e) (λb ps e=>⟨#[],by rw[e];simp⟩) (λm g=> ?_) (λb u e=> ?_) I.bare
 .have e:b=it:=by simpa using hb
  subst e;exact⟨h1,d,h2,h3⟩
 .obtain ⟨o,es,ep,h,r⟩:=g;exact⟨o,es,ep,k _ o (AA6 d) h,r⟩
 .refine (I.hok b u e).stay (λc v hc q=>k c v ?_ q) (λ_ q=>q) λ_ _ q=>q;rcases hc with z|z
  .rw [z];exact a b u e
  .exact a c _ z
def Inv.tok (I:Inv X ke σ H s)(t:Nat):Inv X ke σ H {s with toks:=t}:=I.un (h':=s.heap) (t':=t) Un.refl I.hok
def Inv.kept {t':Nat}(I:Inv X ke σ H s)(k:∀b u,s.heap.get? b=some u->h'.get? b=some u):Inv X ke σ H {s with heap:=h',toks:=t'}:=I.un (Un.kept k) (I.hok.kept k)
def Inv.laid {a:zu}{o:HO}{t':Nat}(I:Inv X ke σ H s)(k:∀b u,s.heap.get? b=some u->h'.get? b=some u)(hp:s.heap.objs.size<=a)(new:CC X.prog X.w (upd H a o) h' a o):Inv X ke σ (upd H a o) {s with heap:=h',toks:=t'}:=I.un (Un.laid k hp (I.hok.fresh hp)) (I.hok.laid k hp new)
def Inv.write {x e:zu}{o:HO}{t':Nat}(I:Inv X ke σ H s)(a:mj (H x))(he:e=x\/H e=some (.own x))(k:∀b u,b≠e->s.heap.get? b=some u->h'.get? b=some u)(c:∃u,h'.get? e=some u)(new:CC X.prog X.w (upd H x o) h' x o):Inv X ke σ (upd H x o) {s with heap:=h',toks:=t'}:=I.un (Un.write a he k c) (I.hok.write a he k c new)
def Inv.weak {σ':zy (zt V)}(I:Inv X ke σ H s)(hl:σ'.length=σ.length)(w:∀(i:Nat) v,σ'[i]? =some (some v)->σ[i]? =some (some v)):Inv X ke σ' H s:=
 ⟨I.ok,I.os,I.bare,I.base,let ⟨m,a,b⟩:=I.loc;⟨m,a,λi x v c d e=>b i x v c (w i v d) e⟩,I.cell,I.free,I.freeC,I.pin,I.hok,hl.trans I.len⟩
def Inv.pins_of {a:zy (zu×Obj)}(I:Inv X ke σ H s)(h:∀p∈a,s.heap.get? p.1=some p.2/\H p.1=none/\p.1≠X.env.locals/\p.1 ∉ X.fs/\∀v,p.2.data≠ .cell v):Inv X a σ H s:=
 ⟨I.ok,I.os,I.bare,I.base,I.loc,I.cell,I.free,I.freeC,λp hp=>(AAQ.mp hp).elim (λz=>I.pin p (List.mem_append_left _ z)) (h p),I.hok,I.len⟩
def Tx {N:zy Str}(hN:N.Nodup){i j:Nat}{x:Str}(a:N[i]? =some x)(b:N[j]? =some x):i=j:=by obtain⟨h1,c⟩:=AAz.mp a;obtain⟨h2,d⟩:=AAz.mp b;exact(List.getElem_inj hN).mp (c.trans d.symm)
def Kk {M:Model}{A:kf}{E:zx->zw->Prop}{i:Nat}{x:Str}{v:V}{u:zx}{Q:Unit->zw->Prop}(I:Inv X ke σ H s)(hN:X.N.Nodup)(hi:X.N[i]? =some x)(hx:Loc X.env.scope x)(r:RelV v u)(h:∀D,Inv X ke (σ.set i (some v)) H D->(∃a,Heap.SameBut a s.heap D.heap/\(a=X.env.locals\/X.env.cells.lookup x=some a))->Q () D)(Z:X.fn x=true\/X.env.scope.names.lookup x=some .local:=by first | exact .inl rfl|exact .inr rfl|assumption):wpAny M A (storeName X.env x u) Q E s:=by
 obtain⟨m,F,hl⟩:=id I.loc;have rj:(X.env.scope.kind == .class||(X.env.scope.kind == .module&&X.env.locals != X.env.globals))=false:=by rw[I.ok.kind];rfl
 have l:i<σ.length:=by rw[I.len];exact(AAz.mp hi).1
 have t:=I.cne;have tracked:∀{a:zu} {h':ki},(∃o,s.heap.get? a=some o/\H a=none)->Heap.SameBut a s.heap h'->Iy X.prog X.w H h':=λ{a h'} ha hs b ob e=>by
  obtain⟨_,_,S⟩:=ha;refine(I.hok b ob e).stay (λc B hc q=>(hs.2 c ?_).trans q) (λ_ q=>q) λ_ _ q=>q;rintro rfl;rcases hc with rfl|hc
  .rw [S] at e;cases e
  .rw [S] at hc;cases hc
 rcases hx with hk|hk
 .refine wpAny_storeName_local hk F (λh' yS hs=> ?_) rj;obtain⟨oL,_,_,yU,_⟩:=id F;refine h _ ⟨I.ok,I.os,I.bare,⟨λb o e n hb hx=> ?_,λb o e n hb hx=> ?_,I.base.free,λb o e hx=> ?_,I.base.tups,I.base.frzs,I.base.tbls⟩,⟨_,yS,λj y G f g J=> ?_⟩,λy c e=> ?_,I.free,I.freeC,λp hp=> ?_,tracked ⟨oL,yU,I.free⟩ hs,by simpa using I.len⟩ ⟨_,hs, .inl rfl⟩
  .exact (hs.2 b (AAM (AAV (AAG e) I.ok.above))).trans (I.base.keep b o e n hb hx)
  .obtain ⟨sl,f⟩:=I.base.slot b o e n hb hx;exact⟨sl,(hs.2 b (AAM (AAV (AAG e) I.ok.above))).trans f⟩
  .obtain ⟨K,f⟩:=I.base.there b o e hx;exact⟨K,(hs.2 b (AAM (AAV (AAG e) I.ok.above))).trans f⟩
  .by_cases hj:j=i
   .subst hj;rw[hi] at f;cases f;rw[AB9 l] at g;cases g;exact⟨u,r, .inl ⟨hk,by simp⟩⟩
   .rw [AAb (AA6 hj)] at g;obtain⟨L,O,q⟩:=hl j y G f g J;refine⟨L,O, ?_⟩;rcases q with⟨k,e⟩|⟨k,c,e,z⟩
    .refine .inl ⟨k, ?_⟩;have:y≠x:=λe=>hj (Tx hN f (e ▸ hi));simp[this,e]
    .exact .inr ⟨k,c,e,z.sameBut hs (t y c e)⟩
  .obtain ⟨B,z⟩:=I.cell y c e;exact⟨B,z.sameBut hs (t y c e)⟩
  .obtain ⟨e,n,ne,P,d⟩:=I.pin p hp;exact⟨(hs.2 p.1 ne).trans e,n,ne,P,d⟩
 .have R:X.fn x=true:=by
   rcases Z with z|z
   .exact z
   .rw [z] at hk;cases hk
  obtain⟨c,hc⟩:=I.ok.has x (.inl hk);obtain⟨B,z⟩:=I.cell x c hc;refine wpAny_storeName_cell I.ok.kind hk hc z (λh' T hs=> ?_);obtain⟨U,W,sC⟩:=id z;refine h {s with heap:=h'} ⟨I.ok,I.os,I.bare,⟨λb o e n hb hx=> ?_,λb o e n hb hx=> ?_,I.base.free,λb o e hx=> ?_,I.base.tups,I.base.frzs,I.base.tbls⟩,⟨m,F.sameBut hs (AA6 (t x c hc)),λj y G f g J=> ?_⟩,λy C e=> ?_,I.free,I.freeC,λp hp=> ?_,tracked ⟨U,W,I.freeC x c hc⟩ hs,by simpa using I.len⟩ ⟨c,hs, .inr hc⟩
  .exact (hs.2 b (AAM (AAV (AAG e) (I.ok.cab x c R hc)))).trans (I.base.keep b o e n hb hx)
  .obtain ⟨sl,f⟩:=I.base.slot b o e n hb hx;exact⟨sl,(hs.2 b (AAM (AAV (AAG e) (I.ok.cab x c R hc)))).trans f⟩
  .obtain ⟨K,f⟩:=I.base.there b o e hx;exact⟨K,(hs.2 b (AAM (AAV (AAG e) (I.ok.cab x c R hc)))).trans f⟩
  .by_cases hj:j=i
   .subst hj;rw[hi] at f;cases f;rw[AB9 l] at g;cases g;exact⟨u,r, .inr ⟨.inl hk,c,hc,T⟩⟩
   .rw [AAb (AA6 hj)] at g;obtain⟨L,O,q⟩:=hl j y G f g J;refine⟨L,O, ?_⟩;rcases q with q|⟨k,C,e,z'⟩
    .exact .inl q
    .refine .inr ⟨k,C,e,z'.sameBut hs ?_⟩;rintro rfl;exact hj (Tx hN f (I.ok.inj _ _ _ e hc ▸ hi))
  .by_cases Y:C=c
   .subst Y;exact⟨_,T⟩
   .obtain ⟨w2,z2⟩:=I.cell y C e;exact⟨w2,z2.sameBut hs Y⟩
  .obtain ⟨e,n,ne,P,d⟩:=I.pin p hp;refine⟨(hs.2 p.1 ?_).trans e,n,ne,P,d⟩;intro q;rw[q,W] at e;have q':U=p.2:=AAX e;exact d B (by rw[<-q'];exact sC)
def G3 {M:Model}{A:kf}{E:zx->zw->Prop}{i:Nat}{x:Str}{v:V}{u:zx}{Q:Unit->zw->Prop}(I:Inv X ke σ H s)(hN:X.N.Nodup)(hi:X.N[i]? =some x)(hx:Loc X.env.scope x)(r:RelV v u)(h:∀a,Inv X ke (σ.set i (some v)) H a->Q () a)(b:X.fn x=true\/X.env.scope.names.lookup x=some .local:=by first | exact .inl rfl|exact .inr rfl|assumption):wpAny M A (storeName X.env x u) Q E s:=
 Kk I hN hi hx r (λa c _=>h a c) b
def Inv.call' {a:zw}{ch:zy zu}(I:Inv X ke σ H s)(d:a.os=s.os)(u:Un (ZW X.stack) ch H H' s.heap a.heap)(hok:Iy X.prog X.w H' a.heap)(f:AllBare a.gens)(g:∀b∈ch,(b∈X.ex\/X.s₀.heap.objs.size<=b)/\b≠X.env.locals/\(∀x c,X.env.cells.lookup x=some c->c≠b)/\∀p∈X.pn++ke,p.1≠b):Inv X ke σ H' a:=by obtain⟨h',g',d',t',h⟩:=a;have e:h=s.os:=d;subst e;exact I.call (g':=g') (t':=t') (d':=d') u hok f g
end
abbrev XK:=zx->zt zu->Hp->Prop
abbrev St:=zy (zt V)
abbrev VK:=V->Hp->Prop
abbrev TE:=St->Hp->VK->Prop
abbrev TT:=St->Hp->(kn->Hp->Prop)->Prop
abbrev TA:=St->Hp->(zy V->Hp->Prop)->Prop
structure Qx where
 nx:St->Hp->Prop
 rt:VK
 bk:St->Hp->Prop:=λ_ _=>False
 ct:St->Hp->Prop:=λ_ _=>False
abbrev TS:=Qx->St->Hp->Prop
def EP (X:Cx)(b:zy (zu×Obj))(c:St)(Q:VK)(u:zx)(d:zw):Prop:=∃v a,Inv X b c a d/\RelV v u/\Q v a
def TP (X:Cx)(c:zy (zu×Obj))(d:St)(Q:kn->Hp->Prop)(b:kn)(e:zw):Prop:=∃a,Inv X c d a e/\Q b a
def AP (X:Cx)(b:zy (zu×Obj))(c:St)(Q:zy V->Hp->Prop)(d:zy zx)(e:zw):Prop:=∃vs a,Inv X b c a e/\At vs d/\Q vs a
def SP (X:Cx)(b:zy (zu×Obj))(D:Qx)(f:Flow)(c:zw):Prop:=
 match f with
 | .next=>∃σ' a,Inv X b σ' a c/\D.nx σ' a
 | .brk=>∃σ' a,Inv X b σ' a c/\D.bk σ' a
 | .cont=>∃σ' a,Inv X b σ' a c/\D.ct σ' a
 | .ret u=>∃v σ' a,Inv X b σ' a c/\RelV v u/\D.rt v a
def PE (X:Cx)(e:zr)(t:TE):Prop:=
 ∀(b:zy (zu×Obj)) (s:zw) (a:St) (H:Hp) (Q:VK),Inv X b a H s->t a H Q->wpAny (model X.prog X.w) X.A (eval e X.env) (EP X b a Q) X.xe s
def PT (X:Cx)(e:zr)(t:TT):Prop:=
 ∀(b:zy (zu×Obj)) (s:zw) (a:St) (H:Hp) (Q:kn->Hp->Prop),Inv X b a H s->t a H Q->wpAny (model X.prog X.w) X.A (isTrue e X.env (eval e X.env)) (TP X b a Q) X.xe s
def PW (X:Cx)(e:zr)(t:TT):Prop:=
 ∀(whole:Sem zx) (b:zy (zu×Obj)) (s:zw) (a:St) (H:Hp) (Q:kn->Hp->Prop),Inv X b a H s->t a H Q->wpAny (model X.prog X.w) X.A (isTrue e X.env whole) (TP X b a Q) X.xe s
def PW.pt {X:Cx}{e:zr}{t:TT}(h:PW X e t):PT X e t:=h _
def PA (X:Cx)(es:zy zr)(t:TA):Prop:=
 ∀(pos:Pos) (b:zy (zu×Obj)) (s:zw) (a:St) (H:Hp) (Q:zy V->Hp->Prop),Inv X b a H s->t a H Q->wpAny (model X.prog X.w) X.A (spliced (backTo pos (starEach es X.env))) (AP X b a Q) X.xe s
def PS (X:Cx)(st:Stmt)(t:TS):Prop:=
 ∀(a:zy (zu×Obj)) (s:zw) (b:St) (H:Hp) (D:Qx),Inv X a b H s->t D b H->wpAny (model X.prog X.w) X.A (exec st X.env) (SP X a D) X.xe s
def S4 (X:Cx)(st:zy Stmt)(t:TS):Prop:=
 ∀(a:zy (zu×Obj)) (s:zw) (b:St) (H:Hp) (D:Qx),Inv X a b H s->t D b H->wpAny (model X.prog X.w) X.A (execs st X.env) (SP X a D) X.xe s
def BJ {b:Type}{t:Sem b}{Q c:b->zw->Prop}{M:Model}{A:kf}{E:zx->zw->Prop}{s:zw}(h:wpAny M A t Q E s)(hQ:∀a s,Q a s->c a s):wpAny M A t c E s:=ABL h hQ λ_ _ x=>x
section
variable {X:Cx}
def IY (i:Nat):TE:=λa H Q=>∃v,a[i]? =some (some v)/\Q v H
def tC (v:V):TE:=λ_ H Q=>Q v H
def Ny {i:Nat}{x:Str}{pos:Pos}(hN:X.N[i]? =some x)(hv:gy X.env.scope x)(hd:(x==("__debug__" :Str))=false:=by decide)(d:(x==("__classdict__" :Str))=false:=by decide):PE X (.Name x pos) (IY i):=by
 intro f s g H Q I h;obtain⟨v,e,h⟩:=h;obtain⟨m,j,hl⟩:=I.loc;obtain⟨u,r,l⟩:=hl i x v hN e hv;have a:EP X f g Q u s:=⟨v,H,I,r,h⟩;rcases l with⟨hk,k⟩|⟨hk,c,hc,b⟩
 .exact wpAny_Name (wpAny_loadName_local I.ok.kind hk j k a) hd
 .rcases hk with hk|hk
  .exact wpAny_Name (wpAny_loadName_cell I.ok.kind hk hc b a) hd
  .exact wpAny_Name (wpAny_loadName_free I.ok.kind hk hc b a d) hd
def BH {i j pos}:PE X (.Constant (.int i) j pos) (tC (.int i)):=λ_ _ _ H _ I h=>wpAny_Constant_int ⟨.int i,H,I.tok _,⟨_,rfl⟩,h⟩
def oR {b j pos}:PE X (.Constant (.bool b) j pos) (tC (.bl b)):=λ_ _ _ H _ I h=>Constant_bool ⟨.bl b,H,I,rfl,h⟩
def kH {j pos}:PE X (.Constant .none j pos) (tC .non):=λ_ _ _ H _ I h=>Constant_none ⟨.non,H,I,rfl,h⟩
def kK {x j pos}:PE X (.Constant (.str x) j pos) (tC (.str x)):=λ_ _ _ H _ I h=>Calls.Constant_str ⟨.str x,H,I.tok _,⟨_,rfl⟩,h⟩
def Gl (X:Cx)(x:Str):Prop:=X.env.kindOf x=some .globalImplicit
def XN {E:zx->zw->Prop}{a:zy (zu×Obj)}{s:zw}{b:St}{H:Hp}{x:Str}{u:zx}{pos:Pos}{Q:zx->zw->Prop}(I:Inv X a b H s)(c:Gl X x)(d:X.mg x=some u)(h:Q u s)(hd:(x==("__debug__" :Str))=false:=by decide):wpAny (model X.prog X.w) X.A (eval (.Name x pos) X.env) Q E s:=
 Calls.Name_function_global I.ok.kind c (Calls.loadGlobal_global (by rw[I.ok.glob];exact I.mod.glob.keeps I.bk) d h) hd
def Gc {E:zx->zw->Prop}{a:zy (zu×Obj)}{s:zw}{b:St}{H:Hp}{x:Str}{u:zx}{pos:Pos}{Q:zx->zw->Prop}(I:Inv X a b H s)(c:Gl X x)(d:X.mg x=none)(hv:bootBuiltins x=some u)(h:Q u s)(e:x≠"__name__" :=by decide)(hd:(x==("__debug__" :Str))=false:=by decide):wpAny (model X.prog X.w) X.A (eval (.Name x pos) X.env) Q E s:=by obtain⟨f,h1,h2⟩:=I.mod.blt;exact Calls.Name_function_global I.ok.kind c (Calls.loadGlobal_builtin (by rw[I.ok.glob];exact I.mod.glob.keeps I.bk) d (by rw[I.ok.blt];exact h1.keeps I.bk) ((h2 x e).trans hv) h) hd
def fS {x:Str}{v:V}{u:zx}{pos:Pos}(a:Gl X x)(b:X.mg x=some u)(r:RelV v u)(hd:(x==("__debug__" :Str))=false:=by decide):PE X (.Name x pos) (tC v):=
 λ_ _ _ H _ I h=>XN I a b ⟨v,H,I,r,h⟩ hd
def Fv {x:Str}{v:V}{u:zx}{pos:Pos}(a:Gl X x)(b:X.mg x=none)(hv:bootBuiltins x=some u)(r:RelV v u)(c:x≠"__name__" :=by decide)(hd:(x==("__debug__" :Str))=false:=by decide):PE X (.Name x pos) (tC v):=
 λ_ _ _ H _ I h=>Gc I a b hv ⟨v,H,I,r,h⟩ c hd
variable {a b:zr}{ta tb:TE}{pos:Pos}
def tB (t:TE):TT:=λd H Q=>t d H λx H1=>∃c,x= .bl c/\Q c H1
def kS {e:zr}{t:TE}(h:PE X e t)(he:∀whole,isTrue e X.env whole=(do let v <-whole;standAt e.pos;holding [v] (truthy v)):=by intro _;rfl):PT X e (tB t):=by intro c s f H Q I hw;refine isTrue_plain (BJ (h c s f H _ I hw) λv k ⟨x,H1,g,i,j⟩=> ?_) (he _);obtain⟨d,rfl,q⟩:=j;cases i;exact ABk ⟨H1,g,q⟩
variable {tA tB':TT}{rest:zy zr}
def sn (t u:TT):TT:=λd H Q=>t d H λc H1=>if c=true then u d H1 Q else Q false H1
def yo (t u:TT):TT:=λd H Q=>t d H λc H1=>if c=true then Q true H1 else u d H1 Q
def tH (t:TT):TT:=λd H Q=>t d H λc H1=>Q (!c) H1
def fx (ha:PT X a tA):PW X (.BoolOp .And [a] pos) tA:=by
 intro g d s f H Q I h;refine isTrue_and (BJ (ha d s f H Q I h) λc i e=> ?_);cases c with
 | true=>exact isTrue_and_nil e
 | false=>exact e
def kX (ha:PT X a tA):PW X (.BoolOp .Or [a] pos) tA:=by
 intro g d s f H Q I h;refine isTrue_or (BJ (ha d s f H Q I h) λc i e=> ?_);cases c with
 | false=>exact isTrue_or_nil e
 | true=>exact e
def kW (ha:PT X a tA)(hb:PW X (.BoolOp .And (b::rest) pos) tB'):PW X (.BoolOp .And (a::b::rest) pos) (sn tA tB'):=by
 intro i d s e H Q I h;refine isTrue_and (BJ (ha d s e H _ I h) λc j ⟨H1,f,g⟩=> ?_);cases c with
 | true=>exact hb i d j e H1 Q f g
 | false=>exact⟨H1,f,g⟩
def oW (ha:PT X a tA)(hb:PW X (.BoolOp .Or (b::rest) pos) tB'):PW X (.BoolOp .Or (a::b::rest) pos) (yo tA tB'):=by
 intro i d s e H Q I h;refine isTrue_or (BJ (ha d s e H _ I h) λc j ⟨H1,f,g⟩=> ?_);cases c with
 | true=>exact⟨H1,f,g⟩
 | false=>exact hb i d j e H1 Q f g
def kR (ha:PT X a tA):PT X (.UnaryOp .Not a pos) (tH tA):=by intro d s e H Q I h;exact isTrue_not (ha d s e H (λc H1=>Q (!c) H1) I h)
def pR (ta tb:TE):TE:=λd H Q=>ta d H λx H1=>∃c,x= .bl c/\if c=true then tb d H1 Q else Q (.bl false) H1
def tJ (ta tb:TE):TE:=λd H Q=>ta d H λx H1=>∃c,x= .bl c/\if c=true then Q (.bl true) H1 else tb d H1 Q
def ph (ta:TE):TE:=λd H Q=>ta d H λx H1=>∃c,x= .bl c/\Q (.bl (!c)) H1
def kJ {op}{t:TE}(h:PE X a t):PE X (.BoolOp op [a] pos) t:=λc s d H Q I hw=>BoolOp_one (h c s d H Q I hw)
def kE (ha:PE X a ta)(hb:PE X (.BoolOp .And (b::rest) pos) tb):PE X (.BoolOp .And (a::b::rest) pos) (pR ta tb):=by
 intro e s f H Q I h;refine BoolOp_and (BJ (ha e s f H _ I h) λv i ⟨x,H1,g,j,d⟩=> ?_);obtain⟨c,rfl,d⟩:=d;cases j;refine ABk ?_;cases c with
 | true=>exact hb e i f H1 Q g d
 | false=>exact⟨.bl false,H1,g,rfl,d⟩
def oT (ha:PE X a ta)(hb:PE X (.BoolOp .Or (b::rest) pos) tb):PE X (.BoolOp .Or (a::b::rest) pos) (tJ ta tb):=by
 intro e s f H Q I h;refine BoolOp_or (BJ (ha e s f H _ I h) λv i ⟨x,H1,g,j,d⟩=> ?_);obtain⟨c,rfl,d⟩:=d;cases j;refine ABk ?_;cases c with
 | false=>exact hb e i f H1 Q g d
 | true=>exact⟨.bl true,H1,g,rfl,d⟩
def kI (ha:PE X a ta):PE X (.UnaryOp .Not a pos) (ph ta):=by intro e s f H Q I h;refine UnaryOp_ (BJ (ha e s f H _ I h) λv j ⟨x,H1,g,i,d⟩=> ?_);obtain⟨c,rfl,d⟩:=d;cases i;exact not_of (ABk ⟨.bl (!c),H1,g,rfl,d⟩)
def yn (t:TT)(ta tb:TE):TE:=λd H Q=>t d H λc H1=>if c=true then ta d H1 Q else tb d H1 Q
def bZ {c:zr}(hc:PT X c tA)(ha:PE X a ta)(hb:PE X b tb):PE X (.IfExp c a b pos) (yn tA ta tb):=by
 intro e s f H Q I h;refine wpAny_IfExp (BJ (hc e s f H _ I h) λd g ⟨H1,i,j⟩=> ?_);cases d with
 | true=>exact ha e g f H1 Q i j
 | false=>exact hb e g f H1 Q i j
end
def FO (K:AAB)(H:Hp)(a:zu)(xs:zy V):Prop:=
 Rd H a (.lst xs)\/
  ∃(o:Obj) (b:Array zx) (n:Nat),K.lookup a=some o/\o.cls= .type "list" /\o.dict=none/\o.data= .seq b n/\b.size<=sizeLine/\At xs b.toList
def M6 (K:AAB)(H:Hp)(a:zu)(xs:zy V):Prop:=
 Rd H a (.tup xs)\/
  ∃(o:Obj) (b:Array zx) (n:Nat),K.lookup a=some o/\o.cls= .type "tuple" /\o.data= .seq b n/\b.size<=sizeLine/\At xs b.toList
def rM:zx->zt V
 | .none=>some .non
 | .bool b=>some (.bl b)
 | .int i _=>some (.int i)
 | .str x _=>some (.str x)
 | .bytes b _=>some (.byt b)
 | .float b _=>some (.flt b)
 | .ref a=>some (.ref a)
 | .type n=>some (.ty n)
 | _=>none
def RelV.abs {x:V}{u:zx}(r:RelV x u):rM u=some x:=by
 cases x with
 | non=>cases r;rfl
 | bl _=>cases r;rfl
 | int _=>obtain⟨t,rfl⟩:=r;rfl
 | str _=>obtain⟨t,rfl⟩:=r;rfl
 | byt _=>obtain⟨t,rfl⟩:=r;rfl
 | flt _=>obtain⟨t,rfl⟩:=r;rfl
 | ref _=>cases r;rfl
 | ty _=>cases r;rfl
def RelV.inj {x y:V}{u:zx}(r:RelV x u)(q:RelV y u):x=y:=AAX (r.abs.symm.trans q.abs)
theorem At.inj:∀{xs a:zy V} {b:zy zx},At xs b->At a b->xs=a
 | _,_,_, .nil, .nil=>rfl
 | _,_,_, .cons r t, .cons c t'=>by rw[r.inj c,At.inj t t']
section
variable {X:Cx}{ke:zy (zu×Obj)}{σ:St}{H:Hp}{s:zw}{a:zu}{xs ys:zy V}
def FO.of {K:AAB}(h:H a=some (.lst xs)):FO K H a xs:= .inl (.inl h)
def Inv.list (I:Inv X ke σ H s)(h:FO X.K H a xs):∃b:zy zx,At xs b/\PlainL s.heap a b.toArray/\xs.length<=sizeLine:=by
 rcases h with h|⟨o,b,n,hk,hc,hd,hs,c,r⟩
 .obtain ⟨z,b,n,r,e⟩:=h.ok I.hok;exact⟨b,r,⟨_,n,e,rfl,rfl,rfl⟩,z⟩
 .refine ⟨b.toList,r,⟨o,n,I.kIn a o hk,hc,hd,by simpa using hs⟩, ?_⟩;have e:=r.length;simp only[AB7] at e;omega
def Inv.tuple (I:Inv X ke σ H s)(h:M6 X.K H a xs):∃b:zy zx,At xs b/\IsTup s.heap a b.toArray/\xs.length<=sizeLine:=by
 rcases h with h|⟨o,b,n,hk,hc,hs,c,r⟩
 .obtain ⟨z,b,r,p⟩:=h.ok I.hok;exact⟨b,r,p,z⟩
 .refine ⟨b.toList,r,⟨o,I.kIn a o hk,hc,n,by simpa using hs⟩, ?_⟩;have e:=r.length;simp only[AB7] at e;omega
def Inv.list_inj (I:Inv X ke σ H s)(h:FO X.K H a xs)(h':FO X.K H a ys):xs=ys:=by
 obtain⟨b,r,⟨o,n,e,_,_,d⟩,_⟩:=I.list h;obtain⟨its',f,⟨i,j,c,_,_,d'⟩,_⟩:=I.list h';rw[e] at c;cases c;rw[d] at d';injection d' with g _;have:b=its':=by simpa using congrArg Array.toList g
 subst this;exact r.inj f
def Inv.tuple_inj (I:Inv X ke σ H s)(h:M6 X.K H a xs)(h':M6 X.K H a ys):xs=ys:=by
 obtain⟨b,r,⟨o,e,_,n,d⟩,_⟩:=I.tuple h;obtain⟨its',f,⟨i,c,_,j,d'⟩,_⟩:=I.tuple h';rw[e] at c;cases c;rw[d] at d';injection d' with g _;have:b=its':=by simpa using congrArg Array.toList g
 subst this;exact r.inj f
end
abbrev Cx.wish (X:Cx)(E:zx->zw->Prop):Cx:={X with xe:=E}
abbrev Cx.nox (X:Cx):Cx:=X.wish λ_ _=>False
def Cx.Ok.wish {X:Cx}(ok:X.Ok)(E:zx->zw->Prop):(X.wish E).Ok:=
 ⟨ok.mod,ok.kind,ok.glob,ok.blt,ok.above,ok.inj,ok.has,ok.cab,ok.hd,ok.frames,ok.stk,ok.exf,ok.bs,ok.bsz,ok.noex,ok.exfs,ok.funs,ok.frf⟩
def Cx.Ok.unwish {X:Cx}{E:zx->zw->Prop}(ok:(X.wish E).Ok):X.Ok:=
 ⟨ok.mod,ok.kind,ok.glob,ok.blt,ok.above,ok.inj,ok.has,ok.cab,ok.hd,ok.frames,ok.stk,ok.exf,ok.bs,ok.bsz,ok.noex,ok.exfs,ok.funs,ok.frf⟩
section
variable {X:Cx}{ke:zy (zu×Obj)}{σ:St}{H:Hp}{s:zw}{E:zx->zw->Prop}
def Inv.wish (I:Inv X ke σ H s)(E:zx->zw->Prop):Inv (X.wish E) ke σ H s:=⟨I.ok.wish E,I.os,I.bare,I.base,I.loc,I.cell,I.free,I.freeC,I.pin,I.hok,I.len⟩
def Inv.unwish (I:Inv (X.wish E) ke σ H s):Inv X ke σ H s:=⟨I.ok.unwish,I.os,I.bare,I.base,I.loc,I.cell,I.free,I.freeC,I.pin,I.hok,I.len⟩
def SP.unwish {D:Qx}{f:Flow}{b:zw}(h:SP (X.wish E) ke D f b):SP X ke D f b:=by
 cases f with
 | next=>obtain⟨σ',a,I,q⟩:=h;exact⟨σ',a,I.unwish,q⟩
 | brk=>obtain⟨σ',a,I,q⟩:=h;exact⟨σ',a,I.unwish,q⟩
 | cont=>obtain⟨σ',a,I,q⟩:=h;exact⟨σ',a,I.unwish,q⟩
 | ret u=>obtain⟨v,σ',a,I,r,q⟩:=h;exact⟨v,σ',a,I.unwish,r,q⟩
def S4.nox {st:zy Stmt}{t:TS}(h:S4 X.nox st t):S4 X st t:=λke s σ H D I hw=>
 ABL (h ke s σ H D (I.wish _) hw) (λ_ _ q=>q.unwish) λ_ _ z=>False.elim z
end
section
variable {X:Cx}{st:Stmt}{rest:zy Stmt}{t u:TS}{e:zr}{te:TE}{pos:Pos}
def pY:TS:=λD a H=>D.nx a H
def pk (t u:TS):TS:=λD a H=>t {D with nx:=u D} a H
def Rx:S4 X [] pY:=λ_ _ a H _ I h=>ACs ⟨a,H,I,h⟩
def Cf (h1:PS X st t)(h2:S4 X rest u):S4 X (st::rest) (pk t u):=by
 intro a s b H D I h;refine wpAny_execs_cons (BJ (h1 a s b H {D with nx:=u D} I h) λf c q=> ?_);cases f with
 | next=> obtain⟨σ',d,g,q⟩:=q;exact h2 a c σ' d D g q
 | ret v=>exact q
 | brk=>exact q
 | cont=>exact q
def HI (h1:PS X st t):S4 X [st] t:=by
 intro a s b H D I h;refine wpAny_execs_cons (BJ (h1 a s b H D I h) λf c q=> ?_);cases f with
 | next=>exact ACs q
 | ret v=>exact q
 | brk=>exact q
 | cont=>exact q
def Inv.quiet {a:zy (zu×Obj)}{b:St}{H:Hp}{s:zw}(I:Inv X a b H s):interactive X.env=false:=by simp[interactive,I.ok.kind]
def iU (te:TE):TS:=λD a H=>te a H λ_ H1=>D.nx a H1
def fo (he:PE X e te)(hs:swapsWith e none pos.line X.env=pure false:=by rfl):PS X (.Expr e pos) (iU te):=by intro b s a H D I h;exact wpAny_Expr_any (BJ (he b s a H _ I h) λv f ⟨x,H1,c,g,d⟩=>⟨a,H1,c,d⟩) I.quiet hs
def tL (te:TE):TS:=λD a H=>te a H D.rt
def Rv (he:PE X e te):PS X (.Return (some e) pos) (tL te):=by intro b s a H D I h;exact wpAny_Return_some (BJ (he b s a H _ I h) λv g ⟨x,H1,c,d,f⟩=>⟨x,a,H1,c,d,f⟩)
def tF (c:TT)(t u:TS):TS:=λD a H=>c a H λb H1=>if b=true then t D a H1 else u D a H1
def cB {c:zr}{a b:zy Stmt}{i:TT}(hc:PT X c i)(ha:S4 X a t)(hb:S4 X b u):PS X (.If c a b pos) (tF i t u):=by
 intro f s g H D I h;refine wpAny_If (BJ (hc f s g H _ I h) λd j ⟨H1,k,l⟩=> ?_);cases d with
 | true=>exact ha f j g H1 D k l
 | false=>exact hb f j g H1 D k l
end
abbrev TG:=V->St->Hp->(St->Hp->Prop)->Prop
abbrev U9:=zy V->St->Hp->(St->Hp->Prop)->Prop
def PG (X:Cx)(target:zr)(t:TG):Prop:=
 ∀(a:zy (zu×Obj)) (s:zw) (b:St) (H:Hp) (v:V) (u:zx) (Q:St->Hp->Prop),Inv X a b H s->RelV v u->t v b H Q->
  wpAny (model X.prog X.w) X.A (assign target X.env u) (λ_ d=>∃σ' c,Inv X a σ' c d/\Q σ' c) X.xe s
def l8 (X:Cx)(e:zy zr)(t:U9):Prop:=
 ∀(a:zy (zu×Obj)) (s:zw) (b:St) (H:Hp) (vs:zy V) (c:zy zx) (Q:St->Hp->Prop),Inv X a b H s->At vs c->t vs b H Q->
  wpAny (model X.prog X.w) X.A (assignInOrder ((assignEach e X.env).map (·.2)) c) (λ_ f=>∃σ' d,Inv X a σ' d f/\Q σ' d) X.xe s
abbrev Zw:=V->V->V->Hp->(Hp->Prop)->Prop
def ii (X:Cx)(t:Zw):Prop:=
 ∀(a:zy (zu×Obj)) (s:zw) (b:St) (H:Hp) (o i v:V) (c d u:zx) (Q:Hp->Prop),Inv X a b H s->RelV o c->RelV i d->RelV v u->t o i v H Q->
  wpAny (model X.prog X.w) X.A (setItem c d u) (λ_ f=>∃e,Inv X a b e f/\Q e) X.xe s
abbrev iy:=V->V->Hp->VK->Prop
def l9 (X:Cx)(op:Operator)(t:iy):Prop:=
 ∀(a:zy (zu×Obj)) (s:zw) (b:St) (H:Hp) (x y:V) (v u:zx) (Q:VK),Inv X a b H s->RelV x v->RelV y u->t x y H Q->
  wpAny (model X.prog X.w) X.A (inplaceOp op v u) (EP X a b Q) X.xe s
section
variable {X:Cx}{pos:Pos}
def C5 (i:Nat):TG:=λv a H Q=>Q (a.set i (some v)) H
def HH {i:Nat}{x:Str}(hN:X.N.Nodup)(hi:X.N[i]? =some x)(hx:Loc X.env.scope x)(a:X.fn x=true\/X.env.scope.names.lookup x=some .local:=by first | exact .inl rfl|exact .inr rfl|assumption):PG X (.Name x pos) (C5 i):=by intro c s d H v u Q I r h;exact ADP (G3 I hN hi hx r (λe b=>⟨_,H,b,h⟩) a)
def RF:U9:=λvs a H Q=>vs= [] /\Q a H
def FQ (t:TG)(u:U9):U9:=λvs a H Q=>∃v r,vs=v::r/\t v a H λσ' b=>u r σ' b Q
def MA:l8 X [] RF:=by intro b s a H vs c Q I r h;obtain⟨e,h⟩:=h;subst e;cases r;exact assignInOrder_nil ⟨a,H,I,h⟩
def FS {e:zr}{es:zy zr}{t:TG}{u:U9}(h1:PG X e t)(h2:l8 X es u)(hs:(assignEach (e::es) X.env).map (·.2)=assign e X.env::(assignEach es X.env).map (·.2):=by rfl):l8 X (e::es) (FQ t u):=by
 intro b s c H vs k Q I r h;obtain⟨v,l,d,h⟩:=h;subst d;cases r with
 | cons r f=> rw[hs];refine assignInOrder_cons (BJ (h1 b s c H _ _ _ I r h) λ_ g ⟨a,H1,i,j⟩=> ?_);exact h2 b g a H1 _ _ Q i f j
def rW (b c:TE)(t:Zw):TG:=λv a H Q=>b a H λo H1=>c a H1 λi d=>t o i v d λe=>Q a e
def V0 {o i:zr}{e f:TE}{t:Zw}(g:PE X o e)(hi:PE X i f)(hs:ii X t)(ha:∀v,assign (.Subscript o i pos) X.env v=(do
   let a <-holding [v] (eval o X.env);let b <-holding [v,a] (eval i X.env)
   standAt pos
   holding [v,a,b] (setItem a b v)
   release [v,a,b] []):=by intro _;rfl):PG X (.Subscript o i pos) (rW e f t):=by intro d s c H v u Q I r h;rw[ha];refine AAA (AAe (BJ (g d s c H _ I h) λa j ⟨x,H1,k,l,m⟩=> ?_));refine AAA (AAe (BJ (hi d j c H1 _ k m) λb n ⟨y,p,w,z,A⟩=> ?_));refine AAA (ABX (AAA (AAe (BJ (hs d n c p x y v a b u _ w l z r A) λ_ E ⟨B,C,D⟩=> ?_))));exact wpAny_release ⟨c,B,C,D⟩
def WP (b:TE)(g:TG):TS:=λD a H=>b a H λx H1=>g x a H1 D.nx
def Ru {a e:zr}{b:TE}{g:TG}(he:PE X e b)(f:PG X a g)(hs:swapsWithSole [a] e pos.line X.env=pure false:=by rfl)(hw:swappedStores [a] e X.env=pure none:=by rfl)(h1:(assignEach [a] X.env).map (·.2)= [assign a X.env] :=by rfl):PS X (.Assign [a] e pos) (WP b g):=by intro c s d H D I h;refine wpAny_Assign_stores (BJ (he c s d H _ I h) λv i ⟨x,H1,j,k,l⟩=> ?_) hs hw;rw[h1];exact BJ (f c i d H1 x v _ j k l) λ_ m q=>q
def IJ {i:Nat}{x:Str}{e:zr}{a:TE}{pos':Pos}(hN:X.N.Nodup)(hi:X.N[i]? =some x)(hx:Loc X.env.scope x)(he:PE X e a)(hs:swapsWith e (some (.Name x pos')) pos.line X.env=pure false:=by rfl)(b:X.fn x=true\/X.env.scope.names.lookup x=some .local:=by first | exact .inl rfl|exact .inr rfl|assumption):PS X (.Assign [.Name x pos'] e pos) (WP a (C5 i)):=by intro c s d H D I h;refine wpAny_Assign_Name (BJ (he c s d H _ I h) λv l ⟨y,H1,f,g,j⟩=> ?_) hs;exact G3 f hN hi hx g (λm k=>⟨_,H1,k,j⟩) b
def tK (i j:Nat)(b:TA):TS:=λD a H=>b a H λvs H1=>∃v w,vs= [v,w] /\D.nx ((a.set i (some v)).set j (some w)) H1
def kQ {i j:Nat}{x y:Str}{a b:zr}{r:TA}{g k l:Pos}{kt k2 pt2}(hc:X.calm=true)(hN:X.N.Nodup)(hi:X.N[i]? =some x)(hj:X.N[j]? =some y)(C:i≠j)(hx:X.env.scope.names.lookup x=some .local)(t:X.env.scope.names.lookup y=some .local)(ha:PA X [a,b] r)(hw:swappedStores [.Tuple [.Name x g, .Name y k] kt l] (.Tuple [a,b] k2 pt2) X.env=pure (some [x,y]))(hs:swapsWithSole [.Tuple [.Name x g, .Name y k] kt l] (.Tuple [a,b] k2 pt2) pos.line X.env=pure false:=by rfl):PS X (.Assign [.Tuple [.Name x g, .Name y k] kt l] (.Tuple [a,b] k2 pt2) pos) (tK i j r):=by
 intro u s z H D I h;rw[exec_Assign_arm];refine AAA (ABX ?_);rw[hs];refine AAA (AAD ?_);rw[AAC (by decide)];refine AAA (Tuple_ (BJ (ha _ u s z H _ I h) λE c ⟨vs,H1,F,G,m⟩=> ?_));obtain⟨v,w,J,m⟩:=m;subst J;obtain⟨d,f,rfl,rv,n⟩:∃d f,E= [d,f] /\RelV v d/\RelV w f:=by
  cases G with
  | cons p q=>
    cases q with
    | cons K L=> cases L;exact⟨_,_,rfl,p,K⟩
 refine ABF ?_ (by show 2<=sizeLine;decide);have M:Inv X u z H1 {c with heap:=c.heap.push {cls:= .type "tuple",data:= .seq [d,f].toArray}}:=F.kept (t':=c.toks) λb o e=>AAH _ e;rw[hw];refine AAA (AAD ?_);show wpAny (model X.prog X.w) X.A (do rule "assign.swapped-stores";let items <-unpackItems (.ref c.heap.objs.size) 2 none;assignInOrder [λv=>bindName X.env y v,λv=>bindName X.env x v] items.reverse;pure Flow.next) _ _ _;refine AAA (ABj (AAA (unpackItems_tuple (items:= #[d,f]) (I.ok.hd hc) (IsTup.new c.heap _) λh' O=> ?_)));have P:=M.kept (h':=h') (t':=c.toks) λb o e=>O b o (AAM (AAG e)) e;show wpAny _ _ (assignInOrder [λv=>bindName X.env y v,λv=>bindName X.env x v] [f,d] >>= λ_=>pure Flow.next) _ _ _;refine AAA (assignInOrder_cons (wpAny_bindName (G3 P hN hj (.inl t) n (λR Q=> ?_) (.inr t))));refine assignInOrder_cons (wpAny_bindName (G3 Q hN hi (.inl hx) rv (λS B=>assignInOrder_nil (AAD ?_)) (.inr hx)));rw[List.set_comm _ _ (AA6 C)] at B;exact⟨_,H1,B,m⟩
def sw (i:Nat)(b:TE)(c:iy):TS:=λD a H=>∃x,a[i]? =some (some x)/\b a H λy H1=>c x y H1 λz d=>D.nx (a.set i (some z)) d
def kP {i:Nat}{x:Str}{e:zr}{g:TE}{op:Operator}{j:iy}{pos':Pos}(hN:X.N.Nodup)(hi:X.N[i]? =some x)(hx:Loc X.env.scope x)(he:PE X e g)(o:l9 X op j)(p:X.fn x=true\/X.env.scope.names.lookup x=some .local:=by first | exact .inl rfl|exact .inr rfl|assumption):PS X (.AugAssign (.Name x pos') op e pos) (sw i g j):=by
 intro d s n H D I h;obtain⟨v,t,h⟩:=h;obtain⟨m,B,hl⟩:=I.loc;have f:gy X.env.scope x:=by rcases hx with k|k;exact .inl k;exact .inr (.inl k)
 obtain⟨u,r,l⟩:=hl i x v hi t f;refine wpAny_AugAssign_Name ?_;have go:wpAny (model X.prog X.w) X.A (eval e X.env) (λw a=>wpAny (model X.prog X.w) X.A (inplaceOp op u w) (λr b=>wpAny (model X.prog X.w) X.A (storeName X.env x r) (λ_=>SP X d D .next) X.xe b) X.xe a) X.xe s:=by refine BJ (he d s n H _ I h) λw C ⟨y,H1,E,F,G⟩=> ?_;refine BJ (o d C n H1 v y u w _ E r F G) λz R ⟨S,J,K,L,M⟩=> ?_;exact G3 K hN hi hx L (λT O=>⟨_,J,O,M⟩) p
 rcases l with⟨hk,P⟩|⟨hk,c,hc,Q⟩
 .exact wpAny_loadName_local I.ok.kind hk B P go
 .rcases hk with hk|hk
  .exact wpAny_loadName_cell I.ok.kind hk hc Q go
  .rcases hx with k|k
   .have:X.env.scope.names.lookup x=some .free:=hk;rw[k] at this;cases this
   .have:X.env.scope.names.lookup x=some .free:=hk;rw[k] at this;cases this
def pU (e f g:TE)(a:V->V->Hp->VK->Prop)(d:iy)(b:Zw):TS:=λD c H=>e c H λo H1=>f c H1 λi h=>a o i h λx j=>g c j λy k=>d x y k λz l=>b o i z l λm=>D.nx c m
def mq (X:Cx)(t:V->V->Hp->VK->Prop):Prop:=
 ∀(a:zy (zu×Obj)) (s:zw) (b:St) (H:Hp) (o i:V) (c d:zx) (Q:VK),Inv X a b H s->RelV o c->RelV i d->t o i H Q->
  wpAny (model X.prog X.w) X.A (getItem c d) (EP X a b Q) X.xe s
def fj {o i e:zr}{m n p:TE}{a:V->V->Hp->VK->Prop}{j:iy}{b:Zw}{op:Operator}{k:Pos}(x:PE X o m)(hi:PE X i n)(y:mq X a)(he:PE X e p)(hp:l9 X op j)(hs:ii X b)(ha:∀c d new,augStore i c d new=(do holding [new,c,d] (setItem c d new);release [new,c,d] [];pure .next):=by intros;rfl):PS X (.AugAssign (.Subscript o i k) op e pos) (pU m n p a j b):=by intro g s f H D I h;refine wpAny_AugAssign_SubscriptAny (BJ (x g s f H _ I h) λc z ⟨r,H1,A,t,B⟩=> ?_) ha;refine BJ (hi g z f H1 _ A B) λd C ⟨u,E,F,w,G⟩=> ?_;refine BJ (y g C f E r u c d _ F t w G) λl J ⟨K,L,M,N,O⟩=> ?_;refine BJ (he g J f L _ M O) λv P ⟨Q,R,S,T,U⟩=> ?_;refine BJ (hp g P f R K Q l v _ S N T U) λnew W ⟨Y,Z,I5,r5,q5⟩=> ?_;exact BJ (hs g W f Z r u Y c d new _ I5 t w r5 q5) λ_ s6 ⟨H6,I6,q6⟩=>⟨f,H6,I6,q6⟩
def yg (f:Int->Int->Int):iy:=λx y H Q=>∃i j,x= .int i/\y= .int j/\Q (.int (f i j)) H
def jd:l9 X .Add (yg λi j=>i+j):=by intro e s f H x y v u Q I a b h;obtain⟨i,j,c,d,q⟩:=h;subst c;subst d;obtain⟨t,rfl⟩:=a;obtain⟨t',rfl⟩:=b;exact iadd_int ⟨.int _,H,I.tok _,⟨_,rfl⟩,q⟩
def lW (c:TT)(f:TS):TS:=λD a H=>∃W:Nat->St->Hp->Prop,(∃m,W m a H)/\∀m a H,W m a H->
 c a H λb H1=>if b=true then ∃N:St->Hp->Prop,(∀σ' d,N σ' d->∃e,e<m/\W e σ' d)/\f {D with nx:=N,ct:=N,bk:=D.nx} a H1 else D.nx a H1
def cC {c:zr}{body:zy Stmt}{r:TT}{t:TS}(hp:PassesOwn (model X.prog X.w) X.A X.env X.xe)(hc:PT X c r)(hb:S4 X body t):PS X (.While c body [] pos) (lW r t):=by
 intro j s z H D I h;obtain⟨W,⟨m0,B⟩,turn⟩:=h;refine wpAny_While (codeAny_whileLoop (λn C=>∃σ' u,Inv X j σ' u C/\W n σ' u) ?_ m0 ⟨z,H,I,B⟩);rintro n E ⟨d,H1,F,G⟩;refine ABl hp (BJ (hc j E d H1 _ F (turn n d H1 G)) λb J ⟨x,y,g⟩=> ?_);cases b with
 | true=>
   obtain⟨N,hN,g⟩:=g;rw[AAE rfl];refine ABl hp (BJ (hb j J d x _ y g) λf K i=> ?_);cases f with
   | next=> obtain⟨a,e,k,l⟩:=i;obtain⟨m,o,p⟩:=hN a e l;exact⟨m,o,a,e,k,p⟩
   | cont=> obtain⟨a,e,k,l⟩:=i;obtain⟨m,o,p⟩:=hN a e l;exact⟨m,o,a,e,k,p⟩
   | brk=>exact i
   | ret v=>exact i
 | false=> rw[AAC AAT];exact ACs ⟨d,x,y,g⟩
end
structure It where
 go:Nat->Hp->Prop
 yld:Nat->Hp->V->Hp->Prop
 stop:Nat->Hp->Prop
def Fj (X:Cx)(a:zy (zu×Obj))(H:Hp)(b:zu):Prop:=
 H b=none/\b≠X.env.locals/\b ∉ X.fs/\(b∈X.ex\/X.s₀.heap.objs.size<=b)/\(∀x c,X.env.cells.lookup x=some c->c≠b)/\∀p∈X.pn++a,p.1≠b
def Inv.fpOk {X:Cx}{a:zy (zu×Obj)}{f:St}{H d:Hp}{s:zw}{b:zu}(I:Inv X a f H s)(hb:s.heap.objs.size<=b)(g:d b=none):Fj X a d b:=by
 refine⟨g,AAw (AAV I.lt hb),I.nofs hb, .inr (AAY I.sz hb),λx c e z=> ?_,λp hp z=> ?_⟩
 .obtain ⟨v,q⟩:=I.cell x c e;exact absurd (AAV q.lt (by rw[z];exact hb)) (ABW _)
 .exact absurd (AAV (AAG (I.pin p hp).1) (by rw[z];exact hb)) (ABW _)
structure Lb (P:Program) (w:World) (K:AAB) (tg:Expr) (J:It) (fp:List Addr) (it:Addr) (tn:Nat->Heap->Prop):Prop where
 mem:it∈fp
 obj:∀i h,tn i h->∀b∈fp,∃o,h.get? b=some o/\∀v,o.data≠ .cell v
 keep:∀i h h',tn i h->(∀b∈fp,∀o,h.get? b=some o->h'.get? b=some o)->tn i h'
 item:∀(X:Cx),X.prog=P->X.w=w->X.K=K->X.calm=true->∀(i:Nat) (ke:List (Addr×Obj)) (s:Shared) (σ:St) (H:Hp) (E:Value->Shared->Prop),Inv X ke σ H s->(∀b∈fp,Fj X ke H b)->tn i s.heap->J.go i H->
  wpAny (model P w) X.A (pyNext (.ref it)) (λr s1=>∃u,r=some u/\
   wpAny (model P w) X.A (letOwnedTupleGo tg (.ref it) u) (λ_ s2=>∃x H',Inv X ke σ H' s2/\RelV x u/\J.yld i H x H'/\tn (i+1) s2.heap/\∀b∈fp,H' b=none) E s1) E s
 done:∀(X:Cx),X.prog=P->X.w=w->X.K=K->X.calm=true->∀(i:Nat) (ke:List (Addr×Obj)) (s:Shared) (σ:St) (H:Hp) (E:Value->Shared->Prop),Inv X ke σ H s->(∀b∈fp,Fj X ke H b)->tn i s.heap->J.stop i H->
  wpAny (model P w) X.A (pyNext (.ref it)) (λr s1=>r=none/\Inv X ke σ H s1) E s
 self:∀(A:Around) (i:Nat) (s:Shared) (Q:Value->Shared->Prop) (E:Value->Shared->Prop),tn i s.heap->Q (.ref it) s->wpAny (model P w) A (pyIter (.ref it)) Q E s
abbrev TI:=St->Hp->(It->Hp->Prop)->Prop
def uy (X:Cx)(d:zy (zu×Obj))(g:St)(h:zr)(R:It->Hp->Prop)(a:zx)(e:zw):Prop:=
 ∃(it:zu) (f:zy zu) (tn:Nat->ki->Prop) (J:It) (c:Hp),a= .ref it/\Inv X d g c e/\Lb X.prog X.w X.K h J f it tn/\tn 0 e.heap/\(∀b∈f,Fj X d c b)/\R J c
def PI (X:Cx)(c iter:zr)(d:TI):Prop:=
 ∀(b:zy (zu×Obj)) (s:zw) (a:St) (H:Hp) (R:It->Hp->Prop),Inv X b a H s->d a H R->
  wpAny (model X.prog X.w) X.A (eval iter X.env) (λv e=>wpAny (model X.prog X.w) X.A (pyIter v) (uy X b a c R) X.xe e) X.xe s
def W5 {M:Model}{A:kf}{E:zx->zw->Prop}{s:zw}{a:zr}{it:zu}{u:zx}{o:Obj}{n:String}{vs:Array zx}{Q:Unit->zw->Prop}(b:s.heap.get? it=some o)(hc:o.cls= .type n)(hd:o.data= .fields vs)(c: ["enumerate","zip","dict_itemiterator","dict_reverseitemiterator","odict_iterator","itertools.zip_longest","itertools.pairwise"].contains n=false)(hQ:Q () s):wpAny M A (letOwnedTupleGo a (.ref it) u) Q E s:=by
 unfold letOwnedTupleGo;cases a <;> first
  | exact AAD hQ
  | (cases u <;> first
      | exact AAD hQ
      | (refine AAA (wpAny_load b ?_)
         rw[hc,hd];show wpAny M A (if (["enumerate","zip","dict_itemiterator","dict_reverseitemiterator","odict_iterator","itertools.zip_longest","itertools.pairwise"].contains n&&vs[0]?==some (rawInt _))=true then _ else _) Q E s;rw[AAC (by intro h;rw[c,ADQ] at h;cases h)];exact AAD hQ))
def q9 (K:AAB)(a:zu):It:=
 ⟨λi H=>∃xs x,FO K H a xs/\xs[i]? =some x,λi H x b=>b=H/\∀xs,FO K H a xs->xs[i]? =some x,λi H=>∃xs,FO K H a xs/\xs.length<=i⟩
def rA (K:AAB)(a:zu):It:=
 ⟨λi H=>∃xs x,M6 K H a xs/\xs[i]? =some x,λi H x b=>b=H/\∀xs,M6 K H a xs->xs[i]? =some x,λi H=>∃xs,M6 K H a xs/\xs.length<=i⟩
def mY (lo:Int)(n:Nat):It:=⟨λi _=>i<n,λi H x a=>a=H/\x= .int (lo+i),λi _=>n<=i⟩
def ZL {P:km}{w:kj}{K:AAB}{D:zr}(a it:zu):Lb P w K D (q9 K a) [it] it (λi h=>h.IsListIter it a i) where
 mem:=by simp
 obj:=λi h st b hb=>by
  have e:b=it:=by simpa using hb
  subst e;obtain⟨o,e,c,d⟩:=st;exact⟨o,e,λv z=>by rw[d] at z;cases z⟩
 keep:=λi h h' st k=>st.at λo e=>k it (by simp) o e
 item:=by intro X l hw m hc i B s C H E I g st n;subst l hw m;obtain⟨xs,x,j,hx⟩:=n;obtain⟨r,rv,p,F⟩:=I.list j;obtain⟨u,hu,G⟩:=rv.get hx;obtain⟨f0,f1,J,t,y,A⟩:=g it (by simp);refine wpAny_pyNext_list_item st p.isList (x:=u) (by simpa using hu) λh' f L=> ?_;have M:Inv X B C H {s with heap:=h'}:=I.turned (t':=s.toks) (λb o hb e=>(L.2 b hb).trans e) f0 f1 t y A;obtain⟨o,e,c,d⟩:=id f;exact⟨u,rfl,W5 (s:={s with heap:=h'}) e c d (by decide) ⟨x,H,M,G,⟨rfl,λQ N=>by rw[I.list_inj N j];exact hx⟩,f,λb hb=>(g b hb).1⟩⟩
 done:=by intro X l hw m hc i B s C H E I g st n;subst l hw m;obtain⟨xs,j,hx⟩:=n;obtain⟨r,rv,p,F⟩:=I.list j;obtain⟨f0,f1,J,t,y,A⟩:=g it (by simp);have hl:=rv.length;exact wpAny_pyNext_list_end (I.ok.hd hc) st p.isList (by simp;omega) λh' O=>⟨rfl,I.turned (t':=s.toks) (λb o hb e=>O b o hb e) f0 f1 t y A⟩
 self:=λ_ _ _ _ _ st h=>wpAny_pyIter_listiter st h
def WY {P:km}{w:kj}{K:AAB}{D:zr}(a it:zu):Lb P w K D (rA K a) [it] it (λi h=>h.IsTupleIter it a i) where
 mem:=by simp
 obj:=λi h st b hb=>by
  have e:b=it:=by simpa using hb
  subst e;obtain⟨o,e,c,d⟩:=st;exact⟨o,e,λv z=>by rw[d] at z;cases z⟩
 keep:=λi h h' st k=>st.at λo e=>k it (by simp) o e
 item:=by intro X m hw n hc i B s C H E I j st r;subst m hw n;obtain⟨xs,x,l,hx⟩:=r;obtain⟨f,rv,p,F⟩:=I.tuple l;obtain⟨u,hu,G⟩:=rv.get hx;obtain⟨f0,f1,J,t,y,A⟩:=j it (by simp);refine wpAny_pyNext_tuple_item st (show s.heap.IsTuple a f.toArray from p) (x:=u) (by simpa using hu) λh' g L=> ?_;have M:Inv X B C H {s with heap:=h'}:=I.turned (t':=s.toks) (λb o hb e=>(L.2 b hb).trans e) f0 f1 t y A;obtain⟨o,e,c,d⟩:=id g;exact⟨u,rfl,W5 (s:={s with heap:=h'}) e c d (by decide) ⟨x,H,M,G,⟨rfl,λQ N=>by rw[I.tuple_inj N l];exact hx⟩,g,λb hb=>(j b hb).1⟩⟩
 done:=by intro X m hw n hc i B s C H E I j st r;subst m hw n;obtain⟨xs,l,hx⟩:=r;obtain⟨f,rv,p,F⟩:=I.tuple l;obtain⟨f0,f1,J,t,y,A⟩:=j it (by simp);have hl:=rv.length;exact wpAny_pyNext_tuple_end (I.ok.hd hc) st (show s.heap.IsTuple a f.toArray from p) (by simp;omega) λh' O=>⟨rfl,I.turned (t':=s.toks) (λb o hb e=>O b o hb e) f0 f1 t y A⟩
 self:=λ_ _ _ _ _ st h=>wpAny_pyIter_tupleiter st h
def WX {P:km}{w:kj}{K:AAB}{x:zr}(it:zu)(lo:Int)(n:Nat):Lb P w K x (mY lo n) [it] it (λi h=>IsRangeIter h it (lo+(i:Nat)*1) ((n:Int)-(i:Nat)) 1) where
 mem:=by simp
 obj:=λi h st b hb=>by
  have e:b=it:=by simpa using hb
  subst e;exact⟨_,st,λv z=>by
   have y:Data.fields _=Data.cell v:=z;cases y⟩
 keep:=λi h h' st k=>k it (by simp) _ st
 item:=by intro X d hw f hc i p s r H E I c st g;subst d hw f;obtain⟨f0,f1,A,j,l,m⟩:=c it (by simp);have W:=Walks.range (prog:=X.prog) (w:=X.w) (I.ok.hd hc) it lo 1 n;refine W.item i s _ _ g st λv h' u hv a B=> ?_;obtain⟨t,rfl⟩:=hv;have C:Inv X p r H {s with heap:=h',toks:=u}:=I.turned (λb o hb e=>B b o (by simpa using hb) e) f0 f1 j l m;refine⟨_,rfl,W5 (s:={s with heap:=h',toks:=u}) (n:="range_iterator") a rfl rfl (by decide) ⟨.int (lo+i),H,C,⟨t, ?_⟩,⟨rfl,rfl⟩,a,λb hb=>(c b hb).1⟩⟩;rw[ABm]
 done:=by intro X d hw f hc i p s r H E I c st g;subst d hw f;obtain⟨f0,f1,A,j,l,m⟩:=c it (by simp);exact wpAny_pyNext_range_end (I.ok.hd hc) st (by have:n<=i:=g;omega) λh' D=>⟨rfl,I.turned (t':=s.toks) (λb o hb e=>D b o hb e) f0 f1 j l m⟩
 self:=λ_ _ _ _ _ st h=>wpAny_pyIter_rangeiter st h
section
variable {X:Cx}{tg:zr}
def UM {a:zy (zu×Obj)}{c:St}{H:Hp}{s:zw}{R:It->Hp->Prop}{E:zx->zw->Prop}{lo hi:Int}{t u v:Tok}{d:Nat}(I:Inv X a c H s)(h1: -(2^62)<=lo)(h2:lo<2^62)(h3: -(2^62)<=hi)(g:hi<2^62)(q:R (mY lo (hi-lo).toNat) H):wpAny (model X.prog X.w) X.A (pyIter (.ref s.heap.objs.size)) (uy X a c tg R) E {s with heap:=s.heap.push {cls:= .type "range",data:= .fields #[.int lo t, .int hi u, .int 1 v] },toks:=d}:=by
 refine wpAny_pyIter_range (IsRange.new ..) (small_one h1 h2 h3 g) ?_;have f:Inv X a c H {s with heap:=s.heap.push {cls:= .type "range",data:= .fields #[.int lo t, .int hi u, .int 1 v] },toks:=d}:=I.kept λb o e=>AAH _ e;refine⟨(s.heap.push {cls:= .type "range",data:= .fields #[.int lo t, .int hi u, .int 1 v] }).objs.size, [(s.heap.push {cls:= .type "range",data:= .fields #[.int lo t, .int hi u, .int 1 v] }).objs.size],_,_,H,rfl,
  f.kept (t':=d) λb o e=>AAH _ e,WX _ lo (hi-lo).toNat, ?_,λb hb=> ?_,q⟩
 .have h:lo+((0:Nat):Int)*1=lo:=by simp
  have i:(((hi-lo).toNat:Nat):Int)-((0:Nat):Int)=Builtin.Range.rangeSize lo hi 1:=by rw[rangeSize_one];split <;> omega
  show IsRangeIter _ _ (lo+((0:Nat):Int)*1) ((((hi-lo).toNat:Nat):Int)-((0:Nat):Int)) 1;rw[h,i];exact AAP _ rfl
 .have e:b=(s.heap.push {cls:= .type "range",data:= .fields #[.int lo t, .int hi u, .int 1 v] }).objs.size:=by simpa using hb
  subst e;exact f.fpOk (AAJ _) (f.hok.fresh (AAJ _))
def nh (a:TA):TI:=λb H R=>a b H λvs H1=>∃j:Int,vs= [.int j] /\ -(2^62)<=j/\j<2^62/\R (mY 0 j.toNat) H1
def ni (a:TA):TI:=λb H R=>a b H λvs H1=>∃i j:Int,vs= [.int i, .int j] /\(-(2^62)<=i/\i<2^62/\ -(2^62)<=j/\j<2^62)/\R (mY i (j-i).toNat) H1
def Y5 {a:zr}{c:TA}{p pos:Pos}(d:Gl X "range")(f:X.mg "range" =none)(ha:PA X [a] c)(hs:starEach [a] X.env= [(false,eval a X.env)] :=by rfl):PI X tg (.Call (.Name "range" p) [a] [] pos) (nh c):=by
 intro g s i H R I h;refine Call_ (Gc I d f boot_range (ACT (BJ (ha pos g s i H _ I h) λo u ⟨vs,H1,k,l,b⟩=> ?_) hs rfl));obtain⟨j,e,b,m,q⟩:=b;subst e;cases l with
 | cons r n=> cases n;obtain⟨t,rfl⟩:=r;exact call_range_1 (UM k (by omega) (by omega) b m (by simpa using q))
def Y6 {a b:zr}{f:TA}{p pos:Pos}(k:Gl X "range")(l:X.mg "range" =none)(ha:PA X [a,b] f)(hs:starEach [a,b] X.env= [(false,eval a X.env),(false,eval b X.env)] :=by rfl)(g:starEach [b] X.env= [(false,eval b X.env)] :=by rfl):PI X tg (.Call (.Name "range" p) [a,b] [] pos) (ni f):=by
 intro m s n H R I h;refine Call_ (Gc I k l boot_range (ACT (BJ (ha pos m s n H _ I h) λz A ⟨vs,H1,o,u,c⟩=> ?_) (by rw[hs,g]) (by rw[g];rfl)));obtain⟨i,j,e,⟨c,v,w,x⟩,q⟩:=c;subst e;cases u with
 | cons r d=>
   cases d with
   | cons y d=> cases d;obtain⟨t,rfl⟩:=r;obtain⟨t',rfl⟩:=y;exact call_range_2 (UM o c v w x q)
def pW (e:TI)(g:TG)(f:TS):TS:=λD a H=>e a H λJ H1=>∃W:Nat->Nat->St->Hp->Prop,(∃m,W 0 m a H1)/\∀i m a H,W i m a H->
 (J.stop i H/\D.nx a H)\/(J.go i H/\∃N:St->Hp->Prop,(∀σ' b,N σ' b->∃d,d<m/\W (i+1) d σ' b)/\∀x b,J.yld i H x b->g x a b λc h=>f {D with nx:=N,ct:=N,bk:=D.nx} c h)
def KC (a:zy zu)(h:ki):zy (zu×Obj):=a.filterMap λb=>(h.get? b).map λo=>(b,o)
def Ds {a:zy zu}{h:ki}{b:zu}{o:Obj}(hb:b∈a)(e:h.get? b=some o):(b,o)∈KC a h:=List.mem_filterMap.mpr ⟨b,hb,by rw[e];rfl⟩
def Yv {a:zy zu}{h:ki}{p:zu×Obj}(hp:p∈KC a h):p.1∈a/\h.get? p.1=some p.2:=by
 obtain⟨b,hb,e⟩:=List.mem_filterMap.mp hp;cases q:h.get? b with
 | none=>rw[q] at e;cases e
 | some o=> rw[q] at e;have c:(b,o)=p:=AAX e;subst c;exact⟨hb,q⟩
def Inv.pinned {a:zy (zu×Obj)}{f:St}{H:Hp}{s:zw}{c:zy zu}(I:Inv X a f H s)(h:∀b∈c,Fj X a H b)(i:∀b∈c,∃o,s.heap.get? b=some o/\∀v,o.data≠ .cell v):Inv X (a++KC c s.heap) f H s:=
 I.pins_of λp hp=>(AAQ.mp hp).elim (λz=>I.pin p (AAm _ z)) λz=>by obtain⟨hb,e⟩:=Yv z;obtain⟨f0,f1,j,_⟩:=h p.1 hb;obtain⟨o,g,d⟩:=i p.1 hb;rw[e] at g;cases g;exact⟨e,f0,f1,j,d⟩
def Inv.unpinned {a c:zy (zu×Obj)}{b:St}{H:Hp}{s:zw}(I:Inv X (a++c) b H s):Inv X a b H s:=I.pins_of λp hp=>I.pin p (AAm _ (List.mem_append_left _ hp))
def cA {iter:zr}{body:zy Stmt}{R:TI}{g:TG}{S:TS}{pos:Pos}(hp:PassesOwn (model X.prog X.w) X.A X.env X.xe)(hc:X.calm=true)(hi:PI X tg iter R)(hg:PG X tg g)(hb:S4 X body S)(hs:∀x,foldedSetIterable iter X.env x=pure x:=by intro _;rfl):PS X (.For tg iter body [] pos) (pW R g S):=by
 intro y s U H D I h;refine wpAny_For (BJ (hi y s U H _ I h) λv s1 h1=>BJ h1 λitv s2 h2=> ?_) hs;obtain⟨it,B,tn,J,H2,e,I2,T,K,Y,W,⟨m0,w0⟩,turn⟩:=h2;subst e;have c:∀{p:Hp},(∀b∈B,p b=none)->∀b∈B,Fj X y p b:=λhn b hb=>⟨hn b hb,(Y b hb).2⟩;refine codeAny_forLoop_any (λn Z=>∃i σ' p,Inv X y σ' p Z/\tn i Z.heap/\(∀b∈B,p b=none)/\W i n σ' p) ?_ m0 ⟨0,U,H2,I2,K,λb hb=>(Y b hb).1,w0⟩;rintro n s3 ⟨i,j,G,I3,C,E,w3⟩;rcases turn i n j G w3 with⟨stop,qn⟩|⟨go,N,hN,step⟩
 .refine ABl hp (BJ (T.done X rfl rfl rfl hc i y s3 j G X.xe I3 (c E) C stop) λr s4 ⟨L,I4⟩=> ?_);subst L;exact ACs ⟨j,G,I4,qn⟩
 .refine ABl hp (BJ (T.item X rfl rfl rfl hc i y s3 j G X.xe I3 (c E) C go) λr s4 ⟨u,L,h4⟩=> ?_);subst L;refine ABl hp (BJ h4 λ_ s5 ⟨x,H5,I5,r5,y5,z,M⟩=> ?_);have O:=I5.pinned (c M) (T.obj _ _ z);refine ABl hp (BJ (hg _ s5 j H5 x u _ O r5 (step x H5 y5)) λ_ s6 ⟨P,H6,I6,q6⟩=> ?_);refine ABl hp (BJ (hb _ s6 P H6 _ I6 q6) λf Q t=> ?_);have again:∀{a:St} {k:Hp},Inv X (y++KC B s5.heap) a k Q->N a k->∃m,m<n/\∃i σ' p,Inv X y σ' p Q/\tn i Q.heap/\(∀b∈B,p b=none)/\W i m σ' p:=λ{a k} l F=>by obtain⟨m',hm,w7⟩:=hN a k F;refine⟨m',hm,i+1,a,k,l.unpinned,T.keep _ _ _ z λb hb o e=>(l.pin (b,o) (AAm _ (AAm _ (Ds hb e)))).1,λb hb=> ?_,w7⟩;obtain⟨o,e,d⟩:=T.obj _ _ z b hb;exact(l.pin (b,o) (AAm _ (AAm _ (Ds hb e)))).2.1
  cases f with
  | next=>obtain⟨a,k,l,F⟩:=t;exact again l F
  | cont=>obtain⟨a,k,l,F⟩:=t;exact again l F
  | brk=>obtain⟨a,k,l,t⟩:=t;exact⟨a,k,l.unpinned,t⟩
  | ret v=>obtain⟨x7,a,k,l,r7,t⟩:=t;exact⟨x7,a,k,l.unpinned,r7,t⟩
end
abbrev R2:=V->V->Hp->VK->Prop
def Dq (X:Cx)(f:zx->zx->Sem zx)(r:R2):Prop:=
 ∀(a:zy (zu×Obj)) (s:zw) (b:St) (H:Hp) (x y:V) (v u:zx) (Q:VK),Inv X a b H s->RelV x v->RelV y u->r x y H Q->
  wpAny (model X.prog X.w) X.A (f v u) (EP X a b Q) X.xe s
def rK (X:Cx)(f:zx->Sem zx)(r:V->Hp->VK->Prop):Prop:=
 ∀(a:zy (zu×Obj)) (s:zw) (b:St) (H:Hp) (x:V) (v:zx) (Q:VK),Inv X a b H s->RelV x v->r x H Q->
  wpAny (model X.prog X.w) X.A (f v) (EP X a b Q) X.xe s
def B4 (X:Cx)(f:zx)(r:zy V->Hp->VK->Prop):Prop:=
 ∀(a:zy (zu×Obj)) (s:zw) (b:St) (H:Hp) (xs:zy V) (c:zy zx) (Q:VK),Inv X a b H s->At xs c->r xs H Q->
  wpAny (model X.prog X.w) X.A (call f c) (EP X a b Q) X.xe s
def ga (r:R2)(b c:TE):TE:=λa H Q=>b a H λx H1=>c a H1 λy d=>r x y d Q
def yq (r:V->Hp->VK->Prop)(a:TE):TE:=λb H Q=>a b H λx H1=>r x H1 Q
def rI (C:Int->Int->Prop)(g:Int->Int->V):R2:=λx y H Q=>∃i j,x= .int i/\y= .int j/\C i j/\Q (g i j) H
def R0 (g:Int->Int->V):R2:=λx y H Q=>∃i j,x= .int i/\y= .int j/\Q (g i j) H
def rU (g:Int->V):V->Hp->VK->Prop:=λx H Q=>∃i,x= .int i/\Q (g i) H
section
variable {X:Cx}{a b c:zr}{ta tb tc:TE}{pos:Pos}
def i8 (ha:PE X a ta)(hb:PE X b tb){j:zy (zu×Obj)}{s:zw}{d:St}{H:Hp}{R:V->V->Hp->Prop}(I:Inv X j d H s)(h:ta d H λx H1=>tb d H1 λy e=>R x y e){Q:zx->zw->Prop}{f:zx->zx->Sem zx}(l:∀v u k x y e,Inv X j d e k->RelV x v->RelV y u->R x y e->wpAny (model X.prog X.w) X.A (f v u) Q X.xe k):wpAny (model X.prog X.w) X.A (eval a X.env) (λv g=>wpAny (model X.prog X.w) X.A (eval b X.env) (λu i=>wpAny (model X.prog X.w) X.A (f v u) Q X.xe i) X.xe g) X.xe s:=by refine BJ (ha j s d H _ I h) λv m ⟨x,H1,n,o,p⟩=> ?_;refine BJ (hb j m d H1 _ n p) λu k ⟨y,e,r,t,z⟩=> ?_;exact l v u k x y e r o t z
def B0 {op:Operator}{r:R2}(d:Dq X (binaryOp op) r)(ha:PE X a ta)(hb:PE X b tb):PE X (.BinOp a op b pos) (ga r ta tb):=by intro e s f H Q I h;exact wpAny_BinOp (i8 ha hb I h λv u g x y i j k l q=>d e g f i x y v u Q j k l q)
def oU {op:UnaryOp}{r:V->Hp->VK->Prop}(f:rK X (unaryOp op) r)(ha:PE X a ta):PE X (.UnaryOp op a pos) (yq r ta):=by intro d s e H Q I h;exact UnaryOp_ (BJ (ha d s e H _ I h) λv g ⟨x,H1,i,j,k⟩=>f d g e H1 x v Q i j k)
def j3 {f:zx->zx->Sem zx}{C:Int->Int->Prop}{g:Int->Int->Int}(rule:∀(i j:Int) (t u:Tok) (s:zw) (Q:zx->zw->Prop) (E:zx->zw->Prop),C i j->Q (.int (g i j) s.toks) {s with toks:=s.toks+1}->wpAny (model X.prog X.w) X.A (f (.int i t) (.int j u)) Q E s):Dq X f (rI C λi j=> .int (g i j)):=by intro k s l H x y v u Q I d e h;obtain⟨i,j,rfl,rfl,hc,q⟩:=h;obtain⟨t,rfl⟩:=d;obtain⟨t',rfl⟩:=e;exact rule i j t t' s _ _ hc ⟨.int (g i j),H,I.tok _,⟨_,rfl⟩,q⟩
def oK {f:zx->zx->Sem zx}{g:Int->Int->Int}(rule:∀(i j:Int) (t u:Tok) (s:zw) (Q:zx->zw->Prop) (E:zx->zw->Prop),Q (.int (g i j) s.toks) {s with toks:=s.toks+1}->wpAny (model X.prog X.w) X.A (f (.int i t) (.int j u)) Q E s):Dq X f (R0 λi j=> .int (g i j)):=by intro k s l H x y v u Q I d e h;obtain⟨i,j,rfl,rfl,q⟩:=h;obtain⟨t,rfl⟩:=d;obtain⟨t',rfl⟩:=e;exact rule i j t t' s _ _ ⟨.int (g i j),H,I.tok _,⟨_,rfl⟩,q⟩
def fG {f:zx->zx->Sem zx}{g:Int->Int->kn}(rule:∀(i j:Int) (t u:Tok) (s:zw) (Q:zx->zw->Prop) (E:zx->zw->Prop),Q (.bool (g i j)) s->wpAny (model X.prog X.w) X.A (f (.int i t) (.int j u)) Q E s):Dq X f (R0 λi j=> .bl (g i j)):=by intro k s l H x y v u Q I d e h;obtain⟨i,j,rfl,rfl,q⟩:=h;obtain⟨t,rfl⟩:=d;obtain⟨t',rfl⟩:=e;exact rule i j t t' s _ _ ⟨.bl (g i j),H,I,rfl,q⟩
def qr (i j:Int):Prop:=0<=j/\j<=1000000/\i.natAbs<2^64
def Iq (i j:Int):Prop:=(-(2^64)<i/\i<2^64)\/(-(2^64)<j/\j<2^64)
def Iq.ok {i j:Int}(h:Iq i j):IntMulOk i j:=by
 rcases h with⟨h1,h2⟩|⟨h1,h2⟩
 .exact .of_left (intBits_le_64 h1 h2)
 .exact .of_right (intBits_le_64 h1 h2)
def II:Dq X (binaryOp .Add) (R0 λi j=> .int (i+j)):=oK λ_ _ _ _ _ _ _ q=>add_int q
def kA:Dq X (binaryOp .Sub) (R0 λi j=> .int (i-j)):=oK λ_ _ _ _ _ _ _ q=>sub_int q
def Ft:Dq X (binaryOp .Mod) (rI (λ_ j=>0<j) λi j=> .int (i % j)):=j3 λi j _ _ _ _ _ hc q=>by have h1:(0:Int)<j:=hc;exact mod_int' (by omega) (by rw[ADR i (by omega)];exact q)
def fJ:Dq X (binaryOp .Mod) (rI (λ_ j=>j≠0) λi j=> .int (i.fmod j)):=j3 λ_ _ _ _ _ _ _ hc q=>mod_int' hc q
def j9:Dq X (binaryOp .Pow) (rI qr λi j=> .int (i^j.toNat)):=j3 λ_ _ _ _ _ _ _ hc q=>pow_int_small hc.1 hc.2.1 hc.2.2 q
def yr {f:zx->Sem zx}{g:Int->Int}(rule:∀(i:Int) (t:Tok) (s:zw) (Q:zx->zw->Prop) (E:zx->zw->Prop),Q (.int (g i) s.toks) {s with toks:=s.toks+1}->wpAny (model X.prog X.w) X.A (f (.int i t)) Q E s):rK X f (rU λi=> .int (g i)):=by intro e s j H x v Q I d h;obtain⟨i,rfl,q⟩:=h;obtain⟨t,rfl⟩:=d;exact rule i t s _ _ ⟨.int (g i),H,I.tok _,⟨_,rfl⟩,q⟩
def lj:rK X (unaryOp .USub) (rU λi=> .int (-i)):=yr λ_ _ _ _ _ q=>neg_int q
end
def lC:V->V->kn
 | .non, .non=>true | .non, .int _=>true | .int _, .non=>true | .non, .bl _=>true | .bl _, .non=>true | .non, .str _=>true | .str _, .non=>true
 | .int _, .int _=>true | .bl _, .bl _=>true | .str _, .str _=>true | .byt _, .byt _=>true
 | .int _, .str _=>true | .str _, .int _=>true | .bl _, .str _=>true | .str _, .bl _=>true
 | _,_=>false
def vV:R2:=λx y H Q=>lC x y=true/\Q (.bl (decide (x=y))) H
def vW:R2:=λx y H Q=>lC x y=true/\Q (.bl (!decide (x=y))) H
def Wv {i j:Int}:decide (V.int i=V.int j)=(i==j):=by rw[ABY];simp
def aD {i j:kn}:decide (V.bl i=V.bl j)=(i==j):=by rw[ABY];simp
def Ww {i j:Str}:decide (V.str i=V.str j)=(i==j):=by rw[ABY];simp
def Wu {i j:Array UInt8}:decide (V.byt i=V.byt j)=(i.toList==j.toList):=by rw[ABY];cases i;cases j;simp
section
variable {X:Cx}{a b c:zr}{ta tb tc:TE}{pos:Pos}
def A6 {d:zy (zu×Obj)}{f:St}{H:Hp}{s:zw}{Q:VK}{k g:kn}(I:Inv X d f H s)(q:Q (.bl k) H)(e:k=g):EP X d f Q (.bool g) s:=by subst e;exact⟨.bl k,H,I,rfl,q⟩
def oM:Dq X (compareOp .Eq) vV:=by
 intro f s g H x y v u Q I e d h;obtain⟨hs,q⟩:=h;cases x with
 | non=>
   cases e;cases y with
   | non=>cases d;exact PySem.EqNone.eq_none_none (A6 I q (by simp))
   | bl j=>cases d;exact PySem.EqNone.eq_none_bool (A6 I q (by simp))
   | int j=>obtain⟨t',rfl⟩:=d;exact PySem.EqNone.eq_none_int (A6 I q (by simp))
   | str j=>obtain⟨t',rfl⟩:=d;exact PySem.EqNone.eq_none_str (A6 I q (by simp))
   | _=>exact absurd (show false=true from hs) AAT
 | bl i=>
   cases e;cases y with
   | non=>cases d;exact PySem.EqNone.eq_bool_none (A6 I q (by simp))
   | bl j=>cases d;exact eq_bool (A6 I q aD)
   | str j=>obtain⟨t',rfl⟩:=d;exact PySem.EqMixed.eq_bool_str (A6 I q (by simp))
   | _=>exact absurd (show false=true from hs) AAT
 | int i=>
   obtain⟨t,rfl⟩:=e;cases y with
   | non=>cases d;exact PySem.EqNone.eq_int_none (A6 I q (by simp))
   | int j=>obtain⟨t',rfl⟩:=d;exact eq_int (A6 I q Wv)
   | str j=>obtain⟨t',rfl⟩:=d;exact PySem.EqMixed.eq_int_str (A6 I q (by simp))
   | _=>exact absurd (show false=true from hs) AAT
 | str i=>
   obtain⟨t,rfl⟩:=e;cases y with
   | non=>cases d;exact PySem.EqNone.eq_str_none (A6 I q (by simp))
   | bl j=>cases d;exact PySem.EqMixed.eq_str_bool (A6 I q (by simp))
   | int j=>obtain⟨t',rfl⟩:=d;exact PySem.EqMixed.eq_str_int (A6 I q (by simp))
   | str j=>obtain⟨t',rfl⟩:=d;exact eq_str (A6 I q Ww)
   | _=>exact absurd (show false=true from hs) AAT
 | byt i=>
   obtain⟨t,rfl⟩:=e;cases y with
   | byt j=>obtain⟨t',rfl⟩:=d;exact PySem.W.eq_bytes (A6 I q Wu)
   | _=>exact absurd (show false=true from hs) AAT
 | _=>cases y <;> exact absurd (show false=true from hs) AAT
def oP:Dq X (compareOp .NotEq) vW:=by
 intro f s g H x y v u Q I e d h;obtain⟨hs,q⟩:=h;cases x with
 | non=>
   cases e;cases y with
   | non=>cases d;exact PySem.EqNone.ne_none_none (A6 I q (by simp))
   | bl j=>cases d;exact PySem.EqNone.ne_none_bool (A6 I q (by simp))
   | int j=>obtain⟨t',rfl⟩:=d;exact PySem.EqNone.ne_none_int (A6 I q (by simp))
   | str j=>obtain⟨t',rfl⟩:=d;exact PySem.EqNone.ne_none_str (A6 I q (by simp))
   | _=>exact absurd (show false=true from hs) AAT
 | bl i=>
   cases e;cases y with
   | non=>cases d;exact PySem.EqNone.ne_bool_none (A6 I q (by simp))
   | bl j=>cases d;exact ne_bool (A6 I q (congrArg not aD))
   | str j=>obtain⟨t',rfl⟩:=d;exact PySem.EqMixed.ne_bool_str (A6 I q (by simp))
   | _=>exact absurd (show false=true from hs) AAT
 | int i=>
   obtain⟨t,rfl⟩:=e;cases y with
   | non=>cases d;exact PySem.EqNone.ne_int_none (A6 I q (by simp))
   | int j=>obtain⟨t',rfl⟩:=d;exact ne_int (A6 I q (congrArg not Wv))
   | str j=>obtain⟨t',rfl⟩:=d;exact PySem.EqMixed.ne_int_str (A6 I q (by simp))
   | _=>exact absurd (show false=true from hs) AAT
 | str i=>
   obtain⟨t,rfl⟩:=e;cases y with
   | non=>cases d;exact PySem.EqNone.ne_str_none (A6 I q (by simp))
   | bl j=>cases d;exact PySem.EqMixed.ne_str_bool (A6 I q (by simp))
   | int j=>obtain⟨t',rfl⟩:=d;exact PySem.EqMixed.ne_str_int (A6 I q (by simp))
   | str j=>obtain⟨t',rfl⟩:=d;exact ne_str (A6 I q (congrArg not Ww))
   | _=>exact absurd (show false=true from hs) AAT
 | byt i=>
   obtain⟨t,rfl⟩:=e;cases y with
   | byt j=>obtain⟨t',rfl⟩:=d;exact PySem.W.ne_bytes (A6 I q (congrArg not Wu))
   | _=>exact absurd (show false=true from hs) AAT
 | _=>cases y <;> exact absurd (show false=true from hs) AAT
def iF:Dq X (compareOp .Lt) (R0 λi j=> .bl (decide (i<j))):=fG λ_ _ _ _ _ _ _ q=>lt_int q
def oO:Dq X (compareOp .LtE) (R0 λi j=> .bl (decide (i<=j))):=fG λ_ _ _ _ _ _ _ q=>le_int q
def iE:Dq X (compareOp .Gt) (R0 λi j=> .bl (decide (j<i))):=fG λ_ _ _ _ _ _ _ q=>gt_int q
def oN:Dq X (compareOp .GtE) (R0 λi j=> .bl (decide (j<=i))):=fG λ_ _ _ _ _ _ _ q=>ge_int q
def j6:Dq X (compareOp .Is) (λx y H Q=>y= .non/\Q (.bl (decide (x= .non))) H):=by
 intro f s g H x y v u Q I d e h;obtain⟨rfl,q⟩:=h;cases e;refine is_none_gen (A6 I q ?_);cases x <;> first
  | (cases d;rfl)
  | (obtain⟨t,rfl⟩:=d;rfl)
def fM:Dq X (compareOp .IsNot) (λx y H Q=>y= .non/\Q (.bl (!decide (x= .non))) H):=by
 intro f s g H x y v u Q I d e h;obtain⟨rfl,q⟩:=h;cases e;refine isnot_none_gen (A6 I q ?_);cases x <;> first
  | (cases d;rfl)
  | (obtain⟨t,rfl⟩:=d;rfl)
def Dq.or {f:zx->zx->Sem zx}{r d:R2}(h:Dq X f r)(h':Dq X f d):Dq X f (λx y H Q=>r x y H Q\/d x y H Q):=by
 intro e s g H x y v u Q I i j q;rcases q with q|q
 .exact h e s g H x y v u Q I i j q
 .exact h' e s g H x y v u Q I i j q
def Bg (b:zr){op:CmpOp}(h:op≠ .In:=by decide)(h2:op≠ .NotIn:=by decide):behindInMarks op b=false:=by
 have d:(op==CmpOp.In)=false:=by cases op <;> first | rfl|exact absurd rfl h
 have e:(op==CmpOp.NotIn)=false:=by cases op <;> first | rfl|exact absurd rfl h2
 cases b <;> simp[behindInMarks,d,e]
def XX {op:CmpOp}{r:R2}(d:Dq X (compareOp op) r)(ha:PE X a ta)(hb:PE X b tb)(e:behindInMarks op b=false):PE X (.Compare a [op] [b] pos) (ga r ta tb):=by intro f s g H Q I h;exact wpAny_Compare1 (i8 ha hb I h λv u i x y j k l m q=>d f i g j x y v u Q k l m q) e
def iV (t:TE):TT:=λd H Q=>t d H λx e=>∃k,x= .bl k/\Q k e
def Ry {op:CmpOp}{r:R2}(g:Dq X (compareOp op) r)(ha:PE X a ta)(hb:PE X b tb)(i:behindInMarks op b=false):PT X (.Compare a [op] [b] pos) (iV (ga r ta tb)):=by
 intro d s f H Q I h;refine wpAny_isTrue_Compare1 (BJ (ha d s f H _ I h) λv j ⟨x,H1,l,m,n⟩=>BJ (hb d j f H1 _ l n) λu o ⟨y,p,t,w,A⟩=>
  BJ (g d o f p x y v u _ t m w A) λc F ⟨z,B,C,D,k,e,E⟩=> ?_) i
 subst e;cases D;exact ABk ⟨B,C,E⟩
def cj (r f:R2)(ta tb tc:TE):TE:=λd H Q=>ta d H λx H1=>tb d H1 λy g=>r x y g λz e=>∃k,z= .bl k/\
 (if k=true then tc d e λh i=>f y h i Q else Q (.bl false) e)
def bW {op f:CmpOp}{r j:R2}(p:Dq X (compareOp op) r)(t:Dq X (compareOp f) j)(ha:PE X a ta)(hb:PE X b tb)(hc:PE X c tc)(w:lastMarks [op,f] [b,c] =false:=by with_unfolding_all rfl):PE X (.Compare a [op,f] [b,c] pos) (cj r j ta tb tc):=by
 intro g s i H Q I h;refine Compare_chain (BJ (ha g s i H _ I h) λv A ⟨x,H1,B,C,D⟩=>chain_link (BJ (hb g A i H1 _ B D) λu E ⟨y,F,G,l,J⟩=>
  BJ (p g E i F x y v u _ G C l J) λd K ⟨z,m,n,L,k,e,o⟩=> ?_)) w
 subst e;cases L;refine ABk ?_;cases k with
 | false=>exact ite_ff ⟨.bl false,m,n,rfl,o⟩
 | true=>exact ite_tt (chain_last (BJ (hc g K i m _ n o) λM N ⟨O,P,R,S,T⟩=>t g N i P y O u M Q R l S T))
def Nd:(sizeLine:Nat)<2^63:=by rw[ACU];decide
def vals1 {x:V}{d:zy zx}(r:At [x] d):∃u,d= [u] /\RelV x u:=by
 cases r with
 | cons e f=>cases f;exact⟨_,rfl,e⟩
def vals2 {x y:V}{d:zy zx}(r:At [x,y] d):∃u e,d= [u,e] /\RelV x u/\RelV y e:=by
 cases r with
 | cons f g=>
   cases g with
   | cons h i=>cases i;exact⟨_,_,rfl,f,h⟩
def ND:B4 X (.builtin "abs") (λxs H Q=>∃i,xs= [.int i] /\Q (.int (if i<0 then -i else i)) H):=by intro d s e H xs f Q I r h;obtain⟨i,rfl,q⟩:=h;obtain⟨u,rfl,t,rfl⟩:=vals1 r;exact call_abs_int λu g=>⟨.int (if i<0 then -i else i),H,I.tok _,⟨_,rfl⟩,q⟩
def YI (hc:X.calm=true):B4 X (.builtin "max") (λxs H Q=>∃i j,xs= [.int i, .int j] /\Q (.int (if j>i then j else i)) H):=by
 intro d s e H xs f Q I r h;obtain⟨i,j,rfl,q⟩:=h;obtain⟨u,g,rfl,⟨t,rfl⟩,⟨t',rfl⟩⟩:=vals2 r;refine max_two_ints (I.ok.hd hc) λh' l k=>⟨_,H,I.kept k, ?_,q⟩;by_cases hj:j>i
 .rw [AAE hj,AAE hj];exact⟨_,rfl⟩
 .rw [AAC hj,AAC hj];exact⟨_,rfl⟩
def YJ (hc:X.calm=true):B4 X (.builtin "min") (λxs H Q=>∃i j,xs= [.int i, .int j] /\Q (.int (if j<i then j else i)) H):=by
 intro d s e H xs f Q I r h;obtain⟨i,j,rfl,q⟩:=h;obtain⟨u,g,rfl,⟨t,rfl⟩,⟨t',rfl⟩⟩:=vals2 r;refine min_two_ints (I.ok.hd hc) λh' l k=>⟨_,H,I.kept k, ?_,q⟩;by_cases hj:j<i
 .rw [AAE hj,AAE hj];exact⟨_,rfl⟩
 .rw [AAC hj,AAC hj];exact⟨_,rfl⟩
def Pw:B4 X (.type "int") (λxs H Q=>(∃i,xs= [.int i] /\Q (.int i) H)\/∃k,xs= [.bl k] /\Q (.int (if k then 1 else 0)) H):=by
 intro e s f H xs g Q I r h;rcases h with⟨i,rfl,q⟩|⟨k,rfl,q⟩
 .obtain ⟨u,rfl,t,rfl⟩:=vals1 r;exact call_int_int ⟨.int i,H,I,⟨_,rfl⟩,q⟩
 .obtain ⟨u,rfl,d⟩:=vals1 r;cases d;exact call_int_bool ⟨.int (if k then 1 else 0),H,I.tok _,⟨_,rfl⟩,q⟩
end
structure xh (h:Heap) (x dx C:Addr) (mA:Str->Option Value):Prop where
 obj:h.get? x=some (PySem.W.instObj C dx)
 ns:h.Ns1 dx mA
 ne:dx≠x
def La.some_of {v:V}{o:zt zx}(r:La (some v) o):∃u,o=some u/\RelV v u:=by
 cases o with
 | none=>exact(show False from r).elim
 | some u=>exact⟨u,rfl,r⟩
structure wg (K:AAB) (C:Addr):Prop where
 pg:PySem.W.plainGet K C Str.empty=true
 hd:PySem.W.hasDictIn K C=true
 po:PySem.W.plainOver K C=true
 sa:PySem.W.findIn K (.ref C) "__setattr__" =some (some (.builtin "object.__setattr__"))
structure zR (K:AAB) (C:Addr) (f:Str) (v:V) (u:Value):Prop where
 at_:PySem.W.findIn K (.ref C) f=some (some u)
 rel:RelV v u
 get:PySem.W.specialIn K u "__get__" =some none
 cp:PySem.W.copiedNames.contains f=false
structure xf (K:AAB) (C:Addr) (m:Str) (f:Addr):Prop where
 at_:PySem.W.findIn K (.ref C) m=some (some (.ref f))
 fn:PySem.W.isFn K (.ref f)=true
 kp:PySem.W.keepIn K (.ref f)=true
section
variable {X:Cx}{ke:zy (zu×Obj)}{σ:St}{H:Hp}{s:zw}{a C dx:zu}{fs:zy (Str×V)}{f:Str}{v:V}{A:kf}{E:zx->zw->Prop}
def Inv.made (I:Inv X ke σ H s):Inv X ke σ (upd (upd H s.heap.objs.size (.own (s.heap.objs.size+1))) (s.heap.objs.size+1) (.ins C s.heap.objs.size [])) {s with heap:=(s.heap.push PySem.W.emptyDict).push (PySem.W.instObj C s.heap.objs.size)}:=by
 have c:(s.heap.push PySem.W.emptyDict).get? s.heap.objs.size=some PySem.W.emptyDict:=AAP s.heap rfl;have d:((s.heap.push PySem.W.emptyDict).push (PySem.W.instObj C s.heap.objs.size)).get? (s.heap.objs.size+1)=some (PySem.W.instObj C s.heap.objs.size):=by
  have:=AAP (s.heap.push PySem.W.emptyDict) (o:=PySem.W.instObj C s.heap.objs.size) rfl
  rwa [ABM] at this
 have g:(s.heap.push PySem.W.emptyDict).Ns s.heap.objs.size (λ_=>none):=⟨PySem.W.emptyDict, #[],_,c,rfl,(λe he=>absurd he (by simp)),λ_=>rfl⟩;have h:=I.laid (a:=s.heap.objs.size) (o:= .own (s.heap.objs.size+1)) (h':=s.heap.push PySem.W.emptyDict) (t':=s.toks) (λb u q=>AAH _ q) (AAJ _) ⟨_,c⟩;refine h.laid (a:=s.heap.objs.size+1) (o:= .ins C s.heap.objs.size []) (t':=s.toks) (λb u q=>AAH _ q) (Nat.le_of_eq (ABM _ _)) ?_;have ne:s.heap.objs.size≠s.heap.objs.size+1:=AAM (Nat.lt_succ_self _);refine⟨by rw[Ag ne,Aj],ABG _,ne,d,λ_=>none,(Heap.Ns1.of_empty g).at λo q=>AAH _ q,λ_=>True.intro,λy i=>absurd rfl i⟩
end
section
variable {X:Cx}{ke:zy (zu×Obj)}{σ:St}{H:Hp}{s:zw}{A:kf}{E:zx->zw->Prop}{Q:zx->zw->Prop}{c:zx}{b:kn}
inductive M7 (K:AAB) (H:Hp):V->Value->Prop where
 | non:M7 K H .non (.type "NoneType")
 | bl (x:Bool):M7 K H (.bl x) (.type "bool")
 | int (i:Int):M7 K H (.int i) (.type "int")
 | str (x:Str):M7 K H (.str x) (.type "str")
 | flt (x:UInt64):M7 K H (.flt x) (.type "float")
 | lst {a:Addr} {xs:List V} (e:H a=some (.lst xs)):M7 K H (.ref a) (.type "list")
 | frz {a:Addr} {o:Obj} {xs:List V} (e:H a=some (.frz o (.lst xs))):M7 K H (.ref a) (.type "list")
 | tup {a:Addr} {xs:List V} (e:H a=some (.tup xs)):M7 K H (.ref a) (.type "tuple")
 | dK {a:Addr} {kvs:List (B6×V)} (e:H a=some (.dK kvs)):M7 K H (.ref a) (.type "dict")
 | dT {a:Addr} {kvs:List (List B6×V)} (e:H a=some (.dT kvs)):M7 K H (.ref a) (.type "dict")
 | ins {a C dx:Addr} {fs:List (Str×V)} (e:H a=some (.ins C dx fs)) (cl:wg K C) (ha:PySem.W.findIn K (.ref C) "__class__" =some (some (.builtin "object.__class__")))
    (hn:PySem.W.specialIn K (.builtin "object.__class__") "__get__" =some (some (.builtin "getset_descriptor.__get__"))) (zf:PySem.W.takesIn K (.builtin "object.__class__")=some true)
    (hm:PySem.W.mroIn K C (.type "object")=some true):M7 K H (.ref a) (.ref C)
end
structure Room (k:Nat) (A:Around):Prop where
 hd:A.handled=none
 dp:A.depth+3*k+5<recursionLimit
 un:A.units+16*k+200<cLine
 gd:A.guards=some []
def Room.mono {j k:Nat}{A:kf}(r:Room k A)(h:j<=k):Room j A:=⟨r.hd,by have:=r.dp;omega,by have:=r.un;omega,r.gd⟩
def Room.deeper {k:Nat}{A:kf}(r:Room (k+1) A)(env:Env):Room k (A.deeper env):=
 ⟨r.hd,by have:=r.dp;show A.depth+1+3*k+5<_;omega,by have:=r.un;show A.units+3+16*k+200<_;omega,r.gd⟩
def Room.in1 {k:Nat}{A:kf}(r:Room (k+1) A):Room k A.in1:=
 ⟨r.hd,by have:=r.dp;show A.depth+3*k+5<_;omega,by have:=r.un;show A.units+1+16*k+200<_;omega,r.gd⟩
def Vi {A:kf}{C:zu}{a:zy zx}{b:zy (Str×zx)}:(A.under (.builtin "type.__call__" ⟨.ref C::a,b⟩)).depth=A.depth+1:=by first | rfl|simp[Around.under,Code.weight,Code.isCreation,Code.isGuard,Code.isCaller,Code.frames,Code.isFrame,guardIds]
def Vj {A:kf}{C:zu}{a:zy zx}{b:zy (Str×zx)}:(A.under (.builtin "type.__call__" ⟨.ref C::a,b⟩)).units=A.units+1:=by first | rfl|simp[Around.under,Code.cUnits,Code.frames,Code.isFrame]
def Room.make {k:Nat}{A:kf}(r:Room (k+1) A)(C:zu)(a:zy zx)(b:zy (Str×zx)):Room k (A.under (.builtin "type.__call__" ⟨.ref C::a,b⟩)):=
 ⟨r.hd,by have:=r.dp;rw[Vi];omega,by have:=r.un;rw[Vj];omega,by first | exact r.gd|simpa[Around.under,pushGuards,Code.guards,Code.isGuard,guardIds] using r.gd⟩
def Room.depth {k:Nat}{A:kf}(r:Room k A):A.depth<recursionLimit:=by have:=r.dp;omega
def Room.units {k:Nat}{A:kf}(r:Room k A):A.units+64<cLine:=by have:=r.un;omega
def pZ:TA:=λ_ H Q=>Q [] H
def cm (b:TE)(c:TA):TA:=λa H Q=>b a H λx H1=>c a H1 λxs d=>Q (x::xs) d
section
variable {X:Cx}{e:zr}{es:zy zr}{te:TE}{t:TA}{pos:Pos}
def ED:PA X [] pZ:=λ_ _ _ _ H Q I h=>ADS ⟨[],H,I, .nil,h⟩
def Bt (ha:PE X e te)(c:PA X es t)(hs:starEach (e::es) X.env=(false,eval e X.env)::starEach es X.env:=by rfl):PA X (e::es) (cm te t):=by intro pos a s b H Q I h;rw[hs];show wpAny _ _ (spliced ((false,eval e X.env)::backTo pos (starEach es X.env))) _ _ s;refine ACV (BJ (ha a s b H _ I h) λu d ⟨x,H1,f,g,i⟩=> ?_);exact BJ (c pos a d b H1 _ f i) λn o ⟨xs,j,k,l,m⟩=>⟨x::xs,j,k, .cons g l,m⟩
def tM (t:TA):TE:=λa H Q=>t a H λxs H1=>xs.length<=sizeLine/\∀p,H1 p=none->Q (.ref p) (upd H1 p (.tup xs))
def tG (t:TA):TE:=λa H Q=>t a H λxs H1=>xs.length<=sizeLine/\∀p,H1 p=none->Q (.ref p) (upd H1 p (.lst xs))
def kM {x1}(h:PA X es t):PE X (.Tuple es x1 pos) (tM t):=by intro d s f H Q I g;refine wpAny_Tuple_spliced (BJ (h pos d s f H _ I g) λi a ⟨xs,H1,c,r,z,q⟩=>⟨by rw[<-r.length];exact z, ?_⟩);have j:H1 a.heap.objs.size=none:=c.hok.fresh (AAJ _);refine⟨.ref a.heap.objs.size,upd H1 a.heap.objs.size (.tup xs),c.laid (t':=a.toks) (λb u e=>AAH _ e) (AAJ _) ?_,rfl,q _ j⟩;exact⟨z,i,r,⟨_,AAP _ rfl,rfl,_,rfl⟩⟩
def bg (h:PA X es t):PE X (.List es pos) (tG t):=by intro d s f H Q I g;refine wpAny_List_spliced (BJ (h pos d s f H _ I g) λi a ⟨xs,H1,c,r,z,q⟩=>⟨by rw[<-r.length];exact z, ?_⟩);have j:H1 a.heap.objs.size=none:=c.hok.fresh (AAJ _);refine⟨.ref a.heap.objs.size,upd H1 a.heap.objs.size (.lst xs),c.laid (t':=a.toks) (λb u e=>AAH _ e) (AAJ _) ?_,rfl,q _ j⟩;exact⟨z,i,0,r,AAP _ rfl⟩
end
abbrev Sp:=zy V->Hp->VK->XK->Prop
abbrev X3:=zy Env->Hp->zw->XK->zx->zw->Prop
structure Ov (P:Program) (w:World) (K:AAB) (mg:Str->Option Value) (base:Heap) (A:Around) (outer:List Env) (s:Shared) (H:Hp):Prop where
 frames:A.frames=some outer
 mod:Mod K mg base
 bs:∀b o,base.get? b=some o->s.heap.get? b=some o/\H b=none
 bsz:base.objs.size<=s.heap.objs.size
 funs:s.heap.FunFrames base outer
 frf:∀b∈ZW outer,H b=none
 hok:Iy P w H s.heap
 bare:AllBare s.gens
def CE (outer:zy Env)(P:km)(w:kj)(H:Hp)(s:zw)(Q:VK)(u:zx)(a:zw):Prop:=
 ∃v b,a.os=s.os/\AllBare a.gens/\Un (ZW outer) [] H b s.heap a.heap/\Iy P w b a.heap/\RelV v u/\Q v b
def CR (CX:X3)(outer:zy Env)(P:km)(w:kj)(H:Hp)(s:zw)(Q:VK)(E:XK)(r:Result)(a:zw):Prop:=
 match r with
 | .ok (.ret u)=>CE outer P w H s Q u a
 | .ok _=>False
 | .error e=>CX outer H s E e a
structure Dp (P:Program) (w:World) (K:AAB) (mg:Str->Option Value) (base:Heap) (CX:X3) (k:Nat) (f:Addr) (fd:FuncData) (ps:List Str) (sp:Sp):Prop where
 len:∀vs H Q E,sp vs H Q E->vs.length=ps.length
 run:∀(A:Around) (outer:List Env) (s:Shared) (H:Hp) (args:Args) (us:List Value) (vs:List V) (Q:VK) (E:XK),Room k A->Ov P w K mg base A outer s H->BindsTo s fd args (ps.zip us)->At vs us->sp vs H Q E->
  codeAny (model P w) A (.call (.ref f) args) (CR CX outer P w H s Q E) s
def Dp.mono {P:km}{w:kj}{K:AAB}{mg:Str->zt zx}{base:ki}{CX:X3}{j k:Nat}{f:zu}{a:FuncData}{ps:zy Str}{sp:Sp}(F:Dp P w K mg base CX j f a ps sp)(h:j<=k):Dp P w K mg base CX k f a ps sp:=⟨F.len,λA outer s H args b vs Q E c=>F.run A outer s H args b vs Q E (c.mono h)⟩
def Dp.imp {P:km}{w:kj}{K:AAB}{mg:Str->zt zx}{base:ki}{CX:X3}{k:Nat}{f:zu}{b:FuncData}{ps:zy Str}{sp a:Sp}(F:Dp P w K mg base CX k f b ps sp)(h:∀vs H Q E,a vs H Q E->sp vs H Q E):Dp P w K mg base CX k f b ps a:=
 ⟨λvs H Q E q=>F.len vs H Q E (h _ _ _ _ q),λA outer s H args c vs Q E d he hb hv hs=>F.run A outer s H args c vs Q E d he hb hv (h _ _ _ _ hs)⟩
def Ov.make {P:km}{w:kj}{K:AAB}{mg:Str->zt zx}{base:ki}{A:kf}{outer:zy Env}{s:zw}{H:Hp}(e:Ov P w K mg base A outer s H)(C:zu)(a:zy zx)(b:zy (Str×zx)):Ov P w K mg base (A.under (.builtin "type.__call__" ⟨.ref C::a,b⟩)) outer s H:=⟨by first | exact e.frames|(simpa[Around.under,Code.envs,Code.isFrame,pushEnvs] using e.frames),e.mod,e.bs,e.bsz,e.funs,e.frf,e.hok,e.bare⟩
def Ov.in1 {P:km}{w:kj}{K:AAB}{mg:Str->zt zx}{base:ki}{A:kf}{outer:zy Env}{s:zw}{H:Hp}(e:Ov P w K mg base A outer s H):Ov P w K mg base A.in1 outer s H:=⟨e.frames,e.mod,e.bs,e.bsz,e.funs,e.frf,e.hok,e.bare⟩
section
variable {X:Cx}{ke:zy (zu×Obj)}{σ:St}{H:Hp}{s s':zw}
def Inv.env0 (I:Inv X ke σ H s):Ov X.prog X.w X.K X.mg X.base X.A X.stack s H:=
 ⟨I.ok.frames,I.ok.mod,I.bs,AAY I.ok.bsz I.sz,I.stack,I.stkFree,I.hok,I.bare⟩
def Inv.after {Q:VK}{u:zx}(I:Inv X ke σ H s)(h:CE X.stack X.prog X.w H s Q u s'):EP X ke σ Q u s':=by obtain⟨v,c,os,bare,un,hok,r,q⟩:=h;obtain⟨e,g,d,t,a⟩:=s';obtain rfl:a=s.os:=os;exact⟨v,c,I.call (h':=e) (g':=g) (d':=d) (t':=t) (ch:= []) un hok bare (λb z=>absurd z (by simp)),r,q⟩
end
def ci (sp:Sp)(a:zy V)(E:XK)(t:TA):TE:=λb H Q=>t b H λvs H1=>sp (vs++a) H1 Q E
def Binds (K:AAB)(b:FuncData)(ps:zy Str)(ds:zy zx):Prop:=
 ∀(s:zw) (a:zy zx),K.In s.heap->(a++ds).length=ps.length->BindsTo s b ⟨a, []⟩ (ps.zip (a++ds))
def Binds.all {K:AAB}{b:FuncData}{ps:zy Str}(h:∀a:zy zx,a.length=ps.length->bindArgs b ⟨a, []⟩=pure (ps.zip a)):Binds K b ps [] :=λs a _ hl=>by rw[ADT] at hl ⊢;exact .of_eq (h a hl)
def Passes (CX:X3)(X:Cx)(E:XK):Prop:=∀(b:zy (zu×Obj)) (c:St) (H:Hp) (s:zw) (e:zx) (a:zw),Inv X b c H s->CX X.stack H s E e a->X.xe e a
section
variable {X:Cx}{CX:X3}{k:Nat}{f C:zu}{fd:FuncData}{ps:zy Str}{sp:Sp}{dvs:zy V}{ds:zy zx}{E:XK}{x m:Str}{p pos apos:Pos}{e o:zr}{es:zy zr}{ta:TE}{t:TA}
theorem ka {c:zy (zu×Obj)}{d:St}{H:Hp}{s:zw}{Q:VK}{a:zy zx}{vs:zy V}(F:Dp X.prog X.w X.K X.mg X.base CX k f fd ps sp)(i:Room k X.A)(hb:Binds X.K fd ps ds)(hd:At dvs ds)(hx:Passes CX X E)(I:Inv X c d H s)(r:At vs a)(h:sp (vs++dvs) H Q E):wpAny (model X.prog X.w) X.A (call (.ref f) a) (EP X c d Q) X.xe s:=by
 have g:At (vs++dvs) (a++ds):=r.append hd;have hl:(a++ds).length=ps.length:=by rw[<-g.length];exact F.len _ _ _ _ h
 refine ACW (ACA (F.run X.A X.stack s H ⟨a, []⟩ (a++ds) (vs++dvs) Q E i I.env0 (hb s a I.kIn hl) g h) λr j b=> ?_);cases r with
 | error e=>exact hx c d H s e j I b
 | ok l=>
   cases l with
   | ret u=>exact I.after b
   | next=>exact False.elim b
   | brk=>exact False.elim b
   | cont=>exact False.elim b
theorem XW (F:Dp X.prog X.w X.K X.mg X.base CX k f fd ps sp)(b:Room k X.A)(c:Gl X x)(d:X.mg x=some (.ref f))(hk:PySem.W.keepIn X.K (.ref f)=true)(hb:Binds X.K fd ps ds)(hd:At dvs ds)(hx:Passes CX X E)(ha:PA X (e::es) t)(hdb:(x==("__debug__" :Str))=false:=by decide)(he:starEach (e::es) X.env=(false,eval e X.env)::starEach es X.env:=by rfl)(hpl:(backTo pos (starEach es X.env)).any (·.1)=false:=by rfl):PE X (.Call (.Name x p) (e::es) [] pos) (ci sp dvs E t):=by intro g s i H Q I h;refine ACt (XN I c d ?_ hdb);refine PySem.W.callWith_K (h₀:=X.base) I.ok.mod.kin hk (BJ (ha pos g s i H _ I h) λj l ⟨vs,H1,a,r,q⟩=>⟨a.kIn, ?_⟩) he hpl;exact ka F b hb hd hx a r q
structure Mk (K:AAB) (C f:Addr):Prop where
 makes:PySem.W.makesIn K C=true
 init:PySem.W.findIn K (.ref C) "__init__" =some (some (.ref f))
 fn:PySem.W.isFn K (.ref f)=true
 kp:PySem.W.keepIn K (.ref C)=true
end
section
variable {X:Cx}{CX:X3}{k:Nat}{f C:zu}{fd:FuncData}{ps ks:zy Str}{sp:Sp}{E:XK}{x m:Str}{p pos apos kpos:Pos}{e o:zr}{es:zy zr}{kws:zy Keyword}{te ta:TE}{t tk:TA}{nm:zt Str}
structure rD (K:AAB) (fd:FuncData) (ps ks:List Str) (g:List Value->List Value->List Value) (gV:List V->List V->List V):Prop where
 to:∀(s:Shared) (us ws:List Value),K.In s.heap->(g us ws).length=ps.length->BindsTo s fd ⟨us,ks.zip ws⟩ (ps.zip (g us ws))
 rel:∀{vs:List V} {us:List Value} {zs:List V} {ws:List Value},At vs us->At zs ws->At (gV vs zs) (g us ws)
variable {g:zy zx->zy zx->zy zx}{gV:zy V->zy V->zy V}
end
structure DS (N P:List Str) (sc:Scope):Prop where
 kind:sc.kind= .function
 co:sc.isCoroutine=false
 gen:sc.isGenerator=false
 nd:N.Nodup
 pre:N.take P.length=P
 par:∀x∈P,sc.names.lookup x=some .local\/sc.names.lookup x=some .cell
 nofree:∀y∈sc.names,y.2≠ .free
theorem Pu {kindOf:Str->zt NameKind}{x:Str}:∀{binds:zy (Str×zx)} {m:Str->zt zx},(∀v,(x,v) ∉ binds)->bindL kindOf binds m x=m x
 | [],_,_=>rfl
 | (n,v)::r,m,h=>by
   unfold bindL;rw[Pu λw hw=>h w (ABE _ hw)];split
   .have:x≠n:=by rintro rfl;exact h v ABK
    simp[this]
   .rfl
theorem Ps {kindOf:Str->zt NameKind}{x:Str}:∀{binds:zy (Str×zx)} {m:Str->zt zx},(∀v,(x,v) ∉ binds)->bindC kindOf binds m x=m x
 | [],_,_=>rfl
 | (n,v)::r,m,h=>by
   unfold bindC;rw[Ps λw hw=>h w (ABE _ hw)];split
   .rfl
   .have:x≠n:=by rintro rfl;exact h v ABK
    simp[this]
theorem Pt {kindOf:Str->zt NameKind}{x:Str}{v:zx}:∀{P:zy Str} {vs:zy zx} {i:Nat} {m:Str->zt zx},P.Nodup->P[i]? =some x->vs[i]? =some v->kindOf x=some .local-> bindL kindOf (P.zip vs) m x=some v
 | [],_,_,_,_,h,_,_=>by simp at h
 | _::_, [],_,_,_,_,h,_=>by simp at h
 | p::P,w::vs,0,m,nd,h1,h2,hk=>by simp at h1 h2;subst h1;subst h2;show bindL kindOf ((p,w)::P.zip vs) m p=_;unfold bindL;rw[Pu λv hv=>(ABn.mp nd).1 (ACu hv).1,AAE hk];simp
 | p::P,w::vs,i+1,m,nd,h1,h2,hk=>by show bindL kindOf ((p,w)::P.zip vs) m x=_;unfold bindL;exact Pt (i:=i) (ABn.mp nd).2 (by simpa using h1) (by simpa using h2) hk
theorem Pq {kindOf:Str->zt NameKind}{x:Str}{v:zx}:∀{P:zy Str} {vs:zy zx} {i:Nat} {m:Str->zt zx},P.Nodup->P[i]? =some x->vs[i]? =some v->kindOf x≠some .local-> bindC kindOf (P.zip vs) m x=some v
 | [],_,_,_,_,h,_,_=>by simp at h
 | _::_, [],_,_,_,_,h,_=>by simp at h
 | p::P,w::vs,0,m,nd,h1,h2,hk=>by simp at h1 h2;subst h1;subst h2;show bindC kindOf ((p,w)::P.zip vs) m p=_;unfold bindC;rw[Ps λv hv=>(ABn.mp nd).1 (ACu hv).1,AAC hk];simp
 | p::P,w::vs,i+1,m,nd,h1,h2,hk=>by show bindC kindOf ((p,w)::P.zip vs) m x=_;unfold bindC;exact Pq (i:=i) (ABn.mp nd).2 (by simpa using h1) (by simpa using h2) hk
def start (N:zy Str)(vs:zy V):St:=vs.map some++List.replicate (N.length-vs.length) none
def O2 (CX:X3)(P:km)(w:kj)(K:AAB)(mg:Str->zt zx)(base:ki)(N:zy Str)(qual:Str)(scope:Scope)(f:zu)(b:zx)(A:kf)(outer:zy Env)(s:zw)(H:Hp)(E:XK):Cx where
 prog:=P
 w:=w
 K:=K
 mg:=mg
 base:=base
 A:=A.deeper (envOfC qual scope s.heap.objs.size f b)
 N:=N
 s₀:=s
 H₀:=H
 env:=envOfC qual scope s.heap.objs.size f b
 outer:=outer
 stack:=envOfC qual scope s.heap.objs.size f b::outer
 ex:= []
 calm:=true
 fn:=λ_=>true
 pn:= []
 xe:=λe c=>wpAny (model P w) (A.deeper (envOfC qual scope s.heap.objs.size f b)) (leaving (envOfC qual scope s.heap.objs.size f b) e) (λ_ a=>CX outer H s E e a) (λd a=>CX outer H s E d a) c
def TF {sc:Scope}{n:Nat}{x:Str}(h:sc.names.lookup x=some .cell):∃c,(cellsFrom n sc.names []).lookup x=some c:=by have q:=AD6 sc.names n [] (.inl h);exact Option.isSome_iff_exists.mp q
def Yk {CX:X3}{P:km}{w:kj}{K:AAB}{mg:Str->zt zx}{base:ki}{N ps:zy Str}{qual:Str}{scope:Scope}{f:zu}{m:zx}{A:kf}{outer:zy Env}{s t:zw}{H:Hp}{E:XK}{o:zy zx}{vs:zy V}(S:DS N ps scope)(hd:A.handled=none)(d:Ov P w K mg base A outer s H)(hl:vs.length=ps.length)(r:At vs o)(x:InCallC s s.heap.objs.size (bindL (envOfC qual scope s.heap.objs.size f m).kindOf (ps.zip o) λ_=>none) (cellsFrom (s.heap.objs.size+1) scope.names []) (bindC (envOfC qual scope s.heap.objs.size f m).kindOf (ps.zip o) λ_=>none) t):Inv (O2 CX P w K mg base N qual scope f m A outer s H E) [] (start N vs) H t:=by
 have hpl:ps.length<=N.length:=by have:=congrArg List.length S.pre;rw[ADU] at this;omega
 obtain⟨h1,B,rfl,hk⟩:=x.done;have g:∀b:zu,b ∉ (O2 CX P w K mg base N qual scope f m A outer s H E).ex:=λb z=>absurd (show b∈([] :zy zu) from z) (by simp);refine⟨⟨d.mod,S.kind,rfl,rfl,AAJ _,λy z c h1 h2=> ?_,λy j=> ?_,λy c _ h=> ?_,λ_=>hd,Around.frames_deeper d.frames, .inr ⟨rfl,rfl⟩,λb z=>absurd z (g b),d.bs,d.bsz,λb _ _=>g b,λb z=>absurd z (g b),d.funs,d.frf⟩,
  rfl,d.bare,Un.kept hk,⟨_,x.toInCall.ns,λi y v h1 h2 h3=> ?_⟩,λy c h=>⟨_,x.cell y c h⟩,d.hok.fresh (AAJ _),λy c h=> ?_,λp hp=>absurd (show p∈([] :zy (zu×Obj)) from hp) (by simp),d.hok.kept hk, ?_⟩
 .exact name_of_addr x.apart (ACX h1) (ACX h2)
 .have j:scope.names.lookup y=some .cell\/scope.names.lookup y=some .free:=j;rcases j with j|j
  .exact TF j
  .exact absurd rfl (S.nofree _ (ACX j))
 .exact AB8 (x.above y c (ACX h))
 .have hi:i<vs.length:=by
   unfold start at h2;by_cases hi:i<vs.length
   .exact hi
   .rw [ABH (by simpa using hi)] at h2;rw[ABZ] at h2;split at h2 <;> cases h2
  have ha:vs[i]? =some v:=by
   unfold start at h2;rw[ABN (by simpa using hi),AAg] at h2;cases e:vs[i]? with
   | none=>rw[e] at h2;cases h2
   | some a=>rw[e] at h2;cases h2;rfl
  obtain⟨u,hu,rv⟩:=r.get ha;have hp:ps[i]? =some y:=by rw[<-S.pre,List.getElem?_take_of_lt (by omega)];exact h1
  have l:ps.Nodup:=by rw[<-S.pre];exact S.nd.sublist (List.take_sublist _ _)
  refine⟨u,rv, ?_⟩;rcases S.par y (ABo hp) with k|k
  .exact .inl ⟨k,Pt l hp hu k⟩
  .obtain ⟨c,e⟩:=TF (n:=s.heap.objs.size+1) k;refine .inr ⟨.inl k,c,e, ?_⟩;have q:=x.cell y c e;rw[Pq l hp hu (by show scope.names.lookup y≠_;rw[k];decide)] at q;exact q
 .exact d.hok.fresh (AB8 (x.above y c (ACX h)))
 .unfold start;show _=N.length;rw[AAx,AAK,ABa];omega
def hU {CX:X3}{P:km}{w:kj}{K:AAB}{mg:Str->zt zx}{base:ki}{k:Nat}{f:zu}{name qual:Str}{params:Arguments}{body:zy Stmt}{scope:Scope}{p kV d z a ct G:zx}{B L:zt zu}{i:Array (zt zx)}{N ps:zy Str}{sp:Sp}(M:K.lookup f=some ⟨G,L, .func (PySem.W.fnOf name qual params body scope p kV d z B a ct),i⟩)(O:PySem.W.codeIn K a qual=true)(S:DS N ps scope)(len:∀vs H Q E,sp vs H Q E->vs.length=ps.length)(R:∀(A:kf) (outer:zy Env) (s:zw) (H:Hp) (vs:zy V) (Q:VK) (E:XK),Room k (A.deeper (envOfC qual scope s.heap.objs.size f a))->sp vs H Q E-> ∃t,S4 (O2 CX P w K mg base N qual scope f a A outer s H E) body t/\t {nx:=λ_ c=>Q .non c,rt:=Q} (start N vs) H):Dp P w K mg base CX (k+1) f (PySem.W.fnOf name qual params body scope p kV d z B a ct) ps sp:=by
 refine⟨len,λA outer s H args T vs Q E j g hb r C=> ?_⟩;have hl:=len _ _ _ _ C;have D:K.In s.heap:=g.mod.kin.keeps λb o e=>(g.bs b o e).1;have l:s.heap.NoLimit:=g.mod.nolimit.keeps λb o e=>(g.bs b o e).1;have U:∀y∈ps.zip T,scope.names.lookup y.1=some .local\/(scope.names.lookup y.1=some .cell/\((cellsFrom (s.heap.objs.size+1) scope.names []).lookup y.1).isSome=true):=λ⟨n,v⟩ X=>by
  rcases S.par n (ACu X).1 with q|q
  .exact .inl q
  .exact .inr ⟨q,AD6 _ _ _ (.inl q)⟩
 refine codeAny_call_function j.depth (D _ _ M) rfl S.co S.gen rfl (PySem.W.codeRec_of D O) (hb _ _ _ _ ?_);refine wpAny_newFunctionEnv_cells S.kind U λenv he F x=> ?_;subst he;refine⟨l.keeps x.toInCall.keep,codeAny_func ?_⟩;obtain⟨t,Y,Z⟩:=R A outer s H vs Q E (j.deeper _) C;have I:Inv (O2 CX P w K mg base N qual scope f a A outer s H E) [] (start N vs) H F:=Yk S j.hd g hl r x;refine ABL (Y [] F (start N vs) H _ I Z) (λfl m hs=> ?_) λe m hs=>hs;have h:∀{σ':St} {c:Hp} {v:V} {u:zx},Inv (O2 CX P w K mg base N qual scope f a A outer s H E) [] σ' c m->RelV v u->Q v c->CE outer P w H s Q u m:=
  λ{σ' c v u} J rv q=>⟨v,c,J.os,J.bare,J.base,J.hok,rv,q⟩
 cases fl with
 | ret u=> obtain⟨v,σ',c,J,rv,q⟩:=hs;exact h J rv q
 | next=> obtain⟨σ',c,J,q⟩:=hs;exact h (v:=V.non) (u:=Value.none) J rfl q
 | brk=> obtain⟨_,_,_,q⟩:=hs;exact False.elim q
 | cont=> obtain⟨_,_,_,q⟩:=hs;exact False.elim q
section
variable {X:Cx}{x:Str}{p pos:Pos}{e:zr}{es:zy zr}{t:TA}{id T:String}{r:zy V->Hp->VK->Prop}
def tE (r:zy V->Hp->VK->Prop)(t:TA):TE:=λa H Q=>t a H λvs H1=>r vs H1 Q
def Gg (hc:B4 X (.builtin id) r)(c:Gl X x)(d:X.mg x=none)(hv:bootBuiltins x=some (.builtin id))(ha:PA X (e::es) t)(f:x≠"__name__" :=by decide)(hdb:(x==("__debug__" :Str))=false:=by decide)(he:starEach (e::es) X.env=(false,eval e X.env)::starEach es X.env:=by rfl)(hpl:(backTo pos (starEach es X.env)).any (·.1)=false:=by rfl):PE X (.Call (.Name x p) (e::es) [] pos) (tE r t):=by intro a s b H Q I h;refine ACt (Gc I c d hv ?_ f hdb);exact AD7 (BJ (ha pos a s b H _ I h) λg i ⟨vs,H1,j,k,l⟩=>hc a i b H1 vs g Q j k l) he hpl
def HG (hc:B4 X (.type T) r)(c:Gl X x)(d:X.mg x=none)(hv:bootBuiltins x=some (.type T))(ha:PA X (e::es) t)(f:x≠"__name__" :=by decide)(hdb:(x==("__debug__" :Str))=false:=by decide)(he:starEach (e::es) X.env=(false,eval e X.env)::starEach es X.env:=by rfl)(hpl:(backTo pos (starEach es X.env)).any (·.1)=false:=by rfl):PE X (.Call (.Name x p) (e::es) [] pos) (tE r t):=by intro a s b H Q I h;refine ACt (Gc I c d hv ?_ f hdb);exact ACT (BJ (ha pos a s b H _ I h) λg i ⟨vs,H1,j,k,l⟩=>hc a i b H1 vs g Q j k l) he hpl
end
end L2
namespace HT
open PySem PyProof.Rows
section
variable {prog:km}{w:kj}{A:kf}{E:zx->zw->Prop}{s:zw}
def cat_tup {t b:zu}{vs a:zy zx}{Q:zx->zw->Prop}(m:IsTup s.heap t vs.toArray)(hb:IsTup s.heap b a.toArray)(hv:vs≠ [])(h1:a= [] ->Q (.ref t) s)(h2:a≠ [] ->Q (.ref s.heap.objs.size) {s with heap:=s.heap.push {cls:= .type "tuple",data:= .seq (vs++a).toArray}})(hsz:vs.length+a.length<=sizeLine):wpAny (model prog w) A (binaryOp .Add (.ref t) (.ref b)) Q E s:=by
 obtain⟨⟨cls,h,data,sl⟩,f,hc,n,hd⟩:=id m;obtain⟨⟨i,c,data2,d⟩,g,j,k,l⟩:=id hb;simp only at hc hd j l;subst hc hd j l;have e:vs.toArray++a.toArray=(vs++a).toArray:=by simp
 by_cases hw:a= []
 .exact concat_meets ⟨_,f,rfl⟩ ⟨_,g,rfl⟩ ADV seq_tuple_add ADW ADX (ADY _ _)
   (tuple_addW1 t b vs.toArray a.toArray n k h c sl d (by simpa using hv) (by simp[hw])) ⟨f,g,h1 hw⟩
 .refine concat_meets ⟨_,f,rfl⟩ ⟨_,g,rfl⟩ ADV seq_tuple_add ADW ADX (ADY _ _)
   (tuple_addW2 t b vs.toArray a.toArray n k h c sl d (by simpa using hv) (by simpa using hw) (by rw[AAZ,AAZ];exact hsz)) ⟨f,g, ?_⟩
  rw[e];exact h2 hw
def sIx (n d:Nat):zt Int->Nat
 | none=>d
 | some v=>if v<0 then (v+(n:Int)).toNat else min v.toNat n
def sIx_none (n d:Nat):sIx n d none=d:=rfl
def sIx_nat (n d k:Nat):sIx n d (some (k:Int))=min k n:=by show (if (k:Int)<0 then ((k:Int)+(n:Int)).toNat else min (k:Int).toNat n)=min k n;rw[AAC (by omega),ABp]
def kb (n d:Nat)(hd:d<=n)(o:zt Int):sIx n d o<=n:=by
 cases o with
 | none=>exact hd
 | some v=>
   show (if v<0 then (v+(n:Int)).toNat else min v.toNat n)<=n;by_cases hv:v<0
   .rw [AAE hv];omega
   .rw [AAC hv];exact Nat.min_le_right _ _
def Wo (v:Int)(n d:Nat):(if v<0 then max (v+(n:Int)) 0 else min v (n:Int))=((sIx n d (some v):Nat):Int):=by
 show (if v<0 then max (v+(n:Int)) 0 else min v (n:Int))=(((if v<0 then (v+(n:Int)).toNat else min v.toNat n):Nat):Int);by_cases hv:v<0
 .simp only[AAE hv];omega
 .simp only[AAC hv];omega
def VB (lo hi:zt Int)(n:Nat):Builtin.Slice.sliceAdjust lo hi 1 (n:Int)=(((sIx n 0 lo:Nat):Int),((sIx n n hi:Nat):Int)):=by
 have h1:¬((1:Int)<0):=by omega
 unfold Builtin.Slice.sliceAdjust;simp only[h1,AAl];refine ABq ?_ ?_
 .cases lo with
  | none=>rfl
  | some v=>exact Wo v n 0
 .cases hi with
  | none=>rfl
  | some v=>exact Wo v n n
def V2 (i j:Nat):Builtin.Slice.slicePlaces (i:Int) (j:Int) 1=j-i:=by
 unfold Builtin.Slice.slicePlaces;have h1:(1:Int)>0:=by omega
 simp only[h1,AA4,Int.ediv_one];split <;> omega
def ON {v:zx}{o:zt Int}{Q:zt Int->zw->Prop}(p:IsPart v o)(h:Q o s):wpAny (model prog w) A (Builtin.Slice.slicePartIndex v) Q E s:=by
 cases p with
 | none=>exact slicePart_none h
 | int i t=>exact slicePart_int h
def sliceApplied_gen {sl:zu}{a b:zx}{lo hi:zt Int}{n:Nat}{Q:Int×Int×Nat->zw->Prop}(hs:s.heap.IsSliceOf sl a b .none)(e:IsPart a lo)(f:IsPart b hi)(h:Q (((sIx n 0 lo:Nat):Int),1,sIx n n hi-sIx n 0 lo) s):wpAny (model prog w) A (Builtin.Slice.sliceApplied (.ref sl) (pure (n:Int))) Q E s:=by obtain⟨os,c,g,d⟩:=id hs;unfold Builtin.Slice.sliceApplied Builtin.Slice.sliceFields;refine AAA (AAA (AAo c d (x:=a) rfl (AAA (AAo c d (x:=b) rfl (AAA (AAo c d (x:= .none) rfl (AAD ?_)))))));refine AAA (slicePart_none ?_);show wpAny _ _ (if ((1:Int)==0)=true then _ else _) _ _ s;rw[AAC (by decide)];refine AAA (ON e (AAA (ON f (AAA (AAD ?_)))));show wpAny _ _ (match Builtin.Slice.sliceAdjust lo hi 1 (n:Int) with | (lo,hi)=>pure (lo,(1:Int),Builtin.Slice.slicePlaces lo hi 1)) _ _ s;rw[VB lo hi n];show wpAny _ _ (pure (((sIx n 0 lo:Nat):Int),(1:Int),Builtin.Slice.slicePlaces ((sIx n 0 lo:Nat):Int) ((sIx n n hi:Nat):Int) 1)) _ _ s;rw[V2];exact AAD h
def bn (xs:Array zx)(i k:Nat):((List.range k).filterMap λ(m:Nat)=>xs[((i:Int)+(m:Int)*1).toNat]?).toArray=((xs.toList.drop i).take k).toArray:=by
 have e:(λ(m:Nat)=>xs[((i:Int)+(m:Int)*1).toNat]?)=λm=>xs[i+m]? :=by
  funext m
  have:((i:Int)+(m:Int)*1).toNat=i+m:=by omega
  rw[this]
 rw[e];have:=pick_run xs i k;rw[List.filterMap_map] at this;have a:((λx=>xs[x]?) ∘ λx=>i+x)=λm=>xs[i+m]? :=rfl;rw[a] at this;rw[this]
def getItem_tuple_cut {t sl:zu}{items:Array zx}{c d:zx}{lo hi:zt Int}{Q:zx->zw->Prop}(a:IsTup s.heap t items)(hs:s.heap.IsSliceOf sl c d .none)(e:IsPart c lo)(f:IsPart d hi)(hw:¬(sIx items.size 0 lo=0/\sIx items.size items.size hi=items.size))(h:Q (.ref s.heap.objs.size) {s with heap:=s.heap.push {cls:= .type "tuple",data:= .seq ((items.toList.drop (sIx items.size 0 lo)).take (sIx items.size items.size hi-sIx items.size 0 lo)).toArray}})(hsz:items.size<=sizeLine):wpAny (model prog w) A (getItem (.ref t) (.ref sl)) Q E s:=by
 have b:sizeOk (.seq ((items.toList.drop (sIx items.size 0 lo)).take (sIx items.size items.size hi-sIx items.size 0 lo)).toArray):=by show ((items.toList.drop (sIx items.size 0 lo)).take (sIx items.size items.size hi-sIx items.size 0 lo)).toArray.size<=sizeLine;rw[AAZ,ADU,List.length_drop,AB7];omega
 have hj:sIx items.size items.size hi<=items.size:=kb _ _ (AAJ _) hi;obtain⟨os,g,i,l⟩:=id hs;have j:s.TypeIs (.ref sl) "slice" :=⟨os,g,i⟩;unfold getItem;try with_reducible refine AAe ?_
 first | refine AAA (AAD ?_)|skip
 refine AAA (wpAny_sequenceKey a.typeIs (by decide) ?_);refine AAA (ACB (name:=Str.ofString "__getitem__") a.typeIs ACC
  (ABC ACC a.typeIs entry_tuple_getitem ?_ (args_tuple_getitem _ _)))
 show wpAny _ _ (Builtin.Tuple.tupleItemsOf (.ref t) >>= _) _ _ s;refine AAA (tupleItemsOf_ a ?_);refine AAA (wpAny_typeOf j ?_);rw[AAE (by decide)];refine AAA (sliceApplied_gen hs e f ?_);have k:¬((((sIx items.size 0 lo:Nat):Int)==0&&(1:Int)==1&&(sIx items.size items.size hi-sIx items.size 0 lo)==items.size)=true):=by intro q;rw[AA0,AA0] at q;have n:((sIx items.size 0 lo:Nat):Int)=0:=eq_of_beq q.1.1;have o:sIx items.size items.size hi-sIx items.size 0 lo=items.size:=eq_of_beq q.2;exact hw ⟨by omega,by omega⟩
 show wpAny _ _ (if (((sIx items.size 0 lo:Nat):Int)==0&&(1:Int)==1&&(sIx items.size items.size hi-sIx items.size 0 lo)==items.size)=true then _ else _) _ _ s;rw[AAC k,bn];first
  | exact AAA (m:=Builtin.Tuple.tupleExact _) (ABF (AAD ⟨_,rfl,AAD h⟩) b)
  | exact AAA (m:=Builtin.Tuple.tupleExact _) (ABF (AAA (AAD (AAD ⟨_,rfl,AAD h⟩))) b)
  | exact AAA (AAA (m:=Builtin.Tuple.tupleExact _) (ABF (AAD (AAD ⟨_,rfl,AAD h⟩)) b))
  | exact AAA (AAA (m:=Builtin.Tuple.tupleExact _) (ABF (AAD ⟨_,rfl,AAD h⟩) b))
end
end HT
namespace L2
open PySem PySem.Spec PyProof.Rows
abbrev TO:=St->Hp->(zt Int->Hp->Prop)->Prop
def PO (X:Cx)(e:zt zr)(t:TO):Prop:=
 ∀(b:zy (zu×Obj)) (s:zw) (a:St) (H:Hp) (Q:zt Int->Hp->Prop),Inv X b a H s->t a H Q->
  wpAny (model X.prog X.w) X.A (evalPart e X.env) (λu d=>∃o c,Inv X b a c d/\IsPart u o/\Q o c) X.xe s
def gZ:TO:=λ_ H Q=>Q none H
def pj (t:TE):TO:=λa H Q=>t a H λx H1=>∃i,x= .int i/\Q (some i) H1
section
variable {X:Cx}{e:zr}{te:TE}{lo hi:zt zr}{tl th:TO}{pos p2:Pos}
def fZ:PO X none gZ:=by intro a s b H Q I h;rw[evalPart_none];exact AAD ⟨none,H,I, .none,h⟩
def fb (h:PE X e te):PO X (some e) (pj te):=by intro a s b H Q I hw;rw[evalPart_some];refine BJ (h a s b H _ I hw) λu g ⟨x,H1,c,d,f⟩=> ?_;obtain⟨i,rfl,q⟩:=f;obtain⟨t,rfl⟩:=d;exact⟨some i,H1,c, .int i t,q⟩
def gx (X:Cx)(r:V->zt Int->zt Int->Hp->VK->Prop):Prop:=
 ∀(a:zy (zu×Obj)) (s:zw) (b:St) (H:Hp) (x:V) (v c d:zx) (lo hi:zt Int) (sl:zu) (Q:VK),Inv X a b H s->RelV x v->s.heap.IsSliceOf sl c d .none->IsPart c lo->IsPart d hi->r x lo hi H Q->
  ∃T id,typeLookup (.type T) "__getitem__" =pure (some (.builtin id))/\s.TypeIs v T/\wpAny (model X.prog X.w) X.A (getItem v (.ref sl)) (EP X a b Q) X.xe s
def gx.or {r a:V->zt Int->zt Int->Hp->VK->Prop}(h:gx X r)(h':gx X a):gx X (λx lo hi H Q=>r x lo hi H Q\/a x lo hi H Q):=by
 intro b s c H x v d f lo hi sl Q I g hs i j q;rcases q with q|q
 .exact h b s c H x v d f lo hi sl Q I g hs i j q
 .exact h' b s c H x v d f lo hi sl Q I g hs i j q
def yp (r:V->zt Int->zt Int->Hp->VK->Prop)(te:TE)(tl th:TO):TE:=λa H Q=>te a H λx H1=>tl a H1 λl b=>th a b λu c=>r x l u c Q
def bi {r:V->zt Int->zt Int->Hp->VK->Prop}(j:gx X r)(he:PE X e te)(hl:PO X lo tl)(hu:PO X hi th):PE X (.Subscript e (.Slice lo hi none p2) pos) (yp r te tl th):=by intro c s d H Q I h;refine Subscript_ (BJ (he c s d H _ I h) λv k ⟨x,H1,m,n,o⟩=> ?_);refine wpAny_Slice (BJ (hl c k d H1 _ m o) λf p ⟨l,t,y,z,B⟩=>BJ (hu c p d t _ y B) λg a ⟨u,i,C,D,E⟩=> ?_);rw[evalPart_none];refine AAD ?_;have F:Inv X c d i {a with heap:=a.heap.push {cls:= .type "slice",data:= .fields #[f,g, .none] }}:=C.kept (t':=a.toks) λb L q=>AAH _ q;obtain⟨T,id,G,J,K⟩:=j c {a with heap:=a.heap.push {cls:= .type "slice",data:= .fields #[f,g, .none] }} d i x v f g l u a.heap.objs.size Q F n (Heap.IsSliceOf.new ..) z D E;show wpAny (model X.prog X.w) X.A (subscriptTail e (.Slice lo hi none p2) v (.ref a.heap.objs.size)) (EP X c d Q) X.xe {a with heap:=a.heap.push {cls:= .type "slice",data:= .fields #[f,g, .none] }};exact tail_any (ops:= [.ref a.heap.objs.size,v]) J G K (by with_unfolding_all rfl)
def O1 (xs:zy V)(lo hi:zt Int):zy V:=(xs.drop (HT.sIx xs.length 0 lo)).take (HT.sIx xs.length xs.length hi-HT.sIx xs.length 0 lo)
def K9 (xs:zy V)(lo hi:zt Int):(O1 xs lo hi).length<=xs.length:=by unfold O1;rw[ADU,List.length_drop];omega
def sZ (K:AAB):V->zt Int->zt Int->Hp->VK->Prop:=λx lo hi H Q=>∃a xs,x= .ref a/\M6 K H a xs/\
 ¬(HT.sIx xs.length 0 lo=0/\HT.sIx xs.length xs.length hi=xs.length)/\∀p,H p=none->Q (.ref p) (upd H p (.tup (O1 xs lo hi)))
def lO:gx X (sZ X.K):=by
 intro l s m H x v n p lo hi sl Q I i hs j k h;obtain⟨a,xs,rfl,hx,hw,q⟩:=h;cases i;obtain⟨c,r,f,g⟩:=I.tuple hx;have d:c.toArray.size=xs.length:=by rw[AAZ];exact r.length.symm
 refine⟨"tuple",_,ACC.lookup,f.typeIs, ?_⟩;refine HT.getItem_tuple_cut f hs j k (by rw[d];exact hw) ?_ (by rw[d];exact g);rw[d];refine⟨.ref s.heap.objs.size,_,I.laid (t':=s.toks) (o:= .tup (O1 xs lo hi)) (λb t q=>AAH _ q) (AAJ _) ?_,rfl,q _ (I.hok.fresh (AAJ _))⟩;exact⟨AAY (K9 xs lo hi) g,_,(r.drop (HT.sIx xs.length 0 lo)).take (HT.sIx xs.length xs.length hi-HT.sIx xs.length 0 lo),IsTup.new _ _⟩
def iJ (K:AAB):R2:=λx y H Q=>∃a b xs c,x= .ref a/\y= .ref b/\M6 K H a xs/\M6 K H b c/\xs≠ [] /\xs.length+c.length<=sizeLine/\
 (c= [] ->Q (.ref a) H)/\(c≠ [] ->∀p,H p=none->Q (.ref p) (upd H p (.tup (xs++c))))
def At.nil_iff {xs:zy V}{a:zy zx}(r:At xs a):a= [] ↔xs= [] :=by
 cases r with
 | nil=>simp
 | cons _ _=>simp
def fH:Dq X (binaryOp .Add) (iJ X.K):=by intro r s t H x y v u Q I i j h;obtain⟨a,b,xs,k,rfl,rfl,ha,hb,hx,f,l,m⟩:=h;cases i;cases j;obtain⟨n,d,p,_⟩:=I.tuple ha;obtain⟨g,c,p2,_⟩:=I.tuple hb;refine HT.cat_tup p p2 (λz=>hx (d.nil_iff.mp z)) (λz=>⟨.ref a,H,I,rfl,l (c.nil_iff.mp z)⟩) (λz=> ?_) (by rw[<-d.length,<-c.length];exact f);refine⟨.ref s.heap.objs.size,_,I.laid (t':=s.toks) (o:= .tup (xs++k)) (λb A q=>AAH _ q) (AAJ _) ?_,rfl,m (λw=>z (c.nil_iff.mpr w)) _ (I.hok.fresh (AAJ _))⟩;exact⟨by rw[AAx];exact f,_,d.append c,IsTup.new _ _⟩
end
def XI (n:Nat)(i:Int):zt Nat:=if 0<=i then (if i<n then some i.toNat else none) else if -(n:Int)<=i then some (i+n).toNat else none
def J2 {a:Type}(xs:zy a)(i:Int):zt a:=(XI xs.length i).bind λj=>xs[j]?
def XJ {n:Nat}{i:Int}{j:Nat}(h:XI n i=some j):seqIndex? i n=some j/\j<n/\ -(n:Int)<=i/\i<n:=by
 unfold XI at h;by_cases a:0<=i
 .rw [AAE a] at h;by_cases h1:i<n
  .rw [AAE h1] at h;have e:i.toNat=j:=AAX h;exact⟨by rw[seqIndex_of a h1,e],by omega,by omega,h1⟩
  .rw [AAC h1] at h;cases h
 .rw [AAC a] at h;by_cases h1: -(n:Int)<=i
  .rw [AAE h1] at h;have e:(i+n).toNat=j:=AAX h;exact⟨by rw[seqIndex_neg (by omega) h1,e],by omega,h1,by omega⟩
  .rw [AAC h1] at h;cases h
def Wk {a:Type}{xs:zy a}{i:Int}{v:a}(h:J2 xs i=some v):∃j,seqIndex? i xs.length=some j/\xs[j]? =some v/\j<xs.length/\ -(xs.length:Int)<=i/\i<xs.length:=by
 unfold J2 at h;cases e:XI xs.length i with
 | none=>rw[e] at h;cases h
 | some j=> rw[e] at h;obtain⟨h1,h2,h3,b⟩:=XJ e;exact⟨j,h1,h,h2,h3,b⟩
def DU {a:Type}{xs:zy a}{j:Nat}{v:a}(h:xs[j]? =some v):J2 xs (j:Int)=some v:=by
 have hj:j<xs.length:=(AAz.mp h).1;have e:XI xs.length (j:Int)=some j:=by unfold XI;rw[AAE (by omega),AAE (by omega)];simp
 unfold J2;rw[e];exact h
def Q1 (b:zr):Prop:=∀o i,subscripted b false o i=operate [o,i] (getItem o i)
def de (X:Cx)(r:R2):Prop:=
 ∀(value slice:zr) (a:zy (zu×Obj)) (s:zw) (b:St) (H:Hp) (x y:V) (v u:zx) (Q:VK),Inv X a b H s->RelV x v->RelV y u->r x y H Q->
  subscripted slice false v u=operate [v,u] (getItem v u)->wpAny (model X.prog X.w) X.A (subscriptTail value slice v u) (EP X a b Q) X.xe s
def xg (X:Cx)(id:String)(r:V->zy V->Hp->VK->Prop):Prop:=
 ∀(a:zy (zu×Obj)) (s:zw) (b:St) (H:Hp) (x:V) (xs:zy V) (v:zx) (c:zy zx) (Q:VK),Inv X a b H s->RelV x v->At xs c->r x xs H Q->
  wpAny (model X.prog X.w) X.A (call (.builtin id) (v::c)) (EP X a b Q) X.xe s
section
variable {X:Cx}{a b:zr}{ta tb:TE}{pos:Pos}
def de.or {r c:R2}(h:de X r)(h':de X c):de X (λx y H Q=>r x y H Q\/c x y H Q):=by
 intro value slice d s e H x y v u Q I f g q hs;rcases q with q|q
 .exact h value slice d s e H x y v u Q I f g q hs
 .exact h' value slice d s e H x y v u Q I f g q hs
def LF {r:R2}(c:de X r)(ha:PE X a ta)(hb:PE X b tb)(hs:Q1 b):PE X (.Subscript a b pos) (ga r ta tb):=by intro d s e H Q I h;exact Subscript_ (i8 ha hb I h λv u f x y g i j k q=>c a b d f e g x y v u Q i j k q (hs _ _))
def og (K:AAB):R2:=λx y H Q=>∃p xs i v,x= .ref p/\y= .int i/\FO K H p xs/\J2 xs i=some v/\Q v H
def oi (K:AAB):R2:=λx y H Q=>∃p xs i v,x= .ref p/\y= .int i/\M6 K H p xs/\J2 xs i=some v/\Q v H
def Ex:de X (og X.K):=by
 intro value slice g s k H x y v u Q I m n h hs;obtain⟨p,xs,i,z,rfl,rfl,o,he,q⟩:=h;cases m;obtain⟨t,rfl⟩:=n;obtain⟨d,r,e,D⟩:=I.list o;obtain⟨j,h1,h2,h3,A,B⟩:=Wk he;obtain⟨w,ew,f⟩:=r.get h2;have hl:=r.length;have E:=Nd;have c:EP X g k Q w s:=⟨z,H,I,f,q⟩;by_cases l:0<=i
 .have hj:i.toNat=j:=by rw[seqIndex_of l B] at h1;exact AAX h1
  exact item_listR e.isList l (by omega) (by rw[hj];simpa using ew) c hs
 .have hj:(i+(d.toArray.size:Int)).toNat=j:=by rw[seqIndex_neg (by omega) A] at h1;rw[AAZ,<-hl];exact AAX h1
  exact subscriptTail_builtinR (x:=w) e.isList.typeIs slot_list_getitem.lookup
   (wpAny_getItem_list_neg (Q:=λr C=>r=w/\EP X g k Q r C) e.isList (by omega) (by rw[AAZ] <;> omega) (by omega) (by rw[hj];simpa using ew) ⟨rfl,c⟩) hs
def jh:de X (oi X.K):=by
 intro value slice e s f H x y v u Q I k l h hs;obtain⟨p,xs,i,z,rfl,rfl,m,he,q⟩:=h;cases k;obtain⟨t,rfl⟩:=l;obtain⟨n,r,g,A⟩:=I.tuple m;obtain⟨j,h1,h2,h3,B,C⟩:=Wk he;obtain⟨w,ew,c⟩:=r.get h2;have hl:=r.length;have D:=Nd;have d:EP X e f Q w s:=⟨z,H,I,c,q⟩;exact subscriptTail_builtinR (x:=w) g.typeIs slot_tuple_getitem.lookup
  (getItem_tuple (j:=j) (Q:=λr o=>r=w/\EP X e f Q r o) g (by omega) (by omega) (by rw[AAZ,<-hl];exact h1) (by simpa using ew) ⟨rfl,d⟩) hs
def Vk (c:zy zx)(n j:Nat)(u:zx):Obj.mapSeq (·.setIfInBounds j u) {cls:= .type "list",data:= .seq c.toArray n}={cls:= .type "list",data:= .seq (c.set j u).toArray n}:=by simp[Obj.mapSeq]
def Inv.lst {d:zy (zu×Obj)}{f:St}{H:Hp}{s:zw}{p:zu}{xs:zy V}(I:Inv X d f H s)(h:H p=some (.lst xs)):∃(c:zy zx) (n:Nat),At xs c/\s.heap.get? p=some {cls:= .type "list",data:= .seq c.toArray n}/\xs.length<=sizeLine:=by obtain⟨z,c,n,r,e⟩:=I.hok p _ h;exact⟨c,n,r,e,z⟩
def Inv.lstUpd {i:zy (zu×Obj)}{j:St}{H:Hp}{s:zw}{p:zu}{xs d:zy V}{c its':zy zx}{n g:Nat}{f:Obj->Obj}(I:Inv X i j H s)(h:H p=some (.lst xs))(l:s.heap.get? p=some {cls:= .type "list",data:= .seq c.toArray n})(k:f {cls:= .type "list",data:= .seq c.toArray n}={cls:= .type "list",data:= .seq its'.toArray g})(r:At d its')(m:d.length<=sizeLine)(t:Nat):Inv X i j (upd H p (.lst d)) {s with heap:=s.heap.update p f,toks:=t}:=by
 have e:(s.heap.update p f).get? p=some {cls:= .type "list",data:= .seq its'.toArray g}:=by rw[ACv f l (by rw[k] <;> rfl),k]
 refine I.write (x:=p) (e:=p) (by rw[h];trivial) (.inl rfl) (λb u hb q=>(Heap.get?_update_other _ _ (AA6 hb)).trans q) ⟨_,e⟩ ?_;exact⟨m,its',g,r,e⟩
def ox:V->V->V->Hp->(Hp->Prop)->Prop:=λo i v H Q=>∃p xs k j,o= .ref p/\i= .int k/\H p=some (.lst xs)/\XI xs.length k=some j/\Q (upd H p (.lst (xs.set j v)))
def Jb:ii X ox:=by
 intro l s m H o i v z A u Q I w x rv h;obtain⟨p,xs,k,j,rfl,rfl,hp,hj,q⟩:=h;cases w;obtain⟨t,rfl⟩:=x;obtain⟨c,n,r,d,y⟩:=I.lst hp;obtain⟨h1,h2,h3,e⟩:=XJ hj;have hl:=r.length;have B:=Nd;have f:Inv X l m (upd H p (.lst (xs.set j v))) {s with heap:=s.heap.update p (Obj.mapSeq (·.setIfInBounds j u))}:=
  I.lstUpd hp d (Vk c n j u) (r.set rv j) (by rw[List.length_set];exact y) s.toks
 by_cases g:0<=k
 .have hk:k.toNat=j:=by rw[seqIndex_of g e] at h1;exact AAX h1
  exact PySem.W.ki_setAt d g (by omega) (by rw[AAZ,<-hl];exact e) (by rw[hk];exact⟨_,f,q⟩)
 .have hk:(k+(c.toArray.size:Int)).toNat=j:=by rw[seqIndex_neg (by omega) h3] at h1;rw[AAZ,<-hl];exact AAX h1
  exact PySem.W.ki_setBack d (by omega) (by rw[AAZ,<-hl];exact h3) (by omega) (by rw[hk];exact⟨_,f,q⟩)
def SV (lo hi:zt Int)(n:Nat):(sliceBounds lo hi none n).1=((HT.sIx n 0 lo:Nat):Int)/\(sliceBounds lo hi none n).2.1=((HT.sIx n n hi:Nat):Int)/\(sliceBounds lo hi none n).2.2=1:=by
 refine⟨?_, ?_,rfl⟩
 .cases lo with
  | none=>simp[sliceBounds,HT.sIx]
  | some i=>
    simp only[sliceBounds,HT.sIx,Option.getD_none,show (1:Int)>0 by decide,AA4];by_cases h:i<0
    .simp only[h,AA4] <;> omega
    .simp only[h,AAl] <;> omega
 .cases hi with
  | none=>simp[sliceBounds,HT.sIx]
  | some i=>
    simp only[sliceBounds,HT.sIx,Option.getD_none,show (1:Int)>0 by decide,AA4];by_cases h:i<0
    .simp only[h,AA4] <;> omega
    .simp only[h,AAl] <;> omega
def PY (c:zy zx)(lo hi:zt Int):slicePick c.toArray lo hi none=((c.drop (HT.sIx c.length 0 lo)).take (HT.sIx c.length c.length hi-HT.sIx c.length 0 lo)).toArray:=by obtain⟨h1,h2,h3⟩:=SV lo hi c.toArray.size;unfold slicePick;rw[h1,h2,h3];simp only[sliceRange_one,pick_run,AAZ] <;> rfl
def sY (K:AAB):V->zt Int->zt Int->Hp->VK->Prop:=λx lo hi H Q=>∃a xs,x= .ref a/\FO K H a xs/\∀p,H p=none->Q (.ref p) (upd H p (.lst (O1 xs lo hi)))
def gO:gx X (sY X.K):=by intro k s l H x v m n lo hi sl Q I d hs e f h;obtain⟨a,xs,rfl,hx,q⟩:=h;cases d;obtain⟨g,r,c,i⟩:=I.list hx;have j:=r.length;refine⟨"list",_,slot_list_getitem.lookup,c.isList.typeIs, ?_⟩;refine wpAny_getItem_list_slice c.isList hs e f .none (by simp) ?_ (by rw[AAZ] <;> omega);rw[PY,<-j];refine⟨.ref s.heap.objs.size,_,I.laid (t':=s.toks) (o:= .lst (O1 xs lo hi)) (λb p q=>AAH _ q) (AAJ _) ?_,rfl,q _ (I.hok.fresh (AAJ _))⟩;exact⟨AAY (K9 xs lo hi) i,_,0,(r.drop (HT.sIx xs.length 0 lo)).take (HT.sIx xs.length xs.length hi-HT.sIx xs.length 0 lo),AAP _ rfl⟩
def JE:B4 X (.builtin "len") (λxs H Q=>∃p c,xs= [.ref p] /\(FO X.K H p c\/M6 X.K H p c)/\Q (.int c.length) H):=by
 intro l s m H xs n Q I r h;obtain⟨p,c,rfl,d,q⟩:=h;obtain⟨u,rfl,j⟩:=vals1 r;cases j;have o:=Nd;rcases d with d|d
 .obtain ⟨e,f,g,k⟩:=I.list d;have i:=f.length;exact Calls.call_len_list g.isList (by simp only[AAZ] <;> omega) ⟨.int c.length,H,I.tok _,⟨s.toks+1,by rw[AAZ,i]⟩,q⟩
 .obtain ⟨e,f,g,k⟩:=I.tuple d;have i:=f.length;exact len_tuple g (by simp only[AAZ] <;> omega) ⟨.int c.length,H,I.tok _,⟨s.toks+1,by rw[AAZ,i]⟩,q⟩
def Oz:B4 X (.type "tuple") (λxs H Q=>∃p d,xs= [.ref p] /\((FO X.K H p d/\∀l,H l=none->Q (.ref l) (upd H l (.tup d)))\/(M6 X.K H p d/\Q (.ref p) H))):=by
 intro j s k H xs y Q I r h;obtain⟨p,d,rfl,h⟩:=h;obtain⟨u,rfl,t⟩:=vals1 r;cases t;rcases h with⟨f,q⟩|⟨f,q⟩
 .obtain ⟨c,g,i,m⟩:=I.list f;have z:=g.length;refine call_tuple_list i.isList (λh' v=> ?_) (by simp only[AAZ] <;> omega);have n:Inv X j k H {s with heap:=h'}:=I.kept (t':=s.toks) v;have x:Inv X j k (upd H h'.objs.size (.tup d)) {s with heap:=h'.push {cls:= .type "tuple",data:= .seq c.toArray}}:=
   n.laid (t':=s.toks) (λb o e=>AAH _ e) (AAJ _) (show CC X.prog X.w _ _ _ (.tup d) from⟨m,c,g,IsTup.new _ _⟩)
  exact⟨.ref h'.objs.size,_,x,rfl,q _ (n.hok.fresh (AAJ _))⟩
 .obtain ⟨c,g,i,m⟩:=I.tuple f;exact call_tuple_same i ⟨.ref p,H,I,rfl,q⟩
def vZ (K:AAB)(T:String)(x:V)(H:Hp):Prop:=match x with
 | .str _=>T="str"
 | .int _=>T="int"
 | .ref p=>(T="list" /\∃xs,FO K H p xs)\/(T="tuple" /\∃o,K.lookup p=some o/\o.cls= .type "tuple" /\o.dict=none)\/
     (T="dict" /\((∃kvs,H p=some (.dK kvs))\/∃kvs,H p=some (.dT kvs)))\/(T="set" /\∃S n,H p=some (.set S n))
 | _=>False
def lZ {j:zy (zu×Obj)}{k:St}{H:Hp}{s:zw}{T:String}{x:V}{v:zx}(I:Inv X j k H s)(r:RelV x v)(d:vZ X.K T x H):s.TypeIs v T/\∀a,v= .ref a->∃g,s.heap.get? a=some g/\g.dict=none:=by
 cases x with
 | str z=> obtain⟨t,rfl⟩:=r;cases (show T="str" from d);exact⟨typeIs_str s z t,λ_ e=>nomatch e⟩
 | int i=> obtain⟨t,rfl⟩:=r;cases (show T="int" from d);exact⟨typeIs_int s i t,λ_ e=>nomatch e⟩
 | ref p=>
   cases r;rcases d with⟨rfl,xs,l⟩|⟨rfl,o,hk,hc,hd⟩|⟨rfl,hk⟩|⟨rfl,S,n,hk⟩
   .obtain ⟨m,_,h,_⟩:=I.list l;refine⟨h.isList.typeIs,λa e=> ?_⟩;cases e;obtain⟨o,n,e,c,hd,_⟩:=h;exact⟨o,e,hd⟩
   .refine ⟨⟨o,I.kIn p o hk,hc⟩,λa e=> ?_⟩;cases e;exact⟨o,I.kIn _ o hk,hd⟩
   .have z:∃o,s.heap.get? p=some o/\o.ExactDict:=by
     rcases hk with⟨kvs,hk⟩|⟨kvs,hk⟩
     .obtain ⟨_,_,_,_,o,_,_,e,ex,_⟩:=I.hok p _ hk;exact⟨o,e,ex⟩
     .obtain ⟨_,_,_,_,o,_,_,e,ex,_⟩:=I.hok p _ hk;exact⟨o,e,ex⟩
    obtain⟨o,e,ex⟩:=z;refine⟨⟨o,e,ex.1⟩,λa f=> ?_⟩;cases f;exact⟨o,e,ex.2.1⟩
   .obtain ⟨o,_,_,_,e,ex,_⟩:=I.hok p _ hk;refine⟨⟨o,e,ex.1⟩,λa f=> ?_⟩;cases f;exact⟨o,e,ex.2.1⟩
 | _=>exact False.elim d
def vX (K:AAB)(T:String)(r:V->zy V->Hp->VK->Prop)(d:TE)(t:TA):TE:=λc H Q=>d c H λx H1=>vZ K T x H1/\t c H1 λxs e=>r x xs e Q
variable {o e:zr}{es:zy zr}{to:TE}{t:TA}{name:Str}{apos cpos:Pos}{T id:String}{r:V->zy V->Hp->VK->Prop}
def oS (j:PlainAttrs T)(slot:Slot T name id)(k:typeOf (.builtin id)=pure (.type "method_descriptor"))(l:xg X id r)(m:PE X o to)(ha:PA X (e::es) t)(n:attributeBase o name X.env (eval o X.env)=eval o X.env:=by rfl)(p:((backTo cpos (starEach (e::es) X.env)).all (λx=> !x.1)&&(backToKw cpos (keywordEach [] X.env)).all (λx=>x.1.isSome) && decide ((e::es).length+([] :zy Keyword).length+(if ([] :zy Keyword).isEmpty then 0 else 1)<30))=true:=by rfl)(u:(apos.endLine==cpos.line)=true:=by rfl)(hs:starEach (e::es) X.env=(false,eval e X.env)::starEach es X.env:=by rfl)(w:(backTo cpos (starEach es X.env)).any (·.1)=false:=by rfl):PE X (.Call (.Attribute o name apos) (e::es) [] cpos) (vX X.K T r to t):=by intro c s d H Q I h;refine wpAny_Call_method_late n p u rfl (BJ (m c s d H _ I h) λv y ⟨x,H1,f,g,z,A⟩=> ?_);obtain⟨h1,h2⟩:=lZ f g z;refine⟨T,id,j,slot,k,h1,h2, ?_⟩;have i:=ha cpos c y d H1 _ f A;rw[hs] at i ⊢;refine ACw (by show (false||(backTo cpos (starEach es X.env)).any (·.1))=false;rw[w] <;> rfl) (Calls.evalArgs_plain ?_);exact BJ i λB C ⟨vs,D,E,F,G⟩=>l c C d D x vs v B Q E g F G
end
def rE (X:Cx)(id:String)(r:V->zy V->Hp->VK->Prop):Prop:=
 ∀(a:zy (zu×Obj)) (s:zw) (b:St) (H:Hp) (x:V) (xs:zy V) (v:zx) (c:zy zx) (Q:VK),Inv X a b H s->RelV x v->At xs c->r x xs H Q->
  wpAny (model X.prog X.w) X.A (call (.builtin id) (v::c)) (EP X a b Q) X.xe s
def At.one:∀{x:V} {a:zy zx},At [x] a->∃u,a= [u] /\RelV x u
 | _,_, .cons r .nil=>⟨_,rfl,r⟩
def At.two:∀{x y:V} {a:zy zx},At [x,y] a->∃u v,a= [u,v] /\RelV x u/\RelV y v
 | _,_,_, .cons r (.cons q .nil)=>⟨_,_,rfl,r,q⟩
def At.zero:∀{a:zy zx},At [] a->a= []
 | _, .nil=>rfl
def At.dropLast {xs:zy V}{a:zy zx}(h:At xs a):At xs.dropLast a.dropLast:=by
 induction h with
 | nil=>exact .nil
 | cons r t b=>
   cases t with
   | nil=>exact .nil
   | cons q t'=>exact .cons r b
def At.reverse {xs:zy V}{a:zy zx}(h:At xs a):At xs.reverse a.reverse:=by
 induction h with
 | nil=>exact .nil
 | cons r t b=>rw[ACx,ACx];exact At.append b (.cons r .nil)
section
variable {X:Cx}{ke:zy (zu×Obj)}{σ:St}{H:Hp}{s:zw}{l b:zu}{xs ys zs:zy V}
def Inv.lset {a its':zy zx}{n:Nat}{f:Array zx->Array zx}{t':Nat}(I:Inv X ke σ H s)(c:H l=some (.lst xs))(e:s.heap.get? l=some {cls:= .type "list",data:= .seq a.toArray n})(d:f a.toArray=its'.toArray)(hv:At ys its')(g:ys.length<=sizeLine):Inv X ke σ (upd H l (.lst ys)) {s with heap:=s.heap.update l (Obj.mapSeq f),toks:=t'}:=by have q:=PySem.IsL.update e f;rw[d] at q;refine I.write (x:=l) (e:=l) (by rw[c];exact trivial) (.inl rfl) (λh u hb hu=>(Heap.get?_update_other s.heap (Obj.mapSeq f) (AA6 hb)).trans hu) ⟨_,q⟩ ?_;exact⟨g,its',_,hv,q⟩
def Inv.lnew {a:zy zx}{t':Nat}(I:Inv X ke σ H s)(hv:At ys a)(c:ys.length<=sizeLine):Inv X ke σ (upd H s.heap.objs.size (.lst ys)) {s with heap:=s.heap.push {cls:= .type "list",data:= .seq a.toArray},toks:=t'}:=
 I.laid (λ_ _ q=>AAH _ q) (AAJ _) ⟨c,a,0,hv,AAP _ rfl⟩
def Inv.fresh (I:Inv X ke σ H s):H s.heap.objs.size=none:=I.hok.fresh (AAJ _)
def Inv.lstM (I:Inv X ke σ H s)(c:H l=some (.lst xs)):xs.length<=sizeLine/\∃(a:zy zx) (n:Nat),At xs a/\xs.length=a.length/\s.heap.get? l=some {cls:= .type "list",data:= .seq a.toArray n}:=by obtain⟨z,a,n,r,e⟩:=I.hok l _ c;exact⟨z,a,n,r,r.length,e⟩
end
section
variable {X:Cx}
def Rz:V->zy V->Hp->VK->Prop:=λx vs H Q=>∃l xs y,x= .ref l/\vs= [y] /\H l=some (.lst xs)/\xs.length<sizeLine/\Q .non (upd H l (.lst (xs ++ [y])))
def QI:rE X "list.append" Rz:=by intro f s g H x vs v i Q I c rv h;obtain⟨l,xs,y,rfl,rfl,b,j,q⟩:=h;cases c;obtain⟨u,rfl,d⟩:=rv.one;obtain⟨z,a,n,r,hl,e⟩:=I.lstM b;refine call_meets F.slot_list_append ⟨_,e,rfl⟩ F.entry_list_append (F.args_list_append_2 _ _) (PySem.list_append l a.toArray n u (by rw[AAZ];omega)) ⟨e, ?_⟩;refine⟨.non,_,I.lset (its':=a ++ [u]) b e (by simp) (r.append (.cons d .nil)) ?_,rfl,q⟩;rw[AAx,ADZ];omega
def oX:R2:=λx y H Q=>∃l b xs a,x= .ref l/\y= .ref b/\H l=some (.lst xs)/\H b=some (.lst a)/\xs.length+a.length<=sizeLine/\∀p,H p=none->Q (.ref p) (upd H p (.lst (xs++a)))
def j4:Dq X (binaryOp .Add) oX:=by
 intro o s p H x y v u Q I d f h;obtain⟨l,b,xs,t,rfl,rfl,g,i,w,q⟩:=h;cases d;cases f;obtain⟨z,c,n,r,hl,e⟩:=I.lstM g;obtain⟨A,a,B,j,C,k⟩:=I.lstM i;refine PySem.P.add_list e k ?_ (by rw[AAZ,AAZ];omega);have m:c.toArray++a.toArray=(c++a).toArray:=by simp
 rw[m];exact⟨.ref _,_,I.lnew (t':=s.toks) (r.append j) (by rw[AAx];omega),rfl,q _ I.fresh⟩
end
section
variable {prog:km}{w:kj}{A:kf}{E:zx->zw->Prop}{s:zw}
set_option maxRecDepth 100000 in
end
end L2
namespace Att
open PySem PySem.W PySem.Calls PyProof.Rows
def Lj {P:Params}{h:ki}:∀(ns:zy Int) (vs:zy zx),WellAll P h vs (ns.map WData.int)->IntsAre vs ns:=by
 intro ns;induction ns with
 | nil=> intro vs w;rw[ABr] at w;cases w;exact .nil
 | cons n ns c=>
   intro vs w;rw[AAL] at w;cases w with
   | cons a b=> cases a;exact .cons _ _ (c _ b)
def ZE {l:OpenLaw}{n:Nat}(f:l.most=some n){P:Params}{h:ki}{args:zy WData}{vals:zy zx}(e:l.row.toRowW.claim.pre args=true)(g:WellAll P h vals args):∃a vs ns,vals= [Value.ref a] /\args= [WData.list (ns.map WData.int)] /\h.get? a=some {cls:= .type "list",data:= .seq vs.toArray}/\IntsAre vs ns/\ns.length<=n:=by
 have i:WShape.hasAll [] args [.list .int] =true:=(pre_splitW e).1;have hc:l.pre.holds [] {args:=args}=true:=(pre_splitW e).2;obtain⟨d,r,rfl,h1,h2⟩:=hasAllW_cons i;obtain rfl:=hasAllW_nil h2;obtain⟨xs,rfl,h3⟩:=hasW_list h1;obtain⟨ns,rfl⟩:=items_int h3;have j:ns.length<=n:=by
  unfold OpenLaw.pre at hc;have b:(WTm.not (.lt (.lit (.int (n:Int))) (.len (.arg 0)))).holds [] {args:= [.list (ns.map .int)] }=true:=by have b:=(holds_andW hc).1;rw[f] at b;exact b
  have c:=condW_of b (w_not (w_lt w_lit (w_len_list (w_arg rfl))));rw[AAK] at c;refine Nat.le_of_not_lt λq=> ?_;have k:(n:Int)<((ns.length:Nat):Int):=by omega
  first
   | (rw[AAO k] at c;exact absurd c (by decide))
   | (simp at c;omega)
 cases g with
 | cons m o=>
   cases o;cases m with
   | list p s=>exact⟨_,_,ns,rfl,rfl,p,Lj ns _ s,j⟩
def Y8 (l:OpenLaw)(args:zy WData):l.row.toRowW.claim.post args (.bool true) args=true:=
 postW_of (r:=l.row.toRowW) (X:=(true==true))
  (show WShape.has [] (.bool true) .bool=true by first | rfl|decide|simp[WShape.has,WShape.arms,WShape.armsAll])
  (show (WTm.eq .res (.lit (.bool true))).value [] {args:=args,res:=some (.bool true),after:=args}=some (.bool (true==true)) from w_eq_bool (w_res rfl) w_lit) rfl
def attach_call {l:OpenLaw}{n:Nat}{q:km}{loose:zy Str}{XP:(Str->zt zx)->ki->Prop}{YP:kj->ki->Prop}{d:DefRec}(m:l.most=some n)(p:d.params.defaults= [])(call:∀(w:kj) (s₀ b:zw) (mg i:Str->zt zx) (e:zu) (o:Obj) (j g c:zx) (a:zu) (vs:zy zx) (ns:zy Int),Ground q loose [] XP w s₀ mg i b.heap->YP w b.heap-> b.heap.get? e=some o->o.data= .func (docDef d.name d.params d.body d.scope j g c)->b.heap.CodeRec g d.name->mg d.name=some (.ref e)-> b.heap.get? a=some {cls:= .type "list",data:= .seq vs.toArray}->IntsAre vs ns->ns.length<=n->b.gens= #[] -> codeAny (model l.prog w) callerA (.call (.ref e) ⟨[.ref a], []⟩) (λr h=>r= .ok (.ret (.bool true))/\OldK b.heap h.heap/\h.os=b.os/\AllBare h.gens) b):WalkO q loose XP YP l.row.toRowW d [] (λf vs=>PySem.call f vs):=by intro w s₀ b mg i G Y e o j g c s kV t hd u k v x args vals as y H I z J;obtain rfl:s= .none:=Dflts.none k p;obtain rfl:kV= .none:=Dflts.noKw k;obtain⟨a,vs,ns,rfl,rfl,A,B,C⟩:=ZE m y z;refine enter_call (ACA (call w s₀ b mg i e o j g c a vs ns G Y t (fd_plain hd) u v A B C x) λr h D=> ?_);obtain⟨rfl,h2,h3,E⟩:=D;exact⟨.inl ⟨.bool true, .bool true, [],rfl,λ_=>rfl, .bool true,Y8 l _,λ_=>⟨List.Pairwise.nil,λ_ F=>(nomatch F)⟩⟩,h2,h3,E⟩
section
variable {prog:km}{w:kj}{A:kf}{E:zx->zw->Prop}{s:zw}{K:Frag}
def sS (h:ki)(L d:zu):zy (zu×Obj):=(List.range h.objs.size).filterMap λa=>if a=L\/a=d then none else (h.get? a).map λo=>(a,o)
end
end Att
namespace L2
open PySem PySem.Spec PyProof.Rows
theorem QX:∀{vs:zy zx} {ns:zy Int},IntsAre vs ns->At (ns.map V.int) vs
 | _,_, .nil=> .nil
 | _,_, .cons n t h=> .cons ⟨t,rfl⟩ (QX h)
def ig (H:Hp):Prop:=∀b,H b=none\/∃o xs,H b=some (.frz o (.lst xs))
def au {P:km}{w:kj}{K:AAB}{mg p:Str->zt zx}{CX:X3}{k:Nat}{t a:zu}{B:FuncData}{x:Str}{sp:Sp}{c:zw}{vs:zy zx}{ns:zy Int}(C:K.In c.heap)(D:c.heap.Ns mainGlobals mg)(hb:c.heap.Ns builtinsNs p)(L:∀x:Str,x≠"__name__" ->p x=bootBuiltins x)(M:c.heap.NoLimit)(N:c.gens= #[])(ha:c.heap.get? a=some {cls:= .type "list",data:= .seq vs.toArray})(hi:IntsAre vs ns)(hl:ns.length<=sizeLine)(O:Room k callerA)(F:∀base:ki,K.In base->base.Ns mainGlobals mg->Dp P w K mg base CX k t B [x] sp)(Q:∀(s:zw) (u:zx),BindsTo s B ⟨[u], []⟩ [(x,u)])(R:∀H:Hp,ig H->FO K H a (ns.map V.int)->sp [.ref a] H (λv _=>v= .bl true) λ_ _ _=>False)(S:∀H e g,CX [] H c (λ_ _ _=>False) e g->False):codeAny (model P w) callerA (.call (.ref t) ⟨[.ref a], []⟩) (λr g=>r= .ok (.ret (.bool true))/\OldK c.heap g.heap/\g.os=c.os/\AllBare g.gens) c:=by
 have rv:=QX hi;have j:=hi.length;have core:∀H:Hp,ig H->FO K H a (ns.map V.int)->Iy P w H c.heap->(∀b,H b≠none->b=a)->(H a≠none->K.lookup a=none)->
  codeAny (model P w) callerA (.call (.ref t) ⟨[.ref a], []⟩) (λr g=>r= .ok (.ret (.bool true))/\OldK c.heap g.heap/\g.os=c.os/\AllBare g.gens) c:=by
  intro H E T hok G U;have f:∀{b:zu} {o:Obj},c.heap.get? b=some o->H b=none->(RN c.heap H).get? b=some o:=λe n=>aY e n;have y:∀{b:zu} {o:Obj} {es:Array DictEntry} {ep:Nat},c.heap.get? b=some o->o.data= .dict es ep->H b=none:=λ{b o es ep} e d=>by
   cases q:H b with
   | none=>rfl
   | some u=> have A:b=a:=G b (by rw[q];simp);subst A;rw[ha] at e;cases e;have d':Data.seq vs.toArray _=Data.dict es ep:=d;cases d'
  have i:∀{b:zu} {m:Str->zt zx},c.heap.Ns b m->(RN c.heap H).Ns b m:=λ{b m} ⟨o,es,ep,e,d,r⟩=>⟨o,es,ep,f e (y e d),d,r⟩;have I:K.In (RN c.heap H):=λb o e=>f (C b o e) (by
   cases q:H b with
   | none=>rfl
   | some u=>
     have A:b=a:=G b (by rw[q];simp);subst A;rw[U (by rw[q];simp)] at e;cases e)
  have W:Mod K mg (RN c.heap H):=⟨I,i D,⟨p,i hb,L⟩,let ⟨X,h1,h2⟩:=M;⟨X,i h1,h2⟩⟩;have Y:Ov P w K mg (RN c.heap H) callerA [] c H:=⟨rfl,W,λb o e=>e6 e,Nat.le_of_eq (Yi _ _),trivial,λb hb=>absurd (show b∈([] :zy zu) from hb) (by simp),hok, .of_eq N⟩;refine ACA ((F _ I (i D)).run callerA [] c H ⟨[.ref a], []⟩ [.ref a] [.ref a] _ _ O Y (Q c (.ref a)) (.cons rfl .nil) (R H E T)) λr g h=> ?_;cases r with
  | error e=>exact(S H e g h).elim
  | ok Z=>
    cases Z with
    | next=>exact False.elim h
    | brk=>exact False.elim h
    | cont=>exact False.elim h
    | ret u=>
      obtain⟨v,H',os,bare,un,sD,r',q⟩:=h;have q':v= .bl true:=q;subst q';obtain rfl:u=Value.bool true:=r';refine⟨rfl,OldK.of_keep λb o e=> ?_,os,bare⟩;cases q:H b with
      | none=>exact un.keep b o e q (by intro z;exact absurd (show b∈([] :zy zu) from z) (by simp)) (by simp)
      | some u=>
        rcases E b with z|⟨ob,xs,z⟩
        .rw [q] at z;cases z
        .have z2:=un.frzs b ob _ z;obtain⟨J,_⟩:=hok b _ z;obtain⟨e2,_⟩:=sD b _ z2;rw[e] at J;cases J;exact e2
 cases hk:K.lookup a with
 | some o=> have e:=C a o hk;rw[ha] at e;cases e;refine core (λ_=>none) (λ_=> .inl rfl) (.inr ⟨_,vs.toArray,_,hk,rfl,rfl,rfl,by rw[AAZ,j];exact hl,by simpa using rv⟩) (λb u z=>by have l:(none:zt HO)=some u:=z;cases l) (λb z=>absurd rfl z) λz=>absurd rfl z
 | none=>
   refine core (λb=>if b=a then some (.frz {cls:= .type "list",data:= .seq vs.toArray} (.lst (ns.map V.int))) else none) (λb=> ?_) (.inl (.inr ⟨{cls:= .type "list",data:= .seq vs.toArray},AAE rfl⟩)) (λb u z=> ?_) (λb z=> ?_) λ_=>hk
   .by_cases hb:b=a
    .exact .inr ⟨_,_,AAE hb⟩
    .exact .inl (AAC hb)
   .by_cases hb:b=a
    .have l:=(AAE hb).symm.trans z;cases l;subst hb;exact⟨ha,by rw[AAK];exact hl,vs,_,rv,ha⟩
    .have l:=(AAC hb).symm.trans z;cases l
   .by_cases hb:b=a
    .exact hb
    .exact absurd (AAC hb) z
abbrev zS {K:AAB}{h:ki}(_:K.In h):AAB:=K
def walk_of {l:PySem.W.OpenLaw}{n k:Nat}{q:km}{loose:zy Str}{XP:(Str->zt zx)->ki->Prop}{YP:kj->ki->Prop}{d:DefRec}{K:Params->AAB}{CX:kj->X3}{sp:kj->Sp}{x:Str}(t:l.most=some n)(y:n<=sizeLine)(z:d.params.defaults= [])(A:Room k callerA)(B:∀(w:kj) (h:ki),YP w h->(K w.params).In h)(F:∀(w:kj) (mg:Str->zt zx) (i:zu) (h:ki),(K w.params).In h->h.Ns mainGlobals mg->mg d.name=some (.ref i)-> ∃j:FuncData,(∀(s:zw) (u:zx),BindsTo s j ⟨[u], []⟩ [(x,u)])/\ ∀base:ki,(K w.params).In base->base.Ns mainGlobals mg->Dp l.prog w (K w.params) mg base (CX w) k i j [x] (sp w))(C:∀(w:kj) (H:Hp) (a:zu) (ns:zy Int),ns.length<=n->ig H->FO (K w.params) H a (ns.map V.int)->sp w [.ref a] H (λv _=>v= .bl true) λ_ _ _=>False)(D:∀(w:kj) (H:Hp) (s:zw) (e:zx) (m:zw),CX w [] H s (λ_ _ _=>False) e m->False):PySem.W.WalkO q loose XP YP l.row.toRowW d [] (λf vs=>PySem.call f vs):=by refine Att.attach_call t z λw s₀ c mg P i o Q R E a vs ns G Y S hd U I J L p M=> ?_;have r:=B w _ Y;obtain⟨j,hb,hF⟩:=F w mg i _ r G.T.g I;exact au r G.T.g G.T.b G.T.builtins G.T.nolimit M J L (AAY p y) A hF hb (λH N O=>C w H a ns p N O) λH e m=>D w H c e m
abbrev Mr:X3:=λ_ _ _ _ _ _=>False
abbrev E0:XK:=λ_ _ _=>False
def iG {X:Cx}:Passes Mr X E0:=λ_ _ _ _ _ _ _ h=>h.elim
structure We (K:AAB) (x qual:Str) (st:Stmt) (f:Addr) (fd:FuncData):Prop where
 ex:∃(oc:Value) (od:Option Addr) (kV doc pm:Value) (an:Option Addr) (cdv ct:Value) (osl:Array (Option Value)),
  fd=PySem.W.fnOf x qual (Dy st) (B8 st) (As st) .none kV doc pm an cdv ct/\K.lookup f=some ⟨oc,od, .func fd,osl⟩/\PySem.W.codeIn K cdv qual=true
 kp:PySem.W.keepIn K (.ref f)=true
section
variable {P:km}{w:kj}{K:AAB}{mg:Str->zt zx}{base:ki}
def We.ok {x qual:Str}{st:Stmt}{f:zu}{b:FuncData}{N ps:zy Str}{k:Nat}{sp:Sp}(F:We K x qual st f b)(S:DS N ps (As st))(len:∀vs H Q E,sp vs H Q E->vs.length=ps.length)(c:∀(a:zx) (A:kf) (outer:zy Env) (s:zw) (H:Hp) (vs:zy V) (Q:VK) (E:XK),Room k (A.deeper (envOfC qual (As st) s.heap.objs.size f a))->sp vs H Q E-> ∃t,S4 (O2 Mr P w K mg base N qual (As st) f a A outer s H E).nox (B8 st) t/\t {nx:=λ_ d=>Q .non d,rt:=Q} (start N vs) H):Dp P w K mg base Mr (k+1) f b ps sp:=by obtain⟨n,o,kV,e,p,r,a,ct,g,rfl,i,j⟩:=F.ex;refine hU i j S len λA outer s H vs Q E l m=> ?_;obtain⟨t,h,q⟩:=c a A outer s H vs Q E l m;exact⟨t,h.nox,q⟩
def We.binds {x qual:Str}{st:Stmt}{f:zu}{g:FuncData}{ps:zy Str}(F:We K x qual st f g)(h:∀(kV a c:zx) (d:zt zu) (b ct:zx) (e:zy zx),e.length=ps.length->bindArgs (PySem.W.fnOf x qual (Dy st) (B8 st) (As st) .none kV a c d b ct) ⟨e, []⟩=pure (ps.zip e)):Binds K g ps [] :=by obtain⟨j,k,kV,a,c,d,b,ct,i,rfl,l,m⟩:=F.ex;exact .all (h kV a c d b ct)
def aJ {x qual:Str}{st:Stmt}{f:zu}{h:zx}{i e:zt zu}{d:Array (zt zx)}{kV b g a ct:zx}(l:K.lookup f=some ⟨h,i, .func (PySem.W.fnOf x qual (Dy st) (B8 st) (As st) .none kV b g e a ct),d⟩)(c:PySem.W.codeIn K a qual=true)(k:PySem.W.keepIn K (.ref f)=true):We K x qual st f (PySem.W.fnOf x qual (Dy st) (B8 st) (As st) .none kV b g e a ct):=⟨⟨h,i,kV,b,g,e,a,ct,d,rfl,l,c⟩,k⟩
end
section
variable {X:Cx}
def pv (i:Nat){x:Str}{pos:Pos}(hN:X.N[i]? =some x:=by rfl)(hv:gy X.env.scope x:=by first | exact Or.inl rfl|exact Or.inr (Or.inl rfl)|exact Or.inr (Or.inr rfl))(hd:(x==("__debug__" :Str))=false:=by decide)(a:(x==("__classdict__" :Str))=false:=by decide):PE X (.Name x pos) (IY i):=Ny hN hv hd a
end
def nz {c A B:Prop}[Decidable c](h1:c->A)(h2:¬c->B):if c then A else B:=by
 by_cases h:c
 .rw [AAE h];exact h1 h
 .rw [AAC h];exact h2 h
def S6 (H a:Hp):Prop:=∀b o,H b=some o->a b=some o
def S6.free {H a:Hp}(e:S6 H a){l:zu}(h:a l=Option.none):H l=Option.none:=by
 cases q:H l with
 | none=>rfl
 | some o=> rw[e l o q] at h;cases h
def S6.seq {K:AAB}{H b:Hp}{a:zu}{xs:zy V}(e:S6 H b)(h:FO K H a xs):FO K b a xs:=by
 rcases h with(h|⟨o,h⟩)|h
 .exact .inl (.inl (e _ _ h))
 .exact .inl (.inr ⟨o,e _ _ h⟩)
 .exact .inr h
theorem J5 {c d:Type}[BEq c][LawfulBEq c]{k:c}{a:d}:∀{l:zy (c×d)},l.lookup k=some a->(k,a)∈l
 | [],h=>by simp at h
 | (n,b)::r,h=>by
   rw[List.lookup_cons] at h;cases e:k==n with
   | true=>
     rw[e] at h;have f:k=n:=by simpa using e
     have hb:b=a:=by simpa using h
     subst f hb;exact ABK
   | false=> rw[e] at h;exact ABE _ (J5 h)
theorem QC {c d:Type}[BEq c][LawfulBEq c]{k:c}{a:d}:∀{l:zy (c×d)},(k,a)∈l->∃b,l.lookup k=some b
 | [],h=>nomatch h
 | (n,b)::r,h=>by
   rw[List.lookup_cons];cases e:k==n with
   | true=>exact⟨b,rfl⟩
   | false=>
     rcases AAF.mp h with z|z
     .have:k=n:=congrArg Prod.fst z;rw[this] at e;simp at e
     .exact QC z
theorem Ga {env:Env}{F:Str×NameKind->zy (Str×zu)->Sem (ForInStep (zy (Str×zu)))}(h1:∀n r c,env.cells.lookup n=some c->F (n, .free) r=pure (.yield ((n,c)::r)))(h2:∀n k r,k≠NameKind.free->F (n,k) r=pure (.yield r)):∀(names:zy (Str×NameKind)) (f:zy (Str×zu)),(∀x∈names,x.2= .free->∃c,env.cells.lookup x.1=some c)-> ∃cl,(forIn names f F:Sem _)=pure cl/\(∀p∈cl,p∈f\/env.cells.lookup p.1=some p.2)/\(∀p∈f,p∈cl)/\∀x∈names,x.2= .free->∃c,(x.1,c)∈cl
 | [],f,_=>⟨f,rfl,λp hp=> .inl hp,λp hp=>hp,λx hx=>nomatch hx⟩
 | (n,k)::r,f,h=>by
   by_cases hk:k= .free
   .subst hk;obtain⟨c,hc⟩:=h (n, .free) ABK rfl;obtain⟨cl,e,a,b,d⟩:=Ga h1 h2 r ((n,c)::f) (λx hx=>h x (ABE _ hx));refine⟨cl, ?_,λp hp=> ?_,λp hp=>b p (ABE _ hp),λx hx g=> ?_⟩
    .rw [ACD,h1 n f c hc];exact e
    .rcases a p hp with z|z
     .rcases AAF.mp z with z|z
      .subst z;exact .inr hc
      .exact .inl z
     .exact .inr z
    .rcases AAF.mp hx with z|z
     .subst z;exact⟨c,b _ ABK⟩
     .exact d x z g
   .obtain ⟨cl,e,a,b,d⟩:=Ga h1 h2 r f (λx hx=>h x (ABE _ hx));refine⟨cl, ?_,a,b,λx hx g=> ?_⟩
    .rw [ACD,h2 n k f hk];exact e
    .rcases AAF.mp hx with z|z
     .subst z;exact absurd g hk
     .exact d x z g
def Hz {env:Env}{scope:Scope}(h:∀x∈scope.names,x.2= .free->∃c,env.cells.lookup x.1=some c):∃cl,closureFor scope env=pure cl/\(∀y c,cl.lookup y=some c->env.cells.lookup y=some c)/\∀y,(y,NameKind.free)∈scope.names->∃c,cl.lookup y=some c:=by
 obtain⟨cl,e,a,_,d⟩:=Ga (env:=env) (F:=λx cs=>match x with | (name,kind)=>if (kind==NameKind.free)=true then do let a <-cellOf env name;pure (ForInStep.yield ((name,a)::cs)) else pure (ForInStep.yield cs))
  (λn r c hc=>by
    show (do let a <-cellOf env n;pure (ForInStep.yield ((n,a)::r)):Sem _)=_;unfold cellOf;rw[hc];rfl)
  (λn k r hk=>by
    have:(k==NameKind.free)=false:=by simpa using hk
    simp[this]) scope.names [] h
 refine⟨cl, ?_,λy c q=> ?_,λy b=> ?_⟩
 .unfold closureFor;have f:(forIn scope.names ([] :zy (Str×zu)) λx cs=>match x with | (name,kind)=>if (kind==NameKind.free)=true then do let a <-cellOf env name;pure (ForInStep.yield ((name,a)::cs)) else pure (ForInStep.yield cs):Sem _) >>= (λr=>pure r)=pure cl:=by rw[e];rfl
  exact f
 .rcases a _ (J5 q) with z|z
  .exact nomatch z
  .exact z
 .obtain ⟨c,hc⟩:=d (y, .free) b rfl;exact QC hc
def Hx (env:Env)(sc:Scope)(cl:zy (Str×zu))(C:zu):Env:=
 {scope:=sc,locals:=C,globals:=env.globals,cells:=cl,qual:=env.qual,func:=none,code:=env.code,frame:=env.frame,builtins:=env.builtins}
def blk (X:Cx)(sc:Scope)(N:zy Str)(cl:zy (Str×zu))(C:zu)(s:zw)(H:Hp)(ex:zy zu)(pn:zy (zu×Obj)):Cx where
 prog:=X.prog
 w:=X.w
 K:=X.K
 mg:=X.mg
 base:=X.base
 A:=X.A
 N:=N
 s₀:=s
 H₀:=H
 env:=Hx X.env sc cl C
 outer:=X.stack
 stack:=X.stack
 ex:=ex
 fn:=λ_=>false
 calm:=X.calm
 pn:=pn
 xe:=λ_ _=>False
section
variable {X:Cx}{ke:zy (zu×Obj)}{σ:St}{H:Hp}{s:zw}{fp:zy zu}{sc:Scope}{N:zy Str}{cl:zy (Str×zu)}
def Inv.notStk (I:Inv X ke σ H s){b:zu}(h1:b≠X.env.locals)(h2:b ∉ X.fs):b ∉ ZW X.stack:=λz=>by
 rcases AAF.mp (I.stkSub b z) with e|e
 .exact h1 e
 .exact h2 e
def Inv.szLt (I:Inv X ke σ H s){x:Str}{c:zu}(e:X.env.cells.lookup x=some c):c<s.heap.objs.size:=by obtain⟨v,q⟩:=I.cell x c e;exact q.lt
def i9 (I:Inv X ke σ H s)(d:∀b∈fp,Fj X ke H b)(f:∀b∈fp,b<s.heap.objs.size)(hk:sc.kind= .function)(h1:∀y c,cl.lookup y=some c->X.env.cells.lookup y=some c)(h2:∀y,(sc.names.lookup y=some .cell\/sc.names.lookup y=some .free)->∃c,cl.lookup y=some c):(blk X sc N cl s.heap.objs.size s H fp (X.pn++ke)).Ok where
 mod:=I.ok.mod
 kind:=hk
 glob:=I.ok.glob
 blt:=I.ok.blt
 above:=AAJ _
 inj:=λx y c a b=>I.ok.inj x y c (h1 x c a) (h1 y c b)
 has:=λx hx=>h2 x hx
 cab:=λx c z=>nomatch z
 hd:=I.ok.hd
 frames:=I.ok.frames
 stk:= .inl rfl
 exf:=λb hb=>⟨AAM (f b hb),λx c e=>(d b hb).2.2.2.2.1 x c (h1 x c e)⟩
 bs:=I.bs
 bsz:=AAY I.ok.bsz I.sz
 noex:=λb o e hb=>by
  rcases (d b hb).2.2.2.1 with z|z
  .exact I.ok.noex b o e z
  .exact absurd (AAV (AAG (I.ok.bs b o e).1) z) (ABW _)
 exfs:=λb hb=>I.notStk (d b hb).2.1 (d b hb).2.2.1
 funs:=I.stack
 frf:=I.stkFree
def CQ (own:Nat)(ix:zy Nat)(σ:St):St:=List.replicate own none++ix.map λi=>(σ[i]?).getD none
def YD {own:Nat}{ix:zy Nat}{σ:St}:(CQ own ix σ).length=own+ix.length:=by simp[CQ]
def Hy {own:Nat}{ix:zy Nat}{σ:St}{j:Nat}{v:V}(h:(CQ own ix σ)[j]? =some (some v)):own<=j/\∃i,ix[j-own]? =some i/\σ[i]? =some (some v):=by
 unfold CQ at h;by_cases hj:j<own
 .rw [ABN (by simpa using hj),ABZ] at h;simp[hj] at h
 .have ZY:own<=j:=by omega
  rw[ABH (by simpa using ZY),ABa,AAg] at h;refine⟨ZY, ?_⟩;cases e:ix[j-own]? with
  | none=>rw[e] at h;simp at h
  | some i=>
    rw[e] at h;refine⟨i,rfl, ?_⟩;have h':(σ[i]?).getD none=some v:=by simpa using h
    cases a:σ[i]? with
    | none=>rw[a] at h';simp at h'
    | some o=>
      rw[a] at h';have:o=some v:=by simpa using h'
      rw[this]
structure Zo (X:Cx) (sc:Scope) (own:Nat) (ix:List Nat) (N:List Str):Prop where
 len:N.length=own+ix.length
 out:∀j i,ix[j]? =some i->∃x,N[own+j]? =some x/\X.N[i]? =some x/\X.env.scope.names.lookup x=some .cell/\sc.names.lookup x=some .cell
def Z6 {own:Nat}{ix:zy Nat}{h':ki}{m:Str->zt zx}{t':Nat}(I:Inv X ke σ H s)(B:∀b∈fp,Fj X ke H b)(C:∀b∈fp,b<s.heap.objs.size)(hk:sc.kind= .function)(h1:∀y c,cl.lookup y=some c->X.env.cells.lookup y=some c)(h2:∀y,(sc.names.lookup y=some .cell\/sc.names.lookup y=some .free)->∃c,cl.lookup y=some c)(F:Zo X sc own ix N)(D:h'.Ns s.heap.objs.size m)(k:∀b o,s.heap.get? b=some o->h'.get? b=some o):Inv (blk X sc N cl s.heap.objs.size s H fp (X.pn++ke)) [] (CQ own ix σ) H {s with heap:=h',toks:=t'} where
 ok:=i9 I B C hk h1 h2
 os:=rfl
 bare:=I.bare
 base:=Un.kept k
 loc:=by
  refine⟨m,D,λi x v E G R=> ?_⟩;obtain⟨ZY,J,K,es⟩:=Hy G;obtain⟨y,n,L,t,w⟩:=F.out _ _ K;have g:x=y:=by have h:N[i]? =some x:=E;rw[show own+(i-own)=i by omega,h] at n;exact AAX n
  subst g;obtain⟨m0,S,M⟩:=I.loc;obtain⟨u,r,l⟩:=M J x v L es (.inr (.inl t));refine⟨u,r, ?_⟩;rcases l with⟨z,_⟩|⟨_,c,O,z⟩
  .have A:X.env.scope.names.lookup x=some .local:=z;rw[t] at A;cases A
  .obtain ⟨P,f⟩:=h2 x (.inl w);have:=h1 x P f;rw[O] at this;cases this;obtain⟨o,j,hd⟩:=z;exact .inr ⟨.inl w,c,f,o,k c o j,hd⟩
 cell:=λx c e=>by obtain⟨v,o,j,hd⟩:=I.cell x c (h1 x c e);exact⟨v,o,k c o j,hd⟩
 free:=I.hok.fresh (AAJ _)
 freeC:=λx c e=>I.freeC x c (h1 x c e)
 pin:=λp hp=>by
  have Q:p∈X.pn++ke:=by simpa[blk] using hp
  obtain⟨a,b,c,d,e⟩:=I.pin p Q;exact⟨k _ _ a,b,AAM (AAG a),I.notStk c d,e⟩
 hok:=I.hok.kept k
 len:=by rw[YD];exact F.len.symm
def Wm {own:Nat}{ix:zy Nat}{σ':St}{d:Hp}{e:zw}{a:zy (zu×Obj)}(I:Inv X ke σ H s)(c:∀b∈fp,Fj X ke H b)(f:∀b∈fp,b<s.heap.objs.size)(B:Inv (blk X sc N cl s.heap.objs.size s H fp (X.pn++ke)) a σ' d e):Inv X ke σ d e:=
 I.call' (ch:=fp) B.os B.base B.hok B.bare λb hb=>⟨(c b hb).2.2.2.1,(c b hb).2.1,(c b hb).2.2.2.2.1,(c b hb).2.2.2.2.2⟩
def S8 {d:Hp}{σ':St}{a:zw}{C:zu}{h':ki}(I:Inv X ke σ H s)(f:C=s.heap.objs.size)(g:Inv X ke σ' d a)(h:d C=none)(hs:Heap.SameBut C a.heap h'):Inv X ke σ' d {a with heap:=h'}:=by subst f;refine g.turned (t':=a.toks) (it:=s.heap.objs.size) (λb o hb e=>(hs.2 b hb).trans e) h (AAw I.lt) (.inr I.sz) (λx c e=>AAM (I.szLt e)) λp hp=>AAM (AAG (I.pin p hp).1)
end
def gw (X:Cx)(a:zy zr)(t:TT):Prop:=
 ∀(d:zy (zu×Obj)) (s:zw) (b:St) (H:Hp) (Q:kn->Hp->Prop),Inv X d b H s->t b H Q->
  wpAny (model X.prog X.w) X.A (forIn a true λc r=>if r=true then do let ok <-isTrue c X.env (eval c X.env);pure (ForInStep.yield ok) else pure (ForInStep.yield r)) (TP X d b Q) X.xe s
def gb:TT:=λ_ H Q=>Q true H
def XY {X:Cx}:gw X [] gb:=λ_ _ _ H _ I h=>wpAny_tests_nil ⟨H,I,h⟩
def fY {X:Cx}{c:zr}{t:TT}(hc:PT X c t):gw X [c] t:=λa s b H Q I h=>wpAny_tests_one (hc a s b H Q I h)
def M4 (own:Nat)(g:TG):Prop:=∀v b H Q,g v b H Q->g v b H λa c=>Q a c/\a.length=b.length/\∀j,own<=j->a[j]? =b[j]?
def M5 (own:Nat)(g:U9):Prop:=∀vs b H Q,g vs b H Q->g vs b H λa c=>Q a c/\a.length=b.length/\∀j,own<=j->a[j]? =b[j]?
def RH {own i:Nat}(h:i<own):M4 own (C5 i):=λv a H Q q=>⟨q,by simp,λj hj=>AAb (by omega)⟩
def W4 {own:Nat}:M5 own RF:=λvs a H Q q=>⟨q.1,q.2,rfl,λ_ _=>rfl⟩
def NQ {own:Nat}{t:TG}{u:U9}(h1:M4 own t)(m1:∀v b H Q d,(∀a c,Q a c->d a c)->t v b H Q->t v b H d)(h2:M5 own u)(m2:∀v b H Q d,(∀a c,Q a c->d a c)->u v b H Q->u v b H d):M5 own (FQ t u):=by intro vs b H Q q;obtain⟨v,r,e,q⟩:=q;refine⟨v,r,e,m1 _ _ _ _ _ (λa c z=> ?_) (h1 _ _ _ _ q)⟩;obtain⟨z,l,g⟩:=z;refine m2 _ _ _ _ _ (λh m f=> ?_) (h2 _ _ _ _ z);obtain⟨f,i,k⟩:=f;exact⟨f,i.trans l,λj hj=>(k j hj).trans (g j hj)⟩
def L0 {i:Nat}:∀v b H Q c,(∀a d,Q a d->c a d)->C5 i v b H Q->C5 i v b H c:=λ_ _ _ _ _ m q=>m _ _ q
def RI:∀v b H Q c,(∀a d,Q a d->c a d)->RF v b H Q->RF v b H c:=λ_ _ _ _ _ m q=>⟨q.1,m _ _ q.2⟩
def TZ {t:TG}{u:U9}(m1:∀v b H Q c,(∀a d,Q a d->c a d)->t v b H Q->t v b H c)(m2:∀v b H Q c,(∀a d,Q a d->c a d)->u v b H Q->u v b H c):∀v b H Q c,(∀a d,Q a d->c a d)->FQ t u v b H Q->FQ t u v b H c:=λ_ _ _ _ _ m ⟨v,r,e,q⟩=>⟨v,r,e,m1 _ _ _ _ _ (λ_ _ z=>m2 _ _ _ _ _ m z) q⟩
def VD (J:It)(D:zu)(σ0:St)(g:TG)(h:TT)(j:TE)(Q:Hp->Prop)(W:Nat->Nat->Hp->Prop):Prop:=
 ∀i m H,W i m H->(J.stop i H/\Q H)\/(J.go i H/\∀x d,J.yld i H x d->g x σ0 d λa k=>h a k λok e=>
  if ok=true then j a e λy f=>∃c,f D=some (.lst c)/\c.length<sizeLine/\∃b,b<m/\W (i+1) b (upd f D (.lst (c ++ [y]))) else ∃b,b<m/\W (i+1) b e)
def ck (b:TI)(own:Nat)(ix:zy Nat)(g:TG)(c:TT)(d:TE):TE:=λa H Q=>b a H λJ H1=>∀D,H1 D=none->
 ∃W:Nat->Nat->Hp->Prop,(∃m,W 0 m (upd H1 D (.lst [])))/\VD J D (CQ own ix a) g c d (Q (.ref D)) W
section
variable {X:Cx}{tg elt iter:zr}{ifs:zy zr}{scope:Scope}{pos:Pos}{wi:TI}{own:Nat}{ix:zy Nat}{N:zy Str}{g:TG}{tt:TT}{te:TE}
structure Fe (X:Cx) (tg elt:Expr) (ifs:List Expr) (scope:Scope) (own:Nat) (ix:List Nat) (N:List Str) (g:TG) (tt:TT) (te:TE):Prop where
 kind:scope.kind= .function
 nocell:∀y∈scope.names,y.2≠ .cell
 names:∀y∈scope.names,y.2= .local->scope.names.lookup y.1=some .local
 frees:∀y∈scope.names,y.2= .free->X.env.scope.names.lookup y.1=some .cell
 ins:Zo X (relabel scope X.env) own ix N
 keep:M4 own g
 tgt:∀cl C s H ex pn,PG (blk X (relabel scope X.env) N cl C s H ex pn) tg g
 tst:∀cl C s H ex pn,gw (blk X (relabel scope X.env) N cl C s H ex pn) ifs tt
 val:∀cl C s H ex pn,PE (blk X (relabel scope X.env) N cl C s H ex pn) elt te
def Ez {env:Env}{y:Str}{k:NameKind}(c:∀y∈scope.names,y.2≠ .cell)(h:(y,k)∈(relabel scope env).names)(hk:k= .cell\/k= .free):(y,NameKind.free)∈scope.names:=by
 obtain⟨⟨n,b⟩,a,e⟩:=AAI.mp (show (y,k)∈scope.names.map _ from h);dsimp only at e;split at e
 .rename_i hc;cases e;have:b= .free:=by cases b <;> simp_all
  subst this;exact a
 .cases e;rcases hk with z|z
  .subst z;exact absurd rfl (c _ a)
  .subst z;exact a
def YM {C:zy (zu×Obj)}{P:St}{H:Hp}{s:zw}{k:zy zu}{cl:zy (Str×zu)}{it:zu}{tn:Nat->ki->Prop}{J:It}{D:zu}{R:Result->zw->Prop}{Qh:Hp->Prop}{W:Nat->Nat->Hp->Prop}(hc:X.calm=true)(O:Fe X tg elt ifs scope own ix N g tt te)(T:Lb X.prog X.w X.K tg J k it tn)(I:Inv X C P H s)(hf:∀b∈k,Fj X C H b)(IE:∀b∈k,b<s.heap.objs.size)(hW:VD J D (CQ own ix P) g tt te Qh W)(hR:∀σ' a S,Inv (blk X (relabel scope X.env) N cl s.heap.objs.size s H k (X.pn++C)) [] σ' a S->Qh a->R (.ok .next) S)(n:Nat)(s0:zw)(h0:∃i a,Inv (blk X (relabel scope X.env) N cl s.heap.objs.size s H k (X.pn++C)) [] (CQ own ix P) a s0/\tn i s0.heap/\(∀b∈k,a b=none)/\W i n a):codeAny (model X.prog X.w) X.A (.compLoop (.ListComp elt [⟨tg,iter,ifs,0⟩] scope pos) 0 (.ref it) (.ref D) (Hx X.env (relabel scope X.env) cl s.heap.objs.size)) R s0:=by
 refine codeAny_loop rfl (λn S=>∃i a,Inv (blk X (relabel scope X.env) N cl s.heap.objs.size s H k (X.pn++C)) [] (CQ own ix P) a S/\tn i S.heap/\(∀b∈k,a b=none)/\W i n a) (λn s1 h1=> ?_) n h0;obtain⟨i,H1,B1,U,Z,w1⟩:=h1;generalize f:blk X (relabel scope X.env) N cl s.heap.objs.size s H k (X.pn++C)=Y at *;have eA:Y.A=X.A:=by rw[<-f];rfl
 have eP:Y.prog=X.prog:=by rw[<-f];rfl
 have eW:Y.w=X.w:=by rw[<-f];rfl
 have eK:Y.K=X.K:=by rw[<-f];rfl
 have eE:Hx X.env (relabel scope X.env) cl s.heap.objs.size=Y.env:=by rw[<-f];rfl
 have eX:Y.xe=λ_ _=>False:=by rw[<-f];rfl
 have eC:Y.calm=true:=by rw[<-f];exact hc
 have hg:PG Y tg g:=by rw[<-f];exact O.tgt _ _ _ _ _ _
 have ht:gw Y ifs tt:=by rw[<-f];exact O.tst _ _ _ _ _ _
 have hv:PE Y elt te:=by rw[<-f];exact O.val _ _ _ _ _ _
 have l:∀{a:Hp},(∀b∈k,a b=none)->∀b∈k,Fj Y [] a b:=λ{a} hn b hb=>by
  obtain⟨_,a1,a2,a3,a4,a5⟩:=hf b hb;refine⟨hn b hb, ?_, ?_, ?_, ?_, ?_⟩
  .rw [<-f];exact AAM (IE b hb)
  .rw [<-f];exact I.notStk a1 a2
  .rw [<-f];exact .inl hb
  .intro x c e;exact(B1.ok.exf b (by rw[<-f];exact hb)).2 x c e
  .intro p hp;have:p∈X.pn++C:=by rw[<-f] at hp;simpa[blk] using hp
   exact a5 p this
 rw[eE,<-eA,<-eP,<-eW];show wpAny _ _ ((compTurn (.ListComp elt [⟨tg,iter,ifs,0⟩] scope pos) 0 (.ref it) (.ref D) Y.env).onRaise (λx=>do noteFrame x Y.env;theTreesLotGoes x)) _ _ s1;refine wpAny_noted ?_;rw[compTurn_list];have ff:∀{α:Type} {t:Sem α} {Q:α->zw->Prop} {E:zx->zw->Prop} {s:zw},wpAny (model Y.prog Y.w) Y.A t Q Y.xe s->wpAny (model Y.prog Y.w) Y.A t Q E s:=λh=>ABL h (λ_ _ q=>q) λ_ _ z=>by rw[eX] at z;exact z.elim
 refine AAA (ABX (AAA ?_));rcases hW i n H1 w1 with⟨stop,qn⟩|⟨go,step⟩
 .have zd:=λE=>T.done Y eP eW eK eC i [] s1 _ H1 E B1 (l Z) U stop;rw[<-eP,<-eW] at zd;refine BJ (zd _) λr s4 ⟨hr,I4⟩=> ?_;subst hr;exact AAD (hR _ _ _ I4 qn)
 .have zi:=λE=>T.item Y eP eW eK eC i [] s1 _ H1 E B1 (l Z) U go;rw[<-eP,<-eW] at zi;refine BJ (zi _) λr s4 ⟨u,hr,h4⟩=> ?_;subst hr;refine AAA (BJ h4 λ_ s5 ⟨x,H5,I5,r5,y5,F,fr5⟩=> ?_);have I5':=I5.pinned (l fr5) (T.obj _ _ F);refine AAA (BJ (ff (hg _ s5 _ H5 x u _ I5' r5 (O.keep _ _ _ _ (step x H5 y5)))) λ_ s6 ⟨B,H6,I6,q6,l6,k6⟩=> ?_);refine AAA (BJ (ff (ht _ s6 B H6 _ I6 q6)) λok s7 ⟨H7,I7,q7⟩=> ?_);have back:∀{G:Hp} {L:zw} {M:Nat},Inv Y ([] ++ KC k s5.heap) B G L->M<n->W (i+1) M G->
   ∃m,m<n/\∃i a,Inv Y [] (CQ own ix P) a L/\tn i L.heap/\(∀b∈k,a b=none)/\W i m a:=λ{G L M} I8 hm w8=>by
   refine⟨M,hm,i+1,G,I8.unpinned.weak l6.symm (λj v hj=> ?_),T.keep _ _ _ F λb hb o e=>(I8.pin (b,o) (AAm _ (AAm _ (Ds hb e)))).1,λb hb=> ?_,w8⟩
   .rw [k6 j (Hy hj).1];exact hj
   .obtain ⟨o,e,d⟩:=T.obj _ _ F b hb;exact(I8.pin (b,o) (AAm _ (AAm _ (Ds hb e)))).2.1
  cases ok with
  | false=> obtain⟨M,hm,w8⟩:=q7;exact AAD ⟨rfl,back I7 hm w8⟩
  | true=> refine AAA (AAA (BJ (ff (hv _ s7 B H7 _ I7 q7)) λyv L ⟨y,G,I8,r8,ys,hD,hz,M,hm,w8⟩=> ?_));refine AAA (BJ (ff (QI _ L B G (.ref D) [y] (.ref D) [yv] (λ_ H9=>H9=upd G D (.lst (ys ++ [y]))) I8 rfl (.cons r8 .nil) ⟨D,ys,y,rfl,rfl,hD,hz,rfl⟩)) λ_ s9 ⟨_,H9,I9,_,e9⟩=> ?_);subst e9;exact AAD (AAD ⟨rfl,back I9 hm w8⟩)
def TJ {f:zy (zu×Obj)}{v:St}{H:Hp}{s:zw}{use:zt (zx->Sem Unit)}{Q:zx->zw->Prop}{it:zu}{k:zy zu}{cl:zy (Str×zu)}{tn:Nat->ki->Prop}{J:It}{Qd:zu->Hp->Prop}(hc:X.calm=true)(O:Fe X tg elt ifs scope own ix N g tt te)(T:Lb X.prog X.w X.K tg J k it tn)(I:Inv X f v H s)(S:∀b∈k,Fj X f H b)(st:tn 0 s.heap)(h1:∀y c,cl.lookup y=some c->X.env.cells.lookup y=some c)(h2:∀y,(y,NameKind.free)∈scope.names->∃c,cl.lookup y=some c)(U:∀D,H D=none->∃W:Nat->Nat->Hp->Prop,(∃m,W 0 m (upd H D (.lst [])))/\VD J D (CQ own ix v) g tt te (Qd D) W)(Y:∀D C j l,(∃m,l.heap.Ns C m)->Inv X f v j l->(∀h E,Inv X f h j E->∀h',Heap.SameBut C E.heap h'->Inv X f h j {E with heap:=h'})->C≠X.env.locals->(∀x c,X.env.cells.lookup x=some c->C≠c)->Qd D j-> compPost (model X.prog X.w) X.A X.xe use Q (.ref D) C (.ok .next) l):wpAny (model X.prog X.w) X.A (newList []) (λn p=>wpAny (model X.prog X.w) X.A (newFunctionEnv scope X.env.globals cl [] X.env.qual none .none (some X.env)) (λd r=> codeAny (model X.prog X.w) X.A (.compStart (.ListComp elt [⟨tg,iter,ifs,0⟩] scope pos) 0 (.ref it) n {d with scope:=relabel scope X.env}) (compPost (model X.prog X.w) X.A X.xe use Q n d.locals) r) X.xe p) X.xe s:=by
 refine ABF ?_ (by simp[sizeOk]);have i:Inv X f v (upd H s.heap.objs.size (.lst [])) {s with heap:=s.heap.push {cls:= .type "list",data:= .seq ([] :zy zx).toArray}}:=I.lnew (t':=s.toks) .nil (ABG _);have Z:=I.fresh;obtain⟨W,⟨m0,w0⟩,hW⟩:=U _ Z;have jT:∀b∈k,b<s.heap.objs.size:=λb hb=>by obtain⟨o,e,_⟩:=T.obj _ _ st b hb;exact AAG e
 have F:∀b∈k,Fj X f (upd H s.heap.objs.size (.lst [])) b:=λb hb=>by obtain⟨a0,ar⟩:=S b hb;exact⟨by rw[Ag (AAM (jT b hb))];exact a0,ar⟩
 generalize sF:({s with heap:=s.heap.push {cls:= .type "list",data:= .seq ([] :zy zx).toArray}}:zw)=s3 at i;have t:tn 0 s3.heap:=T.keep _ _ _ st λb hb o e=>by rw[<-sF];exact AAH _ e
 have G:∀b∈k,b<s3.heap.objs.size:=λb hb=>by obtain⟨o,e,_⟩:=T.obj _ _ t b hb;exact AAG e
 refine wpAny_newFunctionEnv O.nocell (by intro y L;simp at L) (λa mE sG=> ?_) O.kind;have R:∀b o,s3.heap.get? b=some o->a.get? b=some o:=λb o e=>sG.extBut b o (AAM (AAG e)) (AAH _ e);have h9:∀y,((relabel scope X.env).names.lookup y=some .cell\/(relabel scope X.env).names.lookup y=some .free)->∃c,cl.lookup y=some c:=λy L=>by
  rcases L with z|z
  .exact h2 y (Ez O.nocell (J5 z) (.inl rfl))
  .exact h2 y (Ez O.nocell (J5 z) (.inr rfl))
 have B:=Z6 (N:=N) (t':=s3.toks+([] :zy (Str×zx)).length) i F G (sc:=relabel scope X.env) O.kind h1 h9 O.ins mE R;have u:tn 0 a:=T.keep _ _ _ t λb hb o e=>R b o e;have loop:∀M:zw,M={s3 with heap:=a,toks:=s3.toks+([] :zy (Str×zx)).length}->
  codeAny (model X.prog X.w) X.A (.compLoop (.ListComp elt [⟨tg,iter,ifs,0⟩] scope pos) 0 (.ref it) (.ref s.heap.objs.size) (Hx X.env (relabel scope X.env) cl s3.heap.objs.size)) (compPost (model X.prog X.w) X.A X.xe use Q (.ref s.heap.objs.size) s3.heap.objs.size) M:=by rintro M rfl;refine YM (cl:=cl) (Qh:=Qd s.heap.objs.size) hc O T i F G hW (λσ' j l P q'=> ?_) m0 _ ⟨0,_,B,u,λb hb=>(F b hb).1,w0⟩;refine Y _ _ j l (let ⟨m,hm,_⟩:=P.loc;⟨m,hm⟩) (Wm (own:=own) (ix:=ix) i F G P) (λh E I2 h' hs=>S8 i rfl I2 P.free hs) (AAw i.lt) (λx c e=>AAw (i.szLt e)) q'
 exact codeAny_compStart_list (loop _ rfl) (T.self _ 0 _ _ _ u (loop _ rfl))
def fQ (hc:X.calm=true)(hi:PI X tg iter wi)(O:Fe X tg elt ifs scope own ix N g tt te)(hs:∀x,foldedSetIterable iter X.env x=pure x:=by intro _;rfl):PE X (.ListComp elt [⟨tg,iter,ifs,0⟩] scope pos) (ck wi own ix g tt te):=by intro d s c H Q I h;obtain⟨cl,f,h1,h2⟩:=Hz (env:=X.env) (scope:=scope) λy i e=>I.ok.has y.1 (.inl (O.frees y i e));rw[eval_ListComp];refine ADa (use:=none) rfl hs f O.kind O.names (BJ (hi d s c H _ I h) λv w hv=>BJ hv λj z k=> ?_);obtain⟨it,A,tn,J,B,rfl,l,T,a,n,q⟩:=k;exact TJ (Qd:=λD b=>Q (.ref D) b) hc O T l n a h1 h2 q λD C b o p r gone E F t=>by obtain⟨m,u⟩:=p;exact⟨m,u,λh' hs=>⟨.ref D,b,gone c o r h' hs,rfl,t⟩⟩
def Xb {i:Nat}{x:Str}{pos' b:Pos}(hc:X.calm=true)(hN:X.N.Nodup)(n:X.N[i]? =some x)(hx:Loc X.env.scope x)(hi:PI X tg iter wi)(O:Fe X tg elt ifs scope own ix N g tt te)(o:swapsWith (.ListComp elt [⟨tg,iter,ifs,0⟩] scope pos) (some (.Name x pos')) b.line X.env=pure true:=by rfl)(hs:∀x,foldedSetIterable iter X.env x=pure x:=by intro _;rfl)(p:X.fn x=true\/X.env.scope.names.lookup x=some .local:=by first | exact .inl rfl|exact .inr rfl|assumption):PS X (.Assign [.Name x pos'] (.ListComp elt [⟨tg,iter,ifs,0⟩] scope pos) b) (WP (ck wi own ix g tt te) (C5 i)):=by
 intro k s l H D I h;obtain⟨cl,r,h1,h2⟩:=Hz (env:=X.env) (scope:=scope) λy t e=>I.ok.has y.1 (.inl (O.frees y t e));rw[exec_Assign_Name_used _ _ _ _ o];refine AAA (ABX (AAA ?_));show wpAny _ _ (do let _ <-comprehension (.ListComp elt [⟨tg,iter,ifs,0⟩] scope pos) scope X.env _ (newList []) false (eval iter X.env) (some (assign (.Name x pos') X.env))) _ _ s;refine AAA (BJ (ADa (use:=some (assign (.Name x pos') X.env)) (Q:=λ_ c=>SP X k D .next c) rfl hs r O.kind O.names (BJ (hi k s l H _ I h) λv Y hv=>BJ hv λu Z w=> ?_)) λ_ c A=>AAD (AAD A));obtain⟨it,fp,tn,J,H2,rfl,B,T,f,E,q⟩:=w;refine TJ (Qd:=λd j=>C5 i (.ref d) l j D.nx) hc O T B E f h1 h2 q λd C j c F G gone K L M=> ?_;obtain⟨m,P⟩:=F;show wpAny _ _ (assign (.Name x pos') X.env (.ref d)) _ _ c;refine ADP (Kk (v:= .ref d) G hN n hx rfl (λR S ⟨a,U,ha⟩=> ?_) p);have W:C≠a:=by
  rcases ha with z|z
  .rw [z];exact K
  .exact L x a z
 exact⟨m,P.sameBut U W,λh' hs=>⟨_,j,gone _ R S h' hs,M⟩⟩
end
def JQ {n k:Nat}(h:n<2^k)(hk:0<k):n.log2<k:=by
 by_cases e:n=0
 .subst e;simpa using hk
 .exact (Nat.log2_lt e).mpr h
def HD {i:Int}{k:Nat}(h:i.natAbs<2^k):Builtin.Int.intBits i<=k:=by
 unfold Builtin.Int.intBits;by_cases e:i=0
 .subst e;simp
 .have a:(i==0)=false:=by simpa using e
  rw[a];simp only[AAv,AAl];have b:i.natAbs≠0:=by omega
  have:=(Nat.log2_lt b).mpr h;omega
section
variable {X:Cx}
def qq (i j:Int):Prop:=i.natAbs<2^8000/\j.natAbs<2^8000
def mV (i j:Int):Prop:=Iq i j\/qq i j
def HF:Dq X (binaryOp .Mult) (rI mV λi j=> .int (i*j)):=j3 λ_ _ _ _ _ _ _ hc q=>mul_int q (by
 rcases hc with z|z
 .exact z.ok
 .exact .of_le (HD z.1) (HD z.2) (by decide))
def mU (_ j:Int):Prop:=0<j/\j.natAbs<2^8000
def bM:Dq X (binaryOp .FloorDiv) (rI mU λi j=> .int (i/j)):=j3 λi j _ _ _ _ _ hc q=>by have h1:(0:Int)<j:=hc.1;refine floordiv_int (by omega) ?_ (.inl (AD8 (ACY (JQ hc.2 (by decide)) (by decide))));rw[ABb _ (Int.le_of_lt h1)];exact q
inductive Kd where
 | int|bl|non|str|lst|tup
 deriving DecidableEq
def mZ (K:AAB)(x:V)(H:Hp):Kd->Prop
 | .int=>∃i,x= .int i
 | .bl=>∃b,x= .bl b
 | .non=>x= .non
 | .str=>∃z,x= .str z
 | .lst=>∃a c,x= .ref a/\FO K H a c
 | .tup=>∃a c,x= .ref a/\M6 K H a c
def HU:Kd->String->kn
 | .int,T=>T == "int"
 | .bl,T=>T == "bool" || T == "int"
 | .non,_=>false
 | .str,_=>false
 | .lst,T=>T == "list"
 | .tup,T=>T == "tuple"
def Hj (T:String):Prop:=T="int" \/T="bool" \/T="tuple" \/T="list"
def kY (K:AAB):zy V->Hp->VK->Prop:=λxs H Q=>∃x T k,xs= [x, .ty T] /\Hj T/\mZ K x H k/\Q (.bl (HU k T)) H
def Z8:B4 X (.builtin "isinstance") (kY X.K):=by
 intro o s p H xs y Q I r h;obtain⟨x,T,k,rfl,f,hk,q⟩:=h;cases r with
 | cons g m=>
 cases m with
 | cons rt m=>
 cases m;cases rt;have c:Q (.bl true) H->EP X o p Q (.bool true) s:=λz=>⟨.bl true,H,I,rfl,z⟩;have b:Q (.bl false) H->EP X o p Q (.bool false) {s with toks:=s.toks+1}:=λz=>⟨.bl false,H,I.tok _,rfl,z⟩;cases k with
 | int=>
   obtain⟨i,rfl⟩:=hk;obtain⟨t,rfl⟩:=g;rcases f with rfl|rfl|rfl|rfl
   .exact IsiPair.int_int (c q)
   .exact IsiPair.int_bool (b q)
   .exact IsiPair.int_tuple (b q)
   .exact IsiPair.int_list (b q)
 | bl=>
   obtain⟨i,rfl⟩:=hk;cases g;rcases f with rfl|rfl|rfl|rfl
   .exact IsiPair.bool_int (c q)
   .exact IsiPair.bool_bool (c q)
   .exact IsiPair.bool_tuple (b q)
   .exact IsiPair.bool_list (b q)
 | non=>
   have e:x= .non:=hk;subst e;cases g;rcases f with rfl|rfl|rfl|rfl
   .exact IsiPair.NoneType_int (b q)
   .exact IsiPair.NoneType_bool (b q)
   .exact IsiPair.NoneType_tuple (b q)
   .exact IsiPair.NoneType_list (b q)
 | str=>
   obtain⟨i,rfl⟩:=hk;obtain⟨t,rfl⟩:=g;rcases f with rfl|rfl|rfl|rfl
   .exact IsiPair.str_int (b q)
   .exact IsiPair.str_bool (b q)
   .exact IsiPair.str_tuple (b q)
   .exact IsiPair.str_list (b q)
 | lst=>
   obtain⟨a,u,rfl,n⟩:=hk;cases g;obtain⟨l,v,j,w⟩:=I.list n;rcases f with rfl|rfl|rfl|rfl
   .exact IsiPair.isList_int j.isList (λ_ _ e=>e) (b q)
   .exact IsiPair.isList_bool j.isList (λ_ _ e=>e) (b q)
   .exact IsiPair.isList_tuple j.isList (λ_ _ e=>e) (b q)
   .exact IsiPair.isList_list j.isList (λ_ _ e=>e) (c q)
 | tup=>
   obtain⟨a,u,rfl,n⟩:=hk;cases g;obtain⟨l,v,j,w⟩:=I.tuple n;have d:s.heap.IsTuple a l.toArray:=j;rcases f with rfl|rfl|rfl|rfl
   .exact IsiPair.isTuple_int d (λ_ _ e=>e) (b q)
   .exact IsiPair.isTuple_bool d (λ_ _ e=>e) (b q)
   .exact IsiPair.isTuple_tuple d (λ_ _ e=>e) (c q)
   .exact IsiPair.isTuple_list d (λ_ _ e=>e) (b q)
def ZA (bs:zy kn):(List.range bs.length).all (λi=>bs.getD i true)=bs.all id:=by
 rw[ABY,ABs,ABs];constructor
 .intro h b hb;obtain⟨i,hi,e⟩:=List.mem_iff_getElem.mp hb;have:=h i (AA5.mpr hi);rw[ACE,AAW hi] at this;subst e;simpa using this
 .intro h i hi;have a:=AA5.mp hi;rw[ACE,AAW a];simpa using h _ (ACF a)
def ZB (bs:zy kn):(List.range bs.length).any (λi=>bs.getD i true)=bs.any id:=by
 rw[ABY,ACZ,ACZ];constructor
 .rintro ⟨i,hi,h⟩;have a:=AA5.mp hi;rw[ACE,AAW a] at h;exact⟨_,ACF a,by simpa using h⟩
 .rintro ⟨b,hb,h⟩;obtain⟨i,hi,e⟩:=List.mem_iff_getElem.mp hb;refine⟨i,AA5.mpr hi, ?_⟩;rw[ACE,AAW hi];subst e;simpa using h
def Inv.walked {g:zy (zu×Obj)}{h:St}{H:Hp}{s c:zw}{o:Obj}(I:Inv X g h H s)(m:Moved [s.heap.objs.size] (λa b=>b=a) {s with heap:=s.heap.push o} c):Inv X g h H c:=by
 obtain⟨h',g',d',t',i⟩:=c;obtain⟨hk,d,hd,f,_⟩:=m;have j:∀b u,s.heap.get? b=some u->h'.get? b=some u:=λb u e=>hk b u (by
  intro z;have k:b=s.heap.objs.size:=by simpa using z
  exact absurd (AAG e) (by rw[k];exact ABW _)) (AAH _ e)
 have d:g'=s.gens:=d;have hd:d'=s.drawn:=hd;have f:i=s.os:=f;subst d hd f;exact I.kept (t':=t') j
def Ud {bs:zy kn}{a:zy zx}{A:kf}(r:At (bs.map V.bl) a):TruthOf X.prog X.w A (λi v=>a.toArray[i]? =some v) (λi=>bs.getD i true):=by
 intro i v s Q E hv hQ;have c:a[i]? =some v:=by simpa using hv
 cases e:(bs.map V.bl)[i]? with
 | none=>rw[r.none_of e] at c;cases c
 | some x=>
   obtain⟨u,hu,f⟩:=r.get e;rw[c] at hu;cases hu;rw[AAg] at e;cases d:bs[i]? with
   | none=>rw[d] at e;cases e
   | some b=>
     rw[d] at e;cases e;cases f
     replace hQ:Q (bs.getD i true) s:=hQ
     rw[ACE,d] at hQ;unfold truthy;exact AAD hQ
def V5 (K:AAB)(f:zy kn->kn):zy V->Hp->VK->Prop:=λxs H Q=>∃p bs,xs= [.ref p] /\FO K H p (bs.map V.bl)/\Q (.bl (f bs)) H
def YF (hc:X.calm=true):B4 X (.builtin "all") (V5 X.K λbs=>bs.all id):=by
 intro l s n H xs o Q I r h;obtain⟨p,bs,rfl,e,q⟩:=h;obtain⟨u,rfl,f⟩:=vals1 r;cases f;obtain⟨a,b,c,t⟩:=I.list e;obtain⟨ol,d,g⟩:=id c.isList;have j:p≠s.heap.objs.size:=AAM (AAG d);have k:a.toArray.size=bs.length:=by have:=b.length;simp at this;simp[this]
 refine call_all_walkS (ACa c.isList ?_);refine⟨_,_,_,_,_,_,_,λi=>bs.getD i true,rfl,(Walks.list (A:=X.A.in1) (show X.A.in1.handled=none from I.ok.hd hc) s.heap.objs.size p j a.toArray).toS,⟨⟨_,AAP _ rfl,rfl,rfl⟩,⟨ol,AAH _ d,g⟩⟩,Ud b,λv m=> ?_⟩;rw[k,ZA];exact⟨.bl (bs.all id),H,I.walked m,rfl,q⟩
def YG (hc:X.calm=true):B4 X (.builtin "any") (V5 X.K λbs=>bs.any id):=by
 intro l s n H xs o Q I r h;obtain⟨p,bs,rfl,e,q⟩:=h;obtain⟨u,rfl,f⟩:=vals1 r;cases f;obtain⟨a,b,c,t⟩:=I.list e;obtain⟨ol,d,g⟩:=id c.isList;have j:p≠s.heap.objs.size:=AAM (AAG d);have k:a.toArray.size=bs.length:=by have:=b.length;simp at this;simp[this]
 refine call_any_walkS (ACa c.isList ?_);refine⟨_,_,_,_,_,_,_,λi=>bs.getD i true,rfl,(Walks.list (A:=X.A.in1) (show X.A.in1.handled=none from I.ok.hd hc) s.heap.objs.size p j a.toArray).toS,⟨⟨_,AAP _ rfl,rfl,rfl⟩,⟨ol,AAH _ d,g⟩⟩,Ud b,λv m=> ?_⟩;rw[k,ZB];exact⟨.bl (bs.any id),H,I.walked m,rfl,q⟩
def sM (xs:zy V)(k:Nat)(y:V):zy V:=xs.take k++y::xs.drop k
def At.ins {xs:zy V}{a:zy zx}{y:V}{u:zx}(r:At xs a)(b:RelV y u)(k:Nat):At (sM xs k y) (a.take k++u::a.drop k):=At.append (r.take k) (.cons b (r.drop k))
end
def U6:kn->ki->zu->zu->Nat->Prop
 | true,h,q,l,k=>h.IsListIter q l k
 | false,h,q,l,k=>h.IsTupleIter q l k
def S5:kn->ki->zu->Array zx->Prop
 | true,h,l,xs=>h.IsList l xs
 | false,h,l,xs=>h.IsTuple l xs
def U6.mv {b:kn}{h h':ki}{q l:zu}{k:Nat}(x:U6 b h q l k)(e:∀o,h.get? q=some o->h'.get? q=some o):U6 b h' q l k:=by
 cases b with
 | true=>obtain⟨o,a,r⟩:=x;exact⟨o,e o a,r⟩
 | false=>obtain⟨o,a,r⟩:=x;exact⟨o,e o a,r⟩
def U6.obj {b:kn}{h:ki}{q l:zu}{k:Nat}(x:U6 b h q l k):∃o,h.get? q=some o/\∀v,o.data≠ .cell v:=by
 cases b with
 | true=> obtain⟨o,a,_,d⟩:=x;exact⟨o,a,λv z=>by rw[d] at z;cases z⟩
 | false=> obtain⟨o,a,_,d⟩:=x;exact⟨o,a,λv z=>by rw[d] at z;cases z⟩
def S5.mv {b:kn}{h h':ki}{l:zu}{xs:Array zx}(x:S5 b h l xs)(e:∀o,h.get? l=some o->h'.get? l=some o):S5 b h' l xs:=by
 cases b with
 | true=>obtain⟨o,a,r⟩:=x;exact⟨o,e o a,r⟩
 | false=>obtain⟨o,a,r⟩:=x;exact⟨o,e o a,r⟩
section
variable {prog:km}{w:kj}{A:kf}{E:zx->zw->Prop}{s:zw}
def NG {b:kn}{q l:zu}{k:Nat}{xs:Array zx}{x:zx}{Q:zx->zw->Prop}(e:U6 b s.heap q l k)(hl:S5 b s.heap l xs)(hx:xs[k]? =some x)(hQ:∀h',U6 b h' q l (k+1)->Heap.SameBut q s.heap h'->Q x {s with heap:=h'}):wpAny (model prog w) A (Builtin.SmallTypes.nextOf (.ref q)) Q E s:=by
 cases b with
 | true=>exact wpAny_nextOf_list_item e hl hx hQ
 | false=> have d:s.heap.IsTupleIter q l k:=e;obtain⟨g,c,f,a⟩:=id d;obtain⟨ol,gl,_,h,dl⟩:=hl;unfold Builtin.SmallTypes.nextOf;refine AAA (ACB (name:=Str.ofString "__next__") d.typeIs ACy (ABC ACy d.typeIs AD9 ?_ (AEA _)));show wpAny _ _ (field (.ref q) 0 >>= _) _ _ _;refine AAA (AAo c a (x:= .ref l) rfl ?_);show wpAny _ _ (if (Value.ref l==Value.none)=true then _ else _) _ _ _;rw[AAC (by intro z;cases z)];show wpAny _ _ (field (.ref q) 1 >>= _) _ _ _;refine AAA (AAo c a (x:= .int k 0) rfl ?_);show wpAny _ _ (seqItems? (.ref l) >>= _) _ _ _;refine AAA (ABD gl dl ?_);simp only[ABp,hx];refine AAA (wpAny_setField c a (by simp) (AAD ⟨x,rfl,AAD (hQ _ ?_ (Heap.SameBut.update ..))⟩));refine⟨_,ACv _ c (Obj.isFreed_of_fields (Obj.data_mapFields a _)),(Obj.cls_mapFields ..).trans f, ?_⟩;rw[Obj.data_mapFields a];simp[rawInt]
def P0 {b:kn}{q l:zu}{k:Nat}{xs:Array zx}{Q:zx->zw->Prop}(c:A.handled=none)(h:U6 b s.heap q l k)(hl:S5 b s.heap l xs)(hx:xs[k]? =none)(i:∀h' e,Heap.ExtBut q s.heap h'->(∃o,h'.get? e=some o/\o.cls= .type "StopIteration")->E (.ref e) {s with heap:=h'}):wpAny (model prog w) A (Builtin.SmallTypes.nextOf (.ref q)) Q E s:=by
 cases b with
 | true=>exact wpAny_nextOf_list_end c h hl hx i
 | false=>
   have d:s.heap.IsTupleIter q l k:=h;obtain⟨j,f,n,g⟩:=id d;obtain⟨ol,gl,_,p,dl⟩:=hl;unfold Builtin.SmallTypes.nextOf;refine AAA (ACB (name:=Str.ofString "__next__") d.typeIs ACy (ABC ACy d.typeIs AD9 ?_ (AEA _)));show wpAny _ _ (field (.ref q) 0 >>= _) _ _ _;refine AAA (AAo f g (x:= .ref l) rfl ?_);show wpAny _ _ (if (Value.ref l==Value.none)=true then _ else _) _ _ _;rw[AAC (by intro z;cases z)];show wpAny _ _ (field (.ref q) 1 >>= _) _ _ _;refine AAA (AAo f g (x:= .int k 0) rfl ?_);show wpAny _ _ (seqItems? (.ref l) >>= _) _ _ _;refine AAA (ABD gl dl ?_);simp only[ABp,hx];refine AAA (ABj (AAA (wpAny_setField f g (by simp) ?_)));refine AAA (m:=newExc (.type "StopIteration") []) ?_;simp only[newExc,newTuple];refine AAA (ABF ?_ (by size_fits));refine AAA (m:=firstArgMember _ _) (ACG (a:=Value.none) (by first | rfl|(simp only[firstArgMember];rfl)) (ABF ?_ (by size_fits)));simp only[raiseNew];refine AAA (wpAny_handled ?_);first | rw[show A.in1.handled=none from c] | rw[c]
   exact AAA (AAD (wpAny_throw (i _ _ (((Heap.SameBut.update ..).extBut.push _).push _) ⟨_,AAP _ rfl,rfl⟩)))
structure i0 (b c:Bool) (z TI TO i j l m:Addr) (k:Nat) (f:Value) (h:Heap):Prop where
 zip:IsZip h z TI TO f
 its:IsPair h TI (.ref i) (.ref j)
 own:∃x y,IsPair h TO x y
 one:U6 b h i l k
 two:U6 c h j m k
def i0.mv {b c:kn}{z TI TO i j l m:zu}{k:Nat}{f:zx}{h h':ki}(Z:i0 b c z TI TO i j l m k f h)(e:∀p∈ [z,TI,TO,i,j],∀o,h.get? p=some o->h'.get? p=some o):i0 b c z TI TO i j l m k f h':=by obtain⟨a,d,⟨x,y,g⟩,n,r⟩:=Z;exact⟨e z (by simp) _ a,e TI (by simp) _ d,⟨x,y,e TO (by simp) _ g⟩,n.mv (e i (by simp)),r.mv (e j (by simp))⟩
variable {b c:kn}{z TI TO i j l m:zu}{k:Nat}{xs ys:Array zx}
def qC {x y:zx}{Q:zx->zw->Prop}(D:ZipApart z TI TO i j l m)(Z:i0 b c z TI TO i j l m k .none s.heap)(hl:S5 b s.heap l xs)(hm:S5 c s.heap m ys)(hx:xs[k]? =some x)(hy:ys[k]? =some y)(hQ:∀h',IsZip h' z TI TO (rawInt s.heap.objs.size)->IsPair h' TI (.ref i) (.ref j)->IsPair h' TO x y->U6 b h' i l (k+1)->U6 c h' j m (k+1)->IsPair h' s.heap.objs.size x y-> (∀p o,p≠z->p≠TO->p≠i->p≠j->s.heap.get? p=some o->h'.get? p=some o)->Q (.ref s.heap.objs.size) {s with heap:=h'}):wpAny (model prog w) A (Builtin.«zip.__next__» ⟨[.ref z], []⟩) (λL s'=>∃v,L= .done (.ret v)/\Q v s') E s:=by
 obtain⟨n,T,⟨x0,M,zo⟩,z1,z2⟩:=Z;show wpAny _ _ (field (.ref z) 2 >>= _) _ _ _;refine AAA (AAo n rfl (x:= .bool false) rfl ?_);show wpAny _ _ (field (.ref z) 3 >>= _) _ _ _;refine AAA (AAo n rfl (x:= .ref TI) rfl (AAA (ABD T rfl ?_)));refine AAA (m:=Builtin.SmallTypes.ownedTupleIsFree (.ref z)) ?_;unfold Builtin.SmallTypes.ownedTupleIsFree;refine AAA (AAo n rfl (x:= .none) rfl (AAD ?_));simp only[AA4];refine AAA (ABj (AAA (AAo n rfl (x:= .ref TO) rfl (AAA (ACH n (by simp) λg1 N g=> ?_)))));have N:IsZip g1 z TI TO .ellipsis:=N;refine AAA ?_;simp only[List.zipIdx_cons,List.zipIdx_nil,ACD,ACz];refine AAA (AAA (AC0 ?_));refine AAA (m:=Builtin.SmallTypes.nextOf (.ref i)) (NG (z1.mv λo=>g.extBut _ o D.i1z) (hl.mv λo=>g.extBut _ o D.l1z) hx λg2 e2 b2=>AAD ?_);have U:IsPair g2 TO x0 M:=b2.extBut _ _ D.TOi1 (g.extBut _ _ D.TOz zo);refine AAA (ABD U rfl (AAA (ADb U λg3 O h=>AAA (wpAny_letGo (AAD ?_)))));have O:IsPair g3 TO x M:=O;refine AAA (AAA (AC0 ?_));refine AAA (m:=Builtin.SmallTypes.nextOf (.ref j)) (NG (((z2.mv λo=>g.extBut _ o D.i2z).mv λo=>b2.extBut _ o D.i12.symm).mv λo=>h.extBut _ o D.TOi2.symm)
  (((hm.mv λo=>g.extBut _ o D.l2z).mv λo=>b2.extBut _ o D.l2i1).mv λo=>h.extBut _ o D.l2TO) hy λg4 e4 r=>AAD ?_)
 have W:IsPair g4 TO x M:=r.extBut _ _ D.TOi2 O;refine AAA (ABD W rfl (AAA (ADb W λa G t=>AAA (wpAny_letGo (AAD (AAD ?_))))));have G:IsPair a TO x y:=G;refine AAA (ABD G rfl (AAA (wpAny_newTuple ?_)));have sz:a.objs.size=s.heap.objs.size:=by rw[t.1,r.1,h.1,b2.1,g.1]
 have X:IsZip a z TI TO .ellipsis:=t.extBut _ _ D.TOz.symm (r.extBut _ _ D.i2z.symm (h.extBut _ _ D.TOz.symm (b2.extBut _ _ D.i1z.symm N)));have d:∀p o,p≠z->p≠TO->p≠i->p≠j->s.heap.get? p=some o->a.get? p=some o:=λp o H I P R e=>
  t.extBut _ _ I (r.extBut _ _ R (h.extBut _ _ I (b2.extBut _ _ P (g.extBut _ _ H e))))
 have u:U6 b a i l (k+1):=((e2.mv λo=>h.extBut _ o D.TOi1.symm).mv λo=>r.extBut _ o D.i12).mv λo=>t.extBut _ o D.TOi1.symm;have B:U6 c a j m (k+1):=e4.mv λo=>t.extBut _ o D.TOi2.symm;have C:z<a.objs.size:=AAG X;refine AAA (m:=Builtin.SmallTypes.ownedTupleHandOut (.ref z) (.ref a.objs.size)) ?_;unfold Builtin.SmallTypes.ownedTupleHandOut;have k6:IsZip (a.push {cls:= .type "tuple",data:= .seq #[x,y] }) z TI TO .ellipsis:=AAH _ X;refine AAA (ACH k6 (by simp) λg7 S Y=> ?_);have S:IsZip g7 z TI TO (rawInt a.objs.size):=S;refine ACH S (by simp) λJ K b8=> ?_;have K:IsZip J z TI TO (rawInt a.objs.size):=K;have F:∀p o,p≠z->a.get? p=some o->J.get? p=some o:=λp o q e=>b8.extBut _ _ q (Y.extBut _ _ q (AAH _ e));have f:IsPair J a.objs.size x y:=b8.extBut _ _ (AAw C) (Y.extBut _ _ (AAw C) (AAP _ rfl));rw[sz] at K f;refine AAD ⟨_,rfl, ?_⟩;show Q (.ref a.objs.size) _;rw[sz];exact hQ J K (F _ _ D.TIz (d _ _ D.TIz D.TITO D.TIi1 D.TIi2 T)) (F _ _ D.TOz G) (u.mv λo=>F _ o D.i1z) (B.mv λo=>F _ o D.i2z) f λp o H I P R e=>F p o H (d p o H I P R e)
def uh {Q:Fin->zw->Prop}(B:A.handled=none)(D:ZipApart z TI TO i j l m)(Z:i0 b c z TI TO i j l m k .none s.heap)(hl:S5 b s.heap l xs)(L:S5 c s.heap m ys)(M:xs[k]? =none\/ys[k]? =none)(C:∀h' e,(∀p o,p≠z->p≠TO->p≠i->p≠j->s.heap.get? p=some o->h'.get? p=some o)->(∃o,h'.get? e=some o/\o.cls= .type "StopIteration")->E (.ref e) {s with heap:=h'}):wpAny (model prog w) A (Builtin.«zip.__next__» ⟨[.ref z], []⟩) Q E s:=by
 obtain⟨g,N,⟨O,P,R⟩,F,S⟩:=Z;show wpAny _ _ (field (.ref z) 2 >>= _) _ _ _;refine AAA (AAo g rfl (x:= .bool false) rfl ?_);show wpAny _ _ (field (.ref z) 3 >>= _) _ _ _;refine AAA (AAo g rfl (x:= .ref TI) rfl (AAA (ABD N rfl ?_)));refine AAA (m:=Builtin.SmallTypes.ownedTupleIsFree (.ref z)) ?_;unfold Builtin.SmallTypes.ownedTupleIsFree;refine AAA (AAo g rfl (x:= .none) rfl (AAD ?_));simp only[AA4];refine AAA (ABj (AAA (AAo g rfl (x:= .ref TO) rfl (AAA (ACH g (by simp) λT r a=> ?_)))));have r:IsZip T z TI TO .ellipsis:=r;refine AAA ?_;simp only[List.zipIdx_cons,List.zipIdx_nil,ACD,ACz];refine AAA (AAA (AC0 ?_));cases hx:xs[k]? with
 | none=>
   refine AAA (m:=Builtin.SmallTypes.nextOf (.ref i)) (P0 B (F.mv λo=>a.extBut _ o D.i1z) (hl.mv λo=>a.extBut _ o D.l1z) hx λt e b2 he=> ?_);obtain⟨u,d,h⟩:=he;have k2:IsZip t z TI TO .ellipsis:=b2 _ _ D.i1z.symm r;have v:e≠z:=λq=>by subst q;rw[k2] at d;cases d;simp at h
   refine ACH k2 (by simp) λG _ f=>C G e (λp o n _ y _ q=>f.extBut _ _ n (b2 _ _ y (a.extBut _ _ n q))) ⟨u,f.extBut _ _ v d,h⟩
 | some x=>
   have U:ys[k]? =none:=by
    rcases M with q|q
    .rw [hx] at q;cases q
    .exact q
   refine AAA (m:=Builtin.SmallTypes.nextOf (.ref i)) (NG (F.mv λo=>a.extBut _ o D.i1z) (hl.mv λo=>a.extBut _ o D.l1z) hx λt e2 b2=>AAD ?_);have H:IsPair t TO O P:=b2.extBut _ _ D.TOi1 (a.extBut _ _ D.TOz R);refine AAA (ABD H rfl (AAA (ADb H λG o3 f=>AAA (wpAny_letGo (AAD ?_)))));refine AAA (AAA (AC0 ?_));refine AAA (m:=Builtin.SmallTypes.nextOf (.ref j)) (P0 B (((S.mv λo=>a.extBut _ o D.i2z).mv λo=>b2.extBut _ o D.i12.symm).mv λo=>f.extBut _ o D.TOi2.symm)
    (((L.mv λo=>a.extBut _ o D.l2z).mv λo=>b2.extBut _ o D.l2i1).mv λo=>f.extBut _ o D.l2TO) U λW e I he=> ?_)
   obtain⟨u,d,h⟩:=he;have J:IsZip W z TI TO .ellipsis:=I _ _ D.i2z.symm (f.extBut _ _ D.TOz.symm (b2.extBut _ _ D.i1z.symm r));have v:e≠z:=λq=>by subst q;rw[J] at d;cases d;simp at h
   refine ACH J (by simp) λX _ K=>C X e (λp o n Y y q4 q=>K.extBut _ _ n (I _ _ q4 (f.extBut _ _ Y (b2.extBut _ _ y (a.extBut _ _ n q))))) ⟨u,K.extBut _ _ v d,h⟩
end
def dL (b:kn)(l:zu):Obj:={cls:= .type (match b with | true=>"list_iterator" | false=>"tuple_iterator"),data:= .fields #[.ref l, .int 0 0] }
abbrev zA (b:kn)(h:ki)(l:zu):ki:=h.push (dL b l)
abbrev zB (b c:kn)(h:ki)(l m:zu):ki:=(zA b h l).push (dL c m)
abbrev zC (b c:kn)(h:ki)(l m:zu):ki:=(zB b c h l m).push {cls:= .type "tuple",data:= .seq #[.ref h.objs.size, .ref (zA b h l).objs.size] }
abbrev zD (b c:kn)(h:ki)(l m:zu):ki:=(zC b c h l m).push {cls:= .type "tuple",data:= .seq #[.none, .none] }
abbrev zF (b c:kn)(h:ki)(l m:zu):ki:=(zD b c h l m).push {cls:= .type "zip",data:= .fields #[.none, .bool false, .bool false, .ref (zB b c h l m).objs.size, .ref (zC b c h l m).objs.size] }
def ak {prog:km}{w:kj}{A:kf}{E:zx->zw->Prop}{h:ki}{g:Array GenState}{d:Drawn}{a:Nat}{os:OsState}{b:kn}{l:zu}{xs:Array zx}{Q:zx->zw->Prop}(hl:S5 b h l xs)(q:Q (.ref h.objs.size) ⟨h.push (dL b l),g,d,a,os⟩):wpAny (model prog w) A (pyIter (.ref l)) Q E ⟨h,g,d,a,os⟩:=by
 cases b with
 | true=>exact ACa (s:=⟨h,g,d,a,os⟩) hl q
 | false=>exact wpAny_pyIter_tuple (s:=⟨h,g,d,a,os⟩) hl q
def ZS (b c:kn)(l m:zu)(xs a:Array zx):Meets (Builtin.«zip.__new__» ⟨[.type "zip", .ref l, .ref m], []⟩) (λ_ R s=>S5 b s.heap l xs/\S5 c s.heap m a/\R (.ok (.ret (.ref (zD b c s.heap l m).objs.size))) {s with heap:=zF b c s.heap l m}):=
 .of_wp λprog w A R s h=>by
   obtain⟨hp,g,d,k,os⟩:=s;obtain⟨hl,f,h⟩:=h;have n:=sub_zip;have i:S5 b hp l xs:=hl;have j:S5 c (hp.push (dL b l)) m a:=f.mv λo e=>AAH _ e
   wp_walk using ak i,ak j
   exact⟨_,rfl,h⟩
section
variable {prog:km}{w:kj}{A:kf}{E:zx->zw->Prop}{s:zw}{b c:kn}{l m:zu}{xs ys:Array zx}
def iB {h:ki}{q:zu}(e:h.get? q=some (dL b l)):U6 b h q l 0:=by
 cases b with
 | true=>exact⟨_,e,rfl,rfl⟩
 | false=>exact⟨_,e,rfl,rfl⟩
def ly (hl:S5 b s.heap l xs)(r:S5 c s.heap m ys){Q:zx->zw->Prop}(h:∀h',i0 b c (s.heap.objs.size+4) (s.heap.objs.size+2) (s.heap.objs.size+3) s.heap.objs.size (s.heap.objs.size+1) l m 0 .none h'->(∀p o,s.heap.get? p=some o->h'.get? p=some o)->Q (.ref (s.heap.objs.size+4)) {s with heap:=h'}):wpAny (model prog w) A (call (.type "zip") [.ref l, .ref m]) Q E s:=by
 refine callType_new F.called_zip (by decide) (F.typeCall_zip_2 _ _) (F.newCall_zip_2 _ _) (λobj=>F.args_object_init_3 obj _ _) F.entry_zip_new (ZS b c l m xs ys) ⟨hl,r, ?_⟩;have a:(zA b s.heap l).objs.size=s.heap.objs.size+1:=ABM ..;have d:(zB b c s.heap l m).objs.size=s.heap.objs.size+2:=by rw[ABM,a]
 have f:(zC b c s.heap l m).objs.size=s.heap.objs.size+3:=by rw[ABM,d]
 have i:(zD b c s.heap l m).objs.size=s.heap.objs.size+4:=by rw[ABM,f]
 have g:(zF b c s.heap l m).get? (zD b c s.heap l m).objs.size=some _:=AAP _ rfl;have j:(zF b c s.heap l m).get? (zC b c s.heap l m).objs.size=some _:=AAH _ (AAP _ rfl);have k:(zF b c s.heap l m).get? (zB b c s.heap l m).objs.size=some _:=AAH _ (AAH _ (AAP _ rfl));have n:(zF b c s.heap l m).get? (zA b s.heap l).objs.size=some (dL c m):=AAH _ (AAH _ (AAH _ (AAP _ rfl)));have t:(zF b c s.heap l m).get? s.heap.objs.size=some (dL b l):=AAH _ (AAH _ (AAH _ (AAH _ (AAP _ rfl))));rw[d,f,i] at g;rw[a,d] at k;rw[f] at j;rw[a] at n;show _/\_;rw[i];exact⟨⟨_,g,rfl⟩,h _ ⟨g,k,⟨_,_,j⟩,iB t,iB n⟩ λp o e=>AAH _ (AAH _ (AAH _ (AAH _ (AAH _ e))))⟩
end
def Sq (K:AAB):kn->Hp->zu->zy V->Prop
 | true,H,a,xs=>FO K H a xs
 | false,H,a,xs=>M6 K H a xs
section
variable {X:Cx}{ke:zy (zu×Obj)}{σ:St}{H:Hp}{s:zw}{a:zu}{ys xs:zy V}{b:kn}{h':ki}
def Inv.sq (I:Inv X ke σ H s)(h:Sq X.K b H a xs):∃c:zy zx,At xs c/\S5 b s.heap a c.toArray/\xs.length<=sizeLine:=by
 cases b with
 | true=> obtain⟨c,r,p,z⟩:=I.list h;exact⟨c,r,p.isList,z⟩
 | false=> obtain⟨c,r,p,z⟩:=I.tuple h;exact⟨c,r,p,z⟩
def Inv.sq_inj (I:Inv X ke σ H s)(h:Sq X.K b H a xs)(h2:Sq X.K b H a ys):xs=ys:=by
 cases b with
 | true=>exact I.list_inj h h2
 | false=>exact I.tuple_inj h h2
def Inv.turnedL {ch:zy zu}{t':Nat}(I:Inv X ke σ H s)(c:∀p∈ch,Fj X ke H p)(k:∀p o,p ∉ ch->s.heap.get? p=some o->h'.get? p=some o):Inv X ke σ H {s with heap:=h',toks:=t'}:=by
 have d:∀p u,H p=some u->p ∉ ch:=λp u e z=>by rw[(c p z).1] at e;cases e
 refine I.step (g':=s.gens) (d':=s.drawn) (ch:=ch) (λp hp=>⟨(c p hp).2.2.2.1,(c p hp).2.1,(c p hp).2.2.2.2.1,(c p hp).2.2.2.2.2⟩) (λp o _ _ hc e _=>k p o hc e) (λp o _ _ hc e _=>⟨o.slots,k p o hc e⟩)
  (λ_ _ _ _ n=>n) (λp o hc e=>⟨o,k p o hc e⟩) (λ_ _ e=>e) (λ_ _ _ e=>e) (λp ps e=>⟨#[],by rw[e];simp⟩) (λm f=> ?_) (λp u e=> ?_) I.bare
 .obtain ⟨o,es,ep,g,r⟩:=f;exact⟨o,es,ep,k _ o (λz=>(c _ z).2.1 rfl) g,r⟩
 .refine (I.hok p u e).stay (λq v h i=>k q v ?_ i) (λ_ q=>q) λ_ _ q=>q;rcases h with z|z
  .rw [z];exact d p u e
  .exact d q _ z
def Inv.turnedN {ch:zy zu}{t':Nat}{n:zu}{o:HO}(I:Inv X ke σ H s)(c:∀p∈ch,Fj X ke H p)(l:∀p∈ch,p<s.heap.objs.size)(k:∀p o,p ∉ ch->s.heap.get? p=some o->h'.get? p=some o)(g:s.heap.objs.size<=n)(new:CC X.prog X.w (upd H n o) h' n o):Inv X ke σ (upd H n o) {s with heap:=h',toks:=t'}:=by
 have h:Inv X ke σ H {s with heap:=h',toks:=t'}:=I.turnedL c k;have d:H n=none:=I.hok.fresh g;have hx:∀p u,s.heap.get? p=some u->p≠n:=λp u e=>AAM (AAV (AAG e) g);refine I.step (g':=s.gens) (d':=s.drawn) (ch:=ch) (λp hp=>⟨(c p hp).2.2.2.1,(c p hp).2.1,(c p hp).2.2.2.2.1,(c p hp).2.2.2.2.2⟩) (λp o _ _ hc e _=>k p o hc e) (λp o _ _ hc e _=>⟨o.slots,k p o hc e⟩)
  (λp u _ e z=>by rw[Ag (hx p u e)];exact z) (λp o hc e=>⟨o,k p o hc e⟩) (λp xs e=>by rw[Ag (Au e d)];exact e) (λp o xs e=>by rw[Ag (Au e d)];exact e)
  (λp ps e=>⟨#[],by rw[Ag (Au e d),e];simp⟩) (λm i=> ?_) (λp u e=> ?_) I.bare
 .obtain ⟨o,es,ep,j,r⟩:=i;exact⟨o,es,ep,k _ o (λz=>(c _ z).2.1 rfl) j,r⟩
 .by_cases hp:p=n
  .subst hp;rw[Aj] at e;cases e;exact new
  .rw [Ag hp] at e;exact(h.hok p u e).stay (λ_ _ _ q=>q) (λq f=>by rw[Ag (Au f d)];exact f) λq xs f=>by rw[Ag (Au f d)];exact f
end
def rB (K:AAB)(b c:kn)(l m:zu):It:=
 ⟨λi H=>∃xs a x y,Sq K b H l xs/\Sq K c H m a/\xs[i]? =some x/\a[i]? =some y,
  λi H v d=>∃T x y,v= .ref T/\H T=none/\d=upd H T (.tup [x,y])/\(∀xs,Sq K b H l xs->xs[i]? =some x)/\∀a,Sq K c H m a->a[i]? =some y,
  λi H=>∃xs a,Sq K b H l xs/\Sq K c H m a/\(xs.length<=i\/a.length<=i)⟩
def c5 {P:km}{w:kj}{K:AAB}{es:zy zr}{O:Nat}{pos:Pos}{b c:kn}{z TI TO i j l m:zu}(D:ZipApart z TI TO i j l m):Lb P w K (.Tuple es O pos) (rB K b c l m) [z,TI,TO,i,j] z (λk h=>i0 b c z TI TO i j l m k .none h) where
 mem:=by simp
 obj:=λk h Z p hp=>by
  have a:p=z\/p=TI\/p=TO\/p=i\/p=j:=by simpa using hp
  rcases a with e|e|e|e|e
  .subst e;exact⟨_,Z.zip,λv q=>nomatch q⟩
  .subst e;exact⟨_,Z.its,λv q=>nomatch q⟩
  .subst e;obtain⟨x,y,q⟩:=Z.own;exact⟨_,q,λv q=>nomatch q⟩
  .subst e;exact Z.one.obj
  .subst e;exact Z.two.obj
 keep:=λk h h' Z e=>Z.mv e
 item:=by
  intro X r hw t hc k J s L H E I g Z A;subst r hw t;obtain⟨xs,Q,x,y,hl,n,hx,M⟩:=A;obtain⟨N,B,C,_⟩:=I.sq hl;obtain⟨vs,rv,sv,_⟩:=I.sq n;obtain⟨u,hu,R⟩:=B.get hx;obtain⟨v,hv,S⟩:=rv.get M;have f:s.TypeIs (.ref z) "zip" :=⟨_,Z.zip,rfl⟩;unfold pyNext;refine AAA (wpAny_attempt (ACB (name:=Str.ofString "__next__") f AC1 (ABC AC1 f F.entry_zip_next
   (qC D Z C sv (x:=u) (y:=v) (by simpa using hu) (by simpa using hv) λh1 U W Y a4 a5 a6 a7=>AAD ?_) (F.args_zip_next_1 _))))
  refine⟨_,rfl,wpAny_letOwnedTupleGo_zip (s:={s with heap:=h1}) U λh2 c1 c2=> ?_⟩;have G:∀p∈ [z,TI,TO,i,j],p<s.heap.objs.size:=λp hp=>by
   have a:p=z\/p=TI\/p=TO\/p=i\/p=j:=by simpa using hp
   rcases a with e|e|e|e|e
   .subst e;exact AAG Z.zip
   .subst e;exact AAG Z.its
   .subst e;obtain⟨x,y,q⟩:=Z.own;exact AAG q
   .subst e;obtain⟨o,q,_⟩:=Z.one.obj;exact AAG q
   .subst e;obtain⟨o,q,_⟩:=Z.two.obj;exact AAG q
  have d:∀p o,p≠z->h1.get? p=some o->h2.get? p=some o:=λp o q e=>c2.extBut _ _ q e;have kp:∀p o,p ∉ [z,TI,TO,i,j] ->s.heap.get? p=some o->h2.get? p=some o:=λp o hp e=>by
   have a:p≠z/\p≠TI/\p≠TO/\p≠i/\p≠j:=by simpa using hp
   exact d p o a.1 (a7 p o a.1 a.2.2.1 a.2.2.2.1 a.2.2.2.2 e)
  have yf:s.heap.objs.size≠z:=AAw (G z (by simp));have I2:Inv X J L (upd H s.heap.objs.size (.tup [x,y])) {s with heap:=h2,toks:=s.toks}:=I.turnedN g G kp (AAJ _)
   ⟨(by show 2<=sizeLine;decide), [u,v], .cons R (.cons S .nil),⟨_,d _ _ yf a6,rfl,_,rfl⟩⟩
  have Yh:H s.heap.objs.size=none:=I.fresh;refine⟨.ref s.heap.objs.size,upd H s.heap.objs.size (.tup [x,y]),I2,rfl,⟨_,x,y,rfl,Yh,rfl,λxs' h'=> ?_,λys' h'=> ?_⟩, ?_,λp hp=> ?_⟩
  .rw [I.sq_inj h' hl];exact hx
  .rw [I.sq_inj h' n];exact M
  .exact ⟨c1,d _ _ D.TIz W,⟨_,_,d _ _ D.TOz Y⟩,a4.mv λo=>d _ o D.i1z,a5.mv λo=>d _ o D.i2z⟩
  .rw [Ag (AAM (G p hp))];exact(g p hp).1
 done:=by
  intro X r hw t hc k J s L H E I g Z A;subst r hw t;obtain⟨xs,Q,hl,n,he⟩:=A;obtain⟨N,B,C,_⟩:=I.sq hl;obtain⟨vs,rv,sv,_⟩:=I.sq n;have e1:=B.length;have e2:=rv.length;have jQ:N.toArray[k]? =none\/vs.toArray[k]? =none:=by
   rcases he with q|q
   .exact .inl (by simp;omega)
   .exact .inr (by simp;omega)
  have f:s.TypeIs (.ref z) "zip" :=⟨_,Z.zip,rfl⟩;unfold pyNext;refine AAA (wpAny_attempt (ACB (name:=Str.ofString "__next__") f AC1 (ABC AC1 f F.entry_zip_next
   (uh (I.ok.hd hc) D Z C sv jQ λh1 e hk he=> ?_) (F.args_zip_next_1 _))))
  obtain⟨o,ho,rh⟩:=he;refine AAA (ACS (T:="StopIteration") (b:=true) ⟨o,ho,rh⟩ isSubtype_stop (AAD ⟨rfl, ?_⟩));exact I.turnedL (t':=s.toks) g λp o hp e=>by
   have a:p≠z/\p≠TI/\p≠TO/\p≠i/\p≠j:=by simpa using hp
   exact hk p o a.1 a.2.2.1 a.2.2.2.1 a.2.2.2.2 e
 self:=λ_ _ _ _ _ Z h=>wpAny_pyIter_zip Z.zip h
structure Has (P:Program) (w:World) (K:AAB) (mg:Str->Option Value) (base:Heap) (k:Nat) (x:Str) (ps:List Str) (sp:Sp):Prop where
 ex:∃f fd,mg x=some (.ref f)/\PySem.W.keepIn K (.ref f)=true/\Binds K fd ps [] /\Dp P w K mg base Mr k f fd ps sp
def Has.mono {P:km}{w:kj}{K:AAB}{mg:Str->zt zx}{base:ki}{j k:Nat}{x:Str}{ps:zy Str}{sp:Sp}(h:Has P w K mg base j x ps sp)(hk:j<=k):Has P w K mg base k x ps sp:=by obtain⟨f,e,a,b,c,d⟩:=h.ex;exact⟨f,e,a,b,c,d.mono hk⟩
section
variable {X:Cx}{x:Str}{p pos:Pos}{e:zr}{es:zy zr}{t:TA}{k:Nat}{ps:zy Str}{sp:Sp}
def kF (D:Has X.prog X.w X.K X.mg X.base k x ps sp)(a:Room k X.A)(b:Gl X x)(ha:PA X (e::es) t)(hs:starEach (e::es) X.env=(false,eval e X.env)::starEach es X.env:=by rfl)(hpl:(backTo pos (starEach es X.env)).any (·.1)=false:=by rfl)(hd:(x==("__debug__" :Str))=false:=by decide):PE X (.Call (.Name x p) (e::es) [] pos) (ci sp [] E0 t):=by obtain⟨f,h,c,d,g,G⟩:=D.ex;exact XW G a b c d g .nil iG ha (hdb:=hd) (he:=hs) (hpl:=hpl)
end
section
variable {X:Cx}{tg elt:zr}{ifs:zy zr}{scope:Scope}{own:Nat}{ix:zy Nat}{N:zy Str}{g:TG}{tt:TT}{te:TE}
def VS (X:Cx)(sc:Scope)(own:Nat)(ix:zy Nat)(N:zy Str):kn:=
 (List.range ix.length).all λj=>match ix[j]? with
   | none=>false
   | some i=>match N[own+j]?,X.N[i]? with
     | some x,some y=>decide (x=y)&&decide (X.env.scope.names.lookup x=some .cell)&&decide (sc.names.lookup x=some .cell)
     | _,_=>false
def aI {sc:Scope}(h1:N.length=own+ix.length)(h2:VS X sc own ix N=true):Zo X sc own ix N:=by
 refine⟨h1,λj i hj=> ?_⟩;have c:j<ix.length:=(AAz.mp hj).1;have h:=ABs.mp h2 j (AA5.mpr c);rw[hj] at h;dsimp only at h;cases a:N[own+j]? with
 | none=>rw[a] at h;simp at h
 | some x=>
   cases b:X.N[i]? with
   | none=>rw[a,b] at h;simp at h
   | some y=> rw[a,b] at h;simp only[AA0,decide_eq_true_eq] at h;obtain⟨⟨h3,d⟩,e⟩:=h;subst h3;exact⟨x,rfl,rfl,d,e⟩
def Wr (h1:scope.kind= .function)(h2:(scope.names.all λy=> !decide (y.2= .cell))=true)(h3:(scope.names.all λy=> !decide (y.2= .local)||decide (scope.names.lookup y.1=some .local))=true)(d:(scope.names.all λy=> !decide (y.2= .free)||decide (X.env.scope.names.lookup y.1=some .cell))=true)(f:N.length=own+ix.length)(h:VS X (relabel scope X.env) own ix N=true)(hk:M4 own g)(b:∀cl C s H ex pn,PG (blk X (relabel scope X.env) N cl C s H ex pn) tg g)(c:∀cl C s H ex pn,gw (blk X (relabel scope X.env) N cl C s H ex pn) ifs tt)(val:∀cl C s H ex pn,PE (blk X (relabel scope X.env) N cl C s H ex pn) elt te):Fe X tg elt ifs scope own ix N g tt te:=by
 refine⟨h1,λy a e=> ?_,λy a e=> ?_,λy a e=> ?_,aI f h,hk,b,c,val⟩
 .have:=ABs.mp h2 y a;simp[e] at this
 .have:=ABs.mp h3 y a;simpa[e] using this
 .have:=ABs.mp d y a;simpa[e] using this
end
def S6.new {H:Hp}{p:zu}{o:HO}(h:H p=none):S6 H (upd H p o):=λb u q=>by rw[Ag (Au q h)];exact q
def qp (p:zu)(H a:Hp):Prop:=∀b o,b≠p->H b=some o->a b=some o
def S6.but {p:zu}{H H1:Hp}(a:S6 H H1):qp p H H1:=λc o _ h=>a c o h
def qp.upd {p:zu}{H:Hp}{o:HO}:qp p H (upd H p o):=λb u n q=>by rw[Ag n];exact q
end L2
namespace PL
open PySem PySem.Spec PyProof.Rows L2
inductive PV where
 | non|bl (b:Bool)|int (i:Int)|str (x:Str)|ty (n:String)
 | tup (xs:List PV)|lst (xs:List PV)|tape|scr (ns:List Int)|dct (kvs:List (FK×Int))|dk (kvs:List (Int×Int))
def FA (H:Hp)(p:zu):Prop:=∃d x:Int,H p=some (.lst [.int d, .int x])/\0<=d/\0<=x/\x<2147483647
def LZ (o:HO):Prop:=(∀vs,o≠ .tup vs)/\∀q u,o≠ .frz q u
def LZ.lst {xs:zy V}:LZ (.lst xs):=⟨(λ_ e=>nomatch e),(λ_ _ e=>nomatch e)⟩
def FA.mut {H:Hp}{p:zu}(h:FA H p):∃o,H p=some o/\LZ o:=by obtain⟨d,x,e,_⟩:=h;exact⟨_,e,LZ.lst⟩
def qJ (K:AAB)(H:Hp)(a:zu)(xs:zy V):Prop:=H a=some (.tup xs)\/∃(o:Obj) (b:Array zx) (n:Nat),K.lookup a=some o/\o.cls= .type "tuple" /\o.data= .seq b n/\b.size<=sizeLine/\At xs b.toList
def qJ.sq {K:AAB}{H:Hp}{a:zu}{xs:zy V}(h:qJ K H a xs):M6 K H a xs:=h.elim (λz=> .inl (.inl z)) .inr
def nk (kvs:zy (FK×Int)):zy (FK×V):=kvs.map λp=>(p.1,V.int p.2)
def FR (kvs:zy (Int×Int)):zy (B6×V):=kvs.map λp=>(.inl p.1,V.int p.2)
mutual
inductive Cs (K:AAB) (T M:Addr->Prop) (H:Hp):V->PV->Prop where
 | non:Cs K T M H .non .non
 | bl (b:Bool):Cs K T M H (.bl b) (.bl b)
 | int (i:Int):Cs K T M H (.int i) (.int i)
 | str (x:Str):Cs K T M H (.str x) (.str x)
 | ty (n:String):Cs K T M H (.ty n) (.ty n)
 | tup {a:Addr} {vs:List V} {xs:List PV} (h:qJ K H a vs) (r:Ax K T M H vs xs):Cs K T M H (.ref a) (.tup xs)
 | lst {a:Addr} {vs:List V} {xs:List PV} (h:H a=some (.lst vs)) (t:¬T a) (m:¬M a) (r:Ax K T M H vs xs):Cs K T M H (.ref a) (.lst xs)
 | tape {a:Addr} (t:T a):Cs K T M H (.ref a) .tape
 | dct {a:Addr} {kvs:List (FK×Int)} (h:H a=some (.dN K (nk kvs))) (t:¬T a) (m:¬M a):Cs K T M H (.ref a) (.dct kvs)
 | dk {a:Addr} {o:Obj} {es:Array DictEntry} {ep:Nat} {kvs:List (Int×Int)} (h:H a=some (.frz o (.dK (FR kvs)))) (e:o.data= .dict es ep):Cs K T M H (.ref a) (.dk kvs)
 | scr {a:Addr} {ns:List Int} (h:(Rd H a (.lst (ns.map V.int))/\¬T a/\¬M a)\/∀H,FO K H a (ns.map V.int)):Cs K T M H (.ref a) (.scr ns)
inductive Ax (K:AAB) (T M:Addr->Prop) (H:Hp):List V->List PV->Prop where
 | nil:Ax K T M H [] []
 | cons {v:V} {x:PV} {vs:List V} {xs:List PV} (h:Cs K T M H v x) (t:Ax K T M H vs xs):Ax K T M H (v::vs) (x::xs)
end
structure K6 (T M:Addr->Prop) (H:Hp):Prop where
 tp:∀a,T a->FA H a
 mu:∀a,M a->∃o,H a=some o/\LZ o
def K6.noFrz {T M:zu->Prop}{H:Hp}(v:K6 T M H){a:zu}{q:Obj}{u:HO}(r:H a=some (.frz q u)):¬T a/\¬M a:=by
 refine⟨λz=> ?_,λz=> ?_⟩
 .obtain ⟨o,e,_,n⟩:=(v.tp a z).mut;rw[r] at e;cases e;exact n _ _ rfl
 .obtain ⟨o,e,_,n⟩:=v.mu a z;rw[r] at e;cases e;exact n _ _ rfl
def K6.noTup {T M:zu->Prop}{H:Hp}(v:K6 T M H){a:zu}{vs:zy V}(r:Rd H a (.tup vs)):¬T a/\¬M a:=by
 have go:∀o,H a=some o->LZ o->False:=λo e m=>by
  rcases r with r|⟨q,r⟩
  .rw [e] at r;cases r;exact m.1 _ rfl
  .rw [e] at r;cases r;exact m.2 _ _ rfl
 exact⟨λt=>let ⟨o,e,m⟩:=(v.tp a t).mut;go o e m,λt=>let ⟨o,e,m⟩:=v.mu a t;go o e m⟩
structure Mv (K:AAB) (T M:Addr->Prop) (H:Hp) (T' M':Addr->Prop) (H':Hp):Prop where
 va:K6 T M H
 keep:∀b o,¬T b->¬M b->H b=some o->H' b=some o
 sub:∀b,T b->T' b
 tn:∀b,H b≠none->T' b->T b
 mn:∀b,H b≠none->M' b->M b
def Xd {H:Hp}{a:zu}{u:HO}(r:Rd H a u):H a≠none:=by rcases r with r|⟨o,r⟩ <;> rw[r] <;> exact λe=>nomatch e
def pA {H b:Hp}{a:zu}{u:HO}(r:Rd H a u)(k:∀o,H a=some o->b a=some o):Rd b a u:=by
 rcases r with r|⟨o,r⟩
 .exact .inl (k _ r)
 .exact .inr ⟨o,k _ r⟩
section
variable {K:AAB}{T M T' M':zu->Prop}{H H':Hp}
mutual
theorem Cs.mv (m:Mv K T M H T' M' H'):∀{v:V} {x:PV},Cs K T M H v x->Cs K T' M' H' v x
 | _,_, .non=> .non
 | _,_, .bl b=> .bl b
 | _,_, .int i=> .int i
 | _,_, .str x=> .str x
 | _,_, .ty n=> .ty n
 | _,_, .tup (a:=a) (vs:=vs) h r=>by
   refine .tup (vs:=vs) ?_ (Ax.mv m r);rcases h with h|h
   .obtain ⟨t,u⟩:=m.va.noTup (.inl h);exact .inl (m.keep _ _ t u h)
   .exact .inr h
 | _,_, .lst (a:=a) h t u r=> .lst (m.keep _ _ t u h) (λz=>t (m.tn a (by rw[h];exact λe=>nomatch e) z)) (λz=>u (m.mn a (by rw[h];exact λe=>nomatch e) z)) (Ax.mv m r)
 | _,_, .tape t=> .tape (m.sub _ t)
 | _,_, .dct (a:=a) h t u=> .dct (m.keep _ _ t u h) (λz=>t (m.tn a (by rw[h];exact λe=>nomatch e) z)) (λz=>u (m.mn a (by rw[h];exact λe=>nomatch e) z))
 | _,_, .dk h e=>by obtain⟨t,u⟩:=m.va.noFrz h;exact .dk (m.keep _ _ t u h) e
 | _,_, .scr (a:=a) (.inl ⟨h,t,u⟩)=> .scr (.inl ⟨pA h λo e=>m.keep _ o t u e,λz=>t (m.tn a (Xd h) z),λz=>u (m.mn a (Xd h) z)⟩)
 | _,_, .scr (.inr h)=> .scr (.inr h)
theorem Ax.mv (m:Mv K T M H T' M' H'):∀{vs:zy V} {xs:zy PV},Ax K T M H vs xs->Ax K T' M' H' vs xs
 | _,_, .nil=> .nil
 | _,_, .cons h t=> .cons (Cs.mv m h) (Ax.mv m t)
end
end
def Ax.length {K:AAB}{T M:zu->Prop}{H:Hp}:∀{vs:zy V} {xs:zy PV},Ax K T M H vs xs->vs.length=xs.length
 | _,_, .nil=>rfl
 | _,_, .cons _ t=>by simp[t.length]
theorem Ax.get {K:AAB}{T M:zu->Prop}{H:Hp}:∀{vs:zy V} {xs:zy PV} {i:Nat} {x:PV},Ax K T M H vs xs->xs[i]? =some x->∃v,vs[i]? =some v/\Cs K T M H v x
 | _,_,_,_, .nil,e=>by simp at e
 | _,_,0,_, .cons h _,e=>by simp at e;subst e;exact⟨_,rfl,h⟩
 | _,_,i+1,x, .cons _ t,e=>by obtain⟨u,h1,h2⟩:=Ax.get (i:=i) (x:=x) t (by simpa using e);exact⟨u,by simpa using h1,h2⟩
def Ax.get' {K:AAB}{T M:zu->Prop}{H:Hp}{vs:zy V}{xs:zy PV}{i:Nat}{v:V}(h:Ax K T M H vs xs)(e:vs[i]? =some v):∃x,xs[i]? =some x/\Cs K T M H v x:=by have hl:=h.length;have hi:i<vs.length:=(AAz.mp e).1;obtain⟨w,a,r⟩:=h.get (i:=i) (x:=xs[i]'(by omega)) (AAW (by omega));rw[e] at a;cases a;exact⟨_,AAW (by omega),r⟩
def Ax.append {K:AAB}{T M:zu->Prop}{H:Hp}:∀{vs a:zy V} {xs b:zy PV},Ax K T M H vs xs->Ax K T M H a b->Ax K T M H (vs++a) (xs++b)
 | _,_,_,_, .nil,s=>s
 | _,_,_,_, .cons h t,s=> .cons h (t.append s)
def Ax.take {K:AAB}{T M:zu->Prop}{H:Hp}:∀{vs:zy V} {xs:zy PV} (n:Nat),Ax K T M H vs xs->Ax K T M H (vs.take n) (xs.take n)
 | _,_,0,_=> .nil
 | _,_,_+1, .nil=> .nil
 | _,_,n+1, .cons r t=> .cons r (t.take n)
def Ax.drop {K:AAB}{T M:zu->Prop}{H:Hp}:∀{vs:zy V} {xs:zy PV} (n:Nat),Ax K T M H vs xs->Ax K T M H (vs.drop n) (xs.drop n)
 | _,_,0,r=>r
 | _,_,_+1, .nil=> .nil
 | _,_,n+1, .cons _ t=>t.drop n
theorem Ax.set {K:AAB}{T M:zu->Prop}{H:Hp}{v:V}{x:PV}(r:Cs K T M H v x):∀{vs:zy V} {xs:zy PV} (i:Nat),Ax K T M H vs xs->Ax K T M H (vs.set i v) (xs.set i x)
 | _,_,_, .nil=> .nil
 | _,_,0, .cons _ t=> .cons r t
 | _,_,i+1, .cons q t=> .cons q (Ax.set r i t)
def Ax.reverse {K:AAB}{T M:zu->Prop}{H:Hp}{vs:zy V}{xs:zy PV}(h:Ax K T M H vs xs):Ax K T M H vs.reverse xs.reverse:=by
 induction vs generalizing xs with
 | nil=>cases h;exact .nil
 | cons v vs a=>
   cases h with
   | cons h t=>rw[ACx,ACx];exact(a t).append (.cons h .nil)
structure C9 (T:Addr->Prop) (H:Hp) (T':Addr->Prop) (H':Hp):Prop where
 keep:∀b o,¬T b->H b=some o->H' b=some o
 sub:∀b,T b->T' b
 new:∀b,T' b->T b\/H b=none
 tp:∀a,T' a->FA H' a
def C9.refl {T:zu->Prop}{H:Hp}(h:∀a,T a->FA H a):C9 T H T H:=⟨λ_ _ _ e=>e,λ_ e=>e,λ_ e=> .inl e,h⟩
def C9.some {T c:zu->Prop}{H a:Hp}(s:C9 T H c a){b:zu}(h:H b≠none):a b≠none:=by
 by_cases t:T b
 .obtain ⟨o,e,_⟩:=(s.tp b (s.sub b t)).mut;rw[e];exact λe=>nomatch e
 .cases e:H b with
  | none=>exact absurd e h
  | some o=>rw[s.keep b o t e];exact λe=>nomatch e
def C9.none {T c:zu->Prop}{H a:Hp}(s:C9 T H c a){b:zu}(h:a b=none):H b=none:=by
 cases e:H b with
 | none=>rfl
 | some o=>exact absurd h (s.some (by rw[e];exact λe=>nomatch e))
def C9.trans {T T1 d:zu->Prop}{H H1 f:Hp}(a:C9 T H T1 H1)(b:C9 T1 H1 d f):C9 T H d f where
 keep:=λc o t e=>b.keep c o (λz=>(a.new c z).elim t λn=>by rw[n] at e;cases e) (a.keep c o t e)
 sub:=λc t=>b.sub c (a.sub c t)
 new:=λc t=>(b.new c t).elim (λz=>a.new c z) λz=> .inr (a.none z)
 tp:=b.tp
def C9.lay {T:zu->Prop}{H:Hp}{p:zu}{o:HO}(h:∀a,T a->FA H a)(hp:H p=Option.none):C9 T H T (upd H p o) where
 keep:=λb u _ e=>by rw[Ag (Au e hp)];exact e
 sub:=λ_ t=>t
 new:=λ_ t=> .inl t
 tp:=λa t=>by obtain⟨d,x,e,z⟩:=h a t;exact⟨d,x,by rw[Ag (Au e hp)];exact e,z⟩
def C9.mv {K:AAB}{T a M:zu->Prop}{H c:Hp}(s:C9 T H a c)(v:K6 T M H):Mv K T M H a M c where
 va:=v
 keep:=λb o t _ e=>s.keep b o t e
 sub:=s.sub
 tn:=λb n t=>(s.new b t).elim id λz=>absurd z n
 mn:=λ_ _ z=>z
def Cs.stp {K:AAB}{T a M:zu->Prop}{H b:Hp}{v:V}{x:PV}(r:Cs K T M H v x)(s:C9 T H a b)(va:K6 T M H):Cs K a M b v x:=r.mv (s.mv va)
def Ax.stp {K:AAB}{T a M:zu->Prop}{H b:Hp}{v:zy V}{x:zy PV}(r:Ax K T M H v x)(s:C9 T H a b)(va:K6 T M H):Ax K a M b v x:=r.mv (s.mv va)
def Mv.anti {K:AAB}{T M c:zu->Prop}{H:Hp}(v:K6 T M H)(h:∀a,c a->M a):Mv K T M H T c H:=⟨v,λ_ _ _ _ e=>e,λ_ t=>t,λ_ _ t=>t,λb _ t=>h b t⟩
inductive AV where
 | val (x:PV)
 | own (xs:List PV)
abbrev BA:=zy (zt AV)
structure Cz where
 T:Addr->Prop
 H:Hp
 M:Addr->Prop
def Cz.add (B:Cz)(p:zu):Cz:=⟨B.T,B.H,λa=>B.M a\/a=p⟩
def Cd (a:L2.St)(τ:BA)(p:zu):Prop:=∃(i:Nat) (xs:zy PV),τ[i]? =some (some (.own xs))/\a[i]? =some (some (.ref p))
def mt (B:Cz)(a:L2.St)(τ:BA)(p:zu):Prop:=B.M p\/Cd a τ p
structure SR (K:AAB) (B:Cz) (T:Addr->Prop) (H:Hp) (σ:L2.St) (τ:BA):Prop where
 len:σ.length=τ.length
 val:∀(i:Nat) (x:PV),τ[i]? =some (some (.val x))->∃v,σ[i]? =some (some v)/\Cs K T (mt B σ τ) H v x
 own:∀(i:Nat) (xs:List PV),τ[i]? =some (some (.own xs))->∃p vs,σ[i]? =some (some (.ref p))/\H p=some (.lst vs)/\Ax K T (mt B σ τ) H vs xs/\B.H p=none/\¬T p/\¬B.M p
 dist:∀(i j:Nat) (xs ys:List PV) (p:Addr),τ[i]? =some (some (.own xs))->τ[j]? =some (some (.own ys))->σ[i]? =some (some (.ref p))->σ[j]? =some (some (.ref p))->i=j
 tp:∀a,T a->FA H a
 bm:∀a,B.M a->∃o,H a=some o/\LZ o
 bt:∀a,B.M a->¬T a
 st:C9 B.T B.H T H
section
variable {K:AAB}{B:Cz}{T T':zu->Prop}{H H':Hp}{σ:L2.St}{τ:BA}
def SR.ownH (s:SR K B T H σ τ){p:zu}(o:Cd σ τ p):∃vs,H p=some (.lst vs)/\B.H p=none/\¬T p/\¬B.M p:=by obtain⟨i,xs,h1,h2⟩:=o;obtain⟨q,vs,e,h,_,b,t,m⟩:=s.own i xs h1;rw[h2] at e;cases e;exact⟨vs,h,b,t,m⟩
def SR.va (s:SR K B T H σ τ):K6 T (mt B σ τ) H:=⟨s.tp,λa m=>m.elim (s.bm a) λo=>let ⟨vs,h,_⟩:=s.ownH o;⟨_,h,LZ.lst⟩⟩
def SR.nt (s:SR K B T H σ τ){a:zu}(m:mt B σ τ a):¬T a:=m.elim (s.bt a) λo=>let ⟨_,_,_,t,_⟩:=s.ownH o;t
def SR.stp (s:SR K B T H σ τ)(p:C9 T H T' H'):SR K B T' H' σ τ where
 len:=s.len
 val:=λi x e=>let ⟨v,h,r⟩:=s.val i x e;⟨v,h,r.stp p s.va⟩
 own:=λi xs e=>by obtain⟨q,vs,c,h,r,b,t,m⟩:=s.own i xs e;exact⟨q,vs,c,p.keep _ _ t h,r.stp p s.va,b,(λz=>(p.new q z).elim t λn=>by rw[n] at h;cases h),m⟩
 dist:=s.dist
 tp:=p.tp
 bm:=λa m=>let ⟨o,e,q⟩:=s.bm a m;⟨o,p.keep a o (s.bt a m) e,q⟩
 bt:=λa m z=>by obtain⟨o,e,_⟩:=s.bm a m;exact(p.new a z).elim (s.bt a m) λn=>by rw[n] at e;cases e
 st:=s.st.trans p
def SR.add {p:zu}{o:HO}(s:SR K B T H σ τ)(q:C9 T H T' H')(f:H p=none)(k:H' p=some o)(l:LZ o)(u:¬T' p):SR K (B.add p) T' H' σ τ:=by
 have c:=s.stp q;have g:Mv K T (mt B σ τ) H T' (mt (B.add p) σ τ) H':=⟨s.va,λb o t _ e=>q.keep b o t e,q.sub,λb n t=>(q.new b t).elim id λz=>absurd z n,λb n z=>by
  rcases z with(z|z)|z
  .exact .inl z
  .subst z;exact absurd f n
  .exact .inr z⟩
 refine⟨s.len,λi x e=> ?_,λi xs e=> ?_,s.dist,c.tp,λa m=> ?_,λa m=> ?_,c.st⟩
 .obtain ⟨v,h,r⟩:=s.val i x e;exact⟨v,h,r.mv g⟩
 .obtain ⟨a,vs,j,h,r,b,t,m⟩:=s.own i xs e;obtain⟨y,w,d,h',_,A,t',C⟩:=c.own i xs e;rw[j] at d;cases d;rw[q.keep _ _ t h] at h';cases h';refine⟨a,vs,j,q.keep _ _ t h,r.mv g,b,t',λz=> ?_⟩;rcases z with z|z
  .exact m z
  .subst z;rw[f] at h;cases h
 .rcases m with m|m
  .exact c.bm a m
  .subst m;exact⟨o,k,l⟩
 .rcases m with m|m
  .exact c.bt a m
  .subst m;exact u
end
def jI:zt AV->zt AV
 | some (.own xs)=>some (.val (.lst xs))
 | o=>o
def frz (τ:BA):BA:=τ.map jI
def W2 {τ:BA}{i:Nat}:(frz τ)[i]? =(τ[i]?).map jI:=by simp[frz]
def d9 {τ:BA}{i:Nat}{x:PV}(h:(frz τ)[i]? =some (some (.val x))):τ[i]? =some (some (.val x))\/∃xs,x= .lst xs/\τ[i]? =some (some (.own xs)):=by
 rw[W2] at h;cases e:τ[i]? with
 | none=>rw[e] at h;cases h
 | some o=>
   rw[e] at h;cases o with
   | none=>cases h
   | some a=>
     cases a with
     | val y=>cases h;exact .inl rfl
     | own xs=>cases h;exact .inr ⟨xs,rfl,rfl⟩
def RE {τ:BA}{i:Nat}{xs:zy PV}:(frz τ)[i]? ≠some (some (.own xs)):=by
 rw[W2];cases e:τ[i]? with
 | none=>exact λz=>nomatch z
 | some o=>
   cases o with
   | none=>exact λz=>nomatch z
   | some a=>cases a <;> exact λz=>nomatch z
def UJ {a:L2.St}{τ:BA}{p:zu}:¬Cd a (frz τ) p:=λ⟨_,_,h,_⟩=>RE h
section
variable {K:AAB}{B:Cz}{T T':zu->Prop}{H H':Hp}{σ:L2.St}{τ:BA}
def SR.frz (s:SR K B T H σ τ):SR K B T H σ (frz τ):=by
 have d:Mv K T (mt B σ τ) H T (mt B σ (PL.frz τ)) H:= .anti s.va λa m=>m.elim .inl λz=>absurd z UJ;refine⟨by simp[PL.frz,s.len],λi x e=> ?_,λi xs e=>absurd e RE,λi j xs k p e=>absurd e RE,s.tp,s.bm,s.bt,s.st⟩;rcases d9 e with c|⟨xs,f,c⟩
 .obtain ⟨v,h,r⟩:=s.val i x c;exact⟨v,h,r.mv d⟩
 .subst f;obtain⟨p,vs,g,h,r,b,t,m⟩:=s.own i xs c;exact⟨.ref p,g, .lst h t (λz=>z.elim m UJ) (r.mv d)⟩
end
mutual
def dM:PV->kn
 | .lst _=>false
 | .tape=>false
 | .scr _=>false
 | .dct _=>false
 | .tup xs=>Yu xs
 | _=>true
def Yu:zy PV->kn
 | [] =>true
 | x::xs=>dM x&&Yu xs
end
section
variable {K:AAB}{T M M':zu->Prop}{H:Hp}
mutual
theorem Cs.free:∀{v:V} {x:PV},dM x=true->Cs K T M H v x->Cs K T M' H v x
 | _,_,_, .non=> .non
 | _,_,_, .bl b=> .bl b
 | _,_,_, .int i=> .int i
 | _,_,_, .str x=> .str x
 | _,_,_, .ty n=> .ty n
 | _,_,n, .tup h r=> .tup h (Ax.free (by rw[dM] at n;exact n) r)
 | _,_,n, .lst _ _ _ _=>by rw[dM] at n;cases n
 | _,_,n, .tape _=>by rw[dM] at n;cases n
 | _,_,n, .scr _=>by rw[dM] at n;cases n
 | _,_,n, .dct _ _ _=>by rw[dM] at n;cases n
 | _,_,_, .dk h e=> .dk h e
theorem Ax.free:∀{vs:zy V} {xs:zy PV},Yu xs=true->Ax K T M H vs xs->Ax K T M' H vs xs
 | _,_,_, .nil=> .nil
 | _,_,n, .cons h t=>by rw[Yu,AA0] at n;exact .cons (Cs.free n.1 h) (Ax.free n.2 t)
end
end
abbrev AE:=BA->(PV->Prop)->Prop
abbrev AT:=BA->(kn->Prop)->Prop
abbrev AA:=BA->(zy PV->Prop)->Prop
abbrev AF:=zy PV->(PV->Prop)->Prop
def Se:BA->Nat->zt AV
 | [],_=>none
 | x::_,0=>x
 | _::r,n+1=>Se r n
theorem Nm:∀{τ:BA} {i:Nat} {a:AV},Se τ i=some a->τ[i]? =some (some a)
 | [],_,_,h=>by simp[Se] at h
 | x::_,0,_,h=>by simpa[Se] using h
 | _::r,n+1,a,h=>by have:=Nm (τ:=r) (i:=n) (a:=a) (by simpa[Se] using h);simpa using this
def Sf (x:PV)(R:Int->Prop):Prop:=match x with | .int i=>R i|_=>False
def Y2 (x y:PV)(R:Int->Int->Prop):Prop:=match x,y with | .int i, .int j=>R i j|_,_=>False
def bI (x:PV)(R:kn->Prop):Prop:=match x with | .bl b=>R b|_=>False
def fF (o:zt PV)(R:PV->Prop):Prop:=match o with | some z=>R z|none=>False
def jz {o:zt PV}{R:PV->Prop}(h:fF o R):∃z,o=some z/\R z:=by cases o <;> first | exact⟨_,rfl,h⟩|exact h.elim
def Sg (x:PV)(R:zy PV->Prop):Prop:=match x with | .tup xs=>R xs | .lst xs=>R xs|_=>False
def Gf {x:PV}{R:Int->Prop}(h:Sf x R):∃i,x= .int i/\R i:=by cases x <;> first | exact⟨_,rfl,h⟩|exact h.elim
def Rn {x y:PV}{R:Int->Int->Prop}(h:Y2 x y R):∃i j,x= .int i/\y= .int j/\R i j:=by cases x <;> cases y <;> first | exact⟨_,_,rfl,rfl,h⟩|exact h.elim
def Nw {x:PV}{R:kn->Prop}(h:bI x R):∃b,x= .bl b/\R b:=by cases x <;> first | exact⟨_,rfl,h⟩|exact h.elim
def Nx {x:PV}{R:zy PV->Prop}(h:Sg x R):∃xs,(x= .tup xs\/x= .lst xs)/\R xs:=by cases x <;> first | exact⟨_, .inl rfl,h⟩|exact⟨_, .inr rfl,h⟩|exact h.elim
def Cs.toI {K:AAB}{T M:zu->Prop}{H:Hp}{v:V}{i:Int}(r:Cs K T M H v (.int i)):v= .int i:=by cases r;rfl
def Cs.toB {K:AAB}{T M:zu->Prop}{H:Hp}{v:V}{i:kn}(r:Cs K T M H v (.bl i)):v= .bl i:=by cases r;rfl
def HR (K:AAB)(t:TE)(a:AE):Prop:=∀(B:Cz) (T:zu->Prop) (b:L2.St) (τ:BA) (H:Hp) (Q:VK) (d:PV->Prop),SR K B T H b τ->a τ d->
 (∀v x e c,C9 T H e c->Cs K e (mt B b τ) c v x->d x->Q v c)->t b H Q
def U7 (K:AAB)(t:TT)(a:AT):Prop:=∀(B:Cz) (T:zu->Prop) (c:L2.St) (τ:BA) (H:Hp) (Q:kn->Hp->Prop) (d:kn->Prop),SR K B T H c τ->a τ d->
 (∀b f e,C9 T H f e->d b->Q b e)->t c H Q
def iq (K:AAB)(t:TA)(a:AA):Prop:=∀(B:Cz) (T:zu->Prop) (b:L2.St) (τ:BA) (H:Hp) (Q:zy V->Hp->Prop) (d:zy PV->Prop),SR K B T H b τ->a τ d->
 (∀vs xs e c,C9 T H e c->Ax K e (mt B b τ) c vs xs->d xs->Q vs c)->t b H Q
def di (K:AAB)(t:TE)(a:AA):Prop:=∀(B:Cz) (T:zu->Prop) (c:L2.St) (τ:BA) (H:Hp) (Q:VK) (e:zy PV->Prop),SR K B T H c τ->a τ e->
 (∀p vs xs d b,C9 T H d b->SR K (B.add p) d b c τ->H p=none->b p=some (.lst vs)->¬d p->Ax K d (mt (B.add p) c τ) b vs xs->e xs->Q (.ref p) b)->t c H Q
def SE (X:Cx)(e:zr)(a:AE):Prop:=∃t,PE X e t/\HR X.K t a
def Wh (X:Cx)(e:zr)(a:AT):Prop:=∃t,PT X e t/\U7 X.K t a
def SW (X:Cx)(e:zr)(a:AT):Prop:=∃t,PW X e t/\U7 X.K t a
def SA (X:Cx)(es:zy zr)(a:AA):Prop:=∃t,PA X es t/\iq X.K t a
def SF (X:Cx)(e:zr)(a:AA):Prop:=∃t,PE X e t/\di X.K t a
abbrev HQ:=PV->PV->(PV->Prop)->Prop
def Bs (K:AAB)(r:R2)(f:HQ):Prop:=∀(T M:zu->Prop) (H:Hp) (u v:V) (x y:PV) (Q:VK) (b:PV->Prop),K6 T M H->Cs K T M H u x->Cs K T M H v y->f x y b->
 (∀w z c a,C9 T H c a->Cs K c M a w z->b z->Q w a)->r u v H Q
def EZ (K:AAB)(r:zy V->Hp->VK->Prop)(f:AF):Prop:=∀(T M:zu->Prop) (H:Hp) (b:zy V) (xs:zy PV) (Q:VK) (c:PV->Prop),K6 T M H->Ax K T M H b xs->f xs c->
 (∀w z d a,C9 T H d a->Cs K d M a w z->c z->Q w a)->r b H Q
section
variable {X:Cx}{a b c:zr}{es:zy zr}{pos:Pos}{ta tb:AE}{tA tB':AT}
def aV (i:Nat):AE:=λτ Q=>match Se τ i with | some (.val x)=>Q x|_=>False
def nB {i:Nat}{τ:BA}{Q:PV->Prop}(h:aV i τ Q):∃x,τ[i]? =some (some (.val x))/\Q x:=by
 unfold aV at h;cases e:Se τ i with
 | none=>rw[e] at h;exact h.elim
 | some z=>
   rw[e] at h;cases z with
   | own xs=>exact h.elim
   | val x=>exact⟨x,Nm e,h⟩
def AJ (i:Nat){x:Str}{pos:Pos}(hN:X.N[i]? =some x:=by rfl)(hv:gy X.env.scope x:=by first | exact Or.inl rfl|exact Or.inr (Or.inl rfl)|exact Or.inr (Or.inr rfl))(hd:(x==("__debug__" :Str))=false:=by decide)(d:(x==("__classdict__" :Str))=false:=by decide):SE X (.Name x pos) (aV i):=by refine⟨_,Ny hN hv hd d,λB T g τ H Q j s h k=> ?_⟩;obtain⟨x,e,q⟩:=nB h;obtain⟨v,f,r⟩:=s.val i x e;exact⟨v,f,k v x T H (.refl s.tp) r q⟩
def aC (x:PV):AE:=λ_ Q=>Q x
def QS {v:V}{x:PV}(h:∀T M H,Cs X.K T M H v x):HR X.K (tC v) (aC x):=λB T d τ H Q e s h' k=>k v x T H (.refl s.tp) (h _ _ _) h'
def AH {i:Int}{j pos}:SE X (.Constant (.int i) j pos) (aC (.int i)):=⟨_,BH,QS λ_ _ _=> .int i⟩
def El {i:kn}{j pos}:SE X (.Constant (.bool i) j pos) (aC (.bl i)):=⟨_,oR,QS λ_ _ _=> .bl i⟩
def Cg {j pos}:SE X (.Constant .none j pos) (aC .non):=⟨_,kH,QS λ_ _ _=> .non⟩
def F5 {i:Str}{j pos}:SE X (.Constant (.str i) j pos) (aC (.str i)):=⟨_,kK,QS λ_ _ _=> .str i⟩
def iN {x:Str}{n:String}{u:zx}{pos:Pos}(d:Gl X x)(e:X.mg x=none)(hv:bootBuiltins x=some u)(r:RelV (.ty n) u)(f:x≠"__name__" :=by decide)(hd:(x==("__debug__" :Str))=false:=by decide):SE X (.Name x pos) (aC (.ty n)):=
 ⟨_,Fv (v:= .ty n) d e hv r f hd,QS λ_ _ _=> .ty n⟩
def AX (f:HQ)(ta tb:AE):AE:=λτ Q=>ta τ λx=>tb τ λy=>f x y Q
def SU {r:R2}{f:HQ}{t u:TE}(i:Bs X.K r f)(ha:HR X.K t ta)(hb:HR X.K u tb):HR X.K (ga r t u) (AX f ta tb):=by intro B T g τ H Q j s h k;refine ha B T g τ H _ _ s h λv x T1 H1 d l h1=> ?_;refine hb B T1 g τ H1 _ _ (s.stp d) h1 λw y m n e o h2=> ?_;have p:=(s.stp d).stp e;exact i m _ n v w x y Q j p.va (l.stp e (s.stp d).va) o h2 λw z T3 A C D q=>k w z T3 A ((d.trans e).trans C) D q
def Ah {op:Operator}{r:R2}{f:HQ}(d:Dq X (binaryOp op) r/\Bs X.K r f)(ha:SE X a ta)(hb:SE X b tb):SE X (.BinOp a op b pos) (AX f ta tb):=
 let ⟨_,p,s⟩:=ha;let ⟨_,e,g⟩:=hb;⟨_,B0 d.1 p e,SU d.2 s g⟩
def CN {op:CmpOp}{r:R2}{f:HQ}(d:Dq X (compareOp op) r/\Bs X.K r f)(ha:SE X a ta)(hb:SE X b tb)(e:behindInMarks op b=false):SE X (.Compare a [op] [b] pos) (AX f ta tb):=
 let ⟨_,p,s⟩:=ha;let ⟨_,g,h⟩:=hb;⟨_,XX d.1 p g e,SU d.2 s h⟩
def pL {r:R2}{f:HQ}(d:de X r/\Bs X.K r f)(ha:SE X a ta)(hb:SE X b tb)(hs:Q1 b):SE X (.Subscript a b pos) (AX f ta tb):=
 let ⟨_,p,s⟩:=ha;let ⟨_,e,g⟩:=hb;⟨_,LF d.1 p e hs,SU d.2 s g⟩
def fI (g:Int->Int->PV):HQ:=λx y Q=>Y2 x y λi j=>Q (g i j)
def nG (C:Int->Int->Prop)(g:Int->Int->PV):HQ:=λx y Q=>Y2 x y λi j=>C i j/\Q (g i j)
def Xi {g:Int->Int->V}{g':Int->Int->PV}(d:∀i j T M H,Cs X.K T M H (g i j) (g' i j)):Bs X.K (R0 g) (fI g'):=by intro T M H u v x y Q f va e rv h k;obtain⟨i,j,rfl,rfl,q⟩:=Rn h;exact⟨i,j,e.toI,rv.toI,k _ _ T H (.refl va.tp) (d i j T M H) q⟩
def WH {C:Int->Int->Prop}{g:Int->Int->V}{g':Int->Int->PV}(d:∀i j T M H,Cs X.K T M H (g i j) (g' i j)):Bs X.K (rI C g) (nG C g'):=by intro T M H u v x y Q f va e rv h k;obtain⟨i,j,rfl,rfl,c,q⟩:=Rn h;exact⟨i,j,e.toI,rv.toI,c,k _ _ T H (.refl va.tp) (d i j T M H) q⟩
abbrev IC:HQ:=fI λi j=> .int (i-j)
abbrev Wz:HQ:=fI λi j=> .bl (decide (i<j))
abbrev rT:HQ:=fI λi j=> .bl (decide (i<=j))
abbrev YT:HQ:=fI λi j=> .bl (decide (j<i))
def Dc:Dq X (binaryOp .Sub) (R0 λi j=> .int (i-j))/\Bs X.K (R0 λi j=> .int (i-j)) IC:=⟨kA,Xi λi j _ _ _=> .int _⟩
def FZ:Dq X (compareOp .Lt) (R0 λi j=> .bl (decide (i<j)))/\Bs X.K (R0 λi j=> .bl (decide (i<j))) Wz:=⟨iF,Xi λi j _ _ _=> .bl _⟩
def iP:Dq X (compareOp .LtE) (R0 λi j=> .bl (decide (i<=j)))/\Bs X.K (R0 λi j=> .bl (decide (i<=j))) rT:=⟨oO,Xi λi j _ _ _=> .bl _⟩
def Gz:Dq X (compareOp .Gt) (R0 λi j=> .bl (decide (j<i)))/\Bs X.K (R0 λi j=> .bl (decide (j<i))) YT:=⟨iE,Xi λi j _ _ _=> .bl _⟩
structure MulOk (i j:Int):Prop where
 l:i.natAbs<2^1000000
 r:j.natAbs<2^1000000
def Rp:Dq X (binaryOp .Mult) (rI MulOk λi j=> .int (i*j)):=j3 λ_ _ _ _ _ _ _ hc q=>mul_int q (.of_le (HD hc.l) (HD hc.r) (by decide))
abbrev B9:HQ:=nG MulOk λi j=> .int (i*j)
def A7:Dq X (binaryOp .Mult) (rI MulOk λi j=> .int (i*j))/\Bs X.K (rI MulOk λi j=> .int (i*j)) B9:=⟨Rp,WH λi j _ _ _=> .int _⟩
structure Wc (i j:Int):Prop where
 ne:j≠0
 lt:j.natAbs<2^8900
def bN:Dq X (binaryOp .FloorDiv) (rI Wc λi j=> .int (i.fdiv j)):=j3 λi j _ _ _ _ _ hc q=>
 floordiv_int hc.ne q (.inl (AD8 (ACY (JQ hc.lt (by decide)) (by decide))))
abbrev RD:HQ:=nG Wc λi j=> .int (i.fdiv j)
def E3:Dq X (binaryOp .FloorDiv) (rI Wc λi j=> .int (i.fdiv j))/\Bs X.K (rI Wc λi j=> .int (i.fdiv j)) RD:=⟨bN,WH λi j _ _ _=> .int _⟩
abbrev YV:HQ:=nG (λ_ j=>j≠0) λi j=> .int (i.fmod j)
def WK:Dq X (binaryOp .Mod) (rI (λ_ j=>j≠0) λi j=> .int (i.fmod j))/\Bs X.K (rI (λ_ j=>j≠0) λi j=> .int (i.fmod j)) YV:=⟨fJ,WH λi j _ _ _=> .int _⟩
def qT:PV->kn | .non=>true|_=>false
def YU:HQ:=λx y Q=>match y with | .non=>Q (.bl (qT x))|_=>False
def NK:HQ:=λx y Q=>match y with | .non=>Q (.bl (!qT x))|_=>False
def XH {K:AAB}{T M:zu->Prop}{H:Hp}{v:V}{x:PV}(r:Cs K T M H v x):decide (v= .non)=qT x:=by cases r <;> simp[qT]
def WJ:Dq X (compareOp .Is) (λx y H Q=>y= .non/\Q (.bl (decide (x= .non))) H)/\Bs X.K (λx y H Q=>y= .non/\Q (.bl (decide (x= .non))) H) YU:=by
 refine⟨j6,λT M H u v x y Q e va d rv h k=> ?_⟩;cases y <;> first | exact h.elim|skip
 cases rv;refine⟨rfl, ?_⟩;rw[XH d];exact k _ _ T H (.refl va.tp) (.bl _) h
def SX:Dq X (compareOp .IsNot) (λx y H Q=>y= .non/\Q (.bl (!decide (x= .non))) H)/\Bs X.K (λx y H Q=>y= .non/\Q (.bl (!decide (x= .non))) H) NK:=by
 refine⟨fM,λT M H u v x y Q e va d rv h k=> ?_⟩;cases y <;> first | exact h.elim|skip
 cases rv;refine⟨rfl, ?_⟩;rw[XH d];exact k _ _ T H (.refl va.tp) (.bl _) h
def Ae:HQ:=λx y Q=>Sg x λxs=>Sf y λi=>fF (J2 xs i) Q
def Wl {K:AAB}{T M:zu->Prop}{H:Hp}{vs:zy V}{xs:zy PV}{i:Int}{z:PV}(r:Ax K T M H vs xs)(h:J2 xs i=some z):∃v,J2 vs i=some v/\Cs K T M H v z:=by
 unfold J2 at h ⊢;rw[r.length];cases e:XI xs.length i with
 | none=>rw[e] at h;cases h
 | some j=> rw[e] at h;exact r.get h
def oh (K:AAB):R2:=λx y H Q=>og K x y H Q\/oi K x y H Q
def pN:de X (oh X.K)/\Bs X.K (oh X.K) Ae:=by
 refine⟨Ex.or jh,λT M H u v x y Q j va g rv h k=> ?_⟩;obtain⟨xs,hx,h1⟩:=Nx h;obtain⟨i,rfl,h2⟩:=Gf h1;cases rv.toI;obtain⟨z,e,q⟩:=jz h2;rcases hx with rfl|rfl
 .cases g with
  | tup f r=> obtain⟨w,ew,d⟩:=Wl r e;exact .inr ⟨_,_,i,w,rfl,rfl,f.sq,ew,k w z T H (.refl va.tp) d q⟩
 .cases g with
  | lst f t m r=> obtain⟨w,ew,d⟩:=Wl r e;exact .inl ⟨_,_,i,w,rfl,rfl, .inl (.inl f),ew,k w z T H (.refl va.tp) d q⟩
def YB (f:PV->(PV->Prop)->Prop)(ta:AE):AE:=λτ Q=>ta τ λx=>f x Q
def NJ (x:PV)(Q:PV->Prop):Prop:=Sf x λi=>Q (.int (-i))
def F3 (ha:SE X a ta):SE X (.UnaryOp .USub a pos) (YB NJ ta):=by obtain⟨t,p,s⟩:=ha;refine⟨_,oU lj p,λB T d τ H Q j e h k=>s B T d τ H _ _ e h λv x T1 H1 f g h1=> ?_⟩;obtain⟨i,rfl,q⟩:=Gf h1;exact⟨i,g.toI,k _ _ T1 H1 f (.int _) q⟩
def jD (x:PV)(Q:PV->Prop):Prop:=bI x λi=>Q (.bl (!i))
def lF (ha:SE X a ta):SE X (.UnaryOp .Not a pos) (YB jD ta):=by obtain⟨t,p,s⟩:=ha;refine⟨_,kI p,λB T d τ H Q j e h k=>s B T d τ H _ _ e h λv x T1 H1 f g h1=> ?_⟩;obtain⟨i,rfl,q⟩:=Nw h1;exact⟨i,g.toB,k _ _ T1 H1 f (.bl _) q⟩
def Ld (ta tb:AE):AE:=λτ Q=>ta τ λx=>bI x λc=>if c=true then tb τ Q else Q (.bl false)
def qL (ta tb:AE):AE:=λτ Q=>ta τ λx=>bI x λc=>if c=true then Q (.bl true) else tb τ Q
def F4 {op}(h:SE X a ta):SE X (.BoolOp op [a] pos) ta:=let ⟨_,p,s⟩:=h;⟨_,kJ p,s⟩
def FF {rest:zy zr}(ha:SE X a ta)(hb:SE X (.BoolOp .And (b::rest) pos) tb):SE X (.BoolOp .And (a::b::rest) pos) (Ld ta tb):=by
 obtain⟨t,p,s⟩:=ha;obtain⟨t',g,j⟩:=hb;refine⟨_,kE p g,λB T e τ H Q u f h k=>s B T e τ H _ _ f h λv x T1 H1 d l h1=> ?_⟩;obtain⟨i,rfl,q⟩:=Nw h1;refine⟨i,l.toB, ?_⟩;cases i with
 | true=>rw[AAE rfl] at q ⊢;exact j B T1 e τ H1 _ _ (f.stp d) q λw y m n o r h2=>k w y m n (d.trans o) r h2
 | false=>rw[AAC AAT] at q ⊢;exact k _ _ T1 H1 d (.bl _) q
def iM {rest:zy zr}(ha:SE X a ta)(hb:SE X (.BoolOp .Or (b::rest) pos) tb):SE X (.BoolOp .Or (a::b::rest) pos) (qL ta tb):=by
 obtain⟨t,p,s⟩:=ha;obtain⟨t',g,j⟩:=hb;refine⟨_,oT p g,λB T e τ H Q u f h k=>s B T e τ H _ _ f h λv x T1 H1 d l h1=> ?_⟩;obtain⟨i,rfl,q⟩:=Nw h1;refine⟨i,l.toB, ?_⟩;cases i with
 | false=>rw[AAC AAT] at q ⊢;exact j B T1 e τ H1 _ _ (f.stp d) q λw y m n o r h2=>k w y m n (d.trans o) r h2
 | true=>rw[AAE rfl] at q ⊢;exact k _ _ T1 H1 d (.bl _) q
def Ay (ta:AE):AT:=λτ Q=>ta τ λx=>bI x Q
def Xl {t:TE}(s:HR X.K t ta):U7 X.K (iV t) (Ay ta):=λB T d τ H Q j e h k=>s B T d τ H _ _ e h λv x T1 H1 f g h1=>by obtain⟨i,rfl,q⟩:=Nw h1;exact⟨i,g.toB,k _ T1 H1 f q⟩
def lT {op:CmpOp}{r:R2}{f:HQ}(d:Dq X (compareOp op) r/\Bs X.K r f)(ha:SE X a ta)(hb:SE X b tb)(e:behindInMarks op b=false):Wh X (.Compare a [op] [b] pos) (Ay (AX f ta tb)):=
 let ⟨_,p,s⟩:=ha;let ⟨_,g,h⟩:=hb;⟨_,Ry d.1 p g e,Xl (SU d.2 s h)⟩
def BM {e:zr}(h:SE X e ta)(he:∀whole,isTrue e X.env whole=(do let v <-whole;standAt e.pos;holding [v] (truthy v)):=by intro _;rfl):Wh X e (Ay ta):=
 let ⟨_,p,s⟩:=h;⟨_,kS p he,Xl s⟩
def Df (t:AT):AT:=λτ Q=>t τ λc=>Q (!c)
def JA (t u:AT):AT:=λτ Q=>t τ λc=>if c=true then u τ Q else Q false
def M8 (t u:AT):AT:=λτ Q=>t τ λc=>if c=true then Q true else u τ Q
def Cy (ha:Wh X a tA):Wh X (.UnaryOp .Not a pos) (Df tA):=by obtain⟨t,p,s⟩:=ha;exact⟨_,kR p,λB T d τ H Q g e h k=>s B T d τ H _ _ e h λv T1 H1 f h1=>k _ T1 H1 f h1⟩
def HM (ha:Wh X a tA):SW X (.BoolOp .And [a] pos) tA:=let ⟨_,p,s⟩:=ha;⟨_,fx p,s⟩
def G4 (ha:Wh X a tA):SW X (.BoolOp .Or [a] pos) tA:=let ⟨_,p,s⟩:=ha;⟨_,kX p,s⟩
def Ko {rest:zy zr}(ha:Wh X a tA)(hb:SW X (.BoolOp .And (b::rest) pos) tB'):SW X (.BoolOp .And (a::b::rest) pos) (JA tA tB'):=by
 obtain⟨t,p,s⟩:=ha;obtain⟨t',g,j⟩:=hb;refine⟨_,kW p g,λB T e τ H Q o f h k=>s B T e τ H _ _ f h λi T1 H1 d q=> ?_⟩;cases i with
 | true=>rw[AAE rfl] at q ⊢;exact j B T1 e τ H1 _ _ (f.stp d) q λb l m n h2=>k b l m (d.trans n) h2
 | false=>rw[AAC AAT] at q ⊢;exact k _ T1 H1 d q
def Jg {rest:zy zr}(ha:Wh X a tA)(hb:SW X (.BoolOp .Or (b::rest) pos) tB'):SW X (.BoolOp .Or (a::b::rest) pos) (M8 tA tB'):=by
 obtain⟨t,p,s⟩:=ha;obtain⟨t',g,j⟩:=hb;refine⟨_,oW p g,λB T e τ H Q o f h k=>s B T e τ H _ _ f h λi T1 H1 d q=> ?_⟩;cases i with
 | false=>rw[AAC AAT] at q ⊢;exact j B T1 e τ H1 _ _ (f.stp d) q λb l m n h2=>k b l m (d.trans n) h2
 | true=>rw[AAE rfl] at q ⊢;exact k _ T1 H1 d q
def Je (h:SW X a tA):Wh X a tA:=let ⟨_,p,s⟩:=h;⟨_,p.pt,s⟩
def g9 (t:AT)(ta tb:AE):AE:=λτ Q=>t τ λc=>if c=true then ta τ Q else tb τ Q
def QR (hc:Wh X c tA)(ha:SE X a ta)(hb:SE X b tb):SE X (.IfExp c a b pos) (g9 tA ta tb):=by
 obtain⟨t,p,s⟩:=hc;obtain⟨v,r,e⟩:=ha;obtain⟨t2,u,f⟩:=hb;refine⟨_,bZ p r u,λB T g τ H Q x j h k=>s B T g τ H _ _ j h λi T1 H1 d q=> ?_⟩;cases i with
 | true=>rw[AAE rfl] at q ⊢;exact e B T1 g τ H1 _ _ (j.stp d) q λw y l m n o h2=>k w y l m (d.trans n) o h2
 | false=>rw[AAC AAT] at q ⊢;exact f B T1 g τ H1 _ _ (j.stp d) q λw y l m n o h2=>k w y l m (d.trans n) o h2
def AL:AA:=λ_ Q=>Q []
def AB (ta:AE)(r:AA):AA:=λτ Q=>ta τ λx=>r τ λxs=>Q (x::xs)
def KW:SA X [] AL:=⟨_,ED,λB T e τ H Q f d h k=>k [] [] T H (.refl d.tp) .nil h⟩
def BN {e:zr}{r:AA}(ha:SE X e ta)(j:SA X es r)(hs:starEach (e::es) X.env=(false,eval e X.env)::starEach es X.env:=by rfl):SA X (e::es) (AB ta r):=by obtain⟨t,p,s⟩:=ha;obtain⟨t',l,m⟩:=j;refine⟨_,Bt p l hs,λB T g τ H Q y d h k=>s B T g τ H _ _ d h λv x T1 H1 f n h1=> ?_⟩;exact m B T1 g τ H1 _ _ (d.stp f) h1 λvs xs o u i w h2=>k _ _ o u (f.trans i) (.cons (n.stp i (d.stp f).va) w) h2
def Aq (r:AA):AE:=λτ Q=>r τ λxs=>xs.length<=sizeLine/\Q (.tup xs)
def AY {x1}{r:AA}(h:SA X es r):SE X (.Tuple es x1 pos) (Aq r):=by obtain⟨t,p,s⟩:=h;refine⟨_,kM p,λB T g τ H Q j d h k=>s B T g τ H _ _ d h λvs xs T1 H1 e f h1=>⟨by rw[f.length];exact h1.1,λq i=> ?_⟩⟩;have l:=C9.lay (o:= .tup vs) (d.stp e).tp i;exact k _ _ T1 _ (e.trans l) (.tup (.inl Aj) (f.stp l (d.stp e).va)) h1.2
def FP (r:AA):AA:=λτ Q=>r τ λxs=>xs.length<=sizeLine/\Q xs
def ef {K:AAB}{B:Cz}{T:zu->Prop}{H:Hp}{d:L2.St}{τ:BA}{p:zu}{vs:zy V}{xs:zy PV}(f:SR K B T H d τ)(g:H p=none)(r:Ax K T (mt B d τ) H vs xs):C9 T H T (upd H p (.lst vs))/\SR K (B.add p) T (upd H p (.lst vs)) d τ/\¬T p/\Ax K T (mt (B.add p) d τ) (upd H p (.lst vs)) vs xs:=by
 have l:=C9.lay (o:= .lst vs) f.tp g;have h:¬T p:=λz=>by obtain⟨o,e,_⟩:=(f.tp p z).mut;rw[g] at e;cases e
 refine⟨l,f.add l g Aj LZ.lst h,h,r.mv ⟨f.va,λb o t _ e=>l.keep b o t e,l.sub,λb n t=>t,λb n z=> ?_⟩⟩;rcases z with(z|z)|z
 .exact .inl z
 .subst z;exact absurd g n
 .exact .inr z
def CO {r:AA}(h:SA X es r):SF X (.List es pos) (FP r):=by obtain⟨t,p,s⟩:=h;refine⟨_,bg p,λB T j τ H Q o f h k=>s B T j τ H _ _ f h λvs xs T1 H1 d g h1=>⟨by rw[g.length];exact h1.1,λq i=> ?_⟩⟩;obtain⟨l,e,m,n⟩:=ef (f.stp d) i g;exact k q vs xs T1 _ (d.trans l) e (d.none i) Aj m n h1.2
def GW (r:AA):AE:=λτ Q=>r τ λxs=>Q (.lst xs)
def cW {t:TE}{r:AA}(s:di X.K t r):HR X.K t (GW r):=λB T g τ H Q v d h k=>s B T g τ H _ _ d h λp vs xs T1 H1 j f i hp l n h1=>by
 have u:¬Cd g τ p:=λo=>by obtain⟨_,e,_⟩:=d.ownH o;rw[i] at e;cases e
 have hb:¬B.M p:=λo=>by obtain⟨_,e,_⟩:=d.bm p o;rw[i] at e;cases e
 exact k _ _ T1 H1 j (.lst hp l (λz=>z.elim hb u) (n.mv (.anti f.va λa m=>m.elim (λz=> .inl (.inl z)) .inr))) h1
def EI {r:AA}(h:SF X a r):SE X a (GW r):=let ⟨_,p,s⟩:=h;⟨_,p,cW s⟩
def CH (K:AAB)(n:Nat)(F:AF):Sp:=λvs H Q _=>∃(T M:zu->Prop) (xs:zy PV) (e:PV->Prop),K6 T M H/\(∀a,M a->¬T a)/\Ax K T M H vs xs/\xs.length=n/\F xs e/\
 ∀v x f d,C9 T H f d->Cs K f M d v x->e x->Q v d
def AN (n:Nat)(F:AF)(r:AA):AE:=λτ Q=>r τ λxs=>xs.length=n/\F xs Q
def AK {x:Str}{p:Pos}{e:zr}{k n:Nat}{ps:zy Str}{F:AF}{r:AA}(D:Has X.prog X.w X.K X.mg X.base k x ps (CH X.K n F))(g:Room k X.A)(i:Gl X x)(ha:SA X (e::es) r)(hs:starEach (e::es) X.env=(false,eval e X.env)::starEach es X.env:=by rfl)(hpl:(backTo pos (starEach es X.env)).any (·.1)=false:=by rfl)(hd:(x==("__debug__" :Str))=false:=by decide):SE X (.Call (.Name x p) (e::es) [] pos) (AN n F r):=by obtain⟨t,j,s⟩:=ha;refine⟨_,kF D g i j hs hpl hd,λB T l τ H Q o d h k=>s B T l τ H _ _ d h λvs xs T1 H1 f u h1=> ?_⟩;rw[ADT];exact⟨T1,_,xs,o,(d.stp f).va,λa m=>(d.stp f).nt m,u,h1.1,h1.2,λv x y z C E q=>k v x y z (f.trans C) E q⟩
def Fc (f:AF)(r:AA):AE:=λτ Q=>r τ λxs=>f xs Q
def cV {d:zy V->Hp->VK->Prop}{f:AF}{t:TA}{r:AA}(i:EZ X.K d f)(s:iq X.K t r):HR X.K (tE d t) (Fc f r):=λB T j τ H Q l e h k=>s B T j τ H _ _ e h λvs xs T1 H1 g m h1=>
 i T1 _ H1 vs xs Q l (e.stp g).va m h1 λw z n o p u q=>k w z n o (g.trans p) u q
def A4 {id:String}{x:Str}{p:Pos}{e:zr}{d:zy V->Hp->VK->Prop}{f:AF}{r:AA}(hc:B4 X (.builtin id) d/\EZ X.K d f)(g:Gl X x)(h:X.mg x=none)(hv:bootBuiltins x=some (.builtin id))(ha:SA X (e::es) r)(i:x≠"__name__" :=by decide)(hdb:(x==("__debug__" :Str))=false:=by decide)(he:starEach (e::es) X.env=(false,eval e X.env)::starEach es X.env:=by rfl)(hpl:(backTo pos (starEach es X.env)).any (·.1)=false:=by rfl):SE X (.Call (.Name x p) (e::es) [] pos) (Fc f r):=by obtain⟨t,j,s⟩:=ha;exact⟨_,Gg hc.1 g h hv j i hdb he hpl,cV hc.2 s⟩
def BX {T:String}{x:Str}{p:Pos}{e:zr}{d:zy V->Hp->VK->Prop}{f:AF}{r:AA}(hc:B4 X (.type T) d/\EZ X.K d f)(g:Gl X x)(h:X.mg x=none)(hv:bootBuiltins x=some (.type T))(ha:SA X (e::es) r)(i:x≠"__name__" :=by decide)(hdb:(x==("__debug__" :Str))=false:=by decide)(he:starEach (e::es) X.env=(false,eval e X.env)::starEach es X.env:=by rfl)(hpl:(backTo pos (starEach es X.env)).any (·.1)=false:=by rfl):SE X (.Call (.Name x p) (e::es) [] pos) (Fc f r):=by obtain⟨t,j,s⟩:=ha;exact⟨_,HG hc.1 g h hv j i hdb he hpl,cV hc.2 s⟩
end
section
variable {X:Cx}
def G0 {K:AAB}{T M:zu->Prop}{H:Hp}{v:V}{xs:zy PV}(r:Cs K T M H v (.tup xs)):∃a vs,v= .ref a/\M6 K H a vs/\Ax K T M H vs xs:=by
 cases r with
 | tup h r=>exact⟨_,_,rfl,h.sq,r⟩
def lR {K:AAB}{T M:zu->Prop}{H:Hp}{v:V}{xs:zy PV}(r:Cs K T M H v (.tup xs)):∃a vs,v= .ref a/\qJ K H a vs/\Ax K T M H vs xs:=by
 cases r with
 | tup h r=>exact⟨_,_,rfl,h,r⟩
def EJ {K:AAB}{T M:zu->Prop}{H:Hp}{v:V}{xs:zy PV}(r:Cs K T M H v (.lst xs)):∃a vs,v= .ref a/\H a=some (.lst vs)/\¬T a/\¬M a/\Ax K T M H vs xs:=by
 cases r with
 | lst h t m r=>exact⟨_,_,rfl,h,t,m,r⟩
def cP {K:AAB}{T M:zu->Prop}{H:Hp}{v:V}{ns:zy Int}(r:Cs K T M H v (.scr ns)):∃a,v= .ref a/\FO K H a (ns.map V.int):=by
 cases r with
 | scr h=>
   rcases h with⟨h,_,_⟩|h
   .exact ⟨_,rfl, .inl h⟩
   .exact ⟨_,rfl,h H⟩
def GH:AF:=λxs Q=>match xs with | [.tup ys] =>Q (.int ys.length) | [.lst ys] =>Q (.int ys.length) | [.scr ns] =>Q (.int ns.length)|_=>False
def oj (K:AAB):zy V->Hp->VK->Prop:=λxs H Q=>∃p a,xs= [.ref p] /\(FO K H p a\/M6 K H p a)/\Q (.int a.length) H
def F1:B4 X (.builtin "len") (oj X.K)/\EZ X.K (oj X.K) GH:=by
 refine⟨JE,λT M H d xs Q e va r h k=> ?_⟩;unfold GH at h;split at h <;> first | exact h.elim|skip
 .rename_i c;cases r with | cons r t=>cases t;obtain⟨a,vs,rfl,b,r⟩:=G0 r;refine⟨a,vs,rfl, .inr b, ?_⟩;rw[r.length];exact k _ _ T H (.refl va.tp) (.int _) h
 .rename_i c;cases r with | cons r t=>cases t;obtain⟨a,vs,rfl,b,_,_,r⟩:=EJ r;refine⟨a,vs,rfl, .inl (.inl (.inl b)), ?_⟩;rw[r.length];exact k _ _ T H (.refl va.tp) (.int _) h
 .rename_i ns;cases r with | cons r t=>cases t;obtain⟨a,rfl,b⟩:=cP r;refine⟨a,_,rfl, .inl b, ?_⟩;rw[AAK];exact k _ _ T H (.refl va.tp) (.int _) h
def TW:AF:=λxs Q=>match xs with | [.int i] =>Q (.int i.natAbs)|_=>False
def OE:B4 X (.builtin "abs") (λxs H Q=>∃i,xs= [.int i] /\Q (.int (if i<0 then -i else i)) H)/\EZ X.K (λxs H Q=>∃i,xs= [.int i] /\Q (.int (if i<0 then -i else i)) H) TW:=by
 refine⟨ND,λT M H a xs Q b va r h k=> ?_⟩;unfold TW at h;split at h <;> first | exact h.elim|skip
 rename_i i;cases r with
 | cons r t=> cases t;cases r;refine⟨i,rfl, ?_⟩;rw[show (if i<0 then -i else i)=(i.natAbs:Int) by split <;> omega];exact k _ _ T H (.refl va.tp) (.int _) h
def jJ (g:Int->Int->Int):AF:=λxs Q=>match xs with | [.int i, .int j] =>Q (.int (g i j))|_=>False
def cU {g g':Int->Int->Int}(a:∀i j,g i j=g' i j):EZ X.K (λxs H Q=>∃i j,xs= [.int i, .int j] /\Q (.int (g i j)) H) (jJ g'):=by
 intro T M H c xs Q d va r h k;unfold jJ at h;split at h <;> first | exact h.elim|skip
 rename_i i j;cases r with
 | cons r t=>
   cases t with
   | cons b t=> cases t;cases r;cases b;refine⟨i,j,rfl, ?_⟩;rw[a];exact k _ _ T H (.refl va.tp) (.int _) h
def lB (hc:X.calm=true):B4 X (.builtin "min") (λxs H Q=>∃i j,xs= [.int i, .int j] /\Q (.int (if j<i then j else i)) H)/\EZ X.K (λxs H Q=>∃i j,xs= [.int i, .int j] /\Q (.int (if j<i then j else i)) H) (jJ min):=
 ⟨YJ hc,cU λi j=>by split <;> omega⟩
def lA (hc:X.calm=true):B4 X (.builtin "max") (λxs H Q=>∃i j,xs= [.int i, .int j] /\Q (.int (if j>i then j else i)) H)/\EZ X.K (λxs H Q=>∃i j,xs= [.int i, .int j] /\Q (.int (if j>i then j else i)) H) (jJ max):=
 ⟨YI hc,cU λi j=>by split <;> omega⟩
def jK:AF:=λxs Q=>match xs with | [.int i] =>Q (.int i) | [.bl k] =>Q (.int (if k then 1 else 0))|_=>False
def k9:B4 X (.type "int") (λxs H Q=>(∃i,xs= [.int i] /\Q (.int i) H)\/∃k,xs= [.bl k] /\Q (.int (if k then 1 else 0)) H)/\EZ X.K (λxs H Q=>(∃i,xs= [.int i] /\Q (.int i) H)\/∃k,xs= [.bl k] /\Q (.int (if k then 1 else 0)) H) jK:=by
 refine⟨Pw,λT M H a xs Q b va r h k=> ?_⟩;unfold jK at h;split at h <;> first | exact h.elim|skip
 .cases r with | cons r t=>cases t;cases r;exact .inl ⟨_,rfl,k _ _ T H (.refl va.tp) (.int _) h⟩
 .cases r with | cons r t=>cases t;cases r;exact .inr ⟨_,rfl,k _ _ T H (.refl va.tp) (.int _) h⟩
def Cw:AF:=λxs Q=>match xs with | [.tup ys] =>Q (.tup ys) | [.lst ys] =>Q (.tup ys)|_=>False
def cF (K:AAB):zy V->Hp->VK->Prop:=λxs H Q=>∃p a,xs= [.ref p] /\((FO K H p a/\∀l,H l=none->Q (.ref l) (upd H l (.tup a)))\/(M6 K H p a/\Q (.ref p) H))
def CF:B4 X (.type "tuple") (cF X.K)/\EZ X.K (cF X.K) Cw:=by
 refine⟨Oz,λT M H d xs Q e va r h k=> ?_⟩;unfold Cw at h;split at h <;> first | exact h.elim|skip
 .cases r with | cons r t=>cases t;obtain⟨a,vs,rfl,b,c⟩:=lR r;exact⟨a,vs,rfl, .inr ⟨b.sq,k _ _ T H (.refl va.tp) (.tup b c) h⟩⟩
 .cases r with
  | cons r t=> cases t;obtain⟨a,vs,rfl,b,_,_,c⟩:=EJ r;refine⟨a,vs,rfl, .inl ⟨.inl (.inl b),λl hl=> ?_⟩⟩;have s:=C9.lay (o:= .tup vs) va.tp hl;exact k _ _ T _ s (.tup (.inl Aj) (c.stp s va)) h
def kdOf:PV->zt Kd
 | .non=>some .non | .bl _=>some .bl | .int _=>some .int | .str _=>some .str | .tup _=>some .tup | .lst _=>some .lst | .tape=>none | .scr _=>none | .ty _=>none | .dct _=>none | .dk _=>none
def aK:AF:=λxs Q=>match xs with | [x, .ty T] =>Hj T/\(match kdOf x with | some k=>Q (.bl (HU k T))|none=>False)|_=>False
def cK:B4 X (.builtin "isinstance") (kY X.K)/\EZ X.K (kY X.K) aK:=by
 refine⟨Z8,λT M H e xs Q f va r h k=> ?_⟩;unfold aK at h;split at h <;> first | exact h.elim|skip
 rename_i x ty;obtain⟨a,h⟩:=h;cases r with
 | cons r t=>
   cases t with
   | cons d t=>
     cases t;cases d;cases r with
     | non=>exact⟨_,_, .non,rfl,a,rfl,k _ _ T H (.refl va.tp) (.bl _) h⟩
     | bl b=>exact⟨_,_, .bl,rfl,a,⟨_,rfl⟩,k _ _ T H (.refl va.tp) (.bl _) h⟩
     | int b=>exact⟨_,_, .int,rfl,a,⟨_,rfl⟩,k _ _ T H (.refl va.tp) (.bl _) h⟩
     | str b=>exact⟨_,_, .str,rfl,a,⟨_,rfl⟩,k _ _ T H (.refl va.tp) (.bl _) h⟩
     | ty b=>exact h.elim
     | tup c _=>exact⟨_,_, .tup,rfl,a,⟨_,_,rfl,c.sq⟩,k _ _ T H (.refl va.tp) (.bl _) h⟩
     | lst c _ _ _=>exact⟨_,_, .lst,rfl,a,⟨_,_,rfl, .inl (.inl c)⟩,k _ _ T H (.refl va.tp) (.bl _) h⟩
     | tape _=>exact h.elim
     | scr _=>exact h.elim
     | dct _ _ _=>exact h.elim
     | dk _ _=>exact h.elim
def GZ:zy PV->zt (zy kn)
 | [] =>some []
 | .bl b::r=>(GZ r).map (b :: ·)
 | _=>none
theorem Wn {K:AAB}{T M:zu->Prop}{H:Hp}:∀{vs:zy V} {xs:zy PV} {bs:zy kn},Ax K T M H vs xs->GZ xs=some bs->vs=bs.map V.bl
 | _,_,_, .nil,e=>by simp[GZ] at e;subst e;rfl
 | _,_,bs, .cons h t,e=>by cases h <;> simp[GZ] at e;obtain⟨c,a,b⟩:=e;subst b;simp[Wn t a]
def TX (g:zy kn->kn):AF:=λxs Q=>match xs with | [.lst ys] =>(match GZ ys with | some bs=>Q (.bl (g bs))|none=>False)|_=>False
def Xj {g:zy kn->kn}:EZ X.K (V5 X.K g) (TX g):=by
 intro T M H d xs Q f va r h k;unfold TX at h;split at h <;> first | exact h.elim|skip
 split at h <;> first | exact h.elim|skip
 rename_i bs e;cases r with
 | cons r t=> cases t;obtain⟨a,i,rfl,b,_,_,c⟩:=EJ r;have:=Wn c e;subst this;exact⟨a,bs,rfl, .inl (.inl b),k _ _ T H (.refl va.tp) (.bl _) h⟩
def cJ (hc:X.calm=true):B4 X (.builtin "all") (V5 X.K λbs=>bs.all id)/\EZ X.K (V5 X.K λbs=>bs.all id) (TX λbs=>bs.all id):=⟨YF hc,Xj⟩
def kz (hc:X.calm=true):B4 X (.builtin "any") (V5 X.K λbs=>bs.any id)/\EZ X.K (V5 X.K λbs=>bs.any id) (TX λbs=>bs.any id):=⟨YG hc,Xj⟩
def cN:PV->PV->zt kn
 | .non, .non=>some true | .non, .int _=>some false | .int _, .non=>some false | .non, .bl _=>some false | .bl _, .non=>some false | .non, .str _=>some false | .str _, .non=>some false
 | .int i, .int j=>some (decide (i=j)) | .bl i, .bl j=>some (decide (i=j)) | .str i, .str j=>some (decide (i=j))
 | .int _, .str _=>some false | .str _, .int _=>some false | .bl _, .str _=>some false | .str _, .bl _=>some false
 | _,_=>none
def UX {K:AAB}{T M:zu->Prop}{H:Hp}{u v:V}{x y:PV}{b:kn}(r:Cs K T M H u x)(a:Cs K T M H v y)(e:cN x y=some b):lC u v=true/\decide (u=v)=b:=by cases r <;> cases a <;> first | (cases e;done)|(cases e;exact⟨rfl,rfl⟩)|(cases e;exact⟨rfl,by simp⟩)
end
structure GI where
 nx:BA->Prop
 rt:PV->Prop
 bk:BA->Prop
 ct:BA->Prop
abbrev AS:=GI->BA->Prop
structure E9 (T:Addr->Prop) (H:Hp) (σ:L2.St) (τ:BA) (T':Addr->Prop) (H':Hp) (σ':L2.St) (τ':BA):Prop where
 keep:∀b o,¬T b->¬Cd σ τ b->H b=some o->H' b=some o
 sub:∀b,T b->T' b
 new:∀b,T' b->T b\/H b=none
 own:∀b,Cd σ' τ' b->Cd σ τ b\/H b=none
 some:∀b,H b≠none->H' b≠none
section
variable {K:AAB}{B:Cz}{T T' T1 T2:zu->Prop}{H H' H1 H2:Hp}{σ σ' σ1 σ2:L2.St}{τ τ' τ1 τ2:BA}
def E9.refl:E9 T H σ τ T H σ τ:=⟨λ_ _ _ _ e=>e,λ_ t=>t,λ_ t=> .inl t,λ_ o=> .inl o,λ_ h=>h⟩
def E9.trans (a:E9 T H σ τ T1 H1 σ1 τ1)(b:E9 T1 H1 σ1 τ1 T2 H2 σ2 τ2):E9 T H σ τ T2 H2 σ2 τ2 where
 keep:=λc o t w e=>b.keep c o (λz=>(a.new c z).elim t λn=>by rw[n] at e;cases e) (λz=>(a.own c z).elim w λn=>by rw[n] at e;cases e) (a.keep c o t w e)
 sub:=λc t=>b.sub c (a.sub c t)
 new:=λc t=>(b.new c t).elim (λz=>a.new c z) λz=> .inr (by
  cases e:H c with
  | none=>rfl
  | some o=>exact absurd z (a.some c (by rw[e];exact λe=>nomatch e)))
 own:=λc t=>(b.own c t).elim (λz=>a.own c z) λz=> .inr (by
  cases e:H c with
  | none=>rfl
  | some o=>exact absurd z (a.some c (by rw[e];exact λe=>nomatch e)))
 some:=λc h=>b.some c (a.some c h)
def C9.prog (s:C9 T H T' H'):E9 T H σ τ T' H' σ τ:=⟨λb o t _ e=>s.keep b o t e,s.sub,s.new,λ_ o=> .inl o,λ_ h=>s.some h⟩
def E9.less (h:∀b,Cd σ' τ' b->Cd σ τ b):E9 T H σ τ T H σ' τ':=⟨λ_ _ _ _ e=>e,λ_ t=>t,λ_ t=> .inl t,λb o=> .inl (h b o),λ_ h=>h⟩
structure ER (K:AAB) (B:Cz) (T:Addr->Prop) (H:Hp) (σ:L2.St) (τ:BA) (D:Qx) (AD:GI):Prop where
 nx:∀T' H' σ' τ',E9 T H σ τ T' H' σ' τ'->SR K B T' H' σ' τ'->AD.nx τ'->D.nx σ' H'
 bk:∀T' H' σ' τ',E9 T H σ τ T' H' σ' τ'->SR K B T' H' σ' τ'->AD.bk τ'->D.bk σ' H'
 ct:∀T' H' σ' τ',E9 T H σ τ T' H' σ' τ'->SR K B T' H' σ' τ'->AD.ct τ'->D.ct σ' H'
 rt:∀v x T' H',C9 B.T B.H T' H'->Cs K T' B.M H' v x->AD.rt x->D.rt v H'
def ER.shift {D:Qx}{a:GI}(e:ER K B T H σ τ D a)(p:E9 T H σ τ T1 H1 σ1 τ1):ER K B T1 H1 σ1 τ1 D a:=
 ⟨λ_ _ _ _ q=>e.nx _ _ _ _ (p.trans q),λ_ _ _ _ q=>e.bk _ _ _ _ (p.trans q),λ_ _ _ _ q=>e.ct _ _ _ _ (p.trans q),e.rt⟩
end
def Zu (K:AAB)(t:TS)(a:AS):Prop:=∀(B:Cz) (T:zu->Prop) (b:L2.St) (τ:BA) (H:Hp) (D:Qx) (c:GI),SR K B T H b τ->a c τ->ER K B T H b τ D c->t D b H
def SS (X:Cx)(st:Stmt)(a:AS):Prop:=∃t,PS X st t/\Zu X.K t a
def YA (X:Cx)(st:zy Stmt)(a:AS):Prop:=∃t,S4 X st t/\Zu X.K t a
def BF {a:Type}{l:zy a}{i j:Nat}{x y:a}(h:(l.set i x)[j]? =some y):(j=i/\y=x/\i<l.length)\/(j≠i/\l[j]? =some y):=by
 by_cases e:j=i
 .subst e;rw[AC2] at h;simp at h;obtain⟨h1,h2⟩:=h;exact .inl ⟨rfl,h2.symm,h1⟩
 .rw [AAb (λz=>e z.symm)] at h;exact .inr ⟨e,h⟩
section
variable {K:AAB}{B:Cz}{T:zu->Prop}{H:Hp}{σ:L2.St}{τ:BA}
def Ce {i:Nat}{v:V}{x:PV}{b:zu}(h:Cd (σ.set i (some v)) (τ.set i (some (.val x))) b):Cd σ τ b:=by
 obtain⟨j,xs,h1,h2⟩:=h;rcases BF h1 with⟨_,e,_⟩|⟨n,a⟩
 .cases e
 .rw [AAb (λz=>n z.symm)] at h2;exact⟨j,xs,a,h2⟩
def SR.set {i:Nat}{v:V}{x:PV}(s:SR K B T H σ τ)(r:Cs K T (mt B σ τ) H v x):SR K B T H (σ.set i (some v)) (τ.set i (some (.val x))):=by
 have c:Mv K T (mt B σ τ) H T (mt B (σ.set i (some v)) (τ.set i (some (.val x)))) H:= .anti s.va λa m=>m.elim .inl λz=> .inr (Ce z);refine⟨by simp[s.len],λj y e=> ?_,λj d e=> ?_,λj k d t p u A l o=> ?_,s.tp,s.bm,s.bt,s.st⟩
 .rcases BF e with⟨rfl,b,hl⟩|⟨n,b⟩
  .cases b;refine⟨v,by rw[AC2];simp[s.len,hl],r.mv c⟩
  .obtain ⟨w,hw,f⟩:=s.val j y b;exact⟨w,by rw[AAb (λz=>n z.symm)];exact hw,f.mv c⟩
 .rcases BF e with⟨_,b,_⟩|⟨n,b⟩
  .cases b
  .obtain ⟨p,vs,h1,h2,h3,C⟩:=s.own j d b;exact⟨p,vs,by rw[AAb (λz=>n z.symm)];exact h1,h2,h3.mv c,C⟩
 .rcases BF u with⟨_,b,_⟩|⟨n,g⟩
  .cases b
  .rcases BF A with⟨_,b,_⟩|⟨D,h⟩
   .cases b
   .rw [AAb (λz=>n z.symm)] at l;rw[AAb (λz=>D z.symm)] at o;exact s.dist j k d t p g h l o
def LD {i:Nat}{p:zu}{xs:zy PV}{b:zu}(h:Cd (σ.set i (some (.ref p))) (τ.set i (some (.own xs))) b):Cd σ τ b\/b=p:=by
 obtain⟨j,a,h1,h2⟩:=h;rcases BF h1 with⟨rfl,e,_⟩|⟨n,c⟩
 .rcases BF h2 with⟨_,d,_⟩|⟨n,_⟩
  .cases d;exact .inr rfl
  .exact absurd rfl n
 .rw [AAb (λz=>n z.symm)] at h2;exact .inl ⟨j,a,c,h2⟩
def SR.take {i:Nat}{p:zu}{vs:zy V}{xs:zy PV}(s:SR K (B.add p) T H σ τ)(hp:H p=some (.lst vs))(D:¬T p)(v:¬Cd σ τ p)(E:¬B.M p)(F:B.H p=none)(r:Ax K T (mt (B.add p) σ τ) H vs xs):SR K B T H (σ.set i (some (.ref p))) (τ.set i (some (.own xs))):=by
 have l:Mv K T (mt (B.add p) σ τ) H T (mt B (σ.set i (some (.ref p))) (τ.set i (some (.own xs)))) H:= .anti s.va λa m=>by
  rcases m with m|m
  .exact .inl (.inl m)
  .rcases LD m with z|z
   .exact .inr z
   .exact .inl (.inr z)
 refine⟨by simp[s.len],λj y e=> ?_,λj g e=> ?_,λj k g x q G A h d=> ?_,s.tp,λa m=>s.bm a (.inl m),λa m=>s.bt a (.inl m),s.st⟩
 .rcases BF e with⟨_,b,_⟩|⟨n,b⟩
  .cases b
  .obtain ⟨w,hw,o⟩:=s.val j y b;exact⟨w,by rw[AAb (λz=>n z.symm)];exact hw,o.mv l⟩
 .rcases BF e with⟨rfl,b,hl⟩|⟨n,b⟩
  .cases b;exact⟨p,vs,by rw[AC2];simp[s.len,hl],hp,r.mv l,F,D,E⟩
  .obtain ⟨q,I,h1,h2,h3,J,L,N⟩:=s.own j g b;exact⟨q,I,by rw[AAb (λz=>n z.symm)];exact h1,h2,h3.mv l,J,L,λz=>N (.inl z)⟩
 .rcases BF G with⟨C,_,_⟩|⟨n,f⟩
  .rcases BF A with⟨t,_,_⟩|⟨u,c⟩
   .rw [C,t]
   .subst C;rw[AAb (λz=>u z.symm)] at d;rcases BF h with⟨_,b,_⟩|⟨n,_⟩
    .cases b;exact absurd ⟨k,x,c,d⟩ v
    .exact absurd rfl n
  .rw [AAb (λz=>n z.symm)] at h;rcases BF A with⟨t,_,_⟩|⟨u,c⟩
   .subst t;rcases BF d with⟨_,b,_⟩|⟨n,_⟩
    .cases b;exact absurd ⟨j,g,f,h⟩ v
    .exact absurd rfl n
   .rw [AAb (λz=>u z.symm)] at d;exact s.dist j k g x q f c h d
def SR.write {i:Nat}{p:zu}{N vs:zy V}{xs l:zy PV}(s:SR K B T H σ τ)(g:τ[i]? =some (some (.own xs)))(hs:σ[i]? =some (some (.ref p)))(hp:H p=some (.lst N))(r:Ax K T (mt B σ τ) H vs l):SR K B T (upd H p (.lst vs)) σ (τ.set i (some (.own l)))/\E9 T H σ τ T (upd H p (.lst vs)) σ (τ.set i (some (.own l))):=by
 obtain⟨S,O,I,U,W,J,E,L⟩:=s.own i xs g;rw[hs] at I;cases I;have X:σ.set i (some (.ref p))=σ:=by
  apply List.ext_getElem?;intro k;by_cases hk:i=k
  .subst hk;rw[AC2,hs];simp[(AAz.mp hs).1]
  .rw [AAb hk]
 have u:Cd σ τ p:=⟨i,xs,g,hs⟩;have M:∀b,Cd σ (τ.set i (some (.own l))) b->Cd σ τ b:=λb h=>by
  obtain⟨j,f,h1,h2⟩:=h;rcases BF h1 with⟨rfl,e,_⟩|⟨n,C⟩
  .exact ⟨j,xs,g,h2⟩
  .exact ⟨j,f,C,h2⟩
 have F:Mv K T (mt B σ τ) H T (mt B σ (τ.set i (some (.own l)))) (upd H p (.lst vs)):=⟨s.va,λb o _ m e=>by
  rw[Ag (λz=>m (by subst z;exact .inr u))];exact e,λ_ t=>t,λ_ _ t=>t,λb _ m=>m.elim .inl λz=> .inr (M b z)⟩
 refine⟨⟨by simp[s.len],λj y e=> ?_,λj f e=> ?_,λj k f D q h1 h2 h3 A=> ?_,λa t=> ?_,λa m=> ?_,s.bt, ?_⟩,⟨λb o t w e=>by rw[Ag (λz=>w (by subst z;exact u))];exact e,λ_ t=>t,λ_ t=> .inl t,λb o=> .inl (M b o),λb h=> ?_⟩⟩
 .rcases BF e with⟨_,c,_⟩|⟨n,c⟩
  .cases c
  .obtain ⟨v,h,P⟩:=s.val j y c;exact⟨v,h,P.mv F⟩
 .rcases BF e with⟨rfl,c,_⟩|⟨n,c⟩
  .cases c;exact⟨p,vs,hs,Aj,r.mv F,J,E,L⟩
  .obtain ⟨q,D,h1,h2,h3,A⟩:=s.own j f c;have Q:q≠p:=λz=>by subst z;exact n (s.dist j i f xs q c g h1 hs)
   exact⟨q,D,h1,by rw[Ag Q];exact h2,h3.mv F,A⟩
 .rcases BF h1 with⟨rfl,_,_⟩|⟨n,C⟩
  .rcases BF h2 with⟨rfl,_,_⟩|⟨R,G⟩
   .rfl
   .exact s.dist _ k xs D q g G h3 A
  .rcases BF h2 with⟨rfl,_,_⟩|⟨R,G⟩
   .exact s.dist j _ f xs q C g h3 A
   .exact s.dist j k f D q C G h3 A
 .obtain ⟨d,x,e,z⟩:=s.tp a t;exact⟨d,x,by rw[Ag (λw=>by subst w;exact E t)];exact e,z⟩
 .obtain ⟨o,e,z⟩:=s.bm a m;exact⟨o,by rw[Ag (λw=>by subst w;exact L m)];exact e,z⟩
 .refine ⟨λb o t e=> ?_,s.st.sub,s.st.new,λa t=> ?_⟩
  .rw [Ag (λw=>by subst w;rw[J] at e;cases e)];exact s.st.keep b o t e
  .obtain ⟨d,x,e,z⟩:=s.tp a t;exact⟨d,x,by rw[Ag (λw=>by subst w;exact E t)];exact e,z⟩
 .by_cases z:b=p
  .subst z;rw[Aj];exact λe=>nomatch e
  .rw [Ag z];exact h
end
section
variable {X:Cx}{st:Stmt}{rest:zy Stmt}{e:zr}{pos:Pos}{a b:AS}{ta:AE}
def dm (ta:AE):AE:=λτ Q=>ta (frz τ) λx=>dM x=true/\Q x
def lD (h:SE X e ta):SE X e (dm ta):=by obtain⟨t,p,s⟩:=h;refine⟨t,p,λB T c τ H Q i d h k=>s B T c (frz τ) H _ _ d.frz h λv x T1 H1 f g h1=> ?_⟩;exact k v x T1 H1 f (g.free h1.1) h1.2
def BE:AS:=λD τ=>D.nx τ
def Ab (a b:AS):AS:=λD τ=>a {D with nx:=b D} τ
def Az:YA X [] BE:=⟨_,Rx,λB T c τ H D g d h f=>f.nx T H c τ .refl d h⟩
def AM (h1:SS X st a)(h2:YA X rest b):YA X (st::rest) (Ab a b):=by obtain⟨t,p,s⟩:=h1;obtain⟨t',f,g⟩:=h2;exact⟨_,Cf p f,λB T i τ H D j k h c=>s B T i τ H _ _ k h ⟨λl m σ' τ' q d h'=>g B l σ' τ' m D j d h' (c.shift q),c.bk,c.ct,c.rt⟩⟩
def AR (h1:SS X st a):YA X [st] a:=let ⟨_,p,s⟩:=h1;⟨_,HI p,s⟩
def Ao (ta:AE):AS:=λD τ=>ta (frz τ) D.rt
def AW (h:SE X e ta):SS X (.Return (some e) pos) (Ao ta):=by obtain⟨t,p,s⟩:=h;refine⟨_,Rv p,λB T f τ H D j c h g=>s B T f (frz τ) H _ _ c.frz h λv x T1 H1 d i h1=> ?_⟩;exact g.rt v x T1 H1 (c.st.trans d) (i.mv (.anti (c.frz.stp d).va λa m=> .inl m)) h1
def B3 (c:AT)(a b:AS):AS:=λD τ=>c τ λk=>if k=true then a D τ else b D τ
def BG {c:zr}{x y:zy Stmt}{l:AT}(hc:Wh X c l)(ha:YA X x a)(hb:YA X y b):SS X (.If c x y pos) (B3 l a b):=by
 obtain⟨t,p,s⟩:=hc;obtain⟨u,o,f⟩:=ha;obtain⟨t2,r,g⟩:=hb;refine⟨_,cB p o r,λB T i τ H D m j h n=>s B T i τ H _ _ j h λk T1 H1 d h1=> ?_⟩;cases k with
 | true=>rw[AAE rfl] at h1 ⊢;exact f B T1 i τ H1 D m (j.stp d) h1 (n.shift d.prog)
 | false=>rw[AAC AAT] at h1 ⊢;exact g B T1 i τ H1 D m (j.stp d) h1 (n.shift d.prog)
abbrev AG:=PV->BA->(BA->Prop)->Prop
abbrev Ur:=zy PV->BA->(BA->Prop)->Prop
def Q3 (K:AAB)(g:TG)(f:AG):Prop:=∀(B:Cz) (T:zu->Prop) (c:L2.St) (τ:BA) (H:Hp) (v:V) (x:PV) (Q:L2.St->Hp->Prop) (d:BA->Prop),SR K B T H c τ->Cs K T (mt B c τ) H v x->f x τ d->
 (∀σ' τ',SR K B T H σ' τ'->(∀b,Cd σ' τ' b->Cd c τ b)->d τ'->Q σ' H)->g v c H Q
def Po (K:AAB)(g:U9)(f:Ur):Prop:=∀(B:Cz) (T:zu->Prop) (c:L2.St) (τ:BA) (H:Hp) (vs:zy V) (xs:zy PV) (Q:L2.St->Hp->Prop) (d:BA->Prop),SR K B T H c τ->Ax K T (mt B c τ) H vs xs->f xs τ d->
 (∀σ' τ',SR K B T H σ' τ'->(∀b,Cd σ' τ' b->Cd c τ b)->d τ'->Q σ' H)->g vs c H Q
def SG (X:Cx)(c:zr)(d:AG):Prop:=∃g,PG X c g/\Q3 X.K g d
def qH (X:Cx)(c:zy zr)(d:Ur):Prop:=∃g,l8 X c g/\Po X.K g d
def Ar (i:Nat):AG:=λx τ Q=>Q (τ.set i (some (.val x)))
def SQ {K:AAB}{i:Nat}:Q3 K (C5 i) (Ar i):=λB T d τ H v x Q f c r h k=>k _ _ (c.set r) (λb o=>Ce o) h
def SL {i:Nat}{x:Str}(hN:X.N.Nodup)(hi:X.N[i]? =some x)(hx:Loc X.env.scope x)(c:X.fn x=true\/X.env.scope.names.lookup x=some .local:=by first | exact .inl rfl|exact .inr rfl|assumption):SG X (.Name x pos) (Ar i):=
 ⟨_,HH hN hi hx c,SQ⟩
def BY:Ur:=λxs τ Q=>match xs with | [] =>Q τ|_=>False
def Ad (g:AG)(r:Ur):Ur:=λxs τ Q=>match xs with | x::t=>g x τ λτ'=>r t τ' Q | [] =>False
def UY {K:AAB}:Po K RF BY:=λB T c τ H vs xs Q f d r h k=>by
 cases r with
 | nil=>exact⟨rfl,k c τ d (λ_ o=>o) h⟩
 | cons _ _=>exact h.elim
def QU {K:AAB}{g:TG}{p:U9}{s:AG}{c:Ur}(h1:Q3 K g s)(h2:Po K p c):Po K (FQ g p) (Ad s c):=λB T w τ H vs xs Q x u r h k=>by
 cases r with
 | nil=>exact h.elim
 | cons r t=> refine⟨_,_,rfl,h1 B T w τ H _ _ _ _ u r h λd f i v y=> ?_⟩;exact h2 B T d f H _ _ Q x i (t.mv (.anti u.va λa m=>m.elim .inl λz=> .inr (v a z))) y λj l n A C=>k j l n (λb o=>v b (A b o)) C
def BO:qH X [] BY:=⟨_,MA,UY⟩
def Aa {es:zy zr}{d:AG}{c:Ur}(h1:SG X e d)(h2:qH X es c)(hs:(assignEach (e::es) X.env).map (·.2)=assign e X.env::(assignEach es X.env).map (·.2):=by rfl):qH X (e::es) (Ad d c):=
 let ⟨_,p,s⟩:=h1;let ⟨_,f,g⟩:=h2;⟨_,FS p f hs,QU s g⟩
def An (ta:AE)(g:AG):AS:=λD τ=>ta τ λx=>g x τ D.nx
def SN {K:AAB}{t:TE}{g:TG}{i:AG}(s:HR K t ta)(m:Q3 K g i):Zu K (WP t g) (An ta i):=λB T j τ H D u k h n=>s B T j τ H _ _ k h λv x T1 H1 l o h1=>
 m B T1 j τ H1 v x _ _ (k.stp l) o h1 λc d f p r=>n.nx T1 H1 c d (l.prog.trans (.less p)) f r
def Eo {c:zr}{d:AG}(he:SE X e ta)(f:SG X c d)(hs:swapsWithSole [c] e pos.line X.env=pure false:=by rfl)(hw:swappedStores [c] e X.env=pure none:=by rfl)(h1:(assignEach [c] X.env).map (·.2)= [assign c X.env] :=by rfl):SS X (.Assign [c] e pos) (An ta d):=
 let ⟨_,p,s⟩:=he;let ⟨_,g,h⟩:=f;⟨_,Ru p g hs hw h1,SN s h⟩
def FH {i:Nat}{x:Str}{pos':Pos}(hN:X.N.Nodup)(hi:X.N[i]? =some x)(hx:Loc X.env.scope x)(he:SE X e ta)(hs:swapsWith e (some (.Name x pos')) pos.line X.env=pure false:=by rfl)(c:X.fn x=true\/X.env.scope.names.lookup x=some .local:=by first | exact .inl rfl|exact .inr rfl|assumption):SS X (.Assign [.Name x pos'] e pos) (An ta (Ar i)):=let ⟨_,p,s⟩:=he;⟨_,IJ hN hi hx p hs c,SN s SQ⟩
def Le (r:AA)(i:Nat):AS:=λD τ=>r τ λxs=>D.nx (τ.set i (some (.own xs)))
def Xk {K:AAB}{t:TE}{r:AA}{i:Nat}(s:di K t r):Zu K (WP t (C5 i)) (Le r i):=λB T j τ H D v c h k=>s B T j τ H _ _ c h λp vs xs T1 H1 d g f hp l m h1=>by
 have n:¬Cd j τ p:=λo=>by obtain⟨_,e,_⟩:=c.ownH o;rw[f] at e;cases e
 have u:¬B.M p:=λo=>by obtain⟨_,e,_⟩:=c.bm p o;rw[f] at e;cases e
 refine k.nx T1 H1 _ _ ⟨λb o t _ e=>d.keep b o t e,d.sub,d.new,λb o=> ?_,λb h=>d.some h⟩ (g.take hp l n u (c.st.none f) m) h1;rcases LD o with z|z
 .exact .inl z
 .subst z;exact .inr f
def Kg {i:Nat}{x:Str}{pos':Pos}{r:AA}(hN:X.N.Nodup)(hi:X.N[i]? =some x)(hx:Loc X.env.scope x)(he:SF X e r)(hs:swapsWith e (some (.Name x pos')) pos.line X.env=pure false:=by rfl)(c:X.fn x=true\/X.env.scope.names.lookup x=some .local:=by first | exact .inl rfl|exact .inr rfl|assumption):SS X (.Assign [.Name x pos'] e pos) (Le r i):=let ⟨_,p,s⟩:=he;⟨_,IJ hN hi hx p hs c,Xk s⟩
def S7 (i j:Nat)(r:AA):AS:=λD τ=>r τ λxs=>match xs with | [x,y] =>D.nx ((τ.set i (some (.val x))).set j (some (.val y)))|_=>False
def SY {i j:Nat}{x y:Str}{c d:zr}{r:AA}{g k l:Pos}{kt k2 pt2}(hc:X.calm=true)(hN:X.N.Nodup)(hi:X.N[i]? =some x)(hj:X.N[j]? =some y)(v:i≠j)(hx:X.env.scope.names.lookup x=some .local)(w:X.env.scope.names.lookup y=some .local)(ha:SA X [c,d] r)(hw:swappedStores [.Tuple [.Name x g, .Name y k] kt l] (.Tuple [c,d] k2 pt2) X.env=pure (some [x,y]))(hs:swapsWithSole [.Tuple [.Name x g, .Name y k] kt l] (.Tuple [c,d] k2 pt2) pos.line X.env=pure false:=by rfl):SS X (.Assign [.Tuple [.Name x g, .Name y k] kt l] (.Tuple [c,d] k2 pt2) pos) (S7 i j r):=by
 obtain⟨t,p,s⟩:=ha;refine⟨_,kQ hc hN hi hj v hx w p hw hs,λB T A τ H D I n h C=>s B T A τ H _ _ n h λvs xs T1 H1 u E h1=> ?_⟩;cases E with
 | nil=>exact h1.elim
 | cons ra ta=>
   cases ta with
   | nil=>exact h1.elim
   | cons F G=>
     cases G with
     | cons _ _=>exact h1.elim
     | nil=> have f:=n.stp u;refine⟨_,_,rfl,C.nx T1 H1 _ _ ?_ ((f.set (i:=i) ra).set (i:=j) (F.mv (.anti f.va λa m=>m.elim .inl λz=> .inr (Ce z)))) h1⟩;exact u.prog.trans (.less λb o=>Ce (Ce o))
def VA (i:Nat)(f:HQ)(ta:AE):AS:=λD τ=>match Se τ i with | some (.val x)=>ta τ λy=>f x y λz=>D.nx (τ.set i (some (.val z)))|_=>False
def ca {i:Nat}{x:Str}{op:Operator}{g:iy}{f:HQ}{pos':Pos}(hN:X.N.Nodup)(hi:X.N[i]? =some x)(hx:Loc X.env.scope x)(he:SE X e ta)(j:l9 X op g/\Bs X.K g f)(l:X.fn x=true\/X.env.scope.names.lookup x=some .local:=by first | exact .inl rfl|exact .inr rfl|assumption):SS X (.AugAssign (.Name x pos') op e pos) (VA i f ta):=by
 obtain⟨t,p,s⟩:=he;refine⟨_,kP hN hi hx p j.1 l,λB T m τ H D I c h n=> ?_⟩;unfold VA at h;split at h <;> first | exact h.elim|skip
 rename_i y r;obtain⟨v,A,rv⟩:=c.val i y (Nm r);refine⟨v,A,s B T m τ H _ _ c h λw z T1 H1 d C h1=> ?_⟩;refine j.2 T1 _ H1 v w y z _ _ (c.stp d).va (rv.stp d c.va) C h1 λu q E F k G h2=> ?_;exact n.nx E F _ _ ((d.trans k).prog.trans (.less λb o=>Ce o)) (((c.stp d).stp k).set G) h2
def Lf (i:Nat)(τ:BA)(R:zy PV->Prop):Prop:=match Se τ i with | some (.own xs)=>R xs|_=>False
def Q4 {i:Nat}{τ:BA}{R:zy PV->Prop}(h:Lf i τ R):∃xs,τ[i]? =some (some (.own xs))/\R xs:=by
 unfold Lf at h;cases e:Se τ i with
 | none=>rw[e] at h;exact h.elim
 | some z=>
   rw[e] at h;cases z with
   | val x=>exact h.elim
   | own xs=>exact⟨xs,Nm e,h⟩
abbrev l7:=zy PV->zy PV->(zy PV->Prop)->Prop
def ir (K:AAB)(r:V->zy V->Hp->VK->Prop)(f:l7):Prop:=∀(T M:zu->Prop) (H:Hp) (l:zu) (g vs:zy V) (xs h:zy PV) (Q:VK) (i:zy PV->Prop),H l=some (.lst g)->Ax K T M H g xs->Ax K T M H vs h->f xs h i->
 (∀c d,Ax K T M H c d->i d->Q .non (upd H l (.lst c)))->r (.ref l) vs H Q
def GX (i:Nat)(f:l7)(r:AA):AS:=λD τ=>Lf i τ λxs=>r τ λc=>f xs c λd=>D.nx (τ.set i (some (.own d)))
def cY {K:AAB}{i:Nat}{l:V->zy V->Hp->VK->Prop}{f:l7}{t:TA}{r:AA}(u:ir K l f)(s:iq K t r):Zu K (iU (vX K "list" l (IY i) t)) (GX i f r):=λB T m τ H D E d h v=>by obtain⟨xs,e,h⟩:=Q4 h;obtain⟨p,vs,n,hp,w,F,o,G⟩:=d.own i xs e;refine⟨.ref p,n, .inl ⟨rfl,vs, .inl (.inl hp)⟩,s B T m τ H _ _ d h λx y T1 H1 c z h2=> ?_⟩;have g:=d.stp c;refine u T1 (mt B m τ) H1 p vs x xs y _ _ (c.keep _ _ o hp) (w.stp c d.va) z h2 λA I C h3=> ?_;obtain⟨j,k⟩:=g.write (i:=i) (xs:=xs) e n (c.keep _ _ o hp) C;exact v.nx T1 _ _ _ (c.prog.trans k) j h3
def F7 {i:Nat}{x name:Str}{es:zy zr}{id:String}{d:V->zy V->Hp->VK->Prop}{f:l7}{r:AA}{p apos c:Pos}(slot:Slot "list" name id)(h:typeOf (.builtin id)=pure (.type "method_descriptor"))(g:rE X id d/\ir X.K d f)(ha:SA X (e::es) r)(hN:X.N[i]? =some x:=by rfl)(hv:gy X.env.scope x:=by first | exact Or.inl rfl|exact Or.inr (Or.inl rfl)|exact Or.inr (Or.inr rfl))(hd:(x==("__debug__" :Str))=false:=by decide)(j:(x==("__classdict__" :Str))=false:=by decide)(k:attributeBase (.Name x p) name X.env (eval (.Name x p) X.env)=eval (.Name x p) X.env:=by rfl)(l:((backTo c (starEach (e::es) X.env)).all (λx=> !x.1)&&(backToKw c (keywordEach [] X.env)).all (λx=>x.1.isSome) && decide ((e::es).length+([] :zy Keyword).length+(if ([] :zy Keyword).isEmpty then 0 else 1)<30))=true:=by rfl)(m:(apos.endLine==c.line)=true:=by rfl)(hs:starEach (e::es) X.env=(false,eval e X.env)::starEach es X.env:=by rfl)(n:(backTo c (starEach es X.env)).any (·.1)=false:=by rfl)(o:swapsWith (.Call (.Attribute (.Name x p) name apos) (e::es) [] c) none pos.line X.env=pure false:=by rfl):SS X (.Expr (.Call (.Attribute (.Name x p) name apos) (e::es) [] c) pos) (GX i f r):=by obtain⟨t,u,s⟩:=ha;exact⟨_,fo (oS PySem.F.plainAttrs_list slot h g.1 (Ny hN hv hd j) u k l m hs n) o,cY g.2 s⟩
def Ng:l7:=λxs c Q=>match c with | [y] =>xs.length<sizeLine/\Q (xs ++ [y])|_=>False
def Du:rE X "list.append" Rz/\ir X.K Rz Ng:=by
 refine⟨QI,λT M H l d vs xs i Q j hl c f h k=> ?_⟩;unfold Ng at h;split at h <;> first | exact h.elim|skip
 cases f with
 | cons g t=> cases t;exact⟨l,d,_,rfl,rfl,hl,by rw[c.length];exact h.1,k _ _ (c.append (.cons g .nil)) h.2⟩
def qc (o:zt Nat)(R:Nat->Prop):Prop:=match o with | some j=>R j|none=>False
def jy {o:zt Nat}{R:Nat->Prop}(h:qc o R):∃z,o=some z/\R z:=by cases o <;> first | exact⟨_,rfl,h⟩|exact h.elim
def i4 (i:Nat)(c ta:AE):AS:=λD τ=>ta τ λy=>Lf i τ λxs=>c τ λk=>Sf k λk=>qc (XI xs.length k) λj=>D.nx (τ.set i (some (.own (xs.set j y))))
def lS {i:Nat}{x:Str}{ix:zr}{u:AE}{p c:Pos}(hi:SE X ix u)(he:SE X e ta)(hN:X.N[i]? =some x:=by rfl)(hv:gy X.env.scope x:=by first | exact Or.inl rfl|exact Or.inr (Or.inl rfl)|exact Or.inr (Or.inr rfl))(hd:(x==("__debug__" :Str))=false:=by decide)(I:(x==("__classdict__" :Str))=false:=by decide)(ha:∀v,assign (.Subscript (.Name x p) ix c) X.env v=(do
   let g <-holding [v] (eval (.Name x p) X.env);let l <-holding [v,g] (eval ix X.env)
   standAt c
   holding [v,g,l] (setItem g l v)
   release [v,g,l] []):=by intro _;rfl)(hs:swapsWithSole [.Subscript (.Name x p) ix c] e pos.line X.env=pure false:=by rfl)(hw:swappedStores [.Subscript (.Name x p) ix c] e X.env=pure none:=by rfl)(h1:(assignEach [.Subscript (.Name x p) ix c] X.env).map (·.2)= [assign (.Subscript (.Name x p) ix c) X.env] :=by rfl):SS X (.Assign [.Subscript (.Name x p) ix c] e pos) (i4 i u ta):=by obtain⟨t,J,s⟩:=hi;obtain⟨t',m,K⟩:=he;refine⟨_,Ru m (V0 (Ny hN hv hd I) J Jb ha) hs hw h1,λB T z τ H D R A h L=>K B T z τ H _ _ A h λv y T1 H1 C M h1=> ?_⟩;have d:=A.stp C;obtain⟨xs,e,h1⟩:=Q4 h1;obtain⟨q,vs,E,hp,F,S,G,U⟩:=d.own i xs e;refine⟨.ref q,E,s B T1 z τ H1 _ _ d h1 λw k O W f P h3=> ?_⟩;obtain⟨k,rfl,h3⟩:=Gf h3;obtain⟨j,Q,h3⟩:=jy h3;cases P.toI;have n:=d.stp f;obtain⟨o,r⟩:=n.write (i:=i) (xs:=xs) e E (f.keep _ _ G hp) (((F.stp f d.va)).set (M.stp f d.va) j);exact⟨q,vs,k,j,rfl,rfl,f.keep _ _ G hp,by rw[F.length];exact Q,L.nx O _ _ _ ((C.trans f).prog.trans r) o h3⟩
end
section
variable {X:Cx}{st:Stmt}{e:zr}{pos:Pos}{a b:AS}{ta:AE}
def Uh (c:AT)(b:AS)(D:GI):Nat->BA->Prop
 | 0,_=>False
 | n+1,τ=>c (frz τ) λk=>if k=true then b {D with nx:=Uh c b D n,ct:=Uh c b D n,bk:=D.nx} τ else D.nx τ
def Q5 (c:AT)(b:AS):AS:=λD τ=>∃n,Uh c b D n τ
def OQ {c:zr}{body:zy Stmt}{v:AT}(hp:PassesOwn (model X.prog X.w) X.A X.env X.xe)(hc:Wh X c v)(hb:YA X body b):SS X (.While c body [] pos) (Q5 v b):=by
 obtain⟨t,p,s⟩:=hc;obtain⟨t',G,I⟩:=hb;refine⟨_,cC hp p G,λB T y τ H D z J h C=> ?_⟩;obtain⟨n,h⟩:=h;refine⟨λm f H1=>∃T1 d,SR X.K B T1 H1 f d/\E9 T H y τ T1 H1 f d/\Uh v b z m d,⟨n,T,τ,J, .refl,h⟩, ?_⟩;rintro m f H1 ⟨T1,d,l,g,h1⟩;cases m with
 | zero=>exact h1.elim
 | succ m=>
   refine s B T1 f (frz d) H1 _ _ l.frz h1 λk E F x h2=> ?_;have o:=l.stp x;have r:=(C.shift g).shift x.prog;cases k with
   | false=>rw[AAC AAT] at h2 ⊢;exact r.nx E F f d .refl o h2
   | true=> rw[AAE rfl] at h2 ⊢;refine⟨λσ' u=>∃j τ',SR X.K B j u σ' τ'/\E9 T H y τ j u σ' τ'/\Uh v b z m τ',λσ' u q=>⟨m,Nat.lt_succ_self m,q⟩, ?_⟩;exact I B E f d F _ _ o h2 ⟨λj u σ' τ' q i h'=>⟨j,τ',i,(g.trans x.prog).trans q,h'⟩,r.nx,λj u σ' τ' q i h'=>⟨j,τ',i,(g.trans x.prog).trans q,h'⟩,C.rt⟩
abbrev AI:=BA->(zy PV->Prop)->Prop
structure U4 (K:AAB) (M:Addr->Prop) (J:It) (xs:List PV) (T:Addr->Prop) (H:Hp):Prop where
 go:∀i y,xs[i]? =some y->J.go i H
 yld:∀i y v H',xs[i]? =some y->J.yld i H v H'->C9 T H T H'/\Cs K T M H' v y
 stop:∀i,xs.length<=i->J.stop i H
def df (T:zu->Prop)(H c:Hp):Prop:=∀b o,¬T b->H b=some o->c b=some o
def m9 (K:AAB)(s:kn)(j:TI)(k:AI):Prop:=∀(B:Cz) (T:zu->Prop) (f:L2.St) (τ:BA) (H:Hp) (R:It->Hp->Prop) (i:zy PV->Prop),SR K B T H f τ->k τ i->
 (∀J xs g c,C9 T H g c->(∀M2 h d,Mv K g (mt B f τ) c h M2 d->K6 h M2 d->(s=true\/df g c d)->U4 K M2 J xs h d)->i xs->R J c)->j f H R
def SI (X:Cx)(d iter:zr)(s:kn)(f:AI):Prop:=∃c,PI X d iter c/\m9 X.K s c f
def sL (K:AAB)(c:TE):TI:=λd H R=>c d H λx H1=>∃a,x= .ref a/\(((∃xs,FO K H1 a xs)/\R (q9 K a) H1)\/((∃xs,M6 K H1 a xs)/\R (rA K a) H1))
def kN {j l:zr}{i:TE}(hl:PE X l i):PI X j l (sL X.K i):=by
 intro k s m H R I h;refine BJ (hl k s m H _ I h) λv c ⟨x,H1,d,n,r⟩=> ?_;obtain⟨a,e,q⟩:=r;subst e;cases n;rcases q with⟨⟨xs,g⟩,q⟩|⟨⟨xs,g⟩,q⟩
 .obtain ⟨f,rv,p,t⟩:=d.list g;refine ACa p.isList ?_;refine⟨c.heap.objs.size, [c.heap.objs.size],_,_,H1,rfl,d.kept (t':=c.toks) λb o e=>AAH _ e,ZL a _,⟨_,AAP _ rfl,rfl,rfl⟩,λb hb=> ?_,q⟩;have e:b=c.heap.objs.size:=by simpa using hb
  subst e;exact d.fpOk (AAJ _) (d.hok.fresh (AAJ _))
 .obtain ⟨f,rv,p,t⟩:=d.tuple g;refine wpAny_pyIter_tuple (show c.heap.IsTuple a f.toArray from p) ?_;refine⟨c.heap.objs.size, [c.heap.objs.size],_,_,H1,rfl,d.kept (t':=c.toks) λb o e=>AAH _ e,WY a _,⟨_,AAP _ rfl,rfl,rfl⟩,λb hb=> ?_,q⟩;have e:b=c.heap.objs.size:=by simpa using hb
  subst e;exact d.fpOk (AAJ _) (d.hok.fresh (AAJ _))
def M9 (ta:AE):AI:=λτ Q=>ta τ λx=>Sg x Q
def ah {K:AAB}{T M:zu->Prop}{H:Hp}{a:zu}{xs:zy PV}(va:K6 T M H)(r:Cs K T M H (.ref a) (.tup xs)):U4 K M (rA K a) xs T H:=by
 obtain⟨k,vs,e,c,d⟩:=G0 r;cases e;refine⟨λi y h=> ?_,λi y v l h f=> ?_,λi h=>⟨vs,c,by rw[d.length];exact h⟩⟩
 .obtain ⟨v,hv,_⟩:=d.get h;exact⟨vs,v,c,hv⟩
 .obtain ⟨rfl,f⟩:=f;obtain⟨z,g,j⟩:=d.get' (f vs c);rw[h] at g;cases g;exact⟨.refl va.tp,j⟩
def af {K:AAB}{T M:zu->Prop}{H:Hp}{a:zu}{vs:zy V}{xs:zy PV}(va:K6 T M H)(j:H a=some (.lst vs))(c:Ax K T M H vs xs):U4 K M (q9 K a) xs T H:=by
 have d:FO K H a vs:= .inl (.inl j);refine⟨λi y h=> ?_,λi y v l h f=> ?_,λi h=>⟨vs,d,by rw[c.length];exact h⟩⟩
 .obtain ⟨v,hv,_⟩:=c.get h;exact⟨vs,v,d,hv⟩
 .obtain ⟨rfl,f⟩:=f;obtain⟨z,g,k⟩:=c.get' (f vs d);rw[h] at g;cases g;exact⟨.refl va.tp,k⟩
def FG {j:zr}(h:SE X e ta):SI X j e true (M9 ta):=by
 obtain⟨t,p,s⟩:=h;refine⟨_,kN p,λB T l τ H R z m h k=>s B T l τ H _ _ m h λv x T1 H1 i c h1=> ?_⟩;obtain⟨xs,hx,q⟩:=Nx h1;rcases hx with rfl|rfl
 .obtain ⟨a,vs,rfl,d,n⟩:=G0 c;refine⟨a,rfl, .inr ⟨⟨vs,d⟩,k _ xs T1 H1 i (λM2 o r f va _=>ah va (c.mv f)) q⟩⟩
 .obtain ⟨a,vs,rfl,d,A,C,n⟩:=EJ c;refine⟨a,rfl, .inl ⟨⟨vs, .inl (.inl d)⟩,k _ xs T1 H1 i (λM2 o r f va _=> ?_) q⟩⟩;obtain⟨D,u,w,y,_,_,g⟩:=EJ (c.mv f);cases w;exact af va y g
def rng (lo:Int)(n:Nat):zy PV:=(List.range n).map λ(k:Nat)=> .int (lo+(k:Int))
def Tp {K:AAB}{T M:zu->Prop}{H:Hp}{lo:Int}{n:Nat}(va:K6 T M H):U4 K M (mY lo n) (rng lo n) T H:=by
 have hl:(rng lo n).length=n:=by simp[rng]
 refine⟨λi y h=> ?_,λi y v d h c=> ?_,λi h=>by rw[hl] at h;exact h⟩
 .have:=(AAz.mp h).1;rw[hl] at this;exact this
 .obtain ⟨rfl,rfl⟩:=c;have hi:=(AAz.mp h).1;rw[hl] at hi;have:y= .int (lo+(i:Int)):=by simp[rng,List.getElem?_range hi] at h;exact h.symm
  subst this;exact⟨.refl va.tp, .int _⟩
def Q6 (r:AA):AI:=λτ Q=>r τ λxs=>match xs with | [.int j] =>(-(2^62)<=j/\j<2^62)/\Q (rng 0 j.toNat)|_=>False
def du (r:AA):AI:=λτ Q=>r τ λxs=>match xs with | [.int i, .int j] =>(-(2^62)<=i/\i<2^62/\ -(2^62)<=j/\j<2^62)/\Q (rng i (j-i).toNat)|_=>False
def OJ {d c:zr}{r:AA}{p:Pos}(f:Gl X "range")(g:X.mg "range" =none)(ha:SA X [c] r)(hs:starEach [c] X.env= [(false,eval c X.env)] :=by rfl):SI X d (.Call (.Name "range" p) [c] [] pos) true (Q6 r):=by
 obtain⟨t,i,s⟩:=ha;refine⟨_,Y5 f g i hs,λB T j τ H R o l h k=>s B T j τ H _ _ l h λvs xs T1 H1 m n h1=> ?_⟩;split at h1 <;> first | exact h1.elim|skip
 cases n with
 | cons r t=> cases t;cases r;exact⟨_,rfl,h1.1.1,h1.1.2,k _ _ T1 H1 m (λM2 u v w va _=>Tp va) h1.2⟩
def iO {f c d:zr}{r:AA}{p:Pos}(g:Gl X "range")(i:X.mg "range" =none)(ha:SA X [c,d] r)(hs:starEach [c,d] X.env= [(false,eval c X.env),(false,eval d X.env)] :=by rfl)(j:starEach [d] X.env= [(false,eval d X.env)] :=by rfl):SI X f (.Call (.Name "range" p) [c,d] [] pos) true (du r):=by
 obtain⟨t,l,s⟩:=ha;refine⟨_,Y6 g i l hs j,λB T m τ H R w n h k=>s B T m τ H _ _ n h λvs xs T1 H1 o u h1=> ?_⟩;split at h1 <;> first | exact h1.elim|skip
 cases u with
 | cons r t=>
   cases t with
   | cons v t=> cases t;cases r;cases v;exact⟨_,_,rfl,h1.1,k _ _ T1 H1 o (λM2 x y z va _=>Tp va) h1.2⟩
def Ia (xs c:zy PV):zy PV:=List.zipWith (λx y=> .tup [x,y]) xs c
def nj (K:AAB)(ta:TA):TI:=λd H R=>ta d H λvs H1=>∃b c l m,vs= [.ref l, .ref m] /\(∃xs,Sq K b H1 l xs)/\(∃f,Sq K c H1 m f)/\R (rB K b c l m) H1
def fX {e f:zr}{ta:TA}{p pos g:Pos}{es:zy zr}{w:Nat}(x:Gl X "zip")(y:X.mg "zip" =none)(ha:PA X [e,f] ta)(hs:starEach [e,f] X.env= [(false,eval e X.env),(false,eval f X.env)] :=by rfl)(t:starEach [f] X.env= [(false,eval f X.env)] :=by rfl):PI X (.Tuple es w g) (.Call (.Name "zip" p) [e,f] [] pos) (nj X.K ta):=by
 intro z s A H R I h;refine Call_ (Gc I x y boot_zip (ACT (BJ (ha pos z s A H _ I h) λB d ⟨vs,H1,i,C,D⟩=> ?_) (by rw[hs,t]) (by rw[t];rfl)));obtain⟨b,c,l,m,rfl,⟨xs,hl⟩,⟨L,E⟩,q⟩:=D;cases C with
 | cons r j=>
 cases j with
 | cons F j=>
 cases j;cases r;cases F;obtain⟨B,M,u,_⟩:=i.sq hl;obtain⟨vs,rv,sv,_⟩:=i.sq E;have k:l<d.heap.objs.size:=by cases b <;> (obtain⟨o,e,_⟩:=u;exact AAG e)
 have n:m<d.heap.objs.size:=by cases c <;> (obtain⟨o,e,_⟩:=sv;exact AAG e)
 refine ly u sv λh1 Z G=>wpAny_pyIter_zip Z.zip ?_;refine⟨_,_,_,_,H1,rfl,i.kept (t':=d.toks) G,c5 (zipApart_new k n),Z,λp hp=> ?_,q⟩;have v:d.heap.objs.size<=p:=by
  have J:p=d.heap.objs.size+4\/p=d.heap.objs.size+2\/p=d.heap.objs.size+3\/p=d.heap.objs.size\/p=d.heap.objs.size+1:=by simpa using hp
  rcases J with e|e|e|e|e <;> (rw[e];omega)
 exact i.fpOk v (i.hok.fresh v)
def nD:PV->kn | .lst _=>true|_=>false
def Xo {K:AAB}{T M:zu->Prop}{H:Hp}{v:V}{x:PV}{xs:zy PV}(hx:x= .tup xs\/x= .lst xs)(r:Cs K T M H v x):∃a vs,v= .ref a/\Sq K (nD x) H a vs/\Ax K T M H vs xs:=by
 rcases hx with rfl|rfl
 .obtain ⟨a,vs,rfl,c,d⟩:=G0 r;exact⟨a,vs,rfl,c,d⟩
 .obtain ⟨a,vs,rfl,c,_,_,d⟩:=EJ r;exact⟨a,vs,rfl, .inl (.inl c),d⟩
def aj {K:AAB}{T M:zu->Prop}{H:Hp}{l m:zu}{x y:PV}{xs c:zy PV}(va:K6 T M H)(hx:x= .tup xs\/x= .lst xs)(C:y= .tup c\/y= .lst c)(r:Cs K T M H (.ref l) x)(D:Cs K T M H (.ref m) y):U4 K M (rB K (nD x) (nD y) l m) (Ia xs c) T H:=by
 obtain⟨_,vs,e,g,j⟩:=Xo hx r;cases e;obtain⟨_,k,e,n,d⟩:=Xo C D;cases e;have t:∀i z,(Ia xs c)[i]? =some z->∃a b,xs[i]? =some a/\c[i]? =some b/\z=PV.tup [a,b] :=λi z h=>by
  unfold Ia at h;rw[List.getElem?_zipWith] at h;cases f:xs[i]? with
  | none=>rw[f] at h;cases h
  | some a=>
    cases s:c[i]? with
    | none=>rw[f,s] at h;cases h
    | some b=>rw[f,s] at h;cases h;exact⟨a,b,by first | rfl|exact f,by first | rfl|exact s,rfl⟩
 refine⟨λi z h=> ?_,λi z v I h E=> ?_,λi h=>⟨vs,k,g,n, ?_⟩⟩
 .obtain ⟨a,b,ha,hb,_⟩:=t i z h;obtain⟨u,hu,_⟩:=j.get ha;obtain⟨w,hw,_⟩:=d.get hb;exact⟨vs,k,u,w,g,n,hu,hw⟩
 .obtain ⟨a,b,ha,hb,rfl⟩:=t i z h;obtain⟨p,u,w,rfl,F,rfl,hu,hw⟩:=E;obtain⟨J,A,ra⟩:=j.get' (hu vs g);obtain⟨L,B,G⟩:=d.get' (hw k n);rw[ha] at A;cases A;rw[hb] at B;cases B;have st:=C9.lay (o:= .tup [u,w]) va.tp F;exact⟨st, .tup (.inl Aj) (.cons (ra.stp st va) (.cons (G.stp st va) .nil))⟩
 .rw [j.length,d.length];have:(Ia xs c).length=min xs.length c.length:=by simp[Ia]
  omega
def i6 (r:AA):AI:=λτ Q=>r τ λc=>match c with | [x,y] =>Sg x λxs=>Sg y λd=>Q (Ia xs d)|_=>False
def cT {e f:zr}{r:AA}{p pos c:Pos}{es:zy zr}{j:Nat}(n:Gl X "zip")(o:X.mg "zip" =none)(ha:SA X [e,f] r)(hs:starEach [e,f] X.env= [(false,eval e X.env),(false,eval f X.env)] :=by rfl)(u:starEach [f] X.env= [(false,eval f X.env)] :=by rfl):SI X (.Tuple es j c) (.Call (.Name "zip" p) [e,f] [] pos) true (i6 r):=by
 obtain⟨t,v,s⟩:=ha;refine⟨_,fX n o v hs u,λB T w τ H R J z h k=>s B T w τ H _ _ z h λvs xs T1 H1 A C h1=> ?_⟩;split at h1 <;> first | exact h1.elim|skip
 rename_i x y;obtain⟨xs,hx,h2⟩:=Nx h1;obtain⟨K,d,h3⟩:=Nx h2;cases C with
 | cons ra t=>
   cases t with
   | cons g t=> cases t;obtain⟨l,D,rfl,E,L⟩:=Xo hx ra;obtain⟨m,F,rfl,G,I⟩:=Xo d g;exact⟨nD x,nD y,l,m,rfl,⟨D,E⟩,⟨F,G⟩,k _ _ T1 H1 A (λM2 M N i va _=>aj va hx d (ra.mv i) (g.mv i)) h3⟩
def DV (g:AG)(b:AS)(D:GI):zy PV->BA->Prop
 | [],τ=>D.nx τ
 | x::r,τ=>g x τ λc=>b {D with nx:=DV g b D r,ct:=DV g b D r,bk:=D.nx} c
def Fk (c:AI)(g:AG)(b:AS):AS:=λD τ=>c τ λxs=>DV g b D xs τ
def E9.mvv {K:AAB}{B:Cz}{T d:zu->Prop}{H f:Hp}{c σ':L2.St}{τ τ':BA}(s:SR K B T H c τ)(p:E9 T H c τ d f σ' τ'):Mv K T (mt B c τ) H d (mt B σ' τ') f:=
 ⟨s.va,λb o t m e=>p.keep b o t (λz=>m (.inr z)) e,p.sub,λb n t=>(p.new b t).elim id λz=>absurd z n,λb n m=>m.elim .inl λz=>(p.own b z).elim .inr λz=>absurd z n⟩
def Ch {C iter:zr}{body:zy Stmt}{N:AI}{g:AG}(hp:PassesOwn (model X.prog X.w) X.A X.env X.xe)(hc:X.calm=true)(hi:SI X C iter true N)(U:SG X C g)(hb:YA X body b)(hs:∀x,foldedSetIterable iter X.env x=pure x:=by intro _;rfl):SS X (.For C iter body [] pos) (Fk N g b):=by
 obtain⟨wi,W,Y⟩:=hi;obtain⟨Z,pg,sg⟩:=U;obtain⟨tb,pb,sb⟩:=hb;refine⟨_,cA hp hc W pg pb hs,λB T y τ H D O P h E=>Y B T y τ H _ _ P h λJ xs T1 H1 F walk h1=> ?_⟩;have p:=P.stp F;refine⟨λi m d r=>m=xs.length-i/\∃f c,SR X.K B f r d c/\E9 T1 H1 y τ f r d c/\DV g b O (xs.drop i) c,⟨_,rfl,T1,τ,p, .refl,h1⟩, ?_⟩;rintro i m d r ⟨rfl,f,c,k,l,h2⟩;have w:=walk _ f r (l.mvv p) k.va (.inl rfl);have G:=(E.shift F.prog).shift l;by_cases Q:i<xs.length
 .have R:xs[i]? =some xs[i] :=AAW Q;rw[ADc Q] at h2;refine .inr ⟨w.go i _ R,λσ' s=>∃j τ',SR X.K B j s σ' τ'/\E9 T1 H1 y τ j s σ' τ'/\DV g b O (xs.drop (i+1)) τ',λσ' s ⟨j,τ',q1,q2,q3⟩=>⟨_,by omega,rfl,j,τ',q1,q2,q3⟩,λv z yl=> ?_⟩;obtain⟨S,r3⟩:=w.yld i _ v z R yl;have I:=k.stp S;refine sg B f d c z v _ _ _ I r3 h2 λt u L o4 h4=> ?_;have n:E9 T1 H1 y τ f z t u:=(l.trans S.prog).trans (.less o4);have M:=(E.shift F.prog).shift n;exact sb B f t u z _ _ L h4 ⟨λj s σ' τ' q o h'=>⟨j,τ',o,n.trans q,h'⟩,M.nx,λj s σ' τ' q o h'=>⟨j,τ',o,n.trans q,h'⟩,E.rt⟩
 .rw [AEB (by omega)] at h2;exact .inl ⟨w.stop i (by omega),G.nx f r d c .refl k h2⟩
def YE:zt AV->zt AV|some (.val x)=>some (.val x)|_=>none
def Oy (own:Nat)(ix:zy Nat)(τ:BA):BA:=List.replicate own none++ix.map λi=>YE (Se τ i)
def C1 (g:AG)(t:AT)(f:AE)(c:BA)(Q:zy PV->Prop):zy PV->zy PV->Prop
 | [],acc=>Q acc
 | x::r,acc=>g x c λd=>t d λok=>if ok=true then f d λy=>C1 g t f c Q r (acc ++ [y]) else C1 g t f c Q r acc
def Bx (c:AI)(own:Nat)(ix:zy Nat)(g:AG)(t:AT)(d:AE):AA:=λτ Q=>c τ λxs=>xs.length<sizeLine/\C1 g t d (Oy own ix τ) Q xs []
def Z5 {own:Nat}{ix:zy Nat}{τ:BA}{j:Nat}{x:PV}(h:(Oy own ix τ)[j]? =some (some (.val x))):own<=j/\∃i,ix[j-own]? =some i/\τ[i]? =some (some (.val x)):=by
 unfold Oy at h;by_cases hj:j<own
 .rw [ABN (by simpa using hj),ABZ,AAE hj] at h;cases h
 .rw [ABH (by simpa using hj),ABa,AAg] at h;cases e:ix[j-own]? with
  | none=>rw[e] at h;cases h
  | some i=>
    rw[e] at h;refine⟨by omega,i,rfl,Nm ?_⟩;cases c:Se τ i with
    | none=>simp[c,YE] at h
    | some z=>cases z <;> simp[c,YE] at h;subst h;rfl
def JC {own:Nat}{ix:zy Nat}{τ:BA}{j:Nat}{xs:zy PV}:(Oy own ix τ)[j]? ≠some (some (.own xs)):=λh=>by
 unfold Oy at h;by_cases hj:j<own
 .rw [ABN (by simpa using hj),ABZ,AAE hj] at h;cases h
 .rw [ABH (by simpa using hj),ABa,AAg] at h;cases e:ix[j-own]? with
  | none=>rw[e] at h;cases h
  | some i=>
    rw[e] at h;cases c:Se τ i with
    | none=>simp[c,YE] at h
    | some z=>cases z <;> simp[c,YE] at h
def Cz.blk (B:Cz)(c:L2.St)(τ:BA)(D:zu):Cz:=⟨B.T,B.H,λa=>mt B c τ a\/a=D⟩
def SR.blk {K:AAB}{B:Cz}{T d:zu->Prop}{H f:Hp}{c:L2.St}{τ:BA}{D:zu}{h:zy V}{own:Nat}{ix:zy Nat}(s:SR K B T H c τ)(q:C9 T H d f)(l:H D=none)(hd:f D=some (.lst h))(u:¬d D):SR K (B.blk c τ D) d f (CQ own ix c) (Oy own ix τ):=by
 have g:=s.stp q;have w:Mv K T (mt B c τ) H d (mt (B.blk c τ D) (CQ own ix c) (Oy own ix τ)) f:=⟨s.va,λb o t _ e=>q.keep b o t e,q.sub,λb n t=>(q.new b t).elim id λz=>absurd z n,λb n z=>by
  rcases z with(z|z)|⟨_,_,z,_⟩
  .exact z
  .subst z;exact absurd l n
  .exact absurd z JC⟩
 refine⟨by simp[CQ,Oy],λj x e=> ?_,λj xs e=>absurd e JC,λj k xs A p e=>absurd e JC,g.tp,λa m=> ?_,λa m=> ?_,g.st⟩
 .obtain ⟨hj,i,hi,y⟩:=Z5 e;obtain⟨v,hv,r⟩:=s.val i x y;refine⟨v, ?_,r.mv w⟩;unfold CQ;rw[ABH (by simpa using hj),ABa,AAg,hi];simp[hv]
 .rcases m with m|m
  .exact g.va.mu a m
  .subst m;exact⟨_,hd,LZ.lst⟩
 .rcases m with m|m
  .exact g.nt m
  .subst m;exact u
def mw (X:Cx)(c:zy zr)(t:AT):Prop:=∃d,gw X c d/\U7 X.K d t
def Ea:AT:=λ_ Q=>Q true
def Bn:mw X [] Ea:=⟨_,XY,λB T d τ H Q f c h k=>k true T H (.refl c.tp) h⟩
def MD {c:zr}{t:AT}(h:Wh X c t):mw X [c] t:=let ⟨_,p,s⟩:=h;⟨_,fY p,s⟩
def OL {K:AAB}{s:kn}{wi:TI}{ai:AI}{own:Nat}{ix:zy Nat}{g:TG}{ag:AG}{tt:TT}{C:AT}{te:TE}(hi:m9 K s wi ai)(hg:Q3 K g ag)(ht:U7 K tt C)(he:HR K te ta):di K (ck wi own ix g tt te) (Bx ai own ix ag C ta):=by
 intro B T E τ H Q AQ sr h k;refine hi B T E τ H _ _ sr h λJ xs T1 H1 s1 walk h1 D F=> ?_;obtain⟨hl,h1⟩:=h1;have j:=sr.stp s1;have nt1:¬T1 D:=λz=>by obtain⟨o,e,_⟩:=(j.tp D z).mut;rw[F] at e;cases e
 have lay:=C9.lay (o:= .lst []) j.tp F;refine⟨λi m G=>m=xs.length-i/\∃p vs c,C9 T1 H1 p G/\G D=some (.lst vs)/\¬p D/\Ax K p (λa=>mt B E τ a\/a=D) G vs c/\c.length<=i/\C1 ag C ta (Oy own ix τ) AQ (xs.drop i) c,
  ⟨_,rfl,T1, [], [],lay,Aj,nt1, .nil,AAJ _,h1⟩, ?_⟩
 rintro i m G ⟨rfl,p,vs,c,r,Z,f,r2,jM,h2⟩;have I:=j.blk (own:=own) (ix:=ix) r F Z f;have L:K6 p (λa=>mt B E τ a\/a=D) G:=⟨I.tp,I.bm⟩;have w:=walk (λa=>mt B E τ a\/a=D) p G ⟨j.va,λb o t _ e=>r.keep b o t e,r.sub,λb n t=>(r.new b t).elim id λz=>absurd z n,λb n z=>z.elim id λz=>by subst z;exact absurd F n⟩ L (.inr r.keep);by_cases IE:i<xs.length
 .have aX:xs[i]? =some xs[i] :=AAW IE;rw[ADc IE] at h2;refine .inr ⟨w.go i _ aX,λv H3 yl=> ?_⟩;obtain⟨P,r3⟩:=w.yld i _ v H3 aX yl;have l:=I.stp P;refine hg _ p _ _ H3 v _ _ _ l (r3.mv (.anti ⟨l.tp,l.bm⟩ λa z=>z.elim id λ⟨_,_,z,_⟩=>absurd z JC)) h2 λR S U o4 h4=> ?_;refine ht _ p R S H3 _ _ U h4 λok T5 H5 N h5=> ?_;have u:=U.stp N;have mB:=P.keep D _ f Z;have qQ:=N.keep D _ f mB;have M:¬T5 D:=λz=>(N.new D z).elim f λn=>by rw[n] at mB;cases mB
  have r5:=(r2.stp P L).stp N ⟨l.tp,l.bm⟩;cases ok with
  | false=> rw[AAC AAT] at h5 ⊢;exact⟨_,by omega,rfl,T5,vs,c,(r.trans P).trans N,qQ,M,r5,by omega,h5⟩
  | true=>
    rw[AAE rfl] at h5 ⊢;refine he _ T5 R S H5 _ _ u h5 λvy y O H6 W r6 h6=> ?_;have A:=u.stp W;have yB:=W.keep D _ M qQ;have Y:¬O D:=λz=>(W.new D z).elim M λn=>by rw[n] at qQ;cases qQ
    have va6:K6 O (λa=>mt B E τ a\/a=D) H6:=⟨A.tp,A.bm⟩;have r7:=r5.stp W ⟨u.tp,u.bm⟩;have s7:=((r.trans P).trans N).trans W;have tp8:∀a,O a->FA (upd H6 D (.lst (vs ++ [vy]))) a:=λa t=>by obtain⟨d,x,e,z⟩:=A.tp a t;exact⟨d,x,by rw[Ag (λw=>by subst w;exact Y t)];exact e,z⟩
    have mv8:Mv K O (λa=>mt B E τ a\/a=D) H6 O (λa=>mt B E τ a\/a=D) (upd H6 D (.lst (vs ++ [vy]))):=⟨va6,λb o _ m e=>by rw[Ag (λw=>m (.inr w))];exact e,λ_ t=>t,λ_ _ t=>t,λ_ _ z=>z⟩;refine⟨vs,yB,by rw[r2.length];omega,_,(by omega:xs.length-(i+1)<xs.length-i),rfl,O,vs ++ [vy],c ++ [y],⟨λb o t e=> ?_,s7.sub,s7.new,tp8⟩,Aj,Y,(r7.append (.cons (r6.mv (.anti A.va λa z=> .inl z)) .nil)).mv mv8,by simp;omega,h6⟩;rw[Ag (Au e F)];exact s7.keep b o t e
 .rw [AEB (by omega)] at h2;refine .inl ⟨w.stop i (by omega), ?_⟩;exact k D vs c p G (s1.trans r) (j.add r F Z LZ.lst f) (s1.none F) Z f (r2.mv (.anti L λa z=>by
   rcases z with(z|z)|z
   .exact .inl (.inl z)
   .exact .inr z
   .exact .inl (.inr z))) h2
structure Wb (X:Cx) (tg elt:Expr) (ifs:List Expr) (scope:Scope) (own:Nat) (ix:List Nat) (N:List Str) (g:AG) (t:AT) (te:AE):Prop where
 ex:∃g' t' te',Fe X tg elt ifs scope own ix N g' t' te'/\Q3 X.K g' g/\U7 X.K t' t/\HR X.K te' te
def Cq {f c iter:zr}{d:zy zr}{scope:Scope}{own:Nat}{ix:zy Nat}{N:zy Str}{g:AG}{t:AT}{s:kn}{h:AI}(hc:X.calm=true)(hi:SI X f iter s h)(O:Wb X f c d scope own ix N g t ta)(hs:∀x,foldedSetIterable iter X.env x=pure x:=by intro _;rfl):SF X (.ListComp c [⟨f,iter,d,0⟩] scope pos) (Bx h own ix g t ta):=by obtain⟨m,i,j⟩:=hi;obtain⟨g',t',k,O,sg,st,l⟩:=O.ex;exact⟨_,fQ hc i O hs,OL j sg st l⟩
def Ua {i:Nat}{x:Str}{pos' c:Pos}{h d iter:zr}{f:zy zr}{scope:Scope}{own:Nat}{ix:zy Nat}{N:zy Str}{g:AG}{t:AT}{s:kn}{j:AI}(hc:X.calm=true)(hN:X.N.Nodup)(k:X.N[i]? =some x)(hx:Loc X.env.scope x)(hi:SI X h iter s j)(O:Wb X h d f scope own ix N g t ta)(l:swapsWith (.ListComp d [⟨h,iter,f,0⟩] scope pos) (some (.Name x pos')) c.line X.env=pure true:=by rfl)(hs:∀x,foldedSetIterable iter X.env x=pure x:=by intro _;rfl)(m:X.fn x=true\/X.env.scope.names.lookup x=some .local:=by first | exact .inl rfl|exact .inr rfl|assumption):SS X (.Assign [.Name x pos'] (.ListComp d [⟨h,iter,f,0⟩] scope pos) c) (Le (Bx j own ix g t ta) i):=by obtain⟨u,n,o⟩:=hi;obtain⟨g',t',p,O,sg,st,r⟩:=O.ex;exact⟨_,Xb hc hN k hx n O l hs m,Xk (OL o sg st r)⟩
def Fa {i:Nat}{x:Str}{pos' c:Pos}{h d iter:zr}{f:zy zr}{scope:Scope}{own:Nat}{ix:zy Nat}{N:zy Str}{g:AG}{t:AT}{s:kn}{j:AI}(hc:X.calm=true)(hN:X.N.Nodup)(k:X.N[i]? =some x)(hx:Loc X.env.scope x)(hi:SI X h iter s j)(O:Wb X h d f scope own ix N g t ta)(l:swapsWith (.ListComp d [⟨h,iter,f,0⟩] scope pos) (some (.Name x pos')) c.line X.env=pure true:=by rfl)(hs:∀x,foldedSetIterable iter X.env x=pure x:=by intro _;rfl)(m:X.fn x=true\/X.env.scope.names.lookup x=some .local:=by first | exact .inl rfl|exact .inr rfl|assumption):SS X (.Assign [.Name x pos'] (.ListComp d [⟨h,iter,f,0⟩] scope pos) c) (An (GW (Bx j own ix g t ta)) (Ar i)):=by obtain⟨u,n,o⟩:=hi;obtain⟨g',t',p,O,sg,st,r⟩:=O.ex;exact⟨_,Xb hc hN k hx n O l hs m,SN (cW (OL o sg st r)) SQ⟩
end
def Kh (N:Nat)(xs:zy PV):BA:=xs.map (λx=>some (.val x))++List.replicate (N-xs.length) none
def Ak (N:Nat)(b:AS):AF:=λxs Q=>b {nx:=λ_=>Q .non,rt:=Q,bk:=λ_=>False,ct:=λ_=>False} (Kh N xs)
def Ub {K:AAB}{T M:zu->Prop}{H:Hp}{N:zy Str}{vs:zy V}{xs:zy PV}(va:K6 T M H)(c:∀a,M a->¬T a)(r:Ax K T M H vs xs):SR K ⟨T,H,M⟩ T H (start N vs) (Kh N.length xs):=by
 have d:∀(j:Nat) (b:zy PV),(Kh N.length xs)[j]? ≠some (some (.own b)):=λj b h=>by
  unfold Kh at h;by_cases hj:j<xs.length
  .rw [ABN (by simpa using hj),AAg,AAW hj] at h;cases h
  .rw [ABH (by simpa using hj),ABZ] at h;split at h <;> cases h
 refine⟨by simp[L2.start,Kh,r.length],λj x h=> ?_,λj b h=>absurd h (d j b),λj k b e p h=>absurd h (d j b),va.tp,va.mu,c, .refl va.tp⟩;unfold Kh at h;by_cases hj:j<xs.length
 .rw [ABN (by simpa using hj),AAg,AAW hj] at h;cases h;obtain⟨v,hv,rv⟩:=r.get (AAW hj);refine⟨v, ?_,rv.mv (.anti va λa m=>m.elim id λ⟨_,_,z,_⟩=>absurd z (d _ _))⟩;unfold L2.start;rw[ABN (by rw[AAK,r.length];exact hj),AAg,hv];rfl
 .rw [ABH (by simpa using hj),ABZ] at h;split at h <;> cases h
section
variable {P:km}{w:kj}{K:AAB}{mg:Str->zt zx}{base:ki}
def d8 {x qual:Str}{st:Stmt}{f:zu}{g:FuncData}{N ps:zy Str}{k n:Nat}{b:AS}(F:We K x qual st f g)(S:DS N ps (As st))(i:n=ps.length)(j:∀(a:zx) (A:kf) (outer:zy Env) (s:zw) (H:Hp) (E:XK),Room k (A.deeper (envOfC qual (As st) s.heap.objs.size f a))-> YA (O2 Mr P w K mg base N qual (As st) f a A outer s H E).nox (B8 st) b):Dp P w K mg base Mr (k+1) f g ps (CH K n (Ak N.length b)):=by
 refine F.ok S (λvs H Q E h=> ?_) (λa A outer s H vs Q E l h=> ?_)
 .obtain ⟨T,M,xs,m,_,_,r,hl,_⟩:=h;rw[r.length,hl,i]
 .obtain ⟨T,M,xs,m,va,c,r,hl,hF,hQ⟩:=h;obtain⟨t,p,o⟩:=j a A outer s H E l;refine⟨t,p,o ⟨T,H,M⟩ T _ _ H _ _ (Ub va c r) hF ⟨λd e σ' τ' _ u q=> ?_,λ_ _ _ _ _ _ q=>q.elim,λ_ _ _ _ _ _ q=>q.elim,λv x d e y z q=>hQ v x d e y z q⟩⟩;exact hQ _ _ d e u.st .non q
end
section
variable {X:Cx}
def aA {prog:km}{w:kj}{A:kf}{E:zx->zw->Prop}{s:zw}{t b:zu}{d:zy zx}{Q:zx->zw->Prop}(j:IsTup s.heap t #[])(hb:IsTup s.heap b d.toArray)(k:Q (.ref b) s):wpAny (model prog w) A (binaryOp .Add (.ref t) (.ref b)) Q E s:=by
 obtain⟨⟨cls,l,data,sl⟩,e,hc,n,hd⟩:=id j;obtain⟨⟨f,a,data2,c⟩,g,h,m,i⟩:=id hb;simp only at hc hd h i;subst hc hd h i;exact concat_meets ⟨_,e,rfl⟩ ⟨_,g,rfl⟩ ADV seq_tuple_add ADW ADX (ADY _ _)
  (tuple_addW0 t b #[] d.toArray n m l a sl c (by simp)) ⟨e,g,k⟩
def cE (K:AAB):R2:=λx y H Q=>∃a b c,x= .ref a/\y= .ref b/\M6 K H a [] /\M6 K H b c/\Q (.ref b) H
def bL:Dq X (binaryOp .Add) (cE X.K):=by intro k s l H x y v u Q I d e h;obtain⟨a,b,m,rfl,rfl,ha,hb,q⟩:=h;cases d;cases e;obtain⟨f,g,i,_⟩:=I.tuple ha;obtain⟨c,n,j,_⟩:=I.tuple hb;cases g;exact aA i j ⟨.ref b,H,I,rfl,q⟩
def iI (K:AAB):R2:=λx y H Q=>((R0 (λi j=>V.int (i+j)) x y H Q\/oX x y H Q)\/iJ K x y H Q)\/cE K x y H Q
def Ct:HQ:=λx y Q=>match x,y with
 | .int i, .int j=>Q (.int (i+j))
 | .lst xs, .lst a=>xs.length+a.length<=sizeLine/\Q (.lst (xs++a))
 | .tup xs, .tup a=>xs.length+a.length<=sizeLine/\Q (.tup (xs++a))
 | _,_=>False
def Bo:Dq X (binaryOp .Add) (iI X.K)/\Bs X.K (iI X.K) Ct:=by
 refine⟨((II.or j4).or fH).or bL,λT M H u v x y Q s va g rv h k=> ?_⟩;unfold Ct at h;split at h <;> first | exact h.elim|skip
 .exact .inl (.inl (.inl ⟨_,_,g.toI,rv.toI,k _ _ T H (.refl va.tp) (.int _) h⟩))
 .obtain ⟨a,vs,rfl,i,t,w,d⟩:=EJ g;obtain⟨b,f,rfl,j,l,m,c⟩:=EJ rv;refine .inl (.inl (.inr ⟨a,b,vs,f,rfl,rfl,i,j,by rw[d.length,c.length];exact h.1,λp hp=> ?_⟩));have st:=C9.lay (o:= .lst (vs++f)) va.tp hp;have n:¬T p:=λz=>by obtain⟨o,e,_⟩:=(va.tp p z).mut;rw[hp] at e;cases e
  have r:¬M p:=λz=>by obtain⟨o,e,_⟩:=va.mu p z;rw[hp] at e;cases e
  exact k _ _ T _ st (.lst Aj n r ((d.append c).stp st va)) h.2
 .obtain ⟨a,vs,rfl,i,d⟩:=G0 g;obtain⟨b,f,rfl,j,c⟩:=G0 rv;by_cases e:vs= []
  .subst e;cases d;exact .inr ⟨a,b,f,rfl,rfl,i,j,k _ _ T H (.refl va.tp) rv (by simpa using h.2)⟩
  .refine .inl (.inr ⟨a,b,vs,f,rfl,rfl,i,j,e,by rw[d.length,c.length];exact h.1,λz=> ?_,λz p hp=> ?_⟩)
   .subst z;cases c;exact k _ _ T H (.refl va.tp) g (by simpa using h.2)
   .have st:=C9.lay (o:= .tup (vs++f)) va.tp hp;exact k _ _ T _ st (.tup (.inl Aj) ((d.append c).stp st va)) h.2
def HS {prog:km}{w:kj}{A:kf}{E:zx->zw->Prop}{s:zw}{t sl:zu}{items:Array zx}{b c:zx}{lo hi:zt Int}{Q:zx->zw->Prop}(a:IsTup s.heap t items)(hs:s.heap.IsSliceOf sl b c .none)(d:IsPart b lo)(e:IsPart c hi)(hw:HT.sIx items.size 0 lo=0/\HT.sIx items.size items.size hi=items.size)(h:Q (.ref t) s):wpAny (model prog w) A (getItem (.ref t) (.ref sl)) Q E s:=by
 obtain⟨os,f,g,k⟩:=id hs;have i:s.TypeIs (.ref sl) "slice" :=⟨os,f,g⟩;obtain⟨l,m,n,o,p⟩:=id a;unfold getItem;try with_reducible refine AAe ?_
 first | refine AAA (AAD ?_)|skip
 refine AAA (wpAny_sequenceKey a.typeIs (by decide) ?_);refine AAA (ACB (name:=Str.ofString "__getitem__") a.typeIs ACC
  (ABC ACC a.typeIs entry_tuple_getitem ?_ (args_tuple_getitem _ _)))
 show wpAny _ _ (Builtin.Tuple.tupleItemsOf (.ref t) >>= _) _ _ s;refine AAA (tupleItemsOf_ a ?_);refine AAA (wpAny_typeOf i ?_);rw[AAE (by decide)];refine AAA (HT.sliceApplied_gen hs d e ?_);have j:((((HT.sIx items.size 0 lo:Nat):Int)==0&&(1:Int)==1&&(HT.sIx items.size items.size hi-HT.sIx items.size 0 lo)==items.size)=true):=by rw[hw.1,hw.2];simp
 show wpAny _ _ (if (((HT.sIx items.size 0 lo:Nat):Int)==0&&(1:Int)==1&&(HT.sIx items.size items.size hi-HT.sIx items.size 0 lo)==items.size)=true then _ else _) _ _ s;rw[AAE j];unfold Builtin.Tuple.tupleIsExact;simp only[bind_assoc,pure_bind];refine AAA (wpAny_typeOf a.typeIs ?_);rw[AAE (by decide)];exact AAA (ABj (AAD ⟨_,rfl,AAD h⟩))
def sd (K:AAB):V->zt Int->zt Int->Hp->VK->Prop:=λx lo hi H Q=>∃a xs,x= .ref a/\M6 K H a xs/\
 (HT.sIx xs.length 0 lo=0/\HT.sIx xs.length xs.length hi=xs.length)/\Q (.ref a) H
def gP:gx X (sd X.K):=by
 intro i s j H x v k l lo hi sl Q I d hs e f h;obtain⟨a,xs,rfl,hx,hw,q⟩:=h;cases d;obtain⟨b,r,c,m⟩:=I.tuple hx;have g:b.toArray.size=xs.length:=by rw[AAZ];exact r.length.symm
 refine⟨"tuple",_,ACC.lookup,c.typeIs, ?_⟩;exact HS c hs e f (by rw[g];exact hw) ⟨.ref a,H,I,rfl,q⟩
def Lg (xs:zy PV)(lo hi:zt Int):zy PV:=(xs.drop (HT.sIx xs.length 0 lo)).take (HT.sIx xs.length xs.length hi-HT.sIx xs.length 0 lo)
def Wt {K:AAB}{T M:zu->Prop}{H:Hp}{vs:zy V}{xs:zy PV}(r:Ax K T M H vs xs)(lo hi:zt Int):Ax K T M H (O1 vs lo hi) (Lg xs lo hi):=by unfold O1 Lg;rw[r.length];exact(r.drop _).take _
abbrev AO:=BA->(zt Int->Prop)->Prop
def rH (K:AAB)(t:TO)(a:AO):Prop:=∀(B:Cz) (T:zu->Prop) (b:L2.St) (τ:BA) (H:Hp) (Q:zt Int->Hp->Prop) (c:zt Int->Prop),SR K B T H b τ->a τ c->
 (∀o e d,C9 T H e d->c o->Q o d)->t b H Q
def SO (X:Cx)(e:zt zr)(a:AO):Prop:=∃t,PO X e t/\rH X.K t a
def dz:AO:=λ_ Q=>Q none
def d3 (a:AE):AO:=λτ Q=>a τ λx=>Sf x λi=>Q (some i)
def lP:SO X none dz:=⟨_,fZ,λB T b τ H Q c a h k=>k _ T H (.refl a.tp) h⟩
def lQ {e:zr}{a:AE}(h:SE X e a):SO X (some e) (d3 a):=by obtain⟨t,p,s⟩:=h;refine⟨_,fb p,λB T b τ H Q g c h k=>s B T b τ H _ _ c h λv x T1 H1 d f h1=> ?_⟩;obtain⟨i,rfl,q⟩:=Gf h1;exact⟨i,f.toI,k _ T1 H1 d q⟩
@[irreducible] def dH (x:PV)(lo hi:zt Int)(Q:PV->Prop):Prop:=match x with | .tup xs=>Q (.tup (Lg xs lo hi)) | .lst xs=>Q (.lst (Lg xs lo hi))|_=>False
def ME {xs:zy PV}{lo hi:zt Int}{Q:PV->Prop}(h:Q (.tup (Lg xs lo hi))):dH (.tup xs) lo hi Q:=by unfold dH;exact h
def Dz {xs:zy PV}{lo hi:zt Int}{Q:PV->Prop}(h:Q (.lst (Lg xs lo hi))):dH (.lst xs) lo hi Q:=by unfold dH;exact h
def dn (a:AE)(l h:AO):AE:=λτ Q=>a τ λx=>l τ λlo=>h τ λhi=>dH x lo hi Q
def OI {e:zr}{lo hi:zt zr}{D pos:Pos}{C:AE}{l h:AO}(he:SE X e C)(hl:SO X lo l)(E:SO X hi h):SE X (.Subscript e (.Slice lo hi none D) pos) (dn C l h):=by
 obtain⟨t,p,s⟩:=he;obtain⟨N,F,r⟩:=hl;obtain⟨t2,u,w⟩:=E;refine⟨_,bi ((gO.or lO).or gP) p F u,λB T m τ H Q O d h k=>s B T m τ H _ _ d h λv x T1 H1 f G h1=> ?_⟩;refine r B T1 m τ H1 _ _ (d.stp f) h1 λlo I J g h2=> ?_;refine w B I m τ J _ _ ((d.stp f).stp g) h2 λhi T3 K y h3=> ?_;have b:=((d.stp f).stp g).stp y;have A:=(G.stp g (d.stp f).va).stp y ((d.stp f).stp g).va;have c:=(f.trans g).trans y;unfold dH at h3;split at h3 <;> first | exact h3.elim|skip
 .obtain ⟨a,vs,rfl,n,i⟩:=G0 A;by_cases hw:HT.sIx vs.length 0 lo=0/\HT.sIx vs.length vs.length hi=vs.length
  .refine .inr ⟨a,vs,rfl,n,hw,k _ _ T3 K c A ?_⟩;rename_i xs;have:Lg xs lo hi=xs:=by unfold Lg;rw[<-i.length,hw.1,hw.2,i.length];simp
   rw[this] at h3;exact h3
  .refine .inl (.inr ⟨a,vs,rfl,n,hw,λq j=> ?_⟩);have st:=C9.lay (o:= .tup (O1 vs lo hi)) b.tp j;exact k _ _ T3 _ (c.trans st) (.tup (.inl Aj) ((Wt i lo hi).stp st b.va)) h3
 .obtain ⟨a,vs,rfl,n,P,R,i⟩:=EJ A;refine .inl (.inl ⟨a,vs,rfl, .inl (.inl n),λq j=> ?_⟩);have st:=C9.lay (o:= .lst (O1 vs lo hi)) b.tp j;have L:¬T3 q:=λz=>by obtain⟨o,e,_⟩:=(b.tp q z).mut;rw[j] at e;cases e
  have M:¬mt B m τ q:=λz=>by obtain⟨o,e,_⟩:=b.va.mu q z;rw[j] at e;cases e
  exact k _ _ T3 _ (c.trans st) (.lst Aj L M ((Wt i lo hi).stp st b.va)) h3
end
def A2:AF:=λxs Q=>match xs with | [.tape, .int m] =>(0<m/\m<4611686018427387904)/\∀r,0<=r->r<m->Q (.int r)|_=>False
def M1:AF:=λxs Q=>match xs with | [.scr ns, .int k] =>(0<=k/\k<=1000)/\Q .tape|_=>False
def mW (g:TG):Prop:=∀v b H Q c,(∀a d,Q a d->c a d)->g v b H Q->g v b H c
def ib (g:U9):Prop:=∀v b H Q c,(∀a d,Q a d->c a d)->g v b H Q->g v b H c
def SK (own:Nat)(X:Cx)(a:zr)(b:AG):Prop:=∃g,PG X a g/\Q3 X.K g b/\M4 own g/\mW g
def qI (own:Nat)(X:Cx)(a:zy zr)(b:Ur):Prop:=∃g,l8 X a g/\Po X.K g b/\M5 own g/\ib g
section
variable {X:Cx}{pos:Pos}{own:Nat}
def gN {i:Nat}{x:Str}(hN:X.N.Nodup)(hi:X.N[i]? =some x)(hx:Loc X.env.scope x)(hk:i<own)(a:X.fn x=true\/X.env.scope.names.lookup x=some .local:=by first | exact .inl rfl|exact .inr rfl|assumption):SK own X (.Name x pos) (Ar i):=
 ⟨_,HH hN hi hx a,SQ,RH hk,L0⟩
def HL:qI own X [] BY:=⟨_,MA,UY,W4,RI⟩
def CG {e:zr}{es:zy zr}{b:AG}{a:Ur}(h1:SK own X e b)(h2:qI own X es a)(hs:(assignEach (e::es) X.env).map (·.2)=assign e X.env::(assignEach es X.env).map (·.2):=by rfl):qI own X (e::es) (Ad b a):=
 let ⟨_,p,s,k,m⟩:=h1;let ⟨_,d,f,g,c⟩:=h2;⟨_,FS p d hs,QU s f,NQ k m g c,TZ m c⟩
end
def qP (K:AAB)(own:Nat)(d:AG):TG:=λv a H Q=>∃(B:Cz) (T:zu->Prop) (τ:BA) (x:PV) (c:BA->Prop),SR K B T H a τ/\Cs K T (mt B a τ) H v x/\d x τ c/\
 ∀σ' τ',SR K B T H σ' τ'->(∀b,Cd σ' τ' b->Cd a τ b)->c τ'->(σ'.length=a.length/\∀j,own<=j->σ'[j]? =a[j]?)->Q σ' H
def tI (K:AAB)(a:AT):TT:=λe H Q=>∃(B:Cz) (T:zu->Prop) (τ:BA) (c:kn->Prop),SR K B T H e τ/\a τ c/\∀b f d,C9 T H f d->c b->Q b d
def rS (K:AAB)(a:AE):TE:=λc H Q=>∃(B:Cz) (T:zu->Prop) (τ:BA) (d:PV->Prop),SR K B T H c τ/\a τ d/\∀v x e b,C9 T H e b->Cs K e (mt B c τ) b v x->d x->Q v b
def gL {K:AAB}{own:Nat}{a:AG}:Q3 K (qP K own a) a:=λB T d τ H v x Q b c r h k=>⟨B,T,τ,x,b,c,r,h,λσ' τ' s o q _=>k σ' τ' s o q⟩
def ao {K:AAB}{own:Nat}{a:AG}:M4 own (qP K own a):=λv d H Q ⟨B,T,τ,x,b,c,r,h,k⟩=>⟨B,T,τ,x,b,c,r,h,λσ' τ' s o q z=>⟨k σ' τ' s o q z,z⟩⟩
def gM {K:AAB}{a:AT}:U7 K (tI K a) a:=λB T d τ H Q b c h k=>⟨B,T,τ,b,c,h,k⟩
def gK {K:AAB}{a:AE}:HR K (rS K a) a:=λB T d τ H Q b c h k=>⟨B,T,τ,b,c,h,k⟩
section
variable {X:Cx}
def SK.of {own:Nat}{e:zr}{f:AG}(h:SK own X e f):PG X e (qP X.K own f):=by obtain⟨g,p,s,k,m⟩:=h;intro j l a H v u Q I r hw;obtain⟨B,T,τ,x,i,n,t,h,c⟩:=hw;have h1:g v a H λσ' w=>w=H/\∃τ',SR X.K B T H σ' τ'/\(∀b,Cd σ' τ' b->Cd a τ b)/\i τ':=s B T a τ H v x _ i n t h λσ' τ' s o q=>⟨rfl,τ',s,o,q⟩;have h2:=k v a H _ h1;refine p j l a H v u Q I r (m v a H _ _ (λd D q=> ?_) h2);obtain⟨⟨rfl,τ',y,A,C⟩,z⟩:=q;exact c d τ' y A C z
def mw.of {b:zy zr}{a:AT}(h:mw X b a):gw X b (tI X.K a):=by obtain⟨t,p,s⟩:=h;intro e f d H Q I hw;obtain⟨B,T,τ,g,i,h,c⟩:=hw;exact p e f d H Q I (s B T d τ H Q g i h c)
def SE.of {e:zr}{a:AE}(h:SE X e a):PE X e (rS X.K a):=by obtain⟨t,p,s⟩:=h;intro d f b H Q I hw;obtain⟨B,T,τ,g,i,h,c⟩:=hw;exact p d f b H Q I (s B T b τ H Q g i h c)
def Br {f a:zr}{b:zy zr}{scope:Scope}{own:Nat}{ix:zy Nat}{N:zy Str}{g:AG}{t:AT}{c:AE}(h1:scope.kind= .function)(h2:(scope.names.all λy=> !decide (y.2= .cell))=true)(h3:(scope.names.all λy=> !decide (y.2= .local)||decide (scope.names.lookup y.1=some .local))=true)(h:(scope.names.all λy=> !decide (y.2= .free)||decide (X.env.scope.names.lookup y.1=some .cell))=true)(i:N.length=own+ix.length)(j:VS X (relabel scope X.env) own ix N=true)(d:∀cl C s H ex pn,SK own (blk X (relabel scope X.env) N cl C s H ex pn) f g)(e:∀cl C s H ex pn,mw (blk X (relabel scope X.env) N cl C s H ex pn) b t)(val:∀cl C s H ex pn,SE (blk X (relabel scope X.env) N cl C s H ex pn) a c):Wb X f a b scope own ix N g t c:=
 ⟨qP X.K own g,tI X.K t,rS X.K c,Wr h1 h2 h3 h i j ao (λcl C s H ex pn=>(d cl C s H ex pn).of) (λcl C s H ex pn=>(e cl C s H ex pn).of) (λcl C s H ex pn=>(val cl C s H ex pn).of),gL,gM,gK⟩
end
mutual
def pd:PV->PyData
 | .bl b=> .bool b
 | .int i=> .int i
 | .str x=> .str x
 | .tup xs=> .tuple (Rr xs)
 | .lst xs=> .list (Rr xs)
 | _=> .none
def Rr:zy PV->zy PyData
 | [] => []
 | x::xs=>pd x::Rr xs
end
mutual
def ES:Nat->PV->kn
 | _, .non=>true
 | _, .bl _=>true
 | _, .int _=>true
 | _, .str x=>PyData.strOk x
 | n+1, .tup xs=>J7 n xs
 | n+1, .lst xs=>J7 n xs
 | _,_=>false
def J7:Nat->zy PV->kn
 | _, [] =>true
 | n,x::xs=>ES n x&&J7 n xs
end
mutual
theorem JR:∀(n:Nat) (x:PV),ES n x=true->(pd x).canLay0=true/\(pd x).depth<=n/\(pd x).hasDict=false
 | n, .non,_=>⟨rfl,ABG _,rfl⟩
 | n, .bl _,_=>⟨rfl,ABG _,rfl⟩
 | n, .int _,_=>⟨rfl,ABG _,rfl⟩
 | n, .str x,h=>⟨by simpa[pd,PyData.canLay0,ES] using h,ABG _,rfl⟩
 | 0, .tup xs,h=>by simp[ES] at h
 | 0, .lst xs,h=>by simp[ES] at h
 | n+1, .tup xs,h=>by obtain⟨a,b,c⟩:=Nq n xs (by simpa[ES] using h);exact⟨by simpa[pd,PyData.canLay0] using a,by simpa[pd,PyData.depth] using b,by simpa[pd,PyData.hasDict] using c⟩
 | n+1, .lst xs,h=>by obtain⟨a,b,c⟩:=Nq n xs (by simpa[ES] using h);exact⟨by simpa[pd,PyData.canLay0] using a,by simpa[pd,PyData.depth] using b,by simpa[pd,PyData.hasDict] using c⟩
 | n, .tape,h=>by simp[ES] at h
 | n, .scr _,h=>by simp[ES] at h
 | n, .ty _,h=>by simp[ES] at h
 | n, .dct _,h=>by simp[ES] at h
 | n, .dk _,h=>by simp[ES] at h
theorem Nq:∀(n:Nat) (xs:zy PV),J7 n xs=true->PyData.canLayAll0 (Rr xs)=true/\PyData.depthAll (Rr xs)<=n/\PyData.hasDictAll (Rr xs)=false
 | n, [],_=>⟨rfl,ABG _,rfl⟩
 | n,x::xs,h=>by simp only[J7,AA0] at h;obtain⟨a,b,c⟩:=JR n x h.1;obtain⟨d,f,e⟩:=Nq n xs h.2;exact⟨by simp[Rr,PyData.canLayAll0,a,d],by simp only[Rr,PyData.depthAll];omega,by simp[Rr,PyData.hasDictAll,c,e]⟩
end
section
variable {X:Cx}{ke:zy (zu×Obj)}{σ:L2.St}{H:Hp}{s:zw}
mutual
theorem Gj (I:Inv X ke σ H s){T M:zu->Prop}:∀(n:Nat) {x:PV} {v:V} {u:zx},Cs X.K T M H v x->ES n x=true->RelV v u->∃as,Reads s.heap u (pd x) as
 | _,_,_,_, .non,_,r=>by cases r;exact⟨_, .none⟩
 | _,_,_,_, .bl b,_,r=>by cases r;exact⟨_, .bool b⟩
 | _,_,_,_, .int i,_,r=>by obtain⟨t,rfl⟩:=r;exact⟨_, .int i t⟩
 | _,_,_,_, .str x,_,r=>by obtain⟨t,rfl⟩:=r;exact⟨_, .str x t⟩
 | _,_,_,_, .ty n,h,r=>by simp[ES] at h
 | 0,_,_,_, .tup hq rs,h,r=>by simp[ES] at h
 | 0,_,_,_, .lst hq t m rs,h,r=>by simp[ES] at h
 | n+1,_,_,_, .tup hq rs,h,r=>by cases r;obtain⟨a,rv,⟨o,c,hc,k,hd⟩,_⟩:=I.tuple hq.sq;obtain⟨as,ra⟩:=Gi I n rs (by simpa[ES] using h) rv;exact⟨_, .tuple c hc hd (by simpa using ra)⟩
 | n+1,_,_,_, .lst hq t m rs,h,r=>by cases r;obtain⟨a,rv,⟨o,k,c,hc,_,hd⟩,_⟩:=I.list (FO.of hq);obtain⟨as,ra⟩:=Gi I n rs (by simpa[ES] using h) rv;exact⟨_, .list c hc hd (by simpa using ra)⟩
 | _,_,_,_, .tape _,h,r=>by simp[ES] at h
 | _,_,_,_, .scr _,h,r=>by simp[ES] at h
 | _,_,_,_, .dct _ _ _,h,r=>by simp[ES] at h
 | _,_,_,_, .dk _ _,h,r=>by simp[ES] at h
theorem Gi (I:Inv X ke σ H s){T M:zu->Prop}:∀(n:Nat) {xs:zy PV} {vs:zy V} {a:zy zx},Ax X.K T M H vs xs->J7 n xs=true->At vs a->∃as,ReadsAll s.heap a (Rr xs) as
 | _,_,_,_, .nil,_,r=>by cases r;exact⟨_, .nil⟩
 | n,_,_,_, .cons h t,hk,r=>by
   simp only[J7,AA0] at hk;cases r with
   | cons r b=> obtain⟨as,ra⟩:=Gj I n h hk.1 r;obtain⟨bs,c⟩:=Gi I n t hk.2 b;exact⟨_, .cons ra c⟩
end
end
section
variable {X:Cx}
def qO (x y:PV):kn:=PyData.eqv (pd x) (pd y)
def fy (K:AAB)(neg:kn):R2:=λu v H Q=>∃(T M:zu->Prop) (x y:PV),Cs K T M H u x/\Cs K T M H v y/\ES 30 x=true/\ES 30 y=true/\Q (.bl (if neg then !qO x y else qO x y)) H
def j5 {k:Nat}(c:Room k X.A):Dq X (compareOp .Eq) (fy X.K false):=by intro l s m H u v n o Q I d rv h;obtain⟨T,M,x,y,e,f,a,b,q⟩:=h;obtain⟨as,ra⟩:=Gj I 30 e a d;obtain⟨bs,g⟩:=Gj I 30 f b rv;obtain⟨i,p,_⟩:=JR 30 x a;obtain⟨j,b2,_⟩:=JR 30 y b;exact SeqAt.compareEq_reads ra g i j (by have:=c.un;omega) ⟨.bl _,H,I,rfl,q⟩
def j7 {k:Nat}(c:Room k X.A):Dq X (compareOp .NotEq) (fy X.K true):=by intro l s m H u v n o Q I d rv h;obtain⟨T,M,x,y,e,f,a,b,q⟩:=h;obtain⟨as,ra⟩:=Gj I 30 e a d;obtain⟨bs,g⟩:=Gj I 30 f b rv;obtain⟨i,p,_⟩:=JR 30 x a;obtain⟨j,b2,_⟩:=JR 30 y b;exact SeqAt.compareNe_reads ra g i j (by have:=c.un;omega) ⟨.bl _,H,I,rfl,q⟩
def NI:HQ:=λx y Q=>match cN x y with | some b=>Q (.bl b)|none=>(ES 30 x=true/\ES 30 y=true)/\Q (.bl (qO x y))
def YW:HQ:=λx y Q=>match cN x y with | some b=>Q (.bl (!b))|none=>(ES 30 x=true/\ES 30 y=true)/\Q (.bl (!qO x y))
def oY (K:AAB):R2:=λx y H Q=>vV x y H Q\/fy K false x y H Q
def oo (K:AAB):R2:=λx y H Q=>vW x y H Q\/fy K true x y H Q
def Db {k:Nat}(c:Room k X.A):Dq X (compareOp .Eq) (oY X.K)/\Bs X.K (oY X.K) NI:=by
 refine⟨oM.or (j5 c),λT M H u v x y Q d va a rv h k=> ?_⟩;unfold NI at h;split at h
 .rename_i b e;obtain⟨h1,h2⟩:=UX a rv e;refine .inl ⟨h1, ?_⟩;rw[h2];exact k _ _ T H (.refl va.tp) (.bl _) h
 .exact .inr ⟨T,M,x,y,a,rv,h.1.1,h.1.2,k _ _ T H (.refl va.tp) (.bl _) h.2⟩
def LG {k:Nat}(c:Room k X.A):Dq X (compareOp .NotEq) (oo X.K)/\Bs X.K (oo X.K) YW:=by
 refine⟨oP.or (j7 c),λT M H u v x y Q d va a rv h k=> ?_⟩;unfold YW at h;split at h
 .rename_i b e;obtain⟨h1,h2⟩:=UX a rv e;refine .inl ⟨h1, ?_⟩;rw[h2];exact k _ _ T H (.refl va.tp) (.bl _) h
 .exact .inr ⟨T,M,x,y,a,rv,h.1.1,h.1.2,k _ _ T H (.refl va.tp) (.bl _) h.2⟩
structure ip (x:PV):Prop where
 ok:ES 30 x=true
 sh:(pd x).showable=true
 sz:(pd x).shown.length<=sizeLine
end
section
variable {prog:km}{w:kj}{A:kf}{E:zx->zw->Prop}{s:zw}
def LC {h:ki}{l:zu}{items:Array zx}(hl:h.IsList l items)(o:Obj):(h.push o).IsList l items:=by obtain⟨a,e,r⟩:=hl;exact⟨a,AAH _ e,r⟩
theorem Pz {it t:zu}{items:Array zx}(f:t≠it):∀(n i:Nat) (s:zw) (Q:zy zx->zw->Prop),s.heap.IsListIter it t i->s.heap.IsList t items->i+n<=items.size-> (∀h',h'.IsListIter it t (i+n)->Heap.SameBut it s.heap h'->Q ((items.toList.drop i).take n) {s with heap:=h'})->wpAny (model prog w) A (draw (.ref it) n) Q E s
 | 0,i,s,Q,hit,_,_,hQ=>by show wpAny _ _ (pure []) Q E s;exact AAD (by simpa using hQ s.heap hit (Heap.SameBut.refl ..))
 | n+1,i,s,Q,hit,ht,ZY,hQ=>by
   have g:i<items.size:=by omega
   show wpAny _ _ (pyNext (.ref it) >>= _) Q E s;refine AAA (wpAny_pyNext_list_item hit ht (x:=items[i]) (by simp[g]) λh b a=> ?_);refine AAA (AAe (Pz f n (i+1) _ _ b (ht.extBut a.extBut f) (by omega) λe c d=>AAD ?_));have hd:items.toList.drop i=items[i] :: items.toList.drop (i+1):=by simp[ADc,g]
   have:=hQ e (by rw[show i+(n+1)=i+1+n by omega];exact c) (a.trans d);rw[hd,List.take_succ_cons] at this;exact this
def Kv {t:zu}{items:Array zx}{Q:zy zx->zw->Prop}(k:A.handled=none)(g:s.heap.IsList t items)(hQ:∀h',Heap.ExtBut s.heap.objs.size s.heap h'->Q items.toList {s with heap:=h'}):wpAny (model prog w) A (unpackItems (.ref t) items.size none) Q E s:=by
 have j:t≠s.heap.objs.size:=by obtain⟨o,l,_⟩:=g;exact AAM (AAG l)
 unfold unpackItems;refine AAA ?_
 .unfold notIterableAtAll;refine AAA (ABi g.typeIs slot_list_iter.lookup ?_);refine AAD ?_;simp only[AAv,AAl];refine AAA (AAe (ACa g ?_));refine AAA (AAe (Pz j items.size 0 _ _ ⟨_,AAP _ rfl,rfl,rfl⟩ (LC g _) (by omega) λh c a=> ?_));have m:List.take items.size (List.drop 0 items.toList)=items.toList:=by rw[List.drop_zero];exact ACI (by simp)
  rw[m];rw[AAC (by simp)];have d:h.IsList t items:=(LC g _).extBut a.extBut j;refine AAA (AAe (wpAny_pyNext_list_end k c d (by simp) λi f=> ?_));simp only[Option.isSome_none,AAv,AAl];refine AAD (hQ i λb o hb e=>f b o hb (a.extBut b o hb (AAH _ e)))
def JB {env:Env}{elts:zy zr}{x1}{pos:Pos}{t:zu}{items:Array zx}{Q:Unit->zw->Prop}(a:A.handled=none)(b:s.heap.IsList t items)(c:(assignEach elts env).length=items.size)(d:(assignEach elts env).findIdx? (·.1)=none)(h:∀h',Heap.ExtBut s.heap.objs.size s.heap h'->wpAny (model prog w) A (assignInOrder ((assignEach elts env).map (·.2)) items.toList) Q E {s with heap:=h'}):wpAny (model prog w) A (assign (.Tuple elts x1 pos) env (.ref t)) Q E s:=by rw[assign_Tuple];refine AAA (ABX ?_);unfold unpack;rw[c,d];exact AAA (AAe (Kv a b h))
end
section
variable {X:Cx}{pos:Pos}
def VU (K:AAB)(n:Nat)(t:U9):TG:=λv b H Q=>∃a xs,v= .ref a/\(M6 K H a xs\/FO K H a xs)/\xs.length=n/\t xs b H Q
def Rs {es:zy zr}{k:Nat}{t:U9}{n:Nat}(hc:X.calm=true)(h:l8 X es t)(l:(assignEach es X.env).length=n:=by rfl)(m:(assignEach es X.env).findIdx? (·.1)=none:=by rfl):PG X (.Tuple es k pos) (VU X.K n t):=by
 intro d s f H v u Q I r hw;obtain⟨a,xs,p,c,hl,hw⟩:=hw;subst p;cases r;rcases c with c|c
 .obtain ⟨g,rv,i,w⟩:=I.tuple c;refine assign_Tuple_tuple (I.ok.hd hc) i (by simp[l,<-hl,rv.length]) m λh' hx=> ?_;have j:Inv X d f H {s with heap:=h'}:=I.kept (t':=s.toks) λb o e=>hx b o (AAM (AAG e)) e;exact h d _ f H xs _ Q j (by simpa using rv) hw
 .obtain ⟨g,rv,i,w⟩:=I.list c;refine JB (I.ok.hd hc) i.isList (by simp[l,<-hl,rv.length]) m λh' hx=> ?_;have j:Inv X d f H {s with heap:=h'}:=I.kept (t':=s.toks) λb o e=>hx b o (AAM (AAG e)) e;exact h d _ f H xs _ Q j (by simpa using rv) hw
def Hw (n:Nat)(r:Ur):AG:=λx τ Q=>Sg x λxs=>xs.length=n/\r xs τ Q
def cX {K:AAB}{n:Nat}{d:U9}{a:Ur}(s:Po K d a):Q3 K (VU K n d) (Hw n a):=λB T e τ H v x Q f g r h k=>by
 obtain⟨xs,hx,h⟩:=Nx h;rcases hx with rfl|rfl
 .obtain ⟨p,vs,rfl,c,b⟩:=G0 r;exact⟨p,vs,rfl, .inl c,by rw[b.length];exact h.1,s B T e τ H vs _ Q f g b h.2 k⟩
 .obtain ⟨p,vs,rfl,c,i,j,b⟩:=EJ r;exact⟨p,vs,rfl, .inr (.inl (.inl c)),by rw[b.length];exact h.1,s B T e τ H vs _ Q f g b h.2 k⟩
def B2 {es:zy zr}{k:Nat}{a:Ur}{n:Nat}(hc:X.calm=true)(h:qH X es a)(b:(assignEach es X.env).length=n:=by rfl)(c:(assignEach es X.env).findIdx? (·.1)=none:=by rfl):SG X (.Tuple es k pos) (Hw n a):=
 let ⟨_,p,s⟩:=h;⟨_,Rs hc p b c,cX s⟩
def aP {own:Nat}{K:AAB}{n:Nat}{t:U9}(h:M5 own t):M4 own (VU K n t):=λv b H Q ⟨a,xs,e,h1,h2,h3⟩=>⟨a,xs,e,h1,h2,h xs b H Q h3⟩
def KZ {own:Nat}{es:zy zr}{k:Nat}{b:Ur}{n:Nat}(hc:X.calm=true)(h:qI own X es b)(c:(assignEach es X.env).length=n:=by rfl)(d:(assignEach es X.env).findIdx? (·.1)=none:=by rfl):SK own X (.Tuple es k pos) (Hw n b):=
 let ⟨_,p,s,f,m⟩:=h;⟨_,Rs hc p c d,cX s,aP f,λv g H Q i z ⟨a,xs,e,h1,h2,h3⟩=>⟨a,xs,e,h1,h2,m _ _ _ _ _ z h3⟩⟩
def je:l9 X .Mult (λx y H Q=>∃i j,x= .int i/\y= .int j/\MulOk i j/\Q (.int (i*j)) H):=by intro f s g H x y v u Q I a b h;obtain⟨i,j,d,e,c,q⟩:=h;subst d;subst e;obtain⟨t,rfl⟩:=a;obtain⟨t',rfl⟩:=b;exact AutoIntOps.imul_0 (show (Made.int (i*j)).post _ _ from⟨.int _,H,I.tok _,⟨_,rfl⟩,q⟩) (.of_le (HD c.l) (HD c.r) (by decide))
def cS:l9 X .Mult (λx y H Q=>∃i j,x= .int i/\y= .int j/\MulOk i j/\Q (.int (i*j)) H)/\Bs X.K (λx y H Q=>∃i j,x= .int i/\y= .int j/\MulOk i j/\Q (.int (i*j)) H) B9:=⟨je,λT M H u v x y Q b va a rv h k=>by
 obtain⟨i,j,rfl,rfl,c,q⟩:=Rn h;exact⟨i,j,a.toI,rv.toI,c,k _ _ T H (.refl va.tp) (.int _) q⟩⟩
end
def OO {i:Int}(a:0<=i)(b:i<2147483647): -(2^64)<i/\i<2^64:=⟨by omega,by omega⟩
def xi (b:kn):(0:Int)<=(if b=true then 1 else 0):=by cases b <;> decide
def u7 (b:kn): -(2^64)<(if b=true then (1:Int) else 0)/\(if b=true then (1:Int) else 0)<2^64:=by cases b <;> decide
def cx {T:zu->Prop}{H:Hp}{p:zu}{d x:Int}(tp:∀a,T a->FA H a)(t:T p)(c:0<=d)(f:0<=x)(g:x<2147483647):C9 T H T (upd H p (.lst [.int d, .int x])) where
 keep:=λb o n e=>by rw[Ag (λz=>n (by subst z;exact t))];exact e
 sub:=λ_ t=>t
 new:=λ_ t=> .inl t
 tp:=λa h=>by
  by_cases z:a=p
  .subst z;exact⟨d,x,Aj,c,f,g⟩
  .obtain ⟨d',i,e,q⟩:=tp a h;exact⟨d',i,by rw[Ag z];exact e,q⟩
def cv {T:zu->Prop}{H:Hp}{p:zu}{d x:Int}(tp:∀a,T a->FA H a)(hp:H p=none)(f:0<=d)(g:0<=x)(h:x<2147483647):C9 T H (λb=>T b\/b=p) (upd H p (.lst [.int d, .int x])) where
 keep:=λb o n e=>by rw[Ag (Au e hp)];exact e
 sub:=λ_ t=> .inl t
 new:=λb t=>t.elim .inl λz=> .inr (by subst z;exact hp)
 tp:=λa c=>by
  by_cases z:a=p
  .subst z;exact⟨d,x,Aj,f,g,h⟩
  .rcases c with c|c
   .obtain ⟨d',i,e,q⟩:=tp a c;exact⟨d',i,by rw[Ag z];exact e,q⟩
   .exact absurd c z
def law_sp {K:AAB}{H:Hp}{a:zu}{ns:zy Int}{F:AF}(b:FO K H a (ns.map V.int))(h:F [.scr ns] λx=>x= .bl true):CH K 1 F [.ref a] H (λv _=>v= .bl true) λ_ _ _=>False:=by
 refine⟨λ_=>False,λ_=>False, [.scr ns],_,⟨λ_ z=>z.elim,λ_ z=>z.elim⟩,λ_ z=>z.elim, .cons (.scr ?_) .nil,rfl,h,λv x c d _ r e=> ?_⟩
 .rcases b with h|h
  .exact .inl ⟨h,id,id⟩
  .exact .inr λH=> .inr h
 .subst e;cases r;rfl
theorem Ly {g:AG}{b:AS}{D:GI}(a:zy PV->BA->Prop)(hd:∀τ,a [] τ->D.nx τ)(hs:∀x r τ (R:BA->Prop),(∀τ,a r τ->R τ)->a (x::r) τ->g x τ λc=>b {D with nx:=R,ct:=R,bk:=D.nx} c):∀xs τ,a xs τ->DV g b D xs τ
 | [],τ,h=>hd τ h
 | x::r,τ,h=>hs x r τ _ (λd h2=>Ly a hd hs r d h2) h
theorem Wq {g:AG}{t:AT}{f:AE}{b:BA}{Q:zy PV->Prop}(c:zy PV->zy PV->Prop)(hd:∀a,c [] a->Q a)(hs:∀x r a (R:zy PV->Prop),(∀a,c r a->R a)->c (x::r) a->g x b λd=>t d λok=>if ok=true then f d λy=>R (a ++ [y]) else R a):∀xs a,c xs a->C1 g t f b Q xs a
 | [],a,h=>hd a h
 | x::r,a,h=>hs x r a _ (λe h2=>Wq c hd hs r e h2) h
theorem c9 {c:AT}{b:AS}{D:GI}(a:Nat->BA->Prop)(e:∀τ,¬a 0 τ)(hs:∀n τ (R:BA->Prop),(∀τ,a n τ->R τ)->a (n+1) τ->c (frz τ) λk=>if k=true then b {D with nx:=R,ct:=R,bk:=D.nx} τ else D.nx τ):∀n τ,a n τ->Uh c b D n τ
 | 0,τ,h=>absurd h (e τ)
 | n+1,τ,h=>hs n τ _ (λd h2=>c9 a e hs n d h2) h
def FW (lo:Int)(n:Nat):rng lo (n+1)= .int lo::rng (lo+1) n:=by
 unfold rng;rw[List.range_succ_eq_map,AAL,AA7];congr 1
 .simp
 .apply ACJ;intro k _;simp only[Function.comp];congr 1;omega
def V7 (lo:Int)(n:Nat):(rng lo n).length=n:=by simp[rng]
end PL
namespace PL
open PySem L2 PyProof.Rows
def fr (r:Rat):PV:= .tup [.int r.num, .int (r.den:Int)]
def Fq {b:kn}{A B:Prop}(h1:b=true->A)(h2:b=false->B):if b=true then A else B:=by
 cases b with
 | true=>rw[AAE rfl];exact h1 rfl
 | false=>rw[AAC AAT];exact h2 rfl
structure Bd (n:Nat) (r:Rat):Prop where
 top:r.num.natAbs<2^n
 bot:r.den<2^n
def Bd.botI {n:Nat}{r:Rat}(b:Bd n r):(r.den:Int).natAbs<2^n:=by simpa using b.bot
def N0 {m n:Nat}(h:m<=n):2^m<=2^n:=ACb (by decide) h
def Bd.mono {m n:Nat}{r:Rat}(b:Bd m r)(h:m<=n):Bd n r:=⟨AAV b.top (N0 h),AAV b.bot (N0 h)⟩
def Vn {a b m n:Nat}(ha:a<2^m)(hb:b<2^n):a*b<2^(m+n):=by rw[ABO];exact Nat.mul_lt_mul_of_lt_of_le ha (AB8 hb) (Nat.pos_of_ne_zero (by intro z;rw[z] at hb;omega)) |> λh=>h
def Bl {a b:Int}{m n:Nat}(ha:a.natAbs<2^m)(hb:b.natAbs<2^n):(a*b).natAbs<2^(m+n):=by rw[AAr];exact Vn ha hb
def Wi {a b:Int}{n:Nat}(ha:a.natAbs<2^n)(hb:b.natAbs<2^n):(a+b).natAbs<2^(n+1):=by rw[ADd];omega
def Xs {a b:Int}{n:Nat}(ha:a.natAbs<2^n)(hb:b.natAbs<2^n):(a-b).natAbs<2^(n+1):=by rw[ADd];omega
def Al {a m n:Nat}(h:a<2^m)(b:m<=n):a<2^n:=AAV h (N0 b)
def MulOk.of {a b:Int}{m n:Nat}(ha:a.natAbs<2^m)(hb:b.natAbs<2^n)(c:m<=1000000:=by omega)(d:n<=1000000:=by omega):MulOk a b:=⟨Al ha c,Al hb d⟩
def VN (t b:Int):(Rat.divInt t b).num.natAbs<=t.natAbs:=by
 rw[AC3];by_cases h:b=0
 .subst h;simp
 .have e:(b.gcd t:Int) ∣ b.sign*t:=Int.dvd_trans (Int.gcd_dvd_right ..) (Int.dvd_mul_left ..);rw[Int.natAbs_ediv_of_dvd e,AAr];refine AAY (ABt _ _) ?_;rw[Int.natAbs_sign_of_ne_zero h];omega
def VM (t b:Int)(h:b≠0):(Rat.divInt t b).den<=b.natAbs:=by rw[ADe,AAC h];exact ABt _ _
def Bd.divInt {n:Nat}{t b:Int}(h:b≠0)(a:t.natAbs<2^n)(hb:b.natAbs<2^n):Bd n (Rat.divInt t b):=
 ⟨AAf (VN t b) a,AAf (VM t b h) hb⟩
def BZ (a:Rat):(a.den:Int)≠0:=by have:=a.den_pos;omega
def Hv (a b:Rat):a+b=Rat.divInt (a.num*b.den+b.num*a.den) (a.den*b.den):=by have h:=ADf a.num b.num (BZ a) (BZ b);rw[AAy,AAy] at h;exact h
def IX (a b:Rat):a-b=Rat.divInt (a.num*b.den-b.num*a.den) (a.den*b.den):=by have h:=Rat.divInt_sub_divInt a.num b.num (BZ a) (BZ b);rw[AAy,AAy] at h;exact h
def Nk (a b:Rat):a*b=Rat.divInt (a.num*b.num) (a.den*b.den):=by have h:=ADg a.num b.num (d₁:=a.den) (d₂:=b.den);rw[AAy,AAy] at h;exact h
def IA (a b:Rat):a/b=Rat.divInt (a.num*b.den) (a.den*b.num):=by rw[AAp,Rat.inv_def];have h:=ADg a.num b.den (d₁:=a.den) (d₂:=b.num);rw[AAy] at h;exact h
def DC {a b:Int}(ha:a≠0)(hb:b≠0):a*b≠0:=Int.mul_ne_zero ha hb
def Vo {b:Rat}(h:b≠0):b.num≠0:=λz=>h (Rat.num_eq_zero.mp z)
def Bd.add {m n:Nat}{a b:Rat}(ha:Bd m a)(hb:Bd n b):Bd (m+n+1) (a+b):=by
 rw[Hv];refine .divInt (DC (BZ a) (BZ b)) (Wi (Bl ha.top (by simpa using hb.bot)) ?_) ?_
 .rw [Nat.add_comm m n];exact Bl hb.top (by simpa using ha.bot)
 .exact Al (Bl (by simpa using ha.bot) (by simpa using hb.bot)) (by omega)
def Bd.sub {m n:Nat}{a b:Rat}(ha:Bd m a)(hb:Bd n b):Bd (m+n+1) (a-b):=by
 rw[IX];refine .divInt (DC (BZ a) (BZ b)) (Xs (Bl ha.top (by simpa using hb.bot)) ?_) ?_
 .rw [Nat.add_comm m n];exact Bl hb.top (by simpa using ha.bot)
 .exact Al (Bl (by simpa using ha.bot) (by simpa using hb.bot)) (by omega)
def Bd.mul {m n:Nat}{a b:Rat}(ha:Bd m a)(hb:Bd n b):Bd (m+n) (a*b):=by rw[Nk];exact .divInt (DC (BZ a) (BZ b)) (Bl ha.top hb.top) (Bl (by simpa using ha.bot) (by simpa using hb.bot))
def Bd.div {m n:Nat}{a b:Rat}(h:b≠0)(ha:Bd m a)(hb:Bd n b):Bd (m+n) (a/b):=by rw[IA];exact .divInt (DC (BZ a) (Vo h)) (Bl ha.top (by simpa using hb.bot)) (Bl (by simpa using ha.bot) hb.top)
def Bd.neg {n:Nat}{a:Rat}(ha:Bd n a):Bd n (-a):=⟨by show (-a.num).natAbs<_;rw[ABu];exact ha.top,ha.bot⟩
def aH (n:Int):fr (n:Rat)= .tup [.int n, .int 1] :=by simp[fr]
def Bd.int {n:Int}{k:Nat}(h:n.natAbs<2^k)(hk:1<=k):Bd k (n:Rat):=⟨by simpa using h,by simp;omega⟩
def Zg:AS:=
 (Ab (Q5 (Ay (AX YW (aV 1) (aC (.int 0)))) (S7 0 1 (AB (aV 1) (AB (AX YV (aV 0) (aV 1)) AL))))
   (Ao (aV 0)))
def EV:AF:=Ak 2 Zg
def Ev (x y:Nat)(Q:PV->Prop)(h:Q (.int (Nat.gcd x y:Nat))):EV [.int x, .int y] Q:=by
 have go:∀y x:Nat,∀D:GI,D.nx [some (.val (.int (Nat.gcd x y:Nat))),some (.val (.int 0))] ->∃n,Uh (Ay (AX YW (aV 1) (aC (.int 0)))) (S7 0 1 (AB (aV 1) (AB (AX YV (aV 0) (aV 1)) AL))) D n [some (.val (.int x)),some (.val (.int y))] :=by
  intro y;induction y using Nat.strongRecOn with
  | _ y d=>
    intro x D c;by_cases e:y=0
    .subst e;refine⟨1, ?_⟩;rw[Nat.gcd_zero_right] at c;exact c
    .obtain ⟨n,a⟩:=d (x % y) (Nat.mod_lt _ (by omega)) y D (by rw[ACK y,<-Nat.gcd_rec,ACK y];exact c);refine⟨n+1, ?_⟩;refine Fq (b:= !decide ((y:Int)=0)) (λ_=> ?_) (λz=> ?_)
     .have f:(x:Int).fmod (y:Int)=((x % y:Nat):Int):=by rw[ADR _ (by omega)];simp
      refine⟨by omega, ?_⟩;rw[<-f] at a;exact a
     .have:(y:Int)=0:=by simpa using z
      omega
 obtain⟨n,a⟩:=go y x {nx:=λτ=>Ao (aV 0) {nx:=λ_=>Q .non,rt:=Q,bk:=λ_=>False,ct:=λ_=>False} τ,rt:=Q,bk:=λ_=>False,ct:=λ_=>False} h;exact⟨n,a⟩
def X0:AS:=
 (Ab (B3 (Ay (AX Wz (aV 1) (aC (.int 0)))) (An (YB NJ (aV 2)) (Ar 2)) BE)
   (Ao (Aq (AB (AX RD (aV 0) (aV 2)) (AB (AX RD (aV 1) (aV 2)) AL)))))
def iZ:AS:=
 (Ab (An (AN 2 EV (AB (Fc TW (AB (aV 0) AL)) (AB (Fc TW (AB (aV 1) AL)) AL))) (Ar 2))
   X0)
def Fh:AF:=Ak 3 iZ
def bQ (t b:Int)(hb:b≠0):∀s:Int,s=(if b<0 then -(Nat.gcd t.natAbs b.natAbs:Int) else (Nat.gcd t.natAbs b.natAbs:Int))->s≠0/\t.fdiv s=(Rat.divInt t b).num/\b.fdiv s=((Rat.divInt t b).den:Int):=by
 intro s hs;have g:0<Nat.gcd t.natAbs b.natAbs:=ACL _ (by omega);have f:b.gcd t=Nat.gcd t.natAbs b.natAbs:=by rw[AEC,ACK]
 have a:(Nat.gcd t.natAbs b.natAbs:Int) ∣ t:=by rw[<-Int.dvd_natAbs];exact Int.ofNat_dvd.mpr (ADh ..)
 have c:(Nat.gcd t.natAbs b.natAbs:Int) ∣ b:=by rw[<-Int.dvd_natAbs];exact Int.ofNat_dvd.mpr (ABv ..)
 have d:s ∣ t:=by rw[hs];split <;> first | exact Int.neg_dvd.mpr a|exact a
 have e:s ∣ b:=by rw[hs];split <;> first | exact Int.neg_dvd.mpr c|exact c
 refine⟨by rw[hs];split <;> omega, ?_, ?_⟩
 .rw [AED d,AC3,f,hs];by_cases h:b<0
  .rw [AAE h,AEE h,Int.ediv_neg];have:(-1:Int)*t= -t:=by omega
   rw[this,Int.neg_ediv_of_dvd a]
  .rw [AAC h,ADi (by omega),Int.one_mul]
 .rw [AED e,ADe,AAC hb,f,hs];by_cases h:b<0
  .rw [AAE h,Int.ediv_neg];have:(b.natAbs:Int)= -b:=by omega
   rw[ABw,this,Int.neg_ediv_of_dvd c]
  .rw [AAC h];have:(b.natAbs:Int)=b:=by omega
   rw[ABw,this]
def Dn (t b:Int)(hb:b≠0)(f:b.natAbs<2^8900)(Q:PV->Prop)(h:Q (fr (Rat.divInt t b))):Fh [.int t, .int b] Q:=by
 have g:0<Nat.gcd t.natAbs b.natAbs:=ACL _ (by omega);have gl:Nat.gcd t.natAbs b.natAbs<2^8900:=AAf (ABx (by omega) (ABv ..)) f;obtain⟨a,c,d⟩:=bQ t b hb _ rfl;refine⟨rfl,Ev _ _ _ ?_⟩;refine Fq (b:=decide (b<0)) (λz=> ?_) (λz=> ?_)
 .have e:b<0:=AAs z;rw[AAE e] at a c d;refine⟨⟨a,by rw[ABu];exact gl⟩,⟨a,by rw[ABu];exact gl⟩,(show 2<=sizeLine by decide), ?_⟩;unfold fr at h;rw[<-c,<-d] at h;exact h
 .have e:¬b<0:=ABc z;rw[AAC e] at a c d;refine⟨⟨a,gl⟩,⟨a,gl⟩,(show 2<=sizeLine by decide), ?_⟩;unfold fr at h;rw[<-c,<-d] at h;exact h
def Bd.mt {n:Nat}{a b:Rat}(ha:Bd 4000 a)(hb:Bd 4000 b):MulOk a.num b.den/\MulOk b.num a.den/\MulOk a.den b.den/\MulOk a.num b.num/\MulOk a.den b.num:=
 ⟨.of ha.top (by simpa using hb.bot), .of hb.top (by simpa using ha.bot), .of (by simpa using ha.bot) (by simpa using hb.bot), .of ha.top hb.top, .of (by simpa using ha.bot) hb.top⟩
def TL {a b:Rat}(ha:Bd 4000 a)(hb:Bd 4000 b):((a.den:Int)*(b.den:Int)).natAbs<2^8900:=Al (Bl (a:=(a.den:Int)) (by simpa using ha.bot) (by simpa using hb.bot)) (by omega)
def ia:AS:=
 (Ao (AN 2 Fh (AB (AX Ct (AX B9 (AX Ae (aV 0) (aC (.int 0))) (AX Ae (aV 1) (aC (.int 1)))) (AX B9 (AX Ae (aV 1) (aC (.int 0))) (AX Ae (aV 0) (aC (.int 1))))) (AB (AX B9 (AX Ae (aV 0) (aC (.int 1))) (AX Ae (aV 1) (aC (.int 1)))) AL))))
def EB:AF:=Ak 2 ia
def Pn {a b:Rat}(ha:Bd 4000 a)(hb:Bd 4000 b){Q:PV->Prop}(h:Q (fr (a+b))):EB [fr a,fr b] Q:=by obtain⟨m1,m2,m3,_⟩:=Bd.mt (n:=0) ha hb;refine⟨m1,m2,m3,rfl,Dn _ _ (DC (BZ a) (BZ b)) (TL ha hb) _ ?_⟩;rw[Hv] at h;exact h
def dS:AS:=
 (Ao (AN 2 Fh (AB (AX IC (AX B9 (AX Ae (aV 0) (aC (.int 0))) (AX Ae (aV 1) (aC (.int 1)))) (AX B9 (AX Ae (aV 1) (aC (.int 0))) (AX Ae (aV 0) (aC (.int 1))))) (AB (AX B9 (AX Ae (aV 0) (aC (.int 1))) (AX Ae (aV 1) (aC (.int 1)))) AL))))
def Cm:AF:=Ak 2 dS
def Dm {a b:Rat}(ha:Bd 4000 a)(hb:Bd 4000 b){Q:PV->Prop}(h:Q (fr (a-b))):Cm [fr a,fr b] Q:=by obtain⟨m1,m2,m3,_⟩:=Bd.mt (n:=0) ha hb;refine⟨m1,m2,m3,rfl,Dn _ _ (DC (BZ a) (BZ b)) (TL ha hb) _ ?_⟩;rw[IX] at h;exact h
def dU:AS:=
 (Ao (AN 2 Fh (AB (AX B9 (AX Ae (aV 0) (aC (.int 0))) (AX Ae (aV 1) (aC (.int 0)))) (AB (AX B9 (AX Ae (aV 0) (aC (.int 1))) (AX Ae (aV 1) (aC (.int 1)))) AL))))
def Fi:AF:=Ak 2 dU
def M3 {a b:Rat}(ha:Bd 4000 a)(hb:Bd 4000 b){Q:PV->Prop}(h:Q (fr (a*b))):Fi [fr a,fr b] Q:=by obtain⟨_,_,m3,m4,_⟩:=Bd.mt (n:=0) ha hb;refine⟨m4,m3,rfl,Dn _ _ (DC (BZ a) (BZ b)) (TL ha hb) _ ?_⟩;rw[Nk] at h;exact h
def iY:AS:=
 (Ao (AN 2 Fh (AB (AX B9 (AX Ae (aV 0) (aC (.int 0))) (AX Ae (aV 1) (aC (.int 1)))) (AB (AX B9 (AX Ae (aV 0) (aC (.int 1))) (AX Ae (aV 1) (aC (.int 0)))) AL))))
def GU:AF:=Ak 2 iY
def Jz {a b:Rat}(c:b≠0)(ha:Bd 4000 a)(hb:Bd 4000 b){Q:PV->Prop}(h:Q (fr (a/b))):GU [fr a,fr b] Q:=by obtain⟨m1,_,_,_,m5⟩:=Bd.mt (n:=0) ha hb;refine⟨m1,m5,rfl,Dn _ _ (DC (BZ a) (Vo c)) (Al (Bl (a:=(a.den:Int)) (by simpa using ha.bot) hb.top) (by omega)) _ ?_⟩;rw[IA] at h;exact h
def MI:AS:=
 (Ab (An (AX IC (aC (.int 1)) (AX B9 (aC (.int 2)) (Fc jK (AB (AX Wz (aV 1) (aC (.int 0))) AL)))) (Ar 2))
   (Ao (Aq (AB (AX RD (AX B9 (aV 2) (aV 0)) (aV 3)) (AB (AX RD (AX B9 (aV 2) (aV 1)) (aV 3)) AL)))))
def MH:AS:=
 (Ab (Q5 (Ay (AX YT (aV 4) (aC (.int 0)))) (S7 3 4 (AB (aV 4) (AB (AX YV (aV 3) (aV 4)) AL))))
   MI)
def Sj:AS:=
 (Ab (S7 3 4 (AB (Fc TW (AB (aV 0) AL)) (AB (Fc TW (AB (aV 1) AL)) AL)))
   MH)
def BB:AF:=Ak 5 Sj
def RV (t b:Int)(hb:b≠0):∀s:Int,s=(if b<0 then -1 else 1)->(s*t).fdiv (Nat.gcd t.natAbs b.natAbs:Int)=(Rat.divInt t b).num/\(s*b).fdiv (Nat.gcd t.natAbs b.natAbs:Int)=((Rat.divInt t b).den:Int):=by
 intro s hs;have c:0<Nat.gcd t.natAbs b.natAbs:=ACL _ (by omega);have a:b.gcd t=Nat.gcd t.natAbs b.natAbs:=by rw[AEC,ACK]
 have es:b.sign=s:=by
  rw[hs];split
  .rename_i h;exact AEE h
  .exact ADi (by omega)
 rw[AC3,ADe,AAC hb,a,es,ABb _ (by omega),ABb _ (by omega)];refine⟨rfl, ?_⟩;rw[ABw];congr 1;rw[hs];split <;> omega
def ET (t b:Int)(hb:b≠0)(g:t.natAbs<2^900000)(d:b.natAbs<2^8900){Q:PV->Prop}(h:Q (fr (Rat.divInt t b))):BB [.int t, .int b] Q:=by
 have l:0<Nat.gcd t.natAbs b.natAbs:=ACL _ (by omega);have gl:Nat.gcd t.natAbs b.natAbs<2^8900:=AAf (ABx (by omega) (ABv ..)) d;have sg:(1:Int)-2*(if decide (b<0)=true then 1 else 0)=(if b<0 then -1 else 1):=by by_cases z:b<0 <;> simp[z]
 obtain⟨i,a⟩:=RV t b hb _ sg;have go:∀y x:Nat,∀D:GI,∀u v w,D.nx [u,v,w,some (.val (.int (Nat.gcd x y:Nat))),some (.val (.int 0))] ->∃n,Uh (Ay (AX YT (aV 4) (aC (.int 0)))) (S7 3 4 (AB (aV 4) (AB (AX YV (aV 3) (aV 4)) AL))) D n [u,v,w,some (.val (.int x)),some (.val (.int y))] :=by
  intro y;induction y using Nat.strongRecOn with
  | _ y j=>
    intro x D u v w c;by_cases k:y=0
    .subst k;refine⟨1, ?_⟩;rw[Nat.gcd_zero_right] at c;exact c
    .obtain ⟨n,e⟩:=j (x % y) (Nat.mod_lt _ (by omega)) y D u v w (by rw[ACK y,<-Nat.gcd_rec,ACK y];exact c);refine⟨n+1, ?_⟩;refine Fq (b:=decide (0<(y:Int))) (λ_=> ?_) (λz=> ?_)
     .have a:(x:Int).fmod (y:Int)=((x % y:Nat):Int):=by rw[ADR _ (by omega)];simp
      refine⟨by omega, ?_⟩;rw[<-a] at e;exact e
     .have:¬(0:Int)<y:=ABc z;omega
 refine go b.natAbs t.natAbs _ (some (.val (.int t))) (some (.val (.int b))) none ?_;have one:(1:Int).natAbs<2^1:=by decide
 have f:((1:Int)-2*(if decide (b<0)=true then 1 else 0)).natAbs<2^1:=by rw[sg];split <;> decide
 refine⟨.of (m:=2) (n:=1) (by decide) (by split <;> decide), .of f g,⟨by omega,gl⟩, .of f d,⟨by omega,gl⟩,(show 2<=sizeLine by decide), ?_⟩;unfold fr at h;rw[<-i,<-a] at h;exact h
def Co {m:Int}{Q:PV->Prop}(m0:0<m)(m1:m<4611686018427387904)(h:∀r,0<=r->r<m->Q (.int r)):A2 [.tape, .int m] Q:=⟨⟨m0,m1⟩,h⟩
mutual
def yi:Nat->PV->kn
 | 0,_=>false
 | _+1, .non=>true
 | _+1, .bl _=>true
 | _+1, .int _=>true
 | n+1, .tup xs=>oJ n xs&&decide (xs.length<sizeLine)
 | _+1,_=>false
def oJ:Nat->zy PV->kn
 | _, [] =>true
 | n,x::xs=>yi n x&&oJ n xs
end
def pQ {t:Int}{n:Nat}(h:t.natAbs<2^n)(a:n<=900000:=by omega):t.natAbs<2^900000:=Al h a
section
variable {a b:Rat}{Q:PV->Prop}
theorem jq (ha:Bd 4000 a)(hb:Bd 4000 b)(h:Q (fr (a+b))):BB [.int (a.num*b.den+b.num*a.den), .int (a.den*b.den)] Q:=
 ET _ _ (DC (BZ a) (BZ b)) (pQ (Wi (n:=8000) (Bl ha.top hb.botI) (Bl hb.top ha.botI))) (TL ha hb) (by rw[<-Hv];exact h)
theorem jr (ha:Bd 4000 a)(hb:Bd 4000 b)(h:Q (fr (a-b))):BB [.int (a.num*b.den-b.num*a.den), .int (a.den*b.den)] Q:=
 ET _ _ (DC (BZ a) (BZ b)) (pQ (Xs (n:=8000) (Bl ha.top hb.botI) (Bl hb.top ha.botI))) (TL ha hb) (by rw[<-IX];exact h)
end
def Sc {n:Int}{Q:PV->Prop}(h:Q (fr (n:Rat))):Q (.tup [.int n, .int 1]):=by rw[<-aH];exact h
def Bd.part {t b:Int}{n:Nat}(h:b≠0)(a:t.natAbs<2^n)(hb:b.natAbs<2^n):Bd n (Rat.divInt t b):= .divInt h a hb
def lz {a b:Nat}(h:Nat.ble a b=true:=by rfl):a<=b:=ABP h
structure Sh (d n:Nat) (x:PV):Prop where
 ok:ES d x=true
 sh:(pd x).showable=true
 sz:(pd x).shown.length<=n
mutual
theorem Nn:∀{d e:Nat} (x:PV),d<=e->ES d x=true->ES e x=true
 | _,_, .non,_,_=>by simp[ES]
 | _,_, .bl _,_,_=>by simp[ES]
 | _,_, .int _,_,_=>by simp[ES]
 | _,_, .str x,_,h=>by simpa[ES] using h
 | 0,_, .tup xs,_,h=>by simp[ES] at h
 | 0,_, .lst xs,_,h=>by simp[ES] at h
 | d+1,0, .tup xs,h,_=>by omega
 | d+1,0, .lst xs,h,_=>by omega
 | d+1,e+1, .tup xs,h,k=>by simp only[ES] at k ⊢;exact J8 xs (by omega) k
 | d+1,e+1, .lst xs,h,k=>by simp only[ES] at k ⊢;exact J8 xs (by omega) k
 | _,_, .tape,_,h=>by simp[ES] at h
 | _,_, .scr _,_,h=>by simp[ES] at h
 | _,_, .dct _,_,h=>by simp[ES] at h
 | _,_, .dk _,_,h=>by simp[ES] at h
 | _,_, .ty _,_,h=>by simp[ES] at h
theorem J8:∀{d e:Nat} (xs:zy PV),d<=e->J7 d xs=true->J7 e xs=true
 | _,_, [],_,_=>by simp[J7]
 | _,_,x::xs,h,k=>by simp only[J7,AA0] at k ⊢;exact⟨Nn x h k.1,J8 xs h k.2⟩
end
def Sh.mono {d n e m:Nat}{x:PV}(s:Sh d n x)(h1:d<=e)(h2:n<=m):Sh e m x:=⟨Nn x h1 s.ok,s.sh,AAY s.sz h2⟩
def Sh.go {d n:Nat}{x:PV}(s:Sh d n x)(h1:d<=30:=by omega)(h2:n<=16777216:=by omega):ip x:=⟨Nn x h1 s.ok,s.sh,AAY s.sz h2⟩
def Sh.int {i:Int}(h:i.natAbs<2^1900):Sh 0 1902 (.int i):=by
 refine⟨rfl, ?_, ?_⟩
 .show decide (i.natAbs.log2<1920)=true;exact AAO (ACY (JQ h (by decide)) (by decide))
 .show (Str.ofString (toString i)).length<=1902;rw[PySem.ofString_length];exact AAY (int_text_length_le (k:=1900) (by decide) (JQ h (by decide))) (by decide)
theorem Np {d:Nat}:∀{xs:zy PV},(∀x∈xs,ES d x=true)->J7 d xs=true
 | [],_=>rfl
 | x::xs,h=>by simp only[J7,AA0];exact⟨h x (by simp),Np λy a=>h y (by simp[a])⟩
theorem WE:∀{xs:zy PV},(∀x∈xs,(pd x).showable=true)->PyData.showableAll (Rr xs)=true
 | [],_=>rfl
 | x::xs,h=>by simp only[Rr,PyData.showableAll,AA0];exact⟨h x (by simp),WE λy a=>h y (by simp[a])⟩
theorem SZ {n:Nat}:∀{xs:zy PV},(∀x∈xs,(pd x).shown.length<=n)->((PyData.shownAll (Rr xs)).map (·.length)).sum<=xs.length*n
 | [],_=>by simp[Rr,PyData.shownAll]
 | x::xs,h=>by simp only[Rr,PyData.shownAll,AAL,AAh,AAi];have h1:=h x (by simp);have h2:=SZ (n:=n) (xs:=xs) λy a=>h y (by simp[a]);rw[ABQ];omega
theorem F6:∀(xs:zy PV),(PyData.shownAll (Rr xs)).length=xs.length
 | [] =>rfl
 | x::xs=>by simp[Rr,PyData.shownAll,F6 xs]
def Sh.tup {d n:Nat}{xs:zy PV}(h:∀x∈xs,Sh d n x):Sh (d+1) (xs.length*(n+2)+3) (.tup xs):=by refine⟨by simp only[ES];exact Np λx hx=>(h x hx).ok,by simp only[pd,PyData.showable];exact WE λx hx=>(h x hx).sh, ?_⟩;have h1:=SZ (n:=n) (xs:=xs) λx hx=>(h x hx).sz;have h2:=tupleText_len_le (PyData.shownAll (Rr xs));rw[F6] at h2;simp only[pd,PyData.shown];rw[Nat.mul_add];omega
def Sh.lst {d n:Nat}{xs:zy PV}(h:∀x∈xs,Sh d n x):Sh (d+1) (xs.length*(n+2)+3) (.lst xs):=by refine⟨by simp only[ES];exact Np λx hx=>(h x hx).ok,by simp only[pd,PyData.showable];exact WE λx hx=>(h x hx).sh, ?_⟩;have h1:=SZ (n:=n) (xs:=xs) λx hx=>(h x hx).sz;have h2:=listText_len_le (PyData.shownAll (Rr xs));rw[F6] at h2;simp only[pd,PyData.shown];rw[Nat.mul_add];omega
def sU {c:Type}{P:c->Prop}{a b:c}(ha:P a)(hb:P b):∀x∈ [a,b],P x:=λx hx=>by
 simp only[AAF,AAj,AAk] at hx;rcases hx with rfl|rfl
 .exact ha
 .exact hb
def oD {d:Type}{P:d->Prop}{a b c:d}(ha:P a)(hb:P b)(hc:P c):∀x∈ [a,b,c],P x:=λx hx=>by
 simp only[AAF,AAj,AAk] at hx;rcases hx with rfl|rfl|rfl
 .exact ha
 .exact hb
 .exact hc
def oE {e:Type}{P:e->Prop}{a b c d:e}(ha:P a)(hb:P b)(hc:P c)(hd:P d):∀x∈ [a,b,c,d],P x:=λx hx=>by
 simp only[AAF,AAj,AAk] at hx;rcases hx with rfl|rfl|rfl|rfl
 .exact ha
 .exact hb
 .exact hc
 .exact hd
def Sh.fr {r:Rat}(h:Bd 1900 r):Sh 1 4000 (fr r):=(Sh.tup (sU (Sh.int h.top) (Sh.int h.botI))).mono (by omega) lz
def iC {a b:Rat}:decide (a.num*(b.den:Int)<b.num*(a.den:Int))=decide (a<b):=by rw[ABy];exact(Rat.lt_iff a b).symm
def Zf:AS:=
 (Ao (AX Wz (AX B9 (AX Ae (aV 0) (aC (.int 0))) (AX Ae (aV 1) (aC (.int 1)))) (AX B9 (AX Ae (aV 1) (aC (.int 0))) (AX Ae (aV 0) (aC (.int 1))))))
def BD:AF:=Ak 2 Zf
section
variable {a b:Rat}{Q:PV->Prop}
theorem CW (ha:Bd 4000 a)(hb:Bd 4000 b)(h:Q (.bl (decide (a<b)))):BD [fr a,fr b] Q:=by obtain⟨m1,m2,_⟩:=Bd.mt (n:=0) ha hb;refine⟨m1,m2, ?_⟩;rw[<-iC] at h;exact h
def Ut:AS:=
 (Ao (AN 2 BB (AB (AX Ct (AX B9 (AX Ae (aV 0) (aC (.int 0))) (AX Ae (aV 1) (aC (.int 1)))) (AX B9 (AX Ae (aV 1) (aC (.int 0))) (AX Ae (aV 0) (aC (.int 1))))) (AB (AX B9 (AX Ae (aV 0) (aC (.int 1))) (AX Ae (aV 1) (aC (.int 1)))) AL))))
def BQ:AF:=Ak 2 Ut
theorem Hg (ha:Bd 4000 a)(hb:Bd 4000 b)(h:Q (fr (a+b))):BQ [fr a,fr b] Q:=by obtain⟨m1,m2,m3,_⟩:=Bd.mt (n:=0) ha hb;exact⟨m1,m2,m3,rfl,jq ha hb h⟩
def Us:AS:=
 (Ao (AN 2 BB (AB (AX IC (AX B9 (AX Ae (aV 0) (aC (.int 0))) (AX Ae (aV 1) (aC (.int 1)))) (AX B9 (AX Ae (aV 1) (aC (.int 0))) (AX Ae (aV 0) (aC (.int 1))))) (AB (AX B9 (AX Ae (aV 0) (aC (.int 1))) (AX Ae (aV 1) (aC (.int 1)))) AL))))
def Di:AF:=Ak 2 Us
theorem Ow (ha:Bd 4000 a)(hb:Bd 4000 b)(h:Q (fr (a-b))):Di [fr a,fr b] Q:=by obtain⟨m1,m2,m3,_⟩:=Bd.mt (n:=0) ha hb;exact⟨m1,m2,m3,rfl,jr ha hb h⟩
def MO:AS:=
 (Ao (AN 2 BB (AB (AX B9 (AX Ae (aV 0) (aC (.int 0))) (AX Ae (aV 1) (aC (.int 0)))) (AB (AX B9 (AX Ae (aV 0) (aC (.int 1))) (AX Ae (aV 1) (aC (.int 1)))) AL))))
def CV:AF:=Ak 2 MO
end
def rR {t b:Int}(a:0<t)(hb:0<b):0<Rat.divInt t b:=by
 rw[Rat.lt_iff];have h1:=AC3 t b;show (0:Int)*_<_*1;rw[Int.zero_mul,ABm,h1,ADi hb,Int.one_mul];have g:0<(b.gcd t:Int):=by have:=Int.gcd_pos_of_ne_zero_left t (show b≠0 by omega);omega
 exact Int.ediv_pos_of_pos_of_dvd a (by omega) (Int.gcd_dvd_right ..)
def Dv {t b:Int}{Q:PV->Prop}(k:Nat)(hb:b≠0)(a:t.natAbs<2^k)(c:b.natAbs<2^k)(hk:k<=2000)(h:Bd k (Rat.divInt t b)->Q (fr (Rat.divInt t b))):BB [.int t, .int b] Q:=
 ET t b hb (Al a (by omega)) (Al c (by omega)) (h (.part hb a c))
def Mul (D N:Nat)(a:Rat):Prop:=0<D/\∃k:Int,a=Rat.divInt k D/\k.natAbs<=N
def Mul.bd {D N n:Nat}{a:Rat}(h:Mul D N a)(h1:N<2^n)(h2:D<2^n):Bd n a:=by obtain⟨b,k,rfl,hk⟩:=h;exact .divInt (by omega) (by omega) (by simpa using h2)
def Mul.part {t b:Int}{c:Nat}(hb:0<b)(hc:0<c){N:Nat}(h:(t*c).natAbs<=N):Mul (b.toNat*c) N (Rat.divInt t b):=by
 refine⟨AA1 (by omega) hc,t*c, ?_,h⟩;have e:((b.toNat*c:Nat):Int)=b*c:=by rw[AC4];congr 1;omega
 rw[e,(AC5 (by omega) (DC (by omega) (by omega)))];rw[AC6 b,AC7]
def Mul.add {D N M:Nat}{a b:Rat}(ha:Mul D N a)(hb:Mul D M b):Mul D (N+M) (a+b):=by obtain⟨c,k,rfl,hk⟩:=ha;obtain⟨_,l,rfl,hl⟩:=hb;refine⟨c,k+l, ?_,by omega⟩;rw[ADf _ _ (by omega) (by omega),AC5 (DC (by omega) (by omega)) (by omega)];rw[<-Int.add_mul,AC7]
def Mul.mono {D N M:Nat}{a:Rat}(h:Mul D N a)(b:N<=M):Mul D M a:=⟨h.1,let ⟨k,e,hk⟩:=h.2;⟨k,e,by omega⟩⟩
def Mul.int {n:Int}{D N:Nat}(a:0<D)(h:(n*D).natAbs<=N):Mul D N (n:Rat):=by
 have e:(n:Rat)=Rat.divInt n 1:=by rw[<-AAy (n:Rat)];simp
 rw[e];have:=Mul.part (t:=n) (b:=1) (c:=D) (by decide) a h;simpa using this
def MP:AS:=
 (Ab (B3 (Ay (AX Wz (aV 1) (aC (.int 3)))) (Ao (Aq (AB (AX Ct (aC (.int 1)) (AN 2 A2 (AB (aV 0) (AB (aC (.int 5)) AL)))) (AB (aC (.int 1)) AL)))) BE)
   (Ao (AN 2 BB (AB (AX Ct (aC (.int 1)) (AN 2 A2 (AB (aV 0) (AB (aC (.int 8)) AL)))) (AB (AX IC (aV 1) (aC (.int 1))) AL)))))
def Sm:AS:=
 (Ab (An (AN 2 A2 (AB (aV 0) (AB (aC (.int 5)) AL))) (Ar 1))
   MP)
def Eu:AF:=Ak 2 Sm
def LY {Q:PV->Prop}(h:∀a,Bd 8 a->0<a->Mul 6 48 a->Q (fr a)):Eu [.tape] Q:=by
 refine⟨rfl,Co (by decide) (by decide) λw g i=> ?_⟩;refine Fq (b:=decide (w<3)) (λ_=> ?_) (λz=> ?_)
 .refine ⟨rfl,Co (by decide) (by decide) λr d f=>⟨lz, ?_⟩⟩;exact Sc (h _ (.int (by omega) (by decide)) (by exact_mod_cast (by omega:(0:Int)<1+r)) (.int (by decide) (by omega)))
 .have j:¬w<3:=ABc z;have hw:w-1=2\/w-1=3:=by omega
  refine⟨rfl,Co (by decide) (by decide) λr d f=>⟨rfl, ?_⟩⟩;refine Dv 8 (by omega) (by omega) (by omega) (by decide) λb=>h _ b (rR (by omega) (by omega)) ?_;rcases hw with e|e
  .rw [e];exact Mul.part (t:=1+r) (b:=2) (c:=3) (by decide) (by decide) (by omega)
  .rw [e];exact Mul.part (t:=1+r) (b:=3) (c:=2) (by decide) (by decide) (by omega)
def LI:AS:=
 (Ab (B3 (Ay (AX NI (aV 1) (aC (.int 6)))) (Ao (AN 2 BB (AB (AX IC (AN 2 A2 (AB (aV 0) (AB (aC (.int 25)) AL))) (aC (.int 6))) (AB (aC (.int 2)) AL)))) BE)
   (Ao (AN 2 BB (AB (AX IC (AN 2 A2 (AB (aV 0) (AB (aC (.int 31)) AL))) (aC (.int 9))) (AB (aC (.int 3)) AL)))))
def LH:AS:=
 (Ab (B3 (Ay (AX Wz (aV 1) (aC (.int 6)))) (Ao (Aq (AB (AX IC (AN 2 A2 (AB (aV 0) (AB (aC (.int 10)) AL))) (aC (.int 3))) (AB (aC (.int 1)) AL)))) BE)
   LI)
def Qa:AS:=
 (Ab (An (AN 2 A2 (AB (aV 0) (AB (aC (.int 8)) AL))) (Ar 1))
   LH)
def A1:AF:=Ak 2 Qa
def A0 {Q:PV->Prop}(h:∀a,Mul 6 60 a->Q (fr a)):A1 [.tape] Q:=by
 refine⟨rfl,Co (by decide) (by decide) λw f g=> ?_⟩;refine Fq (b:=decide (w<6)) (λ_=> ?_) (λz=> ?_)
 .refine ⟨rfl,Co (by decide) (by decide) λr d e=>⟨lz, ?_⟩⟩;exact Sc (h _ (.int (by decide) (by omega)))
 refine Fq (b:=decide (w=6)) (λ_=> ?_) (λz=> ?_)
 .exact ⟨rfl,Co (by decide) (by decide) λr d e=>⟨rfl,Dv 8 (by omega) (by omega) (by omega) (by decide) λb=>h _ (Mul.part (t:=r-6) (b:=2) (c:=3) (by decide) (by decide) (by omega))⟩⟩
 .exact ⟨rfl,Co (by decide) (by decide) λr d e=>⟨rfl,Dv 8 (by omega) (by omega) (by omega) (by decide) λb=>h _ (Mul.part (t:=r-9) (b:=3) (c:=2) (by decide) (by decide) (by omega))⟩⟩
abbrev C4:=Rat×Rat×Rat×Rat
def cor (c:C4):PV:= .tup [fr c.1,fr c.2.1,fr c.2.2.1,fr c.2.2.2]
def corL (c:C4):PV:= .lst [fr c.1,fr c.2.1,fr c.2.2.1,fr c.2.2.2]
def A8 (cs:zy C4):PV:= .tup (cs.map cor)
structure GC (B:Nat) (c:C4):Prop where
 m:Bd B c.1
 x:Bd B c.2.1
 y:Bd B c.2.2.1
 z:Bd B c.2.2.2
def GC.mono {B a:Nat}{c:C4}(h:GC B c)(k:B<=a):GC a c:=⟨h.m.mono k,h.x.mono k,h.y.mono k,h.z.mono k⟩
structure Iq (D N:Nat) (c:C4):Prop where
 m:Mul D N c.1
 x:Mul D N c.2.1
 y:Mul D N c.2.2.1
 z:Mul D N c.2.2.2
def Iq.mono {D N M:Nat}{c:C4}(h:Iq D N c)(k:N<=M):Iq D M c:=⟨h.m.mono k,h.x.mono k,h.y.mono k,h.z.mono k⟩
def Iq.bd {D N n:Nat}{c:C4}(h:Iq D N c)(h1:N<2^n)(h2:D<2^n):GC n c:=⟨h.m.bd h1 h2,h.x.bd h1 h2,h.y.bd h1 h2,h.z.bd h1 h2⟩
def Hh (cs:zy C4):Prop:=cs.Pairwise λa b=>a.1<b.1
structure Cr (n D N:Nat) (cs:List C4):Prop where
 two:2<=cs.length
 few:cs.length<=n
 mu:∀c∈cs,Iq D N c
 ris:Hh cs
structure Hu (n B:Nat) (cs:List C4):Prop where
 two:2<=cs.length
 few:cs.length<=n
 bd:∀c∈cs,GC B c
 ris:Hh cs
def cG {cs:zy C4}{c d:C4}(h:Hh (cs ++ [c]))(hd:c.1<d.1):Hh (cs ++ [c] ++ [d]):=by
 refine ADj.mpr ⟨h,by simp,λa ha b hb=> ?_⟩;simp at hb;subst hb;rcases AAQ.mp ha with ha|ha
 .have:=(ADj.mp h).2.2 a ha c (by simp);grind
 .simp at ha;subst ha;exact hd
def Ih:AS:=
 (Ab (B3 (Ay (AX YT (aV 5) (aC (.int 3)))) (An (GW (FP (AB (AN 1 A1 (AB (aV 0) AL)) (AB (AN 1 A1 (AB (aV 0) AL)) (AB (AN 1 A1 (AB (aV 0) AL)) AL))))) (Ar 3)) (B3 (Ay (AX YT (aV 5) (aC (.int 0)))) (An (AX Ct (AX Ct (dn (aV 3) dz (d3 (AX IC (aV 5) (aC (.int 1))))) (GW (FP (AB (AN 1 A1 (AB (aV 0) AL)) AL)))) (dn (aV 3) (d3 (aV 5)) dz)) (Ar 3)) BE))
   (GX 4 Ng (AB (Aq (AB (aV 2) (AB (AX Ae (aV 3) (aC (.int 0))) (AB (AX Ae (aV 3) (aC (.int 1))) (AB (AX Ae (aV 3) (aC (.int 2))) AL))))) AL)))
def Ig:AS:=
 (Ab (An (AN 2 A2 (AB (aV 0) (AB (aC (.int 6)) AL))) (Ar 5))
   Ih)
def MJ:AS:=
 (Ab (An (AN 2 BQ (AB (aV 2) (AB (AN 1 Eu (AB (aV 0) AL)) AL))) (Ar 2))
   Ig)
def MN:AS:=
 (Ab (Q5 (Ay (AX Wz (Fc GH (AB (aV 4) AL)) (aV 1))) MJ)
   (Ao (Fc Cw (AB (aV 4) AL))))
def MM:AS:=
 (Ab (Le (FP (AB (Aq (AB (aV 2) (AB (AX Ae (aV 3) (aC (.int 0))) (AB (AX Ae (aV 3) (aC (.int 1))) (AB (AX Ae (aV 3) (aC (.int 2))) AL))))) AL)) 4)
   MN)
def ML:AS:=
 (Ab (An (GW (FP (AB (AN 1 A1 (AB (aV 0) AL)) (AB (AN 1 A1 (AB (aV 0) AL)) (AB (AN 1 A1 (AB (aV 0) AL)) AL))))) (Ar 3))
   MM)
def GK:AS:=
 (Ab (An (Aq (AB (AN 2 A2 (AB (aV 0) (AB (aC (.int 12)) AL))) (AB (aC (.int 1)) AL))) (Ar 2))
   ML)
def MK:AS:=
 (Ab (B3 (Ay (AX NI (AN 2 A2 (AB (aV 0) (AB (aC (.int 8)) AL))) (aC (.int 0)))) (An (AX Ct (aC (.int 7)) (AN 2 A2 (AB (aV 0) (AB (aC (.int 3)) AL)))) (Ar 1)) BE)
   GK)
def Sk:AS:=
 (Ab (An (AX Ct (aC (.int 2)) (AN 2 A2 (AB (aV 0) (AB (aC (.int 4)) AL)))) (Ar 1))
   MK)
def D2:AF:=Ak 6 Sk
def XZ (many:Int)(D o f:zt AV)(j:zt AV)(K:2<=many)(h1:many<=9){Q:PV->Prop}(h:∀cs,Cr 9 6 512 cs->Q (A8 cs)):GK {nx:=λ_=>Q .non,rt:=Q,bk:=λ_=>False,ct:=λ_=>False} [some (.val .tape),some (.val (.int many)),D,o,j,f] :=by
 refine⟨rfl,Co (by decide) (by decide) λm m0 m1=>⟨lz, ?_⟩⟩;refine⟨rfl,A0 λx hx=>⟨rfl,A0 λy k=>⟨rfl,A0 λz l=>⟨lz, ?_⟩⟩⟩⟩;refine⟨lz,lz, ?_⟩;refine⟨(many-1).toNat+1,c9 (λn τ=>∃(cs:zy C4) (c:C4) (f:zt AV),n+(cs.length+1)=many.toNat+1/\1<=n/\(∀d∈cs ++ [c],Iq 6 (66+48*cs.length) d)/\(Mul 6 60 c.2.1/\Mul 6 60 c.2.2.1/\Mul 6 60 c.2.2.2)/\Hh (cs ++ [c])/\
  τ= [some (.val .tape),some (.val (.int many)),some (.val (fr c.1)),some (.val (.lst [fr c.2.1,fr c.2.2.1,fr c.2.2.2])),some (.own ((cs ++ [c]).map cor)),f]) ?_ ?_ _ _ ⟨[],((m:Rat),x,y,z),f, ?_, ?_, ?_, ?_, ?_, ?_⟩⟩
 .rintro τ ⟨cs,c,f,_,E,_⟩;omega
 .rintro n τ R F ⟨cs,c,f,E,L,hb,g,u,rfl⟩;have v:(((cs ++ [c]).map cor).length:Int)=(cs.length:Int)+1:=by simp
  refine Fq (b:=decide ((((cs ++ [c]).map cor).length:Int)<many)) (λz=> ?_) (λz=> ?_)
  .have r:(((cs ++ [c]).map cor).length:Int)<many:=AAs z;rw[v] at r;have A:=hb c (by simp);refine⟨rfl,LY λs G M H=>⟨rfl,Hg ((A.m.bd (n:=12) (by omega) (by decide)).mono (by omega)) (G.mono (by omega)) ?_⟩⟩;refine⟨rfl,Co (by decide) (by decide) λw N O=> ?_⟩;have a:∀(t:GI) (x y z:Rat) (f:zt AV),t.nx=R->Mul 6 60 x->Mul 6 60 y->Mul 6 60 z->GX 4 Ng (AB (Aq (AB (aV 2) (AB (AX Ae (aV 3) (aC (.int 0))) (AB (AX Ae (aV 3) (aC (.int 1))) (AB (AX Ae (aV 3) (aC (.int 2))) AL))))) AL)
    t [some (.val .tape),some (.val (.int many)),some (.val (fr (c.1+s))),some (.val (.lst [fr x,fr y,fr z])),some (.own ((cs ++ [c]).map cor)),f] :=by
    intro t x y z f I B i C;refine⟨lz, ?_, ?_⟩
    .show _<16777216;omega
    .rw [I];have J:Mul 6 (66+48*(cs.length+1)) (c.1+s):=(A.m.add H).mono (by omega);refine F _ ⟨cs ++ [c],(c.1+s,x,y,z),f,by simp;omega,by omega, ?_,⟨B,i,C⟩,cG u ?_, ?_⟩
     .intro d hd;rcases AAQ.mp hd with hd|hd
      .exact (hb d hd).mono (by simp;omega)
      .simp at hd;subst hd;have e:(cs ++ [c]).length=cs.length+1:=by simp
       rw[e];exact⟨J,B.mono (by omega),i.mono (by omega),C.mono (by omega)⟩
     .show c.1<c.1+s;grind
     .rw [ABz (l₁:=cs ++ [c])];rfl
   refine Fq (b:=decide (3<w)) (λ_=> ?_) (λo=> ?_)
   .exact ⟨rfl,A0 λx hx=>⟨rfl,A0 λy k=>⟨rfl,A0 λz l=>⟨lz,a _ x y z _ rfl hx k l⟩⟩⟩⟩
   refine Fq (b:=decide (0<w)) (λj=> ?_) (λj=> ?_)
   .have P:¬3<w:=ABc o;have S:0<w:=AAs j;have hw:w=1\/w=2\/w=3:=by omega
    rcases hw with rfl|rfl|rfl
    .exact Dz ⟨rfl,A0 λp hp=>⟨lz,lz,Dz ⟨lz,a _ p _ _ _ rfl hp g.2.1 g.2.2⟩⟩⟩
    .exact Dz ⟨rfl,A0 λp hp=>⟨lz,lz,Dz ⟨lz,a _ _ p _ _ rfl g.1 hp g.2.2⟩⟩⟩
    .exact Dz ⟨rfl,A0 λp hp=>⟨lz,lz,Dz ⟨lz,a _ _ _ p _ rfl g.1 g.2.1 hp⟩⟩⟩
   .exact a _ _ _ _ _ rfl g.1 g.2.1 g.2.2
  .have r:¬(((cs ++ [c]).map cor).length:Int)<many:=ABc z;rw[v] at r;refine h (cs ++ [c]) ⟨by simp;omega,by simp;omega,λd hd=>(hb d hd).mono (by omega),u⟩
 .simp;omega
 .omega
 .intro d hd;simp at hd;subst hd;exact⟨.int (by decide) (by simp;omega),hx.mono (by decide),k.mono (by decide),l.mono (by decide)⟩
 .exact ⟨hx,k,l⟩
 .exact AEF _ _
 .simp only[cor,aH,AA8,AAL,ABr];rfl
def GR {Q:PV->Prop}(h:∀cs,Cr 9 6 512 cs->Q (A8 cs)):D2 [.tape] Q:=by
 refine⟨rfl,Co (by decide) (by decide) λa d e=>⟨rfl,Co (by decide) (by decide) λb f g=> ?_⟩⟩;refine Fq (b:=decide (b=0)) (λ_=> ?_) (λ_=> ?_)
 .exact ⟨rfl,Co (by decide) (by decide) λc c0 i=>XZ (7+c) _ _ _ _ (by omega) (by omega) h⟩
 .exact XZ (2+a) _ _ _ _ (by omega) (by omega) h
def mid (a b:Rat):Rat:=(a+b)/2
def jA {cs:zy C4}{i:Int}{k:Nat}(hk:i=(k:Int))(h:k<=cs.length):Lg (cs.map cor) none (some i)=(cs.take k).map cor:=by unfold Lg;rw[hk,HT.sIx_none,HT.sIx_nat];rw[show min k (cs.map cor).length=k by simp;omega,List.map_take];simp
def Mul.mid {D N:Nat}{a b:Rat}(ha:Mul D N a)(hb:Mul D N b):Mul (2*D) (2*N) (mid a b):=by
 obtain⟨c,k,rfl,hk⟩:=ha;obtain⟨_,l,rfl,hl⟩:=hb;refine⟨by omega,k+l, ?_,by omega⟩;have h2:(2:Rat)=Rat.divInt 2 1:=rfl;unfold PL.mid;rw[ADf _ _ (by omega) (by omega),AAp,h2,Rat.inv_divInt,ADg,ABm,AC5 (DC (DC (by omega) (by omega)) (by decide)) (by omega),<-Int.add_mul];have e:((2*D:Nat):Int)=2*(D:Int):=by omega
 rw[e,AC7,AC7,AC6 2 (D:Int)]
def Mul.dbl {D N:Nat}{a:Rat}(h:Mul D N a):Mul (2*D) (2*N) a:=by
 have:=h.mid h
 rwa [show PL.mid a a=a by unfold PL.mid;grind] at this
def Cr.ok {n D N m:Nat}{cs:zy C4}(p:Cr n D N cs)(h1:N<2^m)(h2:D<2^m):Hu n m cs:=⟨p.two,p.few,λc hc=>(p.mu c hc).bd h1 h2,p.ris⟩
def GD (cs:zy C4)(v:PV):Prop:=∃f:C4->PV,(f=cor\/f=corL)/\(v= .tup (cs.map f)\/v= .lst (cs.map f))
def GD.self (cs:zy C4):GD cs (A8 cs):=⟨cor, .inl rfl, .inl rfl⟩
def GD.lists (cs:zy C4):GD cs (.lst (cs.map corL)):=⟨corL, .inr rfl, .inr rfl⟩
theorem Ew {i m:Type}{g:AG}{j:AE}{d:BA}{Q:zy PV->Prop}(f:i->PV)(k:m->PV)(e:i->m)(P:i->Prop)(hs:∀a,P a->∀R:PV->Prop,R (k (e a))->g (f a) d λl=>j l R):∀(xs:zy i) (c:zy PV),(∀a∈xs,P a)->Q (c++(xs.map e).map k)->C1 g Ea j d Q (xs.map f) c
 | [],c,_,h=>(by simpa using h:Q c)
 | a::xs,c,hp,h=>by refine hs a (hp a (by simp)) (λy=>C1 g Ea j d Q (xs.map f) (c ++ [y])) (Ew f k e P hs xs _ (λb hb=>hp b (by simp[hb])) ?_);simpa using h
def Sh.cor {c:C4}(h:GC 1900 c):Sh 2 17000 (cor c):=(Sh.tup (oE (Sh.fr h.m) (Sh.fr h.x) (Sh.fr h.y) (Sh.fr h.z))).mono (by decide) lz
def Sh.corL {c:C4}(h:GC 1900 c):Sh 2 17000 (corL c):=(Sh.lst (oE (Sh.fr h.m) (Sh.fr h.x) (Sh.fr h.y) (Sh.fr h.z))).mono (by decide) lz
abbrev T3:=Rat×Rat×Rat
def inter (a b:C4)(m:Rat):T3:=(a.2.1+(m-a.1)/(b.1-a.1)*(b.2.1-a.2.1),a.2.2.1+(m-a.1)/(b.1-a.1)*(b.2.2.1-a.2.2.1),a.2.2.2+(m-a.1)/(b.1-a.1)*(b.2.2.2-a.2.2.2))
def spotG:C4->zy C4->Rat->zt T3
 | _, [],_=>none
 | a,b::r,m=>if b.1<m then spotG b r m else some (inter a b m)
def spotC:zy C4->Rat->zt T3
 | [],_=>none
 | a::r,m=>if m<a.1 then none else spotG a r m
def Kq (t:T3):PV:= .tup [fr t.1,fr t.2.1,fr t.2.2]
def iQ:zt T3->PV
 | none=> .non
 | some t=>Kq t
structure Hi (B:Nat) (t:T3):Prop where
 x:Bd B t.1
 y:Bd B t.2.1
 z:Bd B t.2.2
def Hi.mono {B a:Nat}{t:T3}(h:Hi B t)(k:B<=a):Hi a t:=⟨h.x.mono k,h.y.mono k,h.z.mono k⟩
section
variable {B M:Nat}{a b:C4}{m:Rat}
theorem WO {x y:Rat}(h:x<y):y-x≠0:=by grind
theorem Bd.share (ha:GC B a)(hb:GC B b)(c:Bd M m)(h:a.1<b.1):Bd (M+B+1+(B+B+1)) ((m-a.1)/(b.1-a.1)):=(c.sub ha.m).div (WO h) (hb.m.sub ha.m)
theorem Hi.inter (ha:GC B a)(hb:GC B b)(c:Bd M m)(h:a.1<b.1):Hi (M+6*B+10) (inter a b m):=by have s:=Bd.share ha hb c h;exact⟨(ha.x.add (s.mul (hb.x.sub ha.x))).mono (by omega),(ha.y.add (s.mul (hb.y.sub ha.y))).mono (by omega),(ha.z.add (s.mul (hb.z.sub ha.z))).mono (by omega)⟩
end
theorem Hi.spotG {B M:Nat}{m:Rat}(d:Bd M m):∀{a:C4} {r:zy C4},Hh (a::r)->(∀c∈a::r,GC B c)->∀t,spotG a r m=some t->Hi (M+6*B+10) t
 | a, [],_,_,t,e=>by cases e
 | a,b::r,hr,hb,t,e=>by
   unfold PL.spotG at e;split at e
   .exact Hi.spotG d (AAN.mp hr).2 (λc hc=>hb c (by simp[hc])) t e
   .cases e;exact .inter (hb a (by simp)) (hb b (by simp)) d ((AAN.mp hr).1 b (by simp))
def Hi.spotC {B M:Nat}{m:Rat}{cs:zy C4}(b:Bd M m)(d:Hh cs)(hb:∀c∈cs,GC B c):∀t,spotC cs m=some t->Hi (M+6*B+10) t:=λt e=>by
 cases cs with
 | nil=>cases e
 | cons a r=>
   simp only[PL.spotC] at e;split at e
   .cases e
   .exact Hi.spotG b d hb t e
def Fo {f:C4->PV}{cs:zy C4}{i:Int}{k:Nat}{c:C4}{Q:PV->Prop}(hk:i=(k:Int))(e:cs[k]? =some c)(h:Q (f c)):fF (J2 (cs.map f) i) Q:=by have q:J2 (cs.map f) ((k:Nat):Int)=some (f c):=DU (by rw[AAg,e] <;> rfl);rw[hk,q];exact h
def TY {f:C4->PV}{cs:zy C4}{c:C4}{Q:PV->Prop}(e:cs.getLast?=some c)(h:Q (f c)):fF (J2 (cs.map f) (-1)) Q:=by
 have a:cs≠ [] :=by intro z;subst z;cases e
 have hl:0<cs.length:=List.length_pos_iff.mpr a;have q:J2 (cs.map f) (-1)=some (f c):=by
  unfold J2 XI;rw[AAK,AAC (by decide),AAE (by omega)];have b:(-1+(cs.length:Int)).toNat=cs.length-1:=by omega
  rw[Option.bind_some,b,AAg,<-List.getLast?_eq_getElem?,e];rfl
 rw[q];exact h
def Mi:AS:=
 (Ab (An (AN 2 GU (AB (AN 2 Cm (AB (aV 2) (AB (AX Ae (aV 0) (aC (.int 0))) AL))) (AB (AN 2 Cm (AB (AX Ae (aV 1) (aC (.int 0))) (AB (AX Ae (aV 0) (aC (.int 0))) AL))) AL))) (Ar 3))
   (Ao (Fc Cw (AB (GW (Bx (i6 (AB (dn (aV 0) (d3 (aC (.int 1))) dz) (AB (dn (aV 1) (d3 (aC (.int 1))) dz) AL))) 2 [3] (Hw 2 (Ad (Ar 0) (Ad (Ar 1) BY))) Ea (AN 2 EB (AB (aV 0) (AB (AN 2 Fi (AB (aV 2) (AB (AN 2 Cm (AB (aV 1) (AB (aV 0) AL))) AL))) AL))))) AL))))
def DR:AF:=Ak 4 Mi
def Iw {f:C4->PV}(j:f=cor\/f=corL){a b:C4}{B M:Nat}{m:Rat}(ha:GC B a)(hb:GC B b)(c:Bd M m)(h:a.1<b.1)(l:M+6*B+10<=3990){Q:PV->Prop}(q:Q (Kq (inter a b m))):DR [f a,f b,fr m] Q:=by
 simp only[Kq,inter] at q;have s:=Bd.share ha hb c h;have key:C1 (Hw 2 (Ad (Ar 0) (Ad (Ar 1) BY))) Ea (AN 2 EB (AB (aV 0) (AB (AN 2 Fi (AB (aV 2) (AB (AN 2 Cm (AB (aV 1) (AB (aV 0) AL))) AL))) AL))) [none,none,some (.val (fr ((m-a.1)/(b.1-a.1))))] (λxs=>Q (.tup xs))
  ([(a.2.1,b.2.1),(a.2.2.1,b.2.2.1),(a.2.2.2,b.2.2.2)].map λp:Rat×Rat=>PV.tup [fr p.1,fr p.2]) [] :=by refine Ew (λp:Rat×Rat=>PV.tup [fr p.1,fr p.2]) fr (λp=>p.1+(m-a.1)/(b.1-a.1)*(p.2-p.1)) (λp=>Bd B p.1/\Bd B p.2) (λp hp R k=> ?_) _ [] (oD ⟨ha.x,hb.x⟩ ⟨ha.y,hb.y⟩ ⟨ha.z,hb.z⟩) q;have d:=hp.1;have g:=hp.2;exact⟨rfl,rfl,Dm (g.mono (by omega)) (d.mono (by omega)) ⟨rfl,M3 (s.mono (by omega)) ((g.sub d).mono (by omega)) ⟨rfl,Pn (d.mono (by omega)) ((s.mul (g.sub d)).mono (by omega)) k⟩⟩⟩
 have m1:=c.mono (n:=4000) (by omega);have e:=ha.m.mono (n:=4000) (by omega);have i:=hb.m.mono (n:=4000) (by omega);rcases j with rfl|rfl
 .exact ⟨rfl,Dm m1 e ⟨rfl,Dm i e ⟨rfl,Jz (WO h) ((c.sub ha.m).mono (by omega)) ((hb.m.sub ha.m).mono (by omega)) (ME (ME ⟨lz,key⟩))⟩⟩⟩
 .exact ⟨rfl,Dm m1 e ⟨rfl,Dm i e ⟨rfl,Jz (WO h) ((c.sub ha.m).mono (by omega)) ((hb.m.sub ha.m).mono (by omega)) (Dz (Dz ⟨lz,key⟩))⟩⟩⟩
def Qq:AS:=
 (Ab (Fk (du (AB (aC (.int 1)) (AB (Fc GH (AB (aV 0) AL)) AL))) (Ar 2) (B3 (Df (Ay (AN 2 BD (AB (AX Ae (AX Ae (aV 0) (aV 2)) (aC (.int 0))) (AB (aV 1) AL))))) (Ao (AN 3 DR (AB (AX Ae (aV 0) (AX IC (aV 2) (aC (.int 1)))) (AB (AX Ae (aV 0) (aV 2)) (AB (aV 1) AL))))) BE))
   (Ao (aC .non)))
def X1:AS:=
 (Ab (B3 (Ay (AN 2 BD (AB (aV 1) (AB (AX Ae (AX Ae (aV 0) (aC (.int 0))) (aC (.int 0))) AL)))) (Ao (aC .non)) BE)
   Qq)
def HB:AF:=Ak 3 X1
def R1 {cs:zy C4}(h:Hh cs){k:Nat}{a b:C4}(c:cs[k]? =some a)(d:cs[k+1]? =some b):a.1<b.1:=by have h1:=(AAz.mp c);have h2:=(AAz.mp d);obtain⟨e,rfl⟩:=h1;obtain⟨f,rfl⟩:=h2;exact AEG.mp h k (k+1) e f (by omega)
def Qz {cs:zy C4}{v:PV}{B M:Nat}{m:Rat}(hv:GD cs v)(hc:∀c∈cs,GC B c)(A:Hh cs)(C:cs≠ [])(hl:cs.length<=1000)(s:Bd M m)(D:M+6*B+10<=3990){Q:PV->Prop}(q:Q (iQ (spotC cs m))):HB [v,fr m] Q:=by
 obtain⟨f,t,hv⟩:=hv;have m1:=s.mono (n:=4000) (by omega);cases cs with
 | nil=>exact absurd rfl C
 | cons a r=>
   have ba:=hc a (by simp);have E:=ba.m.mono (n:=4000) (by omega);simp only[spotC] at q;have F:r.length+1<=1000:=hl;have u:∀(c:C4) (P:PV->Prop),P (fr c.1)->Sg (f c) λG=>fF (J2 G 0) P:=λc P H=>by rcases t with rfl|rfl <;> exact H
   rcases hv with rfl|rfl;all_goals
    refine Fo (k:=0) (c:=a) rfl rfl (u a _ ⟨rfl,CW m1 E ?_⟩);refine Fq (b:=decide (m<a.1)) (λz=> ?_) (λz=> ?_)
    .rw [AAE (AAs z)] at q;exact q
    .rw [AAC (ABc z)] at q;have i:∀f:C4->PV,((((a::r).map f).length:Nat):Int)=r.length+1:=λf=>by simp
     refine⟨⟨by decide,by decide,by rw[i];omega,by rw[i];omega⟩, ?_⟩;rw[i,show ((r.length:Int)+1-1).toNat=r.length by omega];refine Ly (λw τ=>∃(k:Nat) (j:zt AV) (c:C4) (ds:zy C4),w=rng ((k:Int)+1) ds.length/\(a::r)[k]? =some c/\(a::r).drop (k+1)=ds/\spotG c ds m=spotG a r m/\τ= [some (.val _),some (.val (fr m)),j]) ?_ ?_ _ _ ⟨0,none,a,r,rfl,rfl,rfl,rfl,rfl⟩
     .rintro τ ⟨k,j,c,ds,g,h,o,es,rfl⟩;have:ds= [] :=by
       cases ds with
       | nil=>rfl
       | cons d ds=>rw[AAi,FW] at g;cases g
      subst this;rw[<-es] at q;exact q
     .rintro x w τ R I ⟨k,j,c,ds,g,h,o,es,rfl⟩;cases ds with
      | nil=>cases g
      | cons d ds=>
        rw[AAi,FW] at g;cases g;have e:(a::r)[k+1]? =some d:=by have:=congrArg (λl=>l[0]?) o;simpa[AC8] using this
        have y:=hc d (ABo e);have J:=hc c (ABo h);refine Fo (k:=k+1) (by omega) e (u d _ ⟨rfl,CW (y.m.mono (by omega)) m1 ?_⟩);refine Fq (b:= !decide (d.1<m)) (λz=> ?_) (λz=> ?_)
        .have p:¬d.1<m:=by simpa using z
         rw[<-es] at q;simp only[spotG,AAC p,iQ] at q;exact Fo (k:=k) (by omega) h (Fo (k:=k+1) (by omega) e ⟨rfl,Iw t J y s (R1 A h e) D q⟩)
        .have p:d.1<m:=by simpa using z
         refine I _ ⟨k+1,_,d,ds, ?_,e, ?_, ?_,rfl⟩
         .rw [show (((k+1:Nat):Int)+1)=(k:Int)+1+1 by omega]
         .have:=congrArg List.tail o;simpa[List.tail_drop] using this
         .rw [<-es];simp only[spotG,AAE p]
def Gb {a b:C4}(h:a.1<b.1):inter a b a.1=a.2:=by
 have s:(a.1-a.1)/(b.1-a.1)=0:=by grind
 simp only[inter,s];obtain⟨m,x,y,z⟩:=a;show (x+0*(b.2.1-x),y+0*(b.2.2.1-y),z+0*(b.2.2.2-z))=(x,y,z);rw[show x+0*(b.2.1-x)=x by grind,show y+0*(b.2.2.1-y)=y by grind,show z+0*(b.2.2.2-z)=z by grind]
def Ef {a b:C4}(h:a.1<b.1):inter a b b.1=b.2:=by
 have s:(b.1-a.1)/(b.1-a.1)=1:=by grind
 simp only[inter,s];obtain⟨m,x,y,z⟩:=b;show (a.2.1+1*(x-a.2.1),a.2.2.1+1*(y-a.2.2.1),a.2.2.2+1*(z-a.2.2.2))=(x,y,z);rw[show a.2.1+1*(x-a.2.1)=x by grind,show a.2.2.1+1*(y-a.2.2.1)=y by grind,show a.2.2.2+1*(z-a.2.2.2)=z by grind]
theorem Jd:∀{a:C4} {r:zy C4},Hh (a::r)->∀c∈r,spotG a r c.1=some c.2
 | a, [],_,c,hc=>by cases hc
 | a,b::r,hr,c,hc=>by
   have e:=(AAN.mp hr).1 b (by simp);have d:Hh (b::r):=(AAN.mp hr).2;rcases AAF.mp hc with rfl|hc
   .have:¬c.1<c.1:=by grind
    simp only[spotG,AAC this,Ef e]
   .have:b.1<c.1:=(AAN.mp d).1 c hc;simp only[spotG,AAE this];exact Jd d c hc
def Jc {cs:zy C4}(d:Hh cs)(h2:2<=cs.length):∀c∈cs,spotC cs c.1=some c.2:=λc hc=>by
 match cs,d,h2,hc with
 | a::b::r,d,_,hc=>
   have e:=(AAN.mp d).1 b (by simp);rcases AAF.mp hc with rfl|hc
   .have h1:¬c.1<c.1:=by grind
    have h3:¬b.1<c.1:=by grind
    simp only[spotC,spotG,AAC h1,AAC h3,Gb e]
   .have h1:¬c.1<a.1:=by have:=(AAN.mp d).1 c hc;grind
    simp only[spotC,AAC h1];exact Jd d c hc
def UZ {a:C4}{r:zy C4}{m:Rat}(h:m<a.1):spotC (a::r) m=none:=by simp only[spotC,AAE h]
def ip.t3 {t:T3}(h:Hi 1900 t):ip (Kq t):=(Sh.tup (oD (Sh.fr h.x) (Sh.fr h.y) (Sh.fr h.z))).go (by decide) lz
def sp (cs:zy C4)(m:Rat):C4:=(m,(spotC cs m).getD (0,0,0))
def OY (f t:Rat)(c:C4):kn:=decide (f<c.1)&&decide (c.1<t)
def CD (cs:zy C4)(f t:Rat):zy C4:=sp cs f::(cs.filter (OY f t) ++ [sp cs t])
theorem OP {m:Rat}:∀{a:C4} {r:zy C4} {l:C4},r≠ [] ->(a::r).getLast?=some l->m<=l.1->∃t,spotG a r m=some t
 | a, [],l,h,_,_=>absurd rfl h
 | a,b::r,l,_,e,hm=>by
   simp only[spotG];split
   .rename_i h;cases r with
    | nil=>
      have:b=l:=by simpa using e
      subst this;grind
    | cons c r=>exact OP (l:=l) (by simp) (by simpa[ACN] using e) hm
   .exact ⟨_,rfl⟩
def Em {a:C4}{r:zy C4}{l:C4}{m:Rat}(h2:r≠ [])(e:(a::r).getLast?=some l)(b:a.1<=m)(h1:m<=l.1):∃t,spotC (a::r) m=some t:=by simp only[spotC];rw[AAC (by grind)];exact OP h2 e h1
def Yq {a b l:C4}{r:zy C4}(e:(a::b::r).getLast?=some l):(b::r).getLast?=some l:=by simpa[ACN] using e
def mx (b a:Rat):Rat:=if b<a then a else b
def mn (e l:Rat):Rat:=if e<l then e else l
def XV (cs:zy C4)(f t:Rat):zt (zy C4):=if f<t then some (CD cs f t) else none
def bP:zt (zy C4)->PV
 | none=> .non
 | some ds=>A8 ds
def MG:AS:=
 (Ao (g9 (Ay (AN 2 BD (AB (aV 0) (AB (aV 1) AL)))) (aV 1) (aV 0)))
def DP:AF:=Ak 2 MG
def Iu {a b:Rat}(ha:Bd 4000 a)(hb:Bd 4000 b){Q:PV->Prop}(q:Q (fr (mx a b))):DP [fr a,fr b] Q:=by
 refine⟨rfl,CW ha hb ?_⟩;refine Fq (b:=decide (a<b)) (λz=> ?_) (λz=> ?_)
 .rw [mx,AAE (AAs z)] at q;exact q
 .rw [mx,AAC (ABc z)] at q;exact q
def Zh:AS:=
 (Ao (g9 (Ay (AN 2 BD (AB (aV 1) (AB (aV 0) AL)))) (aV 1) (aV 0)))
def Iv:AF:=Ak 2 Zh
def S3 {a b:Rat}(ha:Bd 4000 a)(hb:Bd 4000 b){Q:PV->Prop}(q:Q (fr (mn a b))):Iv [fr a,fr b] Q:=by
 refine⟨rfl,CW hb ha ?_⟩;refine Fq (b:=decide (b<a)) (λz=> ?_) (λz=> ?_)
 .have c:=AAs z;rw[show mn a b=b by unfold mn;split <;> grind] at q;exact q
 .have c:=ABc z;rw[show mn a b=a by unfold mn;split <;> grind] at q;exact q
theorem DA {i:Type}{g:AG}{j:AT}{l:AE}{d:BA}{Q:zy PV->Prop}(f k:i->PV)(p:i->kn)(P:i->Prop)(hs:∀a,P a->∀(R:PV->Prop) (N:Prop),(p a=true->R (k a))->(p a=false->N)->g (f a) d λe=>j e λok=>if ok=true then l e R else N):∀(xs:zy i) (c:zy PV),(∀a∈xs,P a)->Q (c++(xs.filter p).map k)->C1 g j l d Q (xs.map f) c
 | [],c,_,h=>(by simpa using h:Q c)
 | a::xs,c,hp,h=>by
   refine hs a (hp a (by simp)) (λy=>C1 g j l d Q (xs.map f) (c ++ [y])) _ (λz=> ?_) (λz=> ?_)
   .exact DA f k p P hs xs _ (λb hb=>hp b (by simp[hb])) (by simpa[AB0,z] using h)
   .exact DA f k p P hs xs _ (λb hb=>hp b (by simp[hb])) (by simpa[AB0,z] using h)
def both {f t:Rat}{c:C4}{b:(kn->Prop)->Prop}{A:Prop}{N:Prop}(h1:OY f t c=true->A)(h2:OY f t c=false->N):if decide (f<c.1)=true then (if decide (c.1<t)=true then A else N) else N:=by unfold OY at h1 h2;refine Fq (λz=>Fq (λa=>h1 (by rw[z,a];rfl)) (λa=>h2 (by rw[z,a];rfl))) (λz=>h2 (by rw[z];rfl))
def Ij:AS:=
 (Ao (GW (Bx (M9 (aV 0)) 1 [1,2] (Ar 0) (JA (Ay (AN 2 BD (AB (aV 1) (AB (AX Ae (aV 0) (aC (.int 0))) AL)))) (Ay (AN 2 BD (AB (AX Ae (aV 0) (aC (.int 0))) (AB (aV 2) AL))))) (Fc Cw (AB (aV 0) AL)))))
def CP:AF:=Ak 3 Ij
def GT {cs:zy C4}{v:PV}{B:Nat}{f t:Rat}(hv:GD cs v)(hl:cs.length<=1000)(hc:∀c∈cs,GC B c)(h:B<=4000)(i:Bd 4000 f)(j:Bd 4000 t){Q:PV->Prop}(q:Q (.lst ((cs.filter (OY f t)).map cor))):CP [v,fr f,fr t] Q:=by
 obtain⟨g,k,hv⟩:=hv;have a:(cs.map g).length<sizeLine:=by rw[AAK];exact AAf hl (by decide)
 have key:∀(c:C4),GC B c->∀(R:PV->Prop) (N:Prop),(OY f t c=true->R (cor c))->(OY f t c=false->N)->
  (Ar 0) (g c) [none,some (.val (fr f)),some (.val (fr t))] λd=>(JA (Ay (AN 2 BD (AB (aV 1) (AB (AX Ae (aV 0) (aC (.int 0))) AL)))) (Ay (AN 2 BD (AB (AX Ae (aV 0) (aC (.int 0))) (AB (aV 2) AL))))) d λok=>if ok=true then (Fc Cw (AB (aV 0) AL)) d R else N:=by
  intro c l R N h1 h2;have bm:=l.m.mono h;rcases k with rfl|rfl;all_goals
   refine⟨rfl,CW i bm ?_⟩;refine Fq (b:=decide (f<c.1)) (λz=> ?_) (λz=>h2 (by unfold OY;rw[z];rfl));refine⟨rfl,CW bm j ?_⟩;exact Fq (b:=decide (c.1<t)) (λe=>h1 (by unfold OY;rw[z,e];rfl)) (λe=>h2 (by unfold OY;rw[z,e];rfl))
 rcases hv with rfl|rfl
 .exact ⟨a,DA g cor (OY f t) (GC B) key cs [] hc q⟩
 .exact ⟨a,DA g cor (OY f t) (GC B) key cs [] hc q⟩
def Sn:AS:=
 (Ao (AX Ct (Aq (AB (aV 1) AL)) (AN 2 HB (AB (aV 0) (AB (aV 1) AL)))))
def D3:AF:=Ak 2 Sn
def GS {cs:zy C4}{v:PV}{B M:Nat}{m:Rat}(hv:GD cs v)(hc:∀c∈cs,GC B c)(a:Hh cs)(b:cs≠ [])(hl:cs.length<=1000)(d:Bd M m)(f:M+6*B+10<=3990)(hs:∃t,spotC cs m=some t){Q:PV->Prop}(q:Q (cor (sp cs m))):D3 [v,fr m] Q:=by obtain⟨t,e⟩:=hs;unfold sp at q;rw[e] at q;refine⟨lz,rfl,Qz hv hc a b hl d f ?_⟩;rw[e];exact⟨lz,q⟩
def VO {cs:zy C4}{f t:Rat}(hl:cs.length<=1000):((cs.filter (OY f t)).map cor).length<=1000:=by rw[AAK];exact AAY (ABd _ _) hl
def Bd.mx {n:Nat}{a b:Rat}(ha:Bd n a)(hb:Bd n b):Bd n (mx a b):=by unfold PL.mx;split <;> assumption
def Bd.mn {n:Nat}{a b:Rat}(ha:Bd n a)(hb:Bd n b):Bd n (mn a b):=by unfold PL.mn;split <;> assumption
def oH (b a:Rat):a<=mx b a:=by unfold mx;split <;> grind
def oF (e l:Rat):mn e l<=l:=by unfold mn;split <;> grind
def Qp:AS:=
 (Ab (An (AN 3 CP (AB (aV 0) (AB (aV 3) (AB (aV 4) AL)))) (Ar 5))
   (Ao (Fc Cw (AB (AX Ct (AX Ct (GW (FP (AB (AN 2 D3 (AB (aV 0) (AB (aV 3) AL))) AL))) (aV 5)) (GW (FP (AB (AN 2 D3 (AB (aV 0) (AB (aV 4) AL))) AL)))) AL))))
def Qo:AS:=
 (Ab (B3 (Df (Ay (AN 2 BD (AB (aV 3) (AB (aV 4) AL))))) (Ao (aC .non)) BE)
   Qp)
def Qn:AS:=
 (Ab (An (AN 2 Iv (AB (aV 2) (AB (AX Ae (AX Ae (aV 0) (YB NJ (aC (.int 1)))) (aC (.int 0))) AL))) (Ar 4))
   Qo)
def Xz:AS:=
 (Ab (An (AN 2 DP (AB (aV 1) (AB (AX Ae (AX Ae (aV 0) (aC (.int 0))) (aC (.int 0))) AL))) (Ar 3))
   Qn)
def HA:AF:=Ak 6 Xz
def Qy {a l:C4}{r:zy C4}{v:PV}{B M:Nat}{b e:Rat}(hv:GD (a::r) v)(hc:∀c∈a::r,GC B c)(s:Hh (a::r))(u:r≠ [])(j:(a::r).getLast?=some l)(hl:(a::r).length<=1000)(hb:Bd M b)(he:Bd M e)(ha:Bd M a.1)(w:Bd M l.1)(y:M+6*B+10<=3990){Q:PV->Prop}(q:Q (bP (XV (a::r) (mx b a.1) (mn e l.1)))):HA [v,fr b,fr e] Q:=by
 have m:=hv;obtain⟨g,C,hv⟩:=hv;have bf:=hb.mx ha;have bt:=he.mn w;have A:∀(c:C4) (P:PV->Prop),P (fr c.1)->Sg (g c) λD=>fF (J2 D 0) P:=λc P E=>by rcases C with rfl|rfl <;> exact E
 have n:=oH b a.1;have o:=oF e l.1;have i:=VO (cs:=a::r) (f:=mx b a.1) (t:=mn e l.1) hl;have d:∀{x:Rat},Bd M x->Bd 4000 x:=λh=>h.mono (by omega);rcases hv with rfl|rfl;all_goals
  refine Fo (k:=0) (c:=a) rfl rfl (A a _ ⟨rfl,Iu (d hb) (d ha) ?_⟩);refine TY j (A l _ ⟨rfl,S3 (d he) (d w) ?_⟩)
  revert q bf bt n o i
  generalize mx b a.1=f;generalize mn e l.1=t;intro q bf bt n o i;refine⟨rfl,CW (d bf) (d bt) ?_⟩;refine Fq (b:= !decide (f<t)) (λz=> ?_) (λz=> ?_)
  .have p:¬f<t:=by simpa using z
   rw[XV,AAC p] at q;exact q
  .have p:f<t:=by simpa using z
   rw[XV,AAE p] at q;refine⟨rfl,GT m hl hc (by omega) (d bf) (d bt) ?_⟩;refine⟨rfl,GS m hc s (by simp) hl bf y (Em u j n (by grind)) ⟨lz, ?_⟩⟩;refine⟨AAY (show _<=1001 by simp only[AAi,AC9];omega) (by decide), ?_⟩;refine⟨rfl,GS m hc s (by simp) hl bt y (Em u j (by grind) o) ⟨lz, ?_⟩⟩;refine⟨AAY (show _<=1002 by simp only[AAx,AAi,AC9];omega) (by decide), ?_⟩;have F:bP (some (CD (a::r) f t))= .tup ([cor (sp (a::r) f)] ++ ((a::r).filter (OY f t)).map cor ++ [cor (sp (a::r) t)]):=by simp[bP,CD,A8]
   rw[F] at q;exact q
section
variable {a b:AS}{ta tb:AE}{tt tu:AT}{g:AG}{gs:Ur}{nx bk ct:BA->Prop}{rt:PV->Prop}{τ:BA}{Q:PV->Prop}{QB:kn->Prop}{QL:zy PV->Prop}{QT:BA->Prop}{r:AA}{ai:AI}{F:AF}{n i j:Nat}{x y z:PV}{xs ys:zy PV}
def pB {f:HQ}(e:Se τ i=some (.val x))(h:ta τ λy=>f x y λz=>nx (τ.set i (some (.val z)))):VA i f ta ⟨nx,rt,bk,ct⟩ τ:=by unfold VA;rw[e];exact h
def pH (e:Se τ i=some (.own xs))(h:QL xs):Lf i τ QL:=by unfold Lf;rw[e];exact h
def yj (e:Se τ i=some (.val x))(h:Q x):aV i τ Q:=by unfold aV;rw[e];exact h
def vM (x:PV)(i:Int):zt PV:=match x with | .tup xs=>J2 xs i | .lst xs=>J2 xs i|_=>none
def sj {i:Int}(e:vM x i=some z)(h:Q z):Ae x (.int i) Q:=by cases x <;> first | (cases e;done)|(show fF (J2 _ i) Q;rw[show J2 _ i=some z from e];exact h)
def kr {l:C4}{cs:zy C4}(c:cs.getLast?=some l)(h:Q (cor l)):Ae (A8 cs) (.int (-1)) Q:=TY c h
def ku {cs:zy C4}(h:Q (.int cs.length)):GH [A8 cs] Q:=by show Q (.int (cs.map cor).length);rw[AAK];exact h
def pG {T:String}{k:Kd}(c:Hj T)(e:kdOf x=some k)(h:Q (.bl (HU k T))):aK [x, .ty T] Q:=by refine⟨c, ?_⟩;rw[e];exact h
def Xg {g:zy kn->kn}{bs:zy kn}(e:GZ xs=some bs)(h:Q (.bl (g bs))):TX g [.lst xs] Q:=by show (match GZ xs with | some bs=>Q (.bl (g bs))|none=>False);rw[e];exact h
def pD {c:kn}{A B:Prop}(e:c=true)(h:A):if c=true then A else B:=by rw[AAE e];exact h
def pC {c:kn}{A B:Prop}(e:c=false)(h:B):if c=true then A else B:=by rw[AAC (by rw[e];exact AAT)];exact h
def pE {p:Prop}[Decidable p]{A B:Prop}(h1:p->A)(h2:¬p->B):if decide p=true then A else B:=by
 by_cases h:p
 .rw [AAE (AAO h)];exact h1 h
 .rw [AAC (by simp[h])];exact h2 h
def pF {p:Prop}[Decidable p]{A B:Prop}(h1:¬p->A)(h2:p->B):if (!decide p)=true then A else B:=by
 by_cases h:p
 .rw [AAC (by simp[h])];exact h2 h
 .rw [AAE (by simp[h])];exact h1 h
end
def qN:Bd 1 (0:Rat):=⟨by decide,by decide⟩
def u8:Bd 1 (1:Rat):=⟨by decide,by decide⟩
section
variable {g:AG}{b:AS}{nx bk ct:BA->Prop}{rt:PV->Prop}
def W0 (P:Nat->BA->Prop){lo:Int}{n:Nat}(hd:∀τ,P n τ->nx τ)(hs:∀i,i<n->∀τ (R:BA->Prop),(∀τ,P (i+1) τ->R τ)->P i τ->g (.int (lo+i)) τ λc=>b ⟨R,rt,nx,R⟩ c){τ:BA}(f:P 0 τ):DV g b ⟨nx,rt,bk,ct⟩ (rng lo n) τ:=by
 refine Ly (λr τ=>∃i,i<=n/\r=rng (lo+i) (n-i)/\P i τ) ?_ ?_ _ _ ⟨0,ABG _,by simp,f⟩
 .rintro τ ⟨i,hi,a,hp⟩;have:n-i=0:=by
   cases e:n-i with
   | zero=>rfl
   | succ k=>rw[e,FW] at a;cases a
  have:i=n:=by omega
  subst this;exact hd τ hp
 .rintro x r τ R h ⟨i,hi,a,hp⟩;cases e:n-i with
  | zero=>rw[e] at a;cases a
  | succ k=> rw[e,FW] at a;cases a;exact hs i (by omega) τ R (λd h2=>h d ⟨i+1,by omega,by rw[show n-(i+1)=k by omega,show lo+((i+1:Nat):Int)=lo+i+1 by omega],h2⟩) hp
def CS {d:Type}(f:d->PV)(P:zy d->zy d->BA->Prop){cs:zy d}(hd:∀τ,P cs [] τ->nx τ)(hs:∀a c vs,a++c::vs=cs->∀τ (R:BA->Prop),(∀τ,P (a ++ [c]) vs τ->R τ)->P a (c::vs) τ->g (f c) τ λi=>b ⟨R,rt,nx,R⟩ i){τ:BA}(k:P [] cs τ):DV g b ⟨nx,rt,bk,ct⟩ (cs.map f) τ:=by
 refine Ly (λr τ=>∃a vs,a++vs=cs/\r=vs.map f/\P a vs τ) ?_ ?_ _ _ ⟨[],cs,rfl,rfl,k⟩
 .rintro τ ⟨a,vs,e,h,hp⟩;cases vs with
  | nil=>rw[ADT] at e;subst e;exact hd τ hp
  | cons v vs=>cases h
 .rintro x r τ R l ⟨a,vs,e,h,hp⟩;cases vs with
  | nil=>cases h
  | cons c vs=> cases h;exact hs a c vs e τ R (λj h2=>l j ⟨a ++ [c],vs,by simpa using e,rfl,h2⟩) hp
end
section
variable {g:AG}{tt:AT}{te:AE}{τ0:BA}{Q:zy PV->Prop}
def Q9 (P:Nat->zy PV->Prop){lo:Int}{n:Nat}(hd:∀a,P n a->Q a)(hs:∀i,i<n->∀a (R:zy PV->Prop),(∀a,P (i+1) a->R a)->P i a->g (.int (lo+i)) τ0 λc=>tt c λok=>if ok=true then te c λy=>R (a ++ [y]) else R a)(f:P 0 []):C1 g tt te τ0 Q (rng lo n) [] :=by
 refine Wq (λr a=>∃i,i<=n/\r=rng (lo+i) (n-i)/\P i a) ?_ ?_ _ _ ⟨0,ABG _,by simp,f⟩
 .rintro a ⟨i,hi,b,hp⟩;have:n-i=0:=by
   cases e:n-i with
   | zero=>rfl
   | succ k=>rw[e,FW] at b;cases b
  have:i=n:=by omega
  subst this;exact hd a hp
 .rintro x r a R h ⟨i,hi,b,hp⟩;cases e:n-i with
  | zero=>rw[e] at b;cases b
  | succ k=> rw[e,FW] at b;cases b;exact hs i (by omega) a R (λd h2=>h d ⟨i+1,by omega,by rw[show n-(i+1)=k by omega,show lo+((i+1:Nat):Int)=lo+i+1 by omega],h2⟩) hp
end
end PL
namespace PL
section
variable {p:Prop}[Decidable p]{A B:Prop}
def kh (h:p)(a:A):if decide p=true then A else B:=by rw[AAE (AAO h)];exact a
def kg (h:¬p)(a:B):if decide p=true then A else B:=by rw[AAC (by simp[h])];exact a
def ko (h:¬p)(a:A):if (!decide p)=true then A else B:=by rw[AAE (by simp[h])];exact a
end
end PL
namespace PL
open PySem PySem.Spec PyProof.Rows L2
def Kc (K:AAB)(mg:Str->zt zx)(x:Str)(v:PV):Prop:=∃(u:zx) (V:V),mg x=some u/\RelV V u/\∀T M H,Cs K T M H V v
section
variable {K:AAB}{T M:zu->Prop}{H:Hp}
def Bb {i:Int}{t:Tok}:∃V,RelV V (.int i t)/\∀T M H,Cs K T M H V (.int i):=⟨.int i,⟨t,rfl⟩,λ_ _ _=> .int i⟩
inductive KR (K:AAB):List Value->List PV->Prop where
 | nil:KR K [] []
 | cons {u:Value} {x:PV} {us:List Value} {xs:List PV} (h:∃V,RelV V u/\∀T M H,Cs K T M H V x) (t:KR K us xs):KR K (u::us) (x::xs)
theorem KR.reps:∀{a:zy zx} {xs:zy PV},KR K a xs->∃vs,At vs a/\∀T M H,Ax K T M H vs xs
 | _,_, .nil=>⟨[], .nil,λ_ _ _=> .nil⟩
 | _,_, .cons ⟨V,r,h⟩ t=>by obtain⟨vs,b,h2⟩:=KR.reps t;exact⟨V::vs, .cons r b,λT M H=> .cons (h T M H) (h2 T M H)⟩
def KR.length:∀{a:zy zx} {xs:zy PV},KR K a xs->a.length=xs.length
 | _,_, .nil=>rfl
 | _,_, .cons _ t=>by simp[t.length]
def MB {a:zu}{b:zy zx}{xs:zy PV}{n:Nat}{c:zt zu}{sl:Array (zt zx)}(hl:K.lookup a=some ⟨.type "tuple",c, .seq b.toArray n,sl⟩)(h:KR K b xs)(hs:xs.length<=sizeLine:=by decide):∃V,RelV V (.ref a)/\∀T M H,Cs K T M H V (.tup xs):=by obtain⟨vs,r,q⟩:=h.reps;refine⟨.ref a,rfl,λT M H=> .tup (vs:=vs) (.inr ⟨_,b.toArray,n,hl,rfl,rfl, ?_,by simpa using r⟩) (q T M H)⟩;rw[AAZ,h.length];exact hs
end
def XM {K:AAB}{mg:Str->zt zx}{x:Str}{u:zx}{v:PV}(a:mg x=some u)(h:∃V,RelV V u/\∀T M H,Cs K T M H V v):Kc K mg x v:=let ⟨V,r,q⟩:=h;⟨u,V,a,r,q⟩
section
variable {X:Cx}
def BC {x:Str}{v:PV}{pos:Pos}(c:Kc X.K X.mg x v)(a:Gl X x)(hd:(x==("__debug__" :Str))=false:=by decide):SE X (.Name x pos) (aC v):=by obtain⟨u,V,b,r,h⟩:=c;exact⟨_,fS a b r hd,QS h⟩
end
end PL
namespace PL
open PySem L2 PyProof.Rows
class Wp (P:Prop) (P':outParam Prop):Prop where
 go:P'->P
class ZU (P:Prop) (C P':outParam Prop):Prop where
 go:C->P'->P
class u4 (P:Prop) (P':outParam Prop):Prop where
 go:P'->P
class rL (P:Prop) (A B:outParam Prop):Prop where
 go:A->B->P
class gv (τ:BA) (i:Nat) (x:outParam AV):Prop where
 e:Se τ i=some x
instance{v:AV}{r:BA}:gv (some v::r) 0 v:=⟨rfl⟩
instance{y:zt AV}{r:BA}{i:Nat}{v:AV}[h:gv r i v] :gv (y::r) (i+1) v:=⟨h.e⟩
class Zt (τ:BA) (i:Nat) (v:AV) (τ':outParam BA):Prop where
 e:τ.set i (some v)=τ'
instance{y:zt AV}{r:BA}{v:AV}:Zt (y::r) 0 v (some v::r):=⟨rfl⟩
instance{y:zt AV}{r a:BA}{i:Nat}{v:AV}[h:Zt r i v a] :Zt (y::r) (i+1) v (y::a):=⟨by rw[ADA,h.e]⟩
class Zq (τ:BA) (τ':outParam BA):Prop where
 e:frz τ=τ'
instance:Zq [] [] :=⟨rfl⟩
instance (priority:=low){z:zt AV}{r a:BA}[h:Zq r a] :Zq (z::r) (jI z::a):=⟨by rw[<-h.e];rfl⟩
instance{r a:BA}[h:Zq r a] :Zq (none::r) (none::a):=⟨by rw[<-h.e];rfl⟩
instance{x:PV}{r a:BA}[h:Zq r a] :Zq (some (.val x)::r) (some (.val x)::a):=⟨by rw[<-h.e];rfl⟩
instance{x:zy PV}{r a:BA}[h:Zq r a] :Zq (some (.own x)::r) (some (.val (.lst x))::a):=⟨by rw[<-h.e];rfl⟩
class qD (ix:List Nat) (τ:BA) (τ':outParam BA):Prop where
 e:(ix.map λi=>YE (Se τ i))=τ'
instance{τ:BA}:qD [] τ [] :=⟨rfl⟩
instance{τ r:BA}{i:Nat}{ix:zy Nat}{x:PV}[h:gv τ i (.val x)][h2:qD ix τ r] :qD (i::ix) τ (some (.val x)::r):=⟨by rw[AAL,h.e,h2.e];rfl⟩
class qG (n:Nat) (τ:outParam BA):Prop where
 e:List.replicate n none=τ
instance:qG 0 [] :=⟨rfl⟩
instance{n:Nat}{τ:BA}[h:qG n τ] :qG (n+1) (none::τ):=⟨by rw[ADk,h.e]⟩
class dW (xs ys:BA) (zs:outParam BA):Prop where
 e:xs++ys=zs
instance{a:BA}:dW [] a a:=⟨rfl⟩
instance{x:zt AV}{xs a b:BA}[h:dW xs a b] :dW (x::xs) a (x::b):=⟨by rw[ACO,h.e]⟩
class dX (xs ys:List PV) (zs:outParam (List PV)):Prop where
 e:xs++ys=zs
instance{a:zy PV}:dX [] a a:=⟨rfl⟩
instance{x:PV}{xs a b:zy PV}[h:dX xs a b] :dX (x::xs) a (x::b):=⟨by rw[ACO,h.e]⟩
class Ix (x:PV) (i:Int) (y:outParam PV):Prop where
 e:vM x i=some y
section
variable {a b:AS}{ta tb:AE}{tt tu:AT}{g:AG}{gs:Ur}{nx bk ct:BA->Prop}{rt:PV->Prop}{τ τ' τ2:BA}{Q:PV->Prop}{QB:kn->Prop}{QL:zy PV->Prop}{QT:BA->Prop}{r:AA}{ai:AI}{F:AF}{n i j:Nat}{x y z:PV}{xs ys zs:zy PV}
instance{c:PV}{q:zy PV}:Ix (.tup (c::q)) 0 c:=⟨DU (j:=0) rfl⟩
instance{c:PV}{q:zy PV}:Ix (.lst (c::q)) 0 c:=⟨DU (j:=0) rfl⟩
instance{d c:PV}{q:zy PV}:Ix (.tup (d::c::q)) 1 c:=⟨DU (j:=1) rfl⟩
instance{d c:PV}{q:zy PV}:Ix (.lst (d::c::q)) 1 c:=⟨DU (j:=1) rfl⟩
instance{d e c:PV}{q:zy PV}:Ix (.tup (d::e::c::q)) 2 c:=⟨DU (j:=2) rfl⟩
instance{d e c:PV}{q:zy PV}:Ix (.lst (d::e::c::q)) 2 c:=⟨DU (j:=2) rfl⟩
instance{q:Rat}:Ix (fr q) 0 (.int q.num):=⟨rfl⟩
instance{q:Rat}:Ix (fr q) 1 (.int q.den):=⟨rfl⟩
instance{c:C4}:Ix (cor c) 0 (fr c.1):=⟨rfl⟩
instance{c:C4}:Ix (corL c) 0 (fr c.1):=⟨rfl⟩
instance{c:C4}:Ix (cor c) 1 (fr c.2.1):=⟨rfl⟩
instance{c:C4}:Ix (cor c) 2 (fr c.2.2.1):=⟨rfl⟩
instance{c:C4}:Ix (cor c) 3 (fr c.2.2.2):=⟨rfl⟩
def rN {f:C4->PV}{c:C4}{cs:zy C4}:J2 ((c::cs).map f) 0=some (f c):=DU (j:=0) rfl
instance{c:C4}{cs:zy C4}:Ix (A8 (c::cs)) 0 (cor c):=⟨rN⟩
instance:Wp (Ab a b ⟨nx,rt,bk,ct⟩ τ) (a ⟨b ⟨nx,rt,bk,ct⟩,rt,bk,ct⟩ τ):=⟨id⟩
instance:Wp (An ta g ⟨nx,rt,bk,ct⟩ τ) (ta τ λx=>g x τ nx):=⟨id⟩
instance[h:Zq τ τ'] :Wp (Ao ta ⟨nx,rt,bk,ct⟩ τ) (ta τ' rt):=⟨λk=>by unfold Ao;rw[h.e];exact k⟩
instance:Wp (BE ⟨nx,rt,bk,ct⟩ τ) (nx τ):=⟨id⟩
instance:Wp (B3 tt a b ⟨nx,rt,bk,ct⟩ τ) (tt τ λk=>if k=true then a ⟨nx,rt,bk,ct⟩ τ else b ⟨nx,rt,bk,ct⟩ τ):=⟨id⟩
def PU (τ:BA)(i:Nat)(v:AV)(QT:BA->Prop):Prop:=QT (τ.set i (some v))
instance{v:AV}[h:Zt τ i v τ'] :Wp (PU τ i v QT) (QT τ'):=⟨λk=>by unfold PU;rw[h.e];exact k⟩
instance:Wp (Le r i ⟨nx,rt,bk,ct⟩ τ) (r τ λxs=>PU τ i (.own xs) nx):=⟨id⟩
instance[h:Zt τ i (.val x) τ'] :Wp (Ar i x τ QT) (QT τ'):=⟨λk=>by unfold Ar;rw[h.e];exact k⟩
instance{f:HQ}[h:gv τ i (.val x)] :Wp (VA i f ta ⟨nx,rt,bk,ct⟩ τ) (ta τ λy=>f x y λz=>PU τ i (.val z) nx):=⟨λk=>pB h.e k⟩
instance[h:gv τ i (.own xs)] :Wp (Lf i τ QL) (QL xs):=⟨λk=>pH h.e k⟩
instance{f:l7}:Wp (GX i f r ⟨nx,rt,bk,ct⟩ τ) (Lf i τ λxs=>r τ λys=>f xs ys λzs=>PU τ i (.own zs) nx):=⟨id⟩
instance:Wp (Ng xs [y] QL) (xs.length<sizeLine/\QL (xs ++ [y])):=⟨id⟩
instance:Wp (Fk ai g b ⟨nx,rt,bk,ct⟩ τ) (ai τ λxs=>DV g b ⟨nx,rt,bk,ct⟩ xs τ):=⟨id⟩
instance:Wp (DV g b ⟨nx,rt,bk,ct⟩ [] τ) (nx τ):=⟨id⟩
instance{q:zy PV}:u4 (DV g b ⟨nx,rt,bk,ct⟩ (x::q) τ) (g x τ λc=>b ⟨DV g b ⟨nx,rt,bk,ct⟩ q,rt,nx,DV g b ⟨nx,rt,bk,ct⟩ q⟩ c):=⟨id⟩
instance:Wp (BY [] τ QT) (QT τ):=⟨id⟩
instance{t:zy PV}:Wp (Ad g gs (x::t) τ QT) (g x τ λτ'=>gs t τ' QT):=⟨id⟩
instance:Wp (Hw n gs x τ QT) (Sg x λxs=>xs.length=n/\gs xs τ QT):=⟨id⟩
instance[h:gv τ i (.val x)] :Wp (aV i τ Q) (Q x):=⟨λk=>yj h.e k⟩
instance:Wp (aC x τ Q) (Q x):=⟨id⟩
instance{f:HQ}:Wp (AX f ta tb τ Q) (ta τ λx=>tb τ λy=>f x y Q):=⟨id⟩
instance{f:PV->(PV->Prop)->Prop}:Wp (YB f ta τ Q) (ta τ λx=>f x Q):=⟨id⟩
instance:Wp (Ld ta tb τ Q) (ta τ λx=>bI x λc=>if c=true then tb τ Q else Q (.bl false)):=⟨id⟩
instance:Wp (qL ta tb τ Q) (ta τ λx=>bI x λc=>if c=true then Q (.bl true) else tb τ Q):=⟨id⟩
instance:Wp (Ay ta τ QB) (ta τ λx=>bI x QB):=⟨id⟩
instance:Wp (Df tt τ QB) (tt τ λc=>QB (!c)):=⟨id⟩
instance:Wp (JA tt tu τ QB) (tt τ λc=>if c=true then tu τ QB else QB false):=⟨id⟩
instance:Wp (M8 tt tu τ QB) (tt τ λc=>if c=true then QB true else tu τ QB):=⟨id⟩
instance:Wp (g9 tt ta tb τ Q) (tt τ λc=>if c=true then ta τ Q else tb τ Q):=⟨id⟩
instance:Wp (Ea τ QB) (QB true):=⟨id⟩
instance[h:Zq τ τ'] :Wp (dm ta τ Q) (ta τ' λx=>dM x=true/\Q x):=⟨λk=>by unfold dm;rw[h.e];exact k⟩
instance:Wp (AL τ QL) (QL []):=⟨id⟩
instance:Wp (AB ta r τ QL) (ta τ λx=>r τ λxs=>QL (x::xs)):=⟨id⟩
def Zb (xs:zy PV)(Q:PV->Prop):Prop:=xs.length<=sizeLine/\Q (.tup xs)
instance:Wp (Aq r τ Q) (r τ λxs=>Zb xs Q):=⟨id⟩
instance:Wp (FP r τ QL) (r τ λxs=>xs.length<=sizeLine/\QL xs):=⟨id⟩
instance:Wp (GW r τ Q) (r τ λxs=>Q (.lst xs)):=⟨id⟩
instance:Wp (AN n F r τ Q) (r τ λxs=>xs.length=n/\F xs Q):=⟨id⟩
instance:Wp (Fc F r τ Q) (r τ λxs=>F xs Q):=⟨id⟩
instance{own:Nat}{ix:zy Nat}{f:AE}{c d:BA}[h1:qG own c][h2:qD ix τ d][h3:dW c d τ'] :Wp (Bx ai own ix g tt f τ QL) (ai τ λxs=>xs.length<sizeLine/\C1 g tt f τ' QL xs []):=⟨λk=>by unfold Bx Oy;rw[h1.e,h2.e,h3.e];exact k⟩
instance{d:AE}{c:zy PV}:Wp (C1 g tt d τ QL [] c) (QL c):=⟨id⟩
instance{e:AE}{c q:zy PV}:Wp (C1 g tt e τ QL (x::q) c) (g x τ λd=>tt d λok=>if ok=true then e d λy=>C1 g tt e τ QL q (c ++ [y]) else C1 g tt e τ QL q c):=⟨id⟩
instance:Wp (M9 ta τ QL) (ta τ λx=>Sg x QL):=⟨id⟩
instance:Wp (Q6 (AB ta AL) τ QL) (ta τ λx=>Sf x λj=>(-(2^62)<=j/\j<2^62)/\QL (rng 0 j.toNat)):=⟨λh=>by have e:(λx=>Sf x λj=>(-(2^62)<=j/\j<2^62)/\QL (rng 0 j.toNat))=(λx=>match [x] with | [.int j] =>(-(2^62)<=j/\j<2^62)/\QL (rng 0 j.toNat)|_=>False):=(funext λx=>by cases x <;> rfl);rw[e] at h;exact h⟩
instance:Wp (du (AB ta (AB tb AL)) τ QL) (ta τ λx=>tb τ λy=>Y2 x y λi j=>(-(2^62)<=i/\i<2^62/\ -(2^62)<=j/\j<2^62)/\QL (rng i (j-i).toNat)):=⟨λh=>by have e:(λx=>tb τ λy=>Y2 x y λi j=>(-(2^62)<=i/\i<2^62/\ -(2^62)<=j/\j<2^62)/\QL (rng i (j-i).toNat))=(λx=>tb τ λy=>match [x,y] with | [.int i, .int j] =>(-(2^62)<=i/\i<2^62/\ -(2^62)<=j/\j<2^62)/\QL (rng i (j-i).toNat)|_=>False):=(funext λx=>congrArg (tb τ) (funext λy=>by cases x <;> cases y <;> rfl));rw[e] at h;exact h⟩
instance:Wp (i6 (AB ta (AB tb AL)) τ QL) (ta τ λx=>tb τ λy=>Sg x λxs=>Sg y λys=>QL (Ia xs ys)):=⟨id⟩
instance:Wp (S7 i j (AB ta (AB tb AL)) ⟨nx,rt,bk,ct⟩ τ) (ta τ λx=>tb τ λy=>PU τ i (.val x) λc=>PU c j (.val y) nx):=⟨id⟩
instance{R:Int->Prop}{k:Int}:Wp (Sf (.int k) R) (R k):=⟨id⟩
instance{R:Int->Int->Prop}{k l:Int}:Wp (Y2 (.int k) (.int l) R) (R k l):=⟨id⟩
instance{R:kn->Prop}{c:kn}:Wp (bI (.bl c) R) (R c):=⟨id⟩
instance:Wp (Sg (.tup xs) QL) (QL xs):=⟨id⟩
instance:Wp (Sg (.lst xs) QL) (QL xs):=⟨id⟩
instance{q:Rat}:Wp (Sg (fr q) QL) (QL [.int q.num, .int q.den]):=⟨id⟩
instance{cs:zy C4}:Wp (Sg (A8 cs) QL) (QL (cs.map cor)):=⟨id⟩
instance{f:Int->Int->PV}{k l:Int}:Wp (fI f (.int k) (.int l) Q) (Q (f k l)):=⟨id⟩
instance{C:Int->Int->Prop}{f:Int->Int->PV}{k l:Int}:Wp (nG C f (.int k) (.int l) Q) (C k l/\Q (f k l)):=⟨id⟩
instance:Wp (YU .non .non Q) (Q (.bl true)):=⟨id⟩
instance:Wp (NK .non .non Q) (Q (.bl false)):=⟨id⟩
instance:Wp (NK (.tup xs) .non Q) (Q (.bl true)):=⟨id⟩
instance{k:Int}[h:Ix x k z] :Wp (Ae x (.int k) Q) (Q z):=⟨λq=>sj h.e q⟩
instance{k:Int}:Wp (NJ (.int k) Q) (Q (.int (-k))):=⟨id⟩
instance w_not {c:kn}:Wp (jD (.bl c) Q) (Q (.bl (!c))):=⟨id⟩
instance{k l:Int}:Wp (Ct (.int k) (.int l) Q) (Q (.int (k+l))):=⟨id⟩
instance{k l:Int}:Wp (NI (.int k) (.int l) Q) (Q (.bl (decide (k=l)))):=⟨id⟩
instance{k l:Int}:Wp (YW (.int k) (.int l) Q) (Q (.bl (!decide (k=l)))):=⟨id⟩
instance{k l:Str}:Wp (NI (.str k) (.str l) Q) (Q (.bl (decide (k=l)))):=⟨id⟩
instance{k l:Str}:Wp (YW (.str k) (.str l) Q) (Q (.bl (!decide (k=l)))):=⟨id⟩
instance:Wp (GH [.tup xs] Q) (Q (.int xs.length)):=⟨id⟩
instance:Wp (GH [.lst xs] Q) (Q (.int xs.length)):=⟨id⟩
instance{ns:zy Int}:Wp (GH [.scr ns] Q) (Q (.int ns.length)):=⟨id⟩
instance{cs:zy C4}:Wp (GH [A8 cs] Q) (Q (.int cs.length)):=⟨ku⟩
instance (priority:=high){c:Type}{f:c->PV}{cs:zy c}:Wp (GH [.tup (cs.map f)] Q) (Q (.int cs.length)):=⟨λh=>by show Q (.int (cs.map f).length);rw[AAK];exact h⟩
instance (priority:=high){c:Type}{f:c->PV}{cs:zy c}:Wp (GH [.lst (cs.map f)] Q) (Q (.int cs.length)):=⟨λh=>by show Q (.int (cs.map f).length);rw[AAK];exact h⟩
instance{k:Int}:Wp (TW [.int k] Q) (Q (.int k.natAbs)):=⟨id⟩
instance{f:Int->Int->Int}{k l:Int}:Wp (jJ f [.int k, .int l] Q) (Q (.int (f k l))):=⟨id⟩
instance:Wp (Cw [.lst xs] Q) (Q (.tup xs)):=⟨id⟩
instance{l h:AO}:Wp (dn ta l h τ Q) (ta τ λx=>l τ λlo=>h τ λhi=>dH x lo hi Q):=⟨id⟩
instance{R:zt Int->Prop}:Wp (dz τ R) (R none):=⟨id⟩
instance{R:zt Int->Prop}:Wp (d3 ta τ R) (ta τ λx=>Sf x λi=>R (some i)):=⟨id⟩
instance{A B:Prop}:Wp (if true=true then A else B) (A):=⟨λh=>by rw[AAE rfl];exact h⟩
instance{A B:Prop}:Wp (if false=true then A else B) (B):=⟨λh=>by rw[AAC AAT];exact h⟩
instance{A B:Prop}:Wp (if (!true)=true then A else B) (B):=⟨λh=>h⟩
instance{A B:Prop}:Wp (if (!false)=true then A else B) (A):=⟨λh=>h⟩
instance{p A B:Prop}[Decidable p] :rL (if decide p=true then A else B) (p->A) (¬p->B):=⟨pE⟩
instance{p A B:Prop}[Decidable p] :rL (if (!decide p)=true then A else B) (¬p->A) (p->B):=⟨pF⟩
instance{A:Prop}:Wp (([] :zy PV).length<=sizeLine/\A) (A):=⟨λh=>⟨lz,h⟩⟩
instance{A:Prop}:Wp (([] :zy PV).length<sizeLine/\A) (A):=⟨λh=>⟨lz,h⟩⟩
instance{c:PV}{A:Prop}:Wp ([c].length=1/\A) (A):=⟨λh=>⟨rfl,h⟩⟩
instance{c d:PV}{A:Prop}:Wp ([c,d].length=2/\A) (A):=⟨λh=>⟨rfl,h⟩⟩
instance{c d:PV}{A:Prop}:Wp ([c,d].length<=sizeLine/\A) (A):=⟨λh=>⟨lz,h⟩⟩
instance{c d:PV}{A:Prop}:Wp ([c,d].length<sizeLine/\A) (A):=⟨λh=>⟨lz,h⟩⟩
instance{c d e:PV}{A:Prop}:Wp ([c,d,e].length=3/\A) (A):=⟨λh=>⟨rfl,h⟩⟩
instance{c d e:PV}{A:Prop}:Wp ([c,d,e].length<=sizeLine/\A) (A):=⟨λh=>⟨lz,h⟩⟩
instance{c d e:PV}{A:Prop}:Wp ([c,d,e].length<sizeLine/\A) (A):=⟨λh=>⟨lz,h⟩⟩
instance{c d e f:PV}{A:Prop}:Wp ([c,d,e,f].length=4/\A) (A):=⟨λh=>⟨rfl,h⟩⟩
instance{c d e f:PV}{A:Prop}:Wp ([c,d,e,f].length<=sizeLine/\A) (A):=⟨λh=>⟨lz,h⟩⟩
instance{c d e f k:PV}{A:Prop}:Wp ([c,d,e,f,k].length<=sizeLine/\A) (A):=⟨λh=>⟨lz,h⟩⟩
instance{c d e f k l:PV}{A:Prop}:Wp ([c,d,e,f,k,l].length<=sizeLine/\A) (A):=⟨λh=>⟨lz,h⟩⟩
instance{c:PV}:Wp (Zb [c] Q) (Q (.tup [c])):=⟨λh=>⟨lz,h⟩⟩
instance{c d:PV}:Wp (Zb [c,d] Q) (Q (.tup [c,d])):=⟨λh=>⟨lz,h⟩⟩
instance{c d e:PV}:Wp (Zb [c,d,e] Q) (Q (.tup [c,d,e])):=⟨λh=>⟨lz,h⟩⟩
instance{c d e f:PV}:Wp (Zb [c,d,e,f] Q) (Q (.tup [c,d,e,f])):=⟨λh=>⟨lz,h⟩⟩
instance{c d e f k l:PV}:Wp (Zb [c,d,e,f,k,l] Q) (Q (.tup [c,d,e,f,k,l])):=⟨λh=>⟨lz,h⟩⟩
instance (priority:=high+10):Wp (Zb [.int 0, .int 1] Q) (Q (fr 0)):=⟨λh=>⟨lz,h⟩⟩
instance (priority:=high+10):Wp (Zb [.int 1, .int 1] Q) (Q (fr 1)):=⟨λh=>⟨lz,h⟩⟩
instance (priority:=high){k:Int}:Wp (Zb [.int k, .int 1] Q) (Q (fr (k:Rat))):=⟨λh=>⟨lz,Sc h⟩⟩
instance (priority:=high){k:Rat}{p q r:Rat}:Wp (Ct (.tup [fr k]) (.tup [fr p,fr q,fr r]) Q) (Q (cor (k,p,q,r))):=⟨λh=>⟨lz,h⟩⟩
def jF:PV.tup [.int 1, .int 2] =fr (1/2):=by unfold fr;rw[show ((1:Rat)/2).num=1 by decide +kernel,show ((1:Rat)/2).den=2 by decide +kernel];rfl
instance (priority:=high):Wp (Zb [.int 1, .int 2] Q) (Q (fr (1/2))):=⟨λh=>⟨lz,by rw[jF];exact h⟩⟩
def jG:PV.tup [.int 1, .int 3] =fr (1/3):=by unfold fr;rw[show ((1:Rat)/3).num=1 by decide +kernel,show ((1:Rat)/3).den=3 by decide +kernel];rfl
instance (priority:=high):Wp (Zb [.int 1, .int 3] Q) (Q (fr (1/3))):=⟨λh=>⟨lz,by rw[jG];exact h⟩⟩
def jH:PV.tup [.int 3, .int 2] =fr (3/2):=by unfold fr;rw[show ((3:Rat)/2).num=3 by decide +kernel,show ((3:Rat)/2).den=2 by decide +kernel];rfl
instance (priority:=high):Wp (Zb [.int 3, .int 2] Q) (Q (fr (3/2))):=⟨λh=>⟨lz,by rw[jH];exact h⟩⟩
class Zp (xs ys:List PV) (zs:outParam (List PV)):Prop where
 e:Ia xs ys=zs
instance:Zp [] [] [] :=⟨rfl⟩
instance[h:Zp xs ys zs] :Zp (x::xs) (y::ys) (.tup [x,y] :: zs):=⟨by rw[<-h.e];rfl⟩
instance[h:Zp xs ys zs] :Wp (DV g b ⟨nx,rt,bk,ct⟩ (Ia xs ys) τ) (DV g b ⟨nx,rt,bk,ct⟩ zs τ):=⟨λk=>by rw[h.e];exact k⟩
instance{d:AE}{c:zy PV}[h:Zp xs ys zs] :Wp (C1 g tt d τ QL (Ia xs ys) c) (C1 g tt d τ QL zs c):=⟨λk=>by rw[h.e];exact k⟩
instance{A:Prop}[h:Zp xs ys zs] :Wp ((Ia xs ys).length<sizeLine/\A) (zs.length<sizeLine/\A):=⟨λk=>by rw[h.e];exact k⟩
instance (priority:=high){d:AE}{c q zs:zy PV}[h:dX c [y] zs] :Wp (C1 g tt d τ QL q (c ++ [y])) (C1 g tt d τ QL q zs):=⟨λk=>by rw[h.e];exact k⟩
instance{m:Int}:ZU (A2 [.tape, .int m] Q) (0<m/\m<4611686018427387904) (∀r,0<=r->r<m->Q (.int r)):=⟨λc h=>Co c.1 c.2 h⟩
instance{ns:zy Int}{k:Int}:ZU (M1 [.scr ns, .int k] Q) (0<=k/\k<=1000) (Q .tape):=⟨λc h=>⟨c,h⟩⟩
instance{a b:Rat}:ZU (EB [fr a,fr b] Q) (Bd 4000 a/\Bd 4000 b) (Q (fr (a+b))):=⟨λc h=>Pn c.1 c.2 h⟩
instance{a b:Rat}:ZU (Cm [fr a,fr b] Q) (Bd 4000 a/\Bd 4000 b) (Q (fr (a-b))):=⟨λc h=>Dm c.1 c.2 h⟩
instance{a b:Rat}:ZU (Fi [fr a,fr b] Q) (Bd 4000 a/\Bd 4000 b) (Q (fr (a*b))):=⟨λc h=>M3 c.1 c.2 h⟩
instance{a b:Rat}:ZU (BQ [fr a,fr b] Q) (Bd 4000 a/\Bd 4000 b) (Q (fr (a+b))):=⟨λc h=>Hg c.1 c.2 h⟩
instance{a b:Rat}:ZU (Di [fr a,fr b] Q) (Bd 4000 a/\Bd 4000 b) (Q (fr (a-b))):=⟨λc h=>Ow c.1 c.2 h⟩
instance{a b:Rat}:ZU (GU [fr a,fr b] Q) (b≠0/\Bd 4000 a/\Bd 4000 b) (Q (fr (a/b))):=⟨λc h=>Jz c.1 c.2.1 c.2.2 h⟩
instance{lo:Int}{A:Prop}:Wp ((rng lo n).length<sizeLine/\A) (n<16777216/\A):=⟨λk=>⟨by rw[V7];exact k.1,k.2⟩⟩
instance{c:Type}{f:c->PV}{cs:zy c}{A:Prop}:Wp ((cs.map f).length<sizeLine/\A) (cs.length<16777216/\A):=⟨λk=>⟨by rw[AAK];exact k.1,k.2⟩⟩
instance (priority:=high){c:Type}{k:c}[Decidable (k=k)]{A B:Prop}:Wp (if decide (k=k)=true then A else B) A:=⟨λh=>by rw[AAE (AAO rfl)];exact h⟩
instance (priority:=high){c:Type}{k:c}[Decidable (k=k)]{A B:Prop}:Wp (if (!decide (k=k))=true then A else B) B:=⟨λh=>by rw[AAC (by simp)];exact h⟩
def n8 {d:Type}{f:d->PV}{cs:zy d}{k:Int}{R:PV->Prop}(c:0<=k/\k<cs.length)(h:∀c,cs[k.toNat]? =some c->c∈cs->R (f c)):fF (J2 (cs.map f) k) R:=by
 have hk:k.toNat<cs.length:=by omega
 have e:J2 (cs.map f) ((k.toNat:Nat):Int)=some (f cs[k.toNat]):=DU (by rw[AAg,AAW hk] <;> rfl);rw[show k=((k.toNat:Nat):Int) by omega,e];exact h _ (AAW hk) (ACF hk)
instance{d:Type}{f:d->PV}{cs:zy d}{k:Int}:ZU (Ae (.tup (cs.map f)) (.int k) Q) (0<=k/\k<cs.length) (∀c,cs[k.toNat]? =some c->c∈cs->Q (f c)):=⟨λc h=>n8 c h⟩
instance{c:C4}:Wp (dH (cor c) (some 1) none Q) (Q (.tup [fr c.2.1,fr c.2.2.1,fr c.2.2.2])):=⟨λh=>ME h⟩
end
end PL
namespace L2
open PySem PySem.Spec PyProof.Rows
abbrev y1 (b:kn)(h:ki)(l:zu):ki:=h.push (dL b l)
abbrev y2 (b c:kn)(h:ki)(l m:zu):ki:=(y1 b h l).push (dL c m)
abbrev y3 (b c d:kn)(h:ki)(l m n:zu):ki:=(y2 b c h l m).push (dL d n)
abbrev y4 (b c d:kn)(h:ki)(l m n:zu):ki:=(y3 b c d h l m n).push {cls:= .type "tuple",data:= .seq #[.ref h.objs.size, .ref (y1 b h l).objs.size, .ref (y2 b c h l m).objs.size] }
abbrev y5 (b c d:kn)(h:ki)(l m n:zu):ki:=(y4 b c d h l m n).push {cls:= .type "tuple",data:= .seq #[.none, .none, .none] }
end L2
namespace L2
open PySem PySem.Spec PyProof.Rows
def p8 {T:String}(h:Hj T):typeOf (.type T)=pure (.type "type"):=by rcases h with rfl|rfl|rfl|rfl <;> rfl
def qb:Kd->String
 | .int=>"int" | .bl=>"bool" | .non=>"NoneType" | .str=>"str" | .lst=>"list" | .tup=>"tuple"
section
variable {X:Cx}
def eZ {K:AAB}{f:zy (zu×Obj)}{s:zw}{g:St}{H:Hp}{x:V}{u:zx}{k:Kd}(I:Inv X f g H s)(r:RelV x u)(h:mZ X.K x H k):s.TypeIs u (qb k):=by
 cases k with
 | int=>obtain⟨i,rfl⟩:=h;obtain⟨t,rfl⟩:=r;exact rfl
 | bl=>obtain⟨i,rfl⟩:=h;cases r;exact rfl
 | non=>have e:x= .non:=h;subst e;cases r;exact rfl
 | str=>obtain⟨i,rfl⟩:=h;obtain⟨t,rfl⟩:=r;exact rfl
 | lst=> obtain⟨a,j,rfl,b⟩:=h;cases r;obtain⟨d,l,m,n⟩:=I.list b;obtain⟨o,e,c,_⟩:=m.isList;exact⟨o,e,c⟩
 | tup=> obtain⟨a,j,rfl,b⟩:=h;cases r;obtain⟨d,l,⟨o,e,c,_⟩,n⟩:=I.tuple b;exact⟨o,e,c⟩
def i7 {H:Hp}{x:V}{u:zx}{k:Kd}{T:String}(r:RelV x u)(h:mZ X.K x H k)(c:Hj T):Answers (λs=>s.TypeIs u (qb k)) u (.type T) (HU k T):=by
 have b:=p8 c;cases k with
 | int=>
   obtain⟨i,rfl⟩:=h;obtain⟨t,rfl⟩:=r;rcases c with rfl|rfl|rfl|rfl
   .exact .of_true b (by rw[AA9];kernel_rfl)
   all_goals exact .of_false_int (by rfl) b (by rw[AA9];kernel_rfl)
 | bl=>
   obtain⟨i,rfl⟩:=h;cases r;rcases c with rfl|rfl|rfl|rfl
   .exact .of_true b (by rw[AA9];kernel_rfl)
   .exact .of_true b (by rw[AA9];kernel_rfl)
   all_goals exact .of_false_bool (by rfl) b (by rw[AA9];kernel_rfl)
 | non=> have e:x= .non:=h;subst e;cases r;rcases c with rfl|rfl|rfl|rfl;all_goals exact .of_false_none (by rfl) b (by rw[AA9];kernel_rfl)
 | str=> obtain⟨i,rfl⟩:=h;obtain⟨t,rfl⟩:=r;rcases c with rfl|rfl|rfl|rfl;all_goals exact .of_false_str (by rfl) b (by rw[AA9];kernel_rfl)
 | lst=>
   obtain⟨a,d,rfl,f⟩:=h;cases r;rcases c with rfl|rfl|rfl|rfl
   case inr.inr.inr=>exact .of_true b (by rw[AA9];kernel_rfl)
   all_goals exact .of_false_list (by rfl) b (by rw[AA9];kernel_rfl)
 | tup=>
   obtain⟨a,d,rfl,f⟩:=h;cases r;rcases c with rfl|rfl|rfl|rfl
   case inr.inr.inl=>exact .of_true b (by rw[AA9];kernel_rfl)
   all_goals exact .of_false_tuple (by rfl) b (by rw[AA9];kernel_rfl)
theorem Wj {H:Hp}{x:V}{u:zx}{k:Kd}(r:RelV x u)(h:mZ X.K x H k):∀{a:zy String},(∀T∈a,Hj T)->AnswersAll (λs=>s.TypeIs u (qb k)) u (a.map Value.type) (a.map (HU k))
 | [],_=>True.intro
 | T::a,hT=>⟨i7 r h (hT T (by simp)),Wj r h λT h=>hT T (by simp[h])⟩
def pX (K:AAB)(b:TE)(a:zy String):TE:=λc H Q=>b c H λx H1=>∀q,H1 q=none->∃k,mZ K x H1 k/\Q (.bl (a.any (HU k))) (upd H1 q (.tup (a.map V.ty)))
def pq (a:zy String):TA:=λ_ H Q=>Q (a.map V.ty) H
theorem Ue:∀{a:zy String} {b:zy zx},At (a.map V.ty) b->b=a.map Value.type
 | [],_,h=>by cases h;rfl
 | T::a,_,h=>by
   rw[AAL] at h;cases h with
   | cons h t=>cases h;rw[Ue t,AAL]
def fU {x:Str}{p f pos:Pos}{e:zr}{es:zy zr}{g:Nat}{m:TE}{d:zy String}(C:Gl X x)(D:X.mg x=none)(hv:bootBuiltins x=some (.builtin "isinstance"))(ha:PE X e m)(E:PA X es (pq d))(F:∀T∈d,Hj T)(hl:d.length<=sizeLine)(G:x≠"__name__" :=by decide)(hdb:(x==("__debug__" :Str))=false:=by decide)(he:starEach (e :: [.Tuple es g f]) X.env=(false,eval e X.env)::starEach [.Tuple es g f] X.env:=by rfl)(hpl:(backTo pos (starEach [.Tuple es g f] X.env)).any (·.1)=false:=by rfl)(J:starEach [.Tuple es g f] X.env=(false,eval (.Tuple es g f) X.env)::starEach [] X.env:=by rfl):PE X (.Call (.Name x p) [e, .Tuple es g f] [] pos) (pX X.K m d):=by
 intro n s r H Q I h;refine ACt (Gc I C D hv ?_ G hdb);refine AD7 ?_ he hpl;rw[he];show wpAny _ _ (spliced ((false,eval e X.env)::backTo pos (starEach [.Tuple es g f] X.env))) _ _ s;refine ACV (BJ (ha n s r H _ I h) λu t ⟨v,H1,L,y,M⟩=> ?_);rw[J];show wpAny _ _ (spliced ((false,eval (.Tuple es g f) X.env)::backTo pos (starEach [] X.env))) _ _ t;refine ACV (wpAny_Tuple_spliced (BJ (E f n t r H1 (λvs N=>vs=d.map V.ty/\N=H1) L ⟨rfl,rfl⟩) λj i ⟨vs,O,l,z,P,R⟩=> ?_));subst P R;have S:O i.heap.objs.size=none:=l.hok.fresh (AAJ _);obtain⟨k,hk,U⟩:=M _ S;have A:=Ue z;have W:j.length<=sizeLine:=by rw[A,AAK];exact hl
 have Y:=l.laid (t':=i.toks) (a:=i.heap.objs.size) (o:= .tup (d.map V.ty)) (h':=i.heap.push {cls:= .type "tuple",data:= .seq j.toArray}) (λb u e=>AAH _ e) (AAJ _) (show CC X.prog X.w _ _ _ (.tup (d.map V.ty)) from⟨by rw[AAK];exact hl,j,z,⟨_,AAP _ rfl,rfl,_,rfl⟩⟩);have Z:Shared.TypeIs {i with heap:=i.heap.push {cls:= .type "tuple",data:= .seq j.toArray}} u (qb k):=by
  have B:=eZ (K:=X.K) l y hk;cases u with
  | ref a=>obtain⟨o,e,c⟩:=B;exact⟨o,AAH _ e,c⟩
  | _=>exact B
 refine⟨W,ADS ?_⟩;refine IsiPair.tupleOfB (cs:=d.map Value.type) (vs:=d.map (HU k)) (b:=d.any (HU k)) (Wj y hk F) Z ?_ ?_ λtk=>⟨.bl _,_,Y.tok _,rfl,U⟩
 .rw [<-A];exact AAP _ rfl
 .rw [List.any_map];rfl
end
end L2
namespace PL
open PySem PySem.Spec PyProof.Rows L2
section
variable {X:Cx}
def Pp (a:AE)(b:zy String):AE:=λτ Q=>a τ λx=>match kdOf x with | some k=>Q (.bl (b.any (HU k)))|none=>False
def gD {x:Str}{p c pos:Pos}{e:zr}{es:zy zr}{d:Nat}{m:AE}(f:zy String)(o:Gl X x)(r:X.mg x=none)(hv:bootBuiltins x=some (.builtin "isinstance"))(ha:SE X e m)(u:PA X es (pq f))(w:∀T∈f,Hj T)(hl:f.length<=sizeLine)(y:x≠"__name__" :=by decide)(hdb:(x==("__debug__" :Str))=false:=by decide)(he:starEach (e :: [.Tuple es d c]) X.env=(false,eval e X.env)::starEach [.Tuple es d c] X.env:=by rfl)(hpl:(backTo pos (starEach [.Tuple es d c] X.env)).any (·.1)=false:=by rfl)(z:starEach [.Tuple es d c] X.env=(false,eval (.Tuple es d c) X.env)::starEach [] X.env:=by rfl):SE X (.Call (.Name x p) [e, .Tuple es d c] [] pos) (Pp m f):=by
 obtain⟨t,A,s⟩:=ha;refine⟨_,fU o r hv A u w hl y hdb he hpl z,λB T C τ H Q D n h k=> ?_⟩;refine s B T C τ H _ _ n h λv x T1 H1 g E h1=> ?_;intro q F;have i:=n.stp g;have j:C9 T1 H1 T1 (upd H1 q (.tup (f.map V.ty))):=C9.lay i.tp F;have a:∀b,D (.bl b)->Q (.bl b) (upd H1 q (.tup (f.map V.ty))):=λb hb=>k _ _ T1 _ (g.trans j) (.bl _) hb;cases E with
 | non=>exact⟨.non,rfl,a _ h1⟩
 | bl b=>exact⟨.bl,⟨_,rfl⟩,a _ h1⟩
 | int b=>exact⟨.int,⟨_,rfl⟩,a _ h1⟩
 | str b=>exact⟨.str,⟨_,rfl⟩,a _ h1⟩
 | ty b=>exact h1.elim
 | tup l _=>exact⟨.tup,⟨_,_,rfl,l.sq⟩,a _ h1⟩
 | lst l _ _ _=>exact⟨.lst,⟨_,_,rfl, .inl (.inl l)⟩,a _ h1⟩
 | tape _=>exact h1.elim
 | scr _=>exact h1.elim
 | dct _ _ _=>exact h1.elim
 | dk _ _=>exact h1.elim
def OH {x:Str}{p a pos:Pos}{e:zr}{es:zy zr}{b:Nat}{c:AE}(A B:String)(d:Gl X x)(f:X.mg x=none)(hv:bootBuiltins x=some (.builtin "isinstance"))(ha:SE X e c)(g:PA X es (cm (tC (.ty A)) (cm (tC (.ty B)) pZ)))(h:∀T∈ [A,B],Hj T)(i:x≠"__name__" :=by decide)(hdb:(x==("__debug__" :Str))=false:=by decide)(he:starEach (e :: [.Tuple es b a]) X.env=(false,eval e X.env)::starEach [.Tuple es b a] X.env:=by rfl)(hpl:(backTo pos (starEach [.Tuple es b a] X.env)).any (·.1)=false:=by rfl)(j:starEach [.Tuple es b a] X.env=(false,eval (.Tuple es b a) X.env)::starEach [] X.env:=by rfl):SE X (.Call (.Name x p) [e, .Tuple es b a] [] pos) (Pp c [A,B]):=
 gD [A,B] d f hv ha g h (ABP rfl) i hdb he hpl j
def Nb:∀T∈ ["tuple","list"],Hj T:=λT h=>by
 simp only[AAF,AAj,AAk] at h;rcases h with rfl|rfl
 .exact .inr (.inr (.inl rfl))
 .exact .inr (.inr (.inr rfl))
end
end PL
namespace PL
open PySem L2 PyProof.Rows
def sV (a:zy String)(x:PV)(Q:PV->Prop):Prop:=match kdOf x with | some k=>Q (.bl (a.any (HU k)))|none=>False
instance{a:AE}{b:zy String}{τ:BA}{Q:PV->Prop}:Wp (Pp a b τ Q) (a τ λx=>sV b x Q):=⟨id⟩
class Zs (Ts:List String):Prop where
 q:Ts.any (HU .tup)=true/\Ts.any (HU .lst)=true/\Ts.any (HU .int)=false/\Ts.any (HU .bl)=false/\Ts.any (HU .non)=false/\Ts.any (HU .str)=false
instance:Zs ["tuple","list"] :=⟨by decide⟩
instance:Zs ["list","tuple"] :=⟨by decide⟩
section
variable {Ts:zy String}[h:Zs Ts]{Q:PV->Prop}{xs:zy PV}
instance:Wp (sV Ts (.tup xs) Q) (Q (.bl true)):=⟨λk=>by show Q _;rw[h.q.1];exact k⟩
instance:Wp (sV Ts (.lst xs) Q) (Q (.bl true)):=⟨λk=>by show Q _;rw[h.q.2.1];exact k⟩
end
end PL
namespace L2
open PySem PySem.Spec PyProof.Rows
section
variable {κ:Type}[DecidableEq κ]
def Ji (kvs:zy (κ×V))(k:κ):zt V:=(kvs.find? λa=>decide (a.1=k)).map (·.2)
def FV (kvs:zy (κ×V))(k:κ)(v:V):zy (κ×V):=
 if (kvs.any λa=>decide (a.1=k))=true then kvs.map (λa=>if a.1=k then (a.1,v) else a) else kvs ++ [(k,v)]
def G8 {p:κ×V}{r:zy (κ×V)}{k:κ}(e:p.1=k):Ji (p::r) k=some p.2:=by simp[Ji,AB1,e]
def G7 {p:κ×V}{r:zy (κ×V)}{k:κ}(e:¬p.1=k):Ji (p::r) k=Ji r k:=by simp[Ji,AB1,e]
theorem Uf (k:κ):∀kvs:zy (κ×V),(kvs.any λa=>decide (a.1=k))=(Ji kvs k).isSome
 | [] =>rfl
 | p::r=>by
   rw[ABe];by_cases e:p.1=k
   .simp only[G8 e,AAO e,ADl,Option.isSome_some]
   .rw [G7 e,AAa e,ADm];exact Uf k r
def Ey (kvs:zy (κ×V))(k:κ)(v:V):(FV kvs k v).length<=kvs.length+1:=by
 unfold FV;split
 .rw [AAK];omega
 .rw [AAx,AAi,AC9];omega
def La.isSome_eq {o:zt V}{u:zt zx}(r:La o u):o.isSome=u.isSome:=by
 cases o with
 | none=>cases u with
   | none=>rfl
   | some _=>exact(show False from r).elim
 | some _=>cases u with
   | none=>exact(show False from r).elim
   | some _=>rfl
def La.getD {o:zt V}{u:zt zx}{d:V}{d':zx}(r:La o u)(a:RelV d d'):RelV (o.getD d) (u.getD d'):=by
 cases o with
 | none=>cases u with
   | none=>exact a
   | some _=>exact(show False from r).elim
 | some _=>cases u with
   | none=>exact(show False from r).elim
   | some _=>exact r
def KV.val {kvs:zy (κ×V)}{vs:zy (κ×zx)}(r:KV kvs vs)(k:κ):La (Ji kvs k) (valueAt vs k):=by
 unfold KV at r;induction r with
 | nil=>exact True.intro
 | @cons p q ps qs h t c=>
   obtain⟨h1,h2⟩:=h;by_cases e:p.1=k
   .have a:q.1=k:=h1.symm.trans e;have b:valueAt (q::qs) k=some q.2:=by simp[valueAt,AB1,a]
    rw[G8 e,b];exact h2
   .have a:¬q.1=k:=λz=>e (h1.trans z);have b:valueAt (q::qs) k=valueAt qs k:=by simp[valueAt,AB1,a]
    rw[G7 e,b];exact c
def KV.any {kvs:zy (κ×V)}{vs:zy (κ×zx)}(r:KV kvs vs)(k:κ):(kvs.any λa=>decide (a.1=k))=vs.any λa=>decide (a.1=k):=by
 unfold KV at r;induction r with
 | nil=>rfl
 | cons h t b=>rw[ABe,ABe,b,h.1]
def KV.repl {kvs:zy (κ×V)}{vs:zy (κ×zx)}(r:KV kvs vs)(k:κ){y:V}{u:zx}(b:RelV y u):KV (kvs.map λa=>if a.1=k then (a.1,y) else a) (vs.map λa=>if a.1=k then (a.1,u) else a):=by
 unfold KV at r ⊢;induction r with
 | nil=>exact .nil
 | @cons p q ps qs h t c=>
   rw[AAL,AAL];refine .cons ?_ c;obtain⟨h1,h2⟩:=h;by_cases e:p.1=k
   .rw [AAE e,AAE (h1.symm.trans e)];exact⟨h1,b⟩
   .rw [AAC e,AAC (λz=>e (h1.trans z))];exact⟨h1,h2⟩
def KV.put {kvs:zy (κ×V)}{vs:zy (κ×zx)}(r:KV kvs vs)(k:κ){y:V}{u:zx}(a:RelV y u):KV (FV kvs k y) (stored vs k u):=by
 unfold FV stored;rw[r.any k];by_cases e:(vs.any λb=>decide (b.1=k))=true
 .rw [AAE e,AAE e];exact r.repl k a
 .rw [AAC e,AAC e];exact Paired.snoc r ⟨rfl,a⟩
def KV.keys {kvs:zy (κ×V)}{vs:zy (κ×zx)}(r:KV kvs vs):kvs.map (·.1)=vs.map (·.1):=by
 unfold KV at r;induction r with
 | nil=>rfl
 | cons h t a=>rw[AAL,AAL,a,h.1]
def KV.length {kvs:zy (κ×V)}{vs:zy (κ×zx)}(r:KV kvs vs):kvs.length=vs.length:=Paired.length r
end
def P9 {P:km}{w:kj}{k:B6}{u:zx}(r:RelV (kV k) u):(Aw P w).is k u=true:=by
 cases k with
 | inl i=>obtain⟨t,e⟩:=(show ∃t,u=Value.int i t from r);subst e;exact Tt P w i t
 | inr x=>obtain⟨t,e⟩:=(show ∃t,u=Value.str x t from r);subst e;exact Tu P w x t
theorem P8 {P:km}{w:kj}:∀{a:zy B6} {b:zy zx},At (a.map kV) b->ItemsAre (Aw P w) a b
 | [],_,r=>by rw[ABr] at r;cases r;exact .nil
 | k::a,_,r=>by
   rw[AAL] at r;cases r with
   | cons h t=>exact .cons (P9 h) (P8 t)
abbrev KT (H:Hp):zy (zy B6×V)->zy (zy B6×zu×zx)->Prop:=Paired λp q=>p.1=q.1/\H q.2.1=some (.tup (p.1.map kV))/\RelV p.2 q.2.2
def KT.val {H:Hp}{kvs:zy (zy B6×V)}{xs:zy (zy B6×zu×zx)}(r:KT H kvs xs)(k:zy B6):La (Ji kvs k) ((atKey xs k).map (·.2)):=by
 induction r with
 | nil=>exact True.intro
 | @cons p q ps qs h t c=>
   obtain⟨h1,_,h2⟩:=h;by_cases e:p.1=k
   .have a:q.1=k:=h1.symm.trans e;have b:atKey (q::qs) k=some q.2:=by simp[atKey,AB1,a]
    rw[G8 e,b];exact h2
   .have a:¬q.1=k:=λz=>e (h1.trans z);have b:atKey (q::qs) k=atKey qs k:=by simp[atKey,AB1,a]
    rw[G7 e,b];exact c
def KT.repl {H:Hp}{kvs:zy (zy B6×V)}{xs:zy (zy B6×zu×zx)}(r:KT H kvs xs)(k:zy B6){y:V}{u:zx}(b:RelV y u):KT H (kvs.map λa=>if a.1=k then (a.1,y) else a) (xs.map (putAt k u)):=by
 induction r with
 | nil=>exact .nil
 | @cons p q ps qs h t c=>
   rw[AAL,AAL];refine .cons ?_ c;obtain⟨h1,h2,h3⟩:=h;unfold putAt;by_cases e:p.1=k
   .rw [AAE e,AAE (h1.symm.trans e)];exact⟨h1,h2,b⟩
   .rw [AAC e,AAC (λz=>e (h1.trans z))];exact⟨h1,h2,h3⟩
def KT.put {H:Hp}{kvs:zy (zy B6×V)}{xs:zy (zy B6×zu×zx)}(r:KT H kvs xs)(k:zy B6){b:zu}{y:V}{u:zx}(hb:H b=some (.tup (k.map kV)))(a:RelV y u):KT H (FV kvs k y) (storedH xs k b u):=by
 have e:(kvs.any λc=>decide (c.1=k))=(atKey xs k).isSome:=by rw[Uf,(r.val k).isSome_eq,Option.isSome_map]
 unfold FV storedH;rw[e];by_cases q:(atKey xs k).isSome=true
 .rw [AAE q,AAE q];exact r.repl k a
 .rw [AAC q,AAC q];exact Paired.snoc r ⟨rfl,hb,a⟩
def KT.keeps {H a:Hp}{kvs:zy (zy B6×V)}{xs:zy (zy B6×zu×zx)}(r:KT H kvs xs)(d:∀b c,H b=some (.tup c)->a b=some (.tup c)):KT a kvs xs:=
 Paired.mapP r λ_ _ z=>⟨z.1,d _ _ z.2.1,z.2.2⟩
section
variable {P:km}{w:kj}{H:Hp}{h:ki}{a:zu}
def iK {u:HO}(ok:Iy P w H h)(e:Rd H a u):CC P w H h a u:=e.ok ok
def TR {kvs:zy (B6×V)}(ok:Iy P w H h)(e:Rd H a (.dK kvs)):kvs.length<=sizeLine/\(a==sysModules)=false/\∃vs,KV kvs vs/\h.DictOf (Aw P w) a vs:=
 show CC P w H h a (.dK kvs) from iK ok e
def Wy {kvs:zy (B6×V)}(ok:Iy P w H h)(e:H a=some (.dK kvs)):kvs.length<=sizeLine/\(a==sysModules)=false/\∃vs,KV kvs vs/\h.DictOf (Aw P w) a vs:=TR ok (.inl e)
def RS {b:zy B6}(ok:Iy P w H h)(e:H a=some (.tup (b.map kV))):(tupleKind (Aw P w)).is h b a:=by obtain⟨_,c,r,o,h1,h2,n,h3⟩:=(show CC P w H h a (.tup (b.map kV)) from ok a _ e);exact⟨o,c.toArray,n,h1,h2,h3,by simpa using P8 r⟩
def TU {kvs:zy (zy B6×V)}(ok:Iy P w H h)(e:Rd H a (.dT kvs)):kvs.length<=sizeLine/\(a==sysModules)=false/\ ∃xs,KT H kvs xs/\h.DictOfH (tupleKind (Aw P w)) a xs:=by
 obtain⟨z,y,xs,r,o,es,ep,h1,h2,h3,c,d⟩:=(show CC P w H h a (.dT kvs) from iK ok e);refine⟨z,y,xs,r,o,es,ep,h1,h2,h3,c,λx hx=> ?_,d⟩;have all:∀{l:zy (zy B6×V)} {m:zy (zy B6×zu×zx)},KT H l m->∀x∈m,(tupleKind (Aw P w)).is h x.1 x.2.1:=by
  intro l m q;induction q with
  | nil=>intro x hx;exact nomatch hx
  | @cons p q ps qs b t f=>
    intro x hx;rcases AAF.mp hx with e|hx
    .subst e;exact RS ok (by rw[<-b.1];exact b.2.1)
    .exact f x hx
 exact all r x hx
def nF {kvs:zy (zy B6×V)}(ok:Iy P w H h)(e:H a=some (.dT kvs)):kvs.length<=sizeLine/\(a==sysModules)=false/\ ∃xs,KT H kvs xs/\h.DictOfH (tupleKind (Aw P w)) a xs:=TU ok (.inl e)
end
def Oq (H:Hp)(a:zu)(y:V)(r:zt V):Prop:=
 (∃kvs k,Rd H a (.dK kvs)/\y=kV k/\r=Ji kvs k)\/∃kvs k b,Rd H a (.dT kvs)/\y= .ref b/\H b=some (.tup (k.map kV))/\r=Ji kvs k
def Uu (H:Hp)(a:zu)(y v:V)(c:Hp):Prop:=
 (∃kvs k,H a=some (.dK kvs)/\y=kV k/\kvs.length<sizeLine/\c=upd H a (.dK (FV kvs k v)))\/
 ∃kvs k b,H a=some (.dT kvs)/\y= .ref b/\H b=some (.tup (k.map kV))/\kvs.length<sizeLine/\c=upd H a (.dT (FV kvs k v))
def Oq.k {H:Hp}{a:zu}{kvs:zy (B6×V)}{k:B6}(e:H a=some (.dK kvs)):Oq H a (kV k) (Ji kvs k):= .inl ⟨kvs,k, .inl e,rfl,rfl⟩
def Oq.t {H:Hp}{a b:zu}{kvs:zy (zy B6×V)}{k:zy B6}(e:H a=some (.dT kvs))(c:H b=some (.tup (k.map kV))):Oq H a (.ref b) (Ji kvs k):= .inr ⟨kvs,k,b, .inl e,rfl,c,rfl⟩
def Uu.k {H:Hp}{a:zu}{kvs:zy (B6×V)}{k:B6}{v:V}(e:H a=some (.dK kvs))(hl:kvs.length<sizeLine):Uu H a (kV k) v (upd H a (.dK (FV kvs k v))):= .inl ⟨kvs,k,e,rfl,hl,rfl⟩
def Uu.t {H:Hp}{a b:zu}{kvs:zy (zy B6×V)}{k:zy B6}{v:V}(e:H a=some (.dT kvs))(c:H b=some (.tup (k.map kV)))(hl:kvs.length<sizeLine):Uu H a (.ref b) v (upd H a (.dT (FV kvs k v))):= .inr ⟨kvs,k,b,e,rfl,c,hl,rfl⟩
section
variable {X:Cx}{ke:zy (zu×Obj)}{σ:St}{H:Hp}{s:zw}{a:zu}{y v:V}{u r:zx}{o:zt V}{A:kf}{E:zx->zw->Prop}
def Inv.big (I:Inv X ke σ H s):sysModules<s.heap.objs.size:=by have h:mainGlobals<s.heap.objs.size:=(I.mod.glob.keeps I.bk).lt;exact ACY (by decide) h
def YQ {Q:zx->zw->Prop}(hu:A.units+1<cLine)(I:Inv X ke σ H s)(g:Oq H a y (some v))(m:RelV y u)(h:∀f n,Inv X ke σ H n->RelV v f->Q f n):wpAny (model X.prog X.w) A (getItem (.ref a) u) Q E s:=by
 rcases g with⟨kvs,k,e,i,l⟩|⟨kvs,k,b,e,i,t,l⟩
 .subst i;obtain⟨z,hd,vs,c,j⟩:=TR I.hok e;obtain⟨f,hw,d⟩:=La.some_of (v:=v) (o:=valueAt vs k) (by rw[l];exact c.val k);exact wpAny_getItem_of (P9 m) j.mapOf hw (h f _ (I.tok _) d)
 .subst i;cases (show u=Value.ref b from m);obtain⟨z,hd,xs,c,j⟩:=TU I.hok e;obtain⟨f,hw,d⟩:=La.some_of (v:=v) (o:=(atKey xs k).map (·.2)) (by rw[l];exact c.val k);obtain⟨p,hp,x⟩:=ACc.mp hw;refine wpAny_getItem_heap (ADn hu) (RS I.hok t) j hp ?_;rw[x];exact h f _ (I.tok _) d
def JH {h':ki}{t':Nat}{c:HO}(I:Inv X ke σ H s)(d:mj (H a))(hs:Heap.SameBut a s.heap h')(he:∃q,h'.get? a=some q)(new:CC X.prog X.w (upd H a c) h' a c):Inv X ke σ (upd H a c) {s with heap:=h',toks:=t'}:=
 I.write (x:=a) (e:=a) d (.inl rfl) (λb q hb z=>(hs.2 b hb).trans z) he new
def RB {P:km}{w:kj}{c:Hp}{h':ki}{kvs:zy (B6×V)}{vs:zy (B6×zx)}(z:kvs.length<=sizeLine)(hd:(a==sysModules)=false)(b:KV kvs vs)(d:h'.DictOf (Aw P w) a vs):CC P w c h' a (.dK kvs):=⟨z,hd,vs,b,d⟩
def YR {t:Hp}{Q:Unit->zw->Prop}(hu:A.units+1<cLine)(I:Inv X ke σ H s)(g:Uu H a y v t)(x:RelV y u)(rv:RelV v r)(h:∀B,Inv X ke σ t B->Q () B):wpAny (model X.prog X.w) A (setItem (.ref a) u r) Q E s:=by
 rcases g with⟨kvs,k,e,j,l,m⟩|⟨kvs,k,b,e,j,C,l,m⟩
 .subst j m;obtain⟨z,hd,vs,d,n⟩:=Wy I.hok e;have p:vs.length<=sizeLine:=by rw[<-d.length];exact z
  have hl:(FV kvs k v).length<=sizeLine:=by have:=Ey kvs k v;omega
  refine wpAny_setItem_pairs (hsz:=p) (P9 x) n λh' f hs=>h _ ?_;have he:∃q,h'.get? a=some q:=let ⟨q,_,_,i,_⟩:=f;⟨q,i⟩;exact JH I (by rw[e];exact True.intro) hs he (RB hl hd (d.put k rv) f)
 .subst j m;cases (show u=Value.ref b from x);obtain⟨z,hd,xs,d,n⟩:=nF I.hok e;have p:xs.length<=sizeLine:=by rw[<-Paired.length d];exact z
  have hl:(FV kvs k v).length<=sizeLine:=by have:=Ey kvs k v;omega
  refine wpAny_setItem_heap (hsz:=p) (ADn hu) (RS I.hok C) n λh' f hs=>h _ ?_;obtain⟨q,es,ep,i,h2,h3,F,_,G⟩:=f;refine JH I (by rw[e];exact True.intro) hs ⟨q,i⟩ ⟨hl,hd,_,(d.put k C rv).keeps λc J D=> ?_,q,es,ep,i,h2,h3,F,G⟩;rw[Ag (oI D e (λz=>nomatch z))];exact D
end
def ie (i:zr):Prop:=∀a b,subscripted i false a b=operate [a,b] (getItem a b)
def gX {prog:km}{w:kj}{A:kf}{E:zx->zw->Prop}{s:zw}{env:Env}{value slice:zr}{pos:Pos}{T id:String}{Q:zx->zw->Prop}(hl:typeLookup (.type T) "__getitem__" =pure (some (.builtin id)))(hs:ie slice)(h:wpAny (model prog w) A (eval value env) (λo c=>wpAny (model prog w) A (eval slice env) (λi a=>a.TypeIs o T/\wpAny (model prog w) A (getItem o i) Q E a) E c) E s):wpAny (model prog w) A (eval (.Subscript value slice pos) env) Q E s:=by
 refine Subscript_ (ABL h (λo c f=>ABL f (λi a b=> ?_) λ_ _ x=>x) λ_ _ x=>x);obtain⟨j,b⟩:=b;unfold subscriptTail;refine AAA ?_;rw[getitemInPython_of_ne j.not_modules];refine AAA (ABi j hl ?_);have e:wpAny (model prog w) A (subscripted slice false o i) (λr d=>wpAny (model prog w) A (letTemporaryGo value o r >>= λ_=>pure r) Q E d) E a:=by rw[hs o i];exact wpAny_operating (ABL b (λr d g=>AAA (wpAny_letTemporaryGo (AAD g))) λ_ _ x=>x)
 first
  | exact AAD (AAA e)
  | exact AAA (AAD (AAA e))
  | exact AAA e
def TN {X:Cx}{d:zy (zu×Obj)}{f:St}{H:Hp}{s:zw}{a:zu}{y:V}{o:zt V}(I:Inv X d f H s)(g:Oq H a y o):s.TypeIs (.ref a) "dict" :=by
 rcases g with⟨kvs,k,e,_,_⟩|⟨kvs,k,b,e,_,_,_⟩
 .obtain ⟨_,_,vs,_,c⟩:=TR I.hok e;exact c.typeIs
 .obtain ⟨_,_,xs,_,c⟩:=TU I.hok e;exact c.typeIs
def pV (d e:TE):TE:=λb H Q=>d b H λx H1=>e b H1 λy c=>∃a v,x= .ref a/\Oq c a y (some v)/\Q v c
def iL (d e f:TE):TS:=λD b H=>f b H λv H1=>d b H1 λx g=>e b g λy h=>∃a c,x= .ref a/\Uu h a y v c/\D.nx b c
section
variable {X:Cx}{o i e value:zr}{pos pos' tpos:Pos}{td ty tv:TE}
def fR (hu:X.A.units+1<cLine)(j:PE X o td)(hi:PE X i ty)(hs:ie i):PE X (.Subscript o i pos) (pV td ty):=by intro c s d H Q I h;refine gX PySem.F.slot_dict_getitem.lookup hs (BJ (j c s d H _ I h) λu k ⟨x,H1,l,m,n⟩=>BJ (hi c k d H1 _ l n) λz B ⟨y,p,f,r,a,v,ex,g,t⟩=> ?_);subst ex;obtain rfl:u=Value.ref a:=m;exact⟨TN f g,YQ hu f g r λC D w b=>⟨v,p,w,b,t⟩⟩
def fk (hu:X.A.units+1<cLine)(d:PE X o td)(hi:PE X i ty)(hv:PE X value tv)(hs:swapsWith value (some (.Subscript o i pos')) pos.line X.env=pure false):PS X (.Assign [.Subscript o i pos'] value pos) (iL td ty tv):=by intro c s b H D I h;refine wpAny_Assign_Subscript (BJ (hv c s b H _ I h) λr f ⟨v,H1,j,rv,k⟩=>BJ (d c f b H1 _ j k) λu l ⟨x,m,n,p,t⟩=>BJ (hi c l b m _ n t) λF G ⟨y,J,w,z,a,B,ex,g,C⟩=> ?_) hs;subst ex;obtain rfl:u=Value.ref a:=p;exact YR hu w g z rv λK E=>⟨b,B,E,C⟩
end
def TQ {P:km}{w:kj}{H:Hp}(h:ki)(hb:sysModules<h.objs.size):CC P w H (h.push {cls:= .type "dict",data:= .dict #[] }) h.objs.size (.dK []):=
 ⟨ABG _,ADN.mpr (AA6 (AAM hb)), [], .nil,Heap.DictOf.new h⟩
def WQ:zy (TE×TE)->St->Hp->(zy (V×V)->Hp->Prop)->Prop
 | [],_,H,Q=>Q [] H
 | (tk,tv)::r,σ,H,Q=>tk σ H λx H1=>tv σ H1 λy a=>WQ r σ a λps b=>Q ((x,y)::ps) b
abbrev VV:zy (V×V)->zy (zx×zx)->Prop:=Paired λp q=>RelV p.1 q.1/\RelV p.2 q.2
def qE (X:Cx)(pos:Pos)(keys:zy (zt zr))(values:zy zr)(a:zy (TE×TE)):Prop:=
 ∀(c:zy (zu×Obj)) (s:zw) (b:St) (H:Hp) (Q:zy (V×V)->Hp->Prop),Inv X c b H s->WQ a b H Q->
  wpAny (model X.prog X.w) X.A (evalPairs (pairTrees keys values X.env pos)) (λvs e=>∃ps d,Inv X c b d e/\VV ps vs/\Q ps d) X.xe s
def fg {X:Cx}{pos:Pos}:qE X pos [] [] [] :=λa s b H Q I h=>pairTrees_nil_walk ⟨[],H,I, .nil,h⟩
def bu {X:Cx}{pos:Pos}{k v:zr}{e:zy (zt zr)}{vs:zy zr}{f g:TE}{a:zy (TE×TE)}(hk:PE X k f)(hv:PE X v g)(i:qE X pos e vs a):qE X pos (some k::e) (v::vs) ((f,g)::a):=λb s c H Q I h=>
 pairTrees_cons_walk (BJ (hk b s c H _ I h) λu j ⟨x,H1,l,m,n⟩=>BJ (hv b j c H1 _ l n) λC o ⟨y,p,r,t,w⟩=>
  BJ (i b o c p _ r w) λD E ⟨ps,z,A,d,B⟩=>⟨(x,y)::ps,z,A, .cons ⟨m,t⟩ d,B⟩)
def Nj (kvs more:zy (B6×V)):zy (B6×V):=more.foldl (λa b=>FV a b.1 b.2) kvs
def KV.merge:∀{more:zy (B6×V)} {a:zy (B6×zx)} {kvs:zy (B6×V)} {vs:zy (B6×zx)},KV more a->KV kvs vs->KV (Nj kvs more) (merged vs a):=by
 intro more a kvs vs r;unfold KV at r;induction r generalizing kvs vs with
 | nil=>intro q;exact q
 | @cons p q ps qs h t b=>
   intro c;have e:KV (FV kvs p.1 p.2) (stored vs q.1 q.2):=by have:=c.put p.1 h.2;rw[<-h.1];exact this
   exact b e
theorem Hk:∀(more kvs:zy (B6×V)),(Nj kvs more).length<=kvs.length+more.length
 | [],kvs=>by show kvs.length<=kvs.length+0;omega
 | p::r,kvs=>by have h1:=Hk r (FV kvs p.1 p.2);have h2:=Ey kvs p.1 p.2;show (Nj (FV kvs p.1 p.2) r).length<=_;rw[AAi];omega
theorem NE {P:km}{w:kj}:∀{kvs:zy (B6×V)} {e:zy (zx×zx)},VV (kvs.map λf=>(kV f.1,f.2)) e->∃d,Carries (Aw P w) e d/\KV kvs d
 | [],_,r=>by rw[ABr] at r;cases r;exact⟨[],True.intro, .nil⟩
 | p::kvs,_,r=>by
   rw[AAL] at r;cases r with
   | @cons a b as bs h t=> obtain⟨d,c,q⟩:=NE (P:=P) (w:=w) t;obtain⟨g,b2⟩:=b;exact⟨(p.1,b2)::d,⟨P9 h.1,rfl,c⟩, .cons ⟨rfl,h.2⟩ q⟩
structure M2 (X:Cx) (o:Expr) (m:Str) (apos:Pos) (e f:Expr) (cpos:Pos):Prop where
 base:attributeBase o m X.env (eval o X.env)=eval o X.env
 few:((backTo cpos (starEach [e,f] X.env)).all (λx=> !x.1)&&(backToKw cpos (keywordEach [] X.env)).all (λx=>x.1.isSome)
  && decide (([e,f] :List Expr).length+([] :List Keyword).length+(if ([] :List Keyword).isEmpty then 0 else 1)<30))=true
 line:(apos.endLine==cpos.line)=true
 trees:backTo cpos (starEach [e,f] X.env)= [(false,eval e X.env),(false,eval f X.env)]
def uw (H:Hp)(a:zu):Prop:=(∃kvs,Rd H a (.dK kvs))\/∃kvs,Rd H a (.dT kvs)
def RR {X:Cx}{g:zy (zu×Obj)}{h:St}{H:Hp}{s:zw}{a:zu}(I:Inv X g h H s)(d:uw H a):s.TypeIs (.ref a) "dict" /\(∀b,Value.ref a= .ref b->∃c,s.heap.get? b=some c/\c.dict=none)/\(a==sysModules)=false:=by
 rcases d with⟨kvs,e⟩|⟨kvs,e⟩
 .obtain ⟨_,hd,vs,_,f⟩:=TR I.hok e;refine⟨f.typeIs,λb q=> ?_,hd⟩;cases q;obtain⟨c,_,_,h1,h2,_⟩:=f;exact⟨c,h1,h2.2.1⟩
 .obtain ⟨_,hd,xs,_,f⟩:=TU I.hok e;refine⟨f.typeIs,λb q=> ?_,hd⟩;cases q;obtain⟨c,_,_,h1,h2,_⟩:=f;exact⟨c,h1,h2.2.1⟩
section
variable {X:Cx}{ke:zy (zu×Obj)}{σ:St}{H:Hp}{s:zw}{a:zu}{y d:V}{u r:zx}{o:zt V}{A:kf}{E:zx->zw->Prop}
def jB {Q:zx->zw->Prop}(hu:A.units+1<cLine)(I:Inv X ke σ H s)(g:Oq H a y o)(j:RelV y u)(m:RelV d r)(h:∀n p,Inv X ke σ H p->RelV (o.getD d) n->Q n p):wpAny (model X.prog X.w) A (call (.builtin "dict.get") [.ref a,u,r]) Q E s:=by
 rcases g with⟨kvs,k,e,i,l⟩|⟨kvs,k,b,e,i,t,l⟩
 .subst i;obtain⟨z,hd,vs,c,f⟩:=TR I.hok e;refine ADB ADo f.typeIs AEH (AEI _ _ _) (meets_dict_get_default (Aw X.prog X.w) a (P9 j) hd r) ⟨_,f.mapOf,h _ _ (I.tok _) ?_⟩;rw[l];exact(c.val k).getD m
 .subst i;cases (show u=Value.ref b from j);obtain⟨z,hd,xs,c,f⟩:=TU I.hok e;refine ADB ADo f.typeIs AEH (AEI _ _ _) (meetsH_dict_get_default (tupleKind (Aw X.prog X.w)) a b hd r) ⟨ADn hu,k,xs,RS I.hok t,f,h _ _ (I.tok _) ?_⟩;rw[l];exact(c.val k).getD m
end
def cu (d e f:TE):TE:=λb H Q=>d b H λx H1=>∃a,x= .ref a/\uw H1 a/\e b H1 λy g=>f b g λz c=>∃o,Oq c a y o/\Q (o.getD z) c
section
variable {X:Cx}{o e f:zr}{apos cpos:Pos}{td ty tx:TE}
def bX (hu:X.A.units+1<cLine)(k:PE X o td)(he:PE X e ty)(l:PE X f tx)(m:M2 X o "get" apos e f cpos):PE X (.Call (.Attribute o "get" apos) [e,f] [] cpos) (cu td ty tx):=by
 intro b s c H Q I h;refine ADp m.base m.few m.line ADq ADo PySem.F.type_dict_get (BJ (k b s c H _ I h) λu n ⟨x,H1,j,p,a,ex,d,r⟩=> ?_);subst ex;obtain rfl:u=Value.ref a:=p;obtain⟨t,t2,_⟩:=RR j d;refine⟨t,t2, ?_⟩;rw[m.trees];refine ACw rfl (Calls.evalArgs_plain (ACV (BJ (he b n c H1 _ j r) λM v ⟨y,w,B,C,D⟩=>
  ACV (BJ (l b v c w _ B D) λN O ⟨z,E,G,J,P,g,K⟩=>ADS ?_))))
 exact jB hu G g C J λR S L i=>⟨_,E,L,i,K⟩
end
end L2
namespace PL
open PySem PySem.Spec PyProof.Rows L2
section
variable {K:AAB}{T M:zu->Prop}{H H':Hp}
def K6.ext (va:K6 T M H)(ex:∀b o,H b=some o->H' b=some o):Mv K T M H T M H':=⟨va,λb o _ _ e=>ex b o e,λ_ t=>t,λ_ _ t=>t,λ_ _ m=>m⟩
def gU (va:K6 T M H)(ex:∀b o,H b=some o->H' b=some o):C9 T H T H' where
 keep:=λb u _ e=>ex b u e
 sub:=λ_ t=>t
 new:=λ_ t=> .inl t
 tp:=λa t=>let ⟨d,x,e,q⟩:=va.tp a t;⟨d,x,ex _ _ e,q⟩
end
end PL
namespace L2
open PySem PySem.Spec PyProof.Rows
def VJ (own:Nat)(a:St):St:=List.replicate own none++a.drop own
def YO {own:Nat}{a:St}{j:Nat}{v:V}(h:(VJ own a)[j]? =some (some v)):own<=j/\a[j]? =some (some v):=by
 unfold VJ at h;by_cases hj:j<own
 .rw [ABN (by simpa using hj),ABZ,AAE hj] at h;cases h
 .have ZY:own<=j:=by omega
  rw[ABH (by simpa using ZY),ABa,AC8] at h;rw[show own+(j-own)=j by omega] at h;exact⟨ZY,h⟩
end L2
namespace PL
open PySem PySem.Spec PyProof.Rows L2
def YN (own:Nat)(τ:BA):BA:=List.replicate own none++τ.drop own
def SR.noOwn {K:AAB}{B:Cz}{T:zu->Prop}{H:Hp}{a:L2.St}{τ:BA}(s:SR K B T H a τ)(c:∀b,¬Cd a τ b){i:Nat}{xs:zy PV}:τ[i]? ≠some (some (.own xs)):=λe=>by obtain⟨p,vs,d,_⟩:=s.own i xs e;exact c p ⟨i,xs,e,d⟩
def SR.swap {K:AAB}{B:Cz}{l f:zu->Prop}{m g:Hp}{a σ0:L2.St}{τ k:BA}(c:SR K B l m a τ)(n:∀b,¬Cd a τ b)(d:SR K B f g σ0 k)(o:Mv K l (mt B a τ) m f (mt B a τ) g):SR K B f g a τ:=
 ⟨c.len,λi x e=>let ⟨v,h,r⟩:=c.val i x e;⟨v,h,r.mv o⟩,λi xs e=>absurd e (c.noOwn n),λi j xs s p e=>absurd e (c.noOwn n),d.tp,d.bm,d.bt,d.st⟩
def JG {own:Nat}{τ:BA}{j:Nat}{x:AV}(h:(YN own τ)[j]? =some (some x)):own<=j/\τ[j]? =some (some x):=by
 unfold YN at h;by_cases hj:j<own
 .rw [ABN (by simpa using hj),ABZ,AAE hj] at h;cases h
 .have ZY:own<=j:=by omega
  rw[ABH (by simpa using ZY),ABa,AC8] at h;rw[show own+(j-own)=j by omega] at h;exact⟨ZY,h⟩
def SR.cut {K:AAB}{B:Cz}{T:zu->Prop}{H:Hp}{c:L2.St}{τ:BA}{own:Nat}(s:SR K B T H c τ)(d:∀b,¬Cd c τ b):SR K B T H (VJ own c) (YN own τ)/\∀b,¬Cd (VJ own c) (YN own τ) b:=by have g:∀b,¬Cd (VJ own c) (YN own τ) b:=λb ⟨i,xs,h,f⟩=>d b ⟨i,xs,(JG h).2,(YO f).2⟩;refine⟨⟨by simp[VJ,YN,s.len],λi x e=> ?_,λi xs e=>absurd (JG e).2 (s.noOwn d),λi j xs k p e=>absurd (JG e).2 (s.noOwn d),s.tp,s.bm,s.bt,s.st⟩,g⟩;obtain⟨ZY,f⟩:=JG e;obtain⟨v,hv,r⟩:=s.val i x f;refine⟨v, ?_,r.mv (.anti s.va λa z=>z.elim .inl λz=>absurd z (g a))⟩;unfold VJ;rw[ABH (by simpa using ZY),ABa,AC8,show own+(i-own)=i by omega];exact hv
structure nA (D:Addr) (T:Addr->Prop) (H:Hp) (T':Addr->Prop) (H':Hp):Prop where
 keep:∀b o,¬T b->b≠D->H b=some o->H' b=some o
 sub:∀b,T b->T' b
 new:∀b,T' b->T b\/H b=none
 tp:∀b,H b≠none->H' b≠none
def nA.upd {D:zu}{T:zu->Prop}{H:Hp}{o:HO}:nA D T H T (upd H D o):=⟨λb a _ n e=>by rw[Ag n];exact e,λ_ e=>e,λ_ e=> .inl e,λb e=>by
 by_cases h:b=D
 .subst h;rw[Aj];exact λz=>nomatch z
 .rw [Ag h];exact e⟩
end PL
namespace PL
open PySem L2 PyProof.Rows
section
variable {ai ai2:AI}{g g2:AG}{tt t2:AT}{te:AE}{τ τ':BA}{QL:zy PV->Prop}{own own2:Nat}{ix:zy Nat}
instance{i:Nat}{a b:AE}{nx bk ct:BA->Prop}{rt:PV->Prop}:Wp (i4 i a b ⟨nx,rt,bk,ct⟩ τ) (b τ λy=>Lf i τ λxs=>a τ λk=>Sf k λk=>qc (XI xs.length k) λj=>PU τ i (.own (xs.set j y)) nx):=⟨id⟩
end
end PL
namespace L2
open PySem PySem.Spec PyProof.Rows
def xl {P:km}{w:kj}{h:ki}{d:zu}{o:Obj}{es:Array DictEntry}{ep:Nat}{vs:zy (B6×zx)}(g:h.get? d=some o)(e:o.data= .dict es ep)(x:h.DictOf (Aw P w) d vs):h.DictAt (Aw P w) d vs ep:=by obtain⟨i,b,f,g',c,a,r⟩:=x;rw[g] at g';cases g';rw[e] at a;cases a;exact⟨o,es,g,c,e,r⟩
def OW (H:Hp)(d:zu)(n ep:Nat)(kvs:zy (B6×V)):Prop:=∃o es,H d=some (.frz o (.dK kvs))/\o.data= .dict es ep/\kvs.length=n
def Itm (d:zu)(n ep:Nat):It:=
 ⟨λi H=>∃kvs k x,OW H d n ep kvs/\kvs[i]? =some (k,x),
  λi H v a=>∃T k x,v= .ref T/\H T=none/\a=upd H T (.tup [kV k,x])/\∀kvs,OW H d n ep kvs->kvs[i]? =some (k,x),
  λi H=>∃kvs,OW H d n ep kvs/\kvs.length<=i⟩
def OW.one {H:Hp}{d:zu}{n ep:Nat}{a b:zy (B6×V)}(x:OW H d n ep a)(y:OW H d n ep b):a=b:=by obtain⟨o,es,e,_⟩:=x;obtain⟨g,f,c,_⟩:=y;rw[e] at c;cases c;rfl
def OW.at {X:Cx}{b:zy (zu×Obj)}{c:St}{H:Hp}{s:zw}{d:zu}{n ep:Nat}{kvs:zy (B6×V)}(I:Inv X b c H s)(x:OW H d n ep kvs):∃vs,KV kvs vs/\s.heap.DictAt (Aw X.prog X.w) d vs ep:=by obtain⟨o,es,e,f,_⟩:=x;obtain⟨g,z,hd,vs,a,h⟩:=(show CC X.prog X.w H s.heap d (.frz o (.dK kvs)) from I.hok d _ e);exact⟨vs,a,xl g f h⟩
def am {P:km}{w:kj}{k:B6}{u:zx}(h:(Aw P w).is k u=true):RelV (kV k) u:=by
 rcases BL h with⟨i,t,rfl,rfl⟩|⟨x,t,rfl,rfl⟩
 .exact ⟨_,rfl⟩
 .exact ⟨_,rfl⟩
def aq {kvs:zy (B6×V)}{vs:zy (B6×zx)}(r:KV kvs vs):∀{i:Nat} {k:B6} {x:V},kvs[i]? =some (k,x)->∃u,vs[i]? =some (k,u)/\RelV x u:=by
 unfold KV at r;induction r with
 | nil=>intro i k x h;simp at h
 | @cons p q ps qs h t a=>
   intro i k x e;cases i with
   | zero=> simp at e;subst e;obtain⟨d,b⟩:=q;obtain⟨h1,h2⟩:=h;exact⟨b,by simp at h1;simp[h1],h2⟩
   | succ i=> obtain⟨u,hu,c⟩:=a (i:=i) (k:=k) (x:=x) (by simpa using e);exact⟨u,by simpa using hu,c⟩
def O3:entryFor table "dict_itemiterator.__iter__" =some Builtin.«dict_keyiterator.__iter__»:=
 entryFor_alias (id':="dict_keyiterator.__iter__") (by kernel_rfl) (by first | rfl|decide +kernel|(unfold String.splitOn;simp +decide [String.splitOnAux])) (by decide +kernel) (by kernel_rfl)
def O8 {prog:km}{w:kj}{A:kf}{E:zx->zw->Prop}{s:zw}{it d:zu}{k n ep:Nat}{ok b:zx}{Q:zx->zw->Prop}(he:IsItemIter s.heap it d k n ep ok b)(h:Q (.ref it) s):wpAny (model prog w) A (pyIter (.ref it)) Q E s:=by have a:s.TypeIs (.ref it) "dict_itemiterator" :=⟨_,he,rfl⟩;refine wpAny_pyIter_slot a AEJ (ABC AEJ a O3 ?_ (F.args_dict_itemiterator_iter_1 _));show wpAny _ _ (ret (.ref it)) _ _ s;exact AAD ⟨_,rfl,"dict_itemiterator",_,a,F.slot_dict_itemiterator_next.lookup,h⟩
def WW {P:km}{w:kj}{K:AAB}{es:zy zr}{G:Nat}{pos:Pos}{it d:zu}{n ep:Nat}:Lb P w K (.Tuple es G pos) (Itm d n ep) [it] it (λk h=>∃ok c,IsItemIter h it d k n ep ok c) where
 mem:=by simp
 obj:=λk h st p hp=>by
  obtain⟨ok,c,he⟩:=st;have b:p=it:=by simpa using hp
  subst b;exact⟨_,he,λv z=>nomatch z⟩
 keep:=λk h h' st l=>by obtain⟨ok,c,he⟩:=st;exact⟨ok,c,l it (by simp) _ he⟩
 item:=by
  intro X m hw r hc k B s C H E I j st t;subst m hw r;obtain⟨ok,c,he⟩:=st;obtain⟨kvs,y,x,f,hx⟩:=t;obtain⟨vs,a,A⟩:=f.at I;have hl:vs.length=n:=by obtain⟨_,_,_,_,e⟩:=f;rw[<-e];exact a.length.symm
  subst hl;obtain⟨u,hu,J⟩:=aq a hx;have g:it<s.heap.objs.size:=AAG he;refine wpAny_pyNext_items_item he A hu λkey h1 L M N U O=> ?_;refine⟨_,rfl,wpAny_letOwnedTupleGo_items (s:={s with heap:=h1}) M λh2 Q R=> ?_⟩;have i:∀p o,p≠it->h1.get? p=some o->h2.get? p=some o:=λp o q z=>R.extBut _ _ q z;have D:∀p∈ [it],p<s.heap.objs.size:=λp hp=>by
   have b:p=it:=by simpa using hp
   rw[b];exact g
  have l:∀p o,p ∉ [it] ->s.heap.get? p=some o->h2.get? p=some o:=λp o hp z=>by
   have b:p≠it:=by simpa using hp
   exact i p o b (O p o b z)
  have S:Inv X B C (upd H s.heap.objs.size (.tup [kV y,x])) {s with heap:=h2,toks:=s.toks}:=I.turnedN j D l (AAJ _)
   ⟨(by show 2<=sizeLine;decide), [key,u], .cons (am L) (.cons J .nil),⟨_,i _ _ (AAw g) N,rfl,_,rfl⟩⟩
  refine⟨.ref s.heap.objs.size,upd H s.heap.objs.size (.tup [kV y,x]),S,rfl,⟨_,y,x,rfl,I.fresh,rfl,λF h'=> ?_⟩,⟨key,u,Q⟩,λp hp=> ?_⟩
  .rw [h'.one f];exact hx
  .rw [Ag (AAM (D p hp))];exact(j p hp).1
 done:=by
  intro X m hw r hc k B s C H E I j st t;subst m hw r;obtain⟨ok,c,he⟩:=st;obtain⟨kvs,f,hx⟩:=t;obtain⟨vs,a,A⟩:=f.at I;have hl:vs.length=n:=by obtain⟨_,_,_,_,e⟩:=f;rw[<-e];exact a.length.symm
  have W:=a.length;subst hl;refine wpAny_pyNext_items_end (I.ok.hd hc) he A (by rw[ACr];omega) λh' T=>⟨rfl, ?_⟩;exact I.turnedL (t':=s.toks) j λp o hp z=>by
   have b:p≠it:=by simpa using hp
   exact T p o b z
 self:=λ_ _ _ _ _ st h=>by obtain⟨ok,c,he⟩:=st;exact O8 he h
section
variable {X:Cx}
def UK {e:zr}{z:TE}{apos f j:Pos}{es:zy zr}{C:Nat}(he:PE X e z)(hb:attributeBase e "items" X.env (eval e X.env)=eval e X.env)(D:((backTo f (starEach [] X.env)).all (λx=> !x.1)&&(backToKw f (keywordEach [] X.env)).all (λx=>x.1.isSome)&&decide (([] :zy zr).length+([] :zy Keyword).length+(if ([] :zy Keyword).isEmpty then 0 else 1)<30))=true)(hl:(apos.endLine==f.line)=true)(E:backTo f (starEach [] X.env)= []):PI X (.Tuple es C j) (.Call (.Attribute e "items" apos) [] [] f) (λm H R=>z m H λv H1=>∃d n ep kvs,v= .ref d/\OW H1 d n ep kvs/\R (Itm d n ep) H1):=by
 intro G s m H R I h;refine ADp hb D hl ADq AEK PySem.F.type_dict_items (BJ (he G s m H _ I h) λu i ⟨x,H1,k,J,d,n,ep,kvs,ex,t,K⟩=> ?_);subst ex;obtain rfl:u=Value.ref d:=J;obtain⟨vs,y,A⟩:=t.at k;have L:vs.length=n:=by obtain⟨_,_,_,_,e⟩:=t;rw[<-e];exact y.length.symm
 obtain⟨o,M,N,T,_⟩:=id t;obtain⟨O,t2,P⟩:=RR k (.inl ⟨kvs, .inr ⟨o,N⟩⟩);have B:i.heap.DictOf (Aw X.prog X.w) d vs:=let ⟨o,es,a,b,c,r⟩:=A;⟨o,es,ep,a,b,c,r⟩;refine⟨O,t2, ?_⟩;rw[E];refine ACw rfl (PySem.evalArgs_none ?_);refine ADB AEK B.typeIs PySem.F.entry_dict_items (PySem.F.args_dict_items_1 _) (meets_dict_items (Aw X.prog X.w) d P) ⟨⟨vs,B⟩, ?_⟩;have Q:(i.heap.push {cls:= .type "dict_items",data:= .fields #[.ref d] }).DictAt (Aw X.prog X.w) d vs ep:=by obtain⟨o,es,g,r⟩:=A;exact⟨o,es,AAH _ g,r⟩
 refine wpAny_pyIter_items (s:={i with heap:=i.heap.push {cls:= .type "dict_items",data:= .fields #[.ref d] }}) (knd:=Aw X.prog X.w) (d:=d) ?_ Q ?_
 .exact ⟨_,AAP _ rfl,rfl,rfl⟩
 subst L;have l:(i.heap.push {cls:= .type "dict_items",data:= .fields #[.ref d] }).objs.size=i.heap.objs.size+1:=ABM ..;refine⟨_, [i.heap.objs.size+1],_,_,H1,congrArg Value.ref l,k.kept (t':=i.toks) λb U q=>AAH _ (AAH _ q),WW,⟨.none, .none, ?_⟩,λp hp=> ?_,K⟩
 .have:=AAP (i.heap.push {cls:= .type "dict_items",data:= .fields #[.ref d] }) (o:={cls:= .type "dict_itemiterator",data:= .fields #[Value.none,Value.bool false,Value.ref d,Value.int 0 0,Value.int (vs.length:Int) 0,Value.int (ep:Int) 0,Value.none,Value.none] }) rfl;rw[l] at this;exact this
 .have S:p=i.heap.objs.size+1:=by simpa using hp
  subst S;exact k.fpOk (ACd _ _) (k.hok.fresh (ACd _ _))
end
end L2
namespace PL
open PySem PySem.Spec PyProof.Rows L2
section
variable {X:Cx}
def lU (a:zy (TE×TE)):TE:=λd H Q=>∀p,H p=none->WQ a d (upd H p (.dK [])) λps b=>b p=some (.dK [])/\∃kvs:zy (B6×V),ps=kvs.map (λc=>(kV c.1,c.2))/\kvs.length<=15/\∀o es ep,o.data= .dict es ep->Q (.ref p) (upd b p (.frz o (.dK (Nj [] kvs))))
def bY {pos:Pos}{keys:zy (zt zr)}{values:zy zr}{b:zy (TE×TE)}(h:qE X pos keys values b)(j:keys.all (·.isSome)=true)(hl:keys.length=values.length)(k:keys≠ [])(l:keys.length<=15):PE X (.Dict keys values pos) (lU b):=by
 intro m s n H Q I q;have p:=I.hok.fresh (AAJ s.heap.objs.size);have r:=I.laid (a:=s.heap.objs.size) (o:= .dK []) (h':=s.heap.push {cls:= .type "dict",data:= .dict #[] }) (t':=s.toks) (λ_ _ q=>AAH _ q) (AAJ _) (TQ s.heap I.big);refine wpAny_Dict_walk (knd:=Aw X.prog X.w) j hl k l (BJ (h m _ n _ _ r (q _ p)) λD E ⟨ps,F,g,f,e,kvs,ep,G,t⟩=> ?_);subst ep;obtain⟨u,c,v⟩:=NE (P:=X.prog) (w:=X.w) f;obtain⟨z,hd,x,y,A⟩:=Wy g.hok e;cases y;have B:(Nj [] kvs).length<=sizeLine:=by have h1:=Hk kvs [];rw[AC9] at h1;rw[ACU];omega
 refine⟨u,c,A,λh' d hs=> ?_⟩;obtain⟨o,es,ep,i,C⟩:=id d;refine⟨.ref s.heap.objs.size,_, ?_,rfl,t o es ep C.2.1⟩;exact JH g (by rw[e];exact True.intro) hs ⟨o,i⟩ ⟨i,RB B hd (v.merge .nil) d⟩
def gW {T c:zu->Prop}{H f:Hp}{d:zu}{o:HO}(s:C9 T H c f)(hd:H d=none)(g:¬c d):C9 T H c (upd f d o) where
 keep b q t e:=by
  have n:b≠d:=λz=>by subst z;rw[hd] at e;cases e
  rw[Ag n];exact s.keep b q t e
 sub:=s.sub
 new:=s.new
 tp a t:=by
  have n:a≠d:=λz=>by subst z;exact g t
  obtain⟨x,y,e,r⟩:=s.tp a t;exact⟨x,y,by rw[Ag n];exact e,r⟩
def Zy (a b:AE):AE:=λτ Q=>a τ λx=>b τ λy=>match x,y with | .int i, .int j=>Q (.dk [(i,j)])|_,_=>False
def lE {a b:zr}{u w:AE}{p:Pos}(ha:SE X a u)(hb:SE X b w):SE X (.Dict [some a] [b] p) (Zy u w):=by
 obtain⟨t,E,s⟩:=ha;obtain⟨t',h,F⟩:=hb;refine⟨_,bY (bu E h fg) rfl rfl (List.cons_ne_nil _ _) (ABP rfl),λB T y τ H Q N k q G=> ?_⟩;intro d hd;have c:C9 T H T (upd H d (.dK [])):=C9.lay k.tp hd;have f:=k.stp c;have A:¬T d:=λz=>by obtain⟨o,e,_⟩:=(k.tp d z).mut;rw[hd] at e;cases e
 refine s B T y τ _ _ _ f q λv x T1 H1 l I J=>F B T1 y τ _ _ _ (f.stp l) J λO P C K D L m=> ?_;split at m <;> first | exact m.elim|skip
 rename_i i j;cases I;cases L;have n:K d=some (.dK []):=(l.trans D).keep _ _ A Aj;have g:=l.trans D;have r:¬C d:=λz=>by
  rcases g.new d z with z|z
  .exact A z
  .rw [Aj] at z;cases z
 refine⟨n, [(.inl i, .int j)],rfl,ABP rfl,λo es ep M=> ?_⟩;exact G _ _ C _ (gW (c.trans g) hd r) (.dk (kvs:= [(i,j)]) Aj M) m
end
end PL
namespace L2
open PySem PySem.Spec PyProof.Rows
def RA (J:It)(D:zu)(σ0:St)(g:TG)(f:TT)(h j:TE)(Q:Hp->Prop)(W:Nat->Nat->Hp->Prop):Prop:=
 ∀i m H,W i m H->(J.stop i H/\Q H)\/(J.go i H/\∀x c,J.yld i H x c->g x σ0 c λa l=>f a l λok d=>
  if ok=true then h a d λy n=>j a n λz e=>∃k kvs,y=kV k/\e D=some (.dK kvs)/\kvs.length<sizeLine/\∃b,b<m/\W (i+1) b (upd e D (.dK (FV kvs k z))) else ∃b,b<m/\W (i+1) b d)
def cr (b:TI)(own:Nat)(ix:zy Nat)(g:TG)(c:TT)(d e:TE):TE:=λa H Q=>b a H λJ H1=>∀D,H1 D=none->
 ∃W:Nat->Nat->Hp->Prop,(∃m,W 0 m (upd H1 D (.dK [])))/\RA J D (CQ own ix a) g c d e (Q (.ref D)) W
section
variable {X:Cx}{tg kx vx iter:zr}{ifs:zy zr}{scope:Scope}{pos:Pos}{wi:TI}{own:Nat}{ix:zy Nat}{N:zy Str}{g:TG}{tt:TT}{tk tv:TE}
def VL {G:zy (zu×Obj)}{U:St}{H:Hp}{s:zw}{l:zy zu}{cl:zy (Str×zu)}{it:zu}{tn:Nat->ki->Prop}{J:It}{D:zu}{R:Result->zw->Prop}{Qh:Hp->Prop}{W:Nat->Nat->Hp->Prop}(hc:X.calm=true)(O:Fe X tg kx ifs scope own ix N g tt tk)(OV:∀cl C s H ex pn,PE (blk X (relabel scope X.env) N cl C s H ex pn) vx tv)(T:Lb X.prog X.w X.K tg J l it tn)(I:Inv X G U H s)(hf:∀b∈l,Fj X G H b)(IE:∀b∈l,b<s.heap.objs.size)(hW:RA J D (CQ own ix U) g tt tk tv Qh W)(hR:∀σ' a Z,Inv (blk X (relabel scope X.env) N cl s.heap.objs.size s H l (X.pn++G)) [] σ' a Z->Qh a->R (.ok .next) Z)(n:Nat)(s0:zw)(h0:∃i a,Inv (blk X (relabel scope X.env) N cl s.heap.objs.size s H l (X.pn++G)) [] (CQ own ix U) a s0/\tn i s0.heap/\(∀b∈l,a b=none)/\W i n a):codeAny (model X.prog X.w) X.A (.compLoop (.DictComp kx vx [⟨tg,iter,ifs,0⟩] scope pos) 0 (.ref it) (.ref D) (Hx X.env (relabel scope X.env) cl s.heap.objs.size)) R s0:=by
 refine codeAny_loop rfl (λn Z=>∃i a,Inv (blk X (relabel scope X.env) N cl s.heap.objs.size s H l (X.pn++G)) [] (CQ own ix U) a Z/\tn i Z.heap/\(∀b∈l,a b=none)/\W i n a) (λn s1 h1=> ?_) n h0;obtain⟨i,H1,B1,st1,fr1,w1⟩:=h1;generalize f:blk X (relabel scope X.env) N cl s.heap.objs.size s H l (X.pn++G)=Y at *;have eA:Y.A=X.A:=by rw[<-f];rfl
 have eP:Y.prog=X.prog:=by rw[<-f];rfl
 have eW:Y.w=X.w:=by rw[<-f];rfl
 have eK:Y.K=X.K:=by rw[<-f];rfl
 have eE:Hx X.env (relabel scope X.env) cl s.heap.objs.size=Y.env:=by rw[<-f];rfl
 have eX:Y.xe=λ_ _=>False:=by rw[<-f];rfl
 have eC:Y.calm=true:=by rw[<-f];exact hc
 have hg:PG Y tg g:=by rw[<-f];exact O.tgt _ _ _ _ _ _
 have ht:gw Y ifs tt:=by rw[<-f];exact O.tst _ _ _ _ _ _
 have hk:PE Y kx tk:=by rw[<-f];exact O.val _ _ _ _ _ _
 have hv:PE Y vx tv:=by rw[<-f];exact OV _ _ _ _ _ _
 have B:∀{a:Hp},(∀b∈l,a b=none)->∀b∈l,Fj Y [] a b:=λ{a} hn b hb=>by
  obtain⟨_,a1,a2,a3,a4,a5⟩:=hf b hb;refine⟨hn b hb, ?_, ?_, ?_, ?_, ?_⟩
  .rw [<-f];exact AAM (IE b hb)
  .rw [<-f];exact I.notStk a1 a2
  .rw [<-f];exact .inl hb
  .intro x c e;exact(B1.ok.exf b (by rw[<-f];exact hb)).2 x c e
  .intro p hp;have:p∈X.pn++G:=by rw[<-f] at hp;simpa[blk] using hp
   exact a5 p this
 rw[eE,<-eA,<-eP,<-eW];show wpAny _ _ ((compTurn (.DictComp kx vx [⟨tg,iter,ifs,0⟩] scope pos) 0 (.ref it) (.ref D) Y.env).onRaise (λx=>do noteFrame x Y.env;theTreesLotGoes x)) _ _ s1;refine wpAny_noted ?_;rw[compTurn_dict];have ff:∀{α:Type} {t:Sem α} {Q:α->zw->Prop} {E:zx->zw->Prop} {s:zw},wpAny (model Y.prog Y.w) Y.A t Q Y.xe s->wpAny (model Y.prog Y.w) Y.A t Q E s:=λh=>ABL h (λ_ _ q=>q) λ_ _ z=>by rw[eX] at z;exact z.elim
 refine AAA (ABX (AAA ?_));rcases hW i n H1 w1 with⟨stop,qn⟩|⟨go,step⟩
 .have zd:=λE=>T.done Y eP eW eK eC i [] s1 _ H1 E B1 (B fr1) st1 stop;rw[<-eP,<-eW] at zd;refine BJ (zd _) λr s4 ⟨hr,I4⟩=> ?_;subst hr;exact AAD (hR _ _ _ I4 qn)
 .have zi:=λE=>T.item Y eP eW eK eC i [] s1 _ H1 E B1 (B fr1) st1 go;rw[<-eP,<-eW] at zi;refine BJ (zi _) λr s4 ⟨u,hr,h4⟩=> ?_;subst hr;refine AAA (BJ h4 λ_ s5 ⟨x,H5,I5,r5,y5,L,fr5⟩=> ?_);have I5':=I5.pinned (B fr5) (T.obj _ _ L);refine AAA (BJ (ff (hg _ s5 _ H5 x u _ I5' r5 (O.keep _ _ _ _ (step x H5 y5)))) λ_ s6 ⟨F,H6,I6,q6,l6,k6⟩=> ?_);refine AAA (BJ (ff (ht _ s6 F H6 _ I6 q6)) λok s7 ⟨H7,I7,q7⟩=> ?_);have back:∀{M:Hp} {P:zw} {S:Nat},Inv Y ([] ++ KC l s5.heap) F M P->S<n->W (i+1) S M->
   ∃m,m<n/\∃i a,Inv Y [] (CQ own ix U) a P/\tn i P.heap/\(∀b∈l,a b=none)/\W i m a:=λ{M P S} I8 hm w8=>by
   refine⟨S,hm,i+1,M,I8.unpinned.weak l6.symm (λj v hj=> ?_),T.keep _ _ _ L λb hb o e=>(I8.pin (b,o) (AAm _ (AAm _ (Ds hb e)))).1,λb hb=> ?_,w8⟩
   .rw [k6 j (Hy hj).1];exact hj
   .obtain ⟨o,e,d⟩:=T.obj _ _ L b hb;exact(I8.pin (b,o) (AAm _ (AAm _ (Ds hb e)))).2.1
  cases ok with
  | false=> obtain⟨S,hm,w8⟩:=q7;exact AAD ⟨rfl,back I7 hm w8⟩
  | true=>
    refine AAA (AAA (BJ (ff (hk _ s7 F H7 _ I7 q7)) λkv P ⟨y,M,I8,r8,q8⟩=> ?_));refine AAA (AAe (BJ (ff (hv _ P F M _ I8 q8)) λvv s9 ⟨z,H9,I9,r9,k,kvs,ey,hD,hz,S,hm,w9⟩=> ?_));subst ey;refine AAA (ABX (AAe ?_));obtain⟨z1,yF,vs,rel,dd⟩:=Wy I9.hok hD;have ye:vs.length<=sizeLine:=by rw[<-rel.length];exact z1
    have hl:(FV kvs k z).length<=sizeLine:=by have:=Ey kvs k z;omega
    refine wpAny_dictSet_pairs (hsz:=ye) (P9 r8) dd λh' dd' hs=> ?_;have he:∃q,h'.get? D=some q:=let ⟨q,_,_,hq,_⟩:=dd';⟨q,hq⟩;have I10:=JH (t':=s9.toks+1) I9 (by rw[hD];exact True.intro) hs he (RB hl yF (rel.put k r9) dd');exact AAD ⟨rfl,back I10 hm w9⟩
def YS {h:zy (zu×Obj)}{E:St}{H:Hp}{s:zw}{use:zt (zx->Sem Unit)}{Q:zx->zw->Prop}{it:zu}{l:zy zu}{cl:zy (Str×zu)}{tn:Nat->ki->Prop}{J:It}{Qd:zu->Hp->Prop}(hc:X.calm=true)(O:Fe X tg kx ifs scope own ix N g tt tk)(U:∀cl C s H ex pn,PE (blk X (relabel scope X.env) N cl C s H ex pn) vx tv)(T:Lb X.prog X.w X.K tg J l it tn)(I:Inv X h E H s)(Y:∀b∈l,Fj X h H b)(st:tn 0 s.heap)(h1:∀y c,cl.lookup y=some c->X.env.cells.lookup y=some c)(h2:∀y,(y,NameKind.free)∈scope.names->∃c,cl.lookup y=some c)(Z:∀D,H D=none->∃W:Nat->Nat->Hp->Prop,(∃m,W 0 m (upd H D (.dK [])))/\RA J D (CQ own ix E) g tt tk tv (Qd D) W)(hR:∀D C k n,(∃m,n.heap.Ns C m)->Inv X h E k n->(∀i F,Inv X h i k F->∀h',Heap.SameBut C F.heap h'->Inv X h i k {F with heap:=h'})->C≠X.env.locals->(∀x c,X.env.cells.lookup x=some c->C≠c)->Qd D k-> compPost (model X.prog X.w) X.A X.xe use Q (.ref D) C (.ok .next) n):wpAny (model X.prog X.w) X.A (newDict #[]) (λp r=>wpAny (model X.prog X.w) X.A (newFunctionEnv scope X.env.globals cl [] X.env.qual none .none (some X.env)) (λf t=> codeAny (model X.prog X.w) X.A (.compStart (.DictComp kx vx [⟨tg,iter,ifs,0⟩] scope pos) 0 (.ref it) p {f with scope:=relabel scope X.env}) (compPost (model X.prog X.w) X.A X.xe use Q p f.locals) t) X.xe r) X.xe s:=by
 refine ABF ?_ (by simp[sizeOk]);have j:Inv X h E (upd H s.heap.objs.size (.dK [])) {s with heap:=s.heap.push {cls:= .type "dict",data:= .dict #[] }}:=I.laid (a:=s.heap.objs.size) (o:= .dK []) (t':=s.toks) (λ_ _ q=>AAH _ q) (AAJ _) (TQ s.heap I.big);have Yh:=I.fresh;obtain⟨W,⟨m0,w0⟩,hW⟩:=Z _ Yh;have jT:∀b∈l,b<s.heap.objs.size:=λb hb=>by obtain⟨o,e,_⟩:=T.obj _ _ st b hb;exact AAG e
 have G:∀b∈l,Fj X h (upd H s.heap.objs.size (.dK [])) b:=λb hb=>by obtain⟨a0,ar⟩:=Y b hb;exact⟨by rw[Ag (AAM (jT b hb))];exact a0,ar⟩
 generalize sF:({s with heap:=s.heap.push {cls:= .type "dict",data:= .dict #[] }}:zw)=s3 at j;have u:tn 0 s3.heap:=T.keep _ _ _ st λb hb o e=>by rw[<-sF];exact AAH _ e
 have L:∀b∈l,b<s3.heap.objs.size:=λb hb=>by obtain⟨o,e,_⟩:=T.obj _ _ u b hb;exact AAG e
 refine wpAny_newFunctionEnv O.nocell (by intro y M;simp at M) (λd mE sG=> ?_) O.kind;have S:∀b o,s3.heap.get? b=some o->d.get? b=some o:=λb o e=>sG.extBut b o (AAM (AAG e)) (AAH _ e);have h9:∀y,((relabel scope X.env).names.lookup y=some .cell\/(relabel scope X.env).names.lookup y=some .free)->∃c,cl.lookup y=some c:=λy M=>by
  rcases M with z|z
  .exact h2 y (Ez O.nocell (J5 z) (.inl rfl))
  .exact h2 y (Ez O.nocell (J5 z) (.inr rfl))
 have B:=Z6 (N:=N) (t':=s3.toks+([] :zy (Str×zx)).length) j G L (sc:=relabel scope X.env) O.kind h1 h9 O.ins mE S;have v:tn 0 d:=T.keep _ _ _ u λb hb o e=>S b o e;have loop:∀P:zw,P={s3 with heap:=d,toks:=s3.toks+([] :zy (Str×zx)).length}->
  codeAny (model X.prog X.w) X.A (.compLoop (.DictComp kx vx [⟨tg,iter,ifs,0⟩] scope pos) 0 (.ref it) (.ref s.heap.objs.size) (Hx X.env (relabel scope X.env) cl s3.heap.objs.size)) (compPost (model X.prog X.w) X.A X.xe use Q (.ref s.heap.objs.size) s3.heap.objs.size) P:=by rintro P rfl;refine VL (cl:=cl) (Qh:=Qd s.heap.objs.size) hc O U T j G L hW (λσ' k n R q'=> ?_) m0 _ ⟨0,_,B,v,λb hb=>(G b hb).1,w0⟩;refine hR _ _ k n (let ⟨m,hm,_⟩:=R.loc;⟨m,hm⟩) (Wm (own:=own) (ix:=ix) j G L R) (λi F I2 h' hs=>S8 j rfl I2 R.free hs) (AAw j.lt) (λx c e=>AAw (j.szLt e)) q'
 exact codeAny_compStart_dict (loop _ rfl) (T.self _ 0 _ _ _ v (loop _ rfl))
def b9 {i:Nat}{x:Str}{pos' b:Pos}(hc:X.calm=true)(hN:X.N.Nodup)(n:X.N[i]? =some x)(hx:Loc X.env.scope x)(hi:PI X tg iter wi)(O:Fe X tg kx ifs scope own ix N g tt tk)(o:∀cl C s H ex pn,PE (blk X (relabel scope X.env) N cl C s H ex pn) vx tv)(p:swapsWith (.DictComp kx vx [⟨tg,iter,ifs,0⟩] scope pos) (some (.Name x pos')) b.line X.env=pure true:=by rfl)(hs:∀x,foldedSetIterable iter X.env x=pure x:=by intro _;rfl)(r:X.fn x=true\/X.env.scope.names.lookup x=some .local:=by first | exact .inl rfl|exact .inr rfl|assumption):PS X (.Assign [.Name x pos'] (.DictComp kx vx [⟨tg,iter,ifs,0⟩] scope pos) b) (WP (cr wi own ix g tt tk tv) (C5 i)):=by
 intro k s l H D I h;obtain⟨cl,t,h1,h2⟩:=Hz (env:=X.env) (scope:=scope) λy u e=>I.ok.has y.1 (.inl (O.frees y u e));rw[exec_Assign_Name_used _ _ _ _ p];refine AAA (ABX (AAA ?_));show wpAny _ _ (do let _ <-comprehension (.DictComp kx vx [⟨tg,iter,ifs,0⟩] scope pos) scope X.env _ (newDict #[]) false (eval iter X.env) (some (assign (.Name x pos') X.env))) _ _ s;refine AAA (BJ (ADa (use:=some (assign (.Name x pos') X.env)) (Q:=λ_ c=>SP X k D .next c) rfl hs t O.kind O.names (BJ (hi k s l H _ I h) λv Z hv=>BJ hv λw s2 A=> ?_)) λ_ c B=>AAD (AAD B));obtain⟨it,fp,tn,J,H2,rfl,E,T,f,F,q⟩:=A;refine YS (Qd:=λd j=>C5 i (.ref d) l j D.nx) hc O o T E F f h1 h2 q λd C j c G K gone L M P=> ?_;obtain⟨m,R⟩:=G;show wpAny _ _ (assign (.Name x pos') X.env (.ref d)) _ _ c;refine ADP (Kk (v:= .ref d) K hN n hx rfl (λS U ⟨a,W,ha⟩=> ?_) r);have Y:C≠a:=by
  rcases ha with z|z
  .rw [z];exact L
  .exact M x a z
 exact⟨m,R.sameBut W Y,λh' hs=>⟨_,j,gone _ S U h' hs,P⟩⟩
end
section
variable {X:Cx}
def lV (i:Nat)(t:TS):TS:=λD b H=>∃a kvs,b[i]? =some (some (.ref a))/\H a=some (.dK kvs)/\∀o es ep,o.data= .dict es ep->t D b (upd H a (.frz o (.dK kvs)))
def fq {rest:zy Stmt}{t:TS}{i:Nat}(h:S4 X rest t):S4 X rest (lV i t):=by intro c s d H D I q;obtain⟨a,kvs,_,e,q⟩:=q;obtain⟨z,hd,vs,b,f⟩:=Wy I.hok e;obtain⟨o,es,ep,g,j⟩:=id f;have k:Inv X c d (upd H a (.frz o (.dK kvs))) {s with heap:=s.heap,toks:=s.toks}:=JH (h':=s.heap) I (by rw[e];exact True.intro) ⟨rfl,λ_ _=>rfl⟩ ⟨o,g⟩ ⟨g,RB z hd b f⟩;exact h c s d _ D k (q o es ep j.2.1)
end
end L2
namespace PL
open PySem PySem.Spec PyProof.Rows L2
def Bm (m:zy (Int×Int))(k v:Int):zy (Int×Int):=if (m.any λp=>decide (p.1=k))=true then m.map (λp=>if p.1=k then (p.1,v) else p) else m ++ [(k,v)]
def Bz (m:zy (Int×Int))(k:Int):Int:=((m.find? λp=>decide (p.1=k)).map (·.2)).getD 0
def eQ (m:zy (Int×Int))(k:Int):((FR m).any λb=>decide (b.1=(.inl k:B6)))=m.any λp=>decide (p.1=k):=by
 induction m with
 | nil=>rfl
 | cons p r a=> unfold FR at a ⊢;rw[AAL,ABe,ABe,a];congr 1;simp
def XE (m:zy (Int×Int))(k v:Int):FR (Bm m k v)=FV (FR m) (.inl k) (.int v):=by
 unfold Bm FV;rw[eQ];split
 .unfold FR;rw[AA7,AA7];apply ACJ;intro p _;simp only[Function.comp];by_cases h:p.1=k
  .simp [h]
  .simp [h]
 .unfold FR;rw[ABz];rfl
def eS (m:zy (Int×Int))(k:Int):(Ji (FR m) (.inl k)).getD (.int 0)= .int (Bz m k):=by
 induction m with
 | nil=>rfl
 | cons p r a=>
   unfold FR at a ⊢;rw[AAL];by_cases h:p.1=k
   .rw [G8 (by simp[h])];simp[Bz,h]
   .rw [G7 (by simp[h]),a];simp[Bz,h]
def JU (m:zy (Int×Int))(k v:Int):(Bm m k v).length<=m.length+1:=by
 unfold Bm;split
 .rw [AAK];omega
 .simp
def BS (many:Int)(m:zy (Int×Int)):zy (Int×Int):=m.foldl (λa p=>Bm a p.1 (many*p.2)) []
def RQ {m:zy (Int×Int)}{i:Nat}(h:i<m.length):(FR m)[i]? =some (.inl m[i].1, .int m[i].2):=by unfold FR;rw[AAg,AAW h];rfl
def HN {c a:Type}{f:a->c->a}{b:a}{m:zy c}{i:Nat}(h:i<m.length):(m.take (i+1)).foldl f b=f ((m.take i).foldl f b) m[i] :=by rw[List.take_succ_eq_append_getElem h,ACe];rfl
def d7 {K:AAB}{H:Hp}{r:L2.St}{s:Nat}{many:Int}{d n ep:Nat}{m:zy (Int×Int)}{Q:V->Hp->Prop}(y:OW H d n ep (FR m))(A:r[s]? =some (some (.int many)))(hl:m.length<sizeLine)(ok:∀p∈m,MulOk many p.2)(q:∀D c,H D=none->(∀b o,H b=some o->c b=some o)->c D=some (.dK (FR (BS many m)))->Q (.ref D) c):∀D,H D=none->∃W:Nat->Nat->Hp->Prop,(∃k,W 0 k (upd H D (.dK [])))/\RA (Itm d n ep) D (CQ 2 [s] r) (VU K 2 (FQ (C5 0) (FQ (C5 1) RF))) gb (IY 0) (ga (rI MulOk λi j=> .int (i*j)) (IY 2) (IY 1)) (Q (.ref D)) W:=by
 intro D u;have B:CQ 2 [s] r= [none,none,some (.int many)] :=by unfold CQ;simp[A]
 rw[B];let W:Nat->Nat->Hp->Prop:=λi k c=>i+k=m.length/\(∀b o,H b=some o->c b=some o)/\c D=some (.dK (FR (BS many (m.take i))))/\(BS many (m.take i)).length<=i;refine⟨W,⟨m.length,ADr _,λb o e=>by rw[Ag (Au e u)];exact e,Aj,AAJ _⟩, ?_⟩;rintro i k c ⟨hi,ex,l,C⟩;have f:OW c d n ep (FR m):=let ⟨o,es,a,b⟩:=y;⟨o,es,ex _ _ a,b⟩;cases k with
 | zero=> left;refine⟨⟨_,f,by unfold FR;rw[AAK];omega⟩,q D c u ex ?_⟩;rw[ACI (by omega)] at l;exact l
 | succ k=>
   right;have g:i<m.length:=by omega
   refine⟨⟨_,_,_,f,RQ g⟩,λx F E=> ?_⟩;obtain⟨t,G,I,rfl,v,rfl,hu⟩:=E;have hx:=hu _ f;rw[RQ g] at hx;cases hx;have J:D≠t:=λz=>by subst z;rw[l] at v;cases v
   have h:∀b o,c b=some o->upd c t (.tup [kV (.inl m[i].1), .int m[i].2]) b=some o:=λb o e=>by rw[Ag (Au e v)];exact e
   refine⟨t,_,rfl, .inl (.inl (.inl Aj)),rfl,_,_,rfl,_,_,rfl,rfl, ?_⟩;dsimp only[gb];rw[AAE rfl];refine⟨_,rfl,_,rfl,_,rfl,many,m[i].2,rfl,rfl,ok _ (ACF g), ?_⟩;refine⟨.inl m[i].1,_,rfl,h _ _ l,by unfold FR;rw[AAK];omega,k,by omega,by omega,λb o e=> ?_, ?_, ?_⟩
   .rw [Ag (Au e u)];exact h _ _ (ex _ _ e)
   .rw [Aj];unfold BS;rw[HN g,XE]
   .unfold BS at C ⊢;rw[HN g];have:=JU ((m.take i).foldl (λw p=>Bm w p.1 (many*p.2)) []) m[i].1 (many*m[i].2);omega
def BR (more:Int)(a m:zy (Int×Int)):zy (Int×Int):=m.foldl (λa p=>Bm a p.1 (Bz a p.1+more*p.2)) a
def ax (d a b c:Nat):TS:=iL (IY d) (IY a) (ga (R0 λi j=> .int (i+j)) (cu (IY d) (IY a) (tC (.int 0))) (ga (rI MulOk λi j=> .int (i*j)) (IY c) (IY b)))
def e5 {K:AAB}{H H1:Hp}{σ0:L2.St}{D:Qx}{B c f s:Nat}{more:Int}{d n ep a:Nat}{m acc0:zy (Int×Int)}(U:B≠c)(X:B≠f)(Y:s≠c)(Z:s≠f)(n5:c≠f)(l1:c<σ0.length)(l2:f<σ0.length)(fd:OW H d n ep (FR m))(ha:H a=none)(J:∀b o,H b=some o->H1 b=some o)(h1:H1 a=some (.dK (FR acc0)))(hw:σ0[B]? =some (some (.ref a)))(hm:σ0[s]? =some (some (.int more)))(ok:∀p∈m,MulOk more p.2)(hl:acc0.length+m.length<sizeLine)(L:∀σ' g,σ'.length=σ0.length->(∀j,j≠c->j≠f->σ'[j]? =σ0[j]?)->(∀b o,H b=some o->g b=some o)->g a=some (.dK (FR (BR more acc0 m)))->D.nx σ' g):∃W:Nat->Nat->L2.St->Hp->Prop,(∃k,W 0 k σ0 H1)/\∀i k v g,W i k v g-> ((Itm d n ep).stop i g/\D.nx v g)\/((Itm d n ep).go i g/\∃N:L2.St->Hp->Prop,(∀σ' w,N σ' w->∃Q,Q<k/\W (i+1) Q σ' w)/\∀x w,(Itm d n ep).yld i g x w->VU K 2 (FQ (C5 c) (FQ (C5 f) RF)) x v w λl R=>ax B c f s {D with nx:=N,ct:=N,bk:=D.nx} l R):=by
 let W:Nat->Nat->L2.St->Hp->Prop:=λi k v g=>i+k=m.length/\(v.length=σ0.length/\∀j,j≠c->j≠f->v[j]? =σ0[j]?)/\(∀b o,H b=some o->g b=some o)/\g a=some (.dK (FR (BR more acc0 (m.take i))))/\(BR more acc0 (m.take i)).length<=acc0.length+i;refine⟨W,⟨m.length,ADr _,⟨rfl,λ_ _ _=>rfl⟩,J,h1,AAJ _⟩, ?_⟩;rintro i k v g ⟨hi,⟨S,T⟩,ex,M,yP⟩;have y:OW g d n ep (FR m):=let ⟨o,es,a,b⟩:=fd;⟨o,es,ex _ _ a,b⟩;cases k with
 | zero=> left;refine⟨⟨_,y,by unfold FR;rw[AAK];omega⟩,L v g S T ex ?_⟩;rw[ACI (by omega)] at M;exact M
 | succ k=>
   right;have C:i<m.length:=by omega
   refine⟨⟨_,_,_,y,RQ C⟩,λσ' w=>W (i+1) k σ' w,λσ' w h=>⟨k,by omega,h⟩,λx w yl=> ?_⟩;obtain⟨t,kk,xx,rfl,hn,rfl,hu⟩:=yl;have hx:=hu _ y;rw[RQ C] at hx;cases hx;have z:∀b o,g b=some o->upd g t (.tup [kV (.inl m[i].1), .int m[i].2]) b=some o:=λb o e=>by rw[Ag (Au e hn)];exact e
   refine⟨t,_,rfl, .inl (.inl (.inl Aj)),rfl,_,_,rfl,_,_,rfl,rfl, ?_⟩;generalize G:(v.set c (some (kV (.inl m[i].1)))).set f (some (V.int m[i].2))=l;have A:l.length=σ0.length:=by rw[<-G];simp[S]
   have r:∀j,j≠c->j≠f->l[j]? =σ0[j]? :=λj h h'=>by rw[<-G,AAb (AA6 h'),AAb (AA6 h)];exact T j h h'
   have E:l[c]? =some (some (.int m[i].1)):=by rw[<-G,AAb (AA6 n5),AB9 (by omega)];rfl
   have O:l[f]? =some (some (.int m[i].2)):=by rw[<-G,AB9 (by simp;omega)]
   have F:l[B]? =some (some (.ref a)):=by rw[r B U X];exact hw
   have P:l[s]? =some (some (.int more)):=by rw[r s Y Z];exact hm
   have I:=z _ _ M;generalize hH:upd g t (.tup [kV (.inl m[i].1), .int m[i].2])=R at z I;refine⟨_,F,a,rfl, .inl ⟨_, .inl I⟩,_,E,_,Oq.k (k:= .inl m[i].1) I,_,P,_,O,more,m[i].2,rfl,rfl,ok _ (ACF C), ?_⟩;rw[eS];refine⟨_,_,rfl,rfl,_,F,_,E,a,_,rfl,Uu.k (k:= .inl m[i].1) I (by unfold FR;rw[AAK];omega),by omega,⟨A,r⟩,λb o e=> ?_, ?_, ?_⟩
   .rw [Ag (Au e ha)];exact z _ _ (ex _ _ e)
   .rw [Aj];unfold BR;rw[HN C,XE]
   .unfold BR at yP ⊢;rw[HN C];have:=JU ((m.take i).foldl (λu p=>Bm u p.1 (Bz u p.1+more*p.2)) acc0) m[i].1 (Bz ((m.take i).foldl (λu p=>Bm u p.1 (Bz u p.1+more*p.2)) acc0) m[i].1+more*m[i].2);omega
def vL (a:TE):TI:=λb H R=>a b H λv H1=>∃d n ep kvs,v= .ref d/\OW H1 d n ep kvs/\R (Itm d n ep) H1
def xm (K:AAB)(a:TE)(b c:Nat):TS:=WP (cr (vL a) 2 [c] (VU K 2 (FQ (C5 0) (FQ (C5 1) RF))) gb (IY 0) (ga (rI MulOk λi j=> .int (i*j)) (IY 2) (IY 1))) (C5 b)
def vU (K:AAB)(d:TE)(e a b c:Nat):TS:=pW (vL d) (VU K 2 (FQ (C5 a) (FQ (C5 b) RF))) (ax e a b c)
section
variable {K:AAB}{B:Cz}{T:zu->Prop}{H:Hp}{σ σ':L2.St}{τ τ':BA}
def SR.loose (s:SR K B T H σ τ)(hl:σ'.length=τ'.length)(h:∀(j:Nat) (a:AV),τ'[j]? =some (some a)->τ[j]? =some (some a)/\σ'[j]? =σ[j]?):SR K B T H σ' τ'/\∀b,Cd σ' τ' b->Cd σ τ b:=by
 have i:∀b,Cd σ' τ' b->Cd σ τ b:=λb ⟨j,xs,h1,h2⟩=>let ⟨c,d⟩:=h j _ h1;⟨j,xs,c,by rw[<-d];exact h2⟩;have l:Mv K T (mt B σ τ) H T (mt B σ' τ') H:= .anti s.va λa m=>m.elim .inl λz=> .inr (i a z);refine⟨⟨hl,λj y e=> ?_,λj f e=> ?_,λj k f r p t u n o=> ?_,s.tp,s.bm,s.bt,s.st⟩,i⟩
 .obtain ⟨c,d⟩:=h j _ e;obtain⟨w,hw,g⟩:=s.val j y c;exact⟨w,by rw[d];exact hw,g.mv l⟩
 .obtain ⟨c,d⟩:=h j _ e;obtain⟨p,vs,h1,h2,h3,v⟩:=s.own j f c;exact⟨p,vs,by rw[d];exact h1,h2,h3.mv l,v⟩
 .obtain ⟨c,d⟩:=h j _ t;obtain⟨x,b2⟩:=h k _ u;rw[d] at n;rw[b2] at o;exact s.dist j k f r p c x n o
end
def fE (x:PV)(R:zy (Int×Int)->Prop):Prop:=match x with | .dk m=>R m|_=>False
def XT {x:PV}{R:zy (Int×Int)->Prop}(h:fE x R):∃m,x= .dk m/\R m:=by cases x <;> first | exact⟨_,rfl,h⟩|exact h.elim
def Zz (c a b e d:Nat)(f g:AE):AS:=λD τ=>(c<τ.length/\a<τ.length/\b<τ.length)/\f τ λx=>fE x λm1=>∃many,τ[e]? =some (some (.val (.int many)))/\m1.length<sizeLine/\(∀p∈m1,MulOk many p.2)/\
 g (τ.set c none) λy=>fE y λm2=>∃more,τ[d]? =some (some (.val (.int more)))/\(BS many m1).length+m2.length<sizeLine/\(∀p∈m2,MulOk more p.2)/\
 D.nx (((τ.set c (some (.val (.dk (BR more (BS many m1) m2))))).set a none).set b none)
def tQ {k:Nat}{A:kf}(a:Room k A):A.units+1<cLine:=by have:=a.un;omega
section
variable {X:Cx}
def cf {e1 e2:zr}{ta tb:AE}{m p:Stmt}{rest:zy Stmt}{b:AS}{f g k im s:Nat}(n1:f≠g)(n2:f≠k)(n3:s≠g)(n4:s≠k)(n5:g≠k)(n6:s≠f)(h1:SE X e1 ta)(h2:SE X e2 tb)(p1:∀I,PE X e1 I->PS X m (xm X.K I f im))(p2:∀I,PE X e2 I->PS X p (vU X.K I f g k s))(h3:YA X rest b):YA X (m::p::rest) (Ab (Zz f g k im s ta tb) b):=by
 obtain⟨t1,q1,s1⟩:=h1;obtain⟨t2,q2,s2⟩:=h2;obtain⟨t3,q3,s3⟩:=h3;refine⟨_,Cf (p1 t1 q1) (Cf (p2 t2 q2) (fq (i:=f) q3)),λB T J τ H D AD A h er=> ?_⟩;obtain⟨⟨l0,l1,l2⟩,h⟩:=h;refine s1 B T J τ H _ _ A h λv x T1 H1 m r1 h1=> ?_;obtain⟨m1,rfl,many,nQ,Y,Z,h1⟩:=XT h1;have u:=A.stp m;obtain⟨vm,yc,rvm⟩:=u.val _ _ nQ;cases rvm;cases r1 with
 | dk hh eo=>
 rename_i d o es ep;have L:OW H1 d m1.length ep (FR m1):=⟨o,es,hh,eo,by unfold FR;rw[AAK]⟩;refine⟨_,_,_,_,rfl,L, ?_⟩;refine d7 (K:=X.K) (Q:=λx H1=>C5 f x J H1 (pk (vU X.K t2 f g k s) (lV f t3) D)) L yc Y Z λa H2 ha ex hD=> ?_;have M:¬T1 a:=λz=>by obtain⟨o,e,_⟩:=(u.tp a z).mut;rw[ha] at e;cases e
 have N:C9 T1 H1 T1 H2:=gU u.va ex;have sr2:=u.stp N;obtain⟨O,_⟩:=sr2.loose (σ':=J.set f (some (.ref a))) (τ':=τ.set f none) (by simp[A.len]) λj c e=>by
  rcases BF e with⟨_,C,_⟩|⟨n,C⟩
  .cases C
  .exact ⟨C,AAb (λz=>n z.symm)⟩
 refine s2 B T1 _ _ H2 _ _ O h1 λv2 y U G p r2 h2=> ?_;obtain⟨m2,rfl,more,nS,hsz,ok2,h2⟩:=XT h2;obtain⟨vr,yd,rvr⟩:=A.val _ _ nS;cases rvr;have mB:G a=some (.dK (FR (BS many m1))):=p.keep _ _ M hD;have na2:¬U a:=λz=>by
  rcases p.new a z with z|z
  .exact M z
  .rw [hD] at z;cases z
 cases r2 with
 | dk W P=>
 rename_i d2 o2 R ep2;have da:d2≠a:=λz=>by subst z;rw[mB] at W;cases W
 have fd2:OW G d2 m2.length ep2 (FR m2):=⟨o2,R,W,P,by unfold FR;rw[AAK]⟩;refine⟨_,_,_,_,rfl,fd2, ?_⟩;let H0:Hp:=λb=>if b=a then none else G b
 have E:(J.set f (some (V.ref a))).length=τ.length:=by simp[A.len]
 refine e5 (K:=X.K) (H:=H0) (H1:=G) (σ0:=J.set f (some (V.ref a))) (D:={D with nx:=lV f t3 D}) (acc0:=BS many m1) (a:=a) (more:=more) n1 n2 n3 n4 n5 (by rw[E];exact l1) (by rw[E];exact l2) ⟨o2,R,(AAC da).trans W,P,by unfold FR;rw[AAK]⟩ (AAE rfl) (λb o e=> ?_) mB ?_ ?_ ok2 hsz λσ' H4 sl so S yA=> ?_
 .by_cases z:b=a
  .rw [show H0 b=none from AAE z] at e;cases e
  .rw [show H0 b=G b from AAC z] at e;exact e
 .rw [AB9 (by rw[A.len];exact l0)]
 .rw [AAb (λz=>n6 z.symm)];exact yd
 refine⟨a,_, ?_,yA,λo es ep eo=> ?_⟩
 .rw [so f n1 n2,AB9 (by rw[A.len];exact l0)]
 have l:C9 T H U G:=(m.trans N).trans p;have St:C9 T H U (upd H4 a (.frz o (.dK (FR (BR more (BS many m1) m2))))):=by
  refine⟨λb q nt e=> ?_,l.sub,l.new,λx t=> ?_⟩
  .have z:b≠a:=λz=>by subst z;have:=m.keep _ _ nt e;rw[ha] at this;cases this
   rw[Ag z];exact S b q ((AAC z).trans (l.keep b q nt e))
  .have z:x≠a:=λz=>by subst z;exact na2 t
   obtain⟨d,w,e,r⟩:=l.tp x t;exact⟨d,w,by rw[Ag z];exact S _ _ ((AAC z).trans e),r⟩
 have sr5:=A.stp St;have sr6:=sr5.set (i:=f) (v:= .ref a) (x:= .dk (BR more (BS many m1) m2)) (.dk Aj eo);obtain⟨sr7,ow⟩:=sr6.loose (σ':=σ') (τ':=((τ.set f (some (.val (.dk (BR more (BS many m1) m2))))).set g none).set k none) (by rw[sl,E];simp) λj c e=>by
  rcases BF e with⟨_,C,_⟩|⟨k2,C⟩
  .cases C
  .rcases BF C with⟨_,F,_⟩|⟨k1,F⟩
   .cases F
   .exact ⟨F,so j k1 k2⟩
 exact s3 B U σ' _ _ D AD sr7 h2 (er.shift (St.prog.trans (.less λb z=>Ce (ow b z))))
end
end PL
namespace L2
open PySem PySem.Spec PyProof.Rows
def q0 (K:AAB)(l:zu):It:=
 ⟨λi H=>∃xs x,FO K H l xs/\xs[i]? =some x,
  λi H v a=>∃T x,v= .ref T/\H T=none/\a=upd H T (.tup [.int i,x])/\∀xs,FO K H l xs->xs[i]? =some x,
  λi H=>∃xs,FO K H l xs/\xs.length<=i⟩
def ZK {P:km}{w:kj}{K:AAB}{es:zy zr}{J:Nat}{pos:Pos}{e it l:zu}(C:e≠it):Lb P w K (.Tuple es J pos) (q0 K l) [e,it] e (λk h=>(∃b,IsEnum h e it (k:Nat) b)/\h.IsListIter it l k) where
 mem:=by simp
 obj:=λk h st p hp=>by
  obtain⟨⟨b,he⟩,hi⟩:=st;have f:p=e\/p=it:=by simpa using hp
  rcases f with q|q
  .subst q;exact⟨_,he,λv z=>nomatch z⟩
  .subst q;obtain⟨o,a,c,d⟩:=hi;exact⟨o,a,λv z=>by rw[d] at z;cases z⟩
 keep:=λk h h' st j=>by obtain⟨⟨b,he⟩,hi⟩:=st;exact⟨⟨b,j e (by simp) _ he⟩,hi.at λo a=>j it (by simp) o a⟩
 item:=by
  intro X r hw t hc k D s F H E I m st y;subst r hw t;obtain⟨⟨b,he⟩,hi⟩:=st;obtain⟨xs,x,n,hx⟩:=y;obtain⟨A,rv,p,L⟩:=I.list n;obtain⟨u,hu,M⟩:=rv.get hx;have i:e<s.heap.objs.size:=AAG he;have B:it<s.heap.objs.size:=by obtain⟨o,a,_⟩:=id hi;exact AAG a
  refine wpAny_pyNext_enum_item he hi p.isList (x:=u) (by simpa using hu) C λh1 N O Q a4 R=> ?_;refine⟨_,rfl,wpAny_letOwnedTupleGo_enum (s:={s with heap:=h1,toks:=s.toks+1}) N λh2 S T=> ?_⟩;have g:∀p o,p≠e->h1.get? p=some o->h2.get? p=some o:=λp o q z=>T.extBut _ _ q z;have G:∀p∈ [e,it],p<s.heap.objs.size:=λp hp=>by
   have f:p=e\/p=it:=by simpa using hp
   rcases f with q|q
   .rw [q];exact i
   .rw [q];exact B
  have j:∀p o,p ∉ [e,it] ->s.heap.get? p=some o->h2.get? p=some o:=λp o hp z=>by
   have f:p≠e/\p≠it:=by simpa using hp
   exact g p o f.1 (R p o f.1 f.2 z)
  have U:Inv X D F (upd H s.heap.objs.size (.tup [.int k,x])) {s with heap:=h2,toks:=s.toks+1}:=I.turnedN m G j (AAJ _)
   ⟨(by show 2<=sizeLine;decide), [.int k s.toks,u], .cons ⟨_,rfl⟩ (.cons M .nil),⟨_,g _ _ (AAw i) Q,rfl,_,rfl⟩⟩
  have W:H s.heap.objs.size=none:=I.fresh;refine⟨.ref s.heap.objs.size,upd H s.heap.objs.size (.tup [.int k,x]),U,rfl,⟨_,x,rfl,W,rfl,λY h'=> ?_⟩,⟨⟨u, ?_⟩, ?_⟩,λp hp=> ?_⟩
  .rw [I.list_inj h' n];exact hx
  .have:((k+1:Nat):Int)=(k:Int)+1:=by push_cast;rfl
   rw[this];exact S
  .exact O.at λo z=>g it o C.symm z
  .rw [Ag (AAM (G p hp))];exact(m p hp).1
 done:=by
  intro X r hw t hc k D s F H E I m st y;subst r hw t;obtain⟨⟨b,he⟩,hi⟩:=st;obtain⟨xs,n,hx⟩:=y;obtain⟨A,rv,p,L⟩:=I.list n;have hl:=rv.length;refine wpAny_pyNext_enum_end (I.ok.hd hc) he hi p.isList (by simp;omega) λh' Z=>⟨rfl, ?_⟩;exact I.turnedL (t':=s.toks) m λp o hp z=>by
   have f:p≠e/\p≠it:=by simpa using hp
   exact Z p o f.2 z
 self:=λ_ _ _ _ _ st h=>by obtain⟨⟨b,he⟩,_⟩:=st;exact wpAny_pyIter_enum he h
section
variable {X:Cx}
def ng (K:AAB)(a:TA):TI:=λb H R=>a b H λvs H1=>∃l,vs= [.ref l] /\(∃xs,FO K H1 l xs)/\R (q0 K l) H1
def fV {e:zr}{d:TA}{p pos b:Pos}{es:zy zr}{i:Nat}(j:Gl X "enumerate")(k:X.mg "enumerate" =none)(ha:PA X [e] d)(hs:starEach [e] X.env= [(false,eval e X.env)] :=by rfl):PI X (.Tuple es i b) (.Call (.Name "enumerate" p) [e] [] pos) (ng X.K d):=by
 intro m s n H R I h;refine Call_ (Gc I j k boot_enumerate (ACT (BJ (ha pos m s n H _ I h) λx a ⟨vs,H1,c,o,t⟩=> ?_) (by rw[hs];rfl) rfl));obtain⟨l,rfl,⟨xs,hl⟩,q⟩:=t;cases o with
 | cons r u=>
 cases u;cases r;obtain⟨v,rv,p,y⟩:=c.list hl;refine call_enumerate_list p.isList λh' f b2 z w=> ?_;refine wpAny_pyIter_enum f ?_;have g:∀p∈ [a.heap.objs.size+1,a.heap.objs.size],a.heap.objs.size<=p:=λp hp=>by
  have A:p=a.heap.objs.size+1\/p=a.heap.objs.size:=by simpa using hp
  omega
 exact⟨_,_,_,_,H1,rfl,c.kept (t':=a.toks) w,ZK (Nat.succ_ne_self _),⟨⟨.none,f⟩,b2⟩,λp hp=>c.fpOk (g p hp) (c.hok.fresh (g p hp)),q⟩
end
end L2
namespace PL
open PySem PySem.Spec PyProof.Rows L2
def Eb (k:Nat):zy PV->zy PV
 | [] => []
 | x::r=> .tup [.int k,x] :: Eb (k+1) r
theorem P3:∀(xs:zy PV) (k:Nat),(Eb k xs).length=xs.length
 | [],_=>rfl
 | _::r,k=>by rw[Eb,AAi,P3 r,AAi]
theorem J3:∀(xs:zy PV) (k i:Nat) (z:PV),(Eb k xs)[i]? =some z->∃x,xs[i]? =some x/\z= .tup [.int ((k+i:Nat):Int),x]
 | [],_,_,_,h=>by simp[Eb] at h
 | x::r,k,0,z,h=>⟨x,rfl,by simp[Eb] at h;rw[<-h];rfl⟩
 | x::r,k,i+1,z,h=>by obtain⟨y,h1,h2⟩:=J3 r (k+1) i z (by simpa[Eb] using h);refine⟨y,by simpa using h1, ?_⟩;rw[h2,show k+1+i=k+(i+1) by omega]
def Ym {K:AAB}{T M:zu->Prop}{H:Hp}{l:zu}{xs:zy PV}(va:K6 T M H)(r:Cs K T M H (.ref l) (.lst xs)):U4 K M (q0 K l) (Eb 0 xs) T H:=by
 obtain⟨a,vs,e,f,m,n,b⟩:=EJ r;cases e;have c:FO K H l vs:= .inl (.inl f);refine⟨λi z h=> ?_,λi z v s h g=> ?_,λi h=>⟨vs,c, ?_⟩⟩
 .obtain ⟨x,hx,_⟩:=J3 xs 0 i z h;obtain⟨u,hu,_⟩:=b.get hx;exact⟨vs,u,c,hu⟩
 .obtain ⟨x,hx,rfl⟩:=J3 xs 0 i z h;obtain⟨p,u,rfl,j,rfl,hu⟩:=g;obtain⟨t,d,k⟩:=b.get' (hu vs c);rw[hx] at d;cases d;have st:=C9.lay (o:= .tup [.int (i:Nat),u]) va.tp j;rw[ADr];exact⟨st, .tup (.inl Aj) (.cons (.int _) (.cons (k.stp st va) .nil))⟩
 .rw [b.length];rw[P3] at h;exact h
section
variable {X:Cx}
def qM (r:AA):AI:=λτ Q=>r τ λa=>match a with | [.lst xs] =>Q (Eb 0 xs)|_=>False
def pM {e:zr}{r:AA}{p pos b:Pos}{es:zy zr}{c:Nat}(d:Gl X "enumerate")(f:X.mg "enumerate" =none)(ha:SA X [e] r)(hs:starEach [e] X.env= [(false,eval e X.env)] :=by rfl):SI X (.Tuple es c b) (.Call (.Name "enumerate" p) [e] [] pos) true (qM r):=by
 obtain⟨t,g,s⟩:=ha;refine⟨_,fV d f g hs,λB T i τ H R v j h k=>s B T i τ H _ _ j h λvs xs T1 H1 l m h1=> ?_⟩;split at h1 <;> first | exact h1.elim|skip
 cases m with
 | cons ra t=> cases t;obtain⟨a,n,rfl,o,_,_,w⟩:=EJ ra;exact⟨a,rfl,⟨n, .inl (.inl o)⟩,k _ _ T1 H1 l (λM2 x y u va _=>Ym va (ra.mv u)) h1⟩
end
end PL
namespace L2
open PySem PySem.Spec PyProof.Rows
section
variable {prog:km}{w:kj}{A:kf}{E:zx->zw->Prop}{s:zw}
def cR {d:zx}{Q:zx->zw->Prop}(h:∀(g:kn),wpAny (model prog w) A.in1.in1 (Builtin.«set.__init__» {pos:= [.ref s.heap.objs.size,d] }) (λj b=> match j with
     | Fin.done f=>wants (λr i=>r=Value.none/\Q (.ref s.heap.objs.size) i) E (Except.ok f) b
     | Fin.again l=>l.quiet=true/\codeAny (model prog w) A.in1 l (wants (λr i=>r=Value.none/\Q (.ref s.heap.objs.size) i) E) b)
   (λe b=>wants (λr i=>r=Value.none/\Q (.ref s.heap.objs.size) i) E (Except.error e) b) {s with heap:=s.heap.push {cls:= .type "set",data:= .set #[] 0 (SetTable.fresh 0 0 g)}}):
 wpAny (model prog w) A (call (.type "set") [d]) Q E s:=by
 obtain⟨c,y,p⟩:=ACf.mro;refine ACW (codeAny_of_tree ?_)
 wp_walk
 refine⟨by kernel_rfl,ADs F.entry_type_call ?_⟩;rw[Around.under_plain (weight_type_call_type ..) rfl];show wpAny (model prog w) A.in1 (Builtin.«type.__call__» {pos:= [.type "set",d] }) _ _ s;unfold Builtin.«type.__call__»;simp only[ACf.notType,ACf.canCreate,F.typeCall_set_1,p,ACf.made,pure_bind,List.isEmpty_cons,AAv,AAl];refine AAA (AAe (ACW (ACA (code_set_new_1 (Q₁:=λobj o=>∃g,obj= .ref s.heap.objs.size/\o={s with heap:=s.heap.push {cls:= .type "set",data:= .set #[] 0 (SetTable.fresh 0 0 g)}}) (E:=E) d λg=>⟨g,rfl,rfl⟩) λr o k=> ?_)));match r,k with
 | .error e,k=>exact k
 | .ok (.ret obj),k=>
   obtain⟨g,rfl,rfl⟩:=k;have t:(s.heap.push {cls:= .type "set",data:= .set #[] 0 (SetTable.fresh 0 0 g)}).get? s.heap.objs.size=some {cls:= .type "set",data:= .set #[] 0 (SetTable.fresh 0 0 g)}:=AAP _ rfl;have n:Shared.TypeIs {s with heap:=s.heap.push {cls:= .type "set",data:= .set #[] 0 (SetTable.fresh 0 0 g)}} (.ref s.heap.objs.size) "set" :=⟨_,t,rfl⟩;refine AAA (ACS n ACf.sub ?_);simp only[ABJ,AAv,AAl];refine AAA (AAe ?_);unfold callSpecial?;refine AAA (ABi n ADt.lookup ?_);refine AAe (AAA (ACG (ADt.bind _) ?_));refine AAA (ACW (codeAny_call_builtin ADt.plain F.entry_set_init (check_set_init_1 n ?_)));have back:∀(v:zx) (b:zw),(v=Value.none/\Q (.ref s.heap.objs.size) b)->wpAny (model prog w) A.in1 (pure (some v)) (λa b=>wpAny (model prog w) A.in1 (match a with
    | none=>ret (Value.ref s.heap.objs.size)
    | some r=>if (r != Value.none)=true then do
              rule "type.call.init-returned-value"
              let __do_lift <-typeNameOf r
              raiseErrorMade "TypeError" (toString "__init__() should return None, not '" ++ toString __do_lift++toString "'")
              ret (Value.ref s.heap.objs.size)
             else ret (Value.ref s.heap.objs.size)) (λj b=>
             match j with
             | Fin.done f=>
               match Except.ok f with
               | Except.ok (Flow.ret v)=>Q v b
               | Except.ok a=>False
               | Except.error e=>E e b
             | Fin.again l=>l.quiet=true/\codeAny (model prog w) A l (λr b=>
                    match r with
                    | Except.ok (Flow.ret v)=>Q v b
                    | Except.ok a=>False
                    | Except.error e=>E e b) b) (λe b=>E e b) b) (λe b=>E e b) b:=by rintro v b ⟨rfl,u⟩;refine AAD ?_;exact AAD u
   refine BJ (h g) λj b m=> ?_;match j,m with
   | .done (.ret v),m=>exact back v b m
   | .again l,m=>
     refine⟨m.1,ACA m.2 λr x k=> ?_⟩;match r,k with
     | .error e,k=>exact k
     | .ok (.ret v),k=>exact back v x k
def Y4 {M:Model}{f:Nat->PUnit->Sem (ForInStep PUnit)}{Q:PUnit->zw->Prop}{n:Nat}(b:n=1)(h:wpAny M A (f 0 PUnit.unit) (λr a=>r=ForInStep.yield PUnit.unit/\Q PUnit.unit a) E s):wpAny M A (forIn [:n] PUnit.unit f) Q E s:=by subst b;rw[Std.Legacy.Range.forIn_eq_forIn_range'];show wpAny M A (forIn [0] PUnit.unit f) Q E s;rw[ACD];refine AAA (BJ h ?_);rintro r a ⟨rfl,c⟩;show wpAny M A (forIn [] PUnit.unit f) Q E a;rw[ACz];exact AAD c
def cO (k:Int)(a:Tok):byScan (.int k a) #[] =true:=by unfold byScan;simp[Value.scannable,scanBound]
def VR (h:Int)(a:kn):∃j,(SetTable.fresh 0 0 a).freeSlot h=some (j,false):=⟨_,rfl⟩
def Yr (h:Int)(x:zx)(a:kn):∃t:SetTable,layNew (SetTable.fresh 0 0 a) #[] h x=(#[(h,x)],t,false,false)/\t.mask=7/\t.dummies= #[] /\t.place.size=1/\t.plain=true:=by obtain⟨j,e⟩:=VR h a;unfold layNew;rw[e];exact⟨_,rfl,rfl,rfl,rfl,rfl⟩
def TC {d:zu}{o:Obj}{ep:Nat}{k:Int}{c:Tok}{v:zx}{Q:zx->zw->Prop}(hd:s.heap.get? d=some o)(hc:o.cls= .type "dict")(he:o.data= .dict #[⟨hashInt k, .int k c,v⟩] ep)(hs:(d==sysModules)=false)(q:∀(h':ki) (t:SetTable) (n:Nat),t.mask=7->t.dummies= #[] ->t.place.size=1->h'.get? s.heap.objs.size=some ⟨.type "set",none, .set #[(hashInt k, .int k c)] n t, #[]⟩->(∀b o,b<s.heap.objs.size->s.heap.get? b=some o->h'.get? b=some o)->h'.objs.size=s.heap.objs.size+1->Q (.ref s.heap.objs.size) {s with heap:=h'}):wpAny (model prog w) A (call (.type "set") [.ref d]) Q E s:=by
 obtain⟨cls,u,data,sl⟩:=o;simp only at hc he;subst hc he;refine cR λa=> ?_;have h:(s.heap.push {cls:= .type "set",data:= .set #[] 0 (SetTable.fresh 0 0 a)}).get? s.heap.objs.size=some {cls:= .type "set",data:= .set #[] 0 (SetTable.fresh 0 0 a)}:=AAP _ rfl;have i:=AAH {cls:= .type "set",data:= .set #[] 0 (SetTable.fresh 0 0 a)} hd;unfold Builtin.«set.__init__»
 wp_walk using ACG F.sub_dict_set,ACG F.sub_dict_frozenset
 refine Y4 rfl ?_;obtain⟨t,j,f,g,e,l⟩:=Yr (hashInt k) (.int k c) a;have x:t.tooFull=false:=by unfold SetTable.tooFull SetTable.fill;rw[f,g,e];rfl
 wp_walk
 rw[AAE (show byScan #[({hash:=hashInt k,key:=Value.int k c,val:=v}:DictEntry)][0].key #[] =true from cO k c)];show wpAny (model prog w) A.in1.in1 (do
  let __do_lift <-setAddByScan s.heap.objs.size (.int k c) (hashInt k) #[] (SetTable.fresh 0 0 a);match __do_lift with
   | some added=>pure added
   | none=>setAddHashedIn s.heap.objs.size (.int k c) (hashInt k) 99999) _ _ _
 unfold setAddByScan;simp only[j]
 wp_walk
 rw[AAE rfl];have m:d<s.heap.objs.size:=AAG hd;have p:=(ADC (s.heap.push {cls:= .type "set",data:= .set #[] 0 (SetTable.fresh 0 0 a)}) d s.heap.objs.size (Obj.putSet #[(hashInt k, .int k c)] t) (AAM m)).trans i
 wp_walk using wpAny_loadPart' p
 refine⟨rfl,AAD (AAD ⟨rfl, ?_⟩)⟩;refine q _ t 1 f g e ?_ (λb o hb r=> ?_) ?_
 .exact ACv (Obj.putSet #[(hashInt k, .int k c)] t) h rfl
 .rw [ADC _ _ _ _ (AAM hb)];exact AAH _ r
 .rw [Heap.size_update,ABM]
end
def RC:entryFor table "set.__or__" =some Builtin.«frozenset.__or__»:=
 entryFor_alias (id':="frozenset.__or__") (by kernel_rfl) (by first | rfl|decide +kernel|(unfold String.splitOn;simp +decide [String.splitOnAux])) (by decide +kernel) (by kernel_rfl)
abbrev PX (h:Int)(x:zx)(n:Nat)(t:SetTable):Obj:=⟨.type "set",none, .set #[(h,x)] n t, #[]⟩
structure T1 (t:SetTable):Prop where
 m:t.mask=7
 d:t.dummies= #[]
 p:t.place.size=1
def T1.fits {t:SetTable}(h:T1 t):t.fits 1=true:=by unfold SetTable.fits SetTable.fill;rw[h.m,h.d,h.p];rfl
def T1.room {t:SetTable}(h:T1 t):t.roomFor 1=none:=by unfold SetTable.roomFor SetTable.fill;rw[h.m,h.d,h.p];rfl
section
variable {prog:km}{w:kj}{A:kf}{E:zx->zw->Prop}{s:zw}
def Tr {S a:zu}{h:Int}{x:zx}{n:Nat}{t:SetTable}{b:kn}{Q:Unit->zw->Prop}(e:s.heap.get? S=some ⟨.type "set",none, .set #[] 0 (SetTable.fresh 0 0 b), #[]⟩)(ha:s.heap.get? a=some (PX h x n t))(ne:(S==a)=false)(c:T1 t)(q:∀g:SetTable,T1 g->Q () {s with heap:=s.heap.update S (Obj.putSet #[(h,x)] g)}):wpAny (model prog w) A (setMerge S a) Q E s:=by
 unfold setMerge;rw[AAC (by rw[ne];decide)];refine AAA (ABR ha rfl c.fits ?_);show wpAny (model prog w) A (do
  setRoomFor S 1
  let __x <-setState S;match __x with
   | (fst,f,j)=>_) Q E s
 refine AAA ?_;unfold setRoomFor;refine AAA (ABR e rfl rfl ?_);show wpAny _ _ (pure ()) _ _ _;refine AAD (AAA (ABR e rfl rfl ?_));have i:(SetTable.fresh 0 0 b).road t=SetTable.Road.slotForSlot:=by unfold SetTable.road;rw[AAC (by cases b <;> decide),c.m,c.d];rfl
 dsimp only;rw[i];exact wpAny_storeSet_of e rfl (q _ ⟨c.m,c.d,c.p⟩)
def oV {a:Type}(f:Nat->Nat)(x:a):pickOrder f #[x] = #[x] :=by show pickOrder.go f 1 0 [x] #[] = #[x];simp[pickOrder.go,Nat.mod_one]
def walk1 {b:zu}{h:Int}{x:zx}{n:Nat}{t:SetTable}{os:zy zu}{c:zt zu}{Q:Array (Int×zx)->zw->Prop}(hb:s.heap.get? b=some (PX h x n t))(a:T1 t)(q:Q #[(h,x)] s):wpAny (model prog w) A (setWalkUnseen b os c) Q E s:=by
 unfold setWalkUnseen;refine AAA (ABR hb rfl a.fits ?_);unfold setsByText;refine AAA (AAA (ADD (AAD ?_)));dsimp only;rw[AAE (by simp)];unfold setWalk;refine AAA (ABR hb rfl a.fits ?_);unfold setsByText;refine AAA (AAA (ADD (AAD ?_)));dsimp only;split
 .refine AAA (ADD (AAD ?_));dsimp only;rw[oV];exact q
 .split
  .rename_i d;exact absurd d (by show ¬(!t.plain&&decide (#[(h,x)].size>1))=true;simp)
  .refine AAA ?_;show wpAny _ _ (if (!t.led&&decide (#[(h,x)].size>1))=true then unsupported "set:maker-not-led" else pure ()) _ _ _;rw[AAC (by simp)];exact AAD (AAD q)
def Y3 {M:Model}{b:Type}{x:b}{f:b->PUnit->Sem (ForInStep PUnit)}{Q:PUnit->zw->Prop}(h:wpAny M A (f x PUnit.unit) (λr a=>r=ForInStep.yield PUnit.unit/\Q PUnit.unit a) E s):wpAny M A (forIn #[x] PUnit.unit f) Q E s:=by rw[<-ACo];show wpAny M A (forIn [x] PUnit.unit f) Q E s;rw[ACD];refine AAA (BJ h ?_);rintro r a ⟨rfl,c⟩;show wpAny M A (forIn [] PUnit.unit f) Q E a;rw[ACz];exact AAD c
def isInt_self (j:Int)(a:Tok):Value.isInt j (.int j a)=true:=by simp[Value.isInt]
def gE {h:ki}{S:zu}{i:Int}{a:Tok}{n:Nat}{t:SetTable}(b:h.get? S=some (PX (hashInt i) (.int i a) n t))(c:T1 t):h.SetOf (intKind prog w) S (λk=>decide (k=i)) 1:=by
 refine⟨_,_,_,_,b, ?_,rfl, ?_, ?_, ?_,c.fits,rfl⟩
 .first | exact⟨rfl,rfl⟩|exact⟨rfl,rfl,rfl⟩|exact Or.inl rfl
 .intro e he;simp only[AAc] at he;subst he;exact⟨⟨i,isInt_self i a,rfl⟩,rfl⟩
 .intro k;simp[intKind,Value.isInt];exact eq_comm
 .simp [scanBound]
def Yt {S b:zu}{i j:Int}{o c:Tok}{n m:Nat}{t u:SetTable}{id:String}{Q:Unit->zw->Prop}(f:s.heap.get? S=some (PX (hashInt i) (.int i o) n t))(hb:s.heap.get? b=some (PX (hashInt j) (.int j c) m u))(ne:(S==b)=false)(a:T1 t)(hu:T1 u)(q:∀h',Heap.SameBut S s.heap h'->h'.SetOf (intKind prog w) S (λk=>decide (k=i)||decide (k=j)) (if i=j then 1 else 2)->Q () {s with heap:=h'}):wpAny (model prog w) A (setMerge S b (Builtin.Frozenset.unchanged id b m)) Q E s:=by
 unfold setMerge;rw[AAC (by rw[ne];decide)];refine AAA (ABR hb rfl hu.fits ?_);show wpAny (model prog w) A (do
  setRoomFor S 1
  let __x <-setState S;match __x with
   | (fst,g,x)=>_) Q E s
 refine AAA ?_;unfold setRoomFor;refine AAA (ABR f rfl a.fits ?_);dsimp only;rw[a.room];refine AAD (AAA (ABR f rfl a.fits ?_));have r:t.road u=SetTable.Road.oneByOne:=by unfold SetTable.road SetTable.fill;rw[a.d,a.p];rfl
 dsimp only;rw[r];refine AAA (walk1 hb hu ?_);refine AAA (Y3 ?_);dsimp only;refine AAA (AAe (wpAny_setAddHashed_of (knd:=intKind prog w) (k:=j) (isInt_self j c) rfl (gE f a) (by simp[scanBound]) λh' h v=> ?_));have l:h'.get? b=some (PX (hashInt j) (.int j c) m u):=by rw[h.2 b (λz=>by rw[z] at ne;simp at ne)];exact hb
 unfold Builtin.Frozenset.unchanged;refine AAA (AAA (wpAny_setEpoch_of l rfl hu.fits ?_));rw[AAC (by simp)];refine AAD (AAA (ABR l rfl hu.fits ?_));rw[AAC (by simp)];refine AAD ⟨rfl,AAD (q h' h ?_)⟩;have e:(if decide (j=i)=true then 1 else 1+1)=if i=j then 1 else 2:=by
  by_cases z:i=j
  .rw [AAE z,AAE (by simp[z])]
  .rw [AAC z,AAC (by simp;exact λy=>z y.symm)]
 rw[<-e];exact v
def fN {a b:zu}{i j:Int}{e v:Tok}{n m:Nat}{t u:SetTable}{Q:zx->zw->Prop}(ha:s.heap.get? a=some (PX (hashInt i) (.int i e) n t))(hb:s.heap.get? b=some (PX (hashInt j) (.int j v) m u))(B:a≠b)(C:T1 t)(hu:T1 u)(q:∀(h':ki),h'.SetOf (intKind prog w) s.heap.objs.size (λk=>decide (k=i)||decide (k=j)) (if i=j then 1 else 2)->(∀c o,c<s.heap.objs.size->s.heap.get? c=some o->h'.get? c=some o)->Q (.ref s.heap.objs.size) {s with heap:=h'}):wpAny (model prog w) A (binaryOp .BitOr (.ref a) (.ref b)) Q E s:=by
 have D:=AAG ha;have x:=AAG hb;refine wpAny_binaryOp_same (T:="set") ⟨_,ha,rfl⟩ ⟨_,hb,rfl⟩ F.fills_set_or F.slot_set_or ?_;refine ACW (codeAny_call_builtin F.slot_set_or.plain RC ?_);refine F.slot_set_or.check (model prog w) A.in1 _ s (.ref a) [.ref b] [] _ ⟨_,ha,rfl⟩ (F.args_set_or_2 _ _) ?_;unfold Builtin.«frozenset.__or__»
 wp_walk using ACG F.sub_set_set,ADD
 have y:∀{c:Nat},c<s.heap.objs.size->(s.heap.objs.size==c)=false:=λ{c} h=>by simp only[ADN,ne_eq];exact λz=>absurd h (by rw[z];exact ABW _)
 show wpAny _ _ (setMerge s.heap.objs.size a) _ _ _;refine Tr (AAP _ rfl) (AAH _ ha) (y D) C λf G=> ?_;have H:=AAH {cls:= .type "set",data:= .set #[] 0 (SetTable.fresh 0 0 !((model prog w).w.params.followText "set-order"))} hb;have I:((s.heap.push {cls:= .type "set",data:= .set #[] 0 (SetTable.fresh 0 0 !((model prog w).w.params.followText "set-order"))}).update s.heap.objs.size (Obj.putSet #[(hashInt i, .int i e)] f)).get? s.heap.objs.size=some (PX (hashInt i) (.int i e) 1 f):=ACv (Obj.putSet #[(hashInt i, .int i e)] f) (AAP _ rfl) rfl;have J:=(ADC _ b s.heap.objs.size (Obj.putSet #[(hashInt i, .int i e)] f) (AAM x)).trans H;have g:∀c o,c<s.heap.objs.size->s.heap.get? c=some o->((s.heap.push {cls:= .type "set",data:= .set #[] 0 (SetTable.fresh 0 0 !((model prog w).w.params.followText "set-order"))}).update s.heap.objs.size (Obj.putSet #[(hashInt i, .int i e)] f)).get? c=some o:=λc o hc l=>by rw[ADC _ _ _ _ (AAM hc)];exact AAH _ l
 refine AAD ?_;show wpAny (model prog w) A.in1 (if (Value.ref b != Value.ref a)=true then do
  let r <-holding [Value.ref s.heap.objs.size] (Builtin.Frozenset.updateFrom (toString "frozenset." ++ toString "__or__") s.heap.objs.size (Value.ref b))
  pure (Value.ref s.heap.objs.size)
  else pure (Value.ref s.heap.objs.size)) _ _ {s with heap:=(s.heap.push {cls:= .type "set",data:= .set #[] 0 (SetTable.fresh 0 0 !((model prog w).w.params.followText "set-order"))}).update s.heap.objs.size (Obj.putSet #[(hashInt i, .int i e)] f)}
 generalize (s.heap.push {cls:= .type "set",data:= .set #[] 0 (SetTable.fresh 0 0 !((model prog w).w.params.followText "set-order"))}).update s.heap.objs.size (Obj.putSet #[(hashInt i, .int i e)] f)=H1 at *;rw[AAE (by simp;exact λz=>B z.symm)];refine AAA (AAe ?_);unfold Builtin.Frozenset.updateFrom Builtin.Frozenset.isAnySet
 wp_walk using ACG F.sub_set_set
 have K:(u.place.size != #[(hashInt j,Value.int j v)].size||decide (u.fill>u.mask))=false:=by unfold SetTable.fill;rw[hu.m,hu.d,hu.p];rfl
 rw[AAC (by rw[K];decide)];refine AAD (AAD (Yt I J (y x) G hu λh' L M=> ?_));refine AAD (AAD ⟨(λz=>nomatch z),q h' M λc o hc l=> ?_⟩);rw[L.2 c (AAM hc)];exact g c o hc l
end
def To (p:zu)(k:Int)(h:ki):Prop:=∃a n t,h.get? p=some (PX (hashInt k) (.int k a) n t)/\T1 t
def eV {P:km}{w:kj}{H:Hp}{h:ki}{p:zu}{k:Int}(x:To p k h):CC P w H h p (.ext (To p k)):=by obtain⟨a,n,t,e,y⟩:=id x;refine⟨x,⟨_,e⟩,λh1 h2 z q=> ?_⟩;obtain⟨a,n,t,e,y⟩:=z;exact⟨a,n,t,q _ e,y⟩
def ou:zy V->Hp->VK->Prop:=λxs H Q=>∃a o k v,xs= [.ref a] /\H a=some (.frz o (.dK [(.inl k,v)]))/\∀p,H p=none->Q (.ref p) (upd H p (.ext (To p k)))
def sX:R2:=λx y H Q=>∃a b i j,x= .ref a/\y= .ref b/\a≠b/\H a=some (.ext (To a i))/\H b=some (.ext (To b j))/\∀p,H p=none->Q (.ref p) (upd H p (.set (λk=>decide (k=i)||decide (k=j)) (if i=j then 1 else 2)))
def om:zy V->Hp->VK->Prop:=λxs H Q=>∃a S n,xs= [.ref a] /\H a=some (.set S n)/\Q (.int n) H
section
variable {X:Cx}
def nE {P:km}{w:kj}{H:Hp}{h:ki}{a:zu}{o:Obj}{k:Int}{v:V}(x:CC P w H h a (.frz o (.dK [(.inl k,v)]))):h.get? a=some o/\o.cls= .type "dict" /\(a==sysModules)=false/\∃n u ep,o.data= .dict #[⟨hashInt k, .int k n,u⟩] ep:=by
 obtain⟨g,z,hs,vs,d,D,es,ep,j,ex,hd,r,ps,E⟩:=x;rw[g] at j;cases j;refine⟨g,ex.1,hs, ?_⟩;cases d with
 | cons q d=>
   rename_i p vs;cases d;obtain⟨c,u⟩:=p;have s:Sum.inl k=c:=q.1;subst s;generalize l:es.toList=L at ps;cases ps with
   | cons h1 h2 h3=>
     rename_i b _;cases h3;have y:b∈es:=by rw[<-Array.mem_toList_iff,l];simp
     obtain⟨A,B,m⟩:=r b y;have C:Sum.inl k=A:=(Aw P w).inj _ _ _ h1 B;subst C;rcases BL (k:=Sum.inl k) (v:=b.key) h1 with⟨i,t,e,f⟩|⟨x,t,e,f⟩
     .cases e;refine⟨t,b.val,ep, ?_⟩;rw[hd];have:es= #[b] :=by apply Array.toList_inj.mp;rw[l]
      rw[this];obtain⟨F,G,I⟩:=b;simp only at f m;rw[f,m];rfl
     .cases e
def Px:B4 X (.type "set") ou:=by intro m s p H xs w Q I r h;obtain⟨a,o,k,v,rfl,e,q⟩:=h;obtain⟨u,rfl,d⟩:=vals1 r;cases d;obtain⟨f,hc,hs,g,u,ep,hd⟩:=nE (I.hok a _ e);refine TC f hc hd hs λh' t n i j tp l c sz=> ?_;have keep:∀b o,s.heap.get? b=some o->h'.get? b=some o:=λb o e=>c b o (AAG e) e;exact⟨.ref _,_,I.laid (a:=s.heap.objs.size) (t':=s.toks) keep (AAJ _) (eV ⟨g,n,t,l,⟨i,j,tp⟩⟩),rfl,q _ (I.hok.fresh (AAJ _))⟩
def j8:Dq X (binaryOp .BitOr) sX:=by intro n s p H x y v u Q I d f h;obtain⟨a,b,i,j,rfl,rfl,ne,ha,hb,q⟩:=h;cases d;cases f;obtain⟨⟨r,t,w,g,y1⟩,_,_⟩:=I.hok a _ ha;obtain⟨⟨t2,z,A,l,y2⟩,_,_⟩:=I.hok b _ hb;refine fN g l ne y1 y2 λh' m c=> ?_;have keep:∀b o,s.heap.get? b=some o->h'.get? b=some o:=λb o e=>c b o (AAG e) e;exact⟨.ref _,_,I.laid (a:=s.heap.objs.size) (o:= .set (λk=>decide (k=i)||decide (k=j)) (if i=j then 1 else 2)) (t':=s.toks) keep (AAJ _) m,rfl,q _ (I.hok.fresh (AAJ _))⟩
def YH:B4 X (.builtin "len") om:=by intro i s j H xs k Q I r h;obtain⟨a,S,n,rfl,e,q⟩:=h;obtain⟨u,rfl,b⟩:=vals1 r;cases b;obtain⟨o,es,ep,t,c,hx,hd,_,_,d,f,g⟩:=I.hok a _ e;refine call_len_set c hx hd f (by rw[show scanBound=4096 from rfl] at d;omega) ?_;rw[g];exact⟨.int n,H,I.tok _,⟨_,rfl⟩,q⟩
end
end L2
namespace PL
open PySem PySem.Spec PyProof.Rows L2
def qe (i j:Int):Nat:=if i=j then 1 else 2
def i5 (a b:AE):AE:=λτ Q=>a τ λx=>match x with | .dk [(i,_)] =>b τ λy=>(match y with | .dk [(j,_)] =>Q (.int (qe i j))|_=>False)|_=>False
section
variable {X:Cx}
def lG {a b:zr}{D E:AE}{p r s c d u pos:Pos}(L:Gl X "len")(M:X.mg "len" =none)(F:Gl X "set")(G:X.mg "set" =none)(ha:SE X a D)(hb:SE X b E)(I:starEach [.BinOp (.Call (.Name "set" r) [a] [] c) .BitOr (.Call (.Name "set" s) [b] [] d) u] X.env=(false,eval (.BinOp (.Call (.Name "set" r) [a] [] c) .BitOr (.Call (.Name "set" s) [b] [] d) u) X.env)::starEach [] X.env:=by rfl)(h1:starEach [a] X.env=(false,eval a X.env)::starEach [] X.env:=by rfl)(h2:starEach [b] X.env=(false,eval b X.env)::starEach [] X.env:=by rfl):SE X (.Call (.Name "len" p) [.BinOp (.Call (.Name "set" r) [a] [] c) .BitOr (.Call (.Name "set" s) [b] [] d) u] [] pos) (i5 D E):=by
 obtain⟨t,N,O⟩:=ha;obtain⟨t',w,P⟩:=hb;refine⟨_,Gg YH L M ABA (Bt (B0 j8 (HG Px F G AEL (Bt N ED h1) (he:=h1)) (HG Px F G AEL (Bt w ED h2) (he:=h2))) ED I) (he:=I),λB T J τ H Q AQ f h k=> ?_⟩;refine O B T J τ H _ _ f h λv x T1 H1 g R c=> ?_;split at c <;> first | exact c.elim|skip
 rename_i i _;cases R;rename_i S o1 U W d1 Y;refine⟨S,_,i,_,rfl,Y,λp hp=> ?_⟩;have m:=C9.lay (o:= .ext (To p i)) (f.stp g).tp hp;have Z:¬T1 p:=λz=>by obtain⟨o,e,_⟩:=((f.stp g).tp p z).mut;rw[hp] at e;cases e
 refine P B T1 J τ _ _ _ ((f.stp g).stp m) c λv2 y T2 H2 n r2 d=> ?_;split at d <;> first | exact d.elim|skip
 rename_i j _;cases r2;rename_i a2 o2 es2 ep2 d2 e2;refine⟨a2,_,j,_,rfl,e2,λA C=> ?_⟩;have l:H2 p=some (.ext (To p i)):=n.keep _ _ Z Aj;have ne:p≠A:=λz=>by subst z;rw[l] at C;cases C
 have K:=C9.lay (o:= .ext (To A j)) (((f.stp g).stp m).stp n).tp C;refine⟨p,A,i,j,rfl,rfl,ne,by rw[Ag ne];exact l,Aj,λp3 yX=> ?_⟩;have l3:=C9.lay (o:= .set (λk=>decide (k=i)||decide (k=j)) (if i=j then 1 else 2)) ((((f.stp g).stp m).stp n).stp K).tp yX;refine⟨p3,_,_,rfl,Aj, ?_⟩;exact k _ _ T2 _ ((((g.trans m).trans n).trans K).trans l3) (.int _) d
end
end PL
namespace L2
open PySem PySem.Spec PyProof.Rows
structure Q0 (K:AAB) (x qual:Str) (st:Stmt) (f:Addr) (fd:FuncData) (d:Int):Prop where
 ex:∃(oc:Value) (od:Option Addr) (kV doc pm:Value) (an:Option Addr) (cdv ct:Value) (osl:Array (Option Value)) (t:Addr),
  fd=PySem.W.fnOf x qual (Dy st) (B8 st) (As st) (.ref t) kV doc pm an cdv ct/\K.lookup f=some ⟨oc,od, .func fd,osl⟩/\PySem.W.codeIn K cdv qual=true/\∃o tk n,K.lookup t=some o/\o.data= .seq #[.int d tk] n
 kp:PySem.W.keepIn K (.ref f)=true
structure U3 (P:Program) (w:World) (K:AAB) (mg:Str->Option Value) (base:Heap) (k:Nat) (x:Str) (ps:List Str) (d:Int) (sp:Sp):Prop where
 ex:∃f fd tk,mg x=some (.ref f)/\PySem.W.keepIn K (.ref f)=true/\Binds K fd ps [.int d tk] /\Dp P w K mg base Mr k f fd ps sp
def U3.mono {P:km}{w:kj}{K:AAB}{mg:Str->zt zx}{base:ki}{j k:Nat}{x:Str}{ps:zy Str}{d:Int}{sp:Sp}(h:U3 P w K mg base j x ps d sp)(hk:j<=k):U3 P w K mg base k x ps d sp:=by obtain⟨f,e,g,a,b,c,d⟩:=h.ex;exact⟨f,e,g,a,b,c,d.mono hk⟩
section
variable {P:km}{w:kj}{K:AAB}{mg:Str->zt zx}{base:ki}
def Q0.ok {x qual:Str}{st:Stmt}{f:zu}{b:FuncData}{d:Int}{N ps:zy Str}{k:Nat}{sp:Sp}(F:Q0 K x qual st f b d)(S:DS N ps (As st))(len:∀vs H Q E,sp vs H Q E->vs.length=ps.length)(c:∀(a:zx) (A:kf) (outer:zy Env) (s:zw) (H:Hp) (vs:zy V) (Q:VK) (E:XK),Room k (A.deeper (envOfC qual (As st) s.heap.objs.size f a))->sp vs H Q E-> ∃t,S4 (O2 Mr P w K mg base N qual (As st) f a A outer s H E).nox (B8 st) t/\t {nx:=λ_ e=>Q .non e,rt:=Q} (start N vs) H):Dp P w K mg base Mr (k+1) f b ps sp:=by obtain⟨o,p,kV,g,r,u,a,ct,i,t,rfl,j,l,_⟩:=F.ex;refine hU j l S len λA outer s H vs Q E m n=> ?_;obtain⟨t,h,q⟩:=c a A outer s H vs Q E m n;exact⟨t,h.nox,q⟩
def Q0.binds3 {x qual:Str}{st:Stmt}{f:zu}{m:FuncData}{d:Int}{a b c:Str}(F:Q0 K x qual st f m d)(h:∀(t:zu) (kV e i:zx) (j:zt zu) (g ct:zx) (u v:zx),∃k:zt (Array zx)->Sem (zy (Str×zx)),bindArgs (PySem.W.fnOf x qual (Dy st) (B8 st) (As st) (.ref t) kV e i j g ct) ⟨[u,v], []⟩=seqItems? (.ref t) >>= k/\∀z,k (some #[z])=pure [(a,u),(b,v),(c,z)]):∃l,Binds K m [a,b,c] [.int d l] :=by
 obtain⟨B,C,kV,e,i,j,g,ct,r,t,rfl,D,E,o,l,n,y,A⟩:=F.ex;refine⟨l,λs p X hl=> ?_⟩;have hl:p.length=2:=by simpa using hl
 match p,hl with
 | [u,v],_=> obtain⟨k,h1,h2⟩:=h t kV e i j g ct u v;exact BindsTo.of_defaults (T:=t) rfl (X _ _ y) A h1 (h2 _)
end
section
variable {X:Cx}{x:Str}{p pos:Pos}{e:zr}{es:zy zr}{t:TA}{k:Nat}{ps:zy Str}{d:Int}{sp:Sp}
def fT (D:U3 X.prog X.w X.K X.mg X.base k x ps d sp)(a:Room k X.A)(b:Gl X x)(ha:PA X (e::es) t)(hs:starEach (e::es) X.env=(false,eval e X.env)::starEach es X.env:=by rfl)(hpl:(backTo pos (starEach es X.env)).any (·.1)=false:=by rfl)(hd:(x==("__debug__" :Str))=false:=by decide):PE X (.Call (.Name x p) (e::es) [] pos) (ci sp [.int d] E0 t):=by obtain⟨f,j,c,g,h,i,G⟩:=D.ex;exact XW G a b g h i (.cons ⟨c,rfl⟩ .nil) iG ha (hdb:=hd) (he:=hs) (hpl:=hpl)
end
end L2
namespace PL
open PySem PySem.Spec PyProof.Rows L2
def Zx (n:Nat)(F:AF)(d:Int)(r:AA):AE:=λτ Q=>r τ λxs=>(xs ++ [PV.int d]).length=n/\F (xs ++ [.int d]) Q
section
variable {X:Cx}
theorem Ax.snoc {K:AAB}{T M:zu->Prop}{H:Hp}:∀{vs:zy V} {xs:zy PV} {v:V} {x:PV},Ax K T M H vs xs->Cs K T M H v x->Ax K T M H (vs ++ [v]) (xs ++ [x])
 | [], [],_,_,_,r=> .cons r .nil
 | _::_,_::_,_,_, .cons h t,r=> .cons h (Ax.snoc t r)
def cQ {x:Str}{p pos:Pos}{e:zr}{es:zy zr}{k n:Nat}{ps:zy Str}{d:Int}{F:AF}{r:AA}(D:U3 X.prog X.w X.K X.mg X.base k x ps d (CH X.K n F))(f:Room k X.A)(g:Gl X x)(ha:SA X (e::es) r)(hs:starEach (e::es) X.env=(false,eval e X.env)::starEach es X.env:=by rfl)(hpl:(backTo pos (starEach es X.env)).any (·.1)=false:=by rfl)(hd:(x==("__debug__" :Str))=false:=by decide):SE X (.Call (.Name x p) (e::es) [] pos) (Zx n F d r):=by obtain⟨t,i,s⟩:=ha;refine⟨_,fT D f g i hs hpl hd,λB T j τ H Q l b h k=>s B T j τ H _ _ b h λvs xs T1 H1 c o h1=> ?_⟩;exact⟨T1,_,_,l,(b.stp c).va,λa m=>(b.stp c).nt m,o.snoc (.int d),h1.1,h1.2,λv x u y z C q=>k v x u y (c.trans z) C q⟩
end
section
variable {P:km}{w:kj}{K:AAB}{mg:Str->zt zx}{base:ki}
def aG {x qual:Str}{st:Stmt}{f:zu}{i:FuncData}{d:Int}{N ps:zy Str}{k n:Nat}{b:AS}(F:Q0 K x qual st f i d)(S:DS N ps (As st))(j:n=ps.length)(l:∀(a:zx) (A:kf) (outer:zy Env) (s:zw) (H:Hp) (E:XK),Room k (A.deeper (envOfC qual (As st) s.heap.objs.size f a))-> YA (O2 Mr P w K mg base N qual (As st) f a A outer s H E).nox (B8 st) b):Dp P w K mg base Mr (k+1) f i ps (CH K n (Ak N.length b)):=by
 refine F.ok S (λvs H Q E h=> ?_) (λa A outer s H vs Q E m h=> ?_)
 .obtain ⟨T,M,xs,o,_,_,r,hl,_⟩:=h;rw[r.length,hl,j]
 .obtain ⟨T,M,xs,o,va,c,r,hl,hF,hQ⟩:=h;obtain⟨t,p,u⟩:=l a A outer s H E m;refine⟨t,p,u ⟨T,H,M⟩ T _ _ H _ _ (Ub va c r) hF ⟨λe g σ' τ' _ y q=> ?_,λ_ _ _ _ _ _ q=>q.elim,λ_ _ _ _ _ _ q=>q.elim,λv x e g z B q=>hQ v x e g z B q⟩⟩;exact hQ _ _ e g y.st .non q
end
end PL
namespace L2
open PySem PySem.Spec PyProof.Rows PySem.W
theorem ints_of {P:km}{w:kj}:∀{vs:zy (B6×zx)} {m:zy (Int×Int)} {a:zy zx},KV (m.map λp=>((.inl p.1:B6),V.int p.2)) vs->a.length=vs.length->(∀(j:Nat) v,a[j]? =some v->∃k x,vs[j]? =some (k,x)/\(Aw P w).is k v=true)->IntsAre a (m.map (·.1))
 | [], [], [],_,_,_=> .nil
 | [], [],u::a,_,hl,_=>by simp at hl
 | v::vs,m::ms, [],_,hl,_=>by simp at hl
 | v::vs,m::ms,u::a,r,hl,h=>by
   cases r with
   | cons c d=> obtain⟨k,x,f,g⟩:=h 0 u rfl;cases f;obtain⟨b,_⟩:=c;dsimp only at b;subst b;have q:RelV (kV (.inl m.1)) u:=am g;obtain⟨t,rfl⟩:=q;exact .cons _ t (ints_of d (by simpa using hl) λj v e=>by simpa using h (j+1) v (by simpa using e))
def V6:zy V->Hp->VK->Prop:=λxs H Q=>∃a o es ep,∃m:zy (Int×Int),xs= [.ref a] /\H a=some (.frz o (.dK (m.map λp:Int×Int=>((.inl p.1:B6),V.int p.2))))/\o.data= .dict es ep/\m.length<64/\∀(p:zu) (ns:zy Int),H p=none->ns.Perm (m.map (·.1))->ns.Pairwise (· <= ·)->Q (.ref p) (upd H p (.lst (ns.map V.int)))
section
variable {X:Cx}
def O0 {P:km}{w:kj}{A:kf}{E:zx->zw->Prop}{s:zw}{T:String}{r d:zu}{n:Nat}{j:Nat->zx->Prop}{u:ki->Prop}{R:zy zx->zw->Prop}(K:KdlSrc P w T r d n j u)(z:A.handled=none)(hok:u s.heap)(B:n<=sizeLine)(h:∀(h':ki) (g:Nat) (a:Array zx),s.heap.objs.size<=h'.objs.size->(∀b o,s.heap.get? b=some o->h'.get? b=some o)->ItemsOf j a n->R a.toList {s with heap:=h',toks:=g}):wpAny (model P w) A (collect (.ref r)) R E s:=by
 obtain⟨C,D⟩:=K.there _ hok;unfold collect;refine AAA (wpAny_runValue (ADs entry_proto_collect' ?_));rw[Around.under_plainId PySem.F.plain_proto_collect _];refine AAA (m:=newList []) (ABF ?_);refine AAD ⟨plainId_quiet AEM _,ADs entry_list_iadd' ?_⟩;rw[Around.under_plainId AEM _];have k:(s.heap.push {cls:= .type "list",data:= .seq ([] :zy zx).toArray}).get? s.heap.objs.size=some {cls:= .type "list",data:= .seq #[] }:=AAP _ rfl;have l:∀(h':ki) (g:Nat) (a:Array zx) (c:Nat),(∀b o,b≠s.heap.objs.size->(s.heap.push {cls:= .type "list",data:= .seq ([] :zy zx).toArray}).get? b=some o->h'.get? b=some o)->h'.get? s.heap.objs.size=some {cls:= .type "list",dict:=none,data:= .seq a c,slots:= #[] }->ItemsOf j a n->
  wpAny (model P w) A (load s.heap.objs.size >>= λo=>match o.data with | .seq xs _=>pure xs.toList|_=>unsupported "internal:collect") R E {s with heap:=h',toks:=g}:=λh' g a c p i it=>
  AAA (wpAny_load i (AAD (h h' g a (AB8 (AAG i)) (λb o e=>p b o (AAM (AAG e)) (AAH _ e)) it)))
 refine ABL (kdl_extend (A:=A) (s:={s with heap:=s.heap.push {cls:= .type "list",data:= .seq ([] :zy zx).toArray}}) (R:=λq t=>match q with | .ok (.ret v)=>v= .ref s.heap.objs.size/\wpAny (model P w) A (load s.heap.objs.size >>= λo=>match o.data with | .seq xs _=>pure xs.toList|_=>unsupported "internal:collect") R E t|_=>False)
  K z (K.keep _ _ hok λb _ o e=>AAH _ e) s.heap.objs.size (AAw C) (AAw D) (.ref s.heap.objs.size) 0 k (λh' g a c p i it=>⟨rfl,l h' g a c p i it⟩) B) (λf t x=> ?_) λe t x=>x.elim
 cases f with
 | done f=>
   cases f with
   | ret v=> obtain⟨rfl,y⟩:=x;exact y
   | _=>exact x.elim
 | again c=>
   refine⟨x.1,ACA x.2 λq G y=> ?_⟩;cases q with
   | error e=>exact y.elim
   | ok f=>
     cases f with
     | ret v=> obtain⟨rfl,y⟩:=y;exact y
     | _=>exact y.elim
def VE (hc:X.calm=true):B4 X (.builtin "sorted") V6:=by
 intro O s R H xs g Q I r h;obtain⟨a,o,es,ep,m,rfl,e,hd,S,q⟩:=h;obtain⟨u,rfl,C⟩:=vals1 r;cases C;have D:OW H a m.length ep (m.map λp:Int×Int=>((.inl p.1:B6),V.int p.2)):=⟨o,es,e,hd,by rw[AAK]⟩;obtain⟨vs,d,E⟩:=D.at I;have T:vs.length=m.length:=by have:=d.length;rw[AAK] at this;exact this.symm
 obtain⟨U,t2,F⟩:=RR I (.inl ⟨_, .inr ⟨o,e⟩⟩);refine Calls.call_function_entry kind_sorted plain_sorted entry_sorted (args_sorted1 _) ?_;unfold Builtin.«sorted»;refine AAA (m:=checkCount "sorted" 1 1 _) (AAD ?_);refine AAA (O0 (A:=X.A.in1) (kdl_dict (knd:=Aw X.prog X.w) (kvs:=vs) (ep:=ep) F) (I.ok.hd hc) E (by rw[ACU];omega) λh' G c l hk x=> ?_);have hl:c.toList.length=vs.length:=by rw[AB7];exact x.1
 have J:IntsAre c.toList (m.map (·.1)):=ints_of (P:=X.prog) (w:=X.w) d hl λj v z=>x.2 j v (by rw[<-Array.getElem?_toList];exact z);refine AAA (wpAny_newList ?_ (by rw[hl,ACU];omega));have f:(h'.push (seqObj "list" c.toList.toArray 0)).get? h'.objs.size=some (seqObj "list" c.toList.toArray 0):=AAP _ rfl;refine AAA (AAe (ABC slot_list_sort ⟨_,f,rfl⟩ entry_list_sort (list_sort_tree f J (by omega) λout i K y L=>⟨_,rfl, ?_⟩) (args_list_sort _)));refine AAD ⟨_,rfl, ?_⟩;obtain⟨ne,M⟩:=sortedHeap_at (out:=out) f;have hsz:h'.objs.size<(h'.push (seqObj "list" c.toList.toArray 0)).objs.size:=AAG f;have keep:∀b k,s.heap.get? b=some k->(sortedHeap (h'.push (seqObj "list" c.toList.toArray 0)) h'.objs.size c.toList out).get? b=some k:=λb k z=>by have B:=AAG (hk _ _ z);rw[sortedHeap_old (AAM B) (ACY B hsz),AAH _ (hk _ _ z)]
 have vals:∀{g:zy zx} {ns:zy Int},IntsAre g ns->At (ns.map V.int) g:=λh=>by
  induction h with
  | nil=>exact .nil
  | cons n t h N=>exact .cons ⟨t,rfl⟩ N
 refine⟨.ref _,_,I.laid (a:=h'.objs.size) (o:= .lst (i.map V.int)) (t':=G) keep l ⟨?_,out.toList,ne,vals K,by rw[M]⟩,rfl,q _ _ (I.hok.fresh l) y L⟩;rw[AAK,y.length_eq,AAK,ACU];omega
end
end L2
namespace PL
open PySem PySem.Spec PyProof.Rows L2
def aM:AF:=λxs Q=>match xs with | [.dk m] =>m.length<64/\∀ns:zy Int,ns.Perm (m.map (·.1))->ns.Pairwise (· <= ·)->Q (.lst (ns.map PV.int))|_=>False
theorem QN {K:AAB}{T M:zu->Prop}{H:Hp}:∀ns:zy Int,Ax K T M H (ns.map V.int) (ns.map PV.int)
 | [] => .nil
 | n::ns=> .cons (.int n) (QN ns)
def cM {X:Cx}(hc:X.calm=true):B4 X (.builtin "sorted") V6/\EZ X.K V6 aM:=by
 refine⟨VE hc,λT M H vs xs Q g va r h k=> ?_⟩;match xs,r,h with
 | [.dk m], .cons (.dk (a:=a) (o:=o) (es:=es) (ep:=ep) hh e) .nil,h=>
   refine⟨a,o,es,ep,m,rfl,hh,e,h.1,λp ns hp b c=> ?_⟩;have l:=C9.lay (o:= .lst (ns.map V.int)) va.tp hp;have d:¬T p:=λz=>by obtain⟨o,e,_⟩:=(va.tp p z).mut;rw[hp] at e;cases e
   have f:¬M p:=λz=>by obtain⟨o,e,_⟩:=va.mu p z;rw[hp] at e;cases e
   exact k _ _ T _ l (.lst Aj d f (QN ns)) (h.2 ns b c)
end PL
namespace L2
open PySem PySem.Spec PyProof.Rows
def rC (d:zu)(n ep:Nat):It:=
 ⟨λi H=>∃kvs k x,OW H d n ep kvs/\kvs[i]? =some (k,x),
  λi H v a=>a=H/\∀kvs,OW H d n ep kvs->∃k,kvs[i]? =some (k,v),
  λi H=>∃kvs,OW H d n ep kvs/\kvs.length<=i⟩
def ZM {P:km}{w:kj}{K:AAB}{B:zr}{it d:zu}{n ep:Nat}:Lb P w K B (rC d n ep) [it] it (λk h=>h.IsValIter it d k n ep) where
 mem:=by simp
 obj:=λk h st p hp=>by
  obtain⟨o,i,hc,hd⟩:=st;have c:p=it:=by simpa using hp
  subst c;exact⟨o,i,λv z=>by rw[hd] at z;cases z⟩
 keep:=λk h h' st C=>st.at λo e=>C it (by simp) o e
 item:=by
  intro X j hw l hc k t s y H E I g st m;subst j hw l;obtain⟨kvs,D,x,b,hx⟩:=m;obtain⟨vs,a,r⟩:=b.at I;have hl:vs.length=n:=by obtain⟨_,_,_,_,e⟩:=b;rw[<-e];exact a.length.symm
  subst hl;obtain⟨u,hu,F⟩:=aq a hx;refine wpAny_pyNext_values_item st r hu λh1 f G=> ?_;refine⟨_,rfl, ?_⟩;obtain⟨o,i,J,hd⟩:=id f;refine W5 (s:={s with heap:=h1}) i J hd (by decide) ?_;have L:Inv X t y H {s with heap:=h1,toks:=s.toks}:=I.turnedL (t':=s.toks) g λp o hp z=>by
   have c:p≠it:=by simpa using hp
   exact G.extBut p o c z
  exact⟨x,H,L,F,⟨rfl,λA h'=>⟨D,by rw[h'.one b];exact hx⟩⟩,f,λp hp=>(g p hp).1⟩
 done:=by
  intro X j hw l hc k t s y H E I g st m;subst j hw l;obtain⟨kvs,b,hx⟩:=m;obtain⟨vs,a,r⟩:=b.at I;have hl:vs.length=n:=by obtain⟨_,_,_,_,e⟩:=b;rw[<-e];exact a.length.symm
  have N:=a.length;subst hl;refine wpAny_pyNext_values_end (I.ok.hd hc) st r (by rw[ACr];omega) λh' M=>⟨rfl, ?_⟩;exact I.turnedL (t':=s.toks) g λp o hp z=>by
   have c:p≠it:=by simpa using hp
   exact M p o c z
 self:=λ_ _ _ _ _ st h=>wpAny_pyIter_valiter st h
section
variable {X:Cx}
def fW {A e:zr}{t:TE}{apos f:Pos}(he:PE X e t)(hb:attributeBase e "values" X.env (eval e X.env)=eval e X.env)(B:((backTo f (starEach [] X.env)).all (λx=> !x.1)&&(backToKw f (keywordEach [] X.env)).all (λx=>x.1.isSome)&&decide (([] :zy zr).length+([] :zy Keyword).length+(if ([] :zy Keyword).isEmpty then 0 else 1)<30))=true)(hl:(apos.endLine==f.line)=true)(C:backTo f (starEach [] X.env)= []):PI X A (.Call (.Attribute e "values" apos) [] [] f) (λk H R=>t k H λv H1=>∃d n ep kvs,v= .ref d/\OW H1 d n ep kvs/\R (rC d n ep) H1):=by
 intro D s k H R I h;refine ADp hb B hl ADq AEN PySem.F.type_dict_values (BJ (he D s k H _ I h) λu g ⟨x,H1,i,E,d,n,ep,kvs,ex,l,G⟩=> ?_);subst ex;obtain rfl:u=Value.ref d:=E;obtain⟨vs,m,y⟩:=l.at i;have J:vs.length=n:=by obtain⟨_,_,_,_,e⟩:=l;rw[<-e];exact m.length.symm
 obtain⟨o,K,L,Q,_⟩:=id l;obtain⟨M,t2,N⟩:=RR i (.inl ⟨kvs, .inr ⟨o,L⟩⟩);have z:g.heap.DictOf (Aw X.prog X.w) d vs:=let ⟨o,es,a,b,c,r⟩:=y;⟨o,es,ep,a,b,c,r⟩;refine⟨M,t2, ?_⟩;rw[C];refine ACw rfl (PySem.evalArgs_none ?_);refine ADB AEN z.typeIs PySem.F.entry_dict_values (PySem.F.args_dict_values_1 _) (meets_dict_values (Aw X.prog X.w) d N) ⟨⟨vs,z⟩, ?_⟩;have O:(g.heap.push {cls:= .type "dict_values",data:= .fields #[.ref d] }).DictAt (Aw X.prog X.w) d vs ep:=y.push _;refine wpAny_pyIter_values (s:={g with heap:=g.heap.push {cls:= .type "dict_values",data:= .fields #[.ref d] }}) (knd:=Aw X.prog X.w) (d:=d) ⟨_,AAP _ rfl,rfl,rfl⟩ O ?_;subst J;have j:(g.heap.push {cls:= .type "dict_values",data:= .fields #[.ref d] }).objs.size=g.heap.objs.size+1:=ABM ..;refine⟨_, [g.heap.objs.size+1],_,_,H1,congrArg Value.ref j,i.kept (t':=g.toks) λb S q=>AAH _ (AAH _ q),ZM, ?_,λp hp=> ?_,G⟩
 .have:=AAP (g.heap.push {cls:= .type "dict_values",data:= .fields #[.ref d] }) (o:={cls:= .type "dict_valueiterator",data:= .fields #[Value.ref d,Value.int 0 0,Value.int (vs.length:Int) 0,Value.int (ep:Int) 0] }) rfl;rw[j] at this;exact⟨_,this,rfl,rfl⟩
 .have P:p=g.heap.objs.size+1:=by simpa using hp
  subst P;exact i.fpOk (ACd _ _) (i.hok.fresh (ACd _ _))
end
end L2
namespace PL
open PySem PySem.Spec PyProof.Rows L2
def Yn {K:AAB}{T M:zu->Prop}{H:Hp}{d:zu}{o:Obj}{es:Array DictEntry}{ep:Nat}{m:zy (Int×Int)}(va:K6 T M H)(h:H d=some (.frz o (.dK (FR m))))(e:o.data= .dict es ep):U4 K M (rC d m.length ep) (m.map λp=> .int p.2) T H:=by
 have c:OW H d m.length ep (FR m):=⟨o,es,h,e,by unfold FR;rw[AAK]⟩;have b:∀{i:Nat} {y:PV},(m.map λp=>PV.int p.2)[i]? =some y->∃p:Int×Int,y= .int p.2/\(FR m)[i]? =some (.inl p.1, .int p.2):=λ{i y} a=>by rw[AAg] at a;obtain⟨p,hp,rfl⟩:=ACc.mp a;refine⟨p,rfl, ?_⟩;unfold FR;rw[AAg,hp];rfl
 refine⟨λi y a=> ?_,λi y v g a f=> ?_,λi hi=>⟨_,c,by unfold FR;simpa using hi⟩⟩
 .obtain ⟨p,_,hp⟩:=b a;exact⟨_,_,_,c,hp⟩
 .obtain ⟨p,rfl,hp⟩:=b a;obtain⟨rfl,hu⟩:=f;obtain⟨k,hx⟩:=hu _ c;rw[hp] at hx;cases hx;exact⟨C9.refl va.tp, .int _⟩
section
variable {X:Cx}
def nC (a:AE):AI:=λτ Q=>a τ λx=>match x with | .dk m=>Q (m.map λp=> .int p.2)|_=>False
def gG {f e:zr}{c:AE}{apos a:Pos}(he:SE X e c)(hb:attributeBase e "values" X.env (eval e X.env)=eval e X.env:=by rfl)(g:((backTo a (starEach [] X.env)).all (λx=> !x.1)&&(backToKw a (keywordEach [] X.env)).all (λx=>x.1.isSome)&&decide (([] :zy zr).length+([] :zy Keyword).length+(if ([] :zy Keyword).isEmpty then 0 else 1)<30))=true:=by rfl)(hl:(apos.endLine==a.line)=true:=by rfl)(i:backTo a (starEach [] X.env)= [] :=by rfl):SI X f (.Call (.Attribute e "values" apos) [] [] a) true (nC c):=by
 obtain⟨t,j,s⟩:=he;refine⟨_,fW j hb g hl i,λB T l τ H R r n h k=>s B T l τ H _ _ n h λv x T1 H1 o p h1=> ?_⟩;split at h1 <;> first | exact h1.elim|skip
 rename_i m;cases p with
 | dk b e=> exact⟨_,_,_,_,rfl,⟨_,_,b,e,by unfold FR;rw[AAK]⟩,k _ _ T1 H1 o (λM2 w y d va _=>Yn va (by obtain⟨t,u⟩:=d.va.noFrz b;exact d.keep _ _ t u b) e) h1⟩
end
end PL
namespace L2
open PySem PySem.Spec PyProof.Rows
def oZ:V->V->Hp->VK->Prop:=λx y H Q=>∃p xs i v,x= .ref p/\y= .int i/\0<=i/\H p=some (.lst xs)/\xs[i.toNat]? =some v/\Q v H
section
variable {X:Cx}
def aO:mq X oZ:=by intro g s j H x y k l Q I b c h;obtain⟨p,xs,i,v,rfl,rfl,d,hp,hx,q⟩:=h;cases b;obtain⟨t,rfl⟩:=c;obtain⟨e,n,r,f,m⟩:=I.lst hp;obtain⟨w,ew,a⟩:=r.get hx;have hl:=r.length;have o:=Nd;have u:i.toNat<xs.length:=(AAz.mp hx).1;exact wpAny_getItem_list (x:=w) ⟨_,f,rfl,n,rfl⟩ d (by omega) (by simpa using ew) ⟨v,H,I,a,q⟩
end
end L2
namespace PL
open PySem PySem.Spec PyProof.Rows L2
section
variable {X:Cx}{e:zr}{ta:AE}{pos:Pos}
def g6 (i:Nat)(c ta:AE):AS:=λD τ=>Lf i τ λxs=>c τ λk=>Sf k λk=>0<=k/\k<xs.length/\Sf (xs.getD k.toNat .non) λa=>ta τ λy=>Sf y λb=>D.nx (τ.set i (some (.own (xs.set k.toNat (.int (a+b))))))
def gS {i:Nat}{x:Str}{ix:zr}{C:AE}{p d:Pos}(hi:SE X ix C)(he:SE X e ta)(hN:X.N[i]? =some x:=by rfl)(hv:gy X.env.scope x:=by first | exact Or.inl rfl|exact Or.inr (Or.inl rfl)|exact Or.inr (Or.inr rfl))(hd:(x==("__debug__" :Str))=false:=by decide)(P:(x==("__classdict__" :Str))=false:=by decide)(ha:∀g j new,augStore ix g j new=(do holding [new,g,j] (setItem g j new);release [new,g,j] [];pure .next):=by intros;rfl):SS X (.AugAssign (.Subscript (.Name x p) ix d) .Add e pos) (g6 i C ta):=by
 obtain⟨t,Q,s⟩:=hi;obtain⟨t',n,R⟩:=he;refine⟨_,fj (Ny hN hv hd P) Q aO n jd Jb ha,λB T E τ H D AD l h S=> ?_⟩;obtain⟨xs,e,h⟩:=Q4 h;obtain⟨q,vs,F,hp,G,b0,I,nb⟩:=l.own i xs e;refine⟨.ref q,F,s B T E τ H _ _ l h λw k T1 H1 f U h1=> ?_⟩;obtain⟨k,rfl,h1⟩:=Gf h1;obtain⟨J,k1,h1⟩:=h1;obtain⟨a,K,h1⟩:=Gf h1;cases U.toI;have c:=l.stp f;have L:=f.keep _ _ I hp;have M:=G.stp f l.va;have o:k.toNat<xs.length:=by omega
 have W:k.toNat<vs.length:=by rw[G.length];exact o
 have Y:xs[k.toNat]? =some (.int a):=by rw[ACE,AAW o,ADE] at K;rw[AAW o,K]
 obtain⟨u,Z,ru⟩:=M.get Y;cases ru.toI;refine⟨q,vs,k,_,rfl,rfl,J,L,Z,R B T1 E τ H1 _ _ c h1 λw2 y T2 H2 m r4 h2=> ?_⟩;obtain⟨b,rfl,h2⟩:=Gf h2;cases r4.toI;have O:=m.keep _ _ (λz=>by
  rcases f.new q z with z|z
  .exact I z
  .rw [hp] at z;cases z) L
 have r:=c.stp m;obtain⟨v,A⟩:=r.write (i:=i) (xs:=xs) e F O (Ax.set (.int (a+b)) k.toNat (M.stp m c.va));refine⟨a,b,rfl,rfl,q,vs,k,k.toNat,rfl,rfl,O, ?_,S.nx T2 _ _ _ ((f.trans m).prog.trans A) v h2⟩;unfold XI;rw[AAE J,AAE (by omega)]
end
def u5 (a b:AE):AE:=λτ Q=>a τ λx=>fE x λm=>b τ λy=>Sf y λk=>∃v,m.lookup k=some v/\Q (.int v)
theorem Ug {k v:Int}:∀{m:zy (Int×Int)},m.lookup k=some v->Ji (FR m) (.inl k:B6)=some (.int v)
 | [],h=>by cases h
 | p::m,h=>by
   by_cases e:p.1=k
   .subst e;simp[List.lookup] at h;subst h;exact G8 (p:=((Sum.inl p.1:B6),V.int p.2)) rfl
   .have a:(k==p.1)=false:=by simpa using λz=>e z.symm
    obtain⟨b,c⟩:=p;simp only[List.lookup,a] at h;refine(G7 (p:=((Sum.inl b:B6),V.int c)) (r:=FR m) (k:=(Sum.inl k:B6)) λz=>e ?_).trans (Ug h);cases z;rfl
section
variable {X:Cx}
def pK {o i:zr}{e f:AE}{pos:Pos}{k:Nat}(n:Room k X.A)(p:SE X o e)(hi:SE X i f)(hs:ie i):SE X (.Subscript o i pos) (u5 e f):=by
 obtain⟨t,r,s⟩:=p;obtain⟨t',b,u⟩:=hi;refine⟨_,fR (tQ n) r b hs,λB T g τ H Q G c h k=>s B T g τ H _ _ c h λv x T1 H1 d w h1=> ?_⟩;cases x <;> first | exact h1.elim|skip
 rename_i m;cases w;rename_i a z es ep I j;refine u B T1 g τ H1 _ _ (c.stp d) h1 λJ y C D l E h2=> ?_;obtain⟨i,rfl,v,hv,h2⟩:=Gf h2;cases E.toI;obtain⟨F,_⟩:=(c.stp d).va.noFrz j;exact⟨a, .int v,rfl, .inl ⟨FR m, .inl i, .inr ⟨z,l.keep _ _ F j⟩,rfl,(Ug hv).symm⟩,k _ _ C D (d.trans l) (.int v) h2⟩
end
section
variable {X:Cx}{a b c:zr}{ta tb tc:AE}{pos:Pos}
def qK (f d:HQ)(ta tb tc:AE):AE:=λτ Q=>ta τ λx=>tb τ λy=>f x y λz=>bI z λk=>if k=true then tc τ λw=>d y w Q else Q (.bl false)
def lN {r p:R2}{f A:HQ}{t u v:TE}(F:Bs X.K r f)(G:Bs X.K p A)(ha:HR X.K t ta)(hb:HR X.K u tb)(hc:HR X.K v tc):HR X.K (cj r p t u v) (qK f A ta tb tc):=by
 intro B T m τ H Q I s h k;refine ha B T m τ H _ _ s h λJ x T1 H1 e L h1=> ?_;refine hb B T1 m τ H1 _ _ (s.stp e) h1 λC y M N g D h2=> ?_;have n:=(s.stp e).stp g;refine F M _ N J C x y _ _ n.va (L.stp g (s.stp e).va) D h2 λw z T3 E j O q=> ?_;obtain⟨i,rfl,l⟩:=Nw q;clear q;refine⟨i,O.toB, ?_⟩;have d:=n.stp j;cases i with
 | false=> rw[AAC (by decide)] at l ⊢;exact k _ _ T3 E ((e.trans g).trans j) (.bl false) l
 | true=> rw[AAE rfl] at l ⊢;refine hc B T3 m τ E _ _ d l λP y4 R S o U W=> ?_;exact G R _ S C P y y4 Q I (d.stp o).va ((D.stp j n.va).stp o d.va) U W λw z Y Z s5 r5 q=>k w z Y Z (((e.trans g).trans j).trans (o.trans s5)) r5 q
def pJ {op d:CmpOp}{r e:R2}{f g:HQ}(h:Dq X (compareOp op) r/\Bs X.K r f)(i:Dq X (compareOp d) e/\Bs X.K e g)(ha:SE X a ta)(hb:SE X b tb)(hc:SE X c tc)(j:lastMarks [op,d] [b,c] =false:=by with_unfolding_all rfl):SE X (.Compare a [op,d] [b,c] pos) (qK f g ta tb tc):=
 let ⟨_,p,s⟩:=ha;let ⟨_,k,l⟩:=hb;let ⟨_,m,n⟩:=hc;⟨_,bW h.1 i.1 p k m j,lN h.2 i.2 s l n⟩
end
instance{f a:HQ}{b c d:AE}{τ:BA}{Q:PV->Prop}:Wp (qK f a b c d τ Q) (b τ λx=>c τ λy=>f x y λz=>bI z λk=>if k=true then d τ λw=>a y w Q else Q (.bl false)):=⟨id⟩
end PL
namespace PL
open PySem L2 PyProof.Rows
variable {X:Cx}
def fL:Dq X (compareOp .IsNot) (λx y H Q=>∃b c,x= .bl b/\y= .bl c/\Q (.bl (!(b==c))) H):=by intro e s f H x y v u Q I a d h;obtain⟨b,c,rfl,rfl,q⟩:=h;cases a;cases d;refine wpAny_isNot_plain rfl (A6 I q ?_);cases b <;> cases c <;> rfl
def aE:HQ:=λx y Q=>match x,y with | .bl b, .bl c=>Q (.bl (!(b==c)))|_,_=>False
def gQ:Dq X (compareOp .IsNot) (λx y H Q=>∃b c,x= .bl b/\y= .bl c/\Q (.bl (!(b==c))) H)/\Bs X.K (λx y H Q=>∃b c,x= .bl b/\y= .bl c/\Q (.bl (!(b==c))) H) aE:=by
 refine⟨fL,λT M H u v x y Q d va a rv h k=> ?_⟩;cases x <;> first | exact h.elim|skip
 cases y <;> first | exact h.elim|skip
 cases a;cases rv;exact⟨_,_,rfl,rfl,k _ _ T H (.refl va.tp) (.bl _) h⟩
variable {Q:PV->Prop}{b:kn}
instance:Wp (aE (.bl b) (.bl true) Q) (Q (.bl (!b))):=⟨λh=>by cases b <;> exact h⟩
end PL
namespace PL
open PySem PySem.Spec PyProof.Rows L2
section
variable {X:Cx}{a b c d e:zr}{ta tb tc td:AE}{pos:Pos}
def Be (ha:SE X a ta)(h:starEach [a] X.env=(false,eval a X.env)::starEach [] X.env:=by rfl):SA X [a] (AB ta AL):=BN ha KW h
def Ap (ha:SE X a ta)(hb:SE X b tb)(h:starEach [a,b] X.env=(false,eval a X.env)::starEach [b] X.env:=by rfl)(h2:starEach [b] X.env=(false,eval b X.env)::starEach [] X.env:=by rfl):SA X [a,b] (AB ta (AB tb AL)):=BN ha (Be hb h2) h
def DL (ha:SE X a ta)(hb:SE X b tb)(hc:SE X c tc)(h:starEach [a,b,c] X.env=(false,eval a X.env)::starEach [b,c] X.env:=by rfl)(h2:starEach [b,c] X.env=(false,eval b X.env)::starEach [c] X.env:=by rfl)(h3:starEach [c] X.env=(false,eval c X.env)::starEach [] X.env:=by rfl):SA X [a,b,c] (AB ta (AB tb (AB tc AL))):=BN ha (Ap hb hc h2 h3) h
def AU (ha:SE X a ta)(hb:SE X b tb)(hs:Q1 b:=by exact λ_ _=>rfl):SE X (.Subscript a b pos) (AX Ae ta tb):=pL pN ha hb hs
def Fd {op:CmpOp}{r:R2}{f:HQ}(g:Dq X (compareOp op) r/\Bs X.K r f)(ha:SE X a ta)(hb:SE X b tb)(h:behindInMarks op b=false:=by exact Bg _):Wh X (.Compare a [op] [b] pos) (Ay (AX f ta tb)):=lT g ha hb h
def C7 (i:Nat){x:Str}{pos':Pos}(hN:X.N.Nodup)(he:SE X e ta)(hi:X.N[i]? =some x:=by rfl)(hx:Loc X.env.scope x:=by exact Or.inl rfl)(hs:swapsWith e (some (.Name x pos')) pos.line X.env=pure false:=by rfl)(f:X.fn x=true\/X.env.scope.names.lookup x=some .local:=by first | exact .inl rfl|exact .inr rfl|assumption):SS X (.Assign [.Name x pos'] e pos) (An ta (Ar i)):=FH hN hi hx he hs f
def Dt (i:Nat){x:Str}(hN:X.N.Nodup)(hi:X.N[i]? =some x:=by rfl)(hx:Loc X.env.scope x:=by exact Or.inl rfl)(f:X.fn x=true\/X.env.scope.names.lookup x=some .local:=by first | exact .inl rfl|exact .inr rfl|assumption):SG X (.Name x pos) (Ar i):=SL hN hi hx f
def Ka (i:Nat){own:Nat}{x:Str}(hN:X.N.Nodup)(hi:X.N[i]? =some x:=by rfl)(hx:Loc X.env.scope x:=by exact Or.inl rfl)(hk:i<own:=by decide)(f:X.fn x=true\/X.env.scope.names.lookup x=some .local:=by first | exact .inl rfl|exact .inr rfl|assumption):SK own X (.Name x pos) (Ar i):=gN hN hi hx hk f
end
def map_pair {a b c:Type}{o:zt a}{f:a->b}{g:a->c}{x:b}{y:c}(h1:o.map f=some x)(h2:o.map g=some y):o.map (λs=>(f s,g s))=some (x,y):=by
 cases o with
 | none=>cases h1
 | some s=>cases h1;cases h2;rfl
def map5 {a A B C D E:Type}{o:zt a}{F:a->A×B×C×D×E}{X:A×B×C×D×E}(h1:o.map (λs=>(F s).1)=some X.1)(h2:o.map (λs=>(F s).2.1)=some X.2.1)(h3:o.map (λs=>(F s).2.2.1)=some X.2.2.1)(b:o.map (λs=>(F s).2.2.2.1)=some X.2.2.2.1)(c:o.map (λs=>(F s).2.2.2.2)=some X.2.2.2.2):o.map F=some X:=by
 cases o with
 | none=>cases h1
 | some s=>exact congrArg some (ABq (AAX h1) (ABq (AAX h2) (ABq (AAX h3) (ABq (AAX b) (AAX c)))))
def BI {P:km}{w:kj}{K:AAB}{mg:Str->zt zx}{base:ki}{k a:Nat}{x:Str}{ps:zy Str}{sp:Sp}(H:Has P w K mg base k x ps sp)(h:k<=a:=by decide):Has P w K mg base a x ps sp:=H.mono h
end PL
open PySem L2 PL PyProof.Rows
local macro_rules | `(tactic| decreasing_trivial_pre_omega)=> `(tactic| first | assumption|omega|((apply Bd.mono);(focus (repeat' (first | assumption|exact GC.m (by assumption)|exact GC.x (by assumption)|exact GC.y (by assumption)|exact GC.z (by assumption)|exact qN|exact u8|with_reducible apply Bd.add|with_reducible apply Bd.sub|with_reducible apply Bd.mul|with_reducible apply Bd.neg|with_reducible apply Bd.mx|with_reducible apply Bd.mn)));first | omega|decide)|decide|(simp only [List.length_map,List.length_append,List.length_cons,List.length_nil,List.length_take,List.length_drop,List.length_zip,List.length_reverse];omega)|(show _<=16777216;simp only [List.length_map,List.length_append,List.length_cons,List.length_nil,List.length_take,List.length_drop,List.length_zip,List.length_reverse];omega)|(show _<16777216;simp only [List.length_map,List.length_append,List.length_cons,List.length_nil,List.length_take,List.length_drop,List.length_zip,List.length_reverse];omega)|(refine And.intro ?_ ?_ <;> decreasing_trivial_pre_omega)|exact rfl)
local macro_rules | `(tactic| array_mem_dec)=> `(tactic| first
 | refine Wp.go ?_
 | ((refine ZU.go ?_ ?_);focus (first | exact True.intro|decreasing_trivial_pre_omega))
 | ((with_reducible apply And.intro);focus decreasing_trivial_pre_omega)
 | ((with_reducible apply kh);focus decide)
 | ((with_reducible apply kg);focus decide)
 | ((with_reducible apply ko);focus decide)
 | ((with_reducible apply s_ifnF);focus decide)
 | refine rL.go (λ_=> ?_) (λ_=> ?_)
 | ((with_reducible apply kr);focus assumption)
 | ((with_reducible apply Xg);focus exact rfl)
 | ((with_reducible apply pG);(focus (first | exact .inl rfl|exact .inr (.inl rfl)|exact .inr (.inr (.inl rfl))|exact .inr (.inr (.inr rfl))));(focus exact rfl))
 | ((with_reducible apply pD);focus exact rfl)
 | ((with_reducible apply pC);focus exact rfl)
 | intro _
 | with_reducible rfl)
local macro_rules | `(tactic| array_get_dec)=> `(tactic| first | array_mem_dec|refine u4.go ?_|fail)
local macro_rules | `(tactic| ac_rfl)=> `(tactic| repeat' array_mem_dec)
namespace PL
open PySem L2 PyProof.Rows
abbrev Wa:AS:=
 (Ao (Aq (AB (aV 0) (AB (aC (.int 1)) AL))))
def HC:AF:=Ak 1 Wa
def ZD {a:PV}{Q:PV->Prop}(h:Wa ⟨λ_=>Q .non,Q,λ_=>False,λ_=>False⟩ [some (.val a)]):HC [a] Q:=h
instance{k:Int}{Q:PV->Prop}:Wp (HC [.int k] Q) (Q (fr (k:Rat))):=⟨λh=>by
 apply ZD;repeat' array_get_dec
 exact h⟩
def Hu.open {n B:Nat}{cs:zy C4}(p:Hu n B cs):∃a r l,cs=a::r/\r≠ [] /\(a::r).getLast?=some l/\a.1<l.1:=by
 obtain⟨c,d,e,b⟩:=p;match cs,c,b with
 | a::b0::r,_,b=>exact⟨a,b0::r,_,rfl,by simp,ADu (by simp),(AAN.mp b).1 _ (ACg (Yq (ADu (by simp))))⟩
abbrev MV:AS:=
 (Ao (Aq (AB (YB NJ (AX Ae (aV 0) (aC (.int 0)))) (AB (AX Ae (aV 0) (aC (.int 1))) AL))))
def CY:AF:=Ak 1 MV
def R6 {a:PV}{Q:PV->Prop}(h:MV ⟨λ_=>Q .non,Q,λ_=>False,λ_=>False⟩ [some (.val a)]):CY [a] Q:=h
abbrev Pg:AS:=
 (Ao (g9 (Ay (AX NI (aV 1) (aC (.int 2)))) (AX Ae (aV 0) (aC (.int 1))) (AX Ae (aV 0) (aC (.int 0)))))
def Cn:AF:=Ak 2 Pg
def UU {a b:PV}{Q:PV->Prop}(h:Pg ⟨λ_=>Q .non,Q,λ_=>False,λ_=>False⟩ [some (.val a),some (.val b)]):Cn [a,b] Q:=h
abbrev On:AS:=
 (Ab (An (AN 2 EB (AB (AN 2 Cn (AB (AX Ae (aV 0) (aC (.int 1))) (AB (aV 4) AL))) (AB (AN 2 Cn (AB (AX Ae (aV 1) (aC (.int 1))) (AB (aV 4) AL))) AL))) (Ar 5))
   (GX 3 Ng (AB (AN 2 EB (AB (AN 2 Cn (AB (aV 2) (AB (aV 4) AL))) (AB (aV 5) AL))) AL)))
abbrev Oo:AS:=
 (Ab (Fk (Q6 (AB (aC (.int 3)) AL)) (Ar 4) On)
   (Ao (aV 3)))
abbrev Mh:AS:=
 (Ab (Le (FP AL) 3)
   Oo)
def EY:AF:=Ak 6 Mh
def R9 {a b c:PV}{Q:PV->Prop}(h:Mh ⟨λ_=>Q .non,Q,λ_=>False,λ_=>False⟩ [some (.val a),some (.val b),some (.val c),none,none,none]):EY [a,b,c] Q:=h
def X2 (b:T3)(v:PV):Prop:=v=Kq b\/v= .lst [fr b.1,fr b.2.1,fr b.2.2]
def J1 (cs:zy C4)(b:T3)(v:PV):Prop:=∃p w,GD cs p/\X2 b w/\(v= .tup [p,w] \/v= .lst [p,w])
def Ze (d:Rat×Rat)(v:PV):Prop:=v= .tup [fr d.1,fr d.2] \/v= .lst [fr d.1,fr d.2]
def jv (r:Rat):PV.tup [.int (-r.num), .int r.den] =fr (-r):=by unfold fr;rw[Rat.neg_num,Rat.neg_den]
def Ge {r:Rat}{Q:PV->Prop}(q:Q (fr (-r))):CY [fr r] Q:=by
 apply R6;repeat' array_get_dec
 rw[jv];exact q
def c0 {x:PV}{c:C4}{R:PV->Prop}(hx:x=cor c\/x=corL c)(h:R (fr c.1)):Ae x (.int 0) R:=by rcases hx with rfl|rfl <;> exact h
def f0 {cs:zy C4}{b:T3}{v:PV}{R:PV->Prop}(hv:J1 cs b v)(h:∀p,GD cs p->R p):Ae v (.int 0) R:=by obtain⟨p,w,hp,hw,hv⟩:=hv;rcases hv with rfl|rfl <;> exact h p hp
def f1 {cs:zy C4}{b:T3}{v:PV}{R:PV->Prop}(hv:J1 cs b v)(h:∀w,X2 b w->R w):Ae v (.int 1) R:=by obtain⟨p,w,hp,hw,hv⟩:=hv;rcases hv with rfl|rfl <;> exact h w hw
def b2 {b:T3}{w:PV}{R:PV->Prop}(hw:X2 b w)(h:R (fr b.2.2)):Ae w (.int 2) R:=by rcases hw with rfl|rfl <;> exact h
def Nf {k n:Nat}(h:k<=n)(a:n<1000000):k<sizeLine:=AAf h (AAV a (ABP rfl))
def szs (b e:T3)(d:Rat×Rat):T3:=(d.1+(b.1+e.1),d.1+(b.1+e.1),d.2+(b.2.1+e.2.1))
def Xm {w:PV}{x y:Rat}{k:Int}(a:∀{R:PV->Prop},R (fr x)->Ae w (.int 0) R)(h1:∀{R:PV->Prop},R (fr y)->Ae w (.int 1) R){Q:PV->Prop}(q:Q (fr (if k=2 then y else x))):Cn [w, .int k] Q:=by
 apply UU;ac_rfl
 .rename_i h;rw[AAE h] at q;exact h1 q
 .rename_i h;rw[AAC h] at q;exact a q
def TB {b:T3}{w:PV}{k:Int}(hw:X2 b w){Q:PV->Prop}(q:Q (fr (if k=2 then b.2.1 else b.1))):Cn [w, .int k] Q:=
 Xm (λh=>by rcases hw with rfl|rfl <;> exact h) (λh=>by rcases hw with rfl|rfl <;> exact h) q
def Z3 {d:Rat×Rat}{w:PV}{k:Int}(hw:Ze d w){Q:PV->Prop}(q:Q (fr (if k=2 then d.2 else d.1))):Cn [w, .int k] Q:=
 Xm (λh=>by rcases hw with rfl|rfl <;> exact h) (λh=>by rcases hw with rfl|rfl <;> exact h) q
def cZ {cs ds:zy C4}{b e:T3}{d:Rat×Rat}{v w u:PV}(hv:J1 cs b v)(hw:J1 ds e w)(hu:Ze d u)(l:Hi 100 b)(m:Hi 100 e)(F:Bd 100 d.1)(b2:Bd 100 d.2){Q:PV->Prop}(q:Q (.lst [fr (szs b e d).1,fr (szs b e d).2.1,fr (szs b e d).2.2])):EY [v,w,u] Q:=by
 have s:=l.x;have f:=l.y;have ex:=m.x;have z:=m.y;have G:=s.add ex;have H:=f.add z;apply R9;ac_rfl;have bk:∀k:Int,Bd 100 (if k=2 then b.2.1 else b.1):=λk=>by split <;> assumption
 have A:∀k:Int,Bd 100 (if k=2 then e.2.1 else e.1):=λk=>by split <;> assumption
 have B:∀k:Int,Bd 100 (if k=2 then d.2 else d.1):=λk=>by split <;> assumption
 refine W0 (λi τ=>∃a c,τ= [some (.val v),some (.val w),some (.val u),some (.own ((List.range i).map λk:Nat=>fr ((if (k:Int)=2 then d.2 else d.1)+((if (k:Int)=2 then b.2.1 else b.1)+(if (k:Int)=2 then e.2.1 else e.1))))),a,c]) ?_ ?_ ⟨_,_,rfl⟩
 .rintro τ ⟨a,c,rfl⟩;ac_rfl;exact q
 .rintro i hi τ R o ⟨a,c,rfl⟩;have I:i<3:=hi;have g:∀a c,R [some (.val v),some (.val w),some (.val u),some (.own (((List.range i).map λk:Nat=>fr ((if (k:Int)=2 then d.2 else d.1)+((if (k:Int)=2 then b.2.1 else b.1)+(if (k:Int)=2 then e.2.1 else e.1)))) ++ [fr ((if (i:Int)=2 then d.2 else d.1)+((if (i:Int)=2 then b.2.1 else b.1)+(if (i:Int)=2 then e.2.1 else e.1)))])),a,c] :=λa c=>o _ ⟨a,c,by rw[List.range_succ,ABz];rfl⟩;clear o;have h:=bk i;have j:=A i;have C:=B i;have J:=h.add j;have D:((List.range i).map λk:Nat=>fr ((if (k:Int)=2 then d.2 else d.1)+((if (k:Int)=2 then b.2.1 else b.1)+(if (k:Int)=2 then e.2.1 else e.1)))).length<=3:=by rw[AAK,List.length_range];omega
  generalize ((List.range i).map λk:Nat=>fr ((if (k:Int)=2 then d.2 else d.1)+((if (k:Int)=2 then b.2.1 else b.1)+(if (k:Int)=2 then e.2.1 else e.1))))=L at *;have E:(0:Int)+i=i:=by omega
  rw[E];ac_rfl;refine f1 hv λx hx=> ?_;ac_rfl;refine TB hx ?_;ac_rfl;refine f1 hw λx hx=> ?_;ac_rfl;refine TB hx ?_;generalize (if (i:Int)=2 then b.2.1 else b.1)=p at *;generalize (if (i:Int)=2 then e.2.1 else e.1)=r at *;ac_rfl;refine Z3 hu ?_;generalize (if (i:Int)=2 then d.2 else d.1)=t at *;ac_rfl;refine⟨Nf (n:=3) D (by decide), ?_⟩;ac_rfl;exact g _ _
abbrev C2 (cs:zy C4)(b:T3):PV:= .tup [A8 cs, .tup [fr b.1,fr b.2.1,fr b.2.2]]
end PL
namespace PL.K31
open PySem L2 PL PyProof.Rows
abbrev Jk:AS:=
 (Ab (B3 (Ay (AX NI (AN 2 A2 (AB (aV 0) (AB (aC (.int 2)) AL))) (aC (.int 0)))) (Ao (Aq (AB (Aq (AB (aC (.int 0)) (AB (aC (.int 1)) AL))) (AB (Aq (AB (aC (.int 0)) (AB (aC (.int 1)) AL))) (AB (Aq (AB (aC (.int 0)) (AB (aC (.int 1)) AL))) AL))))) BE)
   (Ao (Aq (AB (AX Ae (aV 1) (AN 2 A2 (AB (aV 0) (AB (aC (.int 4)) AL)))) (AB (AX Ae (aV 1) (AN 2 A2 (AB (aV 0) (AB (aC (.int 4)) AL)))) (AB (AX Ae (aV 1) (AN 2 A2 (AB (aV 0) (AB (aC (.int 6)) AL)))) AL))))))
abbrev HX:AS:=
 (Ab (An (GW (FP (AB (Aq (AB (aC (.int 0)) (AB (aC (.int 1)) AL))) (AB (Aq (AB (aC (.int 1)) (AB (aC (.int 2)) AL))) (AB (Aq (AB (aC (.int 1)) (AB (aC (.int 1)) AL))) (AB (Aq (AB (aC (.int 1)) (AB (aC (.int 3)) AL))) (AB (Aq (AB (aC (.int 3)) (AB (aC (.int 1)) AL))) (AB (Aq (AB (aC (.int 40)) (AB (aC (.int 1)) AL))) AL)))))))) (Ar 1))
   Jk)
def CI:AF:=Ak 2 HX
def Lp {a:PV}{Q:PV->Prop}(h:HX ⟨λ_=>Q .non,Q,λ_=>False,λ_=>False⟩ [some (.val a),none]):CI [a] Q:=h
abbrev Jo:AS:=
 (Ab (Fk (M9 (aV 1)) (Ar 7) (GX 6 Ng (AB (AX Ct (Aq (AB (AN 2 BQ (AB (AX Ae (aV 7) (aC (.int 0))) (AB (aV 3) AL))) AL)) (Fc Cw (AB (GW (Bx (Q6 (AB (aC (.int 3)) AL)) 1 [7,5] (Ar 0) Ea (AN 2 BQ (AB (AX Ae (aV 1) (AX Ct (aV 0) (aC (.int 1)))) (AB (AX Ae (aV 2) (aV 0)) AL))))) AL))) AL)))
   (An (dm (Fc Cw (AB (aV 6) AL))) (Ar 2)))
abbrev Jn:AS:=
 (Ab (Le (FP AL) 6)
   Jo)
abbrev Jm:AS:=
 (Ab (An (GW (Bx (Q6 (AB (aC (.int 3)) AL)) 1 [4,0] (Ar 0) Ea (AX Ae (aV 1) (AN 2 A2 (AB (aV 2) (AB (aC (.int 6)) AL)))))) (Ar 5))
   Jn)
abbrev Jl:AS:=
 (Ab (An (GW (FP (AB (AN 1 A1 (AB (aV 0) AL)) (AB (Aq (AB (aC (.int 0)) (AB (aC (.int 1)) AL))) (AB (AN 1 A1 (AB (aV 0) AL)) (AB (Aq (AB (aC (.int 1)) (AB (aC (.int 1)) AL))) (AB (Aq (AB (aC (.int 0)) (AB (aC (.int 1)) AL))) (AB (Aq (AB (AN 2 A2 (AB (aV 0) (AB (aC (.int 3)) AL))) (AB (aC (.int 1)) AL))) AL)))))))) (Ar 4))
   Jm)
abbrev HY:AS:=
 (Ab (An (AX Ae (GW (FP (AB (Aq (AB (AN 2 A2 (AB (aV 0) (AB (aC (.int 4)) AL))) (AB (aC (.int 1)) AL))) (AB (Aq (AB (aC (.int 0)) (AB (aC (.int 1)) AL))) (AB (AN 2 BB (AB (AN 2 A2 (AB (aV 0) (AB (aC (.int 9)) AL))) (AB (aC (.int 2)) AL))) AL))))) (AN 2 A2 (AB (aV 0) (AB (aC (.int 3)) AL)))) (Ar 3))
   Jl)
abbrev HZ:AS:=
 (Ab (B3 (Ay (AX YT (Fc GH (AB (aV 1) AL)) (aC (.int 5)))) (An (dn (aV 2) dz (d3 (aC (.int 3)))) (Ar 2)) BE)
   (Ao (Aq (AB (Aq (AB (aV 1) (AB (AN 1 CI (AB (aV 0) AL)) AL))) (AB (Aq (AB (aV 2) (AB (AN 1 CI (AB (aV 0) AL)) AL))) AL)))))
abbrev Oc:AS:=
 (Ab (B3 (Ay (AX NI (AN 2 A2 (AB (aV 0) (AB (aC (.int 3)) AL))) (aC (.int 0)))) HY BE)
   HZ)
abbrev Ob:AS:=
 (Ab (An (AN 1 D2 (AB (aV 0) AL)) (Ar 2))
   Oc)
abbrev MQ:AS:=
 (Ab (An (AN 1 D2 (AB (aV 0) AL)) (Ar 1))
   Ob)
def EU:AF:=Ak 8 MQ
def R3 {a:PV}{Q:PV->Prop}(h:MQ ⟨λ_=>Q .non,Q,λ_=>False,λ_=>False⟩ [some (.val a),none,none,none,none,none,none,none]):EU [a] Q:=h
def rQ (xs:zy C4):Lg (xs.map cor) none (some 3)=(xs.take 3).map cor:=by
 by_cases h:3<=xs.length
 .exact jA (k:=3) rfl h
 .rw [ACI (by omega)];unfold Lg HT.sIx;simp;rw[ACI (by simp;omega)]
def Tv (t:Rat)(o:T3)(c:C4):C4:=(c.1+t,c.2.1+o.1,c.2.2.1+o.2.1,c.2.2.2+o.2.2)
def ju {cs:zy C4}{t:Rat}{o:T3}(p:Hu 9 12 cs)(bt:Bd 12 t)(e:Hi 12 o):Hu 9 40 (cs.map (Tv t o)):=by
 refine⟨by simpa using p.two,by simpa using p.few,λc hc=> ?_, ?_⟩
 .obtain ⟨d,hd,rfl⟩:=AAI.mp hc;have b:=p.bd d hd;exact⟨(b.m.add bt).mono (by decide),(b.x.add e.x).mono (by decide),(b.y.add e.y).mono (by decide),(b.z.add e.z).mono (by decide)⟩
 .refine List.pairwise_map.mpr (p.ris.imp λ{a b} h=> ?_);show a.1+t<b.1+t;grind
theorem Tw:∀cs:zy C4,Yu (cs.map cor)=true
 | [] =>rfl
 | c::cs=>by rw[AAL,Yu,show dM (cor c)=true from rfl,Tw cs];rfl
def jE (cs:zy C4)(b:T3):J1 cs b (C2 cs b):=⟨_,_,⟨cor, .inl rfl, .inl rfl⟩, .inl rfl, .inl rfl⟩
end PL.K31
namespace PL
open PySem L2 PyProof.Rows
abbrev Ib:AS:=
 (Ab (An (GW (FP (AB (Aq (AB (aC (.int 1)) (AB (aC (.int 1)) AL))) (AB (Aq (AB (aC (.int 2)) (AB (aC (.int 1)) AL))) (AB (Aq (AB (aC (.int 3)) (AB (aC (.int 2)) AL))) (AB (Aq (AB (aC (.int 1)) (AB (aC (.int 3)) AL))) (AB (Aq (AB (aC (.int 5)) (AB (aC (.int 1)) AL))) AL))))))) (Ar 1))
   (Ao (Aq (AB (AX Ae (aV 1) (AN 2 A2 (AB (aV 0) (AB (aC (.int 5)) AL)))) (AB (AX Ae (aV 1) (AN 2 A2 (AB (aV 0) (AB (aC (.int 5)) AL)))) AL)))))
def F__law_apart:AF:=Ak 2 Ib
def s_F__law_apart {a:PV}{Q:PV->Prop}(h:Ib ⟨λ_=>Q .non,Q,λ_=>False,λ_=>False⟩ [some (.val a),none]):F__law_apart [a] Q:=h
def eY {xs:zy PV}{k:Int}{R:PV->Prop}(a:0<=k)(h1:k<xs.length)(h:∀x∈xs,R x):Ae (.lst xs) (.int k) R:=by show fF (J2 xs k) R;have hk:xs[k.toNat]? =some (xs[k.toNat]'(by omega)):=AAW (by omega);have e:=DU hk;rw[show ((k.toNat:Nat):Int)=k by omega] at e;rw[e];exact h _ (ACF _)
def EC {xs:zy Rat}{k:Int}{R:PV->Prop}(a:0<=k)(h1:k<xs.length)(h:∀x∈xs,R (fr x)):Ae (.lst (xs.map fr)) (.int k) R:=by refine eY a (by simpa using h1) λx hx=> ?_;obtain⟨y,b,rfl⟩:=AAI.mp hx;exact h y b
def QV {r:Rat}(h:r.num.natAbs<2^8:=by decide +kernel)(h2:r.den<2^8:=by decide +kernel):Bd 8 r:=⟨h,h2⟩
abbrev Tv (t:Rat)(o:T3)(c:C4):C4:=(c.1+t,c.2.1+o.1,c.2.2.1+o.2.1,c.2.2.2+o.2.2)
section
variable {τ:BA}
instance{i:Nat}{xs:zy PV}{P:zy PV->Prop}[h:gv τ i (.own xs)] :Wp (Lf i τ P) (P xs):=⟨λk=>by unfold Lf;rw[h.e];exact k⟩
end
def Mul.negQ {D N:Nat}{a:Rat}(h:Mul D N a):Mul D N (-a):=by obtain⟨b,k,rfl,hk⟩:=h;exact⟨b, -k,by rw[Rat.neg_divInt],by omega⟩
def Mul.subQ {D N M:Nat}{a b:Rat}(ha:Mul D N a)(hb:Mul D M b):Mul D (N+M) (a-b):=by rw[Rat.sub_eq_add_neg];exact ha.add (Mul.negQ hb)
def vY:PV.tup [.int (-1), .int 3] =fr (-1/3):=by unfold fr;rw[show (-1/3:Rat).num= -1 by decide +kernel,show (-1/3:Rat).den=3 by decide +kernel];rfl
def absR (r:Rat):Rat:=if r<0 then -r else r
def Bd.absR {n:Nat}{r:Rat}(h:Bd n r):Bd n (absR r):=by unfold PL.absR;split;exact h.neg;exact h
def bB (p q:T3)(d:Rat×Rat):T3:=((p.1-q.1)/d.1,(p.2.1-q.2.1)/d.1,(p.2.2-q.2.2)/d.2)
def rX (o:T3):Rat:=mx (mx (mx 0 (absR o.1)) (absR o.2.1)) (absR o.2.2)
def cy (a l b c:C4)(m:Rat):Prop:=(¬m<a.1/\¬m<b.1)/\m<l.1/\m<c.1
instance {a l b c:C4}{m:Rat}:Decidable (cy a l b c m):=by unfold cy;infer_instance
def ins:zy Rat->Rat->zy Rat
 | [],x=> [x]
 | q::r,x=>if q<x then q::ins r x else if q=x then q::r else x::q::r
abbrev dG (qs:zy Rat):Prop:=qs.Pairwise (· < ·)
theorem RY {x y:Rat}:∀{qs:zy Rat},y∈ins qs x↔y=x\/y∈qs
 | [] =>by simp[ins]
 | q::r=>by
   unfold ins;split
   .rw [AAF,RY,AAF];grind
   .split
    .rename_i h;subst h;simp
    .simp
theorem Xq {x:Rat}:∀{qs:zy Rat},dG qs->dG (ins qs x)
 | [],_=>by simp[ins]
 | q::r,h=>by
   obtain⟨h1,h2⟩:=AAN.mp h;unfold ins;split
   .rename_i b;refine AAN.mpr ⟨λy a=> ?_,Xq h2⟩;rcases RY.mp a with rfl|a
    .exact b
    .exact h1 y a
   .split
    .exact h
    .refine AAN.mpr ⟨λy a=> ?_,h⟩;rcases AAF.mp a with rfl|a
     .grind
     .have:=h1 y a;grind
theorem XF {x:Rat}:∀{qs:zy Rat},(ins qs x).length<=qs.length+1
 | [] =>by simp[ins]
 | q::r=>by
   have:=XF (x:=x) (qs:=r);unfold ins;split
   .simp;omega
   .split <;> simp
theorem Xp:∀{a b:zy Rat},dG a->dG b->(∀x,x∈a↔x∈b)->a=b
 | [], [],_,_,_=>rfl
 | [],y::b,_,_,h=>by have:=(h y).mpr (by simp);simp at this
 | x::a, [],_,_,h=>by have:=(h x).mp (by simp);simp at this
 | x::a,y::b,ha,hb,h=>by
   obtain⟨g,j⟩:=AAN.mp ha;obtain⟨i,b2⟩:=AAN.mp hb;have d:x=y:=by
    rcases AAF.mp ((h x).mp (by simp)) with e|e
    .exact e
    .rcases AAF.mp ((h y).mpr (by simp)) with f|f
     .exact f.symm
     .have:=i x e;have:=g y f;grind
   subst d;congr 1;refine Xp j b2 λz=>⟨λc=> ?_,λc=> ?_⟩
   .rcases AAF.mp ((h z).mp (by simp[c])) with e|e
    .subst e;have:=g z c;grind
    .exact e
   .rcases AAF.mp ((h z).mpr (by simp[c])) with e|e
    .subst e;have:=i z c;grind
    .exact e
def PJ (xs:zy Rat):zy Rat:=xs.foldl ins []
theorem MC:∀(xs qs:zy Rat),dG qs->dG (xs.foldl ins qs)/\(∀y,y∈xs.foldl ins qs↔y∈xs\/y∈qs)/\(xs.foldl ins qs).length<=qs.length+xs.length
 | [],qs,h=>⟨h,by simp,by simp⟩
 | x::xs,qs,h=>by
   obtain⟨h1,h2,h3⟩:=MC xs (ins qs x) (Xq h);refine⟨h1,λy=> ?_, ?_⟩
   .rw [ABS,h2,RY,AAF];grind
   .have:=XF (x:=x) (qs:=qs);rw[ABS,AAi];omega
def Eg {xs:zy Rat}:dG (PJ xs):=(MC xs [] .nil).1
def DW {xs:zy Rat}{y:Rat}:y∈PJ xs↔y∈xs:=by rw[PJ,(MC xs [] .nil).2.1];simp
def cH {xs:zy Rat}:(PJ xs).length<=xs.length:=by have:=(MC xs [] .nil).2.2;unfold PJ;simpa using this
abbrev Pl:=Rat×Int
abbrev Cv:=Rat×Int×zt Rat
def bp (s:Cv):Pl:=(s.1,1-s.2.1)
def ep (s:Cv):zt Pl:=s.2.2.map λe=>(e,0)
def UI (s:Cv)(p:Pl):Int:=(if bp s=p then 1 else 0)-(if ep s=some p then 1 else 0)
def cnt (ss:zy Cv)(p:Pl):Int:=(ss.map λs=>UI s p).sum
def nu (ss:zy Cv)(p:Pl):Prop:=∃s∈ss,bp s=p\/ep s=some p
def OZ (x p:Pl):kn:=decide (x.1<p.1)||(decide (x.1=p.1)&&decide (x.2<=p.2))
def Cp (s:Cv)(p:Pl):kn:=(decide (s.1<p.1)||(decide (s.1=p.1)&&decide (0<s.2.1+p.2)))&&(match s.2.2 with | none=>true|some e=>decide (p.1<e))
structure GG (B:Nat) (s:Cv):Prop where
 b:Bd B s.1
 h:s.2.1=0\/s.2.1=1
 e:∀e,s.2.2=some e->s.1<e/\Bd B e
def tm (s:Cv)(p:Pl):Int:=(if OZ (bp s) p=true then 1 else 0)-(if (ep s).any (OZ · p)=true then 1 else 0)
def pz {B:Nat}{s:Cv}{p:Pl}(ok:GG B s)(hp:0<=p.2):tm s p=if Cp s p=true then 1 else 0:=by
 obtain⟨b,h,e⟩:=s;obtain⟨q,i⟩:=p;have g:h=0\/h=1:=ok.h;have hp:0<=i:=hp;have d:OZ (bp (b,h,e)) (q,i)=(decide (b<q)||(decide (b=q)&&decide (0<h+i))):=by unfold OZ bp;congr 2;exact ABy.mpr (by show 1-h<=i↔0<h+i;omega)
 cases e with
 | none=> unfold tm Cp;rw[d];simp[ep]
 | some e=>
   have j:b<e:=(ok.e e rfl).1;have f:(ep (b,h,some e)).any (OZ · (q,i))= !decide (q<e):=by
    show OZ (e,0) (q,i)=_;unfold OZ;by_cases z:q<e
    .have a:¬e<q:=by grind
     have c:¬e=q:=by grind
     simp[z,a,c]
    .by_cases a:e<q
     .simp [z,a]
     .have c:e=q:=by grind
      simp[c,hp]
   unfold tm Cp;rw[d,f];by_cases z:q<e
   .simp [z]
   .have a:b<q:=by grind
    simp[z,a]
def Hn (ss:zy Cv)(p:Pl):Nat:=(ss.filter (Cp · p)).length
theorem Vf {B:Nat}{p:Pl}(hp:0<=p.2):∀{ss:zy Cv},(∀s∈ss,GG B s)->(Hn ss p:Int)=(ss.map λs=>tm s p).sum
 | [],_=>rfl
 | s::ss,h=>by
   have a:=Vf hp (ss:=ss) λx hx=>h x (by simp[hx]);have e:=pz (p:=p) (h s (by simp)) hp;rw[AAL,AAh,<-a,e];unfold Hn;rw[AB0];split
   .simp;omega
   .simp
def L6 (x p:Pl):Prop:=x.1<p.1\/(x.1=p.1/\x.2<p.2)
def J6 {a b c:Pl}(h:L6 a b)(h2:L6 b c):L6 a c:=by
 unfold L6 at *;rcases h with h|⟨h,h'⟩ <;> rcases h2 with h2|⟨h2,d⟩
 .left;grind
 .left;grind
 .left;grind
 .right;exact⟨by grind,by omega⟩
def Gd {x p:Pl}:OZ x p=true↔L6 x p\/x=p:=by
 obtain⟨a,i⟩:=x;obtain⟨b,j⟩:=p;unfold OZ L6;simp only[ADv,AA0,ADF,Prod.mk.injEq];constructor
 .rintro (h|⟨h,h2⟩)
  .exact .inl (.inl h)
  .by_cases e:i=j
   .exact .inr ⟨h,e⟩
   .exact .inl (.inr ⟨h,by omega⟩)
 .rintro ((h|⟨h,h2⟩)|⟨h,h2⟩)
  .exact .inl h
  .exact .inr ⟨h,by omega⟩
  .exact .inr ⟨h,by omega⟩
def L7 {p:Pl}:¬L6 p p:=by
 unfold L6;rintro(h|⟨_,h⟩)
 .grind
 .omega
def Tq (x:Pl):zt Pl->kn|none=>false|some p=>OZ x p
def gf (s:Cv)(o:zt Pl):Int:=(if Tq (bp s) o=true then 1 else 0)-(if (ep s).any (Tq · o)=true then 1 else 0)
def sT:zt Pl->Pl->Prop|none,_=>True|some q,p=>L6 q p
def Jf {x p:Pl}{o:zt Pl}(hx:Tq x o=true\/x=p\/L6 p x)(a:sT o p):OZ x p=(Tq x o||decide (x=p))/\¬(Tq x o=true/\x=p):=by
 have h1:Tq x o=true->L6 x p:=λh=>by
  cases o with
  | none=>cases h
  | some q=>rcases Gd.mp h with h|h
            .exact J6 h a
            .rw [h];exact a
 refine⟨?_,λh=>by rw[h.2] at h1;exact L7 (h1 (h.2 ▸ h.1))⟩;rw[ABY,ADv,ADF,Gd];constructor
 .rintro (h|h)
  .rcases hx with z|z|z
   .exact .inl z
   .exact .inr z
   .exact absurd (J6 h z) L7
  .exact .inr h
 .rintro (h|h)
  .exact .inl (h1 h)
  .exact .inr h
def ab {A:kn}{E:Prop}[Decidable E](h:¬(A=true/\E)):(if (A||decide E)=true then (1:Int) else 0)=(if A=true then 1 else 0)+if E then 1 else 0:=by cases A <;> by_cases e:E <;> simp_all
def gg {s:Cv}{p:Pl}{o:zt Pl}(hb:Tq (bp s) o=true\/bp s=p\/L6 p (bp s))(he:∀x,ep s=some x->Tq x o=true\/x=p\/L6 p x)(a:sT o p):tm s p=gf s o+UI s p:=by
 obtain⟨b,b2⟩:=Jf hb a;unfold tm gf UI;rw[b,ab b2];cases e:ep s with
 | none=>simp
 | some x=>
   obtain⟨c,d⟩:=Jf (he x e) a;have h1:(if (some x).any (OZ · p)=true then (1:Int) else 0)=(if Tq x o=true then 1 else 0)+if x=p then 1 else 0:=by show (if OZ x p=true then (1:Int) else 0)=_;rw[c,ab d]
   rw[h1];show _=(_-(if Tq x o=true then (1:Int) else 0))+(_-(if some x=some p then (1:Int) else 0));have h2:(if some x=some p then (1:Int) else 0)=if x=p then 1 else 0:=by by_cases z:x=p <;> simp[z]
   rw[h2];omega
def Zr (X:zy Pl):Prop:=X.Pairwise L6
def Jv (ss:zy Cv):Int->zy Pl->Prop
 | _, [] =>True
 | c,p::r=>(Hn ss p:Int)=c+cnt ss p/\Jv ss (Hn ss p) r
theorem Xu {a:Type}(f g:a->Int):∀xs:zy a,(xs.map λx=>f x+g x).sum=(xs.map f).sum+(xs.map g).sum
 | [] =>rfl
 | x::xs=>by simp only[AAL,AAh,Xu f g xs];omega
theorem NF {B:Nat}{ss:zy Cv}(ok:∀s∈ss,GG B s):∀(X:zy Pl) (o:zt Pl),Zr X->(∀p∈X,sT o p/\0<=p.2)->(∀s∈ss,(Tq (bp s) o=true\/bp s∈X)/\∀x,ep s=some x->Tq x o=true\/x∈X)->Jv ss ((ss.map λs=>gf s o).sum) X
 | [],_,_,_,_=>True.intro
 | p::r,o,hs,ho,hk=>by
   obtain⟨h1,h2⟩:=AAN.mp hs;obtain⟨op,a⟩:=ho p (by simp);have cls:∀x,(Tq x o=true\/x∈p::r)->Tq x o=true\/x=p\/L6 p x:=λx h=>by
    rcases h with h|h
    .exact .inl h
    .rcases AAF.mp h with h|h
     .exact .inr (.inl h)
     .exact .inr (.inr (h1 x h))
   have e:(Hn ss p:Int)=(ss.map λs=>gf s o).sum+cnt ss p:=by rw[Vf a ok];unfold cnt;rw[<-Xu];congr 1;apply ACJ;intro s hs;exact gg (cls _ (hk s hs).1) (λx ex=>cls x ((hk s hs).2 x ex)) op
   refine⟨e, ?_⟩;have:=NF ok r (some p) h2 (λq b=>⟨h1 q b,(ho q (by simp[b])).2⟩) (λs hs=>⟨?_,λx ex=> ?_⟩)
   .rw [show (ss.map λs=>gf s (some p)).sum=(Hn ss p:Int) from(Vf a ok).symm] at this;exact this
   .rcases cls _ (hk s hs).1 with z|z|z
    .exact .inl (by rw[show Tq (bp s) (some p)=OZ (bp s) p from rfl,(Jf (.inl z) op).1,z];rfl)
    .exact .inl (Gd.mpr (.inr z))
    .rcases (hk s hs).1 with y|y
     .exact .inl (by rw[show Tq (bp s) (some p)=OZ (bp s) p from rfl,(Jf (.inl y) op).1,y];rfl)
     .rcases AAF.mp y with y|y
      .exact .inl (Gd.mpr (.inr y))
      .exact .inr y
   .rcases (hk s hs).2 x ex with y|y
    .exact .inl (by rw[show Tq x (some p)=OZ x p from rfl,(Jf (.inl y) op).1,y];rfl)
    .rcases AAF.mp y with y|y
     .exact .inl (Gd.mpr (.inr y))
     .exact .inr y
def places (qs:zy Rat):zy Pl:=qs.flatMap λq=> [(q,0),(q,1)]
def Ba {qs:zy Rat}{p:Pl}:p∈places qs↔p.1∈qs/\(p.2=0\/p.2=1):=by
 obtain⟨a,i⟩:=p;unfold places;simp only[ABB,AAF,AAj,AAk,Prod.mk.injEq];constructor
 .rintro ⟨q,b,⟨rfl,rfl⟩|⟨rfl,rfl⟩⟩
  .exact ⟨b, .inl rfl⟩
  .exact ⟨b, .inr rfl⟩
 .rintro ⟨h,h2⟩;exact⟨a,h,h2.elim (λz=> .inl ⟨rfl,z⟩) (λz=> .inr ⟨rfl,z⟩)⟩
theorem En:∀{qs:zy Rat},dG qs->Zr (places qs)
 | [],_=>List.Pairwise.nil
 | q::r,h=>by
   obtain⟨h1,h2⟩:=AAN.mp h;have b:=En h2;have a:∀(i:Int),∀p∈places r,L6 (q,i) p:=λi p hp=> .inl (h1 _ (Ba.mp hp).1);show Zr ((q,0)::(q,1)::places r);refine AAN.mpr ⟨λp hp=> ?_,AAN.mpr ⟨a 1,b⟩⟩;rcases AAF.mp hp with rfl|hp
   .exact .inr ⟨rfl,by show (0:Int)<1;decide⟩
   .exact a 0 p hp
def EA (ss:zy Cv):zy Rat:=ss.flatMap λs=>s.1::s.2.2.toList
def E4 (ss:zy Cv):zy Pl:=places (PJ (EA ss))
def Nc {B:Nat}{ss:zy Cv}(ok:∀s∈ss,GG B s){s:Cv}(hs:s∈ss):bp s∈E4 ss/\∀x,ep s=some x->x∈E4 ss:=by
 refine⟨Ba.mpr ⟨DW.mpr (ABB.mpr ⟨s,hs,by simp[bp]⟩), ?_⟩,λx ex=> ?_⟩
 .have:=(ok s hs).h;unfold bp;simp only;omega
 .obtain ⟨e,he,rfl⟩:=ACc.mp ex;exact Ba.mpr ⟨DW.mpr (ABB.mpr ⟨s,hs,by simp[he]⟩), .inl rfl⟩
def TH {B:Nat}{ss:zy Cv}(ok:∀s∈ss,GG B s):Jv ss 0 (E4 ss):=by
 have h:=NF ok (E4 ss) none (En Eg) (λp hp=>⟨True.intro,by rcases (Ba.mp hp).2 with z|z <;> omega⟩) (λs hs=>⟨.inr (Nc ok hs).1,λx ex=> .inr ((Nc ok hs).2 x ex)⟩);have:(ss.map λs=>gf s none).sum=0:=by
  clear h ok;induction ss with
  | nil=>rfl
  | cons s ss a=> rw[AAL,AAh,a];unfold gf;cases ep s <;> rfl
 rw[this] at h;exact h
def un (k:FK):Rat:=mkRat k.1.1 k.1.2.toNat
def stepI (st:zy Cv×zt Pl)(x:Pl×kn):zy Cv×zt Pl:=
 match st.2,x.2 with
 | none,true=>(st.1,some x.1)
 | some b,false=>(st.1 ++ [(b.1,1-b.2,some x.1.1)],none)
 | _,_=>st
def TV (st:zy Cv×zt Pl):zy Cv:=match st.2 with | none=>st.1|some b=>st.1 ++ [(b.1,1-b.2,none)]
def QO (X:zy (Pl×kn)):zy Cv:=TV (X.foldl stepI ([],none))
theorem QE:∀{ss:zy Cv},(EA ss).length<=2*ss.length
 | [] =>by simp[EA]
 | s::ss=>by
   have a:=QE (ss:=ss);unfold EA at *;rw[List.flatMap_cons,AAx,AAi,AAi];have:s.2.2.toList.length<=1:=by cases s.2.2 <;> simp
   omega
theorem Nz:∀{qs:zy Rat},(places qs).length=2*qs.length
 | [] =>rfl
 | q::qs=>by have a:=Nz (qs:=qs);unfold places at *;rw[List.flatMap_cons,AAx,a,AAi];simp;omega
def U8 (In key:Pl->kn):kn->zy Pl->Prop
 | _, [] =>True
 | c,p::r=>(key p=false->In p=c)/\U8 In key (In p) r
def WN {st:zy Cv×zt Pl}{p:Pl}{i:kn}:(stepI st (p,i)).2.isSome=i:=by obtain⟨L,b⟩:=st;cases b <;> cases i <;> rfl
def WM {st:zy Cv×zt Pl}{p:Pl}{i:kn}(h:i=st.2.isSome):stepI st (p,i)=st:=by obtain⟨L,b⟩:=st;cases b <;> cases i <;> first | rfl|cases h
theorem KF {In key:Pl->kn}:∀(X:zy Pl) (st:zy Cv×zt Pl),U8 In key st.2.isSome X->(X.map λp=>(p,In p)).foldl stepI st=((X.filter key).map λp=>(p,In p)).foldl stepI st
 | [],st,_=>rfl
 | p::r,st,h=>by
   rw[AAL,ABS,AB0];cases k:key p with
   | true=> rw[AAE rfl,AAL,ABS];exact KF r _ (by rw[WN];exact h.2)
   | false=> have e:=h.1 k;rw[AAC (by decide),WM e];exact KF r st (by have:=h.2;rw[e] at this;exact this)
theorem OM {ss:zy Cv}{key:Pl->kn}{n:Int}(hk:∀p,key p=false->cnt ss p=0):∀(X:zy Pl) (c:Int),Jv ss c X->U8 (λp=>decide (n<=(Hn ss p:Int))) key (decide (n<=c)) X
 | [],_,_=>True.intro
 | p::r,c,h=>⟨λk=>(by show decide (n<=(Hn ss p:Int))=_;rw[h.1,hk p k,Int.add_zero]),OM hk r _ h.2⟩
def canon (n:Int)(ss:zy Cv):zy Cv:=QO ((E4 ss).map λp=>(p,decide (n<=(Hn ss p:Int))))
def aB {ss:zy Cv}{p:Pl}(h:¬nu ss p):cnt ss p=0:=by
 have key:∀ss:zy Cv,(∀s∈ss,¬(bp s=p\/ep s=some p))->cnt ss p=0:=by
  intro ss;induction ss with
  | nil=>intro _;rfl
  | cons s ss a=>
    intro h;have h1:=h s (by simp);have e:cnt (s::ss) p=UI s p+cnt ss p:=by simp[cnt]
    rw[e,a λx hx=>h x (by simp[hx])];unfold UI;rw[AAC λz=>h1 (.inl z),AAC λz=>h1 (.inr z)];rfl
 exact key ss λs hs z=>h ⟨s,hs,z⟩
def RO {ss:zy Cv}{p:Pl}:decide ((1:Int)<=(Hn ss p:Int))=ss.any (Cp · p):=by
 rw[ABY,ADF,ACZ];unfold Hn;constructor
 .intro h;obtain⟨s,hs⟩:=List.exists_mem_of_length_pos (l:=ss.filter (Cp · p)) (by omega);have:=AAR.mp hs;exact⟨s,this.1,this.2⟩
 .rintro ⟨s,hs,h⟩;have:=List.length_pos_of_mem (AAR.mpr ⟨hs,h⟩:s∈ss.filter (Cp · p));omega
def EF (In:Pl->kn):zy Pl->zt Pl->zy Cv
 | [],none=> []
 | [],some b=> [(b.1,1-b.2,none)]
 | p::r,none=>if In p=true then EF In r (some p) else EF In r none
 | p::r,some b=>if In p=true then EF In r (some b) else (b.1,1-b.2,some p.1)::EF In r none
theorem N2 {In:Pl->kn}:∀(X:zy Pl) (a:zy Cv) (b:zt Pl),TV ((X.map λp=>(p,In p)).foldl stepI (a,b))=a++EF In X b
 | [],a,none=>by simp[TV,EF]
 | [],a,some b=>by simp[TV,EF]
 | p::r,a,none=>by
   rw[AAL,ABS];unfold EF;cases e:In p with
   | true=>exact N2 r a (some p)
   | false=>exact N2 r a none
 | p::r,a,some b=>by
   rw[AAL,ABS];unfold EF;cases e:In p with
   | true=>exact N2 r a (some b)
   | false=> show TV ((r.map λp=>(p,In p)).foldl stepI (a ++ [(b.1,1-b.2,some p.1)],none))=a++((b.1,1-b.2,some p.1)::EF In r none);rw[N2 r _ none];simp
def QP {In:Pl->kn}{X:zy Pl}:QO (X.map λp=>(p,In p))=EF In X none:=by unfold QO;rw[N2];rfl
def L1 {q p:Pl}{e:zt Rat}(a:q.2=0\/q.2=1)(hp:0<=p.2):Cp (q.1,1-q.2,e) p=(OZ q p&&(match e with | none=>true|some e=>decide (p.1<e))):=by unfold Cp OZ;congr 2;congr 1;exact ABy.mpr (by show 0<1-q.2+p.2↔q.2<=p.2;omega)
def Jx (In:Pl->kn):kn->zy Pl->Prop
 | _, [] =>True
 | c,p::r=>(c=true->In p=false->p.2=0)/\Jx In (In p) r
theorem Xe {In:Pl->kn}:∀(X:zy Pl),Zr X->(∀x∈X,x.2=0\/x.2=1)-> (Jx In false X->(∀p:Pl,0<=p.2->(∀x∈X,L6 p x)->(EF In X none).any (Cp · p)=false)/\∀p∈X,(EF In X none).any (Cp · p)=In p)/\ (Jx In true X->∀q:Pl,(q.2=0\/q.2=1)->(∀x∈X,L6 q x)->(∀p:Pl,0<=p.2->(∀x∈X,L6 p x)->(EF In X (some q)).any (Cp · p)=OZ q p)/\∀p∈X,(EF In X (some q)).any (Cp · p)=In p)
 | [],_,_=>⟨λ_=>⟨λp _ _=>rfl,λp hp=>by cases hp⟩,λ_ q f _=>⟨λp hp _=>by show (Cp (q.1,1-q.2,none) p||false)=_;rw[L1 f hp];simp,λp hp=>by cases hp⟩⟩
 | x::r,hs,Up=>by
   obtain⟨h1,h2⟩:=AAN.mp hs;have k:=Xe (In:=In) r h2 λy l=>Up y (by simp[l]);have m:=Up x (by simp);have g:0<=x.2:=by omega
   have i:∀p:Pl,(∀y∈x::r,L6 p y)->∀y∈r,L6 p y:=λp h y l=>h y (by simp[l]);have o:∀p:Pl,L6 p x->OZ x p=false:=λp h=>by
    rw[<-Bool.not_eq_true,Gd];rintro(z|z)
    .exact L7 (J6 z h)
    .rw [z] at h;exact L7 h
   have s:OZ x x=true:=Gd.mpr (.inr rfl);refine⟨λhd=> ?_,λhd q f n=> ?_⟩
   .unfold EF;cases e:In x with
    | true=>
      have a:=hd.2;rw[e] at a;obtain⟨b,d⟩:=k.2 a x m h1;rw[AAE rfl];refine⟨λp c hp=> ?_,λp hp=> ?_⟩
      .rw [b p c (i p hp),o p (hp x (by simp))]
      .rcases AAF.mp hp with rfl|hp
       .rw [b p g h1,s,e]
       .exact d p hp
    | false=>
      have a:=hd.2;rw[e] at a;obtain⟨b,d⟩:=k.1 a;rw[AAC (by decide)];refine⟨λp c hp=>b p c (i p hp),λp hp=> ?_⟩;rcases AAF.mp hp with rfl|hp
      .rw [b p g h1,e]
      .exact d p hp
   .unfold EF;have t:OZ q x=true:=Gd.mpr (.inl (n x (by simp)));cases e:In x with
    | true=>
      have a:=hd.2;rw[e] at a;obtain⟨b,d⟩:=k.2 a q f (i q n);rw[AAE rfl];refine⟨λp c hp=>b p c (i p hp),λp hp=> ?_⟩;rcases AAF.mp hp with rfl|hp
      .rw [b p g h1,t,e]
      .exact d p hp
    | false=>
      have a:=hd.2;rw[e] at a;obtain⟨b,d⟩:=k.1 a;have v:=hd.1 rfl e;rw[AAC (by decide)];have j:∀p:Pl,(p=x\/L6 x p)->¬p.1<x.1:=λp h=>by rcases h with h|h|⟨h,_⟩ <;> grind
      refine⟨λp c hp=> ?_,λp hp=> ?_⟩
      .have u:p.1<x.1:=by
        rcases hp x (by simp) with z|⟨_,z⟩
        .exact z
        .omega
       show (Cp (q.1,1-q.2,some x.1) p||(EF In r none).any (Cp · p))=_;rw[L1 f c,b p c (i p hp)];simp[u]
      .show (Cp (q.1,1-q.2,some x.1) p||(EF In r none).any (Cp · p))=_;rcases AAF.mp hp with rfl|hp
       .rw [L1 f g,b p g h1,e];simp[j p (.inl rfl)]
       .rw [L1 f (by have:=Up p (by simp[hp]);omega),d p hp];simp[j p (.inr (h1 p hp))]
theorem UN {In:Pl->kn}(P:Rat->Prop):∀(X:zy Pl) (b:zt Pl),Zr X->(∀x∈X,(x.2=0\/x.2=1)/\P x.1)->Jx In b.isSome X->(∀q,b=some q->(q.2=0\/q.2=1)/\P q.1/\∀x∈X,L6 q x)-> ∀s∈EF In X b,P s.1/\(s.2.1=0\/s.2.1=1)/\∀e,s.2.2=some e->s.1<e/\P e
 | [],none,_,_,_,_=>λs hs=>by cases hs
 | [],some q,_,_,_,hb=>λs hs=>by obtain⟨h1,h2,_⟩:=hb q rfl;simp only[EF,AAc] at hs;subst hs;exact⟨h2,by show 1-q.2=0\/1-q.2=1;omega,λe he=>by cases he⟩
 | x::r,b,hs,Up,hd,hb=>by
   obtain⟨h1,h2⟩:=AAN.mp hs;have f:=λb d hb=>UN (In:=In) P r b h2 (λy g=>Up y (by simp[g])) d hb;have a:=hd.2;cases b with
   | none=>
     unfold EF;cases e:In x with
     | true=> rw[AAE rfl];rw[e] at a;exact f (some x) a λq c=>by cases c;exact⟨(Up x (by simp)).1,(Up x (by simp)).2,h1⟩
     | false=> rw[AAC (by decide)];rw[e] at a;exact f none a λq c=>by cases c
   | some q=>
     obtain⟨j,h,i⟩:=hb q rfl;unfold EF;cases e:In x with
     | true=> rw[AAE rfl];rw[e] at a;exact f (some q) a λk c=>by cases c;exact⟨j,h,λy g=>i y (by simp[g])⟩
     | false=>
       rw[AAC (by decide)];rw[e] at a;have l:=hd.1 rfl e;intro s hs;rcases AAF.mp hs with rfl|hs
       .refine ⟨h,by show 1-q.2=0\/1-q.2=1;omega,λm he=> ?_⟩;cases he;refine⟨?_,(Up x (by simp)).2⟩;rcases i x (by simp) with z|⟨_,z⟩
        .exact z
        .omega
       .exact f none a (λq c=>by cases c) s hs
theorem IB {ss:zy Cv}:∀(X:zy Pl) (c:Int),(∀x∈X,x.2=0\/x.2=1)->Jv ss c X->Jx (λp=>ss.any (Cp · p)) (decide (1<=c)) X
 | [],_,_,_=>True.intro
 | p::r,c,Up,h=>by
   have a:=IB r (Hn ss p) (λx hx=>Up x (by simp[hx])) h.2;rw[RO] at a;refine⟨λhc hi=> ?_,a⟩;rcases Up p (by simp) with z|z
   .exact z
   .have hc:1<=c:=by simpa using hc
    have hi:ss.any (Cp · p)=false:=hi;rw[<-RO] at hi;have hi:¬(1:Int)<=Hn ss p:=by simpa using hi
    have c0:0<=cnt ss p:=by
     have go:∀ss:zy Cv,0<=cnt ss p:=by
      intro ss;induction ss with
      | nil=>exact ADG _
      | cons s ss a=>
        have e:cnt (s::ss) p=UI s p+cnt ss p:=by simp[cnt]
        have o:0<=UI s p:=by
         unfold UI;have:¬ep s=some p:=λy=>by obtain⟨d,_,b⟩:=ACc.mp y;have:(0:Int)=p.2:=congrArg Prod.snd b;omega
         rw[AAC this];split <;> decide
        omega
     exact go ss
    have:=h.1;omega
def Xn {ss:zy Cv}:∀x∈E4 ss,x.2=0\/x.2=1:=λx hx=>(Ba.mp hx).2
def YL {ss:zy Cv}:canon 1 ss=EF (λp=>ss.any (Cp · p)) (E4 ss) none:=by unfold canon;rw[<-QP];congr 1;apply ACJ;intro p _;rw[RO]
def WL {ss:zy Cv}{B:Nat}(ok:∀s∈ss,GG B s):Jx (λp=>ss.any (Cp · p)) false (E4 ss):=IB (E4 ss) 0 Xn (TH ok)
def VH {ss:zy Cv}{B:Nat}(ok:∀s∈ss,GG B s):∀s∈canon 1 ss,s.1∈EA ss/\(s.2.1=0\/s.2.1=1)/\∀e,s.2.2=some e->s.1<e/\e∈EA ss:=by rw[YL];exact UN (· ∈EA ss) (E4 ss) none (En Eg) (λx hx=>⟨Xn x hx,DW.mp (Ba.mp hx).1⟩) (WL ok) λq a=>by cases a
def XO {ss:zy Cv}{B:Nat}(ok:∀s∈ss,GG B s):∀x∈EA ss,Bd B x:=λx h=>by
 obtain⟨s,hs,hx⟩:=ABB.mp h;rcases AAF.mp hx with rfl|hx
 .exact (ok s hs).b
 .exact ((ok s hs).e x (by simpa using hx)).2
def Z9 {ss:zy Cv}{B:Nat}(ok:∀s∈ss,GG B s):∀s∈canon 1 ss,GG B s:=λs hs=>by obtain⟨h1,h2,h3⟩:=VH ok s hs;exact⟨XO ok _ h1,h2,λe he=>⟨(h3 e he).1,XO ok _ (h3 e he).2⟩⟩
theorem Hl (f:Rat->kn):∀qs:zy Rat,(places qs).filter (λp=>f p.1)=places (qs.filter f)
 | [] =>rfl
 | q::qs=>by show ((q,0)::(q,1)::places qs).filter (λp=>f p.1)=_;rw[AB0,AB0,AB0,Hl f qs];cases f q <;> rfl
def DF (ms:zy Rat)(ss:zy Cv):zy Pl:=places (PJ (ms++EA ss))
def JF {B:Nat}{ms:zy Rat}{ss:zy Cv}(ok:∀s∈ss,GG B s):Jv ss 0 (DF ms ss):=by
 have c:∀s∈ss,bp s∈DF ms ss/\∀x,ep s=some x->x∈DF ms ss:=λs hs=>by
  obtain⟨h1,h2⟩:=Nc ok hs;have d:∀x∈E4 ss,x∈DF ms ss:=λx hx=>by obtain⟨a,b⟩:=Ba.mp hx;exact Ba.mpr ⟨DW.mpr (AAm _ (DW.mp a)),b⟩
  exact⟨d _ h1,λx ex=>d _ (h2 x ex)⟩
 have h:=NF ok (DF ms ss) none (En Eg) (λp hp=>⟨True.intro,by rcases (Ba.mp hp).2 with z|z <;> omega⟩) (λs hs=>⟨.inr (c s hs).1,λx ex=> .inr ((c s hs).2 x ex)⟩);have z:(ss.map λs=>gf s none).sum=0:=by
  clear h c ok;induction ss with
  | nil=>rfl
  | cons s ss e=> rw[AAL,AAh,e];unfold gf;cases ep s <;> rfl
 rw[z] at h;exact h
def VG {B:Nat}{ms:zy Rat}{ss:zy Cv}{n:Int}(ok:∀s∈ss,GG B s)(c:0<n):QO ((DF ms ss).map λp=>(p,decide (n<=(Hn ss p:Int))))=canon n ss:=by
 have hk:∀p:Pl,decide (p.1∈EA ss)=false->cnt ss p=0:=λp hp=>aB λ⟨s,hs,z⟩=>by
  have hp:¬p.1∈EA ss:=by simpa using hp
  refine hp (ABB.mpr ⟨s,hs, ?_⟩);rcases z with z|z
  .rw [<-z];simp[bp]
  .obtain ⟨d,he,rfl⟩:=ACc.mp z;simp[he]
 have a:=OM (n:=n) (ss:=ss) (key:=λp=>decide (p.1∈EA ss)) hk (DF ms ss) 0 (JF ok);rw[AAa (by omega)] at a;have h:=KF (DF ms ss) ([],none) a;have b:(DF ms ss).filter (λp=>decide (p.1∈EA ss))=E4 ss:=by unfold DF E4;rw[Hl (λx=>decide (x∈EA ss))];congr 1;refine Xp (Eg.filter _) Eg λx=> ?_;rw[AAR,DW,DW,ADF];exact⟨λh=>h.2,λh=>⟨AAm _ h,h⟩⟩
 rw[b] at h;show TV _=TV _;rw[h]
def TD {B:Nat}{ss:zy Cv}(ok:∀s∈ss,GG B s){p:Pl}(hp:p.2=0\/p.2=1):(canon 1 ss).any (Cp · p)=ss.any (Cp · p):=by
 have b:p∈DF [p.1] ss:=Ba.mpr ⟨DW.mpr (by simp),hp⟩;have a:∀x∈DF [p.1] ss,x.2=0\/x.2=1:=λx hx=>(Ba.mp hx).2;have c:=IB (DF [p.1] ss) 0 a (JF ok);have e:canon 1 ss=EF (λp=>ss.any (Cp · p)) (DF [p.1] ss) none:=by rw[<-VG (ms:= [p.1]) ok (by decide),<-QP];congr 1;apply ACJ;intro q _;rw[RO]
 rw[e];exact((Xe (DF [p.1] ss) (En Eg) a).1 c).2 p b
def hN (L:zy Cv)(p:Pl):Nat:=(L.filter (Cp · p)).length
theorem Q8 {a:Type}(f:a->kn):∀xs:zy a,GZ (xs.map λx=> .bl (f x))=some (xs.map f)
 | [] =>rfl
 | x::xs=>by show (GZ (xs.map λx=> .bl (f x))).map (f x :: ·)=_;rw[Q8 f xs];rfl
theorem NL:∀(X:zy (Pl×kn)) (st:zy Cv×zt Pl),2*(X.foldl stepI st).1.length+(if (X.foldl stepI st).2.isSome then 1 else 0)<=2*st.1.length+(if st.2.isSome then 1 else 0)+X.length
 | [],st=>AAJ _
 | x::X,st=>by
   have h1:=NL X (stepI st x);have h2:2*(stepI st x).1.length+(if (stepI st x).2.isSome then 1 else 0)<=2*st.1.length+(if st.2.isSome then 1 else 0)+1:=by obtain⟨L,b⟩:=st;obtain⟨p,c⟩:=x;cases b <;> cases c <;> simp[stepI] <;> omega
   rw[ABS,AAi];omega
def ZC (X:zy (Pl×kn)):2*(QO X).length<=X.length+1:=by have h:=NL X ([],none);unfold QO;generalize X.foldl stepI ([],none)=st at *;obtain⟨L,b⟩:=st;cases b <;> simp[TV] at * <;> omega
def VF {n:Int}{ss:zy Cv}:(canon n ss).length<=2*ss.length:=by unfold canon E4;have h:=ZC ((places (PJ (EA ss))).map λp=>(p,decide (n<=(Hn ss p:Int))));have a:=cH (xs:=EA ss);have b:=QE (ss:=ss);have c:=Nz (qs:=PJ (EA ss));rw[AAK] at h;omega
def lt_size {k n:Nat}(h:k<=n)(a:n<1000000):k<sizeLine:=AAf h (AAV a (ABP rfl))
def lin (p q:T3)(s:Rat):T3:=(p.1+s*(q.1-p.1),p.2.1+s*(q.2.1-p.2.1),p.2.2+s*(q.2.2-p.2.2))
def jo {a D b e m x X:Rat}(c:D≠0)(h:e-b≠0):x+(m-a)/D*X=(x+(b-a)/D*X)+(m-b)/(e-b)*((x+(e-a)/D*X)-(x+(b-a)/D*X)):=by grind
def Yj {a c:C4}{b e m:Rat}(h1:a.1<c.1)(h2:b<e):inter a c m=lin (inter a c b) (inter a c e) ((m-b)/(e-b)):=by
 have d:c.1-a.1≠0:=by grind
 have f:e-b≠0:=by grind
 simp only[inter,lin];rw[<-jo d f,<-jo d f,<-jo d f]
def aw (p q:T3):lin p q 0=p:=by obtain⟨a,b,c⟩:=p;simp[lin,Rat.zero_mul,Rat.add_zero]
theorem Kb {b e m:Rat}{p q:T3}(f:b<e)(h1:b<=m)(h2:m<=e):∀{a:C4} {r:zy C4},Hh (a::r)->(∀c∈r,¬(b<c.1/\c.1<e))->spotG a r b=some p->spotG a r e=some q->spotG a r m=some (lin p q ((m-b)/(e-b)))
 | a, [],_,_,hp,_=>by cases hp
 | a,c::r,hr,hn,hp,hq=>by
   have g:=(AAN.mp hr).1 c (by simp);have h:Hh (c::r):=(AAN.mp hr).2;by_cases i:c.1<b
   .simp only[spotG] at hp hq ⊢;rw[AAE i] at hp;rw[AAE (by grind)] at hq ⊢;exact Kb f h1 h2 h (λx hx=>hn x (by simp[hx])) hp hq
   .simp only[spotG] at hp hq ⊢;rw[AAC i] at hp;by_cases k2:b=c.1
    .subst k2;rw[Ef g] at hp;cases hp;by_cases j:c.1<m
     .rw [AAE j];rw[AAE (by grind)] at hq;refine Kb f h1 h2 h (λx hx=>hn x (by simp[hx])) ?_ hq;cases r with
      | nil=>cases hq
      | cons d r=> have k:=(AAN.mp h).1 d (by simp);simp only[spotG];rw[AAC (by grind),Gb k]
     .have l:m=c.1:=by grind
      subst l;rw[AAC j,Ef g];have z:(c.1-c.1)/(e-c.1)=0:=by grind
      rw[z,aw]
    .have n:¬c.1<e:=λz=>hn c (by simp) ⟨by grind,z⟩;cases hp;rw[AAC n] at hq;cases hq;rw[AAC (by grind)];rw[<-Yj g f]
def QW {b e m:Rat}{p q:T3}{cs:zy C4}(f:Hh cs)(g:b<e)(h1:b<=m)(h2:m<=e)(h:∀c∈cs,¬(b<c.1/\c.1<e))(hp:spotC cs b=some p)(d:spotC cs e=some q):spotC cs m=some (lin p q ((m-b)/(e-b))):=by
 cases cs with
 | nil=>cases hp
 | cons a r=>
   simp only[spotC] at hp d ⊢;by_cases k:b<a.1
   .rw [AAE k] at hp;cases hp
   .rw [AAC k] at hp;rw[AAC (by grind)] at d ⊢;exact Kb g h1 h2 f (λc hc=>h c (by simp[hc])) hp d
abbrev Hr:AS:=
 (Ab (Fk (M9 (aV 0)) (Hw 2 (Ad (Ar 2) (Ad (Ar 3) BY))) (VA 1 B9 (AX RD (aV 3) (AN 2 EV (AB (aV 1) (AB (aV 3) AL))))))
   (Ao (aV 1)))
abbrev GB:AS:=
 (Ab (An (aC (.int 1)) (Ar 1))
   Hr)
def CB:AF:=Ak 4 GB
def JY {a:PV}{Q:PV->Prop}(h:GB ⟨λ_=>Q .non,Q,λ_=>False,λ_=>False⟩ [some (.val a),none,none,none]):CB [a] Q:=h
def FY (xs:zy Rat):Nat:=xs.foldl (λN r=>N*(r.den/Nat.gcd N r.den)) 1
def SM (xs:zy Rat)(r:Rat):FY (xs ++ [r])=FY xs*(r.den/Nat.gcd (FY xs) r.den):=by unfold FY;rw[ACe];rfl
def gF {N d:Nat}(hN:0<N)(hd:0<d):0<N*(d/Nat.gcd N d)/\N ∣ N*(d/Nat.gcd N d)/\d ∣ N*(d/Nat.gcd N d)/\N*(d/Nat.gcd N d)<=N*d:=by have g:Nat.gcd N d ∣ d:=ABv ..;have a:0<Nat.gcd N d:=ACL _ hd;refine⟨AA1 hN (Nat.div_pos (ABx hd g) a),Nat.dvd_mul_right .., ?_,ABT _ (ABt ..)⟩;rw[<-Nat.mul_div_assoc _ g];exact Nat.dvd_lcm_right ..
theorem Gy {W:Nat}:∀(n:Nat) (xs:zy Rat),xs.length=n->(∀x∈xs,Bd W x)->0<FY xs/\(∀x∈xs,x.den ∣ FY xs)/\FY xs<2^(n*W+1)
 | 0,xs,e,_=>by have:xs= [] :=ADw.mp e;subst this;exact⟨by decide,by simp,by simp[FY]⟩
 | n+1,xs,e,h=>by
   obtain⟨a,r,rfl⟩:∃a r,xs=a ++ [r] :=⟨xs.dropLast,xs.getLast (by intro z;subst z;cases e),(ADx _).symm⟩;have b:a.length=n:=by simpa using e
   obtain⟨h1,h2,h3⟩:=Gy n a b λx hx=>h x (by simp[hx]);have c:=(h r (by simp)).bot;rw[SM];obtain⟨d,k2,f,g⟩:=gF h1 r.den_pos;refine⟨d,λx hx=> ?_, ?_⟩
   .rcases AAQ.mp hx with hx|hx
    .exact ADy (h2 x hx) k2
    .simp at hx;subst hx;exact f
   .refine AAf g ?_;have:=Vn h3 c;rw[show n*W+1+W=(n+1)*W+1 by rw[ABQ];omega] at this;exact this
def Si (N:Nat)(r:Rat):Int:=r.num*((N:Int).fdiv (r.den:Int))
def F2 {N:Nat}{r:Rat}(h:r.den ∣ N):(Si N r:Rat)=r*N:=by
 obtain⟨k,rfl⟩:=h;have hd:=r.den_pos;unfold Si;rw[AC4,Int.mul_fdiv_cancel_left _ (by omega),AAS];have b:((r.den:Int):Rat)≠0:=λz=>by have:(r.den:Int)=0:=ADH.mp z;omega
 have e:r=(r.num:Rat)/((r.den:Int):Rat):=by rw[<-ABU,AAy]
 have a:r*((r.den:Int):Rat)=r.num:=by
  conv=>lhs;arg 1;rw[e]
  grind
 rw[<-a,show ((r.den*k:Nat):Rat)=((r.den:Int):Rat)*((k:Int):Rat) by rw[<-AAS,<-AC4,AAt]];grind
structure Pc where
 b:Rat
 e:Rat
 o0:T3
 o1:T3
def Pc.six (p:Pc):zy Rat:= [p.o0.1,p.o0.2.1,p.o0.2.2,p.o1.1,p.o1.2.1,p.o1.2.2]
def Pc.N (p:Pc):Nat:=FY p.six
def Kr (cs ds:zy C4)(b e:Rat):zy Rat:=PJ ([b,e] ++ ((cs.filter (OY b e)++ds.filter (OY b e)).map (·.1)))
def Ku {cs ds:zy C4}{b e x:Rat}:x∈Kr cs ds b e↔x=b\/x=e\/(b<x/\x<e/\∃c,(c∈cs\/c∈ds)/\c.1=x):=by
 unfold Kr;rw[DW];simp only[ACO,AA8,AAF,AAI,AAQ,AAR,OY,AA0,decide_eq_true_eq];constructor
 .rintro (h|h|⟨c,h,rfl⟩)
  .exact .inl h
  .exact .inr (.inl h)
  .rcases h with⟨h1,h2,h3⟩|⟨h1,h2,h3⟩
   .exact .inr (.inr ⟨h2,h3,c, .inl h1,rfl⟩)
   .exact .inr (.inr ⟨h2,h3,c, .inr h1,rfl⟩)
 .rintro (h|h|⟨h1,h2,c,h,rfl⟩)
  .exact .inl h
  .exact .inr (.inl h)
  .exact .inr (.inr ⟨c,h.elim (λh=> .inl ⟨h,h1,h2⟩) (λh=> .inr ⟨h,h1,h2⟩),rfl⟩)
def Zc (cs ds:zy C4)(d:Rat×Rat)(m:Rat):T3:=bB ((spotC cs m).getD (0,0,0)) ((spotC ds m).getD (0,0,0)) d
def oQ (cs ds:zy C4)(d:Rat×Rat)(a:zy Rat):zy Pc:=(a.zip a.tail).map λp=>⟨p.1,p.2,Zc cs ds d p.1,Zc cs ds d p.2⟩
structure uz (cs ds:List C4) (b e:Rat):Prop where
 lt:b<e
 one:∀m,b<=m->m<=e->∃t,spotC cs m=some t
 other:∀m,b<=m->m<=e->∃t,spotC ds m=some t
def lX {a l b c:C4}{r d:zy C4}(f:r≠ [])(g:d≠ [])(i:(a::r).getLast?=some l)(e:(b::d).getLast?=some c)(h:mx a.1 b.1<mn l.1 c.1):uz (a::r) (b::d) (mx a.1 b.1) (mn l.1 c.1):=by
 have j:a.1<=mx a.1 b.1:=by unfold mx;split <;> grind
 have k:b.1<=mx a.1 b.1:=by unfold mx;split <;> grind
 have n:mn l.1 c.1<=l.1:=by unfold mn;split <;> grind
 have o:mn l.1 c.1<=c.1:=by unfold mn;split <;> grind
 exact⟨h,λm h1 h2=>Em f i (by grind) (by grind),λm h1 h2=>Em g e (by grind) (by grind)⟩
def ZO {cs ds:zy C4}{b e:Rat}:dG (Kr cs ds b e):=Eg
def c7 {cs ds:zy C4}{b e x:Rat}(h:b<e)(hx:x∈Kr cs ds b e):b<=x/\x<=e:=by rcases Ku.mp hx with rfl|rfl|⟨h1,h2,_⟩ <;> exact⟨by grind,by grind⟩
def c6 {cs ds:zy C4}{b e x:Rat}{M:Nat}(hc:∀c∈cs,Bd M c.1)(a:∀c∈ds,Bd M c.1)(d:Bd M b)(f:Bd M e)(hx:x∈Kr cs ds b e):Bd M x:=by
 rcases Ku.mp hx with rfl|rfl|⟨_,_,c,h,rfl⟩
 .exact d
 .exact f
 .rcases h with h|h
  .exact hc c h
  .exact a c h
def VT (cs:zy C4):Rat:=(cs.head?.getD (0,0,0,0)).1
def lstM (cs:zy C4):Rat:=(cs.getLast?.getD (0,0,0,0)).1
def NC (cs ds:zy C4):Rat:=mx (VT cs) (VT ds)
def NH (cs ds:zy C4):Rat:=mn (lstM cs) (lstM ds)
def p6 (cs ds:zy C4):zy Rat:=Kr cs ds (NC cs ds) (NH cs ds)
structure Um (cs ds:List C4) (d:Rat×Rat) (M W:Nat):Prop where
 c1:∀c∈cs,GC 150 c
 c2:∀c∈ds,GC 150 c
 r1:Hh cs
 r2:Hh ds
 t1:2<=cs.length
 t2:2<=ds.length
 f1:cs.length<=100
 f2:ds.length<=100
 m1:∀c∈cs,Bd M c.1
 m2:∀c∈ds,Bd M c.1
 b1:Bd 100 d.1
 b2:Bd 100 d.2
 p1:0<d.1
 p2:0<d.2
 w:NC cs ds<NH cs ds->∀m∈p6 cs ds,Hi W (Zc cs ds d m)
 hM:M<=150
 hW:W<=1050
def open2 {cs:zy C4}(h:2<=cs.length):∃a r l,cs=a::r/\r≠ [] /\(a::r).getLast?=some l:=by
 match cs,h with
 | a::b::r,_=> obtain⟨l,c⟩:∃l,(a::b::r).getLast?=some l:=⟨_,ADu (by simp)⟩;exact⟨a,b::r,l,rfl,by simp,c⟩
def Lz {a:C4}{r:zy C4}:VT (a::r)=a.1:=rfl
def Fs {cs:zy C4}{l:C4}(e:cs.getLast?=some l):lstM cs=l.1:=by unfold lstM;rw[e];rfl
section
variable {cs ds:zy C4}{d:Rat×Rat}{M W:Nat}
theorem Um.fstB (D:Um cs ds d M W):Bd M (VT cs):=by obtain⟨a,r,l,rfl,b,c⟩:=open2 D.t1;exact D.m1 a (by simp)
theorem Um.fstB2 (D:Um cs ds d M W):Bd M (VT ds):=by obtain⟨a,r,l,rfl,b,c⟩:=open2 D.t2;exact D.m2 a (by simp)
theorem Um.lstB (D:Um cs ds d M W):Bd M (lstM cs):=by obtain⟨a,r,l,rfl,c,b⟩:=open2 D.t1;rw[Fs b];exact D.m1 l (ACg b)
theorem Um.lstB2 (D:Um cs ds d M W):Bd M (lstM ds):=by obtain⟨a,r,l,rfl,c,b⟩:=open2 D.t2;rw[Fs b];exact D.m2 l (ACg b)
theorem Um.begB (D:Um cs ds d M W):Bd M (NC cs ds):=D.fstB.mx D.fstB2
theorem Um.endB (D:Um cs ds d M W):Bd M (NH cs ds):=D.lstB.mn D.lstB2
theorem Um.tog (D:Um cs ds d M W)(h:NC cs ds<NH cs ds):uz cs ds (NC cs ds) (NH cs ds):=by obtain⟨a,r,l,rfl,e,c⟩:=open2 D.t1;obtain⟨g,i,j,rfl,f,b⟩:=open2 D.t2;unfold NC NH at h ⊢;rw[Lz,Lz,Fs c,Fs b] at h ⊢;exact lX e f c b h
end
def sW (cs ds:zy C4)(d:Rat×Rat):zy Pc:=if NC cs ds<NH cs ds then oQ cs ds d (p6 cs ds) else []
abbrev Og:AS:=
 (Ab (An (Fc Cw (AB (GW (Bx (M9 (aV 0)) 2 [3] (Hw 2 (Ad (Ar 0) (Ad (Ar 1) BY))) Ea (AX B9 (aV 0) (AX RD (aV 2) (aV 1))))) AL)) (Ar 4))
   (Ao (Aq (AB (aV 4) (AB (aV 1) (AB (Zy (aV 2) (aV 3)) AL))))))
abbrev MW:AS:=
 (Ab (An (AN 1 CB (AB (aV 0) AL)) (Ar 3))
   Og)
def EW:AF:=Ak 5 MW
def R7 {a b c:PV}{Q:PV->Prop}(h:MW ⟨λ_=>Q .non,Q,λ_=>False,λ_=>False⟩ [some (.val a),some (.val b),some (.val c),none,none]):EW [a,b,c] Q:=h
abbrev Sx:AS:=
 (Ab (Zz 5 6 7 1 3 (AX Ae (aV 0) (aC (.int 2))) (AX Ae (aV 2) (aC (.int 2))))
   (Ao (Aq (AB (aV 4) (AB (Fc (jJ max) (AB (AX Ae (aV 0) (aC (.int 1))) (AB (AX Ae (aV 2) (aC (.int 1))) AL))) (AB (aV 5) AL))))))
abbrev Sw:AS:=
 (Ab (An (Fc Cw (AB (GW (Bx (i6 (AB (AX Ae (aV 0) (aC (.int 0))) (AB (AX Ae (aV 2) (aC (.int 0))) AL))) 2 [1,3] (Hw 2 (Ad (Ar 0) (Ad (Ar 1) BY))) Ea (AX Ct (AX B9 (aV 2) (aV 0)) (AX B9 (aV 3) (aV 1))))) AL)) (Ar 4))
   Sx)
def GV:AF:=Ak 8 Sw
def V8 {a b c d:PV}{Q:PV->Prop}(h:Sw ⟨λ_=>Q .non,Q,λ_=>False,λ_=>False⟩ [some (.val a),some (.val b),some (.val c),some (.val d),none,none,none,none]):GV [a,b,c,d] Q:=h
abbrev PZ:AS:=
 (Ao (AN 4 GV (AB (aV 0) (AB (YB NJ (AX Ae (AX Ae (aV 1) (aC (.int 0))) (aV 2))) (AB (aV 1) (AB (AX Ae (AX Ae (aV 0) (aC (.int 0))) (aV 2)) AL))))))
def EL:AF:=Ak 3 PZ
def UO {a b c:PV}{Q:PV->Prop}(h:PZ ⟨λ_=>Q .non,Q,λ_=>False,λ_=>False⟩ [some (.val a),some (.val b),some (.val c)]):EL [a,b,c] Q:=h
abbrev MS:AS:=
 (Ab (An (AX Ae (AX Ae (aV 0) (aC (.int 0))) (aC (.int 0))) (Ar 1))
   (Ao (qL (AX Wz (aV 1) (aC (.int 0))) (Ld (AX NI (aV 1) (aC (.int 0))) (AX NI (AX Ae (aV 0) (aC (.int 1))) (aC (.int 1)))))))
def Dk:AF:=Ak 2 MS
def R5 {a:PV}{Q:PV->Prop}(h:MS ⟨λ_=>Q .non,Q,λ_=>False,λ_=>False⟩ [some (.val a),none]):Dk [a] Q:=h
abbrev Qr:AS:=
 (Ab (An (AX Ae (AX Ae (aV 0) (aC (.int 0))) (aV 1)) (Ar 3))
   (Ao (g9 (Ay (AX YT (aV 3) (aC (.int 0)))) (Aq (AB (YB NJ (aV 2)) (AB (aV 3) AL))) (Aq (AB (aV 2) (AB (YB NJ (aV 3)) AL))))))
abbrev Ph:AS:=
 (Ab (An (AX Ae (AX Ae (aV 0) (aC (.int 0))) (aC (.int 0))) (Ar 2))
   Qr)
def DH:AF:=Ak 4 Ph
def UV {a b:PV}{Q:PV->Prop}(h:Ph ⟨λ_=>Q .non,Q,λ_=>False,λ_=>False⟩ [some (.val a),some (.val b),none,none]):DH [a,b] Q:=h
abbrev LL:AS:=
 (Ab (B3 (Ay (AN 2 BD (AB (aV 4) (AB (aV 3) AL)))) (Ao (AX YT (AX Ae (AX Ae (aV 0) (aC (.int 0))) (aV 2)) (aC (.int 0)))) BE)
   (Ao (AX YT (AX Ae (aV 0) (aC (.int 1))) (AX Ae (aV 1) (aC (.int 1))))))
abbrev LK:AS:=
 (Ab (B3 (Ay (AN 2 BD (AB (aV 3) (AB (aV 4) AL)))) (Ao (AX Wz (AX Ae (AX Ae (aV 0) (aC (.int 0))) (aV 2)) (aC (.int 0)))) BE)
   LL)
abbrev LJ:AS:=
 (Ab (An (AN 2 DH (AB (aV 1) (AB (aV 2) AL))) (Ar 4))
   LK)
abbrev Im:AS:=
 (Ab (An (AN 2 DH (AB (aV 0) (AB (aV 2) AL))) (Ar 3))
   LJ)
def DQ:AF:=Ak 5 Im
def N5 {a b c:PV}{Q:PV->Prop}(h:Im ⟨λ_=>Q .non,Q,λ_=>False,λ_=>False⟩ [some (.val a),some (.val b),some (.val c),none,none]):DQ [a,b,c] Q:=h
abbrev Op:AS:=
 (Ab (Fk (M9 (aV 0)) (Ar 4) (B3 (JA (Ay (AX YT (AX B9 (AX Ae (AX Ae (aV 4) (aC (.int 0))) (aV 1)) (aV 2)) (aC (.int 0)))) (M8 (Ay (AX YU (aV 3) (aC .non))) (Ay (AN 3 DQ (AB (aV 4) (AB (aV 3) (AB (aV 1) AL))))))) (An (aV 4) (Ar 3)) BE))
   (Ao (aV 3)))
abbrev Mj:AS:=
 (Ab (An (aC .non) (Ar 3))
   Op)
def CZ:AF:=Ak 5 Mj
def SB {a b c:PV}{Q:PV->Prop}(h:Mj ⟨λ_=>Q .non,Q,λ_=>False,λ_=>False⟩ [some (.val a),some (.val b),some (.val c),none,none]):CZ [a,b,c] Q:=h
abbrev Of:AS:=
 (Ab (An (AN 3 EL (AB (AN 3 CZ (AB (aV 0) (AB (aV 1) (AB (aC (.int 1)) AL)))) (AB (aV 3) (AB (aV 1) AL)))) (Ar 4))
   (Ao (g9 (Ay (AN 1 Dk (AB (aV 4) AL))) (aV 4) (aC .non))))
abbrev Oe:AS:=
 (Ab (B3 (Ay (AX YU (aV 3) (aC .non))) (Ao (aC .non)) BE)
   Of)
abbrev Od:AS:=
 (Ab (An (AN 3 CZ (AB (aV 0) (AB (aV 1) (AB (YB NJ (aC (.int 1))) AL)))) (Ar 3))
   Oe)
abbrev MR:AS:=
 (Ab (Fk (M9 (aV 0)) (Ar 2) (B3 (JA (Ay (AX NI (AX Ae (AX Ae (aV 2) (aC (.int 0))) (aV 1)) (aC (.int 0)))) (Ay (AN 1 Dk (AB (aV 2) AL)))) (Ao (aV 2)) BE))
   Od)
def Dj:AF:=Ak 5 MR
def R4 {a b:PV}{Q:PV->Prop}(h:MR ⟨λ_=>Q .non,Q,λ_=>False,λ_=>False⟩ [some (.val a),some (.val b),none,none,none]):Dj [a,b] Q:=h
abbrev Om:AS:=
 (Ab (An (AN 2 DH (AB (aV 4) (AB (aV 1) AL))) (Ar 5))
   (Ao (Aq (AB (aV 3) (AB (AX IC (aC (.int 1)) (AX Ae (aV 2) (aC (.int 1)))) (AB (AN 2 Fh (AB (AX Ae (aV 5) (aC (.int 0))) (AB (AX Ae (aV 5) (aC (.int 1))) AL))) AL))))))
abbrev Ol:AS:=
 (Ab (B3 (Ay (AX YU (aV 4) (aC .non))) (Ao (Aq (AB (aV 3) (AB (AX IC (aC (.int 1)) (AX Ae (aV 2) (aC (.int 1)))) (AB (aC .non) AL))))) BE)
   Om)
abbrev Oj:AS:=
 (Ab (An (AN 3 CZ (AB (aV 0) (AB (aV 1) (AB (YB NJ (aC (.int 1))) AL)))) (Ar 4))
   Ol)
abbrev Oi:AS:=
 (Ab (An (AN 2 Fh (AB (AX Ae (aV 3) (aC (.int 0))) (AB (AX Ae (aV 3) (aC (.int 1))) AL))) (Ar 3))
   Oj)
abbrev Oh:AS:=
 (Ab (An (AN 2 DH (AB (aV 2) (AB (aV 1) AL))) (Ar 3))
   Oi)
abbrev MX:AS:=
 (Ab (An (AN 3 CZ (AB (aV 0) (AB (aV 1) (AB (aC (.int 1)) AL)))) (Ar 2))
   Oh)
def EX:AF:=Ak 6 MX
def R8 {a b:PV}{Q:PV->Prop}(h:MX ⟨λ_=>Q .non,Q,λ_=>False,λ_=>False⟩ [some (.val a),some (.val b),none,none,none,none]):EX [a,b] Q:=h
structure Fb where
 c0:Int
 c1:Int
 s:Int
 w:List (Int×Int)
structure dh (N:Nat) (p:Fb):Prop where
 a:p.c0.natAbs<2^N
 b:p.c1.natAbs<2^N
 w:∀e∈p.w,e.2.natAbs<2^N
 l:p.w.length<=12
 s:p.s=0\/p.s=1
def jC {a b:AE}{τ:BA}{Q:PV->Prop}:Zy a b τ Q=a τ λx=>b τ λy=>Sf x λi=>Sf y λj=>Q (.dk [(i,j)]):=by
 unfold Zy;congr 1
 funext x
 congr 1
 funext y
 cases x <;> cases y <;> rfl
instance{a b:AE}{τ:BA}{Q:PV->Prop}:Wp (Zy a b τ Q) (a τ λx=>b τ λy=>Sf x λi=>Sf y λj=>Q (.dk [(i,j)])):=⟨λh=>by rw[jC];exact h⟩
def N1 (p:Fb)(t:Rat):Rat:=p.c0+p.c1*t
def WD {S:Nat}{r:Rat}{W N:Nat}(b:Bd W r)(h:S<2^N):(Si S r).natAbs<2^(W+N):=by unfold Si;rw[AAr];refine Vn b.top ?_;rw[ABb _ (by omega),<-ABw,AAu];exact AAf (ABt ..) h
def OG {many:Int}{m:zy (Int×Int)}:(BS many m).length<=m.length:=by
 have key:∀(m a:zy (Int×Int)),(m.foldl (λa p=>Bm a p.1 (many*p.2)) a).length<=a.length+m.length:=by
  intro m;induction m with
  | nil=>intro a;simp
  | cons x r b=> intro a;rw[ABS,AAi];have:=b (Bm a x.1 (many*x.2));have:=JU a x.1 (many*x.2);omega
 have:=key m [];simpa[BS] using this
def HV (p:Fb):kn:=decide (p.c0<0\/(p.c0=0/\p.s=1))
def Bf (p:Fb):Int×Int:=if 0<p.c1 then (-p.c0,p.c1) else (p.c0, -p.c1)
def DN (p:Fb):Rat:= -(p.c0:Rat)/p.c1
def OR (p r:Fb):kn:=if (Bf p).1*(Bf r).2<(Bf r).1*(Bf p).2 then decide (p.c1<0) else if (Bf r).1*(Bf p).2<(Bf p).1*(Bf r).2 then decide (0<p.c1) else decide (r.s<p.s)
def G6 {p:Fb}{N:Nat}(h:dh N p):(Bf p).1.natAbs<2^N/\(Bf p).2.natAbs<2^N:=by
 unfold Bf;have:=h.a;have:=h.b;split
 .rw [ABu];exact⟨h.a,h.b⟩
 .rw [ABu];exact⟨h.a,h.b⟩
def NA {a b c d:Int}{N:Nat}(h1:a.natAbs<2^N)(h2:b.natAbs<2^N)(h3:c.natAbs<2^N)(e:d.natAbs<2^N)(hN:N<=10000){Q:PV->Prop}(q:Q (.bl (decide (a*d<c*b)))):BD [.tup [.int a, .int b], .tup [.int c, .int d]] Q:=by refine⟨.of h1 e, .of h3 h2,q⟩
def holds (p:Fb)(t:Rat):Prop:=0<N1 p t\/(N1 p t=0/\p.s=0)
def C8 {p:Fb}(h:p.c1≠0):0<(Bf p).2/\((Bf p).1:Rat)=DN p*((Bf p).2:Rat)/\(p.c0:Rat)= - (DN p*p.c1):=by
 have hc:(p.c1:Rat)≠0:=by exact_mod_cast h
 have e:DN p*(p.c1:Rat)= -(p.c0:Rat):=by unfold DN;exact ADI hc
 unfold Bf;split
 .rename_i h1;refine⟨h1, ?_, ?_⟩
  .rw [e];push_cast;rfl
  .rw [e];grind
 .rename_i h1;refine⟨by show 0 < -p.c1;omega, ?_, ?_⟩
  .push_cast;grind
  .rw [e];grind
def Xv {p r:Fb}(hp:p.c1≠0)(a:r.c1≠0):(Bf p).1*(Bf r).2<(Bf r).1*(Bf p).2↔DN p<DN r:=by
 obtain⟨b,c,_⟩:=C8 hp;obtain⟨d,b2,_⟩:=C8 a;have e:(0:Rat)<((Bf p).2:Rat):=by exact_mod_cast b
 have f:(0:Rat)<((Bf r).2:Rat):=by exact_mod_cast d
 rw[<-AB2,AAS,AAS,c,b2];generalize ((Bf p).2:Rat)=x at *;generalize ((Bf r).2:Rat)=y at *;have g:0<x*y:=ACP e f;rw[show DN p*x*y=DN p*(x*y) by grind,show DN r*y*x=DN r*(x*y) by grind];exact Rat.mul_lt_mul_right g
def Xc {p:Fb}(h:p.c1≠0)(t:Rat):N1 p t=p.c1*(t-DN p):=by obtain⟨_,_,e⟩:=C8 h;unfold N1;rw[e];grind
def Dr {p:Fb}(h:0<p.c1)(t:Rat):holds p t↔(DN p<t\/(DN p=t/\p.s=0)):=by
 have hc:(0:Rat)<p.c1:=by exact_mod_cast h
 unfold holds;rw[Xc (by omega)];have a:0<(p.c1:Rat)*(t-DN p)↔DN p<t:=by rw[ACQ hc];grind
 have k2:(p.c1:Rat)*(t-DN p)=0↔DN p=t:=by rw[ABf];grind
 rw[a,k2]
def DB {p:Fb}(h:p.c1<0)(t:Rat):holds p t↔(t<DN p\/(DN p=t/\p.s=0)):=by
 have hc:(0:Rat) < -(p.c1:Rat):=by
  have:(p.c1:Rat)<0:=by exact_mod_cast h
  grind
 unfold holds;rw[Xc (by omega)];have a:0<(p.c1:Rat)*(t-DN p)↔t<DN p:=by rw[show (p.c1:Rat)*(t-DN p)= -(p.c1:Rat)*(DN p-t) by grind,ACQ hc];grind
 have k2:(p.c1:Rat)*(t-DN p)=0↔DN p=t:=by rw[ABf];grind
 rw[a,k2]
def OS (sg:Int)(o:zt Fb)(p:Fb):zt Fb:=if 0<p.c1*sg then (match o with | none=>some p|some r=>if OR p r=true then some p else some r) else o
def tight (sg:Int)(ps:zy Fb):zt Fb:=ps.foldl (OS sg) none
def cz {p r:Fb}{sg:Int}(h:sg=1\/sg= -1)(hp:0<p.c1*sg)(a:0<r.c1*sg)(sp:p.s=0\/p.s=1)(d:r.s=0\/r.s=1)(t:Rat):(OR p r=true->holds p t->holds r t)/\(OR p r=false->holds r t->holds p t):=by
 have b:p.c1≠0:=by intro z;rw[z] at hp;simp at hp
 have c:r.c1≠0:=by intro z;rw[z] at a;simp at a
 unfold OR;simp only[Xv b c,Xv c b];rcases h with rfl|rfl
 .have hp:0<p.c1:=by omega
  have a:0<r.c1:=by omega
  rw[Dr hp,Dr a];split
  .simp [show ¬p.c1<0 by omega];grind
  .split
   .simp [hp];grind
   .simp;grind
 .have hp:p.c1<0:=by omega
  have a:r.c1<0:=by omega
  rw[DB hp,DB a];split
  .simp [hp];grind
  .split
   .simp [show ¬0<p.c1 by omega];grind
   .simp;grind
structure iu (sg:Int) (ps:List Fb) (o:Option Fb):Prop where
 no:o=none->∀p∈ps,¬0<p.c1*sg
 so:∀r,o=some r->r∈ps/\0<r.c1*sg/\∀p∈ps,0<p.c1*sg->∀t,holds r t->holds p t
def ZH {sg:Int}(h:sg=1\/sg= -1){ps:zy Fb}{o:zt Fb}{p:Fb}(hs:∀p∈ps,p.s=0\/p.s=1)(hp:p.s=0\/p.s=1)(i:iu sg ps o):iu sg (ps ++ [p]) (OS sg o p):=by
 unfold OS;split
 .rename_i h1;cases o with
  | none=>
    refine⟨λz=>(by cases z),λr e=> ?_⟩;cases e;refine⟨by simp,h1,λx hx h2 t a=> ?_⟩;rcases AAQ.mp hx with hx|hx
    .exact absurd h2 (i.no rfl x hx)
    .rw [AAc.mp hx];exact a
  | some r=>
    obtain⟨m,b,c⟩:=i.so r rfl;have d:=cz h h1 b hp (hs r m);dsimp only;split
    .rename_i h2;refine⟨λz=>(by cases z),λf e=> ?_⟩;cases e;refine⟨by simp,h1,λx hx h3 t a=> ?_⟩;rcases AAQ.mp hx with hx|hx
     .exact c x hx h3 t ((d t).1 h2 a)
     .rw [AAc.mp hx];exact a
    .rename_i h2;refine⟨λz=>(by cases z),λf e=> ?_⟩;cases e;refine⟨by simp[m],b,λx hx h3 t a=> ?_⟩;rcases AAQ.mp hx with hx|hx
     .exact c x hx h3 t a
     .rw [AAc.mp hx];exact(d t).2 (by simpa using h2) a
 .rename_i h1;refine⟨λz x hx=> ?_,λr e=> ?_⟩
  .rcases AAQ.mp hx with hx|hx
   .exact i.no z x hx
   .rw [AAc.mp hx];exact h1
  .obtain ⟨m,b,c⟩:=i.so r e;refine⟨by simp[m],b,λx hx h3 t a=> ?_⟩;rcases AAQ.mp hx with hx|hx
   .exact c x hx h3 t a
   .rw [AAc.mp hx] at h3;exact absurd h3 h1
def ZG (sg:Int)(a:zy Fb)(p:Fb):tight sg (a ++ [p])=OS sg (tight sg a) p:=by unfold tight;rw[ACe];rfl
theorem DM {sg:Int}(h:sg=1\/sg= -1):∀(n:Nat) (ps:zy Fb),ps.length=n->(∀p∈ps,p.s=0\/p.s=1)->iu sg ps (tight sg ps)
 | 0,ps,e,_=>by have:ps= [] :=ADw.mp e;subst this;exact⟨λ_=>by simp,λr e=>by cases e⟩
 | n+1,ps,e,hs=>by obtain⟨a,r,rfl⟩:∃a r,ps=a ++ [r] :=⟨ps.dropLast,ps.getLast (by intro z;subst z;cases e),(ADx _).symm⟩;rw[ZG];exact ZH h (λp hp=>hs p (by simp[hp])) (hs r (by simp)) (DM h n a (by simpa using e) λp hp=>hs p (by simp[hp]))
def WU {p:Fb}(h:p.c1≠0):Rat.divInt (Bf p).1 (Bf p).2=DN p:=by
 obtain⟨a,b,_⟩:=C8 h;have c:((Bf p).2:Rat)≠0:=by
  have:(0:Rat)<((Bf p).2:Rat):=by exact_mod_cast a
  grind
 rw[ABU,b];exact Rat.mul_div_cancel c
abbrev Hm:AS:=
 (Ab (An (AN 2 GU (AB (AN 2 Cm (AB (aV 5) (AB (aV 4) AL))) (AB (aV 2) AL))) (Ar 6))
   (GX 3 Ng (AB (Aq (AB (AN 2 Cm (AB (aV 4) (AB (AN 2 Fi (AB (aV 6) (AB (AX Ae (aV 0) (aC (.int 0))) AL))) AL))) (AB (aV 6) AL))) AL)))
abbrev Hq:AS:=
 (Ab (Fk (i6 (AB (dn (aV 0) (d3 (aC (.int 1))) dz) (AB (dn (aV 1) (d3 (aC (.int 1))) dz) AL))) (Hw 2 (Ad (Ar 4) (Ad (Ar 5) BY))) Hm)
   (Ao (Aq (AB (AX Ae (aV 0) (aC (.int 0))) (AB (AX Ae (aV 1) (aC (.int 0))) (AB (aV 3) AL))))))
abbrev Ho:AS:=
 (Ab (Le (FP AL) 3)
   Hq)
abbrev GA:AS:=
 (Ab (An (AN 2 Cm (AB (AX Ae (aV 1) (aC (.int 0))) (AB (AX Ae (aV 0) (aC (.int 0))) AL))) (Ar 2))
   Ho)
def Bh:AF:=Ak 7 GA
def JX {a b:PV}{Q:PV->Prop}(h:GA ⟨λ_=>Q .non,Q,λ_=>False,λ_=>False⟩ [some (.val a),some (.val b),none,none,none,none,none]):Bh [a,b] Q:=h
abbrev K0:AS:=
 (Ao (GW (Bx (Q6 (AB (AX IC (Fc GH (AB (aV 0) AL)) (aC (.int 1))) AL)) 1 [0] (Ar 0) Ea (AN 2 Bh (AB (AX Ae (aV 1) (aV 0)) (AB (AX Ae (aV 1) (AX Ct (aV 0) (aC (.int 1)))) AL))))))
def DG:AF:=Ak 1 K0
def PN {a:PV}{Q:PV->Prop}(h:K0 ⟨λ_=>Q .non,Q,λ_=>False,λ_=>False⟩ [some (.val a)]):DG [a] Q:=h
def ZF (b e:C4)(x y:Rat):Rat:=(y-x)/(e.1-b.1)
def Z4 (b e:C4)(x y:Rat):Rat:=x-ZF b e x y*b.1
def jp (b e:C4)(x y:Rat):PV:= .tup [fr (Z4 b e x y),fr (ZF b e x y)]
def CM (b e:C4):PV:= .tup [fr b.1,fr e.1, .lst [jp b e b.2.1 e.2.1,jp b e b.2.2.1 e.2.2.1,jp b e b.2.2.2 e.2.2.2]]
def WI {b e:C4}{x y:Rat}{B:Nat}(hb:Bd B b.1)(he:Bd B e.1)(hx:Bd B x)(a:Bd B y)(h:b.1<e.1):Bd (4*B+2) (ZF b e x y)/\Bd (6*B+3) (Z4 b e x y):=by have s:Bd (4*B+2) (ZF b e x y):=(Bd.div (by grind) (a.sub hx) (he.sub hb)).mono (by omega);exact⟨s,(hx.sub (s.mul hb)).mono (by omega)⟩
def bq {f:C4->PV}(a:f=cor\/f=corL){b e:C4}{B:Nat}(hb:GC B b)(he:GC B e)(h:b.1<e.1)(l:6*B+3<=3900){Q:PV->Prop}(q:Q (CM b e)):Bh [f b,f e] Q:=by
 obtain⟨c,d⟩:=WI hb.m he.m hb.x he.x h;obtain⟨g,i⟩:=WI hb.m he.m hb.y he.y h;obtain⟨j,k⟩:=WI hb.m he.m hb.z he.z h;have n:e.1-b.1≠0:=by grind
 have bs:=he.m.sub hb.m;apply JX;rcases a with rfl|rfl
 .repeat' array_get_dec
  exact q
 .repeat' array_get_dec
  show dH (.lst [fr b.1,fr b.2.1,fr b.2.2.1,fr b.2.2.2]) (some 1) none _;refine Dz ?_;repeat' array_get_dec
  show dH (.lst [fr e.1,fr e.2.1,fr e.2.2.1,fr e.2.2.2]) (some 1) none _;refine Dz ?_;show Sg (.lst [fr b.2.1,fr b.2.2.1,fr b.2.2.2]) λxs=>Sg (.lst [fr e.2.1,fr e.2.2.1,fr e.2.2.2]) λo=>_;repeat' array_get_dec
  exact q
def Dg (cs:zy C4):zy (C4×C4):=cs.zip cs.tail
def fh {cs:zy C4}{i:Nat}(h:i+1<cs.length):∃b e,cs[i]? =some b/\cs[i+1]? =some e/\(Dg cs)[i]? =some (b,e):=by refine⟨cs[i],cs[i+1],AAW _,AAW _, ?_⟩;unfold Dg;rw[AEO];refine⟨AAW _, ?_⟩;rw[List.getElem?_tail];exact AAW _
def DX {cs:zy C4}(a:Hh cs){p:C4×C4}(h:p∈Dg cs):p.1∈cs/\p.2∈cs/\p.1.1<p.2.1:=by obtain⟨i,hi⟩:=List.getElem?_of_mem h;unfold Dg at hi;rw[AEO] at hi;obtain⟨h1,h2⟩:=hi;rw[List.getElem?_tail] at h2;exact⟨ABo h1,ABo h2,R1 a h1 h2⟩
def b6 {cs:zy C4}{v:PV}{B:Nat}(hv:GD cs v)(hc:∀c∈cs,GC B c)(o:Hh cs)(h2:2<=cs.length)(hl:cs.length<=1000)(r:6*B+3<=3900){Q:PV->Prop}(q:Q (.lst ((Dg cs).map λp=>CM p.1 p.2))):DG [v] Q:=by
 obtain⟨f,s,hv⟩:=hv;apply PN;have t:(Dg cs).length=cs.length-1:=by unfold Dg;simp
 have go:∀w:PV,(∀(k:Int) (j:Nat) (c:C4) {R:PV->Prop},k=(j:Int)->cs[j]? =some c->R (f c)->Ae w (.int k) R)->C1 (Ar 0) Ea (AN 2 Bh (AB (AX Ae (aV 1) (aV 0)) (AB (AX Ae (aV 1) (AX Ct (aV 0) (aC (PV.int 1)))) AL))) [none,some (AV.val w)] (λxs=>Q (PV.lst xs)) (rng 0 ((cs.length:Int)-1).toNat) [] :=λw ix=>by
  refine Q9 (λi a=>a=((Dg cs).map λp=>CM p.1 p.2).take i) (λa e=> ?_) (λi hi a R n e=> ?_) rfl
  .rw [e,ACI (by rw[AAK,t];omega)];exact q
  .obtain ⟨b,d,g,l,ep⟩:=fh (cs:=cs) (i:=i) (by omega);have m:=n (a ++ [CM b d]) (by rw[e,List.take_add_one,AAg,ep];rfl);clear n;ac_rfl;refine ix _ i b (by omega) g ?_;ac_rfl;refine ix _ (i+1) d (by omega) l ?_;ac_rfl;refine bq s (hc b (ABo g)) (hc d (ABo l)) (R1 o g l) r ?_;exact m
 rcases hv with rfl|rfl
 .ac_rfl;exact go _ λk j c R hk e h=>Fo hk e h
 .ac_rfl;exact go _ λk j c R hk e h=>Fo hk e h
def Z7 {b:T3}{w:PV}(hw:X2 b w){R:PV->Prop}:(R (fr b.1)->Ae w (.int 0) R)/\(R (fr b.2.1)->Ae w (.int 1) R)/\(R (fr b.2.2)->Ae w (.int 2) R):=by rcases hw with rfl|rfl <;> exact⟨id,id,id⟩
abbrev Fm:=Rat×Rat×Int
def hF (f:Fm)(t:Rat):Prop:=0<f.1+f.2.1*t\/(f.1+f.2.1*t=0/\f.2.2=0)
structure qF (N:Nat) (f:Fm) (p:Fb):Prop where
 ok:dh N p
 s:p.s=f.2.2
 ex:∃S:Rat,0<S/\(p.c0:Rat)=f.1*S/\(p.c1:Rat)=f.2.1*S
def qF.sign {N:Nat}{f:Fm}{p:Fb}(h:qF N f p):(0<p.c1↔0<f.2.1)/\(p.c1<0↔f.2.1<0):=by
 obtain⟨S,c,e,d⟩:=h.ex;have a:0<p.c1↔(0:Rat)<(p.c1:Rat):=by rw[<-ABg,AB2]
 have b:p.c1<0↔(p.c1:Rat)<0:=by rw[<-ABg,AB2]
 rw[a,b,d];refine⟨?_, ?_⟩
 .rw [Rat.mul_comm,ACQ c]
 .constructor
  .intro k;have:0<S*(-f.2.1):=by grind
   rw[ACQ c] at this;grind
  .intro k;have:0<S*(-f.2.1):=ACP c (by grind);grind
def qF.turn {N:Nat}{f:Fm}{p:Fb}(h:qF N f p)(e:f.2.1≠0):f.1+f.2.1*DN p=0:=by
 obtain⟨S,g,b,a⟩:=h.ex;have hs:S≠0:=by grind
 have c:(p.c1:Rat)≠0:=by rw[a];intro z;rcases ABf.mp z with z|z <;> contradiction
 have d:p.c1≠0:=by intro z;rw[z] at c;exact c rfl
 have:=(C8 d).2.2;rw[b,a] at this;have:S*(f.1+f.2.1*DN p)=0:=by grind
 rcases ABf.mp this with z|z
 .contradiction
 .exact z
def qz (lo hi p:T3):Prop:=(lo.1<p.1/\p.1<hi.1)/\(lo.2.1<p.2.1/\p.2.1<hi.2.1)/\(lo.2.2<p.2.2/\p.2.2<hi.2.2)
instance (lo hi p:T3):Decidable (qz lo hi p):=by unfold qz;infer_instance
def jc (lo hi:T3)(p:C4×C4)(t:Rat):Prop:=p.1.1<=t/\t<p.2.1/\qz lo hi (inter p.1 p.2 t)
def ux (lo hi:T3)(p:C4×C4)(m:Rat):Prop:=m=p.1.1\/m=p.2.1\/(p.1.1<m/\m<p.2.1/\((p.1.2.1≠p.2.2.1/\((inter p.1 p.2 m).1=lo.1\/(inter p.1 p.2 m).1=hi.1))\/(p.1.2.2.1≠p.2.2.2.1/\((inter p.1 p.2 m).2.1=lo.2.1\/(inter p.1 p.2 m).2.1=hi.2.1))\/(p.1.2.2.2≠p.2.2.2.2/\((inter p.1 p.2 m).2.2=lo.2.2\/(inter p.1 p.2 m).2.2=hi.2.2))))
def Sa {p:Fb}{N:Nat}(h:dh N p)(c:p.c1≠0):Bd N (DN p):=by obtain⟨a,b⟩:=G6 h;rw[<-WU c];exact .divInt (by have:=(C8 c).1;omega) a b
structure Zv (N:Nat) (lo hi:T3) (p:C4×C4) (s:Cv):Prop where
 ok:GG N s
 fin:∃x,s.2.2=some x/\ux lo hi p x
 bmk:ux lo hi p s.1
 sem:∀t,Cp s (t,0)=true↔jc lo hi p t
structure I0 (N:Nat) (lo hi:T3) (us:List (C4×C4)) (ss:List Cv):Prop where
 ok:∀s∈ss,∃p∈us,Zv N lo hi p s
 all:∀p∈us,∀t,jc lo hi p t->∃s∈ss,Cp s (t,0)=true
 len:ss.length<=us.length
def I0.more {N:Nat}{lo hi:T3}{c:zy (C4×C4)}{ss:zy Cv}{p:C4×C4}{s:Cv}(h:I0 N lo hi c ss)(k:Zv N lo hi p s):I0 N lo hi (c ++ [p]) (ss ++ [s]):=by
 refine⟨λx hx=> ?_,λq a t b=> ?_,by have:=h.len;simp;omega⟩
 .rcases AAQ.mp hx with hx|hx
  .obtain ⟨q,a,r⟩:=h.ok x hx;exact⟨q,by simp[a],r⟩
  .rw [AAc.mp hx];exact⟨p,by simp,k⟩
 .rcases AAQ.mp a with a|a
  .obtain ⟨x,hx,r⟩:=h.all q a t b;exact⟨x,by simp[hx],r⟩
  .rw [AAc.mp a] at b;exact⟨s,by simp,(k.sem t).mpr b⟩
def I0.st {N:Nat}{lo hi:T3}{a:zy (C4×C4)}{ss:zy Cv}(h:I0 N lo hi a ss):∀s∈ss,GG N s:=λs hs=>let ⟨_,_,k⟩:=h.ok s hs;k.ok
instance{r:AA}{τ:BA}{a:zy PV->Prop}:Wp (qM r τ a) (r τ λb=>match b with | [.lst xs] =>a (Eb 0 xs)|_=>False):=⟨id⟩
def FU (a b:C4)(r:zy C4):Dg (a::b::r)=(a,b)::Dg (b::r):=rfl
theorem RT:∀{cs:zy C4} {l:C4},Hh cs->cs.getLast?=some l->∀c∈cs,c.1<=l.1
 | [],_,_,e,_,_=>by cases e
 | [a],l,_,e,c,hc=>by cases e;rw[AAc.mp hc];exact AAU
 | a::b::r,l,h,e,c,hc=>by
   rw[ACN] at e;have h':=AAN.mp h;have d:=RT h'.2 e;rcases AAF.mp hc with rfl|hc
   .have:=h'.1 b (by simp);have:=d b (by simp);grind
   .exact d c hc
def pI (k:Int)(c:C4):Rat:=if k % 3=0 then c.2.1 else if k % 3=1 then c.2.2.1 else c.2.2.2
def E6 (lo hi:T3):zy (Int×Rat):= [(0,lo.1),(1,lo.2.1),(2,lo.2.2),(3,hi.1),(4,hi.2.1),(5,hi.2.2)]
def qt (p:C4×C4)(u:Int×Rat)(m:Rat):Prop:=p.1.1<m/\m<p.2.1/\pI u.1 p.1≠pI u.1 p.2/\pI u.1 p.1+(m-p.1.1)/(p.2.1-p.1.1)*(pI u.1 p.2-pI u.1 p.1)=u.2
structure ic (W:Nat) (cs:List C4) (us:List (C4×C4)) (lo hi:T3) (p:C4×C4) (ws:List (Int×Rat)) (ms:List Rat):Prop where
 bd:∀m∈ms,Bd W m
 crn:∀c∈cs,c.1∈ms
 ed:∀p∈us,∀u∈E6 lo hi,∀m,qt p u m->m∈ms
 ed2:∀u∈ws,∀m,qt p u m->m∈ms
 len:ms.length<=cs.length+6*us.length+ws.length
def ic.more {W:Nat}{cs:zy C4}{b:zy (C4×C4)}{lo hi:T3}{p:C4×C4}{d:zy (Int×Rat)}{ms:zy Rat}{u:Int×Rat}(h:ic W cs b lo hi p d ms){x:Rat}(e:Bd W x)(k:∀m,qt p u m->m=x):ic W cs b lo hi p (d ++ [u]) (ms ++ [x]):=by
 refine⟨λm a=> ?_,λc hc=>by simp[h.crn c hc],λq f v hv m a=>by simp[h.ed q f v hv m a],λv hv m a=> ?_,by have:=h.len;simp;omega⟩
 .rcases AAQ.mp a with a|a
  .exact h.bd m a
  .rw [AAc.mp a];exact e
 .rcases AAQ.mp hv with hv|hv
  .simp [h.ed2 v hv m a]
  .rw [AAc.mp hv] at a;simp[k m a]
def sv (p:Int×Int):Rat:=(p.1:Rat)/(p.2:Rat)
def e8 {p q a b:T3}{d:Rat×Rat}{s:Rat}:bB (lin p q s) (lin a b s) d=lin (bB p a d) (bB q b d) s:=by
 unfold bB lin;simp only[AAp];congr 1
 .grind
 .congr 1 <;> grind
def dF {c:zy Rat}(h:dG c):∀p∈c.zip c.tail,p.1∈c/\p.2∈c/\p.1<p.2/\∀x∈c,¬(p.1<x/\x<p.2):=by
 induction c with
 | nil=>intro p hp;simp at hp
 | cons a r e=>
   cases r with
   | nil=>intro p hp;simp at hp
   | cons b r=>
     have h1:=AAN.mp h;intro p hp;simp only[List.tail_cons,List.zip_cons_cons,AAF] at hp;rcases hp with rfl|hp
     .refine ⟨by simp,by simp,h1.1 b (by simp),λx hx z=> ?_⟩;rcases AAF.mp hx with rfl|hx
      .grind
      .rcases AAF.mp hx with rfl|hx
       .grind
       .have:=(AAN.mp h1.2).1 x hx;grind
     .obtain ⟨d,k2,f,g⟩:=e h1.2 p hp;refine⟨by simp[d],by simp[k2],f,λx hx z=> ?_⟩;rcases AAF.mp hx with rfl|hx
      .have:=h1.1 p.1 d;grind
      .exact g x hx z
section
variable {cs ds:zy C4}{d:Rat×Rat}{M W:Nat}
structure rG (cs ds:List C4) (d:Rat×Rat) (M W:Nat) (p:Pc):Prop where
 lt:p.b<p.e
 w0:Hi W p.o0
 w1:Hi W p.o1
 bb:Bd M p.b
 be:Bd M p.e
 lo:NC cs ds<=p.b
 hi:p.e<=NH cs ds
 at0:p.o0=Zc cs ds d p.b
 u6:p.o1=Zc cs ds d p.e
 lin:∀m,p.b<=m->m<=p.e->Zc cs ds d m=lin p.o0 p.o1 ((m-p.b)/(p.e-p.b))
theorem Um.pc (D:Um cs ds d M W):∀p∈sW cs ds d,rG cs ds d M W p:=by
 intro p hp;unfold sW at hp;by_cases h:NC cs ds<NH cs ds
 .rw [AAE h] at hp;have e:=D.tog h;have i:∀x∈p6 cs ds,NC cs ds<=x/\x<=NH cs ds:=λx hx=>c7 h hx;have j:∀x∈p6 cs ds,Bd M x:=λx hx=>c6 D.m1 D.m2 D.begB D.endB hx;have k:∀x∈p6 cs ds,Hi W (Zc cs ds d x):=D.w h;unfold oQ at hp;obtain⟨q,s,rfl⟩:=AAI.mp hp;obtain⟨f,k2,g,t⟩:=dF ZO q s;have a:=i _ f;have b:=i _ k2;refine⟨g,k _ f,k _ k2,j _ f,j _ k2,a.1,b.2,rfl,rfl,λm m1 m2=> ?_⟩;have m1:q.1<=m:=m1;have m2:m<=q.2:=m2;have l:∀c,c∈cs\/c∈ds->¬(q.1<c.1/\c.1<q.2):=λc hc z=>by refine t c.1 (Ku.mpr (.inr (.inr ⟨by grind,by grind,c,hc,rfl⟩))) z
  obtain⟨y,n⟩:=e.one q.1 a.1 a.2;obtain⟨A,o⟩:=e.one q.2 b.1 b.2;obtain⟨B,f1⟩:=e.other q.1 a.1 a.2;obtain⟨t2,r⟩:=e.other q.2 b.1 b.2;have u:=QW D.r1 g m1 m2 (λc hc=>l c (.inl hc)) n o;have v:=QW D.r2 g m1 m2 (λc hc=>l c (.inr hc)) f1 r;show Zc cs ds d m=PL.lin (Zc cs ds d q.1) (Zc cs ds d q.2) ((m-q.1)/(q.2-q.1));unfold Zc;rw[u,v,n,o,f1,r];exact e8
 .rw [AAC h] at hp;cases hp
def RZ (cs ds:zy C4)(d:Rat×Rat)(m:Rat):Prop:=NC cs ds<=m/\m<NH cs ds/\rX (Zc cs ds d m)<1
instance {m:Rat}:Decidable (RZ cs ds d m):=by unfold RZ;infer_instance
structure gu (cs ds:List C4) (d:Rat×Rat) (B:Nat) (ss:List Cv):Prop where
 few:ss.length<=201
 ok:∀s∈ss,GG B s
 fin:∀s∈ss,∃x,s.2.2=some x
 sem:∀m,ss.any (Cp · (m,0))=true↔RZ cs ds d m
 pf:ss.length<=(sW cs ds d).length
end
def eI {ss:zy Cv}(a:∀s∈ss,∃x,s.2.2=some x)(k:Rat):∃m,k<m/\ss.any (Cp · (m,0))=false:=by
 induction ss with
 | nil=>exact⟨k+1,by grind,rfl⟩
 | cons s ss h=>
   obtain⟨x,hx⟩:=a s (by simp);have d:∀(b:zy Cv),(∀s∈b,∃x,s.2.2=some x)->∃n:Rat,k<n/\∀s∈b,∀x,s.2.2=some x->x<n:=by
    intro b;induction b with
    | nil=>intro _;exact⟨k+1,by grind,by simp⟩
    | cons t b e=>
      intro f;obtain⟨n,h1,h2⟩:=e λs hs=>f s (by simp[hs]);obtain⟨y,c⟩:=f t (by simp);by_cases z:y<n
      .refine ⟨n,h1,λs hs x hx=> ?_⟩;rcases AAF.mp hs with rfl|hs
       .rw [c] at hx;cases hx;exact z
       .exact h2 s hs x hx
      .refine ⟨y+1,by grind,λs hs x hx=> ?_⟩;rcases AAF.mp hs with rfl|hs
       .rw [c] at hx;cases hx;grind
       .have:=h2 s hs x hx;grind
   obtain⟨n,h1,h2⟩:=d (s::ss) a;refine⟨n,h1, ?_⟩;rw[List.any_eq_false];intro t g z;obtain⟨y,c⟩:=a t g;have:=h2 t g y c;unfold Cp at z;rw[c] at z;simp at z;grind
def YK {B:Nat}{ss:zy Cv}(ok:∀s∈ss,GG B s)(a:∀s∈ss,∃x,s.2.2=some x):∀r∈canon 1 ss,∃x,r.2.2=some x:=by
 intro r b;cases e:r.2.2 with
 | some x=>exact⟨x,rfl⟩
 | none=> exfalso;obtain⟨m,h1,h2⟩:=eI a r.1;rw[<-TD ok (p:=(m,0)) (.inl rfl)] at h2;rw[List.any_eq_false] at h2;refine h2 r b ?_;unfold Cp;rw[e];simp;exact .inl h1
structure Told (P:Rat->Prop) (B:Nat) (cc:List Cv):Prop where
 ok:∀s∈cc,GG B s
 fin:∀s∈cc,∃x,s.2.2=some x
 few:cc.length<=2000
 sem:∀m,cc.any (Cp · (m,0))=true↔P m
def gu.told {cs ds:zy C4}{d:Rat×Rat}{B:Nat}{ss:zy Cv}(n:gu cs ds d B ss):Told (RZ cs ds d) B (canon 1 ss):=
 ⟨Z9 n.ok,YK n.ok n.fin,by have:=VF (n:=1) (ss:=ss);have:=n.few;omega,λm=>by rw[TD n.ok (p:=(m,0)) (.inl rfl)];exact n.sem m⟩
abbrev MU:AS:=
 (Ao (Ld (Fc aK (AB (aV 0) (AB (aC (.ty "int")) AL))) (YB jD (Fc aK (AB (aV 0) (AB (aC (.ty "bool")) AL))))))
def Bp:AF:=Ak 1 MU
def JW {a:PV}{Q:PV->Prop}(h:MU ⟨λ_=>Q .non,Q,λ_=>False,λ_=>False⟩ [some (.val a)]):Bp [a] Q:=h
def Kx {i:Int}{Q:PV->Prop}(q:Q (.bl true)):Bp [.int i] Q:=by apply JW;ac_rfl;exact q
def I0.sem {N:Nat}{lo hi:T3}{a:zy (C4×C4)}{ss:zy Cv}(h:I0 N lo hi a ss)(m:Rat):ss.any (Cp · (m,0))=true↔∃p∈a,jc lo hi p m:=by
 rw[ACZ];constructor
 .rintro ⟨s,hs,k⟩;obtain⟨p,hp,o⟩:=h.ok s hs;exact⟨p,hp,(o.sem m).mp k⟩
 .rintro ⟨p,hp,k⟩;exact h.all p hp m k
def I0.fin {N:Nat}{lo hi:T3}{a:zy (C4×C4)}{ss:zy Cv}(h:I0 N lo hi a ss):∀s∈ss,∃x,s.2.2=some x:=λs hs=>by obtain⟨p,hp,k⟩:=h.ok s hs;obtain⟨x,hx,_⟩:=k.fin;exact⟨x,hx⟩
end PL
namespace PL
open PySem L2 PyProof.Rows PL.K31
abbrev Fl:=zy C4×T3
section
variable {lo hi:T3}{f:Fl}
def Hi.up {n m:Nat}{t:T3}(h:Hi n t)(k:n<=m):Hi m t:=⟨h.x.mono k,h.y.mono k,h.z.mono k⟩
end
end PL
namespace PL
open PySem L2 PL PyProof.Rows
abbrev Ml:AS:=
 (Ab (An (Aq (AB (Aq (AB (AN 1 CY (AB (AX Ae (aV 3) (aC (.int 0))) AL)) (AB (aC (.tup [(.int 1),(.int 1)])) (AB (aC (.tup [(.int 0),(.int 1)])) AL)))) (AB (Aq (AB (AX Ae (aV 3) (aC (.int 1))) (AB (aC (.tup [(.int (-1)),(.int 1)])) (AB (aC (.tup [(.int 0),(.int 1)])) AL)))) (AB (Aq (AB (AN 1 CY (AB (AX Ae (aV 4) (aC (.int 0))) AL)) (AB (aC (.tup [(.int 0),(.int 1)])) (AB (aC (.tup [(.int 1),(.int 1)])) AL)))) (AB (Aq (AB (AX Ae (aV 4) (aC (.int 1))) (AB (aC (.tup [(.int 0),(.int 1)])) (AB (aC (.tup [(.int (-1)),(.int 1)])) AL)))) (AB (Aq (AB (AX Ae (aV 6) (aC (.int 0))) (AB (aC (.tup [(.int 1),(.int 1)])) (AB (aC (.tup [(.int (-1)),(.int 1)])) AL)))) (AB (Aq (AB (AX Ae (aV 6) (aC (.int 1))) (AB (aC (.tup [(.int (-1)),(.int 1)])) (AB (aC (.tup [(.int 1),(.int 1)])) AL)))) AL))))))) (Ar 2))
   (Ao (AX Ae (aV 2) (aV 1))))
abbrev K3:AS:=
 (Ab (An (aV 0) (Hw 4 (Ad (Ar 3) (Ad (Ar 4) (Ad (Ar 5) (Ad (Ar 6) BY))))))
   Ml)
def D8:AF:=Ak 7 K3
def PQ {a b:PV}{Q:PV->Prop}(h:K3 ⟨λ_=>Q .non,Q,λ_=>False,λ_=>False⟩ [some (.val a),some (.val b),none,none,none,none,none]):D8 [a,b] Q:=h
abbrev Mf:AS:=
 (Ab (B3 (Ay (AX NI (AX YV (aV 1) (aC (.int 2))) (aC (.int 0)))) (Ao (Aq (AB (AN 2 Cm (AB (AX Ae (aV 6) (aV 2)) (AB (aV 3) AL))) (AB (AN 1 CY (AB (aV 9) AL)) (AB (aV 11) AL))))) BE)
   (Ao (Aq (AB (AN 2 EB (AB (AX Ae (aV 6) (aV 2)) (AB (aV 3) AL))) (AB (aV 9) (AB (AN 1 CY (AB (aV 11) AL)) AL))))))
abbrev Me:AS:=
 (Ab (An (AN 2 Cm (AB (aV 8) (AB (aV 10) AL))) (Ar 3))
   Mf)
abbrev Md:AS:=
 (Ab (An (AX Ae (AX Ae (aV 5) (aC (.int 2))) (aV 2)) (Hw 2 (Ad (Ar 10) (Ad (Ar 11) BY))))
   Me)
abbrev Mc:AS:=
 (Ab (An (AX Ae (AX Ae (aV 4) (aC (.int 2))) (aV 2)) (Hw 2 (Ad (Ar 8) (Ad (Ar 9) BY))))
   Md)
abbrev Mb:AS:=
 (Ab (An (AX RD (AX IC (aV 1) (aC (.int 6))) (aC (.int 2))) (Ar 2))
   Mc)
abbrev K2:AS:=
 (Ab (An (aV 0) (Hw 4 (Ad (Ar 4) (Ad (Ar 5) (Ad (Ar 6) (Ad (Ar 7) BY))))))
   Mb)
def BK:AF:=Ak 12 K2
def CL {a b:PV}{Q:PV->Prop}(h:K2 ⟨λ_=>Q .non,Q,λ_=>False,λ_=>False⟩ [some (.val a),some (.val b),none,none,none,none,none,none,none,none,none,none]):BK [a,b] Q:=h
abbrev Pa:AS:=
 (Ao (g9 (Ay (AX Wz (aV 1) (aC (.int 6)))) (AN 2 D8 (AB (aV 0) (AB (aV 1) AL))) (AN 2 BK (AB (aV 0) (AB (aV 1) AL)))))
def EM:AF:=Ak 2 Pa
def UP {a b:PV}{Q:PV->Prop}(h:Pa ⟨λ_=>Q .non,Q,λ_=>False,λ_=>False⟩ [some (.val a),some (.val b)]):EM [a,b] Q:=h
abbrev Sv:AS:=
 (Ab (i4 3 (aV 1) (aC (.int 0)))
   (Ao (Aq (AB (Fc Cw (AB (aV 3) AL)) (AB (AX Ae (aV 0) (aC (.int 1))) (AB (AX Ae (aV 0) (aC (.int 2))) AL))))))
abbrev Su:AS:=
 (Ab (g6 3 (aC (.int 0)) (AX B9 (AX Ae (AX Ae (aV 0) (aC (.int 0))) (aV 1)) (aV 4)))
   Sv)
abbrev Ss:AS:=
 (Ab (Le (Bx (M9 (AX Ae (aV 0) (aC (.int 0)))) 1 [5] (Ar 0) Ea (AX B9 (aV 1) (aV 0))) 3)
   Su)
abbrev So:AS:=
 (Ab (An (aV 2) (Hw 2 (Ad (Ar 4) (Ad (Ar 5) BY))))
   Ss)
def D6:AF:=Ak 6 So
def N6 {a b c:PV}{Q:PV->Prop}(h:So ⟨λ_=>Q .non,Q,λ_=>False,λ_=>False⟩ [some (.val a),some (.val b),some (.val c),none,none,none]):D6 [a,b,c] Q:=h
abbrev Ip:AS:=
 (Ab (Fk (nC (aV 0)) (Ar 2) (An (AN 2 EV (AB (aV 2) (AB (aV 1) AL))) (Ar 1)))
   (Ao (Fc Cw (AB (GW (Bx (M9 (Fc aM (AB (aV 0) AL))) 1 [1,0] (Ar 0) Ea (Aq (AB (aV 0) (AB (AN 1 HC (AB (AX RD (u5 (aV 2) (aV 0)) (aV 1)) AL)) AL))))) AL))))
abbrev GL:AS:=
 (Ab (An (aC (.int 0)) (Ar 1))
   Ip)
def Ca:AF:=Ak 3 GL
def KH {a:PV}{Q:PV->Prop}(h:GL ⟨λ_=>Q .non,Q,λ_=>False,λ_=>False⟩ [some (.val a),none,none]):Ca [a] Q:=h
abbrev Mm:AS:=
 (Ab (An (AN 2 EX (AB (aV 0) (AB (aV 1) AL))) (Hw 3 (Ad (Ar 2) (Ad (Ar 3) (Ad (Ar 4) BY)))))
   (Ao (AN 2 GU (AB (AN 2 EB (AB (aV 2) (AB (aV 4) AL))) (AB (AN 1 HC (AB (aC (.int 2)) AL)) AL)))))
def Cc:AF:=Ak 5 Mm
def SC {a b:PV}{Q:PV->Prop}(h:Mm ⟨λ_=>Q .non,Q,λ_=>False,λ_=>False⟩ [some (.val a),some (.val b),none,none,none]):Cc [a,b] Q:=h
abbrev GN:AS:=
 (Ab (B3 (Df (Ay (AN 2 BD (AB (AX Ae (aV 2) (aC (.int 0))) (AB (AN 2 EB (AB (AX Ae (aV 1) (aC (.int 1))) (AB (AX Ae (aV 4) (aC (.int 0))) AL))) AL))))) (Ao (Aq (AB (Aq (AB (aC (.int 1)) (AB (aC (.tup [(.int 1),(.int 1)])) AL))) (AB (Aq (AB (aC (.int 2)) (AB (aC (.tup [(.int 1),(.int 1)])) AL))) (AB (Aq (AB (aC (.int 4)) (AB (aC (.tup [(.int 1),(.int 1)])) AL))) AL))))) BE)
   (Ao (aC .non)))
abbrev GM:AS:=
 (Ab (B3 (Df (Ay (AN 2 BD (AB (AX Ae (aV 1) (aC (.int 0))) (AB (AN 2 EB (AB (AX Ae (aV 2) (aC (.int 1))) (AB (AX Ae (aV 4) (aC (.int 1))) AL))) AL))))) (Ao (Aq (AB (Aq (AB (aC (.int 0)) (AB (aC (.tup [(.int 1),(.int 1)])) AL))) (AB (Aq (AB (aC (.int 3)) (AB (aC (.tup [(.int 1),(.int 1)])) AL))) (AB (Aq (AB (aC (.int 5)) (AB (aC (.tup [(.int 1),(.int 1)])) AL))) AL))))) BE)
   GN)
abbrev Et:AS:=
 (Ab (An (aV 0) (Hw 4 (Ad (Ar 1) (Ad (Ar 2) (Ad (Ar 3) (Ad (Ar 4) BY))))))
   GM)
def Bj:AF:=Ak 5 Et
def HW {a:PV}{Q:PV->Prop}(h:Et ⟨λ_=>Q .non,Q,λ_=>False,λ_=>False⟩ [some (.val a),none,none,none,none]):Bj [a] Q:=h
abbrev Qu:AS:=
 (Ab (Fk (M9 (aV 3)) (Ar 6) (Fk (M9 (aV 4)) (Ar 7) (B3 (Ay (AX rT (i5 (AX Ae (aV 6) (aC (.int 2))) (AX Ae (aV 7) (aC (.int 2)))) (aV 2))) (GX 5 Ng (AB (AN 3 EL (AB (aV 6) (AB (aV 7) (AB (aV 1) AL)))) AL)) BE)))
   (Ao (aV 5)))
abbrev Qt:AS:=
 (Ab (Le (Bx (M9 (aV 0)) 1 [1] (Ar 0) (Ay (AX NI (AX Ae (AX Ae (aV 0) (aC (.int 0))) (aV 1)) (aC (.int 0)))) (aV 0)) 5)
   Qu)
abbrev Qs:AS:=
 (Ab (An (GW (Bx (M9 (aV 0)) 1 [1] (Ar 0) (Ay (AX Wz (AX Ae (AX Ae (aV 0) (aC (.int 0))) (aV 1)) (aC (.int 0)))) (aV 0))) (Ar 4))
   Qt)
abbrev Pi:AS:=
 (Ab (An (GW (Bx (M9 (aV 0)) 1 [1] (Ar 0) (Ay (AX YT (AX Ae (AX Ae (aV 0) (aC (.int 0))) (aV 1)) (aC (.int 0)))) (aV 0))) (Ar 3))
   Qs)
def EQ:AF:=Ak 8 Pi
def UW {a b c:PV}{Q:PV->Prop}(h:Pi ⟨λ_=>Q .non,Q,λ_=>False,λ_=>False⟩ [some (.val a),some (.val b),some (.val c),none,none,none,none,none]):EQ [a,b,c] Q:=h
abbrev Qk:AS:=
 (Ab (An (AN 2 Cc (AB (aV 3) (AB (aC (.int 1)) AL))) (Ar 5))
   (Ao (Aq (AB (Aq (AB (aV 5) (AB (AN 2 Cc (AB (GW (Bx (M9 (aV 2)) 1 [5] (Ar 0) Ea (AN 3 D6 (AB (aV 0) (AB (aC (.int 1)) (AB (aV 1) AL)))))) (AB (aC (.int 2)) AL))) AL))) (AB (aC .non) AL)))))
abbrev Qj:AS:=
 (Ab (B3 (Ay (AX NK (aV 4) (aC .non))) (Ao (Aq (AB (aC .non) (AB (AN 1 Ca (AB (AX Ae (aV 4) (aC (.int 2))) AL)) AL)))) BE)
   Qk)
abbrev Qi:AS:=
 (Ab (An (AN 2 Dj (AB (aV 3) (AB (aC (.int 1)) AL))) (Ar 4))
   Qj)
abbrev Qg:AS:=
 (Ab (An (Zx 3 EQ 2 (AB (aV 2) (AB (aC (.int 2)) AL))) (Ar 3))
   Qi)
abbrev Qf:AS:=
 (Ab (An (GW (Bx (Q6 (AB (aC (.int 12)) AL)) 1 [0] (Ar 0) Ea (AN 3 EW (AB (AN 2 EM (AB (aV 1) (AB (aV 0) AL))) (AB (AX Ae (aC (.tup [(.int 0),(.int 1),(.int 0),(.int 1),(.int 0),(.int 0),(.int 1),(.int 1),(.int 1),(.int 1),(.int 1),(.int 1)])) (aV 0)) (AB (aV 0) AL)))))) (Ar 2))
   Qg)
abbrev Qe:AS:=
 (Ab (B3 (Ay (AX NK (aV 1) (aC .non))) (Ao (Aq (AB (aC .non) (AB (aV 1) AL)))) BE)
   Qf)
abbrev Pe:AS:=
 (Ab (An (AN 1 Bj (AB (aV 0) AL)) (Ar 1))
   Qe)
def FN:AF:=Ak 6 Pe
def US {a:PV}{Q:PV->Prop}(h:Pe ⟨λ_=>Q .non,Q,λ_=>False,λ_=>False⟩ [some (.val a),none,none,none,none,none]):FN [a] Q:=h
abbrev Mq:AS:=
 (Ab (Fk (qM (AB (AN 1 DG (AB (AX Ae (aV 0) (aC (.int 0))) AL)) AL)) (Hw 2 (Ad (Ar 7) (Ad (Ar 8) BY))) (Fk (qM (AB (aV 5) AL)) (Hw 2 (Ad (Ar 9) (Ad (Ar 10) BY))) (GX 6 Ng (AB (Aq (AB (aV 7) (AB (aV 9) (AB (Aq (AB (aV 8) (AB (aV 10) (AB (aV 3) (AB (aV 4) AL))))) AL)))) AL))))
   (Ao (aV 6)))
abbrev Mp:AS:=
 (Ab (Le (FP AL) 6)
   Mq)
abbrev Mo:AS:=
 (Ab (An (AN 1 DG (AB (AX Ae (aV 1) (aC (.int 0))) AL)) (Ar 5))
   Mp)
abbrev Mn:AS:=
 (Ab (An (Aq (AB (AX Ae (AX Ae (aV 0) (aC (.int 1))) (aC (.int 2))) (AB (AX Ae (AX Ae (aV 1) (aC (.int 1))) (aC (.int 2))) AL))) (Ar 4))
   Mo)
abbrev K4:AS:=
 (Ab (An (AN 3 EY (AB (aV 0) (AB (aV 1) (AB (aV 2) AL)))) (Ar 3))
   Mn)
def B5:AF:=Ak 11 K4
def PR {a b c:PV}{Q:PV->Prop}(h:K4 ⟨λ_=>Q .non,Q,λ_=>False,λ_=>False⟩ [some (.val a),some (.val b),some (.val c),none,none,none,none,none,none,none,none]):B5 [a,b,c] Q:=h
abbrev LW:AS:=
 (Ab (B3 (Ay (AX NK (aV 7) (aC .non))) (Ao (Aq (AB (aC (.str "meet")) (AB (AX Ae (aV 7) (aC (.int 0))) (AB (AX Ae (aV 7) (aC (.int 1))) AL))))) BE)
   (GX 3 Ng (AB (Aq (AB (aV 4) (AB (aV 5) (AB (aV 8) AL)))) AL)))
abbrev Ql:AS:=
 (Ab (An (AN 1 FN (AB (aV 6) AL)) (Hw 2 (Ad (Ar 7) (Ad (Ar 8) BY))))
   LW)
abbrev Qm:AS:=
 (Ab (Fk (M9 (AN 3 B5 (AB (aV 0) (AB (aV 1) (AB (aV 2) AL))))) (Hw 3 (Ad (Ar 4) (Ad (Ar 5) (Ad (Ar 6) BY)))) Ql)
   (Ao (Aq (AB (aC (.str "apart")) (AB (Fc Cw (AB (aV 3) AL)) AL)))))
abbrev Pf:AS:=
 (Ab (Le (FP AL) 3)
   Qm)
def BW:AF:=Ak 9 Pf
def UT {a b c:PV}{Q:PV->Prop}(h:Pf ⟨λ_=>Q .non,Q,λ_=>False,λ_=>False⟩ [some (.val a),some (.val b),some (.val c),none,none,none,none,none,none]):BW [a,b,c] Q:=h
end PL
namespace PL
open PySem L2 PyProof.Rows
def VC {a b:Rat}{Q:PV->Prop}(ha:Bd 8800 a)(hb:Bd 8800 b)(h:Q (.bl (decide (a<b)))):BD [fr a,fr b] Q:=by refine⟨.of ha.top hb.botI, .of hb.top ha.botI, ?_⟩;rw[<-iC] at h;exact h
def bO {a b:Rat}{Q:PV->Prop}(c:b≠0)(ha:Bd 8000 a)(hb:Bd 100 b)(h:Q (fr (a/b))):GU [fr a,fr b] Q:=by refine⟨.of ha.top hb.botI, .of ha.botI hb.top,rfl,Dn _ _ (DC (BZ a) (Vo c)) (Al (Bl (a:=(a.den:Int)) ha.botI hb.top) (by omega)) _ ?_⟩;rw[IA] at h;exact h
instance (priority:=high){a b:Rat}{Q:PV->Prop}:ZU (BD [fr a,fr b] Q) (Bd 8800 a/\Bd 8800 b) (Q (.bl (decide (a<b)))):=⟨λc h=>VC c.1 c.2 h⟩
structure Bw where
 c0:Int
 c1:Int
 c2:Int
 s:Int
 w:List (Int×Int)
def Av (p:Bw):PV:= .tup [.tup [.int p.c0, .int p.c1, .int p.c2], .int p.s, .dk p.w]
def OX (a:kn):Int:=if a then 2 else 1
def Bw.pr (a:kn)(p:Bw):Fb:=⟨p.c0,if a then p.c2 else p.c1,p.s,p.w⟩
structure Bc (N:Nat) (p:Bw):Prop where
 a:p.c0.natAbs<2^N
 b:p.c1.natAbs<2^N
 c:p.c2.natAbs<2^N
 w:∀e∈p.w,e.2.natAbs<2^N
 l:p.w.length<=12
 s:p.s=0\/p.s=1
def Bc.pr {N:Nat}{p:Bw}(h:Bc N p)(a:kn):dh N (p.pr a):=⟨h.a,by cases a;exact h.b;exact h.c,h.w,h.l,h.s⟩
instance{p:Bw}:Ix (Av p) 0 (.tup [.int p.c0, .int p.c1, .int p.c2]):=⟨rfl⟩
instance{p:Bw}:Ix (Av p) 1 (.int p.s):=⟨rfl⟩
instance{p:Bw}:Ix (Av p) 2 (.dk p.w):=⟨rfl⟩
def GY {a:kn}{p:Bw}{Q:PV->Prop}(q:Q (.int (p.pr a).c1)):Ae (.tup [.int p.c0, .int p.c1, .int p.c2]) (.int (OX a)) Q:=by cases a <;> exact q
def pP (p r:Bw)(many more:Int):Bw:=⟨many*p.c0+more*r.c0,many*p.c1+more*r.c1,many*p.c2+more*r.c2,max p.s r.s,BR more (BS many p.w) r.w⟩
def gY {p r:Bw}{N:Nat}{many more:Int}(hp:Bc N p)(f:Bc N r)(h1:many.natAbs<2^N)(h2:more.natAbs<2^N)(hN:N<=10000){Q:PV->Prop}(q:Q (Av (pP p r many more))):GV [Av p, .int many,Av r, .int more] Q:=by
 have d:∀x y:Int,x.natAbs<2^N->y.natAbs<2^N->MulOk x y:=λx y a b=> .of a b;have sl:(BS many p.w).length<=p.w.length:=OG;have g:=hp.l;have h:=f.l;apply V8;repeat' array_get_dec
 refine⟨d _ _ h1 hp.a, ?_⟩;repeat' array_get_dec
 refine⟨d _ _ h2 f.a, ?_⟩;repeat' array_get_dec
 refine⟨d _ _ h1 hp.b, ?_⟩;repeat' array_get_dec
 refine⟨d _ _ h2 f.b, ?_⟩;repeat' array_get_dec
 refine⟨d _ _ h1 hp.c, ?_⟩;repeat' array_get_dec
 refine⟨d _ _ h2 f.c, ?_⟩;repeat' array_get_dec
 refine⟨⟨ABP rfl,ABP rfl,ABP rfl⟩, ?_⟩;repeat' array_get_dec
 refine⟨many,rfl,Nf (n:=12) g (by decide),λe he=>d _ _ h1 (hp.w e he), ?_⟩;show AX Ae (aV 2) (aC (.int 2)) [some (AV.val (Av p)),some (AV.val (PV.int many)),some (AV.val (Av r)),some (AV.val (PV.int more)),some (AV.val (PV.tup [PV.int (many*p.c0+more*r.c0),PV.int (many*p.c1+more*r.c1),PV.int (many*p.c2+more*r.c2)])),none,none,none] _;repeat' array_get_dec
 refine⟨more,rfl,Nf (n:=24) (by omega) (by decide),λe he=>d _ _ h2 (f.w e he), ?_⟩;simp only[ADA,ADz];repeat' array_get_dec
 exact q
def A5 (a:kn)(p r:Bw):Bw:=pP p r (-(r.pr a).c1) (p.pr a).c1
def Py {a:kn}{p r:Bw}{N:Nat}(hp:Bc N p)(c:Bc N r)(hN:N<=10000){Q:PV->Prop}(q:Q (Av (A5 a p r))):EL [Av p,Av r, .int (OX a)] Q:=by
 apply UO;repeat' array_get_dec
 refine GY ?_;repeat' array_get_dec
 refine GY ?_;repeat' array_get_dec
 exact gY hp c (by rw[ABu];exact(c.pr a).b) (hp.pr a).b hN q
def QK {p:Bw}(a:kn){Q:PV->Prop}(q:Q (.bl (HV (p.pr a)))):Dk [Av p] Q:=by
 unfold HV at q;have b:(p.pr a).c0=p.c0:=rfl;have c:(p.pr a).s=p.s:=rfl;rw[b,c] at q;apply R5;repeat' array_get_dec
 .rename_i h;rw[AAO (.inl h)] at q;exact q
 .rename_i h1 h2;rw[show decide (p.c0<0\/p.c0=0/\p.s=1)=decide (p.s=1) by rw[ABy];omega] at q;exact q
 .rename_i h1 h2;rw[AAa (by omega)] at q;exact q
def Jh {a:kn}{p:Bw}{Q:PV->Prop}(q:Q (.tup [.int (Bf (p.pr a)).1, .int (Bf (p.pr a)).2])):DH [Av p, .int (OX a)] Q:=by
 unfold Bf at q;have b:(p.pr a).c0=p.c0:=rfl;rw[b] at q;apply UV;repeat' array_get_dec
 refine GY ?_;generalize (p.pr a).c1=f at *;repeat' array_get_dec
 .rename_i h;rw[AAE h] at q;exact q
 .rename_i h;rw[AAC h] at q;exact q
def Uc {a:kn}{p r:Bw}{N:Nat}(hp:Bc N p)(e:Bc N r)(hN:N<=10000){Q:PV->Prop}(q:Q (.bl (OR (p.pr a) (r.pr a)))):DQ [Av p,Av r, .int (OX a)] Q:=by
 obtain⟨b,c⟩:=G6 (hp.pr a);obtain⟨d,b2⟩:=G6 (e.pr a);unfold OR at q;apply N5;ac_rfl;refine Jh ?_;ac_rfl;refine Jh ?_;ac_rfl;refine NA b c d b2 hN ?_;ac_rfl
 .rename_i h;refine GY ?_;ac_rfl;rw[AAE h] at q;exact q
 rename_i h;rw[AAC h] at q;refine NA d b2 b c hN ?_;ac_rfl
 .rename_i h;refine GY ?_;ac_rfl;rw[AAE h] at q;exact q
 .rename_i h;rw[AAC h] at q;exact q
instance{p:Bw}{Q:PV->Prop}:Wp (YU (Av p) .non Q) (Q (.bl false)):=⟨id⟩
def Rq:zt Bw->PV|none=> .non|some p=>Av p
def G5 (a:kn)(sg:Int)(o:zt Bw)(p:Bw):zt Bw:=if 0<(p.pr a).c1*sg then (match o with | none=>some p|some r=>if OR (p.pr a) (r.pr a)=true then some p else some r) else o
def Ci (a:kn)(sg:Int)(ps:zy Bw):zt Bw:=ps.foldl (G5 a sg) none
def WV {a:kn}{sg:Int}{o:zt Bw}{p:Bw}:(G5 a sg o p).map (Bw.pr a)=OS sg (o.map (Bw.pr a)) (p.pr a):=by
 unfold G5 OS;split
 .cases o with
  | none=>rfl
  | some r=>
    show Option.map _ (if OR (p.pr a) (r.pr a)=true then some p else some r)=if OR (p.pr a) (r.pr a)=true then some (p.pr a) else some (r.pr a)
    cases OR (p.pr a) (r.pr a) <;> rfl
 .rfl
def WR (a:kn)(sg:Int)(b:zy Bw)(p:Bw):Ci a sg (b ++ [p])=G5 a sg (Ci a sg b) p:=by unfold Ci;rw[ACe];rfl
def WS {a:kn}{sg:Int}{ps:zy Bw}:(Ci a sg ps).map (Bw.pr a)=tight sg (ps.map (Bw.pr a)):=by
 have key:∀(ps:zy Bw) (o:zt Bw),(ps.foldl (G5 a sg) o).map (Bw.pr a)=(ps.map (Bw.pr a)).foldl (OS sg) (o.map (Bw.pr a)):=by
  intro ps;induction ps with
  | nil=>intro o;rfl
  | cons p ps b=> intro o;rw[ABS,b,WV];rfl
 exact key ps none
def Dw {a:kn}{sg:Int}:∀{ps:zy Bw} {r:Bw},Ci a sg ps=some r->r∈ps:=by
 have key:∀(ps:zy Bw) (o:zt Bw) (r:Bw),ps.foldl (G5 a sg) o=some r->r∈ps\/o=some r:=by
  intro ps;induction ps with
  | nil=>intro o r h;exact .inr h
  | cons p ps b=>
    intro o r h;rcases b _ _ h with h|h
    .exact .inl (by simp[h])
    .unfold G5 at h;split at h
     .cases o with
      | none=>cases h;exact .inl (by simp)
      | some q=>
        dsimp only at h;split at h
        .cases h;exact .inl (by simp)
        .exact .inr h
     .exact .inr h
 intro ps r h;rcases key ps none r h with h|h
 .exact h
 .cases h
def EK {v:PV}{a:kn}{ps:zy Bw}{N:Nat}{sg:Int}(hv:v= .lst (ps.map Av))(h:sg=1\/sg= -1)(ok:∀p∈ps,Bc N p)(hN:N<=10000)(hl:ps.length<=1000){Q:PV->Prop}(q:Q (Rq (Ci a sg ps))):CZ [v, .int (OX a), .int sg] Q:=by
 subst hv;apply SB;ac_rfl;refine CS Av (λd vs τ=>∃f,τ= [some (.val (.lst (ps.map Av))),some (.val (.int (OX a))),some (.val (.int sg)),some (.val (Rq (Ci a sg d))),f]) ?_ ?_ ⟨_,rfl⟩
 .rintro τ ⟨f,rfl⟩;ac_rfl;exact q
 .rintro d p vs e τ R i ⟨f,rfl⟩;have j:Bc N p:=ok p (by rw[<-e];simp);have k:∀x∈d,Bc N x:=λx hx=>ok x (by rw[<-e];simp[hx]);have c:=i [some (.val (.lst (ps.map Av))),some (.val (.int (OX a))),some (.val (.int sg)),some (.val (Rq (Ci a sg (d ++ [p])))),some (.val (Av p))] ⟨_,rfl⟩;clear i;rw[WR] at c;unfold G5 at c;have m1:MulOk (p.pr a).c1 sg:= .of (m:=10000) (n:=10000) (Al (j.pr a).b hN) (Al (m:=1) (by omega) (by decide));cases g:Ci a sg d with
  | none=>
    rw[g] at c;rw[show Rq none=PV.non from rfl];ac_rfl;refine GY ?_;ac_rfl
    .rename_i z;rw[AAE z] at c;exact c
    .rename_i z;rw[AAC z] at c;exact c
  | some r=>
    rw[g] at c;have l:=k r (Dw g);rw[show Rq (some r)=Av r from rfl];ac_rfl;refine GY ?_;ac_rfl
    .rename_i z;rw[AAE z] at c;refine Uc j l hN ?_;dsimp only at c;cases hb:OR (p.pr a) (r.pr a) with
     | true=> rw[hb,AAE rfl] at c;ac_rfl;exact c
     | false=> rw[hb,AAC (by decide)] at c;ac_rfl;exact c
    .rename_i z;rw[AAC z] at c;exact c
def Y9 {v:PV}{a:kn}{ps:zy Bw}{N:Nat}{l h:Bw}(hv:v= .lst (ps.map Av))(ok:∀p∈ps,Bc N p)(hN:N<=8900)(hl:ps.length<=1000)(b:Ci a 1 ps=some l)(c:Ci a (-1) ps=some h)(d:(l.pr a).c1≠0)(e:(h.pr a).c1≠0){Q:PV->Prop}(q:Q (.tup [fr (DN (l.pr a)), .int (1-l.s),fr (DN (h.pr a))])):EX [v, .int (OX a)] Q:=by have f:=G6 ((ok l (Dw b)).pr a);have b2:=G6 ((ok h (Dw c)).pr a);have g:=(C8 d).1;have t2:=(C8 e).1;rw[<-WU d,<-WU e] at q;apply R8;ac_rfl;refine EK hv (.inl rfl) ok (by omega) hl ?_;rw[b,show Rq (some l)=Av l from rfl];ac_rfl;refine Jh ?_;ac_rfl;refine Dn _ _ (by omega) (Al f.2 hN) _ ?_;ac_rfl;refine EK hv (.inr rfl) ok (by omega) hl ?_;rw[c,show Rq (some h)=Av h from rfl];ac_rfl;refine Jh ?_;ac_rfl;refine Dn _ _ (by omega) (Al b2.2 hN) _ ?_;ac_rfl;exact q
def rP:Bd 100 ((2:Int):Rat):=by constructor <;> decide
def QY {v:PV}{a:kn}{ps:zy Bw}{N:Nat}{l h:Bw}(hv:v= .lst (ps.map Av))(ok:∀p∈ps,Bc N p)(hN:N<=8900)(hl:ps.length<=1000)(b:Ci a 1 ps=some l)(c:Ci a (-1) ps=some h)(d:(l.pr a).c1≠0)(e:(h.pr a).c1≠0)(f:Bd 3900 (DN (l.pr a)))(b2:Bd 3900 (DN (h.pr a))){Q:PV->Prop}(q:Q (fr ((DN (l.pr a)+DN (h.pr a))/2))):Cc [v, .int (OX a)] Q:=by apply SC;ac_rfl;refine Y9 hv ok hN hl b c d e ?_;ac_rfl;refine bO (by grind) ((f.add b2).mono (by decide)) rP ?_;exact q
def TK {p:Fb}(h:p.c1=0)(t u:Rat):holds p t↔holds p u:=by
 unfold holds N1;rw[h];have e:∀t:Rat,(p.c0:Rat)+((0:Int):Rat)*t=p.c0:=λt=>by grind
 rw[e,e]
def QH {ps:zy Fb}{l h:Fb}(hs:∀p∈ps,p.s=0\/p.s=1)(g:tight 1 ps=some l)(i:tight (-1) ps=some h){t0:Rat}(a:∀p∈ps,holds p t0):∀p∈ps,holds p ((DN l+DN h)/2):=by
 have b:=(DM (.inl rfl) ps.length ps rfl hs).so l g;have c:=(DM (.inr rfl) ps.length ps rfl hs).so h i;have d:0<l.c1:=by have:=b.2.1;omega
 have f:h.c1<0:=by have:=c.2.1;omega
 have k:=(Dr d t0).mp (a l b.1);have m:=(DB f t0).mp (a h c.1);by_cases n:DN l<DN h
 .have j:holds l ((DN l+DN h)/2):=(Dr d _).mpr (.inl (by grind));have k2:holds h ((DN l+DN h)/2):=(DB f _).mpr (.inl (by grind));intro p hp;rcases AD0 p.c1 0 with z|z|z
  .exact c.2.2 p hp (by omega) _ k2
  .exact (TK z _ _).mp (a p hp)
  .exact b.2.2 p hp (by omega) _ j
 .have e:(DN l+DN h)/2=t0:=by grind
  rw[e];exact a
def K8 {l h:Fb}(b:0<l.c1)(c:h.c1<0)(r:l.s=0\/l.s=1)(u:h.s=0\/h.s=1)(w:zy (Int×Int)):HV ⟨-h.c1*l.c0+l.c1*h.c0, -h.c1*l.c1+l.c1*h.c1,max l.s h.s,w⟩=false↔∃t,holds l t/\holds h t:=by
 have g:(0:Rat)<l.c1:=by exact_mod_cast b
 have i:(0:Rat) < -(h.c1:Rat):=by
  have:(h.c1:Rat)<0:=by exact_mod_cast c
  grind
 have k:((-h.c1*l.c0+l.c1*h.c0:Int):Rat)=(l.c1 * -(h.c1:Rat))*(DN h-DN l):=by
  push_cast
  rw[(C8 (p:=l) (by omega)).2.2,(C8 (p:=h) (by omega)).2.2];grind
 have pos:=ACP g i;have key:DN l<DN h↔0 < -h.c1*l.c0+l.c1*h.c0:=by rw[<-AB2,k,ABg,ACQ pos];grind
 have a:DN l=DN h↔ -h.c1*l.c0+l.c1*h.c0=0:=by
  rw[<-ADH,k,ABg,ABf];constructor
  .intro e;right;grind
  .rintro (z|z)
   .grind
   .grind
 unfold HV;rw[AD1];dsimp only;constructor
 .intro n;rcases Int.lt_or_eq_of_le (show 0<= -h.c1*l.c0+l.c1*h.c0 by omega) with z|z
  .have m:=key.mpr z;exact⟨(DN l+DN h)/2,(Dr b _).mpr (.inl (by grind)),(DB c _).mpr (.inl (by grind))⟩
  .have j:=a.mpr z.symm;have m0:l.s=0/\h.s=0:=by omega
   exact⟨DN l,(Dr b _).mpr (.inr ⟨rfl,m0.1⟩),(DB c _).mpr (.inr ⟨j.symm,m0.2⟩)⟩
 .rintro ⟨t,o,k2⟩;have d:=(Dr b t).mp o;have f:=(DB c t).mp k2;by_cases m:DN l<DN h
  .have:=key.mp m;omega
  .have j:DN l=DN h:=by grind
   have:=a.mp j;have:l.s=0:=by
    rcases d with d|d
    .exfalso;grind
    .exact d.2
   have:h.s=0:=by
    rcases f with f|f
    .exfalso;grind
    .exact f.2
   omega
def YX {v:PV}{a:kn}{ps:zy Bw}{N:Nat}(hv:v= .lst (ps.map Av))(ok:∀p∈ps,Bc N p)(hN:N<=10000)(hl:ps.length<=1000){l h:Bw}(k:Ci a 1 ps=some l)(m:Ci a (-1) ps=some h){Q:PV->Prop}(s:(∀p∈ps,(p.pr a).c1=0->HV (p.pr a)=false)->HV ((A5 a l h).pr a)=false->Q .non)(n:∀p,(p∈ps/\(p.pr a).c1=0)\/p=A5 a l h->HV (p.pr a)=true->Q (Av p)):Dj [v, .int (OX a)] Q:=by
 subst hv;apply R4;ac_rfl;refine CS Av (λo vs τ=>(∀p∈o,(p.pr a).c1=0->HV (p.pr a)=false)/\∃i f g,τ= [some (.val (.lst (ps.map Av))),some (.val (.int (OX a))),i,f,g]) ?_ ?_ ⟨by simp,_,_,_,rfl⟩
 .rintro τ ⟨j,i,f,g,rfl⟩;ac_rfl;refine EK rfl (.inr rfl) ok (by omega) hl ?_;rw[m,show Rq (some h)=Av h from rfl];ac_rfl;refine EK rfl (.inl rfl) ok (by omega) hl ?_;rw[k,show Rq (some l)=Av l from rfl];ac_rfl;refine Py (ok l (Dw k)) (ok h (Dw m)) hN ?_;have f1:=n (A5 a l h) (.inr rfl);have t:=s j;generalize A5 a l h=b at *;ac_rfl;refine QK a ?_;cases c:HV (b.pr a) with
  | true=> ac_rfl;exact f1 c
  | false=> ac_rfl;exact t c
 .rintro o p vs e τ R r ⟨j,i,f,g,rfl⟩;have u:p∈ps:=by rw[<-e];simp
  have d:((p.pr a).c1=0->HV (p.pr a)=false)->R [some (AV.val (PV.lst (List.map Av ps))),some (AV.val (PV.int (OX a))),some (AV.val (Av p)),f,g] :=λh=>r _ ⟨λx hx=>by
   rcases AAQ.mp hx with hx|hx
   .exact j x hx
   .rw [AAc.mp hx];exact h,_,_,_,rfl⟩
  clear r;ac_rfl;refine GY ?_;ac_rfl
  .rename_i z;refine QK a ?_;cases c:HV (p.pr a) with
   | true=> ac_rfl;exact n p (.inl ⟨u,z⟩) c
   | false=> ac_rfl;exact d λ_=>c
  .rename_i z;exact d λh=>absurd h z
def bJ {o:zt Nat}{R:Nat->Prop}(j:Nat)(h:o=some j)(q:R j):qc o R:=by subst h;exact q
def DE (a:kn)(r:Rat)(p:Bw):Bw:=if a then ⟨r.den*p.c0+p.c2*r.num,r.den*p.c1,0,p.s,p.w⟩ else ⟨r.den*p.c0+p.c1*r.num,0,r.den*p.c2,p.s,p.w⟩
def V1 {a:kn}{p:Bw}{r:Rat}{N M:Nat}(hp:Bc N p)(d:Bd M r)(hN:N<=100000)(e:M<=100000){Q:PV->Prop}(q:Q (Av (DE a r p))):D6 [Av p, .int (OX a),fr r] Q:=by
 have m0:MulOk (r.den:Int) p.c0:= .of d.botI hp.a;have m1:MulOk (r.den:Int) p.c1:= .of d.botI hp.b;have m2:MulOk (r.den:Int) p.c2:= .of d.botI hp.c;have m3:MulOk (p.pr a).c1 r.num:= .of (hp.pr a).b d.top;cases a
 .show D6 [Av p, .int 1,fr r] Q;have m3:MulOk p.c1 r.num:=m3;apply N6;repeat' array_get_dec
  refine⟨ADG 0,(by show (0:Int)<3;decide), ?_⟩;show AX B9 (AX Ae (AX Ae (aV 0) (aC (PV.int 0))) (aV 1)) (aV 4) _ _;simp only[ADA,ADz,Int.toNat_zero];repeat' array_get_dec
  refine bJ 1 (by simp[XI]) ?_;show PU _ 3 (AV.own [PV.int (r.den*p.c0+p.c1*r.num),PV.int 0,PV.int (r.den*p.c2)]) _;repeat' array_get_dec
  exact q
 .show D6 [Av p, .int 2,fr r] Q;have m3:MulOk p.c2 r.num:=m3;apply N6;repeat' array_get_dec
  refine⟨ADG 0,(by show (0:Int)<3;decide), ?_⟩;show AX B9 (AX Ae (AX Ae (aV 0) (aC (PV.int 0))) (aV 1)) (aV 4) _ _;simp only[ADA,ADz,Int.toNat_zero];repeat' array_get_dec
  refine bJ 2 (by simp[XI]) ?_;show PU _ 3 (AV.own [PV.int (r.den*p.c0+p.c2*r.num),PV.int (r.den*p.c1),PV.int 0]) _;repeat' array_get_dec
  exact q
def jx (x:PV)(R:Int->Prop):Prop:=match x with | .dk [(i,_)] =>R i|_=>False
instance{i v:Int}{R:Int->Prop}:Wp (jx (.dk [(i,v)]) R) (R i):=⟨id⟩
instance{a b:AE}{τ:BA}{Q:PV->Prop}:Wp (i5 a b τ Q) (a τ λx=>jx x λi=>b τ λy=>jx y λj=>Q (.int (qe i j))):=⟨id⟩
def Ep (a:kn)(ps:zy Bw):zy Bw:=ps.filter (λp=>decide ((p.pr a).c1=0))++(ps.filter λp=>decide (0<(p.pr a).c1)).flatMap λl=>(ps.filter λp=>decide ((p.pr a).c1<0)).map λh=>A5 a l h
def XU {m:zy (Int×Int)}(h:m.length=1):∃i v,m= [(i,v)] :=by
 match m,h with
 | [(i,v)],_=>exact⟨i,v,rfl⟩
def lh (i j:Int):qe i j<=2:=by unfold qe;split <;> decide
def Uk {v:PV}{a:kn}{ps:zy Bw}{N:Nat}(hv:v= .lst (ps.map Av))(ok:∀p∈ps,Bc N p)(one:∀p∈ps,p.w.length=1)(hN:N<=10000)(hl:ps.length<=20){Q:PV->Prop}(q:Q (.lst ((Ep a ps).map Av))):EQ [v, .int (OX a), .int 2] Q:=by
 subst hv;unfold Ep at q;apply UW;ac_rfl;refine DA Av Av (λp=>decide (0<(p.pr a).c1)) (λ_=>True) (λp _ R N h1 h2=> ?_) ps [] (λ_ _=>trivial) ?_
 .ac_rfl;refine GY ?_;ac_rfl
  .rename_i h;exact h1 (AAO h)
  .rename_i h;exact h2 (AAa h)
 rw[AA8];have f:∀p∈(ps.filter λp=>decide (0<(p.pr a).c1)),p∈ps:=λp hp=>(AAR.mp hp).1;have y:(ps.filter λp=>decide (0<(p.pr a).c1)).length<=20:=AAY (ABd ..) hl;generalize (ps.filter λp=>decide (0<(p.pr a).c1))=lows at *;ac_rfl;refine DA Av Av (λp=>decide ((p.pr a).c1<0)) (λ_=>True) (λp _ R N h1 h2=> ?_) ps [] (λ_ _=>trivial) ?_
 .ac_rfl;refine GY ?_;ac_rfl
  .rename_i h;exact h1 (AAO h)
  .rename_i h;exact h2 (AAa h)
 rw[AA8];have g:∀p∈(ps.filter λp=>decide ((p.pr a).c1<0)),p∈ps:=λp hp=>(AAR.mp hp).1;have m:(ps.filter λp=>decide ((p.pr a).c1<0)).length<=20:=AAY (ABd ..) hl;generalize (ps.filter λp=>decide ((p.pr a).c1<0))=GE at *;ac_rfl;refine DA Av Av (λp=>decide ((p.pr a).c1=0)) (λ_=>True) (λp _ R N h1 h2=> ?_) ps [] (λ_ _=>trivial) ?_
 .ac_rfl;refine GY ?_;ac_rfl
  .rename_i h;exact h1 (AAO h)
  .rename_i h;exact h2 (AAa h)
 rw[AA8];have z:(ps.filter λp=>decide ((p.pr a).c1=0)).length<=20:=AAY (ABd ..) hl;generalize (ps.filter λp=>decide ((p.pr a).c1=0))=zs at *;ac_rfl;refine CS Av (λb vs τ=>∃n c,τ= [some (.val (.lst (ps.map Av))),some (.val (.int (OX a))),some (.val (.int 2)),some (.val (.lst (lows.map Av))),some (.val (.lst (GE.map Av))),some (.own ((zs++b.flatMap λl=>GE.map λh=>A5 a l h).map Av)),n,c]) ?_ ?_ ⟨none,none,by simp⟩
 .rintro τ ⟨n,c,rfl⟩;ac_rfl;exact q
 .rintro b l vs e τ R o ⟨n,c,rfl⟩;have r:l∈lows:=by rw[<-e];simp
  have ul:b.length<=20:=by have:=congrArg List.length e;simp at this;omega
  ac_rfl;refine CS Av (λd xs τ=>∃c,τ= [some (.val (.lst (ps.map Av))),some (.val (.int (OX a))),some (.val (.int 2)),some (.val (.lst (lows.map Av))),some (.val (.lst (GE.map Av))),some (.own (((zs++b.flatMap λl=>GE.map λh=>A5 a l h)++d.map λh=>A5 a l h).map Av)),some (.val (Av l)),c]) ?_ ?_ ⟨c,by simp⟩
  .rintro τ ⟨c,rfl⟩;exact o _ ⟨some (.val (Av l)),c,by simp[List.flatMap_append]⟩
  .rintro d h xs s τ F t ⟨c,rfl⟩;have u:h∈GE:=by rw[<-s];simp
   have G:d.length<=20:=by have:=congrArg List.length s;simp at this;omega
   obtain⟨i,H,B⟩:=XU (one l (f l r));obtain⟨j,I,C⟩:=XU (one h (g h u));have J:=lh i j;have k:=t [some (.val (.lst (ps.map Av))),some (.val (.int (OX a))),some (.val (.int 2)),some (.val (.lst (lows.map Av))),some (.val (.lst (GE.map Av))),some (.own (((zs++b.flatMap λl=>GE.map λh=>A5 a l h)++(d ++ [h]).map λh=>A5 a l h).map Av)),some (.val (Av l)),some (.val (Av h))] ⟨_,rfl⟩;clear t o;have D:∀A:zy Bw,(A++(d ++ [h]).map λh=>A5 a l h).map Av=(A++d.map λh=>A5 a l h).map Av ++ [Av (A5 a l h)] :=λA=>by simp
   rw[D] at k;have len:(((zs++b.flatMap λl=>GE.map λh=>A5 a l h)++d.map λh=>A5 a l h).map Av).length<=1000:=by
    have:(b.flatMap λl=>GE.map λh=>A5 a l h).length<=20*20:=by
     rw[ACh];have:∀b:zy Bw,(b.map λl=>(GE.map λh=>A5 a l h).length).sum=b.length*GE.length:=λb=>by
      induction b with
      | nil=>simp
      | cons x b E=>simp[AAL,AAh,ABQ] at E ⊢;omega
     rw[this];exact AA2 ul m
    simp only[AAK,AAx];omega
   generalize (((zs++b.flatMap λl=>GE.map λh=>A5 a l h)++d.map λh=>A5 a l h).map Av)=told at *;ac_rfl;rw[B];ac_rfl;rw[C];ac_rfl
   .refine Py (ok l (f l r)) (ok h (g h u)) hN ?_;ac_rfl;refine⟨Nf len (by decide), ?_⟩;ac_rfl;exact k
   .exfalso;omega
def h3 (p:Bw)(s t:Rat):Prop:=0<(p.c0:Rat)+p.c1*s+p.c2*t\/((p.c0:Rat)+p.c1*s+p.c2*t=0/\p.s=0)
def Wx (r:Rat):(0:Rat)<(r.den:Rat)/\(r.num:Rat)=(r.den:Rat)*r:=by
 have hd:(0:Rat)<(r.den:Rat):=by exact_mod_cast r.den_pos
 refine⟨hd, ?_⟩;have:(r.num:Rat)/(r.den:Rat)=r:=by
  have:=AAy r;rw[ABU] at this
  exact_mod_cast this
 have e:(r.num:Rat)/(r.den:Rat)*(r.den:Rat)=(r.num:Rat):=ADI (by grind);rw[this] at e;grind
def FX {d x:Rat}(h:0<d):(0<d*x↔0<x)/\(d*x=0↔x=0):=by refine⟨ACQ h, ?_⟩;rw[ABf];grind
def CK {p:Bw}{r t:Rat}:holds ((DE false r p).pr true) t↔h3 p r t:=by
 obtain⟨hd,a⟩:=Wx r;have e:N1 ((DE false r p).pr true) t=(r.den:Rat)*((p.c0:Rat)+p.c1*r+p.c2*t):=by
  show (((r.den:Int)*p.c0+p.c1*r.num:Int):Rat)+(((r.den:Int)*p.c2:Int):Rat)*t=_
  push_cast
  rw[a];grind
 unfold holds h3;rw[e,(FX hd).1,(FX hd).2];rfl
def QM {p:Bw}{s t:Rat}(h:p.c2=0):holds (p.pr false) s↔h3 p s t:=by
 have e:N1 (p.pr false) s=(p.c0:Rat)+p.c1*s+p.c2*t:=by show (p.c0:Rat)+(p.c1:Rat)*s=_;rw[h];grind
 unfold holds h3;rw[e];rfl
def K7 {l h:Bw}(s:Rat)(f:0<l.c2)(g:h.c2<0)(i:l.s=0\/l.s=1)(j:h.s=0\/h.s=1):holds ((A5 true l h).pr false) s↔∃t,h3 l s t/\h3 h s t:=by
 obtain⟨hd,k⟩:=Wx s;have hi:(0:Int)<s.den:=by exact_mod_cast s.den_pos
 have m:=K8 (l:=(DE false s l).pr true) (h:=(DE false s h).pr true) (ABI hi f) (by show (s.den:Int)*h.c2<0;exact Int.mul_neg_of_pos_of_neg hi g) i j [];have e:(∃t,holds ((DE false s l).pr true) t/\holds ((DE false s h).pr true) t)↔∃t,h3 l s t/\h3 h s t:=by
  constructor
  .rintro ⟨t,a,b⟩;exact⟨t,CK.mp a,CK.mp b⟩
  .rintro ⟨t,a,b⟩;exact⟨t,CK.mpr a,CK.mpr b⟩
 rw[<-e,<-m];unfold HV;rw[AD1];dsimp only;have c:(((-((DE false s h).pr true).c1*((DE false s l).pr true).c0+((DE false s l).pr true).c1*((DE false s h).pr true).c0:Int)):Rat)=((s.den:Rat)*s.den)*N1 ((A5 true l h).pr false) s:=by
  show ((-((s.den:Int)*h.c2)*((s.den:Int)*l.c0+l.c1*s.num)+((s.den:Int)*l.c2)*((s.den:Int)*h.c0+h.c1*s.num):Int):Rat)=((s.den:Rat)*s.den)*((((-h.c2)*l.c0+l.c2*h.c0:Int):Rat)+(((-h.c2)*l.c1+l.c2*h.c1:Int):Rat)*s)
  push_cast
  rw[k];grind
 generalize (-((DE false s h).pr true).c1*((DE false s l).pr true).c0+((DE false s l).pr true).c1*((DE false s h).pr true).c0:Int)=V at *;have d:=ACP hd hd;have n:0<V↔0<N1 ((A5 true l h).pr false) s:=by rw[<-(FX d).1,<-c,<-ABg,AB2]
 have k2:V=0↔N1 ((A5 true l h).pr false) s=0:=by rw[<-(FX d).2,<-c,<-ABg,ADH]
 unfold holds;rw[<-n,<-k2];show (0<V\/V=0/\max l.s h.s=0)↔¬(V<0\/V=0/\max l.s h.s=1);omega
def fm {ps:zy Bw}(hs:∀p∈ps,p.s=0\/p.s=1)(lo:∃p∈ps,0<p.c2)(hi:∃p∈ps,p.c2<0)(s:Rat):(∀p∈Ep true ps,holds (p.pr false) s)↔∃t,∀p∈ps,h3 p s t:=by
 have d:(0:Int)<s.den:=by exact_mod_cast s.den_pos
 constructor
 .intro b;have n:∀p∈ps,p.c2=0->holds (p.pr false) s:=λp hp z=>b p (by unfold Ep;exact AAQ.mpr (.inl (AAR.mpr ⟨hp,AAO z⟩)));have cs:∀l∈ps,∀h∈ps,0<l.c2->h.c2<0->∃t,h3 l s t/\h3 h s t:=λl hl h a f g=>(K7 s f g (hs l hl) (hs h a)).mp (b _ (by
   unfold Ep;exact AAQ.mpr (.inr (ABB.mpr ⟨l,AAR.mpr ⟨hl,AAO f⟩,AAI.mpr ⟨h,AAR.mpr ⟨a,AAO g⟩,rfl⟩⟩))))
  have i:∀q∈ps.map (λp=>(DE false s p).pr true),q.s=0\/q.s=1:=λq i=>by obtain⟨p,hp,rfl⟩:=AAI.mp i;exact hs p hp
  have j:=DM (.inl rfl) _ (ps.map λp=>(DE false s p).pr true) rfl i;have k:=DM (.inr rfl) _ (ps.map λp=>(DE false s p).pr true) rfl i;have c:∀p:Bw,((DE false s p).pr true).c1=s.den*p.c2:=λp=>rfl;obtain⟨o,r⟩:∃l,tight 1 (ps.map λp=>(DE false s p).pr true)=some l:=by
   cases e:tight 1 (ps.map λp=>(DE false s p).pr true) with
   | some l=>exact⟨l,rfl⟩
   | none=> obtain⟨p,hp,h⟩:=lo;refine absurd ?_ (j.no e _ (AAI.mpr ⟨p,hp,rfl⟩));rw[c,ABm];exact ABI d h
  obtain⟨h',u⟩:∃l,tight (-1) (ps.map λp=>(DE false s p).pr true)=some l:=by
   cases e:tight (-1) (ps.map λp=>(DE false s p).pr true) with
   | some l=>exact⟨l,rfl⟩
   | none=> obtain⟨p,hp,h⟩:=hi;refine absurd ?_ (k.no e _ (AAI.mpr ⟨p,hp,rfl⟩));rw[c];have:=ABI d (show 0 < -p.c2 by omega);grind
  obtain⟨m1,m,v⟩:=j.so o r;obtain⟨m2,w,t2⟩:=k.so h' u;obtain⟨l,hl,rfl⟩:=AAI.mp m1;obtain⟨h,a,rfl⟩:=AAI.mp m2;have sg:∀x:Int,(0<s.den*x↔0<x):=λx=>⟨λz=>Int.pos_of_mul_pos_right z d,λz=>ABI d z⟩;have f:0<l.c2:=by rw[c,ABm,sg] at m;exact m
  have g:h.c2<0:=by rw[c,show (s.den:Int)*h.c2 * -1=s.den * -h.c2 by grind,sg] at w;omega
  obtain⟨t,y,k2⟩:=cs l hl h a f g;refine⟨t,λp hp=> ?_⟩;rcases AD0 p.c2 0 with z|z|z
  .refine CK.mp (t2 _ (AAI.mpr ⟨p,hp,rfl⟩) ?_ t (CK.mpr k2));rw[c,show (s.den:Int)*p.c2 * -1=s.den * -p.c2 by grind,sg];omega
  .exact (QM z).mp (n p hp z)
  .refine CK.mp (v _ (AAI.mpr ⟨p,hp,rfl⟩) ?_ t (CK.mpr y));rw[c,ABm,sg];exact z
 .rintro ⟨t,b⟩ p hp;unfold Ep at hp;rcases AAQ.mp hp with hp|hp
  .obtain ⟨hp,z⟩:=AAR.mp hp;exact(QM (t:=t) (AAs z)).mpr (b p hp)
  .obtain ⟨l,hl,hp⟩:=ABB.mp hp;obtain⟨h,a,rfl⟩:=AAI.mp hp;obtain⟨hl,A⟩:=AAR.mp hl;obtain⟨a,B⟩:=AAR.mp a;exact(K7 s (AAs A) (AAs B) (hs l hl) (hs h a)).mpr ⟨t,b l hl,b h a⟩
def O9 (a b c:Rat)(s n:Int):Bw:=⟨Si (FY [a,b,c]) a,Si (FY [a,b,c]) b,Si (FY [a,b,c]) c,s, [(n,(FY [a,b,c] :Nat))]⟩
def WF {a b c:Rat}{W:Nat}(ba:Bd W a)(j:Bd W b)(f:Bd W c)(i:W<=1400){Q:PV->Prop}(q:Q (.int (FY [a,b,c] :Nat))):CB [.tup [fr a,fr b,fr c]] Q:=by
 have hx:∀x∈ [a,b,c],Bd W x:=by simp;exact⟨ba,j,f⟩
 apply JY;ac_rfl;show DV _ _ _ ([a,b,c].map fr) _;refine CS fr (λd vs τ=>∃g h,τ= [some (.val (.tup [fr a,fr b,fr c])),some (.val (.int (FY d:Nat))),g,h]) ?_ ?_ ⟨_,_,rfl⟩
 .rintro τ ⟨g,h,rfl⟩;ac_rfl;exact q
 .rintro d c vs e τ R k ⟨g,h,rfl⟩;have hu:∀x∈d,Bd W x:=λx l=>hx x (by rw[<-e];simp[l]);have ul:d.length<=6:=by have:=congrArg List.length e;simp at this;omega
  obtain⟨h1,h2,h3⟩:=Gy d.length d rfl hu;have f:=(hx c (by rw[<-e];simp)).bot;have p:d.length*W<=6*1400:=AA2 ul i;have r:0<Nat.gcd (FY d) c.den:=ACL _ c.den_pos;have gl:Nat.gcd (FY d) c.den<2^8900:=Al (AAf (ABx c.den_pos (ABv ..)) f) (by omega);ac_rfl;refine Ev _ _ _ ?_;ac_rfl;refine⟨⟨by omega,by simpa using gl⟩, ?_⟩;have o:((c.den:Nat):Int).fdiv ((Nat.gcd (FY d) c.den:Nat):Int)=((c.den/Nat.gcd (FY d) c.den:Nat):Int):=by rw[ABb _ (by omega),ABw]
  rw[o];have dl:c.den/Nat.gcd (FY d) c.den<2^1400:=Al (AAf (ABt ..) f) i;ac_rfl;refine⟨MulOk.of (m:=8401) (n:=1400) (by simpa using Al h3 (by omega)) (by rw[AAu];exact dl), ?_⟩;exact k _ ⟨some (.val (.int c.num)),some (.val (.int c.den)),by rw[SM,AC4];rfl⟩
def Y7 {a b c:Rat}{W:Nat}{s n:Int}(ba:Bd W a)(e:Bd W b)(f:Bd W c)(d:W<=1400){Q:PV->Prop}(q:Q (Av (O9 a b c s n))):EW [.tup [fr a,fr b,fr c], .int s, .int n] Q:=by
 obtain⟨h1,h2,h3⟩:=Gy (W:=W) 3 [a,b,c] rfl (by simp;exact⟨ba,e,f⟩);have g:∀x:Rat,((FY [a,b,c] :Int).fdiv (x.den:Int)).natAbs<2^4201:=λx=>by rw[ABb _ (by omega),<-ABw,AAu];exact AAf (ABt ..) (Al h3 (by omega))
 have h:=g a;have i:=g b;have j:=g c;have o:0<a.den:=a.den_pos;have k2:0<b.den:=b.den_pos;have p:0<c.den:=c.den_pos;have k:=(ba.mono d).bot;have l:=(e.mono d).bot;have m:=(f.mono d).bot;apply R7;ac_rfl;refine WF ba e f d ?_;unfold O9 Si at q;generalize FY [a,b,c] =S at *;repeat' array_get_dec
 refine⟨⟨by omega,by rw[AAu];exact Al k (by decide)⟩, ?_⟩;repeat' array_get_dec
 refine⟨MulOk.of (ba.mono d).top h, ?_⟩;repeat' array_get_dec
 refine⟨⟨by omega,by rw[AAu];exact Al l (by decide)⟩, ?_⟩;repeat' array_get_dec
 refine⟨MulOk.of (e.mono d).top i, ?_⟩;repeat' array_get_dec
 refine⟨⟨by omega,by rw[AAu];exact Al m (by decide)⟩, ?_⟩;repeat' array_get_dec
 refine⟨MulOk.of (f.mono d).top j, ?_⟩;repeat' array_get_dec
 exact q
def az {a b c:Rat}{W M:Nat}{s n:Int}(ba:Bd W a)(f:Bd W b)(g:Bd W c)(d:FY [a,b,c] < 2^M)(hs:s=0\/s=1):Bc (W+M) (O9 a b c s n)/\∀x y:Rat,h3 (O9 a b c s n) x y↔(0<a+b*x+c*y\/(a+b*x+c*y=0/\s=0)):=by
 obtain⟨h1,h2,_⟩:=Gy (W:=W) 3 [a,b,c] rfl (by simp;exact⟨ba,f,g⟩);have h:(0:Rat)<((FY [a,b,c] :Nat):Rat):=by exact_mod_cast h1
 have i:=F2 (h2 a (by simp));have j:=F2 (h2 b (by simp));have k:=F2 (h2 c (by simp));refine⟨⟨WD ba d,WD f d,WD g d,by simp[O9];exact Al d (by omega),by simp[O9],hs⟩,λx y=> ?_⟩;have e:((O9 a b c s n).c0:Rat)+(O9 a b c s n).c1*x+(O9 a b c s n).c2*y=((FY [a,b,c] :Nat):Rat)*(a+b*x+c*y):=by show ((Si (FY [a,b,c]) a:Int):Rat)+((Si (FY [a,b,c]) b:Int):Rat)*x+((Si (FY [a,b,c]) c:Int):Rat)*y=_;rw[i,j,k];grind
 unfold h3;rw[e,(FX h).1,(FX h).2];rfl
def D9 (m:zy (Int×Int)):Nat:=m.foldl (λg e=>Nat.gcd e.2.toNat g) 0
def gA (m:zy (Int×Int))(k:Int):PV:= .tup [.int k,fr (((((m.lookup k).getD 0).fdiv (D9 m:Nat):Int)):Rat)]
def aN (m:zy (Int×Int))(e:Int×Int):D9 (m ++ [e])=Nat.gcd e.2.toNat (D9 m):=by unfold D9;rw[ACe];rfl
def Vh {m:zy (Int×Int)}{k:Int}(h:k∈m.map (·.1)):∃v,m.lookup k=some v/\(k,v)∈m:=by
 induction m with
 | nil=>simp at h
 | cons e m c=>
   obtain⟨i,v⟩:=e;by_cases z:k=i
   .subst z;exact⟨v,by simp[List.lookup],by simp⟩
   .have:k∈m.map (·.1):=by simp[z] at h;simpa using h
    obtain⟨d,a,b⟩:=c this;have f:(k==i)=false:=by simpa using z
    exact⟨d,by simp[List.lookup,f,a],by simp[b]⟩
theorem RG:∀(m:zy (Int×Int)) (g:Nat),(0<g\/m≠ [])->(∀e∈m,0<e.2)->0<m.foldl (λg e=>Nat.gcd e.2.toNat g) g
 | [],g,h,_=>by simpa using h
 | e::m,g,_,hp=>RG m _ (.inl (Nat.gcd_pos_of_pos_left _ (by have:=hp e (by simp);omega))) λx hx=>hp x (by simp[hx])
theorem W3 {N:Nat}:∀(m:zy (Int×Int)) (g:Nat),(∀e∈m,0<e.2/\e.2.natAbs<2^N)->(g<2^N)->m.foldl (λg e=>Nat.gcd e.2.toNat g) g<2^N
 | [],g,_,h=>h
 | e::m,g,hp,_=>W3 m _ (λx hx=>hp x (by simp[hx])) (by
    have h:=hp e (by simp);exact AAf (ABx (by omega) (ADh ..)) (by omega))
def ZJ {m:zy (Int×Int)}{N:Nat}(hp:∀e∈m,0<e.2/\e.2.natAbs<2^N)(i:m≠ [])(hl:m.length<64)(hN:N<=8900){Q:PV->Prop}(q:∀ns:zy Int,ns.Perm (m.map (·.1))->ns.Pairwise (· <= ·)->Q (.tup (ns.map (gA m)))):Ca [.dk m] Q:=by
 have o:0<D9 m:=RG m 0 (.inr i) λe he=>(hp e he).1;have j:D9 m<2^N:=W3 m 0 hp (ADJ N);apply KH;ac_rfl;show DV _ _ _ (m.map λp=>PV.int p.2) _;refine CS (λp:Int×Int=>PV.int p.2) (λc vs τ=>∃d,τ= [some (.val (.dk m)),some (.val (.int (D9 c:Nat))),d]) ?_ ?_ ⟨_,rfl⟩
 .rintro τ ⟨d,rfl⟩;ac_rfl;refine⟨hl,λns f l=> ?_⟩;ac_rfl;have a:=q ns f l;refine⟨by rw[f.length_eq,AAK];omega, ?_⟩;refine Ew PV.int (gA m) id (λk=>k∈m.map (·.1)) (λk hk R b=> ?_) ns [] (λk hk=>f.mem_iff.mp hk) ?_
  .obtain ⟨v,g,r⟩:=Vh hk;unfold gA id at b;rw[g,ADE] at b;ac_rfl;refine⟨v,g, ?_⟩;ac_rfl;refine⟨⟨by omega,by simpa using Al j hN⟩, ?_⟩;ac_rfl;exact b
  .rw [AA8,List.map_id];ac_rfl;exact a
 .rintro c e vs n τ R b ⟨d,rfl⟩;have he:=(hp e (by rw[<-n];simp)).1;have h:e.2=((e.2.toNat:Nat):Int):=by omega
  have a:=b [some (.val (.dk m)),some (.val (.int (D9 (c ++ [e]):Nat))),some (.val (.int e.2))] ⟨_,rfl⟩;clear b;rw[aN] at a;ac_rfl;rw[h];refine Ev _ _ _ ?_;rw[h] at a;ac_rfl;exact a
structure Wd where
 b:C4
 e:C4
 b':C4
 e':C4
 z:T3
 l:Rat
 l':Rat
def c8 (w:Wd):PV:= .tup [CM w.b w.e,CM w.b' w.e', .lst [fr w.z.1,fr w.z.2.1,fr w.z.2.2], .tup [fr w.l,fr w.l']]
def sl (w:Wd):Nat->Rat|0=>ZF w.b w.e w.b.2.1 w.e.2.1|1=>ZF w.b w.e w.b.2.2.1 w.e.2.2.1|_=>ZF w.b w.e w.b.2.2.2 w.e.2.2.2
def Zd (w:Wd):Nat->Rat|0=>ZF w.b' w.e' w.b'.2.1 w.e'.2.1|1=>ZF w.b' w.e' w.b'.2.2.1 w.e'.2.2.1|_=>ZF w.b' w.e' w.b'.2.2.2 w.e'.2.2.2
def ba (w:Wd):Nat->Rat|0=>Z4 w.b w.e w.b.2.1 w.e.2.1|1=>Z4 w.b w.e w.b.2.2.1 w.e.2.2.1|_=>Z4 w.b w.e w.b.2.2.2 w.e.2.2.2
def ZV (w:Wd):Nat->Rat|0=>Z4 w.b' w.e' w.b'.2.1 w.e'.2.1|1=>Z4 w.b' w.e' w.b'.2.2.1 w.e'.2.2.1|_=>Z4 w.b' w.e' w.b'.2.2.2 w.e'.2.2.2
def sz (w:Wd):Nat->Rat|0=>w.z.1|1=>w.z.2.1|_=>w.z.2.2
def Af (w:Wd):Nat->Rat×Rat×Rat
 | 0=>(-w.b.1,1,0)
 | 1=>(w.e.1, -1,0)
 | 2=>(-w.b'.1,0,1)
 | 3=>(w.e'.1,0, -1)
 | 4=>(w.l,1, -1)
 | 5=>(w.l', -1,1)
 | 6=>(sz w 0-(ba w 0-ZV w 0), -sl w 0,Zd w 0)
 | 7=>(sz w 0+(ba w 0-ZV w 0),sl w 0, -Zd w 0)
 | 8=>(sz w 1-(ba w 1-ZV w 1), -sl w 1,Zd w 1)
 | 9=>(sz w 1+(ba w 1-ZV w 1),sl w 1, -Zd w 1)
 | 10=>(sz w 2-(ba w 2-ZV w 2), -sl w 2,Zd w 2)
 | _=>(sz w 2+(ba w 2-ZV w 2),sl w 2, -Zd w 2)
structure Lc (W:Nat) (w:Wd):Prop where
 t1:Bd W w.b.1
 t2:Bd W w.e.1
 t3:Bd W w.b'.1
 t4:Bd W w.e'.1
 l1:Bd W w.l
 l2:Bd W w.l'
 z:∀k,Bd W (sz w k)
 s:∀k,Bd W (sl w k)
 s':∀k,Bd W (Zd w k)
 a:∀k,Bd W (ba w k)
 a':∀k,Bd W (ZV w k)
def Lu (x:Rat×Rat×Rat):PV:= .tup [fr x.1,fr x.2.1,fr x.2.2]
def gc {w:Wd}{n:Nat}(h:n<6){Q:PV->Prop}(q:Q (Lu (Af w n))):D8 [c8 w, .int n] Q:=by
 apply PQ;unfold c8 CM;repeat' array_get_dec
 refine Ge ?_;repeat' array_get_dec
 refine Ge ?_;repeat' array_get_dec
 have cs:n=0\/n=1\/n=2\/n=3\/n=4\/n=5:=by omega
 rcases cs with rfl|rfl|rfl|rfl|rfl|rfl <;> exact q
def ZQ (d e f g h:PV)(a s b c:Nat->Rat)(z:Nat->Rat):PV:= .tup [.tup [d,e, .lst [.tup [fr (a 0),fr (s 0)], .tup [fr (a 1),fr (s 1)], .tup [fr (a 2),fr (s 2)]]], .tup [f,g, .lst [.tup [fr (b 0),fr (c 0)], .tup [fr (b 1),fr (c 1)], .tup [fr (b 2),fr (c 2)]]], .lst [fr (z 0),fr (z 1),fr (z 2)],h]
section
variable {x1 x2 x3 x4 ls:PV}{a s a' s' z:Nat->Rat}{W:Nat}{Q:PV->Prop}
theorem lI (d:W<=1300)(ha:Bd W (a 0))(b:Bd W (a' 0))(c:Bd W (z 0))(q:Q (.tup [fr (z 0-(a 0-a' 0)),fr (-s 0),fr (s' 0)])):BK [ZQ x1 x2 x3 x4 ls a s a' s' z, .int 6] Q:=by
 have e:=(ha.sub b).mono (n:=3900) (by omega);have ha:=ha.mono (n:=3900) (by omega);have b:=b.mono (n:=3900) (by omega);have c:=c.mono (n:=3900) (by omega);apply CL;unfold ZQ;repeat' array_get_dec
 refine⟨⟨by decide,by decide⟩, ?_⟩;show Ar 2 (.int 0) _ _;repeat' array_get_dec
 refine Ge ?_;repeat' array_get_dec
 exact q
theorem lJ (d:W<=1300)(ha:Bd W (a 0))(b:Bd W (a' 0))(c:Bd W (z 0))(q:Q (.tup [fr (z 0+(a 0-a' 0)),fr (s 0),fr (-s' 0)])):BK [ZQ x1 x2 x3 x4 ls a s a' s' z, .int 7] Q:=by
 have e:=(ha.sub b).mono (n:=3900) (by omega);have ha:=ha.mono (n:=3900) (by omega);have b:=b.mono (n:=3900) (by omega);have c:=c.mono (n:=3900) (by omega);apply CL;unfold ZQ;repeat' array_get_dec
 refine⟨⟨by decide,by decide⟩, ?_⟩;show Ar 2 (.int 0) _ _;repeat' array_get_dec
 refine Ge ?_;repeat' array_get_dec
 exact q
theorem lK (d:W<=1300)(ha:Bd W (a 1))(b:Bd W (a' 1))(c:Bd W (z 1))(q:Q (.tup [fr (z 1-(a 1-a' 1)),fr (-s 1),fr (s' 1)])):BK [ZQ x1 x2 x3 x4 ls a s a' s' z, .int 8] Q:=by
 have e:=(ha.sub b).mono (n:=3900) (by omega);have ha:=ha.mono (n:=3900) (by omega);have b:=b.mono (n:=3900) (by omega);have c:=c.mono (n:=3900) (by omega);apply CL;unfold ZQ;repeat' array_get_dec
 refine⟨⟨by decide,by decide⟩, ?_⟩;show Ar 2 (.int 1) _ _;repeat' array_get_dec
 refine Ge ?_;repeat' array_get_dec
 exact q
theorem lM (d:W<=1300)(ha:Bd W (a 1))(b:Bd W (a' 1))(c:Bd W (z 1))(q:Q (.tup [fr (z 1+(a 1-a' 1)),fr (s 1),fr (-s' 1)])):BK [ZQ x1 x2 x3 x4 ls a s a' s' z, .int 9] Q:=by
 have e:=(ha.sub b).mono (n:=3900) (by omega);have ha:=ha.mono (n:=3900) (by omega);have b:=b.mono (n:=3900) (by omega);have c:=c.mono (n:=3900) (by omega);apply CL;unfold ZQ;repeat' array_get_dec
 refine⟨⟨by decide,by decide⟩, ?_⟩;show Ar 2 (.int 1) _ _;repeat' array_get_dec
 refine Ge ?_;repeat' array_get_dec
 exact q
theorem gH (d:W<=1300)(ha:Bd W (a 2))(b:Bd W (a' 2))(c:Bd W (z 2))(q:Q (.tup [fr (z 2-(a 2-a' 2)),fr (-s 2),fr (s' 2)])):BK [ZQ x1 x2 x3 x4 ls a s a' s' z, .int 10] Q:=by
 have e:=(ha.sub b).mono (n:=3900) (by omega);have ha:=ha.mono (n:=3900) (by omega);have b:=b.mono (n:=3900) (by omega);have c:=c.mono (n:=3900) (by omega);apply CL;unfold ZQ;repeat' array_get_dec
 refine⟨⟨by decide,by decide⟩, ?_⟩;show Ar 2 (.int 2) _ _;repeat' array_get_dec
 refine Ge ?_;repeat' array_get_dec
 exact q
theorem gI (d:W<=1300)(ha:Bd W (a 2))(b:Bd W (a' 2))(c:Bd W (z 2))(q:Q (.tup [fr (z 2+(a 2-a' 2)),fr (s 2),fr (-s' 2)])):BK [ZQ x1 x2 x3 x4 ls a s a' s' z, .int 11] Q:=by
 have e:=(ha.sub b).mono (n:=3900) (by omega);have ha:=ha.mono (n:=3900) (by omega);have b:=b.mono (n:=3900) (by omega);have c:=c.mono (n:=3900) (by omega);apply CL;unfold ZQ;repeat' array_get_dec
 refine⟨⟨by decide,by decide⟩, ?_⟩;show Ar 2 (.int 2) _ _;repeat' array_get_dec
 refine Ge ?_;repeat' array_get_dec
 exact q
end
def gJ {w:Wd}{W:Nat}(ok:Lc W w)(c:W<=1300){n:Nat}(h:6<=n)(h':n<12){Q:PV->Prop}(q:Q (Lu (Af w n))):BK [c8 w, .int n] Q:=by
 have e:c8 w=ZQ (fr w.b.1) (fr w.e.1) (fr w.b'.1) (fr w.e'.1) (.tup [fr w.l,fr w.l']) (ba w) (sl w) (ZV w) (Zd w) (sz w):=rfl;rw[e];have cs:n=6\/n=7\/n=8\/n=9\/n=10\/n=11:=by omega
 rcases cs with rfl|rfl|rfl|rfl|rfl|rfl
 .exact lI c (ok.a 0) (ok.a' 0) (ok.z 0) q
 .exact lJ c (ok.a 0) (ok.a' 0) (ok.z 0) q
 .exact lK c (ok.a 1) (ok.a' 1) (ok.z 1) q
 .exact lM c (ok.a 1) (ok.a' 1) (ok.z 1) q
 .exact gH c (ok.a 2) (ok.a' 2) (ok.z 2) q
 .exact gI c (ok.a 2) (ok.a' 2) (ok.z 2) q
def W1 {w:Wd}{W:Nat}(ok:Lc W w)(a:W<=1300){n:Nat}(h:n<12){Q:PV->Prop}(q:Q (Lu (Af w n))):EM [c8 w, .int n] Q:=by
 apply UP;ac_rfl
 .exact gc (by omega) q
 .exact gJ ok a (by omega) h q
def Ec {w:Wd}{W:Nat}(ok:Lc W w)(n:Nat):Bd (3*W+2) (Af w n).1/\Bd (3*W+2) (Af w n).2.1/\Bd (3*W+2) (Af w n).2.2:=by
 have b:Bd (3*W+2) (1:Rat):=Bd.mono (m:=2) (by constructor <;> decide) (by omega);have c:Bd (3*W+2) (-1:Rat):=Bd.mono (m:=2) (by constructor <;> decide) (by omega);have d:Bd (3*W+2) (0:Rat):=Bd.mono (m:=2) (by constructor <;> decide) (by omega);have m:∀{r:Rat},Bd W r->Bd (3*W+2) r:=λh=>h.mono (by omega);have p:∀k,Bd (3*W+2) (sz w k+(ba w k-ZV w k)):=λk=>((ok.z k).add ((ok.a k).sub (ok.a' k))).mono (by omega);have q:∀k,Bd (3*W+2) (sz w k-(ba w k-ZV w k)):=λk=>((ok.z k).sub ((ok.a k).sub (ok.a' k))).mono (by omega);unfold Af;split
 .exact ⟨(m ok.t1).neg,b,d⟩
 .exact ⟨m ok.t2,c,d⟩
 .exact ⟨(m ok.t3).neg,d,b⟩
 .exact ⟨m ok.t4,d,c⟩
 .exact ⟨m ok.l1,b,c⟩
 .exact ⟨m ok.l2,c,b⟩
 .exact ⟨q 0,(m (ok.s 0)).neg,m (ok.s' 0)⟩
 .exact ⟨p 0,m (ok.s 0),(m (ok.s' 0)).neg⟩
 .exact ⟨q 1,(m (ok.s 1)).neg,m (ok.s' 1)⟩
 .exact ⟨p 1,m (ok.s 1),(m (ok.s' 1)).neg⟩
 .exact ⟨q 2,(m (ok.s 2)).neg,m (ok.s' 2)⟩
 .exact ⟨p 2,m (ok.s 2),(m (ok.s' 2)).neg⟩
def E5 {a:kn}{sg:Int}{ps:zy Bw}(h:sg=1\/sg= -1)(hs:∀p∈ps,p.s=0\/p.s=1)(ex:∃p∈ps,0<(p.pr a).c1*sg):∃l,Ci a sg ps=some l/\l∈ps/\0<(l.pr a).c1*sg/\tight sg (ps.map (Bw.pr a))=some (l.pr a):=by
 have b:∀q∈ps.map (Bw.pr a),q.s=0\/q.s=1:=λq b=>by obtain⟨p,hp,rfl⟩:=AAI.mp b;exact hs p hp
 have j:=DM h _ (ps.map (Bw.pr a)) rfl b;have e:=WS (a:=a) (sg:=sg) (ps:=ps);cases t:Ci a sg ps with
 | none=> rw[t] at e;obtain⟨p,hp,z⟩:=ex;exact absurd z (j.no e.symm _ (AAI.mpr ⟨p,hp,rfl⟩))
 | some l=> rw[t] at e;exact⟨l,rfl,Dw t,(j.so _ e.symm).2.1,e.symm⟩
def QJ {p:Fb}(z:p.c1=0)(hs:p.s=0\/p.s=1)(t:Rat):holds p t↔HV p=false:=by
 unfold holds N1 HV;rw[z,AD1];have a:(p.c0:Rat)+((0:Int):Rat)*t=(p.c0:Rat):=by grind
 rw[a,<-ABg,AB2,ADH];omega
def YC {ps:zy Fb}{l h:Fb}(hs:∀p∈ps,p.s=0\/p.s=1)(a:tight 1 ps=some l)(b:tight (-1) ps=some h)(c:∀p∈ps,p.c1=0->HV p=false){t:Rat}(d:holds l t)(k2:holds h t):∀p∈ps,holds p t:=by
 have e:=(DM (.inl rfl) ps.length ps rfl hs).so l a;have f:=(DM (.inr rfl) ps.length ps rfl hs).so h b;intro p hp;rcases AD0 p.c1 0 with z|z|z
 .exact f.2.2 p hp (by omega) t k2
 .exact (QJ z (hs p hp) t).mpr (c p hp z)
 .exact e.2.2 p hp (by omega) t d
def UL {P:Int->Prop}{m:zy (Int×Int)}{k v:Int}(h:∀e∈m,P e.2)(hv:P v):∀e∈Bm m k v,P e.2:=by
 intro e he;unfold Bm at he;split at he
 .obtain ⟨p,hp,rfl⟩:=AAI.mp he;split
  .exact hv
  .exact h p hp
 .rcases AAQ.mp he with he|he
  .exact h e he
  .rw [AAc.mp he];exact hv
def fw {m:zy (Int×Int)}{k v:Int}:Bm m k v≠ [] :=by
 unfold Bm;split
 .rename_i h;intro z;rw[List.map_eq_nil_iff] at z;subst z;simp at h
 .simp
def YY {m:zy (Int×Int)}{k C:Int}(h:∀e∈m,0<e.2/\e.2<C)(a:0<C):0<=Bz m k/\Bz m k<C:=by
 unfold Bz;cases e:m.find? λp=>decide (p.1=k) with
 | none=>exact⟨ADG _,a⟩
 | some p=> have:=h p (List.mem_of_find?_eq_some e);show 0<=p.2/\p.2<C;omega
def WC {many C:Int}{m:zy (Int×Int)}(h:∀e∈m,0<many*e.2/\many*e.2<C):∀e∈BS many m,0<e.2/\e.2<C:=by
 have key:∀(m a:zy (Int×Int)),(∀e∈m,0<many*e.2/\many*e.2<C)->(∀e∈a,0<e.2/\e.2<C)->∀e∈m.foldl (λa p=>Bm a p.1 (many*p.2)) a,0<e.2/\e.2<C:=by
  intro m;induction m with
  | nil=>intro a _ h;exact h
  | cons x m b=> intro a h1 h2;exact b _ (λe he=>h1 e (by simp[he])) (UL (P:=λx=>0<x/\x<C) h2 (h1 x (by simp)))
 exact key m [] h (by simp)
theorem Nh {more D:Int}(b:0<D):∀(m a:zy (Int×Int)) (C:Int),0<C->(∀e∈m,0<more*e.2/\more*e.2<D)->(∀e∈a,0<e.2/\e.2<C)->∀e∈BR more a m,0<e.2/\e.2<C+m.length*D
 | [],a,C,_,_,h=>by simpa[BR] using h
 | x::m,a,C,hC,h1,h2=>by
   have hx:=h1 x (by simp);have g:=YY (k:=x.1) h2 hC;have st:∀e∈Bm a x.1 (Bz a x.1+more*x.2),0<e.2/\e.2<C+D:=UL (P:=λy=>0<y/\y<C+D) (λe he=>by have:=h2 e he;omega) (by omega);have r:=Nh b m (Bm a x.1 (Bz a x.1+more*x.2)) (C+D) (by omega) (λe he=>h1 e (by simp[he])) st;intro e he;have:=r e he;rw[AAi];have c:C+((m.length+1:Nat):Int)*D=C+D+(m.length:Int)*D:=by push_cast;grind
   rw[c];exact this
theorem Ni {more:Int}:∀(m a:zy (Int×Int)),(BR more a m).length<=a.length+m.length
 | [],a=>by simp[BR]
 | x::m,a=>by have r:=Ni (more:=more) m (Bm a x.1 (Bz a x.1+more*x.2));have p:=JU a x.1 (Bz a x.1+more*x.2);show (BR more (Bm a x.1 (Bz a x.1+more*x.2)) m).length<=_;rw[AAi];omega
theorem QG {more:Int}:∀(m a:zy (Int×Int)),m≠ [] \/a≠ [] ->BR more a m≠ []
 | [],a,h=>by simpa[BR] using h
 | x::m,a,_=>QG m (Bm a x.1 (Bz a x.1+more*x.2)) (.inr fw)
structure iz (L N:Nat) (m:List (Int×Int)):Prop where
 p:∀e∈m,0<e.2/\e.2.natAbs<2^N
 l:m.length<=L
 n:m≠ []
def oG {x y:Int}{N:Nat}(hx:0<x)(a:0<y)(h1:x.natAbs<2^N)(h2:y.natAbs<2^N):0<x*y/\x*y<((2^(2*N):Nat):Int):=by refine⟨ABI hx a, ?_⟩;have:=ACi h1 h2;rw[<-ABO,show N+N=2*N by omega,<-AAr] at this;have p:=ABI hx a;omega
def Ws {a:kn}{l h:Bw}{L N:Nat}(hl:Bc N l)(d:Bc N h)(g:iz L N l.w)(f:iz L N h.w)(u:L<=6)(r:0<(l.pr a).c1)(v:(h.pr a).c1<0):Bc (2*N+4) (A5 a l h)/\iz (2*L) (2*N+4) (A5 a l h).w:=by
 have i:=(hl.pr a).b;have b2:=(d.pr a).b;have j:(0:Int)<((2^(2*N):Nat):Int):=by exact_mod_cast ADJ _
 have sc:=WC (many:= -(h.pr a).c1) (C:=((2^(2*N):Nat):Int)) (m:=l.w) λe he=>oG (by omega) (g.p e he).1 (by rw[ABu];exact b2) (g.p e he).2;have mg:=Nh (more:=(l.pr a).c1) j h.w (BS (-(h.pr a).c1) l.w) _ j (λe he=>oG r (f.p e he).1 i (f.p e he).2) sc;have sl:(BS (-(h.pr a).c1) l.w).length<=l.w.length:=OG;have z:=Ni (more:=(l.pr a).c1) h.w (BS (-(h.pr a).c1) l.w);have k:2^(2*N+4)=16*2^(2*N):=by rw[ABO];omega
 have A:=g.l;have k2:=f.l;have o:∀e∈(A5 a l h).w,0<e.2/\e.2.natAbs<2^(2*N+4):=λe he=>by have:=mg e he;have:(h.w.length:Int)*((2^(2*N):Nat):Int)<=6*((2^(2*N):Nat):Int):=Int.mul_le_mul_of_nonneg_right (by omega) (by omega);rw[k];omega
 have num:∀x y:Int,x.natAbs<2^N->y.natAbs<2^N->(-(h.pr a).c1*x+(l.pr a).c1*y).natAbs<2^(2*N+4):=λx y hx t=>by
  have m1:=ACi b2 hx;have m2:=ACi i t;rw[<-ABO,show N+N=2*N by omega,<-AAr] at m1 m2;have e: -(h.pr a).c1*x= -((h.pr a).c1*x):=by grind
  rw[e,k];omega
 refine⟨⟨num _ _ hl.a d.a,num _ _ hl.b d.b,num _ _ hl.c d.c,λe he=>(o e he).2, ?_, ?_⟩,⟨o, ?_,QG _ _ (.inl f.n)⟩⟩
 .show (BR (l.pr a).c1 (BS (-(h.pr a).c1) l.w) h.w).length<=12;omega
 .show max l.s h.s=0\/max l.s h.s=1;have:=hl.s;have:=d.s;omega
 .show (BR (l.pr a).c1 (BS (-(h.pr a).c1) l.w) h.w).length<=2*L;omega
def iR:zy Int:= [0,1,0,1,0,0,1,1,1,1,1,1]
def strN (n:Nat):Int:=iR.getD n 0
def FT (w:Wd)(n:Nat):Bw:=O9 (Af w n).1 (Af w n).2.1 (Af w n).2.2 (strN n) n
def EE (w:Wd):zy Bw:=(List.range 12).map (FT w)
def XS (w:Wd)(s t:Rat):Prop:=∀n<12,0<(Af w n).1+(Af w n).2.1*s+(Af w n).2.2*t\/((Af w n).1+(Af w n).2.1*s+(Af w n).2.2*t=0/\strN n=0)
def tO:PV:= .tup [.tup [.int 0, .tup [.int 1, .int 1]], .tup [.int 3, .tup [.int 1, .int 1]], .tup [.int 5, .tup [.int 1, .int 1]]]
def tP:PV:= .tup [.tup [.int 1, .tup [.int 1, .int 1]], .tup [.int 2, .tup [.int 1, .int 1]], .tup [.int 4, .tup [.int 1, .int 1]]]
def bC {w:Wd}{s t:Rat}(h:XS w s t):w.b.1<=s/\s<w.e.1/\w.b'.1<=t/\t<w.e'.1/\t-s<=w.l/\s-t<=w.l':=by
 have a:=h 0 (by decide);have h1:=h 1 (by decide);have h2:=h 2 (by decide);have h3:=h 3 (by decide);have c:=h 4 (by decide);have d:=h 5 (by decide);have f:strN 1=1:=rfl;have g:strN 3=1:=rfl;rw[f] at h1;rw[g] at h3;simp only[Af] at a h1 h2 h3 c d;refine⟨?_, ?_, ?_, ?_, ?_, ?_⟩
 .rcases a with z|z <;> grind
 .rcases h1 with z|z
  .grind
  .omega
 .rcases h2 with z|z <;> grind
 .rcases h3 with z|z
  .grind
  .omega
 .rcases c with z|z <;> grind
 .rcases d with z|z <;> grind
def ll {w:Wd}{W:Nat}(ok:Lc W w)(f:W<=1300){Q:PV->Prop}(a:(¬∃s t,XS w s t)->w.e'.1+w.l'<=w.b.1->Q tO)(c:(¬∃s t,XS w s t)->w.e.1+w.l<=w.b'.1->Q tP)(q:Q .non):Bj [c8 w] Q:=by
 have g:=ok.t2.mono (n:=3900) (by omega);have i:=ok.t4.mono (n:=3900) (by omega);have j:=ok.t1.mono (n:=3900) (by omega);have k:=ok.t3.mono (n:=3900) (by omega);have ol:=ok.l1.mono (n:=3900) (by omega);have d:=ok.l2.mono (n:=3900) (by omega);have m:=(ok.t4.add ok.l2).mono (n:=3900) (by omega);have p:=(ok.t2.add ok.l1).mono (n:=3900) (by omega);apply HW;unfold c8 CM;repeat' array_get_dec
 .rename_i h;refine a ?_ (by grind);rintro⟨s,t,o⟩;have:=bC o;grind
 .rename_i h;refine c ?_ (by grind);rintro⟨s,t,o⟩;have:=bC o;grind
 .exact q
def Xr (n:Nat):strN n=0\/strN n=1:=by unfold strN iR;rcases n with _|_|_|_|_|_|_|_|_|_|_|_|n <;> simp
structure gz (N:Nat) (w:Wd):Prop where
 W:∃W,Lc W w/\3*W+2<=1300
 p:∀n<12,Bc N (FT w n)
def gz.sh {N:Nat}{w:Wd}(h:gz N w):∀n<12,FY [(Af w n).1,(Af w n).2.1,(Af w n).2.2] < 2^N:=λn a=>by have:=(h.p n a).w ((n:Int),((FY [(Af w n).1,(Af w n).2.1,(Af w n).2.2] :Nat):Int)) (by simp[FT,O9]);simpa using this
def fi {w:Wd}{N:Nat}(h:gz N w):∀p∈EE w,Bc N p/\iz 1 N p.w/\p.w.length=1:=by
 intro p hp;obtain⟨n,a,rfl⟩:=AAI.mp hp;have a:=AA5.mp a;obtain⟨W,ok,_⟩:=h.W;obtain⟨b,b2,c⟩:=Ec ok n;have k:=h.p n a;obtain⟨h1,_,_⟩:=Gy (W:=3*W+2) 3 [(Af w n).1,(Af w n).2.1,(Af w n).2.2] rfl (by simp;exact⟨b,b2,c⟩);refine⟨k,⟨λe he=>⟨?_,k.w e he⟩,AAJ _,by simp[FT,O9]⟩,rfl⟩;have:e=((n:Int),((FY [(Af w n).1,(Af w n).2.1,(Af w n).2.2] :Nat):Int)):=by simpa[FT,O9] using he
 rw[this];show (0:Int)<_;omega
def kO {w:Wd}{W M:Nat}(ok:Lc W w)(d:∀n<12,FY [(Af w n).1,(Af w n).2.1,(Af w n).2.2] < 2^M)(s t:Rat):(∀p∈EE w,h3 p s t)↔XS w s t:=by
 unfold EE XS;constructor
 .intro h n a;obtain⟨b,b2,c⟩:=Ec ok n;exact((az (n:=n) b b2 c (d n a) (Xr n)).2 s t).mp (h _ (AAI.mpr ⟨n,AA5.mpr a,rfl⟩))
 .intro h p hp;obtain⟨n,a,rfl⟩:=AAI.mp hp;have a:=AA5.mp a;obtain⟨b,b2,c⟩:=Ec ok n;exact((az (n:=n) b b2 c (d n a) (Xr n)).2 s t).mpr (h n a)
def ay {a b:Rat}{N:Nat}(ha:Bd N a)(hb:Bd N b):Bd (2*N+4) ((a+b)/2):=by have:=Bd.div (a:=a+b) (b:=((2:Int):Rat)) (by grind) (ha.add hb) (Bd.mono (m:=2) (n:=2) (by constructor <;> decide) (by omega));exact this.mono (by omega)
def kU {p:Bw}{r:Rat}{N M:Nat}(h:Bc N p)(d:Bd M r):Bc (N+M+1) (DE false r p):=by
 have f:=d.bot;have i:=d.top;have g:2^(N+M+1)=2*2^(N+M):=by rw[ADd];omega
 have m:∀x y:Int,x.natAbs<2^N->y.natAbs<2^M->(x*y).natAbs<2^(N+M):=λx y a b=>by have:=ACi a b;rw[<-ABO,<-AAr] at this;exact this
 have j:=m p.c0 r.den h.a (by rw[AAu];exact f);have k:=m p.c1 r.num h.b i;have n:=m p.c2 r.den h.c (by rw[AAu];exact f);refine⟨?_,by show (0:Int).natAbs<_;exact ADJ _, ?_,λe he=>Al (h.w e he) (by omega),h.l,h.s⟩
 .show ((r.den:Int)*p.c0+p.c1*r.num).natAbs<_;rw[AC6,g];omega
 .show ((r.den:Int)*p.c2).natAbs<_;rw[AC6,g];omega
def Am (m:zy (Int×Int)):zy Int:=m.map (·.1)
def Dx (g:Int->Rat)(m:zy (Int×Int)):Rat:=(m.map λe=>(e.2:Rat)*g e.1).sum
def G9 {g:Int->Rat}:Dx g [] =0:=rfl
def DO {g:Int->Rat}{x:Int×Int}{m:zy (Int×Int)}:Dx g (x::m)=(x.2:Rat)*g x.1+Dx g m:=by simp[Dx]
def V4 {x:Int×Int}{m:zy (Int×Int)}{k v:Int}(h:x.1≠k):Bm (x::m) k v=x::Bm m k v:=by unfold Bm;simp only[ABe,AAa h,ADm,AAL,AAC h,ACO];split <;> rfl
def kT {m:zy (Int×Int)}{k v:Int}(h:k ∉ Am m):(m.map λp=>if p.1=k then (p.1,v) else p)=m:=by
 induction m with
 | nil=>rfl
 | cons x m a=> have h1:x.1≠k:=λz=>h (by simp[Am,z]);have h2:k ∉ Am m:=λz=>h (by simp[Am] at z ⊢;exact .inr z);rw[AAL,AAC h1,a h2]
def cD {x:Int×Int}{m:zy (Int×Int)}{k v:Int}(h:x.1=k)(a:k ∉ Am m):Bm (x::m) k v=(k,v)::m:=by unfold Bm;simp only[ABe,AAO h,ADl,AA4,AAL,AAE h];rw[kT a,h]
def NP {x:Int×Int}{m:zy (Int×Int)}{k:Int}:Bz (x::m) k=if x.1=k then x.2 else Bz m k:=by
 unfold Bz;rw[AB1];by_cases h:x.1=k
 .rw [AAO h,AAE h];rfl
 .rw [AAa h,AAC h]
def jL {m:zy (Int×Int)}{k:Int}(h:k ∉ Am m):Bz m k=0:=by
 induction m with
 | nil=>rfl
 | cons x m a=> have h1:x.1≠k:=λz=>h (by simp[Am,z]);have h2:k ∉ Am m:=λz=>h (by simp[Am] at z ⊢;exact .inr z);rw[NP,AAC h1,a h2]
def L9 {x:Int×Int}{m:zy (Int×Int)}(h:(Am (x::m)).Nodup):x.1 ∉ Am m/\(Am m).Nodup:=ABn.mp h
theorem OT {g:Int->Rat}{k v:Int}:∀(m:zy (Int×Int)),(Am m).Nodup->Dx g (Bm m k v)=Dx g m+((v-Bz m k:Int):Rat)*g k
 | [],_=>by rw[show Bm [] k v= [(k,v)] from rfl,DO,G9,show Bz [] k=0 from rfl,Int.sub_zero];grind
 | x::m,nd=>by
   obtain⟨a,b⟩:=L9 nd;by_cases h:x.1=k
   .rw [cD h (h ▸ a),DO,DO,NP,AAE h,<-h,AD2];grind
   .rw [V4 h,DO,DO,OT m b,NP,AAC h];grind
theorem Gh {k v:Int}:∀(m:zy (Int×Int)) (i:Int),i∈Am (Bm m k v)↔i∈Am m\/i=k
 | [],i=>by rw[show Bm [] k v= [(k,v)] from rfl];simp[Am]
 | x::m,i=>by
   by_cases h:x.1=k
   .unfold Bm;simp only[ABe,AAO h,ADl,AA4];have e:Am ((x::m).map λp=>if p.1=k then (p.1,v) else p)=Am (x::m):=by unfold Am;rw[AA7];refine ACJ λp _=> ?_;show (if p.1=k then (p.1,v) else p).1=p.1;split <;> rfl
    rw[e];constructor
    .exact .inl
    .rintro (z|rfl)
     .exact z
     .simp [Am,h]
   .rw [V4 h];have:=Gh (k:=k) (v:=v) m i;simp only[Am,AAL,AAF] at this ⊢;rw[this];grind
theorem V3 {k v:Int}:∀(m:zy (Int×Int)),(Am m).Nodup->(Am (Bm m k v)).Nodup
 | [],_=>by rw[show Bm [] k v= [(k,v)] from rfl];simp[Am]
 | x::m,nd=>by
   obtain⟨a,b⟩:=L9 nd;by_cases h:x.1=k
   .rw [cD h (h ▸ a)];exact ABn.mpr ⟨h ▸ a,b⟩
   .rw [V4 h];refine ABn.mpr ⟨λz=> ?_,V3 m b⟩;rcases (Gh m x.1).mp z with z|z
    .exact a z
    .exact h z
theorem NN {g:Int->Rat}{many:Int}:∀(m a:zy (Int×Int)),(Am m).Nodup->(Am a).Nodup->(∀i∈Am m,i ∉ Am a)->Dx g (m.foldl (λa p=>Bm a p.1 (many*p.2)) a)=Dx g a+(many:Rat)*Dx g m/\(Am (m.foldl (λa p=>Bm a p.1 (many*p.2)) a)).Nodup/\∀i,i∈Am (m.foldl (λa p=>Bm a p.1 (many*p.2)) a)↔i∈Am a\/i∈Am m
 | [],a,_,na,_=>⟨by rw[G9];show Dx g a=_;grind,na,λi=>by simp[Am]⟩
 | x::m,a,nm,na,dj=>by
   obtain⟨b,c⟩:=L9 nm;have hx:x.1 ∉ Am a:=dj x.1 (by simp[Am]);obtain⟨h1,h2,h3⟩:=NN (g:=g) (many:=many) m (Bm a x.1 (many*x.2)) c (V3 a na) (λi hi z=>by
    rcases (Gh a i).mp z with z|z
    .exact dj i (by simp[Am] at hi ⊢;exact .inr hi) z
    .exact b (z ▸ hi))
   refine⟨?_,h2,λi=> ?_⟩
   .show Dx g (m.foldl _ (Bm a x.1 (many*x.2)))=_;rw[h1,OT a na,jL hx,DO,Int.sub_zero,AAS];grind
   .show i∈Am (m.foldl _ (Bm a x.1 (many*x.2)))↔_;rw[h3,Gh];show _↔_\/i∈x.1::Am m;rw[AAF];grind
theorem NM {g:Int->Rat}{more:Int}:∀(m a:zy (Int×Int)),(Am a).Nodup->Dx g (BR more a m)=Dx g a+(more:Rat)*Dx g m/\(Am (BR more a m)).Nodup/\∀i,i∈Am (BR more a m)↔i∈Am a\/i∈Am m
 | [],a,na=>⟨by rw[G9];show Dx g a=_;grind,na,λi=>by simp[Am,BR]⟩
 | x::m,a,na=>by
   obtain⟨h1,h2,h3⟩:=NM (g:=g) (more:=more) m (Bm a x.1 (Bz a x.1+more*x.2)) (V3 a na);refine⟨?_,h2,λi=> ?_⟩
   .show Dx g (BR more (Bm a x.1 (Bz a x.1+more*x.2)) m)=_;rw[h1,OT a na,DO,show Bz a x.1+more*x.2-Bz a x.1=more*x.2 by omega,AAS];grind
   .show i∈Am (BR more (Bm a x.1 (Bz a x.1+more*x.2)) m)↔_;rw[h3,Gh];show _↔_\/i∈x.1::Am m;rw[AAF];grind
def fK (w:Wd):Nat->Int->Rat
 | 0,n=>(Af w n.toNat).1
 | 1,n=>(Af w n.toNat).2.1
 | _,n=>(Af w n.toNat).2.2
structure Q2 (w:Wd) (p:Bw):Prop where
 a:(p.c0:Rat)=Dx (fK w 0) p.w
 b:(p.c1:Rat)=Dx (fK w 1) p.w
 c:(p.c2:Rat)=Dx (fK w 2) p.w
 s:p.s=1->∃i∈Am p.w,strN i.toNat=1
 n:(Am p.w).Nodup
 k:∀i∈Am p.w,0<=i/\i<12
def gB {w:Wd}{W:Nat}(ok:Lc W w){n:Nat}(j:n<12):Q2 w (FT w n):=by
 obtain⟨b,b2,c⟩:=Ec ok n;obtain⟨h1,h2,_⟩:=Gy (W:=3*W+2) 3 [(Af w n).1,(Af w n).2.1,(Af w n).2.2] rfl (by simp;exact⟨b,b2,c⟩);have d:=F2 (h2 (Af w n).1 (by simp));have e:=F2 (h2 (Af w n).2.1 (by simp));have f:=F2 (h2 (Af w n).2.2 (by simp));have a:∀g,Dx g (FT w n).w=((FY [(Af w n).1,(Af w n).2.1,(Af w n).2.2] :Nat):Rat)*g n:=λg=>by show Dx g [((n:Int),((FY [(Af w n).1,(Af w n).2.1,(Af w n).2.2] :Nat):Int))] =_;rw[DO,G9,AAt];grind
 refine⟨?_, ?_, ?_,λh=>⟨n,by simp[FT,O9,Am], ?_⟩,by simp[FT,O9,Am],λi hi=> ?_⟩
 .rw [a];exact d.trans (by show _=_*(Af w ((n:Int).toNat)).1;rw[ABp];grind)
 .rw [a];exact e.trans (by show _=_*(Af w ((n:Int).toNat)).2.1;rw[ABp];grind)
 .rw [a];exact f.trans (by show _=_*(Af w ((n:Int).toNat)).2.2;rw[ABp];grind)
 .rw [ABp];exact h
 .have:i=n:=by simpa[FT,O9,Am] using hi
  omega
def OD {w:Wd}{a:kn}{l h:Bw}(hl:Q2 w l)(f:Q2 w h)(sl:l.s=0\/l.s=1)(j:h.s=0\/h.s=1):Q2 w (A5 a l h):=by
 have S:=λg=>NN (g:=g) (many:= -(h.pr a).c1) l.w [] hl.n (by simp[Am]) (by simp[Am]);have M:=λg=>NM (g:=g) (more:=(l.pr a).c1) h.w (BS (-(h.pr a).c1) l.w) (S g).2.1;have E:∀g,Dx g (A5 a l h).w=((-(h.pr a).c1:Int):Rat)*Dx g l.w+((l.pr a).c1:Rat)*Dx g h.w:=λg=>by refine(M g).1.trans ?_;have:=(S g).1;rw[G9,Rat.zero_add] at this;rw[show BS (-(h.pr a).c1) l.w=l.w.foldl (λd p=>Bm d p.1 (-(h.pr a).c1*p.2)) [] from rfl,this]
 have K:∀i,i∈Am (A5 a l h).w↔i∈Am l.w\/i∈Am h.w:=λi=>by refine((M λ_=>0).2.2 i).trans ?_;have:=(S λ_=>0).2.2 i;rw[show BS (-(h.pr a).c1) l.w=l.w.foldl (λd p=>Bm d p.1 (-(h.pr a).c1*p.2)) [] from rfl,this];simp[Am]
 refine⟨?_, ?_, ?_,λz=> ?_,(M λ_=>0).2.1,λi hi=> ?_⟩
 .show ((-(h.pr a).c1*l.c0+(l.pr a).c1*h.c0:Int):Rat)=_;rw[E,<-hl.a,<-f.a,ACj,AAS,AAS]
 .show ((-(h.pr a).c1*l.c1+(l.pr a).c1*h.c1:Int):Rat)=_;rw[E,<-hl.b,<-f.b,ACj,AAS,AAS]
 .show ((-(h.pr a).c1*l.c2+(l.pr a).c1*h.c2:Int):Rat)=_;rw[E,<-hl.c,<-f.c,ACj,AAS,AAS]
 .have z:max l.s h.s=1:=z;have:l.s=1\/h.s=1:=by omega
  rcases this with q|q
  .obtain ⟨i,hi,e⟩:=hl.s q;exact⟨i,(K i).mpr (.inl hi),e⟩
  .obtain ⟨i,hi,e⟩:=f.s q;exact⟨i,(K i).mpr (.inr hi),e⟩
 .rcases (K i).mp hi with q|q
  .exact hl.k i q
  .exact f.k i q
def JV (rows:zy (Int×Rat)):PV:= .tup (rows.map λe=> .tup [.int e.1,fr e.2])
def C6 (w:Wd)(k:Nat)(rows:zy (Int×Rat)):Rat:=(rows.map λe=>e.2*fK w k e.1).sum
structure U5 (N:Nat) (w:Wd) (rows:List (Int×Rat)):Prop where
 r:rows.Pairwise λa b=>a.1<b.1
 k:∀e∈rows,0<=e.1/\e.1<12
 p:∀e∈rows,0<e.2/\Bd N e.2
 l:rows.length<=12
 b:C6 w 1 rows=0
 c:C6 w 2 rows=0
 a:C6 w 0 rows<0\/(C6 w 0 rows=0/\∃e∈rows,strN e.1.toNat=1)
def GF (m:zy (Int×Int))(ns:zy Int):zy (Int×Rat):=ns.map λk=>(k,((((m.lookup k).getD 0).fdiv (D9 m:Nat):Int):Rat))
theorem NO:∀(m:zy (Int×Int)) (g:Nat),(m.foldl (λg e=>Nat.gcd e.2.toNat g) g ∣ g)/\∀e∈m,m.foldl (λg e=>Nat.gcd e.2.toNat g) g ∣ e.2.toNat
 | [],g=>⟨Nat.dvd_refl _,by simp⟩
 | x::m,g=>by
   obtain⟨h1,h2⟩:=NO m (Nat.gcd x.2.toNat g);refine⟨ADy h1 (ABv ..),λe he=> ?_⟩;rcases AAF.mp he with rfl|he
   .exact ADy h1 (ADh ..)
   .exact h2 e he
def QD {m:zy (Int×Int)}{e:Int×Int}(b:(Am m).Nodup)(h:e∈m):m.lookup e.1=some e.2:=by
 induction m with
 | nil=>cases h
 | cons x m c=>
   obtain⟨d,f⟩:=L9 b;rcases AAF.mp h with rfl|a
   .obtain ⟨i,v⟩:=e;simp[List.lookup]
   .have ne:e.1≠x.1:=λz=>d (z ▸ AAI.mpr ⟨e,a,rfl⟩);obtain⟨i,v⟩:=x;have g:(e.1==i)=false:=by simpa using ne
    simp[List.lookup,g,c f a]
def bj {xs c:zy Rat}(h:xs.Perm c):xs.sum=c.sum:=by
 induction h with
 | nil=>rfl
 | cons x _ d=>rw[AAh,AAh,d]
 | swap x y l=>simp only[AAh];grind
 | trans _ _ a b=>rw[a,b]
def ZP {w:Wd}{k:Nat}{m:zy (Int×Int)}{ns:zy Int}(d:ns.Perm (Am m))(f:(Am m).Nodup)(pos:∀e∈m,0<e.2)(n:0<D9 m):C6 w k (GF m ns)*(D9 m:Nat)=Dx (fK w k) m:=by
 have g:C6 w k (GF m ns)=C6 w k (GF m (Am m)):=by unfold C6 GF;exact bj ((d.map _).map _)
 have key:∀e∈m,((((m.lookup e.1).getD 0).fdiv (D9 m:Nat):Int):Rat)*(D9 m:Nat)=e.2:=λe he=>by
  rw[QD f he,ADE];have p:=pos e he;have b:=(NO m 0).2 e he;have b:((D9 m:Nat):Int) ∣ e.2:=by
   have:((D9 m:Nat):Int) ∣ ((e.2.toNat:Nat):Int):=Int.natCast_dvd_natCast.mpr b
   rwa [Int.toNat_of_nonneg (by omega)] at this
  rw[ABb _ (by omega)];have:=Int.ediv_mul_cancel b;rw[<-AAt (D9 m),<-AAS,this]
 rw[g];unfold C6 GF Am Dx;rw[AA7,AA7];generalize o:D9 m=G at *;have c:∀a:zy (Int×Int),(∀e∈a,e∈m)->(a.map ((λe:Int×Rat=>e.2*fK w k e.1) ∘ (λk=>(k,((((m.lookup k).getD 0).fdiv (G:Nat):Int):Rat))) ∘ λx=>x.1)).sum*(G:Nat)=(a.map λe=>(e.2:Rat)*fK w k e.1).sum:=by
  intro a;induction a with
  | nil=>intro _;simp
  | cons x a j=> intro h;have i:=j λe he=>h e (by simp[he]);have l:=key x (h x (by simp));simp only[AAL,AAh,Function.comp] at i ⊢;rw[<-i,<-l];grind
 exact c m λe he=>he
def kB {w:Wd}{N:Nat}{p:Bw}(hp:Q2 w p)(pos:∀e∈p.w,0<e.2/\e.2.natAbs<2^N)(hl:p.w.length<=12)(g:p.c1=0)(j:p.c2=0)(c0:p.c0<0\/(p.c0=0/\p.s=1))(ne:p.w≠ []){ns:zy Int}(d:ns.Perm (p.w.map (·.1)))(l:ns.Pairwise (· <= ·)):U5 (N+1) w (GF p.w ns):=by
 have f:0<D9 p.w:=RG p.w 0 (.inr ne) λe he=>(pos e he).1;have d:ns.Perm (Am p.w):=d;have S:=λk=>ZP (w:=w) (k:=k) d hp.n (λe he=>(pos e he).1) f;have m:(0:Rat)<((D9 p.w:Nat):Rat):=by exact_mod_cast f
 have o:ns.Nodup:=d.nodup_iff.mpr hp.n;have zero:∀k,Dx (fK w k) p.w=0->C6 w k (GF p.w ns)=0:=λk h=>by
  have:=S k;rw[h] at this;rcases ABf.mp this with z|z
  .exact z
  .grind
 have vals:∀i∈ns,0<((p.w.lookup i).getD 0).fdiv (D9 p.w:Nat)/\(((p.w.lookup i).getD 0).fdiv (D9 p.w:Nat)).natAbs<2^N:=λi hi=>by
  obtain⟨e,he,rfl⟩:=AAI.mp (d.mem_iff.mp hi);rw[QD hp.n he,ADE,ABb _ (by omega)];obtain⟨A,B⟩:=pos e he;have r:=(NO p.w 0).2 e he;have t:=ABx (by omega) r;have C:0<e.2.toNat/D9 p.w:=Nat.div_pos t f;have D:e.2.toNat/D9 p.w<=e.2.toNat:=ABt ..;have u:e.2/((D9 p.w:Nat):Int)=((e.2.toNat/D9 p.w:Nat):Int):=by rw[ABw,Int.toNat_of_nonneg (by omega)]
  rw[u];omega
 refine⟨?_, ?_, ?_, ?_,zero 1 (by rw[<-hp.b,g];rfl),zero 2 (by rw[<-hp.c,j];rfl), ?_⟩
 .refine List.pairwise_map.mpr ?_;have:ns.Pairwise λa b=>a<=b/\a≠b:=l.and o;exact this.imp λ{a b} h=>by show a<b;omega
 .intro e he;obtain⟨i,hi,rfl⟩:=AAI.mp he;exact hp.k i (d.mem_iff.mp hi)
 .intro e he;obtain⟨i,hi,rfl⟩:=AAI.mp he;obtain⟨v,x⟩:=vals i hi;refine⟨Rat.intCast_pos.mpr v,⟨?_, ?_⟩⟩
  .rw [Rat.num_intCast];exact Al x (by omega)
  .rw [Rat.den_intCast];exact AAV (by decide:1<2^1) (ACb (by decide) (by omega))
 .unfold GF;rw[AAK,d.length_eq];unfold Am;rw[AAK];exact hl
 .have:=S 0;rw[<-hp.a] at this;rcases c0 with z|⟨z,y⟩
  .left;have:C6 w 0 (GF p.w ns)*((D9 p.w:Nat):Rat)<0:=by rw[this];exact_mod_cast z
   by_cases q:0<=C6 w 0 (GF p.w ns)
   .have:=AD3 q (AB3 m);grind
   .grind
  .right;refine⟨zero 0 (by rw[<-hp.a,z];rfl), ?_⟩;obtain⟨i,hi,e⟩:=hp.s y;exact⟨_,AAI.mpr ⟨i,d.mem_iff.mpr hi,rfl⟩,e⟩
instance{p:Bw}{Q:PV->Prop}:Wp (NK (Av p) .non Q) (Q (.bl true)):=⟨id⟩
def cg {n:Nat}(h:n<12){Q:PV->Prop}(q:Q (.int (strN n))):Ae (.tup [(.int 0),(.int 1),(.int 0),(.int 1),(.int 0),(.int 0),(.int 1),(.int 1),(.int 1),(.int 1),(.int 1),(.int 1)]) (.int n) Q:=by
 have cs:n=0\/n=1\/n=2\/n=3\/n=4\/n=5\/n=6\/n=7\/n=8\/n=9\/n=10\/n=11:=by omega
 rcases cs with rfl|rfl|rfl|rfl|rfl|rfl|rfl|rfl|rfl|rfl|rfl|rfl <;> exact q
def JS (w:Wd):(EE w).length=12:=by simp[EE]
def JT (w:Wd){n:Nat}(h:n<12):FT w n∈EE w:=AAI.mpr ⟨n,AA5.mpr h,rfl⟩
def ZI {a:kn}{ps:zy Bw}(h:ps.length<=12):(Ep a ps).length<=1000:=by
 unfold Ep;rw[AAx,ACh];have f:(ps.filter λp=>decide ((p.pr a).c1=0)).length<=12:=AAY (ABd ..) h;have c:(ps.filter λp=>decide (0<(p.pr a).c1)).length<=12:=AAY (ABd ..) h;have d:(ps.filter λp=>decide ((p.pr a).c1<0)).length<=12:=AAY (ABd ..) h;generalize (ps.filter λp=>decide ((p.pr a).c1=0))=zs at *;generalize (ps.filter λp=>decide (0<(p.pr a).c1))=b at *;generalize (ps.filter λp=>decide ((p.pr a).c1<0))=hs at *;have:∀b:zy Bw,(b.map λl=>(hs.map λh=>A5 a l h).length).sum=b.length*hs.length:=λb=>by
  induction b with
  | nil=>simp
  | cons x b e=>simp[AAL,AAh,ABQ] at e ⊢;omega
 rw[this];have:=AA2 c d;omega
def c4 {ps:zy Bw}{N:Nat}(h:∀p∈ps,Bc N p/\iz 1 N p.w):∀p∈Ep true ps,Bc (2*N+4) p/\iz 2 (2*N+4) p.w:=by
 intro p hp;unfold Ep at hp;rcases AAQ.mp hp with hp|hp
 .obtain ⟨k,w⟩:=h p (AAR.mp hp).1;exact⟨⟨Al k.a (by omega),Al k.b (by omega),Al k.c (by omega),λe he=>Al (k.w e he) (by omega),k.l,k.s⟩,⟨λe he=>⟨(w.p e he).1,Al (w.p e he).2 (by omega)⟩,by have:=w.l;omega,w.n⟩⟩
 .obtain ⟨l,hl,hp⟩:=ABB.mp hp;obtain⟨h',d,rfl⟩:=AAI.mp hp;obtain⟨hl,f⟩:=AAR.mp hl;obtain⟨d,g⟩:=AAR.mp d;exact Ws (h l hl).1 (h h' d).1 (h l hl).2 (h h' d).2 (by decide) (AAs f) (AAs g)
def Rt {w:Wd}{W:Nat}(ok:Lc W w){n:Nat}(c:n<12):∃S:Rat,0<S/\((FT w n).c1:Rat)=(Af w n).2.1*S/\((FT w n).c2:Rat)=(Af w n).2.2*S:=by obtain⟨a,b2,b⟩:=Ec ok n;obtain⟨h1,h2,_⟩:=Gy (W:=3*W+2) 3 [(Af w n).1,(Af w n).2.1,(Af w n).2.2] rfl (by simp;exact⟨a,b2,b⟩);exact⟨((FY [(Af w n).1,(Af w n).2.1,(Af w n).2.2] :Nat):Rat),by exact_mod_cast h1,F2 (h2 _ (by simp)),F2 (h2 _ (by simp))⟩
def KY {x:Int}{y:Rat}{S:Rat}(a:0<S)(e:(x:Rat)=y*S):(0<y->0<x)/\(y=0->x=0)/\(y<0->x<0):=by
 refine⟨λh=> ?_,λh=> ?_,λh=> ?_⟩
 .have:(0:Rat)<x:=by rw[e];exact ACP h a
  exact_mod_cast this
 .have:(x:Rat)=0:=by rw[e,h];grind
  exact_mod_cast this
 .have p:0 < -y*S:=ACP (by grind) a;have:(x:Rat)<0:=by rw[e];grind
  exact_mod_cast this
def gj (m:zy (Int×Int))(ns:zy Int):JV (GF m ns)= .tup (ns.map (gA m)):=by unfold JV GF;rw[AA7];rfl
def WT {w:Wd}{ps:zy Bw}(h:∀p∈ps,Q2 w p)(hs:∀p∈ps,p.s=0\/p.s=1):∀p∈Ep true ps,Q2 w p/\p.c2=0:=by
 intro p hp;unfold Ep at hp;rcases AAQ.mp hp with hp|hp
 .obtain ⟨hp,z⟩:=AAR.mp hp;exact⟨h p hp,AAs z⟩
 .obtain ⟨l,hl,hp⟩:=ABB.mp hp;obtain⟨h',a,rfl⟩:=AAI.mp hp;obtain⟨hl,b⟩:=AAR.mp hl;obtain⟨a,c⟩:=AAR.mp a;refine⟨OD (h l hl) (h h' a) (hs l hl) (hs h' a), ?_⟩;show -h'.c2*l.c2+l.c2*h'.c2=0;grind
def bK {N:Nat}:Bd (N+1) (1:Rat):=⟨AAV (by decide:1<2^1) (ACb (by decide) (by omega)),AAV (by decide:1<2^1) (ACb (by decide) (by omega))⟩
def kC {w:Wd}{N:Nat}(h:w.e'.1+w.l'<=w.b.1)(hN:1<=N):U5 N w [(0,1),(3,1),(5,1)] :=by
 obtain⟨N,rfl⟩:∃n,N=n+1:=⟨N-1,by omega⟩;have e:∀k,C6 w k [(0,1),(3,1),(5,1)] =fK w k 0+fK w k 3+fK w k 5:=λk=>by unfold C6;simp only[AAL,ABr,AAh,AD4];grind
 refine⟨by simp,by simp,λe he=> ?_,by decide, ?_, ?_, ?_⟩
 .simp only[AAF,AAj,AAk] at he;rcases he with rfl|rfl|rfl <;> exact⟨by decide,bK⟩
 .rw [e];show (1:Rat)+0 + -1=0;grind
 .rw [e];show (0:Rat) + -1+1=0;grind
 .rw [e];show -w.b.1+w.e'.1+w.l'<0\/(-w.b.1+w.e'.1+w.l'=0/\_);by_cases z:w.e'.1+w.l'=w.b.1
  .exact .inr ⟨by grind,(3,1),by simp,rfl⟩
  .exact .inl (by grind)
def kD {w:Wd}{N:Nat}(h:w.e.1+w.l<=w.b'.1)(hN:1<=N):U5 N w [(1,1),(2,1),(4,1)] :=by
 obtain⟨N,rfl⟩:∃n,N=n+1:=⟨N-1,by omega⟩;have e:∀k,C6 w k [(1,1),(2,1),(4,1)] =fK w k 1+fK w k 2+fK w k 4:=λk=>by unfold C6;simp only[AAL,ABr,AAh,AD4];grind
 refine⟨by simp,by simp,λe he=> ?_,by decide, ?_, ?_, ?_⟩
 .simp only[AAF,AAj,AAk] at he;rcases he with rfl|rfl|rfl <;> exact⟨by decide,bK⟩
 .rw [e];show (-1:Rat)+0+1=0;grind
 .rw [e];show (0:Rat)+1 + -1=0;grind
 .rw [e];show w.e.1 + -w.b'.1+w.l<0\/(w.e.1 + -w.b'.1+w.l=0/\_);by_cases z:w.e.1+w.l=w.b'.1
  .exact .inr ⟨by grind,(1,1),by simp,rfl⟩
  .exact .inl (by grind)
def Vl {w:Wd}{N:Nat}(h:gz N w)(hN:N<=770){Q:PV->Prop}(K:(¬∃s t,XS w s t)->∀rows,U5 (4*N+13) w rows->Q (.tup [.non,JV rows]))(qm:∀s t,XS w s t->Bd (4*N+12) s->Bd (10*N+30) t->Q (.tup [.tup [fr s,fr t], .non])):FN [c8 w] Q:=by
 have r:=fi h;obtain⟨W,ok,hW⟩:=h.W;have hh:=λs t=>kO ok h.sh s t;have sy:∀p∈EE w,Q2 w p:=λp hp=>by obtain⟨n,hn,rfl⟩:=AAI.mp hp;exact gB ok (AA5.mp hn)
 have c0:=Rt ok (n:=0) (by decide);have c1:=Rt ok (n:=1) (by decide);have c2:=Rt ok (n:=2) (by decide);have c3:=Rt ok (n:=3) (by decide);have L:=λn=>Ec ok n;apply US;ac_rfl;refine ll ok (by omega) (λx u=> ?_) (λx u=> ?_) ?_
 .have b:=K x [(0,1),(3,1),(5,1)] (kC u (by omega));rw[show JV [(0,1),(3,1),(5,1)] =tO from rfl] at b;unfold tO at b ⊢;ac_rfl;exact b
 .have b:=K x [(1,1),(2,1),(4,1)] (kD u (by omega));rw[show JV [(1,1),(2,1),(4,1)] =tP from rfl] at b;unfold tP at b ⊢;ac_rfl;exact b
 ac_rfl;refine Q9 (λi f=>f=((List.range i).map (FT w)).map Av) (λf e=> ?_) (λi hi f R F e=> ?_) rfl;rotate_left
 .have b:=F (f ++ [Av (FT w i)]) (by rw[e,List.range_succ,ABz,ABz];rfl);clear F;have hi:i<12:=hi;rw[show (0:Int)+(i:Int)=i by omega];ac_rfl;refine W1 ok (by omega) hi ?_;unfold Lu;ac_rfl;refine cg hi ?_;ac_rfl;obtain⟨G,b2,b3⟩:=L i;refine Y7 G b2 b3 (by omega) ?_;exact b
 subst e;show Ar 2 (.lst ((EE w).map Av)) _ _;ac_rfl;have hs:∀p∈EE w,p.s=0\/p.s=1:=λp hp=>(r p hp).1.s;have y:∃p∈EE w,0<p.c2:=by obtain⟨S,g,_,e⟩:=c2;exact⟨_,JT w (n:=2) (by decide),(KY g e).1 (by simp only[Af];decide)⟩
 have vE:∃p∈EE w,p.c2<0:=by obtain⟨S,g,_,e⟩:=c3;exact⟨_,JT w (n:=3) (by decide),(KY g e).2.2 (by simp only[Af];decide)⟩
 have FM:=λs=>fm hs y vE s;have m0:∃p∈Ep true (EE w),0<(p.pr false).c1*1:=by obtain⟨S,g,e,M⟩:=c0;refine⟨FT w 0,AAQ.mpr (.inl (AAR.mpr ⟨JT w (by decide),AAO ((KY g M).2.1 (by simp only[Af]))⟩)), ?_⟩;have:=(KY g e).1 (by simp only[Af];decide);show 0<(FT w 0).c1*1;omega
 have m1:∃p∈Ep true (EE w),0<(p.pr false).c1 * -1:=by obtain⟨S,g,e,M⟩:=c1;refine⟨FT w 1,AAQ.mpr (.inl (AAR.mpr ⟨JT w (by decide),AAO ((KY g M).2.1 (by simp only[Af]))⟩)), ?_⟩;have:=(KY g e).2.2 (by simp only[Af];decide);show 0<(FT w 1).c1 * -1;omega
 have d:=c4 (ps:=EE w) λp hp=>⟨(r p hp).1,(r p hp).2.1⟩;have st:=WT sy hs;have u:=ZI (a:=true) (ps:=EE w) (by rw[JS];decide);refine⟨rfl, ?_⟩;show EQ [.lst ((EE w).map Av), .int (OX true), .int 2] _;refine Uk rfl (λp hp=>(r p hp).1) (λp hp=>(r p hp).2.2) (by omega) (by rw[JS];decide) ?_;generalize Ep true (EE w)=first at *
 have j:∀p∈first,p.s=0\/p.s=1:=λp hp=>(d p hp).1.s
 have A:∀q∈first.map (Bw.pr false),q.s=0\/q.s=1:=λq c=>by obtain⟨p,hp,rfl⟩:=AAI.mp c;exact j p hp
 obtain⟨l,e1,k,gl,t1⟩:=E5 (a:=false) (.inl rfl) j m0;obtain⟨h,e2,m,O,t2⟩:=E5 (a:=false) (.inr rfl) j m1;have gl:0<(l.pr false).c1:=by omega
 have O:(h.pr false).c1<0:=by omega
 have cn:=K8 (l:=l.pr false) (h:=h.pr false) gl O (j l k) (j h m) (A5 false l h).w;have cw:=Ws (a:=false) (d l k).1 (d h m).1 (d l k).2 (d h m).2 (by decide) gl O;ac_rfl;show Dj [.lst (first.map Av), .int (OX false)] _;refine YX rfl (λp hp=>(d p hp).1) (by omega) u e1 e2 (λP nc=> ?_) (λp hp H=> ?_)
 .obtain ⟨s0,a1,a2⟩:=cn.mp nc;have B:=YC A t1 t2 (λq c z=>by
   obtain⟨p,hp,rfl⟩:=AAI.mp c;exact P p hp z) a1 a2
  have md:=QH A t1 t2 B;have G:=Sa ((d l k).1.pr false) (by omega);have b2:=Sa ((d h m).1.pr false) (by omega);have bs:=ay G b2;obtain⟨t0,ht⟩:=(FM _).mp λp hp=>md _ (AAI.mpr ⟨p,hp,rfl⟩);ac_rfl;show Cc [.lst (first.map Av), .int (OX false)] _;refine QY rfl (λp hp=>(d p hp).1) (by omega) u e1 e2 (by omega) (by omega) (G.mono (by omega)) (b2.mono (by omega)) ?_;generalize (DN (l.pr false)+DN (h.pr false))/2=s at *;have jS:(0:Int)<s.den:=by exact_mod_cast s.den_pos
  have I:∀q∈(EE w).map (DE false s),Bc (N+(2*(2*(N)+4)+4)+1) q:=λq c=>by obtain⟨p,hp,rfl⟩:=AAI.mp c;exact kU (r p hp).1 bs
  have T:∀q∈(EE w).map (DE false s),q.s=0\/q.s=1:=λq c=>(I q c).s;have lq:((EE w).map (DE false s)).length<=1000:=by rw[AAK,JS];decide
  have n0:∃p∈(EE w).map (DE false s),0<(p.pr true).c1*1:=by obtain⟨p,hp,z⟩:=y;refine⟨_,AAI.mpr ⟨p,hp,rfl⟩, ?_⟩;show 0<(s.den:Int)*p.c2*1;rw[ABm];exact ABI jS z
  have n1:∃p∈(EE w).map (DE false s),0<(p.pr true).c1 * -1:=by obtain⟨p,hp,z⟩:=vE;refine⟨_,AAI.mpr ⟨p,hp,rfl⟩, ?_⟩;show 0<(s.den:Int)*p.c2 * -1;rw[show (s.den:Int)*p.c2 * -1=s.den * -p.c2 by grind];exact ABI jS (by omega)
  obtain⟨l',U,X,gl',Y⟩:=E5 (a:=true) (.inl rfl) T n0;obtain⟨h',Z,mh',gh',t2'⟩:=E5 (a:=true) (.inr rfl) T n1;have md':=QH (λq c=>by
   obtain⟨p,hp,rfl⟩:=AAI.mp c;exact T p hp) Y t2' (t0:=t0) λq c=>by obtain⟨q',RP,rfl⟩:=AAI.mp c;obtain⟨p,hp,rfl⟩:=AAI.mp RP;exact CK.mpr (ht p hp)
  have C:=Sa ((I l' X).pr true) (by omega);have D:=Sa ((I h' mh').pr true) (by omega);have bt:=ay C D;have b:=qm s _ ((hh s _).mp λp hp=>CK.mp (md' _ (AAI.mpr ⟨_,AAI.mpr ⟨p,hp,rfl⟩,rfl⟩))) (bs.mono (by omega)) (bt.mono (by omega));ac_rfl;refine⟨by rw[JS];decide, ?_⟩;refine Ew Av Av (DE false s) (λp=>p∈EE w) (λp hp R F=> ?_) (EE w) [] (λp hp=>hp) ?_
  .ac_rfl;show D6 [Av p, .int (OX false),fr s] _;exact V1 (r p hp).1 bs (by omega) (by omega) F
  rw[AA8];generalize (EE w).map (DE false s)=qs at *;ac_rfl;show Cc [.lst (qs.map Av), .int (OX true)] _;refine QY rfl I (by omega) lq U Z (by omega) (by omega) (C.mono (by omega)) (D.mono (by omega)) ?_;generalize (DN (l'.pr true)+DN (h'.pr true))/2=t at *;ac_rfl;exact b
 .have x:¬∃s t,XS w s t:=by
   rintro⟨s,t,o⟩;have B:=(FM s).mpr ⟨t,(hh s t).mpr o⟩;rcases hp with⟨hp,z⟩|rfl
   .have:=(QJ z (j p hp) s).mp (B p hp);rw[this] at H;cases H
   .have:=cn.mpr ⟨s,B l k,B h m⟩;have E:HV ⟨-(h.pr false).c1*(l.pr false).c0+(l.pr false).c1*(h.pr false).c0, -(h.pr false).c1*(l.pr false).c1+(l.pr false).c1*(h.pr false).c1,max (l.pr false).s (h.pr false).s,(A5 false l h).w⟩=true:=H;rw[this] at E;cases E
  have v:iz 4 (2*(2*(N)+4)+4) p.w:=by
   rcases hp with⟨hp,z⟩|rfl
   .have J:=(d p hp).2;exact⟨λe he=>⟨(J.p e he).1,Al (J.p e he).2 (by omega)⟩,by have:=J.l;omega,J.n⟩
   .exact cw.2
  have sp:Q2 w p/\p.c1=0/\p.c2=0:=by
   rcases hp with⟨hp,z⟩|rfl
   .exact ⟨(st p hp).1,z,(st p hp).2⟩
   .refine ⟨OD (st l k).1 (st h m).1 (j l k) (j h m), ?_, ?_⟩
    .show -(h.pr false).c1*l.c1+(l.pr false).c1*h.c1=0;show -h.c1*l.c1+l.c1*h.c1=0;grind
    .show -(h.pr false).c1*l.c2+(l.pr false).c1*h.c2=0;rw[(st l k).2,(st h m).2];grind
  have P:p.c0<0\/(p.c0=0/\p.s=1):=by have:decide (p.c0<0\/(p.c0=0/\p.s=1))=true:=H;exact AAs this
  have b:=λns pm pw=>K x _ (cast (congrArg (λn=>U5 n w _) (by omega:2*(2*N+4)+4+1=4*N+13)) (kB (ns:=ns) sp.1 v.p (by have:=v.l;omega) sp.2.1 sp.2.2 P v.n pm pw));ac_rfl;refine ZJ v.p v.n (by have:=v.l;omega) (by omega) λns pm pw=> ?_;have b:=b ns pm pw;rw[gj] at b;ac_rfl;exact b
def Uo {a:Type}:Nat->zy a->zy (Nat×a)
 | _, [] => []
 | k,x::xs=>(k,x)::Uo (k+1) xs
theorem Fn {a:Type}:∀(k:Nat) (xs:zy a),(Uo k xs).length=xs.length
 | _, [] =>rfl
 | k,x::xs=>by simp[Uo,Fn (k+1) xs]
theorem JI {a:Type}:∀(k:Nat) (xs:zy a),(Uo k xs).map (·.2)=xs
 | _, [] =>rfl
 | k,x::xs=>by simp[Uo,JI (k+1) xs]
theorem J4 {a:Type}(g:a->PV):∀(k:Nat) (xs:zy a),Eb k (xs.map g)=(Uo k xs).map λp=> .tup [.int p.1,g p.2]
 | _, [] =>rfl
 | k,x::xs=>by have:=J4 g (k+1) xs;simp only[AAL,Eb,Uo];rw[<-this]
def De (cs ds:zy C4)(b e:T3)(d:Rat×Rat)(p q:C4×C4):Wd:=⟨p.1,p.2,q.1,q.2,szs b e d,b.2.2,e.2.2⟩
def wrow (x:Nat×Nat×Wd):PV:= .tup [.int x.1, .int x.2.1,c8 x.2.2]
def MF (cs ds:zy C4)(b e:T3)(d:Rat×Rat):zy (Nat×Nat×Wd):=(Uo 0 (Dg cs)).flatMap λp=>(Uo 0 (Dg ds)).map λq=>(p.1,q.1,De cs ds b e d p.2 q.2)
def Sd {cs ds:zy C4}{b e:T3}{d:Rat×Rat}{x:Nat×Nat×Wd}(h:x∈MF cs ds b e d):∃p∈Dg cs,∃q∈Dg ds,x.2.2=De cs ds b e d p q:=by obtain⟨p,hp,h⟩:=ABB.mp h;obtain⟨q,a,rfl⟩:=AAI.mp h;exact⟨p.2,by rw[<-JI 0 (Dg cs)];exact AAI.mpr ⟨p,hp,rfl⟩,q.2,by rw[<-JI 0 (Dg ds)];exact AAI.mpr ⟨q,a,rfl⟩,rfl⟩
def em {cs ds:zy C4}{b e:T3}{d:Rat×Rat}{p q:C4×C4}(hp:p∈Dg cs)(a:q∈Dg ds):∃x∈MF cs ds b e d,x.2.2=De cs ds b e d p q:=by rw[<-JI 0 (Dg cs)] at hp;rw[<-JI 0 (Dg ds)] at a;obtain⟨c,f,rfl⟩:=AAI.mp hp;obtain⟨g,h,rfl⟩:=AAI.mp a;exact⟨_,ABB.mpr ⟨c,f,AAI.mpr ⟨g,h,rfl⟩⟩,rfl⟩
def aF {cs:zy C4}{b:T3}{v:PV}(h:J1 cs b v):∃p w,GD cs p/\X2 b w/\∀{R:PV->Prop},(R p->Ae v (.int 0) R)/\(R w->Ae v (.int 1) R):=by
 obtain⟨p,w,h1,h2,rfl|rfl⟩:=h
 .exact ⟨p,w,h1,h2,id,id⟩
 .exact ⟨p,w,h1,h2,id,id⟩
def QZ {cs ds:zy C4}{b e:T3}{d:Rat×Rat}{v w u:PV}{B:Nat}(hv:J1 cs b v)(hw:J1 ds e w)(hu:Ze d u)(H:Hi 100 b)(I:Hi 100 e)(J:Bd 100 d.1)(b2:Bd 100 d.2)(hc:∀c∈cs,GC B c)(K:Hh cs)(h2:2<=cs.length)(hl:cs.length<=100)(L:∀c∈ds,GC B c)(M:Hh ds)(N:2<=ds.length)(U:ds.length<=100)(E:6*B+3<=3900){Q:PV->Prop}(q:Q (.lst ((MF cs ds b e d).map wrow))):B5 [v,w,u] Q:=by
 have sz:=λ{Q}=>cZ (Q:=Q) hv hw hu H I J b2;obtain⟨W,X,l,m,i⟩:=aF hv;obtain⟨Y,Z,n,o,j⟩:=aF hw;have r:(Dg cs).length<=100:=by unfold Dg;simp;omega
 have s:(Dg ds).length<=100:=by unfold Dg;simp;omega
 apply PR;ac_rfl;refine sz ?_;ac_rfl;refine i.2 ?_;ac_rfl;refine(Z7 m).2.2 ?_;ac_rfl;refine j.2 ?_;ac_rfl;refine(Z7 o).2.2 ?_;ac_rfl;refine j.1 ?_;ac_rfl;refine b6 n L M N (by omega) E ?_;ac_rfl;refine i.1 ?_;ac_rfl;refine b6 l hc K h2 (by omega) E ?_;ac_rfl;show DV _ _ _ (Eb 0 ((Dg cs).map λp=>CM p.1 p.2)) _;rw[J4];unfold MF at q;have O:(Uo 0 (Dg cs)).length<=100:=by rw[Fn];exact r
 have t:(Uo 0 (Dg ds)).length<=100:=by rw[Fn];exact s
 have y:Eb 0 ((Dg ds).map λp=>CM p.1 p.2)=(Uo 0 (Dg ds)).map λp=> .tup [.int p.1,CM p.2.1 p.2.2] :=J4 _ 0 _;generalize (Uo 0 (Dg cs))=us1 at *;generalize (Uo 0 (Dg ds))=us2 at *;generalize hP:((Dg ds).map λp=>CM p.1 p.2)=P2 at *;refine CS (λp:Nat×C4×C4=> .tup [.int p.1,CM p.2.1 p.2.2]) (λf vs τ=>∃z C g a,τ= [some (.val v),some (.val w),some (.val u),some (.val (.lst [fr (szs b e d).1,fr (szs b e d).2.1,fr (szs b e d).2.2])),some (.val (.tup [fr b.2.2,fr e.2.2])),some (.val (.lst P2)),some (.own ((f.flatMap λp=>us2.map λq=>(p.1,q.1,De cs ds b e d p.2 q.2)).map wrow)),z,C,g,a]) ?_ ?_ ⟨none,none,none,none,rfl⟩
 .rintro τ ⟨z,C,g,a,rfl⟩;ac_rfl;exact q
 .rintro f p vs P τ R F ⟨z,C,g,a,rfl⟩;have ul:f.length<=100:=by have:=congrArg List.length P;simp at this;omega
  ac_rfl;show DV _ _ _ (Eb 0 P2) _;rw[y];refine CS (λp:Nat×C4×C4=> .tup [.int p.1,CM p.2.1 p.2.2]) (λh xs τ=>∃g a,τ= [some (.val v),some (.val w),some (.val u),some (.val (.lst [fr (szs b e d).1,fr (szs b e d).2.1,fr (szs b e d).2.2])),some (.val (.tup [fr b.2.2,fr e.2.2])),some (.val (.lst P2)),some (.own (((f.flatMap λp=>us2.map λq=>(p.1,q.1,De cs ds b e d p.2 q.2))++h.map λq=>(p.1,q.1,De cs ds b e d p.2 q.2)).map wrow)),some (.val (.int p.1)),some (.val (CM p.2.1 p.2.2)),g,a]) ?_ ?_ ⟨g,a,by simp⟩
  .rintro τ ⟨g,a,rfl⟩;exact F _ ⟨some (.val (.int p.1)),some (.val (CM p.2.1 p.2.2)),g,a,by simp[List.flatMap_append]⟩
  .rintro h x xs D τ R' G ⟨g,a,rfl⟩;have wl:h.length<=100:=by have:=congrArg List.length D;simp at this;omega
   have k:=G [some (.val v),some (.val w),some (.val u),some (.val (.lst [fr (szs b e d).1,fr (szs b e d).2.1,fr (szs b e d).2.2])),some (.val (.tup [fr b.2.2,fr e.2.2])),some (.val (.lst P2)),some (.own (((f.flatMap λp=>us2.map λq=>(p.1,q.1,De cs ds b e d p.2 q.2))++(h ++ [x]).map λq=>(p.1,q.1,De cs ds b e d p.2 q.2)).map wrow)),some (.val (.int p.1)),some (.val (CM p.2.1 p.2.2)),some (.val (.int x.1)),some (.val (CM x.2.1 x.2.2))] ⟨_,_,rfl⟩;clear G F;have S:∀A:zy (Nat×Nat×Wd),(A++(h ++ [x]).map λq=>(p.1,q.1,De cs ds b e d p.2 q.2)).map wrow=(A++h.map λq=>(p.1,q.1,De cs ds b e d p.2 q.2)).map wrow ++ [wrow (p.1,x.1,De cs ds b e d p.2 x.2)] :=λA=>by simp
   rw[S] at k;have len:(((f.flatMap λp=>us2.map λq=>(p.1,q.1,De cs ds b e d p.2 q.2))++h.map λq=>(p.1,q.1,De cs ds b e d p.2 q.2)).map wrow).length<=10100:=by
    have:(f.flatMap λp=>us2.map λq=>(p.1,q.1,De cs ds b e d p.2 q.2)).length<=100*100:=by
     rw[ACh];have:∀f:zy (Nat×C4×C4),(f.map λp=>(us2.map λq=>(p.1,q.1,De cs ds b e d p.2 q.2)).length).sum=f.length*us2.length:=λf=>by
      induction f with
      | nil=>simp
      | cons x f T=>simp[AAL,AAh,ABQ] at T ⊢;omega
     rw[this];exact AA2 ul t
    simp only[AAK,AAx];omega
   generalize (((f.flatMap λp=>us2.map λq=>(p.1,q.1,De cs ds b e d p.2 q.2))++h.map λq=>(p.1,q.1,De cs ds b e d p.2 q.2)).map wrow)=told at *;ac_rfl;refine⟨Nf len (by decide), ?_⟩;ac_rfl;exact k
def CA (x:(Nat×Nat×Wd)×zy (Int×Rat)):PV:= .tup [.int x.1.1, .int x.1.2.1,JV x.2]
def Vm {v w u:PV}{L:zy (Nat×Nat×Wd)}(hw:∀{Q:PV->Prop},Q (.lst (L.map wrow))->B5 [v,w,u] Q)(hl:L.length<=10100){N:Nat}(hN:N<=770)(r:∀x∈L,gz N x.2.2){Q:PV->Prop}(z:(∀x∈L,¬∃s t,XS x.2.2 s t)->∀ps:zy (zy (Int×Rat)),L.length=ps.length->(∀y∈L.zip ps,U5 (4*N+13) y.1.2.2 y.2)->Q (.tup [.str "apart", .tup ((L.zip ps).map CA)]))(A:∀x∈L,∀s t,XS x.2.2 s t->Bd (4*N+12) s->Bd (10*N+30) t->Q (.tup [.str "meet",fr s,fr t])):BW [v,w,u] Q:=by
 apply UT;ac_rfl;refine hw ?_;ac_rfl;refine CS wrow (λb vs τ=>(∀x∈b,¬∃s t,XS x.2.2 s t)/\∃(ps:zy (zy (Int×Rat))) (d f g h i:zt AV),b.length=ps.length/\(∀y∈b.zip ps,U5 (4*N+13) y.1.2.2 y.2)/\τ= [some (.val v),some (.val w),some (.val u),some (.own ((b.zip ps).map CA)),d,f,g,h,i]) ?_ ?_ ⟨by simp, [],_,_,_,_,_,rfl,by simp,rfl⟩
 .rintro τ ⟨j,ps,d,f,g,h,i,hl,hp,rfl⟩;have c:=z j ps hl hp;ac_rfl;exact c
 .rintro b x vs e τ R k ⟨j,ps,d,f,g,h,i,m,B,rfl⟩;have mx:x∈L:=by rw[<-e];simp
  have ul:b.length<=10100:=by have:=congrArg List.length e;simp at this;omega
  have l:=A x mx;unfold wrow;ac_rfl;refine Vl (r x mx) hN (λnx rows hp=> ?_) (λs t o bs bt=> ?_)
  .have p:(b ++ [x]).zip (ps ++ [rows])=b.zip ps ++ [(x,rows)] :=by rw[List.zip_append m];rfl
   have c:=k [some (.val v),some (.val w),some (.val u),some (.own ((b.zip ps).map CA ++ [CA (x,rows)])),some (.val (.int x.1)),some (.val (.int x.2.1)),some (.val (c8 x.2.2)),some (.val .non),some (.val (JV rows))] ⟨λy a=>by
    rcases AAQ.mp a with a|a
    .exact j y a
    .rw [AAc.mp a];exact nx,ps ++ [rows],_,_,_,_,_,by simp[m],λy a=>by
    rw[p] at a;rcases AAQ.mp a with a|a
    .exact B y a
    .rw [AAc.mp a];exact hp,by rw[p,ABz];rfl⟩
   clear k;have C:((b.zip ps).map CA).length<=10100:=by rw[AAK,List.length_zip];omega
   generalize (b.zip ps).map CA=told at *;unfold CA JV at c;unfold JV;ac_rfl;refine⟨Nf (n:=10100) (by omega) (by decide), ?_⟩;ac_rfl;exact c
  .clear k;ac_rfl;exact l s t o bs bt
def Mul.get {D N:Nat}{a:Rat}(h:Mul D N a):∃k:Int,a*(D:Rat)=(k:Rat)/\k.natAbs<=N:=by
 obtain⟨b,k,rfl,hk⟩:=h;refine⟨k, ?_,hk⟩;have:(D:Rat)≠0:=by exact_mod_cast (by omega:D≠0)
 rw[ABU,AAt];grind
def Mul.mk' {D N:Nat}{a:Rat}{k:Int}(b:0<D)(e:a*(D:Rat)=(k:Rat))(hk:k.natAbs<=N):Mul D N a:=by
 refine⟨b,k, ?_,hk⟩;have:(D:Rat)≠0:=by exact_mod_cast (by omega:D≠0)
 rw[ABU,AAt];grind
def Mul.neg {D N:Nat}{a:Rat}(h:Mul D N a):Mul D N (-a):=by obtain⟨k,e,hk⟩:=h.get;exact .mk' h.1 (k:= -k) (by rw[Rat.intCast_neg,<-e];grind) (by omega)
def Mul.sub {D N M:Nat}{a b:Rat}(ha:Mul D N a)(hb:Mul D M b):Mul D (N+M) (a-b):=by rw[Rat.sub_eq_add_neg];exact ha.add hb.neg
def Mul.mul {D N E M:Nat}{a b:Rat}(ha:Mul D N a)(hb:Mul E M b):Mul (D*E) (N*M) (a*b):=by obtain⟨k,e,hk⟩:=ha.get;obtain⟨l,f,hl⟩:=hb.get;refine .mk' (AA1 ha.1 hb.1) (k:=k*l) ?_ (by rw[AAr];exact AA2 hk hl);rw[AAS,<-e,<-f,AD5];grind
def Mul.upc {D N c:Nat}{a:Rat}(ha:Mul D N a)(hc:0<c):Mul (D*c) (N*c) a:=by obtain⟨k,e,hk⟩:=ha.get;refine .mk' (AA1 ha.1 hc) (k:=k*c) ?_ (by rw[AAr,AAu];exact ACR c hk);rw[AAS,<-e,AD5,AAt];grind
def Mul.den {D N:Nat}{a:Rat}(h:Mul D N a):a.den ∣ D:=by
 obtain⟨b,k,rfl,_⟩:=h;have e:=AAy (Rat.divInt k D);rw[AC5 (by exact_mod_cast (Rat.divInt k D).den_nz) (by omega)] at e;have c:=(Rat.divInt k D).reduced;generalize (Rat.divInt k D).num=x at e c;generalize (Rat.divInt k D).den=y at e c;have:y ∣ x.natAbs*D:=by have:=congrArg Int.natAbs e;rw[AAr,AAr,AAu,AAu] at this;exact⟨k.natAbs,by rw[this,ABV]⟩
 exact Nat.Coprime.dvd_of_dvd_mul_left (Nat.Coprime.symm c) this
theorem Xh {D:Nat}:∀(n:Nat) (xs:zy Rat),xs.length=n->(∀x∈xs,x.den ∣ D)->FY xs ∣ D
 | 0,xs,e,_=>by rw[ADw.mp e];exact Nat.one_dvd D
 | n+1,xs,e,h=>by
   obtain⟨a,x,rfl⟩:∃a x,xs=a ++ [x] :=⟨xs.dropLast,xs.getLast (by intro z;subst z;simp at e),(ADx _).symm⟩;have b:=Xh n a (by simp at e;omega) λy c=>h y (by simp[c]);have hx:=h x (by simp);rw[SM];have:FY a*(x.den/Nat.gcd (FY a) x.den)=Nat.lcm (FY a) x.den:=by unfold Nat.lcm;rw[Nat.mul_div_assoc _ (ABv ..)]
   rw[this];exact Nat.lcm_dvd b hx
def gC {D N S:Nat}{a:Rat}(h:Mul D N a)(b:S ∣ D)(ha:a.den ∣ S):(Si S a).natAbs<=N:=by
 obtain⟨k,e,hk⟩:=h.get;obtain⟨c,rfl⟩:=b;have c0:0<c:=Nat.pos_of_ne_zero λz=>by have:=h.1;simp[z] at this
 have f:=F2 ha;have:((Si S a*c:Int):Rat)=(k:Rat):=by rw[AAS,f,<-e,AD5,AAt];grind
 have:Si S a*c=k:=by exact_mod_cast this
 have:(Si S a).natAbs*c=k.natAbs:=by rw[<-this,AAr,AAu]
 have d:(Si S a).natAbs*1<=(Si S a).natAbs*c:=ABT _ c0;omega
def XQ {a b c:Rat}{D N B:Nat}{s n:Int}(ha:Mul D N a)(hb:Mul D N b)(hc:Mul D N c)(hs:s=0\/s=1)(hN:N<2^B)(d:D<2^B):Bc B (O9 a b c s n):=by have e:FY [a,b,c] ∣ D:=Xh 3 _ rfl (by simp;exact⟨ha.den,hb.den,hc.den⟩);obtain⟨W,f,g,h⟩:∃W,Bd W a/\Bd W b/\Bd W c:=⟨B,ha.bd hN d,hb.bd hN d,hc.bd hN d⟩;obtain⟨h1,h2,_⟩:=Gy (W:=W) 3 [a,b,c] rfl (by simp;exact⟨f,g,h⟩);have sl:=AAf (ABx ha.1 e) d;have q:∀x,Mul D N x->x∈ [a,b,c] ->(Si (FY [a,b,c]) x).natAbs<2^B:=λx hx m=>AAf (gC hx e (h2 x m)) hN;exact⟨q a ha (by simp),q b hb (by simp),q c hc (by simp),by simp[O9];exact sl,by simp[O9],hs⟩
def VI (k:Nat)(c:C4):Rat:=match k with | 0=>c.2.1|1=>c.2.2.1|_=>c.2.2.2
def Oa (p:C4×C4)(k:Nat):Rat:=ZF p.1 p.2 (VI k p.1) (VI k p.2)
def Ox (p:C4×C4)(k:Nat):Rat:=Z4 p.1 p.2 (VI k p.1) (VI k p.2)
structure ik (DT NT JM NS NB:Nat) (p:C4×C4):Prop where
 t1:Mul DT NT p.1.1
 t2:Mul DT NT p.2.1
 j:∃J,0<J/\J<=JM/\∀k,Mul J NS (Oa p k)/\Mul J NB (Ox p k)
def qA {cs ds:zy C4}{b e:T3}{d:Rat×Rat}{p q:C4×C4}(k:Nat):sl (De cs ds b e d p q) k=Oa p k/\Zd (De cs ds b e d p q) k=Oa q k/\ba (De cs ds b e d p q) k=Ox p k/\ZV (De cs ds b e d p q) k=Ox q k:=by rcases k with _|_|k <;> exact⟨rfl,rfl,rfl,rfl⟩
def iS (z:T3)(k:Nat):Rat:=match k with | 0=>z.1|1=>z.2.1|_=>z.2.2
def qB {cs ds:zy C4}{b e:T3}{d:Rat×Rat}{p q:C4×C4}(k:Nat):sz (De cs ds b e d p q) k=iS (szs b e d) k:=by rcases k with _|_|k <;> rfl
def gk {g i f m l a r W N:Nat}{cs ds:zy C4}{b e:T3}{d:Rat×Rat}{p q:C4×C4}(hp:ik g i f m l p)(F:ik g i f m l q)(Q:∀k,Mul a r (iS (szs b e d) k))(hl:Mul g i b.2.2)(X:Mul g i e.2.2)(B:g<2^W)(C:i<2^W)(Y:f<2^W)(w4:m<2^W)(w5:l<2^W)(w6:a<2^W)(w7:r<2^W)(hW:3*W+2<=1300)(n1:f*f*a<2^N)(n2:r*(f*f)+2*(l*f*a)<2^N)(n3:m*f*a<2^N)(n4:g<2^N)(n5:i+g<2^N):gz N (De cs ds b e d p q):=by
 obtain⟨J,I,K,L⟩:=hp.j;obtain⟨h,s,t,u⟩:=F.j;have o:=λk=>qA (cs:=cs) (ds:=ds) (b:=b) (e:=e) (d:=d) (p:=p) (q:=q) k;have w:=λk=>qB (cs:=cs) (ds:=ds) (b:=b) (e:=e) (d:=d) (p:=p) (q:=q) k;have G:0<a:=(Q 0).1;have jj:J*h<=f*f:=AA2 K t;have D0:0<J*h*a:=AA1 (AA1 I s) G;have DD:J*h*a<2^N:=AAf (ACR a jj) n1;have jW:J<2^W:=AAf K Y;have H:h<2^W:=AAf t Y;refine⟨⟨W,⟨hp.t1.bd C B,hp.t2.bd C B,F.t1.bd C B,F.t2.bd C B,hl.bd C B,X.bd C B,λk=> ?_,λk=> ?_,λk=> ?_,λk=> ?_,λk=> ?_⟩,hW⟩,λn hn=> ?_⟩
 .rw [w];exact(Q k).bd w7 w6
 .rw [(o k).1];exact(L k).1.bd w4 jW
 .rw [(o k).2.1];exact(u k).1.bd w4 H
 .rw [(o k).2.2.1];exact(L k).2.bd w5 jW
 .rw [(o k).2.2.2];exact(u k).2.bd w5 H
 have S:∀k,Mul (J*h*a) (m*f*a) (Oa p k):=λk=>by
  have:=((L k).1.upc (c:=h*a) (AA1 s G)).mono (M:=m*f*a) (by rw[<-AA3];exact ACR _ (ABT _ t))
  rwa [<-AA3] at this
 have E:∀k,Mul (J*h*a) (m*f*a) (Oa q k):=λk=>by
  have:=((u k).1.upc (c:=J*a) (AA1 I G)).mono (M:=m*f*a) (by rw[<-AA3];exact ACR _ (ABT _ K))
  rwa [<-AA3,ABV h J] at this
 have A:∀k,Mul (J*h*a) (l*f*a) (Ox p k):=λk=>by
  have:=((L k).2.upc (c:=h*a) (AA1 s G)).mono (M:=l*f*a) (by rw[<-AA3];exact ACR _ (ABT _ t))
  rwa [<-AA3] at this
 have A':∀k,Mul (J*h*a) (l*f*a) (Ox q k):=λk=>by
  have:=((u k).2.upc (c:=J*a) (AA1 I G)).mono (M:=l*f*a) (by rw[<-AA3];exact ACR _ (ABT _ K))
  rwa [<-AA3,ABV h J] at this
 have Z:∀k,Mul (J*h*a) (r*(f*f)) (iS (szs b e d) k):=λk=>by
  have:=((Q k).upc (c:=J*h) (AA1 I s)).mono (M:=r*(f*f)) (ABT _ jj)
  rwa [ABV a] at this
 have O:=λk=>(A k).sub (A' k);have R:∀k,Mul (J*h*a) (r*(f*f)+2*(l*f*a)) (iS (szs b e d) k-(Ox p k-Ox q k)):=λk=>((Z k).sub (O k)).mono (by omega);have T:∀k,Mul (J*h*a) (r*(f*f)+2*(l*f*a)) (iS (szs b e d) k+(Ox p k-Ox q k)):=λk=>((Z k).add (O k)).mono (by omega);have side:∀{x y z:Rat},Mul (J*h*a) (r*(f*f)+2*(l*f*a)) x->Mul (J*h*a) (m*f*a) y->Mul (J*h*a) (m*f*a) z->Bc N (O9 x y z (strN n) n):=λ{x y z} hx hy sK=>
  XQ (N:=max (r*(f*f)+2*(l*f*a)) (m*f*a)) (hx.mono (Nat.le_max_left ..)) (hy.mono (Nat.le_max_right ..)) (sK.mono (Nat.le_max_right ..)) (Xr n) (by omega) DD
 have dt:=hp.t1.1;have v:Mul g (i+g) (1:Rat):=by have:=(Mul.int (n:=1) (D:=g) (N:=g) dt (by simp)).mono (M:=i+g) (by omega);simpa using this
 have P:Mul g (i+g) (0:Rat):=by have:=(Mul.int (n:=0) (D:=g) (N:=g) dt (by simp)).mono (M:=i+g) (by omega);simpa using this
 have time:∀{x y z:Rat},Mul g i x->Mul g (i+g) y->Mul g (i+g) z->Bc N (O9 x y z (strN n) n):=λ{x y z} hx hy sK=>XQ (hx.mono (ACd ..)) hy sK (Xr n) n5 n4;have U:n=0\/n=1\/n=2\/n=3\/n=4\/n=5\/n=6\/n=7\/n=8\/n=9\/n=10\/n=11:=by omega
 unfold FT;rcases U with rfl|rfl|rfl|rfl|rfl|rfl|rfl|rfl|rfl|rfl|rfl|rfl
 .exact time hp.t1.neg v P
 .exact time hp.t2 v.neg P
 .exact time F.t1.neg P v
 .exact time F.t2 P v.neg
 .exact time hl v v.neg
 .exact time X v.neg v
 .simp only[Af,o,w];exact side (R 0) (S 0).neg (E 0)
 .simp only[Af,o,w];exact side (T 0) (S 0) (E 0).neg
 .simp only[Af,o,w];exact side (R 1) (S 1).neg (E 1)
 .simp only[Af,o,w];exact side (T 1) (S 1) (E 1).neg
 .simp only[Af,o,w];exact side (R 2) (S 2).neg (E 2)
 .simp only[Af,o,w];exact side (T 2) (S 2) (E 2).neg
def bV {D N:Nat}{p:C4×C4}(h1:Iq D N p.1)(h2:Iq D N p.2)(n:p.1.1<p.2.1):ik D N (D*(2*N)) (D*(2*N)) (4*N*N) p:=by
 have b:∀{c:C4} k,Iq D N c->Mul D N (VI k c):=λk h=>by
  rcases k with _|_|k
  .exact h.x
  .exact h.y
  .exact h.z
 obtain⟨i,f,hi⟩:=h1.m.get;obtain⟨j,g,hj⟩:=h2.m.get;have d:=h1.m.1;have o:(0:Rat)<(D:Rat):=by exact_mod_cast d
 have u:i<j:=by
  have:(i:Rat)<(j:Rat):=by rw[<-f,<-g];exact(Rat.mul_lt_mul_right o).mpr n
  exact_mod_cast this
 obtain⟨J,r⟩:∃J:Nat,(J:Int)=j-i:=⟨(j-i).toNat,by omega⟩;have e:0<J:=by omega
 have l:J<=2*N:=by omega
 have s:(J:Rat)=(p.2.1-p.1.1)*D:=by
  have:((J:Int):Rat)=((j-i:Int):Rat):=by rw[r]
  rw[AAt,AD2,<-f,<-g] at this;grind
 have ne:p.2.1-p.1.1≠0:=by grind
 have S:∀k,Mul J (2*N) (Oa p k):=λk=>by obtain⟨x,ex,hx⟩:=(b k h1).get;obtain⟨y,t,v⟩:=(b k h2).get;refine .mk' e (k:=y-x) ?_ (by omega);rw[AD2,<-ex,<-t,s];show (VI k p.2-VI k p.1)/(p.2.1-p.1.1)*((p.2.1-p.1.1)*D)=_;rw[<-Rat.mul_assoc,ADI ne];grind
 refine⟨h1.m,h2.m,D*J,AA1 d e,ABT D l,λk=>⟨?_, ?_⟩⟩
 .have:=(S k).upc (c:=D) d;rw[ABV J D,ABV (2*N) D] at this;exact this
 .have a:=(b k h1).upc (c:=J) e;have m:=(S k).mul h1.m;rw[ABV J D] at m;exact(a.sub m).mono (by
   have:N*J<=N*(2*N):=ABT N l;have w:N*(2*N)=2*(N*N):=by rw[ABV 2 N,<-AA3,ABV]
   have A:2*N*N=2*(N*N):=AA3 ..;have B:4*N*N=4*(N*N):=AA3 ..;omega)
def Iz (x y z:Rat):Prop:=x-y<z/\ -z<x-y
def rF (x y z:T3):Prop:=Iz x.1 y.1 z.1/\Iz x.2.1 y.2.1 z.2.1/\Iz x.2.2 y.2.2 z.2.2
def fA {w:Wd}(s t:Rat):XS w s t↔(w.b.1<=s/\s<w.e.1/\w.b'.1<=t/\t<w.e'.1/\t-s<=w.l/\s-t<=w.l')/\∀k<3,Iz (ba w k+sl w k*s) (ZV w k+Zd w k*t) (sz w k):=by
 have c:∀x:Rat,0<x\/(x=0/\(1:Int)=0)↔0<x:=λx=>⟨λz=>by rcases z with z|z;exact z;omega, .inl⟩;constructor
 .intro o;refine⟨bC o,λk hk=> ?_⟩;have cs:k=0\/k=1\/k=2:=by omega
  have h:=o 6 (by decide);have i:=o 7 (by decide);have j:=o 8 (by decide);have m:=o 9 (by decide);have d:=o 10 (by decide);have f:=o 11 (by decide);rw[show strN 6=1 from rfl,c] at h;rw[show strN 7=1 from rfl,c] at i;rw[show strN 8=1 from rfl,c] at j;rw[show strN 9=1 from rfl,c] at m;rw[show strN 10=1 from rfl,c] at d;rw[show strN 11=1 from rfl,c] at f;simp only[Af] at h i j m d f;unfold Iz;rcases cs with rfl|rfl|rfl
  .exact ⟨by grind,by grind⟩
  .exact ⟨by grind,by grind⟩
  .exact ⟨by grind,by grind⟩
 .rintro ⟨⟨u,t2,v,y,A,B⟩,g⟩ n C;have p:=g 0 (by decide);have r:=g 1 (by decide);have k2:=g 2 (by decide);unfold Iz at p r k2;have a:∀x:Rat,0<=x->0<x\/(x=0/\(0:Int)=0):=λx hx=>by
   rcases Rat.le_iff_lt_or_eq.mp hx with z|z
   .exact .inl z
   .exact .inr ⟨z.symm,rfl⟩
  have cs:n=0\/n=1\/n=2\/n=3\/n=4\/n=5\/n=6\/n=7\/n=8\/n=9\/n=10\/n=11:=by omega
  rcases cs with rfl|rfl|rfl|rfl|rfl|rfl|rfl|rfl|rfl|rfl|rfl|rfl <;> simp only[Af]
  .exact a _ (by grind)
  .left;grind
  .exact a _ (by grind)
  .left;grind
  .exact a _ (by grind)
  .exact a _ (by grind)
  .left;grind
  .left;grind
  .left;grind
  .left;grind
  .left;grind
  .left;grind
def HE {p:C4×C4}{s:Rat}{x y:Rat}:Z4 p.1 p.2 x y+ZF p.1 p.2 x y*s=x+(s-p.1.1)/(p.2.1-p.1.1)*(y-x):=by unfold Z4 ZF;rw[AAp,AAp];grind
def bD {cs ds:zy C4}{b e:T3}{d:Rat×Rat}{p q:C4×C4}(s t:Rat):XS (De cs ds b e d p q) s t↔(p.1.1<=s/\s<p.2.1)/\(q.1.1<=t/\t<q.2.1)/\(t-s<=b.2.2/\s-t<=e.2.2)/\rF (inter p.1 p.2 s) (inter q.1 q.2 t) (szs b e d):=by
 rw[fA];have a:∀{p:C4×C4} {s:Rat},Ox p 0+Oa p 0*s=(inter p.1 p.2 s).1:=HE;have c:∀{p:C4×C4} {s:Rat},Ox p 1+Oa p 1*s=(inter p.1 p.2 s).2.1:=HE;have f:∀{p:C4×C4} {s:Rat},Ox p 2+Oa p 2*s=(inter p.1 p.2 s).2.2:=HE;have v:=λk=>qA (cs:=cs) (ds:=ds) (b:=b) (e:=e) (d:=d) (p:=p) (q:=q) k;have w:=λk=>qB (cs:=cs) (ds:=ds) (b:=b) (e:=e) (d:=d) (p:=p) (q:=q) k;simp only[v,w];unfold rF;constructor
 .rintro ⟨⟨j,l,m,o,r,u⟩,n⟩;have g:=n 0 (by decide);have h:=n 1 (by decide);have i:=n 2 (by decide);rw[a,a] at g;rw[c,c] at h;rw[f,f] at i;exact⟨⟨j,l⟩,⟨m,o⟩,⟨r,u⟩,g,h,i⟩
 .rintro ⟨⟨j,l⟩,⟨m,o⟩,⟨r,u⟩,g,h,i⟩;refine⟨⟨j,l,m,o,r,u⟩,λk hk=> ?_⟩;have cs:k=0\/k=1\/k=2:=by omega
  rcases cs with rfl|rfl|rfl
  .rw [a,a];exact g
  .rw [c,c];exact h
  .rw [f,f];exact i
def Ul (cs:zy C4)(s:Rat)(x:T3):Prop:=∃p∈Dg cs,p.1.1<=s/\s<p.2.1/\inter p.1 p.2 s=x
def DI (cs ds:zy C4)(b e:T3)(d:Rat×Rat)(s t:Rat):Prop:=∃x y,Ul cs s x/\Ul ds t y/\(t-s<=b.2.2/\s-t<=e.2.2)/\rF x y (szs b e d)
def QF {cs ds:zy C4}{b e:T3}{d:Rat×Rat}{s t:Rat}:DI cs ds b e d s t↔∃x∈MF cs ds b e d,XS x.2.2 s t:=by
 constructor
 .rintro ⟨x,y,⟨p,hp,g,h,rfl⟩,⟨q,a,i,j,rfl⟩,tm,k⟩;obtain⟨z,c,f⟩:=em (b:=b) (e:=e) (d:=d) hp a;exact⟨z,c,by rw[f,bD];exact⟨⟨g,h⟩,⟨i,j⟩,tm,k⟩⟩
 .rintro ⟨z,c,o⟩;obtain⟨p,hp,q,a,f⟩:=Sd c;rw[f,bD] at o;exact⟨_,_,⟨p,hp,o.1.1,o.1.2,rfl⟩,⟨q,a,o.2.1.1,o.2.1.2,rfl⟩,o.2.2⟩
def rO {m:Rat}{x:T3}:∀(r:zy C4) (a b l:C4),Hh (a::b::r)->a.1<=m->(a::b::r).getLast?=some l->(spotG a (b::r) m=some x/\m<l.1↔Ul (a::b::r) m x):=by
 intro r;unfold Ul;induction r with
 | nil=>
   intro a b l h ha e;cases e;have g:=(AAN.mp h).1 b (by simp);simp only[FU,show Dg [b] = [] from rfl,AAc,exists_eq_left,spotG];constructor
   .rintro ⟨e,d⟩;rw[AAC (by grind)] at e;cases e;exact⟨ha,d,rfl⟩
   .rintro ⟨_,d,k⟩;rw[AAC (by grind)];exact⟨by rw[k],d⟩
 | cons c r o=>
   intro a b l h ha e;have h':=AAN.mp h;have g:=h'.1 b (by simp);have i:=(AAN.mp h'.2).1 c (by simp);have t:=RT h e b (by simp);have cl:=RT h e c (by simp);rw[ACN] at e;rw[FU];have f:m<b.1->∀p∈Dg (b::c::r),¬p.1.1<=m:=λd p hp k=>by
    have q:=(DX h'.2 hp).1;have:b.1<=p.1.1:=by
     rcases AAF.mp q with z|z
     .rw [z];exact AAU
     .have:=(AAN.mp h'.2).1 _ z;grind
    grind
   by_cases j:b.1<m
   .rw [show spotG a (b::c::r) m=spotG b (c::r) m by rw[spotG,AAE j],o b c l h'.2 (by grind) e];constructor
    .rintro ⟨p,hp,k⟩;exact⟨p,by simp[hp],k⟩
    .rintro ⟨p,hp,k⟩;rcases AAF.mp hp with rfl|hp
     .exact absurd k.2.1 (by show ¬m<b.1;grind)
     .exact ⟨p,hp,k⟩
   .rw [show spotG a (b::c::r) m=some (inter a b m) by rw[spotG,AAC j]];by_cases k2:m<b.1
    .constructor
     .rintro ⟨e,_⟩;cases e;exact⟨(a,b),by simp,ha,k2,rfl⟩
     .rintro ⟨p,hp,k⟩;rcases AAF.mp hp with rfl|hp
      .exact ⟨by rw[<-k.2.2],by grind⟩
      .exact absurd k.1 (f k2 p hp)
    .have d:m=b.1:=by grind
     subst d;have s:inter a b b.1=b.2:=Ef g;have n:inter b c b.1=b.2:=Gb i;rw[s];constructor
     .rintro ⟨e,_⟩;cases e;exact⟨(b,c),by rw[FU];simp,AAU,i,n⟩
     .rintro ⟨p,hp,k⟩;rcases AAF.mp hp with rfl|hp
      .exact absurd k.2.1 (by show ¬b.1<b.1;grind)
      .rw [FU] at hp;rcases AAF.mp hp with rfl|hp
       .refine ⟨?_,by grind⟩;have:=k.2.2;rw[n] at this;rw[this]
       .exfalso;have q:=(DX (AAN.mp h'.2).2 hp).1;have:=(AAN.mp h'.2).1 _ q;have:=k.1;grind
def Q7 {cs:zy C4}{l:C4}{m:Rat}{x:T3}(c:Hh cs)(h2:2<=cs.length)(d:cs.getLast?=some l):Ul cs m x↔spotC cs m=some x/\m<l.1:=by
 obtain⟨a,b,r,rfl⟩:∃a b r,cs=a::b::r:=by
  match cs,h2 with
  | a::b::r,_=>exact⟨a,b,r,rfl⟩
 by_cases h:m<a.1
 .rw [UZ h];constructor
  .rintro ⟨p,hp,k,_⟩;exfalso;have q:=(DX c hp).1;have:a.1<=p.1.1:=by
    rcases AAF.mp q with z|z
    .rw [z];exact AAU
    .have:=(AAN.mp c).1 _ z;grind
   grind
  .rintro ⟨e,_⟩;cases e
 .rw [show spotC (a::b::r) m=spotG a (b::r) m by rw[spotC,AAC h],rO r a b l c (by grind) d]
def eh {cs ds:zy C4}{b e:T3}{d:Rat×Rat}{v w u:PV}{N B:Nat}(hv:J1 cs b v)(hw:J1 ds e w)(hu:Ze d u)(f:Hi 100 b)(g:Hi 100 e)(h:Bd 100 d.1)(b2:Bd 100 d.2)(hc:∀c∈cs,GC B c)(i:Hh cs)(h2:2<=cs.length)(hl:cs.length<=60)(j:∀c∈ds,GC B c)(k:Hh ds)(l:2<=ds.length)(J:ds.length<=60)(m:6*B+3<=3900)(hN:N<=770)(n:∀p∈Dg cs,∀q∈Dg ds,gz N (De cs ds b e d p q)){Q:PV->Prop}(r:(∀s t,¬DI cs ds b e d s t)->∀ps:zy (zy (Int×Rat)),(MF cs ds b e d).length=ps.length->(∀y∈(MF cs ds b e d).zip ps,U5 (4*N+13) y.1.2.2 y.2)->Q (.tup [.str "apart", .tup (((MF cs ds b e d).zip ps).map CA)]))(A:∀s t,DI cs ds b e d s t->Bd (4*N+12) s->Bd (10*N+30) t->Q (.tup [.str "meet",fr s,fr t])):BW [v,w,u] Q:=by
 have C:(MF cs ds b e d).length<=10100:=by
  unfold MF;rw[ACh];have:∀a:zy (Nat×C4×C4),(a.map λp=>((Uo 0 (Dg ds)).map λq=>(p.1,q.1,De cs ds b e d p.2 q.2)).length).sum=a.length*(Dg ds).length:=λa=>by
   induction a with
   | nil=>simp
   | cons x a D=>simp[AAL,AAh,ABQ,Fn] at D ⊢;omega
  rw[this,Fn];have E:(Dg cs).length<=60:=by unfold Dg;simp;omega
  have F:(Dg ds).length<=60:=by unfold Dg;simp;omega
  have:=AA2 E F;omega
 refine Vm (L:=MF cs ds b e d) (λ{Q} q=>QZ hv hw hu f g h b2 hc i h2 (by omega) j k l (by omega) m q) C hN (λx hx=> ?_) (λG ps hl hp=> ?_) (λx hx s t o bs bt=> ?_)
 .obtain ⟨p,hp,q,H,I⟩:=Sd hx;rw[I];exact n p hp q H
 .exact r (λs t z=>by
   obtain⟨x,hx,o⟩:=QF.mp z;exact G x hx ⟨s,t,o⟩) ps hl hp
 .exact A s t (QF.mpr ⟨x,hx,o⟩) bs bt
end PL
namespace PL
open PySem L2 PyProof.Rows
open PL.K31
instance (priority:=2000){Q:PV->Prop}:ZU (A1 [.tape] Q) (True) (∀a,Bd 8 a->Mul 6 60 a->Q (fr a)):=⟨λ_ h=>A0 λa m=>h a (m.bd (by decide) (by decide)) m⟩
structure LX (b:T3):Prop where
 bd:Hi 8 b
 x0:0<=b.1
 y0:0<=b.2.1
 z0:0<=b.2.2
 mx:Mul 6 240 b.1
 my:Mul 6 240 b.2.1
 mz:Mul 6 240 b.2.2
def JD {Q:PV->Prop}(q:∀b:T3,LX b->Q (Kq b)):CI [.tape] Q:=by
 apply Lp;have a:Mul 6 240 (0:Rat):=Mul.int (n:=0) (by decide) (by decide);have all:∀x∈ [(0:Rat),1/2,1,1/3,3,40],Bd 8 x/\0<=x/\Mul 6 240 x:=by
  intro x hx;simp only[AAF,AAj,AAk] at hx;rcases hx with rfl|rfl|rfl|rfl|rfl|rfl
  .exact ⟨QV,by decide +kernel,a⟩
  .exact ⟨QV,by decide +kernel, .mk' (k:=3) (by decide) (by decide +kernel) (by decide)⟩
  .exact ⟨QV,by decide +kernel, .mk' (k:=6) (by decide) (by decide +kernel) (by decide)⟩
  .exact ⟨QV,by decide +kernel, .mk' (k:=2) (by decide) (by decide +kernel) (by decide)⟩
  .exact ⟨QV,by decide +kernel, .mk' (k:=18) (by decide) (by decide +kernel) (by decide)⟩
  .exact ⟨QV,by decide +kernel, .mk' (k:=240) (by decide) (by decide +kernel) (by decide)⟩
 ac_rfl
 .exact q (0,0,0) ⟨⟨QV,QV,QV⟩,(by decide),(by decide),(by decide),a,a,a⟩
 refine EC (xs:= [(0:Rat),1/2,1,1/3,3,40]) (by omega) (by show _<(6:Int);omega) λx hx=> ?_;ac_rfl;refine EC (xs:= [(0:Rat),1/2,1,1/3,3,40]) (by omega) (by show _<(6:Int);omega) λy c=> ?_;ac_rfl;refine EC (xs:= [(0:Rat),1/2,1,1/3,3,40]) (by omega) (by show _<(6:Int);omega) λz d=> ?_;ac_rfl;exact q (x,y,z) ⟨⟨(all x hx).1,(all y c).1,(all z d).1⟩,(all x hx).2.1,(all y c).2.1,(all z d).2.1,(all x hx).2.2,(all y c).2.2,(all z d).2.2⟩
structure ZT (d:Rat×Rat):Prop where
 b1:Bd 8 d.1
 b2:Bd 8 d.2
 p1:1/3<=d.1
 p2:1/3<=d.2
 m1:Mul 6 30 d.1
 m2:Mul 6 30 d.2
 c1:Bd 3 d.1
 c2:Bd 3 d.2
def d4 {Q:PV->Prop}(q:∀d:Rat×Rat,ZT d->Q (.tup [fr d.1,fr d.2])):PL.F__law_apart [.tape] Q:=by
 apply PL.s_F__law_apart;have all:∀x∈ [(1:Rat),2,3/2,1/3,5],Bd 8 x/\1/3<=x/\Mul 6 30 x/\Bd 3 x:=by
  intro x hx;simp only[AAF,AAj,AAk] at hx;rcases hx with rfl|rfl|rfl|rfl|rfl
  .exact ⟨QV,by decide +kernel, .mk' (k:=6) (by decide) (by decide +kernel) (by decide),⟨by decide +kernel,by decide +kernel⟩⟩
  .exact ⟨QV,by decide +kernel, .mk' (k:=12) (by decide) (by decide +kernel) (by decide),⟨by decide +kernel,by decide +kernel⟩⟩
  .exact ⟨QV,by decide +kernel, .mk' (k:=9) (by decide) (by decide +kernel) (by decide),⟨by decide +kernel,by decide +kernel⟩⟩
  .exact ⟨QV,by decide +kernel, .mk' (k:=2) (by decide) (by decide +kernel) (by decide),⟨by decide +kernel,by decide +kernel⟩⟩
  .exact ⟨QV,by decide +kernel, .mk' (k:=30) (by decide) (by decide +kernel) (by decide),⟨by decide +kernel,by decide +kernel⟩⟩
 ac_rfl;refine EC (xs:= [(1:Rat),2,3/2,1/3,5]) (by omega) (by show _<(5:Int);omega) λx hx=> ?_;ac_rfl;refine EC (xs:= [(1:Rat),2,3/2,1/3,5]) (by omega) (by show _<(5:Int);omega) λy a=> ?_;ac_rfl;exact q (x,y) ⟨(all x hx).1,(all y a).1,(all x hx).2.1,(all y a).2.1,(all x hx).2.2.1,(all y a).2.2.1,(all x hx).2.2.2,(all y a).2.2.2⟩
def d6 {cs:zy C4}(p:Cr 9 6 600 cs):Cr 9 6 600 (cs.take 3):=by have:=p.two;exact⟨by simp;omega,by simp;omega,λc hc=>p.mu c (List.mem_of_mem_take hc),List.Pairwise.sublist (List.take_sublist _ _) p.ris⟩
def Xw {X Y Z:BA->Prop}{Q:PV->Prop}{cs ds:zy C4}{d f g h i:zt AV}(j:Cr 9 6 600 cs)(pd:Cr 9 6 600 ds)(q:∀ds b e,Cr 9 6 600 ds->LX b->LX e->Q (.tup [C2 cs b,C2 ds e])):HZ {nx:=X,rt:=Q,bk:=Y,ct:=Z} [some (.val .tape),some (.val (A8 cs)),some (.val (A8 ds)),d,f,g,h,i] :=by
 have k:=j.few;have c:=pd.few;have a:=d6 pd;ac_rfl
 .refine ME ?_;rw[rQ];ac_rfl;refine JD λb hb=> ?_;ac_rfl;refine JD λe he=> ?_;ac_rfl;exact q _ b e a hb he
 .refine JD λb hb=> ?_;ac_rfl;refine JD λe he=> ?_;ac_rfl;exact q ds b e pd hb he
def gi {X Y Z:BA->Prop}{Q:PV->Prop}{cs ds:zy C4}(pm0:Cr 9 6 512 cs)(q:∀ds B l C D d,Cr 9 6 600 ds->X [some (.val .tape),some (.val (A8 cs)),some (.val (A8 ds)),B,l,C,D,d]):HY {nx:=X,rt:=Q,bk:=Y,ct:=Z} [some (.val .tape),some (.val (A8 cs)),some (.val (A8 ds)),none,none,none,none,none] :=by
 have p:Hu 9 12 cs:=pm0.ok (by decide) (by decide);ac_rfl;rename_i E F G v H I;refine Dv 8 (by omega) (by omega) (by omega) (by decide) λb=> ?_;ac_rfl;refine EC (xs:= [(E:Rat),0,Rat.divInt v 2]) (by omega) (by show _<(3:Int);omega) λt k=> ?_;have bt:Bd 12 t:=by
  simp only[AAF,AAj,AAk] at k;rcases k with rfl|rfl|rfl
  .exact .int (by omega) (by decide)
  .exact qN.mono (by decide)
  .exact b.mono (by decide)
 have mt:Mul 6 27 t:=by
  simp only[AAF,AAj,AAk] at k;rcases k with rfl|rfl|rfl
  .exact .int (by decide) (by omega)
  .exact Mul.int (n:=0) (by decide) (by decide)
  .exact Mul.part (t:=v) (b:=2) (c:=3) (by decide) (by decide) (by omega)
 clear k b F G H I;ac_rfl;rename_i f m0 w g m1 A i J K;have a:∀x∈ [f,0,g,1,0,(i:Rat)],Mul 6 60 x:=by
  intro x hx;simp only[AAF,AAj,AAk] at hx;rcases hx with rfl|rfl|rfl|rfl|rfl|rfl
  .exact w
  .exact Mul.int (n:=0) (by decide) (by decide)
  .exact A
  .exact Mul.int (n:=1) (by decide) (by decide)
  .exact Mul.int (n:=0) (by decide) (by decide)
  .exact .int (by decide) (by omega)
 have all:∀x∈ [f,0,g,1,0,(i:Rat)],Bd 12 x:=by
  intro x hx;simp only[AAF,AAj,AAk] at hx;rcases hx with rfl|rfl|rfl|rfl|rfl|rfl
  .exact m0.mono (by decide)
  .exact qN.mono (by decide)
  .exact m1.mono (by decide)
  .exact u8.mono (by decide)
  .exact qN.mono (by decide)
  .exact .int (by omega) (by decide)
 rw[show rng 0 (Int.toNat 3)= [.int 0, .int 1, .int 2] from rfl];repeat' array_get_dec
 refine EC (xs:= [f,0,g,1,0,(i:Rat)]) (by omega) (by show _<(6:Int);omega) λx hx=> ?_;repeat' array_get_dec
 refine EC (xs:= [f,0,g,1,0,(i:Rat)]) (by omega) (by show _<(6:Int);omega) λy r=> ?_;repeat' array_get_dec
 refine EC (xs:= [f,0,g,1,0,(i:Rat)]) (by omega) (by show _<(6:Int);omega) λz s=> ?_;have o:Hi 12 (x,y,z):=⟨all x hx,all y r,all z s⟩;have M:Cr 9 6 600 (cs.map (Tv t (x,y,z))):=by refine⟨by simpa using pm0.two,by simpa using pm0.few,λc hc=> ?_,(ju p bt o).ris⟩;obtain⟨N,O,rfl⟩:=AAI.mp hc;have m:=pm0.mu N O;exact⟨(m.m.add mt).mono (by decide),(m.x.add (a x hx)).mono (by decide),(m.y.add (a y r)).mono (by decide),(m.z.add (a z s)).mono (by decide)⟩
 have P:=p.few;repeat' array_get_dec
 clear all a hx r s J K m0 m1 w A mt;generalize some (AV.val (PV.lst [fr f,fr 0,fr g,fr 1,fr 0,fr (i:Rat)]))=l;refine CS cor (λj vs τ=>∃d,τ= [some (.val .tape),some (.val (A8 cs)),some (.val (A8 ds)),some (.val (fr t)),l,some (AV.val (PV.lst [fr x,fr y,fr z])),some (.own ((j.map (Tv t (x,y,z))).map cor)),d]) ?_ ?_ ⟨_,rfl⟩
 .rintro τ ⟨d,rfl⟩;ac_rfl;refine⟨Tw _, ?_⟩;ac_rfl;exact q _ _ _ _ _ _ M
 .rintro j c vs e τ R S ⟨d,rfl⟩;have W:=p.bd c (by rw[<-e];simp);have ul:j.length<=9:=by have h:=p.few;rw[<-e] at h;simp at h;omega
  have u:∀d,R [some (.val .tape),some (.val (A8 cs)),some (.val (A8 ds)),some (.val (fr t)),l,some (AV.val (PV.lst [fr x,fr y,fr z])),some (.own ((j.map (Tv t (x,y,z))).map cor ++ [cor (Tv t (x,y,z) c)])),d] :=λd=>S _ ⟨d,by simp⟩;have bx:Bd 12 x:=o.x;have T:Bd 12 y:=o.y;have bz:Bd 12 z:=o.z;have U:((j.map (Tv t (x,y,z))).map cor).length<=9:=by simpa using ul
  generalize (j.map (Tv t (x,y,z))).map cor=L at *;ac_rfl;rw[show rng 0 (Int.toNat 3)= [.int 0, .int 1, .int 2] from rfl];repeat' array_get_dec
  rw[show (0:Int)+1=1 from rfl];repeat' array_get_dec
  rw[show (1:Int)+1=2 from rfl];repeat' array_get_dec
  rw[show (2:Int)+1=3 from rfl];repeat' array_get_dec
  refine⟨Nf (n:=9) U (by decide), ?_⟩;repeat' array_get_dec
  exact u _
def p7 {Q:PV->Prop}(q:∀cs ds b e,Cr 9 6 600 cs->Cr 9 6 600 ds->LX b->LX e->Q (.tup [C2 cs b,C2 ds e])):EU [.tape] Q:=by apply R3;ac_rfl;refine GR λcs d=> ?_;ac_rfl;refine GR λds pd=> ?_;have a:Cr 9 6 600 cs:=⟨d.two,d.few,λc hc=>(d.mu c hc).mono (by decide),d.ris⟩;have f:Cr 9 6 600 ds:=⟨pd.two,pd.few,λc hc=>(pd.mu c hc).mono (by decide),pd.ris⟩;have h:=d.few;have g:=pd.few;repeat' (first | exact gi d λds i j k l m pd=>Xw a pd λds b e=>q cs ds b e a|exact Xw a f λds b e=>q cs ds b e a|array_mem_dec)
def Cr.y10 {cs:zy C4}(p:Cr 9 6 600 cs):Hu 9 10 cs:=⟨p.two,p.few,λc hc=>(p.mu c hc).bd (by decide) (by decide),p.ris⟩
def Lx {cs:zy C4}{b:T3}:J1 cs b (C2 cs b):=jE cs b
end PL
namespace PL
open PySem L2 PyProof.Rows
theorem Xa:∀{L:zy C4},Hh L->∀p∈Dg L,∀z∈L,¬(p.1.1<z.1/\z.1<p.2.1)
 | [],_,p,hp=>by cases hp
 | [_],_,p,hp=>by cases hp
 | a::b::r,h,p,hp=>by
   have h':=AAN.mp h;intro z c ⟨d,k2⟩;rw[FU] at hp;rcases AAF.mp hp with rfl|e
   .rcases AAF.mp c with rfl|c
    .exact absurd d (by show ¬z.1<z.1;grind)
    .rcases AAF.mp c with rfl|c
     .exact absurd k2 (by show ¬z.1<z.1;grind)
     .have:=(AAN.mp h'.2).1 z c;have k2:z.1<b.1:=k2;grind
   .rcases AAF.mp c with rfl|c
    .have q:=(DX h'.2 e).1;have:=h'.1 _ q;grind
    .exact Xa h'.2 p e z c ⟨d,k2⟩
theorem KD:∀{L:zy C4} {s:Rat} {l:C4},2<=L.length->L.getLast?=some l->VT L<=s->s<l.1->∃p∈Dg L,p.1.1<=s/\s<p.2.1
 | [],_,_,h,_,_,_=>by simp at h
 | [_],_,_,h,_,_,_=>by simp at h
 | [a,b],s,l,_,e,h1,h2=>by
   have:b=l:=by simpa using e
   subst this;exact⟨(a,b),ABK ..,h1,h2⟩
 | a::b::c::r,s,l,_,e,h1,h2=>by
   by_cases z:s<b.1
   .exact ⟨(a,b),ABK ..,h1,z⟩
   .obtain ⟨p,hp,k⟩:=KD (L:=b::c::r) (s:=s) (l:=l) (by simp) (by simpa[ACN] using e) (by show b.1<=s;grind) h2;exact⟨p,by rw[FU];simp[hp],k⟩
section
variable {cs:zy C4}{a l:C4}{r:zy C4}{f t:Rat}
structure Dd (cs:List C4) (f t:Rat):Prop where
 ris:Hh cs
 two:2<=cs.length
 f0:VT cs<=f
 ft:f<t
 t1:t<=lstM cs
theorem Dd.spot (h:Dd cs f t){m:Rat}(h1:f<=m)(h2:m<=t):∃x,spotC cs m=some x:=by obtain⟨a,r,l,rfl,c,b⟩:=open2 h.two;have d:=h.f0;have k2:=h.t1;rw[Lz] at d;rw[Fs b] at k2;exact Em c b (by grind) (by grind)
theorem Dd.mem (h:Dd cs f t):∀c∈CD cs f t,f<=c.1/\c.1<=t/\spotC cs c.1=some c.2:=by
 have e:=h.ft;intro c hc;have d:∀{m:Rat},f<=m->m<=t->spotC cs (sp cs m).1=some (sp cs m).2:=λ{m} h1 h2=>by obtain⟨x,ex⟩:=h.spot h1 h2;unfold sp;show spotC cs m=some ((spotC cs m).getD (0,0,0));rw[ex];rfl
 unfold CD at hc;rcases AAF.mp hc with rfl|hc
 .exact ⟨AAU,AB3 e,d AAU (AB3 e)⟩
 .rcases AAQ.mp hc with hc|hc
  .obtain ⟨hc,b⟩:=AAR.mp hc;have b:f<c.1/\c.1<t:=by simpa[OY] using b
   exact⟨AB3 b.1,AB3 b.2,Jc h.ris h.two c hc⟩
  .rcases AAc.mp hc with rfl;exact⟨AB3 e,AAU,d (AB3 e) AAU⟩
theorem Dd.pris (h:Dd cs f t):Hh (CD cs f t):=by
 have e:=h.ft;unfold CD;refine AAN.mpr ⟨λc hc=> ?_,ADj.mpr ⟨h.ris.filter _,AEF _ _,λc hc d hd=> ?_⟩⟩
 .rcases AAQ.mp hc with hc|hc
  .have b:f<c.1/\c.1<t:=by simpa[OY] using(AAR.mp hc).2
   exact b.1
  .rcases AAc.mp hc with rfl;exact e
 .rcases AAc.mp hd with rfl;have b:f<c.1/\c.1<t:=by simpa[OY] using(AAR.mp hc).2
  exact b.2
theorem Dd.len:2<=(CD cs f t).length/\(CD cs f t).length<=cs.length+2:=by unfold CD;have:=ABd (OY f t) cs;simp;omega
theorem Dd.on (h:Dd cs f t):∀b∈Dg (CD cs f t),∃p∈Dg cs,p.1.1<=b.1.1/\b.1.1<b.2.1/\b.2.1<=p.2.1/\b.1.2=inter p.1 p.2 b.1.1/\b.2.2=inter p.1 p.2 b.2.1:=by
 intro b j;obtain⟨m1,m2,n⟩:=DX h.pris j;obtain⟨f1,C,o⟩:=h.mem _ m1;obtain⟨D,t2,k⟩:=h.mem _ m2;obtain⟨l,d⟩:∃l,cs.getLast?=some l:=by obtain⟨a,r,l,rfl,E,d⟩:=open2 h.two;exact⟨l,d⟩
 have s:=h.t1;rw[Fs d] at s;obtain⟨p,hp,u,v,w⟩:=(Q7 h.ris h.two d).mpr ⟨o,(by grind:b.1.1<l.1)⟩;obtain⟨_,g,i⟩:=DX h.ris hp;have y:b.2.1<=p.2.1:=by
  by_cases z:p.2.1<b.2.1
  .have mem:p.2∈CD cs f t:=by
    unfold CD;refine ABE _ (AAQ.mpr (.inl (AAR.mpr ⟨g, ?_⟩)));have A:f<p.2.1:=by grind
    have B:p.2.1<t:=by grind
    simp[OY,A,B]
   exact absurd ⟨v,z⟩ (Xa h.pris b j _ mem)
  .grind
 refine⟨p,hp,u,n,y,w.symm, ?_⟩;by_cases z:b.2.1<p.2.1
 .have:=(Q7 (m:=b.2.1) (x:=inter p.1 p.2 b.2.1) h.ris h.two d).mp ⟨p,hp,by grind,z,rfl⟩;rw[k] at this;exact AAX this.1
 .have e:b.2.1=p.2.1:=by grind
  have c:=Jc h.ris h.two p.2 g;rw[<-e,k] at c;rw[e,Ef i];exact AAX c
theorem RW {p:C4×C4}{m:Rat}(k:Nat):VI k (m,inter p.1 p.2 m)=Ox p k+Oa p k*m:=by
 rcases k with _|_|k
 .exact HE.symm
 .exact HE.symm
 .exact HE.symm
theorem Ro {p b:C4×C4}(h:b.1.1<b.2.1)(d:b.1.2=inter p.1 p.2 b.1.1)(e:b.2.2=inter p.1 p.2 b.2.1)(k:Nat):Oa b k=Oa p k/\Ox b k=Ox p k:=by
 have c:VI k b.1=Ox p k+Oa p k*b.1.1:=by rw[<-RW,<-d]
 have g:VI k b.2=Ox p k+Oa p k*b.2.1:=by rw[<-RW,<-e]
 have n:b.2.1-b.1.1≠0:=by grind
 have s:Oa b k=Oa p k:=by show (VI k b.2-VI k b.1)/(b.2.1-b.1.1)=_;rw[c,g,show Ox p k+Oa p k*b.2.1-(Ox p k+Oa p k*b.1.1)=Oa p k*(b.2.1-b.1.1) by grind,AAp,Rat.mul_assoc,Rat.mul_inv_cancel _ n,Rat.mul_one]
 refine⟨s, ?_⟩;show VI k b.1-Oa b k*b.1.1=_;rw[s,c];grind
theorem XG {p b:C4×C4}{m:Rat}(h:∀k,Oa b k=Oa p k/\Ox b k=Ox p k):inter b.1 b.2 m=inter p.1 p.2 m:=by
 have q:∀k,VI k (m,inter b.1 b.2 m)=VI k (m,inter p.1 p.2 m):=λk=>by rw[RW,RW,(h k).1,(h k).2]
 exact ABq (q 0) (ABq (q 1) (q 2))
theorem Dd.at (h:Dd cs f t)(s:Rat)(x:T3):Ul (CD cs f t) s x↔Ul cs s x/\f<=s/\s<t:=by
 have one:∀{s:Rat} {x y:T3},Ul cs s x->Ul cs s y->x=y:=λ{s x y} h1 h2=>by obtain⟨a,r,l,e,w,k⟩:=open2 h.two;have h1:=((Q7 h.ris h.two (e ▸ k)).mp h1).1;have h2:=((Q7 h.ris h.two (e ▸ k)).mp h2).1;rw[h1] at h2;exact AAX h2
 have n:Ul (CD cs f t) s x->Ul cs s x/\f<=s/\s<t:=by rintro⟨b,c,m,k2,e⟩;obtain⟨m1,m2,d⟩:=DX h.pris c;obtain⟨f1,_,_⟩:=h.mem _ m1;obtain⟨_,t2,_⟩:=h.mem _ m2;obtain⟨p,hp,o,_,u,g,i⟩:=h.on b c;refine⟨⟨p,hp,by grind,by grind, ?_⟩,by grind,by grind⟩;rw[<-XG (Ro d g i)];exact e
 refine⟨n,λ⟨h1,h2,h3⟩=> ?_⟩;obtain⟨b,c,m,k2⟩:=KD (s:=s) (Dd.len (cs:=cs) (f:=f) (t:=t)).1 (l:=sp cs t) (by unfold CD;rw[<-ACO];exact List.getLast?_concat) h2 h3;have v:Ul (CD cs f t) s (inter b.1 b.2 s):=⟨b,c,m,k2,rfl⟩;have j:Ul cs s (inter b.1 b.2 s):=by obtain⟨_,_,d⟩:=DX h.pris c;obtain⟨p,hp,o,_,u,g,i⟩:=h.on b c;exact⟨p,hp,by grind,by grind,(XG (Ro d g i)).symm⟩
 rw[one h1 j];exact v
end
structure Wg (cs:List C4):Prop where
 ris:Hh cs
 two:2<=cs.length
 few:cs.length<=20
 bd:∀c∈cs,GC 120 c
 pc:∀p∈Dg cs,ik 48 9600 7200 7200 1440000 p
def ik.t8 {p:C4×C4}(h:ik 6 600 7200 7200 1440000 p):ik 48 9600 7200 7200 1440000 p:=⟨(h.t1.upc (c:=8) (by decide)).mono (by decide),(h.t2.upc (c:=8) (by decide)).mono (by decide),h.j⟩
def Cr.pp {cs:zy C4}(p:Cr 9 6 600 cs):Wg cs:=⟨p.ris,p.two,by have:=p.few;omega,λc hc=>(p.y10.bd c hc).mono (by decide),λq a=>by
 obtain⟨m1,m2,m3⟩:=DX p.ris a;exact(bV (p.mu _ m1) (p.mu _ m2) m3).t8⟩
def Dd.pp {cs:zy C4}{f t:Rat}(p:Cr 9 6 600 cs)(h:Dd cs f t)(a:Mul 48 9600 f)(mt:Mul 48 9600 t):Wg (CD cs f t):=by
 have bf:Bd 14 f:=a.bd (by decide) (by decide);have bt:Bd 14 t:=mt.bd (by decide) (by decide);have mem:∀c∈CD cs f t,Mul 48 9600 c.1/\GC 120 c:=λc hc=>by
  obtain⟨_,_,s⟩:=h.mem c hc;have go:∀m:Rat,Bd 14 m->c.1=m->GC 120 c:=λm bm e=>by rw[e] at s;have:=Hi.spotC bm p.ris p.y10.bd _ s;exact⟨by rw[e];exact bm.mono (by decide),this.x.mono (by decide),this.y.mono (by decide),this.z.mono (by decide)⟩
  unfold CD at hc;rcases AAF.mp hc with rfl|hc
  .exact ⟨a,go f bf rfl⟩
  .rcases AAQ.mp hc with hc|hc
   .have hc:=(AAR.mp hc).1;exact⟨((p.mu c hc).m.upc (c:=8) (by decide)).mono (by decide),(p.y10.bd c hc).mono (by decide)⟩
   .rcases AAc.mp hc with rfl;exact⟨mt,go t bt rfl⟩
 refine⟨h.pris,Dd.len.1,by have:=(Dd.len (cs:=cs) (f:=f) (t:=t)).2;have:=p.few;omega,λc hc=>(mem c hc).2,λg b=> ?_⟩;obtain⟨m1,m2,i⟩:=DX h.pris b;obtain⟨q,l,_,_,_,n,o⟩:=h.on g b;obtain⟨r,k2,u⟩:=DX p.ris l;obtain⟨J,v,w,A⟩:=(bV (p.mu _ r) (p.mu _ k2) u).j;have d:=Ro i n o;exact⟨(mem _ m1).1,(mem _ m2).1,J,v,w,λk=>by rw[(d k).1,(d k).2];exact A k⟩
def iW {cs ds a c:zy C4}{b e:T3}{d:Rat×Rat}(f:Wg cs)(pd:Wg ds)(g:Mul 48 9600 b.2.2)(h:Mul 48 9600 e.2.2)(i:∀k,Mul 12 4800 (iS (szs b e d) k)):∀p∈Dg cs,∀q∈Dg ds,gz 47 (De a c b e d p q):=λp hp q j=>
 gk (f.pc p hp) (pd.pc q j) i g h (W:=30) (by decide) (by decide) (by decide) (by decide) (by decide) (by decide) (by decide) (by decide) (by decide) (by decide) (by decide) (by decide) (by decide)
def jt {cs ds:zy C4}{b e:T3}{d:Rat×Rat}{v w u:PV}(a:Wg cs)(pd:Wg ds)(hv:J1 cs b v)(hw:J1 ds e w)(hu:Ze d u)(c:Hi 20 b)(f:Hi 20 e)(g:Bd 20 d.1)(b2:Bd 20 d.2)(h:Mul 48 9600 b.2.2)(i:Mul 48 9600 e.2.2)(j:∀k,Mul 12 4800 (iS (szs b e d) k)){Q:PV->Prop}(l:(∀s t,¬DI cs ds b e d s t)->∀ps:zy (zy (Int×Rat)),(MF cs ds b e d).length=ps.length->(∀y∈(MF cs ds b e d).zip ps,U5 201 y.1.2.2 y.2)->Q (.tup [.str "apart", .tup (((MF cs ds b e d).zip ps).map CA)]))(m:∀s t,DI cs ds b e d s t->Bd 200 s->Bd 500 t->Q (.tup [.str "meet",fr s,fr t])):BW [v,w,u] Q:=
 eh (N:=47) (B:=120) hv hw hu (c.mono (by decide)) (f.mono (by decide)) (g.mono (by decide)) (b2.mono (by decide)) a.bd a.ris a.two (by have:=a.few;omega) pd.bd pd.ris pd.two (by have:=pd.few;omega) (by decide) (by decide) (iW a pd h i j) l m
def Ys {cs ds:zy C4}{b e a c:T3}{d d':Rat×Rat}{s t:Rat}(h:DI cs ds b e d s t)(o:b.2.2<=a.2.2)(p:e.2.2<=c.2.2)(i:(szs b e d).1<=(szs a c d').1)(j:(szs b e d).2.1<=(szs a c d').2.1)(k:(szs b e d).2.2<=(szs a c d').2.2):DI cs ds a c d' s t:=by obtain⟨x,y,h1,h2,⟨r,t2⟩,l,m,n⟩:=h;have f:∀{x y z g:Rat},z<=g->Iz x y z->Iz x y g:=λu h=>⟨by have:=h.1;grind,by have:=h.2;grind⟩;exact⟨x,y,h1,h2,⟨by grind,by grind⟩,f i l,f j m,f k n⟩
def Yl:PV->kn | .int _=>true|_=>false
def Ui {x:PV}(hk:kdOf x≠none){Q:PV->Prop}(q:Q (.bl (Yl x))):Bp [x] Q:=by
 apply JW;cases x <;> first | exact absurd rfl hk|skip
 all_goals
  repeat' array_get_dec
  exact q
def Tn:zy PV->kn
 | [.int a, .int b] =>decide (0<b)&&decide (Nat.gcd a.natAbs b.natAbs=1)
 | _=>false
def ae {xs:zy PV}(h:¬(xs.length:Int)=2):Tn xs=false:=by
 match xs,h with
 | [],_=>rfl
 | [a],_=>cases a <;> rfl
 | [a,b],h=>exact absurd rfl h
 | a::b::c::r,_=>cases a <;> cases b <;> rfl
def lY {xs:zy PV}(h:(xs.length:Int)=2):∃a b,xs= [a,b] :=by
 match xs,h with
 | [],h=>simp at h
 | [a],h=>simp at h
 | [a,b],_=>exact⟨a,b,rfl⟩
 | a::b::c::r,h=>simp at h;omega
def iX {x:PV}(h:Yl x=true):∃i,x= .int i:=by cases x <;> first | exact⟨_,rfl⟩|cases h
def jf {x y:PV}(h:Yl x=false):Tn [x,y] =false:=by cases x <;> first | rfl|cases h
def jg {x y:PV}(h:Yl y=false):Tn [x,y] =false:=by cases x <;> cases y <;> first | rfl|cases h
abbrev Il:AS:=
 (Ab (B3 (M8 (Df (Ay (AN 1 Bp (AB (aV 1) AL)))) (Df (Ay (AN 1 Bp (AB (aV 2) AL))))) (Ao (aC (.bl false))) BE)
   (Ao (Ld (AX YT (aV 2) (aC (.int 0))) (AX NI (AN 2 EV (AB (Fc TW (AB (aV 1) AL)) (AB (aV 2) AL))) (aC (.int 1))))))
abbrev Qb:AS:=
 (Ab (An (aV 0) (Hw 2 (Ad (Ar 1) (Ad (Ar 2) BY))))
   Il)
abbrev Pb:AS:=
 (Ab (B3 (M8 (Df (Ay (Pp (aV 0) ["tuple","list"]))) (Ay (AX YW (Fc GH (AB (aV 0) AL)) (aC (.int 2))))) (Ao (aC (.bl false))) BE)
   Qb)
def EN:AF:=Ak 3 Pb
def UQ {a:PV}{Q:PV->Prop}(h:Pb ⟨λ_=>Q .non,Q,λ_=>False,λ_=>False⟩ [some (.val a),none,none]):EN [a] Q:=h
def bU {x y z:PV}(hx:x= .tup [y,z] \/x= .lst [y,z])(f:kdOf y≠none)(g:kdOf z≠none){Q:PV->Prop}(q:Q (.bl (Tn [y,z]))):Il {nx:=λx=>Q PV.non,rt:=Q,bk:=λx=>False,ct:=λx=>False} [some (.val x),some (.val y),some (.val z)] :=by
 repeat' array_get_dec
 refine Ui f ?_;repeat' array_get_dec
 cases c:Yl y with
 | false=>rw[jf c] at q;exact q
 | true=>
   obtain⟨a,rfl⟩:=iX c;repeat' array_get_dec
   refine Ui g ?_;repeat' array_get_dec
   cases d:Yl z with
   | false=>rw[jg d] at q;exact q
   | true=>
     obtain⟨b,rfl⟩:=iX d;repeat' array_get_dec
     .rename_i hb;obtain⟨n,rfl⟩:∃n:Nat,b=n:=⟨b.toNat,by omega⟩;refine Ev _ _ _ ?_;repeat' array_get_dec
      have e:Tn [.int a, .int (n:Int)] =decide (((Nat.gcd a.natAbs n:Nat):Int)=1):=by show (decide (0<(n:Int))&&decide (Nat.gcd a.natAbs (n:Int).natAbs=1))=_;rw[AAO hb,AB4,AAu];exact ABy.mpr ⟨λh=>by rw[h];rfl,λh=>by omega⟩
      rw[e] at q;exact q
     .rename_i hb;have e:Tn [.int a, .int b] =false:=by show (decide (0<b)&&_)=_;rw[AAa hb,ADQ]
      rw[e] at q;exact q
def bR {B:Nat}{x:PV}{xs:zy PV}(hx:x= .tup xs\/x= .lst xs)(hl:xs.length<=100)(hi:(∀y∈xs,kdOf y≠none)/\∀a b,xs= [a, .int b] ->b.natAbs<B){Q:PV->Prop}(q:Q (.bl (Tn xs))):EN [x] Q:=by
 apply UQ;rcases hx with rfl|rfl;all_goals
  repeat' array_get_dec
  .rename_i z;rw[ae z] at q;exact q
  .rename_i h2;obtain⟨y,z,rfl⟩:=lY h2;exact bU (by first | exact .inl rfl|exact .inr rfl) (hi.1 y (by simp)) (hi.1 z (by simp)) q
def eU (r:Rat):Tn [.int r.num, .int (r.den:Int)] =true:=by show (decide (0<(r.den:Int))&&decide (Nat.gcd r.num.natAbs (r.den:Int).natAbs=1))=true;have:=r.den_pos;rw[AAO (by omega),AB4,AAu];exact AAO r.reduced
def fP {r:Rat}{x:PV}(hx:x=fr r\/x= .lst [.int r.num, .int (r.den:Int)]){Q:PV->Prop}(q:Q (.bl true)):EN [x] Q:=by
 refine bR (B:=r.den+1) hx (by simp) ⟨λy c=> ?_,λa b e=> ?_⟩ (by rw[eU];exact q)
 .simp only[AAF,AAj,AAk] at c;rcases c with rfl|rfl <;> exact λz=>by cases z
 .cases e;simp
abbrev Ik:AS:=
 (Ao (Ld (Pp (aV 0) ["tuple","list"]) (AX NI (Fc GH (AB (aV 0) AL)) (aV 1))))
def B7:AF:=Ak 2 Ik
def N4 {a b:PV}{Q:PV->Prop}(h:Ik ⟨λ_=>Q .non,Q,λ_=>False,λ_=>False⟩ [some (.val a),some (.val b)]):B7 [a,b] Q:=h
abbrev MT:AS:=
 (Ab (An (aV 0) (Hw 2 (Ad (Ar 1) (Ad (Ar 2) BY))))
   (Ao (Ld (AN 1 Bp (AB (aV 1) AL)) (Ld (qK rT Wz (aC (.int 0)) (aV 1) (aC (.int 12))) (Ld (AN 1 EN (AB (aV 2) AL)) (AX YT (AX Ae (aV 2) (aC (.int 0))) (aC (.int 0))))))))
abbrev Kz:AS:=
 (Ab (B3 (Df (Ay (AN 2 B7 (AB (aV 0) (AB (aC (.int 2)) AL))))) (Ao (aC (.bl false))) BE)
   MT)
def D5:AF:=Ak 3 Kz
def PM {a:PV}{Q:PV->Prop}(h:Kz ⟨λ_=>Q .non,Q,λ_=>False,λ_=>False⟩ [some (.val a),none,none]):D5 [a] Q:=h
abbrev Ha:AS:=
 (Ab (B3 (M8 (Df (Ay (Pp (aV 0) ["tuple","list"]))) (Df (Ay (Fc (TX λbs=>bs.all id) (AB (GW (Bx (M9 (aV 0)) 1 [] (Ar 0) Ea (AN 1 D5 (AB (aV 0) AL)))) AL))))) (Ao (aC (.bl false))) BE)
   (Ao (Fc (TX λbs=>bs.all id) (AB (GW (Bx (du (AB (aC (.int 1)) (AB (Fc GH (AB (aV 0) AL)) AL))) 1 [0] (Ar 0) Ea (AX Wz (AX Ae (AX Ae (aV 1) (AX IC (aV 0) (aC (.int 1)))) (aC (.int 0))) (AX Ae (AX Ae (aV 1) (aV 0)) (aC (.int 0)))))) AL))))
def C0:AF:=Ak 1 Ha
def Lq {a:PV}{Q:PV->Prop}(h:Ha ⟨λ_=>Q .non,Q,λ_=>False,λ_=>False⟩ [some (.val a)]):C0 [a] Q:=h
abbrev Ky:AS:=
 (Ab (B3 (M8 (Df (Ay (AN 2 B7 (AB (aV 0) (AB (aC (.int 3)) AL))))) (M8 (Df (Ay (AN 1 Bp (AB (AX Ae (aV 0) (aC (.int 0))) AL)))) (Df (Ay (AN 1 Bp (AB (AX Ae (aV 0) (aC (.int 1))) AL)))))) (Ao (aC (.bl false))) BE)
   (Ao (Ld (AX NI (AX Ae (aV 0) (aC (.int 0))) (aV 1)) (Ld (AX NI (AX Ae (aV 0) (aC (.int 1))) (aV 2)) (AN 1 C0 (AB (AX Ae (aV 0) (aC (.int 2))) AL))))))
def D4:AF:=Ak 3 Ky
def PK {a b c:PV}{Q:PV->Prop}(h:Ky ⟨λ_=>Q .non,Q,λ_=>False,λ_=>False⟩ [some (.val a),some (.val b),some (.val c)]):D4 [a,b,c] Q:=h
abbrev HP:AS:=
 (Ab (An (AX Ct (AX B9 (aV 3) (aV 6)) (AX B9 (AX B9 (aV 7) (AX Ae (AX Ae (aV 5) (aV 2)) (aC (.int 0)))) (aV 4))) (Ar 3))
   (VA 4 B9 (aV 6)))
abbrev Js:AS:=
 (Ab (An (AX B9 (aV 8) (AX Ae (AX Ae (aV 5) (aV 2)) (aC (.int 1)))) (Ar 6))
   HP)
abbrev Ju:AS:=
 (Ab (Fk (i6 (AB (aV 0) (AB (aV 1) AL))) (Hw 2 (Ad (Ar 5) (Ad (Hw 2 (Ad (Ar 7) (Ad (Ar 8) BY))) BY))) Js)
   (Ao (aV 3)))
abbrev Jt:AS:=
 (Ab (An (aC (.int 1)) (Ar 4))
   Ju)
abbrev Hd:AS:=
 (Ab (An (aC (.int 0)) (Ar 3))
   Jt)
def Bq:AF:=Ak 9 Hd
def Ls {a b c:PV}{Q:PV->Prop}(h:Hd ⟨λ_=>Q .non,Q,λ_=>False,λ_=>False⟩ [some (.val a),some (.val b),some (.val c),none,none,none,none,none,none]):Bq [a,b,c] Q:=h
abbrev Ma:AS:=
 (Ab (An (AN 3 Bq (AB (aV 2) (AB (aV 3) (AB (aC (.int 0)) AL)))) (Ar 4))
   (Ao (qL (AX Wz (aV 4) (aC (.int 0))) (Ld (AX NI (aV 4) (aC (.int 0))) (Fc (TX λbs=>bs.any id) (AB (GW (Bx (M9 (aV 1)) 2 [] (Hw 2 (Ad (Ar 0) (Ad (Ar 1) BY))) Ea (AX NI (AX Ae (aC (.tup [(.int 0),(.int 1),(.int 0),(.int 1),(.int 0),(.int 0),(.int 1),(.int 1),(.int 1),(.int 1),(.int 1),(.int 1)])) (aV 0)) (aC (.int 1))))) AL))))))
abbrev MZ:AS:=
 (Ab (B3 (M8 (Ay (AX YW (AN 3 Bq (AB (aV 2) (AB (aV 3) (AB (aC (.int 1)) AL)))) (aC (.int 0)))) (Ay (AX YW (AN 3 Bq (AB (aV 2) (AB (aV 3) (AB (aC (.int 2)) AL)))) (aC (.int 0))))) (Ao (aC (.bl false))) BE)
   Ma)
abbrev MY:AS:=
 (Ab (An (GW (Bx (M9 (aV 1)) 2 [] (Hw 2 (Ad (Ar 0) (Ad (Ar 1) BY))) Ea (aV 1))) (Ar 3))
   MZ)
abbrev K1:AS:=
 (Ab (An (GW (Bx (M9 (aV 1)) 2 [0] (Hw 2 (Ad (Ar 0) (Ad (Ar 1) BY))) Ea (AN 2 EM (AB (aV 2) (AB (aV 0) AL))))) (Ar 2))
   MY)
def D7:AF:=Ak 5 K1
def PP {a b:PV}{Q:PV->Prop}(h:K1 ⟨λ_=>Q .non,Q,λ_=>False,λ_=>False⟩ [some (.val a),some (.val b),none,none,none]):D7 [a,b] Q:=h
abbrev Jr:AS:=
 (Ab (Fk (i6 (AB (aV 4) (AB (aV 3) AL))) (Hw 2 (Ad (Hw 3 (Ad (Ar 6) (Ad (Ar 7) (Ad (Ar 8) BY)))) (Ad (Ar 5) BY))) (B3 (M8 (Df (Ay (AN 3 D4 (AB (aV 5) (AB (aV 6) (AB (aV 7) AL)))))) (Df (Ay (AN 2 D7 (AB (aV 8) (AB (AX Ae (aV 5) (aC (.int 2))) AL)))))) (Ao (aC (.bl false))) BE))
   (Ao (aC (.bl true))))
abbrev Jp:AS:=
 (Ab (B3 (Df (Ay (AN 2 B7 (AB (aV 3) (AB (Fc GH (AB (aV 4) AL)) AL))))) (Ao (aC (.bl false))) BE)
   Jr)
abbrev Hc:AS:=
 (Ab (An (AN 3 B5 (AB (aV 0) (AB (aV 1) (AB (aV 2) AL)))) (Ar 4))
   Jp)
def CJ:AF:=Ak 9 Hc
def Lr {a b c d:PV}{Q:PV->Prop}(h:Hc ⟨λ_=>Q .non,Q,λ_=>False,λ_=>False⟩ [some (.val a),some (.val b),some (.val c),some (.val d),none,none,none,none,none]):CJ [a,b,c,d] Q:=h
structure X9 (N:Nat) (rows:List (Int×Rat)):Prop where
 r:rows.Pairwise λa b=>a.1<b.1
 k:∀e∈rows,0<=e.1/\e.1<12
 p:∀e∈rows,0<e.2/\Bd N e.2
 l:rows.length<=12
def U5.s {N:Nat}{w:Wd}{rows:zy (Int×Rat)}(h:U5 N w rows):X9 N rows:=⟨h.r,h.k,h.p,h.l⟩
def dO (w:Wd)(rows:zy (Int×Rat)):kn:=decide (C6 w 1 rows=0)&&(decide (C6 w 2 rows=0)&&(decide (C6 w 0 rows<0)||(decide (C6 w 0 rows=0)&&rows.any λe=>decide (strN e.1.toNat=1))))
def U5.sh {N:Nat}{w:Wd}{rows:zy (Int×Rat)}(h:U5 N w rows):dO w rows=true:=by
 unfold dO;rw[AAO h.b,AAO h.c,AB4,AB4,ADv,AA0,ACZ];rcases h.a with z|⟨z,e,he,d⟩
 .exact .inl (AAO z)
 .exact .inr ⟨AAO z,e,he,AAO d⟩
def dA (e:Int×Rat):PV:= .tup [.int e.1,fr e.2]
def Xf (rows:zy (Int×Rat)):JV rows= .tup (rows.map dA):=rfl
def bA {x:Rat}(h:0<x):0<x.num:=by have h1:=Rat.num_nonneg (q:= -x);rw[Rat.neg_num] at h1;grind
def IF {v:PV}{xs:zy PV}{n:Int}(hv:v= .tup xs\/v= .lst xs)(hl:xs.length<=100000){Q:PV->Prop}(q:Q (.bl (decide ((xs.length:Int)=n)))):B7 [v, .int n] Q:=by
 apply N4;rcases hv with rfl|rfl
 .ac_rfl;exact q
 .ac_rfl;exact q
def ZR {e:Int×Rat}(k:0<=e.1/\e.1<12)(p:0<e.2){Q:PV->Prop}(q:Q (.bl true)):D5 [dA e] Q:=by
 have n:=bA p;apply PM;unfold dA;repeat' array_get_dec
 refine IF (.inl rfl) (by simp) ?_;rw[show decide (((([PV.int e.1,fr e.2] :zy PV).length:Nat):Int)=2)=true from rfl];repeat' array_get_dec
 refine Kx ?_;repeat' array_get_dec
 .refine fP (.inl rfl) ?_;repeat' array_get_dec
  rw[AAO n];exact q
 .rename_i z;exact absurd k.2 z
 .rename_i z;exact absurd k.1 z
def cI {w:Wd}{a:Nat}{b:zy (Int×Rat)}{e:Int×Rat}:C6 w a (b ++ [e])=C6 w a b+e.2*fK w a e.1:=by unfold C6;rw[ABz,List.sum_append,AAL,ABr,AAh,AD4,Rat.add_zero]
def TM (x:Rat):x*(x.den:Rat)=(x.num:Rat):=by
 have a:(x.den:Rat)≠0:=by exact_mod_cast x.den_nz
 have:=AAy x;rw[ABU,AAt] at this;grind
def nH {w:Wd}{W:Nat}(ok:Lc W w)(a:Nat)(n:Int):Bd (3*W+2) (fK w a n):=by
 obtain⟨b,b2,c⟩:=Ec ok n.toNat;rcases a with _|_|a
 .exact b
 .exact b2
 .exact c
def L8 {x y:Int}{m n:Nat}(hx:x.natAbs<2^m)(a:y.natAbs<2^n):(x*y).natAbs<2^(m+n):=by rw[AAr,ABO];exact ACi hx a
def gT {T S r x y a b nx c:Rat}(d:T=S*r)(e:x*a=nx)(f:y*b=c):T*(a*b)+nx*c*S=S*(a*b)*(r+x*y):=by rw[d,<-e,<-f];grind
def gr {w:Wd}{rows:zy (Int×Rat)}{a:Nat}{N W:Nat}(ha:a<3)(h:X9 N rows)(ok:Lc W w)(hN:N+(3*W+2)<=2000){Q:PV->Prop}(q:∀n:Int,(n=0↔C6 w a rows=0)->(n<0↔C6 w a rows<0)->Q (.int n)):Bq [.lst (rows.map λe=>Lu (Af w e.1.toNat)), .lst (rows.map λe=>fr e.2), .int a] Q:=by
 have i:∀(n:Int) {R:PV->Prop},R (fr (fK w a n))->Ae (Lu (Af w n.toNat)) (.int a) R:=λn R r=>by
  have cs:a=0\/a=1\/a=2:=by omega
  rcases cs with rfl|rfl|rfl <;> exact r
 have hl:=h.l;generalize hc:N+(3*W+2)=c at *;apply Ls;ac_rfl;rw[show Ia (rows.map λe=>Lu (Af w e.1.toNat)) (rows.map λe=>fr e.2)=rows.map λe=> .tup [Lu (Af w e.1.toNat),fr e.2] by unfold Ia;rw[List.zipWith_map,List.zipWith_self]];generalize PV.lst (rows.map λe=>Lu (Af w e.1.toNat))=G1;generalize PV.lst (rows.map λe=>fr e.2)=G2;refine CS (λe:Int×Rat=> .tup [Lu (Af w e.1.toNat),fr e.2]) (λd vs τ=>∃(T S:Int) (j k m o:zt AV),0<S/\(T:Rat)=(S:Rat)*C6 w a d/\S.natAbs<2^(d.length*c+1)/\T.natAbs<=d.length*2^(d.length*c+1)/\τ= [some (.val G1),some (.val G2),some (.val (.int a)),some (.val (.int T)),some (.val (.int S)),j,k,m,o]) ?_ ?_ ⟨0,1,_,_,_,_,by decide,by unfold C6;simp,by simp,by simp,rfl⟩
 .rintro τ ⟨T,S,j,k,m,o,s,f,_,_,rfl⟩;have Sq:(0:Rat)<(S:Rat):=by exact_mod_cast s
  have g:=q T (by
   constructor
   .intro z;rw[z] at f;rcases ABf.mp f.symm with y|y
    .grind
    .exact y
   .intro z;rw[z,Rat.mul_zero] at f
    exact_mod_cast f) (by
   have:(T<0)↔(T:Rat)<0:=by rw[<-ABg,AB2]
   rw[this,f];have:=Rat.mul_lt_mul_left (a:=C6 w a rows) (b:=0) Sq;rw[Rat.mul_zero] at this;exact this)
  ac_rfl;exact g
 .rintro d e vs v τ R x ⟨T,S,j,k,m,o,s,f,t,C,rfl⟩;have D:e∈rows:=by rw[<-v];simp
  have ul:d.length<=12:=by have:=congrArg List.length v;simp at this;omega
  obtain⟨O,bw⟩:=h.p e D;have bf:=nH ok a e.1;have u:((e.2.den:Int)*((fK w a e.1).den:Int)).natAbs<2^c:=by rw[<-hc];exact L8 (by simpa using bw.bot) (by simpa using bf.bot)
  have k2:(e.2.num*(fK w a e.1).num).natAbs<2^c:=by rw[<-hc];exact L8 bw.top bf.top
  have E:0<(e.2.den:Int)*((fK w a e.1).den:Int):=ABI (by exact_mod_cast e.2.den_pos) (by exact_mod_cast (fK w a e.1).den_pos);have P:d.length*c<=12*2000:=AA2 ul (by omega);have sc:(d.length+1)*c=d.length*c+c:=by rw[ABQ]
  have A:S.natAbs<2^24001:=Al t (by omega);have F:T.natAbs<2^24005:=by
   have:d.length*2^(d.length*c+1)<=12*2^24001:=AA2 ul (ACb (by decide) (by omega));have:12*2^24001<2^24005:=by rw[show (24005:Nat)=24001+4 from rfl,ABO];have:=ADJ 24001;omega
   omega
  have g:=x [some (.val G1),some (.val G2),some (.val (.int a)),some (.val (.int (T*(e.2.den*(fK w a e.1).den)+e.2.num*(fK w a e.1).num*S))),some (.val (.int (S*(e.2.den*(fK w a e.1).den)))),some (.val (Lu (Af w e.1.toNat))),some (.val (.int (e.2.den*(fK w a e.1).den))),some (.val (.int e.2.num)),some (.val (.int e.2.den))] ⟨_,_,_,_,_,_,ABI s E,by
   have G:=TM e.2;have H:=TM (fK w a e.1);rw[cI,ACj,AAS,AAS,AAS,AAS,AAS,AAS,AAt,AAt];exact gT f G H,by
   have:=L8 t u;rw[AAx,ADZ,sc];exact Al this (by omega),by
   have m1:(T*((e.2.den:Int)*((fK w a e.1).den:Int))).natAbs<=d.length*2^(d.length*c+1)*2^c:=by rw[AAr];exact AA2 C (AB8 u)
   have m2:=L8 k2 t;rw[AAx,ADZ,sc,ABQ,show d.length*c+c+1=d.length*c+1+c by omega,ABO,<-AA3];rw[show c+(d.length*c+1)=d.length*c+1+c by omega,ABO] at m2;omega,rfl⟩
  clear x;have I:((e.2.den:Nat):Int).natAbs<2^2001:=by simpa using Al bw.bot (by omega)
  have J:(((fK w a e.1).den:Nat):Int).natAbs<2^2001:=by simpa using Al bf.bot (by omega)
  have K:=Al bw.top (n:=2001) (by omega);have L:=Al bf.top (n:=2001) (by omega);have B:=Al u (n:=2001) (by omega);have M:=Al k2 (n:=2001) (by omega);ac_rfl;refine i _ ?_;ac_rfl;refine⟨MulOk.of I J, ?_⟩;ac_rfl;refine⟨MulOk.of F B, ?_⟩;ac_rfl;refine i _ ?_;ac_rfl;refine⟨MulOk.of K L, ?_⟩;ac_rfl;refine⟨MulOk.of M A, ?_⟩;ac_rfl;refine⟨MulOk.of A B, ?_⟩;ac_rfl;exact g
theorem S9:∀n:Nat,GZ (List.replicate n (.bl true))=some (List.replicate n true)
 | 0=>rfl
 | n+1=>by rw[ADk,ADk];show (GZ (List.replicate n (.bl true))).map (true :: ·)=_;rw[S9 n];rfl
def d5 {rows:zy (Int×Rat)}{N:Nat}(h:X9 N rows){Q:PV->Prop}(q:Q (.bl true)):C0 [JV rows] Q:=by
 have hl:=h.l;rw[Xf];apply Lq;ac_rfl;refine Ew dA PV.bl (λ_=>true) (λe=>e∈rows) (λe he R r=> ?_) rows [] (λe he=>he) ?_
 .ac_rfl;exact ZR (h.k e he) (h.p e he).1 r
 rw[AA8];ac_rfl;rw[AA7];refine Xg (Q8 (λ_=>true) rows) ?_;rw[show (rows.map λ_=>true).all id=true by simp];ac_rfl;refine Q9 (λi a=>a=List.replicate i (.bl true)) (λa e=> ?_) (λi hi a R f e=> ?_) rfl
 .subst e;ac_rfl;refine Xg (bs:=List.replicate ((rows.length:Int)-1).toNat true) (S9 _) ?_;rw[show (List.replicate ((rows.length:Int)-1).toNat true).all id=true by simp];exact q
 .have d:=f (a ++ [.bl true]) (by rw[e,List.replicate_succ']);clear f;have g:i+1<rows.length:=by omega
  have j:=AEG.mp h.r i (i+1) (by omega) g (by omega);have m:=AAW (l:=rows) (i:=i) (by omega);have n:=AAW (l:=rows) (i:=i+1) g;ac_rfl;rename_i c b _;have b:c=rows[i] :=by rw[show (1+(i:Int)-1).toNat=i by omega,m] at b;exact(AAX b).symm
  subst b;unfold dA;ac_rfl;rename_i c b _;have b:c=rows[i+1] :=by rw[show (1+(i:Int)).toNat=i+1 by omega,n] at b;exact(AAX b).symm
  subst b;rw[AAO j];exact d
def kZ {i j:Int}{rows:zy (Int×Rat)}{N:Nat}(h:X9 N rows){Q:PV->Prop}(q:Q (.bl true)):D4 [.tup [.int i, .int j,JV rows], .int i, .int j] Q:=by apply PK;ac_rfl;refine IF (.inl rfl) (by simp) ?_;rw[show decide (((([PV.int i,PV.int j,JV rows] :zy PV).length:Nat):Int)=3)=true from rfl];ac_rfl;refine Kx ?_;ac_rfl;refine Kx ?_;ac_rfl;exact d5 h q
def gR {w:Wd}{rows:zy (Int×Rat)}{N W:Nat}(h:X9 N rows)(ok:Lc W w)(v:W<=1300)(hN:N+(3*W+2)<=2000){Q:PV->Prop}(q:Q (.bl (dO w rows))):D7 [c8 w,JV rows] Q:=by
 have hl:=h.l;have j:∀e∈rows,∃n:Nat,n<12/\e.1=n:=λe he=>⟨e.1.toNat,by have:=h.k e he;omega,by have:=h.k e he;omega⟩;rw[Xf];apply PP;ac_rfl;refine Ew dA Lu (λe=>Af w e.1.toNat) (λe=>e∈rows) (λe he R r=> ?_) rows [] (λe he=>he) ?_
 .obtain ⟨n,b,g⟩:=j e he;unfold dA;ac_rfl;rw[g] at r ⊢;exact W1 ok (by omega) b (by simpa using r)
 rw[AA8];ac_rfl;refine Ew dA fr (λe=>e.2) (λe=>e∈rows) (λe he R r=> ?_) rows [] (λe he=>he) ?_
 .unfold dA;ac_rfl;exact r
 rw[AA8,AA7,AA7];have S:=λa ha {Q:PV->Prop} q=>gr (Q:=Q) (a:=a) ha h ok hN q;ac_rfl;refine S 1 (by decide) λm o _=> ?_;unfold dO at q;by_cases c:C6 w 1 rows=0;rotate_left
 .rw [AAa c] at q;have:¬m=0:=λz=>c (o.mp z);ac_rfl;all_goals first
   | exact q
   | (rename_i z;exact absurd z this)
 rw[AAO c,AB4] at q;have:m=0:=o.mpr c;subst this;ac_rfl;refine S 2 (by decide) λp s _=> ?_;by_cases d:C6 w 2 rows=0;rotate_left
 .rw [AAa d] at q;have:¬p=0:=λz=>d (s.mp z);ac_rfl;all_goals first
   | exact q
   | (rename_i z;exact absurd z this)
 rw[AAO d,AB4] at q;have:p=0:=s.mpr d;subst this;ac_rfl;refine S 0 (by decide) λf t u=> ?_;have q:Q (.bl (decide (f<0)||(decide (f=0)&&rows.any λe=>decide (strN e.1.toNat=1)))):=by rw[show decide (f<0)=decide (C6 w 0 rows<0) from ABy.mpr u,show decide (f=0)=decide (C6 w 0 rows=0) from ABy.mpr t];exact q
 ac_rfl
 .rename_i z;rw[AAO z] at q;exact q
 .rename_i z i;rw[AAa z,AAO i,ADm,AB4] at q;refine Ew dA PV.bl (λe=>decide (strN e.1.toNat=1)) (λe=>e∈rows) (λe he R r=> ?_) rows [] (λe he=>he) ?_
  .obtain ⟨n,b,g⟩:=j e he;unfold dA;ac_rfl;rw[g] at r ⊢;refine cg b ?_;ac_rfl;simpa using r
  rw[AA8,AA7];ac_rfl;refine Xg (Q8 (λe:Int×Rat=>decide (strN e.1.toNat=1)) rows) ?_;rw[List.any_map];exact q
 .rename_i z i;rw[AAa z,AAa i] at q;exact q
def gm {cs ds:zy C4}{b e:T3}{d:Rat×Rat}(h1:cs.length<=60)(h2:ds.length<=60):(MF cs ds b e d).length<=10100:=by
 unfold MF;rw[ACh];have:∀a:zy (Nat×C4×C4),(a.map λp=>((Uo 0 (Dg ds)).map λq=>(p.1,q.1,De cs ds b e d p.2 q.2)).length).sum=a.length*(Dg ds).length:=λa=>by
  induction a with
  | nil=>simp
  | cons x a c=>simp[AAL,AAh,ABQ,Fn] at c ⊢;omega
 rw[this,Fn];have f:(Dg cs).length<=60:=by unfold Dg;simp;omega
 have g:(Dg ds).length<=60:=by unfold Dg;simp;omega
 have:=AA2 f g;omega
def gt {L:zy (Nat×Nat×Wd)}{ps:zy (zy (Int×Rat))}(h:L.length=ps.length):Ia (L.map wrow) ((L.zip ps).map CA)=(L.zip ps).map λy=> .tup [wrow y.1,CA y] :=by
 unfold Ia;induction L generalizing ps with
 | nil=>rfl
 | cons x L a=>
   cases ps with
   | nil=>simp at h
   | cons p ps=> have:=a (ps:=ps) (by simpa using h);simp only[List.zip_cons_cons,AAL,List.zipWith_cons_cons];rw[this]
def WG {v w u:PV}{L:zy (Nat×Nat×Wd)}{ps:zy (zy (Int×Rat))}{N:Nat}(hw:∀{Q:PV->Prop},Q (.lst (L.map wrow))->B5 [v,w,u] Q)(hl:L.length<=10100)(hp:L.length=ps.length)(ok:∀y∈L.zip ps,X9 N y.2/\∃W,Lc W y.1.2.2/\3*W+2<=1300)(hN:N<=700){Q:PV->Prop}(q:Q (.bl ((L.zip ps).all λy=>dO y.1.2.2 y.2))):CJ [v,w,u, .tup ((L.zip ps).map CA)] Q:=by
 have m:(L.zip ps).length=L.length:=by rw[List.length_zip];omega
 apply Lr;ac_rfl;refine hw ?_;ac_rfl;refine IF (.inl rfl) (by rw[AAK];omega) ?_;rw[show decide ((((L.zip ps).map CA).length:Int)=(L.length:Int))=true by rw[AAK,m];exact AAO rfl];ac_rfl;rw[gt hp];generalize PV.tup ((L.zip ps).map CA)=P1;generalize PV.lst (L.map wrow)=P2;generalize L.zip ps=ys at *;refine CS (λy:(Nat×Nat×Wd)×zy (Int×Rat)=> .tup [wrow y.1,CA y]) (λi vs τ=>(i.all λy=>dO y.1.2.2 y.2)=true/\∃b c d e:zt AV,τ= [some (.val v),some (.val w),some (.val u),some (.val P1),some (.val P2),b,c,d,e]) ?_ ?_ ⟨rfl,_,_,_,_,rfl⟩
 .rintro τ ⟨f,_,_,_,_,rfl⟩;rw[f] at q;ac_rfl;exact q
 .rintro i y vs j τ R k ⟨f,b,c,d,e,rfl⟩;obtain⟨l,W,n,p⟩:=ok y (by rw[<-j];simp);have g:dO y.1.2.2 y.2=true->∀b c d e:zt AV,R [some (.val v),some (.val w),some (.val u),some (.val P1),some (.val P2),b,c,d,e] :=λh b c d e=>k _ ⟨by rw[List.all_append,f];simp[h],b,c,d,e,rfl⟩;have o:dO y.1.2.2 y.2=false->Q (.bl false):=λh=>by rw[<-j,List.all_append,List.all_cons,h,ADQ,Bool.and_false] at q;exact q
  clear k;unfold wrow CA;ac_rfl;refine kZ l ?_;ac_rfl;refine gR l n (by omega) (by omega) ?_;cases hb:dO y.1.2.2 y.2 with
  | true=> have a:=g hb;ac_rfl;exact a _ _ _ _
  | false=> have a:=o hb;ac_rfl;exact a
end PL
namespace PL.K88
open PySem L2 PL PyProof.Rows
open PL.K31
abbrev Ie:AS:=
 (Ab (An (AN 2 BQ (AB (aV 4) (AB (AN 2 CV (AB (Aq (AB (AN 2 A2 (AB (aV 0) (AB (aC (.int 4)) AL))) (AB (aC (.int 8)) AL))) (AB (aV 2) AL))) AL))) (Ar 3))
   (Ao (AN 3 HA (AB (aV 1) (AB (aV 3) (AB (AN 2 Di (AB (aV 5) (AB (AN 2 CV (AB (Aq (AB (AN 2 A2 (AB (aV 0) (AB (aC (.int 4)) AL))) (AB (aC (.int 8)) AL))) (AB (aV 2) AL))) AL))) AL))))))
abbrev Ic:AS:=
 (Ab (An (AN 2 Di (AB (aV 5) (AB (aV 4) AL))) (Ar 2))
   Ie)
abbrev GJ:AS:=
 (Ab (S7 4 5 (AB (AX Ae (AX Ae (aV 1) (aC (.int 0))) (aC (.int 0))) (AB (AX Ae (AX Ae (aV 1) (YB NJ (aC (.int 1)))) (aC (.int 0))) AL)))
   Ic)
def CU:AF:=Ak 6 GJ
def KG {a b:PV}{Q:PV->Prop}(h:GJ ⟨λ_=>Q .non,Q,λ_=>False,λ_=>False⟩ [some (.val a),some (.val b),none,none,none,none]):CU [a,b] Q:=h
abbrev Ii:AS:=
 (Ab (An (GW (FP (AB (Aq (AB (aC (.int 0)) (AB (aC (.int 1)) AL))) (AB (Aq (AB (aC (.int 0)) (AB (aC (.int 1)) AL))) (AB (Aq (AB (aC (.int 1)) (AB (aC (.int 2)) AL))) (AB (Aq (AB (aC (.int 1)) (AB (aC (.int 1)) AL))) AL)))))) (Ar 2))
   (Ao (Fc Cw (AB (GW (Bx (Q6 (AB (aC (.int 3)) AL)) 1 [1,2,0] (Ar 0) Ea (AN 2 BQ (AB (AX Ae (aV 1) (aV 0)) (AB (AX Ae (aV 2) (AN 2 A2 (AB (aV 3) (AB (aC (.int 4)) AL)))) AL))))) AL))))
def Ck:AF:=Ak 3 Ii
def N3 {a b:PV}{Q:PV->Prop}(h:Ii ⟨λ_=>Q .non,Q,λ_=>False,λ_=>False⟩ [some (.val a),some (.val b),none]):Ck [a,b] Q:=h
abbrev LM:AS:=
 (Ab (B3 (JA (Ay (AX NI (AX Ae (aV 6) (aC (.int 0))) (aC (.str "meet")))) (Ay (AX YW (AX Ae (aV 11) (aC (.int 0))) (aC (.str "meet"))))) (Ao (aC (.bl false))) BE)
   (B3 (JA (Ay (AX NI (AX Ae (aV 11) (aC (.int 0))) (aC (.str "apart")))) (Ay (AX aE (AN 4 CJ (AB (AX Ae (aV 7) (aC (.int 0))) (AB (AX Ae (aV 7) (aC (.int 1))) (AB (AX Ae (aV 7) (aC (.int 2))) (AB (AX Ae (aV 11) (aC (.int 1))) AL))))) (aC (.bl true))))) (Ao (aC (.bl false))) BE))
abbrev Io:AS:=
 (Ab (An (AN 3 BW (AB (AX Ae (aV 7) (aC (.int 0))) (AB (AX Ae (aV 7) (aC (.int 1))) (AB (AX Ae (aV 7) (aC (.int 2))) AL)))) (Ar 11))
   LM)
abbrev LV:AS:=
 (Ab (B3 (JA (Ay (AX NI (AX Ae (aV 6) (aC (.int 0))) (aC (.str "apart")))) (Ay (AX YW (AX Ae (AN 3 BW (AB (AX Ae (aV 8) (aC (.int 0))) (AB (AX Ae (aV 8) (aC (.int 1))) (AB (aV 3) AL)))) (aC (.int 0))) (aC (.str "apart"))))) (Ao (aC (.bl false))) BE)
   (B3 (M8 (Ay (AX YW (AX Ae (AN 3 BW (AB (aV 9) (AB (aV 9) (AB (aV 3) AL)))) (aC (.int 0))) (aC (.str "meet")))) (Ay (AX YW (AX Ae (AN 3 BW (AB (AX Ae (aV 8) (aC (.int 1))) (AB (aV 10) (AB (aV 3) AL)))) (aC (.int 0))) (aC (.str "meet"))))) (Ao (aC (.bl false))) BE))
abbrev LU:AS:=
 (Ab (An (GW (Bx (M9 (Aq (AB (aV 9) (AB (aV 10) AL)))) 1 [2] (Ar 0) Ea (Aq (AB (AN 2 CU (AB (aV 1) (AB (AX Ae (aV 0) (aC (.int 0))) AL))) (AB (AX Ae (aV 0) (aC (.int 1))) AL))))) (Ar 8))
   LV)
abbrev LS:AS:=
 (Ab (Fk (M9 (GW (FP (AB (Aq (AB (AX Ae (aV 4) (aC (.int 0))) (AB (aV 10) (AB (aV 3) AL)))) (AB (Aq (AB (aV 9) (AB (AX Ae (aV 4) (aC (.int 1))) (AB (aV 5) AL)))) (AB (Aq (AB (AX Ae (aV 4) (aC (.int 0))) (AB (AX Ae (aV 4) (aC (.int 1))) (AB (aV 5) AL)))) AL)))))) (Ar 7) Io)
   LU)
abbrev LR:AS:=
 (Ab (An (AN 3 BW (AB (aV 9) (AB (aV 10) (AB (aV 3) AL)))) (Ar 6))
   LS)
abbrev LQ:AS:=
 (Ab (An (Aq (AB (AN 2 BQ (AB (AX Ae (aV 3) (aC (.int 0))) (AB (Aq (AB (AN 2 A2 (AB (aV 2) (AB (aC (.int 2)) AL))) (AB (aC (.int 2)) AL))) AL))) (AB (AN 2 BQ (AB (AX Ae (aV 3) (aC (.int 1))) (AB (Aq (AB (AN 2 A2 (AB (aV 2) (AB (aC (.int 2)) AL))) (AB (aC (.int 2)) AL))) AL))) AL))) (Ar 5))
   LR)
abbrev LP:AS:=
 (Ab (An (GW (FP (AB (Aq (AB (AX Ae (aV 9) (aC (.int 0))) (AB (AN 2 Ck (AB (aV 2) (AB (AX Ae (aV 9) (aC (.int 1))) AL))) AL))) (AB (Aq (AB (AX Ae (aV 10) (aC (.int 0))) (AB (AN 2 Ck (AB (aV 2) (AB (AX Ae (aV 10) (aC (.int 1))) AL))) AL))) AL)))) (Ar 4))
   LQ)
abbrev LO:AS:=
 (Ab (An (AN 1 F__law_apart (AB (aV 2) AL)) (Ar 3))
   LP)
abbrev LN:AS:=
 (Ab (An (AN 1 EU (AB (aV 2) AL)) (Hw 2 (Ad (Ar 9) (Ad (Ar 10) BY))))
   LO)
abbrev Qc:AS:=
 (Ab (An (AN 2 M1 (AB (aV 0) (AB (aV 1) AL))) (Ar 2))
   LN)
abbrev Pd:AS:=
 (Ab (Fk (Q6 (AB (AX Ct (aC (.int 1)) (Fc (jJ min) (AB (aC (.int 1)) (AB (Fc GH (AB (aV 0) AL)) AL)))) AL)) (Ar 1) Qc)
   (Ao (aC (.bl true))))
def EO:AF:=Ak 12 Pd
def UR {a:PV}{Q:PV->Prop}(h:Pd ⟨λ_=>Q .non,Q,λ_=>False,λ_=>False⟩ [some (.val a),none,none,none,none,none,none,none,none,none,none,none]):EO [a] Q:=h
def XR (x:Rat):x=(x.num:Rat)/(x.den:Rat):=by have:=AAy x;rw[ABU,AAt] at this;exact this.symm
def iH {p:Int}{y:Rat}(c:0<=p)(d:p<4)(a:Bd 30 y){Q:PV->Prop}(h:Q (fr ((p:Rat)/8*y))):CV [.tup [.int p, .int 8],fr y] Q:=by
 have b:=a.top;have k2:=a.bot;have f:=y.den_pos;have m1:(p*y.num).natAbs<2^40:=by rw[AAr];have:p.natAbs*y.num.natAbs<=4*2^30:=AA2 (by omega) (by omega);omega
 have m2:(8*(y.den:Int)).natAbs<2^40:=by omega
 have e:Rat.divInt (p*y.num) (8*y.den)=(p:Rat)/8*y:=by
  have g:(y.den:Rat)≠0:=by exact_mod_cast y.den_nz
  rw[ABU,AAS,AAS,AAt];conv=>rhs;rw[XR y]
  rw[AAp,AAp,AAp,Rat.inv_mul_rev];have:((8:Int):Rat)=8:=rfl;rw[this];grind
 exact⟨MulOk.of (m:=8) (n:=30) (by omega) b,MulOk.of (m:=8) (n:=30) (by omega) (by simpa using k2),rfl,Dv 40 (by omega) m1 m2 (by decide) λ_=>by rw[e];exact h⟩
def pO {k:Int}{x:Rat}(d:0<=k)(k2:k<2)(a:Bd 8 x){Q:PV->Prop}(h:Q (fr (x+(k:Rat)/2))):BQ [fr x, .tup [.int k, .int 2]] Q:=by
 have b:=a.top;have t2:=a.bot;have f:=x.den_pos;have e:Rat.divInt (x.num*2+k*x.den) (x.den*2)=x+(k:Rat)/2:=by
  have c:(x.den:Rat)≠0:=by exact_mod_cast x.den_nz
  rw[ABU,ACj,AAS,AAS,AAS,AAt];conv=>rhs;rw[XR x]
  rw[AAp,AAp,AAp,Rat.inv_mul_rev];have:((2:Int):Rat)=2:=rfl;rw[this];have i:(x.den:Rat)*(x.den:Rat)⁻¹=1:=Rat.mul_inv_cancel _ c;generalize (x.den:Rat)⁻¹=j at *;grind
 have cs:k=0\/k=1:=by omega
 have m2:(k*(x.den:Int)).natAbs<=256:=by rcases cs with rfl|rfl <;> omega
 exact⟨MulOk.of (m:=8) (n:=8) b (by decide),MulOk.of (m:=8) (n:=8) (by omega) (by simpa using t2),MulOk.of (m:=8) (n:=8) (by simpa using t2) (by decide),rfl,Dv 12 (by omega) (by omega) (by omega) (by decide) λ_=>by rw[e];exact h⟩
def Fu {cs:zy C4}(p:Cr 9 6 600 cs){Q:PV->Prop}(q:∀f t,Dd cs f t->Mul 48 9600 f->Mul 48 9600 t->Q (A8 (CD cs f t))):CU [.tape,A8 cs] Q:=by
 have j:=p.y10.bd;have n:=p.ris;have o:=p.two;have H:=p.few;have z:=p.mu;obtain⟨a,r,l,rfl,A,d⟩:=open2 p.two;have L:a.1<l.1:=by
  cases r with
  | nil=>exact absurd rfl A
  | cons b r=> rw[ACN] at d;exact(AAN.mp n).1 l (ACg d)
 have ba:=(j a (by simp)).m;have B:=ACg d;have s:=(j l B).m;have C:=(z a (by simp)).m;have D:=(z l B).m;have e:=s.sub ba;apply KG;ac_rfl;rename_i k i E;refine iH i E (e.mono (by decide)) ?_;have mk:∀{k:Int},0<=k->k<4->Mul 48 3600 ((k:Rat)/8*(l.1-a.1))/\0<=(k:Rat)/8*(l.1-a.1)/\(k:Rat)/8*(l.1-a.1)<=3/8*(l.1-a.1):=λ{k} i k4=>by
  have I:Mul 8 3 ((k:Rat)/8):= .mk' (k:=k) (by decide) (by show (k:Rat)/8*8=k;rw[ADI (by decide)]) (by omega);have c0:(0:Rat)<=(k:Rat)/8:=by
   have:(0:Rat)<=(k:Rat):=by exact_mod_cast i
   rw[AAp];exact AD3 this (by decide +kernel)
  have J:(k:Rat)/8<=3/8:=by
   have:(k:Rat)<=3:=by exact_mod_cast (by omega:k<=3)
   rw[AAp,AAp];exact AEP this (by decide +kernel)
  have F:0<=l.1-a.1:=by grind
  exact⟨(I.mul (D.subQ C)).mono (by decide),AD3 c0 F,AEP J F⟩
 obtain⟨m1,N,O⟩:=mk i E;have K:Bd 30 ((k:Rat)/8*(l.1-a.1)):=m1.bd (by decide) (by decide);generalize (k:Rat)/8*(l.1-a.1)=x at *;have u:=ba.add K;ac_rfl;rename_i G g h;refine iH g h (e.mono (by decide)) ?_;obtain⟨m2,P,y1⟩:=mk g h;have v:Bd 30 ((G:Rat)/8*(l.1-a.1)):=m2.bd (by decide) (by decide);generalize (G:Rat)/8*(l.1-a.1)=y at *;have w:=s.sub v;ac_rfl;have f1:a.1+x<l.1-y:=by grind
 refine Qy (M:=60) (.self _) j n A d (by omega) (u.mono (by decide)) (w.mono (by decide)) (ba.mono (by decide)) (s.mono (by decide)) (by decide) ?_;rw[show mx (a.1+x) a.1=a.1+x by unfold mx;split <;> grind,show mn (l.1-y) l.1=l.1-y by unfold mn;split <;> grind];unfold XV;rw[AAE f1];exact q _ _ ⟨n,o,by rw[Lz];grind,f1,by rw[Fs d];grind⟩ (((C.upc (c:=8) (by decide)).add m1).mono (by decide)) (((D.upc (c:=8) (by decide)).subQ m2).mono (by decide))
structure Sy (b:T3):Prop where
 bd:Hi 20 b
 mx:Mul 6 300 b.1
 my:Mul 6 300 b.2.1
 mz:Mul 6 300 b.2.2
def LX.w {b:T3}(h:LX b):Sy b:=⟨h.bd.mono (by decide),h.mx.mono (by decide),h.my.mono (by decide),h.mz.mono (by decide)⟩
def yh (b c:T3):Prop:=b.1<=c.1/\b.2.1<=c.2.1/\b.2.2<=c.2.2
def Uj {b:T3}(hb:LX b){Q:PV->Prop}(q:∀c,Sy c->yh b c->Q (Kq c)):Ck [.tape, .tup [fr b.1,fr b.2.1,fr b.2.2]] Q:=by
 have a:=hb.bd.x;have b2:=hb.bd.y;have d:=hb.bd.z;have all:∀x∈ [(0:Rat),0,1/2,1],Bd 8 x/\0<=x/\Mul 6 6 x:=by
  intro x hx;simp only[AAF,AAj,AAk] at hx;rcases hx with rfl|rfl|rfl|rfl
  .exact ⟨QV,by decide +kernel, .mk' (k:=0) (by decide) (by decide +kernel) (by decide)⟩
  .exact ⟨QV,by decide +kernel, .mk' (k:=0) (by decide) (by decide +kernel) (by decide)⟩
  .exact ⟨QV,by decide +kernel, .mk' (k:=3) (by decide) (by decide +kernel) (by decide)⟩
  .exact ⟨QV,by decide +kernel, .mk' (k:=6) (by decide) (by decide +kernel) (by decide)⟩
 apply N3;ac_rfl;rw[show rng 0 (Int.toNat 3)= [.int 0, .int 1, .int 2] from rfl];repeat' array_get_dec
 refine EC (xs:= [(0:Rat),0,1/2,1]) (by omega) (by show _<(4:Int);omega) λx hx=> ?_;obtain⟨e,l,f⟩:=all x hx;repeat' array_get_dec
 refine EC (xs:= [(0:Rat),0,1/2,1]) (by omega) (by show _<(4:Int);omega) λy g=> ?_;obtain⟨y1,y2,y3⟩:=all y g;repeat' array_get_dec
 refine EC (xs:= [(0:Rat),0,1/2,1]) (by omega) (by show _<(4:Int);omega) λz h=> ?_;obtain⟨i,m,j⟩:=all z h;repeat' array_get_dec
 exact q (b.1+x,b.2.1+y,b.2.2+z) ⟨⟨(a.add e).mono (by decide),(b2.add y1).mono (by decide),(d.add i).mono (by decide)⟩,(hb.mx.add f).mono (by decide),(hb.my.add y3).mono (by decide),(hb.mz.add j).mono (by decide)⟩ ⟨by show b.1<=b.1+x;grind,by show b.2.1<=b.2.1+y;grind,by show b.2.2<=b.2.2+z;grind⟩
structure dR (d:Rat×Rat):Prop where
 b1:Bd 20 d.1
 b2:Bd 20 d.2
 m1:Mul 6 300 d.1
 m2:Mul 6 300 d.2
def ZT.w {d:Rat×Rat}(h:ZT d):dR d:=⟨h.b1.mono (by decide),h.b2.mono (by decide),h.m1.mono (by decide),h.m2.mono (by decide)⟩
def iT {b e:T3}{d:Rat×Rat}(hb:Sy b)(he:Sy e)(hd:dR d):∀k,Mul 12 4800 (iS (szs b e d) k):=λk=>by
 rcases k with _|_|k
 .exact ((hd.m1.add (hb.mx.add he.mx)).dbl).mono (by decide)
 .exact ((hd.m1.add (hb.mx.add he.mx)).dbl).mono (by decide)
 .exact ((hd.m2.add (hb.my.add he.my)).dbl).mono (by decide)
def RU {b:T3}(h:Sy b):Mul 48 9600 b.2.2:=(h.mz.upc (c:=8) (by decide)).mono (by decide)
def RX {cs ds:zy C4}{b e:T3}{d:Rat×Rat}(a:Wg cs)(pd:Wg ds)(hb:Sy b)(he:Sy e)(hd:dR d){Q:PV->Prop}(c:(∀s t,¬DI cs ds b e d s t)->∀ps:zy (zy (Int×Rat)),(MF cs ds b e d).length=ps.length->(∀y∈(MF cs ds b e d).zip ps,U5 201 y.1.2.2 y.2)->Q (.tup [.str "apart", .tup (((MF cs ds b e d).zip ps).map CA)]))(f:∀s t,DI cs ds b e d s t->Bd 200 s->Bd 500 t->Q (.tup [.str "meet",fr s,fr t])):BW [C2 cs b,C2 ds e, .tup [fr d.1,fr d.2]] Q:=
 jt a pd (Lx (b:=b)) (Lx (b:=e)) (.inl rfl) hb.bd he.bd hd.b1 hd.b2 (RU hb) (RU he) (iT hb he hd) c f
def lH {cs ds:zy C4}{b e:T3}{d:Rat×Rat}{ps:zy (zy (Int×Rat))}(a:Wg cs)(pd:Wg ds)(hb:Sy b)(he:Sy e)(hd:dR d)(hl:(MF cs ds b e d).length=ps.length)(hp:∀y∈(MF cs ds b e d).zip ps,U5 201 y.1.2.2 y.2){Q:PV->Prop}(q:Q (.bl true)):CJ [C2 cs b,C2 ds e, .tup [fr d.1,fr d.2], .tup (((MF cs ds b e d).zip ps).map CA)] Q:=by have f:(((MF cs ds b e d).zip ps).all λy=>dO y.1.2.2 y.2)=true:=ABs.mpr λy c=>(hp y c).sh;refine WG (N:=201) (λ{Q} q=>QZ (B:=120) (Lx (b:=b)) (Lx (b:=e)) (.inl rfl) (hb.bd.mono (by decide)) (he.bd.mono (by decide)) (hd.b1.mono (by decide)) (hd.b2.mono (by decide)) a.bd a.ris a.two (by have:=a.few;omega) pd.bd pd.ris pd.two (by have:=pd.few;omega) (by decide) q) (gm (by have:=a.few;omega) (by have:=pd.few;omega)) hl (λy c=>⟨(hp y c).s, ?_⟩) (by decide) (by rw[f];exact q);obtain⟨p,g,r,h,i⟩:=Sd (ACu (show (y.1,y.2)∈_ from c)).1;rw[i];exact(iW a pd (RU hb) (RU he) (iT hb he hd) p g r h).W
def HK {cs ds:zy C4}{b:T3}{d:Rat×Rat}{s:Rat}{x:T3}(h1:Ul cs s x)(h2:Ul ds s x)(hb:LX b)(hd:ZT d):DI cs ds b b d s s:=by have n:∀{x z:Rat},0<z->Iz x x z:=λa=>⟨by grind,by grind⟩;have:=hb.x0;have:=hb.y0;have:=hb.z0;have:=hd.p1;have:=hd.p2;exact⟨x,x,h1,h2,⟨by grind,by grind⟩,n (by show 0<d.1+(b.1+b.1);grind),n (by show 0<d.1+(b.1+b.1);grind),n (by show 0<d.2+(b.2.1+b.2.1);grind)⟩
def Dd.beg {cs:zy C4}{f t:Rat}(h:Dd cs f t):∃x,Ul (CD cs f t) f x:=by obtain⟨q,a,b,k2⟩:=KD (s:=f) (Dd.len (cs:=cs) (f:=f) (t:=t)).1 (l:=sp cs t) (by unfold CD;rw[<-ACO];exact List.getLast?_concat) AAU h.ft;exact⟨_,q,a,b,k2,rfl⟩
def Xx {cs ds:zy C4}{b e:T3}{d:Rat×Rat}(a:Wg cs)(pd:Wg ds)(hb:Sy b)(he:Sy e)(hd:dR d)(h:∃s t,DI cs ds b e d s t){Q:PV->Prop}(q:∀z,Q (.tup (.str "meet" :: z))):BW [C2 cs b,C2 ds e, .tup [fr d.1,fr d.2]] Q:=
 RX a pd hb he hd (λc _ _ _=>by
  obtain⟨s,t,h⟩:=h;exact absurd h (c s t)) (λs t _ _ _=>q _)
def iD {X Y Z:BA->Prop}{Q:PV->Prop}{cs ds:zy C4}{b e:T3}{d:Rat×Rat}{W:String}{i:zy PV}{j k l m n o p r c a:zt AV}(u:Wg cs)(pd:Wg ds)(hb:Sy b)(he:Sy e)(hd:dR d)(mono:Str.ofString W=Str.ofString "meet" ->∃s t,DI cs ds b e d s t)(f:∀a,X [j,k,l,m,n,o,some (.val (.tup (.str W::i))),some (.val (.tup [C2 cs b,C2 ds e, .tup [fr d.1,fr d.2]])),p,r,c,a]):Io {nx:=X,rt:=Q,bk:=Y,ct:=Z} [j,k,l,m,n,o,some (.val (.tup (.str W::i))),some (.val (.tup [C2 cs b,C2 ds e, .tup [fr d.1,fr d.2]])),p,r,c,a] :=by
 have ne:Str.ofString "apart" ≠Str.ofString "meet" :=by decide
 ac_rfl;refine RX u pd hb he hd (λv ps hl hp=> ?_) (λs t mt bs bt=> ?_)
 .have g:¬Str.ofString W=Str.ofString "meet" :=λz=>by obtain⟨s,t,h⟩:=mono z;exact v s t h
  ac_rfl;all_goals first
   | (rename_i z _;exact absurd z g)
   | (rename_i z;exact absurd z g)
   | skip
  refine lH u pd hb he hd hl hp ?_;ac_rfl;exact f _
 .ac_rfl;all_goals exact f _
def av (ns:zy Int)(hn:ns.length<=63):EO [.scr ns] λx=>x= .bl true:=by
 apply UR;ac_rfl;refine W0 (λi τ=>∃z:zy (zt AV),z.length=11/\τ=some (.val (.scr ns))::z) ?_ ?_ ⟨_,rfl,rfl⟩
 .rintro τ ⟨z,K,rfl⟩;rfl
 .rintro i hi τ R hR ⟨z,K,rfl⟩;obtain⟨z1,z2,z3,z4,z5,z6,A,L,z9,J,a,rfl⟩:∃z1 z2 z3 z4 z5 z6 A L z9 J a,z= [z1,z2,z3,z4,z5,z6,A,L,z9,J,a] :=by
   match z,K with
   | [_,_,_,_,_,_,_,_,_,_,_],_=>exact⟨_,_,_,_,_,_,_,_,_,_,_,rfl⟩
  have again:∀z:zy (zt AV),z.length=11->R (some (.val (.scr ns))::z):=λz K=>hR _ ⟨z,K,rfl⟩;clear hR;ac_rfl;refine p7 λcs ds b e v pd hb he=> ?_;ac_rfl;refine d4 λd hd=> ?_;ac_rfl;refine Uj hb λc hc p=> ?_;ac_rfl;refine Uj he λg M u=> ?_;ac_rfl;rename_i k P Q;refine pO P Q hd.b1 ?_;ac_rfl;rename_i j j0 j1;refine pO j0 j1 hd.b2 ?_;have kq:∀{k:Int},0<=k->k<2->Bd 8 ((k:Rat)/2)/\0<=(k:Rat)/2/\Mul 6 3 ((k:Rat)/2):=λ{k} P Q=>by
   have cs:k=0\/k=1:=by omega
   rcases cs with rfl|rfl
   .exact ⟨QV,by decide +kernel, .mk' (k:=0) (by decide) (by decide +kernel) (by decide)⟩
   .exact ⟨QV,by decide +kernel, .mk' (k:=3) (by decide) (by decide +kernel) (by decide)⟩
  obtain⟨u1,u2,u3⟩:=kq P Q;obtain⟨w1,w2,w3⟩:=kq j0 j1;have N:dR (d.1+(k:Rat)/2,d.2+(j:Rat)/2):=⟨(hd.b1.add u1).mono (by decide),(hd.b2.add w1).mono (by decide),(hd.m1.add u3).mono (by decide),(hd.m2.add w3).mono (by decide)⟩;have C:d.1<=d.1+(k:Rat)/2/\d.2<=d.2+(j:Rat)/2:=⟨by grind,by grind⟩;generalize d.1+(k:Rat)/2=f1 at *;generalize d.2+(j:Rat)/2=f2 at *;ac_rfl;refine RX v.pp pd.pp (LX.w hb) (LX.w he) (ZT.w hd) (λno ps _ _=> ?_) (λs t mt bs bt=> ?_)
  .generalize PV.tup (((MF cs ds b e d).zip ps).map CA)=pap;have mono:∀{l m:T3} {d':Rat×Rat},b.1<=l.1->b.2.1<=l.2.1->b.2.2<=l.2.2->e.1<=m.1->e.2.1<=m.2.1->e.2.2<=m.2.2->d.1<=d'.1->d.2<=d'.2->Str.ofString "apart" =Str.ofString "meet" ->∃s t,DI cs ds l m d' s t:=λ_ _ _ _ _ _ _ _ z=>absurd z (by decide);ac_rfl;have n:∀x∈ [PV.tup [.tup [A8 cs,Kq c],C2 ds e, .tup [fr d.1,fr d.2]], .tup [C2 cs b, .tup [A8 ds,Kq g], .tup [fr f1,fr f2]], .tup [.tup [A8 cs,Kq c], .tup [A8 ds,Kq g], .tup [fr f1,fr f2]]],∃l m d',x= .tup [C2 cs l,C2 ds m, .tup [fr d'.1,fr d'.2]] /\Sy l/\Sy m/\dR d'/\(Str.ofString "apart" =Str.ofString "meet" ->∃s t,DI cs ds l m d' s t):=by
    intro x hx;simp only[AAF,AAj,AAk] at hx;rcases hx with rfl|rfl|rfl
    .exact ⟨c,e,d,rfl,hc,LX.w he,ZT.w hd,mono p.1 p.2.1 p.2.2 AAU AAU AAU AAU AAU⟩
    .exact ⟨b,g,(f1,f2),rfl,LX.w hb,M,N,mono AAU AAU AAU u.1 u.2.1 u.2.2 C.1 C.2⟩
    .exact ⟨c,g,(f1,f2),rfl,hc,M,N,mono p.1 p.2.1 p.2.2 u.1 u.2.1 u.2.2 C.1 C.2⟩
   generalize [PV.tup [.tup [A8 cs,Kq c],C2 ds e, .tup [fr d.1,fr d.2]], .tup [C2 cs b, .tup [A8 ds,Kq g], .tup [fr f1,fr f2]], .tup [.tup [A8 cs,Kq c], .tup [A8 ds,Kq g], .tup [fr f1,fr f2]]] =L3 at *;rw[<-List.map_id L3];refine CS id (λS vs τ=>∃A a:zt AV,τ= [some (.val (.scr ns)),some (.val (.int (0+i))),some (.val .tape),some (.val (.tup [fr d.1,fr d.2])),some (.val (.lst [.tup [A8 cs,Kq c], .tup [A8 ds,Kq g]])),some (.val (.tup [fr f1,fr f2])),some (.val (.tup [.str "apart",pap])),A,L,some (.val (C2 cs b)),some (.val (C2 ds e)),a]) ?_ ?_ ⟨_,_,rfl⟩;rotate_left
   .rintro S x vs ex τ R' T ⟨A,a,rfl⟩;obtain⟨l,m,d',rfl,U,W,X,Y⟩:=n x (by rw[<-ex];simp);exact iD v.pp pd.pp U W X Y λa=>T _ ⟨_,a,rfl⟩
   rintro τ ⟨A,a,rfl⟩;clear mono n;repeat' array_get_dec
   refine Fu v λf t D Z E=> ?_;have p1:=Dd.pp v D Z E;repeat' array_get_dec
   refine Fu pd λB t' o F G=> ?_;have O:=Dd.pp pd o F G;have H:∃s t,DI cs cs b b d s t:=by obtain⟨x,h1⟩:=Dd.beg D;have h2:=((D.at f x).mp h1).1;exact⟨f,f,HK h2 h2 hb hd⟩
   have I:∃s t,DI (CD ds B t') ds e e d s t:=by obtain⟨x,h1⟩:=Dd.beg o;exact⟨B,B,HK h1 ((o.at B x).mp h1).1 he hd⟩
   repeat' array_get_dec
   refine RX (b:=b) (e:=e) p1 O (LX.w hb) (LX.w he) (ZT.w hd) (λ_ qs _ _=> ?_) (λs' t'' h _ _=> ?_);rotate_left
   .exfalso;obtain⟨x,y,h1,h2,r⟩:=h;exact no s' t'' ⟨x,y,((D.at _ _).mp h1).1,((o.at _ _).mp h2).1,r⟩
   repeat' array_get_dec
   refine Xx v.pp v.pp (LX.w hb) (LX.w hb) (ZT.w hd) H λz=> ?_;repeat' array_get_dec
   refine Xx (b:=e) O pd.pp (LX.w he) (LX.w he) (ZT.w hd) I λz=> ?_;repeat' array_get_dec
   exact again _ rfl
  .
   have mono:∀{l m:T3} {d':Rat×Rat},b.1<=l.1->b.2.1<=l.2.1->b.2.2<=l.2.2->e.1<=m.1->e.2.1<=m.2.1->e.2.2<=m.2.2->d.1<=d'.1->d.2<=d'.2->Str.ofString "meet" =Str.ofString "meet" ->∃s t,DI cs ds l m d' s t:=λ{l m d'} a1 a2 a3 a4 a5 a6 a7 a8 _=>⟨s,t,Ys mt a3 a6 (by show d.1+(b.1+e.1)<=d'.1+(l.1+m.1);grind) (by show d.1+(b.1+e.1)<=d'.1+(l.1+m.1);grind) (by show d.2+(b.2.1+e.2.1)<=d'.2+(l.2.1+m.2.1);grind)⟩;ac_rfl;have n:∀x∈ [PV.tup [.tup [A8 cs,Kq c],C2 ds e, .tup [fr d.1,fr d.2]], .tup [C2 cs b, .tup [A8 ds,Kq g], .tup [fr f1,fr f2]], .tup [.tup [A8 cs,Kq c], .tup [A8 ds,Kq g], .tup [fr f1,fr f2]]],∃l m d',x= .tup [C2 cs l,C2 ds m, .tup [fr d'.1,fr d'.2]] /\Sy l/\Sy m/\dR d'/\(Str.ofString "meet" =Str.ofString "meet" ->∃s t,DI cs ds l m d' s t):=by
    intro x hx;simp only[AAF,AAj,AAk] at hx;rcases hx with rfl|rfl|rfl
    .exact ⟨c,e,d,rfl,hc,LX.w he,ZT.w hd,mono p.1 p.2.1 p.2.2 AAU AAU AAU AAU AAU⟩
    .exact ⟨b,g,(f1,f2),rfl,LX.w hb,M,N,mono AAU AAU AAU u.1 u.2.1 u.2.2 C.1 C.2⟩
    .exact ⟨c,g,(f1,f2),rfl,hc,M,N,mono p.1 p.2.1 p.2.2 u.1 u.2.1 u.2.2 C.1 C.2⟩
   generalize [PV.tup [.tup [A8 cs,Kq c],C2 ds e, .tup [fr d.1,fr d.2]], .tup [C2 cs b, .tup [A8 ds,Kq g], .tup [fr f1,fr f2]], .tup [.tup [A8 cs,Kq c], .tup [A8 ds,Kq g], .tup [fr f1,fr f2]]] =L3 at *;rw[<-List.map_id L3];refine CS id (λS vs τ=>∃A a:zt AV,τ= [some (.val (.scr ns)),some (.val (.int (0+i))),some (.val .tape),some (.val (.tup [fr d.1,fr d.2])),some (.val (.lst [.tup [A8 cs,Kq c], .tup [A8 ds,Kq g]])),some (.val (.tup [fr f1,fr f2])),some (.val (.tup [.str "meet",fr s,fr t])),A,L,some (.val (C2 cs b)),some (.val (C2 ds e)),a]) ?_ ?_ ⟨_,_,rfl⟩;rotate_left
   .rintro S x vs ex τ R' T ⟨A,a,rfl⟩;obtain⟨l,m,d',rfl,U,W,X,Y⟩:=n x (by rw[<-ex];simp);exact iD v.pp pd.pp U W X Y λa=>T _ ⟨_,a,rfl⟩
   rintro τ ⟨A,a,rfl⟩;clear mono n;repeat' array_get_dec
   refine Fu v λf t D Z E=> ?_;have p1:=Dd.pp v D Z E;repeat' array_get_dec
   refine Fu pd λB t' o F G=> ?_;have O:=Dd.pp pd o F G;have H:∃s t,DI cs cs b b d s t:=by obtain⟨x,h1⟩:=Dd.beg D;have h2:=((D.at f x).mp h1).1;exact⟨f,f,HK h2 h2 hb hd⟩
   have I:∃s t,DI (CD ds B t') ds e e d s t:=by obtain⟨x,h1⟩:=Dd.beg o;exact⟨B,B,HK h1 ((o.at B x).mp h1).1 he hd⟩
   repeat' array_get_dec
   refine Xx v.pp v.pp (LX.w hb) (LX.w hb) (ZT.w hd) H λz=> ?_;repeat' array_get_dec
   refine Xx (b:=e) O pd.pp (LX.w he) (LX.w he) (ZT.w hd) I λz=> ?_;repeat' array_get_dec
   exact again _ rfl
end PL.K88
section
namespace K88
open PySem L2 PL PL.K88 PyProof.Rows
open PL.K31
open PyProof.Rows
def C3 {N Q:zy Str}{s:Scope}(a:s.kind= .function:=by rfl)(b:s.isCoroutine=false:=by rfl)(c:s.isGenerator=false:=by rfl)(d:N.Nodup:=by decide +kernel)(e:N.take Q.length=Q:=by rfl)(f:∀x∈Q,s.names.lookup x=some .local\/s.names.lookup x=some .cell:=by decide +kernel)(g:∀y∈s.names,y.2≠ .free:=by decide +kernel):DS N Q s:=⟨a,b,c,d,e,f,g⟩
section
variable (P:km)(w:kj)(K:AAB)(Z:Str->zt zx)(Y:ki)(n:Nat)
abbrev Bk:=Has P w K Z Y n "_law_draw" ["_law_tape_here","_law_many"] (CH K 2 A2)
abbrev RJ:=Has P w K Z Y n "_law_apart" ["_law_tape_here"] (CH K 1 F__law_apart)
abbrev DK:=Has P w K Z Y n "_law_part" ["_law_top","_law_bottom"] (CH K 2 BB)
abbrev VW:=Has P w K Z Y n "_law_off" ["_law_one","_law_other"] (CH K 2 Di)
abbrev NU:=Has P w K Z Y n "_law_product" ["_law_one","_law_other"] (CH K 2 CV)
abbrev Ed:=Has P w K Z Y n "_law_sum" ["_law_one","_law_other"] (CH K 2 BQ)
abbrev Ee:=Has P w K Z Y n "before" ["one","other"] (CH K 2 BD)
abbrev JK:=Has P w K Z Y n "common" ["one","other"] (CH K 2 EV)
abbrev NW:=Has P w K Z Y n "part" ["top","bottom"] (CH K 2 Fh)
abbrev RM:=Has P w K Z Y n "minus" ["one","other"] (CH K 2 Cm)
abbrev Va:=Has P w K Z Y n "over" ["one","other"] (CH K 2 GU)
abbrev NX:=Has P w K Z Y n "plus" ["one","other"] (CH K 2 EB)
abbrev W6:=Has P w K Z Y n "times" ["one","other"] (CH K 2 Fi)
abbrev NY:=Has P w K Z Y n "spot_between" ["former","latter","m"] (CH K 3 DR)
abbrev Yf:=Has P w K Z Y n "spot_at" ["plan","m"] (CH K 2 HB)
abbrev Te:=Has P w K Z Y n "corner_at" ["plan","m"] (CH K 2 D3)
abbrev JL:=Has P w K Z Y n "corners_between" ["plan","begin","end"] (CH K 3 CP)
abbrev YZ:=Has P w K Z Y n "greater" ["one","other"] (CH K 2 DP)
abbrev aR:=Has P w K Z Y n "lesser" ["one","other"] (CH K 2 Iv)
abbrev Yd:=Has P w K Z Y n "part_of" ["plan","begin","end"] (CH K 3 HA)
abbrev NR:=Has P w K Z Y n "_law_part_by" ["_law_tape_here","_law_plan_here"] (CH K 2 CU)
abbrev Td:=Has P w K Z Y n "_law_tape" ["_law_script","_law_k"] (CH K 2 M1)
abbrev O4:=Has P w K Z Y n "_law_bounds" ["_law_tape_here"] (CH K 1 CI)
abbrev JJ:=Has P w K Z Y n "_law_place" ["_law_tape_here"] (CH K 1 A1)
abbrev Tc:=Has P w K Z Y n "_law_span" ["_law_tape_here"] (CH K 1 Eu)
abbrev Ta:=Has P w K Z Y n "_law_plan" ["_law_tape_here"] (CH K 1 D2)
abbrev VX:=Has P w K Z Y n "_law_two" ["_law_tape_here"] (CH K 1 EU)
abbrev RK:=Has P w K Z Y n "_law_wider" ["_law_tape_here","_law_bounds_here"] (CH K 2 Ck)
abbrev aT:=Has P w K Z Y n "summed" ["one","many","other","more"] (CH K 4 GV)
abbrev P4:=Has P w K Z Y n "crossed" ["low","high","at"] (CH K 3 EL)
abbrev VZ:=Has P w K Z Y n "is_never" ["plane"] (CH K 1 Dk)
abbrev P6:=Has P w K Z Y n "turn_of" ["plane","at"] (CH K 2 DH)
abbrev RL:=Has P w K Z Y n "is_tighter" ["plane","other","at"] (CH K 3 DQ)
abbrev NZ:=Has P w K Z Y n "tightest" ["planes","at","sign"] (CH K 3 CZ)
abbrev VY:=Has P w K Z Y n "fault_in" ["planes","at"] (CH K 2 Dj)
abbrev NV:=Has P w K Z Y n "negative" ["number"] (CH K 1 CY)
abbrev Ti:=Has P w K Z Y n "side_form" ["wedge","number"] (CH K 2 BK)
abbrev Tj:=Has P w K Z Y n "time_form" ["wedge","number"] (CH K 2 D8)
abbrev P5:=Has P w K Z Y n "form_of" ["wedge","number"] (CH K 2 EM)
abbrev aS:=Has P w K Z Y n "placed" ["plane","at","value"] (CH K 3 D6)
abbrev Li:=Has P w K Z Y n "shared_bottom" ["numbers"] (CH K 1 CB)
abbrev Vb:=Has P w K Z Y n "plane_of" ["form","strict","number"] (CH K 3 EW)
abbrev W7:=Has P w K Z Y n "whole" ["n"] (CH K 1 HC)
abbrev Na:=Has P w K Z Y n "told_weights" ["weights"] (CH K 1 Ca)
abbrev Vc:=Has P w K Z Y n "range_in" ["planes","at"] (CH K 2 EX)
abbrev Ve:=Has P w K Z Y n "value_in" ["planes","at"] (CH K 2 Cc)
abbrev JO:=Has P w K Z Y n "weights_by_time" ["wedge"] (CH K 1 Bj)
abbrev Yg:=U3 P w K Z Y n "without" ["planes","at","most"] 2 (CH K 3 EQ)
abbrev Yb:=Has P w K Z Y n "meet_in" ["wedge"] (CH K 1 FN)
abbrev Lh:=Has P w K Z Y n "piece_between" ["former","latter"] (CH K 2 Bh)
abbrev Tg:=Has P w K Z Y n "pieces_of" ["plan"] (CH K 1 DG)
abbrev Ye:=Has P w K Z Y n "size_of" ["apart","side"] (CH K 2 Cn)
abbrev Vd:=Has P w K Z Y n "sizes_of" ["one","other","apart"] (CH K 3 EY)
abbrev LA:=Has P w K Z Y n "wedges_of" ["one","other","apart"] (CH K 3 B5)
abbrev Yc:=Has P w K Z Y n "meet_of" ["one","other","apart"] (CH K 3 BW)
abbrev Fp:=Has P w K Z Y n "is_list_of" ["thing","many"] (CH K 2 B7)
abbrev ID:=Has P w K Z Y n "is_whole" ["thing"] (CH K 1 Bp)
abbrev Ya:=Has P w K Z Y n "is_part" ["thing"] (CH K 1 EN)
abbrev Tf:=Has P w K Z Y n "is_weight" ["thing"] (CH K 1 D5)
abbrev O5:=Has P w K Z Y n "are_weights" ["thing"] (CH K 1 C0)
abbrev aQ:=Has P w K Z Y n "is_row" ["thing","i","j"] (CH K 3 D4)
abbrev O7:=Has P w K Z Y n "weighed_sum" ["forms","weights","at"] (CH K 3 Bq)
abbrev Th:=Has P w K Z Y n "shows_row" ["wedge","pairs"] (CH K 2 D7)
abbrev O6:=Has P w K Z Y n "shows_apart" ["one","other","apart","paper"] (CH K 4 CJ)
end
section
variable {P:km}{w:kj}{K:AAB}{Z:Str->zt zx}{Y:ki}{n m:Nat}{f:zu}{U:FuncData}
theorem JZ:DS ["_law_tape_here","_law_many","_law_once","_law_found"] ["_law_tape_here","_law_many"] (As E1):=C3
theorem Ra (F:We K "_law_draw" "_law_draw" E1 f U):Dp P w K Z Y Mr (n+1) f U ["_law_tape_here","_law_many"] (CH K 2 A2):=by
 have k:=JZ.nd;refine F.ok JZ (λvs H Q E h=> ?_) (λu A outer s H vs Q E J h=> ?_)
 .obtain ⟨T,M,xs,v,_,_,r,hl,_⟩:=h;rw[r.length,hl] <;> rfl
 obtain⟨T,M,xs,v,va,_,r,hl,hF,hQ⟩:=h;unfold A2 at hF;split at hF <;> first | exact hF.elim|skip
 rename_i m;obtain⟨⟨m0,m1⟩,hF⟩:=hF;cases r with
 | cons r j=>
 cases j with
 | cons y j=>
 cases j;cases y;cases r with
 | tape tp=>
 rename_i p;obtain⟨d,x,hp,l,z,B⟩:=va.tp p tp;refine⟨_,(Cf (cB (Ry iE (LF Ex (pv 0) BH (λ_ _=>rfl)) BH (Bg _)) (Cf (IJ (i:=3) k rfl (Or.inl rfl) (B0 Ft (LF Ex (pv 0) BH (λ_ _=>rfl)) (pv 1)))
  (Cf (Ru (B0 bM (LF Ex (pv 0) BH (λ_ _=>rfl)) (pv 1)) (V0 (pv 0) BH Jb))
  (HI (Rv (pv 3))))) Rx)
  (Cf (Ru (B0 Ft (B0 II (B0 HF (LF Ex (pv 0) BH (λ_ _=>rfl)) BH) BH) BH) (V0 (pv 0) BH Jb))
  (Cf (IJ (i:=2) k rfl (Or.inl rfl) (B0 Ft (B0 HF (LF Ex (pv 0) BH (λ_ _=>rfl)) (B0 II (B0 Ft (LF Ex (pv 0) BH (λ_ _=>rfl)) BH) BH)) BH))
  (HI (Rv (B0 Ft (B0 Ft (B0 HF (pv 2) (B0 II (B0 Ft (pv 2) BH) BH)) BH) (pv 1))))))), ?_⟩
 have e:∀(r d' g:Int),0<=r->r<m->0<=d'->0<=g->g<2147483647->Q (.int r) (upd H p (.lst [.int d', .int g])):=λr d' g C D a b c=>
  hQ _ (.int r) T _ (cx va.tp tp a b c) (.int r) (hF r C D)
 refine⟨_,rfl,p,_,_,_,rfl,rfl,FO.of hp,rfl,_,_,rfl,rfl,_,rfl, ?_⟩;refine nz (λc=> ?_) (λc=> ?_)
 .refine ⟨_,rfl,p,_,_,_,rfl,rfl,FO.of hp,rfl,_,rfl,_,_,rfl,rfl,m0, ?_⟩;refine⟨_,rfl,p,_,_,_,rfl,rfl,FO.of hp,rfl,_,rfl,_,_,rfl,rfl,⟨m0,by omega⟩, ?_⟩;refine⟨_,rfl,p,_,_,_,rfl,rfl,hp,rfl, ?_⟩;exact⟨_,rfl,e _ _ _ (ACk _ (by omega)) (ACl _ m0) (Int.ediv_nonneg l (by omega)) z B⟩
 .refine ⟨_,rfl,p,_,_,_,rfl,rfl,FO.of hp,rfl,_,_,rfl,rfl, .inl (.inr ⟨by decide,by decide⟩),_,_,rfl,rfl,_,_,rfl,rfl,(show (0:Int)<2147483647 by decide), ?_⟩;refine⟨_,rfl,p,_,_,_,rfl,rfl,hp,rfl, ?_⟩;have o:0<=(x*48271+12345) % 2147483647:=ACk _ (by decide);have y1:(x*48271+12345) % 2147483647<2147483647:=ACl _ (by decide);have t:upd H p (.lst ([V.int d,V.int x].set (Int.toNat 1) (V.int ((x*48271+12345) % 2147483647)))) p=some (.lst [.int d, .int ((x*48271+12345) % 2147483647)]):=Aj;have G:0<=(x*48271+12345) % 2147483647*((x*48271+12345) % 2147483647 % 1009+3) % 2147483629:=ACk _ (by decide);have I:(x*48271+12345) % 2147483647*((x*48271+12345) % 2147483647 % 1009+3) % 2147483629<2147483629:=ACl _ (by decide);refine⟨_,rfl,p,_,_,_,rfl,rfl,FO.of t,rfl,_,rfl,p,_,_,_,rfl,rfl,FO.of t,rfl,_,_,rfl,rfl,(show (0:Int)<1009 by decide),_,_,rfl,rfl,_,_,rfl,rfl, .inl (.inl (OO o y1)),_,_,rfl,rfl,(show (0:Int)<2147483629 by decide), ?_⟩;refine⟨_,rfl,_,rfl,_,_,rfl,rfl,(show (0:Int)<997 by decide),_,_,rfl,rfl,_,_,rfl,rfl, .inl (.inl (OO G (Int.lt_trans I (by decide)))),_,_,rfl,rfl,(show (0:Int)<998244353 by decide),_,rfl,_,_,rfl,rfl,m0, ?_⟩;exact e _ _ _ (ACk _ (by omega)) (ACl _ m0) l o y1
theorem DJ {P:km}{w:kj}{K:AAB}{Z:Str->zt zx}{Y:ki}{x q:Str}{st:Stmt}{f:zu}{U:FuncData}{N:zy Str}{k n:Nat}{b:AS}(F:We K x q st f U)(S:DS N (N.take n) (As st))(a:n=(N.take n).length)(h:∀(v:zx) (A:kf) (o:zy Env) (s:zw) (H:Hp) (E:XK),Room k (A.deeper (envOfC q (As st) s.heap.objs.size f v))->N.Nodup->YA (O2 Mr P w K Z Y N q (As st) f v A o s H E).nox (B8 st) b):Dp P w K Z Y Mr (k+1) f U (N.take n) (CH K n (Ak N.length b)):=
 d8 F S a λv A o s H E r=>h v A o s H E r S.nd
abbrev Z1 (K:AAB)(x:Str)(s:Stmt)(f:zu)(d:FuncData):=We K x x s f d
abbrev Z2 (P:km)(w:kj)(K:AAB)(Z:Str->zt zx)(b:ki)(n:Nat)(f:zu)(d:FuncData)(N:zy Str)(k:Nat)(F:AF):=Dp P w K Z b Mr (n+1) f d (N.take k) (CH K k F)
theorem PB (F:Z1 K "_law_apart" Fw f U)(a:Bk P w K Z Y n):Z2 P w K Z Y n f U ["_law_tape_here","_law_some"] 1 F__law_apart:=DJ F C3 rfl λ_ _ _ _ _ _ b c=>(AM (C7 1 c (EI (CO (BN (AY (Ap AH AH)) (BN (AY (Ap AH AH)) (DL (AY (Ap AH AH)) (AY (Ap AH AH)) (AY (Ap AH AH)))))))) (AR (AW (AY (Ap (AU (AJ 1) (AK a b rfl (Ap (AJ 0) AH))) (AU (AJ 1) (AK a b rfl (Ap (AJ 0) AH))))))))
theorem Rb (F:Z1 K "_law_part" Gk f U)(b:Z "abs" =none)(c:Z "int" =none):Z2 P w K Z Y n f U ["_law_top","_law_bottom","_law_sign","_law_one","_law_other"] 2 BB:=DJ F C3 rfl λ_ _ _ _ _ _ _ a=>(AM (SY (i:=3) (j:=4) rfl a rfl rfl (by decide) rfl rfl (Ap (A4 OE rfl b boot_abs (Be (AJ 0))) (A4 OE rfl b boot_abs (Be (AJ 1)))) rfl) (AM (OQ AAd (Fd Gz (AJ 4) AH) (AR (SY (i:=3) (j:=4) rfl a rfl rfl (by decide) rfl rfl (Ap (AJ 4) (Ah WK (AJ 3) (AJ 4))) rfl))) (AM (C7 2 a (Ah Dc AH (Ah A7 AH (BX k9 rfl c boot_int (Be (CN FZ (AJ 1) AH (Bg _))))))) (AR (AW (AY (Ap (Ah E3 (Ah A7 (AJ 2) (AJ 0)) (AJ 3)) (Ah E3 (Ah A7 (AJ 2) (AJ 1)) (AJ 3)))))))))
theorem Tz (F:Z1 K "_law_off" IK f U)(a:DK P w K Z Y n):Z2 P w K Z Y n f U ["_law_one","_law_other"] 2 Di:=DJ F C3 rfl λ_ _ _ _ _ _ b _=>(AR (AW (AK a b rfl (Ap (Ah Dc (Ah A7 (AU (AJ 0) AH) (AU (AJ 1) AH)) (Ah A7 (AU (AJ 1) AH) (AU (AJ 0) AH))) (Ah A7 (AU (AJ 0) AH) (AU (AJ 1) AH))))))
theorem Lm (F:Z1 K "_law_product" Ei f U)(a:DK P w K Z Y n):Z2 P w K Z Y n f U ["_law_one","_law_other"] 2 CV:=DJ F C3 rfl λ_ _ _ _ _ _ b _=>(AR (AW (AK a b rfl (Ap (Ah A7 (AU (AJ 0) AH) (AU (AJ 1) AH)) (Ah A7 (AU (AJ 0) AH) (AU (AJ 1) AH))))))
theorem T0 (F:Z1 K "_law_sum" IL f U)(a:DK P w K Z Y n):Z2 P w K Z Y n f U ["_law_one","_law_other"] 2 BQ:=DJ F C3 rfl λ_ _ _ _ _ _ b _=>(AR (AW (AK a b rfl (Ap (Ah Bo (Ah A7 (AU (AJ 0) AH) (AU (AJ 1) AH)) (Ah A7 (AU (AJ 1) AH) (AU (AJ 0) AH))) (Ah A7 (AU (AJ 0) AH) (AU (AJ 1) AH))))))
theorem Yw (F:Z1 K "before" N7 f U):Z2 P w K Z Y n f U ["one","other"] 2 BD:=DJ F C3 rfl λ_ _ _ _ _ _ _ _=>(AR (AW (CN FZ (Ah A7 (AU (AJ 0) AH) (AU (AJ 1) AH)) (Ah A7 (AU (AJ 1) AH) (AU (AJ 0) AH)) (Bg _))))
theorem Yx (F:Z1 K "common" N8 f U):Z2 P w K Z Y n f U ["one","other"] 2 EV:=DJ F C3 rfl λ_ _ _ _ _ _ a b=>(AM (OQ AAd (Fd (LG a) (AJ 1) AH) (AR (SY (i:=0) (j:=1) rfl b rfl rfl (by decide) rfl rfl (Ap (AJ 1) (Ah WK (AJ 0) (AJ 1))) rfl))) (AR (AW (AJ 0))))
theorem fC (F:Z1 K "part" WA f U)(c:JK P w K Z Y n)(a:Z "abs" =none):Z2 P w K Z Y n f U ["top","bottom","shared"] 2 Fh:=DJ F C3 rfl λ_ _ _ _ _ _ d b=>(AM (C7 2 b (AK c d rfl (Ap (A4 OE rfl a boot_abs (Be (AJ 0))) (A4 OE rfl a boot_abs (Be (AJ 1)))))) (AM (BG (Fd FZ (AJ 1) AH) (AR (C7 2 b (F3 (AJ 2)))) Az) (AR (AW (AY (Ap (Ah E3 (AJ 0) (AJ 2)) (Ah E3 (AJ 1) (AJ 2))))))))
theorem bE (F:Z1 K "minus" SD f U)(a:NW P w K Z Y n):Z2 P w K Z Y n f U ["one","other"] 2 Cm:=DJ F C3 rfl λ_ _ _ _ _ _ b _=>(AR (AW (AK a b rfl (Ap (Ah Dc (Ah A7 (AU (AJ 0) AH) (AU (AJ 1) AH)) (Ah A7 (AU (AJ 1) AH) (AU (AJ 0) AH))) (Ah A7 (AU (AJ 0) AH) (AU (AJ 1) AH))))))
theorem fB (F:Z1 K "over" V9 f U)(a:NW P w K Z Y n):Z2 P w K Z Y n f U ["one","other"] 2 GU:=DJ F C3 rfl λ_ _ _ _ _ _ b _=>(AR (AW (AK a b rfl (Ap (Ah A7 (AU (AJ 0) AH) (AU (AJ 1) AH)) (Ah A7 (AU (AJ 0) AH) (AU (AJ 1) AH))))))
theorem fD (F:Z1 K "plus" WB f U)(a:NW P w K Z Y n):Z2 P w K Z Y n f U ["one","other"] 2 EB:=DJ F C3 rfl λ_ _ _ _ _ _ b _=>(AR (AW (AK a b rfl (Ap (Ah Bo (Ah A7 (AU (AJ 0) AH) (AU (AJ 1) AH)) (Ah A7 (AU (AJ 1) AH) (AU (AJ 0) AH))) (Ah A7 (AU (AJ 0) AH) (AU (AJ 1) AH))))))
theorem bF (F:Z1 K "times" SH f U)(a:NW P w K Z Y n):Z2 P w K Z Y n f U ["one","other"] 2 Fi:=DJ F C3 rfl λ_ _ _ _ _ _ b _=>(AR (AW (AK a b rfl (Ap (Ah A7 (AU (AJ 0) AH) (AU (AJ 1) AH)) (Ah A7 (AU (AJ 0) AH) (AU (AJ 1) AH))))))
theorem Ln (F:Z1 K "spot_between" Ej f U)(c:RM P w K Z Y n)(d:Va P w K Z Y n)(e:NX P w K Z Y n)(g:W6 P w K Z Y n)(h:Z "tuple" =none)(j:Z "zip" =none):Z2 P w K Z Y n f U ["former","latter","m","share"] 3 DR:=by
 have b:(["low","high","share"] :zy Str).Nodup:=by decide +kernel
 exact DJ F C3 rfl λ_ _ _ _ _ _ a k=>(AM (FH (i:=3) k rfl (Or.inr rfl) (AK d a rfl (Ap (AK c a rfl (Ap (AJ 2) (AU (AJ 0) AH))) (AK c a rfl (Ap (AU (AJ 1) AH) (AU (AJ 0) AH)))))) (AR (AW (BX CF rfl h AAq (Be (EI (Cq rfl (cT rfl j (Ap (OI (AJ 0) (lQ AH) lP) (OI (AJ 1) (lQ AH) lP))) (Br (own:=2) (ix:= [3]) (N:= ["low","high" ,"share" ]) rfl rfl rfl rfl rfl rfl (λ_ _ _ _ _ _=>(KZ (n:=2) rfl (CG (Ka 0 b) (CG (Ka 1 b) HL)))) (λ_ _ _ _ _ _=>Bn) (λ_ _ _ _ _ _=>(AK e a rfl (Ap (AJ 0) (AK g a rfl (Ap (AJ 2) (AK c a rfl (Ap (AJ 1) (AJ 0))))))))))))))))
theorem Vx (F:Z1 K "spot_at" KS f U)(b:Ee P w K Z Y n)(c:NY P w K Z Y n)(d:Z "len" =none)(e:Z "range" =none):Z2 P w K Z Y n f U ["plan","m","at"] 2 HB:=DJ F C3 rfl λ_ _ _ _ _ _ a g=>(AM (BG (BM (AK b a rfl (Ap (AJ 1) (AU (AU (AJ 0) AH) AH)))) (AR (AW Cg)) Az) (AM (Ch AAd rfl (iO rfl e (Ap AH (A4 F1 rfl d ABA (Be (AJ 0))))) (Dt 2 g) (AR (BG (Cy (BM (AK b a rfl (Ap (AU (AU (AJ 0) (AJ 2)) AH) (AJ 1))))) (AR (AW (AK c a rfl (DL (AU (AJ 0) (Ah Dc (AJ 2) AH)) (AU (AJ 0) (AJ 2)) (AJ 1))))) Az))) (AR (AW Cg))))
theorem Rg (F:Z1 K "corner_at" Gq f U)(a:Yf P w K Z Y n):Z2 P w K Z Y n f U ["plan","m"] 2 D3:=DJ F C3 rfl λ_ _ _ _ _ _ b _=>(AR (AW (Ah Bo (AY (Be (AJ 1))) (AK a b rfl (Ap (AJ 0) (AJ 1))))))
theorem IG (F:Z1 K "corners_between" DY f U)(b:Ee P w K Z Y n)(d:Z "tuple" =none):Z2 P w K Z Y n f U ["plan","begin","end"] 3 CP:=by
 have a:(["corner","begin","end"] :zy Str).Nodup:=by decide +kernel
 exact DJ F C3 rfl λ_ _ _ _ _ _ c _=>(AR (AW (EI (Cq rfl (FG (AJ 0)) (Br (own:=1) (ix:= [1,2]) (N:= ["corner","begin" ,"end" ]) rfl rfl rfl rfl rfl rfl (λ_ _ _ _ _ _=>(Ka 0 a)) (λ_ _ _ _ _ _=>(MD (Je (Ko (BM (AK b c rfl (Ap (AJ 1) (AU (AJ 0) AH)))) (HM (BM (AK b c rfl (Ap (AU (AJ 0) AH) (AJ 2))))))))) (λ_ _ _ _ _ _=>(BX CF rfl d AAq (Be (AJ 0)))))))))
theorem Vr (F:Z1 K "greater" KL f U)(a:Ee P w K Z Y n):Z2 P w K Z Y n f U ["one","other"] 2 DP:=DJ F C3 rfl λ_ _ _ _ _ _ b _=>(AR (AW (QR (BM (AK a b rfl (Ap (AJ 0) (AJ 1)))) (AJ 1) (AJ 0))))
theorem Yz (F:Z1 K "lesser" OA f U)(a:Ee P w K Z Y n):Z2 P w K Z Y n f U ["one","other"] 2 Iv:=DJ F C3 rfl λ_ _ _ _ _ _ b _=>(AR (AW (QR (BM (AK a b rfl (Ap (AJ 1) (AJ 0)))) (AJ 1) (AJ 0))))
theorem Vv (F:Z1 K "part_of" KP f U)(d:Ee P w K Z Y n)(c:Te P w K Z Y n)(e:JL P w K Z Y n)(g:YZ P w K Z Y n)(h:aR P w K Z Y n)(i:Z "tuple" =none):Z2 P w K Z Y n f U ["plan","begin","end","first","last","inner"] 3 HA:=DJ F C3 rfl λ_ _ _ _ _ _ a b=>(AM (C7 3 b (AK g a rfl (Ap (AJ 1) (AU (AU (AJ 0) AH) AH)))) (AM (C7 4 b (AK h a rfl (Ap (AJ 2) (AU (AU (AJ 0) (F3 AH)) AH)))) (AM (BG (Cy (BM (AK d a rfl (Ap (AJ 3) (AJ 4))))) (AR (AW Cg)) Az) (AM (C7 5 b (AK e a rfl (DL (AJ 0) (AJ 3) (AJ 4)))) (AR (AW (BX CF rfl i AAq (Be (Ah Bo (Ah Bo (EI (CO (Be (AK c a rfl (Ap (AJ 0) (AJ 3)))))) (AJ 5)) (EI (CO (Be (AK c a rfl (Ap (AJ 0) (AJ 4)))))))))))))))
theorem Ll (F:Z1 K "_law_part_by" Eh f U)(c:Bk P w K Z Y n)(d:VW P w K Z Y n)(e:NU P w K Z Y n)(g:Ed P w K Z Y n)(h:Yd P w K Z Y n):Z2 P w K Z Y n f U ["_law_tape_here","_law_plan_here","_law_long","_law_begin","_law_first","_law_last"] 2 CU:=DJ F C3 rfl λ_ _ _ _ _ _ a b=>(AM (SY (i:=4) (j:=5) rfl b rfl rfl (by decide) rfl rfl (Ap (AU (AU (AJ 1) AH) AH) (AU (AU (AJ 1) (F3 AH)) AH)) rfl) (AM (C7 2 b (AK d a rfl (Ap (AJ 5) (AJ 4)))) (AM (C7 3 b (AK g a rfl (Ap (AJ 4) (AK e a rfl (Ap (AY (Ap (AK c a rfl (Ap (AJ 0) AH)) AH)) (AJ 2)))))) (AR (AW (AK h a rfl (DL (AJ 1) (AJ 3) (AK d a rfl (Ap (AJ 5) (AK e a rfl (Ap (AY (Ap (AK c a rfl (Ap (AJ 0) AH)) AH)) (AJ 2))))))))))))
theorem Ja:DS ["_law_script","_law_k","_law_cell","_law_digits"] ["_law_script","_law_k"] (As E2):=C3
theorem Rf (F:We K "_law_tape" "_law_tape" E2 f U)(j:Z "abs" =none)(o:Z "int" =none)(t:Z "len" =none):Dp P w K Z Y Mr (n+1) f U ["_law_script","_law_k"] (CH K 2 M1):=by
 have e:=Ja.nd;refine F.ok Ja (λvs H Q E h=> ?_) (λu A outer s H vs Q E z h=> ?_)
 .obtain ⟨T,M,xs,v,_,_,r,hl,_⟩:=h;rw[r.length,hl] <;> rfl
 obtain⟨T,M,xs,v,va,_,r,hl,hF,hQ⟩:=h;unfold M1 at hF;split at hF <;> first | exact hF.elim|skip
 rename_i ns k;obtain⟨⟨B,C⟩,hF⟩:=hF;cases r with
 | cons r g=>
 cases g with
 | cons x g=>
 cases g;cases x;obtain⟨a,rfl,l⟩:=cP r;refine⟨_,(Cf (IJ (i:=2) e rfl (Or.inl rfl) BH)
  (Cf (cB (Ry iF (pv 1) (Gg JE rfl t ABA (Bt (pv 0) ED)) (Bg _)) (HI (IJ (i:=2) e rfl (Or.inl rfl) (LF Ex (pv 0) (pv 1) (λ_ _=>rfl)))) Rx)
  (Cf (IJ (i:=3) e rfl (Or.inl rfl) (B0 HF (Gg ND rfl j boot_abs (Bt (pv 2) ED)) (HG Pw rfl o PyProof.Rows.boot_int (Bt (XX oN (Gg ND rfl j boot_abs (Bt (pv 2) ED)) (B0 j9 BH BH) (Bg _)) ED))))
  (HI (Rv (bg (Bt (pv 3) (Bt (B0 Ft (B0 HF (B0 Ft (B0 II (B0 II (pv 2) (B0 HF BH (pv 1))) BH) BH) BH) BH) ED)))))))), ?_⟩
 have hl:(ns.map V.int).length=ns.length:=AAK _;have d:∀(c:Int) (p:zu),H p=none->Q (.ref p) (upd H p (.lst [.int ((if c<0 then -c else c)*(if decide ((10:Int)^18<=(if c<0 then -c else c)) then 1 else 0)), .int ((c+7919*k+1) % 2147483647*48271 % 2147483647)])):=λc p hp=>
  hQ _ .tape (λb=>T b\/b=p) _ (cv va.tp hp (Int.mul_nonneg (by split <;> omega) (xi _)) (ACk _ (by decide)) (ACl _ (by decide))) (.tape (.inr rfl)) hF
 refine⟨_,rfl,_,rfl,a,_,rfl, .inl l,_,_,rfl,rfl,_,rfl, ?_⟩;refine nz (λc=> ?_) (λc=> ?_)
 .have y:k<(((ns.map V.int).length:Nat):Int):=AAs c;rw[hl] at y;have hk:k.toNat<ns.length:=by omega
  have hv:J2 (ns.map V.int) k=some (.int ns[k.toNat]):=by
   have q:J2 (ns.map V.int) ((k.toNat:Nat):Int)=some (.int ns[k.toNat]):=DU (by rw[AAg,AAW hk] <;> rfl)
   rwa [show ((k.toNat:Nat):Int)=k by omega] at q
  refine⟨_,rfl,_,rfl,a,_,_,_,rfl,rfl,l,hv, ?_⟩;refine⟨_,rfl,_,rfl,_,rfl,_,rfl,_,_,rfl,rfl,⟨by decide,by decide,by decide⟩,_,_,rfl,rfl, .inr ⟨_,rfl,_,_,rfl,rfl, .inl (.inr (u7 _)), ?_⟩⟩;exact⟨_,rfl,_,rfl,_,rfl,_,_,rfl,rfl, .inl (.inl ⟨by decide,by decide⟩),_,_,rfl,rfl,_,_,rfl,rfl,_,_,rfl,rfl,(show (0:Int)<2147483647 by decide),_,_,rfl,rfl, .inl (.inr ⟨by decide,by decide⟩),_,_,rfl,rfl,(show (0:Int)<2147483647 by decide),(show 2<=sizeLine by decide),λp hp=>d _ p hp⟩
 .refine ⟨_,rfl,_,rfl,_,rfl,_,rfl,_,_,rfl,rfl,⟨by decide,by decide,by decide⟩,_,_,rfl,rfl, .inr ⟨_,rfl,_,_,rfl,rfl, .inl (.inr (u7 _)), ?_⟩⟩;exact⟨_,rfl,_,rfl,_,rfl,_,_,rfl,rfl, .inl (.inl ⟨by decide,by decide⟩),_,_,rfl,rfl,_,_,rfl,rfl,_,_,rfl,rfl,(show (0:Int)<2147483647 by decide),_,_,rfl,rfl, .inl (.inr ⟨by decide,by decide⟩),_,_,rfl,rfl,(show (0:Int)<2147483647 by decide),(show 2<=sizeLine by decide),λp hp=>d 0 p hp⟩
theorem Nr (F:Z1 K "_law_bounds" FB f U)(b:Bk P w K Z Y n):Z2 P w K Z Y n f U ["_law_tape_here","_law_some"] 1 CI:=DJ F C3 rfl λ_ _ _ _ _ _ a c=>(AM (C7 1 c (EI (CO (BN (AY (Ap AH AH)) (BN (AY (Ap AH AH)) (BN (AY (Ap AH AH)) (DL (AY (Ap AH AH)) (AY (Ap AH AH)) (AY (Ap AH AH))))))))) (AM (BG (Fd (Db a) (AK b a rfl (Ap (AJ 0) AH)) AH) (AR (AW (AY (DL (AY (Ap AH AH)) (AY (Ap AH AH)) (AY (Ap AH AH)))))) Az) (AR (AW (AY (DL (AU (AJ 1) (AK b a rfl (Ap (AJ 0) AH))) (AU (AJ 1) (AK b a rfl (Ap (AJ 0) AH))) (AU (AJ 1) (AK b a rfl (Ap (AJ 0) AH)))))))))
theorem PC (F:Z1 K "_law_place" Fx f U)(b:Bk P w K Z Y n)(c:DK P w K Z Y n):Z2 P w K Z Y n f U ["_law_tape_here","_law_kind"] 1 A1:=DJ F C3 rfl λ_ _ _ _ _ _ a d=>(AM (C7 1 d (AK b a rfl (Ap (AJ 0) AH))) (AM (BG (Fd FZ (AJ 1) AH) (AR (AW (AY (Ap (Ah Dc (AK b a rfl (Ap (AJ 0) AH)) AH) AH)))) Az) (AM (BG (Fd (Db a) (AJ 1) AH) (AR (AW (AK c a rfl (Ap (Ah Dc (AK b a rfl (Ap (AJ 0) AH)) AH) AH)))) Az) (AR (AW (AK c a rfl (Ap (Ah Dc (AK b a rfl (Ap (AJ 0) AH)) AH) AH)))))))
theorem Re (F:Z1 K "_law_span" Go f U)(b:Bk P w K Z Y n)(c:DK P w K Z Y n):Z2 P w K Z Y n f U ["_law_tape_here","_law_way"] 1 Eu:=DJ F C3 rfl λ_ _ _ _ _ _ a d=>(AM (C7 1 d (AK b a rfl (Ap (AJ 0) AH))) (AM (BG (Fd FZ (AJ 1) AH) (AR (AW (AY (Ap (Ah Bo AH (AK b a rfl (Ap (AJ 0) AH))) AH)))) Az) (AR (AW (AK c a rfl (Ap (Ah Bo AH (AK b a rfl (Ap (AJ 0) AH))) (Ah Dc (AJ 1) AH)))))))
theorem Rc (F:Z1 K "_law_plan" Gm f U)(d:Bk P w K Z Y n)(c:JJ P w K Z Y n)(e:Tc P w K Z Y n)(g:Ed P w K Z Y n)(h:Z "len" =none)(j:Z "tuple" =none):Z2 P w K Z Y n f U ["_law_tape_here","_law_many","_law_m","_law_spot","_law_corners","_law_way"] 1 D2:=DJ F C3 rfl λ_ _ _ _ _ _ a b=>(AM (C7 1 b (Ah Bo AH (AK d a rfl (Ap (AJ 0) AH)))) (AM (BG (Fd (Db a) (AK d a rfl (Ap (AJ 0) AH)) AH) (AR (C7 1 b (Ah Bo AH (AK d a rfl (Ap (AJ 0) AH))))) Az) (AM (C7 2 b (AY (Ap (AK d a rfl (Ap (AJ 0) AH)) AH))) (AM (C7 3 b (EI (CO (DL (AK c a rfl (Be (AJ 0))) (AK c a rfl (Be (AJ 0))) (AK c a rfl (Be (AJ 0))))))) (AM (Kg (i:=4) b rfl (Or.inl rfl) (CO (Be (AY (BN (AJ 2) (DL (AU (AJ 3) AH) (AU (AJ 3) AH) (AU (AJ 3) AH))))))) (AM (OQ AAd (Fd FZ (A4 F1 rfl h ABA (Be (AJ 4))) (AJ 1)) (AM (C7 2 b (AK g a rfl (Ap (AJ 2) (AK e a rfl (Be (AJ 0)))))) (AM (C7 5 b (AK d a rfl (Ap (AJ 0) AH))) (AM (BG (Fd Gz (AJ 5) AH) (AR (C7 3 b (EI (CO (DL (AK c a rfl (Be (AJ 0))) (AK c a rfl (Be (AJ 0))) (AK c a rfl (Be (AJ 0)))))))) (AR (BG (Fd Gz (AJ 5) AH) (AR (C7 3 b (Ah Bo (Ah Bo (OI (AJ 3) lP (lQ (Ah Dc (AJ 5) AH))) (EI (CO (Be (AK c a rfl (Be (AJ 0))))))) (OI (AJ 3) (lQ (AJ 5)) lP)))) Az))) (AR (F7 (i:=4) AB5 AB6 Du (Be (AY (BN (AJ 2) (DL (AU (AJ 3) AH) (AU (AJ 3) AH) (AU (AJ 3) AH))))))))))) (AR (AW (BX CF rfl j AAq (Be (AJ 4)))))))))))
theorem T8 (F:Z1 K "_law_two" IM f U)(g:O4 P w K Z Y n)(c:Bk P w K Z Y n)(p:DK P w K Z Y n)(h:JJ P w K Z Y n)(j:Ta P w K Z Y n)(k:Ed P w K Z Y n)(r:Z "len" =none)(l:Z "range" =none)(o:Z "tuple" =none):Z2 P w K Z Y n f U ["_law_tape_here","_law_plan_here","_law_other","_law_late","_law_by","_law_off_here","_law_corners","_law_one"] 1 EU:=by
 have d:(["_law_k","_law_by","_law_tape_here"] :zy Str).Nodup:=by decide +kernel
 have e:(["_law_k","_law_one","_law_off_here"] :zy Str).Nodup:=by decide +kernel
 exact DJ F C3 rfl λ_ _ _ _ _ _ a b=>(AM (C7 1 b (AK j a rfl (Be (AJ 0)))) (AM (C7 2 b (AK j a rfl (Be (AJ 0)))) (AM (BG (Fd (Db a) (AK c a rfl (Ap (AJ 0) AH)) AH) (AM (C7 3 b (AU (EI (CO (DL (AY (Ap (AK c a rfl (Ap (AJ 0) AH)) AH)) (AY (Ap AH AH)) (AK p a rfl (Ap (AK c a rfl (Ap (AJ 0) AH)) AH))))) (AK c a rfl (Ap (AJ 0) AH)))) (AM (FH (i:=4) b rfl (Or.inr rfl) (EI (CO (BN (AK h a rfl (Be (AJ 0))) (BN (AY (Ap AH AH)) (BN (AK h a rfl (Be (AJ 0))) (DL (AY (Ap AH AH)) (AY (Ap AH AH)) (AY (Ap (AK c a rfl (Ap (AJ 0) AH)) AH))))))))) (AM (FH (i:=5) b rfl (Or.inr rfl) (EI (Cq rfl (OJ rfl l (Be AH)) (Br (own:=1) (ix:= [4,0]) (N:= ["_law_k","_law_by" ,"_law_tape_here" ]) rfl rfl rfl rfl rfl rfl (λ_ _ _ _ _ _=>(Ka 0 d)) (λ_ _ _ _ _ _=>Bn) (λ_ _ _ _ _ _=>(AU (AJ 1) (AK c a rfl (Ap (AJ 2) AH)))))))) (AM (Kg (i:=6) b rfl (Or.inl rfl) (CO KW)) (AM (Ch AAd rfl (FG (AJ 1)) (SL (i:=7) b rfl (Or.inr rfl)) (AR (F7 (i:=6) AB5 AB6 Du (Be (Ah Bo (AY (Be (AK k a rfl (Ap (AU (AJ 7) AH) (AJ 3))))) (BX CF rfl o AAq (Be (EI (Cq rfl (OJ rfl l (Be AH)) (Br (own:=1) (ix:= [7,5]) (N:= ["_law_k","_law_one" ,"_law_off_here" ]) rfl rfl rfl rfl rfl rfl (λ_ _ _ _ _ _=>(Ka 0 e)) (λ_ _ _ _ _ _=>Bn) (λ_ _ _ _ _ _=>(AK k a rfl (Ap (AU (AJ 1) (Ah Bo (AJ 0) AH)) (AU (AJ 2) (AJ 0))))))))))))))) (AR (C7 2 b (lD (BX CF rfl o AAq (Be (AJ 6))))))))))) Az) (AM (BG (Fd Gz (A4 F1 rfl r ABA (Be (AJ 1))) AH) (AR (C7 2 b (OI (AJ 2) lP (lQ AH)))) Az) (AR (AW (AY (Ap (AY (Ap (AJ 1) (AK g a rfl (Be (AJ 0))))) (AY (Ap (AJ 2) (AK g a rfl (Be (AJ 0)))))))))))))
theorem PD (F:Z1 K "_law_wider" Fy f U)(c:Bk P w K Z Y n)(d:Ed P w K Z Y n)(e:Z "range" =none)(g:Z "tuple" =none):Z2 P w K Z Y n f U ["_law_tape_here","_law_bounds_here","_law_some"] 2 Ck:=by
 have a:(["_law_k","_law_bounds_here","_law_some","_law_tape_here"] :zy Str).Nodup:=by decide +kernel
 exact DJ F C3 rfl λ_ _ _ _ _ _ b h=>(AM (FH (i:=2) h rfl (Or.inr rfl) (EI (CO (BN (AY (Ap AH AH)) (DL (AY (Ap AH AH)) (AY (Ap AH AH)) (AY (Ap AH AH))))))) (AR (AW (BX CF rfl g AAq (Be (EI (Cq rfl (OJ rfl e (Be AH)) (Br (own:=1) (ix:= [1,2,0]) (N:= ["_law_k","_law_bounds_here" ,"_law_some" ,"_law_tape_here" ]) rfl rfl rfl rfl rfl rfl (λ_ _ _ _ _ _=>(Ka 0 a)) (λ_ _ _ _ _ _=>Bn) (λ_ _ _ _ _ _=>(AK d b rfl (Ap (AU (AJ 1) (AJ 0)) (AU (AJ 2) (AK c b rfl (Ap (AJ 3) AH))))))))))))))
theorem Y1 (F:Z1 K "summed" OC f U)(g:Z "max" =none)(h:Z "tuple" =none)(j:Z "zip" =none):Z2 P w K Z Y n f U ["one","many","other","more","numbers","weights","number","weight"] 4 GV:=by
 have a:(["former","latter","many","more"] :zy Str).Nodup:=by decide +kernel
 have b:(["number","weight","many"] :zy Str).Nodup:=by decide +kernel
 exact DJ F C3 rfl λ_ _ _ _ _ _ e c=>(AM (C7 4 c (BX CF rfl h AAq (Be (EI (Cq rfl (cT rfl j (Ap (AU (AJ 0) AH) (AU (AJ 2) AH))) (Br (own:=2) (ix:= [1,3]) (N:= ["former","latter" ,"many" ,"more" ]) rfl rfl rfl rfl rfl rfl (λ_ _ _ _ _ _=>(KZ (n:=2) rfl (CG (Ka 0 a) (CG (Ka 1 a) HL)))) (λ_ _ _ _ _ _=>Bn) (λ_ _ _ _ _ _=>(Ah Bo (Ah A7 (AJ 2) (AJ 0)) (Ah A7 (AJ 3) (AJ 1)))))))))) (cf (by decide) (by decide) (by decide) (by decide) (by decide) (by decide) (AU (AJ 0) AH) (AU (AJ 2) AH) (λk d=>b9 (i:=5) rfl c rfl (Or.inl rfl) (UK d rfl rfl rfl rfl) (Wr (own:=2) (ix:= [1]) (N:= ["number","weight" ,"many" ]) rfl rfl rfl rfl rfl rfl (aP (NQ (RH (by decide)) L0 (NQ (RH (by decide)) L0 W4 RI) (TZ L0 RI))) (λ_ _ _ _ _ _=>(Rs rfl (FS (HH (i:=0) b rfl (Or.inl rfl)) (FS (HH (i:=1) b rfl (Or.inl rfl)) MA)))) (λ_ _ _ _ _ _=>XY) (λ_ _ _ _ _ _=>(pv 0))) (λ_ _ _ _ _ _=>(B0 Rp (pv 2) (pv 1)))) (λk d=>cA AAd rfl (UK d rfl rfl rfl rfl) (Rs rfl (FS (HH (i:=6) c rfl (Or.inl rfl)) (FS (HH (i:=7) c rfl (Or.inl rfl)) MA))) (HI (fk (tQ e) (pv 5) (pv 6) (B0 II (bX (tQ e) (pv 5) (pv 6) BH ⟨rfl,rfl,rfl,rfl⟩) (B0 Rp (pv 3) (pv 7))) rfl))) (AR (AW (AY (DL (AJ 4) (A4 (lA rfl) rfl g boot_max (Ap (AU (AJ 0) AH) (AU (AJ 2) AH))) (AJ 5)))))))
theorem Vp (F:Z1 K "crossed" KI f U)(a:aT P w K Z Y n):Z2 P w K Z Y n f U ["low","high","at"] 3 EL:=DJ F C3 rfl λ_ _ _ _ _ _ b _=>(AR (AW (AK a b rfl (BN (AJ 0) (DL (F3 (AU (AU (AJ 1) AH) (AJ 2))) (AJ 1) (AU (AU (AJ 0) AH) (AJ 2)))))))
theorem UA (F:Z1 K "is_never" IP f U):Z2 P w K Z Y n f U ["plane","total"] 1 Dk:=DJ F C3 rfl λ_ _ _ _ _ _ a b=>(AM (C7 1 b (AU (AU (AJ 0) AH) AH)) (AR (AW (iM (CN FZ (AJ 1) AH (Bg _)) (F4 (FF (CN (Db a) (AJ 1) AH (Bg _)) (F4 (CN (Db a) (AU (AJ 0) AH) AH (Bg _)))))))))
theorem Vy (F:Z1 K "turn_of" KU f U):Z2 P w K Z Y n f U ["plane","at","total","factor"] 2 DH:=DJ F C3 rfl λ_ _ _ _ _ _ _ a=>(AM (C7 2 a (AU (AU (AJ 0) AH) AH)) (AM (C7 3 a (AU (AU (AJ 0) AH) (AJ 1))) (AR (AW (QR (Fd Gz (AJ 3) AH) (AY (Ap (F3 (AJ 2)) (AJ 3))) (AY (Ap (AJ 2) (F3 (AJ 3)))))))))
theorem PH (F:Z1 K "is_tighter" F0 f U)(b:Ee P w K Z Y n)(c:P6 P w K Z Y n):Z2 P w K Z Y n f U ["plane","other","at","here","there"] 3 DQ:=DJ F C3 rfl λ_ _ _ _ _ _ a d=>(AM (C7 3 d (AK c a rfl (Ap (AJ 0) (AJ 2)))) (AM (C7 4 d (AK c a rfl (Ap (AJ 1) (AJ 2)))) (AM (BG (BM (AK b a rfl (Ap (AJ 3) (AJ 4)))) (AR (AW (CN FZ (AU (AU (AJ 0) AH) (AJ 2)) AH (Bg _)))) Az) (AM (BG (BM (AK b a rfl (Ap (AJ 4) (AJ 3)))) (AR (AW (CN Gz (AU (AU (AJ 0) AH) (AJ 2)) AH (Bg _)))) Az) (AR (AW (CN Gz (AU (AJ 0) AH) (AU (AJ 1) AH) (Bg _))))))))
theorem UG (F:Z1 K "tightest" IV f U)(b:RL P w K Z Y n):Z2 P w K Z Y n f U ["planes","at","sign","told","plane"] 3 CZ:=DJ F C3 rfl λ_ _ _ _ _ _ c a=>(AM (C7 3 a Cg) (AM (Ch AAd rfl (FG (AJ 0)) (Dt 4 a) (AR (BG (Je (Ko (Fd Gz (Ah A7 (AU (AU (AJ 4) AH) (AJ 1)) (AJ 2)) AH) (HM (Je (Jg (Fd WJ (AJ 3) Cg) (G4 (BM (AK b c rfl (DL (AJ 4) (AJ 3) (AJ 1)))))))))) (AR (C7 3 a (AJ 4))) Az))) (AR (AW (AJ 3)))))
theorem T9 (F:Z1 K "fault_in" IN f U)(e:P4 P w K Z Y n)(c:VZ P w K Z Y n)(d:NZ P w K Z Y n):Z2 P w K Z Y n f U ["planes","at","plane","high","both"] 2 Dj:=DJ F C3 rfl λ_ _ _ _ _ _ a b=>(AM (Ch AAd rfl (FG (AJ 0)) (Dt 2 b) (AR (BG (Je (Ko (Fd (Db a) (AU (AU (AJ 2) AH) (AJ 1)) AH) (HM (BM (AK c a rfl (Be (AJ 2))))))) (AR (AW (AJ 2))) Az))) (AM (C7 3 b (AK d a rfl (DL (AJ 0) (AJ 1) (F3 AH)))) (AM (BG (Fd WJ (AJ 3) Cg) (AR (AW Cg)) Az) (AM (C7 4 b (AK e a rfl (DL (AK d a rfl (DL (AJ 0) (AJ 1) AH)) (AJ 3) (AJ 1)))) (AR (AW (QR (BM (AK c a rfl (Be (AJ 4)))) (AJ 4) Cg)))))))
theorem UC (F:Z1 K "negative" IR f U):Z2 P w K Z Y n f U ["number"] 1 CY:=DJ F C3 rfl λ_ _ _ _ _ _ _ _=>(AR (AW (AY (Ap (F3 (AU (AJ 0) AH)) (AU (AJ 0) AH)))))
theorem Rk (F:Z1 K "side_form" Gv f U)(c:RM P w K Z Y n)(d:NV P w K Z Y n)(e:NX P w K Z Y n):Z2 P w K Z Y n f U ["wedge","number","side","off","one","other","sizes","lates","base","slope","other_base","other_slope"] 2 BK:=DJ F C3 rfl λ_ _ _ _ _ _ b a=>(AM (Eo (AJ 0) (B2 (n:=4) rfl (Aa (Dt 4 a) (Aa (Dt 5 a) (Aa (Dt 6 a) (Aa (Dt 7 a) BO)))))) (AM (C7 2 a (Ah E3 (Ah Dc (AJ 1) AH) AH)) (AM (Eo (AU (AU (AJ 4) AH) (AJ 2)) (B2 (n:=2) rfl (Aa (Dt 8 a) (Aa (Dt 9 a) BO)))) (AM (Eo (AU (AU (AJ 5) AH) (AJ 2)) (B2 (n:=2) rfl (Aa (Dt 10 a) (Aa (Dt 11 a) BO)))) (AM (C7 3 a (AK c b rfl (Ap (AJ 8) (AJ 10)))) (AM (BG (Fd (Db b) (Ah WK (AJ 1) AH) AH) (AR (AW (AY (DL (AK c b rfl (Ap (AU (AJ 6) (AJ 2)) (AJ 3))) (AK d b rfl (Be (AJ 9))) (AJ 11))))) Az) (AR (AW (AY (DL (AK e b rfl (Ap (AU (AJ 6) (AJ 2)) (AJ 3))) (AJ 9) (AK d b rfl (Be (AJ 11)))))))))))))
theorem Rl (F:Z1 K "time_form" Gw f U)(e:NV P w K Z Y n)(b:Kc K Z "BACK" (.tup [(.int (-1)),(.int 1)]))(a:Kc K Z "NOUGHT" (.tup [(.int 0),(.int 1)]))(c:Kc K Z "ONCE" (.tup [(.int 1),(.int 1)])):Z2 P w K Z Y n f U ["wedge","number","forms","one","other","sizes","lates"] 2 D8:=DJ F C3 rfl λ_ _ _ _ _ _ g d=>(AM (Eo (AJ 0) (B2 (n:=4) rfl (Aa (Dt 3 d) (Aa (Dt 4 d) (Aa (Dt 5 d) (Aa (Dt 6 d) BO)))))) (AM (C7 2 d (AY (BN (AY (DL (AK e g rfl (Be (AU (AJ 3) AH))) (BC c rfl) (BC a rfl))) (BN (AY (DL (AU (AJ 3) AH) (BC b rfl) (BC a rfl))) (BN (AY (DL (AK e g rfl (Be (AU (AJ 4) AH))) (BC a rfl) (BC c rfl))) (DL (AY (DL (AU (AJ 4) AH) (BC a rfl) (BC b rfl))) (AY (DL (AU (AJ 6) AH) (BC c rfl) (BC b rfl))) (AY (DL (AU (AJ 6) AH) (BC b rfl) (BC c rfl))))))))) (AR (AW (AU (AJ 2) (AJ 1))))))
theorem Vq (F:Z1 K "form_of" KJ f U)(b:Ti P w K Z Y n)(c:Tj P w K Z Y n):Z2 P w K Z Y n f U ["wedge","number"] 2 EM:=DJ F C3 rfl λ_ _ _ _ _ _ a _=>(AR (AW (QR (Fd FZ (AJ 1) AH) (AK c a rfl (Ap (AJ 0) (AJ 1))) (AK b a rfl (Ap (AJ 0) (AJ 1))))))
theorem Y0 (F:Z1 K "placed" OB f U)(c:Z "tuple" =none):Z2 P w K Z Y n f U ["plane","at","value","numbers","top","bottom"] 3 D6:=by
 have a:(["number","bottom"] :zy Str).Nodup:=by decide +kernel
 exact DJ F C3 rfl λ_ _ _ _ _ _ _ b=>(AM (Eo (AJ 2) (B2 (n:=2) rfl (Aa (Dt 4 b) (Aa (SL (i:=5) b rfl (Or.inr rfl)) BO)))) (AM (Ua (i:=3) rfl b rfl (Or.inl rfl) (FG (AU (AJ 0) AH)) (Br (own:=1) (ix:= [5]) (N:= ["number","bottom" ]) rfl rfl rfl rfl rfl rfl (λ_ _ _ _ _ _=>(Ka 0 a)) (λ_ _ _ _ _ _=>Bn) (λ_ _ _ _ _ _=>(Ah A7 (AJ 1) (AJ 0))))) (AM (gS (i:=3) AH (Ah A7 (AU (AU (AJ 0) AH) (AJ 1)) (AJ 4))) (AM (lS (i:=3) (AJ 1) AH) (AR (AW (AY (DL (BX CF rfl c AAq (Be (AJ 3))) (AU (AJ 0) AH) (AU (AJ 0) AH)))))))))
theorem KB (F:Z1 K "shared_bottom" EH f U)(b:JK P w K Z Y n):Z2 P w K Z Y n f U ["numbers","told","top","bottom"] 1 CB:=DJ F C3 rfl λ_ _ _ _ _ _ c a=>(AM (C7 1 a AH) (AM (Ch AAd rfl (FG (AJ 0)) (B2 (n:=2) rfl (Aa (Dt 2 a) (Aa (Dt 3 a) BO))) (AR (ca (i:=1) a rfl (Or.inl rfl) (Ah E3 (AJ 3) (AK b c rfl (Ap (AJ 1) (AJ 3)))) cS))) (AR (AW (AJ 1)))))
theorem UD (F:Z1 K "plane_of" IS f U)(c:Li P w K Z Y n)(d:Z "tuple" =none):Z2 P w K Z Y n f U ["form","strict","number","shared","numbers"] 3 EW:=by
 have a:(["top","bottom","shared"] :zy Str).Nodup:=by decide +kernel
 exact DJ F C3 rfl λ_ _ _ _ _ _ e b=>(AM (FH (i:=3) b rfl (Or.inr rfl) (AK c e rfl (Be (AJ 0)))) (AM (C7 4 b (BX CF rfl d AAq (Be (EI (Cq rfl (FG (AJ 0)) (Br (own:=2) (ix:= [3]) (N:= ["top","bottom" ,"shared" ]) rfl rfl rfl rfl rfl rfl (λ_ _ _ _ _ _=>(KZ (n:=2) rfl (CG (Ka 0 a) (CG (Ka 1 a) HL)))) (λ_ _ _ _ _ _=>Bn) (λ_ _ _ _ _ _=>(Ah A7 (AJ 0) (Ah E3 (AJ 2) (AJ 1)))))))))) (AR (AW (AY (DL (AJ 4) (AJ 1) (lE (AJ 2) (AJ 3))))))))
theorem bH (F:Z1 K "whole" SJ f U):Z2 P w K Z Y n f U ["n"] 1 HC:=DJ F C3 rfl λ_ _ _ _ _ _ _ _=>(AR (AW (AY (Ap (AJ 0) AH))))
theorem Lo (F:Z1 K "told_weights" Ek f U)(d:JK P w K Z Y n)(e:W7 P w K Z Y n)(g:Z "sorted" =none)(h:Z "tuple" =none):Z2 P w K Z Y n f U ["weights","shared","weight"] 1 Ca:=by
 have a:(["number","shared","weights"] :zy Str).Nodup:=by decide +kernel
 exact DJ F C3 rfl λ_ _ _ _ _ _ b c=>(AM (FH (i:=1) c rfl (Or.inr rfl) AH) (AM (Ch AAd rfl (gG (AJ 0)) (Dt 2 c) (AR (FH (i:=1) c rfl (Or.inr rfl) (AK d b rfl (Ap (AJ 2) (AJ 1)))))) (AR (AW (BX CF rfl h AAq (Be (EI (Cq rfl (FG (A4 (cM rfl) rfl g boot_sorted (Be (AJ 0)))) (Br (own:=1) (ix:= [1,0]) (N:= ["number","shared" ,"weights" ]) rfl rfl rfl rfl rfl rfl (λ_ _ _ _ _ _=>(Ka 0 a)) (λ_ _ _ _ _ _=>Bn) (λ_ _ _ _ _ _=>(AY (Ap (AJ 0) (AK e b rfl (Be (Ah E3 (pK b (AJ 2) (AJ 0) (λ_ _=>rfl)) (AJ 1))))))))))))))))
theorem UE (F:Z1 K "range_in" IT f U)(c:NW P w K Z Y n)(d:NZ P w K Z Y n)(e:P6 P w K Z Y n):Z2 P w K Z Y n f U ["planes","at","low","least","high","greatest"] 2 EX:=DJ F C3 rfl λ_ _ _ _ _ _ a b=>(AM (C7 2 b (AK d a rfl (DL (AJ 0) (AJ 1) AH))) (AM (C7 3 b (AK e a rfl (Ap (AJ 2) (AJ 1)))) (AM (C7 3 b (AK c a rfl (Ap (AU (AJ 3) AH) (AU (AJ 3) AH)))) (AM (C7 4 b (AK d a rfl (DL (AJ 0) (AJ 1) (F3 AH)))) (AM (BG (Fd WJ (AJ 4) Cg) (AR (AW (AY (DL (AJ 3) (Ah Dc AH (AU (AJ 2) AH)) Cg)))) Az) (AM (C7 5 b (AK e a rfl (Ap (AJ 4) (AJ 1)))) (AR (AW (AY (DL (AJ 3) (Ah Dc AH (AU (AJ 2) AH)) (AK c a rfl (Ap (AU (AJ 5) AH) (AU (AJ 5) AH)))))))))))))
theorem UH (F:Z1 K "value_in" IW f U)(c:Va P w K Z Y n)(d:NX P w K Z Y n)(e:Vc P w K Z Y n)(g:W7 P w K Z Y n):Z2 P w K Z Y n f U ["planes","at","least","held","greatest"] 2 Cc:=DJ F C3 rfl λ_ _ _ _ _ _ a b=>(AM (Eo (AK e a rfl (Ap (AJ 0) (AJ 1))) (B2 (n:=3) rfl (Aa (Dt 2 b) (Aa (Dt 3 b) (Aa (Dt 4 b) BO))))) (AR (AW (AK c a rfl (Ap (AK d a rfl (Ap (AJ 2) (AJ 4))) (AK g a rfl (Be AH)))))))
theorem IH (F:Z1 K "weights_by_time" DZ f U)(d:Ee P w K Z Y n)(e:NX P w K Z Y n)(a:Kc K Z "ONCE" (.tup [(.int 1),(.int 1)])):Z2 P w K Z Y n f U ["wedge","one","other","sizes","lates"] 1 Bj:=DJ F C3 rfl λ_ _ _ _ _ _ b c=>(AM (Eo (AJ 0) (B2 (n:=4) rfl (Aa (Dt 1 c) (Aa (Dt 2 c) (Aa (Dt 3 c) (Aa (Dt 4 c) BO)))))) (AM (BG (Cy (BM (AK d b rfl (Ap (AU (AJ 1) AH) (AK e b rfl (Ap (AU (AJ 2) AH) (AU (AJ 4) AH))))))) (AR (AW (AY (DL (AY (Ap AH (BC a rfl))) (AY (Ap AH (BC a rfl))) (AY (Ap AH (BC a rfl))))))) Az) (AM (BG (Cy (BM (AK d b rfl (Ap (AU (AJ 2) AH) (AK e b rfl (Ap (AU (AJ 1) AH) (AU (AJ 4) AH))))))) (AR (AW (AY (DL (AY (Ap AH (BC a rfl))) (AY (Ap AH (BC a rfl))) (AY (Ap AH (BC a rfl))))))) Az) (AR (AW Cg)))))
theorem OF:DS ["planes","at","most","lows","highs","told","low","high"] ["planes","at","most"] (As HJ):=C3
theorem Vz (F:Q0 K "without" "without" HJ f U 2)(g:P4 P w K Z Y n)(h:Z "len" =none)(j:Z "set" =none):Dp P w K Z Y Mr (n+1) f U ["planes","at","most"] (CH K 3 EQ):=by
 have a:=OF.nd;have b:(["plane","at"] :zy Str).Nodup:=by decide +kernel
 have c:(["plane","at"] :zy Str).Nodup:=by decide +kernel
 have d:(["plane","at"] :zy Str).Nodup:=by decide +kernel
 exact aG F OF rfl λ_ _ _ _ _ _ e=>(AM (Fa (i:=3) rfl a rfl (Or.inl rfl) (FG (AJ 0)) (Br (own:=1) (ix:= [1]) (N:= ["plane","at" ]) rfl rfl rfl rfl rfl rfl (λ_ _ _ _ _ _=>(Ka 0 b)) (λ_ _ _ _ _ _=>(MD (Fd Gz (AU (AU (AJ 0) AH) (AJ 1)) AH))) (λ_ _ _ _ _ _=>(AJ 0)))) (AM (Fa (i:=4) rfl a rfl (Or.inl rfl) (FG (AJ 0)) (Br (own:=1) (ix:= [1]) (N:= ["plane","at" ]) rfl rfl rfl rfl rfl rfl (λ_ _ _ _ _ _=>(Ka 0 c)) (λ_ _ _ _ _ _=>(MD (Fd FZ (AU (AU (AJ 0) AH) (AJ 1)) AH))) (λ_ _ _ _ _ _=>(AJ 0)))) (AM (Ua (i:=5) rfl a rfl (Or.inl rfl) (FG (AJ 0)) (Br (own:=1) (ix:= [1]) (N:= ["plane","at" ]) rfl rfl rfl rfl rfl rfl (λ_ _ _ _ _ _=>(Ka 0 d)) (λ_ _ _ _ _ _=>(MD (Fd (Db e) (AU (AU (AJ 0) AH) (AJ 1)) AH))) (λ_ _ _ _ _ _=>(AJ 0)))) (AM (Ch AAd rfl (FG (AJ 3)) (Dt 6 a) (AR (Ch AAd rfl (FG (AJ 4)) (Dt 7 a) (AR (BG (Fd iP (lG rfl h rfl j (AU (AJ 6) AH) (AU (AJ 7) AH)) (AJ 2)) (AR (F7 (i:=5) AB5 AB6 Du (Be (AK g e rfl (DL (AJ 6) (AJ 7) (AJ 1)))))) Az))))) (AR (AW (AJ 5)))))))
theorem Vt (F:Z1 K "meet_in" KN f U)(h:VY P w K Z Y n)(j:P5 P w K Z Y n)(k:aS P w K Z Y n)(l:Vb P w K Z Y n)(o:Na P w K Z Y n)(g:Ve P w K Z Y n)(p:JO P w K Z Y n)(r:Yg P w K Z Y n)(s:Z "range" =none)(a:Kc K Z "STRICT" (.tup [(.int 0),(.int 1),(.int 0),(.int 1),(.int 0),(.int 0),(.int 1),(.int 1),(.int 1),(.int 1),(.int 1),(.int 1)])):Z2 P w K Z Y n f U ["wedge","weights","planes","first","fault","s"] 1 FN:=by
 have d:(["number","wedge"] :zy Str).Nodup:=by decide +kernel
 have e:(["plane","s"] :zy Str).Nodup:=by decide +kernel
 exact DJ F C3 rfl λ_ _ _ _ _ _ b c=>(AM (C7 1 c (AK p b rfl (Be (AJ 0)))) (AM (BG (Fd SX (AJ 1) Cg) (AR (AW (AY (Ap Cg (AJ 1))))) Az) (AM (Fa (i:=2) rfl c rfl (Or.inl rfl) (OJ rfl s (Be AH)) (Br (own:=1) (ix:= [0]) (N:= ["number","wedge" ]) rfl rfl rfl rfl rfl rfl (λ_ _ _ _ _ _=>(Ka 0 d)) (λ_ _ _ _ _ _=>Bn) (λ_ _ _ _ _ _=>(AK l b rfl (DL (AK j b rfl (Ap (AJ 1) (AJ 0))) (AU (BC a rfl) (AJ 0)) (AJ 0)))))) (AM (C7 3 c (cQ r b rfl (Ap (AJ 2) AH))) (AM (C7 4 c (AK h b rfl (Ap (AJ 3) AH))) (AM (BG (Fd SX (AJ 4) Cg) (AR (AW (AY (Ap Cg (AK o b rfl (Be (AU (AJ 4) AH))))))) Az) (AM (FH (i:=5) c rfl (Or.inr rfl) (AK g b rfl (Ap (AJ 3) AH))) (AR (AW (AY (Ap (AY (Ap (AJ 5) (AK g b rfl (Ap (EI (Cq rfl (FG (AJ 2)) (Br (own:=1) (ix:= [5]) (N:= ["plane","s" ]) rfl rfl rfl rfl rfl rfl (λ_ _ _ _ _ _=>(Ka 0 e)) (λ_ _ _ _ _ _=>Bn) (λ_ _ _ _ _ _=>(AK k b rfl (DL (AJ 0) AH (AJ 1))))))) AH)))) Cg)))))))))))
theorem J9 (F:Z1 K "piece_between" EG f U)(c:RM P w K Z Y n)(d:Va P w K Z Y n)(e:W6 P w K Z Y n)(g:Z "zip" =none):Z2 P w K Z Y n f U ["former","latter","span","lines","low","high","slope"] 2 Bh:=DJ F C3 rfl λ_ _ _ _ _ _ a b=>(AM (C7 2 b (AK c a rfl (Ap (AU (AJ 1) AH) (AU (AJ 0) AH)))) (AM (Kg (i:=3) b rfl (Or.inl rfl) (CO KW)) (AM (Ch AAd rfl (cT rfl g (Ap (OI (AJ 0) (lQ AH) lP) (OI (AJ 1) (lQ AH) lP))) (B2 (n:=2) rfl (Aa (Dt 4 b) (Aa (Dt 5 b) BO))) (AM (C7 6 b (AK d a rfl (Ap (AK c a rfl (Ap (AJ 5) (AJ 4))) (AJ 2)))) (AR (F7 (i:=3) AB5 AB6 Du (Be (AY (Ap (AK c a rfl (Ap (AJ 4) (AK e a rfl (Ap (AJ 6) (AU (AJ 0) AH))))) (AJ 6)))))))) (AR (AW (AY (DL (AU (AJ 0) AH) (AU (AJ 1) AH) (AJ 3))))))))
theorem Ri (F:Z1 K "pieces_of" Gs f U)(b:Lh P w K Z Y n)(c:Z "len" =none)(d:Z "range" =none):Z2 P w K Z Y n f U ["plan"] 1 DG:=by
 have a:(["at","plan"] :zy Str).Nodup:=by decide +kernel
 exact DJ F C3 rfl λ_ _ _ _ _ _ e _=>(AR (AW (EI (Cq rfl (OJ rfl d (Be (Ah Dc (A4 F1 rfl c ABA (Be (AJ 0))) AH))) (Br (own:=1) (ix:= [0]) (N:= ["at","plan" ]) rfl rfl rfl rfl rfl rfl (λ_ _ _ _ _ _=>(Ka 0 a)) (λ_ _ _ _ _ _=>Bn) (λ_ _ _ _ _ _=>(AK b e rfl (Ap (AU (AJ 1) (AJ 0)) (AU (AJ 1) (Ah Bo (AJ 0) AH))))))))))
theorem Vw (F:Z1 K "size_of" KQ f U):Z2 P w K Z Y n f U ["apart","side"] 2 Cn:=DJ F C3 rfl λ_ _ _ _ _ _ a _=>(AR (AW (QR (Fd (Db a) (AJ 1) AH) (AU (AJ 0) AH) (AU (AJ 0) AH))))
theorem UF (F:Z1 K "sizes_of" IU f U)(d:NX P w K Z Y n)(b:Ye P w K Z Y n)(e:Z "range" =none):Z2 P w K Z Y n f U ["one","other","apart","told","side","asides"] 3 EY:=DJ F C3 rfl λ_ _ _ _ _ _ a c=>(AM (Kg (i:=3) c rfl (Or.inl rfl) (CO KW)) (AM (Ch AAd rfl (OJ rfl e (Be AH)) (Dt 4 c) (AM (C7 5 c (AK d a rfl (Ap (AK b a rfl (Ap (AU (AJ 0) AH) (AJ 4))) (AK b a rfl (Ap (AU (AJ 1) AH) (AJ 4)))))) (AR (F7 (i:=3) AB5 AB6 Du (Be (AK d a rfl (Ap (AK b a rfl (Ap (AJ 2) (AJ 4))) (AJ 5)))))))) (AR (AW (AJ 3)))))
theorem Rm (F:Z1 K "wedges_of" Gx f U)(c:Tg P w K Z Y n)(e:Vd P w K Z Y n)(d:Z "enumerate" =none):Z2 P w K Z Y n f U ["one","other","apart","sizes","lates","others","told","i","former","j","latter"] 3 B5:=DJ F C3 rfl λ_ _ _ _ _ _ b a=>(AM (C7 3 a (AK e b rfl (DL (AJ 0) (AJ 1) (AJ 2)))) (AM (C7 4 a (AY (Ap (AU (AU (AJ 0) AH) AH) (AU (AU (AJ 1) AH) AH)))) (AM (C7 5 a (AK c b rfl (Be (AU (AJ 1) AH)))) (AM (Kg (i:=6) a rfl (Or.inl rfl) (CO KW)) (AM (Ch AAd rfl (pM rfl d (Be (AK c b rfl (Be (AU (AJ 0) AH))))) (B2 (n:=2) rfl (Aa (Dt 7 a) (Aa (Dt 8 a) BO))) (AR (Ch AAd rfl (pM rfl d (Be (AJ 5))) (B2 (n:=2) rfl (Aa (Dt 9 a) (Aa (Dt 10 a) BO))) (AR (F7 (i:=6) AB5 AB6 Du (Be (AY (DL (AJ 7) (AJ 9) (AY (BN (AJ 8) (DL (AJ 10) (AJ 3) (AJ 4)))))))))))) (AR (AW (AJ 6))))))))
theorem Vu (F:Z1 K "meet_of" KO f U)(c:Yb P w K Z Y n)(d:LA P w K Z Y n)(e:Z "tuple" =none):Z2 P w K Z Y n f U ["one","other","apart","rows","i","j","wedge","moments","weights"] 3 BW:=DJ F C3 rfl λ_ _ _ _ _ _ b a=>(AM (Kg (i:=3) a rfl (Or.inl rfl) (CO KW)) (AM (Ch AAd rfl (FG (AK d b rfl (DL (AJ 0) (AJ 1) (AJ 2)))) (B2 (n:=3) rfl (Aa (Dt 4 a) (Aa (Dt 5 a) (Aa (Dt 6 a) BO)))) (AM (Eo (AK c b rfl (Be (AJ 6))) (B2 (n:=2) rfl (Aa (Dt 7 a) (Aa (Dt 8 a) BO)))) (AM (BG (Fd SX (AJ 7) Cg) (AR (AW (AY (DL F5 (AU (AJ 7) AH) (AU (AJ 7) AH))))) Az) (AR (F7 (i:=3) AB5 AB6 Du (Be (AY (DL (AJ 4) (AJ 5) (AJ 8))))))))) (AR (AW (AY (Ap F5 (BX CF rfl e AAq (Be (AJ 3)))))))))
theorem PF (F:Z1 K "is_list_of" Fz f U)(a:Z "isinstance" =none)(b:Z "len" =none)(c:Z "list" =none)(d:Z "tuple" =none):Z2 P w K Z Y n f U ["thing","many"] 2 B7:=DJ F C3 rfl λ_ _ _ _ _ _ e _=>(AR (AW (FF (OH "tuple" "list" rfl a ACm (AJ 0) (Bt (Fv (v:= .ty "tuple") rfl d AAq rfl) (Bt (Fv (v:= .ty "list") rfl c boot_list rfl) ED)) Nb) (F4 (CN (Db e) (A4 F1 rfl b ABA (Be (AJ 0))) (AJ 1) (Bg _))))))
theorem UB (F:Z1 K "is_whole" IQ f U)(b:Z "bool" =none)(c:Z "int" =none)(a:Z "isinstance" =none):Z2 P w K Z Y n f U ["thing"] 1 Bp:=DJ F C3 rfl λ_ _ _ _ _ _ _ _=>(AR (AW (FF (A4 cK rfl a ACm (Ap (AJ 0) (iN (n:="int") rfl c boot_int rfl))) (F4 (lF (A4 cK rfl a ACm (Ap (AJ 0) (iN (n:="bool") rfl b boot_bool rfl))))))))
theorem Vs (F:Z1 K "is_part" KM f U)(d:JK P w K Z Y n)(b:ID P w K Z Y n)(e:Z "abs" =none)(g:Z "isinstance" =none)(h:Z "len" =none)(i:Z "list" =none)(j:Z "tuple" =none):Z2 P w K Z Y n f U ["thing","top","bottom"] 1 EN:=DJ F C3 rfl λ_ _ _ _ _ _ a c=>(AM (BG (Je (Jg (Cy (BM (OH "tuple" "list" rfl g ACm (AJ 0) (Bt (Fv (v:= .ty "tuple") rfl j AAq rfl) (Bt (Fv (v:= .ty "list") rfl i boot_list rfl) ED)) Nb))) (G4 (Fd (LG a) (A4 F1 rfl h ABA (Be (AJ 0))) AH)))) (AR (AW El)) Az) (AM (Eo (AJ 0) (B2 (n:=2) rfl (Aa (Dt 1 c) (Aa (Dt 2 c) BO)))) (AM (BG (Je (Jg (Cy (BM (AK b a rfl (Be (AJ 1))))) (G4 (Cy (BM (AK b a rfl (Be (AJ 2)))))))) (AR (AW El)) Az) (AR (AW (FF (CN Gz (AJ 2) AH (Bg _)) (F4 (CN (Db a) (AK d a rfl (Ap (A4 OE rfl e boot_abs (Be (AJ 1))) (AJ 2))) AH (Bg _)))))))))
theorem Rh (F:Z1 K "is_weight" Gr f U)(c:Fp P w K Z Y n)(d:Ya P w K Z Y n)(e:ID P w K Z Y n):Z2 P w K Z Y n f U ["thing","number","weight"] 1 D5:=DJ F C3 rfl λ_ _ _ _ _ _ a b=>(AM (BG (Cy (BM (AK c a rfl (Ap (AJ 0) AH)))) (AR (AW El)) Az) (AM (Eo (AJ 0) (B2 (n:=2) rfl (Aa (Dt 1 b) (Aa (Dt 2 b) BO)))) (AR (AW (FF (AK e a rfl (Be (AJ 1))) (FF (pJ iP FZ AH (AJ 1) AH) (FF (AK d a rfl (Be (AJ 2))) (F4 (CN Gz (AU (AJ 2) AH) AH (Bg _))))))))))
theorem Nt (F:Z1 K "are_weights" FC f U)(d:Tf P w K Z Y n)(c:Z "all" =none)(e:Z "isinstance" =none)(g:Z "len" =none)(h:Z "list" =none)(i:Z "range" =none)(j:Z "tuple" =none):Z2 P w K Z Y n f U ["thing"] 1 C0:=by
 have a:(["pair"] :zy Str).Nodup:=by decide +kernel
 have b:(["at","thing"] :zy Str).Nodup:=by decide +kernel
 exact DJ F C3 rfl λ_ _ _ _ _ _ k _=>(AM (BG (Je (Jg (Cy (BM (OH "tuple" "list" rfl e ACm (AJ 0) (Bt (Fv (v:= .ty "tuple") rfl j AAq rfl) (Bt (Fv (v:= .ty "list") rfl h boot_list rfl) ED)) Nb))) (G4 (Cy (BM (A4 (cJ rfl) rfl c boot_all (Be (EI (Cq rfl (FG (AJ 0)) (Br (own:=1) (ix:= []) (N:= ["pair"]) rfl rfl rfl rfl rfl rfl (λ_ _ _ _ _ _=>(Ka 0 a)) (λ_ _ _ _ _ _=>Bn) (λ_ _ _ _ _ _=>(AK d k rfl (Be (AJ 0)))))))))))))) (AR (AW El)) Az) (AR (AW (A4 (cJ rfl) rfl c boot_all (Be (EI (Cq rfl (iO rfl i (Ap AH (A4 F1 rfl g ABA (Be (AJ 0))))) (Br (own:=1) (ix:= [0]) (N:= ["at","thing" ]) rfl rfl rfl rfl rfl rfl (λ_ _ _ _ _ _=>(Ka 0 b)) (λ_ _ _ _ _ _=>Bn) (λ_ _ _ _ _ _=>(CN FZ (AU (AU (AJ 1) (Ah Dc (AJ 0) AH)) AH) (AU (AU (AJ 1) (AJ 0)) AH) (Bg _)))))))))))
theorem Yy (F:Z1 K "is_row" N9 f U)(c:O5 P w K Z Y n)(d:Fp P w K Z Y n)(b:ID P w K Z Y n):Z2 P w K Z Y n f U ["thing","i","j"] 3 D4:=DJ F C3 rfl λ_ _ _ _ _ _ a _=>(AM (BG (Je (Jg (Cy (BM (AK d a rfl (Ap (AJ 0) AH)))) (Jg (Cy (BM (AK b a rfl (Be (AU (AJ 0) AH))))) (G4 (Cy (BM (AK b a rfl (Be (AU (AJ 0) AH))))))))) (AR (AW El)) Az) (AR (AW (FF (CN (Db a) (AU (AJ 0) AH) (AJ 1) (Bg _)) (FF (CN (Db a) (AU (AJ 0) AH) (AJ 2) (Bg _)) (F4 (AK c a rfl (Be (AU (AJ 0) AH)))))))))
theorem Nv (F:Z1 K "weighed_sum" FE f U)(b:Z "zip" =none):Z2 P w K Z Y n f U ["forms","weights","at","total","shared","form","factor","top","bottom"] 3 Bq:=DJ F C3 rfl λ_ _ _ _ _ _ _ a=>(AM (C7 3 a AH) (AM (C7 4 a AH) (AM (Ch AAd rfl (cT rfl b (Ap (AJ 0) (AJ 1))) (B2 (n:=2) rfl (Aa (Dt 5 a) (Aa (B2 (n:=2) rfl (Aa (Dt 7 a) (Aa (Dt 8 a) BO))) BO))) (AM (C7 6 a (Ah A7 (AJ 8) (AU (AU (AJ 5) (AJ 2)) AH))) (AM (C7 3 a (Ah Bo (Ah A7 (AJ 3) (AJ 6)) (Ah A7 (Ah A7 (AJ 7) (AU (AU (AJ 5) (AJ 2)) AH)) (AJ 4)))) (AR (ca (i:=4) a rfl (Or.inl rfl) (AJ 6) cS))))) (AR (AW (AJ 3))))))
theorem Rj (F:Z1 K "shows_row" Gu f U)(j:P5 P w K Z Y n)(g:O7 P w K Z Y n)(k:Z "any" =none)(a:Kc K Z "STRICT" (.tup [(.int 0),(.int 1),(.int 0),(.int 1),(.int 0),(.int 0),(.int 1),(.int 1),(.int 1),(.int 1),(.int 1),(.int 1)])):Z2 P w K Z Y n f U ["wedge","pairs","forms","weights","total"] 2 D7:=by
 have c:(["number","weight","wedge"] :zy Str).Nodup:=by decide +kernel
 have d:(["number","weight"] :zy Str).Nodup:=by decide +kernel
 have e:(["number","weight"] :zy Str).Nodup:=by decide +kernel
 exact DJ F C3 rfl λ_ _ _ _ _ _ b h=>(AM (Fa (i:=2) rfl h rfl (Or.inl rfl) (FG (AJ 1)) (Br (own:=2) (ix:= [0]) (N:= ["number","weight" ,"wedge" ]) rfl rfl rfl rfl rfl rfl (λ_ _ _ _ _ _=>(KZ (n:=2) rfl (CG (Ka 0 c) (CG (Ka 1 c) HL)))) (λ_ _ _ _ _ _=>Bn) (λ_ _ _ _ _ _=>(AK j b rfl (Ap (AJ 2) (AJ 0)))))) (AM (Fa (i:=3) rfl h rfl (Or.inl rfl) (FG (AJ 1)) (Br (own:=2) (ix:= []) (N:= ["number","weight" ]) rfl rfl rfl rfl rfl rfl (λ_ _ _ _ _ _=>(KZ (n:=2) rfl (CG (Ka 0 d) (CG (Ka 1 d) HL)))) (λ_ _ _ _ _ _=>Bn) (λ_ _ _ _ _ _=>(AJ 1)))) (AM (BG (Je (Jg (Fd (LG b) (AK g b rfl (DL (AJ 2) (AJ 3) AH)) AH) (G4 (Fd (LG b) (AK g b rfl (DL (AJ 2) (AJ 3) AH)) AH)))) (AR (AW El)) Az) (AM (C7 4 h (AK g b rfl (DL (AJ 2) (AJ 3) AH))) (AR (AW (iM (CN FZ (AJ 4) AH (Bg _)) (F4 (FF (CN (Db b) (AJ 4) AH (Bg _)) (F4 (A4 (kz rfl) rfl k boot_any (Be (EI (Cq rfl (FG (AJ 1)) (Br (own:=2) (ix:= []) (N:= ["number","weight" ]) rfl rfl rfl rfl rfl rfl (λ_ _ _ _ _ _=>(KZ (n:=2) rfl (CG (Ka 0 e) (CG (Ka 1 e) HL)))) (λ_ _ _ _ _ _=>Bn) (λ_ _ _ _ _ _=>(CN (Db b) (AU (BC a rfl) (AJ 0)) AH (Bg _))))))))))))))))))
theorem Nu (F:Z1 K "shows_apart" FD f U)(c:Fp P w K Z Y n)(d:aQ P w K Z Y n)(e:Th P w K Z Y n)(g:LA P w K Z Y n)(h:Z "len" =none)(i:Z "zip" =none):Z2 P w K Z Y n f U ["one","other","apart","paper","wedges","row","i","j","wedge"] 4 CJ:=DJ F C3 rfl λ_ _ _ _ _ _ b a=>(AM (C7 4 a (AK g b rfl (DL (AJ 0) (AJ 1) (AJ 2)))) (AM (BG (Cy (BM (AK c b rfl (Ap (AJ 3) (A4 F1 rfl h ABA (Be (AJ 4))))))) (AR (AW El)) Az) (AM (Ch AAd rfl (cT rfl i (Ap (AJ 4) (AJ 3))) (B2 (n:=2) rfl (Aa (B2 (n:=3) rfl (Aa (Dt 6 a) (Aa (Dt 7 a) (Aa (Dt 8 a) BO)))) (Aa (Dt 5 a) BO))) (AR (BG (Je (Jg (Cy (BM (AK d b rfl (DL (AJ 5) (AJ 6) (AJ 7))))) (G4 (Cy (BM (AK e b rfl (Ap (AJ 8) (AU (AJ 5) AH)))))))) (AR (AW El)) Az))) (AR (AW El)))))
theorem jw (F:Z1 K "law" QQ f U)(j:RJ P w K Z Y n)(e:Bk P w K Z Y n)(k:NR P w K Z Y n)(g:Ed P w K Z Y n)(l:Td P w K Z Y n)(o:VX P w K Z Y n)(h:RK P w K Z Y n)(c:Yc P w K Z Y n)(p:O6 P w K Z Y n)(r:Z "len" =none)(s:Z "min" =none)(t:Z "range" =none):Z2 P w K Z Y n f U ["_law_script","_law_k","_law_tape_here","_law_apart_here","_law_wide","_law_further","_law_found","_law_some","_law_parts","_law_one","_law_other","_law_more"] 1 EO:=by
 have d:(["_law_flight","_law_tape_here"] :zy Str).Nodup:=by decide +kernel
 exact DJ F C3 rfl λ_ _ _ _ _ _ a b=>(AM (Ch AAd rfl (OJ rfl t (Be (Ah Bo AH (A4 (lB rfl) rfl s boot_min (Ap AH (A4 F1 rfl r ABA (Be (AJ 0)))))))) (Dt 1 b) (AM (FH (i:=2) b rfl (Or.inr rfl) (AK l a rfl (Ap (AJ 0) (AJ 1)))) (AM (Eo (AK o a rfl (Be (AJ 2))) (B2 (n:=2) rfl (Aa (Dt 9 b) (Aa (Dt 10 b) BO)))) (AM (C7 3 b (AK j a rfl (Be (AJ 2)))) (AM (C7 4 b (EI (CO (Ap (AY (Ap (AU (AJ 9) AH) (AK h a rfl (Ap (AJ 2) (AU (AJ 9) AH))))) (AY (Ap (AU (AJ 10) AH) (AK h a rfl (Ap (AJ 2) (AU (AJ 10) AH))))))))) (AM (C7 5 b (AY (Ap (AK g a rfl (Ap (AU (AJ 3) AH) (AY (Ap (AK e a rfl (Ap (AJ 2) AH)) AH)))) (AK g a rfl (Ap (AU (AJ 3) AH) (AY (Ap (AK e a rfl (Ap (AJ 2) AH)) AH))))))) (AM (C7 6 b (AK c a rfl (DL (AJ 9) (AJ 10) (AJ 3)))) (AM (Ch AAd rfl (FG (EI (CO (DL (AY (DL (AU (AJ 4) AH) (AJ 10) (AJ 3))) (AY (DL (AJ 9) (AU (AJ 4) AH) (AJ 5))) (AY (DL (AU (AJ 4) AH) (AU (AJ 4) AH) (AJ 5))))))) (Dt 7 b) (AM (C7 11 b (AK c a rfl (DL (AU (AJ 7) AH) (AU (AJ 7) AH) (AU (AJ 7) AH)))) (AM (BG (Je (Ko (Fd (Db a) (AU (AJ 6) AH) F5) (HM (Fd (LG a) (AU (AJ 11) AH) F5)))) (AR (AW El)) Az) (AR (BG (Je (Ko (Fd (Db a) (AU (AJ 11) AH) F5) (HM (Fd gQ (AK p a rfl (BN (AU (AJ 7) AH) (DL (AU (AJ 7) AH) (AU (AJ 7) AH) (AU (AJ 11) AH)))) El)))) (AR (AW El)) Az))))) (AM (Fa (i:=8) rfl b rfl (Or.inl rfl) (FG (AY (Ap (AJ 9) (AJ 10)))) (Br (own:=1) (ix:= [2]) (N:= ["_law_flight","_law_tape_here" ]) rfl rfl rfl rfl rfl rfl (λ_ _ _ _ _ _=>(Ka 0 d)) (λ_ _ _ _ _ _=>Bn) (λ_ _ _ _ _ _=>(AY (Ap (AK k a rfl (Ap (AJ 1) (AU (AJ 0) AH))) (AU (AJ 0) AH)))))) (AM (BG (Je (Ko (Fd (Db a) (AU (AJ 6) AH) F5) (HM (Fd (LG a) (AU (AK c a rfl (DL (AU (AJ 8) AH) (AU (AJ 8) AH) (AJ 3))) AH) F5)))) (AR (AW El)) Az) (AR (BG (Je (Jg (Fd (LG a) (AU (AK c a rfl (DL (AJ 9) (AJ 9) (AJ 3))) AH) F5) (G4 (Fd (LG a) (AU (AK c a rfl (DL (AU (AJ 8) AH) (AJ 10) (AJ 3))) AH) F5)))) (AR (AW El)) Az)))))))))))) (AR (AW El)))
end
def jN {P:km}{w:kj}{K:AAB}{Z:Str->zt zx}{Y:ki}{k:Nat}{x:Str}{st:Stmt}{ps:zy Str}{sp:Sp}{f:zu}{U:FuncData}(F:We K x x st f U)(b:Binds K U ps [])(m:Z x=some (.ref f))(G:Dp P w K Z Y Mr k f U ps sp):Has P w K Z Y k x ps sp:=⟨f,U,m,F.kp,b,G⟩
def n9 {a:zy zx}(hl:a.length=1):∃b:zx,a= [b] :=by match a,hl with | [b],_=>exact⟨_,rfl⟩
def oA {a:zy zx}(hl:a.length=2):∃b c:zx,a= [b,c] :=by match a,hl with | [b,c],_=>exact⟨_,_,rfl⟩
def oB {a:zy zx}(hl:a.length=3):∃b c d:zx,a= [b,c,d] :=by match a,hl with | [b,c,d],_=>exact⟨_,_,_,rfl⟩
def oC {a:zy zx}(hl:a.length=4):∃b c d e:zx,a= [b,c,d,e] :=by match a,hl with | [b,c,d,e],_=>exact⟨_,_,_,_,rfl⟩
def Cu (K:AAB)(x:Str)(st:Stmt)(f:zu):Prop:=PySem.W.nsIn K mainGlobals x=some (some (.ref f))/\∃U,We K x x st f U
def u6 {K:AAB}{x:Str}{st:Stmt}{f:zu}{g:zx}{h i:zt zu}{d:Array (zt zx)}{kV e j b ct:zx}(a:PySem.W.nsIn K mainGlobals x=some (some (.ref f)))(l:K.lookup f=some ⟨g,h, .func (PySem.W.fnOf x x (Dy st) (B8 st) (As st) .none kV e j i b ct),d⟩)(c:PySem.W.codeIn K b x=true)(k:PySem.W.keepIn K (.ref f)=true):Cu K x st f:=⟨a,_,aJ l c k⟩
def rg {P:km}{w:kj}{K:AAB}{h Y:ki}{Z:Str->zt zx}{k:Nat}{x:Str}{st:Stmt}{ps:zy Str}{sp:Sp}{f:zu}(A:Cu K x st f)(X:K.In h)(G:h.Ns mainGlobals Z)(g:∀U,We K x x st f U->Binds K U ps [] ->Z x=some (.ref f)->Dp P w K Z Y Mr k f U ps sp)(b:∀U,We K x x st f U->Binds K U ps [] :=by exact λ_ F=>F.binds λ_ _ _ _ _ _ c hl=>by first | (obtain⟨_,rfl⟩:=n9 hl;rfl)|(obtain⟨_,_,rfl⟩:=oA hl;rfl)|(obtain⟨_,_,_,rfl⟩:=oB hl;rfl)|(obtain⟨_,_,_,_,rfl⟩:=oC hl;rfl)):Has P w K Z Y k x ps sp:=
 let ⟨a,U,F⟩:=A;jN F (b U F) (ABh X G a) (g U F (b U F) (ABh X G a))
def qo (K:AAB)(x:Str)(st:Stmt)(f:zu)(d:Int):Prop:=PySem.W.nsIn K mainGlobals x=some (some (.ref f))/\∃U,Q0 K x x st f U d
def nI {P:km}{w:kj}{K:AAB}{h Y:ki}{Z:Str->zt zx}{k:Nat}{x:Str}{st:Stmt}{ps:zy Str}{d:Int}{sp:Sp}{f:zu}(A:qo K x st f d)(X:K.In h)(G:h.Ns mainGlobals Z)(b:∀U,Q0 K x x st f U d->∃c,Binds K U ps [.int d c])(g:∀U,Q0 K x x st f U d->Dp P w K Z Y Mr k f U ps sp):U3 P w K Z Y k x ps d sp:=
 let ⟨a,U,F⟩:=A;let ⟨c,B⟩:=b U F;⟨f,U,c,ABh X G a,F.kp,B,g U F⟩
def all_mk {l:PySem.W.OpenLaw}{w:kj}{K:AAB}{h:ki}{Z:Str->zt zx}{fa f1 f2 f3 f4 f5 f6 f7 f8 f9 R S T f13 f14 f15 f16 f17 f18 f19 f20 f21 f22 f23 f24 f25 f26 f27 f28 f29 f30 f31 f32 f33 f34 f35 f36 f37 f38 f39 f40 f41 f42 f43 f44 f45 f46 f47 f48 f49 f50 f51 f52 f53 f54 f55 f56 f57 f58 f59 f60 f61 f62 f63 f64 f65:zu}(X:K.In h)(G:h.Ns mainGlobals Z)(yH:Z "law" =some (.ref fa))(a1:Cu K "_law_draw" E1 f1)(a2:Cu K "_law_apart" Fw f2)(a3:Cu K "_law_part" Gk f3)(a4:Cu K "_law_off" IK f4)(a5:Cu K "_law_product" Ei f5)(a6:Cu K "_law_sum" IL f6)(a7:Cu K "before" N7 f7)(a8:Cu K "common" N8 f8)(a9:Cu K "part" WA f9)(a10:Cu K "minus" SD R)(a11:Cu K "over" V9 S)(a12:Cu K "plus" WB T)(a13:Cu K "times" SH f13)(a14:Cu K "spot_between" Ej f14)(a15:Cu K "spot_at" KS f15)(a16:Cu K "corner_at" Gq f16)(a17:Cu K "corners_between" DY f17)(a18:Cu K "greater" KL f18)(a19:Cu K "lesser" OA f19)(a20:Cu K "part_of" KP f20)(a21:Cu K "_law_part_by" Eh f21)(a22:Cu K "_law_tape" E2 f22)(a23:Cu K "_law_bounds" FB f23)(a24:Cu K "_law_place" Fx f24)(a25:Cu K "_law_span" Go f25)(a26:Cu K "_law_plan" Gm f26)(a27:Cu K "_law_two" IM f27)(a28:Cu K "_law_wider" Fy f28)(a29:Cu K "summed" OC f29)(a30:Cu K "crossed" KI f30)(a31:Cu K "is_never" IP f31)(a32:Cu K "turn_of" KU f32)(a33:Cu K "is_tighter" F0 f33)(a34:Cu K "tightest" IV f34)(a35:Cu K "fault_in" IN f35)(a36:Cu K "negative" IR f36)(a37:Cu K "side_form" Gv f37)(a38:Cu K "time_form" Gw f38)(a39:Cu K "form_of" KJ f39)(a40:Cu K "placed" OB f40)(a41:Cu K "shared_bottom" EH f41)(a42:Cu K "plane_of" IS f42)(a43:Cu K "whole" SJ f43)(a44:Cu K "told_weights" Ek f44)(a45:Cu K "range_in" IT f45)(a46:Cu K "value_in" IW f46)(a47:Cu K "weights_by_time" DZ f47)(a48:qo K "without" HJ f48 2)(a49:Cu K "meet_in" KN f49)(a50:Cu K "piece_between" EG f50)(a51:Cu K "pieces_of" Gs f51)(a52:Cu K "size_of" KQ f52)(a53:Cu K "sizes_of" IU f53)(a54:Cu K "wedges_of" Gx f54)(a55:Cu K "meet_of" KO f55)(a56:Cu K "is_list_of" Fz f56)(a57:Cu K "is_whole" IQ f57)(a58:Cu K "is_part" KM f58)(a59:Cu K "is_weight" Gr f59)(a60:Cu K "are_weights" FC f60)(a61:Cu K "is_row" N9 f61)(a62:Cu K "weighed_sum" FE f62)(a63:Cu K "shows_row" Gu f63)(a64:Cu K "shows_apart" FD f64)(I:Cu K "law" QQ f65)(t:PySem.W.nsIn K mainGlobals "abs" =some none)(u:PySem.W.nsIn K mainGlobals "all" =some none)(x:PySem.W.nsIn K mainGlobals "any" =some none)(y_bool:PySem.W.nsIn K mainGlobals "bool" =some none)(c:PySem.W.nsIn K mainGlobals "enumerate" =some none)(y:PySem.W.nsIn K mainGlobals "int" =some none)(a:PySem.W.nsIn K mainGlobals "isinstance" =some none)(z:PySem.W.nsIn K mainGlobals "len" =some none)(o:PySem.W.nsIn K mainGlobals "list" =some none)(A:PySem.W.nsIn K mainGlobals "max" =some none)(B:PySem.W.nsIn K mainGlobals "min" =some none)(j:PySem.W.nsIn K mainGlobals "range" =some none)(C:PySem.W.nsIn K mainGlobals "set" =some none)(g:PySem.W.nsIn K mainGlobals "sorted" =some none)(k:PySem.W.nsIn K mainGlobals "tuple" =some none)(D:PySem.W.nsIn K mainGlobals "zip" =some none){qBACK_2:Tok}{qBACK_3:Tok}{qBACK_1:zu}{qBACK_1n:Nat}{qBACK_1d:zt zu}{qBACK_1s:Array (zt zx)}{qNOUGHT_5:Tok}{qNOUGHT_6:Tok}{qNOUGHT_4:zu}{qNOUGHT_4n:Nat}{qNOUGHT_4d:zt zu}{qNOUGHT_4s:Array (zt zx)}{qONCE_8:Tok}{qONCE_9:Tok}{qONCE_7:zu}{qONCE_7n:Nat}{qONCE_7d:zt zu}{qONCE_7s:Array (zt zx)}{qSTRICT_11:Tok}{qSTRICT_12:Tok}{qSTRICT_13:Tok}{qSTRICT_14:Tok}{qSTRICT_15:Tok}{qSTRICT_16:Tok}{qSTRICT_17:Tok}{qSTRICT_18:Tok}{qSTRICT_19:Tok}{qSTRICT_20:Tok}{qSTRICT_21:Tok}{qSTRICT_22:Tok}{qSTRICT_10:zu}{qSTRICT_10n:Nat}{qSTRICT_10d:zt zu}{qSTRICT_10s:Array (zt zx)}(a_STRICT:PySem.W.nsIn K mainGlobals "STRICT" =some (some (.ref qSTRICT_10)))(a_ONCE:PySem.W.nsIn K mainGlobals "ONCE" =some (some (.ref qONCE_7)))(a_NOUGHT:PySem.W.nsIn K mainGlobals "NOUGHT" =some (some (.ref qNOUGHT_4)))(a_BACK:PySem.W.nsIn K mainGlobals "BACK" =some (some (.ref qBACK_1)))(h_qBACK_1:K.lookup qBACK_1=some ⟨.type "tuple",qBACK_1d, .seq (List.toArray [(.int (-1) qBACK_2),(.int 1 qBACK_3)]) qBACK_1n,qBACK_1s⟩)(h_qNOUGHT_4:K.lookup qNOUGHT_4=some ⟨.type "tuple",qNOUGHT_4d, .seq (List.toArray [(.int 0 qNOUGHT_5),(.int 1 qNOUGHT_6)]) qNOUGHT_4n,qNOUGHT_4s⟩)(h_qONCE_7:K.lookup qONCE_7=some ⟨.type "tuple",qONCE_7d, .seq (List.toArray [(.int 1 qONCE_8),(.int 1 qONCE_9)]) qONCE_7n,qONCE_7s⟩)(h_qSTRICT_10:K.lookup qSTRICT_10=some ⟨.type "tuple",qSTRICT_10d, .seq (List.toArray [(.int 0 qSTRICT_11),(.int 1 qSTRICT_12),(.int 0 qSTRICT_13),(.int 1 qSTRICT_14),(.int 0 qSTRICT_15),(.int 0 qSTRICT_16),(.int 1 qSTRICT_17),(.int 1 qSTRICT_18),(.int 1 qSTRICT_19),(.int 1 qSTRICT_20),(.int 1 qSTRICT_21),(.int 1 qSTRICT_22)]) qSTRICT_10n,qSTRICT_10s⟩):∃U:FuncData,(∀(s:zw) (v:zx),BindsTo s U ⟨[v], []⟩ [("_law_script",v)])/\∀Y:ki,K.In Y->Y.Ns mainGlobals Z->Dp l.prog w K Z Y Mr 9 fa U ["_law_script"] (CH K 1 EO):=by have e:=yH.symm.trans (ABh X G I.1);cases e;obtain⟨aL,fdL,FL⟩:=I;obtain⟨⟨oc,od,kV,doc,pm,an,cdv,ct,osl,eL,lL,cL⟩,kL⟩:=FL;subst eL;have FL:=aJ lL cL kL;have O:=AAn X G t;have Xy:=AAn X G u;have dB:=AAn X G x;have WZ:=AAn X G y_bool;have E7:=AAn X G c;have Jj:=AAn X G y;have P:=AAn X G a;have m:=AAn X G z;have F9:=AAn X G o;have dC:=AAn X G A;have dD:=AAn X G B;have r:=AAn X G j;have dE:=AAn X G C;have OU:=AAn X G g;have d:=AAn X G k;have J:=AAn X G D;have p:Kc K Z "BACK" (.tup [(.int (-1)),(.int 1)]):=XM (ABh X G a_BACK) (MB h_qBACK_1 (.cons Bb (.cons Bb .nil)));have i:Kc K Z "NOUGHT" (.tup [(.int 0),(.int 1)]):=XM (ABh X G a_NOUGHT) (MB h_qNOUGHT_4 (.cons Bb (.cons Bb .nil)));have f:Kc K Z "ONCE" (.tup [(.int 1),(.int 1)]):=XM (ABh X G a_ONCE) (MB h_qONCE_7 (.cons Bb (.cons Bb .nil)));have b:Kc K Z "STRICT" (.tup [(.int 0),(.int 1),(.int 0),(.int 1),(.int 0),(.int 0),(.int 1),(.int 1),(.int 1),(.int 1),(.int 1),(.int 1)]):=XM (ABh X G a_STRICT) (MB h_qSTRICT_10 (.cons Bb (.cons Bb (.cons Bb (.cons Bb (.cons Bb (.cons Bb (.cons Bb (.cons Bb (.cons Bb (.cons Bb (.cons Bb (.cons Bb .nil)))))))))))));refine⟨PySem.W.fnOf "law" "law" (Dy QQ) (B8 QQ) (As QQ) .none kV doc pm an cdv ct,λs v=> .of_eq rfl,λY _ _=> ?_⟩;have hs:= @rg l.prog w K h Y Z;have H1:=hs a1 X G λ_ F _ _=>Ra (n:=0) F;have H2:=hs a2 X G λ_ F _ _=>PB (n:=1) F (BI H1);have H:=hs a3 X G λ_ F _ _=>Rb (n:=0) F O Jj;have H4:=hs a4 X G λ_ F _ _=>Tz (n:=1) F (BI H);have H5:=hs a5 X G λ_ F _ _=>Lm (n:=1) F (BI H);have L:=hs a6 X G λ_ F _ _=>T0 (n:=1) F (BI H);have E:=hs a7 X G λ_ F _ _=>Yw (n:=0) F;have Q:=hs a8 X G λ_ F _ _=>Yx (n:=0) F;have M:=hs a9 X G λ_ F _ _=>fC (n:=1) F (BI Q) O;have qu:=hs a10 X G λ_ F _ _=>bE (n:=2) F (BI M);have qv:=hs a11 X G λ_ F _ _=>fB (n:=2) F (BI M);have N:=hs a12 X G λ_ F _ _=>fD (n:=2) F (BI M);have ui:=hs a13 X G λ_ F _ _=>bF (n:=2) F (BI M);have wj:=hs a14 X G λ_ F _ _=>Ln (n:=3) F (BI qu) (BI qv) (BI N) (BI ui) d J;have wm:=hs a15 X G λ_ F _ _=>Vx (n:=4) F (BI E) (BI wj) m r;have wn:=hs a16 X G λ_ F _ _=>Rg (n:=5) F (BI wm);have wo:=hs a17 X G λ_ F _ _=>IG (n:=1) F (BI E) d;have wq:=hs a18 X G λ_ F _ _=>Vr (n:=1) F (BI E);have wr:=hs a19 X G λ_ F _ _=>Yz (n:=1) F (BI E);have wt:=hs a20 X G λ_ F _ _=>Vv (n:=6) F (BI E) (BI wn) (BI wo) (BI wq) (BI wr) d;have wu:=hs a21 X G λ_ F _ _=>Ll (n:=7) F (BI H1) (BI H4) (BI H5) (BI L) (BI wt);have wv:=hs a22 X G λ_ F _ _=>Rf (n:=0) F O Jj m;have ww:=hs a23 X G λ_ F _ _=>Nr (n:=1) F (BI H1);have uj:=hs a24 X G λ_ F _ _=>PC (n:=1) F (BI H1) (BI H);have wx:=hs a25 X G λ_ F _ _=>Re (n:=1) F (BI H1) (BI H);have wy:=hs a26 X G λ_ F _ _=>Rc (n:=2) F (BI H1) (BI uj) (BI wx) (BI L) m d;have wz:=hs a27 X G λ_ F _ _=>T8 (n:=3) F (BI ww) (BI H1) (BI H) (BI uj) (BI wy) (BI L) m r d;have xA:=hs a28 X G λ_ F _ _=>PD (n:=2) F (BI H1) (BI L) r d;have xB:=hs a29 X G λ_ F _ _=>Y1 (n:=0) F dC d J;have uk:=hs a30 X G λ_ F _ _=>Vp (n:=1) F (BI xB);have xC:=hs a31 X G λ_ F _ _=>UA (n:=0) F;have um:=hs a32 X G λ_ F _ _=>Vy (n:=0) F;have xD:=hs a33 X G λ_ F _ _=>PH (n:=1) F (BI E) (BI um);have uo:=hs a34 X G λ_ F _ _=>UG (n:=2) F (BI xD);have xE:=hs a35 X G λ_ F _ _=>T9 (n:=3) F (BI uk) (BI xC) (BI uo);have uq:=hs a36 X G λ_ F _ _=>UC (n:=0) F;have xF:=hs a37 X G λ_ F _ _=>Rk (n:=3) F (BI qu) (BI uq) (BI N);have xG:=hs a38 X G λ_ F _ _=>Rl (n:=1) F (BI uq) p i f;have ur:=hs a39 X G λ_ F _ _=>Vq (n:=4) F (BI xF) (BI xG);have xH:=hs a40 X G λ_ F _ _=>Y0 (n:=0) F d;have xI:=hs a41 X G λ_ F _ _=>KB (n:=1) F (BI Q);have xJ:=hs a42 X G λ_ F _ _=>UD (n:=2) F (BI xI) d;have ut:=hs a43 X G λ_ F _ _=>bH (n:=0) F;have xK:=hs a44 X G λ_ F _ _=>Lo (n:=1) F (BI Q) (BI ut) OU d;have xL:=hs a45 X G λ_ F _ _=>UE (n:=3) F (BI M) (BI uo) (BI um);have xM:=hs a46 X G λ_ F _ _=>UH (n:=4) F (BI qv) (BI N) (BI xL) (BI ut);have xN:=hs a47 X G λ_ F _ _=>IH (n:=3) F (BI E) (BI N) f;have xO:= @nI l.prog w K h Y Z _ _ _ _ _ _ _ a48 X G (λ_ F=>F.binds3 λ_ _ _ _ _ _ _ _ _=>⟨_,rfl,λ_=>rfl⟩) λ_ F=>Vz (n:=2) F (BI uk) m dE;have xP:=hs a49 X G λ_ F _ _=>Vt (n:=5) F (BI xE) (BI ur) (BI xH) (BI xJ) (BI xK) (BI xM) (BI xN) (xO.mono (by decide)) r b;have xQ:=hs a50 X G λ_ F _ _=>J9 (n:=3) F (BI qu) (BI qv) (BI ui) J;have xR:=hs a51 X G λ_ F _ _=>Ri (n:=4) F (BI xQ) m r;have xS:=hs a52 X G λ_ F _ _=>Vw (n:=0) F;have xT:=hs a53 X G λ_ F _ _=>UF (n:=3) F (BI N) (BI xS) r;have uv:=hs a54 X G λ_ F _ _=>Rm (n:=5) F (BI xR) (BI xT) E7;have xU:=hs a55 X G λ_ F _ _=>Vu (n:=6) F (BI xP) (BI uv) d;have qw:=hs a56 X G λ_ F _ _=>PF (n:=0) F P m F9 d;have qy:=hs a57 X G λ_ F _ _=>UB (n:=0) F WZ Jj P;have xV:=hs a58 X G λ_ F _ _=>Vs (n:=1) F (BI Q) (BI qy) O P m F9 d;have xW:=hs a59 X G λ_ F _ _=>Rh (n:=2) F (BI qw) (BI xV) (BI qy);have xX:=hs a60 X G λ_ F _ _=>Nt (n:=3) F (BI xW) Xy P m F9 r d;have xY:=hs a61 X G λ_ F _ _=>Yy (n:=4) F (BI xX) (BI qw) (BI qy);have xZ:=hs a62 X G λ_ F _ _=>Nv (n:=0) F J;have xb:=hs a63 X G λ_ F _ _=>Rj (n:=5) F (BI ur) (BI xZ) dB b;have xc:=hs a64 X G λ_ F _ _=>Nu (n:=6) F (BI qw) (BI xY) (BI xb) (BI uv) m J;exact jw (n:=8) FL (BI H2) (BI H1) (BI wu) (BI L) (BI wv) (BI wz) (BI xA) (BI xU) (BI xc) m dD r
def walk {l:PySem.W.OpenLaw}{q:km}{loose:zy Str}{XP:(Str->zt zx)->ki->Prop}{YP:kj->ki->Prop}{d:DefRec}{K:Params->AAB}(c:l.most=some 63)(e:d.params.defaults= [])(g:∀(w:kj) (h:ki),YP w h->(K w.params).In h)(F:∀(w:kj) (Z:Str->zt zx) (b:zu) (h:ki),(K w.params).In h->h.Ns mainGlobals Z->Z d.name=some (.ref b)-> ∃U:FuncData,(∀(s:zw) (u:zx),BindsTo s U ⟨[u], []⟩ [("_law_script",u)])/\∀Y:ki,(K w.params).In Y->Y.Ns mainGlobals Z->Dp l.prog w (K w.params) Z Y Mr 9 b U ["_law_script"] (CH (K w.params) 1 EO)):PySem.W.WalkO q loose XP YP l.row.toRowW d [] (λf vs=>PySem.call f vs):=
 L2.walk_of (n:=63) (k:=9) (x:="_law_script") (CX:=λ_=>Mr) (sp:=λw=>CH (K w.params) 1 EO) c (by decide) e ⟨rfl,by decide,by decide,rfl⟩ g F (λ_ _ a ns hl _ i=>PL.law_sp i (av ns hl)) λ_ _ _ _ _ z=>z
def atKD {K:AAB}{x:String}{s:Stmt}{d:Int}(t:Nat)(b n:Nat)(m:String)(i c f:Nat)(a:PySem.W.nsIn K mainGlobals (Str.ofString x)=some (some (.ref f)):=by kernel_rfl)(l:K.lookup f=some (u9 t x s m i c):=by kernel_rfl)(e:PySem.W.codeIn K (.ref c) (Str.ofString x)=true:=by kernel_rfl)(k:PySem.W.keepIn K (.ref f)=true:=by kernel_rfl)(g:K.lookup t=some ⟨.type "tuple",none, .seq #[.int d b] n, #[]⟩:=by kernel_rfl):qo K (Str.ofString x) s f d:=⟨a,_,⟨⟨_,_,_,_,_,_,_,_,_,t,rfl,l,e,_,b,n,g,rfl⟩,k⟩⟩
def atK {K:AAB}{x:String}{s:Stmt}(m:String)(i c f:Nat)(a:PySem.W.nsIn K mainGlobals (Str.ofString x)=some (some (.ref f)):=by kernel_rfl)(l:K.lookup f=some (fO x s m i c):=by kernel_rfl)(d:PySem.W.codeIn K (.ref c) (Str.ofString x)=true:=by kernel_rfl)(k:PySem.W.keepIn K (.ref f)=true:=by kernel_rfl):Cu K (Str.ofString x) s f:=u6 a l d k
end K88
open PySem PySem.W PyProof.Rows
def K88.lg:LeftO K88.pwA K88.q [] (λs=>xlAt K88.q [] s&&recOk [] s) (λs=>K88.KA.map s.heap.get?) (λw=>(K88.KK w.params).map λp=>some p.2) 6000:=λw=>PL.map_pair (PL.map5 (K88.l0 w) (K88.l1 w) (K88.l2 w) (K88.l3 w) (K88.l4 w)) (K88.l5 w)
theorem PySem.Challenge.cw_skylanes_k88_whole_wider_bounds_holds : PySem.Challenge.rw_skylanes_k88_whole_wider_bounds.Holds := by
 refine ⟨K88.w1, ?_⟩
 refine PySem.W.holds_open (q:=K88.q) (loose:= []) (Xt:=λs=>xlAt K88.q [] s&&recOk [] s) (XP:=XL K88.q []) (YP:=InK K88.KK) (N:=6000) K88.lg (InK.of (as:=K88.KA) λ_=>by kernel_rfl) InK.keeps (λs e=>xl_of s (Bool.and_eq_true_iff.mp e).1) XL.keeps (by rfl) (by rfl) (by rfl) (λs e=>recFacts_of (Bool.and_eq_true_iff.mp e).2) (by rfl) K88.w0 (by decide +kernel) ⟨rfl,rfl,rfl,rfl,rfl,by decide +kernel⟩ ?hw ?hc
 (case hw=>w_witness2)
 case hc=>
 refine K88.walk (l:=PySem.Challenge.rw_skylanes_k88_whole_wider_bounds) (K:=K88.KK) rfl rfl (λw h Y=>Y) ?F
 intro w mg fa h KX G nR
 refine' K88.all_mk KX G nR (K88.atK K88.m0 687 360 361) (K88.atK K88.m0 687 437 438) (K88.atK K88.m0 687 367 368) (K88.atK K88.m0 687 388 389) (K88.atK K88.m0 687 395 396) (K88.atK K88.m0 687 381 382) (K88.atK K88.m1 187 76 77) (K88.atK K88.m1 187 27 28) (K88.atK K88.m1 187 34 35) (K88.atK K88.m1 187 55 56) (K88.atK K88.m1 187 69 70) (K88.atK K88.m1 187 48 49) (K88.atK K88.m1 187 62 63) (K88.atK K88.m2 405 186 187) (K88.atK K88.m2 405 193 194) (K88.atK K88.m2 405 200 201) (K88.atK K88.m2 405 205 206) (K88.atK K88.m1 187 90 91) (K88.atK K88.m1 187 83 84) (K88.atK K88.m2 405 212 213) (K88.atK K88.m0 687 454 455) (K88.atK K88.m0 687 353 354) (K88.atK K88.m0 687 430 431) (K88.atK K88.m0 687 409 410) (K88.atK K88.m0 687 416 417) (K88.atK K88.m0 687 423 424) (K88.atK K88.m0 687 442 443) (K88.atK K88.m0 687 447 448) (K88.atK K88.m3 295 114 115) (K88.atK K88.m3 295 121 122) (K88.atK K88.m3 295 139 140) (K88.atK K88.m3 295 146 147) (K88.atK K88.m3 295 153 154) (K88.atK K88.m3 295 160 161) (K88.atK K88.m3 295 167 168) (K88.atK K88.m4 458 230 231) (K88.atK K88.m4 458 270 271) (K88.atK K88.m4 458 263 264) (K88.atK K88.m4 458 277 278) (K88.atK K88.m3 295 132 133) (K88.atK K88.m1 187 104 105) (K88.atK K88.m3 295 109 110) (K88.atK K88.m1 187 41 42) (K88.atK K88.m5 577 289 290) (K88.atK K88.m3 295 174 175) (K88.atK K88.m3 295 181 182) (K88.atK K88.m5 577 284 285) (K88.atKD 123 318 0 K88.m3 295 127 128) (K88.atK K88.m5 577 294 295) (K88.atK K88.m4 458 237 238) (K88.atK K88.m4 458 242 243) (K88.atK K88.m6 448 219 220) (K88.atK K88.m4 458 249 250) (K88.atK K88.m4 458 256 257) (K88.atK K88.m5 577 301 302) (K88.atK K88.m7 617 308 309) (K88.atK K88.m1 187 20 21) (K88.atK K88.m1 187 97 98) (K88.atK K88.m7 617 315 316) (K88.atK K88.m7 617 320 321) (K88.atK K88.m7 617 339 340) (K88.atK K88.m7 617 327 328) (K88.atK K88.m7 617 332 333) (K88.atK K88.m7 617 346 347) (K88.atK K88.m0 687 459 460) (by kernel_rfl) (by kernel_rfl) (by kernel_rfl) (by kernel_rfl) (by kernel_rfl) (by kernel_rfl) (by kernel_rfl) (by kernel_rfl) (by kernel_rfl) (by kernel_rfl) (by kernel_rfl) (by kernel_rfl) (by kernel_rfl) (by kernel_rfl) (by kernel_rfl) (by kernel_rfl) ?a_STRICT ?a_ONCE ?a_NOUGHT ?a_BACK ?h_qBACK_1 ?h_qNOUGHT_4 ?h_qONCE_7 ?h_qSTRICT_10 (qBACK_1:=223) (qBACK_1n:=0) (qBACK_1d:=none) (qBACK_1s:= #[]) (qBACK_2:=467) (qBACK_3:=468) (qNOUGHT_4:=221) (qNOUGHT_4n:=0) (qNOUGHT_4d:=none) (qNOUGHT_4s:= #[]) (qNOUGHT_5:=460) (qNOUGHT_6:=461) (qONCE_7:=222) (qONCE_7n:=0) (qONCE_7d:=none) (qONCE_7s:= #[]) (qONCE_8:=463) (qONCE_9:=464) (qSTRICT_10:=224) (qSTRICT_10n:=0) (qSTRICT_10d:=none) (qSTRICT_10s:= #[]) (qSTRICT_11:=470) (qSTRICT_12:=471) (qSTRICT_13:=472) (qSTRICT_14:=473) (qSTRICT_15:=474) (qSTRICT_16:=475) (qSTRICT_17:=476) (qSTRICT_18:=477) (qSTRICT_19:=478) (qSTRICT_20:=479) (qSTRICT_21:=480) (qSTRICT_22:=481)
 (case a_STRICT=>kernel_rfl)
 (case a_ONCE=>kernel_rfl)
 (case a_NOUGHT=>kernel_rfl)
 (case a_BACK=>kernel_rfl)
 (case h_qBACK_1=>kernel_rfl)
 (case h_qNOUGHT_4=>kernel_rfl)
 (case h_qONCE_7=>kernel_rfl)
 (case h_qSTRICT_10=>kernel_rfl)
end
