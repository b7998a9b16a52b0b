import PyProof.Rows.All
import KE.KItem
import KE.KDictList
import KE.IntBitsLaws
import PySem.Challenge.RW_skylanes_k38_the_other_way_about
set_option Elab.async false
set_option linter.all false
set_option maxRecDepth 100000
set_option maxHeartbeats 0
abbrev zy:=@List
abbrev zx:=PySem.Value
abbrev zw:=PySem.Shared
abbrev zu:=PySem.Addr
abbrev zt:=@Option
abbrev zr:=PySem.Expr
abbrev zq:=Bool
abbrev zp:=PySem.Program
abbrev zm:=PySem.World
abbrev zl:=PySem.Heap
abbrev zk:=PySem.Around
abbrev AAA:=@PySem.wpAny_bind
abbrev AAB:=PySem.W.Frag
abbrev AAC:=@PySem.wpAny_pure
abbrev AAD:=@if_neg
abbrev AAE:=@if_pos
abbrev AAF:=@PySem.Heap.lt_size
abbrev AAG:=@List.mem_cons
abbrev AAH:=@PySem.Heap.get?_push_of_some
abbrev AAI:=@List.mem_map
abbrev AAJ:=@Nat.le_refl
abbrev AAK:=@Nat.ne_of_lt
abbrev AAL:=@List.length_map
abbrev AAM:=@List.pairwise_cons
abbrev AAN:=@List.map_cons
abbrev AAO:=@PySem.Heap.get?_push_size
abbrev AAP:=@Nat.lt_of_lt_of_le
abbrev AAQ:=@Nat.lt_of_le_of_lt
abbrev AAR:=@List.mem_append
abbrev AAS:=@Bool.false_ne_true
abbrev AAT:=@List.size_toArray
abbrev AAU:=@PySem.wpAny_field
abbrev AAV:=@decide_eq_true
abbrev AAW:=@List.mem_filter
abbrev AAX:=@PySem.PassesOwn.never
abbrev AAY:=@Nat.le_trans
abbrev AAZ:=@List.getElem?_set_ne
abbrev AAa:=@PySem.wpAny_holding
abbrev AAb:=@Option.some.inj
abbrev AAc:=@decide_eq_false
abbrev AAd:=@List.getElem?_eq_getElem
abbrev AAe:=@List.length_cons
abbrev AAf:=@List.mem_singleton
abbrev AAg:=@Rat.one_mul
abbrev AAh:=@if_false
abbrev AAi:=@PySem.wpAny_seqItems
abbrev AAj:=@Nat.ne_of_gt
abbrev AAk:=@List.mem_append_right
abbrev AAl:=@List.getElem?_map
abbrev AAm:=@Nat.mul_le_mul_left
abbrev AAn:=@Rat.intCast_mul
abbrev AAo:=@Prod.ext
abbrev AAp:=@List.sum_cons
abbrev AAq:=@PySem.Heap.size_push
abbrev AAr:=@of_decide_eq_true
abbrev AAs:=@Nat.mul_pos
abbrev AAt:=@PyProof.Rows.boot_tuple
abbrev AAu:=@Bool.false_eq_true
abbrev AAv:=@if_true
abbrev AAw:=@List.mem_cons_of_mem
abbrev AAx:=@Bool.and_eq_true
abbrev AAy:=@Rat.add_zero
abbrev AAz:=@Nat.mul_assoc
abbrev AA0:=@PySem.wpAny_call_entry
abbrev AA1:=@List.getElem?_eq_some_iff
abbrev AA2:=@List.not_mem_nil
abbrev AA3:=@or_false
abbrev AA4:=@Int.natAbs_natCast
abbrev AA5:=@Nat.mul_le_mul
abbrev AA6:=@Ne.symm
abbrev AA7:=@PySem.wpAny_setField_rec
abbrev AA8:=@Int.natAbs_mul
abbrev AA9:=@Rat.num_divInt_den
abbrev ABA:=@Nat.le_add_right
abbrev ABB:=@List.mem_flatMap
abbrev ABC:=@Rat.mul_eq_zero
abbrev ABD:=@PySem.W.mg_none_of
abbrev ABE:=@PySem.wpAny_newObj_type
abbrev ABF:=@Nat.zero_le
abbrev ABG:=@List.getElem?_append_right
abbrev ABH:=@List.length_append
abbrev ABI:=@Nat.mul_le_mul_right
abbrev ABJ:=@PySem.wpAny_rule
abbrev ABK:=@Bool.not_true
abbrev ABL:=@List.mem_cons_self
abbrev ABM:=@PySem.wpAny_mono
abbrev ABN:=@List.getElem?_append_left
abbrev ABO:=@Rat.div_def
abbrev ABP:=@PySem.wpAny_setState_of
abbrev ABQ:=@List.foldl_cons
abbrev ABR:=@Rat.div_mul_cancel
abbrev ABS:=@Nat.mul_comm
abbrev ABT:=@Nat.lt_irrefl
abbrev ABU:=@PySem.wpAny_standAt
abbrev ABV:=@List.getElem?_replicate
abbrev ABW:=@List.length_replicate
abbrev ABX:=@PySem.wpAny_callSpecial?_slot
abbrev ABY:=@List.forIn_cons
abbrev ABZ:=@Int.fdiv_eq_ediv_of_nonneg
abbrev ABa:=@PySem.wpAny_onRaise
abbrev ABb:=@PySem.F.slot_zip_next
abbrev ABc:=@List.map_map
abbrev ABd:=@List.map_congr_left
abbrev ABe:=@Nat.le_of_ble_eq_true
abbrev ABf:=@List.any_cons
abbrev ABg:=@Rat.intCast_natCast
abbrev ABh:=@Int.mul_pos
abbrev ABi:=@PySem.F.slot_list_append
abbrev ABj:=@PySem.F.type_list_append
abbrev ABk:=@PySem.W.mg_of
abbrev ABl:=@PySem.wpAny_specialOf
abbrev ABm:=@List.mem_range
abbrev ABn:=@PySem.wpAny_passesOwn
abbrev ABo:=@Int.mul_one
abbrev ABp:=@List.nodup_cons
abbrev ABq:=@List.mem_of_getElem?
abbrev ABr:=@Int.toNat_natCast
abbrev ABs:=@List.take_of_length_le
abbrev ABt:=@Nat.div_le_self
abbrev ABu:=@Int.natAbs_neg
abbrev ABv:=@Nat.gcd_dvd_right
abbrev ABw:=@Int.natCast_ediv
abbrev ABx:=@Nat.le_of_dvd
abbrev ABy:=@of_decide_eq_false
abbrev ABz:=@List.map_append
abbrev AB0:=@List.nil_append
abbrev AB1:=@List.mem_of_getLast?
abbrev AB2:=@List.filter_cons
abbrev AB3:=@List.find?_cons
abbrev AB4:=@PySem.boot_len
abbrev AB5:=@Rat.intCast_zero
abbrev AB6:=@Array.length_toList
abbrev AB7:=@PySem.wpAny_isInstance
abbrev AB8:=@PySem.wpAny_truthy_bool
abbrev AB9:=@Nat.le_of_lt
abbrev ACA:=@List.getElem?_set_self
abbrev ACB:=@PyProof.Rows.callWith_type1
abbrev ACC:=@Bool.eq_iff_iff
abbrev ACD:=@PySem.codeAny_mono
abbrev ACE:=@PyProof.Rows.slot_tuple_getitem
abbrev ACF:=@List.map_nil
abbrev ACG:=@PySem.wpAny_of_eq
abbrev ACH:=@List.forIn_nil
abbrev ACI:=@PySem.wpAny_letGo
abbrev ACJ:=@Nat.gcd_comm
abbrev ACK:=@Nat.gcd_pos_of_pos_right
abbrev ACL:=@Nat.succ_mul
abbrev ACN:=@List.getLast?_cons_cons
abbrev ACO:=@Bool.true_and
abbrev ACP:=@Rat.intCast_lt_intCast
abbrev ACQ:=@Rat.mul_pos
abbrev ACR:=@Rat.mul_pos_iff_of_pos_left
abbrev ACS:=@List.length_filter_le
abbrev ACT:=@PySem.sizeLine_eq
abbrev ACU:=@PySem.wpAny_call
abbrev ACV:=@PySem.mem_of_lookup
abbrev ACW:=@PySem.Heap.get?_update_self
abbrev ACX:=@Nat.lt_trans
abbrev ACY:=@decide_eq_true_eq
abbrev ACZ:=@Nat.pow_add
abbrev ACa:=@List.getLast?_eq_some_getLast
abbrev ACb:=@Option.map_eq_some_iff
abbrev ACc:=@List.foldl_append
abbrev ACd:=@PySem.F.called_set
abbrev ACe:=@Rat.divInt_eq_div
abbrev ACf:=@Rat.mul_comm
abbrev ACg:=@Int.emod_nonneg
abbrev ACh:=@Int.emod_lt_of_pos
abbrev ACi:=@PySem.F.slot_tuple_hash
abbrev ACj:=@Array.forIn_toList
abbrev ACk:=@PySem.wpAny_forIn_list
abbrev ACl:=@PySem.F.slot_tuple_eq
abbrev ACm:=@PySem.wpAny_execs_nil
abbrev ACn:=@PySem.Calls.callWith_builtin
abbrev ACo:=@List.reverse_cons
abbrev ACp:=@PySem.F.slot_tuple_iterator_next
abbrev ACq:=@List.zipIdx_cons
abbrev ACr:=@List.zipIdx_nil
abbrev ACs:=@PySem.wpAny_attempt
abbrev ACt:=@PySem.F.entry_zip_next
abbrev ACu:=@PySem.F.args_zip_next_1
abbrev ACv:=@PySem.wpAny_pyIter_zip
abbrev ACw:=@List.all_eq_true
abbrev ACx:=@List.getElem?_set
abbrev ACy:=@Nat.pow_le_pow_right
abbrev ACz:=@Rat.num_divInt
abbrev AC0:=@decide_eq_decide
abbrev AC1:=@Int.natCast_mul
abbrev AC2:=@Rat.divInt_eq_divInt_iff
abbrev AC3:=@Int.mul_comm
abbrev AC4:=@Int.mul_assoc
abbrev AC5:=@List.getElem?_drop
abbrev AC6:=@List.set_cons_succ
abbrev AC7:=@List.cons_append
abbrev AC8:=@List.getElem_mem
abbrev AC9:=@PySem.call_meetsIn
abbrev ADA:=@PySem.Heap.get?_update_ne
abbrev ADB:=@PySem.wpAny_askSetting
abbrev ADC:=@Option.getD_some
abbrev ADD:=@decide_eq_true_iff
abbrev ADE:=@Int.le_refl
abbrev ADF:=@Rat.intCast_inj
abbrev ADG:=@Rat.le_refl
abbrev ADH:=@decide_eq_false_iff_not
abbrev ADI:=@List.length_flatMap
abbrev ADJ:=@Nat.mul_lt_mul''
abbrev ADK:=@Rat.mul_lt_mul_left
abbrev ADL:=@Rat.not_lt
abbrev ADM:=@PySem.wpAny_tupleItemsOf
abbrev ADN:=@Nat.add_assoc
abbrev ADO:=@PySem.isSubtype_tuple_tuple
abbrev ADP:=@Bool.not_false
abbrev ADQ:=@beq_eq_false_iff_ne
abbrev ADR:=@List.filterMap_cons
abbrev ADS:=@PySem.wpAny_assign_Name
abbrev ADT:=@Int.fmod_eq_emod_of_nonneg
abbrev ADU:=@PySem.Calls.spliced_cons
abbrev ADV:=@List.append_nil
abbrev ADW:=@PySem.wpAny_Call_Name_kw
abbrev ADX:=@List.of_mem_zip
abbrev ADY:=@List.length_take
abbrev ADZ:=@PySem.noFill_tuple_add
abbrev ADa:=@PySem.F.slot_tuple_add
abbrev ADb:=@PySem.F.entry_tuple_add
abbrev ADc:=@PySem.F.args_tuple_add_2
abbrev ADd:=@PySem.wpAny_comprehension_free
abbrev ADe:=@PySem.Heap.SameBut.update
abbrev ADf:=@PySem.wpAny_updateSeq_pair
abbrev ADg:=@PySem.wpAny_pyIter_list
abbrev ADh:=@List.drop_eq_getElem_cons
abbrev ADi:=@Nat.pow_succ
abbrev ADj:=@Rat.den_divInt
abbrev ADk:=@Rat.divInt_add_divInt
abbrev ADl:=@Rat.divInt_mul_divInt
abbrev ADm:=@Nat.gcd_dvd_left
abbrev ADn:=@Int.sign_eq_one_of_pos
abbrev ADo:=@Bool.true_or
abbrev ADp:=@List.length_nil
abbrev ADq:=@PySem.tupleKind_room_in1
abbrev ADr:=@PySem.F.slot_dict_get
abbrev ADs:=@PySem.wpAny_Call_method
abbrev ADt:=@PySem.F.plainAttrs_dict
abbrev ADu:=@Nat.zero_add
abbrev ADv:=@PySem.codeAny_builtin
abbrev ADw:=@PySem.F.slot_set_init
abbrev ADx:=@List.pairwise_map
abbrev ADy:=@List.length_eq_zero_iff
abbrev ADz:=@List.dropLast_concat_getLast
abbrev AD0:=@Nat.dvd_trans
abbrev AD1:=@List.set_cons_zero
abbrev AD2:=@Int.lt_trichotomy
abbrev AD3:=@Nat.two_pow_pos
abbrev AD4:=@Rat.intCast_sub
abbrev AD5:=@Rat.intCast_add
abbrev AD6:=@Rat.natCast_mul
abbrev AD7:=@PySem.W.cellsFrom_some
abbrev AD8:=@PyProof.noPylong_of_log2
abbrev AD9:=@PySem.F.entry_tuple_iterator_next
abbrev AEA:=@PySem.F.args_tuple_iterator_next_1
abbrev AEB:=@List.drop_eq_nil_of_le
abbrev AEC:=@Int.gcd_eq_natAbs_gcd_natAbs
abbrev AED:=@Int.fdiv_eq_ediv_of_dvd
abbrev AEE:=@Int.sign_eq_neg_one_of_neg
abbrev AEF:=@PySem.F.entry_dict_get
abbrev AEG:=@PySem.F.args_dict_get_3
abbrev AEH:=@PySem.F.slot_dict_itemiterator_iter
abbrev AEI:=@List.getElem?_eq_none_iff
abbrev AEJ:=@PySem.F.slot_dict_items
abbrev AEK:=@PyProof.Rows.boot_set
abbrev AEL:=@PySem.F.plain_list_iadd
abbrev AEM:=@PySem.F.slot_dict_values
abbrev AEN:=@List.getElem?_zip_eq_some
section
namespace L2
open PySem
def Dt (s:Stmt):Arguments:=match s with
 | .FunctionDef _ a _ _ _ _ _ _ _ _=>a
 | _=>{posonlyargs:= [],args:= [],vararg:=none,kwonlyargs:= [],kw_defaults:= [],kwarg:=none,defaults:= [] }
def B8 (s:Stmt):zy Stmt:=match s with
 | .FunctionDef _ _ b _ _ _ _ _ _ _=>b
 | _=> []
def Aq (s:Stmt):Scope:=match s with
 | .FunctionDef _ _ _ _ _ _ sc _ _ _=>sc
 | _=>{kind:= .function,names:= [],isGenerator:=false,isCoroutine:=false}
end L2
namespace K38
open PySem L2 PyProof.Rows
abbrev pwA:=PySem.Challenge.pw_skylanes_k38_the_other_way_about
def top (i:Nat):Stmt:=K38.pwA.main.body.getD i (.Pass ⟨0,0,0,0⟩)
abbrev Ev:Stmt:=top 53
abbrev Fo:Stmt:=top 64
abbrev GY:Stmt:=top 54
abbrev EY:Stmt:=top 58
abbrev GX:Stmt:=top 55
abbrev Ho:Stmt:=top 57
abbrev Fq:Stmt:=top 59
abbrev Hq:Stmt:=top 56
abbrev Gb:Stmt:=top 65
abbrev C7:Stmt:=top 67
abbrev Fp:Stmt:=top 60
abbrev FA:Stmt:=top 68
abbrev Ew:Stmt:=top 52
abbrev E9:Stmt:=top 63
abbrev Ga:Stmt:=top 61
abbrev GZ:Stmt:=top 62
abbrev Hr:Stmt:=top 66
abbrev NF:Stmt:=top 8
abbrev NG:Stmt:=top 1
abbrev VE:Stmt:=top 2
abbrev RD:Stmt:=top 5
abbrev Hv:Stmt:=top 35
abbrev FB:Stmt:=top 45
abbrev Hu:Stmt:=top 44
abbrev VF:Stmt:=top 4
abbrev J6:Stmt:=top 29
abbrev Hy:Stmt:=top 38
abbrev VD:Stmt:=top 7
abbrev RE:Stmt:=top 6
abbrev EZ:Stmt:=top 24
abbrev J7:Stmt:=top 25
abbrev J2:Stmt:=top 46
abbrev RC:Stmt:=top 26
abbrev NI:Stmt:=top 12
abbrev Jz:Stmt:=top 13
abbrev Ht:Stmt:=top 16
abbrev J8:Stmt:=top 17
abbrev Fs:Stmt:=top 18
abbrev Hz:Stmt:=top 19
abbrev Hs:Stmt:=top 20
abbrev Gd:Stmt:=top 41
abbrev Ge:Stmt:=top 40
abbrev J1:Stmt:=top 42
abbrev NH:Stmt:=top 15
abbrev EA:Stmt:=top 9
abbrev Hw:Stmt:=top 11
abbrev RF:Stmt:=top 3
abbrev Ea:Stmt:=top 48
abbrev Hx:Stmt:=top 21
abbrev IA:Stmt:=top 22
abbrev DV:Stmt:=top 47
abbrev G2:Stmt:=top 14
abbrev J3:Stmt:=top 49
abbrev D9:Stmt:=top 36
abbrev Gc:Stmt:=top 37
abbrev Gf:Stmt:=top 39
abbrev J4:Stmt:=top 50
abbrev J5:Stmt:=top 27
abbrev PJ:Stmt:=top 69
def m0:String:="law_skylanes_k38_the_other_way_about"
def m1:String:="skylanes.fractions"
def m2:String:="skylanes.wedges"
def m3:String:="skylanes.meets"
def m4:String:="skylanes.nearness"
def m5:String:="skylanes.plans"
def m6:String:="skylanes.planes"
def eN (P:Params)(x:String)(i:Nat)(v:zx):DictEntry:=⟨PyData.keyHash P (Str.ofString x), .str (Str.ofString x) i,v⟩
abbrev eR (P:Params)(x:String)(i f:Nat):=eN P x i (.ref f)
def fO (x:String)(s:Stmt)(m:String)(i c:Nat):Obj:=⟨.type "function",none, .func (PySem.W.fnOf (Str.ofString x) (Str.ofString x) (Dt s) (B8 s) (Aq s) .none .none .none (.str (Str.ofString m) i) none (.ref c) .none), #[]⟩
def tI (t:Nat)(x:String)(s:Stmt)(m:String)(i c:Nat):Obj:=⟨.type "function",none, .func (PySem.W.fnOf (Str.ofString x) (Str.ofString x) (Dt s) (B8 s) (Aq s) (.ref t) .none .none (.str (Str.ofString m) i) none (.ref c) .none), #[]⟩
def rV:Nat->zx
 | 0=> .none
 | n+1=> .ref (n+1)
def fc (x:String)(s:Stmt)(m:String)(a c f i l n g b d e h j u:Nat)(r:AAB):AAB:=
 (c,⟨.type "code",none, .fields #[.str (Str.ofString x) i, .str (Str.ofString x) (i+1), .str (Str.ofString "/claim/cut.py") (i+2), .int l 0, .int n 0, .int 0 0, .int 0 0, .int g 0,rV b, .bool true, .int 181 0,rV d, .none,rV e,rV h,rV j, .int u 0, .int l 0, .str (Str.ofString "/claim/cut.py") (u+1)], #[]⟩) ::
 (f,fO x s m a c)::r
def v8 (t:Nat)(x:String)(s:Stmt)(m:String)(a c f i l n g b d e h j u:Nat)(r:AAB):AAB:=
 (c,⟨.type "code",none, .fields #[.str (Str.ofString x) i, .str (Str.ofString x) (i+1), .str (Str.ofString "/claim/cut.py") (i+2), .int l 0, .int n 0, .int 0 0, .int 0 0, .int g 0,rV b, .bool true, .int 181 0,rV d, .none,rV e,rV h,rV j, .int u 0, .int l 0, .str (Str.ofString "/claim/cut.py") (u+1)], #[]⟩) ::
 (f,tI t x s m a c)::r
def rJ (P:Params):Obj:=⟨.type "dict",none, .dict #[eN P "__name__" 165 (.str (Str.ofString "law_skylanes_k38_the_other_way_about") 606),eN P "__doc__" 166 .none,eN P "__package__" 167 .none,eN P "__loader__" 168 (.builtin "__main__.__loader__#opaque"),eN P "__spec__" 169 .none,eR P "__annotations__" 170 6,eR P "__builtins__" 171 4,eN P "__file__" 173 (.str (Str.ofString "/claim/cut.py") 172),eN P "__cached__" 174 .none,eR P "common" 196 21,eR P "part" 205 28,eR P "whole" 212 35,eR P "plus" 220 42,eR P "minus" 228 49,eR P "times" 236 56,eR P "over" 244 63,eR P "before" 252 70,eR P "shared_bottom" 262 77,eR P "plane_of" 270 82,eR P "summed" 276 87,eR P "crossed" 285 94,eR P "without" 292 100,eR P "placed" 298 105,eR P "is_never" 306 112,eR P "turn_of" 316 119,eR P "is_tighter" 327 126,eR P "tightest" 338 133,eR P "fault_in" 349 140,eR P "range_in" 361 147,eR P "value_in" 372 154,eR P "spot_between" 380 159,eR P "spot_at" 389 166,eR P "later" 395 171,eR P "put_off" 401 176,eR P "size_of" 411 183,eR P "NOUGHT" 416 184,eR P "ONCE" 419 185,eR P "BACK" 423 186,eR P "STRICT" 436 187,eR P "negative" 443 194,eR P "piece_between" 456 201,eR P "pieces_of" 462 206,eR P "sizes_of" 474 213,eR P "wedges_of" 491 220,eR P "time_form" 504 227,eR P "side_form" 522 234,eR P "form_of" 530 241,eR P "is_there" 540 248,eR P "is_one_time" 551 255,eR P "is_meet" 567 262,eR P "weights_by_time" 578 269,eR P "told_weights" 584 274,eR P "meet_in" 590 279,eR P "meet_of" 605 286,eR P "_law_tape" 617 293,eR P "_law_draw" 627 300,eR P "_law_part" 638 307,eR P "_law_less" 646 314,eR P "_law_sum" 654 321,eR P "_law_off" 662 328,eR P "_law_product" 670 335,eR P "_law_ratio" 678 342,eR P "_law_place" 686 349,eR P "_law_span" 694 356,eR P "_law_plan" 706 363,eR P "_law_bounds" 714 370,eR P "_law_apart" 722 377,eR P "_law_spot" 728 382,eR P "_law_two" 734 387,eR P "_law_corner_more" 742 394,eR P "_law_scaled" 748 399,eR P "law" 754 404] 72, #[]⟩
def KK (P:Params):AAB:=(3,rJ P)::(fc "_law_draw" Ev m0 606 299 300 618 214 2 3 294 295 296 297 298 625 <| fc "_law_apart" Fo m0 606 376 377 715 271 1 3 371 372 373 374 375 720 <| fc "_law_part" GY m0 606 306 307 628 222 2 3 301 302 303 304 305 636 <| fc "_law_product" EY m0 606 334 335 663 234 2 3 329 330 331 332 333 668 <| fc "_law_less" GX m0 606 313 314 639 228 2 3 308 309 310 311 312 644 <| fc "_law_off" Ho m0 606 327 328 655 232 2 3 322 323 324 325 326 660 <| fc "_law_ratio" Fq m0 606 341 342 671 236 2 3 336 337 338 339 340 676 <| fc "_law_sum" Hq m0 606 320 321 647 230 2 3 315 316 317 318 319 652 <| fc "_law_spot" Gb m0 606 381 382 723 274 2 3 378 379 0 0 380 726 <| fc "_law_corner_more" C7 m0 606 393 394 735 297 1 3 388 389 390 391 392 740 <| fc "_law_place" Fp m0 606 348 349 679 238 1 3 343 344 345 346 347 684 <| fc "_law_scaled" FA m0 606 398 399 743 300 3 3 395 396 0 0 397 746 <| fc "_law_tape" Ew m0 606 292 293 608 208 2 3 287 288 289 290 291 615 <| fc "_law_bounds" E9 m0 606 369 370 707 266 1 3 364 365 366 367 368 712 <| fc "_law_span" Ga m0 606 355 356 687 245 1 3 350 351 352 353 354 692 <| fc "_law_plan" GZ m0 606 362 363 695 250 1 3 357 358 359 360 361 704 <| fc "_law_two" Hr m0 606 386 387 729 283 1 3 383 384 0 0 385 732 <| fc "before" NF m1 187 69 70 245 21 2 3 64 65 66 67 68 250 <| fc "common" NG m1 187 20 21 189 2 2 3 15 16 17 18 19 194 <| fc "part" VE m1 187 27 28 197 6 2 3 22 23 24 25 26 203 <| fc "minus" RD m1 187 48 49 221 15 2 3 43 44 45 46 47 226 <| fc "negative" Hv m2 412 193 194 437 121 1 3 188 189 190 191 192 441 <| fc "is_one_time" FB m3 531 254 255 541 165 4 3 249 250 251 252 253 549 <| fc "is_there" Hu m3 531 247 248 533 163 2 3 242 243 244 245 246 538 <| fc "plus" VF m1 187 41 42 213 13 2 3 36 37 38 39 40 218 <| fc "size_of" J6 m4 402 182 183 404 114 2 3 177 178 179 180 181 409 <| fc "sizes_of" Hy m2 412 212 213 463 132 3 3 207 208 209 210 211 472 <| fc "over" VD m1 187 62 63 237 19 2 3 57 58 59 60 61 242 <| fc "times" RE m1 187 55 56 229 17 2 3 50 51 52 53 54 234 <| fc "spot_between" EZ m5 373 158 159 375 99 3 3 155 156 0 0 157 378 <| fc "spot_at" J7 m5 373 165 166 381 102 2 3 160 161 162 163 164 387 <| fc "is_meet" J2 m3 531 261 262 552 168 5 3 256 257 258 259 260 565 <| fc "later" RC m5 373 170 171 390 109 2 3 167 168 0 0 169 393 <| fc "summed" NI m6 263 86 87 271 33 4 3 83 84 0 0 85 274 <| fc "crossed" Jz m6 263 93 94 277 39 3 3 88 89 90 91 92 283 <| fc "is_never" Ht m6 263 111 112 299 56 1 3 106 107 108 109 110 304 <| fc "turn_of" J8 m6 263 118 119 307 59 2 3 113 114 115 116 117 314 <| fc "is_tighter" Fs m6 263 125 126 317 63 3 3 120 121 122 123 124 325 <| fc "tightest" Hz m6 263 132 133 328 71 3 3 127 128 129 130 131 336 <| fc "fault_in" Hs m6 263 139 140 339 77 2 3 134 135 136 137 138 347 <| fc "side_form" Gd m2 412 233 234 505 151 2 3 228 229 230 231 232 520 <| fc "time_form" Ge m2 412 226 227 492 147 2 3 221 222 223 224 225 502 <| fc "form_of" J1 m2 412 240 241 523 160 2 3 235 236 237 238 239 528 <| fc "placed" NH m6 263 104 105 293 50 3 3 101 102 0 0 103 296 <| fc "shared_bottom" EA m1 187 76 77 253 23 1 3 71 72 73 74 75 260 <| fc "plane_of" Hw m6 263 81 82 265 29 3 3 78 79 0 0 80 268 <| fc "whole" RF m1 187 34 35 206 11 1 3 29 30 31 32 33 210 <| fc "told_weights" Ea m3 531 273 274 579 183 1 3 270 271 0 0 272 582 <| fc "range_in" Hx m6 263 146 147 350 86 2 3 141 142 143 144 145 359 <| fc "value_in" IA m6 263 153 154 362 95 2 3 148 149 150 151 152 370 <| fc "weights_by_time" DV m3 531 268 269 568 176 1 3 263 264 265 266 267 576 <| v8 95 "without" G2 m6 263 99 100 287 41 3 3 96 97 0 0 98 290 <| fc "meet_in" J3 m3 531 278 279 585 188 1 3 275 276 0 0 277 588 <| fc "piece_between" D9 m2 412 200 201 444 123 2 3 195 196 197 198 199 454 <| fc "pieces_of" Gc m2 412 205 206 457 130 1 3 202 203 0 0 204 460 <| fc "wedges_of" Gf m2 412 219 220 475 138 3 3 214 215 216 217 218 489 <| fc "meet_of" J4 m3 531 285 286 591 199 3 3 280 281 282 283 284 603 <| fc "put_off" J5 m5 373 175 176 396 111 4 3 172 173 0 0 174 399 <| fc "law" PJ m0 606 403 404 749 306 1 3 400 401 0 0 402 752 <| [(187,⟨.type "tuple",none, .seq #[(.int 0 424),(.int 1 425),(.int 0 426),(.int 1 427),(.int 0 428),(.int 0 429),(.int 1 430),(.int 1 431),(.int 1 432),(.int 1 433),(.int 1 434),(.int 1 435)] 0, #[]⟩),(185,⟨.type "tuple",none, .seq #[(.int 1 417),(.int 1 418)] 0, #[]⟩),(184,⟨.type "tuple",none, .seq #[(.int 0 414),(.int 1 415)] 0, #[]⟩),(186,⟨.type "tuple",none, .seq #[(.int (-1) 421),(.int 1 422)] 0, #[]⟩),(95,⟨.type "tuple",none, .seq #[(.int 2 286)] 0, #[]⟩)])
def KA:zy zu:= [3,299,300,376,377,306,307,334,335,313,314,327,328,341,342,320,321,381,382,393,394,348,349,398,399,292,293,369,370,355,356,362,363,386,387,69,70,20,21,27,28,48,49,193,194,254,255,247,248,41,42,182,183,212,213,62,63,55,56,158,159,165,166,261,262,170,171,86,87,93,94,111,112,118,119,125,126,132,133,139,140,233,234,226,227,240,241,104,105,76,77,81,82,34,35,273,274,146,147,153,154,268,269,99,100,278,279,200,201,205,206,219,220,285,286,175,176,403,404,187,185,184,186,95]
def q:zp:={K38.pwA with main:={K38.pwA.main with body:= [top 0,top 1,top 2,top 3,top 4,top 5,top 6,top 7,top 8,top 9,top 10,top 11,top 12,top 13,top 14,top 15,top 16,top 17,top 18,top 19,top 20,top 21,top 22,top 23,top 24,top 25,top 26,top 27,top 28,top 29,top 30,top 31,top 32,top 33,top 34,top 35,top 36,top 37,top 38,top 39,top 40,top 41,top 42,top 43,top 44,top 45,top 46,top 47,top 48,top 49,top 50,top 51,top 52,top 53,top 54,top 55,top 56,top 57,top 58,top 59,top 60,top 61,top 62,top 63,top 64,top 65,top 66,top 67,top 68,top 69] }}
end K38
open PySem PySem.W PyProof.Rows
def K38.se (s:zw):=openSeen K38.q [] (importedModules (K38.pwA).main.body) (λs=>xlAt K38.q [] s&&recOk [] s) true s
def K38.go:=openGood K38.q []
def K38.rn (w:zm):=openEnds treeTable K38.pwA w 6000
def K38.l0:∀w,(K38.rn w).map (λs=>(K38.se s).1)=some (K38.go.1):=by intro w;kernel_rfl
def K38.l1:∀w,(K38.rn w).map (λs=>(K38.se s).2.1)=some (K38.go.2.1):=by intro w;kernel_rfl
def K38.l2:∀w,(K38.rn w).map (λs=>(K38.se s).2.2.1)=some (K38.go.2.2.1):=by intro w;kernel_rfl
def K38.l3:∀w,(K38.rn w).map (λs=>(K38.se s).2.2.2.1)=some (K38.go.2.2.2.1):=by intro w;kernel_rfl
def K38.l4:∀w,(K38.rn w).map (λs=>(K38.se s).2.2.2.2)=some (K38.go.2.2.2.2):=by intro w;kernel_rfl
def K38.l5:∀w,(K38.rn w).map (λs=>K38.KA.map s.heap.get?)=some ((K38.KK w.params).map λp=>some p.2):=by intro w;kernel_rfl
def K38.w1:PySem.Challenge.rw_skylanes_k38_the_other_way_about.wellSaid=true:=by
 kernel_rfl
def K38.w0:PySem.Challenge.rw_skylanes_k38_the_other_way_about.row.wellSaid=true:=by
 kernel_rfl
end
namespace PySem
open Sem (wp)
abbrev FK:=(Int×Int)×Int
section
variable {prog:zp}{w:zm}
def HU (prog:zp)(w:zm)(h:zl)(k:FK)(a:zu):Prop:=∃o items n b u,h.get? a=some o/\o.cls= .type "tuple" /\o.data= .seq items n/\items.toList= [.ref b, .int k.2 u] /\IsTupleKey (intKind prog w) h [k.1.1,k.1.2] b
def HU.typeIs {s:zw}{k:FK}{a:zu}(x:HU prog w s.heap k a):s.TypeIs (.ref a) "tuple" :=let ⟨o,_,_,_,_,b,hc,_⟩:=x;⟨o,b,hc⟩
def HU.inj {h:zl}{a:zu}{x y:FK}(hx:HU prog w h x a)(i:HU prog w h y a):x=y:=by obtain⟨o,items,n,b,u,j,_,hd,hi,hk⟩:=hx;obtain⟨k,c,p,b',r,l,_,e,f,m⟩:=i;obtain rfl:o=k:=AAb (j.symm.trans l);rw[hd] at e;injection e with h1 _;subst h1;rw[hi] at f;injection f with h1 h2;injection h1 with h1;subst h1;injection h2 with h2 _;injection h2 with h2 _;have:=hk.inj m;obtain⟨⟨s,t⟩,v⟩:=x;obtain⟨⟨y1,y2⟩,y3⟩:=y;injection this with g d;injection d with d _;simp only at h2 g d;subst h2;subst g;subst d;rfl
def HU.keeps {h h':zl}{k:FK}{a d:zu}{o:Obj}{es ep}(x:HU prog w h k a)(e:h.get? d=some o)(hd:o.data= .dict es ep)(hs:Heap.SameBut d h h'):HU prog w h' k a:=by
 obtain⟨f,items,n,b,u,g,hc,c,hi,hk⟩:=x;have i:a≠d:=by rintro rfl;obtain rfl:f=o:=AAb (g.symm.trans e);rw[hd] at c;exact nomatch c
 exact⟨f,items,n,b,u,(hs.2 a i).trans g,hc,c,hi,hk.keeps e hd hs⟩
def UT (prog:zp)(w:zm)(k:FK):Int:=reduceHash (Builtin.Tuple.tupleHashOf [tupleKeyHash (intKind prog w) [k.1.1,k.1.2],hashInt k.2])
variable {A:zk}{E:zx->zw->Prop}{s:zw}
def LO {k:FK}{a:zu}{Q:Int->zw->Prop}(hu:A.units+1<cLine)(hk:HU prog w s.heap k a)(h:Q (UT prog w k) {s with toks:=s.toks+5}):wpAny (model prog w) A (pyHash (.ref a)) Q E s:=by
 have f:=hk.typeIs;obtain⟨o,items,n,b,u,i,_,hd,hi,j⟩:=hk;unfold pyHash;first | unfold pyHashByItsType|skip
 first | refine AAA (wpAny_cRoomFor_or (.inr (by omega)) ?_)|skip
 refine AAA (ABl f ACi.lookup ?_);show wpAny _ _ (if (some (Value.builtin "tuple.__hash__")==some Value.none)=true then _ else _) Q E s;rw[AAD (by rw[beq_builtin_none];exact AAS)];refine AAA (ABl f ACi.lookup ?_);show wpAny _ _ (callSpecialIfBoundUnlessNone? (.ref a) "__hash__" _ >>= _) Q E s;refine AAA (wpAny_callSpecialIfBoundUnlessNone?_slot f ACi (AA0 ACi f F.entry_tuple_hash ?_ (F.args_tuple_hash_1 _)));show wpAny _ _ (Builtin.Tuple.tupleItemsOf (.ref a) >>= _) _ _ s;refine AAA (ADM i hd ?_);refine AAA ?_;rw[<-ACj,hi];refine ACk _
  (λrest (r:Array Int) d=>(rest= [.ref b, .int k.2 u] /\r.toList= [] /\d=s)\/(rest= [.int k.2 u] /\r.toList= [tupleKeyHash (intKind prog w) [k.1.1,k.1.2]] /\d={s with toks:=s.toks+3})\/
    (rest= [] /\r.toList= [tupleKeyHash (intKind prog w) [k.1.1,k.1.2],hashInt k.2] /\d={s with toks:=s.toks+4}))
  _ ?_ ?_ _ _ (.inl ⟨rfl,rfl,rfl⟩)
 .rintro x rest r d (⟨c,e,rfl⟩|⟨c,e,rfl⟩|⟨c,_⟩)
  .cases c;refine AAA (wpAny_pyHash_tuple (knd:=intKind prog w) (by first | exact hu|omega) j ?_);exact AAC (.inr (.inl ⟨rfl,by simp[e],rfl⟩))
  .cases c;refine AAA (wpAny_pyHash_int ?_);exact AAC (.inr (.inr ⟨rfl,by simp[e],by simp[ADN]⟩))
  .cases c
 .rintro r d (⟨c,_⟩|⟨c,_⟩|⟨_,e,rfl⟩)
  .cases c
  .cases c
  .show wpAny _ _ (retInt (Builtin.Tuple.tupleHashOf r.toList)) _ _ _;rw[e];refine wpAny_ret_mkInt ?_;show wpAny _ _ (if (decide (-(2:Int)^63<=Builtin.Tuple.tupleHashOf [tupleKeyHash (intKind prog w) [k.1.1,k.1.2],hashInt k.2])&&decide (Builtin.Tuple.tupleHashOf [tupleKeyHash (intKind prog w) [k.1.1,k.1.2],hashInt k.2] < 2^63))=true then _ else _) Q E _;unfold UT reduceHash at h;by_cases g:(decide (-(2:Int)^63<=Builtin.Tuple.tupleHashOf [tupleKeyHash (intKind prog w) [k.1.1,k.1.2],hashInt k.2])&&decide (Builtin.Tuple.tupleHashOf [tupleKeyHash (intKind prog w) [k.1.1,k.1.2],hashInt k.2] < 2^63))=true
   .rw [AAE g];rw[AAE g] at h;exact AAC (by simpa[ADN] using h)
   .rw [AAD g];rw[AAD g] at h;exact AAA (ABJ (AAC (by simpa[ADN] using h)))
def UU {x y:FK}{a b:zu}{P:Fin->zw->Prop}(hu:A.units<cLine)(hx:HU prog w s.heap x a)(o:HU prog w s.heap y b)(h:P (.done (.ret (.bool (decide (x=y))))) s):wpAny (model prog w) A (Builtin.«tuple.__eq__» ⟨[.ref a, .ref b], []⟩) P E s:=by
 have F:=o.typeIs;obtain⟨S,xs,T,ba,p,G,_,H,t,I⟩:=hx;obtain⟨U,B,W,J,C,K,_,hdb,D,L⟩:=o;have M:xs.size=2:=by rw[<-AB6,t];rfl
 have N:B.size=2:=by rw[<-AB6,D];rfl
 obtain⟨⟨f,g⟩,d⟩:=x;obtain⟨⟨y1,y2⟩,y3⟩:=y;show wpAny _ _ (isInstance (.ref b) (.type "tuple") >>= _) _ _ s;refine AAA (AB7 F ADO ?_);simp only[ABK,AAu,AAh];refine AAA (ADM G H ?_);refine AAA (ADM K hdb ?_);refine AAA ?_;rw[t,D];refine ACk _
  (λrest r i=>r.1=none/\i=s/\(rest= [(.ref ba, .ref J),(.int d p, .int y3 C)] \/(rest= [(.int d p, .int y3 C)] /\f=y1/\g=y2)\/(rest= [] /\f=y1/\g=y2/\d=y3)))
  _ ?_ ?_ _ _ ⟨rfl,rfl, .inl rfl⟩
 .rintro ⟨u,v⟩ rest r i ⟨k,rfl,(c|⟨c,l,m⟩|⟨c,_⟩)⟩
  .cases c;refine AAA (wpAny_eqBool_tuple (knd:=intKind prog w) (by first | exact hu|omega) I L ?_);by_cases hk:f=y1/\g=y2
   .rw [AAV (by rw[hk.1,hk.2])];simp only[ABK,AAu,AAh];exact AAC ⟨rfl,rfl, .inr (.inl ⟨by first | trivial|rfl,hk⟩)⟩
   .rw [AAc (by intro z;injection z with j e;injection e with e _;exact hk ⟨j,e⟩)];simp only[ADP,AAv];have n:decide ((((f,g),d):FK)=((y1,y2),y3))=false:=by apply AAc;intro z;injection z with j e;injection j with O Q;exact hk ⟨O,Q⟩
    rw[n] at h;exact AAA (AAC (AAC (AAC h)))
  .cases c;refine AAA (wpAny_eqBool_int ?_);by_cases hk:d=y3
   .rw [show (d==y3)=true by simp[hk]];simp only[ABK,AAu,AAh];exact AAC ⟨rfl,rfl, .inr (.inr ⟨by first | trivial|rfl,l,m,hk⟩)⟩
   .rw [show (d==y3)=false by simp[hk]];simp only[ADP,AAv];have n:decide ((((f,g),d):FK)=((y1,y2),y3))=false:=by apply AAc;intro z;injection z with j e;exact hk e
    rw[n] at h;exact AAA (AAC (AAC (AAC h)))
  .cases c
 .rintro ⟨X,Y⟩ i ⟨k,rfl,(c|⟨c,_⟩|⟨_,l,m,R⟩)⟩
  .cases c
  .cases c
  .simp only at k;subst k;refine AAC ?_;show P (.done (.ret (.bool (xs.size==B.size)))) i;rw[M,N];rw[AAV (by rw[l,m,R])] at h;exact h
def LN {x y:FK}{a b:zu}{Q:zq->zw->Prop}(hu:A.units+1<cLine)(hx:HU prog w s.heap x a)(c:HU prog w s.heap y b)(h:Q (decide (x=y)) s):wpAny (model prog w) A (eqBool (.ref a) (.ref b)) Q E s:=by
 unfold eqBool;try with_reducible refine AAa ?_
 show wpAny _ _ (if (Value.ref a==Value.ref b)=true then _ else _) Q E s;by_cases d:(Value.ref a==Value.ref b)=true
 .rw [AAE d];have e:a=b:=by have:=eq_of_beq d;injection this
  subst e;obtain rfl:=hx.inj c;exact AAA (ABJ (AAC (by simpa using h)))
 .rw [AAD d];exact AAA (wpAny_richCompare_same_room (op:= .Eq) hx.typeIs c.typeIs ACl
   (AA0 ACl hx.typeIs F.entry_tuple_eq (UU (by first | exact hu|omega) hx c ⟨_,rfl,(λe=>nomatch e),AB8 h⟩) (F.args_tuple_eq_2 _ _)) (by omega))
def Fy {K:Type}[DecidableEq K]{knd:KeyKind prog w K}{f:zy K}{a:zu}{Q:zq->zw->Prop}(m:Nat)(hk:IsTupleKey knd s.heap f a)(h:Q true s):wpAny (model prog w) A (eqIsQuiet (m+1) (.ref a)) Q E s:=by
 have d:=hk.typeIs;obtain⟨o,items,n,g,_,hd,hi⟩:=hk;unfold eqIsQuiet;refine AAA (ABl d ACl.lookup ?_);show wpAny _ _ (isInstance (.ref a) (.type "tuple") >>= _) _ _ s;refine AAA (AB7 d ADO ?_);simp only[ABK,AAu,AAh];refine AAA (AAi g hd ?_);refine AAA ?_;show wpAny _ _ (forIn items _ _) _ _ s;rw[<-ACj];refine ACk _ (λrest r b=>r.1=none/\b=s/\∀v∈rest,carriedByValue v=true) _ ?_ ?_ _ _ ⟨rfl,rfl,hi.byValue⟩
 .rintro v rest r b ⟨c,rfl,e⟩;rw[eqIsQuiet_byValue _ (e v ABL)];refine AAA (AAC ?_);simp only[ABK,AAu,AAh];exact AAC ⟨rfl,rfl,λu i=>e u (AAw _ i)⟩
 .rintro ⟨j,k⟩ b ⟨c,rfl,_⟩;simp only at c;subst c;exact AAC h
def IG {k:FK}{a:zu}{Q:zq->zw->Prop}(hk:HU prog w s.heap k a)(h:Q true s):wpAny (model prog w) A (eqIsQuiet 8 (.ref a)) Q E s:=by
 have f:=hk.typeIs;obtain⟨o,items,n,b,u,g,_,hd,hi,i⟩:=hk;unfold eqIsQuiet;refine AAA (ABl f ACl.lookup ?_);show wpAny _ _ (isInstance (.ref a) (.type "tuple") >>= _) _ _ s;refine AAA (AB7 f ADO ?_);simp only[ABK,AAu,AAh];refine AAA (AAi g hd ?_);refine AAA ?_;show wpAny _ _ (forIn items _ _) _ _ s;rw[<-ACj,hi];refine ACk _ (λrest r d=>r.1=none/\d=s/\(rest= [.ref b, .int k.2 u] \/rest= [.int k.2 u] \/rest= [])) _ ?_ ?_ _ _ ⟨rfl,rfl, .inl rfl⟩
 .rintro v rest r d ⟨e,rfl,(c|c|c)⟩
  .cases c;refine AAA (Fy (knd:=intKind prog w) 6 i ?_);simp only[ABK,AAu,AAh];exact AAC ⟨rfl,rfl, .inr (.inl (by first | trivial|rfl))⟩
  .cases c;rw[eqIsQuiet_byValue _ rfl];refine AAA (AAC ?_);simp only[ABK,AAu,AAh];exact AAC ⟨rfl,rfl, .inr (.inr (by first | trivial|rfl))⟩
  .cases c
 .rintro ⟨j,l⟩ d ⟨e,rfl,_⟩;simp only at e;subst e;exact AAC h
end
def fkKind (prog:zp)(w:zm):HeapKind prog w FK where
 is:=HU prog w
 hash:=UT prog w
 draws:=λ_=>5
 room:=λA=>A.units+1<cLine
 inj:=λhx a=>hx.inj a
 keeps:=λx b hd hs=>x.keeps b hd hs
 pyHash:=λhu hk h=>LO hu hk h
 eqBool:=λhu hx a h=>LN hu hx a h
 quiet:=λhk h=>IG hk h
end PySem
namespace L2
open PySem PySem.Spec PyProof.Rows
abbrev B4:=Sum Int Str
def O0:B4->zx->zq
 | .inl k,v=>Value.isInt k v
 | .inr x,v=>Value.isStrOf x v
def qi (w:zm):B4->Int
 | .inl k=>hashInt k
 | .inr x=>hashStr w x
def BS:∀{k:B4} {v:zx},O0 k v=true->(∃i t,k=Sum.inl i/\v=Value.int i t)\/(∃x t,k=Sum.inr x/\v=Value.str x t)
 | .inl i,v,h=>by obtain⟨t,e⟩:=Value.isInt_shape (k:=i) (v:=v) h;exact .inl ⟨i,t,rfl,e⟩
 | .inr x,v,h=>by obtain⟨t,e⟩:=Value.isStrOf_shape (x:=x) (v:=v) h;exact .inr ⟨x,t,rfl,e⟩
def Xw (i:Int)(t:Tok):O0 (.inl i) (.int i t)=true:=by simp[O0,Value.isInt]
def Xx (x:Str)(t:Tok):O0 (.inr x) (.str x t)=true:=by simp[O0,Value.isStrOf]
def iC (a b:Int):decide ((Sum.inl a:B4)=Sum.inl b)=(a==b):=by
 by_cases e:a=b
 .subst e;simp
 .have h:¬(Sum.inl a:B4)=Sum.inl b:=λq=>e (Sum.inl.inj q);rw[AAc h];exact(ADQ.mpr e).symm
def iF (a b:Str):decide ((Sum.inr a:B4)=Sum.inr b)=decide (a=b):=by
 by_cases e:a=b
 .subst e;simp
 .have h:¬(Sum.inr a:B4)=Sum.inr b:=λq=>e (Sum.inr.inj q);rw[AAc h,AAc e]
def iD (a:Int)(b:Str):decide ((Sum.inl a:B4)=Sum.inr b)=false:=AAc (λq=>nomatch q)
def iE (a:Str)(b:Int):decide ((Sum.inr a:B4)=Sum.inl b)=false:=AAc (λq=>nomatch q)
def Ax (prog:zp)(w:zm):PySem.KeyKind prog w B4 where
 is:=O0
 hash:=qi w
 inj:=λv a b ha hb=>by
  rcases BS ha with⟨i,t,rfl,rfl⟩|⟨x,t,rfl,rfl⟩
  .rcases BS hb with⟨j,u,rfl,e⟩|⟨y,u,rfl,e⟩
   .injection e with c _;rw[c]
   .exact nomatch e
  .rcases BS hb with⟨j,u,rfl,e⟩|⟨y,u,rfl,e⟩
   .exact nomatch e
   .injection e with c _;rw[c]
 byValue:=λk v h=>by rcases BS h with⟨i,t,rfl,rfl⟩|⟨x,t,rfl,rfl⟩ <;> rfl
 pyHash:=λhv h=>by
  rcases BS hv with⟨i,t,rfl,rfl⟩|⟨x,t,rfl,rfl⟩
  .exact wpAny_pyHash_int h
  .exact wpAny_pyHash_str h
 eqBool:=λhu hv h=>by
  rcases BS hu with⟨i,t,rfl,rfl⟩|⟨x,t,rfl,rfl⟩
  .rcases BS hv with⟨j,u,rfl,rfl⟩|⟨y,u,rfl,rfl⟩
   .rw [iC] at h;exact wpAny_eqBool_int h
   .rw [iD] at h;exact SeqAt.EqAt.int_str i t y u _ _ _ _ h
  .rcases BS hv with⟨j,u,rfl,rfl⟩|⟨y,u,rfl,rfl⟩
   .rw [iE] at h;exact SeqAt.EqAt.str_int x t j u _ _ _ _ h
   .rw [iF] at h;exact wpAny_eqBool_str h
 «strs»:=λk x t v h=>by
  rcases BS h with⟨i,u,rfl,e⟩|⟨y,u,rfl,e⟩
  .exact nomatch e
  .injection e with c _;subst c;cases v <;> rfl
def Sf (prog:zp)(w:zm)(i:Int)(t:Tok):(Ax prog w).is (.inl i) (.int i t)=true:=Xw i t
def Sg (prog:zp)(w:zm)(x:Str)(t:Tok):(Ax prog w).is (.inr x) (.str x t)=true:=Xx x t
inductive V where
 | non|bl (b:Bool)|int (i:Int)|str (x:Str)|byt (b:Array UInt8)|flt (b:UInt64)|ref (a:Addr)|ty (n:String)
 deriving DecidableEq
def RelV:V->zx->Prop
 | .non,u=>u=Value.none
 | .bl b,u=>u=Value.bool b
 | .int i,u=>∃t,u=Value.int i t
 | .str x,u=>∃t,u=Value.str x t
 | .byt b,u=>∃t,u=Value.bytes b t
 | .flt b,u=>∃t,u=Value.float b t
 | .ref a,u=>u=Value.ref a
 | .ty n,u=>u=Value.type n
abbrev Ay:zy V->zy zx->Prop:=Paired RelV
def Ay.length {xs:zy V}{a:zy zx}(r:Ay xs a):xs.length=a.length:=Paired.length r
theorem Ay.get:∀{xs:zy V} {a:zy zx} {i:Nat} {x:V},Ay xs a->xs[i]? =some x->∃u,a[i]? =some u/\RelV x u
 | _,_,_,_, .nil,e=>by simp at e
 | _,_,0,_, .cons r _,e=>by simp at e;subst e;exact⟨_,rfl,r⟩
 | _,_,i+1,x, .cons _ t,e=>by obtain⟨u,h1,h2⟩:=Ay.get (i:=i) (x:=x) t (by simpa using e);exact⟨u,by simpa using h1,h2⟩
theorem Ay.set {x:V}{u:zx}(r:RelV x u):∀{xs:zy V} {a:zy zx} (i:Nat),Ay xs a->Ay (xs.set i x) (a.set i u)
 | _,_,_, .nil=> .nil
 | _,_,0, .cons _ t=> .cons r t
 | _,_,i+1, .cons q t=> .cons q (Ay.set r i t)
theorem Ay.append:∀{xs a:zy V} {b c:zy zx},Ay xs b->Ay a c->Ay (xs++a) (b++c)
 | _,_,_,_, .nil,s=>s
 | _,_,_,_, .cons r t,s=> .cons r (Ay.append t s)
theorem Ay.take:∀{xs:zy V} {a:zy zx} (n:Nat),Ay xs a->Ay (xs.take n) (a.take n)
 | _,_,0,_=> .nil
 | _,_,_+1, .nil=> .nil
 | _,_,n+1, .cons r t=> .cons r (Ay.take n t)
theorem Ay.drop:∀{xs:zy V} {a:zy zx} (n:Nat),Ay xs a->Ay (xs.drop n) (a.drop n)
 | _,_,0,r=>r
 | _,_,_+1, .nil=> .nil
 | _,_,n+1, .cons _ t=>Ay.drop n t
def K7:zt V->zt zx->Prop
 | some v,some u=>RelV v u
 | none,none=>True
 | _,_=>False
def KV {a:Type}:zy (a×V)->zy (a×zx)->Prop:=Paired λ(p:a×V) (q:a×zx)=>p.1=q.1/\RelV p.2 q.2
def kV:B4->V
 | .inl i=> .int i
 | .inr x=> .str x
inductive HO where
 | lst (xs:List V)
 | tup (xs:List V)
 | dK (kvs:List (B4×V))|dT (kvs:List (List B4×V))|dN (K:AAB) (kvs:List (PySem.FK×V))
 | set (S:Int->Bool) (n:Nat)
 | ins (C dx:Addr) (fs:List (Str×V))
 | own (x:Addr)
 | xd (fs:List (Str×V))
 | met (f x:Addr)
 | rng (lo hi:Int)
 | frz (o:Obj) (u:HO)
 | tbl (ps:Array Value)
 | ext (φ:Heap->Prop)
abbrev Hp:=zu->zt HO
def upd (H:Hp)(a:zu)(o:HO):Hp:=λb=>if b=a then some o else H b
def Ah {H:Hp}{a:zu}{o:HO}:upd H a o a=some o:=by unfold upd;rw[AAE rfl]
def Ag {H:Hp}{a b:zu}{o:HO}(h:b≠a):upd H a o b=H b:=by unfold upd;rw[AAD h]
def mF {H:Hp}{a b:zu}{o u:HO}(h:H a=some o)(h':H b=some u)(d:o≠u):a≠b:=by intro e;subst e;rw[h] at h';exact d (AAb h')
def Au {H:Hp}{a b:zu}{o:HO}(h:H a=some o)(h':H b=none):a≠b:=by intro e;subst e;rw[h] at h';cases h'
def pW (K:AAB)(H:Hp)(b:zu)(t d:Int):Prop:=H b=some (.tup [.int t, .int d])\/∃(o:Obj) (a:Array zx) (n:Nat),K.lookup b=some o/\o.cls= .type "tuple" /\o.data= .seq a n/\Ay [.int t, .int d] a.toList
def cR (K:AAB)(H:Hp)(a:zu)(k:PySem.FK):Prop:=∃b,H a=some (.tup [.ref b, .int k.2])/\pW K H b k.1.1 k.1.2
def cR.stay {K:AAB}{H c:Hp}{a:zu}{k:PySem.FK}(x:cR K H a k)(d:∀b xs,H b=some (.tup xs)->c b=some (.tup xs)):cR K c a k:=let ⟨b,h1,h2⟩:=x;⟨b,d _ _ h1,h2.elim (λz=> .inl (d _ _ z)) .inr⟩
section
variable (P:zp)(w:zm)
def CM (H:Hp)(h:zl)(a:zu):HO->Prop
 | .lst xs=>xs.length<=sizeLine/\∃(b:zy zx) (n:Nat),Ay xs b/\h.get? a=some {cls:= .type "list",data:= .seq b.toArray n}
 | .tup xs=>xs.length<=sizeLine/\∃b:zy zx,Ay xs b/\IsTup h a b.toArray
 | .dK kvs=>kvs.length<=sizeLine/\(a==sysModules)=false/\∃vs,KV kvs vs/\h.DictOf (Ax P w) a vs
 | .dT kvs=>kvs.length<=sizeLine/\(a==sysModules)=false/\∃xs:zy (zy B4×zu×zx),
     Paired (λ(p:zy B4×V) (q:zy B4×zu×zx)=>p.1=q.1/\H q.2.1=some (.tup (p.1.map kV))/\RelV p.2 q.2.2) kvs xs/\
     ∃o es ep,h.get? a=some o/\o.ExactDict/\o.data= .dict es ep/\es.toList=xs.map (entryOfKey (tupleKind (Ax P w)))/\(xs.map (·.1)).Nodup
 | .dN K kvs=>kvs.length<=sizeLine/\(a==sysModules)=false/\∃xs:zy (PySem.FK×zu×zx),Paired (λ(p:PySem.FK×V) (q:PySem.FK×zu×zx)=>p.1=q.1/\cR K H q.2.1 p.1/\RelV p.2 q.2.2) kvs xs/\∃o es ep,h.get? a=some o/\o.ExactDict/\o.data= .dict es ep/\es.toList=xs.map (entryOfKey (PySem.fkKind P w))/\(xs.map (·.1)).Nodup
 | .set S n=>h.SetOf (intKind P w) a S n
 | .ins C e d=>H e=some (.own a)/\d.length<=1000/\e≠a/\h.get? a=some (PySem.W.instObj C e)/\
     ∃c,h.Ns1 e c/\(∀f,K7 (d.lookup f) (c f))/\PySem.Within c (d.map (·.1))
 | .own _=>∃o,h.get? a=some o
 | .xd d=>∃c,h.Ns1 a c/\∀f,K7 (d.lookup f) (c f)
 | .rng lo hi=>∃t u v,h.get? a=some {cls:= .type "range",data:= .fields #[.int lo t, .int hi u, .int 1 v] }
 | .frz o u=>h.get? a=some o/\CM H h a u
 | .tbl ps=>h.get? a=some {cls:= .none,data:= .fields ps}
 | .met f x=>h.get? a=some (PySem.W.methodObj (.ref f) (.ref x))
 | .ext g=>g h/\(∃o,h.get? a=some o)/\∀h1 h2:zl,g h1->(∀o,h1.get? a=some o->h2.get? a=some o)->g h2
def IX (H:Hp)(h:zl):Prop:=∀a o,H a=some o->CM P w H h a o
end
section
variable {P:zp}{w:zm}{H H':Hp}{h h':zl}{a:zu}{o:HO}
def CM.lt (x:CM P w H h a o):a<h.objs.size:=by
 cases o with
 | lst xs=>obtain⟨_,_,_,_,e⟩:=x;exact AAF e
 | tup xs=>obtain⟨_,_,_,p⟩:=x;exact p.lt
 | dK kvs=>obtain⟨_,_,_,_,o,_,_,e,_⟩:=x;exact AAF e
 | dT kvs=>obtain⟨_,_,_,_,o,_,_,e,_⟩:=x;exact AAF e
 | dN K kvs=>obtain⟨_,_,_,_,o,_,_,e,_⟩:=x;exact AAF e
 | set S n=>obtain⟨o,_,_,_,e,_⟩:=x;exact AAF e
 | ins C c b=>obtain⟨_,_,_,e,_⟩:=x;exact AAF e
 | own y=>obtain⟨_,e⟩:=x;exact AAF e
 | xd b=>obtain⟨_,⟨_,_,_,e,_⟩,_⟩:=x;exact AAF e
 | rng lo hi=>obtain⟨_,_,_,e⟩:=x;exact AAF e
 | frz d u=>obtain⟨e,_⟩:=x;exact AAF e
 | tbl ps=>exact AAF (show h.get? a=some _ from x)
 | met f y=>exact AAF (show h.get? a=some _ from x)
 | ext g=>obtain⟨_,⟨_,e⟩,_⟩:=x;exact AAF e
theorem Paired.mapP {d e:Type}{F G:d->e->Prop}:∀{l₁:zy d} {c:zy e},Paired F l₁ c->(∀a b,F a b->G a b)->Paired G l₁ c
 | _,_, .nil,_=> .nil
 | _,_, .cons r t,f=> .cons (f _ _ r) (Paired.mapP t f)
def CM.stay (x:CM P w H h a o)(k:∀b u,(b=a\/H b=some (.own a))->h.get? b=some u->h'.get? b=some u)(s:∀b,H b=some (.own a)->H' b=some (.own a))(m:∀b xs,H b=some (.tup xs)->H' b=some (.tup xs)):CM P w H' h' a o:=by
 induction o with
 | lst xs=>obtain⟨z,i,n,r,e⟩:=x;exact⟨z,i,n,r,k _ _ (.inl rfl) e⟩
 | tup xs=>obtain⟨z,i,r,g,e,c⟩:=x;exact⟨z,i,r,g,k _ _ (.inl rfl) e,c⟩
 | dK kvs=>obtain⟨z,y,vs,r,g,es,ep,e,c⟩:=x;exact⟨z,y,vs,r,g,es,ep,k _ _ (.inl rfl) e,c⟩
 | dT kvs=> obtain⟨z,y,xs,r,g,es,ep,e,c⟩:=x;exact⟨z,y,xs,Paired.mapP r λp q z=>⟨z.1,m _ _ z.2.1,z.2.2⟩,g,es,ep,k _ _ (.inl rfl) e,c⟩
 | dN K kvs=> obtain⟨z,y,xs,r,g,es,ep,e,c⟩:=x;exact⟨z,y,xs,Paired.mapP r λp q z=>⟨z.1,z.2.1.stay m,z.2.2⟩,g,es,ep,k _ _ (.inl rfl) e,c⟩
 | set S n=>obtain⟨g,es,ep,t,e,c⟩:=x;exact⟨g,es,ep,t,k _ _ (.inl rfl) e,c⟩
 | ins C E A=> obtain⟨d,z,ne,e,j,⟨l,es,ep,B,c⟩,r⟩:=x;exact⟨s _ d,z,ne,k _ _ (.inl rfl) e,j,⟨l,es,ep,k _ _ (.inr d) B,c⟩,r⟩
 | own y=>obtain⟨g,e⟩:=x;exact⟨g,k _ _ (.inl rfl) e⟩
 | xd A=>obtain⟨j,⟨l,es,ep,e,c⟩,r⟩:=x;exact⟨j,⟨l,es,ep,k _ _ (.inl rfl) e,c⟩,r⟩
 | rng lo hi=>obtain⟨t,u,v,e⟩:=x;exact⟨t,u,v,k _ _ (.inl rfl) e⟩
 | frz g u D=>obtain⟨e,q⟩:=x;exact⟨k _ _ (.inl rfl) e,D q⟩
 | tbl ps=> have e:h.get? a=some {cls:= .none,data:= .fields ps}:=x;show h'.get? a=some {cls:= .none,data:= .fields ps};exact k a _ (.inl rfl) e
 | met f y=> have e:h.get? a=some (PySem.W.methodObj (.ref f) (.ref y)):=x;show h'.get? a=some (PySem.W.methodObj (.ref f) (.ref y));exact k a _ (.inl rfl) e
 | ext F=>obtain⟨p,⟨o,e⟩,st⟩:=x;exact⟨st _ _ p λo q=>k _ _ (.inl rfl) q,⟨o,k _ _ (.inl rfl) e⟩,st⟩
def IX.lt (x:IX P w H h)(e:H a=some o):a<h.objs.size:=(x a o e).lt
def IX.fresh (x:IX P w H h)(e:h.objs.size<=a):H a=none:=by
 cases q:H a with
 | none=>rfl
 | some u=>exact absurd (AAP (x.lt q) e) (ABT _)
def IX.kept (x:IX P w H h)(k:∀b u,h.get? b=some u->h'.get? b=some u):IX P w H h':=λa o e=>
 (x a o e).stay (λb u _ q=>k b u q) (λ_ q=>q) λ_ _ q=>q
def IX.laid (x:IX P w H h)(k:∀b u,h.get? b=some u->h'.get? b=some u)(hp:h.objs.size<=a)(new:CM P w (upd H a o) h' a o):IX P w (upd H a o) h':=λb u e=>by
 have d:=x.fresh hp;by_cases hb:b=a
 .subst hb;rw[Ah] at e;cases e;exact new
 .rw [Ag hb] at e;exact(x b u e).stay (λc v _ q=>k c v q) (λc q=>by rw[Ag (Au q d)];exact q) λc xs q=>by rw[Ag (Au q d)];exact q
end
def Rd (H:Hp)(a:zu)(u:HO):Prop:=H a=some u\/∃o,H a=some (.frz o u)
def Rd.ok {P:zp}{w:zm}{H:Hp}{h:zl}{a:zu}{u:HO}(r:Rd H a u)(x:IX P w H h):CM P w H h a u:=by
 rcases r with r|⟨o,r⟩
 .exact x a u r
 .obtain ⟨_,q⟩:=x a _ r;exact q
def kh:zt HO->Prop
 | some (.lst _)=>True
 | some (.dK _)=>True
 | some (.dT _)=>True
 | some (.dN _ _)=>True
 | some (.set _ _)=>True
 | some (.ins _ _ _)=>True
 | some (.ext _)=>True
 | _=>False
section
variable {P:zp}{w:zm}{H:Hp}{h h':zl}{x e:zu}{o':HO}
def IX.write (ok:IX P w H h)(f:kh (H x))(he:e=x\/H e=some (.own x))(k:∀b u,b≠e->h.get? b=some u->h'.get? b=some u)(j:∃u,h'.get? e=some u)(new:CM P w (upd H x o') h' x o'):IX P w (upd H x o') h':=λb u q=>by
 have a:∀c y,H c=some (.own y)->c≠x:=λc y r z=>by subst z;rw[r] at f;exact f
 have d:∀c xs,H c=some (.tup xs)->c≠x:=λc xs r z=>by subst z;rw[r] at f;exact f
 by_cases hb:b=x
 .subst hb;rw[Ah] at q;cases q;exact new
 .rw [Ag hb] at q;by_cases g:b=e
  .have i:H b=some (.own x):=by
    rcases he with z|z
    .exact absurd (g.trans z) hb
    .rw [g];exact z
   rw[q] at i;cases i;obtain⟨v,hv⟩:=j;exact⟨v,by rw[g];exact hv⟩
  .refine (ok b u q).stay (λc v hc r=>k c v ?_ r) (λc r=>by rw[Ag (a c b r)];exact r) λc xs r=>by rw[Ag (d c xs r)];exact r
   rcases hc with rfl|hc
   .exact g
   .rintro rfl;rcases he with z|z
    .exact a c b hc z
    .rw [hc] at z;cases z;exact hb rfl
end
structure Un (fs ex:List Addr) (H H':Hp) (h h':Heap):Prop where
 keep:∀b o,h.get? b=some o->H b=none->b ∉ fs->b ∉ ex->h'.get? b=some o
 slot:∀b o,h.get? b=some o->H b=none->b∈fs->b ∉ ex->∃sl,h'.get? b=some {o with slots:=sl}
 free:∀b o,h.get? b=some o->H b=none->b ∉ ex->H' b=none
 there:∀b o,h.get? b=some o->b ∉ ex->∃o',h'.get? b=some o'
 tups:∀b xs,H b=some (.tup xs)->H' b=some (.tup xs)
 frzs:∀b o u,H b=some (.frz o u)->H' b=some (.frz o u)
 tbls:∀b ps,H b=some (.tbl ps)->∃more,H' b=some (.tbl (ps++more))
section
variable {fs fs' ex ex':zy zu}{H H1 H2:Hp}{h h1 h2 h':zl}{a x e:zu}{o:HO}
def Un.any (u:Un fs ex H H1 h h1){b:zu}{c:Obj}(q:h.get? b=some c)(n:H b=none)(hx:b ∉ ex):∃sl,h1.get? b=some {c with slots:=sl}:=by
 by_cases hb:b∈fs
 .exact u.slot b c q n hb hx
 .exact ⟨c.slots,u.keep b c q n hb hx⟩
def Un.kept (k:∀b u,h.get? b=some u->h'.get? b=some u):Un fs ex H H h h':=
 ⟨λb c q _ _ _=>k b c q,λb c q _ _ _=>⟨c.slots,k b c q⟩,λ_ _ _ n _=>n,λb c q _=>⟨c,k b c q⟩,λ_ _ q=>q,λ_ _ _ q=>q,λ_ ps q=>⟨#[],by rw[q];simp⟩⟩
def Un.refl:Un fs ex H H h h:=Un.kept λ_ _ q=>q
def Un.laid (k:∀b u,h.get? b=some u->h'.get? b=some u)(hp:h.objs.size<=a)(c:H a=none):Un fs ex H (upd H a o) h h' where
 keep:=λb u q _ _ _=>k b u q
 slot:=λb u q _ _ _=>⟨u.slots,k b u q⟩
 free:=λb u q n _=>by rw[Ag (AAK (AAP (AAF q) hp))];exact n
 there:=λb u q _=>⟨u,k b u q⟩
 tups:=λb xs q=>by rw[Ag (Au q c)];exact q
 frzs:=λb u xs q=>by rw[Ag (Au q c)];exact q
 tbls:=λb ps q=>⟨#[],by rw[Ag (Au q c),q];simp⟩
def Un.write (c:kh (H x))(he:e=x\/H e=some (.own x))(k:∀b u,b≠e->h.get? b=some u->h'.get? b=some u)(g:∃u,h'.get? e=some u):Un fs ex H (upd H x o) h h':=by
 have hx:∀b,H b=none->b≠x:=λb n z=>by subst z;rw[n] at c;exact c
 have hb:∀b,H b=none->b≠e:=λb n z=>by
  subst z;rcases he with r|r
  .exact hx b n r
  .rw [n] at r;cases r
 have d:∀b u,H b=some u->¬kh (some u)->b≠x:=λb u q i z=>by subst z;rw[q] at c;exact i c
 refine⟨λb u q n _ _=>k b u (hb b n) q,λb u q n _ _=>⟨u.slots,k b u (hb b n) q⟩,λb u q n _=>by rw[Ag (hx b n)];exact n,λb u q _=> ?_,
  λb xs q=>by rw[Ag (d b _ q λz=>z)];exact q,λb u xs q=>by rw[Ag (d b _ q λz=>z)];exact q,λb ps q=>⟨#[],by rw[Ag (d b _ q λz=>z),q];simp⟩⟩
 by_cases f:b=e
 .subst f;exact g
 .exact ⟨u,k b u f q⟩
end
def oh (h:zl)(H:Hp):zy zu:=(List.range h.objs.size).filter λa=>(H a).isSome
def QJ (h:zl)(H:Hp):zl:=PySem.W.hideAll h (oh h H)
def Xn (h:zl)(H:Hp):(QJ h H).objs.size=h.objs.size:=PySem.W.hideAll_size _ _
def Zb {h:zl}{H:Hp}{b:zu}{o:Obj}(e:h.get? b=some o)(n:H b=none):(QJ h H).get? b=some o:=
 PySem.W.hideAll_get _ e λa=>by have q:(H b).isSome=true:=(AAW.mp a).2;rw[n] at q;simp at q
def dB {h:zl}{H:Hp}{b:zu}{o:Obj}(e:(QJ h H).get? b=some o):h.get? b=some o/\H b=none:=by
 have e':h.get? b=some o:=PySem.W.of_hideAll (oh h H) e;refine⟨e', ?_⟩;cases q:H b with
 | none=>rfl
 | some x=> have a:b∈oh h H:=AAW.mpr ⟨ABm.mpr (AAF e'),by simp[q]⟩;have z:(QJ h H).get? b=none:=PySem.W.hideAll_none (oh h H) a;rw[z] at e;cases e
def cW (g h:zl)(L:zu):zy (zu×Obj):=(List.range h.objs.size).filterMap λa=>if a=L\/(g.get? a).isSome=true then none else (h.get? a).map λo=>(a,o)
def rest (g h:zl)(L d:zu):zy (zu×Obj):=(cW g h L).filter λp=>decide (p.1≠d)
structure Mod (K:AAB) (mg:Str->Option Value) (base:Heap):Prop where
 kin:K.In base
 glob:base.Ns mainGlobals mg
 blt:∃mb,base.Ns builtinsNs mb/\∀x:Str,x≠"__name__" ->mb x=bootBuiltins x
 nolimit:base.NoLimit
structure Cx where
 prog:Program
 w:World
 K:AAB
 mg:Str->Option Value
 base:Heap
 A:Around
 N:List Str
 s₀:Shared
 H₀:Hp
 env:Env
 outer:List Env
 stack:List Env
 ex:List Addr
 fn:Str->Bool
 calm:Bool
 pn:List (Addr×Obj)
 xe:Value->Shared->Prop
def Yb (l:zy Env):zy zu:=l.filterMap (·.frame)
abbrev Cx.fs (X:Cx):zy zu:=Yb X.outer
def fM (sc:Scope)(x:Str):Prop:=sc.names.lookup x=some .local\/sc.names.lookup x=some .cell\/sc.names.lookup x=some .free
def Loc (sc:Scope)(x:Str):Prop:=sc.names.lookup x=some .local\/sc.names.lookup x=some .cell
def Look (env:Env)(h:zl)(m:Str->zt zx)(x:Str)(u:zx):Prop:=
 (env.kindOf x=some .local/\m x=some u)\/((env.kindOf x=some .cell\/env.kindOf x=some .free)/\∃c,env.cells.lookup x=some c/\h.IsCell c (some u))
structure Cx.Ok (X:Cx):Prop where
 mod:Mod X.K X.mg X.base
 kind:X.env.scope.kind= .function
 glob:X.env.globals=mainGlobals
 blt:X.env.builtins=builtinsNs
 above:X.s₀.heap.objs.size<=X.env.locals
 inj:∀x y c,X.env.cells.lookup x=some c->X.env.cells.lookup y=some c->x=y
 has:∀x,(X.env.kindOf x=some .cell\/X.env.kindOf x=some .free)->∃c,X.env.cells.lookup x=some c
 cab:∀x c,X.fn x=true->X.env.cells.lookup x=some c->X.s₀.heap.objs.size<=c
 hd:X.calm=true->X.A.handled=none
 frames:X.A.frames=some X.stack
 stk:X.stack=X.outer\/(X.stack=X.env::X.outer/\X.env.frame=some X.env.locals)
 exf:∀b∈X.ex,b≠X.env.locals/\∀x c,X.env.cells.lookup x=some c->c≠b
 bs:∀b o,X.base.get? b=some o->X.s₀.heap.get? b=some o/\X.H₀ b=none
 bsz:X.base.objs.size<=X.s₀.heap.objs.size
 noex:∀b o,X.base.get? b=some o->b ∉ X.ex
 exfs:∀b∈X.ex,b ∉ X.fs
 funs:X.s₀.heap.FunFrames X.base X.outer
 frf:∀b∈X.fs,X.H₀ b=none
structure Inv (X:Cx) (zj:List (Addr×Obj)) (σ:List (Option V)) (H:Hp) (s:Shared):Prop where
 ok:X.Ok
 os:s.os=X.s₀.os
 bare:AllBare s.gens
 base:Un X.fs X.ex X.H₀ H X.s₀.heap s.heap
 loc:∃m,s.heap.Ns X.env.locals m/\∀(i:Nat) (x:Str) (v:V),X.N[i]? =some x->σ[i]? =some (some v)->fM X.env.scope x->∃u,RelV v u/\Look X.env s.heap m x u
 cell:∀x c,X.env.cells.lookup x=some c->∃v,s.heap.IsCell c v
 free:H X.env.locals=none
 freeC:∀x c,X.env.cells.lookup x=some c->H c=none
 pin:∀p∈X.pn++zj,s.heap.get? p.1=some p.2/\H p.1=none/\p.1≠X.env.locals/\p.1 ∉ X.fs/\∀v,p.2.data≠ .cell v
 hok:IX X.prog X.w H s.heap
 len:σ.length=X.N.length
section
variable {X:Cx}{zj:zy (zu×Obj)}{σ:zy (zt V)}{H H':Hp}{s:zw}{h':zl}
def Cx.Ok.nofr (ok:X.Ok){b:zu}{o:Obj}(e:X.base.get? b=some o):b ∉ X.fs:=λhb=>by have:=(ok.funs.mem hb).1;rw[e] at this;cases this
def Inv.bs (I:Inv X zj σ H s):∀b o,X.base.get? b=some o->s.heap.get? b=some o/\H b=none:=λb o e=>
 ⟨I.base.keep b o (I.ok.bs b o e).1 (I.ok.bs b o e).2 (I.ok.nofr e) (I.ok.noex b o e),I.base.free b o (I.ok.bs b o e).1 (I.ok.bs b o e).2 (I.ok.noex b o e)⟩
def Inv.bk (I:Inv X zj σ H s):∀b o,X.base.get? b=some o->s.heap.get? b=some o:=λb o e=>(I.bs b o e).1
def Inv.mod (I:Inv X zj σ H s):Mod X.K X.mg X.base:=I.ok.mod
def Inv.kIn (I:Inv X zj σ H s):X.K.In s.heap:=I.ok.mod.kin.keeps I.bk
def Inv.nolimit (I:Inv X zj σ H s):s.heap.NoLimit:=I.ok.mod.nolimit.keeps I.bk
def Inv.fr (I:Inv X zj σ H s):∃m,Fr X.base X.env.locals s.heap m:=
 let ⟨m,a,_⟩:=I.loc
 ⟨m,a,I.bk,AAY I.ok.bsz I.ok.above⟩
def Inv.lt (I:Inv X zj σ H s):X.env.locals<s.heap.objs.size:=let ⟨_,a,_⟩:=I.loc;a.lt
def Inv.sz (I:Inv X zj σ H s):X.s₀.heap.objs.size<=s.heap.objs.size:=AAY I.ok.above (AB9 I.lt)
def Inv.nofs (I:Inv X zj σ H s){a:zu}(h:s.heap.objs.size<=a):a ∉ X.fs:=λhb=>by obtain⟨_,o,b,_⟩:=I.ok.funs.mem hb;exact absurd (AAP (AAF b) (AAY I.sz h)) (ABT _)
def Inv.cne (I:Inv X zj σ H s):∀x c,X.env.cells.lookup x=some c->c≠X.env.locals:=λx c e z=>by obtain⟨v,o,a,hd⟩:=I.cell x c e;obtain⟨m,⟨f,es,ep,b,d,_⟩,_⟩:=I.loc;rw[z,b] at a;cases a;rw[d] at hd;cases hd
def Inv.funs (I:Inv X zj σ H s):s.heap.FunFrames X.base X.outer:=by
 have all:∀(l:zy Env),(∀b∈Yb l,b∈X.fs)->X.s₀.heap.FunFrames X.base l->s.heap.FunFrames X.base l:=by
  intro l;induction l with
  | nil=>intro _ _;trivial
  | cons env r d=> intro hs hl;obtain⟨hk,⟨L,o,a,f,g,hd⟩,h⟩:=hl;have c:L∈X.fs:=hs L (by unfold Yb;rw[ADR,a];exact ABL);obtain⟨sl,e⟩:=I.base.slot L o g (I.ok.frf L c) c λz=>I.ok.exfs L z c;exact⟨hk,⟨L,_,a,f,e,hd⟩,d (λb hb=>hs b (by unfold Yb;rw[ADR,a];exact AAw _ hb)) h⟩
 exact all X.outer (λ_ hb=>hb) I.ok.funs
def Inv.stack (I:Inv X zj σ H s):s.heap.FunFrames X.base X.stack:=by
 rcases I.ok.stk with e|⟨e,a⟩
 .rw [e];exact I.funs
 .rw [e];obtain⟨m,b,_⟩:=I.loc;refine .cons (by rw[I.ok.kind];decide) a b ?_ I.funs;exact Heap.get?_none_of_le (AAY I.ok.bsz I.ok.above)
def Inv.stkSub (I:Inv X zj σ H s):∀b∈Yb X.stack,b∈X.env.locals::X.fs:=λb hb=>by
 rcases I.ok.stk with e|⟨e,a⟩
 .rw [e] at hb;exact AAw _ hb
 .rw [e] at hb;unfold Yb at hb;rw[ADR,a] at hb;exact hb
def Inv.stkFree (I:Inv X zj σ H s):∀b∈Yb X.stack,H b=none:=λb hb=>by
 rcases AAG.mp (I.stkSub b hb) with e|hb
 .rw [e];exact I.free
 .obtain ⟨_,o,a,_⟩:=I.ok.funs.mem hb;exact I.base.free b o a (I.ok.frf b hb) λz=>I.ok.exfs b z hb
def Inv.step {g':Array GenState}{t':Nat}{d':Drawn}{ch:zy zu}(I:Inv X zj σ H s)(j:∀b∈ch,(b∈X.ex\/X.s₀.heap.objs.size<=b)/\b≠X.env.locals/\(∀x c,X.env.cells.lookup x=some c->c≠b)/\∀p∈X.pn++zj,p.1≠b)(keep:∀b o,b≠X.env.locals->b ∉ X.fs->b ∉ ch->s.heap.get? b=some o->H b=none->h'.get? b=some o)(slot:∀b o,b≠X.env.locals->b∈X.fs->b ∉ ch->s.heap.get? b=some o->H b=none->∃sl,h'.get? b=some {o with slots:=sl})(free:∀b o,b ∉ ch->s.heap.get? b=some o->H b=none->H' b=none)(there:∀b o,b ∉ ch->s.heap.get? b=some o->∃t,h'.get? b=some t)(tups:∀b xs,H b=some (.tup xs)->H' b=some (.tup xs))(frzs:∀b o u,H b=some (.frz o u)->H' b=some (.frz o u))(tbls:∀b ps,H b=some (.tbl ps)->∃more,H' b=some (.tbl (ps++more)))(ns:∀m,s.heap.Ns X.env.locals m->h'.Ns X.env.locals m)(hok:IX X.prog X.w H' h')(C:AllBare g'):Inv X zj σ H' {s with heap:=h',gens:=g',drawn:=d',toks:=t'}:=by
 have y:∀b o,X.s₀.heap.get? b=some o->b≠X.env.locals:=λb o e=>AAK (AAP (AAF e) I.ok.above);have f:∀b o,X.s₀.heap.get? b=some o->b ∉ X.ex->b ∉ ch:=λb o e hx hb=>by
  rcases (j b hb).1 with z|z
  .exact hx z
  .exact absurd (AAP (AAF e) z) (ABT _)
 have cellK:∀x c,X.env.cells.lookup x=some c->∀v,s.heap.IsCell c v->h'.IsCell c v:=λx c e v ⟨o,h,hd⟩=>by
  have a:c ∉ ch:=λz=>(j c z).2.2.1 x c e rfl;by_cases hc:c∈X.fs
  .obtain ⟨sl,q⟩:=slot c o (I.cne x c e) hc a h (I.freeC x c e);exact⟨_,q,hd⟩
  .exact ⟨o,keep c o (I.cne x c e) hc a h (I.freeC x c e),hd⟩
 refine⟨I.ok,I.os,C,⟨λb o e n hb hx=> ?_,λb o e n hb hx=> ?_,λb o e n hx=> ?_,λb o e hx=> ?_,λb xs e=>tups b xs (I.base.tups b xs e),λb o xs e=>frzs b o xs (I.base.frzs b o xs e),λb ps e=> ?_⟩, ?_,λx c e=> ?_, ?_,λx c e=> ?_,λp hp=> ?_,hok,I.len⟩
 .exact keep b o (y b o e) hb (f b o e hx) (I.base.keep b o e n hb hx) (I.base.free b o e n hx)
 .obtain ⟨sl,g⟩:=I.base.slot b o e n hb hx;obtain⟨Yh,A⟩:=slot b _ (y b o e) hb (f b o e hx) g (I.base.free b o e n hx);exact⟨Yh,A⟩
 .obtain ⟨t,g⟩:=I.base.there b o e hx;exact free b t (f b o e hx) g (I.base.free b o e n hx)
 .obtain ⟨t,g⟩:=I.base.there b o e hx;exact there b t (f b o e hx) g
 .obtain ⟨m1,g⟩:=I.base.tbls b ps e;obtain⟨m2,A⟩:=tbls b _ g;exact⟨m1++m2,by rw[A,Array.append_assoc]⟩
 .obtain ⟨m,D,hl⟩:=I.loc;refine⟨m,ns m D,λi x v g A E=> ?_⟩;obtain⟨u,r,l⟩:=hl i x v g A E;refine⟨u,r, ?_⟩;rcases l with l|⟨k,c,e,z⟩
  .exact .inl l
  .exact .inr ⟨k,c,e,cellK x c e _ z⟩
 .obtain ⟨v,z⟩:=I.cell x c e;exact⟨v,cellK x c e v z⟩
 .obtain ⟨m,⟨o,_,_,h,_⟩,_⟩:=I.loc;exact free _ o (λz=>(j _ z).2.1 rfl) h I.free
 .obtain ⟨v,o,h,hd⟩:=I.cell x c e;exact free c o (λz=>(j c z).2.2.1 x c e rfl) h (I.freeC x c e)
 .obtain ⟨e,n,ne,B,d⟩:=I.pin p hp;have a:p.1 ∉ ch:=λz=>(j p.1 z).2.2.2 p hp rfl;exact⟨keep p.1 p.2 ne B a e n,free p.1 p.2 a e n,ne,B,d⟩
def Inv.un {t':Nat}(I:Inv X zj σ H s)(u:Un X.fs [] H H' s.heap h')(hok:IX X.prog X.w H' h'):Inv X zj σ H' {s with heap:=h',toks:=t'}:=by
 obtain⟨m,⟨o,es,ep,d,r⟩,_⟩:=id I.loc;obtain⟨sl,g⟩:=u.any d I.free (by simp);exact I.step (g':=s.gens) (d':=s.drawn) (ch:= []) (λ_ z=>nomatch z) (λb o _ hb _ e n=>u.keep b o e n hb (by simp)) (λb o _ hb _ e n=>u.slot b o e n hb (by simp)) (λb o _ e n=>u.free b o e n (by simp)) (λb o _ e=>u.there b o e (by simp)) u.tups u.frzs u.tbls (λj h=>by
  obtain⟨k,a,c,f,i⟩:=h;rw[d] at f;cases f;exact⟨_,a,c,g,i⟩) hok I.bare
def Inv.call {g':Array GenState}{t':Nat}{d':Drawn}{ch:zy zu}(I:Inv X zj σ H s)(u:Un (Yb X.stack) ch H H' s.heap h')(hok:IX X.prog X.w H' h')(j:AllBare g')(g:∀b∈ch,(b∈X.ex\/X.s₀.heap.objs.size<=b)/\b≠X.env.locals/\(∀x c,X.env.cells.lookup x=some c->c≠b)/\∀p∈X.pn++zj,p.1≠b):Inv X zj σ H' {s with heap:=h',gens:=g',drawn:=d',toks:=t'}:=by
 obtain⟨m,⟨o,es,ep,h,r⟩,_⟩:=id I.loc;obtain⟨sl,a⟩:=u.any h I.free λz=>(g _ z).2.1 rfl;exact I.step (ch:=ch) g (λb o a hb hc e n=>u.keep b o e n (λz=>(AAG.mp (I.stkSub b z)).elim a hb) hc) (λb o _ _ hc e n=>u.any e n hc) (λb o hc e n=>u.free b o e n hc) (λb o hc e=>u.there b o e hc) u.tups u.frzs u.tbls (λt k=>by
  obtain⟨v,d,f,i,l⟩:=k;rw[h] at i;cases i;exact⟨_,d,f,a,l⟩) hok j
def Inv.turned {t':Nat}{it:zu}(I:Inv X zj σ H s)(k:∀b o,b≠it->s.heap.get? b=some o->h'.get? b=some o)(f:H it=none)(d:it≠X.env.locals)(h1:it∈X.ex\/X.s₀.heap.objs.size<=it)(h2:∀x c,X.env.cells.lookup x=some c->c≠it)(h3:∀p∈X.pn++zj,p.1≠it):Inv X zj σ H {s with heap:=h',toks:=t'}:=by
 have a:∀b u,H b=some u->b≠it:=λb u e z=>by rw[z,f] at e;cases e
 refine I.step (g':=s.gens) (d':=s.drawn) (ch:= [it]) (λb hb=> ?_) (λb o _ _ hc e _=>k b o (λz=>hc (by simp[z])) e) (λb o _ _ hc e _=>⟨o.slots,k b o (λz=>hc (by simp[z])) e⟩) (λ_ _ _ _ n=>n)
  (λb o hc e=>⟨o,k b o (λz=>hc (by simp[z])) e⟩) (λ_ _ e=>e) (λ_ _ _ e=>e) (λb ps e=>⟨#[],by rw[e];simp⟩) (λm g=> ?_) (λb u e=> ?_) I.bare
 .have e:b=it:=by simpa using hb
  subst e;exact⟨h1,d,h2,h3⟩
 .obtain ⟨o,es,ep,h,r⟩:=g;exact⟨o,es,ep,k _ o (AA6 d) h,r⟩
 .refine (I.hok b u e).stay (λc v hc q=>k c v ?_ q) (λ_ q=>q) λ_ _ q=>q;rcases hc with z|z
  .rw [z];exact a b u e
  .exact a c _ z
def Inv.tok (I:Inv X zj σ H s)(t:Nat):Inv X zj σ H {s with toks:=t}:=I.un (h':=s.heap) (t':=t) Un.refl I.hok
def Inv.kept {t':Nat}(I:Inv X zj σ H s)(k:∀b u,s.heap.get? b=some u->h'.get? b=some u):Inv X zj σ H {s with heap:=h',toks:=t'}:=I.un (Un.kept k) (I.hok.kept k)
def Inv.laid {a:zu}{o:HO}{t':Nat}(I:Inv X zj σ H s)(k:∀b u,s.heap.get? b=some u->h'.get? b=some u)(hp:s.heap.objs.size<=a)(new:CM X.prog X.w (upd H a o) h' a o):Inv X zj σ (upd H a o) {s with heap:=h',toks:=t'}:=I.un (Un.laid k hp (I.hok.fresh hp)) (I.hok.laid k hp new)
def Inv.write {x e:zu}{o:HO}{t':Nat}(I:Inv X zj σ H s)(a:kh (H x))(he:e=x\/H e=some (.own x))(k:∀b u,b≠e->s.heap.get? b=some u->h'.get? b=some u)(c:∃u,h'.get? e=some u)(new:CM X.prog X.w (upd H x o) h' x o):Inv X zj σ (upd H x o) {s with heap:=h',toks:=t'}:=I.un (Un.write a he k c) (I.hok.write a he k c new)
def Inv.weak {σ':zy (zt V)}(I:Inv X zj σ H s)(hl:σ'.length=σ.length)(w:∀(i:Nat) v,σ'[i]? =some (some v)->σ[i]? =some (some v)):Inv X zj σ' H s:=
 ⟨I.ok,I.os,I.bare,I.base,let ⟨m,a,b⟩:=I.loc;⟨m,a,λi x v c d e=>b i x v c (w i v d) e⟩,I.cell,I.free,I.freeC,I.pin,I.hok,hl.trans I.len⟩
def Inv.pins_of {a:zy (zu×Obj)}(I:Inv X zj σ H s)(h:∀p∈a,s.heap.get? p.1=some p.2/\H p.1=none/\p.1≠X.env.locals/\p.1 ∉ X.fs/\∀v,p.2.data≠ .cell v):Inv X a σ H s:=
 ⟨I.ok,I.os,I.bare,I.base,I.loc,I.cell,I.free,I.freeC,λp hp=>(AAR.mp hp).elim (λz=>I.pin p (List.mem_append_left _ z)) (h p),I.hok,I.len⟩
def Sk {N:zy Str}(hN:N.Nodup){i j:Nat}{x:Str}(a:N[i]? =some x)(b:N[j]? =some x):i=j:=by obtain⟨h1,c⟩:=AA1.mp a;obtain⟨h2,d⟩:=AA1.mp b;exact(List.getElem_inj hN).mp (c.trans d.symm)
def KD {M:Model}{A:zk}{E:zx->zw->Prop}{i:Nat}{x:Str}{v:V}{u:zx}{Q:Unit->zw->Prop}(I:Inv X zj σ H s)(hN:X.N.Nodup)(hi:X.N[i]? =some x)(hx:Loc X.env.scope x)(r:RelV v u)(h:∀D,Inv X zj (σ.set i (some v)) H D->(∃a,Heap.SameBut a s.heap D.heap/\(a=X.env.locals\/X.env.cells.lookup x=some a))->Q () D)(Z:X.fn x=true\/X.env.scope.names.lookup x=some .local:=by first | exact .inl rfl|exact .inr rfl|assumption):wpAny M A (storeName X.env x u) Q E s:=by
 obtain⟨m,F,hl⟩:=id I.loc;have qG:(X.env.scope.kind == .class||(X.env.scope.kind == .module&&X.env.locals != X.env.globals))=false:=by rw[I.ok.kind];rfl
 have l:i<σ.length:=by rw[I.len];exact(AA1.mp hi).1
 have t:=I.cne;have tracked:∀{a:zu} {h':zl},(∃o,s.heap.get? a=some o/\H a=none)->Heap.SameBut a s.heap h'->IX X.prog X.w H h':=λ{a h'} ha hs b ob e=>by
  obtain⟨_,_,S⟩:=ha;refine(I.hok b ob e).stay (λc B hc q=>(hs.2 c ?_).trans q) (λ_ q=>q) λ_ _ q=>q;rintro rfl;rcases hc with rfl|hc
  .rw [S] at e;cases e
  .rw [S] at hc;cases hc
 rcases hx with hk|hk
 .refine wpAny_storeName_local hk F (λh' we hs=> ?_) qG;obtain⟨oL,_,_,wm,_⟩:=id F;refine h _ ⟨I.ok,I.os,I.bare,⟨λb o e n hb hx=> ?_,λb o e n hb hx=> ?_,I.base.free,λb o e hx=> ?_,I.base.tups,I.base.frzs,I.base.tbls⟩,⟨_,we,λj y G f g J=> ?_⟩,λy c e=> ?_,I.free,I.freeC,λp hp=> ?_,tracked ⟨oL,wm,I.free⟩ hs,by simpa using I.len⟩ ⟨_,hs, .inl rfl⟩
  .exact (hs.2 b (AAK (AAP (AAF e) I.ok.above))).trans (I.base.keep b o e n hb hx)
  .obtain ⟨sl,f⟩:=I.base.slot b o e n hb hx;exact⟨sl,(hs.2 b (AAK (AAP (AAF e) I.ok.above))).trans f⟩
  .obtain ⟨K,f⟩:=I.base.there b o e hx;exact⟨K,(hs.2 b (AAK (AAP (AAF e) I.ok.above))).trans f⟩
  .by_cases hj:j=i
   .subst hj;rw[hi] at f;cases f;rw[ACA l] at g;cases g;exact⟨u,r, .inl ⟨hk,by simp⟩⟩
   .rw [AAZ (AA6 hj)] at g;obtain⟨L,O,q⟩:=hl j y G f g J;refine⟨L,O, ?_⟩;rcases q with⟨k,e⟩|⟨k,c,e,z⟩
    .refine .inl ⟨k, ?_⟩;have:y≠x:=λe=>hj (Sk hN f (e ▸ hi));simp[this,e]
    .exact .inr ⟨k,c,e,z.sameBut hs (t y c e)⟩
  .obtain ⟨B,z⟩:=I.cell y c e;exact⟨B,z.sameBut hs (t y c e)⟩
  .obtain ⟨e,n,ne,P,d⟩:=I.pin p hp;exact⟨(hs.2 p.1 ne).trans e,n,ne,P,d⟩
 .have R:X.fn x=true:=by
   rcases Z with z|z
   .exact z
   .rw [z] at hk;cases hk
  obtain⟨c,hc⟩:=I.ok.has x (.inl hk);obtain⟨B,z⟩:=I.cell x c hc;refine wpAny_storeName_cell I.ok.kind hk hc z (λh' T hs=> ?_);obtain⟨U,W,qO⟩:=id z;refine h {s with heap:=h'} ⟨I.ok,I.os,I.bare,⟨λb o e n hb hx=> ?_,λb o e n hb hx=> ?_,I.base.free,λb o e hx=> ?_,I.base.tups,I.base.frzs,I.base.tbls⟩,⟨m,F.sameBut hs (AA6 (t x c hc)),λj y G f g J=> ?_⟩,λy C e=> ?_,I.free,I.freeC,λp hp=> ?_,tracked ⟨U,W,I.freeC x c hc⟩ hs,by simpa using I.len⟩ ⟨c,hs, .inr hc⟩
  .exact (hs.2 b (AAK (AAP (AAF e) (I.ok.cab x c R hc)))).trans (I.base.keep b o e n hb hx)
  .obtain ⟨sl,f⟩:=I.base.slot b o e n hb hx;exact⟨sl,(hs.2 b (AAK (AAP (AAF e) (I.ok.cab x c R hc)))).trans f⟩
  .obtain ⟨K,f⟩:=I.base.there b o e hx;exact⟨K,(hs.2 b (AAK (AAP (AAF e) (I.ok.cab x c R hc)))).trans f⟩
  .by_cases hj:j=i
   .subst hj;rw[hi] at f;cases f;rw[ACA l] at g;cases g;exact⟨u,r, .inr ⟨.inl hk,c,hc,T⟩⟩
   .rw [AAZ (AA6 hj)] at g;obtain⟨L,O,q⟩:=hl j y G f g J;refine⟨L,O, ?_⟩;rcases q with q|⟨k,C,e,z'⟩
    .exact .inl q
    .refine .inr ⟨k,C,e,z'.sameBut hs ?_⟩;rintro rfl;exact hj (Sk hN f (I.ok.inj _ _ _ e hc ▸ hi))
  .by_cases Y:C=c
   .subst Y;exact⟨_,T⟩
   .obtain ⟨w2,z2⟩:=I.cell y C e;exact⟨w2,z2.sameBut hs Y⟩
  .obtain ⟨e,n,ne,P,d⟩:=I.pin p hp;refine⟨(hs.2 p.1 ?_).trans e,n,ne,P,d⟩;intro q;rw[q,W] at e;have q':U=p.2:=AAb e;exact d B (by rw[<-q'];exact qO)
def Gk {M:Model}{A:zk}{E:zx->zw->Prop}{i:Nat}{x:Str}{v:V}{u:zx}{Q:Unit->zw->Prop}(I:Inv X zj σ H s)(hN:X.N.Nodup)(hi:X.N[i]? =some x)(hx:Loc X.env.scope x)(r:RelV v u)(h:∀a,Inv X zj (σ.set i (some v)) H a->Q () a)(b:X.fn x=true\/X.env.scope.names.lookup x=some .local:=by first | exact .inl rfl|exact .inr rfl|assumption):wpAny M A (storeName X.env x u) Q E s:=
 KD I hN hi hx r (λa c _=>h a c) b
def Inv.call' {a:zw}{ch:zy zu}(I:Inv X zj σ H s)(d:a.os=s.os)(u:Un (Yb X.stack) ch H H' s.heap a.heap)(hok:IX X.prog X.w H' a.heap)(f:AllBare a.gens)(g:∀b∈ch,(b∈X.ex\/X.s₀.heap.objs.size<=b)/\b≠X.env.locals/\(∀x c,X.env.cells.lookup x=some c->c≠b)/\∀p∈X.pn++zj,p.1≠b):Inv X zj σ H' a:=by obtain⟨h',g',d',t',h⟩:=a;have e:h=s.os:=d;subst e;exact I.call (g':=g') (t':=t') (d':=d') u hok f g
end
abbrev XK:=zx->zt zu->Hp->Prop
abbrev St:=zy (zt V)
abbrev VK:=V->Hp->Prop
abbrev TE:=St->Hp->VK->Prop
abbrev TT:=St->Hp->(zq->Hp->Prop)->Prop
abbrev TA:=St->Hp->(zy V->Hp->Prop)->Prop
structure Pu where
 nx:St->Hp->Prop
 rt:VK
 bk:St->Hp->Prop:=λ_ _=>False
 ct:St->Hp->Prop:=λ_ _=>False
abbrev TS:=Pu->St->Hp->Prop
def EP (X:Cx)(b:zy (zu×Obj))(c:St)(Q:VK)(u:zx)(d:zw):Prop:=∃v a,Inv X b c a d/\RelV v u/\Q v a
def TP (X:Cx)(c:zy (zu×Obj))(d:St)(Q:zq->Hp->Prop)(b:zq)(e:zw):Prop:=∃a,Inv X c d a e/\Q b a
def AP (X:Cx)(b:zy (zu×Obj))(c:St)(Q:zy V->Hp->Prop)(d:zy zx)(e:zw):Prop:=∃vs a,Inv X b c a e/\Ay vs d/\Q vs a
def SP (X:Cx)(b:zy (zu×Obj))(D:Pu)(f:Flow)(c:zw):Prop:=
 match f with
 | .next=>∃σ' a,Inv X b σ' a c/\D.nx σ' a
 | .brk=>∃σ' a,Inv X b σ' a c/\D.bk σ' a
 | .cont=>∃σ' a,Inv X b σ' a c/\D.ct σ' a
 | .ret u=>∃v σ' a,Inv X b σ' a c/\RelV v u/\D.rt v a
def PE (X:Cx)(e:zr)(t:TE):Prop:=
 ∀(b:zy (zu×Obj)) (s:zw) (a:St) (H:Hp) (Q:VK),Inv X b a H s->t a H Q->wpAny (model X.prog X.w) X.A (eval e X.env) (EP X b a Q) X.xe s
def PT (X:Cx)(e:zr)(t:TT):Prop:=
 ∀(b:zy (zu×Obj)) (s:zw) (a:St) (H:Hp) (Q:zq->Hp->Prop),Inv X b a H s->t a H Q->wpAny (model X.prog X.w) X.A (isTrue e X.env (eval e X.env)) (TP X b a Q) X.xe s
def PW (X:Cx)(e:zr)(t:TT):Prop:=
 ∀(whole:Sem zx) (b:zy (zu×Obj)) (s:zw) (a:St) (H:Hp) (Q:zq->Hp->Prop),Inv X b a H s->t a H Q->wpAny (model X.prog X.w) X.A (isTrue e X.env whole) (TP X b a Q) X.xe s
def PW.pt {X:Cx}{e:zr}{t:TT}(h:PW X e t):PT X e t:=h _
def PA (X:Cx)(es:zy zr)(t:TA):Prop:=
 ∀(pos:Pos) (b:zy (zu×Obj)) (s:zw) (a:St) (H:Hp) (Q:zy V->Hp->Prop),Inv X b a H s->t a H Q->wpAny (model X.prog X.w) X.A (spliced (backTo pos (starEach es X.env))) (AP X b a Q) X.xe s
def PS (X:Cx)(st:Stmt)(t:TS):Prop:=
 ∀(a:zy (zu×Obj)) (s:zw) (b:St) (H:Hp) (D:Pu),Inv X a b H s->t D b H->wpAny (model X.prog X.w) X.A (exec st X.env) (SP X a D) X.xe s
def Rr (X:Cx)(st:zy Stmt)(t:TS):Prop:=
 ∀(a:zy (zu×Obj)) (s:zw) (b:St) (H:Hp) (D:Pu),Inv X a b H s->t D b H->wpAny (model X.prog X.w) X.A (execs st X.env) (SP X a D) X.xe s
def BY {b:Type}{t:Sem b}{Q c:b->zw->Prop}{M:Model}{A:zk}{E:zx->zw->Prop}{s:zw}(h:wpAny M A t Q E s)(hQ:∀a s,Q a s->c a s):wpAny M A t c E s:=ABM h hQ λ_ _ x=>x
section
variable {X:Cx}
def IF (i:Nat):TE:=λa H Q=>∃v,a[i]? =some (some v)/\Q v H
def tC (v:V):TE:=λ_ H Q=>Q v H
def M7 {i:Nat}{x:Str}{pos:Pos}(hN:X.N[i]? =some x)(hv:fM X.env.scope x)(hd:(x==("__debug__" :Str))=false:=by decide)(d:(x==("__classdict__" :Str))=false:=by decide):PE X (.Name x pos) (IF i):=by
 intro f s g H Q I h;obtain⟨v,e,h⟩:=h;obtain⟨m,j,hl⟩:=I.loc;obtain⟨u,r,l⟩:=hl i x v hN e hv;have a:EP X f g Q u s:=⟨v,H,I,r,h⟩;rcases l with⟨hk,k⟩|⟨hk,c,hc,b⟩
 .exact wpAny_Name (wpAny_loadName_local I.ok.kind hk j k a) hd
 .rcases hk with hk|hk
  .exact wpAny_Name (wpAny_loadName_cell I.ok.kind hk hc b a) hd
  .exact wpAny_Name (wpAny_loadName_free I.ok.kind hk hc b a d) hd
def BM {i j pos}:PE X (.Constant (.int i) j pos) (tC (.int i)):=λ_ _ _ H _ I h=>wpAny_Constant_int ⟨.int i,H,I.tok _,⟨_,rfl⟩,h⟩
def mP {b j pos}:PE X (.Constant (.bool b) j pos) (tC (.bl b)):=λ_ _ _ H _ I h=>Constant_bool ⟨.bl b,H,I,rfl,h⟩
def iu {j pos}:PE X (.Constant .none j pos) (tC .non):=λ_ _ _ H _ I h=>Constant_none ⟨.non,H,I,rfl,h⟩
def i4 {x j pos}:PE X (.Constant (.str x) j pos) (tC (.str x)):=λ_ _ _ H _ I h=>Calls.Constant_str ⟨.str x,H,I.tok _,⟨_,rfl⟩,h⟩
def Gl (X:Cx)(x:Str):Prop:=X.env.kindOf x=some .globalImplicit
def WR {E:zx->zw->Prop}{a:zy (zu×Obj)}{s:zw}{b:St}{H:Hp}{x:Str}{u:zx}{pos:Pos}{Q:zx->zw->Prop}(I:Inv X a b H s)(c:Gl X x)(d:X.mg x=some u)(h:Q u s)(hd:(x==("__debug__" :Str))=false:=by decide):wpAny (model X.prog X.w) X.A (eval (.Name x pos) X.env) Q E s:=
 Calls.Name_function_global I.ok.kind c (Calls.loadGlobal_global (by rw[I.ok.glob];exact I.mod.glob.keeps I.bk) d h) hd
def Hi {E:zx->zw->Prop}{a:zy (zu×Obj)}{s:zw}{b:St}{H:Hp}{x:Str}{u:zx}{pos:Pos}{Q:zx->zw->Prop}(I:Inv X a b H s)(c:Gl X x)(d:X.mg x=none)(hv:bootBuiltins x=some u)(h:Q u s)(e:x≠"__name__" :=by decide)(hd:(x==("__debug__" :Str))=false:=by decide):wpAny (model X.prog X.w) X.A (eval (.Name x pos) X.env) Q E s:=by obtain⟨f,h1,h2⟩:=I.mod.blt;exact Calls.Name_function_global I.ok.kind c (Calls.loadGlobal_builtin (by rw[I.ok.glob];exact I.mod.glob.keeps I.bk) d (by rw[I.ok.blt];exact h1.keeps I.bk) ((h2 x e).trans hv) h) hd
def dR {x:Str}{v:V}{u:zx}{pos:Pos}(a:Gl X x)(b:X.mg x=some u)(r:RelV v u)(hd:(x==("__debug__" :Str))=false:=by decide):PE X (.Name x pos) (tC v):=
 λ_ _ _ H _ I h=>WR I a b ⟨v,H,I,r,h⟩ hd
variable {a b:zr}{ta tb:TE}{pos:Pos}
def tB (t:TE):TT:=λd H Q=>t d H λx H1=>∃c,x= .bl c/\Q c H1
def jB {e:zr}{t:TE}(h:PE X e t)(he:∀whole,isTrue e X.env whole=(do let v <-whole;standAt e.pos;holding [v] (truthy v)):=by intro _;rfl):PT X e (tB t):=by intro c s f H Q I hw;refine isTrue_plain (BY (h c s f H _ I hw) λv k ⟨x,H1,g,i,j⟩=> ?_) (he _);obtain⟨d,rfl,q⟩:=j;cases i;exact AB8 ⟨H1,g,q⟩
variable {tA tB':TT}{rest:zy zr}
def qw (t u:TT):TT:=λd H Q=>t d H λc H1=>if c=true then u d H1 Q else Q false H1
def xL (t u:TT):TT:=λd H Q=>t d H λc H1=>if c=true then Q true H1 else u d H1 Q
def rC (t:TT):TT:=λd H Q=>t d H λc H1=>Q (!c) H1
def du (ha:PT X a tA):PW X (.BoolOp .And [a] pos) tA:=by
 intro g d s f H Q I h;refine isTrue_and (BY (ha d s f H Q I h) λc i e=> ?_);cases c with
 | true=>exact isTrue_and_nil e
 | false=>exact e
def jF (ha:PT X a tA):PW X (.BoolOp .Or [a] pos) tA:=by
 intro g d s f H Q I h;refine isTrue_or (BY (ha d s f H Q I h) λc i e=> ?_);cases c with
 | false=>exact isTrue_or_nil e
 | true=>exact e
def jE (ha:PT X a tA)(hb:PW X (.BoolOp .And (b::rest) pos) tB'):PW X (.BoolOp .And (a::b::rest) pos) (qw tA tB'):=by
 intro i d s e H Q I h;refine isTrue_and (BY (ha d s e H _ I h) λc j ⟨H1,f,g⟩=> ?_);cases c with
 | true=>exact hb i d j e H1 Q f g
 | false=>exact⟨H1,f,g⟩
def mU (ha:PT X a tA)(hb:PW X (.BoolOp .Or (b::rest) pos) tB'):PW X (.BoolOp .Or (a::b::rest) pos) (xL tA tB'):=by
 intro i d s e H Q I h;refine isTrue_or (BY (ha d s e H _ I h) λc j ⟨H1,f,g⟩=> ?_);cases c with
 | true=>exact⟨H1,f,g⟩
 | false=>exact hb i d j e H1 Q f g
def jA (ha:PT X a tA):PT X (.UnaryOp .Not a pos) (rC tA):=by intro d s e H Q I h;exact isTrue_not (ha d s e H (λc H1=>Q (!c) H1) I h)
def nR (ta tb:TE):TE:=λd H Q=>ta d H λx H1=>∃c,x= .bl c/\if c=true then tb d H1 Q else Q (.bl false) H1
def rE (ta tb:TE):TE:=λd H Q=>ta d H λx H1=>∃c,x= .bl c/\if c=true then Q (.bl true) H1 else tb d H1 Q
def nY (ta:TE):TE:=λd H Q=>ta d H λx H1=>∃c,x= .bl c/\Q (.bl (!c)) H1
def i0 {op}{t:TE}(h:PE X a t):PE X (.BoolOp op [a] pos) t:=λc s d H Q I hw=>BoolOp_one (h c s d H Q I hw)
def iq (ha:PE X a ta)(hb:PE X (.BoolOp .And (b::rest) pos) tb):PE X (.BoolOp .And (a::b::rest) pos) (nR ta tb):=by
 intro e s f H Q I h;refine BoolOp_and (BY (ha e s f H _ I h) λv i ⟨x,H1,g,j,d⟩=> ?_);obtain⟨c,rfl,d⟩:=d;cases j;refine AB8 ?_;cases c with
 | true=>exact hb e i f H1 Q g d
 | false=>exact⟨.bl false,H1,g,rfl,d⟩
def mR (ha:PE X a ta)(hb:PE X (.BoolOp .Or (b::rest) pos) tb):PE X (.BoolOp .Or (a::b::rest) pos) (rE ta tb):=by
 intro e s f H Q I h;refine BoolOp_or (BY (ha e s f H _ I h) λv i ⟨x,H1,g,j,d⟩=> ?_);obtain⟨c,rfl,d⟩:=d;cases j;refine AB8 ?_;cases c with
 | false=>exact hb e i f H1 Q g d
 | true=>exact⟨.bl true,H1,g,rfl,d⟩
def iy (ha:PE X a ta):PE X (.UnaryOp .Not a pos) (nY ta):=by intro e s f H Q I h;refine UnaryOp_ (BY (ha e s f H _ I h) λv j ⟨x,H1,g,i,d⟩=> ?_);obtain⟨c,rfl,d⟩:=d;cases i;exact not_of (AB8 ⟨.bl (!c),H1,g,rfl,d⟩)
def xK (t:TT)(ta tb:TE):TE:=λd H Q=>t d H λc H1=>if c=true then ta d H1 Q else tb d H1 Q
def aJ {c:zr}(hc:PT X c tA)(ha:PE X a ta)(hb:PE X b tb):PE X (.IfExp c a b pos) (xK tA ta tb):=by
 intro e s f H Q I h;refine wpAny_IfExp (BY (hc e s f H _ I h) λd g ⟨H1,i,j⟩=> ?_);cases d with
 | true=>exact ha e g f H1 Q i j
 | false=>exact hb e g f H1 Q i j
end
def Fe (K:AAB)(H:Hp)(a:zu)(xs:zy V):Prop:=
 Rd H a (.lst xs)\/
  ∃(o:Obj) (b:Array zx) (n:Nat),K.lookup a=some o/\o.cls= .type "list" /\o.dict=none/\o.data= .seq b n/\b.size<=sizeLine/\Ay xs b.toList
def Nh (K:AAB)(H:Hp)(a:zu)(xs:zy V):Prop:=
 Rd H a (.tup xs)\/
  ∃(o:Obj) (b:Array zx) (n:Nat),K.lookup a=some o/\o.cls= .type "tuple" /\o.data= .seq b n/\b.size<=sizeLine/\Ay xs b.toList
def ph:zx->zt V
 | .none=>some .non
 | .bool b=>some (.bl b)
 | .int i _=>some (.int i)
 | .str x _=>some (.str x)
 | .bytes b _=>some (.byt b)
 | .float b _=>some (.flt b)
 | .ref a=>some (.ref a)
 | .type n=>some (.ty n)
 | _=>none
def RelV.abs {x:V}{u:zx}(r:RelV x u):ph u=some x:=by
 cases x with
 | non=>cases r;rfl
 | bl _=>cases r;rfl
 | int _=>obtain⟨t,rfl⟩:=r;rfl
 | str _=>obtain⟨t,rfl⟩:=r;rfl
 | byt _=>obtain⟨t,rfl⟩:=r;rfl
 | flt _=>obtain⟨t,rfl⟩:=r;rfl
 | ref _=>cases r;rfl
 | ty _=>cases r;rfl
def RelV.inj {x y:V}{u:zx}(r:RelV x u)(q:RelV y u):x=y:=AAb (r.abs.symm.trans q.abs)
theorem Ay.inj:∀{xs a:zy V} {b:zy zx},Ay xs b->Ay a b->xs=a
 | _,_,_, .nil, .nil=>rfl
 | _,_,_, .cons r t, .cons c t'=>by rw[r.inj c,Ay.inj t t']
section
variable {X:Cx}{zj:zy (zu×Obj)}{σ:St}{H:Hp}{s:zw}{a:zu}{xs ys:zy V}
def Fe.of {K:AAB}(h:H a=some (.lst xs)):Fe K H a xs:= .inl (.inl h)
def Inv.list (I:Inv X zj σ H s)(h:Fe X.K H a xs):∃b:zy zx,Ay xs b/\PlainL s.heap a b.toArray/\xs.length<=sizeLine:=by
 rcases h with h|⟨o,b,n,hk,hc,hd,hs,c,r⟩
 .obtain ⟨z,b,n,r,e⟩:=h.ok I.hok;exact⟨b,r,⟨_,n,e,rfl,rfl,rfl⟩,z⟩
 .refine ⟨b.toList,r,⟨o,n,I.kIn a o hk,hc,hd,by simpa using hs⟩, ?_⟩;have e:=r.length;simp only[AB6] at e;omega
def Inv.tuple (I:Inv X zj σ H s)(h:Nh X.K H a xs):∃b:zy zx,Ay xs b/\IsTup s.heap a b.toArray/\xs.length<=sizeLine:=by
 rcases h with h|⟨o,b,n,hk,hc,hs,c,r⟩
 .obtain ⟨z,b,r,p⟩:=h.ok I.hok;exact⟨b,r,p,z⟩
 .refine ⟨b.toList,r,⟨o,I.kIn a o hk,hc,n,by simpa using hs⟩, ?_⟩;have e:=r.length;simp only[AB6] at e;omega
def Inv.list_inj (I:Inv X zj σ H s)(h:Fe X.K H a xs)(h':Fe X.K H a ys):xs=ys:=by
 obtain⟨b,r,⟨o,n,e,_,_,d⟩,_⟩:=I.list h;obtain⟨its',c,⟨g,i,e',_,_,d'⟩,_⟩:=I.list h';rw[e] at e';cases e';rw[d] at d';injection d' with f _;have:b=its':=by simpa using congrArg Array.toList f
 subst this;exact r.inj c
def Inv.tuple_inj (I:Inv X zj σ H s)(h:Nh X.K H a xs)(h':Nh X.K H a ys):xs=ys:=by
 obtain⟨b,r,⟨o,e,_,n,d⟩,_⟩:=I.tuple h;obtain⟨its',c,⟨g,e',_,i,d'⟩,_⟩:=I.tuple h';rw[e] at e';cases e';rw[d] at d';injection d' with f _;have:b=its':=by simpa using congrArg Array.toList f
 subst this;exact r.inj c
end
abbrev Cx.wish (X:Cx)(E:zx->zw->Prop):Cx:={X with xe:=E}
abbrev Cx.nox (X:Cx):Cx:=X.wish λ_ _=>False
def Cx.Ok.wish {X:Cx}(ok:X.Ok)(E:zx->zw->Prop):(X.wish E).Ok:=
 ⟨ok.mod,ok.kind,ok.glob,ok.blt,ok.above,ok.inj,ok.has,ok.cab,ok.hd,ok.frames,ok.stk,ok.exf,ok.bs,ok.bsz,ok.noex,ok.exfs,ok.funs,ok.frf⟩
def Cx.Ok.unwish {X:Cx}{E:zx->zw->Prop}(ok:(X.wish E).Ok):X.Ok:=
 ⟨ok.mod,ok.kind,ok.glob,ok.blt,ok.above,ok.inj,ok.has,ok.cab,ok.hd,ok.frames,ok.stk,ok.exf,ok.bs,ok.bsz,ok.noex,ok.exfs,ok.funs,ok.frf⟩
section
variable {X:Cx}{zj:zy (zu×Obj)}{σ:St}{H:Hp}{s:zw}{E:zx->zw->Prop}
def Inv.wish (I:Inv X zj σ H s)(E:zx->zw->Prop):Inv (X.wish E) zj σ H s:=⟨I.ok.wish E,I.os,I.bare,I.base,I.loc,I.cell,I.free,I.freeC,I.pin,I.hok,I.len⟩
def Inv.unwish (I:Inv (X.wish E) zj σ H s):Inv X zj σ H s:=⟨I.ok.unwish,I.os,I.bare,I.base,I.loc,I.cell,I.free,I.freeC,I.pin,I.hok,I.len⟩
def SP.unwish {D:Pu}{f:Flow}{b:zw}(h:SP (X.wish E) zj D f b):SP X zj D f b:=by
 cases f with
 | next=>obtain⟨σ',a,I,q⟩:=h;exact⟨σ',a,I.unwish,q⟩
 | brk=>obtain⟨σ',a,I,q⟩:=h;exact⟨σ',a,I.unwish,q⟩
 | cont=>obtain⟨σ',a,I,q⟩:=h;exact⟨σ',a,I.unwish,q⟩
 | ret u=>obtain⟨v,σ',a,I,r,q⟩:=h;exact⟨v,σ',a,I.unwish,r,q⟩
def Rr.nox {st:zy Stmt}{t:TS}(h:Rr X.nox st t):Rr X st t:=λzj s σ H D I hw=>
 ABM (h zj s σ H D (I.wish _) hw) (λ_ _ q=>q.unwish) λ_ _ z=>False.elim z
end
section
variable {X:Cx}{st:Stmt}{rest:zy Stmt}{t u:TS}{e:zr}{te:TE}{pos:Pos}
def nX:TS:=λD a H=>D.nx a H
def ng (t u:TS):TS:=λD a H=>t {D with nx:=u D} a H
def Qv:Rr X [] nX:=λ_ _ a H _ I h=>ACm ⟨a,H,I,h⟩
def Ch (h1:PS X st t)(h2:Rr X rest u):Rr X (st::rest) (ng t u):=by
 intro a s b H D I h;refine wpAny_execs_cons (BY (h1 a s b H {D with nx:=u D} I h) λf c q=> ?_);cases f with
 | next=> obtain⟨σ',d,g,q⟩:=q;exact h2 a c σ' d D g q
 | ret v=>exact q
 | brk=>exact q
 | cont=>exact q
def G1 (h1:PS X st t):Rr X [st] t:=by
 intro a s b H D I h;refine wpAny_execs_cons (BY (h1 a s b H D I h) λf c q=> ?_);cases f with
 | next=>exact ACm q
 | ret v=>exact q
 | brk=>exact q
 | cont=>exact q
def Inv.quiet {a:zy (zu×Obj)}{b:St}{H:Hp}{s:zw}(I:Inv X a b H s):interactive X.env=false:=by simp[interactive,I.ok.kind]
def fk (te:TE):TS:=λD a H=>te a H λ_ H1=>D.nx a H1
def di (he:PE X e te)(hs:swapsWith e none pos.line X.env=pure false:=by rfl):PS X (.Expr e pos) (fk te):=by intro b s a H D I h;exact wpAny_Expr_any (BY (he b s a H _ I h) λv f ⟨x,H1,c,g,d⟩=>⟨a,H1,c,d⟩) I.quiet hs
def rG (te:TE):TS:=λD a H=>te a H D.rt
def Qu (he:PE X e te):PS X (.Return (some e) pos) (rG te):=by intro b s a H D I h;exact wpAny_Return_some (BY (he b s a H _ I h) λv g ⟨x,H1,c,d,f⟩=>⟨x,a,H1,c,d,f⟩)
def q9 (c:TT)(t u:TS):TS:=λD a H=>c a H λb H1=>if b=true then t D a H1 else u D a H1
def aW {c:zr}{a b:zy Stmt}{i:TT}(hc:PT X c i)(ha:Rr X a t)(hb:Rr X b u):PS X (.If c a b pos) (q9 i t u):=by
 intro f s g H D I h;refine wpAny_If (BY (hc f s g H _ I h) λd j ⟨H1,k,l⟩=> ?_);cases d with
 | true=>exact ha f j g H1 D k l
 | false=>exact hb f j g H1 D k l
end
abbrev TG:=V->St->Hp->(St->Hp->Prop)->Prop
abbrev UC:=zy V->St->Hp->(St->Hp->Prop)->Prop
def PG (X:Cx)(target:zr)(t:TG):Prop:=
 ∀(a:zy (zu×Obj)) (s:zw) (b:St) (H:Hp) (v:V) (u:zx) (Q:St->Hp->Prop),Inv X a b H s->RelV v u->t v b H Q->
  wpAny (model X.prog X.w) X.A (assign target X.env u) (λ_ d=>∃σ' c,Inv X a σ' c d/\Q σ' c) X.xe s
def j5 (X:Cx)(e:zy zr)(t:UC):Prop:=
 ∀(a:zy (zu×Obj)) (s:zw) (b:St) (H:Hp) (vs:zy V) (c:zy zx) (Q:St->Hp->Prop),Inv X a b H s->Ay vs c->t vs b H Q->
  wpAny (model X.prog X.w) X.A (assignInOrder ((assignEach e X.env).map (·.2)) c) (λ_ f=>∃σ' d,Inv X a σ' d f/\Q σ' d) X.xe s
abbrev Yy:=V->V->V->Hp->(Hp->Prop)->Prop
def gF (X:Cx)(t:Yy):Prop:=
 ∀(a:zy (zu×Obj)) (s:zw) (b:St) (H:Hp) (o i v:V) (c d u:zx) (Q:Hp->Prop),Inv X a b H s->RelV o c->RelV i d->RelV v u->t o i v H Q->
  wpAny (model X.prog X.w) X.A (setItem c d u) (λ_ f=>∃e,Inv X a b e f/\Q e) X.xe s
abbrev gL:=V->V->Hp->VK->Prop
def j6 (X:Cx)(op:Operator)(t:gL):Prop:=
 ∀(a:zy (zu×Obj)) (s:zw) (b:St) (H:Hp) (x y:V) (v u:zx) (Q:VK),Inv X a b H s->RelV x v->RelV y u->t x y H Q->
  wpAny (model X.prog X.w) X.A (inplaceOp op v u) (EP X a b Q) X.xe s
section
variable {X:Cx}{pos:Pos}
def Cz (i:Nat):TG:=λv a H Q=>Q (a.set i (some v)) H
def G0 {i:Nat}{x:Str}(hN:X.N.Nodup)(hi:X.N[i]? =some x)(hx:Loc X.env.scope x)(a:X.fn x=true\/X.env.scope.names.lookup x=some .local:=by first | exact .inl rfl|exact .inr rfl|assumption):PG X (.Name x pos) (Cz i):=by intro c s d H v u Q I r h;exact ADS (Gk I hN hi hx r (λe b=>⟨_,H,b,h⟩) a)
def QC:UC:=λvs a H Q=>vs= [] /\Q a H
def FO (t:TG)(u:UC):UC:=λvs a H Q=>∃v r,vs=v::r/\t v a H λσ' b=>u r σ' b Q
def LZ:j5 X [] QC:=by intro b s a H vs c Q I r h;obtain⟨e,h⟩:=h;subst e;cases r;exact assignInOrder_nil ⟨a,H,I,h⟩
def FS {e:zr}{es:zy zr}{t:TG}{u:UC}(h1:PG X e t)(h2:j5 X es u)(hs:(assignEach (e::es) X.env).map (·.2)=assign e X.env::(assignEach es X.env).map (·.2):=by rfl):j5 X (e::es) (FO t u):=by
 intro b s c H vs k Q I r h;obtain⟨v,l,d,h⟩:=h;subst d;cases r with
 | cons r f=> rw[hs];refine assignInOrder_cons (BY (h1 b s c H _ _ _ I r h) λ_ g ⟨a,H1,i,j⟩=> ?_);exact h2 b g a H1 _ _ Q i f j
def p9 (b c:TE)(t:Yy):TG:=λv a H Q=>b a H λo H1=>c a H1 λi d=>t o i v d λe=>Q a e
def U5 {o i:zr}{e f:TE}{t:Yy}(g:PE X o e)(hi:PE X i f)(hs:gF X t)(ha:∀v,assign (.Subscript o i pos) X.env v=(do
   let a <-holding [v] (eval o X.env);let b <-holding [v,a] (eval i X.env)
   standAt pos
   holding [v,a,b] (setItem a b v)
   release [v,a,b] []):=by intro _;rfl):PG X (.Subscript o i pos) (p9 e f t):=by intro d s c H v u Q I r h;rw[ha];refine AAA (AAa (BY (g d s c H _ I h) λa j ⟨x,H1,k,l,m⟩=> ?_));refine AAA (AAa (BY (hi d j c H1 _ k m) λb n ⟨y,p,w,z,A⟩=> ?_));refine AAA (ABU (AAA (AAa (BY (hs d n c p x y v a b u _ w l z r A) λ_ E ⟨B,C,D⟩=> ?_))));exact wpAny_release ⟨c,B,C,D⟩
def VY (b:TE)(g:TG):TS:=λD a H=>b a H λx H1=>g x a H1 D.nx
def Qt {a e:zr}{b:TE}{g:TG}(he:PE X e b)(f:PG X a g)(hs:swapsWithSole [a] e pos.line X.env=pure false:=by rfl)(hw:swappedStores [a] e X.env=pure none:=by rfl)(h1:(assignEach [a] X.env).map (·.2)= [assign a X.env] :=by rfl):PS X (.Assign [a] e pos) (VY b g):=by intro c s d H D I h;refine wpAny_Assign_stores (BY (he c s d H _ I h) λv i ⟨x,H1,j,k,l⟩=> ?_) hs hw;rw[h1];exact BY (f c i d H1 x v _ j k l) λ_ m q=>q
def Hm {i:Nat}{x:Str}{e:zr}{a:TE}{pos':Pos}(hN:X.N.Nodup)(hi:X.N[i]? =some x)(hx:Loc X.env.scope x)(he:PE X e a)(hs:swapsWith e (some (.Name x pos')) pos.line X.env=pure false:=by rfl)(b:X.fn x=true\/X.env.scope.names.lookup x=some .local:=by first | exact .inl rfl|exact .inr rfl|assumption):PS X (.Assign [.Name x pos'] e pos) (VY a (Cz i)):=by intro c s d H D I h;refine wpAny_Assign_Name (BY (he c s d H _ I h) λv l ⟨y,H1,f,g,j⟩=> ?_) hs;exact Gk f hN hi hx g (λm k=>⟨_,H1,k,j⟩) b
def rF (i j:Nat)(b:TA):TS:=λD a H=>b a H λvs H1=>∃v w,vs= [v,w] /\D.nx ((a.set i (some v)).set j (some w)) H1
def i9 {i j:Nat}{x y:Str}{a b:zr}{r:TA}{g k l:Pos}{kt k2 pt2}(hc:X.calm=true)(hN:X.N.Nodup)(hi:X.N[i]? =some x)(hj:X.N[j]? =some y)(C:i≠j)(hx:X.env.scope.names.lookup x=some .local)(t:X.env.scope.names.lookup y=some .local)(ha:PA X [a,b] r)(hw:swappedStores [.Tuple [.Name x g, .Name y k] kt l] (.Tuple [a,b] k2 pt2) X.env=pure (some [x,y]))(hs:swapsWithSole [.Tuple [.Name x g, .Name y k] kt l] (.Tuple [a,b] k2 pt2) pos.line X.env=pure false:=by rfl):PS X (.Assign [.Tuple [.Name x g, .Name y k] kt l] (.Tuple [a,b] k2 pt2) pos) (rF i j r):=by
 intro u s z H D I h;rw[exec_Assign_arm];refine AAA (ABU ?_);rw[hs];refine AAA (AAC ?_);rw[AAD (by decide)];refine AAA (Tuple_ (BY (ha _ u s z H _ I h) λE c ⟨vs,H1,F,G,m⟩=> ?_));obtain⟨v,w,J,m⟩:=m;subst J;obtain⟨d,f,rfl,rv,n⟩:∃d f,E= [d,f] /\RelV v d/\RelV w f:=by
  cases G with
  | cons p q=>
    cases q with
    | cons K L=> cases L;exact⟨_,_,rfl,p,K⟩
 refine ABE ?_ (by show 2<=sizeLine;decide);have M:Inv X u z H1 {c with heap:=c.heap.push {cls:= .type "tuple",data:= .seq [d,f].toArray}}:=F.kept (t':=c.toks) λb o e=>AAH _ e;rw[hw];refine AAA (AAC ?_);show wpAny (model X.prog X.w) X.A (do rule "assign.swapped-stores";let items <-unpackItems (.ref c.heap.objs.size) 2 none;assignInOrder [λv=>bindName X.env y v,λv=>bindName X.env x v] items.reverse;pure Flow.next) _ _ _;refine AAA (ABJ (AAA (unpackItems_tuple (items:= #[d,f]) (I.ok.hd hc) (IsTup.new c.heap _) λh' O=> ?_)));have P:=M.kept (h':=h') (t':=c.toks) λb o e=>O b o (AAK (AAF e)) e;show wpAny _ _ (assignInOrder [λv=>bindName X.env y v,λv=>bindName X.env x v] [f,d] >>= λ_=>pure Flow.next) _ _ _;refine AAA (assignInOrder_cons (wpAny_bindName (Gk P hN hj (.inl t) n (λR Q=> ?_) (.inr t))));refine assignInOrder_cons (wpAny_bindName (Gk Q hN hi (.inl hx) rv (λS B=>assignInOrder_nil (AAC ?_)) (.inr hx)));rw[List.set_comm _ _ (AA6 C)] at B;exact⟨_,H1,B,m⟩
def qz (i:Nat)(b:TE)(c:gL):TS:=λD a H=>∃x,a[i]? =some (some x)/\b a H λy H1=>c x y H1 λz d=>D.nx (a.set i (some z)) d
def i8 {i:Nat}{x:Str}{e:zr}{g:TE}{op:Operator}{j:gL}{pos':Pos}(hN:X.N.Nodup)(hi:X.N[i]? =some x)(hx:Loc X.env.scope x)(he:PE X e g)(o:j6 X op j)(p:X.fn x=true\/X.env.scope.names.lookup x=some .local:=by first | exact .inl rfl|exact .inr rfl|assumption):PS X (.AugAssign (.Name x pos') op e pos) (qz i g j):=by
 intro d s n H D I h;obtain⟨v,t,h⟩:=h;obtain⟨m,B,hl⟩:=I.loc;have f:fM X.env.scope x:=by rcases hx with k|k;exact .inl k;exact .inr (.inl k)
 obtain⟨u,r,l⟩:=hl i x v hi t f;refine wpAny_AugAssign_Name ?_;have go:wpAny (model X.prog X.w) X.A (eval e X.env) (λw a=>wpAny (model X.prog X.w) X.A (inplaceOp op u w) (λr b=>wpAny (model X.prog X.w) X.A (storeName X.env x r) (λ_=>SP X d D .next) X.xe b) X.xe a) X.xe s:=by refine BY (he d s n H _ I h) λw C ⟨y,H1,E,F,G⟩=> ?_;refine BY (o d C n H1 v y u w _ E r F G) λz R ⟨S,J,K,L,M⟩=> ?_;exact Gk K hN hi hx L (λT O=>⟨_,J,O,M⟩) p
 rcases l with⟨hk,P⟩|⟨hk,c,hc,Q⟩
 .exact wpAny_loadName_local I.ok.kind hk B P go
 .rcases hk with hk|hk
  .exact wpAny_loadName_cell I.ok.kind hk hc Q go
  .rcases hx with k|k
   .have:X.env.scope.names.lookup x=some .free:=hk;rw[k] at this;cases this
   .have:X.env.scope.names.lookup x=some .free:=hk;rw[k] at this;cases this
def nS (e f g:TE)(a:V->V->Hp->VK->Prop)(d:gL)(b:Yy):TS:=λD c H=>e c H λo H1=>f c H1 λi h=>a o i h λx j=>g c j λy k=>d x y k λz l=>b o i z l λm=>D.nx c m
def ko (X:Cx)(t:V->V->Hp->VK->Prop):Prop:=
 ∀(a:zy (zu×Obj)) (s:zw) (b:St) (H:Hp) (o i:V) (c d:zx) (Q:VK),Inv X a b H s->RelV o c->RelV i d->t o i H Q->
  wpAny (model X.prog X.w) X.A (getItem c d) (EP X a b Q) X.xe s
def dg {o i e:zr}{m n p:TE}{a:V->V->Hp->VK->Prop}{j:gL}{b:Yy}{op:Operator}{k:Pos}(x:PE X o m)(hi:PE X i n)(y:ko X a)(he:PE X e p)(hp:j6 X op j)(hs:gF X b)(ha:∀c d new,augStore i c d new=(do holding [new,c,d] (setItem c d new);release [new,c,d] [];pure .next):=by intros;rfl):PS X (.AugAssign (.Subscript o i k) op e pos) (nS m n p a j b):=by intro g s f H D I h;refine wpAny_AugAssign_SubscriptAny (BY (x g s f H _ I h) λc z ⟨r,H1,A,t,B⟩=> ?_) ha;refine BY (hi g z f H1 _ A B) λd C ⟨u,E,F,w,G⟩=> ?_;refine BY (y g C f E r u c d _ F t w G) λl J ⟨K,L,M,N,O⟩=> ?_;refine BY (he g J f L _ M O) λv P ⟨Q,R,S,T,U⟩=> ?_;refine BY (hp g P f R K Q l v _ S N T U) λnew W ⟨Y,Z,I5,r5,q5⟩=> ?_;exact BY (hs g W f Z r u Y c d new _ I5 t w r5 q5) λ_ s6 ⟨H6,I6,q6⟩=>⟨f,H6,I6,q6⟩
def xD (f:Int->Int->Int):gL:=λx y H Q=>∃i j,x= .int i/\y= .int j/\Q (.int (f i j)) H
def h9:j6 X .Add (xD λi j=>i+j):=by intro e s f H x y v u Q I a b h;obtain⟨i,j,c,d,q⟩:=h;subst c;subst d;obtain⟨t,rfl⟩:=a;obtain⟨t',rfl⟩:=b;exact iadd_int ⟨.int _,H,I.tok _,⟨_,rfl⟩,q⟩
def ji (c:TT)(f:TS):TS:=λD a H=>∃W:Nat->St->Hp->Prop,(∃m,W m a H)/\∀m a H,W m a H->
 c a H λb H1=>if b=true then ∃N:St->Hp->Prop,(∀σ' d,N σ' d->∃e,e<m/\W e σ' d)/\f {D with nx:=N,ct:=N,bk:=D.nx} a H1 else D.nx a H1
def aX {c:zr}{body:zy Stmt}{r:TT}{t:TS}(hp:PassesOwn (model X.prog X.w) X.A X.env X.xe)(hc:PT X c r)(hb:Rr X body t):PS X (.While c body [] pos) (ji r t):=by
 intro j s z H D I h;obtain⟨W,⟨m0,B⟩,turn⟩:=h;refine wpAny_While (codeAny_whileLoop (λn C=>∃σ' u,Inv X j σ' u C/\W n σ' u) ?_ m0 ⟨z,H,I,B⟩);rintro n E ⟨d,H1,F,G⟩;refine ABn hp (BY (hc j E d H1 _ F (turn n d H1 G)) λb J ⟨x,y,g⟩=> ?_);cases b with
 | true=>
   obtain⟨N,hN,g⟩:=g;rw[AAE rfl];refine ABn hp (BY (hb j J d x _ y g) λf K i=> ?_);cases f with
   | next=> obtain⟨a,e,k,l⟩:=i;obtain⟨m,o,p⟩:=hN a e l;exact⟨m,o,a,e,k,p⟩
   | cont=> obtain⟨a,e,k,l⟩:=i;obtain⟨m,o,p⟩:=hN a e l;exact⟨m,o,a,e,k,p⟩
   | brk=>exact i
   | ret v=>exact i
 | false=> rw[AAD AAS];exact ACm ⟨d,x,y,g⟩
end
structure It where
 go:Nat->Hp->Prop
 yld:Nat->Hp->V->Hp->Prop
 stop:Nat->Hp->Prop
def Fd (X:Cx)(a:zy (zu×Obj))(H:Hp)(b:zu):Prop:=
 H b=none/\b≠X.env.locals/\b ∉ X.fs/\(b∈X.ex\/X.s₀.heap.objs.size<=b)/\(∀x c,X.env.cells.lookup x=some c->c≠b)/\∀p∈X.pn++a,p.1≠b
def Inv.fpOk {X:Cx}{a:zy (zu×Obj)}{f:St}{H d:Hp}{s:zw}{b:zu}(I:Inv X a f H s)(hb:s.heap.objs.size<=b)(g:d b=none):Fd X a d b:=by
 refine⟨g,AAj (AAP I.lt hb),I.nofs hb, .inr (AAY I.sz hb),λx c e z=> ?_,λp hp z=> ?_⟩
 .obtain ⟨v,q⟩:=I.cell x c e;exact absurd (AAP q.lt (by rw[z];exact hb)) (ABT _)
 .exact absurd (AAP (AAF (I.pin p hp).1) (by rw[z];exact hb)) (ABT _)
structure Jf (P:Program) (w:World) (K:AAB) (tg:Expr) (J:It) (fp:List Addr) (it:Addr) (tn:Nat->Heap->Prop):Prop where
 mem:it∈fp
 obj:∀i h,tn i h->∀b∈fp,∃o,h.get? b=some o/\∀v,o.data≠ .cell v
 keep:∀i h h',tn i h->(∀b∈fp,∀o,h.get? b=some o->h'.get? b=some o)->tn i h'
 item:∀(X:Cx),X.prog=P->X.w=w->X.K=K->X.calm=true->∀(i:Nat) (zj:List (Addr×Obj)) (s:Shared) (σ:St) (H:Hp) (E:Value->Shared->Prop),Inv X zj σ H s->(∀b∈fp,Fd X zj H b)->tn i s.heap->J.go i H->
  wpAny (model P w) X.A (pyNext (.ref it)) (λr s1=>∃u,r=some u/\
   wpAny (model P w) X.A (letOwnedTupleGo tg (.ref it) u) (λ_ s2=>∃x H',Inv X zj σ H' s2/\RelV x u/\J.yld i H x H'/\tn (i+1) s2.heap/\∀b∈fp,H' b=none) E s1) E s
 done:∀(X:Cx),X.prog=P->X.w=w->X.K=K->X.calm=true->∀(i:Nat) (zj:List (Addr×Obj)) (s:Shared) (σ:St) (H:Hp) (E:Value->Shared->Prop),Inv X zj σ H s->(∀b∈fp,Fd X zj H b)->tn i s.heap->J.stop i H->
  wpAny (model P w) X.A (pyNext (.ref it)) (λr s1=>r=none/\Inv X zj σ H s1) E s
 self:∀(A:Around) (i:Nat) (s:Shared) (Q:Value->Shared->Prop) (E:Value->Shared->Prop),tn i s.heap->Q (.ref it) s->wpAny (model P w) A (pyIter (.ref it)) Q E s
abbrev TI:=St->Hp->(It->Hp->Prop)->Prop
def sj (X:Cx)(d:zy (zu×Obj))(g:St)(h:zr)(R:It->Hp->Prop)(a:zx)(e:zw):Prop:=
 ∃(it:zu) (f:zy zu) (tn:Nat->zl->Prop) (J:It) (c:Hp),a= .ref it/\Inv X d g c e/\Jf X.prog X.w X.K h J f it tn/\tn 0 e.heap/\(∀b∈f,Fd X d c b)/\R J c
def PI (X:Cx)(c iter:zr)(d:TI):Prop:=
 ∀(b:zy (zu×Obj)) (s:zw) (a:St) (H:Hp) (R:It->Hp->Prop),Inv X b a H s->d a H R->
  wpAny (model X.prog X.w) X.A (eval iter X.env) (λv e=>wpAny (model X.prog X.w) X.A (pyIter v) (sj X b a c R) X.xe e) X.xe s
def WD {M:Model}{A:zk}{E:zx->zw->Prop}{s:zw}{a:zr}{it:zu}{u:zx}{o:Obj}{n:String}{vs:Array zx}{Q:Unit->zw->Prop}(b:s.heap.get? it=some o)(hc:o.cls= .type n)(hd:o.data= .fields vs)(c: ["enumerate","zip","dict_itemiterator","dict_reverseitemiterator","odict_iterator","itertools.zip_longest","itertools.pairwise"].contains n=false)(hQ:Q () s):wpAny M A (letOwnedTupleGo a (.ref it) u) Q E s:=by
 unfold letOwnedTupleGo;cases a <;> first
  | exact AAC hQ
  | (cases u <;> first
      | exact AAC hQ
      | (refine AAA (wpAny_load b ?_)
         rw[hc,hd];show wpAny M A (if (["enumerate","zip","dict_itemiterator","dict_reverseitemiterator","odict_iterator","itertools.zip_longest","itertools.pairwise"].contains n&&vs[0]?==some (rawInt _))=true then _ else _) Q E s;rw[AAD (by intro h;rw[c,Bool.false_and] at h;cases h)];exact AAC hQ))
def pO (K:AAB)(a:zu):It:=
 ⟨λi H=>∃xs x,Fe K H a xs/\xs[i]? =some x,λi H x b=>b=H/\∀xs,Fe K H a xs->xs[i]? =some x,λi H=>∃xs,Fe K H a xs/\xs.length<=i⟩
def pP (K:AAB)(a:zu):It:=
 ⟨λi H=>∃xs x,Nh K H a xs/\xs[i]? =some x,λi H x b=>b=H/\∀xs,Nh K H a xs->xs[i]? =some x,λi H=>∃xs,Nh K H a xs/\xs.length<=i⟩
def kg (lo:Int)(n:Nat):It:=⟨λi _=>i<n,λi H x a=>a=H/\x= .int (lo+i),λi _=>n<=i⟩
def YS {P:zp}{w:zm}{K:AAB}{D:zr}(a it:zu):Jf P w K D (pO K a) [it] it (λi h=>h.IsListIter it a i) where
 mem:=by simp
 obj:=λi h st b hb=>by
  have e:b=it:=by simpa using hb
  subst e;obtain⟨o,e,c,d⟩:=st;exact⟨o,e,λv z=>by rw[d] at z;cases z⟩
 keep:=λi h h' st k=>st.at λo e=>k it (by simp) o e
 item:=by intro X l hw m hc i B s C H E I g st n;subst l hw m;obtain⟨xs,x,j,hx⟩:=n;obtain⟨r,rv,p,F⟩:=I.list j;obtain⟨u,hu,G⟩:=rv.get hx;obtain⟨f0,f1,J,t,y,A⟩:=g it (by simp);refine wpAny_pyNext_list_item st p.isList (x:=u) (by simpa using hu) λh' f sb=> ?_;have L:Inv X B C H {s with heap:=h'}:=I.turned (t':=s.toks) (λb o hb e=>(sb.2 b hb).trans e) f0 f1 t y A;obtain⟨o,e,c,d⟩:=id f;exact⟨u,rfl,WD (s:={s with heap:=h'}) e c d (by decide) ⟨x,H,L,G,⟨rfl,λO M=>by rw[I.list_inj M j];exact hx⟩,f,λb hb=>(g b hb).1⟩⟩
 done:=by intro X l hw m hc i B s C H E I g st n;subst l hw m;obtain⟨xs,j,hx⟩:=n;obtain⟨r,rv,p,F⟩:=I.list j;obtain⟨f0,f1,J,t,y,A⟩:=g it (by simp);have hl:=rv.length;exact wpAny_pyNext_list_end (I.ok.hd hc) st p.isList (by simp;omega) λh' N=>⟨rfl,I.turned (t':=s.toks) (λb o hb e=>N b o hb e) f0 f1 t y A⟩
 self:=λ_ _ _ _ _ st h=>wpAny_pyIter_listiter st h
def Vh {P:zp}{w:zm}{K:AAB}{D:zr}(a it:zu):Jf P w K D (pP K a) [it] it (λi h=>h.IsTupleIter it a i) where
 mem:=by simp
 obj:=λi h st b hb=>by
  have e:b=it:=by simpa using hb
  subst e;obtain⟨o,e,c,d⟩:=st;exact⟨o,e,λv z=>by rw[d] at z;cases z⟩
 keep:=λi h h' st k=>st.at λo e=>k it (by simp) o e
 item:=by intro X m hw n hc i B s C H E I j st r;subst m hw n;obtain⟨xs,x,l,hx⟩:=r;obtain⟨f,rv,p,F⟩:=I.tuple l;obtain⟨u,hu,G⟩:=rv.get hx;obtain⟨f0,f1,J,t,y,A⟩:=j it (by simp);refine wpAny_pyNext_tuple_item st (show s.heap.IsTuple a f.toArray from p) (x:=u) (by simpa using hu) λh' g sb=> ?_;have L:Inv X B C H {s with heap:=h'}:=I.turned (t':=s.toks) (λb o hb e=>(sb.2 b hb).trans e) f0 f1 t y A;obtain⟨o,e,c,d⟩:=id g;exact⟨u,rfl,WD (s:={s with heap:=h'}) e c d (by decide) ⟨x,H,L,G,⟨rfl,λO M=>by rw[I.tuple_inj M l];exact hx⟩,g,λb hb=>(j b hb).1⟩⟩
 done:=by intro X m hw n hc i B s C H E I j st r;subst m hw n;obtain⟨xs,l,hx⟩:=r;obtain⟨f,rv,p,F⟩:=I.tuple l;obtain⟨f0,f1,J,t,y,A⟩:=j it (by simp);have hl:=rv.length;exact wpAny_pyNext_tuple_end (I.ok.hd hc) st (show s.heap.IsTuple a f.toArray from p) (by simp;omega) λh' N=>⟨rfl,I.turned (t':=s.toks) (λb o hb e=>N b o hb e) f0 f1 t y A⟩
 self:=λ_ _ _ _ _ st h=>wpAny_pyIter_tupleiter st h
def Vg {P:zp}{w:zm}{K:AAB}{x:zr}(it:zu)(lo:Int)(n:Nat):Jf P w K x (kg lo n) [it] it (λi h=>IsRangeIter h it (lo+(i:Nat)*1) ((n:Int)-(i:Nat)) 1) where
 mem:=by simp
 obj:=λi h st b hb=>by
  have e:b=it:=by simpa using hb
  subst e;exact⟨_,st,λv z=>by
   have y:Data.fields _=Data.cell v:=z;cases y⟩
 keep:=λi h h' st k=>k it (by simp) _ st
 item:=by intro X d hw f hc i p s r H E I c st g;subst d hw f;obtain⟨f0,f1,A,j,l,m⟩:=c it (by simp);have W:=Walks.range (prog:=X.prog) (w:=X.w) (I.ok.hd hc) it lo 1 n;refine W.item i s _ _ g st λv h' u hv a B=> ?_;obtain⟨t,rfl⟩:=hv;have C:Inv X p r H {s with heap:=h',toks:=u}:=I.turned (λb o hb e=>B b o (by simpa using hb) e) f0 f1 j l m;refine⟨_,rfl,WD (s:={s with heap:=h',toks:=u}) (n:="range_iterator") a rfl rfl (by decide) ⟨.int (lo+i),H,C,⟨t, ?_⟩,⟨rfl,rfl⟩,a,λb hb=>(c b hb).1⟩⟩;rw[ABo]
 done:=by intro X d hw f hc i p s r H E I c st g;subst d hw f;obtain⟨f0,f1,A,j,l,m⟩:=c it (by simp);exact wpAny_pyNext_range_end (I.ok.hd hc) st (by have:n<=i:=g;omega) λh' D=>⟨rfl,I.turned (t':=s.toks) (λb o hb e=>D b o hb e) f0 f1 j l m⟩
 self:=λ_ _ _ _ _ st h=>wpAny_pyIter_rangeiter st h
section
variable {X:Cx}{tg:zr}
def S7 {a:zy (zu×Obj)}{c:St}{H:Hp}{s:zw}{R:It->Hp->Prop}{E:zx->zw->Prop}{lo hi:Int}{t u v:Tok}{d:Nat}(I:Inv X a c H s)(h1: -(2^62)<=lo)(h2:lo<2^62)(h3: -(2^62)<=hi)(g:hi<2^62)(q:R (kg lo (hi-lo).toNat) H):wpAny (model X.prog X.w) X.A (pyIter (.ref s.heap.objs.size)) (sj X a c tg R) E {s with heap:=s.heap.push {cls:= .type "range",data:= .fields #[.int lo t, .int hi u, .int 1 v] },toks:=d}:=by
 refine wpAny_pyIter_range (IsRange.new ..) (small_one h1 h2 h3 g) ?_;have f:Inv X a c H {s with heap:=s.heap.push {cls:= .type "range",data:= .fields #[.int lo t, .int hi u, .int 1 v] },toks:=d}:=I.kept λb o e=>AAH _ e;refine⟨(s.heap.push {cls:= .type "range",data:= .fields #[.int lo t, .int hi u, .int 1 v] }).objs.size, [(s.heap.push {cls:= .type "range",data:= .fields #[.int lo t, .int hi u, .int 1 v] }).objs.size],_,_,H,rfl,
  f.kept (t':=d) λb o e=>AAH _ e,Vg _ lo (hi-lo).toNat, ?_,λb hb=> ?_,q⟩
 .have h:lo+((0:Nat):Int)*1=lo:=by simp
  have i:(((hi-lo).toNat:Nat):Int)-((0:Nat):Int)=Builtin.Range.rangeSize lo hi 1:=by rw[rangeSize_one];split <;> omega
  show IsRangeIter _ _ (lo+((0:Nat):Int)*1) ((((hi-lo).toNat:Nat):Int)-((0:Nat):Int)) 1;rw[h,i];exact AAO _ rfl
 .have e:b=(s.heap.push {cls:= .type "range",data:= .fields #[.int lo t, .int hi u, .int 1 v] }).objs.size:=by simpa using hb
  subst e;exact f.fpOk (AAJ _) (f.hok.fresh (AAJ _))
def lc (a:TA):TI:=λb H R=>a b H λvs H1=>∃j:Int,vs= [.int j] /\ -(2^62)<=j/\j<2^62/\R (kg 0 j.toNat) H1
def lf (a:TA):TI:=λb H R=>a b H λvs H1=>∃i j:Int,vs= [.int i, .int j] /\(-(2^62)<=i/\i<2^62/\ -(2^62)<=j/\j<2^62)/\R (kg i (j-i).toNat) H1
def YB {a:zr}{c:TA}{p pos:Pos}(d:Gl X "range")(f:X.mg "range" =none)(ha:PA X [a] c)(hs:starEach [a] X.env= [(false,eval a X.env)] :=by rfl):PI X tg (.Call (.Name "range" p) [a] [] pos) (lc c):=by
 intro g s i H R I h;refine Call_ (Hi I d f boot_range (ACB (BY (ha pos g s i H _ I h) λo u ⟨vs,H1,k,l,b⟩=> ?_) hs rfl));obtain⟨j,e,b,m,q⟩:=b;subst e;cases l with
 | cons r n=> cases n;obtain⟨t,rfl⟩:=r;exact call_range_1 (S7 k (by omega) (by omega) b m (by simpa using q))
def YC {a b:zr}{f:TA}{p pos:Pos}(k:Gl X "range")(l:X.mg "range" =none)(ha:PA X [a,b] f)(hs:starEach [a,b] X.env= [(false,eval a X.env),(false,eval b X.env)] :=by rfl)(g:starEach [b] X.env= [(false,eval b X.env)] :=by rfl):PI X tg (.Call (.Name "range" p) [a,b] [] pos) (lf f):=by
 intro m s n H R I h;refine Call_ (Hi I k l boot_range (ACB (BY (ha pos m s n H _ I h) λz A ⟨vs,H1,o,u,c⟩=> ?_) (by rw[hs,g]) (by rw[g];rfl)));obtain⟨i,j,e,⟨c,v,w,x⟩,q⟩:=c;subst e;cases u with
 | cons r d=>
   cases d with
   | cons y d=> cases d;obtain⟨t,rfl⟩:=r;obtain⟨t',rfl⟩:=y;exact call_range_2 (S7 o c v w x q)
def nW (e:TI)(g:TG)(f:TS):TS:=λD a H=>e a H λJ H1=>∃W:Nat->Nat->St->Hp->Prop,(∃m,W 0 m a H1)/\∀i m a H,W i m a H->
 (J.stop i H/\D.nx a H)\/(J.go i H/\∃N:St->Hp->Prop,(∀σ' b,N σ' b->∃d,d<m/\W (i+1) d σ' b)/\∀x b,J.yld i H x b->g x a b λc h=>f {D with nx:=N,ct:=N,bk:=D.nx} c h)
def Jw (a:zy zu)(h:zl):zy (zu×Obj):=a.filterMap λb=>(h.get? b).map λo=>(b,o)
def Dj {a:zy zu}{h:zl}{b:zu}{o:Obj}(hb:b∈a)(e:h.get? b=some o):(b,o)∈Jw a h:=List.mem_filterMap.mpr ⟨b,hb,by rw[e];rfl⟩
def X4 {a:zy zu}{h:zl}{p:zu×Obj}(hp:p∈Jw a h):p.1∈a/\h.get? p.1=some p.2:=by
 obtain⟨b,hb,e⟩:=List.mem_filterMap.mp hp;cases q:h.get? b with
 | none=>rw[q] at e;cases e
 | some o=> rw[q] at e;have e':(b,o)=p:=AAb e;subst e';exact⟨hb,q⟩
def Inv.pinned {a:zy (zu×Obj)}{f:St}{H:Hp}{s:zw}{c:zy zu}(I:Inv X a f H s)(g:∀b∈c,Fd X a H b)(h:∀b∈c,∃o,s.heap.get? b=some o/\∀v,o.data≠ .cell v):Inv X (a++Jw c s.heap) f H s:=
 I.pins_of λp hp=>(AAR.mp hp).elim (λz=>I.pin p (AAk _ z)) λz=>by obtain⟨hb,e⟩:=X4 z;obtain⟨f0,f1,i,_⟩:=g p.1 hb;obtain⟨o,e',d⟩:=h p.1 hb;rw[e] at e';cases e';exact⟨e,f0,f1,i,d⟩
def Inv.unpinned {a c:zy (zu×Obj)}{b:St}{H:Hp}{s:zw}(I:Inv X (a++c) b H s):Inv X a b H s:=I.pins_of λp hp=>I.pin p (AAk _ (List.mem_append_left _ hp))
def aU {iter:zr}{body:zy Stmt}{R:TI}{g:TG}{S:TS}{pos:Pos}(hp:PassesOwn (model X.prog X.w) X.A X.env X.xe)(hc:X.calm=true)(hi:PI X tg iter R)(hg:PG X tg g)(hb:Rr X body S)(hs:∀x,foldedSetIterable iter X.env x=pure x:=by intro _;rfl):PS X (.For tg iter body [] pos) (nW R g S):=by
 intro y s U H D I h;refine wpAny_For (BY (hi y s U H _ I h) λv s1 h1=>BY h1 λitv s2 h2=> ?_) hs;obtain⟨it,B,tn,J,H2,e,I2,T,K,Y,W,⟨m0,w0⟩,turn⟩:=h2;subst e;have c:∀{p:Hp},(∀b∈B,p b=none)->∀b∈B,Fd X y p b:=λhn b hb=>⟨hn b hb,(Y b hb).2⟩;refine codeAny_forLoop_any (λn Z=>∃i σ' p,Inv X y σ' p Z/\tn i Z.heap/\(∀b∈B,p b=none)/\W i n σ' p) ?_ m0 ⟨0,U,H2,I2,K,λb hb=>(Y b hb).1,w0⟩;rintro n s3 ⟨i,j,G,I3,C,E,w3⟩;rcases turn i n j G w3 with⟨stop,qn⟩|⟨go,N,hN,step⟩
 .refine ABn hp (BY (T.done X rfl rfl rfl hc i y s3 j G X.xe I3 (c E) C stop) λr s4 ⟨L,I4⟩=> ?_);subst L;exact ACm ⟨j,G,I4,qn⟩
 .refine ABn hp (BY (T.item X rfl rfl rfl hc i y s3 j G X.xe I3 (c E) C go) λr s4 ⟨u,L,h4⟩=> ?_);subst L;refine ABn hp (BY h4 λ_ s5 ⟨x,H5,I5,r5,y5,z,M⟩=> ?_);have O:=I5.pinned (c M) (T.obj _ _ z);refine ABn hp (BY (hg _ s5 j H5 x u _ O r5 (step x H5 y5)) λ_ s6 ⟨P,H6,I6,q6⟩=> ?_);refine ABn hp (BY (hb _ s6 P H6 _ I6 q6) λf Q t=> ?_);have again:∀{a:St} {k:Hp},Inv X (y++Jw B s5.heap) a k Q->N a k->∃m,m<n/\∃i σ' p,Inv X y σ' p Q/\tn i Q.heap/\(∀b∈B,p b=none)/\W i m σ' p:=λ{a k} l F=>by obtain⟨m',hm,w7⟩:=hN a k F;refine⟨m',hm,i+1,a,k,l.unpinned,T.keep _ _ _ z λb hb o e=>(l.pin (b,o) (AAk _ (AAk _ (Dj hb e)))).1,λb hb=> ?_,w7⟩;obtain⟨o,e,d⟩:=T.obj _ _ z b hb;exact(l.pin (b,o) (AAk _ (AAk _ (Dj hb e)))).2.1
  cases f with
  | next=>obtain⟨a,k,l,F⟩:=t;exact again l F
  | cont=>obtain⟨a,k,l,F⟩:=t;exact again l F
  | brk=>obtain⟨a,k,l,t⟩:=t;exact⟨a,k,l.unpinned,t⟩
  | ret v=>obtain⟨x7,a,k,l,r7,t⟩:=t;exact⟨x7,a,k,l.unpinned,r7,t⟩
end
abbrev R2:=V->V->Hp->VK->Prop
def EC (X:Cx)(f:zx->zx->Sem zx)(r:R2):Prop:=
 ∀(a:zy (zu×Obj)) (s:zw) (b:St) (H:Hp) (x y:V) (v u:zx) (Q:VK),Inv X a b H s->RelV x v->RelV y u->r x y H Q->
  wpAny (model X.prog X.w) X.A (f v u) (EP X a b Q) X.xe s
def pX (X:Cx)(f:zx->Sem zx)(r:V->Hp->VK->Prop):Prop:=
 ∀(a:zy (zu×Obj)) (s:zw) (b:St) (H:Hp) (x:V) (v:zx) (Q:VK),Inv X a b H s->RelV x v->r x H Q->
  wpAny (model X.prog X.w) X.A (f v) (EP X a b Q) X.xe s
def DA (X:Cx)(f:zx)(r:zy V->Hp->VK->Prop):Prop:=
 ∀(a:zy (zu×Obj)) (s:zw) (b:St) (H:Hp) (xs:zy V) (c:zy zx) (Q:VK),Inv X a b H s->Ay xs c->r xs H Q->
  wpAny (model X.prog X.w) X.A (call f c) (EP X a b Q) X.xe s
def eh (r:R2)(b c:TE):TE:=λa H Q=>b a H λx H1=>c a H1 λy d=>r x y d Q
def xN (r:V->Hp->VK->Prop)(a:TE):TE:=λb H Q=>a b H λx H1=>r x H1 Q
def rI (C:Int->Int->Prop)(g:Int->Int->V):R2:=λx y H Q=>∃i j,x= .int i/\y= .int j/\C i j/\Q (g i j) H
def Qy (g:Int->Int->V):R2:=λx y H Q=>∃i j,x= .int i/\y= .int j/\Q (g i j) H
def rU (g:Int->V):V->Hp->VK->Prop:=λx H Q=>∃i,x= .int i/\Q (g i) H
section
variable {X:Cx}{a b c:zr}{ta tb tc:TE}{pos:Pos}
def gU (ha:PE X a ta)(hb:PE X b tb){j:zy (zu×Obj)}{s:zw}{d:St}{H:Hp}{R:V->V->Hp->Prop}(I:Inv X j d H s)(h:ta d H λx H1=>tb d H1 λy e=>R x y e){Q:zx->zw->Prop}{f:zx->zx->Sem zx}(l:∀v u k x y e,Inv X j d e k->RelV x v->RelV y u->R x y e->wpAny (model X.prog X.w) X.A (f v u) Q X.xe k):wpAny (model X.prog X.w) X.A (eval a X.env) (λv g=>wpAny (model X.prog X.w) X.A (eval b X.env) (λu i=>wpAny (model X.prog X.w) X.A (f v u) Q X.xe i) X.xe g) X.xe s:=by refine BY (ha j s d H _ I h) λv m ⟨x,H1,n,o,p⟩=> ?_;refine BY (hb j m d H1 _ n p) λu k ⟨y,e,r,t,z⟩=> ?_;exact l v u k x y e r o t z
def B2 {op:Operator}{r:R2}(d:EC X (binaryOp op) r)(ha:PE X a ta)(hb:PE X b tb):PE X (.BinOp a op b pos) (eh r ta tb):=by intro e s f H Q I h;exact wpAny_BinOp (gU ha hb I h λv u g x y i j k l q=>d e g f i x y v u Q j k l q)
def mS {op:UnaryOp}{r:V->Hp->VK->Prop}(f:pX X (unaryOp op) r)(ha:PE X a ta):PE X (.UnaryOp op a pos) (xN r ta):=by intro d s e H Q I h;exact UnaryOp_ (BY (ha d s e H _ I h) λv g ⟨x,H1,i,j,k⟩=>f d g e H1 x v Q i j k)
def iX {f:zx->zx->Sem zx}{C:Int->Int->Prop}{g:Int->Int->Int}(rule:∀(i j:Int) (t u:Tok) (s:zw) (Q:zx->zw->Prop) (E:zx->zw->Prop),C i j->Q (.int (g i j) s.toks) {s with toks:=s.toks+1}->wpAny (model X.prog X.w) X.A (f (.int i t) (.int j u)) Q E s):EC X f (rI C λi j=> .int (g i j)):=by intro k s l H x y v u Q I d e h;obtain⟨i,j,rfl,rfl,hc,q⟩:=h;obtain⟨t,rfl⟩:=d;obtain⟨t',rfl⟩:=e;exact rule i j t t' s _ _ hc ⟨.int (g i j),H,I.tok _,⟨_,rfl⟩,q⟩
def mI {f:zx->zx->Sem zx}{g:Int->Int->Int}(rule:∀(i j:Int) (t u:Tok) (s:zw) (Q:zx->zw->Prop) (E:zx->zw->Prop),Q (.int (g i j) s.toks) {s with toks:=s.toks+1}->wpAny (model X.prog X.w) X.A (f (.int i t) (.int j u)) Q E s):EC X f (Qy λi j=> .int (g i j)):=by intro k s l H x y v u Q I d e h;obtain⟨i,j,rfl,rfl,q⟩:=h;obtain⟨t,rfl⟩:=d;obtain⟨t',rfl⟩:=e;exact rule i j t t' s _ _ ⟨.int (g i j),H,I.tok _,⟨_,rfl⟩,q⟩
def dI {f:zx->zx->Sem zx}{g:Int->Int->zq}(rule:∀(i j:Int) (t u:Tok) (s:zw) (Q:zx->zw->Prop) (E:zx->zw->Prop),Q (.bool (g i j)) s->wpAny (model X.prog X.w) X.A (f (.int i t) (.int j u)) Q E s):EC X f (Qy λi j=> .bl (g i j)):=by intro k s l H x y v u Q I d e h;obtain⟨i,j,rfl,rfl,q⟩:=h;obtain⟨t,rfl⟩:=d;obtain⟨t',rfl⟩:=e;exact rule i j t t' s _ _ ⟨.bl (g i j),H,I,rfl,q⟩
def cJ (i j:Int):Prop:=0<=j/\j<=1000000/\i.natAbs<2^64
def GE (i j:Int):Prop:=(-(2^64)<i/\i<2^64)\/(-(2^64)<j/\j<2^64)
def GE.ok {i j:Int}(h:GE i j):IntMulOk i j:=by
 rcases h with⟨h1,h2⟩|⟨h1,h2⟩
 .exact .of_left (intBits_le_64 h1 h2)
 .exact .of_right (intBits_le_64 h1 h2)
def Hl:EC X (binaryOp .Add) (Qy λi j=> .int (i+j)):=mI λ_ _ _ _ _ _ _ q=>add_int q
def ie:EC X (binaryOp .Sub) (Qy λi j=> .int (i-j)):=mI λ_ _ _ _ _ _ _ q=>sub_int q
def Fk:EC X (binaryOp .Mod) (rI (λ_ j=>0<j) λi j=> .int (i % j)):=iX λi j _ _ _ _ _ hc q=>by have h1:(0:Int)<j:=hc;exact mod_int' (by omega) (by rw[ADT i (by omega)];exact q)
def dL:EC X (binaryOp .Mod) (rI (λ_ j=>j≠0) λi j=> .int (i.fmod j)):=iX λ_ _ _ _ _ _ _ hc q=>mod_int' hc q
def aE:EC X (binaryOp .Pow) (rI cJ λi j=> .int (i^j.toNat)):=iX λ_ _ _ _ _ _ _ hc q=>pow_int_small hc.1 hc.2.1 hc.2.2 q
def xO {f:zx->Sem zx}{g:Int->Int}(rule:∀(i:Int) (t:Tok) (s:zw) (Q:zx->zw->Prop) (E:zx->zw->Prop),Q (.int (g i) s.toks) {s with toks:=s.toks+1}->wpAny (model X.prog X.w) X.A (f (.int i t)) Q E s):pX X f (rU λi=> .int (g i)):=by intro e s j H x v Q I d h;obtain⟨i,rfl,q⟩:=h;obtain⟨t,rfl⟩:=d;exact rule i t s _ _ ⟨.int (g i),H,I.tok _,⟨_,rfl⟩,q⟩
def jp:pX X (unaryOp .USub) (rU λi=> .int (-i)):=xO λ_ _ _ _ _ q=>neg_int q
end
def jO:V->V->zq
 | .non, .non=>true | .non, .int _=>true | .int _, .non=>true | .non, .bl _=>true | .bl _, .non=>true | .non, .str _=>true | .str _, .non=>true
 | .int _, .int _=>true | .bl _, .bl _=>true | .str _, .str _=>true | .byt _, .byt _=>true
 | .int _, .str _=>true | .str _, .int _=>true | .bl _, .str _=>true | .str _, .bl _=>true
 | _,_=>false
def uA:R2:=λx y H Q=>jO x y=true/\Q (.bl (decide (x=y))) H
def uB:R2:=λx y H Q=>jO x y=true/\Q (.bl (!decide (x=y))) H
def V4 {i j:Int}:decide (V.int i=V.int j)=(i==j):=by rw[ACC];simp
def ZG {i j:zq}:decide (V.bl i=V.bl j)=(i==j):=by rw[ACC];simp
def V5 {i j:Str}:decide (V.str i=V.str j)=(i==j):=by rw[ACC];simp
def V3 {i j:Array UInt8}:decide (V.byt i=V.byt j)=(i.toList==j.toList):=by rw[ACC];cases i;cases j;simp
section
variable {X:Cx}{a b c:zr}{ta tb tc:TE}{pos:Pos}
def BD {d:zy (zu×Obj)}{f:St}{H:Hp}{s:zw}{Q:VK}{k g:zq}(I:Inv X d f H s)(q:Q (.bl k) H)(e:k=g):EP X d f Q (.bool g) s:=by subst e;exact⟨.bl k,H,I,rfl,q⟩
def mJ:EC X (compareOp .Eq) uA:=by
 intro f s g H x y v u Q I e d h;obtain⟨hs,q⟩:=h;cases x with
 | non=>
   cases e;cases y with
   | non=>cases d;exact PySem.EqNone.eq_none_none (BD I q (by simp))
   | bl j=>cases d;exact PySem.EqNone.eq_none_bool (BD I q (by simp))
   | int j=>obtain⟨t',rfl⟩:=d;exact PySem.EqNone.eq_none_int (BD I q (by simp))
   | str j=>obtain⟨t',rfl⟩:=d;exact PySem.EqNone.eq_none_str (BD I q (by simp))
   | _=>exact absurd (show false=true from hs) AAS
 | bl i=>
   cases e;cases y with
   | non=>cases d;exact PySem.EqNone.eq_bool_none (BD I q (by simp))
   | bl j=>cases d;exact eq_bool (BD I q ZG)
   | str j=>obtain⟨t',rfl⟩:=d;exact PySem.EqMixed.eq_bool_str (BD I q (by simp))
   | _=>exact absurd (show false=true from hs) AAS
 | int i=>
   obtain⟨t,rfl⟩:=e;cases y with
   | non=>cases d;exact PySem.EqNone.eq_int_none (BD I q (by simp))
   | int j=>obtain⟨t',rfl⟩:=d;exact eq_int (BD I q V4)
   | str j=>obtain⟨t',rfl⟩:=d;exact PySem.EqMixed.eq_int_str (BD I q (by simp))
   | _=>exact absurd (show false=true from hs) AAS
 | str i=>
   obtain⟨t,rfl⟩:=e;cases y with
   | non=>cases d;exact PySem.EqNone.eq_str_none (BD I q (by simp))
   | bl j=>cases d;exact PySem.EqMixed.eq_str_bool (BD I q (by simp))
   | int j=>obtain⟨t',rfl⟩:=d;exact PySem.EqMixed.eq_str_int (BD I q (by simp))
   | str j=>obtain⟨t',rfl⟩:=d;exact eq_str (BD I q V5)
   | _=>exact absurd (show false=true from hs) AAS
 | byt i=>
   obtain⟨t,rfl⟩:=e;cases y with
   | byt j=>obtain⟨t',rfl⟩:=d;exact PySem.W.eq_bytes (BD I q V3)
   | _=>exact absurd (show false=true from hs) AAS
 | _=>cases y <;> exact absurd (show false=true from hs) AAS
def mN:EC X (compareOp .NotEq) uB:=by
 intro f s g H x y v u Q I e d h;obtain⟨hs,q⟩:=h;cases x with
 | non=>
   cases e;cases y with
   | non=>cases d;exact PySem.EqNone.ne_none_none (BD I q (by simp))
   | bl j=>cases d;exact PySem.EqNone.ne_none_bool (BD I q (by simp))
   | int j=>obtain⟨t',rfl⟩:=d;exact PySem.EqNone.ne_none_int (BD I q (by simp))
   | str j=>obtain⟨t',rfl⟩:=d;exact PySem.EqNone.ne_none_str (BD I q (by simp))
   | _=>exact absurd (show false=true from hs) AAS
 | bl i=>
   cases e;cases y with
   | non=>cases d;exact PySem.EqNone.ne_bool_none (BD I q (by simp))
   | bl j=>cases d;exact ne_bool (BD I q (congrArg not ZG))
   | str j=>obtain⟨t',rfl⟩:=d;exact PySem.EqMixed.ne_bool_str (BD I q (by simp))
   | _=>exact absurd (show false=true from hs) AAS
 | int i=>
   obtain⟨t,rfl⟩:=e;cases y with
   | non=>cases d;exact PySem.EqNone.ne_int_none (BD I q (by simp))
   | int j=>obtain⟨t',rfl⟩:=d;exact ne_int (BD I q (congrArg not V4))
   | str j=>obtain⟨t',rfl⟩:=d;exact PySem.EqMixed.ne_int_str (BD I q (by simp))
   | _=>exact absurd (show false=true from hs) AAS
 | str i=>
   obtain⟨t,rfl⟩:=e;cases y with
   | non=>cases d;exact PySem.EqNone.ne_str_none (BD I q (by simp))
   | bl j=>cases d;exact PySem.EqMixed.ne_str_bool (BD I q (by simp))
   | int j=>obtain⟨t',rfl⟩:=d;exact PySem.EqMixed.ne_str_int (BD I q (by simp))
   | str j=>obtain⟨t',rfl⟩:=d;exact ne_str (BD I q (congrArg not V5))
   | _=>exact absurd (show false=true from hs) AAS
 | byt i=>
   obtain⟨t,rfl⟩:=e;cases y with
   | byt j=>obtain⟨t',rfl⟩:=d;exact PySem.W.ne_bytes (BD I q (congrArg not V3))
   | _=>exact absurd (show false=true from hs) AAS
 | _=>cases y <;> exact absurd (show false=true from hs) AAS
def fW:EC X (compareOp .Lt) (Qy λi j=> .bl (decide (i<j))):=dI λ_ _ _ _ _ _ _ q=>lt_int q
def mM:EC X (compareOp .LtE) (Qy λi j=> .bl (decide (i<=j))):=dI λ_ _ _ _ _ _ _ q=>le_int q
def fV:EC X (compareOp .Gt) (Qy λi j=> .bl (decide (j<i))):=dI λ_ _ _ _ _ _ _ q=>gt_int q
def mK:EC X (compareOp .GtE) (Qy λi j=> .bl (decide (j<=i))):=dI λ_ _ _ _ _ _ _ q=>ge_int q
def ia:EC X (compareOp .Is) (λx y H Q=>y= .non/\Q (.bl (decide (x= .non))) H):=by
 intro f s g H x y v u Q I d e h;obtain⟨rfl,q⟩:=h;cases e;refine is_none_gen (BD I q ?_);cases x <;> first
  | (cases d;rfl)
  | (obtain⟨t,rfl⟩:=d;rfl)
def dM:EC X (compareOp .IsNot) (λx y H Q=>y= .non/\Q (.bl (!decide (x= .non))) H):=by
 intro f s g H x y v u Q I d e h;obtain⟨rfl,q⟩:=h;cases e;refine isnot_none_gen (BD I q ?_);cases x <;> first
  | (cases d;rfl)
  | (obtain⟨t,rfl⟩:=d;rfl)
def EC.or {f:zx->zx->Sem zx}{r d:R2}(h:EC X f r)(h':EC X f d):EC X f (λx y H Q=>r x y H Q\/d x y H Q):=by
 intro e s g H x y v u Q I i j q;rcases q with q|q
 .exact h e s g H x y v u Q I i j q
 .exact h' e s g H x y v u Q I i j q
def Dk (b:zr){op:CmpOp}(h:op≠ .In:=by decide)(h2:op≠ .NotIn:=by decide):behindInMarks op b=false:=by
 have d:(op==CmpOp.In)=false:=by cases op <;> first | rfl|exact absurd rfl h
 have e:(op==CmpOp.NotIn)=false:=by cases op <;> first | rfl|exact absurd rfl h2
 cases b <;> simp[behindInMarks,d,e]
def Wc {op:CmpOp}{r:R2}(d:EC X (compareOp op) r)(ha:PE X a ta)(hb:PE X b tb)(e:behindInMarks op b=false):PE X (.Compare a [op] [b] pos) (eh r ta tb):=by intro f s g H Q I h;exact wpAny_Compare1 (gU ha hb I h λv u i x y j k l m q=>d f i g j x y v u Q k l m q) e
def fo (t:TE):TT:=λd H Q=>t d H λx e=>∃k,x= .bl k/\Q k e
def Qw {op:CmpOp}{r:R2}(g:EC X (compareOp op) r)(ha:PE X a ta)(hb:PE X b tb)(i:behindInMarks op b=false):PT X (.Compare a [op] [b] pos) (fo (eh r ta tb)):=by
 intro d s f H Q I h;refine wpAny_isTrue_Compare1 (BY (ha d s f H _ I h) λv j ⟨x,H1,l,m,n⟩=>BY (hb d j f H1 _ l n) λu o ⟨y,p,t,w,A⟩=>
  BY (g d o f p x y v u _ t m w A) λc F ⟨z,B,C,D,k,e,E⟩=> ?_) i
 subst e;cases D;exact AB8 ⟨B,C,E⟩
def Mr:(sizeLine:Nat)<2^63:=by rw[ACT];decide
def vals1 {x:V}{d:zy zx}(r:Ay [x] d):∃u,d= [u] /\RelV x u:=by
 cases r with
 | cons e f=>cases f;exact⟨_,rfl,e⟩
def vals2 {x y:V}{d:zy zx}(r:Ay [x,y] d):∃u e,d= [u,e] /\RelV x u/\RelV y e:=by
 cases r with
 | cons f g=>
   cases g with
   | cons h i=>cases i;exact⟨_,_,rfl,f,h⟩
def MU:DA X (.builtin "abs") (λxs H Q=>∃i,xs= [.int i] /\Q (.int (if i<0 then -i else i)) H):=by intro d s e H xs f Q I r h;obtain⟨i,rfl,q⟩:=h;obtain⟨u,rfl,t,rfl⟩:=vals1 r;exact call_abs_int λu g=>⟨.int (if i<0 then -i else i),H,I.tok _,⟨_,rfl⟩,q⟩
def XQ (hc:X.calm=true):DA X (.builtin "max") (λxs H Q=>∃i j,xs= [.int i, .int j] /\Q (.int (if j>i then j else i)) H):=by
 intro d s e H xs f Q I r h;obtain⟨i,j,rfl,q⟩:=h;obtain⟨u,g,rfl,⟨t,rfl⟩,⟨t',rfl⟩⟩:=vals2 r;refine max_two_ints (I.ok.hd hc) λh' l k=>⟨_,H,I.kept k, ?_,q⟩;by_cases hj:j>i
 .rw [AAE hj,AAE hj];exact⟨_,rfl⟩
 .rw [AAD hj,AAD hj];exact⟨_,rfl⟩
def XR (hc:X.calm=true):DA X (.builtin "min") (λxs H Q=>∃i j,xs= [.int i, .int j] /\Q (.int (if j<i then j else i)) H):=by
 intro d s e H xs f Q I r h;obtain⟨i,j,rfl,q⟩:=h;obtain⟨u,g,rfl,⟨t,rfl⟩,⟨t',rfl⟩⟩:=vals2 r;refine min_two_ints (I.ok.hd hc) λh' l k=>⟨_,H,I.kept k, ?_,q⟩;by_cases hj:j<i
 .rw [AAE hj,AAE hj];exact⟨_,rfl⟩
 .rw [AAD hj,AAD hj];exact⟨_,rfl⟩
def Oo:DA X (.type "int") (λxs H Q=>(∃i,xs= [.int i] /\Q (.int i) H)\/∃k,xs= [.bl k] /\Q (.int (if k then 1 else 0)) H):=by
 intro e s f H xs g Q I r h;rcases h with⟨i,rfl,q⟩|⟨k,rfl,q⟩
 .obtain ⟨u,rfl,t,rfl⟩:=vals1 r;exact call_int_int ⟨.int i,H,I,⟨_,rfl⟩,q⟩
 .obtain ⟨u,rfl,d⟩:=vals1 r;cases d;exact call_int_bool ⟨.int (if k then 1 else 0),H,I.tok _,⟨_,rfl⟩,q⟩
end
structure vw (h:Heap) (x dx C:Addr) (mA:Str->Option Value):Prop where
 obj:h.get? x=some (PySem.W.instObj C dx)
 ns:h.Ns1 dx mA
 ne:dx≠x
def K7.some_of {v:V}{o:zt zx}(r:K7 (some v) o):∃u,o=some u/\RelV v u:=by
 cases o with
 | none=>exact(show False from r).elim
 | some u=>exact⟨u,rfl,r⟩
structure vB (K:AAB) (C:Addr):Prop where
 pg:PySem.W.plainGet K C Str.empty=true
 hd:PySem.W.hasDictIn K C=true
 po:PySem.W.plainOver K C=true
 sa:PySem.W.findIn K (.ref C) "__setattr__" =some (some (.builtin "object.__setattr__"))
structure xn (K:AAB) (C:Addr) (f:Str) (v:V) (u:Value):Prop where
 at_:PySem.W.findIn K (.ref C) f=some (some u)
 rel:RelV v u
 get:PySem.W.specialIn K u "__get__" =some none
 cp:PySem.W.copiedNames.contains f=false
structure vq (K:AAB) (C:Addr) (m:Str) (f:Addr):Prop where
 at_:PySem.W.findIn K (.ref C) m=some (some (.ref f))
 fn:PySem.W.isFn K (.ref f)=true
 kp:PySem.W.keepIn K (.ref f)=true
section
variable {X:Cx}{zj:zy (zu×Obj)}{σ:St}{H:Hp}{s:zw}{a C dx:zu}{fs:zy (Str×V)}{f:Str}{v:V}{A:zk}{E:zx->zw->Prop}
def Inv.made (I:Inv X zj σ H s):Inv X zj σ (upd (upd H s.heap.objs.size (.own (s.heap.objs.size+1))) (s.heap.objs.size+1) (.ins C s.heap.objs.size [])) {s with heap:=(s.heap.push PySem.W.emptyDict).push (PySem.W.instObj C s.heap.objs.size)}:=by
 have c:(s.heap.push PySem.W.emptyDict).get? s.heap.objs.size=some PySem.W.emptyDict:=AAO s.heap rfl;have d:((s.heap.push PySem.W.emptyDict).push (PySem.W.instObj C s.heap.objs.size)).get? (s.heap.objs.size+1)=some (PySem.W.instObj C s.heap.objs.size):=by
  have:=AAO (s.heap.push PySem.W.emptyDict) (o:=PySem.W.instObj C s.heap.objs.size) rfl
  rwa [AAq] at this
 have g:(s.heap.push PySem.W.emptyDict).Ns s.heap.objs.size (λ_=>none):=⟨PySem.W.emptyDict, #[],_,c,rfl,(λe he=>absurd he (by simp)),λ_=>rfl⟩;have h:=I.laid (a:=s.heap.objs.size) (o:= .own (s.heap.objs.size+1)) (h':=s.heap.push PySem.W.emptyDict) (t':=s.toks) (λb u q=>AAH _ q) (AAJ _) ⟨_,c⟩;refine h.laid (a:=s.heap.objs.size+1) (o:= .ins C s.heap.objs.size []) (t':=s.toks) (λb u q=>AAH _ q) (Nat.le_of_eq (AAq _ _)) ?_;have ne:s.heap.objs.size≠s.heap.objs.size+1:=AAK (Nat.lt_succ_self _);refine⟨by rw[Ag ne,Ah],ABF _,ne,d,λ_=>none,(Heap.Ns1.of_empty g).at λo q=>AAH _ q,λ_=>True.intro,λy i=>absurd rfl i⟩
end
section
variable {X:Cx}{zj:zy (zu×Obj)}{σ:St}{H:Hp}{s:zw}{A:zk}{E:zx->zw->Prop}{Q:zx->zw->Prop}{c:zx}{b:zq}
inductive MR (K:AAB) (H:Hp):V->Value->Prop where
 | non:MR K H .non (.type "NoneType")
 | bl (x:Bool):MR K H (.bl x) (.type "bool")
 | int (i:Int):MR K H (.int i) (.type "int")
 | str (x:Str):MR K H (.str x) (.type "str")
 | flt (x:UInt64):MR K H (.flt x) (.type "float")
 | lst {a:Addr} {xs:List V} (e:H a=some (.lst xs)):MR K H (.ref a) (.type "list")
 | frz {a:Addr} {o:Obj} {xs:List V} (e:H a=some (.frz o (.lst xs))):MR K H (.ref a) (.type "list")
 | tup {a:Addr} {xs:List V} (e:H a=some (.tup xs)):MR K H (.ref a) (.type "tuple")
 | dK {a:Addr} {kvs:List (B4×V)} (e:H a=some (.dK kvs)):MR K H (.ref a) (.type "dict")
 | dT {a:Addr} {kvs:List (List B4×V)} (e:H a=some (.dT kvs)):MR K H (.ref a) (.type "dict")
 | ins {a C dx:Addr} {fs:List (Str×V)} (e:H a=some (.ins C dx fs)) (cl:vB K C) (ha:PySem.W.findIn K (.ref C) "__class__" =some (some (.builtin "object.__class__")))
    (hn:PySem.W.specialIn K (.builtin "object.__class__") "__get__" =some (some (.builtin "getset_descriptor.__get__"))) (yB:PySem.W.takesIn K (.builtin "object.__class__")=some true)
    (hm:PySem.W.mroIn K C (.type "object")=some true):MR K H (.ref a) (.ref C)
end
structure Room (k:Nat) (A:Around):Prop where
 hd:A.handled=none
 dp:A.depth+3*k+5<recursionLimit
 un:A.units+16*k+200<cLine
 gd:A.guards=some []
def Room.mono {j k:Nat}{A:zk}(r:Room k A)(h:j<=k):Room j A:=⟨r.hd,by have:=r.dp;omega,by have:=r.un;omega,r.gd⟩
def Room.deeper {k:Nat}{A:zk}(r:Room (k+1) A)(env:Env):Room k (A.deeper env):=
 ⟨r.hd,by have:=r.dp;show A.depth+1+3*k+5<_;omega,by have:=r.un;show A.units+3+16*k+200<_;omega,r.gd⟩
def Room.in1 {k:Nat}{A:zk}(r:Room (k+1) A):Room k A.in1:=
 ⟨r.hd,by have:=r.dp;show A.depth+3*k+5<_;omega,by have:=r.un;show A.units+1+16*k+200<_;omega,r.gd⟩
def Up {A:zk}{C:zu}{a:zy zx}{b:zy (Str×zx)}:(A.under (.builtin "type.__call__" ⟨.ref C::a,b⟩)).depth=A.depth+1:=by first | rfl|simp[Around.under,Code.weight,Code.isCreation,Code.isGuard,Code.isCaller,Code.frames,Code.isFrame,guardIds]
def Uq {A:zk}{C:zu}{a:zy zx}{b:zy (Str×zx)}:(A.under (.builtin "type.__call__" ⟨.ref C::a,b⟩)).units=A.units+1:=by first | rfl|simp[Around.under,Code.cUnits,Code.frames,Code.isFrame]
def Room.make {k:Nat}{A:zk}(r:Room (k+1) A)(C:zu)(a:zy zx)(b:zy (Str×zx)):Room k (A.under (.builtin "type.__call__" ⟨.ref C::a,b⟩)):=
 ⟨r.hd,by have:=r.dp;rw[Up];omega,by have:=r.un;rw[Uq];omega,by first | exact r.gd|simpa[Around.under,pushGuards,Code.guards,Code.isGuard,guardIds] using r.gd⟩
def Room.depth {k:Nat}{A:zk}(r:Room k A):A.depth<recursionLimit:=by have:=r.dp;omega
def Room.units {k:Nat}{A:zk}(r:Room k A):A.units+64<cLine:=by have:=r.un;omega
def rB:TA:=λ_ H Q=>Q [] H
def nU (b:TE)(c:TA):TA:=λa H Q=>b a H λx H1=>c a H1 λxs d=>Q (x::xs) d
section
variable {X:Cx}{e:zr}{es:zy zr}{te:TE}{t:TA}{pos:Pos}
def Fn:PA X [] rB:=λ_ _ _ _ H Q I h=>Calls.spliced_nil ⟨[],H,I, .nil,h⟩
def Du (ha:PE X e te)(c:PA X es t)(hs:starEach (e::es) X.env=(false,eval e X.env)::starEach es X.env:=by rfl):PA X (e::es) (nU te t):=by intro pos a s b H Q I h;rw[hs];show wpAny _ _ (spliced ((false,eval e X.env)::backTo pos (starEach es X.env))) _ _ s;refine ADU (BY (ha a s b H _ I h) λu d ⟨x,H1,f,g,i⟩=> ?_);exact BY (c pos a d b H1 _ f i) λn o ⟨xs,j,k,l,m⟩=>⟨x::xs,j,k, .cons g l,m⟩
def rH (t:TA):TE:=λa H Q=>t a H λxs H1=>xs.length<=sizeLine/\∀p,H1 p=none->Q (.ref p) (upd H1 p (.tup xs))
def rA (t:TA):TE:=λa H Q=>t a H λxs H1=>xs.length<=sizeLine/\∀p,H1 p=none->Q (.ref p) (upd H1 p (.lst xs))
def i5 {x1}(h:PA X es t):PE X (.Tuple es x1 pos) (rH t):=by intro d s f H Q I g;refine wpAny_Tuple_spliced (BY (h pos d s f H _ I g) λi a ⟨xs,H1,c,r,z,q⟩=>⟨by rw[<-r.length];exact z, ?_⟩);have j:H1 a.heap.objs.size=none:=c.hok.fresh (AAJ _);refine⟨.ref a.heap.objs.size,upd H1 a.heap.objs.size (.tup xs),c.laid (t':=a.toks) (λb u e=>AAH _ e) (AAJ _) ?_,rfl,q _ j⟩;exact⟨z,i,r,⟨_,AAO _ rfl,rfl,_,rfl⟩⟩
def aK (h:PA X es t):PE X (.List es pos) (rA t):=by intro d s f H Q I g;refine wpAny_List_spliced (BY (h pos d s f H _ I g) λi a ⟨xs,H1,c,r,z,q⟩=>⟨by rw[<-r.length];exact z, ?_⟩);have j:H1 a.heap.objs.size=none:=c.hok.fresh (AAJ _);refine⟨.ref a.heap.objs.size,upd H1 a.heap.objs.size (.lst xs),c.laid (t':=a.toks) (λb u e=>AAH _ e) (AAJ _) ?_,rfl,q _ j⟩;exact⟨z,i,0,r,AAO _ rfl⟩
end
abbrev Sp:=zy V->Hp->VK->XK->Prop
abbrev XB:=zy Env->Hp->zw->XK->zx->zw->Prop
structure N4 (P:Program) (w:World) (K:AAB) (mg:Str->Option Value) (base:Heap) (A:Around) (outer:List Env) (s:Shared) (H:Hp):Prop where
 frames:A.frames=some outer
 mod:Mod K mg base
 bs:∀b o,base.get? b=some o->s.heap.get? b=some o/\H b=none
 bsz:base.objs.size<=s.heap.objs.size
 funs:s.heap.FunFrames base outer
 frf:∀b∈Yb outer,H b=none
 hok:IX P w H s.heap
 bare:AllBare s.gens
def CE (outer:zy Env)(P:zp)(w:zm)(H:Hp)(s:zw)(Q:VK)(u:zx)(a:zw):Prop:=
 ∃v b,a.os=s.os/\AllBare a.gens/\Un (Yb outer) [] H b s.heap a.heap/\IX P w b a.heap/\RelV v u/\Q v b
def CR (CX:XB)(outer:zy Env)(P:zp)(w:zm)(H:Hp)(s:zw)(Q:VK)(E:XK)(r:Result)(a:zw):Prop:=
 match r with
 | .ok (.ret u)=>CE outer P w H s Q u a
 | .ok _=>False
 | .error e=>CX outer H s E e a
structure Dg (P:Program) (w:World) (K:AAB) (mg:Str->Option Value) (base:Heap) (CX:XB) (k:Nat) (f:Addr) (fd:FuncData) (ps:List Str) (sp:Sp):Prop where
 len:∀vs H Q E,sp vs H Q E->vs.length=ps.length
 run:∀(A:Around) (outer:List Env) (s:Shared) (H:Hp) (args:Args) (us:List Value) (vs:List V) (Q:VK) (E:XK),Room k A->N4 P w K mg base A outer s H->BindsTo s fd args (ps.zip us)->Ay vs us->sp vs H Q E->
  codeAny (model P w) A (.call (.ref f) args) (CR CX outer P w H s Q E) s
def Dg.mono {P:zp}{w:zm}{K:AAB}{mg:Str->zt zx}{base:zl}{CX:XB}{j k:Nat}{f:zu}{a:FuncData}{ps:zy Str}{sp:Sp}(F:Dg P w K mg base CX j f a ps sp)(h:j<=k):Dg P w K mg base CX k f a ps sp:=⟨F.len,λA outer s H args b vs Q E c=>F.run A outer s H args b vs Q E (c.mono h)⟩
def Dg.imp {P:zp}{w:zm}{K:AAB}{mg:Str->zt zx}{base:zl}{CX:XB}{k:Nat}{f:zu}{b:FuncData}{ps:zy Str}{sp a:Sp}(F:Dg P w K mg base CX k f b ps sp)(h:∀vs H Q E,a vs H Q E->sp vs H Q E):Dg P w K mg base CX k f b ps a:=
 ⟨λvs H Q E q=>F.len vs H Q E (h _ _ _ _ q),λA outer s H args c vs Q E d he hb hv hs=>F.run A outer s H args c vs Q E d he hb hv (h _ _ _ _ hs)⟩
def N4.make {P:zp}{w:zm}{K:AAB}{mg:Str->zt zx}{base:zl}{A:zk}{outer:zy Env}{s:zw}{H:Hp}(e:N4 P w K mg base A outer s H)(C:zu)(a:zy zx)(b:zy (Str×zx)):N4 P w K mg base (A.under (.builtin "type.__call__" ⟨.ref C::a,b⟩)) outer s H:=⟨by first | exact e.frames|(simpa[Around.under,Code.envs,Code.isFrame,pushEnvs] using e.frames),e.mod,e.bs,e.bsz,e.funs,e.frf,e.hok,e.bare⟩
def N4.in1 {P:zp}{w:zm}{K:AAB}{mg:Str->zt zx}{base:zl}{A:zk}{outer:zy Env}{s:zw}{H:Hp}(e:N4 P w K mg base A outer s H):N4 P w K mg base A.in1 outer s H:=⟨e.frames,e.mod,e.bs,e.bsz,e.funs,e.frf,e.hok,e.bare⟩
section
variable {X:Cx}{zj:zy (zu×Obj)}{σ:St}{H:Hp}{s s':zw}
def Inv.env0 (I:Inv X zj σ H s):N4 X.prog X.w X.K X.mg X.base X.A X.stack s H:=
 ⟨I.ok.frames,I.ok.mod,I.bs,AAY I.ok.bsz I.sz,I.stack,I.stkFree,I.hok,I.bare⟩
def Inv.after {Q:VK}{u:zx}(I:Inv X zj σ H s)(h:CE X.stack X.prog X.w H s Q u s'):EP X zj σ Q u s':=by obtain⟨v,c,os,bare,un,hok,r,q⟩:=h;obtain⟨e,g,d,t,a⟩:=s';obtain rfl:a=s.os:=os;exact⟨v,c,I.call (h':=e) (g':=g) (d':=d) (t':=t) (ch:= []) un hok bare (λb z=>absurd z (by simp)),r,q⟩
end
def bH (sp:Sp)(a:zy V)(E:XK)(t:TA):TE:=λb H Q=>t b H λvs H1=>sp (vs++a) H1 Q E
def Binds (K:AAB)(b:FuncData)(ps:zy Str)(ds:zy zx):Prop:=
 ∀(s:zw) (a:zy zx),K.In s.heap->(a++ds).length=ps.length->BindsTo s b ⟨a, []⟩ (ps.zip (a++ds))
def Binds.all {K:AAB}{b:FuncData}{ps:zy Str}(h:∀a:zy zx,a.length=ps.length->bindArgs b ⟨a, []⟩=pure (ps.zip a)):Binds K b ps [] :=λs a _ hl=>by rw[ADV] at hl ⊢;exact .of_eq (h a hl)
def Passes (CX:XB)(X:Cx)(E:XK):Prop:=∀(b:zy (zu×Obj)) (c:St) (H:Hp) (s:zw) (e:zx) (a:zw),Inv X b c H s->CX X.stack H s E e a->X.xe e a
section
variable {X:Cx}{CX:XB}{k:Nat}{f C:zu}{fd:FuncData}{ps:zy Str}{sp:Sp}{dvs:zy V}{ds:zy zx}{E:XK}{x m:Str}{p pos apos:Pos}{e o:zr}{es:zy zr}{ta:TE}{t:TA}
theorem jG {c:zy (zu×Obj)}{d:St}{H:Hp}{s:zw}{Q:VK}{a:zy zx}{vs:zy V}(F:Dg X.prog X.w X.K X.mg X.base CX k f fd ps sp)(i:Room k X.A)(hb:Binds X.K fd ps ds)(hd:Ay dvs ds)(hx:Passes CX X E)(I:Inv X c d H s)(r:Ay vs a)(h:sp (vs++dvs) H Q E):wpAny (model X.prog X.w) X.A (call (.ref f) a) (EP X c d Q) X.xe s:=by
 have g:Ay (vs++dvs) (a++ds):=r.append hd;have hl:(a++ds).length=ps.length:=by rw[<-g.length];exact F.len _ _ _ _ h
 refine ACU (ACD (F.run X.A X.stack s H ⟨a, []⟩ (a++ds) (vs++dvs) Q E i I.env0 (hb s a I.kIn hl) g h) λr j b=> ?_);cases r with
 | error e=>exact hx c d H s e j I b
 | ok l=>
   cases l with
   | ret u=>exact I.after b
   | next=>exact False.elim b
   | brk=>exact False.elim b
   | cont=>exact False.elim b
theorem Wb (F:Dg X.prog X.w X.K X.mg X.base CX k f fd ps sp)(b:Room k X.A)(c:Gl X x)(d:X.mg x=some (.ref f))(hk:PySem.W.keepIn X.K (.ref f)=true)(hb:Binds X.K fd ps ds)(hd:Ay dvs ds)(hx:Passes CX X E)(ha:PA X (e::es) t)(hdb:(x==("__debug__" :Str))=false:=by decide)(he:starEach (e::es) X.env=(false,eval e X.env)::starEach es X.env:=by rfl)(hpl:(backTo pos (starEach es X.env)).any (·.1)=false:=by rfl):PE X (.Call (.Name x p) (e::es) [] pos) (bH sp dvs E t):=by intro g s i H Q I h;refine ADW (WR I c d ?_ hdb);refine PySem.W.callWith_K (h₀:=X.base) I.ok.mod.kin hk (BY (ha pos g s i H _ I h) λj l ⟨vs,H1,a,r,q⟩=>⟨a.kIn, ?_⟩) he hpl;exact jG F b hb hd hx a r q
structure Mk (K:AAB) (C f:Addr):Prop where
 makes:PySem.W.makesIn K C=true
 init:PySem.W.findIn K (.ref C) "__init__" =some (some (.ref f))
 fn:PySem.W.isFn K (.ref f)=true
 kp:PySem.W.keepIn K (.ref C)=true
end
section
variable {X:Cx}{CX:XB}{k:Nat}{f C:zu}{fd:FuncData}{ps ks:zy Str}{sp:Sp}{E:XK}{x m:Str}{p pos apos kpos:Pos}{e o:zr}{es:zy zr}{kws:zy Keyword}{te ta:TE}{t tk:TA}{nm:zt Str}
structure pS (K:AAB) (fd:FuncData) (ps ks:List Str) (g:List Value->List Value->List Value) (gV:List V->List V->List V):Prop where
 to:∀(s:Shared) (us ws:List Value),K.In s.heap->(g us ws).length=ps.length->BindsTo s fd ⟨us,ks.zip ws⟩ (ps.zip (g us ws))
 rel:∀{vs:List V} {us:List Value} {zs:List V} {ws:List Value},Ay vs us->Ay zs ws->Ay (gV vs zs) (g us ws)
variable {g:zy zx->zy zx->zy zx}{gV:zy V->zy V->zy V}
end
structure DP (N P:List Str) (sc:Scope):Prop where
 kind:sc.kind= .function
 co:sc.isCoroutine=false
 gen:sc.isGenerator=false
 nd:N.Nodup
 pre:N.take P.length=P
 par:∀x∈P,sc.names.lookup x=some .local\/sc.names.lookup x=some .cell
 nofree:∀y∈sc.names,y.2≠ .free
theorem On {kindOf:Str->zt NameKind}{x:Str}:∀{binds:zy (Str×zx)} {m:Str->zt zx},(∀v,(x,v) ∉ binds)->bindL kindOf binds m x=m x
 | [],_,_=>rfl
 | (n,v)::r,m,h=>by
   unfold bindL;rw[On λw hw=>h w (AAw _ hw)];split
   .have:x≠n:=by rintro rfl;exact h v ABL
    simp[this]
   .rfl
theorem Ol {kindOf:Str->zt NameKind}{x:Str}:∀{binds:zy (Str×zx)} {m:Str->zt zx},(∀v,(x,v) ∉ binds)->bindC kindOf binds m x=m x
 | [],_,_=>rfl
 | (n,v)::r,m,h=>by
   unfold bindC;rw[Ol λw hw=>h w (AAw _ hw)];split
   .rfl
   .have:x≠n:=by rintro rfl;exact h v ABL
    simp[this]
theorem Om {kindOf:Str->zt NameKind}{x:Str}{v:zx}:∀{P:zy Str} {vs:zy zx} {i:Nat} {m:Str->zt zx},P.Nodup->P[i]? =some x->vs[i]? =some v->kindOf x=some .local-> bindL kindOf (P.zip vs) m x=some v
 | [],_,_,_,_,h,_,_=>by simp at h
 | _::_, [],_,_,_,_,h,_=>by simp at h
 | p::P,w::vs,0,m,nd,h1,h2,hk=>by simp at h1 h2;subst h1;subst h2;show bindL kindOf ((p,w)::P.zip vs) m p=_;unfold bindL;rw[On λv hv=>(ABp.mp nd).1 (ADX hv).1,AAE hk];simp
 | p::P,w::vs,i+1,m,nd,h1,h2,hk=>by show bindL kindOf ((p,w)::P.zip vs) m x=_;unfold bindL;exact Om (i:=i) (ABp.mp nd).2 (by simpa using h1) (by simpa using h2) hk
theorem Oj {kindOf:Str->zt NameKind}{x:Str}{v:zx}:∀{P:zy Str} {vs:zy zx} {i:Nat} {m:Str->zt zx},P.Nodup->P[i]? =some x->vs[i]? =some v->kindOf x≠some .local-> bindC kindOf (P.zip vs) m x=some v
 | [],_,_,_,_,h,_,_=>by simp at h
 | _::_, [],_,_,_,_,h,_=>by simp at h
 | p::P,w::vs,0,m,nd,h1,h2,hk=>by simp at h1 h2;subst h1;subst h2;show bindC kindOf ((p,w)::P.zip vs) m p=_;unfold bindC;rw[Ol λv hv=>(ABp.mp nd).1 (ADX hv).1,AAD hk];simp
 | p::P,w::vs,i+1,m,nd,h1,h2,hk=>by show bindC kindOf ((p,w)::P.zip vs) m x=_;unfold bindC;exact Oj (i:=i) (ABp.mp nd).2 (by simpa using h1) (by simpa using h2) hk
def start (N:zy Str)(vs:zy V):St:=vs.map some++List.replicate (N.length-vs.length) none
def OB (CX:XB)(P:zp)(w:zm)(K:AAB)(mg:Str->zt zx)(base:zl)(N:zy Str)(qual:Str)(scope:Scope)(f:zu)(b:zx)(A:zk)(outer:zy Env)(s:zw)(H:Hp)(E:XK):Cx where
 prog:=P
 w:=w
 K:=K
 mg:=mg
 base:=base
 A:=A.deeper (envOfC qual scope s.heap.objs.size f b)
 N:=N
 s₀:=s
 H₀:=H
 env:=envOfC qual scope s.heap.objs.size f b
 outer:=outer
 stack:=envOfC qual scope s.heap.objs.size f b::outer
 ex:= []
 calm:=true
 fn:=λ_=>true
 pn:= []
 xe:=λe c=>wpAny (model P w) (A.deeper (envOfC qual scope s.heap.objs.size f b)) (leaving (envOfC qual scope s.heap.objs.size f b) e) (λ_ a=>CX outer H s E e a) (λe' a=>CX outer H s E e' a) c
def Rz {sc:Scope}{n:Nat}{x:Str}(h:sc.names.lookup x=some .cell):∃c,(cellsFrom n sc.names []).lookup x=some c:=by have q:=AD7 sc.names n [] (.inl h);exact Option.isSome_iff_exists.mp q
def Xp {CX:XB}{P:zp}{w:zm}{K:AAB}{mg:Str->zt zx}{base:zl}{N ps:zy Str}{qual:Str}{scope:Scope}{f:zu}{m:zx}{A:zk}{outer:zy Env}{s t:zw}{H:Hp}{E:XK}{o:zy zx}{vs:zy V}(S:DP N ps scope)(hd:A.handled=none)(d:N4 P w K mg base A outer s H)(hl:vs.length=ps.length)(r:Ay vs o)(x:InCallC s s.heap.objs.size (bindL (envOfC qual scope s.heap.objs.size f m).kindOf (ps.zip o) λ_=>none) (cellsFrom (s.heap.objs.size+1) scope.names []) (bindC (envOfC qual scope s.heap.objs.size f m).kindOf (ps.zip o) λ_=>none) t):Inv (OB CX P w K mg base N qual scope f m A outer s H E) [] (start N vs) H t:=by
 have hpl:ps.length<=N.length:=by have:=congrArg List.length S.pre;rw[ADY] at this;omega
 obtain⟨h1,B,rfl,hk⟩:=x.done;have g:∀b:zu,b ∉ (OB CX P w K mg base N qual scope f m A outer s H E).ex:=λb z=>absurd (show b∈([] :zy zu) from z) (by simp);refine⟨⟨d.mod,S.kind,rfl,rfl,AAJ _,λy z c h1 h2=> ?_,λy j=> ?_,λy c _ h=> ?_,λ_=>hd,Around.frames_deeper d.frames, .inr ⟨rfl,rfl⟩,λb z=>absurd z (g b),d.bs,d.bsz,λb _ _=>g b,λb z=>absurd z (g b),d.funs,d.frf⟩,
  rfl,d.bare,Un.kept hk,⟨_,x.toInCall.ns,λi y v h1 h2 h3=> ?_⟩,λy c h=>⟨_,x.cell y c h⟩,d.hok.fresh (AAJ _),λy c h=> ?_,λp hp=>absurd (show p∈([] :zy (zu×Obj)) from hp) (by simp),d.hok.kept hk, ?_⟩
 .exact name_of_addr x.apart (ACV h1) (ACV h2)
 .have j:scope.names.lookup y=some .cell\/scope.names.lookup y=some .free:=j;rcases j with j|j
  .exact Rz j
  .exact absurd rfl (S.nofree _ (ACV j))
 .exact AB9 (x.above y c (ACV h))
 .have hi:i<vs.length:=by
   unfold start at h2;by_cases hi:i<vs.length
   .exact hi
   .rw [ABG (by simpa using hi)] at h2;rw[ABV] at h2;split at h2 <;> cases h2
  have ha:vs[i]? =some v:=by
   unfold start at h2;rw[ABN (by simpa using hi),AAl] at h2;cases e:vs[i]? with
   | none=>rw[e] at h2;cases h2
   | some a=>rw[e] at h2;cases h2;rfl
  obtain⟨u,hu,rv⟩:=r.get ha;have hp:ps[i]? =some y:=by rw[<-S.pre,List.getElem?_take_of_lt (by omega)];exact h1
  have l:ps.Nodup:=by rw[<-S.pre];exact S.nd.sublist (List.take_sublist _ _)
  refine⟨u,rv, ?_⟩;rcases S.par y (ABq hp) with k|k
  .exact .inl ⟨k,Om l hp hu k⟩
  .obtain ⟨c,e⟩:=Rz (n:=s.heap.objs.size+1) k;refine .inr ⟨.inl k,c,e, ?_⟩;have q:=x.cell y c e;rw[Oj l hp hu (by show scope.names.lookup y≠_;rw[k];decide)] at q;exact q
 .exact d.hok.fresh (AB9 (x.above y c (ACV h)))
 .unfold start;show _=N.length;rw[ABH,AAL,ABW];omega
def fP {CX:XB}{P:zp}{w:zm}{K:AAB}{mg:Str->zt zx}{base:zl}{k:Nat}{f:zu}{name qual:Str}{params:Arguments}{body:zy Stmt}{scope:Scope}{p kV d z a ct G:zx}{B L:zt zu}{i:Array (zt zx)}{N ps:zy Str}{sp:Sp}(M:K.lookup f=some ⟨G,L, .func (PySem.W.fnOf name qual params body scope p kV d z B a ct),i⟩)(O:PySem.W.codeIn K a qual=true)(S:DP N ps scope)(len:∀vs H Q E,sp vs H Q E->vs.length=ps.length)(R:∀(A:zk) (outer:zy Env) (s:zw) (H:Hp) (vs:zy V) (Q:VK) (E:XK),Room k (A.deeper (envOfC qual scope s.heap.objs.size f a))->sp vs H Q E-> ∃t,Rr (OB CX P w K mg base N qual scope f a A outer s H E) body t/\t {nx:=λ_ c=>Q .non c,rt:=Q} (start N vs) H):Dg P w K mg base CX (k+1) f (PySem.W.fnOf name qual params body scope p kV d z B a ct) ps sp:=by
 refine⟨len,λA outer s H args T vs Q E j g hb r C=> ?_⟩;have hl:=len _ _ _ _ C;have D:K.In s.heap:=g.mod.kin.keeps λb o e=>(g.bs b o e).1;have l:s.heap.NoLimit:=g.mod.nolimit.keeps λb o e=>(g.bs b o e).1;have U:∀y∈ps.zip T,scope.names.lookup y.1=some .local\/(scope.names.lookup y.1=some .cell/\((cellsFrom (s.heap.objs.size+1) scope.names []).lookup y.1).isSome=true):=λ⟨n,v⟩ X=>by
  rcases S.par n (ADX X).1 with q|q
  .exact .inl q
  .exact .inr ⟨q,AD7 _ _ _ (.inl q)⟩
 refine codeAny_call_function j.depth (D _ _ M) rfl S.co S.gen rfl (PySem.W.codeRec_of D O) (hb _ _ _ _ ?_);refine wpAny_newFunctionEnv_cells S.kind U λenv he F x=> ?_;subst he;refine⟨l.keeps x.toInCall.keep,codeAny_func ?_⟩;obtain⟨t,Y,Z⟩:=R A outer s H vs Q E (j.deeper _) C;have I:Inv (OB CX P w K mg base N qual scope f a A outer s H E) [] (start N vs) H F:=Xp S j.hd g hl r x;refine ABM (Y [] F (start N vs) H _ I Z) (λfl m hs=> ?_) λe m hs=>hs;have h:∀{σ':St} {c:Hp} {v:V} {u:zx},Inv (OB CX P w K mg base N qual scope f a A outer s H E) [] σ' c m->RelV v u->Q v c->CE outer P w H s Q u m:=
  λ{σ' c v u} J rv q=>⟨v,c,J.os,J.bare,J.base,J.hok,rv,q⟩
 cases fl with
 | ret u=> obtain⟨v,σ',c,J,rv,q⟩:=hs;exact h J rv q
 | next=> obtain⟨σ',c,J,q⟩:=hs;exact h (v:=V.non) (u:=Value.none) J rfl q
 | brk=> obtain⟨_,_,_,q⟩:=hs;exact False.elim q
 | cont=> obtain⟨_,_,_,q⟩:=hs;exact False.elim q
section
variable {X:Cx}{x:Str}{p pos:Pos}{e:zr}{es:zy zr}{t:TA}{id T:String}{r:zy V->Hp->VK->Prop}
def q0 (r:zy V->Hp->VK->Prop)(t:TA):TE:=λa H Q=>t a H λvs H1=>r vs H1 Q
def GS (hc:DA X (.builtin id) r)(c:Gl X x)(d:X.mg x=none)(hv:bootBuiltins x=some (.builtin id))(ha:PA X (e::es) t)(f:x≠"__name__" :=by decide)(hdb:(x==("__debug__" :Str))=false:=by decide)(he:starEach (e::es) X.env=(false,eval e X.env)::starEach es X.env:=by rfl)(hpl:(backTo pos (starEach es X.env)).any (·.1)=false:=by rfl):PE X (.Call (.Name x p) (e::es) [] pos) (q0 r t):=by intro a s b H Q I h;refine ADW (Hi I c d hv ?_ f hdb);exact PyProof.Rows.callWith_builtin1 (BY (ha pos a s b H _ I h) λg i ⟨vs,H1,j,k,l⟩=>hc a i b H1 vs g Q j k l) he hpl
def Gz (hc:DA X (.type T) r)(c:Gl X x)(d:X.mg x=none)(hv:bootBuiltins x=some (.type T))(ha:PA X (e::es) t)(f:x≠"__name__" :=by decide)(hdb:(x==("__debug__" :Str))=false:=by decide)(he:starEach (e::es) X.env=(false,eval e X.env)::starEach es X.env:=by rfl)(hpl:(backTo pos (starEach es X.env)).any (·.1)=false:=by rfl):PE X (.Call (.Name x p) (e::es) [] pos) (q0 r t):=by intro a s b H Q I h;refine ADW (Hi I c d hv ?_ f hdb);exact ACB (BY (ha pos a s b H _ I h) λg i ⟨vs,H1,j,k,l⟩=>hc a i b H1 vs g Q j k l) he hpl
end
end L2
namespace HT
open PySem PyProof.Rows
section
variable {prog:zp}{w:zm}{A:zk}{E:zx->zw->Prop}{s:zw}
def cat_tup {t b:zu}{vs a:zy zx}{Q:zx->zw->Prop}(m:IsTup s.heap t vs.toArray)(hb:IsTup s.heap b a.toArray)(hv:vs≠ [])(h1:a= [] ->Q (.ref t) s)(h2:a≠ [] ->Q (.ref s.heap.objs.size) {s with heap:=s.heap.push {cls:= .type "tuple",data:= .seq (vs++a).toArray}})(hsz:vs.length+a.length<=sizeLine):wpAny (model prog w) A (binaryOp .Add (.ref t) (.ref b)) Q E s:=by
 obtain⟨⟨cls,h,data,sl⟩,f,hc,n,hd⟩:=id m;obtain⟨⟨i,c,data2,d⟩,g,j,k,l⟩:=id hb;simp only at hc hd j l;subst hc hd j l;have e:vs.toArray++a.toArray=(vs++a).toArray:=by simp
 by_cases hw:a= []
 .exact concat_meets ⟨_,f,rfl⟩ ⟨_,g,rfl⟩ ADZ seq_tuple_add ADa ADb (ADc _ _)
   (tuple_addW1 t b vs.toArray a.toArray n k h c sl d (by simpa using hv) (by simp[hw])) ⟨f,g,h1 hw⟩
 .refine concat_meets ⟨_,f,rfl⟩ ⟨_,g,rfl⟩ ADZ seq_tuple_add ADa ADb (ADc _ _)
   (tuple_addW2 t b vs.toArray a.toArray n k h c sl d (by simpa using hv) (by simpa using hw) (by rw[AAT,AAT];exact hsz)) ⟨f,g, ?_⟩
  rw[e];exact h2 hw
def sIx (n d:Nat):zt Int->Nat
 | none=>d
 | some v=>if v<0 then (v+(n:Int)).toNat else min v.toNat n
def sIx_none (n d:Nat):sIx n d none=d:=rfl
def sIx_nat (n d k:Nat):sIx n d (some (k:Int))=min k n:=by show (if (k:Int)<0 then ((k:Int)+(n:Int)).toNat else min (k:Int).toNat n)=min k n;rw[AAD (by omega),ABr]
def jH (n d:Nat)(hd:d<=n)(o:zt Int):sIx n d o<=n:=by
 cases o with
 | none=>exact hd
 | some v=>
   show (if v<0 then (v+(n:Int)).toNat else min v.toNat n)<=n;by_cases hv:v<0
   .rw [AAE hv];omega
   .rw [AAD hv];exact Nat.min_le_right _ _
def Vx (v:Int)(n d:Nat):(if v<0 then max (v+(n:Int)) 0 else min v (n:Int))=((sIx n d (some v):Nat):Int):=by
 show (if v<0 then max (v+(n:Int)) 0 else min v (n:Int))=(((if v<0 then (v+(n:Int)).toNat else min v.toNat n):Nat):Int);by_cases hv:v<0
 .simp only[AAE hv];omega
 .simp only[AAD hv];omega
def UF (lo hi:zt Int)(n:Nat):Builtin.Slice.sliceAdjust lo hi 1 (n:Int)=(((sIx n 0 lo:Nat):Int),((sIx n n hi:Nat):Int)):=by
 have h1:¬((1:Int)<0):=by omega
 unfold Builtin.Slice.sliceAdjust;simp only[h1,AAh];refine AAo ?_ ?_
 .cases lo with
  | none=>rfl
  | some v=>exact Vx v n 0
 .cases hi with
  | none=>rfl
  | some v=>exact Vx v n n
def U7 (i j:Nat):Builtin.Slice.slicePlaces (i:Int) (j:Int) 1=j-i:=by
 unfold Builtin.Slice.slicePlaces;have h1:(1:Int)>0:=by omega
 simp only[h1,AAv,Int.ediv_one];split <;> omega
def NR {v:zx}{o:zt Int}{Q:zt Int->zw->Prop}(p:IsPart v o)(h:Q o s):wpAny (model prog w) A (Builtin.Slice.slicePartIndex v) Q E s:=by
 cases p with
 | none=>exact slicePart_none h
 | int i t=>exact slicePart_int h
def sliceApplied_gen {sl:zu}{a b:zx}{lo hi:zt Int}{n:Nat}{Q:Int×Int×Nat->zw->Prop}(hs:s.heap.IsSliceOf sl a b .none)(e:IsPart a lo)(f:IsPart b hi)(h:Q (((sIx n 0 lo:Nat):Int),1,sIx n n hi-sIx n 0 lo) s):wpAny (model prog w) A (Builtin.Slice.sliceApplied (.ref sl) (pure (n:Int))) Q E s:=by obtain⟨os,c,g,d⟩:=id hs;unfold Builtin.Slice.sliceApplied Builtin.Slice.sliceFields;refine AAA (AAA (AAU c d (x:=a) rfl (AAA (AAU c d (x:=b) rfl (AAA (AAU c d (x:= .none) rfl (AAC ?_)))))));refine AAA (slicePart_none ?_);show wpAny _ _ (if ((1:Int)==0)=true then _ else _) _ _ s;rw[AAD (by decide)];refine AAA (NR e (AAA (NR f (AAA (AAC ?_)))));show wpAny _ _ (match Builtin.Slice.sliceAdjust lo hi 1 (n:Int) with | (lo,hi)=>pure (lo,(1:Int),Builtin.Slice.slicePlaces lo hi 1)) _ _ s;rw[UF lo hi n];show wpAny _ _ (pure (((sIx n 0 lo:Nat):Int),(1:Int),Builtin.Slice.slicePlaces ((sIx n 0 lo:Nat):Int) ((sIx n n hi:Nat):Int) 1)) _ _ s;rw[U7];exact AAC h
def aP (xs:Array zx)(i k:Nat):((List.range k).filterMap λ(m:Nat)=>xs[((i:Int)+(m:Int)*1).toNat]?).toArray=((xs.toList.drop i).take k).toArray:=by
 have e:(λ(m:Nat)=>xs[((i:Int)+(m:Int)*1).toNat]?)=λm=>xs[i+m]? :=by
  funext m
  have:((i:Int)+(m:Int)*1).toNat=i+m:=by omega
  rw[this]
 rw[e];have:=pick_run xs i k;rw[List.filterMap_map] at this;have a:((λx=>xs[x]?) ∘ λx=>i+x)=λm=>xs[i+m]? :=rfl;rw[a] at this;rw[this]
def getItem_tuple_cut {t sl:zu}{items:Array zx}{c d:zx}{lo hi:zt Int}{Q:zx->zw->Prop}(a:IsTup s.heap t items)(hs:s.heap.IsSliceOf sl c d .none)(e:IsPart c lo)(f:IsPart d hi)(hw:¬(sIx items.size 0 lo=0/\sIx items.size items.size hi=items.size))(h:Q (.ref s.heap.objs.size) {s with heap:=s.heap.push {cls:= .type "tuple",data:= .seq ((items.toList.drop (sIx items.size 0 lo)).take (sIx items.size items.size hi-sIx items.size 0 lo)).toArray}})(hsz:items.size<=sizeLine):wpAny (model prog w) A (getItem (.ref t) (.ref sl)) Q E s:=by
 have b:sizeOk (.seq ((items.toList.drop (sIx items.size 0 lo)).take (sIx items.size items.size hi-sIx items.size 0 lo)).toArray):=by show ((items.toList.drop (sIx items.size 0 lo)).take (sIx items.size items.size hi-sIx items.size 0 lo)).toArray.size<=sizeLine;rw[AAT,ADY,List.length_drop,AB6];omega
 have hj:sIx items.size items.size hi<=items.size:=jH _ _ (AAJ _) hi;obtain⟨os,g,i,l⟩:=id hs;have j:s.TypeIs (.ref sl) "slice" :=⟨os,g,i⟩;unfold getItem;try with_reducible refine AAa ?_
 first | refine AAA (AAC ?_)|skip
 refine AAA (wpAny_sequenceKey a.typeIs (by decide) ?_);refine AAA (ABX (name:=Str.ofString "__getitem__") a.typeIs ACE
  (AA0 ACE a.typeIs entry_tuple_getitem ?_ (args_tuple_getitem _ _)))
 show wpAny _ _ (Builtin.Tuple.tupleItemsOf (.ref t) >>= _) _ _ s;refine AAA (tupleItemsOf_ a ?_);refine AAA (wpAny_typeOf j ?_);rw[AAE (by decide)];refine AAA (sliceApplied_gen hs e f ?_);have k:¬((((sIx items.size 0 lo:Nat):Int)==0&&(1:Int)==1&&(sIx items.size items.size hi-sIx items.size 0 lo)==items.size)=true):=by intro q;rw[AAx,AAx] at q;have n:((sIx items.size 0 lo:Nat):Int)=0:=eq_of_beq q.1.1;have o:sIx items.size items.size hi-sIx items.size 0 lo=items.size:=eq_of_beq q.2;exact hw ⟨by omega,by omega⟩
 show wpAny _ _ (if (((sIx items.size 0 lo:Nat):Int)==0&&(1:Int)==1&&(sIx items.size items.size hi-sIx items.size 0 lo)==items.size)=true then _ else _) _ _ s;rw[AAD k,aP];first
  | exact AAA (m:=Builtin.Tuple.tupleExact _) (ABE (AAC ⟨_,rfl,AAC h⟩) b)
  | exact AAA (m:=Builtin.Tuple.tupleExact _) (ABE (AAA (AAC (AAC ⟨_,rfl,AAC h⟩))) b)
  | exact AAA (AAA (m:=Builtin.Tuple.tupleExact _) (ABE (AAC (AAC ⟨_,rfl,AAC h⟩)) b))
  | exact AAA (AAA (m:=Builtin.Tuple.tupleExact _) (ABE (AAC ⟨_,rfl,AAC h⟩) b))
end
end HT
namespace L2
open PySem PySem.Spec PyProof.Rows
abbrev TO:=St->Hp->(zt Int->Hp->Prop)->Prop
def PO (X:Cx)(e:zt zr)(t:TO):Prop:=
 ∀(b:zy (zu×Obj)) (s:zw) (a:St) (H:Hp) (Q:zt Int->Hp->Prop),Inv X b a H s->t a H Q->
  wpAny (model X.prog X.w) X.A (evalPart e X.env) (λu d=>∃o c,Inv X b a c d/\IsPart u o/\Q o c) X.xe s
def ef:TO:=λ_ H Q=>Q none H
def nZ (t:TE):TO:=λa H Q=>t a H λx H1=>∃i,x= .int i/\Q (some i) H1
section
variable {X:Cx}{e:zr}{te:TE}{lo hi:zt zr}{tl th:TO}{pos p2:Pos}
def dZ:PO X none ef:=by intro a s b H Q I h;rw[evalPart_none];exact AAC ⟨none,H,I, .none,h⟩
def db (h:PE X e te):PO X (some e) (nZ te):=by intro a s b H Q I hw;rw[evalPart_some];refine BY (h a s b H _ I hw) λu g ⟨x,H1,c,d,f⟩=> ?_;obtain⟨i,rfl,q⟩:=f;obtain⟨t,rfl⟩:=d;exact⟨some i,H1,c, .int i t,q⟩
def fL (X:Cx)(r:V->zt Int->zt Int->Hp->VK->Prop):Prop:=
 ∀(a:zy (zu×Obj)) (s:zw) (b:St) (H:Hp) (x:V) (v c d:zx) (lo hi:zt Int) (sl:zu) (Q:VK),Inv X a b H s->RelV x v->s.heap.IsSliceOf sl c d .none->IsPart c lo->IsPart d hi->r x lo hi H Q->
  ∃T id,typeLookup (.type T) "__getitem__" =pure (some (.builtin id))/\s.TypeIs v T/\wpAny (model X.prog X.w) X.A (getItem v (.ref sl)) (EP X a b Q) X.xe s
def fL.or {r a:V->zt Int->zt Int->Hp->VK->Prop}(h:fL X r)(h':fL X a):fL X (λx lo hi H Q=>r x lo hi H Q\/a x lo hi H Q):=by
 intro b s c H x v d f lo hi sl Q I g hs i j q;rcases q with q|q
 .exact h b s c H x v d f lo hi sl Q I g hs i j q
 .exact h' b s c H x v d f lo hi sl Q I g hs i j q
def xM (r:V->zt Int->zt Int->Hp->VK->Prop)(te:TE)(tl th:TO):TE:=λa H Q=>te a H λx H1=>tl a H1 λl b=>th a b λu c=>r x l u c Q
def aM {r:V->zt Int->zt Int->Hp->VK->Prop}(j:fL X r)(he:PE X e te)(hl:PO X lo tl)(hu:PO X hi th):PE X (.Subscript e (.Slice lo hi none p2) pos) (xM r te tl th):=by intro c s d H Q I h;refine Subscript_ (BY (he c s d H _ I h) λv k ⟨x,H1,m,n,o⟩=> ?_);refine wpAny_Slice (BY (hl c k d H1 _ m o) λf p ⟨l,t,y,z,B⟩=>BY (hu c p d t _ y B) λg a ⟨u,i,C,D,E⟩=> ?_);rw[evalPart_none];refine AAC ?_;have F:Inv X c d i {a with heap:=a.heap.push {cls:= .type "slice",data:= .fields #[f,g, .none] }}:=C.kept (t':=a.toks) λb L q=>AAH _ q;obtain⟨T,id,G,J,K⟩:=j c {a with heap:=a.heap.push {cls:= .type "slice",data:= .fields #[f,g, .none] }} d i x v f g l u a.heap.objs.size Q F n (Heap.IsSliceOf.new ..) z D E;show wpAny (model X.prog X.w) X.A (subscriptTail e (.Slice lo hi none p2) v (.ref a.heap.objs.size)) (EP X c d Q) X.xe {a with heap:=a.heap.push {cls:= .type "slice",data:= .fields #[f,g, .none] }};exact tail_any (ops:= [.ref a.heap.objs.size,v]) J G K (by with_unfolding_all rfl)
def OA (xs:zy V)(lo hi:zt Int):zy V:=(xs.drop (HT.sIx xs.length 0 lo)).take (HT.sIx xs.length xs.length hi-HT.sIx xs.length 0 lo)
def KQ (xs:zy V)(lo hi:zt Int):(OA xs lo hi).length<=xs.length:=by unfold OA;rw[ADY,List.length_drop];omega
def qt (K:AAB):V->zt Int->zt Int->Hp->VK->Prop:=λx lo hi H Q=>∃a xs,x= .ref a/\Nh K H a xs/\
 ¬(HT.sIx xs.length 0 lo=0/\HT.sIx xs.length xs.length hi=xs.length)/\∀p,H p=none->Q (.ref p) (upd H p (.tup (OA xs lo hi)))
def jZ:fL X (qt X.K):=by
 intro l s m H x v n p lo hi sl Q I i hs j k h;obtain⟨a,xs,rfl,hx,hw,q⟩:=h;cases i;obtain⟨c,r,f,g⟩:=I.tuple hx;have d:c.toArray.size=xs.length:=by rw[AAT];exact r.length.symm
 refine⟨"tuple",_,ACE.lookup,f.typeIs, ?_⟩;refine HT.getItem_tuple_cut f hs j k (by rw[d];exact hw) ?_ (by rw[d];exact g);rw[d];refine⟨.ref s.heap.objs.size,_,I.laid (t':=s.toks) (o:= .tup (OA xs lo hi)) (λb t q=>AAH _ q) (AAJ _) ?_,rfl,q _ (I.hok.fresh (AAJ _))⟩;exact⟨AAY (KQ xs lo hi) g,_,(r.drop (HT.sIx xs.length 0 lo)).take (HT.sIx xs.length xs.length hi-HT.sIx xs.length 0 lo),IsTup.new _ _⟩
def fZ (K:AAB):R2:=λx y H Q=>∃a b xs c,x= .ref a/\y= .ref b/\Nh K H a xs/\Nh K H b c/\xs≠ [] /\xs.length+c.length<=sizeLine/\
 (c= [] ->Q (.ref a) H)/\(c≠ [] ->∀p,H p=none->Q (.ref p) (upd H p (.tup (xs++c))))
def Ay.nil_iff {xs:zy V}{a:zy zx}(r:Ay xs a):a= [] ↔xs= [] :=by
 cases r with
 | nil=>simp
 | cons _ _=>simp
def dJ:EC X (binaryOp .Add) (fZ X.K):=by intro r s t H x y v u Q I i j h;obtain⟨a,b,xs,k,rfl,rfl,ha,hb,hx,f,l,m⟩:=h;cases i;cases j;obtain⟨n,d,p,_⟩:=I.tuple ha;obtain⟨g,c,p2,_⟩:=I.tuple hb;refine HT.cat_tup p p2 (λz=>hx (d.nil_iff.mp z)) (λz=>⟨.ref a,H,I,rfl,l (c.nil_iff.mp z)⟩) (λz=> ?_) (by rw[<-d.length,<-c.length];exact f);refine⟨.ref s.heap.objs.size,_,I.laid (t':=s.toks) (o:= .tup (xs++k)) (λb A q=>AAH _ q) (AAJ _) ?_,rfl,m (λw=>z (c.nil_iff.mpr w)) _ (I.hok.fresh (AAJ _))⟩;exact⟨by rw[ABH];exact f,_,d.append c,IsTup.new _ _⟩
end
def WO (n:Nat)(i:Int):zt Nat:=if 0<=i then (if i<n then some i.toNat else none) else if -(n:Int)<=i then some (i+n).toNat else none
def II {a:Type}(xs:zy a)(i:Int):zt a:=(WO xs.length i).bind λj=>xs[j]?
def WP {n:Nat}{i:Int}{j:Nat}(h:WO n i=some j):seqIndex? i n=some j/\j<n/\ -(n:Int)<=i/\i<n:=by
 unfold WO at h;by_cases a:0<=i
 .rw [AAE a] at h;by_cases h1:i<n
  .rw [AAE h1] at h;have e:i.toNat=j:=AAb h;exact⟨by rw[seqIndex_of a h1,e],by omega,by omega,h1⟩
  .rw [AAD h1] at h;cases h
 .rw [AAD a] at h;by_cases h1: -(n:Int)<=i
  .rw [AAE h1] at h;have e:(i+n).toNat=j:=AAb h;exact⟨by rw[seqIndex_neg (by omega) h1,e],by omega,h1,by omega⟩
  .rw [AAD h1] at h;cases h
def Vt {a:Type}{xs:zy a}{i:Int}{v:a}(h:II xs i=some v):∃j,seqIndex? i xs.length=some j/\xs[j]? =some v/\j<xs.length/\ -(xs.length:Int)<=i/\i<xs.length:=by
 unfold II at h;cases e:WO xs.length i with
 | none=>rw[e] at h;cases h
 | some j=> rw[e] at h;obtain⟨h1,h2,h3,b⟩:=WP e;exact⟨j,h1,h,h2,h3,b⟩
def Co {a:Type}{xs:zy a}{j:Nat}{v:a}(h:xs[j]? =some v):II xs (j:Int)=some v:=by
 have hj:j<xs.length:=(AA1.mp h).1;have e:WO xs.length (j:Int)=some j:=by unfold WO;rw[AAE (by omega),AAE (by omega)];simp
 unfold II;rw[e];exact h
def Px (b:zr):Prop:=∀o i,subscripted b false o i=operate [o,i] (getItem o i)
def cP (X:Cx)(r:R2):Prop:=
 ∀(value slice:zr) (a:zy (zu×Obj)) (s:zw) (b:St) (H:Hp) (x y:V) (v u:zx) (Q:VK),Inv X a b H s->RelV x v->RelV y u->r x y H Q->
  subscripted slice false v u=operate [v,u] (getItem v u)->wpAny (model X.prog X.w) X.A (subscriptTail value slice v u) (EP X a b Q) X.xe s
def vt (X:Cx)(id:String)(r:V->zy V->Hp->VK->Prop):Prop:=
 ∀(a:zy (zu×Obj)) (s:zw) (b:St) (H:Hp) (x:V) (xs:zy V) (v:zx) (c:zy zx) (Q:VK),Inv X a b H s->RelV x v->Ay xs c->r x xs H Q->
  wpAny (model X.prog X.w) X.A (call (.builtin id) (v::c)) (EP X a b Q) X.xe s
section
variable {X:Cx}{a b:zr}{ta tb:TE}{pos:Pos}
def cP.or {r c:R2}(h:cP X r)(h':cP X c):cP X (λx y H Q=>r x y H Q\/c x y H Q):=by
 intro value slice d s e H x y v u Q I f g q hs;rcases q with q|q
 .exact h value slice d s e H x y v u Q I f g q hs
 .exact h' value slice d s e H x y v u Q I f g q hs
def KZ {r:R2}(c:cP X r)(ha:PE X a ta)(hb:PE X b tb)(hs:Px b):PE X (.Subscript a b pos) (eh r ta tb):=by intro d s e H Q I h;exact Subscript_ (gU ha hb I h λv u f x y g i j k q=>c a b d f e g x y v u Q i j k q (hs _ _))
def mY (K:AAB):R2:=λx y H Q=>∃p xs i v,x= .ref p/\y= .int i/\Fe K H p xs/\II xs i=some v/\Q v H
def mq (K:AAB):R2:=λx y H Q=>∃p xs i v,x= .ref p/\y= .int i/\Nh K H p xs/\II xs i=some v/\Q v H
def Es:cP X (mY X.K):=by
 intro value slice g s k H x y v u Q I m n h hs;obtain⟨p,xs,i,z,rfl,rfl,o,he,q⟩:=h;cases m;obtain⟨t,rfl⟩:=n;obtain⟨d,r,e,D⟩:=I.list o;obtain⟨j,h1,h2,h3,A,B⟩:=Vt he;obtain⟨w,ew,f⟩:=r.get h2;have hl:=r.length;have E:=Mr;have c:EP X g k Q w s:=⟨z,H,I,f,q⟩;by_cases l:0<=i
 .have hj:i.toNat=j:=by rw[seqIndex_of l B] at h1;exact AAb h1
  exact item_listR e.isList l (by omega) (by rw[hj];simpa using ew) c hs
 .have hj:(i+(d.toArray.size:Int)).toNat=j:=by rw[seqIndex_neg (by omega) A] at h1;rw[AAT,<-hl];exact AAb h1
  exact subscriptTail_builtinR (x:=w) e.isList.typeIs slot_list_getitem.lookup
   (wpAny_getItem_list_neg (Q:=λr C=>r=w/\EP X g k Q r C) e.isList (by omega) (by rw[AAT] <;> omega) (by omega) (by rw[hj];simpa using ew) ⟨rfl,c⟩) hs
def iB:cP X (mq X.K):=by
 intro value slice e s f H x y v u Q I k l h hs;obtain⟨p,xs,i,z,rfl,rfl,m,he,q⟩:=h;cases k;obtain⟨t,rfl⟩:=l;obtain⟨n,r,g,A⟩:=I.tuple m;obtain⟨j,h1,h2,h3,B,C⟩:=Vt he;obtain⟨w,ew,c⟩:=r.get h2;have hl:=r.length;have D:=Mr;have d:EP X e f Q w s:=⟨z,H,I,c,q⟩;exact subscriptTail_builtinR (x:=w) g.typeIs slot_tuple_getitem.lookup
  (getItem_tuple (j:=j) (Q:=λr o=>r=w/\EP X e f Q r o) g (by omega) (by omega) (by rw[AAT,<-hl];exact h1) (by simpa using ew) ⟨rfl,d⟩) hs
def Ur (c:zy zx)(n j:Nat)(u:zx):Obj.mapSeq (·.setIfInBounds j u) {cls:= .type "list",data:= .seq c.toArray n}={cls:= .type "list",data:= .seq (c.set j u).toArray n}:=by simp[Obj.mapSeq]
def Inv.lst {d:zy (zu×Obj)}{f:St}{H:Hp}{s:zw}{p:zu}{xs:zy V}(I:Inv X d f H s)(h:H p=some (.lst xs)):∃(c:zy zx) (n:Nat),Ay xs c/\s.heap.get? p=some {cls:= .type "list",data:= .seq c.toArray n}/\xs.length<=sizeLine:=by obtain⟨z,c,n,r,e⟩:=I.hok p _ h;exact⟨c,n,r,e,z⟩
def Inv.lstUpd {i:zy (zu×Obj)}{j:St}{H:Hp}{s:zw}{p:zu}{xs d:zy V}{c its':zy zx}{n g:Nat}{f:Obj->Obj}(I:Inv X i j H s)(h:H p=some (.lst xs))(l:s.heap.get? p=some {cls:= .type "list",data:= .seq c.toArray n})(k:f {cls:= .type "list",data:= .seq c.toArray n}={cls:= .type "list",data:= .seq its'.toArray g})(r:Ay d its')(m:d.length<=sizeLine)(t:Nat):Inv X i j (upd H p (.lst d)) {s with heap:=s.heap.update p f,toks:=t}:=by
 have e:(s.heap.update p f).get? p=some {cls:= .type "list",data:= .seq its'.toArray g}:=by rw[ACW f l (by rw[k] <;> rfl),k]
 refine I.write (x:=p) (e:=p) (by rw[h];trivial) (.inl rfl) (λb u hb q=>(Heap.get?_update_other _ _ (AA6 hb)).trans q) ⟨_,e⟩ ?_;exact⟨m,its',g,r,e⟩
def nA:V->V->V->Hp->(Hp->Prop)->Prop:=λo i v H Q=>∃p xs k j,o= .ref p/\i= .int k/\H p=some (.lst xs)/\WO xs.length k=some j/\Q (upd H p (.lst (xs.set j v)))
def JF:gF X nA:=by
 intro l s m H o i v z A u Q I w x rv h;obtain⟨p,xs,k,j,rfl,rfl,hp,hj,q⟩:=h;cases w;obtain⟨t,rfl⟩:=x;obtain⟨c,n,r,d,y⟩:=I.lst hp;obtain⟨h1,h2,h3,e⟩:=WP hj;have hl:=r.length;have B:=Mr;have f:Inv X l m (upd H p (.lst (xs.set j v))) {s with heap:=s.heap.update p (Obj.mapSeq (·.setIfInBounds j u))}:=
  I.lstUpd hp d (Ur c n j u) (r.set rv j) (by rw[List.length_set];exact y) s.toks
 by_cases g:0<=k
 .have hk:k.toNat=j:=by rw[seqIndex_of g e] at h1;exact AAb h1
  exact PySem.W.ki_setAt d g (by omega) (by rw[AAT,<-hl];exact e) (by rw[hk];exact⟨_,f,q⟩)
 .have hk:(k+(c.toArray.size:Int)).toNat=j:=by rw[seqIndex_neg (by omega) h3] at h1;rw[AAT,<-hl];exact AAb h1
  exact PySem.W.ki_setBack d (by omega) (by rw[AAT,<-hl];exact h3) (by omega) (by rw[hk];exact⟨_,f,q⟩)
def RN (lo hi:zt Int)(n:Nat):(sliceBounds lo hi none n).1=((HT.sIx n 0 lo:Nat):Int)/\(sliceBounds lo hi none n).2.1=((HT.sIx n n hi:Nat):Int)/\(sliceBounds lo hi none n).2.2=1:=by
 refine⟨?_, ?_,rfl⟩
 .cases lo with
  | none=>simp[sliceBounds,HT.sIx]
  | some i=>
    simp only[sliceBounds,HT.sIx,Option.getD_none,show (1:Int)>0 by decide,AAv];by_cases h:i<0
    .simp only[h,AAv] <;> omega
    .simp only[h,AAh] <;> omega
 .cases hi with
  | none=>simp[sliceBounds,HT.sIx]
  | some i=>
    simp only[sliceBounds,HT.sIx,Option.getD_none,show (1:Int)>0 by decide,AAv];by_cases h:i<0
    .simp only[h,AAv] <;> omega
    .simp only[h,AAh] <;> omega
def OT (c:zy zx)(lo hi:zt Int):slicePick c.toArray lo hi none=((c.drop (HT.sIx c.length 0 lo)).take (HT.sIx c.length c.length hi-HT.sIx c.length 0 lo)).toArray:=by obtain⟨h1,h2,h3⟩:=RN lo hi c.toArray.size;unfold slicePick;rw[h1,h2,h3];simp only[sliceRange_one,pick_run,AAT] <;> rfl
def qr (K:AAB):V->zt Int->zt Int->Hp->VK->Prop:=λx lo hi H Q=>∃a xs,x= .ref a/\Fe K H a xs/\∀p,H p=none->Q (.ref p) (upd H p (.lst (OA xs lo hi)))
def eO:fL X (qr X.K):=by intro k s l H x v m n lo hi sl Q I d hs e f h;obtain⟨a,xs,rfl,hx,q⟩:=h;cases d;obtain⟨g,r,c,i⟩:=I.list hx;have j:=r.length;refine⟨"list",_,slot_list_getitem.lookup,c.isList.typeIs, ?_⟩;refine wpAny_getItem_list_slice c.isList hs e f .none (by simp) ?_ (by rw[AAT] <;> omega);rw[OT,<-j];refine⟨.ref s.heap.objs.size,_,I.laid (t':=s.toks) (o:= .lst (OA xs lo hi)) (λb p q=>AAH _ q) (AAJ _) ?_,rfl,q _ (I.hok.fresh (AAJ _))⟩;exact⟨AAY (KQ xs lo hi) i,_,0,(r.drop (HT.sIx xs.length 0 lo)).take (HT.sIx xs.length xs.length hi-HT.sIx xs.length 0 lo),AAO _ rfl⟩
def Ie:DA X (.builtin "len") (λxs H Q=>∃p c,xs= [.ref p] /\(Fe X.K H p c\/Nh X.K H p c)/\Q (.int c.length) H):=by
 intro l s m H xs n Q I r h;obtain⟨p,c,rfl,d,q⟩:=h;obtain⟨u,rfl,j⟩:=vals1 r;cases j;have o:=Mr;rcases d with d|d
 .obtain ⟨e,f,g,k⟩:=I.list d;have i:=f.length;exact Calls.call_len_list g.isList (by simp only[AAT] <;> omega) ⟨.int c.length,H,I.tok _,⟨s.toks+1,by rw[AAT,i]⟩,q⟩
 .obtain ⟨e,f,g,k⟩:=I.tuple d;have i:=f.length;exact len_tuple g (by simp only[AAT] <;> omega) ⟨.int c.length,H,I.tok _,⟨s.toks+1,by rw[AAT,i]⟩,q⟩
def N8:DA X (.type "tuple") (λxs H Q=>∃p d,xs= [.ref p] /\((Fe X.K H p d/\∀l,H l=none->Q (.ref l) (upd H l (.tup d)))\/(Nh X.K H p d/\Q (.ref p) H))):=by
 intro j s k H xs y Q I r h;obtain⟨p,d,rfl,h⟩:=h;obtain⟨u,rfl,t⟩:=vals1 r;cases t;rcases h with⟨f,q⟩|⟨f,q⟩
 .obtain ⟨c,g,i,m⟩:=I.list f;have z:=g.length;refine call_tuple_list i.isList (λh' v=> ?_) (by simp only[AAT] <;> omega);have n:Inv X j k H {s with heap:=h'}:=I.kept (t':=s.toks) v;have x:Inv X j k (upd H h'.objs.size (.tup d)) {s with heap:=h'.push {cls:= .type "tuple",data:= .seq c.toArray}}:=
   n.laid (t':=s.toks) (λb o e=>AAH _ e) (AAJ _) (show CM X.prog X.w _ _ _ (.tup d) from⟨m,c,g,IsTup.new _ _⟩)
  exact⟨.ref h'.objs.size,_,x,rfl,q _ (n.hok.fresh (AAJ _))⟩
 .obtain ⟨c,g,i,m⟩:=I.tuple f;exact call_tuple_same i ⟨.ref p,H,I,rfl,q⟩
def uE (K:AAB)(T:String)(x:V)(H:Hp):Prop:=match x with
 | .str _=>T="str"
 | .int _=>T="int"
 | .ref p=>(T="list" /\∃xs,Fe K H p xs)\/(T="tuple" /\∃o,K.lookup p=some o/\o.cls= .type "tuple" /\o.dict=none)\/
     (T="dict" /\((∃kvs,H p=some (.dK kvs))\/∃kvs,H p=some (.dT kvs)))\/(T="set" /\∃S n,H p=some (.set S n))
 | _=>False
def jn {j:zy (zu×Obj)}{k:St}{H:Hp}{s:zw}{T:String}{x:V}{v:zx}(I:Inv X j k H s)(r:RelV x v)(d:uE X.K T x H):s.TypeIs v T/\∀a,v= .ref a->∃g,s.heap.get? a=some g/\g.dict=none:=by
 cases x with
 | str z=> obtain⟨t,rfl⟩:=r;cases (show T="str" from d);exact⟨typeIs_str s z t,λ_ e=>nomatch e⟩
 | int i=> obtain⟨t,rfl⟩:=r;cases (show T="int" from d);exact⟨typeIs_int s i t,λ_ e=>nomatch e⟩
 | ref p=>
   cases r;rcases d with⟨rfl,xs,l⟩|⟨rfl,o,hk,hc,hd⟩|⟨rfl,hk⟩|⟨rfl,S,n,hk⟩
   .obtain ⟨m,_,h,_⟩:=I.list l;refine⟨h.isList.typeIs,λa e=> ?_⟩;cases e;obtain⟨o,n,e,c,hd,_⟩:=h;exact⟨o,e,hd⟩
   .refine ⟨⟨o,I.kIn p o hk,hc⟩,λa e=> ?_⟩;cases e;exact⟨o,I.kIn _ o hk,hd⟩
   .have z:∃o,s.heap.get? p=some o/\o.ExactDict:=by
     rcases hk with⟨kvs,hk⟩|⟨kvs,hk⟩
     .obtain ⟨_,_,_,_,o,_,_,e,ex,_⟩:=I.hok p _ hk;exact⟨o,e,ex⟩
     .obtain ⟨_,_,_,_,o,_,_,e,ex,_⟩:=I.hok p _ hk;exact⟨o,e,ex⟩
    obtain⟨o,e,ex⟩:=z;refine⟨⟨o,e,ex.1⟩,λa f=> ?_⟩;cases f;exact⟨o,e,ex.2.1⟩
   .obtain ⟨o,_,_,_,e,ex,_⟩:=I.hok p _ hk;refine⟨⟨o,e,ex.1⟩,λa f=> ?_⟩;cases f;exact⟨o,e,ex.2.1⟩
 | _=>exact False.elim d
def uC (K:AAB)(T:String)(r:V->zy V->Hp->VK->Prop)(d:TE)(t:TA):TE:=λc H Q=>d c H λx H1=>uE K T x H1/\t c H1 λxs e=>r x xs e Q
variable {o e:zr}{es:zy zr}{to:TE}{t:TA}{name:Str}{apos cpos:Pos}{T id:String}{r:V->zy V->Hp->VK->Prop}
def mQ (j:PlainAttrs T)(slot:Slot T name id)(k:typeOf (.builtin id)=pure (.type "method_descriptor"))(l:vt X id r)(m:PE X o to)(ha:PA X (e::es) t)(n:attributeBase o name X.env (eval o X.env)=eval o X.env:=by rfl)(p:((backTo cpos (starEach (e::es) X.env)).all (λx=> !x.1)&&(backToKw cpos (keywordEach [] X.env)).all (λx=>x.1.isSome) && decide ((e::es).length+([] :zy Keyword).length+(if ([] :zy Keyword).isEmpty then 0 else 1)<30))=true:=by rfl)(u:(apos.endLine==cpos.line)=true:=by rfl)(hs:starEach (e::es) X.env=(false,eval e X.env)::starEach es X.env:=by rfl)(w:(backTo cpos (starEach es X.env)).any (·.1)=false:=by rfl):PE X (.Call (.Attribute o name apos) (e::es) [] cpos) (uC X.K T r to t):=by intro c s d H Q I h;refine wpAny_Call_method_late n p u rfl (BY (m c s d H _ I h) λv y ⟨x,H1,f,g,z,A⟩=> ?_);obtain⟨h1,h2⟩:=jn f g z;refine⟨T,id,j,slot,k,h1,h2, ?_⟩;have i:=ha cpos c y d H1 _ f A;rw[hs] at i ⊢;refine ACn (by show (false||(backTo cpos (starEach es X.env)).any (·.1))=false;rw[w] <;> rfl) (Calls.evalArgs_plain ?_);exact BY i λB C ⟨vs,D,E,F,G⟩=>l c C d D x vs v B Q E g F G
end
def pT (X:Cx)(id:String)(r:V->zy V->Hp->VK->Prop):Prop:=
 ∀(a:zy (zu×Obj)) (s:zw) (b:St) (H:Hp) (x:V) (xs:zy V) (v:zx) (c:zy zx) (Q:VK),Inv X a b H s->RelV x v->Ay xs c->r x xs H Q->
  wpAny (model X.prog X.w) X.A (call (.builtin id) (v::c)) (EP X a b Q) X.xe s
def Ay.one:∀{x:V} {a:zy zx},Ay [x] a->∃u,a= [u] /\RelV x u
 | _,_, .cons r .nil=>⟨_,rfl,r⟩
def Ay.two:∀{x y:V} {a:zy zx},Ay [x,y] a->∃u v,a= [u,v] /\RelV x u/\RelV y v
 | _,_,_, .cons r (.cons q .nil)=>⟨_,_,rfl,r,q⟩
def Ay.zero:∀{a:zy zx},Ay [] a->a= []
 | _, .nil=>rfl
def Ay.dropLast {xs:zy V}{a:zy zx}(h:Ay xs a):Ay xs.dropLast a.dropLast:=by
 induction h with
 | nil=>exact .nil
 | cons r t b=>
   cases t with
   | nil=>exact .nil
   | cons q t'=>exact .cons r b
def Ay.reverse {xs:zy V}{a:zy zx}(h:Ay xs a):Ay xs.reverse a.reverse:=by
 induction h with
 | nil=>exact .nil
 | cons r t b=>rw[ACo,ACo];exact Ay.append b (.cons r .nil)
section
variable {X:Cx}{zj:zy (zu×Obj)}{σ:St}{H:Hp}{s:zw}{l b:zu}{xs ys zs:zy V}
def Inv.lset {a its':zy zx}{n:Nat}{f:Array zx->Array zx}{t':Nat}(I:Inv X zj σ H s)(c:H l=some (.lst xs))(e:s.heap.get? l=some {cls:= .type "list",data:= .seq a.toArray n})(d:f a.toArray=its'.toArray)(hv:Ay ys its')(g:ys.length<=sizeLine):Inv X zj σ (upd H l (.lst ys)) {s with heap:=s.heap.update l (Obj.mapSeq f),toks:=t'}:=by have q:=PySem.IsL.update e f;rw[d] at q;refine I.write (x:=l) (e:=l) (by rw[c];exact trivial) (.inl rfl) (λb' u hb hu=>(Heap.get?_update_other s.heap (Obj.mapSeq f) (AA6 hb)).trans hu) ⟨_,q⟩ ?_;exact⟨g,its',_,hv,q⟩
def Inv.lnew {a:zy zx}{t':Nat}(I:Inv X zj σ H s)(hv:Ay ys a)(c:ys.length<=sizeLine):Inv X zj σ (upd H s.heap.objs.size (.lst ys)) {s with heap:=s.heap.push {cls:= .type "list",data:= .seq a.toArray},toks:=t'}:=
 I.laid (λ_ _ q=>AAH _ q) (AAJ _) ⟨c,a,0,hv,AAO _ rfl⟩
def Inv.fresh (I:Inv X zj σ H s):H s.heap.objs.size=none:=I.hok.fresh (AAJ _)
def Inv.lstM (I:Inv X zj σ H s)(c:H l=some (.lst xs)):xs.length<=sizeLine/\∃(a:zy zx) (n:Nat),Ay xs a/\xs.length=a.length/\s.heap.get? l=some {cls:= .type "list",data:= .seq a.toArray n}:=by obtain⟨z,a,n,r,e⟩:=I.hok l _ c;exact⟨z,a,n,r,r.length,e⟩
end
section
variable {X:Cx}
def Qx:V->zy V->Hp->VK->Prop:=λx vs H Q=>∃l xs y,x= .ref l/\vs= [y] /\H l=some (.lst xs)/\xs.length<sizeLine/\Q .non (upd H l (.lst (xs ++ [y])))
def O8:pT X "list.append" Qx:=by intro f s g H x vs v i Q I c rv h;obtain⟨l,xs,y,rfl,rfl,b,j,q⟩:=h;cases c;obtain⟨u,rfl,d⟩:=rv.one;obtain⟨z,a,n,r,hl,e⟩:=I.lstM b;refine call_meets F.slot_list_append ⟨_,e,rfl⟩ F.entry_list_append (F.args_list_append_2 _ _) (PySem.list_append l a.toArray n u (by rw[AAT];omega)) ⟨e, ?_⟩;refine⟨.non,_,I.lset (its':=a ++ [u]) b e (by simp) (r.append (.cons d .nil)) ?_,rfl,q⟩;rw[ABH,List.length_singleton];omega
def mV:R2:=λx y H Q=>∃l b xs a,x= .ref l/\y= .ref b/\H l=some (.lst xs)/\H b=some (.lst a)/\xs.length+a.length<=sizeLine/\∀p,H p=none->Q (.ref p) (upd H p (.lst (xs++a)))
def iY:EC X (binaryOp .Add) mV:=by
 intro o s p H x y v u Q I d f h;obtain⟨l,b,xs,t,rfl,rfl,g,i,w,q⟩:=h;cases d;cases f;obtain⟨z,c,n,r,hl,e⟩:=I.lstM g;obtain⟨A,a,B,j,C,k⟩:=I.lstM i;refine PySem.P.add_list e k ?_ (by rw[AAT,AAT];omega);have m:c.toArray++a.toArray=(c++a).toArray:=by simp
 rw[m];exact⟨.ref _,_,I.lnew (t':=s.toks) (r.append j) (by rw[ABH];omega),rfl,q _ I.fresh⟩
end
section
variable {prog:zp}{w:zm}{A:zk}{E:zx->zw->Prop}{s:zw}
set_option maxRecDepth 100000 in
end
end L2
namespace Att
open PySem PySem.W PySem.Calls PyProof.Rows
def LF {P:Params}{h:zl}:∀(ns:zy Int) (vs:zy zx),WellAll P h vs (ns.map WData.int)->IntsAre vs ns:=by
 intro ns;induction ns with
 | nil=> intro vs w;rw[ACF] at w;cases w;exact .nil
 | cons n ns c=>
   intro vs w;rw[AAN] at w;cases w with
   | cons a b=> cases a;exact .cons _ _ (c _ b)
def YI {l:OpenLaw}{n:Nat}(f:l.most=some n){P:Params}{h:zl}{args:zy WData}{vals:zy zx}(e:l.row.toRowW.claim.pre args=true)(g:WellAll P h vals args):∃a vs ns,vals= [Value.ref a] /\args= [WData.list (ns.map WData.int)] /\h.get? a=some {cls:= .type "list",data:= .seq vs.toArray}/\IntsAre vs ns/\ns.length<=n:=by
 have i:WShape.hasAll [] args [.list .int] =true:=(pre_splitW e).1;have hc:l.pre.holds [] {args:=args}=true:=(pre_splitW e).2;obtain⟨d,r,rfl,h1,h2⟩:=hasAllW_cons i;obtain rfl:=hasAllW_nil h2;obtain⟨xs,rfl,h3⟩:=hasW_list h1;obtain⟨ns,rfl⟩:=items_int h3;have j:ns.length<=n:=by
  unfold OpenLaw.pre at hc;have b:(WTm.not (.lt (.lit (.int (n:Int))) (.len (.arg 0)))).holds [] {args:= [.list (ns.map .int)] }=true:=by have b:=(holds_andW hc).1;rw[f] at b;exact b
  have c:=condW_of b (w_not (w_lt w_lit (w_len_list (w_arg rfl))));rw[AAL] at c;refine Nat.le_of_not_lt λq=> ?_;have k:(n:Int)<((ns.length:Nat):Int):=by omega
  first
   | (rw[AAV k] at c;exact absurd c (by decide))
   | (simp at c;omega)
 cases g with
 | cons m o=>
   cases o;cases m with
   | list p s=>exact⟨_,_,ns,rfl,rfl,p,LF ns _ s,j⟩
def YE (l:OpenLaw)(args:zy WData):l.row.toRowW.claim.post args (.bool true) args=true:=
 postW_of (r:=l.row.toRowW) (X:=(true==true))
  (show WShape.has [] (.bool true) .bool=true by first | rfl|decide|simp[WShape.has,WShape.arms,WShape.armsAll])
  (show (WTm.eq .res (.lit (.bool true))).value [] {args:=args,res:=some (.bool true),after:=args}=some (.bool (true==true)) from w_eq_bool (w_res rfl) w_lit) rfl
def attach_call {l:OpenLaw}{n:Nat}{q:zp}{loose:zy Str}{XP:(Str->zt zx)->zl->Prop}{YP:zm->zl->Prop}{d:DefRec}(m:l.most=some n)(p:d.params.defaults= [])(call:∀(w:zm) (s₀ b:zw) (mg i:Str->zt zx) (e:zu) (o:Obj) (j g c:zx) (a:zu) (vs:zy zx) (ns:zy Int),Ground q loose [] XP w s₀ mg i b.heap->YP w b.heap-> b.heap.get? e=some o->o.data= .func (docDef d.name d.params d.body d.scope j g c)->b.heap.CodeRec g d.name->mg d.name=some (.ref e)-> b.heap.get? a=some {cls:= .type "list",data:= .seq vs.toArray}->IntsAre vs ns->ns.length<=n->b.gens= #[] -> codeAny (model l.prog w) callerA (.call (.ref e) ⟨[.ref a], []⟩) (λr h=>r= .ok (.ret (.bool true))/\OldK b.heap h.heap/\h.os=b.os/\AllBare h.gens) b):WalkO q loose XP YP l.row.toRowW d [] (λf vs=>PySem.call f vs):=by intro w s₀ b mg i G Y e o j g c s kV t hd u k v x args vals as y H I z J;obtain rfl:s= .none:=Dflts.none k p;obtain rfl:kV= .none:=Dflts.noKw k;obtain⟨a,vs,ns,rfl,rfl,A,B,C⟩:=YI m y z;refine enter_call (ACD (call w s₀ b mg i e o j g c a vs ns G Y t (fd_plain hd) u v A B C x) λr h D=> ?_);obtain⟨rfl,h2,h3,E⟩:=D;exact⟨.inl ⟨.bool true, .bool true, [],rfl,λ_=>rfl, .bool true,YE l _,λ_=>⟨List.Pairwise.nil,λ_ F=>(nomatch F)⟩⟩,h2,h3,E⟩
section
variable {prog:zp}{w:zm}{A:zk}{E:zx->zw->Prop}{s:zw}{K:Frag}
def qj (h:zl)(L d:zu):zy (zu×Obj):=(List.range h.objs.size).filterMap λa=>if a=L\/a=d then none else (h.get? a).map λo=>(a,o)
end
end Att
namespace L2
open PySem PySem.Spec PyProof.Rows
theorem PP:∀{vs:zy zx} {ns:zy Int},IntsAre vs ns->Ay (ns.map V.int) vs
 | _,_, .nil=> .nil
 | _,_, .cons n t h=> .cons ⟨t,rfl⟩ (PP h)
def gE (H:Hp):Prop:=∀b,H b=none\/∃o xs,H b=some (.frz o (.lst xs))
def Zm {P:zp}{w:zm}{K:AAB}{mg p:Str->zt zx}{CX:XB}{k:Nat}{t a:zu}{A:FuncData}{x:Str}{sp:Sp}{c:zw}{vs:zy zx}{ns:zy Int}(B:K.In c.heap)(C:c.heap.Ns mainGlobals mg)(hb:c.heap.Ns builtinsNs p)(J:∀x:Str,x≠"__name__" ->p x=bootBuiltins x)(L:c.heap.NoLimit)(M:c.gens= #[])(ha:c.heap.get? a=some {cls:= .type "list",data:= .seq vs.toArray})(hi:IntsAre vs ns)(hl:ns.length<=sizeLine)(N:Room k callerA)(F:∀base:zl,K.In base->base.Ns mainGlobals mg->Dg P w K mg base CX k t A [x] sp)(O:∀(s:zw) (u:zx),BindsTo s A ⟨[u], []⟩ [(x,u)])(Q:∀H:Hp,gE H->Fe K H a (ns.map V.int)->sp [.ref a] H (λv _=>v= .bl true) λ_ _ _=>False)(R:∀H e g,CX [] H c (λ_ _ _=>False) e g->False):codeAny (model P w) callerA (.call (.ref t) ⟨[.ref a], []⟩) (λr g=>r= .ok (.ret (.bool true))/\OldK c.heap g.heap/\g.os=c.os/\AllBare g.gens) c:=by
 have rv:=PP hi;have j:=hi.length;have core:∀H:Hp,gE H->Fe K H a (ns.map V.int)->IX P w H c.heap->(∀b,H b≠none->b=a)->(H a≠none->K.lookup a=none)->
  codeAny (model P w) callerA (.call (.ref t) ⟨[.ref a], []⟩) (λr g=>r= .ok (.ret (.bool true))/\OldK c.heap g.heap/\g.os=c.os/\AllBare g.gens) c:=by
  intro H D S hok E T;have f:∀{b:zu} {o:Obj},c.heap.get? b=some o->H b=none->(QJ c.heap H).get? b=some o:=λe n=>Zb e n;have y:∀{b:zu} {o:Obj} {es:Array DictEntry} {ep:Nat},c.heap.get? b=some o->o.data= .dict es ep->H b=none:=λ{b o es ep} e d=>by
   cases q:H b with
   | none=>rfl
   | some u=> have e':b=a:=E b (by rw[q];simp);subst e';rw[ha] at e;cases e;have d':Data.seq vs.toArray _=Data.dict es ep:=d;cases d'
  have i:∀{b:zu} {m:Str->zt zx},c.heap.Ns b m->(QJ c.heap H).Ns b m:=λ{b m} ⟨o,es,ep,e,d,r⟩=>⟨o,es,ep,f e (y e d),d,r⟩;have G:K.In (QJ c.heap H):=λb o e=>f (B b o e) (by
   cases q:H b with
   | none=>rfl
   | some u=>
     have e':b=a:=E b (by rw[q];simp);subst e';rw[T (by rw[q];simp)] at e;cases e)
  have U:Mod K mg (QJ c.heap H):=⟨G,i C,⟨p,i hb,J⟩,let ⟨W,h1,h2⟩:=L;⟨W,i h1,h2⟩⟩;have X:N4 P w K mg (QJ c.heap H) callerA [] c H:=⟨rfl,U,λb o e=>dB e,Nat.le_of_eq (Xn _ _),trivial,λb hb=>absurd (show b∈([] :zy zu) from hb) (by simp),hok, .of_eq M⟩;refine ACD ((F _ G (i C)).run callerA [] c H ⟨[.ref a], []⟩ [.ref a] [.ref a] _ _ N X (O c (.ref a)) (.cons rfl .nil) (Q H D S)) λr g h=> ?_;cases r with
  | error e=>exact(R H e g h).elim
  | ok Y=>
    cases Y with
    | next=>exact False.elim h
    | brk=>exact False.elim h
    | cont=>exact False.elim h
    | ret u=>
      obtain⟨v,H',os,bare,un,Z,r',q⟩:=h;have q':v= .bl true:=q;subst q';obtain rfl:u=Value.bool true:=r';refine⟨rfl,OldK.of_keep λb o e=> ?_,os,bare⟩;cases q:H b with
      | none=>exact un.keep b o e q (by intro z;exact absurd (show b∈([] :zy zu) from z) (by simp)) (by simp)
      | some u=>
        rcases D b with z|⟨ob,xs,z⟩
        .rw [q] at z;cases z
        .have z2:=un.frzs b ob _ z;obtain⟨I,_⟩:=hok b _ z;obtain⟨e2,_⟩:=Z b _ z2;rw[e] at I;cases I;exact e2
 cases hk:K.lookup a with
 | some o=> have e:=B a o hk;rw[ha] at e;cases e;refine core (λ_=>none) (λ_=> .inl rfl) (.inr ⟨_,vs.toArray,_,hk,rfl,rfl,rfl,by rw[AAT,j];exact hl,by simpa using rv⟩) (λb u z=>by have l:(none:zt HO)=some u:=z;cases l) (λb z=>absurd rfl z) λz=>absurd rfl z
 | none=>
   refine core (λb=>if b=a then some (.frz {cls:= .type "list",data:= .seq vs.toArray} (.lst (ns.map V.int))) else none) (λb=> ?_) (.inl (.inr ⟨{cls:= .type "list",data:= .seq vs.toArray},AAE rfl⟩)) (λb u z=> ?_) (λb z=> ?_) λ_=>hk
   .by_cases hb:b=a
    .exact .inr ⟨_,_,AAE hb⟩
    .exact .inl (AAD hb)
   .by_cases hb:b=a
    .have l:=(AAE hb).symm.trans z;cases l;subst hb;exact⟨ha,by rw[AAL];exact hl,vs,_,rv,ha⟩
    .have l:=(AAD hb).symm.trans z;cases l
   .by_cases hb:b=a
    .exact hb
    .exact absurd (AAD hb) z
abbrev xo {K:AAB}{h:zl}(_:K.In h):AAB:=K
def walk_of {l:PySem.W.OpenLaw}{n k:Nat}{q:zp}{loose:zy Str}{XP:(Str->zt zx)->zl->Prop}{YP:zm->zl->Prop}{d:DefRec}{K:Params->AAB}{CX:zm->XB}{sp:zm->Sp}{x:Str}(t:l.most=some n)(y:n<=sizeLine)(z:d.params.defaults= [])(A:Room k callerA)(B:∀(w:zm) (h:zl),YP w h->(K w.params).In h)(F:∀(w:zm) (mg:Str->zt zx) (i:zu) (h:zl),(K w.params).In h->h.Ns mainGlobals mg->mg d.name=some (.ref i)-> ∃j:FuncData,(∀(s:zw) (u:zx),BindsTo s j ⟨[u], []⟩ [(x,u)])/\ ∀base:zl,(K w.params).In base->base.Ns mainGlobals mg->Dg l.prog w (K w.params) mg base (CX w) k i j [x] (sp w))(C:∀(w:zm) (H:Hp) (a:zu) (ns:zy Int),ns.length<=n->gE H->Fe (K w.params) H a (ns.map V.int)->sp w [.ref a] H (λv _=>v= .bl true) λ_ _ _=>False)(D:∀(w:zm) (H:Hp) (s:zw) (e:zx) (m:zw),CX w [] H s (λ_ _ _=>False) e m->False):PySem.W.WalkO q loose XP YP l.row.toRowW d [] (λf vs=>PySem.call f vs):=by refine Att.attach_call t z λw s₀ c mg P i o Q R E a vs ns G Y S hd U I J L p M=> ?_;have r:=B w _ Y;obtain⟨j,hb,hF⟩:=F w mg i _ r G.T.g I;exact Zm r G.T.g G.T.b G.T.builtins G.T.nolimit M J L (AAY p y) A hF hb (λH N O=>C w H a ns p N O) λH e m=>D w H c e m
abbrev MC:XB:=λ_ _ _ _ _ _=>False
abbrev E0:XK:=λ_ _ _=>False
def fX {X:Cx}:Passes MC X E0:=λ_ _ _ _ _ _ _ h=>h.elim
structure Vm (K:AAB) (x qual:Str) (st:Stmt) (f:Addr) (fd:FuncData):Prop where
 ex:∃(oc:Value) (od:Option Addr) (kV doc pm:Value) (an:Option Addr) (cdv ct:Value) (osl:Array (Option Value)),
  fd=PySem.W.fnOf x qual (Dt st) (B8 st) (Aq st) .none kV doc pm an cdv ct/\K.lookup f=some ⟨oc,od, .func fd,osl⟩/\PySem.W.codeIn K cdv qual=true
 kp:PySem.W.keepIn K (.ref f)=true
section
variable {P:zp}{w:zm}{K:AAB}{mg:Str->zt zx}{base:zl}
def Vm.ok {x qual:Str}{st:Stmt}{f:zu}{b:FuncData}{N ps:zy Str}{k:Nat}{sp:Sp}(F:Vm K x qual st f b)(S:DP N ps (Aq st))(len:∀vs H Q E,sp vs H Q E->vs.length=ps.length)(c:∀(a:zx) (A:zk) (outer:zy Env) (s:zw) (H:Hp) (vs:zy V) (Q:VK) (E:XK),Room k (A.deeper (envOfC qual (Aq st) s.heap.objs.size f a))->sp vs H Q E-> ∃t,Rr (OB MC P w K mg base N qual (Aq st) f a A outer s H E).nox (B8 st) t/\t {nx:=λ_ d=>Q .non d,rt:=Q} (start N vs) H):Dg P w K mg base MC (k+1) f b ps sp:=by obtain⟨n,o,kV,e,p,r,a,ct,g,rfl,i,j⟩:=F.ex;refine fP i j S len λA outer s H vs Q E l m=> ?_;obtain⟨t,h,q⟩:=c a A outer s H vs Q E l m;exact⟨t,h.nox,q⟩
def Vm.binds {x qual:Str}{st:Stmt}{f:zu}{g:FuncData}{ps:zy Str}(F:Vm K x qual st f g)(h:∀(kV a c:zx) (d:zt zu) (b ct:zx) (e:zy zx),e.length=ps.length->bindArgs (PySem.W.fnOf x qual (Dt st) (B8 st) (Aq st) .none kV a c d b ct) ⟨e, []⟩=pure (ps.zip e)):Binds K g ps [] :=by obtain⟨j,k,kV,a,c,d,b,ct,i,rfl,l,m⟩:=F.ex;exact .all (h kV a c d b ct)
def ZR {x qual:Str}{st:Stmt}{f:zu}{h:zx}{i e:zt zu}{d:Array (zt zx)}{kV b g a ct:zx}(l:K.lookup f=some ⟨h,i, .func (PySem.W.fnOf x qual (Dt st) (B8 st) (Aq st) .none kV b g e a ct),d⟩)(c:PySem.W.codeIn K a qual=true)(k:PySem.W.keepIn K (.ref f)=true):Vm K x qual st f (PySem.W.fnOf x qual (Dt st) (B8 st) (Aq st) .none kV b g e a ct):=⟨⟨h,i,kV,b,g,e,a,ct,d,rfl,l,c⟩,k⟩
end
section
variable {X:Cx}
def pv (i:Nat){x:Str}{pos:Pos}(hN:X.N[i]? =some x:=by rfl)(hv:fM X.env.scope x:=by first | exact Or.inl rfl|exact Or.inr (Or.inl rfl)|exact Or.inr (Or.inr rfl))(hd:(x==("__debug__" :Str))=false:=by decide)(a:(x==("__classdict__" :Str))=false:=by decide):PE X (.Name x pos) (IF i):=M7 hN hv hd a
end
def lv {c A B:Prop}[Decidable c](h1:c->A)(h2:¬c->B):if c then A else B:=by
 by_cases h:c
 .rw [AAE h];exact h1 h
 .rw [AAD h];exact h2 h
def Rs (H a:Hp):Prop:=∀b o,H b=some o->a b=some o
def Rs.free {H a:Hp}(e:Rs H a){l:zu}(h:a l=Option.none):H l=Option.none:=by
 cases q:H l with
 | none=>rfl
 | some o=> rw[e l o q] at h;cases h
def Rs.seq {K:AAB}{H b:Hp}{a:zu}{xs:zy V}(e:Rs H b)(h:Fe K H a xs):Fe K b a xs:=by
 rcases h with(h|⟨o,h⟩)|h
 .exact .inl (.inl (e _ _ h))
 .exact .inl (.inr ⟨o,e _ _ h⟩)
 .exact .inr h
theorem Jn {c d:Type}[BEq c][LawfulBEq c]{k:c}{a:d}:∀{l:zy (c×d)},l.lookup k=some a->(k,a)∈l
 | [],h=>by simp at h
 | (n,b)::r,h=>by
   rw[List.lookup_cons] at h;cases e:k==n with
   | true=>
     rw[e] at h;have e':k=n:=by simpa using e
     have hb:b=a:=by simpa using h
     subst e' hb;exact ABL
   | false=> rw[e] at h;exact AAw _ (Jn h)
theorem O2 {c d:Type}[BEq c][LawfulBEq c]{k:c}{a:d}:∀{l:zy (c×d)},(k,a)∈l->∃b,l.lookup k=some b
 | [],h=>nomatch h
 | (n,b)::r,h=>by
   rw[List.lookup_cons];cases e:k==n with
   | true=>exact⟨b,rfl⟩
   | false=>
     rcases AAG.mp h with z|z
     .have:k=n:=congrArg Prod.fst z;rw[this] at e;simp at e
     .exact O2 z
theorem GM {env:Env}{F:Str×NameKind->zy (Str×zu)->Sem (ForInStep (zy (Str×zu)))}(h1:∀n r c,env.cells.lookup n=some c->F (n, .free) r=pure (.yield ((n,c)::r)))(h2:∀n k r,k≠NameKind.free->F (n,k) r=pure (.yield r)):∀(names:zy (Str×NameKind)) (f:zy (Str×zu)),(∀x∈names,x.2= .free->∃c,env.cells.lookup x.1=some c)-> ∃cl,(forIn names f F:Sem _)=pure cl/\(∀p∈cl,p∈f\/env.cells.lookup p.1=some p.2)/\(∀p∈f,p∈cl)/\∀x∈names,x.2= .free->∃c,(x.1,c)∈cl
 | [],f,_=>⟨f,rfl,λp hp=> .inl hp,λp hp=>hp,λx hx=>nomatch hx⟩
 | (n,k)::r,f,h=>by
   by_cases hk:k= .free
   .subst hk;obtain⟨c,hc⟩:=h (n, .free) ABL rfl;obtain⟨cl,e,a,b,d⟩:=GM h1 h2 r ((n,c)::f) (λx hx=>h x (AAw _ hx));refine⟨cl, ?_,λp hp=> ?_,λp hp=>b p (AAw _ hp),λx hx g=> ?_⟩
    .rw [ABY,h1 n f c hc];exact e
    .rcases a p hp with z|z
     .rcases AAG.mp z with z|z
      .subst z;exact .inr hc
      .exact .inl z
     .exact .inr z
    .rcases AAG.mp hx with z|z
     .subst z;exact⟨c,b _ ABL⟩
     .exact d x z g
   .obtain ⟨cl,e,a,b,d⟩:=GM h1 h2 r f (λx hx=>h x (AAw _ hx));refine⟨cl, ?_,a,b,λx hx g=> ?_⟩
    .rw [ABY,h2 n k f hk];exact e
    .rcases AAG.mp hx with z|z
     .subst z;exact absurd g hk
     .exact d x z g
def Ha {env:Env}{scope:Scope}(h:∀x∈scope.names,x.2= .free->∃c,env.cells.lookup x.1=some c):∃cl,closureFor scope env=pure cl/\(∀y c,cl.lookup y=some c->env.cells.lookup y=some c)/\∀y,(y,NameKind.free)∈scope.names->∃c,cl.lookup y=some c:=by
 obtain⟨cl,e,a,_,d⟩:=GM (env:=env) (F:=λx cs=>match x with | (name,kind)=>if (kind==NameKind.free)=true then do let a <-cellOf env name;pure (ForInStep.yield ((name,a)::cs)) else pure (ForInStep.yield cs))
  (λn r c hc=>by
    show (do let a <-cellOf env n;pure (ForInStep.yield ((n,a)::r)):Sem _)=_;unfold cellOf;rw[hc];rfl)
  (λn k r hk=>by
    have:(k==NameKind.free)=false:=by simpa using hk
    simp[this]) scope.names [] h
 refine⟨cl, ?_,λy c q=> ?_,λy b=> ?_⟩
 .unfold closureFor;have f:(forIn scope.names ([] :zy (Str×zu)) λx cs=>match x with | (name,kind)=>if (kind==NameKind.free)=true then do let a <-cellOf env name;pure (ForInStep.yield ((name,a)::cs)) else pure (ForInStep.yield cs):Sem _) >>= (λr=>pure r)=pure cl:=by rw[e];rfl
  exact f
 .rcases a _ (Jn q) with z|z
  .exact nomatch z
  .exact z
 .obtain ⟨c,hc⟩:=d (y, .free) b rfl;exact O2 hc
def HY (env:Env)(sc:Scope)(cl:zy (Str×zu))(C:zu):Env:=
 {scope:=sc,locals:=C,globals:=env.globals,cells:=cl,qual:=env.qual,func:=none,code:=env.code,frame:=env.frame,builtins:=env.builtins}
def blk (X:Cx)(sc:Scope)(N:zy Str)(cl:zy (Str×zu))(C:zu)(s:zw)(H:Hp)(ex:zy zu)(pn:zy (zu×Obj)):Cx where
 prog:=X.prog
 w:=X.w
 K:=X.K
 mg:=X.mg
 base:=X.base
 A:=X.A
 N:=N
 s₀:=s
 H₀:=H
 env:=HY X.env sc cl C
 outer:=X.stack
 stack:=X.stack
 ex:=ex
 fn:=λ_=>false
 calm:=X.calm
 pn:=pn
 xe:=λ_ _=>False
section
variable {X:Cx}{zj:zy (zu×Obj)}{σ:St}{H:Hp}{s:zw}{fp:zy zu}{sc:Scope}{N:zy Str}{cl:zy (Str×zu)}
def Inv.notStk (I:Inv X zj σ H s){b:zu}(h1:b≠X.env.locals)(h2:b ∉ X.fs):b ∉ Yb X.stack:=λz=>by
 rcases AAG.mp (I.stkSub b z) with e|e
 .exact h1 e
 .exact h2 e
def Inv.szLt (I:Inv X zj σ H s){x:Str}{c:zu}(e:X.env.cells.lookup x=some c):c<s.heap.objs.size:=by obtain⟨v,q⟩:=I.cell x c e;exact q.lt
def gW (I:Inv X zj σ H s)(d:∀b∈fp,Fd X zj H b)(f:∀b∈fp,b<s.heap.objs.size)(hk:sc.kind= .function)(h1:∀y c,cl.lookup y=some c->X.env.cells.lookup y=some c)(h2:∀y,(sc.names.lookup y=some .cell\/sc.names.lookup y=some .free)->∃c,cl.lookup y=some c):(blk X sc N cl s.heap.objs.size s H fp (X.pn++zj)).Ok where
 mod:=I.ok.mod
 kind:=hk
 glob:=I.ok.glob
 blt:=I.ok.blt
 above:=AAJ _
 inj:=λx y c a b=>I.ok.inj x y c (h1 x c a) (h1 y c b)
 has:=λx hx=>h2 x hx
 cab:=λx c z=>nomatch z
 hd:=I.ok.hd
 frames:=I.ok.frames
 stk:= .inl rfl
 exf:=λb hb=>⟨AAK (f b hb),λx c e=>(d b hb).2.2.2.2.1 x c (h1 x c e)⟩
 bs:=I.bs
 bsz:=AAY I.ok.bsz I.sz
 noex:=λb o e hb=>by
  rcases (d b hb).2.2.2.1 with z|z
  .exact I.ok.noex b o e z
  .exact absurd (AAP (AAF (I.ok.bs b o e).1) z) (ABT _)
 exfs:=λb hb=>I.notStk (d b hb).2.1 (d b hb).2.2.1
 funs:=I.stack
 frf:=I.stkFree
def CO (own:Nat)(ix:zy Nat)(σ:St):St:=List.replicate own none++ix.map λi=>(σ[i]?).getD none
def XM {own:Nat}{ix:zy Nat}{σ:St}:(CO own ix σ).length=own+ix.length:=by simp[CO]
def HZ {own:Nat}{ix:zy Nat}{σ:St}{j:Nat}{v:V}(h:(CO own ix σ)[j]? =some (some v)):own<=j/\∃i,ix[j-own]? =some i/\σ[i]? =some (some v):=by
 unfold CO at h;by_cases hj:j<own
 .rw [ABN (by simpa using hj),ABV] at h;simp[hj] at h
 .have Yc:own<=j:=by omega
  rw[ABG (by simpa using Yc),ABW,AAl] at h;refine⟨Yc, ?_⟩;cases e:ix[j-own]? with
  | none=>rw[e] at h;simp at h
  | some i=>
    rw[e] at h;refine⟨i,rfl, ?_⟩;have h':(σ[i]?).getD none=some v:=by simpa using h
    cases a:σ[i]? with
    | none=>rw[a] at h';simp at h'
    | some o=>
      rw[a] at h';have:o=some v:=by simpa using h'
      rw[this]
structure Yq (X:Cx) (sc:Scope) (own:Nat) (ix:List Nat) (N:List Str):Prop where
 len:N.length=own+ix.length
 out:∀j i,ix[j]? =some i->∃x,N[own+j]? =some x/\X.N[i]? =some x/\X.env.scope.names.lookup x=some .cell/\sc.names.lookup x=some .cell
def Y8 {own:Nat}{ix:zy Nat}{h':zl}{m:Str->zt zx}{t':Nat}(I:Inv X zj σ H s)(B:∀b∈fp,Fd X zj H b)(C:∀b∈fp,b<s.heap.objs.size)(hk:sc.kind= .function)(h1:∀y c,cl.lookup y=some c->X.env.cells.lookup y=some c)(h2:∀y,(sc.names.lookup y=some .cell\/sc.names.lookup y=some .free)->∃c,cl.lookup y=some c)(F:Yq X sc own ix N)(D:h'.Ns s.heap.objs.size m)(k:∀b o,s.heap.get? b=some o->h'.get? b=some o):Inv (blk X sc N cl s.heap.objs.size s H fp (X.pn++zj)) [] (CO own ix σ) H {s with heap:=h',toks:=t'} where
 ok:=gW I B C hk h1 h2
 os:=rfl
 bare:=I.bare
 base:=Un.kept k
 loc:=by
  refine⟨m,D,λi x v E G R=> ?_⟩;obtain⟨Yc,J,K,es⟩:=HZ G;obtain⟨y,n,L,t,w⟩:=F.out _ _ K;have g:x=y:=by have h:N[i]? =some x:=E;rw[show own+(i-own)=i by omega,h] at n;exact AAb n
  subst g;obtain⟨m0,S,M⟩:=I.loc;obtain⟨u,r,l⟩:=M J x v L es (.inr (.inl t));refine⟨u,r, ?_⟩;rcases l with⟨z,_⟩|⟨_,c,O,z⟩
  .have A:X.env.scope.names.lookup x=some .local:=z;rw[t] at A;cases A
  .obtain ⟨P,f⟩:=h2 x (.inl w);have:=h1 x P f;rw[O] at this;cases this;obtain⟨o,j,hd⟩:=z;exact .inr ⟨.inl w,c,f,o,k c o j,hd⟩
 cell:=λx c e=>by obtain⟨v,o,j,hd⟩:=I.cell x c (h1 x c e);exact⟨v,o,k c o j,hd⟩
 free:=I.hok.fresh (AAJ _)
 freeC:=λx c e=>I.freeC x c (h1 x c e)
 pin:=λp hp=>by
  have Q:p∈X.pn++zj:=by simpa[blk] using hp
  obtain⟨a,b,c,d,e⟩:=I.pin p Q;exact⟨k _ _ a,b,AAK (AAF a),I.notStk c d,e⟩
 hok:=I.hok.kept k
 len:=by rw[XM];exact F.len.symm
def Vw {own:Nat}{ix:zy Nat}{σ':St}{d:Hp}{e:zw}{a:zy (zu×Obj)}(I:Inv X zj σ H s)(c:∀b∈fp,Fd X zj H b)(f:∀b∈fp,b<s.heap.objs.size)(B:Inv (blk X sc N cl s.heap.objs.size s H fp (X.pn++zj)) a σ' d e):Inv X zj σ d e:=
 I.call' (ch:=fp) B.os B.base B.hok B.bare λb hb=>⟨(c b hb).2.2.2.1,(c b hb).2.1,(c b hb).2.2.2.2.1,(c b hb).2.2.2.2.2⟩
def Ru {d:Hp}{σ':St}{a:zw}{C:zu}{h':zl}(I:Inv X zj σ H s)(f:C=s.heap.objs.size)(g:Inv X zj σ' d a)(h:d C=none)(hs:Heap.SameBut C a.heap h'):Inv X zj σ' d {a with heap:=h'}:=by subst f;refine g.turned (t':=a.toks) (it:=s.heap.objs.size) (λb o hb e=>(hs.2 b hb).trans e) h (AAj I.lt) (.inr I.sz) (λx c e=>AAK (I.szLt e)) λp hp=>AAK (AAF (I.pin p hp).1)
end
def fJ (X:Cx)(a:zy zr)(t:TT):Prop:=
 ∀(d:zy (zu×Obj)) (s:zw) (b:St) (H:Hp) (Q:zq->Hp->Prop),Inv X d b H s->t b H Q->
  wpAny (model X.prog X.w) X.A (forIn a true λc r=>if r=true then do let ok <-isTrue c X.env (eval c X.env);pure (ForInStep.yield ok) else pure (ForInStep.yield r)) (TP X d b Q) X.xe s
def em:TT:=λ_ H Q=>Q true H
def We {X:Cx}:fJ X [] em:=λ_ _ _ H _ I h=>wpAny_tests_nil ⟨H,I,h⟩
def dY {X:Cx}{c:zr}{t:TT}(hc:PT X c t):fJ X [c] t:=λa s b H Q I h=>wpAny_tests_one (hc a s b H Q I h)
def MP (own:Nat)(g:TG):Prop:=∀v b H Q,g v b H Q->g v b H λa c=>Q a c/\a.length=b.length/\∀j,own<=j->a[j]? =b[j]?
def MQ (own:Nat)(g:UC):Prop:=∀vs b H Q,g vs b H Q->g vs b H λa c=>Q a c/\a.length=b.length/\∀j,own<=j->a[j]? =b[j]?
def QE {own i:Nat}(h:i<own):MP own (Cz i):=λv a H Q q=>⟨q,by simp,λj hj=>AAZ (by omega)⟩
def WC {own:Nat}:MQ own QC:=λvs a H Q q=>⟨q.1,q.2,rfl,λ_ _=>rfl⟩
def Mh {own:Nat}{t:TG}{u:UC}(h1:MP own t)(m1:∀v b H Q d,(∀a c,Q a c->d a c)->t v b H Q->t v b H d)(h2:MQ own u)(m2:∀v b H Q d,(∀a c,Q a c->d a c)->u v b H Q->u v b H d):MQ own (FO t u):=by intro vs b H Q q;obtain⟨v,r,e,q⟩:=q;refine⟨v,r,e,m1 _ _ _ _ _ (λa c z=> ?_) (h1 _ _ _ _ q)⟩;obtain⟨z,l,g⟩:=z;refine m2 _ _ _ _ _ (λh m f=> ?_) (h2 _ _ _ _ z);obtain⟨f,i,k⟩:=f;exact⟨f,i.trans l,λj hj=>(k j hj).trans (g j hj)⟩
def LR {i:Nat}:∀v b H Q c,(∀a d,Q a d->c a d)->Cz i v b H Q->Cz i v b H c:=λ_ _ _ _ _ m q=>m _ _ q
def QF:∀v b H Q c,(∀a d,Q a d->c a d)->QC v b H Q->QC v b H c:=λ_ _ _ _ _ m q=>⟨q.1,m _ _ q.2⟩
def SB {t:TG}{u:UC}(m1:∀v b H Q c,(∀a d,Q a d->c a d)->t v b H Q->t v b H c)(m2:∀v b H Q c,(∀a d,Q a d->c a d)->u v b H Q->u v b H c):∀v b H Q c,(∀a d,Q a d->c a d)->FO t u v b H Q->FO t u v b H c:=λ_ _ _ _ _ m ⟨v,r,e,q⟩=>⟨v,r,e,m1 _ _ _ _ _ (λ_ _ z=>m2 _ _ _ _ _ m z) q⟩
def UH (J:It)(D:zu)(σ0:St)(g:TG)(h:TT)(j:TE)(Q:Hp->Prop)(W:Nat->Nat->Hp->Prop):Prop:=
 ∀i m H,W i m H->(J.stop i H/\Q H)\/(J.go i H/\∀x d,J.yld i H x d->g x σ0 d λa k=>h a k λok e=>
  if ok=true then j a e λy f=>∃c,f D=some (.lst c)/\c.length<sizeLine/\∃b,b<m/\W (i+1) b (upd f D (.lst (c ++ [y]))) else ∃b,b<m/\W (i+1) b e)
def bI (b:TI)(own:Nat)(ix:zy Nat)(g:TG)(c:TT)(d:TE):TE:=λa H Q=>b a H λJ H1=>∀D,H1 D=none->
 ∃W:Nat->Nat->Hp->Prop,(∃m,W 0 m (upd H1 D (.lst [])))/\UH J D (CO own ix a) g c d (Q (.ref D)) W
section
variable {X:Cx}{tg elt iter:zr}{ifs:zy zr}{scope:Scope}{pos:Pos}{wi:TI}{own:Nat}{ix:zy Nat}{N:zy Str}{g:TG}{tt:TT}{te:TE}
structure Fa (X:Cx) (tg elt:Expr) (ifs:List Expr) (scope:Scope) (own:Nat) (ix:List Nat) (N:List Str) (g:TG) (tt:TT) (te:TE):Prop where
 kind:scope.kind= .function
 nocell:∀y∈scope.names,y.2≠ .cell
 names:∀y∈scope.names,y.2= .local->scope.names.lookup y.1=some .local
 frees:∀y∈scope.names,y.2= .free->X.env.scope.names.lookup y.1=some .cell
 ins:Yq X (relabel scope X.env) own ix N
 keep:MP own g
 tgt:∀cl C s H ex pn,PG (blk X (relabel scope X.env) N cl C s H ex pn) tg g
 tst:∀cl C s H ex pn,fJ (blk X (relabel scope X.env) N cl C s H ex pn) ifs tt
 val:∀cl C s H ex pn,PE (blk X (relabel scope X.env) N cl C s H ex pn) elt te
def Eu {env:Env}{y:Str}{k:NameKind}(c:∀y∈scope.names,y.2≠ .cell)(h:(y,k)∈(relabel scope env).names)(hk:k= .cell\/k= .free):(y,NameKind.free)∈scope.names:=by
 obtain⟨⟨n,b⟩,a,e⟩:=AAI.mp (show (y,k)∈scope.names.map _ from h);dsimp only at e;split at e
 .rename_i hc;cases e;have:b= .free:=by cases b <;> simp_all
  subst this;exact a
 .cases e;rcases hk with z|z
  .subst z;exact absurd rfl (c _ a)
  .subst z;exact a
def XU {C:zy (zu×Obj)}{P:St}{H:Hp}{s:zw}{k:zy zu}{cl:zy (Str×zu)}{it:zu}{tn:Nat->zl->Prop}{J:It}{D:zu}{R:Result->zw->Prop}{Qh:Hp->Prop}{W:Nat->Nat->Hp->Prop}(hc:X.calm=true)(O:Fa X tg elt ifs scope own ix N g tt te)(T:Jf X.prog X.w X.K tg J k it tn)(I:Inv X C P H s)(hf:∀b∈k,Fd X C H b)(Hg:∀b∈k,b<s.heap.objs.size)(hW:UH J D (CO own ix P) g tt te Qh W)(hR:∀σ' a S,Inv (blk X (relabel scope X.env) N cl s.heap.objs.size s H k (X.pn++C)) [] σ' a S->Qh a->R (.ok .next) S)(n:Nat)(s0:zw)(h0:∃i a,Inv (blk X (relabel scope X.env) N cl s.heap.objs.size s H k (X.pn++C)) [] (CO own ix P) a s0/\tn i s0.heap/\(∀b∈k,a b=none)/\W i n a):codeAny (model X.prog X.w) X.A (.compLoop (.ListComp elt [⟨tg,iter,ifs,0⟩] scope pos) 0 (.ref it) (.ref D) (HY X.env (relabel scope X.env) cl s.heap.objs.size)) R s0:=by
 refine codeAny_loop rfl (λn S=>∃i a,Inv (blk X (relabel scope X.env) N cl s.heap.objs.size s H k (X.pn++C)) [] (CO own ix P) a S/\tn i S.heap/\(∀b∈k,a b=none)/\W i n a) (λn s1 h1=> ?_) n h0;obtain⟨i,H1,B1,U,Z,w1⟩:=h1;generalize f:blk X (relabel scope X.env) N cl s.heap.objs.size s H k (X.pn++C)=Y at *;have eA:Y.A=X.A:=by rw[<-f];rfl
 have eP:Y.prog=X.prog:=by rw[<-f];rfl
 have eW:Y.w=X.w:=by rw[<-f];rfl
 have eK:Y.K=X.K:=by rw[<-f];rfl
 have eE:HY X.env (relabel scope X.env) cl s.heap.objs.size=Y.env:=by rw[<-f];rfl
 have eX:Y.xe=λ_ _=>False:=by rw[<-f];rfl
 have eC:Y.calm=true:=by rw[<-f];exact hc
 have hg:PG Y tg g:=by rw[<-f];exact O.tgt _ _ _ _ _ _
 have ht:fJ Y ifs tt:=by rw[<-f];exact O.tst _ _ _ _ _ _
 have hv:PE Y elt te:=by rw[<-f];exact O.val _ _ _ _ _ _
 have l:∀{a:Hp},(∀b∈k,a b=none)->∀b∈k,Fd Y [] a b:=λ{a} hn b hb=>by
  obtain⟨_,a1,a2,a3,a4,a5⟩:=hf b hb;refine⟨hn b hb, ?_, ?_, ?_, ?_, ?_⟩
  .rw [<-f];exact AAK (Hg b hb)
  .rw [<-f];exact I.notStk a1 a2
  .rw [<-f];exact .inl hb
  .intro x c e;exact(B1.ok.exf b (by rw[<-f];exact hb)).2 x c e
  .intro p hp;have:p∈X.pn++C:=by rw[<-f] at hp;simpa[blk] using hp
   exact a5 p this
 rw[eE,<-eA,<-eP,<-eW];show wpAny _ _ ((compTurn (.ListComp elt [⟨tg,iter,ifs,0⟩] scope pos) 0 (.ref it) (.ref D) Y.env).onRaise (λx=>do noteFrame x Y.env;theTreesLotGoes x)) _ _ s1;refine wpAny_noted ?_;rw[compTurn_list];have ff:∀{α:Type} {t:Sem α} {Q:α->zw->Prop} {E:zx->zw->Prop} {s:zw},wpAny (model Y.prog Y.w) Y.A t Q Y.xe s->wpAny (model Y.prog Y.w) Y.A t Q E s:=λh=>ABM h (λ_ _ q=>q) λ_ _ z=>by rw[eX] at z;exact z.elim
 refine AAA (ABU (AAA ?_));rcases hW i n H1 w1 with⟨stop,qn⟩|⟨go,step⟩
 .have zd:=λE=>T.done Y eP eW eK eC i [] s1 _ H1 E B1 (l Z) U stop;rw[<-eP,<-eW] at zd;refine BY (zd _) λr s4 ⟨hr,I4⟩=> ?_;subst hr;exact AAC (hR _ _ _ I4 qn)
 .have zi:=λE=>T.item Y eP eW eK eC i [] s1 _ H1 E B1 (l Z) U go;rw[<-eP,<-eW] at zi;refine BY (zi _) λr s4 ⟨u,hr,h4⟩=> ?_;subst hr;refine AAA (BY h4 λ_ s5 ⟨x,H5,I5,r5,y5,F,fr5⟩=> ?_);have I5':=I5.pinned (l fr5) (T.obj _ _ F);refine AAA (BY (ff (hg _ s5 _ H5 x u _ I5' r5 (O.keep _ _ _ _ (step x H5 y5)))) λ_ s6 ⟨B,H6,I6,q6,l6,k6⟩=> ?_);refine AAA (BY (ff (ht _ s6 B H6 _ I6 q6)) λok s7 ⟨H7,I7,q7⟩=> ?_);have back:∀{G:Hp} {L:zw} {M:Nat},Inv Y ([] ++ Jw k s5.heap) B G L->M<n->W (i+1) M G->
   ∃m,m<n/\∃i a,Inv Y [] (CO own ix P) a L/\tn i L.heap/\(∀b∈k,a b=none)/\W i m a:=λ{G L M} I8 hm w8=>by
   refine⟨M,hm,i+1,G,I8.unpinned.weak l6.symm (λj v hj=> ?_),T.keep _ _ _ F λb hb o e=>(I8.pin (b,o) (AAk _ (AAk _ (Dj hb e)))).1,λb hb=> ?_,w8⟩
   .rw [k6 j (HZ hj).1];exact hj
   .obtain ⟨o,e,d⟩:=T.obj _ _ F b hb;exact(I8.pin (b,o) (AAk _ (AAk _ (Dj hb e)))).2.1
  cases ok with
  | false=> obtain⟨M,hm,w8⟩:=q7;exact AAC ⟨rfl,back I7 hm w8⟩
  | true=> refine AAA (AAA (BY (ff (hv _ s7 B H7 _ I7 q7)) λyv L ⟨y,G,I8,r8,ys,hD,hz,M,hm,w8⟩=> ?_));refine AAA (BY (ff (O8 _ L B G (.ref D) [y] (.ref D) [yv] (λ_ H9=>H9=upd G D (.lst (ys ++ [y]))) I8 rfl (.cons r8 .nil) ⟨D,ys,y,rfl,rfl,hD,hz,rfl⟩)) λ_ s9 ⟨_,H9,I9,_,e9⟩=> ?_);subst e9;exact AAC (AAC ⟨rfl,back I9 hm w8⟩)
def R1 {f:zy (zu×Obj)}{v:St}{H:Hp}{s:zw}{use:zt (zx->Sem Unit)}{Q:zx->zw->Prop}{it:zu}{k:zy zu}{cl:zy (Str×zu)}{tn:Nat->zl->Prop}{J:It}{Qd:zu->Hp->Prop}(hc:X.calm=true)(O:Fa X tg elt ifs scope own ix N g tt te)(T:Jf X.prog X.w X.K tg J k it tn)(I:Inv X f v H s)(S:∀b∈k,Fd X f H b)(st:tn 0 s.heap)(h1:∀y c,cl.lookup y=some c->X.env.cells.lookup y=some c)(h2:∀y,(y,NameKind.free)∈scope.names->∃c,cl.lookup y=some c)(U:∀D,H D=none->∃W:Nat->Nat->Hp->Prop,(∃m,W 0 m (upd H D (.lst [])))/\UH J D (CO own ix v) g tt te (Qd D) W)(Y:∀D C j l,(∃m,l.heap.Ns C m)->Inv X f v j l->(∀h E,Inv X f h j E->∀h',Heap.SameBut C E.heap h'->Inv X f h j {E with heap:=h'})->C≠X.env.locals->(∀x c,X.env.cells.lookup x=some c->C≠c)->Qd D j-> compPost (model X.prog X.w) X.A X.xe use Q (.ref D) C (.ok .next) l):wpAny (model X.prog X.w) X.A (newList []) (λn p=>wpAny (model X.prog X.w) X.A (newFunctionEnv scope X.env.globals cl [] X.env.qual none .none (some X.env)) (λd r=> codeAny (model X.prog X.w) X.A (.compStart (.ListComp elt [⟨tg,iter,ifs,0⟩] scope pos) 0 (.ref it) n {d with scope:=relabel scope X.env}) (compPost (model X.prog X.w) X.A X.xe use Q n d.locals) r) X.xe p) X.xe s:=by
 refine ABE ?_ (by simp[sizeOk]);have i:Inv X f v (upd H s.heap.objs.size (.lst [])) {s with heap:=s.heap.push {cls:= .type "list",data:= .seq ([] :zy zx).toArray}}:=I.lnew (t':=s.toks) .nil (ABF _);have Z:=I.fresh;obtain⟨W,⟨m0,w0⟩,hW⟩:=U _ Z;have gy:∀b∈k,b<s.heap.objs.size:=λb hb=>by obtain⟨o,e,_⟩:=T.obj _ _ st b hb;exact AAF e
 have F:∀b∈k,Fd X f (upd H s.heap.objs.size (.lst [])) b:=λb hb=>by obtain⟨a0,ar⟩:=S b hb;exact⟨by rw[Ag (AAK (gy b hb))];exact a0,ar⟩
 generalize qS:({s with heap:=s.heap.push {cls:= .type "list",data:= .seq ([] :zy zx).toArray}}:zw)=s3 at i;have t:tn 0 s3.heap:=T.keep _ _ _ st λb hb o e=>by rw[<-qS];exact AAH _ e
 have G:∀b∈k,b<s3.heap.objs.size:=λb hb=>by obtain⟨o,e,_⟩:=T.obj _ _ t b hb;exact AAF e
 refine wpAny_newFunctionEnv O.nocell (by intro y L;simp at L) (λa kE qT=> ?_) O.kind;have R:∀b o,s3.heap.get? b=some o->a.get? b=some o:=λb o e=>qT.extBut b o (AAK (AAF e)) (AAH _ e);have fS:∀y,((relabel scope X.env).names.lookup y=some .cell\/(relabel scope X.env).names.lookup y=some .free)->∃c,cl.lookup y=some c:=λy L=>by
  rcases L with z|z
  .exact h2 y (Eu O.nocell (Jn z) (.inl rfl))
  .exact h2 y (Eu O.nocell (Jn z) (.inr rfl))
 have B:=Y8 (N:=N) (t':=s3.toks+([] :zy (Str×zx)).length) i F G (sc:=relabel scope X.env) O.kind h1 fS O.ins kE R;have u:tn 0 a:=T.keep _ _ _ t λb hb o e=>R b o e;have loop:∀M:zw,M={s3 with heap:=a,toks:=s3.toks+([] :zy (Str×zx)).length}->
  codeAny (model X.prog X.w) X.A (.compLoop (.ListComp elt [⟨tg,iter,ifs,0⟩] scope pos) 0 (.ref it) (.ref s.heap.objs.size) (HY X.env (relabel scope X.env) cl s3.heap.objs.size)) (compPost (model X.prog X.w) X.A X.xe use Q (.ref s.heap.objs.size) s3.heap.objs.size) M:=by rintro M rfl;refine XU (cl:=cl) (Qh:=Qd s.heap.objs.size) hc O T i F G hW (λσ' j l P q'=> ?_) m0 _ ⟨0,_,B,u,λb hb=>(F b hb).1,w0⟩;refine Y _ _ j l (let ⟨m,hm,_⟩:=P.loc;⟨m,hm⟩) (Vw (own:=own) (ix:=ix) i F G P) (λh E I2 h' hs=>Ru i rfl I2 P.free hs) (AAj i.lt) (λx c e=>AAj (i.szLt e)) q'
 exact codeAny_compStart_list (loop _ rfl) (T.self _ 0 _ _ _ u (loop _ rfl))
def dP (hc:X.calm=true)(hi:PI X tg iter wi)(O:Fa X tg elt ifs scope own ix N g tt te)(hs:∀x,foldedSetIterable iter X.env x=pure x:=by intro _;rfl):PE X (.ListComp elt [⟨tg,iter,ifs,0⟩] scope pos) (bI wi own ix g tt te):=by intro d s c H Q I h;obtain⟨cl,f,h1,h2⟩:=Ha (env:=X.env) (scope:=scope) λy i e=>I.ok.has y.1 (.inl (O.frees y i e));rw[eval_ListComp];refine ADd (use:=none) rfl hs f O.kind O.names (BY (hi d s c H _ I h) λv w hv=>BY hv λj z k=> ?_);obtain⟨it,A,tn,J,B,rfl,l,T,a,n,q⟩:=k;exact R1 (Qd:=λD b=>Q (.ref D) b) hc O T l n a h1 h2 q λD C b o p r gone E F t=>by obtain⟨m,u⟩:=p;exact⟨m,u,λh' hs=>⟨.ref D,b,gone c o r h' hs,rfl,t⟩⟩
def Wh {i:Nat}{x:Str}{pos' b:Pos}(hc:X.calm=true)(hN:X.N.Nodup)(n:X.N[i]? =some x)(hx:Loc X.env.scope x)(hi:PI X tg iter wi)(O:Fa X tg elt ifs scope own ix N g tt te)(o:swapsWith (.ListComp elt [⟨tg,iter,ifs,0⟩] scope pos) (some (.Name x pos')) b.line X.env=pure true:=by rfl)(hs:∀x,foldedSetIterable iter X.env x=pure x:=by intro _;rfl)(p:X.fn x=true\/X.env.scope.names.lookup x=some .local:=by first | exact .inl rfl|exact .inr rfl|assumption):PS X (.Assign [.Name x pos'] (.ListComp elt [⟨tg,iter,ifs,0⟩] scope pos) b) (VY (bI wi own ix g tt te) (Cz i)):=by
 intro k s l H D I h;obtain⟨cl,r,h1,h2⟩:=Ha (env:=X.env) (scope:=scope) λy t e=>I.ok.has y.1 (.inl (O.frees y t e));rw[exec_Assign_Name_used _ _ _ _ o];refine AAA (ABU (AAA ?_));show wpAny _ _ (do let _ <-comprehension (.ListComp elt [⟨tg,iter,ifs,0⟩] scope pos) scope X.env _ (newList []) false (eval iter X.env) (some (assign (.Name x pos') X.env))) _ _ s;refine AAA (BY (ADd (use:=some (assign (.Name x pos') X.env)) (Q:=λ_ c=>SP X k D .next c) rfl hs r O.kind O.names (BY (hi k s l H _ I h) λv W hv=>BY hv λu Y w=> ?_)) λ_ c A=>AAC (AAC A));obtain⟨it,Z,tn,J,H2,rfl,B,T,f,E,q⟩:=w;refine R1 (Qd:=λd j=>Cz i (.ref d) l j D.nx) hc O T B E f h1 h2 q λd C j c F G gone K L M=> ?_;obtain⟨m,P⟩:=F;show wpAny _ _ (assign (.Name x pos') X.env (.ref d)) _ _ c;refine ADS (KD (v:= .ref d) G hN n hx rfl (λR S ⟨a,sb,ha⟩=> ?_) p);have U:C≠a:=by
  rcases ha with z|z
  .rw [z];exact K
  .exact L x a z
 exact⟨m,P.sameBut sb U,λh' hs=>⟨_,j,gone _ R S h' hs,M⟩⟩
end
def Iu {n k:Nat}(h:n<2^k)(hk:0<k):n.log2<k:=by
 by_cases e:n=0
 .subst e;simpa using hk
 .exact (Nat.log2_lt e).mpr h
def Gw {i:Int}{k:Nat}(h:i.natAbs<2^k):Builtin.Int.intBits i<=k:=by
 unfold Builtin.Int.intBits;by_cases e:i=0
 .subst e;simp
 .have a:(i==0)=false:=by simpa using e
  rw[a];simp only[AAu,AAh];have b:i.natAbs≠0:=by omega
  have:=(Nat.log2_lt b).mpr h;omega
section
variable {X:Cx}
def pF (i j:Int):Prop:=i.natAbs<2^8000/\j.natAbs<2^8000
def kY (i j:Int):Prop:=GE i j\/pF i j
def Gy:EC X (binaryOp .Mult) (rI kY λi j=> .int (i*j)):=iX λ_ _ _ _ _ _ _ hc q=>mul_int q (by
 rcases hc with z|z
 .exact z.ok
 .exact .of_le (Gw z.1) (Gw z.2) (by decide))
def kX (_ j:Int):Prop:=0<j/\j.natAbs<2^8000
def aB:EC X (binaryOp .FloorDiv) (rI kX λi j=> .int (i/j)):=iX λi j _ _ _ _ _ hc q=>by have h1:(0:Int)<j:=hc.1;refine floordiv_int (by omega) ?_ (.inl (AD8 (ACX (Iu hc.2 (by decide)) (by decide))));rw[ABZ _ (Int.le_of_lt h1)];exact q
inductive Kd where
 | int|bl|non|str|lst|tup
 deriving DecidableEq
def Xr:Kd->String->zq
 | .int,T=>T == "int"
 | .bl,T=>T == "bool" || T == "int"
 | .non,_=>false
 | .str,_=>false
 | .lst,T=>T == "list"
 | .tup,T=>T == "tuple"
def Inv.walked {g:zy (zu×Obj)}{h:St}{H:Hp}{s c:zw}{o:Obj}(I:Inv X g h H s)(m:Moved [s.heap.objs.size] (λa b=>b=a) {s with heap:=s.heap.push o} c):Inv X g h H c:=by
 obtain⟨h',g',d',t',i⟩:=c;obtain⟨hk,d,hd,f,_⟩:=m;have j:∀b u,s.heap.get? b=some u->h'.get? b=some u:=λb u e=>hk b u (by
  intro z;have k:b=s.heap.objs.size:=by simpa using z
  exact absurd (AAF e) (by rw[k];exact ABT _)) (AAH _ e)
 have d:g'=s.gens:=d;have hd:d'=s.drawn:=hd;have f:i=s.os:=f;subst d hd f;exact I.kept (t':=t') j
def qc (xs:zy V)(k:Nat)(y:V):zy V:=xs.take k++y::xs.drop k
def Ay.ins {xs:zy V}{a:zy zx}{y:V}{u:zx}(r:Ay xs a)(b:RelV y u)(k:Nat):Ay (qc xs k y) (a.take k++u::a.drop k):=Ay.append (r.take k) (.cons b (r.drop k))
end
def N5:zq->zl->zu->zu->Nat->Prop
 | true,h,q,l,k=>h.IsListIter q l k
 | false,h,q,l,k=>h.IsTupleIter q l k
def IH:zq->zl->zu->Array zx->Prop
 | true,h,l,xs=>h.IsList l xs
 | false,h,l,xs=>h.IsTuple l xs
def N5.mv {b:zq}{h h':zl}{q l:zu}{k:Nat}(x:N5 b h q l k)(e:∀o,h.get? q=some o->h'.get? q=some o):N5 b h' q l k:=by
 cases b with
 | true=>obtain⟨o,a,r⟩:=x;exact⟨o,e o a,r⟩
 | false=>obtain⟨o,a,r⟩:=x;exact⟨o,e o a,r⟩
def N5.obj {b:zq}{h:zl}{q l:zu}{k:Nat}(x:N5 b h q l k):∃o,h.get? q=some o/\∀v,o.data≠ .cell v:=by
 cases b with
 | true=> obtain⟨o,a,_,d⟩:=x;exact⟨o,a,λv z=>by rw[d] at z;cases z⟩
 | false=> obtain⟨o,a,_,d⟩:=x;exact⟨o,a,λv z=>by rw[d] at z;cases z⟩
def IH.mv {b:zq}{h h':zl}{l:zu}{xs:Array zx}(x:IH b h l xs)(e:∀o,h.get? l=some o->h'.get? l=some o):IH b h' l xs:=by
 cases b with
 | true=>obtain⟨o,a,r⟩:=x;exact⟨o,e o a,r⟩
 | false=>obtain⟨o,a,r⟩:=x;exact⟨o,e o a,r⟩
section
variable {prog:zp}{w:zm}{A:zk}{E:zx->zw->Prop}{s:zw}
def FJ {b:zq}{q l:zu}{k:Nat}{xs:Array zx}{x:zx}{Q:zx->zw->Prop}(e:N5 b s.heap q l k)(hl:IH b s.heap l xs)(hx:xs[k]? =some x)(hQ:∀h',N5 b h' q l (k+1)->Heap.SameBut q s.heap h'->Q x {s with heap:=h'}):wpAny (model prog w) A (Builtin.SmallTypes.nextOf (.ref q)) Q E s:=by
 cases b with
 | true=>exact wpAny_nextOf_list_item e hl hx hQ
 | false=> have d:s.heap.IsTupleIter q l k:=e;obtain⟨g,c,f,a⟩:=id d;obtain⟨ol,gl,_,h,dl⟩:=hl;unfold Builtin.SmallTypes.nextOf;refine AAA (ABX (name:=Str.ofString "__next__") d.typeIs ACp (AA0 ACp d.typeIs AD9 ?_ (AEA _)));show wpAny _ _ (field (.ref q) 0 >>= _) _ _ _;refine AAA (AAU c a (x:= .ref l) rfl ?_);show wpAny _ _ (if (Value.ref l==Value.none)=true then _ else _) _ _ _;rw[AAD (by intro z;cases z)];show wpAny _ _ (field (.ref q) 1 >>= _) _ _ _;refine AAA (AAU c a (x:= .int k 0) rfl ?_);show wpAny _ _ (seqItems? (.ref l) >>= _) _ _ _;refine AAA (AAi gl dl ?_);simp only[ABr,hx];refine AAA (wpAny_setField c a (by simp) (AAC ⟨x,rfl,AAC (hQ _ ?_ (ADe ..))⟩));refine⟨_,ACW _ c (Obj.isFreed_of_fields (Obj.data_mapFields a _)),(Obj.cls_mapFields ..).trans f, ?_⟩;rw[Obj.data_mapFields a];simp[rawInt]
def Jj {b:zq}{q l:zu}{k:Nat}{xs:Array zx}{Q:zx->zw->Prop}(c:A.handled=none)(h:N5 b s.heap q l k)(hl:IH b s.heap l xs)(hx:xs[k]? =none)(i:∀h' e,Heap.ExtBut q s.heap h'->(∃o,h'.get? e=some o/\o.cls= .type "StopIteration")->E (.ref e) {s with heap:=h'}):wpAny (model prog w) A (Builtin.SmallTypes.nextOf (.ref q)) Q E s:=by
 cases b with
 | true=>exact wpAny_nextOf_list_end c h hl hx i
 | false=>
   have d:s.heap.IsTupleIter q l k:=h;obtain⟨j,f,n,g⟩:=id d;obtain⟨ol,gl,_,p,dl⟩:=hl;unfold Builtin.SmallTypes.nextOf;refine AAA (ABX (name:=Str.ofString "__next__") d.typeIs ACp (AA0 ACp d.typeIs AD9 ?_ (AEA _)));show wpAny _ _ (field (.ref q) 0 >>= _) _ _ _;refine AAA (AAU f g (x:= .ref l) rfl ?_);show wpAny _ _ (if (Value.ref l==Value.none)=true then _ else _) _ _ _;rw[AAD (by intro z;cases z)];show wpAny _ _ (field (.ref q) 1 >>= _) _ _ _;refine AAA (AAU f g (x:= .int k 0) rfl ?_);show wpAny _ _ (seqItems? (.ref l) >>= _) _ _ _;refine AAA (AAi gl dl ?_);simp only[ABr,hx];refine AAA (ABJ (AAA (wpAny_setField f g (by simp) ?_)));refine AAA (m:=newExc (.type "StopIteration") []) ?_;simp only[newExc,newTuple];refine AAA (ABE ?_ (by size_fits));refine AAA (m:=firstArgMember _ _) (ACG (a:=Value.none) (by first | rfl|(simp only[firstArgMember];rfl)) (ABE ?_ (by size_fits)));simp only[raiseNew];refine AAA (wpAny_handled ?_);first | rw[show A.in1.handled=none from c] | rw[c]
   exact AAA (AAC (wpAny_throw (i _ _ (((ADe ..).extBut.push _).push _) ⟨_,AAO _ rfl,rfl⟩)))
structure gP (b c:Bool) (z TI TO i j l m:Addr) (k:Nat) (f:Value) (h:Heap):Prop where
 zip:IsZip h z TI TO f
 its:IsPair h TI (.ref i) (.ref j)
 own:∃x y,IsPair h TO x y
 one:N5 b h i l k
 two:N5 c h j m k
def gP.mv {b c:zq}{z TI TO i j l m:zu}{k:Nat}{f:zx}{h h':zl}(Z:gP b c z TI TO i j l m k f h)(e:∀p∈ [z,TI,TO,i,j],∀o,h.get? p=some o->h'.get? p=some o):gP b c z TI TO i j l m k f h':=by obtain⟨a,d,⟨x,y,g⟩,n,r⟩:=Z;exact⟨e z (by simp) _ a,e TI (by simp) _ d,⟨x,y,e TO (by simp) _ g⟩,n.mv (e i (by simp)),r.mv (e j (by simp))⟩
variable {b c:zq}{z TI TO i j l m:zu}{k:Nat}{xs ys:Array zx}
def oB {x y:zx}{Q:zx->zw->Prop}(D:ZipApart z TI TO i j l m)(Z:gP b c z TI TO i j l m k .none s.heap)(hl:IH b s.heap l xs)(hm:IH c s.heap m ys)(hx:xs[k]? =some x)(hy:ys[k]? =some y)(hQ:∀h',IsZip h' z TI TO (rawInt s.heap.objs.size)->IsPair h' TI (.ref i) (.ref j)->IsPair h' TO x y->N5 b h' i l (k+1)->N5 c h' j m (k+1)->IsPair h' s.heap.objs.size x y-> (∀p o,p≠z->p≠TO->p≠i->p≠j->s.heap.get? p=some o->h'.get? p=some o)->Q (.ref s.heap.objs.size) {s with heap:=h'}):wpAny (model prog w) A (Builtin.«zip.__next__» ⟨[.ref z], []⟩) (λL s'=>∃v,L= .done (.ret v)/\Q v s') E s:=by
 obtain⟨n,T,⟨x0,M,zo⟩,z1,z2⟩:=Z;show wpAny _ _ (field (.ref z) 2 >>= _) _ _ _;refine AAA (AAU n rfl (x:= .bool false) rfl ?_);show wpAny _ _ (field (.ref z) 3 >>= _) _ _ _;refine AAA (AAU n rfl (x:= .ref TI) rfl (AAA (AAi T rfl ?_)));refine AAA (m:=Builtin.SmallTypes.ownedTupleIsFree (.ref z)) ?_;unfold Builtin.SmallTypes.ownedTupleIsFree;refine AAA (AAU n rfl (x:= .none) rfl (AAC ?_));simp only[AAv];refine AAA (ABJ (AAA (AAU n rfl (x:= .ref TO) rfl (AAA (AA7 n (by simp) λg1 N g=> ?_)))));have N:IsZip g1 z TI TO .ellipsis:=N;refine AAA ?_;simp only[ACq,ACr,ABY,ACH];refine AAA (AAA (ABa ?_));refine AAA (m:=Builtin.SmallTypes.nextOf (.ref i)) (FJ (z1.mv λo=>g.extBut _ o D.i1z) (hl.mv λo=>g.extBut _ o D.l1z) hx λg2 e2 b2=>AAC ?_);have U:IsPair g2 TO x0 M:=b2.extBut _ _ D.TOi1 (g.extBut _ _ D.TOz zo);refine AAA (AAi U rfl (AAA (ADf U λg3 O h=>AAA (ACI (AAC ?_)))));have O:IsPair g3 TO x M:=O;refine AAA (AAA (ABa ?_));refine AAA (m:=Builtin.SmallTypes.nextOf (.ref j)) (FJ (((z2.mv λo=>g.extBut _ o D.i2z).mv λo=>b2.extBut _ o D.i12.symm).mv λo=>h.extBut _ o D.TOi2.symm)
  (((hm.mv λo=>g.extBut _ o D.l2z).mv λo=>b2.extBut _ o D.l2i1).mv λo=>h.extBut _ o D.l2TO) hy λg4 e4 r=>AAC ?_)
 have W:IsPair g4 TO x M:=r.extBut _ _ D.TOi2 O;refine AAA (AAi W rfl (AAA (ADf W λa G t=>AAA (ACI (AAC (AAC ?_))))));have G:IsPair a TO x y:=G;refine AAA (AAi G rfl (AAA (wpAny_newTuple ?_)));have sz:a.objs.size=s.heap.objs.size:=by rw[t.1,r.1,h.1,b2.1,g.1]
 have X:IsZip a z TI TO .ellipsis:=t.extBut _ _ D.TOz.symm (r.extBut _ _ D.i2z.symm (h.extBut _ _ D.TOz.symm (b2.extBut _ _ D.i1z.symm N)));have d:∀p o,p≠z->p≠TO->p≠i->p≠j->s.heap.get? p=some o->a.get? p=some o:=λp o H I P R e=>
  t.extBut _ _ I (r.extBut _ _ R (h.extBut _ _ I (b2.extBut _ _ P (g.extBut _ _ H e))))
 have u:N5 b a i l (k+1):=((e2.mv λo=>h.extBut _ o D.TOi1.symm).mv λo=>r.extBut _ o D.i12).mv λo=>t.extBut _ o D.TOi1.symm;have B:N5 c a j m (k+1):=e4.mv λo=>t.extBut _ o D.TOi2.symm;have C:z<a.objs.size:=AAF X;refine AAA (m:=Builtin.SmallTypes.ownedTupleHandOut (.ref z) (.ref a.objs.size)) ?_;unfold Builtin.SmallTypes.ownedTupleHandOut;have k6:IsZip (a.push {cls:= .type "tuple",data:= .seq #[x,y] }) z TI TO .ellipsis:=AAH _ X;refine AAA (AA7 k6 (by simp) λg7 S Y=> ?_);have S:IsZip g7 z TI TO (rawInt a.objs.size):=S;refine AA7 S (by simp) λJ K b8=> ?_;have K:IsZip J z TI TO (rawInt a.objs.size):=K;have F:∀p o,p≠z->a.get? p=some o->J.get? p=some o:=λp o q e=>b8.extBut _ _ q (Y.extBut _ _ q (AAH _ e));have f:IsPair J a.objs.size x y:=b8.extBut _ _ (AAj C) (Y.extBut _ _ (AAj C) (AAO _ rfl));rw[sz] at K f;refine AAC ⟨_,rfl, ?_⟩;show Q (.ref a.objs.size) _;rw[sz];exact hQ J K (F _ _ D.TIz (d _ _ D.TIz D.TITO D.TIi1 D.TIi2 T)) (F _ _ D.TOz G) (u.mv λo=>F _ o D.i1z) (B.mv λo=>F _ o D.i2z) f λp o H I P R e=>F p o H (d p o H I P R e)
def sS {Q:Fin->zw->Prop}(B:A.handled=none)(D:ZipApart z TI TO i j l m)(Z:gP b c z TI TO i j l m k .none s.heap)(hl:IH b s.heap l xs)(M:IH c s.heap m ys)(N:xs[k]? =none\/ys[k]? =none)(C:∀h' e,(∀p o,p≠z->p≠TO->p≠i->p≠j->s.heap.get? p=some o->h'.get? p=some o)->(∃o,h'.get? e=some o/\o.cls= .type "StopIteration")->E (.ref e) {s with heap:=h'}):wpAny (model prog w) A (Builtin.«zip.__next__» ⟨[.ref z], []⟩) Q E s:=by
 obtain⟨g,O,⟨P,R,S⟩,F,T⟩:=Z;show wpAny _ _ (field (.ref z) 2 >>= _) _ _ _;refine AAA (AAU g rfl (x:= .bool false) rfl ?_);show wpAny _ _ (field (.ref z) 3 >>= _) _ _ _;refine AAA (AAU g rfl (x:= .ref TI) rfl (AAA (AAi O rfl ?_)));refine AAA (m:=Builtin.SmallTypes.ownedTupleIsFree (.ref z)) ?_;unfold Builtin.SmallTypes.ownedTupleIsFree;refine AAA (AAU g rfl (x:= .none) rfl (AAC ?_));simp only[AAv];refine AAA (ABJ (AAA (AAU g rfl (x:= .ref TO) rfl (AAA (AA7 g (by simp) λU r a=> ?_)))));have r:IsZip U z TI TO .ellipsis:=r;refine AAA ?_;simp only[ACq,ACr,ABY,ACH];refine AAA (AAA (ABa ?_));cases hx:xs[k]? with
 | none=>
   refine AAA (m:=Builtin.SmallTypes.nextOf (.ref i)) (Jj B (F.mv λo=>a.extBut _ o D.i1z) (hl.mv λo=>a.extBut _ o D.l1z) hx λt e b2 he=> ?_);obtain⟨u,d,h⟩:=he;have G:IsZip t z TI TO .ellipsis:=b2 _ _ D.i1z.symm r;have v:e≠z:=λq=>by subst q;rw[G] at d;cases d;simp at h
   refine AA7 G (by simp) λH _ f=>C H e (λp o n _ y _ q=>f.extBut _ _ n (b2 _ _ y (a.extBut _ _ n q))) ⟨u,f.extBut _ _ v d,h⟩
 | some x=>
   have W:ys[k]? =none:=by
    rcases N with q|q
    .rw [hx] at q;cases q
    .exact q
   refine AAA (m:=Builtin.SmallTypes.nextOf (.ref i)) (FJ (F.mv λo=>a.extBut _ o D.i1z) (hl.mv λo=>a.extBut _ o D.l1z) hx λt e2 b2=>AAC ?_);have I:IsPair t TO P R:=b2.extBut _ _ D.TOi1 (a.extBut _ _ D.TOz S);refine AAA (AAi I rfl (AAA (ADf I λH o3 f=>AAA (ACI (AAC ?_)))));refine AAA (AAA (ABa ?_));refine AAA (m:=Builtin.SmallTypes.nextOf (.ref j)) (Jj B (((T.mv λo=>a.extBut _ o D.i2z).mv λo=>b2.extBut _ o D.i12.symm).mv λo=>f.extBut _ o D.TOi2.symm)
    (((M.mv λo=>a.extBut _ o D.l2z).mv λo=>b2.extBut _ o D.l2i1).mv λo=>f.extBut _ o D.l2TO) W λX e J he=> ?_)
   obtain⟨u,d,h⟩:=he;have K:IsZip X z TI TO .ellipsis:=J _ _ D.i2z.symm (f.extBut _ _ D.TOz.symm (b2.extBut _ _ D.i1z.symm r));have v:e≠z:=λq=>by subst q;rw[K] at d;cases d;simp at h
   refine AA7 K (by simp) λY _ L=>C Y e (λp o n q2 y q4 q=>L.extBut _ _ n (J _ _ q4 (f.extBut _ _ q2 (b2.extBut _ _ y (a.extBut _ _ n q))))) ⟨u,L.extBut _ _ v d,h⟩
end
def To (b:zq)(l:zu):Obj:={cls:= .type (match b with | true=>"list_iterator" | false=>"tuple_iterator"),data:= .fields #[.ref l, .int 0 0] }
abbrev zA (b:zq)(h:zl)(l:zu):zl:=h.push (To b l)
abbrev zB (b c:zq)(h:zl)(l m:zu):zl:=(zA b h l).push (To c m)
abbrev zC (b c:zq)(h:zl)(l m:zu):zl:=(zB b c h l m).push {cls:= .type "tuple",data:= .seq #[.ref h.objs.size, .ref (zA b h l).objs.size] }
abbrev zD (b c:zq)(h:zl)(l m:zu):zl:=(zC b c h l m).push {cls:= .type "tuple",data:= .seq #[.none, .none] }
abbrev zF (b c:zq)(h:zl)(l m:zu):zl:=(zD b c h l m).push {cls:= .type "zip",data:= .fields #[.none, .bool false, .bool false, .ref (zB b c h l m).objs.size, .ref (zC b c h l m).objs.size] }
def Mp {prog:zp}{w:zm}{A:zk}{E:zx->zw->Prop}{h:zl}{g:Array GenState}{d:Drawn}{a:Nat}{os:OsState}{b:zq}{l:zu}{xs:Array zx}{Q:zx->zw->Prop}(hl:IH b h l xs)(q:Q (.ref h.objs.size) ⟨h.push (To b l),g,d,a,os⟩):wpAny (model prog w) A (pyIter (.ref l)) Q E ⟨h,g,d,a,os⟩:=by
 cases b with
 | true=>exact ADg (s:=⟨h,g,d,a,os⟩) hl q
 | false=>exact wpAny_pyIter_tuple (s:=⟨h,g,d,a,os⟩) hl q
def YZ (b c:zq)(l m:zu)(xs a:Array zx):Meets (Builtin.«zip.__new__» ⟨[.type "zip", .ref l, .ref m], []⟩) (λ_ R s=>IH b s.heap l xs/\IH c s.heap m a/\R (.ok (.ret (.ref (zD b c s.heap l m).objs.size))) {s with heap:=zF b c s.heap l m}):=
 .of_wp λprog w A R s h=>by
   obtain⟨hp,g,d,k,os⟩:=s;obtain⟨hl,f,h⟩:=h;have n:=sub_zip;have i:IH b hp l xs:=hl;have j:IH c (hp.push (To b l)) m a:=f.mv λo e=>AAH _ e
   wp_walk using Mp i,Mp j
   exact⟨_,rfl,h⟩
section
variable {prog:zp}{w:zm}{A:zk}{E:zx->zw->Prop}{s:zw}{b c:zq}{l m:zu}{xs ys:Array zx}
def Sc {h:zl}{q:zu}(e:h.get? q=some (To b l)):N5 b h q l 0:=by
 cases b with
 | true=>exact⟨_,e,rfl,rfl⟩
 | false=>exact⟨_,e,rfl,rfl⟩
def jx (hl:IH b s.heap l xs)(r:IH c s.heap m ys){Q:zx->zw->Prop}(h:∀h',gP b c (s.heap.objs.size+4) (s.heap.objs.size+2) (s.heap.objs.size+3) s.heap.objs.size (s.heap.objs.size+1) l m 0 .none h'->(∀p o,s.heap.get? p=some o->h'.get? p=some o)->Q (.ref (s.heap.objs.size+4)) {s with heap:=h'}):wpAny (model prog w) A (call (.type "zip") [.ref l, .ref m]) Q E s:=by
 refine callType_new F.called_zip (by decide) (F.typeCall_zip_2 _ _) (F.newCall_zip_2 _ _) (λobj=>F.args_object_init_3 obj _ _) F.entry_zip_new (YZ b c l m xs ys) ⟨hl,r, ?_⟩;have a:(zA b s.heap l).objs.size=s.heap.objs.size+1:=AAq ..;have d:(zB b c s.heap l m).objs.size=s.heap.objs.size+2:=by rw[AAq,a]
 have f:(zC b c s.heap l m).objs.size=s.heap.objs.size+3:=by rw[AAq,d]
 have i:(zD b c s.heap l m).objs.size=s.heap.objs.size+4:=by rw[AAq,f]
 have g:(zF b c s.heap l m).get? (zD b c s.heap l m).objs.size=some _:=AAO _ rfl;have j:(zF b c s.heap l m).get? (zC b c s.heap l m).objs.size=some _:=AAH _ (AAO _ rfl);have k:(zF b c s.heap l m).get? (zB b c s.heap l m).objs.size=some _:=AAH _ (AAH _ (AAO _ rfl));have n:(zF b c s.heap l m).get? (zA b s.heap l).objs.size=some (To c m):=AAH _ (AAH _ (AAH _ (AAO _ rfl)));have t:(zF b c s.heap l m).get? s.heap.objs.size=some (To b l):=AAH _ (AAH _ (AAH _ (AAH _ (AAO _ rfl))));rw[d,f,i] at g;rw[a,d] at k;rw[f] at j;rw[a] at n;show _/\_;rw[i];exact⟨⟨_,g,rfl⟩,h _ ⟨g,k,⟨_,_,j⟩,Sc t,Sc n⟩ λp o e=>AAH _ (AAH _ (AAH _ (AAH _ (AAH _ e))))⟩
end
def Sq (K:AAB):zq->Hp->zu->zy V->Prop
 | true,H,a,xs=>Fe K H a xs
 | false,H,a,xs=>Nh K H a xs
section
variable {X:Cx}{zj:zy (zu×Obj)}{σ:St}{H:Hp}{s:zw}{a:zu}{ys xs:zy V}{b:zq}{h':zl}
def Inv.sq (I:Inv X zj σ H s)(h:Sq X.K b H a xs):∃c:zy zx,Ay xs c/\IH b s.heap a c.toArray/\xs.length<=sizeLine:=by
 cases b with
 | true=> obtain⟨c,r,p,z⟩:=I.list h;exact⟨c,r,p.isList,z⟩
 | false=> obtain⟨c,r,p,z⟩:=I.tuple h;exact⟨c,r,p,z⟩
def Inv.sq_inj (I:Inv X zj σ H s)(h:Sq X.K b H a xs)(h2:Sq X.K b H a ys):xs=ys:=by
 cases b with
 | true=>exact I.list_inj h h2
 | false=>exact I.tuple_inj h h2
def Inv.turnedL {ch:zy zu}{t':Nat}(I:Inv X zj σ H s)(c:∀p∈ch,Fd X zj H p)(k:∀p o,p ∉ ch->s.heap.get? p=some o->h'.get? p=some o):Inv X zj σ H {s with heap:=h',toks:=t'}:=by
 have d:∀p u,H p=some u->p ∉ ch:=λp u e z=>by rw[(c p z).1] at e;cases e
 refine I.step (g':=s.gens) (d':=s.drawn) (ch:=ch) (λp hp=>⟨(c p hp).2.2.2.1,(c p hp).2.1,(c p hp).2.2.2.2.1,(c p hp).2.2.2.2.2⟩) (λp o _ _ hc e _=>k p o hc e) (λp o _ _ hc e _=>⟨o.slots,k p o hc e⟩)
  (λ_ _ _ _ n=>n) (λp o hc e=>⟨o,k p o hc e⟩) (λ_ _ e=>e) (λ_ _ _ e=>e) (λp ps e=>⟨#[],by rw[e];simp⟩) (λm f=> ?_) (λp u e=> ?_) I.bare
 .obtain ⟨o,es,ep,g,r⟩:=f;exact⟨o,es,ep,k _ o (λz=>(c _ z).2.1 rfl) g,r⟩
 .refine (I.hok p u e).stay (λq v h i=>k q v ?_ i) (λ_ q=>q) λ_ _ q=>q;rcases h with z|z
  .rw [z];exact d p u e
  .exact d q _ z
def Inv.turnedN {ch:zy zu}{t':Nat}{n:zu}{o:HO}(I:Inv X zj σ H s)(c:∀p∈ch,Fd X zj H p)(l:∀p∈ch,p<s.heap.objs.size)(k:∀p o,p ∉ ch->s.heap.get? p=some o->h'.get? p=some o)(g:s.heap.objs.size<=n)(new:CM X.prog X.w (upd H n o) h' n o):Inv X zj σ (upd H n o) {s with heap:=h',toks:=t'}:=by
 have h:Inv X zj σ H {s with heap:=h',toks:=t'}:=I.turnedL c k;have d:H n=none:=I.hok.fresh g;have hx:∀p u,s.heap.get? p=some u->p≠n:=λp u e=>AAK (AAP (AAF e) g);refine I.step (g':=s.gens) (d':=s.drawn) (ch:=ch) (λp hp=>⟨(c p hp).2.2.2.1,(c p hp).2.1,(c p hp).2.2.2.2.1,(c p hp).2.2.2.2.2⟩) (λp o _ _ hc e _=>k p o hc e) (λp o _ _ hc e _=>⟨o.slots,k p o hc e⟩)
  (λp u _ e z=>by rw[Ag (hx p u e)];exact z) (λp o hc e=>⟨o,k p o hc e⟩) (λp xs e=>by rw[Ag (Au e d)];exact e) (λp o xs e=>by rw[Ag (Au e d)];exact e)
  (λp ps e=>⟨#[],by rw[Ag (Au e d),e];simp⟩) (λm i=> ?_) (λp u e=> ?_) I.bare
 .obtain ⟨o,es,ep,j,r⟩:=i;exact⟨o,es,ep,k _ o (λz=>(c _ z).2.1 rfl) j,r⟩
 .by_cases hp:p=n
  .subst hp;rw[Ah] at e;cases e;exact new
  .rw [Ag hp] at e;exact(h.hok p u e).stay (λ_ _ _ q=>q) (λq f=>by rw[Ag (Au f d)];exact f) λq xs f=>by rw[Ag (Au f d)];exact f
end
def pQ (K:AAB)(b c:zq)(l m:zu):It:=
 ⟨λi H=>∃xs a x y,Sq K b H l xs/\Sq K c H m a/\xs[i]? =some x/\a[i]? =some y,
  λi H v d=>∃T x y,v= .ref T/\H T=none/\d=upd H T (.tup [x,y])/\(∀xs,Sq K b H l xs->xs[i]? =some x)/\∀a,Sq K c H m a->a[i]? =some y,
  λi H=>∃xs a,Sq K b H l xs/\Sq K c H m a/\(xs.length<=i\/a.length<=i)⟩
def bR {P:zp}{w:zm}{K:AAB}{es:zy zr}{N:Nat}{pos:Pos}{b c:zq}{z TI TO i j l m:zu}(D:ZipApart z TI TO i j l m):Jf P w K (.Tuple es N pos) (pQ K b c l m) [z,TI,TO,i,j] z (λk h=>gP b c z TI TO i j l m k .none h) where
 mem:=by simp
 obj:=λk h Z p hp=>by
  have a:p=z\/p=TI\/p=TO\/p=i\/p=j:=by simpa using hp
  rcases a with e|e|e|e|e
  .subst e;exact⟨_,Z.zip,λv q=>nomatch q⟩
  .subst e;exact⟨_,Z.its,λv q=>nomatch q⟩
  .subst e;obtain⟨x,y,q⟩:=Z.own;exact⟨_,q,λv q=>nomatch q⟩
  .subst e;exact Z.one.obj
  .subst e;exact Z.two.obj
 keep:=λk h h' Z e=>Z.mv e
 item:=by
  intro X r hw t hc k G s J H E I g Z A;subst r hw t;obtain⟨xs,O,x,y,hl,n,hx,L⟩:=A;obtain⟨M,B,C,_⟩:=I.sq hl;obtain⟨vs,rv,sv,_⟩:=I.sq n;obtain⟨u,hu,Q⟩:=B.get hx;obtain⟨v,hv,R⟩:=rv.get L;have f:s.TypeIs (.ref z) "zip" :=⟨_,Z.zip,rfl⟩;unfold pyNext;refine AAA (ACs (ABX (name:=Str.ofString "__next__") f ABb (AA0 ABb f ACt
   (oB D Z C sv (x:=u) (y:=v) (by simpa using hu) (by simpa using hv) λh1 S U W Y a5 a6 a7=>AAC ?_) (ACu _))))
  refine⟨_,rfl,wpAny_letOwnedTupleGo_zip (s:={s with heap:=h1}) S λh2 c1 c2=> ?_⟩;have F:∀p∈ [z,TI,TO,i,j],p<s.heap.objs.size:=λp hp=>by
   have a:p=z\/p=TI\/p=TO\/p=i\/p=j:=by simpa using hp
   rcases a with e|e|e|e|e
   .subst e;exact AAF Z.zip
   .subst e;exact AAF Z.its
   .subst e;obtain⟨x,y,q⟩:=Z.own;exact AAF q
   .subst e;obtain⟨o,q,_⟩:=Z.one.obj;exact AAF q
   .subst e;obtain⟨o,q,_⟩:=Z.two.obj;exact AAF q
  have d:∀p o,p≠z->h1.get? p=some o->h2.get? p=some o:=λp o q e=>c2.extBut _ _ q e;have kp:∀p o,p ∉ [z,TI,TO,i,j] ->s.heap.get? p=some o->h2.get? p=some o:=λp o hp e=>by
   have a:p≠z/\p≠TI/\p≠TO/\p≠i/\p≠j:=by simpa using hp
   exact d p o a.1 (a7 p o a.1 a.2.2.1 a.2.2.2.1 a.2.2.2.2 e)
  have qZ:s.heap.objs.size≠z:=AAj (F z (by simp));have I2:Inv X G J (upd H s.heap.objs.size (.tup [x,y])) {s with heap:=h2,toks:=s.toks}:=I.turnedN g F kp (AAJ _)
   ⟨(by show 2<=sizeLine;decide), [u,v], .cons Q (.cons R .nil),⟨_,d _ _ qZ a6,rfl,_,rfl⟩⟩
  have Uh:H s.heap.objs.size=none:=I.fresh;refine⟨.ref s.heap.objs.size,upd H s.heap.objs.size (.tup [x,y]),I2,rfl,⟨_,x,y,rfl,Uh,rfl,λxs' h'=> ?_,λys' h'=> ?_⟩, ?_,λp hp=> ?_⟩
  .rw [I.sq_inj h' hl];exact hx
  .rw [I.sq_inj h' n];exact L
  .exact ⟨c1,d _ _ D.TIz U,⟨_,_,d _ _ D.TOz W⟩,Y.mv λo=>d _ o D.i1z,a5.mv λo=>d _ o D.i2z⟩
  .rw [Ag (AAK (F p hp))];exact(g p hp).1
 done:=by
  intro X r hw t hc k G s J H E I g Z A;subst r hw t;obtain⟨xs,O,hl,n,he⟩:=A;obtain⟨M,B,C,_⟩:=I.sq hl;obtain⟨vs,rv,sv,_⟩:=I.sq n;have e1:=B.length;have e2:=rv.length;have gv:M.toArray[k]? =none\/vs.toArray[k]? =none:=by
   rcases he with q|q
   .exact .inl (by simp;omega)
   .exact .inr (by simp;omega)
  have f:s.TypeIs (.ref z) "zip" :=⟨_,Z.zip,rfl⟩;unfold pyNext;refine AAA (ACs (ABX (name:=Str.ofString "__next__") f ABb (AA0 ABb f ACt
   (sS (I.ok.hd hc) D Z C sv gv λh1 e hk he=> ?_) (ACu _))))
  obtain⟨o,ho,lM⟩:=he;refine AAA (AB7 (T:="StopIteration") (b:=true) ⟨o,ho,lM⟩ isSubtype_stop (AAC ⟨rfl, ?_⟩));exact I.turnedL (t':=s.toks) g λp o hp e=>by
   have a:p≠z/\p≠TI/\p≠TO/\p≠i/\p≠j:=by simpa using hp
   exact hk p o a.1 a.2.2.1 a.2.2.2.1 a.2.2.2.2 e
 self:=λ_ _ _ _ _ Z h=>ACv Z.zip h
structure Has (P:Program) (w:World) (K:AAB) (mg:Str->Option Value) (base:Heap) (k:Nat) (x:Str) (ps:List Str) (sp:Sp):Prop where
 ex:∃f fd,mg x=some (.ref f)/\PySem.W.keepIn K (.ref f)=true/\Binds K fd ps [] /\Dg P w K mg base MC k f fd ps sp
def Has.mono {P:zp}{w:zm}{K:AAB}{mg:Str->zt zx}{base:zl}{j k:Nat}{x:Str}{ps:zy Str}{sp:Sp}(h:Has P w K mg base j x ps sp)(hk:j<=k):Has P w K mg base k x ps sp:=by obtain⟨f,e,a,b,c,d⟩:=h.ex;exact⟨f,e,a,b,c,d.mono hk⟩
section
variable {X:Cx}{x:Str}{p pos:Pos}{e:zr}{es:zy zr}{t:TA}{k:Nat}{ps:zy Str}{sp:Sp}
def ir (D:Has X.prog X.w X.K X.mg X.base k x ps sp)(a:Room k X.A)(b:Gl X x)(ha:PA X (e::es) t)(hs:starEach (e::es) X.env=(false,eval e X.env)::starEach es X.env:=by rfl)(hpl:(backTo pos (starEach es X.env)).any (·.1)=false:=by rfl)(hd:(x==("__debug__" :Str))=false:=by decide):PE X (.Call (.Name x p) (e::es) [] pos) (bH sp [] E0 t):=by obtain⟨f,h,c,d,g,G⟩:=D.ex;exact Wb G a b c d g .nil fX ha (hdb:=hd) (he:=hs) (hpl:=hpl)
end
section
variable {X:Cx}{tg elt:zr}{ifs:zy zr}{scope:Scope}{own:Nat}{ix:zy Nat}{N:zy Str}{g:TG}{tt:TT}{te:TE}
def UW (X:Cx)(sc:Scope)(own:Nat)(ix:zy Nat)(N:zy Str):zq:=
 (List.range ix.length).all λj=>match ix[j]? with
   | none=>false
   | some i=>match N[own+j]?,X.N[i]? with
     | some x,some y=>decide (x=y)&&decide (X.env.scope.names.lookup x=some .cell)&&decide (sc.names.lookup x=some .cell)
     | _,_=>false
def ZP {sc:Scope}(h1:N.length=own+ix.length)(h2:UW X sc own ix N=true):Yq X sc own ix N:=by
 refine⟨h1,λj i hj=> ?_⟩;have c:j<ix.length:=(AA1.mp hj).1;have h:=ACw.mp h2 j (ABm.mpr c);rw[hj] at h;dsimp only at h;cases a:N[own+j]? with
 | none=>rw[a] at h;simp at h
 | some x=>
   cases b:X.N[i]? with
   | none=>rw[a,b] at h;simp at h
   | some y=> rw[a,b] at h;simp only[AAx,ACY] at h;obtain⟨⟨h3,d⟩,e⟩:=h;subst h3;exact⟨x,rfl,rfl,d,e⟩
def V0 (h1:scope.kind= .function)(h2:(scope.names.all λy=> !decide (y.2= .cell))=true)(h3:(scope.names.all λy=> !decide (y.2= .local)||decide (scope.names.lookup y.1=some .local))=true)(d:(scope.names.all λy=> !decide (y.2= .free)||decide (X.env.scope.names.lookup y.1=some .cell))=true)(f:N.length=own+ix.length)(h:UW X (relabel scope X.env) own ix N=true)(hk:MP own g)(b:∀cl C s H ex pn,PG (blk X (relabel scope X.env) N cl C s H ex pn) tg g)(c:∀cl C s H ex pn,fJ (blk X (relabel scope X.env) N cl C s H ex pn) ifs tt)(val:∀cl C s H ex pn,PE (blk X (relabel scope X.env) N cl C s H ex pn) elt te):Fa X tg elt ifs scope own ix N g tt te:=by
 refine⟨h1,λy a e=> ?_,λy a e=> ?_,λy a e=> ?_,ZP f h,hk,b,c,val⟩
 .have:=ACw.mp h2 y a;simp[e] at this
 .have:=ACw.mp h3 y a;simpa[e] using this
 .have:=ACw.mp d y a;simpa[e] using this
end
def Rs.new {H:Hp}{p:zu}{o:HO}(h:H p=none):Rs H (upd H p o):=λb u q=>by rw[Ag (Au q h)];exact q
def pE (p:zu)(H a:Hp):Prop:=∀b o,b≠p->H b=some o->a b=some o
def Rs.but {p:zu}{H H1:Hp}(a:Rs H H1):pE p H H1:=λc o _ h=>a c o h
def pE.upd {p:zu}{H:Hp}{o:HO}:pE p H (upd H p o):=λb u n q=>by rw[Ag n];exact q
end L2
namespace PL
open PySem PySem.Spec PyProof.Rows L2
inductive PV where
 | non|bl (b:Bool)|int (i:Int)|str (x:Str)|ty (n:String)
 | tup (xs:List PV)|lst (xs:List PV)|tape|scr (ns:List Int)|dct (kvs:List (FK×Int))|dk (kvs:List (Int×Int))
def E7 (H:Hp)(p:zu):Prop:=∃d x:Int,H p=some (.lst [.int d, .int x])/\0<=d/\0<=x/\x<2147483647
def K6 (o:HO):Prop:=(∀vs,o≠ .tup vs)/\∀q u,o≠ .frz q u
def K6.lst {xs:zy V}:K6 (.lst xs):=⟨(λ_ e=>nomatch e),(λ_ _ e=>nomatch e)⟩
def E7.mut {H:Hp}{p:zu}(h:E7 H p):∃o,H p=some o/\K6 o:=by obtain⟨d,x,e,_⟩:=h;exact⟨_,e,K6.lst⟩
def oH (K:AAB)(H:Hp)(a:zu)(xs:zy V):Prop:=H a=some (.tup xs)\/∃(o:Obj) (b:Array zx) (n:Nat),K.lookup a=some o/\o.cls= .type "tuple" /\o.data= .seq b n/\b.size<=sizeLine/\Ay xs b.toList
def oH.sq {K:AAB}{H:Hp}{a:zu}{xs:zy V}(h:oH K H a xs):Nh K H a xs:=h.elim (λz=> .inl (.inl z)) .inr
def lp (kvs:zy (FK×Int)):zy (FK×V):=kvs.map λp=>(p.1,V.int p.2)
def FQ (kvs:zy (Int×Int)):zy (B4×V):=kvs.map λp=>(.inl p.1,V.int p.2)
mutual
inductive CZ (K:AAB) (T M:Addr->Prop) (H:Hp):V->PV->Prop where
 | non:CZ K T M H .non .non
 | bl (b:Bool):CZ K T M H (.bl b) (.bl b)
 | int (i:Int):CZ K T M H (.int i) (.int i)
 | str (x:Str):CZ K T M H (.str x) (.str x)
 | ty (n:String):CZ K T M H (.ty n) (.ty n)
 | tup {a:Addr} {vs:List V} {xs:List PV} (h:oH K H a vs) (r:A3 K T M H vs xs):CZ K T M H (.ref a) (.tup xs)
 | lst {a:Addr} {vs:List V} {xs:List PV} (h:H a=some (.lst vs)) (t:¬T a) (m:¬M a) (r:A3 K T M H vs xs):CZ K T M H (.ref a) (.lst xs)
 | tape {a:Addr} (t:T a):CZ K T M H (.ref a) .tape
 | dct {a:Addr} {kvs:List (FK×Int)} (h:H a=some (.dN K (lp kvs))) (t:¬T a) (m:¬M a):CZ K T M H (.ref a) (.dct kvs)
 | dk {a:Addr} {o:Obj} {es:Array DictEntry} {ep:Nat} {kvs:List (Int×Int)} (h:H a=some (.frz o (.dK (FQ kvs)))) (e:o.data= .dict es ep):CZ K T M H (.ref a) (.dk kvs)
 | scr {a:Addr} {ns:List Int} (h:(Rd H a (.lst (ns.map V.int))/\¬T a/\¬M a)\/∀H,Fe K H a (ns.map V.int)):CZ K T M H (.ref a) (.scr ns)
inductive A3 (K:AAB) (T M:Addr->Prop) (H:Hp):List V->List PV->Prop where
 | nil:A3 K T M H [] []
 | cons {v:V} {x:PV} {vs:List V} {xs:List PV} (h:CZ K T M H v x) (t:A3 K T M H vs xs):A3 K T M H (v::vs) (x::xs)
end
structure Jg (T M:Addr->Prop) (H:Hp):Prop where
 tp:∀a,T a->E7 H a
 mu:∀a,M a->∃o,H a=some o/\K6 o
def Jg.noFrz {T M:zu->Prop}{H:Hp}(v:Jg T M H){a:zu}{q:Obj}{u:HO}(r:H a=some (.frz q u)):¬T a/\¬M a:=by
 refine⟨λz=> ?_,λz=> ?_⟩
 .obtain ⟨o,e,_,n⟩:=(v.tp a z).mut;rw[r] at e;cases e;exact n _ _ rfl
 .obtain ⟨o,e,_,n⟩:=v.mu a z;rw[r] at e;cases e;exact n _ _ rfl
def Jg.noTup {T M:zu->Prop}{H:Hp}(v:Jg T M H){a:zu}{vs:zy V}(r:Rd H a (.tup vs)):¬T a/\¬M a:=by
 have go:∀o,H a=some o->K6 o->False:=λo e m=>by
  rcases r with r|⟨q,r⟩
  .rw [e] at r;cases r;exact m.1 _ rfl
  .rw [e] at r;cases r;exact m.2 _ _ rfl
 exact⟨λt=>let ⟨o,e,m⟩:=(v.tp a t).mut;go o e m,λt=>let ⟨o,e,m⟩:=v.mu a t;go o e m⟩
structure Mv (K:AAB) (T M:Addr->Prop) (H:Hp) (T' M':Addr->Prop) (H':Hp):Prop where
 va:Jg T M H
 keep:∀b o,¬T b->¬M b->H b=some o->H' b=some o
 sub:∀b,T b->T' b
 tn:∀b,H b≠none->T' b->T b
 mn:∀b,H b≠none->M' b->M b
def Wj {H:Hp}{a:zu}{u:HO}(r:Rd H a u):H a≠none:=by rcases r with r|⟨o,r⟩ <;> rw[r] <;> exact λe=>nomatch e
def nB {H b:Hp}{a:zu}{u:HO}(r:Rd H a u)(k:∀o,H a=some o->b a=some o):Rd b a u:=by
 rcases r with r|⟨o,r⟩
 .exact .inl (k _ r)
 .exact .inr ⟨o,k _ r⟩
section
variable {K:AAB}{T M T' M':zu->Prop}{H H':Hp}
mutual
theorem CZ.mv (m:Mv K T M H T' M' H'):∀{v:V} {x:PV},CZ K T M H v x->CZ K T' M' H' v x
 | _,_, .non=> .non
 | _,_, .bl b=> .bl b
 | _,_, .int i=> .int i
 | _,_, .str x=> .str x
 | _,_, .ty n=> .ty n
 | _,_, .tup (a:=a) (vs:=vs) h r=>by
   refine .tup (vs:=vs) ?_ (A3.mv m r);rcases h with h|h
   .obtain ⟨t,u⟩:=m.va.noTup (.inl h);exact .inl (m.keep _ _ t u h)
   .exact .inr h
 | _,_, .lst (a:=a) h t u r=> .lst (m.keep _ _ t u h) (λz=>t (m.tn a (by rw[h];exact λe=>nomatch e) z)) (λz=>u (m.mn a (by rw[h];exact λe=>nomatch e) z)) (A3.mv m r)
 | _,_, .tape t=> .tape (m.sub _ t)
 | _,_, .dct (a:=a) h t u=> .dct (m.keep _ _ t u h) (λz=>t (m.tn a (by rw[h];exact λe=>nomatch e) z)) (λz=>u (m.mn a (by rw[h];exact λe=>nomatch e) z))
 | _,_, .dk h e=>by obtain⟨t,u⟩:=m.va.noFrz h;exact .dk (m.keep _ _ t u h) e
 | _,_, .scr (a:=a) (.inl ⟨h,t,u⟩)=> .scr (.inl ⟨nB h λo e=>m.keep _ o t u e,λz=>t (m.tn a (Wj h) z),λz=>u (m.mn a (Wj h) z)⟩)
 | _,_, .scr (.inr h)=> .scr (.inr h)
theorem A3.mv (m:Mv K T M H T' M' H'):∀{vs:zy V} {xs:zy PV},A3 K T M H vs xs->A3 K T' M' H' vs xs
 | _,_, .nil=> .nil
 | _,_, .cons h t=> .cons (CZ.mv m h) (A3.mv m t)
end
end
def A3.length {K:AAB}{T M:zu->Prop}{H:Hp}:∀{vs:zy V} {xs:zy PV},A3 K T M H vs xs->vs.length=xs.length
 | _,_, .nil=>rfl
 | _,_, .cons _ t=>by simp[t.length]
theorem A3.get {K:AAB}{T M:zu->Prop}{H:Hp}:∀{vs:zy V} {xs:zy PV} {i:Nat} {x:PV},A3 K T M H vs xs->xs[i]? =some x->∃v,vs[i]? =some v/\CZ K T M H v x
 | _,_,_,_, .nil,e=>by simp at e
 | _,_,0,_, .cons h _,e=>by simp at e;subst e;exact⟨_,rfl,h⟩
 | _,_,i+1,x, .cons _ t,e=>by obtain⟨u,h1,h2⟩:=A3.get (i:=i) (x:=x) t (by simpa using e);exact⟨u,by simpa using h1,h2⟩
def A3.get' {K:AAB}{T M:zu->Prop}{H:Hp}{vs:zy V}{xs:zy PV}{i:Nat}{v:V}(h:A3 K T M H vs xs)(e:vs[i]? =some v):∃x,xs[i]? =some x/\CZ K T M H v x:=by have hl:=h.length;have hi:i<vs.length:=(AA1.mp e).1;obtain⟨w,a,r⟩:=h.get (i:=i) (x:=xs[i]'(by omega)) (AAd (by omega));rw[e] at a;cases a;exact⟨_,AAd (by omega),r⟩
def A3.append {K:AAB}{T M:zu->Prop}{H:Hp}:∀{vs a:zy V} {xs b:zy PV},A3 K T M H vs xs->A3 K T M H a b->A3 K T M H (vs++a) (xs++b)
 | _,_,_,_, .nil,s=>s
 | _,_,_,_, .cons h t,s=> .cons h (t.append s)
def A3.take {K:AAB}{T M:zu->Prop}{H:Hp}:∀{vs:zy V} {xs:zy PV} (n:Nat),A3 K T M H vs xs->A3 K T M H (vs.take n) (xs.take n)
 | _,_,0,_=> .nil
 | _,_,_+1, .nil=> .nil
 | _,_,n+1, .cons r t=> .cons r (t.take n)
def A3.drop {K:AAB}{T M:zu->Prop}{H:Hp}:∀{vs:zy V} {xs:zy PV} (n:Nat),A3 K T M H vs xs->A3 K T M H (vs.drop n) (xs.drop n)
 | _,_,0,r=>r
 | _,_,_+1, .nil=> .nil
 | _,_,n+1, .cons _ t=>t.drop n
theorem A3.set {K:AAB}{T M:zu->Prop}{H:Hp}{v:V}{x:PV}(r:CZ K T M H v x):∀{vs:zy V} {xs:zy PV} (i:Nat),A3 K T M H vs xs->A3 K T M H (vs.set i v) (xs.set i x)
 | _,_,_, .nil=> .nil
 | _,_,0, .cons _ t=> .cons r t
 | _,_,i+1, .cons q t=> .cons q (A3.set r i t)
def A3.reverse {K:AAB}{T M:zu->Prop}{H:Hp}{vs:zy V}{xs:zy PV}(h:A3 K T M H vs xs):A3 K T M H vs.reverse xs.reverse:=by
 induction vs generalizing xs with
 | nil=>cases h;exact .nil
 | cons v vs a=>
   cases h with
   | cons h t=>rw[ACo,ACo];exact(a t).append (.cons h .nil)
structure C3 (T:Addr->Prop) (H:Hp) (T':Addr->Prop) (H':Hp):Prop where
 keep:∀b o,¬T b->H b=some o->H' b=some o
 sub:∀b,T b->T' b
 new:∀b,T' b->T b\/H b=none
 tp:∀a,T' a->E7 H' a
def C3.refl {T:zu->Prop}{H:Hp}(h:∀a,T a->E7 H a):C3 T H T H:=⟨λ_ _ _ e=>e,λ_ e=>e,λ_ e=> .inl e,h⟩
def C3.some {T c:zu->Prop}{H a:Hp}(s:C3 T H c a){b:zu}(h:H b≠none):a b≠none:=by
 by_cases t:T b
 .obtain ⟨o,e,_⟩:=(s.tp b (s.sub b t)).mut;rw[e];exact λe=>nomatch e
 .cases e:H b with
  | none=>exact absurd e h
  | some o=>rw[s.keep b o t e];exact λe=>nomatch e
def C3.none {T c:zu->Prop}{H a:Hp}(s:C3 T H c a){b:zu}(h:a b=none):H b=none:=by
 cases e:H b with
 | none=>rfl
 | some o=>exact absurd h (s.some (by rw[e];exact λe=>nomatch e))
def C3.trans {T T1 d:zu->Prop}{H H1 f:Hp}(a:C3 T H T1 H1)(b:C3 T1 H1 d f):C3 T H d f where
 keep:=λc o t e=>b.keep c o (λz=>(a.new c z).elim t λn=>by rw[n] at e;cases e) (a.keep c o t e)
 sub:=λc t=>b.sub c (a.sub c t)
 new:=λc t=>(b.new c t).elim (λz=>a.new c z) λz=> .inr (a.none z)
 tp:=b.tp
def C3.lay {T:zu->Prop}{H:Hp}{p:zu}{o:HO}(h:∀a,T a->E7 H a)(hp:H p=Option.none):C3 T H T (upd H p o) where
 keep:=λb u _ e=>by rw[Ag (Au e hp)];exact e
 sub:=λ_ t=>t
 new:=λ_ t=> .inl t
 tp:=λa t=>by obtain⟨d,x,e,z⟩:=h a t;exact⟨d,x,by rw[Ag (Au e hp)];exact e,z⟩
def C3.mv {K:AAB}{T a M:zu->Prop}{H c:Hp}(s:C3 T H a c)(v:Jg T M H):Mv K T M H a M c where
 va:=v
 keep:=λb o t _ e=>s.keep b o t e
 sub:=s.sub
 tn:=λb n t=>(s.new b t).elim id λz=>absurd z n
 mn:=λ_ _ z=>z
def CZ.stp {K:AAB}{T a M:zu->Prop}{H b:Hp}{v:V}{x:PV}(r:CZ K T M H v x)(s:C3 T H a b)(va:Jg T M H):CZ K a M b v x:=r.mv (s.mv va)
def A3.stp {K:AAB}{T a M:zu->Prop}{H b:Hp}{v:zy V}{x:zy PV}(r:A3 K T M H v x)(s:C3 T H a b)(va:Jg T M H):A3 K a M b v x:=r.mv (s.mv va)
def Mv.anti {K:AAB}{T M c:zu->Prop}{H:Hp}(v:Jg T M H)(h:∀a,c a->M a):Mv K T M H T c H:=⟨v,λ_ _ _ _ e=>e,λ_ t=>t,λ_ _ t=>t,λb _ t=>h b t⟩
inductive AV where
 | val (x:PV)
 | own (xs:List PV)
abbrev BE:=zy (zt AV)
structure Ct where
 T:Addr->Prop
 H:Hp
 M:Addr->Prop
def Ct.add (B:Ct)(p:zu):Ct:=⟨B.T,B.H,λa=>B.M a\/a=p⟩
def Cf (a:L2.St)(τ:BE)(p:zu):Prop:=∃(i:Nat) (xs:zy PV),τ[i]? =some (some (.own xs))/\a[i]? =some (some (.ref p))
def mt (B:Ct)(a:L2.St)(τ:BE)(p:zu):Prop:=B.M p\/Cf a τ p
structure SR (K:AAB) (B:Ct) (T:Addr->Prop) (H:Hp) (σ:L2.St) (τ:BE):Prop where
 len:σ.length=τ.length
 val:∀(i:Nat) (x:PV),τ[i]? =some (some (.val x))->∃v,σ[i]? =some (some v)/\CZ K T (mt B σ τ) H v x
 own:∀(i:Nat) (xs:List PV),τ[i]? =some (some (.own xs))->∃p vs,σ[i]? =some (some (.ref p))/\H p=some (.lst vs)/\A3 K T (mt B σ τ) H vs xs/\B.H p=none/\¬T p/\¬B.M p
 dist:∀(i j:Nat) (xs ys:List PV) (p:Addr),τ[i]? =some (some (.own xs))->τ[j]? =some (some (.own ys))->σ[i]? =some (some (.ref p))->σ[j]? =some (some (.ref p))->i=j
 tp:∀a,T a->E7 H a
 bm:∀a,B.M a->∃o,H a=some o/\K6 o
 bt:∀a,B.M a->¬T a
 st:C3 B.T B.H T H
section
variable {K:AAB}{B:Ct}{T T':zu->Prop}{H H':Hp}{σ:L2.St}{τ:BE}
def SR.ownH (s:SR K B T H σ τ){p:zu}(o:Cf σ τ p):∃vs,H p=some (.lst vs)/\B.H p=none/\¬T p/\¬B.M p:=by obtain⟨i,xs,h1,h2⟩:=o;obtain⟨q,vs,e,h,_,b,t,m⟩:=s.own i xs h1;rw[h2] at e;cases e;exact⟨vs,h,b,t,m⟩
def SR.va (s:SR K B T H σ τ):Jg T (mt B σ τ) H:=⟨s.tp,λa m=>m.elim (s.bm a) λo=>let ⟨vs,h,_⟩:=s.ownH o;⟨_,h,K6.lst⟩⟩
def SR.nt (s:SR K B T H σ τ){a:zu}(m:mt B σ τ a):¬T a:=m.elim (s.bt a) λo=>let ⟨_,_,_,t,_⟩:=s.ownH o;t
def SR.stp (s:SR K B T H σ τ)(p:C3 T H T' H'):SR K B T' H' σ τ where
 len:=s.len
 val:=λi x e=>let ⟨v,h,r⟩:=s.val i x e;⟨v,h,r.stp p s.va⟩
 own:=λi xs e=>by obtain⟨q,vs,c,h,r,b,t,m⟩:=s.own i xs e;exact⟨q,vs,c,p.keep _ _ t h,r.stp p s.va,b,(λz=>(p.new q z).elim t λn=>by rw[n] at h;cases h),m⟩
 dist:=s.dist
 tp:=p.tp
 bm:=λa m=>let ⟨o,e,q⟩:=s.bm a m;⟨o,p.keep a o (s.bt a m) e,q⟩
 bt:=λa m z=>by obtain⟨o,e,_⟩:=s.bm a m;exact(p.new a z).elim (s.bt a m) λn=>by rw[n] at e;cases e
 st:=s.st.trans p
def SR.add {p:zu}{o:HO}(s:SR K B T H σ τ)(q:C3 T H T' H')(f:H p=none)(k:H' p=some o)(l:K6 o)(u:¬T' p):SR K (B.add p) T' H' σ τ:=by
 have c:=s.stp q;have g:Mv K T (mt B σ τ) H T' (mt (B.add p) σ τ) H':=⟨s.va,λb o t _ e=>q.keep b o t e,q.sub,λb n t=>(q.new b t).elim id λz=>absurd z n,λb n z=>by
  rcases z with(z|z)|z
  .exact .inl z
  .subst z;exact absurd f n
  .exact .inr z⟩
 refine⟨s.len,λi x e=> ?_,λi xs e=> ?_,s.dist,c.tp,λa m=> ?_,λa m=> ?_,c.st⟩
 .obtain ⟨v,h,r⟩:=s.val i x e;exact⟨v,h,r.mv g⟩
 .obtain ⟨a,vs,j,h,r,b,t,m⟩:=s.own i xs e;obtain⟨y,w,d,h',_,b',t',A⟩:=c.own i xs e;rw[j] at d;cases d;rw[q.keep _ _ t h] at h';cases h';refine⟨a,vs,j,q.keep _ _ t h,r.mv g,b,t',λz=> ?_⟩;rcases z with z|z
  .exact m z
  .subst z;rw[f] at h;cases h
 .rcases m with m|m
  .exact c.bm a m
  .subst m;exact⟨o,k,l⟩
 .rcases m with m|m
  .exact c.bt a m
  .subst m;exact u
end
def gi:zt AV->zt AV
 | some (.own xs)=>some (.val (.lst xs))
 | o=>o
def frz (τ:BE):BE:=τ.map gi
def V9 {τ:BE}{i:Nat}:(frz τ)[i]? =(τ[i]?).map gi:=by simp[frz]
def cg {τ:BE}{i:Nat}{x:PV}(h:(frz τ)[i]? =some (some (.val x))):τ[i]? =some (some (.val x))\/∃xs,x= .lst xs/\τ[i]? =some (some (.own xs)):=by
 rw[V9] at h;cases e:τ[i]? with
 | none=>rw[e] at h;cases h
 | some o=>
   rw[e] at h;cases o with
   | none=>cases h
   | some a=>
     cases a with
     | val y=>cases h;exact .inl rfl
     | own xs=>cases h;exact .inr ⟨xs,rfl,rfl⟩
def QA {τ:BE}{i:Nat}{xs:zy PV}:(frz τ)[i]? ≠some (some (.own xs)):=by
 rw[V9];cases e:τ[i]? with
 | none=>exact λz=>nomatch z
 | some o=>
   cases o with
   | none=>exact λz=>nomatch z
   | some a=>cases a <;> exact λz=>nomatch z
def S4 {a:L2.St}{τ:BE}{p:zu}:¬Cf a (frz τ) p:=λ⟨_,_,h,_⟩=>QA h
section
variable {K:AAB}{B:Ct}{T T':zu->Prop}{H H':Hp}{σ:L2.St}{τ:BE}
def SR.frz (s:SR K B T H σ τ):SR K B T H σ (frz τ):=by
 have c:Mv K T (mt B σ τ) H T (mt B σ (PL.frz τ)) H:= .anti s.va λa m=>m.elim .inl λz=>absurd z S4;refine⟨by simp[PL.frz,s.len],λi x e=> ?_,λi xs e=>absurd e QA,λi j xs g p e=>absurd e QA,s.tp,s.bm,s.bt,s.st⟩;rcases cg e with e'|⟨xs,d,e'⟩
 .obtain ⟨v,h,r⟩:=s.val i x e';exact⟨v,h,r.mv c⟩
 .subst d;obtain⟨p,vs,f,h,r,b,t,m⟩:=s.own i xs e';exact⟨.ref p,f, .lst h t (λz=>z.elim m S4) (r.mv c)⟩
end
mutual
def cB:PV->zq
 | .lst _=>false
 | .tape=>false
 | .scr _=>false
 | .dct _=>false
 | .tup xs=>X2 xs
 | _=>true
def X2:zy PV->zq
 | [] =>true
 | x::xs=>cB x&&X2 xs
end
section
variable {K:AAB}{T M M':zu->Prop}{H:Hp}
mutual
theorem CZ.free:∀{v:V} {x:PV},cB x=true->CZ K T M H v x->CZ K T M' H v x
 | _,_,_, .non=> .non
 | _,_,_, .bl b=> .bl b
 | _,_,_, .int i=> .int i
 | _,_,_, .str x=> .str x
 | _,_,_, .ty n=> .ty n
 | _,_,n, .tup h r=> .tup h (A3.free (by rw[cB] at n;exact n) r)
 | _,_,n, .lst _ _ _ _=>by rw[cB] at n;cases n
 | _,_,n, .tape _=>by rw[cB] at n;cases n
 | _,_,n, .scr _=>by rw[cB] at n;cases n
 | _,_,n, .dct _ _ _=>by rw[cB] at n;cases n
 | _,_,_, .dk h e=> .dk h e
theorem A3.free:∀{vs:zy V} {xs:zy PV},X2 xs=true->A3 K T M H vs xs->A3 K T M' H vs xs
 | _,_,_, .nil=> .nil
 | _,_,n, .cons h t=>by rw[X2,AAx] at n;exact .cons (CZ.free n.1 h) (A3.free n.2 t)
end
end
abbrev AE:=BE->(PV->Prop)->Prop
abbrev AT:=BE->(zq->Prop)->Prop
abbrev AA:=BE->(zy PV->Prop)->Prop
abbrev AF:=zy PV->(PV->Prop)->Prop
def RX:BE->Nat->zt AV
 | [],_=>none
 | x::_,0=>x
 | _::r,n+1=>RX r n
theorem My:∀{τ:BE} {i:Nat} {a:AV},RX τ i=some a->τ[i]? =some (some a)
 | [],_,_,h=>by simp[RX] at h
 | x::_,0,_,h=>by simpa[RX] using h
 | _::r,n+1,a,h=>by have:=My (τ:=r) (i:=n) (a:=a) (by simpa[RX] using h);simpa using this
def RY (x:PV)(R:Int->Prop):Prop:=match x with | .int i=>R i|_=>False
def iU (x y:PV)(R:Int->Int->Prop):Prop:=match x,y with | .int i, .int j=>R i j|_,_=>False
def cC (x:PV)(R:zq->Prop):Prop:=match x with | .bl b=>R b|_=>False
def cD (o:zt PV)(R:PV->Prop):Prop:=match o with | some z=>R z|none=>False
def iW {o:zt PV}{R:PV->Prop}(h:cD o R):∃z,o=some z/\R z:=by cases o <;> first | exact⟨_,rfl,h⟩|exact h.elim
def M6 (x:PV)(R:zy PV->Prop):Prop:=match x with | .tup xs=>R xs | .lst xs=>R xs|_=>False
def GQ {x:PV}{R:Int->Prop}(h:RY x R):∃i,x= .int i/\R i:=by cases x <;> first | exact⟨_,rfl,h⟩|exact h.elim
def Ql {x y:PV}{R:Int->Int->Prop}(h:iU x y R):∃i j,x= .int i/\y= .int j/\R i j:=by cases x <;> cases y <;> first | exact⟨_,_,rfl,rfl,h⟩|exact h.elim
def Qk {x:PV}{R:zq->Prop}(h:cC x R):∃b,x= .bl b/\R b:=by cases x <;> first | exact⟨_,rfl,h⟩|exact h.elim
def GR {x:PV}{R:zy PV->Prop}(h:M6 x R):∃xs,(x= .tup xs\/x= .lst xs)/\R xs:=by cases x <;> first | exact⟨_, .inl rfl,h⟩|exact⟨_, .inr rfl,h⟩|exact h.elim
def CZ.toI {K:AAB}{T M:zu->Prop}{H:Hp}{v:V}{i:Int}(r:CZ K T M H v (.int i)):v= .int i:=by cases r;rfl
def CZ.toB {K:AAB}{T M:zu->Prop}{H:Hp}{v:V}{i:zq}(r:CZ K T M H v (.bl i)):v= .bl i:=by cases r;rfl
def K8 (K:AAB)(t:TE)(a:AE):Prop:=∀(B:Ct) (T:zu->Prop) (b:L2.St) (τ:BE) (H:Hp) (Q:VK) (d:PV->Prop),SR K B T H b τ->a τ d->
 (∀v x e c,C3 T H e c->CZ K e (mt B b τ) c v x->d x->Q v c)->t b H Q
def UA (K:AAB)(t:TT)(a:AT):Prop:=∀(B:Ct) (T:zu->Prop) (c:L2.St) (τ:BE) (H:Hp) (Q:zq->Hp->Prop) (d:zq->Prop),SR K B T H c τ->a τ d->
 (∀b f e,C3 T H f e->d b->Q b e)->t c H Q
def gI (K:AAB)(t:TA)(a:AA):Prop:=∀(B:Ct) (T:zu->Prop) (b:L2.St) (τ:BE) (H:Hp) (Q:zy V->Hp->Prop) (d:zy PV->Prop),SR K B T H b τ->a τ d->
 (∀vs xs e c,C3 T H e c->A3 K e (mt B b τ) c vs xs->d xs->Q vs c)->t b H Q
def cT (K:AAB)(t:TE)(a:AA):Prop:=∀(B:Ct) (T:zu->Prop) (c:L2.St) (τ:BE) (H:Hp) (Q:VK) (e:zy PV->Prop),SR K B T H c τ->a τ e->
 (∀p vs xs d b,C3 T H d b->SR K (B.add p) d b c τ->H p=none->b p=some (.lst vs)->¬d p->A3 K d (mt (B.add p) c τ) b vs xs->e xs->Q (.ref p) b)->t c H Q
def SE (X:Cx)(e:zr)(a:AE):Prop:=∃t,PE X e t/\K8 X.K t a
def Vn (X:Cx)(e:zr)(a:AT):Prop:=∃t,PT X e t/\UA X.K t a
def SW (X:Cx)(e:zr)(a:AT):Prop:=∃t,PW X e t/\UA X.K t a
def SA (X:Cx)(es:zy zr)(a:AA):Prop:=∃t,PA X es t/\gI X.K t a
def SF (X:Cx)(e:zr)(a:AA):Prop:=∃t,PE X e t/\cT X.K t a
abbrev IY:=PV->PV->(PV->Prop)->Prop
def CN (K:AAB)(r:R2)(f:IY):Prop:=∀(T M:zu->Prop) (H:Hp) (u v:V) (x y:PV) (Q:VK) (b:PV->Prop),Jg T M H->CZ K T M H u x->CZ K T M H v y->f x y b->
 (∀w z c a,C3 T H c a->CZ K c M a w z->b z->Q w a)->r u v H Q
def GK (K:AAB)(r:zy V->Hp->VK->Prop)(f:AF):Prop:=∀(T M:zu->Prop) (H:Hp) (b:zy V) (xs:zy PV) (Q:VK) (c:PV->Prop),Jg T M H->A3 K T M H b xs->f xs c->
 (∀w z d a,C3 T H d a->CZ K d M a w z->c z->Q w a)->r b H Q
section
variable {X:Cx}{a b c:zr}{es:zy zr}{pos:Pos}{ta tb:AE}{tA tB':AT}
def aV (i:Nat):AE:=λτ Q=>match RX τ i with | some (.val x)=>Q x|_=>False
def lC {i:Nat}{τ:BE}{Q:PV->Prop}(h:aV i τ Q):∃x,τ[i]? =some (some (.val x))/\Q x:=by
 unfold aV at h;cases e:RX τ i with
 | none=>rw[e] at h;exact h.elim
 | some z=>
   rw[e] at h;cases z with
   | own xs=>exact h.elim
   | val x=>exact⟨x,My e,h⟩
def AJ (i:Nat){x:Str}{pos:Pos}(hN:X.N[i]? =some x:=by rfl)(hv:fM X.env.scope x:=by first | exact Or.inl rfl|exact Or.inr (Or.inl rfl)|exact Or.inr (Or.inr rfl))(hd:(x==("__debug__" :Str))=false:=by decide)(d:(x==("__classdict__" :Str))=false:=by decide):SE X (.Name x pos) (aV i):=by refine⟨_,M7 hN hv hd d,λB T g τ H Q j s h k=> ?_⟩;obtain⟨x,e,q⟩:=lC h;obtain⟨v,f,r⟩:=s.val i x e;exact⟨v,f,k v x T H (.refl s.tp) r q⟩
def aC (x:PV):AE:=λ_ Q=>Q x
def TQ {v:V}{x:PV}(h:∀T M H,CZ X.K T M H v x):K8 X.K (tC v) (aC x):=λB T d τ H Q e s h' k=>k v x T H (.refl s.tp) (h _ _ _) h'
def AH {i:Int}{j pos}:SE X (.Constant (.int i) j pos) (aC (.int i)):=⟨_,BM,TQ λ_ _ _=> .int i⟩
def Ka {i:zq}{j pos}:SE X (.Constant (.bool i) j pos) (aC (.bl i)):=⟨_,mP,TQ λ_ _ _=> .bl i⟩
def CJ {j pos}:SE X (.Constant .none j pos) (aC .non):=⟨_,iu,TQ λ_ _ _=> .non⟩
def VL {i:Str}{j pos}:SE X (.Constant (.str i) j pos) (aC (.str i)):=⟨_,i4,TQ λ_ _ _=> .str i⟩
def AX (f:IY)(ta tb:AE):AE:=λτ Q=>ta τ λx=>tb τ λy=>f x y Q
def RM {r:R2}{f:IY}{t u:TE}(i:CN X.K r f)(ha:K8 X.K t ta)(hb:K8 X.K u tb):K8 X.K (eh r t u) (AX f ta tb):=by intro B T g τ H Q j s h k;refine ha B T g τ H _ _ s h λv x T1 H1 d l h1=> ?_;refine hb B T1 g τ H1 _ _ (s.stp d) h1 λw y m n e o h2=> ?_;have p:=(s.stp d).stp e;exact i m _ n v w x y Q j p.va (l.stp e (s.stp d).va) o h2 λw z T3 A C D q=>k w z T3 A ((d.trans e).trans C) D q
def Ae {op:Operator}{r:R2}{f:IY}(d:EC X (binaryOp op) r/\CN X.K r f)(ha:SE X a ta)(hb:SE X b tb):SE X (.BinOp a op b pos) (AX f ta tb):=
 let ⟨_,p,s⟩:=ha;let ⟨_,e,g⟩:=hb;⟨_,B2 d.1 p e,RM d.2 s g⟩
def Fu {op:CmpOp}{r:R2}{f:IY}(d:EC X (compareOp op) r/\CN X.K r f)(ha:SE X a ta)(hb:SE X b tb)(e:behindInMarks op b=false):SE X (.Compare a [op] [b] pos) (AX f ta tb):=
 let ⟨_,p,s⟩:=ha;let ⟨_,g,h⟩:=hb;⟨_,Wc d.1 p g e,RM d.2 s h⟩
def nI {r:R2}{f:IY}(d:cP X r/\CN X.K r f)(ha:SE X a ta)(hb:SE X b tb)(hs:Px b):SE X (.Subscript a b pos) (AX f ta tb):=
 let ⟨_,p,s⟩:=ha;let ⟨_,e,g⟩:=hb;⟨_,KZ d.1 p e hs,RM d.2 s g⟩
def fI (g:Int->Int->PV):IY:=λx y Q=>iU x y λi j=>Q (g i j)
def kA (C:Int->Int->Prop)(g:Int->Int->PV):IY:=λx y Q=>iU x y λi j=>C i j/\Q (g i j)
def Wo {g:Int->Int->V}{g':Int->Int->PV}(d:∀i j T M H,CZ X.K T M H (g i j) (g' i j)):CN X.K (Qy g) (fI g'):=by intro T M H u v x y Q f va e rv h k;obtain⟨i,j,rfl,rfl,q⟩:=Ql h;exact⟨i,j,e.toI,rv.toI,k _ _ T H (.refl va.tp) (d i j T M H) q⟩
def RJ {C:Int->Int->Prop}{g:Int->Int->V}{g':Int->Int->PV}(d:∀i j T M H,CZ X.K T M H (g i j) (g' i j)):CN X.K (rI C g) (kA C g'):=by intro T M H u v x y Q f va e rv h k;obtain⟨i,j,rfl,rfl,c,q⟩:=Ql h;exact⟨i,j,e.toI,rv.toI,c,k _ _ T H (.refl va.tp) (d i j T M H) q⟩
abbrev Il:IY:=fI λi j=> .int (i-j)
abbrev ZI:IY:=fI λi j=> .bl (decide (i<j))
abbrev tH:IY:=fI λi j=> .bl (decide (i<=j))
abbrev ZH:IY:=fI λi j=> .bl (decide (j<i))
def Dp:EC X (binaryOp .Sub) (Qy λi j=> .int (i-j))/\CN X.K (Qy λi j=> .int (i-j)) Il:=⟨ie,Wo λi j _ _ _=> .int _⟩
def Gi:EC X (compareOp .Lt) (Qy λi j=> .bl (decide (i<j)))/\CN X.K (Qy λi j=> .bl (decide (i<j))) ZI:=⟨fW,Wo λi j _ _ _=> .bl _⟩
def nP:EC X (compareOp .LtE) (Qy λi j=> .bl (decide (i<=j)))/\CN X.K (Qy λi j=> .bl (decide (i<=j))) tH:=⟨mM,Wo λi j _ _ _=> .bl _⟩
def JI:EC X (compareOp .Gt) (Qy λi j=> .bl (decide (j<i)))/\CN X.K (Qy λi j=> .bl (decide (j<i))) ZH:=⟨fV,Wo λi j _ _ _=> .bl _⟩
structure MulOk (i j:Int):Prop where
 l:i.natAbs<2^1000000
 r:j.natAbs<2^1000000
def Qm:EC X (binaryOp .Mult) (rI MulOk λi j=> .int (i*j)):=iX λ_ _ _ _ _ _ _ hc q=>mul_int q (.of_le (Gw hc.l) (Gw hc.r) (by decide))
abbrev CS:IY:=kA MulOk λi j=> .int (i*j)
def BB:EC X (binaryOp .Mult) (rI MulOk λi j=> .int (i*j))/\CN X.K (rI MulOk λi j=> .int (i*j)) CS:=⟨Qm,RJ λi j _ _ _=> .int _⟩
structure Vl (i j:Int):Prop where
 ne:j≠0
 lt:j.natAbs<2^8900
def aD:EC X (binaryOp .FloorDiv) (rI Vl λi j=> .int (i.fdiv j)):=iX λi j _ _ _ _ _ hc q=>
 floordiv_int hc.ne q (.inl (AD8 (ACX (Iu hc.lt (by decide)) (by decide))))
abbrev P9:IY:=kA Vl λi j=> .int (i.fdiv j)
def Ex:EC X (binaryOp .FloorDiv) (rI Vl λi j=> .int (i.fdiv j))/\CN X.K (rI Vl λi j=> .int (i.fdiv j)) P9:=⟨aD,RJ λi j _ _ _=> .int _⟩
abbrev Xb:IY:=kA (λ_ j=>j≠0) λi j=> .int (i.fmod j)
def VS:EC X (binaryOp .Mod) (rI (λ_ j=>j≠0) λi j=> .int (i.fmod j))/\CN X.K (rI (λ_ j=>j≠0) λi j=> .int (i.fmod j)) Xb:=⟨dL,RJ λi j _ _ _=> .int _⟩
abbrev ga:IY:=kA cJ λi j=> .int (i^j.toNat)
def bA:EC X (binaryOp .Pow) (rI cJ λi j=> .int (i^j.toNat))/\CN X.K (rI cJ λi j=> .int (i^j.toNat)) ga:=⟨aE,RJ λi j _ _ _=> .int _⟩
def oT:PV->zq | .non=>true|_=>false
def Xa:IY:=λx y Q=>match y with | .non=>Q (.bl (oT x))|_=>False
def MZ:IY:=λx y Q=>match y with | .non=>Q (.bl (!oT x))|_=>False
def WN {K:AAB}{T M:zu->Prop}{H:Hp}{v:V}{x:PV}(r:CZ K T M H v x):decide (v= .non)=oT x:=by cases r <;> simp[oT]
def VR:EC X (compareOp .Is) (λx y H Q=>y= .non/\Q (.bl (decide (x= .non))) H)/\CN X.K (λx y H Q=>y= .non/\Q (.bl (decide (x= .non))) H) Xa:=by
 refine⟨ia,λT M H u v x y Q e va d rv h k=> ?_⟩;cases y <;> first | exact h.elim|skip
 cases rv;refine⟨rfl, ?_⟩;rw[WN d];exact k _ _ T H (.refl va.tp) (.bl _) h
def RO:EC X (compareOp .IsNot) (λx y H Q=>y= .non/\Q (.bl (!decide (x= .non))) H)/\CN X.K (λx y H Q=>y= .non/\Q (.bl (!decide (x= .non))) H) MZ:=by
 refine⟨dM,λT M H u v x y Q e va d rv h k=> ?_⟩;cases y <;> first | exact h.elim|skip
 cases rv;refine⟨rfl, ?_⟩;rw[WN d];exact k _ _ T H (.refl va.tp) (.bl _) h
def Af:IY:=λx y Q=>M6 x λxs=>RY y λi=>cD (II xs i) Q
def Vu {K:AAB}{T M:zu->Prop}{H:Hp}{vs:zy V}{xs:zy PV}{i:Int}{z:PV}(r:A3 K T M H vs xs)(h:II xs i=some z):∃v,II vs i=some v/\CZ K T M H v z:=by
 unfold II at h ⊢;rw[r.length];cases e:WO xs.length i with
 | none=>rw[e] at h;cases h
 | some j=> rw[e] at h;exact r.get h
def mZ (K:AAB):R2:=λx y H Q=>mY K x y H Q\/mq K x y H Q
def nO:cP X (mZ X.K)/\CN X.K (mZ X.K) Af:=by
 refine⟨Es.or iB,λT M H u v x y Q j va g rv h k=> ?_⟩;obtain⟨xs,hx,h1⟩:=GR h;obtain⟨i,rfl,h2⟩:=GQ h1;cases rv.toI;obtain⟨z,e,q⟩:=iW h2;rcases hx with rfl|rfl
 .cases g with
  | tup f r=> obtain⟨w,ew,d⟩:=Vu r e;exact .inr ⟨_,_,i,w,rfl,rfl,f.sq,ew,k w z T H (.refl va.tp) d q⟩
 .cases g with
  | lst f t m r=> obtain⟨w,ew,d⟩:=Vu r e;exact .inl ⟨_,_,i,w,rfl,rfl, .inl (.inl f),ew,k w z T H (.refl va.tp) d q⟩
def UE (f:PV->(PV->Prop)->Prop)(ta:AE):AE:=λτ Q=>ta τ λx=>f x Q
def MY (x:PV)(Q:PV->Prop):Prop:=RY x λi=>Q (.int (-i))
def Fv (ha:SE X a ta):SE X (.UnaryOp .USub a pos) (UE MY ta):=by obtain⟨t,p,s⟩:=ha;refine⟨_,mS jp p,λB T d τ H Q j e h k=>s B T d τ H _ _ e h λv x T1 H1 f g h1=> ?_⟩;obtain⟨i,rfl,q⟩:=GQ h1;exact⟨i,g.toI,k _ _ T1 H1 f (.int _) q⟩
def ZJ (x:PV)(Q:PV->Prop):Prop:=cC x λi=>Q (.bl (!i))
def VJ (ha:SE X a ta):SE X (.UnaryOp .Not a pos) (UE ZJ ta):=by obtain⟨t,p,s⟩:=ha;refine⟨_,iy p,λB T d τ H Q j e h k=>s B T d τ H _ _ e h λv x T1 H1 f g h1=> ?_⟩;obtain⟨i,rfl,q⟩:=Qk h1;exact⟨i,g.toB,k _ _ T1 H1 f (.bl _) q⟩
def Yz (ta tb:AE):AE:=λτ Q=>ta τ λx=>cC x λc=>if c=true then tb τ Q else Q (.bl false)
def pZ (ta tb:AE):AE:=λτ Q=>ta τ λx=>cC x λc=>if c=true then Q (.bl true) else tb τ Q
def RG {op}(h:SE X a ta):SE X (.BoolOp op [a] pos) ta:=let ⟨_,p,s⟩:=h;⟨_,i0 p,s⟩
def VI {rest:zy zr}(ha:SE X a ta)(hb:SE X (.BoolOp .And (b::rest) pos) tb):SE X (.BoolOp .And (a::b::rest) pos) (Yz ta tb):=by
 obtain⟨t,p,s⟩:=ha;obtain⟨t',g,j⟩:=hb;refine⟨_,iq p g,λB T e τ H Q u f h k=>s B T e τ H _ _ f h λv x T1 H1 d l h1=> ?_⟩;obtain⟨i,rfl,q⟩:=Qk h1;refine⟨i,l.toB, ?_⟩;cases i with
 | true=>rw[AAE rfl] at q ⊢;exact j B T1 e τ H1 _ _ (f.stp d) q λw y m n o r h2=>k w y m n (d.trans o) r h2
 | false=>rw[AAD AAS] at q ⊢;exact k _ _ T1 H1 d (.bl _) q
def nJ {rest:zy zr}(ha:SE X a ta)(hb:SE X (.BoolOp .Or (b::rest) pos) tb):SE X (.BoolOp .Or (a::b::rest) pos) (pZ ta tb):=by
 obtain⟨t,p,s⟩:=ha;obtain⟨t',g,j⟩:=hb;refine⟨_,mR p g,λB T e τ H Q u f h k=>s B T e τ H _ _ f h λv x T1 H1 d l h1=> ?_⟩;obtain⟨i,rfl,q⟩:=Qk h1;refine⟨i,l.toB, ?_⟩;cases i with
 | false=>rw[AAD AAS] at q ⊢;exact j B T1 e τ H1 _ _ (f.stp d) q λw y m n o r h2=>k w y m n (d.trans o) r h2
 | true=>rw[AAE rfl] at q ⊢;exact k _ _ T1 H1 d (.bl _) q
def BH (ta:AE):AT:=λτ Q=>ta τ λx=>cC x Q
def Wr {t:TE}(s:K8 X.K t ta):UA X.K (fo t) (BH ta):=λB T d τ H Q j e h k=>s B T d τ H _ _ e h λv x T1 H1 f g h1=>by obtain⟨i,rfl,q⟩:=Qk h1;exact⟨i,g.toB,k _ T1 H1 f q⟩
def jd {op:CmpOp}{r:R2}{f:IY}(d:EC X (compareOp op) r/\CN X.K r f)(ha:SE X a ta)(hb:SE X b tb)(e:behindInMarks op b=false):Vn X (.Compare a [op] [b] pos) (BH (AX f ta tb)):=
 let ⟨_,p,s⟩:=ha;let ⟨_,g,h⟩:=hb;⟨_,Qw d.1 p g e,Wr (RM d.2 s h)⟩
def CA {e:zr}(h:SE X e ta)(he:∀whole,isTrue e X.env whole=(do let v <-whole;standAt e.pos;holding [v] (truthy v)):=by intro _;rfl):Vn X e (BH ta):=
 let ⟨_,p,s⟩:=h;⟨_,jB p he,Wr s⟩
def FI (t:AT):AT:=λτ Q=>t τ λc=>Q (!c)
def Vo (t u:AT):AT:=λτ Q=>t τ λc=>if c=true then u τ Q else Q false
def UD (t u:AT):AT:=λτ Q=>t τ λc=>if c=true then Q true else u τ Q
def Ef (ha:Vn X a tA):Vn X (.UnaryOp .Not a pos) (FI tA):=by obtain⟨t,p,s⟩:=ha;exact⟨_,jA p,λB T d τ H Q g e h k=>s B T d τ H _ _ e h λv T1 H1 f h1=>k _ T1 H1 f h1⟩
def W0 (ha:Vn X a tA):SW X (.BoolOp .And [a] pos) tA:=let ⟨_,p,s⟩:=ha;⟨_,du p,s⟩
def RS (ha:Vn X a tA):SW X (.BoolOp .Or [a] pos) tA:=let ⟨_,p,s⟩:=ha;⟨_,jF p,s⟩
def bC {rest:zy zr}(ha:Vn X a tA)(hb:SW X (.BoolOp .And (b::rest) pos) tB'):SW X (.BoolOp .And (a::b::rest) pos) (Vo tA tB'):=by
 obtain⟨t,p,s⟩:=ha;obtain⟨t',g,j⟩:=hb;refine⟨_,jE p g,λB T e τ H Q o f h k=>s B T e τ H _ _ f h λi T1 H1 d q=> ?_⟩;cases i with
 | true=>rw[AAE rfl] at q ⊢;exact j B T1 e τ H1 _ _ (f.stp d) q λb l m n h2=>k b l m (d.trans n) h2
 | false=>rw[AAD AAS] at q ⊢;exact k _ T1 H1 d q
def TY {rest:zy zr}(ha:Vn X a tA)(hb:SW X (.BoolOp .Or (b::rest) pos) tB'):SW X (.BoolOp .Or (a::b::rest) pos) (UD tA tB'):=by
 obtain⟨t,p,s⟩:=ha;obtain⟨t',g,j⟩:=hb;refine⟨_,mU p g,λB T e τ H Q o f h k=>s B T e τ H _ _ f h λi T1 H1 d q=> ?_⟩;cases i with
 | false=>rw[AAD AAS] at q ⊢;exact j B T1 e τ H1 _ _ (f.stp d) q λb l m n h2=>k b l m (d.trans n) h2
 | true=>rw[AAE rfl] at q ⊢;exact k _ T1 H1 d q
def YL (h:SW X a tA):Vn X a tA:=let ⟨_,p,s⟩:=h;⟨_,p.pt,s⟩
def j7 (t:AT)(ta tb:AE):AE:=λτ Q=>t τ λc=>if c=true then ta τ Q else tb τ Q
def Wm (hc:Vn X c tA)(ha:SE X a ta)(hb:SE X b tb):SE X (.IfExp c a b pos) (j7 tA ta tb):=by
 obtain⟨t,p,s⟩:=hc;obtain⟨v,r,e⟩:=ha;obtain⟨x,u,f⟩:=hb;refine⟨_,aJ p r u,λB T g τ H Q z j h k=>s B T g τ H _ _ j h λi T1 H1 d q=> ?_⟩;cases i with
 | true=>rw[AAE rfl] at q ⊢;exact e B T1 g τ H1 _ _ (j.stp d) q λw y l m n o h2=>k w y l m (d.trans n) o h2
 | false=>rw[AAD AAS] at q ⊢;exact f B T1 g τ H1 _ _ (j.stp d) q λw y l m n o h2=>k w y l m (d.trans n) o h2
def AL:AA:=λ_ Q=>Q []
def AB (ta:AE)(r:AA):AA:=λτ Q=>ta τ λx=>r τ λxs=>Q (x::xs)
def IB:SA X [] AL:=⟨_,Fn,λB T e τ H Q f d h k=>k [] [] T H (.refl d.tp) .nil h⟩
def A4 {e:zr}{r:AA}(ha:SE X e ta)(j:SA X es r)(hs:starEach (e::es) X.env=(false,eval e X.env)::starEach es X.env:=by rfl):SA X (e::es) (AB ta r):=by obtain⟨t,p,s⟩:=ha;obtain⟨t',l,m⟩:=j;refine⟨_,Du p l hs,λB T g τ H Q y d h k=>s B T g τ H _ _ d h λv x T1 H1 f n h1=> ?_⟩;exact m B T1 g τ H1 _ _ (d.stp f) h1 λvs xs o u i w h2=>k _ _ o u (f.trans i) (.cons (n.stp i (d.stp f).va) w) h2
def An (r:AA):AE:=λτ Q=>r τ λxs=>xs.length<=sizeLine/\Q (.tup xs)
def AW {x1}{r:AA}(h:SA X es r):SE X (.Tuple es x1 pos) (An r):=by obtain⟨t,p,s⟩:=h;refine⟨_,i5 p,λB T g τ H Q j d h k=>s B T g τ H _ _ d h λvs xs T1 H1 e f h1=>⟨by rw[f.length];exact h1.1,λq i=> ?_⟩⟩;have l:=C3.lay (o:= .tup vs) (d.stp e).tp i;exact k _ _ T1 _ (e.trans l) (.tup (.inl Ah) (f.stp l (d.stp e).va)) h1.2
def F8 (r:AA):AA:=λτ Q=>r τ λxs=>xs.length<=sizeLine/\Q xs
def c6 {K:AAB}{B:Ct}{T:zu->Prop}{H:Hp}{d:L2.St}{τ:BE}{p:zu}{vs:zy V}{xs:zy PV}(f:SR K B T H d τ)(g:H p=none)(r:A3 K T (mt B d τ) H vs xs):C3 T H T (upd H p (.lst vs))/\SR K (B.add p) T (upd H p (.lst vs)) d τ/\¬T p/\A3 K T (mt (B.add p) d τ) (upd H p (.lst vs)) vs xs:=by
 have l:=C3.lay (o:= .lst vs) f.tp g;have h:¬T p:=λz=>by obtain⟨o,e,_⟩:=(f.tp p z).mut;rw[g] at e;cases e
 refine⟨l,f.add l g Ah K6.lst h,h,r.mv ⟨f.va,λb o t _ e=>l.keep b o t e,l.sub,λb n t=>t,λb n z=> ?_⟩⟩;rcases z with(z|z)|z
 .exact .inl z
 .subst z;exact absurd g n
 .exact .inr z
def Cs {r:AA}(h:SA X es r):SF X (.List es pos) (F8 r):=by obtain⟨t,p,s⟩:=h;refine⟨_,aK p,λB T j τ H Q o f h k=>s B T j τ H _ _ f h λvs xs T1 H1 d g h1=>⟨by rw[g.length];exact h1.1,λq i=> ?_⟩⟩;obtain⟨l,e,m,n⟩:=c6 (f.stp d) i g;exact k q vs xs T1 _ (d.trans l) e (d.none i) Ah m n h1.2
def G4 (r:AA):AE:=λτ Q=>r τ λxs=>Q (.lst xs)
def aw {t:TE}{r:AA}(s:cT X.K t r):K8 X.K t (G4 r):=λB T g τ H Q v d h k=>s B T g τ H _ _ d h λp vs xs T1 H1 j f i hp l n h1=>by
 have u:¬Cf g τ p:=λo=>by obtain⟨_,e,_⟩:=d.ownH o;rw[i] at e;cases e
 have hb:¬B.M p:=λo=>by obtain⟨_,e,_⟩:=d.bm p o;rw[i] at e;cases e
 exact k _ _ T1 H1 j (.lst hp l (λz=>z.elim hb u) (n.mv (.anti f.va λa m=>m.elim (λz=> .inl (.inl z)) .inr))) h1
def Eb {r:AA}(h:SF X a r):SE X a (G4 r):=let ⟨_,p,s⟩:=h;⟨_,p,aw s⟩
def Ci (K:AAB)(n:Nat)(F:AF):Sp:=λvs H Q _=>∃(T M:zu->Prop) (xs:zy PV) (e:PV->Prop),Jg T M H/\(∀a,M a->¬T a)/\A3 K T M H vs xs/\xs.length=n/\F xs e/\
 ∀v x f d,C3 T H f d->CZ K f M d v x->e x->Q v d
def AN (n:Nat)(F:AF)(r:AA):AE:=λτ Q=>r τ λxs=>xs.length=n/\F xs Q
def AK {x:Str}{p:Pos}{e:zr}{k n:Nat}{ps:zy Str}{F:AF}{r:AA}(D:Has X.prog X.w X.K X.mg X.base k x ps (Ci X.K n F))(g:Room k X.A)(i:Gl X x)(ha:SA X (e::es) r)(hs:starEach (e::es) X.env=(false,eval e X.env)::starEach es X.env:=by rfl)(hpl:(backTo pos (starEach es X.env)).any (·.1)=false:=by rfl)(hd:(x==("__debug__" :Str))=false:=by decide):SE X (.Call (.Name x p) (e::es) [] pos) (AN n F r):=by obtain⟨t,j,s⟩:=ha;refine⟨_,ir D g i j hs hpl hd,λB T l τ H Q o d h k=>s B T l τ H _ _ d h λvs xs T1 H1 f u h1=> ?_⟩;rw[ADV];exact⟨T1,_,xs,o,(d.stp f).va,λa m=>(d.stp f).nt m,u,h1.1,h1.2,λv x y z C E q=>k v x y z (f.trans C) E q⟩
def HG (f:AF)(r:AA):AE:=λτ Q=>r τ λxs=>f xs Q
def av {d:zy V->Hp->VK->Prop}{f:AF}{t:TA}{r:AA}(i:GK X.K d f)(s:gI X.K t r):K8 X.K (q0 d t) (HG f r):=λB T j τ H Q l e h k=>s B T j τ H _ _ e h λvs xs T1 H1 g m h1=>
 i T1 _ H1 vs xs Q l (e.stp g).va m h1 λw z n o p u q=>k w z n o (g.trans p) u q
def B3 {id:String}{x:Str}{p:Pos}{e:zr}{d:zy V->Hp->VK->Prop}{f:AF}{r:AA}(hc:DA X (.builtin id) d/\GK X.K d f)(g:Gl X x)(h:X.mg x=none)(hv:bootBuiltins x=some (.builtin id))(ha:SA X (e::es) r)(i:x≠"__name__" :=by decide)(hdb:(x==("__debug__" :Str))=false:=by decide)(he:starEach (e::es) X.env=(false,eval e X.env)::starEach es X.env:=by rfl)(hpl:(backTo pos (starEach es X.env)).any (·.1)=false:=by rfl):SE X (.Call (.Name x p) (e::es) [] pos) (HG f r):=by obtain⟨t,j,s⟩:=ha;exact⟨_,GS hc.1 g h hv j i hdb he hpl,av hc.2 s⟩
def BN {T:String}{x:Str}{p:Pos}{e:zr}{d:zy V->Hp->VK->Prop}{f:AF}{r:AA}(hc:DA X (.type T) d/\GK X.K d f)(g:Gl X x)(h:X.mg x=none)(hv:bootBuiltins x=some (.type T))(ha:SA X (e::es) r)(i:x≠"__name__" :=by decide)(hdb:(x==("__debug__" :Str))=false:=by decide)(he:starEach (e::es) X.env=(false,eval e X.env)::starEach es X.env:=by rfl)(hpl:(backTo pos (starEach es X.env)).any (·.1)=false:=by rfl):SE X (.Call (.Name x p) (e::es) [] pos) (HG f r):=by obtain⟨t,j,s⟩:=ha;exact⟨_,Gz hc.1 g h hv j i hdb he hpl,av hc.2 s⟩
end
section
variable {X:Cx}
def Gj {K:AAB}{T M:zu->Prop}{H:Hp}{v:V}{xs:zy PV}(r:CZ K T M H v (.tup xs)):∃a vs,v= .ref a/\Nh K H a vs/\A3 K T M H vs xs:=by
 cases r with
 | tup h r=>exact⟨_,_,rfl,h.sq,r⟩
def ja {K:AAB}{T M:zu->Prop}{H:Hp}{v:V}{xs:zy PV}(r:CZ K T M H v (.tup xs)):∃a vs,v= .ref a/\oH K H a vs/\A3 K T M H vs xs:=by
 cases r with
 | tup h r=>exact⟨_,_,rfl,h,r⟩
def Ed {K:AAB}{T M:zu->Prop}{H:Hp}{v:V}{xs:zy PV}(r:CZ K T M H v (.lst xs)):∃a vs,v= .ref a/\H a=some (.lst vs)/\¬T a/\¬M a/\A3 K T M H vs xs:=by
 cases r with
 | lst h t m r=>exact⟨_,_,rfl,h,t,m,r⟩
def am {K:AAB}{T M:zu->Prop}{H:Hp}{v:V}{ns:zy Int}(r:CZ K T M H v (.scr ns)):∃a,v= .ref a/\Fe K H a (ns.map V.int):=by
 cases r with
 | scr h=>
   rcases h with⟨h,_,_⟩|h
   .exact ⟨_,rfl, .inl h⟩
   .exact ⟨_,rfl,h H⟩
def LB:AF:=λxs Q=>match xs with | [.tup ys] =>Q (.int ys.length) | [.lst ys] =>Q (.int ys.length) | [.scr ns] =>Q (.int ns.length)|_=>False
def mw (K:AAB):zy V->Hp->VK->Prop:=λxs H Q=>∃p a,xs= [.ref p] /\(Fe K H p a\/Nh K H p a)/\Q (.int a.length) H
def NL:DA X (.builtin "len") (mw X.K)/\GK X.K (mw X.K) LB:=by
 refine⟨Ie,λT M H d xs Q e va r h k=> ?_⟩;unfold LB at h;split at h <;> first | exact h.elim|skip
 .rename_i c;cases r with | cons r t=>cases t;obtain⟨a,vs,rfl,b,r⟩:=Gj r;refine⟨a,vs,rfl, .inr b, ?_⟩;rw[r.length];exact k _ _ T H (.refl va.tp) (.int _) h
 .rename_i c;cases r with | cons r t=>cases t;obtain⟨a,vs,rfl,b,_,_,r⟩:=Ed r;refine⟨a,vs,rfl, .inl (.inl (.inl b)), ?_⟩;rw[r.length];exact k _ _ T H (.refl va.tp) (.int _) h
 .rename_i ns;cases r with | cons r t=>cases t;obtain⟨a,rfl,b⟩:=am r;refine⟨a,_,rfl, .inl b, ?_⟩;rw[AAL];exact k _ _ T H (.refl va.tp) (.int _) h
def R9:AF:=λxs Q=>match xs with | [.int i] =>Q (.int i.natAbs)|_=>False
def NK:DA X (.builtin "abs") (λxs H Q=>∃i,xs= [.int i] /\Q (.int (if i<0 then -i else i)) H)/\GK X.K (λxs H Q=>∃i,xs= [.int i] /\Q (.int (if i<0 then -i else i)) H) R9:=by
 refine⟨MU,λT M H a xs Q b va r h k=> ?_⟩;unfold R9 at h;split at h <;> first | exact h.elim|skip
 rename_i i;cases r with
 | cons r t=> cases t;cases r;refine⟨i,rfl, ?_⟩;rw[show (if i<0 then -i else i)=(i.natAbs:Int) by split <;> omega];exact k _ _ T H (.refl va.tp) (.int _) h
def gj (g:Int->Int->Int):AF:=λxs Q=>match xs with | [.int i, .int j] =>Q (.int (g i j))|_=>False
def au {g g':Int->Int->Int}(a:∀i j,g i j=g' i j):GK X.K (λxs H Q=>∃i j,xs= [.int i, .int j] /\Q (.int (g i j)) H) (gj g'):=by
 intro T M H c xs Q d va r h k;unfold gj at h;split at h <;> first | exact h.elim|skip
 rename_i i j;cases r with
 | cons r t=>
   cases t with
   | cons b t=> cases t;cases r;cases b;refine⟨i,j,rfl, ?_⟩;rw[a];exact k _ _ T H (.refl va.tp) (.int _) h
def jN (hc:X.calm=true):DA X (.builtin "min") (λxs H Q=>∃i j,xs= [.int i, .int j] /\Q (.int (if j<i then j else i)) H)/\GK X.K (λxs H Q=>∃i j,xs= [.int i, .int j] /\Q (.int (if j<i then j else i)) H) (gj min):=
 ⟨XR hc,au λi j=>by split <;> omega⟩
def jM (hc:X.calm=true):DA X (.builtin "max") (λxs H Q=>∃i j,xs= [.int i, .int j] /\Q (.int (if j>i then j else i)) H)/\GK X.K (λxs H Q=>∃i j,xs= [.int i, .int j] /\Q (.int (if j>i then j else i)) H) (gj max):=
 ⟨XQ hc,au λi j=>by split <;> omega⟩
def gk:AF:=λxs Q=>match xs with | [.int i] =>Q (.int i) | [.bl k] =>Q (.int (if k then 1 else 0))|_=>False
def jL:DA X (.type "int") (λxs H Q=>(∃i,xs= [.int i] /\Q (.int i) H)\/∃k,xs= [.bl k] /\Q (.int (if k then 1 else 0)) H)/\GK X.K (λxs H Q=>(∃i,xs= [.int i] /\Q (.int i) H)\/∃k,xs= [.bl k] /\Q (.int (if k then 1 else 0)) H) gk:=by
 refine⟨Oo,λT M H a xs Q b va r h k=> ?_⟩;unfold gk at h;split at h <;> first | exact h.elim|skip
 .cases r with | cons r t=>cases t;cases r;exact .inl ⟨_,rfl,k _ _ T H (.refl va.tp) (.int _) h⟩
 .cases r with | cons r t=>cases t;cases r;exact .inr ⟨_,rfl,k _ _ T H (.refl va.tp) (.int _) h⟩
def Cc:AF:=λxs Q=>match xs with | [.tup ys] =>Q (.tup ys) | [.lst ys] =>Q (.tup ys)|_=>False
def aa (K:AAB):zy V->Hp->VK->Prop:=λxs H Q=>∃p a,xs= [.ref p] /\((Fe K H p a/\∀l,H l=none->Q (.ref l) (upd H l (.tup a)))\/(Nh K H p a/\Q (.ref p) H))
def Bq:DA X (.type "tuple") (aa X.K)/\GK X.K (aa X.K) Cc:=by
 refine⟨N8,λT M H d xs Q e va r h k=> ?_⟩;unfold Cc at h;split at h <;> first | exact h.elim|skip
 .cases r with | cons r t=>cases t;obtain⟨a,vs,rfl,b,c⟩:=ja r;exact⟨a,vs,rfl, .inr ⟨b.sq,k _ _ T H (.refl va.tp) (.tup b c) h⟩⟩
 .cases r with
  | cons r t=> cases t;obtain⟨a,vs,rfl,b,_,_,c⟩:=Ed r;refine⟨a,vs,rfl, .inl ⟨.inl (.inl b),λl hl=> ?_⟩⟩;have s:=C3.lay (o:= .tup vs) va.tp hl;exact k _ _ T _ s (.tup (.inl Ah) (c.stp s va)) h
def aj:PV->PV->zt zq
 | .non, .non=>some true | .non, .int _=>some false | .int _, .non=>some false | .non, .bl _=>some false | .bl _, .non=>some false | .non, .str _=>some false | .str _, .non=>some false
 | .int i, .int j=>some (decide (i=j)) | .bl i, .bl j=>some (decide (i=j)) | .str i, .str j=>some (decide (i=j))
 | .int _, .str _=>some false | .str _, .int _=>some false | .bl _, .str _=>some false | .str _, .bl _=>some false
 | _,_=>none
def TM {K:AAB}{T M:zu->Prop}{H:Hp}{u v:V}{x y:PV}{b:zq}(r:CZ K T M H u x)(a:CZ K T M H v y)(e:aj x y=some b):jO u v=true/\decide (u=v)=b:=by cases r <;> cases a <;> first | (cases e;done)|(cases e;exact⟨rfl,rfl⟩)|(cases e;exact⟨rfl,by simp⟩)
end
structure F9 where
 nx:BE->Prop
 rt:PV->Prop
 bk:BE->Prop
 ct:BE->Prop
abbrev AS:=F9->BE->Prop
structure E4 (T:Addr->Prop) (H:Hp) (σ:L2.St) (τ:BE) (T':Addr->Prop) (H':Hp) (σ':L2.St) (τ':BE):Prop where
 keep:∀b o,¬T b->¬Cf σ τ b->H b=some o->H' b=some o
 sub:∀b,T b->T' b
 new:∀b,T' b->T b\/H b=none
 own:∀b,Cf σ' τ' b->Cf σ τ b\/H b=none
 some:∀b,H b≠none->H' b≠none
section
variable {K:AAB}{B:Ct}{T T' T1 T2:zu->Prop}{H H' H1 H2:Hp}{σ σ' σ1 σ2:L2.St}{τ τ' τ1 τ2:BE}
def E4.refl:E4 T H σ τ T H σ τ:=⟨λ_ _ _ _ e=>e,λ_ t=>t,λ_ t=> .inl t,λ_ o=> .inl o,λ_ h=>h⟩
def E4.trans (a:E4 T H σ τ T1 H1 σ1 τ1)(b:E4 T1 H1 σ1 τ1 T2 H2 σ2 τ2):E4 T H σ τ T2 H2 σ2 τ2 where
 keep:=λc o t w e=>b.keep c o (λz=>(a.new c z).elim t λn=>by rw[n] at e;cases e) (λz=>(a.own c z).elim w λn=>by rw[n] at e;cases e) (a.keep c o t w e)
 sub:=λc t=>b.sub c (a.sub c t)
 new:=λc t=>(b.new c t).elim (λz=>a.new c z) λz=> .inr (by
  cases e:H c with
  | none=>rfl
  | some o=>exact absurd z (a.some c (by rw[e];exact λe=>nomatch e)))
 own:=λc t=>(b.own c t).elim (λz=>a.own c z) λz=> .inr (by
  cases e:H c with
  | none=>rfl
  | some o=>exact absurd z (a.some c (by rw[e];exact λe=>nomatch e)))
 some:=λc h=>b.some c (a.some c h)
def C3.prog (s:C3 T H T' H'):E4 T H σ τ T' H' σ τ:=⟨λb o t _ e=>s.keep b o t e,s.sub,s.new,λ_ o=> .inl o,λ_ h=>s.some h⟩
def E4.less (h:∀b,Cf σ' τ' b->Cf σ τ b):E4 T H σ τ T H σ' τ':=⟨λ_ _ _ _ e=>e,λ_ t=>t,λ_ t=> .inl t,λb o=> .inl (h b o),λ_ h=>h⟩
structure ER (K:AAB) (B:Ct) (T:Addr->Prop) (H:Hp) (σ:L2.St) (τ:BE) (D:Pu) (AD:F9):Prop where
 nx:∀T' H' σ' τ',E4 T H σ τ T' H' σ' τ'->SR K B T' H' σ' τ'->AD.nx τ'->D.nx σ' H'
 bk:∀T' H' σ' τ',E4 T H σ τ T' H' σ' τ'->SR K B T' H' σ' τ'->AD.bk τ'->D.bk σ' H'
 ct:∀T' H' σ' τ',E4 T H σ τ T' H' σ' τ'->SR K B T' H' σ' τ'->AD.ct τ'->D.ct σ' H'
 rt:∀v x T' H',C3 B.T B.H T' H'->CZ K T' B.M H' v x->AD.rt x->D.rt v H'
def ER.shift {D:Pu}{a:F9}(e:ER K B T H σ τ D a)(p:E4 T H σ τ T1 H1 σ1 τ1):ER K B T1 H1 σ1 τ1 D a:=
 ⟨λ_ _ _ _ q=>e.nx _ _ _ _ (p.trans q),λ_ _ _ _ q=>e.bk _ _ _ _ (p.trans q),λ_ _ _ _ q=>e.ct _ _ _ _ (p.trans q),e.rt⟩
end
def Yw (K:AAB)(t:TS)(a:AS):Prop:=∀(B:Ct) (T:zu->Prop) (b:L2.St) (τ:BE) (H:Hp) (D:Pu) (c:F9),SR K B T H b τ->a c τ->ER K B T H b τ D c->t D b H
def SS (X:Cx)(st:Stmt)(a:AS):Prop:=∃t,PS X st t/\Yw X.K t a
def XG (X:Cx)(st:zy Stmt)(a:AS):Prop:=∃t,Rr X st t/\Yw X.K t a
def BI {a:Type}{l:zy a}{i j:Nat}{x y:a}(h:(l.set i x)[j]? =some y):(j=i/\y=x/\i<l.length)\/(j≠i/\l[j]? =some y):=by
 by_cases e:j=i
 .subst e;rw[ACx] at h;simp at h;obtain⟨h1,h2⟩:=h;exact .inl ⟨rfl,h2.symm,h1⟩
 .rw [AAZ (λz=>e z.symm)] at h;exact .inr ⟨e,h⟩
section
variable {K:AAB}{B:Ct}{T:zu->Prop}{H:Hp}{σ:L2.St}{τ:BE}
def Cg {i:Nat}{v:V}{x:PV}{b:zu}(h:Cf (σ.set i (some v)) (τ.set i (some (.val x))) b):Cf σ τ b:=by
 obtain⟨j,xs,h1,h2⟩:=h;rcases BI h1 with⟨_,e,_⟩|⟨n,a⟩
 .cases e
 .rw [AAZ (λz=>n z.symm)] at h2;exact⟨j,xs,a,h2⟩
def SR.set {i:Nat}{v:V}{x:PV}(s:SR K B T H σ τ)(r:CZ K T (mt B σ τ) H v x):SR K B T H (σ.set i (some v)) (τ.set i (some (.val x))):=by
 have b:Mv K T (mt B σ τ) H T (mt B (σ.set i (some v)) (τ.set i (some (.val x)))) H:= .anti s.va λa m=>m.elim .inl λz=> .inr (Cg z);refine⟨by simp[s.len],λj y e=> ?_,λj c e=> ?_,λj k c o p t u h l=> ?_,s.tp,s.bm,s.bt,s.st⟩
 .rcases BI e with⟨rfl,e',hl⟩|⟨n,e'⟩
  .cases e';refine⟨v,by rw[ACx];simp[s.len,hl],r.mv b⟩
  .obtain ⟨w,hw,d⟩:=s.val j y e';exact⟨w,by rw[AAZ (λz=>n z.symm)];exact hw,d.mv b⟩
 .rcases BI e with⟨_,e',_⟩|⟨n,e'⟩
  .cases e'
  .obtain ⟨p,vs,h1,h2,h3,A⟩:=s.own j c e';exact⟨p,vs,by rw[AAZ (λz=>n z.symm)];exact h1,h2,h3.mv b,A⟩
 .rcases BI t with⟨_,e',_⟩|⟨n,f⟩
  .cases e'
  .rcases BI u with⟨_,e',_⟩|⟨C,g⟩
   .cases e'
   .rw [AAZ (λz=>n z.symm)] at h;rw[AAZ (λz=>C z.symm)] at l;exact s.dist j k c o p f g h l
def KY {i:Nat}{p:zu}{xs:zy PV}{b:zu}(h:Cf (σ.set i (some (.ref p))) (τ.set i (some (.own xs))) b):Cf σ τ b\/b=p:=by
 obtain⟨j,a,h1,h2⟩:=h;rcases BI h1 with⟨rfl,e,_⟩|⟨n,c⟩
 .rcases BI h2 with⟨_,e',_⟩|⟨n,_⟩
  .cases e';exact .inr rfl
  .exact absurd rfl n
 .rw [AAZ (λz=>n z.symm)] at h2;exact .inl ⟨j,a,c,h2⟩
def SR.take {i:Nat}{p:zu}{vs:zy V}{xs:zy PV}(s:SR K (B.add p) T H σ τ)(hp:H p=some (.lst vs))(C:¬T p)(u:¬Cf σ τ p)(D:¬B.M p)(E:B.H p=none)(r:A3 K T (mt (B.add p) σ τ) H vs xs):SR K B T H (σ.set i (some (.ref p))) (τ.set i (some (.own xs))):=by
 have h:Mv K T (mt (B.add p) σ τ) H T (mt B (σ.set i (some (.ref p))) (τ.set i (some (.own xs)))) H:= .anti s.va λa m=>by
  rcases m with m|m
  .exact .inl (.inl m)
  .rcases KY m with z|z
   .exact .inr z
   .exact .inl (.inr z)
 refine⟨by simp[s.len],λj y e=> ?_,λj f e=> ?_,λj k f v q F x g c=> ?_,s.tp,λa m=>s.bm a (.inl m),λa m=>s.bt a (.inl m),s.st⟩
 .rcases BI e with⟨_,e',_⟩|⟨n,e'⟩
  .cases e'
  .obtain ⟨w,hw,l⟩:=s.val j y e';exact⟨w,by rw[AAZ (λz=>n z.symm)];exact hw,l.mv h⟩
 .rcases BI e with⟨rfl,e',hl⟩|⟨n,e'⟩
  .cases e';exact⟨p,vs,by rw[ACx];simp[s.len,hl],hp,r.mv h,E,C,D⟩
  .obtain ⟨q,G,h1,h2,h3,I,J,L⟩:=s.own j f e';exact⟨q,G,by rw[AAZ (λz=>n z.symm)];exact h1,h2,h3.mv h,I,J,λz=>L (.inl z)⟩
 .rcases BI F with⟨A,_,_⟩|⟨n,d⟩
  .rcases BI x with⟨o,_,_⟩|⟨t,b⟩
   .rw [A,o]
   .subst A;rw[AAZ (λz=>t z.symm)] at c;rcases BI g with⟨_,e',_⟩|⟨n,_⟩
    .cases e';exact absurd ⟨k,v,b,c⟩ u
    .exact absurd rfl n
  .rw [AAZ (λz=>n z.symm)] at g;rcases BI x with⟨o,_,_⟩|⟨t,b⟩
   .subst o;rcases BI c with⟨_,e',_⟩|⟨n,_⟩
    .cases e';exact absurd ⟨j,f,d,g⟩ u
    .exact absurd rfl n
   .rw [AAZ (λz=>t z.symm)] at c;exact s.dist j k f v q d b g c
def SR.write {i:Nat}{p:zu}{M vs:zy V}{xs g:zy PV}(s:SR K B T H σ τ)(f:τ[i]? =some (some (.own xs)))(hs:σ[i]? =some (some (.ref p)))(hp:H p=some (.lst M))(r:A3 K T (mt B σ τ) H vs g):SR K B T (upd H p (.lst vs)) σ (τ.set i (some (.own g)))/\E4 T H σ τ T (upd H p (.lst vs)) σ (τ.set i (some (.own g))):=by
 obtain⟨R,N,G,S,U,I,D,J⟩:=s.own i xs f;rw[hs] at G;cases G;have W:σ.set i (some (.ref p))=σ:=by
  apply List.ext_getElem?;intro k;by_cases hk:i=k
  .subst hk;rw[ACx,hs];simp[(AA1.mp hs).1]
  .rw [AAZ hk]
 have l:Cf σ τ p:=⟨i,xs,f,hs⟩;have L:∀b,Cf σ (τ.set i (some (.own g))) b->Cf σ τ b:=λb h=>by
  obtain⟨j,c,h1,h2⟩:=h;rcases BI h1 with⟨rfl,e,_⟩|⟨n,A⟩
  .exact ⟨j,xs,f,h2⟩
  .exact ⟨j,c,A,h2⟩
 have E:Mv K T (mt B σ τ) H T (mt B σ (τ.set i (some (.own g)))) (upd H p (.lst vs)):=⟨s.va,λb o _ m e=>by
  rw[Ag (λz=>m (by subst z;exact .inr l))];exact e,λ_ t=>t,λ_ _ t=>t,λb _ m=>m.elim .inl λz=> .inr (L b z)⟩
 refine⟨⟨by simp[s.len],λj y e=> ?_,λj c e=> ?_,λj k c C q h1 h2 h3 u=> ?_,λa t=> ?_,λa m=> ?_,s.bt, ?_⟩,⟨λb o t w e=>by rw[Ag (λz=>w (by subst z;exact l))];exact e,λ_ t=>t,λ_ t=> .inl t,λb o=> .inl (L b o),λb h=> ?_⟩⟩
 .rcases BI e with⟨_,e',_⟩|⟨n,e'⟩
  .cases e'
  .obtain ⟨v,h,O⟩:=s.val j y e';exact⟨v,h,O.mv E⟩
 .rcases BI e with⟨rfl,e',_⟩|⟨n,e'⟩
  .cases e';exact⟨p,vs,hs,Ah,r.mv E,I,D,J⟩
  .obtain ⟨q,C,h1,h2,h3,u⟩:=s.own j c e';have P:q≠p:=λz=>by subst z;exact n (s.dist j i c xs q e' f h1 hs)
   exact⟨q,C,h1,by rw[Ag P];exact h2,h3.mv E,u⟩
 .rcases BI h1 with⟨rfl,_,_⟩|⟨n,A⟩
  .rcases BI h2 with⟨rfl,_,_⟩|⟨Q,F⟩
   .rfl
   .exact s.dist _ k xs C q f F h3 u
  .rcases BI h2 with⟨rfl,_,_⟩|⟨Q,F⟩
   .exact s.dist j _ c xs q A f h3 u
   .exact s.dist j k c C q A F h3 u
 .obtain ⟨d,x,e,z⟩:=s.tp a t;exact⟨d,x,by rw[Ag (λw=>by subst w;exact D t)];exact e,z⟩
 .obtain ⟨o,e,z⟩:=s.bm a m;exact⟨o,by rw[Ag (λw=>by subst w;exact J m)];exact e,z⟩
 .refine ⟨λb o t e=> ?_,s.st.sub,s.st.new,λa t=> ?_⟩
  .rw [Ag (λw=>by subst w;rw[I] at e;cases e)];exact s.st.keep b o t e
  .obtain ⟨d,x,e,z⟩:=s.tp a t;exact⟨d,x,by rw[Ag (λw=>by subst w;exact D t)];exact e,z⟩
 .by_cases z:b=p
  .subst z;rw[Ah];exact λe=>nomatch e
  .rw [Ag z];exact h
end
section
variable {X:Cx}{st:Stmt}{rest:zy Stmt}{e:zr}{pos:Pos}{a b:AS}{ta:AE}
def cU (ta:AE):AE:=λτ Q=>ta (frz τ) λx=>cB x=true/\Q x
def jP (h:SE X e ta):SE X e (cU ta):=by obtain⟨t,p,s⟩:=h;refine⟨t,p,λB T c τ H Q i d h k=>s B T c (frz τ) H _ _ d.frz h λv x T1 H1 f g h1=> ?_⟩;exact k v x T1 H1 f (g.free h1.1) h1.2
def BO:AS:=λD τ=>D.nx τ
def Ad (a b:AS):AS:=λD τ=>a {D with nx:=b D} τ
def BC:XG X [] BO:=⟨_,Qv,λB T c τ H D g d h f=>f.nx T H c τ .refl d h⟩
def AM (h1:SS X st a)(h2:XG X rest b):XG X (st::rest) (Ad a b):=by obtain⟨t,p,s⟩:=h1;obtain⟨t',f,g⟩:=h2;exact⟨_,Ch p f,λB T i τ H D j k h c=>s B T i τ H _ _ k h ⟨λl m σ' τ' q d h'=>g B l σ' τ' m D j d h' (c.shift q),c.bk,c.ct,c.rt⟩⟩
def AR (h1:SS X st a):XG X [st] a:=let ⟨_,p,s⟩:=h1;⟨_,G1 p,s⟩
def Ar (ta:AE):AS:=λD τ=>ta (frz τ) D.rt
def AY (h:SE X e ta):SS X (.Return (some e) pos) (Ar ta):=by obtain⟨t,p,s⟩:=h;refine⟨_,Qu p,λB T f τ H D j c h g=>s B T f (frz τ) H _ _ c.frz h λv x T1 H1 d i h1=> ?_⟩;exact g.rt v x T1 H1 (c.st.trans d) (i.mv (.anti (c.frz.stp d).va λa m=> .inl m)) h1
def CH (c:AT)(a b:AS):AS:=λD τ=>c τ λk=>if k=true then a D τ else b D τ
def BV {c:zr}{x y:zy Stmt}{l:AT}(hc:Vn X c l)(ha:XG X x a)(hb:XG X y b):SS X (.If c x y pos) (CH l a b):=by
 obtain⟨t,p,s⟩:=hc;obtain⟨u,o,f⟩:=ha;obtain⟨v,r,g⟩:=hb;refine⟨_,aW p o r,λB T i τ H D m j h n=>s B T i τ H _ _ j h λk T1 H1 d h1=> ?_⟩;cases k with
 | true=>rw[AAE rfl] at h1 ⊢;exact f B T1 i τ H1 D m (j.stp d) h1 (n.shift d.prog)
 | false=>rw[AAD AAS] at h1 ⊢;exact g B T1 i τ H1 D m (j.stp d) h1 (n.shift d.prog)
abbrev AG:=PV->BE->(BE->Prop)->Prop
abbrev Tp:=zy PV->BE->(BE->Prop)->Prop
def Pz (K:AAB)(g:TG)(f:AG):Prop:=∀(B:Ct) (T:zu->Prop) (c:L2.St) (τ:BE) (H:Hp) (v:V) (x:PV) (Q:L2.St->Hp->Prop) (d:BE->Prop),SR K B T H c τ->CZ K T (mt B c τ) H v x->f x τ d->
 (∀σ' τ',SR K B T H σ' τ'->(∀b,Cf σ' τ' b->Cf c τ b)->d τ'->Q σ' H)->g v c H Q
def Oi (K:AAB)(g:UC)(f:Tp):Prop:=∀(B:Ct) (T:zu->Prop) (c:L2.St) (τ:BE) (H:Hp) (vs:zy V) (xs:zy PV) (Q:L2.St->Hp->Prop) (d:BE->Prop),SR K B T H c τ->A3 K T (mt B c τ) H vs xs->f xs τ d->
 (∀σ' τ',SR K B T H σ' τ'->(∀b,Cf σ' τ' b->Cf c τ b)->d τ'->Q σ' H)->g vs c H Q
def SG (X:Cx)(c:zr)(d:AG):Prop:=∃g,PG X c g/\Pz X.K g d
def oF (X:Cx)(c:zy zr)(d:Tp):Prop:=∃g,j5 X c g/\Oi X.K g d
def Am (i:Nat):AG:=λx τ Q=>Q (τ.set i (some (.val x)))
def RL {K:AAB}{i:Nat}:Pz K (Cz i) (Am i):=λB T d τ H v x Q f c r h k=>k _ _ (c.set r) (λb o=>Cg o) h
def JG {i:Nat}{x:Str}(hN:X.N.Nodup)(hi:X.N[i]? =some x)(hx:Loc X.env.scope x)(c:X.fn x=true\/X.env.scope.names.lookup x=some .local:=by first | exact .inl rfl|exact .inr rfl|assumption):SG X (.Name x pos) (Am i):=
 ⟨_,G0 hN hi hx c,RL⟩
def Be:Tp:=λxs τ Q=>match xs with | [] =>Q τ|_=>False
def AZ (g:AG)(r:Tp):Tp:=λxs τ Q=>match xs with | x::t=>g x τ λτ'=>r t τ' Q | [] =>False
def TR {K:AAB}:Oi K QC Be:=λB T c τ H vs xs Q f d r h k=>by
 cases r with
 | nil=>exact⟨rfl,k c τ d (λ_ o=>o) h⟩
 | cons _ _=>exact h.elim
def PM {K:AAB}{g:TG}{p:UC}{s:AG}{c:Tp}(h1:Pz K g s)(h2:Oi K p c):Oi K (FO g p) (AZ s c):=λB T w τ H vs xs Q x u r h k=>by
 cases r with
 | nil=>exact h.elim
 | cons r t=> refine⟨_,_,rfl,h1 B T w τ H _ _ _ _ u r h λd f i v y=> ?_⟩;exact h2 B T d f H _ _ Q x i (t.mv (.anti u.va λa m=>m.elim .inl λz=> .inr (v a z))) y λj l n A C=>k j l n (λb o=>v b (A b o)) C
def BZ:oF X [] Be:=⟨_,LZ,TR⟩
def Aa {es:zy zr}{d:AG}{c:Tp}(h1:SG X e d)(h2:oF X es c)(hs:(assignEach (e::es) X.env).map (·.2)=assign e X.env::(assignEach es X.env).map (·.2):=by rfl):oF X (e::es) (AZ d c):=
 let ⟨_,p,s⟩:=h1;let ⟨_,f,g⟩:=h2;⟨_,FS p f hs,PM s g⟩
def Ao (ta:AE)(g:AG):AS:=λD τ=>ta τ λx=>g x τ D.nx
def RK {K:AAB}{t:TE}{g:TG}{i:AG}(s:K8 K t ta)(m:Pz K g i):Yw K (VY t g) (Ao ta i):=λB T j τ H D u k h n=>s B T j τ H _ _ k h λv x T1 H1 l o h1=>
 m B T1 j τ H1 v x _ _ (k.stp l) o h1 λc d f p r=>n.nx T1 H1 c d (l.prog.trans (.less p)) f r
def EB {c:zr}{d:AG}(he:SE X e ta)(f:SG X c d)(hs:swapsWithSole [c] e pos.line X.env=pure false:=by rfl)(hw:swappedStores [c] e X.env=pure none:=by rfl)(h1:(assignEach [c] X.env).map (·.2)= [assign c X.env] :=by rfl):SS X (.Assign [c] e pos) (Ao ta d):=
 let ⟨_,p,s⟩:=he;let ⟨_,g,h⟩:=f;⟨_,Qt p g hs hw h1,RK s h⟩
def C9 {i:Nat}{x:Str}{pos':Pos}(hN:X.N.Nodup)(hi:X.N[i]? =some x)(hx:Loc X.env.scope x)(he:SE X e ta)(hs:swapsWith e (some (.Name x pos')) pos.line X.env=pure false:=by rfl)(c:X.fn x=true\/X.env.scope.names.lookup x=some .local:=by first | exact .inl rfl|exact .inr rfl|assumption):SS X (.Assign [.Name x pos'] e pos) (Ao ta (Am i)):=let ⟨_,p,s⟩:=he;⟨_,Hm hN hi hx p hs c,RK s RL⟩
def Jh (r:AA)(i:Nat):AS:=λD τ=>r τ λxs=>D.nx (τ.set i (some (.own xs)))
def Wq {K:AAB}{t:TE}{r:AA}{i:Nat}(s:cT K t r):Yw K (VY t (Cz i)) (Jh r i):=λB T j τ H D v c h k=>s B T j τ H _ _ c h λp vs xs T1 H1 d g f hp l m h1=>by
 have n:¬Cf j τ p:=λo=>by obtain⟨_,e,_⟩:=c.ownH o;rw[f] at e;cases e
 have u:¬B.M p:=λo=>by obtain⟨_,e,_⟩:=c.bm p o;rw[f] at e;cases e
 refine k.nx T1 H1 _ _ ⟨λb o t _ e=>d.keep b o t e,d.sub,d.new,λb o=> ?_,λb h=>d.some h⟩ (g.take hp l n u (c.st.none f) m) h1;rcases KY o with z|z
 .exact .inl z
 .subst z;exact .inr f
def ID {i:Nat}{x:Str}{pos':Pos}{r:AA}(hN:X.N.Nodup)(hi:X.N[i]? =some x)(hx:Loc X.env.scope x)(he:SF X e r)(hs:swapsWith e (some (.Name x pos')) pos.line X.env=pure false:=by rfl)(c:X.fn x=true\/X.env.scope.names.lookup x=some .local:=by first | exact .inl rfl|exact .inr rfl|assumption):SS X (.Assign [.Name x pos'] e pos) (Jh r i):=let ⟨_,p,s⟩:=he;⟨_,Hm hN hi hx p hs c,Wq s⟩
def XI (i j:Nat)(r:AA):AS:=λD τ=>r τ λxs=>match xs with | [x,y] =>D.nx ((τ.set i (some (.val x))).set j (some (.val y)))|_=>False
def VU {i j:Nat}{x y:Str}{c d:zr}{r:AA}{g k l:Pos}{kt k2 pt2}(hc:X.calm=true)(hN:X.N.Nodup)(hi:X.N[i]? =some x)(hj:X.N[j]? =some y)(v:i≠j)(hx:X.env.scope.names.lookup x=some .local)(w:X.env.scope.names.lookup y=some .local)(ha:SA X [c,d] r)(hw:swappedStores [.Tuple [.Name x g, .Name y k] kt l] (.Tuple [c,d] k2 pt2) X.env=pure (some [x,y]))(hs:swapsWithSole [.Tuple [.Name x g, .Name y k] kt l] (.Tuple [c,d] k2 pt2) pos.line X.env=pure false:=by rfl):SS X (.Assign [.Tuple [.Name x g, .Name y k] kt l] (.Tuple [c,d] k2 pt2) pos) (XI i j r):=by
 obtain⟨t,p,s⟩:=ha;refine⟨_,i9 hc hN hi hj v hx w p hw hs,λB T A τ H D I n h C=>s B T A τ H _ _ n h λvs xs T1 H1 u E h1=> ?_⟩;cases E with
 | nil=>exact h1.elim
 | cons ra ta=>
   cases ta with
   | nil=>exact h1.elim
   | cons F G=>
     cases G with
     | cons _ _=>exact h1.elim
     | nil=> have f:=n.stp u;refine⟨_,_,rfl,C.nx T1 H1 _ _ ?_ ((f.set (i:=i) ra).set (i:=j) (F.mv (.anti f.va λa m=>m.elim .inl λz=> .inr (Cg z)))) h1⟩;exact u.prog.trans (.less λb o=>Cg (Cg o))
def XH (i:Nat)(f:IY)(ta:AE):AS:=λD τ=>match RX τ i with | some (.val x)=>ta τ λy=>f x y λz=>D.nx (τ.set i (some (.val z)))|_=>False
def jb {i:Nat}{x:Str}{op:Operator}{g:gL}{f:IY}{pos':Pos}(hN:X.N.Nodup)(hi:X.N[i]? =some x)(hx:Loc X.env.scope x)(he:SE X e ta)(j:j6 X op g/\CN X.K g f)(l:X.fn x=true\/X.env.scope.names.lookup x=some .local:=by first | exact .inl rfl|exact .inr rfl|assumption):SS X (.AugAssign (.Name x pos') op e pos) (XH i f ta):=by
 obtain⟨t,p,s⟩:=he;refine⟨_,i8 hN hi hx p j.1 l,λB T m τ H D I c h n=> ?_⟩;unfold XH at h;split at h <;> first | exact h.elim|skip
 rename_i y r;obtain⟨v,A,rv⟩:=c.val i y (My r);refine⟨v,A,s B T m τ H _ _ c h λw z T1 H1 d C h1=> ?_⟩;refine j.2 T1 _ H1 v w y z _ _ (c.stp d).va (rv.stp d c.va) C h1 λu q E F k G h2=> ?_;exact n.nx E F _ _ ((d.trans k).prog.trans (.less λb o=>Cg o)) (((c.stp d).stp k).set G) h2
def K9 (i:Nat)(τ:BE)(R:zy PV->Prop):Prop:=match RX τ i with | some (.own xs)=>R xs|_=>False
def P0 {i:Nat}{τ:BE}{R:zy PV->Prop}(h:K9 i τ R):∃xs,τ[i]? =some (some (.own xs))/\R xs:=by
 unfold K9 at h;cases e:RX τ i with
 | none=>rw[e] at h;exact h.elim
 | some z=>
   rw[e] at h;cases z with
   | val x=>exact h.elim
   | own xs=>exact⟨xs,My e,h⟩
abbrev j4:=zy PV->zy PV->(zy PV->Prop)->Prop
def gJ (K:AAB)(r:V->zy V->Hp->VK->Prop)(f:j4):Prop:=∀(T M:zu->Prop) (H:Hp) (l:zu) (g vs:zy V) (xs h:zy PV) (Q:VK) (i:zy PV->Prop),H l=some (.lst g)->A3 K T M H g xs->A3 K T M H vs h->f xs h i->
 (∀c d,A3 K T M H c d->i d->Q .non (upd H l (.lst c)))->r (.ref l) vs H Q
def F3 (i:Nat)(f:j4)(r:AA):AS:=λD τ=>K9 i τ λxs=>r τ λc=>f xs c λd=>D.nx (τ.set i (some (.own d)))
def ay {K:AAB}{i:Nat}{l:V->zy V->Hp->VK->Prop}{f:j4}{t:TA}{r:AA}(u:gJ K l f)(s:gI K t r):Yw K (fk (uC K "list" l (IF i) t)) (F3 i f r):=λB T m τ H D E d h v=>by obtain⟨xs,e,h⟩:=P0 h;obtain⟨p,vs,n,hp,w,F,o,G⟩:=d.own i xs e;refine⟨.ref p,n, .inl ⟨rfl,vs, .inl (.inl hp)⟩,s B T m τ H _ _ d h λx y T1 H1 c z h2=> ?_⟩;have g:=d.stp c;refine u T1 (mt B m τ) H1 p vs x xs y _ _ (c.keep _ _ o hp) (w.stp c d.va) z h2 λA I C h3=> ?_;obtain⟨j,k⟩:=g.write (i:=i) (xs:=xs) e n (c.keep _ _ o hp) C;exact v.nx T1 _ _ _ (c.prog.trans k) j h3
def E1 {i:Nat}{x name:Str}{es:zy zr}{id:String}{d:V->zy V->Hp->VK->Prop}{f:j4}{r:AA}{p apos c:Pos}(slot:Slot "list" name id)(h:typeOf (.builtin id)=pure (.type "method_descriptor"))(g:pT X id d/\gJ X.K d f)(ha:SA X (e::es) r)(hN:X.N[i]? =some x:=by rfl)(hv:fM X.env.scope x:=by first | exact Or.inl rfl|exact Or.inr (Or.inl rfl)|exact Or.inr (Or.inr rfl))(hd:(x==("__debug__" :Str))=false:=by decide)(j:(x==("__classdict__" :Str))=false:=by decide)(k:attributeBase (.Name x p) name X.env (eval (.Name x p) X.env)=eval (.Name x p) X.env:=by rfl)(l:((backTo c (starEach (e::es) X.env)).all (λx=> !x.1)&&(backToKw c (keywordEach [] X.env)).all (λx=>x.1.isSome) && decide ((e::es).length+([] :zy Keyword).length+(if ([] :zy Keyword).isEmpty then 0 else 1)<30))=true:=by rfl)(m:(apos.endLine==c.line)=true:=by rfl)(hs:starEach (e::es) X.env=(false,eval e X.env)::starEach es X.env:=by rfl)(n:(backTo c (starEach es X.env)).any (·.1)=false:=by rfl)(o:swapsWith (.Call (.Attribute (.Name x p) name apos) (e::es) [] c) none pos.line X.env=pure false:=by rfl):SS X (.Expr (.Call (.Attribute (.Name x p) name apos) (e::es) [] c) pos) (F3 i f r):=by obtain⟨t,u,s⟩:=ha;exact⟨_,di (mQ PySem.F.plainAttrs_list slot h g.1 (M7 hN hv hd j) u k l m hs n) o,ay g.2 s⟩
def LG:j4:=λxs c Q=>match c with | [y] =>xs.length<sizeLine/\Q (xs ++ [y])|_=>False
def DG:pT X "list.append" Qx/\gJ X.K Qx LG:=by
 refine⟨O8,λT M H l d vs xs i Q j hl c f h k=> ?_⟩;unfold LG at h;split at h <;> first | exact h.elim|skip
 cases f with
 | cons g t=> cases t;exact⟨l,d,_,rfl,rfl,hl,by rw[c.length];exact h.1,k _ _ (c.append (.cons g .nil)) h.2⟩
def og (o:zt Nat)(R:Nat->Prop):Prop:=match o with | some j=>R j|none=>False
def iV {o:zt Nat}{R:Nat->Prop}(h:og o R):∃z,o=some z/\R z:=by cases o <;> first | exact⟨_,rfl,h⟩|exact h.elim
def gQ (i:Nat)(c ta:AE):AS:=λD τ=>ta τ λy=>K9 i τ λxs=>c τ λk=>RY k λk=>og (WO xs.length k) λj=>D.nx (τ.set i (some (.own (xs.set j y))))
def jc {i:Nat}{x:Str}{ix:zr}{u:AE}{p c:Pos}(hi:SE X ix u)(he:SE X e ta)(hN:X.N[i]? =some x:=by rfl)(hv:fM X.env.scope x:=by first | exact Or.inl rfl|exact Or.inr (Or.inl rfl)|exact Or.inr (Or.inr rfl))(hd:(x==("__debug__" :Str))=false:=by decide)(I:(x==("__classdict__" :Str))=false:=by decide)(ha:∀v,assign (.Subscript (.Name x p) ix c) X.env v=(do
   let g <-holding [v] (eval (.Name x p) X.env);let l <-holding [v,g] (eval ix X.env)
   standAt c
   holding [v,g,l] (setItem g l v)
   release [v,g,l] []):=by intro _;rfl)(hs:swapsWithSole [.Subscript (.Name x p) ix c] e pos.line X.env=pure false:=by rfl)(hw:swappedStores [.Subscript (.Name x p) ix c] e X.env=pure none:=by rfl)(h1:(assignEach [.Subscript (.Name x p) ix c] X.env).map (·.2)= [assign (.Subscript (.Name x p) ix c) X.env] :=by rfl):SS X (.Assign [.Subscript (.Name x p) ix c] e pos) (gQ i u ta):=by obtain⟨t,J,s⟩:=hi;obtain⟨t',m,K⟩:=he;refine⟨_,Qt m (U5 (M7 hN hv hd I) J JF ha) hs hw h1,λB T z τ H D R A h L=>K B T z τ H _ _ A h λv y T1 H1 C M h1=> ?_⟩;have d:=A.stp C;obtain⟨xs,e,h1⟩:=P0 h1;obtain⟨q,vs,E,hp,F,S,G,U⟩:=d.own i xs e;refine⟨.ref q,E,s B T1 z τ H1 _ _ d h1 λw k O W f P h3=> ?_⟩;obtain⟨k,rfl,h3⟩:=GQ h3;obtain⟨j,Q,h3⟩:=iV h3;cases P.toI;have n:=d.stp f;obtain⟨o,r⟩:=n.write (i:=i) (xs:=xs) e E (f.keep _ _ G hp) (((F.stp f d.va)).set (M.stp f d.va) j);exact⟨q,vs,k,j,rfl,rfl,f.keep _ _ G hp,by rw[F.length];exact Q,L.nx O _ _ _ ((C.trans f).prog.trans r) o h3⟩
end
section
variable {X:Cx}{st:Stmt}{e:zr}{pos:Pos}{a b:AS}{ta:AE}
def Tf (c:AT)(b:AS)(D:F9):Nat->BE->Prop
 | 0,_=>False
 | n+1,τ=>c (frz τ) λk=>if k=true then b {D with nx:=Tf c b D n,ct:=Tf c b D n,bk:=D.nx} τ else D.nx τ
def P3 (c:AT)(b:AS):AS:=λD τ=>∃n,Tf c b D n τ
def NY {c:zr}{body:zy Stmt}{v:AT}(hp:PassesOwn (model X.prog X.w) X.A X.env X.xe)(hc:Vn X c v)(hb:XG X body b):SS X (.While c body [] pos) (P3 v b):=by
 obtain⟨t,p,s⟩:=hc;obtain⟨t',G,I⟩:=hb;refine⟨_,aX hp p G,λB T y τ H D z J h C=> ?_⟩;obtain⟨n,h⟩:=h;refine⟨λm f H1=>∃T1 d,SR X.K B T1 H1 f d/\E4 T H y τ T1 H1 f d/\Tf v b z m d,⟨n,T,τ,J, .refl,h⟩, ?_⟩;rintro m f H1 ⟨T1,d,l,g,h1⟩;cases m with
 | zero=>exact h1.elim
 | succ m=>
   refine s B T1 f (frz d) H1 _ _ l.frz h1 λk E F x h2=> ?_;have o:=l.stp x;have r:=(C.shift g).shift x.prog;cases k with
   | false=>rw[AAD AAS] at h2 ⊢;exact r.nx E F f d .refl o h2
   | true=> rw[AAE rfl] at h2 ⊢;refine⟨λσ' u=>∃j τ',SR X.K B j u σ' τ'/\E4 T H y τ j u σ' τ'/\Tf v b z m τ',λσ' u q=>⟨m,Nat.lt_succ_self m,q⟩, ?_⟩;exact I B E f d F _ _ o h2 ⟨λj u σ' τ' q i h'=>⟨j,τ',i,(g.trans x.prog).trans q,h'⟩,r.nx,λj u σ' τ' q i h'=>⟨j,τ',i,(g.trans x.prog).trans q,h'⟩,C.rt⟩
abbrev AI:=BE->(zy PV->Prop)->Prop
structure Rq (K:AAB) (M:Addr->Prop) (J:It) (xs:List PV) (T:Addr->Prop) (H:Hp):Prop where
 go:∀i y,xs[i]? =some y->J.go i H
 yld:∀i y v H',xs[i]? =some y->J.yld i H v H'->C3 T H T H'/\CZ K T M H' v y
 stop:∀i,xs.length<=i->J.stop i H
def cQ (T:zu->Prop)(H c:Hp):Prop:=∀b o,¬T b->H b=some o->c b=some o
def lA (K:AAB)(s:zq)(j:TI)(k:AI):Prop:=∀(B:Ct) (T:zu->Prop) (f:L2.St) (τ:BE) (H:Hp) (R:It->Hp->Prop) (i:zy PV->Prop),SR K B T H f τ->k τ i->
 (∀J xs g c,C3 T H g c->(∀M2 h d,Mv K g (mt B f τ) c h M2 d->Jg h M2 d->(s=true\/cQ g c d)->Rq K M2 J xs h d)->i xs->R J c)->j f H R
def SI (X:Cx)(d iter:zr)(s:zq)(f:AI):Prop:=∃c,PI X d iter c/\lA X.K s c f
def qb (K:AAB)(c:TE):TI:=λd H R=>c d H λx H1=>∃a,x= .ref a/\(((∃xs,Fe K H1 a xs)/\R (pO K a) H1)\/((∃xs,Nh K H1 a xs)/\R (pP K a) H1))
def i6 {j l:zr}{i:TE}(hl:PE X l i):PI X j l (qb X.K i):=by
 intro k s m H R I h;refine BY (hl k s m H _ I h) λv c ⟨x,H1,d,n,r⟩=> ?_;obtain⟨a,e,q⟩:=r;subst e;cases n;rcases q with⟨⟨xs,g⟩,q⟩|⟨⟨xs,g⟩,q⟩
 .obtain ⟨f,rv,p,t⟩:=d.list g;refine ADg p.isList ?_;refine⟨c.heap.objs.size, [c.heap.objs.size],_,_,H1,rfl,d.kept (t':=c.toks) λb o e=>AAH _ e,YS a _,⟨_,AAO _ rfl,rfl,rfl⟩,λb hb=> ?_,q⟩;have e:b=c.heap.objs.size:=by simpa using hb
  subst e;exact d.fpOk (AAJ _) (d.hok.fresh (AAJ _))
 .obtain ⟨f,rv,p,t⟩:=d.tuple g;refine wpAny_pyIter_tuple (show c.heap.IsTuple a f.toArray from p) ?_;refine⟨c.heap.objs.size, [c.heap.objs.size],_,_,H1,rfl,d.kept (t':=c.toks) λb o e=>AAH _ e,Vh a _,⟨_,AAO _ rfl,rfl,rfl⟩,λb hb=> ?_,q⟩;have e:b=c.heap.objs.size:=by simpa using hb
  subst e;exact d.fpOk (AAJ _) (d.hok.fresh (AAJ _))
def LA (ta:AE):AI:=λτ Q=>ta τ λx=>M6 x Q
def Zh {K:AAB}{T M:zu->Prop}{H:Hp}{a:zu}{xs:zy PV}(va:Jg T M H)(r:CZ K T M H (.ref a) (.tup xs)):Rq K M (pP K a) xs T H:=by
 obtain⟨k,vs,e,c,d⟩:=Gj r;cases e;refine⟨λi y h=> ?_,λi y v l h f=> ?_,λi h=>⟨vs,c,by rw[d.length];exact h⟩⟩
 .obtain ⟨v,hv,_⟩:=d.get h;exact⟨vs,v,c,hv⟩
 .obtain ⟨rfl,f⟩:=f;obtain⟨z,g,j⟩:=d.get' (f vs c);rw[h] at g;cases g;exact⟨.refl va.tp,j⟩
def Zg {K:AAB}{T M:zu->Prop}{H:Hp}{a:zu}{vs:zy V}{xs:zy PV}(va:Jg T M H)(j:H a=some (.lst vs))(c:A3 K T M H vs xs):Rq K M (pO K a) xs T H:=by
 have d:Fe K H a vs:= .inl (.inl j);refine⟨λi y h=> ?_,λi y v l h f=> ?_,λi h=>⟨vs,d,by rw[c.length];exact h⟩⟩
 .obtain ⟨v,hv,_⟩:=c.get h;exact⟨vs,v,d,hv⟩
 .obtain ⟨rfl,f⟩:=f;obtain⟨z,g,k⟩:=c.get' (f vs d);rw[h] at g;cases g;exact⟨.refl va.tp,k⟩
def Ec {j:zr}(h:SE X e ta):SI X j e true (LA ta):=by
 obtain⟨t,p,s⟩:=h;refine⟨_,i6 p,λB T l τ H R y m h k=>s B T l τ H _ _ m h λv x T1 H1 i c h1=> ?_⟩;obtain⟨xs,hx,q⟩:=GR h1;rcases hx with rfl|rfl
 .obtain ⟨a,vs,rfl,d,n⟩:=Gj c;refine⟨a,rfl, .inr ⟨⟨vs,d⟩,k _ xs T1 H1 i (λM2 o r f va _=>Zh va (c.mv f)) q⟩⟩
 .obtain ⟨a,vs,rfl,d,z,A,n⟩:=Ed c;refine⟨a,rfl, .inl ⟨⟨vs, .inl (.inl d)⟩,k _ xs T1 H1 i (λM2 o r f va _=> ?_) q⟩⟩;obtain⟨C,u,e',w,_,_,g⟩:=Ed (c.mv f);cases e';exact Zg va w g
def rng (lo:Int)(n:Nat):zy PV:=(List.range n).map λ(k:Nat)=> .int (lo+(k:Int))
def Sa {K:AAB}{T M:zu->Prop}{H:Hp}{lo:Int}{n:Nat}(va:Jg T M H):Rq K M (kg lo n) (rng lo n) T H:=by
 have hl:(rng lo n).length=n:=by simp[rng]
 refine⟨λi y h=> ?_,λi y v d h c=> ?_,λi h=>by rw[hl] at h;exact h⟩
 .have:=(AA1.mp h).1;rw[hl] at this;exact this
 .obtain ⟨rfl,rfl⟩:=c;have hi:=(AA1.mp h).1;rw[hl] at hi;have:y= .int (lo+(i:Int)):=by simp[rng,List.getElem?_range hi] at h;exact h.symm
  subst this;exact⟨.refl va.tp, .int _⟩
def N6 (r:AA):AI:=λτ Q=>r τ λxs=>match xs with | [.int j] =>(-(2^62)<=j/\j<2^62)/\Q (rng 0 j.toNat)|_=>False
def lD (r:AA):AI:=λτ Q=>r τ λxs=>match xs with | [.int i, .int j] =>(-(2^62)<=i/\i<2^62/\ -(2^62)<=j/\j<2^62)/\Q (rng i (j-i).toNat)|_=>False
def Kb {d c:zr}{r:AA}{p:Pos}(f:Gl X "range")(g:X.mg "range" =none)(ha:SA X [c] r)(hs:starEach [c] X.env= [(false,eval c X.env)] :=by rfl):SI X d (.Call (.Name "range" p) [c] [] pos) true (N6 r):=by
 obtain⟨t,i,s⟩:=ha;refine⟨_,YB f g i hs,λB T j τ H R o l h k=>s B T j τ H _ _ l h λvs xs T1 H1 m n h1=> ?_⟩;split at h1 <;> first | exact h1.elim|skip
 cases n with
 | cons r t=> cases t;cases r;exact⟨_,rfl,h1.1.1,h1.1.2,k _ _ T1 H1 m (λM2 u v w va _=>Sa va) h1.2⟩
def nL {f c d:zr}{r:AA}{p:Pos}(g:Gl X "range")(i:X.mg "range" =none)(ha:SA X [c,d] r)(hs:starEach [c,d] X.env= [(false,eval c X.env),(false,eval d X.env)] :=by rfl)(j:starEach [d] X.env= [(false,eval d X.env)] :=by rfl):SI X f (.Call (.Name "range" p) [c,d] [] pos) true (lD r):=by
 obtain⟨t,l,s⟩:=ha;refine⟨_,YC g i l hs j,λB T m τ H R w n h k=>s B T m τ H _ _ n h λvs xs T1 H1 o u h1=> ?_⟩;split at h1 <;> first | exact h1.elim|skip
 cases u with
 | cons r t=>
   cases t with
   | cons v t=> cases t;cases r;cases v;exact⟨_,_,rfl,h1.1,k _ _ T1 H1 o (λM2 x y z va _=>Sa va) h1.2⟩
def LP (xs c:zy PV):zy PV:=List.zipWith (λx y=> .tup [x,y]) xs c
def lh (K:AAB)(ta:TA):TI:=λd H R=>ta d H λvs H1=>∃b c l m,vs= [.ref l, .ref m] /\(∃xs,Sq K b H1 l xs)/\(∃f,Sq K c H1 m f)/\R (pQ K b c l m) H1
def dX {e f:zr}{ta:TA}{p pos g:Pos}{es:zy zr}{w:Nat}(x:Gl X "zip")(y:X.mg "zip" =none)(ha:PA X [e,f] ta)(hs:starEach [e,f] X.env= [(false,eval e X.env),(false,eval f X.env)] :=by rfl)(t:starEach [f] X.env= [(false,eval f X.env)] :=by rfl):PI X (.Tuple es w g) (.Call (.Name "zip" p) [e,f] [] pos) (lh X.K ta):=by
 intro z s A H R I h;refine Call_ (Hi I x y boot_zip (ACB (BY (ha pos z s A H _ I h) λB d ⟨vs,H1,i,C,D⟩=> ?_) (by rw[hs,t]) (by rw[t];rfl)));obtain⟨b,c,l,m,rfl,⟨xs,hl⟩,⟨L,E⟩,q⟩:=D;cases C with
 | cons r j=>
 cases j with
 | cons F j=>
 cases j;cases r;cases F;obtain⟨B,M,u,_⟩:=i.sq hl;obtain⟨vs,rv,sv,_⟩:=i.sq E;have k:l<d.heap.objs.size:=by cases b <;> (obtain⟨o,e,_⟩:=u;exact AAF e)
 have n:m<d.heap.objs.size:=by cases c <;> (obtain⟨o,e,_⟩:=sv;exact AAF e)
 refine jx u sv λh1 Z G=>ACv Z.zip ?_;refine⟨_,_,_,_,H1,rfl,i.kept (t':=d.toks) G,bR (zipApart_new k n),Z,λp hp=> ?_,q⟩;have v:d.heap.objs.size<=p:=by
  have J:p=d.heap.objs.size+4\/p=d.heap.objs.size+2\/p=d.heap.objs.size+3\/p=d.heap.objs.size\/p=d.heap.objs.size+1:=by simpa using hp
  rcases J with e|e|e|e|e <;> (rw[e];omega)
 exact i.fpOk v (i.hok.fresh v)
def Y5:PV->zq | .lst _=>true|_=>false
def HL {K:AAB}{T M:zu->Prop}{H:Hp}{v:V}{x:PV}{xs:zy PV}(hx:x= .tup xs\/x= .lst xs)(r:CZ K T M H v x):∃a vs,v= .ref a/\Sq K (Y5 x) H a vs/\A3 K T M H vs xs:=by
 rcases hx with rfl|rfl
 .obtain ⟨a,vs,rfl,c,d⟩:=Gj r;exact⟨a,vs,rfl,c,d⟩
 .obtain ⟨a,vs,rfl,c,_,_,d⟩:=Ed r;exact⟨a,vs,rfl, .inl (.inl c),d⟩
def Zi {K:AAB}{T M:zu->Prop}{H:Hp}{l m:zu}{x y:PV}{xs c:zy PV}(va:Jg T M H)(hx:x= .tup xs\/x= .lst xs)(C:y= .tup c\/y= .lst c)(r:CZ K T M H (.ref l) x)(D:CZ K T M H (.ref m) y):Rq K M (pQ K (Y5 x) (Y5 y) l m) (LP xs c) T H:=by
 obtain⟨_,vs,e,g,j⟩:=HL hx r;cases e;obtain⟨_,k,e,n,d⟩:=HL C D;cases e;have t:∀i z,(LP xs c)[i]? =some z->∃a b,xs[i]? =some a/\c[i]? =some b/\z=PV.tup [a,b] :=λi z h=>by
  unfold LP at h;rw[List.getElem?_zipWith] at h;cases f:xs[i]? with
  | none=>rw[f] at h;cases h
  | some a=>
    cases s:c[i]? with
    | none=>rw[f,s] at h;cases h
    | some b=>rw[f,s] at h;cases h;exact⟨a,b,by first | rfl|exact f,by first | rfl|exact s,rfl⟩
 refine⟨λi z h=> ?_,λi z v I h E=> ?_,λi h=>⟨vs,k,g,n, ?_⟩⟩
 .obtain ⟨a,b,ha,hb,_⟩:=t i z h;obtain⟨u,hu,_⟩:=j.get ha;obtain⟨w,hw,_⟩:=d.get hb;exact⟨vs,k,u,w,g,n,hu,hw⟩
 .obtain ⟨a,b,ha,hb,rfl⟩:=t i z h;obtain⟨p,u,w,rfl,F,rfl,hu,hw⟩:=E;obtain⟨J,A,ra⟩:=j.get' (hu vs g);obtain⟨b',B,G⟩:=d.get' (hw k n);rw[ha] at A;cases A;rw[hb] at B;cases B;have st:=C3.lay (o:= .tup [u,w]) va.tp F;exact⟨st, .tup (.inl Ah) (.cons (ra.stp st va) (.cons (G.stp st va) .nil))⟩
 .rw [j.length,d.length];have:(LP xs c).length=min xs.length c.length:=by simp[LP]
  omega
def j8 (r:AA):AI:=λτ Q=>r τ λc=>match c with | [x,y] =>M6 x λxs=>M6 y λd=>Q (LP xs d)|_=>False
def d8 {e f:zr}{r:AA}{p pos c:Pos}{es:zy zr}{j:Nat}(n:Gl X "zip")(o:X.mg "zip" =none)(ha:SA X [e,f] r)(hs:starEach [e,f] X.env= [(false,eval e X.env),(false,eval f X.env)] :=by rfl)(u:starEach [f] X.env= [(false,eval f X.env)] :=by rfl):SI X (.Tuple es j c) (.Call (.Name "zip" p) [e,f] [] pos) true (j8 r):=by
 obtain⟨t,v,s⟩:=ha;refine⟨_,dX n o v hs u,λB T w τ H R J z h k=>s B T w τ H _ _ z h λvs xs T1 H1 A C h1=> ?_⟩;split at h1 <;> first | exact h1.elim|skip
 rename_i x y;obtain⟨xs,hx,h2⟩:=GR h1;obtain⟨K,d,h3⟩:=GR h2;cases C with
 | cons ra t=>
   cases t with
   | cons g t=> cases t;obtain⟨l,D,rfl,E,L⟩:=HL hx ra;obtain⟨m,F,rfl,G,I⟩:=HL d g;exact⟨Y5 x,Y5 y,l,m,rfl,⟨D,E⟩,⟨F,G⟩,k _ _ T1 H1 A (λM2 M N i va _=>Zi va hx d (ra.mv i) (g.mv i)) h3⟩
def DF (g:AG)(b:AS)(D:F9):zy PV->BE->Prop
 | [],τ=>D.nx τ
 | x::r,τ=>g x τ λc=>b {D with nx:=DF g b D r,ct:=DF g b D r,bk:=D.nx} c
def FH (c:AI)(g:AG)(b:AS):AS:=λD τ=>c τ λxs=>DF g b D xs τ
def E4.mvv {K:AAB}{B:Ct}{T d:zu->Prop}{H f:Hp}{c σ':L2.St}{τ τ':BE}(s:SR K B T H c τ)(p:E4 T H c τ d f σ' τ'):Mv K T (mt B c τ) H d (mt B σ' τ') f:=
 ⟨s.va,λb o t m e=>p.keep b o t (λz=>m (.inr z)) e,p.sub,λb n t=>(p.new b t).elim id λz=>absurd z n,λb n m=>m.elim .inl λz=>(p.own b z).elim .inr λz=>absurd z n⟩
def CK {C iter:zr}{body:zy Stmt}{N:AI}{g:AG}(hp:PassesOwn (model X.prog X.w) X.A X.env X.xe)(hc:X.calm=true)(hi:SI X C iter true N)(U:SG X C g)(hb:XG X body b)(hs:∀x,foldedSetIterable iter X.env x=pure x:=by intro _;rfl):SS X (.For C iter body [] pos) (FH N g b):=by
 obtain⟨wi,W,Y⟩:=hi;obtain⟨Z,pg,sg⟩:=U;obtain⟨tb,pb,sb⟩:=hb;refine⟨_,aU hp hc W pg pb hs,λB T y τ H D O P h E=>Y B T y τ H _ _ P h λJ xs T1 H1 F walk h1=> ?_⟩;have p:=P.stp F;refine⟨λi m d r=>m=xs.length-i/\∃f c,SR X.K B f r d c/\E4 T1 H1 y τ f r d c/\DF g b O (xs.drop i) c,⟨_,rfl,T1,τ,p, .refl,h1⟩, ?_⟩;rintro i m d r ⟨rfl,f,c,k,l,h2⟩;have w:=walk _ f r (l.mvv p) k.va (.inl rfl);have G:=(E.shift F.prog).shift l;by_cases Q:i<xs.length
 .have R:xs[i]? =some xs[i] :=AAd Q;rw[ADh Q] at h2;refine .inr ⟨w.go i _ R,λσ' s=>∃j τ',SR X.K B j s σ' τ'/\E4 T1 H1 y τ j s σ' τ'/\DF g b O (xs.drop (i+1)) τ',λσ' s ⟨j,τ',q1,q2,q3⟩=>⟨_,by omega,rfl,j,τ',q1,q2,q3⟩,λv z yl=> ?_⟩;obtain⟨S,r3⟩:=w.yld i _ v z R yl;have I:=k.stp S;refine sg B f d c z v _ _ _ I r3 h2 λt u L o4 h4=> ?_;have n:E4 T1 H1 y τ f z t u:=(l.trans S.prog).trans (.less o4);have M:=(E.shift F.prog).shift n;exact sb B f t u z _ _ L h4 ⟨λj s σ' τ' q o h'=>⟨j,τ',o,n.trans q,h'⟩,M.nx,λj s σ' τ' q o h'=>⟨j,τ',o,n.trans q,h'⟩,E.rt⟩
 .rw [AEB (by omega)] at h2;exact .inl ⟨w.stop i (by omega),G.nx f r d c .refl k h2⟩
def XN:zt AV->zt AV|some (.val x)=>some (.val x)|_=>none
def N7 (own:Nat)(ix:zy Nat)(τ:BE):BE:=List.replicate own none++ix.map λi=>XN (RX τ i)
def Ca (g:AG)(t:AT)(f:AE)(c:BE)(Q:zy PV->Prop):zy PV->zy PV->Prop
 | [],acc=>Q acc
 | x::r,acc=>g x c λd=>t d λok=>if ok=true then f d λy=>Ca g t f c Q r (acc ++ [y]) else Ca g t f c Q r acc
def Bs (c:AI)(own:Nat)(ix:zy Nat)(g:AG)(t:AT)(d:AE):AA:=λτ Q=>c τ λxs=>xs.length<sizeLine/\Ca g t d (N7 own ix τ) Q xs []
def Y7 {own:Nat}{ix:zy Nat}{τ:BE}{j:Nat}{x:PV}(h:(N7 own ix τ)[j]? =some (some (.val x))):own<=j/\∃i,ix[j-own]? =some i/\τ[i]? =some (some (.val x)):=by
 unfold N7 at h;by_cases hj:j<own
 .rw [ABN (by simpa using hj),ABV,AAE hj] at h;cases h
 .rw [ABG (by simpa using hj),ABW,AAl] at h;cases e:ix[j-own]? with
  | none=>rw[e] at h;cases h
  | some i=>
    rw[e] at h;refine⟨by omega,i,rfl,My ?_⟩;cases c:RX τ i with
    | none=>simp[c,XN] at h
    | some z=>cases z <;> simp[c,XN] at h;subst h;rfl
def Ib {own:Nat}{ix:zy Nat}{τ:BE}{j:Nat}{xs:zy PV}:(N7 own ix τ)[j]? ≠some (some (.own xs)):=λh=>by
 unfold N7 at h;by_cases hj:j<own
 .rw [ABN (by simpa using hj),ABV,AAE hj] at h;cases h
 .rw [ABG (by simpa using hj),ABW,AAl] at h;cases e:ix[j-own]? with
  | none=>rw[e] at h;cases h
  | some i=>
    rw[e] at h;cases c:RX τ i with
    | none=>simp[c,XN] at h
    | some z=>cases z <;> simp[c,XN] at h
def Ct.blk (B:Ct)(c:L2.St)(τ:BE)(D:zu):Ct:=⟨B.T,B.H,λa=>mt B c τ a\/a=D⟩
def SR.blk {K:AAB}{B:Ct}{T d:zu->Prop}{H f:Hp}{c:L2.St}{τ:BE}{D:zu}{h:zy V}{own:Nat}{ix:zy Nat}(s:SR K B T H c τ)(q:C3 T H d f)(l:H D=none)(hd:f D=some (.lst h))(u:¬d D):SR K (B.blk c τ D) d f (CO own ix c) (N7 own ix τ):=by
 have g:=s.stp q;have w:Mv K T (mt B c τ) H d (mt (B.blk c τ D) (CO own ix c) (N7 own ix τ)) f:=⟨s.va,λb o t _ e=>q.keep b o t e,q.sub,λb n t=>(q.new b t).elim id λz=>absurd z n,λb n z=>by
  rcases z with(z|z)|⟨_,_,z,_⟩
  .exact z
  .subst z;exact absurd l n
  .exact absurd z Ib⟩
 refine⟨by simp[CO,N7],λj x e=> ?_,λj xs e=>absurd e Ib,λj k xs y p e=>absurd e Ib,g.tp,λa m=> ?_,λa m=> ?_,g.st⟩
 .obtain ⟨hj,i,hi,e'⟩:=Y7 e;obtain⟨v,hv,r⟩:=s.val i x e';refine⟨v, ?_,r.mv w⟩;unfold CO;rw[ABG (by simpa using hj),ABW,AAl,hi];simp[hv]
 .rcases m with m|m
  .exact g.va.mu a m
  .subst m;exact⟨_,hd,K6.lst⟩
 .rcases m with m|m
  .exact g.nt m
  .subst m;exact u
def ku (X:Cx)(c:zy zr)(t:AT):Prop:=∃d,fJ X c d/\UA X.K d t
def Dh:AT:=λ_ Q=>Q true
def Ba:ku X [] Dh:=⟨_,We,λB T d τ H Q f c h k=>k true T H (.refl c.tp) h⟩
def RI {c:zr}{t:AT}(h:Vn X c t):ku X [c] t:=let ⟨_,p,s⟩:=h;⟨_,dY p,s⟩
def NO {K:AAB}{s:zq}{wi:TI}{ai:AI}{own:Nat}{ix:zy Nat}{g:TG}{ag:AG}{tt:TT}{C:AT}{te:TE}(hi:lA K s wi ai)(hg:Pz K g ag)(ht:UA K tt C)(he:K8 K te ta):cT K (bI wi own ix g tt te) (Bs ai own ix ag C ta):=by
 intro B T E τ H Q AQ sr h k;refine hi B T E τ H _ _ sr h λJ xs T1 H1 s1 walk h1 D F=> ?_;obtain⟨hl,h1⟩:=h1;have j:=sr.stp s1;have nt1:¬T1 D:=λz=>by obtain⟨o,e,_⟩:=(j.tp D z).mut;rw[F] at e;cases e
 have lay:=C3.lay (o:= .lst []) j.tp F;refine⟨λi m G=>m=xs.length-i/\∃p vs c,C3 T1 H1 p G/\G D=some (.lst vs)/\¬p D/\A3 K p (λa=>mt B E τ a\/a=D) G vs c/\c.length<=i/\Ca ag C ta (N7 own ix τ) AQ (xs.drop i) c,
  ⟨_,rfl,T1, [], [],lay,Ah,nt1, .nil,AAJ _,h1⟩, ?_⟩
 rintro i m G ⟨rfl,p,vs,c,r,Z,f,r2,gr,h2⟩;have I:=j.blk (own:=own) (ix:=ix) r F Z f;have L:Jg p (λa=>mt B E τ a\/a=D) G:=⟨I.tp,I.bm⟩;have w:=walk (λa=>mt B E τ a\/a=D) p G ⟨j.va,λb o t _ e=>r.keep b o t e,r.sub,λb n t=>(r.new b t).elim id λz=>absurd z n,λb n z=>z.elim id λz=>by subst z;exact absurd F n⟩ L (.inr r.keep);by_cases Hg:i<xs.length
 .have Za:xs[i]? =some xs[i] :=AAd Hg;rw[ADh Hg] at h2;refine .inr ⟨w.go i _ Za,λv H3 yl=> ?_⟩;obtain⟨P,r3⟩:=w.yld i _ v H3 Za yl;have l:=I.stp P;refine hg _ p _ _ H3 v _ _ _ l (r3.mv (.anti ⟨l.tp,l.bm⟩ λa z=>z.elim id λ⟨_,_,z,_⟩=>absurd z Ib)) h2 λR S U o4 h4=> ?_;refine ht _ p R S H3 _ _ U h4 λok T5 H5 N h5=> ?_;have u:=U.stp N;have kB:=P.keep D _ f Z;have oO:=N.keep D _ f kB;have M:¬T5 D:=λz=>(N.new D z).elim f λn=>by rw[n] at kB;cases kB
  have r5:=(r2.stp P L).stp N ⟨l.tp,l.bm⟩;cases ok with
  | false=> rw[AAD AAS] at h5 ⊢;exact⟨_,by omega,rfl,T5,vs,c,(r.trans P).trans N,oO,M,r5,by omega,h5⟩
  | true=>
    rw[AAE rfl] at h5 ⊢;refine he _ T5 R S H5 _ _ u h5 λvy y O H6 W r6 h6=> ?_;have A:=u.stp W;have wL:=W.keep D _ M oO;have Y:¬O D:=λz=>(W.new D z).elim M λn=>by rw[n] at oO;cases oO
    have va6:Jg O (λa=>mt B E τ a\/a=D) H6:=⟨A.tp,A.bm⟩;have r7:=r5.stp W ⟨u.tp,u.bm⟩;have s7:=((r.trans P).trans N).trans W;have tp8:∀a,O a->E7 (upd H6 D (.lst (vs ++ [vy]))) a:=λa t=>by obtain⟨d,x,e,z⟩:=A.tp a t;exact⟨d,x,by rw[Ag (λw=>by subst w;exact Y t)];exact e,z⟩
    have mv8:Mv K O (λa=>mt B E τ a\/a=D) H6 O (λa=>mt B E τ a\/a=D) (upd H6 D (.lst (vs ++ [vy]))):=⟨va6,λb o _ m e=>by rw[Ag (λw=>m (.inr w))];exact e,λ_ t=>t,λ_ _ t=>t,λ_ _ z=>z⟩;refine⟨vs,wL,by rw[r2.length];omega,_,(by omega:xs.length-(i+1)<xs.length-i),rfl,O,vs ++ [vy],c ++ [y],⟨λb o t e=> ?_,s7.sub,s7.new,tp8⟩,Ah,Y,(r7.append (.cons (r6.mv (.anti A.va λa z=> .inl z)) .nil)).mv mv8,by simp;omega,h6⟩;rw[Ag (Au e F)];exact s7.keep b o t e
 .rw [AEB (by omega)] at h2;refine .inl ⟨w.stop i (by omega), ?_⟩;exact k D vs c p G (s1.trans r) (j.add r F Z K6.lst f) (s1.none F) Z f (r2.mv (.anti L λa z=>by
   rcases z with(z|z)|z
   .exact .inl (.inl z)
   .exact .inr z
   .exact .inl (.inr z))) h2
structure Vk (X:Cx) (tg elt:Expr) (ifs:List Expr) (scope:Scope) (own:Nat) (ix:List Nat) (N:List Str) (g:AG) (t:AT) (te:AE):Prop where
 ex:∃g' t' te',Fa X tg elt ifs scope own ix N g' t' te'/\Pz X.K g' g/\UA X.K t' t/\K8 X.K te' te
def CQ {f c iter:zr}{d:zy zr}{scope:Scope}{own:Nat}{ix:zy Nat}{N:zy Str}{g:AG}{t:AT}{s:zq}{h:AI}(hc:X.calm=true)(hi:SI X f iter s h)(O:Vk X f c d scope own ix N g t ta)(hs:∀x,foldedSetIterable iter X.env x=pure x:=by intro _;rfl):SF X (.ListComp c [⟨f,iter,d,0⟩] scope pos) (Bs h own ix g t ta):=by obtain⟨m,i,j⟩:=hi;obtain⟨g',t',k,O,sg,st,l⟩:=O.ex;exact⟨_,dP hc i O hs,NO j sg st l⟩
def TW {i:Nat}{x:Str}{pos' c:Pos}{h d iter:zr}{f:zy zr}{scope:Scope}{own:Nat}{ix:zy Nat}{N:zy Str}{g:AG}{t:AT}{s:zq}{j:AI}(hc:X.calm=true)(hN:X.N.Nodup)(k:X.N[i]? =some x)(hx:Loc X.env.scope x)(hi:SI X h iter s j)(O:Vk X h d f scope own ix N g t ta)(l:swapsWith (.ListComp d [⟨h,iter,f,0⟩] scope pos) (some (.Name x pos')) c.line X.env=pure true:=by rfl)(hs:∀x,foldedSetIterable iter X.env x=pure x:=by intro _;rfl)(m:X.fn x=true\/X.env.scope.names.lookup x=some .local:=by first | exact .inl rfl|exact .inr rfl|assumption):SS X (.Assign [.Name x pos'] (.ListComp d [⟨h,iter,f,0⟩] scope pos) c) (Jh (Bs j own ix g t ta) i):=by obtain⟨u,n,o⟩:=hi;obtain⟨g',t',p,O,sg,st,r⟩:=O.ex;exact⟨_,Wh hc hN k hx n O l hs m,Wq (NO o sg st r)⟩
def FY {i:Nat}{x:Str}{pos' c:Pos}{h d iter:zr}{f:zy zr}{scope:Scope}{own:Nat}{ix:zy Nat}{N:zy Str}{g:AG}{t:AT}{s:zq}{j:AI}(hc:X.calm=true)(hN:X.N.Nodup)(k:X.N[i]? =some x)(hx:Loc X.env.scope x)(hi:SI X h iter s j)(O:Vk X h d f scope own ix N g t ta)(l:swapsWith (.ListComp d [⟨h,iter,f,0⟩] scope pos) (some (.Name x pos')) c.line X.env=pure true:=by rfl)(hs:∀x,foldedSetIterable iter X.env x=pure x:=by intro _;rfl)(m:X.fn x=true\/X.env.scope.names.lookup x=some .local:=by first | exact .inl rfl|exact .inr rfl|assumption):SS X (.Assign [.Name x pos'] (.ListComp d [⟨h,iter,f,0⟩] scope pos) c) (Ao (G4 (Bs j own ix g t ta)) (Am i)):=by obtain⟨u,n,o⟩:=hi;obtain⟨g',t',p,O,sg,st,r⟩:=O.ex;exact⟨_,Wh hc hN k hx n O l hs m,RK (aw (NO o sg st r)) RL⟩
end
def KC (N:Nat)(xs:zy PV):BE:=xs.map (λx=>some (.val x))++List.replicate (N-xs.length) none
def Ap (N:Nat)(b:AS):AF:=λxs Q=>b {nx:=λ_=>Q .non,rt:=Q,bk:=λ_=>False,ct:=λ_=>False} (KC N xs)
def TX {K:AAB}{T M:zu->Prop}{H:Hp}{N:zy Str}{vs:zy V}{xs:zy PV}(va:Jg T M H)(c:∀a,M a->¬T a)(r:A3 K T M H vs xs):SR K ⟨T,H,M⟩ T H (start N vs) (KC N.length xs):=by
 have d:∀(j:Nat) (b:zy PV),(KC N.length xs)[j]? ≠some (some (.own b)):=λj b h=>by
  unfold KC at h;by_cases hj:j<xs.length
  .rw [ABN (by simpa using hj),AAl,AAd hj] at h;cases h
  .rw [ABG (by simpa using hj),ABV] at h;split at h <;> cases h
 refine⟨by simp[L2.start,KC,r.length],λj x h=> ?_,λj b h=>absurd h (d j b),λj k b e p h=>absurd h (d j b),va.tp,va.mu,c, .refl va.tp⟩;unfold KC at h;by_cases hj:j<xs.length
 .rw [ABN (by simpa using hj),AAl,AAd hj] at h;cases h;obtain⟨v,hv,rv⟩:=r.get (AAd hj);refine⟨v, ?_,rv.mv (.anti va λa m=>m.elim id λ⟨_,_,z,_⟩=>absurd z (d _ _))⟩;unfold L2.start;rw[ABN (by rw[AAL,r.length];exact hj),AAl,hv];rfl
 .rw [ABG (by simpa using hj),ABV] at h;split at h <;> cases h
section
variable {P:zp}{w:zm}{K:AAB}{mg:Str->zt zx}{base:zl}
def ca {x qual:Str}{st:Stmt}{f:zu}{g:FuncData}{N ps:zy Str}{k n:Nat}{b:AS}(F:Vm K x qual st f g)(S:DP N ps (Aq st))(i:n=ps.length)(j:∀(a:zx) (A:zk) (outer:zy Env) (s:zw) (H:Hp) (E:XK),Room k (A.deeper (envOfC qual (Aq st) s.heap.objs.size f a))-> XG (OB MC P w K mg base N qual (Aq st) f a A outer s H E).nox (B8 st) b):Dg P w K mg base MC (k+1) f g ps (Ci K n (Ap N.length b)):=by
 refine F.ok S (λvs H Q E h=> ?_) (λa A outer s H vs Q E l h=> ?_)
 .obtain ⟨T,M,xs,m,_,_,r,hl,_⟩:=h;rw[r.length,hl,i]
 .obtain ⟨T,M,xs,m,va,c,r,hl,hF,hQ⟩:=h;obtain⟨t,p,o⟩:=j a A outer s H E l;refine⟨t,p,o ⟨T,H,M⟩ T _ _ H _ _ (TX va c r) hF ⟨λd e σ' τ' _ u q=> ?_,λ_ _ _ _ _ _ q=>q.elim,λ_ _ _ _ _ _ q=>q.elim,λv x d e y z q=>hQ v x d e y z q⟩⟩;exact hQ _ _ d e u.st .non q
end
section
variable {X:Cx}
def ZC {prog:zp}{w:zm}{A:zk}{E:zx->zw->Prop}{s:zw}{t b:zu}{d:zy zx}{Q:zx->zw->Prop}(j:IsTup s.heap t #[])(hb:IsTup s.heap b d.toArray)(k:Q (.ref b) s):wpAny (model prog w) A (binaryOp .Add (.ref t) (.ref b)) Q E s:=by
 obtain⟨⟨cls,l,data,sl⟩,e,hc,n,hd⟩:=id j;obtain⟨⟨f,a,data2,c⟩,g,h,m,i⟩:=id hb;simp only at hc hd h i;subst hc hd h i;exact concat_meets ⟨_,e,rfl⟩ ⟨_,g,rfl⟩ ADZ seq_tuple_add ADa ADb (ADc _ _)
  (tuple_addW0 t b #[] d.toArray n m l a sl c (by simp)) ⟨e,g,k⟩
def aZ (K:AAB):R2:=λx y H Q=>∃a b c,x= .ref a/\y= .ref b/\Nh K H a [] /\Nh K H b c/\Q (.ref b) H
def aA:EC X (binaryOp .Add) (aZ X.K):=by intro k s l H x y v u Q I d e h;obtain⟨a,b,m,rfl,rfl,ha,hb,q⟩:=h;cases d;cases e;obtain⟨f,g,i,_⟩:=I.tuple ha;obtain⟨c,n,j,_⟩:=I.tuple hb;cases g;exact ZC i j ⟨.ref b,H,I,rfl,q⟩
def fY (K:AAB):R2:=λx y H Q=>((Qy (λi j=>V.int (i+j)) x y H Q\/mV x y H Q)\/fZ K x y H Q)\/aZ K x y H Q
def Bf:IY:=λx y Q=>match x,y with
 | .int i, .int j=>Q (.int (i+j))
 | .lst xs, .lst a=>xs.length+a.length<=sizeLine/\Q (.lst (xs++a))
 | .tup xs, .tup a=>xs.length+a.length<=sizeLine/\Q (.tup (xs++a))
 | _,_=>False
def BG:EC X (binaryOp .Add) (fY X.K)/\CN X.K (fY X.K) Bf:=by
 refine⟨((Hl.or iY).or dJ).or aA,λT M H u v x y Q s va g rv h k=> ?_⟩;unfold Bf at h;split at h <;> first | exact h.elim|skip
 .exact .inl (.inl (.inl ⟨_,_,g.toI,rv.toI,k _ _ T H (.refl va.tp) (.int _) h⟩))
 .obtain ⟨a,vs,rfl,i,t,w,d⟩:=Ed g;obtain⟨b,f,rfl,j,l,m,c⟩:=Ed rv;refine .inl (.inl (.inr ⟨a,b,vs,f,rfl,rfl,i,j,by rw[d.length,c.length];exact h.1,λp hp=> ?_⟩));have st:=C3.lay (o:= .lst (vs++f)) va.tp hp;have n:¬T p:=λz=>by obtain⟨o,e,_⟩:=(va.tp p z).mut;rw[hp] at e;cases e
  have r:¬M p:=λz=>by obtain⟨o,e,_⟩:=va.mu p z;rw[hp] at e;cases e
  exact k _ _ T _ st (.lst Ah n r ((d.append c).stp st va)) h.2
 .obtain ⟨a,vs,rfl,i,d⟩:=Gj g;obtain⟨b,f,rfl,j,c⟩:=Gj rv;by_cases e:vs= []
  .subst e;cases d;exact .inr ⟨a,b,f,rfl,rfl,i,j,k _ _ T H (.refl va.tp) rv (by simpa using h.2)⟩
  .refine .inl (.inr ⟨a,b,vs,f,rfl,rfl,i,j,e,by rw[d.length,c.length];exact h.1,λz=> ?_,λz p hp=> ?_⟩)
   .subst z;cases c;exact k _ _ T H (.refl va.tp) g (by simpa using h.2)
   .have st:=C3.lay (o:= .tup (vs++f)) va.tp hp;exact k _ _ T _ st (.tup (.inl Ah) ((d.append c).stp st va)) h.2
def G5 {prog:zp}{w:zm}{A:zk}{E:zx->zw->Prop}{s:zw}{t sl:zu}{items:Array zx}{b c:zx}{lo hi:zt Int}{Q:zx->zw->Prop}(a:IsTup s.heap t items)(hs:s.heap.IsSliceOf sl b c .none)(d:IsPart b lo)(e:IsPart c hi)(hw:HT.sIx items.size 0 lo=0/\HT.sIx items.size items.size hi=items.size)(h:Q (.ref t) s):wpAny (model prog w) A (getItem (.ref t) (.ref sl)) Q E s:=by
 obtain⟨os,f,g,k⟩:=id hs;have i:s.TypeIs (.ref sl) "slice" :=⟨os,f,g⟩;obtain⟨l,m,n,o,p⟩:=id a;unfold getItem;try with_reducible refine AAa ?_
 first | refine AAA (AAC ?_)|skip
 refine AAA (wpAny_sequenceKey a.typeIs (by decide) ?_);refine AAA (ABX (name:=Str.ofString "__getitem__") a.typeIs ACE
  (AA0 ACE a.typeIs entry_tuple_getitem ?_ (args_tuple_getitem _ _)))
 show wpAny _ _ (Builtin.Tuple.tupleItemsOf (.ref t) >>= _) _ _ s;refine AAA (tupleItemsOf_ a ?_);refine AAA (wpAny_typeOf i ?_);rw[AAE (by decide)];refine AAA (HT.sliceApplied_gen hs d e ?_);have j:((((HT.sIx items.size 0 lo:Nat):Int)==0&&(1:Int)==1&&(HT.sIx items.size items.size hi-HT.sIx items.size 0 lo)==items.size)=true):=by rw[hw.1,hw.2];simp
 show wpAny _ _ (if (((HT.sIx items.size 0 lo:Nat):Int)==0&&(1:Int)==1&&(HT.sIx items.size items.size hi-HT.sIx items.size 0 lo)==items.size)=true then _ else _) _ _ s;rw[AAE j];unfold Builtin.Tuple.tupleIsExact;simp only[bind_assoc,pure_bind];refine AAA (wpAny_typeOf a.typeIs ?_);rw[AAE (by decide)];exact AAA (ABJ (AAC ⟨_,rfl,AAC h⟩))
def qu (K:AAB):V->zt Int->zt Int->Hp->VK->Prop:=λx lo hi H Q=>∃a xs,x= .ref a/\Nh K H a xs/\
 (HT.sIx xs.length 0 lo=0/\HT.sIx xs.length xs.length hi=xs.length)/\Q (.ref a) H
def eQ:fL X (qu X.K):=by
 intro i s j H x v k l lo hi sl Q I d hs e f h;obtain⟨a,xs,rfl,hx,hw,q⟩:=h;cases d;obtain⟨b,r,c,m⟩:=I.tuple hx;have g:b.toArray.size=xs.length:=by rw[AAT];exact r.length.symm
 refine⟨"tuple",_,ACE.lookup,c.typeIs, ?_⟩;exact G5 c hs e f (by rw[g];exact hw) ⟨.ref a,H,I,rfl,q⟩
def GN (xs:zy PV)(lo hi:zt Int):zy PV:=(xs.drop (HT.sIx xs.length 0 lo)).take (HT.sIx xs.length xs.length hi-HT.sIx xs.length 0 lo)
def V2 {K:AAB}{T M:zu->Prop}{H:Hp}{vs:zy V}{xs:zy PV}(r:A3 K T M H vs xs)(lo hi:zt Int):A3 K T M H (OA vs lo hi) (GN xs lo hi):=by unfold OA GN;rw[r.length];exact(r.drop _).take _
abbrev AO:=BE->(zt Int->Prop)->Prop
def pV (K:AAB)(t:TO)(a:AO):Prop:=∀(B:Ct) (T:zu->Prop) (b:L2.St) (τ:BE) (H:Hp) (Q:zt Int->Hp->Prop) (c:zt Int->Prop),SR K B T H b τ->a τ c->
 (∀o e d,C3 T H e d->c o->Q o d)->t b H Q
def SO (X:Cx)(e:zt zr)(a:AO):Prop:=∃t,PO X e t/\pV X.K t a
def Vr:AO:=λ_ Q=>Q none
def Vs (a:AE):AO:=λτ Q=>a τ λx=>RY x λi=>Q (some i)
def Yi:SO X none Vr:=⟨_,dZ,λB T b τ H Q c a h k=>k _ T H (.refl a.tp) h⟩
def Yj {e:zr}{a:AE}(h:SE X e a):SO X (some e) (Vs a):=by obtain⟨t,p,s⟩:=h;refine⟨_,db p,λB T b τ H Q g c h k=>s B T b τ H _ _ c h λv x T1 H1 d f h1=> ?_⟩;obtain⟨i,rfl,q⟩:=GQ h1;exact⟨i,f.toI,k _ T1 H1 d q⟩
@[irreducible] def US (x:PV)(lo hi:zt Int)(Q:PV->Prop):Prop:=match x with | .tup xs=>Q (.tup (GN xs lo hi)) | .lst xs=>Q (.lst (GN xs lo hi))|_=>False
def Fx {xs:zy PV}{lo hi:zt Int}{Q:PV->Prop}(h:Q (.tup (GN xs lo hi))):US (.tup xs) lo hi Q:=by unfold US;exact h
def Dv {xs:zy PV}{lo hi:zt Int}{Q:PV->Prop}(h:Q (.lst (GN xs lo hi))):US (.lst xs) lo hi Q:=by unfold US;exact h
def Vp (a:AE)(l h:AO):AE:=λτ Q=>a τ λx=>l τ λlo=>h τ λhi=>US x lo hi Q
def F5 {e:zr}{lo hi:zt zr}{D pos:Pos}{C:AE}{l h:AO}(he:SE X e C)(hl:SO X lo l)(E:SO X hi h):SE X (.Subscript e (.Slice lo hi none D) pos) (Vp C l h):=by
 obtain⟨t,p,s⟩:=he;obtain⟨N,F,r⟩:=hl;obtain⟨O,u,w⟩:=E;refine⟨_,aM ((eO.or jZ).or eQ) p F u,λB T m τ H Q P d h k=>s B T m τ H _ _ d h λv x T1 H1 f G h1=> ?_⟩;refine r B T1 m τ H1 _ _ (d.stp f) h1 λlo I J g h2=> ?_;refine w B I m τ J _ _ ((d.stp f).stp g) h2 λhi T3 K y h3=> ?_;have b:=((d.stp f).stp g).stp y;have A:=(G.stp g (d.stp f).va).stp y ((d.stp f).stp g).va;have c:=(f.trans g).trans y;unfold US at h3;split at h3 <;> first | exact h3.elim|skip
 .obtain ⟨a,vs,rfl,n,i⟩:=Gj A;by_cases hw:HT.sIx vs.length 0 lo=0/\HT.sIx vs.length vs.length hi=vs.length
  .refine .inr ⟨a,vs,rfl,n,hw,k _ _ T3 K c A ?_⟩;rename_i xs;have:GN xs lo hi=xs:=by unfold GN;rw[<-i.length,hw.1,hw.2,i.length];simp
   rw[this] at h3;exact h3
  .refine .inl (.inr ⟨a,vs,rfl,n,hw,λq j=> ?_⟩);have st:=C3.lay (o:= .tup (OA vs lo hi)) b.tp j;exact k _ _ T3 _ (c.trans st) (.tup (.inl Ah) ((V2 i lo hi).stp st b.va)) h3
 .obtain ⟨a,vs,rfl,n,R,S,i⟩:=Ed A;refine .inl (.inl ⟨a,vs,rfl, .inl (.inl n),λq j=> ?_⟩);have st:=C3.lay (o:= .lst (OA vs lo hi)) b.tp j;have L:¬T3 q:=λz=>by obtain⟨o,e,_⟩:=(b.tp q z).mut;rw[j] at e;cases e
  have M:¬mt B m τ q:=λz=>by obtain⟨o,e,_⟩:=b.va.mu q z;rw[j] at e;cases e
  exact k _ _ T3 _ (c.trans st) (.lst Ah L M ((V2 i lo hi).stp st b.va)) h3
end
def A9:AF:=λxs Q=>match xs with | [.tape, .int m] =>(0<m/\m<4611686018427387904)/\∀r,0<=r->r<m->Q (.int r)|_=>False
def MN:AF:=λxs Q=>match xs with | [.scr ns, .int k] =>(0<=k/\k<=1000)/\Q .tape|_=>False
def kZ (g:TG):Prop:=∀v b H Q c,(∀a d,Q a d->c a d)->g v b H Q->g v b H c
def gA (g:UC):Prop:=∀v b H Q c,(∀a d,Q a d->c a d)->g v b H Q->g v b H c
def SK (own:Nat)(X:Cx)(a:zr)(b:AG):Prop:=∃g,PG X a g/\Pz X.K g b/\MP own g/\kZ g
def oG (own:Nat)(X:Cx)(a:zy zr)(b:Tp):Prop:=∃g,j5 X a g/\Oi X.K g b/\MQ own g/\gA g
section
variable {X:Cx}{pos:Pos}{own:Nat}
def eM {i:Nat}{x:Str}(hN:X.N.Nodup)(hi:X.N[i]? =some x)(hx:Loc X.env.scope x)(hk:i<own)(a:X.fn x=true\/X.env.scope.names.lookup x=some .local:=by first | exact .inl rfl|exact .inr rfl|assumption):SK own X (.Name x pos) (Am i):=
 ⟨_,G0 hN hi hx a,RL,QE hk,LR⟩
def JH:oG own X [] Be:=⟨_,LZ,TR,WC,QF⟩
def Br {e:zr}{es:zy zr}{b:AG}{a:Tp}(h1:SK own X e b)(h2:oG own X es a)(hs:(assignEach (e::es) X.env).map (·.2)=assign e X.env::(assignEach es X.env).map (·.2):=by rfl):oG own X (e::es) (AZ b a):=
 let ⟨_,p,s,k,m⟩:=h1;let ⟨_,d,f,g,c⟩:=h2;⟨_,FS p d hs,PM s f,Mh k m g c,SB m c⟩
end
def oN (K:AAB)(own:Nat)(d:AG):TG:=λv a H Q=>∃(B:Ct) (T:zu->Prop) (τ:BE) (x:PV) (c:BE->Prop),SR K B T H a τ/\CZ K T (mt B a τ) H v x/\d x τ c/\
 ∀σ' τ',SR K B T H σ' τ'->(∀b,Cf σ' τ' b->Cf a τ b)->c τ'->(σ'.length=a.length/\∀j,own<=j->σ'[j]? =a[j]?)->Q σ' H
def rD (K:AAB)(a:AT):TT:=λe H Q=>∃(B:Ct) (T:zu->Prop) (τ:BE) (c:zq->Prop),SR K B T H e τ/\a τ c/\∀b f d,C3 T H f d->c b->Q b d
def p8 (K:AAB)(a:AE):TE:=λc H Q=>∃(B:Ct) (T:zu->Prop) (τ:BE) (d:PV->Prop),SR K B T H c τ/\a τ d/\∀v x e b,C3 T H e b->CZ K e (mt B c τ) b v x->d x->Q v b
def eI {K:AAB}{own:Nat}{a:AG}:Pz K (oN K own a) a:=λB T d τ H v x Q b c r h k=>⟨B,T,τ,x,b,c,r,h,λσ' τ' s o q _=>k σ' τ' s o q⟩
def Zk {K:AAB}{own:Nat}{a:AG}:MP own (oN K own a):=λv d H Q ⟨B,T,τ,x,b,c,r,h,k⟩=>⟨B,T,τ,x,b,c,r,h,λσ' τ' s o q z=>⟨k σ' τ' s o q z,z⟩⟩
def eJ {K:AAB}{a:AT}:UA K (rD K a) a:=λB T d τ H Q b c h k=>⟨B,T,τ,b,c,h,k⟩
def eG {K:AAB}{a:AE}:K8 K (p8 K a) a:=λB T d τ H Q b c h k=>⟨B,T,τ,b,c,h,k⟩
section
variable {X:Cx}
def SK.of {own:Nat}{e:zr}{f:AG}(h:SK own X e f):PG X e (oN X.K own f):=by obtain⟨g,p,s,k,m⟩:=h;intro j l a H v u Q I r hw;obtain⟨B,T,τ,x,i,n,t,h,c⟩:=hw;have h1:g v a H λσ' w=>w=H/\∃τ',SR X.K B T H σ' τ'/\(∀b,Cf σ' τ' b->Cf a τ b)/\i τ':=s B T a τ H v x _ i n t h λσ' τ' s o q=>⟨rfl,τ',s,o,q⟩;have h2:=k v a H _ h1;refine p j l a H v u Q I r (m v a H _ _ (λd D q=> ?_) h2);obtain⟨⟨rfl,τ',y,A,C⟩,z⟩:=q;exact c d τ' y A C z
def ku.of {b:zy zr}{a:AT}(h:ku X b a):fJ X b (rD X.K a):=by obtain⟨t,p,s⟩:=h;intro e f d H Q I hw;obtain⟨B,T,τ,g,i,h,c⟩:=hw;exact p e f d H Q I (s B T d τ H Q g i h c)
def SE.of {e:zr}{a:AE}(h:SE X e a):PE X e (p8 X.K a):=by obtain⟨t,p,s⟩:=h;intro d f b H Q I hw;obtain⟨B,T,τ,g,i,h,c⟩:=hw;exact p d f b H Q I (s B T b τ H Q g i h c)
def Bk {f a:zr}{b:zy zr}{scope:Scope}{own:Nat}{ix:zy Nat}{N:zy Str}{g:AG}{t:AT}{c:AE}(h1:scope.kind= .function)(h2:(scope.names.all λy=> !decide (y.2= .cell))=true)(h3:(scope.names.all λy=> !decide (y.2= .local)||decide (scope.names.lookup y.1=some .local))=true)(h:(scope.names.all λy=> !decide (y.2= .free)||decide (X.env.scope.names.lookup y.1=some .cell))=true)(i:N.length=own+ix.length)(j:UW X (relabel scope X.env) own ix N=true)(d:∀cl C s H ex pn,SK own (blk X (relabel scope X.env) N cl C s H ex pn) f g)(e:∀cl C s H ex pn,ku (blk X (relabel scope X.env) N cl C s H ex pn) b t)(val:∀cl C s H ex pn,SE (blk X (relabel scope X.env) N cl C s H ex pn) a c):Vk X f a b scope own ix N g t c:=
 ⟨oN X.K own g,rD X.K t,p8 X.K c,V0 h1 h2 h3 h i j Zk (λcl C s H ex pn=>(d cl C s H ex pn).of) (λcl C s H ex pn=>(e cl C s H ex pn).of) (λcl C s H ex pn=>(val cl C s H ex pn).of),eI,eJ,eG⟩
end
mutual
def pd:PV->PyData
 | .bl b=> .bool b
 | .int i=> .int i
 | .str x=> .str x
 | .tup xs=> .tuple (Qp xs)
 | .lst xs=> .list (Qp xs)
 | _=> .none
def Qp:zy PV->zy PyData
 | [] => []
 | x::xs=>pd x::Qp xs
end
mutual
def EK:Nat->PV->zq
 | _, .non=>true
 | _, .bl _=>true
 | _, .int _=>true
 | _, .str x=>PyData.strOk x
 | n+1, .tup xs=>Js n xs
 | n+1, .lst xs=>Js n xs
 | _,_=>false
def Js:Nat->zy PV->zq
 | _, [] =>true
 | n,x::xs=>EK n x&&Js n xs
end
mutual
theorem Iy:∀(n:Nat) (x:PV),EK n x=true->(pd x).canLay0=true/\(pd x).depth<=n/\(pd x).hasDict=false
 | n, .non,_=>⟨rfl,ABF _,rfl⟩
 | n, .bl _,_=>⟨rfl,ABF _,rfl⟩
 | n, .int _,_=>⟨rfl,ABF _,rfl⟩
 | n, .str x,h=>⟨by simpa[pd,PyData.canLay0,EK] using h,ABF _,rfl⟩
 | 0, .tup xs,h=>by simp[EK] at h
 | 0, .lst xs,h=>by simp[EK] at h
 | n+1, .tup xs,h=>by obtain⟨a,b,c⟩:=M1 n xs (by simpa[EK] using h);exact⟨by simpa[pd,PyData.canLay0] using a,by simpa[pd,PyData.depth] using b,by simpa[pd,PyData.hasDict] using c⟩
 | n+1, .lst xs,h=>by obtain⟨a,b,c⟩:=M1 n xs (by simpa[EK] using h);exact⟨by simpa[pd,PyData.canLay0] using a,by simpa[pd,PyData.depth] using b,by simpa[pd,PyData.hasDict] using c⟩
 | n, .tape,h=>by simp[EK] at h
 | n, .scr _,h=>by simp[EK] at h
 | n, .ty _,h=>by simp[EK] at h
 | n, .dct _,h=>by simp[EK] at h
 | n, .dk _,h=>by simp[EK] at h
theorem M1:∀(n:Nat) (xs:zy PV),Js n xs=true->PyData.canLayAll0 (Qp xs)=true/\PyData.depthAll (Qp xs)<=n/\PyData.hasDictAll (Qp xs)=false
 | n, [],_=>⟨rfl,ABF _,rfl⟩
 | n,x::xs,h=>by simp only[Js,AAx] at h;obtain⟨a,b,c⟩:=Iy n x h.1;obtain⟨d,b',e⟩:=M1 n xs h.2;exact⟨by simp[Qp,PyData.canLayAll0,a,d],by simp only[Qp,PyData.depthAll];omega,by simp[Qp,PyData.hasDictAll,c,e]⟩
end
section
variable {X:Cx}{zj:zy (zu×Obj)}{σ:L2.St}{H:Hp}{s:zw}
mutual
theorem GV (I:Inv X zj σ H s){T M:zu->Prop}:∀(n:Nat) {x:PV} {v:V} {u:zx},CZ X.K T M H v x->EK n x=true->RelV v u->∃as,Reads s.heap u (pd x) as
 | _,_,_,_, .non,_,r=>by cases r;exact⟨_, .none⟩
 | _,_,_,_, .bl b,_,r=>by cases r;exact⟨_, .bool b⟩
 | _,_,_,_, .int i,_,r=>by obtain⟨t,rfl⟩:=r;exact⟨_, .int i t⟩
 | _,_,_,_, .str x,_,r=>by obtain⟨t,rfl⟩:=r;exact⟨_, .str x t⟩
 | _,_,_,_, .ty n,h,r=>by simp[EK] at h
 | 0,_,_,_, .tup hq rs,h,r=>by simp[EK] at h
 | 0,_,_,_, .lst hq t m rs,h,r=>by simp[EK] at h
 | n+1,_,_,_, .tup hq rs,h,r=>by cases r;obtain⟨a,rv,⟨o,c,hc,k,hd⟩,_⟩:=I.tuple hq.sq;obtain⟨as,ra⟩:=GU I n rs (by simpa[EK] using h) rv;exact⟨_, .tuple c hc hd (by simpa using ra)⟩
 | n+1,_,_,_, .lst hq t m rs,h,r=>by cases r;obtain⟨a,rv,⟨o,k,c,hc,_,hd⟩,_⟩:=I.list (Fe.of hq);obtain⟨as,ra⟩:=GU I n rs (by simpa[EK] using h) rv;exact⟨_, .list c hc hd (by simpa using ra)⟩
 | _,_,_,_, .tape _,h,r=>by simp[EK] at h
 | _,_,_,_, .scr _,h,r=>by simp[EK] at h
 | _,_,_,_, .dct _ _ _,h,r=>by simp[EK] at h
 | _,_,_,_, .dk _ _,h,r=>by simp[EK] at h
theorem GU (I:Inv X zj σ H s){T M:zu->Prop}:∀(n:Nat) {xs:zy PV} {vs:zy V} {a:zy zx},A3 X.K T M H vs xs->Js n xs=true->Ay vs a->∃as,ReadsAll s.heap a (Qp xs) as
 | _,_,_,_, .nil,_,r=>by cases r;exact⟨_, .nil⟩
 | n,_,_,_, .cons h t,hk,r=>by
   simp only[Js,AAx] at hk;cases r with
   | cons r b=> obtain⟨as,ra⟩:=GV I n h hk.1 r;obtain⟨bs,c⟩:=GU I n t hk.2 b;exact⟨_, .cons ra c⟩
end
end
section
variable {X:Cx}
def oM (x y:PV):zq:=PyData.eqv (pd x) (pd y)
def dw (K:AAB)(neg:zq):R2:=λu v H Q=>∃(T M:zu->Prop) (x y:PV),CZ K T M H u x/\CZ K T M H v y/\EK 30 x=true/\EK 30 y=true/\Q (.bl (if neg then !oM x y else oM x y)) H
def iZ {k:Nat}(c:Room k X.A):EC X (compareOp .Eq) (dw X.K false):=by intro l s m H u v n o Q I d rv h;obtain⟨T,M,x,y,e,f,a,b,q⟩:=h;obtain⟨as,ra⟩:=GV I 30 e a d;obtain⟨bs,g⟩:=GV I 30 f b rv;obtain⟨i,p,_⟩:=Iy 30 x a;obtain⟨j,b2,_⟩:=Iy 30 y b;exact SeqAt.compareEq_reads ra g i j (by have:=c.un;omega) ⟨.bl _,H,I,rfl,q⟩
def ib {k:Nat}(c:Room k X.A):EC X (compareOp .NotEq) (dw X.K true):=by intro l s m H u v n o Q I d rv h;obtain⟨T,M,x,y,e,f,a,b,q⟩:=h;obtain⟨as,ra⟩:=GV I 30 e a d;obtain⟨bs,g⟩:=GV I 30 f b rv;obtain⟨i,p,_⟩:=Iy 30 x a;obtain⟨j,b2,_⟩:=Iy 30 y b;exact SeqAt.compareNe_reads ra g i j (by have:=c.un;omega) ⟨.bl _,H,I,rfl,q⟩
def Tl:IY:=λx y Q=>match aj x y with | some b=>Q (.bl b)|none=>(EK 30 x=true/\EK 30 y=true)/\Q (.bl (oM x y))
def gZ:IY:=λx y Q=>match aj x y with | some b=>Q (.bl (!b))|none=>(EK 30 x=true/\EK 30 y=true)/\Q (.bl (!oM x y))
def mW (K:AAB):R2:=λx y H Q=>uA x y H Q\/dw K false x y H Q
def m8 (K:AAB):R2:=λx y H Q=>uB x y H Q\/dw K true x y H Q
def Gh {k:Nat}(c:Room k X.A):EC X (compareOp .Eq) (mW X.K)/\CN X.K (mW X.K) Tl:=by
 refine⟨mJ.or (iZ c),λT M H u v x y Q d va a rv h k=> ?_⟩;unfold Tl at h;split at h
 .rename_i b e;obtain⟨h1,h2⟩:=TM a rv e;refine .inl ⟨h1, ?_⟩;rw[h2];exact k _ _ T H (.refl va.tp) (.bl _) h
 .exact .inr ⟨T,M,x,y,a,rv,h.1.1,h.1.2,k _ _ T H (.refl va.tp) (.bl _) h.2⟩
def az {k:Nat}(c:Room k X.A):EC X (compareOp .NotEq) (m8 X.K)/\CN X.K (m8 X.K) gZ:=by
 refine⟨mN.or (ib c),λT M H u v x y Q d va a rv h k=> ?_⟩;unfold gZ at h;split at h
 .rename_i b e;obtain⟨h1,h2⟩:=TM a rv e;refine .inl ⟨h1, ?_⟩;rw[h2];exact k _ _ T H (.refl va.tp) (.bl _) h
 .exact .inr ⟨T,M,x,y,a,rv,h.1.1,h.1.2,k _ _ T H (.refl va.tp) (.bl _) h.2⟩
structure gH (x:PV):Prop where
 ok:EK 30 x=true
 sh:(pd x).showable=true
 sz:(pd x).shown.length<=sizeLine
end
section
variable {prog:zp}{w:zm}{A:zk}{E:zx->zw->Prop}{s:zw}
def KU {h:zl}{l:zu}{items:Array zx}(hl:h.IsList l items)(o:Obj):(h.push o).IsList l items:=by obtain⟨a,e,r⟩:=hl;exact⟨a,AAH _ e,r⟩
theorem Ot {it t:zu}{items:Array zx}(f:t≠it):∀(n i:Nat) (s:zw) (Q:zy zx->zw->Prop),s.heap.IsListIter it t i->s.heap.IsList t items->i+n<=items.size-> (∀h',h'.IsListIter it t (i+n)->Heap.SameBut it s.heap h'->Q ((items.toList.drop i).take n) {s with heap:=h'})->wpAny (model prog w) A (draw (.ref it) n) Q E s
 | 0,i,s,Q,hit,_,_,hQ=>by show wpAny _ _ (pure []) Q E s;exact AAC (by simpa using hQ s.heap hit (Heap.SameBut.refl ..))
 | n+1,i,s,Q,hit,ht,Yc,hQ=>by
   have g:i<items.size:=by omega
   show wpAny _ _ (pyNext (.ref it) >>= _) Q E s;refine AAA (wpAny_pyNext_list_item hit ht (x:=items[i]) (by simp[g]) λh b a=> ?_);refine AAA (AAa (Ot f n (i+1) _ _ b (ht.extBut a.extBut f) (by omega) λe c d=>AAC ?_));have hd:items.toList.drop i=items[i] :: items.toList.drop (i+1):=by simp[ADh,g]
   have:=hQ e (by rw[show i+(n+1)=i+1+n by omega];exact c) (a.trans d);rw[hd,List.take_succ_cons] at this;exact this
def KH {t:zu}{items:Array zx}{Q:zy zx->zw->Prop}(k:A.handled=none)(g:s.heap.IsList t items)(hQ:∀h',Heap.ExtBut s.heap.objs.size s.heap h'->Q items.toList {s with heap:=h'}):wpAny (model prog w) A (unpackItems (.ref t) items.size none) Q E s:=by
 have j:t≠s.heap.objs.size:=by obtain⟨o,l,_⟩:=g;exact AAK (AAF l)
 unfold unpackItems;refine AAA ?_
 .unfold notIterableAtAll;refine AAA (ABl g.typeIs slot_list_iter.lookup ?_);refine AAC ?_;simp only[AAu,AAh];refine AAA (AAa (ADg g ?_));refine AAA (AAa (Ot j items.size 0 _ _ ⟨_,AAO _ rfl,rfl,rfl⟩ (KU g _) (by omega) λh c a=> ?_));have m:List.take items.size (List.drop 0 items.toList)=items.toList:=by rw[List.drop_zero];exact ABs (by simp)
  rw[m];rw[AAD (by simp)];have d:h.IsList t items:=(KU g _).extBut a.extBut j;refine AAA (AAa (wpAny_pyNext_list_end k c d (by simp) λi f=> ?_));simp only[Option.isSome_none,AAu,AAh];refine AAC (hQ i λb o hb e=>f b o hb (a.extBut b o hb (AAH _ e)))
def Ia {env:Env}{elts:zy zr}{x1}{pos:Pos}{t:zu}{items:Array zx}{Q:Unit->zw->Prop}(a:A.handled=none)(b:s.heap.IsList t items)(c:(assignEach elts env).length=items.size)(d:(assignEach elts env).findIdx? (·.1)=none)(h:∀h',Heap.ExtBut s.heap.objs.size s.heap h'->wpAny (model prog w) A (assignInOrder ((assignEach elts env).map (·.2)) items.toList) Q E {s with heap:=h'}):wpAny (model prog w) A (assign (.Tuple elts x1 pos) env (.ref t)) Q E s:=by rw[assign_Tuple];refine AAA (ABU ?_);unfold unpack;rw[c,d];exact AAA (AAa (KH a b h))
end
section
variable {X:Cx}{pos:Pos}
def UX (K:AAB)(n:Nat)(t:UC):TG:=λv b H Q=>∃a xs,v= .ref a/\(Nh K H a xs\/Fe K H a xs)/\xs.length=n/\t xs b H Q
def Qq {es:zy zr}{k:Nat}{t:UC}{n:Nat}(hc:X.calm=true)(h:j5 X es t)(l:(assignEach es X.env).length=n:=by rfl)(m:(assignEach es X.env).findIdx? (·.1)=none:=by rfl):PG X (.Tuple es k pos) (UX X.K n t):=by
 intro d s f H v u Q I r hw;obtain⟨a,xs,p,c,hl,hw⟩:=hw;subst p;cases r;rcases c with c|c
 .obtain ⟨g,rv,i,w⟩:=I.tuple c;refine assign_Tuple_tuple (I.ok.hd hc) i (by simp[l,<-hl,rv.length]) m λh' hx=> ?_;have j:Inv X d f H {s with heap:=h'}:=I.kept (t':=s.toks) λb o e=>hx b o (AAK (AAF e)) e;exact h d _ f H xs _ Q j (by simpa using rv) hw
 .obtain ⟨g,rv,i,w⟩:=I.list c;refine Ia (I.ok.hd hc) i.isList (by simp[l,<-hl,rv.length]) m λh' hx=> ?_;have j:Inv X d f H {s with heap:=h'}:=I.kept (t':=s.toks) λb o e=>hx b o (AAK (AAF e)) e;exact h d _ f H xs _ Q j (by simpa using rv) hw
def HX (n:Nat)(r:Tp):AG:=λx τ Q=>M6 x λxs=>xs.length=n/\r xs τ Q
def ax {K:AAB}{n:Nat}{d:UC}{a:Tp}(s:Oi K d a):Pz K (UX K n d) (HX n a):=λB T e τ H v x Q f g r h k=>by
 obtain⟨xs,hx,h⟩:=GR h;rcases hx with rfl|rfl
 .obtain ⟨p,vs,rfl,c,b⟩:=Gj r;exact⟨p,vs,rfl, .inl c,by rw[b.length];exact h.1,s B T e τ H vs _ Q f g b h.2 k⟩
 .obtain ⟨p,vs,rfl,c,i,j,b⟩:=Ed r;exact⟨p,vs,rfl, .inr (.inl (.inl c)),by rw[b.length];exact h.1,s B T e τ H vs _ Q f g b h.2 k⟩
def B9 {es:zy zr}{k:Nat}{a:Tp}{n:Nat}(hc:X.calm=true)(h:oF X es a)(b:(assignEach es X.env).length=n:=by rfl)(c:(assignEach es X.env).findIdx? (·.1)=none:=by rfl):SG X (.Tuple es k pos) (HX n a):=
 let ⟨_,p,s⟩:=h;⟨_,Qq hc p b c,ax s⟩
def ZV {own:Nat}{K:AAB}{n:Nat}{t:UC}(h:MQ own t):MP own (UX K n t):=λv b H Q ⟨a,xs,e,h1,h2,h3⟩=>⟨a,xs,e,h1,h2,h xs b H Q h3⟩
def NP {own:Nat}{es:zy zr}{k:Nat}{b:Tp}{n:Nat}(hc:X.calm=true)(h:oG own X es b)(c:(assignEach es X.env).length=n:=by rfl)(d:(assignEach es X.env).findIdx? (·.1)=none:=by rfl):SK own X (.Tuple es k pos) (HX n b):=
 let ⟨_,p,s,f,m⟩:=h;⟨_,Qq hc p c d,ax s,ZV f,λv g H Q i z ⟨a,xs,e,h1,h2,h3⟩=>⟨a,xs,e,h1,h2,m _ _ _ _ _ z h3⟩⟩
def iA:j6 X .Mult (λx y H Q=>∃i j,x= .int i/\y= .int j/\MulOk i j/\Q (.int (i*j)) H):=by intro f s g H x y v u Q I a b h;obtain⟨i,j,d,e,c,q⟩:=h;subst d;subst e;obtain⟨t,rfl⟩:=a;obtain⟨t',rfl⟩:=b;exact AutoIntOps.imul_0 (show (Made.int (i*j)).post _ _ from⟨.int _,H,I.tok _,⟨_,rfl⟩,q⟩) (.of_le (Gw c.l) (Gw c.r) (by decide))
def jS:j6 X .Mult (λx y H Q=>∃i j,x= .int i/\y= .int j/\MulOk i j/\Q (.int (i*j)) H)/\CN X.K (λx y H Q=>∃i j,x= .int i/\y= .int j/\MulOk i j/\Q (.int (i*j)) H) CS:=⟨iA,λT M H u v x y Q b va a rv h k=>by
 obtain⟨i,j,rfl,rfl,c,q⟩:=Ql h;exact⟨i,j,a.toI,rv.toI,c,k _ _ T H (.refl va.tp) (.int _) q⟩⟩
end
def NU {i:Int}(a:0<=i)(b:i<2147483647): -(2^64)<i/\i<2^64:=⟨by omega,by omega⟩
def vz (b:zq):(0:Int)<=(if b=true then 1 else 0):=by cases b <;> decide
def tG (b:zq): -(2^64)<(if b=true then (1:Int) else 0)/\(if b=true then (1:Int) else 0)<2^64:=by cases b <;> decide
def bN {T:zu->Prop}{H:Hp}{p:zu}{d x:Int}(tp:∀a,T a->E7 H a)(t:T p)(c:0<=d)(f:0<=x)(g:x<2147483647):C3 T H T (upd H p (.lst [.int d, .int x])) where
 keep:=λb o n e=>by rw[Ag (λz=>n (by subst z;exact t))];exact e
 sub:=λ_ t=>t
 new:=λ_ t=> .inl t
 tp:=λa h=>by
  by_cases z:a=p
  .subst z;exact⟨d,x,Ah,c,f,g⟩
  .obtain ⟨d',i,e,q⟩:=tp a h;exact⟨d',i,by rw[Ag z];exact e,q⟩
def bM {T:zu->Prop}{H:Hp}{p:zu}{d x:Int}(tp:∀a,T a->E7 H a)(hp:H p=none)(f:0<=d)(g:0<=x)(h:x<2147483647):C3 T H (λb=>T b\/b=p) (upd H p (.lst [.int d, .int x])) where
 keep:=λb o n e=>by rw[Ag (Au e hp)];exact e
 sub:=λ_ t=> .inl t
 new:=λb t=>t.elim .inl λz=> .inr (by subst z;exact hp)
 tp:=λa c=>by
  by_cases z:a=p
  .subst z;exact⟨d,x,Ah,f,g,h⟩
  .rcases c with c|c
   .obtain ⟨d',i,e,q⟩:=tp a c;exact⟨d',i,by rw[Ag z];exact e,q⟩
   .exact absurd c z
def law_sp {K:AAB}{H:Hp}{a:zu}{ns:zy Int}{F:AF}(b:Fe K H a (ns.map V.int))(h:F [.scr ns] λx=>x= .bl true):Ci K 1 F [.ref a] H (λv _=>v= .bl true) λ_ _ _=>False:=by
 refine⟨λ_=>False,λ_=>False, [.scr ns],_,⟨λ_ z=>z.elim,λ_ z=>z.elim⟩,λ_ z=>z.elim, .cons (.scr ?_) .nil,rfl,h,λv x c d _ r e=> ?_⟩
 .rcases b with h|h
  .exact .inl ⟨h,id,id⟩
  .exact .inr λH=> .inr h
 .subst e;cases r;rfl
theorem Im {g:AG}{b:AS}{D:F9}(a:zy PV->BE->Prop)(hd:∀τ,a [] τ->D.nx τ)(hs:∀x r τ (R:BE->Prop),(∀τ,a r τ->R τ)->a (x::r) τ->g x τ λc=>b {D with nx:=R,ct:=R,bk:=D.nx} c):∀xs τ,a xs τ->DF g b D xs τ
 | [],τ,h=>hd τ h
 | x::r,τ,h=>hs x r τ _ (λd h2=>Im a hd hs r d h2) h
theorem Vy {g:AG}{t:AT}{f:AE}{b:BE}{Q:zy PV->Prop}(c:zy PV->zy PV->Prop)(hd:∀a,c [] a->Q a)(hs:∀x r a (R:zy PV->Prop),(∀a,c r a->R a)->c (x::r) a->g x b λd=>t d λok=>if ok=true then f d λy=>R (a ++ [y]) else R a):∀xs a,c xs a->Ca g t f b Q xs a
 | [],a,h=>hd a h
 | x::r,a,h=>hs x r a _ (λe h2=>Vy c hd hs r e h2) h
theorem bU {c:AT}{b:AS}{D:F9}(a:Nat->BE->Prop)(e:∀τ,¬a 0 τ)(hs:∀n τ (R:BE->Prop),(∀τ,a n τ->R τ)->a (n+1) τ->c (frz τ) λk=>if k=true then b {D with nx:=R,ct:=R,bk:=D.nx} τ else D.nx τ):∀n τ,a n τ->Tf c b D n τ
 | 0,τ,h=>absurd h (e τ)
 | n+1,τ,h=>hs n τ _ (λd h2=>bU a e hs n d h2) h
def FV (lo:Int)(n:Nat):rng lo (n+1)= .int lo::rng (lo+1) n:=by
 unfold rng;rw[List.range_succ_eq_map,AAN,ABc];congr 1
 .simp
 .apply ABd;intro k _;simp only[Function.comp];congr 1;omega
def VB (lo:Int)(n:Nat):(rng lo n).length=n:=by simp[rng]
end PL
namespace PL
open PySem L2 PyProof.Rows
def fr (r:Rat):PV:= .tup [.int r.num, .int (r.den:Int)]
def GO {b:zq}{A B:Prop}(h1:b=true->A)(h2:b=false->B):if b=true then A else B:=by
 cases b with
 | true=>rw[AAE rfl];exact h1 rfl
 | false=>rw[AAD AAS];exact h2 rfl
structure Bd (n:Nat) (r:Rat):Prop where
 top:r.num.natAbs<2^n
 bot:r.den<2^n
def Bd.botI {n:Nat}{r:Rat}(b:Bd n r):(r.den:Int).natAbs<2^n:=by simpa using b.bot
def M9 {m n:Nat}(h:m<=n):2^m<=2^n:=ACy (by decide) h
def Bd.mono {m n:Nat}{r:Rat}(b:Bd m r)(h:m<=n):Bd n r:=⟨AAP b.top (M9 h),AAP b.bot (M9 h)⟩
def Uu {a b m n:Nat}(ha:a<2^m)(hb:b<2^n):a*b<2^(m+n):=by rw[ACZ];exact Nat.mul_lt_mul_of_lt_of_le ha (AB9 hb) (Nat.pos_of_ne_zero (by intro z;rw[z] at hb;omega)) |> λh=>h
def BU {a b:Int}{m n:Nat}(ha:a.natAbs<2^m)(hb:b.natAbs<2^n):(a*b).natAbs<2^(m+n):=by rw[AA8];exact Uu ha hb
def Vq {a b:Int}{n:Nat}(ha:a.natAbs<2^n)(hb:b.natAbs<2^n):(a+b).natAbs<2^(n+1):=by rw[ADi];omega
def Wy {a b:Int}{n:Nat}(ha:a.natAbs<2^n)(hb:b.natAbs<2^n):(a-b).natAbs<2^(n+1):=by rw[ADi];omega
def Aw {a m n:Nat}(h:a<2^m)(b:m<=n):a<2^n:=AAP h (M9 b)
def MulOk.of {a b:Int}{m n:Nat}(ha:a.natAbs<2^m)(hb:b.natAbs<2^n)(c:m<=1000000:=by omega)(d:n<=1000000:=by omega):MulOk a b:=⟨Aw ha c,Aw hb d⟩
def UQ (t b:Int):(Rat.divInt t b).num.natAbs<=t.natAbs:=by
 rw[ACz];by_cases h:b=0
 .subst h;simp
 .have e:(b.gcd t:Int) ∣ b.sign*t:=Int.dvd_trans (Int.gcd_dvd_right ..) (Int.dvd_mul_left ..);rw[Int.natAbs_ediv_of_dvd e,AA8];refine AAY (ABt _ _) ?_;rw[Int.natAbs_sign_of_ne_zero h];omega
def UP (t b:Int)(h:b≠0):(Rat.divInt t b).den<=b.natAbs:=by rw[ADj,AAD h];exact ABt _ _
def Bd.divInt {n:Nat}{t b:Int}(h:b≠0)(a:t.natAbs<2^n)(hb:b.natAbs<2^n):Bd n (Rat.divInt t b):=
 ⟨AAQ (UQ t b) a,AAQ (UP t b h) hb⟩
def BR (a:Rat):(a.den:Int)≠0:=by have:=a.den_pos;omega
def HW (a b:Rat):a+b=Rat.divInt (a.num*b.den+b.num*a.den) (a.den*b.den):=by have h:=ADk a.num b.num (BR a) (BR b);rw[AA9,AA9] at h;exact h
def IE (a b:Rat):a-b=Rat.divInt (a.num*b.den-b.num*a.den) (a.den*b.den):=by have h:=Rat.divInt_sub_divInt a.num b.num (BR a) (BR b);rw[AA9,AA9] at h;exact h
def Hj (a b:Rat):a*b=Rat.divInt (a.num*b.num) (a.den*b.den):=by have h:=ADl a.num b.num (d₁:=a.den) (d₂:=b.den);rw[AA9,AA9] at h;exact h
def Ff (a b:Rat):a/b=Rat.divInt (a.num*b.den) (a.den*b.num):=by rw[ABO,Rat.inv_def];have h:=ADl a.num b.den (d₁:=a.den) (d₂:=b.num);rw[AA9] at h;exact h
def Ce {a b:Int}(ha:a≠0)(hb:b≠0):a*b≠0:=Int.mul_ne_zero ha hb
def QW {b:Rat}(h:b≠0):b.num≠0:=λz=>h (Rat.num_eq_zero.mp z)
def Bd.add {m n:Nat}{a b:Rat}(ha:Bd m a)(hb:Bd n b):Bd (m+n+1) (a+b):=by
 rw[HW];refine .divInt (Ce (BR a) (BR b)) (Vq (BU ha.top (by simpa using hb.bot)) ?_) ?_
 .rw [Nat.add_comm m n];exact BU hb.top (by simpa using ha.bot)
 .exact Aw (BU (by simpa using ha.bot) (by simpa using hb.bot)) (by omega)
def Bd.sub {m n:Nat}{a b:Rat}(ha:Bd m a)(hb:Bd n b):Bd (m+n+1) (a-b):=by
 rw[IE];refine .divInt (Ce (BR a) (BR b)) (Wy (BU ha.top (by simpa using hb.bot)) ?_) ?_
 .rw [Nat.add_comm m n];exact BU hb.top (by simpa using ha.bot)
 .exact Aw (BU (by simpa using ha.bot) (by simpa using hb.bot)) (by omega)
def Bd.mul {m n:Nat}{a b:Rat}(ha:Bd m a)(hb:Bd n b):Bd (m+n) (a*b):=by rw[Hj];exact .divInt (Ce (BR a) (BR b)) (BU ha.top hb.top) (BU (by simpa using ha.bot) (by simpa using hb.bot))
def Bd.div {m n:Nat}{a b:Rat}(h:b≠0)(ha:Bd m a)(hb:Bd n b):Bd (m+n) (a/b):=by rw[Ff];exact .divInt (Ce (BR a) (QW h)) (BU ha.top (by simpa using hb.bot)) (BU (by simpa using ha.bot) hb.top)
def Bd.neg {n:Nat}{a:Rat}(ha:Bd n a):Bd n (-a):=⟨by show (-a.num).natAbs<_;rw[ABu];exact ha.top,ha.bot⟩
def ZM (n:Int):fr (n:Rat)= .tup [.int n, .int 1] :=by simp[fr]
def Bd.int {n:Int}{k:Nat}(h:n.natAbs<2^k)(hk:1<=k):Bd k (n:Rat):=⟨by simpa using h,by simp;omega⟩
def Yl:AS:=
 (Ad (P3 (BH (AX gZ (aV 1) (aC (.int 0)))) (XI 0 1 (AB (aV 1) (AB (AX Xb (aV 0) (aV 1)) AL))))
   (Ar (aV 0)))
def FD:AF:=Ap 2 Yl
def GH (x y:Nat)(Q:PV->Prop)(h:Q (.int (Nat.gcd x y:Nat))):FD [.int x, .int y] Q:=by
 have go:∀y x:Nat,∀D:F9,D.nx [some (.val (.int (Nat.gcd x y:Nat))),some (.val (.int 0))] ->∃n,Tf (BH (AX gZ (aV 1) (aC (.int 0)))) (XI 0 1 (AB (aV 1) (AB (AX Xb (aV 0) (aV 1)) AL))) D n [some (.val (.int x)),some (.val (.int y))] :=by
  intro y;induction y using Nat.strongRecOn with
  | _ y d=>
    intro x D c;by_cases e:y=0
    .subst e;refine⟨1, ?_⟩;rw[Nat.gcd_zero_right] at c;exact c
    .obtain ⟨n,a⟩:=d (x % y) (Nat.mod_lt _ (by omega)) y D (by rw[ACJ y,<-Nat.gcd_rec,ACJ y];exact c);refine⟨n+1, ?_⟩;refine GO (b:= !decide ((y:Int)=0)) (λ_=> ?_) (λz=> ?_)
     .have f:(x:Int).fmod (y:Int)=((x % y:Nat):Int):=by rw[ADT _ (by omega)];simp
      refine⟨by omega, ?_⟩;rw[<-f] at a;exact a
     .have:(y:Int)=0:=by simpa using z
      omega
 obtain⟨n,a⟩:=go y x {nx:=λτ=>Ar (aV 0) {nx:=λ_=>Q .non,rt:=Q,bk:=λ_=>False,ct:=λ_=>False} τ,rt:=Q,bk:=λ_=>False,ct:=λ_=>False} h;exact⟨n,a⟩
def W7:AS:=
 (Ad (CH (BH (AX ZI (aV 1) (aC (.int 0)))) (Ao (UE MY (aV 2)) (Am 2)) BO)
   (Ar (An (AB (AX P9 (aV 0) (aV 2)) (AB (AX P9 (aV 1) (aV 2)) AL)))))
def fw:AS:=
 (Ad (Ao (AN 2 FD (AB (HG R9 (AB (aV 0) AL)) (AB (HG R9 (AB (aV 1) AL)) AL))) (Am 2))
   W7)
def Fb:AF:=Ap 3 fw
def aG (t b:Int)(hb:b≠0):∀s:Int,s=(if b<0 then -(Nat.gcd t.natAbs b.natAbs:Int) else (Nat.gcd t.natAbs b.natAbs:Int))->s≠0/\t.fdiv s=(Rat.divInt t b).num/\b.fdiv s=((Rat.divInt t b).den:Int):=by
 intro s hs;have g:0<Nat.gcd t.natAbs b.natAbs:=ACK _ (by omega);have f:b.gcd t=Nat.gcd t.natAbs b.natAbs:=by rw[AEC,ACJ]
 have a:(Nat.gcd t.natAbs b.natAbs:Int) ∣ t:=by rw[<-Int.dvd_natAbs];exact Int.ofNat_dvd.mpr (ADm ..)
 have c:(Nat.gcd t.natAbs b.natAbs:Int) ∣ b:=by rw[<-Int.dvd_natAbs];exact Int.ofNat_dvd.mpr (ABv ..)
 have d:s ∣ t:=by rw[hs];split <;> first | exact Int.neg_dvd.mpr a|exact a
 have e:s ∣ b:=by rw[hs];split <;> first | exact Int.neg_dvd.mpr c|exact c
 refine⟨by rw[hs];split <;> omega, ?_, ?_⟩
 .rw [AED d,ACz,f,hs];by_cases h:b<0
  .rw [AAE h,AEE h,Int.ediv_neg];have:(-1:Int)*t= -t:=by omega
   rw[this,Int.neg_ediv_of_dvd a]
  .rw [AAD h,ADn (by omega),Int.one_mul]
 .rw [AED e,ADj,AAD hb,f,hs];by_cases h:b<0
  .rw [AAE h,Int.ediv_neg];have:(b.natAbs:Int)= -b:=by omega
   rw[ABw,this,Int.neg_ediv_of_dvd c]
  .rw [AAD h];have:(b.natAbs:Int)=b:=by omega
   rw[ABw,this]
def De (t b:Int)(hb:b≠0)(f:b.natAbs<2^8900)(Q:PV->Prop)(h:Q (fr (Rat.divInt t b))):Fb [.int t, .int b] Q:=by
 have g:0<Nat.gcd t.natAbs b.natAbs:=ACK _ (by omega);have gl:Nat.gcd t.natAbs b.natAbs<2^8900:=AAQ (ABx (by omega) (ABv ..)) f;obtain⟨a,c,d⟩:=aG t b hb _ rfl;refine⟨rfl,GH _ _ _ ?_⟩;refine GO (b:=decide (b<0)) (λz=> ?_) (λz=> ?_)
 .have e:b<0:=AAr z;rw[AAE e] at a c d;refine⟨⟨a,by rw[ABu];exact gl⟩,⟨a,by rw[ABu];exact gl⟩,(show 2<=sizeLine by decide), ?_⟩;unfold fr at h;rw[<-c,<-d] at h;exact h
 .have e:¬b<0:=ABy z;rw[AAD e] at a c d;refine⟨⟨a,gl⟩,⟨a,gl⟩,(show 2<=sizeLine by decide), ?_⟩;unfold fr at h;rw[<-c,<-d] at h;exact h
def Bd.mt {n:Nat}{a b:Rat}(ha:Bd 4000 a)(hb:Bd 4000 b):MulOk a.num b.den/\MulOk b.num a.den/\MulOk a.den b.den/\MulOk a.num b.num/\MulOk a.den b.num:=
 ⟨.of ha.top (by simpa using hb.bot), .of hb.top (by simpa using ha.bot), .of (by simpa using ha.bot) (by simpa using hb.bot), .of ha.top hb.top, .of (by simpa using ha.bot) hb.top⟩
def Os {a b:Rat}(ha:Bd 4000 a)(hb:Bd 4000 b):((a.den:Int)*(b.den:Int)).natAbs<2^8900:=Aw (BU (a:=(a.den:Int)) (by simpa using ha.bot) (by simpa using hb.bot)) (by omega)
def fx:AS:=
 (Ar (AN 2 Fb (AB (AX Bf (AX CS (AX Af (aV 0) (aC (.int 0))) (AX Af (aV 1) (aC (.int 1)))) (AX CS (AX Af (aV 1) (aC (.int 0))) (AX Af (aV 0) (aC (.int 1))))) (AB (AX CS (AX Af (aV 0) (aC (.int 1))) (AX Af (aV 1) (aC (.int 1)))) AL))))
def Bx:AF:=Ap 2 fx
def CD {a b:Rat}(ha:Bd 4000 a)(hb:Bd 4000 b){Q:PV->Prop}(h:Q (fr (a+b))):Bx [fr a,fr b] Q:=by obtain⟨m1,m2,m3,_⟩:=Bd.mt (n:=0) ha hb;refine⟨m1,m2,m3,rfl,De _ _ (Ce (BR a) (BR b)) (Os ha hb) _ ?_⟩;rw[HW] at h;exact h
def cH:AS:=
 (Ar (AN 2 Fb (AB (AX Il (AX CS (AX Af (aV 0) (aC (.int 0))) (AX Af (aV 1) (aC (.int 1)))) (AX CS (AX Af (aV 1) (aC (.int 0))) (AX Af (aV 0) (aC (.int 1))))) (AB (AX CS (AX Af (aV 0) (aC (.int 1))) (AX Af (aV 1) (aC (.int 1)))) AL))))
def B6:AF:=Ap 2 cH
def Dd {a b:Rat}(ha:Bd 4000 a)(hb:Bd 4000 b){Q:PV->Prop}(h:Q (fr (a-b))):B6 [fr a,fr b] Q:=by obtain⟨m1,m2,m3,_⟩:=Bd.mt (n:=0) ha hb;refine⟨m1,m2,m3,rfl,De _ _ (Ce (BR a) (BR b)) (Os ha hb) _ ?_⟩;rw[IE] at h;exact h
def cI:AS:=
 (Ar (AN 2 Fb (AB (AX CS (AX Af (aV 0) (aC (.int 0))) (AX Af (aV 1) (aC (.int 0)))) (AB (AX CS (AX Af (aV 0) (aC (.int 1))) (AX Af (aV 1) (aC (.int 1)))) AL))))
def Fc:AF:=Ap 2 cI
def MO {a b:Rat}(ha:Bd 4000 a)(hb:Bd 4000 b){Q:PV->Prop}(h:Q (fr (a*b))):Fc [fr a,fr b] Q:=by obtain⟨_,_,m3,m4,_⟩:=Bd.mt (n:=0) ha hb;refine⟨m4,m3,rfl,De _ _ (Ce (BR a) (BR b)) (Os ha hb) _ ?_⟩;rw[Hj] at h;exact h
def ft:AS:=
 (Ar (AN 2 Fb (AB (AX CS (AX Af (aV 0) (aC (.int 0))) (AX Af (aV 1) (aC (.int 1)))) (AB (AX CS (AX Af (aV 0) (aC (.int 1))) (AX Af (aV 1) (aC (.int 0)))) AL))))
def GI:AF:=Ap 2 ft
def Je {a b:Rat}(c:b≠0)(ha:Bd 4000 a)(hb:Bd 4000 b){Q:PV->Prop}(h:Q (fr (a/b))):GI [fr a,fr b] Q:=by obtain⟨m1,_,_,_,m5⟩:=Bd.mt (n:=0) ha hb;refine⟨m1,m5,rfl,De _ _ (Ce (BR a) (QW c)) (Aw (BU (a:=(a.den:Int)) (by simpa using ha.bot) hb.top) (by omega)) _ ?_⟩;rw[Ff] at h;exact h
def Ld:AS:=
 (Ad (Ao (AX Il (aC (.int 1)) (AX CS (aC (.int 2)) (HG gk (AB (AX ZI (aV 1) (aC (.int 0))) AL)))) (Am 2))
   (Ar (An (AB (AX P9 (AX CS (aV 2) (aV 0)) (aV 3)) (AB (AX P9 (AX CS (aV 2) (aV 1)) (aV 3)) AL)))))
def Lc:AS:=
 (Ad (P3 (BH (AX ZH (aV 4) (aC (.int 0)))) (XI 3 4 (AB (aV 4) (AB (AX Xb (aV 3) (aV 4)) AL))))
   Ld)
def Ra:AS:=
 (Ad (XI 3 4 (AB (HG R9 (AB (aV 0) AL)) (AB (HG R9 (AB (aV 1) AL)) AL)))
   Lc)
def As:AF:=Ap 5 Ra
def QQ (t b:Int)(hb:b≠0):∀s:Int,s=(if b<0 then -1 else 1)->(s*t).fdiv (Nat.gcd t.natAbs b.natAbs:Int)=(Rat.divInt t b).num/\(s*b).fdiv (Nat.gcd t.natAbs b.natAbs:Int)=((Rat.divInt t b).den:Int):=by
 intro s hs;have c:0<Nat.gcd t.natAbs b.natAbs:=ACK _ (by omega);have a:b.gcd t=Nat.gcd t.natAbs b.natAbs:=by rw[AEC,ACJ]
 have es:b.sign=s:=by
  rw[hs];split
  .rename_i h;exact AEE h
  .exact ADn (by omega)
 rw[ACz,ADj,AAD hb,a,es,ABZ _ (by omega),ABZ _ (by omega)];refine⟨rfl, ?_⟩;rw[ABw];congr 1;rw[hs];split <;> omega
def CT (t b:Int)(hb:b≠0)(f:t.natAbs<2^900000)(d:b.natAbs<2^8900){Q:PV->Prop}(h:Q (fr (Rat.divInt t b))):As [.int t, .int b] Q:=by
 have k:0<Nat.gcd t.natAbs b.natAbs:=ACK _ (by omega);have gl:Nat.gcd t.natAbs b.natAbs<2^8900:=AAQ (ABx (by omega) (ABv ..)) d;have sg:(1:Int)-2*(if decide (b<0)=true then 1 else 0)=(if b<0 then -1 else 1):=by by_cases z:b<0 <;> simp[z]
 obtain⟨g,a⟩:=QQ t b hb _ sg;have go:∀y x:Nat,∀D:F9,∀u v w,D.nx [u,v,w,some (.val (.int (Nat.gcd x y:Nat))),some (.val (.int 0))] ->∃n,Tf (BH (AX ZH (aV 4) (aC (.int 0)))) (XI 3 4 (AB (aV 4) (AB (AX Xb (aV 3) (aV 4)) AL))) D n [u,v,w,some (.val (.int x)),some (.val (.int y))] :=by
  intro y;induction y using Nat.strongRecOn with
  | _ y i=>
    intro x D u v w c;by_cases j:y=0
    .subst j;refine⟨1, ?_⟩;rw[Nat.gcd_zero_right] at c;exact c
    .obtain ⟨n,e⟩:=i (x % y) (Nat.mod_lt _ (by omega)) y D u v w (by rw[ACJ y,<-Nat.gcd_rec,ACJ y];exact c);refine⟨n+1, ?_⟩;refine GO (b:=decide (0<(y:Int))) (λ_=> ?_) (λz=> ?_)
     .have a:(x:Int).fmod (y:Int)=((x % y:Nat):Int):=by rw[ADT _ (by omega)];simp
      refine⟨by omega, ?_⟩;rw[<-a] at e;exact e
     .have:¬(0:Int)<y:=ABy z;omega
 refine go b.natAbs t.natAbs _ (some (.val (.int t))) (some (.val (.int b))) none ?_;have one:(1:Int).natAbs<2^1:=by decide
 have sb:((1:Int)-2*(if decide (b<0)=true then 1 else 0)).natAbs<2^1:=by rw[sg];split <;> decide
 refine⟨.of (m:=2) (n:=1) (by decide) (by split <;> decide), .of sb f,⟨by omega,gl⟩, .of sb d,⟨by omega,gl⟩,(show 2<=sizeLine by decide), ?_⟩;unfold fr at h;rw[<-g,<-a] at h;exact h
def Cp {m:Int}{Q:PV->Prop}(m0:0<m)(m1:m<4611686018427387904)(h:∀r,0<=r->r<m->Q (.int r)):A9 [.tape, .int m] Q:=⟨⟨m0,m1⟩,h⟩
mutual
def xE:Nat->PV->zq
 | 0,_=>false
 | _+1, .non=>true
 | _+1, .bl _=>true
 | _+1, .int _=>true
 | n+1, .tup xs=>mH n xs&&decide (xs.length<sizeLine)
 | _+1,_=>false
def mH:Nat->zy PV->zq
 | _, [] =>true
 | n,x::xs=>xE n x&&mH n xs
end
def eZ {t:Int}{n:Nat}(h:t.natAbs<2^n)(a:n<=900000:=by omega):t.natAbs<2^900000:=Aw h a
section
variable {a b:Rat}{Q:PV->Prop}
theorem iI (ha:Bd 4000 a)(hb:Bd 4000 b)(h:Q (fr (a+b))):As [.int (a.num*b.den+b.num*a.den), .int (a.den*b.den)] Q:=
 CT _ _ (Ce (BR a) (BR b)) (eZ (Vq (n:=8000) (BU ha.top hb.botI) (BU hb.top ha.botI))) (Os ha hb) (by rw[<-HW];exact h)
theorem iM (ha:Bd 4000 a)(hb:Bd 4000 b)(h:Q (fr (a-b))):As [.int (a.num*b.den-b.num*a.den), .int (a.den*b.den)] Q:=
 CT _ _ (Ce (BR a) (BR b)) (eZ (Wy (n:=8000) (BU ha.top hb.botI) (BU hb.top ha.botI))) (Os ha hb) (by rw[<-IE];exact h)
theorem iK (ha:Bd 4000 a)(hb:Bd 4000 b)(h:Q (fr (a*b))):As [.int (a.num*b.num), .int (a.den*b.den)] Q:=
 CT _ _ (Ce (BR a) (BR b)) (eZ (BU ha.top hb.top)) (Os ha hb) (by rw[<-Hj];exact h)
theorem iJ (c:b≠0)(ha:Bd 4000 a)(hb:Bd 4000 b)(h:Q (fr (a/b))):As [.int (a.num*b.den), .int (a.den*b.num)] Q:=
 CT _ _ (Ce (BR a) (QW c)) (eZ (BU ha.top (by simpa using hb.bot))) (Aw (BU (a:=(a.den:Int)) (by simpa using ha.bot) hb.top) (by omega)) (by rw[<-Ff];exact h)
end
def RU {n:Int}{Q:PV->Prop}(h:Q (fr (n:Rat))):Q (.tup [.int n, .int 1]):=by rw[<-ZM];exact h
def Bd.part {t b:Int}{n:Nat}(h:b≠0)(a:t.natAbs<2^n)(hb:b.natAbs<2^n):Bd n (Rat.divInt t b):= .divInt h a hb
def lz {a b:Nat}(h:Nat.ble a b=true:=by rfl):a<=b:=ABe h
structure Sh (d n:Nat) (x:PV):Prop where
 ok:EK d x=true
 sh:(pd x).showable=true
 sz:(pd x).shown.length<=n
mutual
theorem Mz:∀{d e:Nat} (x:PV),d<=e->EK d x=true->EK e x=true
 | _,_, .non,_,_=>by simp[EK]
 | _,_, .bl _,_,_=>by simp[EK]
 | _,_, .int _,_,_=>by simp[EK]
 | _,_, .str x,_,h=>by simpa[EK] using h
 | 0,_, .tup xs,_,h=>by simp[EK] at h
 | 0,_, .lst xs,_,h=>by simp[EK] at h
 | d+1,0, .tup xs,h,_=>by omega
 | d+1,0, .lst xs,h,_=>by omega
 | d+1,e+1, .tup xs,h,k=>by simp only[EK] at k ⊢;exact Jt xs (by omega) k
 | d+1,e+1, .lst xs,h,k=>by simp only[EK] at k ⊢;exact Jt xs (by omega) k
 | _,_, .tape,_,h=>by simp[EK] at h
 | _,_, .scr _,_,h=>by simp[EK] at h
 | _,_, .dct _,_,h=>by simp[EK] at h
 | _,_, .dk _,_,h=>by simp[EK] at h
 | _,_, .ty _,_,h=>by simp[EK] at h
theorem Jt:∀{d e:Nat} (xs:zy PV),d<=e->Js d xs=true->Js e xs=true
 | _,_, [],_,_=>by simp[Js]
 | _,_,x::xs,h,k=>by simp only[Js,AAx] at k ⊢;exact⟨Mz x h k.1,Jt xs h k.2⟩
end
def Sh.mono {d n e m:Nat}{x:PV}(s:Sh d n x)(h1:d<=e)(h2:n<=m):Sh e m x:=⟨Mz x h1 s.ok,s.sh,AAY s.sz h2⟩
def Sh.go {d n:Nat}{x:PV}(s:Sh d n x)(h1:d<=30:=by omega)(h2:n<=16777216:=by omega):gH x:=⟨Mz x h1 s.ok,s.sh,AAY s.sz h2⟩
def Sh.int {i:Int}(h:i.natAbs<2^1900):Sh 0 1902 (.int i):=by
 refine⟨rfl, ?_, ?_⟩
 .show decide (i.natAbs.log2<1920)=true;exact AAV (ACX (Iu h (by decide)) (by decide))
 .show (Str.ofString (toString i)).length<=1902;rw[PySem.ofString_length];exact AAY (int_text_length_le (k:=1900) (by decide) (Iu h (by decide))) (by decide)
theorem M0 {d:Nat}:∀{xs:zy PV},(∀x∈xs,EK d x=true)->Js d xs=true
 | [],_=>rfl
 | x::xs,h=>by simp only[Js,AAx];exact⟨h x (by simp),M0 λy a=>h y (by simp[a])⟩
theorem VM:∀{xs:zy PV},(∀x∈xs,(pd x).showable=true)->PyData.showableAll (Qp xs)=true
 | [],_=>rfl
 | x::xs,h=>by simp only[Qp,PyData.showableAll,AAx];exact⟨h x (by simp),VM λy a=>h y (by simp[a])⟩
theorem RR {n:Nat}:∀{xs:zy PV},(∀x∈xs,(pd x).shown.length<=n)->((PyData.shownAll (Qp xs)).map (·.length)).sum<=xs.length*n
 | [],_=>by simp[Qp,PyData.shownAll]
 | x::xs,h=>by simp only[Qp,PyData.shownAll,AAN,AAp,AAe];have h1:=h x (by simp);have h2:=RR (n:=n) (xs:=xs) λy a=>h y (by simp[a]);rw[ACL];omega
theorem Fw:∀(xs:zy PV),(PyData.shownAll (Qp xs)).length=xs.length
 | [] =>rfl
 | x::xs=>by simp[Qp,PyData.shownAll,Fw xs]
def Sh.tup {d n:Nat}{xs:zy PV}(h:∀x∈xs,Sh d n x):Sh (d+1) (xs.length*(n+2)+3) (.tup xs):=by refine⟨by simp only[EK];exact M0 λx hx=>(h x hx).ok,by simp only[pd,PyData.showable];exact VM λx hx=>(h x hx).sh, ?_⟩;have h1:=RR (n:=n) (xs:=xs) λx hx=>(h x hx).sz;have h2:=tupleText_len_le (PyData.shownAll (Qp xs));rw[Fw] at h2;simp only[pd,PyData.shown];rw[Nat.mul_add];omega
def Sh.lst {d n:Nat}{xs:zy PV}(h:∀x∈xs,Sh d n x):Sh (d+1) (xs.length*(n+2)+3) (.lst xs):=by refine⟨by simp only[EK];exact M0 λx hx=>(h x hx).ok,by simp only[pd,PyData.showable];exact VM λx hx=>(h x hx).sh, ?_⟩;have h1:=RR (n:=n) (xs:=xs) λx hx=>(h x hx).sz;have h2:=listText_len_le (PyData.shownAll (Qp xs));rw[Fw] at h2;simp only[pd,PyData.shown];rw[Nat.mul_add];omega
def ql {c:Type}{P:c->Prop}{a b:c}(ha:P a)(hb:P b):∀x∈ [a,b],P x:=λx hx=>by
 simp only[AAG,AA2,AA3] at hx;rcases hx with rfl|rfl
 .exact ha
 .exact hb
def mC {d:Type}{P:d->Prop}{a b c:d}(ha:P a)(hb:P b)(hc:P c):∀x∈ [a,b,c],P x:=λx hx=>by
 simp only[AAG,AA2,AA3] at hx;rcases hx with rfl|rfl|rfl
 .exact ha
 .exact hb
 .exact hc
def mD {e:Type}{P:e->Prop}{a b c d:e}(ha:P a)(hb:P b)(hc:P c)(hd:P d):∀x∈ [a,b,c,d],P x:=λx hx=>by
 simp only[AAG,AA2,AA3] at hx;rcases hx with rfl|rfl|rfl|rfl
 .exact ha
 .exact hb
 .exact hc
 .exact hd
def Sh.fr {r:Rat}(h:Bd 1900 r):Sh 1 4000 (fr r):=(Sh.tup (ql (Sh.int h.top) (Sh.int h.botI))).mono (by omega) lz
def fU {a b:Rat}:decide (a.num*(b.den:Int)<b.num*(a.den:Int))=decide (a<b):=by rw[AC0];exact(Rat.lt_iff a b).symm
def Yk:AS:=
 (Ar (AX ZI (AX CS (AX Af (aV 0) (aC (.int 0))) (AX Af (aV 1) (aC (.int 1)))) (AX CS (AX Af (aV 1) (aC (.int 0))) (AX Af (aV 0) (aC (.int 1))))))
def A0:AF:=Ap 2 Yk
section
variable {a b:Rat}{Q:PV->Prop}
theorem CU (ha:Bd 4000 a)(hb:Bd 4000 b)(h:Q (.bl (decide (a<b)))):A0 [fr a,fr b] Q:=by obtain⟨m1,m2,_⟩:=Bd.mt (n:=0) ha hb;refine⟨m1,m2, ?_⟩;rw[<-fU] at h;exact h
def Tr:AS:=
 (Ar (AN 2 As (AB (AX Bf (AX CS (AX Af (aV 0) (aC (.int 0))) (AX Af (aV 1) (aC (.int 1)))) (AX CS (AX Af (aV 1) (aC (.int 0))) (AX Af (aV 0) (aC (.int 1))))) (AB (AX CS (AX Af (aV 0) (aC (.int 1))) (AX Af (aV 1) (aC (.int 1)))) AL))))
def Bc:AF:=Ap 2 Tr
theorem Cw (ha:Bd 4000 a)(hb:Bd 4000 b)(h:Q (fr (a+b))):Bc [fr a,fr b] Q:=by obtain⟨m1,m2,m3,_⟩:=Bd.mt (n:=0) ha hb;exact⟨m1,m2,m3,rfl,iI ha hb h⟩
def Tq:AS:=
 (Ar (AN 2 As (AB (AX Il (AX CS (AX Af (aV 0) (aC (.int 0))) (AX Af (aV 1) (aC (.int 1)))) (AX CS (AX Af (aV 1) (aC (.int 0))) (AX Af (aV 0) (aC (.int 1))))) (AB (AX CS (AX Af (aV 0) (aC (.int 1))) (AX Af (aV 1) (aC (.int 1)))) AL))))
def DY:AF:=Ap 2 Tq
theorem Cu (ha:Bd 4000 a)(hb:Bd 4000 b)(h:Q (fr (a-b))):DY [fr a,fr b] Q:=by obtain⟨m1,m2,m3,_⟩:=Bd.mt (n:=0) ha hb;exact⟨m1,m2,m3,rfl,iM ha hb h⟩
def Lj:AS:=
 (Ar (AN 2 As (AB (AX CS (AX Af (aV 0) (aC (.int 0))) (AX Af (aV 1) (aC (.int 0)))) (AB (AX CS (AX Af (aV 0) (aC (.int 1))) (AX Af (aV 1) (aC (.int 1)))) AL))))
def At:AF:=Ap 2 Lj
theorem CL (ha:Bd 4000 a)(hb:Bd 4000 b)(h:Q (fr (a*b))):At [fr a,fr b] Q:=by obtain⟨m1,m2,m3,m4,_⟩:=Bd.mt (n:=0) ha hb;exact⟨m4,m3,rfl,iK ha hb h⟩
def PY:AS:=
 (Ar (AN 2 As (AB (AX CS (AX Af (aV 0) (aC (.int 0))) (AX Af (aV 1) (aC (.int 1)))) (AB (AX CS (AX Af (aV 0) (aC (.int 1))) (AX Af (aV 1) (aC (.int 0)))) AL))))
def ED:AF:=Ap 2 PY
theorem K4 (c:b≠0)(ha:Bd 4000 a)(hb:Bd 4000 b)(h:Q (fr (a/b))):ED [fr a,fr b] Q:=by obtain⟨m1,m2,m3,m4,m5⟩:=Bd.mt (n:=0) ha hb;exact⟨m1,m5,rfl,iJ c ha hb h⟩
end
def lG {t b:Int}(a:0<t)(hb:0<b):0<Rat.divInt t b:=by
 rw[Rat.lt_iff];have h1:=ACz t b;show (0:Int)*_<_*1;rw[Int.zero_mul,ABo,h1,ADn hb,Int.one_mul];have g:0<(b.gcd t:Int):=by have:=Int.gcd_pos_of_ne_zero_left t (show b≠0 by omega);omega
 exact Int.ediv_pos_of_pos_of_dvd a (by omega) (Int.gcd_dvd_right ..)
def Dn {t b:Int}{Q:PV->Prop}(k:Nat)(hb:b≠0)(a:t.natAbs<2^k)(c:b.natAbs<2^k)(hk:k<=2000)(h:Bd k (Rat.divInt t b)->Q (fr (Rat.divInt t b))):As [.int t, .int b] Q:=
 CT t b hb (Aw a (by omega)) (Aw c (by omega)) (h (.part hb a c))
def Mul (D N:Nat)(a:Rat):Prop:=0<D/\∃k:Int,a=Rat.divInt k D/\k.natAbs<=N
def Mul.bd {D N n:Nat}{a:Rat}(h:Mul D N a)(h1:N<2^n)(h2:D<2^n):Bd n a:=by obtain⟨b,k,rfl,hk⟩:=h;exact .divInt (by omega) (by omega) (by simpa using h2)
def Mul.part {t b:Int}{c:Nat}(hb:0<b)(hc:0<c){N:Nat}(h:(t*c).natAbs<=N):Mul (b.toNat*c) N (Rat.divInt t b):=by
 refine⟨AAs (by omega) hc,t*c, ?_,h⟩;have e:((b.toNat*c:Nat):Int)=b*c:=by rw[AC1];congr 1;omega
 rw[e,(AC2 (by omega) (Ce (by omega) (by omega)))];rw[AC3 b,AC4]
def Mul.add {D N M:Nat}{a b:Rat}(ha:Mul D N a)(hb:Mul D M b):Mul D (N+M) (a+b):=by obtain⟨c,k,rfl,hk⟩:=ha;obtain⟨_,l,rfl,hl⟩:=hb;refine⟨c,k+l, ?_,by omega⟩;rw[ADk _ _ (by omega) (by omega),AC2 (Ce (by omega) (by omega)) (by omega)];rw[<-Int.add_mul,AC4]
def Mul.mono {D N M:Nat}{a:Rat}(h:Mul D N a)(b:N<=M):Mul D M a:=⟨h.1,let ⟨k,e,hk⟩:=h.2;⟨k,e,by omega⟩⟩
def Mul.int {n:Int}{D N:Nat}(a:0<D)(h:(n*D).natAbs<=N):Mul D N (n:Rat):=by
 have e:(n:Rat)=Rat.divInt n 1:=by rw[<-AA9 (n:Rat)];simp
 rw[e];have:=Mul.part (t:=n) (b:=1) (c:=D) (by decide) a h;simpa using this
def Ll:AS:=
 (Ad (CH (BH (AX ZI (aV 1) (aC (.int 3)))) (Ar (An (AB (AX Bf (aC (.int 1)) (AN 2 A9 (AB (aV 0) (AB (aC (.int 5)) AL)))) (AB (aC (.int 1)) AL)))) BO)
   (Ar (AN 2 As (AB (AX Bf (aC (.int 1)) (AN 2 A9 (AB (aV 0) (AB (aC (.int 8)) AL)))) (AB (AX Il (aV 1) (aC (.int 1))) AL)))))
def Rc:AS:=
 (Ad (Ao (AN 2 A9 (AB (aV 0) (AB (aC (.int 5)) AL))) (Am 1))
   Ll)
def El:AF:=Ap 2 Rc
def K5 {Q:PV->Prop}(h:∀a,Bd 8 a->0<a->Mul 6 48 a->Q (fr a)):El [.tape] Q:=by
 refine⟨rfl,Cp (by decide) (by decide) λw g i=> ?_⟩;refine GO (b:=decide (w<3)) (λ_=> ?_) (λz=> ?_)
 .refine ⟨rfl,Cp (by decide) (by decide) λr d f=>⟨lz, ?_⟩⟩;exact RU (h _ (.int (by omega) (by decide)) (by exact_mod_cast (by omega:(0:Int)<1+r)) (.int (by decide) (by omega)))
 .have j:¬w<3:=ABy z;have hw:w-1=2\/w-1=3:=by omega
  refine⟨rfl,Cp (by decide) (by decide) λr d f=>⟨rfl, ?_⟩⟩;refine Dn 8 (by omega) (by omega) (by omega) (by decide) λb=>h _ b (lG (by omega) (by omega)) ?_;rcases hw with e|e
  .rw [e];exact Mul.part (t:=1+r) (b:=2) (c:=3) (by decide) (by decide) (by omega)
  .rw [e];exact Mul.part (t:=1+r) (b:=3) (c:=2) (by decide) (by decide) (by omega)
def Kh:AS:=
 (Ad (CH (BH (AX Tl (aV 1) (aC (.int 6)))) (Ar (AN 2 As (AB (AX Il (AN 2 A9 (AB (aV 0) (AB (aC (.int 25)) AL))) (aC (.int 6))) (AB (aC (.int 2)) AL)))) BO)
   (Ar (AN 2 As (AB (AX Il (AN 2 A9 (AB (aV 0) (AB (aC (.int 31)) AL))) (aC (.int 9))) (AB (aC (.int 3)) AL)))))
def Kg:AS:=
 (Ad (CH (BH (AX ZI (aV 1) (aC (.int 6)))) (Ar (An (AB (AX Il (AN 2 A9 (AB (aV 0) (AB (aC (.int 10)) AL))) (aC (.int 3))) (AB (aC (.int 1)) AL)))) BO)
   Kh)
def PX:AS:=
 (Ad (Ao (AN 2 A9 (AB (aV 0) (AB (aC (.int 8)) AL))) (Am 1))
   Kg)
def Az:AF:=Ap 2 PX
def A7 {Q:PV->Prop}(h:∀a,Mul 6 60 a->Q (fr a)):Az [.tape] Q:=by
 refine⟨rfl,Cp (by decide) (by decide) λw f g=> ?_⟩;refine GO (b:=decide (w<6)) (λ_=> ?_) (λz=> ?_)
 .refine ⟨rfl,Cp (by decide) (by decide) λr d e=>⟨lz, ?_⟩⟩;exact RU (h _ (.int (by decide) (by omega)))
 refine GO (b:=decide (w=6)) (λ_=> ?_) (λz=> ?_)
 .exact ⟨rfl,Cp (by decide) (by decide) λr d e=>⟨rfl,Dn 8 (by omega) (by omega) (by omega) (by decide) λb=>h _ (Mul.part (t:=r-6) (b:=2) (c:=3) (by decide) (by decide) (by omega))⟩⟩
 .exact ⟨rfl,Cp (by decide) (by decide) λr d e=>⟨rfl,Dn 8 (by omega) (by omega) (by omega) (by decide) λb=>h _ (Mul.part (t:=r-9) (b:=3) (c:=2) (by decide) (by decide) (by omega))⟩⟩
abbrev C4:=Rat×Rat×Rat×Rat
def cor (c:C4):PV:= .tup [fr c.1,fr c.2.1,fr c.2.2.1,fr c.2.2.2]
def corL (c:C4):PV:= .lst [fr c.1,fr c.2.1,fr c.2.2.1,fr c.2.2.2]
def BL (cs:zy C4):PV:= .tup (cs.map cor)
structure D6 (B:Nat) (c:C4):Prop where
 m:Bd B c.1
 x:Bd B c.2.1
 y:Bd B c.2.2.1
 z:Bd B c.2.2.2
def D6.mono {B a:Nat}{c:C4}(h:D6 B c)(k:B<=a):D6 a c:=⟨h.m.mono k,h.x.mono k,h.y.mono k,h.z.mono k⟩
structure GE (D N:Nat) (c:C4):Prop where
 m:Mul D N c.1
 x:Mul D N c.2.1
 y:Mul D N c.2.2.1
 z:Mul D N c.2.2.2
def GE.mono {D N M:Nat}{c:C4}(h:GE D N c)(k:N<=M):GE D M c:=⟨h.m.mono k,h.x.mono k,h.y.mono k,h.z.mono k⟩
def GE.bd {D N n:Nat}{c:C4}(h:GE D N c)(h1:N<2^n)(h2:D<2^n):D6 n c:=⟨h.m.bd h1 h2,h.x.bd h1 h2,h.y.bd h1 h2,h.z.bd h1 h2⟩
def E5 (cs:zy C4):Prop:=cs.Pairwise λa b=>a.1<b.1
structure A8 (n D N:Nat) (cs:List C4):Prop where
 two:2<=cs.length
 few:cs.length<=n
 mu:∀c∈cs,GE D N c
 ris:E5 cs
structure HV (n B:Nat) (cs:List C4):Prop where
 two:2<=cs.length
 few:cs.length<=n
 bd:∀c∈cs,D6 B c
 ris:E5 cs
def ae {cs:zy C4}{c d:C4}(h:E5 (cs ++ [c]))(hd:c.1<d.1):E5 (cs ++ [c] ++ [d]):=by
 refine List.pairwise_append.mpr ⟨h,by simp,λa ha b hb=> ?_⟩;simp at hb;subst hb;rcases AAR.mp ha with ha|ha
 .have:=(List.pairwise_append.mp h).2.2 a ha c (by simp);grind
 .simp at ha;subst ha;exact hd
def IL:AS:=
 (Ad (CH (BH (AX ZH (aV 5) (aC (.int 3)))) (Ao (G4 (F8 (AB (AN 1 Az (AB (aV 0) AL)) (AB (AN 1 Az (AB (aV 0) AL)) (AB (AN 1 Az (AB (aV 0) AL)) AL))))) (Am 3)) (CH (BH (AX ZH (aV 5) (aC (.int 0)))) (Ao (AX Bf (AX Bf (Vp (aV 3) Vr (Vs (AX Il (aV 5) (aC (.int 1))))) (G4 (F8 (AB (AN 1 Az (AB (aV 0) AL)) AL)))) (Vp (aV 3) (Vs (aV 5)) Vr)) (Am 3)) BO))
   (F3 4 LG (AB (An (AB (aV 2) (AB (AX Af (aV 3) (aC (.int 0))) (AB (AX Af (aV 3) (aC (.int 1))) (AB (AX Af (aV 3) (aC (.int 2))) AL))))) AL)))
def IK:AS:=
 (Ad (Ao (AN 2 A9 (AB (aV 0) (AB (aC (.int 6)) AL))) (Am 5))
   IL)
def Le:AS:=
 (Ad (Ao (AN 2 Bc (AB (aV 2) (AB (AN 1 El (AB (aV 0) AL)) AL))) (Am 2))
   IK)
def Li:AS:=
 (Ad (P3 (BH (AX ZI (HG LB (AB (aV 4) AL)) (aV 1))) Le)
   (Ar (HG Cc (AB (aV 4) AL))))
def Lh:AS:=
 (Ad (Jh (F8 (AB (An (AB (aV 2) (AB (AX Af (aV 3) (aC (.int 0))) (AB (AX Af (aV 3) (aC (.int 1))) (AB (AX Af (aV 3) (aC (.int 2))) AL))))) AL)) 4)
   Li)
def Lg:AS:=
 (Ad (Ao (G4 (F8 (AB (AN 1 Az (AB (aV 0) AL)) (AB (AN 1 Az (AB (aV 0) AL)) (AB (AN 1 Az (AB (aV 0) AL)) AL))))) (Am 3))
   Lh)
def GA:AS:=
 (Ad (Ao (An (AB (AN 2 A9 (AB (aV 0) (AB (aC (.int 12)) AL))) (AB (aC (.int 1)) AL))) (Am 2))
   Lg)
def Lf:AS:=
 (Ad (CH (BH (AX Tl (AN 2 A9 (AB (aV 0) (AB (aC (.int 8)) AL))) (aC (.int 0)))) (Ao (AX Bf (aC (.int 7)) (AN 2 A9 (AB (aV 0) (AB (aC (.int 3)) AL)))) (Am 1)) BO)
   GA)
def Rb:AS:=
 (Ad (Ao (AX Bf (aC (.int 2)) (AN 2 A9 (AB (aV 0) (AB (aC (.int 4)) AL)))) (Am 1))
   Lf)
def Dy:AF:=Ap 6 Rb
def Wg (many:Int)(D o f:zt AV)(j:zt AV)(J:2<=many)(h1:many<=9){Q:PV->Prop}(h:∀cs,A8 9 6 512 cs->Q (BL cs)):GA {nx:=λ_=>Q .non,rt:=Q,bk:=λ_=>False,ct:=λ_=>False} [some (.val .tape),some (.val (.int many)),D,o,j,f] :=by
 refine⟨rfl,Cp (by decide) (by decide) λm m0 m1=>⟨lz, ?_⟩⟩;refine⟨rfl,A7 λx hx=>⟨rfl,A7 λy k=>⟨rfl,A7 λz l=>⟨lz, ?_⟩⟩⟩⟩;refine⟨lz,lz, ?_⟩;refine⟨(many-1).toNat+1,bU (λn τ=>∃(cs:zy C4) (c:C4) (f:zt AV),n+(cs.length+1)=many.toNat+1/\1<=n/\(∀d∈cs ++ [c],GE 6 (66+48*cs.length) d)/\(Mul 6 60 c.2.1/\Mul 6 60 c.2.2.1/\Mul 6 60 c.2.2.2)/\E5 (cs ++ [c])/\
  τ= [some (.val .tape),some (.val (.int many)),some (.val (fr c.1)),some (.val (.lst [fr c.2.1,fr c.2.2.1,fr c.2.2.2])),some (.own ((cs ++ [c]).map cor)),f]) ?_ ?_ _ _ ⟨[],((m:Rat),x,y,z),f, ?_, ?_, ?_, ?_, ?_, ?_⟩⟩
 .rintro τ ⟨cs,c,f,_,E,_⟩;omega
 .rintro n τ R F ⟨cs,c,f,E,K,hb,g,u,rfl⟩;have v:(((cs ++ [c]).map cor).length:Int)=(cs.length:Int)+1:=by simp
  refine GO (b:=decide ((((cs ++ [c]).map cor).length:Int)<many)) (λz=> ?_) (λz=> ?_)
  .have r:(((cs ++ [c]).map cor).length:Int)<many:=AAr z;rw[v] at r;have A:=hb c (by simp);refine⟨rfl,K5 λs sb L G=>⟨rfl,Cw ((A.m.bd (n:=12) (by omega) (by decide)).mono (by omega)) (sb.mono (by omega)) ?_⟩⟩;refine⟨rfl,Cp (by decide) (by decide) λw M N=> ?_⟩;have a:∀(t:F9) (x y z:Rat) (f:zt AV),t.nx=R->Mul 6 60 x->Mul 6 60 y->Mul 6 60 z->F3 4 LG (AB (An (AB (aV 2) (AB (AX Af (aV 3) (aC (.int 0))) (AB (AX Af (aV 3) (aC (.int 1))) (AB (AX Af (aV 3) (aC (.int 2))) AL))))) AL)
    t [some (.val .tape),some (.val (.int many)),some (.val (fr (c.1+s))),some (.val (.lst [fr x,fr y,fr z])),some (.own ((cs ++ [c]).map cor)),f] :=by
    intro t x y z f H B i C;refine⟨lz, ?_, ?_⟩
    .show _<16777216;omega
    .rw [H];have I:Mul 6 (66+48*(cs.length+1)) (c.1+s):=(A.m.add G).mono (by omega);refine F _ ⟨cs ++ [c],(c.1+s,x,y,z),f,by simp;omega,by omega, ?_,⟨B,i,C⟩,ae u ?_, ?_⟩
     .intro d hd;rcases AAR.mp hd with hd|hd
      .exact (hb d hd).mono (by simp;omega)
      .simp at hd;subst hd;have e:(cs ++ [c]).length=cs.length+1:=by simp
       rw[e];exact⟨I,B.mono (by omega),i.mono (by omega),C.mono (by omega)⟩
     .show c.1<c.1+s;grind
     .rw [ABz (l₁:=cs ++ [c])];rfl
   refine GO (b:=decide (3<w)) (λ_=> ?_) (λo=> ?_)
   .exact ⟨rfl,A7 λx hx=>⟨rfl,A7 λy k=>⟨rfl,A7 λz l=>⟨lz,a _ x y z _ rfl hx k l⟩⟩⟩⟩
   refine GO (b:=decide (0<w)) (λj=> ?_) (λj=> ?_)
   .have O:¬3<w:=ABy o;have P:0<w:=AAr j;have hw:w=1\/w=2\/w=3:=by omega
    rcases hw with rfl|rfl|rfl
    .exact Dv ⟨rfl,A7 λp hp=>⟨lz,lz,Dv ⟨lz,a _ p _ _ _ rfl hp g.2.1 g.2.2⟩⟩⟩
    .exact Dv ⟨rfl,A7 λp hp=>⟨lz,lz,Dv ⟨lz,a _ _ p _ _ rfl g.1 hp g.2.2⟩⟩⟩
    .exact Dv ⟨rfl,A7 λp hp=>⟨lz,lz,Dv ⟨lz,a _ _ _ p _ rfl g.1 g.2.1 hp⟩⟩⟩
   .exact a _ _ _ _ _ rfl g.1 g.2.1 g.2.2
  .have r:¬(((cs ++ [c]).map cor).length:Int)<many:=ABy z;rw[v] at r;refine h (cs ++ [c]) ⟨by simp;omega,by simp;omega,λd hd=>(hb d hd).mono (by omega),u⟩
 .simp;omega
 .omega
 .intro d hd;simp at hd;subst hd;exact⟨.int (by decide) (by simp;omega),hx.mono (by decide),k.mono (by decide),l.mono (by decide)⟩
 .exact ⟨hx,k,l⟩
 .exact List.pairwise_singleton _ _
 .simp only[cor,ZM,AB0,AAN,ACF];rfl
def GG {Q:PV->Prop}(h:∀cs,A8 9 6 512 cs->Q (BL cs)):Dy [.tape] Q:=by
 refine⟨rfl,Cp (by decide) (by decide) λa d e=>⟨rfl,Cp (by decide) (by decide) λb f g=> ?_⟩⟩;refine GO (b:=decide (b=0)) (λ_=> ?_) (λ_=> ?_)
 .exact ⟨rfl,Cp (by decide) (by decide) λc c0 i=>Wg (7+c) _ _ _ _ (by omega) (by omega) h⟩
 .exact Wg (2+a) _ _ _ _ (by omega) (by omega) h
def mid (a b:Rat):Rat:=(a+b)/2
def ZF {cs:zy C4}{i:Int}{k:Nat}(hk:i=(k:Int))(h:k<=cs.length):GN (cs.map cor) none (some i)=(cs.take k).map cor:=by unfold GN;rw[hk,HT.sIx_none,HT.sIx_nat];rw[show min k (cs.map cor).length=k by simp;omega,List.map_take];simp
def ZE {cs:zy C4}{i:Int}{k:Nat}(hk:i=(k:Int))(h:k<=cs.length):GN (cs.map cor) (some i) none=(cs.drop k).map cor:=by unfold GN;rw[hk,HT.sIx_none,HT.sIx_nat];rw[show min k (cs.map cor).length=k by simp;omega,List.map_drop];exact ABs (by simp)
def nN {cs:zy C4}{i:Int}{k:Nat}{Q:PV->Prop}(hk:i=(k:Int))(h:k<=cs.length)(q:Q (BL (cs.take k))):US (BL cs) none (some i) Q:=by refine Fx ?_;rw[ZF hk h];exact q
def Wt {cs:zy C4}{i:Int}{k:Nat}{Q:PV->Prop}(hk:i=(k:Int))(h:k<=cs.length)(q:Q (BL (cs.drop k))):US (BL cs) (some i) none Q:=by refine Fx ?_;rw[ZE hk h];exact q
def ZB {cs ds:zy C4}{Q:PV->Prop}(h:cs.length+ds.length<=10000)(q:Q (BL (cs++ds))):Bf (BL cs) (BL ds) Q:=by
 refine⟨?_, ?_⟩
 .simp only[AAL];exact AAY h (by decide)
 .show Q (.tup (cs.map cor++ds.map cor));rw[<-ABz];exact q
def Mul.mid {D N:Nat}{a b:Rat}(ha:Mul D N a)(hb:Mul D N b):Mul (2*D) (2*N) (mid a b):=by
 obtain⟨c,k,rfl,hk⟩:=ha;obtain⟨_,l,rfl,hl⟩:=hb;refine⟨by omega,k+l, ?_,by omega⟩;have h2:(2:Rat)=Rat.divInt 2 1:=rfl;unfold PL.mid;rw[ADk _ _ (by omega) (by omega),ABO,h2,Rat.inv_divInt,ADl,ABo,AC2 (Ce (Ce (by omega) (by omega)) (by decide)) (by omega),<-Int.add_mul];have e:((2*D:Nat):Int)=2*(D:Int):=by omega
 rw[e,AC4,AC4,AC3 2 (D:Int)]
def Mul.dbl {D N:Nat}{a:Rat}(h:Mul D N a):Mul (2*D) (2*N) a:=by
 have:=h.mid h
 rwa [show PL.mid a a=a by unfold PL.mid;grind] at this
def GE.dbl {D N:Nat}{c:C4}(h:GE D N c):GE (2*D) (2*N) c:=⟨h.m.dbl,h.x.dbl,h.y.dbl,h.z.dbl⟩
def A8.ok {n D N m:Nat}{cs:zy C4}(p:A8 n D N cs)(h1:N<2^m)(h2:D<2^m):HV n m cs:=⟨p.two,p.few,λc hc=>(p.mu c hc).bd h1 h2,p.ris⟩
def Eo (cs:zy C4)(v:PV):Prop:=∃f:C4->PV,(f=cor\/f=corL)/\(v= .tup (cs.map f)\/v= .lst (cs.map f))
def Eo.self (cs:zy C4):Eo cs (BL cs):=⟨cor, .inl rfl, .inl rfl⟩
def Eo.lists (cs:zy C4):Eo cs (.lst (cs.map corL)):=⟨corL, .inr rfl, .inr rfl⟩
def laterC (b:Rat)(cs:zy C4):zy C4:=cs.map λc=>(c.1+b,c.2)
def offC (x y z:Rat)(cs:zy C4):zy C4:=cs.map λc=>(c.1,c.2.1+x,c.2.2.1+y,c.2.2.2+z)
def D6.laterC {B m:Nat}{b:Rat}{cs:zy C4}(h:∀c∈cs,D6 B c)(hb:Bd m b):∀c∈laterC b cs,D6 (B+m+1) c:=λc hc=>by obtain⟨d,hd,rfl⟩:=AAI.mp hc;have q:=h d hd;exact⟨q.m.add hb,q.x.mono (by omega),q.y.mono (by omega),q.z.mono (by omega)⟩
def D6.offC {B m:Nat}{x y z:Rat}{cs:zy C4}(h:∀c∈cs,D6 B c)(hx:Bd m x)(a:Bd m y)(b:Bd m z):∀c∈offC x y z cs,D6 (B+m+1) c:=λc hc=>by obtain⟨d,hd,rfl⟩:=AAI.mp hc;have q:=h d hd;exact⟨q.m.mono (by omega),q.x.add hx,q.y.add a,q.z.add b⟩
theorem Gx {i m:Type}{g:AG}{j:AE}{d:BE}{Q:zy PV->Prop}(f:i->PV)(k:m->PV)(e:i->m)(P:i->Prop)(hs:∀a,P a->∀R:PV->Prop,R (k (e a))->g (f a) d λl=>j l R):∀(xs:zy i) (c:zy PV),(∀a∈xs,P a)->Q (c++(xs.map e).map k)->Ca g Dh j d Q (xs.map f) c
 | [],c,_,h=>(by simpa using h:Q c)
 | a::xs,c,hp,h=>by refine hs a (hp a (by simp)) (λy=>Ca g Dh j d Q (xs.map f) (c ++ [y])) (Gx f k e P hs xs _ (λb hb=>hp b (by simp[hb])) ?_);simpa using h
def cG:AS:=
 (Ar (HG Cc (AB (G4 (Bs (LA (aV 0)) 4 [1] (HX 4 (AZ (Am 0) (AZ (Am 1) (AZ (Am 2) (AZ (Am 3) Be))))) Dh (An (AB (AN 2 Bx (AB (aV 0) (AB (aV 4) AL))) (AB (aV 1) (AB (aV 2) (AB (aV 3) AL))))))) AL)))
def LQ:AF:=Ap 2 cG
def MM {cs:zy C4}{v:PV}{B m:Nat}{b:Rat}(hv:Eo cs v)(hl:cs.length<=1000)(hc:∀c∈cs,D6 B c)(hb:Bd m b)(a:B<=4000)(d:m<=4000){Q:PV->Prop}(h:Q (BL (laterC b cs))):LQ [v,fr b] Q:=by
 obtain⟨f,i,hv⟩:=hv;have go:cs.length<sizeLine/\Ca (HX 4 (AZ (Am 0) (AZ (Am 1) (AZ (Am 2) (AZ (Am 3) Be))))) Dh (An (AB (AN 2 Bx (AB (aV 0) (AB (aV 4) AL))) (AB (aV 1) (AB (aV 2) (AB (aV 3) AL)))))
  [none,none,none,none,some (.val (fr b))] (λxs=>Q (.tup xs)) (cs.map f) [] :=by
  refine⟨AAQ hl (by decide), ?_⟩;refine Gx f cor (λc=>(c.1+b,c.2)) (D6 B) (λc e R g=> ?_) cs [] hc h;rcases i with rfl|rfl
  .exact ⟨rfl,rfl,CD (e.m.mono a) (hb.mono d) ⟨lz,g⟩⟩
  .exact ⟨rfl,rfl,CD (e.m.mono a) (hb.mono d) ⟨lz,g⟩⟩
 rw[show cs.length=(cs.map f).length by simp] at go;rcases hv with rfl|rfl <;> exact go
def W8:AS:=
 (Ar (HG Cc (AB (G4 (Bs (LA (aV 0)) 4 [1,2,3] (HX 4 (AZ (Am 0) (AZ (Am 1) (AZ (Am 2) (AZ (Am 3) Be))))) Dh (An (AB (aV 0) (AB (AN 2 Bx (AB (aV 1) (AB (aV 4) AL))) (AB (AN 2 Bx (AB (aV 2) (AB (aV 5) AL))) (AB (AN 2 Bx (AB (aV 3) (AB (aV 6) AL))) AL))))))) AL)))
def Gu:AF:=Ap 4 W8
def IU {cs:zy C4}{v:PV}{B m:Nat}{x y z:Rat}(hv:Eo cs v)(hl:cs.length<=1000)(hc:∀c∈cs,D6 B c)(hx:Bd m x)(e:Bd m y)(g:Bd m z)(a:B<=4000)(b:m<=4000){Q:PV->Prop}(h:Q (BL (offC x y z cs))):Gu [v,fr x,fr y,fr z] Q:=by
 obtain⟨f,j,hv⟩:=hv;have go:cs.length<sizeLine/\Ca (HX 4 (AZ (Am 0) (AZ (Am 1) (AZ (Am 2) (AZ (Am 3) Be))))) Dh (An (AB (aV 0) (AB (AN 2 Bx (AB (aV 1) (AB (aV 4) AL))) (AB (AN 2 Bx (AB (aV 2) (AB (aV 5) AL))) (AB (AN 2 Bx (AB (aV 3) (AB (aV 6) AL))) AL)))))
  [none,none,none,none,some (.val (fr x)),some (.val (fr y)),some (.val (fr z))] (λxs=>Q (.tup xs)) (cs.map f) [] :=by
  refine⟨AAQ hl (by decide), ?_⟩;refine Gx f cor (λc=>(c.1,c.2.1+x,c.2.2.1+y,c.2.2.2+z)) (D6 B) (λc d R i=> ?_) cs [] hc h;rcases j with rfl|rfl
  .exact ⟨rfl,rfl,CD (d.x.mono a) (hx.mono b) ⟨rfl,CD (d.y.mono a) (e.mono b) ⟨rfl,CD (d.z.mono a) (g.mono b) ⟨lz,i⟩⟩⟩⟩
  .exact ⟨rfl,rfl,CD (d.x.mono a) (hx.mono b) ⟨rfl,CD (d.y.mono a) (e.mono b) ⟨rfl,CD (d.z.mono a) (g.mono b) ⟨lz,i⟩⟩⟩⟩
 rw[show cs.length=(cs.map f).length by simp] at go;rcases hv with rfl|rfl <;> exact go
def Sh.cor {c:C4}(h:D6 1900 c):Sh 2 17000 (cor c):=(Sh.tup (mD (Sh.fr h.m) (Sh.fr h.x) (Sh.fr h.y) (Sh.fr h.z))).mono (by decide) lz
def Sh.corL {c:C4}(h:D6 1900 c):Sh 2 17000 (corL c):=(Sh.lst (mD (Sh.fr h.m) (Sh.fr h.x) (Sh.fr h.y) (Sh.fr h.z))).mono (by decide) lz
abbrev T3:=Rat×Rat×Rat
def inter (a b:C4)(m:Rat):T3:=(a.2.1+(m-a.1)/(b.1-a.1)*(b.2.1-a.2.1),a.2.2.1+(m-a.1)/(b.1-a.1)*(b.2.2.1-a.2.2.1),a.2.2.2+(m-a.1)/(b.1-a.1)*(b.2.2.2-a.2.2.2))
def spotG:C4->zy C4->Rat->zt T3
 | _, [],_=>none
 | a,b::r,m=>if b.1<m then spotG b r m else some (inter a b m)
def spotC:zy C4->Rat->zt T3
 | [],_=>none
 | a::r,m=>if m<a.1 then none else spotG a r m
def jf (t:T3):PV:= .tup [fr t.1,fr t.2.1,fr t.2.2]
def NX:zt T3->PV
 | none=> .non
 | some t=>jf t
structure F2 (B:Nat) (t:T3):Prop where
 x:Bd B t.1
 y:Bd B t.2.1
 z:Bd B t.2.2
def F2.mono {B a:Nat}{t:T3}(h:F2 B t)(k:B<=a):F2 a t:=⟨h.x.mono k,h.y.mono k,h.z.mono k⟩
section
variable {B M:Nat}{a b:C4}{m:Rat}
theorem RQ {x y:Rat}(h:x<y):y-x≠0:=by grind
theorem Bd.share (ha:D6 B a)(hb:D6 B b)(c:Bd M m)(h:a.1<b.1):Bd (M+B+1+(B+B+1)) ((m-a.1)/(b.1-a.1)):=(c.sub ha.m).div (RQ h) (hb.m.sub ha.m)
theorem F2.inter (ha:D6 B a)(hb:D6 B b)(c:Bd M m)(h:a.1<b.1):F2 (M+6*B+10) (inter a b m):=by have s:=Bd.share ha hb c h;exact⟨(ha.x.add (s.mul (hb.x.sub ha.x))).mono (by omega),(ha.y.add (s.mul (hb.y.sub ha.y))).mono (by omega),(ha.z.add (s.mul (hb.z.sub ha.z))).mono (by omega)⟩
end
theorem F2.spotG {B M:Nat}{m:Rat}(d:Bd M m):∀{a:C4} {r:zy C4},E5 (a::r)->(∀c∈a::r,D6 B c)->∀t,spotG a r m=some t->F2 (M+6*B+10) t
 | a, [],_,_,t,e=>by cases e
 | a,b::r,hr,hb,t,e=>by
   unfold PL.spotG at e;split at e
   .exact F2.spotG d (AAM.mp hr).2 (λc hc=>hb c (by simp[hc])) t e
   .cases e;exact .inter (hb a (by simp)) (hb b (by simp)) d ((AAM.mp hr).1 b (by simp))
def F2.spotC {B M:Nat}{m:Rat}{cs:zy C4}(b:Bd M m)(d:E5 cs)(hb:∀c∈cs,D6 B c):∀t,spotC cs m=some t->F2 (M+6*B+10) t:=λt e=>by
 cases cs with
 | nil=>cases e
 | cons a r=>
   simp only[PL.spotC] at e;split at e
   .cases e
   .exact F2.spotG b d hb t e
def Fg {f:C4->PV}{cs:zy C4}{i:Int}{k:Nat}{c:C4}{Q:PV->Prop}(hk:i=(k:Int))(e:cs[k]? =some c)(h:Q (f c)):cD (II (cs.map f) i) Q:=by have q:II (cs.map f) ((k:Nat):Int)=some (f c):=Co (by rw[AAl,e] <;> rfl);rw[hk,q];exact h
def Mf {f:C4->PV}{cs:zy C4}{c:C4}{Q:PV->Prop}(e:cs.getLast?=some c)(h:Q (f c)):cD (II (cs.map f) (-1)) Q:=by
 have a:cs≠ [] :=by intro z;subst z;cases e
 have hl:0<cs.length:=List.length_pos_iff.mpr a;have q:II (cs.map f) (-1)=some (f c):=by
  unfold II WO;rw[AAL,AAD (by decide),AAE (by omega)];have b:(-1+(cs.length:Int)).toNat=cs.length-1:=by omega
  rw[Option.bind_some,b,AAl,<-List.getLast?_eq_getElem?,e];rfl
 rw[q];exact h
def L4:AS:=
 (Ad (Ao (AN 2 GI (AB (AN 2 B6 (AB (aV 2) (AB (AX Af (aV 0) (aC (.int 0))) AL))) (AB (AN 2 B6 (AB (AX Af (aV 1) (aC (.int 0))) (AB (AX Af (aV 0) (aC (.int 0))) AL))) AL))) (Am 3))
   (Ar (HG Cc (AB (G4 (Bs (j8 (AB (Vp (aV 0) (Vs (aC (.int 1))) Vr) (AB (Vp (aV 1) (Vs (aC (.int 1))) Vr) AL))) 2 [3] (HX 2 (AZ (Am 0) (AZ (Am 1) Be))) Dh (AN 2 Bx (AB (aV 0) (AB (AN 2 Fc (AB (aV 2) (AB (AN 2 B6 (AB (aV 1) (AB (aV 0) AL))) AL))) AL))))) AL))))
def DO:AF:=Ap 4 L4
def IW {f:C4->PV}(j:f=cor\/f=corL){a b:C4}{B M:Nat}{m:Rat}(ha:D6 B a)(hb:D6 B b)(c:Bd M m)(h:a.1<b.1)(l:M+6*B+10<=3990){Q:PV->Prop}(q:Q (jf (inter a b m))):DO [f a,f b,fr m] Q:=by
 simp only[jf,inter] at q;have s:=Bd.share ha hb c h;have key:Ca (HX 2 (AZ (Am 0) (AZ (Am 1) Be))) Dh (AN 2 Bx (AB (aV 0) (AB (AN 2 Fc (AB (aV 2) (AB (AN 2 B6 (AB (aV 1) (AB (aV 0) AL))) AL))) AL))) [none,none,some (.val (fr ((m-a.1)/(b.1-a.1))))] (λxs=>Q (.tup xs))
  ([(a.2.1,b.2.1),(a.2.2.1,b.2.2.1),(a.2.2.2,b.2.2.2)].map λp:Rat×Rat=>PV.tup [fr p.1,fr p.2]) [] :=by refine Gx (λp:Rat×Rat=>PV.tup [fr p.1,fr p.2]) fr (λp=>p.1+(m-a.1)/(b.1-a.1)*(p.2-p.1)) (λp=>Bd B p.1/\Bd B p.2) (λp hp R k=> ?_) _ [] (mC ⟨ha.x,hb.x⟩ ⟨ha.y,hb.y⟩ ⟨ha.z,hb.z⟩) q;have d:=hp.1;have g:=hp.2;exact⟨rfl,rfl,Dd (g.mono (by omega)) (d.mono (by omega)) ⟨rfl,MO (s.mono (by omega)) ((g.sub d).mono (by omega)) ⟨rfl,CD (d.mono (by omega)) ((s.mul (g.sub d)).mono (by omega)) k⟩⟩⟩
 have m1:=c.mono (n:=4000) (by omega);have e:=ha.m.mono (n:=4000) (by omega);have i:=hb.m.mono (n:=4000) (by omega);rcases j with rfl|rfl
 .exact ⟨rfl,Dd m1 e ⟨rfl,Dd i e ⟨rfl,Je (RQ h) ((c.sub ha.m).mono (by omega)) ((hb.m.sub ha.m).mono (by omega)) (Fx (Fx ⟨lz,key⟩))⟩⟩⟩
 .exact ⟨rfl,Dd m1 e ⟨rfl,Dd i e ⟨rfl,Je (RQ h) ((c.sub ha.m).mono (by omega)) ((hb.m.sub ha.m).mono (by omega)) (Dv (Dv ⟨lz,key⟩))⟩⟩⟩
def Pm:AS:=
 (Ad (FH (lD (AB (aC (.int 1)) (AB (HG LB (AB (aV 0) AL)) AL))) (Am 2) (CH (FI (BH (AN 2 A0 (AB (AX Af (AX Af (aV 0) (aV 2)) (aC (.int 0))) (AB (aV 1) AL))))) (Ar (AN 3 DO (AB (AX Af (aV 0) (AX Il (aV 2) (aC (.int 1)))) (AB (AX Af (aV 0) (aV 2)) (AB (aV 1) AL))))) BO))
   (Ar (aC .non)))
def W9:AS:=
 (Ad (CH (BH (AN 2 A0 (AB (aV 1) (AB (AX Af (AX Af (aV 0) (aC (.int 0))) (aC (.int 0))) AL)))) (Ar (aC .non)) BO)
   Pm)
def FG:AF:=Ap 3 W9
def Q0 {cs:zy C4}(h:E5 cs){k:Nat}{a b:C4}(c:cs[k]? =some a)(d:cs[k+1]? =some b):a.1<b.1:=by have h1:=(AA1.mp c);have h2:=(AA1.mp d);obtain⟨e,rfl⟩:=h1;obtain⟨f,rfl⟩:=h2;exact List.pairwise_iff_getElem.mp h k (k+1) e f (by omega)
def IV {cs:zy C4}{v:PV}{B M:Nat}{m:Rat}(hv:Eo cs v)(hc:∀c∈cs,D6 B c)(A:E5 cs)(C:cs≠ [])(hl:cs.length<=1000)(s:Bd M m)(D:M+6*B+10<=3990){Q:PV->Prop}(q:Q (NX (spotC cs m))):FG [v,fr m] Q:=by
 obtain⟨f,t,hv⟩:=hv;have m1:=s.mono (n:=4000) (by omega);cases cs with
 | nil=>exact absurd rfl C
 | cons a r=>
   have ba:=hc a (by simp);have E:=ba.m.mono (n:=4000) (by omega);simp only[spotC] at q;have F:r.length+1<=1000:=hl;have u:∀(c:C4) (P:PV->Prop),P (fr c.1)->M6 (f c) λG=>cD (II G 0) P:=λc P H=>by rcases t with rfl|rfl <;> exact H
   rcases hv with rfl|rfl;all_goals
    refine Fg (k:=0) (c:=a) rfl rfl (u a _ ⟨rfl,CU m1 E ?_⟩);refine GO (b:=decide (m<a.1)) (λz=> ?_) (λz=> ?_)
    .rw [AAE (AAr z)] at q;exact q
    .rw [AAD (ABy z)] at q;have i:∀f:C4->PV,((((a::r).map f).length:Nat):Int)=r.length+1:=λf=>by simp
     refine⟨⟨by decide,by decide,by rw[i];omega,by rw[i];omega⟩, ?_⟩;rw[i,show ((r.length:Int)+1-1).toNat=r.length by omega];refine Im (λw τ=>∃(k:Nat) (j:zt AV) (c:C4) (ds:zy C4),w=rng ((k:Int)+1) ds.length/\(a::r)[k]? =some c/\(a::r).drop (k+1)=ds/\spotG c ds m=spotG a r m/\τ= [some (.val _),some (.val (fr m)),j]) ?_ ?_ _ _ ⟨0,none,a,r,rfl,rfl,rfl,rfl,rfl⟩
     .rintro τ ⟨k,j,c,ds,g,h,o,es,rfl⟩;have:ds= [] :=by
       cases ds with
       | nil=>rfl
       | cons d ds=>rw[AAe,FV] at g;cases g
      subst this;rw[<-es] at q;exact q
     .rintro x w τ R I ⟨k,j,c,ds,g,h,o,es,rfl⟩;cases ds with
      | nil=>cases g
      | cons d ds=>
        rw[AAe,FV] at g;cases g;have e:(a::r)[k+1]? =some d:=by have:=congrArg (λl=>l[0]?) o;simpa[AC5] using this
        have y:=hc d (ABq e);have J:=hc c (ABq h);refine Fg (k:=k+1) (by omega) e (u d _ ⟨rfl,CU (y.m.mono (by omega)) m1 ?_⟩);refine GO (b:= !decide (d.1<m)) (λz=> ?_) (λz=> ?_)
        .have p:¬d.1<m:=by simpa using z
         rw[<-es] at q;simp only[spotG,AAD p,NX] at q;exact Fg (k:=k) (by omega) h (Fg (k:=k+1) (by omega) e ⟨rfl,IW t J y s (Q0 A h e) D q⟩)
        .have p:d.1<m:=by simpa using z
         refine I _ ⟨k+1,_,d,ds, ?_,e, ?_, ?_,rfl⟩
         .rw [show (((k+1:Nat):Int)+1)=(k:Int)+1+1 by omega]
         .have:=congrArg List.tail o;simpa[List.tail_drop] using this
         .rw [<-es];simp only[spotG,AAE p]
theorem NV {m:Rat}:∀{a:C4} {r:zy C4},E5 (a::r)->(∀l,(a::r).getLast?=some l->l.1<m)->spotG a r m=none
 | a, [],_,_=>rfl
 | a,b::r,hr,h=>by
   have d:E5 (b::r):=(AAM.mp hr).2;have hb:b.1<m:=by
    cases r with
    | nil=>exact h b rfl
    | cons c r=> obtain⟨l,hl⟩:∃l,(c::r).getLast?=some l:=⟨_,ACa (by simp)⟩;have h1:l.1<m:=h l (by simpa[ACN] using hl);have h2:b.1<l.1:=(AAM.mp d).1 l (AB1 hl);grind
   simp only[spotG,AAE hb];exact NV d λl hl=>h l (by simpa[ACN] using hl)
def KS {a b:C4}(h:a.1<b.1):inter a b a.1=a.2:=by
 have s:(a.1-a.1)/(b.1-a.1)=0:=by grind
 simp only[inter,s];obtain⟨m,x,y,z⟩:=a;show (x+0*(b.2.1-x),y+0*(b.2.2.1-y),z+0*(b.2.2.2-z))=(x,y,z);rw[show x+0*(b.2.1-x)=x by grind,show y+0*(b.2.2.1-y)=y by grind,show z+0*(b.2.2.2-z)=z by grind]
def Hh {a b:C4}(h:a.1<b.1):inter a b b.1=b.2:=by
 have s:(b.1-a.1)/(b.1-a.1)=1:=by grind
 simp only[inter,s];obtain⟨m,x,y,z⟩:=b;show (a.2.1+1*(x-a.2.1),a.2.2.1+1*(y-a.2.2.1),a.2.2.2+1*(z-a.2.2.2))=(x,y,z);rw[show a.2.1+1*(x-a.2.1)=x by grind,show a.2.2.1+1*(y-a.2.2.1)=y by grind,show a.2.2.2+1*(z-a.2.2.2)=z by grind]
def Ey {a:C4}{r:zy C4}{m:Rat}(h:m<a.1):spotC (a::r) m=none:=by simp only[spotC,AAE h]
def RP {a:C4}{r:zy C4}{m:Rat}(b:E5 (a::r))(h:∀l,(a::r).getLast?=some l->l.1<m):spotC (a::r) m=none:=by
 simp only[spotC];split
 .rfl
 .exact NV b h
def IM:AS:=
 (Ad (Ao (G4 (Bs (LA (An (AB (aC (.int 1)) (AB (aC (.int 2)) (AB (aC (.int 3)) AL))))) 1 [4,3,2] (Am 0) Dh (AN 2 At (AB (aV 1) (AB (AN 2 DY (AB (AX Af (aV 2) (aV 0)) (AB (AX Af (aV 3) (aV 0)) AL))) AL))))) (Am 5))
   (Ar (HG Cc (AB (G4 (Bs (N6 (AB (aC (.int 3)) AL)) 1 [2,5] (Am 0) Dh (AN 2 Bc (AB (AX Af (aV 1) (AX Bf (aV 0) (aC (.int 1)))) (AB (AX Af (aV 2) (aV 0)) AL))))) AL))))
def Lm:AS:=
 (Ad (Ao (AN 2 ED (AB (AN 2 DY (AB (aV 1) (AB (AX Af (aV 2) (aC (.int 0))) AL))) (AB (AN 2 DY (AB (AX Af (aV 3) (aC (.int 0))) (AB (AX Af (aV 2) (aC (.int 0))) AL))) AL))) (Am 4))
   IM)
def Ln:AS:=
 (Ad (FH (j8 (AB (aV 0) (AB (Vp (aV 0) (Vs (aC (.int 1))) Vr) AL))) (HX 2 (AZ (Am 2) (AZ (Am 3) Be))) (CH (FI (BH (AN 2 A0 (AB (AX Af (aV 3) (aC (.int 0))) (AB (aV 1) AL))))) Lm BO))
   (Ar (aC .non)))
def Re:AS:=
 (Ad (CH (UD (BH (AN 2 A0 (AB (aV 1) (AB (AX Af (AX Af (aV 0) (aC (.int 0))) (aC (.int 0))) AL)))) (BH (AN 2 A0 (AB (AX Af (AX Af (aV 0) (UE MY (aC (.int 1)))) (aC (.int 0))) (AB (aV 1) AL))))) (Ar (aC .non)) BO)
   Ln)
def Em:AF:=Ap 6 Re
def ML {cs:zy C4}{B M:Nat}{m:Rat}(hc:∀c∈cs,D6 B c)(D:E5 cs)(G:cs≠ [])(hl:cs.length<=1000)(p:Bd M m)(L:M+6*B+10<=3990){Q:PV->Prop}(q:Q (NX (spotC cs m))):Em [BL cs,fr m] Q:=by
 have m1:=p.mono (n:=4000) (by omega);cases cs with
 | nil=>exact absurd rfl G
 | cons a r=>
   have ba:=hc a (by simp);have H:=ba.m.mono (n:=4000) (by omega);obtain⟨l,t⟩:∃l,(a::r).getLast?=some l:=⟨_,ACa (by simp)⟩;have I:=hc l (AB1 t);refine Fg (f:=cor) (k:=0) (c:=a) rfl rfl ⟨rfl,CU m1 H ?_⟩;refine GO (b:=decide (m<a.1)) (λz=> ?_) (λz=> ?_)
   .rw [Ey (AAr z)] at q;exact q
   refine Mf (f:=cor) t ⟨rfl,CU (I.m.mono (by omega)) m1 ?_⟩;refine GO (b:=decide (l.1<m)) (λj=> ?_) (λj=> ?_)
   .rw [RP D (λN e'=>by rw[t] at e';cases e';exact AAr j)] at q;exact q
   simp only[spotC,AAD (ABy z)] at q;have J:r.length+1<=1000:=hl;refine Wt (cs:=a::r) (i:=1) (k:=1) rfl (by simp) ?_;refine Im (λE τ=>∃(c:C4) (ds:zy C4) (j u v w:zt AV),E=LP ((c::ds).map cor) (ds.map cor)/\E5 (c::ds)/\(∀d∈c::ds,D6 B d)/\spotG c ds m=spotG a r m/\τ= [some (.val (BL (a::r))),some (.val (fr m)),j,u,v,w]) ?_ ?_ _ _ ⟨a,r,none,none,none,none,rfl,D,hc,rfl,rfl⟩
   .rintro τ ⟨c,ds,j,u,v,w,o,A,hb,es,rfl⟩;have:ds= [] :=by cases ds with | nil=>rfl|cons d ds=>cases o
    subst this;rw[<-es] at q;exact q
   .rintro x E τ R K ⟨c,ds,j,u,v,w,o,A,hb,es,rfl⟩;cases ds with
    | nil=>cases o
    | cons d ds=>
      cases o;have g:=hb c (by simp);have h:=hb d (by simp);have F:=(AAM.mp A).1 d (by simp);refine⟨rfl,rfl,CU (h.m.mono (by omega)) m1 ?_⟩;refine GO (b:= !decide (d.1<m)) (λz=> ?_) (λz=> ?_)
      .have C:¬d.1<m:=by simpa using z
       rw[<-es] at q;simp only[spotG,AAD C,NX,jf,inter] at q;have s:=Bd.share g h p F;refine⟨rfl,Cu m1 (g.m.mono (by omega)) ⟨rfl,Cu (h.m.mono (by omega)) (g.m.mono (by omega)) ⟨rfl,K4 (RQ F) ((p.sub g.m).mono (by omega)) ((h.m.sub g.m).mono (by omega)) ?_⟩⟩⟩;refine⟨lz,lz, ?_⟩;refine⟨rfl,Cu (h.x.mono (by omega)) (g.x.mono (by omega)) ⟨rfl,CL (s.mono (by omega)) ((h.x.sub g.x).mono (by omega)) ?_⟩⟩;refine⟨rfl,Cu (h.y.mono (by omega)) (g.y.mono (by omega)) ⟨rfl,CL (s.mono (by omega)) ((h.y.sub g.y).mono (by omega)) ?_⟩⟩;refine⟨rfl,Cu (h.z.mono (by omega)) (g.z.mono (by omega)) ⟨rfl,CL (s.mono (by omega)) ((h.z.sub g.z).mono (by omega)) ?_⟩⟩;refine⟨⟨by decide,by decide⟩,lz, ?_⟩;refine⟨rfl,Cw (g.x.mono (by omega)) ((s.mul (h.x.sub g.x)).mono (by omega)) ?_⟩;refine⟨rfl,Cw (g.y.mono (by omega)) ((s.mul (h.y.sub g.y)).mono (by omega)) ?_⟩;exact⟨rfl,Cw (g.z.mono (by omega)) ((s.mul (h.z.sub g.z)).mono (by omega)) q⟩
      .have C:d.1<m:=by simpa using z
       exact K _ ⟨d,ds,_,_,_,_,rfl,(AAM.mp A).2,λe he=>hb e (by simp[he]),by rw[<-es];simp only[spotG,AAE C],rfl⟩
def gH.t3 {t:T3}(h:F2 1900 t):gH (jf t):=(Sh.tup (mC (Sh.fr h.x) (Sh.fr h.y) (Sh.fr h.z))).go (by decide) lz
def sp (cs:zy C4)(m:Rat):C4:=(m,(spotC cs m).getD (0,0,0))
def j9 (f t:Rat)(c:C4):zq:=decide (f<c.1)&&decide (c.1<t)
theorem NW {m:Rat}:∀{a:C4} {r:zy C4} {l:C4},r≠ [] ->(a::r).getLast?=some l->m<=l.1->∃t,spotG a r m=some t
 | a, [],l,h,_,_=>absurd rfl h
 | a,b::r,l,_,e,hm=>by
   simp only[spotG];split
   .rename_i h;cases r with
    | nil=>
      have:b=l:=by simpa using e
      subst this;grind
    | cons c r=>exact NW (l:=l) (by simp) (by simpa[ACN] using e) hm
   .exact ⟨_,rfl⟩
def Dq {a:C4}{r:zy C4}{l:C4}{m:Rat}(h2:r≠ [])(e:(a::r).getLast?=some l)(b:a.1<=m)(h1:m<=l.1):∃t,spotC (a::r) m=some t:=by simp only[spotC];rw[AAD (by grind)];exact NW h2 e h1
def Xy {a b l:C4}{r:zy C4}(e:(a::b::r).getLast?=some l):(b::r).getLast?=some l:=by simpa[ACN] using e
def mx (b a:Rat):Rat:=if b<a then a else b
def mn (e l:Rat):Rat:=if e<l then e else l
theorem ET {i:Type}{g:AG}{j:AT}{l:AE}{d:BE}{Q:zy PV->Prop}(f k:i->PV)(p:i->zq)(P:i->Prop)(hs:∀a,P a->∀(R:PV->Prop) (N:Prop),(p a=true->R (k a))->(p a=false->N)->g (f a) d λe=>j e λok=>if ok=true then l e R else N):∀(xs:zy i) (c:zy PV),(∀a∈xs,P a)->Q (c++(xs.filter p).map k)->Ca g j l d Q (xs.map f) c
 | [],c,_,h=>(by simpa using h:Q c)
 | a::xs,c,hp,h=>by
   refine hs a (hp a (by simp)) (λy=>Ca g j l d Q (xs.map f) (c ++ [y])) _ (λz=> ?_) (λz=> ?_)
   .exact ET f k p P hs xs _ (λb hb=>hp b (by simp[hb])) (by simpa[AB2,z] using h)
   .exact ET f k p P hs xs _ (λb hb=>hp b (by simp[hb])) (by simpa[AB2,z] using h)
def both {f t:Rat}{c:C4}{b:(zq->Prop)->Prop}{A:Prop}{N:Prop}(h1:j9 f t c=true->A)(h2:j9 f t c=false->N):if decide (f<c.1)=true then (if decide (c.1<t)=true then A else N) else N:=by unfold j9 at h1 h2;refine GO (λz=>GO (λa=>h1 (by rw[z,a];rfl)) (λa=>h2 (by rw[z,a];rfl))) (λz=>h2 (by rw[z];rfl))
def Bd.mx {n:Nat}{a b:Rat}(ha:Bd n a)(hb:Bd n b):Bd n (mx a b):=by unfold PL.mx;split <;> assumption
def Bd.mn {n:Nat}{a b:Rat}(ha:Bd n a)(hb:Bd n b):Bd n (mn a b):=by unfold PL.mn;split <;> assumption
section
variable {a b:AS}{ta tb:AE}{tt tu:AT}{g:AG}{gs:Tp}{nx bk ct:BE->Prop}{rt:PV->Prop}{τ:BE}{Q:PV->Prop}{QB:zq->Prop}{QL:zy PV->Prop}{QT:BE->Prop}{r:AA}{ai:AI}{F:AF}{n i j:Nat}{x y z:PV}{xs ys:zy PV}
def nC {f:IY}(e:RX τ i=some (.val x))(h:ta τ λy=>f x y λz=>nx (τ.set i (some (.val z)))):XH i f ta ⟨nx,rt,bk,ct⟩ τ:=by unfold XH;rw[e];exact h
def nF (e:RX τ i=some (.own xs))(h:QL xs):K9 i τ QL:=by unfold K9;rw[e];exact h
def xH (e:RX τ i=some (.val x))(h:Q x):aV i τ Q:=by unfold aV;rw[e];exact h
def tV (x:PV)(i:Int):zt PV:=match x with | .tup xs=>II xs i | .lst xs=>II xs i|_=>none
def qv {i:Int}(e:tV x i=some z)(h:Q z):Af x (.int i) Q:=by cases x <;> first | (cases e;done)|(show cD (II _ i) Q;rw[show II _ i=some z from e];exact h)
def jK {cs:zy C4}(h:Q (.int cs.length)):LB [BL cs] Q:=by show Q (.int (cs.map cor).length);rw[AAL];exact h
def nD {p:Prop}[Decidable p]{A B:Prop}(h1:p->A)(h2:¬p->B):if decide p=true then A else B:=by
 by_cases h:p
 .rw [AAE (AAV h)];exact h1 h
 .rw [AAD (by simp[h])];exact h2 h
def nE {p:Prop}[Decidable p]{A B:Prop}(h1:¬p->A)(h2:p->B):if (!decide p)=true then A else B:=by
 by_cases h:p
 .rw [AAD (by simp[h])];exact h2 h
 .rw [AAE (by simp[h])];exact h1 h
end
def oK:Bd 1 (0:Rat):=⟨by decide,by decide⟩
def pq:Bd 1 (1:Rat):=⟨by decide,by decide⟩
section
variable {g:AG}{b:AS}{nx bk ct:BE->Prop}{rt:PV->Prop}
def V8 (P:Nat->BE->Prop){lo:Int}{n:Nat}(hd:∀τ,P n τ->nx τ)(hs:∀i,i<n->∀τ (R:BE->Prop),(∀τ,P (i+1) τ->R τ)->P i τ->g (.int (lo+i)) τ λc=>b ⟨R,rt,nx,R⟩ c){τ:BE}(f:P 0 τ):DF g b ⟨nx,rt,bk,ct⟩ (rng lo n) τ:=by
 refine Im (λr τ=>∃i,i<=n/\r=rng (lo+i) (n-i)/\P i τ) ?_ ?_ _ _ ⟨0,ABF _,by simp,f⟩
 .rintro τ ⟨i,hi,a,hp⟩;have:n-i=0:=by
   cases e:n-i with
   | zero=>rfl
   | succ k=>rw[e,FV] at a;cases a
  have:i=n:=by omega
  subst this;exact hd τ hp
 .rintro x r τ R h ⟨i,hi,a,hp⟩;cases e:n-i with
  | zero=>rw[e] at a;cases a
  | succ k=> rw[e,FV] at a;cases a;exact hs i (by omega) τ R (λd h2=>h d ⟨i+1,by omega,by rw[show n-(i+1)=k by omega,show lo+((i+1:Nat):Int)=lo+i+1 by omega],h2⟩) hp
def DQ {d:Type}(f:d->PV)(P:zy d->zy d->BE->Prop){cs:zy d}(hd:∀τ,P cs [] τ->nx τ)(hs:∀a c vs,a++c::vs=cs->∀τ (R:BE->Prop),(∀τ,P (a ++ [c]) vs τ->R τ)->P a (c::vs) τ->g (f c) τ λi=>b ⟨R,rt,nx,R⟩ i){τ:BE}(k:P [] cs τ):DF g b ⟨nx,rt,bk,ct⟩ (cs.map f) τ:=by
 refine Im (λr τ=>∃a vs,a++vs=cs/\r=vs.map f/\P a vs τ) ?_ ?_ _ _ ⟨[],cs,rfl,rfl,k⟩
 .rintro τ ⟨a,vs,e,h,hp⟩;cases vs with
  | nil=>rw[ADV] at e;subst e;exact hd τ hp
  | cons v vs=>cases h
 .rintro x r τ R l ⟨a,vs,e,h,hp⟩;cases vs with
  | nil=>cases h
  | cons c vs=> cases h;exact hs a c vs e τ R (λj h2=>l j ⟨a ++ [c],vs,by simpa using e,rfl,h2⟩) hp
end
section
variable {g:AG}{tt:AT}{te:AE}{τ0:BE}{Q:zy PV->Prop}
def Vz (P:Nat->zy PV->Prop){lo:Int}{n:Nat}(hd:∀a,P n a->Q a)(hs:∀i,i<n->∀a (R:zy PV->Prop),(∀a,P (i+1) a->R a)->P i a->g (.int (lo+i)) τ0 λc=>tt c λok=>if ok=true then te c λy=>R (a ++ [y]) else R a)(f:P 0 []):Ca g tt te τ0 Q (rng lo n) [] :=by
 refine Vy (λr a=>∃i,i<=n/\r=rng (lo+i) (n-i)/\P i a) ?_ ?_ _ _ ⟨0,ABF _,by simp,f⟩
 .rintro a ⟨i,hi,b,hp⟩;have:n-i=0:=by
   cases e:n-i with
   | zero=>rfl
   | succ k=>rw[e,FV] at b;cases b
  have:i=n:=by omega
  subst this;exact hd a hp
 .rintro x r a R h ⟨i,hi,b,hp⟩;cases e:n-i with
  | zero=>rw[e] at b;cases b
  | succ k=> rw[e,FV] at b;cases b;exact hs i (by omega) a R (λd h2=>h d ⟨i+1,by omega,by rw[show n-(i+1)=k by omega,show lo+((i+1:Nat):Int)=lo+i+1 by omega],h2⟩) hp
end
end PL
namespace PL
section
variable {p:Prop}[Decidable p]{A B:Prop}
def jJ (h:p)(a:A):if decide p=true then A else B:=by rw[AAE (AAV h)];exact a
def jI (h:¬p)(a:B):if decide p=true then A else B:=by rw[AAD (by simp[h])];exact a
end
end PL
namespace PL
open PySem PySem.Spec PyProof.Rows L2
def Kc (K:AAB)(mg:Str->zt zx)(x:Str)(v:PV):Prop:=∃(u:zx) (V:V),mg x=some u/\RelV V u/\∀T M H,CZ K T M H V v
section
variable {K:AAB}{T M:zu->Prop}{H:Hp}
def Bh {i:Int}{t:Tok}:∃V,RelV V (.int i t)/\∀T M H,CZ K T M H V (.int i):=⟨.int i,⟨t,rfl⟩,λ_ _ _=> .int i⟩
inductive KR (K:AAB):List Value->List PV->Prop where
 | nil:KR K [] []
 | cons {u:Value} {x:PV} {us:List Value} {xs:List PV} (h:∃V,RelV V u/\∀T M H,CZ K T M H V x) (t:KR K us xs):KR K (u::us) (x::xs)
theorem KR.reps:∀{a:zy zx} {xs:zy PV},KR K a xs->∃vs,Ay vs a/\∀T M H,A3 K T M H vs xs
 | _,_, .nil=>⟨[], .nil,λ_ _ _=> .nil⟩
 | _,_, .cons ⟨V,r,h⟩ t=>by obtain⟨vs,b,h2⟩:=KR.reps t;exact⟨V::vs, .cons r b,λT M H=> .cons (h T M H) (h2 T M H)⟩
def KR.length:∀{a:zy zx} {xs:zy PV},KR K a xs->a.length=xs.length
 | _,_, .nil=>rfl
 | _,_, .cons _ t=>by simp[t.length]
def La {a:zu}{b:zy zx}{xs:zy PV}{n:Nat}{c:zt zu}{sl:Array (zt zx)}(hl:K.lookup a=some ⟨.type "tuple",c, .seq b.toArray n,sl⟩)(h:KR K b xs)(hs:xs.length<=sizeLine:=by decide):∃V,RelV V (.ref a)/\∀T M H,CZ K T M H V (.tup xs):=by obtain⟨vs,r,q⟩:=h.reps;refine⟨.ref a,rfl,λT M H=> .tup (vs:=vs) (.inr ⟨_,b.toArray,n,hl,rfl,rfl, ?_,by simpa using r⟩) (q T M H)⟩;rw[AAT,h.length];exact hs
end
def WQ {K:AAB}{mg:Str->zt zx}{x:Str}{u:zx}{v:PV}(a:mg x=some u)(h:∃V,RelV V u/\∀T M H,CZ K T M H V v):Kc K mg x v:=let ⟨V,r,q⟩:=h;⟨u,V,a,r,q⟩
section
variable {X:Cx}
def BJ {x:Str}{v:PV}{pos:Pos}(c:Kc X.K X.mg x v)(a:Gl X x)(hd:(x==("__debug__" :Str))=false:=by decide):SE X (.Name x pos) (aC v):=by obtain⟨u,V,b,r,h⟩:=c;exact⟨_,dR a b r hd,TQ h⟩
end
end PL
namespace PL
open PySem L2 PyProof.Rows
class Wp (P:Prop) (P':outParam Prop):Prop where
 go:P'->P
class Tk (P:Prop) (C P':outParam Prop):Prop where
 go:C->P'->P
class sw (P:Prop) (P':outParam Prop):Prop where
 go:P'->P
class pY (P:Prop) (A B:outParam Prop):Prop where
 go:A->B->P
class fH (τ:BE) (i:Nat) (x:outParam AV):Prop where
 e:RX τ i=some x
instance{v:AV}{r:BE}:fH (some v::r) 0 v:=⟨rfl⟩
instance{y:zt AV}{r:BE}{i:Nat}{v:AV}[h:fH r i v] :fH (y::r) (i+1) v:=⟨h.e⟩
class Yv (τ:BE) (i:Nat) (v:AV) (τ':outParam BE):Prop where
 e:τ.set i (some v)=τ'
instance{y:zt AV}{r:BE}{v:AV}:Yv (y::r) 0 v (some v::r):=⟨rfl⟩
instance{y:zt AV}{r a:BE}{i:Nat}{v:AV}[h:Yv r i v a] :Yv (y::r) (i+1) v (y::a):=⟨by rw[AC6,h.e]⟩
class Yr (τ:BE) (τ':outParam BE):Prop where
 e:frz τ=τ'
instance:Yr [] [] :=⟨rfl⟩
instance (priority:=low){z:zt AV}{r a:BE}[h:Yr r a] :Yr (z::r) (gi z::a):=⟨by rw[<-h.e];rfl⟩
instance{r a:BE}[h:Yr r a] :Yr (none::r) (none::a):=⟨by rw[<-h.e];rfl⟩
instance{x:PV}{r a:BE}[h:Yr r a] :Yr (some (.val x)::r) (some (.val x)::a):=⟨by rw[<-h.e];rfl⟩
instance{x:zy PV}{r a:BE}[h:Yr r a] :Yr (some (.own x)::r) (some (.val (.lst x))::a):=⟨by rw[<-h.e];rfl⟩
class oC (ix:List Nat) (τ:BE) (τ':outParam BE):Prop where
 e:(ix.map λi=>XN (RX τ i))=τ'
instance{τ:BE}:oC [] τ [] :=⟨rfl⟩
instance{τ r:BE}{i:Nat}{ix:zy Nat}{x:PV}[h:fH τ i (.val x)][h2:oC ix τ r] :oC (i::ix) τ (some (.val x)::r):=⟨by rw[AAN,h.e,h2.e];rfl⟩
class oE (n:Nat) (τ:outParam BE):Prop where
 e:List.replicate n none=τ
instance:oE 0 [] :=⟨rfl⟩
instance{n:Nat}{τ:BE}[h:oE n τ] :oE (n+1) (none::τ):=⟨by rw[List.replicate_succ,h.e]⟩
class cK (xs ys:BE) (zs:outParam BE):Prop where
 e:xs++ys=zs
instance{a:BE}:cK [] a a:=⟨rfl⟩
instance{x:zt AV}{xs a b:BE}[h:cK xs a b] :cK (x::xs) a (x::b):=⟨by rw[AC7,h.e]⟩
class cM (xs ys:List PV) (zs:outParam (List PV)):Prop where
 e:xs++ys=zs
instance{a:zy PV}:cM [] a a:=⟨rfl⟩
instance{x:PV}{xs a b:zy PV}[h:cM xs a b] :cM (x::xs) a (x::b):=⟨by rw[AC7,h.e]⟩
class Ix (x:PV) (i:Int) (y:outParam PV):Prop where
 e:tV x i=some y
section
variable {a b:AS}{ta tb:AE}{tt tu:AT}{g:AG}{gs:Tp}{nx bk ct:BE->Prop}{rt:PV->Prop}{τ τ' τ2:BE}{Q:PV->Prop}{QB:zq->Prop}{QL:zy PV->Prop}{QT:BE->Prop}{r:AA}{ai:AI}{F:AF}{n i j:Nat}{x y z:PV}{xs ys zs:zy PV}
instance{c:PV}{q:zy PV}:Ix (.tup (c::q)) 0 c:=⟨Co (j:=0) rfl⟩
instance{c:PV}{q:zy PV}:Ix (.lst (c::q)) 0 c:=⟨Co (j:=0) rfl⟩
instance{d c:PV}{q:zy PV}:Ix (.tup (d::c::q)) 1 c:=⟨Co (j:=1) rfl⟩
instance{d c:PV}{q:zy PV}:Ix (.lst (d::c::q)) 1 c:=⟨Co (j:=1) rfl⟩
instance{d e c:PV}{q:zy PV}:Ix (.tup (d::e::c::q)) 2 c:=⟨Co (j:=2) rfl⟩
instance{d e c:PV}{q:zy PV}:Ix (.lst (d::e::c::q)) 2 c:=⟨Co (j:=2) rfl⟩
instance{q:Rat}:Ix (fr q) 0 (.int q.num):=⟨rfl⟩
instance{q:Rat}:Ix (fr q) 1 (.int q.den):=⟨rfl⟩
instance{c:C4}:Ix (cor c) 0 (fr c.1):=⟨rfl⟩
instance{c:C4}:Ix (corL c) 0 (fr c.1):=⟨rfl⟩
instance{c:C4}:Ix (cor c) 1 (fr c.2.1):=⟨rfl⟩
instance{c:C4}:Ix (cor c) 2 (fr c.2.2.1):=⟨rfl⟩
instance{c:C4}:Ix (cor c) 3 (fr c.2.2.2):=⟨rfl⟩
def pj {f:C4->PV}{c:C4}{cs:zy C4}:II ((c::cs).map f) 0=some (f c):=Co (j:=0) rfl
instance{c:C4}{cs:zy C4}:Ix (BL (c::cs)) 0 (cor c):=⟨pj⟩
instance:Wp (Ad a b ⟨nx,rt,bk,ct⟩ τ) (a ⟨b ⟨nx,rt,bk,ct⟩,rt,bk,ct⟩ τ):=⟨id⟩
instance:Wp (Ao ta g ⟨nx,rt,bk,ct⟩ τ) (ta τ λx=>g x τ nx):=⟨id⟩
instance[h:Yr τ τ'] :Wp (Ar ta ⟨nx,rt,bk,ct⟩ τ) (ta τ' rt):=⟨λk=>by unfold Ar;rw[h.e];exact k⟩
instance:Wp (BO ⟨nx,rt,bk,ct⟩ τ) (nx τ):=⟨id⟩
instance:Wp (CH tt a b ⟨nx,rt,bk,ct⟩ τ) (tt τ λk=>if k=true then a ⟨nx,rt,bk,ct⟩ τ else b ⟨nx,rt,bk,ct⟩ τ):=⟨id⟩
def TN (τ:BE)(i:Nat)(v:AV)(QT:BE->Prop):Prop:=QT (τ.set i (some v))
instance{v:AV}[h:Yv τ i v τ'] :Wp (TN τ i v QT) (QT τ'):=⟨λk=>by unfold TN;rw[h.e];exact k⟩
instance:Wp (Jh r i ⟨nx,rt,bk,ct⟩ τ) (r τ λxs=>TN τ i (.own xs) nx):=⟨id⟩
instance[h:Yv τ i (.val x) τ'] :Wp (Am i x τ QT) (QT τ'):=⟨λk=>by unfold Am;rw[h.e];exact k⟩
instance{f:IY}[h:fH τ i (.val x)] :Wp (XH i f ta ⟨nx,rt,bk,ct⟩ τ) (ta τ λy=>f x y λz=>TN τ i (.val z) nx):=⟨λk=>nC h.e k⟩
instance[h:fH τ i (.own xs)] :Wp (K9 i τ QL) (QL xs):=⟨λk=>nF h.e k⟩
instance{f:j4}:Wp (F3 i f r ⟨nx,rt,bk,ct⟩ τ) (K9 i τ λxs=>r τ λys=>f xs ys λzs=>TN τ i (.own zs) nx):=⟨id⟩
instance:Wp (LG xs [y] QL) (xs.length<sizeLine/\QL (xs ++ [y])):=⟨id⟩
instance:Wp (FH ai g b ⟨nx,rt,bk,ct⟩ τ) (ai τ λxs=>DF g b ⟨nx,rt,bk,ct⟩ xs τ):=⟨id⟩
instance:Wp (DF g b ⟨nx,rt,bk,ct⟩ [] τ) (nx τ):=⟨id⟩
instance{q:zy PV}:sw (DF g b ⟨nx,rt,bk,ct⟩ (x::q) τ) (g x τ λc=>b ⟨DF g b ⟨nx,rt,bk,ct⟩ q,rt,nx,DF g b ⟨nx,rt,bk,ct⟩ q⟩ c):=⟨id⟩
instance:Wp (Be [] τ QT) (QT τ):=⟨id⟩
instance{t:zy PV}:Wp (AZ g gs (x::t) τ QT) (g x τ λτ'=>gs t τ' QT):=⟨id⟩
instance:Wp (HX n gs x τ QT) (M6 x λxs=>xs.length=n/\gs xs τ QT):=⟨id⟩
instance[h:fH τ i (.val x)] :Wp (aV i τ Q) (Q x):=⟨λk=>xH h.e k⟩
instance:Wp (aC x τ Q) (Q x):=⟨id⟩
instance{f:IY}:Wp (AX f ta tb τ Q) (ta τ λx=>tb τ λy=>f x y Q):=⟨id⟩
instance{f:PV->(PV->Prop)->Prop}:Wp (UE f ta τ Q) (ta τ λx=>f x Q):=⟨id⟩
instance:Wp (Yz ta tb τ Q) (ta τ λx=>cC x λc=>if c=true then tb τ Q else Q (.bl false)):=⟨id⟩
instance:Wp (pZ ta tb τ Q) (ta τ λx=>cC x λc=>if c=true then Q (.bl true) else tb τ Q):=⟨id⟩
instance:Wp (BH ta τ QB) (ta τ λx=>cC x QB):=⟨id⟩
instance:Wp (FI tt τ QB) (tt τ λc=>QB (!c)):=⟨id⟩
instance:Wp (Vo tt tu τ QB) (tt τ λc=>if c=true then tu τ QB else QB false):=⟨id⟩
instance:Wp (UD tt tu τ QB) (tt τ λc=>if c=true then QB true else tu τ QB):=⟨id⟩
instance:Wp (j7 tt ta tb τ Q) (tt τ λc=>if c=true then ta τ Q else tb τ Q):=⟨id⟩
instance:Wp (Dh τ QB) (QB true):=⟨id⟩
instance[h:Yr τ τ'] :Wp (cU ta τ Q) (ta τ' λx=>cB x=true/\Q x):=⟨λk=>by unfold cU;rw[h.e];exact k⟩
instance:Wp (AL τ QL) (QL []):=⟨id⟩
instance:Wp (AB ta r τ QL) (ta τ λx=>r τ λxs=>QL (x::xs)):=⟨id⟩
def Yf (xs:zy PV)(Q:PV->Prop):Prop:=xs.length<=sizeLine/\Q (.tup xs)
instance:Wp (An r τ Q) (r τ λxs=>Yf xs Q):=⟨id⟩
instance:Wp (F8 r τ QL) (r τ λxs=>xs.length<=sizeLine/\QL xs):=⟨id⟩
instance:Wp (G4 r τ Q) (r τ λxs=>Q (.lst xs)):=⟨id⟩
instance:Wp (AN n F r τ Q) (r τ λxs=>xs.length=n/\F xs Q):=⟨id⟩
instance:Wp (HG F r τ Q) (r τ λxs=>F xs Q):=⟨id⟩
instance{own:Nat}{ix:zy Nat}{f:AE}{c d:BE}[h1:oE own c][h2:oC ix τ d][h3:cK c d τ'] :Wp (Bs ai own ix g tt f τ QL) (ai τ λxs=>xs.length<sizeLine/\Ca g tt f τ' QL xs []):=⟨λk=>by unfold Bs N7;rw[h1.e,h2.e,h3.e];exact k⟩
instance{d:AE}{c:zy PV}:Wp (Ca g tt d τ QL [] c) (QL c):=⟨id⟩
instance{e:AE}{c q:zy PV}:Wp (Ca g tt e τ QL (x::q) c) (g x τ λd=>tt d λok=>if ok=true then e d λy=>Ca g tt e τ QL q (c ++ [y]) else Ca g tt e τ QL q c):=⟨id⟩
instance:Wp (LA ta τ QL) (ta τ λx=>M6 x QL):=⟨id⟩
instance:Wp (N6 (AB ta AL) τ QL) (ta τ λx=>RY x λj=>(-(2^62)<=j/\j<2^62)/\QL (rng 0 j.toNat)):=⟨λh=>by have e:(λx=>RY x λj=>(-(2^62)<=j/\j<2^62)/\QL (rng 0 j.toNat))=(λx=>match [x] with | [.int j] =>(-(2^62)<=j/\j<2^62)/\QL (rng 0 j.toNat)|_=>False):=(funext λx=>by cases x <;> rfl);rw[e] at h;exact h⟩
instance:Wp (j8 (AB ta (AB tb AL)) τ QL) (ta τ λx=>tb τ λy=>M6 x λxs=>M6 y λys=>QL (LP xs ys)):=⟨id⟩
instance{R:Int->Prop}{k:Int}:Wp (RY (.int k) R) (R k):=⟨id⟩
instance{R:zq->Prop}{c:zq}:Wp (cC (.bl c) R) (R c):=⟨id⟩
instance:Wp (M6 (.tup xs) QL) (QL xs):=⟨id⟩
instance:Wp (M6 (.lst xs) QL) (QL xs):=⟨id⟩
instance{q:Rat}:Wp (M6 (fr q) QL) (QL [.int q.num, .int q.den]):=⟨id⟩
instance{cs:zy C4}:Wp (M6 (BL cs) QL) (QL (cs.map cor)):=⟨id⟩
instance{f:Int->Int->PV}{k l:Int}:Wp (fI f (.int k) (.int l) Q) (Q (f k l)):=⟨id⟩
instance{C:Int->Int->Prop}{f:Int->Int->PV}{k l:Int}:Wp (kA C f (.int k) (.int l) Q) (C k l/\Q (f k l)):=⟨id⟩
instance:Wp (Xa .non .non Q) (Q (.bl true)):=⟨id⟩
instance:Wp (MZ .non .non Q) (Q (.bl false)):=⟨id⟩
instance:Wp (MZ (.tup xs) .non Q) (Q (.bl true)):=⟨id⟩
instance{k:Int}[h:Ix x k z] :Wp (Af x (.int k) Q) (Q z):=⟨λq=>qv h.e q⟩
instance{k:Int}:Wp (MY (.int k) Q) (Q (.int (-k))):=⟨id⟩
instance w_not {c:zq}:Wp (ZJ (.bl c) Q) (Q (.bl (!c))):=⟨id⟩
instance{k l:Int}:Wp (Bf (.int k) (.int l) Q) (Q (.int (k+l))):=⟨id⟩
instance{k l:Int}:Wp (Tl (.int k) (.int l) Q) (Q (.bl (decide (k=l)))):=⟨id⟩
instance{k l:Str}:Wp (Tl (.str k) (.str l) Q) (Q (.bl (decide (k=l)))):=⟨id⟩
instance{k l:Str}:Wp (gZ (.str k) (.str l) Q) (Q (.bl (!decide (k=l)))):=⟨id⟩
instance{ns:zy Int}:Wp (LB [.scr ns] Q) (Q (.int ns.length)):=⟨id⟩
instance{cs:zy C4}:Wp (LB [BL cs] Q) (Q (.int cs.length)):=⟨jK⟩
instance (priority:=high){c:Type}{f:c->PV}{cs:zy c}:Wp (LB [.tup (cs.map f)] Q) (Q (.int cs.length)):=⟨λh=>by show Q (.int (cs.map f).length);rw[AAL];exact h⟩
instance (priority:=high){c:Type}{f:c->PV}{cs:zy c}:Wp (LB [.lst (cs.map f)] Q) (Q (.int cs.length)):=⟨λh=>by show Q (.int (cs.map f).length);rw[AAL];exact h⟩
instance{k:Int}:Wp (R9 [.int k] Q) (Q (.int k.natAbs)):=⟨id⟩
instance{f:Int->Int->Int}{k l:Int}:Wp (gj f [.int k, .int l] Q) (Q (.int (f k l))):=⟨id⟩
instance:Wp (Cc [.lst xs] Q) (Q (.tup xs)):=⟨id⟩
instance{lo hi:zt Int}:Wp (US (.tup xs) lo hi Q) (Q (.tup (GN xs lo hi))):=⟨Fx⟩
instance{l h:AO}:Wp (Vp ta l h τ Q) (ta τ λx=>l τ λlo=>h τ λhi=>US x lo hi Q):=⟨id⟩
instance{R:zt Int->Prop}:Wp (Vr τ R) (R none):=⟨id⟩
instance{R:zt Int->Prop}:Wp (Vs ta τ R) (ta τ λx=>RY x λi=>R (some i)):=⟨id⟩
instance{A B:Prop}:Wp (if true=true then A else B) (A):=⟨λh=>by rw[AAE rfl];exact h⟩
instance{A B:Prop}:Wp (if false=true then A else B) (B):=⟨λh=>by rw[AAD AAS];exact h⟩
instance{A B:Prop}:Wp (if (!true)=true then A else B) (B):=⟨λh=>h⟩
instance{A B:Prop}:Wp (if (!false)=true then A else B) (A):=⟨λh=>h⟩
instance{p A B:Prop}[Decidable p] :pY (if decide p=true then A else B) (p->A) (¬p->B):=⟨nD⟩
instance{p A B:Prop}[Decidable p] :pY (if (!decide p)=true then A else B) (¬p->A) (p->B):=⟨nE⟩
instance{A:Prop}:Wp (([] :zy PV).length<=sizeLine/\A) (A):=⟨λh=>⟨lz,h⟩⟩
instance{A:Prop}:Wp (([] :zy PV).length<sizeLine/\A) (A):=⟨λh=>⟨lz,h⟩⟩
instance{c:PV}{A:Prop}:Wp ([c].length=1/\A) (A):=⟨λh=>⟨rfl,h⟩⟩
instance{c d:PV}{A:Prop}:Wp ([c,d].length=2/\A) (A):=⟨λh=>⟨rfl,h⟩⟩
instance{c d:PV}{A:Prop}:Wp ([c,d].length<=sizeLine/\A) (A):=⟨λh=>⟨lz,h⟩⟩
instance{c d:PV}{A:Prop}:Wp ([c,d].length<sizeLine/\A) (A):=⟨λh=>⟨lz,h⟩⟩
instance{c d e:PV}{A:Prop}:Wp ([c,d,e].length=3/\A) (A):=⟨λh=>⟨rfl,h⟩⟩
instance{c d e:PV}{A:Prop}:Wp ([c,d,e].length<=sizeLine/\A) (A):=⟨λh=>⟨lz,h⟩⟩
instance{c d e:PV}{A:Prop}:Wp ([c,d,e].length<sizeLine/\A) (A):=⟨λh=>⟨lz,h⟩⟩
instance{c d e f:PV}{A:Prop}:Wp ([c,d,e,f].length=4/\A) (A):=⟨λh=>⟨rfl,h⟩⟩
instance{c d e f:PV}{A:Prop}:Wp ([c,d,e,f].length<=sizeLine/\A) (A):=⟨λh=>⟨lz,h⟩⟩
instance{c d e f k:PV}{A:Prop}:Wp ([c,d,e,f,k].length=5/\A) (A):=⟨λh=>⟨rfl,h⟩⟩
instance{c d e f k:PV}{A:Prop}:Wp ([c,d,e,f,k].length<=sizeLine/\A) (A):=⟨λh=>⟨lz,h⟩⟩
instance{c d e f k l:PV}{A:Prop}:Wp ([c,d,e,f,k,l].length<=sizeLine/\A) (A):=⟨λh=>⟨lz,h⟩⟩
instance{c:PV}:Wp (Yf [c] Q) (Q (.tup [c])):=⟨λh=>⟨lz,h⟩⟩
instance{c d:PV}:Wp (Yf [c,d] Q) (Q (.tup [c,d])):=⟨λh=>⟨lz,h⟩⟩
instance{c d e:PV}:Wp (Yf [c,d,e] Q) (Q (.tup [c,d,e])):=⟨λh=>⟨lz,h⟩⟩
instance{c d e f:PV}:Wp (Yf [c,d,e,f] Q) (Q (.tup [c,d,e,f])):=⟨λh=>⟨lz,h⟩⟩
instance{c d e f k l:PV}:Wp (Yf [c,d,e,f,k,l] Q) (Q (.tup [c,d,e,f,k,l])):=⟨λh=>⟨lz,h⟩⟩
instance (priority:=high+10):Wp (Yf [.int 0, .int 1] Q) (Q (fr 0)):=⟨λh=>⟨lz,h⟩⟩
instance (priority:=high+10):Wp (Yf [.int 1, .int 1] Q) (Q (fr 1)):=⟨λh=>⟨lz,h⟩⟩
instance (priority:=high){k:Int}:Wp (Yf [.int k, .int 1] Q) (Q (fr (k:Rat))):=⟨λh=>⟨lz,RU h⟩⟩
instance (priority:=high){k:Rat}{p q r:Rat}:Wp (Bf (.tup [fr k]) (.tup [fr p,fr q,fr r]) Q) (Q (cor (k,p,q,r))):=⟨λh=>⟨lz,h⟩⟩
def gc:PV.tup [.int 1, .int 2] =fr (1/2):=by unfold fr;rw[show ((1:Rat)/2).num=1 by decide +kernel,show ((1:Rat)/2).den=2 by decide +kernel];rfl
instance (priority:=high):Wp (Yf [.int 1, .int 2] Q) (Q (fr (1/2))):=⟨λh=>⟨lz,by rw[gc];exact h⟩⟩
def gf:PV.tup [.int 1, .int 3] =fr (1/3):=by unfold fr;rw[show ((1:Rat)/3).num=1 by decide +kernel,show ((1:Rat)/3).den=3 by decide +kernel];rfl
instance (priority:=high):Wp (Yf [.int 1, .int 3] Q) (Q (fr (1/3))):=⟨λh=>⟨lz,by rw[gf];exact h⟩⟩
def gg:PV.tup [.int 3, .int 2] =fr (3/2):=by unfold fr;rw[show ((3:Rat)/2).num=3 by decide +kernel,show ((3:Rat)/2).den=2 by decide +kernel];rfl
instance (priority:=high):Wp (Yf [.int 3, .int 2] Q) (Q (fr (3/2))):=⟨λh=>⟨lz,by rw[gg];exact h⟩⟩
class Zp (xs ys:List PV) (zs:outParam (List PV)):Prop where
 e:LP xs ys=zs
instance:Zp [] [] [] :=⟨rfl⟩
instance[h:Zp xs ys zs] :Zp (x::xs) (y::ys) (.tup [x,y] :: zs):=⟨by rw[<-h.e];rfl⟩
instance[h:Zp xs ys zs] :Wp (DF g b ⟨nx,rt,bk,ct⟩ (LP xs ys) τ) (DF g b ⟨nx,rt,bk,ct⟩ zs τ):=⟨λk=>by rw[h.e];exact k⟩
instance{d:AE}{c:zy PV}[h:Zp xs ys zs] :Wp (Ca g tt d τ QL (LP xs ys) c) (Ca g tt d τ QL zs c):=⟨λk=>by rw[h.e];exact k⟩
instance{A:Prop}[h:Zp xs ys zs] :Wp ((LP xs ys).length<sizeLine/\A) (zs.length<sizeLine/\A):=⟨λk=>by rw[h.e];exact k⟩
instance (priority:=high){d:AE}{c q zs:zy PV}[h:cM c [y] zs] :Wp (Ca g tt d τ QL q (c ++ [y])) (Ca g tt d τ QL q zs):=⟨λk=>by rw[h.e];exact k⟩
instance{m:Int}:Tk (A9 [.tape, .int m] Q) (0<m/\m<4611686018427387904) (∀r,0<=r->r<m->Q (.int r)):=⟨λc h=>Cp c.1 c.2 h⟩
instance{ns:zy Int}{k:Int}:Tk (MN [.scr ns, .int k] Q) (0<=k/\k<=1000) (Q .tape):=⟨λc h=>⟨c,h⟩⟩
instance{a b:Rat}:Tk (Bx [fr a,fr b] Q) (Bd 4000 a/\Bd 4000 b) (Q (fr (a+b))):=⟨λc h=>CD c.1 c.2 h⟩
instance{a b:Rat}:Tk (B6 [fr a,fr b] Q) (Bd 4000 a/\Bd 4000 b) (Q (fr (a-b))):=⟨λc h=>Dd c.1 c.2 h⟩
instance{a b:Rat}:Tk (Fc [fr a,fr b] Q) (Bd 4000 a/\Bd 4000 b) (Q (fr (a*b))):=⟨λc h=>MO c.1 c.2 h⟩
instance{a b:Rat}:Tk (Bc [fr a,fr b] Q) (Bd 4000 a/\Bd 4000 b) (Q (fr (a+b))):=⟨λc h=>Cw c.1 c.2 h⟩
instance{a b:Rat}:Tk (At [fr a,fr b] Q) (Bd 4000 a/\Bd 4000 b) (Q (fr (a*b))):=⟨λc h=>CL c.1 c.2 h⟩
instance{a b:Rat}:Tk (A0 [fr a,fr b] Q) (Bd 4000 a/\Bd 4000 b) (Q (.bl (decide (a<b)))):=⟨λc h=>CU c.1 c.2 h⟩
instance{a b:Rat}:Tk (GI [fr a,fr b] Q) (b≠0/\Bd 4000 a/\Bd 4000 b) (Q (fr (a/b))):=⟨λc h=>Je c.1 c.2.1 c.2.2 h⟩
instance{lo:Int}{A:Prop}:Wp ((rng lo n).length<sizeLine/\A) (n<16777216/\A):=⟨λk=>⟨by rw[VB];exact k.1,k.2⟩⟩
instance{c:Type}{f:c->PV}{cs:zy c}{A:Prop}:Wp ((cs.map f).length<sizeLine/\A) (cs.length<16777216/\A):=⟨λk=>⟨by rw[AAL];exact k.1,k.2⟩⟩
instance (priority:=high){c:Type}{k:c}[Decidable (k=k)]{A B:Prop}:Wp (if decide (k=k)=true then A else B) A:=⟨λh=>by rw[AAE (AAV rfl)];exact h⟩
instance (priority:=high){c:Type}{k:c}[Decidable (k=k)]{A B:Prop}:Wp (if (!decide (k=k))=true then A else B) B:=⟨λh=>by rw[AAD (by simp)];exact h⟩
instance{cs:zy C4}{k:Int}:Tk (US (BL cs) none (some k) Q) (0<=k/\k<=cs.length) (Q (BL (cs.take k.toNat))):=⟨λc h=>nN (k:=k.toNat) (by omega) (by omega) h⟩
instance{cs:zy C4}{k:Int}:Tk (US (BL cs) (some k) none Q) (0<=k/\k<=cs.length) (Q (BL (cs.drop k.toNat))):=⟨λc h=>Wt (k:=k.toNat) (by omega) (by omega) h⟩
instance{cs:zy C4}{c:C4}:Tk (Bf (BL cs) (.tup [cor c]) Q) (cs.length<=9000) (Q (BL (cs ++ [c]))):=⟨λk h=>ZB (ds:= [c]) (by simp;omega) h⟩
def lw {d:Type}{f:d->PV}{cs:zy d}{k:Int}{R:PV->Prop}(c:0<=k/\k<cs.length)(h:∀c,cs[k.toNat]? =some c->c∈cs->R (f c)):cD (II (cs.map f) k) R:=by
 have hk:k.toNat<cs.length:=by omega
 have e:II (cs.map f) ((k.toNat:Nat):Int)=some (f cs[k.toNat]):=Co (by rw[AAl,AAd hk] <;> rfl);rw[show k=((k.toNat:Nat):Int) by omega,e];exact h _ (AAd hk) (AC8 hk)
instance{cs:zy C4}{k:Int}:Tk (Af (BL cs) (.int k) Q) (0<=k/\k<cs.length) (∀c,cs[k.toNat]? =some c->c∈cs->Q (cor c)):=⟨λc h=>lw c h⟩
instance{c:C4}:Wp (US (cor c) (some 1) none Q) (Q (.tup [fr c.2.1,fr c.2.2.1,fr c.2.2.2])):=⟨λh=>Fx h⟩
end
end PL
namespace L2
open PySem PySem.Spec PyProof.Rows
abbrev ES (h:zl)(T:zu)(a b c:zx):Prop:=h.get? T=some {cls:= .type "tuple",data:= .seq #[a,b,c] }
structure oI (z TI TO i j k l m n:Addr):Prop where
 TIz:TI≠z
 TOz:TO≠z
 iz:i≠z
 jz:j≠z
 kz:k≠z
 TITO:TI≠TO
 TIi:TI≠i
 TIj:TI≠j
 TIk:TI≠k
 TOi:TO≠i
 TOj:TO≠j
 TOk:TO≠k
 ij:i≠j
 ik:i≠k
 jk:j≠k
 lo:∀x∈ [l,m,n],x≠z/\x≠TI/\x≠TO/\x≠i/\x≠j/\x≠k
def fE {s l m n:Nat}(hl:l<s)(b:m<s)(c:n<s):oI (s+5) (s+3) (s+4) s (s+1) (s+2) l m n where
 TIz:=(by omega:(s+3:Nat)≠s+5)
 TOz:=(by omega:(s+4:Nat)≠s+5)
 iz:=(by omega:(s:Nat)≠s+5)
 jz:=(by omega:(s+1:Nat)≠s+5)
 kz:=(by omega:(s+2:Nat)≠s+5)
 TITO:=(by omega:(s+3:Nat)≠s+4)
 TIi:=(by omega:(s+3:Nat)≠s)
 TIj:=(by omega:(s+3:Nat)≠s+1)
 TIk:=(by omega:(s+3:Nat)≠s+2)
 TOi:=(by omega:(s+4:Nat)≠s)
 TOj:=(by omega:(s+4:Nat)≠s+1)
 TOk:=(by omega:(s+4:Nat)≠s+2)
 ij:=(by omega:(s:Nat)≠s+1)
 ik:=(by omega:(s:Nat)≠s+2)
 jk:=(by omega:(s+1:Nat)≠s+2)
 lo:=λx hx=>by
  have h:x=l\/x=m\/x=n:=by simpa using hx
  have a:(x:Nat)<s:=by rcases h with e|e|e <;> (rw[e];assumption)
  exact⟨AAK (AAP a (ABA _ _)),AAK (AAP a (ABA _ _)),AAK (AAP a (ABA _ _)),AAK a,AAK (AAP a (ABA _ _)),AAK (AAP a (ABA _ _))⟩
structure Z3 (b c d:Bool) (z TI TO i j k l m n:Addr) (t:Nat) (f:Value) (h:Heap):Prop where
 zip:IsZip h z TI TO f
 its:ES h TI (.ref i) (.ref j) (.ref k)
 own:∃x y w,ES h TO x y w
 one:N5 b h i l t
 two:N5 c h j m t
 tre:N5 d h k n t
def Z3.mv {b c d:zq}{z TI TO i j k l m n:zu}{t:Nat}{f:zx}{h h':zl}(Z:Z3 b c d z TI TO i j k l m n t f h)(e:∀p∈ [z,TI,TO,i,j,k],∀o,h.get? p=some o->h'.get? p=some o):Z3 b c d z TI TO i j k l m n t f h':=by obtain⟨a,g,⟨x,y,w,r⟩,s,u,v⟩:=Z;exact⟨e z (by simp) _ a,e TI (by simp) _ g,⟨x,y,w,e TO (by simp) _ r⟩,s.mv (e i (by simp)),u.mv (e j (by simp)),v.mv (e k (by simp))⟩
section
variable {prog:zp}{w:zm}{A:zk}{E:zx->zw->Prop}{s:zw}
def Nb {T:zu}{a b c x:zx}{k:Nat}{Q:Unit->zw->Prop}(d:ES s.heap T a b c)(h:∀h',h'.get? T=some {cls:= .type "tuple",data:= .seq ((#[a,b,c] :Array zx).setIfInBounds k x)}->Heap.SameBut T s.heap h'->Q () {s with heap:=h'}):wpAny (model prog w) A (updateSeq T (·.setIfInBounds k x)) Q E s:=by refine wpAny_updateSeq d rfl (h _ (by rw[ACW _ d rfl];simp[Obj.mapSeq]) (ADe ..))
variable {b c d:zq}{z TI TO i j k l m n:zu}{t:Nat}{xs ys ws:Array zx}
def jw {x y v:zx}{Q:zx->zw->Prop}(D:oI z TI TO i j k l m n)(Z:Z3 b c d z TI TO i j k l m n t .none s.heap)(hl:IH b s.heap l xs)(hm:IH c s.heap m ys)(hn:IH d s.heap n ws)(hx:xs[t]? =some x)(hy:ys[t]? =some y)(hv:ws[t]? =some v)(hQ:∀h',Z3 b c d z TI TO i j k l m n (t+1) (rawInt s.heap.objs.size) h'->ES h' s.heap.objs.size x y v-> (∀p o,p≠z->p≠TO->p≠i->p≠j->p≠k->s.heap.get? p=some o->h'.get? p=some o)->Q (.ref s.heap.objs.size) {s with heap:=h'}):wpAny (model prog w) A (Builtin.«zip.__next__» ⟨[.ref z], []⟩) (λY s'=>∃v,Y= .done (.ret v)/\Q v s') E s:=by
 obtain⟨I,zi,⟨x0,y0,J,zo⟩,z1,z2,z3⟩:=Z;obtain⟨lz,lTI,lTO,li,lj,lk⟩:=D.lo l (by simp);obtain⟨mz,mTI,mTO,mi,mj,mk⟩:=D.lo m (by simp);obtain⟨nz,nTI,nTO,ni,nj,nk⟩:=D.lo n (by simp);refine AAA (m:=field (.ref z) 2) (AAU I rfl (x:= .bool false) rfl ?_);refine AAA (m:=field (.ref z) 3) (AAU I rfl (x:= .ref TI) rfl (AAA (AAi zi rfl ?_)));refine AAA (m:=Builtin.SmallTypes.ownedTupleIsFree (.ref z)) ?_;unfold Builtin.SmallTypes.ownedTupleIsFree;refine AAA (AAU I rfl (x:= .none) rfl (AAC ?_));simp only[AAv];refine AAA (ABJ (AAA (AAU I rfl (x:= .ref TO) rfl (AAA (AA7 I (by simp) λg1 e1 U=> ?_)))));have e1:IsZip g1 z TI TO .ellipsis:=e1;refine AAA ?_;simp only[ACq,ACr,ABY,ACH];refine AAA (AAA (ABa ?_));refine AAA (m:=Builtin.SmallTypes.nextOf (.ref i)) (FJ (z1.mv λo=>U.extBut _ o D.iz) (hl.mv λo=>U.extBut _ o lz) hx λg2 e2 b2=>AAC ?_);have k2:∀p o,p≠z->p≠i->s.heap.get? p=some o->g2.get? p=some o:=λp o g h e=>b2.extBut _ _ h (U.extBut _ _ g e);have o2:ES g2 TO x0 y0 J:=k2 _ _ D.TOz D.TOi zo;refine AAA (AAi o2 rfl (AAA (Nb o2 λg3 o3 W=>AAA (ACI (AAC ?_)))));have o3:ES g3 TO x y0 J:=o3;have k3:∀p o,p≠z->p≠i->p≠TO->s.heap.get? p=some o->g3.get? p=some o:=λp o g h B e=>W.extBut _ _ B (k2 p o g h e);refine AAA (AAA (ABa ?_));refine AAA (m:=Builtin.SmallTypes.nextOf (.ref j)) (FJ (z2.mv λo=>k3 _ o D.jz D.ij.symm D.TOj.symm) (hm.mv λo=>k3 _ o mz mi mTO) hy λg4 e4 K=>AAC ?_);have o4:ES g4 TO x y0 J:=K.extBut _ _ D.TOj o3;refine AAA (AAi o4 rfl (AAA (Nb o4 λg5 o5 L=>AAA (ACI (AAC ?_)))));have o5:ES g5 TO x y J:=o5;have k5:∀p o,p≠z->p≠i->p≠TO->p≠j->s.heap.get? p=some o->g5.get? p=some o:=λp o g h B M e=>L.extBut _ _ B (K.extBut _ _ M (k3 p o g h B e));refine AAA (AAA (ABa ?_));refine AAA (m:=Builtin.SmallTypes.nextOf (.ref k)) (FJ (z3.mv λo=>k5 _ o D.kz D.ik.symm D.TOk.symm D.jk.symm) (hn.mv λo=>k5 _ o nz ni nTO nj) hv λg6 e6 F=>AAC ?_);have o6:ES g6 TO x y J:=F.extBut _ _ D.TOk o5;refine AAA (AAi o6 rfl (AAA (Nb o6 λa X G=>AAA (ACI (AAC (AAC ?_))))));have X:ES a TO x y v:=X;refine AAA (AAi X rfl (AAA (wpAny_newTuple ?_)));have sz:a.objs.size=s.heap.objs.size:=by rw[G.1,F.1,L.1,K.1,W.1,b2.1,U.1]
 have C:∀p o,p≠z->p≠TO->p≠i->p≠j->p≠k->s.heap.get? p=some o->a.get? p=some o:=λp o g h B M q5 e=>G.extBut _ _ h (F.extBut _ _ q5 (k5 p o g B h M e));have N:IsZip a z TI TO .ellipsis:=G.extBut _ _ D.TOz.symm (F.extBut _ _ D.kz.symm (L.extBut _ _ D.TOz.symm (K.extBut _ _ D.jz.symm (W.extBut _ _ D.TOz.symm (b2.extBut _ _ D.iz.symm e1)))));have O:N5 b a i l (t+1):=e2.mv λo e=>G.extBut _ _ D.TOi.symm (F.extBut _ _ D.ik (L.extBut _ _ D.TOi.symm (K.extBut _ _ D.ij (W.extBut _ _ D.TOi.symm e))));have P:N5 c a j m (t+1):=e4.mv λo e=>G.extBut _ _ D.TOj.symm (F.extBut _ _ D.jk (L.extBut _ _ D.TOj.symm e));have R:N5 d a k n (t+1):=e6.mv λo e=>G.extBut _ _ D.TOk.symm e;have S:z<a.objs.size:=AAF N;refine AAA (m:=Builtin.SmallTypes.ownedTupleHandOut (.ref z) (.ref a.objs.size)) ?_;unfold Builtin.SmallTypes.ownedTupleHandOut;have k8:IsZip (a.push {cls:= .type "tuple",data:= .seq #[x,y,v] }) z TI TO .ellipsis:=AAH _ N;refine AAA (AA7 k8 (by simp) λg9 k9 b9=> ?_);have k9:IsZip g9 z TI TO (rawInt a.objs.size):=k9;refine AA7 k9 (by simp) λr u T=> ?_;have u:IsZip r z TI TO (rawInt a.objs.size):=u;have H:∀p o,p≠z->a.get? p=some o->r.get? p=some o:=λp o q e=>T.extBut _ _ q (b9.extBut _ _ q (AAH _ e));have f:ES r a.objs.size x y v:=T.extBut _ _ (AAj S) (b9.extBut _ _ (AAj S) (AAO _ rfl));rw[sz] at u f;refine AAC ⟨_,rfl, ?_⟩;show Q (.ref a.objs.size) _;rw[sz];exact hQ r ⟨u,H _ _ D.TIz (C _ _ D.TIz D.TITO D.TIi D.TIj D.TIk zi),⟨_,_,_,H _ _ D.TOz X⟩,O.mv λo=>H _ o D.iz,P.mv λo=>H _ o D.jz,R.mv λo=>H _ o D.kz⟩ f λp o g h B M q5 e=>H p o g (C p o g h B M q5 e)
def oA {Q:Fin->zw->Prop}(B:A.handled=none)(D:oI z TI TO i j k l m n)(Z:Z3 b c d z TI TO i j k l m n t .none s.heap)(hl:IH b s.heap l xs)(hx:xs[t]? =none)(C:∀h' e,(∀p o,p≠z->p≠i->s.heap.get? p=some o->h'.get? p=some o)->(∃o,h'.get? e=some o/\o.cls= .type "StopIteration")->E (.ref e) {s with heap:=h'}):wpAny (model prog w) A (Builtin.«zip.__next__» ⟨[.ref z], []⟩) Q E s:=by
 obtain⟨a,F,⟨P,R,S,T⟩,G,U,W⟩:=Z;obtain⟨lz,H,I,li,X,Y⟩:=D.lo l (by simp);refine AAA (m:=field (.ref z) 2) (AAU a rfl (x:= .bool false) rfl ?_);refine AAA (m:=field (.ref z) 3) (AAU a rfl (x:= .ref TI) rfl (AAA (AAi F rfl ?_)));refine AAA (m:=Builtin.SmallTypes.ownedTupleIsFree (.ref z)) ?_;unfold Builtin.SmallTypes.ownedTupleIsFree;refine AAA (AAU a rfl (x:= .none) rfl (AAC ?_));simp only[AAv];refine AAA (ABJ (AAA (AAU a rfl (x:= .ref TO) rfl (AAA (AA7 a (by simp) λJ f g=> ?_)))));have f:IsZip J z TI TO .ellipsis:=f;refine AAA ?_;simp only[ACq,ACr,ABY,ACH];refine AAA (AAA (ABa ?_));refine AAA (m:=Builtin.SmallTypes.nextOf (.ref i)) (Jj B (G.mv λo=>g.extBut _ o D.iz) (hl.mv λo=>g.extBut _ o lz) hx λK e b2 he=> ?_);obtain⟨L,h,r⟩:=he;have u:IsZip K z TI TO .ellipsis:=b2 _ _ D.iz.symm f;have M:e≠z:=λq=>by subst q;rw[u] at h;cases h;simp at r
 refine AA7 u (by simp) λN _ v=>C N e (λp o y O q=>v.extBut _ _ y (b2 _ _ O (g.extBut _ _ y q))) ⟨L,v.extBut _ _ M h,r⟩
end
abbrev y1 (b:zq)(h:zl)(l:zu):zl:=h.push (To b l)
abbrev y2 (b c:zq)(h:zl)(l m:zu):zl:=(y1 b h l).push (To c m)
abbrev y3 (b c d:zq)(h:zl)(l m n:zu):zl:=(y2 b c h l m).push (To d n)
abbrev y4 (b c d:zq)(h:zl)(l m n:zu):zl:=(y3 b c d h l m n).push {cls:= .type "tuple",data:= .seq #[.ref h.objs.size, .ref (y1 b h l).objs.size, .ref (y2 b c h l m).objs.size] }
abbrev y5 (b c d:zq)(h:zl)(l m n:zu):zl:=(y4 b c d h l m n).push {cls:= .type "tuple",data:= .seq #[.none, .none, .none] }
abbrev y6 (b c d:zq)(h:zl)(l m n:zu):zl:=(y5 b c d h l m n).push {cls:= .type "zip",data:= .fields #[.none, .bool false, .bool false, .ref (y3 b c d h l m n).objs.size, .ref (y4 b c d h l m n).objs.size] }
def Vi (b c d:zq)(l m n:zu)(xs a f:Array zx):Meets (Builtin.«zip.__new__» ⟨[.type "zip", .ref l, .ref m, .ref n], []⟩) (λ_ R s=>IH b s.heap l xs/\IH c s.heap m a/\IH d s.heap n f/\R (.ok (.ret (.ref (y5 b c d s.heap l m n).objs.size))) {s with heap:=y6 b c d s.heap l m n}):=
 .of_wp λprog w A R s h=>by
   obtain⟨hp,g,t,u,os⟩:=s;obtain⟨hl,i,j,h⟩:=h;have v:=sub_zip;have k:IH b hp l xs:=hl;have p:IH c (hp.push (To b l)) m a:=i.mv λo e=>AAH _ e;have r:IH d ((hp.push (To b l)).push (To c m)) n f:=j.mv λo e=>AAH _ (AAH _ e)
   wp_walk using Mp k,Mp p,Mp r
   exact⟨_,rfl,h⟩
def OU (a b c:zx):checkTypeCall "zip" ⟨[a,b,c], []⟩=pure ():=by kernel_rfl
def RV (a b c:zx):checkBuiltinCall "zip.__new__" ⟨[.type "zip",a,b,c], []⟩=pure ():=by kernel_rfl
def X3 (o a b c:zx):argsOk "object.__init__" ⟨[o,a,b,c], []⟩:=by unfold argsOk;kernel_rfl
section
variable {prog:zp}{w:zm}{A:zk}{E:zx->zw->Prop}{s:zw}{b c d:zq}{l m n:zu}{xs ys ws:Array zx}
def fF (hl:IH b s.heap l xs)(B:IH c s.heap m ys)(C:IH d s.heap n ws){Q:zx->zw->Prop}(h:∀h',Z3 b c d (s.heap.objs.size+5) (s.heap.objs.size+3) (s.heap.objs.size+4) s.heap.objs.size (s.heap.objs.size+1) (s.heap.objs.size+2) l m n 0 .none h'->(∀p o,s.heap.get? p=some o->h'.get? p=some o)->Q (.ref (s.heap.objs.size+5)) {s with heap:=h'}):wpAny (model prog w) A (call (.type "zip") [.ref l, .ref m, .ref n]) Q E s:=by
 refine callType_new F.called_zip (by decide) (OU _ _ _) (RV _ _ _) (λobj=>X3 obj _ _ _) F.entry_zip_new (Vi b c d l m n xs ys ws) ⟨hl,B,C, ?_⟩;have f:(y1 b s.heap l).objs.size=s.heap.objs.size+1:=AAq ..;have i:(y2 b c s.heap l m).objs.size=s.heap.objs.size+2:=by rw[AAq,f]
 have j:(y3 b c d s.heap l m n).objs.size=s.heap.objs.size+3:=by rw[AAq,i]
 have k:(y4 b c d s.heap l m n).objs.size=s.heap.objs.size+4:=by rw[AAq,j]
 have t:(y5 b c d s.heap l m n).objs.size=s.heap.objs.size+5:=by rw[AAq,k]
 have a:∀(g:zl) (x:Obj) (p:zu) (o:Obj),g.get? p=some o->(g.push x).get? p=some o:=λg x p o e=>AAH _ e;have r:(y6 b c d s.heap l m n).get? (y5 b c d s.heap l m n).objs.size=some _:=AAO _ rfl;have u:(y6 b c d s.heap l m n).get? (y4 b c d s.heap l m n).objs.size=some _:=a _ _ _ _ (AAO _ rfl);have v:(y6 b c d s.heap l m n).get? (y3 b c d s.heap l m n).objs.size=some _:=a _ _ _ _ (a _ _ _ _ (AAO _ rfl));have y:(y6 b c d s.heap l m n).get? (y2 b c s.heap l m).objs.size=some (To d n):=a _ _ _ _ (a _ _ _ _ (a _ _ _ _ (AAO _ rfl)));have z:(y6 b c d s.heap l m n).get? (y1 b s.heap l).objs.size=some (To c m):=a _ _ _ _ (a _ _ _ _ (a _ _ _ _ (a _ _ _ _ (AAO _ rfl))));have D:(y6 b c d s.heap l m n).get? s.heap.objs.size=some (To b l):=a _ _ _ _ (a _ _ _ _ (a _ _ _ _ (a _ _ _ _ (a _ _ _ _ (AAO _ rfl)))));rw[j,k,t] at r;rw[f,i,j] at v;rw[k] at u;rw[i] at y;rw[f] at z;show _/\_;rw[t];exact⟨⟨_,r,rfl⟩,h _ ⟨r,v,⟨_,_,_,u⟩,Sc D,Sc z,Sc y⟩ λp o e=>a _ _ _ _ (a _ _ _ _ (a _ _ _ _ (a _ _ _ _ (a _ _ _ _ (a _ _ _ _ e)))))⟩
end
def pM (K:AAB)(b c d:zq)(l m n:zu):It:=
 ⟨λi H=>∃xs a e x y v,Sq K b H l xs/\Sq K c H m a/\Sq K d H n e/\xs[i]? =some x/\a[i]? =some y/\e[i]? =some v,
  λi H u f=>∃T x y v,u= .ref T/\H T=none/\f=upd H T (.tup [x,y,v])/\(∀xs,Sq K b H l xs->xs[i]? =some x)/\(∀a,Sq K c H m a->a[i]? =some y)/\∀e,Sq K d H n e->e[i]? =some v,
  λi H=>∃xs,Sq K b H l xs/\xs.length<=i⟩
def iO {p z TI TO i j k:zu}(h:p∈ [z,TI,TO,i,j,k]):p=z\/p=TI\/p=TO\/p=i\/p=j\/p=k:=by simpa using h
def YU {P:zp}{w:zm}{K:AAB}{es:zy zr}{Y:Nat}{pos:Pos}{b c d:zq}{z TI TO i j k l m n:zu}(D:oI z TI TO i j k l m n):Jf P w K (.Tuple es Y pos) (pM K b c d l m n) [z,TI,TO,i,j,k] z (λt h=>Z3 b c d z TI TO i j k l m n t .none h) where
 mem:=by simp
 obj:=λt h Z p hp=>by
  rcases iO hp with e|e|e|e|e|e
  .subst e;exact⟨_,Z.zip,λv q=>nomatch q⟩
  .subst e;exact⟨_,Z.its,λv q=>nomatch q⟩
  .subst e;obtain⟨x,y,u,q⟩:=Z.own;exact⟨_,q,λv q=>nomatch q⟩
  .subst e;exact Z.one.obj
  .subst e;exact Z.two.obj
  .subst e;exact Z.tre.obj
 keep:=λt h h' Z e=>Z.mv e
 item:=by
  intro X A hw B hc t L s M H E I r Z C;subst A hw B;obtain⟨xs,ys,ws,x,y,v,hl,N,O,hx,Q,hv⟩:=C;obtain⟨us,F,G,_⟩:=I.sq hl;obtain⟨vs,rv,sv,_⟩:=I.sq N;obtain⟨qs,rq,sq,_⟩:=I.sq O;obtain⟨R,ww,r1⟩:=F.get hx;obtain⟨S,wx,r2⟩:=rv.get Q;obtain⟨U,wz,r3⟩:=rq.get hv;have g:s.TypeIs (.ref z) "zip" :=⟨_,Z.zip,rfl⟩;have J:∀p∈ [z,TI,TO,i,j,k],p<s.heap.objs.size:=λp hp=>by
   rcases iO hp with e|e|e|e|e|e
   .subst e;exact AAF Z.zip
   .subst e;exact AAF Z.its
   .subst e;obtain⟨x,y,u,q⟩:=Z.own;exact AAF q
   .subst e;obtain⟨o,q,_⟩:=Z.one.obj;exact AAF q
   .subst e;obtain⟨o,q,_⟩:=Z.two.obj;exact AAF q
   .subst e;obtain⟨o,q,_⟩:=Z.tre.obj;exact AAF q
  unfold pyNext;refine AAA (ACs (ABX (name:=Str.ofString "__next__") g ABb (AA0 ABb g ACt (jw D Z G sv sq (x:=R) (y:=S) (v:=U) (by simpa using ww) (by simpa using wx) (by simpa using wz) λh1 W a6 a7=>AAC ?_) (ACu _))));refine⟨_,rfl,wpAny_letOwnedTupleGo_zip (s:={s with heap:=h1}) W.zip λh2 c1 c2=> ?_⟩;have a:∀p o,p≠z->h1.get? p=some o->h2.get? p=some o:=λp o q e=>c2.extBut _ _ q e;have kp:∀p o,p ∉ [z,TI,TO,i,j,k] ->s.heap.get? p=some o->h2.get? p=some o:=λp o hp e=>by
   have f:p≠z/\p≠TI/\p≠TO/\p≠i/\p≠j/\p≠k:=by simpa using hp
   exact a p o f.1 (a7 p o f.1 f.2.2.1 f.2.2.2.1 f.2.2.2.2.1 f.2.2.2.2.2 e)
  have qZ:s.heap.objs.size≠z:=AAj (J z (by simp));have I2:Inv X L M (upd H s.heap.objs.size (.tup [x,y,v])) {s with heap:=h2,toks:=s.toks}:=I.turnedN r J kp (AAJ _)
   ⟨(by show 3<=sizeLine;decide), [R,S,U], .cons r1 (.cons r2 (.cons r3 .nil)),⟨_,a _ _ qZ a6,rfl,_,rfl⟩⟩
  have Uh:H s.heap.objs.size=none:=I.fresh;refine⟨.ref s.heap.objs.size,upd H s.heap.objs.size (.tup [x,y,v]),I2,rfl,⟨_,x,y,v,rfl,Uh,rfl,λxs' h'=> ?_,λys' h'=> ?_,λws' h'=> ?_⟩, ?_,λp hp=> ?_⟩
  .rw [I.sq_inj h' hl];exact hx
  .rw [I.sq_inj h' N];exact Q
  .rw [I.sq_inj h' O];exact hv
  .obtain ⟨b1,b2,⟨q1,q2,q3,b3⟩,b4,b5,b6⟩:=W;exact⟨c1,a _ _ D.TIz b2,⟨_,_,_,a _ _ D.TOz b3⟩,b4.mv λo=>a _ o D.iz,b5.mv λo=>a _ o D.jz,b6.mv λo=>a _ o D.kz⟩
  .rw [Ag (AAK (J p hp))];exact(r p hp).1
 done:=by
  intro X A hw B hc t L s M H E I r Z C;subst A hw B;obtain⟨xs,hl,he⟩:=C;obtain⟨us,F,G,_⟩:=I.sq hl;have e1:=F.length;have g:s.TypeIs (.ref z) "zip" :=⟨_,Z.zip,rfl⟩;unfold pyNext;refine AAA (ACs (ABX (name:=Str.ofString "__next__") g ABb (AA0 ABb g ACt (oA (I.ok.hd hc) D Z G (by simp;omega) λh1 e hk he=> ?_) (ACu _))));obtain⟨o,ho,lM⟩:=he;refine AAA (AB7 (T:="StopIteration") (b:=true) ⟨o,ho,lM⟩ isSubtype_stop (AAC ⟨rfl, ?_⟩));exact I.turnedL (t':=s.toks) r λp o hp e=>by
   have f:p≠z/\p≠TI/\p≠TO/\p≠i/\p≠j/\p≠k:=by simpa using hp
   exact hk p o f.1 f.2.2.2.1 e
 self:=λ_ _ _ _ _ Z h=>ACv Z.zip h
section
variable {X:Cx}
def aO {e f g:zr}{y:TA}{p pos i:Pos}{es:zy zr}{E:Nat}(F:Gl X "zip")(G:X.mg "zip" =none)(ha:PA X [e,f,g] y)(hs:starEach [e,f,g] X.env=(false,eval e X.env)::starEach [f,g] X.env:=by rfl)(hpl:(backTo pos (starEach [f,g] X.env)).any (·.1)=false:=by rfl):PI X (.Tuple es E i) (.Call (.Name "zip" p) [e,f,g] [] pos) (λt H R=>y t H λvs H1=>∃b c d l m n,vs= [.ref l, .ref m, .ref n] /\(∃xs,Sq X.K b H1 l xs)/\(∃z,Sq X.K c H1 m z)/\(∃A,Sq X.K d H1 n A)/\R (pM X.K b c d l m n) H1):=by
 intro J s t H R I h;refine Call_ (Hi I F G boot_zip (ACB (BY (ha pos J s t H _ I h) λL j ⟨vs,H1,a,M,N⟩=> ?_) hs hpl));obtain⟨b,c,d,l,m,n,rfl,⟨xs,hl⟩,⟨z,O⟩,⟨A,P⟩,q⟩:=N;cases M with
 | cons r k=>
 cases k with
 | cons Q k=>
 cases k with
 | cons u k=>
 cases k;cases r;cases Q;cases u;obtain⟨L,T,B,_⟩:=a.sq hl;obtain⟨vs,rv,sv,_⟩:=a.sq O;obtain⟨qs,U,C,_⟩:=a.sq P;have v:l<j.heap.objs.size:=by cases b <;> (obtain⟨o,e,_⟩:=B;exact AAF e)
 have w:m<j.heap.objs.size:=by cases c <;> (obtain⟨o,e,_⟩:=sv;exact AAF e)
 have x:n<j.heap.objs.size:=by cases d <;> (obtain⟨o,e,_⟩:=C;exact AAF e)
 refine fF B sv C λh1 Z S=>ACv Z.zip ?_;refine⟨_,_,_,_,H1,rfl,a.kept (t':=j.toks) S,YU (fE v w x),Z,λp hp=> ?_,q⟩;have D:j.heap.objs.size<=p:=by rcases iO hp with e|e|e|e|e|e <;> (rw[e];first | exact AAJ _|exact ABA _ _)
 exact a.fpOk D (a.hok.fresh D)
end
end L2
namespace PL
open PySem PySem.Spec PyProof.Rows L2
def FZ:zy PV->zy PV->zy PV->zy PV
 | x::xs,y::ys,z::zs=> .tup [x,y,z] :: FZ xs ys zs
 | _,_,_=> []
theorem Nf:∀(xs d e:zy PV) (i:Nat) (u:PV),(FZ xs d e)[i]? =some u->∃x y z,xs[i]? =some x/\d[i]? =some y/\e[i]? =some z/\u= .tup [x,y,z]
 | x::xs,y::d,z::e,0,u,h=>⟨x,y,z,rfl,rfl,rfl,by simp[FZ] at h;exact h.symm⟩
 | x::xs,y::d,z::e,i+1,u,h=>by obtain⟨a,b,c,h1,h2,h3,f⟩:=Nf xs d e i u (by simpa[FZ] using h);exact⟨a,b,c,by simpa using h1,by simpa using h2,by simpa using h3,f⟩
 | [],_,_,_,_,h=>by simp[FZ] at h
 | _::_, [],_,_,_,h=>by simp[FZ] at h
 | _::_,_::_, [],_,_,h=>by simp[FZ] at h
theorem Th:∀(xs a b:zy PV),xs.length=a.length->xs.length=b.length->(FZ xs a b).length=xs.length
 | [],_,_,_,_=>by simp[FZ]
 | x::xs,y::a,z::b,h1,h2=>by rw[FZ,AAe,Th xs a b (by simpa using h1) (by simpa using h2),AAe]
 | _::_, [],_,h1,_=>by simp at h1
 | _::_,_::_, [],_,h2=>by simp at h2
def Xv {K:AAB}{T M:zu->Prop}{H:Hp}{l m n:zu}{x y z:PV}{xs d f:zy PV}(va:Jg T M H)(hx:x= .tup xs\/x= .lst xs)(J:y= .tup d\/y= .lst d)(L:z= .tup f\/z= .lst f)(N:xs.length=d.length)(O:xs.length=f.length)(r:CZ K T M H (.ref l) x)(P:CZ K T M H (.ref m) y)(Q:CZ K T M H (.ref n) z):Rq K M (pM K (Y5 x) (Y5 y) (Y5 z) l m n) (FZ xs d f) T H:=by
 obtain⟨_,vs,e,k,s⟩:=HL hx r;cases e;obtain⟨_,B,e,C,g⟩:=HL J P;cases e;obtain⟨_,D,e,E,j⟩:=HL L Q;cases e;refine⟨λi w h=> ?_,λi w v X h R=> ?_,λi h=>⟨vs,k, ?_⟩⟩
 .obtain ⟨a,b,c,ha,hb,hc,_⟩:=Nf xs d f i w h;obtain⟨t,h1,_⟩:=s.get ha;obtain⟨u,h2,_⟩:=g.get hb;obtain⟨A,h3,_⟩:=j.get hc;exact⟨vs,B,D,t,u,A,k,C,E,h1,h2,h3⟩
 .obtain ⟨a,b,c,ha,hb,hc,rfl⟩:=Nf xs d f i w h;obtain⟨p,t,u,A,rfl,S,rfl,h1,h2,h3⟩:=R;obtain⟨Y,F,ra⟩:=s.get' (h1 vs k);obtain⟨b',G,U⟩:=g.get' (h2 B C);obtain⟨Z,I,W⟩:=j.get' (h3 D E);rw[ha] at F;cases F;rw[hb] at G;cases G;rw[hc] at I;cases I;have st:=C3.lay (o:= .tup [t,u,A]) va.tp S;exact⟨st, .tup (.inl Ah) (.cons (ra.stp st va) (.cons (U.stp st va) (.cons (W.stp st va) .nil)))⟩
 .rw [Th xs d f N O] at h;rw[s.length];exact h
section
variable {X:Cx}
def gT (r:AA):AI:=λτ Q=>r τ λc=>match c with | [x,y,z] =>M6 x λxs=>M6 y λa=>M6 z λb=>(xs.length=a.length/\xs.length=b.length)/\Q (FZ xs a b)|_=>False
def nM {e f g:zr}{r:AA}{p pos a:Pos}{es:zy zr}{u:Nat}(v:Gl X "zip")(w:X.mg "zip" =none)(ha:SA X [e,f,g] r)(hs:starEach [e,f,g] X.env=(false,eval e X.env)::starEach [f,g] X.env:=by rfl)(hpl:(backTo pos (starEach [f,g] X.env)).any (·.1)=false:=by rfl):SI X (.Tuple es u a) (.Call (.Name "zip" p) [e,f,g] [] pos) true (gT r):=by
 obtain⟨t,A,s⟩:=ha;refine⟨_,aO v w A hs hpl,λB T C τ H R Q D h k=>s B T C τ H _ _ D h λvs xs T1 H1 E F h1=> ?_⟩;split at h1 <;> first | exact h1.elim|skip
 rename_i x y z;obtain⟨xs,hx,h2⟩:=GR h1;obtain⟨S,d,h3⟩:=GR h2;obtain⟨U,i,b⟩:=GR h3;obtain⟨⟨G,I⟩,b⟩:=b;cases F with
 | cons ra t=>
   cases t with
   | cons j t=>
     cases t with
     | cons o t=> cases t;obtain⟨l,J,rfl,K,W⟩:=HL hx ra;obtain⟨m,L,rfl,M,N⟩:=HL d j;obtain⟨n,qs,rfl,O,P⟩:=HL i o;exact⟨Y5 x,Y5 y,Y5 z,l,m,n,rfl,⟨J,K⟩,⟨L,M⟩,⟨qs,O⟩,k _ _ T1 H1 E (λM2 Y Z c va _=>Xv va hx d i G I (ra.mv c) (j.mv c) (o.mv c)) b⟩
end
end PL
namespace PL
open PySem L2 PyProof.Rows
class Yu (Ts:List String):Prop where
 q:Ts.any (Xr .tup)=true/\Ts.any (Xr .lst)=true/\Ts.any (Xr .int)=false/\Ts.any (Xr .bl)=false/\Ts.any (Xr .non)=false/\Ts.any (Xr .str)=false
instance:Yu ["tuple","list"] :=⟨by decide⟩
instance:Yu ["list","tuple"] :=⟨by decide⟩
end PL
namespace L2
open PySem PySem.Spec PyProof.Rows
section
variable {κ:Type}[DecidableEq κ]
def JL (kvs:zy (κ×V))(k:κ):zt V:=(kvs.find? λa=>decide (a.1=k)).map (·.2)
def FU (kvs:zy (κ×V))(k:κ)(v:V):zy (κ×V):=
 if (kvs.any λa=>decide (a.1=k))=true then kvs.map (λa=>if a.1=k then (a.1,v) else a) else kvs ++ [(k,v)]
def Gr {p:κ×V}{r:zy (κ×V)}{k:κ}(e:p.1=k):JL (p::r) k=some p.2:=by simp[JL,AB3,e]
def Gq {p:κ×V}{r:zy (κ×V)}{k:κ}(e:¬p.1=k):JL (p::r) k=JL r k:=by simp[JL,AB3,e]
theorem Tc (k:κ):∀kvs:zy (κ×V),(kvs.any λa=>decide (a.1=k))=(JL kvs k).isSome
 | [] =>rfl
 | p::r=>by
   rw[ABf];by_cases e:p.1=k
   .simp only[Gr e,AAV e,ADo,Option.isSome_some]
   .rw [Gq e,AAc e,Bool.false_or];exact Tc k r
def Et (kvs:zy (κ×V))(k:κ)(v:V):(FU kvs k v).length<=kvs.length+1:=by
 unfold FU;split
 .rw [AAL];omega
 .rw [ABH,AAe,ADp];omega
def K7.isSome_eq {o:zt V}{u:zt zx}(r:K7 o u):o.isSome=u.isSome:=by
 cases o with
 | none=>cases u with
   | none=>rfl
   | some _=>exact(show False from r).elim
 | some _=>cases u with
   | none=>exact(show False from r).elim
   | some _=>rfl
def K7.getD {o:zt V}{u:zt zx}{d:V}{d':zx}(r:K7 o u)(a:RelV d d'):RelV (o.getD d) (u.getD d'):=by
 cases o with
 | none=>cases u with
   | none=>exact a
   | some _=>exact(show False from r).elim
 | some _=>cases u with
   | none=>exact(show False from r).elim
   | some _=>exact r
def KV.val {kvs:zy (κ×V)}{vs:zy (κ×zx)}(r:KV kvs vs)(k:κ):K7 (JL kvs k) (valueAt vs k):=by
 unfold KV at r;induction r with
 | nil=>exact True.intro
 | @cons p q ps qs h t a=>
   obtain⟨h1,h2⟩:=h;by_cases e:p.1=k
   .have e':q.1=k:=h1.symm.trans e;have b:valueAt (q::qs) k=some q.2:=by simp[valueAt,AB3,e']
    rw[Gr e,b];exact h2
   .have e':¬q.1=k:=λz=>e (h1.trans z);have b:valueAt (q::qs) k=valueAt qs k:=by simp[valueAt,AB3,e']
    rw[Gq e,b];exact a
def KV.any {kvs:zy (κ×V)}{vs:zy (κ×zx)}(r:KV kvs vs)(k:κ):(kvs.any λa=>decide (a.1=k))=vs.any λa=>decide (a.1=k):=by
 unfold KV at r;induction r with
 | nil=>rfl
 | cons h t b=>rw[ABf,ABf,b,h.1]
def KV.repl {kvs:zy (κ×V)}{vs:zy (κ×zx)}(r:KV kvs vs)(k:κ){y:V}{u:zx}(b:RelV y u):KV (kvs.map λa=>if a.1=k then (a.1,y) else a) (vs.map λa=>if a.1=k then (a.1,u) else a):=by
 unfold KV at r ⊢;induction r with
 | nil=>exact .nil
 | @cons p q ps qs h t c=>
   rw[AAN,AAN];refine .cons ?_ c;obtain⟨h1,h2⟩:=h;by_cases e:p.1=k
   .rw [AAE e,AAE (h1.symm.trans e)];exact⟨h1,b⟩
   .rw [AAD e,AAD (λz=>e (h1.trans z))];exact⟨h1,h2⟩
def KV.put {kvs:zy (κ×V)}{vs:zy (κ×zx)}(r:KV kvs vs)(k:κ){y:V}{u:zx}(a:RelV y u):KV (FU kvs k y) (stored vs k u):=by
 unfold FU stored;rw[r.any k];by_cases e:(vs.any λb=>decide (b.1=k))=true
 .rw [AAE e,AAE e];exact r.repl k a
 .rw [AAD e,AAD e];exact Paired.snoc r ⟨rfl,a⟩
def KV.keys {kvs:zy (κ×V)}{vs:zy (κ×zx)}(r:KV kvs vs):kvs.map (·.1)=vs.map (·.1):=by
 unfold KV at r;induction r with
 | nil=>rfl
 | cons h t a=>rw[AAN,AAN,a,h.1]
def KV.length {kvs:zy (κ×V)}{vs:zy (κ×zx)}(r:KV kvs vs):kvs.length=vs.length:=Paired.length r
end
def Oz {P:zp}{w:zm}{k:B4}{u:zx}(r:RelV (kV k) u):(Ax P w).is k u=true:=by
 cases k with
 | inl i=>obtain⟨t,e⟩:=(show ∃t,u=Value.int i t from r);subst e;exact Sf P w i t
 | inr x=>obtain⟨t,e⟩:=(show ∃t,u=Value.str x t from r);subst e;exact Sg P w x t
theorem Oy {P:zp}{w:zm}:∀{a:zy B4} {b:zy zx},Ay (a.map kV) b->ItemsAre (Ax P w) a b
 | [],_,r=>by rw[ACF] at r;cases r;exact .nil
 | k::a,_,r=>by
   rw[AAN] at r;cases r with
   | cons h t=>exact .cons (Oz h) (Oy t)
abbrev KT (H:Hp):zy (zy B4×V)->zy (zy B4×zu×zx)->Prop:=Paired λp q=>p.1=q.1/\H q.2.1=some (.tup (p.1.map kV))/\RelV p.2 q.2.2
def KT.val {H:Hp}{kvs:zy (zy B4×V)}{xs:zy (zy B4×zu×zx)}(r:KT H kvs xs)(k:zy B4):K7 (JL kvs k) ((atKey xs k).map (·.2)):=by
 induction r with
 | nil=>exact True.intro
 | @cons p q ps qs h t a=>
   obtain⟨h1,_,h2⟩:=h;by_cases e:p.1=k
   .have e':q.1=k:=h1.symm.trans e;have b:atKey (q::qs) k=some q.2:=by simp[atKey,AB3,e']
    rw[Gr e,b];exact h2
   .have e':¬q.1=k:=λz=>e (h1.trans z);have b:atKey (q::qs) k=atKey qs k:=by simp[atKey,AB3,e']
    rw[Gq e,b];exact a
def KT.repl {H:Hp}{kvs:zy (zy B4×V)}{xs:zy (zy B4×zu×zx)}(r:KT H kvs xs)(k:zy B4){y:V}{u:zx}(b:RelV y u):KT H (kvs.map λa=>if a.1=k then (a.1,y) else a) (xs.map (putAt k u)):=by
 induction r with
 | nil=>exact .nil
 | @cons p q ps qs h t c=>
   rw[AAN,AAN];refine .cons ?_ c;obtain⟨h1,h2,h3⟩:=h;unfold putAt;by_cases e:p.1=k
   .rw [AAE e,AAE (h1.symm.trans e)];exact⟨h1,h2,b⟩
   .rw [AAD e,AAD (λz=>e (h1.trans z))];exact⟨h1,h2,h3⟩
def KT.put {H:Hp}{kvs:zy (zy B4×V)}{xs:zy (zy B4×zu×zx)}(r:KT H kvs xs)(k:zy B4){b:zu}{y:V}{u:zx}(hb:H b=some (.tup (k.map kV)))(a:RelV y u):KT H (FU kvs k y) (storedH xs k b u):=by
 have e:(kvs.any λc=>decide (c.1=k))=(atKey xs k).isSome:=by rw[Tc,(r.val k).isSome_eq,Option.isSome_map]
 unfold FU storedH;rw[e];by_cases q:(atKey xs k).isSome=true
 .rw [AAE q,AAE q];exact r.repl k a
 .rw [AAD q,AAD q];exact Paired.snoc r ⟨rfl,hb,a⟩
def KT.keeps {H a:Hp}{kvs:zy (zy B4×V)}{xs:zy (zy B4×zu×zx)}(r:KT H kvs xs)(d:∀b c,H b=some (.tup c)->a b=some (.tup c)):KT a kvs xs:=
 Paired.mapP r λ_ _ z=>⟨z.1,d _ _ z.2.1,z.2.2⟩
section
variable {P:zp}{w:zm}{H:Hp}{h:zl}{a:zu}
def fb {u:HO}(ok:IX P w H h)(e:Rd H a u):CM P w H h a u:=e.ok ok
def R6 {kvs:zy (B4×V)}(ok:IX P w H h)(e:Rd H a (.dK kvs)):kvs.length<=sizeLine/\(a==sysModules)=false/\∃vs,KV kvs vs/\h.DictOf (Ax P w) a vs:=
 show CM P w H h a (.dK kvs) from fb ok e
def V7 {kvs:zy (B4×V)}(ok:IX P w H h)(e:H a=some (.dK kvs)):kvs.length<=sizeLine/\(a==sysModules)=false/\∃vs,KV kvs vs/\h.DictOf (Ax P w) a vs:=R6 ok (.inl e)
def QO {b:zy B4}(ok:IX P w H h)(e:H a=some (.tup (b.map kV))):(tupleKind (Ax P w)).is h b a:=by obtain⟨_,c,r,o,h1,h2,n,h3⟩:=(show CM P w H h a (.tup (b.map kV)) from ok a _ e);exact⟨o,c.toArray,n,h1,h2,h3,by simpa using Oy r⟩
def R7 {kvs:zy (zy B4×V)}(ok:IX P w H h)(e:Rd H a (.dT kvs)):kvs.length<=sizeLine/\(a==sysModules)=false/\ ∃xs,KT H kvs xs/\h.DictOfH (tupleKind (Ax P w)) a xs:=by
 obtain⟨z,y,xs,r,o,es,ep,h1,h2,h3,c,d⟩:=(show CM P w H h a (.dT kvs) from fb ok e);refine⟨z,y,xs,r,o,es,ep,h1,h2,h3,c,λx hx=> ?_,d⟩;have all:∀{l:zy (zy B4×V)} {m:zy (zy B4×zu×zx)},KT H l m->∀x∈m,(tupleKind (Ax P w)).is h x.1 x.2.1:=by
  intro l m q;induction q with
  | nil=>intro x hx;exact nomatch hx
  | @cons p q ps qs b t f=>
    intro x hx;rcases AAG.mp hx with e|hx
    .subst e;exact QO ok (by rw[<-b.1];exact b.2.1)
    .exact f x hx
 exact all r x hx
def lH {kvs:zy (zy B4×V)}(ok:IX P w H h)(e:H a=some (.dT kvs)):kvs.length<=sizeLine/\(a==sysModules)=false/\ ∃xs,KT H kvs xs/\h.DictOfH (tupleKind (Ax P w)) a xs:=R7 ok (.inl e)
end
def N1 (H:Hp)(a:zu)(y:V)(r:zt V):Prop:=
 (∃kvs k,Rd H a (.dK kvs)/\y=kV k/\r=JL kvs k)\/∃kvs k b,Rd H a (.dT kvs)/\y= .ref b/\H b=some (.tup (k.map kV))/\r=JL kvs k
def Tt (H:Hp)(a:zu)(y v:V)(c:Hp):Prop:=
 (∃kvs k,H a=some (.dK kvs)/\y=kV k/\kvs.length<sizeLine/\c=upd H a (.dK (FU kvs k v)))\/
 ∃kvs k b,H a=some (.dT kvs)/\y= .ref b/\H b=some (.tup (k.map kV))/\kvs.length<sizeLine/\c=upd H a (.dT (FU kvs k v))
def N1.k {H:Hp}{a:zu}{kvs:zy (B4×V)}{k:B4}(e:H a=some (.dK kvs)):N1 H a (kV k) (JL kvs k):= .inl ⟨kvs,k, .inl e,rfl,rfl⟩
def N1.t {H:Hp}{a b:zu}{kvs:zy (zy B4×V)}{k:zy B4}(e:H a=some (.dT kvs))(c:H b=some (.tup (k.map kV))):N1 H a (.ref b) (JL kvs k):= .inr ⟨kvs,k,b, .inl e,rfl,c,rfl⟩
def Tt.k {H:Hp}{a:zu}{kvs:zy (B4×V)}{k:B4}{v:V}(e:H a=some (.dK kvs))(hl:kvs.length<sizeLine):Tt H a (kV k) v (upd H a (.dK (FU kvs k v))):= .inl ⟨kvs,k,e,rfl,hl,rfl⟩
def Tt.t {H:Hp}{a b:zu}{kvs:zy (zy B4×V)}{k:zy B4}{v:V}(e:H a=some (.dT kvs))(c:H b=some (.tup (k.map kV)))(hl:kvs.length<sizeLine):Tt H a (.ref b) v (upd H a (.dT (FU kvs k v))):= .inr ⟨kvs,k,b,e,rfl,c,hl,rfl⟩
section
variable {X:Cx}{zj:zy (zu×Obj)}{σ:St}{H:Hp}{s:zw}{a:zu}{y v:V}{u r:zx}{o:zt V}{A:zk}{E:zx->zw->Prop}
def Inv.big (I:Inv X zj σ H s):sysModules<s.heap.objs.size:=by have h:mainGlobals<s.heap.objs.size:=(I.mod.glob.keeps I.bk).lt;exact ACX (by decide) h
def XX {Q:zx->zw->Prop}(hu:A.units+1<cLine)(I:Inv X zj σ H s)(g:N1 H a y (some v))(m:RelV y u)(h:∀f n,Inv X zj σ H n->RelV v f->Q f n):wpAny (model X.prog X.w) A (getItem (.ref a) u) Q E s:=by
 rcases g with⟨kvs,k,e,i,l⟩|⟨kvs,k,b,e,i,t,l⟩
 .subst i;obtain⟨z,hd,vs,c,j⟩:=R6 I.hok e;obtain⟨f,hw,d⟩:=K7.some_of (v:=v) (o:=valueAt vs k) (by rw[l];exact c.val k);exact wpAny_getItem_of (Oz m) j.mapOf hw (h f _ (I.tok _) d)
 .subst i;cases (show u=Value.ref b from m);obtain⟨z,hd,xs,c,j⟩:=R7 I.hok e;obtain⟨f,hw,d⟩:=K7.some_of (v:=v) (o:=(atKey xs k).map (·.2)) (by rw[l];exact c.val k);obtain⟨p,hp,x⟩:=ACb.mp hw;refine wpAny_getItem_heap (ADq hu) (QO I.hok t) j hp ?_;rw[x];exact h f _ (I.tok _) d
def Ii {h':zl}{t':Nat}{c:HO}(I:Inv X zj σ H s)(d:kh (H a))(hs:Heap.SameBut a s.heap h')(he:∃q,h'.get? a=some q)(new:CM X.prog X.w (upd H a c) h' a c):Inv X zj σ (upd H a c) {s with heap:=h',toks:=t'}:=
 I.write (x:=a) (e:=a) d (.inl rfl) (λb q hb z=>(hs.2 b hb).trans z) he new
def P7 {P:zp}{w:zm}{c:Hp}{h':zl}{kvs:zy (B4×V)}{vs:zy (B4×zx)}(z:kvs.length<=sizeLine)(hd:(a==sysModules)=false)(b:KV kvs vs)(d:h'.DictOf (Ax P w) a vs):CM P w c h' a (.dK kvs):=⟨z,hd,vs,b,d⟩
def XY {t:Hp}{Q:Unit->zw->Prop}(hu:A.units+1<cLine)(I:Inv X zj σ H s)(g:Tt H a y v t)(x:RelV y u)(rv:RelV v r)(h:∀B,Inv X zj σ t B->Q () B):wpAny (model X.prog X.w) A (setItem (.ref a) u r) Q E s:=by
 rcases g with⟨kvs,k,e,j,l,m⟩|⟨kvs,k,b,e,j,C,l,m⟩
 .subst j m;obtain⟨z,hd,vs,d,n⟩:=V7 I.hok e;have p:vs.length<=sizeLine:=by rw[<-d.length];exact z
  have hl:(FU kvs k v).length<=sizeLine:=by have:=Et kvs k v;omega
  refine wpAny_setItem_pairs (hsz:=p) (Oz x) n λh' f hs=>h _ ?_;have he:∃q,h'.get? a=some q:=let ⟨q,_,_,i,_⟩:=f;⟨q,i⟩;exact Ii I (by rw[e];exact True.intro) hs he (P7 hl hd (d.put k rv) f)
 .subst j m;cases (show u=Value.ref b from x);obtain⟨z,hd,xs,d,n⟩:=lH I.hok e;have p:xs.length<=sizeLine:=by rw[<-Paired.length d];exact z
  have hl:(FU kvs k v).length<=sizeLine:=by have:=Et kvs k v;omega
  refine wpAny_setItem_heap (hsz:=p) (ADq hu) (QO I.hok C) n λh' f hs=>h _ ?_;obtain⟨q,es,ep,i,h2,h3,F,_,G⟩:=f;refine Ii I (by rw[e];exact True.intro) hs ⟨q,i⟩ ⟨hl,hd,_,(d.put k C rv).keeps λc J D=> ?_,q,es,ep,i,h2,h3,F,G⟩;rw[Ag (mF D e (λz=>nomatch z))];exact D
end
def gD (i:zr):Prop:=∀a b,subscripted i false a b=operate [a,b] (getItem a b)
def eV {prog:zp}{w:zm}{A:zk}{E:zx->zw->Prop}{s:zw}{env:Env}{value slice:zr}{pos:Pos}{T id:String}{Q:zx->zw->Prop}(hl:typeLookup (.type T) "__getitem__" =pure (some (.builtin id)))(hs:gD slice)(h:wpAny (model prog w) A (eval value env) (λo c=>wpAny (model prog w) A (eval slice env) (λi a=>a.TypeIs o T/\wpAny (model prog w) A (getItem o i) Q E a) E c) E s):wpAny (model prog w) A (eval (.Subscript value slice pos) env) Q E s:=by
 refine Subscript_ (ABM h (λo c f=>ABM f (λi a b=> ?_) λ_ _ x=>x) λ_ _ x=>x);obtain⟨j,b⟩:=b;unfold subscriptTail;refine AAA ?_;rw[getitemInPython_of_ne j.not_modules];refine AAA (ABl j hl ?_);have e:wpAny (model prog w) A (subscripted slice false o i) (λr d=>wpAny (model prog w) A (letTemporaryGo value o r >>= λ_=>pure r) Q E d) E a:=by rw[hs o i];exact wpAny_operating (ABM b (λr d g=>AAA (wpAny_letTemporaryGo (AAC g))) λ_ _ x=>x)
 first
  | exact AAC (AAA e)
  | exact AAA (AAC (AAA e))
  | exact AAA e
def R4 {X:Cx}{d:zy (zu×Obj)}{f:St}{H:Hp}{s:zw}{a:zu}{y:V}{o:zt V}(I:Inv X d f H s)(g:N1 H a y o):s.TypeIs (.ref a) "dict" :=by
 rcases g with⟨kvs,k,e,_,_⟩|⟨kvs,k,b,e,_,_,_⟩
 .obtain ⟨_,_,vs,_,c⟩:=R6 I.hok e;exact c.typeIs
 .obtain ⟨_,_,xs,_,c⟩:=R7 I.hok e;exact c.typeIs
def nV (d e:TE):TE:=λb H Q=>d b H λx H1=>e b H1 λy c=>∃a v,x= .ref a/\N1 c a y (some v)/\Q v c
def fg (d e f:TE):TS:=λD b H=>f b H λv H1=>d b H1 λx g=>e b g λy h=>∃a c,x= .ref a/\Tt h a y v c/\D.nx b c
section
variable {X:Cx}{o i e value:zr}{pos pos' tpos:Pos}{td ty tv:TE}
def dQ (hu:X.A.units+1<cLine)(j:PE X o td)(hi:PE X i ty)(hs:gD i):PE X (.Subscript o i pos) (nV td ty):=by intro c s d H Q I h;refine eV PySem.F.slot_dict_getitem.lookup hs (BY (j c s d H _ I h) λu k ⟨x,H1,l,m,n⟩=>BY (hi c k d H1 _ l n) λz B ⟨y,p,f,r,a,v,ex,g,t⟩=> ?_);subst ex;obtain rfl:u=Value.ref a:=m;exact⟨R4 f g,XX hu f g r λC D w b=>⟨v,p,w,b,t⟩⟩
def dh (hu:X.A.units+1<cLine)(d:PE X o td)(hi:PE X i ty)(hv:PE X value tv)(hs:swapsWith value (some (.Subscript o i pos')) pos.line X.env=pure false):PS X (.Assign [.Subscript o i pos'] value pos) (fg td ty tv):=by intro c s b H D I h;refine wpAny_Assign_Subscript (BY (hv c s b H _ I h) λr f ⟨v,H1,j,rv,k⟩=>BY (d c f b H1 _ j k) λu l ⟨x,m,n,p,t⟩=>BY (hi c l b m _ n t) λF G ⟨y,J,w,z,a,B,ex,g,C⟩=> ?_) hs;subst ex;obtain rfl:u=Value.ref a:=p;exact XY hu w g z rv λK E=>⟨b,B,E,C⟩
end
def R5 {P:zp}{w:zm}{H:Hp}(h:zl)(hb:sysModules<h.objs.size):CM P w H (h.push {cls:= .type "dict",data:= .dict #[] }) h.objs.size (.dK []):=
 ⟨ABF _,ADQ.mpr (AA6 (AAK hb)), [], .nil,Heap.DictOf.new h⟩
def VZ:zy (TE×TE)->St->Hp->(zy (V×V)->Hp->Prop)->Prop
 | [],_,H,Q=>Q [] H
 | (tk,tv)::r,σ,H,Q=>tk σ H λx H1=>tv σ H1 λy a=>VZ r σ a λps b=>Q ((x,y)::ps) b
abbrev VV:zy (V×V)->zy (zx×zx)->Prop:=Paired λp q=>RelV p.1 q.1/\RelV p.2 q.2
def oD (X:Cx)(pos:Pos)(keys:zy (zt zr))(values:zy zr)(a:zy (TE×TE)):Prop:=
 ∀(c:zy (zu×Obj)) (s:zw) (b:St) (H:Hp) (Q:zy (V×V)->Hp->Prop),Inv X c b H s->VZ a b H Q->
  wpAny (model X.prog X.w) X.A (evalPairs (pairTrees keys values X.env pos)) (λvs e=>∃ps d,Inv X c b d e/\VV ps vs/\Q ps d) X.xe s
def dc {X:Cx}{pos:Pos}:oD X pos [] [] [] :=λa s b H Q I h=>pairTrees_nil_walk ⟨[],H,I, .nil,h⟩
def aR {X:Cx}{pos:Pos}{k v:zr}{e:zy (zt zr)}{vs:zy zr}{f g:TE}{a:zy (TE×TE)}(hk:PE X k f)(hv:PE X v g)(i:oD X pos e vs a):oD X pos (some k::e) (v::vs) ((f,g)::a):=λb s c H Q I h=>
 pairTrees_cons_walk (BY (hk b s c H _ I h) λu j ⟨x,H1,l,m,n⟩=>BY (hv b j c H1 _ l n) λC o ⟨y,p,r,t,w⟩=>
  BY (i b o c p _ r w) λD E ⟨ps,z,A,d,B⟩=>⟨(x,y)::ps,z,A, .cons ⟨m,t⟩ d,B⟩)
def Mw (kvs more:zy (B4×V)):zy (B4×V):=more.foldl (λa b=>FU a b.1 b.2) kvs
def KV.merge:∀{more:zy (B4×V)} {a:zy (B4×zx)} {kvs:zy (B4×V)} {vs:zy (B4×zx)},KV more a->KV kvs vs->KV (Mw kvs more) (merged vs a):=by
 intro more a kvs vs r;unfold KV at r;induction r generalizing kvs vs with
 | nil=>intro q;exact q
 | @cons p q ps qs h t b=>
   intro c;have e:KV (FU kvs p.1 p.2) (stored vs q.1 q.2):=by have:=c.put p.1 h.2;rw[<-h.1];exact this
   exact b e
theorem HI:∀(more kvs:zy (B4×V)),(Mw kvs more).length<=kvs.length+more.length
 | [],kvs=>by show kvs.length<=kvs.length+0;omega
 | p::r,kvs=>by have h1:=HI r (FU kvs p.1 p.2);have h2:=Et kvs p.1 p.2;show (Mw (FU kvs p.1 p.2) r).length<=_;rw[AAe];omega
theorem MV {P:zp}{w:zm}:∀{kvs:zy (B4×V)} {e:zy (zx×zx)},VV (kvs.map λf=>(kV f.1,f.2)) e->∃d,Carries (Ax P w) e d/\KV kvs d
 | [],_,r=>by rw[ACF] at r;cases r;exact⟨[],True.intro, .nil⟩
 | p::kvs,_,r=>by
   rw[AAN] at r;cases r with
   | @cons a b as bs h t=> obtain⟨d,c,q⟩:=MV (P:=P) (w:=w) t;obtain⟨g,b2⟩:=b;exact⟨(p.1,b2)::d,⟨Oz h.1,rfl,c⟩, .cons ⟨rfl,h.2⟩ q⟩
structure M2 (X:Cx) (o:Expr) (m:Str) (apos:Pos) (e f:Expr) (cpos:Pos):Prop where
 base:attributeBase o m X.env (eval o X.env)=eval o X.env
 few:((backTo cpos (starEach [e,f] X.env)).all (λx=> !x.1)&&(backToKw cpos (keywordEach [] X.env)).all (λx=>x.1.isSome)
  && decide (([e,f] :List Expr).length+([] :List Keyword).length+(if ([] :List Keyword).isEmpty then 0 else 1)<30))=true
 line:(apos.endLine==cpos.line)=true
 trees:backTo cpos (starEach [e,f] X.env)= [(false,eval e X.env),(false,eval f X.env)]
def sZ (H:Hp)(a:zu):Prop:=(∃kvs,Rd H a (.dK kvs))\/∃kvs,Rd H a (.dT kvs)
def QN {X:Cx}{g:zy (zu×Obj)}{h:St}{H:Hp}{s:zw}{a:zu}(I:Inv X g h H s)(d:sZ H a):s.TypeIs (.ref a) "dict" /\(∀b,Value.ref a= .ref b->∃c,s.heap.get? b=some c/\c.dict=none)/\(a==sysModules)=false:=by
 rcases d with⟨kvs,e⟩|⟨kvs,e⟩
 .obtain ⟨_,hd,vs,_,f⟩:=R6 I.hok e;refine⟨f.typeIs,λb q=> ?_,hd⟩;cases q;obtain⟨c,_,_,h1,h2,_⟩:=f;exact⟨c,h1,h2.2.1⟩
 .obtain ⟨_,hd,xs,_,f⟩:=R7 I.hok e;refine⟨f.typeIs,λb q=> ?_,hd⟩;cases q;obtain⟨c,_,_,h1,h2,_⟩:=f;exact⟨c,h1,h2.2.1⟩
section
variable {X:Cx}{zj:zy (zu×Obj)}{σ:St}{H:Hp}{s:zw}{a:zu}{y d:V}{u r:zx}{o:zt V}{A:zk}{E:zx->zw->Prop}
def gX {Q:zx->zw->Prop}(hu:A.units+1<cLine)(I:Inv X zj σ H s)(g:N1 H a y o)(j:RelV y u)(m:RelV d r)(h:∀n p,Inv X zj σ H p->RelV (o.getD d) n->Q n p):wpAny (model X.prog X.w) A (call (.builtin "dict.get") [.ref a,u,r]) Q E s:=by
 rcases g with⟨kvs,k,e,i,l⟩|⟨kvs,k,b,e,i,t,l⟩
 .subst i;obtain⟨z,hd,vs,c,f⟩:=R6 I.hok e;refine AC9 ADr f.typeIs AEF (AEG _ _ _) (meets_dict_get_default (Ax X.prog X.w) a (Oz j) hd r) ⟨_,f.mapOf,h _ _ (I.tok _) ?_⟩;rw[l];exact(c.val k).getD m
 .subst i;cases (show u=Value.ref b from j);obtain⟨z,hd,xs,c,f⟩:=R7 I.hok e;refine AC9 ADr f.typeIs AEF (AEG _ _ _) (meetsH_dict_get_default (tupleKind (Ax X.prog X.w)) a b hd r) ⟨ADq hu,k,xs,QO I.hok t,f,h _ _ (I.tok _) ?_⟩;rw[l];exact(c.val k).getD m
end
def bK (d e f:TE):TE:=λb H Q=>d b H λx H1=>∃a,x= .ref a/\sZ H1 a/\e b H1 λy g=>f b g λz c=>∃o,N1 c a y o/\Q (o.getD z) c
section
variable {X:Cx}{o e f:zr}{apos cpos:Pos}{td ty tx:TE}
def aH (hu:X.A.units+1<cLine)(k:PE X o td)(he:PE X e ty)(l:PE X f tx)(m:M2 X o "get" apos e f cpos):PE X (.Call (.Attribute o "get" apos) [e,f] [] cpos) (bK td ty tx):=by
 intro b s c H Q I h;refine ADs m.base m.few m.line ADt ADr PySem.F.type_dict_get (BY (k b s c H _ I h) λu n ⟨x,H1,j,p,a,ex,d,r⟩=> ?_);subst ex;obtain rfl:u=Value.ref a:=p;obtain⟨t,v,_⟩:=QN j d;refine⟨t,v, ?_⟩;rw[m.trees];refine ACn rfl (Calls.evalArgs_plain (ADU (BY (he b n c H1 _ j r) λN w ⟨y,B,C,D,E⟩=>
  ADU (BY (l b w c B _ C E) λO P ⟨z,G,J,K,R,g,L⟩=>Calls.spliced_nil ?_))))
 exact gX hu J g D K λS T M i=>⟨_,G,M,i,L⟩
end
end L2
namespace PL
open PySem PySem.Spec PyProof.Rows L2
section
variable {K:AAB}{T M:zu->Prop}{H H':Hp}
def Jg.ext (va:Jg T M H)(ex:∀b o,H b=some o->H' b=some o):Mv K T M H T M H':=⟨va,λb o _ _ e=>ex b o e,λ_ t=>t,λ_ _ t=>t,λ_ _ m=>m⟩
def eT (va:Jg T M H)(ex:∀b o,H b=some o->H' b=some o):C3 T H T H' where
 keep:=λb u _ e=>ex b u e
 sub:=λ_ t=>t
 new:=λ_ t=> .inl t
 tp:=λa t=>let ⟨d,x,e,q⟩:=va.tp a t;⟨d,x,ex _ _ e,q⟩
end
end PL
namespace L2
open PySem PySem.Spec PyProof.Rows
def UN (own:Nat)(a:St):St:=List.replicate own none++a.drop own
def XW {own:Nat}{a:St}{j:Nat}{v:V}(h:(UN own a)[j]? =some (some v)):own<=j/\a[j]? =some (some v):=by
 unfold UN at h;by_cases hj:j<own
 .rw [ABN (by simpa using hj),ABV,AAE hj] at h;cases h
 .have Yc:own<=j:=by omega
  rw[ABG (by simpa using Yc),ABW,AC5] at h;rw[show own+(j-own)=j by omega] at h;exact⟨Yc,h⟩
end L2
namespace PL
open PySem PySem.Spec PyProof.Rows L2
def XV (own:Nat)(τ:BE):BE:=List.replicate own none++τ.drop own
def SR.noOwn {K:AAB}{B:Ct}{T:zu->Prop}{H:Hp}{a:L2.St}{τ:BE}(s:SR K B T H a τ)(c:∀b,¬Cf a τ b){i:Nat}{xs:zy PV}:τ[i]? ≠some (some (.own xs)):=λe=>by obtain⟨p,vs,d,_⟩:=s.own i xs e;exact c p ⟨i,xs,e,d⟩
def SR.swap {K:AAB}{B:Ct}{l f:zu->Prop}{m g:Hp}{a σ0:L2.St}{τ k:BE}(c:SR K B l m a τ)(n:∀b,¬Cf a τ b)(d:SR K B f g σ0 k)(o:Mv K l (mt B a τ) m f (mt B a τ) g):SR K B f g a τ:=
 ⟨c.len,λi x e=>let ⟨v,h,r⟩:=c.val i x e;⟨v,h,r.mv o⟩,λi xs e=>absurd e (c.noOwn n),λi j xs s p e=>absurd e (c.noOwn n),d.tp,d.bm,d.bt,d.st⟩
def Ih {own:Nat}{τ:BE}{j:Nat}{x:AV}(h:(XV own τ)[j]? =some (some x)):own<=j/\τ[j]? =some (some x):=by
 unfold XV at h;by_cases hj:j<own
 .rw [ABN (by simpa using hj),ABV,AAE hj] at h;cases h
 .have Yc:own<=j:=by omega
  rw[ABG (by simpa using Yc),ABW,AC5] at h;rw[show own+(j-own)=j by omega] at h;exact⟨Yc,h⟩
def SR.cut {K:AAB}{B:Ct}{T:zu->Prop}{H:Hp}{c:L2.St}{τ:BE}{own:Nat}(s:SR K B T H c τ)(d:∀b,¬Cf c τ b):SR K B T H (UN own c) (XV own τ)/\∀b,¬Cf (UN own c) (XV own τ) b:=by have g:∀b,¬Cf (UN own c) (XV own τ) b:=λb ⟨i,xs,h,f⟩=>d b ⟨i,xs,(Ih h).2,(XW f).2⟩;refine⟨⟨by simp[UN,XV,s.len],λi x e=> ?_,λi xs e=>absurd (Ih e).2 (s.noOwn d),λi j xs k p e=>absurd (Ih e).2 (s.noOwn d),s.tp,s.bm,s.bt,s.st⟩,g⟩;obtain⟨Yc,f⟩:=Ih e;obtain⟨v,hv,r⟩:=s.val i x f;refine⟨v, ?_,r.mv (.anti s.va λa z=>z.elim .inl λz=>absurd z (g a))⟩;unfold UN;rw[ABG (by simpa using Yc),ABW,AC5,show own+(i-own)=i by omega];exact hv
structure lB (D:Addr) (T:Addr->Prop) (H:Hp) (T':Addr->Prop) (H':Hp):Prop where
 keep:∀b o,¬T b->b≠D->H b=some o->H' b=some o
 sub:∀b,T b->T' b
 new:∀b,T' b->T b\/H b=none
 tp:∀b,H b≠none->H' b≠none
def lB.upd {D:zu}{T:zu->Prop}{H:Hp}{o:HO}:lB D T H T (upd H D o):=⟨λb a _ n e=>by rw[Ag n];exact e,λ_ e=>e,λ_ e=> .inl e,λb e=>by
 by_cases h:b=D
 .subst h;rw[Ah];exact λz=>nomatch z
 .rw [Ag h];exact e⟩
end PL
namespace PL
open PySem L2 PyProof.Rows
section
variable {ai ai2:AI}{g g2:AG}{tt t2:AT}{te:AE}{τ τ':BE}{QL:zy PV->Prop}{own own2:Nat}{ix:zy Nat}
instance{i:Nat}{a b:AE}{nx bk ct:BE->Prop}{rt:PV->Prop}:Wp (gQ i a b ⟨nx,rt,bk,ct⟩ τ) (b τ λy=>K9 i τ λxs=>a τ λk=>RY k λk=>og (WO xs.length k) λj=>TN τ i (.own (xs.set j y)) nx):=⟨id⟩
end
end PL
namespace L2
open PySem PySem.Spec PyProof.Rows
def v5 {P:zp}{w:zm}{h:zl}{d:zu}{o:Obj}{es:Array DictEntry}{ep:Nat}{vs:zy (B4×zx)}(g:h.get? d=some o)(e:o.data= .dict es ep)(x:h.DictOf (Ax P w) d vs):h.DictAt (Ax P w) d vs ep:=by obtain⟨f,a,b,g',c,e',r⟩:=x;rw[g] at g';cases g';rw[e] at e';cases e';exact⟨o,es,g,c,e,r⟩
def Ng (H:Hp)(d:zu)(n ep:Nat)(kvs:zy (B4×V)):Prop:=∃o es,H d=some (.frz o (.dK kvs))/\o.data= .dict es ep/\kvs.length=n
def Itm (d:zu)(n ep:Nat):It:=
 ⟨λi H=>∃kvs k x,Ng H d n ep kvs/\kvs[i]? =some (k,x),
  λi H v a=>∃T k x,v= .ref T/\H T=none/\a=upd H T (.tup [kV k,x])/\∀kvs,Ng H d n ep kvs->kvs[i]? =some (k,x),
  λi H=>∃kvs,Ng H d n ep kvs/\kvs.length<=i⟩
def Ng.one {H:Hp}{d:zu}{n ep:Nat}{a b:zy (B4×V)}(x:Ng H d n ep a)(y:Ng H d n ep b):a=b:=by obtain⟨o,es,e,_⟩:=x;obtain⟨f,c,e',_⟩:=y;rw[e] at e';cases e';rfl
def Ng.at {X:Cx}{b:zy (zu×Obj)}{c:St}{H:Hp}{s:zw}{d:zu}{n ep:Nat}{kvs:zy (B4×V)}(I:Inv X b c H s)(x:Ng H d n ep kvs):∃vs,KV kvs vs/\s.heap.DictAt (Ax X.prog X.w) d vs ep:=by obtain⟨o,es,e,f,_⟩:=x;obtain⟨g,z,hd,vs,a,h⟩:=(show CM X.prog X.w H s.heap d (.frz o (.dK kvs)) from I.hok d _ e);exact⟨vs,a,v5 g f h⟩
def Zj {P:zp}{w:zm}{k:B4}{u:zx}(h:(Ax P w).is k u=true):RelV (kV k) u:=by
 rcases BS h with⟨i,t,rfl,rfl⟩|⟨x,t,rfl,rfl⟩
 .exact ⟨_,rfl⟩
 .exact ⟨_,rfl⟩
def Zl {kvs:zy (B4×V)}{vs:zy (B4×zx)}(r:KV kvs vs):∀{i:Nat} {k:B4} {x:V},kvs[i]? =some (k,x)->∃u,vs[i]? =some (k,u)/\RelV x u:=by
 unfold KV at r;induction r with
 | nil=>intro i k x h;simp at h
 | @cons p q ps qs h t a=>
   intro i k x e;cases i with
   | zero=> simp at e;subst e;obtain⟨d,b⟩:=q;obtain⟨h1,h2⟩:=h;exact⟨b,by simp at h1;simp[h1],h2⟩
   | succ i=> obtain⟨u,hu,c⟩:=a (i:=i) (k:=k) (x:=x) (by simpa using e);exact⟨u,by simpa using hu,c⟩
def OC:entryFor table "dict_itemiterator.__iter__" =some Builtin.«dict_keyiterator.__iter__»:=
 entryFor_alias (id':="dict_keyiterator.__iter__") (by kernel_rfl) (by first | rfl|decide +kernel|(unfold String.splitOn;simp +decide [String.splitOnAux])) (by decide +kernel) (by kernel_rfl)
def OG {prog:zp}{w:zm}{A:zk}{E:zx->zw->Prop}{s:zw}{it d:zu}{k n ep:Nat}{ok b:zx}{Q:zx->zw->Prop}(he:IsItemIter s.heap it d k n ep ok b)(h:Q (.ref it) s):wpAny (model prog w) A (pyIter (.ref it)) Q E s:=by have a:s.TypeIs (.ref it) "dict_itemiterator" :=⟨_,he,rfl⟩;refine wpAny_pyIter_slot a AEH (AA0 AEH a OC ?_ (F.args_dict_itemiterator_iter_1 _));show wpAny _ _ (ret (.ref it)) _ _ s;exact AAC ⟨_,rfl,"dict_itemiterator",_,a,F.slot_dict_itemiterator_next.lookup,h⟩
def Vf {P:zp}{w:zm}{K:AAB}{es:zy zr}{G:Nat}{pos:Pos}{it d:zu}{n ep:Nat}:Jf P w K (.Tuple es G pos) (Itm d n ep) [it] it (λk h=>∃ok c,IsItemIter h it d k n ep ok c) where
 mem:=by simp
 obj:=λk h st p hp=>by
  obtain⟨ok,c,he⟩:=st;have b:p=it:=by simpa using hp
  subst b;exact⟨_,he,λv z=>nomatch z⟩
 keep:=λk h h' st l=>by obtain⟨ok,c,he⟩:=st;exact⟨ok,c,l it (by simp) _ he⟩
 item:=by
  intro X m hw r hc k B s C H E I j st t;subst m hw r;obtain⟨ok,c,he⟩:=st;obtain⟨kvs,y,x,f,hx⟩:=t;obtain⟨vs,a,A⟩:=f.at I;have hl:vs.length=n:=by obtain⟨_,_,_,_,e⟩:=f;rw[<-e];exact a.length.symm
  subst hl;obtain⟨u,hu,J⟩:=Zl a hx;have g:it<s.heap.objs.size:=AAF he;refine wpAny_pyNext_items_item he A hu λkey h1 L M N U O=> ?_;refine⟨_,rfl,wpAny_letOwnedTupleGo_items (s:={s with heap:=h1}) M λh2 Q R=> ?_⟩;have i:∀p o,p≠it->h1.get? p=some o->h2.get? p=some o:=λp o q z=>R.extBut _ _ q z;have D:∀p∈ [it],p<s.heap.objs.size:=λp hp=>by
   have b:p=it:=by simpa using hp
   rw[b];exact g
  have l:∀p o,p ∉ [it] ->s.heap.get? p=some o->h2.get? p=some o:=λp o hp z=>by
   have b:p≠it:=by simpa using hp
   exact i p o b (O p o b z)
  have S:Inv X B C (upd H s.heap.objs.size (.tup [kV y,x])) {s with heap:=h2,toks:=s.toks}:=I.turnedN j D l (AAJ _)
   ⟨(by show 2<=sizeLine;decide), [key,u], .cons (Zj L) (.cons J .nil),⟨_,i _ _ (AAj g) N,rfl,_,rfl⟩⟩
  refine⟨.ref s.heap.objs.size,upd H s.heap.objs.size (.tup [kV y,x]),S,rfl,⟨_,y,x,rfl,I.fresh,rfl,λF h'=> ?_⟩,⟨key,u,Q⟩,λp hp=> ?_⟩
  .rw [h'.one f];exact hx
  .rw [Ag (AAK (D p hp))];exact(j p hp).1
 done:=by
  intro X m hw r hc k B s C H E I j st t;subst m hw r;obtain⟨ok,c,he⟩:=st;obtain⟨kvs,f,hx⟩:=t;obtain⟨vs,a,A⟩:=f.at I;have hl:vs.length=n:=by obtain⟨_,_,_,_,e⟩:=f;rw[<-e];exact a.length.symm
  have W:=a.length;subst hl;refine wpAny_pyNext_items_end (I.ok.hd hc) he A (by rw[AEI];omega) λh' T=>⟨rfl, ?_⟩;exact I.turnedL (t':=s.toks) j λp o hp z=>by
   have b:p≠it:=by simpa using hp
   exact T p o b z
 self:=λ_ _ _ _ _ st h=>by obtain⟨ok,c,he⟩:=st;exact OG he h
section
variable {X:Cx}
def S5 {e:zr}{z:TE}{apos f j:Pos}{es:zy zr}{C:Nat}(he:PE X e z)(hb:attributeBase e "items" X.env (eval e X.env)=eval e X.env)(D:((backTo f (starEach [] X.env)).all (λx=> !x.1)&&(backToKw f (keywordEach [] X.env)).all (λx=>x.1.isSome)&&decide (([] :zy zr).length+([] :zy Keyword).length+(if ([] :zy Keyword).isEmpty then 0 else 1)<30))=true)(hl:(apos.endLine==f.line)=true)(E:backTo f (starEach [] X.env)= []):PI X (.Tuple es C j) (.Call (.Attribute e "items" apos) [] [] f) (λm H R=>z m H λv H1=>∃d n ep kvs,v= .ref d/\Ng H1 d n ep kvs/\R (Itm d n ep) H1):=by
 intro G s m H R I h;refine ADs hb D hl ADt AEJ PySem.F.type_dict_items (BY (he G s m H _ I h) λu i ⟨x,H1,k,J,d,n,ep,kvs,ex,t,K⟩=> ?_);subst ex;obtain rfl:u=Value.ref d:=J;obtain⟨vs,y,A⟩:=t.at k;have L:vs.length=n:=by obtain⟨_,_,_,_,e⟩:=t;rw[<-e];exact y.length.symm
 obtain⟨o,M,N,U,_⟩:=id t;obtain⟨O,P,Q⟩:=QN k (.inl ⟨kvs, .inr ⟨o,N⟩⟩);have B:i.heap.DictOf (Ax X.prog X.w) d vs:=let ⟨o,es,a,b,c,r⟩:=A;⟨o,es,ep,a,b,c,r⟩;refine⟨O,P, ?_⟩;rw[E];refine ACn rfl (PySem.evalArgs_none ?_);refine AC9 AEJ B.typeIs PySem.F.entry_dict_items (PySem.F.args_dict_items_1 _) (meets_dict_items (Ax X.prog X.w) d Q) ⟨⟨vs,B⟩, ?_⟩;have S:(i.heap.push {cls:= .type "dict_items",data:= .fields #[.ref d] }).DictAt (Ax X.prog X.w) d vs ep:=by obtain⟨o,es,g,r⟩:=A;exact⟨o,es,AAH _ g,r⟩
 refine wpAny_pyIter_items (s:={i with heap:=i.heap.push {cls:= .type "dict_items",data:= .fields #[.ref d] }}) (knd:=Ax X.prog X.w) (d:=d) ?_ S ?_
 .exact ⟨_,AAO _ rfl,rfl,rfl⟩
 subst L;have l:(i.heap.push {cls:= .type "dict_items",data:= .fields #[.ref d] }).objs.size=i.heap.objs.size+1:=AAq ..;refine⟨_, [i.heap.objs.size+1],_,_,H1,congrArg Value.ref l,k.kept (t':=i.toks) λb W q=>AAH _ (AAH _ q),Vf,⟨.none, .none, ?_⟩,λp hp=> ?_,K⟩
 .have:=AAO (i.heap.push {cls:= .type "dict_items",data:= .fields #[.ref d] }) (o:={cls:= .type "dict_itemiterator",data:= .fields #[Value.none,Value.bool false,Value.ref d,Value.int 0 0,Value.int (vs.length:Int) 0,Value.int (ep:Int) 0,Value.none,Value.none] }) rfl;rw[l] at this;exact this
 .have T:p=i.heap.objs.size+1:=by simpa using hp
  subst T;exact k.fpOk (ABA _ _) (k.hok.fresh (ABA _ _))
end
end L2
namespace PL
open PySem PySem.Spec PyProof.Rows L2
section
variable {X:Cx}
def jg (a:zy (TE×TE)):TE:=λd H Q=>∀p,H p=none->VZ a d (upd H p (.dK [])) λps b=>b p=some (.dK [])/\∃kvs:zy (B4×V),ps=kvs.map (λc=>(kV c.1,c.2))/\kvs.length<=15/\∀o es ep,o.data= .dict es ep->Q (.ref p) (upd b p (.frz o (.dK (Mw [] kvs))))
def aI {pos:Pos}{keys:zy (zt zr)}{values:zy zr}{b:zy (TE×TE)}(h:oD X pos keys values b)(j:keys.all (·.isSome)=true)(hl:keys.length=values.length)(k:keys≠ [])(l:keys.length<=15):PE X (.Dict keys values pos) (jg b):=by
 intro m s n H Q I q;have p:=I.hok.fresh (AAJ s.heap.objs.size);have r:=I.laid (a:=s.heap.objs.size) (o:= .dK []) (h':=s.heap.push {cls:= .type "dict",data:= .dict #[] }) (t':=s.toks) (λ_ _ q=>AAH _ q) (AAJ _) (R5 s.heap I.big);refine wpAny_Dict_walk (knd:=Ax X.prog X.w) j hl k l (BY (h m _ n _ _ r (q _ p)) λD E ⟨ps,F,g,f,e,kvs,ep,G,t⟩=> ?_);subst ep;obtain⟨u,c,v⟩:=MV (P:=X.prog) (w:=X.w) f;obtain⟨z,hd,x,y,A⟩:=V7 g.hok e;cases y;have B:(Mw [] kvs).length<=sizeLine:=by have h1:=HI kvs [];rw[ADp] at h1;rw[ACT];omega
 refine⟨u,c,A,λh' d hs=> ?_⟩;obtain⟨o,es,ep,i,C⟩:=id d;refine⟨.ref s.heap.objs.size,_, ?_,rfl,t o es ep C.2.1⟩;exact Ii g (by rw[e];exact True.intro) hs ⟨o,i⟩ ⟨i,P7 B hd (v.merge .nil) d⟩
def eU {T c:zu->Prop}{H f:Hp}{d:zu}{o:HO}(s:C3 T H c f)(hd:H d=none)(g:¬c d):C3 T H c (upd f d o) where
 keep b q t e:=by
  have n:b≠d:=λz=>by subst z;rw[hd] at e;cases e
  rw[Ag n];exact s.keep b q t e
 sub:=s.sub
 new:=s.new
 tp a t:=by
  have n:a≠d:=λz=>by subst z;exact g t
  obtain⟨x,y,e,r⟩:=s.tp a t;exact⟨x,y,by rw[Ag n];exact e,r⟩
def Y1 (a b:AE):AE:=λτ Q=>a τ λx=>b τ λy=>match x,y with | .int i, .int j=>Q (.dk [(i,j)])|_,_=>False
def jQ {a b:zr}{u w:AE}{p:Pos}(ha:SE X a u)(hb:SE X b w):SE X (.Dict [some a] [b] p) (Y1 u w):=by
 obtain⟨t,E,s⟩:=ha;obtain⟨t',h,F⟩:=hb;refine⟨_,aI (aR E h dc) rfl rfl (List.cons_ne_nil _ _) (ABe rfl),λB T y τ H Q N k q G=> ?_⟩;intro d hd;have c:C3 T H T (upd H d (.dK [])):=C3.lay k.tp hd;have f:=k.stp c;have A:¬T d:=λz=>by obtain⟨o,e,_⟩:=(k.tp d z).mut;rw[hd] at e;cases e
 refine s B T y τ _ _ _ f q λv x T1 H1 l I J=>F B T1 y τ _ _ _ (f.stp l) J λO P C K D L m=> ?_;split at m <;> first | exact m.elim|skip
 rename_i i j;cases I;cases L;have n:K d=some (.dK []):=(l.trans D).keep _ _ A Ah;have g:=l.trans D;have r:¬C d:=λz=>by
  rcases g.new d z with z|z
  .exact A z
  .rw [Ah] at z;cases z
 refine⟨n, [(.inl i, .int j)],rfl,ABe rfl,λo es ep M=> ?_⟩;exact G _ _ C _ (eU (c.trans g) hd r) (.dk (kvs:= [(i,j)]) Ah M) m
end
end PL
namespace L2
open PySem PySem.Spec PyProof.Rows
def P6 (J:It)(D:zu)(σ0:St)(g:TG)(f:TT)(h j:TE)(Q:Hp->Prop)(W:Nat->Nat->Hp->Prop):Prop:=
 ∀i m H,W i m H->(J.stop i H/\Q H)\/(J.go i H/\∀x c,J.yld i H x c->g x σ0 c λa l=>f a l λok d=>
  if ok=true then h a d λy n=>j a n λz e=>∃k kvs,y=kV k/\e D=some (.dK kvs)/\kvs.length<sizeLine/\∃b,b<m/\W (i+1) b (upd e D (.dK (FU kvs k z))) else ∃b,b<m/\W (i+1) b d)
def bJ (b:TI)(own:Nat)(ix:zy Nat)(g:TG)(c:TT)(d e:TE):TE:=λa H Q=>b a H λJ H1=>∀D,H1 D=none->
 ∃W:Nat->Nat->Hp->Prop,(∃m,W 0 m (upd H1 D (.dK [])))/\P6 J D (CO own ix a) g c d e (Q (.ref D)) W
section
variable {X:Cx}{tg kx vx iter:zr}{ifs:zy zr}{scope:Scope}{pos:Pos}{wi:TI}{own:Nat}{ix:zy Nat}{N:zy Str}{g:TG}{tt:TT}{tk tv:TE}
def UO {G:zy (zu×Obj)}{U:St}{H:Hp}{s:zw}{l:zy zu}{cl:zy (Str×zu)}{it:zu}{tn:Nat->zl->Prop}{J:It}{D:zu}{R:Result->zw->Prop}{Qh:Hp->Prop}{W:Nat->Nat->Hp->Prop}(hc:X.calm=true)(O:Fa X tg kx ifs scope own ix N g tt tk)(OV:∀cl C s H ex pn,PE (blk X (relabel scope X.env) N cl C s H ex pn) vx tv)(T:Jf X.prog X.w X.K tg J l it tn)(I:Inv X G U H s)(hf:∀b∈l,Fd X G H b)(Hg:∀b∈l,b<s.heap.objs.size)(hW:P6 J D (CO own ix U) g tt tk tv Qh W)(hR:∀σ' a Z,Inv (blk X (relabel scope X.env) N cl s.heap.objs.size s H l (X.pn++G)) [] σ' a Z->Qh a->R (.ok .next) Z)(n:Nat)(s0:zw)(h0:∃i a,Inv (blk X (relabel scope X.env) N cl s.heap.objs.size s H l (X.pn++G)) [] (CO own ix U) a s0/\tn i s0.heap/\(∀b∈l,a b=none)/\W i n a):codeAny (model X.prog X.w) X.A (.compLoop (.DictComp kx vx [⟨tg,iter,ifs,0⟩] scope pos) 0 (.ref it) (.ref D) (HY X.env (relabel scope X.env) cl s.heap.objs.size)) R s0:=by
 refine codeAny_loop rfl (λn Z=>∃i a,Inv (blk X (relabel scope X.env) N cl s.heap.objs.size s H l (X.pn++G)) [] (CO own ix U) a Z/\tn i Z.heap/\(∀b∈l,a b=none)/\W i n a) (λn s1 h1=> ?_) n h0;obtain⟨i,H1,B1,st1,fr1,w1⟩:=h1;generalize f:blk X (relabel scope X.env) N cl s.heap.objs.size s H l (X.pn++G)=Y at *;have eA:Y.A=X.A:=by rw[<-f];rfl
 have eP:Y.prog=X.prog:=by rw[<-f];rfl
 have eW:Y.w=X.w:=by rw[<-f];rfl
 have eK:Y.K=X.K:=by rw[<-f];rfl
 have eE:HY X.env (relabel scope X.env) cl s.heap.objs.size=Y.env:=by rw[<-f];rfl
 have eX:Y.xe=λ_ _=>False:=by rw[<-f];rfl
 have eC:Y.calm=true:=by rw[<-f];exact hc
 have hg:PG Y tg g:=by rw[<-f];exact O.tgt _ _ _ _ _ _
 have ht:fJ Y ifs tt:=by rw[<-f];exact O.tst _ _ _ _ _ _
 have hk:PE Y kx tk:=by rw[<-f];exact O.val _ _ _ _ _ _
 have hv:PE Y vx tv:=by rw[<-f];exact OV _ _ _ _ _ _
 have B:∀{a:Hp},(∀b∈l,a b=none)->∀b∈l,Fd Y [] a b:=λ{a} hn b hb=>by
  obtain⟨_,a1,a2,a3,a4,a5⟩:=hf b hb;refine⟨hn b hb, ?_, ?_, ?_, ?_, ?_⟩
  .rw [<-f];exact AAK (Hg b hb)
  .rw [<-f];exact I.notStk a1 a2
  .rw [<-f];exact .inl hb
  .intro x c e;exact(B1.ok.exf b (by rw[<-f];exact hb)).2 x c e
  .intro p hp;have:p∈X.pn++G:=by rw[<-f] at hp;simpa[blk] using hp
   exact a5 p this
 rw[eE,<-eA,<-eP,<-eW];show wpAny _ _ ((compTurn (.DictComp kx vx [⟨tg,iter,ifs,0⟩] scope pos) 0 (.ref it) (.ref D) Y.env).onRaise (λx=>do noteFrame x Y.env;theTreesLotGoes x)) _ _ s1;refine wpAny_noted ?_;rw[compTurn_dict];have ff:∀{α:Type} {t:Sem α} {Q:α->zw->Prop} {E:zx->zw->Prop} {s:zw},wpAny (model Y.prog Y.w) Y.A t Q Y.xe s->wpAny (model Y.prog Y.w) Y.A t Q E s:=λh=>ABM h (λ_ _ q=>q) λ_ _ z=>by rw[eX] at z;exact z.elim
 refine AAA (ABU (AAA ?_));rcases hW i n H1 w1 with⟨stop,qn⟩|⟨go,step⟩
 .have zd:=λE=>T.done Y eP eW eK eC i [] s1 _ H1 E B1 (B fr1) st1 stop;rw[<-eP,<-eW] at zd;refine BY (zd _) λr s4 ⟨hr,I4⟩=> ?_;subst hr;exact AAC (hR _ _ _ I4 qn)
 .have zi:=λE=>T.item Y eP eW eK eC i [] s1 _ H1 E B1 (B fr1) st1 go;rw[<-eP,<-eW] at zi;refine BY (zi _) λr s4 ⟨u,hr,h4⟩=> ?_;subst hr;refine AAA (BY h4 λ_ s5 ⟨x,H5,I5,r5,y5,L,fr5⟩=> ?_);have I5':=I5.pinned (B fr5) (T.obj _ _ L);refine AAA (BY (ff (hg _ s5 _ H5 x u _ I5' r5 (O.keep _ _ _ _ (step x H5 y5)))) λ_ s6 ⟨F,H6,I6,q6,l6,k6⟩=> ?_);refine AAA (BY (ff (ht _ s6 F H6 _ I6 q6)) λok s7 ⟨H7,I7,q7⟩=> ?_);have back:∀{M:Hp} {P:zw} {S:Nat},Inv Y ([] ++ Jw l s5.heap) F M P->S<n->W (i+1) S M->
   ∃m,m<n/\∃i a,Inv Y [] (CO own ix U) a P/\tn i P.heap/\(∀b∈l,a b=none)/\W i m a:=λ{M P S} I8 hm w8=>by
   refine⟨S,hm,i+1,M,I8.unpinned.weak l6.symm (λj v hj=> ?_),T.keep _ _ _ L λb hb o e=>(I8.pin (b,o) (AAk _ (AAk _ (Dj hb e)))).1,λb hb=> ?_,w8⟩
   .rw [k6 j (HZ hj).1];exact hj
   .obtain ⟨o,e,d⟩:=T.obj _ _ L b hb;exact(I8.pin (b,o) (AAk _ (AAk _ (Dj hb e)))).2.1
  cases ok with
  | false=> obtain⟨S,hm,w8⟩:=q7;exact AAC ⟨rfl,back I7 hm w8⟩
  | true=>
    refine AAA (AAA (BY (ff (hk _ s7 F H7 _ I7 q7)) λkv P ⟨y,M,I8,r8,q8⟩=> ?_));refine AAA (AAa (BY (ff (hv _ P F M _ I8 q8)) λvv s9 ⟨z,H9,I9,r9,k,kvs,ey,hD,hz,S,hm,w9⟩=> ?_));subst ey;refine AAA (ABU (AAa ?_));obtain⟨z1,wP,vs,rel,dd⟩:=V7 I9.hok hD;have xC:vs.length<=sizeLine:=by rw[<-rel.length];exact z1
    have hl:(FU kvs k z).length<=sizeLine:=by have:=Et kvs k z;omega
    refine wpAny_dictSet_pairs (hsz:=xC) (Oz r8) dd λh' dd' hs=> ?_;have he:∃q,h'.get? D=some q:=let ⟨q,_,_,hq,_⟩:=dd';⟨q,hq⟩;have I10:=Ii (t':=s9.toks+1) I9 (by rw[hD];exact True.intro) hs he (P7 hl wP (rel.put k r9) dd');exact AAC ⟨rfl,back I10 hm w9⟩
def XZ {h:zy (zu×Obj)}{E:St}{H:Hp}{s:zw}{use:zt (zx->Sem Unit)}{Q:zx->zw->Prop}{it:zu}{l:zy zu}{cl:zy (Str×zu)}{tn:Nat->zl->Prop}{J:It}{Qd:zu->Hp->Prop}(hc:X.calm=true)(O:Fa X tg kx ifs scope own ix N g tt tk)(U:∀cl C s H ex pn,PE (blk X (relabel scope X.env) N cl C s H ex pn) vx tv)(T:Jf X.prog X.w X.K tg J l it tn)(I:Inv X h E H s)(Y:∀b∈l,Fd X h H b)(st:tn 0 s.heap)(h1:∀y c,cl.lookup y=some c->X.env.cells.lookup y=some c)(h2:∀y,(y,NameKind.free)∈scope.names->∃c,cl.lookup y=some c)(Z:∀D,H D=none->∃W:Nat->Nat->Hp->Prop,(∃m,W 0 m (upd H D (.dK [])))/\P6 J D (CO own ix E) g tt tk tv (Qd D) W)(hR:∀D C k n,(∃m,n.heap.Ns C m)->Inv X h E k n->(∀i F,Inv X h i k F->∀h',Heap.SameBut C F.heap h'->Inv X h i k {F with heap:=h'})->C≠X.env.locals->(∀x c,X.env.cells.lookup x=some c->C≠c)->Qd D k-> compPost (model X.prog X.w) X.A X.xe use Q (.ref D) C (.ok .next) n):wpAny (model X.prog X.w) X.A (newDict #[]) (λp r=>wpAny (model X.prog X.w) X.A (newFunctionEnv scope X.env.globals cl [] X.env.qual none .none (some X.env)) (λf t=> codeAny (model X.prog X.w) X.A (.compStart (.DictComp kx vx [⟨tg,iter,ifs,0⟩] scope pos) 0 (.ref it) p {f with scope:=relabel scope X.env}) (compPost (model X.prog X.w) X.A X.xe use Q p f.locals) t) X.xe r) X.xe s:=by
 refine ABE ?_ (by simp[sizeOk]);have j:Inv X h E (upd H s.heap.objs.size (.dK [])) {s with heap:=s.heap.push {cls:= .type "dict",data:= .dict #[] }}:=I.laid (a:=s.heap.objs.size) (o:= .dK []) (t':=s.toks) (λ_ _ q=>AAH _ q) (AAJ _) (R5 s.heap I.big);have Uh:=I.fresh;obtain⟨W,⟨m0,w0⟩,hW⟩:=Z _ Uh;have gy:∀b∈l,b<s.heap.objs.size:=λb hb=>by obtain⟨o,e,_⟩:=T.obj _ _ st b hb;exact AAF e
 have G:∀b∈l,Fd X h (upd H s.heap.objs.size (.dK [])) b:=λb hb=>by obtain⟨a0,ar⟩:=Y b hb;exact⟨by rw[Ag (AAK (gy b hb))];exact a0,ar⟩
 generalize qS:({s with heap:=s.heap.push {cls:= .type "dict",data:= .dict #[] }}:zw)=s3 at j;have u:tn 0 s3.heap:=T.keep _ _ _ st λb hb o e=>by rw[<-qS];exact AAH _ e
 have L:∀b∈l,b<s3.heap.objs.size:=λb hb=>by obtain⟨o,e,_⟩:=T.obj _ _ u b hb;exact AAF e
 refine wpAny_newFunctionEnv O.nocell (by intro y M;simp at M) (λd kE qT=> ?_) O.kind;have S:∀b o,s3.heap.get? b=some o->d.get? b=some o:=λb o e=>qT.extBut b o (AAK (AAF e)) (AAH _ e);have fS:∀y,((relabel scope X.env).names.lookup y=some .cell\/(relabel scope X.env).names.lookup y=some .free)->∃c,cl.lookup y=some c:=λy M=>by
  rcases M with z|z
  .exact h2 y (Eu O.nocell (Jn z) (.inl rfl))
  .exact h2 y (Eu O.nocell (Jn z) (.inr rfl))
 have B:=Y8 (N:=N) (t':=s3.toks+([] :zy (Str×zx)).length) j G L (sc:=relabel scope X.env) O.kind h1 fS O.ins kE S;have v:tn 0 d:=T.keep _ _ _ u λb hb o e=>S b o e;have loop:∀P:zw,P={s3 with heap:=d,toks:=s3.toks+([] :zy (Str×zx)).length}->
  codeAny (model X.prog X.w) X.A (.compLoop (.DictComp kx vx [⟨tg,iter,ifs,0⟩] scope pos) 0 (.ref it) (.ref s.heap.objs.size) (HY X.env (relabel scope X.env) cl s3.heap.objs.size)) (compPost (model X.prog X.w) X.A X.xe use Q (.ref s.heap.objs.size) s3.heap.objs.size) P:=by rintro P rfl;refine UO (cl:=cl) (Qh:=Qd s.heap.objs.size) hc O U T j G L hW (λσ' k n R q'=> ?_) m0 _ ⟨0,_,B,v,λb hb=>(G b hb).1,w0⟩;refine hR _ _ k n (let ⟨m,hm,_⟩:=R.loc;⟨m,hm⟩) (Vw (own:=own) (ix:=ix) j G L R) (λi F I2 h' hs=>Ru j rfl I2 R.free hs) (AAj j.lt) (λx c e=>AAj (j.szLt e)) q'
 exact codeAny_compStart_dict (loop _ rfl) (T.self _ 0 _ _ _ v (loop _ rfl))
def aT {i:Nat}{x:Str}{pos' b:Pos}(hc:X.calm=true)(hN:X.N.Nodup)(n:X.N[i]? =some x)(hx:Loc X.env.scope x)(hi:PI X tg iter wi)(O:Fa X tg kx ifs scope own ix N g tt tk)(o:∀cl C s H ex pn,PE (blk X (relabel scope X.env) N cl C s H ex pn) vx tv)(p:swapsWith (.DictComp kx vx [⟨tg,iter,ifs,0⟩] scope pos) (some (.Name x pos')) b.line X.env=pure true:=by rfl)(hs:∀x,foldedSetIterable iter X.env x=pure x:=by intro _;rfl)(r:X.fn x=true\/X.env.scope.names.lookup x=some .local:=by first | exact .inl rfl|exact .inr rfl|assumption):PS X (.Assign [.Name x pos'] (.DictComp kx vx [⟨tg,iter,ifs,0⟩] scope pos) b) (VY (bJ wi own ix g tt tk tv) (Cz i)):=by
 intro k s l H D I h;obtain⟨cl,t,h1,h2⟩:=Ha (env:=X.env) (scope:=scope) λy u e=>I.ok.has y.1 (.inl (O.frees y u e));rw[exec_Assign_Name_used _ _ _ _ p];refine AAA (ABU (AAA ?_));show wpAny _ _ (do let _ <-comprehension (.DictComp kx vx [⟨tg,iter,ifs,0⟩] scope pos) scope X.env _ (newDict #[]) false (eval iter X.env) (some (assign (.Name x pos') X.env))) _ _ s;refine AAA (BY (ADd (use:=some (assign (.Name x pos') X.env)) (Q:=λ_ c=>SP X k D .next c) rfl hs t O.kind O.names (BY (hi k s l H _ I h) λv Y hv=>BY hv λw Z A=> ?_)) λ_ c B=>AAC (AAC B));obtain⟨it,fp,tn,J,H2,rfl,E,T,f,F,q⟩:=A;refine XZ (Qd:=λd j=>Cz i (.ref d) l j D.nx) hc O o T E F f h1 h2 q λd C j c G K gone L M P=> ?_;obtain⟨m,R⟩:=G;show wpAny _ _ (assign (.Name x pos') X.env (.ref d)) _ _ c;refine ADS (KD (v:= .ref d) K hN n hx rfl (λS U ⟨a,sb,ha⟩=> ?_) r);have W:C≠a:=by
  rcases ha with z|z
  .rw [z];exact L
  .exact M x a z
 exact⟨m,R.sameBut sb W,λh' hs=>⟨_,j,gone _ S U h' hs,P⟩⟩
end
section
variable {X:Cx}
def jh (i:Nat)(t:TS):TS:=λD b H=>∃a kvs,b[i]? =some (some (.ref a))/\H a=some (.dK kvs)/\∀o es ep,o.data= .dict es ep->t D b (upd H a (.frz o (.dK kvs)))
def dm {rest:zy Stmt}{t:TS}{i:Nat}(h:Rr X rest t):Rr X rest (jh i t):=by intro c s d H D I q;obtain⟨a,kvs,_,e,q⟩:=q;obtain⟨z,hd,vs,b,f⟩:=V7 I.hok e;obtain⟨o,es,ep,g,j⟩:=id f;have k:Inv X c d (upd H a (.frz o (.dK kvs))) {s with heap:=s.heap,toks:=s.toks}:=Ii (h':=s.heap) I (by rw[e];exact True.intro) ⟨rfl,λ_ _=>rfl⟩ ⟨o,g⟩ ⟨g,P7 z hd b f⟩;exact h c s d _ D k (q o es ep j.2.1)
end
end L2
namespace PL
open PySem PySem.Spec PyProof.Rows L2
def Bp (m:zy (Int×Int))(k v:Int):zy (Int×Int):=if (m.any λp=>decide (p.1=k))=true then m.map (λp=>if p.1=k then (p.1,v) else p) else m ++ [(k,v)]
def B0 (m:zy (Int×Int))(k:Int):Int:=((m.find? λp=>decide (p.1=k)).map (·.2)).getD 0
def cx (m:zy (Int×Int))(k:Int):((FQ m).any λb=>decide (b.1=(.inl k:B4)))=m.any λp=>decide (p.1=k):=by
 induction m with
 | nil=>rfl
 | cons p r a=> unfold FQ at a ⊢;rw[AAN,ABf,ABf,a];congr 1;simp
def WL (m:zy (Int×Int))(k v:Int):FQ (Bp m k v)=FU (FQ m) (.inl k) (.int v):=by
 unfold Bp FU;rw[cx];split
 .unfold FQ;rw[ABc,ABc];apply ABd;intro p _;simp only[Function.comp];by_cases h:p.1=k
  .simp [h]
  .simp [h]
 .unfold FQ;rw[ABz];rfl
def cy (m:zy (Int×Int))(k:Int):(JL (FQ m) (.inl k)).getD (.int 0)= .int (B0 m k):=by
 induction m with
 | nil=>rfl
 | cons p r a=>
   unfold FQ at a ⊢;rw[AAN];by_cases h:p.1=k
   .rw [Gr (by simp[h])];simp[B0,h]
   .rw [Gq (by simp[h]),a];simp[B0,h]
def JA (m:zy (Int×Int))(k v:Int):(Bp m k v).length<=m.length+1:=by
 unfold Bp;split
 .rw [AAL];omega
 .simp
def BX (many:Int)(m:zy (Int×Int)):zy (Int×Int):=m.foldl (λa p=>Bp a p.1 (many*p.2)) []
def QM {m:zy (Int×Int)}{i:Nat}(h:i<m.length):(FQ m)[i]? =some (.inl m[i].1, .int m[i].2):=by unfold FQ;rw[AAl,AAd h];rfl
def G3 {c a:Type}{f:a->c->a}{b:a}{m:zy c}{i:Nat}(h:i<m.length):(m.take (i+1)).foldl f b=f ((m.take i).foldl f b) m[i] :=by rw[List.take_succ_eq_append_getElem h,ACc];rfl
def cZ {K:AAB}{H:Hp}{r:L2.St}{s:Nat}{many:Int}{d n ep:Nat}{m:zy (Int×Int)}{Q:V->Hp->Prop}(y:Ng H d n ep (FQ m))(A:r[s]? =some (some (.int many)))(hl:m.length<sizeLine)(ok:∀p∈m,MulOk many p.2)(q:∀D c,H D=none->(∀b o,H b=some o->c b=some o)->c D=some (.dK (FQ (BX many m)))->Q (.ref D) c):∀D,H D=none->∃W:Nat->Nat->Hp->Prop,(∃k,W 0 k (upd H D (.dK [])))/\P6 (Itm d n ep) D (CO 2 [s] r) (UX K 2 (FO (Cz 0) (FO (Cz 1) QC))) em (IF 0) (eh (rI MulOk λi j=> .int (i*j)) (IF 2) (IF 1)) (Q (.ref D)) W:=by
 intro D u;have B:CO 2 [s] r= [none,none,some (.int many)] :=by unfold CO;simp[A]
 rw[B];let W:Nat->Nat->Hp->Prop:=λi k c=>i+k=m.length/\(∀b o,H b=some o->c b=some o)/\c D=some (.dK (FQ (BX many (m.take i))))/\(BX many (m.take i)).length<=i;refine⟨W,⟨m.length,ADu _,λb o e=>by rw[Ag (Au e u)];exact e,Ah,AAJ _⟩, ?_⟩;rintro i k c ⟨hi,ex,l,C⟩;have f:Ng c d n ep (FQ m):=let ⟨o,es,a,b⟩:=y;⟨o,es,ex _ _ a,b⟩;cases k with
 | zero=> left;refine⟨⟨_,f,by unfold FQ;rw[AAL];omega⟩,q D c u ex ?_⟩;rw[ABs (by omega)] at l;exact l
 | succ k=>
   right;have g:i<m.length:=by omega
   refine⟨⟨_,_,_,f,QM g⟩,λx F E=> ?_⟩;obtain⟨t,G,I,rfl,v,rfl,hu⟩:=E;have hx:=hu _ f;rw[QM g] at hx;cases hx;have J:D≠t:=λz=>by subst z;rw[l] at v;cases v
   have h:∀b o,c b=some o->upd c t (.tup [kV (.inl m[i].1), .int m[i].2]) b=some o:=λb o e=>by rw[Ag (Au e v)];exact e
   refine⟨t,_,rfl, .inl (.inl (.inl Ah)),rfl,_,_,rfl,_,_,rfl,rfl, ?_⟩;dsimp only[em];rw[AAE rfl];refine⟨_,rfl,_,rfl,_,rfl,many,m[i].2,rfl,rfl,ok _ (AC8 g), ?_⟩;refine⟨.inl m[i].1,_,rfl,h _ _ l,by unfold FQ;rw[AAL];omega,k,by omega,by omega,λb o e=> ?_, ?_, ?_⟩
   .rw [Ag (Au e u)];exact h _ _ (ex _ _ e)
   .rw [Ah];unfold BX;rw[G3 g,WL]
   .unfold BX at C ⊢;rw[G3 g];have:=JA ((m.take i).foldl (λw p=>Bp w p.1 (many*p.2)) []) m[i].1 (many*m[i].2);omega
def BW (more:Int)(a m:zy (Int×Int)):zy (Int×Int):=m.foldl (λa p=>Bp a p.1 (B0 a p.1+more*p.2)) a
def Zs (d a b c:Nat):TS:=fg (IF d) (IF a) (eh (Qy λi j=> .int (i+j)) (bK (IF d) (IF a) (tC (.int 0))) (eh (rI MulOk λi j=> .int (i*j)) (IF c) (IF b)))
def c9 {K:AAB}{H H1:Hp}{σ0:L2.St}{D:Pu}{B c f s:Nat}{more:Int}{d n ep a:Nat}{m acc0:zy (Int×Int)}(U:B≠c)(X:B≠f)(Y:s≠c)(Z:s≠f)(n5:c≠f)(l1:c<σ0.length)(l2:f<σ0.length)(fd:Ng H d n ep (FQ m))(ha:H a=none)(J:∀b o,H b=some o->H1 b=some o)(h1:H1 a=some (.dK (FQ acc0)))(hw:σ0[B]? =some (some (.ref a)))(hm:σ0[s]? =some (some (.int more)))(ok:∀p∈m,MulOk more p.2)(hl:acc0.length+m.length<sizeLine)(L:∀σ' g,σ'.length=σ0.length->(∀j,j≠c->j≠f->σ'[j]? =σ0[j]?)->(∀b o,H b=some o->g b=some o)->g a=some (.dK (FQ (BW more acc0 m)))->D.nx σ' g):∃W:Nat->Nat->L2.St->Hp->Prop,(∃k,W 0 k σ0 H1)/\∀i k v g,W i k v g-> ((Itm d n ep).stop i g/\D.nx v g)\/((Itm d n ep).go i g/\∃N:L2.St->Hp->Prop,(∀σ' w,N σ' w->∃Q,Q<k/\W (i+1) Q σ' w)/\∀x w,(Itm d n ep).yld i g x w->UX K 2 (FO (Cz c) (FO (Cz f) QC)) x v w λl R=>Zs B c f s {D with nx:=N,ct:=N,bk:=D.nx} l R):=by
 let W:Nat->Nat->L2.St->Hp->Prop:=λi k v g=>i+k=m.length/\(v.length=σ0.length/\∀j,j≠c->j≠f->v[j]? =σ0[j]?)/\(∀b o,H b=some o->g b=some o)/\g a=some (.dK (FQ (BW more acc0 (m.take i))))/\(BW more acc0 (m.take i)).length<=acc0.length+i;refine⟨W,⟨m.length,ADu _,⟨rfl,λ_ _ _=>rfl⟩,J,h1,AAJ _⟩, ?_⟩;rintro i k v g ⟨hi,⟨S,T⟩,ex,M,wd⟩;have y:Ng g d n ep (FQ m):=let ⟨o,es,a,b⟩:=fd;⟨o,es,ex _ _ a,b⟩;cases k with
 | zero=> left;refine⟨⟨_,y,by unfold FQ;rw[AAL];omega⟩,L v g S T ex ?_⟩;rw[ABs (by omega)] at M;exact M
 | succ k=>
   right;have C:i<m.length:=by omega
   refine⟨⟨_,_,_,y,QM C⟩,λσ' w=>W (i+1) k σ' w,λσ' w h=>⟨k,by omega,h⟩,λx w yl=> ?_⟩;obtain⟨t,kk,xx,rfl,hn,rfl,hu⟩:=yl;have hx:=hu _ y;rw[QM C] at hx;cases hx;have z:∀b o,g b=some o->upd g t (.tup [kV (.inl m[i].1), .int m[i].2]) b=some o:=λb o e=>by rw[Ag (Au e hn)];exact e
   refine⟨t,_,rfl, .inl (.inl (.inl Ah)),rfl,_,_,rfl,_,_,rfl,rfl, ?_⟩;generalize G:(v.set c (some (kV (.inl m[i].1)))).set f (some (V.int m[i].2))=l;have A:l.length=σ0.length:=by rw[<-G];simp[S]
   have r:∀j,j≠c->j≠f->l[j]? =σ0[j]? :=λj h h'=>by rw[<-G,AAZ (AA6 h'),AAZ (AA6 h)];exact T j h h'
   have E:l[c]? =some (some (.int m[i].1)):=by rw[<-G,AAZ (AA6 n5),ACA (by omega)];rfl
   have O:l[f]? =some (some (.int m[i].2)):=by rw[<-G,ACA (by simp;omega)]
   have F:l[B]? =some (some (.ref a)):=by rw[r B U X];exact hw
   have P:l[s]? =some (some (.int more)):=by rw[r s Y Z];exact hm
   have I:=z _ _ M;generalize hH:upd g t (.tup [kV (.inl m[i].1), .int m[i].2])=R at z I;refine⟨_,F,a,rfl, .inl ⟨_, .inl I⟩,_,E,_,N1.k (k:= .inl m[i].1) I,_,P,_,O,more,m[i].2,rfl,rfl,ok _ (AC8 C), ?_⟩;rw[cy];refine⟨_,_,rfl,rfl,_,F,_,E,a,_,rfl,Tt.k (k:= .inl m[i].1) I (by unfold FQ;rw[AAL];omega),by omega,⟨A,r⟩,λb o e=> ?_, ?_, ?_⟩
   .rw [Ag (Au e ha)];exact z _ _ (ex _ _ e)
   .rw [Ah];unfold BW;rw[G3 C,WL]
   .unfold BW at wd ⊢;rw[G3 C];have:=JA ((m.take i).foldl (λu p=>Bp u p.1 (B0 u p.1+more*p.2)) acc0) m[i].1 (B0 ((m.take i).foldl (λu p=>Bp u p.1 (B0 u p.1+more*p.2)) acc0) m[i].1+more*m[i].2);omega
def tU (a:TE):TI:=λb H R=>a b H λv H1=>∃d n ep kvs,v= .ref d/\Ng H1 d n ep kvs/\R (Itm d n ep) H1
def v7 (K:AAB)(a:TE)(b c:Nat):TS:=VY (bJ (tU a) 2 [c] (UX K 2 (FO (Cz 0) (FO (Cz 1) QC))) em (IF 0) (eh (rI MulOk λi j=> .int (i*j)) (IF 2) (IF 1))) (Cz b)
def t9 (K:AAB)(d:TE)(e a b c:Nat):TS:=nW (tU d) (UX K 2 (FO (Cz a) (FO (Cz b) QC))) (Zs e a b c)
section
variable {K:AAB}{B:Ct}{T:zu->Prop}{H:Hp}{σ σ':L2.St}{τ τ':BE}
def SR.loose (s:SR K B T H σ τ)(hl:σ'.length=τ'.length)(h:∀(j:Nat) (a:AV),τ'[j]? =some (some a)->τ[j]? =some (some a)/\σ'[j]? =σ[j]?):SR K B T H σ' τ'/\∀b,Cf σ' τ' b->Cf σ τ b:=by
 have i:∀b,Cf σ' τ' b->Cf σ τ b:=λb ⟨j,xs,h1,h2⟩=>let ⟨c,d⟩:=h j _ h1;⟨j,xs,c,by rw[<-d];exact h2⟩;have l:Mv K T (mt B σ τ) H T (mt B σ' τ') H:= .anti s.va λa m=>m.elim .inl λz=> .inr (i a z);refine⟨⟨hl,λj y e=> ?_,λj f e=> ?_,λj k f r p t u n o=> ?_,s.tp,s.bm,s.bt,s.st⟩,i⟩
 .obtain ⟨c,d⟩:=h j _ e;obtain⟨w,hw,g⟩:=s.val j y c;exact⟨w,by rw[d];exact hw,g.mv l⟩
 .obtain ⟨c,d⟩:=h j _ e;obtain⟨p,vs,h1,h2,h3,v⟩:=s.own j f c;exact⟨p,vs,by rw[d];exact h1,h2,h3.mv l,v⟩
 .obtain ⟨c,d⟩:=h j _ t;obtain⟨x,b2⟩:=h k _ u;rw[d] at n;rw[b2] at o;exact s.dist j k f r p c x n o
end
def dH (x:PV)(R:zy (Int×Int)->Prop):Prop:=match x with | .dk m=>R m|_=>False
def WY {x:PV}{R:zy (Int×Int)->Prop}(h:dH x R):∃m,x= .dk m/\R m:=by cases x <;> first | exact⟨_,rfl,h⟩|exact h.elim
def Y2 (c a b e d:Nat)(f g:AE):AS:=λD τ=>(c<τ.length/\a<τ.length/\b<τ.length)/\f τ λx=>dH x λm1=>∃many,τ[e]? =some (some (.val (.int many)))/\m1.length<sizeLine/\(∀p∈m1,MulOk many p.2)/\
 g (τ.set c none) λy=>dH y λm2=>∃more,τ[d]? =some (some (.val (.int more)))/\(BX many m1).length+m2.length<sizeLine/\(∀p∈m2,MulOk more p.2)/\
 D.nx (((τ.set c (some (.val (.dk (BW more (BX many m1) m2))))).set a none).set b none)
def rM {k:Nat}{A:zk}(a:Room k A):A.units+1<cLine:=by have:=a.un;omega
section
variable {X:Cx}
def bB {e1 e2:zr}{ta tb:AE}{m p:Stmt}{rest:zy Stmt}{b:AS}{f g k im s:Nat}(n1:f≠g)(n2:f≠k)(n3:s≠g)(n4:s≠k)(n5:g≠k)(n6:s≠f)(h1:SE X e1 ta)(h2:SE X e2 tb)(p1:∀G,PE X e1 G->PS X m (v7 X.K G f im))(p2:∀G,PE X e2 G->PS X p (t9 X.K G f g k s))(h3:XG X rest b):XG X (m::p::rest) (Ad (Y2 f g k im s ta tb) b):=by
 obtain⟨t1,q1,s1⟩:=h1;obtain⟨t2,q2,s2⟩:=h2;obtain⟨t3,q3,s3⟩:=h3;refine⟨_,Ch (p1 t1 q1) (Ch (p2 t2 q2) (dm (i:=f) q3)),λB T I τ H D AD A h er=> ?_⟩;obtain⟨⟨l0,l1,l2⟩,h⟩:=h;refine s1 B T I τ H _ _ A h λv x T1 H1 m r1 h1=> ?_;obtain⟨m1,rfl,many,lR,W,Y,h1⟩:=WY h1;have u:=A.stp m;obtain⟨vm,xA,Z⟩:=u.val _ _ lR;cases Z;cases r1 with
 | dk hh eo=>
 rename_i d o es ep;have J:Ng H1 d m1.length ep (FQ m1):=⟨o,es,hh,eo,by unfold FQ;rw[AAL]⟩;refine⟨_,_,_,_,rfl,J, ?_⟩;refine cZ (K:=X.K) (Q:=λx H1=>Cz f x I H1 (ng (t9 X.K t2 f g k s) (jh f t3) D)) J xA W Y λa H2 ha ex hD=> ?_;have L:¬T1 a:=λz=>by obtain⟨o,e,_⟩:=(u.tp a z).mut;rw[ha] at e;cases e
 have M:C3 T1 H1 T1 H2:=eT u.va ex;have sr2:=u.stp M;obtain⟨N,_⟩:=sr2.loose (σ':=I.set f (some (.ref a))) (τ':=τ.set f none) (by simp[A.len]) λj c e=>by
  rcases BI e with⟨_,e',_⟩|⟨n,e'⟩
  .cases e'
  .exact ⟨e',AAZ (λz=>n z.symm)⟩
 refine s2 B T1 _ _ H2 _ _ N h1 λv2 y S F p r2 h2=> ?_;obtain⟨m2,rfl,more,lT,hsz,ok2,h2⟩:=WY h2;obtain⟨vr,xB,rvr⟩:=A.val _ _ lT;cases rvr;have kB:F a=some (.dK (FQ (BX many m1))):=p.keep _ _ L hD;have na2:¬S a:=λz=>by
  rcases p.new a z with z|z
  .exact L z
  .rw [hD] at z;cases z
 cases r2 with
 | dk U O=>
 rename_i d2 o2 P ep2;have da:d2≠a:=λz=>by subst z;rw[kB] at U;cases U
 have fd2:Ng F d2 m2.length ep2 (FQ m2):=⟨o2,P,U,O,by unfold FQ;rw[AAL]⟩;refine⟨_,_,_,_,rfl,fd2, ?_⟩;let H0:Hp:=λb=>if b=a then none else F b
 have C:(I.set f (some (V.ref a))).length=τ.length:=by simp[A.len]
 refine c9 (K:=X.K) (H:=H0) (H1:=F) (σ0:=I.set f (some (V.ref a))) (D:={D with nx:=jh f t3 D}) (acc0:=BX many m1) (a:=a) (more:=more) n1 n2 n3 n4 n5 (by rw[C];exact l1) (by rw[C];exact l2) ⟨o2,P,(AAD da).trans U,O,by unfold FQ;rw[AAL]⟩ (AAE rfl) (λb o e=> ?_) kB ?_ ?_ ok2 hsz λσ' H4 sl so R wK=> ?_
 .by_cases z:b=a
  .rw [show H0 b=none from AAE z] at e;cases e
  .rw [show H0 b=F b from AAD z] at e;exact e
 .rw [ACA (by rw[A.len];exact l0)]
 .rw [AAZ (λz=>n6 z.symm)];exact xB
 refine⟨a,_, ?_,wK,λo es ep eo=> ?_⟩
 .rw [so f n1 n2,ACA (by rw[A.len];exact l0)]
 have l:C3 T H S F:=(m.trans M).trans p;have St:C3 T H S (upd H4 a (.frz o (.dK (FQ (BW more (BX many m1) m2))))):=by
  refine⟨λb q nt e=> ?_,l.sub,l.new,λx t=> ?_⟩
  .have z:b≠a:=λz=>by subst z;have:=m.keep _ _ nt e;rw[ha] at this;cases this
   rw[Ag z];exact R b q ((AAD z).trans (l.keep b q nt e))
  .have z:x≠a:=λz=>by subst z;exact na2 t
   obtain⟨d,w,e,r⟩:=l.tp x t;exact⟨d,w,by rw[Ag z];exact R _ _ ((AAD z).trans e),r⟩
 have sr5:=A.stp St;have sr6:=sr5.set (i:=f) (v:= .ref a) (x:= .dk (BW more (BX many m1) m2)) (.dk Ah eo);obtain⟨sr7,ow⟩:=sr6.loose (σ':=σ') (τ':=((τ.set f (some (.val (.dk (BW more (BX many m1) m2))))).set g none).set k none) (by rw[sl,C];simp) λj c e=>by
  rcases BI e with⟨_,e',_⟩|⟨k2,e'⟩
  .cases e'
  .rcases BI e' with⟨_,E,_⟩|⟨k1,E⟩
   .cases E
   .exact ⟨E,so j k1 k2⟩
 exact s3 B S σ' _ _ D AD sr7 h2 (er.shift (St.prog.trans (.less λb z=>Cg (ow b z))))
end
end PL
namespace L2
open PySem PySem.Spec PyProof.Rows
def pN (K:AAB)(l:zu):It:=
 ⟨λi H=>∃xs x,Fe K H l xs/\xs[i]? =some x,
  λi H v a=>∃T x,v= .ref T/\H T=none/\a=upd H T (.tup [.int i,x])/\∀xs,Fe K H l xs->xs[i]? =some x,
  λi H=>∃xs,Fe K H l xs/\xs.length<=i⟩
def YR {P:zp}{w:zm}{K:AAB}{es:zy zr}{J:Nat}{pos:Pos}{e it l:zu}(C:e≠it):Jf P w K (.Tuple es J pos) (pN K l) [e,it] e (λk h=>(∃b,IsEnum h e it (k:Nat) b)/\h.IsListIter it l k) where
 mem:=by simp
 obj:=λk h st p hp=>by
  obtain⟨⟨b,he⟩,hi⟩:=st;have f:p=e\/p=it:=by simpa using hp
  rcases f with q|q
  .subst q;exact⟨_,he,λv z=>nomatch z⟩
  .subst q;obtain⟨o,a,c,d⟩:=hi;exact⟨o,a,λv z=>by rw[d] at z;cases z⟩
 keep:=λk h h' st j=>by obtain⟨⟨b,he⟩,hi⟩:=st;exact⟨⟨b,j e (by simp) _ he⟩,hi.at λo a=>j it (by simp) o a⟩
 item:=by
  intro X r hw t hc k D s F H E I m st y;subst r hw t;obtain⟨⟨b,he⟩,hi⟩:=st;obtain⟨xs,x,n,hx⟩:=y;obtain⟨A,rv,p,L⟩:=I.list n;obtain⟨u,hu,M⟩:=rv.get hx;have i:e<s.heap.objs.size:=AAF he;have B:it<s.heap.objs.size:=by obtain⟨o,a,_⟩:=id hi;exact AAF a
  refine wpAny_pyNext_enum_item he hi p.isList (x:=u) (by simpa using hu) C λh1 N O Q a4 R=> ?_;refine⟨_,rfl,wpAny_letOwnedTupleGo_enum (s:={s with heap:=h1,toks:=s.toks+1}) N λh2 S T=> ?_⟩;have g:∀p o,p≠e->h1.get? p=some o->h2.get? p=some o:=λp o q z=>T.extBut _ _ q z;have G:∀p∈ [e,it],p<s.heap.objs.size:=λp hp=>by
   have f:p=e\/p=it:=by simpa using hp
   rcases f with q|q
   .rw [q];exact i
   .rw [q];exact B
  have j:∀p o,p ∉ [e,it] ->s.heap.get? p=some o->h2.get? p=some o:=λp o hp z=>by
   have f:p≠e/\p≠it:=by simpa using hp
   exact g p o f.1 (R p o f.1 f.2 z)
  have U:Inv X D F (upd H s.heap.objs.size (.tup [.int k,x])) {s with heap:=h2,toks:=s.toks+1}:=I.turnedN m G j (AAJ _)
   ⟨(by show 2<=sizeLine;decide), [.int k s.toks,u], .cons ⟨_,rfl⟩ (.cons M .nil),⟨_,g _ _ (AAj i) Q,rfl,_,rfl⟩⟩
  have W:H s.heap.objs.size=none:=I.fresh;refine⟨.ref s.heap.objs.size,upd H s.heap.objs.size (.tup [.int k,x]),U,rfl,⟨_,x,rfl,W,rfl,λY h'=> ?_⟩,⟨⟨u, ?_⟩, ?_⟩,λp hp=> ?_⟩
  .rw [I.list_inj h' n];exact hx
  .have:((k+1:Nat):Int)=(k:Int)+1:=by push_cast;rfl
   rw[this];exact S
  .exact O.at λo z=>g it o C.symm z
  .rw [Ag (AAK (G p hp))];exact(m p hp).1
 done:=by
  intro X r hw t hc k D s F H E I m st y;subst r hw t;obtain⟨⟨b,he⟩,hi⟩:=st;obtain⟨xs,n,hx⟩:=y;obtain⟨A,rv,p,L⟩:=I.list n;have hl:=rv.length;refine wpAny_pyNext_enum_end (I.ok.hd hc) he hi p.isList (by simp;omega) λh' Z=>⟨rfl, ?_⟩;exact I.turnedL (t':=s.toks) m λp o hp z=>by
   have f:p≠e/\p≠it:=by simpa using hp
   exact Z p o f.2 z
 self:=λ_ _ _ _ _ st h=>by obtain⟨⟨b,he⟩,_⟩:=st;exact wpAny_pyIter_enum he h
section
variable {X:Cx}
def lZ (K:AAB)(a:TA):TI:=λb H R=>a b H λvs H1=>∃l,vs= [.ref l] /\(∃xs,Fe K H1 l xs)/\R (pN K l) H1
def dU {e:zr}{d:TA}{p pos b:Pos}{es:zy zr}{i:Nat}(j:Gl X "enumerate")(k:X.mg "enumerate" =none)(ha:PA X [e] d)(hs:starEach [e] X.env= [(false,eval e X.env)] :=by rfl):PI X (.Tuple es i b) (.Call (.Name "enumerate" p) [e] [] pos) (lZ X.K d):=by
 intro m s n H R I h;refine Call_ (Hi I j k boot_enumerate (ACB (BY (ha pos m s n H _ I h) λx a ⟨vs,H1,c,o,t⟩=> ?_) (by rw[hs];rfl) rfl));obtain⟨l,rfl,⟨xs,hl⟩,q⟩:=t;cases o with
 | cons r u=>
 cases u;cases r;obtain⟨v,rv,p,y⟩:=c.list hl;refine call_enumerate_list p.isList λh' f b2 z w=> ?_;refine wpAny_pyIter_enum f ?_;have g:∀p∈ [a.heap.objs.size+1,a.heap.objs.size],a.heap.objs.size<=p:=λp hp=>by
  have A:p=a.heap.objs.size+1\/p=a.heap.objs.size:=by simpa using hp
  omega
 exact⟨_,_,_,_,H1,rfl,c.kept (t':=a.toks) w,YR (Nat.succ_ne_self _),⟨⟨.none,f⟩,b2⟩,λp hp=>c.fpOk (g p hp) (c.hok.fresh (g p hp)),q⟩
end
end L2
namespace PL
open PySem PySem.Spec PyProof.Rows L2
def EU (k:Nat):zy PV->zy PV
 | [] => []
 | x::r=> .tup [.int k,x] :: EU (k+1) r
theorem Ou:∀(xs:zy PV) (k:Nat),(EU k xs).length=xs.length
 | [],_=>rfl
 | _::r,k=>by rw[EU,AAe,Ou r,AAe]
theorem Jk:∀(xs:zy PV) (k i:Nat) (z:PV),(EU k xs)[i]? =some z->∃x,xs[i]? =some x/\z= .tup [.int ((k+i:Nat):Int),x]
 | [],_,_,_,h=>by simp[EU] at h
 | x::r,k,0,z,h=>⟨x,rfl,by simp[EU] at h;rw[<-h];rfl⟩
 | x::r,k,i+1,z,h=>by obtain⟨y,h1,h2⟩:=Jk r (k+1) i z (by simpa[EU] using h);refine⟨y,by simpa using h1, ?_⟩;rw[h2,show k+1+i=k+(i+1) by omega]
def Xs {K:AAB}{T M:zu->Prop}{H:Hp}{l:zu}{xs:zy PV}(va:Jg T M H)(r:CZ K T M H (.ref l) (.lst xs)):Rq K M (pN K l) (EU 0 xs) T H:=by
 obtain⟨a,vs,e,f,m,n,b⟩:=Ed r;cases e;have c:Fe K H l vs:= .inl (.inl f);refine⟨λi z h=> ?_,λi z v s h g=> ?_,λi h=>⟨vs,c, ?_⟩⟩
 .obtain ⟨x,hx,_⟩:=Jk xs 0 i z h;obtain⟨u,hu,_⟩:=b.get hx;exact⟨vs,u,c,hu⟩
 .obtain ⟨x,hx,rfl⟩:=Jk xs 0 i z h;obtain⟨p,u,rfl,j,rfl,hu⟩:=g;obtain⟨t,d,k⟩:=b.get' (hu vs c);rw[hx] at d;cases d;have st:=C3.lay (o:= .tup [.int (i:Nat),u]) va.tp j;rw[ADu];exact⟨st, .tup (.inl Ah) (.cons (.int _) (.cons (k.stp st va) .nil))⟩
 .rw [b.length];rw[Ou] at h;exact h
section
variable {X:Cx}
def oJ (r:AA):AI:=λτ Q=>r τ λa=>match a with | [.lst xs] =>Q (EU 0 xs)|_=>False
def nK {e:zr}{r:AA}{p pos b:Pos}{es:zy zr}{c:Nat}(d:Gl X "enumerate")(f:X.mg "enumerate" =none)(ha:SA X [e] r)(hs:starEach [e] X.env= [(false,eval e X.env)] :=by rfl):SI X (.Tuple es c b) (.Call (.Name "enumerate" p) [e] [] pos) true (oJ r):=by
 obtain⟨t,g,s⟩:=ha;refine⟨_,dU d f g hs,λB T i τ H R v j h k=>s B T i τ H _ _ j h λvs xs T1 H1 l m h1=> ?_⟩;split at h1 <;> first | exact h1.elim|skip
 cases m with
 | cons ra t=> cases t;obtain⟨a,n,rfl,o,_,_,w⟩:=Ed ra;exact⟨a,rfl,⟨n, .inl (.inl o)⟩,k _ _ T1 H1 l (λM2 x y u va _=>Xs va (ra.mv u)) h1⟩
end
end PL
namespace L2
open PySem PySem.Spec PyProof.Rows
section
variable {prog:zp}{w:zm}{A:zk}{E:zx->zw->Prop}{s:zw}
def aq {d:zx}{Q:zx->zw->Prop}(h:∀(g:zq),wpAny (model prog w) A.in1.in1 (Builtin.«set.__init__» {pos:= [.ref s.heap.objs.size,d] }) (λj b=> match j with
     | Fin.done f=>wants (λr i=>r=Value.none/\Q (.ref s.heap.objs.size) i) E (Except.ok f) b
     | Fin.again l=>l.quiet=true/\codeAny (model prog w) A.in1 l (wants (λr i=>r=Value.none/\Q (.ref s.heap.objs.size) i) E) b)
   (λe b=>wants (λr i=>r=Value.none/\Q (.ref s.heap.objs.size) i) E (Except.error e) b) {s with heap:=s.heap.push {cls:= .type "set",data:= .set #[] 0 (SetTable.fresh 0 0 g)}}):
 wpAny (model prog w) A (call (.type "set") [d]) Q E s:=by
 obtain⟨c,y,p⟩:=ACd.mro;refine ACU (codeAny_of_tree ?_)
 wp_walk
 refine⟨by kernel_rfl,ADv F.entry_type_call ?_⟩;rw[Around.under_plain (weight_type_call_type ..) rfl];show wpAny (model prog w) A.in1 (Builtin.«type.__call__» {pos:= [.type "set",d] }) _ _ s;unfold Builtin.«type.__call__»;simp only[ACd.notType,ACd.canCreate,F.typeCall_set_1,p,ACd.made,pure_bind,List.isEmpty_cons,AAu,AAh];refine AAA (AAa (ACU (ACD (code_set_new_1 (Q₁:=λobj o=>∃g,obj= .ref s.heap.objs.size/\o={s with heap:=s.heap.push {cls:= .type "set",data:= .set #[] 0 (SetTable.fresh 0 0 g)}}) (E:=E) d λg=>⟨g,rfl,rfl⟩) λr o k=> ?_)));match r,k with
 | .error e,k=>exact k
 | .ok (.ret obj),k=>
   obtain⟨g,rfl,rfl⟩:=k;have t:(s.heap.push {cls:= .type "set",data:= .set #[] 0 (SetTable.fresh 0 0 g)}).get? s.heap.objs.size=some {cls:= .type "set",data:= .set #[] 0 (SetTable.fresh 0 0 g)}:=AAO _ rfl;have n:Shared.TypeIs {s with heap:=s.heap.push {cls:= .type "set",data:= .set #[] 0 (SetTable.fresh 0 0 g)}} (.ref s.heap.objs.size) "set" :=⟨_,t,rfl⟩;refine AAA (AB7 n ACd.sub ?_);simp only[ABK,AAu,AAh];refine AAA (AAa ?_);unfold callSpecial?;refine AAA (ABl n ADw.lookup ?_);refine AAa (AAA (ACG (ADw.bind _) ?_));refine AAA (ACU (codeAny_call_builtin ADw.plain F.entry_set_init (check_set_init_1 n ?_)));have back:∀(v:zx) (b:zw),(v=Value.none/\Q (.ref s.heap.objs.size) b)->wpAny (model prog w) A.in1 (pure (some v)) (λa b=>wpAny (model prog w) A.in1 (match a with
    | none=>ret (Value.ref s.heap.objs.size)
    | some r=>if (r != Value.none)=true then do
              rule "type.call.init-returned-value"
              let __do_lift <-typeNameOf r
              raiseErrorMade "TypeError" (toString "__init__() should return None, not '" ++ toString __do_lift++toString "'")
              ret (Value.ref s.heap.objs.size)
             else ret (Value.ref s.heap.objs.size)) (λj b=>
             match j with
             | Fin.done f=>
               match Except.ok f with
               | Except.ok (Flow.ret v)=>Q v b
               | Except.ok a=>False
               | Except.error e=>E e b
             | Fin.again l=>l.quiet=true/\codeAny (model prog w) A l (λr b=>
                    match r with
                    | Except.ok (Flow.ret v)=>Q v b
                    | Except.ok a=>False
                    | Except.error e=>E e b) b) (λe b=>E e b) b) (λe b=>E e b) b:=by rintro v b ⟨rfl,u⟩;refine AAC ?_;exact AAC u
   refine BY (h g) λj b m=> ?_;match j,m with
   | .done (.ret v),m=>exact back v b m
   | .again l,m=>
     refine⟨m.1,ACD m.2 λr x k=> ?_⟩;match r,k with
     | .error e,k=>exact k
     | .ok (.ret v),k=>exact back v x k
def YA {M:Model}{f:Nat->PUnit->Sem (ForInStep PUnit)}{Q:PUnit->zw->Prop}{n:Nat}(b:n=1)(h:wpAny M A (f 0 PUnit.unit) (λr a=>r=ForInStep.yield PUnit.unit/\Q PUnit.unit a) E s):wpAny M A (forIn [:n] PUnit.unit f) Q E s:=by subst b;rw[Std.Legacy.Range.forIn_eq_forIn_range'];show wpAny M A (forIn [0] PUnit.unit f) Q E s;rw[ABY];refine AAA (BY h ?_);rintro r a ⟨rfl,c⟩;show wpAny M A (forIn [] PUnit.unit f) Q E a;rw[ACH];exact AAC c
def ak (k:Int)(a:Tok):byScan (.int k a) #[] =true:=by unfold byScan;simp[Value.scannable,scanBound]
def UV (h:Int)(a:zq):∃j,(SetTable.fresh 0 0 a).freeSlot h=some (j,false):=⟨_,rfl⟩
def Xz (h:Int)(x:zx)(a:zq):∃t:SetTable,layNew (SetTable.fresh 0 0 a) #[] h x=(#[(h,x)],t,false,false)/\t.mask=7/\t.dummies= #[] /\t.place.size=1/\t.plain=true:=by obtain⟨j,e⟩:=UV h a;unfold layNew;rw[e];exact⟨_,rfl,rfl,rfl,rfl,rfl⟩
def Rx {d:zu}{o:Obj}{ep:Nat}{k:Int}{c:Tok}{v:zx}{Q:zx->zw->Prop}(hd:s.heap.get? d=some o)(hc:o.cls= .type "dict")(he:o.data= .dict #[⟨hashInt k, .int k c,v⟩] ep)(hs:(d==sysModules)=false)(q:∀(h':zl) (t:SetTable) (n:Nat),t.mask=7->t.dummies= #[] ->t.place.size=1->h'.get? s.heap.objs.size=some ⟨.type "set",none, .set #[(hashInt k, .int k c)] n t, #[]⟩->(∀b o,b<s.heap.objs.size->s.heap.get? b=some o->h'.get? b=some o)->h'.objs.size=s.heap.objs.size+1->Q (.ref s.heap.objs.size) {s with heap:=h'}):wpAny (model prog w) A (call (.type "set") [.ref d]) Q E s:=by
 obtain⟨cls,u,data,sl⟩:=o;simp only at hc he;subst hc he;refine aq λa=> ?_;have h:(s.heap.push {cls:= .type "set",data:= .set #[] 0 (SetTable.fresh 0 0 a)}).get? s.heap.objs.size=some {cls:= .type "set",data:= .set #[] 0 (SetTable.fresh 0 0 a)}:=AAO _ rfl;have i:=AAH {cls:= .type "set",data:= .set #[] 0 (SetTable.fresh 0 0 a)} hd;unfold Builtin.«set.__init__»
 wp_walk using ACG F.sub_dict_set,ACG F.sub_dict_frozenset
 refine YA rfl ?_;obtain⟨t,j,f,g,e,l⟩:=Xz (hashInt k) (.int k c) a;have x:t.tooFull=false:=by unfold SetTable.tooFull SetTable.fill;rw[f,g,e];rfl
 wp_walk
 rw[AAE (show byScan #[({hash:=hashInt k,key:=Value.int k c,val:=v}:DictEntry)][0].key #[] =true from ak k c)];show wpAny (model prog w) A.in1.in1 (do
  let __do_lift <-setAddByScan s.heap.objs.size (.int k c) (hashInt k) #[] (SetTable.fresh 0 0 a);match __do_lift with
   | some added=>pure added
   | none=>setAddHashedIn s.heap.objs.size (.int k c) (hashInt k) 99999) _ _ _
 unfold setAddByScan;simp only[j]
 wp_walk
 rw[AAE rfl];have m:d<s.heap.objs.size:=AAF hd;have p:=(ADA (s.heap.push {cls:= .type "set",data:= .set #[] 0 (SetTable.fresh 0 0 a)}) d s.heap.objs.size (Obj.putSet #[(hashInt k, .int k c)] t) (AAK m)).trans i
 wp_walk using wpAny_loadPart' p
 refine⟨rfl,AAC (AAC ⟨rfl, ?_⟩)⟩;refine q _ t 1 f g e ?_ (λb o hb r=> ?_) ?_
 .exact ACW (Obj.putSet #[(hashInt k, .int k c)] t) h rfl
 .rw [ADA _ _ _ _ (AAK hb)];exact AAH _ r
 .rw [Heap.size_update,AAq]
end
def P8:entryFor table "set.__or__" =some Builtin.«frozenset.__or__»:=
 entryFor_alias (id':="frozenset.__or__") (by kernel_rfl) (by first | rfl|decide +kernel|(unfold String.splitOn;simp +decide [String.splitOnAux])) (by decide +kernel) (by kernel_rfl)
abbrev OS (h:Int)(x:zx)(n:Nat)(t:SetTable):Obj:=⟨.type "set",none, .set #[(h,x)] n t, #[]⟩
structure T1 (t:SetTable):Prop where
 m:t.mask=7
 d:t.dummies= #[]
 p:t.place.size=1
def T1.fits {t:SetTable}(h:T1 t):t.fits 1=true:=by unfold SetTable.fits SetTable.fill;rw[h.m,h.d,h.p];rfl
def T1.room {t:SetTable}(h:T1 t):t.roomFor 1=none:=by unfold SetTable.roomFor SetTable.fill;rw[h.m,h.d,h.p];rfl
section
variable {prog:zp}{w:zm}{A:zk}{E:zx->zw->Prop}{s:zw}
def Se {S a:zu}{h:Int}{x:zx}{n:Nat}{t:SetTable}{b:zq}{Q:Unit->zw->Prop}(e:s.heap.get? S=some ⟨.type "set",none, .set #[] 0 (SetTable.fresh 0 0 b), #[]⟩)(ha:s.heap.get? a=some (OS h x n t))(ne:(S==a)=false)(c:T1 t)(q:∀g:SetTable,T1 g->Q () {s with heap:=s.heap.update S (Obj.putSet #[(h,x)] g)}):wpAny (model prog w) A (setMerge S a) Q E s:=by
 unfold setMerge;rw[AAD (by rw[ne];decide)];refine AAA (ABP ha rfl c.fits ?_);show wpAny (model prog w) A (do
  setRoomFor S 1
  let __x <-setState S;match __x with
   | (fst,f,j)=>_) Q E s
 refine AAA ?_;unfold setRoomFor;refine AAA (ABP e rfl rfl ?_);show wpAny _ _ (pure ()) _ _ _;refine AAC (AAA (ABP e rfl rfl ?_));have i:(SetTable.fresh 0 0 b).road t=SetTable.Road.slotForSlot:=by unfold SetTable.road;rw[AAD (by cases b <;> decide),c.m,c.d];rfl
 dsimp only;rw[i];exact wpAny_storeSet_of e rfl (q _ ⟨c.m,c.d,c.p⟩)
def mT {a:Type}(f:Nat->Nat)(x:a):pickOrder f #[x] = #[x] :=by show pickOrder.go f 1 0 [x] #[] = #[x];simp[pickOrder.go,Nat.mod_one]
def walk1 {b:zu}{h:Int}{x:zx}{n:Nat}{t:SetTable}{os:zy zu}{c:zt zu}{Q:Array (Int×zx)->zw->Prop}(hb:s.heap.get? b=some (OS h x n t))(a:T1 t)(q:Q #[(h,x)] s):wpAny (model prog w) A (setWalkUnseen b os c) Q E s:=by
 unfold setWalkUnseen;refine AAA (ABP hb rfl a.fits ?_);unfold setsByText;refine AAA (AAA (ADB (AAC ?_)));dsimp only;rw[AAE (by simp)];unfold setWalk;refine AAA (ABP hb rfl a.fits ?_);unfold setsByText;refine AAA (AAA (ADB (AAC ?_)));dsimp only;split
 .refine AAA (ADB (AAC ?_));dsimp only;rw[mT];exact q
 .split
  .rename_i d;exact absurd d (by show ¬(!t.plain&&decide (#[(h,x)].size>1))=true;simp)
  .refine AAA ?_;show wpAny _ _ (if (!t.led&&decide (#[(h,x)].size>1))=true then unsupported "set:maker-not-led" else pure ()) _ _ _;rw[AAD (by simp)];exact AAC (AAC q)
def X9 {M:Model}{b:Type}{x:b}{f:b->PUnit->Sem (ForInStep PUnit)}{Q:PUnit->zw->Prop}(h:wpAny M A (f x PUnit.unit) (λr a=>r=ForInStep.yield PUnit.unit/\Q PUnit.unit a) E s):wpAny M A (forIn #[x] PUnit.unit f) Q E s:=by rw[<-ACj];show wpAny M A (forIn [x] PUnit.unit f) Q E s;rw[ABY];refine AAA (BY h ?_);rintro r a ⟨rfl,c⟩;show wpAny M A (forIn [] PUnit.unit f) Q E a;rw[ACH];exact AAC c
def isInt_self (j:Int)(a:Tok):Value.isInt j (.int j a)=true:=by simp[Value.isInt]
def d5 {h:zl}{S:zu}{i:Int}{a:Tok}{n:Nat}{t:SetTable}(b:h.get? S=some (OS (hashInt i) (.int i a) n t))(c:T1 t):h.SetOf (intKind prog w) S (λk=>decide (k=i)) 1:=by
 refine⟨_,_,_,_,b, ?_,rfl, ?_, ?_, ?_,c.fits,rfl⟩
 .first | exact⟨rfl,rfl⟩|exact⟨rfl,rfl,rfl⟩|exact Or.inl rfl
 .intro e he;simp only[AAf] at he;subst he;exact⟨⟨i,isInt_self i a,rfl⟩,rfl⟩
 .intro k;simp[intKind,Value.isInt];exact eq_comm
 .simp [scanBound]
def X1 {S b:zu}{i j:Int}{l c:Tok}{n m:Nat}{t u:SetTable}{id:String}{Q:Unit->zw->Prop}(f:s.heap.get? S=some (OS (hashInt i) (.int i l) n t))(hb:s.heap.get? b=some (OS (hashInt j) (.int j c) m u))(ne:(S==b)=false)(a:T1 t)(hu:T1 u)(q:∀h',Heap.SameBut S s.heap h'->h'.SetOf (intKind prog w) S (λk=>decide (k=i)||decide (k=j)) (if i=j then 1 else 2)->Q () {s with heap:=h'}):wpAny (model prog w) A (setMerge S b (Builtin.Frozenset.unchanged id b m)) Q E s:=by
 unfold setMerge;rw[AAD (by rw[ne];decide)];refine AAA (ABP hb rfl hu.fits ?_);show wpAny (model prog w) A (do
  setRoomFor S 1
  let __x <-setState S;match __x with
   | (fst,g,v)=>_) Q E s
 refine AAA ?_;unfold setRoomFor;refine AAA (ABP f rfl a.fits ?_);dsimp only;rw[a.room];refine AAC (AAA (ABP f rfl a.fits ?_));have o:t.road u=SetTable.Road.oneByOne:=by unfold SetTable.road SetTable.fill;rw[a.d,a.p];rfl
 dsimp only;rw[o];refine AAA (walk1 hb hu ?_);refine AAA (X9 ?_);dsimp only;refine AAA (AAa (wpAny_setAddHashed_of (knd:=intKind prog w) (k:=j) (isInt_self j c) rfl (d5 f a) (by simp[scanBound]) λh' sb r=> ?_));have h:h'.get? b=some (OS (hashInt j) (.int j c) m u):=by rw[sb.2 b (λz=>by rw[z] at ne;simp at ne)];exact hb
 unfold Builtin.Frozenset.unchanged;refine AAA (AAA (wpAny_setEpoch_of h rfl hu.fits ?_));rw[AAD (by simp)];refine AAC (AAA (ABP h rfl hu.fits ?_));rw[AAD (by simp)];refine AAC ⟨rfl,AAC (q h' sb ?_)⟩;have e:(if decide (j=i)=true then 1 else 1+1)=if i=j then 1 else 2:=by
  by_cases z:i=j
  .rw [AAE z,AAE (by simp[z])]
  .rw [AAD z,AAD (by simp;exact λy=>z y.symm)]
 rw[<-e];exact r
def dO {a b:zu}{i j:Int}{e v:Tok}{n m:Nat}{t u:SetTable}{Q:zx->zw->Prop}(ha:s.heap.get? a=some (OS (hashInt i) (.int i e) n t))(hb:s.heap.get? b=some (OS (hashInt j) (.int j v) m u))(B:a≠b)(C:T1 t)(hu:T1 u)(q:∀(h':zl),h'.SetOf (intKind prog w) s.heap.objs.size (λk=>decide (k=i)||decide (k=j)) (if i=j then 1 else 2)->(∀c o,c<s.heap.objs.size->s.heap.get? c=some o->h'.get? c=some o)->Q (.ref s.heap.objs.size) {s with heap:=h'}):wpAny (model prog w) A (binaryOp .BitOr (.ref a) (.ref b)) Q E s:=by
 have D:=AAF ha;have x:=AAF hb;refine wpAny_binaryOp_same (T:="set") ⟨_,ha,rfl⟩ ⟨_,hb,rfl⟩ F.fills_set_or F.slot_set_or ?_;refine ACU (codeAny_call_builtin F.slot_set_or.plain P8 ?_);refine F.slot_set_or.check (model prog w) A.in1 _ s (.ref a) [.ref b] [] _ ⟨_,ha,rfl⟩ (F.args_set_or_2 _ _) ?_;unfold Builtin.«frozenset.__or__»
 wp_walk using ACG F.sub_set_set,ADB
 have y:∀{c:Nat},c<s.heap.objs.size->(s.heap.objs.size==c)=false:=λ{c} h=>by simp only[ADQ,ne_eq];exact λz=>absurd h (by rw[z];exact ABT _)
 show wpAny _ _ (setMerge s.heap.objs.size a) _ _ _;refine Se (AAO _ rfl) (AAH _ ha) (y D) C λf G=> ?_;have H:=AAH {cls:= .type "set",data:= .set #[] 0 (SetTable.fresh 0 0 !((model prog w).w.params.followText "set-order"))} hb;have I:((s.heap.push {cls:= .type "set",data:= .set #[] 0 (SetTable.fresh 0 0 !((model prog w).w.params.followText "set-order"))}).update s.heap.objs.size (Obj.putSet #[(hashInt i, .int i e)] f)).get? s.heap.objs.size=some (OS (hashInt i) (.int i e) 1 f):=ACW (Obj.putSet #[(hashInt i, .int i e)] f) (AAO _ rfl) rfl;have J:=(ADA _ b s.heap.objs.size (Obj.putSet #[(hashInt i, .int i e)] f) (AAK x)).trans H;have g:∀c o,c<s.heap.objs.size->s.heap.get? c=some o->((s.heap.push {cls:= .type "set",data:= .set #[] 0 (SetTable.fresh 0 0 !((model prog w).w.params.followText "set-order"))}).update s.heap.objs.size (Obj.putSet #[(hashInt i, .int i e)] f)).get? c=some o:=λc o hc l=>by rw[ADA _ _ _ _ (AAK hc)];exact AAH _ l
 refine AAC ?_;show wpAny (model prog w) A.in1 (if (Value.ref b != Value.ref a)=true then do
  let r <-holding [Value.ref s.heap.objs.size] (Builtin.Frozenset.updateFrom (toString "frozenset." ++ toString "__or__") s.heap.objs.size (Value.ref b))
  pure (Value.ref s.heap.objs.size)
  else pure (Value.ref s.heap.objs.size)) _ _ {s with heap:=(s.heap.push {cls:= .type "set",data:= .set #[] 0 (SetTable.fresh 0 0 !((model prog w).w.params.followText "set-order"))}).update s.heap.objs.size (Obj.putSet #[(hashInt i, .int i e)] f)}
 generalize (s.heap.push {cls:= .type "set",data:= .set #[] 0 (SetTable.fresh 0 0 !((model prog w).w.params.followText "set-order"))}).update s.heap.objs.size (Obj.putSet #[(hashInt i, .int i e)] f)=H1 at *;rw[AAE (by simp;exact λz=>B z.symm)];refine AAA (AAa ?_);unfold Builtin.Frozenset.updateFrom Builtin.Frozenset.isAnySet
 wp_walk using ACG F.sub_set_set
 have K:(u.place.size != #[(hashInt j,Value.int j v)].size||decide (u.fill>u.mask))=false:=by unfold SetTable.fill;rw[hu.m,hu.d,hu.p];rfl
 rw[AAD (by rw[K];decide)];refine AAC (AAC (X1 I J (y x) G hu λh' sb L=> ?_));refine AAC (AAC ⟨(λz=>nomatch z),q h' L λc o hc l=> ?_⟩);rw[sb.2 c (AAK hc)];exact g c o hc l
end
def SZ (p:zu)(k:Int)(h:zl):Prop:=∃a n t,h.get? p=some (OS (hashInt k) (.int k a) n t)/\T1 t
def cz {P:zp}{w:zm}{H:Hp}{h:zl}{p:zu}{k:Int}(x:SZ p k h):CM P w H h p (.ext (SZ p k)):=by obtain⟨a,n,t,e,y⟩:=id x;refine⟨x,⟨_,e⟩,λh1 h2 z q=> ?_⟩;obtain⟨a,n,t,e,y⟩:=z;exact⟨a,n,t,q _ e,y⟩
def m9:zy V->Hp->VK->Prop:=λxs H Q=>∃a o k v,xs= [.ref a] /\H a=some (.frz o (.dK [(.inl k,v)]))/\∀p,H p=none->Q (.ref p) (upd H p (.ext (SZ p k)))
def qp:R2:=λx y H Q=>∃a b i j,x= .ref a/\y= .ref b/\a≠b/\H a=some (.ext (SZ a i))/\H b=some (.ext (SZ b j))/\∀p,H p=none->Q (.ref p) (upd H p (.set (λk=>decide (k=i)||decide (k=j)) (if i=j then 1 else 2)))
def m7:zy V->Hp->VK->Prop:=λxs H Q=>∃a S n,xs= [.ref a] /\H a=some (.set S n)/\Q (.int n) H
section
variable {X:Cx}
def lF {P:zp}{w:zm}{H:Hp}{h:zl}{a:zu}{o:Obj}{k:Int}{v:V}(x:CM P w H h a (.frz o (.dK [(.inl k,v)]))):h.get? a=some o/\o.cls= .type "dict" /\(a==sysModules)=false/\∃n u ep,o.data= .dict #[⟨hashInt k, .int k n,u⟩] ep:=by
 obtain⟨g,z,hs,vs,d,D,es,ep,j,ex,hd,r,ps,E⟩:=x;rw[g] at j;cases j;refine⟨g,ex.1,hs, ?_⟩;cases d with
 | cons q d=>
   rename_i p vs;cases d;obtain⟨c,u⟩:=p;have s:Sum.inl k=c:=q.1;subst s;generalize l:es.toList=L at ps;cases ps with
   | cons h1 h2 h3=>
     rename_i b _;cases h3;have y:b∈es:=by rw[<-Array.mem_toList_iff,l];simp
     obtain⟨A,B,m⟩:=r b y;have C:Sum.inl k=A:=(Ax P w).inj _ _ _ h1 B;subst C;rcases BS (k:=Sum.inl k) (v:=b.key) h1 with⟨i,t,e,f⟩|⟨x,t,e,f⟩
     .cases e;refine⟨t,b.val,ep, ?_⟩;rw[hd];have:es= #[b] :=by apply Array.toList_inj.mp;rw[l]
      rw[this];obtain⟨F,G,I⟩:=b;simp only at f m;rw[f,m];rfl
     .cases e
def Op:DA X (.type "set") m9:=by intro m s p H xs w Q I r h;obtain⟨a,o,k,v,rfl,e,q⟩:=h;obtain⟨u,rfl,d⟩:=vals1 r;cases d;obtain⟨f,hc,hs,g,u,ep,hd⟩:=lF (I.hok a _ e);refine Rx f hc hd hs λh' t n i j tp l c sz=> ?_;have keep:∀b o,s.heap.get? b=some o->h'.get? b=some o:=λb o e=>c b o (AAF e) e;exact⟨.ref _,_,I.laid (a:=s.heap.objs.size) (t':=s.toks) keep (AAJ _) (cz ⟨g,n,t,l,⟨i,j,tp⟩⟩),rfl,q _ (I.hok.fresh (AAJ _))⟩
def ic:EC X (binaryOp .BitOr) qp:=by intro n s p H x y v u Q I d f h;obtain⟨a,b,i,j,rfl,rfl,ne,ha,hb,q⟩:=h;cases d;cases f;obtain⟨⟨r,t,w,g,y1⟩,_,_⟩:=I.hok a _ ha;obtain⟨⟨z,A,B,l,y2⟩,_,_⟩:=I.hok b _ hb;refine dO g l ne y1 y2 λh' m c=> ?_;have keep:∀b o,s.heap.get? b=some o->h'.get? b=some o:=λb o e=>c b o (AAF e) e;exact⟨.ref _,_,I.laid (a:=s.heap.objs.size) (o:= .set (λk=>decide (k=i)||decide (k=j)) (if i=j then 1 else 2)) (t':=s.toks) keep (AAJ _) m,rfl,q _ (I.hok.fresh (AAJ _))⟩
def XO:DA X (.builtin "len") m7:=by intro i s j H xs k Q I r h;obtain⟨a,S,n,rfl,e,q⟩:=h;obtain⟨u,rfl,b⟩:=vals1 r;cases b;obtain⟨o,es,ep,t,c,hx,hd,_,_,d,f,g⟩:=I.hok a _ e;refine call_len_set c hx hd f (by rw[show scanBound=4096 from rfl] at d;omega) ?_;rw[g];exact⟨.int n,H,I.tok _,⟨_,rfl⟩,q⟩
end
end L2
namespace PL
open PySem PySem.Spec PyProof.Rows L2
def oi (i j:Int):Nat:=if i=j then 1 else 2
def gR (a b:AE):AE:=λτ Q=>a τ λx=>match x with | .dk [(i,_)] =>b τ λy=>(match y with | .dk [(j,_)] =>Q (.int (oi i j))|_=>False)|_=>False
section
variable {X:Cx}
def jR {a b:zr}{D E:AE}{p r s c d u pos:Pos}(L:Gl X "len")(M:X.mg "len" =none)(F:Gl X "set")(G:X.mg "set" =none)(ha:SE X a D)(hb:SE X b E)(I:starEach [.BinOp (.Call (.Name "set" r) [a] [] c) .BitOr (.Call (.Name "set" s) [b] [] d) u] X.env=(false,eval (.BinOp (.Call (.Name "set" r) [a] [] c) .BitOr (.Call (.Name "set" s) [b] [] d) u) X.env)::starEach [] X.env:=by rfl)(h1:starEach [a] X.env=(false,eval a X.env)::starEach [] X.env:=by rfl)(h2:starEach [b] X.env=(false,eval b X.env)::starEach [] X.env:=by rfl):SE X (.Call (.Name "len" p) [.BinOp (.Call (.Name "set" r) [a] [] c) .BitOr (.Call (.Name "set" s) [b] [] d) u] [] pos) (gR D E):=by
 obtain⟨t,N,O⟩:=ha;obtain⟨t',w,sb⟩:=hb;refine⟨_,GS XO L M AB4 (Du (B2 ic (Gz Op F G AEK (Du N Fn h1) (he:=h1)) (Gz Op F G AEK (Du w Fn h2) (he:=h2))) Fn I) (he:=I),λB T J τ H Q AQ f h k=> ?_⟩;refine O B T J τ H _ _ f h λv x T1 H1 g P c=> ?_;split at c <;> first | exact c.elim|skip
 rename_i i _;cases P;rename_i R o1 S U d1 W;refine⟨R,_,i,_,rfl,W,λp hp=> ?_⟩;have m:=C3.lay (o:= .ext (SZ p i)) (f.stp g).tp hp;have Y:¬T1 p:=λz=>by obtain⟨o,e,_⟩:=((f.stp g).tp p z).mut;rw[hp] at e;cases e
 refine sb B T1 J τ _ _ _ ((f.stp g).stp m) c λv2 y Z H2 n r2 d=> ?_;split at d <;> first | exact d.elim|skip
 rename_i j _;cases r2;rename_i a2 o2 es2 ep2 d2 e2;refine⟨a2,_,j,_,rfl,e2,λA C=> ?_⟩;have l:H2 p=some (.ext (SZ p i)):=n.keep _ _ Y Ah;have ne:p≠A:=λz=>by subst z;rw[l] at C;cases C
 have K:=C3.lay (o:= .ext (SZ A j)) (((f.stp g).stp m).stp n).tp C;refine⟨p,A,i,j,rfl,rfl,ne,by rw[Ag ne];exact l,Ah,λp3 wr=> ?_⟩;have l3:=C3.lay (o:= .set (λk=>decide (k=i)||decide (k=j)) (if i=j then 1 else 2)) ((((f.stp g).stp m).stp n).stp K).tp wr;refine⟨p3,_,_,rfl,Ah, ?_⟩;exact k _ _ Z _ ((((g.trans m).trans n).trans K).trans l3) (.int _) d
end
end PL
namespace L2
open PySem PySem.Spec PyProof.Rows
structure Pw (K:AAB) (x qual:Str) (st:Stmt) (f:Addr) (fd:FuncData) (d:Int):Prop where
 ex:∃(oc:Value) (od:Option Addr) (kV doc pm:Value) (an:Option Addr) (cdv ct:Value) (osl:Array (Option Value)) (t:Addr),
  fd=PySem.W.fnOf x qual (Dt st) (B8 st) (Aq st) (.ref t) kV doc pm an cdv ct/\K.lookup f=some ⟨oc,od, .func fd,osl⟩/\PySem.W.codeIn K cdv qual=true/\∃o tk n,K.lookup t=some o/\o.data= .seq #[.int d tk] n
 kp:PySem.W.keepIn K (.ref f)=true
structure T9 (P:Program) (w:World) (K:AAB) (mg:Str->Option Value) (base:Heap) (k:Nat) (x:Str) (ps:List Str) (d:Int) (sp:Sp):Prop where
 ex:∃f fd tk,mg x=some (.ref f)/\PySem.W.keepIn K (.ref f)=true/\Binds K fd ps [.int d tk] /\Dg P w K mg base MC k f fd ps sp
def T9.mono {P:zp}{w:zm}{K:AAB}{mg:Str->zt zx}{base:zl}{j k:Nat}{x:Str}{ps:zy Str}{d:Int}{sp:Sp}(h:T9 P w K mg base j x ps d sp)(hk:j<=k):T9 P w K mg base k x ps d sp:=by obtain⟨f,e,g,a,b,c,d⟩:=h.ex;exact⟨f,e,g,a,b,c,d.mono hk⟩
section
variable {P:zp}{w:zm}{K:AAB}{mg:Str->zt zx}{base:zl}
def Pw.ok {x qual:Str}{st:Stmt}{f:zu}{b:FuncData}{d:Int}{N ps:zy Str}{k:Nat}{sp:Sp}(F:Pw K x qual st f b d)(S:DP N ps (Aq st))(len:∀vs H Q E,sp vs H Q E->vs.length=ps.length)(c:∀(a:zx) (A:zk) (outer:zy Env) (s:zw) (H:Hp) (vs:zy V) (Q:VK) (E:XK),Room k (A.deeper (envOfC qual (Aq st) s.heap.objs.size f a))->sp vs H Q E-> ∃t,Rr (OB MC P w K mg base N qual (Aq st) f a A outer s H E).nox (B8 st) t/\t {nx:=λ_ e=>Q .non e,rt:=Q} (start N vs) H):Dg P w K mg base MC (k+1) f b ps sp:=by obtain⟨o,p,kV,g,r,u,a,ct,i,t,rfl,j,l,_⟩:=F.ex;refine fP j l S len λA outer s H vs Q E m n=> ?_;obtain⟨t,h,q⟩:=c a A outer s H vs Q E m n;exact⟨t,h.nox,q⟩
def Pw.binds3 {x qual:Str}{st:Stmt}{f:zu}{m:FuncData}{d:Int}{a b c:Str}(F:Pw K x qual st f m d)(h:∀(t:zu) (kV e i:zx) (j:zt zu) (g ct:zx) (u v:zx),∃k:zt (Array zx)->Sem (zy (Str×zx)),bindArgs (PySem.W.fnOf x qual (Dt st) (B8 st) (Aq st) (.ref t) kV e i j g ct) ⟨[u,v], []⟩=seqItems? (.ref t) >>= k/\∀z,k (some #[z])=pure [(a,u),(b,v),(c,z)]):∃l,Binds K m [a,b,c] [.int d l] :=by
 obtain⟨B,C,kV,e,i,j,g,ct,r,t,rfl,D,E,o,l,n,y,A⟩:=F.ex;refine⟨l,λs p X hl=> ?_⟩;have hl:p.length=2:=by simpa using hl
 match p,hl with
 | [u,v],_=> obtain⟨k,h1,h2⟩:=h t kV e i j g ct u v;exact BindsTo.of_defaults (T:=t) rfl (X _ _ y) A h1 (h2 _)
end
section
variable {X:Cx}{x:Str}{p pos:Pos}{e:zr}{es:zy zr}{t:TA}{k:Nat}{ps:zy Str}{d:Int}{sp:Sp}
def dS (D:T9 X.prog X.w X.K X.mg X.base k x ps d sp)(a:Room k X.A)(b:Gl X x)(ha:PA X (e::es) t)(hs:starEach (e::es) X.env=(false,eval e X.env)::starEach es X.env:=by rfl)(hpl:(backTo pos (starEach es X.env)).any (·.1)=false:=by rfl)(hd:(x==("__debug__" :Str))=false:=by decide):PE X (.Call (.Name x p) (e::es) [] pos) (bH sp [.int d] E0 t):=by obtain⟨f,j,c,g,h,i,G⟩:=D.ex;exact Wb G a b g h i (.cons ⟨c,rfl⟩ .nil) fX ha (hdb:=hd) (he:=hs) (hpl:=hpl)
end
end L2
namespace PL
open PySem PySem.Spec PyProof.Rows L2
def Y0 (n:Nat)(F:AF)(d:Int)(r:AA):AE:=λτ Q=>r τ λxs=>(xs ++ [PV.int d]).length=n/\F (xs ++ [.int d]) Q
section
variable {X:Cx}
theorem A3.snoc {K:AAB}{T M:zu->Prop}{H:Hp}:∀{vs:zy V} {xs:zy PV} {v:V} {x:PV},A3 K T M H vs xs->CZ K T M H v x->A3 K T M H (vs ++ [v]) (xs ++ [x])
 | [], [],_,_,_,r=> .cons r .nil
 | _::_,_::_,_,_, .cons h t,r=> .cons h (A3.snoc t r)
def ao {x:Str}{p pos:Pos}{e:zr}{es:zy zr}{k n:Nat}{ps:zy Str}{d:Int}{F:AF}{r:AA}(D:T9 X.prog X.w X.K X.mg X.base k x ps d (Ci X.K n F))(f:Room k X.A)(g:Gl X x)(ha:SA X (e::es) r)(hs:starEach (e::es) X.env=(false,eval e X.env)::starEach es X.env:=by rfl)(hpl:(backTo pos (starEach es X.env)).any (·.1)=false:=by rfl)(hd:(x==("__debug__" :Str))=false:=by decide):SE X (.Call (.Name x p) (e::es) [] pos) (Y0 n F d r):=by obtain⟨t,i,s⟩:=ha;refine⟨_,dS D f g i hs hpl hd,λB T j τ H Q l b h k=>s B T j τ H _ _ b h λvs xs T1 H1 c o h1=> ?_⟩;exact⟨T1,_,_,l,(b.stp c).va,λa m=>(b.stp c).nt m,o.snoc (.int d),h1.1,h1.2,λv x u y z C q=>k v x u y (c.trans z) C q⟩
end
section
variable {P:zp}{w:zm}{K:AAB}{mg:Str->zt zx}{base:zl}
def ZL {x qual:Str}{st:Stmt}{f:zu}{i:FuncData}{d:Int}{N ps:zy Str}{k n:Nat}{b:AS}(F:Pw K x qual st f i d)(S:DP N ps (Aq st))(j:n=ps.length)(l:∀(a:zx) (A:zk) (outer:zy Env) (s:zw) (H:Hp) (E:XK),Room k (A.deeper (envOfC qual (Aq st) s.heap.objs.size f a))-> XG (OB MC P w K mg base N qual (Aq st) f a A outer s H E).nox (B8 st) b):Dg P w K mg base MC (k+1) f i ps (Ci K n (Ap N.length b)):=by
 refine F.ok S (λvs H Q E h=> ?_) (λa A outer s H vs Q E m h=> ?_)
 .obtain ⟨T,M,xs,o,_,_,r,hl,_⟩:=h;rw[r.length,hl,j]
 .obtain ⟨T,M,xs,o,va,c,r,hl,hF,hQ⟩:=h;obtain⟨t,p,u⟩:=l a A outer s H E m;refine⟨t,p,u ⟨T,H,M⟩ T _ _ H _ _ (TX va c r) hF ⟨λe g σ' τ' _ y q=> ?_,λ_ _ _ _ _ _ q=>q.elim,λ_ _ _ _ _ _ q=>q.elim,λv x e g z B q=>hQ v x e g z B q⟩⟩;exact hQ _ _ e g y.st .non q
end
end PL
namespace L2
open PySem PySem.Spec PyProof.Rows PySem.W
theorem ints_of {P:zp}{w:zm}:∀{vs:zy (B4×zx)} {m:zy (Int×Int)} {a:zy zx},KV (m.map λp=>((.inl p.1:B4),V.int p.2)) vs->a.length=vs.length->(∀(j:Nat) v,a[j]? =some v->∃k x,vs[j]? =some (k,x)/\(Ax P w).is k v=true)->IntsAre a (m.map (·.1))
 | [], [], [],_,_,_=> .nil
 | [], [],u::a,_,hl,_=>by simp at hl
 | v::vs,m::ms, [],_,hl,_=>by simp at hl
 | v::vs,m::ms,u::a,r,hl,h=>by
   cases r with
   | cons c d=> obtain⟨k,x,f,g⟩:=h 0 u rfl;cases f;obtain⟨b,_⟩:=c;dsimp only at b;subst b;have q:RelV (kV (.inl m.1)) u:=Zj g;obtain⟨t,rfl⟩:=q;exact .cons _ t (ints_of d (by simpa using hl) λj v e=>by simpa using h (j+1) v (by simpa using e))
def VA:zy V->Hp->VK->Prop:=λxs H Q=>∃a o es ep,∃m:zy (Int×Int),xs= [.ref a] /\H a=some (.frz o (.dK (m.map λp:Int×Int=>((.inl p.1:B4),V.int p.2))))/\o.data= .dict es ep/\m.length<64/\∀(p:zu) (ns:zy Int),H p=none->ns.Perm (m.map (·.1))->ns.Pairwise (· <= ·)->Q (.ref p) (upd H p (.lst (ns.map V.int)))
section
variable {X:Cx}
def N9 {P:zp}{w:zm}{A:zk}{E:zx->zw->Prop}{s:zw}{T:String}{r d:zu}{n:Nat}{j:Nat->zx->Prop}{u:zl->Prop}{R:zy zx->zw->Prop}(K:KdlSrc P w T r d n j u)(z:A.handled=none)(hok:u s.heap)(B:n<=sizeLine)(h:∀(h':zl) (g:Nat) (a:Array zx),s.heap.objs.size<=h'.objs.size->(∀b o,s.heap.get? b=some o->h'.get? b=some o)->ItemsOf j a n->R a.toList {s with heap:=h',toks:=g}):wpAny (model P w) A (collect (.ref r)) R E s:=by
 obtain⟨C,D⟩:=K.there _ hok;unfold collect;refine AAA (wpAny_runValue (ADv entry_proto_collect' ?_));rw[Around.under_plainId PySem.F.plain_proto_collect _];refine AAA (m:=newList []) (ABE ?_);refine AAC ⟨plainId_quiet AEL _,ADv entry_list_iadd' ?_⟩;rw[Around.under_plainId AEL _];have k:(s.heap.push {cls:= .type "list",data:= .seq ([] :zy zx).toArray}).get? s.heap.objs.size=some {cls:= .type "list",data:= .seq #[] }:=AAO _ rfl;have l:∀(h':zl) (g:Nat) (a:Array zx) (c:Nat),(∀b o,b≠s.heap.objs.size->(s.heap.push {cls:= .type "list",data:= .seq ([] :zy zx).toArray}).get? b=some o->h'.get? b=some o)->h'.get? s.heap.objs.size=some {cls:= .type "list",dict:=none,data:= .seq a c,slots:= #[] }->ItemsOf j a n->
  wpAny (model P w) A (load s.heap.objs.size >>= λo=>match o.data with | .seq xs _=>pure xs.toList|_=>unsupported "internal:collect") R E {s with heap:=h',toks:=g}:=λh' g a c p i it=>
  AAA (wpAny_load i (AAC (h h' g a (AB9 (AAF i)) (λb o e=>p b o (AAK (AAF e)) (AAH _ e)) it)))
 refine ABM (kdl_extend (A:=A) (s:={s with heap:=s.heap.push {cls:= .type "list",data:= .seq ([] :zy zx).toArray}}) (R:=λq t=>match q with | .ok (.ret v)=>v= .ref s.heap.objs.size/\wpAny (model P w) A (load s.heap.objs.size >>= λo=>match o.data with | .seq xs _=>pure xs.toList|_=>unsupported "internal:collect") R E t|_=>False)
  K z (K.keep _ _ hok λb _ o e=>AAH _ e) s.heap.objs.size (AAj C) (AAj D) (.ref s.heap.objs.size) 0 k (λh' g a c p i it=>⟨rfl,l h' g a c p i it⟩) B) (λf t x=> ?_) λe t x=>x.elim
 cases f with
 | done f=>
   cases f with
   | ret v=> obtain⟨rfl,y⟩:=x;exact y
   | _=>exact x.elim
 | again c=>
   refine⟨x.1,ACD x.2 λq G y=> ?_⟩;cases q with
   | error e=>exact y.elim
   | ok f=>
     cases f with
     | ret v=> obtain⟨rfl,y⟩:=y;exact y
     | _=>exact y.elim
def UI (hc:X.calm=true):DA X (.builtin "sorted") VA:=by
 intro O s R H xs g Q I r h;obtain⟨a,o,es,ep,m,rfl,e,hd,S,q⟩:=h;obtain⟨u,rfl,C⟩:=vals1 r;cases C;have D:Ng H a m.length ep (m.map λp:Int×Int=>((.inl p.1:B4),V.int p.2)):=⟨o,es,e,hd,by rw[AAL]⟩;obtain⟨vs,d,E⟩:=D.at I;have T:vs.length=m.length:=by have:=d.length;rw[AAL] at this;exact this.symm
 obtain⟨U,W,F⟩:=QN I (.inl ⟨_, .inr ⟨o,e⟩⟩);refine Calls.call_function_entry kind_sorted plain_sorted entry_sorted (args_sorted1 _) ?_;unfold Builtin.«sorted»;refine AAA (m:=checkCount "sorted" 1 1 _) (AAC ?_);refine AAA (N9 (A:=X.A.in1) (kdl_dict (knd:=Ax X.prog X.w) (kvs:=vs) (ep:=ep) F) (I.ok.hd hc) E (by rw[ACT];omega) λh' G c l hk x=> ?_);have hl:c.toList.length=vs.length:=by rw[AB6];exact x.1
 have J:IntsAre c.toList (m.map (·.1)):=ints_of (P:=X.prog) (w:=X.w) d hl λj v z=>x.2 j v (by rw[<-Array.getElem?_toList];exact z);refine AAA (wpAny_newList ?_ (by rw[hl,ACT];omega));have f:(h'.push (seqObj "list" c.toList.toArray 0)).get? h'.objs.size=some (seqObj "list" c.toList.toArray 0):=AAO _ rfl;refine AAA (AAa (AA0 slot_list_sort ⟨_,f,rfl⟩ entry_list_sort (list_sort_tree f J (by omega) λout i K y L=>⟨_,rfl, ?_⟩) (args_list_sort _)));refine AAC ⟨_,rfl, ?_⟩;obtain⟨ne,M⟩:=sortedHeap_at (out:=out) f;have hsz:h'.objs.size<(h'.push (seqObj "list" c.toList.toArray 0)).objs.size:=AAF f;have keep:∀b k,s.heap.get? b=some k->(sortedHeap (h'.push (seqObj "list" c.toList.toArray 0)) h'.objs.size c.toList out).get? b=some k:=λb k z=>by have B:=AAF (hk _ _ z);rw[sortedHeap_old (AAK B) (ACX B hsz),AAH _ (hk _ _ z)]
 have vals:∀{g:zy zx} {ns:zy Int},IntsAre g ns->Ay (ns.map V.int) g:=λh=>by
  induction h with
  | nil=>exact .nil
  | cons n t h N=>exact .cons ⟨t,rfl⟩ N
 refine⟨.ref _,_,I.laid (a:=h'.objs.size) (o:= .lst (i.map V.int)) (t':=G) keep l ⟨?_,out.toList,ne,vals K,by rw[M]⟩,rfl,q _ _ (I.hok.fresh l) y L⟩;rw[AAL,y.length_eq,AAL,ACT];omega
end
end L2
namespace PL
open PySem PySem.Spec PyProof.Rows L2
def ZS:AF:=λxs Q=>match xs with | [.dk m] =>m.length<64/\∀ns:zy Int,ns.Perm (m.map (·.1))->ns.Pairwise (· <= ·)->Q (.lst (ns.map PV.int))|_=>False
theorem PD {K:AAB}{T M:zu->Prop}{H:Hp}:∀ns:zy Int,A3 K T M H (ns.map V.int) (ns.map PV.int)
 | [] => .nil
 | n::ns=> .cons (.int n) (PD ns)
def ah {X:Cx}(hc:X.calm=true):DA X (.builtin "sorted") VA/\GK X.K VA ZS:=by
 refine⟨UI hc,λT M H vs xs Q g va r h k=> ?_⟩;match xs,r,h with
 | [.dk m], .cons (.dk (a:=a) (o:=o) (es:=es) (ep:=ep) hh e) .nil,h=>
   refine⟨a,o,es,ep,m,rfl,hh,e,h.1,λp ns hp b c=> ?_⟩;have l:=C3.lay (o:= .lst (ns.map V.int)) va.tp hp;have d:¬T p:=λz=>by obtain⟨o,e,_⟩:=(va.tp p z).mut;rw[hp] at e;cases e
   have f:¬M p:=λz=>by obtain⟨o,e,_⟩:=va.mu p z;rw[hp] at e;cases e
   exact k _ _ T _ l (.lst Ah d f (PD ns)) (h.2 ns b c)
end PL
namespace L2
open PySem PySem.Spec PyProof.Rows
def pR (d:zu)(n ep:Nat):It:=
 ⟨λi H=>∃kvs k x,Ng H d n ep kvs/\kvs[i]? =some (k,x),
  λi H v a=>a=H/\∀kvs,Ng H d n ep kvs->∃k,kvs[i]? =some (k,v),
  λi H=>∃kvs,Ng H d n ep kvs/\kvs.length<=i⟩
def YT {P:zp}{w:zm}{K:AAB}{B:zr}{it d:zu}{n ep:Nat}:Jf P w K B (pR d n ep) [it] it (λk h=>h.IsValIter it d k n ep) where
 mem:=by simp
 obj:=λk h st p hp=>by
  obtain⟨o,i,hc,hd⟩:=st;have c:p=it:=by simpa using hp
  subst c;exact⟨o,i,λv z=>by rw[hd] at z;cases z⟩
 keep:=λk h h' st C=>st.at λo e=>C it (by simp) o e
 item:=by
  intro X j hw l hc k t s y H E I g st m;subst j hw l;obtain⟨kvs,D,x,b,hx⟩:=m;obtain⟨vs,a,r⟩:=b.at I;have hl:vs.length=n:=by obtain⟨_,_,_,_,e⟩:=b;rw[<-e];exact a.length.symm
  subst hl;obtain⟨u,hu,F⟩:=Zl a hx;refine wpAny_pyNext_values_item st r hu λh1 f sb=> ?_;refine⟨_,rfl, ?_⟩;obtain⟨o,i,G,hd⟩:=id f;refine WD (s:={s with heap:=h1}) i G hd (by decide) ?_;have J:Inv X t y H {s with heap:=h1,toks:=s.toks}:=I.turnedL (t':=s.toks) g λp o hp z=>by
   have c:p≠it:=by simpa using hp
   exact sb.extBut p o c z
  exact⟨x,H,J,F,⟨rfl,λA h'=>⟨D,by rw[h'.one b];exact hx⟩⟩,f,λp hp=>(g p hp).1⟩
 done:=by
  intro X j hw l hc k t s y H E I g st m;subst j hw l;obtain⟨kvs,b,hx⟩:=m;obtain⟨vs,a,r⟩:=b.at I;have hl:vs.length=n:=by obtain⟨_,_,_,_,e⟩:=b;rw[<-e];exact a.length.symm
  have M:=a.length;subst hl;refine wpAny_pyNext_values_end (I.ok.hd hc) st r (by rw[AEI];omega) λh' L=>⟨rfl, ?_⟩;exact I.turnedL (t':=s.toks) g λp o hp z=>by
   have c:p≠it:=by simpa using hp
   exact L p o c z
 self:=λ_ _ _ _ _ st h=>wpAny_pyIter_valiter st h
section
variable {X:Cx}
def dW {A e:zr}{t:TE}{apos f:Pos}(he:PE X e t)(hb:attributeBase e "values" X.env (eval e X.env)=eval e X.env)(B:((backTo f (starEach [] X.env)).all (λx=> !x.1)&&(backToKw f (keywordEach [] X.env)).all (λx=>x.1.isSome)&&decide (([] :zy zr).length+([] :zy Keyword).length+(if ([] :zy Keyword).isEmpty then 0 else 1)<30))=true)(hl:(apos.endLine==f.line)=true)(C:backTo f (starEach [] X.env)= []):PI X A (.Call (.Attribute e "values" apos) [] [] f) (λk H R=>t k H λv H1=>∃d n ep kvs,v= .ref d/\Ng H1 d n ep kvs/\R (pR d n ep) H1):=by
 intro D s k H R I h;refine ADs hb B hl ADt AEM PySem.F.type_dict_values (BY (he D s k H _ I h) λu g ⟨x,H1,i,E,d,n,ep,kvs,ex,l,G⟩=> ?_);subst ex;obtain rfl:u=Value.ref d:=E;obtain⟨vs,m,y⟩:=l.at i;have J:vs.length=n:=by obtain⟨_,_,_,_,e⟩:=l;rw[<-e];exact m.length.symm
 obtain⟨o,K,L,S,_⟩:=id l;obtain⟨M,N,O⟩:=QN i (.inl ⟨kvs, .inr ⟨o,L⟩⟩);have z:g.heap.DictOf (Ax X.prog X.w) d vs:=let ⟨o,es,a,b,c,r⟩:=y;⟨o,es,ep,a,b,c,r⟩;refine⟨M,N, ?_⟩;rw[C];refine ACn rfl (PySem.evalArgs_none ?_);refine AC9 AEM z.typeIs PySem.F.entry_dict_values (PySem.F.args_dict_values_1 _) (meets_dict_values (Ax X.prog X.w) d O) ⟨⟨vs,z⟩, ?_⟩;have P:(g.heap.push {cls:= .type "dict_values",data:= .fields #[.ref d] }).DictAt (Ax X.prog X.w) d vs ep:=y.push _;refine wpAny_pyIter_values (s:={g with heap:=g.heap.push {cls:= .type "dict_values",data:= .fields #[.ref d] }}) (knd:=Ax X.prog X.w) (d:=d) ⟨_,AAO _ rfl,rfl,rfl⟩ P ?_;subst J;have j:(g.heap.push {cls:= .type "dict_values",data:= .fields #[.ref d] }).objs.size=g.heap.objs.size+1:=AAq ..;refine⟨_, [g.heap.objs.size+1],_,_,H1,congrArg Value.ref j,i.kept (t':=g.toks) λb T q=>AAH _ (AAH _ q),YT, ?_,λp hp=> ?_,G⟩
 .have:=AAO (g.heap.push {cls:= .type "dict_values",data:= .fields #[.ref d] }) (o:={cls:= .type "dict_valueiterator",data:= .fields #[Value.ref d,Value.int 0 0,Value.int (vs.length:Int) 0,Value.int (ep:Int) 0] }) rfl;rw[j] at this;exact⟨_,this,rfl,rfl⟩
 .have Q:p=g.heap.objs.size+1:=by simpa using hp
  subst Q;exact i.fpOk (ABA _ _) (i.hok.fresh (ABA _ _))
end
end L2
namespace PL
open PySem PySem.Spec PyProof.Rows L2
def Xu {K:AAB}{T M:zu->Prop}{H:Hp}{d:zu}{o:Obj}{es:Array DictEntry}{ep:Nat}{m:zy (Int×Int)}(va:Jg T M H)(h:H d=some (.frz o (.dK (FQ m))))(e:o.data= .dict es ep):Rq K M (pR d m.length ep) (m.map λp=> .int p.2) T H:=by
 have c:Ng H d m.length ep (FQ m):=⟨o,es,h,e,by unfold FQ;rw[AAL]⟩;have b:∀{i:Nat} {y:PV},(m.map λp=>PV.int p.2)[i]? =some y->∃p:Int×Int,y= .int p.2/\(FQ m)[i]? =some (.inl p.1, .int p.2):=λ{i y} a=>by rw[AAl] at a;obtain⟨p,hp,rfl⟩:=ACb.mp a;refine⟨p,rfl, ?_⟩;unfold FQ;rw[AAl,hp];rfl
 refine⟨λi y a=> ?_,λi y v g a f=> ?_,λi hi=>⟨_,c,by unfold FQ;simpa using hi⟩⟩
 .obtain ⟨p,_,hp⟩:=b a;exact⟨_,_,_,c,hp⟩
 .obtain ⟨p,rfl,hp⟩:=b a;obtain⟨rfl,hu⟩:=f;obtain⟨k,hx⟩:=hu _ c;rw[hp] at hx;cases hx;exact⟨C3.refl va.tp, .int _⟩
section
variable {X:Cx}
def lE (a:AE):AI:=λτ Q=>a τ λx=>match x with | .dk m=>Q (m.map λp=> .int p.2)|_=>False
def d7 {f e:zr}{c:AE}{apos a:Pos}(he:SE X e c)(hb:attributeBase e "values" X.env (eval e X.env)=eval e X.env:=by rfl)(g:((backTo a (starEach [] X.env)).all (λx=> !x.1)&&(backToKw a (keywordEach [] X.env)).all (λx=>x.1.isSome)&&decide (([] :zy zr).length+([] :zy Keyword).length+(if ([] :zy Keyword).isEmpty then 0 else 1)<30))=true:=by rfl)(hl:(apos.endLine==a.line)=true:=by rfl)(i:backTo a (starEach [] X.env)= [] :=by rfl):SI X f (.Call (.Attribute e "values" apos) [] [] a) true (lE c):=by
 obtain⟨t,j,s⟩:=he;refine⟨_,dW j hb g hl i,λB T l τ H R r n h k=>s B T l τ H _ _ n h λv x T1 H1 o p h1=> ?_⟩;split at h1 <;> first | exact h1.elim|skip
 rename_i m;cases p with
 | dk b e=> exact⟨_,_,_,_,rfl,⟨_,_,b,e,by unfold FQ;rw[AAL]⟩,k _ _ T1 H1 o (λM2 w y d va _=>Xu va (by obtain⟨t,u⟩:=d.va.noFrz b;exact d.keep _ _ t u b) e) h1⟩
end
end PL
namespace L2
open PySem PySem.Spec PyProof.Rows
def mX:V->V->Hp->VK->Prop:=λx y H Q=>∃p xs i v,x= .ref p/\y= .int i/\0<=i/\H p=some (.lst xs)/\xs[i.toNat]? =some v/\Q v H
section
variable {X:Cx}
def ZU:ko X mX:=by intro g s j H x y k l Q I b c h;obtain⟨p,xs,i,v,rfl,rfl,d,hp,hx,q⟩:=h;cases b;obtain⟨t,rfl⟩:=c;obtain⟨e,n,r,f,m⟩:=I.lst hp;obtain⟨w,ew,a⟩:=r.get hx;have hl:=r.length;have o:=Mr;have u:i.toNat<xs.length:=(AA1.mp hx).1;exact wpAny_getItem_list (x:=w) ⟨_,f,rfl,n,rfl⟩ d (by omega) (by simpa using ew) ⟨v,H,I,a,q⟩
end
end L2
namespace PL
open PySem PySem.Spec PyProof.Rows L2
section
variable {X:Cx}{e:zr}{ta:AE}{pos:Pos}
def fN (i:Nat)(c ta:AE):AS:=λD τ=>K9 i τ λxs=>c τ λk=>RY k λk=>0<=k/\k<xs.length/\RY (xs.getD k.toNat .non) λa=>ta τ λy=>RY y λb=>D.nx (τ.set i (some (.own (xs.set k.toNat (.int (a+b))))))
def eS {i:Nat}{x:Str}{ix:zr}{C:AE}{p d:Pos}(hi:SE X ix C)(he:SE X e ta)(hN:X.N[i]? =some x:=by rfl)(hv:fM X.env.scope x:=by first | exact Or.inl rfl|exact Or.inr (Or.inl rfl)|exact Or.inr (Or.inr rfl))(hd:(x==("__debug__" :Str))=false:=by decide)(P:(x==("__classdict__" :Str))=false:=by decide)(ha:∀g j new,augStore ix g j new=(do holding [new,g,j] (setItem g j new);release [new,g,j] [];pure .next):=by intros;rfl):SS X (.AugAssign (.Subscript (.Name x p) ix d) .Add e pos) (fN i C ta):=by
 obtain⟨t,Q,s⟩:=hi;obtain⟨t',n,R⟩:=he;refine⟨_,dg (M7 hN hv hd P) Q ZU n h9 JF ha,λB T E τ H D AD l h S=> ?_⟩;obtain⟨xs,e,h⟩:=P0 h;obtain⟨q,vs,F,hp,G,b0,I,nb⟩:=l.own i xs e;refine⟨.ref q,F,s B T E τ H _ _ l h λw k T1 H1 f U h1=> ?_⟩;obtain⟨k,rfl,h1⟩:=GQ h1;obtain⟨J,k1,h1⟩:=h1;obtain⟨a,K,h1⟩:=GQ h1;cases U.toI;have c:=l.stp f;have L:=f.keep _ _ I hp;have M:=G.stp f l.va;have o:k.toNat<xs.length:=by omega
 have W:k.toNat<vs.length:=by rw[G.length];exact o
 have Y:xs[k.toNat]? =some (.int a):=by rw[List.getD_eq_getElem?_getD,AAd o,ADC] at K;rw[AAd o,K]
 obtain⟨u,Z,ru⟩:=M.get Y;cases ru.toI;refine⟨q,vs,k,_,rfl,rfl,J,L,Z,R B T1 E τ H1 _ _ c h1 λw2 y T2 H2 m r4 h2=> ?_⟩;obtain⟨b,rfl,h2⟩:=GQ h2;cases r4.toI;have O:=m.keep _ _ (λz=>by
  rcases f.new q z with z|z
  .exact I z
  .rw [hp] at z;cases z) L
 have r:=c.stp m;obtain⟨v,A⟩:=r.write (i:=i) (xs:=xs) e F O (A3.set (.int (a+b)) k.toNat (M.stp m c.va));refine⟨a,b,rfl,rfl,q,vs,k,k.toNat,rfl,rfl,O, ?_,S.nx T2 _ _ _ ((f.trans m).prog.trans A) v h2⟩;unfold WO;rw[AAE J,AAE (by omega)]
end
def tE (a b:AE):AE:=λτ Q=>a τ λx=>dH x λm=>b τ λy=>RY y λk=>∃v,m.lookup k=some v/\Q (.int v)
theorem Td {k v:Int}:∀{m:zy (Int×Int)},m.lookup k=some v->JL (FQ m) (.inl k:B4)=some (.int v)
 | [],h=>by cases h
 | p::m,h=>by
   by_cases e:p.1=k
   .subst e;simp[List.lookup] at h;subst h;exact Gr (p:=((Sum.inl p.1:B4),V.int p.2)) rfl
   .have a:(k==p.1)=false:=by simpa using λz=>e z.symm
    obtain⟨b,c⟩:=p;simp only[List.lookup,a] at h;refine(Gq (p:=((Sum.inl b:B4),V.int c)) (r:=FQ m) (k:=(Sum.inl k:B4)) λz=>e ?_).trans (Td h);cases z;rfl
section
variable {X:Cx}
def nH {o i:zr}{e f:AE}{pos:Pos}{k:Nat}(n:Room k X.A)(p:SE X o e)(hi:SE X i f)(hs:gD i):SE X (.Subscript o i pos) (tE e f):=by
 obtain⟨t,r,s⟩:=p;obtain⟨t',b,u⟩:=hi;refine⟨_,dQ (rM n) r b hs,λB T g τ H Q G c h k=>s B T g τ H _ _ c h λv x T1 H1 d w h1=> ?_⟩;cases x <;> first | exact h1.elim|skip
 rename_i m;cases w;rename_i a z es ep I j;refine u B T1 g τ H1 _ _ (c.stp d) h1 λJ y C D l E h2=> ?_;obtain⟨i,rfl,v,hv,h2⟩:=GQ h2;cases E.toI;obtain⟨F,_⟩:=(c.stp d).va.noFrz j;exact⟨a, .int v,rfl, .inl ⟨FQ m, .inl i, .inr ⟨z,l.keep _ _ F j⟩,rfl,(Td hv).symm⟩,k _ _ C D (d.trans l) (.int v) h2⟩
end
section
variable {X:Cx}{a b c d e:zr}{ta tb tc td:AE}{pos:Pos}
def Bt (ha:SE X a ta)(h:starEach [a] X.env=(false,eval a X.env)::starEach [] X.env:=by rfl):SA X [a] (AB ta AL):=A4 ha IB h
def Aj (ha:SE X a ta)(hb:SE X b tb)(h:starEach [a,b] X.env=(false,eval a X.env)::starEach [b] X.env:=by rfl)(h2:starEach [b] X.env=(false,eval b X.env)::starEach [] X.env:=by rfl):SA X [a,b] (AB ta (AB tb AL)):=A4 ha (Bt hb h2) h
def DL (ha:SE X a ta)(hb:SE X b tb)(hc:SE X c tc)(h:starEach [a,b,c] X.env=(false,eval a X.env)::starEach [b,c] X.env:=by rfl)(h2:starEach [b,c] X.env=(false,eval b X.env)::starEach [c] X.env:=by rfl)(h3:starEach [c] X.env=(false,eval c X.env)::starEach [] X.env:=by rfl):SA X [a,b,c] (AB ta (AB tb (AB tc AL))):=A4 ha (Aj hb hc h2 h3) h
def AU (ha:SE X a ta)(hb:SE X b tb)(hs:Px b:=by exact λ_ _=>rfl):SE X (.Subscript a b pos) (AX Af ta tb):=nI nO ha hb hs
def HM {op:CmpOp}{r:R2}{f:IY}(g:EC X (compareOp op) r/\CN X.K r f)(ha:SE X a ta)(hb:SE X b tb)(h:behindInMarks op b=false:=by exact Dk _):Vn X (.Compare a [op] [b] pos) (BH (AX f ta tb)):=jd g ha hb h
def Dw (i:Nat){x:Str}{pos':Pos}(hN:X.N.Nodup)(he:SE X e ta)(hi:X.N[i]? =some x:=by rfl)(hx:Loc X.env.scope x:=by exact Or.inl rfl)(hs:swapsWith e (some (.Name x pos')) pos.line X.env=pure false:=by rfl)(f:X.fn x=true\/X.env.scope.names.lookup x=some .local:=by first | exact .inl rfl|exact .inr rfl|assumption):SS X (.Assign [.Name x pos'] e pos) (Ao ta (Am i)):=C9 hN hi hx he hs f
def Dm (i:Nat){x:Str}(hN:X.N.Nodup)(hi:X.N[i]? =some x:=by rfl)(hx:Loc X.env.scope x:=by exact Or.inl rfl)(f:X.fn x=true\/X.env.scope.names.lookup x=some .local:=by first | exact .inl rfl|exact .inr rfl|assumption):SG X (.Name x pos) (Am i):=JG hN hi hx f
def IC (i:Nat){own:Nat}{x:Str}(hN:X.N.Nodup)(hi:X.N[i]? =some x:=by rfl)(hx:Loc X.env.scope x:=by exact Or.inl rfl)(hk:i<own:=by decide)(f:X.fn x=true\/X.env.scope.names.lookup x=some .local:=by first | exact .inl rfl|exact .inr rfl|assumption):SK own X (.Name x pos) (Am i):=eM hN hi hx hk f
end
def map_pair {a b c:Type}{o:zt a}{f:a->b}{g:a->c}{x:b}{y:c}(h1:o.map f=some x)(h2:o.map g=some y):o.map (λs=>(f s,g s))=some (x,y):=by
 cases o with
 | none=>cases h1
 | some s=>cases h1;cases h2;rfl
def map5 {a A B C D E:Type}{o:zt a}{F:a->A×B×C×D×E}{X:A×B×C×D×E}(h1:o.map (λs=>(F s).1)=some X.1)(h2:o.map (λs=>(F s).2.1)=some X.2.1)(h3:o.map (λs=>(F s).2.2.1)=some X.2.2.1)(b:o.map (λs=>(F s).2.2.2.1)=some X.2.2.2.1)(c:o.map (λs=>(F s).2.2.2.2)=some X.2.2.2.2):o.map F=some X:=by
 cases o with
 | none=>cases h1
 | some s=>exact congrArg some (AAo (AAb h1) (AAo (AAb h2) (AAo (AAb h3) (AAo (AAb b) (AAb c)))))
def BP {P:zp}{w:zm}{K:AAB}{mg:Str->zt zx}{base:zl}{k a:Nat}{x:Str}{ps:zy Str}{sp:Sp}(H:Has P w K mg base k x ps sp)(h:k<=a:=by decide):Has P w K mg base a x ps sp:=H.mono h
end PL
open PySem L2 PL PyProof.Rows
local macro_rules | `(tactic| decreasing_trivial_pre_omega)=> `(tactic| first | assumption|omega|((apply Bd.mono);(focus (repeat' (first | assumption|exact D6.m (by assumption)|exact D6.x (by assumption)|exact D6.y (by assumption)|exact D6.z (by assumption)|exact oK|exact pq|with_reducible apply Bd.add|with_reducible apply Bd.sub|with_reducible apply Bd.mul|with_reducible apply Bd.neg|with_reducible apply Bd.mx|with_reducible apply Bd.mn)));first | omega|decide)|decide|(simp only [List.length_map,List.length_append,List.length_cons,List.length_nil,List.length_take,List.length_drop,List.length_zip,List.length_reverse];omega)|(show _<=16777216;simp only [List.length_map,List.length_append,List.length_cons,List.length_nil,List.length_take,List.length_drop,List.length_zip,List.length_reverse];omega)|(show _<16777216;simp only [List.length_map,List.length_append,List.length_cons,List.length_nil,List.length_take,List.length_drop,List.length_zip,List.length_reverse];omega)|(refine And.intro ?_ ?_ <;> decreasing_trivial_pre_omega)|exact rfl)
local macro_rules | `(tactic| array_mem_dec)=> `(tactic| first
 | refine Wp.go ?_
 | ((refine Tk.go ?_ ?_);focus (first | exact True.intro|decreasing_trivial_pre_omega))
 | ((with_reducible apply And.intro);focus decreasing_trivial_pre_omega)
 | ((with_reducible apply jJ);focus decide)
 | ((with_reducible apply jI);focus decide)
 | ((with_reducible apply s_ifnT);focus decide)
 | ((with_reducible apply s_ifnF);focus decide)
 | refine pY.go (λ_=> ?_) (λ_=> ?_)
 | ((with_reducible apply s_ixPl);focus assumption)
 | ((with_reducible apply s_all);focus exact rfl)
 | ((with_reducible apply s_isi);(focus (first | exact .inl rfl|exact .inr (.inl rfl)|exact .inr (.inr (.inl rfl))|exact .inr (.inr (.inr rfl))));(focus exact rfl))
 | ((with_reducible apply s_ifT);focus exact rfl)
 | ((with_reducible apply s_ifF);focus exact rfl)
 | intro _
 | with_reducible rfl)
local macro_rules | `(tactic| array_get_dec)=> `(tactic| first | array_mem_dec|refine sw.go ?_|fail)
local macro_rules | `(tactic| ac_rfl)=> `(tactic| repeat' array_mem_dec)
namespace PL
open PySem L2 PyProof.Rows
def fh {cs:zy C4}{B M:Nat}{m:Rat}(a:Bd M m)(b:E5 cs)(hb:∀c∈cs,D6 B c):D6 (M+6*B+10) (sp cs m):=by
 have t:F2 (M+6*B+10) ((spotC cs m).getD (0,0,0)):=by
  cases e:spotC cs m with
  | none=> have z:Bd (M+6*B+10) (0:Rat):=Bd.mono (m:=2) ⟨by decide,by decide⟩ (by omega);exact⟨z,z,z⟩
  | some t=>exact F2.spotC a b hb t e
 exact⟨a.mono (by omega),t.x,t.y,t.z⟩
abbrev Vj:AS:=
 (Ar (An (AB (aV 0) (AB (aC (.int 1)) AL))))
def Gv:AF:=Ap 1 Vj
def YH {a:PV}{Q:PV->Prop}(h:Vj ⟨λ_=>Q .non,Q,λ_=>False,λ_=>False⟩ [some (.val a)]):Gv [a] Q:=h
instance{k:Int}{Q:PV->Prop}:Wp (Gv [.int k] Q) (Q (fr (k:Rat))):=⟨λh=>by
 apply YH;repeat' array_get_dec
 exact h⟩
def HV.open {n B:Nat}{cs:zy C4}(p:HV n B cs):∃a r l,cs=a::r/\r≠ [] /\(a::r).getLast?=some l/\a.1<l.1:=by
 obtain⟨c,d,e,b⟩:=p;match cs,c,b with
 | a::b0::r,_,b=>exact⟨a,b0::r,_,rfl,by simp,ACa (by simp),(AAM.mp b).1 _ (AB1 (Xy (ACa (by simp))))⟩
instance{r:AA}{τ:BE}{a:zy PV->Prop}:Wp (gT r τ a) (r τ λd=>match d with | [x,y,z] =>M6 x λxs=>M6 y λb=>M6 z λc=>(xs.length=b.length/\xs.length=c.length)/\a (FZ xs b c)|_=>False):=⟨id⟩
abbrev Ls:AS:=
 (Ar (An (AB (UE MY (AX Af (aV 0) (aC (.int 0)))) (AB (AX Af (aV 0) (aC (.int 1))) AL))))
def B7:AF:=Ap 1 Ls
def Q6 {a:PV}{Q:PV->Prop}(h:Ls ⟨λ_=>Q .non,Q,λ_=>False,λ_=>False⟩ [some (.val a)]):B7 [a] Q:=h
abbrev Lr:AS:=
 (Ar (Yz (UE ZJ (AN 2 A0 (AB (aV 1) (AB (AX Af (AX Af (aV 0) (aC (.int 0))) (aC (.int 0))) AL)))) (AN 2 A0 (AB (aV 1) (AB (AX Af (AX Af (aV 0) (UE MY (aC (.int 1)))) (aC (.int 0))) AL)))))
def Dc:AF:=Ap 2 Lr
def Q5 {a b:PV}{Q:PV->Prop}(h:Lr ⟨λ_=>Q .non,Q,λ_=>False,λ_=>False⟩ [some (.val a),some (.val b)]):Dc [a,b] Q:=h
abbrev HE:AS:=
 (Ad (Ao (AN 2 B6 (AB (aV 2) (AB (aV 3) AL))) (Am 4))
   (Ar (Yz (UE ZJ (AN 2 A0 (AB (aV 4) (AB (AN 1 B7 (AB (AX Af (AX Af (aV 0) (aC (.int 1))) (aC (.int 2))) AL)) AL)))) (UE ZJ (AN 2 A0 (AB (AX Af (AX Af (aV 1) (aC (.int 1))) (aC (.int 2))) (AB (aV 4) AL)))))))
def Cy:AF:=Ap 5 HE
def LM {a b c d:PV}{Q:PV->Prop}(h:HE ⟨λ_=>Q .non,Q,λ_=>False,λ_=>False⟩ [some (.val a),some (.val b),some (.val c),some (.val d),none]):Cy [a,b,c,d] Q:=h
abbrev Oc:AS:=
 (Ar (j7 (BH (AX Tl (aV 1) (aC (.int 2)))) (AX Af (aV 0) (aC (.int 1))) (AX Af (aV 0) (aC (.int 0)))))
def Cn:AF:=Ap 2 Oc
def TJ {a b:PV}{Q:PV->Prop}(h:Oc ⟨λ_=>Q .non,Q,λ_=>False,λ_=>False⟩ [some (.val a),some (.val b)]):Cn [a,b] Q:=h
abbrev Ny:AS:=
 (Ad (Ao (AN 2 Bx (AB (AN 2 Cn (AB (AX Af (aV 0) (aC (.int 1))) (AB (aV 4) AL))) (AB (AN 2 Cn (AB (AX Af (aV 1) (aC (.int 1))) (AB (aV 4) AL))) AL))) (Am 5))
   (F3 3 LG (AB (AN 2 Bx (AB (AN 2 Cn (AB (aV 2) (AB (aV 4) AL))) (AB (aV 5) AL))) AL)))
abbrev Nz:AS:=
 (Ad (FH (N6 (AB (aC (.int 3)) AL)) (Am 4) Ny)
   (Ar (aV 3)))
abbrev L3:AS:=
 (Ad (Jh (F8 AL) 3)
   Nz)
def Df:AF:=Ap 6 L3
def Q9 {a b c:PV}{Q:PV->Prop}(h:L3 ⟨λ_=>Q .non,Q,λ_=>False,λ_=>False⟩ [some (.val a),some (.val b),some (.val c),none,none,none]):Df [a,b,c] Q:=h
abbrev PZ:AS:=
 (Ad (Ao (AN 2 B6 (AB (aV 5) (AB (aV 6) AL))) (HX 2 (AZ (Am 8) (AZ (Am 9) Be))))
   (CH (FI (BH (AN 2 A0 (AB (An (AB (HG R9 (AB (aV 8) AL)) (AB (aV 9) AL))) (AB (aV 7) AL))))) (Ar (aC (.bl false))) BO))
abbrev Pa:AS:=
 (Ad (FH (gT (AB (AN 2 FG (AB (AX Af (aV 0) (aC (.int 0))) (AB (aV 3) AL))) (AB (AN 2 FG (AB (AX Af (aV 1) (aC (.int 0))) (AB (aV 4) AL))) (AB (AN 3 Df (AB (aV 0) (AB (aV 1) (AB (aV 2) AL)))) AL)))) (HX 3 (AZ (Am 5) (AZ (Am 6) (AZ (Am 7) Be)))) PZ)
   (Ar (aC (.bl true))))
abbrev OY:AS:=
 (Ad (CH (UD (FI (BH (AN 2 Dc (AB (AX Af (aV 0) (aC (.int 0))) (AB (aV 3) AL))))) (UD (FI (BH (AN 2 Dc (AB (AX Af (aV 1) (aC (.int 0))) (AB (aV 4) AL))))) (FI (BH (AN 4 Cy (AB (aV 0) (AB (aV 1) (AB (aV 3) (AB (aV 4) AL))))))))) (Ar (aC (.bl false))) BO)
   Pa)
def Cm:AF:=Ap 10 OY
def TC {a b c d e:PV}{Q:PV->Prop}(h:OY ⟨λ_=>Q .non,Q,λ_=>False,λ_=>False⟩ [some (.val a),some (.val b),some (.val c),some (.val d),some (.val e),none,none,none,none,none]):Cm [a,b,c,d,e] Q:=h
def XA (b:T3)(v:PV):Prop:=v=jf b\/v= .lst [fr b.1,fr b.2.1,fr b.2.2]
def EQ (cs:zy C4)(b:T3)(v:PV):Prop:=∃p w,Eo cs p/\XA b w/\(v= .tup [p,w] \/v= .lst [p,w])
def PU (d:Rat×Rat)(v:PV):Prop:=v= .tup [fr d.1,fr d.2] \/v= .lst [fr d.1,fr d.2]
def iR (r:Rat):PV.tup [.int (-r.num), .int r.den] =fr (-r):=by unfold fr;rw[Rat.neg_num,Rat.neg_den]
def Fj {r:Rat}{Q:PV->Prop}(q:Q (fr (-r))):B7 [fr r] Q:=by
 apply Q6;repeat' array_get_dec
 rw[iR];exact q
def xF {a:C4}{r:zy C4}{v:PV}{R:PV->Prop}(hv:Eo (a::r) v)(h:∀x,(x=cor a\/x=corL a)->R x):Af v (.int 0) R:=by
 obtain⟨f,b,hv⟩:=hv;have hx:f a=cor a\/f a=corL a:=by rcases b with rfl|rfl <;> simp
 rcases hv with rfl|rfl
 .show cD (II (f a::r.map f) 0) R;rw[show II (f a::r.map f) 0=some (f a) from Co (j:=0) rfl];exact h _ hx
 .show cD (II (f a::r.map f) 0) R;rw[show II (f a::r.map f) 0=some (f a) from Co (j:=0) rfl];exact h _ hx
def xG {cs:zy C4}{l:C4}{v:PV}{R:PV->Prop}(hv:Eo cs v)(a:cs.getLast?=some l)(h:∀x,(x=cor l\/x=corL l)->R x):Af v (.int (-1)) R:=by
 obtain⟨f,b,hv⟩:=hv;have hx:f l=cor l\/f l=corL l:=by rcases b with rfl|rfl <;> simp
 rcases hv with rfl|rfl
 .exact Mf a (h _ hx)
 .exact Mf a (h _ hx)
def c0 {x:PV}{c:C4}{R:PV->Prop}(hx:x=cor c\/x=corL c)(h:R (fr c.1)):Af x (.int 0) R:=by rcases hx with rfl|rfl <;> exact h
def TZ {v:PV}{a l:C4}{r:zy C4}{m:Rat}(hv:Eo (a::r) v)(b:(a::r).getLast?=some l)(ba:Bd 3000 a.1)(c:Bd 3000 l.1)(bm:Bd 3000 m){Q:PV->Prop}(q:Q (.bl (!decide (m<a.1)&&decide (m<l.1)))):Dc [v,fr m] Q:=by
 apply Q5;ac_rfl;refine xF hv λx hx=> ?_;ac_rfl;refine c0 hx ?_;ac_rfl
 .refine xG hv b λx hx=> ?_;ac_rfl;refine c0 hx ?_;ac_rfl;rename_i h;rw[AAc h] at q;exact q
 .rename_i h;have h:m<a.1:=by by_cases z:m<a.1 <;> simp_all
  rw[AAV h] at q;exact q
def f0 {cs:zy C4}{b:T3}{v:PV}{R:PV->Prop}(hv:EQ cs b v)(h:∀p,Eo cs p->R p):Af v (.int 0) R:=by obtain⟨p,w,hp,hw,hv⟩:=hv;rcases hv with rfl|rfl <;> exact h p hp
def f1 {cs:zy C4}{b:T3}{v:PV}{R:PV->Prop}(hv:EQ cs b v)(h:∀w,XA b w->R w):Af v (.int 1) R:=by obtain⟨p,w,hp,hw,hv⟩:=hv;rcases hv with rfl|rfl <;> exact h w hw
def b2 {b:T3}{w:PV}{R:PV->Prop}(hw:XA b w)(h:R (fr b.2.2)):Af w (.int 2) R:=by rcases hw with rfl|rfl <;> exact h
def S3 {cs ds:zy C4}{b e:T3}{v w:PV}{s t:Rat}(hv:EQ cs b v)(hw:EQ ds e w)(c:Bd 100 b.2.2)(g:Bd 100 e.2.2)(bs:Bd 1800 s)(bt:Bd 1800 t){Q:PV->Prop}(q:Q (.bl (!decide (s+b.2.2<t)&&!decide (t+e.2.2<s)))):Cy [v,w,fr s,fr t] Q:=by
 have d:=bs.sub bt;have i:=c.neg;have a:(s-t < -b.2.2)=(s+b.2.2<t):=propext ⟨λh=>by grind,λh=>by grind⟩;have f:(e.2.2<s-t)=(t+e.2.2<s):=propext ⟨λh=>by grind,λh=>by grind⟩;apply LM;ac_rfl;refine f1 hv λx hx=> ?_;ac_rfl;refine b2 hx ?_;ac_rfl;refine Fj ?_;ac_rfl
 .refine f1 hw λx hx=> ?_;ac_rfl;refine b2 hx ?_;ac_rfl;rename_i h;have h:¬s+b.2.2<t:=λz=>h (by rw[a];exact z);rw[AAc h,ADP,ACO] at q;simp only[f];exact q
 .rename_i h;have h:s+b.2.2<t:=by rw[<-a];by_cases z:s-t < -b.2.2 <;> simp_all
  rw[AAV h] at q;exact q
def HJ {k n:Nat}(h:k<=n)(a:n<1000000):k<sizeLine:=AAQ h (AAP a (ABe rfl))
def szs (b e:T3)(d:Rat×Rat):T3:=(d.1+(b.1+e.1),d.1+(b.1+e.1),d.2+(b.2.1+e.2.1))
def Ws {w:PV}{x y:Rat}{k:Int}(a:∀{R:PV->Prop},R (fr x)->Af w (.int 0) R)(h1:∀{R:PV->Prop},R (fr y)->Af w (.int 1) R){Q:PV->Prop}(q:Q (fr (if k=2 then y else x))):Cn [w, .int k] Q:=by
 apply TJ;ac_rfl
 .rename_i h;rw[AAE h] at q;exact h1 q
 .rename_i h;rw[AAD h] at q;exact a q
def Rv {b:T3}{w:PV}{k:Int}(hw:XA b w){Q:PV->Prop}(q:Q (fr (if k=2 then b.2.1 else b.1))):Cn [w, .int k] Q:=
 Ws (λh=>by rcases hw with rfl|rfl <;> exact h) (λh=>by rcases hw with rfl|rfl <;> exact h) q
def Y3 {d:Rat×Rat}{w:PV}{k:Int}(hw:PU d w){Q:PV->Prop}(q:Q (fr (if k=2 then d.2 else d.1))):Cn [w, .int k] Q:=
 Ws (λh=>by rcases hw with rfl|rfl <;> exact h) (λh=>by rcases hw with rfl|rfl <;> exact h) q
def TU {cs ds:zy C4}{b e:T3}{d:Rat×Rat}{v w u:PV}(hv:EQ cs b v)(hw:EQ ds e w)(hu:PU d u)(l:F2 100 b)(m:F2 100 e)(F:Bd 100 d.1)(b2:Bd 100 d.2){Q:PV->Prop}(q:Q (.lst [fr (szs b e d).1,fr (szs b e d).2.1,fr (szs b e d).2.2])):Df [v,w,u] Q:=by
 have s:=l.x;have f:=l.y;have ex:=m.x;have z:=m.y;have G:=s.add ex;have H:=f.add z;apply Q9;ac_rfl;have bk:∀k:Int,Bd 100 (if k=2 then b.2.1 else b.1):=λk=>by split <;> assumption
 have A:∀k:Int,Bd 100 (if k=2 then e.2.1 else e.1):=λk=>by split <;> assumption
 have B:∀k:Int,Bd 100 (if k=2 then d.2 else d.1):=λk=>by split <;> assumption
 refine V8 (λi τ=>∃a c,τ= [some (.val v),some (.val w),some (.val u),some (.own ((List.range i).map λk:Nat=>fr ((if (k:Int)=2 then d.2 else d.1)+((if (k:Int)=2 then b.2.1 else b.1)+(if (k:Int)=2 then e.2.1 else e.1))))),a,c]) ?_ ?_ ⟨_,_,rfl⟩
 .rintro τ ⟨a,c,rfl⟩;ac_rfl;exact q
 .rintro i hi τ R o ⟨a,c,rfl⟩;have I:i<3:=hi;have g:∀a c,R [some (.val v),some (.val w),some (.val u),some (.own (((List.range i).map λk:Nat=>fr ((if (k:Int)=2 then d.2 else d.1)+((if (k:Int)=2 then b.2.1 else b.1)+(if (k:Int)=2 then e.2.1 else e.1)))) ++ [fr ((if (i:Int)=2 then d.2 else d.1)+((if (i:Int)=2 then b.2.1 else b.1)+(if (i:Int)=2 then e.2.1 else e.1)))])),a,c] :=λa c=>o _ ⟨a,c,by rw[List.range_succ,ABz];rfl⟩;clear o;have h:=bk i;have j:=A i;have C:=B i;have J:=h.add j;have D:((List.range i).map λk:Nat=>fr ((if (k:Int)=2 then d.2 else d.1)+((if (k:Int)=2 then b.2.1 else b.1)+(if (k:Int)=2 then e.2.1 else e.1)))).length<=3:=by rw[AAL,List.length_range];omega
  generalize ((List.range i).map λk:Nat=>fr ((if (k:Int)=2 then d.2 else d.1)+((if (k:Int)=2 then b.2.1 else b.1)+(if (k:Int)=2 then e.2.1 else e.1))))=L at *;have E:(0:Int)+i=i:=by omega
  rw[E];ac_rfl;refine f1 hv λx hx=> ?_;ac_rfl;refine Rv hx ?_;ac_rfl;refine f1 hw λx hx=> ?_;ac_rfl;refine Rv hx ?_;generalize (if (i:Int)=2 then b.2.1 else b.1)=p at *;generalize (if (i:Int)=2 then e.2.1 else e.1)=r at *;ac_rfl;refine Y3 hu ?_;generalize (if (i:Int)=2 then d.2 else d.1)=t at *;ac_rfl;refine⟨HJ (n:=3) D (by decide), ?_⟩;ac_rfl;exact g _ _
def Jr (x y z:Rat):zq:=decide (x-y<z)&&decide (-(x-y)<z)
def WT (a l c f:C4)(b e:T3)(d:Rat×Rat)(x y:T3)(s t:Rat):zq:=
 (!decide (s<a.1)&&decide (s<l.1))&&((!decide (t<c.1)&&decide (t<f.1))&&((!decide (s+b.2.2<t)&&!decide (t+e.2.2<s))&&(Jr x.1 y.1 (szs b e d).1&&(Jr x.2.1 y.2.1 (szs b e d).2.1&&Jr x.2.2 y.2.2 (szs b e d).2.2))))
def gS (r:Rat):PV.tup [.int (r.num.natAbs:Int), .int r.den] =fr (if r<0 then -r else r):=by
 unfold fr;by_cases h:r<0
 .rw [AAE h,Rat.neg_num,Rat.neg_den];have:¬0<=r.num:=λz=>by have:=Rat.num_nonneg.mp z;grind
  rw[show ((r.num.natAbs:Nat):Int)= -r.num by omega]
 .rw [AAD h];have:0<=r.num:=Rat.num_nonneg.mpr (by grind);rw[show ((r.num.natAbs:Nat):Int)=r.num by omega]
def dA (x y z:Rat):decide ((if x-y<0 then -(x-y) else x-y)<z)=Jr x y z:=by
 unfold Jr;by_cases h:x-y<0
 .rw [AAE h];by_cases h2: -(x-y)<z
  .have:x-y<z:=by grind
   simp[h2,this]
  .simp [h2]
 .rw [AAD h];by_cases h2:x-y<z
  .have: -(x-y)<z:=by grind
   simp[h2,this]
  .simp [h2]
def c7 {a l k p:C4}{r n:zy C4}{b e:T3}{d:Rat×Rat}{v w u:PV}{s t:Rat}{B M:Nat}(hv:EQ (a::r) b v)(hw:EQ (k::n) e w)(hu:PU d u)(hc:∀c∈a::r,D6 B c)(G:∀c∈k::n,D6 B c)(Z:E5 (a::r))(hZ:E5 (k::n))(h0:r≠ [])(ZW:n≠ [])(hl:(a::r).length<=1000)(lQ:(k::n).length<=1000)(J:(a::r).getLast?=some l)(o:(k::n).getLast?=some p)(A:F2 100 b)(C:F2 100 e)(K:Bd 100 d.1)(D:Bd 100 d.2)(bs:Bd M s)(bt:Bd M t)(hB:M+6*B+10<=1800){Q:PV->Prop}(q:Q (.bl (WT a l k p b e d ((spotC (a::r) s).getD (0,0,0)) ((spotC (k::n) t).getD (0,0,0)) s t))):Cm [v,w,u,fr s,fr t] Q:=by
 have ba:=(hc a (by simp)).m;have bl:=(hc l (AB1 J)).m;have L:=(G k (by simp)).m;have O:=(G p (AB1 o)).m;apply TC;ac_rfl;refine f0 hv λx hx=> ?_;ac_rfl;refine TZ hx J (ba.mono (by omega)) (bl.mono (by omega)) (bs.mono (by omega)) ?_;unfold WT at q;cases H:(!decide (s<a.1)&&decide (s<l.1)) with
 | false=> rw[H] at q;ac_rfl;exact q
 | true=>
 rw[H,ACO] at q;ac_rfl;refine f0 hw λy P=> ?_;ac_rfl;refine TZ P o (L.mono (by omega)) (O.mono (by omega)) (bt.mono (by omega)) ?_;cases I:(!decide (t<k.1)&&decide (t<p.1)) with
 | false=> rw[I] at q;ac_rfl;exact q
 | true=>
 rw[I,ACO] at q;ac_rfl;refine S3 hv hw A.z C.z (bs.mono (by omega)) (bt.mono (by omega)) ?_;cases t3:(!decide (s+b.2.2<t)&&!decide (t+e.2.2<s)) with
 | false=> rw[t3] at q;ac_rfl;exact q
 | true=>
 rw[t3,ACO] at q;have g1:a.1<=s/\s<l.1:=by simp at H;exact⟨by grind,H.2⟩
 have g2:k.1<=t/\t<p.1:=by simp at I;exact⟨by grind,I.2⟩
 obtain⟨f,E⟩:=Dq h0 J g1.1 (by grind);obtain⟨g,F⟩:=Dq ZW o g2.1 (by grind);have i:=fh bs Z hc;have j:=fh bt hZ G;unfold sp at i j;rw[E] at q i;rw[F] at q j;have S:Bd 1800 f.1:=i.x.mono (by omega);have T:Bd 1800 f.2.1:=i.y.mono (by omega);have U:Bd 1800 f.2.2:=i.z.mono (by omega);have y1:Bd 1800 g.1:=j.x.mono (by omega);have y2:Bd 1800 g.2.1:=j.y.mono (by omega);have y3:Bd 1800 g.2.2:=j.z.mono (by omega);have sb:Bd 400 (szs b e d).1/\Bd 400 (szs b e d).2.1/\Bd 400 (szs b e d).2.2:=⟨(K.add (A.x.add C.x)).mono (by decide),(K.add (A.x.add C.x)).mono (by decide),(D.add (A.y.add C.y)).mono (by decide)⟩;ac_rfl;refine f0 hv λx hx=> ?_;ac_rfl;refine IV hx hc Z (by simp) hl bs (by omega) ?_;rw[E,show NX (some f)= .tup [fr f.1,fr f.2.1,fr f.2.2] from rfl];ac_rfl;refine f0 hw λy P=> ?_;ac_rfl;refine IV P G hZ (by simp) lQ bt (by omega) ?_;rw[F,show NX (some g)= .tup [fr g.1,fr g.2.1,fr g.2.2] from rfl];ac_rfl;refine TU hv hw hu A C K D ?_;have q:Q (.bl (Jr f.1 g.1 (szs b e d).1&&(Jr f.2.1 g.2.1 (szs b e d).2.1&&Jr f.2.2 g.2.2 (szs b e d).2.2))):=q;generalize szs b e d=z at *;obtain⟨z1,z2,z3⟩:=z;obtain⟨c1,c2,c3⟩:=f;obtain⟨d1,d2,d3⟩:=g;obtain⟨W,X,Y⟩:=sb;have step:∀{x y z:Rat} {R N:Prop},Bd 1800 x->Bd 1800 y->Bd 400 z->(Jr x y z=true->R)->(Jr x y z=false->N)->A0 [.tup [.int ((x-y).num.natAbs:Int), .int (x-y).den],fr z] λv=>cC v λc=>if (!c)=true then N else R:=λ{x y z R N} bx by' bz h1 h2=>by
  have bd:=bx.sub by';rw[gS];refine CU (by split;exact(bd.neg).mono (by decide);exact bd.mono (by decide)) (bz.mono (by decide)) ?_;rw[dA];cases hn:Jr x y z with
  | true=>exact h1 hn
  | false=>exact h2 hn
 refine⟨⟨rfl,rfl⟩, ?_⟩;have S:Bd 1800 c1:=S;have T:Bd 1800 c2:=T;have U:Bd 1800 c3:=U;have y1:Bd 1800 d1:=y1;have y2:Bd 1800 d2:=y2;have y3:Bd 1800 d3:=y3;show DF _ _ _ [.tup [fr c1,fr d1,fr z1], .tup [fr c2,fr d2,fr z2], .tup [fr c3,fr d3,fr z3]] _;repeat' array_get_dec
 refine step S y1 W (λh=> ?_) (λh=> ?_);rotate_left
 .rw [h] at q;repeat' array_get_dec
  exact q
 rw[h,ACO] at q;repeat' array_get_dec
 refine step T y2 X (λh=> ?_) (λh=> ?_);rotate_left
 .rw [h] at q;repeat' array_get_dec
  exact q
 rw[h,ACO] at q;repeat' array_get_dec
 refine step U y3 Y (λh=> ?_) (λh=> ?_);rotate_left
 .rw [h] at q;repeat' array_get_dec
  exact q
 rw[h] at q;repeat' array_get_dec
 exact q
abbrev D2 (cs:zy C4)(b:T3):PV:= .tup [BL cs, .tup [fr b.1,fr b.2.1,fr b.2.2]]
end PL
namespace PL.K31
open PySem L2 PL PyProof.Rows
abbrev JO:AS:=
 (Ad (CH (BH (AX Tl (AN 2 A9 (AB (aV 0) (AB (aC (.int 2)) AL))) (aC (.int 0)))) (Ar (An (AB (An (AB (aC (.int 0)) (AB (aC (.int 1)) AL))) (AB (An (AB (aC (.int 0)) (AB (aC (.int 1)) AL))) (AB (An (AB (aC (.int 0)) (AB (aC (.int 1)) AL))) AL))))) BO)
   (Ar (An (AB (AX Af (aV 1) (AN 2 A9 (AB (aV 0) (AB (aC (.int 4)) AL)))) (AB (AX Af (aV 1) (AN 2 A9 (AB (aV 0) (AB (aC (.int 4)) AL)))) (AB (AX Af (aV 1) (AN 2 A9 (AB (aV 0) (AB (aC (.int 6)) AL)))) AL))))))
abbrev HA:AS:=
 (Ad (Ao (G4 (F8 (AB (An (AB (aC (.int 0)) (AB (aC (.int 1)) AL))) (AB (An (AB (aC (.int 1)) (AB (aC (.int 2)) AL))) (AB (An (AB (aC (.int 1)) (AB (aC (.int 1)) AL))) (AB (An (AB (aC (.int 1)) (AB (aC (.int 3)) AL))) (AB (An (AB (aC (.int 3)) (AB (aC (.int 1)) AL))) (AB (An (AB (aC (.int 40)) (AB (aC (.int 1)) AL))) AL)))))))) (Am 1))
   JO)
def CC:AF:=Ap 2 HA
def LK {a:PV}{Q:PV->Prop}(h:HA ⟨λ_=>Q .non,Q,λ_=>False,λ_=>False⟩ [some (.val a),none]):CC [a] Q:=h
abbrev JU:AS:=
 (Ad (FH (LA (aV 1)) (Am 7) (F3 6 LG (AB (AX Bf (An (AB (AN 2 Bc (AB (AX Af (aV 7) (aC (.int 0))) (AB (aV 3) AL))) AL)) (HG Cc (AB (G4 (Bs (N6 (AB (aC (.int 3)) AL)) 1 [7,5] (Am 0) Dh (AN 2 Bc (AB (AX Af (aV 1) (AX Bf (aV 0) (aC (.int 1)))) (AB (AX Af (aV 2) (aV 0)) AL))))) AL))) AL)))
   (Ao (cU (HG Cc (AB (aV 6) AL))) (Am 2)))
abbrev JT:AS:=
 (Ad (Jh (F8 AL) 6)
   JU)
abbrev JS:AS:=
 (Ad (Ao (G4 (Bs (N6 (AB (aC (.int 3)) AL)) 1 [4,0] (Am 0) Dh (AX Af (aV 1) (AN 2 A9 (AB (aV 2) (AB (aC (.int 6)) AL)))))) (Am 5))
   JT)
abbrev JR:AS:=
 (Ad (Ao (G4 (F8 (AB (AN 1 Az (AB (aV 0) AL)) (AB (An (AB (aC (.int 0)) (AB (aC (.int 1)) AL))) (AB (AN 1 Az (AB (aV 0) AL)) (AB (An (AB (aC (.int 1)) (AB (aC (.int 1)) AL))) (AB (An (AB (aC (.int 0)) (AB (aC (.int 1)) AL))) (AB (An (AB (AN 2 A9 (AB (aV 0) (AB (aC (.int 3)) AL))) (AB (aC (.int 1)) AL))) AL)))))))) (Am 4))
   JS)
abbrev HC:AS:=
 (Ad (Ao (AX Af (G4 (F8 (AB (An (AB (AN 2 A9 (AB (aV 0) (AB (aC (.int 4)) AL))) (AB (aC (.int 1)) AL))) (AB (An (AB (aC (.int 0)) (AB (aC (.int 1)) AL))) (AB (AN 2 As (AB (AN 2 A9 (AB (aV 0) (AB (aC (.int 9)) AL))) (AB (aC (.int 2)) AL))) AL))))) (AN 2 A9 (AB (aV 0) (AB (aC (.int 3)) AL)))) (Am 3))
   JR)
abbrev HD:AS:=
 (Ad (CH (BH (AX ZH (HG LB (AB (aV 1) AL)) (aC (.int 5)))) (Ao (Vp (aV 2) Vr (Vs (aC (.int 3)))) (Am 2)) BO)
   (Ar (An (AB (An (AB (aV 1) (AB (AN 1 CC (AB (aV 0) AL)) AL))) (AB (An (AB (aV 2) (AB (AN 1 CC (AB (aV 0) AL)) AL))) AL)))))
abbrev Nm:AS:=
 (Ad (CH (BH (AX Tl (AN 2 A9 (AB (aV 0) (AB (aC (.int 3)) AL))) (aC (.int 0)))) HC BO)
   HD)
abbrev Nk:AS:=
 (Ad (Ao (AN 1 Dy (AB (aV 0) AL)) (Am 2))
   Nm)
abbrev Lo:AS:=
 (Ad (Ao (AN 1 Dy (AB (aV 0) AL)) (Am 1))
   Nk)
def EM:AF:=Ap 8 Lo
def Q2 {a:PV}{Q:PV->Prop}(h:Lo ⟨λ_=>Q .non,Q,λ_=>False,λ_=>False⟩ [some (.val a),none,none,none,none,none,none,none]):EM [a] Q:=h
def p7 (xs:zy C4):GN (xs.map cor) none (some 3)=(xs.take 3).map cor:=by
 by_cases h:3<=xs.length
 .exact ZF (k:=3) rfl h
 .rw [ABs (by omega)];unfold GN HT.sIx;simp;rw[ABs (by simp;omega)]
def Si (t:Rat)(o:T3)(c:C4):C4:=(c.1+t,c.2.1+o.1,c.2.2.1+o.2.1,c.2.2.2+o.2.2)
def iQ {cs:zy C4}{t:Rat}{o:T3}(p:HV 9 12 cs)(bt:Bd 12 t)(e:F2 12 o):HV 9 40 (cs.map (Si t o)):=by
 refine⟨by simpa using p.two,by simpa using p.few,λc hc=> ?_, ?_⟩
 .obtain ⟨d,hd,rfl⟩:=AAI.mp hc;have b:=p.bd d hd;exact⟨(b.m.add bt).mono (by decide),(b.x.add e.x).mono (by decide),(b.y.add e.y).mono (by decide),(b.z.add e.z).mono (by decide)⟩
 .refine ADx.mpr (p.ris.imp λ{a b} h=> ?_);show a.1+t<b.1+t;grind
theorem Sj:∀cs:zy C4,X2 (cs.map cor)=true
 | [] =>rfl
 | c::cs=>by rw[AAN,X2,show cB (cor c)=true from rfl,Sj cs];rfl
def gb (cs:zy C4)(b:T3):EQ cs b (D2 cs b):=⟨_,_,⟨cor, .inl rfl, .inl rfl⟩, .inl rfl, .inl rfl⟩
end PL.K31
namespace PL
open PySem L2 PyProof.Rows
abbrev IJ:AS:=
 (Ad (Ao (G4 (F8 (AB (An (AB (aC (.int 1)) (AB (aC (.int 1)) AL))) (AB (An (AB (aC (.int 2)) (AB (aC (.int 1)) AL))) (AB (An (AB (aC (.int 3)) (AB (aC (.int 2)) AL))) (AB (An (AB (aC (.int 1)) (AB (aC (.int 3)) AL))) (AB (An (AB (aC (.int 5)) (AB (aC (.int 1)) AL))) AL))))))) (Am 1))
   (Ar (An (AB (AX Af (aV 1) (AN 2 A9 (AB (aV 0) (AB (aC (.int 5)) AL)))) (AB (AX Af (aV 1) (AN 2 A9 (AB (aV 0) (AB (aC (.int 5)) AL)))) AL)))))
def F__law_apart:AF:=Ap 2 IJ
def s_F__law_apart {a:PV}{Q:PV->Prop}(h:IJ ⟨λ_=>Q .non,Q,λ_=>False,λ_=>False⟩ [some (.val a),none]):F__law_apart [a] Q:=h
def c5 {xs:zy PV}{k:Int}{R:PV->Prop}(a:0<=k)(h1:k<xs.length)(h:∀x∈xs,R x):Af (.lst xs) (.int k) R:=by show cD (II xs k) R;have hk:xs[k.toNat]? =some (xs[k.toNat]'(by omega)):=AAd (by omega);have e:=Co hk;rw[show ((k.toNat:Nat):Int)=k by omega] at e;rw[e];exact h _ (AC8 _)
def Fi {xs:zy Rat}{k:Int}{R:PV->Prop}(a:0<=k)(h1:k<xs.length)(h:∀x∈xs,R (fr x)):Af (.lst (xs.map fr)) (.int k) R:=by refine c5 a (by simpa using h1) λx hx=> ?_;obtain⟨y,b,rfl⟩:=AAI.mp hx;exact h y b
def VQ {r:Rat}(h:r.num.natAbs<2^8:=by decide +kernel)(h2:r.den<2^8:=by decide +kernel):Bd 8 r:=⟨h,h2⟩
abbrev Si (t:Rat)(o:T3)(c:C4):C4:=(c.1+t,c.2.1+o.1,c.2.2.1+o.2.1,c.2.2.2+o.2.2)
section
variable {τ:BE}
instance{i:Nat}{xs:zy PV}{P:zy PV->Prop}[h:fH τ i (.own xs)] :Wp (K9 i τ P) (P xs):=⟨λk=>by unfold K9;rw[h.e];exact k⟩
end
def uD:PV.tup [.int (-1), .int 3] =fr (-1/3):=by unfold fr;rw[show (-1/3:Rat).num= -1 by decide +kernel,show (-1/3:Rat).den=3 by decide +kernel];rfl
def absR (r:Rat):Rat:=if r<0 then -r else r
def Bd.absR {n:Nat}{r:Rat}(h:Bd n r):Bd n (absR r):=by unfold PL.absR;split;exact h.neg;exact h
def Zx (p q:T3)(d:Rat×Rat):T3:=((p.1-q.1)/d.1,(p.2.1-q.2.1)/d.1,(p.2.2-q.2.2)/d.2)
def qA (o:T3):Rat:=mx (mx (mx 0 (absR o.1)) (absR o.2.1)) (absR o.2.2)
def bO (a l b c:C4)(m:Rat):Prop:=(¬m<a.1/\¬m<b.1)/\m<l.1/\m<c.1
instance {a l b c:C4}{m:Rat}:Decidable (bO a l b c m):=by unfold bO;infer_instance
def ins:zy Rat->Rat->zy Rat
 | [],x=> [x]
 | q::r,x=>if q<x then q::ins r x else if q=x then q::r else x::q::r
abbrev bg (qs:zy Rat):Prop:=qs.Pairwise (· < ·)
theorem QU {x y:Rat}:∀{qs:zy Rat},y∈ins qs x↔y=x\/y∈qs
 | [] =>by simp[ins]
 | q::r=>by
   unfold ins;split
   .rw [AAG,QU,AAG];grind
   .split
    .rename_i h;subst h;simp
    .simp
theorem Ww {x:Rat}:∀{qs:zy Rat},bg qs->bg (ins qs x)
 | [],_=>by simp[ins]
 | q::r,h=>by
   obtain⟨h1,h2⟩:=AAM.mp h;unfold ins;split
   .rename_i b;refine AAM.mpr ⟨λy a=> ?_,Ww h2⟩;rcases QU.mp a with rfl|a
    .exact b
    .exact h1 y a
   .split
    .exact h
    .refine AAM.mpr ⟨λy a=> ?_,h⟩;rcases AAG.mp a with rfl|a
     .grind
     .have:=h1 y a;grind
theorem WM {x:Rat}:∀{qs:zy Rat},(ins qs x).length<=qs.length+1
 | [] =>by simp[ins]
 | q::r=>by
   have:=WM (x:=x) (qs:=r);unfold ins;split
   .simp;omega
   .split <;> simp
theorem Wv:∀{a b:zy Rat},bg a->bg b->(∀x,x∈a↔x∈b)->a=b
 | [], [],_,_,_=>rfl
 | [],y::b,_,_,h=>by have:=(h y).mpr (by simp);simp at this
 | x::a, [],_,_,h=>by have:=(h x).mp (by simp);simp at this
 | x::a,y::b,ha,hb,h=>by
   obtain⟨g,j⟩:=AAM.mp ha;obtain⟨i,b2⟩:=AAM.mp hb;have d:x=y:=by
    rcases AAG.mp ((h x).mp (by simp)) with e|e
    .exact e
    .rcases AAG.mp ((h y).mpr (by simp)) with f|f
     .exact f.symm
     .have:=i x e;have:=g y f;grind
   subst d;congr 1;refine Wv j b2 λz=>⟨λc=> ?_,λc=> ?_⟩
   .rcases AAG.mp ((h z).mp (by simp[c])) with e|e
    .subst e;have:=g z c;grind
    .exact e
   .rcases AAG.mp ((h z).mpr (by simp[c])) with e|e
    .subst e;have:=i z c;grind
    .exact e
def ON (xs:zy Rat):zy Rat:=xs.foldl ins []
theorem Lb:∀(xs qs:zy Rat),bg qs->bg (xs.foldl ins qs)/\(∀y,y∈xs.foldl ins qs↔y∈xs\/y∈qs)/\(xs.foldl ins qs).length<=qs.length+xs.length
 | [],qs,h=>⟨h,by simp,by simp⟩
 | x::xs,qs,h=>by
   obtain⟨h1,h2,h3⟩:=Lb xs (ins qs x) (Ww h);refine⟨h1,λy=> ?_, ?_⟩
   .rw [ABQ,h2,QU,AAG];grind
   .have:=WM (x:=x) (qs:=qs);rw[ABQ,AAe];omega
def EX {xs:zy Rat}:bg (ON xs):=(Lb xs [] .nil).1
def DU {xs:zy Rat}{y:Rat}:y∈ON xs↔y∈xs:=by rw[ON,(Lb xs [] .nil).2.1];simp
def af {xs:zy Rat}:(ON xs).length<=xs.length:=by have:=(Lb xs [] .nil).2.2;unfold ON;simpa using this
abbrev Pl:=Rat×Int
abbrev Cr:=Rat×Int×zt Rat
def bp (s:Cr):Pl:=(s.1,1-s.2.1)
def ep (s:Cr):zt Pl:=s.2.2.map λe=>(e,0)
def S2 (s:Cr)(p:Pl):Int:=(if bp s=p then 1 else 0)-(if ep s=some p then 1 else 0)
def cnt (ss:zy Cr)(p:Pl):Int:=(ss.map λs=>S2 s p).sum
def lu (ss:zy Cr)(p:Pl):Prop:=∃s∈ss,bp s=p\/ep s=some p
def Nj (x p:Pl):zq:=decide (x.1<p.1)||(decide (x.1=p.1)&&decide (x.2<=p.2))
def Cq (s:Cr)(p:Pl):zq:=(decide (s.1<p.1)||(decide (s.1=p.1)&&decide (0<s.2.1+p.2)))&&(match s.2.2 with | none=>true|some e=>decide (p.1<e))
structure F7 (B:Nat) (s:Cr):Prop where
 b:Bd B s.1
 h:s.2.1=0\/s.2.1=1
 e:∀e,s.2.2=some e->s.1<e/\Bd B e
def tm (s:Cr)(p:Pl):Int:=(if Nj (bp s) p=true then 1 else 0)-(if (ep s).any (Nj · p)=true then 1 else 0)
def nh {B:Nat}{s:Cr}{p:Pl}(ok:F7 B s)(hp:0<=p.2):tm s p=if Cq s p=true then 1 else 0:=by
 obtain⟨b,h,e⟩:=s;obtain⟨q,i⟩:=p;have g:h=0\/h=1:=ok.h;have hp:0<=i:=hp;have d:Nj (bp (b,h,e)) (q,i)=(decide (b<q)||(decide (b=q)&&decide (0<h+i))):=by unfold Nj bp;congr 2;exact AC0.mpr (by show 1-h<=i↔0<h+i;omega)
 cases e with
 | none=> unfold tm Cq;rw[d];simp[ep]
 | some e=>
   have j:b<e:=(ok.e e rfl).1;have f:(ep (b,h,some e)).any (Nj · (q,i))= !decide (q<e):=by
    show Nj (e,0) (q,i)=_;unfold Nj;by_cases z:q<e
    .have a:¬e<q:=by grind
     have c:¬e=q:=by grind
     simp[z,a,c]
    .by_cases a:e<q
     .simp [z,a]
     .have c:e=q:=by grind
      simp[c,hp]
   unfold tm Cq;rw[d,f];by_cases z:q<e
   .simp [z]
   .have a:b<q:=by grind
    simp[z,a]
def Hn (ss:zy Cr)(p:Pl):Nat:=(ss.filter (Cq · p)).length
theorem Ui {B:Nat}{p:Pl}(hp:0<=p.2):∀{ss:zy Cr},(∀s∈ss,F7 B s)->(Hn ss p:Int)=(ss.map λs=>tm s p).sum
 | [],_=>rfl
 | s::ss,h=>by
   have a:=Ui hp (ss:=ss) λx hx=>h x (by simp[hx]);have e:=nh (p:=p) (h s (by simp)) hp;rw[AAN,AAp,<-a,e];unfold Hn;rw[AB2];split
   .simp;omega
   .simp
def LW (x p:Pl):Prop:=x.1<p.1\/(x.1=p.1/\x.2<p.2)
def Jo {a b c:Pl}(h:LW a b)(h2:LW b c):LW a c:=by
 unfold LW at *;rcases h with h|⟨h,h'⟩ <;> rcases h2 with h2|⟨h2,d⟩
 .left;grind
 .left;grind
 .left;grind
 .right;exact⟨by grind,by omega⟩
def GP {x p:Pl}:Nj x p=true↔LW x p\/x=p:=by
 obtain⟨a,i⟩:=x;obtain⟨b,j⟩:=p;unfold Nj LW;simp only[Bool.or_eq_true,AAx,ADD,Prod.mk.injEq];constructor
 .rintro (h|⟨h,h2⟩)
  .exact .inl (.inl h)
  .by_cases e:i=j
   .exact .inr ⟨h,e⟩
   .exact .inl (.inr ⟨h,by omega⟩)
 .rintro ((h|⟨h,h2⟩)|⟨h,h2⟩)
  .exact .inl h
  .exact .inr ⟨h,by omega⟩
  .exact .inr ⟨h,by omega⟩
def LX {p:Pl}:¬LW p p:=by
 unfold LW;rintro(h|⟨_,h⟩)
 .grind
 .omega
def Sd (x:Pl):zt Pl->zq|none=>false|some p=>Nj x p
def e5 (s:Cr)(o:zt Pl):Int:=(if Sd (bp s) o=true then 1 else 0)-(if (ep s).any (Sd · o)=true then 1 else 0)
def qk:zt Pl->Pl->Prop|none,_=>True|some q,p=>LW q p
def JJ {x p:Pl}{o:zt Pl}(hx:Sd x o=true\/x=p\/LW p x)(a:qk o p):Nj x p=(Sd x o||decide (x=p))/\¬(Sd x o=true/\x=p):=by
 have h1:Sd x o=true->LW x p:=λh=>by
  cases o with
  | none=>cases h
  | some q=>rcases GP.mp h with h|h
            .exact Jo h a
            .rw [h];exact a
 refine⟨?_,λh=>by rw[h.2] at h1;exact LX (h1 (h.2 ▸ h.1))⟩;rw[ACC,Bool.or_eq_true,ADD,GP];constructor
 .rintro (h|h)
  .rcases hx with z|z|z
   .exact .inl z
   .exact .inr z
   .exact absurd (Jo h z) LX
  .exact .inr h
 .rintro (h|h)
  .exact .inl (h1 h)
  .exact .inr h
def Zf {A:zq}{E:Prop}[Decidable E](h:¬(A=true/\E)):(if (A||decide E)=true then (1:Int) else 0)=(if A=true then 1 else 0)+if E then 1 else 0:=by cases A <;> by_cases e:E <;> simp_all
def e8 {s:Cr}{p:Pl}{o:zt Pl}(hb:Sd (bp s) o=true\/bp s=p\/LW p (bp s))(he:∀x,ep s=some x->Sd x o=true\/x=p\/LW p x)(a:qk o p):tm s p=e5 s o+S2 s p:=by
 obtain⟨b,b2⟩:=JJ hb a;unfold tm e5 S2;rw[b,Zf b2];cases e:ep s with
 | none=>simp
 | some x=>
   obtain⟨c,d⟩:=JJ (he x e) a;have h1:(if (some x).any (Nj · p)=true then (1:Int) else 0)=(if Sd x o=true then 1 else 0)+if x=p then 1 else 0:=by show (if Nj x p=true then (1:Int) else 0)=_;rw[c,Zf d]
   rw[h1];show _=(_-(if Sd x o=true then (1:Int) else 0))+(_-(if some x=some p then (1:Int) else 0));have h2:(if some x=some p then (1:Int) else 0)=if x=p then 1 else 0:=by by_cases z:x=p <;> simp[z]
   rw[h2];omega
def Ys (X:zy Pl):Prop:=X.Pairwise LW
def JZ (ss:zy Cr):Int->zy Pl->Prop
 | _, [] =>True
 | c,p::r=>(Hn ss p:Int)=c+cnt ss p/\JZ ss (Hn ss p) r
theorem Wz {a:Type}(f g:a->Int):∀xs:zy a,(xs.map λx=>f x+g x).sum=(xs.map f).sum+(xs.map g).sum
 | [] =>rfl
 | x::xs=>by simp only[AAN,AAp,Wz f g xs];omega
theorem MW {B:Nat}{ss:zy Cr}(ok:∀s∈ss,F7 B s):∀(X:zy Pl) (o:zt Pl),Ys X->(∀p∈X,qk o p/\0<=p.2)->(∀s∈ss,(Sd (bp s) o=true\/bp s∈X)/\∀x,ep s=some x->Sd x o=true\/x∈X)->JZ ss ((ss.map λs=>e5 s o).sum) X
 | [],_,_,_,_=>True.intro
 | p::r,o,hs,ho,hk=>by
   obtain⟨h1,h2⟩:=AAM.mp hs;obtain⟨op,a⟩:=ho p (by simp);have cls:∀x,(Sd x o=true\/x∈p::r)->Sd x o=true\/x=p\/LW p x:=λx h=>by
    rcases h with h|h
    .exact .inl h
    .rcases AAG.mp h with h|h
     .exact .inr (.inl h)
     .exact .inr (.inr (h1 x h))
   have e:(Hn ss p:Int)=(ss.map λs=>e5 s o).sum+cnt ss p:=by rw[Ui a ok];unfold cnt;rw[<-Wz];congr 1;apply ABd;intro s hs;exact e8 (cls _ (hk s hs).1) (λx ex=>cls x ((hk s hs).2 x ex)) op
   refine⟨e, ?_⟩;have:=MW ok r (some p) h2 (λq b=>⟨h1 q b,(ho q (by simp[b])).2⟩) (λs hs=>⟨?_,λx ex=> ?_⟩)
   .rw [show (ss.map λs=>e5 s (some p)).sum=(Hn ss p:Int) from(Ui a ok).symm] at this;exact this
   .rcases cls _ (hk s hs).1 with z|z|z
    .exact .inl (by rw[show Sd (bp s) (some p)=Nj (bp s) p from rfl,(JJ (.inl z) op).1,z];rfl)
    .exact .inl (GP.mpr (.inr z))
    .rcases (hk s hs).1 with y|y
     .exact .inl (by rw[show Sd (bp s) (some p)=Nj (bp s) p from rfl,(JJ (.inl y) op).1,y];rfl)
     .rcases AAG.mp y with y|y
      .exact .inl (GP.mpr (.inr y))
      .exact .inr y
   .rcases (hk s hs).2 x ex with y|y
    .exact .inl (by rw[show Sd x (some p)=Nj x p from rfl,(JJ (.inl y) op).1,y];rfl)
    .rcases AAG.mp y with y|y
     .exact .inl (GP.mpr (.inr y))
     .exact .inr y
def places (qs:zy Rat):zy Pl:=qs.flatMap λq=> [(q,0),(q,1)]
def Bg {qs:zy Rat}{p:Pl}:p∈places qs↔p.1∈qs/\(p.2=0\/p.2=1):=by
 obtain⟨a,i⟩:=p;unfold places;simp only[ABB,AAG,AA2,AA3,Prod.mk.injEq];constructor
 .rintro ⟨q,b,⟨rfl,rfl⟩|⟨rfl,rfl⟩⟩
  .exact ⟨b, .inl rfl⟩
  .exact ⟨b, .inr rfl⟩
 .rintro ⟨h,h2⟩;exact⟨a,h,h2.elim (λz=> .inl ⟨rfl,z⟩) (λz=> .inr ⟨rfl,z⟩)⟩
theorem Ee:∀{qs:zy Rat},bg qs->Ys (places qs)
 | [],_=>List.Pairwise.nil
 | q::r,h=>by
   obtain⟨h1,h2⟩:=AAM.mp h;have b:=Ee h2;have a:∀(i:Int),∀p∈places r,LW (q,i) p:=λi p hp=> .inl (h1 _ (Bg.mp hp).1);show Ys ((q,0)::(q,1)::places r);refine AAM.mpr ⟨λp hp=> ?_,AAM.mpr ⟨a 1,b⟩⟩;rcases AAG.mp hp with rfl|hp
   .exact .inr ⟨rfl,by show (0:Int)<1;decide⟩
   .exact a 0 p hp
def D4 (ss:zy Cr):zy Rat:=ss.flatMap λs=>s.1::s.2.2.toList
def Ez (ss:zy Cr):zy Pl:=places (ON (D4 ss))
def Mq {B:Nat}{ss:zy Cr}(ok:∀s∈ss,F7 B s){s:Cr}(hs:s∈ss):bp s∈Ez ss/\∀x,ep s=some x->x∈Ez ss:=by
 refine⟨Bg.mpr ⟨DU.mpr (ABB.mpr ⟨s,hs,by simp[bp]⟩), ?_⟩,λx ex=> ?_⟩
 .have:=(ok s hs).h;unfold bp;simp only;omega
 .obtain ⟨e,he,rfl⟩:=ACb.mp ex;exact Bg.mpr ⟨DU.mpr (ABB.mpr ⟨s,hs,by simp[he]⟩), .inl rfl⟩
def R0 {B:Nat}{ss:zy Cr}(ok:∀s∈ss,F7 B s):JZ ss 0 (Ez ss):=by
 have h:=MW ok (Ez ss) none (Ee EX) (λp hp=>⟨True.intro,by rcases (Bg.mp hp).2 with z|z <;> omega⟩) (λs hs=>⟨.inr (Mq ok hs).1,λx ex=> .inr ((Mq ok hs).2 x ex)⟩);have:(ss.map λs=>e5 s none).sum=0:=by
  clear h ok;induction ss with
  | nil=>rfl
  | cons s ss a=> rw[AAN,AAp,a];unfold e5;cases ep s <;> rfl
 rw[this] at h;exact h
def un (k:FK):Rat:=mkRat k.1.1 k.1.2.toNat
def stepI (st:zy Cr×zt Pl)(x:Pl×zq):zy Cr×zt Pl:=
 match st.2,x.2 with
 | none,true=>(st.1,some x.1)
 | some b,false=>(st.1 ++ [(b.1,1-b.2,some x.1.1)],none)
 | _,_=>st
def R8 (st:zy Cr×zt Pl):zy Cr:=match st.2 with | none=>st.1|some b=>st.1 ++ [(b.1,1-b.2,none)]
def PF (X:zy (Pl×zq)):zy Cr:=R8 (X.foldl stepI ([],none))
theorem O4:∀{ss:zy Cr},(D4 ss).length<=2*ss.length
 | [] =>by simp[D4]
 | s::ss=>by
   have a:=O4 (ss:=ss);unfold D4 at *;rw[List.flatMap_cons,ABH,AAe,AAe];have:s.2.2.toList.length<=1:=by cases s.2.2 <;> simp
   omega
theorem M8:∀{qs:zy Rat},(places qs).length=2*qs.length
 | [] =>rfl
 | q::qs=>by have a:=M8 (qs:=qs);unfold places at *;rw[List.flatMap_cons,ABH,a,AAe];simp;omega
def UB (In key:Pl->zq):zq->zy Pl->Prop
 | _, [] =>True
 | c,p::r=>(key p=false->In p=c)/\UB In key (In p) r
def VX {st:zy Cr×zt Pl}{p:Pl}{i:zq}:(stepI st (p,i)).2.isSome=i:=by obtain⟨L,b⟩:=st;cases b <;> cases i <;> rfl
def VW {st:zy Cr×zt Pl}{p:Pl}{i:zq}(h:i=st.2.isSome):stepI st (p,i)=st:=by obtain⟨L,b⟩:=st;cases b <;> cases i <;> first | rfl|cases h
theorem Jx {In key:Pl->zq}:∀(X:zy Pl) (st:zy Cr×zt Pl),UB In key st.2.isSome X->(X.map λp=>(p,In p)).foldl stepI st=((X.filter key).map λp=>(p,In p)).foldl stepI st
 | [],st,_=>rfl
 | p::r,st,h=>by
   rw[AAN,ABQ,AB2];cases k:key p with
   | true=> rw[AAE rfl,AAN,ABQ];exact Jx r _ (by rw[VX];exact h.2)
   | false=> have e:=h.1 k;rw[AAD (by decide),VW e];exact Jx r st (by have:=h.2;rw[e] at this;exact this)
theorem NQ {ss:zy Cr}{key:Pl->zq}{n:Int}(hk:∀p,key p=false->cnt ss p=0):∀(X:zy Pl) (c:Int),JZ ss c X->UB (λp=>decide (n<=(Hn ss p:Int))) key (decide (n<=c)) X
 | [],_,_=>True.intro
 | p::r,c,h=>⟨λk=>(by show decide (n<=(Hn ss p:Int))=_;rw[h.1,hk p k,Int.add_zero]),NQ hk r _ h.2⟩
def canon (n:Int)(ss:zy Cr):zy Cr:=PF ((Ez ss).map λp=>(p,decide (n<=(Hn ss p:Int))))
def ZD {ss:zy Cr}{p:Pl}(h:¬lu ss p):cnt ss p=0:=by
 have key:∀ss:zy Cr,(∀s∈ss,¬(bp s=p\/ep s=some p))->cnt ss p=0:=by
  intro ss;induction ss with
  | nil=>intro _;rfl
  | cons s ss a=>
    intro h;have h1:=h s (by simp);have e:cnt (s::ss) p=S2 s p+cnt ss p:=by simp[cnt]
    rw[e,a λx hx=>h x (by simp[hx])];unfold S2;rw[AAD λz=>h1 (.inl z),AAD λz=>h1 (.inr z)];rfl
 exact key ss λs hs z=>h ⟨s,hs,z⟩
def QK {ss:zy Cr}{p:Pl}:decide ((1:Int)<=(Hn ss p:Int))=ss.any (Cq · p):=by
 rw[ACC,ADD,List.any_eq_true];unfold Hn;constructor
 .intro h;obtain⟨s,hs⟩:=List.exists_mem_of_length_pos (l:=ss.filter (Cq · p)) (by omega);have:=AAW.mp hs;exact⟨s,this.1,this.2⟩
 .rintro ⟨s,hs,h⟩;have:=List.length_pos_of_mem (AAW.mpr ⟨hs,h⟩:s∈ss.filter (Cq · p));omega
def D8 (In:Pl->zq):zy Pl->zt Pl->zy Cr
 | [],none=> []
 | [],some b=> [(b.1,1-b.2,none)]
 | p::r,none=>if In p=true then D8 In r (some p) else D8 In r none
 | p::r,some b=>if In p=true then D8 In r (some b) else (b.1,1-b.2,some p.1)::D8 In r none
theorem NC {In:Pl->zq}:∀(X:zy Pl) (a:zy Cr) (b:zt Pl),R8 ((X.map λp=>(p,In p)).foldl stepI (a,b))=a++D8 In X b
 | [],a,none=>by simp[R8,D8]
 | [],a,some b=>by simp[R8,D8]
 | p::r,a,none=>by
   rw[AAN,ABQ];unfold D8;cases e:In p with
   | true=>exact NC r a (some p)
   | false=>exact NC r a none
 | p::r,a,some b=>by
   rw[AAN,ABQ];unfold D8;cases e:In p with
   | true=>exact NC r a (some b)
   | false=> show R8 ((r.map λp=>(p,In p)).foldl stepI (a ++ [(b.1,1-b.2,some p.1)],none))=a++((b.1,1-b.2,some p.1)::D8 In r none);rw[NC r _ none];simp
def PH {In:Pl->zq}{X:zy Pl}:PF (X.map λp=>(p,In p))=D8 In X none:=by unfold PF;rw[NC];rfl
def LS {q p:Pl}{e:zt Rat}(a:q.2=0\/q.2=1)(hp:0<=p.2):Cq (q.1,1-q.2,e) p=(Nj q p&&(match e with | none=>true|some e=>decide (p.1<e))):=by unfold Cq Nj;congr 2;congr 1;exact AC0.mpr (by show 0<1-q.2+p.2↔q.2<=p.2;omega)
def Jb (In:Pl->zq):zq->zy Pl->Prop
 | _, [] =>True
 | c,p::r=>(c=true->In p=false->p.2=0)/\Jb In (In p) r
theorem Wk {In:Pl->zq}:∀(X:zy Pl),Ys X->(∀x∈X,x.2=0\/x.2=1)-> (Jb In false X->(∀p:Pl,0<=p.2->(∀x∈X,LW p x)->(D8 In X none).any (Cq · p)=false)/\∀p∈X,(D8 In X none).any (Cq · p)=In p)/\ (Jb In true X->∀q:Pl,(q.2=0\/q.2=1)->(∀x∈X,LW q x)->(∀p:Pl,0<=p.2->(∀x∈X,LW p x)->(D8 In X (some q)).any (Cq · p)=Nj q p)/\∀p∈X,(D8 In X (some q)).any (Cq · p)=In p)
 | [],_,_=>⟨λ_=>⟨λp _ _=>rfl,λp hp=>by cases hp⟩,λ_ q f _=>⟨λp hp _=>by show (Cq (q.1,1-q.2,none) p||false)=_;rw[LS f hp];simp,λp hp=>by cases hp⟩⟩
 | x::r,hs,Tn=>by
   obtain⟨h1,h2⟩:=AAM.mp hs;have k:=Wk (In:=In) r h2 λy l=>Tn y (by simp[l]);have m:=Tn x (by simp);have g:0<=x.2:=by omega
   have i:∀p:Pl,(∀y∈x::r,LW p y)->∀y∈r,LW p y:=λp h y l=>h y (by simp[l]);have o:∀p:Pl,LW p x->Nj x p=false:=λp h=>by
    rw[<-Bool.not_eq_true,GP];rintro(z|z)
    .exact LX (Jo z h)
    .rw [z] at h;exact LX h
   have s:Nj x x=true:=GP.mpr (.inr rfl);refine⟨λhd=> ?_,λhd q f n=> ?_⟩
   .unfold D8;cases e:In x with
    | true=>
      have a:=hd.2;rw[e] at a;obtain⟨b,d⟩:=k.2 a x m h1;rw[AAE rfl];refine⟨λp c hp=> ?_,λp hp=> ?_⟩
      .rw [b p c (i p hp),o p (hp x (by simp))]
      .rcases AAG.mp hp with rfl|hp
       .rw [b p g h1,s,e]
       .exact d p hp
    | false=>
      have a:=hd.2;rw[e] at a;obtain⟨b,d⟩:=k.1 a;rw[AAD (by decide)];refine⟨λp c hp=>b p c (i p hp),λp hp=> ?_⟩;rcases AAG.mp hp with rfl|hp
      .rw [b p g h1,e]
      .exact d p hp
   .unfold D8;have t:Nj q x=true:=GP.mpr (.inl (n x (by simp)));cases e:In x with
    | true=>
      have a:=hd.2;rw[e] at a;obtain⟨b,d⟩:=k.2 a q f (i q n);rw[AAE rfl];refine⟨λp c hp=>b p c (i p hp),λp hp=> ?_⟩;rcases AAG.mp hp with rfl|hp
      .rw [b p g h1,t,e]
      .exact d p hp
    | false=>
      have a:=hd.2;rw[e] at a;obtain⟨b,d⟩:=k.1 a;have v:=hd.1 rfl e;rw[AAD (by decide)];have j:∀p:Pl,(p=x\/LW x p)->¬p.1<x.1:=λp h=>by rcases h with h|h|⟨h,_⟩ <;> grind
      refine⟨λp c hp=> ?_,λp hp=> ?_⟩
      .have u:p.1<x.1:=by
        rcases hp x (by simp) with z|⟨_,z⟩
        .exact z
        .omega
       show (Cq (q.1,1-q.2,some x.1) p||(D8 In r none).any (Cq · p))=_;rw[LS f c,b p c (i p hp)];simp[u]
      .show (Cq (q.1,1-q.2,some x.1) p||(D8 In r none).any (Cq · p))=_;rcases AAG.mp hp with rfl|hp
       .rw [LS f g,b p g h1,e];simp[j p (.inl rfl)]
       .rw [LS f (by have:=Tn p (by simp[hp]);omega),d p hp];simp[j p (.inr (h1 p hp))]
theorem S8 {In:Pl->zq}(P:Rat->Prop):∀(X:zy Pl) (b:zt Pl),Ys X->(∀x∈X,(x.2=0\/x.2=1)/\P x.1)->Jb In b.isSome X->(∀q,b=some q->(q.2=0\/q.2=1)/\P q.1/\∀x∈X,LW q x)-> ∀s∈D8 In X b,P s.1/\(s.2.1=0\/s.2.1=1)/\∀e,s.2.2=some e->s.1<e/\P e
 | [],none,_,_,_,_=>λs hs=>by cases hs
 | [],some q,_,_,_,hb=>λs hs=>by obtain⟨h1,h2,_⟩:=hb q rfl;simp only[D8,AAf] at hs;subst hs;exact⟨h2,by show 1-q.2=0\/1-q.2=1;omega,λe he=>by cases he⟩
 | x::r,b,hs,Tn,hd,hb=>by
   obtain⟨h1,h2⟩:=AAM.mp hs;have f:=λb d hb=>S8 (In:=In) P r b h2 (λy g=>Tn y (by simp[g])) d hb;have a:=hd.2;cases b with
   | none=>
     unfold D8;cases e:In x with
     | true=> rw[AAE rfl];rw[e] at a;exact f (some x) a λq c=>by cases c;exact⟨(Tn x (by simp)).1,(Tn x (by simp)).2,h1⟩
     | false=> rw[AAD (by decide)];rw[e] at a;exact f none a λq c=>by cases c
   | some q=>
     obtain⟨j,h,i⟩:=hb q rfl;unfold D8;cases e:In x with
     | true=> rw[AAE rfl];rw[e] at a;exact f (some q) a λk c=>by cases c;exact⟨j,h,λy g=>i y (by simp[g])⟩
     | false=>
       rw[AAD (by decide)];rw[e] at a;have l:=hd.1 rfl e;intro s hs;rcases AAG.mp hs with rfl|hs
       .refine ⟨h,by show 1-q.2=0\/1-q.2=1;omega,λe' he=> ?_⟩;cases he;refine⟨?_,(Tn x (by simp)).2⟩;rcases i x (by simp) with z|⟨_,z⟩
        .exact z
        .omega
       .exact f none a (λq c=>by cases c) s hs
theorem Hc {ss:zy Cr}:∀(X:zy Pl) (c:Int),(∀x∈X,x.2=0\/x.2=1)->JZ ss c X->Jb (λp=>ss.any (Cq · p)) (decide (1<=c)) X
 | [],_,_,_=>True.intro
 | p::r,c,Tn,h=>by
   have a:=Hc r (Hn ss p) (λx hx=>Tn x (by simp[hx])) h.2;rw[QK] at a;refine⟨λhc hi=> ?_,a⟩;rcases Tn p (by simp) with z|z
   .exact z
   .have hc:1<=c:=by simpa using hc
    have hi:ss.any (Cq · p)=false:=hi;rw[<-QK] at hi;have hi:¬(1:Int)<=Hn ss p:=by simpa using hi
    have c0:0<=cnt ss p:=by
     have go:∀ss:zy Cr,0<=cnt ss p:=by
      intro ss;induction ss with
      | nil=>exact ADE _
      | cons s ss a=>
        have e:cnt (s::ss) p=S2 s p+cnt ss p:=by simp[cnt]
        have o:0<=S2 s p:=by
         unfold S2;have:¬ep s=some p:=λy=>by obtain⟨e',_,b⟩:=ACb.mp y;have:(0:Int)=p.2:=congrArg Prod.snd b;omega
         rw[AAD this];split <;> decide
        omega
     exact go ss
    have:=h.1;omega
def Wu {ss:zy Cr}:∀x∈Ez ss,x.2=0\/x.2=1:=λx hx=>(Bg.mp hx).2
def XT {ss:zy Cr}:canon 1 ss=D8 (λp=>ss.any (Cq · p)) (Ez ss) none:=by unfold canon;rw[<-PH];congr 1;apply ABd;intro p _;rw[QK]
def VT {ss:zy Cr}{B:Nat}(ok:∀s∈ss,F7 B s):Jb (λp=>ss.any (Cq · p)) false (Ez ss):=Hc (Ez ss) 0 Wu (R0 ok)
def UL {ss:zy Cr}{B:Nat}(ok:∀s∈ss,F7 B s):∀s∈canon 1 ss,s.1∈D4 ss/\(s.2.1=0\/s.2.1=1)/\∀e,s.2.2=some e->s.1<e/\e∈D4 ss:=by rw[XT];exact S8 (· ∈D4 ss) (Ez ss) none (Ee EX) (λx hx=>⟨Wu x hx,DU.mp (Bg.mp hx).1⟩) (VT ok) λq a=>by cases a
def WS {ss:zy Cr}{B:Nat}(ok:∀s∈ss,F7 B s):∀x∈D4 ss,Bd B x:=λx h=>by
 obtain⟨s,hs,hx⟩:=ABB.mp h;rcases AAG.mp hx with rfl|hx
 .exact (ok s hs).b
 .exact ((ok s hs).e x (by simpa using hx)).2
def ZA {ss:zy Cr}{B:Nat}(ok:∀s∈ss,F7 B s):∀s∈canon 1 ss,F7 B s:=λs hs=>by obtain⟨h1,h2,h3⟩:=UL ok s hs;exact⟨WS ok _ h1,h2,λe he=>⟨(h3 e he).1,WS ok _ (h3 e he).2⟩⟩
theorem HK (f:Rat->zq):∀qs:zy Rat,(places qs).filter (λp=>f p.1)=places (qs.filter f)
 | [] =>rfl
 | q::qs=>by show ((q,0)::(q,1)::places qs).filter (λp=>f p.1)=_;rw[AB2,AB2,AB2,HK f qs];cases f q <;> rfl
def C8 (ms:zy Rat)(ss:zy Cr):zy Pl:=places (ON (ms++D4 ss))
def Ig {B:Nat}{ms:zy Rat}{ss:zy Cr}(ok:∀s∈ss,F7 B s):JZ ss 0 (C8 ms ss):=by
 have c:∀s∈ss,bp s∈C8 ms ss/\∀x,ep s=some x->x∈C8 ms ss:=λs hs=>by
  obtain⟨h1,h2⟩:=Mq ok hs;have d:∀x∈Ez ss,x∈C8 ms ss:=λx hx=>by obtain⟨a,b⟩:=Bg.mp hx;exact Bg.mpr ⟨DU.mpr (AAk _ (DU.mp a)),b⟩
  exact⟨d _ h1,λx ex=>d _ (h2 x ex)⟩
 have h:=MW ok (C8 ms ss) none (Ee EX) (λp hp=>⟨True.intro,by rcases (Bg.mp hp).2 with z|z <;> omega⟩) (λs hs=>⟨.inr (c s hs).1,λx ex=> .inr ((c s hs).2 x ex)⟩);have z:(ss.map λs=>e5 s none).sum=0:=by
  clear h c ok;induction ss with
  | nil=>rfl
  | cons s ss e=> rw[AAN,AAp,e];unfold e5;cases ep s <;> rfl
 rw[z] at h;exact h
def UK {B:Nat}{ms:zy Rat}{ss:zy Cr}{n:Int}(ok:∀s∈ss,F7 B s)(c:0<n):PF ((C8 ms ss).map λp=>(p,decide (n<=(Hn ss p:Int))))=canon n ss:=by
 have hk:∀p:Pl,decide (p.1∈D4 ss)=false->cnt ss p=0:=λp hp=>ZD λ⟨s,hs,z⟩=>by
  have hp:¬p.1∈D4 ss:=by simpa using hp
  refine hp (ABB.mpr ⟨s,hs, ?_⟩);rcases z with z|z
  .rw [<-z];simp[bp]
  .obtain ⟨e',he,rfl⟩:=ACb.mp z;simp[he]
 have a:=NQ (n:=n) (ss:=ss) (key:=λp=>decide (p.1∈D4 ss)) hk (C8 ms ss) 0 (Ig ok);rw[AAc (by omega)] at a;have h:=Jx (C8 ms ss) ([],none) a;have b:(C8 ms ss).filter (λp=>decide (p.1∈D4 ss))=Ez ss:=by unfold C8 Ez;rw[HK (λx=>decide (x∈D4 ss))];congr 1;refine Wv (EX.filter _) EX λx=> ?_;rw[AAW,DU,DU,ADD];exact⟨λh=>h.2,λh=>⟨AAk _ h,h⟩⟩
 rw[b] at h;show R8 _=R8 _;rw[h]
def Ry {B:Nat}{ss:zy Cr}(ok:∀s∈ss,F7 B s){p:Pl}(hp:p.2=0\/p.2=1):(canon 1 ss).any (Cq · p)=ss.any (Cq · p):=by
 have b:p∈C8 [p.1] ss:=Bg.mpr ⟨DU.mpr (by simp),hp⟩;have a:∀x∈C8 [p.1] ss,x.2=0\/x.2=1:=λx hx=>(Bg.mp hx).2;have c:=Hc (C8 [p.1] ss) 0 a (Ig ok);have e:canon 1 ss=D8 (λp=>ss.any (Cq · p)) (C8 [p.1] ss) none:=by rw[<-UK (ms:= [p.1]) ok (by decide),<-PH];congr 1;apply ABd;intro q _;rw[QK]
 rw[e];exact((Wk (C8 [p.1] ss) (Ee EX) a).1 c).2 p b
def hN (L:zy Cr)(p:Pl):Nat:=(L.filter (Cq · p)).length
theorem Ma:∀(X:zy (Pl×zq)) (st:zy Cr×zt Pl),2*(X.foldl stepI st).1.length+(if (X.foldl stepI st).2.isSome then 1 else 0)<=2*st.1.length+(if st.2.isSome then 1 else 0)+X.length
 | [],st=>AAJ _
 | x::X,st=>by
   have h1:=Ma X (stepI st x);have h2:2*(stepI st x).1.length+(if (stepI st x).2.isSome then 1 else 0)<=2*st.1.length+(if st.2.isSome then 1 else 0)+1:=by obtain⟨L,b⟩:=st;obtain⟨p,c⟩:=x;cases b <;> cases c <;> simp[stepI] <;> omega
   rw[ABQ,AAe];omega
def YG (X:zy (Pl×zq)):2*(PF X).length<=X.length+1:=by have h:=Ma X ([],none);unfold PF;generalize X.foldl stepI ([],none)=st at *;obtain⟨L,b⟩:=st;cases b <;> simp[R8] at * <;> omega
def UJ {n:Int}{ss:zy Cr}:(canon n ss).length<=2*ss.length:=by unfold canon Ez;have h:=YG ((places (ON (D4 ss))).map λp=>(p,decide (n<=(Hn ss p:Int))));have a:=af (xs:=D4 ss);have b:=O4 (ss:=ss);have c:=M8 (qs:=ON (D4 ss));rw[AAL] at h;omega
def lt_size {k n:Nat}(h:k<=n)(a:n<1000000):k<sizeLine:=AAQ h (AAP a (ABe rfl))
def lin (p q:T3)(s:Rat):T3:=(p.1+s*(q.1-p.1),p.2.1+s*(q.2.1-p.2.1),p.2.2+s*(q.2.2-p.2.2))
def iG {a D b e m x X:Rat}(c:D≠0)(h:e-b≠0):x+(m-a)/D*X=(x+(b-a)/D*X)+(m-b)/(e-b)*((x+(e-a)/D*X)-(x+(b-a)/D*X)):=by grind
def Xo {a c:C4}{b e m:Rat}(h1:a.1<c.1)(h2:b<e):inter a c m=lin (inter a c b) (inter a c e) ((m-b)/(e-b)):=by
 have d:c.1-a.1≠0:=by grind
 have f:e-b≠0:=by grind
 simp only[inter,lin];rw[<-iG d f,<-iG d f,<-iG d f]
def Zq (p q:T3):lin p q 0=p:=by obtain⟨a,b,c⟩:=p;simp[lin,Rat.zero_mul,AAy]
theorem KB {b e m:Rat}{p q:T3}(f:b<e)(h1:b<=m)(h2:m<=e):∀{a:C4} {r:zy C4},E5 (a::r)->(∀c∈r,¬(b<c.1/\c.1<e))->spotG a r b=some p->spotG a r e=some q->spotG a r m=some (lin p q ((m-b)/(e-b)))
 | a, [],_,_,hp,_=>by cases hp
 | a,c::r,hr,hn,hp,hq=>by
   have g:=(AAM.mp hr).1 c (by simp);have h:E5 (c::r):=(AAM.mp hr).2;by_cases i:c.1<b
   .simp only[spotG] at hp hq ⊢;rw[AAE i] at hp;rw[AAE (by grind)] at hq ⊢;exact KB f h1 h2 h (λx hx=>hn x (by simp[hx])) hp hq
   .simp only[spotG] at hp hq ⊢;rw[AAD i] at hp;by_cases k:b=c.1
    .subst k;rw[Hh g] at hp;cases hp;by_cases j:c.1<m
     .rw [AAE j];rw[AAE (by grind)] at hq;refine KB f h1 h2 h (λx hx=>hn x (by simp[hx])) ?_ hq;cases r with
      | nil=>cases hq
      | cons d r=> have l:=(AAM.mp h).1 d (by simp);simp only[spotG];rw[AAD (by grind),KS l]
     .have n:m=c.1:=by grind
      subst n;rw[AAD j,Hh g];have z:(c.1-c.1)/(e-c.1)=0:=by grind
      rw[z,Zq]
    .have o:¬c.1<e:=λz=>hn c (by simp) ⟨by grind,z⟩;cases hp;rw[AAD o] at hq;cases hq;rw[AAD (by grind)];rw[<-Xo g f]
def PN {b e m:Rat}{p q:T3}{cs:zy C4}(f:E5 cs)(g:b<e)(h1:b<=m)(h2:m<=e)(h:∀c∈cs,¬(b<c.1/\c.1<e))(hp:spotC cs b=some p)(d:spotC cs e=some q):spotC cs m=some (lin p q ((m-b)/(e-b))):=by
 cases cs with
 | nil=>cases hp
 | cons a r=>
   simp only[spotC] at hp d ⊢;by_cases k:b<a.1
   .rw [AAE k] at hp;cases hp
   .rw [AAD k] at hp;rw[AAD (by grind)] at d ⊢;exact KB g h1 h2 f (λc hc=>h c (by simp[hc])) hp d
abbrev HR:AS:=
 (Ad (FH (LA (aV 0)) (HX 2 (AZ (Am 2) (AZ (Am 3) Be))) (XH 1 CS (AX P9 (aV 3) (AN 2 FD (AB (aV 1) (AB (aV 3) AL))))))
   (Ar (aV 1)))
abbrev F1:AS:=
 (Ad (Ao (aC (.int 1)) (Am 1))
   HR)
def CB:AF:=Ap 4 F1
def JC {a:PV}{Q:PV->Prop}(h:F1 ⟨λ_=>Q .non,Q,λ_=>False,λ_=>False⟩ [some (.val a),none,none,none]):CB [a] Q:=h
def FX (xs:zy Rat):Nat:=xs.foldl (λN r=>N*(r.den/Nat.gcd N r.den)) 1
def RH (xs:zy Rat)(r:Rat):FX (xs ++ [r])=FX xs*(r.den/Nat.gcd (FX xs) r.den):=by unfold FX;rw[ACc];rfl
def d6 {N d:Nat}(hN:0<N)(hd:0<d):0<N*(d/Nat.gcd N d)/\N ∣ N*(d/Nat.gcd N d)/\d ∣ N*(d/Nat.gcd N d)/\N*(d/Nat.gcd N d)<=N*d:=by have g:Nat.gcd N d ∣ d:=ABv ..;have a:0<Nat.gcd N d:=ACK _ hd;refine⟨AAs hN (Nat.div_pos (ABx hd g) a),Nat.dvd_mul_right .., ?_,AAm _ (ABt ..)⟩;rw[<-Nat.mul_div_assoc _ g];exact Nat.dvd_lcm_right ..
theorem Gg {W:Nat}:∀(n:Nat) (xs:zy Rat),xs.length=n->(∀x∈xs,Bd W x)->0<FX xs/\(∀x∈xs,x.den ∣ FX xs)/\FX xs<2^(n*W+1)
 | 0,xs,e,_=>by have:xs= [] :=ADy.mp e;subst this;exact⟨by decide,by simp,by simp[FX]⟩
 | n+1,xs,e,h=>by
   obtain⟨a,r,rfl⟩:∃a r,xs=a ++ [r] :=⟨xs.dropLast,xs.getLast (by intro z;subst z;cases e),(ADz _).symm⟩;have b:a.length=n:=by simpa using e
   obtain⟨h1,h2,h3⟩:=Gg n a b λx hx=>h x (by simp[hx]);have c:=(h r (by simp)).bot;rw[RH];obtain⟨d,f,g,i⟩:=d6 h1 r.den_pos;refine⟨d,λx hx=> ?_, ?_⟩
   .rcases AAR.mp hx with hx|hx
    .exact AD0 (h2 x hx) f
    .simp at hx;subst hx;exact g
   .refine AAQ i ?_;have:=Uu h3 c;rw[show n*W+1+W=(n+1)*W+1 by rw[ACL];omega] at this;exact this
def RZ (N:Nat)(r:Rat):Int:=r.num*((N:Int).fdiv (r.den:Int))
def Ft {N:Nat}{r:Rat}(h:r.den ∣ N):(RZ N r:Rat)=r*N:=by
 obtain⟨k,rfl⟩:=h;have hd:=r.den_pos;unfold RZ;rw[AC1,Int.mul_fdiv_cancel_left _ (by omega),AAn];have b:((r.den:Int):Rat)≠0:=λz=>by have:(r.den:Int)=0:=ADF.mp z;omega
 have e:r=(r.num:Rat)/((r.den:Int):Rat):=by rw[<-ACe,AA9]
 have a:r*((r.den:Int):Rat)=r.num:=by
  conv=>lhs;arg 1;rw[e]
  grind
 rw[<-a,show ((r.den*k:Nat):Rat)=((r.den:Int):Rat)*((k:Int):Rat) by rw[<-AAn,<-AC1,ABg]];grind
structure Pc where
 b:Rat
 e:Rat
 o0:T3
 o1:T3
def Pc.six (p:Pc):zy Rat:= [p.o0.1,p.o0.2.1,p.o0.2.2,p.o1.1,p.o1.2.1,p.o1.2.2]
def Pc.N (p:Pc):Nat:=FX p.six
def KF (cs ds:zy C4)(b e:Rat):zy Rat:=ON ([b,e] ++ ((cs.filter (j9 b e)++ds.filter (j9 b e)).map (·.1)))
def KG {cs ds:zy C4}{b e x:Rat}:x∈KF cs ds b e↔x=b\/x=e\/(b<x/\x<e/\∃c,(c∈cs\/c∈ds)/\c.1=x):=by
 unfold KF;rw[DU];simp only[AC7,AB0,AAG,AAI,AAR,AAW,j9,AAx,ACY];constructor
 .rintro (h|h|⟨c,h,rfl⟩)
  .exact .inl h
  .exact .inr (.inl h)
  .rcases h with⟨h1,h2,h3⟩|⟨h1,h2,h3⟩
   .exact .inr (.inr ⟨h2,h3,c, .inl h1,rfl⟩)
   .exact .inr (.inr ⟨h2,h3,c, .inr h1,rfl⟩)
 .rintro (h|h|⟨h1,h2,c,h,rfl⟩)
  .exact .inl h
  .exact .inr (.inl h)
  .exact .inr (.inr ⟨c,h.elim (λh=> .inl ⟨h,h1,h2⟩) (λh=> .inr ⟨h,h1,h2⟩),rfl⟩)
def Yg (cs ds:zy C4)(d:Rat×Rat)(m:Rat):T3:=Zx ((spotC cs m).getD (0,0,0)) ((spotC ds m).getD (0,0,0)) d
def mO (cs ds:zy C4)(d:Rat×Rat)(a:zy Rat):zy Pc:=(a.zip a.tail).map λp=>⟨p.1,p.2,Yg cs ds d p.1,Yg cs ds d p.2⟩
structure sn (cs ds:List C4) (b e:Rat):Prop where
 lt:b<e
 one:∀m,b<=m->m<=e->∃t,spotC cs m=some t
 other:∀m,b<=m->m<=e->∃t,spotC ds m=some t
def jl {a l b c:C4}{r d:zy C4}(f:r≠ [])(g:d≠ [])(i:(a::r).getLast?=some l)(e:(b::d).getLast?=some c)(h:mx a.1 b.1<mn l.1 c.1):sn (a::r) (b::d) (mx a.1 b.1) (mn l.1 c.1):=by
 have j:a.1<=mx a.1 b.1:=by unfold mx;split <;> grind
 have k:b.1<=mx a.1 b.1:=by unfold mx;split <;> grind
 have n:mn l.1 c.1<=l.1:=by unfold mn;split <;> grind
 have o:mn l.1 c.1<=c.1:=by unfold mn;split <;> grind
 exact⟨h,λm h1 h2=>Dq f i (by grind) (by grind),λm h1 h2=>Dq g e (by grind) (by grind)⟩
def YV {cs ds:zy C4}{b e:Rat}:bg (KF cs ds b e):=EX
def bT {cs ds:zy C4}{b e x:Rat}(h:b<e)(hx:x∈KF cs ds b e):b<=x/\x<=e:=by rcases KG.mp hx with rfl|rfl|⟨h1,h2,_⟩ <;> exact⟨by grind,by grind⟩
def bS {cs ds:zy C4}{b e x:Rat}{M:Nat}(hc:∀c∈cs,Bd M c.1)(a:∀c∈ds,Bd M c.1)(d:Bd M b)(f:Bd M e)(hx:x∈KF cs ds b e):Bd M x:=by
 rcases KG.mp hx with rfl|rfl|⟨_,_,c,h,rfl⟩
 .exact d
 .exact f
 .rcases h with h|h
  .exact hc c h
  .exact a c h
def ZQ (cs:zy C4):Rat:=(cs.head?.getD (0,0,0,0)).1
def lstM (cs:zy C4):Rat:=(cs.getLast?.getD (0,0,0,0)).1
def MT (cs ds:zy C4):Rat:=mx (ZQ cs) (ZQ ds)
def MX (cs ds:zy C4):Rat:=mn (lstM cs) (lstM ds)
def nn (cs ds:zy C4):zy Rat:=KF cs ds (MT cs ds) (MX cs ds)
structure Tj (cs ds:List C4) (d:Rat×Rat) (M W:Nat):Prop where
 c1:∀c∈cs,D6 150 c
 c2:∀c∈ds,D6 150 c
 r1:E5 cs
 r2:E5 ds
 t1:2<=cs.length
 t2:2<=ds.length
 f1:cs.length<=100
 f2:ds.length<=100
 m1:∀c∈cs,Bd M c.1
 m2:∀c∈ds,Bd M c.1
 b1:Bd 100 d.1
 b2:Bd 100 d.2
 p1:0<d.1
 p2:0<d.2
 w:MT cs ds<MX cs ds->∀m∈nn cs ds,F2 W (Yg cs ds d m)
 hM:M<=150
 hW:W<=1050
def open2 {cs:zy C4}(h:2<=cs.length):∃a r l,cs=a::r/\r≠ [] /\(a::r).getLast?=some l:=by
 match cs,h with
 | a::b::r,_=> obtain⟨l,c⟩:∃l,(a::b::r).getLast?=some l:=⟨_,ACa (by simp)⟩;exact⟨a,b::r,l,rfl,by simp,c⟩
def WA {a:C4}{r:zy C4}:ZQ (a::r)=a.1:=rfl
def LV {cs:zy C4}{l:C4}(e:cs.getLast?=some l):lstM cs=l.1:=by unfold lstM;rw[e];rfl
section
variable {cs ds:zy C4}{d:Rat×Rat}{M W:Nat}
theorem Tj.fstB (D:Tj cs ds d M W):Bd M (ZQ cs):=by obtain⟨a,r,l,rfl,b,c⟩:=open2 D.t1;exact D.m1 a (by simp)
theorem Tj.fstB2 (D:Tj cs ds d M W):Bd M (ZQ ds):=by obtain⟨a,r,l,rfl,b,c⟩:=open2 D.t2;exact D.m2 a (by simp)
theorem Tj.lstB (D:Tj cs ds d M W):Bd M (lstM cs):=by obtain⟨a,r,l,rfl,c,b⟩:=open2 D.t1;rw[LV b];exact D.m1 l (AB1 b)
theorem Tj.lstB2 (D:Tj cs ds d M W):Bd M (lstM ds):=by obtain⟨a,r,l,rfl,c,b⟩:=open2 D.t2;rw[LV b];exact D.m2 l (AB1 b)
theorem Tj.begB (D:Tj cs ds d M W):Bd M (MT cs ds):=D.fstB.mx D.fstB2
theorem Tj.endB (D:Tj cs ds d M W):Bd M (MX cs ds):=D.lstB.mn D.lstB2
theorem Tj.tog (D:Tj cs ds d M W)(h:MT cs ds<MX cs ds):sn cs ds (MT cs ds) (MX cs ds):=by obtain⟨a,r,l,rfl,e,c⟩:=open2 D.t1;obtain⟨g,i,j,rfl,f,b⟩:=open2 D.t2;unfold MT MX at h ⊢;rw[WA,WA,LV c,LV b] at h ⊢;exact jl e f c b h
end
def qo (cs ds:zy C4)(d:Rat×Rat):zy Pc:=if MT cs ds<MX cs ds then mO cs ds d (nn cs ds) else []
abbrev Nr:AS:=
 (Ad (Ao (HG Cc (AB (G4 (Bs (LA (aV 0)) 2 [3] (HX 2 (AZ (Am 0) (AZ (Am 1) Be))) Dh (AX CS (aV 0) (AX P9 (aV 2) (aV 1))))) AL)) (Am 4))
   (Ar (An (AB (aV 4) (AB (aV 1) (AB (Y1 (aV 2) (aV 3)) AL))))))
abbrev Lu:AS:=
 (Ad (Ao (AN 1 CB (AB (aV 0) AL)) (Am 3))
   Nr)
def EN:AF:=Ap 5 Lu
def Q7 {a b c:PV}{Q:PV->Prop}(h:Lu ⟨λ_=>Q .non,Q,λ_=>False,λ_=>False⟩ [some (.val a),some (.val b),some (.val c),none,none]):EN [a,b,c] Q:=h
abbrev Rk:AS:=
 (Ad (Y2 5 6 7 1 3 (AX Af (aV 0) (aC (.int 2))) (AX Af (aV 2) (aC (.int 2))))
   (Ar (An (AB (aV 4) (AB (HG (gj max) (AB (AX Af (aV 0) (aC (.int 1))) (AB (AX Af (aV 2) (aC (.int 1))) AL))) (AB (aV 5) AL))))))
abbrev Rj:AS:=
 (Ad (Ao (HG Cc (AB (G4 (Bs (j8 (AB (AX Af (aV 0) (aC (.int 0))) (AB (AX Af (aV 2) (aC (.int 0))) AL))) 2 [1,3] (HX 2 (AZ (Am 0) (AZ (Am 1) Be))) Dh (AX Bf (AX CS (aV 2) (aV 0)) (AX CS (aV 3) (aV 1))))) AL)) (Am 4))
   Rk)
def GJ:AF:=Ap 8 Rj
def VC {a b c d:PV}{Q:PV->Prop}(h:Rj ⟨λ_=>Q .non,Q,λ_=>False,λ_=>False⟩ [some (.val a),some (.val b),some (.val c),some (.val d),none,none,none,none]):GJ [a,b,c,d] Q:=h
abbrev OW:AS:=
 (Ar (AN 4 GJ (AB (aV 0) (AB (UE MY (AX Af (AX Af (aV 1) (aC (.int 0))) (aV 2))) (AB (aV 1) (AB (AX Af (AX Af (aV 0) (aC (.int 0))) (aV 2)) AL))))))
def EG:AF:=Ap 3 OW
def S9 {a b c:PV}{Q:PV->Prop}(h:OW ⟨λ_=>Q .non,Q,λ_=>False,λ_=>False⟩ [some (.val a),some (.val b),some (.val c)]):EG [a,b,c] Q:=h
abbrev Lq:AS:=
 (Ad (Ao (AX Af (AX Af (aV 0) (aC (.int 0))) (aC (.int 0))) (Am 1))
   (Ar (pZ (AX ZI (aV 1) (aC (.int 0))) (Yz (AX Tl (aV 1) (aC (.int 0))) (AX Tl (AX Af (aV 0) (aC (.int 1))) (aC (.int 1)))))))
def Db:AF:=Ap 2 Lq
def Q4 {a:PV}{Q:PV->Prop}(h:Lq ⟨λ_=>Q .non,Q,λ_=>False,λ_=>False⟩ [some (.val a),none]):Db [a] Q:=h
abbrev Pn:AS:=
 (Ad (Ao (AX Af (AX Af (aV 0) (aC (.int 0))) (aV 1)) (Am 3))
   (Ar (j7 (BH (AX ZH (aV 3) (aC (.int 0)))) (An (AB (UE MY (aV 2)) (AB (aV 3) AL))) (An (AB (aV 2) (AB (UE MY (aV 3)) AL))))))
abbrev Od:AS:=
 (Ad (Ao (AX Af (AX Af (aV 0) (aC (.int 0))) (aC (.int 0))) (Am 2))
   Pn)
def DC:AF:=Ap 4 Od
def TK {a b:PV}{Q:PV->Prop}(h:Od ⟨λ_=>Q .non,Q,λ_=>False,λ_=>False⟩ [some (.val a),some (.val b),none,none]):DC [a,b] Q:=h
abbrev Kq:AS:=
 (Ad (CH (BH (AN 2 A0 (AB (aV 4) (AB (aV 3) AL)))) (Ar (AX ZH (AX Af (AX Af (aV 0) (aC (.int 0))) (aV 2)) (aC (.int 0)))) BO)
   (Ar (AX ZH (AX Af (aV 0) (aC (.int 1))) (AX Af (aV 1) (aC (.int 1))))))
abbrev Ko:AS:=
 (Ad (CH (BH (AN 2 A0 (AB (aV 3) (AB (aV 4) AL)))) (Ar (AX ZI (AX Af (AX Af (aV 0) (aC (.int 0))) (aV 2)) (aC (.int 0)))) BO)
   Kq)
abbrev Kk:AS:=
 (Ad (Ao (AN 2 DC (AB (aV 1) (AB (aV 2) AL))) (Am 4))
   Ko)
abbrev IN:AS:=
 (Ad (Ao (AN 2 DC (AB (aV 0) (AB (aV 2) AL))) (Am 3))
   Kk)
def DN:AF:=Ap 5 IN
def ND {a b c:PV}{Q:PV->Prop}(h:IN ⟨λ_=>Q .non,Q,λ_=>False,λ_=>False⟩ [some (.val a),some (.val b),some (.val c),none,none]):DN [a,b,c] Q:=h
abbrev N0:AS:=
 (Ad (FH (LA (aV 0)) (Am 4) (CH (Vo (BH (AX ZH (AX CS (AX Af (AX Af (aV 4) (aC (.int 0))) (aV 1)) (aV 2)) (aC (.int 0)))) (UD (BH (AX Xa (aV 3) (aC .non))) (BH (AN 3 DN (AB (aV 4) (AB (aV 3) (AB (aV 1) AL))))))) (Ao (aV 4) (Am 3)) BO))
   (Ar (aV 3)))
abbrev L5:AS:=
 (Ad (Ao (aC .non) (Am 3))
   N0)
def CV:AF:=Ap 5 L5
def RA {a b c:PV}{Q:PV->Prop}(h:L5 ⟨λ_=>Q .non,Q,λ_=>False,λ_=>False⟩ [some (.val a),some (.val b),some (.val c),none,none]):CV [a,b,c] Q:=h
abbrev Nq:AS:=
 (Ad (Ao (AN 3 EG (AB (AN 3 CV (AB (aV 0) (AB (aV 1) (AB (aC (.int 1)) AL)))) (AB (aV 3) (AB (aV 1) AL)))) (Am 4))
   (Ar (j7 (BH (AN 1 Db (AB (aV 4) AL))) (aV 4) (aC .non))))
abbrev Np:AS:=
 (Ad (CH (BH (AX Xa (aV 3) (aC .non))) (Ar (aC .non)) BO)
   Nq)
abbrev Nn:AS:=
 (Ad (Ao (AN 3 CV (AB (aV 0) (AB (aV 1) (AB (UE MY (aC (.int 1))) AL)))) (Am 3))
   Np)
abbrev Lp:AS:=
 (Ad (FH (LA (aV 0)) (Am 2) (CH (Vo (BH (AX Tl (AX Af (AX Af (aV 2) (aC (.int 0))) (aV 1)) (aC (.int 0)))) (BH (AN 1 Db (AB (aV 2) AL)))) (Ar (aV 2)) BO))
   Nn)
def DZ:AF:=Ap 5 Lp
def Q3 {a b:PV}{Q:PV->Prop}(h:Lp ⟨λ_=>Q .non,Q,λ_=>False,λ_=>False⟩ [some (.val a),some (.val b),none,none,none]):DZ [a,b] Q:=h
abbrev Nx:AS:=
 (Ad (Ao (AN 2 DC (AB (aV 4) (AB (aV 1) AL))) (Am 5))
   (Ar (An (AB (aV 3) (AB (AX Il (aC (.int 1)) (AX Af (aV 2) (aC (.int 1)))) (AB (AN 2 Fb (AB (AX Af (aV 5) (aC (.int 0))) (AB (AX Af (aV 5) (aC (.int 1))) AL))) AL))))))
abbrev Nw:AS:=
 (Ad (CH (BH (AX Xa (aV 4) (aC .non))) (Ar (An (AB (aV 3) (AB (AX Il (aC (.int 1)) (AX Af (aV 2) (aC (.int 1)))) (AB (aC .non) AL))))) BO)
   Nx)
abbrev Nv:AS:=
 (Ad (Ao (AN 3 CV (AB (aV 0) (AB (aV 1) (AB (UE MY (aC (.int 1))) AL)))) (Am 4))
   Nw)
abbrev Nu:AS:=
 (Ad (Ao (AN 2 Fb (AB (AX Af (aV 3) (aC (.int 0))) (AB (AX Af (aV 3) (aC (.int 1))) AL))) (Am 3))
   Nv)
abbrev Nt:AS:=
 (Ad (Ao (AN 2 DC (AB (aV 2) (AB (aV 1) AL))) (Am 3))
   Nu)
abbrev Lv:AS:=
 (Ad (Ao (AN 3 CV (AB (aV 0) (AB (aV 1) (AB (aC (.int 1)) AL)))) (Am 2))
   Nt)
def EO:AF:=Ap 6 Lv
def Q8 {a b:PV}{Q:PV->Prop}(h:Lv ⟨λ_=>Q .non,Q,λ_=>False,λ_=>False⟩ [some (.val a),some (.val b),none,none,none,none]):EO [a,b] Q:=h
structure Ep where
 c0:Int
 c1:Int
 s:Int
 w:List (Int×Int)
structure cS (N:Nat) (p:Ep):Prop where
 a:p.c0.natAbs<2^N
 b:p.c1.natAbs<2^N
 w:∀e∈p.w,e.2.natAbs<2^N
 l:p.w.length<=12
 s:p.s=0\/p.s=1
def gY {a b:AE}{τ:BE}{Q:PV->Prop}:Y1 a b τ Q=a τ λx=>b τ λy=>RY x λi=>RY y λj=>Q (.dk [(i,j)]):=by
 unfold Y1;congr 1
 funext x
 congr 1
 funext y
 cases x <;> cases y <;> rfl
instance{a b:AE}{τ:BE}{Q:PV->Prop}:Wp (Y1 a b τ Q) (a τ λx=>b τ λy=>RY x λi=>RY y λj=>Q (.dk [(i,j)])):=⟨λh=>by rw[gY];exact h⟩
def NA (p:Ep)(t:Rat):Rat:=p.c0+p.c1*t
def VH {S:Nat}{r:Rat}{W N:Nat}(b:Bd W r)(h:S<2^N):(RZ S r).natAbs<2^(W+N):=by unfold RZ;rw[AA8];refine Uu b.top ?_;rw[ABZ _ (by omega),<-ABw,AA4];exact AAQ (ABt ..) h
def NN {many:Int}{m:zy (Int×Int)}:(BX many m).length<=m.length:=by
 have key:∀(m a:zy (Int×Int)),(m.foldl (λa p=>Bp a p.1 (many*p.2)) a).length<=a.length+m.length:=by
  intro m;induction m with
  | nil=>intro a;simp
  | cons x r b=> intro a;rw[ABQ,AAe];have:=b (Bp a x.1 (many*x.2));have:=JA a x.1 (many*x.2);omega
 have:=key m [];simpa[BX] using this
def G6 (p:Ep):zq:=decide (p.c0<0\/(p.c0=0/\p.s=1))
def Bj (p:Ep):Int×Int:=if 0<p.c1 then (-p.c0,p.c1) else (p.c0, -p.c1)
def DI (p:Ep):Rat:= -(p.c0:Rat)/p.c1
def NZ (p r:Ep):zq:=if (Bj p).1*(Bj r).2<(Bj r).1*(Bj p).2 then decide (p.c1<0) else if (Bj r).1*(Bj p).2<(Bj p).1*(Bj r).2 then decide (0<p.c1) else decide (r.s<p.s)
def Go {p:Ep}{N:Nat}(h:cS N p):(Bj p).1.natAbs<2^N/\(Bj p).2.natAbs<2^N:=by
 unfold Bj;have:=h.a;have:=h.b;split
 .rw [ABu];exact⟨h.a,h.b⟩
 .rw [ABu];exact⟨h.a,h.b⟩
def MS {a b c d:Int}{N:Nat}(h1:a.natAbs<2^N)(h2:b.natAbs<2^N)(h3:c.natAbs<2^N)(e:d.natAbs<2^N)(hN:N<=10000){Q:PV->Prop}(q:Q (.bl (decide (a*d<c*b)))):A0 [.tup [.int a, .int b], .tup [.int c, .int d]] Q:=by refine⟨.of h1 e, .of h3 h2,q⟩
def holds (p:Ep)(t:Rat):Prop:=0<NA p t\/(NA p t=0/\p.s=0)
def C1 {p:Ep}(h:p.c1≠0):0<(Bj p).2/\((Bj p).1:Rat)=DI p*((Bj p).2:Rat)/\(p.c0:Rat)= - (DI p*p.c1):=by
 have hc:(p.c1:Rat)≠0:=by exact_mod_cast h
 have e:DI p*(p.c1:Rat)= -(p.c0:Rat):=by unfold DI;exact ABR hc
 unfold Bj;split
 .rename_i h1;refine⟨h1, ?_, ?_⟩
  .rw [e];push_cast;rfl
  .rw [e];grind
 .rename_i h1;refine⟨by show 0 < -p.c1;omega, ?_, ?_⟩
  .push_cast;grind
  .rw [e];grind
def W1 {p r:Ep}(hp:p.c1≠0)(a:r.c1≠0):(Bj p).1*(Bj r).2<(Bj r).1*(Bj p).2↔DI p<DI r:=by
 obtain⟨b,c,_⟩:=C1 hp;obtain⟨d,b2,_⟩:=C1 a;have e:(0:Rat)<((Bj p).2:Rat):=by exact_mod_cast b
 have f:(0:Rat)<((Bj r).2:Rat):=by exact_mod_cast d
 rw[<-ACP,AAn,AAn,c,b2];generalize ((Bj p).2:Rat)=x at *;generalize ((Bj r).2:Rat)=y at *;have g:0<x*y:=ACQ e f;rw[show DI p*x*y=DI p*(x*y) by grind,show DI r*y*x=DI r*(x*y) by grind];exact Rat.mul_lt_mul_right g
def Wi {p:Ep}(h:p.c1≠0)(t:Rat):NA p t=p.c1*(t-DI p):=by obtain⟨_,_,e⟩:=C1 h;unfold NA;rw[e];grind
def Di {p:Ep}(h:0<p.c1)(t:Rat):holds p t↔(DI p<t\/(DI p=t/\p.s=0)):=by
 have hc:(0:Rat)<p.c1:=by exact_mod_cast h
 unfold holds;rw[Wi (by omega)];have a:0<(p.c1:Rat)*(t-DI p)↔DI p<t:=by rw[ACR hc];grind
 have b:(p.c1:Rat)*(t-DI p)=0↔DI p=t:=by rw[ABC];grind
 rw[a,b]
def C5 {p:Ep}(h:p.c1<0)(t:Rat):holds p t↔(t<DI p\/(DI p=t/\p.s=0)):=by
 have hc:(0:Rat) < -(p.c1:Rat):=by
  have:(p.c1:Rat)<0:=by exact_mod_cast h
  grind
 unfold holds;rw[Wi (by omega)];have a:0<(p.c1:Rat)*(t-DI p)↔t<DI p:=by rw[show (p.c1:Rat)*(t-DI p)= -(p.c1:Rat)*(DI p-t) by grind,ACR hc];grind
 have b:(p.c1:Rat)*(t-DI p)=0↔DI p=t:=by rw[ABC];grind
 rw[a,b]
def Na (sg:Int)(o:zt Ep)(p:Ep):zt Ep:=if 0<p.c1*sg then (match o with | none=>some p|some r=>if NZ p r=true then some p else some r) else o
def tight (sg:Int)(ps:zy Ep):zt Ep:=ps.foldl (Na sg) none
def bP {p r:Ep}{sg:Int}(h:sg=1\/sg= -1)(hp:0<p.c1*sg)(a:0<r.c1*sg)(sp:p.s=0\/p.s=1)(d:r.s=0\/r.s=1)(t:Rat):(NZ p r=true->holds p t->holds r t)/\(NZ p r=false->holds r t->holds p t):=by
 have b:p.c1≠0:=by intro z;rw[z] at hp;simp at hp
 have c:r.c1≠0:=by intro z;rw[z] at a;simp at a
 unfold NZ;simp only[W1 b c,W1 c b];rcases h with rfl|rfl
 .have hp:0<p.c1:=by omega
  have a:0<r.c1:=by omega
  rw[Di hp,Di a];split
  .simp [show ¬p.c1<0 by omega];grind
  .split
   .simp [hp];grind
   .simp;grind
 .have hp:p.c1<0:=by omega
  have a:r.c1<0:=by omega
  rw[C5 hp,C5 a];split
  .simp [hp];grind
  .split
   .simp [show ¬0<p.c1 by omega];grind
   .simp;grind
structure gK (sg:Int) (ps:List Ep) (o:Option Ep):Prop where
 no:o=none->∀p∈ps,¬0<p.c1*sg
 so:∀r,o=some r->r∈ps/\0<r.c1*sg/\∀p∈ps,0<p.c1*sg->∀t,holds r t->holds p t
def YN {sg:Int}(h:sg=1\/sg= -1){ps:zy Ep}{o:zt Ep}{p:Ep}(hs:∀p∈ps,p.s=0\/p.s=1)(hp:p.s=0\/p.s=1)(i:gK sg ps o):gK sg (ps ++ [p]) (Na sg o p):=by
 unfold Na;split
 .rename_i h1;cases o with
  | none=>
    refine⟨λz=>(by cases z),λr e=> ?_⟩;cases e;refine⟨by simp,h1,λx hx h2 t a=> ?_⟩;rcases AAR.mp hx with hx|hx
    .exact absurd h2 (i.no rfl x hx)
    .rw [AAf.mp hx];exact a
  | some r=>
    obtain⟨m,b,c⟩:=i.so r rfl;have d:=bP h h1 b hp (hs r m);dsimp only;split
    .rename_i h2;refine⟨λz=>(by cases z),λf e=> ?_⟩;cases e;refine⟨by simp,h1,λx hx h3 t a=> ?_⟩;rcases AAR.mp hx with hx|hx
     .exact c x hx h3 t ((d t).1 h2 a)
     .rw [AAf.mp hx];exact a
    .rename_i h2;refine⟨λz=>(by cases z),λf e=> ?_⟩;cases e;refine⟨by simp[m],b,λx hx h3 t a=> ?_⟩;rcases AAR.mp hx with hx|hx
     .exact c x hx h3 t a
     .rw [AAf.mp hx];exact(d t).2 (by simpa using h2) a
 .rename_i h1;refine⟨λz x hx=> ?_,λr e=> ?_⟩
  .rcases AAR.mp hx with hx|hx
   .exact i.no z x hx
   .rw [AAf.mp hx];exact h1
  .obtain ⟨m,b,c⟩:=i.so r e;refine⟨by simp[m],b,λx hx h3 t a=> ?_⟩;rcases AAR.mp hx with hx|hx
   .exact c x hx h3 t a
   .rw [AAf.mp hx] at h3;exact absurd h3 h1
def YM (sg:Int)(a:zy Ep)(p:Ep):tight sg (a ++ [p])=Na sg (tight sg a) p:=by unfold tight;rw[ACc];rfl
theorem DH {sg:Int}(h:sg=1\/sg= -1):∀(n:Nat) (ps:zy Ep),ps.length=n->(∀p∈ps,p.s=0\/p.s=1)->gK sg ps (tight sg ps)
 | 0,ps,e,_=>by have:ps= [] :=ADy.mp e;subst this;exact⟨λ_=>by simp,λr e=>by cases e⟩
 | n+1,ps,e,hs=>by obtain⟨a,r,rfl⟩:∃a r,ps=a ++ [r] :=⟨ps.dropLast,ps.getLast (by intro z;subst z;cases e),(ADz _).symm⟩;rw[YM];exact YN h (λp hp=>hs p (by simp[hp])) (hs r (by simp)) (DH h n a (by simpa using e) λp hp=>hs p (by simp[hp]))
def Vd {p:Ep}(h:p.c1≠0):Rat.divInt (Bj p).1 (Bj p).2=DI p:=by
 obtain⟨a,b,_⟩:=C1 h;have c:((Bj p).2:Rat)≠0:=by
  have:(0:Rat)<((Bj p).2:Rat):=by exact_mod_cast a
  grind
 rw[ACe,b];exact Rat.mul_div_cancel c
abbrev HN:AS:=
 (Ad (Ao (AN 2 GI (AB (AN 2 B6 (AB (aV 5) (AB (aV 4) AL))) (AB (aV 2) AL))) (Am 6))
   (F3 3 LG (AB (An (AB (AN 2 B6 (AB (aV 4) (AB (AN 2 Fc (AB (aV 6) (AB (AX Af (aV 0) (aC (.int 0))) AL))) AL))) (AB (aV 6) AL))) AL)))
abbrev HQ:AS:=
 (Ad (FH (j8 (AB (Vp (aV 0) (Vs (aC (.int 1))) Vr) (AB (Vp (aV 1) (Vs (aC (.int 1))) Vr) AL))) (HX 2 (AZ (Am 4) (AZ (Am 5) Be))) HN)
   (Ar (An (AB (AX Af (aV 0) (aC (.int 0))) (AB (AX Af (aV 1) (aC (.int 0))) (AB (aV 3) AL))))))
abbrev HP:AS:=
 (Ad (Jh (F8 AL) 3)
   HQ)
abbrev F0:AS:=
 (Ad (Ao (AN 2 B6 (AB (AX Af (aV 1) (aC (.int 0))) (AB (AX Af (aV 0) (aC (.int 0))) AL))) (Am 2))
   HP)
def Bm:AF:=Ap 7 F0
def JB {a b:PV}{Q:PV->Prop}(h:F0 ⟨λ_=>Q .non,Q,λ_=>False,λ_=>False⟩ [some (.val a),some (.val b),none,none,none,none,none]):Bm [a,b] Q:=h
abbrev KI:AS:=
 (Ar (G4 (Bs (N6 (AB (AX Il (HG LB (AB (aV 0) AL)) (aC (.int 1))) AL)) 1 [0] (Am 0) Dh (AN 2 Bm (AB (AX Af (aV 1) (aV 0)) (AB (AX Af (aV 1) (AX Bf (aV 0) (aC (.int 1)))) AL))))))
def DB:AF:=Ap 1 KI
def OO {a:PV}{Q:PV->Prop}(h:KI ⟨λ_=>Q .non,Q,λ_=>False,λ_=>False⟩ [some (.val a)]):DB [a] Q:=h
def YK (b e:C4)(x y:Rat):Rat:=(y-x)/(e.1-b.1)
def Y6 (b e:C4)(x y:Rat):Rat:=x-YK b e x y*b.1
def iH (b e:C4)(x y:Rat):PV:= .tup [fr (Y6 b e x y),fr (YK b e x y)]
def CI (b e:C4):PV:= .tup [fr b.1,fr e.1, .lst [iH b e b.2.1 e.2.1,iH b e b.2.2.1 e.2.2.1,iH b e b.2.2.2 e.2.2.2]]
def VP {b e:C4}{x y:Rat}{B:Nat}(hb:Bd B b.1)(he:Bd B e.1)(hx:Bd B x)(a:Bd B y)(h:b.1<e.1):Bd (4*B+2) (YK b e x y)/\Bd (6*B+3) (Y6 b e x y):=by have s:Bd (4*B+2) (YK b e x y):=(Bd.div (by grind) (a.sub hx) (he.sub hb)).mono (by omega);exact⟨s,(hx.sub (s.mul hb)).mono (by omega)⟩
def aQ {f:C4->PV}(a:f=cor\/f=corL){b e:C4}{B:Nat}(hb:D6 B b)(he:D6 B e)(h:b.1<e.1)(l:6*B+3<=3900){Q:PV->Prop}(q:Q (CI b e)):Bm [f b,f e] Q:=by
 obtain⟨c,d⟩:=VP hb.m he.m hb.x he.x h;obtain⟨g,i⟩:=VP hb.m he.m hb.y he.y h;obtain⟨j,k⟩:=VP hb.m he.m hb.z he.z h;have n:e.1-b.1≠0:=by grind
 have bs:=he.m.sub hb.m;apply JB;rcases a with rfl|rfl
 .repeat' array_get_dec
  exact q
 .repeat' array_get_dec
  show US (.lst [fr b.1,fr b.2.1,fr b.2.2.1,fr b.2.2.2]) (some 1) none _;refine Dv ?_;repeat' array_get_dec
  show US (.lst [fr e.1,fr e.2.1,fr e.2.2.1,fr e.2.2.2]) (some 1) none _;refine Dv ?_;show M6 (.lst [fr b.2.1,fr b.2.2.1,fr b.2.2.2]) λxs=>M6 (.lst [fr e.2.1,fr e.2.2.1,fr e.2.2.2]) λo=>_;repeat' array_get_dec
  exact q
def Ej (cs:zy C4):zy (C4×C4):=cs.zip cs.tail
def de {cs:zy C4}{i:Nat}(h:i+1<cs.length):∃b e,cs[i]? =some b/\cs[i+1]? =some e/\(Ej cs)[i]? =some (b,e):=by refine⟨cs[i],cs[i+1],AAd _,AAd _, ?_⟩;unfold Ej;rw[AEN];refine⟨AAd _, ?_⟩;rw[List.getElem?_tail];exact AAd _
def EE {cs:zy C4}(a:E5 cs){p:C4×C4}(h:p∈Ej cs):p.1∈cs/\p.2∈cs/\p.1.1<p.2.1:=by obtain⟨i,hi⟩:=List.getElem?_of_mem h;unfold Ej at hi;rw[AEN] at hi;obtain⟨h1,h2⟩:=hi;rw[List.getElem?_tail] at h2;exact⟨ABq h1,ABq h2,Q0 a h1 h2⟩
def aS {cs:zy C4}{v:PV}{B:Nat}(hv:Eo cs v)(hc:∀c∈cs,D6 B c)(n:E5 cs)(h2:2<=cs.length)(hl:cs.length<=1000)(o:6*B+3<=3900){Q:PV->Prop}(q:Q (.lst ((Ej cs).map λp=>CI p.1 p.2))):DB [v] Q:=by
 obtain⟨f,r,hv⟩:=hv;apply OO;have s:(Ej cs).length=cs.length-1:=by unfold Ej;simp
 have go:∀w:PV,(∀(k:Int) (j:Nat) (c:C4) {R:PV->Prop},k=(j:Int)->cs[j]? =some c->R (f c)->Af w (.int k) R)->Ca (Am 0) Dh (AN 2 Bm (AB (AX Af (aV 1) (aV 0)) (AB (AX Af (aV 1) (AX Bf (aV 0) (aC (PV.int 1)))) AL))) [none,some (AV.val w)] (λxs=>Q (PV.lst xs)) (rng 0 ((cs.length:Int)-1).toNat) [] :=λw ix=>by
  refine Vz (λi a=>a=((Ej cs).map λp=>CI p.1 p.2).take i) (λa e=> ?_) (λi hi a R m e=> ?_) rfl
  .rw [e,ABs (by rw[AAL,s];omega)];exact q
  .obtain ⟨b,e',d,g,ep⟩:=de (cs:=cs) (i:=i) (by omega);have l:=m (a ++ [CI b e']) (by rw[e,List.take_add_one,AAl,ep];rfl);clear m;ac_rfl;refine ix _ i b (by omega) d ?_;ac_rfl;refine ix _ (i+1) e' (by omega) g ?_;ac_rfl;refine aQ r (hc b (ABq d)) (hc e' (ABq g)) (Q0 n d g) o ?_;exact l
 rcases hv with rfl|rfl
 .ac_rfl;exact go _ λk j c R hk e h=>Fg hk e h
 .ac_rfl;exact go _ λk j c R hk e h=>Fg hk e h
def Y9 {b:T3}{w:PV}(hw:XA b w){R:PV->Prop}:(R (fr b.1)->Af w (.int 0) R)/\(R (fr b.2.1)->Af w (.int 1) R)/\(R (fr b.2.2)->Af w (.int 2) R):=by rcases hw with rfl|rfl <;> exact⟨id,id,id⟩
abbrev Fm:=Rat×Rat×Int
def hF (f:Fm)(t:Rat):Prop:=0<f.1+f.2.1*t\/(f.1+f.2.1*t=0/\f.2.2=0)
structure gG (N:Nat) (f:Fm) (p:Ep):Prop where
 ok:cS N p
 s:p.s=f.2.2
 ex:∃S:Rat,0<S/\(p.c0:Rat)=f.1*S/\(p.c1:Rat)=f.2.1*S
inductive Yt (N:Nat):List Fm->List Ep->Prop where
 | nil:Yt N [] []
 | cons {f:Fm} {p:Ep} {fs:List Fm} {ps:List Ep} (h:gG N f p) (t:Yt N fs ps):Yt N (f::fs) (p::ps)
def gG.sign {N:Nat}{f:Fm}{p:Ep}(h:gG N f p):(0<p.c1↔0<f.2.1)/\(p.c1<0↔f.2.1<0):=by
 obtain⟨S,c,e,d⟩:=h.ex;have a:0<p.c1↔(0:Rat)<(p.c1:Rat):=by rw[<-AB5,ACP]
 have b:p.c1<0↔(p.c1:Rat)<0:=by rw[<-AB5,ACP]
 rw[a,b,d];refine⟨?_, ?_⟩
 .rw [ACf,ACR c]
 .constructor
  .intro k;have:0<S*(-f.2.1):=by grind
   rw[ACR c] at this;grind
  .intro k;have:0<S*(-f.2.1):=ACQ c (by grind);grind
def gG.turn {N:Nat}{f:Fm}{p:Ep}(h:gG N f p)(e:f.2.1≠0):f.1+f.2.1*DI p=0:=by
 obtain⟨S,g,b,a⟩:=h.ex;have hs:S≠0:=by grind
 have c:(p.c1:Rat)≠0:=by rw[a];intro z;rcases ABC.mp z with z|z <;> contradiction
 have d:p.c1≠0:=by intro z;rw[z] at c;exact c rfl
 have:=(C1 d).2.2;rw[b,a] at this;have:S*(f.1+f.2.1*DI p)=0:=by grind
 rcases ABC.mp this with z|z
 .contradiction
 .exact z
def Yt.mem {N:Nat}:∀{e:zy Fm} {ps:zy Ep},Yt N e ps->(∀p∈ps,∃f∈e,gG N f p)/\(∀f∈e,∃p∈ps,gG N f p)/\ps.length=e.length
 | _,_, .nil=>⟨by simp,by simp,rfl⟩
 | _,_, .cons h t=>by
   obtain⟨a,b,c⟩:=t.mem;refine⟨λp hp=> ?_,λf d=> ?_,by simp[c]⟩
   .rcases AAG.mp hp with rfl|hp
    .exact ⟨_,by simp,h⟩
    .obtain ⟨f,d,k⟩:=a p hp;exact⟨f,by simp[d],k⟩
   .rcases AAG.mp d with rfl|d
    .exact ⟨_,by simp,h⟩
    .obtain ⟨p,hp,k⟩:=b f d;exact⟨p,by simp[hp],k⟩
def pL (lo hi p:T3):Prop:=(lo.1<p.1/\p.1<hi.1)/\(lo.2.1<p.2.1/\p.2.1<hi.2.1)/\(lo.2.2<p.2.2/\p.2.2<hi.2.2)
instance (lo hi p:T3):Decidable (pL lo hi p):=by unfold pL;infer_instance
def h7 (lo hi:T3)(p:C4×C4)(t:Rat):Prop:=p.1.1<=t/\t<p.2.1/\pL lo hi (inter p.1 p.2 t)
def sd (lo hi:T3)(p:C4×C4)(m:Rat):Prop:=m=p.1.1\/m=p.2.1\/(p.1.1<m/\m<p.2.1/\((p.1.2.1≠p.2.2.1/\((inter p.1 p.2 m).1=lo.1\/(inter p.1 p.2 m).1=hi.1))\/(p.1.2.2.1≠p.2.2.2.1/\((inter p.1 p.2 m).2.1=lo.2.1\/(inter p.1 p.2 m).2.1=hi.2.1))\/(p.1.2.2.2≠p.2.2.2.2/\((inter p.1 p.2 m).2.2=lo.2.2\/(inter p.1 p.2 m).2.2=hi.2.2))))
def RT {p:Ep}{N:Nat}(h:cS N p)(c:p.c1≠0):Bd N (DI p):=by obtain⟨a,b⟩:=Go h;rw[<-Vd c];exact .divInt (by have:=(C1 c).1;omega) a b
structure Yx (N:Nat) (lo hi:T3) (p:C4×C4) (s:Cr):Prop where
 ok:F7 N s
 fin:∃x,s.2.2=some x/\sd lo hi p x
 bmk:sd lo hi p s.1
 sem:∀t,Cq s (t,0)=true↔h7 lo hi p t
structure IZ (N:Nat) (lo hi:T3) (us:List (C4×C4)) (ss:List Cr):Prop where
 ok:∀s∈ss,∃p∈us,Yx N lo hi p s
 all:∀p∈us,∀t,h7 lo hi p t->∃s∈ss,Cq s (t,0)=true
 len:ss.length<=us.length
def IZ.more {N:Nat}{lo hi:T3}{c:zy (C4×C4)}{ss:zy Cr}{p:C4×C4}{s:Cr}(h:IZ N lo hi c ss)(k:Yx N lo hi p s):IZ N lo hi (c ++ [p]) (ss ++ [s]):=by
 refine⟨λx hx=> ?_,λq a t b=> ?_,by have:=h.len;simp;omega⟩
 .rcases AAR.mp hx with hx|hx
  .obtain ⟨q,a,r⟩:=h.ok x hx;exact⟨q,by simp[a],r⟩
  .rw [AAf.mp hx];exact⟨p,by simp,k⟩
 .rcases AAR.mp a with a|a
  .obtain ⟨x,hx,r⟩:=h.all q a t b;exact⟨x,by simp[hx],r⟩
  .rw [AAf.mp a] at b;exact⟨s,by simp,(k.sem t).mpr b⟩
def IZ.st {N:Nat}{lo hi:T3}{a:zy (C4×C4)}{ss:zy Cr}(h:IZ N lo hi a ss):∀s∈ss,F7 N s:=λs hs=>let ⟨_,_,k⟩:=h.ok s hs;k.ok
instance{r:AA}{τ:BE}{a:zy PV->Prop}:Wp (oJ r τ a) (r τ λb=>match b with | [.lst xs] =>a (EU 0 xs)|_=>False):=⟨id⟩
def EW (a b:C4)(r:zy C4):Ej (a::b::r)=(a,b)::Ej (b::r):=rfl
theorem QP:∀{cs:zy C4} {l:C4},E5 cs->cs.getLast?=some l->∀c∈cs,c.1<=l.1
 | [],_,_,e,_,_=>by cases e
 | [a],l,_,e,c,hc=>by cases e;rw[AAf.mp hc];exact ADG
 | a::b::r,l,h,e,c,hc=>by
   rw[ACN] at e;have h':=AAM.mp h;have d:=QP h'.2 e;rcases AAG.mp hc with rfl|hc
   .have:=h'.1 b (by simp);have:=d b (by simp);grind
   .exact d c hc
def nG (k:Int)(c:C4):Rat:=if k % 3=0 then c.2.1 else if k % 3=1 then c.2.2.1 else c.2.2.2
def E6 (lo hi:T3):zy (Int×Rat):= [(0,lo.1),(1,lo.2.1),(2,lo.2.2),(3,hi.1),(4,hi.2.1),(5,hi.2.2)]
def pG (p:C4×C4)(u:Int×Rat)(m:Rat):Prop:=p.1.1<m/\m<p.2.1/\nG u.1 p.1≠nG u.1 p.2/\nG u.1 p.1+(m-p.1.1)/(p.2.1-p.1.1)*(nG u.1 p.2-nG u.1 p.1)=u.2
structure gC (W:Nat) (cs:List C4) (us:List (C4×C4)) (lo hi:T3) (p:C4×C4) (ws:List (Int×Rat)) (ms:List Rat):Prop where
 bd:∀m∈ms,Bd W m
 crn:∀c∈cs,c.1∈ms
 ed:∀p∈us,∀u∈E6 lo hi,∀m,pG p u m->m∈ms
 ed2:∀u∈ws,∀m,pG p u m->m∈ms
 len:ms.length<=cs.length+6*us.length+ws.length
def gC.more {W:Nat}{cs:zy C4}{b:zy (C4×C4)}{lo hi:T3}{p:C4×C4}{d:zy (Int×Rat)}{ms:zy Rat}{u:Int×Rat}(h:gC W cs b lo hi p d ms){x:Rat}(e:Bd W x)(k:∀m,pG p u m->m=x):gC W cs b lo hi p (d ++ [u]) (ms ++ [x]):=by
 refine⟨λm a=> ?_,λc hc=>by simp[h.crn c hc],λq f v hv m a=>by simp[h.ed q f v hv m a],λv hv m a=> ?_,by have:=h.len;simp;omega⟩
 .rcases AAR.mp a with a|a
  .exact h.bd m a
  .rw [AAf.mp a];exact e
 .rcases AAR.mp hv with hv|hv
  .simp [h.ed2 v hv m a]
  .rw [AAf.mp hv] at a;simp[k m a]
def sv (p:Int×Int):Rat:=(p.1:Rat)/(p.2:Rat)
def dC {p q a b:T3}{d:Rat×Rat}{s:Rat}:Zx (lin p q s) (lin a b s) d=lin (Zx p a d) (Zx q b d) s:=by
 unfold Zx lin;simp only[ABO];congr 1
 .grind
 .congr 1 <;> grind
def bY {c:zy Rat}(h:bg c):∀p∈c.zip c.tail,p.1∈c/\p.2∈c/\p.1<p.2/\∀x∈c,¬(p.1<x/\x<p.2):=by
 induction c with
 | nil=>intro p hp;simp at hp
 | cons a r e=>
   cases r with
   | nil=>intro p hp;simp at hp
   | cons b r=>
     have h1:=AAM.mp h;intro p hp;simp only[List.tail_cons,List.zip_cons_cons,AAG] at hp;rcases hp with rfl|hp
     .refine ⟨by simp,by simp,h1.1 b (by simp),λx hx z=> ?_⟩;rcases AAG.mp hx with rfl|hx
      .grind
      .rcases AAG.mp hx with rfl|hx
       .grind
       .have:=(AAM.mp h1.2).1 x hx;grind
     .obtain ⟨d,f,g,i⟩:=e h1.2 p hp;refine⟨by simp[d],by simp[f],g,λx hx z=> ?_⟩;rcases AAG.mp hx with rfl|hx
      .have:=h1.1 p.1 d;grind
      .exact i x hx z
section
variable {cs ds:zy C4}{d:Rat×Rat}{M W:Nat}
structure pU (cs ds:List C4) (d:Rat×Rat) (M W:Nat) (p:Pc):Prop where
 lt:p.b<p.e
 w0:F2 W p.o0
 w1:F2 W p.o1
 bb:Bd M p.b
 be:Bd M p.e
 lo:MT cs ds<=p.b
 hi:p.e<=MX cs ds
 at0:p.o0=Yg cs ds d p.b
 tF:p.o1=Yg cs ds d p.e
 lin:∀m,p.b<=m->m<=p.e->Yg cs ds d m=lin p.o0 p.o1 ((m-p.b)/(p.e-p.b))
theorem Tj.pc (D:Tj cs ds d M W):∀p∈qo cs ds d,pU cs ds d M W p:=by
 intro p hp;unfold qo at hp;by_cases h:MT cs ds<MX cs ds
 .rw [AAE h] at hp;have e:=D.tog h;have j:∀x∈nn cs ds,MT cs ds<=x/\x<=MX cs ds:=λx hx=>bT h hx;have k:∀x∈nn cs ds,Bd M x:=λx hx=>bS D.m1 D.m2 D.begB D.endB hx;have l:∀x∈nn cs ds,F2 W (Yg cs ds d x):=D.w h;unfold mO at hp;obtain⟨q,t,rfl⟩:=AAI.mp hp;obtain⟨f,g,i,u⟩:=bY YV q t;have a:=j _ f;have b:=j _ g;refine⟨i,l _ f,l _ g,k _ f,k _ g,a.1,b.2,rfl,rfl,λm m1 m2=> ?_⟩;have m1:q.1<=m:=m1;have m2:m<=q.2:=m2;have n:∀c,c∈cs\/c∈ds->¬(q.1<c.1/\c.1<q.2):=λc hc z=>by refine u c.1 (KG.mpr (.inr (.inr ⟨by grind,by grind,c,hc,rfl⟩))) z
  obtain⟨A,o⟩:=e.one q.1 a.1 a.2;obtain⟨B,r⟩:=e.one q.2 b.1 b.2;obtain⟨C,f1⟩:=e.other q.1 a.1 a.2;obtain⟨E,s⟩:=e.other q.2 b.1 b.2;have v:=PN D.r1 i m1 m2 (λc hc=>n c (.inl hc)) o r;have y:=PN D.r2 i m1 m2 (λc hc=>n c (.inr hc)) f1 s;show Yg cs ds d m=PL.lin (Yg cs ds d q.1) (Yg cs ds d q.2) ((m-q.1)/(q.2-q.1));unfold Yg;rw[v,y,o,r,f1,s];exact dC
 .rw [AAD h] at hp;cases hp
def QV (cs ds:zy C4)(d:Rat×Rat)(m:Rat):Prop:=MT cs ds<=m/\m<MX cs ds/\qA (Yg cs ds d m)<1
instance {m:Rat}:Decidable (QV cs ds d m):=by unfold QV;infer_instance
structure fG (cs ds:List C4) (d:Rat×Rat) (B:Nat) (ss:List Cr):Prop where
 few:ss.length<=201
 ok:∀s∈ss,F7 B s
 fin:∀s∈ss,∃x,s.2.2=some x
 sem:∀m,ss.any (Cq · (m,0))=true↔QV cs ds d m
 pf:ss.length<=(qo cs ds d).length
end
def cm {ss:zy Cr}(a:∀s∈ss,∃x,s.2.2=some x)(k:Rat):∃m,k<m/\ss.any (Cq · (m,0))=false:=by
 induction ss with
 | nil=>exact⟨k+1,by grind,rfl⟩
 | cons s ss h=>
   obtain⟨x,hx⟩:=a s (by simp);have d:∀(b:zy Cr),(∀s∈b,∃x,s.2.2=some x)->∃n:Rat,k<n/\∀s∈b,∀x,s.2.2=some x->x<n:=by
    intro b;induction b with
    | nil=>intro _;exact⟨k+1,by grind,by simp⟩
    | cons t b e=>
      intro f;obtain⟨n,h1,h2⟩:=e λs hs=>f s (by simp[hs]);obtain⟨y,c⟩:=f t (by simp);by_cases z:y<n
      .refine ⟨n,h1,λs hs x hx=> ?_⟩;rcases AAG.mp hs with rfl|hs
       .rw [c] at hx;cases hx;exact z
       .exact h2 s hs x hx
      .refine ⟨y+1,by grind,λs hs x hx=> ?_⟩;rcases AAG.mp hs with rfl|hs
       .rw [c] at hx;cases hx;grind
       .have:=h2 s hs x hx;grind
   obtain⟨n,h1,h2⟩:=d (s::ss) a;refine⟨n,h1, ?_⟩;rw[List.any_eq_false];intro t g z;obtain⟨y,c⟩:=a t g;have:=h2 t g y c;unfold Cq at z;rw[c] at z;simp at z;grind
def XS {B:Nat}{ss:zy Cr}(ok:∀s∈ss,F7 B s)(a:∀s∈ss,∃x,s.2.2=some x):∀r∈canon 1 ss,∃x,r.2.2=some x:=by
 intro r b;cases e:r.2.2 with
 | some x=>exact⟨x,rfl⟩
 | none=> exfalso;obtain⟨m,h1,h2⟩:=cm a r.1;rw[<-Ry ok (p:=(m,0)) (.inl rfl)] at h2;rw[List.any_eq_false] at h2;refine h2 r b ?_;unfold Cq;rw[e];simp;exact .inl h1
structure Told (P:Rat->Prop) (B:Nat) (cc:List Cr):Prop where
 ok:∀s∈cc,F7 B s
 fin:∀s∈cc,∃x,s.2.2=some x
 few:cc.length<=2000
 sem:∀m,cc.any (Cq · (m,0))=true↔P m
def fG.told {cs ds:zy C4}{d:Rat×Rat}{B:Nat}{ss:zy Cr}(n:fG cs ds d B ss):Told (QV cs ds d) B (canon 1 ss):=
 ⟨ZA n.ok,XS n.ok n.fin,by have:=UJ (n:=1) (ss:=ss);have:=n.few;omega,λm=>by rw[Ry n.ok (p:=(m,0)) (.inl rfl)];exact n.sem m⟩
def IZ.sem {N:Nat}{lo hi:T3}{a:zy (C4×C4)}{ss:zy Cr}(h:IZ N lo hi a ss)(m:Rat):ss.any (Cq · (m,0))=true↔∃p∈a,h7 lo hi p m:=by
 rw[List.any_eq_true];constructor
 .rintro ⟨s,hs,k⟩;obtain⟨p,hp,o⟩:=h.ok s hs;exact⟨p,hp,(o.sem m).mp k⟩
 .rintro ⟨p,hp,k⟩;exact h.all p hp m k
def IZ.fin {N:Nat}{lo hi:T3}{a:zy (C4×C4)}{ss:zy Cr}(h:IZ N lo hi a ss):∀s∈ss,∃x,s.2.2=some x:=λs hs=>by obtain⟨p,hp,k⟩:=h.ok s hs;obtain⟨x,hx,_⟩:=k.fin;exact⟨x,hx⟩
end PL
namespace PL
open PySem L2 PyProof.Rows PL.K31
abbrev Fl:=zy C4×T3
section
variable {lo hi:T3}{f:Fl}
def F2.up {n m:Nat}{t:T3}(h:F2 n t)(k:n<=m):F2 m t:=⟨h.x.mono k,h.y.mono k,h.z.mono k⟩
end
end PL
namespace PL
open PySem L2 PL PyProof.Rows
abbrev L6:AS:=
 (Ad (Ao (An (AB (An (AB (AN 1 B7 (AB (AX Af (aV 3) (aC (.int 0))) AL)) (AB (aC (.tup [(.int 1),(.int 1)])) (AB (aC (.tup [(.int 0),(.int 1)])) AL)))) (AB (An (AB (AX Af (aV 3) (aC (.int 1))) (AB (aC (.tup [(.int (-1)),(.int 1)])) (AB (aC (.tup [(.int 0),(.int 1)])) AL)))) (AB (An (AB (AN 1 B7 (AB (AX Af (aV 4) (aC (.int 0))) AL)) (AB (aC (.tup [(.int 0),(.int 1)])) (AB (aC (.tup [(.int 1),(.int 1)])) AL)))) (AB (An (AB (AX Af (aV 4) (aC (.int 1))) (AB (aC (.tup [(.int 0),(.int 1)])) (AB (aC (.tup [(.int (-1)),(.int 1)])) AL)))) (AB (An (AB (AX Af (aV 6) (aC (.int 0))) (AB (aC (.tup [(.int 1),(.int 1)])) (AB (aC (.tup [(.int (-1)),(.int 1)])) AL)))) (AB (An (AB (AX Af (aV 6) (aC (.int 1))) (AB (aC (.tup [(.int (-1)),(.int 1)])) (AB (aC (.tup [(.int 1),(.int 1)])) AL)))) AL))))))) (Am 2))
   (Ar (AX Af (aV 2) (aV 1))))
abbrev KL:AS:=
 (Ad (Ao (aV 0) (HX 4 (AZ (Am 3) (AZ (Am 4) (AZ (Am 5) (AZ (Am 6) Be))))))
   L6)
def D1:AF:=Ap 7 KL
def OP {a b:PV}{Q:PV->Prop}(h:KL ⟨λ_=>Q .non,Q,λ_=>False,λ_=>False⟩ [some (.val a),some (.val b),none,none,none,none,none]):D1 [a,b] Q:=h
abbrev L1:AS:=
 (Ad (CH (BH (AX Tl (AX Xb (aV 1) (aC (.int 2))) (aC (.int 0)))) (Ar (An (AB (AN 2 B6 (AB (AX Af (aV 6) (aV 2)) (AB (aV 3) AL))) (AB (AN 1 B7 (AB (aV 9) AL)) (AB (aV 11) AL))))) BO)
   (Ar (An (AB (AN 2 Bx (AB (AX Af (aV 6) (aV 2)) (AB (aV 3) AL))) (AB (aV 9) (AB (AN 1 B7 (AB (aV 11) AL)) AL))))))
abbrev Lz:AS:=
 (Ad (Ao (AN 2 B6 (AB (aV 8) (AB (aV 10) AL))) (Am 3))
   L1)
abbrev Ly:AS:=
 (Ad (Ao (AX Af (AX Af (aV 5) (aC (.int 2))) (aV 2)) (HX 2 (AZ (Am 10) (AZ (Am 11) Be))))
   Lz)
abbrev Lx:AS:=
 (Ad (Ao (AX Af (AX Af (aV 4) (aC (.int 2))) (aV 2)) (HX 2 (AZ (Am 8) (AZ (Am 9) Be))))
   Ly)
abbrev Lw:AS:=
 (Ad (Ao (AX P9 (AX Il (aV 1) (aC (.int 6))) (aC (.int 2))) (Am 2))
   Lx)
abbrev KJ:AS:=
 (Ad (Ao (aV 0) (HX 4 (AZ (Am 4) (AZ (Am 5) (AZ (Am 6) (AZ (Am 7) Be))))))
   Lw)
def BQ:AF:=Ap 12 KJ
def CG {a b:PV}{Q:PV->Prop}(h:KJ ⟨λ_=>Q .non,Q,λ_=>False,λ_=>False⟩ [some (.val a),some (.val b),none,none,none,none,none,none,none,none,none,none]):BQ [a,b] Q:=h
abbrev OX:AS:=
 (Ar (j7 (BH (AX ZI (aV 1) (aC (.int 6)))) (AN 2 D1 (AB (aV 0) (AB (aV 1) AL))) (AN 2 BQ (AB (aV 0) (AB (aV 1) AL)))))
def FE:AF:=Ap 2 OX
def TB {a b:PV}{Q:PV->Prop}(h:OX ⟨λ_=>Q .non,Q,λ_=>False,λ_=>False⟩ [some (.val a),some (.val b)]):FE [a,b] Q:=h
abbrev Ri:AS:=
 (Ad (gQ 3 (aV 1) (aC (.int 0)))
   (Ar (An (AB (HG Cc (AB (aV 3) AL)) (AB (AX Af (aV 0) (aC (.int 1))) (AB (AX Af (aV 0) (aC (.int 2))) AL))))))
abbrev Rh:AS:=
 (Ad (fN 3 (aC (.int 0)) (AX CS (AX Af (AX Af (aV 0) (aC (.int 0))) (aV 1)) (aV 4)))
   Ri)
abbrev Rg:AS:=
 (Ad (Jh (Bs (LA (AX Af (aV 0) (aC (.int 0)))) 1 [5] (Am 0) Dh (AX CS (aV 1) (aV 0))) 3)
   Rh)
abbrev Rf:AS:=
 (Ad (Ao (aV 2) (HX 2 (AZ (Am 4) (AZ (Am 5) Be))))
   Rg)
def Dz:AF:=Ap 6 Rf
def NE {a b c:PV}{Q:PV->Prop}(h:Rf ⟨λ_=>Q .non,Q,λ_=>False,λ_=>False⟩ [some (.val a),some (.val b),some (.val c),none,none,none]):Dz [a,b,c] Q:=h
abbrev IQ:AS:=
 (Ad (FH (lE (aV 0)) (Am 2) (Ao (AN 2 FD (AB (aV 2) (AB (aV 1) AL))) (Am 1)))
   (Ar (HG Cc (AB (G4 (Bs (LA (HG ZS (AB (aV 0) AL))) 1 [1,0] (Am 0) Dh (An (AB (aV 0) (AB (AN 1 Gv (AB (AX P9 (tE (aV 2) (aV 0)) (aV 1)) AL)) AL))))) AL))))
abbrev GB:AS:=
 (Ad (Ao (aC (.int 0)) (Am 1))
   IQ)
def CW:AF:=Ap 3 GB
def Jy {a:PV}{Q:PV->Prop}(h:GB ⟨λ_=>Q .non,Q,λ_=>False,λ_=>False⟩ [some (.val a),none,none]):CW [a] Q:=h
abbrev L7:AS:=
 (Ad (Ao (AN 2 EO (AB (aV 0) (AB (aV 1) AL))) (HX 3 (AZ (Am 2) (AZ (Am 3) (AZ (Am 4) Be)))))
   (Ar (AN 2 GI (AB (AN 2 Bx (AB (aV 2) (AB (aV 4) AL))) (AB (AN 1 Gv (AB (aC (.int 2)) AL)) AL)))))
def CY:AF:=Ap 5 L7
def RB {a b:PV}{Q:PV->Prop}(h:L7 ⟨λ_=>Q .non,Q,λ_=>False,λ_=>False⟩ [some (.val a),some (.val b),none,none,none]):CY [a,b] Q:=h
abbrev GD:AS:=
 (Ad (CH (FI (BH (AN 2 A0 (AB (AX Af (aV 2) (aC (.int 0))) (AB (AN 2 Bx (AB (AX Af (aV 1) (aC (.int 1))) (AB (AX Af (aV 4) (aC (.int 0))) AL))) AL))))) (Ar (An (AB (An (AB (aC (.int 1)) (AB (aC (.tup [(.int 1),(.int 1)])) AL))) (AB (An (AB (aC (.int 2)) (AB (aC (.tup [(.int 1),(.int 1)])) AL))) (AB (An (AB (aC (.int 4)) (AB (aC (.tup [(.int 1),(.int 1)])) AL))) AL))))) BO)
   (Ar (aC .non)))
abbrev GC:AS:=
 (Ad (CH (FI (BH (AN 2 A0 (AB (AX Af (aV 1) (aC (.int 0))) (AB (AN 2 Bx (AB (AX Af (aV 2) (aC (.int 1))) (AB (AX Af (aV 4) (aC (.int 1))) AL))) AL))))) (Ar (An (AB (An (AB (aC (.int 0)) (AB (aC (.tup [(.int 1),(.int 1)])) AL))) (AB (An (AB (aC (.int 3)) (AB (aC (.tup [(.int 1),(.int 1)])) AL))) (AB (An (AB (aC (.int 5)) (AB (aC (.tup [(.int 1),(.int 1)])) AL))) AL))))) BO)
   GD)
abbrev Ek:AS:=
 (Ad (Ao (aV 0) (HX 4 (AZ (Am 1) (AZ (Am 2) (AZ (Am 3) (AZ (Am 4) Be))))))
   GC)
def Bn:AF:=Ap 5 Ek
def G9 {a:PV}{Q:PV->Prop}(h:Ek ⟨λ_=>Q .non,Q,λ_=>False,λ_=>False⟩ [some (.val a),none,none,none,none]):Bn [a] Q:=h
abbrev Pq:AS:=
 (Ad (FH (LA (aV 3)) (Am 6) (FH (LA (aV 4)) (Am 7) (CH (BH (AX tH (gR (AX Af (aV 6) (aC (.int 2))) (AX Af (aV 7) (aC (.int 2)))) (aV 2))) (F3 5 LG (AB (AN 3 EG (AB (aV 6) (AB (aV 7) (AB (aV 1) AL)))) AL)) BO)))
   (Ar (aV 5)))
abbrev Pp:AS:=
 (Ad (Jh (Bs (LA (aV 0)) 1 [1] (Am 0) (BH (AX Tl (AX Af (AX Af (aV 0) (aC (.int 0))) (aV 1)) (aC (.int 0)))) (aV 0)) 5)
   Pq)
abbrev Po:AS:=
 (Ad (Ao (G4 (Bs (LA (aV 0)) 1 [1] (Am 0) (BH (AX ZI (AX Af (AX Af (aV 0) (aC (.int 0))) (aV 1)) (aC (.int 0)))) (aV 0))) (Am 4))
   Pp)
abbrev Oe:AS:=
 (Ad (Ao (G4 (Bs (LA (aV 0)) 1 [1] (Am 0) (BH (AX ZH (AX Af (AX Af (aV 0) (aC (.int 0))) (aV 1)) (aC (.int 0)))) (aV 0))) (Am 3))
   Po)
def EI:AF:=Ap 8 Oe
def TL {a b c:PV}{Q:PV->Prop}(h:Oe ⟨λ_=>Q .non,Q,λ_=>False,λ_=>False⟩ [some (.val a),some (.val b),some (.val c),none,none,none,none,none]):EI [a,b,c] Q:=h
abbrev Pi:AS:=
 (Ad (Ao (AN 2 CY (AB (aV 3) (AB (aC (.int 1)) AL))) (Am 5))
   (Ar (An (AB (An (AB (aV 5) (AB (AN 2 CY (AB (G4 (Bs (LA (aV 2)) 1 [5] (Am 0) Dh (AN 3 Dz (AB (aV 0) (AB (aC (.int 1)) (AB (aV 1) AL)))))) (AB (aC (.int 2)) AL))) AL))) (AB (aC .non) AL)))))
abbrev Ph:AS:=
 (Ad (CH (BH (AX MZ (aV 4) (aC .non))) (Ar (An (AB (aC .non) (AB (AN 1 CW (AB (AX Af (aV 4) (aC (.int 2))) AL)) AL)))) BO)
   Pi)
abbrev Pg:AS:=
 (Ad (Ao (AN 2 DZ (AB (aV 3) (AB (aC (.int 1)) AL))) (Am 4))
   Ph)
abbrev Pf:AS:=
 (Ad (Ao (Y0 3 EI 2 (AB (aV 2) (AB (aC (.int 2)) AL))) (Am 3))
   Pg)
abbrev Pe:AS:=
 (Ad (Ao (G4 (Bs (N6 (AB (aC (.int 12)) AL)) 1 [0] (Am 0) Dh (AN 3 EN (AB (AN 2 FE (AB (aV 1) (AB (aV 0) AL))) (AB (AX Af (aC (.tup [(.int 0),(.int 1),(.int 0),(.int 1),(.int 0),(.int 0),(.int 1),(.int 1),(.int 1),(.int 1),(.int 1),(.int 1)])) (aV 0)) (AB (aV 0) AL)))))) (Am 2))
   Pf)
abbrev Pd:AS:=
 (Ad (CH (BH (AX MZ (aV 1) (aC .non))) (Ar (An (AB (aC .non) (AB (aV 1) AL)))) BO)
   Pe)
abbrev Oa:AS:=
 (Ad (Ao (AN 1 Bn (AB (aV 0) AL)) (Am 1))
   Pd)
def FF:AF:=Ap 6 Oa
def TF {a:PV}{Q:PV->Prop}(h:Oa ⟨λ_=>Q .non,Q,λ_=>False,λ_=>False⟩ [some (.val a),none,none,none,none,none]):FF [a] Q:=h
abbrev MB:AS:=
 (Ad (FH (oJ (AB (AN 1 DB (AB (AX Af (aV 0) (aC (.int 0))) AL)) AL)) (HX 2 (AZ (Am 7) (AZ (Am 8) Be))) (FH (oJ (AB (aV 5) AL)) (HX 2 (AZ (Am 9) (AZ (Am 10) Be))) (F3 6 LG (AB (An (AB (aV 7) (AB (aV 9) (AB (An (AB (aV 8) (AB (aV 10) (AB (aV 3) (AB (aV 4) AL))))) AL)))) AL))))
   (Ar (aV 6)))
abbrev MA:AS:=
 (Ad (Jh (F8 AL) 6)
   MB)
abbrev L9:AS:=
 (Ad (Ao (AN 1 DB (AB (AX Af (aV 1) (aC (.int 0))) AL)) (Am 5))
   MA)
abbrev L8:AS:=
 (Ad (Ao (An (AB (AX Af (AX Af (aV 0) (aC (.int 1))) (aC (.int 2))) (AB (AX Af (AX Af (aV 1) (aC (.int 1))) (aC (.int 2))) AL))) (Am 4))
   L9)
abbrev KM:AS:=
 (Ad (Ao (AN 3 Df (AB (aV 0) (AB (aV 1) (AB (aV 2) AL)))) (Am 3))
   L8)
def DE:AF:=Ap 11 KM
def OQ {a b c:PV}{Q:PV->Prop}(h:KM ⟨λ_=>Q .non,Q,λ_=>False,λ_=>False⟩ [some (.val a),some (.val b),some (.val c),none,none,none,none,none,none,none,none]):DE [a,b,c] Q:=h
abbrev K3:AS:=
 (Ad (CH (BH (AX MZ (aV 7) (aC .non))) (Ar (An (AB (aC (.str "meet")) (AB (AX Af (aV 7) (aC (.int 0))) (AB (AX Af (aV 7) (aC (.int 1))) AL))))) BO)
   (F3 3 LG (AB (An (AB (aV 4) (AB (aV 5) (AB (aV 8) AL)))) AL)))
abbrev Pj:AS:=
 (Ad (Ao (AN 1 FF (AB (aV 6) AL)) (HX 2 (AZ (Am 7) (AZ (Am 8) Be))))
   K3)
abbrev Pk:AS:=
 (Ad (FH (LA (AN 3 DE (AB (aV 0) (AB (aV 1) (AB (aV 2) AL))))) (HX 3 (AZ (Am 4) (AZ (Am 5) (AZ (Am 6) Be)))) Pj)
   (Ar (An (AB (aC (.str "apart")) (AB (HG Cc (AB (aV 3) AL)) AL)))))
abbrev Ob:AS:=
 (Ad (Jh (F8 AL) 3)
   Pk)
def Bl:AF:=Ap 9 Ob
def TH {a b c:PV}{Q:PV->Prop}(h:Ob ⟨λ_=>Q .non,Q,λ_=>False,λ_=>False⟩ [some (.val a),some (.val b),some (.val c),none,none,none,none,none,none]):Bl [a,b,c] Q:=h
end PL
namespace PL
open PySem L2 PyProof.Rows
def UG {a b:Rat}{Q:PV->Prop}(ha:Bd 8800 a)(hb:Bd 8800 b)(h:Q (.bl (decide (a<b)))):A0 [fr a,fr b] Q:=by refine⟨.of ha.top hb.botI, .of hb.top ha.botI, ?_⟩;rw[<-fU] at h;exact h
def aF {a b:Rat}{Q:PV->Prop}(c:b≠0)(ha:Bd 8000 a)(hb:Bd 100 b)(h:Q (fr (a/b))):GI [fr a,fr b] Q:=by refine⟨.of ha.top hb.botI, .of ha.botI hb.top,rfl,De _ _ (Ce (BR a) (QW c)) (Aw (BU (a:=(a.den:Int)) ha.botI hb.top) (by omega)) _ ?_⟩;rw[Ff] at h;exact h
instance (priority:=high){a b:Rat}{Q:PV->Prop}:Tk (A0 [fr a,fr b] Q) (Bd 8800 a/\Bd 8800 b) (Q (.bl (decide (a<b)))):=⟨λc h=>UG c.1 c.2 h⟩
structure Bz where
 c0:Int
 c1:Int
 c2:Int
 s:Int
 w:List (Int×Int)
def Av (p:Bz):PV:= .tup [.tup [.int p.c0, .int p.c1, .int p.c2], .int p.s, .dk p.w]
def Ni (a:zq):Int:=if a then 2 else 1
def Bz.pr (a:zq)(p:Bz):Ep:=⟨p.c0,if a then p.c2 else p.c1,p.s,p.w⟩
structure Bi (N:Nat) (p:Bz):Prop where
 a:p.c0.natAbs<2^N
 b:p.c1.natAbs<2^N
 c:p.c2.natAbs<2^N
 w:∀e∈p.w,e.2.natAbs<2^N
 l:p.w.length<=12
 s:p.s=0\/p.s=1
def Bi.pr {N:Nat}{p:Bz}(h:Bi N p)(a:zq):cS N (p.pr a):=⟨h.a,by cases a;exact h.b;exact h.c,h.w,h.l,h.s⟩
instance{p:Bz}:Ix (Av p) 0 (.tup [.int p.c0, .int p.c1, .int p.c2]):=⟨rfl⟩
instance{p:Bz}:Ix (Av p) 1 (.int p.s):=⟨rfl⟩
instance{p:Bz}:Ix (Av p) 2 (.dk p.w):=⟨rfl⟩
def GL {a:zq}{p:Bz}{Q:PV->Prop}(q:Q (.int (p.pr a).c1)):Af (.tup [.int p.c0, .int p.c1, .int p.c2]) (.int (Ni a)) Q:=by cases a <;> exact q
def nQ (p r:Bz)(many more:Int):Bz:=⟨many*p.c0+more*r.c0,many*p.c1+more*r.c1,many*p.c2+more*r.c2,max p.s r.s,BW more (BX many p.w) r.w⟩
def eY {p r:Bz}{N:Nat}{many more:Int}(hp:Bi N p)(f:Bi N r)(h1:many.natAbs<2^N)(h2:more.natAbs<2^N)(hN:N<=10000){Q:PV->Prop}(q:Q (Av (nQ p r many more))):GJ [Av p, .int many,Av r, .int more] Q:=by
 have d:∀x y:Int,x.natAbs<2^N->y.natAbs<2^N->MulOk x y:=λx y a b=> .of a b;have sl:(BX many p.w).length<=p.w.length:=NN;have g:=hp.l;have h:=f.l;apply VC;repeat' array_get_dec
 refine⟨d _ _ h1 hp.a, ?_⟩;repeat' array_get_dec
 refine⟨d _ _ h2 f.a, ?_⟩;repeat' array_get_dec
 refine⟨d _ _ h1 hp.b, ?_⟩;repeat' array_get_dec
 refine⟨d _ _ h2 f.b, ?_⟩;repeat' array_get_dec
 refine⟨d _ _ h1 hp.c, ?_⟩;repeat' array_get_dec
 refine⟨d _ _ h2 f.c, ?_⟩;repeat' array_get_dec
 refine⟨⟨ABe rfl,ABe rfl,ABe rfl⟩, ?_⟩;repeat' array_get_dec
 refine⟨many,rfl,HJ (n:=12) g (by decide),λe he=>d _ _ h1 (hp.w e he), ?_⟩;show AX Af (aV 2) (aC (.int 2)) [some (AV.val (Av p)),some (AV.val (PV.int many)),some (AV.val (Av r)),some (AV.val (PV.int more)),some (AV.val (PV.tup [PV.int (many*p.c0+more*r.c0),PV.int (many*p.c1+more*r.c1),PV.int (many*p.c2+more*r.c2)])),none,none,none] _;repeat' array_get_dec
 refine⟨more,rfl,HJ (n:=24) (by omega) (by decide),λe he=>d _ _ h2 (f.w e he), ?_⟩;simp only[AC6,AD1];repeat' array_get_dec
 exact q
def BA (a:zq)(p r:Bz):Bz:=nQ p r (-(r.pr a).c1) (p.pr a).c1
def Oq {a:zq}{p r:Bz}{N:Nat}(hp:Bi N p)(c:Bi N r)(hN:N<=10000){Q:PV->Prop}(q:Q (Av (BA a p r))):EG [Av p,Av r, .int (Ni a)] Q:=by
 apply S9;repeat' array_get_dec
 refine GL ?_;repeat' array_get_dec
 refine GL ?_;repeat' array_get_dec
 exact eY hp c (by rw[ABu];exact(c.pr a).b) (hp.pr a).b hN q
def PB {p:Bz}(a:zq){Q:PV->Prop}(q:Q (.bl (G6 (p.pr a)))):Db [Av p] Q:=by
 unfold G6 at q;have b:(p.pr a).c0=p.c0:=rfl;have c:(p.pr a).s=p.s:=rfl;rw[b,c] at q;apply Q4;repeat' array_get_dec
 .rename_i h;rw[AAV (.inl h)] at q;exact q
 .rename_i h1 h2;rw[show decide (p.c0<0\/p.c0=0/\p.s=1)=decide (p.s=1) by rw[AC0];omega] at q;exact q
 .rename_i h1 h2;rw[AAc (by omega)] at q;exact q
def JK {a:zq}{p:Bz}{Q:PV->Prop}(q:Q (.tup [.int (Bj (p.pr a)).1, .int (Bj (p.pr a)).2])):DC [Av p, .int (Ni a)] Q:=by
 unfold Bj at q;have b:(p.pr a).c0=p.c0:=rfl;rw[b] at q;apply TK;repeat' array_get_dec
 refine GL ?_;generalize (p.pr a).c1=f at *;repeat' array_get_dec
 .rename_i h;rw[AAE h] at q;exact q
 .rename_i h;rw[AAD h] at q;exact q
def Ta {a:zq}{p r:Bz}{N:Nat}(hp:Bi N p)(e:Bi N r)(hN:N<=10000){Q:PV->Prop}(q:Q (.bl (NZ (p.pr a) (r.pr a)))):DN [Av p,Av r, .int (Ni a)] Q:=by
 obtain⟨b,c⟩:=Go (hp.pr a);obtain⟨d,b2⟩:=Go (e.pr a);unfold NZ at q;apply ND;ac_rfl;refine JK ?_;ac_rfl;refine JK ?_;ac_rfl;refine MS b c d b2 hN ?_;ac_rfl
 .rename_i h;refine GL ?_;ac_rfl;rw[AAE h] at q;exact q
 rename_i h;rw[AAD h] at q;refine MS d b2 b c hN ?_;ac_rfl
 .rename_i h;refine GL ?_;ac_rfl;rw[AAE h] at q;exact q
 .rename_i h;rw[AAD h] at q;exact q
instance{p:Bz}{Q:PV->Prop}:Wp (Xa (Av p) .non Q) (Q (.bl false)):=⟨id⟩
def Qn:zt Bz->PV|none=> .non|some p=>Av p
def Gm (a:zq)(sg:Int)(o:zt Bz)(p:Bz):zt Bz:=if 0<(p.pr a).c1*sg then (match o with | none=>some p|some r=>if NZ (p.pr a) (r.pr a)=true then some p else some r) else o
def Cj (a:zq)(sg:Int)(ps:zy Bz):zt Bz:=ps.foldl (Gm a sg) none
def Ve {a:zq}{sg:Int}{o:zt Bz}{p:Bz}:(Gm a sg o p).map (Bz.pr a)=Na sg (o.map (Bz.pr a)) (p.pr a):=by
 unfold Gm Na;split
 .cases o with
  | none=>rfl
  | some r=>
    show Option.map _ (if NZ (p.pr a) (r.pr a)=true then some p else some r)=if NZ (p.pr a) (r.pr a)=true then some (p.pr a) else some (r.pr a)
    cases NZ (p.pr a) (r.pr a) <;> rfl
 .rfl
def Va (a:zq)(sg:Int)(b:zy Bz)(p:Bz):Cj a sg (b ++ [p])=Gm a sg (Cj a sg b) p:=by unfold Cj;rw[ACc];rfl
def Vb {a:zq}{sg:Int}{ps:zy Bz}:(Cj a sg ps).map (Bz.pr a)=tight sg (ps.map (Bz.pr a)):=by
 have key:∀(ps:zy Bz) (o:zt Bz),(ps.foldl (Gm a sg) o).map (Bz.pr a)=(ps.map (Bz.pr a)).foldl (Na sg) (o.map (Bz.pr a)):=by
  intro ps;induction ps with
  | nil=>intro o;rfl
  | cons p ps b=> intro o;rw[ABQ,b,Ve];rfl
 exact key ps none
def Dr {a:zq}{sg:Int}:∀{ps:zy Bz} {r:Bz},Cj a sg ps=some r->r∈ps:=by
 have key:∀(ps:zy Bz) (o:zt Bz) (r:Bz),ps.foldl (Gm a sg) o=some r->r∈ps\/o=some r:=by
  intro ps;induction ps with
  | nil=>intro o r h;exact .inr h
  | cons p ps b=>
    intro o r h;rcases b _ _ h with h|h
    .exact .inl (by simp[h])
    .unfold Gm at h;split at h
     .cases o with
      | none=>cases h;exact .inl (by simp)
      | some q=>
        dsimp only at h;split at h
        .cases h;exact .inl (by simp)
        .exact .inr h
     .exact .inr h
 intro ps r h;rcases key ps none r h with h|h
 .exact h
 .cases h
def EF {v:PV}{a:zq}{ps:zy Bz}{N:Nat}{sg:Int}(hv:v= .lst (ps.map Av))(h:sg=1\/sg= -1)(ok:∀p∈ps,Bi N p)(hN:N<=10000)(hl:ps.length<=1000){Q:PV->Prop}(q:Q (Qn (Cj a sg ps))):CV [v, .int (Ni a), .int sg] Q:=by
 subst hv;apply RA;ac_rfl;refine DQ Av (λd vs τ=>∃f,τ= [some (.val (.lst (ps.map Av))),some (.val (.int (Ni a))),some (.val (.int sg)),some (.val (Qn (Cj a sg d))),f]) ?_ ?_ ⟨_,rfl⟩
 .rintro τ ⟨f,rfl⟩;ac_rfl;exact q
 .rintro d p vs e τ R i ⟨f,rfl⟩;have j:Bi N p:=ok p (by rw[<-e];simp);have k:∀x∈d,Bi N x:=λx hx=>ok x (by rw[<-e];simp[hx]);have c:=i [some (.val (.lst (ps.map Av))),some (.val (.int (Ni a))),some (.val (.int sg)),some (.val (Qn (Cj a sg (d ++ [p])))),some (.val (Av p))] ⟨_,rfl⟩;clear i;rw[Va] at c;unfold Gm at c;have m1:MulOk (p.pr a).c1 sg:= .of (m:=10000) (n:=10000) (Aw (j.pr a).b hN) (Aw (m:=1) (by omega) (by decide));cases g:Cj a sg d with
  | none=>
    rw[g] at c;rw[show Qn none=PV.non from rfl];ac_rfl;refine GL ?_;ac_rfl
    .rename_i z;rw[AAE z] at c;exact c
    .rename_i z;rw[AAD z] at c;exact c
  | some r=>
    rw[g] at c;have l:=k r (Dr g);rw[show Qn (some r)=Av r from rfl];ac_rfl;refine GL ?_;ac_rfl
    .rename_i z;rw[AAE z] at c;refine Ta j l hN ?_;dsimp only at c;cases hb:NZ (p.pr a) (r.pr a) with
     | true=> rw[hb,AAE rfl] at c;ac_rfl;exact c
     | false=> rw[hb,AAD (by decide)] at c;ac_rfl;exact c
    .rename_i z;rw[AAD z] at c;exact c
def YF {v:PV}{a:zq}{ps:zy Bz}{N:Nat}{l h:Bz}(hv:v= .lst (ps.map Av))(ok:∀p∈ps,Bi N p)(hN:N<=8900)(hl:ps.length<=1000)(b:Cj a 1 ps=some l)(c:Cj a (-1) ps=some h)(d:(l.pr a).c1≠0)(e:(h.pr a).c1≠0){Q:PV->Prop}(q:Q (.tup [fr (DI (l.pr a)), .int (1-l.s),fr (DI (h.pr a))])):EO [v, .int (Ni a)] Q:=by have f:=Go ((ok l (Dr b)).pr a);have b2:=Go ((ok h (Dr c)).pr a);have g:=(C1 d).1;have i:=(C1 e).1;rw[<-Vd d,<-Vd e] at q;apply Q8;ac_rfl;refine EF hv (.inl rfl) ok (by omega) hl ?_;rw[b,show Qn (some l)=Av l from rfl];ac_rfl;refine JK ?_;ac_rfl;refine De _ _ (by omega) (Aw f.2 hN) _ ?_;ac_rfl;refine EF hv (.inr rfl) ok (by omega) hl ?_;rw[c,show Qn (some h)=Av h from rfl];ac_rfl;refine JK ?_;ac_rfl;refine De _ _ (by omega) (Aw b2.2 hN) _ ?_;ac_rfl;exact q
def pz:Bd 100 ((2:Int):Rat):=by constructor <;> decide
def PQ {v:PV}{a:zq}{ps:zy Bz}{N:Nat}{l h:Bz}(hv:v= .lst (ps.map Av))(ok:∀p∈ps,Bi N p)(hN:N<=8900)(hl:ps.length<=1000)(b:Cj a 1 ps=some l)(c:Cj a (-1) ps=some h)(d:(l.pr a).c1≠0)(e:(h.pr a).c1≠0)(f:Bd 3900 (DI (l.pr a)))(b2:Bd 3900 (DI (h.pr a))){Q:PV->Prop}(q:Q (fr ((DI (l.pr a)+DI (h.pr a))/2))):CY [v, .int (Ni a)] Q:=by apply RB;ac_rfl;refine YF hv ok hN hl b c d e ?_;ac_rfl;refine aF (by grind) ((f.add b2).mono (by decide)) pz ?_;exact q
def R3 {p:Ep}(h:p.c1=0)(t u:Rat):holds p t↔holds p u:=by
 unfold holds NA;rw[h];have e:∀t:Rat,(p.c0:Rat)+((0:Int):Rat)*t=p.c0:=λt=>by grind
 rw[e,e]
def O7 {ps:zy Ep}{l h:Ep}(hs:∀p∈ps,p.s=0\/p.s=1)(g:tight 1 ps=some l)(i:tight (-1) ps=some h){t0:Rat}(a:∀p∈ps,holds p t0):∀p∈ps,holds p ((DI l+DI h)/2):=by
 have b:=(DH (.inl rfl) ps.length ps rfl hs).so l g;have c:=(DH (.inr rfl) ps.length ps rfl hs).so h i;have d:0<l.c1:=by have:=b.2.1;omega
 have f:h.c1<0:=by have:=c.2.1;omega
 have m:=(Di d t0).mp (a l b.1);have n:=(C5 f t0).mp (a h c.1);by_cases o:DI l<DI h
 .have j:holds l ((DI l+DI h)/2):=(Di d _).mpr (.inl (by grind));have k:holds h ((DI l+DI h)/2):=(C5 f _).mpr (.inl (by grind));intro p hp;rcases AD2 p.c1 0 with z|z|z
  .exact c.2.2 p hp (by omega) _ k
  .exact (R3 z _ _).mp (a p hp)
  .exact b.2.2 p hp (by omega) _ j
 .have e:(DI l+DI h)/2=t0:=by grind
  rw[e];exact a
def KP {l h:Ep}(b:0<l.c1)(c:h.c1<0)(u:l.s=0\/l.s=1)(v:h.s=0\/h.s=1)(w:zy (Int×Int)):G6 ⟨-h.c1*l.c0+l.c1*h.c0, -h.c1*l.c1+l.c1*h.c1,max l.s h.s,w⟩=false↔∃t,holds l t/\holds h t:=by
 have g:(0:Rat)<l.c1:=by exact_mod_cast b
 have i:(0:Rat) < -(h.c1:Rat):=by
  have:(h.c1:Rat)<0:=by exact_mod_cast c
  grind
 have k:((-h.c1*l.c0+l.c1*h.c0:Int):Rat)=(l.c1 * -(h.c1:Rat))*(DI h-DI l):=by
  push_cast
  rw[(C1 (p:=l) (by omega)).2.2,(C1 (p:=h) (by omega)).2.2];grind
 have pos:=ACQ g i;have key:DI l<DI h↔0 < -h.c1*l.c0+l.c1*h.c0:=by rw[<-ACP,k,AB5,ACR pos];grind
 have a:DI l=DI h↔ -h.c1*l.c0+l.c1*h.c0=0:=by
  rw[<-ADF,k,AB5,ABC];constructor
  .intro e;right;grind
  .rintro (z|z)
   .grind
   .grind
 unfold G6;rw[ADH];dsimp only;constructor
 .intro n;rcases Int.lt_or_eq_of_le (show 0<= -h.c1*l.c0+l.c1*h.c0 by omega) with z|z
  .have m:=key.mpr z;exact⟨(DI l+DI h)/2,(Di b _).mpr (.inl (by grind)),(C5 c _).mpr (.inl (by grind))⟩
  .have j:=a.mpr z.symm;have m0:l.s=0/\h.s=0:=by omega
   exact⟨DI l,(Di b _).mpr (.inr ⟨rfl,m0.1⟩),(C5 c _).mpr (.inr ⟨j.symm,m0.2⟩)⟩
 .rintro ⟨t,o,r⟩;have d:=(Di b t).mp o;have f:=(C5 c t).mp r;by_cases m:DI l<DI h
  .have:=key.mp m;omega
  .have j:DI l=DI h:=by grind
   have:=a.mp j;have:l.s=0:=by
    rcases d with d|d
    .exfalso;grind
    .exact d.2
   have:h.s=0:=by
    rcases f with f|f
    .exfalso;grind
    .exact f.2
   omega
def Xc {v:PV}{a:zq}{ps:zy Bz}{N:Nat}(hv:v= .lst (ps.map Av))(ok:∀p∈ps,Bi N p)(hN:N<=10000)(hl:ps.length<=1000){l h:Bz}(k:Cj a 1 ps=some l)(m:Cj a (-1) ps=some h){Q:PV->Prop}(s:(∀p∈ps,(p.pr a).c1=0->G6 (p.pr a)=false)->G6 ((BA a l h).pr a)=false->Q .non)(n:∀p,(p∈ps/\(p.pr a).c1=0)\/p=BA a l h->G6 (p.pr a)=true->Q (Av p)):DZ [v, .int (Ni a)] Q:=by
 subst hv;apply Q3;ac_rfl;refine DQ Av (λo vs τ=>(∀p∈o,(p.pr a).c1=0->G6 (p.pr a)=false)/\∃i f g,τ= [some (.val (.lst (ps.map Av))),some (.val (.int (Ni a))),i,f,g]) ?_ ?_ ⟨by simp,_,_,_,rfl⟩
 .rintro τ ⟨j,i,f,g,rfl⟩;ac_rfl;refine EF rfl (.inr rfl) ok (by omega) hl ?_;rw[m,show Qn (some h)=Av h from rfl];ac_rfl;refine EF rfl (.inl rfl) ok (by omega) hl ?_;rw[k,show Qn (some l)=Av l from rfl];ac_rfl;refine Oq (ok l (Dr k)) (ok h (Dr m)) hN ?_;have f1:=n (BA a l h) (.inr rfl);have t:=s j;generalize BA a l h=b at *;ac_rfl;refine PB a ?_;cases c:G6 (b.pr a) with
  | true=> ac_rfl;exact f1 c
  | false=> ac_rfl;exact t c
 .rintro o p vs e τ R r ⟨j,i,f,g,rfl⟩;have u:p∈ps:=by rw[<-e];simp
  have d:((p.pr a).c1=0->G6 (p.pr a)=false)->R [some (AV.val (PV.lst (List.map Av ps))),some (AV.val (PV.int (Ni a))),some (AV.val (Av p)),f,g] :=λh=>r _ ⟨λx hx=>by
   rcases AAR.mp hx with hx|hx
   .exact j x hx
   .rw [AAf.mp hx];exact h,_,_,_,rfl⟩
  clear r;ac_rfl;refine GL ?_;ac_rfl
  .rename_i z;refine PB a ?_;cases c:G6 (p.pr a) with
   | true=> ac_rfl;exact n p (.inl ⟨u,z⟩) c
   | false=> ac_rfl;exact d λ_=>c
  .rename_i z;exact d λh=>absurd h z
def Z8 {o:zt Nat}{R:Nat->Prop}(j:Nat)(h:o=some j)(q:R j):og o R:=by subst h;exact q
def C6 (a:zq)(r:Rat)(p:Bz):Bz:=if a then ⟨r.den*p.c0+p.c2*r.num,r.den*p.c1,0,p.s,p.w⟩ else ⟨r.den*p.c0+p.c1*r.num,0,r.den*p.c2,p.s,p.w⟩
def U6 {a:zq}{p:Bz}{r:Rat}{N M:Nat}(hp:Bi N p)(d:Bd M r)(hN:N<=100000)(e:M<=100000){Q:PV->Prop}(q:Q (Av (C6 a r p))):Dz [Av p, .int (Ni a),fr r] Q:=by
 have m0:MulOk (r.den:Int) p.c0:= .of d.botI hp.a;have m1:MulOk (r.den:Int) p.c1:= .of d.botI hp.b;have m2:MulOk (r.den:Int) p.c2:= .of d.botI hp.c;have m3:MulOk (p.pr a).c1 r.num:= .of (hp.pr a).b d.top;cases a
 .show Dz [Av p, .int 1,fr r] Q;have m3:MulOk p.c1 r.num:=m3;apply NE;repeat' array_get_dec
  refine⟨ADE 0,(by show (0:Int)<3;decide), ?_⟩;show AX CS (AX Af (AX Af (aV 0) (aC (PV.int 0))) (aV 1)) (aV 4) _ _;simp only[AC6,AD1,Int.toNat_zero];repeat' array_get_dec
  refine Z8 1 (by simp[WO]) ?_;show TN _ 3 (AV.own [PV.int (r.den*p.c0+p.c1*r.num),PV.int 0,PV.int (r.den*p.c2)]) _;repeat' array_get_dec
  exact q
 .show Dz [Av p, .int 2,fr r] Q;have m3:MulOk p.c2 r.num:=m3;apply NE;repeat' array_get_dec
  refine⟨ADE 0,(by show (0:Int)<3;decide), ?_⟩;show AX CS (AX Af (AX Af (aV 0) (aC (PV.int 0))) (aV 1)) (aV 4) _ _;simp only[AC6,AD1,Int.toNat_zero];repeat' array_get_dec
  refine Z8 2 (by simp[WO]) ?_;show TN _ 3 (AV.own [PV.int (r.den*p.c0+p.c2*r.num),PV.int (r.den*p.c1),PV.int 0]) _;repeat' array_get_dec
  exact q
def iT (x:PV)(R:Int->Prop):Prop:=match x with | .dk [(i,_)] =>R i|_=>False
instance{i v:Int}{R:Int->Prop}:Wp (iT (.dk [(i,v)]) R) (R i):=⟨id⟩
instance{a b:AE}{τ:BE}{Q:PV->Prop}:Wp (gR a b τ Q) (a τ λx=>iT x λi=>b τ λy=>iT y λj=>Q (.int (oi i j))):=⟨id⟩
def Eg (a:zq)(ps:zy Bz):zy Bz:=ps.filter (λp=>decide ((p.pr a).c1=0))++(ps.filter λp=>decide (0<(p.pr a).c1)).flatMap λl=>(ps.filter λp=>decide ((p.pr a).c1<0)).map λh=>BA a l h
def WZ {m:zy (Int×Int)}(h:m.length=1):∃i v,m= [(i,v)] :=by
 match m,h with
 | [(i,v)],_=>exact⟨i,v,rfl⟩
def jo (i j:Int):oi i j<=2:=by unfold oi;split <;> decide
def Tg {v:PV}{a:zq}{ps:zy Bz}{N:Nat}(hv:v= .lst (ps.map Av))(ok:∀p∈ps,Bi N p)(one:∀p∈ps,p.w.length=1)(hN:N<=10000)(hl:ps.length<=20){Q:PV->Prop}(q:Q (.lst ((Eg a ps).map Av))):EI [v, .int (Ni a), .int 2] Q:=by
 subst hv;unfold Eg at q;apply TL;ac_rfl;refine ET Av Av (λp=>decide (0<(p.pr a).c1)) (λ_=>True) (λp _ R N h1 h2=> ?_) ps [] (λ_ _=>trivial) ?_
 .ac_rfl;refine GL ?_;ac_rfl
  .rename_i h;exact h1 (AAV h)
  .rename_i h;exact h2 (AAc h)
 rw[AB0];have f:∀p∈(ps.filter λp=>decide (0<(p.pr a).c1)),p∈ps:=λp hp=>(AAW.mp hp).1;have u:(ps.filter λp=>decide (0<(p.pr a).c1)).length<=20:=AAY (ACS ..) hl;generalize (ps.filter λp=>decide (0<(p.pr a).c1))=lows at *;ac_rfl;refine ET Av Av (λp=>decide ((p.pr a).c1<0)) (λ_=>True) (λp _ R N h1 h2=> ?_) ps [] (λ_ _=>trivial) ?_
 .ac_rfl;refine GL ?_;ac_rfl
  .rename_i h;exact h1 (AAV h)
  .rename_i h;exact h2 (AAc h)
 rw[AB0];have g:∀p∈(ps.filter λp=>decide ((p.pr a).c1<0)),p∈ps:=λp hp=>(AAW.mp hp).1;have m:(ps.filter λp=>decide ((p.pr a).c1<0)).length<=20:=AAY (ACS ..) hl;generalize (ps.filter λp=>decide ((p.pr a).c1<0))=F4 at *;ac_rfl;refine ET Av Av (λp=>decide ((p.pr a).c1=0)) (λ_=>True) (λp _ R N h1 h2=> ?_) ps [] (λ_ _=>trivial) ?_
 .ac_rfl;refine GL ?_;ac_rfl
  .rename_i h;exact h1 (AAV h)
  .rename_i h;exact h2 (AAc h)
 rw[AB0];have y:(ps.filter λp=>decide ((p.pr a).c1=0)).length<=20:=AAY (ACS ..) hl;generalize (ps.filter λp=>decide ((p.pr a).c1=0))=zs at *;ac_rfl;refine DQ Av (λb vs τ=>∃n c,τ= [some (.val (.lst (ps.map Av))),some (.val (.int (Ni a))),some (.val (.int 2)),some (.val (.lst (lows.map Av))),some (.val (.lst (F4.map Av))),some (.own ((zs++b.flatMap λl=>F4.map λh=>BA a l h).map Av)),n,c]) ?_ ?_ ⟨none,none,by simp⟩
 .rintro τ ⟨n,c,rfl⟩;ac_rfl;exact q
 .rintro b l vs e τ R o ⟨n,c,rfl⟩;have r:l∈lows:=by rw[<-e];simp
  have ul:b.length<=20:=by have:=congrArg List.length e;simp at this;omega
  ac_rfl;refine DQ Av (λd xs τ=>∃c,τ= [some (.val (.lst (ps.map Av))),some (.val (.int (Ni a))),some (.val (.int 2)),some (.val (.lst (lows.map Av))),some (.val (.lst (F4.map Av))),some (.own (((zs++b.flatMap λl=>F4.map λh=>BA a l h)++d.map λh=>BA a l h).map Av)),some (.val (Av l)),c]) ?_ ?_ ⟨c,by simp⟩
  .rintro τ ⟨c,rfl⟩;exact o _ ⟨some (.val (Av l)),c,by simp[List.flatMap_append]⟩
  .rintro d h xs e' τ E s ⟨c,rfl⟩;have t:h∈F4:=by rw[<-e'];simp
   have F:d.length<=20:=by have:=congrArg List.length e';simp at this;omega
   obtain⟨i,G,z⟩:=WZ (one l (f l r));obtain⟨j,H,B⟩:=WZ (one h (g h t));have I:=jo i j;have k:=s [some (.val (.lst (ps.map Av))),some (.val (.int (Ni a))),some (.val (.int 2)),some (.val (.lst (lows.map Av))),some (.val (.lst (F4.map Av))),some (.own (((zs++b.flatMap λl=>F4.map λh=>BA a l h)++(d ++ [h]).map λh=>BA a l h).map Av)),some (.val (Av l)),some (.val (Av h))] ⟨_,rfl⟩;clear s o;have C:∀A:zy Bz,(A++(d ++ [h]).map λh=>BA a l h).map Av=(A++d.map λh=>BA a l h).map Av ++ [Av (BA a l h)] :=λA=>by simp
   rw[C] at k;have len:(((zs++b.flatMap λl=>F4.map λh=>BA a l h)++d.map λh=>BA a l h).map Av).length<=1000:=by
    have:(b.flatMap λl=>F4.map λh=>BA a l h).length<=20*20:=by
     rw[ADI];have:∀b:zy Bz,(b.map λl=>(F4.map λh=>BA a l h).length).sum=b.length*F4.length:=λb=>by
      induction b with
      | nil=>simp
      | cons x b D=>simp[AAN,AAp,ACL] at D ⊢;omega
     rw[this];exact AA5 ul m
    simp only[AAL,ABH];omega
   generalize (((zs++b.flatMap λl=>F4.map λh=>BA a l h)++d.map λh=>BA a l h).map Av)=told at *;ac_rfl;rw[z];ac_rfl;rw[B];ac_rfl
   .refine Oq (ok l (f l r)) (ok h (g h t)) hN ?_;ac_rfl;refine⟨HJ len (by decide), ?_⟩;ac_rfl;exact k
   .exfalso;omega
def h3 (p:Bz)(s t:Rat):Prop:=0<(p.c0:Rat)+p.c1*s+p.c2*t\/((p.c0:Rat)+p.c1*s+p.c2*t=0/\p.s=0)
def V6 (r:Rat):(0:Rat)<(r.den:Rat)/\(r.num:Rat)=(r.den:Rat)*r:=by
 have hd:(0:Rat)<(r.den:Rat):=by exact_mod_cast r.den_pos
 refine⟨hd, ?_⟩;have:(r.num:Rat)/(r.den:Rat)=r:=by
  have:=AA9 r;rw[ACe] at this
  exact_mod_cast this
 have e:(r.num:Rat)/(r.den:Rat)*(r.den:Rat)=(r.num:Rat):=ABR (by grind);rw[this] at e;grind
def FW {d x:Rat}(h:0<d):(0<d*x↔0<x)/\(d*x=0↔x=0):=by refine⟨ACR h, ?_⟩;rw[ABC];grind
def CF {p:Bz}{r t:Rat}:holds ((C6 false r p).pr true) t↔h3 p r t:=by
 obtain⟨hd,a⟩:=V6 r;have e:NA ((C6 false r p).pr true) t=(r.den:Rat)*((p.c0:Rat)+p.c1*r+p.c2*t):=by
  show (((r.den:Int)*p.c0+p.c1*r.num:Int):Rat)+(((r.den:Int)*p.c2:Int):Rat)*t=_
  push_cast
  rw[a];grind
 unfold holds h3;rw[e,(FW hd).1,(FW hd).2];rfl
def PC {p:Bz}{s t:Rat}(h:p.c2=0):holds (p.pr false) s↔h3 p s t:=by
 have e:NA (p.pr false) s=(p.c0:Rat)+p.c1*s+p.c2*t:=by show (p.c0:Rat)+(p.c1:Rat)*s=_;rw[h];grind
 unfold holds h3;rw[e];rfl
def KO {l h:Bz}(s:Rat)(f:0<l.c2)(g:h.c2<0)(i:l.s=0\/l.s=1)(j:h.s=0\/h.s=1):holds ((BA true l h).pr false) s↔∃t,h3 l s t/\h3 h s t:=by
 obtain⟨hd,k⟩:=V6 s;have hi:(0:Int)<s.den:=by exact_mod_cast s.den_pos
 have m:=KP (l:=(C6 false s l).pr true) (h:=(C6 false s h).pr true) (ABh hi f) (by show (s.den:Int)*h.c2<0;exact Int.mul_neg_of_pos_of_neg hi g) i j [];have e:(∃t,holds ((C6 false s l).pr true) t/\holds ((C6 false s h).pr true) t)↔∃t,h3 l s t/\h3 h s t:=by
  constructor
  .rintro ⟨t,a,b⟩;exact⟨t,CF.mp a,CF.mp b⟩
  .rintro ⟨t,a,b⟩;exact⟨t,CF.mpr a,CF.mpr b⟩
 rw[<-e,<-m];unfold G6;rw[ADH];dsimp only;have c:(((-((C6 false s h).pr true).c1*((C6 false s l).pr true).c0+((C6 false s l).pr true).c1*((C6 false s h).pr true).c0:Int)):Rat)=((s.den:Rat)*s.den)*NA ((BA true l h).pr false) s:=by
  show ((-((s.den:Int)*h.c2)*((s.den:Int)*l.c0+l.c1*s.num)+((s.den:Int)*l.c2)*((s.den:Int)*h.c0+h.c1*s.num):Int):Rat)=((s.den:Rat)*s.den)*((((-h.c2)*l.c0+l.c2*h.c0:Int):Rat)+(((-h.c2)*l.c1+l.c2*h.c1:Int):Rat)*s)
  push_cast
  rw[k];grind
 generalize (-((C6 false s h).pr true).c1*((C6 false s l).pr true).c0+((C6 false s l).pr true).c1*((C6 false s h).pr true).c0:Int)=V at *;have d:=ACQ hd hd;have n:0<V↔0<NA ((BA true l h).pr false) s:=by rw[<-(FW d).1,<-c,<-AB5,ACP]
 have o:V=0↔NA ((BA true l h).pr false) s=0:=by rw[<-(FW d).2,<-c,<-AB5,ADF]
 unfold holds;rw[<-n,<-o];show (0<V\/V=0/\max l.s h.s=0)↔¬(V<0\/V=0/\max l.s h.s=1);omega
def fm {ps:zy Bz}(hs:∀p∈ps,p.s=0\/p.s=1)(lo:∃p∈ps,0<p.c2)(hi:∃p∈ps,p.c2<0)(s:Rat):(∀p∈Eg true ps,holds (p.pr false) s)↔∃t,∀p∈ps,h3 p s t:=by
 have d:(0:Int)<s.den:=by exact_mod_cast s.den_pos
 constructor
 .intro b;have n:∀p∈ps,p.c2=0->holds (p.pr false) s:=λp hp z=>b p (by unfold Eg;exact AAR.mpr (.inl (AAW.mpr ⟨hp,AAV z⟩)));have cs:∀l∈ps,∀h∈ps,0<l.c2->h.c2<0->∃t,h3 l s t/\h3 h s t:=λl hl h a f g=>(KO s f g (hs l hl) (hs h a)).mp (b _ (by
   unfold Eg;exact AAR.mpr (.inr (ABB.mpr ⟨l,AAW.mpr ⟨hl,AAV f⟩,AAI.mpr ⟨h,AAW.mpr ⟨a,AAV g⟩,rfl⟩⟩))))
  have i:∀q∈ps.map (λp=>(C6 false s p).pr true),q.s=0\/q.s=1:=λq i=>by obtain⟨p,hp,rfl⟩:=AAI.mp i;exact hs p hp
  have j:=DH (.inl rfl) _ (ps.map λp=>(C6 false s p).pr true) rfl i;have k:=DH (.inr rfl) _ (ps.map λp=>(C6 false s p).pr true) rfl i;have c:∀p:Bz,((C6 false s p).pr true).c1=s.den*p.c2:=λp=>rfl;obtain⟨o,r⟩:∃l,tight 1 (ps.map λp=>(C6 false s p).pr true)=some l:=by
   cases e:tight 1 (ps.map λp=>(C6 false s p).pr true) with
   | some l=>exact⟨l,rfl⟩
   | none=> obtain⟨p,hp,h⟩:=lo;refine absurd ?_ (j.no e _ (AAI.mpr ⟨p,hp,rfl⟩));rw[c,ABo];exact ABh d h
  obtain⟨h',u⟩:∃l,tight (-1) (ps.map λp=>(C6 false s p).pr true)=some l:=by
   cases e:tight (-1) (ps.map λp=>(C6 false s p).pr true) with
   | some l=>exact⟨l,rfl⟩
   | none=> obtain⟨p,hp,h⟩:=hi;refine absurd ?_ (k.no e _ (AAI.mpr ⟨p,hp,rfl⟩));rw[c];have:=ABh d (show 0 < -p.c2 by omega);grind
  obtain⟨m1,m,v⟩:=j.so o r;obtain⟨m2,w,y⟩:=k.so h' u;obtain⟨l,hl,rfl⟩:=AAI.mp m1;obtain⟨h,a,rfl⟩:=AAI.mp m2;have sg:∀x:Int,(0<s.den*x↔0<x):=λx=>⟨λz=>Int.pos_of_mul_pos_right z d,λz=>ABh d z⟩;have f:0<l.c2:=by rw[c,ABo,sg] at m;exact m
  have g:h.c2<0:=by rw[c,show (s.den:Int)*h.c2 * -1=s.den * -h.c2 by grind,sg] at w;omega
  obtain⟨t,A,B⟩:=cs l hl h a f g;refine⟨t,λp hp=> ?_⟩;rcases AD2 p.c2 0 with z|z|z
  .refine CF.mp (y _ (AAI.mpr ⟨p,hp,rfl⟩) ?_ t (CF.mpr B));rw[c,show (s.den:Int)*p.c2 * -1=s.den * -p.c2 by grind,sg];omega
  .exact (PC z).mp (n p hp z)
  .refine CF.mp (v _ (AAI.mpr ⟨p,hp,rfl⟩) ?_ t (CF.mpr A));rw[c,ABo,sg];exact z
 .rintro ⟨t,b⟩ p hp;unfold Eg at hp;rcases AAR.mp hp with hp|hp
  .obtain ⟨hp,z⟩:=AAW.mp hp;exact(PC (t:=t) (AAr z)).mpr (b p hp)
  .obtain ⟨l,hl,hp⟩:=ABB.mp hp;obtain⟨h,a,rfl⟩:=AAI.mp hp;obtain⟨hl,C⟩:=AAW.mp hl;obtain⟨a,D⟩:=AAW.mp a;exact(KO s (AAr C) (AAr D) (hs l hl) (hs h a)).mpr ⟨t,b l hl,b h a⟩
def OH (a b c:Rat)(s n:Int):Bz:=⟨RZ (FX [a,b,c]) a,RZ (FX [a,b,c]) b,RZ (FX [a,b,c]) c,s, [(n,(FX [a,b,c] :Nat))]⟩
def VN {a b c:Rat}{W:Nat}(ba:Bd W a)(j:Bd W b)(f:Bd W c)(i:W<=1400){Q:PV->Prop}(q:Q (.int (FX [a,b,c] :Nat))):CB [.tup [fr a,fr b,fr c]] Q:=by
 have hx:∀x∈ [a,b,c],Bd W x:=by simp;exact⟨ba,j,f⟩
 apply JC;ac_rfl;show DF _ _ _ ([a,b,c].map fr) _;refine DQ fr (λd vs τ=>∃g h,τ= [some (.val (.tup [fr a,fr b,fr c])),some (.val (.int (FX d:Nat))),g,h]) ?_ ?_ ⟨_,_,rfl⟩
 .rintro τ ⟨g,h,rfl⟩;ac_rfl;exact q
 .rintro d c vs e τ R k ⟨g,h,rfl⟩;have hu:∀x∈d,Bd W x:=λx l=>hx x (by rw[<-e];simp[l]);have ul:d.length<=6:=by have:=congrArg List.length e;simp at this;omega
  obtain⟨h1,h2,h3⟩:=Gg d.length d rfl hu;have f:=(hx c (by rw[<-e];simp)).bot;have p:d.length*W<=6*1400:=AA5 ul i;have r:0<Nat.gcd (FX d) c.den:=ACK _ c.den_pos;have gl:Nat.gcd (FX d) c.den<2^8900:=Aw (AAQ (ABx c.den_pos (ABv ..)) f) (by omega);ac_rfl;refine GH _ _ _ ?_;ac_rfl;refine⟨⟨by omega,by simpa using gl⟩, ?_⟩;have o:((c.den:Nat):Int).fdiv ((Nat.gcd (FX d) c.den:Nat):Int)=((c.den/Nat.gcd (FX d) c.den:Nat):Int):=by rw[ABZ _ (by omega),ABw]
  rw[o];have dl:c.den/Nat.gcd (FX d) c.den<2^1400:=Aw (AAQ (ABt ..) f) i;ac_rfl;refine⟨MulOk.of (m:=8401) (n:=1400) (by simpa using Aw h3 (by omega)) (by rw[AA4];exact dl), ?_⟩;exact k _ ⟨some (.val (.int c.num)),some (.val (.int c.den)),by rw[RH,AC1];rfl⟩
def YD {a b c:Rat}{W:Nat}{s n:Int}(ba:Bd W a)(e:Bd W b)(f:Bd W c)(d:W<=1400){Q:PV->Prop}(q:Q (Av (OH a b c s n))):EN [.tup [fr a,fr b,fr c], .int s, .int n] Q:=by
 obtain⟨h1,h2,h3⟩:=Gg (W:=W) 3 [a,b,c] rfl (by simp;exact⟨ba,e,f⟩);have g:∀x:Rat,((FX [a,b,c] :Int).fdiv (x.den:Int)).natAbs<2^4201:=λx=>by rw[ABZ _ (by omega),<-ABw,AA4];exact AAQ (ABt ..) (Aw h3 (by omega))
 have h:=g a;have i:=g b;have j:=g c;have o:0<a.den:=a.den_pos;have p:0<b.den:=b.den_pos;have r:0<c.den:=c.den_pos;have k:=(ba.mono d).bot;have l:=(e.mono d).bot;have m:=(f.mono d).bot;apply Q7;ac_rfl;refine VN ba e f d ?_;unfold OH RZ at q;generalize FX [a,b,c] =S at *;repeat' array_get_dec
 refine⟨⟨by omega,by rw[AA4];exact Aw k (by decide)⟩, ?_⟩;repeat' array_get_dec
 refine⟨MulOk.of (ba.mono d).top h, ?_⟩;repeat' array_get_dec
 refine⟨⟨by omega,by rw[AA4];exact Aw l (by decide)⟩, ?_⟩;repeat' array_get_dec
 refine⟨MulOk.of (e.mono d).top i, ?_⟩;repeat' array_get_dec
 refine⟨⟨by omega,by rw[AA4];exact Aw m (by decide)⟩, ?_⟩;repeat' array_get_dec
 refine⟨MulOk.of (f.mono d).top j, ?_⟩;repeat' array_get_dec
 exact q
def Zu {a b c:Rat}{W M:Nat}{s n:Int}(ba:Bd W a)(f:Bd W b)(g:Bd W c)(d:FX [a,b,c] < 2^M)(hs:s=0\/s=1):Bi (W+M) (OH a b c s n)/\∀x y:Rat,h3 (OH a b c s n) x y↔(0<a+b*x+c*y\/(a+b*x+c*y=0/\s=0)):=by
 obtain⟨h1,h2,_⟩:=Gg (W:=W) 3 [a,b,c] rfl (by simp;exact⟨ba,f,g⟩);have h:(0:Rat)<((FX [a,b,c] :Nat):Rat):=by exact_mod_cast h1
 have i:=Ft (h2 a (by simp));have j:=Ft (h2 b (by simp));have k:=Ft (h2 c (by simp));refine⟨⟨VH ba d,VH f d,VH g d,by simp[OH];exact Aw d (by omega),by simp[OH],hs⟩,λx y=> ?_⟩;have e:((OH a b c s n).c0:Rat)+(OH a b c s n).c1*x+(OH a b c s n).c2*y=((FX [a,b,c] :Nat):Rat)*(a+b*x+c*y):=by show ((RZ (FX [a,b,c]) a:Int):Rat)+((RZ (FX [a,b,c]) b:Int):Rat)*x+((RZ (FX [a,b,c]) c:Int):Rat)*y=_;rw[i,j,k];grind
 unfold h3;rw[e,(FW h).1,(FW h).2];rfl
def D3 (m:zy (Int×Int)):Nat:=m.foldl (λg e=>Nat.gcd e.2.toNat g) 0
def dy (m:zy (Int×Int))(k:Int):PV:= .tup [.int k,fr (((((m.lookup k).getD 0).fdiv (D3 m:Nat):Int)):Rat)]
def ZT (m:zy (Int×Int))(e:Int×Int):D3 (m ++ [e])=Nat.gcd e.2.toNat (D3 m):=by unfold D3;rw[ACc];rfl
def Uo {m:zy (Int×Int)}{k:Int}(h:k∈m.map (·.1)):∃v,m.lookup k=some v/\(k,v)∈m:=by
 induction m with
 | nil=>simp at h
 | cons e m c=>
   obtain⟨i,v⟩:=e;by_cases z:k=i
   .subst z;exact⟨v,by simp[List.lookup],by simp⟩
   .have:k∈m.map (·.1):=by simp[z] at h;simpa using h
    obtain⟨d,a,b⟩:=c this;have f:(k==i)=false:=by simpa using z
    exact⟨d,by simp[List.lookup,f,a],by simp[b]⟩
theorem QD:∀(m:zy (Int×Int)) (g:Nat),(0<g\/m≠ [])->(∀e∈m,0<e.2)->0<m.foldl (λg e=>Nat.gcd e.2.toNat g) g
 | [],g,h,_=>by simpa using h
 | e::m,g,_,hp=>QD m _ (.inl (Nat.gcd_pos_of_pos_left _ (by have:=hp e (by simp);omega))) λx hx=>hp x (by simp[hx])
theorem WB {N:Nat}:∀(m:zy (Int×Int)) (g:Nat),(∀e∈m,0<e.2/\e.2.natAbs<2^N)->(g<2^N)->m.foldl (λg e=>Nat.gcd e.2.toNat g) g<2^N
 | [],g,_,h=>h
 | e::m,g,hp,_=>WB m _ (λx hx=>hp x (by simp[hx])) (by
    have h:=hp e (by simp);exact AAQ (ABx (by omega) (ADm ..)) (by omega))
def YQ {m:zy (Int×Int)}{N:Nat}(hp:∀e∈m,0<e.2/\e.2.natAbs<2^N)(i:m≠ [])(hl:m.length<64)(hN:N<=8900){Q:PV->Prop}(q:∀ns:zy Int,ns.Perm (m.map (·.1))->ns.Pairwise (· <= ·)->Q (.tup (ns.map (dy m)))):CW [.dk m] Q:=by
 have o:0<D3 m:=QD m 0 (.inr i) λe he=>(hp e he).1;have j:D3 m<2^N:=WB m 0 hp (AD3 N);apply Jy;ac_rfl;show DF _ _ _ (m.map λp=>PV.int p.2) _;refine DQ (λp:Int×Int=>PV.int p.2) (λc vs τ=>∃d,τ= [some (.val (.dk m)),some (.val (.int (D3 c:Nat))),d]) ?_ ?_ ⟨_,rfl⟩
 .rintro τ ⟨d,rfl⟩;ac_rfl;refine⟨hl,λns f l=> ?_⟩;ac_rfl;have a:=q ns f l;refine⟨by rw[f.length_eq,AAL];omega, ?_⟩;refine Gx PV.int (dy m) id (λk=>k∈m.map (·.1)) (λk hk R b=> ?_) ns [] (λk hk=>f.mem_iff.mp hk) ?_
  .obtain ⟨v,g,r⟩:=Uo hk;unfold dy id at b;rw[g,ADC] at b;ac_rfl;refine⟨v,g, ?_⟩;ac_rfl;refine⟨⟨by omega,by simpa using Aw j hN⟩, ?_⟩;ac_rfl;exact b
  .rw [AB0,List.map_id];ac_rfl;exact a
 .rintro c e vs n τ R b ⟨d,rfl⟩;have he:=(hp e (by rw[<-n];simp)).1;have h:e.2=((e.2.toNat:Nat):Int):=by omega
  have a:=b [some (.val (.dk m)),some (.val (.int (D3 (c ++ [e]):Nat))),some (.val (.int e.2))] ⟨_,rfl⟩;clear b;rw[ZT] at a;ac_rfl;rw[h];refine GH _ _ _ ?_;rw[h] at a;ac_rfl;exact a
structure Wd where
 b:C4
 e:C4
 b':C4
 e':C4
 z:T3
 l:Rat
 l':Rat
def cF (w:Wd):PV:= .tup [CI w.b w.e,CI w.b' w.e', .lst [fr w.z.1,fr w.z.2.1,fr w.z.2.2], .tup [fr w.l,fr w.l']]
def sl (w:Wd):Nat->Rat|0=>YK w.b w.e w.b.2.1 w.e.2.1|1=>YK w.b w.e w.b.2.2.1 w.e.2.2.1|_=>YK w.b w.e w.b.2.2.2 w.e.2.2.2
def Yh (w:Wd):Nat->Rat|0=>YK w.b' w.e' w.b'.2.1 w.e'.2.1|1=>YK w.b' w.e' w.b'.2.2.1 w.e'.2.2.1|_=>YK w.b' w.e' w.b'.2.2.2 w.e'.2.2.2
def ba (w:Wd):Nat->Rat|0=>Y6 w.b w.e w.b.2.1 w.e.2.1|1=>Y6 w.b w.e w.b.2.2.1 w.e.2.2.1|_=>Y6 w.b w.e w.b.2.2.2 w.e.2.2.2
def Ya (w:Wd):Nat->Rat|0=>Y6 w.b' w.e' w.b'.2.1 w.e'.2.1|1=>Y6 w.b' w.e' w.b'.2.2.1 w.e'.2.2.1|_=>Y6 w.b' w.e' w.b'.2.2.2 w.e'.2.2.2
def sz (w:Wd):Nat->Rat|0=>w.z.1|1=>w.z.2.1|_=>w.z.2.2
def Ai (w:Wd):Nat->Rat×Rat×Rat
 | 0=>(-w.b.1,1,0)
 | 1=>(w.e.1, -1,0)
 | 2=>(-w.b'.1,0,1)
 | 3=>(w.e'.1,0, -1)
 | 4=>(w.l,1, -1)
 | 5=>(w.l', -1,1)
 | 6=>(sz w 0-(ba w 0-Ya w 0), -sl w 0,Yh w 0)
 | 7=>(sz w 0+(ba w 0-Ya w 0),sl w 0, -Yh w 0)
 | 8=>(sz w 1-(ba w 1-Ya w 1), -sl w 1,Yh w 1)
 | 9=>(sz w 1+(ba w 1-Ya w 1),sl w 1, -Yh w 1)
 | 10=>(sz w 2-(ba w 2-Ya w 2), -sl w 2,Yh w 2)
 | _=>(sz w 2+(ba w 2-Ya w 2),sl w 2, -Yh w 2)
structure Rt (W:Nat) (w:Wd):Prop where
 t1:Bd W w.b.1
 t2:Bd W w.e.1
 t3:Bd W w.b'.1
 t4:Bd W w.e'.1
 l1:Bd W w.l
 l2:Bd W w.l'
 z:∀k,Bd W (sz w k)
 s:∀k,Bd W (sl w k)
 s':∀k,Bd W (Yh w k)
 a:∀k,Bd W (ba w k)
 a':∀k,Bd W (Ya w k)
def fA (x:Rat×Rat×Rat):PV:= .tup [fr x.1,fr x.2.1,fr x.2.2]
def en {w:Wd}{n:Nat}(h:n<6){Q:PV->Prop}(q:Q (fA (Ai w n))):D1 [cF w, .int n] Q:=by
 apply OP;unfold cF CI;repeat' array_get_dec
 refine Fj ?_;repeat' array_get_dec
 refine Fj ?_;repeat' array_get_dec
 have cs:n=0\/n=1\/n=2\/n=3\/n=4\/n=5:=by omega
 rcases cs with rfl|rfl|rfl|rfl|rfl|rfl <;> exact q
def YX (d e f g h:PV)(a s b c:Nat->Rat)(z:Nat->Rat):PV:= .tup [.tup [d,e, .lst [.tup [fr (a 0),fr (s 0)], .tup [fr (a 1),fr (s 1)], .tup [fr (a 2),fr (s 2)]]], .tup [f,g, .lst [.tup [fr (b 0),fr (c 0)], .tup [fr (b 1),fr (c 1)], .tup [fr (b 2),fr (c 2)]]], .lst [fr (z 0),fr (z 1),fr (z 2)],h]
section
variable {x1 x2 x3 x4 ls:PV}{a s a' s' z:Nat->Rat}{W:Nat}{Q:PV->Prop}
theorem jT (d:W<=1300)(ha:Bd W (a 0))(b:Bd W (a' 0))(c:Bd W (z 0))(q:Q (.tup [fr (z 0-(a 0-a' 0)),fr (-s 0),fr (s' 0)])):BQ [YX x1 x2 x3 x4 ls a s a' s' z, .int 6] Q:=by
 have e:=(ha.sub b).mono (n:=3900) (by omega);have ha:=ha.mono (n:=3900) (by omega);have b:=b.mono (n:=3900) (by omega);have c:=c.mono (n:=3900) (by omega);apply CG;unfold YX;repeat' array_get_dec
 refine⟨⟨by decide,by decide⟩, ?_⟩;show Am 2 (.int 0) _ _;repeat' array_get_dec
 refine Fj ?_;repeat' array_get_dec
 exact q
theorem jU (d:W<=1300)(ha:Bd W (a 0))(b:Bd W (a' 0))(c:Bd W (z 0))(q:Q (.tup [fr (z 0+(a 0-a' 0)),fr (s 0),fr (-s' 0)])):BQ [YX x1 x2 x3 x4 ls a s a' s' z, .int 7] Q:=by
 have e:=(ha.sub b).mono (n:=3900) (by omega);have ha:=ha.mono (n:=3900) (by omega);have b:=b.mono (n:=3900) (by omega);have c:=c.mono (n:=3900) (by omega);apply CG;unfold YX;repeat' array_get_dec
 refine⟨⟨by decide,by decide⟩, ?_⟩;show Am 2 (.int 0) _ _;repeat' array_get_dec
 refine Fj ?_;repeat' array_get_dec
 exact q
theorem jV (d:W<=1300)(ha:Bd W (a 1))(b:Bd W (a' 1))(c:Bd W (z 1))(q:Q (.tup [fr (z 1-(a 1-a' 1)),fr (-s 1),fr (s' 1)])):BQ [YX x1 x2 x3 x4 ls a s a' s' z, .int 8] Q:=by
 have e:=(ha.sub b).mono (n:=3900) (by omega);have ha:=ha.mono (n:=3900) (by omega);have b:=b.mono (n:=3900) (by omega);have c:=c.mono (n:=3900) (by omega);apply CG;unfold YX;repeat' array_get_dec
 refine⟨⟨by decide,by decide⟩, ?_⟩;show Am 2 (.int 1) _ _;repeat' array_get_dec
 refine Fj ?_;repeat' array_get_dec
 exact q
theorem jX (d:W<=1300)(ha:Bd W (a 1))(b:Bd W (a' 1))(c:Bd W (z 1))(q:Q (.tup [fr (z 1+(a 1-a' 1)),fr (s 1),fr (-s' 1)])):BQ [YX x1 x2 x3 x4 ls a s a' s' z, .int 9] Q:=by
 have e:=(ha.sub b).mono (n:=3900) (by omega);have ha:=ha.mono (n:=3900) (by omega);have b:=b.mono (n:=3900) (by omega);have c:=c.mono (n:=3900) (by omega);apply CG;unfold YX;repeat' array_get_dec
 refine⟨⟨by decide,by decide⟩, ?_⟩;show Am 2 (.int 1) _ _;repeat' array_get_dec
 refine Fj ?_;repeat' array_get_dec
 exact q
theorem d9 (d:W<=1300)(ha:Bd W (a 2))(b:Bd W (a' 2))(c:Bd W (z 2))(q:Q (.tup [fr (z 2-(a 2-a' 2)),fr (-s 2),fr (s' 2)])):BQ [YX x1 x2 x3 x4 ls a s a' s' z, .int 10] Q:=by
 have e:=(ha.sub b).mono (n:=3900) (by omega);have ha:=ha.mono (n:=3900) (by omega);have b:=b.mono (n:=3900) (by omega);have c:=c.mono (n:=3900) (by omega);apply CG;unfold YX;repeat' array_get_dec
 refine⟨⟨by decide,by decide⟩, ?_⟩;show Am 2 (.int 2) _ _;repeat' array_get_dec
 refine Fj ?_;repeat' array_get_dec
 exact q
theorem eB (d:W<=1300)(ha:Bd W (a 2))(b:Bd W (a' 2))(c:Bd W (z 2))(q:Q (.tup [fr (z 2+(a 2-a' 2)),fr (s 2),fr (-s' 2)])):BQ [YX x1 x2 x3 x4 ls a s a' s' z, .int 11] Q:=by
 have e:=(ha.sub b).mono (n:=3900) (by omega);have ha:=ha.mono (n:=3900) (by omega);have b:=b.mono (n:=3900) (by omega);have c:=c.mono (n:=3900) (by omega);apply CG;unfold YX;repeat' array_get_dec
 refine⟨⟨by decide,by decide⟩, ?_⟩;show Am 2 (.int 2) _ _;repeat' array_get_dec
 refine Fj ?_;repeat' array_get_dec
 exact q
end
def eF {w:Wd}{W:Nat}(ok:Rt W w)(c:W<=1300){n:Nat}(h:6<=n)(h':n<12){Q:PV->Prop}(q:Q (fA (Ai w n))):BQ [cF w, .int n] Q:=by
 have e:cF w=YX (fr w.b.1) (fr w.e.1) (fr w.b'.1) (fr w.e'.1) (.tup [fr w.l,fr w.l']) (ba w) (sl w) (Ya w) (Yh w) (sz w):=rfl;rw[e];have cs:n=6\/n=7\/n=8\/n=9\/n=10\/n=11:=by omega
 rcases cs with rfl|rfl|rfl|rfl|rfl|rfl
 .exact jT c (ok.a 0) (ok.a' 0) (ok.z 0) q
 .exact jU c (ok.a 0) (ok.a' 0) (ok.z 0) q
 .exact jV c (ok.a 1) (ok.a' 1) (ok.z 1) q
 .exact jX c (ok.a 1) (ok.a' 1) (ok.z 1) q
 .exact d9 c (ok.a 2) (ok.a' 2) (ok.z 2) q
 .exact eB c (ok.a 2) (ok.a' 2) (ok.z 2) q
def cf {w:Wd}{W:Nat}(ok:Rt W w)(a:W<=1300){n:Nat}(h:n<12){Q:PV->Prop}(q:Q (fA (Ai w n))):FE [cF w, .int n] Q:=by
 apply TB;ac_rfl
 .exact en (by omega) q
 .exact eF ok a (by omega) h q
def FN {w:Wd}{W:Nat}(ok:Rt W w)(n:Nat):Bd (3*W+2) (Ai w n).1/\Bd (3*W+2) (Ai w n).2.1/\Bd (3*W+2) (Ai w n).2.2:=by
 have b:Bd (3*W+2) (1:Rat):=Bd.mono (m:=2) (by constructor <;> decide) (by omega);have c:Bd (3*W+2) (-1:Rat):=Bd.mono (m:=2) (by constructor <;> decide) (by omega);have d:Bd (3*W+2) (0:Rat):=Bd.mono (m:=2) (by constructor <;> decide) (by omega);have m:∀{r:Rat},Bd W r->Bd (3*W+2) r:=λh=>h.mono (by omega);have p:∀k,Bd (3*W+2) (sz w k+(ba w k-Ya w k)):=λk=>((ok.z k).add ((ok.a k).sub (ok.a' k))).mono (by omega);have q:∀k,Bd (3*W+2) (sz w k-(ba w k-Ya w k)):=λk=>((ok.z k).sub ((ok.a k).sub (ok.a' k))).mono (by omega);unfold Ai;split
 .exact ⟨(m ok.t1).neg,b,d⟩
 .exact ⟨m ok.t2,c,d⟩
 .exact ⟨(m ok.t3).neg,d,b⟩
 .exact ⟨m ok.t4,d,c⟩
 .exact ⟨m ok.l1,b,c⟩
 .exact ⟨m ok.l2,c,b⟩
 .exact ⟨q 0,(m (ok.s 0)).neg,m (ok.s' 0)⟩
 .exact ⟨p 0,m (ok.s 0),(m (ok.s' 0)).neg⟩
 .exact ⟨q 1,(m (ok.s 1)).neg,m (ok.s' 1)⟩
 .exact ⟨p 1,m (ok.s 1),(m (ok.s' 1)).neg⟩
 .exact ⟨q 2,(m (ok.s 2)).neg,m (ok.s' 2)⟩
 .exact ⟨p 2,m (ok.s 2),(m (ok.s' 2)).neg⟩
def E2 {a:zq}{sg:Int}{ps:zy Bz}(h:sg=1\/sg= -1)(hs:∀p∈ps,p.s=0\/p.s=1)(ex:∃p∈ps,0<(p.pr a).c1*sg):∃l,Cj a sg ps=some l/\l∈ps/\0<(l.pr a).c1*sg/\tight sg (ps.map (Bz.pr a))=some (l.pr a):=by
 have b:∀q∈ps.map (Bz.pr a),q.s=0\/q.s=1:=λq b=>by obtain⟨p,hp,rfl⟩:=AAI.mp b;exact hs p hp
 have j:=DH h _ (ps.map (Bz.pr a)) rfl b;have e:=Vb (a:=a) (sg:=sg) (ps:=ps);cases t:Cj a sg ps with
 | none=> rw[t] at e;obtain⟨p,hp,z⟩:=ex;exact absurd z (j.no e.symm _ (AAI.mpr ⟨p,hp,rfl⟩))
 | some l=> rw[t] at e;exact⟨l,rfl,Dr t,(j.so _ e.symm).2.1,e.symm⟩
def O9 {p:Ep}(z:p.c1=0)(hs:p.s=0\/p.s=1)(t:Rat):holds p t↔G6 p=false:=by
 unfold holds NA G6;rw[z,ADH];have a:(p.c0:Rat)+((0:Int):Rat)*t=(p.c0:Rat):=by grind
 rw[a,<-AB5,ACP,ADF];omega
def XJ {ps:zy Ep}{l h:Ep}(hs:∀p∈ps,p.s=0\/p.s=1)(a:tight 1 ps=some l)(b:tight (-1) ps=some h)(c:∀p∈ps,p.c1=0->G6 p=false){t:Rat}(d:holds l t)(e:holds h t):∀p∈ps,holds p t:=by
 have f:=(DH (.inl rfl) ps.length ps rfl hs).so l a;have g:=(DH (.inr rfl) ps.length ps rfl hs).so h b;intro p hp;rcases AD2 p.c1 0 with z|z|z
 .exact g.2.2 p hp (by omega) t e
 .exact (O9 z (hs p hp) t).mpr (c p hp z)
 .exact f.2.2 p hp (by omega) t d
def S6 {P:Int->Prop}{m:zy (Int×Int)}{k v:Int}(h:∀e∈m,P e.2)(hv:P v):∀e∈Bp m k v,P e.2:=by
 intro e he;unfold Bp at he;split at he
 .obtain ⟨p,hp,rfl⟩:=AAI.mp he;split
  .exact hv
  .exact h p hp
 .rcases AAR.mp he with he|he
  .exact h e he
  .rw [AAf.mp he];exact hv
def dn {m:zy (Int×Int)}{k v:Int}:Bp m k v≠ [] :=by
 unfold Bp;split
 .rename_i h;intro z;rw[List.map_eq_nil_iff] at z;subst z;simp at h
 .simp
def Xd {m:zy (Int×Int)}{k C:Int}(h:∀e∈m,0<e.2/\e.2<C)(a:0<C):0<=B0 m k/\B0 m k<C:=by
 unfold B0;cases e:m.find? λp=>decide (p.1=k) with
 | none=>exact⟨ADE _,a⟩
 | some p=> have:=h p (List.mem_of_find?_eq_some e);show 0<=p.2/\p.2<C;omega
def VG {many C:Int}{m:zy (Int×Int)}(h:∀e∈m,0<many*e.2/\many*e.2<C):∀e∈BX many m,0<e.2/\e.2<C:=by
 have key:∀(m a:zy (Int×Int)),(∀e∈m,0<many*e.2/\many*e.2<C)->(∀e∈a,0<e.2/\e.2<C)->∀e∈m.foldl (λa p=>Bp a p.1 (many*p.2)) a,0<e.2/\e.2<C:=by
  intro m;induction m with
  | nil=>intro a _ h;exact h
  | cons x m b=> intro a h1 h2;exact b _ (λe he=>h1 e (by simp[he])) (S6 (P:=λx=>0<x/\x<C) h2 (h1 x (by simp)))
 exact key m [] h (by simp)
theorem Mt {more D:Int}(b:0<D):∀(m a:zy (Int×Int)) (C:Int),0<C->(∀e∈m,0<more*e.2/\more*e.2<D)->(∀e∈a,0<e.2/\e.2<C)->∀e∈BW more a m,0<e.2/\e.2<C+m.length*D
 | [],a,C,_,_,h=>by simpa[BW] using h
 | x::m,a,C,hC,h1,h2=>by
   have hx:=h1 x (by simp);have g:=Xd (k:=x.1) h2 hC;have st:∀e∈Bp a x.1 (B0 a x.1+more*x.2),0<e.2/\e.2<C+D:=S6 (P:=λy=>0<y/\y<C+D) (λe he=>by have:=h2 e he;omega) (by omega);have r:=Mt b m (Bp a x.1 (B0 a x.1+more*x.2)) (C+D) (by omega) (λe he=>h1 e (by simp[he])) st;intro e he;have:=r e he;rw[AAe];have c:C+((m.length+1:Nat):Int)*D=C+D+(m.length:Int)*D:=by push_cast;grind
   rw[c];exact this
theorem Mu {more:Int}:∀(m a:zy (Int×Int)),(BW more a m).length<=a.length+m.length
 | [],a=>by simp[BW]
 | x::m,a=>by have r:=Mu (more:=more) m (Bp a x.1 (B0 a x.1+more*x.2));have p:=JA a x.1 (B0 a x.1+more*x.2);show (BW more (Bp a x.1 (B0 a x.1+more*x.2)) m).length<=_;rw[AAe];omega
theorem O6 {more:Int}:∀(m a:zy (Int×Int)),m≠ [] \/a≠ [] ->BW more a m≠ []
 | [],a,h=>by simpa[BW] using h
 | x::m,a,_=>O6 m (Bp a x.1 (B0 a x.1+more*x.2)) (.inr dn)
structure gM (L N:Nat) (m:List (Int×Int)):Prop where
 p:∀e∈m,0<e.2/\e.2.natAbs<2^N
 l:m.length<=L
 n:m≠ []
def mE {x y:Int}{N:Nat}(hx:0<x)(a:0<y)(h1:x.natAbs<2^N)(h2:y.natAbs<2^N):0<x*y/\x*y<((2^(2*N):Nat):Int):=by refine⟨ABh hx a, ?_⟩;have:=ADJ h1 h2;rw[<-ACZ,show N+N=2*N by omega,<-AA8] at this;have p:=ABh hx a;omega
def V1 {a:zq}{l h:Bz}{L N:Nat}(hl:Bi N l)(d:Bi N h)(g:gM L N l.w)(f:gM L N h.w)(u:L<=6)(r:0<(l.pr a).c1)(v:(h.pr a).c1<0):Bi (2*N+4) (BA a l h)/\gM (2*L) (2*N+4) (BA a l h).w:=by
 have i:=(hl.pr a).b;have b2:=(d.pr a).b;have j:(0:Int)<((2^(2*N):Nat):Int):=by exact_mod_cast AD3 _
 have sc:=VG (many:= -(h.pr a).c1) (C:=((2^(2*N):Nat):Int)) (m:=l.w) λe he=>mE (by omega) (g.p e he).1 (by rw[ABu];exact b2) (g.p e he).2;have mg:=Mt (more:=(l.pr a).c1) j h.w (BX (-(h.pr a).c1) l.w) _ j (λe he=>mE r (f.p e he).1 i (f.p e he).2) sc;have sl:(BX (-(h.pr a).c1) l.w).length<=l.w.length:=NN;have z:=Mu (more:=(l.pr a).c1) h.w (BX (-(h.pr a).c1) l.w);have k:2^(2*N+4)=16*2^(2*N):=by rw[ACZ];omega
 have A:=g.l;have B:=f.l;have o:∀e∈(BA a l h).w,0<e.2/\e.2.natAbs<2^(2*N+4):=λe he=>by have:=mg e he;have:(h.w.length:Int)*((2^(2*N):Nat):Int)<=6*((2^(2*N):Nat):Int):=Int.mul_le_mul_of_nonneg_right (by omega) (by omega);rw[k];omega
 have num:∀x y:Int,x.natAbs<2^N->y.natAbs<2^N->(-(h.pr a).c1*x+(l.pr a).c1*y).natAbs<2^(2*N+4):=λx y hx t=>by
  have m1:=ADJ b2 hx;have m2:=ADJ i t;rw[<-ACZ,show N+N=2*N by omega,<-AA8] at m1 m2;have e: -(h.pr a).c1*x= -((h.pr a).c1*x):=by grind
  rw[e,k];omega
 refine⟨⟨num _ _ hl.a d.a,num _ _ hl.b d.b,num _ _ hl.c d.c,λe he=>(o e he).2, ?_, ?_⟩,⟨o, ?_,O6 _ _ (.inl f.n)⟩⟩
 .show (BW (l.pr a).c1 (BX (-(h.pr a).c1) l.w) h.w).length<=12;omega
 .show max l.s h.s=0\/max l.s h.s=1;have:=hl.s;have:=d.s;omega
 .show (BW (l.pr a).c1 (BX (-(h.pr a).c1) l.w) h.w).length<=2*L;omega
def fi:zy Int:= [0,1,0,1,0,0,1,1,1,1,1,1]
def strN (n:Nat):Int:=fi.getD n 0
def FT (w:Wd)(n:Nat):Bz:=OH (Ai w n).1 (Ai w n).2.1 (Ai w n).2.2 (strN n) n
def D7 (w:Wd):zy Bz:=(List.range 12).map (FT w)
def WX (w:Wd)(s t:Rat):Prop:=∀n<12,0<(Ai w n).1+(Ai w n).2.1*s+(Ai w n).2.2*t\/((Ai w n).1+(Ai w n).2.1*s+(Ai w n).2.2*t=0/\strN n=0)
def rK:PV:= .tup [.tup [.int 0, .tup [.int 1, .int 1]], .tup [.int 3, .tup [.int 1, .int 1]], .tup [.int 5, .tup [.int 1, .int 1]]]
def rL:PV:= .tup [.tup [.int 1, .tup [.int 1, .int 1]], .tup [.int 2, .tup [.int 1, .int 1]], .tup [.int 4, .tup [.int 1, .int 1]]]
def Zy {w:Wd}{s t:Rat}(h:WX w s t):w.b.1<=s/\s<w.e.1/\w.b'.1<=t/\t<w.e'.1/\t-s<=w.l/\s-t<=w.l':=by
 have a:=h 0 (by decide);have h1:=h 1 (by decide);have h2:=h 2 (by decide);have h3:=h 3 (by decide);have c:=h 4 (by decide);have d:=h 5 (by decide);have f:strN 1=1:=rfl;have g:strN 3=1:=rfl;rw[f] at h1;rw[g] at h3;simp only[Ai] at a h1 h2 h3 c d;refine⟨?_, ?_, ?_, ?_, ?_, ?_⟩
 .rcases a with z|z <;> grind
 .rcases h1 with z|z
  .grind
  .omega
 .rcases h2 with z|z <;> grind
 .rcases h3 with z|z
  .grind
  .omega
 .rcases c with z|z <;> grind
 .rcases d with z|z <;> grind
def jq {w:Wd}{W:Nat}(ok:Rt W w)(f:W<=1300){Q:PV->Prop}(a:(¬∃s t,WX w s t)->w.e'.1+w.l'<=w.b.1->Q rK)(c:(¬∃s t,WX w s t)->w.e.1+w.l<=w.b'.1->Q rL)(q:Q .non):Bn [cF w] Q:=by
 have g:=ok.t2.mono (n:=3900) (by omega);have i:=ok.t4.mono (n:=3900) (by omega);have j:=ok.t1.mono (n:=3900) (by omega);have k:=ok.t3.mono (n:=3900) (by omega);have ol:=ok.l1.mono (n:=3900) (by omega);have d:=ok.l2.mono (n:=3900) (by omega);have m:=(ok.t4.add ok.l2).mono (n:=3900) (by omega);have p:=(ok.t2.add ok.l1).mono (n:=3900) (by omega);apply G9;unfold cF CI;repeat' array_get_dec
 .rename_i h;refine a ?_ (by grind);rintro⟨s,t,o⟩;have:=Zy o;grind
 .rename_i h;refine c ?_ (by grind);rintro⟨s,t,o⟩;have:=Zy o;grind
 .exact q
def Wx (n:Nat):strN n=0\/strN n=1:=by unfold strN fi;rcases n with _|_|_|_|_|_|_|_|_|_|_|_|n <;> simp
structure gN (N:Nat) (w:Wd):Prop where
 W:∃W,Rt W w/\3*W+2<=1300
 p:∀n<12,Bi N (FT w n)
def gN.sh {N:Nat}{w:Wd}(h:gN N w):∀n<12,FX [(Ai w n).1,(Ai w n).2.1,(Ai w n).2.2] < 2^N:=λn a=>by have:=(h.p n a).w ((n:Int),((FX [(Ai w n).1,(Ai w n).2.1,(Ai w n).2.2] :Nat):Int)) (by simp[FT,OH]);simpa using this
def df {w:Wd}{N:Nat}(h:gN N w):∀p∈D7 w,Bi N p/\gM 1 N p.w/\p.w.length=1:=by
 intro p hp;obtain⟨n,a,rfl⟩:=AAI.mp hp;have a:=ABm.mp a;obtain⟨W,ok,_⟩:=h.W;obtain⟨b,b2,c⟩:=FN ok n;have k:=h.p n a;obtain⟨h1,_,_⟩:=Gg (W:=3*W+2) 3 [(Ai w n).1,(Ai w n).2.1,(Ai w n).2.2] rfl (by simp;exact⟨b,b2,c⟩);refine⟨k,⟨λe he=>⟨?_,k.w e he⟩,AAJ _,by simp[FT,OH]⟩,rfl⟩;have:e=((n:Int),((FX [(Ai w n).1,(Ai w n).2.1,(Ai w n).2.2] :Nat):Int)):=by simpa[FT,OH] using he
 rw[this];show (0:Int)<_;omega
def i7 {w:Wd}{W M:Nat}(ok:Rt W w)(d:∀n<12,FX [(Ai w n).1,(Ai w n).2.1,(Ai w n).2.2] < 2^M)(s t:Rat):(∀p∈D7 w,h3 p s t)↔WX w s t:=by
 unfold D7 WX;constructor
 .intro h n a;obtain⟨b,b2,c⟩:=FN ok n;exact((Zu (n:=n) b b2 c (d n a) (Wx n)).2 s t).mp (h _ (AAI.mpr ⟨n,ABm.mpr a,rfl⟩))
 .intro h p hp;obtain⟨n,a,rfl⟩:=AAI.mp hp;have a:=ABm.mp a;obtain⟨b,b2,c⟩:=FN ok n;exact((Zu (n:=n) b b2 c (d n a) (Wx n)).2 s t).mpr (h n a)
def Zt {a b:Rat}{N:Nat}(ha:Bd N a)(hb:Bd N b):Bd (2*N+4) ((a+b)/2):=by have:=Bd.div (a:=a+b) (b:=((2:Int):Rat)) (by grind) (ha.add hb) (Bd.mono (m:=2) (n:=2) (by constructor <;> decide) (by omega));exact this.mono (by omega)
def jD {p:Bz}{r:Rat}{N M:Nat}(h:Bi N p)(d:Bd M r):Bi (N+M+1) (C6 false r p):=by
 have f:=d.bot;have i:=d.top;have g:2^(N+M+1)=2*2^(N+M):=by rw[ADi];omega
 have m:∀x y:Int,x.natAbs<2^N->y.natAbs<2^M->(x*y).natAbs<2^(N+M):=λx y a b=>by have:=ADJ a b;rw[<-ACZ,<-AA8] at this;exact this
 have j:=m p.c0 r.den h.a (by rw[AA4];exact f);have k:=m p.c1 r.num h.b i;have n:=m p.c2 r.den h.c (by rw[AA4];exact f);refine⟨?_,by show (0:Int).natAbs<_;exact AD3 _, ?_,λe he=>Aw (h.w e he) (by omega),h.l,h.s⟩
 .show ((r.den:Int)*p.c0+p.c1*r.num).natAbs<_;rw[AC3,g];omega
 .show ((r.den:Int)*p.c2).natAbs<_;rw[AC3,g];omega
def Ak (m:zy (Int×Int)):zy Int:=m.map (·.1)
def Ds (g:Int->Rat)(m:zy (Int×Int)):Rat:=(m.map λe=>(e.2:Rat)*g e.1).sum
def Gs {g:Int->Rat}:Ds g [] =0:=rfl
def DJ {g:Int->Rat}{x:Int×Int}{m:zy (Int×Int)}:Ds g (x::m)=(x.2:Rat)*g x.1+Ds g m:=by simp[Ds]
def U9 {x:Int×Int}{m:zy (Int×Int)}{k v:Int}(h:x.1≠k):Bp (x::m) k v=x::Bp m k v:=by unfold Bp;simp only[ABf,AAc h,Bool.false_or,AAN,AAD h,AC7];split <;> rfl
def jC {m:zy (Int×Int)}{k v:Int}(h:k ∉ Ak m):(m.map λp=>if p.1=k then (p.1,v) else p)=m:=by
 induction m with
 | nil=>rfl
 | cons x m a=> have h1:x.1≠k:=λz=>h (by simp[Ak,z]);have h2:k ∉ Ak m:=λz=>h (by simp[Ak] at z ⊢;exact .inr z);rw[AAN,AAD h1,a h2]
def aY {x:Int×Int}{m:zy (Int×Int)}{k v:Int}(h:x.1=k)(a:k ∉ Ak m):Bp (x::m) k v=(k,v)::m:=by unfold Bp;simp only[ABf,AAV h,ADo,AAv,AAN,AAE h];rw[jC a,h]
def Me {x:Int×Int}{m:zy (Int×Int)}{k:Int}:B0 (x::m) k=if x.1=k then x.2 else B0 m k:=by
 unfold B0;rw[AB3];by_cases h:x.1=k
 .rw [AAV h,AAE h];rfl
 .rw [AAc h,AAD h]
def gm {m:zy (Int×Int)}{k:Int}(h:k ∉ Ak m):B0 m k=0:=by
 induction m with
 | nil=>rfl
 | cons x m a=> have h1:x.1≠k:=λz=>h (by simp[Ak,z]);have h2:k ∉ Ak m:=λz=>h (by simp[Ak] at z ⊢;exact .inr z);rw[Me,AAD h1,a h2]
def LY {x:Int×Int}{m:zy (Int×Int)}(h:(Ak (x::m)).Nodup):x.1 ∉ Ak m/\(Ak m).Nodup:=ABp.mp h
theorem Nc {g:Int->Rat}{k v:Int}:∀(m:zy (Int×Int)),(Ak m).Nodup->Ds g (Bp m k v)=Ds g m+((v-B0 m k:Int):Rat)*g k
 | [],_=>by rw[show Bp [] k v= [(k,v)] from rfl,DJ,Gs,show B0 [] k=0 from rfl,Int.sub_zero];grind
 | x::m,nd=>by
   obtain⟨a,b⟩:=LY nd;by_cases h:x.1=k
   .rw [aY h (h ▸ a),DJ,DJ,Me,AAE h,<-h,AD4];grind
   .rw [U9 h,DJ,DJ,Nc m b,Me,AAD h];grind
theorem GT {k v:Int}:∀(m:zy (Int×Int)) (i:Int),i∈Ak (Bp m k v)↔i∈Ak m\/i=k
 | [],i=>by rw[show Bp [] k v= [(k,v)] from rfl];simp[Ak]
 | x::m,i=>by
   by_cases h:x.1=k
   .unfold Bp;simp only[ABf,AAV h,ADo,AAv];have e:Ak ((x::m).map λp=>if p.1=k then (p.1,v) else p)=Ak (x::m):=by unfold Ak;rw[ABc];refine ABd λp _=> ?_;show (if p.1=k then (p.1,v) else p).1=p.1;split <;> rfl
    rw[e];constructor
    .exact .inl
    .rintro (z|rfl)
     .exact z
     .simp [Ak,h]
   .rw [U9 h];have:=GT (k:=k) (v:=v) m i;simp only[Ak,AAN,AAG] at this ⊢;rw[this];grind
theorem U8 {k v:Int}:∀(m:zy (Int×Int)),(Ak m).Nodup->(Ak (Bp m k v)).Nodup
 | [],_=>by rw[show Bp [] k v= [(k,v)] from rfl];simp[Ak]
 | x::m,nd=>by
   obtain⟨a,b⟩:=LY nd;by_cases h:x.1=k
   .rw [aY h (h ▸ a)];exact ABp.mpr ⟨h ▸ a,b⟩
   .rw [U9 h];refine ABp.mpr ⟨λz=> ?_,U8 m b⟩;rcases (GT m x.1).mp z with z|z
    .exact a z
    .exact h z
theorem Mc {g:Int->Rat}{many:Int}:∀(m a:zy (Int×Int)),(Ak m).Nodup->(Ak a).Nodup->(∀i∈Ak m,i ∉ Ak a)->Ds g (m.foldl (λa p=>Bp a p.1 (many*p.2)) a)=Ds g a+(many:Rat)*Ds g m/\(Ak (m.foldl (λa p=>Bp a p.1 (many*p.2)) a)).Nodup/\∀i,i∈Ak (m.foldl (λa p=>Bp a p.1 (many*p.2)) a)↔i∈Ak a\/i∈Ak m
 | [],a,_,na,_=>⟨by rw[Gs];show Ds g a=_;grind,na,λi=>by simp[Ak]⟩
 | x::m,a,nm,na,dj=>by
   obtain⟨b,c⟩:=LY nm;have hx:x.1 ∉ Ak a:=dj x.1 (by simp[Ak]);obtain⟨h1,h2,h3⟩:=Mc (g:=g) (many:=many) m (Bp a x.1 (many*x.2)) c (U8 a na) (λi hi z=>by
    rcases (GT a i).mp z with z|z
    .exact dj i (by simp[Ak] at hi ⊢;exact .inr hi) z
    .exact b (z ▸ hi))
   refine⟨?_,h2,λi=> ?_⟩
   .show Ds g (m.foldl _ (Bp a x.1 (many*x.2)))=_;rw[h1,Nc a na,gm hx,DJ,Int.sub_zero,AAn];grind
   .show i∈Ak (m.foldl _ (Bp a x.1 (many*x.2)))↔_;rw[h3,GT];show _↔_\/i∈x.1::Ak m;rw[AAG];grind
theorem Mb {g:Int->Rat}{more:Int}:∀(m a:zy (Int×Int)),(Ak a).Nodup->Ds g (BW more a m)=Ds g a+(more:Rat)*Ds g m/\(Ak (BW more a m)).Nodup/\∀i,i∈Ak (BW more a m)↔i∈Ak a\/i∈Ak m
 | [],a,na=>⟨by rw[Gs];show Ds g a=_;grind,na,λi=>by simp[Ak,BW]⟩
 | x::m,a,na=>by
   obtain⟨h1,h2,h3⟩:=Mb (g:=g) (more:=more) m (Bp a x.1 (B0 a x.1+more*x.2)) (U8 a na);refine⟨?_,h2,λi=> ?_⟩
   .show Ds g (BW more (Bp a x.1 (B0 a x.1+more*x.2)) m)=_;rw[h1,Nc a na,DJ,show B0 a x.1+more*x.2-B0 a x.1=more*x.2 by omega,AAn];grind
   .show i∈Ak (BW more (Bp a x.1 (B0 a x.1+more*x.2)) m)↔_;rw[h3,GT];show _↔_\/i∈x.1::Ak m;rw[AAG];grind
def fK (w:Wd):Nat->Int->Rat
 | 0,n=>(Ai w n.toNat).1
 | 1,n=>(Ai w n.toNat).2.1
 | _,n=>(Ai w n.toNat).2.2
structure Py (w:Wd) (p:Bz):Prop where
 a:(p.c0:Rat)=Ds (fK w 0) p.w
 b:(p.c1:Rat)=Ds (fK w 1) p.w
 c:(p.c2:Rat)=Ds (fK w 2) p.w
 s:p.s=1->∃i∈Ak p.w,strN i.toNat=1
 n:(Ak p.w).Nodup
 k:∀i∈Ak p.w,0<=i/\i<12
def dz {w:Wd}{W:Nat}(ok:Rt W w){n:Nat}(j:n<12):Py w (FT w n):=by
 obtain⟨b,b2,c⟩:=FN ok n;obtain⟨h1,h2,_⟩:=Gg (W:=3*W+2) 3 [(Ai w n).1,(Ai w n).2.1,(Ai w n).2.2] rfl (by simp;exact⟨b,b2,c⟩);have d:=Ft (h2 (Ai w n).1 (by simp));have e:=Ft (h2 (Ai w n).2.1 (by simp));have f:=Ft (h2 (Ai w n).2.2 (by simp));have a:∀g,Ds g (FT w n).w=((FX [(Ai w n).1,(Ai w n).2.1,(Ai w n).2.2] :Nat):Rat)*g n:=λg=>by show Ds g [((n:Int),((FX [(Ai w n).1,(Ai w n).2.1,(Ai w n).2.2] :Nat):Int))] =_;rw[DJ,Gs,ABg];grind
 refine⟨?_, ?_, ?_,λh=>⟨n,by simp[FT,OH,Ak], ?_⟩,by simp[FT,OH,Ak],λi hi=> ?_⟩
 .rw [a];exact d.trans (by show _=_*(Ai w ((n:Int).toNat)).1;rw[ABr];grind)
 .rw [a];exact e.trans (by show _=_*(Ai w ((n:Int).toNat)).2.1;rw[ABr];grind)
 .rw [a];exact f.trans (by show _=_*(Ai w ((n:Int).toNat)).2.2;rw[ABr];grind)
 .rw [ABr];exact h
 .have:i=n:=by simpa[FT,OH,Ak] using hi
  omega
def NJ {w:Wd}{a:zq}{l h:Bz}(hl:Py w l)(f:Py w h)(sl:l.s=0\/l.s=1)(j:h.s=0\/h.s=1):Py w (BA a l h):=by
 have S:=λg=>Mc (g:=g) (many:= -(h.pr a).c1) l.w [] hl.n (by simp[Ak]) (by simp[Ak]);have M:=λg=>Mb (g:=g) (more:=(l.pr a).c1) h.w (BX (-(h.pr a).c1) l.w) (S g).2.1;have E:∀g,Ds g (BA a l h).w=((-(h.pr a).c1:Int):Rat)*Ds g l.w+((l.pr a).c1:Rat)*Ds g h.w:=λg=>by refine(M g).1.trans ?_;have:=(S g).1;rw[Gs,Rat.zero_add] at this;rw[show BX (-(h.pr a).c1) l.w=l.w.foldl (λd p=>Bp d p.1 (-(h.pr a).c1*p.2)) [] from rfl,this]
 have K:∀i,i∈Ak (BA a l h).w↔i∈Ak l.w\/i∈Ak h.w:=λi=>by refine((M λ_=>0).2.2 i).trans ?_;have:=(S λ_=>0).2.2 i;rw[show BX (-(h.pr a).c1) l.w=l.w.foldl (λd p=>Bp d p.1 (-(h.pr a).c1*p.2)) [] from rfl,this];simp[Ak]
 refine⟨?_, ?_, ?_,λz=> ?_,(M λ_=>0).2.1,λi hi=> ?_⟩
 .show ((-(h.pr a).c1*l.c0+(l.pr a).c1*h.c0:Int):Rat)=_;rw[E,<-hl.a,<-f.a,AD5,AAn,AAn]
 .show ((-(h.pr a).c1*l.c1+(l.pr a).c1*h.c1:Int):Rat)=_;rw[E,<-hl.b,<-f.b,AD5,AAn,AAn]
 .show ((-(h.pr a).c1*l.c2+(l.pr a).c1*h.c2:Int):Rat)=_;rw[E,<-hl.c,<-f.c,AD5,AAn,AAn]
 .have z:max l.s h.s=1:=z;have:l.s=1\/h.s=1:=by omega
  rcases this with q|q
  .obtain ⟨i,hi,e⟩:=hl.s q;exact⟨i,(K i).mpr (.inl hi),e⟩
  .obtain ⟨i,hi,e⟩:=f.s q;exact⟨i,(K i).mpr (.inr hi),e⟩
 .rcases (K i).mp hi with q|q
  .exact hl.k i q
  .exact f.k i q
def Q1 (rows:zy (Int×Rat)):PV:= .tup (rows.map λe=> .tup [.int e.1,fr e.2])
def G8 (w:Wd)(k:Nat)(rows:zy (Int×Rat)):Rat:=(rows.map λe=>e.2*fK w k e.1).sum
structure bZ (N:Nat) (w:Wd) (rows:List (Int×Rat)):Prop where
 r:rows.Pairwise λa b=>a.1<b.1
 k:∀e∈rows,0<=e.1/\e.1<12
 p:∀e∈rows,0<e.2/\Bd N e.2
 l:rows.length<=12
 b:G8 w 1 rows=0
 c:G8 w 2 rows=0
 a:G8 w 0 rows<0\/(G8 w 0 rows=0/\∃e∈rows,strN e.1.toNat=1)
def F6 (m:zy (Int×Int))(ns:zy Int):zy (Int×Rat):=ns.map λk=>(k,((((m.lookup k).getD 0).fdiv (D3 m:Nat):Int):Rat))
theorem Md:∀(m:zy (Int×Int)) (g:Nat),(m.foldl (λg e=>Nat.gcd e.2.toNat g) g ∣ g)/\∀e∈m,m.foldl (λg e=>Nat.gcd e.2.toNat g) g ∣ e.2.toNat
 | [],g=>⟨Nat.dvd_refl _,by simp⟩
 | x::m,g=>by
   obtain⟨h1,h2⟩:=Md m (Nat.gcd x.2.toNat g);refine⟨AD0 h1 (ABv ..),λe he=> ?_⟩;rcases AAG.mp he with rfl|he
   .exact AD0 h1 (ADm ..)
   .exact h2 e he
def O3 {m:zy (Int×Int)}{e:Int×Int}(b:(Ak m).Nodup)(h:e∈m):m.lookup e.1=some e.2:=by
 induction m with
 | nil=>cases h
 | cons x m c=>
   obtain⟨d,f⟩:=LY b;rcases AAG.mp h with rfl|a
   .obtain ⟨i,v⟩:=e;simp[List.lookup]
   .have ne:e.1≠x.1:=λz=>d (z ▸ AAI.mpr ⟨e,a,rfl⟩);obtain⟨i,v⟩:=x;have g:(e.1==i)=false:=by simpa using ne
    simp[List.lookup,g,c f a]
def aN {xs c:zy Rat}(h:xs.Perm c):xs.sum=c.sum:=by
 induction h with
 | nil=>rfl
 | cons x _ d=>rw[AAp,AAp,d]
 | swap x y l=>simp only[AAp];grind
 | trans _ _ a b=>rw[a,b]
def YW {w:Wd}{k:Nat}{m:zy (Int×Int)}{ns:zy Int}(d:ns.Perm (Ak m))(f:(Ak m).Nodup)(pos:∀e∈m,0<e.2)(n:0<D3 m):G8 w k (F6 m ns)*(D3 m:Nat)=Ds (fK w k) m:=by
 have g:G8 w k (F6 m ns)=G8 w k (F6 m (Ak m)):=by unfold G8 F6;exact aN ((d.map _).map _)
 have key:∀e∈m,((((m.lookup e.1).getD 0).fdiv (D3 m:Nat):Int):Rat)*(D3 m:Nat)=e.2:=λe he=>by
  rw[O3 f he,ADC];have p:=pos e he;have b:=(Md m 0).2 e he;have b:((D3 m:Nat):Int) ∣ e.2:=by
   have:((D3 m:Nat):Int) ∣ ((e.2.toNat:Nat):Int):=Int.natCast_dvd_natCast.mpr b
   rwa [Int.toNat_of_nonneg (by omega)] at this
  rw[ABZ _ (by omega)];have:=Int.ediv_mul_cancel b;rw[<-ABg (D3 m),<-AAn,this]
 rw[g];unfold G8 F6 Ak Ds;rw[ABc,ABc];generalize o:D3 m=G at *;have c:∀a:zy (Int×Int),(∀e∈a,e∈m)->(a.map ((λe:Int×Rat=>e.2*fK w k e.1) ∘ (λk=>(k,((((m.lookup k).getD 0).fdiv (G:Nat):Int):Rat))) ∘ λx=>x.1)).sum*(G:Nat)=(a.map λe=>(e.2:Rat)*fK w k e.1).sum:=by
  intro a;induction a with
  | nil=>intro _;simp
  | cons x a j=> intro h;have i:=j λe he=>h e (by simp[he]);have l:=key x (h x (by simp));simp only[AAN,AAp,Function.comp] at i ⊢;rw[<-i,<-l];grind
 exact c m λe he=>he
def ig {w:Wd}{N:Nat}{p:Bz}(hp:Py w p)(pos:∀e∈p.w,0<e.2/\e.2.natAbs<2^N)(hl:p.w.length<=12)(g:p.c1=0)(j:p.c2=0)(c0:p.c0<0\/(p.c0=0/\p.s=1))(ne:p.w≠ []){ns:zy Int}(d:ns.Perm (p.w.map (·.1)))(l:ns.Pairwise (· <= ·)):bZ (N+1) w (F6 p.w ns):=by
 have f:0<D3 p.w:=QD p.w 0 (.inr ne) λe he=>(pos e he).1;have d:ns.Perm (Ak p.w):=d;have S:=λk=>YW (w:=w) (k:=k) d hp.n (λe he=>(pos e he).1) f;have m:(0:Rat)<((D3 p.w:Nat):Rat):=by exact_mod_cast f
 have o:ns.Nodup:=d.nodup_iff.mpr hp.n;have zero:∀k,Ds (fK w k) p.w=0->G8 w k (F6 p.w ns)=0:=λk h=>by
  have:=S k;rw[h] at this;rcases ABC.mp this with z|z
  .exact z
  .grind
 have vals:∀i∈ns,0<((p.w.lookup i).getD 0).fdiv (D3 p.w:Nat)/\(((p.w.lookup i).getD 0).fdiv (D3 p.w:Nat)).natAbs<2^N:=λi hi=>by
  obtain⟨e,he,rfl⟩:=AAI.mp (d.mem_iff.mp hi);rw[O3 hp.n he,ADC,ABZ _ (by omega)];obtain⟨A,B⟩:=pos e he;have r:=(Md p.w 0).2 e he;have t:=ABx (by omega) r;have C:0<e.2.toNat/D3 p.w:=Nat.div_pos t f;have D:e.2.toNat/D3 p.w<=e.2.toNat:=ABt ..;have u:e.2/((D3 p.w:Nat):Int)=((e.2.toNat/D3 p.w:Nat):Int):=by rw[ABw,Int.toNat_of_nonneg (by omega)]
  rw[u];omega
 refine⟨?_, ?_, ?_, ?_,zero 1 (by rw[<-hp.b,g];rfl),zero 2 (by rw[<-hp.c,j];rfl), ?_⟩
 .refine ADx.mpr ?_;have:ns.Pairwise λa b=>a<=b/\a≠b:=l.and o;exact this.imp λ{a b} h=>by show a<b;omega
 .intro e he;obtain⟨i,hi,rfl⟩:=AAI.mp he;exact hp.k i (d.mem_iff.mp hi)
 .intro e he;obtain⟨i,hi,rfl⟩:=AAI.mp he;obtain⟨v,x⟩:=vals i hi;refine⟨Rat.intCast_pos.mpr v,⟨?_, ?_⟩⟩
  .rw [Rat.num_intCast];exact Aw x (by omega)
  .rw [Rat.den_intCast];exact AAP (by decide:1<2^1) (ACy (by decide) (by omega))
 .unfold F6;rw[AAL,d.length_eq];unfold Ak;rw[AAL];exact hl
 .have:=S 0;rw[<-hp.a] at this;rcases c0 with z|⟨z,y⟩
  .left;have:G8 w 0 (F6 p.w ns)*((D3 p.w:Nat):Rat)<0:=by rw[this];exact_mod_cast z
   by_cases q:0<=G8 w 0 (F6 p.w ns)
   .have:=Rat.mul_nonneg q (Rat.le_of_lt m);grind
   .grind
  .right;refine⟨zero 0 (by rw[<-hp.a,z];rfl), ?_⟩;obtain⟨i,hi,e⟩:=hp.s y;exact⟨_,AAI.mpr ⟨i,d.mem_iff.mpr hi,rfl⟩,e⟩
instance{p:Bz}{Q:PV->Prop}:Wp (MZ (Av p) .non Q) (Q (.bl true)):=⟨id⟩
def je {n:Nat}(h:n<12){Q:PV->Prop}(q:Q (.int (strN n))):Af (.tup [(.int 0),(.int 1),(.int 0),(.int 1),(.int 0),(.int 0),(.int 1),(.int 1),(.int 1),(.int 1),(.int 1),(.int 1)]) (.int n) Q:=by
 have cs:n=0\/n=1\/n=2\/n=3\/n=4\/n=5\/n=6\/n=7\/n=8\/n=9\/n=10\/n=11:=by omega
 rcases cs with rfl|rfl|rfl|rfl|rfl|rfl|rfl|rfl|rfl|rfl|rfl|rfl <;> exact q
def Iz (w:Wd):(D7 w).length=12:=by simp[D7]
def I0 (w:Wd){n:Nat}(h:n<12):FT w n∈D7 w:=AAI.mpr ⟨n,ABm.mpr h,rfl⟩
def YO {a:zq}{ps:zy Bz}(h:ps.length<=12):(Eg a ps).length<=1000:=by
 unfold Eg;rw[ABH,ADI];have f:(ps.filter λp=>decide ((p.pr a).c1=0)).length<=12:=AAY (ACS ..) h;have c:(ps.filter λp=>decide (0<(p.pr a).c1)).length<=12:=AAY (ACS ..) h;have d:(ps.filter λp=>decide ((p.pr a).c1<0)).length<=12:=AAY (ACS ..) h;generalize (ps.filter λp=>decide ((p.pr a).c1=0))=zs at *;generalize (ps.filter λp=>decide (0<(p.pr a).c1))=b at *;generalize (ps.filter λp=>decide ((p.pr a).c1<0))=hs at *;have:∀b:zy Bz,(b.map λl=>(hs.map λh=>BA a l h).length).sum=b.length*hs.length:=λb=>by
  induction b with
  | nil=>simp
  | cons x b e=>simp[AAN,AAp,ACL] at e ⊢;omega
 rw[this];have:=AA5 c d;omega
def bQ {ps:zy Bz}{N:Nat}(h:∀p∈ps,Bi N p/\gM 1 N p.w):∀p∈Eg true ps,Bi (2*N+4) p/\gM 2 (2*N+4) p.w:=by
 intro p hp;unfold Eg at hp;rcases AAR.mp hp with hp|hp
 .obtain ⟨k,w⟩:=h p (AAW.mp hp).1;exact⟨⟨Aw k.a (by omega),Aw k.b (by omega),Aw k.c (by omega),λe he=>Aw (k.w e he) (by omega),k.l,k.s⟩,⟨λe he=>⟨(w.p e he).1,Aw (w.p e he).2 (by omega)⟩,by have:=w.l;omega,w.n⟩⟩
 .obtain ⟨l,hl,hp⟩:=ABB.mp hp;obtain⟨h',d,rfl⟩:=AAI.mp hp;obtain⟨hl,f⟩:=AAW.mp hl;obtain⟨d,g⟩:=AAW.mp d;exact V1 (h l hl).1 (h h' d).1 (h l hl).2 (h h' d).2 (by decide) (AAr f) (AAr g)
def Qr {w:Wd}{W:Nat}(ok:Rt W w){n:Nat}(c:n<12):∃S:Rat,0<S/\((FT w n).c1:Rat)=(Ai w n).2.1*S/\((FT w n).c2:Rat)=(Ai w n).2.2*S:=by obtain⟨a,b2,b⟩:=FN ok n;obtain⟨h1,h2,_⟩:=Gg (W:=3*W+2) 3 [(Ai w n).1,(Ai w n).2.1,(Ai w n).2.2] rfl (by simp;exact⟨a,b2,b⟩);exact⟨((FX [(Ai w n).1,(Ai w n).2.1,(Ai w n).2.2] :Nat):Rat),by exact_mod_cast h1,Ft (h2 _ (by simp)),Ft (h2 _ (by simp))⟩
def J9 {x:Int}{y:Rat}{S:Rat}(a:0<S)(e:(x:Rat)=y*S):(0<y->0<x)/\(y=0->x=0)/\(y<0->x<0):=by
 refine⟨λh=> ?_,λh=> ?_,λh=> ?_⟩
 .have:(0:Rat)<x:=by rw[e];exact ACQ h a
  exact_mod_cast this
 .have:(x:Rat)=0:=by rw[e,h];grind
  exact_mod_cast this
 .have p:0 < -y*S:=ACQ (by grind) a;have:(x:Rat)<0:=by rw[e];grind
  exact_mod_cast this
def fC (m:zy (Int×Int))(ns:zy Int):Q1 (F6 m ns)= .tup (ns.map (dy m)):=by unfold Q1 F6;rw[ABc];rfl
def Vc {w:Wd}{ps:zy Bz}(h:∀p∈ps,Py w p)(hs:∀p∈ps,p.s=0\/p.s=1):∀p∈Eg true ps,Py w p/\p.c2=0:=by
 intro p hp;unfold Eg at hp;rcases AAR.mp hp with hp|hp
 .obtain ⟨hp,z⟩:=AAW.mp hp;exact⟨h p hp,AAr z⟩
 .obtain ⟨l,hl,hp⟩:=ABB.mp hp;obtain⟨h',a,rfl⟩:=AAI.mp hp;obtain⟨hl,b⟩:=AAW.mp hl;obtain⟨a,c⟩:=AAW.mp a;refine⟨NJ (h l hl) (h h' a) (hs l hl) (hs h' a), ?_⟩;show -h'.c2*l.c2+l.c2*h'.c2=0;grind
def Z9 {N:Nat}:Bd (N+1) (1:Rat):=⟨AAP (by decide:1<2^1) (ACy (by decide) (by omega)),AAP (by decide:1<2^1) (ACy (by decide) (by omega))⟩
def ii {w:Wd}{N:Nat}(h:w.e'.1+w.l'<=w.b.1)(hN:1<=N):bZ N w [(0,1),(3,1),(5,1)] :=by
 obtain⟨N,rfl⟩:∃n,N=n+1:=⟨N-1,by omega⟩;have e:∀k,G8 w k [(0,1),(3,1),(5,1)] =fK w k 0+fK w k 3+fK w k 5:=λk=>by unfold G8;simp only[AAN,ACF,AAp,List.sum_nil];grind
 refine⟨by simp,by simp,λe he=> ?_,by decide, ?_, ?_, ?_⟩
 .simp only[AAG,AA2,AA3] at he;rcases he with rfl|rfl|rfl <;> exact⟨by decide,Z9⟩
 .rw [e];show (1:Rat)+0 + -1=0;grind
 .rw [e];show (0:Rat) + -1+1=0;grind
 .rw [e];show -w.b.1+w.e'.1+w.l'<0\/(-w.b.1+w.e'.1+w.l'=0/\_);by_cases z:w.e'.1+w.l'=w.b.1
  .exact .inr ⟨by grind,(3,1),by simp,rfl⟩
  .exact .inl (by grind)
def ip {w:Wd}{N:Nat}(h:w.e.1+w.l<=w.b'.1)(hN:1<=N):bZ N w [(1,1),(2,1),(4,1)] :=by
 obtain⟨N,rfl⟩:∃n,N=n+1:=⟨N-1,by omega⟩;have e:∀k,G8 w k [(1,1),(2,1),(4,1)] =fK w k 1+fK w k 2+fK w k 4:=λk=>by unfold G8;simp only[AAN,ACF,AAp,List.sum_nil];grind
 refine⟨by simp,by simp,λe he=> ?_,by decide, ?_, ?_, ?_⟩
 .simp only[AAG,AA2,AA3] at he;rcases he with rfl|rfl|rfl <;> exact⟨by decide,Z9⟩
 .rw [e];show (-1:Rat)+0+1=0;grind
 .rw [e];show (0:Rat)+1 + -1=0;grind
 .rw [e];show w.e.1 + -w.b'.1+w.l<0\/(w.e.1 + -w.b'.1+w.l=0/\_);by_cases z:w.e.1+w.l=w.b'.1
  .exact .inr ⟨by grind,(1,1),by simp,rfl⟩
  .exact .inl (by grind)
def Us {w:Wd}{N:Nat}(h:gN N w)(hN:N<=770){Q:PV->Prop}(K:(¬∃s t,WX w s t)->∀rows,bZ (4*N+13) w rows->Q (.tup [.non,Q1 rows]))(qm:∀s t,WX w s t->Bd (4*N+12) s->Bd (10*N+30) t->Q (.tup [.tup [fr s,fr t], .non])):FF [cF w] Q:=by
 have r:=df h;obtain⟨W,ok,hW⟩:=h.W;have hh:=λs t=>i7 ok h.sh s t;have sy:∀p∈D7 w,Py w p:=λp hp=>by obtain⟨n,hn,rfl⟩:=AAI.mp hp;exact dz ok (ABm.mp hn)
 have c0:=Qr ok (n:=0) (by decide);have c1:=Qr ok (n:=1) (by decide);have c2:=Qr ok (n:=2) (by decide);have c3:=Qr ok (n:=3) (by decide);have L:=λn=>FN ok n;apply TF;ac_rfl;refine jq ok (by omega) (λx u=> ?_) (λx u=> ?_) ?_
 .have b:=K x [(0,1),(3,1),(5,1)] (ii u (by omega));rw[show Q1 [(0,1),(3,1),(5,1)] =rK from rfl] at b;unfold rK at b ⊢;ac_rfl;exact b
 .have b:=K x [(1,1),(2,1),(4,1)] (ip u (by omega));rw[show Q1 [(1,1),(2,1),(4,1)] =rL from rfl] at b;unfold rL at b ⊢;ac_rfl;exact b
 ac_rfl;refine Vz (λi f=>f=((List.range i).map (FT w)).map Av) (λf e=> ?_) (λi hi f R F e=> ?_) rfl;rotate_left
 .have b:=F (f ++ [Av (FT w i)]) (by rw[e,List.range_succ,ABz,ABz];rfl);clear F;have hi:i<12:=hi;rw[show (0:Int)+(i:Int)=i by omega];ac_rfl;refine cf ok (by omega) hi ?_;unfold fA;ac_rfl;refine je hi ?_;ac_rfl;obtain⟨G,b2,b3⟩:=L i;refine YD G b2 b3 (by omega) ?_;exact b
 subst e;show Am 2 (.lst ((D7 w).map Av)) _ _;ac_rfl;have hs:∀p∈D7 w,p.s=0\/p.s=1:=λp hp=>(r p hp).1.s;have y:∃p∈D7 w,0<p.c2:=by obtain⟨S,g,_,e⟩:=c2;exact⟨_,I0 w (n:=2) (by decide),(J9 g e).1 (by simp only[Ai];decide)⟩
 have tO:∃p∈D7 w,p.c2<0:=by obtain⟨S,g,_,e⟩:=c3;exact⟨_,I0 w (n:=3) (by decide),(J9 g e).2.2 (by simp only[Ai];decide)⟩
 have FM:=λs=>fm hs y tO s;have m0:∃p∈Eg true (D7 w),0<(p.pr false).c1*1:=by obtain⟨S,g,e,e'⟩:=c0;refine⟨FT w 0,AAR.mpr (.inl (AAW.mpr ⟨I0 w (by decide),AAV ((J9 g e').2.1 (by simp only[Ai]))⟩)), ?_⟩;have:=(J9 g e).1 (by simp only[Ai];decide);show 0<(FT w 0).c1*1;omega
 have m1:∃p∈Eg true (D7 w),0<(p.pr false).c1 * -1:=by obtain⟨S,g,e,e'⟩:=c1;refine⟨FT w 1,AAR.mpr (.inl (AAW.mpr ⟨I0 w (by decide),AAV ((J9 g e').2.1 (by simp only[Ai]))⟩)), ?_⟩;have:=(J9 g e).2.2 (by simp only[Ai];decide);show 0<(FT w 1).c1 * -1;omega
 have d:=bQ (ps:=D7 w) λp hp=>⟨(r p hp).1,(r p hp).2.1⟩;have st:=Vc sy hs;have u:=YO (a:=true) (ps:=D7 w) (by rw[Iz];decide);refine⟨rfl, ?_⟩;show EI [.lst ((D7 w).map Av), .int (Ni true), .int 2] _;refine Tg rfl (λp hp=>(r p hp).1) (λp hp=>(r p hp).2.2) (by omega) (by rw[Iz];decide) ?_;generalize Eg true (D7 w)=first at *
 have j:∀p∈first,p.s=0\/p.s=1:=λp hp=>(d p hp).1.s
 have A:∀q∈first.map (Bz.pr false),q.s=0\/q.s=1:=λq c=>by obtain⟨p,hp,rfl⟩:=AAI.mp c;exact j p hp
 obtain⟨l,e1,k,gl,t1⟩:=E2 (a:=false) (.inl rfl) j m0;obtain⟨h,e2,m,M,t2⟩:=E2 (a:=false) (.inr rfl) j m1;have gl:0<(l.pr false).c1:=by omega
 have M:(h.pr false).c1<0:=by omega
 have cn:=KP (l:=l.pr false) (h:=h.pr false) gl M (j l k) (j h m) (BA false l h).w;have cw:=V1 (a:=false) (d l k).1 (d h m).1 (d l k).2 (d h m).2 (by decide) gl M;ac_rfl;show DZ [.lst (first.map Av), .int (Ni false)] _;refine Xc rfl (λp hp=>(d p hp).1) (by omega) u e1 e2 (λO nc=> ?_) (λp hp H=> ?_)
 .obtain ⟨s0,a1,a2⟩:=cn.mp nc;have B:=XJ A t1 t2 (λq c z=>by
   obtain⟨p,hp,rfl⟩:=AAI.mp c;exact O p hp z) a1 a2
  have md:=O7 A t1 t2 B;have G:=RT ((d l k).1.pr false) (by omega);have b2:=RT ((d h m).1.pr false) (by omega);have bs:=Zt G b2;obtain⟨t0,ht⟩:=(FM _).mp λp hp=>md _ (AAI.mpr ⟨p,hp,rfl⟩);ac_rfl;show CY [.lst (first.map Av), .int (Ni false)] _;refine PQ rfl (λp hp=>(d p hp).1) (by omega) u e1 e2 (by omega) (by omega) (G.mono (by omega)) (b2.mono (by omega)) ?_;generalize (DI (l.pr false)+DI (h.pr false))/2=s at *;have gx:(0:Int)<s.den:=by exact_mod_cast s.den_pos
  have I:∀q∈(D7 w).map (C6 false s),Bi (N+(2*(2*(N)+4)+4)+1) q:=λq c=>by obtain⟨p,hp,rfl⟩:=AAI.mp c;exact jD (r p hp).1 bs
  have P:∀q∈(D7 w).map (C6 false s),q.s=0\/q.s=1:=λq c=>(I q c).s;have lq:((D7 w).map (C6 false s)).length<=1000:=by rw[AAL,Iz];decide
  have n0:∃p∈(D7 w).map (C6 false s),0<(p.pr true).c1*1:=by obtain⟨p,hp,z⟩:=y;refine⟨_,AAI.mpr ⟨p,hp,rfl⟩, ?_⟩;show 0<(s.den:Int)*p.c2*1;rw[ABo];exact ABh gx z
  have n1:∃p∈(D7 w).map (C6 false s),0<(p.pr true).c1 * -1:=by obtain⟨p,hp,z⟩:=tO;refine⟨_,AAI.mpr ⟨p,hp,rfl⟩, ?_⟩;show 0<(s.den:Int)*p.c2 * -1;rw[show (s.den:Int)*p.c2 * -1=s.den * -p.c2 by grind];exact ABh gx (by omega)
  obtain⟨l',T,U,gl',X⟩:=E2 (a:=true) (.inl rfl) P n0;obtain⟨h',Y,Z,gh',t2'⟩:=E2 (a:=true) (.inr rfl) P n1;have md':=O7 (λq c=>by
   obtain⟨p,hp,rfl⟩:=AAI.mp c;exact P p hp) X t2' (t0:=t0) λq c=>by obtain⟨q',Ul,rfl⟩:=AAI.mp c;obtain⟨p,hp,rfl⟩:=AAI.mp Ul;exact CF.mpr (ht p hp)
  have C:=RT ((I l' U).pr true) (by omega);have D:=RT ((I h' Z).pr true) (by omega);have bt:=Zt C D;have b:=qm s _ ((hh s _).mp λp hp=>CF.mp (md' _ (AAI.mpr ⟨_,AAI.mpr ⟨p,hp,rfl⟩,rfl⟩))) (bs.mono (by omega)) (bt.mono (by omega));ac_rfl;refine⟨by rw[Iz];decide, ?_⟩;refine Gx Av Av (C6 false s) (λp=>p∈D7 w) (λp hp R F=> ?_) (D7 w) [] (λp hp=>hp) ?_
  .ac_rfl;show Dz [Av p, .int (Ni false),fr s] _;exact U6 (r p hp).1 bs (by omega) (by omega) F
  rw[AB0];generalize (D7 w).map (C6 false s)=qs at *;ac_rfl;show CY [.lst (qs.map Av), .int (Ni true)] _;refine PQ rfl I (by omega) lq T Y (by omega) (by omega) (C.mono (by omega)) (D.mono (by omega)) ?_;generalize (DI (l'.pr true)+DI (h'.pr true))/2=t at *;ac_rfl;exact b
 .have x:¬∃s t,WX w s t:=by
   rintro⟨s,t,o⟩;have B:=(FM s).mpr ⟨t,(hh s t).mpr o⟩;rcases hp with⟨hp,z⟩|rfl
   .have:=(O9 z (j p hp) s).mp (B p hp);rw[this] at H;cases H
   .have:=cn.mpr ⟨s,B l k,B h m⟩;have E:G6 ⟨-(h.pr false).c1*(l.pr false).c0+(l.pr false).c1*(h.pr false).c0, -(h.pr false).c1*(l.pr false).c1+(l.pr false).c1*(h.pr false).c1,max (l.pr false).s (h.pr false).s,(BA false l h).w⟩=true:=H;rw[this] at E;cases E
  have v:gM 4 (2*(2*(N)+4)+4) p.w:=by
   rcases hp with⟨hp,z⟩|rfl
   .have J:=(d p hp).2;exact⟨λe he=>⟨(J.p e he).1,Aw (J.p e he).2 (by omega)⟩,by have:=J.l;omega,J.n⟩
   .exact cw.2
  have sp:Py w p/\p.c1=0/\p.c2=0:=by
   rcases hp with⟨hp,z⟩|rfl
   .exact ⟨(st p hp).1,z,(st p hp).2⟩
   .refine ⟨NJ (st l k).1 (st h m).1 (j l k) (j h m), ?_, ?_⟩
    .show -(h.pr false).c1*l.c1+(l.pr false).c1*h.c1=0;show -h.c1*l.c1+l.c1*h.c1=0;grind
    .show -(h.pr false).c1*l.c2+(l.pr false).c1*h.c2=0;rw[(st l k).2,(st h m).2];grind
  have O:p.c0<0\/(p.c0=0/\p.s=1):=by have:decide (p.c0<0\/(p.c0=0/\p.s=1))=true:=H;exact AAr this
  have b:=λns pm pw=>K x _ (cast (congrArg (λn=>bZ n w _) (by omega:2*(2*N+4)+4+1=4*N+13)) (ig (ns:=ns) sp.1 v.p (by have:=v.l;omega) sp.2.1 sp.2.2 O v.n pm pw));ac_rfl;refine YQ v.p v.n (by have:=v.l;omega) (by omega) λns pm pw=> ?_;have b:=b ns pm pw;rw[fC] at b;ac_rfl;exact b
def UR {a:Type}:Nat->zy a->zy (Nat×a)
 | _, [] => []
 | k,x::xs=>(k,x)::UR (k+1) xs
theorem Ij {a:Type}:∀(k:Nat) (xs:zy a),(UR k xs).length=xs.length
 | _, [] =>rfl
 | k,x::xs=>by simp[UR,Ij (k+1) xs]
theorem Ik {a:Type}:∀(k:Nat) (xs:zy a),(UR k xs).map (·.2)=xs
 | _, [] =>rfl
 | k,x::xs=>by simp[UR,Ik (k+1) xs]
theorem Jl {a:Type}(g:a->PV):∀(k:Nat) (xs:zy a),EU k (xs.map g)=(UR k xs).map λp=> .tup [.int p.1,g p.2]
 | _, [] =>rfl
 | k,x::xs=>by have:=Jl g (k+1) xs;simp only[AAN,EU,UR];rw[<-this]
def D5 (cs ds:zy C4)(b e:T3)(d:Rat×Rat)(p q:C4×C4):Wd:=⟨p.1,p.2,q.1,q.2,szs b e d,b.2.2,e.2.2⟩
def wrow (x:Nat×Nat×Wd):PV:= .tup [.int x.1, .int x.2.1,cF x.2.2]
def Te (cs ds:zy C4)(b e:T3)(d:Rat×Rat):zy (Nat×Nat×Wd):=(UR 0 (Ej cs)).flatMap λp=>(UR 0 (Ej ds)).map λq=>(p.1,q.1,D5 cs ds b e d p.2 q.2)
def W5 {cs ds:zy C4}{b e:T3}{d:Rat×Rat}{x:Nat×Nat×Wd}(h:x∈Te cs ds b e d):∃p∈Ej cs,∃q∈Ej ds,x.2.2=D5 cs ds b e d p q:=by obtain⟨p,hp,h⟩:=ABB.mp h;obtain⟨q,a,rfl⟩:=AAI.mp h;exact⟨p.2,by rw[<-Ik 0 (Ej cs)];exact AAI.mpr ⟨p,hp,rfl⟩,q.2,by rw[<-Ik 0 (Ej ds)];exact AAI.mpr ⟨q,a,rfl⟩,rfl⟩
def c8 {cs ds:zy C4}{b e:T3}{d:Rat×Rat}{p q:C4×C4}(hp:p∈Ej cs)(a:q∈Ej ds):∃x∈Te cs ds b e d,x.2.2=D5 cs ds b e d p q:=by rw[<-Ik 0 (Ej cs)] at hp;rw[<-Ik 0 (Ej ds)] at a;obtain⟨c,f,rfl⟩:=AAI.mp hp;obtain⟨g,h,rfl⟩:=AAI.mp a;exact⟨_,ABB.mpr ⟨c,f,AAI.mpr ⟨g,h,rfl⟩⟩,rfl⟩
def ZK {cs:zy C4}{b:T3}{v:PV}(h:EQ cs b v):∃p w,Eo cs p/\XA b w/\∀{R:PV->Prop},(R p->Af v (.int 0) R)/\(R w->Af v (.int 1) R):=by
 obtain⟨p,w,h1,h2,rfl|rfl⟩:=h
 .exact ⟨p,w,h1,h2,id,id⟩
 .exact ⟨p,w,h1,h2,id,id⟩
def YY {cs ds:zy C4}{b e:T3}{d:Rat×Rat}{v w u:PV}{B:Nat}(hv:EQ cs b v)(hw:EQ ds e w)(hu:PU d u)(H:F2 100 b)(I:F2 100 e)(J:Bd 100 d.1)(b2:Bd 100 d.2)(hc:∀c∈cs,D6 B c)(K:E5 cs)(h2:2<=cs.length)(hl:cs.length<=100)(L:∀c∈ds,D6 B c)(M:E5 ds)(N:2<=ds.length)(T:ds.length<=100)(E:6*B+3<=3900){Q:PV->Prop}(q:Q (.lst ((Te cs ds b e d).map wrow))):DE [v,w,u] Q:=by
 have sz:=λ{Q}=>TU (Q:=Q) hv hw hu H I J b2;obtain⟨U,W,l,m,i⟩:=ZK hv;obtain⟨X,Y,n,o,j⟩:=ZK hw;have r:(Ej cs).length<=100:=by unfold Ej;simp;omega
 have s:(Ej ds).length<=100:=by unfold Ej;simp;omega
 apply OQ;ac_rfl;refine sz ?_;ac_rfl;refine i.2 ?_;ac_rfl;refine(Y9 m).2.2 ?_;ac_rfl;refine j.2 ?_;ac_rfl;refine(Y9 o).2.2 ?_;ac_rfl;refine j.1 ?_;ac_rfl;refine aS n L M N (by omega) E ?_;ac_rfl;refine i.1 ?_;ac_rfl;refine aS l hc K h2 (by omega) E ?_;ac_rfl;show DF _ _ _ (EU 0 ((Ej cs).map λp=>CI p.1 p.2)) _;rw[Jl];unfold Te at q;have O:(UR 0 (Ej cs)).length<=100:=by rw[Ij];exact r
 have t:(UR 0 (Ej ds)).length<=100:=by rw[Ij];exact s
 have y:EU 0 ((Ej ds).map λp=>CI p.1 p.2)=(UR 0 (Ej ds)).map λp=> .tup [.int p.1,CI p.2.1 p.2.2] :=Jl _ 0 _;generalize (UR 0 (Ej cs))=us1 at *;generalize (UR 0 (Ej ds))=us2 at *;generalize Z:((Ej ds).map λp=>CI p.1 p.2)=P2 at *;refine DQ (λp:Nat×C4×C4=> .tup [.int p.1,CI p.2.1 p.2.2]) (λf vs τ=>∃z C g a,τ= [some (.val v),some (.val w),some (.val u),some (.val (.lst [fr (szs b e d).1,fr (szs b e d).2.1,fr (szs b e d).2.2])),some (.val (.tup [fr b.2.2,fr e.2.2])),some (.val (.lst P2)),some (.own ((f.flatMap λp=>us2.map λq=>(p.1,q.1,D5 cs ds b e d p.2 q.2)).map wrow)),z,C,g,a]) ?_ ?_ ⟨none,none,none,none,rfl⟩
 .rintro τ ⟨z,C,g,a,rfl⟩;ac_rfl;exact q
 .rintro f p vs e' τ R F ⟨z,C,g,a,rfl⟩;have ul:f.length<=100:=by have:=congrArg List.length e';simp at this;omega
  ac_rfl;show DF _ _ _ (EU 0 P2) _;rw[y];refine DQ (λp:Nat×C4×C4=> .tup [.int p.1,CI p.2.1 p.2.2]) (λh xs τ=>∃g a,τ= [some (.val v),some (.val w),some (.val u),some (.val (.lst [fr (szs b e d).1,fr (szs b e d).2.1,fr (szs b e d).2.2])),some (.val (.tup [fr b.2.2,fr e.2.2])),some (.val (.lst P2)),some (.own (((f.flatMap λp=>us2.map λq=>(p.1,q.1,D5 cs ds b e d p.2 q.2))++h.map λq=>(p.1,q.1,D5 cs ds b e d p.2 q.2)).map wrow)),some (.val (.int p.1)),some (.val (CI p.2.1 p.2.2)),g,a]) ?_ ?_ ⟨g,a,by simp⟩
  .rintro τ ⟨g,a,rfl⟩;exact F _ ⟨some (.val (.int p.1)),some (.val (CI p.2.1 p.2.2)),g,a,by simp[List.flatMap_append]⟩
  .rintro h x xs D τ R' G ⟨g,a,rfl⟩;have wl:h.length<=100:=by have:=congrArg List.length D;simp at this;omega
   have k:=G [some (.val v),some (.val w),some (.val u),some (.val (.lst [fr (szs b e d).1,fr (szs b e d).2.1,fr (szs b e d).2.2])),some (.val (.tup [fr b.2.2,fr e.2.2])),some (.val (.lst P2)),some (.own (((f.flatMap λp=>us2.map λq=>(p.1,q.1,D5 cs ds b e d p.2 q.2))++(h ++ [x]).map λq=>(p.1,q.1,D5 cs ds b e d p.2 q.2)).map wrow)),some (.val (.int p.1)),some (.val (CI p.2.1 p.2.2)),some (.val (.int x.1)),some (.val (CI x.2.1 x.2.2))] ⟨_,_,rfl⟩;clear G F;have P:∀A:zy (Nat×Nat×Wd),(A++(h ++ [x]).map λq=>(p.1,q.1,D5 cs ds b e d p.2 q.2)).map wrow=(A++h.map λq=>(p.1,q.1,D5 cs ds b e d p.2 q.2)).map wrow ++ [wrow (p.1,x.1,D5 cs ds b e d p.2 x.2)] :=λA=>by simp
   rw[P] at k;have len:(((f.flatMap λp=>us2.map λq=>(p.1,q.1,D5 cs ds b e d p.2 q.2))++h.map λq=>(p.1,q.1,D5 cs ds b e d p.2 q.2)).map wrow).length<=10100:=by
    have:(f.flatMap λp=>us2.map λq=>(p.1,q.1,D5 cs ds b e d p.2 q.2)).length<=100*100:=by
     rw[ADI];have:∀f:zy (Nat×C4×C4),(f.map λp=>(us2.map λq=>(p.1,q.1,D5 cs ds b e d p.2 q.2)).length).sum=f.length*us2.length:=λf=>by
      induction f with
      | nil=>simp
      | cons x f S=>simp[AAN,AAp,ACL] at S ⊢;omega
     rw[this];exact AA5 ul t
    simp only[AAL,ABH];omega
   generalize (((f.flatMap λp=>us2.map λq=>(p.1,q.1,D5 cs ds b e d p.2 q.2))++h.map λq=>(p.1,q.1,D5 cs ds b e d p.2 q.2)).map wrow)=told at *;ac_rfl;refine⟨HJ len (by decide), ?_⟩;ac_rfl;exact k
def E8 (x:(Nat×Nat×Wd)×zy (Int×Rat)):PV:= .tup [.int x.1.1, .int x.1.2.1,Q1 x.2]
def Ut {v w u:PV}{L:zy (Nat×Nat×Wd)}(hw:∀{Q:PV->Prop},Q (.lst (L.map wrow))->DE [v,w,u] Q)(hl:L.length<=10100){N:Nat}(hN:N<=770)(r:∀x∈L,gN N x.2.2){Q:PV->Prop}(z:(∀x∈L,¬∃s t,WX x.2.2 s t)->∀ps:zy (zy (Int×Rat)),L.length=ps.length->(∀y∈L.zip ps,bZ (4*N+13) y.1.2.2 y.2)->Q (.tup [.str "apart", .tup ((L.zip ps).map E8)]))(A:∀x∈L,∀s t,WX x.2.2 s t->Bd (4*N+12) s->Bd (10*N+30) t->Q (.tup [.str "meet",fr s,fr t])):Bl [v,w,u] Q:=by
 apply TH;ac_rfl;refine hw ?_;ac_rfl;refine DQ wrow (λb vs τ=>(∀x∈b,¬∃s t,WX x.2.2 s t)/\∃(ps:zy (zy (Int×Rat))) (d f g h i:zt AV),b.length=ps.length/\(∀y∈b.zip ps,bZ (4*N+13) y.1.2.2 y.2)/\τ= [some (.val v),some (.val w),some (.val u),some (.own ((b.zip ps).map E8)),d,f,g,h,i]) ?_ ?_ ⟨by simp, [],_,_,_,_,_,rfl,by simp,rfl⟩
 .rintro τ ⟨j,ps,d,f,g,h,i,hl,hp,rfl⟩;have c:=z j ps hl hp;ac_rfl;exact c
 .rintro b x vs e τ R k ⟨j,ps,d,f,g,h,i,m,B,rfl⟩;have mx:x∈L:=by rw[<-e];simp
  have ul:b.length<=10100:=by have:=congrArg List.length e;simp at this;omega
  have l:=A x mx;unfold wrow;ac_rfl;refine Us (r x mx) hN (λnx rows hp=> ?_) (λs t o bs bt=> ?_)
  .have p:(b ++ [x]).zip (ps ++ [rows])=b.zip ps ++ [(x,rows)] :=by rw[List.zip_append m];rfl
   have c:=k [some (.val v),some (.val w),some (.val u),some (.own ((b.zip ps).map E8 ++ [E8 (x,rows)])),some (.val (.int x.1)),some (.val (.int x.2.1)),some (.val (cF x.2.2)),some (.val .non),some (.val (Q1 rows))] ⟨λy a=>by
    rcases AAR.mp a with a|a
    .exact j y a
    .rw [AAf.mp a];exact nx,ps ++ [rows],_,_,_,_,_,by simp[m],λy a=>by
    rw[p] at a;rcases AAR.mp a with a|a
    .exact B y a
    .rw [AAf.mp a];exact hp,by rw[p,ABz];rfl⟩
   clear k;have C:((b.zip ps).map E8).length<=10100:=by rw[AAL,List.length_zip];omega
   generalize (b.zip ps).map E8=told at *;unfold E8 Q1 at c;unfold Q1;ac_rfl;refine⟨HJ (n:=10100) (by omega) (by decide), ?_⟩;ac_rfl;exact c
  .clear k;ac_rfl;exact l s t o bs bt
def Mul.get {D N:Nat}{a:Rat}(h:Mul D N a):∃k:Int,a*(D:Rat)=(k:Rat)/\k.natAbs<=N:=by
 obtain⟨b,k,rfl,hk⟩:=h;refine⟨k, ?_,hk⟩;have:(D:Rat)≠0:=by exact_mod_cast (by omega:D≠0)
 rw[ACe,ABg];grind
def Mul.mk' {D N:Nat}{a:Rat}{k:Int}(b:0<D)(e:a*(D:Rat)=(k:Rat))(hk:k.natAbs<=N):Mul D N a:=by
 refine⟨b,k, ?_,hk⟩;have:(D:Rat)≠0:=by exact_mod_cast (by omega:D≠0)
 rw[ACe,ABg];grind
def Mul.neg {D N:Nat}{a:Rat}(h:Mul D N a):Mul D N (-a):=by obtain⟨k,e,hk⟩:=h.get;exact .mk' h.1 (k:= -k) (by rw[Rat.intCast_neg,<-e];grind) (by omega)
def Mul.sub {D N M:Nat}{a b:Rat}(ha:Mul D N a)(hb:Mul D M b):Mul D (N+M) (a-b):=by rw[Rat.sub_eq_add_neg];exact ha.add hb.neg
def Mul.mul {D N E M:Nat}{a b:Rat}(ha:Mul D N a)(hb:Mul E M b):Mul (D*E) (N*M) (a*b):=by obtain⟨k,e,hk⟩:=ha.get;obtain⟨l,f,hl⟩:=hb.get;refine .mk' (AAs ha.1 hb.1) (k:=k*l) ?_ (by rw[AA8];exact AA5 hk hl);rw[AAn,<-e,<-f,AD6];grind
def Mul.upc {D N c:Nat}{a:Rat}(ha:Mul D N a)(hc:0<c):Mul (D*c) (N*c) a:=by obtain⟨k,e,hk⟩:=ha.get;refine .mk' (AAs ha.1 hc) (k:=k*c) ?_ (by rw[AA8,AA4];exact ABI c hk);rw[AAn,<-e,AD6,ABg];grind
def Mul.den {D N:Nat}{a:Rat}(h:Mul D N a):a.den ∣ D:=by
 obtain⟨b,k,rfl,_⟩:=h;have e:=AA9 (Rat.divInt k D);rw[AC2 (by exact_mod_cast (Rat.divInt k D).den_nz) (by omega)] at e;have c:=(Rat.divInt k D).reduced;generalize (Rat.divInt k D).num=x at e c;generalize (Rat.divInt k D).den=y at e c;have:y ∣ x.natAbs*D:=by have:=congrArg Int.natAbs e;rw[AA8,AA8,AA4,AA4] at this;exact⟨k.natAbs,by rw[this,ABS]⟩
 exact Nat.Coprime.dvd_of_dvd_mul_left (Nat.Coprime.symm c) this
theorem Wn {D:Nat}:∀(n:Nat) (xs:zy Rat),xs.length=n->(∀x∈xs,x.den ∣ D)->FX xs ∣ D
 | 0,xs,e,_=>by rw[ADy.mp e];exact Nat.one_dvd D
 | n+1,xs,e,h=>by
   obtain⟨a,x,rfl⟩:∃a x,xs=a ++ [x] :=⟨xs.dropLast,xs.getLast (by intro z;subst z;simp at e),(ADz _).symm⟩;have b:=Wn n a (by simp at e;omega) λy c=>h y (by simp[c]);have hx:=h x (by simp);rw[RH];have:FX a*(x.den/Nat.gcd (FX a) x.den)=Nat.lcm (FX a) x.den:=by unfold Nat.lcm;rw[Nat.mul_div_assoc _ (ABv ..)]
   rw[this];exact Nat.lcm_dvd b hx
def d4 {D N S:Nat}{a:Rat}(h:Mul D N a)(b:S ∣ D)(ha:a.den ∣ S):(RZ S a).natAbs<=N:=by
 obtain⟨k,e,hk⟩:=h.get;obtain⟨c,rfl⟩:=b;have c0:0<c:=Nat.pos_of_ne_zero λz=>by have:=h.1;simp[z] at this
 have f:=Ft ha;have:((RZ S a*c:Int):Rat)=(k:Rat):=by rw[AAn,f,<-e,AD6,ABg];grind
 have:RZ S a*c=k:=by exact_mod_cast this
 have:(RZ S a).natAbs*c=k.natAbs:=by rw[<-this,AA8,AA4]
 have d:(RZ S a).natAbs*1<=(RZ S a).natAbs*c:=AAm _ c0;omega
def WV {a b c:Rat}{D N B:Nat}{s n:Int}(ha:Mul D N a)(hb:Mul D N b)(hc:Mul D N c)(hs:s=0\/s=1)(hN:N<2^B)(d:D<2^B):Bi B (OH a b c s n):=by have e:FX [a,b,c] ∣ D:=Wn 3 _ rfl (by simp;exact⟨ha.den,hb.den,hc.den⟩);obtain⟨W,f,g,h⟩:∃W,Bd W a/\Bd W b/\Bd W c:=⟨B,ha.bd hN d,hb.bd hN d,hc.bd hN d⟩;obtain⟨h1,h2,_⟩:=Gg (W:=W) 3 [a,b,c] rfl (by simp;exact⟨f,g,h⟩);have sl:=AAQ (ABx ha.1 e) d;have q:∀x,Mul D N x->x∈ [a,b,c] ->(RZ (FX [a,b,c]) x).natAbs<2^B:=λx hx m=>AAQ (d4 hx e (h2 x m)) hN;exact⟨q a ha (by simp),q b hb (by simp),q c hc (by simp),by simp[OH];exact sl,by simp[OH],hs⟩
def UM (k:Nat)(c:C4):Rat:=match k with | 0=>c.2.1|1=>c.2.2.1|_=>c.2.2.2
def VO (p:C4×C4)(k:Nat):Rat:=YK p.1 p.2 (UM k p.1) (UM k p.2)
def Vv (p:C4×C4)(k:Nat):Rat:=Y6 p.1 p.2 (UM k p.1) (UM k p.2)
structure kr (DT NT JM NS NB:Nat) (p:C4×C4):Prop where
 t1:Mul DT NT p.1.1
 t2:Mul DT NT p.2.1
 j:∃J,0<J/\J<=JM/\∀k,Mul J NS (VO p k)/\Mul J NB (Vv p k)
def n8 {cs ds:zy C4}{b e:T3}{d:Rat×Rat}{p q:C4×C4}(k:Nat):sl (D5 cs ds b e d p q) k=VO p k/\Yh (D5 cs ds b e d p q) k=VO q k/\ba (D5 cs ds b e d p q) k=Vv p k/\Ya (D5 cs ds b e d p q) k=Vv q k:=by rcases k with _|_|k <;> exact⟨rfl,rfl,rfl,rfl⟩
def fj (z:T3)(k:Nat):Rat:=match k with | 0=>z.1|1=>z.2.1|_=>z.2.2
def n9 {cs ds:zy C4}{b e:T3}{d:Rat×Rat}{p q:C4×C4}(k:Nat):sz (D5 cs ds b e d p q) k=fj (szs b e d) k:=by rcases k with _|_|k <;> rfl
def W4 {g i f m l a r W N:Nat}{cs ds:zy C4}{b e:T3}{d:Rat×Rat}{p q:C4×C4}(hp:kr g i f m l p)(F:kr g i f m l q)(Q:∀k,Mul a r (fj (szs b e d) k))(hl:Mul g i b.2.2)(X:Mul g i e.2.2)(B:g<2^W)(C:i<2^W)(Y:f<2^W)(w4:m<2^W)(w5:l<2^W)(w6:a<2^W)(w7:r<2^W)(hW:3*W+2<=1300)(n1:f*f*a<2^N)(n2:r*(f*f)+2*(l*f*a)<2^N)(n3:m*f*a<2^N)(n4:g<2^N)(n5:i+g<2^N):gN N (D5 cs ds b e d p q):=by
 obtain⟨J,I,K,L⟩:=hp.j;obtain⟨h,s,t,u⟩:=F.j;have o:=λk=>n8 (cs:=cs) (ds:=ds) (b:=b) (e:=e) (d:=d) (p:=p) (q:=q) k;have w:=λk=>n9 (cs:=cs) (ds:=ds) (b:=b) (e:=e) (d:=d) (p:=p) (q:=q) k;have G:0<a:=(Q 0).1;have jj:J*h<=f*f:=AA5 K t;have D0:0<J*h*a:=AAs (AAs I s) G;have DD:J*h*a<2^N:=AAQ (ABI a jj) n1;have jW:J<2^W:=AAQ K Y;have H:h<2^W:=AAQ t Y;refine⟨⟨W,⟨hp.t1.bd C B,hp.t2.bd C B,F.t1.bd C B,F.t2.bd C B,hl.bd C B,X.bd C B,λk=> ?_,λk=> ?_,λk=> ?_,λk=> ?_,λk=> ?_⟩,hW⟩,λn hn=> ?_⟩
 .rw [w];exact(Q k).bd w7 w6
 .rw [(o k).1];exact(L k).1.bd w4 jW
 .rw [(o k).2.1];exact(u k).1.bd w4 H
 .rw [(o k).2.2.1];exact(L k).2.bd w5 jW
 .rw [(o k).2.2.2];exact(u k).2.bd w5 H
 have S:∀k,Mul (J*h*a) (m*f*a) (VO p k):=λk=>by
  have:=((L k).1.upc (c:=h*a) (AAs s G)).mono (M:=m*f*a) (by rw[<-AAz];exact ABI _ (AAm _ t))
  rwa [<-AAz] at this
 have E:∀k,Mul (J*h*a) (m*f*a) (VO q k):=λk=>by
  have:=((u k).1.upc (c:=J*a) (AAs I G)).mono (M:=m*f*a) (by rw[<-AAz];exact ABI _ (AAm _ K))
  rwa [<-AAz,ABS h J] at this
 have A:∀k,Mul (J*h*a) (l*f*a) (Vv p k):=λk=>by
  have:=((L k).2.upc (c:=h*a) (AAs s G)).mono (M:=l*f*a) (by rw[<-AAz];exact ABI _ (AAm _ t))
  rwa [<-AAz] at this
 have A':∀k,Mul (J*h*a) (l*f*a) (Vv q k):=λk=>by
  have:=((u k).2.upc (c:=J*a) (AAs I G)).mono (M:=l*f*a) (by rw[<-AAz];exact ABI _ (AAm _ K))
  rwa [<-AAz,ABS h J] at this
 have Z:∀k,Mul (J*h*a) (r*(f*f)) (fj (szs b e d) k):=λk=>by
  have:=((Q k).upc (c:=J*h) (AAs I s)).mono (M:=r*(f*f)) (AAm _ jj)
  rwa [ABS a] at this
 have O:=λk=>(A k).sub (A' k);have R:∀k,Mul (J*h*a) (r*(f*f)+2*(l*f*a)) (fj (szs b e d) k-(Vv p k-Vv q k)):=λk=>((Z k).sub (O k)).mono (by omega);have T:∀k,Mul (J*h*a) (r*(f*f)+2*(l*f*a)) (fj (szs b e d) k+(Vv p k-Vv q k)):=λk=>((Z k).add (O k)).mono (by omega);have side:∀{x y z:Rat},Mul (J*h*a) (r*(f*f)+2*(l*f*a)) x->Mul (J*h*a) (m*f*a) y->Mul (J*h*a) (m*f*a) z->Bi N (OH x y z (strN n) n):=λ{x y z} hx hy qY=>
  WV (N:=max (r*(f*f)+2*(l*f*a)) (m*f*a)) (hx.mono (Nat.le_max_left ..)) (hy.mono (Nat.le_max_right ..)) (qY.mono (Nat.le_max_right ..)) (Wx n) (by omega) DD
 have dt:=hp.t1.1;have v:Mul g (i+g) (1:Rat):=by have:=(Mul.int (n:=1) (D:=g) (N:=g) dt (by simp)).mono (M:=i+g) (by omega);simpa using this
 have P:Mul g (i+g) (0:Rat):=by have:=(Mul.int (n:=0) (D:=g) (N:=g) dt (by simp)).mono (M:=i+g) (by omega);simpa using this
 have time:∀{x y z:Rat},Mul g i x->Mul g (i+g) y->Mul g (i+g) z->Bi N (OH x y z (strN n) n):=λ{x y z} hx hy qY=>WV (hx.mono (ABA ..)) hy qY (Wx n) n5 n4;have U:n=0\/n=1\/n=2\/n=3\/n=4\/n=5\/n=6\/n=7\/n=8\/n=9\/n=10\/n=11:=by omega
 unfold FT;rcases U with rfl|rfl|rfl|rfl|rfl|rfl|rfl|rfl|rfl|rfl|rfl|rfl
 .exact time hp.t1.neg v P
 .exact time hp.t2 v.neg P
 .exact time F.t1.neg P v
 .exact time F.t2 P v.neg
 .exact time hl v v.neg
 .exact time X v.neg v
 .simp only[Ai,o,w];exact side (R 0) (S 0).neg (E 0)
 .simp only[Ai,o,w];exact side (T 0) (S 0) (E 0).neg
 .simp only[Ai,o,w];exact side (R 1) (S 1).neg (E 1)
 .simp only[Ai,o,w];exact side (T 1) (S 1) (E 1).neg
 .simp only[Ai,o,w];exact side (R 2) (S 2).neg (E 2)
 .simp only[Ai,o,w];exact side (T 2) (S 2) (E 2).neg
def Qo {D N:Nat}{p:C4×C4}(h1:GE D N p.1)(h2:GE D N p.2)(n:p.1.1<p.2.1):kr D N (D*(2*N)) (D*(2*N)) (4*N*N) p:=by
 have b:∀{c:C4} k,GE D N c->Mul D N (UM k c):=λk h=>by
  rcases k with _|_|k
  .exact h.x
  .exact h.y
  .exact h.z
 obtain⟨i,f,hi⟩:=h1.m.get;obtain⟨j,g,hj⟩:=h2.m.get;have d:=h1.m.1;have o:(0:Rat)<(D:Rat):=by exact_mod_cast d
 have ij:i<j:=by
  have:(i:Rat)<(j:Rat):=by rw[<-f,<-g];exact(Rat.mul_lt_mul_right o).mpr n
  exact_mod_cast this
 obtain⟨J,r⟩:∃J:Nat,(J:Int)=j-i:=⟨(j-i).toNat,by omega⟩;have e:0<J:=by omega
 have l:J<=2*N:=by omega
 have s:(J:Rat)=(p.2.1-p.1.1)*D:=by
  have:((J:Int):Rat)=((j-i:Int):Rat):=by rw[r]
  rw[ABg,AD4,<-f,<-g] at this;grind
 have ne:p.2.1-p.1.1≠0:=by grind
 have S:∀k,Mul J (2*N) (VO p k):=λk=>by obtain⟨x,ex,hx⟩:=(b k h1).get;obtain⟨y,t,u⟩:=(b k h2).get;refine .mk' e (k:=y-x) ?_ (by omega);rw[AD4,<-ex,<-t,s];show (UM k p.2-UM k p.1)/(p.2.1-p.1.1)*((p.2.1-p.1.1)*D)=_;rw[<-Rat.mul_assoc,ABR ne];grind
 refine⟨h1.m,h2.m,D*J,AAs d e,AAm D l,λk=>⟨?_, ?_⟩⟩
 .have:=(S k).upc (c:=D) d;rw[ABS J D,ABS (2*N) D] at this;exact this
 .have a:=(b k h1).upc (c:=J) e;have m:=(S k).mul h1.m;rw[ABS J D] at m;exact(a.sub m).mono (by
   have:N*J<=N*(2*N):=AAm N l;have v:N*(2*N)=2*(N*N):=by rw[ABS 2 N,<-AAz,ABS]
   have w:2*N*N=2*(N*N):=AAz ..;have A:4*N*N=4*(N*N):=AAz ..;omega)
def En (x y z:Rat):Prop:=x-y<z/\ -z<x-y
def j3 (x y z:T3):Prop:=En x.1 y.1 z.1/\En x.2.1 y.2.1 z.2.1/\En x.2.2 y.2.2 z.2.2
def dD {w:Wd}(s t:Rat):WX w s t↔(w.b.1<=s/\s<w.e.1/\w.b'.1<=t/\t<w.e'.1/\t-s<=w.l/\s-t<=w.l')/\∀k<3,En (ba w k+sl w k*s) (Ya w k+Yh w k*t) (sz w k):=by
 have c:∀x:Rat,0<x\/(x=0/\(1:Int)=0)↔0<x:=λx=>⟨λz=>by rcases z with z|z;exact z;omega, .inl⟩;constructor
 .intro o;refine⟨Zy o,λk hk=> ?_⟩;have cs:k=0\/k=1\/k=2:=by omega
  have h:=o 6 (by decide);have i:=o 7 (by decide);have j:=o 8 (by decide);have m:=o 9 (by decide);have d:=o 10 (by decide);have f:=o 11 (by decide);rw[show strN 6=1 from rfl,c] at h;rw[show strN 7=1 from rfl,c] at i;rw[show strN 8=1 from rfl,c] at j;rw[show strN 9=1 from rfl,c] at m;rw[show strN 10=1 from rfl,c] at d;rw[show strN 11=1 from rfl,c] at f;simp only[Ai] at h i j m d f;unfold En;rcases cs with rfl|rfl|rfl
  .exact ⟨by grind,by grind⟩
  .exact ⟨by grind,by grind⟩
  .exact ⟨by grind,by grind⟩
 .rintro ⟨⟨v,y,A,B,C,D⟩,g⟩ n E;have p:=g 0 (by decide);have r:=g 1 (by decide);have u:=g 2 (by decide);unfold En at p r u;have a:∀x:Rat,0<=x->0<x\/(x=0/\(0:Int)=0):=λx hx=>by
   rcases Rat.le_iff_lt_or_eq.mp hx with z|z
   .exact .inl z
   .exact .inr ⟨z.symm,rfl⟩
  have cs:n=0\/n=1\/n=2\/n=3\/n=4\/n=5\/n=6\/n=7\/n=8\/n=9\/n=10\/n=11:=by omega
  rcases cs with rfl|rfl|rfl|rfl|rfl|rfl|rfl|rfl|rfl|rfl|rfl|rfl <;> simp only[Ai]
  .exact a _ (by grind)
  .left;grind
  .exact a _ (by grind)
  .left;grind
  .exact a _ (by grind)
  .exact a _ (by grind)
  .left;grind
  .left;grind
  .left;grind
  .left;grind
  .left;grind
  .left;grind
def QR {p:C4×C4}{s:Rat}{x y:Rat}:Y6 p.1 p.2 x y+YK p.1 p.2 x y*s=x+(s-p.1.1)/(p.2.1-p.1.1)*(y-x):=by unfold Y6 YK;rw[ABO,ABO];grind
def Zz {cs ds:zy C4}{b e:T3}{d:Rat×Rat}{p q:C4×C4}(s t:Rat):WX (D5 cs ds b e d p q) s t↔(p.1.1<=s/\s<p.2.1)/\(q.1.1<=t/\t<q.2.1)/\(t-s<=b.2.2/\s-t<=e.2.2)/\j3 (inter p.1 p.2 s) (inter q.1 q.2 t) (szs b e d):=by
 rw[dD];have a:∀{p:C4×C4} {s:Rat},Vv p 0+VO p 0*s=(inter p.1 p.2 s).1:=QR;have c:∀{p:C4×C4} {s:Rat},Vv p 1+VO p 1*s=(inter p.1 p.2 s).2.1:=QR;have f:∀{p:C4×C4} {s:Rat},Vv p 2+VO p 2*s=(inter p.1 p.2 s).2.2:=QR;have v:=λk=>n8 (cs:=cs) (ds:=ds) (b:=b) (e:=e) (d:=d) (p:=p) (q:=q) k;have w:=λk=>n9 (cs:=cs) (ds:=ds) (b:=b) (e:=e) (d:=d) (p:=p) (q:=q) k;simp only[v,w];unfold j3;constructor
 .rintro ⟨⟨j,l,m,o,r,u⟩,n⟩;have g:=n 0 (by decide);have h:=n 1 (by decide);have i:=n 2 (by decide);rw[a,a] at g;rw[c,c] at h;rw[f,f] at i;exact⟨⟨j,l⟩,⟨m,o⟩,⟨r,u⟩,g,h,i⟩
 .rintro ⟨⟨j,l⟩,⟨m,o⟩,⟨r,u⟩,g,h,i⟩;refine⟨⟨j,l,m,o,r,u⟩,λk hk=> ?_⟩;have cs:k=0\/k=1\/k=2:=by omega
  rcases cs with rfl|rfl|rfl
  .rw [a,a];exact g
  .rw [c,c];exact h
  .rw [f,f];exact i
def Ti (cs:zy C4)(s:Rat)(x:T3):Prop:=∃p∈Ej cs,p.1.1<=s/\s<p.2.1/\inter p.1 p.2 s=x
def Bo (cs ds:zy C4)(b e:T3)(d:Rat×Rat)(s t:Rat):Prop:=∃x y,Ti cs s x/\Ti ds t y/\(t-s<=b.2.2/\s-t<=e.2.2)/\j3 x y (szs b e d)
def O5 {cs ds:zy C4}{b e:T3}{d:Rat×Rat}{s t:Rat}:Bo cs ds b e d s t↔∃x∈Te cs ds b e d,WX x.2.2 s t:=by
 constructor
 .rintro ⟨x,y,⟨p,hp,f,g,rfl⟩,⟨q,a,h,i,rfl⟩,tm,j⟩;obtain⟨z,c,e'⟩:=c8 (b:=b) (e:=e) (d:=d) hp a;exact⟨z,c,by rw[e',Zz];exact⟨⟨f,g⟩,⟨h,i⟩,tm,j⟩⟩
 .rintro ⟨z,c,o⟩;obtain⟨p,hp,q,a,e'⟩:=W5 c;rw[e',Zz] at o;exact⟨_,_,⟨p,hp,o.1.1,o.1.2,rfl⟩,⟨q,a,o.2.1.1,o.2.1.2,rfl⟩,o.2.2⟩
def pk {m:Rat}{x:T3}:∀(r:zy C4) (a b l:C4),E5 (a::b::r)->a.1<=m->(a::b::r).getLast?=some l->(spotG a (b::r) m=some x/\m<l.1↔Ti (a::b::r) m x):=by
 intro r;unfold Ti;induction r with
 | nil=>
   intro a b l h ha e;cases e;have g:=(AAM.mp h).1 b (by simp);simp only[EW,show Ej [b] = [] from rfl,AAf,exists_eq_left,spotG];constructor
   .rintro ⟨e,d⟩;rw[AAD (by grind)] at e;cases e;exact⟨ha,d,rfl⟩
   .rintro ⟨_,d,k⟩;rw[AAD (by grind)];exact⟨by rw[k],d⟩
 | cons c r s=>
   intro a b l h ha e;have h':=AAM.mp h;have g:=h'.1 b (by simp);have i:=(AAM.mp h'.2).1 c (by simp);have u:=QP h e b (by simp);have cl:=QP h e c (by simp);rw[ACN] at e;rw[EW];have f:m<b.1->∀p∈Ej (b::c::r),¬p.1.1<=m:=λd p hp k=>by
    have q:=(EE h'.2 hp).1;have:b.1<=p.1.1:=by
     rcases AAG.mp q with z|z
     .rw [z];exact ADG
     .have:=(AAM.mp h'.2).1 _ z;grind
    grind
   by_cases j:b.1<m
   .rw [show spotG a (b::c::r) m=spotG b (c::r) m by rw[spotG,AAE j],s b c l h'.2 (by grind) e];constructor
    .rintro ⟨p,hp,k⟩;exact⟨p,by simp[hp],k⟩
    .rintro ⟨p,hp,k⟩;rcases AAG.mp hp with rfl|hp
     .exact absurd k.2.1 (by show ¬m<b.1;grind)
     .exact ⟨p,hp,k⟩
   .rw [show spotG a (b::c::r) m=some (inter a b m) by rw[spotG,AAD j]];by_cases n:m<b.1
    .constructor
     .rintro ⟨e,_⟩;cases e;exact⟨(a,b),by simp,ha,n,rfl⟩
     .rintro ⟨p,hp,k⟩;rcases AAG.mp hp with rfl|hp
      .exact ⟨by rw[<-k.2.2],by grind⟩
      .exact absurd k.1 (f n p hp)
    .have d:m=b.1:=by grind
     subst d;have t:inter a b b.1=b.2:=Hh g;have o:inter b c b.1=b.2:=KS i;rw[t];constructor
     .rintro ⟨e,_⟩;cases e;exact⟨(b,c),by rw[EW];simp,ADG,i,o⟩
     .rintro ⟨p,hp,k⟩;rcases AAG.mp hp with rfl|hp
      .exact absurd k.2.1 (by show ¬b.1<b.1;grind)
      .rw [EW] at hp;rcases AAG.mp hp with rfl|hp
       .refine ⟨?_,by grind⟩;have:=k.2.2;rw[o] at this;rw[this]
       .exfalso;have q:=(EE (AAM.mp h'.2).2 hp).1;have:=(AAM.mp h'.2).1 _ q;have:=k.1;grind
def Y4 {cs:zy C4}{l:C4}{m:Rat}{x:T3}(c:E5 cs)(h2:2<=cs.length)(d:cs.getLast?=some l):Ti cs m x↔spotC cs m=some x/\m<l.1:=by
 obtain⟨a,b,r,rfl⟩:∃a b r,cs=a::b::r:=by
  match cs,h2 with
  | a::b::r,_=>exact⟨a,b,r,rfl⟩
 by_cases h:m<a.1
 .rw [Ey h];constructor
  .rintro ⟨p,hp,k,_⟩;exfalso;have q:=(EE c hp).1;have:a.1<=p.1.1:=by
    rcases AAG.mp q with z|z
    .rw [z];exact ADG
    .have:=(AAM.mp c).1 _ z;grind
   grind
  .rintro ⟨e,_⟩;cases e
 .rw [show spotC (a::b::r) m=spotG a (b::r) m by rw[spotC,AAD h],pk r a b l c (by grind) d]
def Zw {x y z:Rat}:Jr x y z=true↔En x y z:=by
 unfold Jr En;rw[AAx,ACY,ACY];constructor
 .rintro ⟨a,b⟩;exact⟨a,by grind⟩
 .rintro ⟨a,b⟩;exact⟨a,by grind⟩
def X0 {a l c k:C4}{r f:zy C4}{b e:T3}{d:Rat×Rat}{s t:Rat}(v:E5 (a::r))(w:E5 (c::f))(o:r≠ [])(p:f≠ [])(u:(a::r).getLast?=some l)(h:(c::f).getLast?=some k):WT a l c k b e d ((spotC (a::r) s).getD (0,0,0)) ((spotC (c::f) t).getD (0,0,0)) s t=true↔Bo (a::r) (c::f) b e d s t:=by
 have A:2<=(a::r).length:=by cases r with | nil=>exact absurd rfl o|cons=>simp
 have B:2<=(c::f).length:=by cases f with | nil=>exact absurd rfl p|cons=>simp
 have C:=λx=>Y4 (m:=s) (x:=x) v A u;have D:=λx=>Y4 (m:=t) (x:=x) w B h;unfold WT Bo j3;simp only[AAx,Bool.not_eq_true',ACY,ADH,Zw,C,D];constructor
 .rintro ⟨⟨I,c⟩,⟨J,i⟩,⟨E,F⟩,n⟩;obtain⟨x,ex⟩:=Dq o u (m:=s) (by grind) (by grind);obtain⟨y,g⟩:=Dq p h (m:=t) (by grind) (by grind);rw[ex,g] at n;exact⟨x,y,⟨ex,c⟩,⟨g,i⟩,⟨by grind,by grind⟩,n⟩
 .rintro ⟨x,y,⟨ex,j⟩,⟨g,i⟩,⟨E,F⟩,n⟩;have G:¬s<a.1:=λz=>by rw[Ey z] at ex;cases ex
  have H:¬t<c.1:=λz=>by rw[Ey z] at g;cases g
  rw[ex,g];exact⟨⟨G,j⟩,⟨H,i⟩,⟨by grind,by grind⟩,n⟩
def WU {cs ds:zy C4}{b e:T3}{d:Rat×Rat}{v w u:PV}{N B:Nat}(hv:EQ cs b v)(hw:EQ ds e w)(hu:PU d u)(f:F2 100 b)(g:F2 100 e)(h:Bd 100 d.1)(b2:Bd 100 d.2)(hc:∀c∈cs,D6 B c)(i:E5 cs)(h2:2<=cs.length)(hl:cs.length<=60)(j:∀c∈ds,D6 B c)(k:E5 ds)(l:2<=ds.length)(I:ds.length<=60)(m:6*B+3<=3900)(hN:N<=770)(n:∀p∈Ej cs,∀q∈Ej ds,gN N (D5 cs ds b e d p q)){Q:PV->Prop}(r:(∀s t,¬Bo cs ds b e d s t)->∀ps:zy (zy (Int×Rat)),(Te cs ds b e d).length=ps.length->(∀y∈(Te cs ds b e d).zip ps,bZ (4*N+13) y.1.2.2 y.2)->Q (.tup [.str "apart", .tup (((Te cs ds b e d).zip ps).map E8)]))(A:∀s t,Bo cs ds b e d s t->Bd (4*N+12) s->Bd (10*N+30) t->Q (.tup [.str "meet",fr s,fr t])):Bl [v,w,u] Q:=by
 have C:(Te cs ds b e d).length<=10100:=by
  unfold Te;rw[ADI];have:∀a:zy (Nat×C4×C4),(a.map λp=>((UR 0 (Ej ds)).map λq=>(p.1,q.1,D5 cs ds b e d p.2 q.2)).length).sum=a.length*(Ej ds).length:=λa=>by
   induction a with
   | nil=>simp
   | cons x a D=>simp[AAN,AAp,ACL,Ij] at D ⊢;omega
  rw[this,Ij];have E:(Ej cs).length<=60:=by unfold Ej;simp;omega
  have F:(Ej ds).length<=60:=by unfold Ej;simp;omega
  have:=AA5 E F;omega
 refine Ut (L:=Te cs ds b e d) (λ{Q} q=>YY hv hw hu f g h b2 hc i h2 (by omega) j k l (by omega) m q) C hN (λx hx=> ?_) (λG ps hl hp=> ?_) (λx hx s t o bs bt=> ?_)
 .obtain ⟨p,hp,q,H,e'⟩:=W5 hx;rw[e'];exact n p hp q H
 .exact r (λs t z=>by
   obtain⟨x,hx,o⟩:=O5.mp z;exact G x hx ⟨s,t,o⟩) ps hl hp
 .exact A s t (O5.mpr ⟨x,hx,o⟩) bs bt
def cV (f:Rat)(v x:T3):T3:=(f*x.1+v.1,f*x.2.1+v.2.1,f*x.2.2+v.2.2)
def HH (r o f:Rat)(v:T3)(c:C4):C4:=(r*c.1+o,cV f v c.2)
theorem Qs {h:C4->C4}:∀cs:zy C4,Ej (cs.map h)=(Ej cs).map λp=>(h p.1,h p.2)
 | [] =>rfl
 | [_] =>rfl
 | a::b::r=>by have:=Qs (h:=h) (b::r);show (h a,h b)::Ej ((b::r).map h)=_;rw[this];rfl
def YJ {r o b e s:Rat}(g:0<r)(hb:b<e):(r*s+o-(r*b+o))/(r*e+o-(r*b+o))=(s-b)/(e-b):=by
 have d:r*s+o-(r*b+o)=r*(s-b):=by grind
 have f:r*e+o-(r*b+o)=r*(e-b):=by grind
 rw[d,f];have c:r≠0:=by grind
 have a:e-b≠0:=by grind
 have m1:(s-b)/(e-b)*(e-b)=s-b:=ABR a;have m2:r*(s-b)/(r*(e-b))*(r*(e-b))=r*(s-b):=ABR (by intro z;rcases ABC.mp z with q|q;exact c q;exact a q);generalize (s-b)/(e-b)=x at *;generalize r*(s-b)/(r*(e-b))=y at *;have:(y-x)*(r*(e-b))=0:=by
  have:(y-x)*(r*(e-b))=y*(r*(e-b))-r*(x*(e-b)):=by grind
  rw[this,m2,m1];grind
 rcases ABC.mp this with q|q
 .grind
 .rcases ABC.mp q with q|q
  .exact absurd q c
  .exact absurd q a
def Ox {r o f:Rat}{v:T3}{a b:C4}{s:Rat}(d:0<r)(hb:a.1<b.1):inter (HH r o f v a) (HH r o f v b) (r*s+o)=cV f v (inter a b s):=by
 unfold inter;show (_,_,_)=_;have e:=YJ (o:=o) (s:=s) d hb;show ((f*a.2.1+v.1)+(r*s+o-(r*a.1+o))/(r*b.1+o-(r*a.1+o))*((f*b.2.1+v.1)-(f*a.2.1+v.1)),(f*a.2.2.1+v.2.1)+(r*s+o-(r*a.1+o))/(r*b.1+o-(r*a.1+o))*((f*b.2.2.1+v.2.1)-(f*a.2.2.1+v.2.1)),(f*a.2.2.2+v.2.2)+(r*s+o-(r*a.1+o))/(r*b.1+o-(r*a.1+o))*((f*b.2.2.2+v.2.2)-(f*a.2.2.2+v.2.2)))=_;rw[e];generalize (s-a.1)/(b.1-a.1)=c;unfold cV;refine AAo ?_ (AAo ?_ ?_)
 .show f*a.2.1+v.1+c*(f*b.2.1+v.1-(f*a.2.1+v.1))=f*(a.2.1+c*(b.2.1-a.2.1))+v.1;grind
 .show f*a.2.2.1+v.2.1+c*(f*b.2.2.1+v.2.1-(f*a.2.2.1+v.2.1))=f*(a.2.2.1+c*(b.2.2.1-a.2.2.1))+v.2.1;grind
 .show f*a.2.2.2+v.2.2+c*(f*b.2.2.2+v.2.2-(f*a.2.2.2+v.2.2))=f*(a.2.2.2+c*(b.2.2.2-a.2.2.2))+v.2.2;grind
def QS {r o x y:Rat}(c:0<r):r*x+o<r*y+o↔x<y:=by
 have:=ADK (a:=x) (b:=y) c;constructor
 .intro h;exact this.mp (by grind)
 .intro h;have:=this.mpr h;grind
def Zo {r o x y:Rat}(a:0<r):r*x+o<=r*y+o↔x<=y:=by have:=QS (o:=o) (x:=y) (y:=x) a;rw[<-ADL,<-ADL,this]
def Zv {r x y:Rat}(a:0<r):r*x<=r*y↔x<=y:=by rw[<-ADL,<-ADL,ADK a]
def P4 {r o f:Rat}{v:T3}{cs:zy C4}{s:Rat}(a:0<r)(c:E5 cs)(y:T3):Ti (cs.map (HH r o f v)) (r*s+o) y↔∃x,Ti cs s x/\y=cV f v x:=by
 unfold Ti;rw[Qs];constructor
 .rintro ⟨q,d,h1,h2,rfl⟩;obtain⟨p,hp,rfl⟩:=AAI.mp d;obtain⟨_,_,b⟩:=EE c hp;exact⟨_,⟨p,hp,(Zo a).mp h1,(QS a).mp h2,rfl⟩,Ox a b⟩
 .rintro ⟨x,⟨p,hp,h1,h2,rfl⟩,rfl⟩;obtain⟨_,_,b⟩:=EE c hp;exact⟨_,AAI.mpr ⟨p,hp,rfl⟩,(Zo a).mpr h1,(QS a).mpr h2,Ox a b⟩
def FR {f v x y z:Rat}(a:0<f):En (f*x+v) (f*y+v) (f*z)↔En x y z:=by
 unfold En;have b:f*x+v-(f*y+v)=f*(x-y):=by grind
 have c: -(f*z)=f * -z:=by grind
 rw[b,c,ADK a,ADK a]
def Ms {r o f:Rat}{v:T3}{cs ds:zy C4}{b e b' e':T3}{d d':Rat×Rat}{s t:Rat}(a:0<r)(c:0<f)(g:E5 cs)(h:E5 ds)(i:b'.2.2=r*b.2.2)(j:e'.2.2=r*e.2.2)(k:szs b' e' d'=(f*(szs b e d).1,f*(szs b e d).2.1,f*(szs b e d).2.2)):Bo (cs.map (HH r o f v)) (ds.map (HH r o f v)) b' e' d' (r*s+o) (r*t+o)↔Bo cs ds b e d s t:=by
 unfold Bo j3;rw[i,j,k];have T1:r*t+o-(r*s+o)<=r*b.2.2↔t-s<=b.2.2:=by rw[show r*t+o-(r*s+o)=r*(t-s) by grind];exact Zv a
 have l:r*s+o-(r*t+o)<=r*e.2.2↔s-t<=e.2.2:=by rw[show r*s+o-(r*t+o)=r*(s-t) by grind];exact Zv a
 rw[T1,l];constructor
 .rintro ⟨x,y,h1,h2,tm,n⟩;obtain⟨x,m,rfl⟩:=(P4 a g x).mp h1;obtain⟨y,p,rfl⟩:=(P4 a h y).mp h2;exact⟨x,y,m,p,tm,(FR c).mp n.1,(FR c).mp n.2.1,(FR c).mp n.2.2⟩
 .rintro ⟨x,y,h1,h2,tm,n⟩;exact⟨_,_,(P4 a g _).mpr ⟨x,h1,rfl⟩,(P4 a h _).mpr ⟨y,h2,rfl⟩,tm,(FR c).mpr n.1,(FR c).mpr n.2.1,(FR c).mpr n.2.2⟩
def TV {r o f:Rat}{v:T3}{cs ds:zy C4}{b e b' e':T3}{d d':Rat×Rat}(a:0<r)(c:0<f)(g:E5 cs)(i:E5 ds)(j:b'.2.2=r*b.2.2)(k:e'.2.2=r*e.2.2)(l:szs b' e' d'=(f*(szs b e d).1,f*(szs b e d).2.1,f*(szs b e d).2.2)):(∃s t,Bo (cs.map (HH r o f v)) (ds.map (HH r o f v)) b' e' d' s t)↔∃s t,Bo cs ds b e d s t:=by
 have back:∀s:Rat,s=r*((s-o)/r)+o:=λs=>by have:(s-o)/r*r=s-o:=ABR (by grind);grind
 constructor
 .rintro ⟨s,t,h⟩;rw[back s,back t,Ms a c g i j k l] at h;exact⟨_,_,h⟩
 .rintro ⟨s,t,h⟩;exact⟨_,_,(Ms (o:=o) (v:=v) a c g i j k l).mpr h⟩
def bE {b e:T3}{d:Rat×Rat}:szs b e d=szs e b d:=by unfold szs;rw[Rat.add_comm b.1,Rat.add_comm b.2.1]
def EJ {x y z:Rat}:En x y z↔En y x z:=by unfold En;grind
def Jp {cs ds:zy C4}{b e:T3}{d:Rat×Rat}{s t:Rat}:Bo cs ds b e d s t↔Bo ds cs e b d t s:=by
 unfold Bo j3;rw[bE];constructor
 .rintro ⟨x,y,h1,h2,⟨a,c⟩,n⟩;exact⟨y,x,h2,h1,⟨c,a⟩,EJ.mp n.1,EJ.mp n.2.1,EJ.mp n.2.2⟩
 .rintro ⟨x,y,h1,h2,⟨a,c⟩,n⟩;exact⟨y,x,h2,h1,⟨c,a⟩,EJ.mp n.1,EJ.mp n.2.1,EJ.mp n.2.2⟩
def Iv {cs ds a c:zy C4}{b e:T3}{d:Rat×Rat}{s t:Rat}(h1:∀x,Ti cs s x↔Ti a s x)(h2:∀x,Ti ds t x↔Ti c t x):Bo cs ds b e d s t↔Bo a c b e d s t:=by unfold Bo;simp only[h1,h2]
def KW:zy C4->zy C4
 | a::b::r=>a::(1/2*(a.1+b.1),inter a b (1/2*(a.1+b.1)))::b::r
 | cs=>cs
def Ji {a b m s x y:Rat}(h1:a<m)(h2:m<b):x+(s-a)/(m-a)*(x+(m-a)/(b-a)*(y-x)-x)=x+(s-a)/(b-a)*(y-x)/\x+(m-a)/(b-a)*(y-x)+(s-m)/(b-m)*(y-(x+(m-a)/(b-a)*(y-x)))=x+(s-a)/(b-a)*(y-x):=by
 have c:m-a≠0:=by grind
 have d:b-a≠0:=by grind
 have e:b-m≠0:=by grind
 have h:(s-a)/(m-a)*(m-a)=s-a:=ABR c;have j:(s-m)/(b-m)*(b-m)=s-m:=ABR e;have f:(m-a)/(b-a)=(m-a)*(b-a)⁻¹:=ABO ..;have g:(s-a)/(b-a)=(s-a)*(b-a)⁻¹:=ABO ..;have i:(b-a)*(b-a)⁻¹=1:=Rat.mul_inv_cancel _ d;rw[f,g];generalize (s-a)/(m-a)=u at *;generalize (s-m)/(b-m)=w at *;generalize (b-a)⁻¹=k at *;constructor
 .grind
 .have:1-(m-a)*k=(b-m)*k:=by grind
  grind
def Er {cs:zy C4}(c:E5 cs)(s:Rat)(x:T3):Ti (KW cs) s x↔Ti cs s x:=by
 match cs,c with
 | [],_=>exact Iff.rfl
 | [_],_=>exact Iff.rfl
 | a::b::r,c=>
   have g:=(AAM.mp c).1 b (by simp);have m1:a.1<1/2*(a.1+b.1):=by grind
   have m2:1/2*(a.1+b.1)<b.1:=by grind
   have d:∀s,inter a (1/2*(a.1+b.1),inter a b (1/2*(a.1+b.1))) s=inter a b s:=λs=>AAo (Ji m1 m2).1 (AAo (Ji m1 m2).1 (Ji m1 m2).1);have f:∀s,inter (1/2*(a.1+b.1),inter a b (1/2*(a.1+b.1))) b s=inter a b s:=λs=>AAo (Ji m1 m2).2 (AAo (Ji m1 m2).2 (Ji m1 m2).2);show Ti (a::(1/2*(a.1+b.1),inter a b (1/2*(a.1+b.1)))::b::r) s x↔_;unfold Ti;rw[EW,EW,EW];constructor
   .rintro ⟨p,hp,h1,h2,e⟩;rcases AAG.mp hp with rfl|hp
    .exact ⟨(a,b),by simp,h1,by have h2:s<1/2*(a.1+b.1):=h2;show s<b.1;grind,by rw[<-d];exact e⟩
    .rcases AAG.mp hp with rfl|hp
     .exact ⟨(a,b),by simp,by have h1:1/2*(a.1+b.1)<=s:=h1;show a.1<=s;grind,h2,by rw[<-f];exact e⟩
     .exact ⟨p,by simp[hp],h1,h2,e⟩
   .rintro ⟨p,hp,h1,h2,e⟩;rcases AAG.mp hp with rfl|hp
    .by_cases z:s<1/2*(a.1+b.1)
     .exact ⟨(a,_),ABL ..,h1,z,by rw[d];exact e⟩
     .exact ⟨(_,b),AAw _ (ABL ..),by show 1/2*(a.1+b.1)<=s;grind,h2,by rw[f];exact e⟩
    .exact ⟨p,AAw _ (AAw _ hp),h1,h2,e⟩
end PL
namespace PL
open PySem L2 PyProof.Rows
open PL.K31
instance (priority:=2000){Q:PV->Prop}:Tk (Az [.tape] Q) (True) (∀a,Bd 8 a->Mul 6 60 a->Q (fr a)):=⟨λ_ h=>A7 λa m=>h a (m.bd (by decide) (by decide)) m⟩
structure RW (b:T3):Prop where
 bd:F2 8 b
 x0:0<=b.1
 y0:0<=b.2.1
 z0:0<=b.2.2
 mx:Mul 6 240 b.1
 my:Mul 6 240 b.2.1
 mz:Mul 6 240 b.2.2
def Ic {Q:PV->Prop}(q:∀b:T3,RW b->Q (jf b)):CC [.tape] Q:=by
 apply LK;have a:Mul 6 240 (0:Rat):=Mul.int (n:=0) (by decide) (by decide);have all:∀x∈ [(0:Rat),1/2,1,1/3,3,40],Bd 8 x/\0<=x/\Mul 6 240 x:=by
  intro x hx;simp only[AAG,AA2,AA3] at hx;rcases hx with rfl|rfl|rfl|rfl|rfl|rfl
  .exact ⟨VQ,by decide +kernel,a⟩
  .exact ⟨VQ,by decide +kernel, .mk' (k:=3) (by decide) (by decide +kernel) (by decide)⟩
  .exact ⟨VQ,by decide +kernel, .mk' (k:=6) (by decide) (by decide +kernel) (by decide)⟩
  .exact ⟨VQ,by decide +kernel, .mk' (k:=2) (by decide) (by decide +kernel) (by decide)⟩
  .exact ⟨VQ,by decide +kernel, .mk' (k:=18) (by decide) (by decide +kernel) (by decide)⟩
  .exact ⟨VQ,by decide +kernel, .mk' (k:=240) (by decide) (by decide +kernel) (by decide)⟩
 ac_rfl
 .exact q (0,0,0) ⟨⟨VQ,VQ,VQ⟩,(by decide),(by decide),(by decide),a,a,a⟩
 refine Fi (xs:= [(0:Rat),1/2,1,1/3,3,40]) (by omega) (by show _<(6:Int);omega) λx hx=> ?_;ac_rfl;refine Fi (xs:= [(0:Rat),1/2,1,1/3,3,40]) (by omega) (by show _<(6:Int);omega) λy c=> ?_;ac_rfl;refine Fi (xs:= [(0:Rat),1/2,1,1/3,3,40]) (by omega) (by show _<(6:Int);omega) λz d=> ?_;ac_rfl;exact q (x,y,z) ⟨⟨(all x hx).1,(all y c).1,(all z d).1⟩,(all x hx).2.1,(all y c).2.1,(all z d).2.1,(all x hx).2.2,(all y c).2.2,(all z d).2.2⟩
structure kW (d:Rat×Rat):Prop where
 b1:Bd 8 d.1
 b2:Bd 8 d.2
 p1:1/3<=d.1
 p2:1/3<=d.2
 m1:Mul 6 30 d.1
 m2:Mul 6 30 d.2
 c1:Bd 3 d.1
 c2:Bd 3 d.2
def cX {Q:PV->Prop}(q:∀d:Rat×Rat,kW d->Q (.tup [fr d.1,fr d.2])):PL.F__law_apart [.tape] Q:=by
 apply PL.s_F__law_apart;have all:∀x∈ [(1:Rat),2,3/2,1/3,5],Bd 8 x/\1/3<=x/\Mul 6 30 x/\Bd 3 x:=by
  intro x hx;simp only[AAG,AA2,AA3] at hx;rcases hx with rfl|rfl|rfl|rfl|rfl
  .exact ⟨VQ,by decide +kernel, .mk' (k:=6) (by decide) (by decide +kernel) (by decide),⟨by decide +kernel,by decide +kernel⟩⟩
  .exact ⟨VQ,by decide +kernel, .mk' (k:=12) (by decide) (by decide +kernel) (by decide),⟨by decide +kernel,by decide +kernel⟩⟩
  .exact ⟨VQ,by decide +kernel, .mk' (k:=9) (by decide) (by decide +kernel) (by decide),⟨by decide +kernel,by decide +kernel⟩⟩
  .exact ⟨VQ,by decide +kernel, .mk' (k:=2) (by decide) (by decide +kernel) (by decide),⟨by decide +kernel,by decide +kernel⟩⟩
  .exact ⟨VQ,by decide +kernel, .mk' (k:=30) (by decide) (by decide +kernel) (by decide),⟨by decide +kernel,by decide +kernel⟩⟩
 ac_rfl;refine Fi (xs:= [(1:Rat),2,3/2,1/3,5]) (by omega) (by show _<(5:Int);omega) λx hx=> ?_;ac_rfl;refine Fi (xs:= [(1:Rat),2,3/2,1/3,5]) (by omega) (by show _<(5:Int);omega) λy a=> ?_;ac_rfl;exact q (x,y) ⟨(all x hx).1,(all y a).1,(all x hx).2.1,(all y a).2.1,(all x hx).2.2.1,(all y a).2.2.1,(all x hx).2.2.2,(all y a).2.2.2⟩
def cY {cs:zy C4}(p:A8 9 6 600 cs):A8 9 6 600 (cs.take 3):=by have:=p.two;exact⟨by simp;omega,by simp;omega,λc hc=>p.mu c (List.mem_of_mem_take hc),List.Pairwise.sublist (List.take_sublist _ _) p.ris⟩
def W2 {X Y Z:BE->Prop}{Q:PV->Prop}{cs ds:zy C4}{d f g h i:zt AV}(j:A8 9 6 600 cs)(pd:A8 9 6 600 ds)(q:∀ds b e,A8 9 6 600 ds->RW b->RW e->Q (.tup [D2 cs b,D2 ds e])):HD {nx:=X,rt:=Q,bk:=Y,ct:=Z} [some (.val .tape),some (.val (BL cs)),some (.val (BL ds)),d,f,g,h,i] :=by
 have k:=j.few;have c:=pd.few;have a:=cY pd;ac_rfl
 .refine Fx ?_;rw[p7];ac_rfl;refine Ic λb hb=> ?_;ac_rfl;refine Ic λe he=> ?_;ac_rfl;exact q _ b e a hb he
 .refine Ic λb hb=> ?_;ac_rfl;refine Ic λe he=> ?_;ac_rfl;exact q ds b e pd hb he
def fB {X Y Z:BE->Prop}{Q:PV->Prop}{cs ds:zy C4}(pm0:A8 9 6 512 cs)(q:∀ds B l C D d,A8 9 6 600 ds->X [some (.val .tape),some (.val (BL cs)),some (.val (BL ds)),B,l,C,D,d]):HC {nx:=X,rt:=Q,bk:=Y,ct:=Z} [some (.val .tape),some (.val (BL cs)),some (.val (BL ds)),none,none,none,none,none] :=by
 have p:HV 9 12 cs:=pm0.ok (by decide) (by decide);ac_rfl;rename_i E F G v H I;refine Dn 8 (by omega) (by omega) (by omega) (by decide) λb=> ?_;ac_rfl;refine Fi (xs:= [(E:Rat),0,Rat.divInt v 2]) (by omega) (by show _<(3:Int);omega) λt k=> ?_;have bt:Bd 12 t:=by
  simp only[AAG,AA2,AA3] at k;rcases k with rfl|rfl|rfl
  .exact .int (by omega) (by decide)
  .exact oK.mono (by decide)
  .exact b.mono (by decide)
 have mt:Mul 6 27 t:=by
  simp only[AAG,AA2,AA3] at k;rcases k with rfl|rfl|rfl
  .exact .int (by decide) (by omega)
  .exact Mul.int (n:=0) (by decide) (by decide)
  .exact Mul.part (t:=v) (b:=2) (c:=3) (by decide) (by decide) (by omega)
 clear k b F G H I;ac_rfl;rename_i f m0 w g m1 A i J K;have a:∀x∈ [f,0,g,1,0,(i:Rat)],Mul 6 60 x:=by
  intro x hx;simp only[AAG,AA2,AA3] at hx;rcases hx with rfl|rfl|rfl|rfl|rfl|rfl
  .exact w
  .exact Mul.int (n:=0) (by decide) (by decide)
  .exact A
  .exact Mul.int (n:=1) (by decide) (by decide)
  .exact Mul.int (n:=0) (by decide) (by decide)
  .exact .int (by decide) (by omega)
 have all:∀x∈ [f,0,g,1,0,(i:Rat)],Bd 12 x:=by
  intro x hx;simp only[AAG,AA2,AA3] at hx;rcases hx with rfl|rfl|rfl|rfl|rfl|rfl
  .exact m0.mono (by decide)
  .exact oK.mono (by decide)
  .exact m1.mono (by decide)
  .exact pq.mono (by decide)
  .exact oK.mono (by decide)
  .exact .int (by omega) (by decide)
 rw[show rng 0 (Int.toNat 3)= [.int 0, .int 1, .int 2] from rfl];repeat' array_get_dec
 refine Fi (xs:= [f,0,g,1,0,(i:Rat)]) (by omega) (by show _<(6:Int);omega) λx hx=> ?_;repeat' array_get_dec
 refine Fi (xs:= [f,0,g,1,0,(i:Rat)]) (by omega) (by show _<(6:Int);omega) λy r=> ?_;repeat' array_get_dec
 refine Fi (xs:= [f,0,g,1,0,(i:Rat)]) (by omega) (by show _<(6:Int);omega) λz s=> ?_;have o:F2 12 (x,y,z):=⟨all x hx,all y r,all z s⟩;have M:A8 9 6 600 (cs.map (Si t (x,y,z))):=by refine⟨by simpa using pm0.two,by simpa using pm0.few,λc hc=> ?_,(iQ p bt o).ris⟩;obtain⟨N,O,rfl⟩:=AAI.mp hc;have m:=pm0.mu N O;exact⟨(m.m.add mt).mono (by decide),(m.x.add (a x hx)).mono (by decide),(m.y.add (a y r)).mono (by decide),(m.z.add (a z s)).mono (by decide)⟩
 have P:=p.few;repeat' array_get_dec
 clear all a hx r s J K m0 m1 w A mt;generalize some (AV.val (PV.lst [fr f,fr 0,fr g,fr 1,fr 0,fr (i:Rat)]))=l;refine DQ cor (λj vs τ=>∃d,τ= [some (.val .tape),some (.val (BL cs)),some (.val (BL ds)),some (.val (fr t)),l,some (AV.val (PV.lst [fr x,fr y,fr z])),some (.own ((j.map (Si t (x,y,z))).map cor)),d]) ?_ ?_ ⟨_,rfl⟩
 .rintro τ ⟨d,rfl⟩;ac_rfl;refine⟨Sj _, ?_⟩;ac_rfl;exact q _ _ _ _ _ _ M
 .rintro j c vs e τ R S ⟨d,rfl⟩;have W:=p.bd c (by rw[<-e];simp);have ul:j.length<=9:=by have h:=p.few;rw[<-e] at h;simp at h;omega
  have u:∀d,R [some (.val .tape),some (.val (BL cs)),some (.val (BL ds)),some (.val (fr t)),l,some (AV.val (PV.lst [fr x,fr y,fr z])),some (.own ((j.map (Si t (x,y,z))).map cor ++ [cor (Si t (x,y,z) c)])),d] :=λd=>S _ ⟨d,by simp⟩;have bx:Bd 12 x:=o.x;have T:Bd 12 y:=o.y;have bz:Bd 12 z:=o.z;have U:((j.map (Si t (x,y,z))).map cor).length<=9:=by simpa using ul
  generalize (j.map (Si t (x,y,z))).map cor=L at *;ac_rfl;rw[show rng 0 (Int.toNat 3)= [.int 0, .int 1, .int 2] from rfl];repeat' array_get_dec
  rw[show (0:Int)+1=1 from rfl];repeat' array_get_dec
  rw[show (1:Int)+1=2 from rfl];repeat' array_get_dec
  rw[show (2:Int)+1=3 from rfl];repeat' array_get_dec
  refine⟨HJ (n:=9) U (by decide), ?_⟩;repeat' array_get_dec
  exact u _
def nu {Q:PV->Prop}(q:∀cs ds b e,A8 9 6 600 cs->A8 9 6 600 ds->RW b->RW e->Q (.tup [D2 cs b,D2 ds e])):EM [.tape] Q:=by apply Q2;ac_rfl;refine GG λcs d=> ?_;ac_rfl;refine GG λds pd=> ?_;have a:A8 9 6 600 cs:=⟨d.two,d.few,λc hc=>(d.mu c hc).mono (by decide),d.ris⟩;have f:A8 9 6 600 ds:=⟨pd.two,pd.few,λc hc=>(pd.mu c hc).mono (by decide),pd.ris⟩;have h:=d.few;have g:=pd.few;repeat' (first | exact fB d λds i j k l m pd=>W2 a pd λds b e=>q cs ds b e a|exact W2 a f λds b e=>q cs ds b e a|array_mem_dec)
def A8.y10 {cs:zy C4}(p:A8 9 6 600 cs):HV 9 10 cs:=⟨p.two,p.few,λc hc=>(p.mu c hc).bd (by decide) (by decide),p.ris⟩
def Zr {cs ds:zy C4}{b e:T3}{d:Rat×Rat}{v w u:PV}(a:A8 20 12 1400 cs)(pd:A8 20 12 1400 ds)(hv:EQ cs b v)(hw:EQ ds e w)(hu:PU d u)(g:F2 20 b)(h:F2 20 e)(i:Bd 20 d.1)(b2:Bd 20 d.2)(j:Mul 12 1400 b.2.2)(l:Mul 12 1400 e.2.2)(m:∀k,Mul 12 4800 (fj (szs b e d) k)){Q:PV->Prop}(n:(∀s t,¬Bo cs ds b e d s t)->∀ps:zy (zy (Int×Rat)),(Te cs ds b e d).length=ps.length->(∀y∈(Te cs ds b e d).zip ps,bZ 201 y.1.2.2 y.2)->Q (.tup [.str "apart", .tup (((Te cs ds b e d).zip ps).map E8)]))(o:∀s t,Bo cs ds b e d s t->Bd 200 s->Bd 500 t->Q (.tup [.str "meet",fr s,fr t])):Bl [v,w,u] Q:=by have f:∀{cs:zy C4},A8 20 12 1400 cs->∀c∈cs,D6 11 c:=λp c hc=>(p.mu c hc).bd (by decide) (by decide);refine WU (N:=47) (B:=11) hv hw hu (g.mono (by decide)) (h.mono (by decide)) (i.mono (by decide)) (b2.mono (by decide)) (f a) a.ris a.two (by have:=a.few;omega) (f pd) pd.ris pd.two (by have:=pd.few;omega) (by decide) (by decide) (λp hp q r=> ?_) n o;obtain⟨m1,m2,m3⟩:=EE a.ris hp;obtain⟨x,z,A⟩:=EE pd.ris r;exact W4 (Qo (a.mu _ m1) (a.mu _ m2) m3) (Qo (pd.mu _ x) (pd.mu _ z) A) m j l (W:=30) (by decide) (by decide) (by decide) (by decide) (by decide) (by decide) (by decide) (by decide) (by decide) (by decide) (by decide) (by decide) (by decide)
def A8.d12 {cs:zy C4}(p:A8 9 6 600 cs):A8 20 12 1400 cs:=⟨p.two,by have:=p.few;omega,λc hc=>(p.mu c hc).dbl.mono (by decide),p.ris⟩
def bD {b e:T3}{d:Rat×Rat}(a:Mul 6 240 b.1)(b2:Mul 6 240 b.2.1)(c:Mul 6 240 e.1)(g:Mul 6 240 e.2.1)(f:Mul 6 240 d.1)(h:Mul 6 240 d.2):∀k,Mul 12 4800 (fj (szs b e d) k):=λk=>by
 rcases k with _|_|k
 .exact ((f.add (a.add c)).dbl).mono (by decide)
 .exact ((f.add (a.add c)).dbl).mono (by decide)
 .exact ((h.add (b2.add g)).dbl).mono (by decide)
def CP {cs:zy C4}{b:T3}:EQ cs b (D2 cs b):=gb cs b
def iN {cs ds:zy C4}{b e:T3}{d:Rat×Rat}{v w u:PV}(a:A8 9 6 600 cs)(pd:A8 9 6 600 ds)(hb:RW b)(he:RW e)(hd:kW d)(hv:EQ cs b v)(hw:EQ ds e w)(hu:PU d u){Q:PV->Prop}(c:(∀s t,¬Bo cs ds b e d s t)->∀ps:zy (zy (Int×Rat)),(Te cs ds b e d).length=ps.length->(∀y∈(Te cs ds b e d).zip ps,bZ 201 y.1.2.2 y.2)->Q (.tup [.str "apart", .tup (((Te cs ds b e d).zip ps).map E8)]))(f:∀s t,Bo cs ds b e d s t->Bd 200 s->Bd 500 t->Q (.tup [.str "meet",fr s,fr t])):Bl [v,w,u] Q:=
 Zr a.d12 pd.d12 hv hw hu (hb.bd.mono (by decide)) (he.bd.mono (by decide)) (hd.b1.mono (by decide)) (hd.b2.mono (by decide)) (hb.mz.dbl.mono (by decide)) (he.mz.dbl.mono (by decide)) (bD hb.mx hb.my he.mx he.my (hd.m1.mono (by decide)) (hd.m2.mono (by decide))) c f
def Xq {cs ds:zy C4}{b e:T3}{d:Rat×Rat}{v w u:PV}{s t:Rat}{B M:Nat}(hv:EQ cs b v)(hw:EQ ds e w)(hu:PU d u)(hc:∀c∈cs,D6 B c)(n:∀c∈ds,D6 B c)(g:E5 cs)(h:E5 ds)(h2:2<=cs.length)(o:2<=ds.length)(hl:cs.length<=60)(A:ds.length<=60)(p:F2 100 b)(x:F2 100 e)(y:Bd 100 d.1)(b2:Bd 100 d.2)(bs:Bd M s)(bt:Bd M t)(z:M+6*B+10<=1800){Q:PV->Prop}(q:∀k:zq,(k=true↔Bo cs ds b e d s t)->Q (.bl k)):Cm [v,w,u,fr s,fr t] Q:=by obtain⟨a,r,l,rfl,i,j⟩:=open2 h2;obtain⟨C,D,E,rfl,m,f⟩:=open2 o;exact c7 hv hw hu hc n g h i m (by omega) (by omega) j f p x y b2 bs bt z (q _ (X0 g h i m j f))
end PL
namespace PL.K38
open PySem L2 PL PyProof.Rows
open PL.K31
abbrev EL:AS:=
 (Ad (Ao (AN 2 At (AB (An (AB (aC (.int 1)) (AB (aC (.int 2)) AL))) (AB (AN 2 Bc (AB (AX Af (AX Af (aV 0) (aC (.int 0))) (aC (.int 0))) (AB (AX Af (AX Af (aV 0) (aC (.int 1))) (aC (.int 0))) AL))) AL))) (Am 1))
   (Ar (AX Bf (AX Bf (Vp (aV 0) Vr (Vs (aC (.int 1)))) (An (AB (AX Bf (An (AB (aV 1) AL)) (AN 2 Em (AB (aV 0) (AB (aV 1) AL)))) AL))) (Vp (aV 0) (Vs (aC (.int 1))) Vr))))
def Bb:AF:=Ap 2 EL
def GW {a:PV}{Q:PV->Prop}(h:EL ⟨λ_=>Q .non,Q,λ_=>False,λ_=>False⟩ [some (.val a),none]):Bb [a] Q:=h
abbrev JQ:AS:=
 (Ad (Ao (AX Af (aV 0) (aC (.int 1))) (HX 3 (AZ (Am 5) (AZ (Am 6) (AZ (Am 7) Be)))))
   (Ar (An (AB (HG Cc (AB (aV 3) AL)) (AB (An (AB (AN 2 At (AB (aV 2) (AB (aV 5) AL))) (AB (AN 2 At (AB (aV 2) (AB (aV 6) AL))) (AB (AN 2 At (AB (aV 1) (AB (aV 7) AL))) AL)))) AL)))))
abbrev JP:AS:=
 (Ad (FH (LA (AX Af (aV 0) (aC (.int 0)))) (Am 4) (F3 3 LG (AB (AX Bf (An (AB (AN 2 At (AB (AX Af (aV 4) (aC (.int 0))) (AB (aV 1) AL))) AL)) (HG Cc (AB (G4 (Bs (LA (Vp (aV 4) (Vs (aC (.int 1))) Vr)) 1 [2] (Am 0) Dh (AN 2 At (AB (aV 1) (AB (aV 0) AL))))) AL))) AL)))
   JQ)
abbrev HB:AS:=
 (Ad (Jh (F8 AL) 3)
   JP)
def Cv:AF:=Ap 8 HB
def LL {a b c:PV}{Q:PV->Prop}(h:HB ⟨λ_=>Q .non,Q,λ_=>False,λ_=>False⟩ [some (.val a),some (.val b),some (.val c),none,none,none,none,none]):Cv [a,b,c] Q:=h
abbrev Kr:AS:=
 (Ad (CH (UD (FI (BH (AN 5 Cm (AB (aV 15) (AB (aV 14) (AB (aV 3) (AB (aV 17) (AB (aV 16) AL)))))))) (FI (BH (AN 5 Cm (AB (AX Af (aV 7) (aC (.int 0))) (AB (AX Af (aV 7) (aC (.int 1))) (AB (aV 3) (AB (aV 16) (AB (aV 17) AL))))))))) (Ar (aC (.bl false))) BO)
   (CH (FI (BH (AN 5 Cm (AB (AX Af (aV 6) (aC (.int 0))) (AB (AX Af (aV 6) (aC (.int 1))) (AB (aV 3) (AB (AN 2 Bc (AB (aV 16) (AB (aV 4) AL))) (AB (AN 2 Bc (AB (aV 17) (AB (aV 4) AL))) AL)))))))) (Ar (aC (.bl false))) BO))
abbrev IP:AS:=
 (Ad (Ao (Vp (aV 8) (Vs (aC (.int 1))) Vr) (HX 2 (AZ (Am 16) (AZ (Am 17) Be))))
   Kr)
abbrev JY:AS:=
 (Ad (FH (LA (G4 (F8 (AB (An (AB (aV 15) (AB (aV 14) AL))) (AB (aV 6) (AB (aV 7) (AB (G4 (F8 (AB (aV 14) (AB (AX Af (aV 7) (aC (.int 1))) AL)))) AL))))))) (Am 13) (CH (BH (AX gZ (AX Af (AN 3 Bl (AB (AX Af (aV 13) (aC (.int 0))) (AB (AX Af (aV 13) (aC (.int 1))) (AB (aV 3) AL)))) (aC (.int 0))) (AX Af (aV 8) (aC (.int 0))))) (Ar (aC (.bl false))) BO))
   (CH (BH (AX Tl (AX Af (aV 8) (aC (.int 0))) (aC (.str "meet")))) IP BO))
abbrev JX:AS:=
 (Ad (CH (BH (AX gZ (AX Af (aV 12) (aC (.int 0))) (AX Af (aV 8) (aC (.int 0))))) (Ar (aC (.bl false))) BO)
   JY)
abbrev JW:AS:=
 (Ad (Ao (AN 3 Bl (AB (AX Af (aV 11) (aC (.int 0))) (AB (AX Af (aV 11) (aC (.int 1))) (AB (An (AB (AN 2 At (AB (aV 10) (AB (AX Af (aV 3) (aC (.int 0))) AL))) (AB (AN 2 At (AB (aV 10) (AB (AX Af (aV 3) (aC (.int 1))) AL))) AL))) AL)))) (Am 12))
   JX)
abbrev JV:AS:=
 (Ad (Ao (G4 (Bs (LA (An (AB (aV 14) (AB (aV 15) AL)))) 1 [9,10] (Am 0) Dh (AN 3 Cv (AB (aV 0) (AB (aV 1) (AB (aV 2) AL)))))) (Am 11))
   JW)
abbrev K2:AS:=
 (Ad (Ao (AN 2 As (AB (AX Bf (aC (.int 1)) (AN 2 A9 (AB (aV 2) (AB (aC (.int 9)) AL)))) (AB (AX Bf (AX Bf (AX ga (aC (.int 10)) (aC (.int 17))) (aC (.int 3))) (AN 2 A9 (AB (aV 2) (AB (aC (.int 90)) AL)))) AL))) (Am 10))
   JV)
abbrev Fz:AS:=
 (Ad (Ao (AN 2 As (AB (AX Bf (AX Bf (AX ga (aC (.int 10)) (aC (.int 18))) (aC (.int 1))) (AN 2 A9 (AB (aV 2) (AB (aC (.int 90)) AL)))) (AB (AX Bf (aC (.int 3)) (AN 2 A9 (AB (aV 2) (AB (aC (.int 9)) AL)))) AL))) (Am 9))
   K2)
abbrev K1:AS:=
 (Ad (Ao (AN 3 Bl (AB (aV 14) (AB (aV 15) (AB (aV 3) AL)))) (Am 8))
   Fz)
abbrev K0:AS:=
 (Ad (Ao (G4 (Bs (LA (An (AB (aV 14) (AB (aV 15) AL)))) 1 [] (Am 0) Dh (An (AB (AN 1 Bb (AB (AX Af (aV 0) (aC (.int 0))) AL)) (AB (AX Af (aV 0) (aC (.int 1))) AL))))) (Am 7))
   K1)
abbrev Kz:AS:=
 (Ad (Ao (G4 (Bs (LA (An (AB (aV 14) (AB (aV 15) AL)))) 1 [4,5] (Am 0) Dh (An (AB (AN 2 LQ (AB (AN 4 Gu (AB (AX Af (aV 0) (aC (.int 0))) (AB (AX Af (aV 2) (aC (.int 0))) (AB (AX Af (aV 2) (aC (.int 1))) (AB (AX Af (aV 2) (aC (.int 2))) AL))))) (AB (aV 1) AL))) (AB (AX Af (aV 0) (aC (.int 1))) AL))))) (Am 6))
   K0)
abbrev Ky:AS:=
 (Ad (Ao (G4 (Bs (N6 (AB (aC (.int 3)) AL)) 1 [2] (Am 0) Dh (AN 1 Az (AB (aV 1) AL)))) (Am 5))
   Kz)
abbrev Kx:AS:=
 (Ad (Ao (AN 1 Az (AB (aV 2) AL)) (Am 4))
   Ky)
abbrev Kv:AS:=
 (Ad (Ao (AN 1 F__law_apart (AB (aV 2) AL)) (Am 3))
   Kx)
abbrev Ku:AS:=
 (Ad (Ao (AN 1 EM (AB (aV 2) AL)) (HX 2 (AZ (Am 14) (AZ (Am 15) Be))))
   Kv)
abbrev Pb:AS:=
 (Ad (Ao (AN 2 MN (AB (aV 0) (AB (aV 1) AL))) (Am 2))
   Ku)
abbrev OZ:AS:=
 (Ad (FH (N6 (AB (AX Bf (aC (.int 1)) (HG (gj min) (AB (aC (.int 1)) (AB (HG LB (AB (aV 0) AL)) AL)))) AL)) (Am 1) Pb)
   (Ar (aC (.bl true))))
def EH:AF:=Ap 18 OZ
def TD {a:PV}{Q:PV->Prop}(h:OZ ⟨λ_=>Q .non,Q,λ_=>False,λ_=>False⟩ [some (.val a),none,none,none,none,none,none,none,none,none,none,none,none,none,none,none,none,none]):EH [a] Q:=h
def O1 {cs:zy C4}{t x y z:Rat}:laterC t (offC x y z cs)=cs.map (HH 1 t 1 (x,y,z)):=by unfold laterC offC;rw[ABc];refine ABd λc _=> ?_;show (c.1+t,c.2.1+x,c.2.2.1+y,c.2.2.2+z)=(1*c.1+t,1*c.2.1+x,1*c.2.2.1+y,1*c.2.2.2+z);rw[AAg,AAg,AAg,AAg]
def Qz {r o f:Rat}{v:T3}{cs:zy C4}(c:0<r)(h:E5 cs):E5 (cs.map (HH r o f v)):=ADx.mpr (h.imp λ{a b} h=>(QS c).mpr h)
def WW {cs:zy C4}{t:Rat}{x:T3}(p:A8 9 6 600 cs)(mt:Mul 6 60 t)(m1:Mul 6 60 x.1)(m2:Mul 6 60 x.2.1)(m3:Mul 6 60 x.2.2):A8 20 12 1400 (cs.map (HH 1 t 1 x)):=by
 refine⟨by rw[AAL];exact p.two,by rw[AAL];have:=p.few;omega,λc hc=> ?_,Qz (by decide) p.ris⟩;obtain⟨c,d,rfl⟩:=AAI.mp hc;have m:=p.mu c d;have go:∀{a b:Rat},Mul 6 600 a->Mul 6 60 b->Mul 12 1400 (1*a+b):=λha hb=>by rw[AAg];exact(ha.add hb).dbl.mono (by decide)
 exact⟨go m.m mt,go m.x m1,go m.y m2,go m.z m3⟩
def Iw {a b:Rat}(ha:Mul 6 600 a)(hb:Mul 6 600 b):Mul 12 1400 (1/2*(a+b)):=by have:=(Mul.mk' (D:=2) (N:=1) (a:=1/2) (k:=1) (by decide) (by decide +kernel) (by decide)).mul (ha.add hb);exact this.mono (by decide)
def iP {a b:C4}(h:a.1<b.1):inter a b (1/2*(a.1+b.1))=(1/2*(a.2.1+b.2.1),1/2*(a.2.2.1+b.2.2.1),1/2*(a.2.2.2+b.2.2.2)):=by
 have n:b.1-a.1≠0:=by grind
 have e:(1/2*(a.1+b.1)-a.1)/(b.1-a.1)=1/2:=by
  have q:(1/2*(a.1+b.1)-a.1)/(b.1-a.1)*(b.1-a.1)=1/2*(a.1+b.1)-a.1:=ABR n;generalize (1/2*(a.1+b.1)-a.1)/(b.1-a.1)=x at *;have:(x-1/2)*(b.1-a.1)=0:=by grind
  rcases ABC.mp this with z|z
  .grind
  .exact absurd z n
 unfold inter;rw[e];refine AAo ?_ (AAo ?_ ?_)
 .show a.2.1+1/2*(b.2.1-a.2.1)=1/2*(a.2.1+b.2.1);grind
 .show a.2.2.1+1/2*(b.2.2.1-a.2.2.1)=1/2*(a.2.2.1+b.2.2.1);grind
 .show a.2.2.2+1/2*(b.2.2.2-a.2.2.2)=1/2*(a.2.2.2+b.2.2.2);grind
def Mx {cs:zy C4}(p:A8 9 6 600 cs):A8 20 12 1400 (KW cs):=by
 obtain⟨a,b,r,rfl⟩:∃a b r,cs=a::b::r:=by
  match cs,p.two with
  | a::b::r,_=>exact⟨a,b,r,rfl⟩
 have g:=(AAM.mp p.ris).1 b (by simp);have d:=p.mu a (by simp);have e:=p.mu b (by simp);show A8 20 12 1400 (a::(1/2*(a.1+b.1),inter a b (1/2*(a.1+b.1)))::b::r);rw[iP g];refine⟨by simp,by have:=p.few;simp at this ⊢;omega,λc hc=> ?_, ?_⟩
 .rcases AAG.mp hc with rfl|hc
  .exact d.dbl.mono (by decide)
  .rcases AAG.mp hc with rfl|hc
   .exact ⟨Iw d.m e.m,Iw d.x e.x,Iw d.y e.y,Iw d.z e.z⟩
   .exact (p.mu c (AAw _ hc)).dbl.mono (by decide)
 .have f:=AAM.mp p.ris;refine AAM.mpr ⟨λc hc=> ?_,AAM.mpr ⟨λc hc=> ?_,f.2⟩⟩
  .rcases AAG.mp hc with rfl|hc
   .show a.1<1/2*(a.1+b.1);grind
   .exact f.1 c hc
  .show 1/2*(a.1+b.1)<c.1;rcases AAG.mp hc with rfl|hc
   .grind
   .have:=(AAM.mp f.2).1 c hc;grind
def KN {cs:zy C4}(p:A8 9 6 600 cs){Q:PV->Prop}(q:Q (BL (KW cs))):Bb [BL cs] Q:=by
 have d:=p.y10.bd;have f:=p.few;have h:=p.ris;have j:=p.two;obtain⟨a,b,r,rfl⟩:∃a b r,cs=a::b::r:=by
  match cs,p.two with
  | a::b::r,_=>exact⟨a,b,r,rfl⟩
 have k:=(AAM.mp h).1 b (by simp);have ba:=(d a (by simp)).m;have l:=(d b (by simp)).m;have o:Bd 8 (1/2:Rat):=VQ;have bm:Bd 40 (1/2*(a.1+b.1)):=(o.mul (ba.add l)).mono (by decide);have sp:spotC (a::b::r) (1/2*(a.1+b.1))=some (inter a b (1/2*(a.1+b.1))):=by rw[spotC,AAD (by grind),spotG,AAD (by grind)]
 have bs:=F2.inter (d a (by simp)) (d b (by simp)) bm k;have len:(b::r).length<=9:=by simp at f ⊢;omega
 generalize i:1/2*(a.1+b.1)=M at *;have q:Q (.tup (cor a::cor (M,inter a b M)::(b::r).map cor)):=by
  have e:KW (a::b::r)=a::(M,inter a b M)::b::r:=by show a::(1/2*(a.1+b.1),inter a b (1/2*(a.1+b.1)))::b::r=_;rw[i]
  rw[e] at q;exact q
 apply GW;repeat' array_get_dec
 rename_i c g _;have g:c=b:=by have:(a::b::r)[1]? =some c:=g;simpa using this.symm
 subst g;repeat' array_get_dec
 rw[i];repeat' array_get_dec
 refine ML d h (by simp) (by omega) bm (by decide) ?_;rw[sp,show ∀x:T3,NX (some x)= .tup [fr x.1,fr x.2.1,fr x.2.2] from λx=>rfl];repeat' array_get_dec
 show ([cor a,cor (M,inter a c M)].length+((c::r).map cor).length<=sizeLine)/\Q (.tup ([cor a,cor (M,inter a c M)] ++ (c::r).map cor));exact⟨AB9 (HJ (n:=20) (by rw[AAL];simp only[AAe,ADp] at len ⊢;omega) (by decide)),q⟩
def OR (L f:Rat)(c:C4):C4:=(c.1*L,f*c.2.1,f*c.2.2.1,f*c.2.2.2)
def Wl {L f:Rat}{cs:zy C4}:cs.map (OR L f)=cs.map (HH L 0 f (0,0,0)):=ABd λc _=>by show (c.1*L,f*c.2.1,f*c.2.2.1,f*c.2.2.2)=(L*c.1+0,f*c.2.1+0,f*c.2.2.1+0,f*c.2.2.2+0);rw[AAy,AAy,AAy,AAy,ACf]
def PK {cs:zy C4}{b:T3}{L f:Rat}(p:A8 9 6 600 cs)(hb:RW b)(o:Bd 64 L)(r:Bd 64 f){Q:PV->Prop}(q:Q (D2 (cs.map (OR L f)) (f*b.1,f*b.2.1,L*b.2.2))):Cv [D2 cs b,fr L,fr f] Q:=by
 have j:=p.few;have k:=p.y10.bd;have s:=hb.bd.x;have b2:=hb.bd.y;have t:=hb.bd.z;apply LL;ac_rfl;refine DQ cor (λa vs τ=>∃h:zt AV,τ= [some (.val (D2 cs b)),some (.val (fr L)),some (.val (fr f)),some (.own ((a.map (OR L f)).map cor)),h,none,none,none]) ?_ ?_ ⟨_,rfl⟩
 .rintro τ ⟨h,rfl⟩;ac_rfl;exact q
 .rintro a c vs e τ R i ⟨h,rfl⟩;have g:=k c (by rw[<-e];simp);have u:=g.m;have v:=g.x;have w:=g.y;have A:=g.z;have ul:a.length<=9:=by have:=congrArg List.length e;simp at this;omega
  have d:=i [some (.val (D2 cs b)),some (.val (fr L)),some (.val (fr f)),some (.own ((a.map (OR L f)).map cor ++ [cor (OR L f c)])),some (.val (cor c)),none,none,none] ⟨some (.val (cor c)),by simp⟩;clear i;have l:((a.map (OR L f)).map cor).length<=9:=by simpa using ul
  generalize (a.map (OR L f)).map cor=told at *;unfold cor OR at d;unfold cor;repeat' array_get_dec
  rw[show GN [fr c.1,fr c.2.1,fr c.2.2.1,fr c.2.2.2] (some 1) none= [fr c.2.1,fr c.2.2.1,fr c.2.2.2] from rfl];refine⟨HJ (n:=3) (by simp) (by decide), ?_⟩;repeat' array_get_dec
  refine⟨HJ l (by decide), ?_⟩;repeat' array_get_dec
  exact d
def P5 {L f:Rat}{c:C4}(k:Nat):UM k (HH L 0 f (0,0,0) c)=f*UM k c:=by
 rcases k with _|_|k
 .show f*c.2.1+0=_;rw[AAy];rfl
 .show f*c.2.2.1+0=_;rw[AAy];rfl
 .show f*c.2.2.2+0=_;rw[AAy];rfl
def jY {L f:Rat}{p:C4×C4}(b:0<L)(c:p.1.1<p.2.1)(k:Nat):VO (HH L 0 f (0,0,0) p.1,HH L 0 f (0,0,0) p.2) k=VO p k*(f*L⁻¹)/\Vv (HH L 0 f (0,0,0) p.1,HH L 0 f (0,0,0) p.2) k=f*Vv p k:=by
 have a:L≠0:=by grind
 have d:p.2.1-p.1.1≠0:=by grind
 have e:VO (HH L 0 f (0,0,0) p.1,HH L 0 f (0,0,0) p.2) k=VO p k*(f*L⁻¹):=by show (UM k (HH L 0 f (0,0,0) p.2)-UM k (HH L 0 f (0,0,0) p.1))/((L*p.2.1+0)-(L*p.1.1+0))=(UM k p.2-UM k p.1)/(p.2.1-p.1.1)*(f*L⁻¹);rw[P5,P5,AAy,AAy,show L*p.2.1-L*p.1.1=L*(p.2.1-p.1.1) by grind,ABO,ABO,Rat.inv_mul_rev];grind
 refine⟨e, ?_⟩;show UM k (HH L 0 f (0,0,0) p.1)-VO (HH L 0 f (0,0,0) p.1,HH L 0 f (0,0,0) p.2) k*(L*p.1.1+0)=f*(UM k p.1-VO p k*p.1.1);rw[e,P5,AAy];have i:L⁻¹ * L=1:=Rat.inv_mul_cancel _ a;generalize L⁻¹=j at *;grind
def Wa {p:C4×C4}{L f:Rat}{q a v u:Nat}(h:kr 6 600 7200 7200 1440000 p)(n:p.1.1<p.2.1)(o:0<L)(r:Mul q a L)(d:Mul a q L⁻¹)(e:Mul v u f)(l:u<=9)(g:q<=11)(b:a<=2^60)(i:v<=2^57):kr (6*q) (600*a) (7200*(2^57*2^60)) (7200*(9*11)) (1440000*(9*2^60)) (HH L 0 f (0,0,0) p.1,HH L 0 f (0,0,0) p.2):=by
 obtain⟨J,s,t,m⟩:=h.j;have tm:∀{x:Rat},Mul 6 600 x->Mul (6*q) (600*a) (L*x+0):=λhx=>by rw[AAy,ACf];exact hx.mul r
 refine⟨tm h.t1,tm h.t2,J*(v*a),AAs s (AAs e.1 d.1),AA5 t (AA5 i b),λk=> ?_⟩;obtain⟨w,y⟩:=jY (f:=f) o n k;rw[w,y];refine⟨((m k).1.mul (e.mul d)).mono (AAm _ (AA5 l g)), ?_⟩;have:=(((m k).2.mul e).upc (c:=a) d.1).mono (M:=1440000*(9*2^60)) (by rw[AAz];exact AAm _ (AA5 l b));rw[AAz,ACf] at this;exact this
structure gO (v w u:PV) (P:Prop):Prop where
 go:∀{Q:PV->Prop},(P->∀z,Q (.tup (.str "meet" :: z)))->(¬P->∀z,Q (.tup (.str "apart" :: z)))->Bl [v,w,u] Q
def W6 {cs ds:zy C4}{b e:T3}{d:Rat×Rat}{v w u:PV}(a:A8 20 12 1400 cs)(pd:A8 20 12 1400 ds)(hb:RW b)(he:RW e)(hd:kW d)(hv:EQ cs b v)(hw:EQ ds e w)(hu:PU d u):gO v w u (∃s t,Bo cs ds b e d s t):=⟨λ{Q} qy qn=>
 Zr a pd hv hw hu (hb.bd.mono (by decide)) (he.bd.mono (by decide)) (hd.b1.mono (by decide)) (hd.b2.mono (by decide)) (hb.mz.dbl.mono (by decide)) (he.mz.dbl.mono (by decide)) (bD hb.mx hb.my he.mx he.my (hd.m1.mono (by decide)) (hd.m2.mono (by decide))) (λc ps _ _=>qn (λ⟨s,t,h⟩=>c s t h) _) (λs t h _ _=>qy ⟨s,t,h⟩ _)⟩
def sb (L f:Rat)(b:T3):T3:=(f*b.1,f*b.2.1,L*b.2.2)
def bF {L f:Rat}{b e:T3}{d:Rat×Rat}:szs (sb L f b) (sb L f e) (f*d.1,f*d.2)=(f*(szs b e d).1,f*(szs b e d).2.1,f*(szs b e d).2.2):=by
 unfold szs sb;refine AAo ?_ (AAo ?_ ?_)
 .show f*d.1+(f*b.1+f*e.1)=f*(d.1+(b.1+e.1));grind
 .show f*d.1+(f*b.1+f*e.1)=f*(d.1+(b.1+e.1));grind
 .show f*d.2+(f*b.2.1+f*e.2.1)=f*(d.2+(b.2.1+e.2.1));grind
def fD {cs ds:zy C4}{b e:T3}{d:Rat×Rat}{L f:Rat}{q n v u:Nat}(i:A8 9 6 600 cs)(pd:A8 9 6 600 ds)(hb:RW b)(he:RW e)(hd:kW d)(w:0<L)(f0:0<f)(G:Mul q n L)(I:Mul n q L⁻¹)(D:Mul v u f)(E:u<=9)(A:q<=11)(a:n<=2^60)(j:v<=2^57):gO (D2 (cs.map (OR L f)) (sb L f b)) (D2 (ds.map (OR L f)) (sb L f e)) (.tup [fr (f*d.1),fr (f*d.2)]) (∃s t,Bo cs ds b e d s t):=by
 rw[Wl,Wl];have C:=TV (o:=0) (v:=(0,0,0)) (b':=sb L f b) (e':=sb L f e) (d':=(f*d.1,f*d.2)) w f0 i.ris pd.ris rfl rfl (bF (b:=b) (e:=e) (d:=d));have X:∀{x:Rat} {N:Nat},Mul 6 N x->Mul (v*6) (9*N) (f*x):=λhx=>(D.mul hx).mono (ABI _ E);have J:∀{x:Rat} {N:Nat},Mul 6 N x->Mul (6*q) (N*n) (L*x):=λhx=>by rw[ACf];exact hx.mul G
 have v6:v*6<2^61:=by omega
 have l:∀{x:Rat} {N:Nat},N<=600->Mul 6 N x->Bd 75 (f*x):=λhN hx=>(X hx).bd (by omega) (by omega);have K:∀{x:Rat} {N:Nat},N<=600->Mul 6 N x->Bd 75 (L*x):=λ{x N} hN hx=>(J hx).bd (by have:=AA5 hN a;omega) (by omega);have O:∀{cs:zy C4},A8 9 6 600 cs->∀c∈cs.map (HH L 0 f (0,0,0)),D6 75 c:=λp c hc=>by
  obtain⟨Y,SX,rfl⟩:=AAI.mp hc;have m:=p.mu Y SX;have z:∀{x:Rat},Bd 75 x->Bd 75 (x+0):=λh=>by rw[AAy];exact h
  exact⟨z (K (AAJ _) m.m),z (l (AAJ _) m.x),z (l (AAJ _) m.y),z (l (AAJ _) m.z)⟩
 have P:∀{b:T3},RW b->F2 100 (sb L f b):=λh=>⟨(l (by decide) h.mx).mono (by decide),(l (by decide) h.my).mono (by decide),(K (by decide) h.mz).mono (by decide)⟩;have F:∀{cs:zy C4},A8 9 6 600 cs->2<=(cs.map (HH L 0 f (0,0,0))).length/\(cs.map (HH L 0 f (0,0,0))).length<=60:=λp=>by rw[AAL];exact⟨p.two,by have:=p.few;omega⟩
 refine⟨λ{Q} qy qn=> ?_⟩;refine WU (N:=340) (B:=75) (CP (b:=sb L f b)) (CP (b:=sb L f e)) (d:=(f*d.1,f*d.2)) (.inl rfl) (P hb) (P he) ((l (by decide) hd.m1).mono (by decide)) ((l (by decide) hd.m2).mono (by decide)) (O i) (Qz w i.ris) (F i).1 (F i).2 (O pd) (Qz w pd.ris) (F pd).1 (F pd).2 (by decide) (by decide) (λp hp r R=> ?_) (λno ps _ _=>qn (λh=>by
  obtain⟨s,t,h⟩:=C.mpr h;exact no s t h) _) (λs t h _ _=>qy (C.mp ⟨s,t,h⟩) _)
 rw[Qs] at hp R;obtain⟨p,Ck,rfl⟩:=AAI.mp hp;obtain⟨r,Ye,rfl⟩:=AAI.mp R;obtain⟨m1,m2,m3⟩:=EE i.ris Ck;obtain⟨k1,k2,S⟩:=EE pd.ris Ye;have P1:=Wa (Qo (i.mu _ m1) (i.mu _ m2) m3) m3 w G I D E A a j;have P2:=Wa (Qo (pd.mu _ k1) (pd.mu _ k2) S) S w G I D E A a j;have Z:∀k,Mul (v*12) (9*4800) (fj (szs (sb L f b) (sb L f e) (f*d.1,f*d.2)) k):=λk=>by have:=(D.mul (bD hb.mx hb.my he.mx he.my (hd.m1.mono (by decide)) (hd.m2.mono (by decide)) k)).mono (M:=9*4800) (ABI _ E);rw[bF];rcases k with _|_|k <;> exact this
 have T:∀{b:T3},RW b->Mul (6*q) (600*n) (sb L f b).2.2:=λh=>(J h.mz).mono (ABI _ (by decide));have H:6*q<=66:=by omega
 have U:600*n<=600*2^60:=AAm _ a;have g:v*12<=2^57*12:=ABI _ j;exact W4 P1 P2 Z (T hb) (T he) (W:=140) (AAQ H (by decide)) (AAQ U (by decide)) (by decide) (by decide) (by decide) (AAQ g (by decide)) (by decide) (by decide) (AAQ (AAm _ g) (by decide)) (AAQ (Nat.add_le_add_left (AAm _ (AAm _ g)) _) (by decide)) (AAQ (AAm _ g) (by decide)) (AAQ H (by decide)) (AAQ (Nat.add_le_add U H) (by decide))
def gO.use {v w u:PV}{P:Prop}{W:String}(h:gO v w u P)(a:P->W="meet")(b:¬P->W="apart"){Q:PV->Prop}(q:∀z,Q (.tup (.str W::z))):Bl [v,w,u] Q:=
 h.go (λp z=>by rw[<-a p];exact q z) (λp z=>by rw[<-b p];exact q z)
def gO.of {v w u:PV}{P P':Prop}(h:gO v w u P)(i:P↔P'):gO v w u P':=by rw[<-propext i];exact h
def ZO {P q:Int}(a:0<P)(b:0<q):Mul q.toNat P.toNat (Rat.divInt P q)/\Mul P.toNat q.toNat (Rat.divInt P q)⁻¹/\0<Rat.divInt P q:=by
 have c:((q.toNat:Nat):Int)=q:=by omega
 have d:((P.toNat:Nat):Int)=P:=by omega
 refine⟨⟨by omega,P,by rw[c],by omega⟩,⟨by omega,q,by rw[d,Rat.inv_divInt],by omega⟩,lG a b⟩
def ab {X Y Z:BE->Prop}{Q:PV->Prop}{cs ds:zy C4}{b e:T3}{d:Rat×Rat}{t0:Rat}{x:T3}{W:String}{D:zy PV}{E F G H v c g i j k l:zt AV}(a:A8 9 6 600 cs)(pd:A8 9 6 600 ds)(hb:RW b)(he:RW e)(hd:kW d)(mt:Mul 6 60 t0)(m1:Mul 6 60 x.1)(m2:Mul 6 60 x.2.1)(m3:Mul 6 60 x.2.2)(m:(∃s t,Bo cs ds b e d s t)->W="meet")(n:(¬∃s t,Bo cs ds b e d s t)->W="apart")(w:∀v c g i j,(CH (BH (AX Tl (AX Af (aV 8) (aC (.int 0))) (aC (.str "meet")))) IP BO) {nx:=X,rt:=Q,bk:=Y,ct:=Z} [E,F,some (.val .tape),some (.val (.tup [fr d.1,fr d.2])),G,H,some (.val (.lst [D2 (cs.map (HH 1 t0 1 x)) b,D2 (ds.map (HH 1 t0 1 x)) e])),some (.val (.lst [D2 (KW cs) b,D2 (KW ds) e])),some (.val (.tup (.str W::D))),v,c,g,i,j,some (.val (D2 cs b)),some (.val (D2 ds e)),k,l]):Fz {nx:=X,rt:=Q,bk:=Y,ct:=Z} [E,F,some (.val .tape),some (.val (.tup [fr d.1,fr d.2])),G,H,some (.val (.lst [D2 (cs.map (HH 1 t0 1 x)) b,D2 (ds.map (HH 1 t0 1 x)) e])),some (.val (.lst [D2 (KW cs) b,D2 (KW ds) e])),some (.val (.tup (.str W::D))),v,c,g,i,j,some (.val (D2 cs b)),some (.val (D2 ds e)),k,l] :=by
 have K:=(W6 pd.d12 a.d12 he hb hd (CP (b:=e)) (CP (b:=b)) (u:= .tup [fr d.1,fr d.2]) (.inl rfl)).of (P':=∃s t,Bo cs ds b e d s t) ⟨λ⟨s,t,h⟩=>⟨t,s,Jp.mpr h⟩,λ⟨s,t,h⟩=>⟨t,s,Jp.mp h⟩⟩;have y:szs b e d=(1*(szs b e d).1,1*(szs b e d).2.1,1*(szs b e d).2.2):=by rw[AAg,AAg,AAg]
 have M:=(W6 (WW a mt m1 m2 m3) (WW pd mt m1 m2 m3) hb he hd (CP (b:=b)) (CP (b:=e)) (u:= .tup [fr d.1,fr d.2]) (.inl rfl)).of (TV (by decide) (by decide) a.ris pd.ris (AAg _).symm (AAg _).symm y);have N:=(W6 (Mx a) (Mx pd) hb he hd (CP (b:=b)) (CP (b:=e)) (u:= .tup [fr d.1,fr d.2]) (.inl rfl)).of (P':=∃s t,Bo cs ds b e d s t) ⟨λ⟨s,t,h⟩=>⟨s,t,(Iv (Er a.ris s) (Er pd.ris t)).mp h⟩,λ⟨s,t,h⟩=>⟨s,t,(Iv (Er a.ris s) (Er pd.ris t)).mpr h⟩⟩;have O:=(W6 a.d12 (Mx pd) hb he hd (CP (b:=b)) (CP (b:=e)) (u:= .tup [fr d.1,fr d.2]) (.inl rfl)).of (P':=∃s t,Bo cs ds b e d s t) ⟨λ⟨s,t,h⟩=>⟨s,t,(Iv (λ_=>Iff.rfl) (Er pd.ris t)).mp h⟩,λ⟨s,t,h⟩=>⟨s,t,(Iv (λ_=>Iff.rfl) (Er pd.ris t)).mpr h⟩⟩;have pq:=hd.b1;have R:=hd.b2;ac_rfl;rename_i r r0 r1 o S T;rw[show (10:Int)^Int.toNat 18=1000000000000000000 from rfl];refine Dn 61 (by omega) (by omega) (by omega) (by decide) λI=> ?_;obtain⟨U,iL,L0⟩:=ZO (P:=1000000000000000000+1+r) (q:=3+o) (by omega) (by omega);generalize Rat.divInt (1000000000000000000+1+r) (3+o)=L at *;have A:(1000000000000000000+1+r).toNat<=2^60:=by omega
 have B:(3+o).toNat<=11:=by omega
 generalize (1000000000000000000+1+r).toNat=pp at *;generalize (3+o).toNat=qq at *;ac_rfl;rename_i s s0 s1 p s0' s1';rw[show (10:Int)^Int.toNat 17=100000000000000000 from rfl];refine Dn 61 (by omega) (by omega) (by omega) (by decide) λJ=> ?_;obtain⟨hf,_,f0⟩:=ZO (P:=1+s) (q:=100000000000000000+3+p) (by omega) (by omega);generalize Rat.divInt (1+s) (100000000000000000+3+p)=f at *;have u9:(1+s).toNat<=9:=by omega
 have C:(100000000000000000+3+p).toNat<=2^57:=by omega
 generalize (1+s).toNat=uu at *;generalize (100000000000000000+3+p).toNat=vv at *;have w0:=fD a pd hb he hd L0 f0 U iL hf u9 B A C;repeat' array_get_dec
 refine PK a hb (I.mono (by decide)) (J.mono (by decide)) ?_;repeat' array_get_dec
 refine PK pd he (I.mono (by decide)) (J.mono (by decide)) ?_;repeat' array_get_dec
 refine w0.use m n λz=> ?_;repeat' array_get_dec
 refine K.use m n λz=> ?_;repeat' array_get_dec
 refine M.use m n λz=> ?_;repeat' array_get_dec
 refine N.use m n λz=> ?_;repeat' array_get_dec
 refine O.use m n λz=> ?_;repeat' (first | exact w _ _ _ _ _|array_get_dec)
def Zn (ns:zy Int)(hn:ns.length<=63):EH [.scr ns] λx=>x= .bl true:=by
 apply TD;ac_rfl;refine V8 (λi τ=>∃z:zy (zt AV),z.length=17/\τ=some (.val (.scr ns))::z) ?_ ?_ ⟨_,rfl,rfl⟩
 .rintro τ ⟨z,N,rfl⟩;rfl
 .rintro i hi τ R T ⟨z,N,rfl⟩;obtain⟨U,X,Y,Z,z5,z6,z7,z8,O,f,g,j,l,J,K,L,M,rfl⟩:∃U X Y Z z5 z6 z7 z8 O f g j l J K L M,z= [U,X,Y,Z,z5,z6,z7,z8,O,f,g,j,l,J,K,L,M] :=by
   match z,N with
   | [_,_,_,_,_,_,_,_,_,_,_,_,_,_,_,_,_],_=>exact⟨_,_,_,_,_,_,_,_,_,_,_,_,_,_,_,_,_,rfl⟩
  have again:∀z:zy (zt AV),z.length=17->R (some (.val (.scr ns))::z):=λz N=>T _ ⟨z,N,rfl⟩;clear T;ac_rfl;refine nu λcs ds b e a pd hb he=> ?_;ac_rfl;refine cX λd hd=> ?_;ac_rfl;rw[show rng 0 (Int.toNat 3)= [.int 0, .int 1, .int 2] from rfl];repeat' array_get_dec
  rename_i t0 n r D E u F G w H I A;have B:∀{cs:zy C4},A8 9 6 600 cs->∀c∈offC D F H cs,D6 20 c:=λp c hc=>by obtain⟨c',SX,rfl⟩:=AAI.mp hc;have k:=p.y10.bd c' SX;exact⟨k.m.mono (by decide),(k.x.add E).mono (by decide),(k.y.add G).mono (by decide),(k.z.add I).mono (by decide)⟩
  have C:∀{cs:zy C4},A8 9 6 600 cs->(offC D F H cs).length<=1000:=λp=>by unfold offC;rw[AAL];have:=p.few;omega
  refine IU (.self _) (by have:=a.few;omega) a.y10.bd E G I (by decide) (by decide) ?_;repeat' array_get_dec
  refine MM (.self _) (C a) (B a) n (by decide) (by decide) ?_;rw[O1];repeat' array_get_dec
  refine IU (.self _) (by have:=pd.few;omega) pd.y10.bd E G I (by decide) (by decide) ?_;repeat' array_get_dec
  refine MM (.self _) (C pd) (B pd) n (by decide) (by decide) ?_;rw[O1];repeat' array_get_dec
  refine KN a ?_;repeat' array_get_dec
  refine KN pd ?_;repeat' array_get_dec
  refine iN a pd hb he hd CP CP (.inl rfl) (λno ps _ _=> ?_) (λs t mt bs bt=> ?_)
  .refine ab (W:="apart") (x:=(D,F,H)) a pd hb he hd r u w A (λ⟨s,t,h⟩=>absurd h (no s t)) (λ_=>rfl) λO f g j l=> ?_;ac_rfl;exact again _ rfl
  .refine ab (W:="meet") (x:=(D,F,H)) a pd hb he hd r u w A (λ_=>rfl) (λh=>absurd ⟨s,t,mt⟩ h) λO f g j l=> ?_;have cb:∀{cs:zy C4},A8 20 12 1400 cs->∀c∈cs,D6 11 c:=λp c hc=>(p.mu c hc).bd (by decide) (by decide);have P:∀{cs ds:zy C4} {b e:T3} {s t:Rat},A8 20 12 1400 cs->A8 20 12 1400 ds->RW b->RW e->Bd 510 s->Bd 510 t->Bo cs ds b e d s t->∀{Q:PV->Prop},Q (.bl true)->Cm [D2 cs b,D2 ds e, .tup [fr d.1,fr d.2],fr s,fr t] Q:=λ{cs ds b e s t} p p' hb he bs bt h {Q} q=>
    Xq (CP (b:=b)) (CP (b:=e)) (.inl rfl) (cb p) (cb p') p.ris p'.ris p.two p'.two (by have:=p.few;omega) (by have:=p'.few;omega) (hb.bd.mono (by decide)) (he.bd.mono (by decide)) (hd.b1.mono (by decide)) (hd.b2.mono (by decide)) bs bt (by decide) λk hk=>by rw[hk.mpr h];exact q
   have m1:=Jp.mp mt;have m2:=(Iv (b:=b) (e:=e) (d:=d) (Er a.ris s) (Er pd.ris t)).mpr mt;have S:szs b e d=(1*(szs b e d).1,1*(szs b e d).2.1,1*(szs b e d).2.2):=by rw[AAg,AAg,AAg]
   have m3:=(Ms (o:=t0) (v:=(D,F,H)) (by decide) (by decide) a.ris pd.ris (AAg _).symm (AAg _).symm S).mpr mt;rw[AAg,AAg] at m3;ac_rfl;rw[show GN [PV.str (Str.ofString "meet"),fr s,fr t] (some 1) none= [fr s,fr t] from rfl];ac_rfl;refine P pd.d12 a.d12 he hb (bt.mono (by decide)) (bs.mono (by decide)) m1 ?_;ac_rfl;refine P (Mx a) (Mx pd) hb he (bs.mono (by decide)) (bt.mono (by decide)) m2 ?_;ac_rfl;refine P (WW (x:=(D,F,H)) a r u w A) (WW (x:=(D,F,H)) pd r u w A) hb he ((bs.add n).mono (by decide)) ((bt.add n).mono (by decide)) m3 ?_;ac_rfl;exact again _ rfl
end PL.K38
section
namespace K38
open PySem L2 PL PL.K38 PyProof.Rows
open PL.K31
open PyProof.Rows
def DR {N Q:zy Str}{s:Scope}(a:s.kind= .function:=by rfl)(b:s.isCoroutine=false:=by rfl)(c:s.isGenerator=false:=by rfl)(d:N.Nodup:=by decide +kernel)(e:N.take Q.length=Q:=by rfl)(f:∀x∈Q,s.names.lookup x=some .local\/s.names.lookup x=some .cell:=by decide +kernel)(g:∀y∈s.names,y.2≠ .free:=by decide +kernel):DP N Q s:=⟨a,b,c,d,e,f,g⟩
section
variable (P:zp)(w:zm)(K:AAB)(Z:Str->zt zx)(Y:zl)(n:Nat)
abbrev Cd:=Has P w K Z Y n "_law_draw" ["_law_tape_here","_law_many"] (Ci K 2 A9)
abbrev QG:=Has P w K Z Y n "_law_apart" ["_law_tape_here"] (Ci K 1 F__law_apart)
abbrev B5:=Has P w K Z Y n "_law_part" ["_law_top","_law_bottom"] (Ci K 2 As)
abbrev DS:=Has P w K Z Y n "_law_product" ["_law_one","_law_other"] (Ci K 2 At)
abbrev SC:=Has P w K Z Y n "_law_less" ["_law_one","_law_other"] (Ci K 2 A0)
abbrev UY:=Has P w K Z Y n "_law_off" ["_law_one","_law_other"] (Ci K 2 DY)
abbrev QH:=Has P w K Z Y n "_law_ratio" ["_law_one","_law_other"] (Ci K 2 ED)
abbrev EV:=Has P w K Z Y n "_law_sum" ["_law_one","_law_other"] (Ci K 2 Bc)
abbrev SJ:=Has P w K Z Y n "_law_spot" ["_law_plan_here","_law_m"] (Ci K 2 Em)
abbrev Hd:=Has P w K Z Y n "_law_corner_more" ["_law_plan_here"] (Ci K 1 Bb)
abbrev Fh:=Has P w K Z Y n "_law_place" ["_law_tape_here"] (Ci K 1 Az)
abbrev OE:=Has P w K Z Y n "_law_scaled" ["_law_flight","_law_long","_law_far"] (Ci K 3 Cv)
abbrev SL:=Has P w K Z Y n "_law_tape" ["_law_script","_law_k"] (Ci K 2 MN)
abbrev OD:=Has P w K Z Y n "_law_bounds" ["_law_tape_here"] (Ci K 1 CC)
abbrev SH:=Has P w K Z Y n "_law_span" ["_law_tape_here"] (Ci K 1 El)
abbrev SD:=Has P w K Z Y n "_law_plan" ["_law_tape_here"] (Ci K 1 Dy)
abbrev UZ:=Has P w K Z Y n "_law_two" ["_law_tape_here"] (Ci K 1 EM)
abbrev FP:=Has P w K Z Y n "before" ["one","other"] (Ci K 2 A0)
abbrev Mi:=Has P w K Z Y n "common" ["one","other"] (Ci K 2 FD)
abbrev Mj:=Has P w K Z Y n "part" ["top","bottom"] (Ci K 2 Fb)
abbrev Io:=Has P w K Z Y n "minus" ["one","other"] (Ci K 2 B6)
abbrev He:=Has P w K Z Y n "negative" ["number"] (Ci K 1 B7)
abbrev OF:=Has P w K Z Y n "is_one_time" ["one","other","s","t"] (Ci K 4 Cy)
abbrev Uc:=Has P w K Z Y n "is_there" ["plan","m"] (Ci K 2 Dc)
abbrev Hf:=Has P w K Z Y n "plus" ["one","other"] (Ci K 2 Bx)
abbrev Xj:=Has P w K Z Y n "size_of" ["apart","side"] (Ci K 2 Cn)
abbrev Ml:=Has P w K Z Y n "sizes_of" ["one","other","apart"] (Ci K 3 Df)
abbrev Ud:=Has P w K Z Y n "over" ["one","other"] (Ci K 2 GI)
abbrev WE:=Has P w K Z Y n "times" ["one","other"] (Ci K 2 Fc)
abbrev Mm:=Has P w K Z Y n "spot_between" ["former","latter","m"] (Ci K 3 DO)
abbrev Xk:=Has P w K Z Y n "spot_at" ["plan","m"] (Ci K 2 FG)
abbrev Xf:=Has P w K Z Y n "is_meet" ["one","other","apart","s","t"] (Ci K 5 Cm)
abbrev ck:=Has P w K Z Y n "later" ["plan","by"] (Ci K 2 LQ)
abbrev ZY:=Has P w K Z Y n "summed" ["one","many","other","more"] (Ci K 4 GJ)
abbrev Ov:=Has P w K Z Y n "crossed" ["low","high","at"] (Ci K 3 EG)
abbrev Ub:=Has P w K Z Y n "is_never" ["plane"] (Ci K 1 Db)
abbrev Ow:=Has P w K Z Y n "turn_of" ["plane","at"] (Ci K 2 DC)
abbrev QI:=Has P w K Z Y n "is_tighter" ["plane","other","at"] (Ci K 3 DN)
abbrev Mn:=Has P w K Z Y n "tightest" ["planes","at","sign"] (Ci K 3 CV)
abbrev Ua:=Has P w K Z Y n "fault_in" ["planes","at"] (Ci K 2 DZ)
abbrev SN:=Has P w K Z Y n "side_form" ["wedge","number"] (Ci K 2 BQ)
abbrev SQ:=Has P w K Z Y n "time_form" ["wedge","number"] (Ci K 2 D1)
abbrev Xe:=Has P w K Z Y n "form_of" ["wedge","number"] (Ci K 2 FE)
abbrev ZX:=Has P w K Z Y n "placed" ["plane","at","value"] (Ci K 3 Dz)
abbrev LD:=Has P w K Z Y n "shared_bottom" ["numbers"] (Ci K 1 CB)
abbrev Ue:=Has P w K Z Y n "plane_of" ["form","strict","number"] (Ci K 3 EN)
abbrev WF:=Has P w K Z Y n "whole" ["n"] (Ci K 1 Gv)
abbrev Mo:=Has P w K Z Y n "told_weights" ["weights"] (Ci K 1 CW)
abbrev Uf:=Has P w K Z Y n "range_in" ["planes","at"] (Ci K 2 EO)
abbrev Ug:=Has P w K Z Y n "value_in" ["planes","at"] (Ci K 2 CY)
abbrev Ip:=Has P w K Z Y n "weights_by_time" ["wedge"] (Ci K 1 Bn)
abbrev Xl:=T9 P w K Z Y n "without" ["planes","at","most"] 2 (Ci K 3 EI)
abbrev Xg:=Has P w K Z Y n "meet_in" ["wedge"] (Ci K 1 FF)
abbrev LC:=Has P w K Z Y n "piece_between" ["former","latter"] (Ci K 2 Bm)
abbrev SM:=Has P w K Z Y n "pieces_of" ["plan"] (Ci K 1 DB)
abbrev SU:=Has P w K Z Y n "wedges_of" ["one","other","apart"] (Ci K 3 DE)
abbrev Xh:=Has P w K Z Y n "meet_of" ["one","other","apart"] (Ci K 3 Bl)
abbrev Xi:=Has P w K Z Y n "put_off" ["plan","x","y","z"] (Ci K 4 Gu)
end
section
variable {P:zp}{w:zm}{K:AAB}{Z:Str->zt zx}{Y:zl}{n m:Nat}{f:zu}{U:FuncData}
theorem JD:DP ["_law_tape_here","_law_many","_law_once","_law_found"] ["_law_tape_here","_law_many"] (Aq Ev):=DR
theorem QX (F:Vm K "_law_draw" "_law_draw" Ev f U):Dg P w K Z Y MC (n+1) f U ["_law_tape_here","_law_many"] (Ci K 2 A9):=by
 have k:=JD.nd;refine F.ok JD (λvs H Q E h=> ?_) (λu A outer s H vs Q E J h=> ?_)
 .obtain ⟨T,M,xs,v,_,_,r,hl,_⟩:=h;rw[r.length,hl] <;> rfl
 obtain⟨T,M,xs,v,va,_,r,hl,hF,hQ⟩:=h;unfold A9 at hF;split at hF <;> first | exact hF.elim|skip
 rename_i m;obtain⟨⟨m0,m1⟩,hF⟩:=hF;cases r with
 | cons r j=>
 cases j with
 | cons y j=>
 cases j;cases y;cases r with
 | tape tp=>
 rename_i p;obtain⟨d,x,hp,l,z,B⟩:=va.tp p tp;refine⟨_,(Ch (aW (Qw fV (KZ Es (pv 0) BM (λ_ _=>rfl)) BM (Dk _)) (Ch (Hm (i:=3) k rfl (Or.inl rfl) (B2 Fk (KZ Es (pv 0) BM (λ_ _=>rfl)) (pv 1)))
  (Ch (Qt (B2 aB (KZ Es (pv 0) BM (λ_ _=>rfl)) (pv 1)) (U5 (pv 0) BM JF))
  (G1 (Qu (pv 3))))) Qv)
  (Ch (Qt (B2 Fk (B2 Hl (B2 Gy (KZ Es (pv 0) BM (λ_ _=>rfl)) BM) BM) BM) (U5 (pv 0) BM JF))
  (Ch (Hm (i:=2) k rfl (Or.inl rfl) (B2 Fk (B2 Gy (KZ Es (pv 0) BM (λ_ _=>rfl)) (B2 Hl (B2 Fk (KZ Es (pv 0) BM (λ_ _=>rfl)) BM) BM)) BM))
  (G1 (Qu (B2 Fk (B2 Fk (B2 Gy (pv 2) (B2 Hl (B2 Fk (pv 2) BM) BM)) BM) (pv 1))))))), ?_⟩
 have e:∀(r d' g:Int),0<=r->r<m->0<=d'->0<=g->g<2147483647->Q (.int r) (upd H p (.lst [.int d', .int g])):=λr d' g C D a b c=>
  hQ _ (.int r) T _ (bN va.tp tp a b c) (.int r) (hF r C D)
 refine⟨_,rfl,p,_,_,_,rfl,rfl,Fe.of hp,rfl,_,_,rfl,rfl,_,rfl, ?_⟩;refine lv (λc=> ?_) (λc=> ?_)
 .refine ⟨_,rfl,p,_,_,_,rfl,rfl,Fe.of hp,rfl,_,rfl,_,_,rfl,rfl,m0, ?_⟩;refine⟨_,rfl,p,_,_,_,rfl,rfl,Fe.of hp,rfl,_,rfl,_,_,rfl,rfl,⟨m0,by omega⟩, ?_⟩;refine⟨_,rfl,p,_,_,_,rfl,rfl,hp,rfl, ?_⟩;exact⟨_,rfl,e _ _ _ (ACg _ (by omega)) (ACh _ m0) (Int.ediv_nonneg l (by omega)) z B⟩
 .refine ⟨_,rfl,p,_,_,_,rfl,rfl,Fe.of hp,rfl,_,_,rfl,rfl, .inl (.inr ⟨by decide,by decide⟩),_,_,rfl,rfl,_,_,rfl,rfl,(show (0:Int)<2147483647 by decide), ?_⟩;refine⟨_,rfl,p,_,_,_,rfl,rfl,hp,rfl, ?_⟩;have o:0<=(x*48271+12345) % 2147483647:=ACg _ (by decide);have y1:(x*48271+12345) % 2147483647<2147483647:=ACh _ (by decide);have t:upd H p (.lst ([V.int d,V.int x].set (Int.toNat 1) (V.int ((x*48271+12345) % 2147483647)))) p=some (.lst [.int d, .int ((x*48271+12345) % 2147483647)]):=Ah;have G:0<=(x*48271+12345) % 2147483647*((x*48271+12345) % 2147483647 % 1009+3) % 2147483629:=ACg _ (by decide);have I:(x*48271+12345) % 2147483647*((x*48271+12345) % 2147483647 % 1009+3) % 2147483629<2147483629:=ACh _ (by decide);refine⟨_,rfl,p,_,_,_,rfl,rfl,Fe.of t,rfl,_,rfl,p,_,_,_,rfl,rfl,Fe.of t,rfl,_,_,rfl,rfl,(show (0:Int)<1009 by decide),_,_,rfl,rfl,_,_,rfl,rfl, .inl (.inl (NU o y1)),_,_,rfl,rfl,(show (0:Int)<2147483629 by decide), ?_⟩;refine⟨_,rfl,_,rfl,_,_,rfl,rfl,(show (0:Int)<997 by decide),_,_,rfl,rfl,_,_,rfl,rfl, .inl (.inl (NU G (Int.lt_trans I (by decide)))),_,_,rfl,rfl,(show (0:Int)<998244353 by decide),_,rfl,_,_,rfl,rfl,m0, ?_⟩;exact e _ _ _ (ACg _ (by omega)) (ACh _ m0) l o y1
theorem DW {P:zp}{w:zm}{K:AAB}{Z:Str->zt zx}{Y:zl}{x q:Str}{st:Stmt}{f:zu}{U:FuncData}{N:zy Str}{k n:Nat}{b:AS}(F:Vm K x q st f U)(S:DP N (N.take n) (Aq st))(a:n=(N.take n).length)(h:∀(v:zx) (A:zk) (o:zy Env) (s:zw) (H:Hp) (E:XK),Room k (A.deeper (envOfC q (Aq st) s.heap.objs.size f v))->N.Nodup->XG (OB MC P w K Z Y N q (Aq st) f v A o s H E).nox (B8 st) b):Dg P w K Z Y MC (k+1) f U (N.take n) (Ci K n (Ap N.length b)):=
 ca F S a λv A o s H E r=>h v A o s H E r S.nd
abbrev Z1 (K:AAB)(x:Str)(s:Stmt)(f:zu)(d:FuncData):=Vm K x x s f d
abbrev Z2 (P:zp)(w:zm)(K:AAB)(Z:Str->zt zx)(b:zl)(n:Nat)(f:zu)(d:FuncData)(N:zy Str)(k:Nat)(F:AF):=Dg P w K Z b MC (n+1) f d (N.take k) (Ci K k F)
theorem OI (F:Z1 K "_law_apart" Fo f U)(a:Cd P w K Z Y n):Z2 P w K Z Y n f U ["_law_tape_here","_law_some"] 1 F__law_apart:=DW F DR rfl λ_ _ _ _ _ _ b c=>(AM (Dw 1 c (Eb (Cs (A4 (AW (Aj AH AH)) (A4 (AW (Aj AH AH)) (DL (AW (Aj AH AH)) (AW (Aj AH AH)) (AW (Aj AH AH)))))))) (AR (AY (AW (Aj (AU (AJ 1) (AK a b rfl (Aj (AJ 0) AH))) (AU (AJ 1) (AK a b rfl (Aj (AJ 0) AH))))))))
theorem QZ (F:Z1 K "_law_part" GY f U)(b:Z "abs" =none)(c:Z "int" =none):Z2 P w K Z Y n f U ["_law_top","_law_bottom","_law_sign","_law_one","_law_other"] 2 As:=DW F DR rfl λ_ _ _ _ _ _ _ a=>(AM (VU (i:=3) (j:=4) rfl a rfl rfl (by decide) rfl rfl (Aj (B3 NK rfl b boot_abs (Bt (AJ 0))) (B3 NK rfl b boot_abs (Bt (AJ 1)))) rfl) (AM (NY AAX (HM JI (AJ 4) AH) (AR (VU (i:=3) (j:=4) rfl a rfl rfl (by decide) rfl rfl (Aj (AJ 4) (Ae VS (AJ 3) (AJ 4))) rfl))) (AM (Dw 2 a (Ae Dp AH (Ae BB AH (BN jL rfl c boot_int (Bt (Fu Gi (AJ 1) AH (Dk _))))))) (AR (AY (AW (Aj (Ae Ex (Ae BB (AJ 2) (AJ 0)) (AJ 3)) (Ae Ex (Ae BB (AJ 2) (AJ 1)) (AJ 3)))))))))
theorem LH (F:Z1 K "_law_product" EY f U)(a:B5 P w K Z Y n):Z2 P w K Z Y n f U ["_law_one","_law_other"] 2 At:=DW F DR rfl λ_ _ _ _ _ _ b _=>(AR (AY (AK a b rfl (Aj (Ae BB (AU (AJ 0) AH) (AU (AJ 1) AH)) (Ae BB (AU (AJ 0) AH) (AU (AJ 1) AH))))))
theorem QY (F:Z1 K "_law_less" GX f U):Z2 P w K Z Y n f U ["_law_one","_law_other"] 2 A0:=DW F DR rfl λ_ _ _ _ _ _ _ _=>(AR (AY (Fu Gi (Ae BB (AU (AJ 0) AH) (AU (AJ 1) AH)) (Ae BB (AU (AJ 1) AH) (AU (AJ 0) AH)) (Dk _))))
theorem Sm (F:Z1 K "_law_off" Ho f U)(a:B5 P w K Z Y n):Z2 P w K Z Y n f U ["_law_one","_law_other"] 2 DY:=DW F DR rfl λ_ _ _ _ _ _ b _=>(AR (AY (AK a b rfl (Aj (Ae Dp (Ae BB (AU (AJ 0) AH) (AU (AJ 1) AH)) (Ae BB (AU (AJ 1) AH) (AU (AJ 0) AH))) (Ae BB (AU (AJ 0) AH) (AU (AJ 1) AH))))))
theorem OL (F:Z1 K "_law_ratio" Fq f U)(a:B5 P w K Z Y n):Z2 P w K Z Y n f U ["_law_one","_law_other"] 2 ED:=DW F DR rfl λ_ _ _ _ _ _ b _=>(AR (AY (AK a b rfl (Aj (Ae BB (AU (AJ 0) AH) (AU (AJ 1) AH)) (Ae BB (AU (AJ 0) AH) (AU (AJ 1) AH))))))
theorem Sn (F:Z1 K "_law_sum" Hq f U)(a:B5 P w K Z Y n):Z2 P w K Z Y n f U ["_law_one","_law_other"] 2 Bc:=DW F DR rfl λ_ _ _ _ _ _ b _=>(AR (AY (AK a b rfl (Aj (Ae BG (Ae BB (AU (AJ 0) AH) (AU (AJ 1) AH)) (Ae BB (AU (AJ 1) AH) (AU (AJ 0) AH))) (Ae BB (AU (AJ 0) AH) (AU (AJ 1) AH))))))
theorem Qc (F:Z1 K "_law_spot" Gb f U)(c:SC P w K Z Y n)(d:UY P w K Z Y n)(h:DS P w K Z Y n)(j:QH P w K Z Y n)(k:EV P w K Z Y n)(l:Z "range" =none)(o:Z "tuple" =none)(p:Z "zip" =none):Z2 P w K Z Y n f U ["_law_plan_here","_law_m","_law_one","_law_other","_law_share","_law_gone"] 2 Em:=by
 have e:(["_law_k","_law_share","_law_other","_law_one"] :zy Str).Nodup:=by decide +kernel
 have g:(["_law_k","_law_one","_law_gone"] :zy Str).Nodup:=by decide +kernel
 exact DW F DR rfl λ_ _ _ _ _ _ a b=>(AM (BV (YL (TY (CA (AK c a rfl (Aj (AJ 1) (AU (AU (AJ 0) AH) AH)))) (RS (CA (AK c a rfl (Aj (AU (AU (AJ 0) (Fv AH)) AH) (AJ 1))))))) (AR (AY CJ)) BC) (AM (CK AAX rfl (d8 rfl p (Aj (AJ 0) (F5 (AJ 0) (Yj AH) Yi))) (B9 (n:=2) rfl (Aa (JG (i:=2) b rfl (Or.inr rfl)) (Aa (JG (i:=3) b rfl (Or.inr rfl)) BZ))) (AR (BV (Ef (CA (AK c a rfl (Aj (AU (AJ 3) AH) (AJ 1))))) (AM (C9 (i:=4) b rfl (Or.inr rfl) (AK j a rfl (Aj (AK d a rfl (Aj (AJ 1) (AU (AJ 2) AH))) (AK d a rfl (Aj (AU (AJ 3) AH) (AU (AJ 2) AH)))))) (AM (C9 (i:=5) b rfl (Or.inr rfl) (Eb (CQ rfl (Ec (AW (DL AH AH AH))) (Bk (own:=1) (ix:= [4,3,2]) (N:= ["_law_k","_law_share" ,"_law_other" ,"_law_one" ]) rfl rfl rfl rfl rfl rfl (λ_ _ _ _ _ _=>(IC 0 e)) (λ_ _ _ _ _ _=>Ba) (λ_ _ _ _ _ _=>(AK h a rfl (Aj (AJ 1) (AK d a rfl (Aj (AU (AJ 2) (AJ 0)) (AU (AJ 3) (AJ 0))))))))))) (AR (AY (BN Bq rfl o AAt (Bt (Eb (CQ rfl (Kb rfl l (Bt AH)) (Bk (own:=1) (ix:= [2,5]) (N:= ["_law_k","_law_one" ,"_law_gone" ]) rfl rfl rfl rfl rfl rfl (λ_ _ _ _ _ _=>(IC 0 g)) (λ_ _ _ _ _ _=>Ba) (λ_ _ _ _ _ _=>(AK k a rfl (Aj (AU (AJ 1) (Ae BG (AJ 0) AH)) (AU (AJ 2) (AJ 0)))))))))))))) BC))) (AR (AY CJ))))
theorem G7 (F:Z1 K "_law_corner_more" C7 f U)(b:DS P w K Z Y n)(c:SJ P w K Z Y n)(d:EV P w K Z Y n):Z2 P w K Z Y n f U ["_law_plan_here","_law_middle"] 1 Bb:=DW F DR rfl λ_ _ _ _ _ _ a e=>(AM (Dw 1 e (AK b a rfl (Aj (AW (Aj AH AH)) (AK d a rfl (Aj (AU (AU (AJ 0) AH) AH) (AU (AU (AJ 0) AH) AH)))))) (AR (AY (Ae BG (Ae BG (F5 (AJ 0) Yi (Yj AH)) (AW (Bt (Ae BG (AW (Bt (AJ 1))) (AK c a rfl (Aj (AJ 0) (AJ 1))))))) (F5 (AJ 0) (Yj AH) Yi)))))
theorem OJ (F:Z1 K "_law_place" Fp f U)(b:Cd P w K Z Y n)(c:B5 P w K Z Y n):Z2 P w K Z Y n f U ["_law_tape_here","_law_kind"] 1 Az:=DW F DR rfl λ_ _ _ _ _ _ a d=>(AM (Dw 1 d (AK b a rfl (Aj (AJ 0) AH))) (AM (BV (HM Gi (AJ 1) AH) (AR (AY (AW (Aj (Ae Dp (AK b a rfl (Aj (AJ 0) AH)) AH) AH)))) BC) (AM (BV (HM (Gh a) (AJ 1) AH) (AR (AY (AK c a rfl (Aj (Ae Dp (AK b a rfl (Aj (AJ 0) AH)) AH) AH)))) BC) (AR (AY (AK c a rfl (Aj (Ae Dp (AK b a rfl (Aj (AJ 0) AH)) AH) AH)))))))
theorem M4 (F:Z1 K "_law_scaled" FA f U)(a:DS P w K Z Y n)(e:Z "tuple" =none):Z2 P w K Z Y n f U ["_law_flight","_law_long","_law_far","_law_corners","_law_one","_law_aside","_law_above","_law_late"] 3 Cv:=by
 have d:(["_law_number","_law_far"] :zy Str).Nodup:=by decide +kernel
 exact DW F DR rfl λ_ _ _ _ _ _ b c=>(AM (ID (i:=3) c rfl (Or.inl rfl) (Cs IB)) (AM (CK AAX rfl (Ec (AU (AJ 0) AH)) (Dm 4 c) (AR (E1 (i:=3) ABi ABj DG (Bt (Ae BG (AW (Bt (AK a b rfl (Aj (AU (AJ 4) AH) (AJ 1))))) (BN Bq rfl e AAt (Bt (Eb (CQ rfl (Ec (F5 (AJ 4) (Yj AH) Yi)) (Bk (own:=1) (ix:= [2]) (N:= ["_law_number","_law_far" ]) rfl rfl rfl rfl rfl rfl (λ_ _ _ _ _ _=>(IC 0 d)) (λ_ _ _ _ _ _=>Ba) (λ_ _ _ _ _ _=>(AK a b rfl (Aj (AJ 1) (AJ 0)))))))))))))) (AM (EB (AU (AJ 0) AH) (B9 (n:=3) rfl (Aa (Dm 5 c) (Aa (Dm 6 c) (Aa (Dm 7 c) BZ))))) (AR (AY (AW (Aj (BN Bq rfl e AAt (Bt (AJ 3))) (AW (DL (AK a b rfl (Aj (AJ 2) (AJ 5))) (AK a b rfl (Aj (AJ 2) (AJ 6))) (AK a b rfl (Aj (AJ 1) (AJ 7))))))))))))
theorem JE:DP ["_law_script","_law_k","_law_cell","_law_digits"] ["_law_script","_law_k"] (Aq Ew):=DR
theorem Qe (F:Vm K "_law_tape" "_law_tape" Ew f U)(j:Z "abs" =none)(o:Z "int" =none)(t:Z "len" =none):Dg P w K Z Y MC (n+1) f U ["_law_script","_law_k"] (Ci K 2 MN):=by
 have e:=JE.nd;refine F.ok JE (λvs H Q E h=> ?_) (λu A outer s H vs Q E z h=> ?_)
 .obtain ⟨T,M,xs,v,_,_,r,hl,_⟩:=h;rw[r.length,hl] <;> rfl
 obtain⟨T,M,xs,v,va,_,r,hl,hF,hQ⟩:=h;unfold MN at hF;split at hF <;> first | exact hF.elim|skip
 rename_i ns k;obtain⟨⟨B,C⟩,hF⟩:=hF;cases r with
 | cons r g=>
 cases g with
 | cons x g=>
 cases g;cases x;obtain⟨a,rfl,l⟩:=am r;refine⟨_,(Ch (Hm (i:=2) e rfl (Or.inl rfl) BM)
  (Ch (aW (Qw fW (pv 1) (GS Ie rfl t AB4 (Du (pv 0) Fn)) (Dk _)) (G1 (Hm (i:=2) e rfl (Or.inl rfl) (KZ Es (pv 0) (pv 1) (λ_ _=>rfl)))) Qv)
  (Ch (Hm (i:=3) e rfl (Or.inl rfl) (B2 Gy (GS MU rfl j boot_abs (Du (pv 2) Fn)) (Gz Oo rfl o PyProof.Rows.boot_int (Du (Wc mK (GS MU rfl j boot_abs (Du (pv 2) Fn)) (B2 aE BM BM) (Dk _)) Fn))))
  (G1 (Qu (aK (Du (pv 3) (Du (B2 Fk (B2 Gy (B2 Fk (B2 Hl (B2 Hl (pv 2) (B2 Gy BM (pv 1))) BM) BM) BM) BM) Fn)))))))), ?_⟩
 have hl:(ns.map V.int).length=ns.length:=AAL _;have d:∀(c:Int) (p:zu),H p=none->Q (.ref p) (upd H p (.lst [.int ((if c<0 then -c else c)*(if decide ((10:Int)^18<=(if c<0 then -c else c)) then 1 else 0)), .int ((c+7919*k+1) % 2147483647*48271 % 2147483647)])):=λc p hp=>
  hQ _ .tape (λb=>T b\/b=p) _ (bM va.tp hp (Int.mul_nonneg (by split <;> omega) (vz _)) (ACg _ (by decide)) (ACh _ (by decide))) (.tape (.inr rfl)) hF
 refine⟨_,rfl,_,rfl,a,_,rfl, .inl l,_,_,rfl,rfl,_,rfl, ?_⟩;refine lv (λc=> ?_) (λc=> ?_)
 .have y:k<(((ns.map V.int).length:Nat):Int):=AAr c;rw[hl] at y;have hk:k.toNat<ns.length:=by omega
  have hv:II (ns.map V.int) k=some (.int ns[k.toNat]):=by
   have q:II (ns.map V.int) ((k.toNat:Nat):Int)=some (.int ns[k.toNat]):=Co (by rw[AAl,AAd hk] <;> rfl)
   rwa [show ((k.toNat:Nat):Int)=k by omega] at q
  refine⟨_,rfl,_,rfl,a,_,_,_,rfl,rfl,l,hv, ?_⟩;refine⟨_,rfl,_,rfl,_,rfl,_,rfl,_,_,rfl,rfl,⟨by decide,by decide,by decide⟩,_,_,rfl,rfl, .inr ⟨_,rfl,_,_,rfl,rfl, .inl (.inr (tG _)), ?_⟩⟩;exact⟨_,rfl,_,rfl,_,rfl,_,_,rfl,rfl, .inl (.inl ⟨by decide,by decide⟩),_,_,rfl,rfl,_,_,rfl,rfl,_,_,rfl,rfl,(show (0:Int)<2147483647 by decide),_,_,rfl,rfl, .inl (.inr ⟨by decide,by decide⟩),_,_,rfl,rfl,(show (0:Int)<2147483647 by decide),(show 2<=sizeLine by decide),λp hp=>d _ p hp⟩
 .refine ⟨_,rfl,_,rfl,_,rfl,_,rfl,_,_,rfl,rfl,⟨by decide,by decide,by decide⟩,_,_,rfl,rfl, .inr ⟨_,rfl,_,_,rfl,rfl, .inl (.inr (tG _)), ?_⟩⟩;exact⟨_,rfl,_,rfl,_,rfl,_,_,rfl,rfl, .inl (.inl ⟨by decide,by decide⟩),_,_,rfl,rfl,_,_,rfl,rfl,_,_,rfl,rfl,(show (0:Int)<2147483647 by decide),_,_,rfl,rfl, .inl (.inr ⟨by decide,by decide⟩),_,_,rfl,rfl,(show (0:Int)<2147483647 by decide),(show 2<=sizeLine by decide),λp hp=>d 0 p hp⟩
theorem M3 (F:Z1 K "_law_bounds" E9 f U)(b:Cd P w K Z Y n):Z2 P w K Z Y n f U ["_law_tape_here","_law_some"] 1 CC:=DW F DR rfl λ_ _ _ _ _ _ a c=>(AM (Dw 1 c (Eb (Cs (A4 (AW (Aj AH AH)) (A4 (AW (Aj AH AH)) (A4 (AW (Aj AH AH)) (DL (AW (Aj AH AH)) (AW (Aj AH AH)) (AW (Aj AH AH))))))))) (AM (BV (HM (Gh a) (AK b a rfl (Aj (AJ 0) AH)) AH) (AR (AY (AW (DL (AW (Aj AH AH)) (AW (Aj AH AH)) (AW (Aj AH AH)))))) BC) (AR (AY (AW (DL (AU (AJ 1) (AK b a rfl (Aj (AJ 0) AH))) (AU (AJ 1) (AK b a rfl (Aj (AJ 0) AH))) (AU (AJ 1) (AK b a rfl (Aj (AJ 0) AH)))))))))
theorem Qb (F:Z1 K "_law_span" Ga f U)(b:Cd P w K Z Y n)(c:B5 P w K Z Y n):Z2 P w K Z Y n f U ["_law_tape_here","_law_way"] 1 El:=DW F DR rfl λ_ _ _ _ _ _ a d=>(AM (Dw 1 d (AK b a rfl (Aj (AJ 0) AH))) (AM (BV (HM Gi (AJ 1) AH) (AR (AY (AW (Aj (Ae BG AH (AK b a rfl (Aj (AJ 0) AH))) AH)))) BC) (AR (AY (AK c a rfl (Aj (Ae BG AH (AK b a rfl (Aj (AJ 0) AH))) (Ae Dp (AJ 1) AH)))))))
theorem Qa (F:Z1 K "_law_plan" GZ f U)(d:Cd P w K Z Y n)(c:Fh P w K Z Y n)(e:SH P w K Z Y n)(g:EV P w K Z Y n)(h:Z "len" =none)(j:Z "tuple" =none):Z2 P w K Z Y n f U ["_law_tape_here","_law_many","_law_m","_law_spot_here","_law_corners","_law_way"] 1 Dy:=DW F DR rfl λ_ _ _ _ _ _ a b=>(AM (Dw 1 b (Ae BG AH (AK d a rfl (Aj (AJ 0) AH)))) (AM (BV (HM (Gh a) (AK d a rfl (Aj (AJ 0) AH)) AH) (AR (Dw 1 b (Ae BG AH (AK d a rfl (Aj (AJ 0) AH))))) BC) (AM (Dw 2 b (AW (Aj (AK d a rfl (Aj (AJ 0) AH)) AH))) (AM (Dw 3 b (Eb (Cs (DL (AK c a rfl (Bt (AJ 0))) (AK c a rfl (Bt (AJ 0))) (AK c a rfl (Bt (AJ 0))))))) (AM (ID (i:=4) b rfl (Or.inl rfl) (Cs (Bt (AW (A4 (AJ 2) (DL (AU (AJ 3) AH) (AU (AJ 3) AH) (AU (AJ 3) AH))))))) (AM (NY AAX (HM Gi (B3 NL rfl h AB4 (Bt (AJ 4))) (AJ 1)) (AM (Dw 2 b (AK g a rfl (Aj (AJ 2) (AK e a rfl (Bt (AJ 0)))))) (AM (Dw 5 b (AK d a rfl (Aj (AJ 0) AH))) (AM (BV (HM JI (AJ 5) AH) (AR (Dw 3 b (Eb (Cs (DL (AK c a rfl (Bt (AJ 0))) (AK c a rfl (Bt (AJ 0))) (AK c a rfl (Bt (AJ 0)))))))) (AR (BV (HM JI (AJ 5) AH) (AR (Dw 3 b (Ae BG (Ae BG (F5 (AJ 3) Yi (Yj (Ae Dp (AJ 5) AH))) (Eb (Cs (Bt (AK c a rfl (Bt (AJ 0))))))) (F5 (AJ 3) (Yj (AJ 5)) Yi)))) BC))) (AR (E1 (i:=4) ABi ABj DG (Bt (AW (A4 (AJ 2) (DL (AU (AJ 3) AH) (AU (AJ 3) AH) (AU (AJ 3) AH))))))))))) (AR (AY (BN Bq rfl j AAt (Bt (AJ 4)))))))))))
theorem So (F:Z1 K "_law_two" Hr f U)(g:OD P w K Z Y n)(c:Cd P w K Z Y n)(p:B5 P w K Z Y n)(h:Fh P w K Z Y n)(j:SD P w K Z Y n)(k:EV P w K Z Y n)(r:Z "len" =none)(l:Z "range" =none)(o:Z "tuple" =none):Z2 P w K Z Y n f U ["_law_tape_here","_law_plan_here","_law_other","_law_late","_law_by","_law_off_here","_law_corners","_law_one"] 1 EM:=by
 have d:(["_law_k","_law_by","_law_tape_here"] :zy Str).Nodup:=by decide +kernel
 have e:(["_law_k","_law_one","_law_off_here"] :zy Str).Nodup:=by decide +kernel
 exact DW F DR rfl λ_ _ _ _ _ _ a b=>(AM (Dw 1 b (AK j a rfl (Bt (AJ 0)))) (AM (Dw 2 b (AK j a rfl (Bt (AJ 0)))) (AM (BV (HM (Gh a) (AK c a rfl (Aj (AJ 0) AH)) AH) (AM (Dw 3 b (AU (Eb (Cs (DL (AW (Aj (AK c a rfl (Aj (AJ 0) AH)) AH)) (AW (Aj AH AH)) (AK p a rfl (Aj (AK c a rfl (Aj (AJ 0) AH)) AH))))) (AK c a rfl (Aj (AJ 0) AH)))) (AM (C9 (i:=4) b rfl (Or.inr rfl) (Eb (Cs (A4 (AK h a rfl (Bt (AJ 0))) (A4 (AW (Aj AH AH)) (A4 (AK h a rfl (Bt (AJ 0))) (DL (AW (Aj AH AH)) (AW (Aj AH AH)) (AW (Aj (AK c a rfl (Aj (AJ 0) AH)) AH))))))))) (AM (C9 (i:=5) b rfl (Or.inr rfl) (Eb (CQ rfl (Kb rfl l (Bt AH)) (Bk (own:=1) (ix:= [4,0]) (N:= ["_law_k","_law_by" ,"_law_tape_here" ]) rfl rfl rfl rfl rfl rfl (λ_ _ _ _ _ _=>(IC 0 d)) (λ_ _ _ _ _ _=>Ba) (λ_ _ _ _ _ _=>(AU (AJ 1) (AK c a rfl (Aj (AJ 2) AH)))))))) (AM (ID (i:=6) b rfl (Or.inl rfl) (Cs IB)) (AM (CK AAX rfl (Ec (AJ 1)) (JG (i:=7) b rfl (Or.inr rfl)) (AR (E1 (i:=6) ABi ABj DG (Bt (Ae BG (AW (Bt (AK k a rfl (Aj (AU (AJ 7) AH) (AJ 3))))) (BN Bq rfl o AAt (Bt (Eb (CQ rfl (Kb rfl l (Bt AH)) (Bk (own:=1) (ix:= [7,5]) (N:= ["_law_k","_law_one" ,"_law_off_here" ]) rfl rfl rfl rfl rfl rfl (λ_ _ _ _ _ _=>(IC 0 e)) (λ_ _ _ _ _ _=>Ba) (λ_ _ _ _ _ _=>(AK k a rfl (Aj (AU (AJ 1) (Ae BG (AJ 0) AH)) (AU (AJ 2) (AJ 0))))))))))))))) (AR (Dw 2 b (jP (BN Bq rfl o AAt (Bt (AJ 6))))))))))) BC) (AM (BV (HM JI (B3 NL rfl r AB4 (Bt (AJ 1))) AH) (AR (Dw 2 b (F5 (AJ 2) Yi (Yj AH)))) BC) (AR (AY (AW (Aj (AW (Aj (AJ 1) (AK g a rfl (Bt (AJ 0))))) (AW (Aj (AJ 2) (AK g a rfl (Bt (AJ 0)))))))))))))
theorem X5 (F:Z1 K "before" NF f U):Z2 P w K Z Y n f U ["one","other"] 2 A0:=DW F DR rfl λ_ _ _ _ _ _ _ _=>(AR (AY (Fu Gi (Ae BB (AU (AJ 0) AH) (AU (AJ 1) AH)) (Ae BB (AU (AJ 1) AH) (AU (AJ 0) AH)) (Dk _))))
theorem X6 (F:Z1 K "common" NG f U):Z2 P w K Z Y n f U ["one","other"] 2 FD:=DW F DR rfl λ_ _ _ _ _ _ a b=>(AM (NY AAX (HM (az a) (AJ 1) AH) (AR (VU (i:=0) (j:=1) rfl b rfl rfl (by decide) rfl rfl (Aj (AJ 1) (Ae VS (AJ 0) (AJ 1))) rfl))) (AR (AY (AJ 0))))
theorem dF (F:Z1 K "part" VE f U)(c:Mi P w K Z Y n)(a:Z "abs" =none):Z2 P w K Z Y n f U ["top","bottom","shared"] 2 Fb:=DW F DR rfl λ_ _ _ _ _ _ d b=>(AM (Dw 2 b (AK c d rfl (Aj (B3 NK rfl a boot_abs (Bt (AJ 0))) (B3 NK rfl a boot_abs (Bt (AJ 1)))))) (AM (BV (HM Gi (AJ 1) AH) (AR (Dw 2 b (Fv (AJ 2)))) BC) (AR (AY (AW (Aj (Ae Ex (AJ 0) (AJ 2)) (Ae Ex (AJ 1) (AJ 2))))))))
theorem Z5 (F:Z1 K "minus" RD f U)(a:Mj P w K Z Y n):Z2 P w K Z Y n f U ["one","other"] 2 B6:=DW F DR rfl λ_ _ _ _ _ _ b _=>(AR (AY (AK a b rfl (Aj (Ae Dp (Ae BB (AU (AJ 0) AH) (AU (AJ 1) AH)) (Ae BB (AU (AJ 1) AH) (AU (AJ 0) AH))) (Ae BB (AU (AJ 0) AH) (AU (AJ 1) AH))))))
theorem Sw (F:Z1 K "negative" Hv f U):Z2 P w K Z Y n f U ["number"] 1 B7:=DW F DR rfl λ_ _ _ _ _ _ _ _=>(AR (AY (AW (Aj (Fv (AU (AJ 0) AH)) (AU (AJ 0) AH)))))
theorem M5 (F:Z1 K "is_one_time" FB f U)(b:FP P w K Z Y n)(c:Io P w K Z Y n)(d:He P w K Z Y n):Z2 P w K Z Y n f U ["one","other","s","t","ahead"] 4 Cy:=DW F DR rfl λ_ _ _ _ _ _ a e=>(AM (Dw 4 e (AK c a rfl (Aj (AJ 2) (AJ 3)))) (AR (AY (VI (VJ (AK b a rfl (Aj (AJ 4) (AK d a rfl (Bt (AU (AU (AJ 0) AH) AH)))))) (RG (VJ (AK b a rfl (Aj (AU (AU (AJ 1) AH) AH) (AJ 4)))))))))
theorem Sv (F:Z1 K "is_there" Hu f U)(a:FP P w K Z Y n):Z2 P w K Z Y n f U ["plan","m"] 2 Dc:=DW F DR rfl λ_ _ _ _ _ _ b _=>(AR (AY (VI (VJ (AK a b rfl (Aj (AJ 1) (AU (AU (AJ 0) AH) AH)))) (RG (AK a b rfl (Aj (AJ 1) (AU (AU (AJ 0) (Fv AH)) AH)))))))
theorem dG (F:Z1 K "plus" VF f U)(a:Mj P w K Z Y n):Z2 P w K Z Y n f U ["one","other"] 2 Bx:=DW F DR rfl λ_ _ _ _ _ _ b _=>(AR (AY (AK a b rfl (Aj (Ae BG (Ae BB (AU (AJ 0) AH) (AU (AJ 1) AH)) (Ae BB (AU (AJ 1) AH) (AU (AJ 0) AH))) (Ae BB (AU (AJ 0) AH) (AU (AJ 1) AH))))))
theorem U1 (F:Z1 K "size_of" J6 f U):Z2 P w K Z Y n f U ["apart","side"] 2 Cn:=DW F DR rfl λ_ _ _ _ _ _ a _=>(AR (AY (Wm (HM (Gh a) (AJ 1) AH) (AU (AJ 0) AH) (AU (AJ 0) AH))))
theorem Sz (F:Z1 K "sizes_of" Hy f U)(d:Hf P w K Z Y n)(b:Xj P w K Z Y n)(e:Z "range" =none):Z2 P w K Z Y n f U ["one","other","apart","told","side","asides"] 3 Df:=DW F DR rfl λ_ _ _ _ _ _ a c=>(AM (ID (i:=3) c rfl (Or.inl rfl) (Cs IB)) (AM (CK AAX rfl (Kb rfl e (Bt AH)) (Dm 4 c) (AM (Dw 5 c (AK d a rfl (Aj (AK b a rfl (Aj (AU (AJ 0) AH) (AJ 4))) (AK b a rfl (Aj (AU (AJ 1) AH) (AJ 4)))))) (AR (E1 (i:=3) ABi ABj DG (Bt (AK d a rfl (Aj (AK b a rfl (Aj (AJ 2) (AJ 4))) (AJ 5)))))))) (AR (AY (AJ 3)))))
theorem dE (F:Z1 K "over" VD f U)(a:Mj P w K Z Y n):Z2 P w K Z Y n f U ["one","other"] 2 GI:=DW F DR rfl λ_ _ _ _ _ _ b _=>(AR (AY (AK a b rfl (Aj (Ae BB (AU (AJ 0) AH) (AU (AJ 1) AH)) (Ae BB (AU (AJ 0) AH) (AU (AJ 1) AH))))))
theorem Z6 (F:Z1 K "times" RE f U)(a:Mj P w K Z Y n):Z2 P w K Z Y n f U ["one","other"] 2 Fc:=DW F DR rfl λ_ _ _ _ _ _ b _=>(AR (AY (AK a b rfl (Aj (Ae BB (AU (AJ 0) AH) (AU (AJ 1) AH)) (Ae BB (AU (AJ 0) AH) (AU (AJ 1) AH))))))
theorem LI (F:Z1 K "spot_between" EZ f U)(c:Io P w K Z Y n)(d:Ud P w K Z Y n)(e:Hf P w K Z Y n)(g:WE P w K Z Y n)(h:Z "tuple" =none)(j:Z "zip" =none):Z2 P w K Z Y n f U ["former","latter","m","share"] 3 DO:=by
 have b:(["low","high","share"] :zy Str).Nodup:=by decide +kernel
 exact DW F DR rfl λ_ _ _ _ _ _ a k=>(AM (C9 (i:=3) k rfl (Or.inr rfl) (AK d a rfl (Aj (AK c a rfl (Aj (AJ 2) (AU (AJ 0) AH))) (AK c a rfl (Aj (AU (AJ 1) AH) (AU (AJ 0) AH)))))) (AR (AY (BN Bq rfl h AAt (Bt (Eb (CQ rfl (d8 rfl j (Aj (F5 (AJ 0) (Yj AH) Yi) (F5 (AJ 1) (Yj AH) Yi))) (Bk (own:=2) (ix:= [3]) (N:= ["low","high" ,"share" ]) rfl rfl rfl rfl rfl rfl (λ_ _ _ _ _ _=>(NP (n:=2) rfl (Br (IC 0 b) (Br (IC 1 b) JH)))) (λ_ _ _ _ _ _=>Ba) (λ_ _ _ _ _ _=>(AK e a rfl (Aj (AJ 0) (AK g a rfl (Aj (AJ 2) (AK c a rfl (Aj (AJ 1) (AJ 0))))))))))))))))
theorem U2 (F:Z1 K "spot_at" J7 f U)(b:FP P w K Z Y n)(c:Mm P w K Z Y n)(d:Z "len" =none)(e:Z "range" =none):Z2 P w K Z Y n f U ["plan","m","at"] 2 FG:=DW F DR rfl λ_ _ _ _ _ _ a g=>(AM (BV (CA (AK b a rfl (Aj (AJ 1) (AU (AU (AJ 0) AH) AH)))) (AR (AY CJ)) BC) (AM (CK AAX rfl (nL rfl e (Aj AH (B3 NL rfl d AB4 (Bt (AJ 0))))) (Dm 2 g) (AR (BV (Ef (CA (AK b a rfl (Aj (AU (AU (AJ 0) (AJ 2)) AH) (AJ 1))))) (AR (AY (AK c a rfl (DL (AU (AJ 0) (Ae Dp (AJ 2) AH)) (AU (AJ 0) (AJ 2)) (AJ 1))))) BC))) (AR (AY CJ))))
theorem Ux (F:Z1 K "is_meet" J2 f U)(e:FP P w K Z Y n)(g:OF P w K Z Y n)(c:Uc P w K Z Y n)(h:Io P w K Z Y n)(i:Ml P w K Z Y n)(d:Xk P w K Z Y n)(j:Z "abs" =none)(k:Z "zip" =none):Z2 P w K Z Y n f U ["one","other","apart","s","t","here","there","size","top","bottom"] 5 Cm:=DW F DR rfl λ_ _ _ _ _ _ a b=>(AM (BV (YL (TY (Ef (CA (AK c a rfl (Aj (AU (AJ 0) AH) (AJ 3))))) (TY (Ef (CA (AK c a rfl (Aj (AU (AJ 1) AH) (AJ 4))))) (RS (Ef (CA (AK g a rfl (A4 (AJ 0) (DL (AJ 1) (AJ 3) (AJ 4)))))))))) (AR (AY Ka)) BC) (AM (CK AAX rfl (nM rfl k (DL (AK d a rfl (Aj (AU (AJ 0) AH) (AJ 3))) (AK d a rfl (Aj (AU (AJ 1) AH) (AJ 4))) (AK i a rfl (DL (AJ 0) (AJ 1) (AJ 2))))) (B9 (n:=3) rfl (Aa (Dm 5 b) (Aa (Dm 6 b) (Aa (Dm 7 b) BZ)))) (AM (EB (AK h a rfl (Aj (AJ 5) (AJ 6))) (B9 (n:=2) rfl (Aa (Dm 8 b) (Aa (Dm 9 b) BZ)))) (AR (BV (Ef (CA (AK e a rfl (Aj (AW (Aj (B3 NK rfl j boot_abs (Bt (AJ 8))) (AJ 9))) (AJ 7))))) (AR (AY Ka)) BC)))) (AR (AY Ka))))
theorem Z4 (F:Z1 K "later" RC f U)(b:Hf P w K Z Y n)(c:Z "tuple" =none):Z2 P w K Z Y n f U ["plan","by"] 2 LQ:=by
 have a:(["m","x","y","z","by"] :zy Str).Nodup:=by decide +kernel
 exact DW F DR rfl λ_ _ _ _ _ _ d _=>(AR (AY (BN Bq rfl c AAt (Bt (Eb (CQ rfl (Ec (AJ 0)) (Bk (own:=4) (ix:= [1]) (N:= ["m","x" ,"y" ,"z" ,"by" ]) rfl rfl rfl rfl rfl rfl (λ_ _ _ _ _ _=>(NP (n:=4) rfl (Br (IC 0 a) (Br (IC 1 a) (Br (IC 2 a) (Br (IC 3 a) JH)))))) (λ_ _ _ _ _ _=>Ba) (λ_ _ _ _ _ _=>(AW (A4 (AK b d rfl (Aj (AJ 0) (AJ 4))) (DL (AJ 1) (AJ 2) (AJ 3))))))))))))
theorem X8 (F:Z1 K "summed" NI f U)(g:Z "max" =none)(h:Z "tuple" =none)(j:Z "zip" =none):Z2 P w K Z Y n f U ["one","many","other","more","numbers","weights","number","weight"] 4 GJ:=by
 have a:(["former","latter","many","more"] :zy Str).Nodup:=by decide +kernel
 have b:(["number","weight","many"] :zy Str).Nodup:=by decide +kernel
 exact DW F DR rfl λ_ _ _ _ _ _ e c=>(AM (Dw 4 c (BN Bq rfl h AAt (Bt (Eb (CQ rfl (d8 rfl j (Aj (AU (AJ 0) AH) (AU (AJ 2) AH))) (Bk (own:=2) (ix:= [1,3]) (N:= ["former","latter" ,"many" ,"more" ]) rfl rfl rfl rfl rfl rfl (λ_ _ _ _ _ _=>(NP (n:=2) rfl (Br (IC 0 a) (Br (IC 1 a) JH)))) (λ_ _ _ _ _ _=>Ba) (λ_ _ _ _ _ _=>(Ae BG (Ae BB (AJ 2) (AJ 0)) (Ae BB (AJ 3) (AJ 1)))))))))) (bB (by decide) (by decide) (by decide) (by decide) (by decide) (by decide) (AU (AJ 0) AH) (AU (AJ 2) AH) (λk d=>aT (i:=5) rfl c rfl (Or.inl rfl) (S5 d rfl rfl rfl rfl) (V0 (own:=2) (ix:= [1]) (N:= ["number","weight" ,"many" ]) rfl rfl rfl rfl rfl rfl (ZV (Mh (QE (by decide)) LR (Mh (QE (by decide)) LR WC QF) (SB LR QF))) (λ_ _ _ _ _ _=>(Qq rfl (FS (G0 (i:=0) b rfl (Or.inl rfl)) (FS (G0 (i:=1) b rfl (Or.inl rfl)) LZ)))) (λ_ _ _ _ _ _=>We) (λ_ _ _ _ _ _=>(pv 0))) (λ_ _ _ _ _ _=>(B2 Qm (pv 2) (pv 1)))) (λk d=>aU AAX rfl (S5 d rfl rfl rfl rfl) (Qq rfl (FS (G0 (i:=6) c rfl (Or.inl rfl)) (FS (G0 (i:=7) c rfl (Or.inl rfl)) LZ))) (G1 (dh (rM e) (pv 5) (pv 6) (B2 Hl (aH (rM e) (pv 5) (pv 6) BM ⟨rfl,rfl,rfl,rfl⟩) (B2 Qm (pv 3) (pv 7))) rfl))) (AR (AY (AW (DL (AJ 4) (B3 (jM rfl) rfl g boot_max (Aj (AU (AJ 0) AH) (AU (AJ 2) AH))) (AJ 5)))))))
theorem Uv (F:Z1 K "crossed" Jz f U)(a:ZY P w K Z Y n):Z2 P w K Z Y n f U ["low","high","at"] 3 EG:=DW F DR rfl λ_ _ _ _ _ _ b _=>(AR (AY (AK a b rfl (A4 (AJ 0) (DL (Fv (AU (AU (AJ 1) AH) (AJ 2))) (AJ 1) (AU (AU (AJ 0) AH) (AJ 2)))))))
theorem Su (F:Z1 K "is_never" Ht f U):Z2 P w K Z Y n f U ["plane","total"] 1 Db:=DW F DR rfl λ_ _ _ _ _ _ a b=>(AM (Dw 1 b (AU (AU (AJ 0) AH) AH)) (AR (AY (nJ (Fu Gi (AJ 1) AH (Dk _)) (RG (VI (Fu (Gh a) (AJ 1) AH (Dk _)) (RG (Fu (Gh a) (AU (AJ 0) AH) AH (Dk _)))))))))
theorem U3 (F:Z1 K "turn_of" J8 f U):Z2 P w K Z Y n f U ["plane","at","total","factor"] 2 DC:=DW F DR rfl λ_ _ _ _ _ _ _ a=>(AM (Dw 2 a (AU (AU (AJ 0) AH) AH)) (AM (Dw 3 a (AU (AU (AJ 0) AH) (AJ 1))) (AR (AY (Wm (HM JI (AJ 3) AH) (AW (Aj (Fv (AJ 2)) (AJ 3))) (AW (Aj (AJ 2) (Fv (AJ 3)))))))))
theorem OM (F:Z1 K "is_tighter" Fs f U)(b:FP P w K Z Y n)(c:Ow P w K Z Y n):Z2 P w K Z Y n f U ["plane","other","at","here","there"] 3 DN:=DW F DR rfl λ_ _ _ _ _ _ a d=>(AM (Dw 3 d (AK c a rfl (Aj (AJ 0) (AJ 2)))) (AM (Dw 4 d (AK c a rfl (Aj (AJ 1) (AJ 2)))) (AM (BV (CA (AK b a rfl (Aj (AJ 3) (AJ 4)))) (AR (AY (Fu Gi (AU (AU (AJ 0) AH) (AJ 2)) AH (Dk _)))) BC) (AM (BV (CA (AK b a rfl (Aj (AJ 4) (AJ 3)))) (AR (AY (Fu JI (AU (AU (AJ 0) AH) (AJ 2)) AH (Dk _)))) BC) (AR (AY (Fu JI (AU (AJ 0) AH) (AU (AJ 1) AH) (Dk _))))))))
theorem S0 (F:Z1 K "tightest" Hz f U)(b:QI P w K Z Y n):Z2 P w K Z Y n f U ["planes","at","sign","told","plane"] 3 CV:=DW F DR rfl λ_ _ _ _ _ _ c a=>(AM (Dw 3 a CJ) (AM (CK AAX rfl (Ec (AJ 0)) (Dm 4 a) (AR (BV (YL (bC (HM JI (Ae BB (AU (AU (AJ 4) AH) (AJ 1)) (AJ 2)) AH) (W0 (YL (TY (HM VR (AJ 3) CJ) (RS (CA (AK b c rfl (DL (AJ 4) (AJ 3) (AJ 1)))))))))) (AR (Dw 3 a (AJ 4))) BC))) (AR (AY (AJ 3)))))
theorem Ss (F:Z1 K "fault_in" Hs f U)(e:Ov P w K Z Y n)(c:Ub P w K Z Y n)(d:Mn P w K Z Y n):Z2 P w K Z Y n f U ["planes","at","plane","high","both"] 2 DZ:=DW F DR rfl λ_ _ _ _ _ _ a b=>(AM (CK AAX rfl (Ec (AJ 0)) (Dm 2 b) (AR (BV (YL (bC (HM (Gh a) (AU (AU (AJ 2) AH) (AJ 1)) AH) (W0 (CA (AK c a rfl (Bt (AJ 2))))))) (AR (AY (AJ 2))) BC))) (AM (Dw 3 b (AK d a rfl (DL (AJ 0) (AJ 1) (Fv AH)))) (AM (BV (HM VR (AJ 3) CJ) (AR (AY CJ)) BC) (AM (Dw 4 b (AK e a rfl (DL (AK d a rfl (DL (AJ 0) (AJ 1) AH)) (AJ 3) (AJ 1)))) (AR (AY (Wm (CA (AK c a rfl (Bt (AJ 4)))) (AJ 4) CJ)))))))
theorem Qg (F:Z1 K "side_form" Gd f U)(c:Io P w K Z Y n)(d:He P w K Z Y n)(e:Hf P w K Z Y n):Z2 P w K Z Y n f U ["wedge","number","side","off","one","other","sizes","lates","base","slope","other_base","other_slope"] 2 BQ:=DW F DR rfl λ_ _ _ _ _ _ b a=>(AM (EB (AJ 0) (B9 (n:=4) rfl (Aa (Dm 4 a) (Aa (Dm 5 a) (Aa (Dm 6 a) (Aa (Dm 7 a) BZ)))))) (AM (Dw 2 a (Ae Ex (Ae Dp (AJ 1) AH) AH)) (AM (EB (AU (AU (AJ 4) AH) (AJ 2)) (B9 (n:=2) rfl (Aa (Dm 8 a) (Aa (Dm 9 a) BZ)))) (AM (EB (AU (AU (AJ 5) AH) (AJ 2)) (B9 (n:=2) rfl (Aa (Dm 10 a) (Aa (Dm 11 a) BZ)))) (AM (Dw 3 a (AK c b rfl (Aj (AJ 8) (AJ 10)))) (AM (BV (HM (Gh b) (Ae VS (AJ 1) AH) AH) (AR (AY (AW (DL (AK c b rfl (Aj (AU (AJ 6) (AJ 2)) (AJ 3))) (AK d b rfl (Bt (AJ 9))) (AJ 11))))) BC) (AR (AY (AW (DL (AK e b rfl (Aj (AU (AJ 6) (AJ 2)) (AJ 3))) (AJ 9) (AK d b rfl (Bt (AJ 11)))))))))))))
theorem Qi (F:Z1 K "time_form" Ge f U)(e:He P w K Z Y n)(b:Kc K Z "BACK" (.tup [(.int (-1)),(.int 1)]))(a:Kc K Z "NOUGHT" (.tup [(.int 0),(.int 1)]))(c:Kc K Z "ONCE" (.tup [(.int 1),(.int 1)])):Z2 P w K Z Y n f U ["wedge","number","forms","one","other","sizes","lates"] 2 D1:=DW F DR rfl λ_ _ _ _ _ _ g d=>(AM (EB (AJ 0) (B9 (n:=4) rfl (Aa (Dm 3 d) (Aa (Dm 4 d) (Aa (Dm 5 d) (Aa (Dm 6 d) BZ)))))) (AM (Dw 2 d (AW (A4 (AW (DL (AK e g rfl (Bt (AU (AJ 3) AH))) (BJ c rfl) (BJ a rfl))) (A4 (AW (DL (AU (AJ 3) AH) (BJ b rfl) (BJ a rfl))) (A4 (AW (DL (AK e g rfl (Bt (AU (AJ 4) AH))) (BJ a rfl) (BJ c rfl))) (DL (AW (DL (AU (AJ 4) AH) (BJ a rfl) (BJ b rfl))) (AW (DL (AU (AJ 6) AH) (BJ c rfl) (BJ b rfl))) (AW (DL (AU (AJ 6) AH) (BJ b rfl) (BJ c rfl))))))))) (AR (AY (AU (AJ 2) (AJ 1))))))
theorem Uw (F:Z1 K "form_of" J1 f U)(b:SN P w K Z Y n)(c:SQ P w K Z Y n):Z2 P w K Z Y n f U ["wedge","number"] 2 FE:=DW F DR rfl λ_ _ _ _ _ _ a _=>(AR (AY (Wm (HM Gi (AJ 1) AH) (AK c a rfl (Aj (AJ 0) (AJ 1))) (AK b a rfl (Aj (AJ 0) (AJ 1))))))
theorem X7 (F:Z1 K "placed" NH f U)(c:Z "tuple" =none):Z2 P w K Z Y n f U ["plane","at","value","numbers","top","bottom"] 3 Dz:=by
 have a:(["number","bottom"] :zy Str).Nodup:=by decide +kernel
 exact DW F DR rfl λ_ _ _ _ _ _ _ b=>(AM (EB (AJ 2) (B9 (n:=2) rfl (Aa (Dm 4 b) (Aa (JG (i:=5) b rfl (Or.inr rfl)) BZ)))) (AM (TW (i:=3) rfl b rfl (Or.inl rfl) (Ec (AU (AJ 0) AH)) (Bk (own:=1) (ix:= [5]) (N:= ["number","bottom" ]) rfl rfl rfl rfl rfl rfl (λ_ _ _ _ _ _=>(IC 0 a)) (λ_ _ _ _ _ _=>Ba) (λ_ _ _ _ _ _=>(Ae BB (AJ 1) (AJ 0))))) (AM (eS (i:=3) AH (Ae BB (AU (AU (AJ 0) AH) (AJ 1)) (AJ 4))) (AM (jc (i:=3) (AJ 1) AH) (AR (AY (AW (DL (BN Bq rfl c AAt (Bt (AJ 3))) (AU (AJ 0) AH) (AU (AJ 0) AH)))))))))
theorem Jv (F:Z1 K "shared_bottom" EA f U)(b:Mi P w K Z Y n):Z2 P w K Z Y n f U ["numbers","told","top","bottom"] 1 CB:=DW F DR rfl λ_ _ _ _ _ _ c a=>(AM (Dw 1 a AH) (AM (CK AAX rfl (Ec (AJ 0)) (B9 (n:=2) rfl (Aa (Dm 2 a) (Aa (Dm 3 a) BZ))) (AR (jb (i:=1) a rfl (Or.inl rfl) (Ae Ex (AJ 3) (AK b c rfl (Aj (AJ 1) (AJ 3)))) jS))) (AR (AY (AJ 1)))))
theorem Sx (F:Z1 K "plane_of" Hw f U)(c:LD P w K Z Y n)(d:Z "tuple" =none):Z2 P w K Z Y n f U ["form","strict","number","shared","numbers"] 3 EN:=by
 have a:(["top","bottom","shared"] :zy Str).Nodup:=by decide +kernel
 exact DW F DR rfl λ_ _ _ _ _ _ e b=>(AM (C9 (i:=3) b rfl (Or.inr rfl) (AK c e rfl (Bt (AJ 0)))) (AM (Dw 4 b (BN Bq rfl d AAt (Bt (Eb (CQ rfl (Ec (AJ 0)) (Bk (own:=2) (ix:= [3]) (N:= ["top","bottom" ,"shared" ]) rfl rfl rfl rfl rfl rfl (λ_ _ _ _ _ _=>(NP (n:=2) rfl (Br (IC 0 a) (Br (IC 1 a) JH)))) (λ_ _ _ _ _ _=>Ba) (λ_ _ _ _ _ _=>(Ae BB (AJ 0) (Ae Ex (AJ 2) (AJ 1)))))))))) (AR (AY (AW (DL (AJ 4) (AJ 1) (jQ (AJ 2) (AJ 3))))))))
theorem Z7 (F:Z1 K "whole" RF f U):Z2 P w K Z Y n f U ["n"] 1 Gv:=DW F DR rfl λ_ _ _ _ _ _ _ _=>(AR (AY (AW (Aj (AJ 0) AH))))
theorem LJ (F:Z1 K "told_weights" Ea f U)(d:Mi P w K Z Y n)(e:WF P w K Z Y n)(g:Z "sorted" =none)(h:Z "tuple" =none):Z2 P w K Z Y n f U ["weights","shared","weight"] 1 CW:=by
 have a:(["number","shared","weights"] :zy Str).Nodup:=by decide +kernel
 exact DW F DR rfl λ_ _ _ _ _ _ b c=>(AM (C9 (i:=1) c rfl (Or.inr rfl) AH) (AM (CK AAX rfl (d7 (AJ 0)) (Dm 2 c) (AR (C9 (i:=1) c rfl (Or.inr rfl) (AK d b rfl (Aj (AJ 2) (AJ 1)))))) (AR (AY (BN Bq rfl h AAt (Bt (Eb (CQ rfl (Ec (B3 (ah rfl) rfl g boot_sorted (Bt (AJ 0)))) (Bk (own:=1) (ix:= [1,0]) (N:= ["number","shared" ,"weights" ]) rfl rfl rfl rfl rfl rfl (λ_ _ _ _ _ _=>(IC 0 a)) (λ_ _ _ _ _ _=>Ba) (λ_ _ _ _ _ _=>(AW (Aj (AJ 0) (AK e b rfl (Bt (Ae Ex (nH b (AJ 2) (AJ 0) (λ_ _=>rfl)) (AJ 1))))))))))))))))
theorem Sy (F:Z1 K "range_in" Hx f U)(c:Mj P w K Z Y n)(d:Mn P w K Z Y n)(e:Ow P w K Z Y n):Z2 P w K Z Y n f U ["planes","at","low","least","high","greatest"] 2 EO:=DW F DR rfl λ_ _ _ _ _ _ a b=>(AM (Dw 2 b (AK d a rfl (DL (AJ 0) (AJ 1) AH))) (AM (Dw 3 b (AK e a rfl (Aj (AJ 2) (AJ 1)))) (AM (Dw 3 b (AK c a rfl (Aj (AU (AJ 3) AH) (AU (AJ 3) AH)))) (AM (Dw 4 b (AK d a rfl (DL (AJ 0) (AJ 1) (Fv AH)))) (AM (BV (HM VR (AJ 4) CJ) (AR (AY (AW (DL (AJ 3) (Ae Dp AH (AU (AJ 2) AH)) CJ)))) BC) (AM (Dw 5 b (AK e a rfl (Aj (AJ 4) (AJ 1)))) (AR (AY (AW (DL (AJ 3) (Ae Dp AH (AU (AJ 2) AH)) (AK c a rfl (Aj (AU (AJ 5) AH) (AU (AJ 5) AH)))))))))))))
theorem S1 (F:Z1 K "value_in" IA f U)(c:Ud P w K Z Y n)(d:Hf P w K Z Y n)(e:Uf P w K Z Y n)(g:WF P w K Z Y n):Z2 P w K Z Y n f U ["planes","at","least","held","greatest"] 2 CY:=DW F DR rfl λ_ _ _ _ _ _ a b=>(AM (EB (AK e a rfl (Aj (AJ 0) (AJ 1))) (B9 (n:=3) rfl (Aa (Dm 2 b) (Aa (Dm 3 b) (Aa (Dm 4 b) BZ))))) (AR (AY (AK c a rfl (Aj (AK d a rfl (Aj (AJ 2) (AJ 4))) (AK g a rfl (Bt AH)))))))
theorem Hk (F:Z1 K "weights_by_time" DV f U)(d:FP P w K Z Y n)(e:Hf P w K Z Y n)(a:Kc K Z "ONCE" (.tup [(.int 1),(.int 1)])):Z2 P w K Z Y n f U ["wedge","one","other","sizes","lates"] 1 Bn:=DW F DR rfl λ_ _ _ _ _ _ b c=>(AM (EB (AJ 0) (B9 (n:=4) rfl (Aa (Dm 1 c) (Aa (Dm 2 c) (Aa (Dm 3 c) (Aa (Dm 4 c) BZ)))))) (AM (BV (Ef (CA (AK d b rfl (Aj (AU (AJ 1) AH) (AK e b rfl (Aj (AU (AJ 2) AH) (AU (AJ 4) AH))))))) (AR (AY (AW (DL (AW (Aj AH (BJ a rfl))) (AW (Aj AH (BJ a rfl))) (AW (Aj AH (BJ a rfl))))))) BC) (AM (BV (Ef (CA (AK d b rfl (Aj (AU (AJ 2) AH) (AK e b rfl (Aj (AU (AJ 1) AH) (AU (AJ 4) AH))))))) (AR (AY (AW (DL (AW (Aj AH (BJ a rfl))) (AW (Aj AH (BJ a rfl))) (AW (Aj AH (BJ a rfl))))))) BC) (AR (AY CJ)))))
theorem NM:DP ["planes","at","most","lows","highs","told","low","high"] ["planes","at","most"] (Aq G2):=DR
theorem U4 (F:Pw K "without" "without" G2 f U 2)(g:Ov P w K Z Y n)(h:Z "len" =none)(j:Z "set" =none):Dg P w K Z Y MC (n+1) f U ["planes","at","most"] (Ci K 3 EI):=by
 have a:=NM.nd;have b:(["plane","at"] :zy Str).Nodup:=by decide +kernel
 have c:(["plane","at"] :zy Str).Nodup:=by decide +kernel
 have d:(["plane","at"] :zy Str).Nodup:=by decide +kernel
 exact ZL F NM rfl λ_ _ _ _ _ _ e=>(AM (FY (i:=3) rfl a rfl (Or.inl rfl) (Ec (AJ 0)) (Bk (own:=1) (ix:= [1]) (N:= ["plane","at" ]) rfl rfl rfl rfl rfl rfl (λ_ _ _ _ _ _=>(IC 0 b)) (λ_ _ _ _ _ _=>(RI (HM JI (AU (AU (AJ 0) AH) (AJ 1)) AH))) (λ_ _ _ _ _ _=>(AJ 0)))) (AM (FY (i:=4) rfl a rfl (Or.inl rfl) (Ec (AJ 0)) (Bk (own:=1) (ix:= [1]) (N:= ["plane","at" ]) rfl rfl rfl rfl rfl rfl (λ_ _ _ _ _ _=>(IC 0 c)) (λ_ _ _ _ _ _=>(RI (HM Gi (AU (AU (AJ 0) AH) (AJ 1)) AH))) (λ_ _ _ _ _ _=>(AJ 0)))) (AM (TW (i:=5) rfl a rfl (Or.inl rfl) (Ec (AJ 0)) (Bk (own:=1) (ix:= [1]) (N:= ["plane","at" ]) rfl rfl rfl rfl rfl rfl (λ_ _ _ _ _ _=>(IC 0 d)) (λ_ _ _ _ _ _=>(RI (HM (Gh e) (AU (AU (AJ 0) AH) (AJ 1)) AH))) (λ_ _ _ _ _ _=>(AJ 0)))) (AM (CK AAX rfl (Ec (AJ 3)) (Dm 6 a) (AR (CK AAX rfl (Ec (AJ 4)) (Dm 7 a) (AR (BV (HM nP (jR rfl h rfl j (AU (AJ 6) AH) (AU (AJ 7) AH)) (AJ 2)) (AR (E1 (i:=5) ABi ABj DG (Bt (AK g e rfl (DL (AJ 6) (AJ 7) (AJ 1)))))) BC))))) (AR (AY (AJ 5)))))))
theorem Uy (F:Z1 K "meet_in" J3 f U)(h:Ua P w K Z Y n)(j:Xe P w K Z Y n)(k:ZX P w K Z Y n)(l:Ue P w K Z Y n)(o:Mo P w K Z Y n)(g:Ug P w K Z Y n)(p:Ip P w K Z Y n)(r:Xl P w K Z Y n)(s:Z "range" =none)(a:Kc K Z "STRICT" (.tup [(.int 0),(.int 1),(.int 0),(.int 1),(.int 0),(.int 0),(.int 1),(.int 1),(.int 1),(.int 1),(.int 1),(.int 1)])):Z2 P w K Z Y n f U ["wedge","weights","planes","first","fault","s"] 1 FF:=by
 have d:(["number","wedge"] :zy Str).Nodup:=by decide +kernel
 have e:(["plane","s"] :zy Str).Nodup:=by decide +kernel
 exact DW F DR rfl λ_ _ _ _ _ _ b c=>(AM (Dw 1 c (AK p b rfl (Bt (AJ 0)))) (AM (BV (HM RO (AJ 1) CJ) (AR (AY (AW (Aj CJ (AJ 1))))) BC) (AM (FY (i:=2) rfl c rfl (Or.inl rfl) (Kb rfl s (Bt AH)) (Bk (own:=1) (ix:= [0]) (N:= ["number","wedge" ]) rfl rfl rfl rfl rfl rfl (λ_ _ _ _ _ _=>(IC 0 d)) (λ_ _ _ _ _ _=>Ba) (λ_ _ _ _ _ _=>(AK l b rfl (DL (AK j b rfl (Aj (AJ 1) (AJ 0))) (AU (BJ a rfl) (AJ 0)) (AJ 0)))))) (AM (Dw 3 c (ao r b rfl (Aj (AJ 2) AH))) (AM (Dw 4 c (AK h b rfl (Aj (AJ 3) AH))) (AM (BV (HM RO (AJ 4) CJ) (AR (AY (AW (Aj CJ (AK o b rfl (Bt (AU (AJ 4) AH))))))) BC) (AM (C9 (i:=5) c rfl (Or.inr rfl) (AK g b rfl (Aj (AJ 3) AH))) (AR (AY (AW (Aj (AW (Aj (AJ 5) (AK g b rfl (Aj (Eb (CQ rfl (Ec (AJ 2)) (Bk (own:=1) (ix:= [5]) (N:= ["plane","s" ]) rfl rfl rfl rfl rfl rfl (λ_ _ _ _ _ _=>(IC 0 e)) (λ_ _ _ _ _ _=>Ba) (λ_ _ _ _ _ _=>(AK k b rfl (DL (AJ 0) AH (AJ 1))))))) AH)))) CJ)))))))))))
theorem Ju (F:Z1 K "piece_between" D9 f U)(c:Io P w K Z Y n)(d:Ud P w K Z Y n)(e:WE P w K Z Y n)(g:Z "zip" =none):Z2 P w K Z Y n f U ["former","latter","span","lines","low","high","slope"] 2 Bm:=DW F DR rfl λ_ _ _ _ _ _ a b=>(AM (Dw 2 b (AK c a rfl (Aj (AU (AJ 1) AH) (AU (AJ 0) AH)))) (AM (ID (i:=3) b rfl (Or.inl rfl) (Cs IB)) (AM (CK AAX rfl (d8 rfl g (Aj (F5 (AJ 0) (Yj AH) Yi) (F5 (AJ 1) (Yj AH) Yi))) (B9 (n:=2) rfl (Aa (Dm 4 b) (Aa (Dm 5 b) BZ))) (AM (Dw 6 b (AK d a rfl (Aj (AK c a rfl (Aj (AJ 5) (AJ 4))) (AJ 2)))) (AR (E1 (i:=3) ABi ABj DG (Bt (AW (Aj (AK c a rfl (Aj (AJ 4) (AK e a rfl (Aj (AJ 6) (AU (AJ 0) AH))))) (AJ 6)))))))) (AR (AY (AW (DL (AU (AJ 0) AH) (AU (AJ 1) AH) (AJ 3))))))))
theorem Qf (F:Z1 K "pieces_of" Gc f U)(b:LC P w K Z Y n)(c:Z "len" =none)(d:Z "range" =none):Z2 P w K Z Y n f U ["plan"] 1 DB:=by
 have a:(["at","plan"] :zy Str).Nodup:=by decide +kernel
 exact DW F DR rfl λ_ _ _ _ _ _ e _=>(AR (AY (Eb (CQ rfl (Kb rfl d (Bt (Ae Dp (B3 NL rfl c AB4 (Bt (AJ 0))) AH))) (Bk (own:=1) (ix:= [0]) (N:= ["at","plan" ]) rfl rfl rfl rfl rfl rfl (λ_ _ _ _ _ _=>(IC 0 a)) (λ_ _ _ _ _ _=>Ba) (λ_ _ _ _ _ _=>(AK b e rfl (Aj (AU (AJ 1) (AJ 0)) (AU (AJ 1) (Ae BG (AJ 0) AH))))))))))
theorem Qj (F:Z1 K "wedges_of" Gf f U)(c:SM P w K Z Y n)(e:Ml P w K Z Y n)(d:Z "enumerate" =none):Z2 P w K Z Y n f U ["one","other","apart","sizes","lates","others","told","i","former","j","latter"] 3 DE:=DW F DR rfl λ_ _ _ _ _ _ b a=>(AM (Dw 3 a (AK e b rfl (DL (AJ 0) (AJ 1) (AJ 2)))) (AM (Dw 4 a (AW (Aj (AU (AU (AJ 0) AH) AH) (AU (AU (AJ 1) AH) AH)))) (AM (Dw 5 a (AK c b rfl (Bt (AU (AJ 1) AH)))) (AM (ID (i:=6) a rfl (Or.inl rfl) (Cs IB)) (AM (CK AAX rfl (nK rfl d (Bt (AK c b rfl (Bt (AU (AJ 0) AH))))) (B9 (n:=2) rfl (Aa (Dm 7 a) (Aa (Dm 8 a) BZ))) (AR (CK AAX rfl (nK rfl d (Bt (AJ 5))) (B9 (n:=2) rfl (Aa (Dm 9 a) (Aa (Dm 10 a) BZ))) (AR (E1 (i:=6) ABi ABj DG (Bt (AW (DL (AJ 7) (AJ 9) (AW (A4 (AJ 8) (DL (AJ 10) (AJ 3) (AJ 4)))))))))))) (AR (AY (AJ 6))))))))
theorem Uz (F:Z1 K "meet_of" J4 f U)(c:Xg P w K Z Y n)(d:SU P w K Z Y n)(e:Z "tuple" =none):Z2 P w K Z Y n f U ["one","other","apart","rows","i","j","wedge","moments","weights"] 3 Bl:=DW F DR rfl λ_ _ _ _ _ _ b a=>(AM (ID (i:=3) a rfl (Or.inl rfl) (Cs IB)) (AM (CK AAX rfl (Ec (AK d b rfl (DL (AJ 0) (AJ 1) (AJ 2)))) (B9 (n:=3) rfl (Aa (Dm 4 a) (Aa (Dm 5 a) (Aa (Dm 6 a) BZ)))) (AM (EB (AK c b rfl (Bt (AJ 6))) (B9 (n:=2) rfl (Aa (Dm 7 a) (Aa (Dm 8 a) BZ)))) (AM (BV (HM RO (AJ 7) CJ) (AR (AY (AW (DL VL (AU (AJ 7) AH) (AU (AJ 7) AH))))) BC) (AR (E1 (i:=3) ABi ABj DG (Bt (AW (DL (AJ 4) (AJ 5) (AJ 8))))))))) (AR (AY (AW (Aj VL (BN Bq rfl e AAt (Bt (AJ 3)))))))))
theorem U0 (F:Z1 K "put_off" J5 f U)(b:Hf P w K Z Y n)(d:Z "tuple" =none):Z2 P w K Z Y n f U ["plan","x","y","z"] 4 Gu:=by
 have a:(["m","east","north","high","x","y","z"] :zy Str).Nodup:=by decide +kernel
 exact DW F DR rfl λ_ _ _ _ _ _ c _=>(AR (AY (BN Bq rfl d AAt (Bt (Eb (CQ rfl (Ec (AJ 0)) (Bk (own:=4) (ix:= [1,2,3]) (N:= ["m","east" ,"north" ,"high" ,"x" ,"y" ,"z" ]) rfl rfl rfl rfl rfl rfl (λ_ _ _ _ _ _=>(NP (n:=4) rfl (Br (IC 0 a) (Br (IC 1 a) (Br (IC 2 a) (Br (IC 3 a) JH)))))) (λ_ _ _ _ _ _=>Ba) (λ_ _ _ _ _ _=>(AW (A4 (AJ 0) (DL (AK b c rfl (Aj (AJ 1) (AJ 4))) (AK b c rfl (Aj (AJ 2) (AJ 5))) (AK b c rfl (Aj (AJ 3) (AJ 6))))))))))))))
theorem iS (F:Z1 K "law" PJ f U)(t:QG P w K Z Y n)(u:Hd P w K Z Y n)(c:Cd P w K Z Y n)(l:B5 P w K Z Y n)(o:Fh P w K Z Y n)(p:DS P w K Z Y n)(v:OE P w K Z Y n)(r:EV P w K Z Y n)(x:SL P w K Z Y n)(y:UZ P w K Z Y n)(d:Xf P w K Z Y n)(z:ck P w K Z Y n)(e:Xh P w K Z Y n)(A:Xi P w K Z Y n)(B:Z "len" =none)(C:Z "min" =none)(s:Z "range" =none):Z2 P w K Z Y n f U ["_law_script","_law_k","_law_tape_here","_law_apart_here","_law_by","_law_off_here","_law_further","_law_more","_law_found","_law_long","_law_far","_law_great","_law_told","_law_some","_law_one","_law_other","_law_s","_law_t"] 1 EH:=by
 have g:(["_law_side","_law_tape_here"] :zy Str).Nodup:=by decide +kernel
 have h:(["_law_flight","_law_by","_law_off_here"] :zy Str).Nodup:=by decide +kernel
 have j:(["_law_flight"] :zy Str).Nodup:=by decide +kernel
 have k:(["_law_flight","_law_long","_law_far"] :zy Str).Nodup:=by decide +kernel
 exact DW F DR rfl λ_ _ _ _ _ _ a b=>(AM (CK AAX rfl (Kb rfl s (Bt (Ae BG AH (B3 (jN rfl) rfl C boot_min (Aj AH (B3 NL rfl B AB4 (Bt (AJ 0)))))))) (Dm 1 b) (AM (C9 (i:=2) b rfl (Or.inr rfl) (AK x a rfl (Aj (AJ 0) (AJ 1)))) (AM (EB (AK y a rfl (Bt (AJ 2))) (B9 (n:=2) rfl (Aa (Dm 14 b) (Aa (Dm 15 b) BZ)))) (AM (Dw 3 b (AK t a rfl (Bt (AJ 2)))) (AM (C9 (i:=4) b rfl (Or.inr rfl) (AK o a rfl (Bt (AJ 2)))) (AM (C9 (i:=5) b rfl (Or.inr rfl) (Eb (CQ rfl (Kb rfl s (Bt AH)) (Bk (own:=1) (ix:= [2]) (N:= ["_law_side","_law_tape_here" ]) rfl rfl rfl rfl rfl rfl (λ_ _ _ _ _ _=>(IC 0 g)) (λ_ _ _ _ _ _=>Ba) (λ_ _ _ _ _ _=>(AK o a rfl (Bt (AJ 1)))))))) (AM (FY (i:=6) rfl b rfl (Or.inl rfl) (Ec (AW (Aj (AJ 14) (AJ 15)))) (Bk (own:=1) (ix:= [4,5]) (N:= ["_law_flight","_law_by" ,"_law_off_here" ]) rfl rfl rfl rfl rfl rfl (λ_ _ _ _ _ _=>(IC 0 h)) (λ_ _ _ _ _ _=>Ba) (λ_ _ _ _ _ _=>(AW (Aj (AK z a rfl (Aj (AK A a rfl (A4 (AU (AJ 0) AH) (DL (AU (AJ 2) AH) (AU (AJ 2) AH) (AU (AJ 2) AH)))) (AJ 1))) (AU (AJ 0) AH)))))) (AM (FY (i:=7) rfl b rfl (Or.inl rfl) (Ec (AW (Aj (AJ 14) (AJ 15)))) (Bk (own:=1) (ix:= []) (N:= ["_law_flight"]) rfl rfl rfl rfl rfl rfl (λ_ _ _ _ _ _=>(IC 0 j)) (λ_ _ _ _ _ _=>Ba) (λ_ _ _ _ _ _=>(AW (Aj (AK u a rfl (Bt (AU (AJ 0) AH))) (AU (AJ 0) AH)))))) (AM (Dw 8 b (AK e a rfl (DL (AJ 14) (AJ 15) (AJ 3)))) (AM (C9 (i:=9) b rfl (Or.inr rfl) (AK l a rfl (Aj (Ae BG (Ae BG (Ae bA AH AH) AH) (AK c a rfl (Aj (AJ 2) AH))) (Ae BG AH (AK c a rfl (Aj (AJ 2) AH)))))) (AM (C9 (i:=10) b rfl (Or.inr rfl) (AK l a rfl (Aj (Ae BG AH (AK c a rfl (Aj (AJ 2) AH))) (Ae BG (Ae BG (Ae bA AH AH) AH) (AK c a rfl (Aj (AJ 2) AH)))))) (AM (FY (i:=11) rfl b rfl (Or.inl rfl) (Ec (AW (Aj (AJ 14) (AJ 15)))) (Bk (own:=1) (ix:= [9,10]) (N:= ["_law_flight","_law_long" ,"_law_far" ]) rfl rfl rfl rfl rfl rfl (λ_ _ _ _ _ _=>(IC 0 k)) (λ_ _ _ _ _ _=>Ba) (λ_ _ _ _ _ _=>(AK v a rfl (DL (AJ 0) (AJ 1) (AJ 2)))))) (AM (Dw 12 b (AK e a rfl (DL (AU (AJ 11) AH) (AU (AJ 11) AH) (AW (Aj (AK p a rfl (Aj (AJ 10) (AU (AJ 3) AH))) (AK p a rfl (Aj (AJ 10) (AU (AJ 3) AH)))))))) (AM (BV (HM (az a) (AU (AJ 12) AH) (AU (AJ 8) AH)) (AR (AY Ka)) BC) (AM (CK AAX rfl (Ec (Eb (Cs (A4 (AW (Aj (AJ 15) (AJ 14))) (DL (AJ 6) (AJ 7) (Eb (Cs (Aj (AJ 14) (AU (AJ 7) AH))))))))) (Dm 13 b) (AR (BV (HM (az a) (AU (AK e a rfl (DL (AU (AJ 13) AH) (AU (AJ 13) AH) (AJ 3))) AH) (AU (AJ 8) AH)) (AR (AY Ka)) BC))) (AR (BV (HM (Gh a) (AU (AJ 8) AH) VL) (AM (EB (F5 (AJ 8) (Yj AH) Yi) (B9 (n:=2) rfl (Aa (Dm 16 b) (Aa (Dm 17 b) BZ)))) (AM (BV (YL (TY (Ef (CA (AK d a rfl (A4 (AJ 15) (A4 (AJ 14) (DL (AJ 3) (AJ 17) (AJ 16))))))) (RS (Ef (CA (AK d a rfl (A4 (AU (AJ 7) AH) (A4 (AU (AJ 7) AH) (DL (AJ 3) (AJ 16) (AJ 17)))))))))) (AR (AY Ka)) BC) (AR (BV (Ef (CA (AK d a rfl (A4 (AU (AJ 6) AH) (A4 (AU (AJ 6) AH) (DL (AJ 3) (AK r a rfl (Aj (AJ 16) (AJ 4))) (AK r a rfl (Aj (AJ 17) (AJ 4))))))))) (AR (AY Ka)) BC)))) BC))))))))))))))))) (AR (AY Ka)))
end
def gt {P:zp}{w:zm}{K:AAB}{Z:Str->zt zx}{Y:zl}{k:Nat}{x:Str}{st:Stmt}{ps:zy Str}{sp:Sp}{f:zu}{U:FuncData}(F:Vm K x x st f U)(b:Binds K U ps [])(m:Z x=some (.ref f))(G:Dg P w K Z Y MC k f U ps sp):Has P w K Z Y k x ps sp:=⟨f,U,m,F.kp,b,G⟩
def ly {a:zy zx}(hl:a.length=1):∃b:zx,a= [b] :=by match a,hl with | [b],_=>exact⟨_,rfl⟩
def l7 {a:zy zx}(hl:a.length=2):∃b c:zx,a= [b,c] :=by match a,hl with | [b,c],_=>exact⟨_,_,rfl⟩
def l8 {a:zy zx}(hl:a.length=3):∃b c d:zx,a= [b,c,d] :=by match a,hl with | [b,c,d],_=>exact⟨_,_,_,rfl⟩
def l9 {a:zy zx}(hl:a.length=4):∃b c d e:zx,a= [b,c,d,e] :=by match a,hl with | [b,c,d,e],_=>exact⟨_,_,_,_,rfl⟩
def mB {a:zy zx}(hl:a.length=5):∃b c d e f:zx,a= [b,c,d,e,f] :=by match a,hl with | [b,c,d,e,f],_=>exact⟨_,_,_,_,_,rfl⟩
def DK (K:AAB)(x:Str)(st:Stmt)(f:zu):Prop:=PySem.W.nsIn K mainGlobals x=some (some (.ref f))/\∃U,Vm K x x st f U
def tF {K:AAB}{x:Str}{st:Stmt}{f:zu}{g:zx}{h i:zt zu}{d:Array (zt zx)}{kV e j b ct:zx}(a:PySem.W.nsIn K mainGlobals x=some (some (.ref f)))(l:K.lookup f=some ⟨g,h, .func (PySem.W.fnOf x x (Dt st) (B8 st) (Aq st) .none kV e j i b ct),d⟩)(c:PySem.W.codeIn K b x=true)(k:PySem.W.keepIn K (.ref f)=true):DK K x st f:=⟨a,_,ZR l c k⟩
def qF {P:zp}{w:zm}{K:AAB}{h Y:zl}{Z:Str->zt zx}{k:Nat}{x:Str}{st:Stmt}{ps:zy Str}{sp:Sp}{f:zu}(A:DK K x st f)(X:K.In h)(G:h.Ns mainGlobals Z)(g:∀U,Vm K x x st f U->Binds K U ps [] ->Z x=some (.ref f)->Dg P w K Z Y MC k f U ps sp)(b:∀U,Vm K x x st f U->Binds K U ps [] :=by exact λ_ F=>F.binds λ_ _ _ _ _ _ c hl=>by first | (obtain⟨_,rfl⟩:=ly hl;rfl)|(obtain⟨_,_,rfl⟩:=l7 hl;rfl)|(obtain⟨_,_,_,rfl⟩:=l8 hl;rfl)|(obtain⟨_,_,_,_,rfl⟩:=l9 hl;rfl)|(obtain⟨_,_,_,_,_,rfl⟩:=mB hl;rfl)):Has P w K Z Y k x ps sp:=
 let ⟨a,U,F⟩:=A;gt F (b U F) (ABk X G a) (g U F (b U F) (ABk X G a))
def pD (K:AAB)(x:Str)(st:Stmt)(f:zu)(d:Int):Prop:=PySem.W.nsIn K mainGlobals x=some (some (.ref f))/\∃U,Pw K x x st f U d
def lJ {P:zp}{w:zm}{K:AAB}{h Y:zl}{Z:Str->zt zx}{k:Nat}{x:Str}{st:Stmt}{ps:zy Str}{d:Int}{sp:Sp}{f:zu}(A:pD K x st f d)(X:K.In h)(G:h.Ns mainGlobals Z)(b:∀U,Pw K x x st f U d->∃c,Binds K U ps [.int d c])(g:∀U,Pw K x x st f U d->Dg P w K Z Y MC k f U ps sp):T9 P w K Z Y k x ps d sp:=
 let ⟨a,U,F⟩:=A;let ⟨c,B⟩:=b U F;⟨f,U,c,ABk X G a,F.kp,B,g U F⟩
def all_mk {l:PySem.W.OpenLaw}{w:zm}{K:AAB}{h:zl}{Z:Str->zt zx}{fa f1 f2 f3 f4 f5 f6 f7 f8 f9 N O P Q R S T f17 f18 f19 f20 f21 f22 f23 f24 f25 f26 f27 f28 f29 f30 f31 f32 f33 f34 f35 f36 f37 f38 f39 f40 f41 f42 f43 f44 f45 f46 f47 f48 f49 f50 f51 f52 f53 f54 f55 f56 f57 f58 f59:zu}(X:K.In h)(G:h.Ns mainGlobals Z)(wR:Z "law" =some (.ref fa))(a1:DK K "_law_draw" Ev f1)(a2:DK K "_law_apart" Fo f2)(a3:DK K "_law_part" GY f3)(a4:DK K "_law_product" EY f4)(a5:DK K "_law_less" GX f5)(a6:DK K "_law_off" Ho f6)(a7:DK K "_law_ratio" Fq f7)(a8:DK K "_law_sum" Hq f8)(a9:DK K "_law_spot" Gb f9)(a10:DK K "_law_corner_more" C7 N)(a11:DK K "_law_place" Fp O)(a12:DK K "_law_scaled" FA P)(a13:DK K "_law_tape" Ew Q)(a14:DK K "_law_bounds" E9 R)(a15:DK K "_law_span" Ga S)(a16:DK K "_law_plan" GZ T)(a17:DK K "_law_two" Hr f17)(a18:DK K "before" NF f18)(a19:DK K "common" NG f19)(a20:DK K "part" VE f20)(a21:DK K "minus" RD f21)(a22:DK K "negative" Hv f22)(a23:DK K "is_one_time" FB f23)(a24:DK K "is_there" Hu f24)(a25:DK K "plus" VF f25)(a26:DK K "size_of" J6 f26)(a27:DK K "sizes_of" Hy f27)(a28:DK K "over" VD f28)(a29:DK K "times" RE f29)(a30:DK K "spot_between" EZ f30)(a31:DK K "spot_at" J7 f31)(a32:DK K "is_meet" J2 f32)(a33:DK K "later" RC f33)(a34:DK K "summed" NI f34)(a35:DK K "crossed" Jz f35)(a36:DK K "is_never" Ht f36)(a37:DK K "turn_of" J8 f37)(a38:DK K "is_tighter" Fs f38)(a39:DK K "tightest" Hz f39)(a40:DK K "fault_in" Hs f40)(a41:DK K "side_form" Gd f41)(a42:DK K "time_form" Ge f42)(a43:DK K "form_of" J1 f43)(a44:DK K "placed" NH f44)(a45:DK K "shared_bottom" EA f45)(a46:DK K "plane_of" Hw f46)(a47:DK K "whole" RF f47)(a48:DK K "told_weights" Ea f48)(a49:DK K "range_in" Hx f49)(a50:DK K "value_in" IA f50)(a51:DK K "weights_by_time" DV f51)(a52:pD K "without" G2 f52 2)(a53:DK K "meet_in" J3 f53)(a54:DK K "piece_between" D9 f54)(a55:DK K "pieces_of" Gc f55)(a56:DK K "wedges_of" Gf f56)(a57:DK K "meet_of" J4 f57)(a58:DK K "put_off" J5 f58)(D:DK K "law" PJ f59)(o:PySem.W.nsIn K mainGlobals "abs" =some none)(a:PySem.W.nsIn K mainGlobals "enumerate" =some none)(p:PySem.W.nsIn K mainGlobals "int" =some none)(r:PySem.W.nsIn K mainGlobals "len" =some none)(t:PySem.W.nsIn K mainGlobals "max" =some none)(u:PySem.W.nsIn K mainGlobals "min" =some none)(i:PySem.W.nsIn K mainGlobals "range" =some none)(x:PySem.W.nsIn K mainGlobals "set" =some none)(c:PySem.W.nsIn K mainGlobals "sorted" =some none)(j:PySem.W.nsIn K mainGlobals "tuple" =some none)(y:PySem.W.nsIn K mainGlobals "zip" =some none){qBACK_2:Tok}{qBACK_3:Tok}{qBACK_1:zu}{qBACK_1n:Nat}{qBACK_1d:zt zu}{qBACK_1s:Array (zt zx)}{qNOUGHT_5:Tok}{qNOUGHT_6:Tok}{qNOUGHT_4:zu}{qNOUGHT_4n:Nat}{qNOUGHT_4d:zt zu}{qNOUGHT_4s:Array (zt zx)}{qONCE_8:Tok}{qONCE_9:Tok}{qONCE_7:zu}{qONCE_7n:Nat}{qONCE_7d:zt zu}{qONCE_7s:Array (zt zx)}{qSTRICT_11:Tok}{qSTRICT_12:Tok}{qSTRICT_13:Tok}{qSTRICT_14:Tok}{qSTRICT_15:Tok}{qSTRICT_16:Tok}{qSTRICT_17:Tok}{qSTRICT_18:Tok}{qSTRICT_19:Tok}{qSTRICT_20:Tok}{qSTRICT_21:Tok}{qSTRICT_22:Tok}{qSTRICT_10:zu}{qSTRICT_10n:Nat}{qSTRICT_10d:zt zu}{qSTRICT_10s:Array (zt zx)}(a_STRICT:PySem.W.nsIn K mainGlobals "STRICT" =some (some (.ref qSTRICT_10)))(a_ONCE:PySem.W.nsIn K mainGlobals "ONCE" =some (some (.ref qONCE_7)))(a_NOUGHT:PySem.W.nsIn K mainGlobals "NOUGHT" =some (some (.ref qNOUGHT_4)))(a_BACK:PySem.W.nsIn K mainGlobals "BACK" =some (some (.ref qBACK_1)))(h_qBACK_1:K.lookup qBACK_1=some ⟨.type "tuple",qBACK_1d, .seq (List.toArray [(.int (-1) qBACK_2),(.int 1 qBACK_3)]) qBACK_1n,qBACK_1s⟩)(h_qNOUGHT_4:K.lookup qNOUGHT_4=some ⟨.type "tuple",qNOUGHT_4d, .seq (List.toArray [(.int 0 qNOUGHT_5),(.int 1 qNOUGHT_6)]) qNOUGHT_4n,qNOUGHT_4s⟩)(h_qONCE_7:K.lookup qONCE_7=some ⟨.type "tuple",qONCE_7d, .seq (List.toArray [(.int 1 qONCE_8),(.int 1 qONCE_9)]) qONCE_7n,qONCE_7s⟩)(h_qSTRICT_10:K.lookup qSTRICT_10=some ⟨.type "tuple",qSTRICT_10d, .seq (List.toArray [(.int 0 qSTRICT_11),(.int 1 qSTRICT_12),(.int 0 qSTRICT_13),(.int 1 qSTRICT_14),(.int 0 qSTRICT_15),(.int 0 qSTRICT_16),(.int 1 qSTRICT_17),(.int 1 qSTRICT_18),(.int 1 qSTRICT_19),(.int 1 qSTRICT_20),(.int 1 qSTRICT_21),(.int 1 qSTRICT_22)]) qSTRICT_10n,qSTRICT_10s⟩):∃U:FuncData,(∀(s:zw) (v:zx),BindsTo s U ⟨[v], []⟩ [("_law_script",v)])/\∀Y:zl,K.In Y->Y.Ns mainGlobals Z->Dg l.prog w K Z Y MC 8 fa U ["_law_script"] (Ci K 1 EH):=by have e:=wR.symm.trans (ABk X G D.1);cases e;obtain⟨aL,fdL,FL⟩:=D;obtain⟨⟨oc,od,kV,doc,pm,an,cdv,ct,osl,eL,lL,cL⟩,kL⟩:=FL;subst eL;have FL:=ZR lL cL kL;have L:=ABD X G o;have E3:=ABD X G a;have PR:=ABD X G p;have z:=ABD X G r;have bV:=ABD X G t;have bW:=ABD X G u;have A:=ABD X G i;have bX:=ABD X G x;have Nd:=ABD X G c;have g:=ABD X G j;have E:=ABD X G y;have k:Kc K Z "BACK" (.tup [(.int (-1)),(.int 1)]):=WQ (ABk X G a_BACK) (La h_qBACK_1 (.cons Bh (.cons Bh .nil)));have d:Kc K Z "NOUGHT" (.tup [(.int 0),(.int 1)]):=WQ (ABk X G a_NOUGHT) (La h_qNOUGHT_4 (.cons Bh (.cons Bh .nil)));have b:Kc K Z "ONCE" (.tup [(.int 1),(.int 1)]):=WQ (ABk X G a_ONCE) (La h_qONCE_7 (.cons Bh (.cons Bh .nil)));have f:Kc K Z "STRICT" (.tup [(.int 0),(.int 1),(.int 0),(.int 1),(.int 0),(.int 0),(.int 1),(.int 1),(.int 1),(.int 1),(.int 1),(.int 1)]):=WQ (ABk X G a_STRICT) (La h_qSTRICT_10 (.cons Bh (.cons Bh (.cons Bh (.cons Bh (.cons Bh (.cons Bh (.cons Bh (.cons Bh (.cons Bh (.cons Bh (.cons Bh (.cons Bh .nil)))))))))))));refine⟨PySem.W.fnOf "law" "law" (Dt PJ) (B8 PJ) (Aq PJ) .none kV doc pm an cdv ct,λs v=> .of_eq rfl,λY _ _=> ?_⟩;have hs:= @qF l.prog w K h Y Z;have H1:=hs a1 X G λ_ F _ _=>QX (n:=0) F;have H2:=hs a2 X G λ_ F _ _=>OI (n:=1) F (BP H1);have m:=hs a3 X G λ_ F _ _=>QZ (n:=0) F L PR;have M:=hs a4 X G λ_ F _ _=>LH (n:=1) F (BP m);have H5:=hs a5 X G λ_ F _ _=>QY (n:=0) F;have H6:=hs a6 X G λ_ F _ _=>Sm (n:=1) F (BP m);have H7:=hs a7 X G λ_ F _ _=>OL (n:=1) F (BP m);have H:=hs a8 X G λ_ F _ _=>Sn (n:=1) F (BP m);have H9:=hs a9 X G λ_ F _ _=>Qc (n:=2) F (BP H5) (BP H6) (BP M) (BP H7) (BP H) A g E;have vC:=hs a10 X G λ_ F _ _=>G7 (n:=3) F (BP M) (BP H9) (BP H);have pH:=hs a11 X G λ_ F _ _=>OJ (n:=1) F (BP H1) (BP m);have vD:=hs a12 X G λ_ F _ _=>M4 (n:=2) F (BP M) g;have vE:=hs a13 X G λ_ F _ _=>Qe (n:=0) F L PR z;have vF:=hs a14 X G λ_ F _ _=>M3 (n:=1) F (BP H1);have vG:=hs a15 X G λ_ F _ _=>Qb (n:=1) F (BP H1) (BP m);have vH:=hs a16 X G λ_ F _ _=>Qa (n:=2) F (BP H1) (BP pH) (BP vG) (BP H) z g;have vI:=hs a17 X G λ_ F _ _=>So (n:=3) F (BP vF) (BP H1) (BP m) (BP pH) (BP vH) (BP H) z A g;have C:=hs a18 X G λ_ F _ _=>X5 (n:=0) F;have pI:=hs a19 X G λ_ F _ _=>X6 (n:=0) F;have I:=hs a20 X G λ_ F _ _=>dF (n:=1) F (BP pI) L;have J:=hs a21 X G λ_ F _ _=>Z5 (n:=2) F (BP I);have pJ:=hs a22 X G λ_ F _ _=>Sw (n:=0) F;have vJ:=hs a23 X G λ_ F _ _=>M5 (n:=3) F (BP C) (BP J) (BP pJ);have vK:=hs a24 X G λ_ F _ _=>Sv (n:=1) F (BP C);have B:=hs a25 X G λ_ F _ _=>dG (n:=2) F (BP I);have vL:=hs a26 X G λ_ F _ _=>U1 (n:=0) F;have sT:=hs a27 X G λ_ F _ _=>Sz (n:=3) F (BP B) (BP vL) A;have pK:=hs a28 X G λ_ F _ _=>dE (n:=2) F (BP I);have sU:=hs a29 X G λ_ F _ _=>Z6 (n:=2) F (BP I);have vM:=hs a30 X G λ_ F _ _=>LI (n:=3) F (BP J) (BP pK) (BP B) (BP sU) g E;have vN:=hs a31 X G λ_ F _ _=>U2 (n:=4) F (BP C) (BP vM) z A;have vO:=hs a32 X G λ_ F _ _=>Ux (n:=5) F (BP C) (BP vJ) (BP vK) (BP J) (BP sT) (BP vN) L E;have vP:=hs a33 X G λ_ F _ _=>Z4 (n:=3) F (BP B) g;have vQ:=hs a34 X G λ_ F _ _=>X8 (n:=0) F bV g E;have sV:=hs a35 X G λ_ F _ _=>Uv (n:=1) F (BP vQ);have vR:=hs a36 X G λ_ F _ _=>Su (n:=0) F;have sW:=hs a37 X G λ_ F _ _=>U3 (n:=0) F;have vS:=hs a38 X G λ_ F _ _=>OM (n:=1) F (BP C) (BP sW);have sX:=hs a39 X G λ_ F _ _=>S0 (n:=2) F (BP vS);have vT:=hs a40 X G λ_ F _ _=>Ss (n:=3) F (BP sV) (BP vR) (BP sX);have vU:=hs a41 X G λ_ F _ _=>Qg (n:=3) F (BP J) (BP pJ) (BP B);have vV:=hs a42 X G λ_ F _ _=>Qi (n:=1) F (BP pJ) k d b;have vW:=hs a43 X G λ_ F _ _=>Uw (n:=4) F (BP vU) (BP vV);have vX:=hs a44 X G λ_ F _ _=>X7 (n:=0) F g;have vY:=hs a45 X G λ_ F _ _=>Jv (n:=1) F (BP pI);have vZ:=hs a46 X G λ_ F _ _=>Sx (n:=2) F (BP vY) g;have sY:=hs a47 X G λ_ F _ _=>Z7 (n:=0) F;have vb:=hs a48 X G λ_ F _ _=>LJ (n:=1) F (BP pI) (BP sY) Nd g;have vc:=hs a49 X G λ_ F _ _=>Sy (n:=3) F (BP I) (BP sX) (BP sW);have vd:=hs a50 X G λ_ F _ _=>S1 (n:=4) F (BP pK) (BP B) (BP vc) (BP sY);have ve:=hs a51 X G λ_ F _ _=>Hk (n:=3) F (BP C) (BP B) b;have vf:= @lJ l.prog w K h Y Z _ _ _ _ _ _ _ a52 X G (λ_ F=>F.binds3 λ_ _ _ _ _ _ _ _ _=>⟨_,rfl,λ_=>rfl⟩) λ_ F=>U4 (n:=2) F (BP sV) z bX;have vg:=hs a53 X G λ_ F _ _=>Uy (n:=5) F (BP vT) (BP vW) (BP vX) (BP vZ) (BP vb) (BP vd) (BP ve) (vf.mono (by decide)) A f;have vh:=hs a54 X G λ_ F _ _=>Ju (n:=3) F (BP J) (BP pK) (BP sU) E;have vk:=hs a55 X G λ_ F _ _=>Qf (n:=4) F (BP vh) z A;have vn:=hs a56 X G λ_ F _ _=>Qj (n:=5) F (BP vk) (BP sT) E3;have vo:=hs a57 X G λ_ F _ _=>Uz (n:=6) F (BP vg) (BP vn) g;have vp:=hs a58 X G λ_ F _ _=>U0 (n:=3) F (BP B) g;exact iS (n:=7) FL (BP H2) (BP vC) (BP H1) (BP m) (BP pH) (BP M) (BP vD) (BP H) (BP vE) (BP vI) (BP vO) (BP vP) (BP vo) (BP vp) z bW A
def walk {l:PySem.W.OpenLaw}{q:zp}{loose:zy Str}{XP:(Str->zt zx)->zl->Prop}{YP:zm->zl->Prop}{d:DefRec}{K:Params->AAB}(c:l.most=some 63)(e:d.params.defaults= [])(g:∀(w:zm) (h:zl),YP w h->(K w.params).In h)(F:∀(w:zm) (Z:Str->zt zx) (b:zu) (h:zl),(K w.params).In h->h.Ns mainGlobals Z->Z d.name=some (.ref b)-> ∃U:FuncData,(∀(s:zw) (u:zx),BindsTo s U ⟨[u], []⟩ [("_law_script",u)])/\∀Y:zl,(K w.params).In Y->Y.Ns mainGlobals Z->Dg l.prog w (K w.params) Z Y MC 8 b U ["_law_script"] (Ci (K w.params) 1 EH)):PySem.W.WalkO q loose XP YP l.row.toRowW d [] (λf vs=>PySem.call f vs):=
 L2.walk_of (n:=63) (k:=8) (x:="_law_script") (CX:=λ_=>MC) (sp:=λw=>Ci (K w.params) 1 EH) c (by decide) e ⟨rfl,by decide,by decide,rfl⟩ g F (λ_ _ a ns hl _ i=>PL.law_sp i (Zn ns hl)) λ_ _ _ _ _ z=>z
def atKD {K:AAB}{x:String}{s:Stmt}{d:Int}(t:Nat)(b n:Nat)(m:String)(i c f:Nat)(a:PySem.W.nsIn K mainGlobals (Str.ofString x)=some (some (.ref f)):=by kernel_rfl)(l:K.lookup f=some (tI t x s m i c):=by kernel_rfl)(e:PySem.W.codeIn K (.ref c) (Str.ofString x)=true:=by kernel_rfl)(k:PySem.W.keepIn K (.ref f)=true:=by kernel_rfl)(g:K.lookup t=some ⟨.type "tuple",none, .seq #[.int d b] n, #[]⟩:=by kernel_rfl):pD K (Str.ofString x) s f d:=⟨a,_,⟨⟨_,_,_,_,_,_,_,_,_,t,rfl,l,e,_,b,n,g,rfl⟩,k⟩⟩
def atK {K:AAB}{x:String}{s:Stmt}(m:String)(i c f:Nat)(a:PySem.W.nsIn K mainGlobals (Str.ofString x)=some (some (.ref f)):=by kernel_rfl)(l:K.lookup f=some (fO x s m i c):=by kernel_rfl)(d:PySem.W.codeIn K (.ref c) (Str.ofString x)=true:=by kernel_rfl)(k:PySem.W.keepIn K (.ref f)=true:=by kernel_rfl):DK K (Str.ofString x) s f:=tF a l d k
end K38
open PySem PySem.W PyProof.Rows
def K38.lg:LeftO K38.pwA K38.q [] (λs=>xlAt K38.q [] s&&recOk [] s) (λs=>K38.KA.map s.heap.get?) (λw=>(K38.KK w.params).map λp=>some p.2) 6000:=λw=>PL.map_pair (PL.map5 (K38.l0 w) (K38.l1 w) (K38.l2 w) (K38.l3 w) (K38.l4 w)) (K38.l5 w)
theorem PySem.Challenge.cw_skylanes_k38_the_other_way_about_holds : PySem.Challenge.rw_skylanes_k38_the_other_way_about.Holds := by
 refine ⟨K38.w1, ?_⟩
 refine PySem.W.holds_open (q:=K38.q) (loose:= []) (Xt:=λs=>xlAt K38.q [] s&&recOk [] s) (XP:=XL K38.q []) (YP:=InK K38.KK) (N:=6000) K38.lg (InK.of (as:=K38.KA) λ_=>by kernel_rfl) InK.keeps (λs e=>xl_of s (Bool.and_eq_true_iff.mp e).1) XL.keeps (by rfl) (by rfl) (by rfl) (λs e=>recFacts_of (Bool.and_eq_true_iff.mp e).2) (by rfl) K38.w0 (by decide +kernel) ⟨rfl,rfl,rfl,rfl,rfl,by decide +kernel⟩ ?hw ?hc
 (case hw=>w_witness2)
 case hc=>
 refine K38.walk (l:=PySem.Challenge.rw_skylanes_k38_the_other_way_about) (K:=K38.KK) rfl rfl (λw h Y=>Y) ?F
 intro w mg fa h KX G lS
 refine' K38.all_mk KX G lS (K38.atK K38.m0 606 299 300) (K38.atK K38.m0 606 376 377) (K38.atK K38.m0 606 306 307) (K38.atK K38.m0 606 334 335) (K38.atK K38.m0 606 313 314) (K38.atK K38.m0 606 327 328) (K38.atK K38.m0 606 341 342) (K38.atK K38.m0 606 320 321) (K38.atK K38.m0 606 381 382) (K38.atK K38.m0 606 393 394) (K38.atK K38.m0 606 348 349) (K38.atK K38.m0 606 398 399) (K38.atK K38.m0 606 292 293) (K38.atK K38.m0 606 369 370) (K38.atK K38.m0 606 355 356) (K38.atK K38.m0 606 362 363) (K38.atK K38.m0 606 386 387) (K38.atK K38.m1 187 69 70) (K38.atK K38.m1 187 20 21) (K38.atK K38.m1 187 27 28) (K38.atK K38.m1 187 48 49) (K38.atK K38.m2 412 193 194) (K38.atK K38.m3 531 254 255) (K38.atK K38.m3 531 247 248) (K38.atK K38.m1 187 41 42) (K38.atK K38.m4 402 182 183) (K38.atK K38.m2 412 212 213) (K38.atK K38.m1 187 62 63) (K38.atK K38.m1 187 55 56) (K38.atK K38.m5 373 158 159) (K38.atK K38.m5 373 165 166) (K38.atK K38.m3 531 261 262) (K38.atK K38.m5 373 170 171) (K38.atK K38.m6 263 86 87) (K38.atK K38.m6 263 93 94) (K38.atK K38.m6 263 111 112) (K38.atK K38.m6 263 118 119) (K38.atK K38.m6 263 125 126) (K38.atK K38.m6 263 132 133) (K38.atK K38.m6 263 139 140) (K38.atK K38.m2 412 233 234) (K38.atK K38.m2 412 226 227) (K38.atK K38.m2 412 240 241) (K38.atK K38.m6 263 104 105) (K38.atK K38.m1 187 76 77) (K38.atK K38.m6 263 81 82) (K38.atK K38.m1 187 34 35) (K38.atK K38.m3 531 273 274) (K38.atK K38.m6 263 146 147) (K38.atK K38.m6 263 153 154) (K38.atK K38.m3 531 268 269) (K38.atKD 95 286 0 K38.m6 263 99 100) (K38.atK K38.m3 531 278 279) (K38.atK K38.m2 412 200 201) (K38.atK K38.m2 412 205 206) (K38.atK K38.m2 412 219 220) (K38.atK K38.m3 531 285 286) (K38.atK K38.m5 373 175 176) (K38.atK K38.m0 606 403 404) (by kernel_rfl) (by kernel_rfl) (by kernel_rfl) (by kernel_rfl) (by kernel_rfl) (by kernel_rfl) (by kernel_rfl) (by kernel_rfl) (by kernel_rfl) (by kernel_rfl) (by kernel_rfl) ?a_STRICT ?a_ONCE ?a_NOUGHT ?a_BACK ?h_qBACK_1 ?h_qNOUGHT_4 ?h_qONCE_7 ?h_qSTRICT_10 (qBACK_1:=186) (qBACK_1n:=0) (qBACK_1d:=none) (qBACK_1s:= #[]) (qBACK_2:=421) (qBACK_3:=422) (qNOUGHT_4:=184) (qNOUGHT_4n:=0) (qNOUGHT_4d:=none) (qNOUGHT_4s:= #[]) (qNOUGHT_5:=414) (qNOUGHT_6:=415) (qONCE_7:=185) (qONCE_7n:=0) (qONCE_7d:=none) (qONCE_7s:= #[]) (qONCE_8:=417) (qONCE_9:=418) (qSTRICT_10:=187) (qSTRICT_10n:=0) (qSTRICT_10d:=none) (qSTRICT_10s:= #[]) (qSTRICT_11:=424) (qSTRICT_12:=425) (qSTRICT_13:=426) (qSTRICT_14:=427) (qSTRICT_15:=428) (qSTRICT_16:=429) (qSTRICT_17:=430) (qSTRICT_18:=431) (qSTRICT_19:=432) (qSTRICT_20:=433) (qSTRICT_21:=434) (qSTRICT_22:=435)
 (case a_STRICT=>kernel_rfl)
 (case a_ONCE=>kernel_rfl)
 (case a_NOUGHT=>kernel_rfl)
 (case a_BACK=>kernel_rfl)
 (case h_qBACK_1=>kernel_rfl)
 (case h_qNOUGHT_4=>kernel_rfl)
 (case h_qONCE_7=>kernel_rfl)
 (case h_qSTRICT_10=>kernel_rfl)
end
