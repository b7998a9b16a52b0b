import PyProof.Rows.All
import KE.KItem
import KE.IntBitsLaws
import PySem.Challenge.RW_skylanes_k27_papers_of_any_shape
set_option Elab.async false
set_option linter.all false
set_option maxRecDepth 100000
set_option maxHeartbeats 0
abbrev km:=@List
abbrev kj:=PySem.Value
abbrev ki:=PySem.Shared
abbrev kf:=PySem.Addr
abbrev ke:=@Option
abbrev kd:=PySem.Expr
abbrev kc:=Bool
abbrev gn:=PySem.Program
abbrev fm:=PySem.World
abbrev fe:=PySem.Heap
abbrev da:=PySem.Around
abbrev AAO:=@PySem.wpAny_bind
abbrev AAP:=PySem.W.Frag
abbrev AAQ:=@if_neg
abbrev AAR:=@if_pos
abbrev AAS:=@PySem.wpAny_pure
abbrev AAT:=@List.mem_cons
abbrev AAU:=@PySem.Heap.lt_size
abbrev AAV:=@PySem.Heap.get?_push_of_some
abbrev AAW:=@Nat.le_refl
abbrev AAX:=@List.map_cons
abbrev AAY:=@decide_eq_false
abbrev AAZ:=@decide_eq_true
abbrev AAa:=@List.length_map
abbrev AAb:=@List.pairwise_cons
abbrev AAc:=@Nat.ne_of_lt
abbrev AAd:=@List.mem_map
abbrev AAe:=@Bool.false_ne_true
abbrev AAf:=@List.size_toArray
abbrev AAg:=@List.mem_append
abbrev AAh:=@Bool.and_eq_true
abbrev AAi:=@PySem.Heap.get?_push_size
abbrev AAj:=@PySem.PassesOwn.never
abbrev AAk:=@Option.some.inj
abbrev AAl:=@Nat.le_trans
abbrev AAm:=@List.getElem?_eq_getElem
abbrev AAn:=@List.length_cons
abbrev AAo:=@List.map_append
abbrev AAp:=@PyProof.Rows.boot_tuple
abbrev AAq:=@List.not_mem_nil
abbrev AAr:=@or_false
abbrev AAs:=@Nat.lt_of_lt_of_le
abbrev AAt:=@PySem.boot_len
abbrev AAu:=@if_false
abbrev AAv:=@List.mem_append_right
abbrev AAw:=@List.getElem?_eq_some_iff
abbrev AAx:=@List.getElem?_map
abbrev AAy:=@List.getElem?_set_ne
abbrev AAz:=@List.getElem?_append_left
abbrev AA0:=@List.length_append
abbrev AA1:=@decide_eq_true_iff
abbrev AA2:=@Bool.false_eq_true
abbrev AA3:=@Nat.zero_le
abbrev AA4:=@List.mem_of_getElem?
abbrev AA5:=@PySem.wpAny_field
abbrev AA6:=@of_decide_eq_true
abbrev AA7:=@List.any_cons
abbrev AA8:=@PySem.wpAny_holding
abbrev AA9:=@List.mem_cons_of_mem
abbrev ABA:=@Ne.symm
abbrev ABB:=@List.nil_append
abbrev ABC:=@PyProof.Rows.boot_isinstance
abbrev ABD:=@PySem.wpAny_mono
abbrev ABE:=@List.mem_singleton
abbrev ABF:=@PySem.W.mg_none_of
abbrev ABG:=@PySem.wpAny_newObj_type
abbrev ABH:=@List.getElem?_append_right
abbrev ABI:=@List.all_eq_true
abbrev ABJ:=@List.filter_cons
abbrev ABK:=@PySem.isSubtype_type
abbrev ABL:=@PySem.wpAny_call_entry
abbrev ABM:=@PySem.wpAny_seqItems
abbrev ABN:=@Nat.lt_of_le_of_lt
abbrev ABO:=@Rat.num_divInt_den
abbrev ABP:=@PySem.wpAny_rule
abbrev ABQ:=@if_true
abbrev ABR:=@List.mem_filter
abbrev ABS:=@PySem.wpAny_standAt
abbrev ABT:=@Nat.ne_of_gt
abbrev ABU:=@of_decide_eq_false
abbrev ABV:=@Nat.le_of_ble_eq_true
abbrev ABW:=@List.foldl_cons
abbrev ABX:=@Rat.intCast_lt_intCast
abbrev ABY:=@PyProof.Rows.boot_list
abbrev ABZ:=@Bool.not_true
abbrev ABa:=@PySem.wpAny_truthy_bool
abbrev ABb:=@Nat.lt_irrefl
abbrev ABc:=@List.length_replicate
abbrev ABd:=@List.mem_of_getLast?
abbrev ABe:=@Bool.or_eq_true
abbrev ABf:=@Bool.eq_iff_iff
abbrev ABg:=@List.getElem?_replicate
abbrev ABh:=@PySem.wpAny_callSpecial?_slot
abbrev ABi:=@List.map_map
abbrev ABj:=@List.find?_cons
abbrev ABk:=@List.length_filter_le
abbrev ABl:=@PyProof.Rows.boot_abs
abbrev ABm:=@PySem.F.slot_list_append
abbrev ABn:=@PySem.F.type_list_append
abbrev ABo:=@PySem.wpAny_specialOf
abbrev ABp:=@Array.length_toList
abbrev ABq:=@List.mem_cons_self
abbrev ABr:=@PySem.wpAny_passesOwn
abbrev ABs:=@PySem.Calls.spliced_cons
abbrev ABt:=@List.append_nil
abbrev ABu:=@List.length_singleton
abbrev ABv:=@Nat.lt_trans
abbrev ABw:=@Int.fdiv_eq_ediv_of_nonneg
abbrev ABx:=@List.map_congr_left
abbrev ABy:=@List.mem_flatMap
abbrev ABz:=@Rat.intCast_le_intCast
abbrev AB0:=@Bool.true_and
abbrev AB1:=@PySem.wpAny_isInstance
abbrev AB2:=@List.any_eq_false
abbrev AB3:=@PySem.Heap.size_push
abbrev AB4:=@List.length_take
abbrev AB5:=@Int.toNat_natCast
abbrev AB6:=@Prod.ext
abbrev AB7:=@PyProof.Rows.slot_tuple_getitem
abbrev AB8:=@PySem.Heap.get?_update_self
abbrev AB9:=@PySem.wpAny_setField_rec
abbrev ACA:=@List.drop_eq_getElem_cons
abbrev ACB:=@Nat.gcd_comm
abbrev ACC:=@Nat.gcd_pos_of_pos_right
abbrev ACD:=@List.map_drop
abbrev ACE:=@List.getLast?_eq_some_getLast
abbrev ACF:=@List.getLast?_cons_cons
abbrev ACG:=@List.length_nil
abbrev ACH:=@Option.map_eq_some_iff
abbrev ACI:=@Rat.div_lt_iff
abbrev ACJ:=@Rat.not_lt
abbrev ACK:=@Rat.mul_le_mul_of_nonneg_left
abbrev ACL:=@Rat.le_refl
abbrev ACN:=@PySem.Paired.length
abbrev ACO:=@PyProof.Rows.callWith_type1
abbrev ACP:=@Int.fmod_eq_emod_of_nonneg
abbrev ACQ:=@PySem.codeAny_mono
abbrev ACR:=@PySem.mem_of_lookup
abbrev ACS:=@PySem.wpAny_typeOf
abbrev ACT:=@PySem.Heap.get?_update_other
abbrev ACU:=@List.map_nil
abbrev ACV:=@List.take_of_length_le
abbrev ACW:=@decide_eq_true_eq
abbrev ACX:=@List.drop_eq_nil_of_le
abbrev ACY:=@Nat.div_le_self
abbrev ACZ:=@Int.natAbs_neg
abbrev ACa:=@Nat.gcd_dvd_right
abbrev ACb:=@Int.natCast_ediv
abbrev ACc:=@List.sum_cons
abbrev ACd:=@decide_eq_decide
abbrev ACe:=@Int.mul_assoc
abbrev ACf:=@List.getElem?_drop
abbrev ACg:=@Option.isSome_map
abbrev ACh:=@PySem.F.slot_dict_get
abbrev ACi:=@PySem.F.slot_dict_keyiterator_next
abbrev ACj:=@List.foldl_append
abbrev ACk:=@Rat.mul_lt_mul_of_pos_left
abbrev ACl:=@Int.emod_nonneg
abbrev ACm:=@Int.emod_lt_of_pos
abbrev ACn:=@PySem.F.slot_tuple_hash
abbrev ACo:=@PySem.wpAny_forIn_list
abbrev ACp:=@PySem.F.slot_tuple_eq
abbrev ACq:=@beq_eq_false_iff_ne
abbrev ACr:=@List.mem_range
abbrev ACs:=@Nat.le_of_lt
abbrev ACt:=@List.mem_append_left
abbrev ACu:=@PySem.wpAny_execs_nil
abbrev ACv:=@Bool.false_and
abbrev ACw:=@Int.mul_one
abbrev ACx:=@Nat.lt_succ_self
abbrev ACy:=@PySem.Calls.spliced_nil
abbrev ACz:=@PySem.wpAny_Call_Name_kw
abbrev AC0:=@List.nodup_cons
abbrev AC1:=@List.length_drop
abbrev AC2:=@List.reverse_cons
abbrev AC3:=@List.forIn_cons
abbrev AC4:=@List.getElem_mem
abbrev AC5:=@PySem.wpAny_pyIter_list
abbrev AC6:=@Nat.min_eq_left
abbrev AC7:=@PySem.F.slot_tuple_iterator_next
abbrev AC8:=@PySem.wpAny_setField
abbrev AC9:=@PySem.Heap.SameBut.update
abbrev ADA:=@PySem.Obj.data_mapFields
abbrev ADB:=@PySem.wpAny_onRaise
abbrev ADC:=@PySem.wpAny_letGo
abbrev ADD:=@PySem.wpAny_attempt
abbrev ADE:=@PySem.F.slot_zip_next
abbrev ADF:=@List.getElem?_set
abbrev ADG:=@List.take_succ_cons
abbrev ADH:=@Int.natAbs_mul
abbrev ADI:=@Rat.num_divInt
abbrev ADJ:=@Rat.divInt_mul_divInt
abbrev ADK:=@Rat.div_def
abbrev ADL:=@Nat.le_of_dvd
abbrev ADM:=@Int.natCast_mul
abbrev ADN:=@PySem.wpAny_typeNameOfWhole_keyiter
abbrev ADO:=@Bool.or_false
abbrev ADP:=@List.map_take
abbrev ADQ:=@List.map_id
abbrev ADR:=@Bool.eq_false_iff
abbrev ADS:=@Int.natAbs_natCast
abbrev ADT:=@Rat.intCast_mul
abbrev ADU:=@Rat.intCast_sub
abbrev ADV:=@Rat.intCast_neg
abbrev ADW:=@List.tail_cons
abbrev ADX:=@PySem.wpAny_tupleItemsOf
abbrev ADY:=@Array.forIn_toList
abbrev ADZ:=@Nat.add_assoc
abbrev ADa:=@PySem.isSubtype_tuple_tuple
abbrev ADb:=@List.filterMap_cons
abbrev ADc:=@List.of_mem_zip
abbrev ADd:=@PySem.noFill_tuple_add
abbrev ADe:=@PySem.F.slot_tuple_add
abbrev ADf:=@PySem.F.entry_tuple_add
abbrev ADg:=@PySem.F.args_tuple_add_2
abbrev ADh:=@PySem.Calls.callWith_builtin
abbrev ADi:=@PySem.Calls.evalArgs_plain
abbrev ADj:=@List.lookup_cons
abbrev ADk:=@PySem.wpAny_comprehension_free
abbrev ADl:=@List.getD_eq_getElem?_getD
abbrev ADm:=@PySem.wpAny_updateSeq_pair
abbrev ADn:=@Rat.den_divInt
abbrev ADo:=@Rat.divInt_add_divInt
abbrev ADp:=@Int.sign_eq_one_of_pos
abbrev ADq:=@Rat.divInt_eq_divInt_iff
abbrev ADr:=@Int.mul_comm
abbrev ADs:=@List.cons_append
abbrev ADt:=@PySem.F.entry_dict_get
abbrev ADu:=@PySem.F.args_dict_get_3
abbrev ADv:=@PySem.wpAny_dictEntries
abbrev ADw:=@PySem.wpAny_dictEpoch
abbrev ADx:=@PySem.wpAny_updateSeq
abbrev ADy:=@Option.bind_eq_some_iff
abbrev ADz:=@List.append_assoc
abbrev AD0:=@Prod.mk.injEq
abbrev AD1:=@List.any_eq_true
abbrev AD2:=@List.flatMap_cons
abbrev AD3:=@Rat.lt_div_iff
abbrev AD4:=@List.any_nil
abbrev AD5:=@List.filter_append
abbrev AD6:=@Classical.byContradiction
abbrev AD7:=@List.pairwise_map
abbrev AD8:=@PySem.W.mg_of
abbrev AD9:=@List.getElem?_eq_none_iff
abbrev AEA:=@List.getElem?_set_self
abbrev AEB:=@PySem.W.cellsFrom_some
abbrev AEC:=@PyProof.Rows.callWith_builtin1
abbrev AED:=@PyProof.noPylong_of_log2
abbrev AEE:=@PySem.F.entry_tuple_iterator_next
abbrev AEF:=@PySem.F.args_tuple_iterator_next_1
abbrev AEG:=@Int.gcd_eq_natAbs_gcd_natAbs
abbrev AEH:=@Int.fdiv_eq_ediv_of_dvd
abbrev AEI:=@Int.sign_eq_neg_one_of_neg
abbrev AEJ:=@Bool.and_eq_false_iff
abbrev AEK:=@List.getLast?_eq_getElem?
abbrev AEL:=@List.pairwise_iff_getElem
abbrev AEM:=@PySem.F.plainAttrs_dict
abbrev AEN:=@PySem.F.type_dict_get
abbrev AEO:=@PySem.F.entry_dict_keyiterator_next
abbrev AEP:=@PySem.F.args_dict_keyiterator_next_1
abbrev AEQ:=@Array.getElem?_eq_getElem
abbrev AER:=@List.pairwise_singleton
abbrev AES:=@List.getElem?_eq_none
abbrev AET:=@Rat.mul_lt_mul_of_pos_right
abbrev AEU:=@PySem.F.slot_list_insert
abbrev AEV:=@PySem.F.type_list_insert
section
namespace L2
open PySem
def GW (s:Stmt):Arguments:=match s with
 | .FunctionDef _ a _ _ _ _ _ _ _ _=>a
 | _=>{posonlyargs:= [],args:= [],vararg:=none,kwonlyargs:= [],kw_defaults:= [],kwarg:=none,defaults:= [] }
def ES (s:Stmt):km Stmt:=match s with
 | .FunctionDef _ _ b _ _ _ _ _ _ _=>b
 | _=> []
def BP (s:Stmt):Scope:=match s with
 | .FunctionDef _ _ _ _ _ _ sc _ _ _=>sc
 | _=>{kind:= .function,names:= [],isGenerator:=false,isCoroutine:=false}
end L2
namespace K27
open PySem L2 PyProof.Rows
abbrev pwA:=PySem.Challenge.pw_skylanes_k27_papers_of_any_shape
def top (i:Nat):Stmt:=K27.pwA.main.body.getD i (.Pass ⟨0,0,0,0⟩)
abbrev Fb:Stmt:=top 45
abbrev Gm:Stmt:=top 55
abbrev Gk:Stmt:=top 69
abbrev JZ:Stmt:=top 67
abbrev Jb:Stmt:=top 68
abbrev Hu:Stmt:=top 70
abbrev DV:Stmt:=top 66
abbrev Hv:Stmt:=top 47
abbrev Fj:Stmt:=top 60
abbrev Hx:Stmt:=top 46
abbrev Fi:Stmt:=top 61
abbrev Fh:Stmt:=top 62
abbrev Ja:Stmt:=top 49
abbrev Gq:Stmt:=top 51
abbrev FB:Stmt:=top 50
abbrev Jc:Stmt:=top 48
abbrev IA:Stmt:=top 56
abbrev Hw:Stmt:=top 59
abbrev Fk:Stmt:=top 57
abbrev Gs:Stmt:=top 58
abbrev EK:Stmt:=top 63
abbrev Gr:Stmt:=top 64
abbrev Fc:Stmt:=top 44
abbrev Go:Stmt:=top 52
abbrev Hz:Stmt:=top 53
abbrev Hy:Stmt:=top 54
abbrev EL:Stmt:=top 65
abbrev Ob:Stmt:=top 2
abbrev Wb:Stmt:=top 3
abbrev Wa:Stmt:=top 8
abbrev Eh:Stmt:=top 13
abbrev Je:Stmt:=top 30
abbrev R7:Stmt:=top 6
abbrev L1:Stmt:=top 28
abbrev Oa:Stmt:=top 9
abbrev Wc:Stmt:=top 5
abbrev R8:Stmt:=top 7
abbrev FC:Stmt:=top 17
abbrev L3:Stmt:=top 18
abbrev Ly:Stmt:=top 29
abbrev Lu:Stmt:=top 11
abbrev Od:Stmt:=top 10
abbrev Jf:Stmt:=top 26
abbrev D6:Stmt:=top 19
abbrev Fl:Stmt:=top 14
abbrev Og:Stmt:=top 15
abbrev R9:Stmt:=top 27
abbrev Of:Stmt:=top 31
abbrev Lw:Stmt:=top 37
abbrev IB:Stmt:=top 32
abbrev Oh:Stmt:=top 36
abbrev L0:Stmt:=top 38
abbrev Lx:Stmt:=top 33
abbrev Gu:Stmt:=top 21
abbrev Oe:Stmt:=top 22
abbrev Lr:Stmt:=top 23
abbrev Jg:Stmt:=top 24
abbrev Jh:Stmt:=top 34
abbrev SB:Stmt:=top 4
abbrev Lz:Stmt:=top 39
abbrev R6:Stmt:=top 41
abbrev Jd:Stmt:=top 1
abbrev Lv:Stmt:=top 12
abbrev Oc:Stmt:=top 40
abbrev Ei:Stmt:=top 42
abbrev QO:Stmt:=top 71
def m0:String:="law_skylanes_k27_papers_of_any_shape"
def m1:String:="skylanes.fractions"
def m2:String:="skylanes.nearness"
def m3:String:="skylanes.plans"
def m4:String:="skylanes.partings"
def m5:String:="skylanes.stretches"
def eN (P:Params)(x:String)(i:Nat)(v:kj):DictEntry:=⟨PyData.keyHash P (Str.ofString x), .str (Str.ofString x) i,v⟩
abbrev eR (P:Params)(x:String)(i f:Nat):=eN P x i (.ref f)
def fO (x:String)(s:Stmt)(m:String)(i c:Nat):Obj:=⟨.type "function",none, .func (PySem.W.fnOf (Str.ofString x) (Str.ofString x) (GW s) (ES s) (BP s) .none .none .none (.str (Str.ofString m) i) none (.ref c) .none), #[]⟩
def rV:Nat->kj
 | 0=> .none
 | n+1=> .ref (n+1)
def fc (x:String)(s:Stmt)(m:String)(a c f i l n g b d e h j u:Nat)(r:AAP):AAP:=
 (c,⟨.type "code",none, .fields #[.str (Str.ofString x) i, .str (Str.ofString x) (i+1), .str (Str.ofString "/claim/cut.py") (i+2), .int l 0, .int n 0, .int 0 0, .int 0 0, .int g 0,rV b, .bool true, .int 181 0,rV d, .none,rV e,rV h,rV j, .int u 0, .int l 0, .str (Str.ofString "/claim/cut.py") (u+1)], #[]⟩) ::
 (f,fO x s m a c)::r
def ud (P:Params):Obj:=⟨.type "dict",none, .dict #[eN P "__name__" 165 (.str (Str.ofString "law_skylanes_k27_papers_of_any_shape") 544),eN P "__doc__" 166 .none,eN P "__package__" 167 .none,eN P "__loader__" 168 (.builtin "__main__.__loader__#opaque"),eN P "__spec__" 169 .none,eR P "__annotations__" 170 6,eR P "__builtins__" 171 4,eN P "__file__" 173 (.str (Str.ofString "/claim/cut.py") 172),eN P "__cached__" 174 .none,eR P "is_whole" 195 21,eR P "common" 203 28,eR P "part" 212 35,eR P "whole" 219 42,eR P "plus" 227 49,eR P "minus" 235 56,eR P "times" 243 63,eR P "over" 251 70,eR P "before" 259 77,eR P "lesser" 267 84,eR P "greater" 275 91,eR P "is_part" 284 98,eR P "shared_bottom" 294 105,eR P "count_below" 305 112,eR P "rising" 315 119,eR P "spot_between" 323 124,eR P "spot_at" 332 131,eR P "corners_between" 338 136,eR P "steps_of" 353 143,eR P "levels" 359 148,eR P "counted" 372 155,eR P "told_set" 379 162,eR P "together" 391 169,eR P "turns" 397 174,eR P "size_of" 405 181,eR P "offs_at" 411 186,eR P "lines_of" 425 193,eR P "pieces" 431 198,eR P "moment_at" 440 205,eR P "near_in" 457 212,eR P "too_near" 463 217,eR P "row_of" 475 224,eR P "longest" 488 231,eR P "rows_of" 494 236,eR P "parting" 500 241,eR P "is_row" 511 248,eR P "holds" 527 255,eR P "shows_parting" 543 262,eR P "_law_tape" 555 269,eR P "_law_draw" 565 276,eR P "_law_part" 576 283,eR P "_law_less" 584 290,eR P "_law_sum" 592 297,eR P "_law_off" 600 304,eR P "_law_product" 608 311,eR P "_law_ratio" 616 318,eR P "_law_place" 624 325,eR P "_law_span" 632 332,eR P "_law_plan" 644 339,eR P "_law_apart" 652 346,eR P "_law_spot" 658 351,eR P "_law_rising" 664 356,eR P "_law_turns" 670 361,eR P "_law_offs" 676 366,eR P "_law_number" 683 373,eR P "_law_lowest" 690 380,eR P "_law_is_row" 697 387,eR P "_law_row_holds" 703 392,eR P "_law_shows" 709 397,eR P "_law_wide_pair" 715 402,eR P "_law_listed" 721 407,eR P "_law_odd" 729 414,eR P "_law_put" 738 421,eR P "_law_alike" 745 428,eR P "_law_bent" 757 435,eR P "law" 763 440] 75, #[]⟩
def KK (P:Params):AAP:=(3,ud P)::(fc "_law_draw" Fb m0 544 275 276 556 226 2 3 270 271 272 273 274 563 <| fc "_law_apart" Gm m0 544 345 346 645 278 1 3 340 341 342 343 344 650 <| fc "_law_alike" Gk m0 544 427 428 739 366 1 3 422 423 424 425 426 743 <| fc "_law_odd" JZ m0 544 413 414 722 357 1 3 408 409 410 411 412 727 <| fc "_law_put" Jb m0 544 420 421 730 362 3 3 415 416 417 418 419 736 <| fc "_law_bent" Hu m0 544 434 435 746 370 2 3 429 430 431 432 433 755 <| fc "_law_listed" DV m0 544 406 407 716 353 1 3 403 404 0 0 405 719 <| fc "_law_less" Hv m0 544 289 290 577 240 2 3 284 285 286 287 288 582 <| fc "_law_number" Fj m0 544 372 373 677 308 1 3 367 368 369 370 371 681 <| fc "_law_part" Hx m0 544 282 283 566 234 2 3 277 278 279 280 281 574 <| fc "_law_lowest" Fi m0 544 379 380 684 310 1 3 374 375 376 377 378 688 <| fc "_law_is_row" Fh m0 544 386 387 691 316 1 3 381 382 383 384 385 695 <| fc "_law_off" Ja m0 544 303 304 593 244 2 3 298 299 300 301 302 598 <| fc "_law_ratio" Gq m0 544 317 318 609 248 2 3 312 313 314 315 316 614 <| fc "_law_product" FB m0 544 310 311 601 246 2 3 305 306 307 308 309 606 <| fc "_law_sum" Jc m0 544 296 297 585 242 2 3 291 292 293 294 295 590 <| fc "_law_spot" IA m0 544 350 351 653 281 2 3 347 348 0 0 349 656 <| fc "_law_offs" Hw m0 544 365 366 671 304 4 3 362 363 0 0 364 674 <| fc "_law_rising" Fk m0 544 355 356 659 290 1 3 352 353 0 0 354 662 <| fc "_law_turns" Gs m0 544 360 361 665 297 2 3 357 358 0 0 359 668 <| fc "_law_row_holds" EK m0 544 391 392 698 322 4 3 388 389 0 0 390 701 <| fc "_law_shows" Gr m0 544 396 397 704 330 4 3 393 394 0 0 395 707 <| fc "_law_tape" Fc m0 544 268 269 546 220 2 3 263 264 265 266 267 553 <| fc "_law_place" Go m0 544 324 325 617 250 1 3 319 320 321 322 323 622 <| fc "_law_span" Hz m0 544 331 332 625 257 1 3 326 327 328 329 330 630 <| fc "_law_plan" Hy m0 544 338 339 633 262 1 3 333 334 335 336 337 642 <| fc "_law_wide_pair" EL m0 544 401 402 710 341 2 3 398 399 0 0 400 713 <| fc "common" Ob m1 187 27 28 196 4 2 3 22 23 24 25 26 201 <| fc "part" Wb m1 187 34 35 204 8 2 3 29 30 31 32 33 210 <| fc "over" Wa m1 187 69 70 244 21 2 3 64 65 66 67 68 249 <| fc "shared_bottom" Eh m1 187 104 105 285 36 1 3 99 100 101 102 103 292 <| fc "lines_of" Je m2 380 192 193 412 119 2 3 187 188 189 190 191 423 <| fc "minus" R7 m1 187 55 56 228 17 2 3 50 51 52 53 54 233 <| fc "size_of" L1 m2 380 180 181 398 113 2 3 175 176 177 178 179 403 <| fc "before" Oa m1 187 76 77 252 23 2 3 71 72 73 74 75 257 <| fc "plus" Wc m1 187 48 49 220 15 2 3 43 44 45 46 47 225 <| fc "times" R8 m1 187 62 63 236 19 2 3 57 58 59 60 61 241 <| fc "spot_between" FC m3 316 123 124 318 59 3 3 120 121 0 0 122 321 <| fc "spot_at" L3 m3 316 130 131 324 62 2 3 125 126 127 128 129 330 <| fc "offs_at" Ly m2 380 185 186 406 115 4 3 182 183 0 0 184 409 <| fc "greater" Lu m1 187 90 91 268 27 2 3 85 86 87 88 89 273 <| fc "lesser" Od m1 187 83 84 260 25 2 3 78 79 80 81 82 265 <| fc "together" Jf m2 380 168 169 382 106 2 3 163 164 165 166 167 389 <| fc "corners_between" D6 m3 316 135 136 333 69 3 3 132 133 0 0 134 336 <| fc "count_below" Fl m1 187 111 112 295 41 2 3 106 107 108 109 110 303 <| fc "rising" Og m1 187 118 119 306 51 1 3 113 114 115 116 117 313 <| fc "turns" R9 m2 380 173 174 392 110 4 3 170 171 0 0 172 395 <| fc "pieces" Of m2 380 197 198 426 128 3 3 194 195 0 0 196 429 <| fc "longest" Lw m4 464 230 231 476 165 2 3 225 226 227 228 229 486 <| fc "moment_at" IB m2 380 204 205 432 139 3 3 199 200 201 202 203 438 <| fc "row_of" Oh m4 464 223 224 466 162 3 3 218 219 220 221 222 473 <| fc "rows_of" L0 m4 464 235 236 489 173 1 3 232 233 0 0 234 492 <| fc "near_in" Lx m2 380 211 212 441 141 1 3 206 207 208 209 210 455 <| fc "steps_of" Gu m5 339 142 143 341 72 1 3 137 138 139 140 141 351 <| fc "levels" Oe m5 339 147 148 354 81 1 3 144 145 0 0 146 357 <| fc "counted" Lr m5 339 154 155 360 91 2 3 149 150 151 152 153 370 <| fc "told_set" Jg m5 339 161 162 373 103 1 3 156 157 158 159 160 377 <| fc "too_near" Jh m2 380 216 217 458 159 3 3 213 214 0 0 215 461 <| fc "whole" SB m1 187 41 42 213 13 1 3 36 37 38 39 40 217 <| fc "parting" Lz m4 464 240 241 495 181 3 3 237 238 0 0 239 498 <| fc "holds" R6 m4 464 254 255 512 194 4 3 249 250 251 252 253 525 <| fc "is_whole" Jd m1 187 20 21 189 2 1 3 15 16 17 18 19 193 <| fc "is_part" Lv m1 187 97 98 276 29 1 3 92 93 94 95 96 282 <| fc "is_row" Oc m4 464 247 248 501 187 1 3 242 243 244 245 246 509 <| fc "shows_parting" Ei m4 464 261 262 528 201 4 3 256 257 258 259 260 541 <| fc "law" QO m0 544 439 440 758 388 1 3 436 437 0 0 438 761 <| [])
def KA:km kf:= [3,275,276,345,346,427,428,413,414,420,421,434,435,406,407,289,290,372,373,282,283,379,380,386,387,303,304,317,318,310,311,296,297,350,351,365,366,355,356,360,361,391,392,396,397,268,269,324,325,331,332,338,339,401,402,27,28,34,35,69,70,104,105,192,193,55,56,180,181,76,77,48,49,62,63,123,124,130,131,185,186,90,91,83,84,168,169,135,136,111,112,118,119,173,174,197,198,230,231,204,205,223,224,235,236,211,212,142,143,147,148,154,155,161,162,216,217,41,42,240,241,254,255,20,21,97,98,247,248,261,262,439,440]
def q:gn:={K27.pwA with main:={K27.pwA.main with body:= [top 1,top 2,top 3,top 4,top 5,top 6,top 7,top 8,top 9,top 10,top 11,top 12,top 13,top 14,top 15,top 17,top 18,top 19,top 21,top 22,top 23,top 24,top 26,top 27,top 28,top 29,top 30,top 31,top 32,top 33,top 34,top 36,top 37,top 38,top 39,top 40,top 41,top 42,top 44,top 45,top 46,top 47,top 48,top 49,top 50,top 51,top 52,top 53,top 54,top 55,top 56,top 57,top 58,top 59,top 60,top 61,top 62,top 63,top 64,top 65,top 66,top 67,top 68,top 69,top 70,top 71] }}
end K27
open PySem PySem.W PyProof.Rows
def K27.se (s:ki):=openSeen K27.q [] (importedModules (K27.pwA).main.body) (λs=>xlAt K27.q [] s&&recOk [] s) true s
def K27.go:=openGood K27.q []
def K27.rn (w:fm):=openEnds treeTable K27.pwA w 6000
def K27.l0:∀w,(K27.rn w).map (λs=>(K27.se s).1)=some (K27.go.1):=by intro w;kernel_rfl
def K27.l1:∀w,(K27.rn w).map (λs=>(K27.se s).2.1)=some (K27.go.2.1):=by intro w;kernel_rfl
def K27.l2:∀w,(K27.rn w).map (λs=>(K27.se s).2.2.1)=some (K27.go.2.2.1):=by intro w;kernel_rfl
def K27.l3:∀w,(K27.rn w).map (λs=>(K27.se s).2.2.2.1)=some (K27.go.2.2.2.1):=by intro w;kernel_rfl
def K27.l4:∀w,(K27.rn w).map (λs=>(K27.se s).2.2.2.2)=some (K27.go.2.2.2.2):=by intro w;kernel_rfl
def K27.l5:∀w,(K27.rn w).map (λs=>K27.KA.map s.heap.get?)=some ((K27.KK w.params).map λp=>some p.2):=by intro w;kernel_rfl
def K27.w1:PySem.Challenge.rw_skylanes_k27_papers_of_any_shape.wellSaid=true:=by
 kernel_rfl
def K27.w0:PySem.Challenge.rw_skylanes_k27_papers_of_any_shape.row.wellSaid=true:=by
 kernel_rfl
end
namespace PySem
open Sem (wp)
abbrev FK:=(Int×Int)×Int
section
variable {prog:gn}{w:fm}
def JG (prog:gn)(w:fm)(h:fe)(k:FK)(a:kf):Prop:=∃o items n b u,h.get? a=some o/\o.cls= .type "tuple" /\o.data= .seq items n/\items.toList= [.ref b, .int k.2 u] /\IsTupleKey (intKind prog w) h [k.1.1,k.1.2] b
def JG.typeIs {s:ki}{k:FK}{a:kf}(x:JG prog w s.heap k a):s.TypeIs (.ref a) "tuple" :=let ⟨o,_,_,_,_,b,hc,_⟩:=x;⟨o,b,hc⟩
def JG.inj {h:fe}{a:kf}{x y:FK}(hx:JG prog w h x a)(hy:JG prog w h y a):x=y:=by obtain⟨o,items,n,b,u,i,_,hd,hi,hk⟩:=hx;obtain⟨j,c,m,p,r,k,_,e,f,l⟩:=hy;obtain rfl:o=j:=AAk (i.symm.trans k);rw[hd] at e;injection e with h1 _;subst h1;rw[hi] at f;injection f with h1 h2;injection h1 with h1;subst h1;injection h2 with h2 _;injection h2 with h2 _;have:=hk.inj l;obtain⟨⟨s,t⟩,v⟩:=x;obtain⟨⟨y1,y2⟩,y3⟩:=y;injection this with g d;injection d with d _;simp only at h2 g d;subst h2;subst g;subst d;rfl
def JG.keeps {h h':fe}{k:FK}{a d:kf}{o:Obj}{es ep}(x:JG prog w h k a)(e:h.get? d=some o)(hd:o.data= .dict es ep)(hs:Heap.SameBut d h h'):JG prog w h' k a:=by
 obtain⟨f,items,n,b,u,g,hc,c,hi,hk⟩:=x;have i:a≠d:=by rintro rfl;obtain rfl:f=o:=AAk (g.symm.trans e);rw[hd] at c;exact nomatch c
 exact⟨f,items,n,b,u,(hs.2 a i).trans g,hc,c,hi,hk.keeps e hd hs⟩
def Vp (prog:gn)(w:fm)(k:FK):Int:=reduceHash (Builtin.Tuple.tupleHashOf [tupleKeyHash (intKind prog w) [k.1.1,k.1.2],hashInt k.2])
variable {A:da}{E:kj->ki->Prop}{s:ki}
def Mx {k:FK}{a:kf}{Q:Int->ki->Prop}(hu:A.units+1<cLine)(hk:JG prog w s.heap k a)(h:Q (Vp prog w k) {s with toks:=s.toks+5}):wpAny (model prog w) A (pyHash (.ref a)) Q E s:=by
 have f:=hk.typeIs;obtain⟨o,items,n,b,u,i,_,hd,hi,j⟩:=hk;unfold pyHash;first | unfold pyHashByItsType|skip
 first | refine AAO (wpAny_cRoomFor_or (.inr (by omega)) ?_)|skip
 refine AAO (ABo f ACn.lookup ?_);show wpAny _ _ (if (some (Value.builtin "tuple.__hash__")==some Value.none)=true then _ else _) Q E s;rw[AAQ (by rw[beq_builtin_none];exact AAe)];refine AAO (ABo f ACn.lookup ?_);show wpAny _ _ (callSpecialIfBoundUnlessNone? (.ref a) "__hash__" _ >>= _) Q E s;refine AAO (wpAny_callSpecialIfBoundUnlessNone?_slot f ACn (ABL ACn f F.entry_tuple_hash ?_ (F.args_tuple_hash_1 _)));show wpAny _ _ (Builtin.Tuple.tupleItemsOf (.ref a) >>= _) _ _ s;refine AAO (ADX i hd ?_);refine AAO ?_;rw[<-ADY,hi];refine ACo _
  (λrest (r:Array Int) d=>(rest= [.ref b, .int k.2 u] /\r.toList= [] /\d=s)\/(rest= [.int k.2 u] /\r.toList= [tupleKeyHash (intKind prog w) [k.1.1,k.1.2]] /\d={s with toks:=s.toks+3})\/
    (rest= [] /\r.toList= [tupleKeyHash (intKind prog w) [k.1.1,k.1.2],hashInt k.2] /\d={s with toks:=s.toks+4}))
  _ ?_ ?_ _ _ (.inl ⟨rfl,rfl,rfl⟩)
 .rintro x rest r d (⟨c,e,rfl⟩|⟨c,e,rfl⟩|⟨c,_⟩)
  .cases c;refine AAO (wpAny_pyHash_tuple (knd:=intKind prog w) (by first | exact hu|omega) j ?_);exact AAS (.inr (.inl ⟨rfl,by simp[e],rfl⟩))
  .cases c;refine AAO (wpAny_pyHash_int ?_);exact AAS (.inr (.inr ⟨rfl,by simp[e],by simp[ADZ]⟩))
  .cases c
 .rintro r d (⟨c,_⟩|⟨c,_⟩|⟨_,e,rfl⟩)
  .cases c
  .cases c
  .show wpAny _ _ (retInt (Builtin.Tuple.tupleHashOf r.toList)) _ _ _;rw[e];refine wpAny_ret_mkInt ?_;show wpAny _ _ (if (decide (-(2:Int)^63<=Builtin.Tuple.tupleHashOf [tupleKeyHash (intKind prog w) [k.1.1,k.1.2],hashInt k.2])&&decide (Builtin.Tuple.tupleHashOf [tupleKeyHash (intKind prog w) [k.1.1,k.1.2],hashInt k.2] < 2^63))=true then _ else _) Q E _;unfold Vp reduceHash at h;by_cases g:(decide (-(2:Int)^63<=Builtin.Tuple.tupleHashOf [tupleKeyHash (intKind prog w) [k.1.1,k.1.2],hashInt k.2])&&decide (Builtin.Tuple.tupleHashOf [tupleKeyHash (intKind prog w) [k.1.1,k.1.2],hashInt k.2] < 2^63))=true
   .rw [AAR g];rw[AAR g] at h;exact AAS (by simpa[ADZ] using h)
   .rw [AAQ g];rw[AAQ g] at h;exact AAO (ABP (AAS (by simpa[ADZ] using h)))
def Vq {x y:FK}{a b:kf}{P:Fin->ki->Prop}(hu:A.units<cLine)(hx:JG prog w s.heap x a)(hy:JG prog w s.heap y b)(h:P (.done (.ret (.bool (decide (x=y))))) s):wpAny (model prog w) A (Builtin.«tuple.__eq__» ⟨[.ref a, .ref b], []⟩) P E s:=by
 have B:=hy.typeIs;obtain⟨Q,xs,R,C,n,D,_,F,o,G⟩:=hx;obtain⟨S,ys,T,H,p,I,_,hdb,t,J⟩:=hy;have K:xs.size=2:=by rw[<-ABp,o];rfl
 have L:ys.size=2:=by rw[<-ABp,t];rfl
 obtain⟨⟨e,f⟩,c⟩:=x;obtain⟨⟨y1,y2⟩,y3⟩:=y;show wpAny _ _ (isInstance (.ref b) (.type "tuple") >>= _) _ _ s;refine AAO (AB1 B ADa ?_);simp only[ABZ,AA2,AAu];refine AAO (ADX D F ?_);refine AAO (ADX I hdb ?_);refine AAO ?_;rw[o,t];refine ACo _
  (λrest r g=>r.1=none/\g=s/\(rest= [(.ref C, .ref H),(.int c n, .int y3 p)] \/(rest= [(.int c n, .int y3 p)] /\e=y1/\f=y2)\/(rest= [] /\e=y1/\f=y2/\c=y3)))
  _ ?_ ?_ _ _ ⟨rfl,rfl, .inl rfl⟩
 .rintro ⟨u,v⟩ rest r g ⟨j,rfl,(hz|⟨hz,k,l⟩|⟨hz,_⟩)⟩
  .cases hz;refine AAO (wpAny_eqBool_tuple (knd:=intKind prog w) (by first | exact hu|omega) G J ?_);by_cases hk:e=y1/\f=y2
   .rw [AAZ (by rw[hk.1,hk.2])];simp only[ABZ,AA2,AAu];exact AAS ⟨rfl,rfl, .inr (.inl ⟨by first | trivial|rfl,hk⟩)⟩
   .rw [AAY (by intro z;injection z with i d;injection d with d _;exact hk ⟨i,d⟩)];simp only[Bool.not_false,ABQ];have m:decide ((((e,f),c):FK)=((y1,y2),y3))=false:=by apply AAY;intro z;injection z with i d;injection i with M N;exact hk ⟨M,N⟩
    rw[m] at h;exact AAO (AAS (AAS (AAS h)))
  .cases hz;refine AAO (wpAny_eqBool_int ?_);by_cases hk:c=y3
   .rw [show (c==y3)=true by simp[hk]];simp only[ABZ,AA2,AAu];exact AAS ⟨rfl,rfl, .inr (.inr ⟨by first | trivial|rfl,k,l,hk⟩)⟩
   .rw [show (c==y3)=false by simp[hk]];simp only[Bool.not_false,ABQ];have m:decide ((((e,f),c):FK)=((y1,y2),y3))=false:=by apply AAY;intro z;injection z with i d;exact hk d
    rw[m] at h;exact AAO (AAS (AAS (AAS h)))
  .cases hz
 .rintro ⟨r1,r2⟩ g ⟨j,rfl,(hz|⟨hz,_⟩|⟨_,k,l,O⟩)⟩
  .cases hz
  .cases hz
  .simp only at j;subst j;refine AAS ?_;show P (.done (.ret (.bool (xs.size==ys.size)))) g;rw[K,L];rw[AAZ (by rw[k,l,O])] at h;exact h
def Mw {x y:FK}{a b:kf}{Q:kc->ki->Prop}(hu:A.units+1<cLine)(hx:JG prog w s.heap x a)(hy:JG prog w s.heap y b)(h:Q (decide (x=y)) s):wpAny (model prog w) A (eqBool (.ref a) (.ref b)) Q E s:=by
 unfold eqBool;try with_reducible refine AA8 ?_
 show wpAny _ _ (if (Value.ref a==Value.ref b)=true then _ else _) Q E s;by_cases c:(Value.ref a==Value.ref b)=true
 .rw [AAR c];have e:a=b:=by have:=eq_of_beq c;injection this
  subst e;obtain rfl:=hx.inj hy;exact AAO (ABP (AAS (by simpa using h)))
 .rw [AAQ c];exact AAO (wpAny_richCompare_same_room (op:= .Eq) hx.typeIs hy.typeIs ACp
   (ABL ACp hx.typeIs F.entry_tuple_eq (Vq (by first | exact hu|omega) hx hy ⟨_,rfl,(λe=>nomatch e),ABa h⟩) (F.args_tuple_eq_2 _ _)) (by omega))
def Gz {K:Type}[DecidableEq K]{knd:KeyKind prog w K}{f:km K}{a:kf}{Q:kc->ki->Prop}(m:Nat)(hk:IsTupleKey knd s.heap f a)(h:Q true s):wpAny (model prog w) A (eqIsQuiet (m+1) (.ref a)) Q E s:=by
 have d:=hk.typeIs;obtain⟨o,items,n,g,_,hd,hi⟩:=hk;unfold eqIsQuiet;refine AAO (ABo d ACp.lookup ?_);show wpAny _ _ (isInstance (.ref a) (.type "tuple") >>= _) _ _ s;refine AAO (AB1 d ADa ?_);simp only[ABZ,AA2,AAu];refine AAO (ABM g hd ?_);refine AAO ?_;show wpAny _ _ (forIn items _ _) _ _ s;rw[<-ADY];refine ACo _ (λrest r b=>r.1=none/\b=s/\∀v∈rest,carriedByValue v=true) _ ?_ ?_ _ _ ⟨rfl,rfl,hi.byValue⟩
 .rintro v rest r b ⟨c,rfl,e⟩;rw[eqIsQuiet_byValue _ (e v ABq)];refine AAO (AAS ?_);simp only[ABZ,AA2,AAu];exact AAS ⟨rfl,rfl,λu i=>e u (AA9 _ i)⟩
 .rintro ⟨r1,r2⟩ b ⟨c,rfl,_⟩;simp only at c;subst c;exact AAS h
def Jm {k:FK}{a:kf}{Q:kc->ki->Prop}(hk:JG prog w s.heap k a)(h:Q true s):wpAny (model prog w) A (eqIsQuiet 8 (.ref a)) Q E s:=by
 have e:=hk.typeIs;obtain⟨o,items,n,b,u,f,_,hd,hi,g⟩:=hk;unfold eqIsQuiet;refine AAO (ABo e ACp.lookup ?_);show wpAny _ _ (isInstance (.ref a) (.type "tuple") >>= _) _ _ s;refine AAO (AB1 e ADa ?_);simp only[ABZ,AA2,AAu];refine AAO (ABM f hd ?_);refine AAO ?_;show wpAny _ _ (forIn items _ _) _ _ s;rw[<-ADY,hi];refine ACo _ (λrest r c=>r.1=none/\c=s/\(rest= [.ref b, .int k.2 u] \/rest= [.int k.2 u] \/rest= [])) _ ?_ ?_ _ _ ⟨rfl,rfl, .inl rfl⟩
 .rintro v rest r c ⟨d,rfl,(hz|hz|hz)⟩
  .cases hz;refine AAO (Gz (knd:=intKind prog w) 6 g ?_);simp only[ABZ,AA2,AAu];exact AAS ⟨rfl,rfl, .inr (.inl (by first | trivial|rfl))⟩
  .cases hz;rw[eqIsQuiet_byValue _ rfl];refine AAO (AAS ?_);simp only[ABZ,AA2,AAu];exact AAS ⟨rfl,rfl, .inr (.inr (by first | trivial|rfl))⟩
  .cases hz
 .rintro ⟨r1,r2⟩ c ⟨d,rfl,_⟩;simp only at d;subst d;exact AAS h
end
def fkKind (prog:gn)(w:fm):HeapKind prog w FK where
 is:=JG prog w
 hash:=Vp prog w
 draws:=λ_=>5
 room:=λA=>A.units+1<cLine
 inj:=λhx hy=>hx.inj hy
 keeps:=λx a hd hs=>x.keeps a hd hs
 pyHash:=λhu hk h=>Mx hu hk h
 eqBool:=λhu hx hy h=>Mw hu hx hy h
 quiet:=λhk h=>Jm hk h
def DZ {prog:gn}{w:fm}{A:da}(h:A.units+2<cLine):(fkKind prog w).room A.in1:=by show A.units+1+1<cLine;omega
end PySem
namespace L2
open PySem PySem.Spec PyProof.Rows
abbrev Dk:=Sum Int Str
def QH:Dk->kj->kc
 | .inl k,v=>Value.isInt k v
 | .inr x,v=>Value.isStrOf x v
def uH (w:fm):Dk->Int
 | .inl k=>hashInt k
 | .inr x=>hashStr w x
def B9:∀{k:Dk} {v:kj},QH k v=true->(∃i t,k=Sum.inl i/\v=Value.int i t)\/(∃x t,k=Sum.inr x/\v=Value.str x t)
 | .inl i,v,h=>by obtain⟨t,e⟩:=Value.isInt_shape (k:=i) (v:=v) h;exact .inl ⟨i,t,rfl,e⟩
 | .inr x,v,h=>by obtain⟨t,e⟩:=Value.isStrOf_shape (x:=x) (v:=v) h;exact .inr ⟨x,t,rfl,e⟩
def Y5 (i:Int)(t:Tok):QH (.inl i) (.int i t)=true:=by simp[QH,Value.isInt]
def Y6 (x:Str)(t:Tok):QH (.inr x) (.str x t)=true:=by simp[QH,Value.isStrOf]
def lF (a b:Int):decide ((Sum.inl a:Dk)=Sum.inl b)=(a==b):=by
 by_cases e:a=b
 .subst e;simp
 .have h:¬(Sum.inl a:Dk)=Sum.inl b:=λq=>e (Sum.inl.inj q);rw[AAY h];exact(ACq.mpr e).symm
def lI (a b:Str):decide ((Sum.inr a:Dk)=Sum.inr b)=decide (a=b):=by
 by_cases e:a=b
 .subst e;simp
 .have h:¬(Sum.inr a:Dk)=Sum.inr b:=λq=>e (Sum.inr.inj q);rw[AAY h,AAY e]
def lG (a:Int)(b:Str):decide ((Sum.inl a:Dk)=Sum.inr b)=false:=AAY (λq=>nomatch q)
def lH (a:Str)(b:Int):decide ((Sum.inr a:Dk)=Sum.inl b)=false:=AAY (λq=>nomatch q)
def CA (prog:gn)(w:fm):PySem.KeyKind prog w Dk where
 is:=QH
 hash:=uH w
 inj:=λv a b ha hb=>by
  rcases B9 ha with⟨i,t,rfl,rfl⟩|⟨x,t,rfl,rfl⟩
  .rcases B9 hb with⟨j,u,rfl,e⟩|⟨y,u,rfl,e⟩
   .injection e with c _;rw[c]
   .exact nomatch e
  .rcases B9 hb with⟨j,u,rfl,e⟩|⟨y,u,rfl,e⟩
   .exact nomatch e
   .injection e with c _;rw[c]
 byValue:=λk v h=>by rcases B9 h with⟨i,t,rfl,rfl⟩|⟨x,t,rfl,rfl⟩ <;> rfl
 pyHash:=λhv h=>by
  rcases B9 hv with⟨i,t,rfl,rfl⟩|⟨x,t,rfl,rfl⟩
  .exact wpAny_pyHash_int h
  .exact wpAny_pyHash_str h
 eqBool:=λhu hv h=>by
  rcases B9 hu with⟨i,t,rfl,rfl⟩|⟨x,t,rfl,rfl⟩
  .rcases B9 hv with⟨j,u,rfl,rfl⟩|⟨y,u,rfl,rfl⟩
   .rw [lF] at h;exact wpAny_eqBool_int h
   .rw [lG] at h;exact SeqAt.EqAt.int_str i t y u _ _ _ _ h
  .rcases B9 hv with⟨j,u,rfl,rfl⟩|⟨y,u,rfl,rfl⟩
   .rw [lH] at h;exact SeqAt.EqAt.str_int x t j u _ _ _ _ h
   .rw [lI] at h;exact wpAny_eqBool_str h
 «strs»:=λk x t v h=>by
  rcases B9 h with⟨i,u,rfl,e⟩|⟨y,u,rfl,e⟩
  .exact nomatch e
  .injection e with c _;subst c;cases v <;> rfl
def UM (prog:gn)(w:fm)(i:Int)(t:Tok):(CA prog w).is (.inl i) (.int i t)=true:=Y5 i t
def UN (prog:gn)(w:fm)(x:Str)(t:Tok):(CA prog w).is (.inr x) (.str x t)=true:=Y6 x t
inductive V where
 | non|bl (b:Bool)|int (i:Int)|str (x:Str)|byt (b:Array UInt8)|flt (b:UInt64)|ref (a:Addr)|ty (n:String)
 deriving DecidableEq
def RelV:V->kj->Prop
 | .non,u=>u=Value.none
 | .bl b,u=>u=Value.bool b
 | .int i,u=>∃t,u=Value.int i t
 | .str x,u=>∃t,u=Value.str x t
 | .byt b,u=>∃t,u=Value.bytes b t
 | .flt b,u=>∃t,u=Value.float b t
 | .ref a,u=>u=Value.ref a
 | .ty n,u=>u=Value.type n
abbrev A3:km V->km kj->Prop:=Paired RelV
def A3.length {xs:km V}{a:km kj}(r:A3 xs a):xs.length=a.length:=ACN r
theorem A3.get:∀{xs:km V} {a:km kj} {i:Nat} {x:V},A3 xs a->xs[i]? =some x->∃u,a[i]? =some u/\RelV x u
 | _,_,_,_, .nil,e=>by simp at e
 | _,_,0,_, .cons r _,e=>by simp at e;subst e;exact⟨_,rfl,r⟩
 | _,_,i+1,x, .cons _ t,e=>by obtain⟨u,h1,h2⟩:=A3.get (i:=i) (x:=x) t (by simpa using e);exact⟨u,by simpa using h1,h2⟩
theorem A3.set {x:V}{u:kj}(r:RelV x u):∀{xs:km V} {a:km kj} (i:Nat),A3 xs a->A3 (xs.set i x) (a.set i u)
 | _,_,_, .nil=> .nil
 | _,_,0, .cons _ t=> .cons r t
 | _,_,i+1, .cons q t=> .cons q (A3.set r i t)
theorem A3.append:∀{xs ys:km V} {a b:km kj},A3 xs a->A3 ys b->A3 (xs++ys) (a++b)
 | _,_,_,_, .nil,s=>s
 | _,_,_,_, .cons r t,s=> .cons r (A3.append t s)
theorem A3.take:∀{xs:km V} {a:km kj} (n:Nat),A3 xs a->A3 (xs.take n) (a.take n)
 | _,_,0,_=> .nil
 | _,_,_+1, .nil=> .nil
 | _,_,n+1, .cons r t=> .cons r (A3.take n t)
theorem A3.drop:∀{xs:km V} {a:km kj} (n:Nat),A3 xs a->A3 (xs.drop n) (a.drop n)
 | _,_,0,r=>r
 | _,_,_+1, .nil=> .nil
 | _,_,n+1, .cons _ t=>A3.drop n t
def A3.none_of:∀{xs:km V} {a:km kj} {i:Nat},A3 xs a->xs[i]? =none->a[i]? =none:=λ{xs a i} r e=>by have h1:=r.length;have h2:xs.length<=i:=AD9.mp e;exact AD9.mpr (by omega)
def J6:ke V->ke kj->Prop
 | some v,some u=>RelV v u
 | none,none=>True
 | _,_=>False
def KV {a:Type}:km (a×V)->km (a×kj)->Prop:=Paired λ(p:a×V) (q:a×kj)=>p.1=q.1/\RelV p.2 q.2
def kV:Dk->V
 | .inl i=> .int i
 | .inr x=> .str x
inductive HO where
 | lst (xs:List V)
 | tup (xs:List V)
 | dK (kvs:List (Dk×V))|dT (kvs:List (List Dk×V))|dN (K:AAP) (kvs:List (PySem.FK×V))
 | set (S:Int->Bool) (n:Nat)
 | ins (C dx:Addr) (fs:List (Str×V))
 | own (x:Addr)
 | xd (fs:List (Str×V))
 | met (f x:Addr)
 | rng (lo hi:Int)
 | frz (o:Obj) (u:HO)
 | tbl (ps:Array Value)
 | ext (φ:Heap->Prop)
abbrev Hp:=kf->ke HO
def upd (H:Hp)(a:kf)(o:HO):Hp:=λb=>if b=a then some o else H b
def Ah {H:Hp}{a:kf}{o:HO}:upd H a o a=some o:=by unfold upd;rw[AAR rfl]
def Al {H:Hp}{a b:kf}{o:HO}(h:b≠a):upd H a o b=H b:=by unfold upd;rw[AAQ h]
def jB {H:Hp}{a:kf}{o u:HO}:upd (upd H a o) a u=upd H a u:=by
 funext b;unfold upd;split <;> rfl
def pk {H:Hp}{a b:kf}{o u:HO}(h:H a=some o)(h':H b=some u)(d:o≠u):a≠b:=by intro e;subst e;rw[h] at h';exact d (AAk h')
def A2 {H:Hp}{a b:kf}{o:HO}(h:H a=some o)(h':H b=none):a≠b:=by intro e;subst e;rw[h] at h';cases h'
def aS (K:AAP)(H:Hp)(b:kf)(t d:Int):Prop:=H b=some (.tup [.int t, .int d])\/∃(o:Obj) (a:Array kj) (n:Nat),K.lookup b=some o/\o.cls= .type "tuple" /\o.data= .seq a n/\A3 [.int t, .int d] a.toList
def GU (K:AAP)(H:Hp)(a:kf)(k:PySem.FK):Prop:=∃b,H a=some (.tup [.ref b, .int k.2])/\aS K H b k.1.1 k.1.2
def GU.stay {K:AAP}{H c:Hp}{a:kf}{k:PySem.FK}(x:GU K H a k)(d:∀b xs,H b=some (.tup xs)->c b=some (.tup xs)):GU K c a k:=let ⟨b,h1,h2⟩:=x;⟨b,d _ _ h1,h2.elim (λz=> .inl (d _ _ z)) .inr⟩
section
variable (P:gn)(w:fm)
def CD (H:Hp)(h:fe)(a:kf):HO->Prop
 | .lst xs=>xs.length<=sizeLine/\∃(c:km kj) (n:Nat),A3 xs c/\h.get? a=some {cls:= .type "list",data:= .seq c.toArray n}
 | .tup xs=>xs.length<=sizeLine/\∃c:km kj,A3 xs c/\IsTup h a c.toArray
 | .dK b=>b.length<=sizeLine/\(a==sysModules)=false/\∃vs,KV b vs/\h.DictOf (CA P w) a vs
 | .dT b=>b.length<=sizeLine/\(a==sysModules)=false/\∃xs:km (km Dk×kf×kj),
     Paired (λ(p:km Dk×V) (q:km Dk×kf×kj)=>p.1=q.1/\H q.2.1=some (.tup (p.1.map kV))/\RelV p.2 q.2.2) b xs/\
     ∃o es ep,h.get? a=some o/\o.ExactDict/\o.data= .dict es ep/\es.toList=xs.map (entryOfKey (tupleKind (CA P w)))/\(xs.map (·.1)).Nodup
 | .dN K b=>b.length<=sizeLine/\(a==sysModules)=false/\∃xs:km (PySem.FK×kf×kj),Paired (λ(p:PySem.FK×V) (q:PySem.FK×kf×kj)=>p.1=q.1/\GU K H q.2.1 p.1/\RelV p.2 q.2.2) b xs/\∃o es ep,h.get? a=some o/\o.ExactDict/\o.data= .dict es ep/\es.toList=xs.map (entryOfKey (PySem.fkKind P w))/\(xs.map (·.1)).Nodup
 | .set S n=>h.SetOf (intKind P w) a S n
 | .ins C g e=>H g=some (.own a)/\e.length<=1000/\g≠a/\h.get? a=some (PySem.W.instObj C g)/\
     ∃d,h.Ns1 g d/\(∀f,J6 (e.lookup f) (d f))/\PySem.Within d (e.map (·.1))
 | .own _=>∃o,h.get? a=some o
 | .xd e=>∃d,h.Ns1 a d/\∀f,J6 (e.lookup f) (d f)
 | .rng lo hi=>∃t u v,h.get? a=some {cls:= .type "range",data:= .fields #[.int lo t, .int hi u, .int 1 v] }
 | .frz o u=>h.get? a=some o/\CD H h a u
 | .tbl ps=>h.get? a=some {cls:= .none,data:= .fields ps}
 | .met f x=>h.get? a=some (PySem.W.methodObj (.ref f) (.ref x))
 | .ext i=>i h/\(∃o,h.get? a=some o)/\∀h1 h2:fe,i h1->(∀o,h1.get? a=some o->h2.get? a=some o)->i h2
def Jn (H:Hp)(h:fe):Prop:=∀a o,H a=some o->CD P w H h a o
end
section
variable {P:gn}{w:fm}{H H':Hp}{h h':fe}{a:kf}{o:HO}
def CD.lt (x:CD P w H h a o):a<h.objs.size:=by
 cases o with
 | lst xs=>obtain⟨_,_,_,_,e⟩:=x;exact AAU e
 | tup xs=>obtain⟨_,_,_,p⟩:=x;exact p.lt
 | dK b=>obtain⟨_,_,_,_,o,_,_,e,_⟩:=x;exact AAU e
 | dT b=>obtain⟨_,_,_,_,o,_,_,e,_⟩:=x;exact AAU e
 | dN K b=>obtain⟨_,_,_,_,o,_,_,e,_⟩:=x;exact AAU e
 | set S n=>obtain⟨o,_,_,_,e,_⟩:=x;exact AAU e
 | ins C d c=>obtain⟨_,_,_,e,_⟩:=x;exact AAU e
 | own y=>obtain⟨_,e⟩:=x;exact AAU e
 | xd c=>obtain⟨_,⟨_,_,_,e,_⟩,_⟩:=x;exact AAU e
 | rng lo hi=>obtain⟨_,_,_,e⟩:=x;exact AAU e
 | frz g u=>obtain⟨e,_⟩:=x;exact AAU e
 | tbl ps=>exact AAU (show h.get? a=some _ from x)
 | met f y=>exact AAU (show h.get? a=some _ from x)
 | ext i=>obtain⟨_,⟨_,e⟩,_⟩:=x;exact AAU e
theorem Paired.mapP {d e:Type}{F G:d->e->Prop}:∀{l₁:km d} {c:km e},Paired F l₁ c->(∀a b,F a b->G a b)->Paired G l₁ c
 | _,_, .nil,_=> .nil
 | _,_, .cons r t,f=> .cons (f _ _ r) (Paired.mapP t f)
def CD.stay (x:CD P w H h a o)(k:∀b u,(b=a\/H b=some (.own a))->h.get? b=some u->h'.get? b=some u)(A:∀b,H b=some (.own a)->H' b=some (.own a))(s:∀b xs,H b=some (.tup xs)->H' b=some (.tup xs)):CD P w H' h' a o:=by
 induction o with
 | lst xs=>obtain⟨z,i,n,r,e⟩:=x;exact⟨z,i,n,r,k _ _ (.inl rfl) e⟩
 | tup xs=>obtain⟨z,i,r,g,e,c⟩:=x;exact⟨z,i,r,g,k _ _ (.inl rfl) e,c⟩
 | dK j=>obtain⟨z,y,vs,r,g,es,ep,e,c⟩:=x;exact⟨z,y,vs,r,g,es,ep,k _ _ (.inl rfl) e,c⟩
 | dT j=> obtain⟨z,y,xs,r,g,es,ep,e,c⟩:=x;exact⟨z,y,xs,Paired.mapP r λp q z=>⟨z.1,s _ _ z.2.1,z.2.2⟩,g,es,ep,k _ _ (.inl rfl) e,c⟩
 | dN K j=> obtain⟨z,y,xs,r,g,es,ep,e,c⟩:=x;exact⟨z,y,xs,Paired.mapP r λp q z=>⟨z.1,z.2.1.stay s,z.2.2⟩,g,es,ep,k _ _ (.inl rfl) e,c⟩
 | set S n=>obtain⟨g,es,ep,t,e,c⟩:=x;exact⟨g,es,ep,t,k _ _ (.inl rfl) e,c⟩
 | ins C F B=> obtain⟨d,z,D,e,l,⟨m,es,ep,E,c⟩,r⟩:=x;exact⟨A _ d,z,D,k _ _ (.inl rfl) e,l,⟨m,es,ep,k _ _ (.inr d) E,c⟩,r⟩
 | own y=>obtain⟨g,e⟩:=x;exact⟨g,k _ _ (.inl rfl) e⟩
 | xd B=>obtain⟨l,⟨m,es,ep,e,c⟩,r⟩:=x;exact⟨l,⟨m,es,ep,k _ _ (.inl rfl) e,c⟩,r⟩
 | rng lo hi=>obtain⟨t,u,v,e⟩:=x;exact⟨t,u,v,k _ _ (.inl rfl) e⟩
 | frz g u ih=>obtain⟨e,q⟩:=x;exact⟨k _ _ (.inl rfl) e,ih q⟩
 | tbl ps=> have e:h.get? a=some {cls:= .none,data:= .fields ps}:=x;show h'.get? a=some {cls:= .none,data:= .fields ps};exact k a _ (.inl rfl) e
 | met f y=> have e:h.get? a=some (PySem.W.methodObj (.ref f) (.ref y)):=x;show h'.get? a=some (PySem.W.methodObj (.ref f) (.ref y));exact k a _ (.inl rfl) e
 | ext G=>obtain⟨p,⟨o,e⟩,st⟩:=x;exact⟨st _ _ p λo q=>k _ _ (.inl rfl) q,⟨o,k _ _ (.inl rfl) e⟩,st⟩
def Jn.lt (x:Jn P w H h)(e:H a=some o):a<h.objs.size:=(x a o e).lt
def Jn.fresh (x:Jn P w H h)(e:h.objs.size<=a):H a=none:=by
 cases q:H a with
 | none=>rfl
 | some u=>exact absurd (AAs (x.lt q) e) (ABb _)
def Jn.kept (x:Jn P w H h)(k:∀b u,h.get? b=some u->h'.get? b=some u):Jn P w H h':=λa o e=>
 (x a o e).stay (λb u _ q=>k b u q) (λ_ q=>q) λ_ _ q=>q
def Jn.laid (x:Jn P w H h)(k:∀b u,h.get? b=some u->h'.get? b=some u)(hp:h.objs.size<=a)(new:CD P w (upd H a o) h' a o):Jn P w (upd H a o) h':=λb u e=>by
 have hn:=x.fresh hp;by_cases hb:b=a
 .subst hb;rw[Ah] at e;cases e;exact new
 .rw [Al hb] at e;exact(x b u e).stay (λc v _ q=>k c v q) (λc q=>by rw[Al (A2 q hn)];exact q) λc xs q=>by rw[Al (A2 q hn)];exact q
end
def Rd (H:Hp)(a:kf)(u:HO):Prop:=H a=some u\/∃o,H a=some (.frz o u)
def Rd.of {H:Hp}{a:kf}{u:HO}(h:H a=some u):Rd H a u:= .inl h
def Rd.ok {P:gn}{w:fm}{H:Hp}{h:fe}{a:kf}{u:HO}(r:Rd H a u)(x:Jn P w H h):CD P w H h a u:=by
 rcases r with r|⟨o,r⟩
 .exact x a u r
 .obtain ⟨_,q⟩:=x a _ r;exact q
def oB:ke HO->Prop
 | some (.lst _)=>True
 | some (.dK _)=>True
 | some (.dT _)=>True
 | some (.dN _ _)=>True
 | some (.set _ _)=>True
 | some (.ins _ _ _)=>True
 | some (.ext _)=>True
 | _=>False
section
variable {P:gn}{w:fm}{H:Hp}{h h':fe}{x e:kf}{o':HO}
def Jn.write (ok:Jn P w H h)(f:oB (H x))(he:e=x\/H e=some (.own x))(k:∀b u,b≠e->h.get? b=some u->h'.get? b=some u)(j:∃u,h'.get? e=some u)(new:CD P w (upd H x o') h' x o'):Jn P w (upd H x o') h':=λb u q=>by
 have a:∀c y,H c=some (.own y)->c≠x:=λc y r z=>by subst z;rw[r] at f;exact f
 have d:∀c xs,H c=some (.tup xs)->c≠x:=λc xs r z=>by subst z;rw[r] at f;exact f
 by_cases hb:b=x
 .subst hb;rw[Ah] at q;cases q;exact new
 .rw [Al hb] at q;by_cases g:b=e
  .have i:H b=some (.own x):=by
    rcases he with z|z
    .exact absurd (g.trans z) hb
    .rw [g];exact z
   rw[q] at i;cases i;obtain⟨v,hv⟩:=j;exact⟨v,by rw[g];exact hv⟩
  .refine (ok b u q).stay (λc v hc r=>k c v ?_ r) (λc r=>by rw[Al (a c b r)];exact r) λc xs r=>by rw[Al (d c xs r)];exact r
   rcases hc with rfl|hc
   .exact g
   .rintro rfl;rcases he with z|z
    .exact a c b hc z
    .rw [hc] at z;cases z;exact hb rfl
end
structure Un (fs ex:List Addr) (H H':Hp) (h h':Heap):Prop where
 keep:∀b o,h.get? b=some o->H b=none->b ∉ fs->b ∉ ex->h'.get? b=some o
 slot:∀b o,h.get? b=some o->H b=none->b∈fs->b ∉ ex->∃sl,h'.get? b=some {o with slots:=sl}
 free:∀b o,h.get? b=some o->H b=none->b ∉ ex->H' b=none
 there:∀b o,h.get? b=some o->b ∉ ex->∃o',h'.get? b=some o'
 tups:∀b xs,H b=some (.tup xs)->H' b=some (.tup xs)
 frzs:∀b o u,H b=some (.frz o u)->H' b=some (.frz o u)
 tbls:∀b ps,H b=some (.tbl ps)->∃more,H' b=some (.tbl (ps++more))
section
variable {fs fs' ex ex':km kf}{H H1 H2:Hp}{h h1 h2 h':fe}{a x e:kf}{o:HO}
def Un.any (u:Un fs ex H H1 h h1){b:kf}{c:Obj}(q:h.get? b=some c)(n:H b=none)(hx:b ∉ ex):∃d,h1.get? b=some {c with slots:=d}:=by
 by_cases hb:b∈fs
 .exact u.slot b c q n hb hx
 .exact ⟨c.slots,u.keep b c q n hb hx⟩
def Un.trans (a:Un fs ex H H1 h h1)(b:Un fs ex H1 H2 h1 h2):Un fs ex H H2 h h2 where
 keep:=λc d q n hc hx=>b.keep c d (a.keep c d q n hc hx) (a.free c d q n hx) hc hx
 slot:=λc d q n hc hx=>by obtain⟨k,f⟩:=a.slot c d q n hc hx;obtain⟨g,i⟩:=b.slot c _ f (a.free c d q n hx) hc hx;exact⟨g,i⟩
 free:=λc d q n hx=>by obtain⟨j,f⟩:=a.there c d q hx;exact b.free c j f (a.free c d q n hx) hx
 there:=λc d q hx=>by obtain⟨j,f⟩:=a.there c d q hx;exact b.there c j f hx
 tups:=λc xs q=>b.tups c xs (a.tups c xs q)
 frzs:=λc d xs q=>b.frzs c d xs (a.frzs c d xs q)
 tbls:=λc ps q=>by obtain⟨m1,f⟩:=a.tbls c ps q;obtain⟨m2,i⟩:=b.tbls c _ f;exact⟨m1++m2,by rw[i,Array.append_assoc]⟩
def Un.kept (k:∀b u,h.get? b=some u->h'.get? b=some u):Un fs ex H H h h':=
 ⟨λb c q _ _ _=>k b c q,λb c q _ _ _=>⟨c.slots,k b c q⟩,λ_ _ _ n _=>n,λb c q _=>⟨c,k b c q⟩,λ_ _ q=>q,λ_ _ _ q=>q,λ_ ps q=>⟨#[],by rw[q];simp⟩⟩
def Un.refl:Un fs ex H H h h:=Un.kept λ_ _ q=>q
def Un.laid (k:∀b u,h.get? b=some u->h'.get? b=some u)(hp:h.objs.size<=a)(hn:H a=none):Un fs ex H (upd H a o) h h' where
 keep:=λb u q _ _ _=>k b u q
 slot:=λb u q _ _ _=>⟨u.slots,k b u q⟩
 free:=λb u q n _=>by rw[Al (AAc (AAs (AAU q) hp))];exact n
 there:=λb u q _=>⟨u,k b u q⟩
 tups:=λb xs q=>by rw[Al (A2 q hn)];exact q
 frzs:=λb u xs q=>by rw[Al (A2 q hn)];exact q
 tbls:=λb ps q=>⟨#[],by rw[Al (A2 q hn),q];simp⟩
def Un.write (c:oB (H x))(he:e=x\/H e=some (.own x))(k:∀b u,b≠e->h.get? b=some u->h'.get? b=some u)(g:∃u,h'.get? e=some u):Un fs ex H (upd H x o) h h':=by
 have hx:∀b,H b=none->b≠x:=λb n z=>by subst z;rw[n] at c;exact c
 have hb:∀b,H b=none->b≠e:=λb n z=>by
  subst z;rcases he with r|r
  .exact hx b n r
  .rw [n] at r;cases r
 have d:∀b u,H b=some u->¬oB (some u)->b≠x:=λb u q i z=>by subst z;rw[q] at c;exact i c
 refine⟨λb u q n _ _=>k b u (hb b n) q,λb u q n _ _=>⟨u.slots,k b u (hb b n) q⟩,λb u q n _=>by rw[Al (hx b n)];exact n,λb u q _=> ?_,
  λb xs q=>by rw[Al (d b _ q λz=>z)];exact q,λb u xs q=>by rw[Al (d b _ q λz=>z)];exact q,λb ps q=>⟨#[],by rw[Al (d b _ q λz=>z),q];simp⟩⟩
 by_cases f:b=e
 .subst f;exact g
 .exact ⟨u,k b u f q⟩
def Un.mono (u:Un fs ex H H1 h h1)(hs:∀b∈fs,b∈fs')(hx:∀b∈ex,b∈ex'):Un fs' ex' H H1 h h1:=
 ⟨λb c q n hb he=>u.keep b c q n (λz=>hb (hs b z)) λz=>he (hx b z),λ_ _ q n _ he=>u.any q n λz=>he (hx _ z),λb c q n he=>u.free b c q n λz=>he (hx b z),λb c q he=>u.there b c q λz=>he (hx b z),u.tups,u.frzs,u.tbls⟩
end
def rj (h:fe)(H:Hp):km kf:=(List.range h.objs.size).filter λa=>(H a).isSome
def RT (h:fe)(H:Hp):fe:=PySem.W.hideAll h (rj h H)
def Yz (h:fe)(H:Hp):(RT h H).objs.size=h.objs.size:=PySem.W.hideAll_size _ _
def bT {h:fe}{H:Hp}{b:kf}{o:Obj}(e:h.get? b=some o)(n:H b=none):(RT h H).get? b=some o:=
 PySem.W.hideAll_get _ e λa=>by have q:(H b).isSome=true:=(ABR.mp a).2;rw[n] at q;simp at q
def gw {h:fe}{H:Hp}{b:kf}{o:Obj}(e:(RT h H).get? b=some o):h.get? b=some o/\H b=none:=by
 have a:h.get? b=some o:=PySem.W.of_hideAll (rj h H) e;refine⟨a, ?_⟩;cases q:H b with
 | none=>rfl
 | some x=> have c:b∈rj h H:=ABR.mpr ⟨ACr.mpr (AAU a),by simp[q]⟩;have z:(RT h H).get? b=none:=PySem.W.hideAll_none (rj h H) c;rw[z] at e;cases e
def fu (g h:fe)(L:kf):km (kf×Obj):=(List.range h.objs.size).filterMap λa=>if a=L\/(g.get? a).isSome=true then none else (h.get? a).map λo=>(a,o)
def rest (g h:fe)(L d:kf):km (kf×Obj):=(fu g h L).filter λp=>decide (p.1≠d)
structure Mod (K:AAP) (mg:Str->Option Value) (base:Heap):Prop where
 kin:K.In base
 glob:base.Ns mainGlobals mg
 blt:∃mb,base.Ns builtinsNs mb/\∀x:Str,x≠"__name__" ->mb x=bootBuiltins x
 nolimit:base.NoLimit
structure Cx where
 prog:Program
 w:World
 K:AAP
 mg:Str->Option Value
 base:Heap
 A:Around
 N:List Str
 s₀:Shared
 H₀:Hp
 env:Env
 outer:List Env
 stack:List Env
 ex:List Addr
 fn:Str->Bool
 calm:Bool
 pn:List (Addr×Obj)
 xe:Value->Shared->Prop
def Zw (l:km Env):km kf:=l.filterMap (·.frame)
abbrev Cx.fs (X:Cx):km kf:=Zw X.outer
def kB (sc:Scope)(x:Str):Prop:=sc.names.lookup x=some .local\/sc.names.lookup x=some .cell\/sc.names.lookup x=some .free
def Loc (sc:Scope)(x:Str):Prop:=sc.names.lookup x=some .local\/sc.names.lookup x=some .cell
def Look (env:Env)(h:fe)(m:Str->ke kj)(x:Str)(u:kj):Prop:=
 (env.kindOf x=some .local/\m x=some u)\/((env.kindOf x=some .cell\/env.kindOf x=some .free)/\∃c,env.cells.lookup x=some c/\h.IsCell c (some u))
structure Cx.Ok (X:Cx):Prop where
 mod:Mod X.K X.mg X.base
 kind:X.env.scope.kind= .function
 glob:X.env.globals=mainGlobals
 blt:X.env.builtins=builtinsNs
 above:X.s₀.heap.objs.size<=X.env.locals
 inj:∀x y c,X.env.cells.lookup x=some c->X.env.cells.lookup y=some c->x=y
 has:∀x,(X.env.kindOf x=some .cell\/X.env.kindOf x=some .free)->∃c,X.env.cells.lookup x=some c
 cab:∀x c,X.fn x=true->X.env.cells.lookup x=some c->X.s₀.heap.objs.size<=c
 hd:X.calm=true->X.A.handled=none
 frames:X.A.frames=some X.stack
 stk:X.stack=X.outer\/(X.stack=X.env::X.outer/\X.env.frame=some X.env.locals)
 exf:∀b∈X.ex,b≠X.env.locals/\∀x c,X.env.cells.lookup x=some c->c≠b
 bs:∀b o,X.base.get? b=some o->X.s₀.heap.get? b=some o/\X.H₀ b=none
 bsz:X.base.objs.size<=X.s₀.heap.objs.size
 noex:∀b o,X.base.get? b=some o->b ∉ X.ex
 exfs:∀b∈X.ex,b ∉ X.fs
 funs:X.s₀.heap.FunFrames X.base X.outer
 frf:∀b∈X.fs,X.H₀ b=none
structure Inv (X:Cx) (Wf:List (Addr×Obj)) (σ:List (Option V)) (H:Hp) (s:Shared):Prop where
 ok:X.Ok
 os:s.os=X.s₀.os
 bare:AllBare s.gens
 base:Un X.fs X.ex X.H₀ H X.s₀.heap s.heap
 loc:∃m,s.heap.Ns X.env.locals m/\∀(i:Nat) (x:Str) (v:V),X.N[i]? =some x->σ[i]? =some (some v)->kB X.env.scope x->∃u,RelV v u/\Look X.env s.heap m x u
 cell:∀x c,X.env.cells.lookup x=some c->∃v,s.heap.IsCell c v
 free:H X.env.locals=none
 freeC:∀x c,X.env.cells.lookup x=some c->H c=none
 pin:∀p∈X.pn++Wf,s.heap.get? p.1=some p.2/\H p.1=none/\p.1≠X.env.locals/\p.1 ∉ X.fs/\∀v,p.2.data≠ .cell v
 hok:Jn X.prog X.w H s.heap
 len:σ.length=X.N.length
section
variable {X:Cx}{Wf:km (kf×Obj)}{σ:km (ke V)}{H H':Hp}{s:ki}{h':fe}
def Cx.Ok.nofr (ok:X.Ok){b:kf}{o:Obj}(e:X.base.get? b=some o):b ∉ X.fs:=λhb=>by have:=(ok.funs.mem hb).1;rw[e] at this;cases this
def Inv.bs (I:Inv X Wf σ H s):∀b o,X.base.get? b=some o->s.heap.get? b=some o/\H b=none:=λb o e=>
 ⟨I.base.keep b o (I.ok.bs b o e).1 (I.ok.bs b o e).2 (I.ok.nofr e) (I.ok.noex b o e),I.base.free b o (I.ok.bs b o e).1 (I.ok.bs b o e).2 (I.ok.noex b o e)⟩
def Inv.bk (I:Inv X Wf σ H s):∀b o,X.base.get? b=some o->s.heap.get? b=some o:=λb o e=>(I.bs b o e).1
def Inv.mod (I:Inv X Wf σ H s):Mod X.K X.mg X.base:=I.ok.mod
def Inv.kIn (I:Inv X Wf σ H s):X.K.In s.heap:=I.ok.mod.kin.keeps I.bk
def Inv.nolimit (I:Inv X Wf σ H s):s.heap.NoLimit:=I.ok.mod.nolimit.keeps I.bk
def Inv.fr (I:Inv X Wf σ H s):∃m,Fr X.base X.env.locals s.heap m:=
 let ⟨m,hn,_⟩:=I.loc
 ⟨m,hn,I.bk,AAl I.ok.bsz I.ok.above⟩
def Inv.lt (I:Inv X Wf σ H s):X.env.locals<s.heap.objs.size:=let ⟨_,hn,_⟩:=I.loc;hn.lt
def Inv.sz (I:Inv X Wf σ H s):X.s₀.heap.objs.size<=s.heap.objs.size:=AAl I.ok.above (ACs I.lt)
def Inv.nofs (I:Inv X Wf σ H s){a:kf}(h:s.heap.objs.size<=a):a ∉ X.fs:=λhb=>by obtain⟨_,o,b,_⟩:=I.ok.funs.mem hb;exact absurd (AAs (AAU b) (AAl I.sz h)) (ABb _)
def Inv.cne (I:Inv X Wf σ H s):∀x c,X.env.cells.lookup x=some c->c≠X.env.locals:=λx c e z=>by obtain⟨v,o,a,hd⟩:=I.cell x c e;obtain⟨m,⟨f,es,ep,b,d,_⟩,_⟩:=I.loc;rw[z,b] at a;cases a;rw[d] at hd;cases hd
def Inv.funs (I:Inv X Wf σ H s):s.heap.FunFrames X.base X.outer:=by
 have all:∀(l:km Env),(∀b∈Zw l,b∈X.fs)->X.s₀.heap.FunFrames X.base l->s.heap.FunFrames X.base l:=by
  intro l;induction l with
  | nil=>intro _ _;trivial
  | cons env r ih=> intro hs hl;obtain⟨hk,⟨L,o,a,hn,d,hd⟩,f⟩:=hl;have c:L∈X.fs:=hs L (by unfold Zw;rw[ADb,a];exact ABq);obtain⟨g,e⟩:=I.base.slot L o d (I.ok.frf L c) c λz=>I.ok.exfs L z c;exact⟨hk,⟨L,_,a,hn,e,hd⟩,ih (λb hb=>hs b (by unfold Zw;rw[ADb,a];exact AA9 _ hb)) f⟩
 exact all X.outer (λ_ hb=>hb) I.ok.funs
def Inv.stack (I:Inv X Wf σ H s):s.heap.FunFrames X.base X.stack:=by
 rcases I.ok.stk with e|⟨e,a⟩
 .rw [e];exact I.funs
 .rw [e];obtain⟨m,hn,_⟩:=I.loc;refine .cons (by rw[I.ok.kind];decide) a hn ?_ I.funs;exact Heap.get?_none_of_le (AAl I.ok.bsz I.ok.above)
def Inv.stkSub (I:Inv X Wf σ H s):∀b∈Zw X.stack,b∈X.env.locals::X.fs:=λb hb=>by
 rcases I.ok.stk with e|⟨e,a⟩
 .rw [e] at hb;exact AA9 _ hb
 .rw [e] at hb;unfold Zw at hb;rw[ADb,a] at hb;exact hb
def Inv.stkFree (I:Inv X Wf σ H s):∀b∈Zw X.stack,H b=none:=λb hb=>by
 rcases AAT.mp (I.stkSub b hb) with e|hb
 .rw [e];exact I.free
 .obtain ⟨_,o,a,_⟩:=I.ok.funs.mem hb;exact I.base.free b o a (I.ok.frf b hb) λz=>I.ok.exfs b z hb
def Inv.step {g':Array GenState}{t':Nat}{d':Drawn}{ch:km kf}(I:Inv X Wf σ H s)(j:∀b∈ch,(b∈X.ex\/X.s₀.heap.objs.size<=b)/\b≠X.env.locals/\(∀x c,X.env.cells.lookup x=some c->c≠b)/\∀p∈X.pn++Wf,p.1≠b)(keep:∀b o,b≠X.env.locals->b ∉ X.fs->b ∉ ch->s.heap.get? b=some o->H b=none->h'.get? b=some o)(slot:∀b o,b≠X.env.locals->b∈X.fs->b ∉ ch->s.heap.get? b=some o->H b=none->∃B,h'.get? b=some {o with slots:=B})(free:∀b o,b ∉ ch->s.heap.get? b=some o->H b=none->H' b=none)(there:∀b o,b ∉ ch->s.heap.get? b=some o->∃t,h'.get? b=some t)(tups:∀b xs,H b=some (.tup xs)->H' b=some (.tup xs))(frzs:∀b o u,H b=some (.frz o u)->H' b=some (.frz o u))(tbls:∀b ps,H b=some (.tbl ps)->∃more,H' b=some (.tbl (ps++more)))(F:∀m,s.heap.Ns X.env.locals m->h'.Ns X.env.locals m)(hok:Jn X.prog X.w H' h')(G:AllBare g'):Inv X Wf σ H' {s with heap:=h',gens:=g',drawn:=d',toks:=t'}:=by
 have y:∀b o,X.s₀.heap.get? b=some o->b≠X.env.locals:=λb o e=>AAc (AAs (AAU e) I.ok.above);have f:∀b o,X.s₀.heap.get? b=some o->b ∉ X.ex->b ∉ ch:=λb o e hx hb=>by
  rcases (j b hb).1 with z|z
  .exact hx z
  .exact absurd (AAs (AAU e) z) (ABb _)
 have cellK:∀x c,X.env.cells.lookup x=some c->∀v,s.heap.IsCell c v->h'.IsCell c v:=λx c e v ⟨o,h,hd⟩=>by
  have a:c ∉ ch:=λz=>(j c z).2.2.1 x c e rfl;by_cases hc:c∈X.fs
  .obtain ⟨B,q⟩:=slot c o (I.cne x c e) hc a h (I.freeC x c e);exact⟨_,q,hd⟩
  .exact ⟨o,keep c o (I.cne x c e) hc a h (I.freeC x c e),hd⟩
 refine⟨I.ok,I.os,G,⟨λb o e n hb hx=> ?_,λb o e n hb hx=> ?_,λb o e n hx=> ?_,λb o e hx=> ?_,λb xs e=>tups b xs (I.base.tups b xs e),λb o xs e=>frzs b o xs (I.base.frzs b o xs e),λb ps e=> ?_⟩, ?_,λx c e=> ?_, ?_,λx c e=> ?_,λp hp=> ?_,hok,I.len⟩
 .exact keep b o (y b o e) hb (f b o e hx) (I.base.keep b o e n hb hx) (I.base.free b o e n hx)
 .obtain ⟨B,g⟩:=I.base.slot b o e n hb hx;obtain⟨C,A⟩:=slot b _ (y b o e) hb (f b o e hx) g (I.base.free b o e n hx);exact⟨C,A⟩
 .obtain ⟨t,g⟩:=I.base.there b o e hx;exact free b t (f b o e hx) g (I.base.free b o e n hx)
 .obtain ⟨t,g⟩:=I.base.there b o e hx;exact there b t (f b o e hx) g
 .obtain ⟨m1,g⟩:=I.base.tbls b ps e;obtain⟨m2,A⟩:=tbls b _ g;exact⟨m1++m2,by rw[A,Array.append_assoc]⟩
 .obtain ⟨m,hn,hl⟩:=I.loc;refine⟨m,F m hn,λi x v g A J=> ?_⟩;obtain⟨u,r,l⟩:=hl i x v g A J;refine⟨u,r, ?_⟩;rcases l with l|⟨k,c,e,z⟩
  .exact .inl l
  .exact .inr ⟨k,c,e,cellK x c e _ z⟩
 .obtain ⟨v,z⟩:=I.cell x c e;exact⟨v,cellK x c e v z⟩
 .obtain ⟨m,⟨o,_,_,h,_⟩,_⟩:=I.loc;exact free _ o (λz=>(j _ z).2.1 rfl) h I.free
 .obtain ⟨v,o,h,hd⟩:=I.cell x c e;exact free c o (λz=>(j c z).2.2.1 x c e rfl) h (I.freeC x c e)
 .obtain ⟨e,n,D,E,d⟩:=I.pin p hp;have a:p.1 ∉ ch:=λz=>(j p.1 z).2.2.2 p hp rfl;exact⟨keep p.1 p.2 D E a e n,free p.1 p.2 a e n,D,E,d⟩
def Inv.un {t':Nat}(I:Inv X Wf σ H s)(u:Un X.fs [] H H' s.heap h')(hok:Jn X.prog X.w H' h'):Inv X Wf σ H' {s with heap:=h',toks:=t'}:=by
 obtain⟨m,⟨o,es,ep,d,r⟩,_⟩:=id I.loc;obtain⟨j,g⟩:=u.any d I.free (by simp);exact I.step (g':=s.gens) (d':=s.drawn) (ch:= []) (λ_ z=>nomatch z) (λb o _ hb _ e n=>u.keep b o e n hb (by simp)) (λb o _ hb _ e n=>u.slot b o e n hb (by simp)) (λb o _ e n=>u.free b o e n (by simp)) (λb o _ e=>u.there b o e (by simp)) u.tups u.frzs u.tbls (λk h=>by
  obtain⟨l,a,c,f,i⟩:=h;rw[d] at f;cases f;exact⟨_,a,c,g,i⟩) hok I.bare
def Inv.call {g':Array GenState}{t':Nat}{d':Drawn}{ch:km kf}(I:Inv X Wf σ H s)(u:Un (Zw X.stack) ch H H' s.heap h')(hok:Jn X.prog X.w H' h')(j:AllBare g')(g:∀b∈ch,(b∈X.ex\/X.s₀.heap.objs.size<=b)/\b≠X.env.locals/\(∀x c,X.env.cells.lookup x=some c->c≠b)/\∀p∈X.pn++Wf,p.1≠b):Inv X Wf σ H' {s with heap:=h',gens:=g',drawn:=d',toks:=t'}:=by
 obtain⟨m,⟨o,es,ep,h,r⟩,_⟩:=id I.loc;obtain⟨t,a⟩:=u.any h I.free λz=>(g _ z).2.1 rfl;exact I.step (ch:=ch) g (λb o a hb hc e n=>u.keep b o e n (λz=>(AAT.mp (I.stkSub b z)).elim a hb) hc) (λb o _ _ hc e n=>u.any e n hc) (λb o hc e n=>u.free b o e n hc) (λb o hc e=>u.there b o e hc) u.tups u.frzs u.tbls (λv k=>by
  obtain⟨y,d,f,i,l⟩:=k;rw[h] at i;cases i;exact⟨_,d,f,a,l⟩) hok j
def Inv.turned {t':Nat}{it:kf}(I:Inv X Wf σ H s)(k:∀b o,b≠it->s.heap.get? b=some o->h'.get? b=some o)(hn:H it=none)(d:it≠X.env.locals)(h1:it∈X.ex\/X.s₀.heap.objs.size<=it)(h2:∀x c,X.env.cells.lookup x=some c->c≠it)(f:∀p∈X.pn++Wf,p.1≠it):Inv X Wf σ H {s with heap:=h',toks:=t'}:=by
 have a:∀b u,H b=some u->b≠it:=λb u e z=>by rw[z,hn] at e;cases e
 refine I.step (g':=s.gens) (d':=s.drawn) (ch:= [it]) (λb hb=> ?_) (λb o _ _ hc e _=>k b o (λz=>hc (by simp[z])) e) (λb o _ _ hc e _=>⟨o.slots,k b o (λz=>hc (by simp[z])) e⟩) (λ_ _ _ _ n=>n)
  (λb o hc e=>⟨o,k b o (λz=>hc (by simp[z])) e⟩) (λ_ _ e=>e) (λ_ _ _ e=>e) (λb ps e=>⟨#[],by rw[e];simp⟩) (λm g=> ?_) (λb u e=> ?_) I.bare
 .have e:b=it:=by simpa using hb
  subst e;exact⟨h1,d,h2,f⟩
 .obtain ⟨o,es,ep,h,r⟩:=g;exact⟨o,es,ep,k _ o (ABA d) h,r⟩
 .refine (I.hok b u e).stay (λc v hc q=>k c v ?_ q) (λ_ q=>q) λ_ _ q=>q;rcases hc with z|z
  .rw [z];exact a b u e
  .exact a c _ z
def Inv.tok (I:Inv X Wf σ H s)(t:Nat):Inv X Wf σ H {s with toks:=t}:=I.un (h':=s.heap) (t':=t) Un.refl I.hok
def Inv.kept {t':Nat}(I:Inv X Wf σ H s)(k:∀b u,s.heap.get? b=some u->h'.get? b=some u):Inv X Wf σ H {s with heap:=h',toks:=t'}:=I.un (Un.kept k) (I.hok.kept k)
def Inv.laid {a:kf}{o:HO}{t':Nat}(I:Inv X Wf σ H s)(k:∀b u,s.heap.get? b=some u->h'.get? b=some u)(hp:s.heap.objs.size<=a)(new:CD X.prog X.w (upd H a o) h' a o):Inv X Wf σ (upd H a o) {s with heap:=h',toks:=t'}:=I.un (Un.laid k hp (I.hok.fresh hp)) (I.hok.laid k hp new)
def Inv.write {x e:kf}{o:HO}{t':Nat}(I:Inv X Wf σ H s)(a:oB (H x))(he:e=x\/H e=some (.own x))(k:∀b u,b≠e->s.heap.get? b=some u->h'.get? b=some u)(c:∃u,h'.get? e=some u)(new:CD X.prog X.w (upd H x o) h' x o):Inv X Wf σ (upd H x o) {s with heap:=h',toks:=t'}:=I.un (Un.write a he k c) (I.hok.write a he k c new)
def Inv.weak {a:km (ke V)}(I:Inv X Wf σ H s)(hl:a.length=σ.length)(w:∀(i:Nat) v,a[i]? =some (some v)->σ[i]? =some (some v)):Inv X Wf a H s:=
 ⟨I.ok,I.os,I.bare,I.base,let ⟨m,hn,b⟩:=I.loc;⟨m,hn,λi x v c d e=>b i x v c (w i v d) e⟩,I.cell,I.free,I.freeC,I.pin,I.hok,hl.trans I.len⟩
def Inv.pins_of {a:km (kf×Obj)}(I:Inv X Wf σ H s)(h:∀p∈a,s.heap.get? p.1=some p.2/\H p.1=none/\p.1≠X.env.locals/\p.1 ∉ X.fs/\∀v,p.2.data≠ .cell v):Inv X a σ H s:=
 ⟨I.ok,I.os,I.bare,I.base,I.loc,I.cell,I.free,I.freeC,λp hp=>(AAg.mp hp).elim (λz=>I.pin p (ACt _ z)) (h p),I.hok,I.len⟩
def UO {N:km Str}(hN:N.Nodup){i j:Nat}{x:Str}(a:N[i]? =some x)(b:N[j]? =some x):i=j:=by obtain⟨h1,c⟩:=AAw.mp a;obtain⟨h2,d⟩:=AAw.mp b;exact(List.getElem_inj hN).mp (c.trans d.symm)
def QZ {M:Model}{A:da}{E:kj->ki->Prop}{i:Nat}{x:Str}{v:V}{u:kj}{Q:Unit->ki->Prop}(I:Inv X Wf σ H s)(hN:X.N.Nodup)(hi:X.N[i]? =some x)(hx:Loc X.env.scope x)(r:RelV v u)(h:∀F,Inv X Wf (σ.set i (some v)) H F->(∃a,Heap.SameBut a s.heap F.heap/\(a=X.env.locals\/X.env.cells.lookup x=some a))->Q () F)(hf:X.fn x=true\/X.env.scope.names.lookup x=some .local:=by first | exact .inl rfl|exact .inr rfl|assumption):wpAny M A (storeName X.env x u) Q E s:=by
 obtain⟨m,hn,hl⟩:=id I.loc;have tP:(X.env.scope.kind == .class||(X.env.scope.kind == .module&&X.env.locals != X.env.globals))=false:=by rw[I.ok.kind];rfl
 have l:i<σ.length:=by rw[I.len];exact(AAw.mp hi).1
 have t:=I.cne;have tracked:∀{a:kf} {h':fe},(∃o,s.heap.get? a=some o/\H a=none)->Heap.SameBut a s.heap h'->Jn X.prog X.w H h':=λ{a h'} ha hs b ob e=>by
  obtain⟨_,_,T⟩:=ha;refine(I.hok b ob e).stay (λc B hc q=>(hs.2 c ?_).trans q) (λ_ q=>q) λ_ _ q=>q;rintro rfl;rcases hc with rfl|hc
  .rw [T] at e;cases e
  .rw [T] at hc;cases hc
 rcases hx with hk|hk
 .refine wpAny_storeName_local hk hn (λh' zN hs=> ?_) tP;obtain⟨oL,_,_,zP,_⟩:=id hn;refine h _ ⟨I.ok,I.os,I.bare,⟨λb o e n hb hx=> ?_,λb o e n hb hx=> ?_,I.base.free,λb o e hx=> ?_,I.base.tups,I.base.frzs,I.base.tbls⟩,⟨_,zN,λj y G f g J=> ?_⟩,λy c e=> ?_,I.free,I.freeC,λp hp=> ?_,tracked ⟨oL,zP,I.free⟩ hs,by simpa using I.len⟩ ⟨_,hs, .inl rfl⟩
  .exact (hs.2 b (AAc (AAs (AAU e) I.ok.above))).trans (I.base.keep b o e n hb hx)
  .obtain ⟨K,f⟩:=I.base.slot b o e n hb hx;exact⟨K,(hs.2 b (AAc (AAs (AAU e) I.ok.above))).trans f⟩
  .obtain ⟨L,f⟩:=I.base.there b o e hx;exact⟨L,(hs.2 b (AAc (AAs (AAU e) I.ok.above))).trans f⟩
  .by_cases hj:j=i
   .subst hj;rw[hi] at f;cases f;rw[AEA l] at g;cases g;exact⟨u,r, .inl ⟨hk,by simp⟩⟩
   .rw [AAy (ABA hj)] at g;obtain⟨O,P,q⟩:=hl j y G f g J;refine⟨O,P, ?_⟩;rcases q with⟨k,e⟩|⟨k,c,e,z⟩
    .refine .inl ⟨k, ?_⟩;have:y≠x:=λe=>hj (UO hN f (e ▸ hi));simp[this,e]
    .exact .inr ⟨k,c,e,z.sameBut hs (t y c e)⟩
  .obtain ⟨B,z⟩:=I.cell y c e;exact⟨B,z.sameBut hs (t y c e)⟩
  .obtain ⟨e,n,C,R,d⟩:=I.pin p hp;exact⟨(hs.2 p.1 C).trans e,n,C,R,d⟩
 .have S:X.fn x=true:=by
   rcases hf with z|z
   .exact z
   .rw [z] at hk;cases hk
  obtain⟨c,hc⟩:=I.ok.has x (.inl hk);obtain⟨B,z⟩:=I.cell x c hc;refine wpAny_storeName_cell I.ok.kind hk hc z (λh' U hs=> ?_);obtain⟨W,Y,tj⟩:=id z;refine h {s with heap:=h'} ⟨I.ok,I.os,I.bare,⟨λb o e n hb hx=> ?_,λb o e n hb hx=> ?_,I.base.free,λb o e hx=> ?_,I.base.tups,I.base.frzs,I.base.tbls⟩,⟨m,hn.sameBut hs (ABA (t x c hc)),λj y G f g J=> ?_⟩,λy D e=> ?_,I.free,I.freeC,λp hp=> ?_,tracked ⟨W,Y,I.freeC x c hc⟩ hs,by simpa using I.len⟩ ⟨c,hs, .inr hc⟩
  .exact (hs.2 b (AAc (AAs (AAU e) (I.ok.cab x c S hc)))).trans (I.base.keep b o e n hb hx)
  .obtain ⟨K,f⟩:=I.base.slot b o e n hb hx;exact⟨K,(hs.2 b (AAc (AAs (AAU e) (I.ok.cab x c S hc)))).trans f⟩
  .obtain ⟨L,f⟩:=I.base.there b o e hx;exact⟨L,(hs.2 b (AAc (AAs (AAU e) (I.ok.cab x c S hc)))).trans f⟩
  .by_cases hj:j=i
   .subst hj;rw[hi] at f;cases f;rw[AEA l] at g;cases g;exact⟨u,r, .inr ⟨.inl hk,c,hc,U⟩⟩
   .rw [AAy (ABA hj)] at g;obtain⟨O,P,q⟩:=hl j y G f g J;refine⟨O,P, ?_⟩;rcases q with q|⟨k,D,e,z'⟩
    .exact .inl q
    .refine .inr ⟨k,D,e,z'.sameBut hs ?_⟩;rintro rfl;exact hj (UO hN f (I.ok.inj _ _ _ e hc ▸ hi))
  .by_cases Z:D=c
   .subst Z;exact⟨_,U⟩
   .obtain ⟨w2,z2⟩:=I.cell y D e;exact⟨w2,z2.sameBut hs Z⟩
  .obtain ⟨e,n,C,R,d⟩:=I.pin p hp;refine⟨(hs.2 p.1 ?_).trans e,n,C,R,d⟩;intro q;rw[q,Y] at e;have q':W=p.2:=AAk e;exact d B (by rw[<-q'];exact tj)
def IG {M:Model}{A:da}{E:kj->ki->Prop}{i:Nat}{x:Str}{v:V}{u:kj}{Q:Unit->ki->Prop}(I:Inv X Wf σ H s)(hN:X.N.Nodup)(hi:X.N[i]? =some x)(hx:Loc X.env.scope x)(r:RelV v u)(h:∀a,Inv X Wf (σ.set i (some v)) H a->Q () a)(b:X.fn x=true\/X.env.scope.names.lookup x=some .local:=by first | exact .inl rfl|exact .inr rfl|assumption):wpAny M A (storeName X.env x u) Q E s:=
 QZ I hN hi hx r (λa c _=>h a c) b
def Inv.call' {a:ki}{ch:km kf}(I:Inv X Wf σ H s)(d:a.os=s.os)(u:Un (Zw X.stack) ch H H' s.heap a.heap)(hok:Jn X.prog X.w H' a.heap)(f:AllBare a.gens)(g:∀b∈ch,(b∈X.ex\/X.s₀.heap.objs.size<=b)/\b≠X.env.locals/\(∀x c,X.env.cells.lookup x=some c->c≠b)/\∀p∈X.pn++Wf,p.1≠b):Inv X Wf σ H' a:=by obtain⟨h',g',d',t',h⟩:=a;have e:h=s.os:=d;subst e;exact I.call (g':=g') (t':=t') (d':=d') u hok f g
end
abbrev XK:=kj->ke kf->Hp->Prop
abbrev St:=km (ke V)
abbrev VK:=V->Hp->Prop
abbrev TE:=St->Hp->VK->Prop
abbrev TT:=St->Hp->(kc->Hp->Prop)->Prop
abbrev TA:=St->Hp->(km V->Hp->Prop)->Prop
structure Nf where
 nx:St->Hp->Prop
 rt:VK
 bk:St->Hp->Prop:=λ_ _=>False
 ct:St->Hp->Prop:=λ_ _=>False
abbrev TS:=Nf->St->Hp->Prop
def EP (X:Cx)(Wf:km (kf×Obj))(b:St)(Q:VK)(u:kj)(c:ki):Prop:=∃v a,Inv X Wf b a c/\RelV v u/\Q v a
def TP (X:Cx)(Wf:km (kf×Obj))(c:St)(Q:kc->Hp->Prop)(b:kc)(d:ki):Prop:=∃a,Inv X Wf c a d/\Q b a
def AP (X:Cx)(Wf:km (kf×Obj))(b:St)(Q:km V->Hp->Prop)(c:km kj)(d:ki):Prop:=∃vs a,Inv X Wf b a d/\A3 vs c/\Q vs a
def SP (X:Cx)(Wf:km (kf×Obj))(D:Nf)(f:Flow)(c:ki):Prop:=
 match f with
 | .next=>∃a b,Inv X Wf a b c/\D.nx a b
 | .brk=>∃a b,Inv X Wf a b c/\D.bk a b
 | .cont=>∃a b,Inv X Wf a b c/\D.ct a b
 | .ret u=>∃v a b,Inv X Wf a b c/\RelV v u/\D.rt v b
def PE (X:Cx)(e:kd)(t:TE):Prop:=
 ∀(Wf:km (kf×Obj)) (s:ki) (a:St) (H:Hp) (Q:VK),Inv X Wf a H s->t a H Q->wpAny (model X.prog X.w) X.A (eval e X.env) (EP X Wf a Q) X.xe s
def PT (X:Cx)(e:kd)(t:TT):Prop:=
 ∀(Wf:km (kf×Obj)) (s:ki) (a:St) (H:Hp) (Q:kc->Hp->Prop),Inv X Wf a H s->t a H Q->wpAny (model X.prog X.w) X.A (isTrue e X.env (eval e X.env)) (TP X Wf a Q) X.xe s
def PW (X:Cx)(e:kd)(t:TT):Prop:=
 ∀(whole:Sem kj) (Wf:km (kf×Obj)) (s:ki) (a:St) (H:Hp) (Q:kc->Hp->Prop),Inv X Wf a H s->t a H Q->wpAny (model X.prog X.w) X.A (isTrue e X.env whole) (TP X Wf a Q) X.xe s
def PW.pt {X:Cx}{e:kd}{t:TT}(h:PW X e t):PT X e t:=h _
def PA (X:Cx)(es:km kd)(t:TA):Prop:=
 ∀(a:Pos) (Wf:km (kf×Obj)) (s:ki) (b:St) (H:Hp) (Q:km V->Hp->Prop),Inv X Wf b H s->t b H Q->wpAny (model X.prog X.w) X.A (spliced (backTo a (starEach es X.env))) (AP X Wf b Q) X.xe s
def PS (X:Cx)(st:Stmt)(t:TS):Prop:=
 ∀(Wf:km (kf×Obj)) (s:ki) (a:St) (H:Hp) (D:Nf),Inv X Wf a H s->t D a H->wpAny (model X.prog X.w) X.A (exec st X.env) (SP X Wf D) X.xe s
def W4 (X:Cx)(st:km Stmt)(t:TS):Prop:=
 ∀(Wf:km (kf×Obj)) (s:ki) (a:St) (H:Hp) (D:Nf),Inv X Wf a H s->t D a H->wpAny (model X.prog X.w) X.A (execs st X.env) (SP X Wf D) X.xe s
def Bf {b:Type}{t:Sem b}{Q c:b->ki->Prop}{M:Model}{A:da}{E:kj->ki->Prop}{s:ki}(h:wpAny M A t Q E s)(hQ:∀a s,Q a s->c a s):wpAny M A t c E s:=ABD h hQ λ_ _ x=>x
section
variable {X:Cx}
def GJ (i:Nat):TE:=λa H Q=>∃v,a[i]? =some (some v)/\Q v H
def tC (v:V):TE:=λ_ H Q=>Q v H
def Rs {i:Nat}{x:Str}{b:Pos}(hN:X.N[i]? =some x)(hv:kB X.env.scope x)(hd:(x==("__debug__" :Str))=false:=by decide)(f:(x==("__classdict__" :Str))=false:=by decide):PE X (.Name x b) (GJ i):=by
 intro Wf s g H Q I h;obtain⟨v,e,h⟩:=h;obtain⟨m,hn,hl⟩:=I.loc;obtain⟨u,r,l⟩:=hl i x v hN e hv;have a:EP X Wf g Q u s:=⟨v,H,I,r,h⟩;rcases l with⟨hk,j⟩|⟨hk,c,hc,d⟩
 .exact wpAny_Name (wpAny_loadName_local I.ok.kind hk hn j a) hd
 .rcases hk with hk|hk
  .exact wpAny_Name (wpAny_loadName_cell I.ok.kind hk hc d a) hd
  .exact wpAny_Name (wpAny_loadName_free I.ok.kind hk hc d a f) hd
def BC {i j pos}:PE X (.Constant (.int i) j pos) (tC (.int i)):=λ_ _ _ H _ I h=>wpAny_Constant_int ⟨.int i,H,I.tok _,⟨_,rfl⟩,h⟩
def cz {b j pos}:PE X (.Constant (.bool b) j pos) (tC (.bl b)):=λ_ _ _ H _ I h=>Constant_bool ⟨.bl b,H,I,rfl,h⟩
def c9 {j pos}:PE X (.Constant .none j pos) (tC .non):=λ_ _ _ H _ I h=>Constant_none ⟨.non,H,I,rfl,h⟩
def mB {x j pos}:PE X (.Constant (.str x) j pos) (tC (.str x)):=λ_ _ _ H _ I h=>Calls.Constant_str ⟨.str x,H,I.tok _,⟨_,rfl⟩,h⟩
def Gl (X:Cx)(x:Str):Prop:=X.env.kindOf x=some .globalImplicit
def gj {E:kj->ki->Prop}{Wf:km (kf×Obj)}{s:ki}{b:St}{H:Hp}{x:Str}{u:kj}{a:Pos}{Q:kj->ki->Prop}(I:Inv X Wf b H s)(c:Gl X x)(d:X.mg x=some u)(h:Q u s)(hd:(x==("__debug__" :Str))=false:=by decide):wpAny (model X.prog X.w) X.A (eval (.Name x a) X.env) Q E s:=
 Calls.Name_function_global I.ok.kind c (Calls.loadGlobal_global (by rw[I.ok.glob];exact I.mod.glob.keeps I.bk) d h) hd
def Hl {E:kj->ki->Prop}{Wf:km (kf×Obj)}{s:ki}{b:St}{H:Hp}{x:Str}{u:kj}{a:Pos}{Q:kj->ki->Prop}(I:Inv X Wf b H s)(c:Gl X x)(d:X.mg x=none)(hv:bootBuiltins x=some u)(h:Q u s)(hn:x≠"__name__" :=by decide)(hd:(x==("__debug__" :Str))=false:=by decide):wpAny (model X.prog X.w) X.A (eval (.Name x a) X.env) Q E s:=by obtain⟨e,h1,h2⟩:=I.mod.blt;exact Calls.Name_function_global I.ok.kind c (Calls.loadGlobal_builtin (by rw[I.ok.glob];exact I.mod.glob.keeps I.bk) d (by rw[I.ok.blt];exact h1.keeps I.bk) ((h2 x hn).trans hv) h) hd
def DD {x:Str}{v:V}{u:kj}{a:Pos}(b:Gl X x)(c:X.mg x=none)(hv:bootBuiltins x=some u)(r:RelV v u)(hn:x≠"__name__" :=by decide)(hd:(x==("__debug__" :Str))=false:=by decide):PE X (.Name x a) (tC v):=
 λ_ _ _ H _ I h=>Hl I b c hv ⟨v,H,I,r,h⟩ hn hd
variable {a b:kd}{ta tb:TE}{pos:Pos}
def PC (X:Cx)(op:CmpOp)(a b:kd)(t:TE):Prop:=
 ∀(Wf:km (kf×Obj)) (s:ki) (e:St) (H:Hp) (Q:VK),Inv X Wf e H s->t e H Q->
  wpAny (model X.prog X.w) X.A (eval a X.env) (λv c=>wpAny (model X.prog X.w) X.A (eval b X.env) (λu d=>wpAny (model X.prog X.w) X.A (compareOp op v u) (EP X Wf e Q) X.xe d) X.xe c) X.xe s
def cU (b:kd){op:CmpOp}(h:op≠ .In)(h2:op≠ .NotIn):behindInMarks op b=false:=by
 have c:(op==CmpOp.In)=false:=by cases op <;> first | rfl|exact absurd rfl h
 have d:(op==CmpOp.NotIn)=false:=by cases op <;> first | rfl|exact absurd rfl h2
 cases b <;> simp[behindInMarks,c,d]
def tB (t:TE):TT:=λd H Q=>t d H λx e=>∃c,x= .bl c/\Q c e
def mE {op:CmpOp}{t:TE}(h:PC X op a b t)(h1:behindInMarks op b=false:=by first | exact cU _ (by decide) (by decide)|rfl):PT X (.Compare a [op] [b] pos) (tB t):=by intro Wf s e H Q I hw;refine wpAny_isTrue_Compare1 (Bf (h Wf s e H _ I hw) λv j h1=>Bf h1 λu k h2=>Bf h2 λc l ⟨x,f,g,r1,i⟩=> ?_) h1;obtain⟨d,rfl,q⟩:=i;cases r1;exact ABa ⟨f,g,q⟩
def mH {e:kd}{t:TE}(h:PE X e t)(he:∀whole,isTrue e X.env whole=(do let v <-whole;standAt e.pos;holding [v] (truthy v)):=by intro _;rfl):PT X e (tB t):=by intro Wf s c H Q I hw;refine isTrue_plain (Bf (h Wf s c H _ I hw) λv j ⟨x,f,g,r1,i⟩=> ?_) (he _);obtain⟨d,rfl,q⟩:=i;cases r1;exact ABa ⟨f,g,q⟩
variable {tA tB':TT}{rest:km kd}
def uU (t u:TT):TT:=λd H Q=>t d H λc e=>if c=true then u d e Q else Q false e
def zk (t u:TT):TT:=λd H Q=>t d H λc e=>if c=true then Q true e else u d e Q
def uY (t:TT):TT:=λd H Q=>t d H λc e=>Q (!c) e
def iP (ha:PT X a tA):PW X (.BoolOp .And [a] pos) tA:=by
 intro f Wf s d H Q I h;refine isTrue_and (Bf (ha Wf s d H Q I h) λc g e=> ?_);cases c with
 | true=>exact isTrue_and_nil e
 | false=>exact e
def mJ (ha:PT X a tA):PW X (.BoolOp .Or [a] pos) tA:=by
 intro f Wf s d H Q I h;refine isTrue_or (Bf (ha Wf s d H Q I h) λc g e=> ?_);cases c with
 | false=>exact isTrue_or_nil e
 | true=>exact e
def mI (ha:PT X a tA)(hb:PW X (.BoolOp .And (b::rest) pos) tB'):PW X (.BoolOp .And (a::b::rest) pos) (uU tA tB'):=by
 intro i Wf s d H Q I h;refine isTrue_and (Bf (ha Wf s d H _ I h) λc j ⟨e,f,g⟩=> ?_);cases c with
 | true=>exact hb i Wf j d e Q f g
 | false=>exact⟨e,f,g⟩
def qG (ha:PT X a tA)(hb:PW X (.BoolOp .Or (b::rest) pos) tB'):PW X (.BoolOp .Or (a::b::rest) pos) (zk tA tB'):=by
 intro i Wf s d H Q I h;refine isTrue_or (Bf (ha Wf s d H _ I h) λc j ⟨e,f,g⟩=> ?_);cases c with
 | true=>exact⟨e,f,g⟩
 | false=>exact hb i Wf j d e Q f g
def mF (ha:PT X a tA):PT X (.UnaryOp .Not a pos) (uY tA):=by intro Wf s d H Q I h;exact isTrue_not (ha Wf s d H (λc e=>Q (!c) e) I h)
def qk (ta tb:TE):TE:=λd H Q=>ta d H λx e=>∃c,x= .bl c/\if c=true then tb d e Q else Q (.bl false) e
def qu (ta:TE):TE:=λd H Q=>ta d H λx e=>∃c,x= .bl c/\Q (.bl (!c)) e
def l9 {op}{t:TE}(h:PE X a t):PE X (.BoolOp op [a] pos) t:=λWf s c H Q I hw=>BoolOp_one (h Wf s c H Q I hw)
def ly (ha:PE X a ta)(hb:PE X (.BoolOp .And (b::rest) pos) tb):PE X (.BoolOp .And (a::b::rest) pos) (qk ta tb):=by
 intro Wf s e H Q I h;refine BoolOp_and (Bf (ha Wf s e H _ I h) λv i ⟨x,f,g,r1,d⟩=> ?_);obtain⟨c,rfl,d⟩:=d;cases r1;refine ABa ?_;cases c with
 | true=>exact hb Wf i e f Q g d
 | false=>exact⟨.bl false,f,g,rfl,d⟩
def l8 (ha:PE X a ta):PE X (.UnaryOp .Not a pos) (qu ta):=by intro Wf s e H Q I h;refine UnaryOp_ (Bf (ha Wf s e H _ I h) λv i ⟨x,f,g,r1,d⟩=> ?_);obtain⟨c,rfl,d⟩:=d;cases r1;exact not_of (ABa ⟨.bl (!c),f,g,rfl,d⟩)
def zj (t:TT)(ta tb:TE):TE:=λd H Q=>t d H λc e=>if c=true then ta d e Q else tb d e Q
def c7 {c:kd}(hc:PT X c tA)(ha:PE X a ta)(hb:PE X b tb):PE X (.IfExp c a b pos) (zj tA ta tb):=by
 intro Wf s e H Q I h;refine wpAny_IfExp (Bf (hc Wf s e H _ I h) λd f ⟨g,i,j⟩=> ?_);cases d with
 | true=>exact ha Wf f e g Q i j
 | false=>exact hb Wf f e g Q i j
end
def FF (K:AAP)(H:Hp)(a:kf)(xs:km V):Prop:=
 Rd H a (.lst xs)\/
  ∃(o:Obj) (b:Array kj) (n:Nat),K.lookup a=some o/\o.cls= .type "list" /\o.dict=none/\o.data= .seq b n/\b.size<=sizeLine/\A3 xs b.toList
def KB (K:AAP)(H:Hp)(a:kf)(xs:km V):Prop:=
 Rd H a (.tup xs)\/
  ∃(o:Obj) (b:Array kj) (n:Nat),K.lookup a=some o/\o.cls= .type "tuple" /\o.data= .seq b n/\b.size<=sizeLine/\A3 xs b.toList
def sX:kj->ke V
 | .none=>some .non
 | .bool b=>some (.bl b)
 | .int i _=>some (.int i)
 | .str x _=>some (.str x)
 | .bytes b _=>some (.byt b)
 | .float b _=>some (.flt b)
 | .ref a=>some (.ref a)
 | .type n=>some (.ty n)
 | _=>none
def RelV.abs {x:V}{u:kj}(r:RelV x u):sX u=some x:=by
 cases x with
 | non=>cases r;rfl
 | bl _=>cases r;rfl
 | int _=>obtain⟨t,rfl⟩:=r;rfl
 | str _=>obtain⟨t,rfl⟩:=r;rfl
 | byt _=>obtain⟨t,rfl⟩:=r;rfl
 | flt _=>obtain⟨t,rfl⟩:=r;rfl
 | ref _=>cases r;rfl
 | ty _=>cases r;rfl
def RelV.inj {x y:V}{u:kj}(r:RelV x u)(q:RelV y u):x=y:=AAk (r.abs.symm.trans q.abs)
theorem A3.inj:∀{xs ys:km V} {a:km kj},A3 xs a->A3 ys a->xs=ys
 | _,_,_, .nil, .nil=>rfl
 | _,_,_, .cons r t, .cons b t'=>by rw[r.inj b,A3.inj t t']
section
variable {X:Cx}{Wf:km (kf×Obj)}{σ:St}{H:Hp}{s:ki}{a:kf}{xs ys:km V}
def FF.of {K:AAP}(h:H a=some (.lst xs)):FF K H a xs:= .inl (.inl h)
def KB.of {K:AAP}(h:H a=some (.tup xs)):KB K H a xs:= .inl (.inl h)
def Inv.list (I:Inv X Wf σ H s)(h:FF X.K H a xs):∃b:km kj,A3 xs b/\PlainL s.heap a b.toArray/\xs.length<=sizeLine:=by
 rcases h with h|⟨o,b,n,hk,hc,hd,hs,hz,r⟩
 .obtain ⟨z,b,n,r,e⟩:=h.ok I.hok;exact⟨b,r,⟨_,n,e,rfl,rfl,rfl⟩,z⟩
 .refine ⟨b.toList,r,⟨o,n,I.kIn a o hk,hc,hd,by simpa using hs⟩, ?_⟩;have e:=r.length;simp only[ABp] at e;omega
def Inv.tuple (I:Inv X Wf σ H s)(h:KB X.K H a xs):∃b:km kj,A3 xs b/\IsTup s.heap a b.toArray/\xs.length<=sizeLine:=by
 rcases h with h|⟨o,b,n,hk,hc,hs,hz,r⟩
 .obtain ⟨z,b,r,p⟩:=h.ok I.hok;exact⟨b,r,p,z⟩
 .refine ⟨b.toList,r,⟨o,I.kIn a o hk,hc,n,by simpa using hs⟩, ?_⟩;have e:=r.length;simp only[ABp] at e;omega
def Inv.list_inj (I:Inv X Wf σ H s)(h:FF X.K H a xs)(h':FF X.K H a ys):xs=ys:=by
 obtain⟨b,r,⟨o,n,e,_,_,d⟩,_⟩:=I.list h;obtain⟨its',f,⟨i,j,c,_,_,d'⟩,_⟩:=I.list h';rw[e] at c;cases c;rw[d] at d';injection d' with g _;have:b=its':=by simpa using congrArg Array.toList g
 subst this;exact r.inj f
def Inv.tuple_inj (I:Inv X Wf σ H s)(h:KB X.K H a xs)(h':KB X.K H a ys):xs=ys:=by
 obtain⟨b,r,⟨o,e,_,n,d⟩,_⟩:=I.tuple h;obtain⟨its',f,⟨i,c,_,j,d'⟩,_⟩:=I.tuple h';rw[e] at c;cases c;rw[d] at d';injection d' with g _;have:b=its':=by simpa using congrArg Array.toList g
 subst this;exact r.inj f
end
abbrev Cx.wish (X:Cx)(E:kj->ki->Prop):Cx:={X with xe:=E}
abbrev Cx.nox (X:Cx):Cx:=X.wish λ_ _=>False
def Cx.Ok.wish {X:Cx}(ok:X.Ok)(E:kj->ki->Prop):(X.wish E).Ok:=
 ⟨ok.mod,ok.kind,ok.glob,ok.blt,ok.above,ok.inj,ok.has,ok.cab,ok.hd,ok.frames,ok.stk,ok.exf,ok.bs,ok.bsz,ok.noex,ok.exfs,ok.funs,ok.frf⟩
def Cx.Ok.unwish {X:Cx}{E:kj->ki->Prop}(ok:(X.wish E).Ok):X.Ok:=
 ⟨ok.mod,ok.kind,ok.glob,ok.blt,ok.above,ok.inj,ok.has,ok.cab,ok.hd,ok.frames,ok.stk,ok.exf,ok.bs,ok.bsz,ok.noex,ok.exfs,ok.funs,ok.frf⟩
section
variable {X:Cx}{Wf:km (kf×Obj)}{σ:St}{H:Hp}{s:ki}{E:kj->ki->Prop}
def Inv.wish (I:Inv X Wf σ H s)(E:kj->ki->Prop):Inv (X.wish E) Wf σ H s:=⟨I.ok.wish E,I.os,I.bare,I.base,I.loc,I.cell,I.free,I.freeC,I.pin,I.hok,I.len⟩
def Inv.unwish (I:Inv (X.wish E) Wf σ H s):Inv X Wf σ H s:=⟨I.ok.unwish,I.os,I.bare,I.base,I.loc,I.cell,I.free,I.freeC,I.pin,I.hok,I.len⟩
def SP.unwish {D:Nf}{f:Flow}{c:ki}(h:SP (X.wish E) Wf D f c):SP X Wf D f c:=by
 cases f with
 | next=>obtain⟨a,b,I,q⟩:=h;exact⟨a,b,I.unwish,q⟩
 | brk=>obtain⟨a,b,I,q⟩:=h;exact⟨a,b,I.unwish,q⟩
 | cont=>obtain⟨a,b,I,q⟩:=h;exact⟨a,b,I.unwish,q⟩
 | ret u=>obtain⟨v,a,b,I,r,q⟩:=h;exact⟨v,a,b,I.unwish,r,q⟩
def PE.nox {e:kd}{t:TE}(h:PE X.nox e t):PE X e t:=λWf s σ H Q I hw=>
 ABD (h Wf s σ H Q (I.wish _) hw) (λ_ _ ⟨v,a,b,r,q⟩=>⟨v,a,b.unwish,r,q⟩) λ_ _ z=>False.elim z
def PT.nox {e:kd}{t:TT}(h:PT X.nox e t):PT X e t:=λWf s σ H Q I hw=>
 ABD (h Wf s σ H Q (I.wish _) hw) (λ_ _ ⟨a,b,q⟩=>⟨a,b.unwish,q⟩) λ_ _ z=>False.elim z
def W4.nox {st:km Stmt}{t:TS}(h:W4 X.nox st t):W4 X st t:=λWf s σ H D I hw=>
 ABD (h Wf s σ H D (I.wish _) hw) (λ_ _ q=>q.unwish) λ_ _ z=>False.elim z
end
section
variable {X:Cx}{st:Stmt}{rest:km Stmt}{t u:TS}{e:kd}{te:TE}{pos:Pos}
def jm:TS:=λD a H=>D.nx a H
def Zm (t u:TS):TS:=λD a H=>t {D with nx:=u D} a H
def NA:W4 X [] jm:=λ_ _ a H _ I h=>ACu ⟨a,H,I,h⟩
def CB (h1:PS X st t)(h2:W4 X rest u):W4 X (st::rest) (Zm t u):=by
 intro Wf s b H D I h;refine wpAny_execs_cons (Bf (h1 Wf s b H {D with nx:=u D} I h) λf c q=> ?_);cases f with
 | next=> obtain⟨a,d,g,q⟩:=q;exact h2 Wf c a d D g q
 | ret v=>exact q
 | brk=>exact q
 | cont=>exact q
def FW (h1:PS X st t):W4 X [st] t:=by
 intro Wf s a H D I h;refine wpAny_execs_cons (Bf (h1 Wf s a H D I h) λf b q=> ?_);cases f with
 | next=>exact ACu q
 | ret v=>exact q
 | brk=>exact q
 | cont=>exact q
def Inv.quiet {Wf:km (kf×Obj)}{a:St}{H:Hp}{s:ki}(I:Inv X Wf a H s):interactive X.env=false:=by simp[interactive,I.ok.kind]
def ji (te:TE):TS:=λD a H=>te a H λ_ b=>D.nx a b
def iO (he:PE X e te)(hs:swapsWith e none pos.line X.env=pure false:=by rfl):PS X (.Expr e pos) (ji te):=by intro Wf s a H D I h;exact wpAny_Expr_any (Bf (he Wf s a H _ I h) λv f ⟨x,b,c,r1,d⟩=>⟨a,b,c,d⟩) I.quiet hs
def eS (te:TE):TS:=λD a H=>te a H D.rt
def OV (he:PE X e te):PS X (.Return (some e) pos) (eS te):=by intro Wf s a H D I h;exact wpAny_Return_some (Bf (he Wf s a H _ I h) λv f ⟨x,b,c,r1,d⟩=>⟨x,a,b,c,r1,d⟩)
def qo (c:TT)(t u:TS):TS:=λD a H=>c a H λb d=>if b=true then t D a d else u D a d
def X0 {c:kd}{a b:km Stmt}{g:TT}(hc:PT X c g)(ha:W4 X a t)(hb:W4 X b u):PS X (.If c a b pos) (qo g t u):=by
 intro Wf s f H D I h;refine wpAny_If (Bf (hc Wf s f H _ I h) λd i ⟨j,k,l⟩=> ?_);cases d with
 | true=>exact ha Wf i f j D k l
 | false=>exact hb Wf i f j D k l
end
abbrev TG:=V->St->Hp->(St->Hp->Prop)->Prop
abbrev VS:=km V->St->Hp->(St->Hp->Prop)->Prop
def PG (X:Cx)(target:kd)(t:TG):Prop:=
 ∀(Wf:km (kf×Obj)) (s:ki) (b:St) (H:Hp) (v:V) (u:kj) (Q:St->Hp->Prop),Inv X Wf b H s->RelV v u->t v b H Q->
  wpAny (model X.prog X.w) X.A (assign target X.env u) (λ_ d=>∃a c,Inv X Wf a c d/\Q a c) X.xe s
def nF (X:Cx)(ts:km kd)(t:VS):Prop:=
 ∀(Wf:km (kf×Obj)) (s:ki) (b:St) (H:Hp) (vs:km V) (c:km kj) (Q:St->Hp->Prop),Inv X Wf b H s->A3 vs c->t vs b H Q->
  wpAny (model X.prog X.w) X.A (assignInOrder ((assignEach ts X.env).map (·.2)) c) (λ_ e=>∃a d,Inv X Wf a d e/\Q a d) X.xe s
abbrev kA:=V->V->V->Hp->(Hp->Prop)->Prop
def oC (X:Cx)(t:kA):Prop:=
 ∀(Wf:km (kf×Obj)) (s:ki) (a:St) (H:Hp) (o i v:V) (b c u:kj) (Q:Hp->Prop),Inv X Wf a H s->RelV o b->RelV i c->RelV v u->t o i v H Q->
  wpAny (model X.prog X.w) X.A (setItem b c u) (λ_ e=>∃d,Inv X Wf a d e/\Q d) X.xe s
abbrev oG:=V->V->Hp->VK->Prop
def nG (X:Cx)(op:Operator)(t:oG):Prop:=
 ∀(Wf:km (kf×Obj)) (s:ki) (a:St) (H:Hp) (x y:V) (v u:kj) (Q:VK),Inv X Wf a H s->RelV x v->RelV y u->t x y H Q->
  wpAny (model X.prog X.w) X.A (inplaceOp op v u) (EP X Wf a Q) X.xe s
section
variable {X:Cx}{pos:Pos}
def DR (i:Nat):TG:=λv a H Q=>Q (a.set i (some v)) H
def Kq {i:Nat}{x:Str}(hN:X.N.Nodup)(hi:X.N[i]? =some x)(hx:Loc X.env.scope x)(a:X.fn x=true\/X.env.scope.names.lookup x=some .local:=by first | exact .inl rfl|exact .inr rfl|assumption):PG X (.Name x pos) (DR i):=by intro Wf s c H v u Q I r h;exact wpAny_assign_Name (IG I hN hi hx r (λd b=>⟨_,H,b,h⟩) a)
def Tq:VS:=λvs a H Q=>vs= [] /\Q a H
def FT (t:TG)(u:VS):VS:=λvs b H Q=>∃v r,vs=v::r/\t v b H λa c=>u r a c Q
def Rt:nF X [] Tq:=by intro Wf s a H vs b Q I r h;obtain⟨e,h⟩:=h;subst e;cases r;exact assignInOrder_nil ⟨a,H,I,h⟩
def Hr {e:kd}{es:km kd}{t:TG}{u:VS}(h1:PG X e t)(h2:nF X es u)(hs:(assignEach (e::es) X.env).map (·.2)=assign e X.env::(assignEach es X.env).map (·.2):=by rfl):nF X (e::es) (FT t u):=by
 intro Wf s b H vs k Q I r h;obtain⟨v,l,c,h⟩:=h;subst c;cases r with
 | cons r d=> rw[hs];refine assignInOrder_cons (Bf (h1 Wf s b H _ _ _ I r h) λ_ f ⟨a,g,i,j⟩=> ?_);exact h2 Wf f a g _ _ Q i d j
def tE (b c:TE)(t:kA):TG:=λv a H Q=>b a H λo d=>c a d λi e=>t o i v e λf=>Q a f
def WR {o i:kd}{d e:TE}{t:kA}(f:PE X o d)(hi:PE X i e)(hs:oC X t)(ha:∀v,assign (.Subscript o i pos) X.env v=(do
   let a <-holding [v] (eval o X.env);let b <-holding [v,a] (eval i X.env)
   standAt pos
   holding [v,a,b] (setItem a b v)
   release [v,a,b] []):=by intro _;rfl):PG X (.Subscript o i pos) (tE d e t):=by intro Wf s c H v u Q I r h;rw[ha];refine AAO (AA8 (Bf (f Wf s c H _ I h) λa g ⟨x,j,k,r1,l⟩=> ?_));refine AAO (AA8 (Bf (hi Wf g c j _ k l) λb m ⟨y,n,p,r2,w⟩=> ?_));refine AAO (ABS (AAO (AA8 (Bf (hs Wf m c n x y v a b u _ p r1 r2 r w) λ_ C ⟨z,A,B⟩=> ?_))));exact wpAny_release ⟨c,z,A,B⟩
def U2 (te:TE)(g:TG):TS:=λD a H=>te a H λx b=>g x a b D.nx
def Ru {a e:kd}{te:TE}{g:TG}(he:PE X e te)(c:PG X a g)(hs:swapsWithSole [a] e pos.line X.env=pure false:=by rfl)(hw:swappedStores [a] e X.env=pure none:=by rfl)(h1:(assignEach [a] X.env).map (·.2)= [assign a X.env] :=by rfl):PS X (.Assign [a] e pos) (U2 te g):=by intro Wf s b H D I h;refine wpAny_Assign_stores (Bf (he Wf s b H _ I h) λv d ⟨x,f,i,r1,j⟩=> ?_) hs hw;rw[h1];exact Bf (c Wf d b f x v _ i r1 j) λ_ k q=>q
def Ff {i:Nat}{x:Str}{e:kd}{te:TE}{pos':Pos}(hN:X.N.Nodup)(hi:X.N[i]? =some x)(hx:Loc X.env.scope x)(he:PE X e te)(hs:swapsWith e (some (.Name x pos')) pos.line X.env=pure false:=by rfl)(a:X.fn x=true\/X.env.scope.names.lookup x=some .local:=by first | exact .inl rfl|exact .inr rfl|assumption):PS X (.Assign [.Name x pos'] e pos) (U2 te (DR i)):=by intro Wf s b H D I h;refine wpAny_Assign_Name (Bf (he Wf s b H _ I h) λv j ⟨y,c,d,r1,f⟩=> ?_) hs;exact IG d hN hi hx r1 (λk g=>⟨_,c,g,f⟩) a
def uZ (i j:Nat)(b:TA):TS:=λD a H=>b a H λvs c=>∃v w,vs= [v,w] /\D.nx ((a.set i (some v)).set j (some w)) c
def mD {i j:Nat}{x y:Str}{a b:kd}{r:TA}{g k l:Pos}{kt k2 pt2}(hc:X.calm=true)(hN:X.N.Nodup)(hi:X.N[i]? =some x)(hj:X.N[j]? =some y)(B:i≠j)(hx:X.env.scope.names.lookup x=some .local)(hy:X.env.scope.names.lookup y=some .local)(ha:PA X [a,b] r)(hw:swappedStores [.Tuple [.Name x g, .Name y k] kt l] (.Tuple [a,b] k2 pt2) X.env=pure (some [x,y]))(hs:swapsWithSole [.Tuple [.Name x g, .Name y k] kt l] (.Tuple [a,b] k2 pt2) pos.line X.env=pure false:=by rfl):PS X (.Assign [.Tuple [.Name x g, .Name y k] kt l] (.Tuple [a,b] k2 pt2) pos) (uZ i j r):=by
 intro Wf s t H D I h;rw[exec_Assign_arm];refine AAO (ABS ?_);rw[hs];refine AAO (AAS ?_);rw[AAQ (by decide)];refine AAO (Tuple_ (Bf (ha _ Wf s t H _ I h) λC c ⟨vs,u,E,r1,m⟩=> ?_));obtain⟨v,w,F,m⟩:=m;subst F;obtain⟨d,f,rfl,rv,n⟩:∃d f,C= [d,f] /\RelV v d/\RelV w f:=by
  cases r1 with
  | cons p q=>
    cases q with
    | cons G J=> cases J;exact⟨_,_,rfl,p,G⟩
 refine ABG ?_ (by show 2<=sizeLine;decide);have K:Inv X Wf t u {c with heap:=c.heap.push {cls:= .type "tuple",data:= .seq [d,f].toArray}}:=E.kept (t':=c.toks) λb o e=>AAV _ e;rw[hw];refine AAO (AAS ?_);show wpAny (model X.prog X.w) X.A (do rule "assign.swapped-stores";let items <-unpackItems (.ref c.heap.objs.size) 2 none;assignInOrder [λv=>bindName X.env y v,λv=>bindName X.env x v] items.reverse;pure Flow.next) _ _ _;refine AAO (ABP (AAO (unpackItems_tuple (items:= #[d,f]) (I.ok.hd hc) (IsTup.new c.heap _) λh' L=> ?_)));have M:=K.kept (h':=h') (t':=c.toks) λb o e=>L b o (AAc (AAU e)) e;show wpAny _ _ (assignInOrder [λv=>bindName X.env y v,λv=>bindName X.env x v] [f,d] >>= λ_=>pure Flow.next) _ _ _;refine AAO (assignInOrder_cons (wpAny_bindName (IG M hN hj (.inl hy) n (λP O=> ?_) (.inr hy))));refine assignInOrder_cons (wpAny_bindName (IG O hN hi (.inl hx) rv (λQ z=>assignInOrder_nil (AAS ?_)) (.inr hx)));rw[List.set_comm _ _ (ABA B)] at z;exact⟨_,u,z,m⟩
def uV (i:Nat)(te:TE)(b:oG):TS:=λD a H=>∃x,a[i]? =some (some x)/\te a H λy c=>b x y c λz d=>D.nx (a.set i (some z)) d
def mC {i:Nat}{x:Str}{e:kd}{te:TE}{op:Operator}{f:oG}{pos':Pos}(hN:X.N.Nodup)(hi:X.N[i]? =some x)(hx:Loc X.env.scope x)(he:PE X e te)(j:nG X op f)(n:X.fn x=true\/X.env.scope.names.lookup x=some .local:=by first | exact .inl rfl|exact .inr rfl|assumption):PS X (.AugAssign (.Name x pos') op e pos) (uV i te f):=by
 intro Wf s g H D I h;obtain⟨v,o,h⟩:=h;obtain⟨m,hn,hl⟩:=I.loc;have d:kB X.env.scope x:=by rcases hx with k|k;exact .inl k;exact .inr (.inl k)
 obtain⟨u,r,l⟩:=hl i x v hi o d;refine wpAny_AugAssign_Name ?_;have go:wpAny (model X.prog X.w) X.A (eval e X.env) (λw a=>wpAny (model X.prog X.w) X.A (inplaceOp op u w) (λr b=>wpAny (model X.prog X.w) X.A (storeName X.env x r) (λ_=>SP X Wf D .next) X.xe b) X.xe a) X.xe s:=by refine Bf (he Wf s g H _ I h) λw p ⟨y,t,B,r1,C⟩=> ?_;refine Bf (j Wf p g t v y u w _ B r r1 C) λz M ⟨O,E,F,r2,G⟩=> ?_;exact IG F hN hi hx r2 (λP J=>⟨_,E,J,G⟩) n
 rcases l with⟨hk,K⟩|⟨hk,c,hc,L⟩
 .exact wpAny_loadName_local I.ok.kind hk hn K go
 .rcases hk with hk|hk
  .exact wpAny_loadName_cell I.ok.kind hk hc L go
  .rcases hx with k|k
   .have:X.env.scope.names.lookup x=some .free:=hk;rw[k] at this;cases this
   .have:X.env.scope.names.lookup x=some .free:=hk;rw[k] at this;cases this
def uG (f:Int->Int->Int):oG:=λx y H Q=>∃i j,x= .int i/\y= .int j/\Q (.int (f i j)) H
def k9:nG X .Add (uG λi j=>i+j):=by intro Wf s c H x y v u Q I r1 r2 h;obtain⟨i,j,a,b,q⟩:=h;subst a;subst b;obtain⟨t,rfl⟩:=r1;obtain⟨t',rfl⟩:=r2;exact iadd_int ⟨.int _,H,I.tok _,⟨_,rfl⟩,q⟩
def mz (c:TT)(h:TS):TS:=λD a H=>∃W:Nat->St->Hp->Prop,(∃m,W m a H)/\∀m a H,W m a H->
 c a H λb e=>if b=true then ∃N:St->Hp->Prop,(∀d f,N d f->∃g,g<m/\W g d f)/\h {D with nx:=N,ct:=N,bk:=D.nx} a e else D.nx a e
def dE {c:kd}{body:km Stmt}{r:TT}{t:TS}(hp:PassesOwn (model X.prog X.w) X.A X.env X.xe)(hc:PT X c r)(hb:W4 X body t):PS X (.While c body [] pos) (mz r t):=by
 intro Wf s B H D I h;obtain⟨W,⟨m0,C⟩,turn⟩:=h;refine wpAny_While (codeAny_whileLoop (λn E=>∃e u,Inv X Wf e u E/\W n e u) ?_ m0 ⟨B,H,I,C⟩);rintro n F ⟨d,x,G,J⟩;refine ABr hp (Bf (hc Wf F d x _ G (turn n d x J)) λb K ⟨y,z,i⟩=> ?_);cases b with
 | true=>
   obtain⟨N,hN,i⟩:=i;rw[AAR rfl];refine ABr hp (Bf (hb Wf K d y _ z i) λf L j=> ?_);cases f with
   | next=> obtain⟨a,g,k,l⟩:=j;obtain⟨m,o,p⟩:=hN a g l;exact⟨m,o,a,g,k,p⟩
   | cont=> obtain⟨a,g,k,l⟩:=j;obtain⟨m,o,p⟩:=hN a g l;exact⟨m,o,a,g,k,p⟩
   | brk=>exact j
   | ret v=>exact j
 | false=> rw[AAQ AAe];exact ACu ⟨d,y,z,i⟩
end
structure It where
 go:Nat->Hp->Prop
 yld:Nat->Hp->V->Hp->Prop
 stop:Nat->Hp->Prop
def F6 (X:Cx)(Wf:km (kf×Obj))(H:Hp)(b:kf):Prop:=
 H b=none/\b≠X.env.locals/\b ∉ X.fs/\(b∈X.ex\/X.s₀.heap.objs.size<=b)/\(∀x c,X.env.cells.lookup x=some c->c≠b)/\∀p∈X.pn++Wf,p.1≠b
def Inv.fpOk {X:Cx}{Wf:km (kf×Obj)}{d:St}{H a:Hp}{s:ki}{b:kf}(I:Inv X Wf d H s)(hb:s.heap.objs.size<=b)(hn:a b=none):F6 X Wf a b:=by
 refine⟨hn,ABT (AAs I.lt hb),I.nofs hb, .inr (AAl I.sz hb),λx c e z=> ?_,λp hp z=> ?_⟩
 .obtain ⟨v,q⟩:=I.cell x c e;exact absurd (AAs q.lt (by rw[z];exact hb)) (ABb _)
 .exact absurd (AAs (AAU (I.pin p hp).1) (by rw[z];exact hb)) (ABb _)
structure Nm (P:Program) (w:World) (K:AAP) (tg:Expr) (J:It) (fp:List Addr) (it:Addr) (tn:Nat->Heap->Prop):Prop where
 mem:it∈fp
 obj:∀i h,tn i h->∀b∈fp,∃o,h.get? b=some o/\∀v,o.data≠ .cell v
 keep:∀i h h',tn i h->(∀b∈fp,∀o,h.get? b=some o->h'.get? b=some o)->tn i h'
 item:∀(X:Cx),X.prog=P->X.w=w->X.K=K->X.calm=true->∀(i:Nat) (Wf:List (Addr×Obj)) (s:Shared) (σ:St) (H:Hp) (E:Value->Shared->Prop),Inv X Wf σ H s->(∀b∈fp,F6 X Wf H b)->tn i s.heap->J.go i H->
  wpAny (model P w) X.A (pyNext (.ref it)) (λr s1=>∃u,r=some u/\
   wpAny (model P w) X.A (letOwnedTupleGo tg (.ref it) u) (λ_ s2=>∃x H',Inv X Wf σ H' s2/\RelV x u/\J.yld i H x H'/\tn (i+1) s2.heap/\∀b∈fp,H' b=none) E s1) E s
 done:∀(X:Cx),X.prog=P->X.w=w->X.K=K->X.calm=true->∀(i:Nat) (Wf:List (Addr×Obj)) (s:Shared) (σ:St) (H:Hp) (E:Value->Shared->Prop),Inv X Wf σ H s->(∀b∈fp,F6 X Wf H b)->tn i s.heap->J.stop i H->
  wpAny (model P w) X.A (pyNext (.ref it)) (λr s1=>r=none/\Inv X Wf σ H s1) E s
 self:∀(A:Around) (i:Nat) (s:Shared) (Q:Value->Shared->Prop) (E:Value->Shared->Prop),tn i s.heap->Q (.ref it) s->wpAny (model P w) A (pyIter (.ref it)) Q E s
abbrev TI:=St->Hp->(It->Hp->Prop)->Prop
def v3 (X:Cx)(Wf:km (kf×Obj))(f:St)(g:kd)(R:It->Hp->Prop)(a:kj)(d:ki):Prop:=
 ∃(it:kf) (e:km kf) (tn:Nat->fe->Prop) (J:It) (c:Hp),a= .ref it/\Inv X Wf f c d/\Nm X.prog X.w X.K g J e it tn/\tn 0 d.heap/\(∀b∈e,F6 X Wf c b)/\R J c
def PI (X:Cx)(b iter:kd)(c:TI):Prop:=
 ∀(Wf:km (kf×Obj)) (s:ki) (a:St) (H:Hp) (R:It->Hp->Prop),Inv X Wf a H s->c a H R->
  wpAny (model X.prog X.w) X.A (eval iter X.env) (λv d=>wpAny (model X.prog X.w) X.A (pyIter v) (v3 X Wf a b R) X.xe d) X.xe s
def bL {M:Model}{A:da}{E:kj->ki->Prop}{s:ki}{a:kd}{it:kf}{u:kj}{o:Obj}{n:String}{vs:Array kj}{Q:Unit->ki->Prop}(b:s.heap.get? it=some o)(hc:o.cls= .type n)(hd:o.data= .fields vs)(hn: ["enumerate","zip","dict_itemiterator","dict_reverseitemiterator","odict_iterator","itertools.zip_longest","itertools.pairwise"].contains n=false)(hQ:Q () s):wpAny M A (letOwnedTupleGo a (.ref it) u) Q E s:=by
 unfold letOwnedTupleGo;cases a <;> first
  | exact AAS hQ
  | (cases u <;> first
      | exact AAS hQ
      | (refine AAO (wpAny_load b ?_)
         rw[hc,hd];show wpAny M A (if (["enumerate","zip","dict_itemiterator","dict_reverseitemiterator","odict_iterator","itertools.zip_longest","itertools.pairwise"].contains n&&vs[0]?==some (rawInt _))=true then _ else _) Q E s;rw[AAQ (by intro h;rw[hn,ACv] at h;cases h)];exact AAS hQ))
def sO (K:AAP)(a:kf):It:=
 ⟨λi H=>∃xs x,FF K H a xs/\xs[i]? =some x,λi H x b=>b=H/\∀xs,FF K H a xs->xs[i]? =some x,λi H=>∃xs,FF K H a xs/\xs.length<=i⟩
def sP (K:AAP)(a:kf):It:=
 ⟨λi H=>∃xs x,KB K H a xs/\xs[i]? =some x,λi H x b=>b=H/\∀xs,KB K H a xs->xs[i]? =some x,λi H=>∃xs,KB K H a xs/\xs.length<=i⟩
def n6 (lo:Int)(n:Nat):It:=⟨λi _=>i<n,λi H x a=>a=H/\x= .int (lo+i),λi _=>n<=i⟩
def Zo {P:gn}{w:fm}{K:AAP}{B:kd}(a it:kf):Nm P w K B (sO K a) [it] it (λi h=>h.IsListIter it a i) where
 mem:=by simp
 obj:=λi h st b hb=>by
  have e:b=it:=by simpa using hb
  subst e;obtain⟨o,e,c,d⟩:=st;exact⟨o,e,λv z=>by rw[d] at z;cases z⟩
 keep:=λi h h' st k=>st.at λo e=>k it (by simp) o e
 item:=by intro X j hw l hc i Wf s A H E I g st m;subst j hw l;obtain⟨xs,x,hq,hx⟩:=m;obtain⟨n,rv,p,hz⟩:=I.list hq;obtain⟨u,hu,C⟩:=rv.get hx;obtain⟨f0,f1,f2,r,t,y⟩:=g it (by simp);refine wpAny_pyNext_list_item st p.isList (x:=u) (by simpa using hu) λh' f D=> ?_;have F:Inv X Wf A H {s with heap:=h'}:=I.turned (t':=s.toks) (λb o hb e=>(D.2 b hb).trans e) f0 f1 r t y;obtain⟨o,e,c,d⟩:=id f;exact⟨u,rfl,bL (s:={s with heap:=h'}) e c d (by decide) ⟨x,H,F,C,⟨rfl,λys hy=>by rw[I.list_inj hy hq];exact hx⟩,f,λb hb=>(g b hb).1⟩⟩
 done:=by intro X j hw l hc i Wf s A H E I g st m;subst j hw l;obtain⟨xs,hq,hx⟩:=m;obtain⟨n,rv,p,hz⟩:=I.list hq;obtain⟨f0,f1,f2,r,t,y⟩:=g it (by simp);have hl:=rv.length;exact wpAny_pyNext_list_end (I.ok.hd hc) st p.isList (by simp;omega) λh' G=>⟨rfl,I.turned (t':=s.toks) (λb o hb e=>G b o hb e) f0 f1 r t y⟩
 self:=λ_ _ _ _ _ st h=>wpAny_pyIter_listiter st h
def Wv {P:gn}{w:fm}{K:AAP}{B:kd}(a it:kf):Nm P w K B (sP K a) [it] it (λi h=>h.IsTupleIter it a i) where
 mem:=by simp
 obj:=λi h st b hb=>by
  have e:b=it:=by simpa using hb
  subst e;obtain⟨o,e,c,d⟩:=st;exact⟨o,e,λv z=>by rw[d] at z;cases z⟩
 keep:=λi h h' st k=>st.at λo e=>k it (by simp) o e
 item:=by intro X l hw m hc i Wf s A H E I j st n;subst l hw m;obtain⟨xs,x,hq,hx⟩:=n;obtain⟨f,rv,p,hz⟩:=I.tuple hq;obtain⟨u,hu,C⟩:=rv.get hx;obtain⟨f0,f1,f2,r,t,y⟩:=j it (by simp);refine wpAny_pyNext_tuple_item st (show s.heap.IsTuple a f.toArray from p) (x:=u) (by simpa using hu) λh' g D=> ?_;have F:Inv X Wf A H {s with heap:=h'}:=I.turned (t':=s.toks) (λb o hb e=>(D.2 b hb).trans e) f0 f1 r t y;obtain⟨o,e,c,d⟩:=id g;exact⟨u,rfl,bL (s:={s with heap:=h'}) e c d (by decide) ⟨x,H,F,C,⟨rfl,λys hy=>by rw[I.tuple_inj hy hq];exact hx⟩,g,λb hb=>(j b hb).1⟩⟩
 done:=by intro X l hw m hc i Wf s A H E I j st n;subst l hw m;obtain⟨xs,hq,hx⟩:=n;obtain⟨f,rv,p,hz⟩:=I.tuple hq;obtain⟨f0,f1,f2,r,t,y⟩:=j it (by simp);have hl:=rv.length;exact wpAny_pyNext_tuple_end (I.ok.hd hc) st (show s.heap.IsTuple a f.toArray from p) (by simp;omega) λh' G=>⟨rfl,I.turned (t':=s.toks) (λb o hb e=>G b o hb e) f0 f1 r t y⟩
 self:=λ_ _ _ _ _ st h=>wpAny_pyIter_tupleiter st h
def Wu {P:gn}{w:fm}{K:AAP}{u:kd}(it:kf)(lo:Int)(n:Nat):Nm P w K u (n6 lo n) [it] it (λi h=>IsRangeIter h it (lo+(i:Nat)*1) ((n:Int)-(i:Nat)) 1) where
 mem:=by simp
 obj:=λi h st b hb=>by
  have e:b=it:=by simpa using hb
  subst e;exact⟨_,st,λv z=>by
   have x:Data.fields _=Data.cell v:=z;cases x⟩
 keep:=λi h h' st k=>k it (by simp) _ st
 item:=by intro X d hw f hc i Wf s p H E I c st g;subst d hw f;obtain⟨f0,f1,f2,j,l,m⟩:=c it (by simp);have W:=Walks.range (prog:=X.prog) (w:=X.w) (I.ok.hd hc) it lo 1 n;refine W.item i s _ _ g st λv h' r hv a y=> ?_;obtain⟨t,rfl⟩:=hv;have A:Inv X Wf p H {s with heap:=h',toks:=r}:=I.turned (λb o hb e=>y b o (by simpa using hb) e) f0 f1 j l m;refine⟨_,rfl,bL (s:={s with heap:=h',toks:=r}) (n:="range_iterator") a rfl rfl (by decide) ⟨.int (lo+i),H,A,⟨t, ?_⟩,⟨rfl,rfl⟩,a,λb hb=>(c b hb).1⟩⟩;rw[ACw]
 done:=by intro X d hw f hc i Wf s p H E I c st g;subst d hw f;obtain⟨f0,f1,f2,j,l,m⟩:=c it (by simp);exact wpAny_pyNext_range_end (I.ok.hd hc) st (by have:n<=i:=g;omega) λh' B=>⟨rfl,I.turned (t':=s.toks) (λb o hb e=>B b o hb e) f0 f1 j l m⟩
 self:=λ_ _ _ _ _ st h=>wpAny_pyIter_rangeiter st h
section
variable {X:Cx}{tg:kd}
def Uf {Wf:km (kf×Obj)}{a:St}{H:Hp}{s:ki}{R:It->Hp->Prop}{E:kj->ki->Prop}{lo hi:Int}{t u v:Tok}{c:Nat}(I:Inv X Wf a H s)(h1: -(2^62)<=lo)(h2:lo<2^62)(f: -(2^62)<=hi)(g:hi<2^62)(q:R (n6 lo (hi-lo).toNat) H):wpAny (model X.prog X.w) X.A (pyIter (.ref s.heap.objs.size)) (v3 X Wf a tg R) E {s with heap:=s.heap.push {cls:= .type "range",data:= .fields #[.int lo t, .int hi u, .int 1 v] },toks:=c}:=by
 refine wpAny_pyIter_range (IsRange.new ..) (small_one h1 h2 f g) ?_;have d:Inv X Wf a H {s with heap:=s.heap.push {cls:= .type "range",data:= .fields #[.int lo t, .int hi u, .int 1 v] },toks:=c}:=I.kept λb o e=>AAV _ e;refine⟨(s.heap.push {cls:= .type "range",data:= .fields #[.int lo t, .int hi u, .int 1 v] }).objs.size, [(s.heap.push {cls:= .type "range",data:= .fields #[.int lo t, .int hi u, .int 1 v] }).objs.size],_,_,H,rfl,
  d.kept (t':=c) λb o e=>AAV _ e,Wu _ lo (hi-lo).toNat, ?_,λb hb=> ?_,q⟩
 .have h:lo+((0:Nat):Int)*1=lo:=by simp
  have i:(((hi-lo).toNat:Nat):Int)-((0:Nat):Int)=Builtin.Range.rangeSize lo hi 1:=by rw[rangeSize_one];split <;> omega
  show IsRangeIter _ _ (lo+((0:Nat):Int)*1) ((((hi-lo).toNat:Nat):Int)-((0:Nat):Int)) 1;rw[h,i];exact AAi _ rfl
 .have e:b=(s.heap.push {cls:= .type "range",data:= .fields #[.int lo t, .int hi u, .int 1 v] }).objs.size:=by simpa using hb
  subst e;exact d.fpOk (AAW _) (d.hok.fresh (AAW _))
def pJ (a:TA):TI:=λb H R=>a b H λvs c=>∃j:Int,vs= [.int j] /\ -(2^62)<=j/\j<2^62/\R (n6 0 j.toNat) c
def pK (a:TA):TI:=λb H R=>a b H λvs c=>∃i j:Int,vs= [.int i, .int j] /\(-(2^62)<=i/\i<2^62/\ -(2^62)<=j/\j<2^62)/\R (n6 i (j-i).toNat) c
def ZS {a:kd}{d:TA}{p b:Pos}(f:Gl X "range")(g:X.mg "range" =none)(ha:PA X [a] d)(hs:starEach [a] X.env= [(false,eval a X.env)] :=by rfl):PI X tg (.Call (.Name "range" p) [a] [] b) (pJ d):=by
 intro Wf s i H R I h;refine Call_ (Hl I f g boot_range (ACO (Bf (ha b Wf s i H _ I h) λn o ⟨vs,u,k,r1,c⟩=> ?_) hs rfl));obtain⟨j,e,c,l,q⟩:=c;subst e;cases r1 with
 | cons r m=> cases m;obtain⟨t,rfl⟩:=r;exact call_range_1 (Uf k (by omega) (by omega) c l (by simpa using q))
def ZT {a b:kd}{g:TA}{p c:Pos}(l:Gl X "range")(m:X.mg "range" =none)(ha:PA X [a,b] g)(hs:starEach [a,b] X.env= [(false,eval a X.env),(false,eval b X.env)] :=by rfl)(k:starEach [b] X.env= [(false,eval b X.env)] :=by rfl):PI X tg (.Call (.Name "range" p) [a,b] [] c) (pK g):=by
 intro Wf s n H R I h;refine Call_ (Hl I l m boot_range (ACO (Bf (ha c Wf s n H _ I h) λy z ⟨vs,A,o,r1,d⟩=> ?_) (by rw[hs,k]) (by rw[k];rfl)));obtain⟨i,j,e,⟨d,u,v,w⟩,q⟩:=d;subst e;cases r1 with
 | cons r f=>
   cases f with
   | cons x f=> cases f;obtain⟨t,rfl⟩:=r;obtain⟨t',rfl⟩:=x;exact call_range_2 (Uf o d u v w q)
def qm (f:TI)(g:TG)(h:TS):TS:=λD a H=>f a H λJ j=>∃W:Nat->Nat->St->Hp->Prop,(∃m,W 0 m a j)/\∀i m a H,W i m a H->
 (J.stop i H/\D.nx a H)\/(J.go i H/\∃N:St->Hp->Prop,(∀b c,N b c->∃e,e<m/\W (i+1) e b c)/\∀x c,J.yld i H x c->g x a c λd k=>h {D with nx:=N,ct:=N,bk:=D.nx} d k)
def Gg (a:km kf)(h:fe):km (kf×Obj):=a.filterMap λb=>(h.get? b).map λo=>(b,o)
def C3 {a:km kf}{h:fe}{b:kf}{o:Obj}(hb:b∈a)(e:h.get? b=some o):(b,o)∈Gg a h:=List.mem_filterMap.mpr ⟨b,hb,by rw[e];rfl⟩
def ZG {a:km kf}{h:fe}{p:kf×Obj}(hp:p∈Gg a h):p.1∈a/\h.get? p.1=some p.2:=by
 obtain⟨b,hb,e⟩:=List.mem_filterMap.mp hp;cases q:h.get? b with
 | none=>rw[q] at e;cases e
 | some o=> rw[q] at e;have c:(b,o)=p:=AAk e;subst c;exact⟨hb,q⟩
def Inv.pinned {Wf:km (kf×Obj)}{c:St}{H:Hp}{s:ki}{a:km kf}(I:Inv X Wf c H s)(g:∀b∈a,F6 X Wf H b)(h:∀b∈a,∃o,s.heap.get? b=some o/\∀v,o.data≠ .cell v):Inv X (Wf++Gg a s.heap) c H s:=
 I.pins_of λp hp=>(AAg.mp hp).elim (λz=>I.pin p (AAv _ z)) λz=>by obtain⟨hb,e⟩:=ZG z;obtain⟨f0,f1,f2,_⟩:=g p.1 hb;obtain⟨o,f,d⟩:=h p.1 hb;rw[e] at f;cases f;exact⟨e,f0,f1,f2,d⟩
def Inv.unpinned {Wf b:km (kf×Obj)}{a:St}{H:Hp}{s:ki}(I:Inv X (Wf++b) a H s):Inv X Wf a H s:=I.pins_of λp hp=>I.pin p (AAv _ (ACt _ hp))
def dD {iter:kd}{body:km Stmt}{S:TI}{g:TG}{U:TS}{K:Pos}(hp:PassesOwn (model X.prog X.w) X.A X.env X.xe)(hc:X.calm=true)(hi:PI X tg iter S)(hg:PG X tg g)(hb:W4 X body U)(hs:∀x,foldedSetIterable iter X.env x=pure x:=by intro _;rfl):PS X (.For tg iter body [] K) (qm S g U):=by
 intro Wf s Y H D I h;refine wpAny_For (Bf (hi Wf s Y H _ I h) λv s1 h1=>Bf h1 λitv s2 h2=> ?_) hs;obtain⟨it,B,tn,J,H2,e,I2,T,L,f2,W,⟨m0,w0⟩,turn⟩:=h2;subst e;have c:∀{t:Hp},(∀b∈B,t b=none)->∀b∈B,F6 X Wf t b:=λhn b hb=>⟨hn b hb,(f2 b hb).2⟩;refine codeAny_forLoop_any (λn Z=>∃i j t,Inv X Wf j t Z/\tn i Z.heap/\(∀b∈B,t b=none)/\W i n j t) ?_ m0 ⟨0,Y,H2,I2,L,λb hb=>(f2 b hb).1,w0⟩;rintro n s3 ⟨i,k,G,I3,C,E,w3⟩;rcases turn i n k G w3 with⟨stop,qn⟩|⟨go,N,hN,step⟩
 .refine ABr hp (Bf (T.done X rfl rfl rfl hc i Wf s3 k G X.xe I3 (c E) C stop) λr s4 ⟨M,I4⟩=> ?_);subst M;exact ACu ⟨k,G,I4,qn⟩
 .refine ABr hp (Bf (T.item X rfl rfl rfl hc i Wf s3 k G X.xe I3 (c E) C go) λr s4 ⟨u,M,h4⟩=> ?_);subst M;refine ABr hp (Bf h4 λ_ s5 ⟨x,H5,I5,r5,y5,z,O⟩=> ?_);have P:=I5.pinned (c O) (T.obj _ _ z);refine ABr hp (Bf (hg _ s5 k H5 x u _ P r5 (step x H5 y5)) λ_ s6 ⟨Q,H6,I6,q6⟩=> ?_);refine ABr hp (Bf (hb _ s6 Q H6 _ I6 q6) λf R y=> ?_);have again:∀{a:St} {l:Hp},Inv X (Wf++Gg B s5.heap) a l R->N a l->∃m,m<n/\∃i j t,Inv X Wf j t R/\tn i R.heap/\(∀b∈B,t b=none)/\W i m j t:=λ{a l} p F=>by obtain⟨m',hm,w7⟩:=hN a l F;refine⟨m',hm,i+1,a,l,p.unpinned,T.keep _ _ _ z λb hb o e=>(p.pin (b,o) (AAv _ (AAv _ (C3 hb e)))).1,λb hb=> ?_,w7⟩;obtain⟨o,e,d⟩:=T.obj _ _ z b hb;exact(p.pin (b,o) (AAv _ (AAv _ (C3 hb e)))).2.1
  cases f with
  | next=>obtain⟨a,l,p,F⟩:=y;exact again p F
  | cont=>obtain⟨a,l,p,F⟩:=y;exact again p F
  | brk=>obtain⟨a,l,p,y⟩:=y;exact⟨a,l,p.unpinned,y⟩
  | ret v=>obtain⟨x7,a,l,p,r7,y⟩:=y;exact⟨x7,a,l,p.unpinned,r7,y⟩
end
abbrev R2:=V->V->Hp->VK->Prop
def EB (X:Cx)(f:kj->kj->Sem kj)(r:R2):Prop:=
 ∀(Wf:km (kf×Obj)) (s:ki) (a:St) (H:Hp) (x y:V) (v u:kj) (Q:VK),Inv X Wf a H s->RelV x v->RelV y u->r x y H Q->
  wpAny (model X.prog X.w) X.A (f v u) (EP X Wf a Q) X.xe s
def sV (X:Cx)(f:kj->Sem kj)(r:V->Hp->VK->Prop):Prop:=
 ∀(Wf:km (kf×Obj)) (s:ki) (a:St) (H:Hp) (x:V) (v:kj) (Q:VK),Inv X Wf a H s->RelV x v->r x H Q->
  wpAny (model X.prog X.w) X.A (f v) (EP X Wf a Q) X.xe s
def Cd (X:Cx)(f:kj)(r:km V->Hp->VK->Prop):Prop:=
 ∀(Wf:km (kf×Obj)) (s:ki) (a:St) (H:Hp) (xs:km V) (b:km kj) (Q:VK),Inv X Wf a H s->A3 xs b->r xs H Q->
  wpAny (model X.prog X.w) X.A (call f b) (EP X Wf a Q) X.xe s
def sU (X:Cx)(r:V->Hp->(kc->Hp->Prop)->Prop):Prop:=
 ∀(Wf:km (kf×Obj)) (s:ki) (a:St) (H:Hp) (x:V) (v:kj) (Q:kc->Hp->Prop),Inv X Wf a H s->RelV x v->r x H Q->
  wpAny (model X.prog X.w) X.A (truthy v) (TP X Wf a Q) X.xe s
def i6 (r:R2)(b c:TE):TE:=λa H Q=>b a H λx d=>c a d λy e=>r x y e Q
def zm (r:V->Hp->VK->Prop)(a:TE):TE:=λb H Q=>a b H λx c=>r x c Q
def rI (C:Int->Int->Prop)(g:Int->Int->V):R2:=λx y H Q=>∃i j,x= .int i/\y= .int j/\C i j/\Q (g i j) H
def OW (g:Int->Int->V):R2:=λx y H Q=>∃i j,x= .int i/\y= .int j/\Q (g i j) H
def rU (g:Int->V):V->Hp->VK->Prop:=λx H Q=>∃i,x= .int i/\Q (g i) H
section
variable {X:Cx}{a b c:kd}{ta tb tc:TE}{pos:Pos}
def kF (ha:PE X a ta)(hb:PE X b tb){Wf:km (kf×Obj)}{s:ki}{d:St}{H:Hp}{R:V->V->Hp->Prop}(I:Inv X Wf d H s)(h:ta d H λx k=>tb d k λy e=>R x y e){Q:kj->ki->Prop}{f:kj->kj->Sem kj}(l:∀v u j x y e,Inv X Wf d e j->RelV x v->RelV y u->R x y e->wpAny (model X.prog X.w) X.A (f v u) Q X.xe j):wpAny (model X.prog X.w) X.A (eval a X.env) (λv g=>wpAny (model X.prog X.w) X.A (eval b X.env) (λu i=>wpAny (model X.prog X.w) X.A (f v u) Q X.xe i) X.xe g) X.xe s:=by refine Bf (ha Wf s d H _ I h) λv m ⟨x,k,n,r1,o⟩=> ?_;refine Bf (hb Wf m d k _ n o) λu j ⟨y,e,p,r2,r⟩=> ?_;exact l v u j x y e p r1 r2 r
def CS {op:Operator}{r:R2}(d:EB X (binaryOp op) r)(ha:PE X a ta)(hb:PE X b tb):PE X (.BinOp a op b pos) (i6 r ta tb):=by intro Wf s e H Q I h;exact wpAny_BinOp (kF ha hb I h λv u f x y g i j k q=>d Wf f e g x y v u Q i j k q)
def qF {op:UnaryOp}{r:V->Hp->VK->Prop}(e:sV X (unaryOp op) r)(ha:PE X a ta):PE X (.UnaryOp op a pos) (zm r ta):=by intro Wf s d H Q I h;exact UnaryOp_ (Bf (ha Wf s d H _ I h) λv f ⟨x,g,i,r1,j⟩=>e Wf f d g x v Q i r1 j)
def lc {f:kj->kj->Sem kj}{C:Int->Int->Prop}{g:Int->Int->Int}(rule:∀(i j:Int) (t u:Tok) (s:ki) (Q:kj->ki->Prop) (E:kj->ki->Prop),C i j->Q (.int (g i j) s.toks) {s with toks:=s.toks+1}->wpAny (model X.prog X.w) X.A (f (.int i t) (.int j u)) Q E s):EB X f (rI C λi j=> .int (g i j)):=by intro Wf s k H x y v u Q I d e h;obtain⟨i,j,rfl,rfl,hc,q⟩:=h;obtain⟨t,rfl⟩:=d;obtain⟨t',rfl⟩:=e;exact rule i j t t' s _ _ hc ⟨.int (g i j),H,I.tok _,⟨_,rfl⟩,q⟩
def pz {f:kj->kj->Sem kj}{g:Int->Int->Int}(rule:∀(i j:Int) (t u:Tok) (s:ki) (Q:kj->ki->Prop) (E:kj->ki->Prop),Q (.int (g i j) s.toks) {s with toks:=s.toks+1}->wpAny (model X.prog X.w) X.A (f (.int i t) (.int j u)) Q E s):EB X f (OW λi j=> .int (g i j)):=by intro Wf s k H x y v u Q I d e h;obtain⟨i,j,rfl,rfl,q⟩:=h;obtain⟨t,rfl⟩:=d;obtain⟨t',rfl⟩:=e;exact rule i j t t' s _ _ ⟨.int (g i j),H,I.tok _,⟨_,rfl⟩,q⟩
def hJ {f:kj->kj->Sem kj}{g:Int->Int->kc}(rule:∀(i j:Int) (t u:Tok) (s:ki) (Q:kj->ki->Prop) (E:kj->ki->Prop),Q (.bool (g i j)) s->wpAny (model X.prog X.w) X.A (f (.int i t) (.int j u)) Q E s):EB X f (OW λi j=> .bl (g i j)):=by intro Wf s k H x y v u Q I d e h;obtain⟨i,j,rfl,rfl,q⟩:=h;obtain⟨t,rfl⟩:=d;obtain⟨t',rfl⟩:=e;exact rule i j t t' s _ _ ⟨.bl (g i j),H,I,rfl,q⟩
def fQ (i j:Int):Prop:=0<=j/\j<=1000000/\i.natAbs<2^64
def Jy (i j:Int):Prop:=(-(2^64)<i/\i<2^64)\/(-(2^64)<j/\j<2^64)
def Jy.ok {i j:Int}(h:Jy i j):IntMulOk i j:=by
 rcases h with⟨h1,h2⟩|⟨h1,h2⟩
 .exact .of_left (intBits_le_64 h1 h2)
 .exact .of_right (intBits_le_64 h1 h2)
def JU:EB X (binaryOp .Add) (OW λi j=> .int (i+j)):=pz λ_ _ _ _ _ _ _ q=>add_int q
def WO:EB X (binaryOp .Sub) (OW λi j=> .int (i-j)):=pz λ_ _ _ _ _ _ _ q=>sub_int q
def Gf:EB X (binaryOp .Mod) (rI (λ_ j=>0<j) λi j=> .int (i % j)):=lc λi j _ _ _ _ _ hc q=>by have h1:(0:Int)<j:=hc;exact mod_int' (by omega) (by rw[ACP i (by omega)];exact q)
def hV:EB X (binaryOp .Mod) (rI (λ_ j=>j≠0) λi j=> .int (i.fmod j)):=lc λ_ _ _ _ _ _ _ hc q=>mod_int' hc q
def cn:EB X (binaryOp .Pow) (rI fQ λi j=> .int (i^j.toNat)):=lc λ_ _ _ _ _ _ _ hc q=>pow_int_small hc.1 hc.2.1 hc.2.2 q
def zn {f:kj->Sem kj}{g:Int->Int}(rule:∀(i:Int) (t:Tok) (s:ki) (Q:kj->ki->Prop) (E:kj->ki->Prop),Q (.int (g i) s.toks) {s with toks:=s.toks+1}->wpAny (model X.prog X.w) X.A (f (.int i t)) Q E s):sV X f (rU λi=> .int (g i)):=by intro Wf s e H x v Q I d h;obtain⟨i,rfl,q⟩:=h;obtain⟨t,rfl⟩:=d;exact rule i t s _ _ ⟨.int (g i),H,I.tok _,⟨_,rfl⟩,q⟩
def m9:sV X (unaryOp .USub) (rU λi=> .int (-i)):=zn λ_ _ _ _ _ q=>neg_int q
end
def mV:V->V->kc
 | .non, .non=>true | .non, .int _=>true | .int _, .non=>true | .non, .bl _=>true | .bl _, .non=>true | .non, .str _=>true | .str _, .non=>true
 | .int _, .int _=>true | .bl _, .bl _=>true | .str _, .str _=>true | .byt _, .byt _=>true
 | .int _, .str _=>true | .str _, .int _=>true | .bl _, .str _=>true | .str _, .bl _=>true
 | _,_=>false
def wn:R2:=λx y H Q=>mV x y=true/\Q (.bl (decide (x=y))) H
def wo:R2:=λx y H Q=>mV x y=true/\Q (.bl (!decide (x=y))) H
def XS {i j:Int}:decide (V.int i=V.int j)=(i==j):=by rw[ABf];simp
def av {i j:kc}:decide (V.bl i=V.bl j)=(i==j):=by rw[ABf];simp
def XT {i j:Str}:decide (V.str i=V.str j)=(i==j):=by rw[ABf];simp
def XR {i j:Array UInt8}:decide (V.byt i=V.byt j)=(i.toList==j.toList):=by rw[ABf];cases i;cases j;simp
section
variable {X:Cx}{a b c:kd}{ta tb tc:TE}{pos:Pos}
def BJ {Wf:km (kf×Obj)}{d:St}{H:Hp}{s:ki}{Q:VK}{k f:kc}(I:Inv X Wf d H s)(q:Q (.bl k) H)(e:k=f):EP X Wf d Q (.bool f) s:=by subst e;exact⟨.bl k,H,I,rfl,q⟩
def p9:EB X (compareOp .Eq) wn:=by
 intro Wf s f H x y v u Q I e d h;obtain⟨hs,q⟩:=h;cases x with
 | non=>
   cases e;cases y with
   | non=>cases d;exact PySem.EqNone.eq_none_none (BJ I q (by simp))
   | bl j=>cases d;exact PySem.EqNone.eq_none_bool (BJ I q (by simp))
   | int j=>obtain⟨t',rfl⟩:=d;exact PySem.EqNone.eq_none_int (BJ I q (by simp))
   | str j=>obtain⟨t',rfl⟩:=d;exact PySem.EqNone.eq_none_str (BJ I q (by simp))
   | _=>exact absurd (show false=true from hs) AAe
 | bl i=>
   cases e;cases y with
   | non=>cases d;exact PySem.EqNone.eq_bool_none (BJ I q (by simp))
   | bl j=>cases d;exact eq_bool (BJ I q av)
   | str j=>obtain⟨t',rfl⟩:=d;exact PySem.EqMixed.eq_bool_str (BJ I q (by simp))
   | _=>exact absurd (show false=true from hs) AAe
 | int i=>
   obtain⟨t,rfl⟩:=e;cases y with
   | non=>cases d;exact PySem.EqNone.eq_int_none (BJ I q (by simp))
   | int j=>obtain⟨t',rfl⟩:=d;exact eq_int (BJ I q XS)
   | str j=>obtain⟨t',rfl⟩:=d;exact PySem.EqMixed.eq_int_str (BJ I q (by simp))
   | _=>exact absurd (show false=true from hs) AAe
 | str i=>
   obtain⟨t,rfl⟩:=e;cases y with
   | non=>cases d;exact PySem.EqNone.eq_str_none (BJ I q (by simp))
   | bl j=>cases d;exact PySem.EqMixed.eq_str_bool (BJ I q (by simp))
   | int j=>obtain⟨t',rfl⟩:=d;exact PySem.EqMixed.eq_str_int (BJ I q (by simp))
   | str j=>obtain⟨t',rfl⟩:=d;exact eq_str (BJ I q XT)
   | _=>exact absurd (show false=true from hs) AAe
 | byt i=>
   obtain⟨t,rfl⟩:=e;cases y with
   | byt j=>obtain⟨t',rfl⟩:=d;exact PySem.W.eq_bytes (BJ I q XR)
   | _=>exact absurd (show false=true from hs) AAe
 | _=>cases y <;> exact absurd (show false=true from hs) AAe
def qB:EB X (compareOp .NotEq) wo:=by
 intro Wf s f H x y v u Q I e d h;obtain⟨hs,q⟩:=h;cases x with
 | non=>
   cases e;cases y with
   | non=>cases d;exact PySem.EqNone.ne_none_none (BJ I q (by simp))
   | bl j=>cases d;exact PySem.EqNone.ne_none_bool (BJ I q (by simp))
   | int j=>obtain⟨t',rfl⟩:=d;exact PySem.EqNone.ne_none_int (BJ I q (by simp))
   | str j=>obtain⟨t',rfl⟩:=d;exact PySem.EqNone.ne_none_str (BJ I q (by simp))
   | _=>exact absurd (show false=true from hs) AAe
 | bl i=>
   cases e;cases y with
   | non=>cases d;exact PySem.EqNone.ne_bool_none (BJ I q (by simp))
   | bl j=>cases d;exact ne_bool (BJ I q (congrArg not av))
   | str j=>obtain⟨t',rfl⟩:=d;exact PySem.EqMixed.ne_bool_str (BJ I q (by simp))
   | _=>exact absurd (show false=true from hs) AAe
 | int i=>
   obtain⟨t,rfl⟩:=e;cases y with
   | non=>cases d;exact PySem.EqNone.ne_int_none (BJ I q (by simp))
   | int j=>obtain⟨t',rfl⟩:=d;exact ne_int (BJ I q (congrArg not XS))
   | str j=>obtain⟨t',rfl⟩:=d;exact PySem.EqMixed.ne_int_str (BJ I q (by simp))
   | _=>exact absurd (show false=true from hs) AAe
 | str i=>
   obtain⟨t,rfl⟩:=e;cases y with
   | non=>cases d;exact PySem.EqNone.ne_str_none (BJ I q (by simp))
   | bl j=>cases d;exact PySem.EqMixed.ne_str_bool (BJ I q (by simp))
   | int j=>obtain⟨t',rfl⟩:=d;exact PySem.EqMixed.ne_str_int (BJ I q (by simp))
   | str j=>obtain⟨t',rfl⟩:=d;exact ne_str (BJ I q (congrArg not XT))
   | _=>exact absurd (show false=true from hs) AAe
 | byt i=>
   obtain⟨t,rfl⟩:=e;cases y with
   | byt j=>obtain⟨t',rfl⟩:=d;exact PySem.W.ne_bytes (BJ I q (congrArg not XR))
   | _=>exact absurd (show false=true from hs) AAe
 | _=>cases y <;> exact absurd (show false=true from hs) AAe
def jZ:EB X (compareOp .Lt) (OW λi j=> .bl (decide (i<j))):=hJ λ_ _ _ _ _ _ _ q=>lt_int q
def qA:EB X (compareOp .LtE) (OW λi j=> .bl (decide (i<=j))):=hJ λ_ _ _ _ _ _ _ q=>le_int q
def jY:EB X (compareOp .Gt) (OW λi j=> .bl (decide (j<i))):=hJ λ_ _ _ _ _ _ _ q=>gt_int q
def jX:EB X (compareOp .GtE) (OW λi j=> .bl (decide (j<=i))):=hJ λ_ _ _ _ _ _ _ q=>ge_int q
def ln:EB X (compareOp .Is) (λx y H Q=>y= .non/\Q (.bl (decide (x= .non))) H):=by
 intro Wf s f H x y v u Q I d e h;obtain⟨rfl,q⟩:=h;cases e;refine is_none_gen (BJ I q ?_);cases x <;> first
  | (cases d;rfl)
  | (obtain⟨t,rfl⟩:=d;rfl)
def Xs:EB X (compareOp .IsNot) (λx y H Q=>y= .non/\Q (.bl (!decide (x= .non))) H):=by
 intro Wf s f H x y v u Q I d e h;obtain⟨rfl,q⟩:=h;cases e;refine isnot_none_gen (BJ I q ?_);cases x <;> first
  | (cases d;rfl)
  | (obtain⟨t,rfl⟩:=d;rfl)
def EB.or {f:kj->kj->Sem kj}{r d:R2}(h:EB X f r)(h':EB X f d):EB X f (λx y H Q=>r x y H Q\/d x y H Q):=by
 intro Wf s e H x y v u Q I g i q;rcases q with q|q
 .exact h Wf s e H x y v u Q I g i q
 .exact h' Wf s e H x y v u Q I g i q
def Cj (b:kd){op:CmpOp}(h:op≠ .In:=by decide)(h2:op≠ .NotIn:=by decide):behindInMarks op b=false:=by
 have d:(op==CmpOp.In)=false:=by cases op <;> first | rfl|exact absurd rfl h
 have e:(op==CmpOp.NotIn)=false:=by cases op <;> first | rfl|exact absurd rfl h2
 cases b <;> simp[behindInMarks,d,e]
def Xx {op:CmpOp}{r:R2}(d:EB X (compareOp op) r)(ha:PE X a ta)(hb:PE X b tb)(e:behindInMarks op b=false):PE X (.Compare a [op] [b] pos) (i6 r ta tb):=by intro Wf s f H Q I h;exact wpAny_Compare1 (kF ha hb I h λv u g x y i j k l q=>d Wf g f i x y v u Q j k l q) e
def YJ (t:TE):TT:=λd H Q=>t d H λx e=>∃k,x= .bl k/\Q k e
def NB {op:CmpOp}{r:R2}(f:EB X (compareOp op) r)(ha:PE X a ta)(hb:PE X b tb)(g:behindInMarks op b=false):PT X (.Compare a [op] [b] pos) (YJ (i6 r ta tb)):=by
 intro Wf s d H Q I h;refine wpAny_isTrue_Compare1 (Bf (ha Wf s d H _ I h) λv i ⟨x,j,l,r1,m⟩=>Bf (hb Wf i d j _ l m) λu n ⟨y,o,p,r2,t⟩=>
  Bf (f Wf n d o x y v u _ p r1 r2 t) λc D ⟨z,w,A,B,k,e,C⟩=> ?_) g
 subst e;cases B;exact ABa ⟨w,A,C⟩
def eJ (r f:R2)(ta tb tc:TE):TE:=λd H Q=>ta d H λx g=>tb d g λy h=>r x y h λz e=>∃k,z= .bl k/\
 (if k=true then tc d e λi j=>f y i j Q else Q (.bl false) e)
def dF {op f:CmpOp}{r i:R2}(n:EB X (compareOp op) r)(o:EB X (compareOp f) i)(ha:PE X a ta)(hb:PE X b tb)(hc:PE X c tc)(p:lastMarks [op,f] [b,c] =false:=by with_unfolding_all rfl):PT X (.Compare a [op,f] [b,c] pos) (YJ (eJ r i ta tb tc)):=by
 intro Wf s g H Q I h;refine isTrue_chain (Bf (ha Wf s g H _ I h) λv t ⟨x,w,A,r1,B⟩=>test_link (Bf (hb Wf t g w _ A B) λu C ⟨y,D,E,r2,F⟩=>
  Bf (n Wf C g D x y v u _ E r1 r2 F) λd G ⟨z,j,l,J,k,e,m⟩=> ?_)) p
 subst e;cases J;refine ABa ?_;cases k with
 | false=> obtain⟨k',K,L⟩:=m;cases K;exact ite_ff ⟨j,l,L⟩
 | true=> refine ite_tt (test_last (Bf (hc Wf G g j _ l m) λM N ⟨O,P,R,S,T⟩=>Bf (o Wf N g P y O u M _ R r2 S T) λd' s5 ⟨z2,U,W,Y,k2,Z,q5⟩=> ?_));subst Z;cases Y;exact ABa ⟨U,W,q5⟩
def oI (K:AAP)(x:V)(H:Hp)(k:kc):Prop:=
 match x with
 | .non=>k=false
 | .bl b=>k=b
 | .int i=>k=(i != 0)
 | .str y=>y.length<=sizeLine/\k=((y.length:Int) != 0)
 | .byt y=>y.size<=sizeLine/\k=((y.size:Int) != 0)
 | .ref p=>(∃xs,FF K H p xs/\k= !xs.isEmpty)\/(∃xs,KB K H p xs/\k= !xs.isEmpty)\/∃d,H p=some (.dK d)/\k= !d.isEmpty
 | _=>False
def V2 {e:Type}{d:km (e×V)}{vs:km (e×kj)}(r:KV d vs):(!vs.isEmpty)= !d.isEmpty:=by cases r <;> rfl
def OA {xs:km V}{d:km kj}(r:A3 xs d):(!d.toArray.isEmpty)= !xs.isEmpty:=by cases r <;> simp
def Lc:(sizeLine:Nat)<2^63:=by rw[sizeLine_eq];decide
def m6:sU X (λx H Q=>∃k,oI X.K x H k/\Q k H):=by
 intro Wf s u H x v Q I g h;obtain⟨k,e,q⟩:=h;have hl:=Lc;have hs:sizeLine=16777216:=sizeLine_eq;cases x with
 | non=> cases g;have d:k=false:=e;subst d;exact truthy_none ⟨H,I,q⟩
 | bl b=> cases g;have d:k=b:=e;subst d;exact ABa ⟨H,I,q⟩
 | int i=> obtain⟨t,rfl⟩:=g;have d:k=(i != 0):=e;subst d;exact PySem.P.truthy_int ⟨H,I,q⟩
 | str y=> obtain⟨t,rfl⟩:=g;obtain⟨hy,d⟩:y.length<=sizeLine/\k=((y.length:Int) != 0):=e;subst d;exact PySem.P.truthy_str (by omega) ⟨H,I.tok _,q⟩
 | byt y=> obtain⟨t,rfl⟩:=g;obtain⟨hy,d⟩:y.size<=sizeLine/\k=((y.size:Int) != 0):=e;subst d;exact PySem.W.truthy_bytes (by omega) ⟨H,I.tok _,q⟩
 | ref p=>
   cases g;have d:(∃xs,FF X.K H p xs/\k= !xs.isEmpty)\/(∃xs,KB X.K H p xs/\k= !xs.isEmpty)\/∃f,H p=some (.dK f)/\k= !f.isEmpty:=e;rcases d with⟨xs,hx,d⟩|⟨xs,hx,d⟩|⟨f,hx,d⟩
   .subst d;obtain⟨j,r,l,hz⟩:=I.list hx;have n:=r.length;exact wpAny_truthy_list l.isList (by simp only[AAf];omega) ⟨H,I.tok _,by rw[OA r];exact q⟩
   .subst d;obtain⟨j,r,l,hz⟩:=I.tuple hx;have n:=r.length;exact truthy_tuple l (by simp only[AAf];omega) ⟨H,I.tok _,by rw[OA r];exact q⟩
   .subst d;obtain⟨hz,o,vs,r,m⟩:f.length<=sizeLine/\(p==sysModules)=false/\∃vs,KV f vs/\s.heap.DictOf (CA X.prog X.w) p vs:=I.hok p _ hx;have n:f.length=vs.length:=ACN r;exact wpAny_truthy_dict o m (by omega) ⟨H,I.tok _,by rw[V2 r];exact q⟩
 | _=>exact(show False from e).elim
def dG (ha:PE X a ta)(he:∀whole,isTrue a X.env whole=(do let v <-whole;standAt a.pos;holding [v] (truthy v))):
 PT X a (λd H Q=>ta d H λx e=>∃k,oI X.K x e k/\Q k e):=by intro Wf s d H Q I h;exact isTrue_plain (Bf (ha Wf s d H _ I h) λv f ⟨x,g,i,r1,j⟩=>m6 Wf f d g x v Q i r1 j) (he _)
def vals1 {x:V}{d:km kj}(r:A3 [x] d):∃u,d= [u] /\RelV x u:=by
 cases r with
 | cons r1 r2=>cases r2;exact⟨_,rfl,r1⟩
def vals2 {x y:V}{d:km kj}(r:A3 [x,y] d):∃u e,d= [u,e] /\RelV x u/\RelV y e:=by
 cases r with
 | cons r1 r2=>
   cases r2 with
   | cons f g=>cases g;exact⟨_,_,rfl,r1,f⟩
def Nt:Cd X (.builtin "abs") (λxs H Q=>∃i,xs= [.int i] /\Q (.int (if i<0 then -i else i)) H):=by intro Wf s d H xs e Q I r h;obtain⟨i,rfl,q⟩:=h;obtain⟨u,rfl,t,rfl⟩:=vals1 r;exact call_abs_int λu f=>⟨.int (if i<0 then -i else i),H,I.tok _,⟨_,rfl⟩,q⟩
def Yi (hc:X.calm=true):Cd X (.builtin "min") (λxs H Q=>∃i j,xs= [.int i, .int j] /\Q (.int (if j<i then j else i)) H):=by
 intro Wf s d H xs e Q I r h;obtain⟨i,j,rfl,q⟩:=h;obtain⟨u,f,rfl,⟨t,rfl⟩,⟨t',rfl⟩⟩:=vals2 r;refine min_two_ints (I.ok.hd hc) λh' g k=>⟨_,H,I.kept k, ?_,q⟩;by_cases hj:j<i
 .rw [AAR hj,AAR hj];exact⟨_,rfl⟩
 .rw [AAQ hj,AAQ hj];exact⟨_,rfl⟩
def P2:Cd X (.type "int") (λxs H Q=>(∃i,xs= [.int i] /\Q (.int i) H)\/∃k,xs= [.bl k] /\Q (.int (if k then 1 else 0)) H):=by
 intro Wf s d H xs e Q I r h;rcases h with⟨i,rfl,q⟩|⟨k,rfl,q⟩
 .obtain ⟨u,rfl,t,rfl⟩:=vals1 r;exact call_int_int ⟨.int i,H,I,⟨_,rfl⟩,q⟩
 .obtain ⟨u,rfl,r1⟩:=vals1 r;cases r1;exact call_int_bool ⟨.int (if k then 1 else 0),H,I.tok _,⟨_,rfl⟩,q⟩
end
structure jy (h:Heap) (x dx C:Addr) (mA:Str->Option Value):Prop where
 obj:h.get? x=some (PySem.W.instObj C dx)
 ns:h.Ns1 dx mA
 ne:dx≠x
def ZB {h:fe}{b:kf}{c:Str->ke kj}(n:h.Ns1 b c):∃d,h.get? b=some d/\∀name,PySem.W.lookIn name d=some (c name):=by
 obtain⟨o,es,ep,f,hd,hk,_,g⟩:=n;refine⟨o,f,λname=> ?_⟩;have e:=g name;unfold nsFind findBy at e;rw[<-Array.find?_toList] at e;unfold PySem.W.lookIn;rw[hd];dsimp only;split
 .rename_i y q;rw[q] at e;exact congrArg some e
 .rename_i q;rw[q] at e;have a:es.toList.any (·.refKey)=false:=by rw[AB2];intro y hy;obtain⟨z,t,i⟩:=hk y (Array.mem_toList_iff.mp hy);simp[DictEntry.refKey,i]
  have j:¬es.toList.any (·.refKey)=true:=by rw[a];exact AAe
  rw[AAQ j];exact congrArg some e
def jy.look {h:fe}{x b C:kf}{c:Str->ke kj}(I:jy h x b C c):∃a,PySem.W.InstAt h x (PySem.W.instObj C b) C (some a)/\∀name,PySem.W.lookIn name a=some (c name):=
 let ⟨a,d,hl⟩:=ZB I.ns
 ⟨a,⟨I.obj,rfl,rfl,d⟩,hl⟩
section
variable {prog:gn}{w:fm}{A:da}{E:kj->ki->Prop}{s:ki}{K:AAP}{x dx C f:kf}{mA:Str->ke kj}{name:Str}{v:kj}
def GZ {expr:kc}{Q:kj->ki->Prop}(X:K.In s.heap)(I:jy s.heap x dx C mA)(a:PySem.W.plainGet K C name=true)(b:PySem.W.hasDictIn K C=true)(ha:PySem.W.findIn K (.ref C) name=some none)(hv:mA name=some v)(c:PySem.W.handedIn v=true)(h:Q v {s with toks:=s.toks+1}):wpAny (model prog w) A (getAttr (.ref x) name expr) Q E s:=by obtain⟨d,J,hl⟩:=I.look;exact PySem.W.get_value X J (PySem.W.plainGet_of a).1 (PySem.W.findObj_own b ha rfl (by rw[hl,hv])) c h
end
def J6.some_of {v:V}{o:ke kj}(r:J6 (some v) o):∃u,o=some u/\RelV v u:=by
 cases o with
 | none=>exact(show False from r).elim
 | some u=>exact⟨u,rfl,r⟩
def J6.none_of {o:ke kj}(r:J6 none o):o=none:=by
 cases o with
 | none=>rfl
 | some u=>exact(show False from r).elim
structure sH (K:AAP) (C:Addr):Prop where
 pg:PySem.W.plainGet K C Str.empty=true
 hd:PySem.W.hasDictIn K C=true
 po:PySem.W.plainOver K C=true
 sa:PySem.W.findIn K (.ref C) "__setattr__" =some (some (.builtin "object.__setattr__"))
def sH.get {K:AAP}{C:kf}(c:sH K C)(f:Str):PySem.W.plainGet K C f=true:=c.pg
structure Con (K:AAP) (C:Addr) (f:Str) (v:V) (u:Value):Prop where
 at_:PySem.W.findIn K (.ref C) f=some (some u)
 rel:RelV v u
 get:PySem.W.specialIn K u "__get__" =some none
 cp:PySem.W.copiedNames.contains f=false
structure yY (K:AAP) (C:Addr) (m:Str) (f:Addr):Prop where
 at_:PySem.W.findIn K (.ref C) m=some (some (.ref f))
 fn:PySem.W.isFn K (.ref f)=true
 kp:PySem.W.keepIn K (.ref f)=true
section
variable {X:Cx}{Wf:km (kf×Obj)}{σ:St}{H:Hp}{s:ki}{a C dx:kf}{fs:km (Str×V)}{f:Str}{v:V}{A:da}{E:kj->ki->Prop}
def Inv.made (I:Inv X Wf σ H s):Inv X Wf σ (upd (upd H s.heap.objs.size (.own (s.heap.objs.size+1))) (s.heap.objs.size+1) (.ins C s.heap.objs.size [])) {s with heap:=(s.heap.push PySem.W.emptyDict).push (PySem.W.instObj C s.heap.objs.size)}:=by
 have c:(s.heap.push PySem.W.emptyDict).get? s.heap.objs.size=some PySem.W.emptyDict:=AAi s.heap rfl;have g:((s.heap.push PySem.W.emptyDict).push (PySem.W.instObj C s.heap.objs.size)).get? (s.heap.objs.size+1)=some (PySem.W.instObj C s.heap.objs.size):=by
  have:=AAi (s.heap.push PySem.W.emptyDict) (o:=PySem.W.instObj C s.heap.objs.size) rfl
  rwa [AB3] at this
 have h:(s.heap.push PySem.W.emptyDict).Ns s.heap.objs.size (λ_=>none):=⟨PySem.W.emptyDict, #[],_,c,rfl,(λe he=>absurd he (by simp)),λ_=>rfl⟩;have i:=I.laid (a:=s.heap.objs.size) (o:= .own (s.heap.objs.size+1)) (h':=s.heap.push PySem.W.emptyDict) (t':=s.toks) (λb u q=>AAV _ q) (AAW _) ⟨_,c⟩;refine i.laid (a:=s.heap.objs.size+1) (o:= .ins C s.heap.objs.size []) (t':=s.toks) (λb u q=>AAV _ q) (Nat.le_of_eq (AB3 _ _)) ?_;have d:s.heap.objs.size≠s.heap.objs.size+1:=AAc (ACx _);refine⟨by rw[Al d,Ah],AA3 _,d,g,λ_=>none,(Heap.Ns1.of_empty h).at λo q=>AAV _ q,λ_=>True.intro,λy hy=>absurd rfl hy⟩
end
section
variable {X:Cx}{Wf:km (kf×Obj)}{σ:St}{H:Hp}{s:ki}{A:da}{E:kj->ki->Prop}{Q:kj->ki->Prop}{c:kj}{b:kc}
inductive Nn (K:AAP) (H:Hp):V->Value->Prop where
 | non:Nn K H .non (.type "NoneType")
 | bl (x:Bool):Nn K H (.bl x) (.type "bool")
 | int (i:Int):Nn K H (.int i) (.type "int")
 | str (x:Str):Nn K H (.str x) (.type "str")
 | flt (x:UInt64):Nn K H (.flt x) (.type "float")
 | lst {a:Addr} {xs:List V} (e:H a=some (.lst xs)):Nn K H (.ref a) (.type "list")
 | frz {a:Addr} {o:Obj} {xs:List V} (e:H a=some (.frz o (.lst xs))):Nn K H (.ref a) (.type "list")
 | tup {a:Addr} {xs:List V} (e:H a=some (.tup xs)):Nn K H (.ref a) (.type "tuple")
 | dK {a:Addr} {kvs:List (Dk×V)} (e:H a=some (.dK kvs)):Nn K H (.ref a) (.type "dict")
 | dT {a:Addr} {kvs:List (List Dk×V)} (e:H a=some (.dT kvs)):Nn K H (.ref a) (.type "dict")
 | ins {a C dx:Addr} {fs:List (Str×V)} (e:H a=some (.ins C dx fs)) (cl:sH K C) (ha:PySem.W.findIn K (.ref C) "__class__" =some (some (.builtin "object.__class__")))
    (hn:PySem.W.specialIn K (.builtin "object.__class__") "__get__" =some (some (.builtin "getset_descriptor.__get__"))) (htk:PySem.W.takesIn K (.builtin "object.__class__")=some true)
    (hm:PySem.W.mroIn K C (.type "object")=some true):Nn K H (.ref a) (.ref C)
end
structure Room (k:Nat) (A:Around):Prop where
 hd:A.handled=none
 dp:A.depth+3*k+5<recursionLimit
 un:A.units+16*k+200<cLine
 gd:A.guards=some []
def Room.mono {j k:Nat}{A:da}(r:Room k A)(h:j<=k):Room j A:=⟨r.hd,by have:=r.dp;omega,by have:=r.un;omega,r.gd⟩
def Room.deeper {k:Nat}{A:da}(r:Room (k+1) A)(env:Env):Room k (A.deeper env):=
 ⟨r.hd,by have:=r.dp;show A.depth+1+3*k+5<_;omega,by have:=r.un;show A.units+3+16*k+200<_;omega,r.gd⟩
def Room.in1 {k:Nat}{A:da}(r:Room (k+1) A):Room k A.in1:=
 ⟨r.hd,by have:=r.dp;show A.depth+3*k+5<_;omega,by have:=r.un;show A.units+1+16*k+200<_;omega,r.gd⟩
def V6 {A:da}{C:kf}{a:km kj}{b:km (Str×kj)}:(A.under (.builtin "type.__call__" ⟨.ref C::a,b⟩)).depth=A.depth+1:=by first | rfl|simp[Around.under,Code.weight,Code.isCreation,Code.isGuard,Code.isCaller,Code.frames,Code.isFrame,guardIds]
def V7 {A:da}{C:kf}{a:km kj}{b:km (Str×kj)}:(A.under (.builtin "type.__call__" ⟨.ref C::a,b⟩)).units=A.units+1:=by first | rfl|simp[Around.under,Code.cUnits,Code.frames,Code.isFrame]
def Room.make {k:Nat}{A:da}(r:Room (k+1) A)(C:kf)(a:km kj)(b:km (Str×kj)):Room k (A.under (.builtin "type.__call__" ⟨.ref C::a,b⟩)):=
 ⟨r.hd,by have:=r.dp;rw[V6];omega,by have:=r.un;rw[V7];omega,by first | exact r.gd|simpa[Around.under,pushGuards,Code.guards,Code.isGuard,guardIds] using r.gd⟩
def Room.depth {k:Nat}{A:da}(r:Room k A):A.depth<recursionLimit:=by have:=r.dp;omega
def Room.units {k:Nat}{A:da}(r:Room k A):A.units+64<cLine:=by have:=r.un;omega
def eQ:TA:=λ_ H Q=>Q [] H
def K3 (b:TE)(c:TA):TA:=λa H Q=>b a H λx d=>c a d λxs e=>Q (x::xs) e
section
variable {X:Cx}{e:kd}{es:km kd}{te:TE}{t:TA}{pos:Pos}
def DJ:PA X [] eQ:=λ_ _ _ _ H Q I h=>ACy ⟨[],H,I, .nil,h⟩
def BG (ha:PE X e te)(b:PA X es t)(hs:starEach (e::es) X.env=(false,eval e X.env)::starEach es X.env:=by rfl):PA X (e::es) (K3 te t):=by intro pos Wf s a H Q I h;rw[hs];show wpAny _ _ (spliced ((false,eval e X.env)::backTo pos (starEach es X.env))) _ _ s;refine ABs (Bf (ha Wf s a H _ I h) λu c ⟨x,d,f,r1,g⟩=> ?_);exact Bf (b pos Wf c a d _ f g) λl m ⟨xs,i,j,r2,k⟩=>⟨x::xs,i,j, .cons r1 r2,k⟩
def i7 (t:TA):TE:=λb H Q=>t b H λxs a=>xs.length<=sizeLine/\∀p,a p=none->Q (.ref p) (upd a p (.tup xs))
def uX (t:TA):TE:=λb H Q=>t b H λxs a=>xs.length<=sizeLine/\∀p,a p=none->Q (.ref p) (upd a p (.lst xs))
def OT {x1}(h:PA X es t):PE X (.Tuple es x1 pos) (i7 t):=by intro Wf s f H Q I hq;refine wpAny_Tuple_spliced (Bf (h pos Wf s f H _ I hq) λg a ⟨xs,c,d,r,z,q⟩=>⟨by rw[<-r.length];exact z, ?_⟩);have i:c a.heap.objs.size=none:=d.hok.fresh (AAW _);refine⟨.ref a.heap.objs.size,upd c a.heap.objs.size (.tup xs),d.laid (t':=a.toks) (λb u e=>AAV _ e) (AAW _) ?_,rfl,q _ i⟩;exact⟨z,g,r,⟨_,AAi _ rfl,rfl,_,rfl⟩⟩
def c8 (h:PA X es t):PE X (.List es pos) (uX t):=by intro Wf s f H Q I hq;refine wpAny_List_spliced (Bf (h pos Wf s f H _ I hq) λg a ⟨xs,c,d,r,z,q⟩=>⟨by rw[<-r.length];exact z, ?_⟩);have i:c a.heap.objs.size=none:=d.hok.fresh (AAW _);refine⟨.ref a.heap.objs.size,upd c a.heap.objs.size (.lst xs),d.laid (t':=a.toks) (λb u e=>AAV _ e) (AAW _) ?_,rfl,q _ i⟩;exact⟨z,g,0,r,AAi _ rfl⟩
end
abbrev Sp:=km V->Hp->VK->XK->Prop
abbrev YR:=km Env->Hp->ki->XK->kj->ki->Prop
structure O3 (P:Program) (w:World) (K:AAP) (mg:Str->Option Value) (base:Heap) (A:Around) (outer:List Env) (s:Shared) (H:Hp):Prop where
 frames:A.frames=some outer
 mod:Mod K mg base
 bs:∀b o,base.get? b=some o->s.heap.get? b=some o/\H b=none
 bsz:base.objs.size<=s.heap.objs.size
 funs:s.heap.FunFrames base outer
 frf:∀b∈Zw outer,H b=none
 hok:Jn P w H s.heap
 bare:AllBare s.gens
def CE (outer:km Env)(P:gn)(w:fm)(H:Hp)(s:ki)(Q:VK)(u:kj)(a:ki):Prop:=
 ∃v b,a.os=s.os/\AllBare a.gens/\Un (Zw outer) [] H b s.heap a.heap/\Jn P w b a.heap/\RelV v u/\Q v b
def CR (CX:YR)(outer:km Env)(P:gn)(w:fm)(H:Hp)(s:ki)(Q:VK)(E:XK)(r:Result)(a:ki):Prop:=
 match r with
 | .ok (.ret u)=>CE outer P w H s Q u a
 | .ok _=>False
 | .error e=>CX outer H s E e a
structure Eg (P:Program) (w:World) (K:AAP) (mg:Str->Option Value) (base:Heap) (CX:YR) (k:Nat) (f:Addr) (fd:FuncData) (ps:List Str) (sp:Sp):Prop where
 len:∀vs H Q E,sp vs H Q E->vs.length=ps.length
 run:∀(A:Around) (outer:List Env) (s:Shared) (H:Hp) (args:Args) (us:List Value) (vs:List V) (Q:VK) (E:XK),Room k A->O3 P w K mg base A outer s H->BindsTo s fd args (ps.zip us)->A3 vs us->sp vs H Q E->
  codeAny (model P w) A (.call (.ref f) args) (CR CX outer P w H s Q E) s
def Eg.mono {P:gn}{w:fm}{K:AAP}{mg:Str->ke kj}{base:fe}{CX:YR}{j k:Nat}{f:kf}{a:FuncData}{ps:km Str}{sp:Sp}(F:Eg P w K mg base CX j f a ps sp)(h:j<=k):Eg P w K mg base CX k f a ps sp:=⟨F.len,λA outer s H args b vs Q E c=>F.run A outer s H args b vs Q E (c.mono h)⟩
def Eg.imp {P:gn}{w:fm}{K:AAP}{mg:Str->ke kj}{base:fe}{CX:YR}{k:Nat}{f:kf}{b:FuncData}{ps:km Str}{sp a:Sp}(F:Eg P w K mg base CX k f b ps sp)(h:∀vs H Q E,a vs H Q E->sp vs H Q E):Eg P w K mg base CX k f b ps a:=
 ⟨λvs H Q E q=>F.len vs H Q E (h _ _ _ _ q),λA outer s H args c vs Q E d he hb hv hs=>F.run A outer s H args c vs Q E d he hb hv (h _ _ _ _ hs)⟩
def O3.make {P:gn}{w:fm}{K:AAP}{mg:Str->ke kj}{base:fe}{A:da}{outer:km Env}{s:ki}{H:Hp}(e:O3 P w K mg base A outer s H)(C:kf)(a:km kj)(b:km (Str×kj)):O3 P w K mg base (A.under (.builtin "type.__call__" ⟨.ref C::a,b⟩)) outer s H:=⟨by first | exact e.frames|(simpa[Around.under,Code.envs,Code.isFrame,pushEnvs] using e.frames),e.mod,e.bs,e.bsz,e.funs,e.frf,e.hok,e.bare⟩
def O3.in1 {P:gn}{w:fm}{K:AAP}{mg:Str->ke kj}{base:fe}{A:da}{outer:km Env}{s:ki}{H:Hp}(e:O3 P w K mg base A outer s H):O3 P w K mg base A.in1 outer s H:=⟨e.frames,e.mod,e.bs,e.bsz,e.funs,e.frf,e.hok,e.bare⟩
section
variable {X:Cx}{Wf:km (kf×Obj)}{σ:St}{H:Hp}{s s':ki}
def Inv.env0 (I:Inv X Wf σ H s):O3 X.prog X.w X.K X.mg X.base X.A X.stack s H:=
 ⟨I.ok.frames,I.ok.mod,I.bs,AAl I.ok.bsz I.sz,I.stack,I.stkFree,I.hok,I.bare⟩
def Inv.after {Q:VK}{u:kj}(I:Inv X Wf σ H s)(h:CE X.stack X.prog X.w H s Q u s'):EP X Wf σ Q u s':=by obtain⟨v,c,os,bare,un,hok,r,q⟩:=h;obtain⟨e,g,d,t,a⟩:=s';obtain rfl:a=s.os:=os;exact⟨v,c,I.call (h':=e) (g':=g) (d':=d) (t':=t) (ch:= []) un hok bare (λb z=>absurd z (by simp)),r,q⟩
end
def jh (sp:Sp)(a:km V)(E:XK)(t:TA):TE:=λb H Q=>t b H λvs c=>sp (vs++a) c Q E
def Binds (K:AAP)(b:FuncData)(ps:km Str)(ds:km kj):Prop:=
 ∀(s:ki) (a:km kj),K.In s.heap->(a++ds).length=ps.length->BindsTo s b ⟨a, []⟩ (ps.zip (a++ds))
def Binds.all {K:AAP}{b:FuncData}{ps:km Str}(h:∀a:km kj,a.length=ps.length->bindArgs b ⟨a, []⟩=pure (ps.zip a)):Binds K b ps [] :=λs a _ hl=>by rw[ABt] at hl ⊢;exact .of_eq (h a hl)
def Passes (CX:YR)(X:Cx)(E:XK):Prop:=∀(Wf:km (kf×Obj)) (b:St) (H:Hp) (s:ki) (e:kj) (a:ki),Inv X Wf b H s->CX X.stack H s E e a->X.xe e a
section
variable {X:Cx}{CX:YR}{k:Nat}{f C:kf}{fd:FuncData}{ps:km Str}{sp:Sp}{dvs:km V}{ds:km kj}{E:XK}{x m:Str}{p pos apos:Pos}{e o:kd}{es:km kd}{ta:TE}{t:TA}
theorem mO {Wf:km (kf×Obj)}{b:St}{H:Hp}{s:ki}{Q:VK}{a:km kj}{vs:km V}(F:Eg X.prog X.w X.K X.mg X.base CX k f fd ps sp)(c:Room k X.A)(hb:Binds X.K fd ps ds)(hd:A3 dvs ds)(hx:Passes CX X E)(I:Inv X Wf b H s)(r:A3 vs a)(h:sp (vs++dvs) H Q E):wpAny (model X.prog X.w) X.A (call (.ref f) a) (EP X Wf b Q) X.xe s:=by
 have r2:A3 (vs++dvs) (a++ds):=r.append hd;have hl:(a++ds).length=ps.length:=by rw[<-r2.length];exact F.len _ _ _ _ h
 refine wpAny_call (ACQ (F.run X.A X.stack s H ⟨a, []⟩ (a++ds) (vs++dvs) Q E c I.env0 (hb s a I.kIn hl) r2 h) λr d hq=> ?_);cases r with
 | error e=>exact hx Wf b H s e d I hq
 | ok g=>
   cases g with
   | ret u=>exact I.after hq
   | next=>exact False.elim hq
   | brk=>exact False.elim hq
   | cont=>exact False.elim hq
theorem iA (F:Eg X.prog X.w X.K X.mg X.base CX k f fd ps sp)(b:Room k X.A)(c:Gl X x)(d:X.mg x=some (.ref f))(hk:PySem.W.keepIn X.K (.ref f)=true)(hb:Binds X.K fd ps ds)(hd:A3 dvs ds)(hx:Passes CX X E)(ha:PA X (e::es) t)(hdb:(x==("__debug__" :Str))=false:=by decide)(he:starEach (e::es) X.env=(false,eval e X.env)::starEach es X.env:=by rfl)(hpl:(backTo pos (starEach es X.env)).any (·.1)=false:=by rfl):PE X (.Call (.Name x p) (e::es) [] pos) (jh sp dvs E t):=by intro Wf s g H Q I h;refine ACz (gj I c d ?_ hdb);refine PySem.W.callWith_K (h₀:=X.base) I.ok.mod.kin hk (Bf (ha pos Wf s g H _ I h) λi j ⟨vs,l,a,r,q⟩=>⟨a.kIn, ?_⟩) he hpl;exact mO F b hb hd hx a r q
structure Mk (K:AAP) (C f:Addr):Prop where
 makes:PySem.W.makesIn K C=true
 init:PySem.W.findIn K (.ref C) "__init__" =some (some (.ref f))
 fn:PySem.W.isFn K (.ref f)=true
 kp:PySem.W.keepIn K (.ref C)=true
end
section
variable {X:Cx}{CX:YR}{k:Nat}{f C:kf}{fd:FuncData}{ps ks:km Str}{sp:Sp}{E:XK}{x m:Str}{p pos apos kpos:Pos}{e o:kd}{es:km kd}{kws:km Keyword}{te ta:TE}{t tk:TA}{nm:ke Str}
structure sR (K:AAP) (fd:FuncData) (ps ks:List Str) (g:List Value->List Value->List Value) (gV:List V->List V->List V):Prop where
 to:∀(s:Shared) (us ws:List Value),K.In s.heap->(g us ws).length=ps.length->BindsTo s fd ⟨us,ks.zip ws⟩ (ps.zip (g us ws))
 rel:∀{vs:List V} {us:List Value} {zs:List V} {ws:List Value},A3 vs us->A3 zs ws->A3 (gV vs zs) (g us ws)
variable {g:km kj->km kj->km kj}{gV:km V->km V->km V}
end
structure EO (N P:List Str) (sc:Scope):Prop where
 kind:sc.kind= .function
 co:sc.isCoroutine=false
 gen:sc.isGenerator=false
 nd:N.Nodup
 pre:N.take P.length=P
 par:∀x∈P,sc.names.lookup x=some .local\/sc.names.lookup x=some .cell
 nofree:∀y∈sc.names,y.2≠ .free
theorem Py {kindOf:Str->ke NameKind}{x:Str}:∀{binds:km (Str×kj)} {m:Str->ke kj},(∀v,(x,v) ∉ binds)->bindL kindOf binds m x=m x
 | [],_,_=>rfl
 | (n,v)::r,m,h=>by
   unfold bindL;rw[Py λw hw=>h w (AA9 _ hw)];split
   .have:x≠n:=by rintro rfl;exact h v ABq
    simp[this]
   .rfl
theorem Pw {kindOf:Str->ke NameKind}{x:Str}:∀{binds:km (Str×kj)} {m:Str->ke kj},(∀v,(x,v) ∉ binds)->bindC kindOf binds m x=m x
 | [],_,_=>rfl
 | (n,v)::r,m,h=>by
   unfold bindC;rw[Pw λw hw=>h w (AA9 _ hw)];split
   .rfl
   .have:x≠n:=by rintro rfl;exact h v ABq
    simp[this]
theorem Px {kindOf:Str->ke NameKind}{x:Str}{v:kj}:∀{P:km Str} {vs:km kj} {i:Nat} {m:Str->ke kj},P.Nodup->P[i]? =some x->vs[i]? =some v->kindOf x=some .local-> bindL kindOf (P.zip vs) m x=some v
 | [],_,_,_,_,h,_,_=>by simp at h
 | _::_, [],_,_,_,_,h,_=>by simp at h
 | p::P,w::vs,0,m,nd,h1,h2,hk=>by simp at h1 h2;subst h1;subst h2;show bindL kindOf ((p,w)::P.zip vs) m p=_;unfold bindL;rw[Py λv hv=>(AC0.mp nd).1 (ADc hv).1,AAR hk];simp
 | p::P,w::vs,i+1,m,nd,h1,h2,hk=>by show bindL kindOf ((p,w)::P.zip vs) m x=_;unfold bindL;exact Px (i:=i) (AC0.mp nd).2 (by simpa using h1) (by simpa using h2) hk
theorem Pu {kindOf:Str->ke NameKind}{x:Str}{v:kj}:∀{P:km Str} {vs:km kj} {i:Nat} {m:Str->ke kj},P.Nodup->P[i]? =some x->vs[i]? =some v->kindOf x≠some .local-> bindC kindOf (P.zip vs) m x=some v
 | [],_,_,_,_,h,_,_=>by simp at h
 | _::_, [],_,_,_,_,h,_=>by simp at h
 | p::P,w::vs,0,m,nd,h1,h2,hk=>by simp at h1 h2;subst h1;subst h2;show bindC kindOf ((p,w)::P.zip vs) m p=_;unfold bindC;rw[Pw λv hv=>(AC0.mp nd).1 (ADc hv).1,AAQ hk];simp
 | p::P,w::vs,i+1,m,nd,h1,h2,hk=>by show bindC kindOf ((p,w)::P.zip vs) m x=_;unfold bindC;exact Pu (i:=i) (AC0.mp nd).2 (by simpa using h1) (by simpa using h2) hk
def start (N:km Str)(vs:km V):St:=vs.map some++List.replicate (N.length-vs.length) none
def Tn (CX:YR)(P:gn)(w:fm)(K:AAP)(mg:Str->ke kj)(base:fe)(N:km Str)(qual:Str)(scope:Scope)(f:kf)(b:kj)(A:da)(outer:km Env)(s:ki)(H:Hp)(E:XK):Cx where
 prog:=P
 w:=w
 K:=K
 mg:=mg
 base:=base
 A:=A.deeper (envOfC qual scope s.heap.objs.size f b)
 N:=N
 s₀:=s
 H₀:=H
 env:=envOfC qual scope s.heap.objs.size f b
 outer:=outer
 stack:=envOfC qual scope s.heap.objs.size f b::outer
 ex:= []
 calm:=true
 fn:=λ_=>true
 pn:= []
 xe:=λe c=>wpAny (model P w) (A.deeper (envOfC qual scope s.heap.objs.size f b)) (leaving (envOfC qual scope s.heap.objs.size f b) e) (λ_ a=>CX outer H s E e a) (λd a=>CX outer H s E d a) c
def Ti {sc:Scope}{n:Nat}{x:Str}(h:sc.names.lookup x=some .cell):∃c,(cellsFrom n sc.names []).lookup x=some c:=by have q:=AEB sc.names n [] (.inl h);exact Option.isSome_iff_exists.mp q
def Y2 {CX:YR}{P:gn}{w:fm}{K:AAP}{mg:Str->ke kj}{base:fe}{N ps:km Str}{qual:Str}{scope:Scope}{f:kf}{l:kj}{A:da}{outer:km Env}{s o:ki}{H:Hp}{E:XK}{m:km kj}{vs:km V}(S:EO N ps scope)(hd:A.handled=none)(d:O3 P w K mg base A outer s H)(hl:vs.length=ps.length)(r:A3 vs m)(x:InCallC s s.heap.objs.size (bindL (envOfC qual scope s.heap.objs.size f l).kindOf (ps.zip m) λ_=>none) (cellsFrom (s.heap.objs.size+1) scope.names []) (bindC (envOfC qual scope s.heap.objs.size f l).kindOf (ps.zip m) λ_=>none) o):Inv (Tn CX P w K mg base N qual scope f l A outer s H E) [] (start N vs) H o:=by
 have hpl:ps.length<=N.length:=by have:=congrArg List.length S.pre;rw[AB4] at this;omega
 obtain⟨h1,t,rfl,hk⟩:=x.done;have g:∀b:kf,b ∉ (Tn CX P w K mg base N qual scope f l A outer s H E).ex:=λb z=>absurd (show b∈([] :km kf) from z) (by simp);refine⟨⟨d.mod,S.kind,rfl,rfl,AAW _,λy z c h1 h2=> ?_,λy hy=> ?_,λy c _ h=> ?_,λ_=>hd,Around.frames_deeper d.frames, .inr ⟨rfl,rfl⟩,λb z=>absurd z (g b),d.bs,d.bsz,λb _ _=>g b,λb z=>absurd z (g b),d.funs,d.frf⟩,
  rfl,d.bare,Un.kept hk,⟨_,x.toInCall.ns,λi y v h1 h2 B=> ?_⟩,λy c h=>⟨_,x.cell y c h⟩,d.hok.fresh (AAW _),λy c h=> ?_,λp hp=>absurd (show p∈([] :km (kf×Obj)) from hp) (by simp),d.hok.kept hk, ?_⟩
 .exact name_of_addr x.apart (ACR h1) (ACR h2)
 .have hy:scope.names.lookup y=some .cell\/scope.names.lookup y=some .free:=hy;rcases hy with hy|hy
  .exact Ti hy
  .exact absurd rfl (S.nofree _ (ACR hy))
 .exact ACs (x.above y c (ACR h))
 .have hi:i<vs.length:=by
   unfold start at h2;by_cases hi:i<vs.length
   .exact hi
   .rw [ABH (by simpa using hi)] at h2;rw[ABg] at h2;split at h2 <;> cases h2
  have ha:vs[i]? =some v:=by
   unfold start at h2;rw[AAz (by simpa using hi),AAx] at h2;cases e:vs[i]? with
   | none=>rw[e] at h2;cases h2
   | some a=>rw[e] at h2;cases h2;rfl
  obtain⟨u,hu,rv⟩:=r.get ha;have hp:ps[i]? =some y:=by rw[<-S.pre,List.getElem?_take_of_lt (by omega)];exact h1
  have j:ps.Nodup:=by rw[<-S.pre];exact S.nd.sublist (List.take_sublist _ _)
  refine⟨u,rv, ?_⟩;rcases S.par y (AA4 hp) with k|k
  .exact .inl ⟨k,Px j hp hu k⟩
  .obtain ⟨c,e⟩:=Ti (n:=s.heap.objs.size+1) k;refine .inr ⟨.inl k,c,e, ?_⟩;have q:=x.cell y c e;rw[Pu j hp hu (by show scope.names.lookup y≠_;rw[k];decide)] at q;exact q
 .exact d.hok.fresh (ACs (x.above y c (ACR h)))
 .unfold start;show _=N.length;rw[AA0,AAa,ABc];omega
def oY {CX:YR}{P:gn}{w:fm}{K:AAP}{mg:Str->ke kj}{base:fe}{k:Nat}{f:kf}{name qual:Str}{params:Arguments}{body:km Stmt}{scope:Scope}{z kV g B a ct L:kj}{C M:ke kf}{j:Array (ke kj)}{N ps:km Str}{sp:Sp}(O:K.lookup f=some ⟨L,M, .func (PySem.W.fnOf name qual params body scope z kV g B C a ct),j⟩)(R:PySem.W.codeIn K a qual=true)(S:EO N ps scope)(len:∀vs H Q E,sp vs H Q E->vs.length=ps.length)(T:∀(A:da) (outer:km Env) (s:ki) (H:Hp) (vs:km V) (Q:VK) (E:XK),Room k (A.deeper (envOfC qual scope s.heap.objs.size f a))->sp vs H Q E-> ∃t,W4 (Tn CX P w K mg base N qual scope f a A outer s H E) body t/\t {nx:=λ_ d=>Q .non d,rt:=Q} (start N vs) H):Eg P w K mg base CX (k+1) f (PySem.W.fnOf name qual params body scope z kV g B C a ct) ps sp:=by
 refine⟨len,λA outer s H args U vs Q E l h hb r D=> ?_⟩;have hl:=len _ _ _ _ D;have F:K.In s.heap:=h.mod.kin.keeps λb o e=>(h.bs b o e).1;have m:s.heap.NoLimit:=h.mod.nolimit.keeps λb o e=>(h.bs b o e).1;have X:∀y∈ps.zip U,scope.names.lookup y.1=some .local\/(scope.names.lookup y.1=some .cell/\((cellsFrom (s.heap.objs.size+1) scope.names []).lookup y.1).isSome=true):=λ⟨n,v⟩ hy=>by
  rcases S.par n (ADc hy).1 with q|q
  .exact .inl q
  .exact .inr ⟨q,AEB _ _ _ (.inl q)⟩
 refine codeAny_call_function l.depth (F _ _ O) rfl S.co S.gen rfl (PySem.W.codeRec_of F R) (hb _ _ _ _ ?_);refine wpAny_newFunctionEnv_cells S.kind X λenv he G x=> ?_;subst he;refine⟨m.keeps x.toInCall.keep,codeAny_func ?_⟩;obtain⟨t,Y,hq⟩:=T A outer s H vs Q E (l.deeper _) D;have I:Inv (Tn CX P w K mg base N qual scope f a A outer s H E) [] (start N vs) H G:=Y2 S l.hd h hl r x;refine ABD (Y [] G (start N vs) H _ I hq) (λZ p hs=> ?_) λe p hs=>hs;have i:∀{c:St} {d:Hp} {v:V} {u:kj},Inv (Tn CX P w K mg base N qual scope f a A outer s H E) [] c d p->RelV v u->Q v d->CE outer P w H s Q u p:=
  λ{c d v u} J rv q=>⟨v,d,J.os,J.bare,J.base,J.hok,rv,q⟩
 cases Z with
 | ret u=> obtain⟨v,c,d,J,rv,q⟩:=hs;exact i J rv q
 | next=> obtain⟨c,d,J,q⟩:=hs;exact i (v:=V.non) (u:=Value.none) J rfl q
 | brk=> obtain⟨_,_,_,q⟩:=hs;exact False.elim q
 | cont=> obtain⟨_,_,_,q⟩:=hs;exact False.elim q
section
variable {X:Cx}{x:Str}{p pos:Pos}{e:kd}{es:km kd}{t:TA}{id T:String}{r:km V->Hp->VK->Prop}
def uW (r:km V->Hp->VK->Prop)(t:TA):TE:=λa H Q=>t a H λvs b=>r vs b Q
def Ko (hc:Cd X (.builtin id) r)(b:Gl X x)(c:X.mg x=none)(hv:bootBuiltins x=some (.builtin id))(ha:PA X (e::es) t)(hn:x≠"__name__" :=by decide)(hdb:(x==("__debug__" :Str))=false:=by decide)(he:starEach (e::es) X.env=(false,eval e X.env)::starEach es X.env:=by rfl)(hpl:(backTo pos (starEach es X.env)).any (·.1)=false:=by rfl):PE X (.Call (.Name x p) (e::es) [] pos) (uW r t):=by intro Wf s a H Q I h;refine ACz (Hl I b c hv ?_ hn hdb);exact AEC (Bf (ha pos Wf s a H _ I h) λd f ⟨vs,g,i,r1,j⟩=>hc Wf f a g vs d Q i r1 j) he hpl
def IQ (hc:Cd X (.type T) r)(b:Gl X x)(c:X.mg x=none)(hv:bootBuiltins x=some (.type T))(ha:PA X (e::es) t)(hn:x≠"__name__" :=by decide)(hdb:(x==("__debug__" :Str))=false:=by decide)(he:starEach (e::es) X.env=(false,eval e X.env)::starEach es X.env:=by rfl)(hpl:(backTo pos (starEach es X.env)).any (·.1)=false:=by rfl):PE X (.Call (.Name x p) (e::es) [] pos) (uW r t):=by intro Wf s a H Q I h;refine ACz (Hl I b c hv ?_ hn hdb);exact ACO (Bf (ha pos Wf s a H _ I h) λd f ⟨vs,g,i,r1,j⟩=>hc Wf f a g vs d Q i r1 j) he hpl
end
end L2
namespace HT
open PySem PyProof.Rows
section
variable {prog:gn}{w:fm}{A:da}{E:kj->ki->Prop}{s:ki}
def cat_tup {t b:kf}{vs a:km kj}{Q:kj->ki->Prop}(o:IsTup s.heap t vs.toArray)(hb:IsTup s.heap b a.toArray)(hv:vs≠ [])(h1:a= [] ->Q (.ref t) s)(h2:a≠ [] ->Q (.ref s.heap.objs.size) {s with heap:=s.heap.push {cls:= .type "tuple",data:= .seq (vs++a).toArray}})(hsz:vs.length+a.length<=sizeLine):wpAny (model prog w) A (binaryOp .Add (.ref t) (.ref b)) Q E s:=by
 obtain⟨⟨cls,h,data,i⟩,f,hc,n,hd⟩:=id o;obtain⟨⟨j,c,data2,d⟩,g,k,l,m⟩:=id hb;simp only at hc hd k m;subst hc hd k m;have e:vs.toArray++a.toArray=(vs++a).toArray:=by simp
 by_cases hw:a= []
 .exact concat_meets ⟨_,f,rfl⟩ ⟨_,g,rfl⟩ ADd seq_tuple_add ADe ADf (ADg _ _)
   (tuple_addW1 t b vs.toArray a.toArray n l h c i d (by simpa using hv) (by simp[hw])) ⟨f,g,h1 hw⟩
 .refine concat_meets ⟨_,f,rfl⟩ ⟨_,g,rfl⟩ ADd seq_tuple_add ADe ADf (ADg _ _)
   (tuple_addW2 t b vs.toArray a.toArray n l h c i d (by simpa using hv) (by simpa using hw) (by rw[AAf,AAf];exact hsz)) ⟨f,g, ?_⟩
  rw[e];exact h2 hw
def sIx (n d:Nat):ke Int->Nat
 | none=>d
 | some v=>if v<0 then (v+(n:Int)).toNat else min v.toNat n
def sIx_none (n d:Nat):sIx n d none=d:=rfl
def sIx_nat (n d k:Nat):sIx n d (some (k:Int))=min k n:=by show (if (k:Int)<0 then ((k:Int)+(n:Int)).toNat else min (k:Int).toNat n)=min k n;rw[AAQ (by omega),AB5]
def mQ (n d:Nat)(hd:d<=n)(o:ke Int):sIx n d o<=n:=by
 cases o with
 | none=>exact hd
 | some v=>
   show (if v<0 then (v+(n:Int)).toNat else min v.toNat n)<=n;by_cases hv:v<0
   .rw [AAR hv];omega
   .rw [AAQ hv];exact Nat.min_le_right _ _
def XH (v:Int)(n d:Nat):(if v<0 then max (v+(n:Int)) 0 else min v (n:Int))=((sIx n d (some v):Nat):Int):=by
 show (if v<0 then max (v+(n:Int)) 0 else min v (n:Int))=(((if v<0 then (v+(n:Int)).toNat else min v.toNat n):Nat):Int);by_cases hv:v<0
 .simp only[AAR hv];omega
 .simp only[AAQ hv];omega
def VX (lo hi:ke Int)(n:Nat):Builtin.Slice.sliceAdjust lo hi 1 (n:Int)=(((sIx n 0 lo:Nat):Int),((sIx n n hi:Nat):Int)):=by
 have h1:¬((1:Int)<0):=by omega
 unfold Builtin.Slice.sliceAdjust;simp only[h1,AAu];refine AB6 ?_ ?_
 .cases lo with
  | none=>rfl
  | some v=>exact XH v n 0
 .cases hi with
  | none=>rfl
  | some v=>exact XH v n n
def WS (i j:Nat):Builtin.Slice.slicePlaces (i:Int) (j:Int) 1=j-i:=by
 unfold Builtin.Slice.slicePlaces;have h1:(1:Int)>0:=by omega
 simp only[h1,ABQ,Int.ediv_one];split <;> omega
def On {v:kj}{o:ke Int}{Q:ke Int->ki->Prop}(p:IsPart v o)(h:Q o s):wpAny (model prog w) A (Builtin.Slice.slicePartIndex v) Q E s:=by
 cases p with
 | none=>exact slicePart_none h
 | int i t=>exact slicePart_int h
def sliceApplied_gen {e:kf}{a b:kj}{lo hi:ke Int}{n:Nat}{Q:Int×Int×Nat->ki->Prop}(hs:s.heap.IsSliceOf e a b .none)(f:IsPart a lo)(g:IsPart b hi)(h:Q (((sIx n 0 lo:Nat):Int),1,sIx n n hi-sIx n 0 lo) s):wpAny (model prog w) A (Builtin.Slice.sliceApplied (.ref e) (pure (n:Int))) Q E s:=by obtain⟨os,c,i,d⟩:=id hs;unfold Builtin.Slice.sliceApplied Builtin.Slice.sliceFields;refine AAO (AAO (AA5 c d (x:=a) rfl (AAO (AA5 c d (x:=b) rfl (AAO (AA5 c d (x:= .none) rfl (AAS ?_)))))));refine AAO (slicePart_none ?_);show wpAny _ _ (if ((1:Int)==0)=true then _ else _) _ _ s;rw[AAQ (by decide)];refine AAO (On f (AAO (On g (AAO (AAS ?_)))));show wpAny _ _ (match Builtin.Slice.sliceAdjust lo hi 1 (n:Int) with | (lo,hi)=>pure (lo,(1:Int),Builtin.Slice.slicePlaces lo hi 1)) _ _ s;rw[VX lo hi n];show wpAny _ _ (pure (((sIx n 0 lo:Nat):Int),(1:Int),Builtin.Slice.slicePlaces ((sIx n 0 lo:Nat):Int) ((sIx n n hi:Nat):Int) 1)) _ _ s;rw[WS];exact AAS h
def dC (xs:Array kj)(i k:Nat):((List.range k).filterMap λ(m:Nat)=>xs[((i:Int)+(m:Int)*1).toNat]?).toArray=((xs.toList.drop i).take k).toArray:=by
 have e:(λ(m:Nat)=>xs[((i:Int)+(m:Int)*1).toNat]?)=λm=>xs[i+m]? :=by
  funext m
  have:((i:Int)+(m:Int)*1).toNat=i+m:=by omega
  rw[this]
 rw[e];have:=pick_run xs i k;rw[List.filterMap_map] at this;have a:((λx=>xs[x]?) ∘ λx=>i+x)=λm=>xs[i+m]? :=rfl;rw[a] at this;rw[this]
def getItem_tuple_cut {t c:kf}{items:Array kj}{d e:kj}{lo hi:ke Int}{Q:kj->ki->Prop}(a:IsTup s.heap t items)(hs:s.heap.IsSliceOf c d e .none)(f:IsPart d lo)(g:IsPart e hi)(hw:¬(sIx items.size 0 lo=0/\sIx items.size items.size hi=items.size))(h:Q (.ref s.heap.objs.size) {s with heap:=s.heap.push {cls:= .type "tuple",data:= .seq ((items.toList.drop (sIx items.size 0 lo)).take (sIx items.size items.size hi-sIx items.size 0 lo)).toArray}})(hsz:items.size<=sizeLine):wpAny (model prog w) A (getItem (.ref t) (.ref c)) Q E s:=by
 have b:sizeOk (.seq ((items.toList.drop (sIx items.size 0 lo)).take (sIx items.size items.size hi-sIx items.size 0 lo)).toArray):=by show ((items.toList.drop (sIx items.size 0 lo)).take (sIx items.size items.size hi-sIx items.size 0 lo)).toArray.size<=sizeLine;rw[AAf,AB4,AC1,ABp];omega
 have hj:sIx items.size items.size hi<=items.size:=mQ _ _ (AAW _) hi;obtain⟨os,i,j,n⟩:=id hs;have k:s.TypeIs (.ref c) "slice" :=⟨os,i,j⟩;unfold getItem;try with_reducible refine AA8 ?_
 first | refine AAO (AAS ?_)|skip
 refine AAO (wpAny_sequenceKey a.typeIs (by decide) ?_);refine AAO (ABh (name:=Str.ofString "__getitem__") a.typeIs AB7
  (ABL AB7 a.typeIs entry_tuple_getitem ?_ (args_tuple_getitem _ _)))
 show wpAny _ _ (Builtin.Tuple.tupleItemsOf (.ref t) >>= _) _ _ s;refine AAO (tupleItemsOf_ a ?_);refine AAO (ACS k ?_);rw[AAR (by decide)];refine AAO (sliceApplied_gen hs f g ?_);have l:¬((((sIx items.size 0 lo:Nat):Int)==0&&(1:Int)==1&&(sIx items.size items.size hi-sIx items.size 0 lo)==items.size)=true):=by intro q;rw[AAh,AAh] at q;have o:((sIx items.size 0 lo:Nat):Int)=0:=eq_of_beq q.1.1;have p:sIx items.size items.size hi-sIx items.size 0 lo=items.size:=eq_of_beq q.2;exact hw ⟨by omega,by omega⟩
 show wpAny _ _ (if (((sIx items.size 0 lo:Nat):Int)==0&&(1:Int)==1&&(sIx items.size items.size hi-sIx items.size 0 lo)==items.size)=true then _ else _) _ _ s;rw[AAQ l,dC];first
  | exact AAO (m:=Builtin.Tuple.tupleExact _) (ABG (AAS ⟨_,rfl,AAS h⟩) b)
  | exact AAO (m:=Builtin.Tuple.tupleExact _) (ABG (AAO (AAS (AAS ⟨_,rfl,AAS h⟩))) b)
  | exact AAO (AAO (m:=Builtin.Tuple.tupleExact _) (ABG (AAS (AAS ⟨_,rfl,AAS h⟩)) b))
  | exact AAO (AAO (m:=Builtin.Tuple.tupleExact _) (ABG (AAS ⟨_,rfl,AAS h⟩) b))
end
end HT
namespace L2
open PySem PySem.Spec PyProof.Rows
abbrev TO:=St->Hp->(ke Int->Hp->Prop)->Prop
def PO (X:Cx)(e:ke kd)(t:TO):Prop:=
 ∀(Wf:km (kf×Obj)) (s:ki) (a:St) (H:Hp) (Q:ke Int->Hp->Prop),Inv X Wf a H s->t a H Q->
  wpAny (model X.prog X.w) X.A (evalPart e X.env) (λu c=>∃o b,Inv X Wf a b c/\IsPart u o/\Q o b) X.xe s
def i5:TO:=λ_ H Q=>Q none H
def qw (t:TE):TO:=λa H Q=>t a H λx b=>∃i,x= .int i/\Q (some i) b
section
variable {X:Cx}{e:kd}{te:TE}{lo hi:ke kd}{tl th:TO}{pos p2:Pos}
def iK:PO X none i5:=by intro Wf s a H Q I h;rw[evalPart_none];exact AAS ⟨none,H,I, .none,h⟩
def iL (h:PE X e te):PO X (some e) (qw te):=by intro Wf s a H Q I hw;rw[evalPart_some];refine Bf (h Wf s a H _ I hw) λu f ⟨x,b,c,r1,d⟩=> ?_;obtain⟨i,rfl,q⟩:=d;obtain⟨t,rfl⟩:=r1;exact⟨some i,b,c, .int i t,q⟩
def jH (X:Cx)(r:V->ke Int->ke Int->Hp->VK->Prop):Prop:=
 ∀(Wf:km (kf×Obj)) (s:ki) (a:St) (H:Hp) (x:V) (v b c:kj) (lo hi:ke Int) (d:kf) (Q:VK),Inv X Wf a H s->RelV x v->s.heap.IsSliceOf d b c .none->IsPart b lo->IsPart c hi->r x lo hi H Q->
  ∃T id,typeLookup (.type T) "__getitem__" =pure (some (.builtin id))/\s.TypeIs v T/\wpAny (model X.prog X.w) X.A (getItem v (.ref d)) (EP X Wf a Q) X.xe s
def jH.or {r a:V->ke Int->ke Int->Hp->VK->Prop}(h:jH X r)(h':jH X a):jH X (λx lo hi H Q=>r x lo hi H Q\/a x lo hi H Q):=by
 intro Wf s b H x v c d lo hi f Q I g hs i j q;rcases q with q|q
 .exact h Wf s b H x v c d lo hi f Q I g hs i j q
 .exact h' Wf s b H x v c d lo hi f Q I g hs i j q
def zl (r:V->ke Int->ke Int->Hp->VK->Prop)(te:TE)(tl th:TO):TE:=λa H Q=>te a H λx b=>tl a b λl c=>th a c λu d=>r x l u d Q
def dA {r:V->ke Int->ke Int->Hp->VK->Prop}(i:jH X r)(he:PE X e te)(hl:PO X lo tl)(hu:PO X hi th):PE X (.Subscript e (.Slice lo hi none p2) pos) (zl r te tl th):=by intro Wf s c H Q I h;refine Subscript_ (Bf (he Wf s c H _ I h) λv j ⟨x,k,m,r1,n⟩=> ?_);refine wpAny_Slice (Bf (hl Wf j c k _ m n) λd o ⟨l,p,t,y,z⟩=>Bf (hu Wf o c p _ t z) λf a ⟨u,g,B,C,D⟩=> ?_);rw[evalPart_none];refine AAS ?_;have E:Inv X Wf c g {a with heap:=a.heap.push {cls:= .type "slice",data:= .fields #[d,f, .none] }}:=B.kept (t':=a.toks) λb K q=>AAV _ q;obtain⟨T,id,F,G,J⟩:=i Wf {a with heap:=a.heap.push {cls:= .type "slice",data:= .fields #[d,f, .none] }} c g x v d f l u a.heap.objs.size Q E r1 (Heap.IsSliceOf.new ..) y C D;show wpAny (model X.prog X.w) X.A (subscriptTail e (.Slice lo hi none p2) v (.ref a.heap.objs.size)) (EP X Wf c Q) X.xe {a with heap:=a.heap.push {cls:= .type "slice",data:= .fields #[d,f, .none] }};exact tail_any (ops:= [.ref a.heap.objs.size,v]) G F J (by with_unfolding_all rfl)
def O9 (xs:km V)(lo hi:ke Int):km V:=(xs.drop (HT.sIx xs.length 0 lo)).take (HT.sIx xs.length xs.length hi-HT.sIx xs.length 0 lo)
def MG (xs:km V)(lo hi:ke Int):(O9 xs lo hi).length<=xs.length:=by unfold O9;rw[AB4,AC1];omega
def uQ (K:AAP):V->ke Int->ke Int->Hp->VK->Prop:=λx lo hi H Q=>∃a xs,x= .ref a/\KB K H a xs/\
 ¬(HT.sIx xs.length 0 lo=0/\HT.sIx xs.length xs.length hi=xs.length)/\∀p,H p=none->Q (.ref p) (upd H p (.tup (O9 xs lo hi)))
def mh:jH X (uQ X.K):=by
 intro Wf s k H x v l m lo hi n Q I g hs i j h;obtain⟨a,xs,rfl,hx,hw,q⟩:=h;cases g;obtain⟨c,r,f,hz⟩:=I.tuple hx;have d:c.toArray.size=xs.length:=by rw[AAf];exact r.length.symm
 refine⟨"tuple",_,AB7.lookup,f.typeIs, ?_⟩;refine HT.getItem_tuple_cut f hs i j (by rw[d];exact hw) ?_ (by rw[d];exact hz);rw[d];refine⟨.ref s.heap.objs.size,_,I.laid (t':=s.toks) (o:= .tup (O9 xs lo hi)) (λb p q=>AAV _ q) (AAW _) ?_,rfl,q _ (I.hok.fresh (AAW _))⟩;exact⟨AAl (MG xs lo hi) hz,_,(r.drop (HT.sIx xs.length 0 lo)).take (HT.sIx xs.length xs.length hi-HT.sIx xs.length 0 lo),IsTup.new _ _⟩
def jb (K:AAP):R2:=λx y H Q=>∃a b xs ys,x= .ref a/\y= .ref b/\KB K H a xs/\KB K H b ys/\xs≠ [] /\xs.length+ys.length<=sizeLine/\
 (ys= [] ->Q (.ref a) H)/\(ys≠ [] ->∀p,H p=none->Q (.ref p) (upd H p (.tup (xs++ys))))
def A3.nil_iff {xs:km V}{a:km kj}(r:A3 xs a):a= [] ↔xs= [] :=by
 cases r with
 | nil=>simp
 | cons _ _=>simp
def hU:EB X (binaryOp .Add) (jb X.K):=by intro Wf s k H x y v u Q I d f h;obtain⟨a,b,xs,ys,rfl,rfl,ha,hb,hx,hz,g,i⟩:=h;cases d;cases f;obtain⟨j,r1,p1,_⟩:=I.tuple ha;obtain⟨c,r2,p2,_⟩:=I.tuple hb;refine HT.cat_tup p1 p2 (λz=>hx (r1.nil_iff.mp z)) (λz=>⟨.ref a,H,I,rfl,g (r2.nil_iff.mp z)⟩) (λz=> ?_) (by rw[<-r1.length,<-r2.length];exact hz);refine⟨.ref s.heap.objs.size,_,I.laid (t':=s.toks) (o:= .tup (xs++ys)) (λb l q=>AAV _ q) (AAW _) ?_,rfl,i (λw=>z (r2.nil_iff.mpr w)) _ (I.hok.fresh (AAW _))⟩;exact⟨by rw[AA0];exact hz,_,r1.append r2,IsTup.new _ _⟩
end
def V3 (n:Nat)(i:Int):ke Nat:=if 0<=i then (if i<n then some i.toNat else none) else if -(n:Int)<=i then some (i+n).toNat else none
def HK {a:Type}(xs:km a)(i:Int):ke a:=(V3 xs.length i).bind λj=>xs[j]?
def Xk {n:Nat}{i:Int}{j:Nat}(h:V3 n i=some j):seqIndex? i n=some j/\j<n/\ -(n:Int)<=i/\i<n:=by
 unfold V3 at h;by_cases a:0<=i
 .rw [AAR a] at h;by_cases h1:i<n
  .rw [AAR h1] at h;have e:i.toNat=j:=AAk h;exact⟨by rw[seqIndex_of a h1,e],by omega,by omega,h1⟩
  .rw [AAQ h1] at h;cases h
 .rw [AAQ a] at h;by_cases h1: -(n:Int)<=i
  .rw [AAR h1] at h;have e:(i+n).toNat=j:=AAk h;exact⟨by rw[seqIndex_neg (by omega) h1,e],by omega,h1,by omega⟩
  .rw [AAQ h1] at h;cases h
def XA {a:Type}{xs:km a}{i:Int}{v:a}(h:HK xs i=some v):∃j,seqIndex? i xs.length=some j/\xs[j]? =some v/\j<xs.length/\ -(xs.length:Int)<=i/\i<xs.length:=by
 unfold HK at h;cases e:V3 xs.length i with
 | none=>rw[e] at h;cases h
 | some j=> rw[e] at h;obtain⟨h1,h2,b,c⟩:=Xk e;exact⟨j,h1,h,h2,b,c⟩
def B8 {a:Type}{xs:km a}{j:Nat}{v:a}(h:xs[j]? =some v):HK xs (j:Int)=some v:=by
 have hj:j<xs.length:=(AAw.mp h).1;have e:V3 xs.length (j:Int)=some j:=by unfold V3;rw[AAR (by omega),AAR (by omega)];simp
 unfold HK;rw[e];exact h
def RA (b:kd):Prop:=∀o i,subscripted b false o i=operate [o,i] (getItem o i)
def fZ (X:Cx)(r:R2):Prop:=
 ∀(value slice:kd) (Wf:km (kf×Obj)) (s:ki) (a:St) (H:Hp) (x y:V) (v u:kj) (Q:VK),Inv X Wf a H s->RelV x v->RelV y u->r x y H Q->
  subscripted slice false v u=operate [v,u] (getItem v u)->wpAny (model X.prog X.w) X.A (subscriptTail value slice v u) (EP X Wf a Q) X.xe s
def oA (X:Cx)(id:String)(r:V->km V->Hp->VK->Prop):Prop:=
 ∀(Wf:km (kf×Obj)) (s:ki) (a:St) (H:Hp) (x:V) (xs:km V) (v:kj) (b:km kj) (Q:VK),Inv X Wf a H s->RelV x v->A3 xs b->r x xs H Q->
  wpAny (model X.prog X.w) X.A (call (.builtin id) (v::b)) (EP X Wf a Q) X.xe s
section
variable {X:Cx}{a b:kd}{ta tb:TE}{pos:Pos}
def fZ.or {r c:R2}(h:fZ X r)(h':fZ X c):fZ X (λx y H Q=>r x y H Q\/c x y H Q):=by
 intro value slice Wf s d H x y v u Q I e f q hs;rcases q with q|q
 .exact h value slice Wf s d H x y v u Q I e f q hs
 .exact h' value slice Wf s d H x y v u Q I e f q hs
def oA.or {id:String}{r c:V->km V->Hp->VK->Prop}(h:oA X id r)(h':oA X id c):oA X id (λx xs H Q=>r x xs H Q\/c x xs H Q):=by
 intro Wf s d H x xs v e Q I f rs q;rcases q with q|q
 .exact h Wf s d H x xs v e Q I f rs q
 .exact h' Wf s d H x xs v e Q I f rs q
def MM {r:R2}(c:fZ X r)(ha:PE X a ta)(hb:PE X b tb)(hs:RA b):PE X (.Subscript a b pos) (i6 r ta tb):=by intro Wf s d H Q I h;exact Subscript_ (kF ha hb I h λv u e x y f g i j q=>c a b Wf e d f x y v u Q g i j q (hs _ _))
def qJ (K:AAP):R2:=λx y H Q=>∃p xs i v,x= .ref p/\y= .int i/\FF K H p xs/\HK xs i=some v/\Q v H
def qL (K:AAP):R2:=λx y H Q=>∃p xs i v,x= .ref p/\y= .int i/\KB K H p xs/\HK xs i=some v/\Q v H
def FU:fZ X (qJ X.K):=by
 intro value slice Wf s g H x y v u Q I l m h hs;obtain⟨p,xs,i,z,rfl,rfl,hq,he,q⟩:=h;cases l;obtain⟨t,rfl⟩:=m;obtain⟨d,r,e,hz⟩:=I.list hq;obtain⟨j,h1,h2,B,n,o⟩:=XA he;obtain⟨w,ew,f⟩:=r.get h2;have hl:=r.length;have hn:=Lc;have c:EP X Wf g Q w s:=⟨z,H,I,f,q⟩;by_cases k:0<=i
 .have hj:i.toNat=j:=by rw[seqIndex_of k o] at h1;exact AAk h1
  exact item_listR e.isList k (by omega) (by rw[hj];simpa using ew) c hs
 .have hj:(i+(d.toArray.size:Int)).toNat=j:=by rw[seqIndex_neg (by omega) n] at h1;rw[AAf,<-hl];exact AAk h1
  exact subscriptTail_builtinR (x:=w) e.isList.typeIs slot_list_getitem.lookup
   (wpAny_getItem_list_neg (Q:=λr A=>r=w/\EP X Wf g Q r A) e.isList (by omega) (by rw[AAf] <;> omega) (by omega) (by rw[hj];simpa using ew) ⟨rfl,c⟩) hs
def lD:fZ X (qL X.K):=by
 intro value slice Wf s e H x y v u Q I g k h hs;obtain⟨p,xs,i,z,rfl,rfl,hq,he,q⟩:=h;cases g;obtain⟨t,rfl⟩:=k;obtain⟨l,r,f,hz⟩:=I.tuple hq;obtain⟨j,h1,h2,n,o,A⟩:=XA he;obtain⟨w,ew,c⟩:=r.get h2;have hl:=r.length;have hn:=Lc;have d:EP X Wf e Q w s:=⟨z,H,I,c,q⟩;exact subscriptTail_builtinR (x:=w) f.typeIs slot_tuple_getitem.lookup
  (getItem_tuple (j:=j) (Q:=λr m=>r=w/\EP X Wf e Q r m) f (by omega) (by omega) (by rw[AAf,<-hl];exact h1) (by simpa using ew) ⟨rfl,d⟩) hs
def V8 (c:km kj)(n j:Nat)(u:kj):Obj.mapSeq (·.setIfInBounds j u) {cls:= .type "list",data:= .seq c.toArray n}={cls:= .type "list",data:= .seq (c.set j u).toArray n}:=by simp[Obj.mapSeq]
def Inv.lst {Wf:km (kf×Obj)}{d:St}{H:Hp}{s:ki}{p:kf}{xs:km V}(I:Inv X Wf d H s)(h:H p=some (.lst xs)):∃(c:km kj) (n:Nat),A3 xs c/\s.heap.get? p=some {cls:= .type "list",data:= .seq c.toArray n}/\xs.length<=sizeLine:=by obtain⟨z,c,n,r,e⟩:=I.hok p _ h;exact⟨c,n,r,e,z⟩
def Inv.lstUpd {Wf:km (kf×Obj)}{g:St}{H:Hp}{s:ki}{p:kf}{xs ys:km V}{c its':km kj}{n d:Nat}{f:Obj->Obj}(I:Inv X Wf g H s)(h:H p=some (.lst xs))(j:s.heap.get? p=some {cls:= .type "list",data:= .seq c.toArray n})(i:f {cls:= .type "list",data:= .seq c.toArray n}={cls:= .type "list",data:= .seq its'.toArray d})(r:A3 ys its')(hz:ys.length<=sizeLine)(t:Nat):Inv X Wf g (upd H p (.lst ys)) {s with heap:=s.heap.update p f,toks:=t}:=by
 have e:(s.heap.update p f).get? p=some {cls:= .type "list",data:= .seq its'.toArray d}:=by rw[AB8 f j (by rw[i] <;> rfl),i]
 refine I.write (x:=p) (e:=p) (by rw[h];trivial) (.inl rfl) (λb u hb q=>(ACT _ _ (ABA hb)).trans q) ⟨_,e⟩ ?_;exact⟨hz,its',d,r,e⟩
def qO:V->V->V->Hp->(Hp->Prop)->Prop:=λo i v H Q=>∃p xs k j,o= .ref p/\i= .int k/\H p=some (.lst xs)/\V3 xs.length k=some j/\Q (upd H p (.lst (xs.set j v)))
def Om:oC X qO:=by
 intro Wf s m H o i v y z u Q I w x rv h;obtain⟨p,xs,k,j,rfl,rfl,hp,hj,q⟩:=h;cases w;obtain⟨t,rfl⟩:=x;obtain⟨c,n,r,d,hz⟩:=I.lst hp;obtain⟨h1,h2,e,f⟩:=Xk hj;have hl:=r.length;have hn:=Lc;have g:Inv X Wf m (upd H p (.lst (xs.set j v))) {s with heap:=s.heap.update p (Obj.mapSeq (·.setIfInBounds j u))}:=
  I.lstUpd hp d (V8 c n j u) (r.set rv j) (by rw[List.length_set];exact hz) s.toks
 by_cases l:0<=k
 .have hk:k.toNat=j:=by rw[seqIndex_of l f] at h1;exact AAk h1
  exact PySem.W.ki_setAt d l (by omega) (by rw[AAf,<-hl];exact f) (by rw[hk];exact⟨_,g,q⟩)
 .have hk:(k+(c.toArray.size:Int)).toNat=j:=by rw[seqIndex_neg (by omega) e] at h1;rw[AAf,<-hl];exact AAk h1
  exact PySem.W.ki_setBack d (by omega) (by rw[AAf,<-hl];exact e) (by omega) (by rw[hk];exact⟨_,g,q⟩)
def SY (lo hi:ke Int)(n:Nat):(sliceBounds lo hi none n).1=((HT.sIx n 0 lo:Nat):Int)/\(sliceBounds lo hi none n).2.1=((HT.sIx n n hi:Nat):Int)/\(sliceBounds lo hi none n).2.2=1:=by
 refine⟨?_, ?_,rfl⟩
 .cases lo with
  | none=>simp[sliceBounds,HT.sIx]
  | some i=>
    simp only[sliceBounds,HT.sIx,Option.getD_none,show (1:Int)>0 by decide,ABQ];by_cases h:i<0
    .simp only[h,ABQ] <;> omega
    .simp only[h,AAu] <;> omega
 .cases hi with
  | none=>simp[sliceBounds,HT.sIx]
  | some i=>
    simp only[sliceBounds,HT.sIx,Option.getD_none,show (1:Int)>0 by decide,ABQ];by_cases h:i<0
    .simp only[h,ABQ] <;> omega
    .simp only[h,AAu] <;> omega
def Pe (c:km kj)(lo hi:ke Int):slicePick c.toArray lo hi none=((c.drop (HT.sIx c.length 0 lo)).take (HT.sIx c.length c.length hi-HT.sIx c.length 0 lo)).toArray:=by obtain⟨h1,h2,d⟩:=SY lo hi c.toArray.size;unfold slicePick;rw[h1,h2,d];simp only[sliceRange_one,pick_run,AAf] <;> rfl
def uP (K:AAP):V->ke Int->ke Int->Hp->VK->Prop:=λx lo hi H Q=>∃a xs,x= .ref a/\FF K H a xs/\∀p,H p=none->Q (.ref p) (upd H p (.lst (O9 xs lo hi)))
def ir:jH X (uP X.K):=by intro Wf s j H x v k l lo hi m Q I d hs e f h;obtain⟨a,xs,rfl,hx,q⟩:=h;cases d;obtain⟨g,r,c,hz⟩:=I.list hx;have i:=r.length;refine⟨"list",_,slot_list_getitem.lookup,c.isList.typeIs, ?_⟩;refine wpAny_getItem_list_slice c.isList hs e f .none (by simp) ?_ (by rw[AAf] <;> omega);rw[Pe,<-i];refine⟨.ref s.heap.objs.size,_,I.laid (t':=s.toks) (o:= .lst (O9 xs lo hi)) (λb n q=>AAV _ q) (AAW _) ?_,rfl,q _ (I.hok.fresh (AAW _))⟩;exact⟨AAl (MG xs lo hi) hz,_,0,(r.drop (HT.sIx xs.length 0 lo)).take (HT.sIx xs.length xs.length hi-HT.sIx xs.length 0 lo),AAi _ rfl⟩
def KI:Cd X (.builtin "len") (λxs H Q=>∃p ys,xs= [.ref p] /\(FF X.K H p ys\/KB X.K H p ys)/\Q (.int ys.length) H):=by
 intro Wf s i H xs j Q I r h;obtain⟨p,ys,rfl,hq,q⟩:=h;obtain⟨u,rfl,g⟩:=vals1 r;cases g;have hn:=Lc;rcases hq with hq|hq
 .obtain ⟨c,d,e,hz⟩:=I.list hq;have f:=d.length;exact Calls.call_len_list e.isList (by simp only[AAf] <;> omega) ⟨.int ys.length,H,I.tok _,⟨s.toks+1,by rw[AAf,f]⟩,q⟩
 .obtain ⟨c,d,e,hz⟩:=I.tuple hq;have f:=d.length;exact len_tuple e (by simp only[AAf] <;> omega) ⟨.int ys.length,H,I.tok _,⟨s.toks+1,by rw[AAf,f]⟩,q⟩
def Cd.or {f:kj}{r c:km V->Hp->VK->Prop}(h:Cd X f r)(h':Cd X f c):Cd X f (λxs H Q=>r xs H Q\/c xs H Q):=by
 intro Wf s d H xs e Q I rs q;rcases q with q|q
 .exact h Wf s d H xs e Q I rs q
 .exact h' Wf s d H xs e Q I rs q
def RI:Cd X (.type "list") (λxs H Q=>∃p ys,xs= [.ref p] /\(FF X.K H p ys\/KB X.K H p ys)/\∀l,H l=none->Q (.ref l) (upd H l (.lst ys))):=by
 intro Wf s t H xs y Q I r h;obtain⟨p,ys,rfl,hq,q⟩:=h;obtain⟨u,rfl,v⟩:=vals1 r;cases v;have g:∀(c:km kj),A3 ys c->ys.length<=sizeLine->∀(h':fe) (d:Nat),(∀b m,s.heap.get? b=some m->h'.get? b=some m)->
  h'.get? s.heap.objs.size=some {cls:= .type "list",dict:=none,data:= .seq c.toArray d,slots:= #[] }->EP X Wf t Q (.ref s.heap.objs.size) {s with heap:=h'}:=λc f hz h' d i e=>
  ⟨.ref s.heap.objs.size,_,I.laid (t':=s.toks) i (AAW _) (show CD X.prog X.w _ h' _ (.lst ys) from⟨hz,c,d,f,e⟩),rfl,q _ (I.hok.fresh (AAW _))⟩
 rcases hq with hq|hq
 .obtain ⟨c,f,j,hz⟩:=I.list hq;have x:=f.length;obtain⟨o,k,hc,n,hd⟩:=j.isList;exact call_list_seq p (.inl rfl) k hc hd (λh' d i e=>g c f hz h' d i e) (by simp only[AAf] <;> omega)
 .obtain ⟨c,f,j,hz⟩:=I.tuple hq;have x:=f.length;obtain⟨o,k,hc,n,hd⟩:=j;exact call_list_seq p (.inr rfl) k hc hd (λh' d i e=>g c f hz h' d i e) (by simp only[AAf] <;> omega)
def O8:Cd X (.type "tuple") (λxs H Q=>∃p ys,xs= [.ref p] /\((FF X.K H p ys/\∀l,H l=none->Q (.ref l) (upd H l (.tup ys)))\/(KB X.K H p ys/\Q (.ref p) H))):=by
 intro Wf s g H xs n Q I r h;obtain⟨p,ys,rfl,h⟩:=h;obtain⟨u,rfl,j⟩:=vals1 r;cases j;rcases h with⟨hq,q⟩|⟨hq,q⟩
 .obtain ⟨c,d,f,hz⟩:=I.list hq;have t:=d.length;refine call_tuple_list f.isList (λh' k=> ?_) (by simp only[AAf] <;> omega);have i:Inv X Wf g H {s with heap:=h'}:=I.kept (t':=s.toks) k;have m:Inv X Wf g (upd H h'.objs.size (.tup ys)) {s with heap:=h'.push {cls:= .type "tuple",data:= .seq c.toArray}}:=
   i.laid (t':=s.toks) (λb o e=>AAV _ e) (AAW _) (show CD X.prog X.w _ _ _ (.tup ys) from⟨hz,c,d,IsTup.new _ _⟩)
  exact⟨.ref h'.objs.size,_,m,rfl,q _ (i.hok.fresh (AAW _))⟩
 .obtain ⟨c,d,f,hz⟩:=I.tuple hq;exact call_tuple_same f ⟨.ref p,H,I,rfl,q⟩
def wr (K:AAP)(T:String)(x:V)(H:Hp):Prop:=match x with
 | .str _=>T="str"
 | .int _=>T="int"
 | .ref p=>(T="list" /\∃xs,FF K H p xs)\/(T="tuple" /\∃o,K.lookup p=some o/\o.cls= .type "tuple" /\o.dict=none)\/
     (T="dict" /\((∃c,H p=some (.dK c))\/∃c,H p=some (.dT c)))\/(T="set" /\∃S n,H p=some (.set S n))
 | _=>False
def m7 {Wf:km (kf×Obj)}{k:St}{H:Hp}{s:ki}{T:String}{x:V}{v:kj}(I:Inv X Wf k H s)(r:RelV x v)(d:wr X.K T x H):s.TypeIs v T/\∀a,v= .ref a->∃h,s.heap.get? a=some h/\h.dict=none:=by
 cases x with
 | str z=> obtain⟨t,rfl⟩:=r;cases (show T="str" from d);exact⟨typeIs_str s z t,λ_ e=>nomatch e⟩
 | int i=> obtain⟨t,rfl⟩:=r;cases (show T="int" from d);exact⟨typeIs_int s i t,λ_ e=>nomatch e⟩
 | ref p=>
   cases r;rcases d with⟨rfl,xs,hq⟩|⟨rfl,o,hk,hc,hd⟩|⟨rfl,hk⟩|⟨rfl,S,n,hk⟩
   .obtain ⟨l,_,j,_⟩:=I.list hq;refine⟨j.isList.typeIs,λa e=> ?_⟩;cases e;obtain⟨o,n,e,c,hd,_⟩:=j;exact⟨o,e,hd⟩
   .refine ⟨⟨o,I.kIn p o hk,hc⟩,λa e=> ?_⟩;cases e;exact⟨o,I.kIn _ o hk,hd⟩
   .have z:∃o,s.heap.get? p=some o/\o.ExactDict:=by
     rcases hk with⟨f,hk⟩|⟨f,hk⟩
     .obtain ⟨_,_,_,_,o,_,_,e,ex,_⟩:=I.hok p _ hk;exact⟨o,e,ex⟩
     .obtain ⟨_,_,_,_,o,_,_,e,ex,_⟩:=I.hok p _ hk;exact⟨o,e,ex⟩
    obtain⟨o,e,ex⟩:=z;refine⟨⟨o,e,ex.1⟩,λa g=> ?_⟩;cases g;exact⟨o,e,ex.2.1⟩
   .obtain ⟨o,_,_,_,e,ex,_⟩:=I.hok p _ hk;refine⟨⟨o,e,ex.1⟩,λa g=> ?_⟩;cases g;exact⟨o,e,ex.2.1⟩
 | _=>exact False.elim d
def wq (K:AAP)(T:String)(r:V->km V->Hp->VK->Prop)(e:TE)(t:TA):TE:=λc H Q=>e c H λx d=>wr K T x d/\t c d λxs f=>r x xs f Q
variable {o e:kd}{es:km kd}{to:TE}{t:TA}{name:Str}{apos cpos:Pos}{T id:String}{r:V->km V->Hp->VK->Prop}
def qE (g:PlainAttrs T)(slot:Slot T name id)(i:typeOf (.builtin id)=pure (.type "method_descriptor"))(j:oA X id r)(k:PE X o to)(ha:PA X (e::es) t)(l:attributeBase o name X.env (eval o X.env)=eval o X.env:=by rfl)(m:((backTo cpos (starEach (e::es) X.env)).all (λx=> !x.1)&&(backToKw cpos (keywordEach [] X.env)).all (λx=>x.1.isSome) && decide ((e::es).length+([] :km Keyword).length+(if ([] :km Keyword).isEmpty then 0 else 1)<30))=true:=by rfl)(n:(apos.endLine==cpos.line)=true:=by rfl)(hs:starEach (e::es) X.env=(false,eval e X.env)::starEach es X.env:=by rfl)(p:(backTo cpos (starEach es X.env)).any (·.1)=false:=by rfl):PE X (.Call (.Attribute o name apos) (e::es) [] cpos) (wq X.K T r to t):=by intro Wf s c H Q I h;refine wpAny_Call_method_late l m n rfl (Bf (k Wf s c H _ I h) λv u ⟨x,w,d,r1,y,z⟩=> ?_);obtain⟨h1,h2⟩:=m7 d r1 y;refine⟨T,id,g,slot,i,h1,h2, ?_⟩;have f:=ha cpos Wf u c w _ d z;rw[hs] at f ⊢;refine ADh (by show (false||(backTo cpos (starEach es X.env)).any (·.1))=false;rw[p] <;> rfl) (ADi ?_);exact Bf f λA B ⟨vs,C,D,r2,E⟩=>j Wf B c C x vs v A Q D r1 r2 E
end
def n9 (X:Cx)(id:String)(r:V->km V->Hp->VK->Prop):Prop:=
 ∀(Wf:km (kf×Obj)) (s:ki) (a:St) (H:Hp) (x:V) (xs:km V) (v:kj) (b:km kj) (Q:VK),Inv X Wf a H s->RelV x v->A3 xs b->r x xs H Q->
  wpAny (model X.prog X.w) X.A (call (.builtin id) (v::b)) (EP X Wf a Q) X.xe s
def A3.one:∀{x:V} {a:km kj},A3 [x] a->∃u,a= [u] /\RelV x u
 | _,_, .cons r .nil=>⟨_,rfl,r⟩
def A3.two:∀{x y:V} {a:km kj},A3 [x,y] a->∃u v,a= [u,v] /\RelV x u/\RelV y v
 | _,_,_, .cons r (.cons q .nil)=>⟨_,_,rfl,r,q⟩
def A3.zero:∀{a:km kj},A3 [] a->a= []
 | _, .nil=>rfl
def A3.dropLast {xs:km V}{a:km kj}(h:A3 xs a):A3 xs.dropLast a.dropLast:=by
 induction h with
 | nil=>exact .nil
 | cons r t ih=>
   cases t with
   | nil=>exact .nil
   | cons q t'=>exact .cons r ih
def A3.reverse {xs:km V}{a:km kj}(h:A3 xs a):A3 xs.reverse a.reverse:=by
 induction h with
 | nil=>exact .nil
 | cons r t ih=>rw[AC2,AC2];exact A3.append ih (.cons r .nil)
section
variable {X:Cx}{Wf:km (kf×Obj)}{σ:St}{H:Hp}{s:ki}{l b:kf}{xs ys zs:km V}
def Inv.lset {a its':km kj}{n:Nat}{f:Array kj->Array kj}{t':Nat}(I:Inv X Wf σ H s)(c:H l=some (.lst xs))(e:s.heap.get? l=some {cls:= .type "list",data:= .seq a.toArray n})(d:f a.toArray=its'.toArray)(hv:A3 ys its')(hz:ys.length<=sizeLine):Inv X Wf σ (upd H l (.lst ys)) {s with heap:=s.heap.update l (Obj.mapSeq f),toks:=t'}:=by have q:=PySem.IsL.update e f;rw[d] at q;refine I.write (x:=l) (e:=l) (by rw[c];exact trivial) (.inl rfl) (λg u hb hu=>(ACT s.heap (Obj.mapSeq f) (ABA hb)).trans hu) ⟨_,q⟩ ?_;exact⟨hz,its',_,hv,q⟩
def Inv.lnew {a:km kj}{t':Nat}(I:Inv X Wf σ H s)(hv:A3 ys a)(hz:ys.length<=sizeLine):Inv X Wf σ (upd H s.heap.objs.size (.lst ys)) {s with heap:=s.heap.push {cls:= .type "list",data:= .seq a.toArray},toks:=t'}:=
 I.laid (λ_ _ q=>AAV _ q) (AAW _) ⟨hz,a,0,hv,AAi _ rfl⟩
def Inv.fresh (I:Inv X Wf σ H s):H s.heap.objs.size=none:=I.hok.fresh (AAW _)
def Inv.lstM (I:Inv X Wf σ H s)(c:H l=some (.lst xs)):xs.length<=sizeLine/\∃(a:km kj) (n:Nat),A3 xs a/\xs.length=a.length/\s.heap.get? l=some {cls:= .type "list",data:= .seq a.toArray n}:=by obtain⟨z,a,n,r,e⟩:=I.hok l _ c;exact⟨z,a,n,r,r.length,e⟩
end
section
variable {X:Cx}
def Rv:V->km V->Hp->VK->Prop:=λx vs H Q=>∃l xs y,x= .ref l/\vs= [y] /\H l=some (.lst xs)/\xs.length<sizeLine/\Q .non (upd H l (.lst (xs ++ [y])))
def Lj:n9 X "list.append" Rv:=by intro Wf s f H x vs v g Q I c rv h;obtain⟨l,xs,y,rfl,rfl,b,hz,q⟩:=h;cases c;obtain⟨u,rfl,d⟩:=rv.one;obtain⟨z,a,n,r,hl,e⟩:=I.lstM b;refine call_meets F.slot_list_append ⟨_,e,rfl⟩ F.entry_list_append (F.args_list_append_2 _ _) (PySem.list_append l a.toArray n u (by rw[AAf];omega)) ⟨e, ?_⟩;refine⟨.non,_,I.lset (its':=a ++ [u]) b e (by simp) (r.append (.cons d .nil)) ?_,rfl,q⟩;rw[AA0,ABu];omega
def qH:R2:=λx y H Q=>∃l b xs a,x= .ref l/\y= .ref b/\H l=some (.lst xs)/\H b=some (.lst a)/\xs.length+a.length<=sizeLine/\∀p,H p=none->Q (.ref p) (upd H p (.lst (xs++a)))
def lf:EB X (binaryOp .Add) qH:=by
 intro Wf s m H x y v u Q I d f h;obtain⟨l,b,xs,o,rfl,rfl,g,i,hz,q⟩:=h;cases d;cases f;obtain⟨z,c,n,r,hl,e⟩:=I.lstM g;obtain⟨p,a,t,r2,w,j⟩:=I.lstM i;refine PySem.P.add_list e j ?_ (by rw[AAf,AAf];omega);have k:c.toArray++a.toArray=(c++a).toArray:=by simp
 rw[k];exact⟨.ref _,_,I.lnew (t':=s.toks) (r.append r2) (by rw[AA0];omega),rfl,q _ I.fresh⟩
end
section
variable {prog:gn}{w:fm}{A:da}{E:kj->ki->Prop}{s:ki}
set_option maxRecDepth 100000 in
end
end L2
namespace Att
open PySem PySem.W PySem.Calls PyProof.Rows
def Mm {P:Params}{h:fe}:∀(c:km Int) (vs:km kj),WellAll P h vs (c.map WData.int)->IntsAre vs c:=by
 intro c;induction c with
 | nil=> intro vs w;rw[ACU] at w;cases w;exact .nil
 | cons n c ih=>
   intro vs w;rw[AAX] at w;cases w with
   | cons a b=> cases a;exact .cons _ _ (ih _ b)
def Ze {l:OpenLaw}{n:Nat}(hn:l.most=some n){P:Params}{h:fe}{args:km WData}{vals:km kj}(f:l.row.toRowW.claim.pre args=true)(g:WellAll P h vals args):∃a vs b,vals= [Value.ref a] /\args= [WData.list (b.map WData.int)] /\h.get? a=some {cls:= .type "list",data:= .seq vs.toArray}/\IntsAre vs b/\b.length<=n:=by
 have i:WShape.hasAll [] args [.list .int] =true:=(pre_splitW f).1;have hc:l.pre.holds [] {args:=args}=true:=(pre_splitW f).2;obtain⟨d,r,rfl,h1,h2⟩:=hasAllW_cons i;obtain rfl:=hasAllW_nil h2;obtain⟨xs,rfl,j⟩:=hasW_list h1;obtain⟨b,rfl⟩:=items_int j;have k:b.length<=n:=by
  unfold OpenLaw.pre at hc;have c:(WTm.not (.lt (.lit (.int (n:Int))) (.len (.arg 0)))).holds [] {args:= [.list (b.map .int)] }=true:=by have c:=(holds_andW hc).1;rw[hn] at c;exact c
  have e:=condW_of c (w_not (w_lt w_lit (w_len_list (w_arg rfl))));rw[AAa] at e;refine Nat.le_of_not_lt λq=> ?_;have m:(n:Int)<((b.length:Nat):Int):=by omega
  first
   | (rw[AAZ m] at e;exact absurd e (by decide))
   | (simp at e;omega)
 cases g with
 | cons o p=>
   cases p;cases o with
   | list s t=>exact⟨_,_,b,rfl,rfl,s,Mm b _ t,k⟩
def ZW (l:OpenLaw)(args:km WData):l.row.toRowW.claim.post args (.bool true) args=true:=
 postW_of (r:=l.row.toRowW) (X:=(true==true))
  (show WShape.has [] (.bool true) .bool=true by first | rfl|decide|simp[WShape.has,WShape.arms,WShape.armsAll])
  (show (WTm.eq .res (.lit (.bool true))).value [] {args:=args,res:=some (.bool true),after:=args}=some (.bool (true==true)) from w_eq_bool (w_res rfl) w_lit) rfl
def attach_call {l:OpenLaw}{n:Nat}{q:gn}{loose:km Str}{XP:(Str->ke kj)->fe->Prop}{YP:fm->fe->Prop}{d:DefRec}(hn:l.most=some n)(p:d.params.defaults= [])(call:∀(w:fm) (s₀ b:ki) (mg j:Str->ke kj) (e:kf) (o:Obj) (k g c:kj) (a:kf) (vs:km kj) (h:km Int),Ground q loose [] XP w s₀ mg j b.heap->YP w b.heap-> b.heap.get? e=some o->o.data= .func (docDef d.name d.params d.body d.scope k g c)->b.heap.CodeRec g d.name->mg d.name=some (.ref e)-> b.heap.get? a=some {cls:= .type "list",data:= .seq vs.toArray}->IntsAre vs h->h.length<=n->b.gens= #[] -> codeAny (model l.prog w) callerA (.call (.ref e) ⟨[.ref a], []⟩) (λr i=>r= .ok (.ret (.bool true))/\OldK b.heap i.heap/\i.os=b.os/\AllBare i.gens) b):WalkO q loose XP YP l.row.toRowW d [] (λf vs=>PySem.call f vs):=by intro w s₀ b mg j G Y e o k g c s kV t hd u m v x args vals as y J z A B;obtain rfl:s= .none:=Dflts.none m p;obtain rfl:kV= .none:=Dflts.noKw m;obtain⟨a,vs,h,rfl,rfl,C,D,E⟩:=Ze hn y A;refine enter_call (ACQ (call w s₀ b mg j e o k g c a vs h G Y t (fd_plain hd) u v C D E x) λr i hq=> ?_);obtain⟨rfl,h2,F,H⟩:=hq;exact⟨.inl ⟨.bool true, .bool true, [],rfl,λ_=>rfl, .bool true,ZW l _,λ_=>⟨List.Pairwise.nil,λ_ I=>(nomatch I)⟩⟩,h2,F,H⟩
section
variable {prog:gn}{w:fm}{A:da}{E:kj->ki->Prop}{s:ki}{K:Frag}
def uI (h:fe)(L d:kf):km (kf×Obj):=(List.range h.objs.size).filterMap λa=>if a=L\/a=d then none else (h.get? a).map λo=>(a,o)
end
end Att
namespace L2
open PySem PySem.Spec PyProof.Rows
theorem Qa:∀{vs:km kj} {a:km Int},IntsAre vs a->A3 (a.map V.int) vs
 | _,_, .nil=> .nil
 | _,_, .cons n t h=> .cons ⟨t,rfl⟩ (Qa h)
def j4 (H:Hp):Prop:=∀b,H b=none\/∃o xs,H b=some (.frz o (.lst xs))
def cF {P:gn}{w:fm}{K:AAP}{mg t:Str->ke kj}{CX:YR}{k:Nat}{y a:kf}{C:FuncData}{x:Str}{sp:Sp}{c:ki}{vs:km kj}{j:km Int}(D:K.In c.heap)(E:c.heap.Ns mainGlobals mg)(hb:c.heap.Ns builtinsNs t)(M:∀x:Str,x≠"__name__" ->t x=bootBuiltins x)(N:c.heap.NoLimit)(O:c.gens= #[])(ha:c.heap.get? a=some {cls:= .type "list",data:= .seq vs.toArray})(hi:IntsAre vs j)(hl:j.length<=sizeLine)(Q:Room k callerA)(F:∀base:fe,K.In base->base.Ns mainGlobals mg->Eg P w K mg base CX k y C [x] sp)(R:∀(s:ki) (u:kj),BindsTo s C ⟨[u], []⟩ [(x,u)])(S:∀H:Hp,j4 H->FF K H a (j.map V.int)->sp [.ref a] H (λv _=>v= .bl true) λ_ _ _=>False)(T:∀H e g,CX [] H c (λ_ _ _=>False) e g->False):codeAny (model P w) callerA (.call (.ref y) ⟨[.ref a], []⟩) (λr g=>r= .ok (.ret (.bool true))/\OldK c.heap g.heap/\g.os=c.os/\AllBare g.gens) c:=by
 have rv:=Qa hi;have l:=hi.length;have core:∀H:Hp,j4 H->FF K H a (j.map V.int)->Jn P w H c.heap->(∀b,H b≠none->b=a)->(H a≠none->K.lookup a=none)->
  codeAny (model P w) callerA (.call (.ref y) ⟨[.ref a], []⟩) (λr g=>r= .ok (.ret (.bool true))/\OldK c.heap g.heap/\g.os=c.os/\AllBare g.gens) c:=by
  intro H G U hok I W;have f:∀{b:kf} {o:Obj},c.heap.get? b=some o->H b=none->(RT c.heap H).get? b=some o:=λe n=>bT e n;have A:∀{b:kf} {o:Obj} {es:Array DictEntry} {ep:Nat},c.heap.get? b=some o->o.data= .dict es ep->H b=none:=λ{b o es ep} e d=>by
   cases q:H b with
   | none=>rfl
   | some u=> have B:b=a:=I b (by rw[q];simp);subst B;rw[ha] at e;cases e;have d':Data.seq vs.toArray _=Data.dict es ep:=d;cases d'
  have i:∀{b:kf} {m:Str->ke kj},c.heap.Ns b m->(RT c.heap H).Ns b m:=λ{b m} ⟨o,es,ep,e,d,r⟩=>⟨o,es,ep,f e (A e d),d,r⟩;have J:K.In (RT c.heap H):=λb o e=>f (D b o e) (by
   cases q:H b with
   | none=>rfl
   | some u=>
     have B:b=a:=I b (by rw[q];simp);subst B;rw[W (by rw[q];simp)] at e;cases e)
  have hM:Mod K mg (RT c.heap H):=⟨J,i E,⟨t,i hb,M⟩,let ⟨X,h1,h2⟩:=N;⟨X,i h1,h2⟩⟩;have Y:O3 P w K mg (RT c.heap H) callerA [] c H:=⟨rfl,hM,λb o e=>gw e,Nat.le_of_eq (Yz _ _),trivial,λb hb=>absurd (show b∈([] :km kf) from hb) (by simp),hok, .of_eq O⟩;refine ACQ ((F _ J (i E)).run callerA [] c H ⟨[.ref a], []⟩ [.ref a] [.ref a] _ _ Q Y (R c (.ref a)) (.cons rfl .nil) (S H G U)) λr g h=> ?_;cases r with
  | error e=>exact(T H e g h).elim
  | ok Z=>
    cases Z with
    | next=>exact False.elim h
    | brk=>exact False.elim h
    | cont=>exact False.elim h
    | ret u=>
      obtain⟨v,H',os,bare,un,tq,r',q⟩:=h;have q':v= .bl true:=q;subst q';obtain rfl:u=Value.bool true:=r';refine⟨rfl,OldK.of_keep λb o e=> ?_,os,bare⟩;cases q:H b with
      | none=>exact un.keep b o e q (by intro z;exact absurd (show b∈([] :km kf) from z) (by simp)) (by simp)
      | some u=>
        rcases G b with z|⟨ob,xs,z⟩
        .rw [q] at z;cases z
        .have z2:=un.frzs b ob _ z;obtain⟨L,_⟩:=hok b _ z;obtain⟨e2,_⟩:=tq b _ z2;rw[e] at L;cases L;exact e2
 cases hk:K.lookup a with
 | some o=> have e:=D a o hk;rw[ha] at e;cases e;refine core (λ_=>none) (λ_=> .inl rfl) (.inr ⟨_,vs.toArray,_,hk,rfl,rfl,rfl,by rw[AAf,l];exact hl,by simpa using rv⟩) (λb u z=>by have p:(none:ke HO)=some u:=z;cases p) (λb z=>absurd rfl z) λz=>absurd rfl z
 | none=>
   refine core (λb=>if b=a then some (.frz {cls:= .type "list",data:= .seq vs.toArray} (.lst (j.map V.int))) else none) (λb=> ?_) (.inl (.inr ⟨{cls:= .type "list",data:= .seq vs.toArray},AAR rfl⟩)) (λb u z=> ?_) (λb z=> ?_) λ_=>hk
   .by_cases hb:b=a
    .exact .inr ⟨_,_,AAR hb⟩
    .exact .inl (AAQ hb)
   .by_cases hb:b=a
    .have p:=(AAR hb).symm.trans z;cases p;subst hb;exact⟨ha,by rw[AAa];exact hl,vs,_,rv,ha⟩
    .have p:=(AAQ hb).symm.trans z;cases p
   .by_cases hb:b=a
    .exact hb
    .exact absurd (AAQ hb) z
abbrev KOf {K:AAP}{h:fe}(_:K.In h):AAP:=K
def walk_of {l:PySem.W.OpenLaw}{n k:Nat}{q:gn}{loose:km Str}{XP:(Str->ke kj)->fe->Prop}{YP:fm->fe->Prop}{d:DefRec}{K:Params->AAP}{CX:fm->YR}{sp:fm->Sp}{x:Str}(hn:l.most=some n)(y:n<=sizeLine)(z:d.params.defaults= [])(A:Room k callerA)(B:∀(w:fm) (h:fe),YP w h->(K w.params).In h)(F:∀(w:fm) (mg:Str->ke kj) (i:kf) (h:fe),(K w.params).In h->h.Ns mainGlobals mg->mg d.name=some (.ref i)-> ∃m:FuncData,(∀(s:ki) (u:kj),BindsTo s m ⟨[u], []⟩ [(x,u)])/\ ∀base:fe,(K w.params).In base->base.Ns mainGlobals mg->Eg l.prog w (K w.params) mg base (CX w) k i m [x] (sp w))(C:∀(w:fm) (H:Hp) (a:kf) (j:km Int),j.length<=n->j4 H->FF (K w.params) H a (j.map V.int)->sp w [.ref a] H (λv _=>v= .bl true) λ_ _ _=>False)(D:∀(w:fm) (H:Hp) (s:ki) (e:kj) (p:ki),CX w [] H s (λ_ _ _=>False) e p->False):PySem.W.WalkO q loose XP YP l.row.toRowW d [] (λf vs=>PySem.call f vs):=by refine Att.attach_call hn z λw s₀ c mg Q i o R S E a vs j G Y U hd X I J L r M=> ?_;have t:=B w _ Y;obtain⟨m,hb,N⟩:=F w mg i _ t G.T.g I;exact cF t G.T.g G.T.b G.T.builtins G.T.nolimit M J L (AAl r y) A N hb (λH O P=>C w H a j r O P) λH e p=>D w H c e p
abbrev Q2:YR:=λ_ _ _ _ _ _=>False
abbrev E0:XK:=λ_ _ _=>False
def qC {X:Cx}:Passes Q2 X E0:=λ_ _ _ _ _ _ _ h=>h.elim
structure Ta (K:AAP) (x qual:Str) (st:Stmt) (f:Addr) (fd:FuncData):Prop where
 ex:∃(oc:Value) (od:Option Addr) (kV doc pm:Value) (an:Option Addr) (cdv ct:Value) (osl:Array (Option Value)),
  fd=PySem.W.fnOf x qual (GW st) (ES st) (BP st) .none kV doc pm an cdv ct/\K.lookup f=some ⟨oc,od, .func fd,osl⟩/\PySem.W.codeIn K cdv qual=true
 kp:PySem.W.keepIn K (.ref f)=true
section
variable {P:gn}{w:fm}{K:AAP}{mg:Str->ke kj}{base:fe}
def Ta.ok {x qual:Str}{st:Stmt}{f:kf}{b:FuncData}{N ps:km Str}{k:Nat}{sp:Sp}(F:Ta K x qual st f b)(S:EO N ps (BP st))(len:∀vs H Q E,sp vs H Q E->vs.length=ps.length)(c:∀(a:kj) (A:da) (outer:km Env) (s:ki) (H:Hp) (vs:km V) (Q:VK) (E:XK),Room k (A.deeper (envOfC qual (BP st) s.heap.objs.size f a))->sp vs H Q E-> ∃t,W4 (Tn Q2 P w K mg base N qual (BP st) f a A outer s H E).nox (ES st) t/\t {nx:=λ_ d=>Q .non d,rt:=Q} (start N vs) H):Eg P w K mg base Q2 (k+1) f b ps sp:=by obtain⟨n,o,kV,e,p,r,a,ct,g,rfl,i,j⟩:=F.ex;refine oY i j S len λA outer s H vs Q E l m=> ?_;obtain⟨t,h,q⟩:=c a A outer s H vs Q E l m;exact⟨t,h.nox,q⟩
def Ta.binds {x qual:Str}{st:Stmt}{f:kf}{g:FuncData}{ps:km Str}(F:Ta K x qual st f g)(h:∀(kV a c:kj) (d:ke kf) (b ct:kj) (e:km kj),e.length=ps.length->bindArgs (PySem.W.fnOf x qual (GW st) (ES st) (BP st) .none kV a c d b ct) ⟨e, []⟩=pure (ps.zip e)):Binds K g ps [] :=by obtain⟨j,k,kV,a,c,d,b,ct,i,rfl,l,m⟩:=F.ex;exact .all (h kV a c d b ct)
def bF {x qual:Str}{st:Stmt}{f:kf}{h:kj}{i e:ke kf}{d:Array (ke kj)}{kV b g a ct:kj}(l:K.lookup f=some ⟨h,i, .func (PySem.W.fnOf x qual (GW st) (ES st) (BP st) .none kV b g e a ct),d⟩)(c:PySem.W.codeIn K a qual=true)(k:PySem.W.keepIn K (.ref f)=true):Ta K x qual st f (PySem.W.fnOf x qual (GW st) (ES st) (BP st) .none kV b g e a ct):=⟨⟨h,i,kV,b,g,e,a,ct,d,rfl,l,c⟩,k⟩
end
section
variable {X:Cx}
def pv (i:Nat){x:Str}{a:Pos}(hN:X.N[i]? =some x:=by rfl)(hv:kB X.env.scope x:=by first | exact Or.inl rfl|exact Or.inr (Or.inl rfl)|exact Or.inr (Or.inr rfl))(hd:(x==("__debug__" :Str))=false:=by decide)(b:(x==("__classdict__" :Str))=false:=by decide):PE X (.Name x a) (GJ i):=Rs hN hv hd b
end
def pO {c A B:Prop}[Decidable c](h1:c->A)(h2:¬c->B):if c then A else B:=by
 by_cases h:c
 .rw [AAR h];exact h1 h
 .rw [AAQ h];exact h2 h
def J7 (H a:Hp):Prop:=∀b o,H b=some o->a b=some o
def J7.refl (H:Hp):J7 H H:=λ_ _ h=>h
def J7.trans {H d e:Hp}(a:J7 H d)(b:J7 d e):J7 H e:=λc o h=>b c o (a c o h)
def J7.free {H a:Hp}(e:J7 H a){l:kf}(h:a l=Option.none):H l=Option.none:=by
 cases q:H l with
 | none=>rfl
 | some o=> rw[e l o q] at h;cases h
def J7.seq {K:AAP}{H b:Hp}{a:kf}{xs:km V}(e:J7 H b)(h:FF K H a xs):FF K b a xs:=by
 rcases h with(h|⟨o,h⟩)|h
 .exact .inl (.inl (e _ _ h))
 .exact .inl (.inr ⟨o,e _ _ h⟩)
 .exact .inr h
theorem Le {c d:Type}[BEq c][LawfulBEq c]{k:c}{a:d}:∀{l:km (c×d)},l.lookup k=some a->(k,a)∈l
 | [],h=>by simp at h
 | (n,b)::r,h=>by
   rw[ADj] at h;cases e:k==n with
   | true=>
     rw[e] at h;have f:k=n:=by simpa using e
     have hb:b=a:=by simpa using h
     subst f hb;exact ABq
   | false=> rw[e] at h;exact AA9 _ (Le h)
theorem QI {c d:Type}[BEq c][LawfulBEq c]{k:c}{a:d}:∀{l:km (c×d)},(k,a)∈l->∃b,l.lookup k=some b
 | [],h=>nomatch h
 | (n,b)::r,h=>by
   rw[ADj];cases e:k==n with
   | true=>exact⟨b,rfl⟩
   | false=>
     rcases AAT.mp h with z|z
     .have:k=n:=congrArg Prod.fst z;rw[this] at e;simp at e
     .exact QI z
theorem Hh {env:Env}{F:Str×NameKind->km (Str×kf)->Sem (ForInStep (km (Str×kf)))}(h1:∀n r c,env.cells.lookup n=some c->F (n, .free) r=pure (.yield ((n,c)::r)))(h2:∀n k r,k≠NameKind.free->F (n,k) r=pure (.yield r)):∀(names:km (Str×NameKind)) (f:km (Str×kf)),(∀x∈names,x.2= .free->∃c,env.cells.lookup x.1=some c)-> ∃cl,(forIn names f F:Sem _)=pure cl/\(∀p∈cl,p∈f\/env.cells.lookup p.1=some p.2)/\(∀p∈f,p∈cl)/\∀x∈names,x.2= .free->∃c,(x.1,c)∈cl
 | [],f,_=>⟨f,rfl,λp hp=> .inl hp,λp hp=>hp,λx hx=>nomatch hx⟩
 | (n,k)::r,f,h=>by
   by_cases hk:k= .free
   .subst hk;obtain⟨c,hc⟩:=h (n, .free) ABq rfl;obtain⟨cl,e,a,b,d⟩:=Hh h1 h2 r ((n,c)::f) (λx hx=>h x (AA9 _ hx));refine⟨cl, ?_,λp hp=> ?_,λp hp=>b p (AA9 _ hp),λx hx g=> ?_⟩
    .rw [AC3,h1 n f c hc];exact e
    .rcases a p hp with z|z
     .rcases AAT.mp z with z|z
      .subst z;exact .inr hc
      .exact .inl z
     .exact .inr z
    .rcases AAT.mp hx with z|z
     .subst z;exact⟨c,b _ ABq⟩
     .exact d x z g
   .obtain ⟨cl,e,a,b,d⟩:=Hh h1 h2 r f (λx hx=>h x (AA9 _ hx));refine⟨cl, ?_,a,b,λx hx g=> ?_⟩
    .rw [AC3,h2 n k f hk];exact e
    .rcases AAT.mp hx with z|z
     .subst z;exact absurd g hk
     .exact d x z g
def JK {env:Env}{scope:Scope}(h:∀x∈scope.names,x.2= .free->∃c,env.cells.lookup x.1=some c):∃cl,closureFor scope env=pure cl/\(∀y c,cl.lookup y=some c->env.cells.lookup y=some c)/\∀y,(y,NameKind.free)∈scope.names->∃c,cl.lookup y=some c:=by
 obtain⟨cl,e,a,_,d⟩:=Hh (env:=env) (F:=λx cs=>match x with | (name,kind)=>if (kind==NameKind.free)=true then do let a <-cellOf env name;pure (ForInStep.yield ((name,a)::cs)) else pure (ForInStep.yield cs))
  (λn r c hc=>by
    show (do let a <-cellOf env n;pure (ForInStep.yield ((n,a)::r)):Sem _)=_;unfold cellOf;rw[hc];rfl)
  (λn k r hk=>by
    have:(k==NameKind.free)=false:=by simpa using hk
    simp[this]) scope.names [] h
 refine⟨cl, ?_,λy c q=> ?_,λy hy=> ?_⟩
 .unfold closureFor;have b:(forIn scope.names ([] :km (Str×kf)) λx cs=>match x with | (name,kind)=>if (kind==NameKind.free)=true then do let a <-cellOf env name;pure (ForInStep.yield ((name,a)::cs)) else pure (ForInStep.yield cs):Sem _) >>= (λr=>pure r)=pure cl:=by rw[e];rfl
  exact b
 .rcases a _ (Le q) with z|z
  .exact nomatch z
  .exact z
 .obtain ⟨c,hc⟩:=d (y, .free) hy rfl;exact QI hc
def JI (env:Env)(sc:Scope)(cl:km (Str×kf))(C:kf):Env:=
 {scope:=sc,locals:=C,globals:=env.globals,cells:=cl,qual:=env.qual,func:=none,code:=env.code,frame:=env.frame,builtins:=env.builtins}
def blk (X:Cx)(sc:Scope)(N:km Str)(cl:km (Str×kf))(C:kf)(s:ki)(H:Hp)(ex:km kf)(pn:km (kf×Obj)):Cx where
 prog:=X.prog
 w:=X.w
 K:=X.K
 mg:=X.mg
 base:=X.base
 A:=X.A
 N:=N
 s₀:=s
 H₀:=H
 env:=JI X.env sc cl C
 outer:=X.stack
 stack:=X.stack
 ex:=ex
 fn:=λ_=>false
 calm:=X.calm
 pn:=pn
 xe:=λ_ _=>False
section
variable {X:Cx}{Wf:km (kf×Obj)}{σ:St}{H:Hp}{s:ki}{fp:km kf}{sc:Scope}{N:km Str}{cl:km (Str×kf)}
def Inv.notStk (I:Inv X Wf σ H s){b:kf}(h1:b≠X.env.locals)(h2:b ∉ X.fs):b ∉ Zw X.stack:=λz=>by
 rcases AAT.mp (I.stkSub b z) with e|e
 .exact h1 e
 .exact h2 e
def Inv.szLt (I:Inv X Wf σ H s){x:Str}{c:kf}(e:X.env.cells.lookup x=some c):c<s.heap.objs.size:=by obtain⟨v,q⟩:=I.cell x c e;exact q.lt
def kI (I:Inv X Wf σ H s)(d:∀b∈fp,F6 X Wf H b)(f:∀b∈fp,b<s.heap.objs.size)(hk:sc.kind= .function)(h1:∀y c,cl.lookup y=some c->X.env.cells.lookup y=some c)(h2:∀y,(sc.names.lookup y=some .cell\/sc.names.lookup y=some .free)->∃c,cl.lookup y=some c):(blk X sc N cl s.heap.objs.size s H fp (X.pn++Wf)).Ok where
 mod:=I.ok.mod
 kind:=hk
 glob:=I.ok.glob
 blt:=I.ok.blt
 above:=AAW _
 inj:=λx y c a b=>I.ok.inj x y c (h1 x c a) (h1 y c b)
 has:=λx hx=>h2 x hx
 cab:=λx c z=>nomatch z
 hd:=I.ok.hd
 frames:=I.ok.frames
 stk:= .inl rfl
 exf:=λb hb=>⟨AAc (f b hb),λx c e=>(d b hb).2.2.2.2.1 x c (h1 x c e)⟩
 bs:=I.bs
 bsz:=AAl I.ok.bsz I.sz
 noex:=λb o e hb=>by
  rcases (d b hb).2.2.2.1 with z|z
  .exact I.ok.noex b o e z
  .exact absurd (AAs (AAU (I.ok.bs b o e).1) z) (ABb _)
 exfs:=λb hb=>I.notStk (d b hb).2.1 (d b hb).2.2.1
 funs:=I.stack
 frf:=I.stkFree
def C0 (own:Nat)(ix:km Nat)(σ:St):St:=List.replicate own none++ix.map λi=>(σ[i]?).getD none
def Pz {own:Nat}{ix:km Nat}{σ:St}:(C0 own ix σ).length=own+ix.length:=by simp[C0]
def JJ {own:Nat}{ix:km Nat}{σ:St}{j:Nat}{v:V}(h:(C0 own ix σ)[j]? =some (some v)):own<=j/\∃i,ix[j-own]? =some i/\σ[i]? =some (some v):=by
 unfold C0 at h;by_cases hj:j<own
 .rw [AAz (by simpa using hj),ABg] at h;simp[hj] at h
 .have Zx:own<=j:=by omega
  rw[ABH (by simpa using Zx),ABc,AAx] at h;refine⟨Zx, ?_⟩;cases e:ix[j-own]? with
  | none=>rw[e] at h;simp at h
  | some i=>
    rw[e] at h;refine⟨i,rfl, ?_⟩;have h':(σ[i]?).getD none=some v:=by simpa using h
    cases a:σ[i]? with
    | none=>rw[a] at h';simp at h'
    | some o=>
      rw[a] at h';have:o=some v:=by simpa using h'
      rw[this]
structure TZ (X:Cx) (sc:Scope) (own:Nat) (ix:List Nat) (N:List Str):Prop where
 len:N.length=own+ix.length
 out:∀j i,ix[j]? =some i->∃x,N[own+j]? =some x/\X.N[i]? =some x/\X.env.scope.names.lookup x=some .cell/\sc.names.lookup x=some .cell
def aW {own:Nat}{ix:km Nat}{h':fe}{m:Str->ke kj}{t':Nat}(I:Inv X Wf σ H s)(B:∀b∈fp,F6 X Wf H b)(C:∀b∈fp,b<s.heap.objs.size)(hk:sc.kind= .function)(h1:∀y c,cl.lookup y=some c->X.env.cells.lookup y=some c)(h2:∀y,(sc.names.lookup y=some .cell\/sc.names.lookup y=some .free)->∃c,cl.lookup y=some c)(F:TZ X sc own ix N)(hn:h'.Ns s.heap.objs.size m)(k:∀b o,s.heap.get? b=some o->h'.get? b=some o):Inv (blk X sc N cl s.heap.objs.size s H fp (X.pn++Wf)) [] (C0 own ix σ) H {s with heap:=h',toks:=t'} where
 ok:=kI I B C hk h1 h2
 os:=rfl
 bare:=I.bare
 base:=Un.kept k
 loc:=by
  refine⟨m,hn,λi x v D E R=> ?_⟩;obtain⟨Zx,G,J,es⟩:=JJ E;obtain⟨y,n,K,t,w⟩:=F.out _ _ J;have g:x=y:=by have h:N[i]? =some x:=D;rw[show own+(i-own)=i by omega,h] at n;exact AAk n
  subst g;obtain⟨m0,L,M⟩:=I.loc;obtain⟨u,r,l⟩:=M G x v K es (.inr (.inl t));refine⟨u,r, ?_⟩;rcases l with⟨z,_⟩|⟨_,c,O,z⟩
  .have A:X.env.scope.names.lookup x=some .local:=z;rw[t] at A;cases A
  .obtain ⟨P,f⟩:=h2 x (.inl w);have:=h1 x P f;rw[O] at this;cases this;obtain⟨o,j,hd⟩:=z;exact .inr ⟨.inl w,c,f,o,k c o j,hd⟩
 cell:=λx c e=>by obtain⟨v,o,j,hd⟩:=I.cell x c (h1 x c e);exact⟨v,o,k c o j,hd⟩
 free:=I.hok.fresh (AAW _)
 freeC:=λx c e=>I.freeC x c (h1 x c e)
 pin:=λp hp=>by
  have Q:p∈X.pn++Wf:=by simpa[blk] using hp
  obtain⟨a,b,c,d,e⟩:=I.pin p Q;exact⟨k _ _ a,b,AAc (AAU a),I.notStk c d,e⟩
 hok:=I.hok.kept k
 len:=by rw[Pz];exact F.len.symm
def XD {own:Nat}{ix:km Nat}{d:St}{e:Hp}{f:ki}{a:km (kf×Obj)}(I:Inv X Wf σ H s)(c:∀b∈fp,F6 X Wf H b)(g:∀b∈fp,b<s.heap.objs.size)(B:Inv (blk X sc N cl s.heap.objs.size s H fp (X.pn++Wf)) a d e f):Inv X Wf σ e f:=
 I.call' (ch:=fp) B.os B.base B.hok B.bare λb hb=>⟨(c b hb).2.2.2.1,(c b hb).2.1,(c b hb).2.2.2.2.1,(c b hb).2.2.2.2.2⟩
def Tg {f:Hp}{a:St}{d:ki}{C:kf}{h':fe}(I:Inv X Wf σ H s)(g:C=s.heap.objs.size)(h:Inv X Wf a f d)(hn:f C=none)(hs:Heap.SameBut C d.heap h'):Inv X Wf a f {d with heap:=h'}:=by subst g;refine h.turned (t':=d.toks) (it:=s.heap.objs.size) (λb o hb e=>(hs.2 b hb).trans e) hn (ABT I.lt) (.inr I.sz) (λx c e=>AAc (I.szLt e)) λp hp=>AAc (AAU (I.pin p hp).1)
end
def YY (X:Cx)(a:km kd)(t:TT):Prop:=
 ∀(Wf:km (kf×Obj)) (s:ki) (b:St) (H:Hp) (Q:kc->Hp->Prop),Inv X Wf b H s->t b H Q->
  wpAny (model X.prog X.w) X.A (forIn a true λc r=>if r=true then do let ok <-isTrue c X.env (eval c X.env);pure (ForInStep.yield ok) else pure (ForInStep.yield r)) (TP X Wf b Q) X.xe s
def uc:TT:=λ_ H Q=>Q true H
def iI {X:Cx}:YY X [] uc:=λ_ _ _ H _ I h=>wpAny_tests_nil ⟨H,I,h⟩
def iJ {X:Cx}{c:kd}{t:TT}(hc:PT X c t):YY X [c] t:=λWf s a H Q I h=>wpAny_tests_one (hc Wf s a H Q I h)
def Hd (own:Nat)(g:TG):Prop:=∀v b H Q,g v b H Q->g v b H λa c=>Q a c/\a.length=b.length/\∀j,own<=j->a[j]? =b[j]?
def Ni (own:Nat)(g:VS):Prop:=∀vs b H Q,g vs b H Q->g vs b H λa c=>Q a c/\a.length=b.length/\∀j,own<=j->a[j]? =b[j]?
def gJ {own i:Nat}(h:i<own):Hd own (DR i):=λv a H Q q=>⟨q,by simp,λj hj=>AAy (by omega)⟩
def gK {own:Nat}:Ni own Tq:=λvs a H Q q=>⟨q.1,q.2,rfl,λ_ _=>rfl⟩
def bJ {own:Nat}{t:TG}{u:VS}(h1:Hd own t)(m1:∀v b H Q d,(∀a c,Q a c->d a c)->t v b H Q->t v b H d)(h2:Ni own u)(m2:∀v b H Q d,(∀a c,Q a c->d a c)->u v b H Q->u v b H d):Ni own (FT t u):=by intro vs b H Q q;obtain⟨v,r,e,q⟩:=q;refine⟨v,r,e,m1 _ _ _ _ _ (λa c z=> ?_) (h1 _ _ _ _ q)⟩;obtain⟨z,l,g⟩:=z;refine m2 _ _ _ _ _ (λh m f=> ?_) (h2 _ _ _ _ z);obtain⟨f,i,k⟩:=f;exact⟨f,i.trans l,λj hj=>(k j hj).trans (g j hj)⟩
def gL {i:Nat}:∀v b H Q c,(∀a d,Q a d->c a d)->DR i v b H Q->DR i v b H c:=λ_ _ _ _ _ m q=>m _ _ q
def gM:∀v b H Q c,(∀a d,Q a d->c a d)->Tq v b H Q->Tq v b H c:=λ_ _ _ _ _ m q=>⟨q.1,m _ _ q.2⟩
def bK {t:TG}{u:VS}(m1:∀v b H Q c,(∀a d,Q a d->c a d)->t v b H Q->t v b H c)(m2:∀v b H Q c,(∀a d,Q a d->c a d)->u v b H Q->u v b H c):∀v b H Q c,(∀a d,Q a d->c a d)->FT t u v b H Q->FT t u v b H c:=λ_ _ _ _ _ m ⟨v,r,e,q⟩=>⟨v,r,e,m1 _ _ _ _ _ (λ_ _ z=>m2 _ _ _ _ _ m z) q⟩
def Nr (J:It)(D:kf)(c:St)(g:TG)(h:TT)(te:TE)(Q:Hp->Prop)(W:Nat->Nat->Hp->Prop):Prop:=
 ∀i m H,W i m H->(J.stop i H/\Q H)\/(J.go i H/\∀x d,J.yld i H x d->g x c d λa j=>h a j λok e=>
  if ok=true then te a e λy f=>∃ys,f D=some (.lst ys)/\ys.length<sizeLine/\∃b,b<m/\W (i+1) b (upd f D (.lst (ys ++ [y]))) else ∃b,b<m/\W (i+1) b e)
def eM (c:TI)(own:Nat)(ix:km Nat)(g:TG)(d:TT)(te:TE):TE:=λa H Q=>c a H λJ b=>∀D,b D=none->
 ∃W:Nat->Nat->Hp->Prop,(∃m,W 0 m (upd b D (.lst [])))/\Nr J D (C0 own ix a) g d te (Q (.ref D)) W
section
variable {X:Cx}{tg elt iter:kd}{ifs:km kd}{scope:Scope}{pos:Pos}{wi:TI}{own:Nat}{ix:km Nat}{N:km Str}{g:TG}{tt:TT}{te:TE}
structure LI (X:Cx) (tg elt:Expr) (ifs:List Expr) (scope:Scope) (own:Nat) (ix:List Nat) (N:List Str) (g:TG) (tt:TT) (te:TE):Prop where
 kind:scope.kind= .function
 nocell:∀y∈scope.names,y.2≠ .cell
 names:∀y∈scope.names,y.2= .local->scope.names.lookup y.1=some .local
 frees:∀y∈scope.names,y.2= .free->X.env.scope.names.lookup y.1=some .cell
 ins:TZ X (relabel scope X.env) own ix N
 keep:Hd own g
 tgt:∀cl C s H ex pn,PG (blk X (relabel scope X.env) N cl C s H ex pn) tg g
 tst:∀cl C s H ex pn,YY (blk X (relabel scope X.env) N cl C s H ex pn) ifs tt
 val:∀cl C s H ex pn,PE (blk X (relabel scope X.env) N cl C s H ex pn) elt te
def FY {env:Env}{y:Str}{k:NameKind}(c:∀y∈scope.names,y.2≠ .cell)(h:(y,k)∈(relabel scope env).names)(hk:k= .cell\/k= .free):(y,NameKind.free)∈scope.names:=by
 obtain⟨⟨n,b⟩,a,e⟩:=AAd.mp (show (y,k)∈scope.names.map _ from h);dsimp only at e;split at e
 .rename_i hc;cases e;have:b= .free:=by cases b <;> simp_all
  subst this;exact a
 .cases e;rcases hk with z|z
  .subst z;exact absurd rfl (c _ a)
  .subst z;exact a
def Yl {Wf:km (kf×Obj)}{M:St}{H:Hp}{s:ki}{k:km kf}{cl:km (Str×kf)}{it:kf}{tn:Nat->fe->Prop}{J:It}{D:kf}{R:Result->ki->Prop}{Qh:Hp->Prop}{W:Nat->Nat->Hp->Prop}(hc:X.calm=true)(O:LI X tg elt ifs scope own ix N g tt te)(T:Nm X.prog X.w X.K tg J k it tn)(I:Inv X Wf M H s)(hf:∀b∈k,F6 X Wf H b)(Fn:∀b∈k,b<s.heap.objs.size)(hW:Nr J D (C0 own ix M) g tt te Qh W)(hR:∀σ' a P,Inv (blk X (relabel scope X.env) N cl s.heap.objs.size s H k (X.pn++Wf)) [] σ' a P->Qh a->R (.ok .next) P)(n:Nat)(s0:ki)(h0:∃i a,Inv (blk X (relabel scope X.env) N cl s.heap.objs.size s H k (X.pn++Wf)) [] (C0 own ix M) a s0/\tn i s0.heap/\(∀b∈k,a b=none)/\W i n a):codeAny (model X.prog X.w) X.A (.compLoop (.ListComp elt [⟨tg,iter,ifs,0⟩] scope pos) 0 (.ref it) (.ref D) (JI X.env (relabel scope X.env) cl s.heap.objs.size)) R s0:=by
 refine codeAny_loop rfl (λn P=>∃i a,Inv (blk X (relabel scope X.env) N cl s.heap.objs.size s H k (X.pn++Wf)) [] (C0 own ix M) a P/\tn i P.heap/\(∀b∈k,a b=none)/\W i n a) (λn s1 h1=> ?_) n h0;obtain⟨i,H1,B1,S,U,w1⟩:=h1;generalize f:blk X (relabel scope X.env) N cl s.heap.objs.size s H k (X.pn++Wf)=Y at *;have eA:Y.A=X.A:=by rw[<-f];rfl
 have Z:Y.prog=X.prog:=by rw[<-f];rfl
 have eW:Y.w=X.w:=by rw[<-f];rfl
 have eK:Y.K=X.K:=by rw[<-f];rfl
 have eE:JI X.env (relabel scope X.env) cl s.heap.objs.size=Y.env:=by rw[<-f];rfl
 have eX:Y.xe=λ_ _=>False:=by rw[<-f];rfl
 have eC:Y.calm=true:=by rw[<-f];exact hc
 have hg:PG Y tg g:=by rw[<-f];exact O.tgt _ _ _ _ _ _
 have ht:YY Y ifs tt:=by rw[<-f];exact O.tst _ _ _ _ _ _
 have hv:PE Y elt te:=by rw[<-f];exact O.val _ _ _ _ _ _
 have l:∀{a:Hp},(∀b∈k,a b=none)->∀b∈k,F6 Y [] a b:=λ{a} hn b hb=>by
  obtain⟨_,a1,a2,a3,a4,a5⟩:=hf b hb;refine⟨hn b hb, ?_, ?_, ?_, ?_, ?_⟩
  .rw [<-f];exact AAc (Fn b hb)
  .rw [<-f];exact I.notStk a1 a2
  .rw [<-f];exact .inl hb
  .intro x c e;exact(B1.ok.exf b (by rw[<-f];exact hb)).2 x c e
  .intro p hp;have:p∈X.pn++Wf:=by rw[<-f] at hp;simpa[blk] using hp
   exact a5 p this
 rw[eE,<-eA,<-Z,<-eW];show wpAny _ _ ((compTurn (.ListComp elt [⟨tg,iter,ifs,0⟩] scope pos) 0 (.ref it) (.ref D) Y.env).onRaise (λx=>do noteFrame x Y.env;theTreesLotGoes x)) _ _ s1;refine wpAny_noted ?_;rw[compTurn_list];have ff:∀{α:Type} {t:Sem α} {Q:α->ki->Prop} {E:kj->ki->Prop} {s:ki},wpAny (model Y.prog Y.w) Y.A t Q Y.xe s->wpAny (model Y.prog Y.w) Y.A t Q E s:=λh=>ABD h (λ_ _ q=>q) λ_ _ z=>by rw[eX] at z;exact z.elim
 refine AAO (ABS (AAO ?_));rcases hW i n H1 w1 with⟨stop,qn⟩|⟨go,step⟩
 .have zd:=λE=>T.done Y Z eW eK eC i [] s1 _ H1 E B1 (l U) S stop;rw[<-Z,<-eW] at zd;refine Bf (zd _) λr s4 ⟨hr,I4⟩=> ?_;subst hr;exact AAS (hR _ _ _ I4 qn)
 .have zi:=λE=>T.item Y Z eW eK eC i [] s1 _ H1 E B1 (l U) S go;rw[<-Z,<-eW] at zi;refine Bf (zi _) λr s4 ⟨u,hr,h4⟩=> ?_;subst hr;refine AAO (Bf h4 λ_ s5 ⟨x,H5,I5,r5,y5,C,fr5⟩=> ?_);have I5':=I5.pinned (l fr5) (T.obj _ _ C);refine AAO (Bf (ff (hg _ s5 _ H5 x u _ I5' r5 (O.keep _ _ _ _ (step x H5 y5)))) λ_ s6 ⟨B,H6,I6,q6,l6,k6⟩=> ?_);refine AAO (Bf (ff (ht _ s6 B H6 _ I6 q6)) λok s7 ⟨H7,I7,q7⟩=> ?_);have back:∀{F:Hp} {G:ki} {L:Nat},Inv Y ([] ++ Gg k s5.heap) B F G->L<n->W (i+1) L F->
   ∃m,m<n/\∃i a,Inv Y [] (C0 own ix M) a G/\tn i G.heap/\(∀b∈k,a b=none)/\W i m a:=λ{F G L} I8 hm w8=>by
   refine⟨L,hm,i+1,F,I8.unpinned.weak l6.symm (λj v hj=> ?_),T.keep _ _ _ C λb hb o e=>(I8.pin (b,o) (AAv _ (AAv _ (C3 hb e)))).1,λb hb=> ?_,w8⟩
   .rw [k6 j (JJ hj).1];exact hj
   .obtain ⟨o,e,d⟩:=T.obj _ _ C b hb;exact(I8.pin (b,o) (AAv _ (AAv _ (C3 hb e)))).2.1
  cases ok with
  | false=> obtain⟨L,hm,w8⟩:=q7;exact AAS ⟨rfl,back I7 hm w8⟩
  | true=> refine AAO (AAO (Bf (ff (hv _ s7 B H7 _ I7 q7)) λyv G ⟨y,F,I8,r8,ys,hD,hz,L,hm,w8⟩=> ?_));refine AAO (Bf (ff (Lj _ G B F (.ref D) [y] (.ref D) [yv] (λ_ H9=>H9=upd F D (.lst (ys ++ [y]))) I8 rfl (.cons r8 .nil) ⟨D,ys,y,rfl,rfl,hD,hz,rfl⟩)) λ_ s9 ⟨_,H9,I9,_,e9⟩=> ?_);subst e9;exact AAS (AAS ⟨rfl,back I9 hm w8⟩)
def Tk {Wf:km (kf×Obj)}{u:St}{H:Hp}{s:ki}{use:ke (kj->Sem Unit)}{Q:kj->ki->Prop}{it:kf}{j:km kf}{cl:km (Str×kf)}{tn:Nat->fe->Prop}{J:It}{Qd:kf->Hp->Prop}(hc:X.calm=true)(O:LI X tg elt ifs scope own ix N g tt te)(T:Nm X.prog X.w X.K tg J j it tn)(I:Inv X Wf u H s)(M:∀b∈j,F6 X Wf H b)(st:tn 0 s.heap)(h1:∀y c,cl.lookup y=some c->X.env.cells.lookup y=some c)(h2:∀y,(y,NameKind.free)∈scope.names->∃c,cl.lookup y=some c)(hq:∀D,H D=none->∃W:Nat->Nat->Hp->Prop,(∃m,W 0 m (upd H D (.lst [])))/\Nr J D (C0 own ix u) g tt te (Qd D) W)(P:∀D C i k,(∃m,k.heap.Ns C m)->Inv X Wf u i k->(∀f v,Inv X Wf f i v->∀h',Heap.SameBut C v.heap h'->Inv X Wf f i {v with heap:=h'})->C≠X.env.locals->(∀x c,X.env.cells.lookup x=some c->C≠c)->Qd D i-> compPost (model X.prog X.w) X.A X.xe use Q (.ref D) C (.ok .next) k):wpAny (model X.prog X.w) X.A (newList []) (λl n=>wpAny (model X.prog X.w) X.A (newFunctionEnv scope X.env.globals cl [] X.env.qual none .none (some X.env)) (λd p=> codeAny (model X.prog X.w) X.A (.compStart (.ListComp elt [⟨tg,iter,ifs,0⟩] scope pos) 0 (.ref it) l {d with scope:=relabel scope X.env}) (compPost (model X.prog X.w) X.A X.xe use Q l d.locals) p) X.xe n) X.xe s:=by
 refine ABG ?_ (by simp[sizeOk]);have h:Inv X Wf u (upd H s.heap.objs.size (.lst [])) {s with heap:=s.heap.push {cls:= .type "list",data:= .seq ([] :km kj).toArray}}:=I.lnew (t':=s.toks) .nil (AA3 _);have R:=I.fresh;obtain⟨W,⟨m0,S⟩,hW⟩:=hq _ R;have U:∀b∈j,b<s.heap.objs.size:=λb hb=>by obtain⟨o,e,_⟩:=T.obj _ _ st b hb;exact AAU e
 have E:∀b∈j,F6 X Wf (upd H s.heap.objs.size (.lst [])) b:=λb hb=>by obtain⟨Y,Z⟩:=M b hb;exact⟨by rw[Al (AAc (U b hb))];exact Y,Z⟩
 generalize t8:({s with heap:=s.heap.push {cls:= .type "list",data:= .seq ([] :km kj).toArray}}:ki)=s3 at h;have r:tn 0 s3.heap:=T.keep _ _ _ st λb hb o e=>by rw[<-t8];exact AAV _ e
 have F:∀b∈j,b<s3.heap.objs.size:=λb hb=>by obtain⟨o,e,_⟩:=T.obj _ _ r b hb;exact AAU e
 refine wpAny_newFunctionEnv O.nocell (by intro y hy;simp at hy) (λa nL t9=> ?_) O.kind;have L:∀b o,s3.heap.get? b=some o->a.get? b=some o:=λb o e=>t9.extBut b o (AAc (AAU e)) (AAV _ e);have tT:∀y,((relabel scope X.env).names.lookup y=some .cell\/(relabel scope X.env).names.lookup y=some .free)->∃c,cl.lookup y=some c:=λy hy=>by
  rcases hy with z|z
  .exact h2 y (FY O.nocell (Le z) (.inl rfl))
  .exact h2 y (FY O.nocell (Le z) (.inr rfl))
 have B:=aW (N:=N) (t':=s3.toks+([] :km (Str×kj)).length) h E F (sc:=relabel scope X.env) O.kind h1 tT O.ins nL L;have t:tn 0 a:=T.keep _ _ _ r λb hb o e=>L b o e;have loop:∀G:ki,G={s3 with heap:=a,toks:=s3.toks+([] :km (Str×kj)).length}->
  codeAny (model X.prog X.w) X.A (.compLoop (.ListComp elt [⟨tg,iter,ifs,0⟩] scope pos) 0 (.ref it) (.ref s.heap.objs.size) (JI X.env (relabel scope X.env) cl s3.heap.objs.size)) (compPost (model X.prog X.w) X.A X.xe use Q (.ref s.heap.objs.size) s3.heap.objs.size) G:=by rintro G rfl;refine Yl (cl:=cl) (Qh:=Qd s.heap.objs.size) hc O T h E F hW (λσ' i k B' q'=> ?_) m0 _ ⟨0,_,B,t,λb hb=>(E b hb).1,S⟩;refine P _ _ i k (let ⟨m,hm,_⟩:=B'.loc;⟨m,hm⟩) (XD (own:=own) (ix:=ix) h E F B') (λf v I2 h' hs=>Tg h rfl I2 B'.free hs) (ABT h.lt) (λx c e=>ABT (h.szLt e)) q'
 exact codeAny_compStart_list (loop _ rfl) (T.self _ 0 _ _ _ t (loop _ rfl))
def iB (hc:X.calm=true)(hi:PI X tg iter wi)(O:LI X tg elt ifs scope own ix N g tt te)(hs:∀x,foldedSetIterable iter X.env x=pure x:=by intro _;rfl):PE X (.ListComp elt [⟨tg,iter,ifs,0⟩] scope pos) (eM wi own ix g tt te):=by intro Wf s c H Q I h;obtain⟨cl,d,h1,h2⟩:=JK (env:=X.env) (scope:=scope) λy hy e=>I.ok.has y.1 (.inl (O.frees y hy e));rw[eval_ListComp];refine ADk (use:=none) rfl hs d O.kind O.names (Bf (hi Wf s c H _ I h) λv p hv=>Bf hv λf r i=> ?_);obtain⟨it,t,tn,J,u,rfl,j,T,a,f2,q⟩:=i;exact Tk (Qd:=λD b=>Q (.ref D) b) hc O T j f2 a h1 h2 q λD C b k hn l gone w z n=>by obtain⟨m,o⟩:=hn;exact⟨m,o,λh' hs=>⟨.ref D,b,gone c k l h' hs,rfl,n⟩⟩
def iN {i:Nat}{x:Str}{pos' b:Pos}(hc:X.calm=true)(hN:X.N.Nodup)(l:X.N[i]? =some x)(hx:Loc X.env.scope x)(hi:PI X tg iter wi)(O:LI X tg elt ifs scope own ix N g tt te)(n:swapsWith (.ListComp elt [⟨tg,iter,ifs,0⟩] scope pos) (some (.Name x pos')) b.line X.env=pure true:=by rfl)(hs:∀x,foldedSetIterable iter X.env x=pure x:=by intro _;rfl)(o:X.fn x=true\/X.env.scope.names.lookup x=some .local:=by first | exact .inl rfl|exact .inr rfl|assumption):PS X (.Assign [.Name x pos'] (.ListComp elt [⟨tg,iter,ifs,0⟩] scope pos) b) (U2 (eM wi own ix g tt te) (DR i)):=by
 intro Wf s k H D I h;obtain⟨cl,p,h1,h2⟩:=JK (env:=X.env) (scope:=scope) λy hy e=>I.ok.has y.1 (.inl (O.frees y hy e));rw[exec_Assign_Name_used _ _ _ _ n];refine AAO (ABS (AAO ?_));show wpAny _ _ (do let _ <-comprehension (.ListComp elt [⟨tg,iter,ifs,0⟩] scope pos) scope X.env _ (newList []) false (eval iter X.env) (some (assign (.Name x pos') X.env))) _ _ s;refine AAO (Bf (ADk (use:=some (assign (.Name x pos') X.env)) (Q:=λ_ c=>SP X Wf D .next c) rfl hs p O.kind O.names (Bf (hi Wf s k H _ I h) λv P hv=>Bf hv λr R t=> ?_)) λ_ c hq=>AAS (AAS hq));obtain⟨it,S,tn,J,U,rfl,u,T,f,f2,q⟩:=t;refine Tk (Qd:=λd j=>DR i (.ref d) k j D.nx) hc O T u f2 f h1 h2 q λd C j c hn w gone A B E=> ?_;obtain⟨m,F⟩:=hn;show wpAny _ _ (assign (.Name x pos') X.env (.ref d)) _ _ c;refine wpAny_assign_Name (QZ (v:= .ref d) w hN l hx rfl (λG K ⟨a,L,ha⟩=> ?_) o);have M:C≠a:=by
  rcases ha with z|z
  .rw [z];exact A
  .exact B x a z
 exact⟨m,F.sameBut L M,λh' hs=>⟨_,j,gone _ G K h' hs,E⟩⟩
end
def Kb {n k:Nat}(h:n<2^k)(hk:0<k):n.log2<k:=by
 by_cases e:n=0
 .subst e;simpa using hk
 .exact (Nat.log2_lt e).mpr h
def IM {i:Int}{k:Nat}(h:i.natAbs<2^k):Builtin.Int.intBits i<=k:=by
 unfold Builtin.Int.intBits;by_cases e:i=0
 .subst e;simp
 .have a:(i==0)=false:=by simpa using e
  rw[a];simp only[AA2,AAu];have b:i.natAbs≠0:=by omega
  have:=(Nat.log2_lt b).mpr h;omega
section
variable {X:Cx}
def sG (i j:Int):Prop:=i.natAbs<2^8000/\j.natAbs<2^8000
def nu (i j:Int):Prop:=Jy i j\/sG i j
def IP:EB X (binaryOp .Mult) (rI nu λi j=> .int (i*j)):=lc λ_ _ _ _ _ _ _ hc q=>mul_int q (by
 rcases hc with z|z
 .exact z.ok
 .exact .of_le (IM z.1) (IM z.2) (by decide))
def nr (_ j:Int):Prop:=0<j/\j.natAbs<2^8000
def ck:EB X (binaryOp .FloorDiv) (rI nr λi j=> .int (i/j)):=lc λi j _ _ _ _ _ hc q=>by have h1:(0:Int)<j:=hc.1;refine floordiv_int (by omega) ?_ (.inl (AED (ABv (Kb hc.2 (by decide)) (by decide))));rw[ABw _ (Int.le_of_lt h1)];exact q
inductive Kd where
 | int|bl|non|str|lst|tup
 deriving DecidableEq
def n8 (K:AAP)(x:V)(H:Hp):Kd->Prop
 | .int=>∃i,x= .int i
 | .bl=>∃b,x= .bl b
 | .non=>x= .non
 | .str=>∃z,x= .str z
 | .lst=>∃a ys,x= .ref a/\FF K H a ys
 | .tup=>∃a ys,x= .ref a/\KB K H a ys
def Ih:Kd->String->kc
 | .int,T=>T == "int"
 | .bl,T=>T == "bool" || T == "int"
 | .non,_=>false
 | .str,_=>false
 | .lst,T=>T == "list"
 | .tup,T=>T == "tuple"
def Hj (T:String):Prop:=T="int" \/T="bool" \/T="tuple" \/T="list"
def mK (K:AAP):km V->Hp->VK->Prop:=λxs H Q=>∃x T k,xs= [x, .ty T] /\Hj T/\n8 K x H k/\Q (.bl (Ih k T)) H
def aY:Cd X (.builtin "isinstance") (mK X.K):=by
 intro Wf s n H xs p Q I r h;obtain⟨x,T,k,rfl,f,hk,q⟩:=h;cases r with
 | cons g m=>
 cases m with
 | cons rt m=>
 cases m;cases rt;have c:Q (.bl true) H->EP X Wf n Q (.bool true) s:=λz=>⟨.bl true,H,I,rfl,z⟩;have b:Q (.bl false) H->EP X Wf n Q (.bool false) {s with toks:=s.toks+1}:=λz=>⟨.bl false,H,I.tok _,rfl,z⟩;cases k with
 | int=>
   obtain⟨i,rfl⟩:=hk;obtain⟨t,rfl⟩:=g;rcases f with rfl|rfl|rfl|rfl
   .exact IsiPair.int_int (c q)
   .exact IsiPair.int_bool (b q)
   .exact IsiPair.int_tuple (b q)
   .exact IsiPair.int_list (b q)
 | bl=>
   obtain⟨i,rfl⟩:=hk;cases g;rcases f with rfl|rfl|rfl|rfl
   .exact IsiPair.bool_int (c q)
   .exact IsiPair.bool_bool (c q)
   .exact IsiPair.bool_tuple (b q)
   .exact IsiPair.bool_list (b q)
 | non=>
   have e:x= .non:=hk;subst e;cases g;rcases f with rfl|rfl|rfl|rfl
   .exact IsiPair.NoneType_int (b q)
   .exact IsiPair.NoneType_bool (b q)
   .exact IsiPair.NoneType_tuple (b q)
   .exact IsiPair.NoneType_list (b q)
 | str=>
   obtain⟨i,rfl⟩:=hk;obtain⟨t,rfl⟩:=g;rcases f with rfl|rfl|rfl|rfl
   .exact IsiPair.str_int (b q)
   .exact IsiPair.str_bool (b q)
   .exact IsiPair.str_tuple (b q)
   .exact IsiPair.str_list (b q)
 | lst=>
   obtain⟨a,ys,rfl,hq⟩:=hk;cases g;obtain⟨l,o,j,hz⟩:=I.list hq;rcases f with rfl|rfl|rfl|rfl
   .exact IsiPair.isList_int j.isList (λ_ _ e=>e) (b q)
   .exact IsiPair.isList_bool j.isList (λ_ _ e=>e) (b q)
   .exact IsiPair.isList_tuple j.isList (λ_ _ e=>e) (b q)
   .exact IsiPair.isList_list j.isList (λ_ _ e=>e) (c q)
 | tup=>
   obtain⟨a,ys,rfl,hq⟩:=hk;cases g;obtain⟨l,o,j,hz⟩:=I.tuple hq;have d:s.heap.IsTuple a l.toArray:=j;rcases f with rfl|rfl|rfl|rfl
   .exact IsiPair.isTuple_int d (λ_ _ e=>e) (b q)
   .exact IsiPair.isTuple_bool d (λ_ _ e=>e) (b q)
   .exact IsiPair.isTuple_tuple d (λ_ _ e=>e) (c q)
   .exact IsiPair.isTuple_list d (λ_ _ e=>e) (b q)
def ZX (bs:km kc):(List.range bs.length).all (λi=>bs.getD i true)=bs.all id:=by
 rw[ABf,ABI,ABI];constructor
 .intro h b hb;obtain⟨i,hi,e⟩:=List.mem_iff_getElem.mp hb;have:=h i (ACr.mpr hi);rw[ADl,AAm hi] at this;subst e;simpa using this
 .intro h i hi;have a:=ACr.mp hi;rw[ADl,AAm a];simpa using h _ (AC4 a)
def Inv.walked {Wf:km (kf×Obj)}{g:St}{H:Hp}{s c:ki}{o:Obj}(I:Inv X Wf g H s)(m:Moved [s.heap.objs.size] (λa b=>b=a) {s with heap:=s.heap.push o} c):Inv X Wf g H c:=by
 obtain⟨h',g',d',t',h⟩:=c;obtain⟨hk,d,hd,f,_⟩:=m;have i:∀b u,s.heap.get? b=some u->h'.get? b=some u:=λb u e=>hk b u (by
  intro z;have j:b=s.heap.objs.size:=by simpa using z
  exact absurd (AAU e) (by rw[j];exact ABb _)) (AAV _ e)
 have d:g'=s.gens:=d;have hd:d'=s.drawn:=hd;have f:h=s.os:=f;subst d hd f;exact I.kept (t':=t') i
def eh {bs:km kc}{a:km kj}{A:da}(r:A3 (bs.map V.bl) a):TruthOf X.prog X.w A (λi v=>a.toArray[i]? =some v) (λi=>bs.getD i true):=by
 intro i v s Q E hv hQ;have c:a[i]? =some v:=by simpa using hv
 cases e:(bs.map V.bl)[i]? with
 | none=>rw[r.none_of e] at c;cases c
 | some x=>
   obtain⟨u,hu,f⟩:=r.get e;rw[c] at hu;cases hu;rw[AAx] at e;cases d:bs[i]? with
   | none=>rw[d] at e;cases e
   | some b=>
     rw[d] at e;cases e;cases f
     replace hQ:Q (bs.getD i true) s:=hQ
     rw[ADl,d] at hQ;unfold truthy;exact AAS hQ
def iQ (K:AAP)(f:km kc->kc):km V->Hp->VK->Prop:=λxs H Q=>∃p bs,xs= [.ref p] /\FF K H p (bs.map V.bl)/\Q (.bl (f bs)) H
def Yh (hc:X.calm=true):Cd X (.builtin "all") (iQ X.K λbs=>bs.all id):=by
 intro Wf s k H xs l Q I r h;obtain⟨p,bs,rfl,hq,q⟩:=h;obtain⟨u,rfl,e⟩:=vals1 r;cases e;obtain⟨a,b,c,hz⟩:=I.list hq;obtain⟨ol,d,f⟩:=id c.isList;have g:p≠s.heap.objs.size:=AAc (AAU d);have j:a.toArray.size=bs.length:=by have:=b.length;simp at this;simp[this]
 refine call_all_walkS (AC5 c.isList ?_);refine⟨_,_,_,_,_,_,_,λi=>bs.getD i true,rfl,(Walks.list (A:=X.A.in1) (show X.A.in1.handled=none from I.ok.hd hc) s.heap.objs.size p g a.toArray).toS,⟨⟨_,AAi _ rfl,rfl,rfl⟩,⟨ol,AAV _ d,f⟩⟩,eh b,λn m=> ?_⟩;rw[j,ZX];exact⟨.bl (bs.all id),H,I.walked m,rfl,q⟩
def gf (xs:km V)(k:Nat)(y:V):km V:=xs.take k++y::xs.drop k
def A3.ins {xs:km V}{a:km kj}{y:V}{u:kj}(r:A3 xs a)(b:RelV y u)(k:Nat):A3 (gf xs k y) (a.take k++u::a.drop k):=A3.append (r.take k) (.cons b (r.drop k))
def Rz:V->km V->Hp->VK->Prop:=λx vs H Q=>∃l xs i y,x= .ref l/\vs= [.int i,y] /\H l=some (.lst xs)/\0<=i/\i<=(xs.length:Int)/\xs.length<sizeLine/\Q .non (upd H l (.lst (gf xs i.toNat y)))
def ZC:n9 X "list.insert" Rz:=by
 intro Wf s o H x vs v p Q I f rv h;obtain⟨l,xs,i,y,rfl,rfl,c,u,h1,hz,q⟩:=h;cases f;cases rv with
 | cons g b=>
 cases b with
 | cons j b=>
 cases b;rename_i d;obtain⟨t,rfl⟩:=g;obtain⟨z,a,n,r,hl,e⟩:=I.lstM c;have w:=Lc;have m:¬(!Builtin.List.listFitsIndex i)=true:=by have:=fitsIndex_both (k:=i) (by omega) (by omega);simp[this]
 refine call_meets F.slot_list_insert ⟨_,e,rfl⟩ F.entry_list_insert (F.args_list_insert_3 _ _ _) (AutoSeq1.list_insert_list_int_val_1 l a.toArray n i t d m (by rw[AAf];omega)) ⟨e, ?_⟩;refine⟨.non,_,I.lset (ys:=gf xs i.toNat y) (its':=a.take i.toNat++d::a.drop i.toNat) c e ?_ (r.ins j _) ?_,rfl,q⟩
 .dsimp only;rw[AAQ (by omega),AAf,AC6 (by omega)];apply Array.toList_inj.mp;simp;exact ACV (by simp)
 .unfold gf;simp;omega
end
def RB:kc->fe->kf->kf->Nat->Prop
 | true,h,q,l,k=>h.IsListIter q l k
 | false,h,q,l,k=>h.IsTupleIter q l k
def Tc:kc->fe->kf->Array kj->Prop
 | true,h,l,xs=>h.IsList l xs
 | false,h,l,xs=>h.IsTuple l xs
def RB.mv {b:kc}{h h':fe}{q l:kf}{k:Nat}(x:RB b h q l k)(e:∀o,h.get? q=some o->h'.get? q=some o):RB b h' q l k:=by
 cases b with
 | true=>obtain⟨o,a,r⟩:=x;exact⟨o,e o a,r⟩
 | false=>obtain⟨o,a,r⟩:=x;exact⟨o,e o a,r⟩
def RB.obj {b:kc}{h:fe}{q l:kf}{k:Nat}(x:RB b h q l k):∃o,h.get? q=some o/\∀v,o.data≠ .cell v:=by
 cases b with
 | true=> obtain⟨o,a,_,d⟩:=x;exact⟨o,a,λv z=>by rw[d] at z;cases z⟩
 | false=> obtain⟨o,a,_,d⟩:=x;exact⟨o,a,λv z=>by rw[d] at z;cases z⟩
def Tc.mv {b:kc}{h h':fe}{l:kf}{xs:Array kj}(x:Tc b h l xs)(e:∀o,h.get? l=some o->h'.get? l=some o):Tc b h' l xs:=by
 cases b with
 | true=>obtain⟨o,a,r⟩:=x;exact⟨o,e o a,r⟩
 | false=>obtain⟨o,a,r⟩:=x;exact⟨o,e o a,r⟩
section
variable {prog:gn}{w:fm}{A:da}{E:kj->ki->Prop}{s:ki}
def Ny {b:kc}{q l:kf}{k:Nat}{xs:Array kj}{x:kj}{Q:kj->ki->Prop}(hq:RB b s.heap q l k)(hl:Tc b s.heap l xs)(hx:xs[k]? =some x)(hQ:∀h',RB b h' q l (k+1)->Heap.SameBut q s.heap h'->Q x {s with heap:=h'}):wpAny (model prog w) A (Builtin.SmallTypes.nextOf (.ref q)) Q E s:=by
 cases b with
 | true=>exact wpAny_nextOf_list_item hq hl hx hQ
 | false=> have d:s.heap.IsTupleIter q l k:=hq;obtain⟨f,c,e,a⟩:=id d;obtain⟨ol,gl,_,g,dl⟩:=hl;unfold Builtin.SmallTypes.nextOf;refine AAO (ABh (name:=Str.ofString "__next__") d.typeIs AC7 (ABL AC7 d.typeIs AEE ?_ (AEF _)));show wpAny _ _ (field (.ref q) 0 >>= _) _ _ _;refine AAO (AA5 c a (x:= .ref l) rfl ?_);show wpAny _ _ (if (Value.ref l==Value.none)=true then _ else _) _ _ _;rw[AAQ (by intro z;cases z)];show wpAny _ _ (field (.ref q) 1 >>= _) _ _ _;refine AAO (AA5 c a (x:= .int k 0) rfl ?_);show wpAny _ _ (seqItems? (.ref l) >>= _) _ _ _;refine AAO (ABM gl dl ?_);simp only[AB5,hx];refine AAO (AC8 c a (by simp) (AAS ⟨x,rfl,AAS (hQ _ ?_ (AC9 ..))⟩));refine⟨_,AB8 _ c (Obj.isFreed_of_fields (ADA a _)),(Obj.cls_mapFields ..).trans e, ?_⟩;rw[ADA a];simp[rawInt]
def P9 {b:kc}{q l:kf}{k:Nat}{xs:Array kj}{Q:kj->ki->Prop}(c:A.handled=none)(hq:RB b s.heap q l k)(hl:Tc b s.heap l xs)(hx:xs[k]? =none)(h:∀h' e,Heap.ExtBut q s.heap h'->(∃o,h'.get? e=some o/\o.cls= .type "StopIteration")->E (.ref e) {s with heap:=h'}):wpAny (model prog w) A (Builtin.SmallTypes.nextOf (.ref q)) Q E s:=by
 cases b with
 | true=>exact wpAny_nextOf_list_end c hq hl hx h
 | false=>
   have d:s.heap.IsTupleIter q l k:=hq;obtain⟨i,f,j,g⟩:=id d;obtain⟨ol,gl,_,n,dl⟩:=hl;unfold Builtin.SmallTypes.nextOf;refine AAO (ABh (name:=Str.ofString "__next__") d.typeIs AC7 (ABL AC7 d.typeIs AEE ?_ (AEF _)));show wpAny _ _ (field (.ref q) 0 >>= _) _ _ _;refine AAO (AA5 f g (x:= .ref l) rfl ?_);show wpAny _ _ (if (Value.ref l==Value.none)=true then _ else _) _ _ _;rw[AAQ (by intro z;cases z)];show wpAny _ _ (field (.ref q) 1 >>= _) _ _ _;refine AAO (AA5 f g (x:= .int k 0) rfl ?_);show wpAny _ _ (seqItems? (.ref l) >>= _) _ _ _;refine AAO (ABM gl dl ?_);simp only[AB5,hx];refine AAO (ABP (AAO (AC8 f g (by simp) ?_)));refine AAO (m:=newExc (.type "StopIteration") []) ?_;simp only[newExc,newTuple];refine AAO (ABG ?_ (by size_fits));refine AAO (m:=firstArgMember _ _) (wpAny_of_eq (a:=Value.none) (by first | rfl|(simp only[firstArgMember];rfl)) (ABG ?_ (by size_fits)));simp only[raiseNew];refine AAO (wpAny_handled ?_);first | rw[show A.in1.handled=none from c] | rw[c]
   exact AAO (AAS (wpAny_throw (h _ _ (((AC9 ..).extBut.push _).push _) ⟨_,AAi _ rfl,rfl⟩)))
structure kC (b c:Bool) (z TI TO i j l m:Addr) (k:Nat) (f:Value) (h:Heap):Prop where
 zip:IsZip h z TI TO f
 its:IsPair h TI (.ref i) (.ref j)
 own:∃x y,IsPair h TO x y
 one:RB b h i l k
 two:RB c h j m k
def kC.mv {b c:kc}{z TI TO i j l m:kf}{k:Nat}{f:kj}{h h':fe}(Z:kC b c z TI TO i j l m k f h)(e:∀p∈ [z,TI,TO,i,j],∀o,h.get? p=some o->h'.get? p=some o):kC b c z TI TO i j l m k f h':=by obtain⟨a,d,⟨x,y,g⟩,n,r⟩:=Z;exact⟨e z (by simp) _ a,e TI (by simp) _ d,⟨x,y,e TO (by simp) _ g⟩,n.mv (e i (by simp)),r.mv (e j (by simp))⟩
variable {b c:kc}{z TI TO i j l m:kf}{k:Nat}{xs ys:Array kj}
def rB {x y:kj}{Q:kj->ki->Prop}(D:ZipApart z TI TO i j l m)(Z:kC b c z TI TO i j l m k .none s.heap)(hl:Tc b s.heap l xs)(hm:Tc c s.heap m ys)(hx:xs[k]? =some x)(hy:ys[k]? =some y)(hQ:∀h',IsZip h' z TI TO (rawInt s.heap.objs.size)->IsPair h' TI (.ref i) (.ref j)->IsPair h' TO x y->RB b h' i l (k+1)->RB c h' j m (k+1)->IsPair h' s.heap.objs.size x y-> (∀p o,p≠z->p≠TO->p≠i->p≠j->s.heap.get? p=some o->h'.get? p=some o)->Q (.ref s.heap.objs.size) {s with heap:=h'}):wpAny (model prog w) A (Builtin.«zip.__next__» ⟨[.ref z], []⟩) (λK s'=>∃v,K= .done (.ret v)/\Q v s') E s:=by
 obtain⟨h,S,⟨x0,L,zo⟩,z1,z2⟩:=Z;show wpAny _ _ (field (.ref z) 2 >>= _) _ _ _;refine AAO (AA5 h rfl (x:= .bool false) rfl ?_);show wpAny _ _ (field (.ref z) 3 >>= _) _ _ _;refine AAO (AA5 h rfl (x:= .ref TI) rfl (AAO (ABM S rfl ?_)));refine AAO (m:=Builtin.SmallTypes.ownedTupleIsFree (.ref z)) ?_;unfold Builtin.SmallTypes.ownedTupleIsFree;refine AAO (AA5 h rfl (x:= .none) rfl (AAS ?_));simp only[ABQ];refine AAO (ABP (AAO (AA5 h rfl (x:= .ref TO) rfl (AAO (AB9 h (by simp) λg1 M b1=> ?_)))));have M:IsZip g1 z TI TO .ellipsis:=M;refine AAO ?_;simp only[List.zipIdx_cons,List.zipIdx_nil,AC3,List.forIn_nil];refine AAO (AAO (ADB ?_));refine AAO (m:=Builtin.SmallTypes.nextOf (.ref i)) (Ny (z1.mv λo=>b1.extBut _ o D.i1z) (hl.mv λo=>b1.extBut _ o D.l1z) hx λg2 e2 b2=>AAS ?_);have T:IsPair g2 TO x0 L:=b2.extBut _ _ D.TOi1 (b1.extBut _ _ D.TOz zo);refine AAO (ABM T rfl (AAO (ADm T λg3 N g=>AAO (ADC (AAS ?_)))));have N:IsPair g3 TO x L:=N;refine AAO (AAO (ADB ?_));refine AAO (m:=Builtin.SmallTypes.nextOf (.ref j)) (Ny (((z2.mv λo=>b1.extBut _ o D.i2z).mv λo=>b2.extBut _ o D.i12.symm).mv λo=>g.extBut _ o D.TOi2.symm)
  (((hm.mv λo=>b1.extBut _ o D.l2z).mv λo=>b2.extBut _ o D.l2i1).mv λo=>g.extBut _ o D.l2TO) hy λg4 e4 n=>AAS ?_)
 have U:IsPair g4 TO x L:=n.extBut _ _ D.TOi2 N;refine AAO (ABM U rfl (AAO (ADm U λa F r=>AAO (ADC (AAS (AAS ?_))))));have F:IsPair a TO x y:=F;refine AAO (ABM F rfl (AAO (wpAny_newTuple ?_)));have W:a.objs.size=s.heap.objs.size:=by rw[r.1,n.1,g.1,b2.1,b1.1]
 have X:IsZip a z TI TO .ellipsis:=r.extBut _ _ D.TOz.symm (n.extBut _ _ D.i2z.symm (g.extBut _ _ D.TOz.symm (b2.extBut _ _ D.i1z.symm M)));have d:∀p o,p≠z->p≠TO->p≠i->p≠j->s.heap.get? p=some o->a.get? p=some o:=λp o G H O P e=>
  r.extBut _ _ H (n.extBut _ _ P (g.extBut _ _ H (b2.extBut _ _ O (b1.extBut _ _ G e))))
 have t:RB b a i l (k+1):=((e2.mv λo=>g.extBut _ o D.TOi1.symm).mv λo=>n.extBut _ o D.i12).mv λo=>r.extBut _ o D.TOi1.symm;have u:RB c a j m (k+1):=e4.mv λo=>r.extBut _ o D.TOi2.symm;have B:z<a.objs.size:=AAU X;refine AAO (m:=Builtin.SmallTypes.ownedTupleHandOut (.ref z) (.ref a.objs.size)) ?_;unfold Builtin.SmallTypes.ownedTupleHandOut;have k6:IsZip (a.push {cls:= .type "tuple",data:= .seq #[x,y] }) z TI TO .ellipsis:=AAV _ X;refine AAO (AB9 k6 (by simp) λg7 R Y=> ?_);have R:IsZip g7 z TI TO (rawInt a.objs.size):=R;refine AB9 R (by simp) λI J b8=> ?_;have J:IsZip I z TI TO (rawInt a.objs.size):=J;have C:∀p o,p≠z->a.get? p=some o->I.get? p=some o:=λp o q e=>b8.extBut _ _ q (Y.extBut _ _ q (AAV _ e));have f:IsPair I a.objs.size x y:=b8.extBut _ _ (ABT B) (Y.extBut _ _ (ABT B) (AAi _ rfl));rw[W] at J f;refine AAS ⟨_,rfl, ?_⟩;show Q (.ref a.objs.size) _;rw[W];exact hQ I J (C _ _ D.TIz (d _ _ D.TIz D.TITO D.TIi1 D.TIi2 S)) (C _ _ D.TOz F) (t.mv λo=>C _ o D.i1z) (u.mv λo=>C _ o D.i2z) f λp o G H O P e=>C p o G (d p o G H O P e)
def vc {Q:Fin->ki->Prop}(y:A.handled=none)(D:ZipApart z TI TO i j l m)(Z:kC b c z TI TO i j l m k .none s.heap)(hl:Tc b s.heap l xs)(L:Tc c s.heap m ys)(M:xs[k]? =none\/ys[k]? =none)(B:∀h' e,(∀p o,p≠z->p≠TO->p≠i->p≠j->s.heap.get? p=some o->h'.get? p=some o)->(∃o,h'.get? e=some o/\o.cls= .type "StopIteration")->E (.ref e) {s with heap:=h'}):wpAny (model prog w) A (Builtin.«zip.__next__» ⟨[.ref z], []⟩) Q E s:=by
 obtain⟨f,N,⟨O,P,R⟩,C,S⟩:=Z;show wpAny _ _ (field (.ref z) 2 >>= _) _ _ _;refine AAO (AA5 f rfl (x:= .bool false) rfl ?_);show wpAny _ _ (field (.ref z) 3 >>= _) _ _ _;refine AAO (AA5 f rfl (x:= .ref TI) rfl (AAO (ABM N rfl ?_)));refine AAO (m:=Builtin.SmallTypes.ownedTupleIsFree (.ref z)) ?_;unfold Builtin.SmallTypes.ownedTupleIsFree;refine AAO (AA5 f rfl (x:= .none) rfl (AAS ?_));simp only[ABQ];refine AAO (ABP (AAO (AA5 f rfl (x:= .ref TO) rfl (AAO (AB9 f (by simp) λT n b1=> ?_)))));have n:IsZip T z TI TO .ellipsis:=n;refine AAO ?_;simp only[List.zipIdx_cons,List.zipIdx_nil,AC3,List.forIn_nil];refine AAO (AAO (ADB ?_));cases hx:xs[k]? with
 | none=>
   refine AAO (m:=Builtin.SmallTypes.nextOf (.ref i)) (P9 y (C.mv λo=>b1.extBut _ o D.i1z) (hl.mv λo=>b1.extBut _ o D.l1z) hx λr e b2 he=> ?_);obtain⟨t,a,g⟩:=he;have F:IsZip r z TI TO .ellipsis:=b2 _ _ D.i1z.symm n;have u:e≠z:=λq=>by subst q;rw[F] at a;cases a;simp at g
   refine AB9 F (by simp) λG _ d=>B G e (λp o h _ v _ q=>d.extBut _ _ h (b2 _ _ v (b1.extBut _ _ h q))) ⟨t,d.extBut _ _ u a,g⟩
 | some x=>
   have hy:ys[k]? =none:=by
    rcases M with q|q
    .rw [hx] at q;cases q
    .exact q
   refine AAO (m:=Builtin.SmallTypes.nextOf (.ref i)) (Ny (C.mv λo=>b1.extBut _ o D.i1z) (hl.mv λo=>b1.extBut _ o D.l1z) hx λr e2 b2=>AAS ?_);have H:IsPair r TO O P:=b2.extBut _ _ D.TOi1 (b1.extBut _ _ D.TOz R);refine AAO (ABM H rfl (AAO (ADm H λG o3 d=>AAO (ADC (AAS ?_)))));refine AAO (AAO (ADB ?_));refine AAO (m:=Builtin.SmallTypes.nextOf (.ref j)) (P9 y (((S.mv λo=>b1.extBut _ o D.i2z).mv λo=>b2.extBut _ o D.i12.symm).mv λo=>d.extBut _ o D.TOi2.symm)
    (((L.mv λo=>b1.extBut _ o D.l2z).mv λo=>b2.extBut _ o D.l2i1).mv λo=>d.extBut _ o D.l2TO) hy λU e I he=> ?_)
   obtain⟨t,a,g⟩:=he;have J:IsZip U z TI TO .ellipsis:=I _ _ D.i2z.symm (d.extBut _ _ D.TOz.symm (b2.extBut _ _ D.i1z.symm n));have u:e≠z:=λq=>by subst q;rw[J] at a;cases a;simp at g
   refine AB9 J (by simp) λW _ K=>B W e (λp o h X v Y q=>K.extBut _ _ h (I _ _ Y (d.extBut _ _ X (b2.extBut _ _ v (b1.extBut _ _ h q))))) ⟨t,K.extBut _ _ u a,g⟩
end
def fG (b:kc)(l:kf):Obj:={cls:= .type (match b with | true=>"list_iterator" | false=>"tuple_iterator"),data:= .fields #[.ref l, .int 0 0] }
abbrev zA (b:kc)(h:fe)(l:kf):fe:=h.push (fG b l)
abbrev zB (b c:kc)(h:fe)(l m:kf):fe:=(zA b h l).push (fG c m)
abbrev zC (b c:kc)(h:fe)(l m:kf):fe:=(zB b c h l m).push {cls:= .type "tuple",data:= .seq #[.ref h.objs.size, .ref (zA b h l).objs.size] }
abbrev zD (b c:kc)(h:fe)(l m:kf):fe:=(zC b c h l m).push {cls:= .type "tuple",data:= .seq #[.none, .none] }
abbrev zF (b c:kc)(h:fe)(l m:kf):fe:=(zD b c h l m).push {cls:= .type "zip",data:= .fields #[.none, .bool false, .bool false, .ref (zB b c h l m).objs.size, .ref (zC b c h l m).objs.size] }
def b6 {prog:gn}{w:fm}{A:da}{E:kj->ki->Prop}{h:fe}{g:Array GenState}{d:Drawn}{a:Nat}{os:OsState}{b:kc}{l:kf}{xs:Array kj}{Q:kj->ki->Prop}(hl:Tc b h l xs)(q:Q (.ref h.objs.size) ⟨h.push (fG b l),g,d,a,os⟩):wpAny (model prog w) A (pyIter (.ref l)) Q E ⟨h,g,d,a,os⟩:=by
 cases b with
 | true=>exact AC5 (s:=⟨h,g,d,a,os⟩) hl q
 | false=>exact wpAny_pyIter_tuple (s:=⟨h,g,d,a,os⟩) hl q
def Zt (b c:kc)(l m:kf)(xs ys:Array kj):Meets (Builtin.«zip.__new__» ⟨[.type "zip", .ref l, .ref m], []⟩) (λ_ R s=>Tc b s.heap l xs/\Tc c s.heap m ys/\R (.ok (.ret (.ref (zD b c s.heap l m).objs.size))) {s with heap:=zF b c s.heap l m}):=
 .of_wp λprog w A R s h=>by
   obtain⟨hp,g,d,j,os⟩:=s;obtain⟨hl,a,h⟩:=h;have k:=sub_zip;have f:Tc b hp l xs:=hl;have i:Tc c (hp.push (fG b l)) m ys:=a.mv λo e=>AAV _ e
   wp_walk using b6 f,b6 i
   exact⟨_,rfl,h⟩
section
variable {prog:gn}{w:fm}{A:da}{E:kj->ki->Prop}{s:ki}{b c:kc}{l m:kf}{xs ys:Array kj}
def jW {h:fe}{q:kf}(e:h.get? q=some (fG b l)):RB b h q l 0:=by
 cases b with
 | true=>exact⟨_,e,rfl,rfl⟩
 | false=>exact⟨_,e,rfl,rfl⟩
def nD (hl:Tc b s.heap l xs)(n:Tc c s.heap m ys){Q:kj->ki->Prop}(h:∀h',kC b c (s.heap.objs.size+4) (s.heap.objs.size+2) (s.heap.objs.size+3) s.heap.objs.size (s.heap.objs.size+1) l m 0 .none h'->(∀p o,s.heap.get? p=some o->h'.get? p=some o)->Q (.ref (s.heap.objs.size+4)) {s with heap:=h'}):wpAny (model prog w) A (call (.type "zip") [.ref l, .ref m]) Q E s:=by
 refine callType_new F.called_zip (by decide) (F.typeCall_zip_2 _ _) (F.newCall_zip_2 _ _) (λobj=>F.args_object_init_3 obj _ _) F.entry_zip_new (Zt b c l m xs ys) ⟨hl,n, ?_⟩;have a:(zA b s.heap l).objs.size=s.heap.objs.size+1:=AB3 ..;have d:(zB b c s.heap l m).objs.size=s.heap.objs.size+2:=by rw[AB3,a]
 have f:(zC b c s.heap l m).objs.size=s.heap.objs.size+3:=by rw[AB3,d]
 have i:(zD b c s.heap l m).objs.size=s.heap.objs.size+4:=by rw[AB3,f]
 have g:(zF b c s.heap l m).get? (zD b c s.heap l m).objs.size=some _:=AAi _ rfl;have j:(zF b c s.heap l m).get? (zC b c s.heap l m).objs.size=some _:=AAV _ (AAi _ rfl);have k:(zF b c s.heap l m).get? (zB b c s.heap l m).objs.size=some _:=AAV _ (AAV _ (AAi _ rfl));have p2:(zF b c s.heap l m).get? (zA b s.heap l).objs.size=some (fG c m):=AAV _ (AAV _ (AAV _ (AAi _ rfl)));have p1:(zF b c s.heap l m).get? s.heap.objs.size=some (fG b l):=AAV _ (AAV _ (AAV _ (AAV _ (AAi _ rfl))));rw[d,f,i] at g;rw[a,d] at k;rw[f] at j;rw[a] at p2;show _/\_;rw[i];exact⟨⟨_,g,rfl⟩,h _ ⟨g,k,⟨_,_,j⟩,jW p1,jW p2⟩ λp o e=>AAV _ (AAV _ (AAV _ (AAV _ (AAV _ e))))⟩
end
def Sq (K:AAP):kc->Hp->kf->km V->Prop
 | true,H,a,xs=>FF K H a xs
 | false,H,a,xs=>KB K H a xs
section
variable {X:Cx}{Wf:km (kf×Obj)}{σ:St}{H:Hp}{s:ki}{a:kf}{ys xs:km V}{b:kc}{h':fe}
def Inv.sq (I:Inv X Wf σ H s)(h:Sq X.K b H a xs):∃c:km kj,A3 xs c/\Tc b s.heap a c.toArray/\xs.length<=sizeLine:=by
 cases b with
 | true=> obtain⟨c,r,p,z⟩:=I.list h;exact⟨c,r,p.isList,z⟩
 | false=> obtain⟨c,r,p,z⟩:=I.tuple h;exact⟨c,r,p,z⟩
def Inv.sq_inj (I:Inv X Wf σ H s)(h:Sq X.K b H a xs)(h2:Sq X.K b H a ys):xs=ys:=by
 cases b with
 | true=>exact I.list_inj h h2
 | false=>exact I.tuple_inj h h2
def Inv.turnedL {ch:km kf}{t':Nat}(I:Inv X Wf σ H s)(c:∀p∈ch,F6 X Wf H p)(k:∀p o,p ∉ ch->s.heap.get? p=some o->h'.get? p=some o):Inv X Wf σ H {s with heap:=h',toks:=t'}:=by
 have d:∀p u,H p=some u->p ∉ ch:=λp u e z=>by rw[(c p z).1] at e;cases e
 refine I.step (g':=s.gens) (d':=s.drawn) (ch:=ch) (λp hp=>⟨(c p hp).2.2.2.1,(c p hp).2.1,(c p hp).2.2.2.2.1,(c p hp).2.2.2.2.2⟩) (λp o _ _ hc e _=>k p o hc e) (λp o _ _ hc e _=>⟨o.slots,k p o hc e⟩)
  (λ_ _ _ _ n=>n) (λp o hc e=>⟨o,k p o hc e⟩) (λ_ _ e=>e) (λ_ _ _ e=>e) (λp ps e=>⟨#[],by rw[e];simp⟩) (λm f=> ?_) (λp u e=> ?_) I.bare
 .obtain ⟨o,es,ep,g,r⟩:=f;exact⟨o,es,ep,k _ o (λz=>(c _ z).2.1 rfl) g,r⟩
 .refine (I.hok p u e).stay (λq v hq h=>k q v ?_ h) (λ_ q=>q) λ_ _ q=>q;rcases hq with z|z
  .rw [z];exact d p u e
  .exact d q _ z
def Inv.turnedN {ch:km kf}{t':Nat}{n:kf}{o:HO}(I:Inv X Wf σ H s)(c:∀p∈ch,F6 X Wf H p)(i:∀p∈ch,p<s.heap.objs.size)(k:∀p o,p ∉ ch->s.heap.get? p=some o->h'.get? p=some o)(hn:s.heap.objs.size<=n)(new:CD X.prog X.w (upd H n o) h' n o):Inv X Wf σ (upd H n o) {s with heap:=h',toks:=t'}:=by
 have f:Inv X Wf σ H {s with heap:=h',toks:=t'}:=I.turnedL c k;have d:H n=none:=I.hok.fresh hn;have hx:∀p u,s.heap.get? p=some u->p≠n:=λp u e=>AAc (AAs (AAU e) hn);refine I.step (g':=s.gens) (d':=s.drawn) (ch:=ch) (λp hp=>⟨(c p hp).2.2.2.1,(c p hp).2.1,(c p hp).2.2.2.2.1,(c p hp).2.2.2.2.2⟩) (λp o _ _ hc e _=>k p o hc e) (λp o _ _ hc e _=>⟨o.slots,k p o hc e⟩)
  (λp u _ e z=>by rw[Al (hx p u e)];exact z) (λp o hc e=>⟨o,k p o hc e⟩) (λp xs e=>by rw[Al (A2 e d)];exact e) (λp o xs e=>by rw[Al (A2 e d)];exact e)
  (λp ps e=>⟨#[],by rw[Al (A2 e d),e];simp⟩) (λm g=> ?_) (λp u e=> ?_) I.bare
 .obtain ⟨o,es,ep,h,r⟩:=g;exact⟨o,es,ep,k _ o (λz=>(c _ z).2.1 rfl) h,r⟩
 .by_cases hp:p=n
  .subst hp;rw[Ah] at e;cases e;exact new
  .rw [Al hp] at e;exact(f.hok p u e).stay (λ_ _ _ q=>q) (λq hq=>by rw[Al (A2 hq d)];exact hq) λq xs hq=>by rw[Al (A2 hq d)];exact hq
end
def sQ (K:AAP)(b c:kc)(l m:kf):It:=
 ⟨λi H=>∃xs ys x y,Sq K b H l xs/\Sq K c H m ys/\xs[i]? =some x/\ys[i]? =some y,
  λi H v a=>∃T x y,v= .ref T/\H T=none/\a=upd H T (.tup [x,y])/\(∀xs,Sq K b H l xs->xs[i]? =some x)/\∀ys,Sq K c H m ys->ys[i]? =some y,
  λi H=>∃xs ys,Sq K b H l xs/\Sq K c H m ys/\(xs.length<=i\/ys.length<=i)⟩
def en {P:gn}{w:fm}{K:AAP}{es:km kd}{N:Nat}{r:Pos}{b c:kc}{z TI TO i j l m:kf}(D:ZipApart z TI TO i j l m):Nm P w K (.Tuple es N r) (sQ K b c l m) [z,TI,TO,i,j] z (λk h=>kC b c z TI TO i j l m k .none h) where
 mem:=by simp
 obj:=λk h Z p hp=>by
  have a:p=z\/p=TI\/p=TO\/p=i\/p=j:=by simpa using hp
  rcases a with e|e|e|e|e
  .subst e;exact⟨_,Z.zip,λv q=>nomatch q⟩
  .subst e;exact⟨_,Z.its,λv q=>nomatch q⟩
  .subst e;obtain⟨x,y,q⟩:=Z.own;exact⟨_,q,λv q=>nomatch q⟩
  .subst e;exact Z.one.obj
  .subst e;exact Z.two.obj
 keep:=λk h h' Z e=>Z.mv e
 item:=by
  intro X t hw A hc k Wf s L H E I g Z B;subst t hw A;obtain⟨xs,ys,x,y,hl,n,hx,hy⟩:=B;obtain⟨M,C,G,_⟩:=I.sq hl;obtain⟨vs,rv,sv,_⟩:=I.sq n;obtain⟨u,hu,O⟩:=C.get hx;obtain⟨v,hv,Q⟩:=rv.get hy;have f:s.TypeIs (.ref z) "zip" :=⟨_,Z.zip,rfl⟩;unfold pyNext;refine AAO (ADD (ABh (name:=Str.ofString "__next__") f ADE (ABL ADE f F.entry_zip_next
   (rB D Z G sv (x:=u) (y:=v) (by simpa using hu) (by simpa using hv) λh1 R S U W Y a6 a7=>AAS ?_) (F.args_zip_next_1 _))))
  refine⟨_,rfl,wpAny_letOwnedTupleGo_zip (s:={s with heap:=h1}) R λh2 c1 c2=> ?_⟩;have J:∀p∈ [z,TI,TO,i,j],p<s.heap.objs.size:=λp hp=>by
   have a:p=z\/p=TI\/p=TO\/p=i\/p=j:=by simpa using hp
   rcases a with e|e|e|e|e
   .subst e;exact AAU Z.zip
   .subst e;exact AAU Z.its
   .subst e;obtain⟨x,y,q⟩:=Z.own;exact AAU q
   .subst e;obtain⟨o,q,_⟩:=Z.one.obj;exact AAU q
   .subst e;obtain⟨o,q,_⟩:=Z.two.obj;exact AAU q
  have d:∀p o,p≠z->h1.get? p=some o->h2.get? p=some o:=λp o q e=>c2.extBut _ _ q e;have kp:∀p o,p ∉ [z,TI,TO,i,j] ->s.heap.get? p=some o->h2.get? p=some o:=λp o hp e=>by
   have a:p≠z/\p≠TI/\p≠TO/\p≠i/\p≠j:=by simpa using hp
   exact d p o a.1 (a7 p o a.1 a.2.2.1 a.2.2.2.1 a.2.2.2.2 e)
  have zZ:s.heap.objs.size≠z:=ABT (J z (by simp));have I2:Inv X Wf L (upd H s.heap.objs.size (.tup [x,y])) {s with heap:=h2,toks:=s.toks}:=I.turnedN g J kp (AAW _)
   ⟨(by show 2<=sizeLine;decide), [u,v], .cons O (.cons Q .nil),⟨_,d _ _ zZ a6,rfl,_,rfl⟩⟩
  have Yx:H s.heap.objs.size=none:=I.fresh;refine⟨.ref s.heap.objs.size,upd H s.heap.objs.size (.tup [x,y]),I2,rfl,⟨_,x,y,rfl,Yx,rfl,λxs' h'=> ?_,λys' h'=> ?_⟩, ?_,λp hp=> ?_⟩
  .rw [I.sq_inj h' hl];exact hx
  .rw [I.sq_inj h' n];exact hy
  .exact ⟨c1,d _ _ D.TIz S,⟨_,_,d _ _ D.TOz U⟩,W.mv λo=>d _ o D.i1z,Y.mv λo=>d _ o D.i2z⟩
  .rw [Al (AAc (J p hp))];exact(g p hp).1
 done:=by
  intro X t hw A hc k Wf s L H E I g Z B;subst t hw A;obtain⟨xs,ys,hl,n,he⟩:=B;obtain⟨M,C,G,_⟩:=I.sq hl;obtain⟨vs,rv,sv,_⟩:=I.sq n;have e1:=C.length;have e2:=rv.length;have kX:M.toArray[k]? =none\/vs.toArray[k]? =none:=by
   rcases he with q|q
   .exact .inl (by simp;omega)
   .exact .inr (by simp;omega)
  have f:s.TypeIs (.ref z) "zip" :=⟨_,Z.zip,rfl⟩;unfold pyNext;refine AAO (ADD (ABh (name:=Str.ofString "__next__") f ADE (ABL ADE f F.entry_zip_next
   (vc (I.ok.hd hc) D Z G sv kX λh1 e hk he=> ?_) (F.args_zip_next_1 _))))
  obtain⟨o,ho,yu⟩:=he;refine AAO (AB1 (T:="StopIteration") (b:=true) ⟨o,ho,yu⟩ isSubtype_stop (AAS ⟨rfl, ?_⟩));exact I.turnedL (t':=s.toks) g λp o hp e=>by
   have a:p≠z/\p≠TI/\p≠TO/\p≠i/\p≠j:=by simpa using hp
   exact hk p o a.1 a.2.2.1 a.2.2.2.1 a.2.2.2.2 e
 self:=λ_ _ _ _ _ Z h=>wpAny_pyIter_zip Z.zip h
structure Has (P:Program) (w:World) (K:AAP) (mg:Str->Option Value) (base:Heap) (k:Nat) (x:Str) (ps:List Str) (sp:Sp):Prop where
 ex:∃f fd,mg x=some (.ref f)/\PySem.W.keepIn K (.ref f)=true/\Binds K fd ps [] /\Eg P w K mg base Q2 k f fd ps sp
def Has.mono {P:gn}{w:fm}{K:AAP}{mg:Str->ke kj}{base:fe}{j k:Nat}{x:Str}{ps:km Str}{sp:Sp}(h:Has P w K mg base j x ps sp)(hk:j<=k):Has P w K mg base k x ps sp:=by obtain⟨f,e,a,b,c,d⟩:=h.ex;exact⟨f,e,a,b,c,d.mono hk⟩
section
variable {X:Cx}{x:Str}{p pos:Pos}{e:kd}{es:km kd}{t:TA}{k:Nat}{ps:km Str}{sp:Sp}
def l7 (D:Has X.prog X.w X.K X.mg X.base k x ps sp)(a:Room k X.A)(b:Gl X x)(ha:PA X (e::es) t)(hs:starEach (e::es) X.env=(false,eval e X.env)::starEach es X.env:=by rfl)(hpl:(backTo pos (starEach es X.env)).any (·.1)=false:=by rfl)(hd:(x==("__debug__" :Str))=false:=by decide):PE X (.Call (.Name x p) (e::es) [] pos) (jh sp [] E0 t):=by obtain⟨f,h,c,d,g,G⟩:=D.ex;exact iA G a b c d g .nil qC ha (hdb:=hd) (he:=hs) (hpl:=hpl)
end
section
variable {X:Cx}{tg elt:kd}{ifs:km kd}{scope:Scope}{own:Nat}{ix:km Nat}{N:km Str}{g:TG}{tt:TT}{te:TE}
def RK (X:Cx)(sc:Scope)(own:Nat)(ix:km Nat)(N:km Str):kc:=
 (List.range ix.length).all λj=>match ix[j]? with
   | none=>false
   | some i=>match N[own+j]?,X.N[i]? with
     | some x,some y=>decide (x=y)&&decide (X.env.scope.names.lookup x=some .cell)&&decide (sc.names.lookup x=some .cell)
     | _,_=>false
def bE {sc:Scope}(h1:N.length=own+ix.length)(h2:RK X sc own ix N=true):TZ X sc own ix N:=by
 refine⟨h1,λj i hj=> ?_⟩;have c:j<ix.length:=(AAw.mp hj).1;have h:=ABI.mp h2 j (ACr.mpr c);rw[hj] at h;dsimp only at h;cases a:N[own+j]? with
 | none=>rw[a] at h;simp at h
 | some x=>
   cases b:X.N[i]? with
   | none=>rw[a,b] at h;simp at h
   | some y=> rw[a,b] at h;simp only[AAh,ACW] at h;obtain⟨⟨d,e⟩,f⟩:=h;subst d;exact⟨x,rfl,rfl,e,f⟩
def XJ (h1:scope.kind= .function)(h2:(scope.names.all λy=> !decide (y.2= .cell))=true)(c:(scope.names.all λy=> !decide (y.2= .local)||decide (scope.names.lookup y.1=some .local))=true)(d:(scope.names.all λy=> !decide (y.2= .free)||decide (X.env.scope.names.lookup y.1=some .cell))=true)(f:N.length=own+ix.length)(h:RK X (relabel scope X.env) own ix N=true)(hk:Hd own g)(a:∀cl C s H ex pn,PG (blk X (relabel scope X.env) N cl C s H ex pn) tg g)(b:∀cl C s H ex pn,YY (blk X (relabel scope X.env) N cl C s H ex pn) ifs tt)(val:∀cl C s H ex pn,PE (blk X (relabel scope X.env) N cl C s H ex pn) elt te):LI X tg elt ifs scope own ix N g tt te:=by
 refine⟨h1,λy hy e=> ?_,λy hy e=> ?_,λy hy e=> ?_,bE f h,hk,a,b,val⟩
 .have:=ABI.mp h2 y hy;simp[e] at this
 .have:=ABI.mp c y hy;simpa[e] using this
 .have:=ABI.mp d y hy;simpa[e] using this
end
def J7.new {H:Hp}{p:kf}{o:HO}(h:H p=none):J7 H (upd H p o):=λb u q=>by rw[Al (A2 q h)];exact q
def fP (p:kf)(H a:Hp):Prop:=∀b o,b≠p->H b=some o->a b=some o
def fP.refl {p:kf}{H:Hp}:fP p H H:=λ_ _ _ h=>h
def fP.trans {p:kf}{H d e:Hp}(a:fP p H d)(b:fP p d e):fP p H e:=λc o n h=>b c o n (a c o n h)
def J7.but {p:kf}{H b:Hp}(a:J7 H b):fP p H b:=λc o _ h=>a c o h
def fP.upd {p:kf}{H:Hp}{o:HO}:fP p H (upd H p o):=λb u n q=>by rw[Al n];exact q
end L2
namespace PL
open PySem PySem.Spec PyProof.Rows L2
inductive PV where
 | non|bl (b:Bool)|int (i:Int)|str (x:Str)|ty (n:String)
 | tup (xs:List PV)|lst (xs:List PV)|tape|scr (ns:List Int)|dct (kvs:List (FK×Int))
def E7 (H:Hp)(p:kf):Prop:=∃d x:Int,H p=some (.lst [.int d, .int x])/\0<=d/\0<=x/\x<2147483647
def LL (o:HO):Prop:=(∀vs,o≠ .tup vs)/\∀q u,o≠ .frz q u
def LL.lst {xs:km V}:LL (.lst xs):=⟨(λ_ e=>nomatch e),(λ_ _ e=>nomatch e)⟩
def E7.mut {H:Hp}{p:kf}(h:E7 H p):∃o,H p=some o/\LL o:=by obtain⟨d,x,e,_⟩:=h;exact⟨_,e,LL.lst⟩
def rJ (K:AAP)(H:Hp)(a:kf)(xs:km V):Prop:=H a=some (.tup xs)\/∃(o:Obj) (b:Array kj) (n:Nat),K.lookup a=some o/\o.cls= .type "tuple" /\o.data= .seq b n/\b.size<=sizeLine/\A3 xs b.toList
def rJ.sq {K:AAP}{H:Hp}{a:kf}{xs:km V}(h:rJ K H a xs):KB K H a xs:=h.elim (λz=> .inl (.inl z)) .inr
def CG (a:km (FK×Int)):km (FK×V):=a.map λp=>(p.1,V.int p.2)
mutual
inductive Cc (K:AAP) (T M:Addr->Prop) (H:Hp):V->PV->Prop where
 | non:Cc K T M H .non .non
 | bl (b:Bool):Cc K T M H (.bl b) (.bl b)
 | int (i:Int):Cc K T M H (.int i) (.int i)
 | str (x:Str):Cc K T M H (.str x) (.str x)
 | ty (n:String):Cc K T M H (.ty n) (.ty n)
 | tup {a:Addr} {vs:List V} {xs:List PV} (h:rJ K H a vs) (r:A7 K T M H vs xs):Cc K T M H (.ref a) (.tup xs)
 | lst {a:Addr} {vs:List V} {xs:List PV} (h:H a=some (.lst vs)) (t:¬T a) (m:¬M a) (r:A7 K T M H vs xs):Cc K T M H (.ref a) (.lst xs)
 | tape {a:Addr} (t:T a):Cc K T M H (.ref a) .tape
 | dct {a:Addr} {kvs:List (FK×Int)} (h:H a=some (.dN K (CG kvs))) (t:¬T a) (m:¬M a):Cc K T M H (.ref a) (.dct kvs)
 | scr {a:Addr} {ns:List Int} (h:(Rd H a (.lst (ns.map V.int))/\¬T a/\¬M a)\/∀H,FF K H a (ns.map V.int)):Cc K T M H (.ref a) (.scr ns)
inductive A7 (K:AAP) (T M:Addr->Prop) (H:Hp):List V->List PV->Prop where
 | nil:A7 K T M H [] []
 | cons {v:V} {x:PV} {vs:List V} {xs:List PV} (h:Cc K T M H v x) (t:A7 K T M H vs xs):A7 K T M H (v::vs) (x::xs)
end
structure HN (T M:Addr->Prop) (H:Hp):Prop where
 tp:∀a,T a->E7 H a
 mu:∀a,M a->∃o,H a=some o/\LL o
def HN.noTup {T M:kf->Prop}{H:Hp}(v:HN T M H){a:kf}{vs:km V}(r:Rd H a (.tup vs)):¬T a/\¬M a:=by
 have go:∀o,H a=some o->LL o->False:=λo e m=>by
  rcases r with r|⟨q,r⟩
  .rw [e] at r;cases r;exact m.1 _ rfl
  .rw [e] at r;cases r;exact m.2 _ _ rfl
 exact⟨λt=>let ⟨o,e,m⟩:=(v.tp a t).mut;go o e m,λt=>let ⟨o,e,m⟩:=v.mu a t;go o e m⟩
structure Mv (K:AAP) (T M:Addr->Prop) (H:Hp) (T' M':Addr->Prop) (H':Hp):Prop where
 va:HN T M H
 keep:∀b o,¬T b->¬M b->H b=some o->H' b=some o
 sub:∀b,T b->T' b
 tn:∀b,H b≠none->T' b->T b
 mn:∀b,H b≠none->M' b->M b
def X2 {H:Hp}{a:kf}{u:HO}(r:Rd H a u):H a≠none:=by rcases r with r|⟨o,r⟩ <;> rw[r] <;> exact λe=>nomatch e
def qP {H b:Hp}{a:kf}{u:HO}(r:Rd H a u)(k:∀o,H a=some o->b a=some o):Rd b a u:=by
 rcases r with r|⟨o,r⟩
 .exact .inl (k _ r)
 .exact .inr ⟨o,k _ r⟩
section
variable {K:AAP}{T M T' M':kf->Prop}{H H':Hp}
mutual
theorem Cc.mv (m:Mv K T M H T' M' H'):∀{v:V} {x:PV},Cc K T M H v x->Cc K T' M' H' v x
 | _,_, .non=> .non
 | _,_, .bl b=> .bl b
 | _,_, .int i=> .int i
 | _,_, .str x=> .str x
 | _,_, .ty n=> .ty n
 | _,_, .tup (a:=a) (vs:=vs) h r=>by
   refine .tup (vs:=vs) ?_ (A7.mv m r);rcases h with h|h
   .obtain ⟨t,u⟩:=m.va.noTup (.inl h);exact .inl (m.keep _ _ t u h)
   .exact .inr h
 | _,_, .lst (a:=a) h t u r=> .lst (m.keep _ _ t u h) (λz=>t (m.tn a (by rw[h];exact λe=>nomatch e) z)) (λz=>u (m.mn a (by rw[h];exact λe=>nomatch e) z)) (A7.mv m r)
 | _,_, .tape t=> .tape (m.sub _ t)
 | _,_, .dct (a:=a) h t u=> .dct (m.keep _ _ t u h) (λz=>t (m.tn a (by rw[h];exact λe=>nomatch e) z)) (λz=>u (m.mn a (by rw[h];exact λe=>nomatch e) z))
 | _,_, .scr (a:=a) (.inl ⟨h,t,u⟩)=> .scr (.inl ⟨qP h λo e=>m.keep _ o t u e,λz=>t (m.tn a (X2 h) z),λz=>u (m.mn a (X2 h) z)⟩)
 | _,_, .scr (.inr h)=> .scr (.inr h)
theorem A7.mv (m:Mv K T M H T' M' H'):∀{vs:km V} {xs:km PV},A7 K T M H vs xs->A7 K T' M' H' vs xs
 | _,_, .nil=> .nil
 | _,_, .cons h t=> .cons (Cc.mv m h) (A7.mv m t)
end
end
def A7.length {K:AAP}{T M:kf->Prop}{H:Hp}:∀{vs:km V} {xs:km PV},A7 K T M H vs xs->vs.length=xs.length
 | _,_, .nil=>rfl
 | _,_, .cons _ t=>by simp[t.length]
theorem A7.get {K:AAP}{T M:kf->Prop}{H:Hp}:∀{vs:km V} {xs:km PV} {i:Nat} {x:PV},A7 K T M H vs xs->xs[i]? =some x->∃v,vs[i]? =some v/\Cc K T M H v x
 | _,_,_,_, .nil,e=>by simp at e
 | _,_,0,_, .cons h _,e=>by simp at e;subst e;exact⟨_,rfl,h⟩
 | _,_,i+1,x, .cons _ t,e=>by obtain⟨u,h1,h2⟩:=A7.get (i:=i) (x:=x) t (by simpa using e);exact⟨u,by simpa using h1,h2⟩
def A7.get' {K:AAP}{T M:kf->Prop}{H:Hp}{vs:km V}{xs:km PV}{i:Nat}{v:V}(h:A7 K T M H vs xs)(e:vs[i]? =some v):∃x,xs[i]? =some x/\Cc K T M H v x:=by have hl:=h.length;have hi:i<vs.length:=(AAw.mp e).1;obtain⟨w,a,r⟩:=h.get (i:=i) (x:=xs[i]'(by omega)) (AAm (by omega));rw[e] at a;cases a;exact⟨_,AAm (by omega),r⟩
def A7.append {K:AAP}{T M:kf->Prop}{H:Hp}:∀{vs a:km V} {xs ys:km PV},A7 K T M H vs xs->A7 K T M H a ys->A7 K T M H (vs++a) (xs++ys)
 | _,_,_,_, .nil,s=>s
 | _,_,_,_, .cons h t,s=> .cons h (t.append s)
def A7.take {K:AAP}{T M:kf->Prop}{H:Hp}:∀{vs:km V} {xs:km PV} (n:Nat),A7 K T M H vs xs->A7 K T M H (vs.take n) (xs.take n)
 | _,_,0,_=> .nil
 | _,_,_+1, .nil=> .nil
 | _,_,n+1, .cons r t=> .cons r (t.take n)
def A7.drop {K:AAP}{T M:kf->Prop}{H:Hp}:∀{vs:km V} {xs:km PV} (n:Nat),A7 K T M H vs xs->A7 K T M H (vs.drop n) (xs.drop n)
 | _,_,0,r=>r
 | _,_,_+1, .nil=> .nil
 | _,_,n+1, .cons _ t=>t.drop n
theorem A7.set {K:AAP}{T M:kf->Prop}{H:Hp}{v:V}{x:PV}(r:Cc K T M H v x):∀{vs:km V} {xs:km PV} (i:Nat),A7 K T M H vs xs->A7 K T M H (vs.set i v) (xs.set i x)
 | _,_,_, .nil=> .nil
 | _,_,0, .cons _ t=> .cons r t
 | _,_,i+1, .cons q t=> .cons q (A7.set r i t)
def A7.nil_iff {K:AAP}{T M:kf->Prop}{H:Hp}{vs:km V}{xs:km PV}(h:A7 K T M H vs xs):vs= [] ↔xs= [] :=by cases h <;> simp
def A7.reverse {K:AAP}{T M:kf->Prop}{H:Hp}{vs:km V}{xs:km PV}(h:A7 K T M H vs xs):A7 K T M H vs.reverse xs.reverse:=by
 induction vs generalizing xs with
 | nil=>cases h;exact .nil
 | cons v vs ih=>
   cases h with
   | cons h t=>rw[AC2,AC2];exact(ih t).append (.cons h .nil)
structure De (T:Addr->Prop) (H:Hp) (T':Addr->Prop) (H':Hp):Prop where
 keep:∀b o,¬T b->H b=some o->H' b=some o
 sub:∀b,T b->T' b
 new:∀b,T' b->T b\/H b=none
 tp:∀a,T' a->E7 H' a
def De.refl {T:kf->Prop}{H:Hp}(h:∀a,T a->E7 H a):De T H T H:=⟨λ_ _ _ e=>e,λ_ e=>e,λ_ e=> .inl e,h⟩
def De.some {T c:kf->Prop}{H a:Hp}(s:De T H c a){b:kf}(h:H b≠none):a b≠none:=by
 by_cases t:T b
 .obtain ⟨o,e,_⟩:=(s.tp b (s.sub b t)).mut;rw[e];exact λe=>nomatch e
 .cases e:H b with
  | none=>exact absurd e h
  | some o=>rw[s.keep b o t e];exact λe=>nomatch e
def De.none {T c:kf->Prop}{H a:Hp}(s:De T H c a){b:kf}(h:a b=none):H b=none:=by
 cases e:H b with
 | none=>rfl
 | some o=>exact absurd h (s.some (by rw[e];exact λe=>nomatch e))
def De.trans {T d f:kf->Prop}{H g h:Hp}(a:De T H d g)(b:De d g f h):De T H f h where
 keep:=λc o t e=>b.keep c o (λz=>(a.new c z).elim t λn=>by rw[n] at e;cases e) (a.keep c o t e)
 sub:=λc t=>b.sub c (a.sub c t)
 new:=λc t=>(b.new c t).elim (λz=>a.new c z) λz=> .inr (a.none z)
 tp:=b.tp
def De.lay {T:kf->Prop}{H:Hp}{p:kf}{o:HO}(h:∀a,T a->E7 H a)(hp:H p=Option.none):De T H T (upd H p o) where
 keep:=λb u _ e=>by rw[Al (A2 e hp)];exact e
 sub:=λ_ t=>t
 new:=λ_ t=> .inl t
 tp:=λa t=>by obtain⟨d,x,e,z⟩:=h a t;exact⟨d,x,by rw[Al (A2 e hp)];exact e,z⟩
def De.mv {K:AAP}{T a M:kf->Prop}{H c:Hp}(s:De T H a c)(v:HN T M H):Mv K T M H a M c where
 va:=v
 keep:=λb o t _ e=>s.keep b o t e
 sub:=s.sub
 tn:=λb n t=>(s.new b t).elim id λz=>absurd z n
 mn:=λ_ _ z=>z
def HN.stp {T b M:kf->Prop}{H c:Hp}(v:HN T M H)(s:De T H b c)(d:∀a,M a->¬T a):HN b M c:=
 ⟨s.tp,λa m=>let ⟨o,e,q⟩:=v.mu a m;⟨o,s.keep a o (d a m) e,q⟩⟩
def Cc.stp {K:AAP}{T a M:kf->Prop}{H b:Hp}{v:V}{x:PV}(r:Cc K T M H v x)(s:De T H a b)(va:HN T M H):Cc K a M b v x:=r.mv (s.mv va)
def A7.stp {K:AAP}{T a M:kf->Prop}{H b:Hp}{v:km V}{x:km PV}(r:A7 K T M H v x)(s:De T H a b)(va:HN T M H):A7 K a M b v x:=r.mv (s.mv va)
def Mv.anti {K:AAP}{T M c:kf->Prop}{H:Hp}(v:HN T M H)(h:∀a,c a->M a):Mv K T M H T c H:=⟨v,λ_ _ _ _ e=>e,λ_ t=>t,λ_ _ t=>t,λb _ t=>h b t⟩
inductive AV where
 | val (x:PV)
 | own (xs:List PV)
abbrev BD:=km (ke AV)
structure DG where
 T:Addr->Prop
 H:Hp
 M:Addr->Prop
def DG.add (B:DG)(p:kf):DG:=⟨B.T,B.H,λa=>B.M a\/a=p⟩
def DT (a:L2.St)(τ:BD)(p:kf):Prop:=∃(i:Nat) (xs:km PV),τ[i]? =some (some (.own xs))/\a[i]? =some (some (.ref p))
def mt (B:DG)(a:L2.St)(τ:BD)(p:kf):Prop:=B.M p\/DT a τ p
structure SR (K:AAP) (B:DG) (T:Addr->Prop) (H:Hp) (σ:L2.St) (τ:BD):Prop where
 len:σ.length=τ.length
 val:∀(i:Nat) (x:PV),τ[i]? =some (some (.val x))->∃v,σ[i]? =some (some v)/\Cc K T (mt B σ τ) H v x
 own:∀(i:Nat) (xs:List PV),τ[i]? =some (some (.own xs))->∃p vs,σ[i]? =some (some (.ref p))/\H p=some (.lst vs)/\A7 K T (mt B σ τ) H vs xs/\B.H p=none/\¬T p/\¬B.M p
 dist:∀(i j:Nat) (xs ys:List PV) (p:Addr),τ[i]? =some (some (.own xs))->τ[j]? =some (some (.own ys))->σ[i]? =some (some (.ref p))->σ[j]? =some (some (.ref p))->i=j
 tp:∀a,T a->E7 H a
 bm:∀a,B.M a->∃o,H a=some o/\LL o
 bt:∀a,B.M a->¬T a
 st:De B.T B.H T H
section
variable {K:AAP}{B:DG}{T T':kf->Prop}{H H':Hp}{σ:L2.St}{τ:BD}
def SR.ownH (s:SR K B T H σ τ){p:kf}(o:DT σ τ p):∃vs,H p=some (.lst vs)/\B.H p=none/\¬T p/\¬B.M p:=by obtain⟨i,xs,h1,h2⟩:=o;obtain⟨q,vs,e,h,_,b,t,m⟩:=s.own i xs h1;rw[h2] at e;cases e;exact⟨vs,h,b,t,m⟩
def SR.va (s:SR K B T H σ τ):HN T (mt B σ τ) H:=⟨s.tp,λa m=>m.elim (s.bm a) λo=>let ⟨vs,h,_⟩:=s.ownH o;⟨_,h,LL.lst⟩⟩
def SR.nt (s:SR K B T H σ τ){a:kf}(m:mt B σ τ a):¬T a:=m.elim (s.bt a) λo=>let ⟨_,_,_,t,_⟩:=s.ownH o;t
def SR.stp (s:SR K B T H σ τ)(p:De T H T' H'):SR K B T' H' σ τ where
 len:=s.len
 val:=λi x e=>let ⟨v,h,r⟩:=s.val i x e;⟨v,h,r.stp p s.va⟩
 own:=λi xs e=>by obtain⟨q,vs,c,h,r,b,t,m⟩:=s.own i xs e;exact⟨q,vs,c,p.keep _ _ t h,r.stp p s.va,b,(λz=>(p.new q z).elim t λn=>by rw[n] at h;cases h),m⟩
 dist:=s.dist
 tp:=p.tp
 bm:=λa m=>let ⟨o,e,q⟩:=s.bm a m;⟨o,p.keep a o (s.bt a m) e,q⟩
 bt:=λa m z=>by obtain⟨o,e,_⟩:=s.bm a m;exact(p.new a z).elim (s.bt a m) λn=>by rw[n] at e;cases e
 st:=s.st.trans p
def SR.add {p:kf}{o:HO}(s:SR K B T H σ τ)(q:De T H T' H')(hn:H p=none)(j:H' p=some o)(k:LL o)(l:¬T' p):SR K (B.add p) T' H' σ τ:=by
 have c:=s.stp q;have f:Mv K T (mt B σ τ) H T' (mt (B.add p) σ τ) H':=⟨s.va,λb o t _ e=>q.keep b o t e,q.sub,λb n t=>(q.new b t).elim id λz=>absurd z n,λb n z=>by
  rcases z with(z|z)|z
  .exact .inl z
  .subst z;exact absurd hn n
  .exact .inr z⟩
 refine⟨s.len,λi x e=> ?_,λi xs e=> ?_,s.dist,c.tp,λa m=> ?_,λa m=> ?_,c.st⟩
 .obtain ⟨v,h,r⟩:=s.val i x e;exact⟨v,h,r.mv f⟩
 .obtain ⟨a,vs,g,h,r,b,t,m⟩:=s.own i xs e;obtain⟨w,u,d,h',_,y,t',A⟩:=c.own i xs e;rw[g] at d;cases d;rw[q.keep _ _ t h] at h';cases h';refine⟨a,vs,g,q.keep _ _ t h,r.mv f,b,t',λz=> ?_⟩;rcases z with z|z
  .exact m z
  .subst z;rw[hn] at h;cases h
 .rcases m with m|m
  .exact c.bm a m
  .subst m;exact⟨o,j,k⟩
 .rcases m with m|m
  .exact c.bt a m
  .subst m;exact l
def SR.drop {p:kf}(s:SR K (B.add p) T H σ τ):SR K B T H σ τ:=by have c:Mv K T (mt (B.add p) σ τ) H T (mt B σ τ) H:= .anti s.va λa m=>m.elim (λz=> .inl (.inl z)) .inr;refine⟨s.len,λi x e=>let ⟨v,h,r⟩:=s.val i x e;⟨v,h,r.mv c⟩,λi xs e=> ?_,s.dist,s.tp,λa m=>s.bm a (.inl m),λa m=>s.bt a (.inl m),s.st⟩;obtain⟨a,vs,d,h,r,b,t,m⟩:=s.own i xs e;exact⟨a,vs,d,h,r.mv c,b,t,λz=>m (.inl z)⟩
end
def gG:ke AV->ke AV
 | some (.own xs)=>some (.val (.lst xs))
 | o=>o
def frz (τ:BD):BD:=τ.map gG
def XY {τ:BD}{i:Nat}:(frz τ)[i]? =(τ[i]?).map gG:=by simp[frz]
def gH {τ:BD}{i:Nat}{x:PV}(h:(frz τ)[i]? =some (some (.val x))):τ[i]? =some (some (.val x))\/∃xs,x= .lst xs/\τ[i]? =some (some (.own xs)):=by
 rw[XY] at h;cases e:τ[i]? with
 | none=>rw[e] at h;cases h
 | some o=>
   rw[e] at h;cases o with
   | none=>cases h
   | some a=>
     cases a with
     | val y=>cases h;exact .inl rfl
     | own xs=>cases h;exact .inr ⟨xs,rfl,rfl⟩
def RL {τ:BD}{i:Nat}{xs:km PV}:(frz τ)[i]? ≠some (some (.own xs)):=by
 rw[XY];cases e:τ[i]? with
 | none=>exact λz=>nomatch z
 | some o=>
   cases o with
   | none=>exact λz=>nomatch z
   | some a=>cases a <;> exact λz=>nomatch z
def Ub {a:L2.St}{τ:BD}{p:kf}:¬DT a (frz τ) p:=λ⟨_,_,h,_⟩=>RL h
section
variable {K:AAP}{B:DG}{T T':kf->Prop}{H H':Hp}{σ:L2.St}{τ:BD}
def SR.frz (s:SR K B T H σ τ):SR K B T H σ (frz τ):=by
 have d:Mv K T (mt B σ τ) H T (mt B σ (PL.frz τ)) H:= .anti s.va λa m=>m.elim .inl λz=>absurd z Ub;refine⟨by simp[PL.frz,s.len],λi x e=> ?_,λi xs e=>absurd e RL,λi j xs ys p e=>absurd e RL,s.tp,s.bm,s.bt,s.st⟩;rcases gH e with c|⟨xs,f,c⟩
 .obtain ⟨v,h,r⟩:=s.val i x c;exact⟨v,h,r.mv d⟩
 .subst f;obtain⟨p,vs,g,h,r,b,t,m⟩:=s.own i xs c;exact⟨.ref p,g, .lst h t (λz=>z.elim m Ub) (r.mv d)⟩
end
mutual
def cT:PV->kc
 | .lst _=>false
 | .tape=>false
 | .scr _=>false
 | .dct _=>false
 | .tup xs=>gu xs
 | _=>true
def gu:km PV->kc
 | [] =>true
 | x::xs=>cT x&&gu xs
end
section
variable {K:AAP}{T M M':kf->Prop}{H:Hp}
mutual
theorem Cc.free:∀{v:V} {x:PV},cT x=true->Cc K T M H v x->Cc K T M' H v x
 | _,_,_, .non=> .non
 | _,_,_, .bl b=> .bl b
 | _,_,_, .int i=> .int i
 | _,_,_, .str x=> .str x
 | _,_,_, .ty n=> .ty n
 | _,_,n, .tup h r=> .tup h (A7.free (by rw[cT] at n;exact n) r)
 | _,_,n, .lst _ _ _ _=>by rw[cT] at n;cases n
 | _,_,n, .tape _=>by rw[cT] at n;cases n
 | _,_,n, .scr _=>by rw[cT] at n;cases n
 | _,_,n, .dct _ _ _=>by rw[cT] at n;cases n
theorem A7.free:∀{vs:km V} {xs:km PV},gu xs=true->A7 K T M H vs xs->A7 K T M' H vs xs
 | _,_,_, .nil=> .nil
 | _,_,n, .cons h t=>by rw[gu,AAh] at n;exact .cons (Cc.free n.1 h) (A7.free n.2 t)
end
end
abbrev AE:=BD->(PV->Prop)->Prop
abbrev AT:=BD->(kc->Prop)->Prop
abbrev AA:=BD->(km PV->Prop)->Prop
abbrev AF:=km PV->(PV->Prop)->Prop
def Su:BD->Nat->ke AV
 | [],_=>none
 | x::_,0=>x
 | _::r,n+1=>Su r n
theorem OH:∀{τ:BD} {i:Nat} {a:AV},Su τ i=some a->τ[i]? =some (some a)
 | [],_,_,h=>by simp[Su] at h
 | x::_,0,_,h=>by simpa[Su] using h
 | _::r,n+1,a,h=>by have:=OH (τ:=r) (i:=n) (a:=a) (by simpa[Su] using h);simpa using this
def fJ (x:PV)(R:Int->Prop):Prop:=match x with | .int i=>R i|_=>False
def ZP (x y:PV)(R:Int->Int->Prop):Prop:=match x,y with | .int i, .int j=>R i j|_,_=>False
def hI (x:PV)(R:kc->Prop):Prop:=match x with | .bl b=>R b|_=>False
def ZQ (o:ke PV)(R:PV->Prop):Prop:=match o with | some z=>R z|none=>False
def lb {o:ke PV}{R:PV->Prop}(h:ZQ o R):∃z,o=some z/\R z:=by cases o <;> first | exact⟨_,rfl,h⟩|exact h.elim
def Ua (x:PV)(R:km PV->Prop):Prop:=match x with | .tup xs=>R xs | .lst xs=>R xs|_=>False
def Rq {x:PV}{R:Int->Prop}(h:fJ x R):∃i,x= .int i/\R i:=by cases x <;> first | exact⟨_,rfl,h⟩|exact h.elim
def M9 {x y:PV}{R:Int->Int->Prop}(h:ZP x y R):∃i j,x= .int i/\y= .int j/\R i j:=by cases x <;> cases y <;> first | exact⟨_,_,rfl,rfl,h⟩|exact h.elim
def Rp {x:PV}{R:kc->Prop}(h:hI x R):∃b,x= .bl b/\R b:=by cases x <;> first | exact⟨_,rfl,h⟩|exact h.elim
def JT {x:PV}{R:km PV->Prop}(h:Ua x R):∃xs,(x= .tup xs\/x= .lst xs)/\R xs:=by cases x <;> first | exact⟨_, .inl rfl,h⟩|exact⟨_, .inr rfl,h⟩|exact h.elim
def Cc.toI {K:AAP}{T M:kf->Prop}{H:Hp}{v:V}{i:Int}(r:Cc K T M H v (.int i)):v= .int i:=by cases r;rfl
def Cc.toB {K:AAP}{T M:kf->Prop}{H:Hp}{v:V}{i:kc}(r:Cc K T M H v (.bl i)):v= .bl i:=by cases r;rfl
def E6 (K:AAP)(t:TE)(a:AE):Prop:=∀(B:DG) (T:kf->Prop) (b:L2.St) (τ:BD) (H:Hp) (Q:VK) (d:PV->Prop),SR K B T H b τ->a τ d->
 (∀v x e c,De T H e c->Cc K e (mt B b τ) c v x->d x->Q v c)->t b H Q
def Me (K:AAP)(t:TT)(a:AT):Prop:=∀(B:DG) (T:kf->Prop) (c:L2.St) (τ:BD) (H:Hp) (Q:kc->Hp->Prop) (d:kc->Prop),SR K B T H c τ->a τ d->
 (∀b f e,De T H f e->d b->Q b e)->t c H Q
def j9 (K:AAP)(t:TA)(a:AA):Prop:=∀(B:DG) (T:kf->Prop) (b:L2.St) (τ:BD) (H:Hp) (Q:km V->Hp->Prop) (d:km PV->Prop),SR K B T H b τ->a τ d->
 (∀vs xs e c,De T H e c->A7 K e (mt B b τ) c vs xs->d xs->Q vs c)->t b H Q
def aQ (K:AAP)(t:TE)(a:AA):Prop:=∀(B:DG) (T:kf->Prop) (c:L2.St) (τ:BD) (H:Hp) (Q:VK) (e:km PV->Prop),SR K B T H c τ->a τ e->
 (∀p vs xs d b,De T H d b->SR K (B.add p) d b c τ->H p=none->b p=some (.lst vs)->¬d p->A7 K d (mt (B.add p) c τ) b vs xs->e xs->Q (.ref p) b)->t c H Q
def SE (X:Cx)(e:kd)(a:AE):Prop:=∃t,PE X e t/\E6 X.K t a
def RC (X:Cx)(e:kd)(a:AT):Prop:=∃t,PT X e t/\Me X.K t a
def SW (X:Cx)(e:kd)(a:AT):Prop:=∃t,PW X e t/\Me X.K t a
def SA (X:Cx)(es:km kd)(a:AA):Prop:=∃t,PA X es t/\j9 X.K t a
def SF (X:Cx)(e:kd)(a:AA):Prop:=∃t,PE X e t/\aQ X.K t a
abbrev HM:=PV->PV->(PV->Prop)->Prop
def Bt (K:AAP)(r:R2)(f:HM):Prop:=∀(T M:kf->Prop) (H:Hp) (u v:V) (x y:PV) (Q:VK) (b:PV->Prop),HN T M H->Cc K T M H u x->Cc K T M H v y->f x y b->
 (∀w z c a,De T H c a->Cc K c M a w z->b z->Q w a)->r u v H Q
def F7 (K:AAP)(r:km V->Hp->VK->Prop)(f:AF):Prop:=∀(T M:kf->Prop) (H:Hp) (b:km V) (xs:km PV) (Q:VK) (c:PV->Prop),HN T M H->A7 K T M H b xs->f xs c->
 (∀w z d a,De T H d a->Cc K d M a w z->c z->Q w a)->r b H Q
section
variable {X:Cx}{a b c:kd}{es:km kd}{pos:Pos}{ta tb:AE}{tA tB':AT}
def aV (i:Nat):AE:=λτ Q=>match Su τ i with | some (.val x)=>Q x|_=>False
def oJ {i:Nat}{τ:BD}{Q:PV->Prop}(h:aV i τ Q):∃x,τ[i]? =some (some (.val x))/\Q x:=by
 unfold aV at h;cases e:Su τ i with
 | none=>rw[e] at h;exact h.elim
 | some z=>
   rw[e] at h;cases z with
   | own xs=>exact h.elim
   | val x=>exact⟨x,OH e,h⟩
def AJ (i:Nat){x:Str}{pos:Pos}(hN:X.N[i]? =some x:=by rfl)(hv:kB X.env.scope x:=by first | exact Or.inl rfl|exact Or.inr (Or.inl rfl)|exact Or.inr (Or.inr rfl))(hd:(x==("__debug__" :Str))=false:=by decide)(d:(x==("__classdict__" :Str))=false:=by decide):SE X (.Name x pos) (aV i):=by refine⟨_,Rs hN hv hd d,λB T g τ H Q j s h k=> ?_⟩;obtain⟨x,e,q⟩:=oJ h;obtain⟨v,f,r⟩:=s.val i x e;exact⟨v,f,k v x T H (.refl s.tp) r q⟩
def aC (x:PV):AE:=λ_ Q=>Q x
def Ux {v:V}{x:PV}(h:∀T M H,Cc X.K T M H v x):E6 X.K (tC v) (aC x):=λB T d τ H Q e s h' k=>k v x T H (.refl s.tp) (h _ _ _) h'
def AH {i:Int}{j pos}:SE X (.Constant (.int i) j pos) (aC (.int i)):=⟨_,BC,Ux λ_ _ _=> .int i⟩
def Cg {i:kc}{j pos}:SE X (.Constant (.bool i) j pos) (aC (.bl i)):=⟨_,cz,Ux λ_ _ _=> .bl i⟩
def C5 {j pos}:SE X (.Constant .none j pos) (aC .non):=⟨_,c9,Ux λ_ _ _=> .non⟩
def Gv {i:Str}{j pos}:SE X (.Constant (.str i) j pos) (aC (.str i)):=⟨_,mB,Ux λ_ _ _=> .str i⟩
def MQ {x:Str}{n:String}{u:kj}{pos:Pos}(d:Gl X x)(e:X.mg x=none)(hv:bootBuiltins x=some u)(r:RelV (.ty n) u)(hn:x≠"__name__" :=by decide)(hd:(x==("__debug__" :Str))=false:=by decide):SE X (.Name x pos) (aC (.ty n)):=
 ⟨_,DD (v:= .ty n) d e hv r hn hd,Ux λ_ _ _=> .ty n⟩
def AY (f:HM)(ta tb:AE):AE:=λτ Q=>ta τ λx=>tb τ λy=>f x y Q
def SQ {r:R2}{f:HM}{t u:TE}(i:Bt X.K r f)(ha:E6 X.K t ta)(hb:E6 X.K u tb):E6 X.K (i6 r t u) (AY f ta tb):=by intro B T g τ H Q j s h k;refine ha B T g τ H _ _ s h λv x l m d r1 h1=> ?_;refine hb B l g τ m _ _ (s.stp d) h1 λw y n o e r2 h2=> ?_;have p:=(s.stp d).stp e;exact i n _ o v w x y Q j p.va (r1.stp e (s.stp d).va) r2 h2 λw z T3 A C D q=>k w z T3 A ((d.trans e).trans C) D q
def Af {op:Operator}{r:R2}{f:HM}(d:EB X (binaryOp op) r/\Bt X.K r f)(ha:SE X a ta)(hb:SE X b tb):SE X (.BinOp a op b pos) (AY f ta tb):=
 let ⟨_,p,s⟩:=ha;let ⟨_,e,g⟩:=hb;⟨_,CS d.1 p e,SQ d.2 s g⟩
def Dg {op:CmpOp}{r:R2}{f:HM}(d:EB X (compareOp op) r/\Bt X.K r f)(ha:SE X a ta)(hb:SE X b tb)(e:behindInMarks op b=false):SE X (.Compare a [op] [b] pos) (AY f ta tb):=
 let ⟨_,p,s⟩:=ha;let ⟨_,g,h⟩:=hb;⟨_,Xx d.1 p g e,SQ d.2 s h⟩
def qb {r:R2}{f:HM}(d:fZ X r/\Bt X.K r f)(ha:SE X a ta)(hb:SE X b tb)(hs:RA b):SE X (.Subscript a b pos) (AY f ta tb):=
 let ⟨_,p,s⟩:=ha;let ⟨_,e,g⟩:=hb;⟨_,MM d.1 p e hs,SQ d.2 s g⟩
def fI (g:Int->Int->PV):HM:=λx y Q=>ZP x y λi j=>Q (g i j)
def nH (C:Int->Int->Prop)(g:Int->Int->PV):HM:=λx y Q=>ZP x y λi j=>C i j/\Q (g i j)
def Uw {g:Int->Int->V}{g':Int->Int->PV}(d:∀i j T M H,Cc X.K T M H (g i j) (g' i j)):Bt X.K (OW g) (fI g'):=by intro T M H u v x y Q f va e rv h k;obtain⟨i,j,rfl,rfl,q⟩:=M9 h;exact⟨i,j,e.toI,rv.toI,k _ _ T H (.refl va.tp) (d i j T M H) q⟩
def SJ {C:Int->Int->Prop}{g:Int->Int->V}{g':Int->Int->PV}(d:∀i j T M H,Cc X.K T M H (g i j) (g' i j)):Bt X.K (rI C g) (nH C g'):=by intro T M H u v x y Q f va e rv h k;obtain⟨i,j,rfl,rfl,c,q⟩:=M9 h;exact⟨i,j,e.toI,rv.toI,c,k _ _ T H (.refl va.tp) (d i j T M H) q⟩
abbrev oW:HM:=fI λi j=> .int (i+j)
abbrev GX:HM:=fI λi j=> .int (i-j)
abbrev bC:HM:=fI λi j=> .bl (decide (i<j))
abbrev wC:HM:=fI λi j=> .bl (decide (i<=j))
abbrev jL:HM:=fI λi j=> .bl (decide (j<i))
abbrev kN:HM:=fI λi j=> .bl (decide (j<=i))
def Cm:EB X (binaryOp .Sub) (OW λi j=> .int (i-j))/\Bt X.K (OW λi j=> .int (i-j)) GX:=⟨WO,Uw λi j _ _ _=> .int _⟩
def IF:EB X (compareOp .Lt) (OW λi j=> .bl (decide (i<j)))/\Bt X.K (OW λi j=> .bl (decide (i<j))) bC:=⟨jZ,Uw λi j _ _ _=> .bl _⟩
def qh:EB X (compareOp .LtE) (OW λi j=> .bl (decide (i<=j)))/\Bt X.K (OW λi j=> .bl (decide (i<=j))) wC:=⟨qA,Uw λi j _ _ _=> .bl _⟩
def QV:EB X (compareOp .Gt) (OW λi j=> .bl (decide (j<i)))/\Bt X.K (OW λi j=> .bl (decide (j<i))) jL:=⟨jY,Uw λi j _ _ _=> .bl _⟩
def QU:EB X (compareOp .GtE) (OW λi j=> .bl (decide (j<=i)))/\Bt X.K (OW λi j=> .bl (decide (j<=i))) kN:=⟨jX,Uw λi j _ _ _=> .bl _⟩
structure MulOk (i j:Int):Prop where
 l:i.natAbs<2^1000000
 r:j.natAbs<2^1000000
def hZ:EB X (binaryOp .Mult) (rI MulOk λi j=> .int (i*j)):=lc λ_ _ _ _ _ _ _ hc q=>mul_int q (.of_le (IM hc.l) (IM hc.r) (by decide))
abbrev DH:HM:=nH MulOk λi j=> .int (i*j)
def BK:EB X (binaryOp .Mult) (rI MulOk λi j=> .int (i*j))/\Bt X.K (rI MulOk λi j=> .int (i*j)) DH:=⟨hZ,SJ λi j _ _ _=> .int _⟩
structure TU (i j:Int):Prop where
 ne:j≠0
 lt:j.natAbs<2^8900
def cm:EB X (binaryOp .FloorDiv) (rI TU λi j=> .int (i.fdiv j)):=lc λi j _ _ _ _ _ hc q=>
 floordiv_int hc.ne q (.inl (AED (ABv (Kb hc.lt (by decide)) (by decide))))
abbrev PB:HM:=nH TU λi j=> .int (i.fdiv j)
def Et:EB X (binaryOp .FloorDiv) (rI TU λi j=> .int (i.fdiv j))/\Bt X.K (rI TU λi j=> .int (i.fdiv j)) PB:=⟨cm,SJ λi j _ _ _=> .int _⟩
abbrev Vo:HM:=nH (λ_ j=>j≠0) λi j=> .int (i.fmod j)
def Sa:EB X (binaryOp .Mod) (rI (λ_ j=>j≠0) λi j=> .int (i.fmod j))/\Bt X.K (rI (λ_ j=>j≠0) λi j=> .int (i.fmod j)) Vo:=⟨hV,SJ λi j _ _ _=> .int _⟩
abbrev oX:HM:=nH fQ λi j=> .int (i^j.toNat)
def mj:EB X (binaryOp .Pow) (rI fQ λi j=> .int (i^j.toNat))/\Bt X.K (rI fQ λi j=> .int (i^j.toNat)) oX:=⟨cn,SJ λi j _ _ _=> .int _⟩
def rQ:PV->kc | .non=>true|_=>false
def Vn:HM:=λx y Q=>match y with | .non=>Q (.bl (rQ x))|_=>False
def To:HM:=λx y Q=>match y with | .non=>Q (.bl (!rQ x))|_=>False
def Xi {K:AAP}{T M:kf->Prop}{H:Hp}{v:V}{x:PV}(r:Cc K T M H v x):decide (v= .non)=rQ x:=by cases r <;> simp[rQ]
def SZ:EB X (compareOp .Is) (λx y H Q=>y= .non/\Q (.bl (decide (x= .non))) H)/\Bt X.K (λx y H Q=>y= .non/\Q (.bl (decide (x= .non))) H) Vn:=by
 refine⟨ln,λT M H u v x y Q e va d rv h k=> ?_⟩;cases y <;> first | exact h.elim|skip
 cases rv;refine⟨rfl, ?_⟩;rw[Xi d];exact k _ _ T H (.refl va.tp) (.bl _) h
def YE:EB X (compareOp .IsNot) (λx y H Q=>y= .non/\Q (.bl (!decide (x= .non))) H)/\Bt X.K (λx y H Q=>y= .non/\Q (.bl (!decide (x= .non))) H) To:=by
 refine⟨Xs,λT M H u v x y Q e va d rv h k=> ?_⟩;cases y <;> first | exact h.elim|skip
 cases rv;refine⟨rfl, ?_⟩;rw[Xi d];exact k _ _ T H (.refl va.tp) (.bl _) h
def Ai:HM:=λx y Q=>Ua x λxs=>fJ y λi=>ZQ (HK xs i) Q
def XB {K:AAP}{T M:kf->Prop}{H:Hp}{vs:km V}{xs:km PV}{i:Int}{z:PV}(r:A7 K T M H vs xs)(h:HK xs i=some z):∃v,HK vs i=some v/\Cc K T M H v z:=by
 unfold HK at h ⊢;rw[r.length];cases e:V3 xs.length i with
 | none=>rw[e] at h;cases h
 | some j=> rw[e] at h;exact r.get h
def qK (K:AAP):R2:=λx y H Q=>qJ K x y H Q\/qL K x y H Q
def qg:fZ X (qK X.K)/\Bt X.K (qK X.K) Ai:=by
 refine⟨FU.or lD,λT M H u v x y Q g va f rv h k=> ?_⟩;obtain⟨xs,hx,h1⟩:=JT h;obtain⟨i,rfl,h2⟩:=Rq h1;cases rv.toI;obtain⟨z,e,q⟩:=lb h2;rcases hx with rfl|rfl
 .cases f with
  | tup hq r=> obtain⟨w,ew,d⟩:=XB r e;exact .inr ⟨_,_,i,w,rfl,rfl,hq.sq,ew,k w z T H (.refl va.tp) d q⟩
 .cases f with
  | lst hq t m r=> obtain⟨w,ew,d⟩:=XB r e;exact .inl ⟨_,_,i,w,rfl,rfl, .inl (.inl hq),ew,k w z T H (.refl va.tp) d q⟩
def Mh (f:PV->(PV->Prop)->Prop)(ta:AE):AE:=λτ Q=>ta τ λx=>f x Q
def E9 (x:PV)(Q:PV->Prop):Prop:=fJ x λi=>Q (.int (-i))
def CC (ha:SE X a ta):SE X (.UnaryOp .USub a pos) (Mh E9 ta):=by obtain⟨t,p,s⟩:=ha;refine⟨_,qF m9 p,λB T d τ H Q l e h k=>s B T d τ H _ _ e h λv x f g j r1 h1=> ?_⟩;obtain⟨i,rfl,q⟩:=Rq h1;exact⟨i,r1.toI,k _ _ f g j (.int _) q⟩
def kO (x:PV)(Q:PV->Prop):Prop:=hI x λi=>Q (.bl (!i))
def di (ha:SE X a ta):SE X (.UnaryOp .Not a pos) (Mh kO ta):=by obtain⟨t,p,s⟩:=ha;refine⟨_,l8 p,λB T d τ H Q l e h k=>s B T d τ H _ _ e h λv x f g j r1 h1=> ?_⟩;obtain⟨i,rfl,q⟩:=Rp h1;exact⟨i,r1.toB,k _ _ f g j (.bl _) q⟩
def Yc (ta tb:AE):AE:=λτ Q=>ta τ λx=>hI x λc=>if c=true then tb τ Q else Q (.bl false)
def Oj {op}(h:SE X a ta):SE X (.BoolOp op [a] pos) ta:=let ⟨_,p,s⟩:=h;⟨_,l9 p,s⟩
def Oi {rest:km kd}(ha:SE X a ta)(hb:SE X (.BoolOp .And (b::rest) pos) tb):SE X (.BoolOp .And (a::b::rest) pos) (Yc ta tb):=by
 obtain⟨t,p,s⟩:=ha;obtain⟨t',l,m⟩:=hb;refine⟨_,ly p l,λB T e τ H Q u f h k=>s B T e τ H _ _ f h λv x g j d r1 h1=> ?_⟩;obtain⟨i,rfl,q⟩:=Rp h1;refine⟨i,r1.toB, ?_⟩;cases i with
 | true=>rw[AAR rfl] at q ⊢;exact m B g e τ j _ _ (f.stp d) q λw y n o r r2 h2=>k w y n o (d.trans r) r2 h2
 | false=>rw[AAQ AAe] at q ⊢;exact k _ _ g j d (.bl _) q
def Aj (ta:AE):AT:=λτ Q=>ta τ λx=>hI x Q
def NF {t:TE}(s:E6 X.K t ta):Me X.K (YJ t) (Aj ta):=λB T d τ H Q l e h k=>s B T d τ H _ _ e h λv x f g j r1 h1=>by obtain⟨i,rfl,q⟩:=Rp h1;exact⟨i,r1.toB,k _ f g j q⟩
def eG {op:CmpOp}{r:R2}{f:HM}(d:EB X (compareOp op) r/\Bt X.K r f)(ha:SE X a ta)(hb:SE X b tb)(e:behindInMarks op b=false):RC X (.Compare a [op] [b] pos) (Aj (AY f ta tb)):=
 let ⟨_,p,s⟩:=ha;let ⟨_,g,h⟩:=hb;⟨_,NB d.1 p g e,NF (SQ d.2 s h)⟩
def Av {e:kd}(h:SE X e ta)(he:∀whole,isTrue e X.env whole=(do let v <-whole;standAt e.pos;holding [v] (truthy v)):=by intro _;rfl):RC X e (Aj ta):=
 let ⟨_,p,s⟩:=h;⟨_,mH p he,NF s⟩
def B2 (t:AT):AT:=λτ Q=>t τ λc=>Q (!c)
def KC (t u:AT):AT:=λτ Q=>t τ λc=>if c=true then u τ Q else Q false
def D9 (t u:AT):AT:=λτ Q=>t τ λc=>if c=true then Q true else u τ Q
def BZ (ha:RC X a tA):RC X (.UnaryOp .Not a pos) (B2 tA):=by obtain⟨t,p,s⟩:=ha;exact⟨_,mF p,λB T d τ H Q j e h k=>s B T d τ H _ _ e h λv f g i h1=>k _ f g i h1⟩
def IT (ha:RC X a tA):SW X (.BoolOp .And [a] pos) tA:=let ⟨_,p,s⟩:=ha;⟨_,iP p,s⟩
def Cn (ha:RC X a tA):SW X (.BoolOp .Or [a] pos) tA:=let ⟨_,p,s⟩:=ha;⟨_,mJ p,s⟩
def L7 {rest:km kd}(ha:RC X a tA)(hb:SW X (.BoolOp .And (b::rest) pos) tB'):SW X (.BoolOp .And (a::b::rest) pos) (KC tA tB'):=by
 obtain⟨t,p,s⟩:=ha;obtain⟨t',l,m⟩:=hb;refine⟨_,mI p l,λB T e τ H Q u f h k=>s B T e τ H _ _ f h λi g j d q=> ?_⟩;cases i with
 | true=>rw[AAR rfl] at q ⊢;exact m B g e τ j _ _ (f.stp d) q λb n o r h2=>k b n o (d.trans r) h2
 | false=>rw[AAQ AAe] at q ⊢;exact k _ g j d q
def CU {rest:km kd}(ha:RC X a tA)(hb:SW X (.BoolOp .Or (b::rest) pos) tB'):SW X (.BoolOp .Or (a::b::rest) pos) (D9 tA tB'):=by
 obtain⟨t,p,s⟩:=ha;obtain⟨t',l,m⟩:=hb;refine⟨_,qG p l,λB T e τ H Q u f h k=>s B T e τ H _ _ f h λi g j d q=> ?_⟩;cases i with
 | false=>rw[AAQ AAe] at q ⊢;exact m B g e τ j _ _ (f.stp d) q λb n o r h2=>k b n o (d.trans r) h2
 | true=>rw[AAR rfl] at q ⊢;exact k _ g j d q
def Eu (h:SW X a tA):RC X a tA:=let ⟨_,p,s⟩:=h;⟨_,p.pt,s⟩
def fF (t:AT)(ta tb:AE):AE:=λτ Q=>t τ λc=>if c=true then ta τ Q else tb τ Q
def MP (hc:RC X c tA)(ha:SE X a ta)(hb:SE X b tb):SE X (.IfExp c a b pos) (fF tA ta tb):=by
 obtain⟨t,p,s⟩:=hc;obtain⟨t1,p1,e⟩:=ha;obtain⟨t2,p2,f⟩:=hb;refine⟨_,c7 p p1 p2,λB T g τ H Q u j h k=>s B T g τ H _ _ j h λi o r d q=> ?_⟩;cases i with
 | true=>rw[AAR rfl] at q ⊢;exact e B o g τ r _ _ (j.stp d) q λw y l m n r2 h2=>k w y l m (d.trans n) r2 h2
 | false=>rw[AAQ AAe] at q ⊢;exact f B o g τ r _ _ (j.stp d) q λw y l m n r2 h2=>k w y l m (d.trans n) r2 h2
def AL:AA:=λ_ Q=>Q []
def AB (ta:AE)(r:AA):AA:=λτ Q=>ta τ λx=>r τ λxs=>Q (x::xs)
def Ck:SA X [] AL:=⟨_,DJ,λB T e τ H Q f d h k=>k [] [] T H (.refl d.tp) .nil h⟩
def Ak {e:kd}{r:AA}(ha:SE X e ta)(j:SA X es r)(hs:starEach (e::es) X.env=(false,eval e X.env)::starEach es X.env:=by rfl):SA X (e::es) (AB ta r):=by obtain⟨t,p,s⟩:=ha;obtain⟨t',l,m⟩:=j;refine⟨_,BG p l hs,λB T g τ H Q y d h k=>s B T g τ H _ _ d h λv x n o f r1 h1=> ?_⟩;exact m B n g τ o _ _ (d.stp f) h1 λvs xs u w i r2 h2=>k _ _ u w (f.trans i) (.cons (r1.stp i (d.stp f).va) r2) h2
def Ay (r:AA):AE:=λτ Q=>r τ λxs=>xs.length<=sizeLine/\Q (.tup xs)
def AZ {x1}{r:AA}(h:SA X es r):SE X (.Tuple es x1 pos) (Ay r):=by obtain⟨t,p,s⟩:=h;refine⟨_,OT p,λB T f τ H Q i d h k=>s B T f τ H _ _ d h λvs xs g j e r1 h1=>⟨by rw[r1.length];exact h1.1,λq hq=> ?_⟩⟩;have l:=De.lay (o:= .tup vs) (d.stp e).tp hq;exact k _ _ g _ (e.trans l) (.tup (.inl Ah) (r1.stp l (d.stp e).va)) h1.2
def B7 (r:AA):AA:=λτ Q=>r τ λxs=>xs.length<=sizeLine/\Q xs
def Rb {K:AAP}{B:DG}{T:kf->Prop}{H:Hp}{d:L2.St}{τ:BD}{p:kf}{vs:km V}{xs:km PV}(f:SR K B T H d τ)(hq:H p=none)(r:A7 K T (mt B d τ) H vs xs):De T H T (upd H p (.lst vs))/\SR K (B.add p) T (upd H p (.lst vs)) d τ/\¬T p/\A7 K T (mt (B.add p) d τ) (upd H p (.lst vs)) vs xs:=by
 have l:=De.lay (o:= .lst vs) f.tp hq;have g:¬T p:=λz=>by obtain⟨o,e,_⟩:=(f.tp p z).mut;rw[hq] at e;cases e
 refine⟨l,f.add l hq Ah LL.lst g,g,r.mv ⟨f.va,λb o t _ e=>l.keep b o t e,l.sub,λb n t=>t,λb n z=> ?_⟩⟩;rcases z with(z|z)|z
 .exact .inl z
 .subst z;exact absurd hq n
 .exact .inr z
def A4 {r:AA}(h:SA X es r):SF X (.List es pos) (B7 r):=by obtain⟨t,p,s⟩:=h;refine⟨_,c8 p,λB T g τ H Q m f h k=>s B T g τ H _ _ f h λvs xs i n d r1 h1=>⟨by rw[r1.length];exact h1.1,λq hq=> ?_⟩⟩;obtain⟨l,e,j,r2⟩:=Rb (f.stp d) hq r1;exact k q vs xs i _ (d.trans l) e (d.none hq) Ah j r2 h1.2
def DQ (r:AA):AE:=λτ Q=>r τ λxs=>Q (.lst xs)
def dm {t:TE}{r:AA}(s:aQ X.K t r):E6 X.K t (DQ r):=λB T g τ H Q v d h k=>s B T g τ H _ _ d h λp vs xs i j l f hn hp n r1 h1=>by
 have u:¬DT g τ p:=λo=>by obtain⟨_,e,_⟩:=d.ownH o;rw[hn] at e;cases e
 have hb:¬B.M p:=λo=>by obtain⟨_,e,_⟩:=d.bm p o;rw[hn] at e;cases e
 exact k _ _ i j l (.lst hp n (λz=>z.elim hb u) (r1.mv (.anti f.va λa m=>m.elim (λz=> .inl (.inl z)) .inr))) h1
def Bj {r:AA}(h:SF X a r):SE X a (DQ r):=let ⟨_,p,s⟩:=h;⟨_,p,dm s⟩
def CZ (K:AAP)(n:Nat)(F:AF):Sp:=λvs H Q _=>∃(T M:kf->Prop) (xs:km PV) (e:PV->Prop),HN T M H/\(∀a,M a->¬T a)/\A7 K T M H vs xs/\xs.length=n/\F xs e/\
 ∀v x f d,De T H f d->Cc K f M d v x->e x->Q v d
def AR (n:Nat)(F:AF)(r:AA):AE:=λτ Q=>r τ λxs=>xs.length=n/\F xs Q
def AK {x:Str}{p:Pos}{e:kd}{k n:Nat}{ps:km Str}{F:AF}{r:AA}(D:Has X.prog X.w X.K X.mg X.base k x ps (CZ X.K n F))(g:Room k X.A)(i:Gl X x)(ha:SA X (e::es) r)(hs:starEach (e::es) X.env=(false,eval e X.env)::starEach es X.env:=by rfl)(hpl:(backTo pos (starEach es X.env)).any (·.1)=false:=by rfl)(hd:(x==("__debug__" :Str))=false:=by decide):SE X (.Call (.Name x p) (e::es) [] pos) (AR n F r):=by obtain⟨t,j,s⟩:=ha;refine⟨_,l7 D g i j hs hpl hd,λB T l τ H Q o d h k=>s B T l τ H _ _ d h λvs xs u E f r1 h1=> ?_⟩;rw[ABt];exact⟨u,_,xs,o,(d.stp f).va,λa m=>(d.stp f).nt m,r1,h1.1,h1.2,λv x y z C r2 q=>k v x y z (f.trans C) r2 q⟩
def Dr (f:AF)(r:AA):AE:=λτ Q=>r τ λxs=>f xs Q
def dk {d:km V->Hp->VK->Prop}{f:AF}{t:TA}{r:AA}(i:F7 X.K d f)(s:j9 X.K t r):E6 X.K (uW d t) (Dr f r):=λB T j τ H Q l e h k=>s B T j τ H _ _ e h λvs xs m n g r1 h1=>
 i m _ n vs xs Q l (e.stp g).va r1 h1 λw z o p u r2 q=>k w z o p (g.trans u) r2 q
def Ap {id:String}{x:Str}{p:Pos}{e:kd}{d:km V->Hp->VK->Prop}{f:AF}{r:AA}(hc:Cd X (.builtin id) d/\F7 X.K d f)(g:Gl X x)(h:X.mg x=none)(hv:bootBuiltins x=some (.builtin id))(ha:SA X (e::es) r)(hn:x≠"__name__" :=by decide)(hdb:(x==("__debug__" :Str))=false:=by decide)(he:starEach (e::es) X.env=(false,eval e X.env)::starEach es X.env:=by rfl)(hpl:(backTo pos (starEach es X.env)).any (·.1)=false:=by rfl):SE X (.Call (.Name x p) (e::es) [] pos) (Dr f r):=by obtain⟨t,i,s⟩:=ha;exact⟨_,Ko hc.1 g h hv i hn hdb he hpl,dk hc.2 s⟩
def A8 {T:String}{x:Str}{p:Pos}{e:kd}{d:km V->Hp->VK->Prop}{f:AF}{r:AA}(hc:Cd X (.type T) d/\F7 X.K d f)(g:Gl X x)(h:X.mg x=none)(hv:bootBuiltins x=some (.type T))(ha:SA X (e::es) r)(hn:x≠"__name__" :=by decide)(hdb:(x==("__debug__" :Str))=false:=by decide)(he:starEach (e::es) X.env=(false,eval e X.env)::starEach es X.env:=by rfl)(hpl:(backTo pos (starEach es X.env)).any (·.1)=false:=by rfl):SE X (.Call (.Name x p) (e::es) [] pos) (Dr f r):=by obtain⟨t,i,s⟩:=ha;exact⟨_,IQ hc.1 g h hv i hn hdb he hpl,dk hc.2 s⟩
end
section
variable {X:Cx}
def Ej {K:AAP}{T M:kf->Prop}{H:Hp}{v:V}{xs:km PV}(r:Cc K T M H v (.tup xs)):∃a vs,v= .ref a/\KB K H a vs/\A7 K T M H vs xs:=by
 cases r with
 | tup h r=>exact⟨_,_,rfl,h.sq,r⟩
def dz {K:AAP}{T M:kf->Prop}{H:Hp}{v:V}{xs:km PV}(r:Cc K T M H v (.tup xs)):∃a vs,v= .ref a/\rJ K H a vs/\A7 K T M H vs xs:=by
 cases r with
 | tup h r=>exact⟨_,_,rfl,h,r⟩
def DL {K:AAP}{T M:kf->Prop}{H:Hp}{v:V}{xs:km PV}(r:Cc K T M H v (.lst xs)):∃a vs,v= .ref a/\H a=some (.lst vs)/\¬T a/\¬M a/\A7 K T M H vs xs:=by
 cases r with
 | lst h t m r=>exact⟨_,_,rfl,h,t,m,r⟩
def dh {K:AAP}{T M:kf->Prop}{H:Hp}{v:V}{b:km Int}(r:Cc K T M H v (.scr b)):∃a,v= .ref a/\FF K H a (b.map V.int):=by
 cases r with
 | scr h=>
   rcases h with⟨h,_,_⟩|h
   .exact ⟨_,rfl, .inl h⟩
   .exact ⟨_,rfl,h H⟩
def EA:AF:=λxs Q=>match xs with | [.tup ys] =>Q (.int ys.length) | [.lst ys] =>Q (.int ys.length) | [.scr ns] =>Q (.int ns.length)|_=>False
def qM (K:AAP):km V->Hp->VK->Prop:=λxs H Q=>∃p ys,xs= [.ref p] /\(FF K H p ys\/KB K H p ys)/\Q (.int ys.length) H
def CN:Cd X (.builtin "len") (qM X.K)/\F7 X.K (qM X.K) EA:=by
 refine⟨KI,λT M H b xs Q c va r h k=> ?_⟩;unfold EA at h;split at h <;> first | exact h.elim|skip
 .rename_i ys;cases r with | cons r t=>cases t;obtain⟨a,vs,rfl,hq,r⟩:=Ej r;refine⟨a,vs,rfl, .inr hq, ?_⟩;rw[r.length];exact k _ _ T H (.refl va.tp) (.int _) h
 .rename_i ys;cases r with | cons r t=>cases t;obtain⟨a,vs,rfl,hq,_,_,r⟩:=DL r;refine⟨a,vs,rfl, .inl (.inl (.inl hq)), ?_⟩;rw[r.length];exact k _ _ T H (.refl va.tp) (.int _) h
 .rename_i d;cases r with | cons r t=>cases t;obtain⟨a,rfl,hq⟩:=dh r;refine⟨a,_,rfl, .inl hq, ?_⟩;rw[AAa];exact k _ _ T H (.refl va.tp) (.int _) h
def RN:AF:=λxs Q=>match xs with | [.int i] =>Q (.int i.natAbs)|_=>False
def L4:Cd X (.builtin "abs") (λxs H Q=>∃i,xs= [.int i] /\Q (.int (if i<0 then -i else i)) H)/\F7 X.K (λxs H Q=>∃i,xs= [.int i] /\Q (.int (if i<0 then -i else i)) H) RN:=by
 refine⟨Nt,λT M H a xs Q b va r h k=> ?_⟩;unfold RN at h;split at h <;> first | exact h.elim|skip
 rename_i i;cases r with
 | cons r t=> cases t;cases r;refine⟨i,rfl, ?_⟩;rw[show (if i<0 then -i else i)=(i.natAbs:Int) by split <;> omega];exact k _ _ T H (.refl va.tp) (.int _) h
def oZ (g:Int->Int->Int):AF:=λxs Q=>match xs with | [.int i, .int j] =>Q (.int (g i j))|_=>False
def ma {g g':Int->Int->Int}(a:∀i j,g i j=g' i j):F7 X.K (λxs H Q=>∃i j,xs= [.int i, .int j] /\Q (.int (g i j)) H) (oZ g'):=by
 intro T M H b xs Q c va r h k;unfold oZ at h;split at h <;> first | exact h.elim|skip
 rename_i i j;cases r with
 | cons r t=>
   cases t with
   | cons r2 t=> cases t;cases r;cases r2;refine⟨i,j,rfl, ?_⟩;rw[a];exact k _ _ T H (.refl va.tp) (.int _) h
def mU (hc:X.calm=true):Cd X (.builtin "min") (λxs H Q=>∃i j,xs= [.int i, .int j] /\Q (.int (if j<i then j else i)) H)/\F7 X.K (λxs H Q=>∃i j,xs= [.int i, .int j] /\Q (.int (if j<i then j else i)) H) (oZ min):=
 ⟨Yi hc,ma λi j=>by split <;> omega⟩
def Vr:AF:=λxs Q=>match xs with | [.int i] =>Q (.int i) | [.bl k] =>Q (.int (if k then 1 else 0))|_=>False
def SC:Cd X (.type "int") (λxs H Q=>(∃i,xs= [.int i] /\Q (.int i) H)\/∃k,xs= [.bl k] /\Q (.int (if k then 1 else 0)) H)/\F7 X.K (λxs H Q=>(∃i,xs= [.int i] /\Q (.int i) H)\/∃k,xs= [.bl k] /\Q (.int (if k then 1 else 0)) H) Vr:=by
 refine⟨P2,λT M H a xs Q b va r h k=> ?_⟩;unfold Vr at h;split at h <;> first | exact h.elim|skip
 .cases r with | cons r t=>cases t;cases r;exact .inl ⟨_,rfl,k _ _ T H (.refl va.tp) (.int _) h⟩
 .cases r with | cons r t=>cases t;cases r;exact .inr ⟨_,rfl,k _ _ T H (.refl va.tp) (.int _) h⟩
def B4:AF:=λxs Q=>match xs with | [.tup ys] =>Q (.tup ys) | [.lst ys] =>Q (.tup ys)|_=>False
def dM (K:AAP):km V->Hp->VK->Prop:=λxs H Q=>∃p ys,xs= [.ref p] /\((FF K H p ys/\∀l,H l=none->Q (.ref l) (upd H l (.tup ys)))\/(KB K H p ys/\Q (.ref p) H))
def Bq:Cd X (.type "tuple") (dM X.K)/\F7 X.K (dM X.K) B4:=by
 refine⟨O8,λT M H c xs Q d va r h k=> ?_⟩;unfold B4 at h;split at h <;> first | exact h.elim|skip
 .cases r with | cons r t=>cases t;obtain⟨a,vs,rfl,hq,b⟩:=dz r;exact⟨a,vs,rfl, .inr ⟨hq.sq,k _ _ T H (.refl va.tp) (.tup hq b) h⟩⟩
 .cases r with
  | cons r t=> cases t;obtain⟨a,vs,rfl,hq,_,_,b⟩:=DL r;refine⟨a,vs,rfl, .inl ⟨.inl (.inl hq),λl hl=> ?_⟩⟩;have s:=De.lay (o:= .tup vs) va.tp hl;exact k _ _ T _ s (.tup (.inl Ah) (b.stp s va)) h
def XZ (xs:km PV)(Q:km PV->Prop):Prop:=match xs with | [.tup ys] =>Q ys | [.lst ys] =>Q ys|_=>False
def W6 (r:AA):AA:=λτ Q=>r τ λxs=>XZ xs Q
def X8 {x:Str}{p c:Pos}{e:kd}{es:km kd}{r:AA}(o:Gl X x)(u:X.mg x=none)(hv:bootBuiltins x=some (.type "list"))(ha:SA X (e::es) r)(hn:x≠"__name__" :=by decide)(hdb:(x==("__debug__" :Str))=false:=by decide)(he:starEach (e::es) X.env=(false,eval e X.env)::starEach es X.env:=by rfl)(hpl:(backTo c (starEach es X.env)).any (·.1)=false:=by rfl):SF X (.Call (.Name x p) (e::es) [] c) (W6 r):=by
 obtain⟨t,v,s⟩:=ha;refine⟨_,IQ RI o u hv v hn hdb he hpl,λB T j τ H Q w m h k=>s B T j τ H _ _ m h λvs xs n d f r1 h1=> ?_⟩;have go:∀(b:km V) (ys:km PV),A7 X.K n (mt B j τ) d b ys->w ys->∀l,d l=none->Q (.ref l) (upd d l (.lst b)):=λb ys y q l hl=>by obtain⟨z,g,A,r2⟩:=Rb (m.stp f) hl y;exact k l b ys n _ (f.trans z) g (f.none hl) Ah A r2 q
 unfold XZ at h1;split at h1 <;> first | exact h1.elim|skip
 .cases r1 with | cons r t=>cases t;obtain⟨a,b,rfl,hq,i⟩:=Ej r;exact⟨a,b,rfl, .inr hq,go b _ i h1⟩
 .cases r1 with | cons r t=>cases t;obtain⟨a,b,rfl,hq,_,_,i⟩:=DL r;exact⟨a,b,rfl, .inl (.inl (.inl hq)),go b _ i h1⟩
def kdOf:PV->ke Kd
 | .non=>some .non | .bl _=>some .bl | .int _=>some .int | .str _=>some .str | .tup _=>some .tup | .lst _=>some .lst | .tape=>none | .scr _=>none | .ty _=>none | .dct _=>none
def PF:AF:=λxs Q=>match xs with | [x, .ty T] =>Hj T/\(match kdOf x with | some k=>Q (.bl (Ih k T))|none=>False)|_=>False
def IC:Cd X (.builtin "isinstance") (mK X.K)/\F7 X.K (mK X.K) PF:=by
 refine⟨aY,λT M H c xs Q d va r h k=> ?_⟩;unfold PF at h;split at h <;> first | exact h.elim|skip
 rename_i x ty;obtain⟨a,h⟩:=h;cases r with
 | cons r t=>
   cases t with
   | cons r2 t=>
     cases t;cases r2;cases r with
     | non=>exact⟨_,_, .non,rfl,a,rfl,k _ _ T H (.refl va.tp) (.bl _) h⟩
     | bl b=>exact⟨_,_, .bl,rfl,a,⟨_,rfl⟩,k _ _ T H (.refl va.tp) (.bl _) h⟩
     | int b=>exact⟨_,_, .int,rfl,a,⟨_,rfl⟩,k _ _ T H (.refl va.tp) (.bl _) h⟩
     | str b=>exact⟨_,_, .str,rfl,a,⟨_,rfl⟩,k _ _ T H (.refl va.tp) (.bl _) h⟩
     | ty b=>exact h.elim
     | tup hq _=>exact⟨_,_, .tup,rfl,a,⟨_,_,rfl,hq.sq⟩,k _ _ T H (.refl va.tp) (.bl _) h⟩
     | lst hq _ _ _=>exact⟨_,_, .lst,rfl,a,⟨_,_,rfl, .inl (.inl hq)⟩,k _ _ T H (.refl va.tp) (.bl _) h⟩
     | tape _=>exact h.elim
     | scr _=>exact h.elim
     | dct _ _ _=>exact h.elim
def Hf:km PV->ke (km kc)
 | [] =>some []
 | .bl b::r=>(Hf r).map (b :: ·)
 | _=>none
theorem XE {K:AAP}{T M:kf->Prop}{H:Hp}:∀{vs:km V} {xs:km PV} {bs:km kc},A7 K T M H vs xs->Hf xs=some bs->vs=bs.map V.bl
 | _,_,_, .nil,e=>by simp[Hf] at e;subst e;rfl
 | _,_,bs, .cons h t,e=>by cases h <;> simp[Hf] at e;obtain⟨c,a,b⟩:=e;subst b;simp[XE t a]
def Yn (g:km kc->kc):AF:=λxs Q=>match xs with | [.lst ys] =>(match Hf ys with | some bs=>Q (.bl (g bs))|none=>False)|_=>False
def ic {g:km kc->kc}:F7 X.K (iQ X.K g) (Yn g):=by
 intro T M H c xs Q d va r h k;unfold Yn at h;split at h <;> first | exact h.elim|skip
 split at h <;> first | exact h.elim|skip
 rename_i bs e;cases r with
 | cons r t=> cases t;obtain⟨a,f,rfl,hq,_,_,b⟩:=DL r;have:=XE b e;subst this;exact⟨a,bs,rfl, .inl (.inl hq),k _ _ T H (.refl va.tp) (.bl _) h⟩
def mT (hc:X.calm=true):Cd X (.builtin "all") (iQ X.K λbs=>bs.all id)/\F7 X.K (iQ X.K λbs=>bs.all id) (Yn λbs=>bs.all id):=⟨Yh hc,ic⟩
def de:PV->PV->ke kc
 | .non, .non=>some true | .non, .int _=>some false | .int _, .non=>some false | .non, .bl _=>some false | .bl _, .non=>some false | .non, .str _=>some false | .str _, .non=>some false
 | .int i, .int j=>some (decide (i=j)) | .bl i, .bl j=>some (decide (i=j)) | .str i, .str j=>some (decide (i=j))
 | .int _, .str _=>some false | .str _, .int _=>some false | .bl _, .str _=>some false | .str _, .bl _=>some false
 | _,_=>none
def Us {K:AAP}{T M:kf->Prop}{H:Hp}{u v:V}{x y:PV}{b:kc}(r:Cc K T M H u x)(r2:Cc K T M H v y)(e:de x y=some b):mV u v=true/\decide (u=v)=b:=by cases r <;> cases r2 <;> first | (cases e;done)|(cases e;exact⟨rfl,rfl⟩)|(cases e;exact⟨rfl,by simp⟩)
def jA:PV->ke kc
 | .non=>some false | .bl b=>some b | .int i=>some (i != 0) | .tup xs=>some (!xs.isEmpty) | .lst xs=>some (!xs.isEmpty)|_=>none
def kD (a:AE):AT:=λτ Q=>a τ λx=>match jA x with | some b=>Q b|none=>False
def KU {K:AAP}{T M:kf->Prop}{H:Hp}{vs:km V}{xs:km PV}(r:A7 K T M H vs xs):vs.isEmpty=xs.isEmpty:=by cases r <;> rfl
def mq {a:kd}{d:AE}(ha:SE X a d)(he:∀whole,isTrue a X.env whole=(do let v <-whole;standAt a.pos;holding [v] (truthy v)):=by intro _;rfl):RC X a (kD d):=by
 obtain⟨t,p,s⟩:=ha;refine⟨_,dG p he,λB T f τ H Q m g h k=>s B T f τ H _ _ g h λv x i j l r1 h1=> ?_⟩;cases e:jA x with
 | none=>rw[e] at h1;exact h1.elim
 | some b=>
   rw[e] at h1;refine⟨b, ?_,k b i j l h1⟩;cases r1 <;> simp[jA] at e
   .exact e
   .exact e.symm
   .exact e.symm
   .rename_i hq c;exact .inr (.inl ⟨_,hq.sq,by rw[KU c,e];simp⟩)
   .rename_i hq _ _ c;exact .inl ⟨_, .inl (.inl hq),by rw[KU c,e];simp⟩
end
structure G1 where
 nx:BD->Prop
 rt:PV->Prop
 bk:BD->Prop
 ct:BD->Prop
abbrev AS:=G1->BD->Prop
structure Fd (T:Addr->Prop) (H:Hp) (σ:L2.St) (τ:BD) (T':Addr->Prop) (H':Hp) (σ':L2.St) (τ':BD):Prop where
 keep:∀b o,¬T b->¬DT σ τ b->H b=some o->H' b=some o
 sub:∀b,T b->T' b
 new:∀b,T' b->T b\/H b=none
 own:∀b,DT σ' τ' b->DT σ τ b\/H b=none
 some:∀b,H b≠none->H' b≠none
section
variable {K:AAP}{B:DG}{T T' T1 T2:kf->Prop}{H H' H1 H2:Hp}{σ σ' σ1 σ2:L2.St}{τ τ' τ1 τ2:BD}
def Fd.refl:Fd T H σ τ T H σ τ:=⟨λ_ _ _ _ e=>e,λ_ t=>t,λ_ t=> .inl t,λ_ o=> .inl o,λ_ h=>h⟩
def Fd.trans (a:Fd T H σ τ T1 H1 σ1 τ1)(b:Fd T1 H1 σ1 τ1 T2 H2 σ2 τ2):Fd T H σ τ T2 H2 σ2 τ2 where
 keep:=λc o t w e=>b.keep c o (λz=>(a.new c z).elim t λn=>by rw[n] at e;cases e) (λz=>(a.own c z).elim w λn=>by rw[n] at e;cases e) (a.keep c o t w e)
 sub:=λc t=>b.sub c (a.sub c t)
 new:=λc t=>(b.new c t).elim (λz=>a.new c z) λz=> .inr (by
  cases e:H c with
  | none=>rfl
  | some o=>exact absurd z (a.some c (by rw[e];exact λe=>nomatch e)))
 own:=λc t=>(b.own c t).elim (λz=>a.own c z) λz=> .inr (by
  cases e:H c with
  | none=>rfl
  | some o=>exact absurd z (a.some c (by rw[e];exact λe=>nomatch e)))
 some:=λc h=>b.some c (a.some c h)
def De.prog (s:De T H T' H'):Fd T H σ τ T' H' σ τ:=⟨λb o t _ e=>s.keep b o t e,s.sub,s.new,λ_ o=> .inl o,λ_ h=>s.some h⟩
def Fd.less (h:∀b,DT σ' τ' b->DT σ τ b):Fd T H σ τ T H σ' τ':=⟨λ_ _ _ _ e=>e,λ_ t=>t,λ_ t=> .inl t,λb o=> .inl (h b o),λ_ h=>h⟩
structure ER (K:AAP) (B:DG) (T:Addr->Prop) (H:Hp) (σ:L2.St) (τ:BD) (D:Nf) (AD:G1):Prop where
 nx:∀T' H' σ' τ',Fd T H σ τ T' H' σ' τ'->SR K B T' H' σ' τ'->AD.nx τ'->D.nx σ' H'
 bk:∀T' H' σ' τ',Fd T H σ τ T' H' σ' τ'->SR K B T' H' σ' τ'->AD.bk τ'->D.bk σ' H'
 ct:∀T' H' σ' τ',Fd T H σ τ T' H' σ' τ'->SR K B T' H' σ' τ'->AD.ct τ'->D.ct σ' H'
 rt:∀v x T' H',De B.T B.H T' H'->Cc K T' B.M H' v x->AD.rt x->D.rt v H'
def ER.shift {D:Nf}{a:G1}(e:ER K B T H σ τ D a)(p:Fd T H σ τ T1 H1 σ1 τ1):ER K B T1 H1 σ1 τ1 D a:=
 ⟨λ_ _ _ _ q=>e.nx _ _ _ _ (p.trans q),λ_ _ _ _ q=>e.bk _ _ _ _ (p.trans q),λ_ _ _ _ q=>e.ct _ _ _ _ (p.trans q),e.rt⟩
end
def aR (K:AAP)(t:TS)(a:AS):Prop:=∀(B:DG) (T:kf->Prop) (b:L2.St) (τ:BD) (H:Hp) (D:Nf) (c:G1),SR K B T H b τ->a c τ->ER K B T H b τ D c->t D b H
def SS (X:Cx)(st:Stmt)(a:AS):Prop:=∃t,PS X st t/\aR X.K t a
def fE (X:Cx)(st:km Stmt)(a:AS):Prop:=∃t,W4 X st t/\aR X.K t a
def Bl {a:Type}{l:km a}{i j:Nat}{x y:a}(h:(l.set i x)[j]? =some y):(j=i/\y=x/\i<l.length)\/(j≠i/\l[j]? =some y):=by
 by_cases e:j=i
 .subst e;rw[ADF] at h;simp at h;obtain⟨h1,h2⟩:=h;exact .inl ⟨rfl,h2.symm,h1⟩
 .rw [AAy (λz=>e z.symm)] at h;exact .inr ⟨e,h⟩
section
variable {K:AAP}{B:DG}{T:kf->Prop}{H:Hp}{σ:L2.St}{τ:BD}
def Dn {i:Nat}{v:V}{x:PV}{b:kf}(h:DT (σ.set i (some v)) (τ.set i (some (.val x))) b):DT σ τ b:=by
 obtain⟨j,xs,h1,h2⟩:=h;rcases Bl h1 with⟨_,e,_⟩|⟨n,a⟩
 .cases e
 .rw [AAy (λz=>n z.symm)] at h2;exact⟨j,xs,a,h2⟩
def SR.set {i:Nat}{v:V}{x:PV}(s:SR K B T H σ τ)(r:Cc K T (mt B σ τ) H v x):SR K B T H (σ.set i (some v)) (τ.set i (some (.val x))):=by
 have c:Mv K T (mt B σ τ) H T (mt B (σ.set i (some v)) (τ.set i (some (.val x)))) H:= .anti s.va λa m=>m.elim .inl λz=> .inr (Dn z);refine⟨by simp[s.len],λj y e=> ?_,λj ys e=> ?_,λj k ys o p t u h l=> ?_,s.tp,s.bm,s.bt,s.st⟩
 .rcases Bl e with⟨rfl,b,hl⟩|⟨n,b⟩
  .cases b;refine⟨v,by rw[ADF];simp[s.len,hl],r.mv c⟩
  .obtain ⟨w,hw,d⟩:=s.val j y b;exact⟨w,by rw[AAy (λz=>n z.symm)];exact hw,d.mv c⟩
 .rcases Bl e with⟨_,b,_⟩|⟨n,b⟩
  .cases b
  .obtain ⟨p,vs,h1,h2,A,C⟩:=s.own j ys b;exact⟨p,vs,by rw[AAy (λz=>n z.symm)];exact h1,h2,A.mv c,C⟩
 .rcases Bl t with⟨_,b,_⟩|⟨n,f⟩
  .cases b
  .rcases Bl u with⟨_,b,_⟩|⟨D,g⟩
   .cases b
   .rw [AAy (λz=>n z.symm)] at h;rw[AAy (λz=>D z.symm)] at l;exact s.dist j k ys o p f g h l
def MK {i:Nat}{p:kf}{xs:km PV}{b:kf}(h:DT (σ.set i (some (.ref p))) (τ.set i (some (.own xs))) b):DT σ τ b\/b=p:=by
 obtain⟨j,ys,h1,h2⟩:=h;rcases Bl h1 with⟨rfl,e,_⟩|⟨n,a⟩
 .rcases Bl h2 with⟨_,c,_⟩|⟨n,_⟩
  .cases c;exact .inr rfl
  .exact absurd rfl n
 .rw [AAy (λz=>n z.symm)] at h2;exact .inl ⟨j,ys,a,h2⟩
def SR.take {i:Nat}{p:kf}{vs:km V}{xs:km PV}(s:SR K (B.add p) T H σ τ)(hp:H p=some (.lst vs))(C:¬T p)(u:¬DT σ τ p)(D:¬B.M p)(E:B.H p=none)(r:A7 K T (mt (B.add p) σ τ) H vs xs):SR K B T H (σ.set i (some (.ref p))) (τ.set i (some (.own xs))):=by
 have h:Mv K T (mt (B.add p) σ τ) H T (mt B (σ.set i (some (.ref p))) (τ.set i (some (.own xs)))) H:= .anti s.va λa m=>by
  rcases m with m|m
  .exact .inl (.inl m)
  .rcases MK m with z|z
   .exact .inr z
   .exact .inl (.inr z)
 refine⟨by simp[s.len],λj y e=> ?_,λj ys e=> ?_,λj k ys v q F x g d=> ?_,s.tp,λa m=>s.bm a (.inl m),λa m=>s.bt a (.inl m),s.st⟩
 .rcases Bl e with⟨_,b,_⟩|⟨n,b⟩
  .cases b
  .obtain ⟨w,hw,l⟩:=s.val j y b;exact⟨w,by rw[AAy (λz=>n z.symm)];exact hw,l.mv h⟩
 .rcases Bl e with⟨rfl,b,hl⟩|⟨n,b⟩
  .cases b;exact⟨p,vs,by rw[ADF];simp[s.len,hl],hp,r.mv h,E,C,D⟩
  .obtain ⟨q,G,h1,h2,I,J,L,N⟩:=s.own j ys b;exact⟨q,G,by rw[AAy (λz=>n z.symm)];exact h1,h2,I.mv h,J,L,λz=>N (.inl z)⟩
 .rcases Bl F with⟨A,_,_⟩|⟨n,f⟩
  .rcases Bl x with⟨o,_,_⟩|⟨t,c⟩
   .rw [A,o]
   .subst A;rw[AAy (λz=>t z.symm)] at d;rcases Bl g with⟨_,b,_⟩|⟨n,_⟩
    .cases b;exact absurd ⟨k,v,c,d⟩ u
    .exact absurd rfl n
  .rw [AAy (λz=>n z.symm)] at g;rcases Bl x with⟨o,_,_⟩|⟨t,c⟩
   .subst o;rcases Bl d with⟨_,b,_⟩|⟨n,_⟩
    .cases b;exact absurd ⟨j,ys,f,g⟩ u
    .exact absurd rfl n
   .rw [AAy (λz=>t z.symm)] at d;exact s.dist j k ys v q f c g d
def SR.write {i:Nat}{p:kf}{N vs:km V}{xs ys:km PV}(s:SR K B T H σ τ)(g:τ[i]? =some (some (.own xs)))(hs:σ[i]? =some (some (.ref p)))(hp:H p=some (.lst N))(r:A7 K T (mt B σ τ) H vs ys):SR K B T (upd H p (.lst vs)) σ (τ.set i (some (.own ys)))/\Fd T H σ τ T (upd H p (.lst vs)) σ (τ.set i (some (.own ys))):=by
 obtain⟨R,O,I,S,U,J,E,L⟩:=s.own i xs g;rw[hs] at I;cases I;have W:σ.set i (some (.ref p))=σ:=by
  apply List.ext_getElem?;intro k;by_cases hk:i=k
  .subst hk;rw[ADF,hs];simp[(AAw.mp hs).1]
  .rw [AAy hk]
 have l:DT σ τ p:=⟨i,xs,g,hs⟩;have M:∀b,DT σ (τ.set i (some (.own ys))) b->DT σ τ b:=λb h=>by
  obtain⟨j,f,h1,h2⟩:=h;rcases Bl h1 with⟨rfl,e,_⟩|⟨n,C⟩
  .exact ⟨j,xs,g,h2⟩
  .exact ⟨j,f,C,h2⟩
 have F:Mv K T (mt B σ τ) H T (mt B σ (τ.set i (some (.own ys)))) (upd H p (.lst vs)):=⟨s.va,λb o _ m e=>by
  rw[Al (λz=>m (by subst z;exact .inr l))];exact e,λ_ t=>t,λ_ _ t=>t,λb _ m=>m.elim .inl λz=> .inr (M b z)⟩
 refine⟨⟨by simp[s.len],λj y e=> ?_,λj f e=> ?_,λj k f D q h1 h2 u A=> ?_,λa t=> ?_,λa m=> ?_,s.bt, ?_⟩,⟨λb o t w e=>by rw[Al (λz=>w (by subst z;exact l))];exact e,λ_ t=>t,λ_ t=> .inl t,λb o=> .inl (M b o),λb h=> ?_⟩⟩
 .rcases Bl e with⟨_,c,_⟩|⟨n,c⟩
  .cases c
  .obtain ⟨v,h,P⟩:=s.val j y c;exact⟨v,h,P.mv F⟩
 .rcases Bl e with⟨rfl,c,_⟩|⟨n,c⟩
  .cases c;exact⟨p,vs,hs,Ah,r.mv F,J,E,L⟩
  .obtain ⟨q,D,h1,h2,u,A⟩:=s.own j f c;have hq:q≠p:=λz=>by subst z;exact n (s.dist j i f xs q c g h1 hs)
   exact⟨q,D,h1,by rw[Al hq];exact h2,u.mv F,A⟩
 .rcases Bl h1 with⟨rfl,_,_⟩|⟨n,C⟩
  .rcases Bl h2 with⟨rfl,_,_⟩|⟨Q,G⟩
   .rfl
   .exact s.dist _ k xs D q g G u A
  .rcases Bl h2 with⟨rfl,_,_⟩|⟨Q,G⟩
   .exact s.dist j _ f xs q C g u A
   .exact s.dist j k f D q C G u A
 .obtain ⟨d,x,e,z⟩:=s.tp a t;exact⟨d,x,by rw[Al (λw=>by subst w;exact E t)];exact e,z⟩
 .obtain ⟨o,e,z⟩:=s.bm a m;exact⟨o,by rw[Al (λw=>by subst w;exact L m)];exact e,z⟩
 .refine ⟨λb o t e=> ?_,s.st.sub,s.st.new,λa t=> ?_⟩
  .rw [Al (λw=>by subst w;rw[J] at e;cases e)];exact s.st.keep b o t e
  .obtain ⟨d,x,e,z⟩:=s.tp a t;exact⟨d,x,by rw[Al (λw=>by subst w;exact E t)];exact e,z⟩
 .by_cases z:b=p
  .subst z;rw[Ah];exact λe=>nomatch e
  .rw [Al z];exact h
end
section
variable {X:Cx}{st:Stmt}{rest:km Stmt}{e:kd}{pos:Pos}{a b:AS}{ta:AE}
def Yd (ta:AE):AE:=λτ Q=>ta (frz τ) λx=>cT x=true/\Q x
def Wd (h:SE X e ta):SE X e (Yd ta):=by obtain⟨t,p,s⟩:=h;refine⟨t,p,λB T c τ H Q j d h k=>s B T c (frz τ) H _ _ d.frz h λv x f g i r1 h1=> ?_⟩;exact k v x f g i (r1.free h1.1) h1.2
def Td (c:AT):AT:=λτ Q=>c (frz τ) Q
def eF {c:AT}(h:RC X e c):RC X e (Td c):=by obtain⟨t,p,s⟩:=h;exact⟨t,p,λB T d τ H Q l f h k=>s B T d (frz τ) H _ _ f.frz h λb g i j h1=>k b g i j h1⟩
def A0:AS:=λD τ=>D.nx τ
def Aa (a b:AS):AS:=λD τ=>a {D with nx:=b D} τ
def An:fE X [] A0:=⟨_,NA,λB T c τ H D g d h f=>f.nx T H c τ .refl d h⟩
def AM (h1:SS X st a)(h2:fE X rest b):fE X (st::rest) (Aa a b):=by obtain⟨t,p,s⟩:=h1;obtain⟨t',i,j⟩:=h2;exact⟨_,CB p i,λB T k τ H D l m h c=>s B T k τ H _ _ m h ⟨λn o d f q g h'=>j B n d f o D l g h' (c.shift q),c.bk,c.ct,c.rt⟩⟩
def AN (h1:SS X st a):fE X [st] a:=let ⟨_,p,s⟩:=h1;⟨_,FW p,s⟩
def Aq (ta:AE):AS:=λD τ=>ta (frz τ) D.rt
def AU (h:SE X e ta):SS X (.Return (some e) pos) (Aq ta):=by obtain⟨t,p,s⟩:=h;refine⟨_,OV p,λB T f τ H D k c h g=>s B T f (frz τ) H _ _ c.frz h λv x i j d r1 h1=> ?_⟩;exact g.rt v x i j (c.st.trans d) (r1.mv (.anti (c.frz.stp d).va λa m=> .inl m)) h1
def BO (c:AT)(a b:AS):AS:=λD τ=>c τ λk=>if k=true then a D τ else b D τ
def Az {c:kd}{x y:km Stmt}{l:AT}(hc:RC X c l)(ha:fE X x a)(hb:fE X y b):SS X (.If c x y pos) (BO l a b):=by
 obtain⟨t,p,s⟩:=hc;obtain⟨t1,p1,f⟩:=ha;obtain⟨t2,p2,g⟩:=hb;refine⟨_,X0 p p1 p2,λB T i τ H D m j h n=>s B T i τ H _ _ j h λk o r d h1=> ?_⟩;cases k with
 | true=>rw[AAR rfl] at h1 ⊢;exact f B o i τ r D m (j.stp d) h1 (n.shift d.prog)
 | false=>rw[AAQ AAe] at h1 ⊢;exact g B o i τ r D m (j.stp d) h1 (n.shift d.prog)
abbrev AG:=PV->BD->(BD->Prop)->Prop
abbrev VB:=km PV->BD->(BD->Prop)->Prop
def J9 (K:AAP)(g:TG)(ag:AG):Prop:=∀(B:DG) (T:kf->Prop) (f:L2.St) (τ:BD) (H:Hp) (v:V) (x:PV) (Q:L2.St->Hp->Prop) (h:BD->Prop),SR K B T H f τ->Cc K T (mt B f τ) H v x->ag x τ h->
 (∀c d,SR K B T H c d->(∀b,DT c d b->DT f τ b)->h d->Q c H)->g v f H Q
def Pr (K:AAP)(g:VS)(ag:VB):Prop:=∀(B:DG) (T:kf->Prop) (f:L2.St) (τ:BD) (H:Hp) (vs:km V) (xs:km PV) (Q:L2.St->Hp->Prop) (h:BD->Prop),SR K B T H f τ->A7 K T (mt B f τ) H vs xs->ag xs τ h->
 (∀c d,SR K B T H c d->(∀b,DT c d b->DT f τ b)->h d->Q c H)->g vs f H Q
def SG (X:Cx)(c:kd)(ag:AG):Prop:=∃g,PG X c g/\J9 X.K g ag
def rG (X:Cx)(c:km kd)(ag:VB):Prop:=∃g,nF X c g/\Pr X.K g ag
def Au (i:Nat):AG:=λx τ Q=>Q (τ.set i (some (.val x)))
def SM {K:AAP}{i:Nat}:J9 K (DR i) (Au i):=λB T d τ H v x Q f c r h k=>k _ _ (c.set r) (λb o=>Dn o) h
def Es {i:Nat}{x:Str}(hN:X.N.Nodup)(hi:X.N[i]? =some x)(hx:Loc X.env.scope x)(c:X.fn x=true\/X.env.scope.names.lookup x=some .local:=by first | exact .inl rfl|exact .inr rfl|assumption):SG X (.Name x pos) (Au i):=
 ⟨_,Kq hN hi hx c,SM⟩
def Bx:VB:=λxs τ Q=>match xs with | [] =>Q τ|_=>False
def Ae (g:AG)(r:VB):VB:=λxs τ Q=>match xs with | x::t=>g x τ λc=>r t c Q | [] =>False
def Uz {K:AAP}:Pr K Tq Bx:=λB T c τ H vs xs Q f d r h k=>by
 cases r with
 | nil=>exact⟨rfl,k c τ d (λ_ o=>o) h⟩
 | cons _ _=>exact h.elim
def QR {K:AAP}{g:TG}{p:VS}{ag:AG}{c:VB}(h1:J9 K g ag)(h2:Pr K p c):Pr K (FT g p) (Ae ag c):=λB T v τ H vs xs Q w s r h k=>by
 cases r with
 | nil=>exact h.elim
 | cons r t=> refine⟨_,_,rfl,h1 B T v τ H _ _ _ _ s r h λd f i u x=> ?_⟩;exact h2 B T d f H _ _ Q w i (t.mv (.anti s.va λa m=>m.elim .inl λz=> .inr (u a z))) x λj l n y A=>k j l n (λb o=>u b (y b o)) A
def Bn:rG X [] Bx:=⟨_,Rt,Uz⟩
def Ab {es:km kd}{ag:AG}{c:VB}(h1:SG X e ag)(h2:rG X es c)(hs:(assignEach (e::es) X.env).map (·.2)=assign e X.env::(assignEach es X.env).map (·.2):=by rfl):rG X (e::es) (Ae ag c):=
 let ⟨_,p,s⟩:=h1;let ⟨_,d,f⟩:=h2;⟨_,Hr p d hs,QR s f⟩
def Ar (ta:AE)(g:AG):AS:=λD τ=>ta τ λx=>g x τ D.nx
def SL {K:AAP}{t:TE}{g:TG}{ag:AG}(s:E6 K t ta)(n:J9 K g ag):aR K (U2 t g) (Ar ta ag):=λB T i τ H D u j h o=>s B T i τ H _ _ j h λv x k l m r1 h1=>
 n B k i τ l v x _ _ (j.stp m) r1 h1 λc d f p r=>o.nx k l c d (m.prog.trans (.less p)) f r
def Ek {c:kd}{ag:AG}(he:SE X e ta)(d:SG X c ag)(hs:swapsWithSole [c] e pos.line X.env=pure false:=by rfl)(hw:swappedStores [c] e X.env=pure none:=by rfl)(h1:(assignEach [c] X.env).map (·.2)= [assign c X.env] :=by rfl):SS X (.Assign [c] e pos) (Ar ta ag):=
 let ⟨_,p,s⟩:=he;let ⟨_,f,g⟩:=d;⟨_,Ru p f hs hw h1,SL s g⟩
def FD {i:Nat}{x:Str}{pos':Pos}(hN:X.N.Nodup)(hi:X.N[i]? =some x)(hx:Loc X.env.scope x)(he:SE X e ta)(hs:swapsWith e (some (.Name x pos')) pos.line X.env=pure false:=by rfl)(c:X.fn x=true\/X.env.scope.names.lookup x=some .local:=by first | exact .inl rfl|exact .inr rfl|assumption):SS X (.Assign [.Name x pos'] e pos) (Ar ta (Au i)):=let ⟨_,p,s⟩:=he;⟨_,Ff hN hi hx p hs c,SL s SM⟩
def Mf (r:AA)(i:Nat):AS:=λD τ=>r τ λxs=>D.nx (τ.set i (some (.own xs)))
def il {K:AAP}{t:TE}{r:AA}{i:Nat}(s:aQ K t r):aR K (U2 t (DR i)) (Mf r i):=λB T g τ H D v c h j=>s B T g τ H _ _ c h λp vs xs k l d f hn hp m r1 h1=>by
 have n:¬DT g τ p:=λo=>by obtain⟨_,e,_⟩:=c.ownH o;rw[hn] at e;cases e
 have u:¬B.M p:=λo=>by obtain⟨_,e,_⟩:=c.bm p o;rw[hn] at e;cases e
 refine j.nx k l _ _ ⟨λb o t _ e=>d.keep b o t e,d.sub,d.new,λb o=> ?_,λb h=>d.some h⟩ (f.take hp m n u (c.st.none hn) r1) h1;rcases MK o with z|z
 .exact .inl z
 .subst z;exact .inr hn
def Gx {i:Nat}{x:Str}{pos':Pos}{r:AA}(hN:X.N.Nodup)(hi:X.N[i]? =some x)(hx:Loc X.env.scope x)(he:SF X e r)(hs:swapsWith e (some (.Name x pos')) pos.line X.env=pure false:=by rfl)(c:X.fn x=true\/X.env.scope.names.lookup x=some .local:=by first | exact .inl rfl|exact .inr rfl|assumption):SS X (.Assign [.Name x pos'] e pos) (Mf r i):=let ⟨_,p,s⟩:=he;⟨_,Ff hN hi hx p hs c,il s⟩
def Ye (i j:Nat)(r:AA):AS:=λD τ=>r τ λxs=>match xs with | [x,y] =>D.nx ((τ.set i (some (.val x))).set j (some (.val y)))|_=>False
def Wj {i j:Nat}{x y:Str}{c d:kd}{r:AA}{g k l:Pos}{kt k2 pt2}(hc:X.calm=true)(hN:X.N.Nodup)(hi:X.N[i]? =some x)(hj:X.N[j]? =some y)(v:i≠j)(hx:X.env.scope.names.lookup x=some .local)(hy:X.env.scope.names.lookup y=some .local)(ha:SA X [c,d] r)(hw:swappedStores [.Tuple [.Name x g, .Name y k] kt l] (.Tuple [c,d] k2 pt2) X.env=pure (some [x,y]))(hs:swapsWithSole [.Tuple [.Name x g, .Name y k] kt l] (.Tuple [c,d] k2 pt2) pos.line X.env=pure false:=by rfl):SS X (.Assign [.Tuple [.Name x g, .Name y k] kt l] (.Tuple [c,d] k2 pt2) pos) (Ye i j r):=by
 obtain⟨t,p,s⟩:=ha;refine⟨_,mD hc hN hi hj v hx hy p hw hs,λB T w τ H D I n h A=>s B T w τ H _ _ n h λvs xs C E u r1 h1=> ?_⟩;cases r1 with
 | nil=>exact h1.elim
 | cons ra ta=>
   cases ta with
   | nil=>exact h1.elim
   | cons F G=>
     cases G with
     | cons _ _=>exact h1.elim
     | nil=> have f:=n.stp u;refine⟨_,_,rfl,A.nx C E _ _ ?_ ((f.set (i:=i) ra).set (i:=j) (F.mv (.anti f.va λa m=>m.elim .inl λz=> .inr (Dn z)))) h1⟩;exact u.prog.trans (.less λb o=>Dn (Dn o))
def VT (i:Nat)(f:HM)(ta:AE):AS:=λD τ=>match Su τ i with | some (.val x)=>ta τ λy=>f x y λz=>D.nx (τ.set i (some (.val z)))|_=>False
def d8 {i:Nat}{x:Str}{op:Operator}{g:oG}{f:HM}{pos':Pos}(hN:X.N.Nodup)(hi:X.N[i]? =some x)(hx:Loc X.env.scope x)(he:SE X e ta)(j:nG X op g/\Bt X.K g f)(l:X.fn x=true\/X.env.scope.names.lookup x=some .local:=by first | exact .inl rfl|exact .inr rfl|assumption):SS X (.AugAssign (.Name x pos') op e pos) (VT i f ta):=by
 obtain⟨t,p,s⟩:=he;refine⟨_,mC hN hi hx p j.1 l,λB T m τ H D G c h n=> ?_⟩;unfold VT at h;split at h <;> first | exact h.elim|skip
 rename_i y r;obtain⟨v,ev,rv⟩:=c.val i y (OH r);refine⟨v,ev,s B T m τ H _ _ c h λw z A C d r1 h1=> ?_⟩;refine j.2 A _ C v w y z _ _ (c.stp d).va (rv.stp d c.va) r1 h1 λu q E F k r2 h2=> ?_;exact n.nx E F _ _ ((d.trans k).prog.trans (.less λb o=>Dn o)) (((c.stp d).stp k).set r2) h2
def mX:nG X .Add (uG λi j=>i+j)/\Bt X.K (uG λi j=>i+j) oW:=⟨k9,λT M H u v x y Q d va c rv h k=>by
 obtain⟨i,j,rfl,rfl,q⟩:=M9 h;exact⟨i,j,c.toI,rv.toI,k _ _ T H (.refl va.tp) (.int _) q⟩⟩
def Np (i:Nat)(τ:BD)(R:km PV->Prop):Prop:=match Su τ i with | some (.own xs)=>R xs|_=>False
def W7 {i:Nat}{τ:BD}{R:km PV->Prop}(h:Np i τ R):∃xs,τ[i]? =some (some (.own xs))/\R xs:=by
 unfold Np at h;cases e:Su τ i with
 | none=>rw[e] at h;exact h.elim
 | some z=>
   rw[e] at h;cases z with
   | val x=>exact h.elim
   | own xs=>exact⟨xs,OH e,h⟩
abbrev j5:=km PV->km PV->(km PV->Prop)->Prop
def fj (K:AAP)(r:V->km V->Hp->VK->Prop)(f:j5):Prop:=∀(T M:kf->Prop) (H:Hp) (l:kf) (g vs:km V) (xs ys:km PV) (Q:VK) (h:km PV->Prop),H l=some (.lst g)->A7 K T M H g xs->A7 K T M H vs ys->f xs ys h->
 (∀c d,A7 K T M H c d->h d->Q .non (upd H l (.lst c)))->r (.ref l) vs H Q
def FS (i:Nat)(f:j5)(r:AA):AS:=λD τ=>Np i τ λxs=>r τ λys=>f xs ys λc=>D.nx (τ.set i (some (.own c)))
def dt {K:AAP}{i:Nat}{l:V->km V->Hp->VK->Prop}{f:j5}{t:TA}{r:AA}(v:fj K l f)(s:j9 K t r):aR K (ji (wq K "list" l (GJ i) t)) (FS i f r):=λB T m τ H D E d h w=>by obtain⟨xs,e,h⟩:=W7 h;obtain⟨p,vs,n,hp,r1,F,o,G⟩:=d.own i xs e;refine⟨.ref p,n, .inl ⟨rfl,vs, .inl (.inl hp)⟩,s B T m τ H _ _ d h λx ys u y c r2 h2=> ?_⟩;have g:=d.stp c;refine v u (mt B m τ) y p vs x xs ys _ _ (c.keep _ _ o hp) (r1.stp c d.va) r2 h2 λz I A C=> ?_;obtain⟨j,k⟩:=g.write (i:=i) (xs:=xs) e n (c.keep _ _ o hp) A;exact w.nx u _ _ _ (c.prog.trans k) j C
def EW {i:Nat}{x name:Str}{es:km kd}{id:String}{d:V->km V->Hp->VK->Prop}{f:j5}{r:AA}{p apos c:Pos}(slot:Slot "list" name id)(h:typeOf (.builtin id)=pure (.type "method_descriptor"))(g:n9 X id d/\fj X.K d f)(ha:SA X (e::es) r)(hN:X.N[i]? =some x:=by rfl)(hv:kB X.env.scope x:=by first | exact Or.inl rfl|exact Or.inr (Or.inl rfl)|exact Or.inr (Or.inr rfl))(hd:(x==("__debug__" :Str))=false:=by decide)(j:(x==("__classdict__" :Str))=false:=by decide)(k:attributeBase (.Name x p) name X.env (eval (.Name x p) X.env)=eval (.Name x p) X.env:=by rfl)(l:((backTo c (starEach (e::es) X.env)).all (λx=> !x.1)&&(backToKw c (keywordEach [] X.env)).all (λx=>x.1.isSome) && decide ((e::es).length+([] :km Keyword).length+(if ([] :km Keyword).isEmpty then 0 else 1)<30))=true:=by rfl)(m:(apos.endLine==c.line)=true:=by rfl)(hs:starEach (e::es) X.env=(false,eval e X.env)::starEach es X.env:=by rfl)(n:(backTo c (starEach es X.env)).any (·.1)=false:=by rfl)(o:swapsWith (.Call (.Attribute (.Name x p) name apos) (e::es) [] c) none pos.line X.env=pure false:=by rfl):SS X (.Expr (.Call (.Attribute (.Name x p) name apos) (e::es) [] c) pos) (FS i f r):=by obtain⟨t,u,s⟩:=ha;exact⟨_,iO (qE PySem.F.plainAttrs_list slot h g.1 (Rs hN hv hd j) u k l m hs n) o,dt g.2 s⟩
def Mn:j5:=λxs ys Q=>match ys with | [y] =>xs.length<sizeLine/\Q (xs ++ [y])|_=>False
def Dp:n9 X "list.append" Rv/\fj X.K Rv Mn:=by
 refine⟨Lj,λT M H l c vs xs ys Q f hl r1 r2 h k=> ?_⟩;unfold Mn at h;split at h <;> first | exact h.elim|skip
 cases r2 with
 | cons d t=> cases t;exact⟨l,c,_,rfl,rfl,hl,by rw[r1.length];exact h.1,k _ _ (r1.append (.cons d .nil)) h.2⟩
def cP:j5:=λxs ys Q=>match ys with | [.int i,y] =>(0<=i/\i<=(xs.length:Int)/\xs.length<sizeLine)/\Q (xs.take i.toNat++y::xs.drop i.toNat)|_=>False
def QS:n9 X "list.insert" Rz/\fj X.K Rz cP:=by
 refine⟨ZC,λT M H l c vs xs ys Q j hl r1 r2 h k=> ?_⟩;unfold cP at h;split at h <;> first | exact h.elim|skip
 cases r2 with
 | cons d t=>
   cases t with
   | cons f t=> cases t;cases d;obtain⟨⟨h1,h2,g⟩,i⟩:=h;exact⟨l,c,_,_,rfl,rfl,hl,h1,by rw[r1.length];exact h2,by rw[r1.length];exact g,k _ _ ((r1.take _).append (.cons f (r1.drop _))) i⟩
def nO (o:ke Nat)(R:Nat->Prop):Prop:=match o with | some j=>R j|none=>False
def lZ {o:ke Nat}{R:Nat->Prop}(h:nO o R):∃z,o=some z/\R z:=by cases o <;> first | exact⟨_,rfl,h⟩|exact h.elim
def fq (i:Nat)(c ta:AE):AS:=λD τ=>ta τ λy=>Np i τ λxs=>c τ λk=>fJ k λk=>nO (V3 xs.length k) λj=>D.nx (τ.set i (some (.own (xs.set j y))))
def d9 {i:Nat}{x:Str}{ix:kd}{z:AE}{p c:Pos}(hi:SE X ix z)(he:SE X e ta)(hN:X.N[i]? =some x:=by rfl)(hv:kB X.env.scope x:=by first | exact Or.inl rfl|exact Or.inr (Or.inl rfl)|exact Or.inr (Or.inr rfl))(hd:(x==("__debug__" :Str))=false:=by decide)(I:(x==("__classdict__" :Str))=false:=by decide)(ha:∀v,assign (.Subscript (.Name x p) ix c) X.env v=(do
   let l <-holding [v] (eval (.Name x p) X.env);let m <-holding [v,l] (eval ix X.env)
   standAt c
   holding [v,l,m] (setItem l m v)
   release [v,l,m] []):=by intro _;rfl)(hs:swapsWithSole [.Subscript (.Name x p) ix c] e pos.line X.env=pure false:=by rfl)(hw:swappedStores [.Subscript (.Name x p) ix c] e X.env=pure none:=by rfl)(h1:(assignEach [.Subscript (.Name x p) ix c] X.env).map (·.2)= [assign (.Subscript (.Name x p) ix c) X.env] :=by rfl):SS X (.Assign [.Subscript (.Name x p) ix c] e pos) (fq i z ta):=by obtain⟨t,J,s⟩:=hi;obtain⟨t',n,K⟩:=he;refine⟨_,Ru n (WR (Rs hN hv hd I) J Om ha) hs hw h1,λB T A τ H D S C h L=>K B T A τ H _ _ C h λv y M O E r1 h1=> ?_⟩;have d:=C.stp E;obtain⟨xs,e,h1⟩:=W7 h1;obtain⟨q,vs,F,hp,r2,U,G,W⟩:=d.own i xs e;refine⟨.ref q,F,s B M A τ O _ _ d h1 λw k P Y f Q g=> ?_⟩;obtain⟨k,rfl,g⟩:=Rq g;obtain⟨j,R,g⟩:=lZ g;cases Q.toI;have o:=d.stp f;obtain⟨r,u⟩:=o.write (i:=i) (xs:=xs) e F (f.keep _ _ G hp) (((r2.stp f d.va)).set (r1.stp f d.va) j);exact⟨q,vs,k,j,rfl,rfl,f.keep _ _ G hp,by rw[r2.length];exact R,L.nx P _ _ _ ((E.trans f).prog.trans u) r g⟩
end
section
variable {X:Cx}{st:Stmt}{e:kd}{pos:Pos}{a b:AS}{ta:AE}
def U8 (c:AT)(b:AS)(D:G1):Nat->BD->Prop
 | 0,_=>False
 | n+1,τ=>c (frz τ) λk=>if k=true then b {D with nx:=U8 c b D n,ct:=U8 c b D n,bk:=D.nx} τ else D.nx τ
def LR (c:AT)(b:AS):AS:=λD τ=>∃n,U8 c b D n τ
def K1 {c:kd}{body:km Stmt}{y:AT}(hp:PassesOwn (model X.prog X.w) X.A X.env X.xe)(hc:RC X c y)(hb:fE X body b):SS X (.While c body [] pos) (LR y b):=by
 obtain⟨t,p,s⟩:=hc;obtain⟨t',M,N⟩:=hb;refine⟨_,dE hp p M,λB T F τ H D G O h I=> ?_⟩;obtain⟨n,h⟩:=h;refine⟨λm g z=>∃C d,SR X.K B C z g d/\Fd T H F τ C z g d/\U8 y b G m d,⟨n,T,τ,O, .refl,h⟩, ?_⟩;rintro m g z ⟨C,d,r,j,h1⟩;cases m with
 | zero=>exact h1.elim
 | succ m=>
   refine s B C g (frz d) z _ _ r.frz h1 λk J L E h2=> ?_;have u:=r.stp E;have v:=(I.shift j).shift E.prog;cases k with
   | false=>rw[AAQ AAe] at h2 ⊢;exact v.nx J L g d .refl u h2
   | true=> rw[AAR rfl] at h2 ⊢;refine⟨λi x=>∃o f,SR X.K B o x i f/\Fd T H F τ o x i f/\U8 y b G m f,λi x q=>⟨m,ACx m,q⟩, ?_⟩;exact N B J g d L _ _ u h2 ⟨λo x i f q l h'=>⟨o,f,l,(j.trans E.prog).trans q,h'⟩,v.nx,λo x i f q l h'=>⟨o,f,l,(j.trans E.prog).trans q,h'⟩,I.rt⟩
abbrev AI:=BD->(km PV->Prop)->Prop
structure VQ (K:AAP) (M:Addr->Prop) (J:It) (xs:List PV) (T:Addr->Prop) (H:Hp):Prop where
 go:∀i y,xs[i]? =some y->J.go i H
 yld:∀i y v H',xs[i]? =some y->J.yld i H v H'->De T H T H'/\Cc K T M H' v y
 stop:∀i,xs.length<=i->J.stop i H
def W1 (T:kf->Prop)(H c:Hp):Prop:=∀b o,¬T b->H b=some o->c b=some o
def Yb (K:AAP)(s:kc)(j:TI)(k:AI):Prop:=∀(B:DG) (T:kf->Prop) (f:L2.St) (τ:BD) (H:Hp) (R:It->Hp->Prop) (i:km PV->Prop),SR K B T H f τ->k τ i->
 (∀J xs g c,De T H g c->(∀M2 h d,Mv K g (mt B f τ) c h M2 d->HN h M2 d->(s=true\/W1 g c d)->VQ K M2 J xs h d)->i xs->R J c)->j f H R
def SI (X:Cx)(d iter:kd)(s:kc)(f:AI):Prop:=∃c,PI X d iter c/\Yb X.K s c f
def pL (K:AAP)(d:TE):TI:=λf H R=>d f H λx c=>∃a,x= .ref a/\(((∃xs,FF K c a xs)/\R (sO K a) c)\/((∃xs,KB K c a xs)/\R (sP K a) c))
def dB {j l:kd}{g:TE}(hl:PE X l g):PI X j l (pL X.K g):=by
 intro Wf s k H R I h;refine Bf (hl Wf s k H _ I h) λv c ⟨x,i,d,r1,m⟩=> ?_;obtain⟨a,e,q⟩:=m;subst e;cases r1;rcases q with⟨⟨xs,hq⟩,q⟩|⟨⟨xs,hq⟩,q⟩
 .obtain ⟨f,rv,p,hz⟩:=d.list hq;refine AC5 p.isList ?_;refine⟨c.heap.objs.size, [c.heap.objs.size],_,_,i,rfl,d.kept (t':=c.toks) λb o e=>AAV _ e,Zo a _,⟨_,AAi _ rfl,rfl,rfl⟩,λb hb=> ?_,q⟩;have e:b=c.heap.objs.size:=by simpa using hb
  subst e;exact d.fpOk (AAW _) (d.hok.fresh (AAW _))
 .obtain ⟨f,rv,p,hz⟩:=d.tuple hq;refine wpAny_pyIter_tuple (show c.heap.IsTuple a f.toArray from p) ?_;refine⟨c.heap.objs.size, [c.heap.objs.size],_,_,i,rfl,d.kept (t':=c.toks) λb o e=>AAV _ e,Wv a _,⟨_,AAi _ rfl,rfl,rfl⟩,λb hb=> ?_,q⟩;have e:b=c.heap.objs.size:=by simpa using hb
  subst e;exact d.fpOk (AAW _) (d.hok.fresh (AAW _))
def HP (ta:AE):AI:=λτ Q=>ta τ λx=>Ua x Q
def bo {K:AAP}{T M:kf->Prop}{H:Hp}{a:kf}{xs:km PV}(va:HN T M H)(r:Cc K T M H (.ref a) (.tup xs)):VQ K M (sP K a) xs T H:=by
 obtain⟨f,vs,e,hq,rs⟩:=Ej r;cases e;refine⟨λi y h=> ?_,λi y v g h c=> ?_,λi h=>⟨vs,hq,by rw[rs.length];exact h⟩⟩
 .obtain ⟨v,hv,_⟩:=rs.get h;exact⟨vs,v,hq,hv⟩
 .obtain ⟨rfl,c⟩:=c;obtain⟨z,hz,d⟩:=rs.get' (c vs hq);rw[h] at hz;cases hz;exact⟨.refl va.tp,d⟩
def bn {K:AAP}{T M:kf->Prop}{H:Hp}{a:kf}{vs:km V}{xs:km PV}(va:HN T M H)(hq:H a=some (.lst vs))(rs:A7 K T M H vs xs):VQ K M (sO K a) xs T H:=by
 have c:FF K H a vs:= .inl (.inl hq);refine⟨λi y h=> ?_,λi y v g h d=> ?_,λi h=>⟨vs,c,by rw[rs.length];exact h⟩⟩
 .obtain ⟨v,hv,_⟩:=rs.get h;exact⟨vs,v,c,hv⟩
 .obtain ⟨rfl,d⟩:=d;obtain⟨z,hz,f⟩:=rs.get' (d vs c);rw[h] at hz;cases hz;exact⟨.refl va.tp,f⟩
def DK {j:kd}(h:SE X e ta):SI X j e true (HP ta):=by
 obtain⟨t,p,s⟩:=h;refine⟨_,dB p,λB T l τ H R y m h k=>s B T l τ H _ _ m h λv x f g i r1 h1=> ?_⟩;obtain⟨xs,hx,q⟩:=JT h1;rcases hx with rfl|rfl
 .obtain ⟨a,vs,rfl,hq,rs⟩:=Ej r1;refine⟨a,rfl, .inr ⟨⟨vs,hq⟩,k _ xs f g i (λM2 n o c va _=>bo va (r1.mv c)) q⟩⟩
 .obtain ⟨a,vs,rfl,hq,z,A,rs⟩:=DL r1;refine⟨a,rfl, .inl ⟨⟨vs, .inl (.inl hq)⟩,k _ xs f g i (λM2 n o c va _=> ?_) q⟩⟩;obtain⟨C,r,u,w,_,_,d⟩:=DL (r1.mv c);cases u;exact bn va w d
def rng (lo:Int)(n:Nat):km PV:=(List.range n).map λ(k:Nat)=> .int (lo+(k:Int))
def UI {K:AAP}{T M:kf->Prop}{H:Hp}{lo:Int}{n:Nat}(va:HN T M H):VQ K M (n6 lo n) (rng lo n) T H:=by
 have hl:(rng lo n).length=n:=by simp[rng]
 refine⟨λi y h=> ?_,λi y v d h c=> ?_,λi h=>by rw[hl] at h;exact h⟩
 .have:=(AAw.mp h).1;rw[hl] at this;exact this
 .obtain ⟨rfl,rfl⟩:=c;have hi:=(AAw.mp h).1;rw[hl] at hi;have:y= .int (lo+(i:Int)):=by simp[rng,List.getElem?_range hi] at h;exact h.symm
  subst this;exact⟨.refl va.tp, .int _⟩
def Te (r:AA):AI:=λτ Q=>r τ λxs=>match xs with | [.int j] =>(-(2^62)<=j/\j<2^62)/\Q (rng 0 j.toNat)|_=>False
def ft (r:AA):AI:=λτ Q=>r τ λxs=>match xs with | [.int i, .int j] =>(-(2^62)<=i/\i<2^62/\ -(2^62)<=j/\j<2^62)/\Q (rng i (j-i).toNat)|_=>False
def QQ {d c:kd}{r:AA}{p:Pos}(f:Gl X "range")(g:X.mg "range" =none)(ha:SA X [c] r)(hs:starEach [c] X.env= [(false,eval c X.env)] :=by rfl):SI X d (.Call (.Name "range" p) [c] [] pos) true (Te r):=by
 obtain⟨t,i,s⟩:=ha;refine⟨_,ZS f g i hs,λB T j τ H R u l h k=>s B T j τ H _ _ l h λvs xs m n o r1 h1=> ?_⟩;split at h1 <;> first | exact h1.elim|skip
 cases r1 with
 | cons r t=> cases t;cases r;exact⟨_,rfl,h1.1.1,h1.1.2,k _ _ m n o (λM2 v w x va _=>UI va) h1.2⟩
def jg {f c d:kd}{r:AA}{p:Pos}(g:Gl X "range")(i:X.mg "range" =none)(ha:SA X [c,d] r)(hs:starEach [c,d] X.env= [(false,eval c X.env),(false,eval d X.env)] :=by rfl)(j:starEach [d] X.env= [(false,eval d X.env)] :=by rfl):SI X f (.Call (.Name "range" p) [c,d] [] pos) true (ft r):=by
 obtain⟨t,l,s⟩:=ha;refine⟨_,ZT g i l hs j,λB T m τ H R x n h k=>s B T m τ H _ _ n h λvs xs o u v r1 h1=> ?_⟩;split at h1 <;> first | exact h1.elim|skip
 cases r1 with
 | cons r t=>
   cases t with
   | cons w t=> cases t;cases r;cases w;exact⟨_,_,rfl,h1.1,k _ _ o u v (λM2 y z A va _=>UI va) h1.2⟩
def Pf (xs ys:km PV):km PV:=List.zipWith (λx y=> .tup [x,y]) xs ys
def pM (K:AAP)(ta:TA):TI:=λf H R=>ta f H λvs d=>∃b c l m,vs= [.ref l, .ref m] /\(∃xs,Sq K b d l xs)/\(∃ys,Sq K c d m ys)/\R (sQ K b c l m) d
def iH {e f:kd}{ta:TA}{p pos g:Pos}{es:km kd}{w:Nat}(x:Gl X "zip")(y:X.mg "zip" =none)(ha:PA X [e,f] ta)(hs:starEach [e,f] X.env= [(false,eval e X.env),(false,eval f X.env)] :=by rfl)(t:starEach [f] X.env= [(false,eval f X.env)] :=by rfl):PI X (.Tuple es w g) (.Call (.Name "zip" p) [e,f] [] pos) (pM X.K ta):=by
 intro Wf s z H R I h;refine Call_ (Hl I x y boot_zip (ACO (Bf (ha pos Wf s z H _ I h) λA d ⟨vs,B,i,r1,C⟩=> ?_) (by rw[hs,t]) (by rw[t];rfl)));obtain⟨b,c,l,m,rfl,⟨xs,hl⟩,⟨ys,D⟩,q⟩:=C;cases r1 with
 | cons r j=>
 cases j with
 | cons E j=>
 cases j;cases r;cases E;obtain⟨A,J,u,_⟩:=i.sq hl;obtain⟨vs,rv,sv,_⟩:=i.sq D;have k:l<d.heap.objs.size:=by cases b <;> (obtain⟨o,e,_⟩:=u;exact AAU e)
 have n:m<d.heap.objs.size:=by cases c <;> (obtain⟨o,e,_⟩:=sv;exact AAU e)
 refine nD u sv λh1 Z F=>wpAny_pyIter_zip Z.zip ?_;refine⟨_,_,_,_,B,rfl,i.kept (t':=d.toks) F,en (zipApart_new k n),Z,λp hp=> ?_,q⟩;have v:d.heap.objs.size<=p:=by
  have G:p=d.heap.objs.size+4\/p=d.heap.objs.size+2\/p=d.heap.objs.size+3\/p=d.heap.objs.size\/p=d.heap.objs.size+1:=by simpa using hp
  rcases G with e|e|e|e|e <;> (rw[e];omega)
 exact i.fpOk v (i.hok.fresh v)
def oN:PV->kc | .lst _=>true|_=>false
def YF {K:AAP}{T M:kf->Prop}{H:Hp}{v:V}{x:PV}{xs:km PV}(hx:x= .tup xs\/x= .lst xs)(r:Cc K T M H v x):∃a vs,v= .ref a/\Sq K (oN x) H a vs/\A7 K T M H vs xs:=by
 rcases hx with rfl|rfl
 .obtain ⟨a,vs,rfl,hq,rs⟩:=Ej r;exact⟨a,vs,rfl,hq,rs⟩
 .obtain ⟨a,vs,rfl,hq,_,_,rs⟩:=DL r;exact⟨a,vs,rfl, .inl (.inl hq),rs⟩
def bq {K:AAP}{T M:kf->Prop}{H:Hp}{l m:kf}{x y:PV}{xs ys:km PV}(va:HN T M H)(hx:x= .tup xs\/x= .lst xs)(hy:y= .tup ys\/y= .lst ys)(r:Cc K T M H (.ref l) x)(r2:Cc K T M H (.ref m) y):VQ K M (sQ K (oN x) (oN y) l m) (Pf xs ys) T H:=by
 obtain⟨_,vs,e,hq,rs⟩:=YF hx r;cases e;obtain⟨_,f,e,g,c⟩:=YF hy r2;cases e;have hz:∀i z,(Pf xs ys)[i]? =some z->∃a b,xs[i]? =some a/\ys[i]? =some b/\z=PV.tup [a,b] :=λi z h=>by
  unfold Pf at h;rw[List.getElem?_zipWith] at h;cases d:xs[i]? with
  | none=>rw[d] at h;cases h
  | some a=>
    cases j:ys[i]? with
    | none=>rw[d,j] at h;cases h
    | some b=>rw[d,j] at h;cases h;exact⟨a,b,by first | rfl|exact d,by first | rfl|exact j,rfl⟩
 refine⟨λi z h=> ?_,λi z v A h s=> ?_,λi h=>⟨vs,f,hq,g, ?_⟩⟩
 .obtain ⟨a,b,ha,hb,_⟩:=hz i z h;obtain⟨u,hu,_⟩:=rs.get ha;obtain⟨w,hw,_⟩:=c.get hb;exact⟨vs,f,u,w,hq,g,hu,hw⟩
 .obtain ⟨a,b,ha,hb,rfl⟩:=hz i z h;obtain⟨p,u,w,rfl,hn,rfl,hu,hw⟩:=s;obtain⟨B,k,ra⟩:=rs.get' (hu vs hq);obtain⟨C,n,t⟩:=c.get' (hw f g);rw[ha] at k;cases k;rw[hb] at n;cases n;have st:=De.lay (o:= .tup [u,w]) va.tp hn;exact⟨st, .tup (.inl Ah) (.cons (ra.stp st va) (.cons (t.stp st va) .nil))⟩
 .rw [rs.length,c.length];have:(Pf xs ys).length=min xs.length ys.length:=by simp[Pf]
  omega
def oK (r:AA):AI:=λτ Q=>r τ λc=>match c with | [x,y] =>Ua x λxs=>Ua y λys=>Q (Pf xs ys)|_=>False
def mZ {e f:kd}{r:AA}{p pos c:Pos}{es:km kd}{i:Nat}(j:Gl X "zip")(n:X.mg "zip" =none)(ha:SA X [e,f] r)(hs:starEach [e,f] X.env= [(false,eval e X.env),(false,eval f X.env)] :=by rfl)(o:starEach [f] X.env= [(false,eval f X.env)] :=by rfl):SI X (.Tuple es i c) (.Call (.Name "zip" p) [e,f] [] pos) true (oK r):=by
 obtain⟨t,u,s⟩:=ha;refine⟨_,iH j n u hs o,λB T v τ H R J w h k=>s B T v τ H _ _ w h λvs xs z A C r1 h1=> ?_⟩;split at h1 <;> first | exact h1.elim|skip
 rename_i x y;obtain⟨xs,hx,h2⟩:=JT h1;obtain⟨ys,hy,D⟩:=JT h2;cases r1 with
 | cons ra t=>
   cases t with
   | cons d t=> cases t;obtain⟨l,E,rfl,hq,rs⟩:=YF hx ra;obtain⟨m,F,rfl,G,I⟩:=YF hy d;exact⟨oN x,oN y,l,m,rfl,⟨E,hq⟩,⟨F,G⟩,k _ _ z A C (λM2 K L g va _=>bq va hx hy (ra.mv g) (d.mv g)) D⟩
def ED (g:AG)(b:AS)(D:G1):km PV->BD->Prop
 | [],τ=>D.nx τ
 | x::r,τ=>g x τ λc=>b {D with nx:=ED g b D r,ct:=ED g b D r,bk:=D.nx} c
def Fe (c:AI)(g:AG)(b:AS):AS:=λD τ=>c τ λxs=>ED g b D xs τ
def Fd.mvv {K:AAP}{B:DG}{T g:kf->Prop}{H h:Hp}{f c:L2.St}{τ d:BD}(s:SR K B T H f τ)(p:Fd T H f τ g h c d):Mv K T (mt B f τ) H g (mt B c d) h:=
 ⟨s.va,λb o t m e=>p.keep b o t (λz=>m (.inr z)) e,p.sub,λb n t=>(p.new b t).elim id λz=>absurd z n,λb n m=>m.elim .inl λz=>(p.own b z).elim .inr λz=>absurd z n⟩
def Ca {G iter:kd}{body:km Stmt}{R:AI}{g:AG}(hp:PassesOwn (model X.prog X.w) X.A X.env X.xe)(hc:X.calm=true)(hi:SI X G iter true R)(hg:SG X G g)(hb:fE X body b)(hs:∀x,foldedSetIterable iter X.env x=pure x:=by intro _;rfl):SS X (.For G iter body [] pos) (Fe R g b):=by
 obtain⟨wi,pi,si⟩:=hi;obtain⟨tg',pg,sg⟩:=hg;obtain⟨tb,pb,sb⟩:=hb;refine⟨_,dD hp hc pi pg pb hs,λB T C τ H D S U h I=>si B T C τ H _ _ U h λJ xs E L M walk h1=> ?_⟩;have s:=U.stp M;refine⟨λi m f t=>m=xs.length-i/\∃k d,SR X.K B k t f d/\Fd E L C τ k t f d/\ED g b S (xs.drop i) d,⟨_,rfl,E,τ,s, .refl,h1⟩, ?_⟩;rintro i m f t ⟨rfl,k,d,n,o,h2⟩;have w:=walk _ k t (o.mvv s) n.va (.inl rfl);have N:=(I.shift M.prog).shift o;by_cases W:i<xs.length
 .have Y:xs[i]? =some xs[i] :=AAm W;rw[ACA W] at h2;refine .inr ⟨w.go i _ Y,λj u=>∃l c,SR X.K B l u j c/\Fd E L C τ l u j c/\ED g b S (xs.drop (i+1)) c,λj u ⟨l,c,q1,q2,q3⟩=>⟨_,by omega,rfl,l,c,q1,q2,q3⟩,λv F yl=> ?_⟩;obtain⟨Z,r3⟩:=w.yld i _ v F Y yl;have O:=n.stp Z;refine sg B k f d F v _ _ _ O r3 h2 λy z P o4 h4=> ?_;have p:Fd E L C τ k F y z:=(o.trans Z.prog).trans (.less o4);have Q:=(I.shift M.prog).shift p;exact sb B k y z F _ _ P h4 ⟨λl u j c q r h'=>⟨l,c,r,p.trans q,h'⟩,Q.nx,λl u j c q r h'=>⟨l,c,r,p.trans q,h'⟩,I.rt⟩
 .rw [ACX (by omega)] at h2;exact .inl ⟨w.stop i (by omega),N.nx k t f d .refl n h2⟩
def Yg:ke AV->ke AV|some (.val x)=>some (.val x)|_=>none
def KH (own:Nat)(ix:km Nat)(τ:BD):BD:=List.replicate own none++ix.map λi=>Yg (Su τ i)
def Cp (g:AG)(t:AT)(te:AE)(c:BD)(Q:km PV->Prop):km PV->km PV->Prop
 | [],acc=>Q acc
 | x::r,acc=>g x c λd=>t d λok=>if ok=true then te d λy=>Cp g t te c Q r (acc ++ [y]) else Cp g t te c Q r acc
def CF (c:AI)(own:Nat)(ix:km Nat)(g:AG)(t:AT)(te:AE):AA:=λτ Q=>c τ λxs=>xs.length<sizeLine/\Cp g t te (KH own ix τ) Q xs []
def aU {own:Nat}{ix:km Nat}{τ:BD}{j:Nat}{x:PV}(h:(KH own ix τ)[j]? =some (some (.val x))):own<=j/\∃i,ix[j-own]? =some i/\τ[i]? =some (some (.val x)):=by
 unfold KH at h;by_cases hj:j<own
 .rw [AAz (by simpa using hj),ABg,AAR hj] at h;cases h
 .rw [ABH (by simpa using hj),ABc,AAx] at h;cases e:ix[j-own]? with
  | none=>rw[e] at h;cases h
  | some i=>
    rw[e] at h;refine⟨by omega,i,rfl,OH ?_⟩;cases c:Su τ i with
    | none=>simp[c,Yg] at h
    | some z=>cases z <;> simp[c,Yg] at h;subst h;rfl
def F9 {own:Nat}{ix:km Nat}{τ:BD}{j:Nat}{xs:km PV}:(KH own ix τ)[j]? ≠some (some (.own xs)):=λh=>by
 unfold KH at h;by_cases hj:j<own
 .rw [AAz (by simpa using hj),ABg,AAR hj] at h;cases h
 .rw [ABH (by simpa using hj),ABc,AAx] at h;cases e:ix[j-own]? with
  | none=>rw[e] at h;cases h
  | some i=>
    rw[e] at h;cases c:Su τ i with
    | none=>simp[c,Yg] at h
    | some z=>cases z <;> simp[c,Yg] at h
def DG.blk (B:DG)(c:L2.St)(τ:BD)(D:kf):DG:=⟨B.T,B.H,λa=>mt B c τ a\/a=D⟩
def SR.blk {K:AAP}{B:DG}{T d:kf->Prop}{H f:Hp}{c:L2.St}{τ:BD}{D:kf}{h:km V}{own:Nat}{ix:km Nat}(s:SR K B T H c τ)(q:De T H d f)(hn:H D=none)(hd:f D=some (.lst h))(l:¬d D):SR K (B.blk c τ D) d f (C0 own ix c) (KH own ix τ):=by
 have g:=s.stp q;have u:Mv K T (mt B c τ) H d (mt (B.blk c τ D) (C0 own ix c) (KH own ix τ)) f:=⟨s.va,λb o t _ e=>q.keep b o t e,q.sub,λb n t=>(q.new b t).elim id λz=>absurd z n,λb n z=>by
  rcases z with(z|z)|⟨_,_,z,_⟩
  .exact z
  .subst z;exact absurd hn n
  .exact absurd z F9⟩
 refine⟨by simp[C0,KH],λj x e=> ?_,λj xs e=>absurd e F9,λj k xs ys p e=>absurd e F9,g.tp,λa m=> ?_,λa m=> ?_,g.st⟩
 .obtain ⟨hj,i,hi,w⟩:=aU e;obtain⟨v,hv,r⟩:=s.val i x w;refine⟨v, ?_,r.mv u⟩;unfold C0;rw[ABH (by simpa using hj),ABc,AAx,hi];simp[hv]
 .rcases m with m|m
  .exact g.va.mu a m
  .subst m;exact⟨_,hd,LL.lst⟩
 .rcases m with m|m
  .exact g.nt m
  .subst m;exact l
def j7 (X:Cx)(c:km kd)(t:AT):Prop:=∃d,YY X c d/\Me X.K d t
def D5:AT:=λ_ Q=>Q true
def Bc:j7 X [] D5:=⟨_,iI,λB T d τ H Q f c h k=>k true T H (.refl c.tp) h⟩
def NE {c:kd}{t:AT}(h:RC X c t):j7 X [c] t:=let ⟨_,p,s⟩:=h;⟨_,iJ p,s⟩
def Uy {K:AAP}{s:kc}{wi:TI}{ai:AI}{own:Nat}{ix:km Nat}{g:TG}{ag:AG}{tt:TT}{C:AT}{te:TE}(hi:Yb K s wi ai)(hg:J9 K g ag)(ht:Me K tt C)(he:E6 K te ta):aQ K (eM wi own ix g tt te) (CF ai own ix ag C ta):=by
 intro B T E τ H Q AQ sr h k;refine hi B T E τ H _ _ sr h λJ xs T1 H1 s1 walk h1 D F=> ?_;obtain⟨hl,h1⟩:=h1;have j:=sr.stp s1;have nt1:¬T1 D:=λz=>by obtain⟨o,e,_⟩:=(j.tp D z).mut;rw[F] at e;cases e
 have lay:=De.lay (o:= .lst []) j.tp F;refine⟨λi m G=>m=xs.length-i/\∃p vs c,De T1 H1 p G/\G D=some (.lst vs)/\¬p D/\A7 K p (λa=>mt B E τ a\/a=D) G vs c/\c.length<=i/\Cp ag C ta (KH own ix τ) AQ (xs.drop i) c,
  ⟨_,rfl,T1, [], [],lay,Ah,nt1, .nil,AAW _,h1⟩, ?_⟩
 rintro i m G ⟨rfl,p,vs,c,r,Z,f,r2,gS,h2⟩;have I:=j.blk (own:=own) (ix:=ix) r F Z f;have L:HN p (λa=>mt B E τ a\/a=D) G:=⟨I.tp,I.bm⟩;have w:=walk (λa=>mt B E τ a\/a=D) p G ⟨j.va,λb o t _ e=>r.keep b o t e,r.sub,λb n t=>(r.new b t).elim id λz=>absurd z n,λb n z=>z.elim id λz=>by subst z;exact absurd F n⟩ L (.inr r.keep);by_cases Fn:i<xs.length
 .have UE:xs[i]? =some xs[i] :=AAm Fn;rw[ACA Fn] at h2;refine .inr ⟨w.go i _ UE,λv H3 yl=> ?_⟩;obtain⟨P,r3⟩:=w.yld i _ v H3 UE yl;have l:=I.stp P;refine hg _ p _ _ H3 v _ _ _ l (r3.mv (.anti ⟨l.tp,l.bm⟩ λa z=>z.elim id λ⟨_,_,z,_⟩=>absurd z F9)) h2 λR S U o4 h4=> ?_;refine ht _ p R S H3 _ _ U h4 λok T5 H5 N h5=> ?_;have u:=U.stp N;have kW:=P.keep D _ f Z;have gQ:=N.keep D _ f kW;have M:¬T5 D:=λz=>(N.new D z).elim f λn=>by rw[n] at kW;cases kW
  have r5:=(r2.stp P L).stp N ⟨l.tp,l.bm⟩;cases ok with
  | false=> rw[AAQ AAe] at h5 ⊢;exact⟨_,by omega,rfl,T5,vs,c,(r.trans P).trans N,gQ,M,r5,by omega,h5⟩
  | true=>
    rw[AAR rfl] at h5 ⊢;refine he _ T5 R S H5 _ _ u h5 λvy y O H6 W r6 h6=> ?_;have A:=u.stp W;have tI:=W.keep D _ M gQ;have Y:¬O D:=λz=>(W.new D z).elim M λn=>by rw[n] at gQ;cases gQ
    have va6:HN O (λa=>mt B E τ a\/a=D) H6:=⟨A.tp,A.bm⟩;have r7:=r5.stp W ⟨u.tp,u.bm⟩;have s7:=((r.trans P).trans N).trans W;have tp8:∀a,O a->E7 (upd H6 D (.lst (vs ++ [vy]))) a:=λa t=>by obtain⟨d,x,e,z⟩:=A.tp a t;exact⟨d,x,by rw[Al (λw=>by subst w;exact Y t)];exact e,z⟩
    have mv8:Mv K O (λa=>mt B E τ a\/a=D) H6 O (λa=>mt B E τ a\/a=D) (upd H6 D (.lst (vs ++ [vy]))):=⟨va6,λb o _ m e=>by rw[Al (λw=>m (.inr w))];exact e,λ_ t=>t,λ_ _ t=>t,λ_ _ z=>z⟩;refine⟨vs,tI,by rw[r2.length];omega,_,(by omega:xs.length-(i+1)<xs.length-i),rfl,O,vs ++ [vy],c ++ [y],⟨λb o t e=> ?_,s7.sub,s7.new,tp8⟩,Ah,Y,(r7.append (.cons (r6.mv (.anti A.va λa z=> .inl z)) .nil)).mv mv8,by simp;omega,h6⟩;rw[Al (A2 e F)];exact s7.keep b o t e
 .rw [ACX (by omega)] at h2;refine .inl ⟨w.stop i (by omega), ?_⟩;exact k D vs c p G (s1.trans r) (j.add r F Z LL.lst f) (s1.none F) Z f (r2.mv (.anti L λa z=>by
   rcases z with(z|z)|z
   .exact .inl (.inl z)
   .exact .inr z
   .exact .inl (.inr z))) h2
structure Z8 (X:Cx) (tg elt:Expr) (ifs:List Expr) (scope:Scope) (own:Nat) (ix:List Nat) (N:List Str) (g:AG) (t:AT) (te:AE):Prop where
 ex:∃g' t' te',LI X tg elt ifs scope own ix N g' t' te'/\J9 X.K g' g/\Me X.K t' t/\E6 X.K te' te
def CI {f c iter:kd}{d:km kd}{scope:Scope}{own:Nat}{ix:km Nat}{N:km Str}{g:AG}{t:AT}{s:kc}{h:AI}(hc:X.calm=true)(hi:SI X f iter s h)(O:Z8 X f c d scope own ix N g t ta)(hs:∀x,foldedSetIterable iter X.env x=pure x:=by intro _;rfl):SF X (.ListComp c [⟨f,iter,d,0⟩] scope pos) (CF h own ix g t ta):=by obtain⟨n,i,j⟩:=hi;obtain⟨g',t',k,O,l,st,m⟩:=O.ex;exact⟨_,iB hc i O hs,Uy j l st m⟩
def GI {i:Nat}{x:Str}{pos' c:Pos}{h d iter:kd}{f:km kd}{scope:Scope}{own:Nat}{ix:km Nat}{N:km Str}{g:AG}{t:AT}{s:kc}{j:AI}(hc:X.calm=true)(hN:X.N.Nodup)(k:X.N[i]? =some x)(hx:Loc X.env.scope x)(hi:SI X h iter s j)(O:Z8 X h d f scope own ix N g t ta)(l:swapsWith (.ListComp d [⟨h,iter,f,0⟩] scope pos) (some (.Name x pos')) c.line X.env=pure true:=by rfl)(hs:∀x,foldedSetIterable iter X.env x=pure x:=by intro _;rfl)(m:X.fn x=true\/X.env.scope.names.lookup x=some .local:=by first | exact .inl rfl|exact .inr rfl|assumption):SS X (.Assign [.Name x pos'] (.ListComp d [⟨h,iter,f,0⟩] scope pos) c) (Ar (DQ (CF j own ix g t ta)) (Au i)):=by obtain⟨v,n,o⟩:=hi;obtain⟨g',t',p,O,r,st,u⟩:=O.ex;exact⟨_,iN hc hN k hx n O l hs m,SL (dm (Uy o r st u)) SM⟩
end
def L6 (N:Nat)(xs:km PV):BD:=xs.map (λx=>some (.val x))++List.replicate (N-xs.length) none
def Ax (N:Nat)(b:AS):AF:=λxs Q=>b {nx:=λ_=>Q .non,rt:=Q,bk:=λ_=>False,ct:=λ_=>False} (L6 N xs)
def eH {K:AAP}{T M:kf->Prop}{H:Hp}{N:km Str}{vs:km V}{xs:km PV}(va:HN T M H)(b:∀a,M a->¬T a)(r:A7 K T M H vs xs):SR K ⟨T,H,M⟩ T H (start N vs) (L6 N.length xs):=by
 have c:∀(j:Nat) (ys:km PV),(L6 N.length xs)[j]? ≠some (some (.own ys)):=λj ys h=>by
  unfold L6 at h;by_cases hj:j<xs.length
  .rw [AAz (by simpa using hj),AAx,AAm hj] at h;cases h
  .rw [ABH (by simpa using hj),ABg] at h;split at h <;> cases h
 refine⟨by simp[L2.start,L6,r.length],λj x h=> ?_,λj ys h=>absurd h (c j ys),λj k ys d p h=>absurd h (c j ys),va.tp,va.mu,b, .refl va.tp⟩;unfold L6 at h;by_cases hj:j<xs.length
 .rw [AAz (by simpa using hj),AAx,AAm hj] at h;cases h;obtain⟨v,hv,rv⟩:=r.get (AAm hj);refine⟨v, ?_,rv.mv (.anti va λa m=>m.elim id λ⟨_,_,z,_⟩=>absurd z (c _ _))⟩;unfold L2.start;rw[AAz (by rw[AAa,r.length];exact hj),AAx,hv];rfl
 .rw [ABH (by simpa using hj),ABg] at h;split at h <;> cases h
section
variable {P:gn}{w:fm}{K:AAP}{mg:Str->ke kj}{base:fe}
def XW {x qual:Str}{st:Stmt}{f:kf}{g:FuncData}{N ps:km Str}{k n:Nat}{b:AS}(F:Ta K x qual st f g)(S:EO N ps (BP st))(hn:n=ps.length)(i:∀(a:kj) (A:da) (outer:km Env) (s:ki) (H:Hp) (E:XK),Room k (A.deeper (envOfC qual (BP st) s.heap.objs.size f a))-> fE (Tn Q2 P w K mg base N qual (BP st) f a A outer s H E).nox (ES st) b):Eg P w K mg base Q2 (k+1) f g ps (CZ K n (Ax N.length b)):=by
 refine F.ok S (λvs H Q E h=> ?_) (λa A outer s H vs Q E j h=> ?_)
 .obtain ⟨T,M,xs,l,_,_,r,hl,_⟩:=h;rw[r.length,hl,hn]
 .obtain ⟨T,M,xs,l,va,c,r,hl,m,hQ⟩:=h;obtain⟨t,p,o⟩:=i a A outer s H E j;refine⟨t,p,o ⟨T,H,M⟩ T _ _ H _ _ (eH va c r) m ⟨λd e u y _ z q=> ?_,λ_ _ _ _ _ _ q=>q.elim,λ_ _ _ _ _ _ q=>q.elim,λv x d e B C q=>hQ v x d e B C q⟩⟩;exact hQ _ _ d e z.st .non q
end
section
variable {X:Cx}
def af {prog:gn}{w:fm}{A:da}{E:kj->ki->Prop}{s:ki}{t b:kf}{d:km kj}{Q:kj->ki->Prop}(j:IsTup s.heap t #[])(hb:IsTup s.heap b d.toArray)(k:Q (.ref b) s):wpAny (model prog w) A (binaryOp .Add (.ref t) (.ref b)) Q E s:=by
 obtain⟨⟨cls,l,data,m⟩,e,hc,n,hd⟩:=id j;obtain⟨⟨f,a,data2,c⟩,g,h,o,i⟩:=id hb;simp only at hc hd h i;subst hc hd h i;exact concat_meets ⟨_,e,rfl⟩ ⟨_,g,rfl⟩ ADd seq_tuple_add ADe ADf (ADg _ _)
  (tuple_addW0 t b #[] d.toArray n o l a m c (by simp)) ⟨e,g,k⟩
def dJ (K:AAP):R2:=λx y H Q=>∃a b ys,x= .ref a/\y= .ref b/\KB K H a [] /\KB K H b ys/\Q (.ref b) H
def cj:EB X (binaryOp .Add) (dJ X.K):=by intro Wf s g H x y v u Q I d e h;obtain⟨a,b,ys,rfl,rfl,ha,hb,q⟩:=h;cases d;cases e;obtain⟨f,r1,p1,_⟩:=I.tuple ha;obtain⟨c,r2,p2,_⟩:=I.tuple hb;cases r1;exact af p1 p2 ⟨.ref b,H,I,rfl,q⟩
def ja (K:AAP):R2:=λx y H Q=>((OW (λi j=>V.int (i+j)) x y H Q\/qH x y H Q)\/jb K x y H Q)\/dJ K x y H Q
def BY:HM:=λx y Q=>match x,y with
 | .int i, .int j=>Q (.int (i+j))
 | .lst xs, .lst ys=>xs.length+ys.length<=sizeLine/\Q (.lst (xs++ys))
 | .tup xs, .tup ys=>xs.length+ys.length<=sizeLine/\Q (.tup (xs++ys))
 | _,_=>False
def A6:EB X (binaryOp .Add) (ja X.K)/\Bt X.K (ja X.K) BY:=by
 refine⟨((JU.or lf).or hU).or cj,λT M H u v x y Q n va f rv h k=> ?_⟩;unfold BY at h;split at h <;> first | exact h.elim|skip
 .exact .inl (.inl (.inl ⟨_,_,f.toI,rv.toI,k _ _ T H (.refl va.tp) (.int _) h⟩))
 .obtain ⟨a,vs,rfl,hq,r,s,rs⟩:=DL f;obtain⟨b,d,rfl,g,i,j,c⟩:=DL rv;refine .inl (.inl (.inr ⟨a,b,vs,d,rfl,rfl,hq,g,by rw[rs.length,c.length];exact h.1,λp hp=> ?_⟩));have st:=De.lay (o:= .lst (vs++d)) va.tp hp;have l:¬T p:=λz=>by obtain⟨o,e,_⟩:=(va.tp p z).mut;rw[hp] at e;cases e
  have m:¬M p:=λz=>by obtain⟨o,e,_⟩:=va.mu p z;rw[hp] at e;cases e
  exact k _ _ T _ st (.lst Ah l m ((rs.append c).stp st va)) h.2
 .obtain ⟨a,vs,rfl,hq,rs⟩:=Ej f;obtain⟨b,d,rfl,g,c⟩:=Ej rv;by_cases e:vs= []
  .subst e;cases rs;exact .inr ⟨a,b,d,rfl,rfl,hq,g,k _ _ T H (.refl va.tp) rv (by simpa using h.2)⟩
  .refine .inl (.inr ⟨a,b,vs,d,rfl,rfl,hq,g,e,by rw[rs.length,c.length];exact h.1,λz=> ?_,λz p hp=> ?_⟩)
   .subst z;cases c;exact k _ _ T H (.refl va.tp) f (by simpa using h.2)
   .have st:=De.lay (o:= .tup (vs++d)) va.tp hp;exact k _ _ T _ st (.tup (.inl Ah) ((rs.append c).stp st va)) h.2
def Ie {prog:gn}{w:fm}{A:da}{E:kj->ki->Prop}{s:ki}{t b:kf}{items:Array kj}{c d:kj}{lo hi:ke Int}{Q:kj->ki->Prop}(a:IsTup s.heap t items)(hs:s.heap.IsSliceOf b c d .none)(e:IsPart c lo)(f:IsPart d hi)(hw:HT.sIx items.size 0 lo=0/\HT.sIx items.size items.size hi=items.size)(h:Q (.ref t) s):wpAny (model prog w) A (getItem (.ref t) (.ref b)) Q E s:=by
 obtain⟨os,g,i,o⟩:=id hs;have j:s.TypeIs (.ref b) "slice" :=⟨os,g,i⟩;obtain⟨p,k,l,r,m⟩:=id a;unfold getItem;try with_reducible refine AA8 ?_
 first | refine AAO (AAS ?_)|skip
 refine AAO (wpAny_sequenceKey a.typeIs (by decide) ?_);refine AAO (ABh (name:=Str.ofString "__getitem__") a.typeIs AB7
  (ABL AB7 a.typeIs entry_tuple_getitem ?_ (args_tuple_getitem _ _)))
 show wpAny _ _ (Builtin.Tuple.tupleItemsOf (.ref t) >>= _) _ _ s;refine AAO (tupleItemsOf_ a ?_);refine AAO (ACS j ?_);rw[AAR (by decide)];refine AAO (HT.sliceApplied_gen hs e f ?_);have n:((((HT.sIx items.size 0 lo:Nat):Int)==0&&(1:Int)==1&&(HT.sIx items.size items.size hi-HT.sIx items.size 0 lo)==items.size)=true):=by rw[hw.1,hw.2];simp
 show wpAny _ _ (if (((HT.sIx items.size 0 lo:Nat):Int)==0&&(1:Int)==1&&(HT.sIx items.size items.size hi-HT.sIx items.size 0 lo)==items.size)=true then _ else _) _ _ s;rw[AAR n];unfold Builtin.Tuple.tupleIsExact;simp only[bind_assoc,pure_bind];refine AAO (ACS a.typeIs ?_);rw[AAR (by decide)];exact AAO (ABP (AAS ⟨_,rfl,AAS h⟩))
def uR (K:AAP):V->ke Int->ke Int->Hp->VK->Prop:=λx lo hi H Q=>∃a xs,x= .ref a/\KB K H a xs/\
 (HT.sIx xs.length 0 lo=0/\HT.sIx xs.length xs.length hi=xs.length)/\Q (.ref a) H
def iu:jH X (uR X.K):=by
 intro Wf s i H x v j k lo hi l Q I d hs e f h;obtain⟨a,xs,rfl,hx,hw,q⟩:=h;cases d;obtain⟨b,r,c,hz⟩:=I.tuple hx;have g:b.toArray.size=xs.length:=by rw[AAf];exact r.length.symm
 refine⟨"tuple",_,AB7.lookup,c.typeIs, ?_⟩;exact Ie c hs e f (by rw[g];exact hw) ⟨.ref a,H,I,rfl,q⟩
def Er (xs:km PV)(lo hi:ke Int):km PV:=(xs.drop (HT.sIx xs.length 0 lo)).take (HT.sIx xs.length xs.length hi-HT.sIx xs.length 0 lo)
def XN {K:AAP}{T M:kf->Prop}{H:Hp}{vs:km V}{xs:km PV}(r:A7 K T M H vs xs)(lo hi:ke Int):A7 K T M H (O9 vs lo hi) (Er xs lo hi):=by unfold O9 Er;rw[r.length];exact(r.drop _).take _
abbrev AO:=BD->(ke Int->Prop)->Prop
def sT (K:AAP)(t:TO)(a:AO):Prop:=∀(B:DG) (T:kf->Prop) (b:L2.St) (τ:BD) (H:Hp) (Q:ke Int->Hp->Prop) (c:ke Int->Prop),SR K B T H b τ->a τ c->
 (∀o e d,De T H e d->c o->Q o d)->t b H Q
def SO (X:Cx)(e:ke kd)(a:AO):Prop:=∃t,PO X e t/\sT X.K t a
def VY:AO:=λ_ Q=>Q none
def VZ (a:AE):AO:=λτ Q=>a τ λx=>fJ x λi=>Q (some i)
def Zi:SO X none VY:=⟨_,iK,λB T b τ H Q c a h k=>k _ T H (.refl a.tp) h⟩
def Zj {e:kd}{a:AE}(h:SE X e a):SO X (some e) (VZ a):=by obtain⟨t,p,s⟩:=h;refine⟨_,iL p,λB T b τ H Q j c h k=>s B T b τ H _ _ c h λv x d f g r1 h1=> ?_⟩;obtain⟨i,rfl,q⟩:=Rq h1;exact⟨i,r1.toI,k _ d f g q⟩
@[irreducible] def Zv (x:PV)(lo hi:ke Int)(Q:PV->Prop):Prop:=match x with | .tup xs=>Q (.tup (Er xs lo hi)) | .lst xs=>Q (.lst (Er xs lo hi))|_=>False
def IS {xs:km PV}{lo hi:ke Int}{Q:PV->Prop}(h:Q (.tup (Er xs lo hi))):Zv (.tup xs) lo hi Q:=by unfold Zv;exact h
def EV {xs:km PV}{lo hi:ke Int}{Q:PV->Prop}(h:Q (.lst (Er xs lo hi))):Zv (.lst xs) lo hi Q:=by unfold Zv;exact h
def VW (a:AE)(l h:AO):AE:=λτ Q=>a τ λx=>l τ λlo=>h τ λhi=>Zv x lo hi Q
def GF {e:kd}{lo hi:ke kd}{p2 n:Pos}{C:AE}{l h:AO}(he:SE X e C)(hl:SO X lo l)(D:SO X hi h):SE X (.Subscript e (.Slice lo hi none p2) n) (VW C l h):=by
 obtain⟨t,p,s⟩:=he;obtain⟨t1,p1,r⟩:=hl;obtain⟨t2,u,w⟩:=D;refine⟨_,dA ((ir.or mh).or iu) p p1 u,λB T m τ H Q M f h k=>s B T m τ H _ _ f h λv x E F g r1 h1=> ?_⟩;refine r B E m τ F _ _ (f.stp g) h1 λlo G I i h2=> ?_;refine w B G m τ I _ _ ((f.stp g).stp i) h2 λhi T3 J y d=> ?_;have b:=((f.stp g).stp i).stp y;have A:=(r1.stp i (f.stp g).va).stp y ((f.stp g).stp i).va;have c:=(g.trans i).trans y;unfold Zv at d;split at d <;> first | exact d.elim|skip
 .obtain ⟨a,vs,rfl,hq,rs⟩:=Ej A;by_cases hw:HT.sIx vs.length 0 lo=0/\HT.sIx vs.length vs.length hi=vs.length
  .refine .inr ⟨a,vs,rfl,hq,hw,k _ _ T3 J c A ?_⟩;rename_i xs;have:Er xs lo hi=xs:=by unfold Er;rw[<-rs.length,hw.1,hw.2,rs.length];simp
   rw[this] at d;exact d
  .refine .inl (.inr ⟨a,vs,rfl,hq,hw,λq j=> ?_⟩);have st:=De.lay (o:= .tup (O9 vs lo hi)) b.tp j;exact k _ _ T3 _ (c.trans st) (.tup (.inl Ah) ((XN rs lo hi).stp st b.va)) d
 .obtain ⟨a,vs,rfl,hq,N,O,rs⟩:=DL A;refine .inl (.inl ⟨a,vs,rfl, .inl (.inl hq),λq j=> ?_⟩);have st:=De.lay (o:= .lst (O9 vs lo hi)) b.tp j;have K:¬T3 q:=λz=>by obtain⟨o,e,_⟩:=(b.tp q z).mut;rw[j] at e;cases e
  have L:¬mt B m τ q:=λz=>by obtain⟨o,e,_⟩:=b.va.mu q z;rw[j] at e;cases e
  exact k _ _ T3 _ (c.trans st) (.lst Ah K L ((XN rs lo hi).stp st b.va)) d
end
def BW:AF:=λxs Q=>match xs with | [.tape, .int m] =>(0<m/\m<4611686018427387904)/\∀r,0<=r->r<m->Q (.int r)|_=>False
def Ng:AF:=λxs Q=>match xs with | [.scr ns, .int k] =>(0<=k/\k<=1000)/\Q .tape|_=>False
def nw (g:TG):Prop:=∀v b H Q c,(∀a d,Q a d->c a d)->g v b H Q->g v b H c
def ju (g:VS):Prop:=∀v b H Q c,(∀a d,Q a d->c a d)->g v b H Q->g v b H c
def SK (own:Nat)(X:Cx)(a:kd)(ag:AG):Prop:=∃g,PG X a g/\J9 X.K g ag/\Hd own g/\nw g
def rH (own:Nat)(X:Cx)(a:km kd)(ag:VB):Prop:=∃g,nF X a g/\Pr X.K g ag/\Ni own g/\ju g
section
variable {X:Cx}{pos:Pos}{own:Nat}
def ip {i:Nat}{x:Str}(hN:X.N.Nodup)(hi:X.N[i]? =some x)(hx:Loc X.env.scope x)(hk:i<own)(a:X.fn x=true\/X.env.scope.names.lookup x=some .local:=by first | exact .inl rfl|exact .inr rfl|assumption):SK own X (.Name x pos) (Au i):=
 ⟨_,Kq hN hi hx a,SM,gJ hk,gL⟩
def SX:rH own X [] Bx:=⟨_,Rt,Uz,gK,gM⟩
def GG {e:kd}{es:km kd}{ag:AG}{a:VB}(h1:SK own X e ag)(h2:rH own X es a)(hs:(assignEach (e::es) X.env).map (·.2)=assign e X.env::(assignEach es X.env).map (·.2):=by rfl):rH own X (e::es) (Ae ag a):=
 let ⟨_,p,s,k,m⟩:=h1;let ⟨_,c,d,f,b⟩:=h2;⟨_,Hr p c hs,QR s d,bJ k m f b,bK m b⟩
end
def nI (K:AAP)(own:Nat)(ag:AG):TG:=λv d H Q=>∃(B:DG) (T:kf->Prop) (τ:BD) (x:PV) (e:BD->Prop),SR K B T H d τ/\Cc K T (mt B d τ) H v x/\ag x τ e/\
 ∀a c,SR K B T H a c->(∀b,DT a c b->DT d τ b)->e c->(a.length=d.length/\∀j,own<=j->a[j]? =d[j]?)->Q a H
def qv (K:AAP)(a:AT):TT:=λe H Q=>∃(B:DG) (T:kf->Prop) (τ:BD) (c:kc->Prop),SR K B T H e τ/\a τ c/\∀b f d,De T H f d->c b->Q b d
def oU (K:AAP)(a:AE):TE:=λc H Q=>∃(B:DG) (T:kf->Prop) (τ:BD) (d:PV->Prop),SR K B T H c τ/\a τ d/\∀v x e b,De T H e b->Cc K e (mt B c τ) b v x->d x->Q v b
def SN {K:AAP}{own:Nat}{ag:AG}:J9 K (nI K own ag) ag:=λB T e τ H v x Q c d r h k=>⟨B,T,τ,x,c,d,r,h,λa b s o q _=>k a b s o q⟩
def OD {K:AAP}{own:Nat}{ag:AG}:Hd own (nI K own ag):=λv e H Q ⟨B,T,τ,x,c,d,r,h,k⟩=>⟨B,T,τ,x,c,d,r,h,λa b s o q z=>⟨k a b s o q z,z⟩⟩
def SU {K:AAP}{a:AT}:Me K (qv K a) a:=λB T d τ H Q b c h k=>⟨B,T,τ,b,c,h,k⟩
def YB {K:AAP}{a:AE}:E6 K (oU K a) a:=λB T d τ H Q b c h k=>⟨B,T,τ,b,c,h,k⟩
section
variable {X:Cx}
def SK.of {own:Nat}{i:kd}{ag:AG}(h:SK own X i ag):PG X i (nI X.K own ag):=by obtain⟨g,p,s,k,m⟩:=h;intro Wf l e H v u Q I r hw;obtain⟨B,T,τ,x,j,n,t,h,c⟩:=hw;have h1:g v e H λd w=>w=H/\∃a,SR X.K B T H d a/\(∀b,DT d a b->DT e τ b)/\j a:=s B T e τ H v x _ j n t h λd a s o q=>⟨rfl,a,s,o,q⟩;have h2:=k v e H _ h1;refine p Wf l e H v u Q I r (m v e H _ _ (λf D q=> ?_) h2);obtain⟨⟨rfl,a,y,A,C⟩,z⟩:=q;exact c f a y A C z
def j7.of {b:km kd}{a:AT}(h:j7 X b a):YY X b (qv X.K a):=by obtain⟨t,p,s⟩:=h;intro Wf e d H Q I hw;obtain⟨B,T,τ,f,g,h,c⟩:=hw;exact p Wf e d H Q I (s B T d τ H Q f g h c)
def SE.of {e:kd}{a:AE}(h:SE X e a):PE X e (oU X.K a):=by obtain⟨t,p,s⟩:=h;intro Wf d b H Q I hw;obtain⟨B,T,τ,f,g,h,c⟩:=hw;exact p Wf d b H Q I (s B T b τ H Q f g h c)
def B3 {e a:kd}{b:km kd}{scope:Scope}{own:Nat}{ix:km Nat}{N:km Str}{g:AG}{t:AT}{te:AE}(h1:scope.kind= .function)(h2:(scope.names.all λy=> !decide (y.2= .cell))=true)(f:(scope.names.all λy=> !decide (y.2= .local)||decide (scope.names.lookup y.1=some .local))=true)(h:(scope.names.all λy=> !decide (y.2= .free)||decide (X.env.scope.names.lookup y.1=some .cell))=true)(i:N.length=own+ix.length)(j:RK X (relabel scope X.env) own ix N=true)(c:∀cl C s H ex pn,SK own (blk X (relabel scope X.env) N cl C s H ex pn) e g)(d:∀cl C s H ex pn,j7 (blk X (relabel scope X.env) N cl C s H ex pn) b t)(val:∀cl C s H ex pn,SE (blk X (relabel scope X.env) N cl C s H ex pn) a te):Z8 X e a b scope own ix N g t te:=
 ⟨nI X.K own g,qv X.K t,oU X.K te,XJ h1 h2 f h i j OD (λcl C s H ex pn=>(c cl C s H ex pn).of) (λcl C s H ex pn=>(d cl C s H ex pn).of) (λcl C s H ex pn=>(val cl C s H ex pn).of),SN,SU,YB⟩
end
mutual
def pd:PV->PyData
 | .bl b=> .bool b
 | .int i=> .int i
 | .str x=> .str x
 | .tup xs=> .tuple (ML xs)
 | .lst xs=> .list (ML xs)
 | _=> .none
def ML:km PV->km PyData
 | [] => []
 | x::xs=>pd x::ML xs
end
mutual
def En:Nat->PV->kc
 | _, .non=>true
 | _, .bl _=>true
 | _, .int _=>true
 | _, .str x=>PyData.strOk x
 | n+1, .tup xs=>JR n xs
 | n+1, .lst xs=>JR n xs
 | _,_=>false
def JR:Nat->km PV->kc
 | _, [] =>true
 | n,x::xs=>En n x&&JR n xs
end
mutual
theorem IN:∀(n:Nat) (x:PV),En n x=true->(pd x).canLay0=true/\(pd x).depth<=n/\(pd x).hasDict=false
 | n, .non,_=>⟨rfl,AA3 _,rfl⟩
 | n, .bl _,_=>⟨rfl,AA3 _,rfl⟩
 | n, .int _,_=>⟨rfl,AA3 _,rfl⟩
 | n, .str x,h=>⟨by simpa[pd,PyData.canLay0,En] using h,AA3 _,rfl⟩
 | 0, .tup xs,h=>by simp[En] at h
 | 0, .lst xs,h=>by simp[En] at h
 | n+1, .tup xs,h=>by obtain⟨a,b,c⟩:=Kg n xs (by simpa[En] using h);exact⟨by simpa[pd,PyData.canLay0] using a,by simpa[pd,PyData.depth] using b,by simpa[pd,PyData.hasDict] using c⟩
 | n+1, .lst xs,h=>by obtain⟨a,b,c⟩:=Kg n xs (by simpa[En] using h);exact⟨by simpa[pd,PyData.canLay0] using a,by simpa[pd,PyData.depth] using b,by simpa[pd,PyData.hasDict] using c⟩
 | n, .tape,h=>by simp[En] at h
 | n, .scr _,h=>by simp[En] at h
 | n, .ty _,h=>by simp[En] at h
theorem Kg:∀(n:Nat) (xs:km PV),JR n xs=true->PyData.canLayAll0 (ML xs)=true/\PyData.depthAll (ML xs)<=n/\PyData.hasDictAll (ML xs)=false
 | n, [],_=>⟨rfl,AA3 _,rfl⟩
 | n,x::xs,h=>by simp only[JR,AAh] at h;obtain⟨a,b,c⟩:=IN n x h.1;obtain⟨d,f,e⟩:=Kg n xs h.2;exact⟨by simp[ML,PyData.canLayAll0,a,d],by simp only[ML,PyData.depthAll];omega,by simp[ML,PyData.hasDictAll,c,e]⟩
end
section
variable {X:Cx}{Wf:km (kf×Obj)}{σ:L2.St}{H:Hp}{s:ki}
mutual
theorem Ed (I:Inv X Wf σ H s){T M:kf->Prop}:∀(n:Nat) {x:PV} {v:V} {u:kj},Cc X.K T M H v x->En n x=true->RelV v u->∃as,Reads s.heap u (pd x) as
 | _,_,_,_, .non,_,r=>by cases r;exact⟨_, .none⟩
 | _,_,_,_, .bl b,_,r=>by cases r;exact⟨_, .bool b⟩
 | _,_,_,_, .int i,_,r=>by obtain⟨t,rfl⟩:=r;exact⟨_, .int i t⟩
 | _,_,_,_, .str x,_,r=>by obtain⟨t,rfl⟩:=r;exact⟨_, .str x t⟩
 | _,_,_,_, .ty n,h,r=>by simp[En] at h
 | 0,_,_,_, .tup hq rs,h,r=>by simp[En] at h
 | 0,_,_,_, .lst hq t m rs,h,r=>by simp[En] at h
 | n+1,_,_,_, .tup hq rs,h,r=>by cases r;obtain⟨a,rv,⟨o,c,hc,k,hd⟩,_⟩:=I.tuple hq.sq;obtain⟨as,ra⟩:=Hs I n rs (by simpa[En] using h) rv;exact⟨_, .tuple c hc hd (by simpa using ra)⟩
 | n+1,_,_,_, .lst hq t m rs,h,r=>by cases r;obtain⟨a,rv,⟨o,k,c,hc,_,hd⟩,_⟩:=I.list (FF.of hq);obtain⟨as,ra⟩:=Hs I n rs (by simpa[En] using h) rv;exact⟨_, .list c hc hd (by simpa using ra)⟩
 | _,_,_,_, .tape _,h,r=>by simp[En] at h
 | _,_,_,_, .scr _,h,r=>by simp[En] at h
theorem Hs (I:Inv X Wf σ H s){T M:kf->Prop}:∀(n:Nat) {xs:km PV} {vs:km V} {a:km kj},A7 X.K T M H vs xs->JR n xs=true->A3 vs a->∃as,ReadsAll s.heap a (ML xs) as
 | _,_,_,_, .nil,_,r=>by cases r;exact⟨_, .nil⟩
 | n,_,_,_, .cons h t,hk,r=>by
   simp only[JR,AAh] at hk;cases r with
   | cons r b=> obtain⟨as,ra⟩:=Ed I n h hk.1 r;obtain⟨bs,c⟩:=Hs I n t hk.2 b;exact⟨_, .cons ra c⟩
end
end
section
variable {X:Cx}
def Nz (x y:PV):kc:=PyData.eqv (pd x) (pd y)
def iR (K:AAP)(neg:kc):R2:=λu v H Q=>∃(T M:kf->Prop) (x y:PV),Cc K T M H u x/\Cc K T M H v y/\En 30 x=true/\En 30 y=true/\Q (.bl (if neg then !Nz x y else Nz x y)) H
def lh {k:Nat}(b:Room k X.A):EB X (compareOp .Eq) (iR X.K false):=by intro Wf s i H u v j l Q I c rv h;obtain⟨T,M,x,y,d,e,a,ky,q⟩:=h;obtain⟨as,ra⟩:=Ed I 30 d a c;obtain⟨bs,f⟩:=Ed I 30 e ky rv;obtain⟨g,m,_⟩:=IN 30 x a;obtain⟨b1,b2,_⟩:=IN 30 y ky;exact SeqAt.compareEq_reads ra f g b1 (by have:=b.un;omega) ⟨.bl _,H,I,rfl,q⟩
def lp {k:Nat}(b:Room k X.A):EB X (compareOp .NotEq) (iR X.K true):=by intro Wf s i H u v j l Q I c rv h;obtain⟨T,M,x,y,d,e,a,ky,q⟩:=h;obtain⟨as,ra⟩:=Ed I 30 d a c;obtain⟨bs,f⟩:=Ed I 30 e ky rv;obtain⟨g,m,_⟩:=IN 30 x a;obtain⟨b1,b2,_⟩:=IN 30 y ky;exact SeqAt.compareNe_reads ra f g b1 (by have:=b.un;omega) ⟨.bl _,H,I,rfl,q⟩
def HQ:HM:=λx y Q=>match de x y with | some b=>Q (.bl b)|none=>(En 30 x=true/\En 30 y=true)/\Q (.bl (Nz x y))
def PD:HM:=λx y Q=>match de x y with | some b=>Q (.bl (!b))|none=>(En 30 x=true/\En 30 y=true)/\Q (.bl (!Nz x y))
def qI (K:AAP):R2:=λx y H Q=>wn x y H Q\/iR K false x y H Q
def qN (K:AAP):R2:=λx y H Q=>wo x y H Q\/iR K true x y H Q
def CT {k:Nat}(c:Room k X.A):EB X (compareOp .Eq) (qI X.K)/\Bt X.K (qI X.K) HQ:=by
 refine⟨p9.or (lh c),λT M H u v x y Q d va a rv h k=> ?_⟩;unfold HQ at h;split at h
 .rename_i b e;obtain⟨h1,h2⟩:=Us a rv e;refine .inl ⟨h1, ?_⟩;rw[h2];exact k _ _ T H (.refl va.tp) (.bl _) h
 .exact .inr ⟨T,M,x,y,a,rv,h.1.1,h.1.2,k _ _ T H (.refl va.tp) (.bl _) h.2⟩
def GH {k:Nat}(c:Room k X.A):EB X (compareOp .NotEq) (qN X.K)/\Bt X.K (qN X.K) PD:=by
 refine⟨qB.or (lp c),λT M H u v x y Q d va a rv h k=> ?_⟩;unfold PD at h;split at h
 .rename_i b e;obtain⟨h1,h2⟩:=Us a rv e;refine .inl ⟨h1, ?_⟩;rw[h2];exact k _ _ T H (.refl va.tp) (.bl _) h
 .exact .inr ⟨T,M,x,y,a,rv,h.1.1,h.1.2,k _ _ T H (.refl va.tp) (.bl _) h.2⟩
structure j8 (x:PV):Prop where
 ok:En 30 x=true
 sh:(pd x).showable=true
 sz:(pd x).shown.length<=sizeLine
end
section
variable {prog:gn}{w:fm}{A:da}{E:kj->ki->Prop}{s:ki}
def MI {h:fe}{l:kf}{items:Array kj}(hl:h.IsList l items)(o:Obj):(h.push o).IsList l items:=by obtain⟨a,e,r⟩:=hl;exact⟨a,AAV _ e,r⟩
theorem P8 {it t:kf}{items:Array kj}(f:t≠it):∀(n i:Nat) (s:ki) (Q:km kj->ki->Prop),s.heap.IsListIter it t i->s.heap.IsList t items->i+n<=items.size-> (∀h',h'.IsListIter it t (i+n)->Heap.SameBut it s.heap h'->Q ((items.toList.drop i).take n) {s with heap:=h'})->wpAny (model prog w) A (draw (.ref it) n) Q E s
 | 0,i,s,Q,hit,_,_,hQ=>by show wpAny _ _ (pure []) Q E s;exact AAS (by simpa using hQ s.heap hit (Heap.SameBut.refl ..))
 | n+1,i,s,Q,hit,ht,Zx,hQ=>by
   have g:i<items.size:=by omega
   show wpAny _ _ (pyNext (.ref it) >>= _) Q E s;refine AAO (wpAny_pyNext_list_item hit ht (x:=items[i]) (by simp[g]) λh b a=> ?_);refine AAO (AA8 (P8 f n (i+1) _ _ b (ht.extBut a.extBut f) (by omega) λe c d=>AAS ?_));have hd:items.toList.drop i=items[i] :: items.toList.drop (i+1):=by simp[ACA,g]
   have:=hQ e (by rw[show i+(n+1)=i+1+n by omega];exact c) (a.trans d);rw[hd,ADG] at this;exact this
def MC {t:kf}{items:Array kj}{Q:km kj->ki->Prop}(k:A.handled=none)(g:s.heap.IsList t items)(hQ:∀h',Heap.ExtBut s.heap.objs.size s.heap h'->Q items.toList {s with heap:=h'}):wpAny (model prog w) A (unpackItems (.ref t) items.size none) Q E s:=by
 have j:t≠s.heap.objs.size:=by obtain⟨o,l,_⟩:=g;exact AAc (AAU l)
 unfold unpackItems;refine AAO ?_
 .unfold notIterableAtAll;refine AAO (ABo g.typeIs slot_list_iter.lookup ?_);refine AAS ?_;simp only[AA2,AAu];refine AAO (AA8 (AC5 g ?_));refine AAO (AA8 (P8 j items.size 0 _ _ ⟨_,AAi _ rfl,rfl,rfl⟩ (MI g _) (by omega) λh c a=> ?_));have m:List.take items.size (List.drop 0 items.toList)=items.toList:=by rw[List.drop_zero];exact ACV (by simp)
  rw[m];rw[AAQ (by simp)];have d:h.IsList t items:=(MI g _).extBut a.extBut j;refine AAO (AA8 (wpAny_pyNext_list_end k c d (by simp) λi f=> ?_));simp only[Option.isSome_none,AA2,AAu];refine AAS (hQ i λb o hb e=>f b o hb (a.extBut b o hb (AAV _ e)))
def KF {env:Env}{elts:km kd}{x1}{a:Pos}{t:kf}{items:Array kj}{Q:Unit->ki->Prop}(b:A.handled=none)(c:s.heap.IsList t items)(hn:(assignEach elts env).length=items.size)(d:(assignEach elts env).findIdx? (·.1)=none)(h:∀h',Heap.ExtBut s.heap.objs.size s.heap h'->wpAny (model prog w) A (assignInOrder ((assignEach elts env).map (·.2)) items.toList) Q E {s with heap:=h'}):wpAny (model prog w) A (assign (.Tuple elts x1 a) env (.ref t)) Q E s:=by rw[assign_Tuple];refine AAO (ABS ?_);unfold unpack;rw[hn,d];exact AAO (AA8 (MC b c h))
end
section
variable {X:Cx}{pos:Pos}
def Yo (K:AAP)(n:Nat)(t:VS):TG:=λv b H Q=>∃a xs,v= .ref a/\(KB K H a xs\/FF K H a xs)/\xs.length=n/\t xs b H Q
def WQ {es:km kd}{k:Nat}{t:VS}{n:Nat}(hc:X.calm=true)(h:nF X es t)(hn:(assignEach es X.env).length=n:=by rfl)(i:(assignEach es X.env).findIdx? (·.1)=none:=by rfl):PG X (.Tuple es k pos) (Yo X.K n t):=by
 intro Wf s c H v u Q I r hw;obtain⟨a,xs,j,hq,hl,hw⟩:=hw;subst j;cases r;rcases hq with hq|hq
 .obtain ⟨d,rv,f,hz⟩:=I.tuple hq;refine assign_Tuple_tuple (I.ok.hd hc) f (by simp[hn,<-hl,rv.length]) i λh' hx=> ?_;have g:Inv X Wf c H {s with heap:=h'}:=I.kept (t':=s.toks) λb o e=>hx b o (AAc (AAU e)) e;exact h Wf _ c H xs _ Q g (by simpa using rv) hw
 .obtain ⟨d,rv,f,hz⟩:=I.list hq;refine KF (I.ok.hd hc) f.isList (by simp[hn,<-hl,rv.length]) i λh' hx=> ?_;have g:Inv X Wf c H {s with heap:=h'}:=I.kept (t':=s.toks) λb o e=>hx b o (AAc (AAU e)) e;exact h Wf _ c H xs _ Q g (by simpa using rv) hw
def JH (n:Nat)(r:VB):AG:=λx τ Q=>Ua x λxs=>xs.length=n/\r xs τ Q
def dn {K:AAP}{n:Nat}{c:VS}{a:VB}(s:Pr K c a):J9 K (Yo K n c) (JH n a):=λB T d τ H v x Q e f r h k=>by
 obtain⟨xs,hx,h⟩:=JT h;rcases hx with rfl|rfl
 .obtain ⟨p,vs,rfl,hq,b⟩:=Ej r;exact⟨p,vs,rfl, .inl hq,by rw[b.length];exact h.1,s B T d τ H vs _ Q e f b h.2 k⟩
 .obtain ⟨p,vs,rfl,hq,g,i,b⟩:=DL r;exact⟨p,vs,rfl, .inr (.inl (.inl hq)),by rw[b.length];exact h.1,s B T d τ H vs _ Q e f b h.2 k⟩
def CO {es:km kd}{k:Nat}{a:VB}{n:Nat}(hc:X.calm=true)(h:rG X es a)(hn:(assignEach es X.env).length=n:=by rfl)(b:(assignEach es X.env).findIdx? (·.1)=none:=by rfl):SG X (.Tuple es k pos) (JH n a):=
 let ⟨_,p,s⟩:=h;⟨_,WQ hc p hn b,dn s⟩
def kU {own:Nat}{K:AAP}{n:Nat}{t:VS}(h:Ni own t):Hd own (Yo K n t):=λv b H Q ⟨a,xs,e,h1,h2,c⟩=>⟨a,xs,e,h1,h2,h xs b H Q c⟩
def Wi {own:Nat}{es:km kd}{k:Nat}{b:VB}{n:Nat}(hc:X.calm=true)(h:rH own X es b)(hn:(assignEach es X.env).length=n:=by rfl)(c:(assignEach es X.env).findIdx? (·.1)=none:=by rfl):SK own X (.Tuple es k pos) (JH n b):=
 let ⟨_,p,s,d,m⟩:=h;⟨_,WQ hc p hn c,dn s,kU d,λv g H Q i z ⟨a,xs,e,h1,h2,f⟩=>⟨a,xs,e,h1,h2,m _ _ _ _ _ z f⟩⟩
def lA:nG X .Mult (λx y H Q=>∃i j,x= .int i/\y= .int j/\MulOk i j/\Q (.int (i*j)) H):=by intro Wf s d H x y v u Q I r1 r2 h;obtain⟨i,j,a,b,c,q⟩:=h;subst a;subst b;obtain⟨t,rfl⟩:=r1;obtain⟨t',rfl⟩:=r2;exact AutoIntOps.imul_0 (show (Made.int (i*j)).post _ _ from⟨.int _,H,I.tok _,⟨_,rfl⟩,q⟩) (.of_le (IM c.l) (IM c.r) (by decide))
def mY:nG X .Mult (λx y H Q=>∃i j,x= .int i/\y= .int j/\MulOk i j/\Q (.int (i*j)) H)/\Bt X.K (λx y H Q=>∃i j,x= .int i/\y= .int j/\MulOk i j/\Q (.int (i*j)) H) DH:=⟨lA,λT M H u v x y Q b va a rv h k=>by
 obtain⟨i,j,rfl,rfl,c,q⟩:=M9 h;exact⟨i,j,a.toI,rv.toI,c,k _ _ T H (.refl va.tp) (.int _) q⟩⟩
end
def Oo {i:Int}(a:0<=i)(b:i<2147483647): -(2^64)<i/\i<2^64:=⟨by omega,by omega⟩
def ya (b:kc):(0:Int)<=(if b=true then 1 else 0):=by cases b <;> decide
def v9 (b:kc): -(2^64)<(if b=true then (1:Int) else 0)/\(if b=true then (1:Int) else 0)<2^64:=by cases b <;> decide
def eV {T:kf->Prop}{H:Hp}{p:kf}{d x:Int}(tp:∀a,T a->E7 H a)(t:T p)(c:0<=d)(f:0<=x)(g:x<2147483647):De T H T (upd H p (.lst [.int d, .int x])) where
 keep:=λb o n e=>by rw[Al (λz=>n (by subst z;exact t))];exact e
 sub:=λ_ t=>t
 new:=λ_ t=> .inl t
 tp:=λa h=>by
  by_cases z:a=p
  .subst z;exact⟨d,x,Ah,c,f,g⟩
  .obtain ⟨d',i,e,q⟩:=tp a h;exact⟨d',i,by rw[Al z];exact e,q⟩
def eU {T:kf->Prop}{H:Hp}{p:kf}{d x:Int}(tp:∀a,T a->E7 H a)(hp:H p=none)(f:0<=d)(g:0<=x)(h:x<2147483647):De T H (λb=>T b\/b=p) (upd H p (.lst [.int d, .int x])) where
 keep:=λb o n e=>by rw[Al (A2 e hp)];exact e
 sub:=λ_ t=> .inl t
 new:=λb t=>t.elim .inl λz=> .inr (by subst z;exact hp)
 tp:=λa c=>by
  by_cases z:a=p
  .subst z;exact⟨d,x,Ah,f,g,h⟩
  .rcases c with c|c
   .obtain ⟨d',i,e,q⟩:=tp a c;exact⟨d',i,by rw[Al z];exact e,q⟩
   .exact absurd c z
def law_sp {K:AAP}{H:Hp}{a:kf}{b:km Int}{F:AF}(c:FF K H a (b.map V.int))(h:F [.scr b] λx=>x= .bl true):CZ K 1 F [.ref a] H (λv _=>v= .bl true) λ_ _ _=>False:=by
 refine⟨λ_=>False,λ_=>False, [.scr b],_,⟨λ_ z=>z.elim,λ_ z=>z.elim⟩,λ_ z=>z.elim, .cons (.scr ?_) .nil,rfl,h,λv x d f _ r e=> ?_⟩
 .rcases c with h|h
  .exact .inl ⟨h,id,id⟩
  .exact .inr λH=> .inr h
 .subst e;cases r;rfl
theorem GY {g:AG}{b:AS}{D:G1}(a:km PV->BD->Prop)(hd:∀τ,a [] τ->D.nx τ)(hs:∀x r τ (R:BD->Prop),(∀τ,a r τ->R τ)->a (x::r) τ->g x τ λc=>b {D with nx:=R,ct:=R,bk:=D.nx} c):∀xs τ,a xs τ->ED g b D xs τ
 | [],τ,h=>hd τ h
 | x::r,τ,h=>hs x r τ _ (λd h2=>GY a hd hs r d h2) h
theorem XI {g:AG}{t:AT}{te:AE}{b:BD}{Q:km PV->Prop}(c:km PV->km PV->Prop)(hd:∀a,c [] a->Q a)(hs:∀x r a (R:km PV->Prop),(∀a,c r a->R a)->c (x::r) a->g x b λd=>t d λok=>if ok=true then te d λy=>R (a ++ [y]) else R a):∀xs a,c xs a->Cp g t te b Q xs a
 | [],a,h=>hd a h
 | x::r,a,h=>hs x r a _ (λe h2=>XI c hd hs r e h2) h
theorem Wx {c:AT}{b:AS}{D:G1}(a:Nat->BD->Prop)(e:∀τ,¬a 0 τ)(hs:∀n τ (R:BD->Prop),(∀τ,a n τ->R τ)->a (n+1) τ->c (frz τ) λk=>if k=true then b {D with nx:=R,ct:=R,bk:=D.nx} τ else D.nx τ):∀n τ,a n τ->U8 c b D n τ
 | 0,τ,h=>absurd h (e τ)
 | n+1,τ,h=>hs n τ _ (λd h2=>Wx a e hs n d h2) h
def GD (lo:Int)(n:Nat):rng lo (n+1)= .int lo::rng (lo+1) n:=by
 unfold rng;rw[List.range_succ_eq_map,AAX,ABi];congr 1
 .simp
 .apply ABx;intro k _;simp only[Function.comp];congr 1;omega
def WU (lo:Int)(n:Nat):(rng lo n).length=n:=by simp[rng]
end PL
namespace PL
open PySem L2 PyProof.Rows
def fr (r:Rat):PV:= .tup [.int r.num, .int (r.den:Int)]
def FG {b:kc}{A B:Prop}(h1:b=true->A)(h2:b=false->B):if b=true then A else B:=by
 cases b with
 | true=>rw[AAR rfl];exact h1 rfl
 | false=>rw[AAQ AAe];exact h2 rfl
structure Bd (n:Nat) (r:Rat):Prop where
 top:r.num.natAbs<2^n
 bot:r.den<2^n
def Bd.botI {n:Nat}{r:Rat}(b:Bd n r):(r.den:Int).natAbs<2^n:=by simpa using b.bot
def OU {m n:Nat}(h:m<=n):2^m<=2^n:=Nat.pow_le_pow_right (by decide) h
def Bd.mono {m n:Nat}{r:Rat}(b:Bd m r)(h:m<=n):Bd n r:=⟨AAs b.top (OU h),AAs b.bot (OU h)⟩
def cS {a b m n:Nat}(ha:a<2^m)(hb:b<2^n):a*b<2^(m+n):=by rw[Nat.pow_add];exact Nat.mul_lt_mul_of_lt_of_le ha (ACs hb) (Nat.pos_of_ne_zero (by intro z;rw[z] at hb;omega)) |> λh=>h
def BR {a b:Int}{m n:Nat}(ha:a.natAbs<2^m)(hb:b.natAbs<2^n):(a*b).natAbs<2^(m+n):=by rw[ADH];exact cS ha hb
def RF {a b:Int}{n:Nat}(ha:a.natAbs<2^n)(hb:b.natAbs<2^n):(a+b).natAbs<2^(n+1):=by rw[Nat.pow_succ];omega
def Sf {a b:Int}{n:Nat}(ha:a.natAbs<2^n)(hb:b.natAbs<2^n):(a-b).natAbs<2^(n+1):=by rw[Nat.pow_succ];omega
def Am {a m n:Nat}(h:a<2^m)(b:m<=n):a<2^n:=AAs h (OU b)
def MulOk.of {a b:Int}{m n:Nat}(ha:a.natAbs<2^m)(hb:b.natAbs<2^n)(c:m<=1000000:=by omega)(hn:n<=1000000:=by omega):MulOk a b:=⟨Am ha c,Am hb hn⟩
def Vm (t b:Int):(Rat.divInt t b).num.natAbs<=t.natAbs:=by
 rw[ADI];by_cases h:b=0
 .subst h;simp
 .have e:(b.gcd t:Int) ∣ b.sign*t:=Int.dvd_trans (Int.gcd_dvd_right ..) (Int.dvd_mul_left ..);rw[Int.natAbs_ediv_of_dvd e,ADH];refine AAl (ACY _ _) ?_;rw[Int.natAbs_sign_of_ne_zero h];omega
def Vl (t b:Int)(h:b≠0):(Rat.divInt t b).den<=b.natAbs:=by rw[ADn,AAQ h];exact ACY _ _
def Bd.divInt {n:Nat}{t b:Int}(h:b≠0)(a:t.natAbs<2^n)(hb:b.natAbs<2^n):Bd n (Rat.divInt t b):=
 ⟨ABN (Vm t b) a,ABN (Vl t b h) hb⟩
def BX (a:Rat):(a.den:Int)≠0:=by have:=a.den_pos;omega
def GV (a b:Rat):a+b=Rat.divInt (a.num*b.den+b.num*a.den) (a.den*b.den):=by have h:=ADo a.num b.num (BX a) (BX b);rw[ABO,ABO] at h;exact h
def Jl (a b:Rat):a-b=Rat.divInt (a.num*b.den-b.num*a.den) (a.den*b.den):=by have h:=Rat.divInt_sub_divInt a.num b.num (BX a) (BX b);rw[ABO,ABO] at h;exact h
def JP (a b:Rat):a*b=Rat.divInt (a.num*b.num) (a.den*b.den):=by have h:=ADJ a.num b.num (d₁:=a.den) (d₂:=b.den);rw[ABO,ABO] at h;exact h
def JM (a b:Rat):a/b=Rat.divInt (a.num*b.den) (a.den*b.num):=by rw[ADK,Rat.inv_def];have h:=ADJ a.num b.den (d₁:=a.den) (d₂:=b.num);rw[ABO] at h;exact h
def Ci {a b:Int}(ha:a≠0)(hb:b≠0):a*b≠0:=Int.mul_ne_zero ha hb
def WB {b:Rat}(h:b≠0):b.num≠0:=λz=>h (Rat.num_eq_zero.mp z)
def Bd.add {m n:Nat}{a b:Rat}(ha:Bd m a)(hb:Bd n b):Bd (m+n+1) (a+b):=by
 rw[GV];refine .divInt (Ci (BX a) (BX b)) (RF (BR ha.top (by simpa using hb.bot)) ?_) ?_
 .rw [Nat.add_comm m n];exact BR hb.top (by simpa using ha.bot)
 .exact Am (BR (by simpa using ha.bot) (by simpa using hb.bot)) (by omega)
def Bd.sub {m n:Nat}{a b:Rat}(ha:Bd m a)(hb:Bd n b):Bd (m+n+1) (a-b):=by
 rw[Jl];refine .divInt (Ci (BX a) (BX b)) (Sf (BR ha.top (by simpa using hb.bot)) ?_) ?_
 .rw [Nat.add_comm m n];exact BR hb.top (by simpa using ha.bot)
 .exact Am (BR (by simpa using ha.bot) (by simpa using hb.bot)) (by omega)
def Bd.mul {m n:Nat}{a b:Rat}(ha:Bd m a)(hb:Bd n b):Bd (m+n) (a*b):=by rw[JP];exact .divInt (Ci (BX a) (BX b)) (BR ha.top hb.top) (BR (by simpa using ha.bot) (by simpa using hb.bot))
def Bd.div {m n:Nat}{a b:Rat}(h:b≠0)(ha:Bd m a)(hb:Bd n b):Bd (m+n) (a/b):=by rw[JM];exact .divInt (Ci (BX a) (WB h)) (BR ha.top (by simpa using hb.bot)) (BR (by simpa using ha.bot) hb.top)
def Bd.neg {n:Nat}{a:Rat}(ha:Bd n a):Bd n (-a):=⟨by show (-a.num).natAbs<_;rw[ACZ];exact ha.top,ha.bot⟩
def bD (n:Int):fr (n:Rat)= .tup [.int n, .int 1] :=by simp[fr]
def Bd.int {n:Int}{k:Nat}(h:n.natAbs<2^k)(hk:1<=k):Bd k (n:Rat):=⟨by simpa using h,by simp;omega⟩
def Z5:AS:=
 (Aa (LR (Aj (AY PD (aV 1) (aC (.int 0)))) (Ye 0 1 (AB (aV 1) (AB (AY Vo (aV 0) (aV 1)) AL))))
   (Aq (aV 0)))
def Fy:AF:=Ax 2 Z5
def HY (x y:Nat)(Q:PV->Prop)(h:Q (.int (Nat.gcd x y:Nat))):Fy [.int x, .int y] Q:=by
 have go:∀y x:Nat,∀D:G1,D.nx [some (.val (.int (Nat.gcd x y:Nat))),some (.val (.int 0))] ->∃n,U8 (Aj (AY PD (aV 1) (aC (.int 0)))) (Ye 0 1 (AB (aV 1) (AB (AY Vo (aV 0) (aV 1)) AL))) D n [some (.val (.int x)),some (.val (.int y))] :=by
  intro y;induction y using Nat.strongRecOn with
  | _ y ih=>
    intro x D a;by_cases hy:y=0
    .subst hy;refine⟨1, ?_⟩;rw[Nat.gcd_zero_right] at a;exact a
    .obtain ⟨n,hn⟩:=ih (x % y) (Nat.mod_lt _ (by omega)) y D (by rw[ACB y,<-Nat.gcd_rec,ACB y];exact a);refine⟨n+1, ?_⟩;refine FG (b:= !decide ((y:Int)=0)) (λ_=> ?_) (λz=> ?_)
     .have c:(x:Int).fmod (y:Int)=((x % y:Nat):Int):=by rw[ACP _ (by omega)];simp
      refine⟨by omega, ?_⟩;rw[<-c] at hn;exact hn
     .have:(y:Int)=0:=by simpa using z
      omega
 obtain⟨n,hn⟩:=go y x {nx:=λτ=>Aq (aV 0) {nx:=λ_=>Q .non,rt:=Q,bk:=λ_=>False,ct:=λ_=>False} τ,rt:=Q,bk:=λ_=>False,ct:=λ_=>False} h;exact⟨n,hn⟩
def YO:AS:=
 (Aa (BO (Aj (AY bC (aV 1) (aC (.int 0)))) (Ar (Mh E9 (aV 2)) (Au 2)) A0)
   (Aq (Ay (AB (AY PB (aV 0) (aV 2)) (AB (AY PB (aV 1) (aV 2)) AL)))))
def jq:AS:=
 (Aa (Ar (AR 2 Fy (AB (Dr RN (AB (aV 0) AL)) (AB (Dr RN (AB (aV 1) AL)) AL))) (Au 2))
   YO)
def Ha:AF:=Ax 3 jq
def cu (t b:Int)(hb:b≠0):∀s:Int,s=(if b<0 then -(Nat.gcd t.natAbs b.natAbs:Int) else (Nat.gcd t.natAbs b.natAbs:Int))->s≠0/\t.fdiv s=(Rat.divInt t b).num/\b.fdiv s=((Rat.divInt t b).den:Int):=by
 intro s hs;have g:0<Nat.gcd t.natAbs b.natAbs:=ACC _ (by omega);have f:b.gcd t=Nat.gcd t.natAbs b.natAbs:=by rw[AEG,ACB]
 have a:(Nat.gcd t.natAbs b.natAbs:Int) ∣ t:=by rw[<-Int.dvd_natAbs];exact Int.ofNat_dvd.mpr (Nat.gcd_dvd_left ..)
 have c:(Nat.gcd t.natAbs b.natAbs:Int) ∣ b:=by rw[<-Int.dvd_natAbs];exact Int.ofNat_dvd.mpr (ACa ..)
 have d:s ∣ t:=by rw[hs];split <;> first | exact Int.neg_dvd.mpr a|exact a
 have e:s ∣ b:=by rw[hs];split <;> first | exact Int.neg_dvd.mpr c|exact c
 refine⟨by rw[hs];split <;> omega, ?_, ?_⟩
 .rw [AEH d,ADI,f,hs];by_cases h:b<0
  .rw [AAR h,AEI h,Int.ediv_neg];have:(-1:Int)*t= -t:=by omega
   rw[this,Int.neg_ediv_of_dvd a]
  .rw [AAQ h,ADp (by omega),Int.one_mul]
 .rw [AEH e,ADn,AAQ hb,f,hs];by_cases h:b<0
  .rw [AAR h,Int.ediv_neg];have:(b.natAbs:Int)= -b:=by omega
   rw[ACb,this,Int.neg_ediv_of_dvd c]
  .rw [AAQ h];have:(b.natAbs:Int)=b:=by omega
   rw[ACb,this]
def F1 (t b:Int)(hb:b≠0)(f:b.natAbs<2^8900)(Q:PV->Prop)(h:Q (fr (Rat.divInt t b))):Ha [.int t, .int b] Q:=by
 have g:0<Nat.gcd t.natAbs b.natAbs:=ACC _ (by omega);have gl:Nat.gcd t.natAbs b.natAbs<2^8900:=ABN (ADL (by omega) (ACa ..)) f;obtain⟨a,c,d⟩:=cu t b hb _ rfl;refine⟨rfl,HY _ _ _ ?_⟩;refine FG (b:=decide (b<0)) (λz=> ?_) (λz=> ?_)
 .have e:b<0:=AA6 z;rw[AAR e] at a c d;refine⟨⟨a,by rw[ACZ];exact gl⟩,⟨a,by rw[ACZ];exact gl⟩,(show 2<=sizeLine by decide), ?_⟩;unfold fr at h;rw[<-c,<-d] at h;exact h
 .have e:¬b<0:=ABU z;rw[AAQ e] at a c d;refine⟨⟨a,gl⟩,⟨a,gl⟩,(show 2<=sizeLine by decide), ?_⟩;unfold fr at h;rw[<-c,<-d] at h;exact h
def Bd.mt {n:Nat}{a b:Rat}(ha:Bd 4000 a)(hb:Bd 4000 b):MulOk a.num b.den/\MulOk b.num a.den/\MulOk a.den b.den/\MulOk a.num b.num/\MulOk a.den b.num:=
 ⟨.of ha.top (by simpa using hb.bot), .of hb.top (by simpa using ha.bot), .of (by simpa using ha.bot) (by simpa using hb.bot), .of ha.top hb.top, .of (by simpa using ha.bot) hb.top⟩
def P6 {a b:Rat}(ha:Bd 4000 a)(hb:Bd 4000 b):((a.den:Int)*(b.den:Int)).natAbs<2^8900:=Am (BR (a:=(a.den:Int)) (by simpa using ha.bot) (by simpa using hb.bot)) (by omega)
def jr:AS:=
 (Aq (AR 2 Ha (AB (AY BY (AY DH (AY Ai (aV 0) (aC (.int 0))) (AY Ai (aV 1) (aC (.int 1)))) (AY DH (AY Ai (aV 1) (aC (.int 0))) (AY Ai (aV 0) (aC (.int 1))))) (AB (AY DH (AY Ai (aV 0) (aC (.int 1))) (AY Ai (aV 1) (aC (.int 1)))) AL))))
def Hc:AF:=Ax 2 jr
def Pp {a b:Rat}(ha:Bd 4000 a)(hb:Bd 4000 b){Q:PV->Prop}(h:Q (fr (a+b))):Hc [fr a,fr b] Q:=by obtain⟨m1,m2,m3,_⟩:=Bd.mt (n:=0) ha hb;refine⟨m1,m2,m3,rfl,F1 _ _ (Ci (BX a) (BX b)) (P6 ha hb) _ ?_⟩;rw[GV] at h;exact h
def fM:AS:=
 (Aq (AR 2 Ha (AB (AY GX (AY DH (AY Ai (aV 0) (aC (.int 0))) (AY Ai (aV 1) (aC (.int 1)))) (AY DH (AY Ai (aV 1) (aC (.int 0))) (AY Ai (aV 0) (aC (.int 1))))) (AB (AY DH (AY Ai (aV 0) (aC (.int 1))) (AY Ai (aV 1) (aC (.int 1)))) AL))))
def D3:AF:=Ax 2 fM
def EG {a b:Rat}(ha:Bd 4000 a)(hb:Bd 4000 b){Q:PV->Prop}(h:Q (fr (a-b))):D3 [fr a,fr b] Q:=by obtain⟨m1,m2,m3,_⟩:=Bd.mt (n:=0) ha hb;refine⟨m1,m2,m3,rfl,F1 _ _ (Ci (BX a) (BX b)) (P6 ha hb) _ ?_⟩;rw[Jl] at h;exact h
def fN:AS:=
 (Aq (AR 2 Ha (AB (AY DH (AY Ai (aV 0) (aC (.int 0))) (AY Ai (aV 1) (aC (.int 0)))) (AB (AY DH (AY Ai (aV 0) (aC (.int 1))) (AY Ai (aV 1) (aC (.int 1)))) AL))))
def FR:AF:=Ax 2 fN
def Nh {a b:Rat}(ha:Bd 4000 a)(hb:Bd 4000 b){Q:PV->Prop}(h:Q (fr (a*b))):FR [fr a,fr b] Q:=by obtain⟨_,_,m3,m4,_⟩:=Bd.mt (n:=0) ha hb;refine⟨m4,m3,rfl,F1 _ _ (Ci (BX a) (BX b)) (P6 ha hb) _ ?_⟩;rw[JP] at h;exact h
def jp:AS:=
 (Aq (AR 2 Ha (AB (AY DH (AY Ai (aV 0) (aC (.int 0))) (AY Ai (aV 1) (aC (.int 1)))) (AB (AY DH (AY Ai (aV 0) (aC (.int 1))) (AY Ai (aV 1) (aC (.int 0)))) AL))))
def JF:AF:=Ax 2 jp
def LK {a b:Rat}(c:b≠0)(ha:Bd 4000 a)(hb:Bd 4000 b){Q:PV->Prop}(h:Q (fr (a/b))):JF [fr a,fr b] Q:=by obtain⟨m1,_,_,_,m5⟩:=Bd.mt (n:=0) ha hb;refine⟨m1,m5,rfl,F1 _ _ (Ci (BX a) (WB c)) (Am (BR (a:=(a.den:Int)) (by simpa using ha.bot) hb.top) (by omega)) _ ?_⟩;rw[JM] at h;exact h
def NM:AS:=
 (Aa (Ar (AY GX (aC (.int 1)) (AY DH (aC (.int 2)) (Dr Vr (AB (AY bC (aV 1) (aC (.int 0))) AL)))) (Au 2))
   (Aq (Ay (AB (AY PB (AY DH (aV 2) (aV 0)) (aV 3)) (AB (AY PB (AY DH (aV 2) (aV 1)) (aV 3)) AL)))))
def NL:AS:=
 (Aa (LR (Aj (AY jL (aV 4) (aC (.int 0)))) (Ye 3 4 (AB (aV 4) (AB (AY Vo (aV 3) (aV 4)) AL))))
   NM)
def Sv:AS:=
 (Aa (Ye 3 4 (AB (Dr RN (AB (aV 0) AL)) (AB (Dr RN (AB (aV 1) AL)) AL)))
   NL)
def A9:AF:=Ax 5 Sv
def Ra (t b:Int)(hb:b≠0):∀s:Int,s=(if b<0 then -1 else 1)->(s*t).fdiv (Nat.gcd t.natAbs b.natAbs:Int)=(Rat.divInt t b).num/\(s*b).fdiv (Nat.gcd t.natAbs b.natAbs:Int)=((Rat.divInt t b).den:Int):=by
 intro s hs;have c:0<Nat.gcd t.natAbs b.natAbs:=ACC _ (by omega);have a:b.gcd t=Nat.gcd t.natAbs b.natAbs:=by rw[AEG,ACB]
 have es:b.sign=s:=by
  rw[hs];split
  .rename_i h;exact AEI h
  .exact ADp (by omega)
 rw[ADI,ADn,AAQ hb,a,es,ABw _ (by omega),ABw _ (by omega)];refine⟨rfl, ?_⟩;rw[ACb];congr 1;rw[hs];split <;> omega
def Bu (t b:Int)(hb:b≠0)(g:t.natAbs<2^900000)(d:b.natAbs<2^8900){Q:PV->Prop}(h:Q (fr (Rat.divInt t b))):A9 [.int t, .int b] Q:=by
 have j:0<Nat.gcd t.natAbs b.natAbs:=ACC _ (by omega);have gl:Nat.gcd t.natAbs b.natAbs<2^8900:=ABN (ADL (by omega) (ACa ..)) d;have e:(1:Int)-2*(if decide (b<0)=true then 1 else 0)=(if b<0 then -1 else 1):=by by_cases z:b<0 <;> simp[z]
 obtain⟨i,a⟩:=Ra t b hb _ e;have go:∀y x:Nat,∀D:G1,∀u v w,D.nx [u,v,w,some (.val (.int (Nat.gcd x y:Nat))),some (.val (.int 0))] ->∃n,U8 (Aj (AY jL (aV 4) (aC (.int 0)))) (Ye 3 4 (AB (aV 4) (AB (AY Vo (aV 3) (aV 4)) AL))) D n [u,v,w,some (.val (.int x)),some (.val (.int y))] :=by
  intro y;induction y using Nat.strongRecOn with
  | _ y ih=>
    intro x D u v w c;by_cases hy:y=0
    .subst hy;refine⟨1, ?_⟩;rw[Nat.gcd_zero_right] at c;exact c
    .obtain ⟨n,hn⟩:=ih (x % y) (Nat.mod_lt _ (by omega)) y D u v w (by rw[ACB y,<-Nat.gcd_rec,ACB y];exact c);refine⟨n+1, ?_⟩;refine FG (b:=decide (0<(y:Int))) (λ_=> ?_) (λz=> ?_)
     .have a:(x:Int).fmod (y:Int)=((x % y:Nat):Int):=by rw[ACP _ (by omega)];simp
      refine⟨by omega, ?_⟩;rw[<-a] at hn;exact hn
     .have:¬(0:Int)<y:=ABU z;omega
 refine go b.natAbs t.natAbs _ (some (.val (.int t))) (some (.val (.int b))) none ?_;have one:(1:Int).natAbs<2^1:=by decide
 have f:((1:Int)-2*(if decide (b<0)=true then 1 else 0)).natAbs<2^1:=by rw[e];split <;> decide
 refine⟨.of (m:=2) (n:=1) (by decide) (by split <;> decide), .of f g,⟨by omega,gl⟩, .of f d,⟨by omega,gl⟩,(show 2<=sizeLine by decide), ?_⟩;unfold fr at h;rw[<-i,<-a] at h;exact h
def DC {m:Int}{Q:PV->Prop}(m0:0<m)(m1:m<4611686018427387904)(h:∀r,0<=r->r<m->Q (.int r)):BW [.tape, .int m] Q:=⟨⟨m0,m1⟩,h⟩
mutual
def zb:Nat->PV->kc
 | 0,_=>false
 | _+1, .non=>true
 | _+1, .bl _=>true
 | _+1, .int _=>true
 | n+1, .tup xs=>pq n xs&&decide (xs.length<sizeLine)
 | _+1,_=>false
def pq:Nat->km PV->kc
 | _, [] =>true
 | n,x::xs=>zb n x&&pq n xs
end
def i4 {t:Int}{n:Nat}(h:t.natAbs<2^n)(hn:n<=900000:=by omega):t.natAbs<2^900000:=Am h hn
section
variable {a b:Rat}{Q:PV->Prop}
theorem lN (ha:Bd 4000 a)(hb:Bd 4000 b)(h:Q (fr (a+b))):A9 [.int (a.num*b.den+b.num*a.den), .int (a.den*b.den)] Q:=
 Bu _ _ (Ci (BX a) (BX b)) (i4 (RF (n:=8000) (BR ha.top hb.botI) (BR hb.top ha.botI))) (P6 ha hb) (by rw[<-GV];exact h)
theorem lQ (ha:Bd 4000 a)(hb:Bd 4000 b)(h:Q (fr (a-b))):A9 [.int (a.num*b.den-b.num*a.den), .int (a.den*b.den)] Q:=
 Bu _ _ (Ci (BX a) (BX b)) (i4 (Sf (n:=8000) (BR ha.top hb.botI) (BR hb.top ha.botI))) (P6 ha hb) (by rw[<-Jl];exact h)
theorem lP (ha:Bd 4000 a)(hb:Bd 4000 b)(h:Q (fr (a*b))):A9 [.int (a.num*b.num), .int (a.den*b.den)] Q:=
 Bu _ _ (Ci (BX a) (BX b)) (i4 (BR ha.top hb.top)) (P6 ha hb) (by rw[<-JP];exact h)
theorem lO (c:b≠0)(ha:Bd 4000 a)(hb:Bd 4000 b)(h:Q (fr (a/b))):A9 [.int (a.num*b.den), .int (a.den*b.num)] Q:=
 Bu _ _ (Ci (BX a) (WB c)) (i4 (BR ha.top (by simpa using hb.bot))) (Am (BR (a:=(a.den:Int)) (by simpa using ha.bot) hb.top) (by omega)) (by rw[<-JM];exact h)
end
def Sn {n:Int}{Q:PV->Prop}(h:Q (fr (n:Rat))):Q (.tup [.int n, .int 1]):=by rw[<-bD];exact h
def Bd.part {t b:Int}{n:Nat}(h:b≠0)(a:t.natAbs<2^n)(hb:b.natAbs<2^n):Bd n (Rat.divInt t b):= .divInt h a hb
def lz {a b:Nat}(h:Nat.ble a b=true:=by rfl):a<=b:=ABV h
structure Sh (d n:Nat) (x:PV):Prop where
 ok:En d x=true
 sh:(pd x).showable=true
 sz:(pd x).shown.length<=n
mutual
theorem OI:∀{d e:Nat} (x:PV),d<=e->En d x=true->En e x=true
 | _,_, .non,_,_=>by simp[En]
 | _,_, .bl _,_,_=>by simp[En]
 | _,_, .int _,_,_=>by simp[En]
 | _,_, .str x,_,h=>by simpa[En] using h
 | 0,_, .tup xs,_,h=>by simp[En] at h
 | 0,_, .lst xs,_,h=>by simp[En] at h
 | d+1,0, .tup xs,h,_=>by omega
 | d+1,0, .lst xs,h,_=>by omega
 | d+1,e+1, .tup xs,h,k=>by simp only[En] at k ⊢;exact Lm xs (by omega) k
 | d+1,e+1, .lst xs,h,k=>by simp only[En] at k ⊢;exact Lm xs (by omega) k
 | _,_, .tape,_,h=>by simp[En] at h
 | _,_, .scr _,_,h=>by simp[En] at h
 | _,_, .dct _,_,h=>by simp[En] at h
 | _,_, .ty _,_,h=>by simp[En] at h
theorem Lm:∀{d e:Nat} (xs:km PV),d<=e->JR d xs=true->JR e xs=true
 | _,_, [],_,_=>by simp[JR]
 | _,_,x::xs,h,k=>by simp only[JR,AAh] at k ⊢;exact⟨OI x h k.1,Lm xs h k.2⟩
end
def Sh.mono {d n e m:Nat}{x:PV}(s:Sh d n x)(h1:d<=e)(h2:n<=m):Sh e m x:=⟨OI x h1 s.ok,s.sh,AAl s.sz h2⟩
def Sh.go {d n:Nat}{x:PV}(s:Sh d n x)(h1:d<=30:=by omega)(h2:n<=16777216:=by omega):j8 x:=⟨OI x h1 s.ok,s.sh,AAl s.sz h2⟩
def Sh.int {i:Int}(h:i.natAbs<2^1900):Sh 0 1902 (.int i):=by
 refine⟨rfl, ?_, ?_⟩
 .show decide (i.natAbs.log2<1920)=true;exact AAZ (ABv (Kb h (by decide)) (by decide))
 .show (Str.ofString (toString i)).length<=1902;rw[PySem.ofString_length];exact AAl (int_text_length_le (k:=1900) (by decide) (Kb h (by decide))) (by decide)
theorem Hq {d:Nat}:∀{xs:km PV},(∀x∈xs,En d x=true)->JR d xs=true
 | [],_=>rfl
 | x::xs,h=>by simp only[JR,AAh];exact⟨h x (by simp),Hq λy hy=>h y (by simp[hy])⟩
theorem Wh:∀{xs:km PV},(∀x∈xs,(pd x).showable=true)->PyData.showableAll (ML xs)=true
 | [],_=>rfl
 | x::xs,h=>by simp only[ML,PyData.showableAll,AAh];exact⟨h x (by simp),Wh λy hy=>h y (by simp[hy])⟩
theorem Si {n:Nat}:∀{xs:km PV},(∀x∈xs,(pd x).shown.length<=n)->((PyData.shownAll (ML xs)).map (·.length)).sum<=xs.length*n
 | [],_=>by simp[ML,PyData.shownAll]
 | x::xs,h=>by simp only[ML,PyData.shownAll,AAX,ACc,AAn];have h1:=h x (by simp);have h2:=Si (n:=n) (xs:=xs) λy hy=>h y (by simp[hy]);rw[Nat.succ_mul];omega
theorem Gw:∀(xs:km PV),(PyData.shownAll (ML xs)).length=xs.length
 | [] =>rfl
 | x::xs=>by simp[ML,PyData.shownAll,Gw xs]
def Sh.tup {d n:Nat}{xs:km PV}(h:∀x∈xs,Sh d n x):Sh (d+1) (xs.length*(n+2)+3) (.tup xs):=by refine⟨by simp only[En];exact Hq λx hx=>(h x hx).ok,by simp only[pd,PyData.showable];exact Wh λx hx=>(h x hx).sh, ?_⟩;have h1:=Si (n:=n) (xs:=xs) λx hx=>(h x hx).sz;have h2:=tupleText_len_le (PyData.shownAll (ML xs));rw[Gw] at h2;simp only[pd,PyData.shown];rw[Nat.mul_add];omega
def Sh.lst {d n:Nat}{xs:km PV}(h:∀x∈xs,Sh d n x):Sh (d+1) (xs.length*(n+2)+3) (.lst xs):=by refine⟨by simp only[En];exact Hq λx hx=>(h x hx).ok,by simp only[pd,PyData.showable];exact Wh λx hx=>(h x hx).sh, ?_⟩;have h1:=Si (n:=n) (xs:=xs) λx hx=>(h x hx).sz;have h2:=listText_len_le (PyData.shownAll (ML xs));rw[Gw] at h2;simp only[pd,PyData.shown];rw[Nat.mul_add];omega
def uL {c:Type}{P:c->Prop}{a b:c}(ha:P a)(hb:P b):∀x∈ [a,b],P x:=λx hx=>by
 simp only[AAT,AAq,AAr] at hx;rcases hx with rfl|rfl
 .exact ha
 .exact hb
def pX {d:Type}{P:d->Prop}{a b c:d}(ha:P a)(hb:P b)(hc:P c):∀x∈ [a,b,c],P x:=λx hx=>by
 simp only[AAT,AAq,AAr] at hx;rcases hx with rfl|rfl|rfl
 .exact ha
 .exact hb
 .exact hc
def pY {e:Type}{P:e->Prop}{a b c d:e}(ha:P a)(hb:P b)(hc:P c)(hd:P d):∀x∈ [a,b,c,d],P x:=λx hx=>by
 simp only[AAT,AAq,AAr] at hx;rcases hx with rfl|rfl|rfl|rfl
 .exact ha
 .exact hb
 .exact hc
 .exact hd
def Sh.fr {r:Rat}(h:Bd 1900 r):Sh 1 4000 (fr r):=(Sh.tup (uL (Sh.int h.top) (Sh.int h.botI))).mono (by omega) lz
def RJ (a b:Rat):Nz (fr a) (fr b)=decide (a=b):=by
 show (PyData.eqvAll [.int a.num, .int a.den] [.int b.num, .int b.den])=_;simp only[PyData.eqvAll,PyData.eqv];by_cases h:a=b
 .subst h;simp
 .have:¬(a.num=b.num/\(a.den:Int)=b.den):=λz=>h (Rat.ext z.1 (by omega));rw[AAY h];simp only[Bool.and_true,AEJ,ACq];by_cases h1:a.num=b.num
  .exact .inr λz=>this ⟨h1,z⟩
  .exact .inl h1
def Xr (d:Nat)(a:Rat):En (d+1) (fr a)=true:=rfl
def pV {a b:Rat}:decide (a.num*(b.den:Int)<b.num*(a.den:Int))=decide (a<b):=by rw[ACd];exact(Rat.lt_iff a b).symm
def Z4:AS:=
 (Aq (AY bC (AY DH (AY Ai (aV 0) (aC (.int 0))) (AY Ai (aV 1) (aC (.int 1)))) (AY DH (AY Ai (aV 1) (aC (.int 0))) (AY Ai (aV 0) (aC (.int 1))))))
def Ao:AF:=Ax 2 Z4
section
variable {a b:Rat}{Q:PV->Prop}
theorem Bk (ha:Bd 4000 a)(hb:Bd 4000 b)(h:Q (.bl (decide (a<b)))):Ao [fr a,fr b] Q:=by obtain⟨m1,m2,_⟩:=Bd.mt (n:=0) ha hb;refine⟨m1,m2, ?_⟩;rw[<-pV] at h;exact h
def VE:AS:=
 (Aq (AR 2 A9 (AB (AY BY (AY DH (AY Ai (aV 0) (aC (.int 0))) (AY Ai (aV 1) (aC (.int 1)))) (AY DH (AY Ai (aV 1) (aC (.int 0))) (AY Ai (aV 0) (aC (.int 1))))) (AB (AY DH (AY Ai (aV 0) (aC (.int 1))) (AY Ai (aV 1) (aC (.int 1)))) AL))))
def Cy:AF:=Ax 2 VE
theorem DO (ha:Bd 4000 a)(hb:Bd 4000 b)(h:Q (fr (a+b))):Cy [fr a,fr b] Q:=by obtain⟨m1,m2,m3,_⟩:=Bd.mt (n:=0) ha hb;exact⟨m1,m2,m3,rfl,lN ha hb h⟩
def VD:AS:=
 (Aq (AR 2 A9 (AB (AY GX (AY DH (AY Ai (aV 0) (aC (.int 0))) (AY Ai (aV 1) (aC (.int 1)))) (AY DH (AY Ai (aV 1) (aC (.int 0))) (AY Ai (aV 0) (aC (.int 1))))) (AB (AY DH (AY Ai (aV 0) (aC (.int 1))) (AY Ai (aV 1) (aC (.int 1)))) AL))))
def Cw:AF:=Ax 2 VD
theorem Ch (ha:Bd 4000 a)(hb:Bd 4000 b)(h:Q (fr (a-b))):Cw [fr a,fr b] Q:=by obtain⟨m1,m2,m3,_⟩:=Bd.mt (n:=0) ha hb;exact⟨m1,m2,m3,rfl,lQ ha hb h⟩
def NO:AS:=
 (Aq (AR 2 A9 (AB (AY DH (AY Ai (aV 0) (aC (.int 0))) (AY Ai (aV 1) (aC (.int 0)))) (AB (AY DH (AY Ai (aV 0) (aC (.int 1))) (AY Ai (aV 1) (aC (.int 1)))) AL))))
def Bw:AF:=Ax 2 NO
theorem Co (ha:Bd 4000 a)(hb:Bd 4000 b)(h:Q (fr (a*b))):Bw [fr a,fr b] Q:=by obtain⟨m1,m2,m3,m4,_⟩:=Bd.mt (n:=0) ha hb;exact⟨m4,m3,rfl,lP ha hb h⟩
def Qe:AS:=
 (Aq (AR 2 A9 (AB (AY DH (AY Ai (aV 0) (aC (.int 0))) (AY Ai (aV 1) (aC (.int 1)))) (AB (AY DH (AY Ai (aV 0) (aC (.int 1))) (AY Ai (aV 1) (aC (.int 0)))) AL))))
def DA:AF:=Ax 2 Qe
theorem HC (c:b≠0)(ha:Bd 4000 a)(hb:Bd 4000 b)(h:Q (fr (a/b))):DA [fr a,fr b] Q:=by obtain⟨m1,m2,m3,m4,m5⟩:=Bd.mt (n:=0) ha hb;exact⟨m1,m5,rfl,lO c ha hb h⟩
end
def so {t b:Int}(a:0<t)(hb:0<b):0<Rat.divInt t b:=by
 rw[Rat.lt_iff];have h1:=ADI t b;show (0:Int)*_<_*1;rw[Int.zero_mul,ACw,h1,ADp hb,Int.one_mul];have g:0<(b.gcd t:Int):=by have:=Int.gcd_pos_of_ne_zero_left t (show b≠0 by omega);omega
 exact Int.ediv_pos_of_pos_of_dvd a (by omega) (Int.gcd_dvd_right ..)
def Jk {t b:Int}{Q:PV->Prop}(k:Nat)(hb:b≠0)(a:t.natAbs<2^k)(c:b.natAbs<2^k)(hk:k<=2000)(h:Bd k (Rat.divInt t b)->Q (fr (Rat.divInt t b))):A9 [.int t, .int b] Q:=
 Bu t b hb (Am a (by omega)) (Am c (by omega)) (h (.part hb a c))
def Mul (D N:Nat)(a:Rat):Prop:=0<D/\∃k:Int,a=Rat.divInt k D/\k.natAbs<=N
def Mul.bd {D N n:Nat}{a:Rat}(h:Mul D N a)(h1:N<2^n)(h2:D<2^n):Bd n a:=by obtain⟨b,k,rfl,hk⟩:=h;exact .divInt (by omega) (by omega) (by simpa using h2)
def Mul.part {t b:Int}{c:Nat}(hb:0<b)(hc:0<c){N:Nat}(h:(t*c).natAbs<=N):Mul (b.toNat*c) N (Rat.divInt t b):=by
 refine⟨Nat.mul_pos (by omega) hc,t*c, ?_,h⟩;have e:((b.toNat*c:Nat):Int)=b*c:=by rw[ADM];congr 1;omega
 rw[e,(ADq (by omega) (Ci (by omega) (by omega)))];rw[ADr b,ACe]
def Mul.add {D N M:Nat}{a b:Rat}(ha:Mul D N a)(hb:Mul D M b):Mul D (N+M) (a+b):=by obtain⟨c,k,rfl,hk⟩:=ha;obtain⟨_,l,rfl,hl⟩:=hb;refine⟨c,k+l, ?_,by omega⟩;rw[ADo _ _ (by omega) (by omega),ADq (Ci (by omega) (by omega)) (by omega)];rw[<-Int.add_mul,ACe]
def Mul.mono {D N M:Nat}{a:Rat}(h:Mul D N a)(b:N<=M):Mul D M a:=⟨h.1,let ⟨k,e,hk⟩:=h.2;⟨k,e,by omega⟩⟩
def Mul.int {n:Int}{D N:Nat}(a:0<D)(h:(n*D).natAbs<=N):Mul D N (n:Rat):=by
 have e:(n:Rat)=Rat.divInt n 1:=by rw[<-ABO (n:Rat)];simp
 rw[e];have:=Mul.part (t:=n) (b:=1) (c:=D) (by decide) a h;simpa using this
def NP:AS:=
 (Aa (BO (Aj (AY bC (aV 1) (aC (.int 3)))) (Aq (Ay (AB (AY BY (aC (.int 1)) (AR 2 BW (AB (aV 0) (AB (aC (.int 5)) AL)))) (AB (aC (.int 1)) AL)))) A0)
   (Aq (AR 2 A9 (AB (AY BY (aC (.int 1)) (AR 2 BW (AB (aV 0) (AB (aC (.int 8)) AL)))) (AB (AY GX (aV 1) (aC (.int 1))) AL)))))
def Sw:AS:=
 (Aa (Ar (AR 2 BW (AB (aV 0) (AB (aC (.int 5)) AL))) (Au 1))
   NP)
def FQ:AF:=Ax 2 Sw
def Md {Q:PV->Prop}(h:∀a,Bd 8 a->0<a->Mul 6 48 a->Q (fr a)):FQ [.tape] Q:=by
 refine⟨rfl,DC (by decide) (by decide) λw f g=> ?_⟩;refine FG (b:=decide (w<3)) (λ_=> ?_) (λz=> ?_)
 .refine ⟨rfl,DC (by decide) (by decide) λr d r1=>⟨lz, ?_⟩⟩;exact Sn (h _ (.int (by omega) (by decide)) (by exact_mod_cast (by omega:(0:Int)<1+r)) (.int (by decide) (by omega)))
 .have i:¬w<3:=ABU z;have hw:w-1=2\/w-1=3:=by omega
  refine⟨rfl,DC (by decide) (by decide) λr d r1=>⟨rfl, ?_⟩⟩;refine Jk 8 (by omega) (by omega) (by omega) (by decide) λb=>h _ b (so (by omega) (by omega)) ?_;rcases hw with e|e
  .rw [e];exact Mul.part (t:=1+r) (b:=2) (c:=3) (by decide) (by decide) (by omega)
  .rw [e];exact Mul.part (t:=1+r) (b:=3) (c:=2) (by decide) (by decide) (by omega)
def MU:AS:=
 (Aa (BO (Aj (AY HQ (aV 1) (aC (.int 6)))) (Aq (AR 2 A9 (AB (AY GX (AR 2 BW (AB (aV 0) (AB (aC (.int 25)) AL))) (aC (.int 6))) (AB (aC (.int 2)) AL)))) A0)
   (Aq (AR 2 A9 (AB (AY GX (AR 2 BW (AB (aV 0) (AB (aC (.int 31)) AL))) (aC (.int 9))) (AB (aC (.int 3)) AL)))))
def MT:AS:=
 (Aa (BO (Aj (AY bC (aV 1) (aC (.int 6)))) (Aq (Ay (AB (AY GX (AR 2 BW (AB (aV 0) (AB (aC (.int 10)) AL))) (aC (.int 3))) (AB (aC (.int 1)) AL)))) A0)
   MU)
def Qc:AS:=
 (Aa (Ar (AR 2 BW (AB (aV 0) (AB (aC (.int 8)) AL))) (Au 1))
   MT)
def Bi:AF:=Ax 2 Qc
def BL {Q:PV->Prop}(h:∀a,Mul 6 60 a->Q (fr a)):Bi [.tape] Q:=by
 refine⟨rfl,DC (by decide) (by decide) λw e f=> ?_⟩;refine FG (b:=decide (w<6)) (λ_=> ?_) (λz=> ?_)
 .refine ⟨rfl,DC (by decide) (by decide) λr d r1=>⟨lz, ?_⟩⟩;exact Sn (h _ (.int (by decide) (by omega)))
 refine FG (b:=decide (w=6)) (λ_=> ?_) (λz=> ?_)
 .exact ⟨rfl,DC (by decide) (by decide) λr d r1=>⟨rfl,Jk 8 (by omega) (by omega) (by omega) (by decide) λb=>h _ (Mul.part (t:=r-6) (b:=2) (c:=3) (by decide) (by decide) (by omega))⟩⟩
 .exact ⟨rfl,DC (by decide) (by decide) λr d r1=>⟨rfl,Jk 8 (by omega) (by omega) (by omega) (by decide) λb=>h _ (Mul.part (t:=r-9) (b:=3) (c:=2) (by decide) (by decide) (by omega))⟩⟩
abbrev C4:=Rat×Rat×Rat×Rat
def cor (c:C4):PV:= .tup [fr c.1,fr c.2.1,fr c.2.2.1,fr c.2.2.2]
def corL (c:C4):PV:= .lst [fr c.1,fr c.2.1,fr c.2.2.1,fr c.2.2.2]
def BA (cs:km C4):PV:= .tup (cs.map cor)
structure Ds (B:Nat) (c:C4):Prop where
 m:Bd B c.1
 x:Bd B c.2.1
 y:Bd B c.2.2.1
 z:Bd B c.2.2.2
def Ds.mono {B B':Nat}{c:C4}(h:Ds B c)(k:B<=B'):Ds B' c:=⟨h.m.mono k,h.x.mono k,h.y.mono k,h.z.mono k⟩
structure Jy (D N:Nat) (c:C4):Prop where
 m:Mul D N c.1
 x:Mul D N c.2.1
 y:Mul D N c.2.2.1
 z:Mul D N c.2.2.2
def Jy.mono {D N M:Nat}{c:C4}(h:Jy D N c)(k:N<=M):Jy D M c:=⟨h.m.mono k,h.x.mono k,h.y.mono k,h.z.mono k⟩
def Jy.bd {D N n:Nat}{c:C4}(h:Jy D N c)(h1:N<2^n)(h2:D<2^n):Ds n c:=⟨h.m.bd h1 h2,h.x.bd h1 h2,h.y.bd h1 h2,h.z.bd h1 h2⟩
def LO (cs:km C4):Prop:=cs.Pairwise λa b=>a.1<b.1
structure Pq (n D N:Nat) (cs:List C4):Prop where
 two:2<=cs.length
 few:cs.length<=n
 mu:∀c∈cs,Jy D N c
 ris:LO cs
structure LM (n B:Nat) (cs:List C4):Prop where
 two:2<=cs.length
 few:cs.length<=n
 bd:∀c∈cs,Ds B c
 ris:LO cs
def dU {cs:km C4}{c d:C4}(h:LO (cs ++ [c]))(hd:c.1<d.1):LO (cs ++ [c] ++ [d]):=by
 refine List.pairwise_append.mpr ⟨h,by simp,λa ha b hb=> ?_⟩;simp at hb;subst hb;rcases AAg.mp ha with ha|ha
 .have:=(List.pairwise_append.mp h).2.2 a ha c (by simp);grind
 .simp at ha;subst ha;exact hd
def mid (a b:Rat):Rat:=(a+b)/2
def V9 (a b:Rat):mid a b=Rat.divInt (a.num*b.den+b.num*a.den) (2*a.den*b.den):=by have h2:(2:Rat)=Rat.divInt 2 1:=rfl;unfold mid;rw[GV,ADK,h2,Rat.inv_divInt,ADJ,ACw];congr 1;rw[ADr _ 2,ACe]
def Bd.mid {B:Nat}{a b:Rat}(ha:Bd B a)(hb:Bd B b):Bd (2*B+2) (mid a b):=by rw[V9];have h2:(2:Int)*a.den≠0:=Ci (by decide) (BX a);refine .divInt (Ci h2 (BX b)) (Am (RF (n:=B+B) (BR ha.top hb.botI) (BR hb.top ha.botI)) (by omega)) ?_;exact Am (BR (BR (m:=2) (show (2:Int).natAbs<2^2 by decide) ha.botI) hb.botI) (by omega)
def aq {cs:km C4}{i:Int}{k:Nat}(hk:i=(k:Int))(h:k<=cs.length):Er (cs.map cor) (some i) none=(cs.drop k).map cor:=by unfold Er;rw[hk,HT.sIx_none,HT.sIx_nat];rw[show min k (cs.map cor).length=k by simp;omega,ACD];exact ACV (by simp)
def iq {cs:km C4}{i:Int}{k:Nat}{Q:PV->Prop}(hk:i=(k:Int))(h:k<=cs.length)(q:Q (BA (cs.drop k))):Zv (BA cs) (some i) none Q:=by refine IS ?_;rw[aq hk h];exact q
def ae {cs ds:km C4}{Q:PV->Prop}(h:cs.length+ds.length<=10000)(q:Q (BA (cs++ds))):BY (BA cs) (BA ds) Q:=by
 refine⟨?_, ?_⟩
 .simp only[AAa];exact AAl h (by decide)
 .show Q (.tup (cs.map cor++ds.map cor));rw[<-AAo];exact q
def Mul.mid {D N:Nat}{a b:Rat}(ha:Mul D N a)(hb:Mul D N b):Mul (2*D) (2*N) (mid a b):=by
 obtain⟨c,k,rfl,hk⟩:=ha;obtain⟨_,l,rfl,hl⟩:=hb;refine⟨by omega,k+l, ?_,by omega⟩;have h2:(2:Rat)=Rat.divInt 2 1:=rfl;unfold PL.mid;rw[ADo _ _ (by omega) (by omega),ADK,h2,Rat.inv_divInt,ADJ,ACw,ADq (Ci (Ci (by omega) (by omega)) (by decide)) (by omega),<-Int.add_mul];have e:((2*D:Nat):Int)=2*(D:Int):=by omega
 rw[e,ACe,ACe,ADr 2 (D:Int)]
def Mul.dbl {D N:Nat}{a:Rat}(h:Mul D N a):Mul (2*D) (2*N) a:=by
 have:=h.mid h
 rwa [show PL.mid a a=a by unfold PL.mid;grind] at this
def Jy.dbl {D N:Nat}{c:C4}(h:Jy D N c):Jy (2*D) (2*N) c:=⟨h.m.dbl,h.x.dbl,h.y.dbl,h.z.dbl⟩
def Pq.ok {n D N m:Nat}{cs:km C4}(p:Pq n D N cs)(h1:N<2^m)(h2:D<2^m):LM n m cs:=⟨p.two,p.few,λc hc=>(p.mu c hc).bd h1 h2,p.ris⟩
def B0 (cs:km C4)(v:PV):Prop:=∃f:C4->PV,(f=cor\/f=corL)/\(v= .tup (cs.map f)\/v= .lst (cs.map f))
def B0.self (cs:km C4):B0 cs (BA cs):=⟨cor, .inl rfl, .inl rfl⟩
def B0.lists (cs:km C4):B0 cs (.lst (cs.map corL)):=⟨corL, .inr rfl, .inr rfl⟩
def B0.list (cs:km C4):B0 cs (.lst (cs.map cor)):=⟨cor, .inl rfl, .inr rfl⟩
theorem DY {i l:Type}{g:AG}{te:AE}{d:BD}{Q:km PV->Prop}(f:i->PV)(k:l->PV)(e:i->l)(P:i->Prop)(hs:∀a,P a->∀R:PV->Prop,R (k (e a))->g (f a) d λj=>te j R):∀(xs:km i) (c:km PV),(∀a∈xs,P a)->Q (c++(xs.map e).map k)->Cp g D5 te d Q (xs.map f) c
 | [],c,_,h=>(by simpa using h:Q c)
 | a::xs,c,hp,h=>by refine hs a (hp a (by simp)) (λy=>Cp g D5 te d Q (xs.map f) (c ++ [y])) (DY f k e P hs xs _ (λb hb=>hp b (by simp[hb])) ?_);simpa using h
def Sh.cor {c:C4}(h:Ds 1900 c):Sh 2 17000 (cor c):=(Sh.tup (pY (Sh.fr h.m) (Sh.fr h.x) (Sh.fr h.y) (Sh.fr h.z))).mono (by decide) lz
def Sh.corL {c:C4}(h:Ds 1900 c):Sh 2 17000 (corL c):=(Sh.lst (pY (Sh.fr h.m) (Sh.fr h.x) (Sh.fr h.y) (Sh.fr h.z))).mono (by decide) lz
abbrev T3:=Rat×Rat×Rat
def inter (a b:C4)(m:Rat):T3:=(a.2.1+(m-a.1)/(b.1-a.1)*(b.2.1-a.2.1),a.2.2.1+(m-a.1)/(b.1-a.1)*(b.2.2.1-a.2.2.1),a.2.2.2+(m-a.1)/(b.1-a.1)*(b.2.2.2-a.2.2.2))
def spotG:C4->km C4->Rat->ke T3
 | _, [],_=>none
 | a,b::r,m=>if b.1<m then spotG b r m else some (inter a b m)
def spotC:km C4->Rat->ke T3
 | [],_=>none
 | a::r,m=>if m<a.1 then none else spotG a r m
def nQ (t:T3):PV:= .tup [fr t.1,fr t.2.1,fr t.2.2]
def MR:ke T3->PV
 | none=> .non
 | some t=>nQ t
structure FE (B:Nat) (t:T3):Prop where
 x:Bd B t.1
 y:Bd B t.2.1
 z:Bd B t.2.2
def FE.mono {B B':Nat}{t:T3}(h:FE B t)(k:B<=B'):FE B' t:=⟨h.x.mono k,h.y.mono k,h.z.mono k⟩
section
variable {B M:Nat}{a b:C4}{m:Rat}
theorem Sg {x y:Rat}(h:x<y):y-x≠0:=by grind
theorem Bd.share (ha:Ds B a)(hb:Ds B b)(c:Bd M m)(h:a.1<b.1):Bd (M+B+1+(B+B+1)) ((m-a.1)/(b.1-a.1)):=(c.sub ha.m).div (Sg h) (hb.m.sub ha.m)
theorem FE.inter (ha:Ds B a)(hb:Ds B b)(c:Bd M m)(h:a.1<b.1):FE (M+6*B+10) (inter a b m):=by have s:=Bd.share ha hb c h;exact⟨(ha.x.add (s.mul (hb.x.sub ha.x))).mono (by omega),(ha.y.add (s.mul (hb.y.sub ha.y))).mono (by omega),(ha.z.add (s.mul (hb.z.sub ha.z))).mono (by omega)⟩
end
theorem FE.spotG {B M:Nat}{m:Rat}(d:Bd M m):∀{a:C4} {r:km C4},LO (a::r)->(∀c∈a::r,Ds B c)->∀t,spotG a r m=some t->FE (M+6*B+10) t
 | a, [],_,_,t,e=>by cases e
 | a,b::r,hr,hb,t,e=>by
   unfold PL.spotG at e;split at e
   .exact FE.spotG d (AAb.mp hr).2 (λc hc=>hb c (by simp[hc])) t e
   .cases e;exact .inter (hb a (by simp)) (hb b (by simp)) d ((AAb.mp hr).1 b (by simp))
def FE.spotC {B M:Nat}{m:Rat}{cs:km C4}(b:Bd M m)(d:LO cs)(hb:∀c∈cs,Ds B c):∀t,spotC cs m=some t->FE (M+6*B+10) t:=λt e=>by
 cases cs with
 | nil=>cases e
 | cons a r=>
   simp only[PL.spotC] at e;split at e
   .cases e
   .exact FE.spotG b d hb t e
def GZ {f:C4->PV}{cs:km C4}{i:Int}{k:Nat}{c:C4}{Q:PV->Prop}(hk:i=(k:Int))(e:cs[k]? =some c)(h:Q (f c)):ZQ (HK (cs.map f) i) Q:=by have q:HK (cs.map f) ((k:Nat):Int)=some (f c):=B8 (by rw[AAx,e] <;> rfl);rw[hk,q];exact h
def KM {f:C4->PV}{cs:km C4}{c:C4}{Q:PV->Prop}(e:cs.getLast?=some c)(h:Q (f c)):ZQ (HK (cs.map f) (-1)) Q:=by
 have a:cs≠ [] :=by intro z;subst z;cases e
 have hl:0<cs.length:=List.length_pos_iff.mpr a;have q:HK (cs.map f) (-1)=some (f c):=by
  unfold HK V3;rw[AAa,AAQ (by decide),AAR (by omega)];have b:(-1+(cs.length:Int)).toNat=cs.length-1:=by omega
  rw[Option.bind_some,b,AAx,<-AEK,e];rfl
 rw[q];exact h
def NV:AS:=
 (Aa (Ar (AR 2 JF (AB (AR 2 D3 (AB (aV 2) (AB (AY Ai (aV 0) (aC (.int 0))) AL))) (AB (AR 2 D3 (AB (AY Ai (aV 1) (aC (.int 0))) (AB (AY Ai (aV 0) (aC (.int 0))) AL))) AL))) (Au 3))
   (Aq (Dr B4 (AB (DQ (CF (oK (AB (VW (aV 0) (VZ (aC (.int 1))) VY) (AB (VW (aV 1) (VZ (aC (.int 1))) VY) AL))) 2 [3] (JH 2 (Ae (Au 0) (Ae (Au 1) Bx))) D5 (AR 2 Hc (AB (aV 0) (AB (AR 2 FR (AB (aV 2) (AB (AR 2 D3 (AB (aV 1) (AB (aV 0) AL))) AL))) AL))))) AL))))
def D4:AF:=Ax 4 NV
def J5 {f:C4->PV}(i:f=cor\/f=corL){a b:C4}{B M:Nat}{m:Rat}(ha:Ds B a)(hb:Ds B b)(c:Bd M m)(h:a.1<b.1)(k:M+6*B+10<=3990){Q:PV->Prop}(q:Q (nQ (inter a b m))):D4 [f a,f b,fr m] Q:=by
 simp only[nQ,inter] at q;have s:=Bd.share ha hb c h;have key:Cp (JH 2 (Ae (Au 0) (Ae (Au 1) Bx))) D5 (AR 2 Hc (AB (aV 0) (AB (AR 2 FR (AB (aV 2) (AB (AR 2 D3 (AB (aV 1) (AB (aV 0) AL))) AL))) AL))) [none,none,some (.val (fr ((m-a.1)/(b.1-a.1))))] (λxs=>Q (.tup xs))
  ([(a.2.1,b.2.1),(a.2.2.1,b.2.2.1),(a.2.2.2,b.2.2.2)].map λp:Rat×Rat=>PV.tup [fr p.1,fr p.2]) [] :=by refine DY (λp:Rat×Rat=>PV.tup [fr p.1,fr p.2]) fr (λp=>p.1+(m-a.1)/(b.1-a.1)*(p.2-p.1)) (λp=>Bd B p.1/\Bd B p.2) (λp hp R j=> ?_) _ [] (pX ⟨ha.x,hb.x⟩ ⟨ha.y,hb.y⟩ ⟨ha.z,hb.z⟩) q;have d:=hp.1;have g:=hp.2;exact⟨rfl,rfl,EG (g.mono (by omega)) (d.mono (by omega)) ⟨rfl,Nh (s.mono (by omega)) ((g.sub d).mono (by omega)) ⟨rfl,Pp (d.mono (by omega)) ((s.mul (g.sub d)).mono (by omega)) j⟩⟩⟩
 have m1:=c.mono (n:=4000) (by omega);have e:=ha.m.mono (n:=4000) (by omega);have b1:=hb.m.mono (n:=4000) (by omega);rcases i with rfl|rfl
 .exact ⟨rfl,EG m1 e ⟨rfl,EG b1 e ⟨rfl,LK (Sg h) ((c.sub ha.m).mono (by omega)) ((hb.m.sub ha.m).mono (by omega)) (IS (IS ⟨lz,key⟩))⟩⟩⟩
 .exact ⟨rfl,EG m1 e ⟨rfl,EG b1 e ⟨rfl,LK (Sg h) ((c.sub ha.m).mono (by omega)) ((hb.m.sub ha.m).mono (by omega)) (EV (EV ⟨lz,key⟩))⟩⟩⟩
def Q1:AS:=
 (Aa (Fe (ft (AB (aC (.int 1)) (AB (Dr EA (AB (aV 0) AL)) AL))) (Au 2) (BO (B2 (Aj (AR 2 Ao (AB (AY Ai (AY Ai (aV 0) (aV 2)) (aC (.int 0))) (AB (aV 1) AL))))) (Aq (AR 3 D4 (AB (AY Ai (aV 0) (AY GX (aV 2) (aC (.int 1)))) (AB (AY Ai (aV 0) (aV 2)) (AB (aV 1) AL))))) A0))
   (Aq (aC .non)))
def YQ:AS:=
 (Aa (BO (Aj (AR 2 Ao (AB (aV 1) (AB (AY Ai (AY Ai (aV 0) (aC (.int 0))) (aC (.int 0))) AL)))) (Aq (aC .non)) A0)
   Q1)
def EI:AF:=Ax 3 YQ
def iV {cs:km C4}(h:LO cs){k:Nat}{a b:C4}(c:cs[k]? =some a)(d:cs[k+1]? =some b):a.1<b.1:=by have h1:=(AAw.mp c);have h2:=(AAw.mp d);obtain⟨e,rfl⟩:=h1;obtain⟨f,rfl⟩:=h2;exact AEL.mp h k (k+1) e f (by omega)
def Eo {cs:km C4}{v:PV}{B M:Nat}{m:Rat}(hv:B0 cs v)(hc:∀c∈cs,Ds B c)(A:LO cs)(C:cs≠ [])(hl:cs.length<=1000)(s:Bd M m)(D:M+6*B+10<=3990){Q:PV->Prop}(q:Q (MR (spotC cs m))):EI [v,fr m] Q:=by
 obtain⟨f,t,hv⟩:=hv;have m1:=s.mono (n:=4000) (by omega);cases cs with
 | nil=>exact absurd rfl C
 | cons a r=>
   have E:=hc a (by simp);have F:=E.m.mono (n:=4000) (by omega);simp only[spotC] at q;have G:r.length+1<=1000:=hl;have u:∀(c:C4) (P:PV->Prop),P (fr c.1)->Ua (f c) λys=>ZQ (HK ys 0) P:=λc P H=>by rcases t with rfl|rfl <;> exact H
   rcases hv with rfl|rfl;all_goals
    refine GZ (k:=0) (c:=a) rfl rfl (u a _ ⟨rfl,Bk m1 F ?_⟩);refine FG (b:=decide (m<a.1)) (λz=> ?_) (λz=> ?_)
    .rw [AAR (AA6 z)] at q;exact q
    .rw [AAQ (ABU z)] at q;have i:∀f:C4->PV,((((a::r).map f).length:Nat):Int)=r.length+1:=λf=>by simp
     refine⟨⟨by decide,by decide,by rw[i];omega,by rw[i];omega⟩, ?_⟩;rw[i,show ((r.length:Int)+1-1).toNat=r.length by omega];refine GY (λw τ=>∃(k:Nat) (j:ke AV) (c:C4) (ds:km C4),w=rng ((k:Int)+1) ds.length/\(a::r)[k]? =some c/\(a::r).drop (k+1)=ds/\spotG c ds m=spotG a r m/\τ= [some (.val _),some (.val (fr m)),j]) ?_ ?_ _ _ ⟨0,none,a,r,rfl,rfl,rfl,rfl,rfl⟩
     .rintro τ ⟨k,j,c,ds,g,h,o,es,rfl⟩;have:ds= [] :=by
       cases ds with
       | nil=>rfl
       | cons d ds=>rw[AAn,GD] at g;cases g
      subst this;rw[<-es] at q;exact q
     .rintro x w τ R I ⟨k,j,c,ds,g,h,o,es,rfl⟩;cases ds with
      | nil=>cases g
      | cons d ds=>
        rw[AAn,GD] at g;cases g;have e:(a::r)[k+1]? =some d:=by have:=congrArg (λl=>l[0]?) o;simpa[ACf] using this
        have y:=hc d (AA4 e);have J:=hc c (AA4 h);refine GZ (k:=k+1) (by omega) e (u d _ ⟨rfl,Bk (y.m.mono (by omega)) m1 ?_⟩);refine FG (b:= !decide (d.1<m)) (λz=> ?_) (λz=> ?_)
        .have p:¬d.1<m:=by simpa using z
         rw[<-es] at q;simp only[spotG,AAQ p,MR] at q;exact GZ (k:=k) (by omega) h (GZ (k:=k+1) (by omega) e ⟨rfl,J5 t J y s (iV A h e) D q⟩)
        .have p:d.1<m:=by simpa using z
         refine I _ ⟨k+1,_,d,ds, ?_,e, ?_, ?_,rfl⟩
         .rw [show (((k+1:Nat):Int)+1)=(k:Int)+1+1 by omega]
         .have:=congrArg List.tail o;simpa[List.tail_drop] using this
         .rw [<-es];simp only[spotG,AAR p]
theorem Oq {m:Rat}:∀{a:C4} {r:km C4},LO (a::r)->(∀l,(a::r).getLast?=some l->l.1<m)->spotG a r m=none
 | a, [],_,_=>rfl
 | a,b::r,hr,h=>by
   have d:LO (b::r):=(AAb.mp hr).2;have hb:b.1<m:=by
    cases r with
    | nil=>exact h b rfl
    | cons c r=> obtain⟨l,hl⟩:∃l,(c::r).getLast?=some l:=⟨_,ACE (by simp)⟩;have h1:l.1<m:=h l (by simpa[ACF] using hl);have h2:b.1<l.1:=(AAb.mp d).1 l (ABd hl);grind
   simp only[spotG,AAR hb];exact Oq d λl hl=>h l (by simpa[ACF] using hl)
def UH {a b:C4}(h:a.1<b.1):inter a b a.1=a.2:=by
 have s:(a.1-a.1)/(b.1-a.1)=0:=by grind
 simp only[inter,s];obtain⟨m,x,y,z⟩:=a;show (x+0*(b.2.1-x),y+0*(b.2.2.1-y),z+0*(b.2.2.2-z))=(x,y,z);rw[show x+0*(b.2.1-x)=x by grind,show y+0*(b.2.2.1-y)=y by grind,show z+0*(b.2.2.2-z)=z by grind]
def N9 {a b:C4}(h:a.1<b.1):inter a b b.1=b.2:=by
 have s:(b.1-a.1)/(b.1-a.1)=1:=by grind
 simp only[inter,s];obtain⟨m,x,y,z⟩:=b;show (a.2.1+1*(x-a.2.1),a.2.2.1+1*(y-a.2.2.1),a.2.2.2+1*(z-a.2.2.2))=(x,y,z);rw[show a.2.1+1*(x-a.2.1)=x by grind,show a.2.2.1+1*(y-a.2.2.1)=y by grind,show a.2.2.2+1*(z-a.2.2.2)=z by grind]
def U0 {a:C4}{r:km C4}{m:Rat}(h:m<a.1):spotC (a::r) m=none:=by simp only[spotC,AAR h]
def Sc {a:C4}{r:km C4}{m:Rat}(b:LO (a::r))(h:∀l,(a::r).getLast?=some l->l.1<m):spotC (a::r) m=none:=by
 simp only[spotC];split
 .rfl
 .exact Oq b h
def Jv:AS:=
 (Aa (Ar (DQ (CF (HP (Ay (AB (aC (.int 1)) (AB (aC (.int 2)) (AB (aC (.int 3)) AL))))) 1 [4,3,2] (Au 0) D5 (AR 2 Bw (AB (aV 1) (AB (AR 2 Cw (AB (AY Ai (aV 2) (aV 0)) (AB (AY Ai (aV 3) (aV 0)) AL))) AL))))) (Au 5))
   (Aq (Dr B4 (AB (DQ (CF (Te (AB (aC (.int 3)) AL)) 1 [2,5] (Au 0) D5 (AR 2 Cy (AB (AY Ai (aV 1) (AY BY (aV 0) (aC (.int 1)))) (AB (AY Ai (aV 2) (aV 0)) AL))))) AL))))
def NQ:AS:=
 (Aa (Ar (AR 2 DA (AB (AR 2 Cw (AB (aV 1) (AB (AY Ai (aV 2) (aC (.int 0))) AL))) (AB (AR 2 Cw (AB (AY Ai (aV 3) (aC (.int 0))) (AB (AY Ai (aV 2) (aC (.int 0))) AL))) AL))) (Au 4))
   Jv)
def NR:AS:=
 (Aa (Fe (oK (AB (aV 0) (AB (VW (aV 0) (VZ (aC (.int 1))) VY) AL))) (JH 2 (Ae (Au 2) (Ae (Au 3) Bx))) (BO (B2 (Aj (AR 2 Ao (AB (AY Ai (aV 3) (aC (.int 0))) (AB (aV 1) AL))))) NQ A0))
   (Aq (aC .non)))
def Sx:AS:=
 (Aa (BO (D9 (Aj (AR 2 Ao (AB (aV 1) (AB (AY Ai (AY Ai (aV 0) (aC (.int 0))) (aC (.int 0))) AL)))) (Aj (AR 2 Ao (AB (AY Ai (AY Ai (aV 0) (Mh E9 (aC (.int 1)))) (aC (.int 0))) (AB (aV 1) AL))))) (Aq (aC .non)) A0)
   NR)
def EZ:AF:=Ax 6 Sx
def HX {cs:km C4}{B M:Nat}{m:Rat}(hc:∀c∈cs,Ds B c)(D:LO cs)(H:cs≠ [])(hl:cs.length<=1000)(p:Bd M m)(O:M+6*B+10<=3990){Q:PV->Prop}(q:Q (MR (spotC cs m))):EZ [BA cs,fr m] Q:=by
 have m1:=p.mono (n:=4000) (by omega);cases cs with
 | nil=>exact absurd rfl H
 | cons a r=>
   have I:=hc a (by simp);have J:=I.m.mono (n:=4000) (by omega);obtain⟨l,t⟩:∃l,(a::r).getLast?=some l:=⟨_,ACE (by simp)⟩;have K:=hc l (ABd t);refine GZ (f:=cor) (k:=0) (c:=a) rfl rfl ⟨rfl,Bk m1 J ?_⟩;refine FG (b:=decide (m<a.1)) (λz=> ?_) (λz=> ?_)
   .rw [U0 (AA6 z)] at q;exact q
   refine KM (f:=cor) t ⟨rfl,Bk (K.m.mono (by omega)) m1 ?_⟩;refine FG (b:=decide (l.1<m)) (λj=> ?_) (λj=> ?_)
   .rw [Sc D (λP E=>by rw[t] at E;cases E;exact AA6 j)] at q;exact q
   simp only[spotC,AAQ (ABU z)] at q;have L:r.length+1<=1000:=hl;refine iq (cs:=a::r) (i:=1) (k:=1) rfl (by simp) ?_;refine GY (λF τ=>∃(c:C4) (ds:km C4) (j u v w:ke AV),F=Pf ((c::ds).map cor) (ds.map cor)/\LO (c::ds)/\(∀d∈c::ds,Ds B d)/\spotG c ds m=spotG a r m/\τ= [some (.val (BA (a::r))),some (.val (fr m)),j,u,v,w]) ?_ ?_ _ _ ⟨a,r,none,none,none,none,rfl,D,hc,rfl,rfl⟩
   .rintro τ ⟨c,ds,j,u,v,w,o,A,hb,es,rfl⟩;have:ds= [] :=by cases ds with | nil=>rfl|cons d ds=>cases o
    subst this;rw[<-es] at q;exact q
   .rintro x F τ R N ⟨c,ds,j,u,v,w,o,A,hb,es,rfl⟩;cases ds with
    | nil=>cases o
    | cons d ds=>
      cases o;have g:=hb c (by simp);have h:=hb d (by simp);have G:=(AAb.mp A).1 d (by simp);refine⟨rfl,rfl,Bk (h.m.mono (by omega)) m1 ?_⟩;refine FG (b:= !decide (d.1<m)) (λz=> ?_) (λz=> ?_)
      .have C:¬d.1<m:=by simpa using z
       rw[<-es] at q;simp only[spotG,AAQ C,MR,nQ,inter] at q;have s:=Bd.share g h p G;refine⟨rfl,Ch m1 (g.m.mono (by omega)) ⟨rfl,Ch (h.m.mono (by omega)) (g.m.mono (by omega)) ⟨rfl,HC (Sg G) ((p.sub g.m).mono (by omega)) ((h.m.sub g.m).mono (by omega)) ?_⟩⟩⟩;refine⟨lz,lz, ?_⟩;refine⟨rfl,Ch (h.x.mono (by omega)) (g.x.mono (by omega)) ⟨rfl,Co (s.mono (by omega)) ((h.x.sub g.x).mono (by omega)) ?_⟩⟩;refine⟨rfl,Ch (h.y.mono (by omega)) (g.y.mono (by omega)) ⟨rfl,Co (s.mono (by omega)) ((h.y.sub g.y).mono (by omega)) ?_⟩⟩;refine⟨rfl,Ch (h.z.mono (by omega)) (g.z.mono (by omega)) ⟨rfl,Co (s.mono (by omega)) ((h.z.sub g.z).mono (by omega)) ?_⟩⟩;refine⟨⟨by decide,by decide⟩,lz, ?_⟩;refine⟨rfl,DO (g.x.mono (by omega)) ((s.mul (h.x.sub g.x)).mono (by omega)) ?_⟩;refine⟨rfl,DO (g.y.mono (by omega)) ((s.mul (h.y.sub g.y)).mono (by omega)) ?_⟩;exact⟨rfl,DO (g.z.mono (by omega)) ((s.mul (h.z.sub g.z)).mono (by omega)) q⟩
      .have C:d.1<m:=by simpa using z
       exact N _ ⟨d,ds,_,_,_,_,rfl,(AAb.mp A).2,λe he=>hb e (by simp[he]),by rw[<-es];simp only[spotG,AAR C],rfl⟩
def j8.t3 {t:T3}(h:FE 1900 t):j8 (nQ t):=(Sh.tup (pX (Sh.fr h.x) (Sh.fr h.y) (Sh.fr h.z))).go (by decide) lz
def sp (cs:km C4)(m:Rat):C4:=(m,(spotC cs m).getD (0,0,0))
def LS (f t:Rat)(c:C4):kc:=decide (f<c.1)&&decide (c.1<t)
theorem Os {m:Rat}:∀{a:C4} {r:km C4} {l:C4},r≠ [] ->(a::r).getLast?=some l->m<=l.1->∃t,spotG a r m=some t
 | a, [],l,h,_,_=>absurd rfl h
 | a,b::r,l,_,e,hm=>by
   simp only[spotG];split
   .rename_i h;cases r with
    | nil=>
      have:b=l:=by simpa using e
      subst this;grind
    | cons c r=>exact Os (l:=l) (by simp) (by simpa[ACF] using e) hm
   .exact ⟨_,rfl⟩
def Op {a:C4}{r:km C4}{l:C4}{m:Rat}(h2:r≠ [])(e:(a::r).getLast?=some l)(b:a.1<=m)(h1:m<=l.1):∃t,spotC (a::r) m=some t:=by simp only[spotC];rw[AAQ (by grind)];exact Os h2 e h1
def Y7 {a b l:C4}{r:km C4}(e:(a::b::r).getLast?=some l):(b::r).getLast?=some l:=by simpa[ACF] using e
def mx (b a:Rat):Rat:=if b<a then a else b
def mn (e l:Rat):Rat:=if e<l then e else l
def NJ:AS:=
 (Aq (fF (Aj (AR 2 Ao (AB (aV 0) (AB (aV 1) AL)))) (aV 1) (aV 0)))
def Cv:AF:=Ax 2 NJ
def J3 {a b:Rat}(ha:Bd 4000 a)(hb:Bd 4000 b){Q:PV->Prop}(q:Q (fr (mx a b))):Cv [fr a,fr b] Q:=by
 refine⟨rfl,Bk ha hb ?_⟩;refine FG (b:=decide (a<b)) (λz=> ?_) (λz=> ?_)
 .rw [mx,AAR (AA6 z)] at q;exact q
 .rw [mx,AAQ (ABU z)] at q;exact q
def Z6:AS:=
 (Aq (fF (Aj (AR 2 Ao (AB (aV 1) (AB (aV 0) AL)))) (aV 1) (aV 0)))
def E1:AF:=Ax 2 Z6
def TY {a b:Rat}(ha:Bd 4000 a)(hb:Bd 4000 b){Q:PV->Prop}(q:Q (fr (mn a b))):E1 [fr a,fr b] Q:=by
 refine⟨rfl,Bk hb ha ?_⟩;refine FG (b:=decide (b<a)) (λz=> ?_) (λz=> ?_)
 .have c:=AA6 z;rw[show mn a b=b by unfold mn;split <;> grind] at q;exact q
 .have c:=ABU z;rw[show mn a b=a by unfold mn;split <;> grind] at q;exact q
theorem Df {i:Type}{g:AG}{j:AT}{te:AE}{d:BD}{Q:km PV->Prop}(f k:i->PV)(p:i->kc)(P:i->Prop)(hs:∀a,P a->∀(R:PV->Prop) (N:Prop),(p a=true->R (k a))->(p a=false->N)->g (f a) d λe=>j e λok=>if ok=true then te e R else N):∀(xs:km i) (c:km PV),(∀a∈xs,P a)->Q (c++(xs.filter p).map k)->Cp g j te d Q (xs.map f) c
 | [],c,_,h=>(by simpa using h:Q c)
 | a::xs,c,hp,h=>by
   refine hs a (hp a (by simp)) (λy=>Cp g j te d Q (xs.map f) (c ++ [y])) _ (λz=> ?_) (λz=> ?_)
   .exact Df f k p P hs xs _ (λb hb=>hp b (by simp[hb])) (by simpa[ABJ,z] using h)
   .exact Df f k p P hs xs _ (λb hb=>hp b (by simp[hb])) (by simpa[ABJ,z] using h)
def both {f t:Rat}{c:C4}{b:(kc->Prop)->Prop}{A:Prop}{N:Prop}(h1:LS f t c=true->A)(h2:LS f t c=false->N):if decide (f<c.1)=true then (if decide (c.1<t)=true then A else N) else N:=by unfold LS at h1 h2;refine FG (λz=>FG (λa=>h1 (by rw[z,a];rfl)) (λa=>h2 (by rw[z,a];rfl))) (λz=>h2 (by rw[z];rfl))
def Jw:AS:=
 (Aq (DQ (CF (HP (aV 0)) 1 [1,2] (Au 0) (KC (Aj (AR 2 Ao (AB (aV 1) (AB (AY Ai (aV 0) (aC (.int 0))) AL)))) (Aj (AR 2 Ao (AB (AY Ai (aV 0) (aC (.int 0))) (AB (aV 2) AL))))) (Dr B4 (AB (aV 0) AL)))))
def B6:AF:=Ax 3 Jw
def Ea {cs:km C4}{v:PV}{B:Nat}{f t:Rat}(hv:B0 cs v)(hl:cs.length<=1000)(hc:∀c∈cs,Ds B c)(h:B<=4000)(i:Bd 4000 f)(j:Bd 4000 t){Q:PV->Prop}(q:Q (.lst ((cs.filter (LS f t)).map cor))):B6 [v,fr f,fr t] Q:=by
 obtain⟨g,k,hv⟩:=hv;have a:(cs.map g).length<sizeLine:=by rw[AAa];exact ABN hl (by decide)
 have key:∀(c:C4),Ds B c->∀(R:PV->Prop) (N:Prop),(LS f t c=true->R (cor c))->(LS f t c=false->N)->
  (Au 0) (g c) [none,some (.val (fr f)),some (.val (fr t))] λd=>(KC (Aj (AR 2 Ao (AB (aV 1) (AB (AY Ai (aV 0) (aC (.int 0))) AL)))) (Aj (AR 2 Ao (AB (AY Ai (aV 0) (aC (.int 0))) (AB (aV 2) AL))))) d λok=>if ok=true then (Dr B4 (AB (aV 0) AL)) d R else N:=by
  intro c l R N h1 h2;have bm:=l.m.mono h;rcases k with rfl|rfl;all_goals
   refine⟨rfl,Bk i bm ?_⟩;refine FG (b:=decide (f<c.1)) (λz=> ?_) (λz=>h2 (by unfold LS;rw[z];rfl));refine⟨rfl,Bk bm j ?_⟩;exact FG (b:=decide (c.1<t)) (λe=>h1 (by unfold LS;rw[z,e];rfl)) (λe=>h2 (by unfold LS;rw[z,e];rfl))
 rcases hv with rfl|rfl
 .exact ⟨a,Df g cor (LS f t) (Ds B) key cs [] hc q⟩
 .exact ⟨a,Df g cor (LS f t) (Ds B) key cs [] hc q⟩
def Bd.mx {n:Nat}{a b:Rat}(ha:Bd n a)(hb:Bd n b):Bd n (mx a b):=by unfold PL.mx;split <;> assumption
def Bd.mn {n:Nat}{a b:Rat}(ha:Bd n a)(hb:Bd n b):Bd n (mn a b):=by unfold PL.mn;split <;> assumption
section
variable {a b:AS}{ta tb:AE}{tt tu:AT}{g:AG}{gs:VB}{nx bk ct:BD->Prop}{rt:PV->Prop}{τ:BD}{Q:PV->Prop}{QB:kc->Prop}{QL:km PV->Prop}{QT:BD->Prop}{r:AA}{ai:AI}{F:AF}{n i j:Nat}{x y z:PV}{xs ys:km PV}
def qR {f:HM}(e:Su τ i=some (.val x))(h:ta τ λy=>f x y λz=>nx (τ.set i (some (.val z)))):VT i f ta ⟨nx,rt,bk,ct⟩ τ:=by unfold VT;rw[e];exact h
def qZ (e:Su τ i=some (.own xs))(h:QL xs):Np i τ QL:=by unfold Np;rw[e];exact h
def ze (e:Su τ i=some (.val x))(h:Q x):aV i τ Q:=by unfold aV;rw[e];exact h
def wW (x:PV)(i:Int):ke PV:=match x with | .tup xs=>HK xs i | .lst xs=>HK xs i|_=>none
def uS {i:Int}(e:wW x i=some z)(h:Q z):Ai x (.int i) Q:=by cases x <;> first | (cases e;done)|(show ZQ (HK _ i) Q;rw[show HK _ i=some z from e];exact h)
def db {a:C4}{cs:km C4}(h:Q (cor a)):Ai (BA (a::cs)) (.int 0) Q:=GZ (k:=0) (c:=a) rfl rfl h
def mS {l:C4}{cs:km C4}(c:cs.getLast?=some l)(h:Q (cor l)):Ai (BA cs) (.int (-1)) Q:=KM c h
def qS {a b:Rat}(h:Q (.bl (decide (a=b)))):HQ (fr a) (fr b) Q:=⟨⟨Xr 29 _,Xr 29 _⟩,by rw[RJ];exact h⟩
def qY {a b:Rat}(h:Q (.bl (!decide (a=b)))):PD (fr a) (fr b) Q:=⟨⟨Xr 29 _,Xr 29 _⟩,by rw[RJ];exact h⟩
def qX {T:String}{k:Kd}(c:Hj T)(e:kdOf x=some k)(h:Q (.bl (Ih k T))):PF [x, .ty T] Q:=by refine⟨c, ?_⟩;rw[e];exact h
def jf {g:km kc->kc}{bs:km kc}(e:Hf xs=some bs)(h:Q (.bl (g bs))):Yn g [.lst xs] Q:=by show (match Hf xs with | some bs=>Q (.bl (g bs))|none=>False);rw[e];exact h
def qU {c:kc}{A B:Prop}(e:c=true)(h:A):if c=true then A else B:=by rw[AAR e];exact h
def qT {c:kc}{A B:Prop}(e:c=false)(h:B):if c=true then A else B:=by rw[AAQ (by rw[e];exact AAe)];exact h
def qV {p:Prop}[Decidable p]{A B:Prop}(h1:p->A)(h2:¬p->B):if decide p=true then A else B:=by
 by_cases h:p
 .rw [AAR (AAZ h)];exact h1 h
 .rw [AAQ (by simp[h])];exact h2 h
def qW {p:Prop}[Decidable p]{A B:Prop}(h1:¬p->A)(h2:p->B):if (!decide p)=true then A else B:=by
 by_cases h:p
 .rw [AAQ (by simp[h])];exact h2 h
 .rw [AAR (by simp[h])];exact h1 h
end
def sj:Bd 1 (0:Rat):=⟨by decide,by decide⟩
def oO:Bd 1 (1:Rat):=⟨by decide,by decide⟩
section
variable {g:AG}{b:AS}{nx bk ct:BD->Prop}{rt:PV->Prop}
def XX (P:Nat->BD->Prop){lo:Int}{n:Nat}(hd:∀τ,P n τ->nx τ)(hs:∀i,i<n->∀τ (R:BD->Prop),(∀τ,P (i+1) τ->R τ)->P i τ->g (.int (lo+i)) τ λc=>b ⟨R,rt,nx,R⟩ c){τ:BD}(f:P 0 τ):ED g b ⟨nx,rt,bk,ct⟩ (rng lo n) τ:=by
 refine GY (λr τ=>∃i,i<=n/\r=rng (lo+i) (n-i)/\P i τ) ?_ ?_ _ _ ⟨0,AA3 _,by simp,f⟩
 .rintro τ ⟨i,hi,a,hp⟩;have:n-i=0:=by
   cases e:n-i with
   | zero=>rfl
   | succ k=>rw[e,GD] at a;cases a
  have:i=n:=by omega
  subst this;exact hd τ hp
 .rintro x r τ R h ⟨i,hi,a,hp⟩;cases e:n-i with
  | zero=>rw[e] at a;cases a
  | succ k=> rw[e,GD] at a;cases a;exact hs i (by omega) τ R (λd h2=>h d ⟨i+1,by omega,by rw[show n-(i+1)=k by omega,show lo+((i+1:Nat):Int)=lo+i+1 by omega],h2⟩) hp
def ET {d:Type}(f:d->PV)(P:km d->km d->BD->Prop){cs:km d}(hd:∀τ,P cs [] τ->nx τ)(hs:∀a c vs,a++c::vs=cs->∀τ (R:BD->Prop),(∀τ,P (a ++ [c]) vs τ->R τ)->P a (c::vs) τ->g (f c) τ λi=>b ⟨R,rt,nx,R⟩ i){τ:BD}(k:P [] cs τ):ED g b ⟨nx,rt,bk,ct⟩ (cs.map f) τ:=by
 refine GY (λr τ=>∃a vs,a++vs=cs/\r=vs.map f/\P a vs τ) ?_ ?_ _ _ ⟨[],cs,rfl,rfl,k⟩
 .rintro τ ⟨a,vs,e,h,hp⟩;cases vs with
  | nil=>rw[ABt] at e;subst e;exact hd τ hp
  | cons v vs=>cases h
 .rintro x r τ R l ⟨a,vs,e,h,hp⟩;cases vs with
  | nil=>cases h
  | cons c vs=> cases h;exact hs a c vs e τ R (λj h2=>l j ⟨a ++ [c],vs,by simpa using e,rfl,h2⟩) hp
def gD (P:BD->Prop){xs:km PV}(hd:∀τ,P τ->nx τ)(hs:∀x∈xs,∀τ (R:BD->Prop),(∀τ,P τ->R τ)->P τ->g x τ λa=>b ⟨R,rt,nx,R⟩ a){τ:BD}(e:P τ):ED g b ⟨nx,rt,bk,ct⟩ xs τ:=by
 refine GY (λr τ=>(∀x∈r,x∈xs)/\P τ) ?_ ?_ _ _ ⟨λ_ h=>h,e⟩
 .rintro τ ⟨_,hp⟩;exact hd τ hp
 .rintro x r τ R f ⟨d,hp⟩;exact hs x (d x (by simp)) τ R (λc h2=>f c ⟨λy hy=>d y (by simp[hy]),h2⟩) hp
def rA {c:AT}(P:Nat->BD->Prop)(hs:∀n τ (R:BD->Prop),(∀τ,P n τ->R τ)->P (n+1) τ->c (frz τ) λk=>if k=true then b ⟨R,rt,nx,R⟩ τ else nx τ)(a:∀τ,¬P 0 τ){n:Nat}{τ:BD}(d:P n τ):LR c b ⟨nx,rt,bk,ct⟩ τ:=
 ⟨n,Wx P a (λn τ R e hp=>hs n τ R e hp) n τ d⟩
end
section
variable {g:AG}{tt:AT}{te:AE}{τ0:BD}{Q:km PV->Prop}
def gB (P:Nat->km PV->Prop){lo:Int}{n:Nat}(hd:∀a,P n a->Q a)(hs:∀i,i<n->∀a (R:km PV->Prop),(∀a,P (i+1) a->R a)->P i a->g (.int (lo+i)) τ0 λc=>tt c λok=>if ok=true then te c λy=>R (a ++ [y]) else R a)(f:P 0 []):Cp g tt te τ0 Q (rng lo n) [] :=by
 refine XI (λr a=>∃i,i<=n/\r=rng (lo+i) (n-i)/\P i a) ?_ ?_ _ _ ⟨0,AA3 _,by simp,f⟩
 .rintro a ⟨i,hi,b,hp⟩;have:n-i=0:=by
   cases e:n-i with
   | zero=>rfl
   | succ k=>rw[e,GD] at b;cases b
  have:i=n:=by omega
  subst this;exact hd a hp
 .rintro x r a R h ⟨i,hi,b,hp⟩;cases e:n-i with
  | zero=>rw[e] at b;cases b
  | succ k=> rw[e,GD] at b;cases b;exact hs i (by omega) a R (λd h2=>h d ⟨i+1,by omega,by rw[show n-(i+1)=k by omega,show lo+((i+1:Nat):Int)=lo+i+1 by omega],h2⟩) hp
end
end PL
namespace PL
section
variable {p:Prop}[Decidable p]{A B:Prop}
def mR (h:¬p)(a:B):if decide p=true then A else B:=by rw[AAQ (by simp[h])];exact a
end
end PL
namespace PL
open PySem PySem.Spec PyProof.Rows L2
section
variable {K:AAP}{T M:kf->Prop}{H:Hp}
inductive KR (K:AAP):List Value->List PV->Prop where
 | nil:KR K [] []
 | cons {u:Value} {x:PV} {us:List Value} {xs:List PV} (h:∃V,RelV V u/\∀T M H,Cc K T M H V x) (t:KR K us xs):KR K (u::us) (x::xs)
def KR.length:∀{a:km kj} {xs:km PV},KR K a xs->a.length=xs.length
 | _,_, .nil=>rfl
 | _,_, .cons _ t=>by simp[t.length]
end
def fg (K:AAP)(d:kf):km (Str×PV)->Prop
 | [] =>True
 | p::r=>(∃(u:kj) (V:V),PySem.W.nsIn K d p.1=some (some u)/\RelV V u/\∀T M H,Cc K T M H V p.2)/\fg K d r
theorem fg.get {K:AAP}{d:kf}:∀{c:km (Str×PV)},fg K d c->∀s v,c.lookup s=some v->∃(u:kj) (V:V),PySem.W.nsIn K d s=some (some u)/\RelV V u/\∀T M H,Cc K T M H V v
 | [],_,s,v,e=>by cases e
 | (a,b)::r,h,s,v,e=>by
   rw[ADj] at e;split at e
   .rename_i hb;cases e;have:s=a:=eq_of_beq hb;subst this;exact h.1
   .exact fg.get h.2 s v e
section
variable {X:Cx}
def Xg (x:PV)(xs:km PV):kc:=xs.any λy=>Nz y x
def bB (neg:kc):HM:=λx y Q=>Ua y λys=>(En 29 x=true/\JR 29 ys=true)/\Q (.bl (if neg then !Xg x ys else Xg x ys))
def iS (K:AAP)(neg:kc):R2:=λu v H Q=>∃(T M:kf->Prop) (x y:PV) (ys:km PV),Cc K T M H u x/\Cc K T M H v y/\(y= .tup ys\/y= .lst ys)/\En 29 x=true/\JR 29 ys=true/\Q (.bl (if neg then !Xg x ys else Xg x ys)) H
def Xw (xs:km PV)(x:PV):(ML xs).any (λy=>PyData.eqv y (pd x))=Xg x xs:=by
 induction xs with
 | nil=>rfl
 | cons y ys ih=>simp only[ML,AA7,ih,Xg,Nz]
def lj {k:Nat}(e:Room k X.A):EB X (compareOp .In) (iS X.K false):=by
 intro Wf s i H u v j l Q I f rv h;obtain⟨T,M,x,y,ys,g,b,hy,c,ky,q⟩:=h;obtain⟨as,ra⟩:=Ed I 29 g c f;obtain⟨d,m,_⟩:=IN 29 x c;obtain⟨b1,b2,_⟩:=Kg 29 ys ky;have hu:X.A.units+1+min (PyData.depthAll (ML ys)) (pd x).depth<cLine:=by have:=e.un;omega
 rcases hy with rfl|rfl
 .obtain ⟨bs,a⟩:=Ed I 30 b (by simpa[En] using ky) rv;exact SeqAt.in_tuple_reads a ra b1 d hu (by rw[Xw];exact⟨.bl _,H,I,rfl,q⟩)
 .obtain ⟨bs,a⟩:=Ed I 30 b (by simpa[En] using ky) rv;exact SeqAt.in_list_reads a ra b1 d hu (by rw[Xw];exact⟨.bl _,H,I,rfl,q⟩)
def ig {neg:kc}:Bt X.K (iS X.K neg) (bB neg):=λT M H u v x y Q b va a rv h k=>by obtain⟨ys,hy,h1,q⟩:=JT h;exact⟨T,M,x,y,ys,a,rv,hy,h1.1,h1.2,k _ _ T H (.refl va.tp) (.bl _) q⟩
def dy {k:Nat}(a:Room k X.A):EB X (compareOp .In) (iS X.K false)/\Bt X.K (iS X.K false) (bB false):=⟨lj a,ig⟩
end
end PL
namespace PL
open PySem L2 PyProof.Rows
class Wp (P:Prop) (P':outParam Prop):Prop where
 go:P'->P
class VA (P:Prop) (C P':outParam Prop):Prop where
 go:C->P'->P
class v6 (P:Prop) (P':outParam Prop):Prop where
 go:P'->P
class sW (P:Prop) (A B:outParam Prop):Prop where
 go:A->B->P
class jF (τ:BD) (i:Nat) (x:outParam AV):Prop where
 e:Su τ i=some x
instance{v:AV}{r:BD}:jF (some v::r) 0 v:=⟨rfl⟩
instance{y:ke AV}{r:BD}{i:Nat}{v:AV}[h:jF r i v] :jF (y::r) (i+1) v:=⟨h.e⟩
class aP (τ:BD) (i:Nat) (v:AV) (τ':outParam BD):Prop where
 e:τ.set i (some v)=τ'
instance{y:ke AV}{r:BD}{v:AV}:aP (y::r) 0 v (some v::r):=⟨rfl⟩
instance{y:ke AV}{r a:BD}{i:Nat}{v:AV}[h:aP r i v a] :aP (y::r) (i+1) v (y::a):=⟨by rw[List.set_cons_succ,h.e]⟩
class Zu (τ:BD) (τ':outParam BD):Prop where
 e:frz τ=τ'
instance:Zu [] [] :=⟨rfl⟩
instance (priority:=low){z:ke AV}{r a:BD}[h:Zu r a] :Zu (z::r) (gG z::a):=⟨by rw[<-h.e];rfl⟩
instance{r a:BD}[h:Zu r a] :Zu (none::r) (none::a):=⟨by rw[<-h.e];rfl⟩
instance{x:PV}{r a:BD}[h:Zu r a] :Zu (some (.val x)::r) (some (.val x)::a):=⟨by rw[<-h.e];rfl⟩
instance{x:km PV}{r a:BD}[h:Zu r a] :Zu (some (.own x)::r) (some (.val (.lst x))::a):=⟨by rw[<-h.e];rfl⟩
class nk (ix:List Nat) (τ:BD) (τ':outParam BD):Prop where
 e:(ix.map λi=>Yg (Su τ i))=τ'
instance{τ:BD}:nk [] τ [] :=⟨rfl⟩
instance{τ r:BD}{i:Nat}{ix:km Nat}{x:PV}[h:jF τ i (.val x)][h2:nk ix τ r] :nk (i::ix) τ (some (.val x)::r):=⟨by rw[AAX,h.e,h2.e];rfl⟩
class oE (n:Nat) (τ:outParam BD):Prop where
 e:List.replicate n none=τ
instance:oE 0 [] :=⟨rfl⟩
instance{n:Nat}{τ:BD}[h:oE n τ] :oE (n+1) (none::τ):=⟨by rw[List.replicate_succ,h.e]⟩
class Z7 (xs ys:BD) (zs:outParam BD):Prop where
 e:xs++ys=zs
instance{ys:BD}:Z7 [] ys ys:=⟨rfl⟩
instance{x:ke AV}{xs ys a:BD}[h:Z7 xs ys a] :Z7 (x::xs) ys (x::a):=⟨by rw[ADs,h.e]⟩
class fR (xs ys:List PV) (zs:outParam (List PV)):Prop where
 e:xs++ys=zs
instance{ys:km PV}:fR [] ys ys:=⟨rfl⟩
instance{x:PV}{xs ys a:km PV}[h:fR xs ys a] :fR (x::xs) ys (x::a):=⟨by rw[ADs,h.e]⟩
class yZ (xs:List PV) (n:outParam Nat):Prop where
 e:xs.length=n
class Ix (x:PV) (i:Int) (y:outParam PV):Prop where
 e:wW x i=some y
class AtN (xs:List PV) (n:Nat) (y:outParam PV):Prop where
 e:xs[n]? =some y
section
variable {a b:AS}{ta tb:AE}{tt tu:AT}{g:AG}{gs:VB}{nx bk ct:BD->Prop}{rt:PV->Prop}{τ τ' τ2:BD}{Q:PV->Prop}{QB:kc->Prop}{QL:km PV->Prop}{QT:BD->Prop}{r:AA}{ai:AI}{F:AF}{n i j:Nat}{x y z:PV}{xs ys zs:km PV}
instance{c:PV}{q:km PV}:Ix (.tup (c::q)) 0 c:=⟨B8 (j:=0) rfl⟩
instance{c:PV}{q:km PV}:Ix (.lst (c::q)) 0 c:=⟨B8 (j:=0) rfl⟩
instance{c p1:PV}{q:km PV}:Ix (.tup (c::p1::q)) 1 p1:=⟨B8 (j:=1) rfl⟩
instance{c p1:PV}{q:km PV}:Ix (.lst (c::p1::q)) 1 p1:=⟨B8 (j:=1) rfl⟩
instance{c p1 p2:PV}{q:km PV}:Ix (.tup (c::p1::p2::q)) 2 p2:=⟨B8 (j:=2) rfl⟩
instance{c p1 p2:PV}{q:km PV}:Ix (.lst (c::p1::p2::q)) 2 p2:=⟨B8 (j:=2) rfl⟩
instance{d p1 p2 c:PV}{q:km PV}:Ix (.tup (d::p1::p2::c::q)) 3 c:=⟨B8 (j:=3) rfl⟩
instance{d p1 p2 c:PV}{q:km PV}:Ix (.lst (d::p1::p2::c::q)) 3 c:=⟨B8 (j:=3) rfl⟩
instance{q:Rat}:Ix (fr q) 0 (.int q.num):=⟨rfl⟩
instance{q:Rat}:Ix (fr q) 1 (.int q.den):=⟨rfl⟩
instance{c:C4}:Ix (cor c) 0 (fr c.1):=⟨rfl⟩
instance{c:C4}:Ix (cor c) 1 (fr c.2.1):=⟨rfl⟩
instance{c:C4}:Ix (cor c) 2 (fr c.2.2.1):=⟨rfl⟩
instance{c:C4}:Ix (cor c) 3 (fr c.2.2.2):=⟨rfl⟩
def sf {f:C4->PV}{c:C4}{cs:km C4}:HK ((c::cs).map f) 0=some (f c):=B8 (j:=0) rfl
instance{c:C4}{cs:km C4}:Ix (BA (c::cs)) 0 (cor c):=⟨sf⟩
instance:Wp (Aa a b ⟨nx,rt,bk,ct⟩ τ) (a ⟨b ⟨nx,rt,bk,ct⟩,rt,bk,ct⟩ τ):=⟨id⟩
instance:Wp (Ar ta g ⟨nx,rt,bk,ct⟩ τ) (ta τ λx=>g x τ nx):=⟨id⟩
instance[h:Zu τ τ'] :Wp (Aq ta ⟨nx,rt,bk,ct⟩ τ) (ta τ' rt):=⟨λk=>by unfold Aq;rw[h.e];exact k⟩
instance:Wp (A0 ⟨nx,rt,bk,ct⟩ τ) (nx τ):=⟨id⟩
instance:Wp (BO tt a b ⟨nx,rt,bk,ct⟩ τ) (tt τ λk=>if k=true then a ⟨nx,rt,bk,ct⟩ τ else b ⟨nx,rt,bk,ct⟩ τ):=⟨id⟩
def Zf (τ:BD)(i:Nat)(v:AV)(QT:BD->Prop):Prop:=QT (τ.set i (some v))
instance{v:AV}[h:aP τ i v τ'] :Wp (Zf τ i v QT) (QT τ'):=⟨λk=>by unfold Zf;rw[h.e];exact k⟩
instance:Wp (Mf r i ⟨nx,rt,bk,ct⟩ τ) (r τ λxs=>Zf τ i (.own xs) nx):=⟨id⟩
instance[h:aP τ i (.val x) τ'] :Wp (Au i x τ QT) (QT τ'):=⟨λk=>by unfold Au;rw[h.e];exact k⟩
instance{f:HM}[h:jF τ i (.val x)] :Wp (VT i f ta ⟨nx,rt,bk,ct⟩ τ) (ta τ λy=>f x y λz=>Zf τ i (.val z) nx):=⟨λk=>qR h.e k⟩
instance[h:jF τ i (.own xs)] :Wp (Np i τ QL) (QL xs):=⟨λk=>qZ h.e k⟩
instance{f:j5}:Wp (FS i f r ⟨nx,rt,bk,ct⟩ τ) (Np i τ λxs=>r τ λys=>f xs ys λzs=>Zf τ i (.own zs) nx):=⟨id⟩
instance:Wp (Mn xs [y] QL) (xs.length<sizeLine/\QL (xs ++ [y])):=⟨id⟩
instance{k:Int}:Wp (cP xs [.int k,y] QL) ((0<=k/\k<=(xs.length:Int)/\xs.length<sizeLine)/\QL (xs.take k.toNat++y::xs.drop k.toNat)):=⟨id⟩
instance:Wp (Fe ai g b ⟨nx,rt,bk,ct⟩ τ) (ai τ λxs=>ED g b ⟨nx,rt,bk,ct⟩ xs τ):=⟨id⟩
instance:Wp (ED g b ⟨nx,rt,bk,ct⟩ [] τ) (nx τ):=⟨id⟩
instance{q:km PV}:v6 (ED g b ⟨nx,rt,bk,ct⟩ (x::q) τ) (g x τ λc=>b ⟨ED g b ⟨nx,rt,bk,ct⟩ q,rt,nx,ED g b ⟨nx,rt,bk,ct⟩ q⟩ c):=⟨id⟩
instance:Wp (Bx [] τ QT) (QT τ):=⟨id⟩
instance{t:km PV}:Wp (Ae g gs (x::t) τ QT) (g x τ λτ'=>gs t τ' QT):=⟨id⟩
instance:Wp (JH n gs x τ QT) (Ua x λxs=>xs.length=n/\gs xs τ QT):=⟨id⟩
instance[h:jF τ i (.val x)] :Wp (aV i τ Q) (Q x):=⟨λk=>ze h.e k⟩
instance:Wp (aC x τ Q) (Q x):=⟨id⟩
instance{f:HM}:Wp (AY f ta tb τ Q) (ta τ λx=>tb τ λy=>f x y Q):=⟨id⟩
instance{f:PV->(PV->Prop)->Prop}:Wp (Mh f ta τ Q) (ta τ λx=>f x Q):=⟨id⟩
instance:Wp (Yc ta tb τ Q) (ta τ λx=>hI x λc=>if c=true then tb τ Q else Q (.bl false)):=⟨id⟩
instance:Wp (Aj ta τ QB) (ta τ λx=>hI x QB):=⟨id⟩
def uO (x:PV)(QB:kc->Prop):Prop:=match jA x with | some b=>QB b|none=>False
instance:Wp (kD ta τ QB) (ta τ λx=>uO x QB):=⟨id⟩
instance:Wp (uO (.tup (x::xs)) QB) (QB true):=⟨id⟩
instance{c:Type}[DecidableEq c]{f:c->PV}{cs:km c}:Wp (uO (.tup (cs.map f)) QB) (QB (decide (cs≠ []))):=⟨λh=>by show QB (!(cs.map f).isEmpty);cases cs <;> exact h⟩
instance:Wp (B2 tt τ QB) (tt τ λc=>QB (!c)):=⟨id⟩
instance:Wp (KC tt tu τ QB) (tt τ λc=>if c=true then tu τ QB else QB false):=⟨id⟩
instance:Wp (D9 tt tu τ QB) (tt τ λc=>if c=true then QB true else tu τ QB):=⟨id⟩
instance:Wp (fF tt ta tb τ Q) (tt τ λc=>if c=true then ta τ Q else tb τ Q):=⟨id⟩
instance:Wp (D5 τ QB) (QB true):=⟨id⟩
instance[h:Zu τ τ'] :Wp (Yd ta τ Q) (ta τ' λx=>cT x=true/\Q x):=⟨λk=>by unfold Yd;rw[h.e];exact k⟩
instance[h:Zu τ τ'] :Wp (Td tt τ QB) (tt τ' QB):=⟨λk=>by unfold Td;rw[h.e];exact k⟩
instance:Wp (AL τ QL) (QL []):=⟨id⟩
instance:Wp (AB ta r τ QL) (ta τ λx=>r τ λxs=>QL (x::xs)):=⟨id⟩
def cR (xs:km PV)(Q:PV->Prop):Prop:=xs.length<=sizeLine/\Q (.tup xs)
instance:Wp (Ay r τ Q) (r τ λxs=>cR xs Q):=⟨id⟩
instance:Wp (B7 r τ QL) (r τ λxs=>xs.length<=sizeLine/\QL xs):=⟨id⟩
instance:Wp (DQ r τ Q) (r τ λxs=>Q (.lst xs)):=⟨id⟩
instance:Wp (AR n F r τ Q) (r τ λxs=>xs.length=n/\F xs Q):=⟨id⟩
instance:Wp (Dr F r τ Q) (r τ λxs=>F xs Q):=⟨id⟩
instance:Wp (W6 r τ QL) (r τ λxs=>XZ xs QL):=⟨id⟩
instance{own:Nat}{ix:km Nat}{te:AE}{c d:BD}[h1:oE own c][h2:nk ix τ d][f:Z7 c d τ'] :Wp (CF ai own ix g tt te τ QL) (ai τ λxs=>xs.length<sizeLine/\Cp g tt te τ' QL xs []):=⟨λk=>by unfold CF KH;rw[h1.e,h2.e,f.e];exact k⟩
instance{te:AE}{c:km PV}:Wp (Cp g tt te τ QL [] c) (QL c):=⟨id⟩
instance{te:AE}{c q:km PV}:Wp (Cp g tt te τ QL (x::q) c) (g x τ λd=>tt d λok=>if ok=true then te d λy=>Cp g tt te τ QL q (c ++ [y]) else Cp g tt te τ QL q c):=⟨id⟩
instance:Wp (HP ta τ QL) (ta τ λx=>Ua x QL):=⟨id⟩
instance:Wp (Te (AB ta AL) τ QL) (ta τ λx=>fJ x λj=>(-(2^62)<=j/\j<2^62)/\QL (rng 0 j.toNat)):=⟨λh=>by have e:(λx=>fJ x λj=>(-(2^62)<=j/\j<2^62)/\QL (rng 0 j.toNat))=(λx=>match [x] with | [.int j] =>(-(2^62)<=j/\j<2^62)/\QL (rng 0 j.toNat)|_=>False):=(funext λx=>by cases x <;> rfl);rw[e] at h;exact h⟩
instance:Wp (ft (AB ta (AB tb AL)) τ QL) (ta τ λx=>tb τ λy=>ZP x y λi j=>(-(2^62)<=i/\i<2^62/\ -(2^62)<=j/\j<2^62)/\QL (rng i (j-i).toNat)):=⟨λh=>by have e:(λx=>tb τ λy=>ZP x y λi j=>(-(2^62)<=i/\i<2^62/\ -(2^62)<=j/\j<2^62)/\QL (rng i (j-i).toNat))=(λx=>tb τ λy=>match [x,y] with | [.int i, .int j] =>(-(2^62)<=i/\i<2^62/\ -(2^62)<=j/\j<2^62)/\QL (rng i (j-i).toNat)|_=>False):=(funext λx=>congrArg (tb τ) (funext λy=>by cases x <;> cases y <;> rfl));rw[e] at h;exact h⟩
instance:Wp (oK (AB ta (AB tb AL)) τ QL) (ta τ λx=>tb τ λy=>Ua x λxs=>Ua y λys=>QL (Pf xs ys)):=⟨id⟩
instance{R:Int->Prop}{k:Int}:Wp (fJ (.int k) R) (R k):=⟨id⟩
instance{R:Int->Int->Prop}{k l:Int}:Wp (ZP (.int k) (.int l) R) (R k l):=⟨id⟩
instance{R:kc->Prop}{c:kc}:Wp (hI (.bl c) R) (R c):=⟨id⟩
instance:Wp (Ua (.tup xs) QL) (QL xs):=⟨id⟩
instance:Wp (Ua (.lst xs) QL) (QL xs):=⟨id⟩
instance{q:Rat}:Wp (Ua (fr q) QL) (QL [.int q.num, .int q.den]):=⟨id⟩
instance{cs:km C4}:Wp (Ua (BA cs) QL) (QL (cs.map cor)):=⟨id⟩
instance{f:Int->Int->PV}{k l:Int}:Wp (fI f (.int k) (.int l) Q) (Q (f k l)):=⟨id⟩
instance{C:Int->Int->Prop}{f:Int->Int->PV}{k l:Int}:Wp (nH C f (.int k) (.int l) Q) (C k l/\Q (f k l)):=⟨id⟩
instance:Wp (Vn .non .non Q) (Q (.bl true)):=⟨id⟩
instance:Wp (To .non .non Q) (Q (.bl false)):=⟨id⟩
instance:Wp (Vn (.tup xs) .non Q) (Q (.bl false)):=⟨id⟩
instance:Wp (To (.tup xs) .non Q) (Q (.bl true)):=⟨id⟩
instance{k:Int}[h:Ix x k z] :Wp (Ai x (.int k) Q) (Q z):=⟨λq=>uS h.e q⟩
instance{k:Int}:Wp (E9 (.int k) Q) (Q (.int (-k))):=⟨id⟩
instance w_not {c:kc}:Wp (kO (.bl c) Q) (Q (.bl (!c))):=⟨id⟩
instance{k l:Int}:Wp (BY (.int k) (.int l) Q) (Q (.int (k+l))):=⟨id⟩
instance:Wp (BY (.tup xs) (.tup ys) Q) (xs.length+ys.length<=sizeLine/\Q (.tup (xs++ys))):=⟨id⟩
instance:Wp (BY (.lst xs) (.lst ys) Q) (xs.length+ys.length<=sizeLine/\Q (.lst (xs++ys))):=⟨id⟩
instance{k l:Int}:Wp (HQ (.int k) (.int l) Q) (Q (.bl (decide (k=l)))):=⟨id⟩
instance{k l:Int}:Wp (PD (.int k) (.int l) Q) (Q (.bl (!decide (k=l)))):=⟨id⟩
instance{k l:Str}:Wp (HQ (.str k) (.str l) Q) (Q (.bl (decide (k=l)))):=⟨id⟩
instance{k l:kc}:Wp (PD (.bl k) (.bl l) Q) (Q (.bl (!decide (k=l)))):=⟨id⟩
instance{k l:Rat}:Wp (HQ (fr k) (fr l) Q) (Q (.bl (decide (k=l)))):=⟨qS⟩
instance{k l:Rat}:Wp (PD (fr k) (fr l) Q) (Q (.bl (!decide (k=l)))):=⟨qY⟩
instance:Wp (EA [.tup xs] Q) (Q (.int xs.length)):=⟨id⟩
instance:Wp (EA [.lst xs] Q) (Q (.int xs.length)):=⟨id⟩
instance{c:km Int}:Wp (EA [.scr c] Q) (Q (.int c.length)):=⟨id⟩
instance (priority:=high){c:Type}{f:c->PV}{cs:km c}:Wp (EA [.tup (cs.map f)] Q) (Q (.int cs.length)):=⟨λh=>by show Q (.int (cs.map f).length);rw[AAa];exact h⟩
instance (priority:=high){c:Type}{f:c->PV}{cs:km c}:Wp (EA [.lst (cs.map f)] Q) (Q (.int cs.length)):=⟨λh=>by show Q (.int (cs.map f).length);rw[AAa];exact h⟩
instance{k:Int}:Wp (RN [.int k] Q) (Q (.int k.natAbs)):=⟨id⟩
instance{f:Int->Int->Int}{k l:Int}:Wp (oZ f [.int k, .int l] Q) (Q (.int (f k l))):=⟨id⟩
instance{c:kc}:Wp (Vr [.bl c] Q) (Q (.int (if c then 1 else 0))):=⟨id⟩
instance:Wp (B4 [.tup xs] Q) (Q (.tup xs)):=⟨id⟩
instance:Wp (B4 [.lst xs] Q) (Q (.tup xs)):=⟨id⟩
instance{lo hi:ke Int}:Wp (Zv (.tup xs) lo hi Q) (Q (.tup (Er xs lo hi))):=⟨IS⟩
instance{lo hi:ke Int}:Wp (Zv (.lst xs) lo hi Q) (Q (.lst (Er xs lo hi))):=⟨EV⟩
instance{l h:AO}:Wp (VW ta l h τ Q) (ta τ λx=>l τ λlo=>h τ λhi=>Zv x lo hi Q):=⟨id⟩
instance{R:ke Int->Prop}:Wp (VY τ R) (R none):=⟨id⟩
instance{R:ke Int->Prop}:Wp (VZ ta τ R) (ta τ λx=>fJ x λi=>R (some i)):=⟨id⟩
instance{A B:Prop}:Wp (if true=true then A else B) (A):=⟨λh=>by rw[AAR rfl];exact h⟩
instance{A B:Prop}:Wp (if false=true then A else B) (B):=⟨λh=>by rw[AAQ AAe];exact h⟩
instance{A B:Prop}:Wp (if (!true)=true then A else B) (B):=⟨λh=>h⟩
instance{A B:Prop}:Wp (if (!false)=true then A else B) (A):=⟨λh=>h⟩
instance{p A B:Prop}[Decidable p] :sW (if decide p=true then A else B) (p->A) (¬p->B):=⟨qV⟩
instance{p A B:Prop}[Decidable p] :sW (if (!decide p)=true then A else B) (¬p->A) (p->B):=⟨qW⟩
instance{A:Prop}:Wp (([] :km PV).length<=sizeLine/\A) (A):=⟨λh=>⟨lz,h⟩⟩
instance{A:Prop}:Wp (([] :km PV).length<sizeLine/\A) (A):=⟨λh=>⟨lz,h⟩⟩
instance{c:PV}{A:Prop}:Wp ([c].length=1/\A) (A):=⟨λh=>⟨rfl,h⟩⟩
instance{c:PV}{A:Prop}:Wp ([c].length<=sizeLine/\A) (A):=⟨λh=>⟨lz,h⟩⟩
instance{c p1:PV}{A:Prop}:Wp ([c,p1].length=2/\A) (A):=⟨λh=>⟨rfl,h⟩⟩
instance{c p1:PV}{A:Prop}:Wp ([c,p1].length<=sizeLine/\A) (A):=⟨λh=>⟨lz,h⟩⟩
instance{c p1:PV}{A:Prop}:Wp ([c,p1].length<sizeLine/\A) (A):=⟨λh=>⟨lz,h⟩⟩
instance{c p1 p2:PV}{A:Prop}:Wp ([c,p1,p2].length=3/\A) (A):=⟨λh=>⟨rfl,h⟩⟩
instance{c p1 p2:PV}{A:Prop}:Wp ([c,p1,p2].length<=sizeLine/\A) (A):=⟨λh=>⟨lz,h⟩⟩
instance{c p1 p2:PV}{A:Prop}:Wp ([c,p1,p2].length<sizeLine/\A) (A):=⟨λh=>⟨lz,h⟩⟩
instance{c p1 p2 d:PV}{A:Prop}:Wp ([c,p1,p2,d].length=4/\A) (A):=⟨λh=>⟨rfl,h⟩⟩
instance{c p1 p2 d:PV}{A:Prop}:Wp ([c,p1,p2,d].length<=sizeLine/\A) (A):=⟨λh=>⟨lz,h⟩⟩
instance{c p1 p2 d:PV}{A:Prop}:Wp ([c,p1,p2,d].length<sizeLine/\A) (A):=⟨λh=>⟨lz,h⟩⟩
instance{c p1 p2 d e:PV}{A:Prop}:Wp ([c,p1,p2,d,e].length<=sizeLine/\A) (A):=⟨λh=>⟨lz,h⟩⟩
instance{c p1 p2 d e f k l m:PV}{A:Prop}:Wp ([c,p1,p2,d,e,f,k,l,m].length<=sizeLine/\A) (A):=⟨λh=>⟨lz,h⟩⟩
instance:Wp (cR [] Q) (Q (.tup [])):=⟨λh=>⟨lz,h⟩⟩
instance{c:PV}:Wp (cR [c] Q) (Q (.tup [c])):=⟨λh=>⟨lz,h⟩⟩
instance{c p1:PV}:Wp (cR [c,p1] Q) (Q (.tup [c,p1])):=⟨λh=>⟨lz,h⟩⟩
instance{c p1 p2:PV}:Wp (cR [c,p1,p2] Q) (Q (.tup [c,p1,p2])):=⟨λh=>⟨lz,h⟩⟩
instance{c p1 p2 d:PV}:Wp (cR [c,p1,p2,d] Q) (Q (.tup [c,p1,p2,d])):=⟨λh=>⟨lz,h⟩⟩
instance (priority:=high+10):Wp (cR [.int 0, .int 1] Q) (Q (fr 0)):=⟨λh=>⟨lz,h⟩⟩
instance (priority:=high+10):Wp (cR [.int 1, .int 1] Q) (Q (fr 1)):=⟨λh=>⟨lz,h⟩⟩
instance (priority:=high){k:Int}:Wp (cR [.int k, .int 1] Q) (Q (fr (k:Rat))):=⟨λh=>⟨lz,Sn h⟩⟩
instance (priority:=high){k:Rat}{p q r:Rat}:Wp (BY (.tup [fr k]) (.tup [fr p,fr q,fr r]) Q) (Q (cor (k,p,q,r))):=⟨λh=>⟨lz,h⟩⟩
def kR:PV.tup [.int 1, .int 3] =fr (1/3):=by unfold fr;rw[show ((1:Rat)/3).num=1 by decide +kernel,show ((1:Rat)/3).den=3 by decide +kernel];rfl
instance (priority:=high):Wp (cR [.int 1, .int 3] Q) (Q (fr (1/3))):=⟨λh=>⟨lz,by rw[kR];exact h⟩⟩
def kS:PV.tup [.int 3, .int 2] =fr (3/2):=by unfold fr;rw[show ((3:Rat)/2).num=3 by decide +kernel,show ((3:Rat)/2).den=2 by decide +kernel];rfl
instance (priority:=high):Wp (cR [.int 3, .int 2] Q) (Q (fr (3/2))):=⟨λh=>⟨lz,by rw[kS];exact h⟩⟩
instance{k:Int}{A:Prop}:Wp (cT (.int k)=true/\A) (A):=⟨λh=>⟨rfl,h⟩⟩
instance{k:C4}{A:Prop}:Wp (cT (cor k)=true/\A) (A):=⟨λh=>⟨rfl,h⟩⟩
class Zp (xs ys:List PV) (zs:outParam (List PV)):Prop where
 e:Pf xs ys=zs
instance:Zp [] [] [] :=⟨rfl⟩
instance[h:Zp xs ys zs] :Zp (x::xs) (y::ys) (.tup [x,y] :: zs):=⟨by rw[<-h.e];rfl⟩
instance[h:Zp xs ys zs] :Wp (ED g b ⟨nx,rt,bk,ct⟩ (Pf xs ys) τ) (ED g b ⟨nx,rt,bk,ct⟩ zs τ):=⟨λk=>by rw[h.e];exact k⟩
instance (priority:=high){te:AE}{c q zs:km PV}[h:fR c [y] zs] :Wp (Cp g tt te τ QL q (c ++ [y])) (Cp g tt te τ QL q zs):=⟨λk=>by rw[h.e];exact k⟩
instance{m:Int}:VA (BW [.tape, .int m] Q) (0<m/\m<4611686018427387904) (∀r,0<=r->r<m->Q (.int r)):=⟨λc h=>DC c.1 c.2 h⟩
instance{d:km Int}{k:Int}:VA (Ng [.scr d, .int k] Q) (0<=k/\k<=1000) (Q .tape):=⟨λc h=>⟨c,h⟩⟩
instance{a b:Rat}:VA (Hc [fr a,fr b] Q) (Bd 4000 a/\Bd 4000 b) (Q (fr (a+b))):=⟨λc h=>Pp c.1 c.2 h⟩
instance{a b:Rat}:VA (D3 [fr a,fr b] Q) (Bd 4000 a/\Bd 4000 b) (Q (fr (a-b))):=⟨λc h=>EG c.1 c.2 h⟩
instance{a b:Rat}:VA (FR [fr a,fr b] Q) (Bd 4000 a/\Bd 4000 b) (Q (fr (a*b))):=⟨λc h=>Nh c.1 c.2 h⟩
instance{a b:Rat}:VA (Cy [fr a,fr b] Q) (Bd 4000 a/\Bd 4000 b) (Q (fr (a+b))):=⟨λc h=>DO c.1 c.2 h⟩
instance{a b:Rat}:VA (Cw [fr a,fr b] Q) (Bd 4000 a/\Bd 4000 b) (Q (fr (a-b))):=⟨λc h=>Ch c.1 c.2 h⟩
instance{a b:Rat}:VA (Bw [fr a,fr b] Q) (Bd 4000 a/\Bd 4000 b) (Q (fr (a*b))):=⟨λc h=>Co c.1 c.2 h⟩
instance{a b:Rat}:VA (Cv [fr a,fr b] Q) (Bd 4000 a/\Bd 4000 b) (Q (fr (mx a b))):=⟨λc h=>J3 c.1 c.2 h⟩
instance{a b:Rat}:VA (E1 [fr a,fr b] Q) (Bd 4000 a/\Bd 4000 b) (Q (fr (mn a b))):=⟨λc h=>TY c.1 c.2 h⟩
instance{a b:Rat}:VA (Ao [fr a,fr b] Q) (Bd 4000 a/\Bd 4000 b) (Q (.bl (decide (a<b)))):=⟨λc h=>Bk c.1 c.2 h⟩
instance{a b:Rat}:VA (JF [fr a,fr b] Q) (b≠0/\Bd 4000 a/\Bd 4000 b) (Q (fr (a/b))):=⟨λc h=>LK c.1 c.2.1 c.2.2 h⟩
instance{a b:Rat}:VA (DA [fr a,fr b] Q) (b≠0/\Bd 4000 a/\Bd 4000 b) (Q (fr (a/b))):=⟨λc h=>HC c.1 c.2.1 c.2.2 h⟩
instance{lo:Int}{A:Prop}:Wp ((rng lo n).length<sizeLine/\A) (n<16777216/\A):=⟨λk=>⟨by rw[WU];exact k.1,k.2⟩⟩
instance{c:Type}{f:c->PV}{cs:km c}{A:Prop}:Wp ((cs.map f).length<sizeLine/\A) (cs.length<16777216/\A):=⟨λk=>⟨by rw[AAa];exact k.1,k.2⟩⟩
instance (priority:=high){c:Type}{k:c}[Decidable (k=k)]{A B:Prop}:Wp (if decide (k=k)=true then A else B) A:=⟨λh=>by rw[AAR (AAZ rfl)];exact h⟩
instance (priority:=high){c:Type}{k:c}[Decidable (k=k)]{A B:Prop}:Wp (if (!decide (k=k))=true then A else B) B:=⟨λh=>by rw[AAQ (by simp)];exact h⟩
def kJ (xs:km PV):Er xs none (some (-1))=xs.dropLast:=by
 unfold Er;rw[HT.sIx_none];cases xs with
 | nil=>rfl
 | cons x xs=>
   have e:HT.sIx (x::xs).length (x::xs).length (some (-1))=xs.length:=by simp only[HT.sIx,AAn];rw[AAR (by decide)];omega
   rw[e,List.dropLast_eq_take];simp
instance{cs ds:km C4}:VA (BY (BA cs) (BA ds) Q) (cs.length+ds.length<=10000) (Q (BA (cs++ds))):=⟨λc h=>ae c h⟩
def pP {d:Type}{f:d->PV}{cs:km d}{k:Int}{R:PV->Prop}(c:0<=k/\k<cs.length)(h:∀c,cs[k.toNat]? =some c->c∈cs->R (f c)):ZQ (HK (cs.map f) k) R:=by
 have hk:k.toNat<cs.length:=by omega
 have e:HK (cs.map f) ((k.toNat:Nat):Int)=some (f cs[k.toNat]):=B8 (by rw[AAx,AAm hk] <;> rfl);rw[show k=((k.toNat:Nat):Int) by omega,e];exact h _ (AAm hk) (AC4 hk)
instance{d:Type}{f:d->PV}{cs:km d}{k:Int}:VA (Ai (.lst (cs.map f)) (.int k) Q) (0<=k/\k<cs.length) (∀c,cs[k.toNat]? =some c->c∈cs->Q (f c)):=⟨λc h=>pP c h⟩
instance{c:C4}:Wp (Zv (cor c) (some 1) none Q) (Q (.tup [fr c.2.1,fr c.2.2.1,fr c.2.2.2])):=⟨λh=>IS h⟩
class Lk (tb:List (Str×PV)) (s:Str) (v:outParam PV):Prop where
 e:tb.lookup s=some v
end
end PL
namespace L2
open PySem PySem.Spec PyProof.Rows
abbrev aH (h:fe)(T:kf)(a b c:kj):Prop:=h.get? T=some {cls:= .type "tuple",data:= .seq #[a,b,c] }
structure Z3A (z TI TO i j k l m n:Addr):Prop where
 TIz:TI≠z
 TOz:TO≠z
 iz:i≠z
 jz:j≠z
 kz:k≠z
 TITO:TI≠TO
 TIi:TI≠i
 TIj:TI≠j
 TIk:TI≠k
 TOi:TO≠i
 TOj:TO≠j
 TOk:TO≠k
 ij:i≠j
 ik:i≠k
 jk:j≠k
 lo:∀x∈ [l,m,n],x≠z/\x≠TI/\x≠TO/\x≠i/\x≠j/\x≠k
structure Z3 (b c d:Bool) (z TI TO i j k l m n:Addr) (t:Nat) (f:Value) (h:Heap):Prop where
 zip:IsZip h z TI TO f
 its:aH h TI (.ref i) (.ref j) (.ref k)
 own:∃x y w,aH h TO x y w
 one:RB b h i l t
 two:RB c h j m t
 tre:RB d h k n t
def Z3.mv {b c d:kc}{z TI TO i j k l m n:kf}{t:Nat}{f:kj}{h h':fe}(Z:Z3 b c d z TI TO i j k l m n t f h)(e:∀p∈ [z,TI,TO,i,j,k],∀o,h.get? p=some o->h'.get? p=some o):Z3 b c d z TI TO i j k l m n t f h':=by obtain⟨a,g,⟨x,y,w,r⟩,s,u,v⟩:=Z;exact⟨e z (by simp) _ a,e TI (by simp) _ g,⟨x,y,w,e TO (by simp) _ r⟩,s.mv (e i (by simp)),u.mv (e j (by simp)),v.mv (e k (by simp))⟩
abbrev y1 (b:kc)(h:fe)(l:kf):fe:=h.push (fG b l)
abbrev y2 (b c:kc)(h:fe)(l m:kf):fe:=(y1 b h l).push (fG c m)
abbrev y3 (b c d:kc)(h:fe)(l m n:kf):fe:=(y2 b c h l m).push (fG d n)
abbrev y4 (b c d:kc)(h:fe)(l m n:kf):fe:=(y3 b c d h l m n).push {cls:= .type "tuple",data:= .seq #[.ref h.objs.size, .ref (y1 b h l).objs.size, .ref (y2 b c h l m).objs.size] }
abbrev y5 (b c d:kc)(h:fe)(l m n:kf):fe:=(y4 b c d h l m n).push {cls:= .type "tuple",data:= .seq #[.none, .none, .none] }
end L2
namespace L2
open PySem PySem.Spec PyProof.Rows
def zc (m:kf)(i:Int):Obj:={cls:= .type "reversed",data:= .fields #[.ref m,rawInt i] }
def jv (h:fe)(q m:kf)(i:Int):Prop:=h.get? q=some (zc m i)
section
variable {prog:gn}{w:fm}{A:da}{E:kj->ki->Prop}{s:ki}
def jv.typeIs {q m:kf}{i:Int}(x:jv s.heap q m i):s.TypeIs (.ref q) "reversed" :=⟨_,x,rfl⟩
end
structure ZR (z TI TO i j l m:Addr) (n:Nat) (k:Nat) (f:Value) (h:Heap):Prop where
 zip:IsZip h z TI TO f
 its:IsPair h TI (.ref i) (.ref j)
 own:∃x y,IsPair h TO x y
 one:RB false h i l k
 two:jv h j m ((n:Int)-1-k)
def ZR.mv {z TI TO i j l m:kf}{n k:Nat}{f:kj}{h h':fe}(Z:ZR z TI TO i j l m n k f h)(e:∀p∈ [z,TI,TO,i,j],∀o,h.get? p=some o->h'.get? p=some o):ZR z TI TO i j l m n k f h':=by obtain⟨a,b,⟨x,y,c⟩,d,g⟩:=Z;exact⟨e z (by simp) _ a,e TI (by simp) _ b,⟨x,y,e TO (by simp) _ c⟩,d.mv (e i (by simp)),e j (by simp) _ g⟩
end L2
namespace L2
open PySem PySem.Spec PyProof.Rows
def kH (X:Cx)(sc:Scope)(N:km Str)(a:Str)(cl:km (Str×kf))(C:kf)(s:ki)(H:Hp)(ex:km kf)(pn:km (kf×Obj)):Cx:=
 {blk X sc N ((a,C+1)::cl) C s H ex pn with fn:=λx=>x==a}
section
variable {X:Cx}{tg elt iter:kd}{ifs:km kd}{scope:Scope}{pos:Pos}{wi:TI}{own:Nat}{ix:km Nat}{N:km Str}{y0:Str}{g:TG}{tt:TT}{te:TE}
structure fS (X:Cx) (tg elt:Expr) (ifs:List Expr) (scope:Scope) (own:Nat) (ix:List Nat) (N:List Str) (y0:Str) (g:TG) (tt:TT) (te:TE):Prop where
 kind:scope.kind= .function
 cells:∀y∈scope.names,y.2= .cell->y.1=y0
 cf:∀n acc,cellsFrom n scope.names acc=(y0,n)::acc
 pc:∀h,pushCells h scope.names=h.push {cls:= .type "cell",data:= .cell none}
 far:∀(j i:Nat) (x:Str),ix[j]? =some i->N[own+j]? =some x->x≠y0
 names:∀y∈scope.names,y.2= .local->scope.names.lookup y.1=some .local
 frees:∀y∈scope.names,y.2= .free->X.env.scope.names.lookup y.1=some .cell
 ins:TZ X (relabel scope X.env) own ix N
 keep:Hd own g
 tgt:∀cl C s H ex pn,PG (kH X (relabel scope X.env) N y0 cl C s H ex pn) tg g
 tst:∀cl C s H ex pn,YY (kH X (relabel scope X.env) N y0 cl C s H ex pn) ifs tt
 val:∀cl C s H ex pn,PE (kH X (relabel scope X.env) N y0 cl C s H ex pn) elt te
end
end L2
namespace PL
open PySem PySem.Spec PyProof.Rows L2
section
variable {X:Cx}{ta:AE}{pos:Pos}
structure sI (X:Cx) (tg elt:Expr) (ifs:List Expr) (scope:Scope) (own:Nat) (ix:List Nat) (N:List Str) (y0:Str) (g:AG) (t:AT) (te:AE):Prop where
 ex:∃g' t' te',fS X tg elt ifs scope own ix N y0 g' t' te'/\J9 X.K g' g/\Me X.K t' t/\E6 X.K te' te
end
end PL
namespace L2
open PySem PySem.Spec PyProof.Rows
def q8 {T:String}(h:Hj T):typeOf (.type T)=pure (.type "type"):=by rcases h with rfl|rfl|rfl|rfl <;> rfl
def rf:Kd->String
 | .int=>"int" | .bl=>"bool" | .non=>"NoneType" | .str=>"str" | .lst=>"list" | .tup=>"tuple"
section
variable {X:Cx}
def gh {K:AAP}{Wf:km (kf×Obj)}{s:ki}{d:St}{H:Hp}{x:V}{u:kj}{k:Kd}(I:Inv X Wf d H s)(r:RelV x u)(h:n8 X.K x H k):s.TypeIs u (rf k):=by
 cases k with
 | int=>obtain⟨i,rfl⟩:=h;obtain⟨t,rfl⟩:=r;exact rfl
 | bl=>obtain⟨i,rfl⟩:=h;cases r;exact rfl
 | non=>have e:x= .non:=h;subst e;cases r;exact rfl
 | str=>obtain⟨i,rfl⟩:=h;obtain⟨t,rfl⟩:=r;exact rfl
 | lst=> obtain⟨a,ys,rfl,hq⟩:=h;cases r;obtain⟨b,f,g,hz⟩:=I.list hq;obtain⟨o,e,c,_⟩:=g.isList;exact⟨o,e,c⟩
 | tup=> obtain⟨a,ys,rfl,hq⟩:=h;cases r;obtain⟨b,f,⟨o,e,c,_⟩,hz⟩:=I.tuple hq;exact⟨o,e,c⟩
def kE {H:Hp}{x:V}{u:kj}{k:Kd}{T:String}(r:RelV x u)(h:n8 X.K x H k)(c:Hj T):Answers (λs=>s.TypeIs u (rf k)) u (.type T) (Ih k T):=by
 have b:=q8 c;cases k with
 | int=>
   obtain⟨i,rfl⟩:=h;obtain⟨t,rfl⟩:=r;rcases c with rfl|rfl|rfl|rfl
   .exact .of_true b (by rw[ABK];kernel_rfl)
   all_goals exact .of_false_int (by rfl) b (by rw[ABK];kernel_rfl)
 | bl=>
   obtain⟨i,rfl⟩:=h;cases r;rcases c with rfl|rfl|rfl|rfl
   .exact .of_true b (by rw[ABK];kernel_rfl)
   .exact .of_true b (by rw[ABK];kernel_rfl)
   all_goals exact .of_false_bool (by rfl) b (by rw[ABK];kernel_rfl)
 | non=> have e:x= .non:=h;subst e;cases r;rcases c with rfl|rfl|rfl|rfl;all_goals exact .of_false_none (by rfl) b (by rw[ABK];kernel_rfl)
 | str=> obtain⟨i,rfl⟩:=h;obtain⟨t,rfl⟩:=r;rcases c with rfl|rfl|rfl|rfl;all_goals exact .of_false_str (by rfl) b (by rw[ABK];kernel_rfl)
 | lst=>
   obtain⟨a,ys,rfl,hq⟩:=h;cases r;rcases c with rfl|rfl|rfl|rfl
   case inr.inr.inr=>exact .of_true b (by rw[ABK];kernel_rfl)
   all_goals exact .of_false_list (by rfl) b (by rw[ABK];kernel_rfl)
 | tup=>
   obtain⟨a,ys,rfl,hq⟩:=h;cases r;rcases c with rfl|rfl|rfl|rfl
   case inr.inr.inl=>exact .of_true b (by rw[ABK];kernel_rfl)
   all_goals exact .of_false_tuple (by rfl) b (by rw[ABK];kernel_rfl)
theorem W8 {H:Hp}{x:V}{u:kj}{k:Kd}(r:RelV x u)(h:n8 X.K x H k):∀{a:km String},(∀T∈a,Hj T)->AnswersAll (λs=>s.TypeIs u (rf k)) u (a.map Value.type) (a.map (Ih k))
 | [],_=>True.intro
 | T::a,hT=>⟨kE r h (hT T (by simp)),W8 r h λT h=>hT T (by simp[h])⟩
def qq (K:AAP)(c:TE)(b:km String):TE:=λd H Q=>c d H λx a=>∀q,a q=none->∃k,n8 K x a k/\Q (.bl (b.any (Ih k))) (upd a q (.tup (b.map V.ty)))
def qy (a:km String):TA:=λ_ H Q=>Q (a.map V.ty) H
theorem U7:∀{a:km String} {b:km kj},A3 (a.map V.ty) b->b=a.map Value.type
 | [],_,h=>by cases h;rfl
 | T::a,_,h=>by
   rw[AAX] at h;cases h with
   | cons h t=>cases h;rw[U7 t,AAX]
def iD {x:Str}{p p2 f:Pos}{e:kd}{es:km kd}{g:Nat}{m:TE}{d:km String}(A:Gl X x)(B:X.mg x=none)(hv:bootBuiltins x=some (.builtin "isinstance"))(ha:PE X e m)(C:PA X es (qy d))(D:∀T∈d,Hj T)(hl:d.length<=sizeLine)(hn:x≠"__name__" :=by decide)(hdb:(x==("__debug__" :Str))=false:=by decide)(he:starEach (e :: [.Tuple es g p2]) X.env=(false,eval e X.env)::starEach [.Tuple es g p2] X.env:=by rfl)(hpl:(backTo f (starEach [.Tuple es g p2] X.env)).any (·.1)=false:=by rfl)(E:starEach [.Tuple es g p2] X.env=(false,eval (.Tuple es g p2) X.env)::starEach [] X.env:=by rfl):PE X (.Call (.Name x p) [e, .Tuple es g p2] [] f) (qq X.K m d):=by
 intro Wf s n H Q I h;refine ACz (Hl I A B hv ?_ hn hdb);refine AEC ?_ he hpl;rw[he];show wpAny _ _ (spliced ((false,eval e X.env)::backTo f (starEach [.Tuple es g p2] X.env))) _ _ s;refine ABs (Bf (ha Wf s n H _ I h) λu r ⟨v,t,F,r1,G⟩=> ?_);rw[E];show wpAny _ _ (spliced ((false,eval (.Tuple es g p2) X.env)::backTo f (starEach [] X.env))) _ _ r;refine ABs (wpAny_Tuple_spliced (Bf (C p2 Wf r n t (λvs J=>vs=d.map V.ty/\J=t) F ⟨rfl,rfl⟩) λj i ⟨vs,L,l,r2,M,N⟩=> ?_));subst M N;have O:L i.heap.objs.size=none:=l.hok.fresh (AAW _);obtain⟨k,hk,P⟩:=G _ O;have y:=U7 r2;have R:j.length<=sizeLine:=by rw[y,AAa];exact hl
 have S:=l.laid (t':=i.toks) (a:=i.heap.objs.size) (o:= .tup (d.map V.ty)) (h':=i.heap.push {cls:= .type "tuple",data:= .seq j.toArray}) (λb u e=>AAV _ e) (AAW _) (show CD X.prog X.w _ _ _ (.tup (d.map V.ty)) from⟨by rw[AAa];exact hl,j,r2,⟨_,AAi _ rfl,rfl,_,rfl⟩⟩);have U:Shared.TypeIs {i with heap:=i.heap.push {cls:= .type "tuple",data:= .seq j.toArray}} u (rf k):=by
  have z:=gh (K:=X.K) l r1 hk;cases u with
  | ref a=>obtain⟨o,e,c⟩:=z;exact⟨o,AAV _ e,c⟩
  | _=>exact z
 refine⟨R,ACy ?_⟩;refine IsiPair.tupleOfB (cs:=d.map Value.type) (vs:=d.map (Ih k)) (b:=d.any (Ih k)) (W8 r1 hk D) U ?_ ?_ λW=>⟨.bl _,_,S.tok _,rfl,P⟩
 .rw [<-y];exact AAi _ rfl
 .rw [List.any_map];rfl
end
end L2
namespace PL
open PySem PySem.Spec PyProof.Rows L2
section
variable {X:Cx}
def KD (a:AE)(b:km String):AE:=λτ Q=>a τ λx=>match kdOf x with | some k=>Q (.bl (b.any (Ih k)))|none=>False
def iZ {x:Str}{p p2 f:Pos}{e:kd}{es:km kd}{c:Nat}{o:AE}(d:km String)(u:Gl X x)(w:X.mg x=none)(hv:bootBuiltins x=some (.builtin "isinstance"))(ha:SE X e o)(y:PA X es (qy d))(z:∀T∈d,Hj T)(hl:d.length<=sizeLine)(hn:x≠"__name__" :=by decide)(hdb:(x==("__debug__" :Str))=false:=by decide)(he:starEach (e :: [.Tuple es c p2]) X.env=(false,eval e X.env)::starEach [.Tuple es c p2] X.env:=by rfl)(hpl:(backTo f (starEach [.Tuple es c p2] X.env)).any (·.1)=false:=by rfl)(A:starEach [.Tuple es c p2] X.env=(false,eval (.Tuple es c p2) X.env)::starEach [] X.env:=by rfl):SE X (.Call (.Name x p) [e, .Tuple es c p2] [] f) (KD o d):=by
 obtain⟨t,C,s⟩:=ha;refine⟨_,iD u w hv C y z hl hn hdb he hpl A,λB T D τ H Q E r h k=> ?_⟩;refine s B T D τ H _ _ r h λv x i j g r1 h1=> ?_;intro q hq;have l:=r.stp g;have m:De i j i (upd j q (.tup (d.map V.ty))):=De.lay l.tp hq;have a:∀b,E (.bl b)->Q (.bl b) (upd j q (.tup (d.map V.ty))):=λb hb=>k _ _ i _ (g.trans m) (.bl _) hb;cases r1 with
 | non=>exact⟨.non,rfl,a _ h1⟩
 | bl b=>exact⟨.bl,⟨_,rfl⟩,a _ h1⟩
 | int b=>exact⟨.int,⟨_,rfl⟩,a _ h1⟩
 | str b=>exact⟨.str,⟨_,rfl⟩,a _ h1⟩
 | ty b=>exact h1.elim
 | tup n _=>exact⟨.tup,⟨_,_,rfl,n.sq⟩,a _ h1⟩
 | lst n _ _ _=>exact⟨.lst,⟨_,_,rfl, .inl (.inl n)⟩,a _ h1⟩
 | tape _=>exact h1.elim
 | scr _=>exact h1.elim
 | dct _ _ _=>exact h1.elim
def GE {x:Str}{p p2 b:Pos}{e:kd}{es:km kd}{a:Nat}{c:AE}(A B:String)(d:Gl X x)(f:X.mg x=none)(hv:bootBuiltins x=some (.builtin "isinstance"))(ha:SE X e c)(g:PA X es (K3 (tC (.ty A)) (K3 (tC (.ty B)) eQ)))(h:∀T∈ [A,B],Hj T)(hn:x≠"__name__" :=by decide)(hdb:(x==("__debug__" :Str))=false:=by decide)(he:starEach (e :: [.Tuple es a p2]) X.env=(false,eval e X.env)::starEach [.Tuple es a p2] X.env:=by rfl)(hpl:(backTo b (starEach [.Tuple es a p2] X.env)).any (·.1)=false:=by rfl)(i:starEach [.Tuple es a p2] X.env=(false,eval (.Tuple es a p2) X.env)::starEach [] X.env:=by rfl):SE X (.Call (.Name x p) [e, .Tuple es a p2] [] b) (KD c [A,B]):=
 iZ [A,B] d f hv ha g h (ABV rfl) hn hdb he hpl i
def KY:∀T∈ ["tuple","list"],Hj T:=λT h=>by
 simp only[AAT,AAq,AAr] at h;rcases h with rfl|rfl
 .exact .inr (.inr (.inl rfl))
 .exact .inr (.inr (.inr rfl))
def OC:∀T∈ ["list","tuple"],Hj T:=λT h=>KY T (by simp only[AAT,AAq,AAr] at *;exact h.symm)
end
end PL
namespace PL
open PySem L2 PyProof.Rows
def lY (a:km String)(x:PV)(Q:PV->Prop):Prop:=match kdOf x with | some k=>Q (.bl (a.any (Ih k)))|none=>False
instance{a:AE}{b:km String}{τ:BD}{Q:PV->Prop}:Wp (KD a b τ Q) (a τ λx=>lY b x Q):=⟨id⟩
class aO (Ts:List String):Prop where
 q:Ts.any (Ih .tup)=true/\Ts.any (Ih .lst)=true/\Ts.any (Ih .int)=false/\Ts.any (Ih .bl)=false/\Ts.any (Ih .non)=false/\Ts.any (Ih .str)=false
instance:aO ["tuple","list"] :=⟨by decide⟩
instance:aO ["list","tuple"] :=⟨by decide⟩
section
variable {Ts:km String}[h:aO Ts]{Q:PV->Prop}{xs:km PV}
instance:Wp (lY Ts (.tup xs) Q) (Q (.bl true)):=⟨λk=>by show Q _;rw[h.q.1];exact k⟩
instance:Wp (lY Ts (.lst xs) Q) (Q (.bl true)):=⟨λk=>by show Q _;rw[h.q.2.1];exact k⟩
instance{i:Int}:Wp (lY Ts (.int i) Q) (Q (.bl false)):=⟨λk=>by show Q _;rw[h.q.2.2.1];exact k⟩
instance{i:kc}:Wp (lY Ts (.bl i) Q) (Q (.bl false)):=⟨λk=>by show Q _;rw[h.q.2.2.2.1];exact k⟩
instance:Wp (lY Ts .non Q) (Q (.bl false)):=⟨λk=>by show Q _;rw[h.q.2.2.2.2.1];exact k⟩
instance{i:Str}:Wp (lY Ts (.str i) Q) (Q (.bl false)):=⟨λk=>by show Q _;rw[h.q.2.2.2.2.2];exact k⟩
end
end PL
namespace L2
open PySem PySem.Spec PyProof.Rows
section
variable {κ:Type}[DecidableEq κ]
def El (a:km (κ×V))(k:κ):ke V:=(a.find? λb=>decide (b.1=k)).map (·.2)
def Fg (a:km (κ×V))(k:κ)(v:V):km (κ×V):=
 if (a.any λb=>decide (b.1=k))=true then a.map (λb=>if b.1=k then (b.1,v) else b) else a ++ [(k,v)]
def jJ (a:km (κ×V))(k:κ):km (κ×V):=a.filter λb=>decide (b.1≠k)
def K4 {p:κ×V}{r:km (κ×V)}{k:κ}(e:p.1=k):El (p::r) k=some p.2:=by simp[El,ABj,e]
def GM {p:κ×V}{r:km (κ×V)}{k:κ}(e:¬p.1=k):El (p::r) k=El r k:=by simp[El,ABj,e]
theorem Ov (k:κ):∀a:km (κ×V),(a.any λb=>decide (b.1=k))=(El a k).isSome
 | [] =>rfl
 | p::r=>by
   rw[AA7];by_cases e:p.1=k
   .simp only[K4 e,AAZ e,Bool.true_or,Option.isSome_some]
   .rw [GM e,AAY e,Bool.false_or];exact Ov k r
def MJ (a:km (κ×V))(k:κ)(v:V):(Fg a k v).length<=a.length+1:=by
 unfold Fg;split
 .rw [AAa];omega
 .rw [AA0,AAn,ACG];omega
def J6.isSome_eq {o:ke V}{u:ke kj}(r:J6 o u):o.isSome=u.isSome:=by
 cases o with
 | none=>cases u with
   | none=>rfl
   | some _=>exact(show False from r).elim
 | some _=>cases u with
   | none=>exact(show False from r).elim
   | some _=>rfl
def J6.getD {o:ke V}{u:ke kj}{d:V}{d':kj}(r:J6 o u)(a:RelV d d'):RelV (o.getD d) (u.getD d'):=by
 cases o with
 | none=>cases u with
   | none=>exact a
   | some _=>exact(show False from r).elim
 | some _=>cases u with
   | none=>exact(show False from r).elim
   | some _=>exact r
def KV.val {a:km (κ×V)}{vs:km (κ×kj)}(r:KV a vs)(k:κ):J6 (El a k) (valueAt vs k):=by
 unfold KV at r;induction r with
 | nil=>exact True.intro
 | @cons p q ps qs h t ih=>
   obtain⟨h1,h2⟩:=h;by_cases e:p.1=k
   .have c:q.1=k:=h1.symm.trans e;have b:valueAt (q::qs) k=some q.2:=by simp[valueAt,ABj,c]
    rw[K4 e,b];exact h2
   .have c:¬q.1=k:=λz=>e (h1.trans z);have b:valueAt (q::qs) k=valueAt qs k:=by simp[valueAt,ABj,c]
    rw[GM e,b];exact ih
def KV.any {a:km (κ×V)}{vs:km (κ×kj)}(r:KV a vs)(k:κ):(a.any λb=>decide (b.1=k))=vs.any λb=>decide (b.1=k):=by
 unfold KV at r;induction r with
 | nil=>rfl
 | cons h t ih=>rw[AA7,AA7,ih,h.1]
def KV.repl {b:km (κ×V)}{vs:km (κ×kj)}(r:KV b vs)(k:κ){y:V}{u:kj}(c:RelV y u):KV (b.map λa=>if a.1=k then (a.1,y) else a) (vs.map λa=>if a.1=k then (a.1,u) else a):=by
 unfold KV at r ⊢;induction r with
 | nil=>exact .nil
 | @cons p q ps qs h t ih=>
   rw[AAX,AAX];refine .cons ?_ ih;obtain⟨h1,h2⟩:=h;by_cases e:p.1=k
   .rw [AAR e,AAR (h1.symm.trans e)];exact⟨h1,c⟩
   .rw [AAQ e,AAQ (λz=>e (h1.trans z))];exact⟨h1,h2⟩
def KV.put {a:km (κ×V)}{vs:km (κ×kj)}(r:KV a vs)(k:κ){y:V}{u:kj}(b:RelV y u):KV (Fg a k y) (stored vs k u):=by
 unfold Fg stored;rw[r.any k];by_cases e:(vs.any λc=>decide (c.1=k))=true
 .rw [AAR e,AAR e];exact r.repl k b
 .rw [AAQ e,AAQ e];exact Paired.snoc r ⟨rfl,b⟩
def KV.drop {c:km (κ×V)}{vs:km (κ×kj)}(r:KV c vs)(k:κ):KV (jJ c k) (without vs k):=by
 unfold KV at r ⊢;unfold jJ without;induction r with
 | nil=>exact .nil
 | @cons p q ps qs h t ih=>
   obtain⟨h1,h2⟩:=h;rw[ABJ,ABJ];by_cases e:p.1=k
   .have a:¬decide (p.1≠k)=true:=by simp[e]
    have b:¬decide (q.1≠k)=true:=by simp[h1.symm.trans e]
    rw[AAQ a,AAQ b];exact ih
   .have d:¬q.1=k:=λz=>e (h1.trans z);have a:decide (p.1≠k)=true:=by simp[e]
    have b:decide (q.1≠k)=true:=by simp[d]
    rw[AAR a,AAR b];exact .cons ⟨h1,h2⟩ ih
def KV.keys {a:km (κ×V)}{vs:km (κ×kj)}(r:KV a vs):a.map (·.1)=vs.map (·.1):=by
 unfold KV at r;induction r with
 | nil=>rfl
 | cons h t ih=>rw[AAX,AAX,ih,h.1]
def KV.length {a:km (κ×V)}{vs:km (κ×kj)}(r:KV a vs):a.length=vs.length:=ACN r
end
def cB {P:gn}{w:fm}{k:Dk}{u:kj}(r:RelV (kV k) u):(CA P w).is k u=true:=by
 cases k with
 | inl i=>obtain⟨t,e⟩:=(show ∃t,u=Value.int i t from r);subst e;exact UM P w i t
 | inr x=>obtain⟨t,e⟩:=(show ∃t,u=Value.str x t from r);subst e;exact UN P w x t
theorem QG {P:gn}{w:fm}:∀{a:km Dk} {b:km kj},A3 (a.map kV) b->ItemsAre (CA P w) a b
 | [],_,r=>by rw[ACU] at r;cases r;exact .nil
 | k::a,_,r=>by
   rw[AAX] at r;cases r with
   | cons h t=>exact .cons (cB h) (QG t)
abbrev KT (H:Hp):km (km Dk×V)->km (km Dk×kf×kj)->Prop:=Paired λp q=>p.1=q.1/\H q.2.1=some (.tup (p.1.map kV))/\RelV p.2 q.2.2
def KT.val {H:Hp}{a:km (km Dk×V)}{xs:km (km Dk×kf×kj)}(r:KT H a xs)(k:km Dk):J6 (El a k) ((atKey xs k).map (·.2)):=by
 induction r with
 | nil=>exact True.intro
 | @cons p q ps qs h t ih=>
   obtain⟨h1,_,h2⟩:=h;by_cases e:p.1=k
   .have c:q.1=k:=h1.symm.trans e;have b:atKey (q::qs) k=some q.2:=by simp[atKey,ABj,c]
    rw[K4 e,b];exact h2
   .have c:¬q.1=k:=λz=>e (h1.trans z);have b:atKey (q::qs) k=atKey qs k:=by simp[atKey,ABj,c]
    rw[GM e,b];exact ih
def KT.repl {H:Hp}{a:km (km Dk×V)}{xs:km (km Dk×kf×kj)}(r:KT H a xs)(k:km Dk){y:V}{u:kj}(c:RelV y u):KT H (a.map λb=>if b.1=k then (b.1,y) else b) (xs.map (putAt k u)):=by
 induction r with
 | nil=>exact .nil
 | @cons p q ps qs h t ih=>
   rw[AAX,AAX];refine .cons ?_ ih;obtain⟨h1,h2,d⟩:=h;unfold putAt;by_cases e:p.1=k
   .rw [AAR e,AAR (h1.symm.trans e)];exact⟨h1,h2,c⟩
   .rw [AAQ e,AAQ (λz=>e (h1.trans z))];exact⟨h1,h2,d⟩
def KT.put {H:Hp}{a:km (km Dk×V)}{xs:km (km Dk×kf×kj)}(r:KT H a xs)(k:km Dk){b:kf}{y:V}{u:kj}(hb:H b=some (.tup (k.map kV)))(c:RelV y u):KT H (Fg a k y) (storedH xs k b u):=by
 have e:(a.any λd=>decide (d.1=k))=(atKey xs k).isSome:=by rw[Ov,(r.val k).isSome_eq,ACg]
 unfold Fg storedH;rw[e];by_cases q:(atKey xs k).isSome=true
 .rw [AAR q,AAR q];exact r.repl k c
 .rw [AAQ q,AAQ q];exact Paired.snoc r ⟨rfl,hb,c⟩
def KT.keeps {H c:Hp}{a:km (km Dk×V)}{xs:km (km Dk×kf×kj)}(r:KT H a xs)(d:∀b ys,H b=some (.tup ys)->c b=some (.tup ys)):KT c a xs:=
 Paired.mapP r λ_ _ z=>⟨z.1,d _ _ z.2.1,z.2.2⟩
section
variable {P:gn}{w:fm}{H:Hp}{h:fe}{a:kf}
def jd {u:HO}(ok:Jn P w H h)(e:Rd H a u):CD P w H h a u:=e.ok ok
def ax {b:km (Dk×V)}(ok:Jn P w H h)(e:Rd H a (.dK b)):b.length<=sizeLine/\(a==sysModules)=false/\∃vs,KV b vs/\h.DictOf (CA P w) a vs:=
 show CD P w H h a (.dK b) from jd ok e
def oS {b:km (Dk×V)}(ok:Jn P w H h)(e:H a=some (.dK b)):b.length<=sizeLine/\(a==sysModules)=false/\∃vs,KV b vs/\h.DictOf (CA P w) a vs:=ax ok (.inl e)
def cC {b:km Dk}(ok:Jn P w H h)(e:H a=some (.tup (b.map kV))):(tupleKind (CA P w)).is h b a:=by obtain⟨_,c,r,o,h1,h2,n,d⟩:=(show CD P w H h a (.tup (b.map kV)) from ok a _ e);exact⟨o,c.toArray,n,h1,h2,d,by simpa using QG r⟩
def jK {b:km (km Dk×V)}(ok:Jn P w H h)(e:Rd H a (.dT b)):b.length<=sizeLine/\(a==sysModules)=false/\ ∃xs,KT H b xs/\h.DictOfH (tupleKind (CA P w)) a xs:=by
 obtain⟨z,y,xs,r,o,es,ep,h1,h2,c,d,f⟩:=(show CD P w H h a (.dT b) from jd ok e);refine⟨z,y,xs,r,o,es,ep,h1,h2,c,d,λx hx=> ?_,f⟩;have all:∀{l:km (km Dk×V)} {m:km (km Dk×kf×kj)},KT H l m->∀x∈m,(tupleKind (CA P w)).is h x.1 x.2.1:=by
  intro l m q;induction q with
  | nil=>intro x hx;exact nomatch hx
  | @cons p q ps qs hq t ih=>
    intro x hx;rcases AAT.mp hx with e|hx
    .subst e;exact cC ok (by rw[<-hq.1];exact hq.2.1)
    .exact ih x hx
 exact all r x hx
end
def YS (H:Hp)(a:kf)(y:V)(r:ke V):Prop:=
 (∃c k,Rd H a (.dK c)/\y=kV k/\r=El c k)\/∃c k b,Rd H a (.dT c)/\y= .ref b/\H b=some (.tup (k.map kV))/\r=El c k
def fU (H:Hp)(a:kf)(y v:V)(d:Hp):Prop:=
 (∃c k,H a=some (.dK c)/\y=kV k/\c.length<sizeLine/\d=upd H a (.dK (Fg c k v)))\/
 ∃c k b,H a=some (.dT c)/\y= .ref b/\H b=some (.tup (k.map kV))/\c.length<sizeLine/\d=upd H a (.dT (Fg c k v))
def YS.k {H:Hp}{a:kf}{b:km (Dk×V)}{k:Dk}(e:H a=some (.dK b)):YS H a (kV k) (El b k):= .inl ⟨b,k, .inl e,rfl,rfl⟩
def YS.t {H:Hp}{a b:kf}{c:km (km Dk×V)}{k:km Dk}(e:H a=some (.dT c))(d:H b=some (.tup (k.map kV))):YS H a (.ref b) (El c k):= .inr ⟨c,k,b, .inl e,rfl,d,rfl⟩
def fU.k {H:Hp}{a:kf}{b:km (Dk×V)}{k:Dk}{v:V}(e:H a=some (.dK b))(hl:b.length<sizeLine):fU H a (kV k) v (upd H a (.dK (Fg b k v))):= .inl ⟨b,k,e,rfl,hl,rfl⟩
def fU.t {H:Hp}{a b:kf}{c:km (km Dk×V)}{k:km Dk}{v:V}(e:H a=some (.dT c))(d:H b=some (.tup (k.map kV)))(hl:c.length<sizeLine):fU H a (.ref b) v (upd H a (.dT (Fg c k v))):= .inr ⟨c,k,b,e,rfl,d,hl,rfl⟩
section
variable {X:Cx}{Wf:km (kf×Obj)}{σ:St}{H:Hp}{s:ki}{a:kf}{y v:V}{u r:kj}{o:ke V}{A:da}{E:kj->ki->Prop}
def Inv.big (I:Inv X Wf σ H s):sysModules<s.heap.objs.size:=by have h:mainGlobals<s.heap.objs.size:=(I.mod.glob.keeps I.bk).lt;exact ABv (by decide) h
def XO {h':fe}{t':Nat}{c:HO}(I:Inv X Wf σ H s)(d:oB (H a))(hs:Heap.SameBut a s.heap h')(he:∃q,h'.get? a=some q)(new:CD X.prog X.w (upd H a c) h' a c):Inv X Wf σ (upd H a c) {s with heap:=h',toks:=t'}:=
 I.write (x:=a) (e:=a) d (.inl rfl) (λb q hb z=>(hs.2 b hb).trans z) he new
def kM {P:gn}{w:fm}{d:Hp}{h':fe}{b:km (Dk×V)}{vs:km (Dk×kj)}(z:b.length<=sizeLine)(hd:(a==sysModules)=false)(c:KV b vs)(e:h'.DictOf (CA P w) a vs):CD P w d h' a (.dK b):=⟨z,hd,vs,c,e⟩
end
def jx (i:kd):Prop:=∀a b,subscripted i false a b=operate [a,b] (getItem a b)
def iy {prog:gn}{w:fm}{A:da}{E:kj->ki->Prop}{s:ki}{env:Env}{value slice:kd}{j:Pos}{T id:String}{Q:kj->ki->Prop}(hl:typeLookup (.type T) "__getitem__" =pure (some (.builtin id)))(hs:jx slice)(h:wpAny (model prog w) A (eval value env) (λo c=>wpAny (model prog w) A (eval slice env) (λi a=>a.TypeIs o T/\wpAny (model prog w) A (getItem o i) Q E a) E c) E s):wpAny (model prog w) A (eval (.Subscript value slice j) env) Q E s:=by
 refine Subscript_ (ABD h (λo c f=>ABD f (λi a b=> ?_) λ_ _ x=>x) λ_ _ x=>x);obtain⟨k,b⟩:=b;unfold subscriptTail;refine AAO ?_;rw[getitemInPython_of_ne k.not_modules];refine AAO (ABo k hl ?_);have e:wpAny (model prog w) A (subscripted slice false o i) (λr d=>wpAny (model prog w) A (letTemporaryGo value o r >>= λ_=>pure r) Q E d) E a:=by rw[hs o i];exact wpAny_operating (ABD b (λr d g=>AAO (wpAny_letTemporaryGo (AAS g))) λ_ _ x=>x)
 first
  | exact AAS (AAO e)
  | exact AAO (AAS (AAO e))
  | exact AAO e
def aw {P:gn}{w:fm}{H:Hp}(h:fe)(hb:sysModules<h.objs.size):CD P w H (h.push {cls:= .type "dict",data:= .dict #[] }) h.objs.size (.dK []):=
 ⟨AA3 _,ACq.mpr (ABA (AAc hb)), [], .nil,Heap.DictOf.new h⟩
def Ws:km (TE×TE)->St->Hp->(km (V×V)->Hp->Prop)->Prop
 | [],_,H,Q=>Q [] H
 | (tk,tv)::r,σ,H,Q=>tk σ H λx a=>tv σ a λy b=>Ws r σ b λps c=>Q ((x,y)::ps) c
abbrev VV:km (V×V)->km (kj×kj)->Prop:=Paired λp q=>RelV p.1 q.1/\RelV p.2 q.2
def rF (X:Cx)(a:Pos)(keys:km (ke kd))(values:km kd)(b:km (TE×TE)):Prop:=
 ∀(Wf:km (kf×Obj)) (s:ki) (c:St) (H:Hp) (Q:km (V×V)->Hp->Prop),Inv X Wf c H s->Ws b c H Q->
  wpAny (model X.prog X.w) X.A (evalPairs (pairTrees keys values X.env a)) (λvs e=>∃ps d,Inv X Wf c d e/\VV ps vs/\Q ps d) X.xe s
def iM {X:Cx}{a:Pos}:rF X a [] [] [] :=λWf s b H Q I h=>pairTrees_nil_walk ⟨[],H,I, .nil,h⟩
def Ue {X:Cx}{a:Pos}{k v:kd}{e:km (ke kd)}{vs:km kd}{f g:TE}{b:km (TE×TE)}(hk:PE X k f)(hv:PE X v g)(i:rF X a e vs b):rF X a (some k::e) (v::vs) ((f,g)::b):=λWf s c H Q I h=>
 pairTrees_cons_walk (Bf (hk Wf s c H _ I h) λu j ⟨x,l,m,n,o⟩=>Bf (hv Wf j c l _ m o) λD p ⟨y,r,t,w,z⟩=>
  Bf (i Wf p c r _ t z) λE F ⟨ps,A,B,d,C⟩=>⟨(x,y)::ps,A,B, .cons ⟨n,w⟩ d,C⟩)
def Li (a more:km (Dk×V)):km (Dk×V):=more.foldl (λb c=>Fg b c.1 c.2) a
def KV.merge:∀{more:km (Dk×V)} {rs:km (Dk×kj)} {a:km (Dk×V)} {vs:km (Dk×kj)},KV more rs->KV a vs->KV (Li a more) (merged vs rs):=by
 intro more rs a vs r;unfold KV at r;induction r generalizing a vs with
 | nil=>intro q;exact q
 | @cons p q ps qs h t ih=>
   intro b;have e:KV (Fg a p.1 p.2) (stored vs q.1 q.2):=by have:=b.put p.1 h.2;rw[<-h.1];exact this
   exact ih e
theorem Ir:∀(more a:km (Dk×V)),(Li a more).length<=a.length+more.length
 | [],a=>by show a.length<=a.length+0;omega
 | p::r,a=>by have h1:=Ir r (Fg a p.1 p.2);have h2:=MJ a p.1 p.2;show (Li (Fg a p.1 p.2) r).length<=_;rw[AAn];omega
theorem Nu {P:gn}{w:fm}:∀{d:km (Dk×V)} {e:km (kj×kj)},VV (d.map λf=>(kV f.1,f.2)) e->∃rs,Carries (CA P w) e rs/\KV d rs
 | [],_,r=>by rw[ACU] at r;cases r;exact⟨[],True.intro, .nil⟩
 | p::d,_,r=>by
   rw[AAX] at r;cases r with
   | @cons a b as bs h t=> obtain⟨rs,c,q⟩:=Nu (P:=P) (w:=w) t;obtain⟨b1,b2⟩:=b;exact⟨(p.1,b2)::rs,⟨cB h.1,rfl,c⟩, .cons ⟨rfl,h.2⟩ q⟩
def ql (b:km (TE×TE)):TE:=λe H Q=>∀p,H p=none->Ws b e (upd H p (.dK [])) λps c=>c p=some (.dK [])/\∃a:km (Dk×V),ps=a.map (λd=>(kV d.1,d.2))/\a.length<=15/\Q (.ref p) (upd c p (.dK (Li [] a)))
def iC {X:Cx}{b:Pos}{keys:km (ke kd)}{values:km kd}{d:km (TE×TE)}(h:rF X b keys values d)(k:keys.all (·.isSome)=true)(hl:keys.length=values.length)(l:keys≠ [])(m:keys.length<=15):PE X (.Dict keys values b) (ql d):=by
 intro Wf s n H Q I q;have hn:=I.hok.fresh (AAW s.heap.objs.size);have p:=I.laid (a:=s.heap.objs.size) (o:= .dK []) (h':=s.heap.push {cls:= .type "dict",data:= .dict #[] }) (t':=s.toks) (λ_ _ q=>AAV _ q) (AAW _) (aw s.heap I.big);refine wpAny_Dict_walk (knd:=CA X.prog X.w) k hl l m (Bf (h Wf _ n _ _ p (q _ hn)) λy A ⟨ps,B,j,i,e,f,ep,C,r⟩=> ?_);subst ep;obtain⟨rs,c,t⟩:=Nu (P:=X.prog) (w:=X.w) i;obtain⟨z,hd,u,v,x⟩:=oS j.hok e;cases v;refine⟨rs,c,x,λh' g hs=>⟨.ref s.heap.objs.size,_, ?_,rfl,r⟩⟩;have hz:(Li [] f).length<=sizeLine:=by have h1:=Ir f [];rw[ACG] at h1;rw[sizeLine_eq];omega
 have he:∃q,h'.get? s.heap.objs.size=some q:=let ⟨q,_,_,hq,_⟩:=g;⟨q,hq⟩;exact XO j (by rw[e];exact True.intro) hs he (kM hz hd (t.merge .nil) g)
structure M1 (X:Cx) (o:Expr) (m:Str) (apos:Pos) (e:Expr) (cpos:Pos):Prop where
 base:attributeBase o m X.env (eval o X.env)=eval o X.env
 few:((backTo cpos (starEach [e] X.env)).all (λx=> !x.1)&&(backToKw cpos (keywordEach [] X.env)).all (λx=>x.1.isSome)
  && decide (([e] :List Expr).length+([] :List Keyword).length+(if ([] :List Keyword).isEmpty then 0 else 1)<30))=true
 line:(apos.endLine==cpos.line)=true
 trees:backTo cpos (starEach [e] X.env)= [(false,eval e X.env)]
structure M2 (X:Cx) (o:Expr) (m:Str) (apos:Pos) (e f:Expr) (cpos:Pos):Prop where
 base:attributeBase o m X.env (eval o X.env)=eval o X.env
 few:((backTo cpos (starEach [e,f] X.env)).all (λx=> !x.1)&&(backToKw cpos (keywordEach [] X.env)).all (λx=>x.1.isSome)
  && decide (([e,f] :List Expr).length+([] :List Keyword).length+(if ([] :List Keyword).isEmpty then 0 else 1)<30))=true
 line:(apos.endLine==cpos.line)=true
 trees:backTo cpos (starEach [e,f] X.env)= [(false,eval e X.env),(false,eval f X.env)]
def vx (H:Hp)(a:kf):Prop:=(∃b,Rd H a (.dK b))\/∃b,Rd H a (.dT b)
def lB {X:Cx}{Wf:km (kf×Obj)}{h:St}{H:Hp}{s:ki}{a:kf}(I:Inv X Wf h H s)(d:vx H a):s.TypeIs (.ref a) "dict" /\(∀b,Value.ref a= .ref b->∃c,s.heap.get? b=some c/\c.dict=none)/\(a==sysModules)=false:=by
 rcases d with⟨g,e⟩|⟨g,e⟩
 .obtain ⟨_,hd,vs,_,f⟩:=ax I.hok e;refine⟨f.typeIs,λb q=> ?_,hd⟩;cases q;obtain⟨c,_,_,h1,h2,_⟩:=f;exact⟨c,h1,h2.2.1⟩
 .obtain ⟨_,hd,xs,_,f⟩:=jK I.hok e;refine⟨f.typeIs,λb q=> ?_,hd⟩;cases q;obtain⟨c,_,_,h1,h2,_⟩:=f;exact⟨c,h1,h2.2.1⟩
section
variable {X:Cx}{Wf:km (kf×Obj)}{σ:St}{H:Hp}{s:ki}{a:kf}{y d:V}{u r:kj}{o:ke V}{A:da}{E:kj->ki->Prop}
def kK {Q:kj->ki->Prop}(hu:A.units+1<cLine)(I:Inv X Wf σ H s)(g:YS H a y o)(m:RelV y u)(n:RelV d r)(h:∀p t,Inv X Wf σ H t->RelV (o.getD d) p->Q p t):wpAny (model X.prog X.w) A (call (.builtin "dict.get") [.ref a,u,r]) Q E s:=by
 rcases g with⟨i,k,e,j,l⟩|⟨i,k,b,e,j,v,l⟩
 .subst j;obtain⟨z,hd,vs,c,f⟩:=ax I.hok e;refine call_meetsIn ACh f.typeIs ADt (ADu _ _ _) (meets_dict_get_default (CA X.prog X.w) a (cB m) hd r) ⟨_,f.mapOf,h _ _ (I.tok _) ?_⟩;rw[l];exact(c.val k).getD n
 .subst j;cases (show u=Value.ref b from m);obtain⟨z,hd,xs,c,f⟩:=jK I.hok e;refine call_meetsIn ACh f.typeIs ADt (ADu _ _ _) (meetsH_dict_get_default (tupleKind (CA X.prog X.w)) a b hd r) ⟨tupleKind_room_in1 hu,k,xs,cC I.hok v,f,h _ _ (I.tok _) ?_⟩;rw[l];exact(c.val k).getD n
end
def my (e f tx:TE):TE:=λb H Q=>e b H λx c=>∃a,x= .ref a/\vx c a/\f b c λy g=>tx b g λz d=>∃o,YS d a y o/\Q (o.getD z) d
section
variable {X:Cx}{o e f:kd}{apos cpos:Pos}{td ty tx:TE}
def c6 (hu:X.A.units+1<cLine)(j:PE X o td)(he:PE X e ty)(k:PE X f tx)(m:M2 X o "get" apos e f cpos):PE X (.Call (.Attribute o "get" apos) [e,f] [] cpos) (my td ty tx):=by
 intro Wf s b H Q I h;refine wpAny_Call_method m.base m.few m.line AEM ACh AEN (Bf (j Wf s b H _ I h) λu l ⟨x,n,i,p,a,ex,d,r⟩=> ?_);subst ex;obtain rfl:u=Value.ref a:=p;obtain⟨t1,t2,_⟩:=lB i d;refine⟨t1,t2, ?_⟩;rw[m.trees];refine ADh rfl (ADi (ABs (Bf (he Wf l b n _ i r) λK t ⟨y,v,w,B,C⟩=>
  ABs (Bf (k Wf t b v _ w C) λL M ⟨z,D,E,F,N,g,G⟩=>ACy ?_))))
 exact kK hu E g B F λO P J c=>⟨_,D,J,c,G⟩
end
abbrev KN (K:AAP)(H:Hp):km (FK×V)->km (FK×kf×kj)->Prop:=Paired λp q=>p.1=q.1/\GU K H q.2.1 p.1/\RelV p.2 q.2.2
def KN.val {K:AAP}{H:Hp}{a:km (FK×V)}{xs:km (FK×kf×kj)}(r:KN K H a xs)(k:FK):J6 (El a k) ((atKey xs k).map (·.2)):=by
 induction r with
 | nil=>exact True.intro
 | @cons p q ps qs h t ih=>
   obtain⟨h1,_,h2⟩:=h;by_cases e:p.1=k
   .have c:q.1=k:=h1.symm.trans e;have b:atKey (q::qs) k=some q.2:=by simp[atKey,ABj,c]
    rw[K4 e,b];exact h2
   .have c:¬q.1=k:=λz=>e (h1.trans z);have b:atKey (q::qs) k=atKey qs k:=by simp[atKey,ABj,c]
    rw[GM e,b];exact ih
def KN.repl {K:AAP}{H:Hp}{a:km (FK×V)}{xs:km (FK×kf×kj)}(r:KN K H a xs)(k:FK){y:V}{u:kj}(c:RelV y u):KN K H (a.map λb=>if b.1=k then (b.1,y) else b) (xs.map (putAt k u)):=by
 induction r with
 | nil=>exact .nil
 | @cons p q ps qs h t ih=>
   rw[AAX,AAX];refine .cons ?_ ih;obtain⟨h1,h2,d⟩:=h;unfold putAt;by_cases e:p.1=k
   .rw [AAR e,AAR (h1.symm.trans e)];exact⟨h1,h2,c⟩
   .rw [AAQ e,AAQ (λz=>e (h1.trans z))];exact⟨h1,h2,d⟩
def KN.put {K:AAP}{H:Hp}{a:km (FK×V)}{xs:km (FK×kf×kj)}(r:KN K H a xs)(k:FK){b:kf}{y:V}{u:kj}(hb:GU K H b k)(c:RelV y u):KN K H (Fg a k y) (storedH xs k b u):=by
 have e:(a.any λd=>decide (d.1=k))=(atKey xs k).isSome:=by rw[Ov,(r.val k).isSome_eq,ACg]
 unfold Fg storedH;rw[e];by_cases q:(atKey xs k).isSome=true
 .rw [AAR q,AAR q];exact r.repl k c
 .rw [AAQ q,AAQ q];exact Paired.snoc r ⟨rfl,hb,c⟩
def KN.keeps {K:AAP}{H c:Hp}{a:km (FK×V)}{xs:km (FK×kf×kj)}(r:KN K H a xs)(d:∀b ys,H b=some (.tup ys)->c b=some (.tup ys)):KN K c a xs:=
 Paired.mapP r λ_ _ z=>⟨z.1,z.2.1.stay d,z.2.2⟩
section
variable {P:gn}{w:fm}{H:Hp}{h:fe}{a:kf}{K:AAP}
def KZ {k:FK}(ok:Jn P w H h)(d:K.In h)(e:GU K H a k):(fkKind P w).is h k a:=by
 obtain⟨b,h1,h2⟩:=e;obtain⟨_,j,r,o,l,m,n,p⟩:=(show CD P w H h a (.tup [.ref b, .int k.2]) from ok a _ h1);cases r with
 | cons r1 r=>
 cases r with
 | cons r2 r=>
 cases r;cases r1;obtain⟨u,rfl⟩:=r2;have two:∀{g:km kj},A3 [.int k.1.1, .int k.1.2] g->ItemsAre (intKind P w) [k.1.1,k.1.2] g:=λhv=>by
  cases hv with
  | cons s hv=>
  cases hv with
  | cons t hv=> cases hv;obtain⟨C,rfl⟩:=s;obtain⟨D,rfl⟩:=t;exact .cons (by simp[intKind,Value.isInt]) (.cons (by simp[intKind,Value.isInt]) .nil)
 refine⟨o,_,n,b,u,l,m,p,by simp, ?_⟩;rcases h2 with h2|⟨i,c,f,v,x,y,z⟩
 .obtain ⟨_,c,r2,A,f1,f2,f,B⟩:=(show CD P w H h b (.tup [.int k.1.1, .int k.1.2]) from ok b _ h2);exact⟨A,c.toArray,f,f1,f2,B,by simpa using two r2⟩
 .exact ⟨i,c,f,d b i v,x,y,two z⟩
def P7 {b:km (FK×V)}(ok:Jn P w H h)(c:K.In h)(e:H a=some (.dN K b)):b.length<=sizeLine/\(a==sysModules)=false/\∃xs,KN K H b xs/\h.DictOfH (fkKind P w) a xs:=by
 obtain⟨z,y,xs,r,o,es,ep,h1,h2,d,f,g⟩:=(show CD P w H h a (.dN K b) from ok a _ e);refine⟨z,y,xs,r,o,es,ep,h1,h2,d,f,λx hx=> ?_,g⟩;have all:∀{l:km (FK×V)} {m:km (FK×kf×kj)},KN K H l m->∀x∈m,(fkKind P w).is h x.1 x.2.1:=by
  intro l m q;induction q with
  | nil=>intro x hx;exact nomatch hx
  | @cons p q ps qs hq t ih=>
    intro x hx;rcases AAT.mp hx with e|hx
    .subst e;exact KZ ok c (by rw[<-hq.1];exact hq.2.1)
    .exact ih x hx
 exact all r x hx
end
section
variable {X:Cx}{Wf:km (kf×Obj)}{σ:St}{H:Hp}{s:ki}{a b:kf}{v d:V}{r:kj}{kvs:km (FK×V)}{k:FK}{A:da}{E:kj->ki->Prop}
def ZD {Q:kj->ki->Prop}(hu:A.units+2<cLine)(I:Inv X Wf σ H s)(e:H a=some (.dN X.K kvs))(hb:GU X.K H b k)(l:El kvs k=some v)(h:∀c i,Inv X Wf σ H i->RelV v c->Q c i):wpAny (model X.prog X.w) A (getItem (.ref a) (.ref b)) Q E s:=by obtain⟨z,hd,xs,f,j⟩:=P7 I.hok I.kIn e;obtain⟨c,hw,g⟩:=J6.some_of (v:=v) (o:=(atKey xs k).map (·.2)) (by rw[<-l];exact f.val k);obtain⟨p,hp,m⟩:=ACH.mp hw;refine wpAny_getItem_heap (DZ hu) (KZ I.hok I.kIn hb) j hp ?_;rw[m];exact h c _ (I.tok _) g
def uM {Q:kj->ki->Prop}(hu:A.units+2<cLine)(I:Inv X Wf σ H s)(e:H a=some (.dN X.K kvs))(hb:GU X.K H b k)(h:∀f,Inv X Wf σ H f->Q (.bool (El kvs k).isSome) f):wpAny (model X.prog X.w) A (compareOp .In (.ref b) (.ref a)) Q E s:=by obtain⟨z,hd,xs,c,g⟩:=P7 I.hok I.kIn e;refine wpAny_in_heap (DZ hu) (KZ I.hok I.kIn hb) hd g ?_;have q:=(c.val k).isSome_eq;rw[ACg] at q;rw[<-q];exact h _ (I.tok _)
def ZE {Q:Unit->ki->Prop}(hu:A.units+2<cLine)(I:Inv X Wf σ H s)(e:H a=some (.dN X.K kvs))(hb:GU X.K H b k)(hl:kvs.length<sizeLine)(rv:RelV v r)(h:∀i,Inv X Wf σ (upd H a (.dN X.K (Fg kvs k v))) i->Q () i):wpAny (model X.prog X.w) A (setItem (.ref a) (.ref b) r) Q E s:=by
 obtain⟨z,hd,xs,f,l⟩:=P7 I.hok I.kIn e;have hz:xs.length<=sizeLine:=by rw[<-ACN f];exact z
 have hl:(Fg kvs k v).length<=sizeLine:=by have:=MJ kvs k v;omega
 refine wpAny_setItem_heap (hsz:=hz) (DZ hu) (KZ I.hok I.kIn hb) l λh' g hs=>h _ ?_;obtain⟨q,es,ep,hq,h2,m,n,_,o⟩:=g;refine XO I (by rw[e];exact True.intro) hs ⟨q,hq⟩ ⟨hl,hd,_,(f.put k hb rv).keeps λc ys j=> ?_,q,es,ep,hq,h2,m,n,o⟩;rw[Al (pk j e (λz=>nomatch z))];exact j
def lT {Q:kj->ki->Prop}(hu:A.units+2<cLine)(I:Inv X Wf σ H s)(e:H a=some (.dN X.K kvs))(hb:GU X.K H b k)(j:RelV d r)(h:∀f g,Inv X Wf σ H g->RelV ((El kvs k).getD d) f->Q f g):wpAny (model X.prog X.w) A (call (.builtin "dict.get") [.ref a, .ref b,r]) Q E s:=by obtain⟨z,hd,xs,c,i⟩:=P7 I.hok I.kIn e;refine call_meetsIn ACh i.typeIs ADt (ADu _ _ _) (meetsH_dict_get_default (fkKind X.prog X.w) a b hd r) ⟨DZ hu,k,xs,KZ I.hok I.kIn hb,i,h _ _ (I.tok _) ?_⟩;exact(c.val k).getD j
end
def jl (K:AAP):TE:=λ_ H Q=>∀p,H p=none->Q (.ref p) (upd H p (.dN K []))
def qr (K:AAP)(f g:TE):TE:=λe H Q=>f e H λx h=>g e h λy d=>∃a b c k v,x= .ref a/\y= .ref b/\d a=some (.dN K c)/\GU K d b k/\El c k=some v/\Q v d
def qt (K:AAP)(f g:TE):TE:=λe H Q=>f e H λy h=>g e h λx d=>∃a b c k,x= .ref a/\y= .ref b/\d a=some (.dN K c)/\GU K d b k/\Q (.bl (El c k).isSome) d
def dZ (K:AAP)(f g h:TE):TS:=λD d H=>h d H λv i=>f d i λx j=>g d j λy e=>∃a b c k,x= .ref a/\y= .ref b/\e a=some (.dN K c)/\GU K e b k/\c.length<sizeLine/\D.nx d (upd e a (.dN K (Fg c k v)))
def Wr (K:AAP)(g h tx:TE):TE:=λd H Q=>g d H λx f=>∃a c,x= .ref a/\f a=some (.dN K c)/\h d f λy i=>tx d i λz e=>∃b c k,y= .ref b/\e a=some (.dN K c)/\GU K e b k/\Q ((El c k).getD z) e
section
variable {X:Cx}{o i e f value:kd}{pos pos' apos cpos:Pos}{td ty tv tx:TE}
def ay {P:gn}{w:fm}{H:Hp}{K:AAP}(h:fe)(hb:sysModules<h.objs.size):CD P w H (h.push {cls:= .type "dict",data:= .dict #[] }) h.objs.size (.dN K []):=
 ⟨AA3 _,ACq.mpr (ABA (AAc hb)), [], .nil,_, #[],0,AAi _ rfl,⟨rfl,rfl,rfl⟩,rfl,rfl,List.nodup_nil⟩
def iF:PE X (.Dict [] [] pos) (jl X.K):=λWf s b H Q I h=>
 wpAny_Dict_empty ⟨.ref s.heap.objs.size,_,I.laid (a:=s.heap.objs.size) (o:= .dN X.K []) (t':=s.toks) (λ_ _ q=>AAV _ q) (AAW _) (ay s.heap I.big),rfl,h _ (I.hok.fresh (AAW _))⟩
def jI {Wf:km (kf×Obj)}{h:St}{H:Hp}{s:ki}{a:kf}{d:km (FK×V)}(I:Inv X Wf h H s)(e:H a=some (.dN X.K d)):s.TypeIs (.ref a) "dict" /\(∀b,Value.ref a= .ref b->∃c,s.heap.get? b=some c/\c.dict=none):=by obtain⟨_,hd,xs,_,g⟩:=P7 I.hok I.kIn e;refine⟨g.typeIs,λb q=> ?_⟩;cases q;obtain⟨c,_,_,h1,h2,_⟩:=g;exact⟨c,h1,h2.2.1⟩
def iE (hu:X.A.units+2<cLine)(j:PE X o td)(hi:PE X i ty)(hs:jx i):PE X (.Subscript o i pos) (qr X.K td ty):=by intro Wf s d H Q I h;refine iy PySem.F.slot_dict_getitem.lookup hs (Bf (j Wf s d H _ I h) λu m ⟨x,n,p,r,t⟩=>Bf (hi Wf m d n _ p t) λw J ⟨y,z,g,B,a,b,C,k,v,ex,D,e,hb,l,E⟩=> ?_);subst ex D;obtain rfl:u=Value.ref a:=r;obtain rfl:w=Value.ref b:=B;exact⟨(jI g e).1,ZD hu g e hb l λL M G c=>⟨v,z,G,c,E⟩⟩
def lq (hu:X.A.units+2<cLine)(hi:PE X i ty)(d:PE X o td):PC X .In i o (qt X.K ty td):=by intro Wf s c H Q I h;refine Bf (hi Wf s c H _ I h) λg j ⟨y,l,m,n,p⟩=>Bf (d Wf j c l _ m p) λu D ⟨x,r,t,v,a,b,w,k,ex,z,e,hb,B⟩=> ?_;subst ex z;obtain rfl:u=Value.ref a:=v;obtain rfl:g=Value.ref b:=n;exact uM hu t e hb λE C=>⟨.bl _,r,C,rfl,B⟩
def X1 (hu:X.A.units+2<cLine)(d:PE X o td)(hi:PE X i ty)(hv:PE X value tv)(hs:swapsWith value (some (.Subscript o i pos')) pos.line X.env=pure false):PS X (.Assign [.Subscript o i pos'] value pos) (dZ X.K td ty tv):=by intro Wf s c H D I h;refine wpAny_Assign_Subscript (Bf (hv Wf s c H _ I h) λr g ⟨v,j,l,rv,m⟩=>Bf (d Wf g c j _ l m) λu n ⟨x,p,t,w,z⟩=>Bf (hi Wf n c p _ t z) λB M ⟨y,N,C,E,a,b,F,k,ex,G,e,hb,hl,J⟩=> ?_) hs;subst ex G;obtain rfl:u=Value.ref a:=w;obtain rfl:B=Value.ref b:=E;exact ZE hu C e hb hl rv λO L=>⟨c,_,L,J⟩
def Ud (hu:X.A.units+2<cLine)(l:PE X o td)(he:PE X e ty)(n:PE X f tx)(m:M2 X o "get" apos e f cpos):PE X (.Call (.Attribute o "get" apos) [e,f] [] cpos) (Wr X.K td ty tx):=by
 intro Wf s c H Q I h;refine wpAny_Call_method m.base m.few m.line AEM ACh AEN (Bf (l Wf s c H _ I h) λu p ⟨x,r,g,t,a,j,ex,v,w⟩=> ?_);subst ex;obtain rfl:u=Value.ref a:=t;obtain⟨t1,t2⟩:=jI g v;refine⟨t1,t2, ?_⟩;rw[m.trees];refine ADh rfl (ADi (ABs (Bf (he Wf p c r _ g w) λB C ⟨y,D,E,F,G⟩=>
  ABs (Bf (n Wf C c D _ E G) λS T ⟨z,J,L,M,b,N,k,O,e,hb,P⟩=>ACy ?_))))
 subst O;obtain rfl:B=Value.ref b:=F;exact lT hu L e hb M λU W R d=>⟨_,J,R,d,P⟩
end
end L2
namespace PySem
open Sem (wp)
def LN (h:fe)(d:kf)(es:Array DictEntry)(ep:Nat):Prop:=∃o,h.get? d=some o/\o.ExactDict/\o.data= .dict es ep
section
variable {prog:gn}{w:fm}{A:da}{E:kj->ki->Prop}{s:ki}{d it:kf}{es:Array DictEntry}{ep i:Nat}
def LN.typeIs (x:LN s.heap d es ep):s.TypeIs (.ref d) "dict" :=let ⟨o,a,hc,_⟩:=x;⟨o,a,hc.1⟩
def LN.at {h h':fe}(x:LN h d es ep)(e:∀o,h.get? d=some o->h'.get? d=some o):LN h' d es ep:=let ⟨o,a,r⟩:=x;⟨o,e _ a,r⟩
def dP {Q:kj->ki->Prop}(hd:(d==sysModules)=false)(b:LN s.heap d es ep)(hQ:Q (.ref s.heap.objs.size) {s with heap:=s.heap.push {cls:= .type "dict_keyiterator",data:= .fields #[.ref d, .int 0 0, .int es.size 0, .int ep 0] }}):wpAny (model prog w) A (pyIter (.ref d)) Q E s:=by have a:=b.typeIs;obtain⟨o,c,hc,e⟩:=b;refine wpAny_pyIter_slot a F.slot_dict_iter (ABL F.slot_dict_iter a F.entry_dict_iter ?_ (F.args_dict_iter_1 _));unfold Builtin.«dict.__iter__»;refine AAO ?_;unfold Builtin.Dict.dictSlotNone;refine AAO (wpAny_notOrdered_dict a (AAS ?_));show wpAny _ _ (Builtin.Dict.showsAll d >>= _) _ _ s;unfold Builtin.Dict.showsAll;rw[AAQ (by rw[hd];exact AAe)];refine AAO (AAS (AAO (ADv c e (AAO (ADw c e ?_)))));exact AAO (ABG (AAS ⟨_,rfl,"dict_keyiterator",_,⟨_,AAi _ rfl,rfl⟩,ACi.lookup,by simpa[rawInt] using hQ⟩))
def dQ {Q:ke kj->ki->Prop}(a:s.heap.IsKeyIter it d i es.size ep)(h:LN s.heap d es ep)(j:i<es.size)(hQ:∀h',h'.IsKeyIter it d (i+1) es.size ep->Heap.SameBut it s.heap h'->Q (some es[i].key) {s with heap:=h'}):wpAny (model prog w) A (pyNext (.ref it)) Q E s:=by
 have b:=a.typeIs;obtain⟨o,c,hc,hd⟩:=a;obtain⟨k,e,l,f⟩:=h;unfold pyNext;refine AAO (ADD (ABh (name:=Str.ofString "__next__") b ACi (ABL ACi b AEO ?_ (AEP _))));refine AAO (AAS (AAO (AAO ?_)));refine AAO (ADN b (AAS (AAO (wpAny_fieldsOf c hd ?_))));simp only[show Builtin.Dict_items.ownsTuple "dict_keyiterator" =false by decide,AA2,AAu];show wpAny _ _ (if (Value.ref d==Value.none)=true then _ else _) _ _ s;rw[AAQ (show ¬((Value.ref d==Value.none)=true) from AAe)];refine AAO (AAS (AAO (ADv e f ?_)));rw[AAQ (by simp)];refine AAO (AAS (AAO (ADw e f ?_)));rw[AAQ (by simp)];refine AAS ?_;simp only[show ¬((i:Int)<0) from by omega,AAu,AB5,AEQ j];refine AAO ?_;refine AAO (ADN b (AAS (AAO (wpAny_isOneOf_keyiter b ?_))));show wpAny _ _ (setField (.ref it) 1 (rawInt ((i:Int)+1)) >>= _) _ _ s;refine AAO (AC8 c hd (by simp) ?_);have g:(s.heap.update it (Obj.mapFields (·.setIfInBounds 1 (rawInt ((i:Int)+1))))).IsKeyIter it d (i+1) es.size ep:=
  ⟨_,AB8 _ c (Obj.isFreed_of_fields (ADA hd _)),(Obj.cls_mapFields ..).trans hc,by rw[ADA hd];simp[rawInt]⟩
 refine AAO (AA8 (AAO (wpAny_isOneOf_keyiter (s:={s with heap:=s.heap.update it (Obj.mapFields (·.setIfInBounds 1 (rawInt ((i:Int)+1))))}) g.typeIs ?_)));show wpAny _ _ (pure es[i].key) _ _ _;exact AAS (AAS ⟨_,rfl,AAS (hQ _ g (AC9 ..))⟩)
def iT {Q:ke kj->ki->Prop}(j:A.handled=none)(c:s.heap.IsKeyIter it d es.size es.size ep)(k:LN s.heap d es ep)(hQ:∀h',Heap.ExtBut it s.heap h'->Q none {s with heap:=h'}):wpAny (model prog w) A (pyNext (.ref it)) Q E s:=by have e:=c.typeIs;obtain⟨o,f,hc,hd⟩:=c;obtain⟨l,g,n,h⟩:=k;unfold pyNext;refine AAO (ADD (ABh (name:=Str.ofString "__next__") e ACi (ABL ACi e AEO ?_ (AEP _))));refine AAO (AAS (AAO (AAO ?_)));refine AAO (ADN e (AAS (AAO (wpAny_fieldsOf f hd ?_))));simp only[show Builtin.Dict_items.ownsTuple "dict_keyiterator" =false by decide,AA2,AAu];show wpAny _ _ (if (Value.ref d==Value.none)=true then _ else _) _ _ s;rw[AAQ (show ¬((Value.ref d==Value.none)=true) from AAe)];refine AAO (AAS (AAO (ADv g h ?_)));rw[AAQ (by simp)];refine AAO (AAS (AAO (ADw g h ?_)));rw[AAQ (by simp)];refine AAS ?_;simp only[show ¬((es.size:Int)<0) from by omega,AAu,AB5,Array.getElem?_eq_none (AAW es.size)];refine AAO ?_;refine AAO (ADN e (AAS ?_));show wpAny _ _ (setField (.ref it) 0 .none >>= _) _ _ s;refine AAO (AC8 f hd (by simp) ?_);show wpAny _ _ (newExc (.type "StopIteration") [] >>= _) _ _ _;refine AAO ?_;simp only[newExc,newTuple];refine AAO (ABG ?_ (by size_fits));refine AAO (m:=firstArgMember _ _) (wpAny_of_eq (a:=Value.none) (by first | rfl|(simp only[firstArgMember];rfl)) (ABG ?_ (by size_fits)));simp only[raiseNew];refine AAO (wpAny_handled ?_);rw[show A.in1.handled=none from j];refine AAO (AAS (wpAny_throw ?_));refine AAO (AB1 (T:="StopIteration") (b:=true) ⟨_,AAi _ rfl,rfl⟩ isSubtype_stop ?_);exact AAS (hQ _ (((AC9 ..).extBut.push _).push _))
def Zs (c:A.handled=none)(f:d≠it):Walks prog w A it [it,d] [it] es.size (λi v=>∃e,es[i]? =some e/\v=e.key) (λi h=>h.IsKeyIter it d i es.size ep/\LN h d es ep) where
 sub:=λb hb=>by simp at hb;simp[hb]
 frame:=λ_ _ _ st hk=>⟨st.1.at λo e=>hk it (by simp) o e,st.2.at λo e=>hk d (by simp) o e⟩
 item:=λi s Q E hi st hQ=>dQ st.1 st.2 hi λh' g a=>
  hQ _ h' s.toks ⟨es[i],by simp[hi],rfl⟩ ⟨g,st.2.at λo e=>a.extBut d o f e⟩ λb o hb e=>a.extBut b o (λh=>hb (by simp[h])) e
 done:=λs Q E st hQ=>iT c st.1 st.2 λh' j=>hQ h' s.toks λb o hb e=>j b o (λh=>hb (by simp[h])) e
 self:=λ_ _ _ _ st hQ=>wpAny_pyIter_keyiter st.1 hQ
end
def dO {prog:gn}{w:fm}{A:da}{E:kj->ki->Prop}{s:ki}{d:kf}{es:Array DictEntry}{ep:Nat}{Q:kc->ki->Prop}(b:LN s.heap d es ep)(h:Q false s):wpAny (model prog w) A (Builtin.List.listLengthHint (.ref d)) Q E s:=by
 have a:=b.typeIs;unfold Builtin.List.listLengthHint;refine AAO (ABo a F.slot_dict_len.lookup ?_);have hs:splitId "dict.__len__" =some ("dict","__len__"):=by decide +kernel
 simp only[hs];refine AAO (AB1 a (by rw[ABK];kernel_rfl:isSubtype (.type "dict") (.type "dict")=pure true) ?_);simp only[ABZ,AA2,AAu];rw[AAR (by decide +kernel)];refine AAO (ACS a ?_);exact AAS h
section
variable {prog:gn}{w:fm}{A:da}{s:ki}{R:Result->ki->Prop}{d:kf}{es:Array DictEntry}{ep:Nat}
def WT (G:A.handled=none)(S:kf)(res:kj)(h:Nat)(hd:(d==sysModules)=false)(n:LN s.heap d es ep)(hn:es.size<=sizeLine)(p:d≠S)(x:s.heap.get? S=some {cls:= .type "list",data:= .seq #[] h})(H:∀h' I a l,(∀b o,b≠S->s.heap.get? b=some o->h'.get? b=some o)->h'.get? S=some {cls:= .type "list",dict:=none,data:= .seq a l,slots:= #[] }->ItemsOf (λi v=>∃e,es[i]? =some e/\v=e.key) a es.size->R (.ok (.ret res)) {s with heap:=h',toks:=I}):wpAny (model prog w) A.in1 (Builtin.List.listExtendWith (.ref S) (.ref d) res) (λr c=>match r with | .done f=>R (.ok f) c | .again l=>l.quiet=true/\codeAny (model prog w) A l R c) (λe c=>R (.error e) c) s:=by
 have J:=n.typeIs;unfold Builtin.List.listExtendWith;refine AAO (ACS J ?_);have h1:Builtin.List.listSameRef (.ref S) (.ref d)=false:=by simp[Builtin.List.listSameRef,ABA p]
 have h2:(Value.type "dict" == Value.type "list")=false:=by decide
 have K:(Value.type "dict" == Value.type "tuple")=false:=by decide
 simp only[h1,h2,K,ADO,AA2,AAu];refine AAO (dP hd n ?_);have L:d<s.heap.objs.size:=let ⟨o,M,_⟩:=n;AAU M;have N:S<s.heap.objs.size:=AAU x;have t:LN (s.heap.push {cls:= .type "dict_keyiterator",data:= .fields #[.ref d, .int 0 0, .int es.size 0, .int ep 0] }) d es ep:=n.at λo e=>AAV _ e;refine AAO (AA8 (dO (s:={s with heap:=s.heap.push {cls:= .type "dict_keyiterator",data:= .fields #[.ref d, .int 0 0, .int es.size 0, .int ep 0] }}) t ?_));generalize u:({cls:= .type "dict_keyiterator",data:= .fields #[.ref d, .int 0 0, .int es.size 0, .int ep 0] }:Obj)=io at t ⊢;have y:(s.heap.push io).get? S=some {cls:= .type "list",data:= .seq #[] h}:=AAV _ x;have O:(s.heap.push io).get? s.heap.objs.size=some io:=AAi _ (by rw[<-u];rfl);have z:S≠s.heap.objs.size:=AAc N;rw[AAR (by decide +kernel)];refine AAO (ABP (AAO ?_));show wpAny _ A.in1 (updateSeq S (·.push .none) >>= λ_=>updateSeq S (·.pop)) _ _ _;refine AAO (ADx (s:={s with heap:=s.heap.push io}) y rfl ?_);have g:=AB8 (Obj.mapSeq (·.push Value.none)) y rfl;refine ADx (hz:=by seq_fits) g rfl ?_;have j:=AB8 (Obj.mapSeq (·.pop)) g rfl;have k:∀b o,b≠S->(s.heap.push io).get? b=some o->(((s.heap.push io).update S (Obj.mapSeq (·.push Value.none))).update S (Obj.mapSeq (·.pop))).get? b=some o:=
  λb o hb e=>(ACT _ _ (ABA hb)).trans ((ACT _ _ (ABA hb)).trans e)
 have W:=(Zs (prog:=prog) (w:=w) (A:=A.in1) (d:=d) (it:=s.heap.objs.size) (es:=es) (ep:=ep) G (AAc L)).toS;refine AAS ⟨plainId_quiet F.plain_extend_loop _,codeAny_extend_loopS W hn S ?_ res es.size 0 _ _ _ rfl (AA3 _) ⟨⟨io,k _ _ (ABA z) O,by rw[<-u],by rw[<-u];rfl⟩,t.at λo e=>k _ _ p e⟩ j (ItemsOf.nil _) λc a l P Q T=> ?_⟩
 .intro m;simp only[AAT,AAq,AAr] at m;rcases m with e|e
  .exact z e
  .exact p e.symm
 .obtain ⟨U,B,C,D,X⟩:=P;have e:c={s with heap:=c.heap,toks:=c.toks}:=by obtain⟨Y,Z,a3,a4,a5⟩:=c;simp only at B C D;subst B;subst C;subst D;rfl
  rw[e];refine H c.heap c.toks a l (λb o hb E=>U b o ?_ (k b o hb (AAV _ E))) Q T;intro m;simp only[AAT,AAq,AAr] at m;rcases m with e|e
  .exact hb e
  .exact AAc (AAU E) e
end
section
variable {prog:gn}{w:fm}{A:da}{E:kj->ki->Prop}{s:ki}{d:kf}{es:Array DictEntry}{ep:Nat}
def O7 {Q:kj->ki->Prop}(r:A.handled=none)(hd:(d==sysModules)=false)(n:LN s.heap d es ep)(hn:es.size<=sizeLine)(hQ:∀h' k l,(∀b o,s.heap.get? b=some o->h'.get? b=some o)->h'.get? s.heap.objs.size=some {cls:= .type "list",dict:=none,data:= .seq (es.map (·.key)) l,slots:= #[] }->Q (.ref s.heap.objs.size) {s with heap:=h',toks:=k}):wpAny (model prog w) A (call (.type "list") [.ref d]) Q E s:=by
 have t:d<s.heap.objs.size:=let ⟨o,u,_⟩:=n;AAU u;refine callType_codes (Q₁:=λobj c=>obj= .ref s.heap.objs.size/\c={s with heap:=s.heap.push {cls:= .type "list",data:= .seq #[] }}) F.called_list (F.typeCall_list_1 _) F.entry_list_init (code_list_new _ ⟨rfl,rfl⟩) λobj c g=> ?_;obtain⟨rfl,rfl⟩:=g;have j:(s.heap.push {cls:= .type "list",data:= .seq #[] }).get? s.heap.objs.size=some {cls:= .type "list",data:= .seq #[] }:=AAi _ rfl;refine⟨⟨_,j,rfl⟩,F.args_list_init_2 _ _, ?_⟩;show wpAny _ A.in1.in1 (do let m <-Builtin.List.listItems (.ref s.heap.objs.size);Builtin.List.listUpdate (.ref s.heap.objs.size) (λ_=> #[]);letGo m.toList.reverse;Builtin.List.listExtendWith (.ref s.heap.objs.size) (.ref d) .none) _ _ _;refine AAO ?_;unfold Builtin.List.listItems;refine AAO (ABM j rfl (AAS ?_));refine AAO (ADx j rfl ?_);have f:=AB8 (Obj.mapSeq (λ_=>(#[] :Array kj))) j rfl;refine AAO (ADC ?_);have h:∀b o,s.heap.get? b=some o->((s.heap.push {cls:= .type "list",data:= .seq #[] }).update s.heap.objs.size (Obj.mapSeq (λ_=>(#[] :Array kj)))).get? b=some o:=λb o e=>by have hb:b≠s.heap.objs.size:=λz=>ABb _ (z ▸ AAU e);exact(ACT _ _ (ABA hb)).trans (AAV _ e)
 refine WT (s:={s with heap:=(s.heap.push {cls:= .type "list",data:= .seq #[] }).update s.heap.objs.size (Obj.mapSeq (λ_=>(#[] :Array kj)))}) (d:=d) (es:=es) (ep:=ep) (A:=A.in1) r s.heap.objs.size .none _ hd (n.at λo e=>h d o e) hn (AAc t) f ?_;intro h' k a l v x y;refine⟨rfl,hQ h' k l (λb o e=>v b o (λz=>ABb _ (z ▸ AAU e)) (h b o e)) ?_⟩;have B:a=es.map (·.key):=by
  obtain⟨h1,h2⟩:=y;refine Array.ext (by simp[h1]) λi hi hj=> ?_;obtain⟨e,p,C⟩:=h2 i _ (by simp[hi] :a[i]? =some a[i]);have D:i<es.size:=by simpa using hj
  rw[AEQ D] at p;cases p;rw[C];simp
 rw[<-B];exact x
end
end PySem
namespace L2
open PySem PySem.Spec PyProof.Rows
section
variable {X:Cx}
def mL (K:AAP):km V->Hp->VK->Prop:=λxs H Q=>∃p a,xs= [.ref p] /\H p=some (.dN K a)/\∀l cs,H l=none->Paired (λ(q:FK×V) (c:kf)=>GU K H c q.1) a cs->Q (.ref l) (upd H l (.lst (cs.map V.ref)))
def Vb {k:Nat}(i:Room k X.A):Cd X (.type "list") (mL X.K):=by
 intro Wf s C H xs D Q I r h;obtain⟨p,c,rfl,hp,q⟩:=h;obtain⟨u,rfl,j⟩:=vals1 r;cases j;obtain⟨z,hd,ys,b,o,es,ep,h1,h2,m,d,n,v⟩:=P7 I.hok I.kIn hp;have hl:ys.length=c.length:=(ACN b).symm;have f:es.size=ys.length:=by rw[<-ABp,d,AAa]
 refine O7 (es:=es) (ep:=ep) i.hd hd ⟨o,h1,h2,m⟩ (by rw[f,hl];exact z) λh' x y B e=> ?_;have g:es.map (·.key)=((ys.map (·.2.1)).map Value.ref).toArray:=by apply Array.ext';rw[Array.toList_map,d];simp[entryOfKey]
 rw[g] at e;have hv:∀l:km kf,A3 (l.map V.ref) (l.map Value.ref):=λl=>by
  induction l with
  | nil=>exact .nil
  | cons a l ih=>exact .cons rfl ih
 refine⟨.ref s.heap.objs.size,_,I.laid (t':=x) B (AAW _) (show CD X.prog X.w _ h' _ (.lst ((ys.map (·.2.1)).map V.ref)) from⟨by simp only[AAa];rw[hl];exact z,_,y,hv _,e⟩),rfl,q _ _ (I.hok.fresh (AAW _)) ?_⟩;clear q e g d v n f hl z hp;induction b with
 | nil=>exact .nil
 | cons h t ih=>exact .cons h.2.1 ih
end
end L2
namespace PL
open PySem PySem.Spec PyProof.Rows L2
def V4 (k:FK):PV:= .tup [.tup [.int k.1.1, .int k.1.2], .int k.2]
def BS (a:km (FK×Int))(k:FK):ke Int:=(a.find? λp=>decide (p.1=k)).map (·.2)
def Ww (a:km (FK×Int))(k:FK):El (CG a) k=(BS a k).map V.int:=by
 induction a with
 | nil=>rfl
 | cons p r ih=>
   by_cases e:p.1=k
   .simp [BS,CG,El,e]
   .simpa [BS,CG,El,e] using ih
section
variable {K:AAP}{T M:kf->Prop}{H:Hp}
def NG {v:V}{t d:Int}(r:Cc K T M H v (.tup [.int t, .int d])):∃b,v= .ref b/\aS K H b t d:=by
 obtain⟨a,vs,rfl,hq,rs⟩:=dz r;cases rs with
 | cons r1 rs=>
 cases rs with
 | cons r2 rs=>
 cases rs;cases r1;cases r2;refine⟨a,rfl, ?_⟩;rcases hq with h|⟨o,c,n,h1,h2,e,_,f⟩
 .exact .inl h
 .exact .inr ⟨o,c,n,h1,h2,e,f⟩
def dS {b:kf}{t d:Int}(h:aS K H b t d):Cc K T M H (.ref b) (.tup [.int t, .int d]):=by
 refine .tup (vs:= [.int t, .int d]) ?_ (.cons (.int _) (.cons (.int _) .nil));rcases h with h|⟨o,a,n,h1,h2,e,c⟩
 .exact .inl h
 .refine .inr ⟨o,a,n,h1,h2,e, ?_,c⟩;have:=c.length;simp only[AAn,ACG,ABp] at this;rw[<-this];exact ABV rfl
def dR {c:kf}{k:FK}(h:GU K H c k):Cc K T M H (.ref c) (V4 k):=by obtain⟨b,h1,h2⟩:=h;exact .tup (.inl h1) (.cons (dS h2) (.cons (.int _) .nil))
end
section
variable {X:Cx}{a b d:kd}{pos p1:Pos}{ta tb td:AE}
def OP (x y:PV)(R:FK->Prop):Prop:=match x,y with | .tup [.int t, .int e], .int s=>R ((t,e),s)|_,_=>False
def UZ {x y:PV}{R:FK->Prop}(h:OP x y R):∃t e s,x= .tup [.int t, .int e] /\y= .int s/\R ((t,e),s):=by
 unfold OP at h;split at h
 .exact ⟨_,_,_,rfl,rfl,h⟩
 .exact h.elim
def nN (m:PV)(R:km (FK×Int)->Prop):Prop:=match m with | .dct kvs=>R kvs|_=>False
def ci {m:PV}{R:km (FK×Int)->Prop}(h:nN m R):∃c,m= .dct c/\R c:=by cases m <;> first | exact⟨_,rfl,h⟩|exact h.elim
def fo (ta tb td:AE):AE:=λτ Q=>ta τ λx=>tb τ λy=>td τ λm=>nN m λc=>OP x y λk=>Q (.bl (BS c k).isSome)
def aT (td ta tb:AE):AE:=λτ Q=>td τ λm=>ta τ λx=>tb τ λy=>nN m λc=>OP x y λk=>match BS c k with | some i=>Q (.int i)|none=>False
def UJ {K:AAP}{B:DG}{T:kf->Prop}{H:Hp}{f:L2.St}{τ:BD}{q:kf}{vs:km V}(c:SR K B T H f τ)(hq:H q=none):De T H T (upd H q (.tup vs))/\¬T q:=by refine⟨De.lay c.tp hq,λz=> ?_⟩;obtain⟨o,e,_⟩:=(c.tp q z).mut;rw[hq] at e;cases e
def im {t1 t2 r:TE}(A:E6 X.K t1 ta)(C:E6 X.K t2 tb)(D:E6 X.K r td):E6 X.K (qt X.K (i7 (K3 t1 (K3 t2 eQ))) r) (fo ta tb td):=by
 intro B T p τ H Q U z h k;refine A B T p τ H _ _ z h λv x E F n r1 h1=> ?_;have f:=z.stp n;refine C B E p τ F _ _ f h1 λw y G W g r2 h2=> ?_;have i:=f.stp g;refine⟨ABV rfl,λq hq=> ?_⟩;obtain⟨j,I⟩:=UJ (vs:= [v,w]) i hq;have o:=i.stp j;refine D B G p τ _ _ _ o h2 λu m J L l M N=> ?_;obtain⟨O,rfl,P⟩:=ci N;obtain⟨t,e,s,rfl,rfl,R⟩:=UZ P;have rv:=((r1.stp g f.va).stp j i.va).stp l o.va;obtain⟨c,rfl,tn⟩:=NG rv;cases r2;cases M with
 | dct S _ _=> refine⟨_,q,_,((t,e),s),rfl,rfl,S,⟨c,l.keep _ _ I Ah,tn⟩, ?_⟩;rw[Ww,ACg];exact k _ _ J L (((n.trans g).trans j).trans l) (.bl _) R
def mo {c:Nat}{k:Nat}(e:Room k X.A)(ha:SE X a ta)(hb:SE X b tb)(hd:SE X d td)(f:behindInMarks .In d=false:=by rfl)(g:starEach (a :: [b]) X.env=(false,eval a X.env)::starEach [b] X.env:=by rfl)(h:starEach [b] X.env=(false,eval b X.env)::starEach [] X.env:=by rfl):RC X (.Compare (.Tuple [a,b] c p1) [.In] [d] pos) (Aj (fo ta tb td)):=by obtain⟨t1,i,j⟩:=ha;obtain⟨t2,l,m⟩:=hb;obtain⟨p,n,o⟩:=hd;exact⟨_,mE (lq (by have:=e.un;omega) (OT (BG i (BG l DJ h) g)) n) f,NF (im j m o)⟩
def ia {D:Nat}{k:Nat}(F:Room k X.A)(hd:SE X d td)(ha:SE X a ta)(hb:SE X b tb)(hs:jx (.Tuple [a,b] D p1))(G:starEach (a :: [b]) X.env=(false,eval a X.env)::starEach [b] X.env:=by rfl)(I:starEach [b] X.env=(false,eval b X.env)::starEach [] X.env:=by rfl):SE X (.Subscript d (.Tuple [a,b] D p1) pos) (aT td ta tb):=by
 obtain⟨t1,J,K⟩:=ha;obtain⟨t2,L,M⟩:=hb;obtain⟨t3,N,O⟩:=hd;refine⟨_,iE (by have:=F.un;omega) N (OT (BG J (BG L DJ I) G)) hs,λB T z τ H Q AQ E h k=> ?_⟩;refine O B T z τ H _ _ E h λu m P R p S U=> ?_;have j:=E.stp p;refine K B P z τ R _ _ j U λv x W Y l r1 h1=> ?_;have f:=j.stp l;refine M B W z τ Y _ _ f h1 λw y Z H2 g r2 h2=> ?_;have n:=f.stp g;refine⟨ABV rfl,λq hq=> ?_⟩;obtain⟨o,nt⟩:=UJ (vs:= [v,w]) n hq;obtain⟨C,rfl,h5⟩:=ci h2;obtain⟨t,e,s,rfl,rfl,r⟩:=UZ h5;have rv:=(r1.stp g f.va).stp o n.va;have r3:=((S.stp l j.va).stp g f.va).stp o n.va;obtain⟨c,rfl,tn⟩:=NG rv;cases r2;cases ev:BS C ((t,e),s) with
 | none=>rw[ev] at r;exact r.elim
 | some i=>
   rw[ev] at r;cases r3 with
   | dct hh _ _=> exact⟨_,q,_,((t,e),s), .int i,rfl,rfl,hh,⟨c,Ah,tn⟩,by rw[Ww,ev];rfl,k _ _ Z _ (((p.trans l).trans g).trans o) (.int _) r⟩
def VU (r:AA):AA:=λτ Q=>r τ λxs=>match xs with | [.dct kvs] =>Q (kvs.map λp=>V4 p.1)|_=>False
def dj {x:Str}{p pos:Pos}{e:kd}{es:km kd}{r:AA}{k:Nat}(w:Room k X.A)(y:Gl X x)(z:X.mg x=none)(hv:bootBuiltins x=some (.type "list"))(ha:SA X (e::es) r)(hn:x≠"__name__" :=by decide)(hdb:(x==("__debug__" :Str))=false:=by decide)(he:starEach (e::es) X.env=(false,eval e X.env)::starEach es X.env:=by rfl)(hpl:(backTo pos (starEach es X.env)).any (·.1)=false:=by rfl):SF X (.Call (.Name x p) (e::es) [] pos) (VU r):=by
 obtain⟨t,C,s⟩:=ha;refine⟨_,IQ (Vb w) y z hv C hn hdb he hpl,λB T m τ H Q G n h k=>s B T m τ H _ _ n h λvs xs o D f r1 h1=> ?_⟩;have g:=n.stp f;split at h1 <;> first | exact h1.elim|skip
 rename_i c;cases r1 with
 | cons r t=>
   cases t;cases r with
   | dct u I J=>
     refine⟨_,_,rfl,u,λl cs hl v=> ?_⟩;have E:A7 X.K o (mt B m τ) D (cs.map V.ref) (c.map λp=>V4 p.1):=by
      clear h1 u;induction c generalizing cs with
      | nil=>cases v;exact .nil
      | cons q r ih=>
        cases v with
        | cons h t=>exact .cons (dR h) (ih _ t)
     obtain⟨F,i,j,r2⟩:=Rb g hl E;exact k l _ _ o _ (f.trans F) i (f.none hl) Ah j r2 h1
end
def PZ (m:km (FK×Int))(k:FK)(v:Int):km (FK×Int):=if (m.any λp=>decide (p.1=k)) then m.map λp=>if p.1=k then (p.1,v) else p else m ++ [(k,v)]
def bump (m:km (FK×Int))(k:FK)(d:Int):km (FK×Int):=PZ m k ((BS m k).getD 0+d)
def dH (m:km (FK×Int))(k:FK)(v:Int):Fg (CG m) k (.int v)=CG (PZ m k v):=by
 unfold Fg PZ;have e:((CG m).any λa=>decide (a.1=k))=(m.any λp=>decide (p.1=k)):=by unfold CG;rw[List.any_map];rfl
 rw[e];split
 .unfold CG;rw[ABi,ABi];apply ABx;intro p _;by_cases h:p.1=k <;> simp[h]
 .simp [CG]
def Kr (m:km (FK×Int))(k:FK)(v:Int):(PZ m k v).length<=m.length+1:=by unfold PZ;split <;> simp
def bI (m:km (FK×Int))(k:FK):(El (CG m) k).getD (.int 0)= .int ((BS m k).getD 0):=by rw[Ww];cases BS m k <;> rfl
def QA:PV->ke (ke (Int×Int))
 | .non=>some none
 | .tup [.int t, .int d] =>some (some (t,d))
 | _=>none
def jV:PV->ke Int
 | .int i=>some i
 | _=>none
def X6:km PV->ke ((Int×Int)×Int×ke (Int×Int))
 | [b,h,e] =>(QA b).bind λo=>o.bind λp=>(jV h).bind λi=>(QA e).map λq=>(p,i,q)
 | _=>none
def X7 (x:PV):ke ((Int×Int)×Int×ke (Int×Int)):=
 match x with
 | .tup xs=>X6 xs
 | .lst xs=>X6 xs
 | _=>none
def Gy (m:km (FK×Int))(b:Int×Int)(h:Int)(e:ke (Int×Int)):km (FK×Int):=
 match e with
 | none=>bump m (b,1-h) 1
 | some e=>bump (bump m (b,1-h) 1) (e,0) (-1)
def Fm:km PV->km (FK×Int)->ke (km (FK×Int))
 | [],m=>some m
 | x::r,m=>match X7 x with | some (b,h,e)=>Fm r (Gy m b h e)|none=>none
def dL:R2:=λx y H Q=>y= .non/\Q (.bl (!decide (x= .non))) H
def Wn (K:AAP):TS:=
 Zm (U2 (i7 (K3 (GJ 2) (K3 (i6 (OW λi j=> .int (i-j)) (tC (.int 1)) (GJ 3)) eQ))) (DR 5))
  (Zm (dZ K (GJ 1) (GJ 5) (i6 (OW λi j=> .int (i+j)) (Wr K (GJ 1) (GJ 5) (tC (.int 0))) (tC (.int 1))))
    (qo (YJ (i6 dL (GJ 4) (tC .non)))
      (Zm (U2 (i7 (K3 (GJ 4) (K3 (tC (.int 0)) eQ))) (DR 6))
        (dZ K (GJ 1) (GJ 6) (i6 (OW λi j=> .int (i-j)) (Wr K (GJ 1) (GJ 6) (tC (.int 0))) (tC (.int 1))))) jm))
def mr (K:AAP):TS:=
 Zm (U2 (jl K) (DR 1)) (Zm (qm (pL K (GJ 0)) (Yo K 3 (FT (DR 2) (FT (DR 3) (FT (DR 4) Tq)))) (Wn K)) (eS (GJ 1)))
section
variable {K:AAP}{T M:kf->Prop}{H H':Hp}
def HN.ext (va:HN T M H)(ex:∀b o,H b=some o->H' b=some o):Mv K T M H T M H':=⟨va,λb o _ _ e=>ex b o e,λ_ t=>t,λ_ _ t=>t,λ_ _ m=>m⟩
def mN {v:V}{x:PV}{b:Int×Int}{h:Int}{e:ke (Int×Int)}(r:Cc K T M H v x)(l:X7 x=some (b,h,e)):∃a m c,v= .ref a/\(KB K H a [m, .int h,c] \/FF K H a [m, .int h,c])/\Cc K T M H m (.tup [.int b.1, .int b.2])/\((e=none/\c= .non)\/∃t d,e=some (t,d)/\Cc K T M H c (.tup [.int t, .int d])):=by
 have f:∀{c:V} {ep:PV},Cc K T M H c ep->QA ep=some e->((e=none/\c= .non)\/∃t d,e=some (t,d)/\Cc K T M H c (.tup [.int t, .int d])):=by
  intro c ep s he;unfold QA at he;split at he
  .cases he;cases s;exact .inl ⟨rfl,rfl⟩
  .cases he;exact .inr ⟨_,_,rfl,s⟩
  .cases he
 have g:∀{xs:km PV},X6 xs=some (b,h,e)->∃ep,xs= [.tup [.int b.1, .int b.2], .int h,ep] /\QA ep=some e:=λ{xs} hx=>by
  unfold X6 at hx;split at hx
  .rename_i bp hp ep;obtain⟨o,j,hx⟩:=ADy.mp hx;obtain⟨p,u,hx⟩:=ADy.mp hx;obtain⟨i,k,hx⟩:=ADy.mp hx;obtain⟨q,w,hx⟩:=ACH.mp hx;cases hx;subst u;unfold QA at j;split at j
   .cases j
   .cases j;unfold jV at k;split at k
    .cases k;exact⟨ep,rfl,w⟩
    .cases k
   .cases j
  .cases hx
 cases x with
 | tup xs=>
   obtain⟨ep,rfl,he⟩:=g l;obtain⟨a,vs,rfl,hq,rs⟩:=Ej r;cases rs with
   | cons r1 rs=>
   cases rs with
   | cons r2 rs=>
   cases rs with
   | cons n rs=> cases rs;cases r2;exact⟨a,_,_,rfl, .inl hq,r1,f n he⟩
 | lst xs=>
   obtain⟨ep,rfl,he⟩:=g l;obtain⟨a,vs,rfl,hq,_,_,rs⟩:=DL r;cases rs with
   | cons r1 rs=>
   cases rs with
   | cons r2 rs=>
   cases rs with
   | cons n rs=> cases rs;cases r2;exact⟨a,_,_,rfl, .inr (.inl (.inl hq)),r1,f n he⟩
 | _=>cases l
def Wq {D:Nf}{p:kf}{O n s u w A:ke V}{f:Hp}{m:km (FK×Int)}{v:V}{b:Int×Int}{h:Int}{e:ke (Int×Int)}{x:PV}(va:HN T M H)(ex:∀b o,H b=some o->f b=some o)(P:H p=none)(hp:f p=some (.dN K (CG m)))(hl:m.length+2<sizeLine)(r:Cc K T M f v x)(S:X7 x=some (b,h,e))(nx:∀n s u w A k,(∀b o,H b=some o->k b=some o)->k p=some (.dN K (CG (Gy m b h e)))->D.nx [O,some (.ref p),n,s,u,w,A] k):Yo K 3 (FT (DR 2) (FT (DR 3) (FT (DR 4) Tq))) v [O,some (.ref p),n,s,u,w,A] f λB k=>Wn K D B k:=by
 obtain⟨a,C,ve,rfl,hq,U,E⟩:=mN r S;refine⟨a,_,rfl,hq,rfl,_,_,rfl,_,_,rfl,_,_,rfl,rfl, ?_⟩;have W:HN T M H:=va;refine⟨C,rfl,_,rfl,_,_,rfl,rfl,ABV rfl,λq Q=> ?_⟩;have g:∀b o,f b=some o->upd f q (.tup [C, .int (1-h)]) b=some o:=λb o e=>by rw[Al (A2 e Q)];exact e
 have F:upd f q (.tup [C, .int (1-h)]) p=some (.dN K (CG m)):=g _ _ hp;have qp:q≠p:=λz=>by subst z;rw[Q] at hp;cases hp
 obtain⟨c,rfl,tn⟩:=NG U;have G:aS K (upd f q (.tup [.ref c, .int (1-h)])) c b.1 b.2:=tn.elim (λz=> .inl (g _ _ z)) .inr;have R:GU K (upd f q (.tup [.ref c, .int (1-h)])) q (b,1-h):=⟨c,Ah,G⟩;refine⟨_,rfl,p,_,rfl,F,_,rfl,q,_,(b,1-h),rfl,F,R,_,_,bI m (b,1-h),rfl,_,rfl,_,rfl,p,q,_,(b,1-h),rfl,rfl,F,R,by rw[CG,AAa];omega, ?_⟩;rw[dH];have Y:CG (PZ m (b,1-h) ((BS m (b,1-h)).getD 0+1))=CG (bump m (b,1-h) 1):=rfl;rw[Y];have hb:∀o,f p=some o->True:=λ_ _=>trivial;have ext2:∀(X:HO) b o,H b=some o->upd (upd f q (.tup [.ref c, .int (1-h)])) p X b=some o:=λX b o e=>by rw[Al (A2 e P)];exact g _ _ (ex _ _ e)
 have bl:(bump m (b,1-h) 1).length<=m.length+1:=Kr _ _ _;rcases E with⟨rfl,rfl⟩|⟨t,d,rfl,E⟩
 .refine ⟨_,rfl,rfl,false,rfl, ?_⟩;exact nx _ _ _ _ _ _ (ext2 _) Ah
 .obtain ⟨c2,rfl,I⟩:=NG E;refine⟨_,rfl,rfl,true,rfl, ?_⟩;refine⟨_,rfl,ABV rfl,λi J=> ?_⟩;have Z:p≠i:=λz=>by subst z;rw[Ah] at J;cases J
  have j:∀(a:kf) o,upd (upd f q (.tup [.ref c, .int (1-h)])) p (.dN K (CG (bump m (b,1-h) 1))) a=some o->upd (upd (upd f q (.tup [.ref c, .int (1-h)])) p (.dN K (CG (bump m (b,1-h) 1)))) i (.tup [.ref c2, .int 0]) a=some o:=λa o e=>by rw[Al (A2 e J)];exact e
  have L:=j p _ Ah;have N:aS K (upd (upd (upd f q (.tup [.ref c, .int (1-h)])) p (.dN K (CG (bump m (b,1-h) 1)))) i (.tup [.ref c2, .int 0])) c2 t d:=I.elim (λz=> .inl (j _ _ (by
   rw[Al (λy=>by subst y;rw[hp] at z;cases z)];exact g _ _ z))) .inr
  have l:GU K (upd (upd (upd f q (.tup [.ref c, .int (1-h)])) p (.dN K (CG (bump m (b,1-h) 1)))) i (.tup [.ref c2, .int 0])) i ((t,d),0):=⟨c2,Ah,N⟩;refine⟨_,rfl,p,_,rfl,L,_,rfl,i,_,((t,d),0),rfl,L,l,_,_,bI _ ((t,d),0),rfl,_,rfl,_,rfl,p,i,_,((t,d),0),rfl,rfl,L,l,by rw[CG,AAa];omega, ?_⟩;rw[dH];refine nx _ _ _ _ _ _ (λa o e=> ?_) Ah;rw[Al (A2 e P)];exact j _ _ (ext2 _ _ _ e)
def MS {m:km (FK×Int)}{b:Int×Int}{h:Int}{e:ke (Int×Int)}:(Gy m b h e).length<=m.length+2:=by
 unfold Gy;cases e with
 | none=>have:=Kr m (b,1-h) ((BS m (b,1-h)).getD 0+1);unfold bump;simp only;omega
 | some e=> have h1:=Kr m (b,1-h) ((BS m (b,1-h)).getD 0+1);have h2:=Kr (bump m (b,1-h) 1) (e,0) ((BS (bump m (b,1-h) 1) (e,0)).getD 0 + -1);unfold bump at *;simp only;omega
theorem X5:∀{vs:km V} {ys:km PV},A7 K T M H vs ys->∀{i:Nat} {x:V},vs[i]? =some x->∃y,ys[i]? =some y/\Cc K T M H x y
 | _,_, .nil,i,x,ev=>by simp at ev
 | _,_, .cons h t,0,x,ev=>by simp at ev;subst ev;exact⟨_,rfl,h⟩
 | _,_, .cons h t,i+1,x,ev=>by simpa using X5 t (i:=i) (by simpa using ev)
def Ou {D:Nf}{J:It}{t:V}{p:kf}{ys:km PV}{a:km (FK×Int)}{u:Hp}(va:HN T M H)(F:H p=none)(go:∀H',(∀b o,H b=some o->H' b=some o)->∃vs,A7 K T M H' vs ys/\(∀i,i<ys.length->J.go i H')/\(∀i,ys.length<=i->J.stop i H')/\∀i x f,J.yld i H' x f->f=H'/\vs[i]? =some x)(G:∀b o,H b=some o->u b=some o)(hp:u p=some (.dN K (CG [])))(hl:2*ys.length+2<sizeLine)(hs:Fm ys [] =some a)(v:∀g j k l n H',(∀b o,H b=some o->H' b=some o)->H' p=some (.dN K (CG a))->D.nx [some t,some (.ref p),g,j,k,l,n] H'):∃W:Nat->Nat->L2.St->Hp->Prop,(∃m,W 0 m [some t,some (.ref p),none,none,none,none,none] u)/\∀i m r H,W i m r H-> (J.stop i H/\D.nx r H)\/(J.go i H/\∃N:L2.St->Hp->Prop,(∀c H',N c H'->∃B,B<m/\W (i+1) B c H')/\∀x H',J.yld i H x H'->Yo K 3 (FT (DR 2) (FT (DR 3) (FT (DR 4) Tq))) x r H' λw f=>Wn K {D with nx:=N,ct:=N,bk:=D.nx} w f):=by
 let W:Nat->Nat->L2.St->Hp->Prop:=λi m r H'=>i+m=ys.length/\∃g j k l n s,r= [some t,some (.ref p),g,j,k,l,n] /\(∀b o,H b=some o->H' b=some o)/\H' p=some (.dN K (CG s))/\Fm (ys.drop i) s=some a/\s.length<=2*i;refine⟨W,⟨ys.length,Nat.zero_add _,_,_,_,_,_, [],rfl,G,hp,hs,AA3 _⟩, ?_⟩;rintro i m r H' ⟨hi,g,j,k,l,n,s,rfl,ex,C,d,I⟩;obtain⟨vs,rs,L,O,P⟩:=go H' ex;cases m with
 | zero=> left;refine⟨O i (by omega),v _ _ _ _ _ _ ex ?_⟩;rw[ACX (by omega)] at d;cases d;exact C
 | succ m=>
   right;refine⟨L i (by omega),λc H'=>W (i+1) m c H',λc H' h=>⟨m,by omega,h⟩,λx f Q=> ?_⟩;obtain⟨rfl,ev⟩:=P i x f Q;have hy:ys[i]? =some ys[i] :=AAm (by omega);obtain⟨y,E,R⟩:=X5 rs ev;rw[ACA (by omega:i<ys.length)] at d;have z:ys[i] =y:=by rw[hy] at E;exact AAk E
   rw[z] at d;unfold Fm at d;split at d
   .rename_i b h e S;refine Wq (H:=H) (m:=s) (b:=b) (h:=h) (e:=e) (x:=y) va ex F C (by omega) R S λg j k l n X A U=>⟨by omega,g,j,k,l,n,_,rfl,A,U,d, ?_⟩
    .have:=MS (m:=s) (b:=b) (h:=h) (e:=e);omega
   .cases d
def Wo {D:Nf}{l:V}{x:PV}{ys:km PV}{f:km (FK×Int)}(va:HN T M H)(r:Cc K T M H l x)(hx:x= .tup ys\/x= .lst ys)(hl:2*ys.length+2<sizeLine)(hs:Fm ys [] =some f)(m:∀p H',(∀b o,H b=some o->H' b=some o)->H p=none->H' p=some (.dN K (CG f))->D.rt (.ref p) H'):mr K D [some l,none,none,none,none,none,none] H:=by
 intro p hp;have k:∀b o,H b=some o->upd H p (.dN K []) b=some o:=λb o e=>by rw[Al (A2 e hp)];exact e
 have last:∀n s t u v H',(∀b o,H b=some o->H' b=some o)->H' p=some (.dN K (CG f))->(eS (GJ 1)) D [some l,some (.ref p),n,s,t,u,v] H':=λn s t u v H' ex h=>⟨_,rfl,m p H' ex hp h⟩;rcases hx with rfl|rfl
 .obtain ⟨a,vs,rfl,hq,rs⟩:=Ej (r.mv (va.ext k));refine⟨_,rfl,a,rfl, .inr ⟨⟨vs,hq⟩, ?_⟩⟩;refine Ou (D:={D with nx:=(eS (GJ 1)) D}) va hp (λH' ex=> ?_) k Ah hl hs last;obtain⟨w,c,e,g,d⟩:=Ej (r.mv (va.ext ex));cases e;refine⟨c,d,λi hi=>⟨c,c[i]'(by rw[d.length];exact hi),g,AAm _⟩,λi hi=>⟨c,g,by rw[d.length];exact hi⟩,λi x y j=>⟨j.1,j.2 c g⟩⟩
 .obtain ⟨a,vs,rfl,hq,_,_,rs⟩:=DL (r.mv (va.ext k));refine⟨_,rfl,a,rfl, .inl ⟨⟨vs, .inl (.inl hq)⟩, ?_⟩⟩;refine Ou (D:={D with nx:=(eS (GJ 1)) D}) va hp (λH' ex=> ?_) k Ah hl hs last;obtain⟨w,c,e,g,_,_,d⟩:=DL (r.mv (va.ext ex));cases e;refine⟨c,d,λi hi=>⟨c,c[i]'(by rw[d.length];exact hi), .inl (.inl g),AAm _⟩,λi hi=>⟨c, .inl (.inl g),by rw[d.length];exact hi⟩,λi x y j=>⟨j.1,j.2 c (.inl (.inl g))⟩⟩
end
def IJ:AF:=λxs Q=>match xs with | [x] =>Ua x λys=>2*ys.length+2<sizeLine/\∃m,Fm ys [] =some m/\Q (.dct m)|_=>False
def VP {xs:km PV}{Q:PV->Prop}(h:IJ xs Q):∃x ys m,xs= [x] /\(x= .tup ys\/x= .lst ys)/\2*ys.length+2<sizeLine/\Fm ys [] =some m/\Q (.dct m):=by
 unfold IJ at h;split at h
 .obtain ⟨ys,hx,hz,m,a,q⟩:=JT h;exact⟨_,ys,m,rfl,hx,hz,a,q⟩
 .exact h.elim
section
variable {K:AAP}{T M:kf->Prop}{H H':Hp}
def iW {k:Nat}{A:da}(a:Room k A):A.units+2<cLine:=by have:=a.un;omega
def iw (va:HN T M H)(ex:∀b o,H b=some o->H' b=some o):De T H T H' where
 keep:=λb u _ e=>ex b u e
 sub:=λ_ t=>t
 new:=λ_ t=> .inl t
 tp:=λa t=>let ⟨d,x,e,q⟩:=va.tp a t;⟨d,x,ex _ _ e,q⟩
def iU {p:kf}{m:km (FK×Int)}(va:HN T M H)(a:H p=none)(hp:H' p=some (.dN K (CG m))):Cc K T M H' (.ref p) (.dct m):=by
 refine .dct hp (λz=> ?_) (λz=> ?_)
 .obtain ⟨o,e,_⟩:=(va.tp p z).mut;rw[a] at e;cases e
 .obtain ⟨o,e,_⟩:=va.mu p z;rw[a] at e;cases e
end
end PL
namespace L2
open PySem PySem.Spec PyProof.Rows
section
variable {elt tg iter tg2 iter2:kd}{ifs ifs2:km kd}{scope:Scope}{pos:Pos}{it acc:kj}{env:Env}
def Zq:compTurn (.ListComp elt [⟨tg,iter,ifs,0⟩,⟨tg2,iter2,ifs2,0⟩] scope pos) 0 it acc env=(do
 standAt iter.pos
 match <-pyNext it with
 | none=>pure (.done .next)
 | some v=>
   letOwnedTupleGo tg it v
   assign tg env v
   let mut ok:=true
   for c in ifs do
    if ok then ok <-isTrue c env (eval c env)
   if ok then
    let x <-eval iter2 env
    standAt iter2.pos
    let x <-foldedSetIterable iter2 env x;let _ <-runOwn (.compStart (.ListComp elt [⟨tg,iter,ifs,0⟩,⟨tg2,iter2,ifs2,0⟩] scope pos) 1 (<-holding [x] (pyIter x)) acc env) env
   again (.compLoop (.ListComp elt [⟨tg,iter,ifs,0⟩,⟨tg2,iter2,ifs2,0⟩] scope pos) 0 it acc env)):=by rfl
def Zr:compTurn (.ListComp elt [⟨tg,iter,ifs,0⟩,⟨tg2,iter2,ifs2,0⟩] scope pos) 1 it acc env=(do
 standAt iter2.pos
 match <-pyNext it with
 | none=>pure (.done .next)
 | some v=>
   letOwnedTupleGo tg2 it v
   assign tg2 env v
   let mut ok:=true
   for c in ifs2 do
    if ok then ok <-isTrue c env (eval c env)
   if ok then
    (do let _ <-call (.builtin "list.append") [acc,<-eval elt env])
   again (.compLoop (.ListComp elt [⟨tg,iter,ifs,0⟩,⟨tg2,iter2,ifs2,0⟩] scope pos) 1 it acc env)):=by rfl
variable {prog:gn}{w:fm}{A:da}{R:Result->ki->Prop}{s:ki}
def Wk (c:codeAny (model prog w) A (.compLoop (.ListComp elt [⟨tg,iter,ifs,0⟩,⟨tg2,iter2,ifs2,0⟩] scope pos) 1 it acc env) R s)(h:wpAny (model prog w) A (pyIter it) (λa b=>codeAny (model prog w) A (.compLoop (.ListComp elt [⟨tg,iter,ifs,0⟩,⟨tg2,iter2,ifs2,0⟩] scope pos) 1 a acc env) R b) (notedBy (model prog w) A env λx b=>R (.error x) b) s):codeAny (model prog w) A (.compStart (.ListComp elt [⟨tg,iter,ifs,0⟩,⟨tg2,iter2,ifs2,0⟩] scope pos) 1 it acc env) R s:=by
 refine codeAny_of_tree ?_;show wpAny _ _ ((compStart (.ListComp elt [⟨tg,iter,ifs,0⟩,⟨tg2,iter2,ifs2,0⟩] scope pos) 1 it acc env).onRaise (λx=>do noteFrame x env;standAt theWindowsPlace)) _ _ s;refine wpAny_notedAt ?_;unfold compStart;show wpAny _ _ (ask >>= _) _ _ s;refine AAO (wpAny_askSetting (wpAny_ite ?_));split
 .first
   | exact AAO (AAS (AAS (And.intro rfl c)))
   | exact AAS (And.intro rfl c)
 .first
   | exact AAO (ABP (AAO (ABS (AAO (ABD h (λa b h'=>AAS (And.intro rfl h')) λ_ _ x=>x)))))
   | (refine AAO (ABP ?_);show wpAny _ _ (standAt iter2.pos >>= _) _ _ s;exact AAO (ABS (AAO (ABD h (λa b h'=>AAS (And.intro rfl h')) λ_ _ x=>x))))
end
def Mi (own:Nat)(a:St):St:=List.replicate own none++a.drop own
def LV {own:Nat}{a:St}{j:Nat}{v:V}(h:(Mi own a)[j]? =some (some v)):own<=j/\a[j]? =some (some v):=by
 unfold Mi at h;by_cases hj:j<own
 .rw [AAz (by simpa using hj),ABg,AAR hj] at h;cases h
 .have Zx:own<=j:=by omega
  rw[ABH (by simpa using Zx),ABc,ACf] at h;rw[show own+(j-own)=j by omega] at h;exact⟨Zx,h⟩
def Tl {own:Nat}{a:St}(h:own<=a.length):(Mi own a).length=a.length:=by simp[Mi];omega
def RH (J:It)(D:kf)(c:St)(g:TG)(k:TT)(d:TI)(own2:Nat)(l:TG)(e:TT)(te:TE)(Q:Hp->Prop)(W:Nat->Nat->Hp->Prop):Prop:=
 ∀i m H,W i m H->(J.stop i H/\Q H)\/(J.go i H/\∀x f,J.yld i H x f->g x c f λa n=>k a n λok h=>
  if ok=true then d a h λo p=>∃j:Nat->Nat->Hp->Prop,(∃m2,j 0 m2 p)/\Nr o D (Mi own2 a) l e te (λr=>∃b,b<m/\W (i+1) b r) j else ∃b,b<m/\W (i+1) b h)
def eO (e:TI)(own:Nat)(ix:km Nat)(g:TG)(f:TT)(a:TI)(own2:Nat)(h:TG)(b:TT)(te:TE):TE:=λc H Q=>e c H λJ d=>∀D,d D=none->
 ∃W:Nat->Nat->Hp->Prop,(∃m,W 0 m (upd d D (.lst [])))/\RH J D (C0 own ix c) g f a own2 h b te (Q (.ref D)) W
section
variable {X:Cx}{tg elt iter tg2 iter2:kd}{ifs ifs2:km kd}{scope:Scope}{pos:Pos}{wi wi2:TI}{own own2:Nat}{ix:km Nat}{N:km Str}{g g2:TG}{tt tt2:TT}{te:TE}
structure My (X:Cx) (tg elt:Expr) (ifs:List Expr) (tg2 iter2:Expr) (ifs2:List Expr) (scope:Scope) (own:Nat) (ix:List Nat) (N:List Str) (g:TG) (tt:TT) (wi2:TI) (own2:Nat) (g2:TG) (tt2:TT) (te:TE):Prop where
 kind:scope.kind= .function
 nocell:∀y∈scope.names,y.2≠ .cell
 names:∀y∈scope.names,y.2= .local->scope.names.lookup y.1=some .local
 frees:∀y∈scope.names,y.2= .free->X.env.scope.names.lookup y.1=some .cell
 ins:TZ X (relabel scope X.env) own ix N
 keep:Hd own g
 keep2:Hd own2 g2
 le2:own2<=own
 tgt:∀cl C s H ex pn,PG (blk X (relabel scope X.env) N cl C s H ex pn) tg g
 tst:∀cl C s H ex pn,YY (blk X (relabel scope X.env) N cl C s H ex pn) ifs tt
 itr2:∀cl C s H ex pn,PI (blk X (relabel scope X.env) N cl C s H ex pn) tg2 iter2 wi2
 set2:∀cl C s H ex pn x,foldedSetIterable iter2 (blk X (relabel scope X.env) N cl C s H ex pn).env x=pure x
 tgt2:∀cl C s H ex pn,PG (blk X (relabel scope X.env) N cl C s H ex pn) tg2 g2
 tst2:∀cl C s H ex pn,YY (blk X (relabel scope X.env) N cl C s H ex pn) ifs2 tt2
 val:∀cl C s H ex pn,PE (blk X (relabel scope X.env) N cl C s H ex pn) elt te
def gC {Y:Cx}{c0:Comprehension}{Wf:km (kf×Obj)}{f:St}{p:km kf}{it:kf}{tn:Nat->fe->Prop}{J:It}{D:kf}{R:Result->ki->Prop}{Qh:Hp->Prop}{W:Nat->Nat->Hp->Prop}(zW:∀it B,compTurn (.ListComp elt [c0,⟨tg2,iter2,ifs2,0⟩] scope pos) 1 it B Y.env=(do
   standAt iter2.pos
   match <-pyNext it with
   | none=>pure (.done .next)
   | some v=>
     letOwnedTupleGo tg2 it v
     assign tg2 Y.env v
     let mut ok:=true
     for c in ifs2 do
      if ok then ok <-isTrue c Y.env (eval c Y.env)
     if ok then
      (do let _ <-call (.builtin "list.append") [B,<-eval elt Y.env])
     again (.compLoop (.ListComp elt [c0,⟨tg2,iter2,ifs2,0⟩] scope pos) 1 it B Y.env)))(eX:Y.xe=λ_ _=>False)(eC:Y.calm=true)(hg:PG Y tg2 g2)(hk:Hd own2 g2)(ht:YY Y ifs2 tt2)(hv:PE Y elt te)(T:Nm Y.prog Y.w Y.K tg2 J p it tn)(yj:∀j v,f[j]? =some (some v)->own2<=j)(k:∀{a:Hp},(∀b∈p,a b=none)->∀b∈p,F6 Y Wf a b)(hW:Nr J D f g2 tt2 te Qh W)(hR:∀a I,Inv Y Wf f a I->Qh a->R (.ok .next) I)(n:Nat)(Z:ki)(h0:∃i a,Inv Y Wf f a Z/\tn i Z.heap/\(∀b∈p,a b=none)/\W i n a):
 codeAny (model Y.prog Y.w) Y.A (.compLoop (.ListComp elt [c0,⟨tg2,iter2,ifs2,0⟩] scope pos) 1 (.ref it) (.ref D) Y.env) R Z:=by
 refine codeAny_loop rfl (λn I=>∃i a,Inv Y Wf f a I/\tn i I.heap/\(∀b∈p,a b=none)/\W i n a) (λn s1 h1=> ?_) n h0;obtain⟨i,H1,B1,L,M,w1⟩:=h1;show wpAny _ _ ((compTurn (.ListComp elt [c0,⟨tg2,iter2,ifs2,0⟩] scope pos) 1 (.ref it) (.ref D) Y.env).onRaise (λx=>do noteFrame x Y.env;theTreesLotGoes x)) _ _ s1;refine wpAny_noted ?_;rw[zW];have U:∀{α:Type} {t:Sem α} {Q:α->ki->Prop} {E:kj->ki->Prop} {s:ki},wpAny (model Y.prog Y.w) Y.A t Q Y.xe s->wpAny (model Y.prog Y.w) Y.A t Q E s:=λh=>ABD h (λ_ _ q=>q) λ_ _ z=>by rw[eX] at z;exact z.elim
 refine AAO (ABS (AAO ?_));rcases hW i n H1 w1 with⟨stop,qn⟩|⟨go,step⟩
 .refine Bf (T.done Y rfl rfl rfl eC i Wf s1 _ H1 _ B1 (k M) L stop) λr s4 ⟨hr,I4⟩=> ?_;subst hr;exact AAS (hR _ _ I4 qn)
 .refine Bf (T.item Y rfl rfl rfl eC i Wf s1 _ H1 _ B1 (k M) L go) λr s4 ⟨u,hr,h4⟩=> ?_;subst hr;refine AAO (Bf h4 λ_ s5 ⟨x,H5,I5,r5,y5,C,fr5⟩=> ?_);have I5':=I5.pinned (k fr5) (T.obj _ _ C);refine AAO (Bf (U (hg _ s5 _ H5 x u _ I5' r5 (hk _ _ _ _ (step x H5 y5)))) λ_ s6 ⟨l,H6,I6,q6,l6,k6⟩=> ?_);refine AAO (Bf (U (ht _ s6 l H6 _ I6 q6)) λok s7 ⟨H7,I7,q7⟩=> ?_);have back:∀{F:Hp} {G:ki} {H:Nat},Inv Y (Wf++Gg p s5.heap) l F G->H<n->W (i+1) H F->
   ∃m,m<n/\∃i a,Inv Y Wf f a G/\tn i G.heap/\(∀b∈p,a b=none)/\W i m a:=λ{F G H} O P S=>by
   refine⟨H,P,i+1,F,O.unpinned.weak l6.symm (λj v hj=> ?_),T.keep _ _ _ C λb hb o e=>(O.pin (b,o) (AAv _ (AAv _ (C3 hb e)))).1,λb hb=> ?_,S⟩
   .rw [k6 j (yj j v hj)];exact hj
   .obtain ⟨o,e,d⟩:=T.obj _ _ C b hb;exact(O.pin (b,o) (AAv _ (AAv _ (C3 hb e)))).2.1
  cases ok with
  | false=> obtain⟨H,P,S⟩:=q7;exact AAS ⟨rfl,back I7 P S⟩
  | true=> refine AAO (AAO (Bf (U (hv _ s7 l H7 _ I7 q7)) λyv G ⟨y,F,O,r8,ys,hD,hz,H,P,S⟩=> ?_));refine AAO (Bf (U (Lj _ G l F (.ref D) [y] (.ref D) [yv] (λ_ H9=>H9=upd F D (.lst (ys ++ [y]))) O rfl (.cons r8 .nil) ⟨D,ys,y,rfl,rfl,hD,hz,rfl⟩)) λ_ s9 ⟨_,H9,I9,_,e9⟩=> ?_);subst e9;exact AAS (AAS ⟨rfl,back I9 P S⟩)
def Vh {Wf:km (kf×Obj)}{L:St}{H:Hp}{s:ki}{l:km kf}{cl:km (Str×kf)}{it:kf}{tn:Nat->fe->Prop}{J:It}{D:kf}{R:Result->ki->Prop}{Qh:Hp->Prop}{W:Nat->Nat->Hp->Prop}(hc:X.calm=true)(O:My X tg elt ifs tg2 iter2 ifs2 scope own ix N g tt wi2 own2 g2 tt2 te)(T:Nm X.prog X.w X.K tg J l it tn)(I:Inv X Wf L H s)(hf:∀b∈l,F6 X Wf H b)(Fn:∀b∈l,b<s.heap.objs.size)(hW:RH J D (C0 own ix L) g tt wi2 own2 g2 tt2 te Qh W)(hR:∀σ' a y,Inv (blk X (relabel scope X.env) N cl s.heap.objs.size s H l (X.pn++Wf)) [] σ' a y->Qh a->R (.ok .next) y)(n:Nat)(s0:ki)(h0:∃i a,Inv (blk X (relabel scope X.env) N cl s.heap.objs.size s H l (X.pn++Wf)) [] (C0 own ix L) a s0/\tn i s0.heap/\(∀b∈l,a b=none)/\W i n a):codeAny (model X.prog X.w) X.A (.compLoop (.ListComp elt [⟨tg,iter,ifs,0⟩,⟨tg2,iter2,ifs2,0⟩] scope pos) 0 (.ref it) (.ref D) (JI X.env (relabel scope X.env) cl s.heap.objs.size)) R s0:=by
 refine codeAny_loop rfl (λn y=>∃i a,Inv (blk X (relabel scope X.env) N cl s.heap.objs.size s H l (X.pn++Wf)) [] (C0 own ix L) a y/\tn i y.heap/\(∀b∈l,a b=none)/\W i n a) (λn s1 h1=> ?_) n h0;obtain⟨i,H1,B1,S,U,w1⟩:=h1;have G:own2<=(C0 own ix L).length:=by rw[Pz];exact AAl O.le2 (Nat.le_add_right _ _)
 generalize k:blk X (relabel scope X.env) N cl s.heap.objs.size s H l (X.pn++Wf)=Y at *;have eA:Y.A=X.A:=by rw[<-k];rfl
 have Z:Y.prog=X.prog:=by rw[<-k];rfl
 have eW:Y.w=X.w:=by rw[<-k];rfl
 have eK:Y.K=X.K:=by rw[<-k];rfl
 have eE:JI X.env (relabel scope X.env) cl s.heap.objs.size=Y.env:=by rw[<-k];rfl
 have eX:Y.xe=λ_ _=>False:=by rw[<-k];rfl
 have eC:Y.calm=true:=by rw[<-k];exact hc
 have hg:PG Y tg g:=by rw[<-k];exact O.tgt _ _ _ _ _ _
 have ht:YY Y ifs tt:=by rw[<-k];exact O.tst _ _ _ _ _ _
 have tU:PI Y tg2 iter2 wi2:=by rw[<-k];exact O.itr2 _ _ _ _ _ _
 have Y0:∀x,foldedSetIterable iter2 Y.env x=pure x:=by rw[<-k];exact O.set2 _ _ _ _ _ _
 have o6:PG Y tg2 g2:=by rw[<-k];exact O.tgt2 _ _ _ _ _ _
 have uA:YY Y ifs2 tt2:=by rw[<-k];exact O.tst2 _ _ _ _ _ _
 have hv:PE Y elt te:=by rw[<-k];exact O.val _ _ _ _ _ _
 have B:∀{a:Hp},(∀b∈l,a b=none)->∀b∈l,F6 Y [] a b:=λ{a} hn b hb=>by
  obtain⟨_,a1,a2,a3,a4,a5⟩:=hf b hb;refine⟨hn b hb, ?_, ?_, ?_, ?_, ?_⟩
  .rw [<-k];exact AAc (Fn b hb)
  .rw [<-k];exact I.notStk a1 a2
  .rw [<-k];exact .inl hb
  .intro x c e;exact(B1.ok.exf b (by rw[<-k];exact hb)).2 x c e
  .intro p hp;have:p∈X.pn++Wf:=by rw[<-k] at hp;simpa[blk] using hp
   exact a5 p this
 rw[eE,<-eA,<-Z,<-eW];show wpAny _ _ ((compTurn (.ListComp elt [⟨tg,iter,ifs,0⟩,⟨tg2,iter2,ifs2,0⟩] scope pos) 0 (.ref it) (.ref D) Y.env).onRaise (λx=>do noteFrame x Y.env;theTreesLotGoes x)) _ _ s1;refine wpAny_noted ?_;rw[Zq];have ff:∀{α:Type} {t:Sem α} {Q:α->ki->Prop} {E:kj->ki->Prop} {s:ki},wpAny (model Y.prog Y.w) Y.A t Q Y.xe s->wpAny (model Y.prog Y.w) Y.A t Q E s:=λh=>ABD h (λ_ _ q=>q) λ_ _ z=>by rw[eX] at z;exact z.elim
 refine AAO (ABS (AAO ?_));rcases hW i n H1 w1 with⟨stop,qn⟩|⟨go,step⟩
 .have zd:=λE=>T.done Y Z eW eK eC i [] s1 _ H1 E B1 (B U) S stop;rw[<-Z,<-eW] at zd;refine Bf (zd _) λr s4 ⟨hr,I4⟩=> ?_;subst hr;exact AAS (hR _ _ _ I4 qn)
 .have zi:=λE=>T.item Y Z eW eK eC i [] s1 _ H1 E B1 (B U) S go;rw[<-Z,<-eW] at zi;refine Bf (zi _) λr s4 ⟨u,hr,h4⟩=> ?_;subst hr;refine AAO (Bf h4 λ_ s5 ⟨x,H5,I5,r5,y5,M,fr5⟩=> ?_);have I5':=I5.pinned (B fr5) (T.obj _ _ M);refine AAO (Bf (ff (hg _ s5 _ H5 x u _ I5' r5 (O.keep _ _ _ _ (step x H5 y5)))) λ_ s6 ⟨C,H6,I6,q6,l6,k6⟩=> ?_);refine AAO (Bf (ff (ht _ s6 C H6 _ I6 q6)) λok s7 ⟨H7,I7,q7⟩=> ?_);have back:∀{F:St} {H8:Hp} {s8:ki} {P:Nat},Inv Y ([] ++ Gg l s5.heap) F H8 s8->F.length=C.length->(∀j v,own<=j->C[j]? =some (some v)->F[j]? =some (some v))->P<n->W (i+1) P H8->
   ∃m,m<n/\∃i a,Inv Y [] (C0 own ix L) a s8/\tn i s8.heap/\(∀b∈l,a b=none)/\W i m a:=λ{F H8 s8 P} I8 hl zU hm w8=>by
   refine⟨P,hm,i+1,H8,I8.unpinned.weak (hl.trans l6).symm (λj v hj=> ?_),T.keep _ _ _ M λb hb o e=>(I8.pin (b,o) (AAv _ (AAv _ (C3 hb e)))).1,λb hb=> ?_,w8⟩
   .have wR:=(JJ hj).1;exact zU j v wR (by rw[k6 j wR];exact hj)
   .obtain ⟨o,e,d⟩:=T.obj _ _ M b hb;exact(I8.pin (b,o) (AAv _ (AAv _ (C3 hb e)))).2.1
  cases ok with
  | false=> obtain⟨P,hm,w8⟩:=q7;exact AAS ⟨rfl,back I7 rfl (λ_ _ _ z=>z) hm w8⟩
  | true=>
    rw[AAR rfl] at q7;refine AAO (Bf (ff (tU _ s7 C H7 _ I7 q7)) λv2 s8 kq=> ?_);refine AAO (ABS (AAO (wpAny_of_eq (Y0 v2) (AAO (AA8 (Bf (ff kq) λitv s9 zY=> ?_))))));obtain⟨it2,fp2,tn2,J2,H9,rfl,I9,T2,st9,f9,W2,⟨m2,w2⟩,yr⟩:=zY;have I9':Inv Y ([] ++ Gg l s5.heap) (Mi own2 C) H9 s9:=I9.weak (Tl (by rw[l6];exact G)) (λj v hj=>(LV hj).2);have loop:codeAny (model Y.prog Y.w) Y.A (.compLoop (.ListComp elt [⟨tg,iter,ifs,0⟩,⟨tg2,iter2,ifs2,0⟩] scope pos) 1 (.ref it2) (.ref D) Y.env) (λr y=>match r with | .ok f=>∃m,m<n/\∃i a,Inv Y [] (C0 own ix L) a y/\tn i y.heap/\(∀b∈l,a b=none)/\W i m a | .error e=>cameBackBy (model Y.prog Y.w) Y.A Y.env (notedBy (model Y.prog Y.w) Y.A Y.env λx y=>R (.error x) y) e y) s9:=by refine gC (own2:=own2) (Wf:= [] ++ Gg l s5.heap) (λ_ _=>Zr) eX eC o6 O.keep2 uA hv T2 (λj v hj=>(LV hj).1) (λhn b hb=>⟨hn b hb,(f9 b hb).2⟩) yr (λa y I' q'=> ?_) m2 s9 ⟨0,H9,I9',st9,λb hb=>(f9 b hb).1,w2⟩;obtain⟨P,hm,w8⟩:=q';refine back I' (Tl (by rw[l6];exact G)) (λj v hj e=> ?_) hm w8;have yn:own2<=j:=AAl O.le2 hj;unfold Mi;rw[ABH (by simpa using yn),ABc,ACf,show own2+(j-own2)=j by omega];exact e
    refine AAO (wpAny_runOwn (h:=none) (Wk ?_ ?_))
    .exact ACQ loop (λr y h'=>by
      cases r with
      | ok f=>exact AAS ⟨rfl,h'⟩
      | error e=>exact h')
    .exact T2.self _ 0 _ _ _ st9 (ACQ loop (λr y h'=>by
      cases r with
      | ok f=>exact AAS ⟨rfl,h'⟩
      | error e=>exact h'))
def Ym {Wf:km (kf×Obj)}{u:St}{H:Hp}{s:ki}{use:ke (kj->Sem Unit)}{Q:kj->ki->Prop}{it:kf}{j:km kf}{cl:km (Str×kf)}{tn:Nat->fe->Prop}{J:It}{Qd:kf->Hp->Prop}(hc:X.calm=true)(O:My X tg elt ifs tg2 iter2 ifs2 scope own ix N g tt wi2 own2 g2 tt2 te)(T:Nm X.prog X.w X.K tg J j it tn)(I:Inv X Wf u H s)(M:∀b∈j,F6 X Wf H b)(st:tn 0 s.heap)(h1:∀y c,cl.lookup y=some c->X.env.cells.lookup y=some c)(h2:∀y,(y,NameKind.free)∈scope.names->∃c,cl.lookup y=some c)(hq:∀D,H D=none->∃W:Nat->Nat->Hp->Prop,(∃m,W 0 m (upd H D (.lst [])))/\RH J D (C0 own ix u) g tt wi2 own2 g2 tt2 te (Qd D) W)(P:∀D C i k,(∃m,k.heap.Ns C m)->Inv X Wf u i k->(∀f v,Inv X Wf f i v->∀h',Heap.SameBut C v.heap h'->Inv X Wf f i {v with heap:=h'})->C≠X.env.locals->(∀x c,X.env.cells.lookup x=some c->C≠c)->Qd D i-> compPost (model X.prog X.w) X.A X.xe use Q (.ref D) C (.ok .next) k):wpAny (model X.prog X.w) X.A (newList []) (λl n=>wpAny (model X.prog X.w) X.A (newFunctionEnv scope X.env.globals cl [] X.env.qual none .none (some X.env)) (λd p=> codeAny (model X.prog X.w) X.A (.compStart (.ListComp elt [⟨tg,iter,ifs,0⟩,⟨tg2,iter2,ifs2,0⟩] scope pos) 0 (.ref it) l {d with scope:=relabel scope X.env}) (compPost (model X.prog X.w) X.A X.xe use Q l d.locals) p) X.xe n) X.xe s:=by
 refine ABG ?_ (by simp[sizeOk]);have h:Inv X Wf u (upd H s.heap.objs.size (.lst [])) {s with heap:=s.heap.push {cls:= .type "list",data:= .seq ([] :km kj).toArray}}:=I.lnew (t':=s.toks) .nil (AA3 _);have R:=I.fresh;obtain⟨W,⟨m0,S⟩,hW⟩:=hq _ R;have U:∀b∈j,b<s.heap.objs.size:=λb hb=>by obtain⟨o,e,_⟩:=T.obj _ _ st b hb;exact AAU e
 have E:∀b∈j,F6 X Wf (upd H s.heap.objs.size (.lst [])) b:=λb hb=>by obtain⟨Y,Z⟩:=M b hb;exact⟨by rw[Al (AAc (U b hb))];exact Y,Z⟩
 generalize t8:({s with heap:=s.heap.push {cls:= .type "list",data:= .seq ([] :km kj).toArray}}:ki)=s3 at h;have r:tn 0 s3.heap:=T.keep _ _ _ st λb hb o e=>by rw[<-t8];exact AAV _ e
 have F:∀b∈j,b<s3.heap.objs.size:=λb hb=>by obtain⟨o,e,_⟩:=T.obj _ _ r b hb;exact AAU e
 refine wpAny_newFunctionEnv O.nocell (by intro y hy;simp at hy) (λa nL t9=> ?_) O.kind;have L:∀b o,s3.heap.get? b=some o->a.get? b=some o:=λb o e=>t9.extBut b o (AAc (AAU e)) (AAV _ e);have tT:∀y,((relabel scope X.env).names.lookup y=some .cell\/(relabel scope X.env).names.lookup y=some .free)->∃c,cl.lookup y=some c:=λy hy=>by
  rcases hy with z|z
  .exact h2 y (FY O.nocell (Le z) (.inl rfl))
  .exact h2 y (FY O.nocell (Le z) (.inr rfl))
 have B:=aW (N:=N) (t':=s3.toks+([] :km (Str×kj)).length) h E F (sc:=relabel scope X.env) O.kind h1 tT O.ins nL L;have t:tn 0 a:=T.keep _ _ _ r λb hb o e=>L b o e;have loop:∀G:ki,G={s3 with heap:=a,toks:=s3.toks+([] :km (Str×kj)).length}->
  codeAny (model X.prog X.w) X.A (.compLoop (.ListComp elt [⟨tg,iter,ifs,0⟩,⟨tg2,iter2,ifs2,0⟩] scope pos) 0 (.ref it) (.ref s.heap.objs.size) (JI X.env (relabel scope X.env) cl s3.heap.objs.size)) (compPost (model X.prog X.w) X.A X.xe use Q (.ref s.heap.objs.size) s3.heap.objs.size) G:=by rintro G rfl;refine Vh (cl:=cl) (Qh:=Qd s.heap.objs.size) hc O T h E F hW (λσ' i k B' q'=> ?_) m0 _ ⟨0,_,B,t,λb hb=>(E b hb).1,S⟩;refine P _ _ i k (let ⟨m,hm,_⟩:=B'.loc;⟨m,hm⟩) (XD (own:=own) (ix:=ix) h E F B') (λf v I2 h' hs=>Tg h rfl I2 B'.free hs) (ABT h.lt) (λx c e=>ABT (h.szLt e)) q'
 exact codeAny_compStart_list (loop _ rfl) (T.self _ 0 _ _ _ t (loop _ rfl))
def c5 (hc:X.calm=true)(hi:PI X tg iter wi)(O:My X tg elt ifs tg2 iter2 ifs2 scope own ix N g tt wi2 own2 g2 tt2 te)(hs:∀x,foldedSetIterable iter X.env x=pure x:=by intro _;rfl):PE X (.ListComp elt [⟨tg,iter,ifs,0⟩,⟨tg2,iter2,ifs2,0⟩] scope pos) (eO wi own ix g tt wi2 own2 g2 tt2 te):=by intro Wf s c H Q I h;obtain⟨cl,d,h1,h2⟩:=JK (env:=X.env) (scope:=scope) λy hy e=>I.ok.has y.1 (.inl (O.frees y hy e));rw[eval_ListComp];refine ADk (use:=none) rfl hs d O.kind O.names (Bf (hi Wf s c H _ I h) λv p hv=>Bf hv λf r i=> ?_);obtain⟨it,t,tn,J,u,rfl,j,T,a,f2,q⟩:=i;exact Ym (Qd:=λD b=>Q (.ref D) b) hc O T j f2 a h1 h2 q λD C b k hn l gone w z n=>by obtain⟨m,o⟩:=hn;exact⟨m,o,λh' hs=>⟨.ref D,b,gone c k l h' hs,rfl,n⟩⟩
end
end L2
namespace PL
open PySem PySem.Spec PyProof.Rows L2
def Nx (own:Nat)(τ:BD):BD:=List.replicate own none++τ.drop own
def JL (g:AG)(t:AT)(a:AI)(own2:Nat)(d:AG)(t2:AT)(te:AE)(b:BD)(Q:km PV->Prop):km PV->km PV->Prop
 | [],acc=>Q acc
 | x::r,acc=>g x b λc=>t c λok=>if ok=true then a c λys=>acc.length+ys.length<sizeLine/\Cp d t2 te (Nx own2 c) (JL g t a own2 d t2 te b Q r) ys acc else JL g t a own2 d t2 te b Q r acc
def LQ (b:AI)(own:Nat)(ix:km Nat)(g:AG)(t:AT)(a:AI)(own2:Nat)(c:AG)(t2:AT)(te:AE):AA:=λτ Q=>b τ λxs=>JL g t a own2 c t2 te (KH own ix τ) Q xs []
def SR.noOwn {K:AAP}{B:DG}{T:kf->Prop}{H:Hp}{a:L2.St}{τ:BD}(s:SR K B T H a τ)(c:∀b,¬DT a τ b){i:Nat}{xs:km PV}:τ[i]? ≠some (some (.own xs)):=λe=>by obtain⟨p,vs,d,_⟩:=s.own i xs e;exact c p ⟨i,xs,e,d⟩
def SR.swap {K:AAP}{B:DG}{m f:kf->Prop}{n g:Hp}{a k:L2.St}{τ l:BD}(c:SR K B m n a τ)(o:∀b,¬DT a τ b)(d:SR K B f g k l)(s:Mv K m (mt B a τ) n f (mt B a τ) g):SR K B f g a τ:=
 ⟨c.len,λi x e=>let ⟨v,h,r⟩:=c.val i x e;⟨v,h,r.mv s⟩,λi xs e=>absurd e (c.noOwn o),λi j xs ys p e=>absurd e (c.noOwn o),d.tp,d.bm,d.bt,d.st⟩
def KL {own:Nat}{τ:BD}{j:Nat}{x:AV}(h:(Nx own τ)[j]? =some (some x)):own<=j/\τ[j]? =some (some x):=by
 unfold Nx at h;by_cases hj:j<own
 .rw [AAz (by simpa using hj),ABg,AAR hj] at h;cases h
 .have Zx:own<=j:=by omega
  rw[ABH (by simpa using Zx),ABc,ACf] at h;rw[show own+(j-own)=j by omega] at h;exact⟨Zx,h⟩
def SR.cut {K:AAP}{B:DG}{T:kf->Prop}{H:Hp}{c:L2.St}{τ:BD}{own:Nat}(s:SR K B T H c τ)(d:∀b,¬DT c τ b):SR K B T H (Mi own c) (Nx own τ)/\∀b,¬DT (Mi own c) (Nx own τ) b:=by have g:∀b,¬DT (Mi own c) (Nx own τ) b:=λb ⟨i,xs,h,f⟩=>d b ⟨i,xs,(KL h).2,(LV f).2⟩;refine⟨⟨by simp[Mi,Nx,s.len],λi x e=> ?_,λi xs e=>absurd (KL e).2 (s.noOwn d),λi j xs ys p e=>absurd (KL e).2 (s.noOwn d),s.tp,s.bm,s.bt,s.st⟩,g⟩;obtain⟨Zx,f⟩:=KL e;obtain⟨v,hv,r⟩:=s.val i x f;refine⟨v, ?_,r.mv (.anti s.va λa z=>z.elim .inl λz=>absurd z (g a))⟩;unfold Mi;rw[ABH (by simpa using Zx),ABc,ACf,show own+(i-own)=i by omega];exact hv
structure O6 (D:Addr) (T:Addr->Prop) (H:Hp) (T':Addr->Prop) (H':Hp):Prop where
 keep:∀b o,¬T b->b≠D->H b=some o->H' b=some o
 sub:∀b,T b->T' b
 new:∀b,T' b->T b\/H b=none
 tp:∀b,H b≠none->H' b≠none
def O6.refl {D:kf}{T:kf->Prop}{H:Hp}:O6 D T H T H:=⟨λ_ _ _ _ e=>e,λ_ e=>e,λ_ e=> .inl e,λ_ e=>e⟩
def De.atD {D:kf}{T a:kf->Prop}{H c:Hp}(s:De T H a c):O6 D T H a c:=⟨λb o t _ e=>s.keep b o t e,s.sub,s.new,λb e=>s.some e⟩
def O6.upd {D:kf}{T:kf->Prop}{H:Hp}{o:HO}:O6 D T H T (upd H D o):=⟨λb a _ n e=>by rw[Al n];exact e,λ_ e=>e,λ_ e=> .inl e,λb e=>by
 by_cases h:b=D
 .subst h;rw[Ah];exact λz=>nomatch z
 .rw [Al h];exact e⟩
def O6.trans {D:kf}{T c d:kf->Prop}{H f g:Hp}(a:O6 D T H c f)(b:O6 D c f d g):O6 D T H d g where
 keep:=λx o t n e=>b.keep x o (λz=>(a.new x z).elim t λz=>by rw[e] at z;cases z) n (a.keep x o t n e)
 sub:=λx t=>b.sub x (a.sub x t)
 new:=λx t=>(b.new x t).elim (λz=>a.new x z) λz=> .inr (by
  cases e:H x with
  | none=>rfl
  | some o=>exact absurd z (a.tp x (by rw[e];exact λz=>nomatch z)))
 tp:=λx e=>b.tp x (a.tp x e)
def Zh {K:AAP}{s:kc}{wi wi2:TI}{ai Y:AI}{own own2:Nat}{ix:km Nat}{g g2:TG}{ag N:AG}{tt tt2:TT}{Z O:AT}{te:TE}{ta:AE}(hi:Yb K s wi ai)(hg:J9 K g ag)(ht:Me K tt Z)(tU:Yb K true wi2 Y)(o6:J9 K g2 N)(uA:Me K tt2 O)(he:E6 K te ta):aQ K (eO wi own ix g tt wi2 own2 g2 tt2 te) (LQ ai own ix ag Z Y own2 N O ta):=by
 intro B T j τ H Q AQ sr h k;refine hi B T j τ H _ _ sr h λJ xs T1 H1 s1 walk h1 D hD=> ?_;have E:=sr.stp s1;have nt1:¬T1 D:=λz=>by obtain⟨o,e,_⟩:=(E.tp D z).mut;rw[hD] at e;cases e
 have lay:=De.lay (o:= .lst []) E.tp hD;refine⟨λi m H2=>m=xs.length-i/\∃T2 vs r,De T1 H1 T2 H2/\H2 D=some (.lst vs)/\¬T2 D/\A7 K T2 (λa=>mt B j τ a\/a=D) H2 vs r/\JL ag Z Y own2 N O ta (KH own ix τ) AQ (xs.drop i) r,
  ⟨_,rfl,T1, [], [],lay,Ah,nt1, .nil,h1⟩, ?_⟩
 rintro i m H2 ⟨rfl,T2,vs,r,s2,gP,F,r2,h2⟩;have srb:=E.blk (own:=own) (ix:=ix) s2 hD gP F;have va2:HN T2 (λa=>mt B j τ a\/a=D) H2:=⟨srb.tp,srb.bm⟩;have w:=walk (λa=>mt B j τ a\/a=D) T2 H2 ⟨E.va,λb o t _ e=>s2.keep b o t e,s2.sub,λb n t=>(s2.new b t).elim id λz=>absurd z n,λb n z=>z.elim id λz=>by subst z;exact absurd hD n⟩ va2 (.inr s2.keep);by_cases Fn:i<xs.length
 .have UE:xs[i]? =some xs[i] :=AAm Fn;rw[ACA Fn] at h2;refine .inr ⟨w.go i _ UE,λv H3 yl=> ?_⟩;obtain⟨s3,r3⟩:=w.yld i _ v H3 UE yl;have P:=srb.stp s3;refine hg _ T2 _ _ H3 v _ _ _ P (r3.mv (.anti ⟨P.tp,P.bm⟩ λa z=>z.elim id λ⟨_,_,z,_⟩=>absurd z F9)) h2 λu l sr4 o4 h4=> ?_;have no4:∀b,¬DT u l b:=λb z=>by obtain⟨_,_,z,_⟩:=o4 b z;exact absurd z F9
  refine ht _ T2 u l H3 _ _ sr4 h4 λok T5 H5 s5 h5=> ?_;have sr5:=sr4.stp s5;have kW:=s3.keep D _ F gP;have gQ:=s5.keep D _ F kW;have nt5:¬T5 D:=λz=>(s5.new D z).elim F λn=>by rw[n] at kW;cases kW
  have r5:=(r2.stp s3 va2).stp s5 ⟨P.tp,P.bm⟩;cases ok with
  | false=> rw[AAQ AAe] at h5 ⊢;exact⟨_,by omega,rfl,T5,vs,r,(s2.trans s3).trans s5,gQ,nt5,r5,h5⟩
  | true=>
    rw[AAR rfl] at h5 ⊢;refine tU _ T5 u l H5 _ _ sr5 h5 λJ2 ys T6 H6 s6 walk2 h6=> ?_;obtain⟨hl,h6⟩:=h6;have R:=sr5.stp s6;have tI:=s6.keep D _ nt5 gQ;have nt6:¬T6 D:=λz=>(s6.new D z).elim nt5 λn=>by rw[n] at gQ;cases gQ
    have va6:HN T6 (λa=>mt B j τ a\/a=D) H6:=⟨R.tp,R.bm⟩;have r6:=r5.stp s6 ⟨sr5.tp,sr5.bm⟩;have s06:=((s2.trans s3).trans s5).trans s6;refine⟨λG m2 H7=>m2=ys.length-G/\∃M f c,De T1 H1 M H7/\O6 D T6 H6 M H7/\H7 D=some (.lst f)/\¬M D/\A7 K M (λa=>mt B j τ a\/a=D) H7 f c/\c.length<=r.length+G/\
     Cp N O ta (Nx own2 l) (JL ag Z Y own2 N O ta (KH own ix τ) AQ (xs.drop (i+1))) (ys.drop G) c,
     ⟨_,rfl,T6,vs,r,s06, .refl,tI,nt6,r6,AAW _,h6⟩, ?_⟩
    rintro G m2 H7 ⟨rfl,M,f,c,s7,d7,tJ,S,r7,ha7,h7⟩;have U:=E.blk (own:=own) (ix:=ix) s7 hD tJ S;have mEq:∀a,mt (B.blk j τ D) u l a->mt B j τ a\/a=D:=λa z=>z.elim id λz=>absurd z (no4 a);have mv7:Mv K T6 (mt (B.blk j τ D) u l) H6 M (mt (B.blk j τ D) u l) H7:=⟨R.va,λb o t m e=>d7.keep b o t (λz=>m (.inl (.inr z))) e,d7.sub,λb n t=>(d7.new b t).elim id λz=>absurd z n,λ_ _ z=>z⟩;have mv7':Mv K T6 (mt (B.blk j τ D) u l) H6 M (λa=>mt B j τ a\/a=D) H7:=⟨R.va,λb o t m e=>d7.keep b o t (λz=>m (.inl (.inr z))) e,d7.sub,λb n t=>(d7.new b t).elim id λz=>absurd z n,λ_ _ z=> .inl z⟩;have sr7:=R.swap no4 U mv7;have va7:HN M (λa=>mt B j τ a\/a=D) H7:=⟨U.tp,U.bm⟩;obtain⟨sc7,no7⟩:=sr7.cut (own:=own2) no4;have w2:=walk2 (λa=>mt B j τ a\/a=D) M H7 mv7' va7 (.inl rfl);by_cases o8:G<ys.length
    .have jR:ys[G]? =some ys[G] :=AAm o8;rw[ACA o8] at h7;refine .inr ⟨w2.go G _ jR,λv8 H8 yl8=> ?_⟩;obtain⟨s8,r8⟩:=w2.yld G _ v8 H8 jR yl8;have W:=sc7.stp s8;refine o6 _ M _ _ H8 v8 _ _ _ W (r8.mv (.anti ⟨W.tp,W.bm⟩ λa z=>z.elim id λz=>absurd z (no7 a))) h7 λσ9 τ9 sr9 o9 h9=> ?_;refine uA _ M σ9 τ9 H8 _ _ sr9 h9 λok T10 fX p rL=> ?_;have A:=sr9.stp p;have tK:=s8.keep D _ S tJ;have gO:=p.keep D _ S tK;have X:¬T10 D:=λz=>(p.new D z).elim S λn=>by rw[n] at tK;cases tK
     have r10:=(r7.stp s8 va7).stp p ⟨W.tp,W.bm⟩;cases ok with
     | false=> rw[AAQ AAe] at rL ⊢;exact⟨_,by omega,rfl,T10,f,c,(s7.trans s8).trans p,(d7.trans s8.atD).trans p.atD,gO,X,r10,by omega,rL⟩
     | true=>
       rw[AAR rfl] at rL ⊢;refine he _ T10 σ9 τ9 fX _ _ A rL λvy y I nE L r11 yk=> ?_;have C:=A.stp L;have tH:=L.keep D _ X gO;have nt11:¬I D:=λz=>(L.new D z).elim X λn=>by rw[n] at gO;cases gO
       have va11:HN I (λa=>mt B j τ a\/a=D) nE:=⟨C.tp,C.bm⟩;have r12:=r10.stp L ⟨A.tp,A.bm⟩;have s12:=((s7.trans s8).trans p).trans L;have tp13:∀a,I a->E7 (upd nE D (.lst (f ++ [vy]))) a:=λa t=>by obtain⟨d,x,e,z⟩:=C.tp a t;exact⟨d,x,by rw[Al (λw=>by subst w;exact nt11 t)];exact e,z⟩
       have mv13:Mv K I (λa=>mt B j τ a\/a=D) nE I (λa=>mt B j τ a\/a=D) (upd nE D (.lst (f ++ [vy]))):=⟨va11,λb o _ m e=>by rw[Al (λw=>m (.inr w))];exact e,λ_ t=>t,λ_ _ t=>t,λ_ _ z=>z⟩;refine⟨f,tH,by rw[r7.length];omega,_,(by omega:ys.length-(G+1)<ys.length-G),rfl,I,f ++ [vy],c ++ [y],⟨λb o t e=> ?_,s12.sub,s12.new,tp13⟩,((((d7.trans s8.atD).trans p.atD).trans L.atD).trans .upd),Ah,nt11,(r12.append (.cons (r11.mv (.anti C.va λa z=> .inl z)) .nil)).mv mv13,by simp;omega,yk⟩;rw[Al (A2 e hD)];exact s12.keep b o t e
    .rw [ACX (as:=ys) (i:=G) (by omega)] at h7;exact .inl ⟨w2.stop G (by omega),_,(by omega:xs.length-(i+1)<xs.length-i),rfl,M,f,c,s7,tJ,S,r7,h7⟩
 .rw [ACX (by omega)] at h2;refine .inl ⟨w.stop i (by omega), ?_⟩;exact k D vs r T2 H2 (s1.trans s2) (E.add s2 hD gP LL.lst F) (s1.none hD) gP F (r2.mv (.anti va2 λa z=>by
   rcases z with(z|z)|z
   .exact .inl (.inl z)
   .exact .inr z
   .exact .inl (.inr z))) h2
def uE (K:AAP)(s:kc)(a:AI):TI:=λf H R=>∃(B:DG) (T:kf->Prop) (τ:BD) (g:km PV->Prop),SR K B T H f τ/\a τ g/\
 ∀J xs d b,De T H d b->(∀M2 e c,Mv K d (mt B f τ) b e M2 c->HN e M2 c->(s=true\/W1 d b c)->VQ K M2 J xs e c)->g xs->R J b
def ie {K:AAP}{s:kc}{a:AI}:Yb K s (uE K s a) a:=λB T d τ H R b c h k=>⟨B,T,τ,b,c,h,k⟩
section
variable {X:Cx}
def SI.of {b iter:kd}{s:kc}{a:AI}(h:SI X b iter s a):PI X b iter (uE X.K s a):=by obtain⟨t,p,e⟩:=h;intro Wf f d H R I hw;obtain⟨B,T,τ,g,i,h,c⟩:=hw;exact p Wf f d H R I (e B T d τ H R g i h c)
structure Z9 (X:Cx) (tg elt:Expr) (ifs:List Expr) (tg2 iter2:Expr) (ifs2:List Expr) (scope:Scope) (own:Nat) (ix:List Nat) (N:List Str) (g:AG) (t:AT) (ai2:AI) (own2:Nat) (g2:AG) (t2:AT) (te:AE):Prop where
 ex:∃g' t' wi2 g2' t2' te',My X tg elt ifs tg2 iter2 ifs2 scope own ix N g' t' wi2 own2 g2' t2' te'/\J9 X.K g' g/\Me X.K t' t/\Yb X.K true wi2 ai2/\J9 X.K g2' g2/\Me X.K t2' t2/\E6 X.K te' te
def Ut {h c iter d a:kd}{e b:km kd}{scope:Scope}{i:Pos}{own own2:Nat}{ix:km Nat}{N:km Str}{g m:AG}{t t2:AT}{s:kc}{n f:AI}{o:AE}(hc:X.calm=true)(hi:SI X h iter s n)(O:Z9 X h c e d a b scope own ix N g t f own2 m t2 o)(hs:∀x,foldedSetIterable iter X.env x=pure x:=by intro _;rfl):SF X (.ListComp c [⟨h,iter,e,0⟩,⟨d,a,b,0⟩] scope i) (LQ n own ix g t f own2 m t2 o):=by obtain⟨B,p,r⟩:=hi;obtain⟨g',t',u,v,w,y,O,z,st,j,k,l,A⟩:=O.ex;exact⟨_,c5 hc p O hs,Zh r z st j k l A⟩
def XM {n e c a:kd}{f b:km kd}{scope:Scope}{own own2:Nat}{ix:km Nat}{N:km Str}{g k:AG}{t t2:AT}{d:AI}{te:AE}(h1:scope.kind= .function)(h2:(scope.names.all λy=> !decide (y.2= .cell))=true)(o:(scope.names.all λy=> !decide (y.2= .local)||decide (scope.names.lookup y.1=some .local))=true)(p:(scope.names.all λy=> !decide (y.2= .free)||decide (X.env.scope.names.lookup y.1=some .cell))=true)(r:N.length=own+ix.length)(u:RK X (relabel scope X.env) own ix N=true)(v:own2<=own)(l:∀cl C s H ex pn,SK own (blk X (relabel scope X.env) N cl C s H ex pn) n g)(m:∀cl C s H ex pn,j7 (blk X (relabel scope X.env) N cl C s H ex pn) f t)(h:∀cl C s H ex pn,SI (blk X (relabel scope X.env) N cl C s H ex pn) c a true d)(i:∀cl C s H ex pn,SK own2 (blk X (relabel scope X.env) N cl C s H ex pn) c k)(j:∀cl C s H ex pn,j7 (blk X (relabel scope X.env) N cl C s H ex pn) b t2)(val:∀cl C s H ex pn,SE (blk X (relabel scope X.env) N cl C s H ex pn) e te)(w:∀cl C s H ex pn x,foldedSetIterable a (blk X (relabel scope X.env) N cl C s H ex pn).env x=pure x:=by intro _ _ _ _ _ _ _;rfl):Z9 X n e f c a b scope own ix N g t d own2 k t2 te:=
 have O:=XJ (te:=oU X.K te) h1 h2 o p r u (OD (K:=X.K) (ag:=g)) (λcl C s H ex pn=>(l cl C s H ex pn).of) (λcl C s H ex pn=>(m cl C s H ex pn).of) (λcl C s H ex pn=>(val cl C s H ex pn).of)
 ⟨nI X.K own g,qv X.K t,uE X.K true d,nI X.K own2 k,qv X.K t2,oU X.K te,⟨O.kind,O.nocell,O.names,O.frees,O.ins,O.keep,OD,v,O.tgt,O.tst,λcl C s H ex pn=>(h cl C s H ex pn).of,w,λcl C s H ex pn=>(i cl C s H ex pn).of,λcl C s H ex pn=>(j cl C s H ex pn).of,O.val⟩,SN,SU,ie,SN,SU,YB⟩
end
end PL
namespace PL
open PySem L2 PyProof.Rows
class fT (n:Nat) (τ:BD) (τ':outParam BD):Prop where
 e:Nx n τ=τ'
instance{τ:BD}:fT 0 τ τ:=⟨rfl⟩
instance{n:Nat}{x:ke AV}{r a:BD}[h:fT n r a] :fT (n+1) (x::r) (none::a):=⟨by rw[<-h.e];rfl⟩
section
variable {ai ai2:AI}{g g2:AG}{tt t2:AT}{te:AE}{τ τ':BD}{QL:km PV->Prop}{own own2:Nat}{ix:km Nat}
instance{a b:BD}[h1:oE own a][h2:nk ix τ b][c:Z7 a b τ'] :Wp (LQ ai own ix g tt ai2 own2 g2 t2 te τ QL) (ai τ λxs=>JL g tt ai2 own2 g2 t2 te τ' QL xs []):=⟨λk=>by unfold LQ KH;rw[h1.e,h2.e,c.e];exact k⟩
instance{a ys:km PV}[h:fT own2 τ τ'] :Wp (Cp g2 t2 te (Nx own2 τ) QL ys a) (Cp g2 t2 te τ' QL ys a):=⟨λk=>by rw[h.e];exact k⟩
instance{i:Nat}{a b:AE}{nx bk ct:BD->Prop}{rt:PV->Prop}:Wp (fq i a b ⟨nx,rt,bk,ct⟩ τ) (b τ λy=>Np i τ λxs=>a τ λk=>fJ k λk=>nO (V3 xs.length k) λj=>Zf τ i (.own (xs.set j y)) nx):=⟨id⟩
theorem Nw (d:km PV->km PV->Prop)(hd:∀a,d [] a->QL a)(hs:∀x r a (R:km PV->Prop),(∀b,d r b->R b)->d (x::r) a->g x τ λc=>tt c λok=>if ok=true then ai2 c λys=>a.length+ys.length<sizeLine/\Cp g2 t2 te (Nx own2 c) R ys a else R a):∀xs a,d xs a->JL g tt ai2 own2 g2 t2 te τ QL xs a
 | [],a,h=>hd a h
 | x::r,a,h=>hs x r a _ (λb h2=>Nw d hd hs r b h2) h
theorem Vg {r:BD}:∀(ys a:km PV),QL (a++ys)->Cp (Au 0) D5 (aV 0) (none::r) QL ys a
 | [],a,h=>by rw[ABt] at h;exact h
 | y::ys,a,h=>Vg ys (a ++ [y]) (by rw[ADz];exact h)
end
end PL
namespace L2
open PySem PySem.Spec PyProof.Rows
def sN (K:AAP)(l:kf):It:=
 ⟨λi H=>∃xs x,FF K H l xs/\xs[i]? =some x,
  λi H v a=>∃T x,v= .ref T/\H T=none/\a=upd H T (.tup [.int i,x])/\∀xs,FF K H l xs->xs[i]? =some x,
  λi H=>∃xs,FF K H l xs/\xs.length<=i⟩
def Zn {P:gn}{w:fm}{K:AAP}{es:km kd}{G:Nat}{n:Pos}{e it l:kf}(C:e≠it):Nm P w K (.Tuple es G n) (sN K l) [e,it] e (λk h=>(∃b,IsEnum h e it (k:Nat) b)/\h.IsListIter it l k) where
 mem:=by simp
 obj:=λk h st p hp=>by
  obtain⟨⟨b,he⟩,hi⟩:=st;have f:p=e\/p=it:=by simpa using hp
  rcases f with q|q
  .subst q;exact⟨_,he,λv z=>nomatch z⟩
  .subst q;obtain⟨o,a,c,d⟩:=hi;exact⟨o,a,λv z=>by rw[d] at z;cases z⟩
 keep:=λk h h' st j=>by obtain⟨⟨b,he⟩,hi⟩:=st;exact⟨⟨b,j e (by simp) _ he⟩,hi.at λo a=>j it (by simp) o a⟩
 item:=by
  intro X r hw t hc k Wf s D H E I m st y;subst r hw t;obtain⟨⟨b,he⟩,hi⟩:=st;obtain⟨xs,x,hq,hx⟩:=y;obtain⟨A,rv,p,hz⟩:=I.list hq;obtain⟨u,hu,J⟩:=rv.get hx;have i:e<s.heap.objs.size:=AAU he;have B:it<s.heap.objs.size:=by obtain⟨o,a,_⟩:=id hi;exact AAU a
  refine wpAny_pyNext_enum_item he hi p.isList (x:=u) (by simpa using hu) C λh1 L M N U O=> ?_;refine⟨_,rfl,wpAny_letOwnedTupleGo_enum (s:={s with heap:=h1,toks:=s.toks+1}) L λh2 c1 c2=> ?_⟩;have g:∀p o,p≠e->h1.get? p=some o->h2.get? p=some o:=λp o q z=>c2.extBut _ _ q z;have F:∀p∈ [e,it],p<s.heap.objs.size:=λp hp=>by
   have f:p=e\/p=it:=by simpa using hp
   rcases f with q|q
   .rw [q];exact i
   .rw [q];exact B
  have j:∀p o,p ∉ [e,it] ->s.heap.get? p=some o->h2.get? p=some o:=λp o hp z=>by
   have f:p≠e/\p≠it:=by simpa using hp
   exact g p o f.1 (O p o f.1 f.2 z)
  have Q:Inv X Wf D (upd H s.heap.objs.size (.tup [.int k,x])) {s with heap:=h2,toks:=s.toks+1}:=I.turnedN m F j (AAW _)
   ⟨(by show 2<=sizeLine;decide), [.int k s.toks,u], .cons ⟨_,rfl⟩ (.cons J .nil),⟨_,g _ _ (ABT i) N,rfl,_,rfl⟩⟩
  have R:H s.heap.objs.size=none:=I.fresh;refine⟨.ref s.heap.objs.size,upd H s.heap.objs.size (.tup [.int k,x]),Q,rfl,⟨_,x,rfl,R,rfl,λS h'=> ?_⟩,⟨⟨u, ?_⟩, ?_⟩,λp hp=> ?_⟩
  .rw [I.list_inj h' hq];exact hx
  .have:((k+1:Nat):Int)=(k:Int)+1:=by push_cast;rfl
   rw[this];exact c1
  .exact M.at λo z=>g it o C.symm z
  .rw [Al (AAc (F p hp))];exact(m p hp).1
 done:=by
  intro X r hw t hc k Wf s D H E I m st y;subst r hw t;obtain⟨⟨b,he⟩,hi⟩:=st;obtain⟨xs,hq,hx⟩:=y;obtain⟨A,rv,p,hz⟩:=I.list hq;have hl:=rv.length;refine wpAny_pyNext_enum_end (I.ok.hd hc) he hi p.isList (by simp;omega) λh' T=>⟨rfl, ?_⟩;exact I.turnedL (t':=s.toks) m λp o hp z=>by
   have f:p≠e/\p≠it:=by simpa using hp
   exact T p o f.2 z
 self:=λ_ _ _ _ _ st h=>by obtain⟨⟨b,he⟩,_⟩:=st;exact wpAny_pyIter_enum he h
section
variable {X:Cx}
def pI (K:AAP)(b:TA):TI:=λc H R=>b c H λvs a=>∃l,vs= [.ref l] /\(∃xs,FF K a l xs)/\R (sN K l) a
def iG {e:kd}{f:TA}{p b c:Pos}{es:km kd}{i:Nat}(j:Gl X "enumerate")(k:X.mg "enumerate" =none)(ha:PA X [e] f)(hs:starEach [e] X.env= [(false,eval e X.env)] :=by rfl):PI X (.Tuple es i c) (.Call (.Name "enumerate" p) [e] [] b) (pI X.K f):=by
 intro Wf s m H R I h;refine Call_ (Hl I j k boot_enumerate (ACO (Bf (ha b Wf s m H _ I h) λw a ⟨vs,n,d,r1,o⟩=> ?_) (by rw[hs];rfl) rfl));obtain⟨l,rfl,⟨xs,hl⟩,q⟩:=o;cases r1 with
 | cons r t=>
 cases t;cases r;obtain⟨u,rv,p,hz⟩:=d.list hl;refine call_enumerate_list p.isList λh' b1 b2 x v=> ?_;refine wpAny_pyIter_enum b1 ?_;have g:∀p∈ [a.heap.objs.size+1,a.heap.objs.size],a.heap.objs.size<=p:=λp hp=>by
  have y:p=a.heap.objs.size+1\/p=a.heap.objs.size:=by simpa using hp
  omega
 exact⟨_,_,_,_,n,rfl,d.kept (t':=a.toks) v,Zn (Nat.succ_ne_self _),⟨⟨.none,b1⟩,b2⟩,λp hp=>d.fpOk (g p hp) (d.hok.fresh (g p hp)),q⟩
end
end L2
namespace PL
open PySem PySem.Spec PyProof.Rows L2
def E8 (k:Nat):km PV->km PV
 | [] => []
 | x::r=> .tup [.int k,x] :: E8 (k+1) r
theorem QC:∀(xs:km PV) (k:Nat),(E8 k xs).length=xs.length
 | [],_=>rfl
 | _::r,k=>by rw[E8,AAn,QC r,AAn]
theorem LW:∀(xs:km PV) (k i:Nat) (z:PV),(E8 k xs)[i]? =some z->∃x,xs[i]? =some x/\z= .tup [.int ((k+i:Nat):Int),x]
 | [],_,_,_,h=>by simp[E8] at h
 | x::r,k,0,z,h=>⟨x,rfl,by simp[E8] at h;rw[<-h];rfl⟩
 | x::r,k,i+1,z,h=>by obtain⟨y,h1,h2⟩:=LW r (k+1) i z (by simpa[E8] using h);refine⟨y,by simpa using h1, ?_⟩;rw[h2,show k+1+i=k+(i+1) by omega]
def Y4 {K:AAP}{T M:kf->Prop}{H:Hp}{l:kf}{xs:km PV}(va:HN T M H)(r:Cc K T M H (.ref l) (.lst xs)):VQ K M (sN K l) (E8 0 xs) T H:=by
 obtain⟨a,vs,e,hq,g,j,rs⟩:=DL r;cases e;have b:FF K H l vs:= .inl (.inl hq);refine⟨λi z h=> ?_,λi z v k h d=> ?_,λi h=>⟨vs,b, ?_⟩⟩
 .obtain ⟨x,hx,_⟩:=LW xs 0 i z h;obtain⟨u,hu,_⟩:=rs.get hx;exact⟨vs,u,b,hu⟩
 .obtain ⟨x,hx,rfl⟩:=LW xs 0 i z h;obtain⟨p,u,rfl,hn,rfl,hu⟩:=d;obtain⟨m,c,f⟩:=rs.get' (hu vs b);rw[hx] at c;cases c;have st:=De.lay (o:= .tup [.int (i:Nat),u]) va.tp hn;rw[Nat.zero_add];exact⟨st, .tup (.inl Ah) (.cons (.int _) (.cons (f.stp st va) .nil))⟩
 .rw [rs.length];rw[QC] at h;exact h
section
variable {X:Cx}
def sY (r:AA):AI:=λτ Q=>r τ λa=>match a with | [.lst xs] =>Q (E8 0 xs)|_=>False
def uT {e:kd}{r:AA}{p c b:Pos}{es:km kd}{d:Nat}(f:Gl X "enumerate")(g:X.mg "enumerate" =none)(ha:SA X [e] r)(hs:starEach [e] X.env= [(false,eval e X.env)] :=by rfl):SI X (.Tuple es d b) (.Call (.Name "enumerate" p) [e] [] c) true (sY r):=by
 obtain⟨t,i,s⟩:=ha;refine⟨_,iG f g i hs,λB T j τ H R w l h k=>s B T j τ H _ _ l h λvs xs m n o r1 h1=> ?_⟩;split at h1 <;> first | exact h1.elim|skip
 cases r1 with
 | cons ra t=> cases t;obtain⟨a,u,rfl,hq,_,_,rs⟩:=DL ra;exact⟨a,rfl,⟨u, .inl (.inl hq)⟩,k _ _ m n o (λM2 x y v va _=>Y4 va (ra.mv v)) h1⟩
end
section
variable {X:Cx}{a b c:kd}{ta tb tc:AE}{pos:Pos}
def rK (f d:HM)(ta tb tc:AE):AE:=λτ Q=>ta τ λx=>tb τ λy=>f x y λz=>hI z λk=>if k=true then tc τ λw=>d y w Q else Q (.bl false)
def md {r p:R2}{f A:HM}{t u v:TE}(E:Bt X.K r f)(F:Bt X.K p A)(ha:E6 X.K t ta)(hb:E6 X.K u tb)(hc:E6 X.K v tc):E6 X.K (eJ r p t u v) (rK f A ta tb tc):=by
 intro B T m τ H Q G s h k;refine ha B T m τ H _ _ s h λI x J L e r1 h1=> ?_;refine hb B J m τ L _ _ (s.stp e) h1 λC y M N g r2 h2=> ?_;have n:=(s.stp e).stp g;refine E M _ N I C x y _ _ n.va (r1.stp g (s.stp e).va) r2 h2 λw z T3 D j O q=> ?_;obtain⟨i,rfl,l⟩:=Rp q;clear q;refine⟨i,O.toB, ?_⟩;have d:=n.stp j;cases i with
 | false=> rw[AAQ (by decide)] at l ⊢;exact k _ _ T3 D ((e.trans g).trans j) (.bl false) l
 | true=> rw[AAR rfl] at l ⊢;refine hc B T3 m τ D _ _ d l λP y4 R S o U W=> ?_;exact F R _ S C P y y4 Q G (d.stp o).va ((r2.stp j n.va).stp o d.va) U W λw z Y Z s5 r5 q=>k w z Y Z (((e.trans g).trans j).trans (o.trans s5)) r5 q
def qi {op d:CmpOp}{r e:R2}{f g:HM}(h:EB X (compareOp op) r/\Bt X.K r f)(i:EB X (compareOp d) e/\Bt X.K e g)(ha:SE X a ta)(hb:SE X b tb)(hc:SE X c tc)(j:lastMarks [op,d] [b,c] =false:=by with_unfolding_all rfl):RC X (.Compare a [op,d] [b,c] pos) (Aj (rK f g ta tb tc)):=
 let ⟨_,p,s⟩:=ha;let ⟨_,k,l⟩:=hb;let ⟨_,p2,m⟩:=hc;⟨_,dF h.1 i.1 p k p2 j,NF (md h.2 i.2 s l m)⟩
end
instance{f a:HM}{b c d:AE}{τ:BD}{Q:PV->Prop}:Wp (rK f a b c d τ Q) (b τ λx=>c τ λy=>f x y λz=>hI z λk=>if k=true then d τ λw=>a y w Q else Q (.bl false)):=⟨id⟩
end PL
namespace PL
open PySem PySem.Spec PyProof.Rows L2
def dg (i:Int)(y:PV):PV:=if i=0 then .bl false else if i=1 then .bl true else y
def v7 (a b:AE):AE:=λτ Q=>a τ λx=>b τ λy=>match x with | .int i=>Q (dg i y)|_=>False
def fH:km (Dk×V):= [(.inl 0, .bl false),(.inl 1, .bl true)]
section
variable {X:Cx}
def qa {a b:kd}{J K:AE}{j l m n:Nat}{r p1 p2 u p apos c:Pos}{k:Nat}(N:Room k X.A)(ha:SE X a J)(hb:SE X b K)(h1:attributeBase (.Dict [some (.Constant (.int 0) j r),some (.Constant (.int 1) l p1)] [.Constant (.bool false) m p2, .Constant (.bool true) n u] p) "get" X.env (eval (.Dict [some (.Constant (.int 0) j r),some (.Constant (.int 1) l p1)] [.Constant (.bool false) m p2, .Constant (.bool true) n u] p) X.env)=eval (.Dict [some (.Constant (.int 0) j r),some (.Constant (.int 1) l p1)] [.Constant (.bool false) m p2, .Constant (.bool true) n u] p) X.env:=by rfl)(h2:((backTo c (starEach [a,b] X.env)).all (λx=> !x.1)&&(backToKw c (keywordEach [] X.env)).all (λx=>x.1.isSome)&&decide (([a,b] :km kd).length+([] :km Keyword).length+(if ([] :km Keyword).isEmpty then 0 else 1)<30))=true:=by rfl)(O:(apos.endLine==c.line)=true:=by rfl)(P:backTo c (starEach [a,b] X.env)= [(false,eval a X.env),(false,eval b X.env)] :=by rfl):SE X (.Call (.Attribute (.Dict [some (.Constant (.int 0) j r),some (.Constant (.int 1) l p1)] [.Constant (.bool false) m p2, .Constant (.bool true) n u] p) "get" apos) [a,b] [] c) (v7 J K):=by
 obtain⟨t,R,s⟩:=ha;obtain⟨t',y,S⟩:=hb;refine⟨_,c6 (by have:=N.un;omega) (iC (Ue BC cz (Ue BC cz iM)) rfl rfl (List.cons_ne_nil _ _) (ABV rfl)) R y ⟨h1,h2,O,P⟩,λB T L τ H Q U C q D=> ?_⟩;intro d hd;refine⟨Ah,fH,rfl,by decide, ?_⟩;rw[show Li [] fH=fH from rfl,jB];have g:De T H T (upd H d (.dK fH)):=De.lay C.tp hd;have h:=C.stp g;have W:¬T d:=λz=>by obtain⟨o,e,_⟩:=(C.tp d z).mut;rw[hd] at e;cases e
 refine⟨d,rfl, .inl ⟨fH, .of Ah⟩,s B T L τ _ _ _ h q λv x Y H1 E r1 Z=>S B Y L τ _ _ _ (h.stp E) Z λv2 x2 F w M r2 f=> ?_⟩;cases r1 <;> first | exact f.elim|skip
 rename_i i;have G:w d=some (.dK fH):=(E.trans M).keep _ _ W Ah;refine⟨El fH (.inl i), .inl ⟨fH, .inl i, .of G,rfl,rfl⟩, ?_⟩;have st:=g.trans (E.trans M);have f:U (dg i x2):=f;unfold dg at f;by_cases I:i=0
 .subst I;exact D _ _ F w st (.bl _) f
 .by_cases h1:i=1
  .subst h1;exact D _ _ F w st (.bl _) f
  .rw [AAQ I,AAQ h1] at f;have e:El fH (.inl i)=none:=by rw[show fH=(.inl 0, .bl false)::(.inl 1, .bl true) :: [] from rfl,GM (λz=>I (by cases z;rfl)),GM (λz=>h1 (by cases z;rfl))];rfl
   rw[e];exact D _ _ F w st r2 f
def bH:AF:=λxs Q=>match xs with | [.int i] =>i.natAbs<1000000/\Q (.str (Str.ofString (toString i)))|_=>False
def jc:km V->Hp->VK->Prop:=λa H Q=>∃i:Int,a= [.int i] /\i.natAbs<1000000/\Q (.str (Str.ofString (toString i))) H
def iX:Cd X (.type "str") jc/\F7 X.K jc bH:=by
 refine⟨?_,λT M H b xs Q c va r h k=> ?_⟩
 .intro Wf s d H b vs Q I r h;obtain⟨i,rfl,hi,q⟩:=h;cases r with
  | cons r t=>
    cases t;obtain⟨e,rfl⟩:=r;have hl:i.natAbs.log2<1920:=by
     by_cases a:i.natAbs=0
     .rw [a];decide
     .have:=(Nat.log2_lt a (k:=20)).mpr (by omega);omega
    exact P.str_of_int hl ⟨.str _,H,I.tok _,⟨_,rfl⟩,q⟩
 .unfold bH at h;split at h <;> first | exact h.elim|skip
  cases r with
  | cons r t=> cases t;cases r;exact⟨_,rfl,h.1,k _ _ T H (.refl va.tp) (.str _) h.2⟩
end
section
variable {X:Cx}{a b c d e:kd}{ta tb tc td:AE}{pos:Pos}
def BN (ha:SE X a ta)(h:starEach [a] X.env=(false,eval a X.env)::starEach [] X.env:=by rfl):SA X [a] (AB ta AL):=Ak ha Ck h
def As (ha:SE X a ta)(hb:SE X b tb)(h:starEach [a,b] X.env=(false,eval a X.env)::starEach [b] X.env:=by rfl)(h2:starEach [b] X.env=(false,eval b X.env)::starEach [] X.env:=by rfl):SA X [a,b] (AB ta (AB tb AL)):=Ak ha (BN hb h2) h
def D8 (ha:SE X a ta)(hb:SE X b tb)(hc:SE X c tc)(h:starEach [a,b,c] X.env=(false,eval a X.env)::starEach [b,c] X.env:=by rfl)(h2:starEach [b,c] X.env=(false,eval b X.env)::starEach [c] X.env:=by rfl)(f:starEach [c] X.env=(false,eval c X.env)::starEach [] X.env:=by rfl):SA X [a,b,c] (AB ta (AB tb (AB tc AL))):=Ak ha (As hb hc h2 f) h
def AX (ha:SE X a ta)(hb:SE X b tb)(hs:RA b:=by exact λ_ _=>rfl):SE X (.Subscript a b pos) (AY Ai ta tb):=qb qg ha hb hs
def EX {op:CmpOp}{r:R2}{f:HM}(g:EB X (compareOp op) r/\Bt X.K r f)(ha:SE X a ta)(hb:SE X b tb)(h:behindInMarks op b=false:=by exact Cj _):RC X (.Compare a [op] [b] pos) (Aj (AY f ta tb)):=eG g ha hb h
def Cs (i:Nat){x:Str}{pos':Pos}(hN:X.N.Nodup)(he:SE X e ta)(hi:X.N[i]? =some x:=by rfl)(hx:Loc X.env.scope x:=by exact Or.inl rfl)(hs:swapsWith e (some (.Name x pos')) pos.line X.env=pure false:=by rfl)(f:X.fn x=true\/X.env.scope.names.lookup x=some .local:=by first | exact .inl rfl|exact .inr rfl|assumption):SS X (.Assign [.Name x pos'] e pos) (Ar ta (Au i)):=FD hN hi hx he hs f
def EU (i:Nat){x:Str}(hN:X.N.Nodup)(hi:X.N[i]? =some x:=by rfl)(hx:Loc X.env.scope x:=by exact Or.inl rfl)(f:X.fn x=true\/X.env.scope.names.lookup x=some .local:=by first | exact .inl rfl|exact .inr rfl|assumption):SG X (.Name x pos) (Au i):=Es hN hi hx f
def Kz (i:Nat){own:Nat}{x:Str}(hN:X.N.Nodup)(hi:X.N[i]? =some x:=by rfl)(hx:Loc X.env.scope x:=by exact Or.inl rfl)(hk:i<own:=by decide)(f:X.fn x=true\/X.env.scope.names.lookup x=some .local:=by first | exact .inl rfl|exact .inr rfl|assumption):SK own X (.Name x pos) (Au i):=ip hN hi hx hk f
end
def map_pair {a b c:Type}{o:ke a}{f:a->b}{g:a->c}{x:b}{y:c}(h1:o.map f=some x)(h2:o.map g=some y):o.map (λs=>(f s,g s))=some (x,y):=by
 cases o with
 | none=>cases h1
 | some s=>cases h1;cases h2;rfl
def map5 {a A B C D E:Type}{o:ke a}{F:a->A×B×C×D×E}{X:A×B×C×D×E}(h1:o.map (λs=>(F s).1)=some X.1)(h2:o.map (λs=>(F s).2.1)=some X.2.1)(b:o.map (λs=>(F s).2.2.1)=some X.2.2.1)(c:o.map (λs=>(F s).2.2.2.1)=some X.2.2.2.1)(d:o.map (λs=>(F s).2.2.2.2)=some X.2.2.2.2):o.map F=some X:=by
 cases o with
 | none=>cases h1
 | some s=>exact congrArg some (AB6 (AAk h1) (AB6 (AAk h2) (AB6 (AAk b) (AB6 (AAk c) (AAk d)))))
def BQ {P:gn}{w:fm}{K:AAP}{mg:Str->ke kj}{base:fe}{k a:Nat}{x:Str}{ps:km Str}{sp:Sp}(H:Has P w K mg base k x ps sp)(h:k<=a:=by decide):Has P w K mg base a x ps sp:=H.mono h
end PL
open PySem L2 PL PyProof.Rows
local macro_rules | `(tactic| decreasing_trivial_pre_omega)=> `(tactic| first | assumption|omega|((apply Bd.mono);(focus (repeat' (first | assumption|exact Ds.m (by assumption)|exact Ds.x (by assumption)|exact Ds.y (by assumption)|exact Ds.z (by assumption)|exact sj|exact oO|with_reducible apply Bd.add|with_reducible apply Bd.sub|with_reducible apply Bd.mul|with_reducible apply Bd.neg|with_reducible apply Bd.mx|with_reducible apply Bd.mn)));first | omega|decide)|decide|(simp only [List.length_map,List.length_append,List.length_cons,List.length_nil,List.length_take,List.length_drop,List.length_zip,List.length_reverse];omega)|(show _<=16777216;simp only [List.length_map,List.length_append,List.length_cons,List.length_nil,List.length_take,List.length_drop,List.length_zip,List.length_reverse];omega)|(show _<16777216;simp only [List.length_map,List.length_append,List.length_cons,List.length_nil,List.length_take,List.length_drop,List.length_zip,List.length_reverse];omega)|(refine And.intro ?_ ?_ <;> decreasing_trivial_pre_omega)|exact rfl)
local macro_rules | `(tactic| array_mem_dec)=> `(tactic| first
 | refine Wp.go ?_
 | ((refine VA.go ?_ ?_);focus (first | exact True.intro|decreasing_trivial_pre_omega))
 | ((with_reducible apply And.intro);focus decreasing_trivial_pre_omega)
 | ((with_reducible apply s_ifdT);focus decide)
 | ((with_reducible apply mR);focus decide)
 | ((with_reducible apply s_ifnT);focus decide)
 | ((with_reducible apply s_ifnF);focus decide)
 | refine sW.go (λ_=> ?_) (λ_=> ?_)
 | ((with_reducible apply mS);focus assumption)
 | ((with_reducible apply jf);focus exact rfl)
 | ((with_reducible apply qX);(focus (first | exact .inl rfl|exact .inr (.inl rfl)|exact .inr (.inr (.inl rfl))|exact .inr (.inr (.inr rfl))));(focus exact rfl))
 | ((with_reducible apply qU);focus exact rfl)
 | ((with_reducible apply qT);focus exact rfl)
 | intro _
 | with_reducible rfl)
local macro_rules | `(tactic| array_get_dec)=> `(tactic| first | array_mem_dec|refine v6.go ?_|fail)
local macro_rules | `(tactic| ac_rfl)=> `(tactic| repeat' array_mem_dec)
namespace PL
open PySem L2 PyProof.Rows
abbrev W0:AS:=
 (Aq (Ay (AB (aV 0) (AB (aC (.int 1)) AL))))
def IL:AF:=Ax 1 W0
def Zd {a:PV}{Q:PV->Prop}(h:W0 ⟨λ_=>Q .non,Q,λ_=>False,λ_=>False⟩ [some (.val a)]):IL [a] Q:=h
instance{k:Int}{Q:PV->Prop}:Wp (IL [.int k] Q) (Q (fr (k:Rat))):=⟨λh=>by
 apply Zd;repeat' array_get_dec
 exact h⟩
def LM.open {n B:Nat}{cs:km C4}(p:LM n B cs):∃a r l,cs=a::r/\r≠ [] /\(a::r).getLast?=some l/\a.1<l.1:=by
 obtain⟨two,c,d,b⟩:=p;match cs,two,b with
 | a::b0::r,_,b=>exact⟨a,b0::r,_,rfl,by simp,ACE (by simp),(AAb.mp b).1 _ (ABd (Y7 (ACE (by simp))))⟩
abbrev Po:AS:=
 (Aq (fF (Aj (AY HQ (aV 1) (aC (.int 2)))) (AY Ai (aV 0) (aC (.int 1))) (AY Ai (aV 0) (aC (.int 0)))))
def EH:AF:=Ax 2 Po
def Ur {a b:PV}{Q:PV->Prop}(h:Po ⟨λ_=>Q .non,Q,λ_=>False,λ_=>False⟩ [some (.val a),some (.val b)]):EH [a,b] Q:=h
def js (b:T3)(v:PV):Prop:=v=nQ b\/v= .lst [fr b.1,fr b.2.1,fr b.2.2]
def nv (cs:km C4)(b:T3)(v:PV):Prop:=∃p w,B0 cs p/\js b w/\(v= .tup [p,w] \/v= .lst [p,w])
def VC (d:Rat×Rat)(v:PV):Prop:=v= .tup [fr d.1,fr d.2] \/v= .lst [fr d.1,fr d.2]
def wl {a:C4}{r:km C4}{v:PV}{R:PV->Prop}(hv:B0 (a::r) v)(h:∀x,(x=cor a\/x=corL a)->R x):Ai v (.int 0) R:=by
 obtain⟨f,b,hv⟩:=hv;have hx:f a=cor a\/f a=corL a:=by rcases b with rfl|rfl <;> simp
 rcases hv with rfl|rfl
 .show ZQ (HK (f a::r.map f) 0) R;rw[show HK (f a::r.map f) 0=some (f a) from B8 (j:=0) rfl];exact h _ hx
 .show ZQ (HK (f a::r.map f) 0) R;rw[show HK (f a::r.map f) 0=some (f a) from B8 (j:=0) rfl];exact h _ hx
def wm {cs:km C4}{l:C4}{v:PV}{R:PV->Prop}(hv:B0 cs v)(a:cs.getLast?=some l)(h:∀x,(x=cor l\/x=corL l)->R x):Ai v (.int (-1)) R:=by
 obtain⟨f,b,hv⟩:=hv;have hx:f l=cor l\/f l=corL l:=by rcases b with rfl|rfl <;> simp
 rcases hv with rfl|rfl
 .exact KM a (h _ hx)
 .exact KM a (h _ hx)
def c0 {x:PV}{c:C4}{R:PV->Prop}(hx:x=cor c\/x=corL c)(h:R (fr c.1)):Ai x (.int 0) R:=by rcases hx with rfl|rfl <;> exact h
def f0 {cs:km C4}{b:T3}{v:PV}{R:PV->Prop}(hv:nv cs b v)(h:∀p,B0 cs p->R p):Ai v (.int 0) R:=by obtain⟨p,w,hp,hw,hv⟩:=hv;rcases hv with rfl|rfl <;> exact h p hp
def f1 {cs:km C4}{b:T3}{v:PV}{R:PV->Prop}(hv:nv cs b v)(h:∀w,js b w->R w):Ai v (.int 1) R:=by obtain⟨p,w,hp,hw,hv⟩:=hv;rcases hv with rfl|rfl <;> exact h w hw
def b2 {b:T3}{w:PV}{R:PV->Prop}(hw:js b w)(h:R (fr b.2.2)):Ai w (.int 2) R:=by rcases hw with rfl|rfl <;> exact h
def YC {w:PV}{x y:Rat}{k:Int}(a:∀{R:PV->Prop},R (fr x)->Ai w (.int 0) R)(h1:∀{R:PV->Prop},R (fr y)->Ai w (.int 1) R){Q:PV->Prop}(q:Q (fr (if k=2 then y else x))):EH [w, .int k] Q:=by
 apply Ur;ac_rfl
 .rename_i h;rw[AAR h] at q;exact h1 q
 .rename_i h;rw[AAQ h] at q;exact a q
def Nq {d:Rat×Rat}{w:PV}{k:Int}(hw:VC d w){Q:PV->Prop}(q:Q (fr (if k=2 then d.2 else d.1))):EH [w, .int k] Q:=
 YC (λh=>by rcases hw with rfl|rfl <;> exact h) (λh=>by rcases hw with rfl|rfl <;> exact h) q
def za (x y z:Rat):kc:=decide (x-y<z)&&decide (-(x-y)<z)
def HS:AS:=
 (Aa (BO (Aj (AY jL (aV 5) (aC (.int 3)))) (Ar (DQ (B7 (AB (AR 1 Bi (AB (aV 0) AL)) (AB (AR 1 Bi (AB (aV 0) AL)) (AB (AR 1 Bi (AB (aV 0) AL)) AL))))) (Au 3)) (BO (Aj (AY jL (aV 5) (aC (.int 0)))) (Ar (AY BY (AY BY (VW (aV 3) VY (VZ (AY GX (aV 5) (aC (.int 1))))) (DQ (B7 (AB (AR 1 Bi (AB (aV 0) AL)) AL)))) (VW (aV 3) (VZ (aV 5)) VY)) (Au 3)) A0))
   (FS 4 Mn (AB (Ay (AB (aV 2) (AB (AY Ai (aV 3) (aC (.int 0))) (AB (AY Ai (aV 3) (aC (.int 1))) (AB (AY Ai (aV 3) (aC (.int 2))) AL))))) AL)))
def HR:AS:=
 (Aa (Ar (AR 2 BW (AB (aV 0) (AB (aC (.int 6)) AL))) (Au 5))
   HS)
def Jp:AS:=
 (Aa (Ar (AR 2 Cy (AB (aV 2) (AB (AR 1 FQ (AB (aV 0) AL)) AL))) (Au 2))
   HR)
def Jt:AS:=
 (Aa (LR (Aj (AY bC (Dr EA (AB (aV 4) AL)) (aV 1))) Jp)
   (Aq (Dr B4 (AB (aV 4) AL))))
def Js:AS:=
 (Aa (Mf (B7 (AB (Ay (AB (aV 2) (AB (AY Ai (aV 3) (aC (.int 0))) (AB (AY Ai (aV 3) (aC (.int 1))) (AB (AY Ai (aV 3) (aC (.int 2))) AL))))) AL)) 4)
   Jt)
def Jr:AS:=
 (Aa (Ar (DQ (B7 (AB (AR 1 Bi (AB (aV 0) AL)) (AB (AR 1 Bi (AB (aV 0) AL)) (AB (AR 1 Bi (AB (aV 0) AL)) AL))))) (Au 3))
   Js)
def FP:AS:=
 (Aa (Ar (Ay (AB (AR 2 BW (AB (aV 0) (AB (aC (.int 12)) AL))) (AB (aC (.int 1)) AL))) (Au 2))
   Jr)
def Jq:AS:=
 (Aa (BO (Aj (AY HQ (AR 2 BW (AB (aV 0) (AB (aC (.int 8)) AL))) (aC (.int 0)))) (Ar (AY Ai (DQ (B7 (AB (aC (.int 7)) (AB (aC (.int 8)) (AB (aC (.int 9)) (AB (aC (.int 12)) AL)))))) (AR 2 BW (AB (aV 0) (AB (aC (.int 4)) AL)))) (Au 1)) A0)
   FP)
def NN:AS:=
 (Aa (Ar (AY BY (aC (.int 2)) (AR 2 BW (AB (aV 0) (AB (aC (.int 4)) AL)))) (Au 1))
   Jq)
def D0:AF:=Ax 6 NN
def GA (many:Int)(B k f:ke AV)(j:ke AV)(H:2<=many)(h1:many<=12){Q:PV->Prop}(h:∀cs,Pq 12 6 600 cs->Q (BA cs)):FP {nx:=λ_=>Q .non,rt:=Q,bk:=λ_=>False,ct:=λ_=>False} [some (.val .tape),some (.val (.int many)),B,k,j,f] :=by
 refine⟨rfl,DC (by decide) (by decide) λm m0 m1=>⟨lz, ?_⟩⟩;refine⟨rfl,BL λx hx=>⟨rfl,BL λy hy=>⟨rfl,BL λz hz=>⟨lz, ?_⟩⟩⟩⟩;refine⟨lz,lz, ?_⟩;refine⟨(many-1).toNat+1,Wx (λn τ=>∃(cs:km C4) (c:C4) (f:ke AV),n+(cs.length+1)=many.toNat+1/\1<=n/\(∀d∈cs ++ [c],Jy 6 (66+48*cs.length) d)/\(Mul 6 60 c.2.1/\Mul 6 60 c.2.2.1/\Mul 6 60 c.2.2.2)/\LO (cs ++ [c])/\
  τ= [some (.val .tape),some (.val (.int many)),some (.val (fr c.1)),some (.val (.lst [fr c.2.1,fr c.2.2.1,fr c.2.2.2])),some (.own ((cs ++ [c]).map cor)),f]) ?_ ?_ _ _ ⟨[],((m:Rat),x,y,z),f, ?_, ?_, ?_, ?_, ?_, ?_⟩⟩
 .rintro τ ⟨cs,c,f,_,hn,_⟩;omega
 .rintro n τ R C ⟨cs,c,f,hn,I,hb,g,r,rfl⟩;have t:(((cs ++ [c]).map cor).length:Int)=(cs.length:Int)+1:=by simp
  refine FG (b:=decide ((((cs ++ [c]).map cor).length:Int)<many)) (λz=> ?_) (λz=> ?_)
  .have l:(((cs ++ [c]).map cor).length:Int)<many:=AA6 z;rw[t] at l;have u:=hb c (by simp);refine⟨rfl,Md λs D J E=>⟨rfl,DO ((u.m.bd (n:=12) (by omega) (by decide)).mono (by omega)) (D.mono (by omega)) ?_⟩⟩;refine⟨rfl,DC (by decide) (by decide) λw K L=> ?_⟩;have a:∀(o:G1) (x y z:Rat) (f:ke AV),o.nx=R->Mul 6 60 x->Mul 6 60 y->Mul 6 60 z->FS 4 Mn (AB (Ay (AB (aV 2) (AB (AY Ai (aV 3) (aC (.int 0))) (AB (AY Ai (aV 3) (aC (.int 1))) (AB (AY Ai (aV 3) (aC (.int 2))) AL))))) AL)
    o [some (.val .tape),some (.val (.int many)),some (.val (fr (c.1+s))),some (.val (.lst [fr x,fr y,fr z])),some (.own ((cs ++ [c]).map cor)),f] :=by
    intro o x y z f F v i A;refine⟨lz, ?_, ?_⟩
    .show _<16777216;omega
    .rw [F];have G:Mul 6 (66+48*(cs.length+1)) (c.1+s):=(u.m.add E).mono (by omega);refine C _ ⟨cs ++ [c],(c.1+s,x,y,z),f,by simp;omega,by omega, ?_,⟨v,i,A⟩,dU r ?_, ?_⟩
     .intro d hd;rcases AAg.mp hd with hd|hd
      .exact (hb d hd).mono (by simp;omega)
      .simp at hd;subst hd;have e:(cs ++ [c]).length=cs.length+1:=by simp
       rw[e];exact⟨G,v.mono (by omega),i.mono (by omega),A.mono (by omega)⟩
     .show c.1<c.1+s;grind
     .rw [AAo (l₁:=cs ++ [c])];rfl
   refine FG (b:=decide (3<w)) (λ_=> ?_) (λk=> ?_)
   .exact ⟨rfl,BL λx hx=>⟨rfl,BL λy hy=>⟨rfl,BL λz hz=>⟨lz,a _ x y z _ rfl hx hy hz⟩⟩⟩⟩
   refine FG (b:=decide (0<w)) (λj=> ?_) (λj=> ?_)
   .have M:¬3<w:=ABU k;have N:0<w:=AA6 j;have hw:w=1\/w=2\/w=3:=by omega
    rcases hw with rfl|rfl|rfl
    .exact EV ⟨rfl,BL λp hp=>⟨lz,lz,EV ⟨lz,a _ p _ _ _ rfl hp g.2.1 g.2.2⟩⟩⟩
    .exact EV ⟨rfl,BL λp hp=>⟨lz,lz,EV ⟨lz,a _ _ p _ _ rfl g.1 hp g.2.2⟩⟩⟩
    .exact EV ⟨rfl,BL λp hp=>⟨lz,lz,EV ⟨lz,a _ _ _ p _ rfl g.1 g.2.1 hp⟩⟩⟩
   .exact a _ _ _ _ _ rfl g.1 g.2.1 g.2.2
  .have l:¬(((cs ++ [c]).map cor).length:Int)<many:=ABU z;rw[t] at l;refine h (cs ++ [c]) ⟨by simp;omega,by simp;omega,λd hd=>(hb d hd).mono (by omega),r⟩
 .simp;omega
 .omega
 .intro d hd;simp at hd;subst hd;exact⟨.int (by decide) (by simp;omega),hx.mono (by decide),hy.mono (by decide),hz.mono (by decide)⟩
 .exact ⟨hx,hy,hz⟩
 .exact AER _ _
 .simp only[cor,bD,ABB,AAX,ACU];rfl
def ZU {Q:PV->Prop}(h:∀cs,Pq 12 6 600 cs->Q (BA cs)):D0 [.tape] Q:=by
 refine⟨rfl,DC (by decide) (by decide) λa d e=>⟨rfl,DC (by decide) (by decide) λb f b1=> ?_⟩⟩;refine FG (b:=decide (b=0)) (λ_=> ?_) (λ_=> ?_)
 .refine ⟨lz,rfl,DC (by decide) (by decide) λc c0 c1=> ?_⟩;have hc:c=0\/c=1\/c=2\/c=3:=by omega
  rcases hc with rfl|rfl|rfl|rfl
  .exact GA 7 _ _ _ _ (by omega) (by omega) h
  .exact GA 8 _ _ _ _ (by omega) (by omega) h
  .exact GA 9 _ _ _ _ (by omega) (by omega) h
  .exact GA 12 _ _ _ _ (by omega) (by omega) h
 .exact GA (2+a) _ _ _ _ (by omega) (by omega) h
abbrev Jo:AS:=
 (Aa (Ar (DQ (B7 (AB (Ay (AB (aC (.int 1)) (AB (aC (.int 1)) AL))) (AB (Ay (AB (aC (.int 2)) (AB (aC (.int 1)) AL))) (AB (Ay (AB (aC (.int 3)) (AB (aC (.int 2)) AL))) (AB (Ay (AB (aC (.int 1)) (AB (aC (.int 3)) AL))) (AB (Ay (AB (aC (.int 5)) (AB (aC (.int 1)) AL))) AL))))))) (Au 1))
   (Aq (Ay (AB (AY Ai (aV 1) (AR 2 BW (AB (aV 0) (AB (aC (.int 5)) AL)))) (AB (AY Ai (aV 1) (AR 2 BW (AB (aV 0) (AB (aC (.int 5)) AL)))) AL)))))
def Dz:AF:=Ax 2 Jo
def OY {a:PV}{Q:PV->Prop}(h:Jo ⟨λ_=>Q .non,Q,λ_=>False,λ_=>False⟩ [some (.val a),none]):Dz [a] Q:=h
def gg {xs:km PV}{k:Int}{R:PV->Prop}(a:0<=k)(h1:k<xs.length)(h:∀x∈xs,R x):Ai (.lst xs) (.int k) R:=by show ZQ (HK xs k) R;have hk:xs[k.toNat]? =some (xs[k.toNat]'(by omega)):=AAm (by omega);have e:=B8 hk;rw[show ((k.toNat:Nat):Int)=k by omega] at e;rw[e];exact h _ (AC4 _)
def RX {xs:km Rat}{k:Int}{R:PV->Prop}(a:0<=k)(h1:k<xs.length)(h:∀x∈xs,R (fr x)):Ai (.lst (xs.map fr)) (.int k) R:=by refine gg a (by simpa using h1) λx hx=> ?_;obtain⟨y,hy,rfl⟩:=AAd.mp hx;exact h y hy
section
variable {τ:BD}
instance{i:Nat}{xs:km PV}{P:km PV->Prop}[h:jF τ i (.own xs)] :Wp (Np i τ P) (P xs):=⟨λk=>by unfold Np;rw[h.e];exact k⟩
end
abbrev O1:AS:=
 (Aa (Ar (AR 2 E1 (AB (AY Ai (AY Ai (aV 0) (Mh E9 (aC (.int 1)))) (aC (.int 0))) (AB (AY Ai (AY Ai (aV 1) (Mh E9 (aC (.int 1)))) (aC (.int 0))) AL))) (Au 3))
   (Aq (fF (Aj (AR 2 Ao (AB (aV 2) (AB (aV 3) AL)))) (Ay (AB (aV 2) (AB (aV 3) AL))) (aC .non))))
abbrev NW:AS:=
 (Aa (Ar (AR 2 Cv (AB (AY Ai (AY Ai (aV 0) (aC (.int 0))) (aC (.int 0))) (AB (AY Ai (AY Ai (aV 1) (aC (.int 0))) (aC (.int 0))) AL))) (Au 2))
   O1)
def Dd:AF:=Ax 4 NW
def R3 {a b:PV}{Q:PV->Prop}(h:NW ⟨λ_=>Q .non,Q,λ_=>False,λ_=>False⟩ [some (.val a),some (.val b),none,none]):Dd [a,b] Q:=h
abbrev Qu:AS:=
 (Aa (Ar (AR 2 EI (AB (aV 1) (AB (aV 3) AL))) (Au 5))
   (Aq (DQ (CF (Te (AB (aC (.int 3)) AL)) 1 [2,4,5] (Au 0) D5 (AR 2 JF (AB (AR 2 D3 (AB (AY Ai (aV 2) (aV 0)) (AB (AY Ai (aV 3) (aV 0)) AL))) (AB (AR 2 EH (AB (aV 1) (AB (aV 0) AL))) AL)))))))
abbrev Pk:AS:=
 (Aa (Ar (AR 2 EI (AB (aV 0) (AB (aV 3) AL))) (Au 4))
   Qu)
def F0:AF:=Ax 6 Pk
def Uo {a b c d:PV}{Q:PV->Prop}(h:Pk ⟨λ_=>Q .non,Q,λ_=>False,λ_=>False⟩ [some (.val a),some (.val b),some (.val c),some (.val d),none,none]):F0 [a,b,c,d] Q:=h
def absR (r:Rat):Rat:=if r<0 then -r else r
def Bd.absR {n:Nat}{r:Rat}(h:Bd n r):Bd n (absR r):=by unfold PL.absR;split;exact h.neg;exact h
def JQ (p q:T3)(d:Rat×Rat):T3:=((p.1-q.1)/d.1,(p.2.1-q.2.1)/d.1,(p.2.2-q.2.2)/d.2)
def gI (o:T3):Rat:=mx (mx (mx 0 (absR o.1)) (absR o.2.1)) (absR o.2.2)
def eY (a l b c:C4)(m:Rat):Prop:=(¬m<a.1/\¬m<b.1)/\m<l.1/\m<c.1
instance {a l b c:C4}{m:Rat}:Decidable (eY a l b c m):=by unfold eY;infer_instance
def gy {cs ds:km C4}{v w u:PV}{d:Rat×Rat}{m:Rat}{p a:T3}(hv:B0 cs v)(hw:B0 ds w)(hu:VC d u)(hc:∀c∈cs,Ds 150 c)(b:∀c∈ds,Ds 150 c)(e:LO cs)(f:LO ds)(i:cs≠ [])(j:ds≠ [])(hl:cs.length<=100)(o:ds.length<=100)(bm:Bd 200 m)(b1:Bd 100 d.1)(b2:Bd 100 d.2)(p1:d.1≠0)(p2:d.2≠0)(g:spotC cs m=some p)(h:spotC ds m=some a){Q:PV->Prop}(q:Q (.lst [fr (JQ p a d).1,fr (JQ p a d).2.1,fr (JQ p a d).2.2])):F0 [v,w,u,fr m] Q:=by
 have t1:=FE.spotC bm e hc p g;have t2:=FE.spotC bm f b a h;have k:=t1.x;have l:=t1.y;have n:=t1.z;have y1:=t2.x;have y2:=t2.y;have y3:=t2.z;have r:=k.sub y1;have s:=l.sub y2;have t:=n.sub y3;apply Uo;ac_rfl;refine Eo hv hc e i (by omega) bm (by decide) ?_;rw[g,show MR (some p)= .tup [fr p.1,fr p.2.1,fr p.2.2] from rfl];ac_rfl;refine Eo hw b f j (by omega) bm (by decide) ?_;rw[h,show MR (some a)= .tup [fr a.1,fr a.2.1,fr a.2.2] from rfl];ac_rfl;rw[show rng 0 (Int.toNat 3)= [.int 0, .int 1, .int 2] from rfl];repeat' array_get_dec
 refine Nq hu ?_;rw[AAQ (by decide)];repeat' array_get_dec
 refine Nq hu ?_;rw[AAQ (by decide)];repeat' array_get_dec
 refine Nq hu ?_;rw[AAR (by decide)];repeat' array_get_dec
 exact q
def U3 {a l b c:C4}{r r2:km C4}{v w:PV}(hv:B0 (a::r) v)(hw:B0 (b::r2) w)(e:(a::r).getLast?=some l)(d:(b::r2).getLast?=some c)(j:Bd 3000 a.1)(k:Bd 3000 l.1)(f:Bd 3000 b.1)(g:Bd 3000 c.1){Q:PV->Prop}(h:mx a.1 b.1<mn l.1 c.1->Q (.tup [fr (mx a.1 b.1),fr (mn l.1 c.1)]))(i:¬mx a.1 b.1<mn l.1 c.1->Q .non):Dd [v,w] Q:=by
 apply R3;ac_rfl;refine wl hv λx hx=> ?_;ac_rfl;refine c0 hx ?_;ac_rfl;refine wl hw λx hx=> ?_;ac_rfl;refine c0 hx ?_;ac_rfl;refine wm hv e λx hx=> ?_;ac_rfl;refine c0 hx ?_;ac_rfl;refine wm hw d λx hx=> ?_;ac_rfl;refine c0 hx ?_;ac_rfl
 .exact h ‹_›
 .exact i ‹_›
abbrev LB:AS:=
 (Aa (Ar (AY PB (AY BY (aV 2) (aV 3)) (aC (.int 2))) (Au 4))
   (BO (Aj (AR 2 Ao (AB (AY Ai (aV 0) (aV 4)) (AB (aV 1) AL)))) (Ar (AY BY (aV 4) (aC (.int 1))) (Au 2)) (Ar (aV 4) (Au 3))))
abbrev LD:AS:=
 (Aa (LR (Aj (AY bC (aV 2) (aV 3))) LB)
   (Aq (aV 2)))
abbrev LC:AS:=
 (Aa (Ar (Dr EA (AB (aV 0) AL)) (Au 3))
   LD)
abbrev Im:AS:=
 (Aa (Ar (aC (.int 0)) (Au 2))
   LC)
def DP:AF:=Ax 5 Im
def Mu {a b:PV}{Q:PV->Prop}(h:Im ⟨λ_=>Q .non,Q,λ_=>False,λ_=>False⟩ [some (.val a),some (.val b),none,none,none]):DP [a,b] Q:=h
abbrev MF:AS:=
 (Aa (Ar (Yd (AR 2 DP (AB (aV 1) (AB (aV 2) AL)))) (Au 3))
   (BO (Td (D9 (Aj (AY HQ (aV 3) (Dr EA (AB (aV 1) AL)))) (Aj (AY PD (AY Ai (aV 1) (aV 3)) (aV 2))))) (FS 1 cP (AB (aV 3) (AB (aV 2) AL))) A0))
abbrev TJ:AS:=
 (Aa (Fe (HP (aV 0)) (Au 2) MF)
   (Aq (aV 1)))
abbrev TH:AS:=
 (Aa (Mf (B7 AL) 1)
   TJ)
def F4:AF:=Ax 4 TH
def WY {a:PV}{Q:PV->Prop}(h:TH ⟨λ_=>Q .non,Q,λ_=>False,λ_=>False⟩ [some (.val a),none,none,none]):F4 [a] Q:=h
abbrev S3:AS:=
 (Aa (VT 3 oW (aT (aV 1) (aV 4) (aV 5)))
   (FS 2 Mn (AB (Ay (AB (aV 4) (AB (aV 5) (AB (aV 3) AL)))) AL)))
abbrev S6:AS:=
 (Aa (Fe (HP (AR 1 F4 (AB (DQ (CF (HP (DQ (VU (AB (aV 1) AL)))) 2 [] (JH 2 (Ae (Au 0) (Ae (Au 1) Bx))) D5 (aV 0))) AL))) (Au 4) (Fe (HP (Ay (AB (aC (.int 0)) (AB (aC (.int 1)) AL)))) (Au 5) (BO (Aj (fo (aV 4) (aV 5) (aV 1))) S3 A0)))
   (Aq (aV 2)))
abbrev S5:AS:=
 (Aa (Ar (aC (.int 0)) (Au 3))
   S6)
abbrev S4:AS:=
 (Aa (Mf (B7 AL) 2)
   S5)
abbrev S2:AS:=
 (Aa (Ar (AR 1 IJ (AB (aV 0) AL)) (Au 1))
   S4)
def HZ:AF:=Ax 6 S2
def WW {a:PV}{Q:PV->Prop}(h:S2 ⟨λ_=>Q .non,Q,λ_=>False,λ_=>False⟩ [some (.val a),none,none,none,none,none]):HZ [a] Q:=h
abbrev Qf:AS:=
 (Aa (FS 2 Mn (AB (Ay (AB (AY Ai (aV 3) (aC (.int 0))) (AB (AY Ai (aV 3) (aC (.int 1))) (AB (aV 4) AL)))) AL))
   (Ar (aC .non) (Au 3)))
abbrev GO:AS:=
 (Aa (BO (Aj (AY To (aV 3) (aC .non))) (FS 2 Mn (AB (Ay (AB (AY Ai (aV 3) (aC (.int 0))) (AB (AY Ai (aV 3) (aC (.int 1))) (AB (aC .non) AL)))) AL)) A0)
   (Aq (Dr B4 (AB (aV 2) AL))))
abbrev Qi:AS:=
 (Aa (Fe (HP (AR 1 HZ (AB (aV 0) AL))) (JH 3 (Ae (Au 4) (Ae (Au 5) (Ae (Au 6) Bx)))) (BO (KC (Aj (AY Vn (aV 3) (aC .non))) (Aj (AY kN (aV 6) (aV 1)))) (Ar (Ay (AB (aV 4) (AB (AY GX (aC (.int 1)) (aV 5)) AL))) (Au 3)) (BO (KC (Aj (AY To (aV 3) (aC .non))) (Aj (AY bC (aV 6) (aV 1)))) Qf A0)))
   GO)
abbrev Qg:AS:=
 (Aa (Ar (aC .non) (Au 3))
   Qi)
abbrev Pg:AS:=
 (Aa (Mf (B7 AL) 2)
   Qg)
def Ew:AF:=Ax 7 Pg
def Uj {a b:PV}{Q:PV->Prop}(h:Pg ⟨λ_=>Q .non,Q,λ_=>False,λ_=>False⟩ [some (.val a),some (.val b),none,none,none,none,none]):Ew [a,b] Q:=h
abbrev NX:AS:=
 (Aq (AR 2 Ew (AB (aV 0) (AB (aC (.int 1)) AL))))
def E4:AF:=Ax 1 NX
def R4 {a:PV}{Q:PV->Prop}(h:NX ⟨λ_=>Q .non,Q,λ_=>False,λ_=>False⟩ [some (.val a)]):E4 [a] Q:=h
def ins:km Rat->Rat->km Rat
 | [],x=> [x]
 | q::r,x=>if q<x then q::ins r x else if q=x then q::r else x::q::r
abbrev RD (qs:km Rat):Prop:=qs.Pairwise (· < ·)
theorem Re {x y:Rat}:∀{qs:km Rat},y∈ins qs x↔y=x\/y∈qs
 | [] =>by simp[ins]
 | q::r=>by
   unfold ins;split
   .rw [AAT,Re,AAT];grind
   .split
    .rename_i h;subst h;simp
    .simp
theorem YG {x:Rat}:∀{qs:km Rat},RD qs->RD (ins qs x)
 | [],_=>by simp[ins]
 | q::r,h=>by
   obtain⟨h1,h2⟩:=AAb.mp h;unfold ins;split
   .rename_i hq;refine AAb.mpr ⟨λy hy=> ?_,YG h2⟩;rcases Re.mp hy with rfl|hy
    .exact hq
    .exact h1 y hy
   .split
    .exact h
    .refine AAb.mpr ⟨λy hy=> ?_,h⟩;rcases AAT.mp hy with rfl|hy
     .grind
     .have:=h1 y hy;grind
theorem Xh {x:Rat}:∀{qs:km Rat},(ins qs x).length<=qs.length+1
 | [] =>by simp[ins]
 | q::r=>by
   have:=Xh (x:=x) (qs:=r);unfold ins;split
   .simp;omega
   .split <;> simp
structure At (qs:List Rat) (x:Rat) (k:Nat):Prop where
 le:k<=qs.length
 lo:∀q∈qs.take k,q<x
 hi:∀q∈qs.drop k,¬q<x
theorem Va:∀{qs:km Rat} {x:Rat} {k:Nat},RD qs->At qs x k->ins qs x=if qs[k]? =some x then qs else qs.take k++x::qs.drop k
 | [],x,k,_,h=>by have:=h.le;simp at this;subst this;simp[ins]
 | q::r,x,0,_,h=>by
   have:=h.hi q (by simp);unfold ins;rw[AAQ this];by_cases e:q=x
   .rw [AAR e,AAR (by simp[e])]
   .rw [AAQ e,AAQ (by simp[e])];rfl
 | q::r,x,k+1,hs,h=>by have hq:=h.lo q (by simp);have ih:=Va (qs:=r) (x:=x) (k:=k) (AAb.mp hs).2 ⟨by have:=h.le;simp at this;exact this,λy hy=>h.lo y (by simp[hy]),λy hy=>h.hi y (by simpa using hy)⟩;unfold ins;rw[AAR hq,ih];simp only[List.getElem?_cons_succ,ADG,List.drop_succ_cons];split <;> rfl
theorem Se:∀{a b:km Rat},RD a->RD b->(∀x,x∈a↔x∈b)->a=b
 | [], [],_,_,_=>rfl
 | [],y::b,_,_,h=>by have:=(h y).mpr (by simp);simp at this
 | x::a, [],_,_,h=>by have:=(h x).mp (by simp);simp at this
 | x::a,y::b,ha,hb,h=>by
   obtain⟨f,g⟩:=AAb.mp ha;obtain⟨b1,b2⟩:=AAb.mp hb;have c:x=y:=by
    rcases AAT.mp ((h x).mp (by simp)) with e|e
    .exact e
    .rcases AAT.mp ((h y).mpr (by simp)) with d|d
     .exact d.symm
     .have:=b1 x e;have:=f y d;grind
   subst c;congr 1;refine Se g b2 λz=>⟨λhz=> ?_,λhz=> ?_⟩
   .rcases AAT.mp ((h z).mp (by simp[hz])) with e|e
    .subst e;have:=f z hz;grind
    .exact e
   .rcases AAT.mp ((h z).mpr (by simp[hz])) with e|e
    .subst e;have:=b1 z hz;grind
    .exact e
def Cf (xs:km Rat):km Rat:=xs.foldl ins []
theorem NC:∀(xs qs:km Rat),RD qs->RD (xs.foldl ins qs)/\(∀y,y∈xs.foldl ins qs↔y∈xs\/y∈qs)/\(xs.foldl ins qs).length<=qs.length+xs.length
 | [],qs,h=>⟨h,by simp,by simp⟩
 | x::xs,qs,h=>by
   obtain⟨h1,h2,a⟩:=NC xs (ins qs x) (YG h);refine⟨h1,λy=> ?_, ?_⟩
   .rw [ABW,h2,Re,AAT];grind
   .have:=Xh (x:=x) (qs:=qs);rw[ABW,AAn];omega
def CM {xs:km Rat}:RD (Cf xs):=(NC xs [] .nil).1
def CL {xs:km Rat}{y:Rat}:y∈Cf xs↔y∈xs:=by rw[Cf,(NC xs [] .nil).2.1];simp
def GC {xs:km Rat}:(Cf xs).length<=xs.length:=by have:=(NC xs [] .nil).2.2;unfold Cf;simpa using this
def dW {a b:km Rat}(h:∀x,x∈a↔x∈b):Cf a=Cf b:=Se CM CM λx=>by rw[CL,CL,h]
theorem YK:∀{qs:km Rat} {m:Nat} {c x:Rat},RD qs->qs[m]? =some c->c<x->∀q∈qs.take (m+1),q<x
 | [],m,c,x,_,e,_=>by simp at e
 | a::r,0,c,x,_,e,h=>by simp at e;subst e;simp[h]
 | a::r,m+1,c,x,hs,e,h=>by
   obtain⟨h1,h2⟩:=AAb.mp hs;have b:r[m]? =some c:=by simpa using e
   intro q hq;rw[ADG] at hq;rcases AAT.mp hq with rfl|hq
   .have:=h1 c (AA4 b);grind
   .exact YK h2 b h q hq
theorem XU:∀{qs:km Rat} {m:Nat} {c x:Rat},RD qs->qs[m]? =some c->¬c<x->∀q∈qs.drop m,¬q<x
 | [],m,c,x,_,e,_=>by simp at e
 | a::r,0,c,x,hs,e,h=>by
   simp at e;subst e;intro q hq;rcases AAT.mp hq with rfl|hq
   .exact h
   .have:=(AAb.mp hs).1 q hq;grind
 | a::r,m+1,c,x,hs,e,h=>by intro q hq;exact XU (AAb.mp hs).2 (by simpa using e) h q (by simpa using hq)
def ao {qs:km Rat}{x:Rat}{B M:Nat}(hs:RD qs)(hl:qs.length<=1000000)(hq:∀q∈qs,Bd B q)(hx:Bd M x)(r:B<=4000)(hM:M<=4000){Q:PV->Prop}(q:∀k:Nat,At qs x k->Q (.int k)):DP [.lst (qs.map fr),fr x] Q:=by
 apply Mu;repeat' array_get_dec
 refine rA (λn τ=>∃(lo hi:Nat) (z:ke AV),hi-lo<n/\lo<=hi/\hi<=qs.length/\(∀q∈qs.take lo,q<x)/\(∀q∈qs.drop hi,¬q<x)/\τ= [some (.val (.lst (qs.map fr))),some (.val (fr x)),some (.val (.int lo)),some (.val (.int hi)),z]) ?_ ?_ (n:=qs.length+1) ⟨0,qs.length,none,by omega,by omega,by omega,by simp,by simp,rfl⟩
 .rintro n τ R d ⟨lo,hi,z,h1,h2,i,f,g,rfl⟩;have j:frz [some (.val (.lst (qs.map fr))),some (.val (fr x)),some (.val (.int lo)),some (.val (.int hi)),z] = [some (.val (.lst (qs.map fr))),some (.val (fr x)),some (.val (.int lo)),some (.val (.int hi)),gG z] :=rfl;rw[j];repeat' array_get_dec
  .rename_i l;refine⟨⟨by decide,by decide⟩, ?_⟩;have o:((lo:Int)+hi).fdiv 2=((lo+hi)/2:Nat):=by rw[ABw _ (by decide)];omega
   rw[o];have m1:(lo+hi)/2<hi:=by omega
   have m2:lo<=(lo+hi)/2:=by omega
   generalize (lo+hi)/2=m at *;repeat' array_get_dec
   rename_i c p hc;have a:qs[m]? =some c:=p;have s:=hq c hc;repeat' array_get_dec
   .rename_i b;refine d _ ⟨m+1,hi,_,by omega,by omega,i,YK hs a b,g,rfl⟩
   .rename_i b;refine d _ ⟨lo,m,_,by omega,m2,by omega,f,XU hs a b,rfl⟩
  .rename_i l;have e:lo=hi:=by omega
   subst e;exact q lo ⟨by omega,f,g⟩
 .rintro τ ⟨lo,hi,z,h,_⟩;omega
def QM {v:PV}{xs:km Rat}{B:Nat}(hv:v= .lst (xs.map fr)\/v= .tup (xs.map fr))(hl:xs.length<=1000)(hx:∀x∈xs,Bd B x)(n:B<=4000){Q:PV->Prop}(q:Q (.lst ((Cf xs).map fr))):F4 [v] Q:=by
 apply WY;have key:∀{b f:ke AV},ED (Au 2) MF ⟨Aq (aV 1) ⟨λ_=>Q .non,Q,λ_=>False,λ_=>False⟩,Q,λ_=>False,λ_=>False⟩ (xs.map fr) [some (.val v),some (.own []),b,f] :=by
  intro b f;refine ET fr (λa vs τ=>∃b f,τ= [some (.val v),some (.own ((Cf a).map fr)),b,f]) ?_ ?_ ⟨_,_,rfl⟩
  .rintro τ ⟨b,f,rfl⟩;repeat' array_get_dec
   exact q
  .rintro a c vs e τ R o ⟨b,f,rfl⟩;have ul:a.length<=1000:=by have:=congrArg List.length e;simp at this;omega
   have s:=GC (xs:=a);have p:∀y∈Cf a,Bd B y:=λy hy=>hx y (by rw[<-e];simp[CL.mp hy]);have r:Bd B c:=hx c (by rw[<-e];simp);have g:∀(m:km Rat) b f,m=ins (Cf a) c->R [some (.val v),some (.own (m.map fr)),b,f] :=λm b f h=>o _ ⟨b,f,by rw[h,show Cf (a ++ [c])=ins (Cf a) c by unfold Cf;rw[ACj];rfl]⟩;repeat' array_get_dec
   refine ao CM (by omega) p r n n λk hk=> ?_;have t:=hk.le;have j:=Va CM hk;repeat' array_get_dec
   .rename_i h1;have l:(Cf a)[k]? =none:=AES (by omega);rw[l,AAQ (by simp)] at j;have:=g _ (some (.val (fr c))) (some (.val (.int k))) j.symm;rw[AAo,AAX,ADP,ACD] at this;exact this
   .rename_i h1 d l _ h2;have i:(Cf a)[k]? =some d:=l;rw[i,AAQ (by simpa using h2)] at j;have:=g _ (some (.val (fr c))) (some (.val (.int k))) j.symm;rw[AAo,AAX,ADP,ACD] at this;exact this
   .rename_i h1 d l _ h2;have i:(Cf a)[k]? =some d:=l;rw[i,AAR (by rw[h2])] at j;exact g _ _ _ j.symm
 rcases hv with rfl|rfl;all_goals
  ac_rfl;exact key
abbrev Pl:=Rat×Int
abbrev Bp:=Rat×Int×ke Rat
def bp (s:Bp):Pl:=(s.1,1-s.2.1)
def ep (s:Bp):ke Pl:=s.2.2.map λe=>(e,0)
def FV (p:Pl):FK:=((p.1.num,p.1.den),p.2)
def RY {p q:Pl}(h:FV p=FV q):p=q:=by obtain⟨a,i⟩:=p;obtain⟨b,j⟩:=q;unfold FV at h;simp only[AD0,Int.ofNat_inj] at h;obtain⟨⟨h1,h2⟩,c⟩:=h;have:a=b:=Rat.ext h1 h2;rw[this,c]
def oV:ke Rat->PV|none=> .non|some e=>fr e
def Gi (s:Bp):PV:= .tup [fr s.1, .int s.2.1,oV s.2.2]
def qQ (s:Bp):PV:= .lst [fr s.1, .int s.2.1,oV s.2.2]
def mM {s:Bp}{x:PV}(h:x=Gi s\/x=qQ s):X7 x=some ((s.1.num,(s.1.den:Int)),s.2.1,s.2.2.map λe=>(e.num,(e.den:Int))):=by obtain⟨b,i,e⟩:=s;rcases h with rfl|rfl <;> cases e <;> rfl
def e6 {m:km (FK×Int)}{k a:FK}{v:Int}:BS (PZ m k v) a=if a=k then some v else BS m a:=by
 unfold PZ;by_cases hk:(m.any λp=>decide (p.1=k))=true
 .rw [AAR hk];induction m with
  | nil=>simp at hk
  | cons p r ih=>
    by_cases e:p.1=k
    .by_cases b:a=k
     .subst b;simp[BS,e]
     .have:¬k=a:=λz=>b z.symm;by_cases d:(r.any λp=>decide (p.1=k))=true
      .have:=ih d;simpa[BS,e,b,this, ‹¬k=a›] using this
      .have f:r.map (λp=>if p.1=k then (p.1,v) else p)=r:=by
        conv=>rhs;rw[<-ADQ r]
        apply ABx;intro q hq;have:¬q.1=k:=λz=>d (AD1.mpr ⟨q,hq,by simpa using z⟩);rw[AAQ this];rfl
       simp only[AAX,e,ABQ,f];simp[BS,e,b,this]
    .have d:(r.any λp=>decide (p.1=k))=true:=by simpa[e] using hk
     have:=ih d;by_cases c:p.1=a
     .have:¬a=k:=λz=>e (c.trans z);simp[BS,e,c,this]
     .simpa [BS,e,c] using this
 .rw [AAQ hk];induction m with
  | nil=>
    by_cases b:a=k
    .subst b;simp[BS]
    .have:¬k=a:=λz=>b z.symm;simp[BS,b,this]
  | cons p r ih=>
    have e:¬p.1=k:=λz=>hk (by simp[z]);have d:¬(r.any λp=>decide (p.1=k))=true:=λz=>hk (by simp only[AA7,z,Bool.or_true]);have:=ih d;by_cases c:p.1=a
    .have:¬a=k:=λz=>e (c.trans z);simp[BS,c,this]
    .simpa [BS,c] using this
def gi {m:km (FK×Int)}{k a:FK}{v:Int}:a∈(PZ m k v).map (·.1)↔a=k\/a∈m.map (·.1):=by
 unfold PZ;split
 .rename_i hk;obtain⟨q,hq,e⟩:=AD1.mp hk;have e:q.1=k:=by simpa using e
  have:(m.map λp=>if p.1=k then (p.1,v) else p).map (·.1)=m.map (·.1):=by rw[ABi];apply ABx;intro p _;by_cases z:p.1=k <;> simp[z]
  rw[this];refine⟨.inr,λh=>h.elim (λz=> ?_) id⟩;rw[z,<-e];exact AAd.mpr ⟨q,hq,rfl⟩
 .rw [AAo,AAg];simp only[AAX,ACU,ABE];exact Or.comm
def jC {m:km (FK×Int)}{k:FK}:(BS m k).isSome=true↔k∈m.map (·.1):=by
 unfold BS;rw[ACg,List.find?_isSome,AAd];constructor
 .rintro ⟨p,hp,e⟩;exact⟨p,hp,by simpa using e⟩
 .rintro ⟨p,hp,e⟩;exact⟨p,hp,by simpa using e⟩
def OQ (s:Bp)(p:Pl):Int:=(if bp s=p then 1 else 0)-(if ep s=some p then 1 else 0)
def cnt (ss:km Bp)(p:Pl):Int:=(ss.map λs=>OQ s p).sum
def KW (ss:km Bp)(p:Pl):Prop:=∃s∈ss,bp s=p\/ep s=some p
def LY {m:km (FK×Int)}{k a:FK}{d:Int}:(BS (bump m k d) a).getD 0=(BS m a).getD 0+if a=k then d else 0:=by
 unfold bump;rw[e6];by_cases e:a=k
 .subst e;simp
 .simp [e]
def OE {m:km (FK×Int)}{k a:FK}{d:Int}:a∈(bump m k d).map (·.1)↔a=k\/a∈m.map (·.1):=gi
inductive HD:List PV->List Bp->Prop where
 | nil:HD [] []
 | cons {x:PV} {s:Bp} {xs:List PV} {ss:List Bp} (h:x=Gi s\/x=qQ s) (t:HD xs ss):HD (x::xs) (s::ss)
def HD.length:∀{xs:km PV} {ss:km Bp},HD xs ss->xs.length=ss.length
 | _,_, .nil=>rfl
 | _,_, .cons _ t=>by simp[t.length]
def Za (ss:km Bp):HD (ss.map Gi) ss:=by
 induction ss with
 | nil=>exact .nil
 | cons s ss ih=>exact .cons (.inl rfl) ih
def U1 {m:km (FK×Int)}{s:Bp}:(∀p,(BS (Gy m (s.1.num,(s.1.den:Int)) s.2.1 (s.2.2.map λe=>(e.num,(e.den:Int)))) (FV p)).getD 0=(BS m (FV p)).getD 0+OQ s p)/\ ∀k,k∈(Gy m (s.1.num,(s.1.den:Int)) s.2.1 (s.2.2.map λe=>(e.num,(e.den:Int)))).map (·.1)↔k∈m.map (·.1)\/∃p,(bp s=p\/ep s=some p)/\k=FV p:=by
 obtain⟨b,h,e⟩:=s;have a:∀p:Pl,(FV p=((b.num,(b.den:Int)),1-h))↔bp (b,h,e)=p:=λp=>⟨λz=>(RY (p:=p) (q:=(b,1-h)) z).symm,λz=>by rw[<-z];rfl⟩;cases e with
 | none=>
   refine⟨λp=> ?_,λk=> ?_⟩
   .show (BS (bump m ((b.num,(b.den:Int)),1-h) 1) (FV p)).getD 0=_;rw[LY];simp only[a,OQ,ep];simp
   .show k∈(bump m ((b.num,(b.den:Int)),1-h) 1).map (·.1)↔_;rw[OE];constructor
    .rintro (z|z)
     .exact .inr ⟨_, .inl rfl,z⟩
     .exact .inl z
    .rintro (z|⟨p,z|z,hk⟩)
     .exact .inr z
     .exact .inl (by rw[hk,<-z];rfl)
     .cases z
 | some e=>
   have c:∀p:Pl,(FV p=((e.num,(e.den:Int)),0))↔ep (b,h,some e)=some p:=λp=>⟨λz=>by rw[<-RY (p:=(e,0)) (q:=p) z.symm];rfl,λz=>by cases z;rfl⟩;refine⟨λp=> ?_,λk=> ?_⟩
   .show (BS (bump (bump m ((b.num,(b.den:Int)),1-h) 1) ((e.num,(e.den:Int)),0) (-1)) (FV p)).getD 0=_;rw[LY,LY];simp only[a,c,OQ];split <;> split <;> omega
   .show k∈(bump (bump m ((b.num,(b.den:Int)),1-h) 1) ((e.num,(e.den:Int)),0) (-1)).map (·.1)↔_;rw[OE,OE];constructor
    .rintro (z|z|z)
     .exact .inr ⟨(e,0), .inr rfl,z⟩
     .exact .inr ⟨_, .inl rfl,z⟩
     .exact .inl z
    .rintro (z|⟨p,z|z,hk⟩)
     .exact .inr (.inr z)
     .exact .inr (.inl (by rw[hk,<-z];rfl))
     .exact .inl (by rw[hk];exact(c p).mpr z)
theorem QY:∀{xs:km PV} {ss:km Bp} (m0:km (FK×Int)),HD xs ss->∃m,Fm xs m0=some m/\(∀p,(BS m (FV p)).getD 0=(BS m0 (FV p)).getD 0+cnt ss p)/\(∀k,k∈m.map (·.1)↔k∈m0.map (·.1)\/∃p,KW ss p/\k=FV p)/\m.length<=m0.length+2*ss.length
 | _,_,m0, .nil=>⟨m0,rfl,λp=>by simp[cnt],λk=>by simp[KW],by simp⟩
 | x::xs,s::ss,m0, .cons h t=>by
   obtain⟨m,h1,h2,d,f⟩:=QY (Gy m0 (s.1.num,(s.1.den:Int)) s.2.1 (s.2.2.map λe=>(e.num,(e.den:Int)))) t;obtain⟨t1,t2⟩:=U1 (m:=m0) (s:=s);refine⟨m, ?_,λp=> ?_,λk=> ?_, ?_⟩
   .unfold Fm;rw[mM h];exact h1
   .rw [h2,t1];simp[cnt];omega
   .rw [d,t2];constructor
    .rintro ((z|⟨p,z,e⟩)|⟨p,⟨c,a,z⟩,e⟩)
     .exact .inl z
     .exact .inr ⟨p,⟨s,by simp,z⟩,e⟩
     .exact .inr ⟨p,⟨c,by simp[a],z⟩,e⟩
    .rintro (z|⟨p,⟨c,a,z⟩,e⟩)
     .exact .inl (.inl z)
     .rcases AAT.mp a with rfl|a
      .exact .inl (.inr ⟨p,z,e⟩)
      .exact .inr ⟨p,⟨c,a,z⟩,e⟩
   .have:=MS (m:=m0) (b:=(s.1.num,(s.1.den:Int))) (h:=s.2.1) (e:=s.2.2.map λe=>(e.num,(e.den:Int)));simp only[AAn];omega
def Ox (x p:Pl):kc:=decide (x.1<p.1)||(decide (x.1=p.1)&&decide (x.2<=p.2))
def Bg (s:Bp)(p:Pl):kc:=(decide (s.1<p.1)||(decide (s.1=p.1)&&decide (0<s.2.1+p.2)))&&(match s.2.2 with | none=>true|some e=>decide (p.1<e))
structure Cr (B:Nat) (s:Bp):Prop where
 b:Bd B s.1
 h:s.2.1=0\/s.2.1=1
 e:∀e,s.2.2=some e->s.1<e/\Bd B e
def tm (s:Bp)(p:Pl):Int:=(if Ox (bp s) p=true then 1 else 0)-(if (ep s).any (Ox · p)=true then 1 else 0)
def qz {B:Nat}{s:Bp}{p:Pl}(ok:Cr B s)(hp:0<=p.2):tm s p=if Bg s p=true then 1 else 0:=by
 obtain⟨b,h,e⟩:=s;obtain⟨q,i⟩:=p;have g:h=0\/h=1:=ok.h;have hp:0<=i:=hp;have d:Ox (bp (b,h,e)) (q,i)=(decide (b<q)||(decide (b=q)&&decide (0<h+i))):=by unfold Ox bp;congr 2;exact ACd.mpr (by show 1-h<=i↔0<h+i;omega)
 cases e with
 | none=> unfold tm Bg;rw[d];simp[ep]
 | some e=>
   have j:b<e:=(ok.e e rfl).1;have f:(ep (b,h,some e)).any (Ox · (q,i))= !decide (q<e):=by
    show Ox (e,0) (q,i)=_;unfold Ox;by_cases z:q<e
    .have a:¬e<q:=by grind
     have c:¬e=q:=by grind
     simp[z,a,c]
    .by_cases a:e<q
     .simp [z,a]
     .have c:e=q:=by grind
      simp[c,hp]
   unfold tm Bg;rw[d,f];by_cases z:q<e
   .simp [z]
   .have a:b<q:=by grind
    simp[z,a]
def Hn (ss:km Bp)(p:Pl):Nat:=(ss.filter (Bg · p)).length
theorem Vz {B:Nat}{p:Pl}(hp:0<=p.2):∀{ss:km Bp},(∀s∈ss,Cr B s)->(Hn ss p:Int)=(ss.map λs=>tm s p).sum
 | [],_=>rfl
 | s::ss,h=>by
   have ih:=Vz hp (ss:=ss) λx hx=>h x (by simp[hx]);have e:=qz (p:=p) (h s (by simp)) hp;rw[AAX,ACc,<-ih,e];unfold Hn;rw[ABJ];split
   .simp;omega
   .simp
def M7 (x p:Pl):Prop:=x.1<p.1\/(x.1=p.1/\x.2<p.2)
def Lg {a b c:Pl}(h:M7 a b)(h2:M7 b c):M7 a c:=by
 unfold M7 at *;rcases h with h|⟨h,h'⟩ <;> rcases h2 with h2|⟨h2,d⟩
 .left;grind
 .left;grind
 .left;grind
 .right;exact⟨by grind,by omega⟩
def Hm {x p:Pl}:Ox x p=true↔M7 x p\/x=p:=by
 obtain⟨a,i⟩:=x;obtain⟨b,j⟩:=p;unfold Ox M7;simp only[ABe,AAh,AA1,AD0];constructor
 .rintro (h|⟨h,h2⟩)
  .exact .inl (.inl h)
  .by_cases e:i=j
   .exact .inr ⟨h,e⟩
   .exact .inl (.inr ⟨h,by omega⟩)
 .rintro ((h|⟨h,h2⟩)|⟨h,h2⟩)
  .exact .inl h
  .exact .inr ⟨h,by omega⟩
  .exact .inr ⟨h,by omega⟩
def M8 {p:Pl}:¬M7 p p:=by
 unfold M7;rintro(h|⟨_,h⟩)
 .grind
 .omega
def UK (x:Pl):ke Pl->kc|none=>false|some p=>Ox x p
def i8 (s:Bp)(o:ke Pl):Int:=(if UK (bp s) o=true then 1 else 0)-(if (ep s).any (UK · o)=true then 1 else 0)
def uK:ke Pl->Pl->Prop|none,_=>True|some q,p=>M7 q p
def K2 {x p:Pl}{o:ke Pl}(hx:UK x o=true\/x=p\/M7 p x)(a:uK o p):Ox x p=(UK x o||decide (x=p))/\¬(UK x o=true/\x=p):=by
 have h1:UK x o=true->M7 x p:=λh=>by
  cases o with
  | none=>cases h
  | some q=>rcases Hm.mp h with h|h
            .exact Lg h a
            .rw [h];exact a
 refine⟨?_,λh=>by rw[h.2] at h1;exact M8 (h1 (h.2 ▸ h.1))⟩;rw[ABf,ABe,AA1,Hm];constructor
 .rintro (h|h)
  .rcases hx with z|z|z
   .exact .inl z
   .exact .inr z
   .exact absurd (Lg h z) M8
  .exact .inr h
 .rintro (h|h)
  .exact .inl (h1 h)
  .exact .inr h
def bY {A:kc}{E:Prop}[Decidable E](h:¬(A=true/\E)):(if (A||decide E)=true then (1:Int) else 0)=(if A=true then 1 else 0)+if E then 1 else 0:=by cases A <;> by_cases e:E <;> simp_all
def i9 {s:Bp}{p:Pl}{o:ke Pl}(hb:UK (bp s) o=true\/bp s=p\/M7 p (bp s))(he:∀x,ep s=some x->UK x o=true\/x=p\/M7 p x)(a:uK o p):tm s p=i8 s o+OQ s p:=by
 obtain⟨b1,b2⟩:=K2 hb a;unfold tm i8 OQ;rw[b1,bY b2];cases e:ep s with
 | none=>simp
 | some x=>
   obtain⟨b,c⟩:=K2 (he x e) a;have h1:(if (some x).any (Ox · p)=true then (1:Int) else 0)=(if UK x o=true then 1 else 0)+if x=p then 1 else 0:=by show (if Ox x p=true then (1:Int) else 0)=_;rw[b,bY c]
   rw[h1];show _=(_-(if UK x o=true then (1:Int) else 0))+(_-(if some x=some p then (1:Int) else 0));have h2:(if some x=some p then (1:Int) else 0)=if x=p then 1 else 0:=by by_cases z:x=p <;> simp[z]
   rw[h2];omega
def YZ (X:km Pl):Prop:=X.Pairwise M7
def JD (ss:km Bp):Int->km Pl->Prop
 | _, [] =>True
 | c,p::r=>(Hn ss p:Int)=c+cnt ss p/\JD ss (Hn ss p) r
theorem YI {a:Type}(f g:a->Int):∀xs:km a,(xs.map λx=>f x+g x).sum=(xs.map f).sum+(xs.map g).sum
 | [] =>rfl
 | x::xs=>by simp only[AAX,ACc,YI f g xs];omega
theorem Nv {B:Nat}{ss:km Bp}(ok:∀s∈ss,Cr B s):∀(X:km Pl) (o:ke Pl),YZ X->(∀p∈X,uK o p/\0<=p.2)->(∀s∈ss,(UK (bp s) o=true\/bp s∈X)/\∀x,ep s=some x->UK x o=true\/x∈X)->JD ss ((ss.map λs=>i8 s o).sum) X
 | [],_,_,_,_=>True.intro
 | p::r,o,hs,ho,hk=>by
   obtain⟨h1,h2⟩:=AAb.mp hs;obtain⟨op,a⟩:=ho p (by simp);have cls:∀x,(UK x o=true\/x∈p::r)->UK x o=true\/x=p\/M7 p x:=λx h=>by
    rcases h with h|h
    .exact .inl h
    .rcases AAT.mp h with h|h
     .exact .inr (.inl h)
     .exact .inr (.inr (h1 x h))
   have e:(Hn ss p:Int)=(ss.map λs=>i8 s o).sum+cnt ss p:=by rw[Vz a ok];unfold cnt;rw[<-YI];congr 1;apply ABx;intro s hs;exact i9 (cls _ (hk s hs).1) (λx ex=>cls x ((hk s hs).2 x ex)) op
   refine⟨e, ?_⟩;have:=Nv ok r (some p) h2 (λq hq=>⟨h1 q hq,(ho q (by simp[hq])).2⟩) (λs hs=>⟨?_,λx ex=> ?_⟩)
   .rw [show (ss.map λs=>i8 s (some p)).sum=(Hn ss p:Int) from(Vz a ok).symm] at this;exact this
   .rcases cls _ (hk s hs).1 with z|z|z
    .exact .inl (by rw[show UK (bp s) (some p)=Ox (bp s) p from rfl,(K2 (.inl z) op).1,z];rfl)
    .exact .inl (Hm.mpr (.inr z))
    .rcases (hk s hs).1 with y|y
     .exact .inl (by rw[show UK (bp s) (some p)=Ox (bp s) p from rfl,(K2 (.inl y) op).1,y];rfl)
     .rcases AAT.mp y with y|y
      .exact .inl (Hm.mpr (.inr y))
      .exact .inr y
   .rcases (hk s hs).2 x ex with y|y
    .exact .inl (by rw[show UK x (some p)=Ox x p from rfl,(K2 (.inl y) op).1,y];rfl)
    .rcases AAT.mp y with y|y
     .exact .inl (Hm.mpr (.inr y))
     .exact .inr y
def places (qs:km Rat):km Pl:=qs.flatMap λq=> [(q,0),(q,1)]
def Bz {qs:km Rat}{p:Pl}:p∈places qs↔p.1∈qs/\(p.2=0\/p.2=1):=by
 obtain⟨a,i⟩:=p;unfold places;simp only[ABy,AAT,AAq,AAr,AD0];constructor
 .rintro ⟨q,hq,⟨rfl,rfl⟩|⟨rfl,rfl⟩⟩
  .exact ⟨hq, .inl rfl⟩
  .exact ⟨hq, .inr rfl⟩
 .rintro ⟨h,h2⟩;exact⟨a,h,h2.elim (λz=> .inl ⟨rfl,z⟩) (λz=> .inr ⟨rfl,z⟩)⟩
theorem EM:∀{qs:km Rat},RD qs->YZ (places qs)
 | [],_=>List.Pairwise.nil
 | q::r,h=>by
   obtain⟨h1,h2⟩:=AAb.mp h;have ih:=EM h2;have a:∀(i:Int),∀p∈places r,M7 (q,i) p:=λi p hp=> .inl (h1 _ (Bz.mp hp).1);show YZ ((q,0)::(q,1)::places r);refine AAb.mpr ⟨λp hp=> ?_,AAb.mpr ⟨a 1,ih⟩⟩;rcases AAT.mp hp with rfl|hp
   .exact .inr ⟨rfl,by show (0:Int)<1;decide⟩
   .exact a 0 p hp
def CQ (ss:km Bp):km Rat:=ss.flatMap λs=>s.1::s.2.2.toList
def DW (ss:km Bp):km Pl:=places (Cf (CQ ss))
def OF {B:Nat}{ss:km Bp}(ok:∀s∈ss,Cr B s){s:Bp}(hs:s∈ss):bp s∈DW ss/\∀x,ep s=some x->x∈DW ss:=by
 refine⟨Bz.mpr ⟨CL.mpr (ABy.mpr ⟨s,hs,by simp[bp]⟩), ?_⟩,λx ex=> ?_⟩
 .have:=(ok s hs).h;unfold bp;simp only;omega
 .obtain ⟨e,he,rfl⟩:=ACH.mp ex;exact Bz.mpr ⟨CL.mpr (ABy.mpr ⟨s,hs,by simp[he]⟩), .inl rfl⟩
def Hg {B:Nat}{ss:km Bp}(ok:∀s∈ss,Cr B s):JD ss 0 (DW ss):=by
 have h:=Nv ok (DW ss) none (EM CM) (λp hp=>⟨True.intro,by rcases (Bz.mp hp).2 with z|z <;> omega⟩) (λs hs=>⟨.inr (OF ok hs).1,λx ex=> .inr ((OF ok hs).2 x ex)⟩);have:(ss.map λs=>i8 s none).sum=0:=by
  clear h ok;induction ss with
  | nil=>rfl
  | cons s ss ih=> rw[AAX,ACc,ih];unfold i8;cases ep s <;> rfl
 rw[this] at h;exact h
def Cq (val:Pl->ke Int)(st:km (Pl×Int)×Int)(p:Pl):km (Pl×Int)×Int:=match val p with | some v=>(st.1 ++ [(p,st.2+v)],st.2+v)|none=>st
theorem So {ss:km Bp}{val:Pl->ke Int}(h1:∀p v,val p=some v->v=cnt ss p)(h2:∀p,val p=none->cnt ss p=0):∀(X:km Pl) (a:km (Pl×Int)) (c:Int),JD ss c X->(X.foldl (Cq val) (a,c)).1=a++(X.filter λp=>(val p).isSome).map λp=>(p,(Hn ss p:Int))
 | [],a,c,_=>by simp
 | p::r,a,c,h=>by
   rw[ABW];cases e:val p with
   | none=>
     have hc:(Hn ss p:Int)=c:=by rw[h.1,h2 p e];omega
     rw[show Cq val (a,c) p=(a,c) by unfold Cq;rw[e],So h1 h2 r a c (hc ▸ h.2),ABJ,AAQ (by rw[e];decide)]
   | some v=>
     have hc:c+v=(Hn ss p:Int):=by rw[h.1,h1 p v e]
     rw[show Cq val (a,c) p=(a ++ [(p,c+v)],c+v) by unfold Cq;rw[e],hc,So h1 h2 r _ _ h.2,ABJ,AAR (by rw[e];rfl),AAX,ADz];rfl
section
variable {ta tb td:AE}{r:AA}{τ:BD}{Q:PV->Prop}{QL:km PV->Prop}{m:km (FK×Int)}
def pw (xs:km PV)(Q:km PV->Prop):Prop:=match xs with | [.dct kvs] =>Q (kvs.map λp=>V4 p.1)|_=>False
instance:Wp (VU r τ QL) (r τ λxs=>pw xs QL):=⟨id⟩
instance:Wp (pw [.dct m] QL) (QL (m.map λp=>V4 p.1)):=⟨id⟩
class fk (m:List (FK×Int)) (k:FK) (i:outParam Int):Prop where
 e:BS m k=some i
def uN (m:km (FK×Int))(k:FK)(Q:PV->Prop):Prop:=match BS m k with | some i=>Q (.int i)|none=>False
instance:Wp (fo ta tb td τ Q) (ta τ λx=>tb τ λy=>td τ λm=>nN m λa=>OP x y λk=>Q (.bl (BS a k).isSome)):=⟨id⟩
instance:Wp (aT td ta tb τ Q) (td τ λm=>ta τ λx=>tb τ λy=>nN m λa=>OP x y λk=>uN a k Q):=⟨id⟩
instance{k:FK}{i:Int}[h:fk m k i] :Wp (uN m k Q) (Q (.int i)):=⟨λz=>by unfold uN;rw[h.e];exact z⟩
instance{R:km (FK×Int)->Prop}:Wp (nN (.dct m) R) (R m):=⟨id⟩
instance{q:Rat}{i:Int}{R:FK->Prop}:Wp (OP (fr q) (.int i) R) (R (FV (q,i))):=⟨id⟩
end
def eI {v:PV}{xs:km PV}{m:km (FK×Int)}(hv:v= .tup xs\/v= .lst xs)(hl:xs.length<=1000)(h:Fm xs [] =some m){Q:PV->Prop}(q:Q (.dct m)):IJ [v] Q:=by
 have hz:2*xs.length+2<sizeLine:=ABN (by omega:_<=2002) (AAs (by decide:2002<2003) (ABV rfl));rcases hv with rfl|rfl
 .exact ⟨hz,m,h,q⟩
 .exact ⟨hz,m,h,q⟩
def un (k:FK):Rat:=mkRat k.1.1 k.1.2.toNat
def m8 (p:Pl):un (FV p)=p.1:=by unfold un FV;show mkRat p.1.num ((p.1.den:Int).toNat)=p.1;rw[AB5];exact Rat.mkRat_self p.1
def lE (p:Pl):V4 (FV p)= .tup [fr p.1, .int p.2] :=rfl
def rg (x:Pl×Int):PV:= .tup [fr x.1.1, .int x.1.2, .int x.2]
def Rc (ss:km Bp)(key:Pl->kc):km (Pl×Int):=((DW ss).filter key).map λp=>(p,(Hn ss p:Int))
def Y9 {v:PV}{xs:km PV}{ss:km Bp}{B:Nat}(hv:v= .tup xs\/v= .lst xs)(F:HD xs ss)(ok:∀s∈ss,Cr B s)(hl:ss.length<=400)(I:B<=4000){Q:PV->Prop}(q:∀key:Pl->kc,(∀p,key p=true↔KW ss p)->Q (.lst ((Rc ss key).map rg))):HZ [v] Q:=by
 obtain⟨m,t1,t2,D,J⟩:=QY [] F;have hx:=F.length;have K:∀p:Pl,(BS m (FV p)).isSome=true↔KW ss p:=λp=>by
  rw[jC,D];constructor
  .rintro (z|⟨S,z,e⟩)
   .cases z
   .rw [RY e];exact z
  .exact λz=> .inr ⟨p,z,rfl⟩
 have G:=q (λp=>(BS m (FV p)).isSome) K;have i:∀p w,BS m (FV p)=some w->w=cnt ss p:=λp w e=>by have:=t2 p;rw[e] at this;simpa[BS] using this
 have M:∀p,BS m (FV p)=none->cnt ss p=0:=λp e=>by have:=t2 p;rw[e] at this;simp[BS] at this;omega
 have N:=So i M (DW ss) [] 0 (Hg ok);have mk:∀k∈m,∃p,k.1=FV p/\KW ss p:=λk hk=>by
  rcases (D k.1).mp (AAd.mpr ⟨k,hk,rfl⟩) with z|⟨p,z,e⟩
  .cases z
  .exact ⟨p,e,z⟩
 have ms:∀x,x∈m.map (λk=>un k.1)↔x∈CQ ss:=λx=>by
  rw[AAd];unfold CQ;rw[ABy];constructor
  .rintro ⟨k,hk,rfl⟩;obtain⟨p,e,s,hs,z⟩:=mk k hk;rw[e,m8];refine⟨s,hs, ?_⟩;rcases z with z|z
   .rw [<-z];simp[bp]
   .obtain ⟨T,he,rfl⟩:=ACH.mp z;simp[he]
  .rintro ⟨s,hs,hx⟩;have go:∀p:Pl,KW ss p->∃a∈m,un a.1=p.1:=λp hp=>by obtain⟨a,ha,e⟩:=AAd.mp ((D (FV p)).mpr (.inr ⟨p,hp,rfl⟩));exact⟨a,ha,by rw[e,m8]⟩
   rcases AAT.mp hx with rfl|hx
   .exact go (bp s) ⟨s,hs, .inl rfl⟩
   .have hx:s.2.2=some x:=by simpa using hx
    exact go (x,0) ⟨s,hs, .inr (by unfold ep;rw[hx];rfl)⟩
 have bm:∀x∈m.map (λk=>un k.1),Bd B x:=λx h=>by
  obtain⟨s,hs,hx⟩:=ABy.mp ((ms x).mp h);rcases AAT.mp hx with rfl|hx
  .exact (ok s hs).b
  .exact ((ok s hs).e x (by simpa using hx)).2
 have H:Cf (m.map λk=>un k.1)=Cf (CQ ss):=dW ms;have U:m.length<=800:=by simp at J;omega
 apply WW;ac_rfl;refine eI hv (by omega) t1 ?_;ac_rfl;refine DY (λk:FK×Int=>V4 k.1) fr (λk=>un k.1) (λk=>k∈m) (λk hk R A=> ?_) m [] (λ_ h=>h) ?_
 .obtain ⟨p,e,_⟩:=mk k hk;rw[e,m8] at A;rw[e,lE];repeat' array_get_dec
  exact A
 ac_rfl;rw[ABB];refine QM (.inl rfl) (by rw[AAa];omega) bm I ?_;rw[H];have W:(Cf (CQ ss)).length<=800:=by rw[<-H];exact AAl GC (by rw[AAa];omega)
 ac_rfl;refine ET fr (λd vs τ=>∃t y,τ= [some (.val v),some (.val (.dct m)),some (.own (((places d).foldl (Cq λp=>BS m (FV p)) ([],0)).1.map rg)),some (.val (.int ((places d).foldl (Cq λp=>BS m (FV p)) ([],0)).2)),t,y]) ?_ ?_ ⟨_,_,rfl⟩
 .rintro τ ⟨t,y,rfl⟩;repeat' array_get_dec
  have e:Rc ss (λp=>(BS m (FV p)).isSome)=((places (Cf (CQ ss))).foldl (Cq λp=>BS m (FV p)) ([],0)).1:=by rw[show places (Cf (CQ ss))=DW ss from rfl,N];rfl
  rw[e] at G;exact G
 .rintro d c vs e τ R A ⟨t,y,rfl⟩;have ep:places (d ++ [c])=places d ++ [(c,0),(c,1)] :=by unfold places;simp
  have es:(places (d ++ [c])).foldl (Cq λp=>BS m (FV p)) ([],0)=Cq (λp=>BS m (FV p)) (Cq (λp=>BS m (FV p)) ((places d).foldl (Cq λp=>BS m (FV p)) ([],0)) (c,0)) (c,1):=by rw[ep,ACj];rfl
  have O:((places d).foldl (Cq λp=>BS m (FV p)) ([],0)).1.length<=2*d.length:=by
   have go:∀(X:km Pl) (st:km (Pl×Int)×Int),(X.foldl (Cq λp=>BS m (FV p)) st).1.length<=st.1.length+X.length:=by
    intro X;induction X with
    | nil=>intro st;simp
    | cons p X ih=>
      intro st;have h1:=ih (Cq (λp=>BS m (FV p)) st p);have h2:(Cq (λp=>BS m (FV p)) st p).1.length<=st.1.length+1:=by unfold Cq;split <;> simp
      rw[ABW,AAn];omega
   have h1:=go (places d) ([],0);have h2:(places d).length=2*d.length:=by
    unfold places;clear A es ep e h1;induction d with
    | nil=>rfl
    | cons u d ih=>rw[AD2,AA0,ih];simp;omega
   simp at h1;omega
  have ul:d.length<=800:=by have:=congrArg List.length e;simp at this;omega
  generalize (places d).foldl (Cq λp=>BS m (FV p)) ([],0)=st at *;obtain⟨L,n⟩:=st;have j:∀(L2:km (Pl×Int)) E t y,(L2,E)=Cq (λp=>BS m (FV p)) (Cq (λp=>BS m (FV p)) (L,n) (c,0)) (c,1)->R [some (.val v),some (.val (.dct m)),some (.own (L2.map rg)),some (.val (.int E)),t,y] :=λL2 E t y h=>A _ ⟨t,y,by rw[es,<-h]⟩;clear A;have o:(Rat.num 0:Int)=0:=rfl;have r:((Rat.den 0:Nat):Int)=1:=rfl;have P:L.length<=1600:=by have h:L.length<=2*d.length:=O;omega
  cases l:BS m (FV (c,0)) with
  | none=>
    cases g:BS m (FV (c,1)) with
    | none=>
      have f:=j L n;repeat' array_get_dec
      simp only[o,r,l];repeat' array_get_dec
      simp only[o,r,g];repeat' array_get_dec
      exact f _ _ (by unfold Cq;simp only[l,g])
    | some i=>
      have f:=j (L ++ [((c,1),n+i)]) (n+i);rw[AAo] at f;haveI:fk m (FV (c,1)) i:=⟨g⟩;repeat' array_get_dec
      simp only[o,r,l];repeat' array_get_dec
      simp only[o,r,g];repeat' array_get_dec
      exact f _ _ (by unfold Cq;simp only[l,g])
  | some C=>
    haveI:fk m (FV (c,0)) C:=⟨l⟩;cases g:BS m (FV (c,1)) with
    | none=>
      have f:=j (L ++ [((c,0),n+C)]) (n+C);rw[AAo] at f;repeat' array_get_dec
      simp only[o,r,l];repeat' array_get_dec
      simp only[o,r,g];repeat' array_get_dec
      exact f _ _ (by unfold Cq;simp only[l,g])
    | some i=>
      have f:=j (L ++ [((c,0),n+C)] ++ [((c,1),n+C+i)]) (n+C+i);rw[AAo,AAo] at f;haveI:fk m (FV (c,1)) i:=⟨g⟩;repeat' array_get_dec
      simp only[o,r,l];repeat' array_get_dec
      simp only[o,r,g];repeat' array_get_dec
      exact f _ _ (by unfold Cq;simp only[l,g])
def stepI (st:km Bp×ke Pl)(x:Pl×kc):km Bp×ke Pl:=
 match st.2,x.2 with
 | none,true=>(st.1,some x.1)
 | some b,false=>(st.1 ++ [(b.1,1-b.2,some x.1.1)],none)
 | _,_=>st
def Tp (st:km Bp×ke Pl):km Bp:=match st.2 with | none=>st.1|some b=>st.1 ++ [(b.1,1-b.2,none)]
def Iv (X:km (Pl×kc)):km Bp:=Tp (X.foldl stepI ([],none))
def oQ:ke Pl->PV|none=> .non|some b=> .tup [fr b.1, .int (1-b.2)]
def Zk {st:km Bp×ke Pl}{x:Pl×kc}:(stepI st x).1.length<=st.1.length+1:=by unfold stepI;split <;> simp
theorem LX:∀(X:km (Pl×kc)) (st:km Bp×ke Pl),(X.foldl stepI st).1.length<=st.1.length+X.length
 | [],st=>by simp
 | x::X,st=>by have h1:=LX X (stepI st x);have h2:=Zk (st:=st) (x:=x);rw[ABW,AAn];omega
theorem Lh:∀{ss:km Bp},(CQ ss).length<=2*ss.length
 | [] =>by simp[CQ]
 | s::ss=>by
   have ih:=Lh (ss:=ss);unfold CQ at *;rw[AD2,AA0,AAn,AAn];have:s.2.2.toList.length<=1:=by cases s.2.2 <;> simp
   omega
theorem JV:∀{qs:km Rat},(places qs).length=2*qs.length
 | [] =>rfl
 | q::qs=>by have ih:=JV (qs:=qs);unfold places at *;rw[AD2,AA0,ih,AAn];simp;omega
def cO {ss:km Bp}{key:Pl->kc}:(Rc ss key).length<=4*ss.length:=by unfold Rc DW;rw[AAa];have h1:=ABk key (places (Cf (CQ ss)));have h2:=JV (qs:=Cf (CQ ss));have a:=GC (xs:=CQ ss);have b:=Lh (ss:=ss);omega
def Vj {v:PV}{xs:km PV}{ss:km Bp}{B:Nat}{n:Int}(hv:v= .tup xs\/v= .lst xs)(u:HD xs ss)(ok:∀s∈ss,Cr B s)(hl:ss.length<=400)(w:B<=4000){Q:PV->Prop}(q:∀key:Pl->kc,(∀p,key p=true↔KW ss p)->Q (.tup ((Iv ((Rc ss key).map λx=>(x.1,decide (n<=x.2)))).map Gi))):Ew [v, .int n] Q:=by
 apply Uj;ac_rfl;refine Y9 hv u ok hl w λkey hk=> ?_;have m:=q key hk;have y:(Rc ss key).length<=2000:=AAl cO (by omega);clear q;generalize Rc ss key=Ls at *;ac_rfl;refine ET rg (λj vs τ=>∃a d g,τ= [some (.val v),some (.val (.int n)),some (.own (((j.map λx=>(x.1,decide (n<=x.2))).foldl stepI ([],none)).1.map Gi)),some (.val (oQ ((j.map λx=>(x.1,decide (n<=x.2))).foldl stepI ([],none)).2)),a,d,g]) ?_ ?_ ⟨_,_,_,rfl⟩
 .rintro τ ⟨a,d,g,rfl⟩;have o:=LX (Ls.map λx=>(x.1,decide (n<=x.2))) ([],none);unfold Iv at m;generalize (Ls.map λx=>(x.1,decide (n<=x.2))).foldl stepI ([],none)=st at *;obtain⟨L,b⟩:=st;have r:L.length<=2000:=by have h:L.length<=0+_:=o;rw[AAa] at h;omega
  cases b with
  | none=>
    have l:Q (.tup (L.map Gi)):=m;show GO _ [some (.val v),some (.val (.int n)),some (.own (L.map Gi)),some (.val .non),a,d,g];repeat' array_get_dec
    exact l
  | some b=>
    have l:Q (.tup ((L ++ [(b.1,1-b.2,none)]).map Gi)):=m;rw[AAo] at l;show GO _ [some (.val v),some (.val (.int n)),some (.own (L.map Gi)),some (.val (.tup [fr b.1, .int (1-b.2)])),a,d,g];repeat' array_get_dec
    exact l
 .rintro j c vs e τ R t ⟨a,d,g,rfl⟩;have o:=LX (j.map λx=>(x.1,decide (n<=x.2))) ([],none);have ul:j.length<=2000:=by have:=congrArg List.length e;simp at this;omega
  have es:((j ++ [c]).map λx=>(x.1,decide (n<=x.2))).foldl stepI ([],none)=stepI ((j.map λx=>(x.1,decide (n<=x.2))).foldl stepI ([],none)) (c.1,decide (n<=c.2)):=by rw[AAo,ACj];rfl
  generalize (j.map λx=>(x.1,decide (n<=x.2))).foldl stepI ([],none)=st at *;obtain⟨L,b⟩:=st;have r:L.length<=2000:=by have h:L.length<=0+_:=o;rw[AAa] at h;omega
  have i:∀L2 b2 a d g,(L2,b2)=stepI (L,b) (c.1,decide (n<=c.2))->R [some (.val v),some (.val (.int n)),some (.own (L2.map Gi)),some (.val (oQ b2)),a,d,g] :=λL2 b2 a d g h=>t _ ⟨a,d,g,by rw[es,<-h]⟩;clear t;obtain⟨p,k⟩:=c;show JH 3 (Ae (Au 4) (Ae (Au 5) (Ae (Au 6) Bx))) (.tup [fr p.1, .int p.2, .int k]) _ _;cases b with
  | none=>
    show JH 3 (Ae (Au 4) (Ae (Au 5) (Ae (Au 6) Bx))) (.tup [fr p.1, .int p.2, .int k]) [some (.val v),some (.val (.int n)),some (.own (L.map Gi)),some (.val .non),a,d,g] _;repeat' array_get_dec
    .rename_i h;exact i L (some p) _ _ _ (by unfold stepI;simp only[AAZ h])
    .rename_i h;exact i L none _ _ _ (by unfold stepI;simp only[AAY h])
  | some b=>
    show JH 3 (Ae (Au 4) (Ae (Au 5) (Ae (Au 6) Bx))) (.tup [fr p.1, .int p.2, .int k]) [some (.val v),some (.val (.int n)),some (.own (L.map Gi)),some (.val (.tup [fr b.1, .int (1-b.2)])),a,d,g] _;repeat' array_get_dec
    .rename_i h;have f:=i (L ++ [(b.1,1-b.2,some p.1)]) none (some (.val (fr p.1))) (some (.val (.int p.2))) (some (.val (.int k))) (by unfold stepI;simp only[AAY (show ¬n<=k by omega)]);rw[AAo] at f;exact f
    .rename_i h;exact i L (some b) _ _ _ (by unfold stepI;simp only[AAZ (show n<=k by omega)])
def VR (In key:Pl->kc):kc->km Pl->Prop
 | _, [] =>True
 | c,p::r=>(key p=false->In p=c)/\VR In key (In p) r
def Wm {st:km Bp×ke Pl}{p:Pl}{i:kc}:(stepI st (p,i)).2.isSome=i:=by obtain⟨L,b⟩:=st;cases b <;> cases i <;> rfl
def Wl {st:km Bp×ke Pl}{p:Pl}{i:kc}(h:i=st.2.isSome):stepI st (p,i)=st:=by obtain⟨L,b⟩:=st;cases b <;> cases i <;> first | rfl|cases h
theorem IR {In key:Pl->kc}:∀(X:km Pl) (st:km Bp×ke Pl),VR In key st.2.isSome X->(X.map λp=>(p,In p)).foldl stepI st=((X.filter key).map λp=>(p,In p)).foldl stepI st
 | [],st,_=>rfl
 | p::r,st,h=>by
   rw[AAX,ABW,ABJ];cases k:key p with
   | true=> rw[AAR rfl,AAX,ABW];exact IR r _ (by rw[Wm];exact h.2)
   | false=> have e:=h.1 k;rw[AAQ (by decide),Wl e];exact IR r st (by have:=h.2;rw[e] at this;exact this)
theorem Jj {ss:km Bp}{key:Pl->kc}{n:Int}(hk:∀p,key p=false->cnt ss p=0):∀(X:km Pl) (c:Int),JD ss c X->VR (λp=>decide (n<=(Hn ss p:Int))) key (decide (n<=c)) X
 | [],_,_=>True.intro
 | p::r,c,h=>⟨λk=>(by show decide (n<=(Hn ss p:Int))=_;rw[h.1,hk p k,Int.add_zero]),Jj hk r _ h.2⟩
def canon (n:Int)(ss:km Bp):km Bp:=Iv ((DW ss).map λp=>(p,decide (n<=(Hn ss p:Int))))
def Tj {ss:km Bp}{p:Pl}(h:¬KW ss p):cnt ss p=0:=by
 have key:∀ss:km Bp,(∀s∈ss,¬(bp s=p\/ep s=some p))->cnt ss p=0:=by
  intro ss;induction ss with
  | nil=>intro _;rfl
  | cons s ss ih=>
    intro h;have h1:=h s (by simp);have e:cnt (s::ss) p=OQ s p+cnt ss p:=by simp[cnt]
    rw[e,ih λx hx=>h x (by simp[hx])];unfold OQ;rw[AAQ λz=>h1 (.inl z),AAQ λz=>h1 (.inr z)];rfl
 exact key ss λs hs z=>h ⟨s,hs,z⟩
def aZ {ss:km Bp}{B:Nat}{n:Int}{key:Pl->kc}(ok:∀s∈ss,Cr B s)(hn:0<n)(hk:∀p,key p=true↔KW ss p):Iv ((Rc ss key).map λx=>(x.1,decide (n<=x.2)))=canon n ss:=by
 unfold canon Iv Rc;rw[ABi];have h:=IR (In:=λp=>decide (n<=(Hn ss p:Int))) (key:=key) (DW ss) ([],none) (by
  have:=Jj (n:=n) (key:=key) (λp z=>Tj λy=>by rw[(hk p).mpr y] at z;cases z) (DW ss) 0 (Hg ok);rw[AAY (by omega)] at this;exact this)
 rw[h];rfl
def Vi {v:PV}{xs:km PV}{ss:km Bp}{B:Nat}{n:Int}(hv:v= .tup xs\/v= .lst xs)(a:HD xs ss)(ok:∀s∈ss,Cr B s)(hl:ss.length<=400)(b:B<=4000)(hn:0<n){Q:PV->Prop}(q:Q (.tup ((canon n ss).map Gi))):Ew [v, .int n] Q:=
 Vj hv a ok hl b λkey hk=>by rw[aZ ok hn hk];exact q
def U4 {v:PV}{xs:km PV}{ss:km Bp}{B:Nat}(hv:v= .tup xs\/v= .lst xs)(a:HD xs ss)(ok:∀s∈ss,Cr B s)(hl:ss.length<=400)(b:B<=4000){Q:PV->Prop}(q:Q (.tup ((canon 1 ss).map Gi))):E4 [v] Q:=by
 apply R4;repeat' array_get_dec
 exact Vi hv a ok hl b (by decide) q
def RV {ss:km Bp}{p:Pl}:decide ((1:Int)<=(Hn ss p:Int))=ss.any (Bg · p):=by
 rw[ABf,AA1,AD1];unfold Hn;constructor
 .intro h;obtain⟨s,hs⟩:=List.exists_mem_of_length_pos (l:=ss.filter (Bg · p)) (by omega);have:=ABR.mp hs;exact⟨s,this.1,this.2⟩
 .rintro ⟨s,hs,h⟩;have:=List.length_pos_of_mem (ABR.mpr ⟨hs,h⟩:s∈ss.filter (Bg · p));omega
def DU (In:Pl->kc):km Pl->ke Pl->km Bp
 | [],none=> []
 | [],some b=> [(b.1,1-b.2,none)]
 | p::r,none=>if In p=true then DU In r (some p) else DU In r none
 | p::r,some b=>if In p=true then DU In r (some b) else (b.1,1-b.2,some p.1)::DU In r none
theorem OX {In:Pl->kc}:∀(X:km Pl) (a:km Bp) (b:ke Pl),Tp ((X.map λp=>(p,In p)).foldl stepI (a,b))=a++DU In X b
 | [],a,none=>by simp[Tp,DU]
 | [],a,some b=>by simp[Tp,DU]
 | p::r,a,none=>by
   rw[AAX,ABW];unfold DU;cases e:In p with
   | true=>exact OX r a (some p)
   | false=>exact OX r a none
 | p::r,a,some b=>by
   rw[AAX,ABW];unfold DU;cases e:In p with
   | true=>exact OX r a (some b)
   | false=> show Tp ((r.map λp=>(p,In p)).foldl stepI (a ++ [(b.1,1-b.2,some p.1)],none))=a++((b.1,1-b.2,some p.1)::DU In r none);rw[OX r _ none];simp
def QN {In:Pl->kc}{X:km Pl}:Iv (X.map λp=>(p,In p))=DU In X none:=by unfold Iv;rw[OX];rfl
def M4 {q p:Pl}{e:ke Rat}(hq:q.2=0\/q.2=1)(hp:0<=p.2):Bg (q.1,1-q.2,e) p=(Ox q p&&(match e with | none=>true|some e=>decide (p.1<e))):=by unfold Bg Ox;congr 2;congr 1;exact ACd.mpr (by show 0<1-q.2+p.2↔q.2<=p.2;omega)
def JE (In:Pl->kc):kc->km Pl->Prop
 | _, [] =>True
 | c,p::r=>(c=true->In p=false->p.2=0)/\JE In (In p) r
theorem X3 {In:Pl->kc}:∀(X:km Pl),YZ X->(∀x∈X,x.2=0\/x.2=1)-> (JE In false X->(∀p:Pl,0<=p.2->(∀x∈X,M7 p x)->(DU In X none).any (Bg · p)=false)/\∀p∈X,(DU In X none).any (Bg · p)=In p)/\ (JE In true X->∀q:Pl,(q.2=0\/q.2=1)->(∀x∈X,M7 q x)->(∀p:Pl,0<=p.2->(∀x∈X,M7 p x)->(DU In X (some q)).any (Bg · p)=Ox q p)/\∀p∈X,(DU In X (some q)).any (Bg · p)=In p)
 | [],_,_=>⟨λ_=>⟨λp _ _=>rfl,λp hp=>by cases hp⟩,λ_ q hq _=>⟨λp hp _=>by show (Bg (q.1,1-q.2,none) p||false)=_;rw[M4 hq hp];simp,λp hp=>by cases hp⟩⟩
 | x::r,hs,h01=>by
   obtain⟨h1,h2⟩:=AAb.mp hs;have ih:=X3 (In:=In) r h2 λy hy=>h01 y (by simp[hy]);have j:=h01 x (by simp);have f:0<=x.2:=by omega
   have g:∀p:Pl,(∀y∈x::r,M7 p y)->∀y∈r,M7 p y:=λp h y hy=>h y (by simp[hy]);have l:∀p:Pl,M7 p x->Ox x p=false:=λp h=>by
    rw[<-Bool.not_eq_true,Hm];rintro(z|z)
    .exact M8 (Lg z h)
    .rw [z] at h;exact M8 h
   have m:Ox x x=true:=Hm.mpr (.inr rfl);refine⟨λhd=> ?_,λhd q hq k=> ?_⟩
   .unfold DU;cases e:In x with
    | true=>
      have a:=hd.2;rw[e] at a;obtain⟨b,d⟩:=ih.2 a x j h1;rw[AAR rfl];refine⟨λp c hp=> ?_,λp hp=> ?_⟩
      .rw [b p c (g p hp),l p (hp x (by simp))]
      .rcases AAT.mp hp with rfl|hp
       .rw [b p f h1,m,e]
       .exact d p hp
    | false=>
      have a:=hd.2;rw[e] at a;obtain⟨b,d⟩:=ih.1 a;rw[AAQ (by decide)];refine⟨λp c hp=>b p c (g p hp),λp hp=> ?_⟩;rcases AAT.mp hp with rfl|hp
      .rw [b p f h1,e]
      .exact d p hp
   .unfold DU;have n:Ox q x=true:=Hm.mpr (.inl (k x (by simp)));cases e:In x with
    | true=>
      have a:=hd.2;rw[e] at a;obtain⟨b,d⟩:=ih.2 a q hq (g q k);rw[AAR rfl];refine⟨λp c hp=>b p c (g p hp),λp hp=> ?_⟩;rcases AAT.mp hp with rfl|hp
      .rw [b p f h1,n,e]
      .exact d p hp
    | false=>
      have a:=hd.2;rw[e] at a;obtain⟨b,d⟩:=ih.1 a;have s:=hd.1 rfl e;rw[AAQ (by decide)];have i:∀p:Pl,(p=x\/M7 x p)->¬p.1<x.1:=λp h=>by rcases h with h|h|⟨h,_⟩ <;> grind
      refine⟨λp c hp=> ?_,λp hp=> ?_⟩
      .have o:p.1<x.1:=by
        rcases hp x (by simp) with z|⟨_,z⟩
        .exact z
        .omega
       show (Bg (q.1,1-q.2,some x.1) p||(DU In r none).any (Bg · p))=_;rw[M4 hq c,b p c (g p hp)];simp[o]
      .show (Bg (q.1,1-q.2,some x.1) p||(DU In r none).any (Bg · p))=_;rcases AAT.mp hp with rfl|hp
       .rw [M4 hq f,b p f h1,e];simp[i p (.inl rfl)]
       .rw [M4 hq (by have:=h01 p (by simp[hp]);omega),d p hp];simp[i p (.inr (h1 p hp))]
theorem Ug {In:Pl->kc}(P:Rat->Prop):∀(X:km Pl) (b:ke Pl),YZ X->(∀x∈X,(x.2=0\/x.2=1)/\P x.1)->JE In b.isSome X->(∀q,b=some q->(q.2=0\/q.2=1)/\P q.1/\∀x∈X,M7 q x)-> ∀s∈DU In X b,P s.1/\(s.2.1=0\/s.2.1=1)/\∀e,s.2.2=some e->s.1<e/\P e
 | [],none,_,_,_,_=>λs hs=>by cases hs
 | [],some q,_,_,_,hb=>λs hs=>by obtain⟨h1,h2,_⟩:=hb q rfl;simp only[DU,ABE] at hs;subst hs;exact⟨h2,by show 1-q.2=0\/1-q.2=1;omega,λe he=>by cases he⟩
 | x::r,b,hs,h01,hd,hb=>by
   obtain⟨h1,h2⟩:=AAb.mp hs;have ih:=λb d hb=>Ug (In:=In) P r b h2 (λy hy=>h01 y (by simp[hy])) d hb;have a:=hd.2;cases b with
   | none=>
     unfold DU;cases e:In x with
     | true=> rw[AAR rfl];rw[e] at a;exact ih (some x) a λq hq=>by cases hq;exact⟨(h01 x (by simp)).1,(h01 x (by simp)).2,h1⟩
     | false=> rw[AAQ (by decide)];rw[e] at a;exact ih none a λq hq=>by cases hq
   | some q=>
     obtain⟨g,c,f⟩:=hb q rfl;unfold DU;cases e:In x with
     | true=> rw[AAR rfl];rw[e] at a;exact ih (some q) a λh hq=>by cases hq;exact⟨g,c,λy hy=>f y (by simp[hy])⟩
     | false=>
       rw[AAQ (by decide)];rw[e] at a;have i:=hd.1 rfl e;intro s hs;rcases AAT.mp hs with rfl|hs
       .refine ⟨c,by show 1-q.2=0\/1-q.2=1;omega,λj he=> ?_⟩;cases he;refine⟨?_,(h01 x (by simp)).2⟩;rcases f x (by simp) with z|⟨_,z⟩
        .exact z
        .omega
       .exact ih none a (λq hq=>by cases hq) s hs
theorem JN {ss:km Bp}:∀(X:km Pl) (c:Int),(∀x∈X,x.2=0\/x.2=1)->JD ss c X->JE (λp=>ss.any (Bg · p)) (decide (1<=c)) X
 | [],_,_,_=>True.intro
 | p::r,c,h01,h=>by
   have ih:=JN r (Hn ss p) (λx hx=>h01 x (by simp[hx])) h.2;rw[RV] at ih;refine⟨λhc hi=> ?_,ih⟩;rcases h01 p (by simp) with z|z
   .exact z
   .have hc:1<=c:=by simpa using hc
    have hi:ss.any (Bg · p)=false:=hi;rw[<-RV] at hi;have hi:¬(1:Int)<=Hn ss p:=by simpa using hi
    have c0:0<=cnt ss p:=by
     have go:∀ss:km Bp,0<=cnt ss p:=by
      intro ss;induction ss with
      | nil=>exact Int.le_refl _
      | cons s ss ih=>
        have e:cnt (s::ss) p=OQ s p+cnt ss p:=by simp[cnt]
        have o:0<=OQ s p:=by
         unfold OQ;have:¬ep s=some p:=λy=>by obtain⟨b,_,a⟩:=ACH.mp y;have:(0:Int)=p.2:=congrArg Prod.snd a;omega
         rw[AAQ this];split <;> decide
        omega
     exact go ss
    have:=h.1;omega
def Sd {ss:km Bp}:∀x∈DW ss,x.2=0\/x.2=1:=λx hx=>(Bz.mp hx).2
def P3 {ss:km Bp}:canon 1 ss=DU (λp=>ss.any (Bg · p)) (DW ss) none:=by unfold canon;rw[<-QN];congr 1;apply ABx;intro p _;rw[RV]
def Ot {ss:km Bp}{B:Nat}(ok:∀s∈ss,Cr B s):JE (λp=>ss.any (Bg · p)) false (DW ss):=JN (DW ss) 0 Sd (Hg ok)
def Ve {ss:km Bp}{B:Nat}(ok:∀s∈ss,Cr B s):∀s∈canon 1 ss,s.1∈CQ ss/\(s.2.1=0\/s.2.1=1)/\∀e,s.2.2=some e->s.1<e/\e∈CQ ss:=by rw[P3];exact Ug (· ∈CQ ss) (DW ss) none (EM CM) (λx hx=>⟨Sd x hx,CL.mp (Bz.mp hx).1⟩) (Ot ok) λq hq=>by cases hq
def Xo {ss:km Bp}{B:Nat}(ok:∀s∈ss,Cr B s):∀x∈CQ ss,Bd B x:=λx h=>by
 obtain⟨s,hs,hx⟩:=ABy.mp h;rcases AAT.mp hx with rfl|hx
 .exact (ok s hs).b
 .exact ((ok s hs).e x (by simpa using hx)).2
def aa {ss:km Bp}{B:Nat}(ok:∀s∈ss,Cr B s):∀s∈canon 1 ss,Cr B s:=λs hs=>by obtain⟨h1,h2,a⟩:=Ve ok s hs;exact⟨Xo ok _ h1,h2,λe he=>⟨(a e he).1,Xo ok _ (a e he).2⟩⟩
theorem Iu (f:Rat->kc):∀qs:km Rat,(places qs).filter (λp=>f p.1)=places (qs.filter f)
 | [] =>rfl
 | q::qs=>by show ((q,0)::(q,1)::places qs).filter (λp=>f p.1)=_;rw[ABJ,ABJ,ABJ,Iu f qs];cases f q <;> rfl
def ix_any {xs:km PV}{k:Int}{R:PV->Prop}(a:0<=k)(h1:k<xs.length)(h:∀x∈xs,R x):Ai (.lst xs) (.int k) R:=by
 have hk:k.toNat<xs.length:=by omega
 have e:HK xs ((k.toNat:Nat):Int)=some xs[k.toNat] :=B8 (AAm hk);rw[show ((k.toNat:Nat):Int)=k by omega] at e;show ZQ (HK xs k) R;rw[e];exact h _ (AC4 hk)
theorem Pt:∀{qs:km Rat} {x:Rat},RD qs->At qs x (qs.filter λq=>decide (q<x)).length
 | [],x,_=>⟨AAW _,by simp,by simp⟩
 | q::r,x,h=>by
   obtain⟨h1,h2⟩:=AAb.mp h;obtain⟨d,a,b⟩:=Pt (x:=x) h2;rw[ABJ];by_cases e:q<x
   .rw [AAR (AAZ e),AAn];refine⟨by rw[AAn];omega,λy hy=> ?_,λy hy=>b y (by simpa using hy)⟩;rw[ADG] at hy;rcases AAT.mp hy with rfl|hy
    .exact e
    .exact a y hy
   .have hn:∀y∈q::r,¬y<x:=λy hy=>by
     rcases AAT.mp hy with rfl|hy
     .exact e
     .have:=h1 y hy;grind
    have c:r.filter (λq=>decide (q<x))= [] :=List.filter_eq_nil_iff.mpr λy hy=>by simpa using hn y (by simp[hy])
    rw[AAQ (by simpa using e),c];exact⟨AA3 _,by simp,λy hy=>hn y (by simpa using hy)⟩
def Di (ms:km Rat)(ss:km Bp):km Pl:=places (Cf (ms++CQ ss))
def KJ {B:Nat}{ms:km Rat}{ss:km Bp}(ok:∀s∈ss,Cr B s):JD ss 0 (Di ms ss):=by
 have c:∀s∈ss,bp s∈Di ms ss/\∀x,ep s=some x->x∈Di ms ss:=λs hs=>by
  obtain⟨h1,h2⟩:=OF ok hs;have d:∀x∈DW ss,x∈Di ms ss:=λx hx=>by obtain⟨a,b⟩:=Bz.mp hx;exact Bz.mpr ⟨CL.mpr (AAv _ (CL.mp a)),b⟩
  exact⟨d _ h1,λx ex=>d _ (h2 x ex)⟩
 have h:=Nv ok (Di ms ss) none (EM CM) (λp hp=>⟨True.intro,by rcases (Bz.mp hp).2 with z|z <;> omega⟩) (λs hs=>⟨.inr (c s hs).1,λx ex=> .inr ((c s hs).2 x ex)⟩);have z:(ss.map λs=>i8 s none).sum=0:=by
  clear h c ok;induction ss with
  | nil=>rfl
  | cons s ss ih=> rw[AAX,ACc,ih];unfold i8;cases ep s <;> rfl
 rw[z] at h;exact h
def Vd {B:Nat}{ms:km Rat}{ss:km Bp}{n:Int}(ok:∀s∈ss,Cr B s)(hn:0<n):Iv ((Di ms ss).map λp=>(p,decide (n<=(Hn ss p:Int))))=canon n ss:=by
 have hk:∀p:Pl,decide (p.1∈CQ ss)=false->cnt ss p=0:=λp hp=>Tj λ⟨s,hs,z⟩=>by
  have hp:¬p.1∈CQ ss:=by simpa using hp
  refine hp (ABy.mpr ⟨s,hs, ?_⟩);rcases z with z|z
  .rw [<-z];simp[bp]
  .obtain ⟨c,he,rfl⟩:=ACH.mp z;simp[he]
 have a:=Jj (n:=n) (ss:=ss) (key:=λp=>decide (p.1∈CQ ss)) hk (Di ms ss) 0 (KJ ok);rw[AAY (by omega)] at a;have h:=IR (Di ms ss) ([],none) a;have b:(Di ms ss).filter (λp=>decide (p.1∈CQ ss))=DW ss:=by unfold Di DW;rw[Iu (λx=>decide (x∈CQ ss))];congr 1;refine Se (CM.filter _) CM λx=> ?_;rw[ABR,CL,CL,AA1];exact⟨λh=>h.2,λh=>⟨AAv _ h,h⟩⟩
 rw[b] at h;show Tp _=Tp _;rw[h]
def Th {B:Nat}{ss:km Bp}(ok:∀s∈ss,Cr B s){p:Pl}(hp:p.2=0\/p.2=1):(canon 1 ss).any (Bg · p)=ss.any (Bg · p):=by
 have b:p∈Di [p.1] ss:=Bz.mpr ⟨CL.mpr (by simp),hp⟩;have a:∀x∈Di [p.1] ss,x.2=0\/x.2=1:=λx hx=>(Bz.mp hx).2;have c:=JN (Di [p.1] ss) 0 a (KJ ok);have e:canon 1 ss=DU (λp=>ss.any (Bg · p)) (Di [p.1] ss) none:=by rw[<-Vd (ms:= [p.1]) ok (by decide),<-QN];congr 1;apply ABx;intro q _;rw[RV]
 rw[e];exact((X3 (Di [p.1] ss) (EM CM) a).1 c).2 p b
def hN (L:km Bp)(p:Pl):Nat:=(L.filter (Bg · p)).length
theorem Mz {a:Type}(f:a->kc):∀xs:km a,Hf (xs.map λx=> .bl (f x))=some (xs.map f)
 | [] =>rfl
 | x::xs=>by show (Hf (xs.map λx=> .bl (f x))).map (f x :: ·)=_;rw[Mz f xs];rfl
def sn (xs:km PV):Er xs (some 1) none=xs.drop 1:=by
 unfold Er;rw[HT.sIx_none,show ((1:Int))=((1:Nat):Int) from rfl,HT.sIx_nat];cases xs with
 | nil=>rfl
 | cons x xs=> rw[AC6 (by simp)];simp
theorem N0:∀(X:km (Pl×kc)) (st:km Bp×ke Pl),2*(X.foldl stepI st).1.length+(if (X.foldl stepI st).2.isSome then 1 else 0)<=2*st.1.length+(if st.2.isSome then 1 else 0)+X.length
 | [],st=>AAW _
 | x::X,st=>by
   have h1:=N0 X (stepI st x);have h2:2*(stepI st x).1.length+(if (stepI st x).2.isSome then 1 else 0)<=2*st.1.length+(if st.2.isSome then 1 else 0)+1:=by obtain⟨L,b⟩:=st;obtain⟨p,c⟩:=x;cases b <;> cases c <;> simp[stepI] <;> omega
   rw[ABW,AAn];omega
def ZZ (X:km (Pl×kc)):2*(Iv X).length<=X.length+1:=by have h:=N0 X ([],none);unfold Iv;generalize X.foldl stepI ([],none)=st at *;obtain⟨L,b⟩:=st;cases b <;> simp[Tp] at * <;> omega
def Vc {n:Int}{ss:km Bp}:(canon n ss).length<=2*ss.length:=by unfold canon DW;have h:=ZZ ((places (Cf (CQ ss))).map λp=>(p,decide (n<=(Hn ss p:Int))));have a:=GC (xs:=CQ ss);have b:=Lh (ss:=ss);have c:=JV (qs:=Cf (CQ ss));rw[AAa] at h;omega
inductive J8:List PV->List (List Bp)->Prop where
 | nil:J8 [] []
 | cons {x:PV} {xs:List PV} {ss:List Bp} {r:List PV} {rs:List (List Bp)} (h:x= .tup xs\/x= .lst xs) (hr:HD xs ss) (t:J8 r rs):J8 (x::r) (ss::rs)
def J8.length:∀{xs:km PV} {ss:km (km Bp)},J8 xs ss->xs.length=ss.length
 | _,_, .nil=>rfl
 | _,_, .cons _ _ t=>by simp[t.length]
def J8.app:∀{a b:km PV} {ss d:km (km Bp)},J8 a ss->J8 b d->J8 (a++b) (ss++d)
 | _,_,_,_, .nil,h=>h
 | _,_,_,_, .cons a b c,h=> .cons a b (c.app h)
def lt_size {k n:Nat}(h:k<=n)(hn:n<1000000):k<sizeLine:=ABN h (AAs hn (ABV rfl))
def lin (p q:T3)(s:Rat):T3:=(p.1+s*(q.1-p.1),p.2.1+s*(q.2.1-p.2.1),p.2.2+s*(q.2.2-p.2.2))
def lK {a D b e m x X:Rat}(c:D≠0)(h:e-b≠0):x+(m-a)/D*X=(x+(b-a)/D*X)+(m-b)/(e-b)*((x+(e-a)/D*X)-(x+(b-a)/D*X)):=by grind
def Y1 {a c:C4}{b e m:Rat}(h1:a.1<c.1)(h2:b<e):inter a c m=lin (inter a c b) (inter a c e) ((m-b)/(e-b)):=by
 have d:c.1-a.1≠0:=by grind
 have f:e-b≠0:=by grind
 simp only[inter,lin];rw[<-lK d f,<-lK d f,<-lK d f]
def cI (p q:T3):lin p q 0=p:=by obtain⟨a,b,c⟩:=p;simp[lin,Rat.zero_mul,Rat.add_zero]
theorem L5 {b e m:Rat}{p q:T3}(f:b<e)(h1:b<=m)(h2:m<=e):∀{a:C4} {r:km C4},LO (a::r)->(∀c∈r,¬(b<c.1/\c.1<e))->spotG a r b=some p->spotG a r e=some q->spotG a r m=some (lin p q ((m-b)/(e-b)))
 | a, [],_,_,hp,_=>by cases hp
 | a,c::r,hr,hn,hp,hq=>by
   have g:=(AAb.mp hr).1 c (by simp);have h:LO (c::r):=(AAb.mp hr).2;by_cases i:c.1<b
   .simp only[spotG] at hp hq ⊢;rw[AAR i] at hp;rw[AAR (by grind)] at hq ⊢;exact L5 f h1 h2 h (λx hx=>hn x (by simp[hx])) hp hq
   .simp only[spotG] at hp hq ⊢;rw[AAQ i] at hp;by_cases k:b=c.1
    .subst k;rw[N9 g] at hp;cases hp;by_cases j:c.1<m
     .rw [AAR j];rw[AAR (by grind)] at hq;refine L5 f h1 h2 h (λx hx=>hn x (by simp[hx])) ?_ hq;cases r with
      | nil=>cases hq
      | cons d r=> have l:=(AAb.mp h).1 d (by simp);simp only[spotG];rw[AAQ (by grind),UH l]
     .have n:m=c.1:=by grind
      subst n;rw[AAQ j,N9 g];have z:(c.1-c.1)/(e-c.1)=0:=by grind
      rw[z,cI]
    .have o:¬c.1<e:=λz=>hn c (by simp) ⟨by grind,z⟩;cases hp;rw[AAQ o] at hq;cases hq;rw[AAQ (by grind)];rw[<-Y1 g f]
def QW {b e m:Rat}{p q:T3}{cs:km C4}(d:LO cs)(f:b<e)(h1:b<=m)(h2:m<=e)(hn:∀c∈cs,¬(b<c.1/\c.1<e))(hp:spotC cs b=some p)(hq:spotC cs e=some q):spotC cs m=some (lin p q ((m-b)/(e-b))):=by
 cases cs with
 | nil=>cases hp
 | cons a r=>
   simp only[spotC] at hp hq ⊢;by_cases k:b<a.1
   .rw [AAR k] at hp;cases hp
   .rw [AAQ k] at hp;rw[AAQ (by grind)] at hq ⊢;exact L5 f h1 h2 d (λc hc=>hn c (by simp[hc])) hp hq
def Cr.mono {B C:Nat}{s:Bp}(h:Cr B s)(k:B<=C):Cr C s:=⟨h.b.mono k,h.h,λe he=>⟨(h.e e he).1,(h.e e he).2.mono k⟩⟩
def tF (r s:Bp):Prop:=∃e,r.2.2=some e/\(e<s.1\/(e=s.1/\s.2.1=0))
def Sep (ss:km Bp):Prop:=ss.Pairwise tF
def aX (q:Pl)(e:ke Rat):bp (q.1,1-q.2,e)=q:=by obtain⟨a,b⟩:=q;show (a,1-(1-b))=(a,b);rw[show 1-(1-b)=b by omega]
theorem GB {In:Pl->kc}:∀(X:km Pl) (b:ke Pl),∀s∈DU In X b,bp s∈X\/b=some (bp s)
 | [],none=>λs hs=>by cases hs
 | [],some q=>λs hs=>by simp only[DU,ABE] at hs;subst hs;exact .inr (by rw[aX])
 | x::r,none=>λs hs=>by
   unfold DU at hs;split at hs
   .rcases GB r (some x) s hs with h|h
    .exact .inl (by simp[h])
    .cases h;exact .inl (by simp)
   .rcases GB r none s hs with h|h
    .exact .inl (by simp[h])
    .cases h
 | x::r,some q=>λs hs=>by
   unfold DU at hs;split at hs
   .rcases GB r (some q) s hs with h|h
    .exact .inl (by simp[h])
    .exact .inr h
   .rcases AAT.mp hs with rfl|hs
    .exact .inr (by rw[aX])
    .rcases GB r none s hs with h|h
     .exact .inl (by simp[h])
     .cases h
theorem X4 {In:Pl->kc}:∀(X:km Pl) (b:ke Pl),YZ X->(∀x∈X,x.2=0\/x.2=1)->JE In b.isSome X->Sep (DU In X b)
 | [],none,_,_,_=> .nil
 | [],some q,_,_,_=>AER _ _
 | x::r,b,hs,h01,hd=>by
   obtain⟨h1,h2⟩:=AAb.mp hs;have ih:=λb d=>X4 (In:=In) r b h2 (λy hy=>h01 y (by simp[hy])) d;have a:=hd.2;cases b with
   | none=>
     unfold DU;cases e:In x with
     | true=>rw[AAR rfl];rw[e] at a;exact ih (some x) a
     | false=>rw[AAQ (by decide)];rw[e] at a;exact ih none a
   | some q=>
     unfold DU;cases e:In x with
     | true=>rw[AAR rfl];rw[e] at a;exact ih (some q) a
     | false=>
       rw[AAQ (by decide)];rw[e] at a;have g:=hd.1 rfl e;refine AAb.mpr ⟨λs hs=> ?_,ih none a⟩;rcases GB r none s hs with h|h
       .refine ⟨x.1,rfl, ?_⟩;have k:=h1 _ h;have c:=h01 _ (AA9 x h);have c:1-s.2.1=0\/1-s.2.1=1:=c;rcases k with k|⟨k,f⟩
        .exact .inl k
        .have f:x.2<1-s.2.1:=f;exact .inr ⟨k,by omega⟩
       .cases h
def Yk {B:Nat}{ss:km Bp}(ok:∀s∈ss,Cr B s):Sep (canon 1 ss):=by rw[P3];exact X4 (DW ss) none (EM CM) Sd (Ot ok)
def Db {B:Nat}{s:Bp}{m x:Rat}(os:Cr B s)(hx:s.2.2=some x):Bg s (m,0)=true↔(s.1<m\/(s.1=m/\s.2.1=1))/\m<x:=by
 unfold Bg;rw[hx];have:0<s.2.1+0↔s.2.1=1:=by have:=os.h;omega
 simp only[AAh,ABe,ACW,this]
section
variable {B:Nat}{s:Bp}{a:km Bp}{e:Rat}
theorem Dh (h:Sep (s::a))(ok:∀t∈s::a,Cr B t)(b:∀t∈s::a,∃x,t.2.2=some x)(he:s.2.2=some e){m:Rat}(g:m<=e):a.any (Bg · (m,0))=false:=by
 rw[AB2];intro t c z;obtain⟨x,hx⟩:=b t (by simp[c]);have k:=(Db (ok t (by simp[c])) hx).mp z;obtain⟨i,h1,h2⟩:=(AAb.mp h).1 t c;rw[he] at h1;cases h1;rcases h2 with h2|⟨h2,j⟩
 .rcases k.1 with d|⟨d,f⟩ <;> grind
 .rcases k.1 with d|⟨d,f⟩
  .grind
  .omega
end
def Ho {a b:Rat}(h:a<b):a<(a+b)/2/\(a+b)/2<b:=⟨by grind,by grind⟩
def QP {B C:Nat}{s t:Bp}{a b:km Bp}{e f:Rat}(ha:Sep (s::a))(d:∀x∈s::a,Cr B x)(o:∀x∈s::a,∃y,x.2.2=some y)(hb:Sep (t::b))(c:∀x∈t::b,Cr C x)(l:∀x∈t::b,∃y,x.2.2=some y)(he:s.2.2=some e)(g:t.2.2=some f)(h:∀m:Rat,(s::a).any (Bg · (m,0))=(t::b).any (Bg · (m,0))):¬s.1<t.1:=by
 intro z;have os:=d s (by simp);have j:=c t (by simp);have i:=(os.e e he).1;have p:=(j.e f g).1;obtain⟨m,m1,m2,m3⟩:∃m,s.1<m/\m<e/\m<t.1:=by
  by_cases w:e<t.1
  .exact ⟨_,(Ho i).1,(Ho i).2,by have:=(Ho i).2;grind⟩
  .exact ⟨_,(Ho z).1,by have:=(Ho z).2;grind,(Ho z).2⟩
 have k:=h m;rw[AA7,AA7,(Db os he).mpr ⟨.inl m1,m2⟩,Dh hb c l g (by grind)] at k;have n:Bg t (m,0)=false:=ADR.mpr λy=>by have:=(Db j g).mp y;grind
 rw[n] at k;simp at k
theorem Ol {B C:Nat}:∀{a b:km Bp},Sep a->Sep b->(∀x∈a,Cr B x)->(∀x∈b,Cr C x)->(∀x∈a,∃y,x.2.2=some y)->(∀x∈b,∃y,x.2.2=some y)->(∀m:Rat,a.any (Bg · (m,0))=b.any (Bg · (m,0)))->a=b
 | [], [],_,_,_,_,_,_,_=>rfl
 | s::a, [],_,_,ok,_,fa,_,h=>by obtain⟨e,he⟩:=fa s (by simp);have os:=ok s (by simp);have l:=Ho (os.e e he).1;have k:=h ((s.1+e)/2);rw[AA7,(Db os he).mpr ⟨.inl l.1,l.2⟩] at k;simp at k
 | [],s::a,_,_,_,ok,_,fa,h=>by obtain⟨e,he⟩:=fa s (by simp);have os:=ok s (by simp);have l:=Ho (os.e e he).1;have k:=h ((s.1+e)/2);rw[AA7,(Db os he).mpr ⟨.inl l.1,l.2⟩] at k;simp at k
 | s::a,t::b,ha,hb,oka,okb,fa,fb,h=>by
   obtain⟨e,he⟩:=fa s (by simp);obtain⟨f,c⟩:=fb t (by simp);have os:=oka s (by simp);have d:=okb t (by simp);have u:=(os.e e he).1;have E:=(d.e f c).1;have F:=QP ha oka fa hb okb fb he c h;have G:=QP hb okb fb ha oka fa c he λm=>(h m).symm;have i:s.1=t.1:=by grind
   have A:∀m,(s::a).any (Bg · (m,0))=(Bg s (m,0)||a.any (Bg · (m,0))):=λm=>by rw[AA7]
   have g:∀m,(t::b).any (Bg · (m,0))=(Bg t (m,0)||b.any (Bg · (m,0))):=λm=>by rw[AA7]
   have o:s.2.1=t.2.1:=by
    have k:=h s.1;rw[A,g,Dh ha oka fa he (by grind),Dh hb okb fb c (by grind),ADO,ADO] at k;have p:=Db (m:=s.1) os he;have r:=Db (m:=s.1) d c;have:s.2.1=1↔t.2.1=1:=by
     constructor
     .intro z;have:=r.mp (by rw[<-k];exact p.mpr ⟨.inr ⟨rfl,z⟩,u⟩);rcases this.1 with w|⟨_,w⟩
      .grind
      .exact w
     .intro z;have:=p.mp (by rw[k];exact r.mpr ⟨.inr ⟨i.symm,z⟩,by grind⟩);rcases this.1 with w|⟨_,w⟩
      .grind
      .exact w
    have:=os.h;have:=d.h;omega
   have v:e=f:=by
    by_cases w:e<f
    .have k:=h e;rw[A,g,Dh ha oka fa he (by grind),(Db d c).mpr ⟨.inl (by grind),w⟩] at k;have n:Bg s (e,0)=false:=ADR.mpr λy=>by have:=(Db os he).mp y;grind
     rw[n] at k;simp at k
    .by_cases D:f<e
     .have k:=h f;rw[A,g,Dh hb okb fb c (by grind),(Db os he).mpr ⟨.inl (by grind),D⟩] at k;have n:Bg t (f,0)=false:=ADR.mpr λy=>by have:=(Db d c).mp y;grind
      rw[n] at k;simp at k
     .grind
   have j:s=t:=by obtain⟨x,y,z⟩:=s;obtain⟨H,I,J⟩:=t;simp only at i o he c;subst i o he c v;rfl
   subst j;congr 1;refine Ol (AAb.mp ha).2 (AAb.mp hb).2 (λx hx=>oka x (by simp[hx])) (λx hx=>okb x (by simp[hx])) (λx hx=>fa x (by simp[hx])) (λx hx=>fb x (by simp[hx])) λm=> ?_;by_cases w:m<=e
   .rw [Dh ha oka fa he w,Dh hb okb fb he w]
   .have k:=h m;have n:Bg s (m,0)=false:=ADR.mpr λy=>by have:=(Db os he).mp y;grind
    rw[A,g,n] at k;simpa using k
abbrev Iy:AS:=
 (Aa (Fe (HP (aV 0)) (JH 2 (Ae (Au 2) (Ae (Au 3) Bx))) (VT 1 DH (AY PB (aV 3) (AR 2 Fy (AB (aV 1) (AB (aV 3) AL))))))
   (Aq (aV 1)))
abbrev HA:AS:=
 (Aa (Ar (aC (.int 1)) (Au 1))
   Iy)
def Ce:AF:=Ax 4 HA
def Kv {a:PV}{Q:PV->Prop}(h:HA ⟨λ_=>Q .non,Q,λ_=>False,λ_=>False⟩ [some (.val a),none,none,none]):Ce [a] Q:=h
def Uu (xs:km Rat):Nat:=xs.foldl (λN r=>N*(r.den/Nat.gcd N r.den)) 1
def X9 (xs:km Rat)(r:Rat):Uu (xs ++ [r])=Uu xs*(r.den/Nat.gcd (Uu xs) r.den):=by unfold Uu;rw[ACj];rfl
def ib {N d:Nat}(hN:0<N)(hd:0<d):0<N*(d/Nat.gcd N d)/\N ∣ N*(d/Nat.gcd N d)/\d ∣ N*(d/Nat.gcd N d)/\N*(d/Nat.gcd N d)<=N*d:=by have g:Nat.gcd N d ∣ d:=ACa ..;have a:0<Nat.gcd N d:=ACC _ hd;refine⟨Nat.mul_pos hN (Nat.div_pos (ADL hd g) a),Nat.dvd_mul_right .., ?_,Nat.mul_le_mul_left _ (ACY ..)⟩;rw[<-Nat.mul_div_assoc _ g];exact Nat.dvd_lcm_right ..
theorem SH {W:Nat}:∀(n:Nat) (xs:km Rat),xs.length=n->(∀x∈xs,Bd W x)->0<Uu xs/\(∀x∈xs,x.den ∣ Uu xs)/\Uu xs<2^(n*W+1)
 | 0,xs,e,_=>by have:xs= [] :=List.length_eq_zero_iff.mp e;subst this;exact⟨by decide,by simp,by simp[Uu]⟩
 | n+1,xs,e,h=>by
   obtain⟨ys,r,rfl⟩:∃ys r,xs=ys ++ [r] :=⟨xs.dropLast,xs.getLast (by intro z;subst z;cases e),(List.dropLast_concat_getLast _).symm⟩;have a:ys.length=n:=by simpa using e
   obtain⟨h1,h2,b⟩:=SH n ys a λx hx=>h x (by simp[hx]);have c:=(h r (by simp)).bot;rw[X9];obtain⟨d,f,g,i⟩:=ib h1 r.den_pos;refine⟨d,λx hx=> ?_, ?_⟩
   .rcases AAg.mp hx with hx|hx
    .exact Nat.dvd_trans (h2 x hx) f
    .simp at hx;subst hx;exact g
   .refine ABN i ?_;have:=cS b c;rw[show n*W+1+W=(n+1)*W+1 by rw[Nat.succ_mul];omega] at this;exact this
def Zg {v:PV}{xs:km Rat}{W:Nat}(hv:v= .lst (xs.map fr))(hx:∀x∈xs,Bd W x)(hl:xs.length<=6)(hW:W<=1400){Q:PV->Prop}(q:Q (.int (Uu xs:Nat))):Ce [v] Q:=by
 subst hv;apply Kv;ac_rfl;refine ET fr (λa vs τ=>∃b d,τ= [some (.val (.lst (xs.map fr))),some (.val (.int (Uu a:Nat))),b,d]) ?_ ?_ ⟨_,_,rfl⟩
 .rintro τ ⟨b,d,rfl⟩;ac_rfl;exact q
 .rintro a c vs e τ R g ⟨b,d,rfl⟩;have hu:∀x∈a,Bd W x:=λx h=>hx x (by rw[<-e];simp[h]);have ul:a.length<=6:=by rw[<-e] at hl;simp at hl;omega
  obtain⟨h1,h2,i⟩:=SH a.length a rfl hu;have f:=(hx c (by rw[<-e];simp)).bot;have k:a.length*W<=6*1400:=Nat.mul_le_mul ul hW;have l:0<Nat.gcd (Uu a) c.den:=ACC _ c.den_pos;have gl:Nat.gcd (Uu a) c.den<2^8900:=Am (ABN (ADL c.den_pos (ACa ..)) f) (by omega);ac_rfl;refine HY _ _ _ ?_;ac_rfl;refine⟨⟨by omega,by simpa using gl⟩, ?_⟩;have j:((c.den:Nat):Int).fdiv ((Nat.gcd (Uu a) c.den:Nat):Int)=((c.den/Nat.gcd (Uu a) c.den:Nat):Int):=by rw[ABw _ (by omega),ACb]
  rw[j];have dl:c.den/Nat.gcd (Uu a) c.den<2^1400:=Am (ABN (ACY ..) f) hW;ac_rfl;refine⟨MulOk.of (m:=8401) (n:=1400) (by simpa using Am i (by omega)) (by rw[ADS];exact dl), ?_⟩;exact g _ ⟨some (.val (.int c.num)),some (.val (.int c.den)),by rw[X9,ADM];rfl⟩
abbrev LH:AS:=
 (Aa (FS 3 Mn (AB (Ay (AB (aV 6) (AB (aV 7) AL))) AL))
   (FS 3 Mn (AB (Ay (AB (Mh E9 (aV 6)) (AB (Mh E9 (aV 7)) AL))) AL)))
abbrev LG:AS:=
 (Aa (Ar (AY DH (AY Ai (aV 5) (aC (.int 0))) (AY PB (aV 2) (AY Ai (aV 5) (aC (.int 1))))) (Au 7))
   LH)
abbrev Oy:AS:=
 (Aa (Ar (AY DH (AY Ai (aV 4) (aC (.int 0))) (AY PB (aV 2) (AY Ai (aV 4) (aC (.int 1))))) (Au 6))
   LG)
abbrev O0:AS:=
 (Aa (Fe (oK (AB (aV 0) (AB (aV 1) AL))) (JH 2 (Ae (Au 4) (Ae (Au 5) Bx))) Oy)
   (Aq (Ay (AB (aV 2) (AB (aV 3) AL)))))
abbrev Oz:AS:=
 (Aa (Mf (B7 AL) 3)
   O0)
abbrev NU:AS:=
 (Aa (Ar (AR 1 Ce (AB (AY BY (aV 0) (aV 1)) AL)) (Au 2))
   Oz)
def E2:AF:=Ax 8 NU
def R1 {a b:PV}{Q:PV->Prop}(h:NU ⟨λ_=>Q .non,Q,λ_=>False,λ_=>False⟩ [some (.val a),some (.val b),none,none,none,none,none,none]):E2 [a,b] Q:=h
def Ee (N:Nat)(r:Rat):Int:=r.num*((N:Int).fdiv (r.den:Int))
def IE {N:Nat}{r:Rat}(h:r.den ∣ N):(Ee N r:Rat)=r*N:=by
 obtain⟨k,rfl⟩:=h;have hd:=r.den_pos;unfold Ee;rw[ADM,Int.mul_fdiv_cancel_left _ (by omega),ADT];have hn:((r.den:Int):Rat)≠0:=λz=>by have:(r.den:Int)=0:=Rat.intCast_inj.mp z;omega
 have e:r=(r.num:Rat)/((r.den:Int):Rat):=by rw[<-Rat.divInt_eq_div,ABO]
 have a:r*((r.den:Int):Rat)=r.num:=by
  conv=>lhs;arg 1;rw[e]
  grind
 rw[<-a,show ((r.den*k:Nat):Rat)=((r.den:Int):Rat)*((k:Int):Rat) by rw[<-ADT,<-ADM,Rat.intCast_natCast]];grind
abbrev HL (p:Int×Int):PV:= .tup [.int p.1, .int p.2]
def WC (t:T3):PV:= .lst [fr t.1,fr t.2.1,fr t.2.2]
structure Pc where
 b:Rat
 e:Rat
 o0:T3
 o1:T3
def Pc.six (p:Pc):km Rat:= [p.o0.1,p.o0.2.1,p.o0.2.2,p.o1.1,p.o1.2.1,p.o1.2.2]
def Pc.N (p:Pc):Nat:=Uu p.six
def Pc.lns (p:Pc):km (Int×Int):= [(Ee p.N p.o0.1,Ee p.N p.o1.1),(-Ee p.N p.o0.1, -Ee p.N p.o1.1),(Ee p.N p.o0.2.1,Ee p.N p.o1.2.1),(-Ee p.N p.o0.2.1, -Ee p.N p.o1.2.1),(Ee p.N p.o0.2.2,Ee p.N p.o1.2.2),(-Ee p.N p.o0.2.2, -Ee p.N p.o1.2.2)]
def nP (p:Pc):PV:= .tup [fr p.b,fr p.e, .int p.N, .lst (p.lns.map HL)]
def dw {W:Nat}{p:Pc}(a:FE W p.o0)(h1:FE W p.o1):∀x∈p.six,Bd W x:=by
 intro x hx;simp only[Pc.six,AAT,AAq,AAr] at hx;rcases hx with rfl|rfl|rfl|rfl|rfl|rfl
 .exact a.x
 .exact a.y
 .exact a.z
 .exact h1.x
 .exact h1.y
 .exact h1.z
def XV {N d k:Nat}(h:N<2^k):((N:Int).fdiv (d:Int)).natAbs<2^k:=by rw[ABw _ (by omega),<-ACb,ADS];exact ABN (ACY ..) h
def cJ {p:Pc}{W:Nat}(b:FE W p.o0)(h1:FE W p.o1)(hW:W<=1400){Q:PV->Prop}(q:Q (.tup [.int p.N, .lst (p.lns.map HL)])):E2 [WC p.o0,WC p.o1] Q:=by
 have hs:=dw b h1;obtain⟨f,g,d⟩:=SH 6 p.six rfl hs;have e:(p.N:Nat)<2^8401:=Am d (by omega);have a:∀r:Rat,Bd W r->TU (p.N:Int) (r.den:Int)/\MulOk r.num ((p.N:Int).fdiv (r.den:Int)):=λr c=>
  ⟨⟨BX r,by simpa using Am c.bot (by omega)⟩,MulOk.of (m:=1400) (n:=8401) (Am c.top hW) (XV e)⟩
 unfold WC;apply R1;repeat' array_get_dec
 refine Zg (xs:=p.six) (W:=W) rfl hs (by show 6<=6;omega) hW ?_;have q:Q (.tup [.int p.N, .lst [HL (Ee p.N p.o0.1,Ee p.N p.o1.1),HL (-Ee p.N p.o0.1, -Ee p.N p.o1.1),HL (Ee p.N p.o0.2.1,Ee p.N p.o1.2.1),HL (-Ee p.N p.o0.2.1, -Ee p.N p.o1.2.1),HL (Ee p.N p.o0.2.2,Ee p.N p.o1.2.2),HL (-Ee p.N p.o0.2.2, -Ee p.N p.o1.2.2)]]):=q;unfold Ee at q;rw[show Uu p.six=p.N from rfl];generalize p.N=N at *;repeat' array_get_dec
 refine⟨(a _ b.x).1,(a _ b.x).2, ?_⟩;repeat' array_get_dec
 refine⟨(a _ h1.x).1,(a _ h1.x).2, ?_⟩;repeat' array_get_dec
 refine⟨(a _ b.y).1,(a _ b.y).2, ?_⟩;repeat' array_get_dec
 refine⟨(a _ h1.y).1,(a _ h1.y).2, ?_⟩;repeat' array_get_dec
 refine⟨(a _ b.z).1,(a _ b.z).2, ?_⟩;repeat' array_get_dec
 refine⟨(a _ h1.z).1,(a _ h1.z).2, ?_⟩;repeat' array_get_dec
 exact q
abbrev Wz:AS:=
 (Aa (Ar (AY BY (AR 3 B6 (AB (aV 0) (AB (aV 2) (AB (aV 3) AL)))) (AR 3 B6 (AB (aV 1) (AB (aV 2) (AB (aV 3) AL))))) (Au 4))
   (Aq (AR 1 F4 (AB (AY BY (DQ (B7 (AB (aV 2) (AB (aV 3) AL)))) (DQ (CF (HP (aV 4)) 1 [] (Au 0) D5 (AY Ai (aV 0) (aC (.int 0)))))) AL))))
def IK:AF:=Ax 5 Wz
def Zc {a b c d:PV}{Q:PV->Prop}(h:Wz ⟨λ_=>Q .non,Q,λ_=>False,λ_=>False⟩ [some (.val a),some (.val b),some (.val c),some (.val d),none]):IK [a,b,c,d] Q:=h
def C6 (cs ds:km C4)(b e:Rat):km Rat:=Cf ([b,e] ++ ((cs.filter (LS b e)++ds.filter (LS b e)).map (·.1)))
def Dq {cs ds:km C4}{b e x:Rat}:x∈C6 cs ds b e↔x=b\/x=e\/(b<x/\x<e/\∃c,(c∈cs\/c∈ds)/\c.1=x):=by
 unfold C6;rw[CL];simp only[ADs,ABB,AAT,AAd,AAg,ABR,LS,AAh,ACW];constructor
 .rintro (h|h|⟨c,h,rfl⟩)
  .exact .inl h
  .exact .inr (.inl h)
  .rcases h with⟨h1,h2,a⟩|⟨h1,h2,a⟩
   .exact .inr (.inr ⟨h2,a,c, .inl h1,rfl⟩)
   .exact .inr (.inr ⟨h2,a,c, .inr h1,rfl⟩)
 .rintro (h|h|⟨h1,h2,c,h,rfl⟩)
  .exact .inl h
  .exact .inr (.inl h)
  .exact .inr (.inr ⟨c,h.elim (λh=> .inl ⟨h,h1,h2⟩) (λh=> .inr ⟨h,h1,h2⟩),rfl⟩)
def MA {cs ds:km C4}{b e:Rat}:(C6 cs ds b e).length<=2+(cs.length+ds.length):=by unfold C6;refine AAl GC ?_;have h1:=ABk (LS b e) cs;have h2:=ABk (LS b e) ds;simp only[AA0,AAa,AAn,ACG];omega
def U6 {cs ds:km C4}{v w:PV}{b e:Rat}{B:Nat}(hv:B0 cs v)(hw:B0 ds w)(hl:cs.length<=100)(j:ds.length<=100)(hc:∀c∈cs,Ds B c)(g:∀c∈ds,Ds B c)(a:B<=4000)(d:Bd B b)(f:Bd B e){Q:PV->Prop}(q:Q (.lst ((C6 cs ds b e).map fr))):IK [v,w,fr b,fr e] Q:=by
 have h1:=ABk (LS b e) cs;have h2:=ABk (LS b e) ds;apply Zc;ac_rfl;refine Ea hv (by omega) hc a (d.mono a) (f.mono a) ?_;ac_rfl;refine Ea hw (by omega) g a (d.mono a) (f.mono a) ?_;ac_rfl;rw[<-AAo];ac_rfl;refine DY cor fr (λc=>c.1) (λ_=>True) (λc _ R i=> ?_) _ [] (by simp) ?_
 .ac_rfl;exact i
 rw[ABB];ac_rfl;refine QM (xs:= [b,e] ++ (cs.filter (LS b e)++ds.filter (LS b e)).map (·.1)) (B:=B) (.inl rfl) (by simp only[AA0,AAa,AAn,ACG];omega) (λx hx=> ?_) a q;rcases AAg.mp hx with hx|hx
 .simp only[AAT,AAq,AAr] at hx;rcases hx with rfl|rfl
  .exact d
  .exact f
 .obtain ⟨c,h,rfl⟩:=AAd.mp hx;rcases AAg.mp h with h|h
  .exact (hc c (ABR.mp h).1).m
  .exact (g c (ABR.mp h).1).m
abbrev S8:AS:=
 (Aa (Ar (AR 2 E2 (AB (AY Ai (aV 5) (AY GX (aV 7) (aC (.int 1)))) (AB (AY Ai (aV 5) (aV 7)) AL))) (JH 2 (Ae (Au 8) (Ae (Au 9) Bx))))
   (FS 6 Mn (AB (Ay (AB (AY Ai (aV 4) (AY GX (aV 7) (aC (.int 1)))) (AB (AY Ai (aV 4) (aV 7)) (AB (aV 8) (AB (aV 9) AL))))) AL)))
abbrev TF:AS:=
 (Aa (Fe (ft (AB (aC (.int 1)) (AB (Dr EA (AB (aV 4) AL)) AL))) (Au 7) S8)
   (Aq (aV 6)))
abbrev TD:AS:=
 (Aa (Mf (B7 AL) 6)
   TF)
abbrev TC:AS:=
 (Aa (Ar (DQ (CF (HP (aV 4)) 1 [0,1,2] (Au 0) D5 (AR 4 F0 (AB (aV 1) (AB (aV 2) (AB (aV 3) (AB (aV 0) AL))))))) (Au 5))
   TD)
abbrev TB:AS:=
 (Aa (Ar (AR 4 IK (AB (aV 0) (AB (aV 1) (AB (AY Ai (aV 3) (aC (.int 0))) (AB (AY Ai (aV 3) (aC (.int 1))) AL))))) (Au 4))
   TC)
abbrev S9:AS:=
 (Aa (BO (Aj (AY Vn (aV 3) (aC .non))) (Aq (DQ (B7 AL))) A0)
   TB)
abbrev S7:AS:=
 (Aa (Ar (AR 2 Dd (AB (aV 0) (AB (aV 1) AL))) (Au 3))
   S9)
def F3:AF:=Ax 10 S7
def WX {a b c:PV}{Q:PV->Prop}(h:S7 ⟨λ_=>Q .non,Q,λ_=>False,λ_=>False⟩ [some (.val a),some (.val b),some (.val c),none,none,none,none,none,none,none]):F3 [a,b,c] Q:=h
def Ge (cs ds:km C4)(d:Rat×Rat)(m:Rat):T3:=JQ ((spotC cs m).getD (0,0,0)) ((spotC ds m).getD (0,0,0)) d
def Mq (cs ds:km C4)(d:Rat×Rat)(ts:km Rat):km Pc:=(ts.zip ts.tail).map λp=>⟨p.1,p.2,Ge cs ds d p.1,Ge cs ds d p.2⟩
def zip_get {ts:km Rat}{i:Nat}{x y:Rat}(hx:ts[i]? =some x)(hy:ts[i+1]? =some y):(ts.zip ts.tail)[i]? =some (x,y):=by rw[List.getElem?_zip_eq_some];exact⟨hx,by rw[List.getElem?_tail];exact hy⟩
structure oH (cs ds:List C4) (b e:Rat):Prop where
 lt:b<e
 one:∀m,b<=m->m<=e->∃t,spotC cs m=some t
 other:∀m,b<=m->m<=e->∃t,spotC ds m=some t
def eZ {a l b c:C4}{r r2:km C4}(e:r≠ [])(f:r2≠ [])(g:(a::r).getLast?=some l)(d:(b::r2).getLast?=some c)(h:mx a.1 b.1<mn l.1 c.1):oH (a::r) (b::r2) (mx a.1 b.1) (mn l.1 c.1):=by
 have i:a.1<=mx a.1 b.1:=by unfold mx;split <;> grind
 have j:b.1<=mx a.1 b.1:=by unfold mx;split <;> grind
 have k:mn l.1 c.1<=l.1:=by unfold mn;split <;> grind
 have n:mn l.1 c.1<=c.1:=by unfold mn;split <;> grind
 exact⟨h,λm h1 h2=>Op e g (by grind) (by grind),λm h1 h2=>Op f d (by grind) (by grind)⟩
def lW {cs ds:km C4}{d:Rat×Rat}{b e m:Rat}{B M D:Nat}(g:oH cs ds b e)(h1:b<=m)(h2:m<=e)(i:LO cs)(j:LO ds)(hc:∀c∈cs,Ds B c)(k:∀c∈ds,Ds B c)(bm:Bd M m)(b1:Bd D d.1)(b2:Bd D d.2)(p1:d.1≠0)(p2:d.2≠0):FE (2*(M+6*B+10)+1+D) (Ge cs ds d m):=by obtain⟨s,es⟩:=g.one m h1 h2;obtain⟨t,h⟩:=g.other m h1 h2;have a:=FE.spotC bm i hc s es;have f:=FE.spotC bm j k t h;unfold Ge;rw[es,h];exact⟨(((a.x.sub f.x).div p1 b1)).mono (by omega),(((a.y.sub f.y).div p1 b1)).mono (by omega),(((a.z.sub f.z).div p2 b2)).mono (by omega)⟩
def jD (ts:km Rat):(ts.zip ts.tail).length=ts.length-1:=by rw[List.length_zip,List.length_tail];omega
def Rr {cs ds:km C4}{d:Rat×Rat}{ts:km Rat}:(Mq cs ds d ts).length=ts.length-1:=by unfold Mq;rw[AAa,jD]
def GL {cs ds:km C4}{b e:Rat}:RD (C6 cs ds b e):=CM
def D7 {cs ds:km C4}{b e x:Rat}(h:b<e)(hx:x∈C6 cs ds b e):b<=x/\x<=e:=by rcases Dq.mp hx with rfl|rfl|⟨h1,h2,_⟩ <;> exact⟨by grind,by grind⟩
def GK {cs ds:km C4}{b e x:Rat}{M:Nat}(hc:∀c∈cs,Bd M c.1)(a:∀c∈ds,Bd M c.1)(d:Bd M b)(f:Bd M e)(hx:x∈C6 cs ds b e):Bd M x:=by
 rcases Dq.mp hx with rfl|rfl|⟨_,_,c,h,rfl⟩
 .exact d
 .exact f
 .rcases h with h|h
  .exact hc c h
  .exact a c h
def RM (cs:km C4):Rat:=(cs.head?.getD (0,0,0,0)).1
def lstM (cs:km C4):Rat:=(cs.getLast?.getD (0,0,0,0)).1
def BF (cs ds:km C4):Rat:=mx (RM cs) (RM ds)
def BB (cs ds:km C4):Rat:=mn (lstM cs) (lstM ds)
def L8 (cs ds:km C4):km Rat:=C6 cs ds (BF cs ds) (BB cs ds)
structure Fx (cs ds:List C4) (d:Rat×Rat) (M W:Nat):Prop where
 c1:∀c∈cs,Ds 150 c
 c2:∀c∈ds,Ds 150 c
 r1:LO cs
 r2:LO ds
 t1:2<=cs.length
 t2:2<=ds.length
 f1:cs.length<=100
 f2:ds.length<=100
 m1:∀c∈cs,Bd M c.1
 m2:∀c∈ds,Bd M c.1
 b1:Bd 100 d.1
 b2:Bd 100 d.2
 p1:0<d.1
 p2:0<d.2
 w:BF cs ds<BB cs ds->∀m∈L8 cs ds,FE W (Ge cs ds d m)
 hM:M<=150
 hW:W<=1050
def open2 {cs:km C4}(h:2<=cs.length):∃a r l,cs=a::r/\r≠ [] /\(a::r).getLast?=some l:=by
 match cs,h with
 | a::b::r,_=> obtain⟨l,c⟩:∃l,(a::b::r).getLast?=some l:=⟨_,ACE (by simp)⟩;exact⟨a,b::r,l,rfl,by simp,c⟩
def M0 {a:C4}{r:km C4}:RM (a::r)=a.1:=rfl
def CH {cs:km C4}{l:C4}(e:cs.getLast?=some l):lstM cs=l.1:=by unfold lstM;rw[e];rfl
section
variable {cs ds:km C4}{d:Rat×Rat}{M W:Nat}
theorem Fx.fstB (D:Fx cs ds d M W):Bd M (RM cs):=by obtain⟨a,r,l,rfl,b,c⟩:=open2 D.t1;exact D.m1 a (by simp)
theorem Fx.fstB2 (D:Fx cs ds d M W):Bd M (RM ds):=by obtain⟨a,r,l,rfl,b,c⟩:=open2 D.t2;exact D.m2 a (by simp)
theorem Fx.lstB (D:Fx cs ds d M W):Bd M (lstM cs):=by obtain⟨a,r,l,rfl,c,b⟩:=open2 D.t1;rw[CH b];exact D.m1 l (ABd b)
theorem Fx.lstB2 (D:Fx cs ds d M W):Bd M (lstM ds):=by obtain⟨a,r,l,rfl,c,b⟩:=open2 D.t2;rw[CH b];exact D.m2 l (ABd b)
theorem Fx.begB (D:Fx cs ds d M W):Bd M (BF cs ds):=D.fstB.mx D.fstB2
theorem Fx.endB (D:Fx cs ds d M W):Bd M (BB cs ds):=D.lstB.mn D.lstB2
theorem Fx.tog (D:Fx cs ds d M W)(h:BF cs ds<BB cs ds):oH cs ds (BF cs ds) (BB cs ds):=by obtain⟨a,r,l,rfl,e,c⟩:=open2 D.t1;obtain⟨g,r2,i,rfl,f,b⟩:=open2 D.t2;unfold BF BB at h ⊢;rw[M0,M0,CH c,CH b] at h ⊢;exact eZ e f c b h
end
def YL {cs ds:km C4}{d:Rat×Rat}{M W:Nat}(D:Fx cs ds d M W){v w:PV}(hv:B0 cs v)(hw:B0 ds w){Q:PV->Prop}(c:BF cs ds<BB cs ds->Q (.tup [fr (BF cs ds),fr (BB cs ds)]))(e:¬BF cs ds<BB cs ds->Q .non):Dd [v,w] Q:=by have i:=D.fstB;have j:=D.fstB2;have g:=D.lstB;have h:=D.lstB2;have hM:=D.hM;obtain⟨a,r,l,rfl,k,f⟩:=open2 D.t1;obtain⟨m,r2,n,rfl,o,b⟩:=open2 D.t2;unfold BF BB at c e;rw[M0,M0,CH f,CH b] at c e;rw[CH f] at g;rw[CH b] at h;exact U3 hv hw f b (i.mono (by omega)) (g.mono (by omega)) (j.mono (by omega)) (h.mono (by omega)) c e
def OS (cs ds:km C4)(d:Rat×Rat):km Pc:=if BF cs ds<BB cs ds then Mq cs ds d (L8 cs ds) else []
def QK {cs ds:km C4}{d:Rat×Rat}{M W:Nat}(D:Fx cs ds d M W){v w u:PV}(hv:B0 cs v)(hw:B0 ds w)(hu:VC d u){Q:PV->Prop}(q:Q (.lst ((OS cs ds d).map nP))):F3 [v,w,u] Q:=by
 have hM:=D.hM;have hW:=D.hW;have o:=D.f1;have r:=D.f2;apply WX;ac_rfl;refine YL D hv hw (λh=> ?_) (λh=> ?_);rotate_left
 .unfold OS at q;rw[AAQ h] at q;ac_rfl;exact q
 unfold OS at q;rw[AAR h] at q;have A:=D.tog h;ac_rfl;refine U6 (B:=150) hv hw o r D.c1 D.c2 (by decide) (D.begB.mono hM) (D.endB.mono hM) ?_;have F:=MA (cs:=cs) (ds:=ds) (b:=BF cs ds) (e:=BB cs ds);have l:∀x∈L8 cs ds,BF cs ds<=x/\x<=BB cs ds:=λx hx=>D7 h hx;have G:∀x∈L8 cs ds,Bd M x:=λx hx=>GK D.m1 D.m2 D.begB D.endB hx;have C:∀x∈L8 cs ds,FE W (Ge cs ds d x):=D.w h;have H:(L8 cs ds).length<=2+(cs.length+ds.length):=F;rw[show C6 cs ds (BF cs ds) (BB cs ds)=L8 cs ds from rfl];generalize L8 cs ds=ts at *;ac_rfl;refine DY fr WC (Ge cs ds d) (λx=>x∈ts) (λx hx R k=> ?_) ts [] (λx hx=>hx) ?_
 .obtain ⟨s,es⟩:=A.one x (l x hx).1 (l x hx).2;obtain⟨t,E⟩:=A.other x (l x hx).1 (l x hx).2;have k:R (WC (JQ ((spotC cs x).getD (0,0,0)) ((spotC ds x).getD (0,0,0)) d)):=k;rw[es,E] at k;ac_rfl;exact gy hv hw hu D.c1 D.c2 D.r1 D.r2 (by have:=D.t1;intro z;subst z;simp at this) (by have:=D.t2;intro z;subst z;simp at this) o r ((G x hx).mono (by omega)) D.b1 D.b2 (by have:=D.p1;grind) (by have:=D.p2;grind) es E k
 rw[ABB];ac_rfl;refine XX (λi τ=>∃g j a,τ= [some (.val v),some (.val w),some (.val u),some (.val (.tup [fr (BF cs ds),fr (BB cs ds)])),some (.val (.lst (ts.map fr))),some (.val (.lst ((ts.map (Ge cs ds d)).map WC))),some (.own (((Mq cs ds d ts).take i).map nP)),g,j,a]) ?_ ?_ ⟨_,_,_,rfl⟩
 .rintro τ ⟨g,j,a,rfl⟩;rw[ACV (by rw[Rr];omega)];ac_rfl;exact q
 .rintro i hi τ R k ⟨g,j,a,rfl⟩;have I:i+1<ts.length:=by omega
  obtain⟨x,ex⟩:∃x,ts[i]? =some x:=⟨_,AAm (by omega)⟩;obtain⟨y,m⟩:∃y,ts[i+1]? =some y:=⟨_,AAm I⟩;have N:=Rr (cs:=cs) (ds:=ds) (d:=d) (ts:=ts);have J:=C x (AA4 ex);have K:=C y (AA4 m);have ep:(Mq cs ds d ts).take (i+1)=(Mq cs ds d ts).take i ++ [⟨x,y,Ge cs ds d x,Ge cs ds d y⟩] :=by
   have L:(Mq cs ds d ts)[i]? =some ⟨x,y,Ge cs ds d x,Ge cs ds d y⟩:=by unfold Mq;rw[AAx,zip_get ex m];rfl
   rw[List.take_succ,L];rfl
  have t1:((1:Int)+(i:Int)-1).toNat=i:=by omega
  have t2:((1:Int)+(i:Int)).toNat=i+1:=by omega
  have n:∀g j a,R [some (.val v),some (.val w),some (.val u),some (.val (.tup [fr (BF cs ds),fr (BB cs ds)])),some (.val (.lst (ts.map fr))),some (.val (.lst ((ts.map (Ge cs ds d)).map WC))),some (.own (((Mq cs ds d ts).take i).map nP ++ [nP ⟨x,y,Ge cs ds d x,Ge cs ds d y⟩])),g,j,a] :=λg j a=>k _ ⟨g,j,a,by rw[ep,AAo];rfl⟩;ac_rfl;rename_i c1 c _ c2 f _;rw[t1,AAx,ex] at c;rw[t2,AAx,m] at f;cases c;cases f;refine cJ (p:=⟨x,y,Ge cs ds d x,Ge cs ds d y⟩) J K (by omega) ?_;ac_rfl;rename_i c1 c _ c2 f _;rw[t1,ex] at c;cases c;rw[t2,m] at f;cases f;ac_rfl;exact n _ _ _
abbrev ME:AS:=
 (Aq (AR 2 Hc (AB (aV 0) (AB (AR 2 FR (AB (AR 2 Ha (AB (AY Ai (aV 2) (aC (.int 0))) (AB (AY Ai (aV 2) (aC (.int 1))) AL))) (AB (AR 2 D3 (AB (aV 1) (AB (aV 0) AL))) AL))) AL))))
def Cz:AF:=Ax 3 ME
def Pd {a b c:PV}{Q:PV->Prop}(h:ME ⟨λ_=>Q .non,Q,λ_=>False,λ_=>False⟩ [some (.val a),some (.val b),some (.val c)]):Cz [a,b,c] Q:=h
def sv (p:Int×Int):Rat:=(p.1:Rat)/(p.2:Rat)
def P4 {i:Int}(h:0<i):(0:Rat)<(i:Rat):=by have:=ABX.mpr h;simpa using this
def qj {a b:Int×Int}(ha:0<a.2)(hb:0<b.2):sv a<sv b↔a.1*b.2<b.1*a.2:=by
 have h1:=P4 ha;have h2:=P4 hb;unfold sv;rw[ACI h1,<-ABX,ADT,ADT];have e:(b.1:Rat)/(b.2:Rat)*(a.2:Rat)=(b.1:Rat)*(a.2:Rat)/(b.2:Rat):=by grind
 rw[e,AD3 h2]
structure Sz (p:Int×Int):Prop where
 pos:0<p.2
 t:p.1.natAbs<2^8850
 n:p.2.natAbs<2^8850
def F8 {a b:Int×Int}(ha:Sz a)(hb:Sz b){Q:PV->Prop}(q:Q (.bl (decide (sv a<sv b)))):Ao [HL a,HL b] Q:=by refine⟨MulOk.of ha.t hb.n,MulOk.of hb.t ha.n, ?_⟩;rw[ACd.mpr (qj ha.pos hb.pos)] at q;exact q
def Y8 {a b:Int×Int}(ha:Sz a)(hb:Sz b){Q:PV->Prop}(q:Q (HL (if sv b<sv a then b else a))):E1 [HL a,HL b] Q:=by
 refine⟨rfl,F8 hb ha ?_⟩;refine FG (b:=decide (sv b<sv a)) (λz=> ?_) (λz=> ?_)
 .rw [AAR (AA6 z)] at q;exact q
 .rw [AAQ (ABU z)] at q;exact q
def JO {b e:Rat}{p:Int×Int}{M S:Nat}(hp:Sz p)(bs:Bd S (sv p))(a:Bd M b)(c:Bd M e)(hM:M<=300)(f:S<=3200){Q:PV->Prop}(q:Q (fr (b+sv p*(e-b)))):Cz [fr b,fr e,HL p] Q:=by
 have d:p.2≠0:=by have:=hp.pos;omega
 have es:Rat.divInt p.1 p.2=sv p:=Rat.divInt_eq_div ..;have k:=c.sub a;have g:=bs.mul k;apply Pd;ac_rfl;refine F1 _ _ d (Am hp.n (by decide)) _ ?_;rw[es];ac_rfl;exact q
def lv (l:Int×Int)(s:Rat):Rat:=(l.1:Rat)+s*((l.2:Rat)-(l.1:Rat))
structure NI (N:Nat) (S:Nat) (us:List (Int×Int)) (lo hi:Int×Int) (h:Int):Prop where
 l:Sz lo
 r:Sz hi
 bl:Bd S (sv lo)
 br:Bd S (sv hi)
 h01:h=0\/h=1
 lo0:0<=sv lo
 hi1:sv hi<=1
 sem:∀s,0<=s->s<1->((∀l∈us,lv l s<N)↔(sv lo<s\/(sv lo=s/\h=1))/\s<sv hi)
def mw:sv (0,1)=0:=by decide +kernel
def Zl:sv (1,1)=1:=by decide +kernel
def lV {N S:Nat}(a:1<=S):NI N S [] (0,1) (1,1) 1:=by
 refine⟨⟨by decide, ?_, ?_⟩,⟨by decide, ?_, ?_⟩, ?_, ?_, .inr rfl,by rw[mw];grind,by rw[Zl];grind,λs b h1=> ?_⟩
 .exact Am (m:=1) (by decide) (by decide)
 .exact Am (m:=1) (by decide) (by decide)
 .exact Am (m:=1) (by decide) (by decide)
 .exact Am (m:=1) (by decide) (by decide)
 .rw [mw];exact sj.mono a
 .rw [Zl];exact oO.mono a
 .rw [mw,Zl];exact⟨λ_=>⟨by grind,h1⟩,λ_=>by simp⟩
structure Ic (N W:Nat) (l:Int×Int):Prop where
 a:l.1.natAbs<2^8848
 b:l.2.natAbs<2^8848
 n:N<2^8848
 n0:0<N
 ex:∃u v:Rat,Bd W u/\Bd W v/\(l.1:Rat)=u*N/\(l.2:Rat)=v*N
def aI {N:Nat}(h:0<N):(0:Rat)<(N:Rat):=Rat.natCast_pos.mpr h
def YH {a b:Int}{k:Nat}(ha:a.natAbs<2^k)(hb:b.natAbs<2^k):(a-b).natAbs<2^(k+1):=Sf ha hb
def EQ {a:km (Int×Int)}{l:Int×Int}{P:Int×Int->Prop}:(∀x∈a ++ [l],P x)↔(∀x∈a,P x)/\P l:=by
 constructor
 .intro h;exact⟨λx hx=>h x (by simp[hx]),h l (by simp)⟩
 .rintro ⟨h1,h2⟩ x hx;rcases AAg.mp hx with hx|hx
  .exact h1 x hx
  .simp at hx;subst hx;exact h2
def EC (N:Nat):((N:Int):Rat)=(N:Rat):=Rat.intCast_natCast N
def Lf {N W:Nat}{l:Int×Int}(h:Ic N W l)(h1:(N:Int)<=l.1)(h2:l.2<(N:Int)):Sz (l.1-N,l.1-l.2)/\Bd (3*W+3) (sv (l.1-N,l.1-l.2))/\0<=sv (l.1-N,l.1-l.2)/\∀s,lv l s<N↔sv (l.1-N,l.1-l.2)<s:=by
 obtain⟨u,v,d,g,e,f⟩:=h.ex;have hn:=aI h.n0;have p2:0<l.1-l.2:=by omega
 have k:((N:Rat))<=(l.1:Rat):=by rw[<-EC];exact ABz.mpr h1
 have m:(l.2:Rat)<(N:Rat):=by rw[<-EC];exact ABX.mpr h2
 have es:sv (l.1-N,l.1-l.2)=((l.1:Rat)-N)/((l.1:Rat)-l.2):=by unfold sv;show ((l.1-(N:Int):Int):Rat)/((l.1-l.2:Int):Rat)=_;rw[ADU,ADU,EC]
 have c:(0:Rat)<(l.1:Rat)-l.2:=by grind
 have i:u-v≠0:=by
  intro z;have:u=v:=by grind
  subst this;grind
 have j:sv (l.1-N,l.1-l.2)=(u-1)/(u-v):=by
  rw[es,e,f];have:u*(N:Rat)-v*N≠0:=by rw[e,f] at c;grind
  have:(N:Rat)≠0:=by grind
  grind
 refine⟨⟨p2,Am (YH h.a (by simpa using h.n)) (by decide),Am (YH h.a h.b) (by decide)⟩, ?_, ?_,λs=> ?_⟩
 .rw [j];exact((d.sub oO).div i (d.sub g)).mono (by omega)
 .rw [es,<-ACJ,ACI c];grind
 .rw [es,ACI c];unfold lv;constructor <;> intro z <;> grind
def RU {N W:Nat}{l:Int×Int}(h:Ic N W l)(h1:l.1<(N:Int))(h2:(N:Int)<l.2):Sz (N-l.1,l.2-l.1)/\Bd (3*W+3) (sv (N-l.1,l.2-l.1))/\sv (N-l.1,l.2-l.1)<=1/\∀s,lv l s<N↔s<sv (N-l.1,l.2-l.1):=by
 obtain⟨u,v,d,g,e,f⟩:=h.ex;have hn:=aI h.n0;have p2:0<l.2-l.1:=by omega
 have k:(l.1:Rat)<(N:Rat):=by rw[<-EC];exact ABX.mpr h1
 have m:(N:Rat)<(l.2:Rat):=by rw[<-EC];exact ABX.mpr h2
 have es:sv (N-l.1,l.2-l.1)=((N:Rat)-l.1)/((l.2:Rat)-l.1):=by unfold sv;show (((N:Int)-l.1:Int):Rat)/((l.2-l.1:Int):Rat)=_;rw[ADU,ADU,EC]
 have c:(0:Rat)<(l.2:Rat)-l.1:=by grind
 have i:v-u≠0:=by
  intro z;have:u=v:=by grind
  subst this;grind
 have j:sv (N-l.1,l.2-l.1)=(1-u)/(v-u):=by
  rw[es,e,f];have:v*(N:Rat)-u*N≠0:=by rw[e,f] at c;grind
  have:(N:Rat)≠0:=by grind
  grind
 refine⟨⟨p2,Am (YH (by simpa using h.n) h.a) (by decide),Am (YH h.b h.a) (by decide)⟩, ?_, ?_,λs=> ?_⟩
 .rw [j];exact((oO.sub d).div i (g.sub d)).mono (by omega)
 .rw [es,<-ACJ,AD3 c];grind
 .rw [es,AD3 c];unfold lv;constructor <;> intro z <;> grind
section
variable {N W:Nat}{us:km (Int×Int)}{lo hi l:Int×Int}{h:Int}
def lU (i:NI N (3*W+3) us lo hi h)(o:Ic N W l)(h1:(N:Int)<=l.1)(h2:l.2<(N:Int))(k:¬sv (l.1-N,l.1-l.2)<sv lo):NI N (3*W+3) (us ++ [l]) (l.1-N,l.1-l.2) hi 0:=by
 obtain⟨a,b,c,e⟩:=Lf o h1 h2;refine⟨a,i.r,b,i.br, .inl rfl,c,i.hi1,λs d f=> ?_⟩;rw[EQ,i.sem s d f,e s];constructor
 .rintro ⟨⟨x,y⟩,z⟩;exact⟨.inl z,y⟩
 .rintro ⟨x|⟨_,x⟩,y⟩
  .exact ⟨⟨.inl (by grind),y⟩,x⟩
  .cases x
def gt (i:NI N (3*W+3) us lo hi h)(o:Ic N W l)(h1:(N:Int)<=l.1)(h2:l.2<(N:Int))(k:sv (l.1-N,l.1-l.2)<sv lo):NI N (3*W+3) (us ++ [l]) lo hi h:=by
 obtain⟨a,b,c,e⟩:=Lf o h1 h2;refine⟨i.l,i.r,i.bl,i.br,i.h01,i.lo0,i.hi1,λs d f=> ?_⟩;rw[EQ,i.sem s d f,e s];constructor
 .rintro ⟨x,z⟩;exact x
 .rintro ⟨x,y⟩;refine⟨⟨x,y⟩, ?_⟩;rcases x with x|⟨x,_⟩ <;> grind
def gr (i:NI N (3*W+3) us lo hi h)(o:Ic N W l)(h1:l.1<(N:Int))(h2:(N:Int)<l.2):NI N (3*W+3) (us ++ [l]) lo (if sv (N-l.1,l.2-l.1)<sv hi then (N-l.1,l.2-l.1) else hi) h:=by
 obtain⟨a,b,c,e⟩:=RU o h1 h2;by_cases k:sv (N-l.1,l.2-l.1)<sv hi
 .rw [AAR k];refine⟨i.l,a,i.bl,b,i.h01,i.lo0,c,λs d f=> ?_⟩;rw[EQ,i.sem s d f,e s];constructor
  .rintro ⟨⟨x,y⟩,z⟩;exact⟨x,z⟩
  .rintro ⟨x,y⟩;exact⟨⟨x,by grind⟩,y⟩
 .rw [AAQ k];refine⟨i.l,i.r,i.bl,i.br,i.h01,i.lo0,i.hi1,λs d f=> ?_⟩;rw[EQ,i.sem s d f,e s];constructor
  .rintro ⟨x,z⟩;exact x
  .rintro ⟨x,y⟩;exact⟨⟨x,y⟩,by grind⟩
def pp (i:NI N (3*W+3) us lo hi h)(h1:l.1<(N:Int))(h2:¬(N:Int)<l.2):NI N (3*W+3) (us ++ [l]) lo hi h:=by
 have b:(l.1:Rat)<(N:Rat):=by rw[<-EC];exact ABX.mpr h1
 have c:(l.2:Rat)<=(N:Rat):=by rw[<-EC];exact ABz.mpr (by omega)
 refine⟨i.l,i.r,i.bl,i.br,i.h01,i.lo0,i.hi1,λs a d=> ?_⟩;rw[EQ,i.sem s a d];constructor
 .rintro ⟨x,z⟩;exact x
 .intro x;refine⟨x, ?_⟩;have y:lv l s=(1-s)*(l.1:Rat)+s*(l.2:Rat):=by unfold lv;grind
  have e:(1-s)*(l.1:Rat)<(1-s)*N:=ACk b (by grind);have f:s*(l.2:Rat)<=s*N:=ACK c a;rw[y];grind
end
abbrev Qm:AS:=
 (Aa (Ar (aV 10) (Au 1))
   (Ar (aC (.int 0)) (Au 2)))
abbrev Qn:AS:=
 (Aa (Ar (Ay (AB (AY GX (aV 8) (aV 6)) (AB (AY GX (aV 8) (aV 9)) AL))) (Au 10))
   (BO (B2 (Aj (AR 2 Ao (AB (aV 10) (AB (aV 1) AL))))) Qm A0))
abbrev Qo:AS:=
 (Aa (BO (KC (Aj (AY kN (aV 8) (aV 6))) (Aj (AY kN (aV 9) (aV 6)))) (Aq (DQ (B7 AL))) A0)
   (BO (Aj (AY kN (aV 8) (aV 6))) Qn (BO (Aj (AY jL (aV 9) (aV 6))) (Ar (AR 2 E1 (AB (aV 3) (AB (Ay (AB (AY GX (aV 6) (aV 8)) (AB (AY GX (aV 9) (aV 8)) AL))) AL))) (Au 3)) A0)))
abbrev Qt:AS:=
 (Aa (BO (B2 (Aj (AR 2 Ao (AB (aV 1) (AB (aV 3) AL))))) (Aq (DQ (B7 AL))) A0)
   (Aq (DQ (B7 (AB (Ay (AB (AR 3 Cz (AB (aV 4) (AB (aV 5) (AB (aV 1) AL)))) (AB (aV 2) (AB (AR 3 Cz (AB (aV 4) (AB (aV 5) (AB (aV 3) AL)))) AL)))) AL)))))
abbrev Qs:AS:=
 (Aa (Fe (HP (aV 7)) (JH 2 (Ae (Au 8) (Ae (Au 9) Bx))) Qo)
   Qt)
abbrev Qr:AS:=
 (Aa (Ar (Ay (AB (aC (.int 1)) (AB (aC (.int 1)) AL))) (Au 3))
   Qs)
abbrev Qq:AS:=
 (Aa (Ar (aC (.int 1)) (Au 2))
   Qr)
abbrev Qp:AS:=
 (Aa (Ar (Ay (AB (aC (.int 0)) (AB (aC (.int 1)) AL))) (Au 1))
   Qq)
abbrev Pj:AS:=
 (Aa (Ar (aV 0) (JH 4 (Ae (Au 4) (Ae (Au 5) (Ae (Au 6) (Ae (Au 7) Bx))))))
   Qp)
def Fz:AF:=Ax 11 Pj
def Um {a:PV}{Q:PV->Prop}(h:Pj ⟨λ_=>Q .non,Q,λ_=>False,λ_=>False⟩ [some (.val a),none,none,none,none,none,none,none,none,none,none]):Fz [a] Q:=h
def Xp (N:Nat)(lns:km (Int×Int))(b e m:Rat):Prop:=b<=m/\m<e/\∀l∈lns,lv l ((m-b)/(e-b))<N
structure aK (N:Nat) (lns:List (Int×Int)) (b e:Rat) (B:Nat) (ss:List Bp):Prop where
 few:ss.length<=1
 ok:∀s∈ss,Cr B s
 fin:∀s∈ss,∃x,s.2.2=some x
 sem:∀m,ss.any (Bg · (m,0))=true↔Xp N lns b e m
def QJ {N:Nat}{lns:km (Int×Int)}{b e:Rat}{B:Nat}(h:∀s,0<=s->s<1->¬∀l∈lns,lv l s<N)(d:b<e):aK N lns b e B [] :=by
 refine⟨by simp,by simp,by simp,λm=> ?_⟩;refine⟨λz=>by simp at z,λz=> ?_⟩;obtain⟨h1,h2,c⟩:=z;have a:0<e-b:=by grind
 refine absurd c (h _ ?_ ?_)
 .rw [<-ACJ,ACI a];grind
 .rw [ACI a];grind
def ZF {N S B M:Nat}{lns:km (Int×Int)}{b e:Rat}{lo hi:Int×Int}{h:Int}(i:NI N S lns lo hi h)(p:b<e)(k:sv lo<sv hi)(a:Bd M b)(g:Bd M e)(r:3*M+S+3<=B):aK N lns b e B [(b+sv lo*(e-b),h,some (b+sv hi*(e-b)))] :=by
 have l:0<e-b:=by grind
 have mono:∀{x y:Rat},x<y->b+x*(e-b)<b+y*(e-b):=λ{x y} h=>by have:=AET h l;grind
 refine⟨by simp,λs hs=> ?_,λs hs=> ?_,λm=> ?_⟩
 .simp at hs;subst hs;refine⟨(a.add (i.bl.mul (g.sub a))).mono (by omega),i.h01,λx hx=> ?_⟩;cases hx;exact⟨mono k,(a.add (i.br.mul (g.sub a))).mono (by omega)⟩
 .simp at hs;subst hs;exact⟨_,rfl⟩
 .obtain ⟨s,rfl⟩:∃s,m=b+s*(e-b):=⟨(m-b)/(e-b),by grind⟩;have es:(b+s*(e-b)-b)/(e-b)=s:=by grind
  unfold Xp;rw[es];have j:∀x y:Rat,b+x*(e-b)<b+y*(e-b)↔x<y:=λx y=>by
   refine⟨λz=> ?_,mono⟩;by_cases w:x<y
   .exact w
   .by_cases f:y<x
    .have:=mono f;grind
    .have:x=y:=by grind
     subst this;grind
  have n:∀x y:Rat,b+x*(e-b)=b+y*(e-b)↔x=y:=λx y=>by
   refine⟨λz=> ?_,λz=>by rw[z]⟩;by_cases w:x<y
   .have:=mono w;grind
   .by_cases f:y<x
    .have:=mono f;grind
    .grind
  have A: [((b+sv lo*(e-b),h,some (b+sv hi*(e-b))):Bp)].any (Bg · (b+s*(e-b),0))=true↔(sv lo<s\/(sv lo=s/\h=1))/\s<sv hi:=by
   simp only[AA7,AD4,ADO,Bg,AAh,ABe,ACW,j,n];have:0<h+0↔h=1:=by have:=i.h01;omega
   rw[this]
  rw[A];constructor
  .intro z;have c:0<=s:=by have:=i.lo0;rcases z.1 with y|⟨y,_⟩ <;> grind
   have d:s<1:=by have:=i.hi1;have:=z.2;grind
   refine⟨?_, ?_,(i.sem s c d).mpr z⟩
   .have:=Rat.mul_nonneg c (show 0<=e-b by grind);grind
   .have:=mono d;grind
  .rintro ⟨t,u,o⟩;have c:0<=s:=by rw[<-ACJ];intro w;have:=mono w;grind
   have d:s<1:=by have:=(j s 1).mp (by grind);exact this
   exact(i.sem s c d).mp o
def WA {b e:Rat}{N M W:Nat}{lns:km (Int×Int)}(ok:∀l∈lns,Ic N W l)(p:b<e)(t:Bd M b)(u:Bd M e)(hM:M<=300)(hW:W<=1050)(hl:lns.length<=1000){Q:PV->Prop}(q:∀ss,aK N lns b e (3*M+3*W+6) ss->Q (.lst (ss.map Gi))):Fz [.tup [fr b,fr e, .int N, .lst (lns.map HL)]] Q:=by
 apply Um;ac_rfl;refine ET HL (λv vs τ=>∃lo hi h f g c,NI N (3*W+3) v lo hi h/\τ= [some (.val (.tup [fr b,fr e, .int N, .lst (lns.map HL)])),some (.val (HL lo)),some (.val (.int h)),some (.val (HL hi)),some (.val (fr b)),some (.val (fr e)),some (.val (.int N)),some (.val (.lst (lns.map HL))),f,g,c]) ?_ ?_ ⟨(0,1),(1,1),1,_,_,_,lV (by omega),rfl⟩
 .rintro τ ⟨lo,hi,h,f,g,c,i,rfl⟩;ac_rfl;refine F8 i.l i.r ?_;ac_rfl
  .rename_i k;refine q [] (QJ (λs w B=> ?_) p);rw[i.sem s w B];rintro⟨x,y⟩;rcases x with x|⟨x,_⟩ <;> grind
  .rename_i k;refine JO i.l i.bl t u hM (by omega) ?_;ac_rfl;refine JO i.r i.br t u hM (by omega) ?_;ac_rfl;exact q _ (ZF i p k t u (by omega))
 .rintro v l vs C τ R D ⟨lo,hi,h,f,g,c,i,rfl⟩;have o:=ok l (by rw[<-C];simp);have d:∀{lo hi h f g c},NI N (3*W+3) (v ++ [l]) lo hi h->R [some (.val (.tup [fr b,fr e, .int N, .lst (lns.map HL)])),some (.val (HL lo)),some (.val (.int h)),some (.val (HL hi)),some (.val (fr b)),some (.val (fr e)),some (.val (.int N)),some (.val (.lst (lns.map HL))),f,g,c] :=λ{lo hi h f g c} k=>D _ ⟨lo,hi,h,f,g,c,k,rfl⟩;ac_rfl;all_goals first | (exfalso;omega)|skip
  .rename_i j n;refine q [] (QJ (λs w B z=> ?_) p);have z:=z l (by rw[<-C];simp);have E:(N:Rat)<=(l.1:Rat):=by rw[<-EC];exact ABz.mpr j
   have F:(N:Rat)<=(l.2:Rat):=by rw[<-EC];exact ABz.mpr n
   have y:lv l s=(1-s)*(l.1:Rat)+s*(l.2:Rat):=by unfold lv;grind
   have G:(1-s)*N<=(1-s)*(l.1:Rat):=ACK E (by grind);have H:s*N<=s*(l.2:Rat):=ACK F w;rw[y] at z;grind
  .rename_i j n m;obtain⟨a,_,_,_⟩:=Lf o j (by omega);refine F8 a i.l ?_;ac_rfl
   .rename_i A;exact d (lU i o j (by omega) A)
   .rename_i A;exact d (gt i o j (by omega) A)
  .rename_i j n m;obtain⟨a,_,_,_⟩:=RU o (by omega) m;refine Y8 i.r a ?_;exact d (gr i o (by omega) m)
  .rename_i j n m;exact d (pp i (by omega) m)
abbrev NY:AS:=
 (Aq (AR 1 E4 (AB (DQ (LQ (HP (AR 3 F3 (AB (aV 0) (AB (aV 1) (AB (aV 2) AL))))) 2 [] (Au 1) D5 (HP (AR 1 Fz (AB (aV 1) AL))) 1 (Au 0) D5 (aV 0))) AL)))
def E5:AF:=Ax 3 NY
def R5 {a b c:PV}{Q:PV->Prop}(h:NY ⟨λ_=>Q .non,Q,λ_=>False,λ_=>False⟩ [some (.val a),some (.val b),some (.val c)]):E5 [a,b,c] Q:=h
def RE {x:Rat}:absR x<1↔x<1/\ -x<1:=by unfold absR;split <;> grind
def kT {o:T3}:gI o<1↔absR o.1<1/\absR o.2.1<1/\absR o.2.2<1:=by
 unfold gI mx;repeat' split
 all_goals grind
def Ji {N:Nat}{u v s:Rat}(a:0<N)(h1:u.den ∣ N)(h2:v.den ∣ N):(lv (Ee N u,Ee N v) s<N↔u+s*(v-u)<1)/\(lv (-Ee N u, -Ee N v) s<N↔ -(u+s*(v-u))<1):=by
 have hn:=aI a;have b:lv (Ee N u,Ee N v) s=(u+s*(v-u))*N:=by unfold lv;show ((Ee N u:Int):Rat)+s*(((Ee N v:Int):Rat)-((Ee N u:Int):Rat))=_;rw[IE h1,IE h2];grind
 have c:lv (-Ee N u, -Ee N v) s= -(u+s*(v-u))*N:=by unfold lv;show ((-Ee N u:Int):Rat)+s*(((-Ee N v:Int):Rat)-((-Ee N u:Int):Rat))=_;rw[ADV,ADV,IE h1,IE h2];grind
 have key:∀x:Rat,x*N<N↔x<1:=λx=>by
  constructor
  .intro z;by_cases w:x<1
   .exact w
   .have:=Rat.mul_le_mul_of_nonneg_right (show 1<=x by grind) (show (0:Rat)<=N by grind);grind
  .intro z;have:=AET z hn;grind
 rw[b,c,key,key];exact⟨Iff.rfl,Iff.rfl⟩
def SV {W:Nat}{p:Pc}(a:FE W p.o0)(h1:FE W p.o1):0<p.N/\(∀x∈p.six,x.den ∣ p.N)/\p.N<2^(6*W+1):=SH 6 p.six rfl (dw a h1)
def Xl {W:Nat}{p:Pc}(r:FE W p.o0)(h1:FE W p.o1)(s:Rat):(∀l∈p.lns,lv l s<p.N)↔gI (lin p.o0 p.o1 s)<1:=by
 obtain⟨g,h,_⟩:=SV r h1;have i:=h p.o0.1 (by simp[Pc.six]);have j:=h p.o0.2.1 (by simp[Pc.six]);have k:=h p.o0.2.2 (by simp[Pc.six]);have m:=h p.o1.1 (by simp[Pc.six]);have n:=h p.o1.2.1 (by simp[Pc.six]);have o:=h p.o1.2.2 (by simp[Pc.six]);rw[kT,RE,RE,RE];unfold Pc.lns lin;simp only[AAT,AAq,AAr,forall_eq_or_imp,forall_eq];rw[(Ji g i m).1,(Ji g i m).2,(Ji g j n).1,(Ji g j n).2,(Ji g k o).1,(Ji g k o).2];constructor
 .rintro ⟨a,b,c,d,e,f⟩;exact⟨⟨a,b⟩,⟨c,d⟩,e,f⟩
 .rintro ⟨⟨a,b⟩,⟨c,d⟩,e,f⟩;exact⟨a,b,c,d,e,f⟩
def df {N W:Nat}{r:Rat}(a:Bd W r)(hN:N<2^(6*W+1)):(Ee N r).natAbs<2^(W+(6*W+1)):=BR a.top (XV hN)
def cK {W:Nat}{p:Pc}(b:FE W p.o0)(h1:FE W p.o1)(hW:W<=1200):∀l∈p.lns,Ic p.N W l:=by
 obtain⟨d,a,c⟩:=SV b h1;have one:∀{u v:Rat},Bd W u->Bd W v->u.den ∣ p.N->v.den ∣ p.N->Ic p.N W (Ee p.N u,Ee p.N v)/\Ic p.N W (-Ee p.N u, -Ee p.N v):=λ{u v} bu bv du a=>by
  have e:=df bu c;have f:=df bv c;have g:=Am (n:=8848) c (by omega);refine⟨⟨Am e (by omega),Am f (by omega),g,d,u,v,bu,bv,IE du,IE a⟩,⟨Am (by rw[ACZ];exact e) (by omega),Am (by rw[ACZ];exact f) (by omega),g,d, -u, -v,bu.neg,bv.neg, ?_, ?_⟩⟩
  .show ((-Ee p.N u:Int):Rat)=_;rw[ADV,IE du];grind
  .show ((-Ee p.N v:Int):Rat)=_;rw[ADV,IE a];grind
 have h:=one b.x h1.x (a _ (by simp[Pc.six])) (a _ (by simp[Pc.six]));have i:=one b.y h1.y (a _ (by simp[Pc.six])) (a _ (by simp[Pc.six]));have j:=one b.z h1.z (a _ (by simp[Pc.six])) (a _ (by simp[Pc.six]));intro l hl;simp only[Pc.lns,AAT,AAq,AAr] at hl;rcases hl with rfl|rfl|rfl|rfl|rfl|rfl
 .exact h.1
 .exact h.2
 .exact i.1
 .exact i.2
 .exact j.1
 .exact j.2
def gx {p q a b:T3}{d:Rat×Rat}{s:Rat}:JQ (lin p q s) (lin a b s) d=lin (JQ p a d) (JQ q b d) s:=by
 unfold JQ lin;simp only[ADK];congr 1
 .grind
 .congr 1 <;> grind
def U9 {ts:km Rat}(h:RD ts):∀p∈ts.zip ts.tail,p.1∈ts/\p.2∈ts/\p.1<p.2/\∀x∈ts,¬(p.1<x/\x<p.2):=by
 induction ts with
 | nil=>intro p hp;simp at hp
 | cons a r ih=>
   cases r with
   | nil=>intro p hp;simp at hp
   | cons b r=>
     have h1:=AAb.mp h;intro p hp;simp only[ADW,List.zip_cons_cons,AAT] at hp;rcases hp with rfl|hp
     .refine ⟨by simp,by simp,h1.1 b (by simp),λx hx z=> ?_⟩;rcases AAT.mp hx with rfl|hx
      .grind
      .rcases AAT.mp hx with rfl|hx
       .grind
       .have:=(AAb.mp h1.2).1 x hx;grind
     .obtain ⟨c,d,e,f⟩:=ih h1.2 p hp;refine⟨by simp[c],by simp[d],e,λx hx z=> ?_⟩;rcases AAT.mp hx with rfl|hx
      .have:=h1.1 p.1 c;grind
      .exact f x hx z
theorem Qb:∀{ts:km Rat} {m:Rat} {a z:Rat},RD ts->ts.head?=some a->ts.getLast?=some z->a<=m->m<z->∃p∈ts.zip ts.tail,p.1<=m/\m<p.2
 | [],_,_,_,_,h,_,_,_=>by cases h
 | [a],m,_,_,_,h1,h2,h3,h4=>by simp at h1 h2;subst h1 h2;grind
 | a::b::r,m,x,z,h,h1,h2,h3,h4=>by
   simp at h1;subst h1;by_cases k:m<b
   .exact ⟨(a,b),by simp,h3,k⟩
   .obtain ⟨p,hp,q⟩:=Qb (m:=m) (a:=b) (z:=z) (AAb.mp h).2 rfl (by simpa[ACF] using h2) (by grind) h4;exact⟨p,by simp only[ADW,List.zip_cons_cons,AAT];exact .inr (by simpa using hp),q⟩
section
variable {cs ds:km C4}{d:Rat×Rat}{M W:Nat}
structure sS (cs ds:List C4) (d:Rat×Rat) (M W:Nat) (p:Pc):Prop where
 lt:p.b<p.e
 w0:FE W p.o0
 w1:FE W p.o1
 bb:Bd M p.b
 be:Bd M p.e
 lo:BF cs ds<=p.b
 hi:p.e<=BB cs ds
 at0:p.o0=Ge cs ds d p.b
 sZ:p.o1=Ge cs ds d p.e
 lin:∀m,p.b<=m->m<=p.e->Ge cs ds d m=lin p.o0 p.o1 ((m-p.b)/(p.e-p.b))
theorem Fx.pc (D:Fx cs ds d M W):∀p∈OS cs ds d,sS cs ds d M W p:=by
 intro p hp;unfold OS at hp;by_cases h:BF cs ds<BB cs ds
 .rw [AAR h] at hp;have e:=D.tog h;have j:∀x∈L8 cs ds,BF cs ds<=x/\x<=BB cs ds:=λx hx=>D7 h hx;have k:∀x∈L8 cs ds,Bd M x:=λx hx=>GK D.m1 D.m2 D.begB D.endB hx;have l:∀x∈L8 cs ds,FE W (Ge cs ds d x):=D.w h;unfold Mq at hp;obtain⟨q,hq,rfl⟩:=AAd.mp hp;obtain⟨f,g,i,s⟩:=U9 GL q hq;have a:=j _ f;have b:=j _ g;refine⟨i,l _ f,l _ g,k _ f,k _ g,a.1,b.2,rfl,rfl,λm m1 m2=> ?_⟩;have m1:q.1<=m:=m1;have m2:m<=q.2:=m2;have n:∀c,c∈cs\/c∈ds->¬(q.1<c.1/\c.1<q.2):=λc hc z=>by refine s c.1 (Dq.mpr (.inr (.inr ⟨by grind,by grind,c,hc,rfl⟩))) z
  obtain⟨v,o⟩:=e.one q.1 a.1 a.2;obtain⟨y,r⟩:=e.one q.2 b.1 b.2;obtain⟨t1,f1⟩:=e.other q.1 a.1 a.2;obtain⟨t2,f2⟩:=e.other q.2 b.1 b.2;have t:=QW D.r1 i m1 m2 (λc hc=>n c (.inl hc)) o r;have u:=QW D.r2 i m1 m2 (λc hc=>n c (.inr hc)) f1 f2;show Ge cs ds d m=PL.lin (Ge cs ds d q.1) (Ge cs ds d q.2) ((m-q.1)/(q.2-q.1));unfold Ge;rw[t,u,o,r,f1,f2];exact gx
 .rw [AAQ h] at hp;cases hp
theorem Sk (h:BF cs ds<BB cs ds):(L8 cs ds).head?=some (BF cs ds):=by
 have b:BF cs ds∈L8 cs ds:=Dq.mpr (.inl rfl);have hs:RD (L8 cs ds):=GL;have hi:∀x∈L8 cs ds,BF cs ds<=x:=λx hx=>(D7 h hx).1;generalize L8 cs ds=ts at *;cases ts with
 | nil=>cases b
 | cons a r=>
   rcases AAT.mp b with e|e
   .rw [e];rfl
   .have:=(AAb.mp hs).1 _ e;have:=hi a (by simp);grind
theorem Sm (h:BF cs ds<BB cs ds):(L8 cs ds).getLast?=some (BB cs ds):=by
 have b:BB cs ds∈L8 cs ds:=Dq.mpr (.inr (.inl rfl));have hs:RD (L8 cs ds):=GL;have hi:∀x∈L8 cs ds,x<=BB cs ds:=λx hx=>(D7 h hx).2;generalize L8 cs ds=ts at *;obtain⟨l,a⟩:∃l,ts.getLast?=some l:=⟨_,ACE (by intro z;subst z;cases b)⟩;rw[a];have f:=hi l (ABd a);obtain⟨i,c,e⟩:=List.mem_iff_getElem.mp b;rw[AEK] at a;obtain⟨hl,a⟩:=AAw.mp a;by_cases k:i=ts.length-1
 .subst k;rw[<-e,<-a]
 .have:=AEL.mp hs i (ts.length-1) c hl (by omega);rw[e,a] at this;grind
theorem Fx.cover (D:Fx cs ds d M W){m:Rat}(h1:BF cs ds<=m)(h2:m<BB cs ds):∃p∈OS cs ds d,p.b<=m/\m<p.e:=by
 have h:BF cs ds<BB cs ds:=by grind
 unfold OS;rw[AAR h];obtain⟨p,hp,k⟩:=Qb GL (Sk h) (Sm h) h1 h2;exact⟨_,AAd.mpr ⟨p,hp,rfl⟩,k⟩
def FA (cs ds:km C4)(d:Rat×Rat)(m:Rat):Prop:=BF cs ds<=m/\m<BB cs ds/\gI (Ge cs ds d m)<1
instance {m:Rat}:Decidable (FA cs ds d m):=by unfold FA;infer_instance
theorem Fx.near_iff (D:Fx cs ds d M W){m:Rat}:(∃p∈OS cs ds d,Xp p.N p.lns p.b p.e m)↔FA cs ds d m:=by
 constructor
 .rintro ⟨p,hp,h1,h2,a⟩;have o:=D.pc p hp;have lo:=o.lo;have hi:=o.hi;rw[Xl o.w0 o.w1,<-o.lin m h1 (by grind)] at a;exact⟨by grind,by grind,a⟩
 .rintro ⟨h1,h2,a⟩;obtain⟨p,hp,c,f⟩:=D.cover h1 h2;have o:=D.pc p hp;refine⟨p,hp,c,f, ?_⟩;rw[Xl o.w0 o.w1,<-o.lin m c (by grind)];exact a
theorem Xv (D:Fx cs ds d M W):(OS cs ds d).length<=201:=by
 have h1:=D.f1;have h2:=D.f2;unfold OS;split
 .rw [Rr];have:=MA (cs:=cs) (ds:=ds) (b:=BF cs ds) (e:=BB cs ds);unfold L8;omega
 .simp
structure aJ (cs ds:List C4) (d:Rat×Rat) (B:Nat) (ss:List Bp):Prop where
 few:ss.length<=201
 ok:∀s∈ss,Cr B s
 fin:∀s∈ss,∃x,s.2.2=some x
 sem:∀m,ss.any (Bg · (m,0))=true↔FA cs ds d m
 pf:ss.length<=(OS cs ds d).length
theorem Xm {p:Pc}:p.lns.length=6:=rfl
theorem U5 (D:Fx cs ds d M W){v w u:PV}(hv:B0 cs v)(hw:B0 ds w)(hu:VC d u){Q:PV->Prop}(q:∀ss,aJ cs ds d (3*M+3*W+6) ss->Q (.tup ((canon 1 ss).map Gi))):E5 [v,w,u] Q:=by
 have hM:=D.hM;have hW:=D.hW;have j:=Xv D;apply R5;ac_rfl;refine QK D hv hw hu ?_;ac_rfl;refine Nw (λr a=>∃c rs ss,c++rs=OS cs ds d/\r=rs.map nP/\a=ss.map Gi/\ss.length<=c.length/\(∀s∈ss,Cr (3*M+3*W+6) s)/\(∀s∈ss,∃x,s.2.2=some x)/\∀m,ss.any (Bg · (m,0))=true↔∃p∈c,Xp p.N p.lns p.b p.e m) ?_ ?_ _ _ ⟨[],_, [],rfl,rfl,rfl,by simp,by simp,by simp,by simp⟩
 .rintro a ⟨c,rs,ss,e,f,rfl,h1,h2,h,i⟩;have:rs= [] :=by cases rs with | nil=>rfl|cons _ _=>cases f
  subst this;rw[ABt] at e;subst e;ac_rfl;refine U4 (.inr rfl) (Za ss) h2 (by omega) (by omega) ?_;exact q ss ⟨by omega,h2,h,λm=>by rw[i,D.near_iff],h1⟩
 .rintro y r a R k ⟨c,rs,ss,e,f,rfl,h1,h2,h,i⟩;cases rs with
  | nil=>cases f
  | cons p rs=>
    cases f;have l:p∈OS cs ds d:=by rw[<-e];simp
    have ul:c.length+1<=201:=by rw[<-e] at j;simp at j;omega
    have o:=D.pc p l;repeat' array_get_dec
    refine WA (cK o.w0 o.w1 (by omega)) o.lt o.bb o.be (by omega) hW (by rw[Xm];decide) λn g=> ?_;have t:=g.few;repeat' array_get_dec
    refine Vg _ _ (k _ ⟨c ++ [p],rs,ss++n,by simpa using e,rfl,by rw[AAo],by simp;omega,λs hs=> ?_,λs hs=> ?_,λm=> ?_⟩)
    .rcases AAg.mp hs with hs|hs
     .exact h2 s hs
     .exact g.ok s hs
    .rcases AAg.mp hs with hs|hs
     .exact h s hs
     .exact g.fin s hs
    .rw [List.any_append,ABe,i,g.sem];constructor
     .rintro (⟨x,hx,z⟩|z)
      .exact ⟨x,by simp[hx],z⟩
      .exact ⟨p,by simp,z⟩
     .rintro ⟨x,hx,z⟩;rcases AAg.mp hx with hx|hx
      .exact .inl ⟨x,hx,z⟩
      .simp at hx;subst hx;exact .inr z
end
abbrev K9:AS:=
 (Aa (Ar (Yd (Dr EA (AB (DQ (CF (HP (aV 1)) 1 [2] (Au 0) (Aj (AR 2 Ao (AB (aV 0) (AB (aV 1) AL)))) (aV 0))) AL))) (Au 3))
   (BO (Td (D9 (Aj (AY HQ (aV 3) (Dr EA (AB (aV 1) AL)))) (Aj (AY PD (AY Ai (aV 1) (aV 3)) (aV 2))))) (FS 1 cP (AB (aV 3) (AB (aV 2) AL))) A0))
abbrev LA:AS:=
 (Aa (Fe (HP (aV 0)) (Au 2) K9)
   (Aq (aV 1)))
abbrev Il:AS:=
 (Aa (Mf (B7 AL) 1)
   LA)
def DN:AF:=Ax 4 Il
def Mt {a:PV}{Q:PV->Prop}(h:Il ⟨λ_=>Q .non,Q,λ_=>False,λ_=>False⟩ [some (.val a),none,none,none]):DN [a] Q:=h
abbrev Ma:AS:=
 (Aa (Ar (DQ (CF (HP (AY BY (aV 0) (aV 1))) 1 [2,3] (Au 0) (KC (Aj (AR 2 Ao (AB (aV 1) (AB (AY Ai (aV 0) (aC (.int 0))) AL)))) (Aj (AR 2 Ao (AB (AY Ai (aV 0) (aC (.int 0))) (AB (aV 2) AL))))) (AY Ai (aV 0) (aC (.int 0))))) (Au 4))
   (Aq (AR 1 DN (AB (AY BY (DQ (B7 (AB (aV 2) (AB (aV 3) AL)))) (aV 4)) AL))))
abbrev Ef:AS:=
 (Aa (BO (B2 (Aj (AR 2 Ao (AB (aV 2) (AB (aV 3) AL))))) (Aq (DQ (B7 AL))) A0)
   Ma)
abbrev G3:AS:=
 (Aa (Ar (fF (Aj (AR 2 Ao (AB (AY Ai (AY Ai (aV 0) (Mh E9 (aC (.int 1)))) (aC (.int 0))) (AB (AY Ai (AY Ai (aV 1) (Mh E9 (aC (.int 1)))) (aC (.int 0))) AL)))) (AY Ai (AY Ai (aV 0) (Mh E9 (aC (.int 1)))) (aC (.int 0))) (AY Ai (AY Ai (aV 1) (Mh E9 (aC (.int 1)))) (aC (.int 0)))) (Au 3))
   Ef)
abbrev GN:AS:=
 (Aa (Ar (fF (Aj (AR 2 Ao (AB (AY Ai (AY Ai (aV 1) (aC (.int 0))) (aC (.int 0))) (AB (AY Ai (AY Ai (aV 0) (aC (.int 0))) (aC (.int 0))) AL)))) (AY Ai (AY Ai (aV 0) (aC (.int 0))) (aC (.int 0))) (AY Ai (AY Ai (aV 1) (aC (.int 0))) (aC (.int 0)))) (Au 2))
   G3)
def DB:AF:=Ax 5 GN
def OZ {a b:PV}{Q:PV->Prop}(h:GN ⟨λ_=>Q .non,Q,λ_=>False,λ_=>False⟩ [some (.val a),some (.val b),none,none,none]):DB [a,b] Q:=h
abbrev NK:AS:=
 (Aa (Ar (DQ (CF (Te (AB (aC (.int 3)) AL)) 1 [2,5,6] (Au 0) D5 (AR 2 DA (AB (AR 2 Cw (AB (AY Ai (aV 2) (aV 0)) (AB (AY Ai (aV 3) (aV 0)) AL))) (AB (AY Ai (aV 1) (Dr Vr (AB (AY HQ (aV 0) (aC (.int 2))) AL))) AL))))) (Au 4))
   (Aq (AY BY (aV 4) (DQ (CF (HP (aV 4)) 1 [] (Au 0) D5 (Ay (AB (Mh E9 (AY Ai (aV 0) (aC (.int 0)))) (AB (AY Ai (aV 0) (aC (.int 1))) AL))))))))
abbrev MD:AS:=
 (Aa (Ar (Ay (AB (AR 2 EZ (AB (aV 0) (AB (aV 3) AL))) (AB (AR 2 EZ (AB (aV 1) (AB (aV 3) AL))) AL))) (JH 2 (Ae (Au 5) (Ae (Au 6) Bx))))
   NK)
def EY:AF:=Ax 7 MD
def Pb {a b c d:PV}{Q:PV->Prop}(h:MD ⟨λ_=>Q .non,Q,λ_=>False,λ_=>False⟩ [some (.val a),some (.val b),some (.val c),some (.val d),none,none,none]):EY [a,b,c,d] Q:=h
def PN {v:PV}{ms:km Rat}{B:Nat}(hv:v= .lst (ms.map fr))(o:B<=4000)(hl:ms.length<=10000)(hb:∀m∈ms,Bd B m){Q:PV->Prop}(q:Q (.lst ((Cf ms).map fr))):DN [v] Q:=by
 subst hv;apply Mt;ac_rfl;refine ET fr (λa vs τ=>∃(b c:ke AV),τ= [some (.val (.lst (ms.map fr))),some (.own ((Cf a).map fr)),b,c]) ?_ ?_ ⟨_,_,rfl⟩
 .rintro τ ⟨b,c,rfl⟩;ac_rfl;exact q
 .rintro a m vs e τ R l ⟨b,c,rfl⟩;have ul:a.length<=10000:=by rw[<-e] at hl;simp at hl;omega
  have p:=GC (xs:=a);have bm:=hb m (by rw[<-e];simp);have n:∀x∈Cf a,Bd B x:=λx hx=>hb x (by rw[<-e];simp[CL.mp hx]);have hs:RD (Cf a):=CM;have f:∀(k:km Rat) b c,k=ins (Cf a) m->R [some (.val (.lst (ms.map fr))),some (.own (k.map fr)),b,c] :=λk b c h=>l _ ⟨b,c,by rw[h,show Cf (a ++ [m])=ins (Cf a) m by unfold Cf;rw[ACj];rfl]⟩;clear l;generalize Cf a=rs at *;ac_rfl;refine Df fr fr (λx=>decide (x<m)) (Bd B) (λx r R N h1 h2=> ?_) rs [] n ?_
  .ac_rfl
   .rename_i z;exact h1 (AAZ z)
   .rename_i z;exact h2 (AAY z)
  have s:(rs.filter λx=>decide (x<m)).length<=rs.length:=ABk _ _;have i:=Va hs (Pt (x:=m) hs);rw[ABB];generalize (rs.filter λx=>decide (x<m))=fs at *;ac_rfl
  .rename_i h1;have j:rs[fs.length]? =none:=AES (by omega);rw[j,AAQ (by simp)] at i;have:=f _ (some (.val (fr m))) (some (.val (.int fs.length))) i.symm;rw[AAo,AAX,ADP,ACD] at this;exact this
  .rename_i h1 d j _ h2;have g:rs[fs.length]? =some d:=j;rw[g,AAQ (by simpa using h2)] at i;have:=f _ (some (.val (fr m))) (some (.val (.int fs.length))) i.symm;rw[AAo,AAX,ADP,ACD] at this;exact this
  .rename_i h1 d j _ h2;have g:rs[fs.length]? =some d:=j;rw[g,AAR (by rw[h2])] at i;exact f _ _ _ i.symm
def ph {a b:Rat}(h:b<a):a=mx a b:=by unfold mx;split <;> grind
def pj {a b:Rat}(h:¬b<a):b=mx a b:=by unfold mx;split <;> grind
def pZ {a b:Rat}(h:a<b):a=mn a b:=by unfold mn;split <;> grind
def pe {a b:Rat}(h:¬a<b):b=mn a b:=by unfold mn;split <;> grind
def Zz (cs ds:km C4):km Rat:=if BF cs ds<BB cs ds then L8 cs ds else []
def Ka {cs ds:km C4}{d:Rat×Rat}{M W:Nat}(D:Fx cs ds d M W){Q:PV->Prop}(q:Q (.lst ((Zz cs ds).map fr))):DB [BA cs,BA ds] Q:=by
 have w:=D.fstB;have A:=D.fstB2;have C:=D.lstB;have E:=D.lstB2;have j:=D.begB;have k:=D.endB;have hM:=D.hM;have f1:=D.f1;have f2:=D.f2;have hc:∀c∈cs++ds,Bd M c.1:=λc hc=>by
  rcases AAg.mp hc with h|h
  .exact D.m1 c h
  .exact D.m2 c h
 unfold Zz L8 C6 BF BB at q;unfold BF at j;unfold BB at k;obtain⟨a,r,l,b,I,F⟩:=open2 D.t1;obtain⟨m,r2,p,e,J,n⟩:=open2 D.t2;have i:cs.getLast?=some l:=by rw[b];exact F
 have g:ds.getLast?=some p:=by rw[e];exact n
 rw[CH i,CH g] at q k;rw[show RM cs=a.1 by rw[b];rfl,show RM ds=m.1 by rw[e];rfl] at q j;rw[CH i] at C;rw[CH g] at E;rw[show RM cs=a.1 by rw[b];rfl] at w;rw[show RM ds=m.1 by rw[e];rfl] at A;have s:∀{Q:PV->Prop},Q (cor a)->Ai (BA cs) (.int 0) Q:=λh=>by rw[b];exact db h
 have u:∀{Q:PV->Prop},Q (cor m)->Ai (BA ds) (.int 0) Q:=λh=>by rw[e];exact db h
 have rest:∀{f t:Rat} {v:ke AV},f=mx a.1 m.1->t=mn l.1 p.1->Ef ⟨λ_=>Q .non,Q,λ_=>False,λ_=>False⟩ [some (.val (BA cs)),some (.val (BA ds)),some (.val (fr f)),some (.val (fr t)),v] :=by
  rintro f t v G H;rw[<-G] at q j;rw[<-H] at q k;ac_rfl
  .rename_i z;rw[AAQ z] at q;exact q
  .rename_i z;rw[AAR z] at q;refine Df cor (λc=>fr c.1) (LS f t) (λc=>Bd M c.1) (λc K R N h1 h2=> ?_) (cs++ds) [] hc ?_
   .ac_rfl
    .rename_i y1 y2;exact h1 (by unfold LS;rw[AAZ y1,AAZ y2];rfl)
    .rename_i y1 y2;exact h2 (by unfold LS;rw[AAZ y1,AAY y2];rfl)
    .rename_i y1;exact h2 (by unfold LS;rw[AAY y1];rfl)
   rw[ABB];have o:=ABk (LS f t) (cs++ds);rw[AA0] at o;ac_rfl;refine PN (ms:= [f,t] ++ (cs.filter (LS f t)++ds.filter (LS f t)).map (·.1)) (B:=M) ?_ (by omega) ?_ ?_ q
   .rw [<-AD5,AAo,ABi];rfl
   .rw [<-AD5];simp only[AA0,AAa,AAn,ACG];omega
   .intro x hx;rcases AAg.mp hx with hx|hx
    .simp only[AAT,AAq,AAr] at hx;rcases hx with rfl|rfl
     .exact j
     .exact k
    .obtain ⟨c,h,rfl⟩:=AAd.mp hx;rw[<-AD5] at h;exact hc c (ABR.mp h).1
 apply OZ;unfold GN G3;generalize Ef=T at rest ⊢;clear q;ac_rfl;refine u ?_;ac_rfl;refine s ?_;ac_rfl
 .rename_i z;refine s ?_;ac_rfl
  .rename_i y;exact rest (ph z) (pZ y)
  .rename_i y;exact rest (ph z) (pe y)
 .rename_i z;refine u ?_;ac_rfl
  .rename_i y;exact rest (pj z) (pZ y)
  .rename_i y;exact rest (pj z) (pe y)
def Sj {cs ds:km C4}(h:BF cs ds<BB cs ds):Zz cs ds=L8 cs ds:=AAR h
def uJ (o:T3):km Rat:= [o.1,o.2.1,o.2.2, -o.1, -o.2.1, -o.2.2]
def zf {r:Rat}(h:r.num.natAbs<2^3:=by decide +kernel)(h2:r.den<2^3:=by decide +kernel):Bd 3 r:=⟨h,h2⟩
def Yf {Q:PV->Prop}(q:∀d:Rat×Rat,Bd 3 d.1->Bd 3 d.2->1/3<=d.1->1/3<=d.2->Q (.tup [fr d.1,fr d.2])):Dz [.tape] Q:=by
 apply OY;have all:∀x∈ [(1:Rat),2,3/2,1/3,5],Bd 3 x/\1/3<=x:=by intro x hx;simp only[AAT,AAq,AAr] at hx;rcases hx with rfl|rfl|rfl|rfl|rfl <;> exact⟨zf,by decide +kernel⟩
 ac_rfl;refine RX (xs:= [(1:Rat),2,3/2,1/3,5]) (by omega) (by show _<(5:Int);omega) λx hx=> ?_;ac_rfl;refine RX (xs:= [(1:Rat),2,3/2,1/3,5]) (by omega) (by show _<(5:Int);omega) λy hy=> ?_;ac_rfl;exact q (x,y) (all x hx).1 (all y hy).1 (all x hx).2 (all y hy).2
def gT {ss:km Bp}(a:∀s∈ss,∃x,s.2.2=some x)(k:Rat):∃m,k<m/\ss.any (Bg · (m,0))=false:=by
 induction ss with
 | nil=>exact⟨k+1,by grind,rfl⟩
 | cons s ss ih=>
   obtain⟨x,hx⟩:=a s (by simp);have c:∀(b:km Bp),(∀s∈b,∃x,s.2.2=some x)->∃n:Rat,k<n/\∀s∈b,∀x,s.2.2=some x->x<n:=by
    intro b;induction b with
    | nil=>intro _;exact⟨k+1,by grind,by simp⟩
    | cons t b d=>
      intro e;obtain⟨n,h1,h2⟩:=d λs hs=>e s (by simp[hs]);obtain⟨y,hy⟩:=e t (by simp);by_cases z:y<n
      .refine ⟨n,h1,λs hs x hx=> ?_⟩;rcases AAT.mp hs with rfl|hs
       .rw [hy] at hx;cases hx;exact z
       .exact h2 s hs x hx
      .refine ⟨y+1,by grind,λs hs x hx=> ?_⟩;rcases AAT.mp hs with rfl|hs
       .rw [hy] at hx;cases hx;grind
       .have:=h2 s hs x hx;grind
   obtain⟨n,h1,h2⟩:=c (s::ss) a;refine⟨n,h1, ?_⟩;rw[AB2];intro t f z;obtain⟨y,hy⟩:=a t f;have:=h2 t f y hy;unfold Bg at z;rw[hy] at z;simp at z;grind
def Yj {B:Nat}{ss:km Bp}(ok:∀s∈ss,Cr B s)(a:∀s∈ss,∃x,s.2.2=some x):∀r∈canon 1 ss,∃x,r.2.2=some x:=by
 intro r b;cases e:r.2.2 with
 | some x=>exact⟨x,rfl⟩
 | none=> exfalso;obtain⟨m,h1,h2⟩:=gT a r.1;rw[<-Th ok (p:=(m,0)) (.inl rfl)] at h2;rw[AB2] at h2;refine h2 r b ?_;unfold Bg;rw[e];simp;exact .inl h1
structure Told (P:Rat->Prop) (B:Nat) (cc:List Bp):Prop where
 ok:∀s∈cc,Cr B s
 fin:∀s∈cc,∃x,s.2.2=some x
 few:cc.length<=2000
 sem:∀m,cc.any (Bg · (m,0))=true↔P m
def aJ.told {cs ds:km C4}{d:Rat×Rat}{B:Nat}{ss:km Bp}(n:aJ cs ds d B ss):Told (FA cs ds d) B (canon 1 ss):=
 ⟨aa n.ok,Yj n.ok n.fin,by have:=Vc (n:=1) (ss:=ss);have:=n.few;omega,λm=>by rw[Th n.ok (p:=(m,0)) (.inl rfl)];exact n.sem m⟩
def ZY {s:Bp}{x:Rat}(h:s.2.2=some x):Gi s= .tup [fr s.1, .int s.2.1,fr x] :=by unfold Gi;rw[h];rfl
abbrev NT:AS:=
 (Aq (Yc (Dr PF (AB (aV 0) (AB (aC (.ty "int")) AL))) (Mh kO (Dr PF (AB (aV 0) (AB (aC (.ty "bool")) AL))))))
def BI:AF:=Ax 1 NT
def Ku {a:PV}{Q:PV->Prop}(h:NT ⟨λ_=>Q .non,Q,λ_=>False,λ_=>False⟩ [some (.val a)]):BI [a] Q:=h
def DE {i:Int}{Q:PV->Prop}(q:Q (.bl true)):BI [.int i] Q:=by apply Ku;ac_rfl;exact q
def bR {B:Nat}{s:Bp}{m x:Rat}(os:Cr B s)(hx:s.2.2=some x):Bg s (m,0)=true↔(s.1<m\/(s.1=m/\s.2.1=1))/\m<x:=by
 unfold Bg;rw[hx];have:0<s.2.1+0↔s.2.1=1:=by have:=os.h;omega
 simp only[AAh,ABe,ACW,this]
structure CB2 (Bm Bs:Nat) (c:C4):Prop where
 m:Bd Bm c.1
 p:FE Bs c.2
def Hk:PV->kc | .int _=>true|_=>false
def IH {x:PV}(hk:kdOf x≠none){Q:PV->Prop}(q:Q (.bl (Hk x))):BI [x] Q:=by
 apply Ku;cases x <;> first | exact absurd rfl hk|skip
 all_goals
  repeat' array_get_dec
  exact q
def Gc:km PV->kc
 | [.int a, .int b] =>decide (0<b)&&decide (Nat.gcd a.natAbs b.natAbs=1)
 | _=>false
def Lb:PV->kc
 | .tup xs=>Gc xs
 | .lst xs=>Gc xs
 | _=>false
def OB {xs:km PV}(h:¬(xs.length:Int)=2):Gc xs=false:=by
 match xs,h with
 | [],_=>rfl
 | [a],_=>cases a <;> rfl
 | [a,b],h=>exact absurd rfl h
 | a::b::c::r,_=>cases a <;> cases b <;> rfl
def e5 {xs:km PV}(h:(xs.length:Int)=2):∃a b,xs= [a,b] :=by
 match xs,h with
 | [],h=>simp at h
 | [a],h=>simp at h
 | [a,b],_=>exact⟨a,b,rfl⟩
 | a::b::c::r,h=>simp at h;omega
def Iw {x:PV}(h:Hk x=true):∃i,x= .int i:=by cases x <;> first | exact⟨_,rfl⟩|cases h
def bg {x y:PV}(h:Hk x=false):Gc [x,y] =false:=by cases x <;> first | rfl|cases h
def bi {x y:PV}(h:Hk y=false):Gc [x,y] =false:=by cases x <;> cases y <;> first | rfl|cases h
abbrev Jx:AS:=
 (Aa (BO (D9 (B2 (Aj (AR 1 BI (AB (aV 1) AL)))) (B2 (Aj (AR 1 BI (AB (aV 2) AL))))) (Aq (aC (.bl false))) A0)
   (Aq (Yc (AY jL (aV 2) (aC (.int 0))) (AY HQ (AR 2 Fy (AB (Dr RN (AB (aV 1) AL)) (AB (aV 2) AL))) (aC (.int 1))))))
abbrev Qj:AS:=
 (Aa (Ar (aV 0) (JH 2 (Ae (Au 1) (Ae (Au 2) Bx))))
   Jx)
abbrev Ph:AS:=
 (Aa (BO (D9 (B2 (Aj (KD (aV 0) ["tuple","list"]))) (Aj (AY PD (Dr EA (AB (aV 0) AL)) (aC (.int 2))))) (Aq (aC (.bl false))) A0)
   Qj)
def Dj:AF:=Ax 3 Ph
def MN {a:PV}{Q:PV->Prop}(h:Ph ⟨λ_=>Q .non,Q,λ_=>False,λ_=>False⟩ [some (.val a),none,none]):Dj [a] Q:=h
def cv {x y z:PV}(hx:x= .tup [y,z] \/x= .lst [y,z])(hy:kdOf y≠none)(hz:kdOf z≠none){Q:PV->Prop}(q:Q (.bl (Gc [y,z]))):Jx {nx:=λx=>Q PV.non,rt:=Q,bk:=λx=>False,ct:=λx=>False} [some (.val x),some (.val y),some (.val z)] :=by
 repeat' array_get_dec
 refine IH hy ?_;repeat' array_get_dec
 cases c:Hk y with
 | false=>rw[bg c] at q;exact q
 | true=>
   obtain⟨a,rfl⟩:=Iw c;repeat' array_get_dec
   refine IH hz ?_;repeat' array_get_dec
   cases d:Hk z with
   | false=>rw[bi d] at q;exact q
   | true=>
     obtain⟨b,rfl⟩:=Iw d;repeat' array_get_dec
     .rename_i hb;obtain⟨n,rfl⟩:∃n:Nat,b=n:=⟨b.toNat,by omega⟩;refine HY _ _ _ ?_;repeat' array_get_dec
      have e:Gc [.int a, .int (n:Int)] =decide (((Nat.gcd a.natAbs n:Nat):Int)=1):=by show (decide (0<(n:Int))&&decide (Nat.gcd a.natAbs (n:Int).natAbs=1))=_;rw[AAZ hb,AB0,ADS];exact ACd.mpr ⟨λh=>by rw[h];rfl,λh=>by omega⟩
      rw[e] at q;exact q
     .rename_i hb;have e:Gc [.int a, .int b] =false:=by show (decide (0<b)&&_)=_;rw[AAY hb,ACv]
      rw[e] at q;exact q
def OR {B:Nat}{x:PV}{xs:km PV}(hx:x= .tup xs\/x= .lst xs)(hl:xs.length<=100)(hi:(∀y∈xs,kdOf y≠none)/\∀a b,xs= [a, .int b] ->b.natAbs<B){Q:PV->Prop}(q:Q (.bl (Gc xs))):Dj [x] Q:=by
 apply MN;rcases hx with rfl|rfl;all_goals
  repeat' array_get_dec
  .rename_i z;rw[OB z] at q;exact q
  .rename_i h2;obtain⟨y,z,rfl⟩:=e5 h2;exact cv (by first | exact .inl rfl|exact .inr rfl) (hi.1 y (by simp)) (hi.1 z (by simp)) q
def Xj (r:Rat):Gc [.int r.num, .int (r.den:Int)] =true:=by show (decide (0<(r.den:Int))&&decide (Nat.gcd r.num.natAbs (r.den:Int).natAbs=1))=true;have:=r.den_pos;rw[AAZ (by omega),AB0,ADS];exact AAZ r.reduced
def Xu {r:Rat}{x:PV}(hx:x=fr r\/x= .lst [.int r.num, .int (r.den:Int)]){Q:PV->Prop}(q:Q (.bl true)):Dj [x] Q:=by
 refine OR (B:=r.den+1) hx (by simp) ⟨λy hy=> ?_,λa b e=> ?_⟩ (by rw[Xj];exact q)
 .simp only[AAT,AAq,AAr] at hy;rcases hy with rfl|rfl <;> exact λz=>by cases z
 .cases e;simp
instance{r:AA}{τ:BD}{a:km PV->Prop}:Wp (sY r τ a) (r τ λb=>match b with | [.lst xs] =>a (E8 0 xs)|_=>False):=⟨id⟩
structure v5 (s:Bp):Prop where
 st:Cr 740 s
 h:s.2.1=1
 e:s.2.2.isSome=true
abbrev Qk:AS:=
 (Aa (Ar (fF (Aj (AY kN (aV 5) (aV 0))) (Ay (AB (aC (.int 1)) (AB (aC (.int 1)) AL))) (Ay (AB (AY GX (aV 4) (aV 0)) (AB (AY GX (aV 4) (aV 5)) AL)))) (Au 6))
   (BO (D9 (Aj (AY Vn (aV 2) (aC .non))) (Aj (AR 2 Ao (AB (AY Ai (aV 2) (aC (.int 1))) (AB (aV 6) AL))))) (Ar (Ay (AB (aV 3) (AB (aV 6) AL))) (Au 2)) A0))
abbrev Ql:AS:=
 (Aa (Fe (sY (AB (aV 1) AL)) (JH 2 (Ae (Au 3) (Ae (JH 2 (Ae (Au 4) (Ae (Au 5) Bx))) Bx))) (BO (Aj (AY kN (aV 4) (aV 0))) Qk A0))
   (Aq (aV 2)))
abbrev Pi:AS:=
 (Aa (Ar (aC .non) (Au 2))
   Ql)
def Ey:AF:=Ax 7 Pi
def Ul {a b:PV}{Q:PV->Prop}(h:Pi ⟨λ_=>Q .non,Q,λ_=>False,λ_=>False⟩ [some (.val a),some (.val b),none,none,none,none,none]):Ey [a,b] Q:=h
abbrev TK:AS:=
 (Aa (Ar (fF (Aj (AY HQ (AY Vo (aV 2) (aC (.int 2))) (aC (.int 0)))) (aC (.int 1)) (Mh E9 (aC (.int 1)))) (Au 3))
   (Aq (Ay (AB (aV 0) (AB (aV 1) (AB (AY PB (aV 2) (aC (.int 2))) (AB (aV 3) AL)))))))
def E3:AF:=Ax 4 TK
def WZ {a b c:PV}{Q:PV->Prop}(h:TK ⟨λ_=>Q .non,Q,λ_=>False,λ_=>False⟩ [some (.val a),some (.val b),some (.val c),none]):E3 [a,b,c] Q:=h
abbrev Q0:AS:=
 (Aa (Ar (AR 3 Cz (AB (aV 3) (AB (aV 4) (AB (aV 8) AL)))) (Au 2))
   (Aq (DQ (B7 (AB (AR 3 E3 (AB (aV 3) (AB (aV 2) (AB (aV 7) AL)))) (AB (AR 3 E3 (AB (aV 2) (AB (aV 4) (AB (aV 1) AL)))) AL))))))
abbrev Qz:AS:=
 (Aa (Ar (AY Ai (AR 2 Ey (AB (aV 5) (AB (DQ (CF (HP (aV 6)) 2 [] (JH 2 (Ae (Au 0) (Ae (Au 1) Bx))) D5 (Ay (AB (aV 1) (AB (aV 0) AL))))) AL))) (aC (.int 0))) (Au 1))
   Q0)
abbrev Qy:AS:=
 (Aa (BO (Aj (AY HQ (aV 8) (Ay (AB (aC (.int 1)) (AB (aC (.int 1)) AL))))) (Aq (DQ (B7 (AB (AR 3 E3 (AB (aV 3) (AB (aV 4) (AB (aV 7) AL)))) AL)))) A0)
   Qz)
abbrev Qx:AS:=
 (Aa (Ar (AR 2 Ey (AB (aV 5) (AB (aV 6) AL))) (JH 2 (Ae (Au 7) (Ae (Au 8) Bx))))
   Qy)
abbrev Pn:AS:=
 (Aa (Ar (aV 0) (JH 4 (Ae (Au 3) (Ae (Au 4) (Ae (Au 5) (Ae (Au 6) Bx))))))
   Qx)
def F5:AF:=Ax 9 Pn
def Uq {a:PV}{Q:PV->Prop}(h:Pn ⟨λ_=>Q .non,Q,λ_=>False,λ_=>False⟩ [some (.val a),none,none,none,none,none,none,none,none]):F5 [a] Q:=h
def SD (N:Nat)(l:Int×Int):Int×Int:=if (N:Int)<=l.2 then (1,1) else (l.1-N,l.1-l.2)
def Wg {N W:Nat}{l:Int×Int}(h:Ic N W l)(h1:(N:Int)<=l.1):Sz (SD N l)/\Bd (3*W+3) (sv (SD N l)):=by
 unfold SD;split
 .refine ⟨⟨by decide,Am (m:=1) (by decide) (by decide),Am (m:=1) (by decide) (by decide)⟩, ?_⟩;rw[Zl];exact oO.mono (by omega)
 .have:=Lf h h1 (by omega);exact⟨this.1,this.2.1⟩
structure jw (N:Nat) (us:List (Int×Int)) (k:Nat) (l:Int×Int):Prop where
 at_:us[k]? =some l
 up:(N:Int)<=l.1
 top:∀x∈us,(N:Int)<=x.1->sv (SD N x)<=sv (SD N l)
 fst:∀j x,j<k->us[j]? =some x->(N:Int)<=x.1->sv (SD N x)<sv (SD N l)
def jw.one {N:Nat}{c:km (Int×Int)}{k a:Nat}{l b:Int×Int}(h:jw N c k l)(h':jw N c a b):k=a/\l=b:=by
 have e:k=a:=by
  rcases Nat.lt_trichotomy k a with z|z|z
  .have:=h'.fst k l z h.at_ h.up;have:=h.top b (AA4 h'.at_) h'.up;exfalso;grind
  .exact z
  .have:=h.fst a b z h'.at_ h'.up;have:=h'.top l (AA4 h.at_) h.up;exfalso;grind
 subst e;have:=h.at_;rw[h'.at_] at this;exact⟨rfl,(AAk this).symm⟩
def fh (N:Nat)(a:km (Int×Int))(v:PV):Prop:=(v= .non/\∀x∈a,¬(N:Int)<=x.1)\/∃k l,v= .tup [.int (k:Nat),HL (SD N l)] /\jw N a k l
def OG {N W:Nat}{lns:km (Int×Int)}(ok:∀l∈lns,Ic N W l)(hl:lns.length<=1000)(ex:∃l∈lns,(N:Int)<=l.1){Q:PV->Prop}(q:∀k l,jw N lns k l->Q (.tup [.int (k:Nat),HL (SD N l)])):Ey [.int N, .lst (lns.map HL)] Q:=by
 apply Ul;ac_rfl;show ED _ _ _ (E8 0 (lns.map HL)) _;refine GY (λy τ=>∃c f v i m n p,c++f=lns/\y=E8 c.length (f.map HL)/\fh N c v/\τ= [some (.val (.int N)),some (.val (.lst (lns.map HL))),some (.val v),i,m,n,p]) ?_ ?_ _ _ ⟨[],lns, .non,_,_,_,_,rfl,rfl, .inl ⟨rfl,by simp⟩,rfl⟩
 .rintro τ ⟨c,f,v,i,m,n,p,e,s,hv,rfl⟩;have:f= [] :=by cases f with | nil=>rfl|cons _ _=>simp[E8] at s
  subst this;rw[ABt] at e;subst e;ac_rfl;rcases hv with⟨_,h⟩|⟨k,l,rfl,h⟩
  .obtain ⟨l,hl,hN⟩:=ex;exact absurd hN (h l hl)
  .exact q k l h
 .rintro x y τ R A ⟨c,f,v,i,m,n,p,e,s,hv,rfl⟩;cases f with
  | nil=>simp[E8] at s
  | cons l f=>
    rw[AAX,E8] at s;cases s;have B:l∈lns:=by rw[<-e];simp
    have o:=ok l B;have keep:∀v i m n p,fh N (c ++ [l]) v->R [some (.val (.int N)),some (.val (.lst (lns.map HL))),some (.val v),i,m,n,p] :=λv i m n p h=>A _ ⟨c ++ [l],f,v,i,m,n,p,by simpa using e,by simp,h,rfl⟩;clear A;have lower:¬(N:Int)<=l.1->fh N (c ++ [l]) v:=λh=>by
     rcases hv with⟨rfl,h2⟩|⟨k,g,rfl,h2⟩
     .exact .inl ⟨rfl,EQ.mpr ⟨h2,h⟩⟩
     .exact .inr ⟨k,g,rfl,⟨by rw[AAz];exact h2.at_;exact(AAw.mp h2.at_).1,h2.up,EQ.mpr ⟨h2.top,λz=>absurd z h⟩,λj x d hx=>h2.fst j x d (by rw[AAz (ABv d (AAw.mp h2.at_).1)] at hx;exact hx)⟩⟩
    have take:(N:Int)<=l.1->(∀x∈c,(N:Int)<=x.1->sv (SD N x)<sv (SD N l))->fh N (c ++ [l]) (.tup [.int (c.length:Nat),HL (SD N l)]):=λh h2=> .inr ⟨c.length,l,rfl,⟨by simp,h,EQ.mpr ⟨λx hx z=>by have:=h2 x hx z;grind,λ_=>ACL⟩,λj x d hx z=>h2 x (by rw[AAz d] at hx;exact AA4 hx) z⟩⟩;have u:=λh=>Wg o h;ac_rfl
    .rename_i h1 h2;have t:SD N l=(1,1):=AAR h2;rw[t] at take u;rcases hv with⟨rfl,a⟩|⟨k,g,rfl,a⟩
     .ac_rfl;exact keep _ _ _ _ _ (take h1 λx hx z=>absurd z (a x hx))
     .have r:g∈lns:=by rw[<-e];exact ACt _ (AA4 a.at_)
      ac_rfl;refine F8 (b:=(1,1)) (Wg (ok g r) a.up).1 (u h1).1 ?_;ac_rfl
      .rename_i z;exact keep _ _ _ _ _ (take h1 λx hx w=>by have:=a.top x hx w;grind)
      .rename_i z;exact keep _ _ _ _ _ (.inr ⟨k,g,rfl,⟨by rw[AAz];exact a.at_;exact(AAw.mp a.at_).1,a.up,EQ.mpr ⟨a.top,λ_=>by rw[t];grind⟩,λj x d hx=>a.fst j x d (by rw[AAz (ABv d (AAw.mp a.at_).1)] at hx;exact hx)⟩⟩)
    .rename_i h1 h2;have t:SD N l=(l.1-N,l.1-l.2):=AAQ h2;rw[t] at take u;rcases hv with⟨rfl,a⟩|⟨k,g,rfl,a⟩
     .ac_rfl;exact keep _ _ _ _ _ (take h1 λx hx z=>absurd z (a x hx))
     .have r:g∈lns:=by rw[<-e];exact ACt _ (AA4 a.at_)
      ac_rfl;refine F8 (b:=(l.1-N,l.1-l.2)) (Wg (ok g r) a.up).1 (u h1).1 ?_;ac_rfl
      .rename_i z;exact keep _ _ _ _ _ (take h1 λx hx w=>by have:=a.top x hx w;grind)
      .rename_i z;exact keep _ _ _ _ _ (.inr ⟨k,g,rfl,⟨by rw[AAz];exact a.at_;exact(AAw.mp a.at_).1,a.up,EQ.mpr ⟨a.top,λ_=>by rw[t];grind⟩,λj x d hx=>a.fst j x d (by rw[AAz (ABv d (AAw.mp a.at_).1)] at hx;exact hx)⟩⟩)
    .rename_i h1;exact keep _ _ _ _ _ (lower h1)
def pW {N:Nat}{l:Int×Int}{s:Rat}(a:0<=s)(h1:s<=1)(b:(N:Int)<=l.1)(c:(N:Int)<=l.2):(N:Rat)<=lv l s:=by
 have d:(N:Rat)<=(l.1:Rat):=by rw[<-EC];exact ABz.mpr b
 have e:(N:Rat)<=(l.2:Rat):=by rw[<-EC];exact ABz.mpr c
 have y:lv l s=(1-s)*(l.1:Rat)+s*(l.2:Rat):=by unfold lv;grind
 have f:(1-s)*N<=(1-s)*(l.1:Rat):=ACK d (by grind);have g:s*N<=s*(l.2:Rat):=ACK e a;rw[y];grind
def cD {N W:Nat}{l:Int×Int}(o:Ic N W l)(h1:(N:Int)<=l.1){s:Rat}(a:0<=s)(hs:s<=1):(N:Rat)<=lv l s↔s<=sv (SD N l):=by
 unfold SD;by_cases h:(N:Int)<=l.2
 .rw [AAR h,Zl];exact⟨λ_=>hs,λ_=>pW a hs h1 h⟩
 .rw [AAQ h];have:=(Lf o h1 (by omega)).2.2.2 s;grind
def fz (l:Int×Int):Int×Int:=(l.2,l.1)
def cN (l:Int×Int)(s:Rat):lv (fz l) s=lv l (1-s):=by unfold lv fz;grind
def WD {N W:Nat}{l:Int×Int}(o:Ic N W l):Ic N W (fz l):=by obtain⟨u,v,a,b,c,d⟩:=o.ex;exact⟨o.b,o.a,o.n,o.n0,v,u,b,a,d,c⟩
def gm (l:Int×Int):lv l 0=(l.1:Rat):=by unfold lv;grind
def lR (l:Int×Int):lv l 1=(l.2:Rat):=by unfold lv;grind
def LU {N:Nat}{k:Int}:(N:Rat)<=(k:Rat)↔(N:Int)<=k:=by rw[<-EC];exact ABz
def below {N:Nat}{lns:km (Int×Int)}{s:Rat}(h:∀l∈lns,∃u,s<u/\∀t,s<t->t<u->lv l t<N):∃u,s<u/\∀t,s<t->t<u->∀l∈lns,lv l t<N:=by
 induction lns with
 | nil=>exact⟨s+1,by grind,by simp⟩
 | cons l r ih=>
   obtain⟨u,h1,h2⟩:=ih λx hx=>h x (by simp[hx]);obtain⟨v,d,a⟩:=h l (by simp);refine⟨if u<v then u else v,by split <;> assumption,λt t1 t2 x hx=> ?_⟩;have b:t<u:=by split at t2 <;> grind
   have c:t<v:=by split at t2 <;> grind
   rcases AAT.mp hx with rfl|hx
   .exact a t t1 c
   .exact h2 t t1 b x hx
def Wt {N W:Nat}{lns:km (Int×Int)}(ok:∀l∈lns,Ic N W l)(a:∀s,0<=s->s<1->∃l∈lns,(N:Rat)<=lv l s){s:Rat}(i:0<=s)(b:s<1)(top:∀x∈lns,(N:Int)<=x.1->sv (SD N x)<=s):∃l∈lns,¬(N:Int)<=l.1/\(N:Int)<=l.2/\(N:Rat)<=lv l s:=by
 refine AD6 λf=> ?_;obtain⟨u,h1,h2⟩:=below (N:=N) (lns:=lns) (s:=s) λl hl=>by
  have o:=ok l hl;by_cases h:(N:Int)<=l.1
  .refine ⟨1,b,λt t1 t2=> ?_⟩;have:=cD o h (s:=t) (by grind) (by grind);have:=top l hl h;grind
  .by_cases k:(N:Int)<=l.2
   .have z:¬(N:Rat)<=lv l s:=λz=>f ⟨l,hl,h,k,z⟩;by_cases e:(N:Int)=l.2
    .refine ⟨1,b,λt t1 t2=> ?_⟩;have c:(l.1:Rat)<(N:Rat):=by rw[<-EC];exact ABX.mpr (by omega)
     have d:(l.2:Rat)=(N:Rat):=by rw[<-EC,e]
     have:=ACk c (show 0<1-t by grind);unfold lv;rw[d];grind
    .have hs:=(RU o (by omega) (by omega)).2.2.2;refine⟨sv (N-l.1,l.2-l.1),(hs s).mp (by grind),λt _ t2=>(hs t).mpr t2⟩
   .refine ⟨1,b,λt t1 t2=> ?_⟩;have c:(l.1:Rat)<(N:Rat):=by rw[<-EC];exact ABX.mpr (by omega)
    have d:(l.2:Rat)<(N:Rat):=by rw[<-EC];exact ABX.mpr (by omega)
    have:=ACk c (show 0<1-t by grind);have:=ACK (show (l.2:Rat)<=(N:Rat) by grind) (show 0<=t by grind);have y:lv l t=(1-t)*(l.1:Rat)+t*(l.2:Rat):=by unfold lv;grind
    rw[y];grind
 have ⟨t,t1,t2,g⟩:∃t,s<t/\t<u/\t<1:=by
  by_cases z:u<1
  .exact ⟨(s+u)/2,by grind,by grind,by grind⟩
  .exact ⟨(s+1)/2,by grind,by grind,by grind⟩
 obtain⟨l,hl,z⟩:=a t (by grind) g;have:=h2 t t1 t2 l hl;grind
abbrev Qv:AS:=
 (Aa (Ar (AY Ai (aV 3) (aC (.int 0))) (JH 3 (Ae (Au 4) (Ae (Au 5) (Ae (Au 6) Bx)))))
   (Aq (Ay (AB (aC (.str "near")) (AB (AR 2 JF (AB (AR 2 Hc (AB (aV 4) (AB (aV 6) AL))) (AB (AR 1 IL (AB (aC (.int 2)) AL)) AL))) AL)))))
abbrev Qw:AS:=
 (Aa (BO (kD (aV 3)) Qv A0)
   (Aq (Ay (AB (aC (.str "clear")) (AB (Dr B4 (AB (DQ (LQ (HP (AR 3 F3 (AB (aV 0) (AB (aV 1) (AB (aV 2) AL))))) 2 [] (Au 1) D5 (HP (AR 1 F5 (AB (aV 1) AL))) 1 (Au 0) D5 (aV 0))) AL)) AL)))))
abbrev Pm:AS:=
 (Aa (Ar (AR 3 E5 (AB (aV 0) (AB (aV 1) (AB (aV 2) AL)))) (Au 3))
   Qw)
def F2:AF:=Ax 7 Pm
def Up {a b c:PV}{Q:PV->Prop}(h:Pm ⟨λ_=>Q .non,Q,λ_=>False,λ_=>False⟩ [some (.val a),some (.val b),some (.val c),none,none,none,none]):F2 [a,b,c] Q:=h
abbrev S1:AS:=
 (Aa (BO (D9 (B2 (Aj (AR 1 Dj (AB (aV 1) AL)))) (D9 (B2 (Aj (AR 1 Dj (AB (aV 2) AL)))) (D9 (B2 (Aj (AR 1 BI (AB (aV 3) AL)))) (B2 (Aj (AR 1 BI (AB (aV 4) AL))))))) (Aq (aC (.bl false))) A0)
   (Aq (Yc (AY (bB false) (aV 3) (Ay (AB (aC (.int 0)) (AB (aC (.int 1)) (AB (aC (.int 2)) AL))))) (AY (bB false) (aV 4) (Ay (AB (aC (.int 1)) (AB (Mh E9 (aC (.int 1))) AL)))))))
abbrev S0:AS:=
 (Aa (Ar (aV 0) (JH 4 (Ae (Au 1) (Ae (Au 2) (Ae (Au 3) (Ae (Au 4) Bx))))))
   S1)
abbrev Sy:AS:=
 (Aa (BO (D9 (B2 (Aj (KD (aV 0) ["tuple","list"]))) (Aj (AY PD (Dr EA (AB (aV 0) AL)) (aC (.int 4))))) (Aq (aC (.bl false))) A0)
   S0)
def Eb:AF:=Ax 5 Sy
def Gj {a:PV}{Q:PV->Prop}(h:Sy ⟨λ_=>Q .non,Q,λ_=>False,λ_=>False⟩ [some (.val a),none,none,none,none]):Eb [a] Q:=h
abbrev VF:AS:=
 (Aa (Ar (AR 2 D3 (AB (AY Ai (AR 2 EI (AB (aV 0) (AB (aV 4) AL))) (aV 7)) (AB (AY Ai (AR 2 EI (AB (aV 1) (AB (aV 4) AL))) (aV 7)) AL))) (Au 9))
   (BO (Aj (AR 2 Ao (AB (AR 2 FR (AB (AR 1 IL (AB (aV 8) AL)) (AB (aV 9) AL))) (AB (AR 2 EH (AB (aV 2) (AB (aV 7) AL))) AL)))) (Aq (aC (.bl false))) A0))
abbrev VG:AS:=
 (Aa (Fe (HP (AR 4 IK (AB (aV 0) (AB (aV 1) (AB (aV 5) (AB (aV 6) AL)))))) (Au 4) VF)
   (Aq (aC (.bl true))))
abbrev Wy:AS:=
 (Aa (Ar (aV 3) (JH 4 (Ae (Au 5) (Ae (Au 6) (Ae (Au 7) (Ae (Au 8) Bx))))))
   VG)
def J4:AF:=Ax 10 Wy
def Zb {a b c d:PV}{Q:PV->Prop}(h:Wy ⟨λ_=>Q .non,Q,λ_=>False,λ_=>False⟩ [some (.val a),some (.val b),some (.val c),some (.val d),none,none,none,none,none,none]):J4 [a,b,c,d] Q:=h
abbrev HJ:AS:=
 (Aa (BO (B2 (Aj (AR 4 J4 (AB (aV 0) (AB (aV 1) (AB (aV 2) (AB (Ay (AB (aV 8) (AB (aV 9) (AB (AY Ai (aV 5) (aC (.int 2))) (AB (AY Ai (aV 5) (aC (.int 3))) AL))))) AL))))))) (Aq (aC (.bl false))) A0)
   (Ar (aV 9) (Au 6)))
abbrev HI:AS:=
 (Aa (BO (D9 (Aj (AY PD (aV 8) (aV 6))) (D9 (B2 (Aj (AR 2 Ao (AB (aV 8) (AB (aV 9) AL))))) (Aj (AR 2 Ao (AB (aV 7) (AB (aV 9) AL)))))) (Aq (aC (.bl false))) A0)
   HJ)
abbrev HH:AS:=
 (Aa (Ar (Dr B4 (AB (AY Ai (aV 5) (aC (.int 1))) AL)) (Au 9))
   HI)
abbrev HG:AS:=
 (Aa (Ar (Dr B4 (AB (AY Ai (aV 5) (aC (.int 0))) AL)) (Au 8))
   HH)
abbrev Iz:AS:=
 (Aa (BO (B2 (Aj (AR 1 Eb (AB (aV 5) AL)))) (Aq (aC (.bl false))) A0)
   HG)
abbrev JC:AS:=
 (Aa (Fe (HP (aV 3)) (Au 5) Iz)
   (Aq (AY HQ (aV 6) (aV 7))))
abbrev JB:AS:=
 (Aa (Ar (aV 4) (JH 2 (Ae (Au 6) (Ae (Au 7) Bx))))
   JC)
abbrev JA:AS:=
 (Aa (BO (Aj (AY Vn (aV 4) (aC .non))) (Aq (AY HQ (Dr EA (AB (aV 3) AL)) (aC (.int 0)))) A0)
   JB)
abbrev I0:AS:=
 (Aa (Ar (AR 2 Dd (AB (aV 0) (AB (aV 1) AL))) (Au 4))
   JA)
abbrev HB:AS:=
 (Aa (BO (B2 (Aj (KD (aV 3) ["tuple","list"]))) (Aq (aC (.bl false))) A0)
   I0)
def Bo:AF:=Ax 10 HB
def Fa {a b c d:PV}{Q:PV->Prop}(h:HB ⟨λ_=>Q .non,Q,λ_=>False,λ_=>False⟩ [some (.val a),some (.val b),some (.val c),some (.val d),none,none,none,none,none,none]):Bo [a,b,c,d] Q:=h
structure Rw where
 b:Rat
 e:Rat
 sd:Nat
 up:Bool
abbrev HF (u:kc):Int:=if u=true then 1 else -1
def Pa (r:Rw):PV:= .tup [fr r.b,fr r.e, .int (r.sd:Nat), .int (HF r.up)]
def EJ (b e:Rat)(k:Nat):Rw:=⟨b,e,k/2,decide (k % 2=0)⟩
def Lp {b e:Rat}{k:Nat}{Q:PV->Prop}(q:Q (Pa (EJ b e k))):E3 [fr b,fr e, .int (k:Nat)] Q:=by
 have c:((k:Int).fdiv 2)=((k/2:Nat):Int):=by rw[ABw _ (by decide)];omega
 have d:((k:Int).fmod 2)=((k % 2:Nat):Int):=by rw[ACP _ (by decide)];omega
 apply WZ;ac_rfl
 .rename_i h;refine⟨⟨by decide,Am (m:=2) (by decide) (by decide)⟩, ?_⟩;rw[c];have a:Pa (EJ b e k)= .tup [fr b,fr e, .int ((k/2:Nat):Int), .int 1] :=by unfold Pa EJ HF;rw[AAZ (show k % 2=0 by omega),AAR rfl]
  rw[a] at q;ac_rfl;exact q
 .rename_i h;refine⟨⟨by decide,Am (m:=2) (by decide) (by decide)⟩, ?_⟩;rw[c];have a:Pa (EJ b e k)= .tup [fr b,fr e, .int ((k/2:Nat):Int), .int (-1)] :=by unfold Pa EJ HF;rw[AAY (show ¬k % 2=0 by omega)];rfl
  rw[a] at q;ac_rfl;exact q
def TL (b e:Rat):km Rw->Prop
 | [] =>b=e
 | r::rs=>r.b=b/\TL r.e e rs
theorem TL.app {x e:Rat}{a:km Rw}:∀{rs:km Rw} {b:Rat},TL b x rs->TL x e a->TL b e (rs++a)
 | [],b,h,k=>by cases h;exact k
 | r::rs,b,h,k=>⟨h.1,TL.app h.2 k⟩
def Nk (N:Nat)(lns:km (Int×Int))(b e:Rat)(rs:km Rw):Prop:=∃k l,jw N lns k l/\(((N:Int)<=l.2/\rs= [EJ b e k])\/(¬(N:Int)<=l.2/\∃a c,jw N (lns.map fz) a c/\rs= [EJ b (b+sv (l.1-N,l.1-l.2)*(e-b)) k,EJ (b+sv (l.1-N,l.1-l.2)*(e-b)) e a]))
def Nk.one {N:Nat}{lns:km (Int×Int)}{b e:Rat}{rs d:km Rw}(h:Nk N lns b e rs)(h':Nk N lns b e d):rs=d:=by
 obtain⟨k,l,a,c⟩:=h;obtain⟨n,o,g,i⟩:=h';obtain⟨rfl,rfl⟩:=a.one g;rcases c with⟨c1,rfl⟩|⟨c1,p,r,j,rfl⟩ <;> rcases i with⟨f,rfl⟩|⟨f,s,t,m,rfl⟩
 .rfl
 .exact absurd c1 f
 .exact absurd f c1
 .obtain ⟨rfl,rfl⟩:=j.one m;rfl
structure jG (N:Nat) (lns:List (Int×Int)) (b e:Rat) (B:Nat) (rs:List Rw):Prop where
 few:rs.length<=2
 ne:rs≠ []
 chn:TL b e rs
 det:Nk N lns b e rs
 ok:∀r∈rs,Bd B r.b/\Bd B r.e/\b<=r.b/\r.b<r.e/\r.e<=e/\∃k l,lns[k]? =some l/\r.sd=k/2/\r.up=decide (k % 2=0)/\(N:Rat)<=lv l ((r.b-b)/(e-b))/\(N:Rat)<=lv l ((r.e-b)/(e-b))
def bA {p:Int×Int}{b:kc}(hb:decide (p.1=1/\p.2=1)=b){Q:PV->Prop}(q:Q (.bl b)):HQ (HL p) (fr 1) Q:=by
 refine⟨⟨rfl,rfl⟩, ?_⟩;have e:Nz (HL p) (fr 1)=decide (p.1=1/\p.2=1):=by show Nz (.tup [.int p.1, .int p.2]) (.tup [.int 1, .int 1])=_;simp[Nz,pd,ML,PyData.eqv,PyData.eqvAll];rfl
 rw[e,hb];exact q
def WV {b e:Rat}{N M W:Nat}{lns:km (Int×Int)}(ok:∀l∈lns,Ic N W l)(J:b<e)(f:Bd M b)(i:Bd M e)(hM:M<=300)(hW:W<=1050)(hl:lns.length<=1000)(g:∀s,0<=s->s<1->∃l∈lns,(N:Rat)<=lv l s){Q:PV->Prop}(q:∀rs,jG N lns b e (3*M+3*W+6) rs->Q (.lst (rs.map Pa))):F5 [.tup [fr b,fr e, .int N, .lst (lns.map HL)]] Q:=by
 have nz:e-b≠0:=by grind
 have B:(b-b)/(e-b)=0:=by grind
 have C:(e-b)/(e-b)=1:=by grind
 apply Uq;ac_rfl;refine OG ok hl ?_ λk l h=> ?_
 .obtain ⟨l,hl,h⟩:=g 0 ACL (by decide);rw[gm] at h;exact⟨l,hl,LU.mp h⟩
 have K:l∈lns:=AA4 h.at_;have ol:=ok l K;by_cases hN:(N:Int)<=l.2
 .rw [show SD N l=(1,1) from AAR hN];ac_rfl;refine bA (b:=true) (by decide) ?_;ac_rfl;refine Lp ?_;ac_rfl;refine q [EJ b e k] ⟨by simp,by simp,⟨rfl,rfl⟩,⟨k,l,h, .inl ⟨hN,rfl⟩⟩,λr j=> ?_⟩;rcases ABE.mp j with rfl;refine⟨f.mono (by omega),i.mono (by omega),ACL,J,ACL,k,l,h.at_,rfl,rfl, ?_, ?_⟩
  .show (N:Rat)<=lv l ((b-b)/(e-b));rw[B,gm];exact LU.mpr h.up
  .show (N:Rat)<=lv l ((e-b)/(e-b));rw[C,lR];exact LU.mpr hN
 .have es:SD N l=(l.1-N,l.1-l.2):=AAQ hN;obtain⟨L,D,O,E⟩:=Lf ol h.up (by omega);have P:(l.2:Rat)<(N:Rat):=by rw[<-EC];exact ABX.mpr (by omega)
  have m:sv (l.1-N,l.1-l.2)<1:=(E 1).mp (by rw[lR];exact P);have top:=h.top;rw[es] at top;obtain⟨t,tm,t1,t2,n⟩:=Wt ok g O m top;have S:0<sv (l.1-N,l.1-l.2):=by
   refine AD6 λz=>t1 ?_;have T:sv (l.1-N,l.1-l.2)=0:=by grind
   rw[T,gm] at n;exact LU.mp n
  rw[es];ac_rfl;have o:¬((l.1-N,l.1-l.2).1=1/\(l.1-N,l.1-l.2).2=1):=by rintro⟨U,X⟩;have:(l.1-(N:Int),l.1-l.2)=(1,1):=AB6 U X;rw[this,Zl] at m;exact absurd m (by decide)
  refine bA (b:=false) (AAY o) ?_;ac_rfl;refine DY HL HL fz (λ_=>True) (λa _ R Y=> ?_) lns [] (λ_ _=>trivial) ?_
  .ac_rfl;exact Y
  .rw [ABB];ac_rfl;refine OG (N:=N) (W:=W) (lns:=lns.map fz) (λx hx=> ?_) (by simpa using hl) ⟨fz t,AAd.mpr ⟨t,tm,rfl⟩,t2⟩ λd p h2=> ?_
   .obtain ⟨y,hy,rfl⟩:=AAd.mp hx;exact WD (ok y hy)
   obtain⟨c,F,rfl⟩:∃c,lns[d]? =some c/\fz c=p:=by
    have:=h2.at_;rw[AAx] at this;cases G:lns[d]? with
    | none=>rw[G] at this;cases this
    | some c=>rw[G] at this;exact⟨c,rfl,AAk this⟩
   have u:c∈lns:=AA4 F;have Z:=(cD (WD (ok t tm)) t2 (s:=1-sv (l.1-N,l.1-l.2)) (by grind) (by grind)).mp (by rw[cN,show (1:Rat)-(1-sv (l.1-N,l.1-l.2))=sv (l.1-N,l.1-l.2) by grind];exact n);have tt:=h2.top (fz t) (AAd.mpr ⟨t,tm,rfl⟩) t2;have v:(N:Rat)<=lv c (sv (l.1-N,l.1-l.2)):=by have:=(cD (WD (ok c u)) h2.up (s:=1-sv (l.1-N,l.1-l.2)) (by grind) (by grind)).mpr (Rat.le_trans Z tt);rw[cN,show (1:Rat)-(1-sv (l.1-N,l.1-l.2))=sv (l.1-N,l.1-l.2) by grind] at this;exact this
   have w:(N:Rat)<=lv l (sv (l.1-N,l.1-l.2)):=by have:=E (sv (l.1-N,l.1-l.2));grind
   ac_rfl;refine JO L D f i hM (by omega) ?_;have A:Nk N lns b e [EJ b (b+sv (l.1-N,l.1-l.2)*(e-b)) k,EJ (b+sv (l.1-N,l.1-l.2)*(e-b)) e d] :=⟨k,l,h, .inr ⟨hN,d,_,h2,rfl⟩⟩;generalize sv (l.1-N,l.1-l.2)=s at *;have H:(b+s*(e-b)-b)/(e-b)=s:=by grind
   have w0:=Rat.mul_pos S (show 0<e-b by grind);have w1:=ACk m (show 0<e-b by grind);have I:Bd (3*M+3*W+6) (b+s*(e-b)):=(f.add (D.mul (i.sub f))).mono (by omega);ac_rfl;refine Lp ?_;ac_rfl;refine Lp ?_;ac_rfl;refine q [EJ b (b+s*(e-b)) k,EJ (b+s*(e-b)) e d] ⟨by simp,by simp,⟨rfl,rfl,rfl⟩,A,λr j=> ?_⟩;simp only[AAT,AAq,AAr] at j;rcases j with rfl|rfl
   .refine ⟨f.mono (by omega),I,ACL,by show b<b+s*(e-b);grind,by show b+s*(e-b)<=e;grind,k,l,h.at_,rfl,rfl, ?_, ?_⟩
    .show (N:Rat)<=lv l ((b-b)/(e-b));rw[B,gm];exact LU.mpr h.up
    .show (N:Rat)<=lv l ((b+s*(e-b)-b)/(e-b));rw[H];exact w
   .refine ⟨I,i.mono (by omega),by show b<=b+s*(e-b);grind,by show b+s*(e-b)<e;grind,ACL,d,c,F,rfl,rfl, ?_, ?_⟩
    .show (N:Rat)<=lv c ((b+s*(e-b)-b)/(e-b));rw[H];exact v
    .show (N:Rat)<=lv c ((e-b)/(e-b));rw[C,lR];exact LU.mpr h2.up
def Ep (t:T3)(k:Nat):Rat:=if k=0 then t.1 else if k=1 then t.2.1 else t.2.2
def UL {W:Nat}{p:Pc}(d:FE W p.o0)(h1:FE W p.o1){k:Nat}{l:Int×Int}(e:p.lns[k]? =some l){s:Rat}(h:(p.N:Rat)<=lv l s):k/2<3/\1<=(HF (decide (k % 2=0)):Rat)*Ep (lin p.o0 p.o1 s) (k/2):=by
 obtain⟨f,c,_⟩:=SV d h1;have key:∀u v,u∈p.six->v∈p.six->((p.N:Rat)<=lv (Ee p.N u,Ee p.N v) s->1<=u+s*(v-u))/\((p.N:Rat)<=lv (-Ee p.N u, -Ee p.N v) s->1<= -(u+s*(v-u))):=λu v hu hv=>by
  have:=Ji (s:=s) f (c u hu) (c v hv);constructor
  .intro z;have:=this.1;grind
  .intro z;have:=this.2;grind
 have g:k<6:=(AAw.mp e).1;have a:((HF true:Int):Rat)=1:=rfl;have b:((HF false:Int):Rat)= -1:=rfl;have m:∀x∈ [p.o0.1,p.o0.2.1,p.o0.2.2,p.o1.1,p.o1.2.1,p.o1.2.2],x∈p.six:=λx hx=>hx;match k,g with
 | 0,_=>cases e;refine⟨by decide, ?_⟩;rw[show decide (0 % 2=0)=true from rfl,a];have:=(key _ _ (m p.o0.1 (by simp)) (m p.o1.1 (by simp))).1 h;show 1<=1*(p.o0.1+s*(p.o1.1-p.o0.1));grind
 | 1,_=>cases e;refine⟨by decide, ?_⟩;rw[show decide (1 % 2=0)=false from rfl,b];have:=(key _ _ (m p.o0.1 (by simp)) (m p.o1.1 (by simp))).2 h;show 1<= -1*(p.o0.1+s*(p.o1.1-p.o0.1));grind
 | 2,_=>cases e;refine⟨by decide, ?_⟩;rw[show decide (2 % 2=0)=true from rfl,a];have:=(key _ _ (m p.o0.2.1 (by simp)) (m p.o1.2.1 (by simp))).1 h;show 1<=1*(p.o0.2.1+s*(p.o1.2.1-p.o0.2.1));grind
 | 3,_=>cases e;refine⟨by decide, ?_⟩;rw[show decide (3 % 2=0)=false from rfl,b];have:=(key _ _ (m p.o0.2.1 (by simp)) (m p.o1.2.1 (by simp))).2 h;show 1<= -1*(p.o0.2.1+s*(p.o1.2.1-p.o0.2.1));grind
 | 4,_=>cases e;refine⟨by decide, ?_⟩;rw[show decide (4 % 2=0)=true from rfl,a];have:=(key _ _ (m p.o0.2.2 (by simp)) (m p.o1.2.2 (by simp))).1 h;show 1<=1*(p.o0.2.2+s*(p.o1.2.2-p.o0.2.2));grind
 | 5,_=>cases e;refine⟨by decide, ?_⟩;rw[show decide (5 % 2=0)=false from rfl,b];have:=(key _ _ (m p.o0.2.2 (by simp)) (m p.o1.2.2 (by simp))).2 h;show 1<= -1*(p.o0.2.2+s*(p.o1.2.2-p.o0.2.2));grind
section
variable {cs ds:km C4}{d:Rat×Rat}{M W:Nat}
theorem qD:∀p∈OS cs ds d,∀c,c∈cs\/c∈ds->¬(p.b<c.1/\c.1<p.e):=by
 intro p hp c hc z;unfold OS at hp;by_cases h:BF cs ds<BB cs ds
 .rw [AAR h] at hp;unfold Mq at hp;obtain⟨q,hq,rfl⟩:=AAd.mp hp;obtain⟨a,f,i,g⟩:=U9 GL q hq;have j:=D7 h a;have k:=D7 h f;have l:q.1<c.1:=z.1;have m:c.1<q.2:=z.2;exact g c.1 (Dq.mpr (.inr (.inr ⟨by grind,by grind,c,hc,rfl⟩))) z
 .rw [AAQ h] at hp;cases hp
def rE (b e:Rat):km Pc->Prop
 | [] =>b=e
 | p::ps=>p.b=b/\rE p.e e ps
theorem cw:∀{ts:km Rat} {a z:Rat},ts.head?=some a->ts.getLast?=some z->rE a z (Mq cs ds d ts)
 | [],a,z,h,_=>by cases h
 | [x],a,z,h,k=>by simp at h k;subst h;subst k;rfl
 | x::y::r,a,z,h,k=>by simp at h;subst h;refine⟨rfl, ?_⟩;have:=cw (ts:=y::r) (a:=y) (z:=z) rfl (by rw[ACF] at k;exact k);exact this
theorem lw (h:BF cs ds<BB cs ds):rE (BF cs ds) (BB cs ds) (OS cs ds d):=by unfold OS;rw[AAR h];exact cw (Sk h) (Sm h)
structure j6 (cs ds:List C4) (d:Rat×Rat) (B:Nat) (r:Rw):Prop where
 bb:Bd B r.b
 be:Bd B r.e
 lo:BF cs ds<=r.b
 lt:r.b<r.e
 hi:r.e<=BB cs ds
 sd:r.sd<3
 no:∀c,c∈cs\/c∈ds->¬(r.b<c.1/\c.1<r.e)
 at0:1<=(HF r.up:Rat)*Ep (Ge cs ds d r.b) r.sd
 sZ:1<=(HF r.up:Rat)*Ep (Ge cs ds d r.e) r.sd
def Nj:km Pc->km Rw->Prop
 | [],rs=>rs= []
 | p::ps,rs=>∃r1 r2,rs=r1++r2/\Nk p.N p.lns p.b p.e r1/\Nj ps r2
theorem Nj.one:∀{ps:km Pc} {rs c:km Rw},Nj ps rs->Nj ps c->rs=c
 | [],_,_,h,h'=>by have h:_= [] :=h;have h':_= [] :=h';rw[h,h']
 | p::ps,_,_,⟨r1,r2,e,a,b⟩,⟨r1',r2',e',a',b'⟩=>by rw[e,e',a.one a',Nj.one b b']
theorem Nj.snoc {p:Pc}{t:km Rw}(h:Nk p.N p.lns p.b p.e t):∀{ps:km Pc} {rs:km Rw},Nj ps rs->Nj (ps ++ [p]) (rs++t)
 | [],_,k=>by have k:_= [] :=k;subst k;exact⟨t, [],by simp,h,rfl⟩
 | q::ps,_,⟨r1,r2,e,a,b⟩=>⟨r1,r2++t,by rw[e,ADz],a,Nj.snoc h b⟩
structure oD (cs ds:List C4) (d:Rat×Rat) (B:Nat) (rs:List Rw):Prop where
 few:rs.length<=402
 some_:BF cs ds<BB cs ds->rs≠ [] /\TL (BF cs ds) (BB cs ds) rs
 none_:¬BF cs ds<BB cs ds->rs= []
 ok:∀r∈rs,j6 cs ds d B r
 det:Nj (OS cs ds d) rs
theorem Fx.far (D:Fx cs ds d M W)(a:∀m,¬FA cs ds d m){p:Pc}(hp:p∈OS cs ds d):∀s,0<=s->s<1->∃l∈p.lns,(p.N:Rat)<=lv l s:=by
 intro s c f;have o:=D.pc p hp;have g:=o.lt;refine AD6 λz=> ?_;have all:∀l∈p.lns,lv l s<p.N:=λl hl=>by rw[<-Rat.not_le];exact λk=>z ⟨l,hl,k⟩
 have h:=Rat.mul_nonneg c (show 0<=p.e-p.b by grind);have i:=ACk f (show 0<p.e-p.b by grind);refine a (p.b+s*(p.e-p.b)) (D.near_iff.mp ⟨p,hp,by grind,by grind, ?_⟩);rw[show (p.b+s*(p.e-p.b)-p.b)/(p.e-p.b)=s by grind];exact all
theorem Fx.rows (D:Fx cs ds d M W){p:Pc}(hp:p∈OS cs ds d){rs:km Rw}{B:Nat}(h:jG p.N p.lns p.b p.e B rs):∀r∈rs,j6 cs ds d B r:=by intro r g;have o:=D.pc p hp;have lo:=o.lo;have hi:=o.hi;obtain⟨b1,b2,i,j,m,k,l,e,a,f,n,s⟩:=h.ok r g;have c1:=UL o.w0 o.w1 e n;have c2:=UL o.w0 o.w1 e s;rw[<-o.lin r.b i (by grind),<-a,<-f] at c1;rw[<-o.lin r.e (by grind) m,<-a,<-f] at c2;refine⟨b1,b2,by grind,j,by grind,c1.1,λc hc z=>qD p hp c hc ⟨by grind,by grind⟩,c1.2,c2.2⟩
theorem cQ {B:Nat}{s:Bp}{a:km Bp}{x:Rat}{P:Rat->Prop}(t:Told P B (s::a))(hx:s.2.2=some x):P ((s.1+x)/2):=by have os:=t.ok s (by simp);have b:=(os.e x hx).1;refine(t.sem _).mp ?_;rw[AA7,ABe];refine .inl ((bR os hx).mpr ⟨.inl (by grind),by grind⟩)
def W3 (P:Rat->Prop)(B:Nat)(m:Rat):Prop:=∃s a x,Told P B (s::a)/\Sep (s::a)/\s.2.2=some x/\m=(s.1+x)/2
theorem W3.one {P:Rat->Prop}{B:Nat}{m a:Rat}(h:W3 P B m)(h':W3 P B a):m=a:=by
 obtain⟨s,g,x,t,z,hx,rfl⟩:=h;obtain⟨i,c,j,t',f,b,rfl⟩:=h';have e:=Ol z f t.ok t'.ok t.fin t'.fin λk=>by rw[ABf,t.sem,t'.sem]
 cases e;rw[hx] at b;cases b;rfl
theorem WP (D:Fx cs ds d M W){v w u:PV}(hv:B0 cs v)(hw:B0 ds w)(hu:VC d u)(S:3*M+3*W+6<=1990){Q:PV->Prop}(H:∀m,FA cs ds d m->Bd (2*(3*M+3*W+6)+4) m->W3 (FA cs ds d) (3*M+3*W+6) m->Q (.tup [.str "near",fr m]))(I:(∀m,¬FA cs ds d m)->∀rs,oD cs ds d (3*M+3*W+6) rs->Q (.tup [.str "clear", .tup (rs.map Pa)])):F2 [v,w,u] Q:=by
 have hM:=D.hM;have hW:=D.hW;have C:=Xv D;apply Up;ac_rfl;refine U5 D hv hw hu λss n=> ?_;have t:=n.told;have sp:=Yk n.ok;generalize canon 1 ss=i at t sp;cases i with
 | nil=>
   have E:∀m,¬FA cs ds d m:=λm z=>by have:=(t.sem m).mpr z;cases this
   ac_rfl;refine QK D hv hw hu ?_;ac_rfl;refine Nw (λr f=>∃c rs rows x,c++rs=OS cs ds d/\r=rs.map nP/\f=rows.map Pa/\rows.length<=2*c.length/\(c≠ [] ->rows≠ [])/\(∀r∈rows,j6 cs ds d (3*M+3*W+6) r)/\((c= [] ->rows= [])/\Nj c rows)/\(BF cs ds<BB cs ds->TL (BF cs ds) x rows/\rE x (BB cs ds) rs)) ?_ ?_ _ _ ⟨[],_, [],BF cs ds,rfl,rfl,rfl,by simp,λz=>absurd rfl z,by simp,⟨by simp,rfl⟩,λh=>⟨rfl,lw h⟩⟩
   .rintro f ⟨c,rs,rows,x,e,a,rfl,h1,h2,j,⟨F,k⟩,l⟩;have:rs= [] :=by cases rs with | nil=>rfl|cons _ _=>cases a
    subst this;rw[ABt] at e;subst e;ac_rfl;refine I E rows ⟨by omega,λh=> ?_,λh=> ?_,j,k⟩
    .have A:=l h;have hx:x=BB cs ds:=A.2;subst hx;refine⟨λz=> ?_,A.1⟩;have G:=A.1;rw[z] at G;have:BF cs ds=BB cs ds:=G;grind
    .refine F ?_;unfold OS;rw[AAQ h]
   .rintro y r f R J ⟨c,rs,rows,x,e,a,rfl,h1,h2,j,⟨F,k⟩,l⟩;cases rs with
    | nil=>cases a
    | cons p rs=>
      cases a;have B:p∈OS cs ds d:=by rw[<-e];simp
      have ul:c.length+1<=201:=by rw[<-e] at C;simp at C;omega
      have o:=D.pc p B;repeat' array_get_dec
      refine WV (cK o.w0 o.w1 (by omega)) o.lt o.bb o.be (by omega) hW (by rw[Xm];decide) (D.far E B) λK g=> ?_;have T:=g.few;repeat' array_get_dec
      refine Vg _ _ (J _ ⟨c ++ [p],rs,rows++K,p.e,by simpa using e,rfl,by rw[AAo],by simp;omega,λ_ z=>g.ne (List.append_eq_nil_iff.mp z).2,λr a=> ?_,⟨λz=>by simp at z,k.snoc g.det⟩,λh=> ?_⟩)
      .rcases AAg.mp a with a|a
       .exact j r a
       .exact D.rows B g r a
      .obtain ⟨L,N,O⟩:=l h;refine⟨L.app ?_,O⟩;rw[<-N];exact g.chn
 | cons s i=> obtain⟨x,hx⟩:=t.fin s (by simp);have os:=t.ok s (by simp);have b1:=os.b;have b2:=(os.e x hx).2;have mn:=cQ t hx;have P:Bd 2 (((2:Int):Rat)):=⟨by decide,by decide⟩;rw[AAX,ZY hx];ac_rfl;exact H _ mn (((b1.add b2).div (by decide) P).mono (by omega)) ⟨s,i,x,t,sp,hx,rfl⟩
theorem am {p:T3}{k:Nat}(hk:k<3){R:PV->Prop}(h:R (fr (Ep p k))):Ai (.tup [fr p.1,fr p.2.1,fr p.2.2]) (.int (k:Nat)) R:=by
 match k,hk with
 | 0,_=>exact h
 | 1,_=>exact h
 | 2,_=>exact h
theorem gz {p q:T3}{k:Nat}(p1:0<d.1)(p2:0<d.2){s:Rat}:s*(Ep p k-Ep q k)<(if k=2 then d.2 else d.1)\/2<k↔s*Ep (JQ p q d) k<1\/2<k:=by
 have key:∀{x y:Rat},0<y->(s*x<y↔s*(x/y)<1):=λ{x y} hy=>by
  have e:s*(x/y)=s*x/y:=by grind
  rw[e,ACI hy];grind
 match k with
 | 0=>have:=key (x:=p.1-q.1) p1;simp only[Ep,JQ];simpa using this
 | 1=>have:=key (x:=p.2.1-q.2.1) p1;simp only[Ep,JQ];simpa using this
 | 2=>have:=key (x:=p.2.2-q.2.2) p2;simp only[Ep,JQ];simpa using this
 | k+3=>simp
theorem bV (D:Fx cs ds d M W){v w u:PV}{B X:Nat}(hc:∀c∈cs,Ds B c)(f:∀c∈ds,Ds B c)(hv:B0 cs v)(hw:B0 ds w)(hu:VC d u){r:Rw}(o:r.sd<3)(A:Bd X r.b)(C:Bd X r.e)(lo:BF cs ds<=r.b)(H:r.b<r.e)(hi:r.e<=BB cs ds)(Y:2*(X+6*B+10)<=3980)(g:B<=X){Q:PV->Prop}(I:(∀m∈C6 cs ds r.b r.e,1<=(HF r.up:Rat)*Ep (Ge cs ds d m) r.sd)->Q (.bl true))(J:(¬∀m∈C6 cs ds r.b r.e,1<=(HF r.up:Rat)*Ep (Ge cs ds d m) r.sd)->Q (.bl false)):J4 [v,w,u,Pa r] Q:=by
 have E:=D.tog (show BF cs ds<BB cs ds by grind);have f1:=D.f1;have f2:=D.f2;have K:Bd 2 ((HF r.up:Int):Rat):=by cases r.up <;> exact⟨by decide,by decide⟩
 unfold Pa;apply Zb;ac_rfl;refine U6 hv hw f1 f2 (B:=X) (λc h=>(hc c h).mono g) (λc h=>(f c h).mono g) (by omega) A C ?_;ac_rfl;refine ET fr (λF vs τ=>(∀m∈F,1<=(HF r.up:Rat)*Ep (Ge cs ds d m) r.sd)/\∃i j,τ= [some (.val v),some (.val w),some (.val u),some (.val (.tup [fr r.b,fr r.e, .int (r.sd:Nat), .int (HF r.up)])),i,some (.val (fr r.b)),some (.val (fr r.e)),some (.val (.int (r.sd:Nat))),some (.val (.int (HF r.up))),j]) ?_ ?_ ⟨by simp,_,_,rfl⟩
 .rintro τ ⟨h,i,j,rfl⟩;ac_rfl;exact I h
 .rintro F m vs e τ R L ⟨h,i,j,rfl⟩;have l:m∈C6 cs ds r.b r.e:=by rw[<-e];simp
  obtain⟨Z,i2⟩:=D7 H l;have bm:Bd X m:=GK (λc h=>((hc c h).mono g).m) (λc h=>((f c h).mono g).m) A C l;obtain⟨s,es⟩:=E.one m (by grind) (by grind);obtain⟨t,n⟩:=E.other m (by grind) (by grind);have N:=FE.spotC bm D.r1 hc s es;have O:=FE.spotC bm D.r2 f t n;have G:∀{p:T3},FE (X+6*B+10) p->Bd (X+6*B+10) (Ep p r.sd):=λh=>by unfold Ep;split;exact h.x;split;exact h.y;exact h.z
  have c1:=G N;have c2:=G O;have P:Ge cs ds d m=JQ s t d:=by unfold Ge;rw[es,n];rfl
  have a:(HF r.up:Rat)*(Ep s r.sd-Ep t r.sd)<(if r.sd=2 then d.2 else d.1)↔(HF r.up:Rat)*Ep (Ge cs ds d m) r.sd<1:=by
   have:=gz (p:=s) (q:=t) (k:=r.sd) D.p1 D.p2 (s:=(HF r.up:Rat));rw[P];have S:¬2<r.sd:=by omega
   simpa[S] using this
  have T:=c1.sub c2;have c4:=K.mul T;have b1:=D.b1;have b2:=D.b2;ac_rfl;refine Eo hv hc D.r1 (by have:=D.t1;intro z;rw[z] at this;simp at this) (by omega) bm (by omega) ?_;rw[es];refine am o ?_;ac_rfl;refine Eo hw f D.r2 (by have:=D.t2;intro z;rw[z] at this;simp at this) (by omega) bm (by omega) ?_;rw[n];refine am o ?_;ac_rfl;refine YC (x:=d.1) (y:=d.2) (λh=> ?_) (λh=> ?_) ?_
  .rcases hu with rfl|rfl <;> exact h
  .rcases hu with rfl|rfl <;> exact h
  have U:(if ((r.sd:Nat):Int)=2 then d.2 else d.1)=if r.sd=2 then d.2 else d.1:=by
   by_cases h:r.sd=2
   .rw [AAR h,AAR (by omega)]
   .rw [AAQ h,AAQ (by omega)]
  have bs:Bd 100 (if r.sd=2 then d.2 else d.1):=by split <;> assumption
  rw[U];generalize (if r.sd=2 then d.2 else d.1)=sz at *;ac_rfl
  .rename_i k;refine J λz=> ?_;have:=z m l;have:=a.mp k;grind
  .rename_i k;refine L _ ⟨λx hx=> ?_,_,_,rfl⟩;rcases AAg.mp hx with hx|hx
   .exact h x hx
   .rcases ABE.mp hx with rfl;rw[<-ACJ];exact λz=>k (a.mpr z)
def YX (r:Rat)(v:PV):Prop:=v=fr r\/v= .lst [.int r.num, .int (r.den:Int)]
def fD (r:Rw)(v:PV):Prop:=∃x y,YX r.b x/\YX r.e y/\(v= .tup [x,y, .int (r.sd:Nat), .int (HF r.up)] \/v= .lst [x,y, .int (r.sd:Nat), .int (HF r.up)])
theorem fD.self (r:Rw):fD r (Pa r):=⟨_,_, .inl rfl, .inl rfl, .inl rfl⟩
theorem jU {k:Nat}(h:k<3){Q:PV->Prop}(q:Q (.bl true)):bB false (.int (k:Nat)) (.tup [.int 0, .int 1, .int 2]) Q:=by
 match k,h with
 | 0,_=>exact⟨⟨rfl,rfl⟩,q⟩
 | 1,_=>exact⟨⟨rfl,rfl⟩,q⟩
 | 2,_=>exact⟨⟨rfl,rfl⟩,q⟩
theorem pN {u:kc}{Q:PV->Prop}(q:Q (.bl true)):bB false (.int (HF u)) (.tup [.int 1, .int (-1)]) Q:=by
 cases u
 .exact ⟨⟨rfl,rfl⟩,q⟩
 .exact ⟨⟨rfl,rfl⟩,q⟩
theorem Y3 {r:Rw}{v:PV}(h:fD r v)(hs:r.sd<3){Q:PV->Prop}(q:Q (.bl true)):Eb [v] Q:=by
 obtain⟨x,y,hx,hy,hv⟩:=h;apply Gj;rcases hv with rfl|rfl;all_goals
  ac_rfl;refine Xu hx ?_;ac_rfl;refine Xu hy ?_;ac_rfl;refine DE ?_;ac_rfl;refine DE ?_;ac_rfl;refine jU hs ?_;ac_rfl;refine pN ?_;ac_rfl;exact q
theorem L9 {r:Rat}{x:PV}(h:YX r x){Q:PV->Prop}(q:Q (fr r)):B4 [x] Q:=by
 rcases h with rfl|rfl
 .exact q
 .exact q
end
structure aN (cs:List C4):Prop where
 ok:LM 12 22 cs
 mu:∀c∈cs,Mul 6 2000 c.1
def Mul.up {D N:Nat}{a:Rat}(h:Mul D N a):Mul (12*D) (30*N) a:=by obtain⟨b,k,rfl,hk⟩:=h;refine⟨by omega,12*k, ?_,by omega⟩;rw[show ((12*D:Nat):Int)=12*(D:Int) by push_cast;rfl,Rat.divInt_mul_left (by decide)]
structure MB (A B:Nat) (cs:List C4):Prop where
 m:∀c∈cs,Bd A c.1
 x:∀c∈cs,Ds B c
def bZ {A B M:Nat}{a b:C4}{t:Rat}(ha:Bd A a.1)(hb:Bd A b.1)(c:Ds B a)(d:Ds B b)(bt:Bd M t)(h:a.1<b.1):FE (M+3*A+3*B+4) (inter a b t):=by
 have n:b.1-a.1≠0:=by grind
 have s:=(bt.sub ha).div n (hb.sub ha);exact⟨(c.x.add (s.mul (d.x.sub c.x))).mono (by omega),(c.y.add (s.mul (d.y.sub c.y))).mono (by omega),(c.z.add (s.mul (d.z.sub c.z))).mono (by omega)⟩
theorem QX {A B M:Nat}{t:Rat}(bt:Bd M t):∀{a:C4} {r:km C4},LO (a::r)->MB A B (a::r)->∀p,spotG a r t=some p->FE (M+3*A+3*B+4) p
 | a, [],_,_,p,e=>by cases e
 | a,b::r,h,mb,p,e=>by
   simp only[spotG] at e;have d:=(AAb.mp h).1 b (by simp);split at e
   .exact QX bt (AAb.mp h).2 ⟨λc hc=>mb.m c (by simp[hc]),λc hc=>mb.x c (by simp[hc])⟩ p e
   .cases e;exact bZ (mb.m a (by simp)) (mb.m b (by simp)) (mb.x a (by simp)) (mb.x b (by simp)) bt d
def K0 {A B M:Nat}{cs:km C4}{t:Rat}{p:T3}(bt:Bd M t)(b:LO cs)(c:MB A B cs)(e:spotC cs t=some p):FE (M+3*A+3*B+4) p:=by
 cases cs with
 | nil=>cases e
 | cons a r=>
   simp only[spotC] at e;split at e
   .cases e
   .exact QX bt b c p e
def az {cs ds:km C4}{d:Rat×Rat}{n M S D:Nat}(hn:n<=100)(t1:2<=cs.length)(t2:2<=ds.length)(f1:cs.length<=n)(f2:ds.length<=n)(r1:LO cs)(r2:LO ds)(c1:∀c∈cs,Ds 150 c)(c2:∀c∈ds,Ds 150 c)(m1:∀c∈cs,Bd M c.1)(m2:∀c∈ds,Bd M c.1)(b1:Bd D d.1)(b2:Bd D d.2)(G:0<d.1)(H:0<d.2)(B:D<=100)(hM:M<=150)(I:∀m,BF cs ds<=m->m<=BB cs ds->Bd M m->∀p,spotC cs m=some p->FE S p)(J:∀m,BF cs ds<=m->m<=BB cs ds->Bd M m->∀p,spotC ds m=some p->FE S p)(hW:2*S+1+D<=1050):Fx cs ds d M (2*S+1+D) where
 c1:=c1
 c2:=c2
 r1:=r1
 r2:=r2
 t1:=t1
 t2:=t2
 f1:=by omega
 f2:=by omega
 m1:=m1
 m2:=m2
 b1:=b1.mono B
 b2:=b2.mono B
 p1:=G
 p2:=H
 w:=λh m C=>by
  have K:Bd M (BF cs ds):=by obtain⟨a,r,l,rfl,j,e⟩:=open2 t1;obtain⟨k,f,o,rfl,u,b⟩:=open2 t2;exact(m1 a (by simp)).mx (m2 k (by simp))
  have L:Bd M (BB cs ds):=by obtain⟨a,r,l,rfl,j,e⟩:=open2 t1;obtain⟨k,f,o,rfl,u,b⟩:=open2 t2;unfold BB;rw[CH e,CH b];exact(m1 l (ABd e)).mn (m2 o (ABd b))
  have E:oH cs ds (BF cs ds) (BB cs ds):=by obtain⟨a,r,l,rfl,j,e⟩:=open2 t1;obtain⟨k,f,o,rfl,u,b⟩:=open2 t2;unfold BF BB at h ⊢;rw[CH e,CH b] at h ⊢;exact eZ j u e b h
  obtain⟨g,i⟩:=D7 h C;have bm:Bd M m:=GK m1 m2 K L C;obtain⟨s,es⟩:=E.one m g i;obtain⟨t,F⟩:=E.other m g i;have v:=I m g i bm s es;have A:=J m g i bm t F;have p1:d.1≠0:=by grind
  have p2:d.2≠0:=by grind
  unfold Ge;rw[es,F];exact⟨(((v.x.sub A.x).div p1 b1)).mono (by omega),(((v.y.sub A.y).div p1 b1)).mono (by omega),(((v.z.sub A.z).div p2 b2)).mono (by omega)⟩
 hM:=hM
 hW:=hW
structure Io (cs:List C4):Prop where
 ok:LM 12 28 cs
 mm:∀c∈cs,Bd 11 c.1
def aN.y {cs:km C4}(p:aN cs):Io cs:=⟨⟨p.ok.two,p.ok.few,λc hc=>(p.ok.bd c hc).mono (by decide),p.ok.ris⟩,λc hc=>(p.mu c hc).bd (by decide) (by decide)⟩
def Io.mb {cs:km C4}(p:Io cs):MB 11 28 cs:=⟨p.mm,p.ok.bd⟩
def oT {cs ds:km C4}{d:Rat×Rat}(p:Io cs)(p2:Io ds)(b1:Bd 3 d.1)(b2:Bd 3 d.2)(a:0<d.1)(b:0<d.2):Fx cs ds d 11 268:=
 az (n:=12) (S:=132) (D:=3) (by decide) p.ok.two p2.ok.two p.ok.few p2.ok.few p.ok.ris p2.ok.ris (λc hc=>(p.ok.bd c hc).mono (by decide)) (λc hc=>(p2.ok.bd c hc).mono (by decide)) p.mm p2.mm b1 b2 a b (by decide) (by decide) (λm _ _ bm q e=>(K0 bm p.ok.ris p.mb e)) (λm _ _ bm q e=>(K0 bm p2.ok.ris p2.mb e)) (by decide)
abbrev Fo (F:AF):AS:=
 (Aa (BO (Aj (Dr PF (AB (AY Ai (aV 0) (aC (.int 0))) (AB (aC (.ty "int")) AL)))) (Aq (aV 0)) A0)
   (Aq (DQ (CF (HP (aV 0)) 1 [] (Au 0) D5 (AR 1 F (AB (aV 0) AL))))))
def C9:Nat->AF
 | 0=>λ_ _=>False
 | n+1=>Ax 1 (Fo (C9 n))
def JW {m:Nat}{a:PV}{Q:PV->Prop}(h:Fo (C9 m) ⟨λ_=>Q .non,Q,λ_=>False,λ_=>False⟩ [some (.val a)]):C9 (m+1) [a] Q:=h
def Ld {m:Nat}{r:Rat}{Q:PV->Prop}(q:Q (fr r)):C9 (m+1) [fr r] Q:=by apply JW;ac_rfl;exact q
section
variable {cs ds:km C4}{d:Rat×Rat}{M W:Nat}
structure NS (cs ds:List C4) (d:Rat×Rat) (X:Nat) (x:Option Rat) (ff:List Bp) (go:Bool):Prop where
 sep:Sep ff
 ok:∀s∈ff,Cr X s
 fin:∀s∈ff,∃e y,s.2.2=some e/\x=some y/\e<=y
 stop:go=false->∀s∈ff,∃e y,s.2.2=some e/\x=some y/\e<y
 on:go=true->∃f0 b h y,ff=f0 ++ [(b,h,some y)] /\x=some y
 sem:∀m,ff.any (Bg · (m,0))=true↔FA cs ds d m/\∃y,x=some y/\m<y
theorem cA {xs:km PV}{x:PV}{R:PV->Prop}(h:R x):Ai (.lst (xs ++ [x])) (.int (-1)) R:=by
 show ZQ (HK (xs ++ [x]) (-1)) R;have q:HK (xs ++ [x]) (-1)=some x:=by
  unfold HK V3;rw[AA0,ABu,AAQ (by decide),AAR (by omega)];have a:(-1+((xs.length+1:Nat):Int)).toNat=xs.length:=by omega
  rw[Option.bind_some,a,ABH (AAW _),Nat.sub_self];rfl
 rw[q];exact h
end
end PL
namespace PL.K25
open PySem L2 PL PyProof.Rows
abbrev IU:AS:=
 (Aa (BO (D9 (B2 (Aj (AR 1 BI (AB (AY Ai (aV 0) (aC (.int 0))) AL)))) (B2 (Aj (AR 1 BI (AB (AY Ai (aV 0) (aC (.int 1))) AL))))) (Aq (aC (.bl false))) A0)
   (Aq (Yc (AY jL (AY Ai (aV 0) (aC (.int 1))) (aC (.int 0))) (AY HQ (Dr B4 (AB (aV 0) AL)) (AR 2 A9 (AB (AY Ai (aV 0) (aC (.int 0))) (AB (AY Ai (aV 0) (aC (.int 1))) AL)))))))
abbrev Fq:AS:=
 (Aa (BO (D9 (B2 (Aj (KD (aV 0) ["list","tuple"]))) (Aj (AY PD (Dr EA (AB (aV 0) AL)) (aC (.int 2))))) (Aq (aC (.bl false))) A0)
   IU)
def BE:AF:=Ax 1 Fq
def BM {a:PV}{Q:PV->Prop}(h:Fq ⟨λ_=>Q .non,Q,λ_=>False,λ_=>False⟩ [some (.val a)]):BE [a] Q:=h
abbrev K6:AS:=
 (Aa (BO (D9 (B2 (Aj (AR 1 BI (AB (AY Ai (aV 0) (aC (.int 2))) AL)))) (D9 (B2 (Aj (AR 1 BI (AB (AY Ai (aV 0) (aC (.int 3))) AL)))) (D9 (B2 (Aj (rK wC bC (aC (.int 0)) (AY Ai (aV 0) (aC (.int 2))) (aC (.int 3))))) (Aj (AY PD (Dr RN (AB (AY Ai (aV 0) (aC (.int 3))) AL)) (aC (.int 1))))))) (Aq (aC (.bl false))) A0)
   (Aq (AR 2 Ao (AB (AY Ai (aV 0) (aC (.int 0))) (AB (AY Ai (aV 0) (aC (.int 1))) AL)))))
abbrev Ii:AS:=
 (Aa (BO (D9 (B2 (Aj (KD (aV 0) ["list","tuple"]))) (D9 (Aj (AY PD (Dr EA (AB (aV 0) AL)) (aC (.int 4)))) (D9 (B2 (Aj (AR 1 BE (AB (AY Ai (aV 0) (aC (.int 0))) AL)))) (B2 (Aj (AR 1 BE (AB (AY Ai (aV 0) (aC (.int 1))) AL))))))) (Aq (aC (.bl false))) A0)
   K6)
def Br:AF:=Ax 1 Ii
def Dc {a:PV}{Q:PV->Prop}(h:Ii ⟨λ_=>Q .non,Q,λ_=>False,λ_=>False⟩ [some (.val a)]):Br [a] Q:=h
abbrev IV:AS:=
 (Aa (Ar (AY Ai (AR 4 EY (AB (aV 0) (AB (aV 1) (AB (aV 2) (AB (aV 5) AL))))) (AY Ai (aV 3) (aC (.int 2)))) (Au 8))
   (BO (Aj (AY bC (AY DH (AY Ai (aV 3) (aC (.int 3))) (AY Ai (aV 8) (aC (.int 0)))) (AY Ai (aV 8) (aC (.int 1))))) (Aq (aC (.bl false))) A0))
abbrev IX:AS:=
 (Aa (Fe (HP (AY BY (AY BY (DQ (B7 (AB (aV 6) AL))) (aV 4)) (DQ (B7 (AB (aV 7) AL))))) (Au 5) IV)
   (Aq (aC (.bl true))))
abbrev IW:AS:=
 (Aa (Ar (DQ (CF (HP (AR 2 DB (AB (aV 0) (AB (aV 1) AL)))) 1 [6,7] (Au 0) (KC (Aj (AR 2 Ao (AB (aV 1) (AB (aV 0) AL)))) (Aj (AR 2 Ao (AB (aV 0) (AB (aV 2) AL))))) (aV 0))) (Au 4))
   IX)
abbrev Fs:AS:=
 (Aa (Ar (Ay (AB (Dr B4 (AB (AY Ai (aV 3) (aC (.int 0))) AL)) (AB (Dr B4 (AB (AY Ai (aV 3) (aC (.int 1))) AL)) AL))) (JH 2 (Ae (Au 6) (Ae (Au 7) Bx))))
   IW)
def CJ:AF:=Ax 9 Fs
def JX {a b c d:PV}{Q:PV->Prop}(h:Fs ⟨λ_=>Q .non,Q,λ_=>False,λ_=>False⟩ [some (.val a),some (.val b),some (.val c),some (.val d),none,none,none,none,none]):CJ [a,b,c,d] Q:=h
abbrev MZ:AS:=
 (Aa (BO (D9 (Aj (AY PD (AY Ai (aV 5) (aC (.int 0))) (AY Ai (aV 4) (aC (.int 0))))) (D9 (Aj (AY PD (AY Ai (aV 6) (Mh E9 (aC (.int 1)))) (AY Ai (aV 4) (Mh E9 (aC (.int 1)))))) (Aj (AY PD (VW (aV 5) (VZ (aC (.int 1))) VY) (VW (aV 6) VY (VZ (Mh E9 (aC (.int 1))))))))) (Aq (aC (.bl false))) A0)
   (Aq (Dr (Yn λbs=>bs.all id) (AB (DQ (CF (HP (aV 3)) 1 [0,1,2] (Au 0) D5 (AR 4 CJ (AB (aV 1) (AB (aV 2) (AB (aV 3) (AB (aV 0) AL))))))) AL))))
abbrev MY:AS:=
 (Aa (Ar (DQ (CF (HP (aV 3)) 1 [] (Au 0) D5 (Dr B4 (AB (AY Ai (aV 0) (aC (.int 1))) AL)))) (Au 6))
   MZ)
abbrev MX:AS:=
 (Aa (Ar (DQ (CF (HP (aV 3)) 1 [] (Au 0) D5 (Dr B4 (AB (AY Ai (aV 0) (aC (.int 0))) AL)))) (Au 5))
   MY)
abbrev MW:AS:=
 (Aa (BO (D9 (Aj (AY HQ (Dr EA (AB (aV 4) AL)) (aC (.int 0)))) (Aj (AY HQ (Dr EA (AB (aV 3) AL)) (aC (.int 0))))) (Aq (AY HQ (Dr EA (AB (aV 4) AL)) (Dr EA (AB (aV 3) AL)))) A0)
   MX)
abbrev MV:AS:=
 (Aa (Ar (AR 2 DB (AB (aV 0) (AB (aV 1) AL))) (Au 4))
   MW)
abbrev Ju:AS:=
 (Aa (BO (D9 (B2 (Aj (KD (aV 3) ["list","tuple"]))) (Aj (AY (bB false) (aC (.bl false)) (DQ (CF (HP (aV 3)) 1 [] (Au 0) D5 (AR 1 Br (AB (aV 0) AL))))))) (Aq (aC (.bl false))) A0)
   MV)
def CW:AF:=Ax 7 Ju
def Ht {a b c d:PV}{Q:PV->Prop}(h:Ju ⟨λ_=>Q .non,Q,λ_=>False,λ_=>False⟩ [some (.val a),some (.val b),some (.val c),some (.val d),none,none,none]):CW [a,b,c,d] Q:=h
abbrev IY:AS:=
 (Aa (Ar (AR 2 BW (AB (aV 0) (AB (aC (.int 3)) AL))) (Au 7))
   (fq 6 (aV 7) (AR 2 Bw (AB (AY Ai (aV 1) (Dr Vr (AB (AY HQ (aV 7) (aC (.int 2))) AL))) (AB (AY Ai (DQ (B7 (AB (Ay (AB (aC (.int 1)) (AB (aC (.int 1)) AL))) (AB (Ay (AB (Mh E9 (aC (.int 1))) (AB (aC (.int 1)) AL))) (AB (Ay (AB (aC (.int 3)) (AB (aC (.int 2)) AL))) AL))))) (AR 2 BW (AB (aV 0) (AB (aC (.int 3)) AL)))) AL)))))
abbrev CV:AS:=
 (Aa (fq 6 (aV 4) (AR 2 Bw (AB (AY Ai (aV 1) (Dr Vr (AB (AY HQ (aV 4) (aC (.int 2))) AL))) (AB (AY Ai (DQ (B7 (AB (Ay (AB (aC (.int 1)) (AB (aC (.int 1)) AL))) (AB (Ay (AB (aC (.int 1)) (AB (aC (.int 1)) AL))) (AB (Ay (AB (aC (.int 2)) (AB (aC (.int 1)) AL))) AL))))) (AR 2 BW (AB (aV 0) (AB (aC (.int 3)) AL)))) AL))))
   (FS 3 Mn (AB (Yd (AY BY (Ay (AB (AY Ai (aV 5) (aC (.int 0))) AL)) (Dr B4 (AB (DQ (CF (Te (AB (aC (.int 3)) AL)) 1 [5,6] (Au 0) D5 (AR 2 Cy (AB (AY Ai (aV 1) (AY BY (aV 0) (aC (.int 1)))) (AB (AY Ai (aV 2) (aV 0)) AL))))) AL)))) AL)))
abbrev Dw:AS:=
 (Aa (BO (Aj (AY HQ (AR 2 BW (AB (aV 0) (AB (aC (.int 3)) AL))) (aC (.int 0)))) IY A0)
   CV)
abbrev Em:AS:=
 (Aa (Mf (B7 (AB (Ay (AB (aC (.int 0)) (AB (aC (.int 1)) AL))) (AB (Ay (AB (aC (.int 0)) (AB (aC (.int 1)) AL))) (AB (Ay (AB (aC (.int 0)) (AB (aC (.int 1)) AL))) AL)))) 6)
   Dw)
abbrev Ib:AS:=
 (Aa (Fe (HP (aV 2)) (Au 5) Em)
   (Aq (Ay (AB (aV 2) (AB (Dr B4 (AB (aV 3) AL)) AL)))))
abbrev Ia:AS:=
 (Aa (Ar (AR 2 BW (AB (aV 0) (AB (aC (.int 3)) AL))) (Au 4))
   Ib)
abbrev IZ:AS:=
 (Aa (Mf (B7 AL) 3)
   Ia)
abbrev Ft:AS:=
 (Aa (Ar (AR 1 D0 (AB (aV 0) AL)) (Au 2))
   IZ)
def CK:AF:=Ax 8 Ft
def JY {a b:PV}{Q:PV->Prop}(h:Ft ⟨λ_=>Q .non,Q,λ_=>False,λ_=>False⟩ [some (.val a),some (.val b),none,none,none,none,none,none]):CK [a,b] Q:=h
abbrev Fp (F:AF):AS:=
 (Aa (BO (Aj (Dr PF (AB (aV 0) (AB (aC (.ty "tuple")) AL)))) (Aq (DQ (CF (HP (aV 0)) 1 [] (Au 0) D5 (AR 1 F (AB (aV 0) AL))))) A0)
   (Aq (aV 0)))
def Aw:Nat->AF
 | 0=>λ_ _=>False
 | n+1=>Ax 1 (Fp (Aw n))
def CY {m:Nat}{a:PV}{Q:PV->Prop}(h:Fp (Aw m) ⟨λ_=>Q .non,Q,λ_=>False,λ_=>False⟩ [some (.val a)]):Aw (m+1) [a] Q:=h
def RZ {cs ds:km C4}{d:Rat×Rat}{M W B X:Nat}(hc:∀c∈cs,Ds B c)(f:∀c∈ds,Ds B c)(n:X+6*B+10<=1900)(D:Fx cs ds d M W){b e m:Rat}(g:oH cs ds b e)(h1:b<=m)(h2:m<=e)(bm:Bd X m){Q:PV->Prop}(q:Q (.lst ((uJ (Ge cs ds d m)).map fr))):EY [BA cs,BA ds, .tup [fr d.1,fr d.2],fr m] Q:=by
 have hM:=D.hM;obtain⟨s,es⟩:=g.one m h1 h2;obtain⟨t,a⟩:=g.other m h1 h2;have t1:=(FE.spotC bm D.r1 hc s es).mono (B':=1900) (by omega);have t2:=(FE.spotC bm D.r2 f t a).mono (B':=1900) (by omega);have h:=t1.x;have i:=t1.y;have j:=t1.z;have y1:=t2.x;have y2:=t2.y;have y3:=t2.z;have o:=h.sub y1;have p:=i.sub y2;have r:=j.sub y3;have b1:=D.b1;have b2:=D.b2;have u:d.1≠0:=by have:=D.p1;grind
 have v:d.2≠0:=by have:=D.p2;grind
 have f1:=D.f1;have f2:=D.f2;have k:=D.t1;have l:=D.t2;apply Pb;ac_rfl;refine HX hc D.r1 (by intro z;subst z;simp at k) (by omega) bm (by omega) ?_;rw[es,show MR (some s)= .tup [fr s.1,fr s.2.1,fr s.2.2] from rfl];ac_rfl;refine HX f D.r2 (by intro z;subst z;simp at l) (by omega) bm (by omega) ?_;rw[a,show MR (some t)= .tup [fr t.1,fr t.2.1,fr t.2.2] from rfl];ac_rfl;rw[show rng 0 (Int.toNat 3)= [.int 0, .int 1, .int 2] from rfl];repeat' array_get_dec
 rw[show (if decide ((0:Int)=2)=true then (1:Int) else 0)=0 from rfl];repeat' array_get_dec
 rw[show (if decide ((1:Int)=2)=true then (1:Int) else 0)=0 from rfl];repeat' array_get_dec
 rw[show (if decide ((2:Int)=2)=true then (1:Int) else 0)=1 from rfl];repeat' array_get_dec
 have q:Q (.lst ((uJ (JQ ((spotC cs m).getD (0,0,0)) ((spotC ds m).getD (0,0,0)) d)).map fr)):=q;rw[es,a] at q;exact q
def cM {r:Rat}{v:PV}(b:Bd 8000 r)(hv:YX r v){Q:PV->Prop}(q:Q (.bl true)):BE [v] Q:=by
 have c:=r.den_pos;have hv:v= .tup [.int r.num, .int (r.den:Int)] \/v= .lst [.int r.num, .int (r.den:Int)] :=hv;have a:∀{Q:PV->Prop},Q (.bl true)->HQ (.tup [.int r.num, .int (r.den:Int)]) (fr r) Q:=λ{Q} q=>by show HQ (fr r) (fr r) Q;refine⟨⟨rfl,rfl⟩, ?_⟩;rw[RJ,AAZ rfl];exact q
 rcases hv with rfl|rfl;all_goals
  apply BM;ac_rfl;refine DE ?_;ac_rfl;refine DE ?_;ac_rfl;rotate_left
  .exfalso;omega
  refine Bu _ _ (BX r) (Am b.top (by decide)) (Am b.botI (by decide)) ?_;rw[ABO];exact a q
section
variable {cs ds:km C4}{d:Rat×Rat}{M W:Nat}
theorem lC {o:T3}{k:Nat}(hk:k<3){R:PV->Prop}(h:R (fr (Ep o k))):Ai (.lst ((uJ o).map fr)) (.int (k:Nat)) R:=by
 match k,hk with
 | 0,_=>exact h
 | 1,_=>exact h
 | 2,_=>exact h
theorem Xq {g:Rat}:g.num<(g.den:Int)↔g<1:=by rw[Rat.lt_iff];show _↔g.num*1<1*(g.den:Int);omega
theorem qf {u:kc}{n:Int}{k:Nat}(h:n.natAbs<2^k)(hk:k<=100000):MulOk (HF u) n:=by
 cases u
 .exact MulOk.of (m:=2) (n:=k) (by decide) h (by omega) (by omega)
 .exact MulOk.of (m:=2) (n:=k) (by decide) h (by omega) (by omega)
theorem XG {e:Rat}:∀{rs:km Rw} {b:Rat},TL b e rs->(rs.map (·.b)).tail=(rs.map (·.e)).dropLast
 | [],_,_=>rfl
 | [r],_,_=>rfl
 | r::s::rs,_,h=>by have ih:=XG (rs:=s::rs) h.2;have h1:s.b=r.e:=h.2.1;simp only[AAX,ADW,List.dropLast_cons₂] at ih ⊢;rw[h1,ih]
theorem P5 {e:Rat}:∀{rs:km Rw} {b:Rat},rs≠ [] ->TL b e rs->(rs.map (·.e)).getLast?=some e
 | [],_,h,_=>absurd rfl h
 | [r],_,_,h=>by have:r.e=e:=h.2;simp[this]
 | r::s::rs,_,_,h=>by have:=P5 (rs:=s::rs) (by simp) h.2;simpa using this
theorem au (xs:km Rat):Er (xs.map fr) (some 1) none=xs.tail.map fr:=by have h1:∀ys:km PV,Er ys (some 1) none=ys.drop 1:=sn;rw[h1,<-ACD,List.drop_one]
theorem b9 {xs:km Rat}{x:Rat}(e:xs.getLast?=some x){R:PV->Prop}(h:R (fr x)):Ai (.lst (xs.map fr)) (.int (-1)) R:=by obtain⟨u,hu⟩:=List.getLast?_eq_some_iff.mp e;rw[hu,AAo];exact cA h
def tD (r:Rat):PV:= .lst [.int r.num, .int (r.den:Int)]
def mP (r:Rw):PV:= .lst [tD r.b,tD r.e, .int (r.sd:Nat), .int (HF r.up)]
theorem fD.lists (r:Rw):fD r (mP r):=⟨_,_, .inr rfl, .inr rfl, .inr rfl⟩
theorem Gd {m:Nat}{i:Int}{Q:PV->Prop}(q:Q (.int i)):Aw (m+1) [.int i] Q:=by apply CY;ac_rfl;exact q
theorem Ld {m:Nat}{r:Rat}{Q:PV->Prop}(q:Q (tD r)):Aw (m+2) [fr r] Q:=by
 show Aw (m+2) [.tup [.int r.num, .int (r.den:Int)]] Q;apply CY;repeat' array_get_dec
 refine Gd ?_;repeat' array_get_dec
 refine Gd ?_;repeat' array_get_dec
 exact q
theorem ZA {m:Nat}{r:Rw}{Q:PV->Prop}(q:Q (mP r)):Aw (m+3) [Pa r] Q:=by
 unfold Pa;apply CY;repeat' array_get_dec
 refine Ld ?_;repeat' array_get_dec
 refine Ld ?_;repeat' array_get_dec
 refine Gd (m:=m+1) ?_;repeat' array_get_dec
 refine Gd (m:=m+1) ?_;repeat' array_get_dec
 exact q
theorem V5 {m:Nat}{rs:km Rw}(a:rs.length<=402){Q:PV->Prop}(q:Q (.lst (rs.map mP))):Aw (m+4) [.tup (rs.map Pa)] Q:=by
 apply CY;ac_rfl;refine DY Pa mP id (λ_=>True) (λr _ R b=> ?_) rs [] (λ_ _=>trivial) ?_
 .ac_rfl;exact ZA b
 rw[ABB,ADQ];exact q
theorem W9 {d:Rat×Rat}{k:Int}{R:PV->Prop}(h:∀x,(x=d.1\/x=d.2)->R (fr x)):Ai (.tup [fr d.1,fr d.2]) (.int (if decide (k=2)=true then 1 else 0)) R:=by
 by_cases e:k=2
 .rw [AAZ e,AAR rfl];exact h _ (.inr rfl)
 .rw [AAY e,AAQ (by decide)];exact h _ (.inl rfl)
theorem we {a b c:PV}{P:Nat->Prop}(h:P 0):nO (V3 [a,b,c].length 0) P:=h
theorem wg {a b c:PV}{P:Nat->Prop}(h:P 1):nO (V3 [a,b,c].length 1) P:=h
theorem wj {a b c:PV}{P:Nat->Prop}(h:P 2):nO (V3 [a,b,c].length 2) P:=h
theorem NH {d:Rat×Rat}{c:C4}{k:km C4}{x y z:Rat}{a:Int}{n:PV}{b:ke AV}{D:G1}(b1:Bd 3 d.1)(b2:Bd 3 d.2)(o:Ds 22 c)(gl:k.length<=12)(r:Bd 5 x)(l:Bd 5 y)(s:Bd 5 z)(C:0<=a)(E:a<3)(q:∀(e:C4) g b,e.1=c.1->Ds 28 e->D.nx [some (.val .tape),some (.val (.tup [fr d.1,fr d.2])),some (.val n),some (.own ((k ++ [e]).map cor)),some (.val (.int a)),some (.val (cor c)),g,b]):CV D [some (.val .tape),some (.val (.tup [fr d.1,fr d.2])),some (.val n),some (.own (k.map cor)),some (.val (.int a)),some (.val (cor c)),some (.own [fr x,fr y,fr z]),b] :=by
 obtain⟨nx,rt,bk,ct⟩:=D;have q:∀(e:C4) g b,e.1=c.1->Ds 28 e->nx [some (.val .tape),some (.val (.tup [fr d.1,fr d.2])),some (.val n),some (.own ((k ++ [e]).map cor)),some (.val (.int a)),some (.val (cor c)),g,b] :=q;have t:∀f∈ [(1:Rat),1,2],Bd 2 f:=by intro f p;simp only[AAT,AAq,AAr] at p;rcases p with rfl|rfl|rfl <;> exact⟨by decide +kernel,by decide +kernel⟩
 have u:∀w,(w=d.1\/w=d.2)->Bd 3 w:=λw h=>by rcases h with rfl|rfl <;> assumption
 have i:∀(x y z:Rat),Bd 5 x->Bd 5 y->Bd 5 z->∀g b,nx [some (.val .tape),some (.val (.tup [fr d.1,fr d.2])),some (.val n),some (.own (k.map cor ++ [.tup [fr c.1,fr (c.2.1+x),fr (c.2.2.1+y),fr (c.2.2.2+z)]])),some (.val (.int a)),some (.val (cor c)),g,b] :=λx y z h1 h2 v g b=>by have:=q (c.1,c.2.1+x,c.2.2.1+y,c.2.2.2+z) g b rfl ⟨o.m.mono (by decide),(o.x.add h1).mono (by decide),(o.y.add h2).mono (by decide),(o.z.add v).mono (by decide)⟩;rw[AAo] at this;exact this
 clear q;rcases (show a=0\/a=1\/a=2 by omega) with rfl|rfl|rfl;all_goals
  ac_rfl;refine W9 λw hw=> ?_;have A:=u w hw;ac_rfl;refine RX (xs:= [1,1,2]) (by assumption) (by assumption) λf p=> ?_;have B:=t f p;have j:=A.mul B;ac_rfl;first | refine we ?_|refine wg ?_|refine wj ?_
  simp only[List.set];ac_rfl;rw[show rng 0 (Int.toNat 3)= [.int 0, .int 1, .int 2] from rfl];repeat' array_get_dec
  rw[show (0:Int)+1=1 from rfl];repeat' array_get_dec
  rw[show (1:Int)+1=2 from rfl];repeat' array_get_dec
  rw[show (2:Int)+1=3 from rfl];repeat' array_get_dec
  first | exact i _ _ _ j l s _ _|exact i _ _ _ r j s _ _|exact i _ _ _ r l j _ _
theorem Xy {cs:km C4}(a:Pq 12 6 600 cs):aN cs:=⟨⟨a.two,a.few,λc hc=>(a.mu c hc).bd (by decide) (by decide),a.ris⟩,λc hc=>(a.mu c hc).m.mono (by decide)⟩
theorem e7 {d:Rat×Rat}(b1:Bd 3 d.1)(b2:Bd 3 d.2){Q:PV->Prop}(q:∀cs ds,Pq 12 6 600 cs->Io ds->Q (.tup [BA cs,BA ds])):CK [.tape, .tup [fr d.1,fr d.2]] Q:=by
 apply JY;ac_rfl;refine ZU λcs l=> ?_;have x:=Xy l;have E:=l.few;ac_rfl;rename_i z o p;refine ET cor (λA vs τ=>∃(a:km C4) (u m n:ke AV),a.map (·.1)=A.map (·.1)/\(∀g∈a,Ds 28 g)/\τ= [some (.val .tape),some (.val (.tup [fr d.1,fr d.2])),some (.val (BA cs)),some (.own (a.map cor)),some (.val (.int z)),u,m,n]) ?_ ?_ ⟨[],_,_,_,rfl,by simp,rfl⟩
 .rintro τ ⟨a,u,m,n,e,v,rfl⟩;ac_rfl;have B:a.length=cs.length:=by have:=congrArg List.length e;simpa using this
  refine q cs a l ⟨⟨by rw[B];exact l.two,by rw[B];exact l.few,v, ?_⟩,λc hc=> ?_⟩
  .have h1:(cs.map (·.1)).Pairwise (· < ·):=AD7.mpr l.ris;rw[<-e] at h1;exact AD7.mp h1
  .have:c.1∈cs.map (·.1):=by rw[<-e];exact AAd.mpr ⟨c,hc,rfl⟩
   obtain⟨F,G,H⟩:=AAd.mp this;rw[<-H];exact x.y.mm F G
 .rintro A c vs e τ R C ⟨a,u,m,n,D,v,rfl⟩;have r:=x.ok.bd c (by rw[<-e];simp);have gl:a.length<=12:=by have h1:=congrArg List.length D;have h2:=congrArg List.length e;simp at h1 h2;omega
  have b:∀(e:C4) m n,e.1=c.1->Ds 28 e->R [some (.val .tape),some (.val (.tup [fr d.1,fr d.2])),some (.val (BA cs)),some (.own ((a ++ [e]).map cor)),some (.val (.int z)),some (.val (cor c)),m,n] :=λe m n h1 h2=>C _ ⟨a ++ [e],_,_,_,by rw[AAo,AAo,D];simp[h1],λg I=>by
   rcases AAg.mp I with h|h
   .exact v g h
   .rcases ABE.mp h with rfl;exact h2,rfl⟩
  clear C;have J:∀f∈ [(1:Rat), -1,3/2],Bd 2 f:=by intro f s;simp only[AAT,AAq,AAr] at s;rcases s with rfl|rfl|rfl <;> exact⟨by decide +kernel,by decide +kernel⟩
  have K:∀w,(w=d.1\/w=d.2)->Bd 3 w:=λw h=>by rcases h with rfl|rfl <;> assumption
  have i:Bd 5 (0:Rat):=sj.mono (by decide);unfold Em Dw;generalize t:CV=T;ac_rfl
  .rename_i k k0 O;refine W9 λw hw=> ?_;have L:=K w hw;ac_rfl;refine RX (xs:= [1, -1,3/2]) (by assumption) (by assumption) λf s=> ?_;have N:=J f s;have j:=L.mul N;ac_rfl;rcases (show k=0\/k=1\/k=2 by omega) with rfl|rfl|rfl
   .refine we ?_;simp only[List.set];ac_rfl;subst t;exact NH b1 b2 r gl j i i o p b
   .refine wg ?_;simp only[List.set];ac_rfl;subst t;exact NH b1 b2 r gl i j i o p b
   .refine wj ?_;simp only[List.set];ac_rfl;subst t;exact NH b1 b2 r gl i i j o p b
  .subst t;exact NH b1 b2 r gl i i i o p b
end
end PL.K25
namespace PL.K26
open PySem L2 PL PL.K25 PyProof.Rows
structure Rx where
 r:Rw
 dbl:Bool
structure fi (X:Nat) (x:Rx):Prop where
 bb:Bd X x.r.b
 be:Bd X x.r.e
 sd:x.r.sd<3
section
variable {cs ds:km C4}{d:Rat×Rat}{M W:Nat}
def fY (cs ds:km C4)(d:Rat×Rat)(r:Rw):Prop:=∀m∈C6 cs ds r.b r.e,1<=(HF r.up:Rat)*Ep (Ge cs ds d m) r.sd
def He (cs ds:km C4)(d:Rat×Rat)(e:Rat):Rat->km Rx->Prop
 | b, [] =>b=e
 | b,x::xs=>(x.dbl=false/\x.r.b=b/\x.r.b<x.r.e/\x.r.e<=e/\fY cs ds d x.r)/\He cs ds d e x.r.e xs
def Good (cs ds:km C4)(d:Rat×Rat)(xs:km Rx):Prop:=if BF cs ds<BB cs ds then He cs ds d (BB cs ds) (BF cs ds) xs else xs= []
theorem Mz {a:Type}(f:a->kc):∀xs:km a,Hf (xs.map λx=>PV.bl (f x))=some (xs.map f)
 | [] =>rfl
 | x::xs=>by have:=Mz f xs;simp only[AAX,Hf,this];rfl
theorem oM {a:Type}{f:a->kc}{xs:km a}{Q:PV->Prop}(c:(∀x∈xs,f x=true)->Q (.bl true))(e:(¬∀x∈xs,f x=true)->Q (.bl false)):Yn (λbs=>bs.all id) [.lst (xs.map λx=>PV.bl (f x))] Q:=by
 refine jf (Mz f xs) ?_;cases h:(xs.map f).all id with
 | true=> refine c λx hx=> ?_;rw[ABI] at h;exact h (f x) (AAd.mpr ⟨x,hx,rfl⟩)
 | false=>
   refine e λz=> ?_;have:(xs.map f).all id=true:=by rw[ABI];intro b hb;obtain⟨x,hx,rfl⟩:=AAd.mp hb;exact z x hx
   rw[this] at h;cases h
theorem uF {a:Type}{f:a->kc}{xs:km a}{Q:PV->Prop}(b:(∀x∈xs,f x=true)->Q (.bl false))(c:(¬∀x∈xs,f x=true)->Q (.bl true)):bB false (.bl false) (.lst (xs.map λx=>PV.bl (f x))) Q:=by
 refine⟨⟨rfl,Hq λx hx=> ?_⟩, ?_⟩
 .obtain ⟨_,_,rfl⟩:=AAd.mp hx;rfl
 rw[AAQ (by decide)];cases h:Xg (.bl false) (xs.map λx=>PV.bl (f x)) with
 | false=>
   refine b λx hx=> ?_;unfold Xg at h;rw[AB2] at h;have:=h (.bl (f x)) (AAd.mpr ⟨x,hx,rfl⟩);cases e:f x with
   | true=>rfl
   | false=> rw[e] at this;exact absurd (by decide +kernel) this
 | true=>
   refine c λz=> ?_;have:Xg (.bl false) (xs.map λx=>PV.bl (f x))=false:=by unfold Xg;rw[AB2];intro x hx;obtain⟨y,hy,rfl⟩:=AAd.mp hx;rw[z y hy];decide +kernel
   rw[this] at h;cases h
theorem mW {u:kc}{x:Rat}:HF u*x.num<(x.den:Int)↔(HF u:Rat)*x<1:=by
 cases u
 .have h2:=Xq (g:= -x);rw[Rat.neg_num,Rat.neg_den] at h2;have a:((HF false:Int):Rat)= -1:=rfl;rw[a];have e:(-1:Rat)*x= -x:=by grind
  rw[e,<-h2];show (-1)*x.num<_↔_;rw[show (-1)*x.num= -x.num by omega]
 .have a:((HF true:Int):Rat)=1:=rfl;rw[a];have e:(1:Rat)*x=x:=by grind
  rw[e,<-Xq];show 1*x.num<_↔_;rw[show 1*x.num=x.num by omega]
theorem Vf {e:Rat}:∀{rs:km Rw} {b:Rat},TL b e rs->(∀r∈rs,r.b<r.e)->b<=e
 | [],b,h,_=>by have h:b=e:=h;grind
 | r::rs,b,h,k=>by have h1:=Vf h.2 λr a=>k r (by simp[a]);have h2:=k r (by simp);have c:r.b=b:=h.1;grind
theorem aj {e:Rat}:∀{rs:km Rw} {b:Rat},TL b e rs->(∀r∈rs,r.b<r.e)->∀r∈rs,b<=r.b/\r.e<=e
 | r::rs,b,h,k,r',a=>by
   have c:∀r∈rs,r.b<r.e:=λr a=>k r (by simp[a]);have h1:=Vf h.2 c;have h2:=k r (by simp);have f:r.b=b:=h.1;rcases AAT.mp a with rfl|a
   .exact ⟨by grind,h1⟩
   .have:=aj h.2 c r' a;exact⟨by grind,this.2⟩
theorem ak {e:Rat}:∀{rs:km Rw} {r:Rw},(((r::rs).map (·.b)).tail=((r::rs).map (·.e)).dropLast)->((r::rs).map (·.e)).getLast?=some e->TL r.b e (r::rs)
 | [],r,_,h=>⟨rfl,show r.e=e by simpa using h⟩
 | s::rs,r,h,k=>by simp only[AAX,ADW,List.dropLast_cons₂,List.cons.injEq] at h;have ih:=ak (rs:=rs) (r:=s) (by simpa using h.2) (by simpa using k);refine⟨rfl, ?_⟩;rw[<-h.1];exact ih
def lS (r:Rw):Rx:=⟨r,false⟩
theorem QD {e:Rat}:∀{rs:km Rw} {b:Rat},(∀r∈rs,r.b<r.e)->(He cs ds d e b (rs.map lS)↔TL b e rs/\∀r∈rs,fY cs ds d r)
 | [],b,_=>⟨λh=>⟨h,by simp⟩,λh=>h.1⟩
 | r::rs,b,k=>by
   have i:∀r∈rs,r.b<r.e:=λr a=>k r (by simp[a]);have ih:=QD (e:=e) (b:=r.e) i;show (_/\He cs ds d e r.e (rs.map lS))↔_;rw[ih];constructor
   .rintro ⟨⟨_,h1,_,_,h2⟩,c,f⟩;exact⟨⟨h1,c⟩,λg a=>(AAT.mp a).elim (λz=>z ▸ h2) (f g)⟩
   .rintro ⟨⟨h1,c⟩,f⟩;exact⟨⟨rfl,h1,k r (by simp),Vf c i,f r (by simp)⟩,c,λg a=>f g (by simp[a])⟩
theorem Tr {e:Rat}:∀{xs:km Rx} {b:Rat},He cs ds d e b xs->∀x∈xs,(!x.dbl&&decide (x.r.b<x.r.e))=true
 | x::xs,b,h,y,hy=>by
   rcases AAT.mp hy with rfl|hy
   .have h1:=h.1;rw[h1.1,AAZ h1.2.2.1];rfl
   .exact Tr h.2 y hy
theorem gF {xs ys:km Rat}{Q:PV->Prop}(a:xs=ys->Q (.bl false))(b:xs≠ys->Q (.bl true)):PD (.lst (xs.map fr)) (.lst (ys.map fr)) Q:=by
 have o:∀xs:km Rat,En 30 (.lst (xs.map fr))=true:=λxs=>by simp only[En];exact Hq λx hx=>by obtain⟨y,_,rfl⟩:=AAd.mp hx;rfl
 have e:∀xs ys:km Rat,Nz (.lst (xs.map fr)) (.lst (ys.map fr))=decide (xs=ys):=λxs=>by
  induction xs with
  | nil=>
    intro ys;cases ys with
    | nil=>rfl
    | cons y ys=>rw[AAY (by simp)];simp[Nz,pd,ML,PyData.eqv,PyData.eqvAll]
  | cons x xs ih=>
    intro ys;cases ys with
    | nil=>rw[AAY (by simp)];simp[Nz,pd,ML,PyData.eqv,PyData.eqvAll]
    | cons y ys=> have h:Nz (.lst ((x::xs).map fr)) (.lst ((y::ys).map fr))=(Nz (fr x) (fr y)&&Nz (.lst (xs.map fr)) (.lst (ys.map fr))):=rfl;rw[h,RJ,ih];by_cases h1:x=y <;> by_cases h2:xs=ys <;> simp[h1,h2]
 refine⟨⟨o xs,o ys⟩, ?_⟩;rw[e];by_cases h:xs=ys
 .rw [AAZ h];exact a h
 .rw [AAY h];exact b h
end
end PL.K26
namespace PL.K27
open PySem L2 PL PL.K25 PL.K26 PyProof.Rows
def YD (i:Int):kc:=decide (i.natAbs<2^900)
def C1:PV->kc
 | .non=>true | .bl _=>true | .int _=>true | .str _=>true
 | .tup [.int a, .int b] =>YD a&&YD b
 | .lst [.int a, .int b] =>YD a&&YD b
 | .tup xs=>decide (xs.length<=100)&&xs.all λx=>(kdOf x).isSome
 | .lst xs=>decide (xs.length<=100)&&xs.all λx=>(kdOf x).isSome
 | _=>false
def pQ {v:PV}(h:C1 v=true):kdOf v≠none:=by cases v <;> first | (intro z;cases z;done)|cases h
def We {xs:km PV}{v:PV}(hv:v= .tup xs\/v= .lst xs)(h:C1 v=true):xs.length<=100/\(∀y∈xs,kdOf y≠none)/\∀a b,xs= [.int a, .int b] ->a.natAbs<2^900/\b.natAbs<2^900:=by
 have f:(∃a b,xs= [.int a, .int b] /\(YD a&&YD b)=true)\/((∀a b,xs≠ [.int a, .int b])/\(decide (xs.length<=100)&&xs.all λx=>(kdOf x).isSome)=true):=by
  rcases hv with rfl|rfl
  .unfold C1 at h;split at h <;> first | cases ‹PV.tup xs=_› | skip
   .exact .inl ⟨_,_,rfl,h⟩
   .rename_i n;exact .inr ⟨λa b z=>n a b z,h⟩
   .cases h
  .unfold C1 at h;split at h <;> first | cases ‹PV.lst xs=_› | skip
   .exact .inl ⟨_,_,rfl,h⟩
   .rename_i n;exact .inr ⟨λa b z=>n a b z,h⟩
   .cases h
 rcases f with⟨a,b,rfl,h⟩|⟨n,h⟩
 .rw [AAh] at h;refine⟨by simp,λy hy=> ?_,λc d e=> ?_⟩
  .simp only[AAT,AAq,AAr] at hy;rcases hy with rfl|rfl <;> exact λz=>by cases z
  .cases e;exact⟨AA6 h.1,AA6 h.2⟩
 .rw [AAh,AA1,ABI] at h;exact⟨h.1,λy hy=>(λz=>by have:=h.2 y hy;rw[z] at this;cases this),λa b e=>absurd e (n a b)⟩
def RW {xs:km PV}(h:Gc xs=true):∃r:Rat,xs= [.int r.num, .int (r.den:Int)] :=by
 match xs,h with
 | [.int a, .int b],h=> have h:(decide (0<b)&&decide (Nat.gcd a.natAbs b.natAbs=1))=true:=h;rw[AAh,AA1,AA1] at h;refine⟨⟨a,b.toNat,by omega,by have:=h.2;rw[show b.natAbs=b.toNat by omega] at this;exact this⟩, ?_⟩;show _= [PV.int a,PV.int ((b.toNat:Nat):Int)];rw[show ((b.toNat:Nat):Int)=b by omega]
def oP:km PV->Nat
 | [_, .int b] =>b.natAbs+1
 | _=>0
def Uc {v:PV}(h:C1 v=true){Q:PV->Prop}(q:Q (.bl (Lb v))):Dj [v] Q:=by
 cases v with
 | tup xs=>obtain⟨a,b,c⟩:=We (.inl rfl) h;exact OR (B:=oP xs) (.inl rfl) a ⟨b,λx y e=>by subst e;exact ACx _⟩ q
 | lst xs=>obtain⟨a,b,c⟩:=We (.inr rfl) h;exact OR (B:=oP xs) (.inr rfl) a ⟨b,λx y e=>by subst e;exact ACx _⟩ q
 | tape=>cases h
 | scr _=>cases h
 | ty _=>cases h
 | dct _=>cases h
 | _=> apply MN;ac_rfl;exact q
def Ss {v:PV}(h:C1 v=true){Q:PV->Prop}(q:Q (.bl (Hk v))):BI [v] Q:=IH (pQ h) q
def lM {a b:Int}(hb:0<b):Nz (.tup [.int a, .int b]) (fr (Rat.divInt a b))=Gc [.int a, .int b] :=by
 have e:Nz (.tup [.int a, .int b]) (fr (Rat.divInt a b))=(decide (a=(Rat.divInt a b).num)&&decide (b=((Rat.divInt a b).den:Int))):=by simp[Nz,pd,ML,fr,PyData.eqv,PyData.eqvAll];rfl
 rw[e];cases h:Gc [.int a, .int b] with
 | true=> obtain⟨r,d⟩:=RW h;cases d;rw[ABO,AAZ rfl,AAZ rfl];rfl
 | false=>
   rw[AEJ];by_cases h1:a=(Rat.divInt a b).num
   .refine .inr (AAY λh2=> ?_);have c:=Xj (Rat.divInt a b);rw[<-h1,<-h2,h] at c;cases c
   .exact .inl (AAY h1)
def gk {a b:Int}{v:PV}(hv:v= .tup [.int a, .int b] \/v= .lst [.int a, .int b])(ha:a.natAbs<2^900)(hb:b.natAbs<2^900){Q:PV->Prop}(q:Q (.bl (Gc [.int a, .int b]))):BE [v] Q:=by
 have c:¬0<b->Gc [.int a, .int b] =false:=λh=>by show (decide (0<b)&&_)=false;rw[AAY h,ACv]
 have d:0<b->∀{Q:PV->Prop},Q (.bl (Gc [.int a, .int b]))->HQ (.tup [.int a, .int b]) (fr (Rat.divInt a b)) Q:=λh {Q} q=>⟨⟨rfl,rfl⟩,by rw[lM h];exact q⟩;rcases hv with rfl|rfl;all_goals
  apply BM;ac_rfl;refine DE ?_;ac_rfl;refine DE ?_;ac_rfl
  .rename_i hp;have hp:0<b:=by omega
   refine Bu _ _ (by omega) (Am ha (by decide)) (Am hb (by decide)) ?_;exact d hp q
  .rename_i hp;rw[c (by omega)] at q;exact q
def Xn {v:PV}(h:C1 v=true){Q:PV->Prop}(q:Q (.bl (Lb v))):BE [v] Q:=by
 have c:∀xs:km PV,(v= .tup xs\/v= .lst xs)->(xs.length:Int)=2->Q (.bl (Gc xs))->BE [v] Q:=λxs hv h2 d=>by
  obtain⟨_,hk,hi⟩:=We hv h;obtain⟨y,z,rfl⟩:=e5 h2;have ky:=hk y (by simp);have g:=hk z (by simp);cases e:Hk y with
  | false=>
    rw[bg e] at d;rcases hv with rfl|rfl;all_goals
     apply BM;ac_rfl;refine IH ky ?_;rw[e];ac_rfl;exact d
  | true=>
    obtain⟨a,rfl⟩:=Iw e;cases f:Hk z with
    | false=>
      rw[bi f] at d;rcases hv with rfl|rfl;all_goals
       apply BM;ac_rfl;refine DE ?_;ac_rfl;refine IH g ?_;rw[f];ac_rfl;exact d
    | true=> obtain⟨b,rfl⟩:=Iw f;obtain⟨h1,h2⟩:=hi a b rfl;exact gk hv h1 h2 d
 cases v with
 | tup xs=>
   by_cases h2:(xs.length:Int)=2
   .exact c xs (.inl rfl) h2 q
   .have q:Q (.bl (Gc xs)):=q;rw[OB h2] at q;apply BM;ac_rfl;all_goals first | exact q|exact absurd ‹_› h2
 | lst xs=>
   by_cases h2:(xs.length:Int)=2
   .exact c xs (.inr rfl) h2 q
   .have q:Q (.bl (Gc xs)):=q;rw[OB h2] at q;apply BM;ac_rfl;all_goals first | exact q|exact absurd ‹_› h2
 | tape=>cases h
 | scr _=>cases h
 | ty _=>cases h
 | dct _=>cases h
 | _=> apply BM;ac_rfl;exact q
def jE (v:PV):Prop:=(∀{Q:PV->Prop},Q (.bl false)->Eb [v] Q)/\∀{Q:PV->Prop},Q (.bl false)->Br [v] Q
structure O5 (X:Nat) (r:Rw) (v:PV):Prop where
 v:fD r v
 bb:Bd X r.b
 be:Bd X r.e
 sd:r.sd<3
def LP (X:Nat)(v:PV):Prop:=(∃r,O5 X r v)\/jE v
def KG {v:PV}(h:v= .non\/(∃b,v= .bl b)\/(∃i,v= .int i)\/∃s,v= .str s):jE v:=by
 constructor
 .intro Q q;apply Gj;rcases h with rfl|⟨b,rfl⟩|⟨i,rfl⟩|⟨s,rfl⟩;all_goals
   ac_rfl;exact q
 .intro Q q;apply Dc;rcases h with rfl|⟨b,rfl⟩|⟨i,rfl⟩|⟨s,rfl⟩;all_goals
   ac_rfl;exact q
def RG {xs:km PV}{v:PV}(hv:v= .tup xs\/v= .lst xs)(h:xs.length≠4):jE v:=by
 have a:¬(xs.length:Int)=4:=by omega
 constructor
 .intro Q q;apply Gj;rcases hv with rfl|rfl;all_goals
   ac_rfl;all_goals first | exact q|exact absurd ‹_› a
 .intro Q q;apply Dc;rcases hv with rfl|rfl;all_goals
   ac_rfl;all_goals first | exact q|exact absurd ‹_› a
def ku {i:Int}(h:¬(0<=i/\i<3)){Q:PV->Prop}(q:Q (.bl false)):bB false (.int i) (.tup [.int 0, .int 1, .int 2]) Q:=by
 refine⟨⟨rfl,rfl⟩, ?_⟩;have e:Xg (.int i) [.int 0, .int 1, .int 2] =false:=by
  have a:∀j:Int,Nz (.int j) (.int i)=decide (j=i):=λj=>by simp[Nz,pd,PyData.eqv];rfl
  simp only[Xg,AA7,AD4,a];rw[AAY (by omega),AAY (by omega),AAY (by omega)];rfl
 rw[AAQ (by decide),e];exact q
def gc {i:Int}(a:0<=i)(h1:i<3){Q:PV->Prop}(q:Q (.bl true)):bB false (.int i) (.tup [.int 0, .int 1, .int 2]) Q:=by obtain⟨n,rfl⟩:∃n:Nat,i=n:=⟨i.toNat,by omega⟩;exact jU (by omega) q
def kr {i:Int}(h:¬(i=1\/i= -1)){Q:PV->Prop}(q:Q (.bl false)):bB false (.int i) (.tup [.int 1, .int (-1)]) Q:=by
 refine⟨⟨rfl,rfl⟩, ?_⟩;have e:Xg (.int i) [.int 1, .int (-1)] =false:=by
  have a:∀j:Int,Nz (.int j) (.int i)=decide (j=i):=λj=>by simp[Nz,pd,PyData.eqv];rfl
  simp only[Xg,AA7,AD4,a];rw[AAY (by omega),AAY (by omega)];rfl
 rw[AAQ (by decide),e];exact q
def qc:PV->PV->kc
 | .int i, .int j=>decide (0<=i)&&(decide (i<3)&&(decide (j=1)||decide (j= -1)))
 | _,_=>false
def qd {s g:PV}(h:Hk s=false):qc s g=false:=by cases s <;> first | rfl|cases h
def qe {s g:PV}(h:Hk g=false):qc s g=false:=by cases s <;> cases g <;> first | rfl|cases h
def kQ {x y s g v:PV}(hv:v= .tup [x,y,s,g] \/v= .lst [x,y,s,g])(b:C1 x=true)(c:C1 y=true)(cs:C1 s=true)(d:C1 g=true)(a:(Lb x&&(Lb y&&qc s g))=false){Q:PV->Prop}(q:Q (.bl false)):Eb [v] Q:=by
 apply Gj;rcases hv with rfl|rfl;all_goals
  ac_rfl;refine Uc b ?_;cases e:Lb x with
  | false=> ac_rfl;exact q
  | true=>
    ac_rfl;refine Uc c ?_;cases f:Lb y with
    | false=> ac_rfl;exact q
    | true=>
      rw[e,f,AB0,AB0] at a;ac_rfl;refine Ss cs ?_;cases ps:Hk s with
      | false=> ac_rfl;exact q
      | true=>
        obtain⟨i,rfl⟩:=Iw ps;ac_rfl;refine Ss d ?_;cases h:Hk g with
        | false=> ac_rfl;exact q
        | true=>
          obtain⟨j,rfl⟩:=Iw h;ac_rfl;by_cases hi:0<=i/\i<3
          .have hj:¬(j=1\/j= -1):=λz=>by have a:(decide (0<=i)&&(decide (i<3)&&(decide (j=1)||decide (j= -1))))=false:=a;rw[AAZ hi.1,AAZ hi.2] at a;rcases z with rfl|rfl <;> cases a
           refine gc hi.1 hi.2 ?_;ac_rfl;refine kr hj ?_;ac_rfl;exact q
          .refine ku hi ?_;ac_rfl;exact q
def kP {x y s g v:PV}(hv:v= .tup [x,y,s,g] \/v= .lst [x,y,s,g])(b:C1 x=true)(c:C1 y=true)(cs:C1 s=true)(d:C1 g=true)(a:(Lb x&&(Lb y&&qc s g))=false){Q:PV->Prop}(q:Q (.bl false)):Br [v] Q:=by
 apply Dc;rcases hv with rfl|rfl;all_goals
  ac_rfl;refine Xn b ?_;cases e:Lb x with
  | false=> ac_rfl;exact q
  | true=>
    ac_rfl;refine Xn c ?_;cases f:Lb y with
    | false=> ac_rfl;exact q
    | true=>
      rw[e,f,AB0,AB0] at a;ac_rfl;refine Ss cs ?_;cases ps:Hk s with
      | false=> ac_rfl;exact q
      | true=>
        obtain⟨i,rfl⟩:=Iw ps;ac_rfl;refine Ss d ?_;cases h:Hk g with
        | false=> ac_rfl;exact q
        | true=>
          obtain⟨j,rfl⟩:=Iw h;have a:(decide (0<=i)&&(decide (i<3)&&(decide (j=1)||decide (j= -1))))=false:=a;ac_rfl;all_goals first | exact q|skip
          exfalso;rename_i h1 h2 m;have k:decide (0<=i)=true:=AAZ (by omega);have l:decide (i<3)=true:=AAZ (by omega);rw[k,l] at a;rcases (show j=1\/j= -1 by omega) with rfl|rfl <;> cases a
def dX {X:Nat}{x y s g v:PV}(hv:v= .tup [x,y,s,g] \/v= .lst [x,y,s,g])(c:C1 x=true)(d:C1 y=true)(cs:C1 s=true)(f:C1 g=true)(k:∀r:Rat,(YX r x\/YX r y)->Bd X r):LP X v:=by
 have l:∀{z:PV},Lb z=true->∃r,YX r z:=λ{z} h=>by
  cases z with
  | tup xs=>obtain⟨r,e⟩:=RW (xs:=xs) h;exact⟨r, .inl (by rw[e];rfl)⟩
  | lst xs=>obtain⟨r,e⟩:=RW (xs:=xs) h;exact⟨r, .inr (by rw[e])⟩
  | _=>cases h
 cases b:(Lb x&&(Lb y&&qc s g)) with
 | false=>exact .inr ⟨λq=>kQ hv c d cs f b q,λq=>kP hv c d cs f b q⟩
 | true=>
   rw[AAh,AAh] at b;obtain⟨h1,h2,a⟩:=b;obtain⟨m,n⟩:=l h1;obtain⟨o,p⟩:=l h2;cases ps:Hk s with
   | false=>rw[qd ps] at a;cases a
   | true=>
     obtain⟨i,rfl⟩:=Iw ps;cases t:Hk g with
     | false=>rw[qe t] at a;cases a
     | true=>
       obtain⟨j,rfl⟩:=Iw t;have a:(decide (0<=i)&&(decide (i<3)&&(decide (j=1)||decide (j= -1))))=true:=a;rw[AAh,AAh,ABe,AA1,AA1,AA1,AA1] at a;obtain⟨A,B,hj⟩:=a;refine .inl ⟨⟨m,o,i.toNat,decide (j=1)⟩,⟨x,y,n,p, ?_⟩,k m (.inl n),k o (.inr p),by show i.toNat<3;omega⟩;have u:((i.toNat:Nat):Int)=i:=by omega
       have w:HF (decide (j=1))=j:=by rcases hj with rfl|rfl <;> rfl
       show v= .tup [x,y, .int ((i.toNat:Nat):Int), .int (HF (decide (j=1)))] \/v= .lst [x,y, .int ((i.toNat:Nat):Int), .int (HF (decide (j=1)))];rw[u,w];exact hv
section
variable {cs ds:km C4}{d:Rat×Rat}{M W:Nat}
abbrev Ry:=PV×ke Rw
def tx (p:Ry):Rx:=match p.2 with | some r=>⟨r,false⟩|none=>⟨⟨0,0,0,true⟩,true⟩
def Ya (X:Nat)(p:Ry):Prop:=match p.2 with | some r=>O5 X r p.1|none=>jE p.1
theorem jE.r {v:PV}(h:jE v){Q:PV->Prop}(q:Q (.bl false)):Br [v] Q:=h.2 q
theorem je {X:Nat}:∀{vs:km PV},(∀v∈vs,LP X v)->∃ps:km Ry,vs=ps.map (·.1)/\∀p∈ps,Ya X p
 | [],_=>⟨[],rfl,by simp⟩
 | v::vs,h=>by
   obtain⟨ps,e,k⟩:=je (vs:=vs) λw hw=>h w (AA9 _ hw);obtain⟨p,ep,hp⟩:∃p:Ry,p.1=v/\Ya X p:=by
    rcases h v (by simp) with⟨r,a⟩|hb
    .exact ⟨(v,some r),rfl,a⟩
    .exact ⟨(v,none),rfl,hb⟩
   refine⟨p::ps,by rw[AAX,ep,e],λq hq=> ?_⟩;rcases AAT.mp hq with rfl|hq
   .exact hp
   .exact k q hq
theorem Uh (D:Fx cs ds d M W){B X:Nat}(hc:∀c∈cs,Ds B c)(w:∀c∈ds,Ds B c)(G:X+6*B+10<=1900)(g:M<=X){r:Rw}{v:PV}(o:O5 X r v)(lo:BF cs ds<=r.b)(H:r.b<r.e)(hi:r.e<=BB cs ds){Q:PV->Prop}(I:fY cs ds d r->Q (.bl true))(J:¬fY cs ds d r->Q (.bl false)):CJ [BA cs,BA ds, .tup [fr d.1,fr d.2],v] Q:=by
 have K:=o.bb;have L:=o.be;have O:=o.sd;obtain⟨x,y,P,S,hv⟩:=o.v;have T:∀{R:PV->Prop},R x->Ai v (.int 0) R:=λh=>by rcases hv with z|z <;> rw[z] <;> exact h
 have U:∀{R:PV->Prop},R y->Ai v (.int 1) R:=λh=>by rcases hv with z|z <;> rw[z] <;> exact h
 have Y:∀{R:PV->Prop},R (.int (r.sd:Nat))->Ai v (.int 2) R:=λh=>by rcases hv with z|z <;> rw[z] <;> exact h
 have Z:∀{R:PV->Prop},R (.int (HF r.up))->Ai v (.int 3) R:=λh=>by rcases hv with z|z <;> rw[z] <;> exact h
 clear hv;have bt:BF cs ds<BB cs ds:=by grind
 have tb:∀m∈Zz cs ds,Bd X m:=λm a=>by rw[Sj bt] at a;exact(GK D.m1 D.m2 D.begB D.endB a).mono g
 have tl:(Zz cs ds).length<=202:=by rw[Sj bt];have:=MA (cs:=cs) (ds:=ds) (b:=BF cs ds) (e:=BB cs ds);have:=D.f1;have:=D.f2;unfold L8;omega
 apply JX;ac_rfl;refine T ?_;ac_rfl;refine L9 P ?_;ac_rfl;refine U ?_;ac_rfl;refine L9 S ?_;ac_rfl;refine Ka D ?_;ac_rfl;refine Df fr fr (λm=>decide (r.b<m)&&decide (m<r.e)) (λm=>m∈Zz cs ds) (λm a R N h1 h2=> ?_) (Zz cs ds) [] (λ_ h=>h) ?_
 .have bm:=tb m a;ac_rfl
  .rename_i f i;exact h1 (by rw[AAZ f,AAZ i];rfl)
  .rename_i f i;exact h2 (by rw[AAY i,Bool.and_false])
  .rename_i f;exact h2 (by rw[AAY f,ACv])
 .generalize A:(Zz cs ds).filter (λm=>decide (r.b<m)&&decide (m<r.e))=ff;have mf:∀m,m∈ff↔m∈Zz cs ds/\r.b<m/\m<r.e:=λm=>by rw[<-A,ABR,AAh,AA1,AA1]
  have fl:ff.length<=202:=by rw[<-A];exact AAl (ABk _ _) tl
  have all:∀m,m∈ [r.b] ++ ff ++ [r.e] ↔m∈C6 cs ds r.b r.e:=λm=>by
   rw[Dq,AAg,AAg,ABE,ABE,mf,Sj bt];unfold L8;rw[Dq];constructor
   .rintro ((h|⟨h1,h2,j⟩)|h)
    .exact .inl h
    .rcases h1 with h1|h1|⟨_,_,h1⟩
     .exfalso;grind
     .exfalso;grind
     .exact .inr (.inr ⟨h2,j,h1⟩)
    .exact .inr (.inl h)
   .rintro (h|h|⟨h1,h2,j⟩)
    .exact .inl (.inl h)
    .exact .inr h
    .exact .inl (.inr ⟨.inr (.inr ⟨by grind,by grind,j⟩),h1,h2⟩)
  ac_rfl;rw[show [fr r.b] ++ ([] ++ List.map fr ff) ++ [fr r.e] =([r.b] ++ ff ++ [r.e]).map fr by simp];have C:=D.tog bt;refine ET fr (λE vs τ=>(∀m∈E,1<=(HF r.up:Rat)*Ep (Ge cs ds d m) r.sd)/\∃l s,τ= [some (.val (BA cs)),some (.val (BA ds)),some (.val (.tup [fr d.1,fr d.2])),some (.val v),some (.val (.lst ([] ++ ff.map fr))),l,some (.val (fr r.b)),some (.val (fr r.e)),s]) ?_ ?_ ⟨by simp,_,_,rfl⟩
  .rintro τ ⟨h,l,s,rfl⟩;ac_rfl;exact I λm a=>h m ((all m).mpr a)
  .rintro E m vs e τ R hR ⟨h,l,s,rfl⟩;have t:m∈C6 cs ds r.b r.e:=(all m).mp (by rw[<-e];simp);obtain⟨tl1,tl2⟩:=D7 H t;have bm:Bd X m:=GK (λc h=>(D.m1 c h).mono g) (λc h=>(D.m2 c h).mono g) K L t;have o1:=lW C (show BF cs ds<=m by grind) (by grind) D.r1 D.r2 hc w bm D.b1 D.b2 (by have:=D.p1;grind) (by have:=D.p2;grind);have cb:∀{n:Nat} {p:T3},FE n p->Bd n (Ep p r.sd):=λh=>by unfold Ep;split;exact h.x;split;exact h.y;exact h.z
   have c1:=cb o1;have F:=mW (u:=r.up) (x:=Ep (Ge cs ds d m) r.sd);ac_rfl;refine RZ hc w G D C (by grind) (by grind) bm ?_;ac_rfl;refine Y ?_;ac_rfl;refine lC O ?_;ac_rfl;refine Z ?_;ac_rfl;refine⟨qf c1.top (by omega), ?_⟩;ac_rfl
   .rename_i k;refine J λz=> ?_;have:=z m t;have:=F.mp k;grind
   .rename_i k;refine hR _ ⟨λx hx=> ?_,_,_,rfl⟩;rcases AAg.mp hx with hx|hx
    .exact h x hx
    .rcases ABE.mp hx with rfl;rw[<-ACJ];exact λz=>k (F.mpr z)
theorem YA (D:Fx cs ds d M W){v w u:PV}{B X:Nat}(hc:∀c∈cs,Ds B c)(A:∀c∈ds,Ds B c)(hv:B0 cs v)(hw:B0 ds w)(hu:VC d u){ps:km Ry}{pv:PV}(C:pv= .tup (ps.map (·.1))\/pv= .lst (ps.map (·.1)))(E:ps.length<=500)(ok:∀p∈ps,Ya X p)(F:2*(X+6*B+10)<=3980)(G:B<=X)(s:M<=X){Q:PV->Prop}(f:Good cs ds d (ps.map tx)->Q (.bl true))(a:¬Good cs ds d (ps.map tx)->Q (.bl false)):Bo [v,w,u,pv] Q:=by
 have be:=D.endB.mono s;apply Fa;rcases C with rfl|rfl;all_goals
  ac_rfl;refine YL D hv hw (λh=> ?_) (λh=> ?_)
  .unfold K26.Good at f a;rw[AAR h] at f a;ac_rfl;refine ET (λp:Ry=>p.1) (λH vs τ=>∃x i j l,Bd X x/\BF cs ds<=x/\(He cs ds d (BB cs ds) (BF cs ds) (ps.map tx)↔He cs ds d (BB cs ds) x (vs.map tx))/\τ= [some (.val v),some (.val w),some (.val u),some (.val _),some (.val (.tup [fr (BF cs ds),fr (BB cs ds)])),i,some (.val (fr x)),some (.val (fr (BB cs ds))),j,l]) ?_ ?_ ⟨BF cs ds,_,_,_,D.begB.mono s,by grind,Iff.rfl,rfl⟩
   .rintro τ ⟨x,i,j,l,I,lo,hx,rfl⟩;have hx:He cs ds d (BB cs ds) (BF cs ds) (ps.map tx)↔x=BB cs ds:=hx;ac_rfl;by_cases e:x=BB cs ds
    .rw [AAZ e];exact f (hx.mpr e)
    .rw [AAY e];exact a λz=>e (hx.mp z)
   .rintro H p vs e τ R J ⟨b,i,j,l,I,lo,hx,rfl⟩;have o:=ok p (by rw[<-e];simp);obtain⟨rv,K⟩:=p;cases K with
    | none=> have o:jE rv:=o;have hx:He cs ds d (BB cs ds) (BF cs ds) (ps.map tx)↔(true=false/\_)/\_:=hx;ac_rfl;refine o.1 ?_;ac_rfl;exact a λz=>by cases (hx.mp z).1.1
    | some r=>
      have o:O5 X r rv:=o;have L:Bd X r.b:=o.bb;have t:Bd X r.e:=o.be;have os:r.sd<3:=o.sd;obtain⟨N,y1,O,P,g⟩:=o.v;have m:∀{Q:PV->Prop},Q (.bl true)->Eb [rv] Q:=λq=>Y3 o.v os q;have S:∀{R:PV->Prop},R N->Ai rv (.int 0) R:=λh=>by rcases g with z|z <;> rw[z] <;> exact h
      have T:∀{R:PV->Prop},R y1->Ai rv (.int 1) R:=λh=>by rcases g with z|z <;> rw[z] <;> exact h
      have U:∀{R:PV->Prop},R (.int (r.sd:Nat))->Ai rv (.int 2) R:=λh=>by rcases g with z|z <;> rw[z] <;> exact h
      have Y:∀{R:PV->Prop},R (.int (HF r.up))->Ai rv (.int 3) R:=λh=>by rcases g with z|z <;> rw[z] <;> exact h
      have hx:He cs ds d (BB cs ds) (BF cs ds) (ps.map tx)↔(false=false/\r.b=b/\r.b<r.e/\r.e<=BB cs ds/\fY cs ds d r)/\He cs ds d (BB cs ds) r.e (vs.map tx):=hx;clear g;ac_rfl;refine m ?_;ac_rfl;refine S ?_;ac_rfl;refine L9 O ?_;ac_rfl;refine T ?_;ac_rfl;refine L9 P ?_;ac_rfl
      .rename_i z;exact a λk=>z (hx.mp k).1.2.1
      .rename_i z;exact a λk=>z (hx.mp k).1.2.2.1
      .rename_i z;exact a λk=>by have:=(hx.mp k).1.2.2.2.1;grind
      .rename_i Z y z3;refine U ?_;ac_rfl;refine Y ?_;ac_rfl;refine bV D (r:=r) hc A hv hw hu os L t (by grind) y (by grind) F G (λn=> ?_) (λn=> ?_)
       .ac_rfl;exact J _ ⟨r.e,_,_,_,t,by grind,⟨λk=>(hx.mp k).2,λk=>hx.mpr ⟨⟨rfl,Z,y,by grind,n⟩,k⟩⟩,rfl⟩
       .ac_rfl;exact a λk=>n (hx.mp k).1.2.2.2.2
  .unfold K26.Good at f a;rw[AAQ h] at f a;ac_rfl;cases ps with
   | nil=>exact f rfl
   | cons x xs=> have e:decide (((x::xs).length:Int)=0)=false:=AAY (by rw[AAn];omega);rw[e];exact a (by simp)
theorem bj {X:Nat}{r:Rw}{v:PV}(o:O5 X r v)(a:X<=4000){Q:PV->Prop}(q:Q (.bl (decide (r.b<r.e)))):Br [v] Q:=by
 have c:=o.bb;have f:=o.be;have hs:=o.sd;obtain⟨x,y,hx,hy,hv⟩:=o.v;have g:∀{Q:PV->Prop},Q (.bl (decide (r.b<r.e)))->Ao [x,y] Q:=λ{Q} q=>by have:=Bk (c.mono a) (f.mono a) (Q:=Q) q;rcases hx with rfl|rfl <;> rcases hy with rfl|rfl <;> exact this
 have h:(((HF r.up).natAbs:Nat):Int)=1:=by cases r.up <;> rfl
 apply Dc;rcases hv with rfl|rfl;all_goals
  ac_rfl;refine cM (c.mono (by omega)) hx ?_;ac_rfl;refine cM (f.mono (by omega)) hy ?_;ac_rfl;refine DE ?_;ac_rfl;refine DE ?_;ac_rfl;all_goals first | (exfalso;omega)|exact g q
theorem Ui:∀{ps:km Ry} {X:Nat},(∀p∈ps,Ya X p)->(∀p∈ps,(!(tx p).dbl&&decide ((tx p).r.b<(tx p).r.e))=true)->∃qs:km (PV×Rw),ps.map (·.1)=qs.map (·.1)/\ps.map tx=(qs.map (·.2)).map lS/\(∀q∈qs,O5 X q.2 q.1/\q.2.b<q.2.e)/\ps.length=qs.length
 | [],_,_,_=>⟨[],rfl,rfl,by simp,rfl⟩
 | (v,o)::ps,X,k,h=>by
   obtain⟨qs,f,g,hq,i⟩:=Ui (ps:=ps) (X:=X) (λp hp=>k p (AA9 _ hp)) (λp hp=>h p (AA9 _ hp));have h1:=h (v,o) (by simp);have a:=k (v,o) (by simp);cases o with
   | none=>cases h1
   | some r=>
     have a:O5 X r v:=a;have h1:(true&&decide (r.b<r.e))=true:=h1;rw[AB0,AA1] at h1;refine⟨(v,r)::qs,by rw[AAX,f];rfl,by rw[AAX,g];rfl,λq c=> ?_,by simp[i]⟩;rcases AAT.mp c with rfl|c
     .exact ⟨a,h1⟩
     .exact hq q c
theorem dY {X:Nat}{r:Rw}{v:PV}(o:O5 X r v):∃x y,YX r.b x/\YX r.e y/\(∀{R:PV->Prop},R x->Ai v (.int 0) R)/\∀{R:PV->Prop},R y->Ai v (.int 1) R:=by obtain⟨x,y,hx,hy,hv⟩:=o.v;exact⟨x,y,hx,hy,λh=>by rcases hv with z|z <;> rw[z] <;> exact h,λh=>by rcases hv with z|z <;> rw[z] <;> exact h⟩
theorem Uv (D:Fx cs ds d M W){B X:Nat}(hc:∀c∈cs,Ds B c)(Gb:∀c∈ds,Ds B c)(hX:X+6*B+10<=1900)(jN:M<=X){ps:km Ry}{pv:PV}(t6:pv= .tup (ps.map (·.1))\/pv= .lst (ps.map (·.1)))(G:ps.length<=500)(ok:∀p∈ps,Ya X p){Q:PV->Prop}(t:K26.Good cs ds d (ps.map tx)->Q (.bl true))(j:¬K26.Good cs ds d (ps.map tx)->Q (.bl false)):CW [BA cs,BA ds, .tup [fr d.1,fr d.2],pv] Q:=by
 apply Ht;rcases t6 with rfl|rfl;all_goals
  ac_rfl;refine DY (λp:Ry=>p.1) (λp:Ry=>PV.bl (!(tx p).dbl&&decide ((tx p).r.b<(tx p).r.e))) id (λp=>Ya X p) (λp o R i=> ?_) ps [] ok ?_
  .ac_rfl;obtain⟨v,o'⟩:=p;cases o' with
   | none=>exact jE.r o i
   | some r=>exact bj o (by omega) i
  rw[ABB,ADQ];ac_rfl;refine uF (λall=> ?_) (λw=> ?_);rotate_left
  .ac_rfl;refine j λz=>w ?_;unfold K26.Good at z;split at z
   .exact λp hp=>Tr z (tx p) (AAd.mpr ⟨p,hp,rfl⟩)
   .rw [List.map_eq_nil_iff] at z;subst z;simp
  obtain⟨qs,m,n,hq,N⟩:=Ui ok all;have O:∀r∈qs.map (·.2),r.b<r.e:=λr H=>by obtain⟨q,KS,rfl⟩:=AAd.mp H;exact(hq q KS).2
  rw[m];rw[n] at t j;rw[N] at G;clear all m n N ok;ac_rfl;refine Ka D ?_;unfold K26.Good at t j;by_cases h:BF cs ds<BB cs ds
  .rw [AAR h,QD O] at t j;have A:=Sk h;have l:=Sm h;rw[<-Sj h] at A l;obtain⟨u,s,et⟩:∃u s,Zz cs ds=u::s:=by
    cases e:Zz cs ds with
    | nil=>rw[e] at A;cases A
    | cons a b=>exact⟨a,b,rfl⟩
   rw[et] at A l ⊢;have C:u=BF cs ds:=AAk A;cases qs with
   | nil=>
     have E:decide (((u::s).length:Int)=(([] :km PV).length:Int))=false:=AAY (by simp;omega);have P:¬(TL (BF cs ds) (BB cs ds) (([] :km (PV×Rw)).map (·.2))/\∀r∈([] :km (PV×Rw)).map (·.2),fY cs ds d r):=λz=>by have I:BF cs ds=BB cs ds:=z.1;grind
     ac_rfl
     .exact E ▸ j P
     .exact E ▸ j P
   | cons g f=>
     obtain⟨S,cl⟩:∃S,((g::f).map (·.2.e)).getLast?=some S:=by
      cases e:((g::f).map (·.2.e)).getLast? with
      | none=>rw[List.getLast?_eq_none_iff] at e;cases e
      | some a=>exact⟨a,rfl⟩
     have F:((g::f).map (·.2)).map (·.e)=(g::f).map (·.2.e):=ABi ..;have T:((g::f).map (·.2)).map (·.b)=(g::f).map (·.2.b):=ABi ..;ac_rfl
     .exfalso;rename_i z;simp at z;omega
     .exfalso;rename_i I z2;simp at z2;omega
     refine DY (λp:PV×Rw=>p.1) fr (λp:PV×Rw=>p.2.b) (λp=>O5 X p.2 p.1) (λp o R i=> ?_) (g::f) [] (λp hp=>(hq p hp).1) ?_
     .obtain ⟨x,y,hx,hy,U,Y⟩:=dY o;ac_rfl;refine U ?_;ac_rfl;exact L9 hx i
     rw[ABB];ac_rfl;refine DY (λp:PV×Rw=>p.1) fr (λp:PV×Rw=>p.2.e) (λp=>O5 X p.2 p.1) (λp o R i=> ?_) (g::f) [] (λp hp=>(hq p hp).1) ?_
     .obtain ⟨x,y,hx,hy,U,Y⟩:=dY o;ac_rfl;refine Y ?_;ac_rfl;exact L9 hy i
     rw[ABB];ac_rfl
     .rename_i c1 m _ c2 n _ z;have m:some g.2.b=some c1:=m;have n:some u=some c2:=n;cases m;cases n;exact j λk=>z (by rw[C];exact k.1.1)
     rename_i c1 m _ c2 n _ z0;have m:some g.2.b=some c1:=m;have n:some u=some c2:=n;cases m;cases n;have J:g.2.b=BF cs ds:=by rw[z0,C]
     refine b9 cl ?_;ac_rfl;refine b9 l ?_;ac_rfl
     .rename_i z;refine j λk=>z ?_;have:=P5 (by simp) k.1;rw[F,cl] at this;exact AAk this
     rename_i I;rw[au,kJ,<-List.map_dropLast];refine gF (λK=> ?_) (λK=> ?_);rotate_left
     .ac_rfl;exact j λk=>K (by have:=XG k.1;rw[F,T] at this;exact this)
     have ch:TL (BF cs ds) (BB cs ds) ((g::f).map (·.2)):=by have:=ak (r:=g.2) (rs:=f.map (·.2)) (e:=BB cs ds) (by have:=K;rw[<-F,<-T] at this;exact this) (by have:=cl;rw[<-F,I] at this;exact this);rw[J] at this;exact this
     have L:=aj ch O;have dec:∀r,Decidable (fY cs ds d r):=λr=>Classical.propDecidable _;ac_rfl;refine DY (λp:PV×Rw=>p.1) (λp:PV×Rw=>PV.bl (decide (fY cs ds d p.2))) id (λp=>p∈g::f) (λp hp R i=> ?_) (g::f) [] (λ_ h=>h) ?_
     .ac_rfl;obtain⟨o,lo⟩:=hq p hp;have Z:=L p.2 (AAd.mpr ⟨p,hp,rfl⟩);have i:R (.bl (decide (fY cs ds d p.2))):=i;refine Uh D hc Gb hX jN o Z.1 lo Z.2 (λk=> ?_) (λk=> ?_)
      .rw [AAZ k] at i;exact i
      .rw [AAY k] at i;exact i
     rw[ABB,ADQ];ac_rfl;refine oM (λk=> ?_) (λk=> ?_)
     .exact t ⟨ch,λr H=>by obtain⟨p,hp,rfl⟩:=AAd.mp H;exact AA6 (k p hp)⟩
     .exact j λz=>k λp hp=>AAZ (z.2 p.2 (AAd.mpr ⟨p,hp,rfl⟩))
  .rw [AAQ h] at t j;rw[show Zz cs ds= [] from AAQ h];ac_rfl;cases qs with
   | nil=>exact t rfl
   | cons r rs=> have E:decide ((([] :km PV).length:Int)=((r::rs).length:Int))=false:=AAY (by simp;omega);exact E ▸ j (by simp)
end
abbrev K8:AS:=
 (Aa (Ar (AY BY (aV 1) (DQ (B7 (AB (Ay (AB (Ay (AB (aC (.int 0)) (AB (aC (.int 1)) AL))) (AB (Ay (AB (aC (.int 1)) (AB (aC (.int 1)) AL))) (AB (aC (.int 0)) (AB (aC (.int 1)) AL))))) (AB (Ay (AB (Ay (AB (aC (.int 0)) (AB (aC (.int 1)) AL))) (AB (Ay (AB (aC (.int 1)) (AB (aC (.int 1)) AL))) (AB (aC (.int 0)) AL)))) (AB (DQ (B7 (AB (DQ (B7 (AB (aC (.int 0)) (AB (aC (.int 1)) AL)))) (AB (DQ (B7 (AB (aC (.int 1)) (AB (aC (.int 1)) AL)))) (AB (aC (.int 0)) (AB (aC (.int 1)) AL)))))) (AB (Ay (AB (aC (.str "clear")) (AB (Ay AL) AL))) (AB (Ay (AB (Ay (AB (Ay AL) AL)) AL)) AL)))))))) (Au 1))
   (Aq (AY Ai (aV 1) (AR 2 BW (AB (aV 0) (AB (Dr EA (AB (aV 1) AL)) AL))))))
abbrev K7:AS:=
 (Aa (Ar (AY BY (aV 1) (DQ (B7 (AB (Ay (AB (aC (.int 1)) (AB (Mh E9 (aC (.int 1))) AL))) (AB (Ay (AB (aC (.int 2)) (AB (aC (.int 2)) AL))) (AB (Ay (AB (aC (.int 0)) (AB (aC (.int 2)) AL))) (AB (Ay (AB (aC (.bl true)) (AB (aC (.int 1)) AL))) (AB (Ay (AB (aC (.int 1)) (AB (aC (.bl true)) AL))) (AB (Ay (AB (aC (.str "1")) (AB (aC (.int 1)) AL))) (AB (Ay (AB (aC .non) (AB (aC (.int 1)) AL))) (AB (Ay (AB (Ay (AB (aC (.int 1)) (AB (aC (.int 1)) AL))) (AB (Ay (AB (aC (.int 2)) (AB (aC (.int 1)) AL))) AL))) (AB (DQ (B7 (AB (DQ (B7 (AB (DQ (B7 (AB (DQ (B7 AL)) AL))) AL))) AL))) AL)))))))))))) (Au 1))
   K8)
abbrev Ij:AS:=
 (Aa (Ar (DQ (B7 (AB (aC .non) (AB (aC (.bl true)) (AB (aC (.bl false)) (AB (aC (.int 0)) (AB (aC (.int 1)) (AB (Mh E9 (aC (.int 1))) (AB (aC (.int 2)) (AB (aC (.int 3)) (AB (Mh E9 (aC (.int 2))) (AB (AY oX (aC (.int 10)) (aC (.int 9))) (AB (aC (.str "")) (AB (aC (.str "near")) (AB (aC (.str "clear")) (AB (aC (.str "1")) (AB (Ay AL) (AB (DQ (B7 AL)) (AB (Ay (AB (aC (.int 1)) AL)) (AB (DQ (B7 (AB (aC (.int 1)) (AB (aC (.int 2)) AL)))) (AB (Ay (AB (aC (.int 1)) (AB (aC (.int 0)) AL))) AL))))))))))))))))))))) (Au 1))
   K7)
def Bh:AF:=Ax 2 Ij
def Mr {a:PV}{Q:PV->Prop}(h:Ij ⟨λ_=>Q .non,Q,λ_=>False,λ_=>False⟩ [some (.val a),none]):Bh [a] Q:=h
abbrev Ik:AS:=
 (Aa (BO (Aj (Dr PF (AB (aV 0) (AB (aC (.ty "list")) AL)))) (Aq (AY BY (AY BY (VW (aV 0) VY (VZ (aV 1))) (DQ (B7 (AB (aV 2) AL)))) (VW (aV 0) (VZ (AY BY (aV 1) (aC (.int 1)))) VY))) A0)
   (Aq (AY BY (AY BY (VW (aV 0) VY (VZ (aV 1))) (Ay (AB (aV 2) AL))) (VW (aV 0) (VZ (AY BY (aV 1) (aC (.int 1)))) VY))))
def A1:AF:=Ax 3 Ik
def Ms {a b c:PV}{Q:PV->Prop}(h:Ik ⟨λ_=>Q .non,Q,λ_=>False,λ_=>False⟩ [some (.val a),some (.val b),some (.val c)]):A1 [a,b,c] Q:=h
abbrev G2:AS:=
 (Aa (BO (Aj (Dr PF (AB (aV 0) (AB (aC (.ty "int")) AL)))) (Aq (v7 (aV 0) (Dr bH (AB (aV 0) AL)))) A0)
   (Aq (Ay (AB (AY DH (aC (.int 2)) (AY Ai (aV 0) (aC (.int 0)))) (AB (AY DH (aC (.int 2)) (AY Ai (aV 0) (aC (.int 1)))) AL)))))
def B5:AF:=Ax 1 G2
def FZ {a:PV}{Q:PV->Prop}(h:G2 ⟨λ_=>Q .non,Q,λ_=>False,λ_=>False⟩ [some (.val a)]):B5 [a] Q:=h
abbrev FO:AS:=
 (Aa (BO (Aj (AY HQ (aV 2) (aC (.int 5)))) (Aq (DQ (B7 (AB (AY Ai (aV 1) (aC (.int 0))) (AB (AR 1 Bh (AB (aV 0) AL)) AL))))) A0)
   (Aq (AR 3 A1 (AB (aV 1) (AB (aV 3) (AB (AR 3 A1 (AB (aV 4) (AB (aV 5) (AB (AR 1 Bh (AB (aV 0) AL)) AL)))) AL))))))
abbrev FN:AS:=
 (Aa (BO (Aj (AY HQ (aV 2) (aC (.int 4)))) (Aq (AR 3 A1 (AB (aV 1) (AB (aV 3) (AB (AR 3 A1 (AB (AR 3 A1 (AB (aV 4) (AB (aC (.int 0)) (AB (DQ (W6 (AB (AY Ai (aV 4) (aC (.int 0))) AL))) AL)))) (AB (aC (.int 1)) (AB (DQ (W6 (AB (AY Ai (aV 4) (aC (.int 1))) AL))) AL)))) AL))))) A0)
   FO)
abbrev FM:AS:=
 (Aa (BO (Aj (AY HQ (aV 2) (aC (.int 3)))) (Aq (AR 3 A1 (AB (aV 1) (AB (aV 3) (AB (VW (aV 4) VY (VZ (aV 5))) AL))))) A0)
   FN)
abbrev FJ:AS:=
 (Aa (BO (Aj (AY HQ (aV 2) (aC (.int 2)))) (Aq (AR 3 A1 (AB (aV 1) (AB (aV 3) (AB (AR 3 A1 (AB (aV 4) (AB (aV 5) (AB (AR 1 B5 (AB (AY Ai (aV 4) (aV 5)) AL)) AL)))) AL))))) A0)
   FM)
abbrev Dv:AS:=
 (Aa (Ar (AR 2 BW (AB (aV 0) (AB (aC (.int 4)) AL))) (Au 5))
   FJ)
abbrev Du:AS:=
 (Aa (BO (Aj (AY HQ (aV 2) (aC (.int 1)))) (Aq (AR 3 A1 (AB (aV 1) (AB (aV 3) (AB (AR 1 Bh (AB (aV 0) AL)) AL))))) A0)
   Dv)
abbrev FI:AS:=
 (Aa (Ar (AY Ai (aV 1) (aV 3)) (Au 4))
   Du)
abbrev Dt:AS:=
 (Aa (Ar (AR 2 BW (AB (aV 0) (AB (Dr EA (AB (aV 1) AL)) AL))) (Au 3))
   FI)
abbrev FH:AS:=
 (Aa (BO (D9 (Aj (AY HQ (aV 2) (aC (.int 0)))) (Aj (AY HQ (Dr EA (AB (aV 1) AL)) (aC (.int 0))))) (Aq (AR 1 Bh (AB (aV 0) AL))) A0)
   Dt)
abbrev Ez:AS:=
 (Aa (Ar (AR 2 BW (AB (aV 0) (AB (aC (.int 7)) AL))) (Au 2))
   FH)
def Cu:AF:=Ax 6 Ez
def Lq {a b:PV}{Q:PV->Prop}(h:Ez ⟨λ_=>Q .non,Q,λ_=>False,λ_=>False⟩ [some (.val a),some (.val b),none,none,none,none]):Cu [a,b] Q:=h
def oF (v:PV):Prop:=v= .non\/(∃b,v= .bl b)\/(∃i,v= .int i)\/∃s,v= .str s
def O4 (v:PV):Prop:=oF v\/∃vs,(v= .tup vs\/v= .lst vs)/\vs.length<=480/\∀w∈vs,LP 900 w
def ah:PV->kc
 | .non=>true | .bl _=>true | .int _=>true | .str _=>true
 | .tup xs=>decide (xs.length≠4)||xs.all C1
 | .lst xs=>decide (xs.length≠4)||xs.all C1
 | _=>false
def oR:PV->kc
 | .non=>true | .bl _=>true | .int _=>true | .str _=>true
 | .tup xs=>decide (xs.length<=10)&&xs.all ah
 | .lst xs=>decide (xs.length<=10)&&xs.all ah
 | _=>false
def jM {r:Rat}{x:PV}(f:YX r x)(h:C1 x=true):Bd 900 r:=by
 have h':(YD r.num&&YD (r.den:Int))=true:=by rcases f with rfl|rfl <;> exact h
 rw[AAh] at h';have h1:=AA6 h'.1;have h2:=AA6 h'.2;exact⟨h1,by simpa using h2⟩
def gE {xs:km PV}(h:xs.length=4):∃a b c d,xs= [a,b,c,d] :=by
 match xs,h with
 | [a,b,c,d],_=>exact⟨a,b,c,d,rfl⟩
def ND {v:PV}{xs:km PV}(hv:v= .tup xs\/v= .lst xs)(h:xs.length≠4\/∀x∈xs,C1 x=true):LP 900 v:=by
 by_cases e:xs.length=4
 .have h:∀x∈xs,C1 x=true:=h.resolve_left λz=>z e;obtain⟨a,b,c,d,rfl⟩:=gE e;exact dX hv (h a (by simp)) (h b (by simp)) (h c (by simp)) (h d (by simp)) λr f=>f.elim (λz=>jM z (h a (by simp))) λz=>jM z (h b (by simp))
 .exact .inr (RG hv e)
def XF {v:PV}(h:ah v=true):LP 900 v:=by
 have a:∀{xs:km PV},(decide (xs.length≠4)||xs.all C1)=true->xs.length≠4\/∀x∈xs,C1 x=true:=λh=>by rw[ABe,AA1,ABI] at h;exact h
 cases v with
 | tup xs=>exact ND (.inl rfl) (a h)
 | lst xs=>exact ND (.inr rfl) (a h)
 | non=>exact .inr (KG (.inl rfl))
 | bl b=>exact .inr (KG (.inr (.inl ⟨_,rfl⟩)))
 | int b=>exact .inr (KG (.inr (.inr (.inl ⟨_,rfl⟩))))
 | str b=>exact .inr (KG (.inr (.inr (.inr ⟨_,rfl⟩))))
 | _=>cases h
def gA {v:PV}(h:oR v=true):O4 v:=by
 have a:∀{xs:km PV},(decide (xs.length<=10)&&xs.all ah)=true->xs.length<=480/\∀x∈xs,LP 900 x:=λh=>by rw[AAh,AA1,ABI] at h;exact⟨by omega,λx hx=>XF (h.2 x hx)⟩
 cases v with
 | tup xs=>exact .inr ⟨xs, .inl rfl,a h⟩
 | lst xs=>exact .inr ⟨xs, .inr rfl,a h⟩
 | non=>exact .inl (.inl rfl)
 | bl b=>exact .inl (.inr (.inl ⟨_,rfl⟩))
 | int b=>exact .inl (.inr (.inr (.inl ⟨_,rfl⟩)))
 | str b=>exact .inl (.inr (.inr (.inr ⟨_,rfl⟩)))
 | _=>cases h
def Vk {xs:km PV}{k:Nat}(h:k<=xs.length):Er xs none (some (k:Int))=xs.take k:=by unfold Er;rw[HT.sIx_none,HT.sIx_nat,AC6 h];simp
def ap {xs:km PV}{k:Nat}(h:k<=xs.length):Er xs (some (k:Int)) none=xs.drop k:=by unfold Er;rw[HT.sIx_none,HT.sIx_nat,AC6 h];exact ACV (by simp)
structure vz (v:PV):Prop where
 t:C1 v=true
 r:LP 900 v
 p:O4 v
def gv {L:km PV}(all:(L.all λv=>C1 v&&(ah v&&oR v))=true){v:PV}(hv:v∈L):vz v:=by have h:=ABI.mp all v hv;rw[AAh,AAh] at h;exact⟨h.1,XF h.2.1,gA h.2.2⟩
def Ll {Q:PV->Prop}(q:∀v,vz v->Q v):Bh [.tape] Q:=by apply Mr;ac_rfl;refine PL.ix_any ‹_› ‹_› λv hv=> ?_;exact q v (gv (by decide +kernel) hv)
def rh {n:Nat}(h:n<=2000):n<=sizeLine:=AAl h (by decide)
def dI {xs:km PV}{v w:PV}{k:Nat}(hv:v= .tup xs\/v= .lst xs)(hk:k<xs.length)(hl:xs.length<=500){Q:PV->Prop}(a:v= .tup xs->Q (.tup (xs.take k ++ [w] ++ xs.drop (k+1))))(b:v= .lst xs->Q (.lst (xs.take k ++ [w] ++ xs.drop (k+1)))):A1 [v, .int (k:Nat),w] Q:=by
 have c1:Er xs none (some (k:Int))=xs.take k:=Vk (by omega);have c2:Er xs (some ((k:Int)+1)) none=xs.drop (k+1):=by rw[show ((k:Int)+1)=((k+1:Nat):Int) by omega];exact ap (by omega)
 have c:(xs.take k).length<=500:=by rw[AB4];omega
 have d:(xs.drop (k+1)).length<=500:=by rw[AC1];omega
 apply Ms;rcases hv with rfl|rfl
 .ac_rfl;rw[c1];refine⟨rh (by rw[ABu];omega), ?_⟩;ac_rfl;rw[c2];refine⟨rh (by rw[AA0,ABu];omega), ?_⟩;exact a rfl
 .ac_rfl;rw[c1];refine⟨rh (by rw[ABu];omega), ?_⟩;ac_rfl;rw[c2];refine⟨rh (by rw[AA0,ABu];omega), ?_⟩;exact b rfl
def Tf {r:Rat}{x:PV}(f:YX r x)(b:Bd 850 r){Q:PV->Prop}(q:Q (.tup [.int (2*r.num), .int (2*(r.den:Int))])):B5 [x] Q:=by
 have m1:MulOk 2 r.num:=MulOk.of (m:=2) (n:=850) (by decide) b.top (by omega) (by omega);have m2:MulOk 2 (r.den:Int):=MulOk.of (m:=2) (n:=850) (by decide) b.botI (by omega) (by omega);apply FZ;rcases f with rfl|rfl;all_goals
  ac_rfl;exact q
def Ps {i:Int}(h:i.natAbs<1000000){Q:PV->Prop}(q:∀v,C1 v=true->Q v):B5 [.int i] Q:=by
 apply FZ;ac_rfl;refine(show i.natAbs<1000000/\Q (dg i (.str (Str.ofString (toString i)))) from⟨h,q _ ?_⟩);unfold dg;split
 .rfl
 .split <;> rfl
structure aM (rs:List Rw) (f:Rw->PV) (pv:PV):Prop where
 few:rs.length<=450
 ok:∀r∈rs,fi 850 (lS r)
 rv:∀r,fD r (f r)
 eq:pv= .tup (rs.map f)\/pv= .lst (rs.map f)
def N1 {r:Rat}{x:PV}(f:YX r x)(b:Bd 850 r):C1 x=true:=by
 have h:(YD r.num&&YD (r.den:Int))=true:=by unfold YD;rw[AAZ (Am b.top (by decide)),AAZ (Am b.botI (by decide))];rfl
 rcases f with rfl|rfl <;> exact h
def XQ {r:Rat}(b:Bd 850 r):C1 (.tup [.int (2*r.num), .int (2*(r.den:Int))])=true:=by
 have t1:(2*r.num).natAbs<2^900:=by have:=Am b.top (show 850<=899 by decide);rw[ADH];show 2*_<_;omega
 have t2:(2*(r.den:Int)).natAbs<2^900:=by have:=Am b.botI (show 850<=899 by decide);rw[ADH];show 2*_<_;omega
 show (YD _&&YD _)=true;unfold YD;rw[AAZ t1,AAZ t2];rfl
def R0 {r:Rw}{v:PV}(o:fi 850 (lS r))(h:fD r v):LP 900 v:= .inl ⟨r,h,o.bb.mono (by decide),o.be.mono (by decide),o.sd⟩
def cr {rs:km Rw}{f:Rw->PV}{pv:PV}(p:aM rs f pv):O4 pv:= .inr ⟨rs.map f,p.eq,by rw[AAa];exact AAl p.few (by decide),λw hw=>by
 obtain⟨r,a,rfl⟩:=AAd.mp hw;exact R0 (p.ok r a) (p.rv r)⟩
def FX {rs:km Rw}{f:Rw->PV}{pv w:PV}{k:Nat}(p:aM rs f pv)(hk:k<rs.length)(hw:LP 900 w){Q:PV->Prop}(q:∀v,O4 v->Q v):A1 [pv, .int (k:Nat),w] Q:=by
 have b:=p.few;have key:(((rs.map f).take k ++ [w] ++ (rs.map f).drop (k+1)).length<=480)/\∀z∈(rs.map f).take k ++ [w] ++ (rs.map f).drop (k+1),LP 900 z:=by
  refine⟨by simp only[AA0,ABu,AB4,AC1,AAa];omega,λz hz=> ?_⟩;have a:∀z∈rs.map f,LP 900 z:=λz hz=>by obtain⟨r,c,rfl⟩:=AAd.mp hz;exact R0 (p.ok r c) (p.rv r)
  rcases AAg.mp hz with hz|hz
  .rcases AAg.mp hz with hz|hz
   .exact a z (List.mem_of_mem_take hz)
   .rcases ABE.mp hz with rfl;exact hw
  .exact a z (List.mem_of_mem_drop hz)
 exact dI p.eq (by rw[AAa];exact hk) (by rw[AAa];omega) (λ_=>q _ (.inr ⟨_, .inl rfl,key⟩)) (λ_=>q _ (.inr ⟨_, .inr rfl,key⟩))
def Gh {xs:km PV}{v w:PV}{j:Nat}(hv:v= .tup xs\/v= .lst xs)(a:xs.length=4)(hj:j<4)(hx:∀x∈xs,C1 x=true)(hw:C1 w=true){Q:PV->Prop}(q:∀v ys,(v= .tup ys\/v= .lst ys)->ys=xs.take j ++ [w] ++ xs.drop (j+1)->LP 900 v->Q v):A1 [v, .int (j:Nat),w] Q:=by
 have all:∀z∈xs.take j ++ [w] ++ xs.drop (j+1),C1 z=true:=λz hz=>by
  rcases AAg.mp hz with hz|hz
  .rcases AAg.mp hz with hz|hz
   .exact hx z (List.mem_of_mem_take hz)
   .rcases ABE.mp hz with rfl;exact hw
  .exact hx z (List.mem_of_mem_drop hz)
 exact dI hv (by omega) (by omega) (λ_=>q _ _ (.inl rfl) rfl (ND (.inl rfl) (.inr all))) (λ_=>q _ _ (.inr rfl) rfl (ND (.inr rfl) (.inr all)))
def XC {rs:km Rw}{f:Rw->PV}{pv:PV}(p:aM rs f pv){Q:PV->Prop}(q:∀v,O4 v->Q v):Cu [.tape,pv] Q:=by
 have N:=p.few;have len:∀{R:PV->Prop},R (.int (rs.length:Nat))->EA [pv] R:=λ{R} h=>by
  have h:R (.int ((rs.map f).length:Nat)):=by rw[AAa];exact h
  rcases p.eq with z|z <;> rw[z] <;> exact h
 have i:∀{k:Nat} {r:Rw} {R:PV->Prop},rs[k]? =some r->R (f r)->Ai pv (.int (k:Nat)) R:=λ{k r R} e h=>by
  have O:HK (rs.map f) ((k:Nat):Int)=some (f r):=B8 (by rw[AAx,e] <;> rfl);have h2:ZQ (HK (rs.map f) ((k:Nat):Int)) R:=by rw[O];exact h
  rcases p.eq with z|z <;> rw[z] <;> exact h2
 apply Lq;unfold Ez FH;generalize l:Dt=T;ac_rfl
 .exact Ll λv o=>q v o.p
 refine len ?_;ac_rfl
 .exact Ll λv o=>q v o.p
 rename_i P Y Z n0 nl;have S:0<rs.length:=by omega
 subst l;unfold Dt FI;generalize l:Du=T;ac_rfl;refine len ?_;ac_rfl;rename_i J k0 k1;obtain⟨k,rfl⟩:∃k:Nat,J=k:=⟨J.toNat,by omega⟩;have d:k<rs.length:=by omega
 obtain⟨r,K⟩:∃r,rs[k]? =some r:=⟨rs[k],AAm d⟩;have U:r∈rs:=AA4 K;have o:=p.ok r U;have m:Bd 850 r.b:=o.bb;have B:Bd 850 r.e:=o.be;have os:r.sd<3:=o.sd;refine i K ?_;ac_rfl;obtain⟨x,y,D,E,hv⟩:=p.rv r;have g:∀z∈ [x,y, .int (r.sd:Nat), .int (HF r.up)],C1 z=true:=λz hz=>by
  simp only[AAT,AAq,AAr] at hz;rcases hz with rfl|rfl|rfl|rfl
  .exact N1 D m
  .exact N1 E B
  .rfl
  .rfl
 generalize f r=v at hv ⊢;have n:∀{R:PV->Prop},R x->Ai v (.int 0) R:=λh=>by rcases hv with z|z <;> rw[z] <;> exact h
 have s:∀{R:PV->Prop},R y->Ai v (.int 1) R:=λh=>by rcases hv with z|z <;> rw[z] <;> exact h
 have F:∀{R:PV->Prop},R (.int (r.sd:Nat))->Ai v (.int 2) R:=λh=>by rcases hv with z|z <;> rw[z] <;> exact h
 have G:∀{R:PV->Prop},R (.int (HF r.up))->Ai v (.int 3) R:=λh=>by rcases hv with z|z <;> rw[z] <;> exact h
 subst l;unfold Du;generalize l:Dv=T;ac_rfl
 .refine Ll λw o=> ?_;ac_rfl;exact FX p d o.r q
 subst l;unfold Dv FJ FM FN FO;ac_rfl
 .rename_i c L M _;rcases (show c=0\/c=1\/c=2\/c=3 by omega) with rfl|rfl|rfl|rfl
  .refine n ?_;ac_rfl;refine Tf D m ?_;ac_rfl;refine Gh (j:=0) hv rfl (by decide) g (XQ m) λu _ _ _ a=> ?_;ac_rfl;exact FX p d a q
  .refine s ?_;ac_rfl;refine Tf E B ?_;ac_rfl;refine Gh (j:=1) hv rfl (by decide) g (XQ B) λu _ _ _ a=> ?_;ac_rfl;exact FX p d a q
  .refine F ?_;ac_rfl;refine Ps (by omega) λw hw=> ?_;ac_rfl;refine Gh (j:=2) hv rfl (by decide) g hw λu _ _ _ a=> ?_;ac_rfl;exact FX p d a q
  .refine G ?_;ac_rfl;refine Ps (by cases r.up <;> decide) λw hw=> ?_;ac_rfl;refine Gh (j:=3) hv rfl (by decide) g hw λu _ _ _ a=> ?_;ac_rfl;exact FX p d a q
 .rename_i c L M _ _;obtain⟨j,rfl⟩:∃j:Nat,c=j:=⟨c.toNat,by omega⟩;have cl:([x,y, .int (r.sd:Nat), .int (HF r.up)].take j).length≠4:=by rw[AB4];show min j 4≠4;omega
  have W:∀{R:PV->Prop},(∀w,LP 900 w->R w)->Zv v none (some (j:Int)) R:=λ{R} h=>by
   rcases hv with rfl|rfl
   .refine IS ?_;rw[Vk (show j<=4 by omega)];exact h _ (.inr (RG (.inl rfl) cl))
   .refine EV ?_;rw[Vk (show j<=4 by omega)];exact h _ (.inr (RG (.inr rfl) cl))
  refine W λw hw=> ?_;ac_rfl;exact FX p d hw q
 .have gl:∀{t:Rat} {z:PV} {R:km PV->Prop},YX t z->R [.int t.num, .int (t.den:Int)] ->XZ [z] R:=λ{t z R} h k=>by rcases h with rfl|rfl <;> exact k
  refine n ?_;ac_rfl;refine gl D ?_;ac_rfl;refine Gh (j:=0) hv rfl (by decide) g (N1 (.inr rfl) m) λu ys X H _=> ?_;have H:ys= [.lst [.int r.b.num, .int (r.b.den:Int)],y, .int (r.sd:Nat), .int (HF r.up)] :=H;subst H;ac_rfl;refine s ?_;ac_rfl;refine gl E ?_;ac_rfl;refine Gh (j:=1) X rfl (by decide) (λz hz=> ?_) (N1 (.inr rfl) B) λv2 _ _ _ a=> ?_
  .rcases AAT.mp hz with rfl|hz
   .exact N1 (.inr rfl) m
   .exact g z (AA9 _ hz)
  ac_rfl;exact FX p d a q
 .obtain ⟨C,A⟩:∃C,rs[0]? =some C:=⟨rs[0],AAm S⟩;refine i (k:=0) A ?_;ac_rfl;refine Ll λw I=> ?_;ac_rfl;refine q _ (.inr ⟨_, .inr rfl,by simp,λz hz=> ?_⟩);simp only[AAT,AAq,AAr] at hz;rcases hz with rfl|rfl
  .exact R0 (p.ok C (AA4 A)) (p.rv C)
  .exact I.r
 .rename_i c L M _ _ _ _;obtain⟨j,rfl⟩:∃j:Nat,c=j:=⟨c.toNat,by omega⟩;refine Ll λw I=> ?_;ac_rfl;refine Gh hv rfl (by omega) g I.t λu _ _ _ a=> ?_;ac_rfl;exact FX p d a q
end PL.K27
namespace PL.K26
open PySem L2 PL PL.K25 PyProof.Rows
structure W5 (cs:List C4):Prop where
 ok:LM 12 136 cs
 mm:∀c∈cs,Bd 25 c.1
def Xz {cs:km C4}(p:Io cs):W5 cs:=⟨⟨p.ok.two,p.ok.few,λc hc=>(p.ok.bd c hc).mono (by decide),p.ok.ris⟩,λc hc=>(p.mm c hc).mono (by decide)⟩
def sw {cs ds:km C4}{d:Rat×Rat}(p:W5 cs)(p2:W5 ds)(b1:Bd 3 d.1)(b2:Bd 3 d.2)(a:0<d.1)(b:0<d.2):Fx cs ds d 25 1028:=
 az (n:=12) (S:=512) (D:=3) (by decide) p.ok.two p2.ok.two p.ok.few p2.ok.few p.ok.ris p2.ok.ris (λc hc=>(p.ok.bd c hc).mono (by decide)) (λc hc=>(p2.ok.bd c hc).mono (by decide)) p.mm p2.mm b1 b2 a b (by decide) (by decide) (λm _ _ bm q e=>(K0 bm p.ok.ris ⟨p.mm,p.ok.bd⟩ e)) (λm _ _ bm q e=>(K0 bm p2.ok.ris ⟨p2.mm,p2.ok.bd⟩ e)) (by decide)
end PL.K26
namespace PL.K27
open PySem L2 PL PL.K25 PL.K26 PyProof.Rows
abbrev GP:AS:=
 (Aa (Ar (AR 4 Bo (AB (aV 9) (AB (aV 10) (AB (aV 3) (AB (aV 13) AL))))) (Au 14))
   (BO (D9 (B2 (Aj (Dr PF (AB (aV 14) (AB (aC (.ty "bool")) AL))))) (Aj (AY PD (aV 14) (AR 4 CW (AB (aV 9) (AB (aV 10) (AB (aV 3) (AB (aV 13) AL)))))))) (Aq (aC (.bl false))) A0))
abbrev G4:AS:=
 (Aa (Ar (AY BY (aV 12) (DQ (CF (Te (AB (aC (.int 9)) AL)) 1 [2,12] (Au 0) D5 (AR 2 Cu (AB (aV 1) (AB (AY Ai (aV 2) (AY Vo (aV 0) (aC (.int 2)))) AL)))))) (Au 12))
   (Fe (HP (aV 12)) (Au 13) GP))
abbrev Dx:AS:=
 (Aa (Ar (DQ (B7 (AB (aV 11) (AB (AR 1 (Aw 12) (AB (aV 11) AL)) (AB (AR 1 Bh (AB (aV 2) AL)) AL))))) (Au 12))
   G4)
abbrev DX:AS:=
 (Aa (Ar (Dr B4 (AB (DQ (CF (HP (aV 8)) 1 [] (Au 0) D5 (AY BY (Ay (AB (AR 2 Cy (AB (AY Ai (aV 0) (aC (.int 0))) (AB (Ay (AB (aC (.int 300)) (AB (aC (.int 1)) AL))) AL))) AL)) (VW (aV 0) (VZ (aC (.int 1))) VY)))) AL)) (Au 6))
   (Fe (HP (Ay (AB (Ay (AB (aV 7) (AB (aV 8) (AB (aV 4) AL)))) (AB (Ay (AB (aV 7) (AB (aV 6) (AB (Ay AL) AL)))) AL)))) (JH 3 (Ae (Au 9) (Ae (Au 10) (Ae (Au 11) Bx)))) Dx))
abbrev G9:AS:=
 (Aa (BO (Aj (AY HQ (AY Ai (aV 5) (aC (.int 0))) (aC (.str "clear")))) (Ar (AY Ai (aV 5) (aC (.int 1))) (Au 4)) A0)
   DX)
abbrev G8:AS:=
 (Aa (Ar (AR 3 F2 (AB (aV 7) (AB (aV 8) (AB (aV 3) AL)))) (Au 5))
   G9)
abbrev G7:AS:=
 (Aa (Ar (Ay (AB (Ay (AB (AY Ai (AY Ai (aV 7) (aC (.int 0))) (aC (.int 0))) (AB (AY Ai (AY Ai (aV 7) (Mh E9 (aC (.int 1)))) (aC (.int 0))) (AB (AR 2 BW (AB (aV 2) (AB (aC (.int 3)) AL))) (AB (aC (.int 1)) AL))))) AL)) (Au 4))
   G8)
abbrev G6:AS:=
 (Aa (Ar (AR 2 CK (AB (aV 2) (AB (aV 3) AL))) (JH 2 (Ae (Au 7) (Ae (Au 8) Bx))))
   G7)
abbrev G5:AS:=
 (Aa (Ar (AR 1 Dz (AB (aV 2) AL)) (Au 3))
   G6)
abbrev GQ:AS:=
 (Aa (Ar (AR 2 Ng (AB (aV 0) (AB (aV 1) AL))) (Au 2))
   G5)
abbrev LF:AS:=
 (Aa (Fe (Te (AB (AY BY (aC (.int 1)) (Dr (oZ min) (AB (aC (.int 3)) (AB (Dr EA (AB (aV 0) AL)) AL)))) AL)) (Au 1) GQ)
   (Aq (aC (.bl true))))
def Ex:AF:=Ax 15 LF
def Uk {a:PV}{Q:PV->Prop}(h:LF ⟨λ_=>Q .non,Q,λ_=>False,λ_=>False⟩ [some (.val a),none,none,none,none,none,none,none,none,none,none,none,none,none,none]):Ex [a] Q:=h
section
variable {cs ds:km C4}{d:Rat×Rat}{M W:Nat}
theorem iY {v:PV}(h:oF v){a b c:PV}:(∀{Q:PV->Prop},Q (.bl false)->Bo [a,b,c,v] Q)/\∀{Q:PV->Prop},Q (.bl false)->CW [a,b,c,v] Q:=by
 constructor
 .intro Q q;apply Fa;rcases h with rfl|⟨b,rfl⟩|⟨i,rfl⟩|⟨s,rfl⟩;all_goals
   ac_rfl;exact q
 .intro Q q;apply Ht;rcases h with rfl|⟨b,rfl⟩|⟨i,rfl⟩|⟨s,rfl⟩;all_goals
   ac_rfl;exact q
theorem ask (D:Fx cs ds d M W){B:Nat}(hc:∀c∈cs,Ds B c)(e:∀c∈ds,Ds B c)(f:B<=140)(hM:M<=900){v:PV}(h:O4 v):∃b:kc,(∀{Q:PV->Prop},Q (.bl b)->Bo [BA cs,BA ds, .tup [fr d.1,fr d.2],v] Q)/\∀{Q:PV->Prop},Q (.bl b)->CW [BA cs,BA ds, .tup [fr d.1,fr d.2],v] Q:=by
 rcases h with h|⟨vs,hv,hl,ok⟩
 .exact ⟨false,iY h⟩
 .obtain ⟨ps,rfl,a⟩:=je ok;rw[AAa] at hl;by_cases g:K26.Good cs ds d (ps.map tx)
  .exact ⟨true,λq=>YA D hc e (.self _) (.self _) (.inl rfl) hv (by omega) a (by omega) (by omega) hM (λ_=>q) (λz=>absurd g z),λq=>Uv D hc e (by omega) hM hv (by omega) a (λ_=>q) (λz=>absurd g z)⟩
  .exact ⟨false,λq=>YA D hc e (.self _) (.self _) (.inl rfl) hv (by omega) a (by omega) (by omega) hM (λz=>absurd z g) (λ_=>q),λq=>Uv D hc e (by omega) hM hv (by omega) a (λz=>absurd z g) (λ_=>q)⟩
theorem lJ (D:Fx cs ds d M W){B:Nat}(hc:∀c∈cs,Ds B c)(p:∀c∈ds,Ds B c)(r:B<=140)(hM:M<=900){v:PV}(h:O4 v){g i j k l m n o e f a:ke AV}{nx bk ct:BD->Prop}{rt:PV->Prop}(q:∀a,nx [g,i,j,some (.val (.tup [fr d.1,fr d.2])),k,l,m,n,o,some (.val (BA cs)),some (.val (BA ds)),e,f,some (.val v),a]):GP {nx:=nx,rt:=rt,bk:=bk,ct:=ct} [g,i,j,some (.val (.tup [fr d.1,fr d.2])),k,l,m,n,o,some (.val (BA cs)),some (.val (BA ds)),e,f,some (.val v),a] :=by
 obtain⟨b,h1,h2⟩:=ask D hc p r hM h;clear h;ac_rfl;refine h1 ?_;ac_rfl;refine h2 ?_;cases b;all_goals
  ac_rfl;exact q _
theorem cE (D:Fx cs ds d M W){B:Nat}(hc:∀c∈cs,Ds B c)(G:∀c∈ds,Ds B c)(H:B<=140)(hM:M<=900){rs:km Rw}(o:rs.length<=402)(ok:∀r∈rs,fi 850 (lS r)){s t u x y z A f g b:ke AV}{nx bk ct:BD->Prop}{rt:PV->Prop}(q:∀I C E f g b,nx [s,t,some (.val .tape),some (.val (.tup [fr d.1,fr d.2])),u,x,y,z,A,I,C,E,f,g,b]):Dx {nx:=nx,rt:=rt,bk:=bk,ct:=ct} [s,t,some (.val .tape),some (.val (.tup [fr d.1,fr d.2])),u,x,y,z,A,some (.val (BA cs)),some (.val (BA ds)),some (.val (.tup (rs.map Pa))),f,g,b] :=by
 have f1:aM rs Pa (.tup (rs.map Pa)):=⟨by omega,ok,fD.self, .inl rfl⟩;have f2:aM rs mP (.lst (rs.map mP)):=⟨by omega,ok,fD.lists, .inr rfl⟩;have p1:=cr f1;have p2:=cr f2;unfold Dx G4;generalize J:GP=T;ac_rfl;refine V5 (m:=8) o ?_;ac_rfl;refine Ll λn K=> ?_;have O:=K.p;generalize PV.tup (rs.map Pa)=v1 at f1 p1 ⊢;generalize PV.lst (rs.map mP)=v2 at f2 p2 ⊢;ac_rfl;refine gB (λi a=>a.length=i/\∀v∈a,O4 v) ?_ ?_ ⟨rfl,by simp⟩
 .rintro a ⟨hl,ha⟩;have k:∀v∈ [v1,v2,n] ++ a,O4 v:=λv hv=>by
   rcases AAg.mp hv with hv|hv
   .simp only[AAT,AAq,AAr] at hv;rcases hv with rfl|rfl|rfl <;> assumption
   .exact ha v hv
  ac_rfl;refine gD (λτ=>∃h j,τ= [s,t,some (.val .tape),some (.val (.tup [fr d.1,fr d.2])),u,x,y,z,A,some (.val (BA cs)),some (.val (BA ds)),some (.val v1),some (.val (.lst ([v1,v2,n] ++ a))),h,j]) ?_ ?_ ⟨_,_,rfl⟩
  .rintro τ ⟨h,j,rfl⟩;exact q _ _ _ _ _ _
  .rintro v hv τ R F ⟨h,j,rfl⟩;ac_rfl;subst J;exact lJ D hc G H hM (k v hv) λb=>F _ ⟨_,_,rfl⟩
 .rintro i hi a R F ⟨hl,ha⟩;have L:(0:Int)+i=i:=by omega
  rw[L];have N:((i:Int)).fmod 2=((i % 2:Nat):Int):=by rw[ACP _ (by decide)];omega
  have l:∀v,O4 v->R (a ++ [v]):=λv hv=>F _ ⟨by simp[hl],λw hw=>by
   rcases AAg.mp hw with hw|hw
   .exact ha w hw
   .rcases ABE.mp hw with rfl;exact hv⟩
  ac_rfl;rw[N];rcases (show i % 2=0\/i % 2=1 by omega) with e|e
  .rw [e];refine(show Ai (.lst [v1,v2,n]) (.int 0) _ from ?_);ac_rfl;exact XC f1 l
  .rw [e];refine(show Ai (.lst [v1,v2,n]) (.int 1) _ from ?_);ac_rfl;exact XC f2 l
theorem ZV {ds:km C4}(p:Io ds):W5 (ds.map λc=>(c.1+300,c.2)):=by
 have f:Bd 10 (300:Rat):=⟨by decide,by decide⟩;refine⟨⟨by rw[AAa];exact p.ok.two,by rw[AAa];exact p.ok.few,λc hc=> ?_, ?_⟩,λc hc=> ?_⟩
 .obtain ⟨e,he,rfl⟩:=AAd.mp hc;have b:=p.ok.bd e he;exact⟨((p.mm e he).add f).mono (by decide),b.x.mono (by decide),b.y.mono (by decide),b.z.mono (by decide)⟩
 .refine AD7.mpr (List.Pairwise.imp (λ{a b} h=> ?_) p.ok.ris);show a.1+300<b.1+300;grind
 .obtain ⟨e,he,rfl⟩:=AAd.mp hc;exact((p.mm e he).add f).mono (by decide)
theorem cG (p:Io cs)(p2:Io ds)(b1:Bd 3 d.1)(b2:Bd 3 d.2)(o:0<d.1)(s:0<d.2){rs:km Rw}(i:rs.length<=402)(ok:∀r∈rs,fi 850 (lS r)){t j k l m a b e f g:ke AV}{nx bk ct:BD->Prop}{rt:PV->Prop}(q:∀j v w x k l y z m a b e f g,nx [t,j,v,w,x,k,l,y,z,m,a,b,e,f,g]):DX {nx:=nx,rt:=rt,bk:=bk,ct:=ct} [t,j,some (.val .tape),some (.val (.tup [fr d.1,fr d.2])),some (.val (.tup (rs.map Pa))),k,l,some (.val (BA cs)),some (.val (BA ds)),m,a,b,e,f,g] :=by
 have A:=oT p p2 b1 b2 o s;have u:=ZV p2;have B:=sw (Xz p) u b1 b2 o s;have E:=p2.ok.few;have F:Bd 10 (300:Rat):=⟨by decide,by decide⟩;generalize C:PV.tup (rs.map Pa)=P;unfold DX;generalize n:Dx=T;ac_rfl;refine DY cor cor (λc:C4=>(c.1+300,c.2)) (λc=>c∈ds) (λc hc R D=> ?_) ds [] (λ_ h=>h) ?_
 .have G:=p2.mm c hc;ac_rfl;rw[show ((300:Int):Rat)=300 by decide +kernel];exact D
 rw[ABB];repeat' array_get_dec
 subst n;subst C;refine cE A p.ok.bd p2.ok.bd (by decide) (by decide) i ok λ_ _ _ _ _ _=> ?_;generalize n:Dx=T;repeat' array_get_dec
 subst n;refine cE (rs:= []) B (Xz p).ok.bd u.ok.bd (by decide) (by decide) (by simp) (by simp) λ_ _ _ _ _ _=> ?_;repeat' array_get_dec
 exact q _ _ _ _ _ _ _ _ _ _ _ _ _ _
theorem cH (o:km Int)(hn:o.length<=63):Ex [.scr o] λx=>x= .bl true:=by
 apply Uk;unfold LF;generalize I:GQ=T0;repeat' array_get_dec
 refine XX (λi τ=>∃s t u v w z A B C b c e f h,τ= [some (.val (.scr o)),s,t,u,v,w,z,A,B,C,b,c,e,f,h]) ?_ ?_ ⟨_,_,_,_,_,_,_,_,_,_,_,_,_,_,rfl⟩
 .rintro τ ⟨s,t,u,v,w,z,A,B,C,b,c,e,f,h,rfl⟩;repeat' array_get_dec
 .rintro i hi τ R F ⟨s,t,u,v,w,z,A,B,C,b,c,e,f,h,rfl⟩;have J:(0:Int)+i=i:=by omega
  rw[J];subst I;unfold GQ G5 G6 G7 G8 G9;generalize G:DX=T;ac_rfl;refine Yf λd b1 b2 j k=> ?_;ac_rfl;refine e7 b1 b2 λcs ds E p2=> ?_;have p:=(Xy E).y;have j:0<d.1:=by grind
  have k:0<d.2:=by grind
  have D:=oT p p2 b1 b2 j k;have K:=E.few;obtain⟨a,r,l,rfl,O,L⟩:=open2 E.two;ac_rfl;rename_i H Q S;obtain⟨n,rfl⟩:∃n:Nat,H=n:=⟨H.toNat,by omega⟩;have N:l∈a::r:=ABd L;refine WP D (.self _) (.self _) (.inl rfl) (by decide) (λm _ _ _=> ?_) (λ_ rs P=> ?_)
  .ac_rfl;subst G;exact cG (rs:= [⟨a.1,l.1,n,true⟩]) p p2 b1 b2 j k (by simp) (λx hx=>by rcases ABE.mp hx with rfl;exact⟨(p.mm a (by simp)).mono (by decide),(p.mm l N).mono (by decide),by show n<3;omega⟩) λ_ _ _ _ _ _ _ _ _ _ _ _ _ _=>F _ ⟨_,_,_,_,_,_,_,_,_,_,_,_,_,_,rfl⟩
  .ac_rfl;subst G;exact cG p p2 b1 b2 j k P.few (λx hx=>by have g:=P.ok x hx;exact⟨g.bb.mono (by decide),g.be.mono (by decide),g.sd⟩) λ_ _ _ _ _ _ _ _ _ _ _ _ _ _=>F _ ⟨_,_,_,_,_,_,_,_,_,_,_,_,_,_,rfl⟩
end
end PL.K27
section
namespace K27
open PySem L2 PL PL.K27 PL.K25 PyProof.Rows
def DM {N Q:km Str}{s:Scope}(a:s.kind= .function:=by rfl)(b:s.isCoroutine=false:=by rfl)(c:s.isGenerator=false:=by rfl)(d:N.Nodup:=by decide +kernel)(e:N.take Q.length=Q:=by rfl)(f:∀x∈Q,s.names.lookup x=some .local\/s.names.lookup x=some .cell:=by decide +kernel)(g:∀y∈s.names,y.2≠ .free:=by decide +kernel):EO N Q s:=⟨a,b,c,d,e,f,g⟩
section
variable (P:gn)(w:fm)(K:AAP)(Z:Str->ke kj)(Y:fe)(n:Nat)
abbrev CP:=Has P w K Z Y n "_law_draw" ["_law_tape_here","_law_many"] (CZ K 2 BW)
abbrev RP:=Has P w K Z Y n "_law_apart" ["_law_tape_here"] (CZ K 1 Dz)
abbrev RO:=Has P w K Z Y n "_law_alike" ["_law_thing"] (CZ K 1 B5)
abbrev N2:=Has P w K Z Y n "_law_odd" ["_law_tape_here"] (CZ K 1 Bh)
abbrev Vs:=Has P w K Z Y n "_law_put" ["_law_thing","_law_k","_law_other"] (CZ K 3 A1)
abbrev Tt:=Has P w K Z Y n "_law_bent" ["_law_tape_here","_law_paper"] (CZ K 2 Cu)
abbrev Ip (m:Nat):=Has P w K Z Y n "_law_listed" ["_law_thing"] (CZ K 1 (Aw m))
abbrev Ec:=Has P w K Z Y n "_law_less" ["_law_one","_law_other"] (CZ K 2 Ao)
abbrev Iq:=Has P w K Z Y n "_law_number" ["_law_thing"] (CZ K 1 BI)
abbrev C2:=Has P w K Z Y n "_law_part" ["_law_top","_law_bottom"] (CZ K 2 A9)
abbrev PJ:=Has P w K Z Y n "_law_lowest" ["_law_thing"] (CZ K 1 BE)
abbrev PH:=Has P w K Z Y n "_law_is_row" ["_law_row"] (CZ K 1 Br)
abbrev N3:=Has P w K Z Y n "_law_off" ["_law_one","_law_other"] (CZ K 2 Cw)
abbrev KO:=Has P w K Z Y n "_law_ratio" ["_law_one","_law_other"] (CZ K 2 DA)
abbrev Hi:=Has P w K Z Y n "_law_product" ["_law_one","_law_other"] (CZ K 2 Bw)
abbrev Ga:=Has P w K Z Y n "_law_sum" ["_law_one","_law_other"] (CZ K 2 Cy)
abbrev Tx:=Has P w K Z Y n "_law_spot" ["_law_plan_here","_law_m"] (CZ K 2 EZ)
abbrev Tu:=Has P w K Z Y n "_law_offs" ["_law_one","_law_other","_law_apart_here","_law_m"] (CZ K 4 EY)
abbrev PK:=Has P w K Z Y n "_law_rising" ["_law_moments"] (CZ K 1 DN)
abbrev KP:=Has P w K Z Y n "_law_turns" ["_law_one","_law_other"] (CZ K 2 DB)
abbrev LZ:=Has P w K Z Y n "_law_row_holds" ["_law_one","_law_other","_law_apart_here","_law_row"] (CZ K 4 CJ)
abbrev RR:=Has P w K Z Y n "_law_shows" ["_law_one","_law_other","_law_apart_here","_law_paper"] (CZ K 4 CW)
abbrev Tz:=Has P w K Z Y n "_law_tape" ["_law_script","_law_k"] (CZ K 2 Ng)
abbrev RQ:=Has P w K Z Y n "_law_place" ["_law_tape_here"] (CZ K 1 Bi)
abbrev Tw:=Has P w K Z Y n "_law_span" ["_law_tape_here"] (CZ K 1 FQ)
abbrev Tv:=Has P w K Z Y n "_law_plan" ["_law_tape_here"] (CZ K 1 D0)
abbrev La:=Has P w K Z Y n "_law_wide_pair" ["_law_tape_here","_law_apart_here"] (CZ K 2 CK)
abbrev N4:=Has P w K Z Y n "common" ["one","other"] (CZ K 2 Fy)
abbrev N6:=Has P w K Z Y n "part" ["top","bottom"] (CZ K 2 Ha)
abbrev Vu:=Has P w K Z Y n "over" ["one","other"] (CZ K 2 JF)
abbrev Mj:=Has P w K Z Y n "shared_bottom" ["numbers"] (CZ K 1 Ce)
abbrev Vt:=Has P w K Z Y n "lines_of" ["first","last"] (CZ K 2 E2)
abbrev M3:=Has P w K Z Y n "minus" ["one","other"] (CZ K 2 D3)
abbrev QE:=Has P w K Z Y n "size_of" ["apart","side"] (CZ K 2 EH)
abbrev DS:=Has P w K Z Y n "before" ["one","other"] (CZ K 2 Ao)
abbrev Vv:=Has P w K Z Y n "plus" ["one","other"] (CZ K 2 Hc)
abbrev RS:=Has P w K Z Y n "times" ["one","other"] (CZ K 2 FR)
abbrev N7:=Has P w K Z Y n "spot_between" ["former","latter","m"] (CZ K 3 D4)
abbrev QF:=Has P w K Z Y n "spot_at" ["plan","m"] (CZ K 2 EI)
abbrev Yu:=Has P w K Z Y n "offs_at" ["one","other","apart","m"] (CZ K 4 F0)
abbrev Yq:=Has P w K Z Y n "greater" ["one","other"] (CZ K 2 Cv)
abbrev T8:=Has P w K Z Y n "lesser" ["one","other"] (CZ K 2 E1)
abbrev N8:=Has P w K Z Y n "together" ["one","other"] (CZ K 2 Dd)
abbrev KQ:=Has P w K Z Y n "corners_between" ["plan","begin","end"] (CZ K 3 B6)
abbrev PM:=Has P w K Z Y n "count_below" ["numbers","number"] (CZ K 2 DP)
abbrev UA:=Has P w K Z Y n "rising" ["numbers"] (CZ K 1 F4)
abbrev Xa:=Has P w K Z Y n "turns" ["one","other","begin","end"] (CZ K 4 IK)
abbrev T9:=Has P w K Z Y n "pieces" ["one","other","apart"] (CZ K 3 F3)
abbrev Ys:=Has P w K Z Y n "longest" ["bottom","lines"] (CZ K 2 Ey)
abbrev MH:=Has P w K Z Y n "moment_at" ["begin","end","share"] (CZ K 3 Cz)
abbrev bP:=Has P w K Z Y n "row_of" ["begin","end","at"] (CZ K 3 E3)
abbrev Yw:=Has P w K Z Y n "rows_of" ["piece"] (CZ K 1 F5)
abbrev Yt:=Has P w K Z Y n "near_in" ["piece"] (CZ K 1 Fz)
abbrev Vw:=Has P w K Z Y n "steps_of" ["stretches"] (CZ K 1 IJ)
abbrev bO:=Has P w K Z Y n "levels" ["stretches"] (CZ K 1 HZ)
abbrev Yp:=Has P w K Z Y n "counted" ["stretches","n"] (CZ K 2 Ew)
abbrev Vx:=Has P w K Z Y n "told_set" ["stretches"] (CZ K 1 E4)
abbrev Vy:=Has P w K Z Y n "too_near" ["one","other","apart"] (CZ K 3 E5)
abbrev Xb:=Has P w K Z Y n "whole" ["n"] (CZ K 1 IL)
abbrev Yv:=Has P w K Z Y n "parting" ["one","other","apart"] (CZ K 3 F2)
abbrev gR:=Has P w K Z Y n "holds" ["one","other","apart","row"] (CZ K 4 J4)
abbrev N5:=Has P w K Z Y n "is_whole" ["thing"] (CZ K 1 BI)
abbrev Yr:=Has P w K Z Y n "is_part" ["thing"] (CZ K 1 Dj)
abbrev bN:=Has P w K Z Y n "is_row" ["thing"] (CZ K 1 Eb)
abbrev Ml:=Has P w K Z Y n "shows_parting" ["one","other","apart","paper"] (CZ K 4 Bo)
end
section
variable {P:gn}{w:fm}{K:AAP}{Z:Str->ke kj}{Y:fe}{n m:Nat}{f:kf}{U:FuncData}
theorem Kx:EO ["_law_tape_here","_law_many","_law_once","_law_found"] ["_law_tape_here","_law_many"] (BP Fb):=DM
theorem Rg (F:Ta K "_law_draw" "_law_draw" Fb f U):Eg P w K Z Y Q2 (n+1) f U ["_law_tape_here","_law_many"] (CZ K 2 BW):=by
 have l:=Kx.nd;refine F.ok Kx (λvs H Q E h=> ?_) (λv A outer s H vs Q E I h=> ?_)
 .obtain ⟨T,M,xs,y,_,_,r,hl,_⟩:=h;rw[r.length,hl] <;> rfl
 obtain⟨T,M,xs,y,va,_,r,hl,e,hQ⟩:=h;unfold BW at e;split at e <;> first | exact e.elim|skip
 rename_i m;obtain⟨⟨m0,m1⟩,e⟩:=e;cases r with
 | cons r k=>
 cases k with
 | cons r2 k=>
 cases k;cases r2;cases r with
 | tape tp=>
 rename_i p;obtain⟨d,x,hp,o,z,B⟩:=va.tp p tp;refine⟨_,(CB (X0 (NB jY (MM FU (pv 0) BC (λ_ _=>rfl)) BC (Cj _)) (CB (Ff (i:=3) l rfl (Or.inl rfl) (CS Gf (MM FU (pv 0) BC (λ_ _=>rfl)) (pv 1)))
  (CB (Ru (CS ck (MM FU (pv 0) BC (λ_ _=>rfl)) (pv 1)) (WR (pv 0) BC Om))
  (FW (OV (pv 3))))) NA)
  (CB (Ru (CS Gf (CS JU (CS IP (MM FU (pv 0) BC (λ_ _=>rfl)) BC) BC) BC) (WR (pv 0) BC Om))
  (CB (Ff (i:=2) l rfl (Or.inl rfl) (CS Gf (CS IP (MM FU (pv 0) BC (λ_ _=>rfl)) (CS JU (CS Gf (MM FU (pv 0) BC (λ_ _=>rfl)) BC) BC)) BC))
  (FW (OV (CS Gf (CS Gf (CS IP (pv 2) (CS JU (CS Gf (pv 2) BC) BC)) BC) (pv 1))))))), ?_⟩
 have g:∀(r d' j:Int),0<=r->r<m->0<=d'->0<=j->j<2147483647->Q (.int r) (upd H p (.lst [.int d', .int j])):=λr d' j C r1 a b c=>
  hQ _ (.int r) T _ (eV va.tp tp a b c) (.int r) (e r C r1)
 refine⟨_,rfl,p,_,_,_,rfl,rfl,FF.of hp,rfl,_,_,rfl,rfl,_,rfl, ?_⟩;refine pO (λc=> ?_) (λc=> ?_)
 .refine ⟨_,rfl,p,_,_,_,rfl,rfl,FF.of hp,rfl,_,rfl,_,_,rfl,rfl,m0, ?_⟩;refine⟨_,rfl,p,_,_,_,rfl,rfl,FF.of hp,rfl,_,rfl,_,_,rfl,rfl,⟨m0,by omega⟩, ?_⟩;refine⟨_,rfl,p,_,_,_,rfl,rfl,hp,rfl, ?_⟩;exact⟨_,rfl,g _ _ _ (ACl _ (by omega)) (ACm _ m0) (Int.ediv_nonneg o (by omega)) z B⟩
 .refine ⟨_,rfl,p,_,_,_,rfl,rfl,FF.of hp,rfl,_,_,rfl,rfl, .inl (.inr ⟨by decide,by decide⟩),_,_,rfl,rfl,_,_,rfl,rfl,(show (0:Int)<2147483647 by decide), ?_⟩;refine⟨_,rfl,p,_,_,_,rfl,rfl,hp,rfl, ?_⟩;have t:0<=(x*48271+12345) % 2147483647:=ACl _ (by decide);have y1:(x*48271+12345) % 2147483647<2147483647:=ACm _ (by decide);have u:upd H p (.lst ([V.int d,V.int x].set (Int.toNat 1) (V.int ((x*48271+12345) % 2147483647)))) p=some (.lst [.int d, .int ((x*48271+12345) % 2147483647)]):=Ah;have D:0<=(x*48271+12345) % 2147483647*((x*48271+12345) % 2147483647 % 1009+3) % 2147483629:=ACl _ (by decide);have G:(x*48271+12345) % 2147483647*((x*48271+12345) % 2147483647 % 1009+3) % 2147483629<2147483629:=ACm _ (by decide);refine⟨_,rfl,p,_,_,_,rfl,rfl,FF.of u,rfl,_,rfl,p,_,_,_,rfl,rfl,FF.of u,rfl,_,_,rfl,rfl,(show (0:Int)<1009 by decide),_,_,rfl,rfl,_,_,rfl,rfl, .inl (.inl (Oo t y1)),_,_,rfl,rfl,(show (0:Int)<2147483629 by decide), ?_⟩;refine⟨_,rfl,_,rfl,_,_,rfl,rfl,(show (0:Int)<997 by decide),_,_,rfl,rfl,_,_,rfl,rfl, .inl (.inl (Oo D (Int.lt_trans G (by decide)))),_,_,rfl,rfl,(show (0:Int)<998244353 by decide),_,rfl,_,_,rfl,rfl,m0, ?_⟩;exact g _ _ _ (ACl _ (by omega)) (ACm _ m0) o t y1
theorem Dm {P:gn}{w:fm}{K:AAP}{Z:Str->ke kj}{Y:fe}{x q:Str}{st:Stmt}{f:kf}{U:FuncData}{N:km Str}{k n:Nat}{b:AS}(F:Ta K x q st f U)(S:EO N (N.take n) (BP st))(hn:n=(N.take n).length)(h:∀(v:kj) (A:da) (o:km Env) (s:ki) (H:Hp) (E:XK),Room k (A.deeper (envOfC q (BP st) s.heap.objs.size f v))->N.Nodup->fE (Tn Q2 P w K Z Y N q (BP st) f v A o s H E).nox (ES st) b):Eg P w K Z Y Q2 (k+1) f U (N.take n) (CZ K n (Ax N.length b)):=
 XW F S hn λv A o s H E r=>h v A o s H E r S.nd
abbrev Z1 (K:AAP)(x:Str)(s:Stmt)(f:kf)(d:FuncData):=Ta K x x s f d
abbrev Z2 (P:gn)(w:fm)(K:AAP)(Z:Str->ke kj)(b:fe)(n:Nat)(f:kf)(d:FuncData)(N:km Str)(k:Nat)(F:AF):=Eg P w K Z b Q2 (n+1) f d (N.take k) (CZ K k F)
theorem PQ (F:Z1 K "_law_apart" Gm f U)(a:CP P w K Z Y n):Z2 P w K Z Y n f U ["_law_tape_here","_law_some"] 1 Dz:=Dm F DM rfl λ_ _ _ _ _ _ b c=>(AM (Cs 1 c (Bj (A4 (Ak (AZ (As AH AH)) (Ak (AZ (As AH AH)) (D8 (AZ (As AH AH)) (AZ (As AH AH)) (AZ (As AH AH)))))))) (AN (AU (AZ (As (AX (AJ 1) (AK a b rfl (As (AJ 0) AH))) (AX (AJ 1) (AK a b rfl (As (AJ 0) AH))))))))
theorem PP (F:Z1 K "_law_alike" Gk f U)(a:Z "int" =none)(b:Z "isinstance" =none)(c:Z "str" =none):Z2 P w K Z Y n f U ["_law_thing"] 1 B5:=Dm F DM rfl λ_ _ _ _ _ _ d _=>(AM (Az (Av (Ap IC rfl b ABC (As (AJ 0) (MQ (n:="int") rfl a boot_int rfl)))) (AN (AU (qa d (AJ 0) (A8 iX rfl c boot_str (BN (AJ 0)))))) An) (AN (AU (AZ (As (Af BK AH (AX (AJ 0) AH)) (Af BK AH (AX (AJ 0) AH)))))))
theorem UP (F:Z1 K "_law_odd" JZ f U)(b:CP P w K Z Y n)(c:Z "len" =none):Z2 P w K Z Y n f U ["_law_tape_here","_law_some"] 1 Bh:=Dm F DM rfl λ_ _ _ _ _ _ d a=>(AM (Cs 1 a (Bj (A4 (Ak C5 (Ak Cg (Ak Cg (Ak AH (Ak AH (Ak (CC AH) (Ak AH (Ak AH (Ak (CC AH) (Ak (Af mj AH AH) (Ak Gv (Ak Gv (Ak Gv (Ak Gv (Ak (AZ Ck) (Ak (Bj (A4 Ck)) (D8 (AZ (BN AH)) (Bj (A4 (As AH AH))) (AZ (As AH AH)))))))))))))))))))))) (AM (Cs 1 a (Af A6 (AJ 1) (Bj (A4 (Ak (AZ (As AH (CC AH))) (Ak (AZ (As AH AH)) (Ak (AZ (As AH AH)) (Ak (AZ (As Cg AH)) (Ak (AZ (As AH Cg)) (Ak (AZ (As Gv AH)) (D8 (AZ (As C5 AH)) (AZ (As (AZ (As AH AH)) (AZ (As AH AH)))) (Bj (A4 (BN (Bj (A4 (BN (Bj (A4 (BN (Bj (A4 Ck)))))))))))))))))))))) (AM (Cs 1 a (Af A6 (AJ 1) (Bj (A4 (Ak (AZ (Ak (AZ (As AH AH)) (D8 (AZ (As AH AH)) AH AH))) (Ak (AZ (D8 (AZ (As AH AH)) (AZ (As AH AH)) AH)) (D8 (Bj (A4 (Ak (Bj (A4 (As AH AH))) (D8 (Bj (A4 (As AH AH))) AH AH)))) (AZ (As Gv (AZ Ck))) (AZ (BN (AZ (BN (AZ Ck)))))))))))) (AN (AU (AX (AJ 1) (AK b d rfl (As (AJ 0) (Ap CN rfl c AAt (BN (AJ 1)))))))))))
theorem UR (F:Z1 K "_law_put" Jb f U)(a:Z "isinstance" =none)(b:Z "list" =none):Z2 P w K Z Y n f U ["_law_thing","_law_k","_law_other"] 3 A1:=Dm F DM rfl λ_ _ _ _ _ _ _ _=>(AM (Az (Av (Ap IC rfl a ABC (As (AJ 0) (MQ (n:="list") rfl b ABY rfl)))) (AN (AU (Af A6 (Af A6 (GF (AJ 0) Zi (Zj (AJ 1))) (Bj (A4 (BN (AJ 2))))) (GF (AJ 0) (Zj (Af A6 (AJ 1) AH)) Zi)))) An) (AN (AU (Af A6 (Af A6 (GF (AJ 0) Zi (Zj (AJ 1))) (AZ (BN (AJ 2)))) (GF (AJ 0) (Zj (Af A6 (AJ 1) AH)) Zi)))))
theorem Rf (F:Z1 K "_law_bent" Hu f U)(i:RO P w K Z Y n)(e:CP P w K Z Y n)(c:N2 P w K Z Y n)(b:Vs P w K Z Y n)(g:Z "len" =none)(h:Z "list" =none):Z2 P w K Z Y n f U ["_law_tape_here","_law_paper","_law_way","_law_k","_law_row","_law_j"] 2 Cu:=Dm F DM rfl λ_ _ _ _ _ _ a d=>(AM (Cs 2 d (AK e a rfl (As (AJ 0) AH))) (AM (Az (Eu (CU (EX (CT a) (AJ 2) AH) (Cn (EX (CT a) (Ap CN rfl g AAt (BN (AJ 1))) AH)))) (AN (AU (AK c a rfl (BN (AJ 0))))) An) (AM (Cs 3 d (AK e a rfl (As (AJ 0) (Ap CN rfl g AAt (BN (AJ 1)))))) (AM (Cs 4 d (AX (AJ 1) (AJ 3))) (AM (Az (EX (CT a) (AJ 2) AH) (AN (AU (AK b a rfl (D8 (AJ 1) (AJ 3) (AK c a rfl (BN (AJ 0))))))) An) (AM (Cs 5 d (AK e a rfl (As (AJ 0) AH))) (AM (Az (EX (CT a) (AJ 2) AH) (AN (AU (AK b a rfl (D8 (AJ 1) (AJ 3) (AK b a rfl (D8 (AJ 4) (AJ 5) (AK i a rfl (BN (AX (AJ 4) (AJ 5)))))))))) An) (AM (Az (EX (CT a) (AJ 2) AH) (AN (AU (AK b a rfl (D8 (AJ 1) (AJ 3) (GF (AJ 4) Zi (Zj (AJ 5))))))) An) (AM (Az (EX (CT a) (AJ 2) AH) (AN (AU (AK b a rfl (D8 (AJ 1) (AJ 3) (AK b a rfl (D8 (AK b a rfl (D8 (AJ 4) AH (Bj (X8 rfl h ABY (BN (AX (AJ 4) AH)))))) AH (Bj (X8 rfl h ABY (BN (AX (AJ 4) AH)))))))))) An) (AM (Az (EX (CT a) (AJ 2) AH) (AN (AU (Bj (A4 (As (AX (AJ 1) AH) (AK c a rfl (BN (AJ 0)))))))) An) (AN (AU (AK b a rfl (D8 (AJ 1) (AJ 3) (AK b a rfl (D8 (AJ 4) (AJ 5) (AK c a rfl (BN (AJ 0)))))))))))))))))))
theorem ID:EO ["_law_thing"] ["_law_thing"] (BP DV):=DM
theorem OK (F:Ta K "_law_listed" "_law_listed" DV f U)(b:Ip P w K Z Y n m)(c:Z "isinstance" =none)(d:Z "tuple" =none):Eg P w K Z Y Q2 (n+1) f U ["_law_thing"] (CZ K 1 (Aw (m+1))):=by
 have g:=ID.nd;have a:(["_law_piece"] :km Str).Nodup:=by decide +kernel
 exact XW F ID rfl λ_ _ _ _ _ _ e=>(AM (Az (Av (Ap IC rfl c ABC (As (AJ 0) (MQ (n:="tuple") rfl d AAp rfl)))) (AN (AU (Bj (CI rfl (DK (AJ 0)) (B3 (own:=1) (ix:= []) (N:= ["_law_piece"]) rfl rfl rfl rfl rfl rfl (λ_ _ _ _ _ _=>(Kz 0 a)) (λ_ _ _ _ _ _=>Bc) (λ_ _ _ _ _ _=>(AK b e rfl (BN (AJ 0))))))))) An) (AN (AU (AJ 0))))
theorem Rh (F:Z1 K "_law_less" Hv f U):Z2 P w K Z Y n f U ["_law_one","_law_other"] 2 Ao:=Dm F DM rfl λ_ _ _ _ _ _ _ _=>(AN (AU (Dg IF (Af BK (AX (AJ 0) AH) (AX (AJ 1) AH)) (Af BK (AX (AJ 1) AH) (AX (AJ 0) AH)) (Cj _))))
theorem OM (F:Z1 K "_law_number" Fj f U)(b:Z "bool" =none)(c:Z "int" =none)(a:Z "isinstance" =none):Z2 P w K Z Y n f U ["_law_thing"] 1 BI:=Dm F DM rfl λ_ _ _ _ _ _ _ _=>(AN (AU (Oi (Ap IC rfl a ABC (As (AJ 0) (MQ (n:="int") rfl c boot_int rfl))) (Oj (di (Ap IC rfl a ABC (As (AJ 0) (MQ (n:="bool") rfl b boot_bool rfl))))))))
theorem Rj (F:Z1 K "_law_part" Hx f U)(b:Z "abs" =none)(c:Z "int" =none):Z2 P w K Z Y n f U ["_law_top","_law_bottom","_law_sign","_law_one","_law_other"] 2 A9:=Dm F DM rfl λ_ _ _ _ _ _ _ a=>(AM (Wj (i:=3) (j:=4) rfl a rfl rfl (by decide) rfl rfl (As (Ap L4 rfl b ABl (BN (AJ 0))) (Ap L4 rfl b ABl (BN (AJ 1)))) rfl) (AM (K1 AAj (EX QV (AJ 4) AH) (AN (Wj (i:=3) (j:=4) rfl a rfl rfl (by decide) rfl rfl (As (AJ 4) (Af Sa (AJ 3) (AJ 4))) rfl))) (AM (Cs 2 a (Af Cm AH (Af BK AH (A8 SC rfl c boot_int (BN (Dg IF (AJ 1) AH (Cj _))))))) (AN (AU (AZ (As (Af Et (Af BK (AJ 2) (AJ 0)) (AJ 3)) (Af Et (Af BK (AJ 2) (AJ 1)) (AJ 3)))))))))
theorem OL (F:Z1 K "_law_lowest" Fi f U)(b:Iq P w K Z Y n)(d:C2 P w K Z Y n)(e:Z "isinstance" =none)(g:Z "len" =none)(h:Z "list" =none)(c:Z "tuple" =none):Z2 P w K Z Y n f U ["_law_thing"] 1 BE:=Dm F DM rfl λ_ _ _ _ _ _ a _=>(AM (Az (Eu (CU (BZ (Av (GE "list" "tuple" rfl e ABC (AJ 0) (BG (DD (v:= .ty "list") rfl h ABY rfl) (BG (DD (v:= .ty "tuple") rfl c AAp rfl) DJ)) OC))) (Cn (EX (GH a) (Ap CN rfl g AAt (BN (AJ 0))) AH)))) (AN (AU Cg)) An) (AM (Az (Eu (CU (BZ (Av (AK b a rfl (BN (AX (AJ 0) AH))))) (Cn (BZ (Av (AK b a rfl (BN (AX (AJ 0) AH)))))))) (AN (AU Cg)) An) (AN (AU (Oi (Dg QV (AX (AJ 0) AH) AH (Cj _)) (Oj (Dg (CT a) (A8 Bq rfl c AAp (BN (AJ 0))) (AK d a rfl (As (AX (AJ 0) AH) (AX (AJ 0) AH))) (Cj _))))))))
theorem OJ (F:Z1 K "_law_is_row" Fh f U)(d:Ec P w K Z Y n)(b:PJ P w K Z Y n)(c:Iq P w K Z Y n)(e:Z "abs" =none)(g:Z "isinstance" =none)(h:Z "len" =none)(i:Z "list" =none)(j:Z "tuple" =none):Z2 P w K Z Y n f U ["_law_row"] 1 Br:=Dm F DM rfl λ_ _ _ _ _ _ a _=>(AM (Az (Eu (CU (BZ (Av (GE "list" "tuple" rfl g ABC (AJ 0) (BG (DD (v:= .ty "list") rfl i ABY rfl) (BG (DD (v:= .ty "tuple") rfl j AAp rfl) DJ)) OC))) (CU (EX (GH a) (Ap CN rfl h AAt (BN (AJ 0))) AH) (CU (BZ (Av (AK b a rfl (BN (AX (AJ 0) AH))))) (Cn (BZ (Av (AK b a rfl (BN (AX (AJ 0) AH)))))))))) (AN (AU Cg)) An) (AM (Az (Eu (CU (BZ (Av (AK c a rfl (BN (AX (AJ 0) AH))))) (CU (BZ (Av (AK c a rfl (BN (AX (AJ 0) AH))))) (CU (BZ (qi qh IF AH (AX (AJ 0) AH) AH)) (Cn (EX (GH a) (Ap L4 rfl e ABl (BN (AX (AJ 0) AH))) AH)))))) (AN (AU Cg)) An) (AN (AU (AK d a rfl (As (AX (AJ 0) AH) (AX (AJ 0) AH)))))))
theorem UQ (F:Z1 K "_law_off" Ja f U)(a:C2 P w K Z Y n):Z2 P w K Z Y n f U ["_law_one","_law_other"] 2 Cw:=Dm F DM rfl λ_ _ _ _ _ _ b _=>(AN (AU (AK a b rfl (As (Af Cm (Af BK (AX (AJ 0) AH) (AX (AJ 1) AH)) (Af BK (AX (AJ 1) AH) (AX (AJ 0) AH))) (Af BK (AX (AJ 0) AH) (AX (AJ 1) AH))))))
theorem PU (F:Z1 K "_law_ratio" Gq f U)(a:C2 P w K Z Y n):Z2 P w K Z Y n f U ["_law_one","_law_other"] 2 DA:=Dm F DM rfl λ_ _ _ _ _ _ b _=>(AN (AU (AK a b rfl (As (Af BK (AX (AJ 0) AH) (AX (AJ 1) AH)) (Af BK (AX (AJ 0) AH) (AX (AJ 1) AH))))))
theorem Mo (F:Z1 K "_law_product" FB f U)(a:C2 P w K Z Y n):Z2 P w K Z Y n f U ["_law_one","_law_other"] 2 Bw:=Dm F DM rfl λ_ _ _ _ _ _ b _=>(AN (AU (AK a b rfl (As (Af BK (AX (AJ 0) AH) (AX (AJ 1) AH)) (Af BK (AX (AJ 0) AH) (AX (AJ 1) AH))))))
theorem US (F:Z1 K "_law_sum" Jc f U)(a:C2 P w K Z Y n):Z2 P w K Z Y n f U ["_law_one","_law_other"] 2 Cy:=Dm F DM rfl λ_ _ _ _ _ _ b _=>(AN (AU (AK a b rfl (As (Af A6 (Af BK (AX (AJ 0) AH) (AX (AJ 1) AH)) (Af BK (AX (AJ 1) AH) (AX (AJ 0) AH))) (Af BK (AX (AJ 0) AH) (AX (AJ 1) AH))))))
theorem Rm (F:Z1 K "_law_spot" IA f U)(c:Ec P w K Z Y n)(d:N3 P w K Z Y n)(h:Hi P w K Z Y n)(j:KO P w K Z Y n)(k:Ga P w K Z Y n)(l:Z "range" =none)(o:Z "tuple" =none)(p:Z "zip" =none):Z2 P w K Z Y n f U ["_law_plan_here","_law_m","_law_one","_law_other","_law_share","_law_gone"] 2 EZ:=by
 have e:(["_law_k","_law_share","_law_other","_law_one"] :km Str).Nodup:=by decide +kernel
 have g:(["_law_k","_law_one","_law_gone"] :km Str).Nodup:=by decide +kernel
 exact Dm F DM rfl λ_ _ _ _ _ _ a b=>(AM (Az (Eu (CU (Av (AK c a rfl (As (AJ 1) (AX (AX (AJ 0) AH) AH)))) (Cn (Av (AK c a rfl (As (AX (AX (AJ 0) (CC AH)) AH) (AJ 1))))))) (AN (AU C5)) An) (AM (Ca AAj rfl (mZ rfl p (As (AJ 0) (GF (AJ 0) (Zj AH) Zi))) (CO (n:=2) rfl (Ab (Es (i:=2) b rfl (Or.inr rfl)) (Ab (Es (i:=3) b rfl (Or.inr rfl)) Bn))) (AN (Az (BZ (Av (AK c a rfl (As (AX (AJ 3) AH) (AJ 1))))) (AM (FD (i:=4) b rfl (Or.inr rfl) (AK j a rfl (As (AK d a rfl (As (AJ 1) (AX (AJ 2) AH))) (AK d a rfl (As (AX (AJ 3) AH) (AX (AJ 2) AH)))))) (AM (FD (i:=5) b rfl (Or.inr rfl) (Bj (CI rfl (DK (AZ (D8 AH AH AH))) (B3 (own:=1) (ix:= [4,3,2]) (N:= ["_law_k","_law_share" ,"_law_other" ,"_law_one" ]) rfl rfl rfl rfl rfl rfl (λ_ _ _ _ _ _=>(Kz 0 e)) (λ_ _ _ _ _ _=>Bc) (λ_ _ _ _ _ _=>(AK h a rfl (As (AJ 1) (AK d a rfl (As (AX (AJ 2) (AJ 0)) (AX (AJ 3) (AJ 0))))))))))) (AN (AU (A8 Bq rfl o AAp (BN (Bj (CI rfl (QQ rfl l (BN AH)) (B3 (own:=1) (ix:= [2,5]) (N:= ["_law_k","_law_one" ,"_law_gone" ]) rfl rfl rfl rfl rfl rfl (λ_ _ _ _ _ _=>(Kz 0 g)) (λ_ _ _ _ _ _=>Bc) (λ_ _ _ _ _ _=>(AK k a rfl (As (AX (AJ 1) (Af A6 (AJ 0) AH)) (AX (AJ 2) (AJ 0)))))))))))))) An))) (AN (AU C5))))
theorem Ri (F:Z1 K "_law_offs" Hw f U)(g:N3 P w K Z Y n)(h:KO P w K Z Y n)(e:Tx P w K Z Y n)(j:Z "int" =none)(k:Z "range" =none):Z2 P w K Z Y n f U ["_law_one","_law_other","_law_apart_here","_law_m","_law_offs_here","_law_here","_law_there"] 4 EY:=by
 have b:(["_law_k","_law_apart_here","_law_here","_law_there"] :km Str).Nodup:=by decide +kernel
 have c:(["_law_off_here"] :km Str).Nodup:=by decide +kernel
 exact Dm F DM rfl λ_ _ _ _ _ _ a d=>(AM (Ek (AZ (As (AK e a rfl (As (AJ 0) (AJ 3))) (AK e a rfl (As (AJ 1) (AJ 3))))) (CO (n:=2) rfl (Ab (Es (i:=5) d rfl (Or.inr rfl)) (Ab (Es (i:=6) d rfl (Or.inr rfl)) Bn)))) (AM (GI (i:=4) rfl d rfl (Or.inl rfl) (QQ rfl k (BN AH)) (B3 (own:=1) (ix:= [2,5,6]) (N:= ["_law_k","_law_apart_here" ,"_law_here" ,"_law_there" ]) rfl rfl rfl rfl rfl rfl (λ_ _ _ _ _ _=>(Kz 0 b)) (λ_ _ _ _ _ _=>Bc) (λ_ _ _ _ _ _=>(AK h a rfl (As (AK g a rfl (As (AX (AJ 2) (AJ 0)) (AX (AJ 3) (AJ 0)))) (AX (AJ 1) (A8 SC rfl j boot_int (BN (Dg (CT a) (AJ 0) AH (Cj _)))))))))) (AN (AU (Af A6 (AJ 4) (Bj (CI rfl (DK (AJ 4)) (B3 (own:=1) (ix:= []) (N:= ["_law_off_here"]) rfl rfl rfl rfl rfl rfl (λ_ _ _ _ _ _=>(Kz 0 c)) (λ_ _ _ _ _ _=>Bc) (λ_ _ _ _ _ _=>(AZ (As (CC (AX (AJ 0) AH)) (AX (AJ 0) AH))))))))))))
theorem ON (F:Z1 K "_law_rising" Fk f U)(e:Ec P w K Z Y n)(d:Z "len" =none):Z2 P w K Z Y n f U ["_law_moments","_law_found","_law_m","_law_at"] 1 DN:=by
 have a:(["_law_one","_law_m"] :km Str).Nodup:=by decide +kernel
 exact Dm F DM rfl λ_ _ _ _ _ _ b c=>(AM (Gx (i:=1) c rfl (Or.inl rfl) (A4 Ck)) (AM (Ca AAj rfl (DK (AJ 0)) (Es (i:=2) c rfl (Or.inr rfl)) (AM (Cs 3 c (Wd (Ap CN rfl d AAt (BN (Bj (CI rfl (DK (AJ 1)) (B3 (own:=1) (ix:= [2]) (N:= ["_law_one","_law_m" ]) rfl rfl rfl rfl rfl rfl (λ_ _ _ _ _ _=>(Kz 0 a)) (λ_ _ _ _ _ _=>(NE (Av (AK e b rfl (As (AJ 0) (AJ 1)))))) (λ_ _ _ _ _ _=>(AJ 0))))))))) (AN (Az (eF (Eu (CU (EX (CT b) (AJ 3) (Ap CN rfl d AAt (BN (AJ 1)))) (Cn (EX (GH b) (AX (AJ 1) (AJ 3)) (AJ 2)))))) (AN (EW (i:=1) AEU AEV QS (As (AJ 3) (AJ 2)))) An)))) (AN (AU (AJ 1)))))
theorem PY (F:Z1 K "_law_turns" Gs f U)(b:Ec P w K Z Y n)(e:PK P w K Z Y n):Z2 P w K Z Y n f U ["_law_one","_law_other","_law_first","_law_last","_law_inner"] 2 DB:=by
 have c:(["_law_corner","_law_first","_law_last"] :km Str).Nodup:=by decide +kernel
 exact Dm F DM rfl λ_ _ _ _ _ _ a d=>(AM (FD (i:=2) d rfl (Or.inr rfl) (MP (Av (AK b a rfl (As (AX (AX (AJ 1) AH) AH) (AX (AX (AJ 0) AH) AH)))) (AX (AX (AJ 0) AH) AH) (AX (AX (AJ 1) AH) AH))) (AM (FD (i:=3) d rfl (Or.inr rfl) (MP (Av (AK b a rfl (As (AX (AX (AJ 0) (CC AH)) AH) (AX (AX (AJ 1) (CC AH)) AH)))) (AX (AX (AJ 0) (CC AH)) AH) (AX (AX (AJ 1) (CC AH)) AH))) (AM (Az (BZ (Av (AK b a rfl (As (AJ 2) (AJ 3))))) (AN (AU (Bj (A4 Ck)))) An) (AM (GI (i:=4) rfl d rfl (Or.inl rfl) (DK (Af A6 (AJ 0) (AJ 1))) (B3 (own:=1) (ix:= [2,3]) (N:= ["_law_corner","_law_first" ,"_law_last" ]) rfl rfl rfl rfl rfl rfl (λ_ _ _ _ _ _=>(Kz 0 c)) (λ_ _ _ _ _ _=>(NE (Eu (L7 (Av (AK b a rfl (As (AJ 1) (AX (AJ 0) AH)))) (IT (Av (AK b a rfl (As (AX (AJ 0) AH) (AJ 2))))))))) (λ_ _ _ _ _ _=>(AX (AJ 0) AH)))) (AN (AU (AK e a rfl (BN (Af A6 (Bj (A4 (As (AJ 2) (AJ 3)))) (AJ 4))))))))))
theorem Kh (F:Z1 K "_law_row_holds" EK f U)(d:Ec P w K Z Y n)(g:Tu P w K Z Y n)(h:KP P w K Z Y n)(e:Z "tuple" =none):Z2 P w K Z Y n f U ["_law_one","_law_other","_law_apart_here","_law_row","_law_turns_here","_law_m","_law_begin","_law_end","_law_off_here"] 4 CJ:=by
 have c:(["_law_m","_law_begin","_law_end"] :km Str).Nodup:=by decide +kernel
 exact Dm F DM rfl λ_ _ _ _ _ _ b a=>(AM (Ek (AZ (As (A8 Bq rfl e AAp (BN (AX (AJ 3) AH))) (A8 Bq rfl e AAp (BN (AX (AJ 3) AH))))) (CO (n:=2) rfl (Ab (Es (i:=6) a rfl (Or.inr rfl)) (Ab (Es (i:=7) a rfl (Or.inr rfl)) Bn)))) (AM (GI (i:=4) rfl a rfl (Or.inl rfl) (DK (AK h b rfl (As (AJ 0) (AJ 1)))) (B3 (own:=1) (ix:= [6,7]) (N:= ["_law_m","_law_begin" ,"_law_end" ]) rfl rfl rfl rfl rfl rfl (λ_ _ _ _ _ _=>(Kz 0 c)) (λ_ _ _ _ _ _=>(NE (Eu (L7 (Av (AK d b rfl (As (AJ 1) (AJ 0)))) (IT (Av (AK d b rfl (As (AJ 0) (AJ 2))))))))) (λ_ _ _ _ _ _=>(AJ 0)))) (AM (Ca AAj rfl (DK (Af A6 (Af A6 (Bj (A4 (BN (AJ 6)))) (AJ 4)) (Bj (A4 (BN (AJ 7)))))) (EU 5 a) (AM (Cs 8 a (AX (AK g b rfl (Ak (AJ 0) (D8 (AJ 1) (AJ 2) (AJ 5)))) (AX (AJ 3) AH))) (AN (Az (EX IF (Af BK (AX (AJ 3) AH) (AX (AJ 8) AH)) (AX (AJ 8) AH)) (AN (AU Cg)) An)))) (AN (AU Cg)))))
theorem PX (F:Z1 K "_law_shows" Gr f U)(k:PH P w K Z Y n)(l:LZ P w K Z Y n)(o:KP P w K Z Y n)(p:Z "all" =none)(r:Z "isinstance" =none)(b:Z "len" =none)(s:Z "list" =none)(c:Z "tuple" =none):Z2 P w K Z Y n f U ["_law_one","_law_other","_law_apart_here","_law_paper","_law_turns_here","_law_begins","_law_ends"] 4 CW:=by
 have d:(["_law_row"] :km Str).Nodup:=by decide +kernel
 have e:(["_law_row"] :km Str).Nodup:=by decide +kernel
 have g:(["_law_row"] :km Str).Nodup:=by decide +kernel
 have h:(["_law_row","_law_one","_law_other","_law_apart_here"] :km Str).Nodup:=by decide +kernel
 exact Dm F DM rfl λ_ _ _ _ _ _ a j=>(AM (Az (Eu (CU (BZ (Av (GE "list" "tuple" rfl r ABC (AJ 3) (BG (DD (v:= .ty "list") rfl s ABY rfl) (BG (DD (v:= .ty "tuple") rfl c AAp rfl) DJ)) OC))) (Cn (eG (dy a) Cg (Bj (CI rfl (DK (AJ 3)) (B3 (own:=1) (ix:= []) (N:= ["_law_row"]) rfl rfl rfl rfl rfl rfl (λ_ _ _ _ _ _=>(Kz 0 d)) (λ_ _ _ _ _ _=>Bc) (λ_ _ _ _ _ _=>(AK k a rfl (BN (AJ 0))))))) rfl)))) (AN (AU Cg)) An) (AM (Cs 4 j (AK o a rfl (As (AJ 0) (AJ 1)))) (AM (Az (Eu (CU (EX (CT a) (Ap CN rfl b AAt (BN (AJ 4))) AH) (Cn (EX (CT a) (Ap CN rfl b AAt (BN (AJ 3))) AH)))) (AN (AU (Dg (CT a) (Ap CN rfl b AAt (BN (AJ 4))) (Ap CN rfl b AAt (BN (AJ 3))) (Cj _)))) An) (AM (GI (i:=5) rfl j rfl (Or.inl rfl) (DK (AJ 3)) (B3 (own:=1) (ix:= []) (N:= ["_law_row"]) rfl rfl rfl rfl rfl rfl (λ_ _ _ _ _ _=>(Kz 0 e)) (λ_ _ _ _ _ _=>Bc) (λ_ _ _ _ _ _=>(A8 Bq rfl c AAp (BN (AX (AJ 0) AH)))))) (AM (GI (i:=6) rfl j rfl (Or.inl rfl) (DK (AJ 3)) (B3 (own:=1) (ix:= []) (N:= ["_law_row"]) rfl rfl rfl rfl rfl rfl (λ_ _ _ _ _ _=>(Kz 0 g)) (λ_ _ _ _ _ _=>Bc) (λ_ _ _ _ _ _=>(A8 Bq rfl c AAp (BN (AX (AJ 0) AH)))))) (AM (Az (Eu (CU (EX (GH a) (AX (AJ 5) AH) (AX (AJ 4) AH)) (CU (EX (GH a) (AX (AJ 6) (CC AH)) (AX (AJ 4) (CC AH))) (Cn (EX (GH a) (GF (AJ 5) (Zj AH) Zi) (GF (AJ 6) Zi (Zj (CC AH)))))))) (AN (AU Cg)) An) (AN (AU (Ap (mT rfl) rfl p boot_all (BN (Bj (CI rfl (DK (AJ 3)) (B3 (own:=1) (ix:= [0,1,2]) (N:= ["_law_row","_law_one" ,"_law_other" ,"_law_apart_here" ]) rfl rfl rfl rfl rfl rfl (λ_ _ _ _ _ _=>(Kz 0 h)) (λ_ _ _ _ _ _=>Bc) (λ_ _ _ _ _ _=>(AK l a rfl (Ak (AJ 1) (D8 (AJ 2) (AJ 3) (AJ 0))))))))))))))))))
theorem Ky:EO ["_law_script","_law_k","_law_cell","_law_digits"] ["_law_script","_law_k"] (BP Fc):=DM
theorem Rn (F:Ta K "_law_tape" "_law_tape" Fc f U)(o:Z "abs" =none)(u:Z "int" =none)(v:Z "len" =none):Eg P w K Z Y Q2 (n+1) f U ["_law_script","_law_k"] (CZ K 2 Ng):=by
 have j:=Ky.nd;refine F.ok Ky (λvs H Q E h=> ?_) (λx A outer s H vs Q E B h=> ?_)
 .obtain ⟨T,M,xs,y,_,_,r,hl,_⟩:=h;rw[r.length,hl] <;> rfl
 obtain⟨T,M,xs,y,va,_,r,hl,e,hQ⟩:=h;unfold Ng at e;split at e <;> first | exact e.elim|skip
 rename_i d k;obtain⟨⟨k0,C⟩,e⟩:=e;cases r with
 | cons r l=>
 cases l with
 | cons r2 l=>
 cases l;cases r2;obtain⟨a,rfl,t⟩:=dh r;refine⟨_,(CB (Ff (i:=2) j rfl (Or.inl rfl) BC)
  (CB (X0 (NB jZ (pv 1) (Ko KI rfl v AAt (BG (pv 0) DJ)) (Cj _)) (FW (Ff (i:=2) j rfl (Or.inl rfl) (MM FU (pv 0) (pv 1) (λ_ _=>rfl)))) NA)
  (CB (Ff (i:=3) j rfl (Or.inl rfl) (CS IP (Ko Nt rfl o ABl (BG (pv 2) DJ)) (IQ P2 rfl u PyProof.Rows.boot_int (BG (Xx jX (Ko Nt rfl o ABl (BG (pv 2) DJ)) (CS cn BC BC) (Cj _)) DJ))))
  (FW (OV (c8 (BG (pv 3) (BG (CS Gf (CS IP (CS Gf (CS JU (CS JU (pv 2) (CS IP BC (pv 1))) BC) BC) BC) BC) DJ)))))))), ?_⟩
 have hl:(d.map V.int).length=d.length:=AAa _;have g:∀(c:Int) (p:kf),H p=none->Q (.ref p) (upd H p (.lst [.int ((if c<0 then -c else c)*(if decide ((10:Int)^18<=(if c<0 then -c else c)) then 1 else 0)), .int ((c+7919*k+1) % 2147483647*48271 % 2147483647)])):=λc p hp=>
  hQ _ .tape (λb=>T b\/b=p) _ (eU va.tp hp (Int.mul_nonneg (by split <;> omega) (ya _)) (ACl _ (by decide)) (ACm _ (by decide))) (.tape (.inr rfl)) e
 refine⟨_,rfl,_,rfl,a,_,rfl, .inl t,_,_,rfl,rfl,_,rfl, ?_⟩;refine pO (λc=> ?_) (λc=> ?_)
 .have z:k<(((d.map V.int).length:Nat):Int):=AA6 c;rw[hl] at z;have hk:k.toNat<d.length:=by omega
  have hv:HK (d.map V.int) k=some (.int d[k.toNat]):=by
   have q:HK (d.map V.int) ((k.toNat:Nat):Int)=some (.int d[k.toNat]):=B8 (by rw[AAx,AAm hk] <;> rfl)
   rwa [show ((k.toNat:Nat):Int)=k by omega] at q
  refine⟨_,rfl,_,rfl,a,_,_,_,rfl,rfl,t,hv, ?_⟩;refine⟨_,rfl,_,rfl,_,rfl,_,rfl,_,_,rfl,rfl,⟨by decide,by decide,by decide⟩,_,_,rfl,rfl, .inr ⟨_,rfl,_,_,rfl,rfl, .inl (.inr (v9 _)), ?_⟩⟩;exact⟨_,rfl,_,rfl,_,rfl,_,_,rfl,rfl, .inl (.inl ⟨by decide,by decide⟩),_,_,rfl,rfl,_,_,rfl,rfl,_,_,rfl,rfl,(show (0:Int)<2147483647 by decide),_,_,rfl,rfl, .inl (.inr ⟨by decide,by decide⟩),_,_,rfl,rfl,(show (0:Int)<2147483647 by decide),(show 2<=sizeLine by decide),λp hp=>g _ p hp⟩
 .refine ⟨_,rfl,_,rfl,_,rfl,_,rfl,_,_,rfl,rfl,⟨by decide,by decide,by decide⟩,_,_,rfl,rfl, .inr ⟨_,rfl,_,_,rfl,rfl, .inl (.inr (v9 _)), ?_⟩⟩;exact⟨_,rfl,_,rfl,_,rfl,_,_,rfl,rfl, .inl (.inl ⟨by decide,by decide⟩),_,_,rfl,rfl,_,_,rfl,rfl,_,_,rfl,rfl,(show (0:Int)<2147483647 by decide),_,_,rfl,rfl, .inl (.inr ⟨by decide,by decide⟩),_,_,rfl,rfl,(show (0:Int)<2147483647 by decide),(show 2<=sizeLine by decide),λp hp=>g 0 p hp⟩
theorem PR (F:Z1 K "_law_place" Go f U)(b:CP P w K Z Y n)(c:C2 P w K Z Y n):Z2 P w K Z Y n f U ["_law_tape_here","_law_kind"] 1 Bi:=Dm F DM rfl λ_ _ _ _ _ _ a d=>(AM (Cs 1 d (AK b a rfl (As (AJ 0) AH))) (AM (Az (EX IF (AJ 1) AH) (AN (AU (AZ (As (Af Cm (AK b a rfl (As (AJ 0) AH)) AH) AH)))) An) (AM (Az (EX (CT a) (AJ 1) AH) (AN (AU (AK c a rfl (As (Af Cm (AK b a rfl (As (AJ 0) AH)) AH) AH)))) An) (AN (AU (AK c a rfl (As (Af Cm (AK b a rfl (As (AJ 0) AH)) AH) AH)))))))
theorem Rl (F:Z1 K "_law_span" Hz f U)(b:CP P w K Z Y n)(c:C2 P w K Z Y n):Z2 P w K Z Y n f U ["_law_tape_here","_law_way"] 1 FQ:=Dm F DM rfl λ_ _ _ _ _ _ a d=>(AM (Cs 1 d (AK b a rfl (As (AJ 0) AH))) (AM (Az (EX IF (AJ 1) AH) (AN (AU (AZ (As (Af A6 AH (AK b a rfl (As (AJ 0) AH))) AH)))) An) (AN (AU (AK c a rfl (As (Af A6 AH (AK b a rfl (As (AJ 0) AH))) (Af Cm (AJ 1) AH)))))))
theorem Rk (F:Z1 K "_law_plan" Hy f U)(d:CP P w K Z Y n)(c:RQ P w K Z Y n)(e:Tw P w K Z Y n)(g:Ga P w K Z Y n)(h:Z "len" =none)(j:Z "tuple" =none):Z2 P w K Z Y n f U ["_law_tape_here","_law_many","_law_m","_law_spot_here","_law_corners","_law_way"] 1 D0:=Dm F DM rfl λ_ _ _ _ _ _ a b=>(AM (Cs 1 b (Af A6 AH (AK d a rfl (As (AJ 0) AH)))) (AM (Az (EX (CT a) (AK d a rfl (As (AJ 0) AH)) AH) (AN (Cs 1 b (AX (Bj (A4 (Ak AH (D8 AH AH AH)))) (AK d a rfl (As (AJ 0) AH))))) An) (AM (Cs 2 b (AZ (As (AK d a rfl (As (AJ 0) AH)) AH))) (AM (Cs 3 b (Bj (A4 (D8 (AK c a rfl (BN (AJ 0))) (AK c a rfl (BN (AJ 0))) (AK c a rfl (BN (AJ 0))))))) (AM (Gx (i:=4) b rfl (Or.inl rfl) (A4 (BN (AZ (Ak (AJ 2) (D8 (AX (AJ 3) AH) (AX (AJ 3) AH) (AX (AJ 3) AH))))))) (AM (K1 AAj (EX IF (Ap CN rfl h AAt (BN (AJ 4))) (AJ 1)) (AM (Cs 2 b (AK g a rfl (As (AJ 2) (AK e a rfl (BN (AJ 0)))))) (AM (Cs 5 b (AK d a rfl (As (AJ 0) AH))) (AM (Az (EX QV (AJ 5) AH) (AN (Cs 3 b (Bj (A4 (D8 (AK c a rfl (BN (AJ 0))) (AK c a rfl (BN (AJ 0))) (AK c a rfl (BN (AJ 0)))))))) (AN (Az (EX QV (AJ 5) AH) (AN (Cs 3 b (Af A6 (Af A6 (GF (AJ 3) Zi (Zj (Af Cm (AJ 5) AH))) (Bj (A4 (BN (AK c a rfl (BN (AJ 0))))))) (GF (AJ 3) (Zj (AJ 5)) Zi)))) An))) (AN (EW (i:=4) ABm ABn Dp (BN (AZ (Ak (AJ 2) (D8 (AX (AJ 3) AH) (AX (AJ 3) AH) (AX (AJ 3) AH))))))))))) (AN (AU (A8 Bq rfl j AAp (BN (AJ 4)))))))))))
theorem Kk (F:Z1 K "_law_wide_pair" EL f U)(c:CP P w K Z Y n)(j:Tv P w K Z Y n)(e:Hi P w K Z Y n)(k:Ga P w K Z Y n)(g:Z "int" =none)(l:Z "range" =none)(h:Z "tuple" =none):Z2 P w K Z Y n f U ["_law_tape_here","_law_apart_here","_law_plan_here","_law_corners","_law_side","_law_corner","_law_by","_law_other"] 2 CK:=by
 have d:(["_law_j","_law_corner","_law_by"] :km Str).Nodup:=by decide +kernel
 exact Dm F DM rfl λ_ _ _ _ _ _ a b=>(AM (Cs 2 b (AK j a rfl (BN (AJ 0)))) (AM (Gx (i:=3) b rfl (Or.inl rfl) (A4 Ck)) (AM (Cs 4 b (AK c a rfl (As (AJ 0) AH))) (AM (Ca AAj rfl (DK (AJ 2)) (Es (i:=5) b rfl (Or.inr rfl)) (AM (Gx (i:=6) b rfl (Or.inr rfl) (A4 (D8 (AZ (As AH AH)) (AZ (As AH AH)) (AZ (As AH AH))))) (AM (Az (EX (CT a) (AK c a rfl (As (AJ 0) AH)) AH) (AM (Cs 7 b (AK c a rfl (As (AJ 0) AH))) (AN (d9 (i:=6) (AJ 7) (AK e a rfl (As (AX (AJ 1) (A8 SC rfl g boot_int (BN (Dg (CT a) (AJ 7) AH (Cj _))))) (AX (Bj (A4 (D8 (AZ (As AH AH)) (AZ (As (CC AH) AH)) (AZ (As AH AH))))) (AK c a rfl (As (AJ 0) AH)))))))) An) (AM (d9 (i:=6) (AJ 4) (AK e a rfl (As (AX (AJ 1) (A8 SC rfl g boot_int (BN (Dg (CT a) (AJ 4) AH (Cj _))))) (AX (Bj (A4 (D8 (AZ (As AH AH)) (AZ (As AH AH)) (AZ (As AH AH))))) (AK c a rfl (As (AJ 0) AH)))))) (AN (EW (i:=3) ABm ABn Dp (BN (Wd (Af A6 (AZ (BN (AX (AJ 5) AH))) (A8 Bq rfl h AAp (BN (Bj (CI rfl (QQ rfl l (BN AH)) (B3 (own:=1) (ix:= [5,6]) (N:= ["_law_j","_law_corner" ,"_law_by" ]) rfl rfl rfl rfl rfl rfl (λ_ _ _ _ _ _=>(Kz 0 d)) (λ_ _ _ _ _ _=>Bc) (λ_ _ _ _ _ _=>(AK k a rfl (As (AX (AJ 1) (Af A6 (AJ 0) AH)) (AX (AJ 2) (AJ 0))))))))))))))))))) (AN (AU (AZ (As (AJ 2) (A8 Bq rfl h AAp (BN (AJ 3)))))))))))
theorem ZI (F:Z1 K "common" Ob f U):Z2 P w K Z Y n f U ["one","other"] 2 Fy:=Dm F DM rfl λ_ _ _ _ _ _ a b=>(AM (K1 AAj (EX (GH a) (AJ 1) AH) (AN (Wj (i:=0) (j:=1) rfl b rfl rfl (by decide) rfl rfl (As (AJ 1) (Af Sa (AJ 0) (AJ 1))) rfl))) (AN (AU (AJ 0))))
theorem g9 (F:Z1 K "part" Wb f U)(c:N4 P w K Z Y n)(a:Z "abs" =none):Z2 P w K Z Y n f U ["top","bottom","shared"] 2 Ha:=Dm F DM rfl λ_ _ _ _ _ _ d b=>(AM (Cs 2 b (AK c d rfl (As (Ap L4 rfl a ABl (BN (AJ 0))) (Ap L4 rfl a ABl (BN (AJ 1)))))) (AM (Az (EX IF (AJ 1) AH) (AN (Cs 2 b (CC (AJ 2)))) An) (AN (AU (AZ (As (Af Et (AJ 0) (AJ 2)) (Af Et (AJ 1) (AJ 2))))))))
theorem g6 (F:Z1 K "over" Wa f U)(a:N6 P w K Z Y n):Z2 P w K Z Y n f U ["one","other"] 2 JF:=Dm F DM rfl λ_ _ _ _ _ _ b _=>(AN (AU (AK a b rfl (As (Af BK (AX (AJ 0) AH) (AX (AJ 1) AH)) (Af BK (AX (AJ 0) AH) (AX (AJ 1) AH))))))
theorem Ln (F:Z1 K "shared_bottom" Eh f U)(b:N4 P w K Z Y n):Z2 P w K Z Y n f U ["numbers","told","top","bottom"] 1 Ce:=Dm F DM rfl λ_ _ _ _ _ _ c a=>(AM (Cs 1 a AH) (AM (Ca AAj rfl (DK (AJ 0)) (CO (n:=2) rfl (Ab (EU 2 a) (Ab (EU 3 a) Bn))) (AN (d8 (i:=1) a rfl (Or.inl rfl) (Af Et (AJ 3) (AK b c rfl (As (AJ 1) (AJ 3)))) mY))) (AN (AU (AJ 1)))))
theorem UU (F:Z1 K "lines_of" Je f U)(b:Mj P w K Z Y n)(c:Z "zip" =none):Z2 P w K Z Y n f U ["first","last","bottom","lines","former","latter","low","high"] 2 E2:=Dm F DM rfl λ_ _ _ _ _ _ d a=>(AM (Cs 2 a (AK b d rfl (BN (Af A6 (AJ 0) (AJ 1))))) (AM (Gx (i:=3) a rfl (Or.inl rfl) (A4 Ck)) (AM (Ca AAj rfl (mZ rfl c (As (AJ 0) (AJ 1))) (CO (n:=2) rfl (Ab (EU 4 a) (Ab (EU 5 a) Bn))) (AM (Cs 6 a (Af BK (AX (AJ 4) AH) (Af Et (AJ 2) (AX (AJ 4) AH)))) (AM (Cs 7 a (Af BK (AX (AJ 5) AH) (Af Et (AJ 2) (AX (AJ 5) AH)))) (AM (EW (i:=3) ABm ABn Dp (BN (AZ (As (AJ 6) (AJ 7))))) (AN (EW (i:=3) ABm ABn Dp (BN (AZ (As (CC (AJ 6)) (CC (AJ 7))))))))))) (AN (AU (AZ (As (AJ 2) (AJ 3))))))))
theorem cW (F:Z1 K "minus" R7 f U)(a:N6 P w K Z Y n):Z2 P w K Z Y n f U ["one","other"] 2 D3:=Dm F DM rfl λ_ _ _ _ _ _ b _=>(AN (AU (AK a b rfl (As (Af Cm (Af BK (AX (AJ 0) AH) (AX (AJ 1) AH)) (Af BK (AX (AJ 1) AH) (AX (AJ 0) AH))) (Af BK (AX (AJ 0) AH) (AX (AJ 1) AH))))))
theorem WM (F:Z1 K "size_of" L1 f U):Z2 P w K Z Y n f U ["apart","side"] 2 EH:=Dm F DM rfl λ_ _ _ _ _ _ a _=>(AN (AU (MP (EX (CT a) (AJ 1) AH) (AX (AJ 0) AH) (AX (AJ 0) AH))))
theorem ZH (F:Z1 K "before" Oa f U):Z2 P w K Z Y n f U ["one","other"] 2 Ao:=Dm F DM rfl λ_ _ _ _ _ _ _ _=>(AN (AU (Dg IF (Af BK (AX (AJ 0) AH) (AX (AJ 1) AH)) (Af BK (AX (AJ 1) AH) (AX (AJ 0) AH)) (Cj _))))
theorem hG (F:Z1 K "plus" Wc f U)(a:N6 P w K Z Y n):Z2 P w K Z Y n f U ["one","other"] 2 Hc:=Dm F DM rfl λ_ _ _ _ _ _ b _=>(AN (AU (AK a b rfl (As (Af A6 (Af BK (AX (AJ 0) AH) (AX (AJ 1) AH)) (Af BK (AX (AJ 1) AH) (AX (AJ 0) AH))) (Af BK (AX (AJ 0) AH) (AX (AJ 1) AH))))))
theorem cX (F:Z1 K "times" R8 f U)(a:N6 P w K Z Y n):Z2 P w K Z Y n f U ["one","other"] 2 FR:=Dm F DM rfl λ_ _ _ _ _ _ b _=>(AN (AU (AK a b rfl (As (Af BK (AX (AJ 0) AH) (AX (AJ 1) AH)) (Af BK (AX (AJ 0) AH) (AX (AJ 1) AH))))))
theorem Mp (F:Z1 K "spot_between" FC f U)(c:M3 P w K Z Y n)(d:Vu P w K Z Y n)(e:Vv P w K Z Y n)(g:RS P w K Z Y n)(h:Z "tuple" =none)(j:Z "zip" =none):Z2 P w K Z Y n f U ["former","latter","m","share"] 3 D4:=by
 have b:(["low","high","share"] :km Str).Nodup:=by decide +kernel
 exact Dm F DM rfl λ_ _ _ _ _ _ a k=>(AM (FD (i:=3) k rfl (Or.inr rfl) (AK d a rfl (As (AK c a rfl (As (AJ 2) (AX (AJ 0) AH))) (AK c a rfl (As (AX (AJ 1) AH) (AX (AJ 0) AH)))))) (AN (AU (A8 Bq rfl h AAp (BN (Bj (CI rfl (mZ rfl j (As (GF (AJ 0) (Zj AH) Zi) (GF (AJ 1) (Zj AH) Zi))) (B3 (own:=2) (ix:= [3]) (N:= ["low","high" ,"share" ]) rfl rfl rfl rfl rfl rfl (λ_ _ _ _ _ _=>(Wi (n:=2) rfl (GG (Kz 0 b) (GG (Kz 1 b) SX)))) (λ_ _ _ _ _ _=>Bc) (λ_ _ _ _ _ _=>(AK e a rfl (As (AJ 0) (AK g a rfl (As (AJ 2) (AK c a rfl (As (AJ 1) (AJ 0))))))))))))))))
theorem WN (F:Z1 K "spot_at" L3 f U)(b:DS P w K Z Y n)(c:N7 P w K Z Y n)(d:Z "len" =none)(e:Z "range" =none):Z2 P w K Z Y n f U ["plan","m","at"] 2 EI:=Dm F DM rfl λ_ _ _ _ _ _ a g=>(AM (Az (Av (AK b a rfl (As (AJ 1) (AX (AX (AJ 0) AH) AH)))) (AN (AU C5)) An) (AM (Ca AAj rfl (jg rfl e (As AH (Ap CN rfl d AAt (BN (AJ 0))))) (EU 2 g) (AN (Az (BZ (Av (AK b a rfl (As (AX (AX (AJ 0) (AJ 2)) AH) (AJ 1))))) (AN (AU (AK c a rfl (D8 (AX (AJ 0) (Af Cm (AJ 2) AH)) (AX (AJ 0) (AJ 2)) (AJ 1))))) An))) (AN (AU C5))))
theorem WJ (F:Z1 K "offs_at" Ly f U)(e:M3 P w K Z Y n)(g:Vu P w K Z Y n)(h:QE P w K Z Y n)(c:QF P w K Z Y n)(j:Z "range" =none):Z2 P w K Z Y n f U ["one","other","apart","m","here","there"] 4 F0:=by
 have b:(["side","apart","here","there"] :km Str).Nodup:=by decide +kernel
 exact Dm F DM rfl λ_ _ _ _ _ _ a d=>(AM (FD (i:=4) d rfl (Or.inr rfl) (AK c a rfl (As (AJ 0) (AJ 3)))) (AM (FD (i:=5) d rfl (Or.inr rfl) (AK c a rfl (As (AJ 1) (AJ 3)))) (AN (AU (Bj (CI rfl (QQ rfl j (BN AH)) (B3 (own:=1) (ix:= [2,4,5]) (N:= ["side","apart" ,"here" ,"there" ]) rfl rfl rfl rfl rfl rfl (λ_ _ _ _ _ _=>(Kz 0 b)) (λ_ _ _ _ _ _=>Bc) (λ_ _ _ _ _ _=>(AK g a rfl (As (AK e a rfl (As (AX (AJ 2) (AJ 0)) (AX (AJ 3) (AJ 0)))) (AK h a rfl (As (AJ 1) (AJ 0)))))))))))))
theorem WF (F:Z1 K "greater" Lu f U)(a:DS P w K Z Y n):Z2 P w K Z Y n f U ["one","other"] 2 Cv:=Dm F DM rfl λ_ _ _ _ _ _ b _=>(AN (AU (MP (Av (AK a b rfl (As (AJ 0) (AJ 1)))) (AJ 1) (AJ 0))))
theorem ZK (F:Z1 K "lesser" Od f U)(a:DS P w K Z Y n):Z2 P w K Z Y n f U ["one","other"] 2 E1:=Dm F DM rfl λ_ _ _ _ _ _ b _=>(AN (AU (MP (Av (AK a b rfl (As (AJ 1) (AJ 0)))) (AJ 1) (AJ 0))))
theorem UW (F:Z1 K "together" Jf f U)(c:DS P w K Z Y n)(d:Yq P w K Z Y n)(e:T8 P w K Z Y n):Z2 P w K Z Y n f U ["one","other","begin","end"] 2 Dd:=Dm F DM rfl λ_ _ _ _ _ _ a b=>(AM (Cs 2 b (AK d a rfl (As (AX (AX (AJ 0) AH) AH) (AX (AX (AJ 1) AH) AH)))) (AM (Cs 3 b (AK e a rfl (As (AX (AX (AJ 0) (CC AH)) AH) (AX (AX (AJ 1) (CC AH)) AH)))) (AN (AU (MP (Av (AK c a rfl (As (AJ 2) (AJ 3)))) (AZ (As (AJ 2) (AJ 3))) C5)))))
theorem JS (F:Z1 K "corners_between" D6 f U)(b:DS P w K Z Y n)(d:Z "tuple" =none):Z2 P w K Z Y n f U ["plan","begin","end"] 3 B6:=by
 have a:(["corner","begin","end"] :km Str).Nodup:=by decide +kernel
 exact Dm F DM rfl λ_ _ _ _ _ _ c _=>(AN (AU (Bj (CI rfl (DK (AJ 0)) (B3 (own:=1) (ix:= [1,2]) (N:= ["corner","begin" ,"end" ]) rfl rfl rfl rfl rfl rfl (λ_ _ _ _ _ _=>(Kz 0 a)) (λ_ _ _ _ _ _=>(NE (Eu (L7 (Av (AK b c rfl (As (AJ 1) (AX (AJ 0) AH)))) (IT (Av (AK b c rfl (As (AX (AJ 0) AH) (AJ 2))))))))) (λ_ _ _ _ _ _=>(A8 Bq rfl d AAp (BN (AJ 0)))))))))
theorem OO (F:Z1 K "count_below" Fl f U)(b:DS P w K Z Y n)(c:Z "len" =none):Z2 P w K Z Y n f U ["numbers","number","low","high","middle"] 2 DP:=Dm F DM rfl λ_ _ _ _ _ _ d a=>(AM (Cs 2 a AH) (AM (Cs 3 a (Ap CN rfl c AAt (BN (AJ 0)))) (AM (K1 AAj (EX IF (AJ 2) (AJ 3)) (AM (Cs 4 a (Af Et (Af A6 (AJ 2) (AJ 3)) AH)) (AN (Az (Av (AK b d rfl (As (AX (AJ 0) (AJ 4)) (AJ 1)))) (AN (Cs 2 a (Af A6 (AJ 4) AH))) (AN (Cs 3 a (AJ 4))))))) (AN (AU (AJ 2))))))
theorem ZN (F:Z1 K "rising" Og f U)(c:PM P w K Z Y n)(d:Z "len" =none):Z2 P w K Z Y n f U ["numbers","told","number","at"] 1 F4:=Dm F DM rfl λ_ _ _ _ _ _ a b=>(AM (Gx (i:=1) b rfl (Or.inl rfl) (A4 Ck)) (AM (Ca AAj rfl (DK (AJ 0)) (EU 2 b) (AM (Cs 3 b (Wd (AK c a rfl (As (AJ 1) (AJ 2))))) (AN (Az (eF (Eu (CU (EX (CT a) (AJ 3) (Ap CN rfl d AAt (BN (AJ 1)))) (Cn (EX (GH a) (AX (AJ 1) (AJ 3)) (AJ 2)))))) (AN (EW (i:=1) AEU AEV QS (As (AJ 3) (AJ 2)))) An)))) (AN (AU (AJ 1)))))
theorem cY (F:Z1 K "turns" R9 f U)(c:KQ P w K Z Y n)(d:UA P w K Z Y n):Z2 P w K Z Y n f U ["one","other","begin","end","corners"] 4 IK:=by
 have a:(["corner"] :km Str).Nodup:=by decide +kernel
 exact Dm F DM rfl λ_ _ _ _ _ _ b e=>(AM (Cs 4 e (Af A6 (AK c b rfl (D8 (AJ 0) (AJ 2) (AJ 3))) (AK c b rfl (D8 (AJ 1) (AJ 2) (AJ 3))))) (AN (AU (AK d b rfl (BN (Af A6 (Bj (A4 (As (AJ 2) (AJ 3)))) (Bj (CI rfl (DK (AJ 4)) (B3 (own:=1) (ix:= []) (N:= ["corner"]) rfl rfl rfl rfl rfl rfl (λ_ _ _ _ _ _=>(Kz 0 a)) (λ_ _ _ _ _ _=>Bc) (λ_ _ _ _ _ _=>(AX (AJ 0) AH)))))))))))
theorem ZM (F:Z1 K "pieces" Of f U)(d:Vt P w K Z Y n)(e:Yu P w K Z Y n)(g:N8 P w K Z Y n)(h:Xa P w K Z Y n)(j:Z "len" =none)(k:Z "range" =none):Z2 P w K Z Y n f U ["one","other","apart","span","moments","offs","told","at","bottom","lines"] 3 F3:=by
 have c:(["m","one","other","apart"] :km Str).Nodup:=by decide +kernel
 exact Dm F DM rfl λ_ _ _ _ _ _ b a=>(AM (Cs 3 a (AK g b rfl (As (AJ 0) (AJ 1)))) (AM (Az (EX SZ (AJ 3) C5) (AN (AU (Bj (A4 Ck)))) An) (AM (Cs 4 a (AK h b rfl (Ak (AJ 0) (D8 (AJ 1) (AX (AJ 3) AH) (AX (AJ 3) AH))))) (AM (GI (i:=5) rfl a rfl (Or.inl rfl) (DK (AJ 4)) (B3 (own:=1) (ix:= [0,1,2]) (N:= ["m","one" ,"other" ,"apart" ]) rfl rfl rfl rfl rfl rfl (λ_ _ _ _ _ _=>(Kz 0 c)) (λ_ _ _ _ _ _=>Bc) (λ_ _ _ _ _ _=>(AK e b rfl (Ak (AJ 1) (D8 (AJ 2) (AJ 3) (AJ 0))))))) (AM (Gx (i:=6) a rfl (Or.inl rfl) (A4 Ck)) (AM (Ca AAj rfl (jg rfl k (As AH (Ap CN rfl j AAt (BN (AJ 4))))) (EU 7 a) (AM (Ek (AK d b rfl (As (AX (AJ 5) (Af Cm (AJ 7) AH)) (AX (AJ 5) (AJ 7)))) (CO (n:=2) rfl (Ab (EU 8 a) (Ab (EU 9 a) Bn)))) (AN (EW (i:=6) ABm ABn Dp (BN (AZ (Ak (AX (AJ 4) (Af Cm (AJ 7) AH)) (D8 (AX (AJ 4) (AJ 7)) (AJ 8) (AJ 9))))))))) (AN (AU (AJ 6)))))))))
theorem WH (F:Z1 K "longest" Lw f U)(b:DS P w K Z Y n)(c:Z "enumerate" =none):Z2 P w K Z Y n f U ["bottom","lines","told","at","first","last","share"] 2 Ey:=Dm F DM rfl λ_ _ _ _ _ _ d a=>(AM (Cs 2 a C5) (AM (Ca AAj rfl (uT rfl c (BN (AJ 1))) (CO (n:=2) rfl (Ab (EU 3 a) (Ab (CO (n:=2) rfl (Ab (EU 4 a) (Ab (EU 5 a) Bn))) Bn))) (AN (Az (EX QU (AJ 4) (AJ 0)) (AM (Cs 6 a (MP (EX QU (AJ 5) (AJ 0)) (AZ (As AH AH)) (AZ (As (Af Cm (AJ 4) (AJ 0)) (Af Cm (AJ 4) (AJ 5)))))) (AN (Az (Eu (CU (EX SZ (AJ 2) C5) (Cn (Av (AK b d rfl (As (AX (AJ 2) AH) (AJ 6))))))) (AN (Cs 2 a (AZ (As (AJ 3) (AJ 6))))) An))) An))) (AN (AU (AJ 2)))))
theorem Ro (F:Z1 K "moment_at" IB f U)(b:M3 P w K Z Y n)(c:N6 P w K Z Y n)(d:Vv P w K Z Y n)(e:RS P w K Z Y n):Z2 P w K Z Y n f U ["begin","end","share"] 3 Cz:=Dm F DM rfl λ_ _ _ _ _ _ a _=>(AN (AU (AK d a rfl (As (AJ 0) (AK e a rfl (As (AK c a rfl (As (AX (AJ 2) AH) (AX (AJ 2) AH))) (AK b a rfl (As (AJ 1) (AJ 0)))))))))
theorem ZO (F:Z1 K "row_of" Oh f U):Z2 P w K Z Y n f U ["begin","end","at","sign"] 3 E3:=Dm F DM rfl λ_ _ _ _ _ _ a b=>(AM (Cs 3 b (MP (EX (CT a) (Af Sa (AJ 2) AH) AH) AH (CC AH))) (AN (AU (AZ (Ak (AJ 0) (D8 (AJ 1) (Af Et (AJ 2) AH) (AJ 3)))))))
theorem WL (F:Z1 K "rows_of" L0 f U)(e:Ys P w K Z Y n)(g:MH P w K Z Y n)(d:bP P w K Z Y n):Z2 P w K Z Y n f U ["piece","latter","cut","begin","end","bottom","lines","former","share"] 1 F5:=by
 have c:(["first","last"] :km Str).Nodup:=by decide +kernel
 exact Dm F DM rfl λ_ _ _ _ _ _ b a=>(AM (Ek (AJ 0) (CO (n:=4) rfl (Ab (EU 3 a) (Ab (EU 4 a) (Ab (EU 5 a) (Ab (EU 6 a) Bn)))))) (AM (Ek (AK e b rfl (As (AJ 5) (AJ 6))) (CO (n:=2) rfl (Ab (EU 7 a) (Ab (EU 8 a) Bn)))) (AM (Az (EX (CT b) (AJ 8) (AZ (As AH AH))) (AN (AU (Bj (A4 (BN (AK d b rfl (D8 (AJ 3) (AJ 4) (AJ 7)))))))) An) (AM (Cs 1 a (AX (AK e b rfl (As (AJ 5) (Bj (CI rfl (DK (AJ 6)) (B3 (own:=2) (ix:= []) (N:= ["first","last" ]) rfl rfl rfl rfl rfl rfl (λ_ _ _ _ _ _=>(Wi (n:=2) rfl (GG (Kz 0 c) (GG (Kz 1 c) SX)))) (λ_ _ _ _ _ _=>Bc) (λ_ _ _ _ _ _=>(AZ (As (AJ 1) (AJ 0))))))))) AH)) (AM (Cs 2 a (AK g b rfl (D8 (AJ 3) (AJ 4) (AJ 8)))) (AN (AU (Bj (A4 (As (AK d b rfl (D8 (AJ 3) (AJ 2) (AJ 7))) (AK d b rfl (D8 (AJ 2) (AJ 4) (AJ 1)))))))))))))
theorem WI (F:Z1 K "near_in" Lx f U)(c:DS P w K Z Y n)(e:T8 P w K Z Y n)(d:MH P w K Z Y n):Z2 P w K Z Y n f U ["piece","low","held","high","begin","end","bottom","lines","first","last","share"] 1 Fz:=Dm F DM rfl λ_ _ _ _ _ _ b a=>(AM (Ek (AJ 0) (CO (n:=4) rfl (Ab (EU 4 a) (Ab (EU 5 a) (Ab (EU 6 a) (Ab (EU 7 a) Bn)))))) (AM (Cs 1 a (AZ (As AH AH))) (AM (Cs 2 a AH) (AM (Cs 3 a (AZ (As AH AH))) (AM (Ca AAj rfl (DK (AJ 7)) (CO (n:=2) rfl (Ab (EU 8 a) (Ab (EU 9 a) Bn))) (AM (Az (Eu (L7 (EX QU (AJ 8) (AJ 6)) (IT (EX QU (AJ 9) (AJ 6))))) (AN (AU (Bj (A4 Ck)))) An) (AN (Az (EX QU (AJ 8) (AJ 6)) (AM (Cs 10 a (AZ (As (Af Cm (AJ 8) (AJ 6)) (Af Cm (AJ 8) (AJ 9))))) (AN (Az (BZ (Av (AK c b rfl (As (AJ 10) (AJ 1))))) (AM (Cs 1 a (AJ 10)) (AN (Cs 2 a AH))) An))) (AN (Az (EX QV (AJ 9) (AJ 6)) (AN (Cs 3 a (AK e b rfl (As (AJ 3) (AZ (As (Af Cm (AJ 6) (AJ 8)) (Af Cm (AJ 9) (AJ 8)))))))) An)))))) (AM (Az (BZ (Av (AK c b rfl (As (AJ 1) (AJ 3))))) (AN (AU (Bj (A4 Ck)))) An) (AN (AU (Bj (A4 (BN (AZ (D8 (AK d b rfl (D8 (AJ 4) (AJ 5) (AJ 1))) (AJ 2) (AK d b rfl (D8 (AJ 4) (AJ 5) (AJ 3))))))))))))))))
theorem MO:EO ["stretches","steps","begin","held","end","first","last"] ["stretches"] (BP Gu):=DM
theorem UV (F:Ta K "steps_of" "steps_of" Gu f U):Eg P w K Z Y Q2 (n+1) f U ["stretches"] (CZ K 1 IJ):=by
 have a:=MO.nd;refine F.ok MO (λvs H Q E h=> ?_) (λb A outer s H vs Q E c h=> ?_)
 .obtain ⟨T,M,xs,d,_,_,r,hl,_⟩:=h;rw[r.length,hl] <;> rfl
 obtain⟨T,M,xs,d,va,_,r,hl,e,hQ⟩:=h;have hu:=iW c;obtain⟨x,ys,m,rfl,hx,hz,g,hq⟩:=VP e;cases r with
 | cons r j=> cases j;refine⟨_,(CB (Ff (i:=1) a rfl (Or.inl rfl) iF) (CB (dD AAj rfl (dB (pv 0)) (WQ rfl (Hr (Kq (i:=2) a rfl (Or.inl rfl)) (Hr (Kq (i:=3) a rfl (Or.inl rfl)) (Hr (Kq (i:=4) a rfl (Or.inl rfl)) Rt)))) (CB (Ff (i:=5) a rfl (Or.inl rfl) (OT (BG (pv 2) (BG (CS WO BC (pv 3)) DJ)))) (CB (X1 hu (pv 1) (pv 5) (CS JU (Ud hu (pv 1) (pv 5) BC ⟨rfl,rfl,rfl,rfl⟩) BC) rfl) (FW (X0 (NB Xs (pv 4) c9 (Cj _)) (CB (Ff (i:=6) a rfl (Or.inl rfl) (OT (BG (pv 4) (BG BC DJ)))) (FW (X1 hu (pv 1) (pv 6) (CS WO (Ud hu (pv 1) (pv 6) BC ⟨rfl,rfl,rfl,rfl⟩) BC) rfl))) NA))))) (FW (OV (pv 1))))), ?_⟩;exact Wo va r hx hz g λp k ex l hp=>hQ _ (.dct m) T k (iw va ex) (iU va l hp) hq
theorem ZL (F:Z1 K "levels" Oe f U)(d:UA P w K Z Y n)(e:Vw P w K Z Y n)(g:Z "list" =none):Z2 P w K Z Y n f U ["stretches","steps","told","count","moment","side"] 1 HZ:=by
 have b:(["moment","side"] :km Str).Nodup:=by decide +kernel
 exact Dm F DM rfl λ_ _ _ _ _ _ c a=>(AM (Cs 1 a (AK e c rfl (BN (AJ 0)))) (AM (Gx (i:=2) a rfl (Or.inl rfl) (A4 Ck)) (AM (Cs 3 a AH) (AM (Ca AAj rfl (DK (AK d c rfl (BN (Bj (CI rfl (DK (Bj (dj c rfl g ABY (BN (AJ 1))))) (B3 (own:=2) (ix:= []) (N:= ["moment","side" ]) rfl rfl rfl rfl rfl rfl (λ_ _ _ _ _ _=>(Wi (n:=2) rfl (GG (Kz 0 b) (GG (Kz 1 b) SX)))) (λ_ _ _ _ _ _=>Bc) (λ_ _ _ _ _ _=>(AJ 0)))))))) (EU 4 a) (AN (Ca AAj rfl (DK (AZ (As AH AH))) (EU 5 a) (AN (Az (mo c (AJ 4) (AJ 5) (AJ 1)) (AM (d8 (i:=3) a rfl (Or.inl rfl) (ia c (AJ 1) (AJ 4) (AJ 5) (λ_ _=>rfl)) mX) (AN (EW (i:=2) ABm ABn Dp (BN (AZ (D8 (AJ 4) (AJ 5) (AJ 3))))))) An))))) (AN (AU (AJ 2)))))))
theorem WE (F:Z1 K "counted" Lr f U)(b:bO P w K Z Y n)(c:Z "tuple" =none):Z2 P w K Z Y n f U ["stretches","n","told","begin","moment","side","count"] 2 Ew:=Dm F DM rfl λ_ _ _ _ _ _ d a=>(AM (Gx (i:=2) a rfl (Or.inl rfl) (A4 Ck)) (AM (Cs 3 a C5) (AM (Ca AAj rfl (DK (AK b d rfl (BN (AJ 0)))) (CO (n:=3) rfl (Ab (EU 4 a) (Ab (EU 5 a) (Ab (EU 6 a) Bn)))) (AN (Az (Eu (L7 (EX SZ (AJ 3) C5) (IT (EX QU (AJ 6) (AJ 1))))) (AN (Cs 3 a (AZ (As (AJ 4) (Af Cm AH (AJ 5)))))) (AN (Az (Eu (L7 (EX YE (AJ 3) C5) (IT (EX IF (AJ 6) (AJ 1))))) (AM (EW (i:=2) ABm ABn Dp (BN (AZ (D8 (AX (AJ 3) AH) (AX (AJ 3) AH) (AJ 4))))) (AN (Cs 3 a C5))) An))))) (AM (Az (EX YE (AJ 3) C5) (AN (EW (i:=2) ABm ABn Dp (BN (AZ (D8 (AX (AJ 3) AH) (AX (AJ 3) AH) C5))))) An) (AN (AU (A8 Bq rfl c AAp (BN (AJ 2)))))))))
theorem UX (F:Z1 K "told_set" Jg f U)(a:Yp P w K Z Y n):Z2 P w K Z Y n f U ["stretches"] 1 E4:=Dm F DM rfl λ_ _ _ _ _ _ b _=>(AN (AU (AK a b rfl (As (AJ 0) AH))))
theorem UY (F:Z1 K "too_near" Jh f U)(c:Yt P w K Z Y n)(d:T9 P w K Z Y n)(e:Vx P w K Z Y n):Z2 P w K Z Y n f U ["one","other","apart"] 3 E5:=by
 have a:(["stretch","piece"] :km Str).Nodup:=by decide +kernel
 exact Dm F DM rfl λ_ _ _ _ _ _ b _=>(AN (AU (AK e b rfl (BN (Bj (Ut rfl (DK (AK d b rfl (D8 (AJ 0) (AJ 1) (AJ 2)))) (XM (own:=2) (own2:=1) (ix:= []) (N:= ["stretch","piece" ]) rfl rfl rfl rfl rfl rfl (by decide) (λ_ _ _ _ _ _=>(Kz 1 a)) (λ_ _ _ _ _ _=>Bc) (λ_ _ _ _ _ _=>(DK (AK c b rfl (BN (AJ 1))))) (λ_ _ _ _ _ _=>(Kz 0 a)) (λ_ _ _ _ _ _=>Bc) (λ_ _ _ _ _ _=>(AJ 0)))))))))
theorem cZ (F:Z1 K "whole" SB f U):Z2 P w K Z Y n f U ["n"] 1 IL:=Dm F DM rfl λ_ _ _ _ _ _ _ _=>(AN (AU (AZ (As (AJ 0) AH))))
theorem WK (F:Z1 K "parting" Lz f U)(d:Vu P w K Z Y n)(e:T9 P w K Z Y n)(g:Vv P w K Z Y n)(h:Yw P w K Z Y n)(i:Vy P w K Z Y n)(j:Xb P w K Z Y n)(k:Z "tuple" =none):Z2 P w K Z Y n f U ["one","other","apart","near","begin","held","end"] 3 F2:=by
 have b:(["row","piece"] :km Str).Nodup:=by decide +kernel
 exact Dm F DM rfl λ_ _ _ _ _ _ a c=>(AM (Cs 3 c (AK i a rfl (D8 (AJ 0) (AJ 1) (AJ 2)))) (AM (Az (mq (AJ 3)) (AM (Ek (AX (AJ 3) AH) (CO (n:=3) rfl (Ab (EU 4 c) (Ab (EU 5 c) (Ab (EU 6 c) Bn))))) (AN (AU (AZ (As Gv (AK d a rfl (As (AK g a rfl (As (AJ 4) (AJ 6))) (AK j a rfl (BN AH))))))))) An) (AN (AU (AZ (As Gv (A8 Bq rfl k AAp (BN (Bj (Ut rfl (DK (AK e a rfl (D8 (AJ 0) (AJ 1) (AJ 2)))) (XM (own:=2) (own2:=1) (ix:= []) (N:= ["row","piece" ]) rfl rfl rfl rfl rfl rfl (by decide) (λ_ _ _ _ _ _=>(Kz 1 b)) (λ_ _ _ _ _ _=>Bc) (λ_ _ _ _ _ _=>(DK (AK h a rfl (BN (AJ 1))))) (λ_ _ _ _ _ _=>(Kz 0 b)) (λ_ _ _ _ _ _=>Bc) (λ_ _ _ _ _ _=>(AJ 0)))))))))))))
theorem cV (F:Z1 K "holds" R6 f U)(d:DS P w K Z Y n)(e:M3 P w K Z Y n)(g:QE P w K Z Y n)(c:QF P w K Z Y n)(h:RS P w K Z Y n)(i:Xa P w K Z Y n)(j:Xb P w K Z Y n):Z2 P w K Z Y n f U ["one","other","apart","row","m","begin","end","side","sign","off"] 4 J4:=Dm F DM rfl λ_ _ _ _ _ _ a b=>(AM (Ek (AJ 3) (CO (n:=4) rfl (Ab (EU 5 b) (Ab (EU 6 b) (Ab (EU 7 b) (Ab (EU 8 b) Bn)))))) (AM (Ca AAj rfl (DK (AK i a rfl (Ak (AJ 0) (D8 (AJ 1) (AJ 5) (AJ 6))))) (EU 4 b) (AM (Cs 9 b (AK e a rfl (As (AX (AK c a rfl (As (AJ 0) (AJ 4))) (AJ 7)) (AX (AK c a rfl (As (AJ 1) (AJ 4))) (AJ 7))))) (AN (Az (Av (AK d a rfl (As (AK h a rfl (As (AK j a rfl (BN (AJ 8))) (AJ 9))) (AK g a rfl (As (AJ 2) (AJ 7)))))) (AN (AU Cg)) An)))) (AN (AU Cg))))
theorem UT (F:Z1 K "is_whole" Jd f U)(b:Z "bool" =none)(c:Z "int" =none)(a:Z "isinstance" =none):Z2 P w K Z Y n f U ["thing"] 1 BI:=Dm F DM rfl λ_ _ _ _ _ _ _ _=>(AN (AU (Oi (Ap IC rfl a ABC (As (AJ 0) (MQ (n:="int") rfl c boot_int rfl))) (Oj (di (Ap IC rfl a ABC (As (AJ 0) (MQ (n:="bool") rfl b boot_bool rfl))))))))
theorem WG (F:Z1 K "is_part" Lv f U)(d:N4 P w K Z Y n)(b:N5 P w K Z Y n)(e:Z "abs" =none)(g:Z "isinstance" =none)(h:Z "len" =none)(i:Z "list" =none)(j:Z "tuple" =none):Z2 P w K Z Y n f U ["thing","top","bottom"] 1 Dj:=Dm F DM rfl λ_ _ _ _ _ _ a c=>(AM (Az (Eu (CU (BZ (Av (GE "tuple" "list" rfl g ABC (AJ 0) (BG (DD (v:= .ty "tuple") rfl j AAp rfl) (BG (DD (v:= .ty "list") rfl i ABY rfl) DJ)) KY))) (Cn (EX (GH a) (Ap CN rfl h AAt (BN (AJ 0))) AH)))) (AN (AU Cg)) An) (AM (Ek (AJ 0) (CO (n:=2) rfl (Ab (EU 1 c) (Ab (EU 2 c) Bn)))) (AM (Az (Eu (CU (BZ (Av (AK b a rfl (BN (AJ 1))))) (Cn (BZ (Av (AK b a rfl (BN (AJ 2)))))))) (AN (AU Cg)) An) (AN (AU (Oi (Dg QV (AJ 2) AH (Cj _)) (Oj (Dg (CT a) (AK d a rfl (As (Ap L4 rfl e ABl (BN (AJ 1))) (AJ 2))) AH (Cj _)))))))))
theorem ZJ (F:Z1 K "is_row" Oc f U)(c:Yr P w K Z Y n)(d:N5 P w K Z Y n)(e:Z "isinstance" =none)(g:Z "len" =none)(h:Z "list" =none)(i:Z "tuple" =none):Z2 P w K Z Y n f U ["thing","begin","end","side","sign"] 1 Eb:=Dm F DM rfl λ_ _ _ _ _ _ a b=>(AM (Az (Eu (CU (BZ (Av (GE "tuple" "list" rfl e ABC (AJ 0) (BG (DD (v:= .ty "tuple") rfl i AAp rfl) (BG (DD (v:= .ty "list") rfl h ABY rfl) DJ)) KY))) (Cn (EX (GH a) (Ap CN rfl g AAt (BN (AJ 0))) AH)))) (AN (AU Cg)) An) (AM (Ek (AJ 0) (CO (n:=4) rfl (Ab (EU 1 b) (Ab (EU 2 b) (Ab (EU 3 b) (Ab (EU 4 b) Bn)))))) (AM (Az (Eu (CU (BZ (Av (AK c a rfl (BN (AJ 1))))) (CU (BZ (Av (AK c a rfl (BN (AJ 2))))) (CU (BZ (Av (AK d a rfl (BN (AJ 3))))) (Cn (BZ (Av (AK d a rfl (BN (AJ 4)))))))))) (AN (AU Cg)) An) (AN (AU (Oi (Dg (dy a) (AJ 3) (AZ (D8 AH AH AH)) rfl) (Oj (Dg (dy a) (AJ 4) (AZ (As AH (CC AH))) rfl))))))))
theorem Lo (F:Z1 K "shows_parting" Ei f U)(d:DS P w K Z Y n)(e:gR P w K Z Y n)(g:bN P w K Z Y n)(h:N8 P w K Z Y n)(i:Z "isinstance" =none)(j:Z "len" =none)(k:Z "list" =none)(c:Z "tuple" =none):Z2 P w K Z Y n f U ["one","other","apart","paper","span","row","at","last","begin","end"] 4 Bo:=Dm F DM rfl λ_ _ _ _ _ _ a b=>(AM (Az (BZ (Av (GE "tuple" "list" rfl i ABC (AJ 3) (BG (DD (v:= .ty "tuple") rfl c AAp rfl) (BG (DD (v:= .ty "list") rfl k ABY rfl) DJ)) KY))) (AN (AU Cg)) An) (AM (Cs 4 b (AK h a rfl (As (AJ 0) (AJ 1)))) (AM (Az (EX SZ (AJ 4) C5) (AN (AU (Dg (CT a) (Ap CN rfl j AAt (BN (AJ 3))) AH (Cj _)))) An) (AM (Ek (AJ 4) (CO (n:=2) rfl (Ab (EU 6 b) (Ab (EU 7 b) Bn)))) (AM (Ca AAj rfl (DK (AJ 3)) (EU 5 b) (AM (Az (BZ (Av (AK g a rfl (BN (AJ 5))))) (AN (AU Cg)) An) (AM (Cs 8 b (A8 Bq rfl c AAp (BN (AX (AJ 5) AH)))) (AM (Cs 9 b (A8 Bq rfl c AAp (BN (AX (AJ 5) AH)))) (AM (Az (Eu (CU (EX (GH a) (AJ 8) (AJ 6)) (CU (BZ (Av (AK d a rfl (As (AJ 8) (AJ 9))))) (Cn (Av (AK d a rfl (As (AJ 7) (AJ 9)))))))) (AN (AU Cg)) An) (AM (Az (BZ (Av (AK e a rfl (Ak (AJ 0) (D8 (AJ 1) (AJ 2) (AZ (Ak (AJ 8) (D8 (AJ 9) (AX (AJ 5) AH) (AX (AJ 5) AH))))))))) (AN (AU Cg)) An) (AN (Cs 6 b (AJ 9))))))))) (AN (AU (Dg (CT a) (AJ 6) (AJ 7) (Cj _)))))))))
theorem lX (F:Z1 K "law" QO f U)(g:RP P w K Z Y n)(h:Tt P w K Z Y n)(j:CP P w K Z Y n)(k:Ip P w K Z Y n 12)(l:N2 P w K Z Y n)(o:RR P w K Z Y n)(p:Ga P w K Z Y n)(r:Tz P w K Z Y n)(s:La P w K Z Y n)(t:Yv P w K Z Y n)(u:Ml P w K Z Y n)(v:Z "bool" =none)(x:Z "isinstance" =none)(y:Z "len" =none)(z:Z "min" =none)(e:Z "range" =none)(A:Z "tuple" =none):Z2 P w K Z Y n f U ["_law_script","_law_k","_law_tape_here","_law_apart_here","_law_paper","_law_told","_law_far","_law_one","_law_other","_law_first","_law_second","_law_right","_law_things","_law_thing","_law_found"] 1 Ex:=by
 have c:(["_law_corner"] :km Str).Nodup:=by decide +kernel
 have d:(["_law_turn","_law_tape_here","_law_things"] :km Str).Nodup:=by decide +kernel
 exact Dm F DM rfl λ_ _ _ _ _ _ b a=>(AM (Ca AAj rfl (QQ rfl e (BN (Af A6 AH (Ap (mU rfl) rfl z boot_min (As AH (Ap CN rfl y AAt (BN (AJ 0)))))))) (EU 1 a) (AM (FD (i:=2) a rfl (Or.inr rfl) (AK r b rfl (As (AJ 0) (AJ 1)))) (AM (Cs 3 a (AK g b rfl (BN (AJ 2)))) (AM (Ek (AK s b rfl (As (AJ 2) (AJ 3))) (CO (n:=2) rfl (Ab (EU 7 a) (Ab (EU 8 a) Bn)))) (AM (Cs 4 a (AZ (BN (AZ (Ak (AX (AX (AJ 7) AH) AH) (D8 (AX (AX (AJ 7) (CC AH)) AH) (AK j b rfl (As (AJ 2) AH)) AH)))))) (AM (Cs 5 a (AK t b rfl (D8 (AJ 7) (AJ 8) (AJ 3)))) (AM (Az (EX (CT b) (AX (AJ 5) AH) Gv) (AN (Cs 4 a (AX (AJ 5) AH))) An) (AM (Cs 6 a (A8 Bq rfl A AAp (BN (Bj (CI rfl (DK (AJ 8)) (B3 (own:=1) (ix:= []) (N:= ["_law_corner"]) rfl rfl rfl rfl rfl rfl (λ_ _ _ _ _ _=>(Kz 0 c)) (λ_ _ _ _ _ _=>Bc) (λ_ _ _ _ _ _=>(Af A6 (AZ (BN (AK p b rfl (As (AX (AJ 0) AH) (AZ (As AH AH)))))) (GF (AJ 0) (Zj AH) Zi))))))))) (AN (Ca AAj rfl (DK (AZ (As (AZ (D8 (AJ 7) (AJ 8) (AJ 4))) (AZ (D8 (AJ 7) (AJ 6) (AZ Ck)))))) (CO (n:=3) rfl (Ab (EU 9 a) (Ab (EU 10 a) (Ab (EU 11 a) Bn)))) (AM (FD (i:=12) a rfl (Or.inr rfl) (Bj (A4 (D8 (AJ 11) (AK k b rfl (BN (AJ 11))) (AK l b rfl (BN (AJ 2))))))) (AM (FD (i:=12) a rfl (Or.inr rfl) (Af A6 (AJ 12) (Bj (CI rfl (QQ rfl e (BN AH)) (B3 (own:=1) (ix:= [2,12]) (N:= ["_law_turn","_law_tape_here" ,"_law_things" ]) rfl rfl rfl rfl rfl rfl (λ_ _ _ _ _ _=>(Kz 0 d)) (λ_ _ _ _ _ _=>Bc) (λ_ _ _ _ _ _=>(AK h b rfl (As (AJ 1) (AX (AJ 2) (Af Sa (AJ 0) AH)))))))))) (AN (Ca AAj rfl (DK (AJ 12)) (EU 13 a) (AM (Cs 14 a (AK u b rfl (Ak (AJ 9) (D8 (AJ 10) (AJ 3) (AJ 13))))) (AN (Az (Eu (CU (BZ (Av (Ap IC rfl x ABC (As (AJ 14) (MQ (n:="bool") rfl v boot_bool rfl))))) (Cn (EX (GH b) (AJ 14) (AK o b rfl (Ak (AJ 9) (D8 (AJ 10) (AJ 3) (AJ 13)))))))) (AN (AU Cg)) An))))))))))))))))) (AN (AU Cg)))
end
def bQ {P:gn}{w:fm}{K:AAP}{Z:Str->ke kj}{Y:fe}{k:Nat}{x:Str}{st:Stmt}{ps:km Str}{sp:Sp}{f:kf}{U:FuncData}(F:Ta K x x st f U)(b:Binds K U ps [])(m:Z x=some (.ref f))(G:Eg P w K Z Y Q2 k f U ps sp):Has P w K Z Y k x ps sp:=⟨f,U,m,F.kp,b,G⟩
theorem HE {P:gn}{w:fm}{K:AAP}{Z:Str->ke kj}{Y:fe}{k0:Nat}{f:kf}{U:FuncData}(F:Ta K "_law_listed" "_law_listed" DV f U)(b:Binds K U ["_law_thing"] [])(m:Z "_law_listed" =some (.ref f))(a:Z "isinstance" =none)(c:Z "tuple" =none):∀n:Nat,Eg P w K Z Y Q2 (k0+n) f U ["_law_thing"] (CZ K 1 (Aw n))
 | 0=>by
   have d:∀vs H Q E,¬CZ K 1 (Aw 0) vs H Q E:=λvs H Q E h=>by obtain⟨_,_,_,_,_,_,_,_,h,_⟩:=h;exact h
   exact⟨λvs H Q E h=>absurd h (d vs H Q E),λA outer s H args e vs Q E _ _ _ _ h=>absurd h (d vs H Q E)⟩
 | n+1=>OK (n:=k0+n) F (bQ F b m (HE F b m a c n)) a c
def pR {a:km kj}(hl:a.length=1):∃b:kj,a= [b] :=by match a,hl with | [b],_=>exact⟨_,rfl⟩
def pS {a:km kj}(hl:a.length=2):∃b c:kj,a= [b,c] :=by match a,hl with | [b,c],_=>exact⟨_,_,rfl⟩
def pT {a:km kj}(hl:a.length=3):∃b c d:kj,a= [b,c,d] :=by match a,hl with | [b,c,d],_=>exact⟨_,_,_,rfl⟩
def pU {a:km kj}(hl:a.length=4):∃b c d e:kj,a= [b,c,d,e] :=by match a,hl with | [b,c,d,e],_=>exact⟨_,_,_,_,rfl⟩
def C7 (K:AAP)(x:Str)(st:Stmt)(f:kf):Prop:=PySem.W.nsIn K mainGlobals x=some (some (.ref f))/\∃U,Ta K x x st f U
def sZ {K:AAP}{x:Str}{st:Stmt}{f:kf}{g:kj}{h i:ke kf}{d:Array (ke kj)}{kV e j b ct:kj}(a:PySem.W.nsIn K mainGlobals x=some (some (.ref f)))(l:K.lookup f=some ⟨g,h, .func (PySem.W.fnOf x x (GW st) (ES st) (BP st) .none kV e j i b ct),d⟩)(c:PySem.W.codeIn K b x=true)(k:PySem.W.keepIn K (.ref f)=true):C7 K x st f:=⟨a,_,bF l c k⟩
def tO {P:gn}{w:fm}{K:AAP}{h Y:fe}{Z:Str->ke kj}{k:Nat}{x:Str}{st:Stmt}{ps:km Str}{sp:Sp}{f:kf}(A:C7 K x st f)(X:K.In h)(G:h.Ns mainGlobals Z)(g:∀U,Ta K x x st f U->Binds K U ps [] ->Z x=some (.ref f)->Eg P w K Z Y Q2 k f U ps sp)(b:∀U,Ta K x x st f U->Binds K U ps [] :=by exact λ_ F=>F.binds λ_ _ _ _ _ _ c hl=>by first | (obtain⟨_,rfl⟩:=pR hl;rfl)|(obtain⟨_,_,rfl⟩:=pS hl;rfl)|(obtain⟨_,_,_,rfl⟩:=pT hl;rfl)|(obtain⟨_,_,_,_,rfl⟩:=pU hl;rfl)):Has P w K Z Y k x ps sp:=
 let ⟨a,U,F⟩:=A;bQ F (b U F) (AD8 X G a) (g U F (b U F) (AD8 X G a))
def all_mk {l:PySem.W.OpenLaw}{w:fm}{K:AAP}{h:fe}{Z:Str->ke kj}{fa f1 f2 f3 f4 f5 f6 f7 f8 f9 O P Q R S T f16 f17 f18 f19 f20 f21 f22 f23 f24 f25 f26 f27 f28 f29 f30 f31 f32 f33 f34 f35 f36 f37 f38 f39 f40 f41 f42 f43 f44 f45 f46 f47 f48 f49 f50 f51 f52 f53 f54 f55 f56 f57 f58 f59 f60 f61 f62 f63 f64 f65 f66:kf}(X:K.In h)(G:h.Ns mainGlobals Z)(yy:Z "law" =some (.ref fa))(a1:C7 K "_law_draw" Fb f1)(a2:C7 K "_law_apart" Gm f2)(a3:C7 K "_law_alike" Gk f3)(a4:C7 K "_law_odd" JZ f4)(a5:C7 K "_law_put" Jb f5)(a6:C7 K "_law_bent" Hu f6)(a7:C7 K "_law_listed" DV f7)(a8:C7 K "_law_less" Hv f8)(a9:C7 K "_law_number" Fj f9)(a10:C7 K "_law_part" Hx O)(a11:C7 K "_law_lowest" Fi P)(a12:C7 K "_law_is_row" Fh Q)(a13:C7 K "_law_off" Ja R)(a14:C7 K "_law_ratio" Gq S)(a15:C7 K "_law_product" FB T)(a16:C7 K "_law_sum" Jc f16)(a17:C7 K "_law_spot" IA f17)(a18:C7 K "_law_offs" Hw f18)(a19:C7 K "_law_rising" Fk f19)(a20:C7 K "_law_turns" Gs f20)(a21:C7 K "_law_row_holds" EK f21)(a22:C7 K "_law_shows" Gr f22)(a23:C7 K "_law_tape" Fc f23)(a24:C7 K "_law_place" Go f24)(a25:C7 K "_law_span" Hz f25)(a26:C7 K "_law_plan" Hy f26)(a27:C7 K "_law_wide_pair" EL f27)(a28:C7 K "common" Ob f28)(a29:C7 K "part" Wb f29)(a30:C7 K "over" Wa f30)(a31:C7 K "shared_bottom" Eh f31)(a32:C7 K "lines_of" Je f32)(a33:C7 K "minus" R7 f33)(a34:C7 K "size_of" L1 f34)(a35:C7 K "before" Oa f35)(a36:C7 K "plus" Wc f36)(a37:C7 K "times" R8 f37)(a38:C7 K "spot_between" FC f38)(a39:C7 K "spot_at" L3 f39)(a40:C7 K "offs_at" Ly f40)(a41:C7 K "greater" Lu f41)(a42:C7 K "lesser" Od f42)(a43:C7 K "together" Jf f43)(a44:C7 K "corners_between" D6 f44)(a45:C7 K "count_below" Fl f45)(a46:C7 K "rising" Og f46)(a47:C7 K "turns" R9 f47)(a48:C7 K "pieces" Of f48)(a49:C7 K "longest" Lw f49)(a50:C7 K "moment_at" IB f50)(a51:C7 K "row_of" Oh f51)(a52:C7 K "rows_of" L0 f52)(a53:C7 K "near_in" Lx f53)(a54:C7 K "steps_of" Gu f54)(a55:C7 K "levels" Oe f55)(a56:C7 K "counted" Lr f56)(a57:C7 K "told_set" Jg f57)(a58:C7 K "too_near" Jh f58)(a59:C7 K "whole" SB f59)(a60:C7 K "parting" Lz f60)(a61:C7 K "holds" R6 f61)(a62:C7 K "is_whole" Jd f62)(a63:C7 K "is_part" Lv f63)(a64:C7 K "is_row" Oc f64)(a65:C7 K "shows_parting" Ei f65)(H:C7 K "law" QO f66)(t:PySem.W.nsIn K mainGlobals "abs" =some none)(u:PySem.W.nsIn K mainGlobals "all" =some none)(y_bool:PySem.W.nsIn K mainGlobals "bool" =some none)(c:PySem.W.nsIn K mainGlobals "enumerate" =some none)(x:PySem.W.nsIn K mainGlobals "int" =some none)(a:PySem.W.nsIn K mainGlobals "isinstance" =some none)(y:PySem.W.nsIn K mainGlobals "len" =some none)(o:PySem.W.nsIn K mainGlobals "list" =some none)(z:PySem.W.nsIn K mainGlobals "min" =some none)(i:PySem.W.nsIn K mainGlobals "range" =some none)(A:PySem.W.nsIn K mainGlobals "str" =some none)(j:PySem.W.nsIn K mainGlobals "tuple" =some none)(B:PySem.W.nsIn K mainGlobals "zip" =some none):∃U:FuncData,(∀(s:ki) (v:kj),BindsTo s U ⟨[v], []⟩ [("_law_script",v)])/\∀Y:fe,K.In Y->Y.Ns mainGlobals Z->Eg l.prog w K Z Y Q2 13 fa U ["_law_script"] (CZ K 1 Ex):=by have e:=yy.symm.trans (AD8 X G H.1);cases e;obtain⟨aL,fdL,FL⟩:=H;obtain⟨⟨oc,od,kV,doc,pm,an,cdv,ct,osl,eL,lL,cL⟩,kL⟩:=FL;subst eL;have FL:=bF lL cL kL;have I:=ABF X G t;have e8:=ABF X G u;have G0:=ABF X G y_bool;have II:=ABF X G c;have C:=ABF X G x;have g:=ABF X G a;have d:=ABF X G y;have p:=ABF X G o;have fA:=ABF X G z;have D:=ABF X G i;have fB:=ABF X G A;have f:=ABF X G j;have K5:=ABF X G B;refine⟨PySem.W.fnOf "law" "law" (GW QO) (ES QO) (BP QO) .none kV doc pm an cdv ct,λs v=> .of_eq rfl,λY _ _=> ?_⟩;have hs:= @tO l.prog w K h Y Z;have r:=hs a1 X G λ_ F _ _=>Rg (n:=0) F;have H2:=hs a2 X G λ_ F _ _=>PQ (n:=1) F (BQ r);have H3:=hs a3 X G λ_ F _ _=>PP (n:=0) F C g fB;have H4:=hs a4 X G λ_ F _ _=>UP (n:=1) F (BQ r) d;have H5:=hs a5 X G λ_ F _ _=>UR (n:=0) F g p;have H6:=hs a6 X G λ_ F _ _=>Rf (n:=2) F (BQ H3) (BQ r) (BQ H4) (BQ H5) d p;have H7:=hs a7 X G λ_ F b m=>HE (k0:=0) F b m g f 12;have J:=hs a8 X G λ_ F _ _=>Rh (n:=0) F;have H9:=hs a9 X G λ_ F _ _=>OM (n:=0) F G0 C g;have E:=hs a10 X G λ_ F _ _=>Rj (n:=0) F I C;have nE:=hs a11 X G λ_ F _ _=>OL (n:=1) F (BQ H9) (BQ E) g d p f;have xw:=hs a12 X G λ_ F _ _=>OJ (n:=2) F (BQ J) (BQ nE) (BQ H9) I g d p f;have vd:=hs a13 X G λ_ F _ _=>UQ (n:=1) F (BQ E);have vf:=hs a14 X G λ_ F _ _=>PU (n:=1) F (BQ E);have vg:=hs a15 X G λ_ F _ _=>Mo (n:=1) F (BQ E);have M:=hs a16 X G λ_ F _ _=>US (n:=1) F (BQ E);have xx:=hs a17 X G λ_ F _ _=>Rm (n:=2) F (BQ J) (BQ vd) (BQ vg) (BQ vf) (BQ M) D f K5;have xy:=hs a18 X G λ_ F _ _=>Ri (n:=3) F (BQ vd) (BQ vf) (BQ xx) C D;have x4:=hs a19 X G λ_ F _ _=>ON (n:=1) F (BQ J) d;have vh:=hs a20 X G λ_ F _ _=>PY (n:=2) F (BQ J) (BQ x4);have x5:=hs a21 X G λ_ F _ _=>Kh (n:=4) F (BQ J) (BQ xy) (BQ vh) f;have x6:=hs a22 X G λ_ F _ _=>PX (n:=5) F (BQ xw) (BQ x5) (BQ vh) e8 g d p f;have x8:=hs a23 X G λ_ F _ _=>Rn (n:=0) F I C d;have x9:=hs a24 X G λ_ F _ _=>PR (n:=1) F (BQ r) (BQ E);have yA:=hs a25 X G λ_ F _ _=>Rl (n:=1) F (BQ r) (BQ E);have yB:=hs a26 X G λ_ F _ _=>Rk (n:=2) F (BQ r) (BQ x9) (BQ yA) (BQ M) d f;have yC:=hs a27 X G λ_ F _ _=>Kk (n:=3) F (BQ r) (BQ yB) (BQ vg) (BQ M) C D f;have sJ:=hs a28 X G λ_ F _ _=>ZI (n:=0) F;have L:=hs a29 X G λ_ F _ _=>g9 (n:=1) F (BQ sJ) I;have sK:=hs a30 X G λ_ F _ _=>g6 (n:=2) F (BQ L);have yD:=hs a31 X G λ_ F _ _=>Ln (n:=1) F (BQ sJ);have yE:=hs a32 X G λ_ F _ _=>UU (n:=2) F (BQ yD) K5;have N:=hs a33 X G λ_ F _ _=>cW (n:=2) F (BQ L);have vi:=hs a34 X G λ_ F _ _=>WM (n:=0) F;have k:=hs a35 X G λ_ F _ _=>ZH (n:=0) F;have sL:=hs a36 X G λ_ F _ _=>hG (n:=2) F (BQ L);have sM:=hs a37 X G λ_ F _ _=>cX (n:=2) F (BQ L);have yF:=hs a38 X G λ_ F _ _=>Mp (n:=3) F (BQ N) (BQ sK) (BQ sL) (BQ sM) f K5;have vj:=hs a39 X G λ_ F _ _=>WN (n:=4) F (BQ k) (BQ yF) d D;have yG:=hs a40 X G λ_ F _ _=>WJ (n:=5) F (BQ N) (BQ sK) (BQ vi) (BQ vj) D;have yH:=hs a41 X G λ_ F _ _=>WF (n:=1) F (BQ k);have vk:=hs a42 X G λ_ F _ _=>ZK (n:=1) F (BQ k);have vm:=hs a43 X G λ_ F _ _=>UW (n:=2) F (BQ k) (BQ yH) (BQ vk);have yI:=hs a44 X G λ_ F _ _=>JS (n:=1) F (BQ k) f;have yJ:=hs a45 X G λ_ F _ _=>OO (n:=1) F (BQ k) d;have vn:=hs a46 X G λ_ F _ _=>ZN (n:=2) F (BQ yJ) d;have vo:=hs a47 X G λ_ F _ _=>cY (n:=3) F (BQ yI) (BQ vn);have vp:=hs a48 X G λ_ F _ _=>ZM (n:=6) F (BQ yE) (BQ yG) (BQ vm) (BQ vo) d D;have yK:=hs a49 X G λ_ F _ _=>WH (n:=1) F (BQ k) II;have vq:=hs a50 X G λ_ F _ _=>Ro (n:=3) F (BQ N) (BQ L) (BQ sL) (BQ sM);have yL:=hs a51 X G λ_ F _ _=>ZO (n:=0) F;have yM:=hs a52 X G λ_ F _ _=>WL (n:=4) F (BQ yK) (BQ vq) (BQ yL);have yN:=hs a53 X G λ_ F _ _=>WI (n:=4) F (BQ k) (BQ vk) (BQ vq);have yO:=hs a54 X G λ_ F _ _=>UV (n:=0) F;have yP:=hs a55 X G λ_ F _ _=>ZL (n:=3) F (BQ vn) (BQ yO) p;have yQ:=hs a56 X G λ_ F _ _=>WE (n:=4) F (BQ yP) f;have yR:=hs a57 X G λ_ F _ _=>UX (n:=5) F (BQ yQ);have yS:=hs a58 X G λ_ F _ _=>UY (n:=7) F (BQ yN) (BQ vp) (BQ yR);have vt:=hs a59 X G λ_ F _ _=>cZ (n:=0) F;have yT:=hs a60 X G λ_ F _ _=>WK (n:=8) F (BQ sK) (BQ vp) (BQ sL) (BQ yM) (BQ yS) (BQ vt) f;have yU:=hs a61 X G λ_ F _ _=>cV (n:=5) F (BQ k) (BQ N) (BQ vi) (BQ vj) (BQ sM) (BQ vo) (BQ vt);have vw:=hs a62 X G λ_ F _ _=>UT (n:=0) F G0 C g;have yV:=hs a63 X G λ_ F _ _=>WG (n:=1) F (BQ sJ) (BQ vw) I g d p f;have yW:=hs a64 X G λ_ F _ _=>ZJ (n:=2) F (BQ yV) (BQ vw) g d p f;have yX:=hs a65 X G λ_ F _ _=>Lo (n:=6) F (BQ k) (BQ yU) (BQ yW) (BQ vm) g d p f;exact lX (n:=12) FL (BQ H2) (BQ H6) (BQ r) (BQ H7) (BQ H4) (BQ x6) (BQ M) (BQ x8) (BQ yC) (BQ yT) (BQ yX) G0 g d fA D f
def walk {l:PySem.W.OpenLaw}{q:gn}{loose:km Str}{XP:(Str->ke kj)->fe->Prop}{YP:fm->fe->Prop}{d:DefRec}{K:Params->AAP}(hn:l.most=some 63)(c:d.params.defaults= [])(e:∀(w:fm) (h:fe),YP w h->(K w.params).In h)(F:∀(w:fm) (Z:Str->ke kj) (b:kf) (h:fe),(K w.params).In h->h.Ns mainGlobals Z->Z d.name=some (.ref b)-> ∃U:FuncData,(∀(s:ki) (u:kj),BindsTo s U ⟨[u], []⟩ [("_law_script",u)])/\∀Y:fe,(K w.params).In Y->Y.Ns mainGlobals Z->Eg l.prog w (K w.params) Z Y Q2 13 b U ["_law_script"] (CZ (K w.params) 1 Ex)):PySem.W.WalkO q loose XP YP l.row.toRowW d [] (λf vs=>PySem.call f vs):=
 L2.walk_of (n:=63) (k:=13) (x:="_law_script") (CX:=λ_=>Q2) (sp:=λw=>CZ (K w.params) 1 Ex) hn (by decide) c ⟨rfl,by decide,by decide,rfl⟩ e F (λ_ _ a g hl _ i=>PL.law_sp i (cH g hl)) λ_ _ _ _ _ z=>z
def atK {K:AAP}{x:String}{s:Stmt}(m:String)(i c f:Nat)(a:PySem.W.nsIn K mainGlobals (Str.ofString x)=some (some (.ref f)):=by kernel_rfl)(l:K.lookup f=some (fO x s m i c):=by kernel_rfl)(d:PySem.W.codeIn K (.ref c) (Str.ofString x)=true:=by kernel_rfl)(k:PySem.W.keepIn K (.ref f)=true:=by kernel_rfl):C7 K (Str.ofString x) s f:=sZ a l d k
end K27
open PySem PySem.W PyProof.Rows
def K27.lg:LeftO K27.pwA K27.q [] (λs=>xlAt K27.q [] s&&recOk [] s) (λs=>K27.KA.map s.heap.get?) (λw=>(K27.KK w.params).map λp=>some p.2) 6000:=λw=>PL.map_pair (PL.map5 (K27.l0 w) (K27.l1 w) (K27.l2 w) (K27.l3 w) (K27.l4 w)) (K27.l5 w)
theorem PySem.Challenge.cw_skylanes_k27_papers_of_any_shape_holds : PySem.Challenge.rw_skylanes_k27_papers_of_any_shape.Holds := by
 refine ⟨K27.w1, ?_⟩
 refine PySem.W.holds_open (q:=K27.q) (loose:= []) (Xt:=λs=>xlAt K27.q [] s&&recOk [] s) (XP:=XL K27.q []) (YP:=InK K27.KK) (N:=6000) K27.lg (InK.of (as:=K27.KA) λ_=>by kernel_rfl) InK.keeps (λs e=>xl_of s (Bool.and_eq_true_iff.mp e).1) XL.keeps (by rfl) (by rfl) (by rfl) (λs e=>recFacts_of (Bool.and_eq_true_iff.mp e).2) (by rfl) K27.w0 (by decide +kernel) ⟨rfl,rfl,rfl,rfl,rfl,by decide +kernel⟩ ?hw ?hc
 (case hw=>w_witness2)
 case hc=>
 refine K27.walk (l:=PySem.Challenge.rw_skylanes_k27_papers_of_any_shape) (K:=K27.KK) rfl rfl (λw h Y=>Y) ?F
 intro w mg fa h KX G pA
 exact K27.all_mk KX G pA (K27.atK K27.m0 544 275 276) (K27.atK K27.m0 544 345 346) (K27.atK K27.m0 544 427 428) (K27.atK K27.m0 544 413 414) (K27.atK K27.m0 544 420 421) (K27.atK K27.m0 544 434 435) (K27.atK K27.m0 544 406 407) (K27.atK K27.m0 544 289 290) (K27.atK K27.m0 544 372 373) (K27.atK K27.m0 544 282 283) (K27.atK K27.m0 544 379 380) (K27.atK K27.m0 544 386 387) (K27.atK K27.m0 544 303 304) (K27.atK K27.m0 544 317 318) (K27.atK K27.m0 544 310 311) (K27.atK K27.m0 544 296 297) (K27.atK K27.m0 544 350 351) (K27.atK K27.m0 544 365 366) (K27.atK K27.m0 544 355 356) (K27.atK K27.m0 544 360 361) (K27.atK K27.m0 544 391 392) (K27.atK K27.m0 544 396 397) (K27.atK K27.m0 544 268 269) (K27.atK K27.m0 544 324 325) (K27.atK K27.m0 544 331 332) (K27.atK K27.m0 544 338 339) (K27.atK K27.m0 544 401 402) (K27.atK K27.m1 187 27 28) (K27.atK K27.m1 187 34 35) (K27.atK K27.m1 187 69 70) (K27.atK K27.m1 187 104 105) (K27.atK K27.m2 380 192 193) (K27.atK K27.m1 187 55 56) (K27.atK K27.m2 380 180 181) (K27.atK K27.m1 187 76 77) (K27.atK K27.m1 187 48 49) (K27.atK K27.m1 187 62 63) (K27.atK K27.m3 316 123 124) (K27.atK K27.m3 316 130 131) (K27.atK K27.m2 380 185 186) (K27.atK K27.m1 187 90 91) (K27.atK K27.m1 187 83 84) (K27.atK K27.m2 380 168 169) (K27.atK K27.m3 316 135 136) (K27.atK K27.m1 187 111 112) (K27.atK K27.m1 187 118 119) (K27.atK K27.m2 380 173 174) (K27.atK K27.m2 380 197 198) (K27.atK K27.m4 464 230 231) (K27.atK K27.m2 380 204 205) (K27.atK K27.m4 464 223 224) (K27.atK K27.m4 464 235 236) (K27.atK K27.m2 380 211 212) (K27.atK K27.m5 339 142 143) (K27.atK K27.m5 339 147 148) (K27.atK K27.m5 339 154 155) (K27.atK K27.m5 339 161 162) (K27.atK K27.m2 380 216 217) (K27.atK K27.m1 187 41 42) (K27.atK K27.m4 464 240 241) (K27.atK K27.m4 464 254 255) (K27.atK K27.m1 187 20 21) (K27.atK K27.m1 187 97 98) (K27.atK K27.m4 464 247 248) (K27.atK K27.m4 464 261 262) (K27.atK K27.m0 544 439 440) (by kernel_rfl) (by kernel_rfl) (by kernel_rfl) (by kernel_rfl) (by kernel_rfl) (by kernel_rfl) (by kernel_rfl) (by kernel_rfl) (by kernel_rfl) (by kernel_rfl) (by kernel_rfl) (by kernel_rfl) (by kernel_rfl)
end
