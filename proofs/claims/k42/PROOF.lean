import PyProof.Rows.All
import KE.KItem
import KE.IntBitsLaws
import PySem.Challenge.RW_skylanes_k42_full_and_over_full
set_option Elab.async false
set_option linter.all false
set_option maxRecDepth 100000
set_option maxHeartbeats 0
abbrev zy:=@List
abbrev zx:=PySem.Value
abbrev zw:=PySem.Shared
abbrev zu:=PySem.Addr
abbrev zt:=@Option
abbrev zr:=PySem.Expr
abbrev zq:=Bool
abbrev zp:=PySem.Program
abbrev zm:=PySem.World
abbrev zl:=PySem.Heap
abbrev zk:=PySem.Around
abbrev AAA:=@PySem.wpAny_bind
abbrev AAB:=PySem.W.Frag
abbrev AAC:=@PySem.wpAny_pure
abbrev AAD:=@if_neg
abbrev AAE:=@if_pos
abbrev AAF:=@List.mem_cons
abbrev AAG:=@PySem.Heap.lt_size
abbrev AAH:=@PySem.Heap.get?_push_of_some
abbrev AAI:=@List.length_map
abbrev AAJ:=@Nat.le_refl
abbrev AAK:=@List.map_cons
abbrev AAL:=@Nat.ne_of_lt
abbrev AAM:=@List.pairwise_cons
abbrev AAN:=@List.mem_append
abbrev AAO:=@List.map_append
abbrev AAP:=@PySem.PassesOwn.never
abbrev AAQ:=@Bool.false_ne_true
abbrev AAR:=@List.mem_map
abbrev AAS:=@PySem.Heap.get?_push_size
abbrev AAT:=@List.getElem?_eq_getElem
abbrev AAU:=@List.size_toArray
abbrev AAV:=@List.mem_singleton
abbrev AAW:=@List.mem_append_right
abbrev AAX:=@Nat.lt_of_lt_of_le
abbrev AAY:=@Option.some.inj
abbrev AAZ:=@decide_eq_false
abbrev AAa:=@List.getElem?_set_ne
abbrev AAb:=@List.length_cons
abbrev AAc:=@if_false
abbrev AAd:=@List.map_map
abbrev AAe:=@or_false
abbrev AAf:=@List.length_append
abbrev AAg:=@List.not_mem_nil
abbrev AAh:=@Nat.le_trans
abbrev AAi:=@Ne.symm
abbrev AAj:=@List.mem_flatMap
abbrev AAk:=@decide_eq_true
abbrev AAl:=@PySem.wpAny_holding
abbrev AAm:=@List.getElem?_map
abbrev AAn:=@Bool.and_eq_true
abbrev AAo:=@List.any_eq_true
abbrev AAp:=@List.nil_append
abbrev AAq:=@Bool.false_eq_true
abbrev AAr:=@PySem.wpAny_field
abbrev AAs:=@Nat.le_of_ble_eq_true
abbrev AAt:=@Nat.ne_of_gt
abbrev AAu:=@Nat.zero_le
abbrev AAv:=@PySem.F.slot_list_append
abbrev AAw:=@PySem.F.type_list_append
abbrev AAx:=@List.getElem?_eq_some_iff
abbrev AAy:=@PySem.wpAny_standAt
abbrev AAz:=@PySem.wpAny_newObj_type
abbrev AA0:=@Bool.eq_iff_iff
abbrev AA1:=@Nat.lt_of_le_of_lt
abbrev AA2:=@List.any_cons
abbrev AA3:=@PySem.W.mg_none_of
abbrev AA4:=@PySem.wpAny_call_entry
abbrev AA5:=@PySem.wpAny_mono
abbrev AA6:=@List.map_congr_left
abbrev AA7:=@PyProof.Rows.boot_tuple
abbrev AA8:=@PySem.wpAny_seqItems
abbrev AA9:=@List.getElem?_append_right
abbrev ABA:=@List.filter_cons
abbrev ABB:=@List.foldl_cons
abbrev ABC:=@PySem.boot_len
abbrev ABD:=@PySem.wpAny_rule
abbrev ABE:=@if_true
abbrev ABF:=@Bool.not_true
abbrev ABG:=@List.mem_cons_of_mem
abbrev ABH:=@Nat.lt_irrefl
abbrev ABI:=@PySem.Heap.size_push
abbrev ABJ:=@List.getElem?_append_left
abbrev ABK:=@List.length_replicate
abbrev ABL:=@Rat.num_divInt_den
abbrev ABM:=@decide_eq_decide
abbrev ABN:=@Option.map_eq_some_iff
abbrev ABO:=@PySem.wpAny_truthy_bool
abbrev ABP:=@List.append_nil
abbrev ABQ:=@List.getElem?_replicate
abbrev ABR:=@PySem.wpAny_callSpecial?_slot
abbrev ABS:=@List.map_nil
abbrev ABT:=@Int.fdiv_eq_ediv_of_nonneg
abbrev ABU:=@List.getElem_mem
abbrev ABV:=@List.take_of_length_le
abbrev ABW:=@decide_eq_true_eq
abbrev ABX:=@of_decide_eq_true
abbrev ABY:=@of_decide_eq_false
abbrev ABZ:=@List.find?_cons
abbrev ABa:=@List.foldl_append
abbrev ABb:=@PySem.wpAny_specialOf
abbrev ABc:=@Array.length_toList
abbrev ABd:=@List.mem_cons_self
abbrev ABe:=@PySem.wpAny_passesOwn
abbrev ABf:=@List.of_mem_zip
abbrev ABg:=@List.mem_of_getElem?
abbrev ABh:=@List.drop_eq_getElem_cons
abbrev ABi:=@Nat.div_le_self
abbrev ABj:=@Int.natCast_ediv
abbrev ABk:=@Bool.or_eq_true
abbrev ABl:=@List.mem_flatten
abbrev ABm:=@List.length_eq_zero_iff
abbrev ABn:=@List.dropLast_concat_getLast
abbrev ABo:=@PySem.wpAny_isInstance
abbrev ABp:=@PySem.Paired.length
abbrev ABq:=@List.mem_range
abbrev ABr:=@List.mem_append_left
abbrev ABs:=@List.getElem?_set_self
abbrev ABt:=@Int.toNat_natCast
abbrev ABu:=@PyProof.Rows.slot_tuple_getitem
abbrev ABv:=@PySem.Heap.get?_update_self
abbrev ABw:=@List.all_eq_true
abbrev ABx:=@PySem.wpAny_setField_rec
abbrev ABy:=@Int.natAbs_neg
abbrev ABz:=@Nat.gcd_comm
abbrev AB0:=@Nat.gcd_pos_of_pos_right
abbrev AB1:=@List.pairwise_append
abbrev AB2:=@List.flatMap_cons
abbrev AB3:=@List.any_eq_false
abbrev AB4:=@Int.natAbs_natCast
abbrev AB5:=@Rat.mul_pos_iff_of_pos_left
abbrev AB6:=@List.mem_filter
abbrev AB7:=@PyProof.Rows.callWith_type1
abbrev AB8:=@PySem.Calls.spliced_cons
abbrev AB9:=@PySem.codeAny_mono
abbrev ACA:=@PySem.mem_of_lookup
abbrev ACB:=@Prod.ext
abbrev ACC:=@PySem.wpAny_typeOf
abbrev ACD:=@PySem.Heap.get?_update_other
abbrev ACE:=@List.getD_eq_getElem?_getD
abbrev ACF:=@PySem.wpAny_pyIter_list
abbrev ACG:=@List.drop_eq_nil_of_le
abbrev ACH:=@Nat.gcd_dvd_right
abbrev ACI:=@List.sum_cons
abbrev ACJ:=@List.map_drop
abbrev ACK:=@List.getLast?_eq_some_getLast
abbrev ACL:=@List.getLast?_cons_cons
abbrev ACN:=@Option.isSome_map
abbrev ACO:=@PySem.F.slot_dict_get
abbrev ACP:=@PySem.F.slot_dict_keyiterator_next
abbrev ACQ:=@Nat.zero_add
abbrev ACR:=@List.getElem?_drop
abbrev ACS:=@Classical.byContradiction
abbrev ACT:=@Rat.mul_eq_zero
abbrev ACU:=@Int.emod_nonneg
abbrev ACV:=@Int.emod_lt_of_pos
abbrev ACW:=@PySem.W.mg_of
abbrev ACX:=@PySem.F.slot_tuple_hash
abbrev ACY:=@PySem.wpAny_forIn_list
abbrev ACZ:=@PySem.F.slot_tuple_eq
abbrev ACa:=@beq_eq_false_iff_ne
abbrev ACb:=@Nat.le_of_lt
abbrev ACc:=@PySem.wpAny_execs_nil
abbrev ACd:=@List.nodup_cons
abbrev ACe:=@PySem.Calls.callWith_builtin
abbrev ACf:=@List.reverse_cons
abbrev ACg:=@List.forIn_cons
abbrev ACh:=@PySem.codeAny_loop
abbrev ACi:=@PySem.wpAny_noted
abbrev ACj:=@PySem.wpAny_comprehension_free
abbrev ACk:=@Nat.lt_trans
abbrev ACl:=@PySem.F.slot_tuple_iterator_next
abbrev ACm:=@PySem.wpAny_setField
abbrev ACn:=@PySem.Heap.SameBut.update
abbrev ACo:=@PySem.Obj.data_mapFields
abbrev ACp:=@PySem.wpAny_onRaise
abbrev ACq:=@PySem.wpAny_letGo
abbrev ACr:=@PySem.wpAny_attempt
abbrev ACs:=@PySem.F.slot_zip_next
abbrev ACt:=@List.getElem?_set
abbrev ACu:=@Rat.num_divInt
abbrev ACv:=@Rat.div_def
abbrev ACw:=@Nat.le_of_dvd
abbrev ACx:=@Int.natCast_mul
abbrev ACy:=@List.map_take
abbrev ACz:=@List.mem_of_getLast?
abbrev AC0:=@List.length_nil
abbrev AC1:=@PySem.call_meetsIn
abbrev AC2:=@PySem.wpAny_typeNameOfWhole_keyiter
abbrev AC3:=@PySem.wpAny_pyIter_enum
abbrev AC4:=@decide_eq_true_iff
abbrev AC5:=@Bool.not_eq_true
abbrev AC6:=@List.flatten_cons
abbrev AC7:=@Rat.intCast_mul
abbrev AC8:=@Rat.intCast_lt_intCast
abbrev AC9:=@Rat.le_refl
abbrev ADA:=@PySem.wpAny_tupleItemsOf
abbrev ADB:=@Array.forIn_toList
abbrev ADC:=@Nat.add_assoc
abbrev ADD:=@PySem.isSubtype_tuple_tuple
abbrev ADE:=@List.getElem?_eq_none_iff
abbrev ADF:=@List.filterMap_cons
abbrev ADG:=@PySem.wpAny_assign_Name
abbrev ADH:=@Int.fmod_eq_emod_of_nonneg
abbrev ADI:=@PySem.Calls.spliced_nil
abbrev ADJ:=@PySem.wpAny_Call_Name_kw
abbrev ADK:=@List.length_take
abbrev ADL:=@PySem.noFill_tuple_add
abbrev ADM:=@PySem.F.slot_tuple_add
abbrev ADN:=@PySem.F.entry_tuple_add
abbrev ADO:=@PySem.F.args_tuple_add_2
abbrev ADP:=@PySem.Calls.evalArgs_plain
abbrev ADQ:=@PySem.wpAny_newFunctionEnv
abbrev ADR:=@PySem.wpAny_updateSeq_pair
abbrev ADS:=@List.take_succ_cons
abbrev ADT:=@Int.natAbs_mul
abbrev ADU:=@Rat.den_divInt
abbrev ADV:=@Int.sign_eq_one_of_pos
abbrev ADW:=@List.cons_append
abbrev ADX:=@PySem.F.entry_dict_get
abbrev ADY:=@PySem.F.args_dict_get_3
abbrev ADZ:=@PySem.wpAny_Call_method
abbrev ADa:=@PySem.F.plainAttrs_dict
abbrev ADb:=@PySem.wpAny_dictEntries
abbrev ADc:=@PySem.wpAny_dictEpoch
abbrev ADd:=@PySem.wpAny_updateSeq
abbrev ADe:=@Option.bind_eq_some_iff
abbrev ADf:=@Nat.le_add_right
abbrev ADg:=@List.append_assoc
abbrev ADh:=@Prod.mk.injEq
abbrev ADi:=@Rat.intCast_zero
abbrev ADj:=@PySem.W.cellsFrom_some
abbrev ADk:=@PyProof.noPylong_of_log2
abbrev ADl:=@PySem.F.entry_tuple_iterator_next
abbrev ADm:=@PySem.F.args_tuple_iterator_next_1
abbrev ADn:=@Rat.divInt_add_divInt
abbrev ADo:=@Rat.divInt_mul_divInt
abbrev ADp:=@Int.gcd_eq_natAbs_gcd_natAbs
abbrev ADq:=@Int.fdiv_eq_ediv_of_dvd
abbrev ADr:=@Int.sign_eq_neg_one_of_neg
abbrev ADs:=@Rat.divInt_eq_divInt_iff
abbrev ADt:=@PySem.F.type_dict_get
abbrev ADu:=@PySem.F.entry_dict_keyiterator_next
abbrev ADv:=@PySem.F.args_dict_keyiterator_next_1
abbrev ADw:=@Array.getElem?_eq_getElem
abbrev ADx:=@PySem.F.slot_dict_itemiterator_iter
abbrev ADy:=@PySem.F.slot_dict_items
abbrev ADz:=@List.getElem?_zip_eq_some
abbrev AD0:=@List.countP_eq_length_filter
abbrev AD1:=@List.filter_eq_nil_iff
abbrev AD2:=@PySem.F.slot_list_insert
abbrev AD3:=@PySem.F.type_list_insert
section
namespace L2
open PySem
def F2 (s:Stmt):Arguments:=match s with
 | .FunctionDef _ a _ _ _ _ _ _ _ _=>a
 | _=>{posonlyargs:= [],args:= [],vararg:=none,kwonlyargs:= [],kw_defaults:= [],kwarg:=none,defaults:= [] }
def D9 (s:Stmt):zy Stmt:=match s with
 | .FunctionDef _ _ b _ _ _ _ _ _ _=>b
 | _=> []
def BQ (s:Stmt):Scope:=match s with
 | .FunctionDef _ _ _ _ _ _ sc _ _ _=>sc
 | _=>{kind:= .function,names:= [],isGenerator:=false,isCoroutine:=false}
end L2
namespace K42
open PySem L2 PyProof.Rows
abbrev pwA:=PySem.Challenge.pw_skylanes_k42_full_and_over_full
def top (i:Nat):Stmt:=K42.pwA.main.body.getD i (.Pass ⟨0,0,0,0⟩)
abbrev FB:Stmt:=top 47
abbrev FR:Stmt:=top 57
abbrev HB:Stmt:=top 48
abbrev JD:Stmt:=top 50
abbrev I0:Stmt:=top 70
abbrev GA:Stmt:=top 54
abbrev HF:Stmt:=top 55
abbrev HC:Stmt:=top 56
abbrev Er:Stmt:=top 71
abbrev G9:Stmt:=top 49
abbrev F8:Stmt:=top 66
abbrev F7:Stmt:=top 72
abbrev Et:Stmt:=top 52
abbrev Es:Stmt:=top 63
abbrev FT:Stmt:=top 60
abbrev JC:Stmt:=top 64
abbrev HA:Stmt:=top 73
abbrev JA:Stmt:=top 51
abbrev HD:Stmt:=top 59
abbrev HE:Stmt:=top 74
abbrev Iz:Stmt:=top 67
abbrev FS:Stmt:=top 68
abbrev GB:Stmt:=top 53
abbrev HG:Stmt:=top 58
abbrev D4:Stmt:=top 62
abbrev F9:Stmt:=top 61
abbrev JB:Stmt:=top 65
abbrev D5:Stmt:=top 69
abbrev FC:Stmt:=top 46
abbrev OO:Stmt:=top 1
abbrev WK:Stmt:=top 2
abbrev WL:Stmt:=top 3
abbrev ON:Stmt:=top 7
abbrev FU:Stmt:=top 9
abbrev OQ:Stmt:=top 10
abbrev GD:Stmt:=top 12
abbrev OP:Stmt:=top 13
abbrev LN:Stmt:=top 14
abbrev JL:Stmt:=top 15
abbrev JG:Stmt:=top 18
abbrev OR:Stmt:=top 23
abbrev LO:Stmt:=top 24
abbrev JF:Stmt:=top 25
abbrev LR:Stmt:=top 26
abbrev GC:Stmt:=top 27
abbrev JK:Stmt:=top 28
abbrev JE:Stmt:=top 29
abbrev Rv:Stmt:=top 4
abbrev WJ:Stmt:=top 6
abbrev Ry:Stmt:=top 5
abbrev EK:Stmt:=top 35
abbrev HK:Stmt:=top 36
abbrev JH:Stmt:=top 34
abbrev EL:Stmt:=top 8
abbrev JI:Stmt:=top 22
abbrev HL:Stmt:=top 39
abbrev JJ:Stmt:=top 30
abbrev HJ:Stmt:=top 40
abbrev LQ:Stmt:=top 20
abbrev JM:Stmt:=top 38
abbrev Rx:Stmt:=top 41
abbrev HH:Stmt:=top 42
abbrev EJ:Stmt:=top 16
abbrev LP:Stmt:=top 17
abbrev WI:Stmt:=top 43
abbrev HI:Stmt:=top 44
abbrev QO:Stmt:=top 75
def m0:String:="law_skylanes_k42_full_and_over_full"
def m1:String:="skylanes.fractions"
def m2:String:="skylanes.stretches"
def m3:String:="skylanes.planes"
def m4:String:="skylanes.wedges"
def m5:String:="skylanes.rooms"
def m6:String:="skylanes.nearness"
def eN (P:Params)(x:String)(i:Nat)(v:zx):DictEntry:=⟨PyData.keyHash P (Str.ofString x), .str (Str.ofString x) i,v⟩
abbrev eR (P:Params)(x:String)(i f:Nat):=eN P x i (.ref f)
def fO (x:String)(s:Stmt)(m:String)(i c:Nat):Obj:=⟨.type "function",none, .func (PySem.W.fnOf (Str.ofString x) (Str.ofString x) (F2 s) (D9 s) (BQ s) .none .none .none (.str (Str.ofString m) i) none (.ref c) .none), #[]⟩
def rV:Nat->zx
 | 0=> .none
 | n+1=> .ref (n+1)
def fc (x:String)(s:Stmt)(m:String)(a c f i l n g b d e h j u:Nat)(r:AAB):AAB:=
 (c,⟨.type "code",none, .fields #[.str (Str.ofString x) i, .str (Str.ofString x) (i+1), .str (Str.ofString "/claim/cut.py") (i+2), .int l 0, .int n 0, .int 0 0, .int 0 0, .int g 0,rV b, .bool true, .int 181 0,rV d, .none,rV e,rV h,rV j, .int u 0, .int l 0, .str (Str.ofString "/claim/cut.py") (u+1)], #[]⟩) ::
 (f,fO x s m a c)::r
def sD (P:Params):Obj:=⟨.type "dict",none, .dict #[eN P "__name__" 165 (.str (Str.ofString "law_skylanes_k42_full_and_over_full") 547),eN P "__doc__" 166 .none,eN P "__package__" 167 .none,eN P "__loader__" 168 (.builtin "__main__.__loader__#opaque"),eN P "__spec__" 169 .none,eR P "__annotations__" 170 6,eR P "__builtins__" 171 4,eN P "__file__" 173 (.str (Str.ofString "/claim/cut.py") 172),eN P "__cached__" 174 .none,eR P "common" 196 21,eR P "part" 205 28,eR P "plus" 213 35,eR P "minus" 221 42,eR P "times" 229 49,eR P "over" 237 56,eR P "before" 245 63,eR P "shared_bottom" 255 70,eR P "count_below" 266 77,eR P "rising" 276 84,eR P "steps_of" 291 91,eR P "levels" 297 96,eR P "counted" 310 103,eR P "told_set" 317 110,eR P "all_stretches" 323 115,eR P "many_of" 331 122,eR P "later_by" 343 129,eR P "size_of" 353 136,eR P "plane_of" 361 141,eR P "summed" 367 146,eR P "crossed" 376 153,eR P "is_never" 384 160,eR P "turn_of" 394 167,eR P "is_tighter" 405 174,eR P "tightest" 416 181,eR P "fault_in" 427 188,eR P "range_in" 439 195,eR P "ONCE" 444 196,eR P "BACK" 448 197,eR P "negative" 455 204,eR P "piece_between" 468 211,eR P "pieces_of" 474 216,eR P "walls_of" 487 223,eR P "planes_in" 503 230,eR P "own_stays" 514 237,eR P "stays" 524 244,eR P "all_stays" 530 249,eR P "full" 538 256,eR P "over_full" 546 263,eR P "_law_tape" 558 270,eR P "_law_draw" 568 277,eR P "_law_part" 579 284,eR P "_law_less" 587 291,eR P "_law_sum" 595 298,eR P "_law_off" 603 305,eR P "_law_product" 611 312,eR P "_law_ratio" 619 319,eR P "_law_place" 627 326,eR P "_law_span" 635 333,eR P "_law_plan" 647 340,eR P "_law_bounds" 655 347,eR P "_law_spot" 661 352,eR P "_law_room" 667 357,eR P "_law_rising" 677 364,eR P "_law_marks" 683 369,eR P "_law_is_inside" 689 374,eR P "_law_middles" 695 379,eR P "_law_set" 708 386,eR P "_law_own" 714 391,eR P "_law_is_in" 720 396,eR P "_law_box" 726 401,eR P "_law_may_be" 738 408,eR P "_law_stays_due" 744 413,eR P "_law_far" 750 418,eR P "_law_flights" 762 425,eR P "_law_count" 768 430,eR P "_law_many" 774 435,eR P "_law_same" 782 442,eR P "law" 788 447] 78, #[]⟩
def KK (P:Params):AAB:=(3,sD P)::(fc "_law_draw" FB m0 547 276 277 559 192 2 3 271 272 273 274 275 566 <| fc "_law_bounds" FR m0 547 346 347 648 244 1 3 341 342 343 344 345 653 <| fc "_law_part" HB m0 547 283 284 569 200 2 3 278 279 280 281 282 577 <| fc "_law_sum" JD m0 547 297 298 588 208 2 3 292 293 294 295 296 593 <| fc "_law_far" I0 m0 547 417 418 745 331 1 3 414 415 0 0 416 748 <| fc "_law_place" GA m0 547 325 326 620 216 1 3 320 321 322 323 324 625 <| fc "_law_span" HF m0 547 332 333 628 223 1 3 327 328 329 330 331 633 <| fc "_law_plan" HC m0 547 339 340 636 228 1 3 334 335 336 337 338 645 <| fc "_law_flights" Er m0 547 424 425 751 333 1 3 419 420 421 422 423 760 <| fc "_law_less" G9 m0 547 290 291 580 206 2 3 285 286 287 288 289 585 <| fc "_law_is_in" F8 m0 547 395 396 715 310 2 3 392 393 0 0 394 718 <| fc "_law_count" F7 m0 547 429 430 763 345 2 3 426 427 0 0 428 766 <| fc "_law_product" Et m0 547 311 312 604 212 2 3 306 307 308 309 310 609 <| fc "_law_middles" Es m0 547 378 379 690 292 1 3 375 376 0 0 377 693 <| fc "_law_rising" FT m0 547 363 364 668 265 1 3 358 359 360 361 362 675 <| fc "_law_set" JC m0 547 385 386 696 294 3 3 380 381 382 383 384 706 <| fc "_law_many" HA m0 547 434 435 769 347 2 3 431 432 0 0 433 772 <| fc "_law_off" JA m0 547 304 305 596 210 2 3 299 300 301 302 303 601 <| fc "_law_room" HD m0 547 356 357 662 258 1 3 353 354 0 0 355 665 <| fc "_law_same" HE m0 547 441 442 775 355 2 3 436 437 438 439 440 780 <| fc "_law_box" Iz m0 547 400 401 721 312 2 3 397 398 0 0 399 724 <| fc "_law_may_be" FS m0 547 407 408 727 316 3 3 402 403 404 405 406 736 <| fc "_law_ratio" GB m0 547 318 319 612 214 2 3 313 314 315 316 317 617 <| fc "_law_spot" HG m0 547 351 352 656 249 2 3 348 349 0 0 350 659 <| fc "_law_is_inside" D4 m0 547 373 374 684 285 4 3 370 371 0 0 372 687 <| fc "_law_marks" F9 m0 547 368 369 678 274 3 3 365 366 0 0 367 681 <| fc "_law_own" JB m0 547 390 391 709 306 3 3 387 388 0 0 389 712 <| fc "_law_stays_due" D5 m0 547 412 413 739 321 2 3 409 410 0 0 411 742 <| fc "_law_tape" FC m0 547 269 270 549 186 2 3 264 265 266 267 268 556 <| fc "common" OO m1 187 20 21 189 2 2 3 15 16 17 18 19 194 <| fc "part" WK m1 187 27 28 197 6 2 3 22 23 24 25 26 203 <| fc "plus" WL m1 187 34 35 206 11 2 3 29 30 31 32 33 211 <| fc "before" ON m1 187 62 63 238 19 2 3 57 58 59 60 61 243 <| fc "count_below" FU m1 187 76 77 256 26 2 3 71 72 73 74 75 264 <| fc "rising" OQ m1 187 83 84 267 36 1 3 78 79 80 81 82 274 <| fc "steps_of" GD m2 277 90 91 279 44 1 3 85 86 87 88 89 289 <| fc "levels" OP m2 277 95 96 292 53 1 3 92 93 0 0 94 295 <| fc "counted" LN m2 277 102 103 298 63 2 3 97 98 99 100 101 308 <| fc "told_set" JL m2 277 109 110 311 75 1 3 104 105 106 107 108 315 <| fc "later_by" JG m2 277 128 129 332 81 2 3 123 124 125 126 127 341 <| fc "summed" OR m3 354 145 146 362 94 4 3 142 143 0 0 144 365 <| fc "crossed" LO m3 354 152 153 368 100 3 3 147 148 149 150 151 374 <| fc "is_never" JF m3 354 159 160 377 102 1 3 154 155 156 157 158 382 <| fc "turn_of" LR m3 354 166 167 385 105 2 3 161 162 163 164 165 392 <| fc "is_tighter" GC m3 354 173 174 395 109 3 3 168 169 170 171 172 403 <| fc "tightest" JK m3 354 180 181 406 117 3 3 175 176 177 178 179 414 <| fc "fault_in" JE m3 354 187 188 417 123 2 3 182 183 184 185 186 425 <| fc "minus" Rv m1 187 41 42 214 13 2 3 36 37 38 39 40 219 <| fc "over" WJ m1 187 55 56 230 17 2 3 50 51 52 53 54 235 <| fc "times" Ry m1 187 48 49 222 15 2 3 43 44 45 46 47 227 <| fc "piece_between" EK m4 440 210 211 456 146 2 3 205 206 207 208 209 466 <| fc "pieces_of" HK m4 440 215 216 469 153 1 3 212 213 0 0 214 472 <| fc "negative" JH m4 440 203 204 449 144 1 3 198 199 200 201 202 453 <| fc "shared_bottom" EL m1 187 69 70 246 21 1 3 64 65 66 67 68 253 <| fc "plane_of" JI m3 354 140 141 356 90 3 3 137 138 0 0 139 359 <| fc "planes_in" HL m5 475 229 230 488 162 2 3 224 225 226 227 228 501 <| fc "range_in" JJ m3 354 194 195 428 132 2 3 189 190 191 192 193 437 <| fc "own_stays" HJ m5 475 236 237 504 169 2 3 231 232 233 234 235 512 <| fc "size_of" LQ m6 344 135 136 346 87 2 3 130 131 132 133 134 351 <| fc "walls_of" JM m5 475 222 223 477 156 2 3 217 218 219 220 221 485 <| fc "stays" Rx m5 475 243 244 515 176 2 3 238 239 240 241 242 522 <| fc "all_stays" HH m5 475 248 249 525 179 2 3 245 246 0 0 247 528 <| fc "all_stretches" EJ m2 277 114 115 318 77 1 3 111 112 0 0 113 321 <| fc "many_of" LP m2 277 121 122 324 79 2 3 116 117 118 119 120 329 <| fc "full" WI m5 475 255 256 531 181 2 3 250 251 252 253 254 536 <| fc "over_full" HI m5 475 262 263 539 183 2 3 257 258 259 260 261 544 <| fc "law" QO m0 547 446 447 783 357 1 3 443 444 0 0 445 786 <| [(196,⟨.type "tuple",none, .seq #[(.int 1 442),(.int 1 443)] 0, #[]⟩),(197,⟨.type "tuple",none, .seq #[(.int (-1) 446),(.int 1 447)] 0, #[]⟩)])
def KA:zy zu:= [3,276,277,346,347,283,284,297,298,417,418,325,326,332,333,339,340,424,425,290,291,395,396,429,430,311,312,378,379,363,364,385,386,434,435,304,305,356,357,441,442,400,401,407,408,318,319,351,352,373,374,368,369,390,391,412,413,269,270,20,21,27,28,34,35,62,63,76,77,83,84,90,91,95,96,102,103,109,110,128,129,145,146,152,153,159,160,166,167,173,174,180,181,187,188,41,42,55,56,48,49,210,211,215,216,203,204,69,70,140,141,229,230,194,195,236,237,135,136,222,223,243,244,248,249,114,115,121,122,255,256,262,263,446,447,196,197]
def q:zp:={K42.pwA with main:={K42.pwA.main with body:= [top 1,top 2,top 3,top 4,top 5,top 6,top 7,top 8,top 9,top 10,top 12,top 13,top 14,top 15,top 16,top 17,top 18,top 20,top 22,top 23,top 24,top 25,top 26,top 27,top 28,top 29,top 30,top 32,top 33,top 34,top 35,top 36,top 38,top 39,top 40,top 41,top 42,top 43,top 44,top 46,top 47,top 48,top 49,top 50,top 51,top 52,top 53,top 54,top 55,top 56,top 57,top 58,top 59,top 60,top 61,top 62,top 63,top 64,top 65,top 66,top 67,top 68,top 69,top 70,top 71,top 72,top 73,top 74,top 75] }}
end K42
open PySem PySem.W PyProof.Rows
def K42.se (s:zw):=openSeen K42.q [] (importedModules (K42.pwA).main.body) (λs=>xlAt K42.q [] s&&recOk [] s) true s
def K42.go:=openGood K42.q []
def K42.rn (w:zm):=openEnds treeTable K42.pwA w 6000
def K42.l0:∀w,(K42.rn w).map (λs=>(K42.se s).1)=some (K42.go.1):=by intro w;kernel_rfl
def K42.l1:∀w,(K42.rn w).map (λs=>(K42.se s).2.1)=some (K42.go.2.1):=by intro w;kernel_rfl
def K42.l2:∀w,(K42.rn w).map (λs=>(K42.se s).2.2.1)=some (K42.go.2.2.1):=by intro w;kernel_rfl
def K42.l3:∀w,(K42.rn w).map (λs=>(K42.se s).2.2.2.1)=some (K42.go.2.2.2.1):=by intro w;kernel_rfl
def K42.l4:∀w,(K42.rn w).map (λs=>(K42.se s).2.2.2.2)=some (K42.go.2.2.2.2):=by intro w;kernel_rfl
def K42.l5:∀w,(K42.rn w).map (λs=>K42.KA.map s.heap.get?)=some ((K42.KK w.params).map λp=>some p.2):=by intro w;kernel_rfl
def K42.w1:PySem.Challenge.rw_skylanes_k42_full_and_over_full.wellSaid=true:=by
 kernel_rfl
def K42.w0:PySem.Challenge.rw_skylanes_k42_full_and_over_full.row.wellSaid=true:=by
 kernel_rfl
end
namespace PySem
open Sem (wp)
abbrev FK:=(Int×Int)×Int
section
variable {prog:zp}{w:zm}
def Ia (prog:zp)(w:zm)(h:zl)(k:FK)(a:zu):Prop:=∃o items n b u,h.get? a=some o/\o.cls= .type "tuple" /\o.data= .seq items n/\items.toList= [.ref b, .int k.2 u] /\IsTupleKey (intKind prog w) h [k.1.1,k.1.2] b
def Ia.typeIs {s:zw}{k:FK}{a:zu}(x:Ia prog w s.heap k a):s.TypeIs (.ref a) "tuple" :=let ⟨o,_,_,_,_,b,hc,_⟩:=x;⟨o,b,hc⟩
def Ia.inj {h:zl}{a:zu}{x y:FK}(hx:Ia prog w h x a)(hy:Ia prog w h y a):x=y:=by obtain⟨o,items,n,b,u,i,_,hd,hi,hk⟩:=hx;obtain⟨j,c,m,p,r,k,_,e,f,l⟩:=hy;obtain rfl:o=j:=AAY (i.symm.trans k);rw[hd] at e;injection e with h1 _;subst h1;rw[hi] at f;injection f with h1 h2;injection h1 with h1;subst h1;injection h2 with h2 _;injection h2 with h2 _;have:=hk.inj l;obtain⟨⟨s,t⟩,v⟩:=x;obtain⟨⟨y1,y2⟩,y3⟩:=y;injection this with g d;injection d with d _;simp only at h2 g d;subst h2;subst g;subst d;rfl
def Ia.keeps {h h':zl}{k:FK}{a d:zu}{o:Obj}{es ep}(x:Ia prog w h k a)(e:h.get? d=some o)(hd:o.data= .dict es ep)(hs:Heap.SameBut d h h'):Ia prog w h' k a:=by
 obtain⟨f,items,n,b,u,g,hc,c,hi,hk⟩:=x;have i:a≠d:=by rintro rfl;obtain rfl:f=o:=AAY (g.symm.trans e);rw[hd] at c;exact nomatch c
 exact⟨f,items,n,b,u,(hs.2 a i).trans g,hc,c,hi,hk.keeps e hd hs⟩
def VS (prog:zp)(w:zm)(k:FK):Int:=reduceHash (Builtin.Tuple.tupleHashOf [tupleKeyHash (intKind prog w) [k.1.1,k.1.2],hashInt k.2])
variable {A:zk}{E:zx->zw->Prop}{s:zw}
def MV {k:FK}{a:zu}{Q:Int->zw->Prop}(hu:A.units+1<cLine)(hk:Ia prog w s.heap k a)(h:Q (VS prog w k) {s with toks:=s.toks+5}):wpAny (model prog w) A (pyHash (.ref a)) Q E s:=by
 have f:=hk.typeIs;obtain⟨o,items,n,b,u,i,_,hd,hi,j⟩:=hk;unfold pyHash;first | unfold pyHashByItsType|skip
 first | refine AAA (wpAny_cRoomFor_or (.inr (by omega)) ?_)|skip
 refine AAA (ABb f ACX.lookup ?_);show wpAny _ _ (if (some (Value.builtin "tuple.__hash__")==some Value.none)=true then _ else _) Q E s;rw[AAD (by rw[beq_builtin_none];exact AAQ)];refine AAA (ABb f ACX.lookup ?_);show wpAny _ _ (callSpecialIfBoundUnlessNone? (.ref a) "__hash__" _ >>= _) Q E s;refine AAA (wpAny_callSpecialIfBoundUnlessNone?_slot f ACX (AA4 ACX f F.entry_tuple_hash ?_ (F.args_tuple_hash_1 _)));show wpAny _ _ (Builtin.Tuple.tupleItemsOf (.ref a) >>= _) _ _ s;refine AAA (ADA i hd ?_);refine AAA ?_;rw[<-ADB,hi];refine ACY _
  (λrest (r:Array Int) d=>(rest= [.ref b, .int k.2 u] /\r.toList= [] /\d=s)\/(rest= [.int k.2 u] /\r.toList= [tupleKeyHash (intKind prog w) [k.1.1,k.1.2]] /\d={s with toks:=s.toks+3})\/
    (rest= [] /\r.toList= [tupleKeyHash (intKind prog w) [k.1.1,k.1.2],hashInt k.2] /\d={s with toks:=s.toks+4}))
  _ ?_ ?_ _ _ (.inl ⟨rfl,rfl,rfl⟩)
 .rintro x rest r d (⟨c,e,rfl⟩|⟨c,e,rfl⟩|⟨c,_⟩)
  .cases c;refine AAA (wpAny_pyHash_tuple (knd:=intKind prog w) (by first | exact hu|omega) j ?_);exact AAC (.inr (.inl ⟨rfl,by simp[e],rfl⟩))
  .cases c;refine AAA (wpAny_pyHash_int ?_);exact AAC (.inr (.inr ⟨rfl,by simp[e],by simp[ADC]⟩))
  .cases c
 .rintro r d (⟨c,_⟩|⟨c,_⟩|⟨_,e,rfl⟩)
  .cases c
  .cases c
  .show wpAny _ _ (retInt (Builtin.Tuple.tupleHashOf r.toList)) _ _ _;rw[e];refine wpAny_ret_mkInt ?_;show wpAny _ _ (if (decide (-(2:Int)^63<=Builtin.Tuple.tupleHashOf [tupleKeyHash (intKind prog w) [k.1.1,k.1.2],hashInt k.2])&&decide (Builtin.Tuple.tupleHashOf [tupleKeyHash (intKind prog w) [k.1.1,k.1.2],hashInt k.2] < 2^63))=true then _ else _) Q E _;unfold VS reduceHash at h;by_cases g:(decide (-(2:Int)^63<=Builtin.Tuple.tupleHashOf [tupleKeyHash (intKind prog w) [k.1.1,k.1.2],hashInt k.2])&&decide (Builtin.Tuple.tupleHashOf [tupleKeyHash (intKind prog w) [k.1.1,k.1.2],hashInt k.2] < 2^63))=true
   .rw [AAE g];rw[AAE g] at h;exact AAC (by simpa[ADC] using h)
   .rw [AAD g];rw[AAD g] at h;exact AAA (ABD (AAC (by simpa[ADC] using h)))
def VT {x y:FK}{a b:zu}{P:Fin->zw->Prop}(hu:A.units<cLine)(hx:Ia prog w s.heap x a)(hy:Ia prog w s.heap y b)(h:P (.done (.ret (.bool (decide (x=y))))) s):wpAny (model prog w) A (Builtin.«tuple.__eq__» ⟨[.ref a, .ref b], []⟩) P E s:=by
 have B:=hy.typeIs;obtain⟨Q,xs,R,C,n,D,_,F,o,G⟩:=hx;obtain⟨S,ys,T,H,p,I,_,hdb,t,J⟩:=hy;have K:xs.size=2:=by rw[<-ABc,o];rfl
 have L:ys.size=2:=by rw[<-ABc,t];rfl
 obtain⟨⟨e,f⟩,c⟩:=x;obtain⟨⟨y1,y2⟩,y3⟩:=y;show wpAny _ _ (isInstance (.ref b) (.type "tuple") >>= _) _ _ s;refine AAA (ABo B ADD ?_);simp only[ABF,AAq,AAc];refine AAA (ADA D F ?_);refine AAA (ADA I hdb ?_);refine AAA ?_;rw[o,t];refine ACY _
  (λrest r g=>r.1=none/\g=s/\(rest= [(.ref C, .ref H),(.int c n, .int y3 p)] \/(rest= [(.int c n, .int y3 p)] /\e=y1/\f=y2)\/(rest= [] /\e=y1/\f=y2/\c=y3)))
  _ ?_ ?_ _ _ ⟨rfl,rfl, .inl rfl⟩
 .rintro ⟨u,v⟩ rest r g ⟨j,rfl,(hz|⟨hz,k,l⟩|⟨hz,_⟩)⟩
  .cases hz;refine AAA (wpAny_eqBool_tuple (knd:=intKind prog w) (by first | exact hu|omega) G J ?_);by_cases hk:e=y1/\f=y2
   .rw [AAk (by rw[hk.1,hk.2])];simp only[ABF,AAq,AAc];exact AAC ⟨rfl,rfl, .inr (.inl ⟨by first | trivial|rfl,hk⟩)⟩
   .rw [AAZ (by intro z;injection z with i d;injection d with d _;exact hk ⟨i,d⟩)];simp only[Bool.not_false,ABE];have m:decide ((((e,f),c):FK)=((y1,y2),y3))=false:=by apply AAZ;intro z;injection z with i d;injection i with M N;exact hk ⟨M,N⟩
    rw[m] at h;exact AAA (AAC (AAC (AAC h)))
  .cases hz;refine AAA (wpAny_eqBool_int ?_);by_cases hk:c=y3
   .rw [show (c==y3)=true by simp[hk]];simp only[ABF,AAq,AAc];exact AAC ⟨rfl,rfl, .inr (.inr ⟨by first | trivial|rfl,k,l,hk⟩)⟩
   .rw [show (c==y3)=false by simp[hk]];simp only[Bool.not_false,ABE];have m:decide ((((e,f),c):FK)=((y1,y2),y3))=false:=by apply AAZ;intro z;injection z with i d;exact hk d
    rw[m] at h;exact AAA (AAC (AAC (AAC h)))
  .cases hz
 .rintro ⟨U,W⟩ g ⟨j,rfl,(hz|⟨hz,_⟩|⟨_,k,l,O⟩)⟩
  .cases hz
  .cases hz
  .simp only at j;subst j;refine AAC ?_;show P (.done (.ret (.bool (xs.size==ys.size)))) g;rw[K,L];rw[AAk (by rw[k,l,O])] at h;exact h
def MU {x y:FK}{a b:zu}{Q:zq->zw->Prop}(hu:A.units+1<cLine)(hx:Ia prog w s.heap x a)(hy:Ia prog w s.heap y b)(h:Q (decide (x=y)) s):wpAny (model prog w) A (eqBool (.ref a) (.ref b)) Q E s:=by
 unfold eqBool;try with_reducible refine AAl ?_
 show wpAny _ _ (if (Value.ref a==Value.ref b)=true then _ else _) Q E s;by_cases c:(Value.ref a==Value.ref b)=true
 .rw [AAE c];have e:a=b:=by have:=eq_of_beq c;injection this
  subst e;obtain rfl:=hx.inj hy;exact AAA (ABD (AAC (by simpa using h)))
 .rw [AAD c];exact AAA (wpAny_richCompare_same_room (op:= .Eq) hx.typeIs hy.typeIs ACZ
   (AA4 ACZ hx.typeIs F.entry_tuple_eq (VT (by first | exact hu|omega) hx hy ⟨_,rfl,(λe=>nomatch e),ABO h⟩) (F.args_tuple_eq_2 _ _)) (by omega))
def GL {K:Type}[DecidableEq K]{knd:KeyKind prog w K}{f:zy K}{a:zu}{Q:zq->zw->Prop}(m:Nat)(hk:IsTupleKey knd s.heap f a)(h:Q true s):wpAny (model prog w) A (eqIsQuiet (m+1) (.ref a)) Q E s:=by
 have d:=hk.typeIs;obtain⟨o,items,n,g,_,hd,hi⟩:=hk;unfold eqIsQuiet;refine AAA (ABb d ACZ.lookup ?_);show wpAny _ _ (isInstance (.ref a) (.type "tuple") >>= _) _ _ s;refine AAA (ABo d ADD ?_);simp only[ABF,AAq,AAc];refine AAA (AA8 g hd ?_);refine AAA ?_;show wpAny _ _ (forIn items _ _) _ _ s;rw[<-ADB];refine ACY _ (λrest r b=>r.1=none/\b=s/\∀v∈rest,carriedByValue v=true) _ ?_ ?_ _ _ ⟨rfl,rfl,hi.byValue⟩
 .rintro v rest r b ⟨c,rfl,e⟩;rw[eqIsQuiet_byValue _ (e v ABd)];refine AAA (AAC ?_);simp only[ABF,AAq,AAc];exact AAC ⟨rfl,rfl,λu i=>e u (ABG _ i)⟩
 .rintro ⟨j,k⟩ b ⟨c,rfl,_⟩;simp only at c;subst c;exact AAC h
def JS {k:FK}{a:zu}{Q:zq->zw->Prop}(hk:Ia prog w s.heap k a)(h:Q true s):wpAny (model prog w) A (eqIsQuiet 8 (.ref a)) Q E s:=by
 have e:=hk.typeIs;obtain⟨o,items,n,b,u,f,_,hd,hi,g⟩:=hk;unfold eqIsQuiet;refine AAA (ABb e ACZ.lookup ?_);show wpAny _ _ (isInstance (.ref a) (.type "tuple") >>= _) _ _ s;refine AAA (ABo e ADD ?_);simp only[ABF,AAq,AAc];refine AAA (AA8 f hd ?_);refine AAA ?_;show wpAny _ _ (forIn items _ _) _ _ s;rw[<-ADB,hi];refine ACY _ (λrest r c=>r.1=none/\c=s/\(rest= [.ref b, .int k.2 u] \/rest= [.int k.2 u] \/rest= [])) _ ?_ ?_ _ _ ⟨rfl,rfl, .inl rfl⟩
 .rintro v rest r c ⟨d,rfl,(hz|hz|hz)⟩
  .cases hz;refine AAA (GL (knd:=intKind prog w) 6 g ?_);simp only[ABF,AAq,AAc];exact AAC ⟨rfl,rfl, .inr (.inl (by first | trivial|rfl))⟩
  .cases hz;rw[eqIsQuiet_byValue _ rfl];refine AAA (AAC ?_);simp only[ABF,AAq,AAc];exact AAC ⟨rfl,rfl, .inr (.inr (by first | trivial|rfl))⟩
  .cases hz
 .rintro ⟨i,j⟩ c ⟨d,rfl,_⟩;simp only at d;subst d;exact AAC h
end
def fkKind (prog:zp)(w:zm):HeapKind prog w FK where
 is:=Ia prog w
 hash:=VS prog w
 draws:=λ_=>5
 room:=λA=>A.units+1<cLine
 inj:=λhx hy=>hx.inj hy
 keeps:=λx a hd hs=>x.keeps a hd hs
 pyHash:=λhu hk h=>MV hu hk h
 eqBool:=λhu hx hy h=>MU hu hx hy h
 quiet:=λhk h=>JS hk h
def DP {prog:zp}{w:zm}{A:zk}(h:A.units+2<cLine):(fkKind prog w).room A.in1:=by show A.units+1+1<cLine;omega
end PySem
namespace L2
open PySem PySem.Spec PyProof.Rows
abbrev Cr:=Sum Int Str
def QK:Cr->zx->zq
 | .inl k,v=>Value.isInt k v
 | .inr x,v=>Value.isStrOf x v
def rO (w:zm):Cr->Int
 | .inl k=>hashInt k
 | .inr x=>hashStr w x
def Bp:∀{k:Cr} {v:zx},QK k v=true->(∃i t,k=Sum.inl i/\v=Value.int i t)\/(∃x t,k=Sum.inr x/\v=Value.str x t)
 | .inl i,v,h=>by obtain⟨t,e⟩:=Value.isInt_shape (k:=i) (v:=v) h;exact .inl ⟨i,t,rfl,e⟩
 | .inr x,v,h=>by obtain⟨t,e⟩:=Value.isStrOf_shape (x:=x) (v:=v) h;exact .inr ⟨x,t,rfl,e⟩
def Yz (i:Int)(t:Tok):QK (.inl i) (.int i t)=true:=by simp[QK,Value.isInt]
def Y0 (x:Str)(t:Tok):QK (.inr x) (.str x t)=true:=by simp[QK,Value.isStrOf]
def jo (a b:Int):decide ((Sum.inl a:Cr)=Sum.inl b)=(a==b):=by
 by_cases e:a=b
 .subst e;simp
 .have h:¬(Sum.inl a:Cr)=Sum.inl b:=λq=>e (Sum.inl.inj q);rw[AAZ h];exact(ACa.mpr e).symm
def jr (a b:Str):decide ((Sum.inr a:Cr)=Sum.inr b)=decide (a=b):=by
 by_cases e:a=b
 .subst e;simp
 .have h:¬(Sum.inr a:Cr)=Sum.inr b:=λq=>e (Sum.inr.inj q);rw[AAZ h,AAZ e]
def jp (a:Int)(b:Str):decide ((Sum.inl a:Cr)=Sum.inr b)=false:=AAZ (λq=>nomatch q)
def jq (a:Str)(b:Int):decide ((Sum.inr a:Cr)=Sum.inl b)=false:=AAZ (λq=>nomatch q)
def A8 (prog:zp)(w:zm):PySem.KeyKind prog w Cr where
 is:=QK
 hash:=rO w
 inj:=λv a b ha hb=>by
  rcases Bp ha with⟨i,t,rfl,rfl⟩|⟨x,t,rfl,rfl⟩
  .rcases Bp hb with⟨j,u,rfl,e⟩|⟨y,u,rfl,e⟩
   .injection e with c _;rw[c]
   .exact nomatch e
  .rcases Bp hb with⟨j,u,rfl,e⟩|⟨y,u,rfl,e⟩
   .exact nomatch e
   .injection e with c _;rw[c]
 byValue:=λk v h=>by rcases Bp h with⟨i,t,rfl,rfl⟩|⟨x,t,rfl,rfl⟩ <;> rfl
 pyHash:=λhv h=>by
  rcases Bp hv with⟨i,t,rfl,rfl⟩|⟨x,t,rfl,rfl⟩
  .exact wpAny_pyHash_int h
  .exact wpAny_pyHash_str h
 eqBool:=λhu hv h=>by
  rcases Bp hu with⟨i,t,rfl,rfl⟩|⟨x,t,rfl,rfl⟩
  .rcases Bp hv with⟨j,u,rfl,rfl⟩|⟨y,u,rfl,rfl⟩
   .rw [jo] at h;exact wpAny_eqBool_int h
   .rw [jp] at h;exact SeqAt.EqAt.int_str i t y u _ _ _ _ h
  .rcases Bp hv with⟨j,u,rfl,rfl⟩|⟨y,u,rfl,rfl⟩
   .rw [jq] at h;exact SeqAt.EqAt.str_int x t j u _ _ _ _ h
   .rw [jr] at h;exact wpAny_eqBool_str h
 «strs»:=λk x t v h=>by
  rcases Bp h with⟨i,u,rfl,e⟩|⟨y,u,rfl,e⟩
  .exact nomatch e
  .injection e with c _;subst c;cases v <;> rfl
def Tt (prog:zp)(w:zm)(i:Int)(t:Tok):(A8 prog w).is (.inl i) (.int i t)=true:=Yz i t
def Tu (prog:zp)(w:zm)(x:Str)(t:Tok):(A8 prog w).is (.inr x) (.str x t)=true:=Y0 x t
inductive V where
 | non|bl (b:Bool)|int (i:Int)|str (x:Str)|byt (b:Array UInt8)|flt (b:UInt64)|ref (a:Addr)|ty (n:String)
 deriving DecidableEq
def RelV:V->zx->Prop
 | .non,u=>u=Value.none
 | .bl b,u=>u=Value.bool b
 | .int i,u=>∃t,u=Value.int i t
 | .str x,u=>∃t,u=Value.str x t
 | .byt b,u=>∃t,u=Value.bytes b t
 | .flt b,u=>∃t,u=Value.float b t
 | .ref a,u=>u=Value.ref a
 | .ty n,u=>u=Value.type n
abbrev Ap:zy V->zy zx->Prop:=Paired RelV
def Ap.length {xs:zy V}{us:zy zx}(r:Ap xs us):xs.length=us.length:=ABp r
theorem Ap.get:∀{xs:zy V} {us:zy zx} {i:Nat} {x:V},Ap xs us->xs[i]? =some x->∃u,us[i]? =some u/\RelV x u
 | _,_,_,_, .nil,e=>by simp at e
 | _,_,0,_, .cons r _,e=>by simp at e;subst e;exact⟨_,rfl,r⟩
 | _,_,i+1,x, .cons _ t,e=>by obtain⟨u,h1,h2⟩:=Ap.get (i:=i) (x:=x) t (by simpa using e);exact⟨u,by simpa using h1,h2⟩
theorem Ap.set {x:V}{u:zx}(r:RelV x u):∀{xs:zy V} {us:zy zx} (i:Nat),Ap xs us->Ap (xs.set i x) (us.set i u)
 | _,_,_, .nil=> .nil
 | _,_,0, .cons _ t=> .cons r t
 | _,_,i+1, .cons q t=> .cons q (Ap.set r i t)
theorem Ap.append:∀{xs ys:zy V} {us a:zy zx},Ap xs us->Ap ys a->Ap (xs++ys) (us++a)
 | _,_,_,_, .nil,s=>s
 | _,_,_,_, .cons r t,s=> .cons r (Ap.append t s)
theorem Ap.take:∀{xs:zy V} {us:zy zx} (n:Nat),Ap xs us->Ap (xs.take n) (us.take n)
 | _,_,0,_=> .nil
 | _,_,_+1, .nil=> .nil
 | _,_,n+1, .cons r t=> .cons r (Ap.take n t)
theorem Ap.drop:∀{xs:zy V} {us:zy zx} (n:Nat),Ap xs us->Ap (xs.drop n) (us.drop n)
 | _,_,0,r=>r
 | _,_,_+1, .nil=> .nil
 | _,_,n+1, .cons _ t=>Ap.drop n t
def Ap.none_of:∀{xs:zy V} {us:zy zx} {i:Nat},Ap xs us->xs[i]? =none->us[i]? =none:=λ{xs us i} r e=>by have h1:=r.length;have h2:xs.length<=i:=ADE.mp e;exact ADE.mpr (by omega)
def MF:zt V->zt zx->Prop
 | some v,some u=>RelV v u
 | none,none=>True
 | _,_=>False
def KV {a:Type}:zy (a×V)->zy (a×zx)->Prop:=Paired λ(p:a×V) (q:a×zx)=>p.1=q.1/\RelV p.2 q.2
def kV:Cr->V
 | .inl i=> .int i
 | .inr x=> .str x
inductive HO where
 | lst (xs:List V)
 | tup (xs:List V)
 | dK (kvs:List (Cr×V))|dT (kvs:List (List Cr×V))|dN (K:AAB) (kvs:List (PySem.FK×V))
 | set (S:Int->Bool) (n:Nat)
 | ins (C dx:Addr) (fs:List (Str×V))
 | own (x:Addr)
 | xd (fs:List (Str×V))
 | met (f x:Addr)
 | rng (lo hi:Int)
 | frz (o:Obj) (u:HO)
 | tbl (ps:Array Value)
 | ext (φ:Heap->Prop)
abbrev Hp:=zu->zt HO
def upd (H:Hp)(a:zu)(o:HO):Hp:=λb=>if b=a then some o else H b
def Ad {H:Hp}{a:zu}{o:HO}:upd H a o a=some o:=by unfold upd;rw[AAE rfl]
def Aa {H:Hp}{a b:zu}{o:HO}(h:b≠a):upd H a o b=H b:=by unfold upd;rw[AAD h]
def iO {H:Hp}{a b:zu}{o u:HO}(h:H a=some o)(h':H b=some u)(d:o≠u):a≠b:=by intro e;subst e;rw[h] at h';exact d (AAY h')
def Ah {H:Hp}{a b:zu}{o:HO}(h:H a=some o)(h':H b=none):a≠b:=by intro e;subst e;rw[h] at h';cases h'
def Z0 (K:AAB)(H:Hp)(b:zu)(t d:Int):Prop:=H b=some (.tup [.int t, .int d])\/∃(o:Obj) (a:Array zx) (n:Nat),K.lookup b=some o/\o.cls= .type "tuple" /\o.data= .seq a n/\Ap [.int t, .int d] a.toList
def Fx (K:AAB)(H:Hp)(a:zu)(k:PySem.FK):Prop:=∃b,H a=some (.tup [.ref b, .int k.2])/\Z0 K H b k.1.1 k.1.2
def Fx.stay {K:AAB}{H c:Hp}{a:zu}{k:PySem.FK}(x:Fx K H a k)(d:∀b xs,H b=some (.tup xs)->c b=some (.tup xs)):Fx K c a k:=let ⟨b,h1,h2⟩:=x;⟨b,d _ _ h1,h2.elim (λz=> .inl (d _ _ z)) .inr⟩
section
variable (P:zp)(w:zm)
def CI (H:Hp)(h:zl)(a:zu):HO->Prop
 | .lst xs=>xs.length<=sizeLine/\∃(b:zy zx) (n:Nat),Ap xs b/\h.get? a=some {cls:= .type "list",data:= .seq b.toArray n}
 | .tup xs=>xs.length<=sizeLine/\∃b:zy zx,Ap xs b/\IsTup h a b.toArray
 | .dK kvs=>kvs.length<=sizeLine/\(a==sysModules)=false/\∃vs,KV kvs vs/\h.DictOf (A8 P w) a vs
 | .dT kvs=>kvs.length<=sizeLine/\(a==sysModules)=false/\∃xs:zy (zy Cr×zu×zx),
     Paired (λ(p:zy Cr×V) (q:zy Cr×zu×zx)=>p.1=q.1/\H q.2.1=some (.tup (p.1.map kV))/\RelV p.2 q.2.2) kvs xs/\
     ∃o es ep,h.get? a=some o/\o.ExactDict/\o.data= .dict es ep/\es.toList=xs.map (entryOfKey (tupleKind (A8 P w)))/\(xs.map (·.1)).Nodup
 | .dN K kvs=>kvs.length<=sizeLine/\(a==sysModules)=false/\∃xs:zy (PySem.FK×zu×zx),Paired (λ(p:PySem.FK×V) (q:PySem.FK×zu×zx)=>p.1=q.1/\Fx K H q.2.1 p.1/\RelV p.2 q.2.2) kvs xs/\∃o es ep,h.get? a=some o/\o.ExactDict/\o.data= .dict es ep/\es.toList=xs.map (entryOfKey (PySem.fkKind P w))/\(xs.map (·.1)).Nodup
 | .set S n=>h.SetOf (intKind P w) a S n
 | .ins C e d=>H e=some (.own a)/\d.length<=1000/\e≠a/\h.get? a=some (PySem.W.instObj C e)/\
     ∃c,h.Ns1 e c/\(∀f,MF (d.lookup f) (c f))/\PySem.Within c (d.map (·.1))
 | .own _=>∃o,h.get? a=some o
 | .xd d=>∃c,h.Ns1 a c/\∀f,MF (d.lookup f) (c f)
 | .rng lo hi=>∃t u v,h.get? a=some {cls:= .type "range",data:= .fields #[.int lo t, .int hi u, .int 1 v] }
 | .frz o u=>h.get? a=some o/\CI H h a u
 | .tbl i=>h.get? a=some {cls:= .none,data:= .fields i}
 | .met f x=>h.get? a=some (PySem.W.methodObj (.ref f) (.ref x))
 | .ext g=>g h/\(∃o,h.get? a=some o)/\∀h1 h2:zl,g h1->(∀o,h1.get? a=some o->h2.get? a=some o)->g h2
def IZ (H:Hp)(h:zl):Prop:=∀a o,H a=some o->CI P w H h a o
end
section
variable {P:zp}{w:zm}{H H':Hp}{h h':zl}{a:zu}{o:HO}
def CI.lt (x:CI P w H h a o):a<h.objs.size:=by
 cases o with
 | lst xs=>obtain⟨_,_,_,_,e⟩:=x;exact AAG e
 | tup xs=>obtain⟨_,_,_,p⟩:=x;exact p.lt
 | dK kvs=>obtain⟨_,_,_,_,o,_,_,e,_⟩:=x;exact AAG e
 | dT kvs=>obtain⟨_,_,_,_,o,_,_,e,_⟩:=x;exact AAG e
 | dN K kvs=>obtain⟨_,_,_,_,o,_,_,e,_⟩:=x;exact AAG e
 | set S n=>obtain⟨o,_,_,_,e,_⟩:=x;exact AAG e
 | ins C c b=>obtain⟨_,_,_,e,_⟩:=x;exact AAG e
 | own y=>obtain⟨_,e⟩:=x;exact AAG e
 | xd b=>obtain⟨_,⟨_,_,_,e,_⟩,_⟩:=x;exact AAG e
 | rng lo hi=>obtain⟨_,_,_,e⟩:=x;exact AAG e
 | frz d u=>obtain⟨e,_⟩:=x;exact AAG e
 | tbl g=>exact AAG (show h.get? a=some _ from x)
 | met f y=>exact AAG (show h.get? a=some _ from x)
 | ext i=>obtain⟨_,⟨_,e⟩,_⟩:=x;exact AAG e
theorem Paired.mapP {d e:Type}{F G:d->e->Prop}:∀{l₁:zy d} {c:zy e},Paired F l₁ c->(∀a b,F a b->G a b)->Paired G l₁ c
 | _,_, .nil,_=> .nil
 | _,_, .cons r t,f=> .cons (f _ _ r) (Paired.mapP t f)
def CI.stay (x:CI P w H h a o)(k:∀b u,(b=a\/H b=some (.own a))->h.get? b=some u->h'.get? b=some u)(A:∀b,H b=some (.own a)->H' b=some (.own a))(m:∀b xs,H b=some (.tup xs)->H' b=some (.tup xs)):CI P w H' h' a o:=by
 induction o with
 | lst xs=>obtain⟨z,i,n,r,e⟩:=x;exact⟨z,i,n,r,k _ _ (.inl rfl) e⟩
 | tup xs=>obtain⟨z,i,r,g,e,c⟩:=x;exact⟨z,i,r,g,k _ _ (.inl rfl) e,c⟩
 | dK kvs=>obtain⟨z,y,vs,r,g,es,ep,e,c⟩:=x;exact⟨z,y,vs,r,g,es,ep,k _ _ (.inl rfl) e,c⟩
 | dT kvs=> obtain⟨z,y,xs,r,g,es,ep,e,c⟩:=x;exact⟨z,y,xs,Paired.mapP r λp q z=>⟨z.1,m _ _ z.2.1,z.2.2⟩,g,es,ep,k _ _ (.inl rfl) e,c⟩
 | dN K kvs=> obtain⟨z,y,xs,r,g,es,ep,e,c⟩:=x;exact⟨z,y,xs,Paired.mapP r λp q z=>⟨z.1,z.2.1.stay m,z.2.2⟩,g,es,ep,k _ _ (.inl rfl) e,c⟩
 | set S n=>obtain⟨g,es,ep,t,e,c⟩:=x;exact⟨g,es,ep,t,k _ _ (.inl rfl) e,c⟩
 | ins C F B=> obtain⟨d,z,D,e,j,⟨l,es,ep,E,c⟩,r⟩:=x;exact⟨A _ d,z,D,k _ _ (.inl rfl) e,j,⟨l,es,ep,k _ _ (.inr d) E,c⟩,r⟩
 | own y=>obtain⟨g,e⟩:=x;exact⟨g,k _ _ (.inl rfl) e⟩
 | xd B=>obtain⟨j,⟨l,es,ep,e,c⟩,r⟩:=x;exact⟨j,⟨l,es,ep,k _ _ (.inl rfl) e,c⟩,r⟩
 | rng lo hi=>obtain⟨t,u,v,e⟩:=x;exact⟨t,u,v,k _ _ (.inl rfl) e⟩
 | frz g u ih=>obtain⟨e,q⟩:=x;exact⟨k _ _ (.inl rfl) e,ih q⟩
 | tbl s=> have e:h.get? a=some {cls:= .none,data:= .fields s}:=x;show h'.get? a=some {cls:= .none,data:= .fields s};exact k a _ (.inl rfl) e
 | met f y=> have e:h.get? a=some (PySem.W.methodObj (.ref f) (.ref y)):=x;show h'.get? a=some (PySem.W.methodObj (.ref f) (.ref y));exact k a _ (.inl rfl) e
 | ext G=>obtain⟨p,⟨o,e⟩,st⟩:=x;exact⟨st _ _ p λo q=>k _ _ (.inl rfl) q,⟨o,k _ _ (.inl rfl) e⟩,st⟩
def IZ.lt (x:IZ P w H h)(e:H a=some o):a<h.objs.size:=(x a o e).lt
def IZ.fresh (x:IZ P w H h)(e:h.objs.size<=a):H a=none:=by
 cases q:H a with
 | none=>rfl
 | some u=>exact absurd (AAX (x.lt q) e) (ABH _)
def IZ.kept (x:IZ P w H h)(k:∀b u,h.get? b=some u->h'.get? b=some u):IZ P w H h':=λa o e=>
 (x a o e).stay (λb u _ q=>k b u q) (λ_ q=>q) λ_ _ q=>q
def IZ.laid (x:IZ P w H h)(k:∀b u,h.get? b=some u->h'.get? b=some u)(hp:h.objs.size<=a)(new:CI P w (upd H a o) h' a o):IZ P w (upd H a o) h':=λb u e=>by
 have d:=x.fresh hp;by_cases hb:b=a
 .subst hb;rw[Ad] at e;cases e;exact new
 .rw [Aa hb] at e;exact(x b u e).stay (λc v _ q=>k c v q) (λc q=>by rw[Aa (Ah q d)];exact q) λc xs q=>by rw[Aa (Ah q d)];exact q
end
def Rd (H:Hp)(a:zu)(u:HO):Prop:=H a=some u\/∃o,H a=some (.frz o u)
def Rd.ok {P:zp}{w:zm}{H:Hp}{h:zl}{a:zu}{u:HO}(r:Rd H a u)(x:IZ P w H h):CI P w H h a u:=by
 rcases r with r|⟨o,r⟩
 .exact x a u r
 .obtain ⟨_,q⟩:=x a _ r;exact q
def mQ:zt HO->Prop
 | some (.lst _)=>True
 | some (.dK _)=>True
 | some (.dT _)=>True
 | some (.dN _ _)=>True
 | some (.set _ _)=>True
 | some (.ins _ _ _)=>True
 | some (.ext _)=>True
 | _=>False
section
variable {P:zp}{w:zm}{H:Hp}{h h':zl}{x e:zu}{o':HO}
def IZ.write (ok:IZ P w H h)(f:mQ (H x))(he:e=x\/H e=some (.own x))(k:∀b u,b≠e->h.get? b=some u->h'.get? b=some u)(j:∃u,h'.get? e=some u)(new:CI P w (upd H x o') h' x o'):IZ P w (upd H x o') h':=λb u q=>by
 have a:∀c y,H c=some (.own y)->c≠x:=λc y r z=>by subst z;rw[r] at f;exact f
 have d:∀c xs,H c=some (.tup xs)->c≠x:=λc xs r z=>by subst z;rw[r] at f;exact f
 by_cases hb:b=x
 .subst hb;rw[Ad] at q;cases q;exact new
 .rw [Aa hb] at q;by_cases g:b=e
  .have i:H b=some (.own x):=by
    rcases he with z|z
    .exact absurd (g.trans z) hb
    .rw [g];exact z
   rw[q] at i;cases i;obtain⟨v,hv⟩:=j;exact⟨v,by rw[g];exact hv⟩
  .refine (ok b u q).stay (λc v hc r=>k c v ?_ r) (λc r=>by rw[Aa (a c b r)];exact r) λc xs r=>by rw[Aa (d c xs r)];exact r
   rcases hc with rfl|hc
   .exact g
   .rintro rfl;rcases he with z|z
    .exact a c b hc z
    .rw [hc] at z;cases z;exact hb rfl
end
structure Un (fs ex:List Addr) (H H':Hp) (h h':Heap):Prop where
 keep:∀b o,h.get? b=some o->H b=none->b ∉ fs->b ∉ ex->h'.get? b=some o
 slot:∀b o,h.get? b=some o->H b=none->b∈fs->b ∉ ex->∃sl,h'.get? b=some {o with slots:=sl}
 free:∀b o,h.get? b=some o->H b=none->b ∉ ex->H' b=none
 there:∀b o,h.get? b=some o->b ∉ ex->∃o',h'.get? b=some o'
 tups:∀b xs,H b=some (.tup xs)->H' b=some (.tup xs)
 frzs:∀b o u,H b=some (.frz o u)->H' b=some (.frz o u)
 tbls:∀b ps,H b=some (.tbl ps)->∃more,H' b=some (.tbl (ps++more))
section
variable {fs fs' ex ex':zy zu}{H H1 H2:Hp}{h h1 h2 h':zl}{a x e:zu}{o:HO}
def Un.any (u:Un fs ex H H1 h h1){b:zu}{c:Obj}(q:h.get? b=some c)(n:H b=none)(hx:b ∉ ex):∃d,h1.get? b=some {c with slots:=d}:=by
 by_cases hb:b∈fs
 .exact u.slot b c q n hb hx
 .exact ⟨c.slots,u.keep b c q n hb hx⟩
def Un.kept (k:∀b u,h.get? b=some u->h'.get? b=some u):Un fs ex H H h h':=
 ⟨λb c q _ _ _=>k b c q,λb c q _ _ _=>⟨c.slots,k b c q⟩,λ_ _ _ n _=>n,λb c q _=>⟨c,k b c q⟩,λ_ _ q=>q,λ_ _ _ q=>q,λ_ d q=>⟨#[],by rw[q];simp⟩⟩
def Un.refl:Un fs ex H H h h:=Un.kept λ_ _ q=>q
def Un.laid (k:∀b u,h.get? b=some u->h'.get? b=some u)(hp:h.objs.size<=a)(c:H a=none):Un fs ex H (upd H a o) h h' where
 keep:=λb u q _ _ _=>k b u q
 slot:=λb u q _ _ _=>⟨u.slots,k b u q⟩
 free:=λb u q n _=>by rw[Aa (AAL (AAX (AAG q) hp))];exact n
 there:=λb u q _=>⟨u,k b u q⟩
 tups:=λb xs q=>by rw[Aa (Ah q c)];exact q
 frzs:=λb u xs q=>by rw[Aa (Ah q c)];exact q
 tbls:=λb d q=>⟨#[],by rw[Aa (Ah q c),q];simp⟩
def Un.write (c:mQ (H x))(he:e=x\/H e=some (.own x))(k:∀b u,b≠e->h.get? b=some u->h'.get? b=some u)(g:∃u,h'.get? e=some u):Un fs ex H (upd H x o) h h':=by
 have hx:∀b,H b=none->b≠x:=λb n z=>by subst z;rw[n] at c;exact c
 have hb:∀b,H b=none->b≠e:=λb n z=>by
  subst z;rcases he with r|r
  .exact hx b n r
  .rw [n] at r;cases r
 have d:∀b u,H b=some u->¬mQ (some u)->b≠x:=λb u q i z=>by subst z;rw[q] at c;exact i c
 refine⟨λb u q n _ _=>k b u (hb b n) q,λb u q n _ _=>⟨u.slots,k b u (hb b n) q⟩,λb u q n _=>by rw[Aa (hx b n)];exact n,λb u q _=> ?_,
  λb xs q=>by rw[Aa (d b _ q λz=>z)];exact q,λb u xs q=>by rw[Aa (d b _ q λz=>z)];exact q,λb j q=>⟨#[],by rw[Aa (d b _ q λz=>z),q];simp⟩⟩
 by_cases f:b=e
 .subst f;exact g
 .exact ⟨u,k b u f q⟩
end
def pX (h:zl)(H:Hp):zy zu:=(List.range h.objs.size).filter λa=>(H a).isSome
def Q8 (h:zl)(H:Hp):zl:=PySem.W.hideAll h (pX h H)
def Yr (h:zl)(H:Hp):(Q8 h H).objs.size=h.objs.size:=PySem.W.hideAll_size _ _
def aq {h:zl}{H:Hp}{b:zu}{o:Obj}(e:h.get? b=some o)(n:H b=none):(Q8 h H).get? b=some o:=
 PySem.W.hideAll_get _ e λa=>by have q:(H b).isSome=true:=(AB6.mp a).2;rw[n] at q;simp at q
def fS {h:zl}{H:Hp}{b:zu}{o:Obj}(e:(Q8 h H).get? b=some o):h.get? b=some o/\H b=none:=by
 have a:h.get? b=some o:=PySem.W.of_hideAll (pX h H) e;refine⟨a, ?_⟩;cases q:H b with
 | none=>rfl
 | some x=> have c:b∈pX h H:=AB6.mpr ⟨ABq.mpr (AAG a),by simp[q]⟩;have z:(Q8 h H).get? b=none:=PySem.W.hideAll_none (pX h H) c;rw[z] at e;cases e
def d9 (g h:zl)(L:zu):zy (zu×Obj):=(List.range h.objs.size).filterMap λa=>if a=L\/(g.get? a).isSome=true then none else (h.get? a).map λo=>(a,o)
def rest (g h:zl)(L d:zu):zy (zu×Obj):=(d9 g h L).filter λp=>decide (p.1≠d)
structure Mod (K:AAB) (mg:Str->Option Value) (base:Heap):Prop where
 kin:K.In base
 glob:base.Ns mainGlobals mg
 blt:∃mb,base.Ns builtinsNs mb/\∀x:Str,x≠"__name__" ->mb x=bootBuiltins x
 nolimit:base.NoLimit
structure Cx where
 prog:Program
 w:World
 K:AAB
 mg:Str->Option Value
 base:Heap
 A:Around
 N:List Str
 s₀:Shared
 H₀:Hp
 env:Env
 outer:List Env
 stack:List Env
 ex:List Addr
 fn:Str->Bool
 calm:Bool
 pn:List (Addr×Obj)
 xe:Value->Shared->Prop
def Ze (l:zy Env):zy zu:=l.filterMap (·.frame)
abbrev Cx.fs (X:Cx):zy zu:=Ze X.outer
def jC (sc:Scope)(x:Str):Prop:=sc.names.lookup x=some .local\/sc.names.lookup x=some .cell\/sc.names.lookup x=some .free
def Loc (sc:Scope)(x:Str):Prop:=sc.names.lookup x=some .local\/sc.names.lookup x=some .cell
def Look (env:Env)(h:zl)(m:Str->zt zx)(x:Str)(u:zx):Prop:=
 (env.kindOf x=some .local/\m x=some u)\/((env.kindOf x=some .cell\/env.kindOf x=some .free)/\∃c,env.cells.lookup x=some c/\h.IsCell c (some u))
structure Cx.Ok (X:Cx):Prop where
 mod:Mod X.K X.mg X.base
 kind:X.env.scope.kind= .function
 glob:X.env.globals=mainGlobals
 blt:X.env.builtins=builtinsNs
 above:X.s₀.heap.objs.size<=X.env.locals
 inj:∀x y c,X.env.cells.lookup x=some c->X.env.cells.lookup y=some c->x=y
 has:∀x,(X.env.kindOf x=some .cell\/X.env.kindOf x=some .free)->∃c,X.env.cells.lookup x=some c
 cab:∀x c,X.fn x=true->X.env.cells.lookup x=some c->X.s₀.heap.objs.size<=c
 hd:X.calm=true->X.A.handled=none
 frames:X.A.frames=some X.stack
 stk:X.stack=X.outer\/(X.stack=X.env::X.outer/\X.env.frame=some X.env.locals)
 exf:∀b∈X.ex,b≠X.env.locals/\∀x c,X.env.cells.lookup x=some c->c≠b
 bs:∀b o,X.base.get? b=some o->X.s₀.heap.get? b=some o/\X.H₀ b=none
 bsz:X.base.objs.size<=X.s₀.heap.objs.size
 noex:∀b o,X.base.get? b=some o->b ∉ X.ex
 exfs:∀b∈X.ex,b ∉ X.fs
 funs:X.s₀.heap.FunFrames X.base X.outer
 frf:∀b∈X.fs,X.H₀ b=none
structure Inv (X:Cx) (zj:List (Addr×Obj)) (σ:List (Option V)) (H:Hp) (s:Shared):Prop where
 ok:X.Ok
 os:s.os=X.s₀.os
 bare:AllBare s.gens
 base:Un X.fs X.ex X.H₀ H X.s₀.heap s.heap
 loc:∃m,s.heap.Ns X.env.locals m/\∀(i:Nat) (x:Str) (v:V),X.N[i]? =some x->σ[i]? =some (some v)->jC X.env.scope x->∃u,RelV v u/\Look X.env s.heap m x u
 cell:∀x c,X.env.cells.lookup x=some c->∃v,s.heap.IsCell c v
 free:H X.env.locals=none
 freeC:∀x c,X.env.cells.lookup x=some c->H c=none
 pin:∀p∈X.pn++zj,s.heap.get? p.1=some p.2/\H p.1=none/\p.1≠X.env.locals/\p.1 ∉ X.fs/\∀v,p.2.data≠ .cell v
 hok:IZ X.prog X.w H s.heap
 len:σ.length=X.N.length
section
variable {X:Cx}{zj:zy (zu×Obj)}{σ:zy (zt V)}{H H':Hp}{s:zw}{h':zl}
def Cx.Ok.nofr (ok:X.Ok){b:zu}{o:Obj}(e:X.base.get? b=some o):b ∉ X.fs:=λhb=>by have:=(ok.funs.mem hb).1;rw[e] at this;cases this
def Inv.bs (I:Inv X zj σ H s):∀b o,X.base.get? b=some o->s.heap.get? b=some o/\H b=none:=λb o e=>
 ⟨I.base.keep b o (I.ok.bs b o e).1 (I.ok.bs b o e).2 (I.ok.nofr e) (I.ok.noex b o e),I.base.free b o (I.ok.bs b o e).1 (I.ok.bs b o e).2 (I.ok.noex b o e)⟩
def Inv.bk (I:Inv X zj σ H s):∀b o,X.base.get? b=some o->s.heap.get? b=some o:=λb o e=>(I.bs b o e).1
def Inv.mod (I:Inv X zj σ H s):Mod X.K X.mg X.base:=I.ok.mod
def Inv.kIn (I:Inv X zj σ H s):X.K.In s.heap:=I.ok.mod.kin.keeps I.bk
def Inv.nolimit (I:Inv X zj σ H s):s.heap.NoLimit:=I.ok.mod.nolimit.keeps I.bk
def Inv.lt (I:Inv X zj σ H s):X.env.locals<s.heap.objs.size:=let ⟨_,a,_⟩:=I.loc;a.lt
def Inv.sz (I:Inv X zj σ H s):X.s₀.heap.objs.size<=s.heap.objs.size:=AAh I.ok.above (ACb I.lt)
def Inv.nofs (I:Inv X zj σ H s){a:zu}(h:s.heap.objs.size<=a):a ∉ X.fs:=λhb=>by obtain⟨_,o,b,_⟩:=I.ok.funs.mem hb;exact absurd (AAX (AAG b) (AAh I.sz h)) (ABH _)
def Inv.cne (I:Inv X zj σ H s):∀x c,X.env.cells.lookup x=some c->c≠X.env.locals:=λx c e z=>by obtain⟨v,o,a,hd⟩:=I.cell x c e;obtain⟨m,⟨f,es,ep,b,d,_⟩,_⟩:=I.loc;rw[z,b] at a;cases a;rw[d] at hd;cases hd
def Inv.funs (I:Inv X zj σ H s):s.heap.FunFrames X.base X.outer:=by
 have all:∀(l:zy Env),(∀b∈Ze l,b∈X.fs)->X.s₀.heap.FunFrames X.base l->s.heap.FunFrames X.base l:=by
  intro l;induction l with
  | nil=>intro _ _;trivial
  | cons env r ih=> intro hs hl;obtain⟨hk,⟨L,o,a,d,f,hd⟩,g⟩:=hl;have c:L∈X.fs:=hs L (by unfold Ze;rw[ADF,a];exact ABd);obtain⟨h,e⟩:=I.base.slot L o f (I.ok.frf L c) c λz=>I.ok.exfs L z c;exact⟨hk,⟨L,_,a,d,e,hd⟩,ih (λb hb=>hs b (by unfold Ze;rw[ADF,a];exact ABG _ hb)) g⟩
 exact all X.outer (λ_ hb=>hb) I.ok.funs
def Inv.stack (I:Inv X zj σ H s):s.heap.FunFrames X.base X.stack:=by
 rcases I.ok.stk with e|⟨e,a⟩
 .rw [e];exact I.funs
 .rw [e];obtain⟨m,b,_⟩:=I.loc;refine .cons (by rw[I.ok.kind];decide) a b ?_ I.funs;exact Heap.get?_none_of_le (AAh I.ok.bsz I.ok.above)
def Inv.stkSub (I:Inv X zj σ H s):∀b∈Ze X.stack,b∈X.env.locals::X.fs:=λb hb=>by
 rcases I.ok.stk with e|⟨e,a⟩
 .rw [e] at hb;exact ABG _ hb
 .rw [e] at hb;unfold Ze at hb;rw[ADF,a] at hb;exact hb
def Inv.stkFree (I:Inv X zj σ H s):∀b∈Ze X.stack,H b=none:=λb hb=>by
 rcases AAF.mp (I.stkSub b hb) with e|hb
 .rw [e];exact I.free
 .obtain ⟨_,o,a,_⟩:=I.ok.funs.mem hb;exact I.base.free b o a (I.ok.frf b hb) λz=>I.ok.exfs b z hb
def Inv.step {g':Array GenState}{t':Nat}{d':Drawn}{ch:zy zu}(I:Inv X zj σ H s)(j:∀b∈ch,(b∈X.ex\/X.s₀.heap.objs.size<=b)/\b≠X.env.locals/\(∀x c,X.env.cells.lookup x=some c->c≠b)/\∀p∈X.pn++zj,p.1≠b)(keep:∀b o,b≠X.env.locals->b ∉ X.fs->b ∉ ch->s.heap.get? b=some o->H b=none->h'.get? b=some o)(slot:∀b o,b≠X.env.locals->b∈X.fs->b ∉ ch->s.heap.get? b=some o->H b=none->∃C,h'.get? b=some {o with slots:=C})(free:∀b o,b ∉ ch->s.heap.get? b=some o->H b=none->H' b=none)(there:∀b o,b ∉ ch->s.heap.get? b=some o->∃t,h'.get? b=some t)(tups:∀b xs,H b=some (.tup xs)->H' b=some (.tup xs))(frzs:∀b o u,H b=some (.frz o u)->H' b=some (.frz o u))(tbls:∀b B,H b=some (.tbl B)->∃more,H' b=some (.tbl (B++more)))(G:∀m,s.heap.Ns X.env.locals m->h'.Ns X.env.locals m)(hok:IZ X.prog X.w H' h')(J:AllBare g'):Inv X zj σ H' {s with heap:=h',gens:=g',drawn:=d',toks:=t'}:=by
 have y:∀b o,X.s₀.heap.get? b=some o->b≠X.env.locals:=λb o e=>AAL (AAX (AAG e) I.ok.above);have f:∀b o,X.s₀.heap.get? b=some o->b ∉ X.ex->b ∉ ch:=λb o e hx hb=>by
  rcases (j b hb).1 with z|z
  .exact hx z
  .exact absurd (AAX (AAG e) z) (ABH _)
 have cellK:∀x c,X.env.cells.lookup x=some c->∀v,s.heap.IsCell c v->h'.IsCell c v:=λx c e v ⟨o,h,hd⟩=>by
  have a:c ∉ ch:=λz=>(j c z).2.2.1 x c e rfl;by_cases hc:c∈X.fs
  .obtain ⟨C,q⟩:=slot c o (I.cne x c e) hc a h (I.freeC x c e);exact⟨_,q,hd⟩
  .exact ⟨o,keep c o (I.cne x c e) hc a h (I.freeC x c e),hd⟩
 refine⟨I.ok,I.os,J,⟨λb o e n hb hx=> ?_,λb o e n hb hx=> ?_,λb o e n hx=> ?_,λb o e hx=> ?_,λb xs e=>tups b xs (I.base.tups b xs e),λb o xs e=>frzs b o xs (I.base.frzs b o xs e),λb B e=> ?_⟩, ?_,λx c e=> ?_, ?_,λx c e=> ?_,λp hp=> ?_,hok,I.len⟩
 .exact keep b o (y b o e) hb (f b o e hx) (I.base.keep b o e n hb hx) (I.base.free b o e n hx)
 .obtain ⟨C,g⟩:=I.base.slot b o e n hb hx;obtain⟨D,A⟩:=slot b _ (y b o e) hb (f b o e hx) g (I.base.free b o e n hx);exact⟨D,A⟩
 .obtain ⟨t,g⟩:=I.base.there b o e hx;exact free b t (f b o e hx) g (I.base.free b o e n hx)
 .obtain ⟨t,g⟩:=I.base.there b o e hx;exact there b t (f b o e hx) g
 .obtain ⟨m1,g⟩:=I.base.tbls b B e;obtain⟨m2,A⟩:=tbls b _ g;exact⟨m1++m2,by rw[A,Array.append_assoc]⟩
 .obtain ⟨m,K,hl⟩:=I.loc;refine⟨m,G m K,λi x v g A L=> ?_⟩;obtain⟨u,r,l⟩:=hl i x v g A L;refine⟨u,r, ?_⟩;rcases l with l|⟨k,c,e,z⟩
  .exact .inl l
  .exact .inr ⟨k,c,e,cellK x c e _ z⟩
 .obtain ⟨v,z⟩:=I.cell x c e;exact⟨v,cellK x c e v z⟩
 .obtain ⟨m,⟨o,_,_,h,_⟩,_⟩:=I.loc;exact free _ o (λz=>(j _ z).2.1 rfl) h I.free
 .obtain ⟨v,o,h,hd⟩:=I.cell x c e;exact free c o (λz=>(j c z).2.2.1 x c e rfl) h (I.freeC x c e)
 .obtain ⟨e,n,E,F,d⟩:=I.pin p hp;have a:p.1 ∉ ch:=λz=>(j p.1 z).2.2.2 p hp rfl;exact⟨keep p.1 p.2 E F a e n,free p.1 p.2 a e n,E,F,d⟩
def Inv.un {t':Nat}(I:Inv X zj σ H s)(u:Un X.fs [] H H' s.heap h')(hok:IZ X.prog X.w H' h'):Inv X zj σ H' {s with heap:=h',toks:=t'}:=by
 obtain⟨m,⟨o,es,ep,d,r⟩,_⟩:=id I.loc;obtain⟨j,g⟩:=u.any d I.free (by simp);exact I.step (g':=s.gens) (d':=s.drawn) (ch:= []) (λ_ z=>nomatch z) (λb o _ hb _ e n=>u.keep b o e n hb (by simp)) (λb o _ hb _ e n=>u.slot b o e n hb (by simp)) (λb o _ e n=>u.free b o e n (by simp)) (λb o _ e=>u.there b o e (by simp)) u.tups u.frzs u.tbls (λk h=>by
  obtain⟨l,a,c,f,i⟩:=h;rw[d] at f;cases f;exact⟨_,a,c,g,i⟩) hok I.bare
def Inv.call {g':Array GenState}{t':Nat}{d':Drawn}{ch:zy zu}(I:Inv X zj σ H s)(u:Un (Ze X.stack) ch H H' s.heap h')(hok:IZ X.prog X.w H' h')(j:AllBare g')(g:∀b∈ch,(b∈X.ex\/X.s₀.heap.objs.size<=b)/\b≠X.env.locals/\(∀x c,X.env.cells.lookup x=some c->c≠b)/\∀p∈X.pn++zj,p.1≠b):Inv X zj σ H' {s with heap:=h',gens:=g',drawn:=d',toks:=t'}:=by
 obtain⟨m,⟨o,es,ep,h,r⟩,_⟩:=id I.loc;obtain⟨t,a⟩:=u.any h I.free λz=>(g _ z).2.1 rfl;exact I.step (ch:=ch) g (λb o a hb hc e n=>u.keep b o e n (λz=>(AAF.mp (I.stkSub b z)).elim a hb) hc) (λb o _ _ hc e n=>u.any e n hc) (λb o hc e n=>u.free b o e n hc) (λb o hc e=>u.there b o e hc) u.tups u.frzs u.tbls (λv k=>by
  obtain⟨y,d,f,i,l⟩:=k;rw[h] at i;cases i;exact⟨_,d,f,a,l⟩) hok j
def Inv.turned {t':Nat}{it:zu}(I:Inv X zj σ H s)(k:∀b o,b≠it->s.heap.get? b=some o->h'.get? b=some o)(f:H it=none)(d:it≠X.env.locals)(h1:it∈X.ex\/X.s₀.heap.objs.size<=it)(h2:∀x c,X.env.cells.lookup x=some c->c≠it)(g:∀p∈X.pn++zj,p.1≠it):Inv X zj σ H {s with heap:=h',toks:=t'}:=by
 have a:∀b u,H b=some u->b≠it:=λb u e z=>by rw[z,f] at e;cases e
 refine I.step (g':=s.gens) (d':=s.drawn) (ch:= [it]) (λb hb=> ?_) (λb o _ _ hc e _=>k b o (λz=>hc (by simp[z])) e) (λb o _ _ hc e _=>⟨o.slots,k b o (λz=>hc (by simp[z])) e⟩) (λ_ _ _ _ n=>n)
  (λb o hc e=>⟨o,k b o (λz=>hc (by simp[z])) e⟩) (λ_ _ e=>e) (λ_ _ _ e=>e) (λb j e=>⟨#[],by rw[e];simp⟩) (λm h=> ?_) (λb u e=> ?_) I.bare
 .have e:b=it:=by simpa using hb
  subst e;exact⟨h1,d,h2,g⟩
 .obtain ⟨o,es,ep,i,r⟩:=h;exact⟨o,es,ep,k _ o (AAi d) i,r⟩
 .refine (I.hok b u e).stay (λc v hc q=>k c v ?_ q) (λ_ q=>q) λ_ _ q=>q;rcases hc with z|z
  .rw [z];exact a b u e
  .exact a c _ z
def Inv.tok (I:Inv X zj σ H s)(t:Nat):Inv X zj σ H {s with toks:=t}:=I.un (h':=s.heap) (t':=t) Un.refl I.hok
def Inv.kept {t':Nat}(I:Inv X zj σ H s)(k:∀b u,s.heap.get? b=some u->h'.get? b=some u):Inv X zj σ H {s with heap:=h',toks:=t'}:=I.un (Un.kept k) (I.hok.kept k)
def Inv.laid {a:zu}{o:HO}{t':Nat}(I:Inv X zj σ H s)(k:∀b u,s.heap.get? b=some u->h'.get? b=some u)(hp:s.heap.objs.size<=a)(new:CI X.prog X.w (upd H a o) h' a o):Inv X zj σ (upd H a o) {s with heap:=h',toks:=t'}:=I.un (Un.laid k hp (I.hok.fresh hp)) (I.hok.laid k hp new)
def Inv.write {x e:zu}{o:HO}{t':Nat}(I:Inv X zj σ H s)(a:mQ (H x))(he:e=x\/H e=some (.own x))(k:∀b u,b≠e->s.heap.get? b=some u->h'.get? b=some u)(c:∃u,h'.get? e=some u)(new:CI X.prog X.w (upd H x o) h' x o):Inv X zj σ (upd H x o) {s with heap:=h',toks:=t'}:=I.un (Un.write a he k c) (I.hok.write a he k c new)
def Inv.weak {σ':zy (zt V)}(I:Inv X zj σ H s)(hl:σ'.length=σ.length)(w:∀(i:Nat) v,σ'[i]? =some (some v)->σ[i]? =some (some v)):Inv X zj σ' H s:=
 ⟨I.ok,I.os,I.bare,I.base,let ⟨m,a,b⟩:=I.loc;⟨m,a,λi x v c d e=>b i x v c (w i v d) e⟩,I.cell,I.free,I.freeC,I.pin,I.hok,hl.trans I.len⟩
def Inv.pins_of {a:zy (zu×Obj)}(I:Inv X zj σ H s)(h:∀p∈a,s.heap.get? p.1=some p.2/\H p.1=none/\p.1≠X.env.locals/\p.1 ∉ X.fs/\∀v,p.2.data≠ .cell v):Inv X a σ H s:=
 ⟨I.ok,I.os,I.bare,I.base,I.loc,I.cell,I.free,I.freeC,λp hp=>(AAN.mp hp).elim (λz=>I.pin p (ABr _ z)) (h p),I.hok,I.len⟩
def Tz {N:zy Str}(hN:N.Nodup){i j:Nat}{x:Str}(a:N[i]? =some x)(b:N[j]? =some x):i=j:=by obtain⟨h1,c⟩:=AAx.mp a;obtain⟨h2,d⟩:=AAx.mp b;exact(List.getElem_inj hN).mp (c.trans d.symm)
def LX {M:Model}{A:zk}{E:zx->zw->Prop}{i:Nat}{x:Str}{v:V}{u:zx}{Q:Unit->zw->Prop}(I:Inv X zj σ H s)(hN:X.N.Nodup)(hi:X.N[i]? =some x)(hx:Loc X.env.scope x)(r:RelV v u)(h:∀F,Inv X zj (σ.set i (some v)) H F->(∃a,Heap.SameBut a s.heap F.heap/\(a=X.env.locals\/X.env.cells.lookup x=some a))->Q () F)(hf:X.fn x=true\/X.env.scope.names.lookup x=some .local:=by first | exact .inl rfl|exact .inr rfl|assumption):wpAny M A (storeName X.env x u) Q E s:=by
 obtain⟨m,G,hl⟩:=id I.loc;have qe:(X.env.scope.kind == .class||(X.env.scope.kind == .module&&X.env.locals != X.env.globals))=false:=by rw[I.ok.kind];rfl
 have l:i<σ.length:=by rw[I.len];exact(AAx.mp hi).1
 have t:=I.cne;have tracked:∀{a:zu} {h':zl},(∃o,s.heap.get? a=some o/\H a=none)->Heap.SameBut a s.heap h'->IZ X.prog X.w H h':=λ{a h'} ha hs b ob e=>by
  obtain⟨_,_,U⟩:=ha;refine(I.hok b ob e).stay (λc B hc q=>(hs.2 c ?_).trans q) (λ_ q=>q) λ_ _ q=>q;rintro rfl;rcases hc with rfl|hc
  .rw [U] at e;cases e
  .rw [U] at hc;cases hc
 rcases hx with hk|hk
 .refine wpAny_storeName_local hk G (λh' xQ hs=> ?_) qe;obtain⟨oL,_,_,xS,_⟩:=id G;refine h _ ⟨I.ok,I.os,I.bare,⟨λb o e n hb hx=> ?_,λb o e n hb hx=> ?_,I.base.free,λb o e hx=> ?_,I.base.tups,I.base.frzs,I.base.tbls⟩,⟨_,xQ,λj y J f g K=> ?_⟩,λy c e=> ?_,I.free,I.freeC,λp hp=> ?_,tracked ⟨oL,xS,I.free⟩ hs,by simpa using I.len⟩ ⟨_,hs, .inl rfl⟩
  .exact (hs.2 b (AAL (AAX (AAG e) I.ok.above))).trans (I.base.keep b o e n hb hx)
  .obtain ⟨L,f⟩:=I.base.slot b o e n hb hx;exact⟨L,(hs.2 b (AAL (AAX (AAG e) I.ok.above))).trans f⟩
  .obtain ⟨O,f⟩:=I.base.there b o e hx;exact⟨O,(hs.2 b (AAL (AAX (AAG e) I.ok.above))).trans f⟩
  .by_cases hj:j=i
   .subst hj;rw[hi] at f;cases f;rw[ABs l] at g;cases g;exact⟨u,r, .inl ⟨hk,by simp⟩⟩
   .rw [AAa (AAi hj)] at g;obtain⟨P,R,q⟩:=hl j y J f g K;refine⟨P,R, ?_⟩;rcases q with⟨k,e⟩|⟨k,c,e,z⟩
    .refine .inl ⟨k, ?_⟩;have:y≠x:=λe=>hj (Tz hN f (e ▸ hi));simp[this,e]
    .exact .inr ⟨k,c,e,z.sameBut hs (t y c e)⟩
  .obtain ⟨B,z⟩:=I.cell y c e;exact⟨B,z.sameBut hs (t y c e)⟩
  .obtain ⟨e,n,C,S,d⟩:=I.pin p hp;exact⟨(hs.2 p.1 C).trans e,n,C,S,d⟩
 .have T:X.fn x=true:=by
   rcases hf with z|z
   .exact z
   .rw [z] at hk;cases hk
  obtain⟨c,hc⟩:=I.ok.has x (.inl hk);obtain⟨B,z⟩:=I.cell x c hc;refine wpAny_storeName_cell I.ok.kind hk hc z (λh' W hs=> ?_);obtain⟨Y,Z,qy⟩:=id z;refine h {s with heap:=h'} ⟨I.ok,I.os,I.bare,⟨λb o e n hb hx=> ?_,λb o e n hb hx=> ?_,I.base.free,λb o e hx=> ?_,I.base.tups,I.base.frzs,I.base.tbls⟩,⟨m,G.sameBut hs (AAi (t x c hc)),λj y J f g K=> ?_⟩,λy D e=> ?_,I.free,I.freeC,λp hp=> ?_,tracked ⟨Y,Z,I.freeC x c hc⟩ hs,by simpa using I.len⟩ ⟨c,hs, .inr hc⟩
  .exact (hs.2 b (AAL (AAX (AAG e) (I.ok.cab x c T hc)))).trans (I.base.keep b o e n hb hx)
  .obtain ⟨L,f⟩:=I.base.slot b o e n hb hx;exact⟨L,(hs.2 b (AAL (AAX (AAG e) (I.ok.cab x c T hc)))).trans f⟩
  .obtain ⟨O,f⟩:=I.base.there b o e hx;exact⟨O,(hs.2 b (AAL (AAX (AAG e) (I.ok.cab x c T hc)))).trans f⟩
  .by_cases hj:j=i
   .subst hj;rw[hi] at f;cases f;rw[ABs l] at g;cases g;exact⟨u,r, .inr ⟨.inl hk,c,hc,W⟩⟩
   .rw [AAa (AAi hj)] at g;obtain⟨P,R,q⟩:=hl j y J f g K;refine⟨P,R, ?_⟩;rcases q with q|⟨k,D,e,z'⟩
    .exact .inl q
    .refine .inr ⟨k,D,e,z'.sameBut hs ?_⟩;rintro rfl;exact hj (Tz hN f (I.ok.inj _ _ _ e hc ▸ hi))
  .by_cases uE:D=c
   .subst uE;exact⟨_,W⟩
   .obtain ⟨w2,z2⟩:=I.cell y D e;exact⟨w2,z2.sameBut hs uE⟩
  .obtain ⟨e,n,C,S,d⟩:=I.pin p hp;refine⟨(hs.2 p.1 ?_).trans e,n,C,S,d⟩;intro q;rw[q,Z] at e;have q':Y=p.2:=AAY e;exact d B (by rw[<-q'];exact qy)
def HS {M:Model}{A:zk}{E:zx->zw->Prop}{i:Nat}{x:Str}{v:V}{u:zx}{Q:Unit->zw->Prop}(I:Inv X zj σ H s)(hN:X.N.Nodup)(hi:X.N[i]? =some x)(hx:Loc X.env.scope x)(r:RelV v u)(h:∀a,Inv X zj (σ.set i (some v)) H a->Q () a)(b:X.fn x=true\/X.env.scope.names.lookup x=some .local:=by first | exact .inl rfl|exact .inr rfl|assumption):wpAny M A (storeName X.env x u) Q E s:=
 LX I hN hi hx r (λa c _=>h a c) b
def Inv.call' {a:zw}{ch:zy zu}(I:Inv X zj σ H s)(d:a.os=s.os)(u:Un (Ze X.stack) ch H H' s.heap a.heap)(hok:IZ X.prog X.w H' a.heap)(f:AllBare a.gens)(g:∀b∈ch,(b∈X.ex\/X.s₀.heap.objs.size<=b)/\b≠X.env.locals/\(∀x c,X.env.cells.lookup x=some c->c≠b)/\∀p∈X.pn++zj,p.1≠b):Inv X zj σ H' a:=by obtain⟨h',g',d',t',h⟩:=a;have e:h=s.os:=d;subst e;exact I.call (g':=g') (t':=t') (d':=d') u hok f g
end
abbrev XK:=zx->zt zu->Hp->Prop
abbrev St:=zy (zt V)
abbrev VK:=V->Hp->Prop
abbrev TE:=St->Hp->VK->Prop
abbrev TT:=St->Hp->(zq->Hp->Prop)->Prop
abbrev TA:=St->Hp->(zy V->Hp->Prop)->Prop
structure ME where
 nx:St->Hp->Prop
 rt:VK
 bk:St->Hp->Prop:=λ_ _=>False
 ct:St->Hp->Prop:=λ_ _=>False
abbrev TS:=ME->St->Hp->Prop
def EP (X:Cx)(zj:zy (zu×Obj))(b:St)(Q:VK)(u:zx)(c:zw):Prop:=∃v a,Inv X zj b a c/\RelV v u/\Q v a
def TP (X:Cx)(zj:zy (zu×Obj))(c:St)(Q:zq->Hp->Prop)(b:zq)(d:zw):Prop:=∃a,Inv X zj c a d/\Q b a
def AP (X:Cx)(zj:zy (zu×Obj))(b:St)(Q:zy V->Hp->Prop)(us:zy zx)(c:zw):Prop:=∃vs a,Inv X zj b a c/\Ap vs us/\Q vs a
def SP (X:Cx)(zj:zy (zu×Obj))(D:ME)(f:Flow)(b:zw):Prop:=
 match f with
 | .next=>∃σ' a,Inv X zj σ' a b/\D.nx σ' a
 | .brk=>∃σ' a,Inv X zj σ' a b/\D.bk σ' a
 | .cont=>∃σ' a,Inv X zj σ' a b/\D.ct σ' a
 | .ret u=>∃v σ' a,Inv X zj σ' a b/\RelV v u/\D.rt v a
def PE (X:Cx)(e:zr)(t:TE):Prop:=
 ∀(zj:zy (zu×Obj)) (s:zw) (a:St) (H:Hp) (Q:VK),Inv X zj a H s->t a H Q->wpAny (model X.prog X.w) X.A (eval e X.env) (EP X zj a Q) X.xe s
def PT (X:Cx)(e:zr)(t:TT):Prop:=
 ∀(zj:zy (zu×Obj)) (s:zw) (a:St) (H:Hp) (Q:zq->Hp->Prop),Inv X zj a H s->t a H Q->wpAny (model X.prog X.w) X.A (isTrue e X.env (eval e X.env)) (TP X zj a Q) X.xe s
def PW (X:Cx)(e:zr)(t:TT):Prop:=
 ∀(whole:Sem zx) (zj:zy (zu×Obj)) (s:zw) (a:St) (H:Hp) (Q:zq->Hp->Prop),Inv X zj a H s->t a H Q->wpAny (model X.prog X.w) X.A (isTrue e X.env whole) (TP X zj a Q) X.xe s
def PW.pt {X:Cx}{e:zr}{t:TT}(h:PW X e t):PT X e t:=h _
def PA (X:Cx)(es:zy zr)(t:TA):Prop:=
 ∀(a:Pos) (zj:zy (zu×Obj)) (s:zw) (b:St) (H:Hp) (Q:zy V->Hp->Prop),Inv X zj b H s->t b H Q->wpAny (model X.prog X.w) X.A (spliced (backTo a (starEach es X.env))) (AP X zj b Q) X.xe s
def PS (X:Cx)(st:Stmt)(t:TS):Prop:=
 ∀(zj:zy (zu×Obj)) (s:zw) (a:St) (H:Hp) (D:ME),Inv X zj a H s->t D a H->wpAny (model X.prog X.w) X.A (exec st X.env) (SP X zj D) X.xe s
def Um (X:Cx)(st:zy Stmt)(t:TS):Prop:=
 ∀(zj:zy (zu×Obj)) (s:zw) (a:St) (H:Hp) (D:ME),Inv X zj a H s->t D a H->wpAny (model X.prog X.w) X.A (execs st X.env) (SP X zj D) X.xe s
def BM {b:Type}{t:Sem b}{Q c:b->zw->Prop}{M:Model}{A:zk}{E:zx->zw->Prop}{s:zw}(h:wpAny M A t Q E s)(hQ:∀a s,Q a s->c a s):wpAny M A t c E s:=AA5 h hQ λ_ _ x=>x
section
variable {X:Cx}
def DN (i:Nat):TE:=λa H Q=>∃v,a[i]? =some (some v)/\Q v H
def tC (v:V):TE:=λ_ H Q=>Q v H
def Re {i:Nat}{x:Str}{b:Pos}(hN:X.N[i]? =some x)(hv:jC X.env.scope x)(hd:(x==("__debug__" :Str))=false:=by decide)(f:(x==("__classdict__" :Str))=false:=by decide):PE X (.Name x b) (DN i):=by
 intro zj s g H Q I h;obtain⟨v,e,h⟩:=h;obtain⟨m,j,hl⟩:=I.loc;obtain⟨u,r,l⟩:=hl i x v hN e hv;have a:EP X zj g Q u s:=⟨v,H,I,r,h⟩;rcases l with⟨hk,k⟩|⟨hk,c,hc,d⟩
 .exact wpAny_Name (wpAny_loadName_local I.ok.kind hk j k a) hd
 .rcases hk with hk|hk
  .exact wpAny_Name (wpAny_loadName_cell I.ok.kind hk hc d a) hd
  .exact wpAny_Name (wpAny_loadName_free I.ok.kind hk hc d a f) hd
def A3 {i j pos}:PE X (.Constant (.int i) j pos) (tC (.int i)):=λ_ _ _ H _ I h=>wpAny_Constant_int ⟨.int i,H,I.tok _,⟨_,rfl⟩,h⟩
def nw {b j pos}:PE X (.Constant (.bool b) j pos) (tC (.bl b)):=λ_ _ _ H _ I h=>Constant_bool ⟨.bl b,H,I,rfl,h⟩
def bn {j pos}:PE X (.Constant .none j pos) (tC .non):=λ_ _ _ H _ I h=>Constant_none ⟨.non,H,I,rfl,h⟩
def kK {x j pos}:PE X (.Constant (.str x) j pos) (tC (.str x)):=λ_ _ _ H _ I h=>Calls.Constant_str ⟨.str x,H,I.tok _,⟨_,rfl⟩,h⟩
def Gl (X:Cx)(x:Str):Prop:=X.env.kindOf x=some .globalImplicit
def Xc {E:zx->zw->Prop}{zj:zy (zu×Obj)}{s:zw}{b:St}{H:Hp}{x:Str}{u:zx}{a:Pos}{Q:zx->zw->Prop}(I:Inv X zj b H s)(c:Gl X x)(d:X.mg x=some u)(h:Q u s)(hd:(x==("__debug__" :Str))=false:=by decide):wpAny (model X.prog X.w) X.A (eval (.Name x a) X.env) Q E s:=
 Calls.Name_function_global I.ok.kind c (Calls.loadGlobal_global (by rw[I.ok.glob];exact I.mod.glob.keeps I.bk) d h) hd
def K6 {E:zx->zw->Prop}{zj:zy (zu×Obj)}{s:zw}{b:St}{H:Hp}{x:Str}{u:zx}{a:Pos}{Q:zx->zw->Prop}(I:Inv X zj b H s)(c:Gl X x)(d:X.mg x=none)(hv:bootBuiltins x=some u)(h:Q u s)(e:x≠"__name__" :=by decide)(hd:(x==("__debug__" :Str))=false:=by decide):wpAny (model X.prog X.w) X.A (eval (.Name x a) X.env) Q E s:=by obtain⟨f,h1,h2⟩:=I.mod.blt;exact Calls.Name_function_global I.ok.kind c (Calls.loadGlobal_builtin (by rw[I.ok.glob];exact I.mod.glob.keeps I.bk) d (by rw[I.ok.blt];exact h1.keeps I.bk) ((h2 x e).trans hv) h) hd
def fk {x:Str}{v:V}{u:zx}{a:Pos}(b:Gl X x)(c:X.mg x=some u)(r:RelV v u)(hd:(x==("__debug__" :Str))=false:=by decide):PE X (.Name x a) (tC v):=
 λ_ _ _ H _ I h=>Xc I b c ⟨v,H,I,r,h⟩ hd
variable {a b:zr}{ta tb:TE}{pos:Pos}
def PC (X:Cx)(op:CmpOp)(a b:zr)(t:TE):Prop:=
 ∀(zj:zy (zu×Obj)) (s:zw) (e:St) (H:Hp) (Q:VK),Inv X zj e H s->t e H Q->
  wpAny (model X.prog X.w) X.A (eval a X.env) (λv c=>wpAny (model X.prog X.w) X.A (eval b X.env) (λu d=>wpAny (model X.prog X.w) X.A (compareOp op v u) (EP X zj e Q) X.xe d) X.xe c) X.xe s
def bN (b:zr){op:CmpOp}(h:op≠ .In)(h2:op≠ .NotIn):behindInMarks op b=false:=by
 have c:(op==CmpOp.In)=false:=by cases op <;> first | rfl|exact absurd rfl h
 have d:(op==CmpOp.NotIn)=false:=by cases op <;> first | rfl|exact absurd rfl h2
 cases b <;> simp[behindInMarks,c,d]
def tB (t:TE):TT:=λd H Q=>t d H λx H1=>∃c,x= .bl c/\Q c H1
def kP {op:CmpOp}{t:TE}(h:PC X op a b t)(h1:behindInMarks op b=false:=by first | exact bN _ (by decide) (by decide)|rfl):PT X (.Compare a [op] [b] pos) (tB t):=by intro zj s e H Q I hw;refine wpAny_isTrue_Compare1 (BM (h zj s e H _ I hw) λv j h1=>BM h1 λu k h2=>BM h2 λc l ⟨x,H1,f,g,i⟩=> ?_) h1;obtain⟨d,rfl,q⟩:=i;cases g;exact ABO ⟨H1,f,q⟩
def kR {e:zr}{t:TE}(h:PE X e t)(he:∀whole,isTrue e X.env whole=(do let v <-whole;standAt e.pos;holding [v] (truthy v)):=by intro _;rfl):PT X e (tB t):=by intro zj s c H Q I hw;refine isTrue_plain (BM (h zj s c H _ I hw) λv j ⟨x,H1,f,g,i⟩=> ?_) (he _);obtain⟨d,rfl,q⟩:=i;cases g;exact ABO ⟨H1,f,q⟩
variable {tA tB':TT}{rest:zy zr}
def rj (t u:TT):TT:=λd H Q=>t d H λc H1=>if c=true then u d H1 Q else Q false H1
def xw (t u:TT):TT:=λd H Q=>t d H λc H1=>if c=true then Q true H1 else u d H1 Q
def sA (t:TT):TT:=λd H Q=>t d H λc H1=>Q (!c) H1
def gG (ha:PT X a tA):PW X (.BoolOp .And [a] pos) tA:=by
 intro f zj s d H Q I h;refine isTrue_and (BM (ha zj s d H Q I h) λc g e=> ?_);cases c with
 | true=>exact isTrue_and_nil e
 | false=>exact e
def kT (ha:PT X a tA):PW X (.BoolOp .Or [a] pos) tA:=by
 intro f zj s d H Q I h;refine isTrue_or (BM (ha zj s d H Q I h) λc g e=> ?_);cases c with
 | false=>exact isTrue_or_nil e
 | true=>exact e
def kS (ha:PT X a tA)(hb:PW X (.BoolOp .And (b::rest) pos) tB'):PW X (.BoolOp .And (a::b::rest) pos) (rj tA tB'):=by
 intro g zj s d H Q I h;refine isTrue_and (BM (ha zj s d H _ I h) λc i ⟨H1,e,f⟩=> ?_);cases c with
 | true=>exact hb g zj i d H1 Q e f
 | false=>exact⟨H1,e,f⟩
def oA (ha:PT X a tA)(hb:PW X (.BoolOp .Or (b::rest) pos) tB'):PW X (.BoolOp .Or (a::b::rest) pos) (xw tA tB'):=by
 intro g zj s d H Q I h;refine isTrue_or (BM (ha zj s d H _ I h) λc i ⟨H1,e,f⟩=> ?_);cases c with
 | true=>exact⟨H1,e,f⟩
 | false=>exact hb g zj i d H1 Q e f
def kQ (ha:PT X a tA):PT X (.UnaryOp .Not a pos) (sA tA):=by intro zj s d H Q I h;exact isTrue_not (ha zj s d H (λc H1=>Q (!c) H1) I h)
def oh (ta tb:TE):TE:=λd H Q=>ta d H λx H1=>∃c,x= .bl c/\if c=true then tb d H1 Q else Q (.bl false) H1
def sB (ta tb:TE):TE:=λd H Q=>ta d H λx H1=>∃c,x= .bl c/\if c=true then Q (.bl true) H1 else tb d H1 Q
def oo (ta:TE):TE:=λd H Q=>ta d H λx H1=>∃c,x= .bl c/\Q (.bl (!c)) H1
def kJ {op}{t:TE}(h:PE X a t):PE X (.BoolOp op [a] pos) t:=λzj s c H Q I hw=>BoolOp_one (h zj s c H Q I hw)
def kF (ha:PE X a ta)(hb:PE X (.BoolOp .And (b::rest) pos) tb):PE X (.BoolOp .And (a::b::rest) pos) (oh ta tb):=by
 intro zj s e H Q I h;refine BoolOp_and (BM (ha zj s e H _ I h) λv g ⟨x,H1,f,i,d⟩=> ?_);obtain⟨c,rfl,d⟩:=d;cases i;refine ABO ?_;cases c with
 | true=>exact hb zj g e H1 Q f d
 | false=>exact⟨.bl false,H1,f,rfl,d⟩
def n8 (ha:PE X a ta)(hb:PE X (.BoolOp .Or (b::rest) pos) tb):PE X (.BoolOp .Or (a::b::rest) pos) (sB ta tb):=by
 intro zj s e H Q I h;refine BoolOp_or (BM (ha zj s e H _ I h) λv g ⟨x,H1,f,i,d⟩=> ?_);obtain⟨c,rfl,d⟩:=d;cases i;refine ABO ?_;cases c with
 | false=>exact hb zj g e H1 Q f d
 | true=>exact⟨.bl true,H1,f,rfl,d⟩
def kI (ha:PE X a ta):PE X (.UnaryOp .Not a pos) (oo ta):=by intro zj s e H Q I h;refine UnaryOp_ (BM (ha zj s e H _ I h) λv i ⟨x,H1,f,g,d⟩=> ?_);obtain⟨c,rfl,d⟩:=d;cases g;exact not_of (ABO ⟨.bl (!c),H1,f,rfl,d⟩)
def xv (t:TT)(ta tb:TE):TE:=λd H Q=>t d H λc H1=>if c=true then ta d H1 Q else tb d H1 Q
def bi {c:zr}(hc:PT X c tA)(ha:PE X a ta)(hb:PE X b tb):PE X (.IfExp c a b pos) (xv tA ta tb):=by
 intro zj s e H Q I h;refine wpAny_IfExp (BM (hc zj s e H _ I h) λd f ⟨H1,g,i⟩=> ?_);cases d with
 | true=>exact ha zj f e H1 Q g i
 | false=>exact hb zj f e H1 Q g i
end
def FH (K:AAB)(H:Hp)(a:zu)(xs:zy V):Prop:=
 Rd H a (.lst xs)\/
  ∃(o:Obj) (b:Array zx) (n:Nat),K.lookup a=some o/\o.cls= .type "list" /\o.dict=none/\o.data= .seq b n/\b.size<=sizeLine/\Ap xs b.toList
def MG (K:AAB)(H:Hp)(a:zu)(xs:zy V):Prop:=
 Rd H a (.tup xs)\/
  ∃(o:Obj) (b:Array zx) (n:Nat),K.lookup a=some o/\o.cls= .type "tuple" /\o.data= .seq b n/\b.size<=sizeLine/\Ap xs b.toList
def qN:zx->zt V
 | .none=>some .non
 | .bool b=>some (.bl b)
 | .int i _=>some (.int i)
 | .str x _=>some (.str x)
 | .bytes b _=>some (.byt b)
 | .float b _=>some (.flt b)
 | .ref a=>some (.ref a)
 | .type n=>some (.ty n)
 | _=>none
def RelV.abs {x:V}{u:zx}(r:RelV x u):qN u=some x:=by
 cases x with
 | non=>cases r;rfl
 | bl _=>cases r;rfl
 | int _=>obtain⟨t,rfl⟩:=r;rfl
 | str _=>obtain⟨t,rfl⟩:=r;rfl
 | byt _=>obtain⟨t,rfl⟩:=r;rfl
 | flt _=>obtain⟨t,rfl⟩:=r;rfl
 | ref _=>cases r;rfl
 | ty _=>cases r;rfl
def RelV.inj {x y:V}{u:zx}(r:RelV x u)(q:RelV y u):x=y:=AAY (r.abs.symm.trans q.abs)
theorem Ap.inj:∀{xs ys:zy V} {us:zy zx},Ap xs us->Ap ys us->xs=ys
 | _,_,_, .nil, .nil=>rfl
 | _,_,_, .cons r t, .cons a t'=>by rw[r.inj a,Ap.inj t t']
section
variable {X:Cx}{zj:zy (zu×Obj)}{σ:St}{H:Hp}{s:zw}{a:zu}{xs ys:zy V}
def FH.of {K:AAB}(h:H a=some (.lst xs)):FH K H a xs:= .inl (.inl h)
def Inv.list (I:Inv X zj σ H s)(h:FH X.K H a xs):∃b:zy zx,Ap xs b/\PlainL s.heap a b.toArray/\xs.length<=sizeLine:=by
 rcases h with h|⟨o,b,n,hk,hc,hd,hs,hz,r⟩
 .obtain ⟨z,b,n,r,e⟩:=h.ok I.hok;exact⟨b,r,⟨_,n,e,rfl,rfl,rfl⟩,z⟩
 .refine ⟨b.toList,r,⟨o,n,I.kIn a o hk,hc,hd,by simpa using hs⟩, ?_⟩;have e:=r.length;simp only[ABc] at e;omega
def Inv.tuple (I:Inv X zj σ H s)(h:MG X.K H a xs):∃b:zy zx,Ap xs b/\IsTup s.heap a b.toArray/\xs.length<=sizeLine:=by
 rcases h with h|⟨o,b,n,hk,hc,hs,hz,r⟩
 .obtain ⟨z,b,r,p⟩:=h.ok I.hok;exact⟨b,r,p,z⟩
 .refine ⟨b.toList,r,⟨o,I.kIn a o hk,hc,n,by simpa using hs⟩, ?_⟩;have e:=r.length;simp only[ABc] at e;omega
def Inv.list_inj (I:Inv X zj σ H s)(h:FH X.K H a xs)(h':FH X.K H a ys):xs=ys:=by
 obtain⟨b,r,⟨o,n,e,_,_,d⟩,_⟩:=I.list h;obtain⟨its',f,⟨i,j,c,_,_,d'⟩,_⟩:=I.list h';rw[e] at c;cases c;rw[d] at d';injection d' with g _;have:b=its':=by simpa using congrArg Array.toList g
 subst this;exact r.inj f
def Inv.tuple_inj (I:Inv X zj σ H s)(h:MG X.K H a xs)(h':MG X.K H a ys):xs=ys:=by
 obtain⟨b,r,⟨o,e,_,n,d⟩,_⟩:=I.tuple h;obtain⟨its',f,⟨i,c,_,j,d'⟩,_⟩:=I.tuple h';rw[e] at c;cases c;rw[d] at d';injection d' with g _;have:b=its':=by simpa using congrArg Array.toList g
 subst this;exact r.inj f
end
abbrev Cx.wish (X:Cx)(E:zx->zw->Prop):Cx:={X with xe:=E}
abbrev Cx.nox (X:Cx):Cx:=X.wish λ_ _=>False
def Cx.Ok.wish {X:Cx}(ok:X.Ok)(E:zx->zw->Prop):(X.wish E).Ok:=
 ⟨ok.mod,ok.kind,ok.glob,ok.blt,ok.above,ok.inj,ok.has,ok.cab,ok.hd,ok.frames,ok.stk,ok.exf,ok.bs,ok.bsz,ok.noex,ok.exfs,ok.funs,ok.frf⟩
def Cx.Ok.unwish {X:Cx}{E:zx->zw->Prop}(ok:(X.wish E).Ok):X.Ok:=
 ⟨ok.mod,ok.kind,ok.glob,ok.blt,ok.above,ok.inj,ok.has,ok.cab,ok.hd,ok.frames,ok.stk,ok.exf,ok.bs,ok.bsz,ok.noex,ok.exfs,ok.funs,ok.frf⟩
section
variable {X:Cx}{zj:zy (zu×Obj)}{σ:St}{H:Hp}{s:zw}{E:zx->zw->Prop}
def Inv.wish (I:Inv X zj σ H s)(E:zx->zw->Prop):Inv (X.wish E) zj σ H s:=⟨I.ok.wish E,I.os,I.bare,I.base,I.loc,I.cell,I.free,I.freeC,I.pin,I.hok,I.len⟩
def Inv.unwish (I:Inv (X.wish E) zj σ H s):Inv X zj σ H s:=⟨I.ok.unwish,I.os,I.bare,I.base,I.loc,I.cell,I.free,I.freeC,I.pin,I.hok,I.len⟩
def SP.unwish {D:ME}{f:Flow}{b:zw}(h:SP (X.wish E) zj D f b):SP X zj D f b:=by
 cases f with
 | next=>obtain⟨σ',a,I,q⟩:=h;exact⟨σ',a,I.unwish,q⟩
 | brk=>obtain⟨σ',a,I,q⟩:=h;exact⟨σ',a,I.unwish,q⟩
 | cont=>obtain⟨σ',a,I,q⟩:=h;exact⟨σ',a,I.unwish,q⟩
 | ret u=>obtain⟨v,σ',a,I,r,q⟩:=h;exact⟨v,σ',a,I.unwish,r,q⟩
def Um.nox {st:zy Stmt}{t:TS}(h:Um X.nox st t):Um X st t:=λzj s σ H D I hw=>
 AA5 (h zj s σ H D (I.wish _) hw) (λ_ _ q=>q.unwish) λ_ _ z=>False.elim z
end
section
variable {X:Cx}{st:Stmt}{rest:zy Stmt}{t u:TS}{e:zr}{te:TE}{pos:Pos}
def ib:TS:=λD a H=>D.nx a H
def We (t u:TS):TS:=λD a H=>t {D with nx:=u D} a H
def Me:Um X [] ib:=λ_ _ a H _ I h=>ACc ⟨a,H,I,h⟩
def Bi (h1:PS X st t)(h2:Um X rest u):Um X (st::rest) (We t u):=by
 intro zj s a H D I h;refine wpAny_execs_cons (BM (h1 zj s a H {D with nx:=u D} I h) λf b q=> ?_);cases f with
 | next=> obtain⟨σ',c,d,q⟩:=q;exact h2 zj b σ' c D d q
 | ret v=>exact q
 | brk=>exact q
 | cont=>exact q
def ES (h1:PS X st t):Um X [st] t:=by
 intro zj s a H D I h;refine wpAny_execs_cons (BM (h1 zj s a H D I h) λf b q=> ?_);cases f with
 | next=>exact ACc q
 | ret v=>exact q
 | brk=>exact q
 | cont=>exact q
def Inv.quiet {zj:zy (zu×Obj)}{a:St}{H:Hp}{s:zw}(I:Inv X zj a H s):interactive X.env=false:=by simp[interactive,I.ok.kind]
def iZ (te:TE):TS:=λD a H=>te a H λ_ H1=>D.nx a H1
def gE (he:PE X e te)(hs:swapsWith e none pos.line X.env=pure false:=by rfl):PS X (.Expr e pos) (iZ te):=by intro zj s a H D I h;exact wpAny_Expr_any (BM (he zj s a H _ I h) λv d ⟨x,H1,b,f,c⟩=>⟨a,H1,b,c⟩) I.quiet hs
def dJ (te:TE):TS:=λD a H=>te a H D.rt
def OI (he:PE X e te):PS X (.Return (some e) pos) (dJ te):=by intro zj s a H D I h;exact wpAny_Return_some (BM (he zj s a H _ I h) λv f ⟨x,H1,b,c,d⟩=>⟨x,a,H1,b,c,d⟩)
def oi (c:TT)(t u:TS):TS:=λD a H=>c a H λb H1=>if b=true then t D a H1 else u D a H1
def Xo {c:zr}{a b:zy Stmt}{g:TT}(hc:PT X c g)(ha:Um X a t)(hb:Um X b u):PS X (.If c a b pos) (oi g t u):=by
 intro zj s f H D I h;refine wpAny_If (BM (hc zj s f H _ I h) λd i ⟨H1,j,k⟩=> ?_);cases d with
 | true=>exact ha zj i f H1 D j k
 | false=>exact hb zj i f H1 D j k
end
abbrev TG:=V->St->Hp->(St->Hp->Prop)->Prop
abbrev VA:=zy V->St->Hp->(St->Hp->Prop)->Prop
def PG (X:Cx)(target:zr)(t:TG):Prop:=
 ∀(zj:zy (zu×Obj)) (s:zw) (a:St) (H:Hp) (v:V) (u:zx) (Q:St->Hp->Prop),Inv X zj a H s->RelV v u->t v a H Q->
  wpAny (model X.prog X.w) X.A (assign target X.env u) (λ_ c=>∃σ' b,Inv X zj σ' b c/\Q σ' b) X.xe s
def lc (X:Cx)(c:zy zr)(t:VA):Prop:=
 ∀(zj:zy (zu×Obj)) (s:zw) (a:St) (H:Hp) (vs:zy V) (us:zy zx) (Q:St->Hp->Prop),Inv X zj a H s->Ap vs us->t vs a H Q->
  wpAny (model X.prog X.w) X.A (assignInOrder ((assignEach c X.env).map (·.2)) us) (λ_ d=>∃σ' b,Inv X zj σ' b d/\Q σ' b) X.xe s
abbrev jB:=V->V->V->Hp->(Hp->Prop)->Prop
def mR (X:Cx)(t:jB):Prop:=
 ∀(zj:zy (zu×Obj)) (s:zw) (a:St) (H:Hp) (o i v:V) (b c u:zx) (Q:Hp->Prop),Inv X zj a H s->RelV o b->RelV i c->RelV v u->t o i v H Q->
  wpAny (model X.prog X.w) X.A (setItem b c u) (λ_ e=>∃d,Inv X zj a d e/\Q d) X.xe s
abbrev mT:=V->V->Hp->VK->Prop
def lf (X:Cx)(op:Operator)(t:mT):Prop:=
 ∀(zj:zy (zu×Obj)) (s:zw) (a:St) (H:Hp) (x y:V) (v u:zx) (Q:VK),Inv X zj a H s->RelV x v->RelV y u->t x y H Q->
  wpAny (model X.prog X.w) X.A (inplaceOp op v u) (EP X zj a Q) X.xe s
section
variable {X:Cx}{pos:Pos}
def Bh (i:Nat):TG:=λv a H Q=>Q (a.set i (some v)) H
def EQ {i:Nat}{x:Str}(hN:X.N.Nodup)(hi:X.N[i]? =some x)(hx:Loc X.env.scope x)(a:X.fn x=true\/X.env.scope.names.lookup x=some .local:=by first | exact .inl rfl|exact .inr rfl|assumption):PG X (.Name x pos) (Bh i):=by intro zj s c H v u Q I r h;exact ADG (HS I hN hi hx r (λd b=>⟨_,H,b,h⟩) a)
def MJ:VA:=λvs a H Q=>vs= [] /\Q a H
def C8 (t:TG)(u:VA):VA:=λvs a H Q=>∃v r,vs=v::r/\t v a H λσ' b=>u r σ' b Q
def KC:lc X [] MJ:=by intro zj s a H vs us Q I r h;obtain⟨e,h⟩:=h;subst e;cases r;exact assignInOrder_nil ⟨a,H,I,h⟩
def Dn {e:zr}{es:zy zr}{t:TG}{u:VA}(h1:PG X e t)(h2:lc X es u)(hs:(assignEach (e::es) X.env).map (·.2)=assign e X.env::(assignEach es X.env).map (·.2):=by rfl):lc X (e::es) (C8 t u):=by
 intro zj s b H vs us Q I r h;obtain⟨v,j,c,h⟩:=h;subst c;cases r with
 | cons r d=> rw[hs];refine assignInOrder_cons (BM (h1 zj s b H _ _ _ I r h) λ_ f ⟨a,H1,g,i⟩=> ?_);exact h2 zj f a H1 _ _ Q g d i
def qS (b c:TE)(t:jB):TG:=λv a H Q=>b a H λo H1=>c a H1 λi d=>t o i v d λe=>Q a e
def V8 {o i:zr}{d e:TE}{t:jB}(f:PE X o d)(hi:PE X i e)(hs:mR X t)(ha:∀v,assign (.Subscript o i pos) X.env v=(do
   let a <-holding [v] (eval o X.env);let b <-holding [v,a] (eval i X.env)
   standAt pos
   holding [v,a,b] (setItem a b v)
   release [v,a,b] []):=by intro _;rfl):PG X (.Subscript o i pos) (qS d e t):=by intro zj s c H v u Q I r h;rw[ha];refine AAA (AAl (BM (f zj s c H _ I h) λa g ⟨x,H1,j,k,l⟩=> ?_));refine AAA (AAl (BM (hi zj g c H1 _ j l) λb m ⟨y,n,p,w,z⟩=> ?_));refine AAA (AAy (AAA (AAl (BM (hs zj m c n x y v a b u _ p k w r z) λ_ D ⟨A,B,C⟩=> ?_))));exact wpAny_release ⟨c,A,B,C⟩
def Pj (te:TE)(g:TG):TS:=λD a H=>te a H λx H1=>g x a H1 D.nx
def Rf {a e:zr}{te:TE}{g:TG}(he:PE X e te)(c:PG X a g)(hs:swapsWithSole [a] e pos.line X.env=pure false:=by rfl)(hw:swappedStores [a] e X.env=pure none:=by rfl)(h1:(assignEach [a] X.env).map (·.2)= [assign a X.env] :=by rfl):PS X (.Assign [a] e pos) (Pj te g):=by intro zj s b H D I h;refine wpAny_Assign_stores (BM (he zj s b H _ I h) λv d ⟨x,H1,f,i,j⟩=> ?_) hs hw;rw[h1];exact BM (c zj d b H1 x v _ f i j) λ_ k q=>q
def FQ {i:Nat}{x:Str}{e:zr}{te:TE}{pos':Pos}(hN:X.N.Nodup)(hi:X.N[i]? =some x)(hx:Loc X.env.scope x)(he:PE X e te)(hs:swapsWith e (some (.Name x pos')) pos.line X.env=pure false:=by rfl)(a:X.fn x=true\/X.env.scope.names.lookup x=some .local:=by first | exact .inl rfl|exact .inr rfl|assumption):PS X (.Assign [.Name x pos'] e pos) (Pj te (Bh i)):=by intro zj s b H D I h;refine wpAny_Assign_Name (BM (he zj s b H _ I h) λv j ⟨y,H1,c,d,f⟩=> ?_) hs;exact HS c hN hi hx d (λk g=>⟨_,H1,g,f⟩) a
def sC (i j:Nat)(b:TA):TS:=λD a H=>b a H λvs H1=>∃v w,vs= [v,w] /\D.nx ((a.set i (some v)).set j (some w)) H1
def kO {i j:Nat}{x y:Str}{a b:zr}{r:TA}{g k l:Pos}{kt k2 pt2}(hc:X.calm=true)(hN:X.N.Nodup)(hi:X.N[i]? =some x)(hj:X.N[j]? =some y)(z:i≠j)(hx:X.env.scope.names.lookup x=some .local)(hy:X.env.scope.names.lookup y=some .local)(ha:PA X [a,b] r)(hw:swappedStores [.Tuple [.Name x g, .Name y k] kt l] (.Tuple [a,b] k2 pt2) X.env=pure (some [x,y]))(hs:swapsWithSole [.Tuple [.Name x g, .Name y k] kt l] (.Tuple [a,b] k2 pt2) pos.line X.env=pure false:=by rfl):PS X (.Assign [.Tuple [.Name x g, .Name y k] kt l] (.Tuple [a,b] k2 pt2) pos) (sC i j r):=by
 intro zj s t H D I h;rw[exec_Assign_arm];refine AAA (AAy ?_);rw[hs];refine AAA (AAC ?_);rw[AAD (by decide)];refine AAA (Tuple_ (BM (ha _ zj s t H _ I h) λus c ⟨vs,H1,B,C,m⟩=> ?_));obtain⟨v,w,E,m⟩:=m;subst E;obtain⟨d,f,rfl,rv,n⟩:∃d f,us= [d,f] /\RelV v d/\RelV w f:=by
  cases C with
  | cons p q=>
    cases q with
    | cons F G=> cases G;exact⟨_,_,rfl,p,F⟩
 refine AAz ?_ (by show 2<=sizeLine;decide);have J:Inv X zj t H1 {c with heap:=c.heap.push {cls:= .type "tuple",data:= .seq [d,f].toArray}}:=B.kept (t':=c.toks) λb o e=>AAH _ e;rw[hw];refine AAA (AAC ?_);show wpAny (model X.prog X.w) X.A (do rule "assign.swapped-stores";let items <-unpackItems (.ref c.heap.objs.size) 2 none;assignInOrder [λv=>bindName X.env y v,λv=>bindName X.env x v] items.reverse;pure Flow.next) _ _ _;refine AAA (ABD (AAA (unpackItems_tuple (items:= #[d,f]) (I.ok.hd hc) (IsTup.new c.heap _) λh' K=> ?_)));have L:=J.kept (h':=h') (t':=c.toks) λb o e=>K b o (AAL (AAG e)) e;show wpAny _ _ (assignInOrder [λv=>bindName X.env y v,λv=>bindName X.env x v] [f,d] >>= λ_=>pure Flow.next) _ _ _;refine AAA (assignInOrder_cons (wpAny_bindName (HS L hN hj (.inl hy) n (λO M=> ?_) (.inr hy))));refine assignInOrder_cons (wpAny_bindName (HS M hN hi (.inl hx) rv (λP u=>assignInOrder_nil (AAC ?_)) (.inr hx)));rw[List.set_comm _ _ (AAi z)] at u;exact⟨_,H1,u,m⟩
def rm (i:Nat)(te:TE)(b:mT):TS:=λD a H=>∃x,a[i]? =some (some x)/\te a H λy H1=>b x y H1 λz c=>D.nx (a.set i (some z)) c
def kN {i:Nat}{x:Str}{e:zr}{te:TE}{op:Operator}{f:mT}{pos':Pos}(hN:X.N.Nodup)(hi:X.N[i]? =some x)(hx:Loc X.env.scope x)(he:PE X e te)(j:lf X op f)(n:X.fn x=true\/X.env.scope.names.lookup x=some .local:=by first | exact .inl rfl|exact .inr rfl|assumption):PS X (.AugAssign (.Name x pos') op e pos) (rm i te f):=by
 intro zj s g H D I h;obtain⟨v,o,h⟩:=h;obtain⟨m,p,hl⟩:=I.loc;have d:jC X.env.scope x:=by rcases hx with k|k;exact .inl k;exact .inr (.inl k)
 obtain⟨u,r,l⟩:=hl i x v hi o d;refine wpAny_AugAssign_Name ?_;have go:wpAny (model X.prog X.w) X.A (eval e X.env) (λw a=>wpAny (model X.prog X.w) X.A (inplaceOp op u w) (λr b=>wpAny (model X.prog X.w) X.A (storeName X.env x r) (λ_=>SP X zj D .next) X.xe b) X.xe a) X.xe s:=by refine BM (he zj s g H _ I h) λw t ⟨y,H1,B,C,E⟩=> ?_;refine BM (j zj t g H1 v y u w _ B r C E) λz P ⟨Q,F,G,J,K⟩=> ?_;exact HS G hN hi hx J (λR L=>⟨_,F,L,K⟩) n
 rcases l with⟨hk,M⟩|⟨hk,c,hc,O⟩
 .exact wpAny_loadName_local I.ok.kind hk p M go
 .rcases hk with hk|hk
  .exact wpAny_loadName_cell I.ok.kind hk hc O go
  .rcases hx with k|k
   .have:X.env.scope.names.lookup x=some .free:=hk;rw[k] at this;cases this
   .have:X.env.scope.names.lookup x=some .free:=hk;rw[k] at this;cases this
def rH (f:Int->Int->Int):mT:=λx y H Q=>∃i j,x= .int i/\y= .int j/\Q (.int (f i j)) H
def jj:lf X .Add (rH λi j=>i+j):=by intro zj s e H x y v u Q I a b h;obtain⟨i,j,c,d,q⟩:=h;subst c;subst d;obtain⟨t,rfl⟩:=a;obtain⟨t',rfl⟩:=b;exact iadd_int ⟨.int _,H,I.tok _,⟨_,rfl⟩,q⟩
def lP (c:TT)(f:TS):TS:=λD a H=>∃W:Nat->St->Hp->Prop,(∃m,W m a H)/\∀m a H,W m a H->
 c a H λb H1=>if b=true then ∃N:St->Hp->Prop,(∀σ' d,N σ' d->∃e,e<m/\W e σ' d)/\f {D with nx:=N,ct:=N,bk:=D.nx} a H1 else D.nx a H1
def cF {c:zr}{body:zy Stmt}{p:TT}{r:TS}(hp:PassesOwn (model X.prog X.w) X.A X.env X.xe)(hc:PT X c p)(hb:Um X body r):PS X (.While c body [] pos) (lP p r):=by
 intro zj s y H D I h;obtain⟨W,⟨m0,z⟩,turn⟩:=h;refine wpAny_While (codeAny_whileLoop (λn B=>∃σ' t,Inv X zj σ' t B/\W n σ' t) ?_ m0 ⟨y,H,I,z⟩);rintro n C ⟨d,H1,E,F⟩;refine ABe hp (BM (hc zj C d H1 _ E (turn n d H1 F)) λb G ⟨u,x,g⟩=> ?_);cases b with
 | true=>
   obtain⟨N,hN,g⟩:=g;rw[AAE rfl];refine ABe hp (BM (hb zj G d u _ x g) λf J i=> ?_);cases f with
   | next=> obtain⟨a,e,j,k⟩:=i;obtain⟨l,m,o⟩:=hN a e k;exact⟨l,m,a,e,j,o⟩
   | cont=> obtain⟨a,e,j,k⟩:=i;obtain⟨l,m,o⟩:=hN a e k;exact⟨l,m,a,e,j,o⟩
   | brk=>exact i
   | ret v=>exact i
 | false=> rw[AAD AAQ];exact ACc ⟨d,u,x,g⟩
end
structure It where
 go:Nat->Hp->Prop
 yld:Nat->Hp->V->Hp->Prop
 stop:Nat->Hp->Prop
def EO (X:Cx)(zj:zy (zu×Obj))(H:Hp)(b:zu):Prop:=
 H b=none/\b≠X.env.locals/\b ∉ X.fs/\(b∈X.ex\/X.s₀.heap.objs.size<=b)/\(∀x c,X.env.cells.lookup x=some c->c≠b)/\∀p∈X.pn++zj,p.1≠b
def Inv.fpOk {X:Cx}{zj:zy (zu×Obj)}{d:St}{H a:Hp}{s:zw}{b:zu}(I:Inv X zj d H s)(hb:s.heap.objs.size<=b)(f:a b=none):EO X zj a b:=by
 refine⟨f,AAt (AAX I.lt hb),I.nofs hb, .inr (AAh I.sz hb),λx c e z=> ?_,λp hp z=> ?_⟩
 .obtain ⟨v,q⟩:=I.cell x c e;exact absurd (AAX q.lt (by rw[z];exact hb)) (ABH _)
 .exact absurd (AAX (AAG (I.pin p hp).1) (by rw[z];exact hb)) (ABH _)
structure Ib (P:Program) (w:World) (K:AAB) (tg:Expr) (J:It) (fp:List Addr) (it:Addr) (tn:Nat->Heap->Prop):Prop where
 mem:it∈fp
 obj:∀i h,tn i h->∀b∈fp,∃o,h.get? b=some o/\∀v,o.data≠ .cell v
 keep:∀i h h',tn i h->(∀b∈fp,∀o,h.get? b=some o->h'.get? b=some o)->tn i h'
 item:∀(X:Cx),X.prog=P->X.w=w->X.K=K->X.calm=true->∀(i:Nat) (zj:List (Addr×Obj)) (s:Shared) (σ:St) (H:Hp) (E:Value->Shared->Prop),Inv X zj σ H s->(∀b∈fp,EO X zj H b)->tn i s.heap->J.go i H->
  wpAny (model P w) X.A (pyNext (.ref it)) (λr s1=>∃u,r=some u/\
   wpAny (model P w) X.A (letOwnedTupleGo tg (.ref it) u) (λ_ s2=>∃x H',Inv X zj σ H' s2/\RelV x u/\J.yld i H x H'/\tn (i+1) s2.heap/\∀b∈fp,H' b=none) E s1) E s
 done:∀(X:Cx),X.prog=P->X.w=w->X.K=K->X.calm=true->∀(i:Nat) (zj:List (Addr×Obj)) (s:Shared) (σ:St) (H:Hp) (E:Value->Shared->Prop),Inv X zj σ H s->(∀b∈fp,EO X zj H b)->tn i s.heap->J.stop i H->
  wpAny (model P w) X.A (pyNext (.ref it)) (λr s1=>r=none/\Inv X zj σ H s1) E s
 self:∀(A:Around) (i:Nat) (s:Shared) (Q:Value->Shared->Prop) (E:Value->Shared->Prop),tn i s.heap->Q (.ref it) s->wpAny (model P w) A (pyIter (.ref it)) Q E s
abbrev TI:=St->Hp->(It->Hp->Prop)->Prop
def t0 (X:Cx)(zj:zy (zu×Obj))(e:St)(f:zr)(R:It->Hp->Prop)(a:zx)(d:zw):Prop:=
 ∃(it:zu) (fp:zy zu) (tn:Nat->zl->Prop) (J:It) (c:Hp),a= .ref it/\Inv X zj e c d/\Ib X.prog X.w X.K f J fp it tn/\tn 0 d.heap/\(∀b∈fp,EO X zj c b)/\R J c
def PI (X:Cx)(b iter:zr)(c:TI):Prop:=
 ∀(zj:zy (zu×Obj)) (s:zw) (a:St) (H:Hp) (R:It->Hp->Prop),Inv X zj a H s->c a H R->
  wpAny (model X.prog X.w) X.A (eval iter X.env) (λv d=>wpAny (model X.prog X.w) X.A (pyIter v) (t0 X zj a b R) X.xe d) X.xe s
def ae {M:Model}{A:zk}{E:zx->zw->Prop}{s:zw}{a:zr}{it:zu}{u:zx}{o:Obj}{n:String}{vs:Array zx}{Q:Unit->zw->Prop}(b:s.heap.get? it=some o)(hc:o.cls= .type n)(hd:o.data= .fields vs)(c: ["enumerate","zip","dict_itemiterator","dict_reverseitemiterator","odict_iterator","itertools.zip_longest","itertools.pairwise"].contains n=false)(hQ:Q () s):wpAny M A (letOwnedTupleGo a (.ref it) u) Q E s:=by
 unfold letOwnedTupleGo;cases a <;> first
  | exact AAC hQ
  | (cases u <;> first
      | exact AAC hQ
      | (refine AAA (wpAny_load b ?_)
         rw[hc,hd];show wpAny M A (if (["enumerate","zip","dict_itemiterator","dict_reverseitemiterator","odict_iterator","itertools.zip_longest","itertools.pairwise"].contains n&&vs[0]?==some (rawInt _))=true then _ else _) Q E s;rw[AAD (by intro h;rw[c,Bool.false_and] at h;cases h)];exact AAC hQ))
def qF (K:AAB)(a:zu):It:=
 ⟨λi H=>∃xs x,FH K H a xs/\xs[i]? =some x,λi H x b=>b=H/\∀xs,FH K H a xs->xs[i]? =some x,λi H=>∃xs,FH K H a xs/\xs.length<=i⟩
def qG (K:AAB)(a:zu):It:=
 ⟨λi H=>∃xs x,MG K H a xs/\xs[i]? =some x,λi H x b=>b=H/\∀xs,MG K H a xs->xs[i]? =some x,λi H=>∃xs,MG K H a xs/\xs.length<=i⟩
def pA (lo:Int)(n:Nat):It:=⟨λi _=>i<n,λi H x a=>a=H/\x= .int (lo+i),λi _=>n<=i⟩
def ZX {P:zp}{w:zm}{K:AAB}{B:zr}(a it:zu):Ib P w K B (qF K a) [it] it (λi h=>h.IsListIter it a i) where
 mem:=by simp
 obj:=λi h st b hb=>by
  have e:b=it:=by simpa using hb
  subst e;obtain⟨o,e,c,d⟩:=st;exact⟨o,e,λv z=>by rw[d] at z;cases z⟩
 keep:=λi h h' st k=>st.at λo e=>k it (by simp) o e
 item:=by intro X j hw l hc i zj s A H E I g st m;subst j hw l;obtain⟨xs,x,hq,hx⟩:=m;obtain⟨n,rv,p,hz⟩:=I.list hq;obtain⟨u,hu,C⟩:=rv.get hx;obtain⟨f0,f1,D,r,t,y⟩:=g it (by simp);refine wpAny_pyNext_list_item st p.isList (x:=u) (by simpa using hu) λh' f F=> ?_;have G:Inv X zj A H {s with heap:=h'}:=I.turned (t':=s.toks) (λb o hb e=>(F.2 b hb).trans e) f0 f1 r t y;obtain⟨o,e,c,d⟩:=id f;exact⟨u,rfl,ae (s:={s with heap:=h'}) e c d (by decide) ⟨x,H,G,C,⟨rfl,λys hy=>by rw[I.list_inj hy hq];exact hx⟩,f,λb hb=>(g b hb).1⟩⟩
 done:=by intro X j hw l hc i zj s A H E I g st m;subst j hw l;obtain⟨xs,hq,hx⟩:=m;obtain⟨n,rv,p,hz⟩:=I.list hq;obtain⟨f0,f1,D,r,t,y⟩:=g it (by simp);have hl:=rv.length;exact wpAny_pyNext_list_end (I.ok.hd hc) st p.isList (by simp;omega) λh' J=>⟨rfl,I.turned (t':=s.toks) (λb o hb e=>J b o hb e) f0 f1 r t y⟩
 self:=λ_ _ _ _ _ st h=>wpAny_pyIter_listiter st h
def Wm {P:zp}{w:zm}{K:AAB}{B:zr}(a it:zu):Ib P w K B (qG K a) [it] it (λi h=>h.IsTupleIter it a i) where
 mem:=by simp
 obj:=λi h st b hb=>by
  have e:b=it:=by simpa using hb
  subst e;obtain⟨o,e,c,d⟩:=st;exact⟨o,e,λv z=>by rw[d] at z;cases z⟩
 keep:=λi h h' st k=>st.at λo e=>k it (by simp) o e
 item:=by intro X l hw m hc i zj s A H E I j st n;subst l hw m;obtain⟨xs,x,hq,hx⟩:=n;obtain⟨f,rv,p,hz⟩:=I.tuple hq;obtain⟨u,hu,C⟩:=rv.get hx;obtain⟨f0,f1,D,r,t,y⟩:=j it (by simp);refine wpAny_pyNext_tuple_item st (show s.heap.IsTuple a f.toArray from p) (x:=u) (by simpa using hu) λh' g F=> ?_;have G:Inv X zj A H {s with heap:=h'}:=I.turned (t':=s.toks) (λb o hb e=>(F.2 b hb).trans e) f0 f1 r t y;obtain⟨o,e,c,d⟩:=id g;exact⟨u,rfl,ae (s:={s with heap:=h'}) e c d (by decide) ⟨x,H,G,C,⟨rfl,λys hy=>by rw[I.tuple_inj hy hq];exact hx⟩,g,λb hb=>(j b hb).1⟩⟩
 done:=by intro X l hw m hc i zj s A H E I j st n;subst l hw m;obtain⟨xs,hq,hx⟩:=n;obtain⟨f,rv,p,hz⟩:=I.tuple hq;obtain⟨f0,f1,D,r,t,y⟩:=j it (by simp);have hl:=rv.length;exact wpAny_pyNext_tuple_end (I.ok.hd hc) st (show s.heap.IsTuple a f.toArray from p) (by simp;omega) λh' J=>⟨rfl,I.turned (t':=s.toks) (λb o hb e=>J b o hb e) f0 f1 r t y⟩
 self:=λ_ _ _ _ _ st h=>wpAny_pyIter_tupleiter st h
def Wl {P:zp}{w:zm}{K:AAB}{u:zr}(it:zu)(lo:Int)(n:Nat):Ib P w K u (pA lo n) [it] it (λi h=>IsRangeIter h it (lo+(i:Nat)*1) ((n:Int)-(i:Nat)) 1) where
 mem:=by simp
 obj:=λi h st b hb=>by
  have e:b=it:=by simpa using hb
  subst e;exact⟨_,st,λv z=>by
   have x:Data.fields _=Data.cell v:=z;cases x⟩
 keep:=λi h h' st k=>k it (by simp) _ st
 item:=by intro X d hw f hc i zj s p H E I c st g;subst d hw f;obtain⟨f0,f1,y,j,l,m⟩:=c it (by simp);have W:=Walks.range (prog:=X.prog) (w:=X.w) (I.ok.hd hc) it lo 1 n;refine W.item i s _ _ g st λv h' r hv a A=> ?_;obtain⟨t,rfl⟩:=hv;have B:Inv X zj p H {s with heap:=h',toks:=r}:=I.turned (λb o hb e=>A b o (by simpa using hb) e) f0 f1 j l m;refine⟨_,rfl,ae (s:={s with heap:=h',toks:=r}) (n:="range_iterator") a rfl rfl (by decide) ⟨.int (lo+i),H,B,⟨t, ?_⟩,⟨rfl,rfl⟩,a,λb hb=>(c b hb).1⟩⟩;rw[Int.mul_one]
 done:=by intro X d hw f hc i zj s p H E I c st g;subst d hw f;obtain⟨f0,f1,y,j,l,m⟩:=c it (by simp);exact wpAny_pyNext_range_end (I.ok.hd hc) st (by have:n<=i:=g;omega) λh' C=>⟨rfl,I.turned (t':=s.toks) (λb o hb e=>C b o hb e) f0 f1 j l m⟩
 self:=λ_ _ _ _ _ st h=>wpAny_pyIter_rangeiter st h
section
variable {X:Cx}{tg:zr}
def cM {zj:zy (zu×Obj)}{a:St}{H:Hp}{s:zw}{R:It->Hp->Prop}{E:zx->zw->Prop}{lo hi:Int}{t u v:Tok}{c:Nat}(I:Inv X zj a H s)(h1: -(2^62)<=lo)(h2:lo<2^62)(f: -(2^62)<=hi)(g:hi<2^62)(q:R (pA lo (hi-lo).toNat) H):wpAny (model X.prog X.w) X.A (pyIter (.ref s.heap.objs.size)) (t0 X zj a tg R) E {s with heap:=s.heap.push {cls:= .type "range",data:= .fields #[.int lo t, .int hi u, .int 1 v] },toks:=c}:=by
 refine wpAny_pyIter_range (IsRange.new ..) (small_one h1 h2 f g) ?_;have d:Inv X zj a H {s with heap:=s.heap.push {cls:= .type "range",data:= .fields #[.int lo t, .int hi u, .int 1 v] },toks:=c}:=I.kept λb o e=>AAH _ e;refine⟨(s.heap.push {cls:= .type "range",data:= .fields #[.int lo t, .int hi u, .int 1 v] }).objs.size, [(s.heap.push {cls:= .type "range",data:= .fields #[.int lo t, .int hi u, .int 1 v] }).objs.size],_,_,H,rfl,
  d.kept (t':=c) λb o e=>AAH _ e,Wl _ lo (hi-lo).toNat, ?_,λb hb=> ?_,q⟩
 .have h:lo+((0:Nat):Int)*1=lo:=by simp
  have i:(((hi-lo).toNat:Nat):Int)-((0:Nat):Int)=Builtin.Range.rangeSize lo hi 1:=by rw[rangeSize_one];split <;> omega
  show IsRangeIter _ _ (lo+((0:Nat):Int)*1) ((((hi-lo).toNat:Nat):Int)-((0:Nat):Int)) 1;rw[h,i];exact AAS _ rfl
 .have e:b=(s.heap.push {cls:= .type "range",data:= .fields #[.int lo t, .int hi u, .int 1 v] }).objs.size:=by simpa using hb
  subst e;exact d.fpOk (AAJ _) (d.hok.fresh (AAJ _))
def nL (a:TA):TI:=λb H R=>a b H λvs H1=>∃j:Int,vs= [.int j] /\ -(2^62)<=j/\j<2^62/\R (pA 0 j.toNat) H1
def ZG {a:zr}{d:TA}{p b:Pos}(f:Gl X "range")(g:X.mg "range" =none)(ha:PA X [a] d)(hs:starEach [a] X.env= [(false,eval a X.env)] :=by rfl):PI X tg (.Call (.Name "range" p) [a] [] b) (nL d):=by
 intro zj s i H R I h;refine Call_ (K6 I f g boot_range (AB7 (BM (ha b zj s i H _ I h) λus o ⟨vs,H1,k,l,c⟩=> ?_) hs rfl));obtain⟨j,e,c,m,q⟩:=c;subst e;cases l with
 | cons r n=> cases n;obtain⟨t,rfl⟩:=r;exact call_range_1 (cM k (by omega) (by omega) c m (by simpa using q))
def lN (e:TI)(g:TG)(f:TS):TS:=λD a H=>e a H λJ H1=>∃W:Nat->Nat->St->Hp->Prop,(∃m,W 0 m a H1)/\∀i m a H,W i m a H->
 (J.stop i H/\D.nx a H)\/(J.go i H/\∃N:St->Hp->Prop,(∀σ' b,N σ' b->∃d,d<m/\W (i+1) d σ' b)/\∀x b,J.yld i H x b->g x a b λc h=>f {D with nx:=N,ct:=N,bk:=D.nx} c h)
def FP (fp:zy zu)(h:zl):zy (zu×Obj):=fp.filterMap λb=>(h.get? b).map λo=>(b,o)
def CC {fp:zy zu}{h:zl}{b:zu}{o:Obj}(hb:b∈fp)(e:h.get? b=some o):(b,o)∈FP fp h:=List.mem_filterMap.mpr ⟨b,hb,by rw[e];rfl⟩
def ZA {fp:zy zu}{h:zl}{p:zu×Obj}(hp:p∈FP fp h):p.1∈fp/\h.get? p.1=some p.2:=by
 obtain⟨b,hb,e⟩:=List.mem_filterMap.mp hp;cases q:h.get? b with
 | none=>rw[q] at e;cases e
 | some o=> rw[q] at e;have a:(b,o)=p:=AAY e;subst a;exact⟨hb,q⟩
def Inv.pinned {zj:zy (zu×Obj)}{a:St}{H:Hp}{s:zw}{fp:zy zu}(I:Inv X zj a H s)(f:∀b∈fp,EO X zj H b)(g:∀b∈fp,∃o,s.heap.get? b=some o/\∀v,o.data≠ .cell v):Inv X (zj++FP fp s.heap) a H s:=
 I.pins_of λp hp=>(AAN.mp hp).elim (λz=>I.pin p (AAW _ z)) λz=>by obtain⟨hb,e⟩:=ZA z;obtain⟨f0,f1,h,_⟩:=f p.1 hb;obtain⟨o,c,d⟩:=g p.1 hb;rw[e] at c;cases c;exact⟨e,f0,f1,h,d⟩
def Inv.unpinned {zj b:zy (zu×Obj)}{a:St}{H:Hp}{s:zw}(I:Inv X (zj++b) a H s):Inv X zj a H s:=I.pins_of λp hp=>I.pin p (AAW _ (ABr _ hp))
def WA {iter:zr}{body:zy Stmt}{Q:TI}{g:TG}{R:TS}{F:Pos}(hp:PassesOwn (model X.prog X.w) X.A X.env X.xe)(hc:X.calm=true)(hi:PI X tg iter Q)(hg:PG X tg g)(hb:Um X body R)(hs:∀x,foldedSetIterable iter X.env x=pure x:=by intro _;rfl):PS X (.For tg iter body [] F) (lN Q g R):=by
 intro zj s S H D I h;refine wpAny_For (BM (hi zj s S H _ I h) λv s1 h1=>BM h1 λitv s2 h2=> ?_) hs;obtain⟨it,fp,tn,J,H2,e,I2,T,G,U,W,⟨m0,w0⟩,turn⟩:=h2;subst e;have c:∀{p:Hp},(∀b∈fp,p b=none)->∀b∈fp,EO X zj p b:=λhn b hb=>⟨hn b hb,(U b hb).2⟩;refine codeAny_forLoop_any (λn Y=>∃i σ' p,Inv X zj σ' p Y/\tn i Y.heap/\(∀b∈fp,p b=none)/\W i n σ' p) ?_ m0 ⟨0,S,H2,I2,G,λb hb=>(U b hb).1,w0⟩;rintro n Z ⟨i,j,E,I3,z,B,w3⟩;rcases turn i n j E w3 with⟨stop,qn⟩|⟨go,N,hN,step⟩
 .refine ABe hp (BM (T.done X rfl rfl rfl hc i zj Z j E X.xe I3 (c B) z stop) λr s4 ⟨K,I4⟩=> ?_);subst K;exact ACc ⟨j,E,I4,qn⟩
 .refine ABe hp (BM (T.item X rfl rfl rfl hc i zj Z j E X.xe I3 (c B) z go) λr s4 ⟨u,K,h4⟩=> ?_);subst K;refine ABe hp (BM h4 λ_ s5 ⟨x,H5,I5,r5,y5,y,L⟩=> ?_);have M:=I5.pinned (c L) (T.obj _ _ y);refine ABe hp (BM (hg _ s5 j H5 x u _ M r5 (step x H5 y5)) λ_ s6 ⟨O,H6,I6,q6⟩=> ?_);refine ABe hp (BM (hb _ s6 O H6 _ I6 q6) λf P t=> ?_);have again:∀{a:St} {k:Hp},Inv X (zj++FP fp s5.heap) a k P->N a k->∃m,m<n/\∃i σ' p,Inv X zj σ' p P/\tn i P.heap/\(∀b∈fp,p b=none)/\W i m σ' p:=λ{a k} l C=>by obtain⟨m',hm,w7⟩:=hN a k C;refine⟨m',hm,i+1,a,k,l.unpinned,T.keep _ _ _ y λb hb o e=>(l.pin (b,o) (AAW _ (AAW _ (CC hb e)))).1,λb hb=> ?_,w7⟩;obtain⟨o,e,d⟩:=T.obj _ _ y b hb;exact(l.pin (b,o) (AAW _ (AAW _ (CC hb e)))).2.1
  cases f with
  | next=>obtain⟨a,k,l,C⟩:=t;exact again l C
  | cont=>obtain⟨a,k,l,C⟩:=t;exact again l C
  | brk=>obtain⟨a,k,l,t⟩:=t;exact⟨a,k,l.unpinned,t⟩
  | ret v=>obtain⟨x7,a,k,l,r7,t⟩:=t;exact⟨x7,a,k,l.unpinned,r7,t⟩
end
abbrev R2:=V->V->Hp->VK->Prop
def EZ (X:Cx)(f:zx->zx->Sem zx)(r:R2):Prop:=
 ∀(zj:zy (zu×Obj)) (s:zw) (a:St) (H:Hp) (x y:V) (v u:zx) (Q:VK),Inv X zj a H s->RelV x v->RelV y u->r x y H Q->
  wpAny (model X.prog X.w) X.A (f v u) (EP X zj a Q) X.xe s
def qL (X:Cx)(f:zx->Sem zx)(r:V->Hp->VK->Prop):Prop:=
 ∀(zj:zy (zu×Obj)) (s:zw) (a:St) (H:Hp) (x:V) (v:zx) (Q:VK),Inv X zj a H s->RelV x v->r x H Q->
  wpAny (model X.prog X.w) X.A (f v) (EP X zj a Q) X.xe s
def Cs (X:Cx)(f:zx)(r:zy V->Hp->VK->Prop):Prop:=
 ∀(zj:zy (zu×Obj)) (s:zw) (a:St) (H:Hp) (xs:zy V) (us:zy zx) (Q:VK),Inv X zj a H s->Ap xs us->r xs H Q->
  wpAny (model X.prog X.w) X.A (call f us) (EP X zj a Q) X.xe s
def qK (X:Cx)(r:V->Hp->(zq->Hp->Prop)->Prop):Prop:=
 ∀(zj:zy (zu×Obj)) (s:zw) (a:St) (H:Hp) (x:V) (v:zx) (Q:zq->Hp->Prop),Inv X zj a H s->RelV x v->r x H Q->
  wpAny (model X.prog X.w) X.A (truthy v) (TP X zj a Q) X.xe s
def ZU (r:R2)(b c:TE):TE:=λa H Q=>b a H λx H1=>c a H1 λy d=>r x y d Q
def x5 (r:V->Hp->VK->Prop)(a:TE):TE:=λb H Q=>a b H λx H1=>r x H1 Q
def rI (C:Int->Int->Prop)(g:Int->Int->V):R2:=λx y H Q=>∃i j,x= .int i/\y= .int j/\C i j/\Q (g i j) H
def Pb (g:Int->Int->V):R2:=λx y H Q=>∃i j,x= .int i/\y= .int j/\Q (g i j) H
def rU (g:Int->V):V->Hp->VK->Prop:=λx H Q=>∃i,x= .int i/\Q (g i) H
section
variable {X:Cx}{a b c:zr}{ta tb tc:TE}{pos:Pos}
def jL (ha:PE X a ta)(hb:PE X b tb){zj:zy (zu×Obj)}{s:zw}{d:St}{H:Hp}{R:V->V->Hp->Prop}(I:Inv X zj d H s)(h:ta d H λx H1=>tb d H1 λy e=>R x y e){Q:zx->zw->Prop}{f:zx->zx->Sem zx}(k:∀v u j x y e,Inv X zj d e j->RelV x v->RelV y u->R x y e->wpAny (model X.prog X.w) X.A (f v u) Q X.xe j):wpAny (model X.prog X.w) X.A (eval a X.env) (λv g=>wpAny (model X.prog X.w) X.A (eval b X.env) (λu i=>wpAny (model X.prog X.w) X.A (f v u) Q X.xe i) X.xe g) X.xe s:=by refine BM (ha zj s d H _ I h) λv l ⟨x,H1,m,n,o⟩=> ?_;refine BM (hb zj l d H1 _ m o) λu j ⟨y,e,p,r,t⟩=> ?_;exact k v u j x y e p n r t
def B8 {op:Operator}{r:R2}(d:EZ X (binaryOp op) r)(ha:PE X a ta)(hb:PE X b tb):PE X (.BinOp a op b pos) (ZU r ta tb):=by intro zj s e H Q I h;exact wpAny_BinOp (jL ha hb I h λv u f x y g i j k q=>d zj f e g x y v u Q i j k q)
def n9 {op:UnaryOp}{r:V->Hp->VK->Prop}(e:qL X (unaryOp op) r)(ha:PE X a ta):PE X (.UnaryOp op a pos) (x5 r ta):=by intro zj s d H Q I h;exact UnaryOp_ (BM (ha zj s d H _ I h) λv f ⟨x,H1,g,i,j⟩=>e zj f d H1 x v Q g i j)
def j9 {f:zx->zx->Sem zx}{C:Int->Int->Prop}{g:Int->Int->Int}(rule:∀(i j:Int) (t u:Tok) (s:zw) (Q:zx->zw->Prop) (E:zx->zw->Prop),C i j->Q (.int (g i j) s.toks) {s with toks:=s.toks+1}->wpAny (model X.prog X.w) X.A (f (.int i t) (.int j u)) Q E s):EZ X f (rI C λi j=> .int (g i j)):=by intro zj s k H x y v u Q I d e h;obtain⟨i,j,rfl,rfl,hc,q⟩:=h;obtain⟨t,rfl⟩:=d;obtain⟨t',rfl⟩:=e;exact rule i j t t' s _ _ hc ⟨.int (g i j),H,I.tok _,⟨_,rfl⟩,q⟩
def nj {f:zx->zx->Sem zx}{g:Int->Int->Int}(rule:∀(i j:Int) (t u:Tok) (s:zw) (Q:zx->zw->Prop) (E:zx->zw->Prop),Q (.int (g i j) s.toks) {s with toks:=s.toks+1}->wpAny (model X.prog X.w) X.A (f (.int i t) (.int j u)) Q E s):EZ X f (Pb λi j=> .int (g i j)):=by intro zj s k H x y v u Q I d e h;obtain⟨i,j,rfl,rfl,q⟩:=h;obtain⟨t,rfl⟩:=d;obtain⟨t',rfl⟩:=e;exact rule i j t t' s _ _ ⟨.int (g i j),H,I.tok _,⟨_,rfl⟩,q⟩
def j8 {f:zx->zx->Sem zx}{g:Int->Int->zq}(rule:∀(i j:Int) (t u:Tok) (s:zw) (Q:zx->zw->Prop) (E:zx->zw->Prop),Q (.bool (g i j)) s->wpAny (model X.prog X.w) X.A (f (.int i t) (.int j u)) Q E s):EZ X f (Pb λi j=> .bl (g i j)):=by intro zj s k H x y v u Q I d e h;obtain⟨i,j,rfl,rfl,q⟩:=h;obtain⟨t,rfl⟩:=d;obtain⟨t',rfl⟩:=e;exact rule i j t t' s _ _ ⟨.bl (g i j),H,I,rfl,q⟩
def du (i j:Int):Prop:=0<=j/\j<=1000000/\i.natAbs<2^64
def NH (i j:Int):Prop:=(-(2^64)<i/\i<2^64)\/(-(2^64)<j/\j<2^64)
def NH.ok {i j:Int}(h:NH i j):IntMulOk i j:=by
 rcases h with⟨h1,h2⟩|⟨h1,h2⟩
 .exact .of_left (intBits_le_64 h1 h2)
 .exact .of_right (intBits_le_64 h1 h2)
def G6:EZ X (binaryOp .Add) (Pb λi j=> .int (i+j)):=nj λ_ _ _ _ _ _ _ q=>add_int q
def V7:EZ X (binaryOp .Sub) (Pb λi j=> .int (i-j)):=nj λ_ _ _ _ _ _ _ q=>sub_int q
def F5:EZ X (binaryOp .Mod) (rI (λ_ j=>0<j) λi j=> .int (i % j)):=j9 λi j _ _ _ _ _ hc q=>by have h1:(0:Int)<j:=hc;exact mod_int' (by omega) (by rw[ADH i (by omega)];exact q)
def fZ:EZ X (binaryOp .Mod) (rI (λ_ j=>j≠0) λi j=> .int (i.fmod j)):=j9 λ_ _ _ _ _ _ _ hc q=>mod_int' hc q
def bW:EZ X (binaryOp .Pow) (rI du λi j=> .int (i^j.toNat)):=j9 λ_ _ _ _ _ _ _ hc q=>pow_int_small hc.1 hc.2.1 hc.2.2 q
def x8 {f:zx->Sem zx}{g:Int->Int}(rule:∀(i:Int) (t:Tok) (s:zw) (Q:zx->zw->Prop) (E:zx->zw->Prop),Q (.int (g i) s.toks) {s with toks:=s.toks+1}->wpAny (model X.prog X.w) X.A (f (.int i t)) Q E s):qL X f (rU λi=> .int (g i)):=by intro zj s e H x v Q I d h;obtain⟨i,rfl,q⟩:=h;obtain⟨t,rfl⟩:=d;exact rule i t s _ _ ⟨.int (g i),H,I.tok _,⟨_,rfl⟩,q⟩
def lU:qL X (unaryOp .USub) (rU λi=> .int (-i)):=x8 λ_ _ _ _ _ q=>neg_int q
end
def kr:V->V->zq
 | .non, .non=>true | .non, .int _=>true | .int _, .non=>true | .non, .bl _=>true | .bl _, .non=>true | .non, .str _=>true | .str _, .non=>true
 | .int _, .int _=>true | .bl _, .bl _=>true | .str _, .str _=>true | .byt _, .byt _=>true
 | .int _, .str _=>true | .str _, .int _=>true | .bl _, .str _=>true | .str _, .bl _=>true
 | _,_=>false
def uX:R2:=λx y H Q=>kr x y=true/\Q (.bl (decide (x=y))) H
def uY:R2:=λx y H Q=>kr x y=true/\Q (.bl (!decide (x=y))) H
def XC {i j:Int}:decide (V.int i=V.int j)=(i==j):=by rw[AA0];simp
def aG {i j:zq}:decide (V.bl i=V.bl j)=(i==j):=by rw[AA0];simp
def XD {i j:Str}:decide (V.str i=V.str j)=(i==j):=by rw[AA0];simp
def XB {i j:Array UInt8}:decide (V.byt i=V.byt j)=(i.toList==j.toList):=by rw[AA0];cases i;cases j;simp
section
variable {X:Cx}{a b c:zr}{ta tb tc:TE}{pos:Pos}
def BB {zj:zy (zu×Obj)}{d:St}{H:Hp}{s:zw}{Q:VK}{k f:zq}(I:Inv X zj d H s)(q:Q (.bl k) H)(e:k=f):EP X zj d Q (.bool f) s:=by subst e;exact⟨.bl k,H,I,rfl,q⟩
def nk:EZ X (compareOp .Eq) uX:=by
 intro zj s f H x y v u Q I e d h;obtain⟨hs,q⟩:=h;cases x with
 | non=>
   cases e;cases y with
   | non=>cases d;exact PySem.EqNone.eq_none_none (BB I q (by simp))
   | bl j=>cases d;exact PySem.EqNone.eq_none_bool (BB I q (by simp))
   | int j=>obtain⟨t',rfl⟩:=d;exact PySem.EqNone.eq_none_int (BB I q (by simp))
   | str j=>obtain⟨t',rfl⟩:=d;exact PySem.EqNone.eq_none_str (BB I q (by simp))
   | _=>exact absurd (show false=true from hs) AAQ
 | bl i=>
   cases e;cases y with
   | non=>cases d;exact PySem.EqNone.eq_bool_none (BB I q (by simp))
   | bl j=>cases d;exact eq_bool (BB I q aG)
   | str j=>obtain⟨t',rfl⟩:=d;exact PySem.EqMixed.eq_bool_str (BB I q (by simp))
   | _=>exact absurd (show false=true from hs) AAQ
 | int i=>
   obtain⟨t,rfl⟩:=e;cases y with
   | non=>cases d;exact PySem.EqNone.eq_int_none (BB I q (by simp))
   | int j=>obtain⟨t',rfl⟩:=d;exact eq_int (BB I q XC)
   | str j=>obtain⟨t',rfl⟩:=d;exact PySem.EqMixed.eq_int_str (BB I q (by simp))
   | _=>exact absurd (show false=true from hs) AAQ
 | str i=>
   obtain⟨t,rfl⟩:=e;cases y with
   | non=>cases d;exact PySem.EqNone.eq_str_none (BB I q (by simp))
   | bl j=>cases d;exact PySem.EqMixed.eq_str_bool (BB I q (by simp))
   | int j=>obtain⟨t',rfl⟩:=d;exact PySem.EqMixed.eq_str_int (BB I q (by simp))
   | str j=>obtain⟨t',rfl⟩:=d;exact eq_str (BB I q XD)
   | _=>exact absurd (show false=true from hs) AAQ
 | byt i=>
   obtain⟨t,rfl⟩:=e;cases y with
   | byt j=>obtain⟨t',rfl⟩:=d;exact PySem.W.eq_bytes (BB I q XB)
   | _=>exact absurd (show false=true from hs) AAQ
 | _=>cases y <;> exact absurd (show false=true from hs) AAQ
def nr:EZ X (compareOp .NotEq) uY:=by
 intro zj s f H x y v u Q I e d h;obtain⟨hs,q⟩:=h;cases x with
 | non=>
   cases e;cases y with
   | non=>cases d;exact PySem.EqNone.ne_none_none (BB I q (by simp))
   | bl j=>cases d;exact PySem.EqNone.ne_none_bool (BB I q (by simp))
   | int j=>obtain⟨t',rfl⟩:=d;exact PySem.EqNone.ne_none_int (BB I q (by simp))
   | str j=>obtain⟨t',rfl⟩:=d;exact PySem.EqNone.ne_none_str (BB I q (by simp))
   | _=>exact absurd (show false=true from hs) AAQ
 | bl i=>
   cases e;cases y with
   | non=>cases d;exact PySem.EqNone.ne_bool_none (BB I q (by simp))
   | bl j=>cases d;exact ne_bool (BB I q (congrArg not aG))
   | str j=>obtain⟨t',rfl⟩:=d;exact PySem.EqMixed.ne_bool_str (BB I q (by simp))
   | _=>exact absurd (show false=true from hs) AAQ
 | int i=>
   obtain⟨t,rfl⟩:=e;cases y with
   | non=>cases d;exact PySem.EqNone.ne_int_none (BB I q (by simp))
   | int j=>obtain⟨t',rfl⟩:=d;exact ne_int (BB I q (congrArg not XC))
   | str j=>obtain⟨t',rfl⟩:=d;exact PySem.EqMixed.ne_int_str (BB I q (by simp))
   | _=>exact absurd (show false=true from hs) AAQ
 | str i=>
   obtain⟨t,rfl⟩:=e;cases y with
   | non=>cases d;exact PySem.EqNone.ne_str_none (BB I q (by simp))
   | bl j=>cases d;exact PySem.EqMixed.ne_str_bool (BB I q (by simp))
   | int j=>obtain⟨t',rfl⟩:=d;exact PySem.EqMixed.ne_str_int (BB I q (by simp))
   | str j=>obtain⟨t',rfl⟩:=d;exact ne_str (BB I q (congrArg not XD))
   | _=>exact absurd (show false=true from hs) AAQ
 | byt i=>
   obtain⟨t,rfl⟩:=e;cases y with
   | byt j=>obtain⟨t',rfl⟩:=d;exact PySem.W.ne_bytes (BB I q (congrArg not XB))
   | _=>exact absurd (show false=true from hs) AAQ
 | _=>cases y <;> exact absurd (show false=true from hs) AAQ
def iR:EZ X (compareOp .Lt) (Pb λi j=> .bl (decide (i<j))):=j8 λ_ _ _ _ _ _ _ q=>lt_int q
def iQ:EZ X (compareOp .Gt) (Pb λi j=> .bl (decide (j<i))):=j8 λ_ _ _ _ _ _ _ q=>gt_int q
def iP:EZ X (compareOp .GtE) (Pb λi j=> .bl (decide (j<=i))):=j8 λ_ _ _ _ _ _ _ q=>ge_int q
def kC:EZ X (compareOp .Is) (λx y H Q=>y= .non/\Q (.bl (decide (x= .non))) H):=by
 intro zj s f H x y v u Q I d e h;obtain⟨rfl,q⟩:=h;cases e;refine is_none_gen (BB I q ?_);cases x <;> first
  | (cases d;rfl)
  | (obtain⟨t,rfl⟩:=d;rfl)
def Xj:EZ X (compareOp .IsNot) (λx y H Q=>y= .non/\Q (.bl (!decide (x= .non))) H):=by
 intro zj s f H x y v u Q I d e h;obtain⟨rfl,q⟩:=h;cases e;refine isnot_none_gen (BB I q ?_);cases x <;> first
  | (cases d;rfl)
  | (obtain⟨t,rfl⟩:=d;rfl)
def EZ.or {f:zx->zx->Sem zx}{r d:R2}(h:EZ X f r)(h':EZ X f d):EZ X f (λx y H Q=>r x y H Q\/d x y H Q):=by
 intro zj s e H x y v u Q I g i q;rcases q with q|q
 .exact h zj s e H x y v u Q I g i q
 .exact h' zj s e H x y v u Q I g i q
def B2 (b:zr){op:CmpOp}(h:op≠ .In:=by decide)(h2:op≠ .NotIn:=by decide):behindInMarks op b=false:=by
 have d:(op==CmpOp.In)=false:=by cases op <;> first | rfl|exact absurd rfl h
 have e:(op==CmpOp.NotIn)=false:=by cases op <;> first | rfl|exact absurd rfl h2
 cases b <;> simp[behindInMarks,d,e]
def Xk {op:CmpOp}{r:R2}(d:EZ X (compareOp op) r)(ha:PE X a ta)(hb:PE X b tb)(e:behindInMarks op b=false):PE X (.Compare a [op] [b] pos) (ZU r ta tb):=by intro zj s f H Q I h;exact wpAny_Compare1 (jL ha hb I h λv u g x y i j k l q=>d zj g f i x y v u Q j k l q) e
def dL (t:TE):TT:=λd H Q=>t d H λx e=>∃k,x= .bl k/\Q k e
def Mf {op:CmpOp}{r:R2}(f:EZ X (compareOp op) r)(ha:PE X a ta)(hb:PE X b tb)(g:behindInMarks op b=false):PT X (.Compare a [op] [b] pos) (dL (ZU r ta tb)):=by
 intro zj s d H Q I h;refine wpAny_isTrue_Compare1 (BM (ha zj s d H _ I h) λv i ⟨x,H1,j,l,m⟩=>BM (hb zj i d H1 _ j m) λu n ⟨y,o,p,t,w⟩=>
  BM (f zj n d o x y v u _ p l t w) λc E ⟨z,A,B,C,k,e,D⟩=> ?_) g
 subst e;cases C;exact ABO ⟨A,B,D⟩
def mU (K:AAB)(x:V)(H:Hp)(k:zq):Prop:=
 match x with
 | .non=>k=false
 | .bl b=>k=b
 | .int i=>k=(i != 0)
 | .str y=>y.length<=sizeLine/\k=((y.length:Int) != 0)
 | .byt y=>y.size<=sizeLine/\k=((y.size:Int) != 0)
 | .ref p=>(∃xs,FH K H p xs/\k= !xs.isEmpty)\/(∃xs,MG K H p xs/\k= !xs.isEmpty)\/∃kvs,H p=some (.dK kvs)/\k= !kvs.isEmpty
 | _=>False
def Vm {d:Type}{kvs:zy (d×V)}{vs:zy (d×zx)}(r:KV kvs vs):(!vs.isEmpty)= !kvs.isEmpty:=by cases r <;> rfl
def Ny {xs:zy V}{d:zy zx}(r:Ap xs d):(!d.toArray.isEmpty)= !xs.isEmpty:=by cases r <;> simp
def K7:(sizeLine:Nat)<2^63:=by rw[sizeLine_eq];decide
def lQ:qK X (λx H Q=>∃k,mU X.K x H k/\Q k H):=by
 intro zj s o H x v Q I f h;obtain⟨k,e,q⟩:=h;have hl:=K7;have hs:sizeLine=16777216:=sizeLine_eq;cases x with
 | non=> cases f;have d:k=false:=e;subst d;exact truthy_none ⟨H,I,q⟩
 | bl b=> cases f;have d:k=b:=e;subst d;exact ABO ⟨H,I,q⟩
 | int i=> obtain⟨t,rfl⟩:=f;have d:k=(i != 0):=e;subst d;exact PySem.P.truthy_int ⟨H,I,q⟩
 | str y=> obtain⟨t,rfl⟩:=f;obtain⟨hy,d⟩:y.length<=sizeLine/\k=((y.length:Int) != 0):=e;subst d;exact PySem.P.truthy_str (by omega) ⟨H,I.tok _,q⟩
 | byt y=> obtain⟨t,rfl⟩:=f;obtain⟨hy,d⟩:y.size<=sizeLine/\k=((y.size:Int) != 0):=e;subst d;exact PySem.W.truthy_bytes (by omega) ⟨H,I.tok _,q⟩
 | ref p=>
   cases f;have d:(∃xs,FH X.K H p xs/\k= !xs.isEmpty)\/(∃xs,MG X.K H p xs/\k= !xs.isEmpty)\/∃kvs,H p=some (.dK kvs)/\k= !kvs.isEmpty:=e;rcases d with⟨xs,hx,d⟩|⟨xs,hx,d⟩|⟨kvs,hx,d⟩
   .subst d;obtain⟨g,r,j,hz⟩:=I.list hx;have l:=r.length;exact wpAny_truthy_list j.isList (by simp only[AAU];omega) ⟨H,I.tok _,by rw[Ny r];exact q⟩
   .subst d;obtain⟨g,r,j,hz⟩:=I.tuple hx;have l:=r.length;exact truthy_tuple j (by simp only[AAU];omega) ⟨H,I.tok _,by rw[Ny r];exact q⟩
   .subst d;obtain⟨hz,n,vs,r,m⟩:kvs.length<=sizeLine/\(p==sysModules)=false/\∃vs,KV kvs vs/\s.heap.DictOf (A8 X.prog X.w) p vs:=I.hok p _ hx;have l:kvs.length=vs.length:=ABp r;exact wpAny_truthy_dict n m (by omega) ⟨H,I.tok _,by rw[Vm r];exact q⟩
 | _=>exact(show False from e).elim
def cG (ha:PE X a ta)(he:∀whole,isTrue a X.env whole=(do let v <-whole;standAt a.pos;holding [v] (truthy v))):
 PT X a (λd H Q=>ta d H λx e=>∃k,mU X.K x e k/\Q k e):=by intro zj s d H Q I h;exact isTrue_plain (BM (ha zj s d H _ I h) λv f ⟨x,H1,g,i,j⟩=>lQ zj f d H1 x v Q g i j) (he _)
def vals1 {x:V}{us:zy zx}(r:Ap [x] us):∃u,us= [u] /\RelV x u:=by
 cases r with
 | cons d e=>cases e;exact⟨_,rfl,d⟩
def vals2 {x y:V}{us:zy zx}(r:Ap [x,y] us):∃u d,us= [u,d] /\RelV x u/\RelV y d:=by
 cases r with
 | cons e f=>
   cases f with
   | cons g h=>cases h;exact⟨_,_,rfl,e,g⟩
def Nc:Cs X (.builtin "abs") (λxs H Q=>∃i,xs= [.int i] /\Q (.int (if i<0 then -i else i)) H):=by intro zj s d H xs us Q I r h;obtain⟨i,rfl,q⟩:=h;obtain⟨u,rfl,t,rfl⟩:=vals1 r;exact call_abs_int λu e=>⟨.int (if i<0 then -i else i),H,I.tok _,⟨_,rfl⟩,q⟩
def Yd (hc:X.calm=true):Cs X (.builtin "max") (λxs H Q=>∃i j,xs= [.int i, .int j] /\Q (.int (if j>i then j else i)) H):=by
 intro zj s d H xs us Q I r h;obtain⟨i,j,rfl,q⟩:=h;obtain⟨u,e,rfl,⟨t,rfl⟩,⟨t',rfl⟩⟩:=vals2 r;refine max_two_ints (I.ok.hd hc) λh' f k=>⟨_,H,I.kept k, ?_,q⟩;by_cases hj:j>i
 .rw [AAE hj,AAE hj];exact⟨_,rfl⟩
 .rw [AAD hj,AAD hj];exact⟨_,rfl⟩
def Ye (hc:X.calm=true):Cs X (.builtin "min") (λxs H Q=>∃i j,xs= [.int i, .int j] /\Q (.int (if j<i then j else i)) H):=by
 intro zj s d H xs us Q I r h;obtain⟨i,j,rfl,q⟩:=h;obtain⟨u,e,rfl,⟨t,rfl⟩,⟨t',rfl⟩⟩:=vals2 r;refine min_two_ints (I.ok.hd hc) λh' f k=>⟨_,H,I.kept k, ?_,q⟩;by_cases hj:j<i
 .rw [AAE hj,AAE hj];exact⟨_,rfl⟩
 .rw [AAD hj,AAD hj];exact⟨_,rfl⟩
def P2:Cs X (.type "int") (λxs H Q=>(∃i,xs= [.int i] /\Q (.int i) H)\/∃k,xs= [.bl k] /\Q (.int (if k then 1 else 0)) H):=by
 intro zj s e H xs us Q I r h;rcases h with⟨i,rfl,q⟩|⟨k,rfl,q⟩
 .obtain ⟨u,rfl,t,rfl⟩:=vals1 r;exact call_int_int ⟨.int i,H,I,⟨_,rfl⟩,q⟩
 .obtain ⟨u,rfl,d⟩:=vals1 r;cases d;exact call_int_bool ⟨.int (if k then 1 else 0),H,I.tok _,⟨_,rfl⟩,q⟩
end
structure wV (h:Heap) (x dx C:Addr) (mA:Str->Option Value):Prop where
 obj:h.get? x=some (PySem.W.instObj C dx)
 ns:h.Ns1 dx mA
 ne:dx≠x
def MF.some_of {v:V}{o:zt zx}(r:MF (some v) o):∃u,o=some u/\RelV v u:=by
 cases o with
 | none=>exact(show False from r).elim
 | some u=>exact⟨u,rfl,r⟩
structure vd (K:AAB) (C:Addr):Prop where
 pg:PySem.W.plainGet K C Str.empty=true
 hd:PySem.W.hasDictIn K C=true
 po:PySem.W.plainOver K C=true
 sa:PySem.W.findIn K (.ref C) "__setattr__" =some (some (.builtin "object.__setattr__"))
structure yU (K:AAB) (C:Addr) (f:Str) (v:V) (u:Value):Prop where
 at_:PySem.W.findIn K (.ref C) f=some (some u)
 rel:RelV v u
 get:PySem.W.specialIn K u "__get__" =some none
 cp:PySem.W.copiedNames.contains f=false
structure wT (K:AAB) (C:Addr) (m:Str) (f:Addr):Prop where
 at_:PySem.W.findIn K (.ref C) m=some (some (.ref f))
 fn:PySem.W.isFn K (.ref f)=true
 kp:PySem.W.keepIn K (.ref f)=true
section
variable {X:Cx}{zj:zy (zu×Obj)}{σ:St}{H:Hp}{s:zw}{a C dx:zu}{fs:zy (Str×V)}{f:Str}{v:V}{A:zk}{E:zx->zw->Prop}
def Inv.made (I:Inv X zj σ H s):Inv X zj σ (upd (upd H s.heap.objs.size (.own (s.heap.objs.size+1))) (s.heap.objs.size+1) (.ins C s.heap.objs.size [])) {s with heap:=(s.heap.push PySem.W.emptyDict).push (PySem.W.instObj C s.heap.objs.size)}:=by
 have c:(s.heap.push PySem.W.emptyDict).get? s.heap.objs.size=some PySem.W.emptyDict:=AAS s.heap rfl;have g:((s.heap.push PySem.W.emptyDict).push (PySem.W.instObj C s.heap.objs.size)).get? (s.heap.objs.size+1)=some (PySem.W.instObj C s.heap.objs.size):=by
  have:=AAS (s.heap.push PySem.W.emptyDict) (o:=PySem.W.instObj C s.heap.objs.size) rfl
  rwa [ABI] at this
 have h:(s.heap.push PySem.W.emptyDict).Ns s.heap.objs.size (λ_=>none):=⟨PySem.W.emptyDict, #[],_,c,rfl,(λe he=>absurd he (by simp)),λ_=>rfl⟩;have i:=I.laid (a:=s.heap.objs.size) (o:= .own (s.heap.objs.size+1)) (h':=s.heap.push PySem.W.emptyDict) (t':=s.toks) (λb u q=>AAH _ q) (AAJ _) ⟨_,c⟩;refine i.laid (a:=s.heap.objs.size+1) (o:= .ins C s.heap.objs.size []) (t':=s.toks) (λb u q=>AAH _ q) (Nat.le_of_eq (ABI _ _)) ?_;have d:s.heap.objs.size≠s.heap.objs.size+1:=AAL (Nat.lt_succ_self _);refine⟨by rw[Aa d,Ad],AAu _,d,g,λ_=>none,(Heap.Ns1.of_empty h).at λo q=>AAH _ q,λ_=>True.intro,λy hy=>absurd rfl hy⟩
end
section
variable {X:Cx}{zj:zy (zu×Obj)}{σ:St}{H:Hp}{s:zw}{A:zk}{E:zx->zw->Prop}{Q:zx->zw->Prop}{c:zx}{b:zq}
inductive NW (K:AAB) (H:Hp):V->Value->Prop where
 | non:NW K H .non (.type "NoneType")
 | bl (x:Bool):NW K H (.bl x) (.type "bool")
 | int (i:Int):NW K H (.int i) (.type "int")
 | str (x:Str):NW K H (.str x) (.type "str")
 | flt (x:UInt64):NW K H (.flt x) (.type "float")
 | lst {a:Addr} {xs:List V} (e:H a=some (.lst xs)):NW K H (.ref a) (.type "list")
 | frz {a:Addr} {o:Obj} {xs:List V} (e:H a=some (.frz o (.lst xs))):NW K H (.ref a) (.type "list")
 | tup {a:Addr} {xs:List V} (e:H a=some (.tup xs)):NW K H (.ref a) (.type "tuple")
 | dK {a:Addr} {kvs:List (Cr×V)} (e:H a=some (.dK kvs)):NW K H (.ref a) (.type "dict")
 | dT {a:Addr} {kvs:List (List Cr×V)} (e:H a=some (.dT kvs)):NW K H (.ref a) (.type "dict")
 | ins {a C dx:Addr} {fs:List (Str×V)} (e:H a=some (.ins C dx fs)) (cl:vd K C) (ha:PySem.W.findIn K (.ref C) "__class__" =some (some (.builtin "object.__class__")))
    (hn:PySem.W.specialIn K (.builtin "object.__class__") "__get__" =some (some (.builtin "getset_descriptor.__get__"))) (yj:PySem.W.takesIn K (.builtin "object.__class__")=some true)
    (hm:PySem.W.mroIn K C (.type "object")=some true):NW K H (.ref a) (.ref C)
end
structure Room (k:Nat) (A:Around):Prop where
 hd:A.handled=none
 dp:A.depth+3*k+5<recursionLimit
 un:A.units+16*k+200<cLine
 gd:A.guards=some []
def Room.mono {j k:Nat}{A:zk}(r:Room k A)(h:j<=k):Room j A:=⟨r.hd,by have:=r.dp;omega,by have:=r.un;omega,r.gd⟩
def Room.deeper {k:Nat}{A:zk}(r:Room (k+1) A)(env:Env):Room k (A.deeper env):=
 ⟨r.hd,by have:=r.dp;show A.depth+1+3*k+5<_;omega,by have:=r.un;show A.units+3+16*k+200<_;omega,r.gd⟩
def Room.in1 {k:Nat}{A:zk}(r:Room (k+1) A):Room k A.in1:=
 ⟨r.hd,by have:=r.dp;show A.depth+3*k+5<_;omega,by have:=r.un;show A.units+1+16*k+200<_;omega,r.gd⟩
def Vu {A:zk}{C:zu}{us:zy zx}{a:zy (Str×zx)}:(A.under (.builtin "type.__call__" ⟨.ref C::us,a⟩)).depth=A.depth+1:=by first | rfl|simp[Around.under,Code.weight,Code.isCreation,Code.isGuard,Code.isCaller,Code.frames,Code.isFrame,guardIds]
def Vv {A:zk}{C:zu}{us:zy zx}{a:zy (Str×zx)}:(A.under (.builtin "type.__call__" ⟨.ref C::us,a⟩)).units=A.units+1:=by first | rfl|simp[Around.under,Code.cUnits,Code.frames,Code.isFrame]
def Room.make {k:Nat}{A:zk}(r:Room (k+1) A)(C:zu)(us:zy zx)(a:zy (Str×zx)):Room k (A.under (.builtin "type.__call__" ⟨.ref C::us,a⟩)):=
 ⟨r.hd,by have:=r.dp;rw[Vu];omega,by have:=r.un;rw[Vv];omega,by first | exact r.gd|simpa[Around.under,pushGuards,Code.guards,Code.isGuard,guardIds] using r.gd⟩
def Room.depth {k:Nat}{A:zk}(r:Room k A):A.depth<recursionLimit:=by have:=r.dp;omega
def Room.units {k:Nat}{A:zk}(r:Room k A):A.units+64<cLine:=by have:=r.un;omega
def gj:TA:=λ_ H Q=>Q [] H
def Oh (b:TE)(c:TA):TA:=λa H Q=>b a H λx H1=>c a H1 λxs d=>Q (x::xs) d
section
variable {X:Cx}{e:zr}{es:zy zr}{te:TE}{t:TA}{pos:Pos}
def FO:PA X [] gj:=λ_ _ _ _ H Q I h=>ADI ⟨[],H,I, .nil,h⟩
def CP (ha:PE X e te)(b:PA X es t)(hs:starEach (e::es) X.env=(false,eval e X.env)::starEach es X.env:=by rfl):PA X (e::es) (Oh te t):=by intro pos zj s a H Q I h;rw[hs];show wpAny _ _ (spliced ((false,eval e X.env)::backTo pos (starEach es X.env))) _ _ s;refine AB8 (BM (ha zj s a H _ I h) λu c ⟨x,H1,d,f,g⟩=> ?_);exact BM (b pos zj c a H1 _ d g) λus m ⟨xs,i,j,k,l⟩=>⟨x::xs,i,j, .cons f k,l⟩
def gr (t:TA):TE:=λa H Q=>t a H λxs H1=>xs.length<=sizeLine/\∀p,H1 p=none->Q (.ref p) (upd H1 p (.tup xs))
def rq (t:TA):TE:=λa H Q=>t a H λxs H1=>xs.length<=sizeLine/\∀p,H1 p=none->Q (.ref p) (upd H1 p (.lst xs))
def OF {x1}(h:PA X es t):PE X (.Tuple es x1 pos) (gr t):=by intro zj s d H Q I hq;refine wpAny_Tuple_spliced (BM (h pos zj s d H _ I hq) λus a ⟨xs,H1,c,r,z,q⟩=>⟨by rw[<-r.length];exact z, ?_⟩);have f:H1 a.heap.objs.size=none:=c.hok.fresh (AAJ _);refine⟨.ref a.heap.objs.size,upd H1 a.heap.objs.size (.tup xs),c.laid (t':=a.toks) (λb u e=>AAH _ e) (AAJ _) ?_,rfl,q _ f⟩;exact⟨z,us,r,⟨_,AAS _ rfl,rfl,_,rfl⟩⟩
def bj (h:PA X es t):PE X (.List es pos) (rq t):=by intro zj s d H Q I hq;refine wpAny_List_spliced (BM (h pos zj s d H _ I hq) λus a ⟨xs,H1,c,r,z,q⟩=>⟨by rw[<-r.length];exact z, ?_⟩);have f:H1 a.heap.objs.size=none:=c.hok.fresh (AAJ _);refine⟨.ref a.heap.objs.size,upd H1 a.heap.objs.size (.lst xs),c.laid (t':=a.toks) (λb u e=>AAH _ e) (AAJ _) ?_,rfl,q _ f⟩;exact⟨z,us,0,r,AAS _ rfl⟩
end
abbrev Sp:=zy V->Hp->VK->XK->Prop
abbrev YI:=zy Env->Hp->zw->XK->zx->zw->Prop
structure O4 (P:Program) (w:World) (K:AAB) (mg:Str->Option Value) (base:Heap) (A:Around) (outer:List Env) (s:Shared) (H:Hp):Prop where
 frames:A.frames=some outer
 mod:Mod K mg base
 bs:∀b o,base.get? b=some o->s.heap.get? b=some o/\H b=none
 bsz:base.objs.size<=s.heap.objs.size
 funs:s.heap.FunFrames base outer
 frf:∀b∈Ze outer,H b=none
 hok:IZ P w H s.heap
 bare:AllBare s.gens
def CE (outer:zy Env)(P:zp)(w:zm)(H:Hp)(s:zw)(Q:VK)(u:zx)(a:zw):Prop:=
 ∃v b,a.os=s.os/\AllBare a.gens/\Un (Ze outer) [] H b s.heap a.heap/\IZ P w b a.heap/\RelV v u/\Q v b
def CR (CX:YI)(outer:zy Env)(P:zp)(w:zm)(H:Hp)(s:zw)(Q:VK)(E:XK)(r:Result)(a:zw):Prop:=
 match r with
 | .ok (.ret u)=>CE outer P w H s Q u a
 | .ok _=>False
 | .error e=>CX outer H s E e a
structure Ej (P:Program) (w:World) (K:AAB) (mg:Str->Option Value) (base:Heap) (CX:YI) (k:Nat) (f:Addr) (fd:FuncData) (ps:List Str) (sp:Sp):Prop where
 len:∀vs H Q E,sp vs H Q E->vs.length=ps.length
 run:∀(A:Around) (outer:List Env) (s:Shared) (H:Hp) (args:Args) (us:List Value) (vs:List V) (Q:VK) (E:XK),Room k A->O4 P w K mg base A outer s H->BindsTo s fd args (ps.zip us)->Ap vs us->sp vs H Q E->
  codeAny (model P w) A (.call (.ref f) args) (CR CX outer P w H s Q E) s
def Ej.mono {P:zp}{w:zm}{K:AAB}{mg:Str->zt zx}{base:zl}{CX:YI}{j k:Nat}{f:zu}{a:FuncData}{b:zy Str}{sp:Sp}(F:Ej P w K mg base CX j f a b sp)(h:j<=k):Ej P w K mg base CX k f a b sp:=⟨F.len,λA outer s H args us vs Q E c=>F.run A outer s H args us vs Q E (c.mono h)⟩
def Ej.imp {P:zp}{w:zm}{K:AAB}{mg:Str->zt zx}{base:zl}{CX:YI}{k:Nat}{f:zu}{b:FuncData}{c:zy Str}{sp a:Sp}(F:Ej P w K mg base CX k f b c sp)(h:∀vs H Q E,a vs H Q E->sp vs H Q E):Ej P w K mg base CX k f b c a:=
 ⟨λvs H Q E q=>F.len vs H Q E (h _ _ _ _ q),λA outer s H args us vs Q E d he hb hv hs=>F.run A outer s H args us vs Q E d he hb hv (h _ _ _ _ hs)⟩
def O4.make {P:zp}{w:zm}{K:AAB}{mg:Str->zt zx}{base:zl}{A:zk}{outer:zy Env}{s:zw}{H:Hp}(e:O4 P w K mg base A outer s H)(C:zu)(us:zy zx)(a:zy (Str×zx)):O4 P w K mg base (A.under (.builtin "type.__call__" ⟨.ref C::us,a⟩)) outer s H:=⟨by first | exact e.frames|(simpa[Around.under,Code.envs,Code.isFrame,pushEnvs] using e.frames),e.mod,e.bs,e.bsz,e.funs,e.frf,e.hok,e.bare⟩
def O4.in1 {P:zp}{w:zm}{K:AAB}{mg:Str->zt zx}{base:zl}{A:zk}{outer:zy Env}{s:zw}{H:Hp}(e:O4 P w K mg base A outer s H):O4 P w K mg base A.in1 outer s H:=⟨e.frames,e.mod,e.bs,e.bsz,e.funs,e.frf,e.hok,e.bare⟩
section
variable {X:Cx}{zj:zy (zu×Obj)}{σ:St}{H:Hp}{s s':zw}
def Inv.env0 (I:Inv X zj σ H s):O4 X.prog X.w X.K X.mg X.base X.A X.stack s H:=
 ⟨I.ok.frames,I.ok.mod,I.bs,AAh I.ok.bsz I.sz,I.stack,I.stkFree,I.hok,I.bare⟩
def Inv.after {Q:VK}{u:zx}(I:Inv X zj σ H s)(h:CE X.stack X.prog X.w H s Q u s'):EP X zj σ Q u s':=by obtain⟨v,c,os,bare,un,hok,r,q⟩:=h;obtain⟨e,g,d,t,a⟩:=s';obtain rfl:a=s.os:=os;exact⟨v,c,I.call (h':=e) (g':=g) (d':=d) (t':=t) (ch:= []) un hok bare (λb z=>absurd z (by simp)),r,q⟩
end
def iY (sp:Sp)(a:zy V)(E:XK)(t:TA):TE:=λb H Q=>t b H λvs H1=>sp (vs++a) H1 Q E
def Binds (K:AAB)(c:FuncData)(a:zy Str)(b:zy zx):Prop:=
 ∀(s:zw) (us:zy zx),K.In s.heap->(us++b).length=a.length->BindsTo s c ⟨us, []⟩ (a.zip (us++b))
def Binds.all {K:AAB}{b:FuncData}{a:zy Str}(h:∀us:zy zx,us.length=a.length->bindArgs b ⟨us, []⟩=pure (a.zip us)):Binds K b a [] :=λs us _ hl=>by rw[ABP] at hl ⊢;exact .of_eq (h us hl)
def Passes (CX:YI)(X:Cx)(E:XK):Prop:=∀(zj:zy (zu×Obj)) (b:St) (H:Hp) (s:zw) (e:zx) (a:zw),Inv X zj b H s->CX X.stack H s E e a->X.xe e a
section
variable {X:Cx}{CX:YI}{k:Nat}{f C:zu}{fd:FuncData}{ps:zy Str}{sp:Sp}{dvs:zy V}{ds:zy zx}{E:XK}{x m:Str}{p pos apos:Pos}{e o:zr}{es:zy zr}{ta:TE}{t:TA}
theorem ka {zj:zy (zu×Obj)}{a:St}{H:Hp}{s:zw}{Q:VK}{us:zy zx}{vs:zy V}(F:Ej X.prog X.w X.K X.mg X.base CX k f fd ps sp)(c:Room k X.A)(hb:Binds X.K fd ps ds)(hd:Ap dvs ds)(hx:Passes CX X E)(I:Inv X zj a H s)(r:Ap vs us)(h:sp (vs++dvs) H Q E):wpAny (model X.prog X.w) X.A (call (.ref f) us) (EP X zj a Q) X.xe s:=by
 have b:Ap (vs++dvs) (us++ds):=r.append hd;have hl:(us++ds).length=ps.length:=by rw[<-b.length];exact F.len _ _ _ _ h
 refine wpAny_call (AB9 (F.run X.A X.stack s H ⟨us, []⟩ (us++ds) (vs++dvs) Q E c I.env0 (hb s us I.kIn hl) b h) λr d hq=> ?_);cases r with
 | error e=>exact hx zj a H s e d I hq
 | ok g=>
   cases g with
   | ret u=>exact I.after hq
   | next=>exact False.elim hq
   | brk=>exact False.elim hq
   | cont=>exact False.elim hq
theorem fg (F:Ej X.prog X.w X.K X.mg X.base CX k f fd ps sp)(b:Room k X.A)(c:Gl X x)(d:X.mg x=some (.ref f))(hk:PySem.W.keepIn X.K (.ref f)=true)(hb:Binds X.K fd ps ds)(hd:Ap dvs ds)(hx:Passes CX X E)(ha:PA X (e::es) t)(hdb:(x==("__debug__" :Str))=false:=by decide)(he:starEach (e::es) X.env=(false,eval e X.env)::starEach es X.env:=by rfl)(hpl:(backTo pos (starEach es X.env)).any (·.1)=false:=by rfl):PE X (.Call (.Name x p) (e::es) [] pos) (iY sp dvs E t):=by intro zj s g H Q I h;refine ADJ (Xc I c d ?_ hdb);refine PySem.W.callWith_K (h₀:=X.base) I.ok.mod.kin hk (BM (ha pos zj s g H _ I h) λus i ⟨vs,H1,a,r,q⟩=>⟨a.kIn, ?_⟩) he hpl;exact ka F b hb hd hx a r q
structure Mk (K:AAB) (C f:Addr):Prop where
 makes:PySem.W.makesIn K C=true
 init:PySem.W.findIn K (.ref C) "__init__" =some (some (.ref f))
 fn:PySem.W.isFn K (.ref f)=true
 kp:PySem.W.keepIn K (.ref C)=true
end
section
variable {X:Cx}{CX:YI}{k:Nat}{f C:zu}{fd:FuncData}{ps ks:zy Str}{sp:Sp}{E:XK}{x m:Str}{p pos apos kpos:Pos}{e o:zr}{es:zy zr}{kws:zy Keyword}{te ta:TE}{t tk:TA}{nm:zt Str}
structure qI (K:AAB) (fd:FuncData) (ps ks:List Str) (g:List Value->List Value->List Value) (gV:List V->List V->List V):Prop where
 to:∀(s:Shared) (us ws:List Value),K.In s.heap->(g us ws).length=ps.length->BindsTo s fd ⟨us,ks.zip ws⟩ (ps.zip (g us ws))
 rel:∀{vs:List V} {us:List Value} {zs:List V} {ws:List Value},Ap vs us->Ap zs ws->Ap (gV vs zs) (g us ws)
variable {g:zy zx->zy zx->zy zx}{gV:zy V->zy V->zy V}
end
structure EN (N P:List Str) (sc:Scope):Prop where
 kind:sc.kind= .function
 co:sc.isCoroutine=false
 gen:sc.isGenerator=false
 nd:N.Nodup
 pre:N.take P.length=P
 par:∀x∈P,sc.names.lookup x=some .local\/sc.names.lookup x=some .cell
 nofree:∀y∈sc.names,y.2≠ .free
theorem P0 {kindOf:Str->zt NameKind}{x:Str}:∀{binds:zy (Str×zx)} {m:Str->zt zx},(∀v,(x,v) ∉ binds)->bindL kindOf binds m x=m x
 | [],_,_=>rfl
 | (n,v)::r,m,h=>by
   unfold bindL;rw[P0 λw hw=>h w (ABG _ hw)];split
   .have:x≠n:=by rintro rfl;exact h v ABd
    simp[this]
   .rfl
theorem Py {kindOf:Str->zt NameKind}{x:Str}:∀{binds:zy (Str×zx)} {m:Str->zt zx},(∀v,(x,v) ∉ binds)->bindC kindOf binds m x=m x
 | [],_,_=>rfl
 | (n,v)::r,m,h=>by
   unfold bindC;rw[Py λw hw=>h w (ABG _ hw)];split
   .rfl
   .have:x≠n:=by rintro rfl;exact h v ABd
    simp[this]
theorem Pz {kindOf:Str->zt NameKind}{x:Str}{v:zx}:∀{P:zy Str} {vs:zy zx} {i:Nat} {m:Str->zt zx},P.Nodup->P[i]? =some x->vs[i]? =some v->kindOf x=some .local-> bindL kindOf (P.zip vs) m x=some v
 | [],_,_,_,_,h,_,_=>by simp at h
 | _::_, [],_,_,_,_,h,_=>by simp at h
 | p::P,w::vs,0,m,nd,h1,h2,hk=>by simp at h1 h2;subst h1;subst h2;show bindL kindOf ((p,w)::P.zip vs) m p=_;unfold bindL;rw[P0 λv hv=>(ACd.mp nd).1 (ABf hv).1,AAE hk];simp
 | p::P,w::vs,i+1,m,nd,h1,h2,hk=>by show bindL kindOf ((p,w)::P.zip vs) m x=_;unfold bindL;exact Pz (i:=i) (ACd.mp nd).2 (by simpa using h1) (by simpa using h2) hk
theorem Px {kindOf:Str->zt NameKind}{x:Str}{v:zx}:∀{P:zy Str} {vs:zy zx} {i:Nat} {m:Str->zt zx},P.Nodup->P[i]? =some x->vs[i]? =some v->kindOf x≠some .local-> bindC kindOf (P.zip vs) m x=some v
 | [],_,_,_,_,h,_,_=>by simp at h
 | _::_, [],_,_,_,_,h,_=>by simp at h
 | p::P,w::vs,0,m,nd,h1,h2,hk=>by simp at h1 h2;subst h1;subst h2;show bindC kindOf ((p,w)::P.zip vs) m p=_;unfold bindC;rw[Py λv hv=>(ACd.mp nd).1 (ABf hv).1,AAD hk];simp
 | p::P,w::vs,i+1,m,nd,h1,h2,hk=>by show bindC kindOf ((p,w)::P.zip vs) m x=_;unfold bindC;exact Px (i:=i) (ACd.mp nd).2 (by simpa using h1) (by simpa using h2) hk
def start (N:zy Str)(vs:zy V):St:=vs.map some++List.replicate (N.length-vs.length) none
def TH (CX:YI)(P:zp)(w:zm)(K:AAB)(mg:Str->zt zx)(base:zl)(N:zy Str)(qual:Str)(scope:Scope)(f:zu)(b:zx)(A:zk)(outer:zy Env)(s:zw)(H:Hp)(E:XK):Cx where
 prog:=P
 w:=w
 K:=K
 mg:=mg
 base:=base
 A:=A.deeper (envOfC qual scope s.heap.objs.size f b)
 N:=N
 s₀:=s
 H₀:=H
 env:=envOfC qual scope s.heap.objs.size f b
 outer:=outer
 stack:=envOfC qual scope s.heap.objs.size f b::outer
 ex:= []
 calm:=true
 fn:=λ_=>true
 pn:= []
 xe:=λe c=>wpAny (model P w) (A.deeper (envOfC qual scope s.heap.objs.size f b)) (leaving (envOfC qual scope s.heap.objs.size f b) e) (λ_ a=>CX outer H s E e a) (λd a=>CX outer H s E d a) c
def S9 {sc:Scope}{n:Nat}{x:Str}(h:sc.names.lookup x=some .cell):∃c,(cellsFrom n sc.names []).lookup x=some c:=by have q:=ADj sc.names n [] (.inl h);exact Option.isSome_iff_exists.mp q
def Yw {CX:YI}{P:zp}{w:zm}{K:AAB}{mg:Str->zt zx}{base:zl}{N g:zy Str}{qual:Str}{scope:Scope}{f:zu}{m:zx}{A:zk}{outer:zy Env}{s o:zw}{H:Hp}{E:XK}{us:zy zx}{vs:zy V}(S:EN N g scope)(hd:A.handled=none)(d:O4 P w K mg base A outer s H)(hl:vs.length=g.length)(r:Ap vs us)(x:InCallC s s.heap.objs.size (bindL (envOfC qual scope s.heap.objs.size f m).kindOf (g.zip us) λ_=>none) (cellsFrom (s.heap.objs.size+1) scope.names []) (bindC (envOfC qual scope s.heap.objs.size f m).kindOf (g.zip us) λ_=>none) o):Inv (TH CX P w K mg base N qual scope f m A outer s H E) [] (start N vs) H o:=by
 have hpl:g.length<=N.length:=by have:=congrArg List.length S.pre;rw[ADK] at this;omega
 obtain⟨h1,t,rfl,hk⟩:=x.done;have j:∀b:zu,b ∉ (TH CX P w K mg base N qual scope f m A outer s H E).ex:=λb z=>absurd (show b∈([] :zy zu) from z) (by simp);refine⟨⟨d.mod,S.kind,rfl,rfl,AAJ _,λy z c h1 h2=> ?_,λy hy=> ?_,λy c _ h=> ?_,λ_=>hd,Around.frames_deeper d.frames, .inr ⟨rfl,rfl⟩,λb z=>absurd z (j b),d.bs,d.bsz,λb _ _=>j b,λb z=>absurd z (j b),d.funs,d.frf⟩,
  rfl,d.bare,Un.kept hk,⟨_,x.toInCall.ns,λi y v h1 h2 B=> ?_⟩,λy c h=>⟨_,x.cell y c h⟩,d.hok.fresh (AAJ _),λy c h=> ?_,λp hp=>absurd (show p∈([] :zy (zu×Obj)) from hp) (by simp),d.hok.kept hk, ?_⟩
 .exact name_of_addr x.apart (ACA h1) (ACA h2)
 .have hy:scope.names.lookup y=some .cell\/scope.names.lookup y=some .free:=hy;rcases hy with hy|hy
  .exact S9 hy
  .exact absurd rfl (S.nofree _ (ACA hy))
 .exact ACb (x.above y c (ACA h))
 .have hi:i<vs.length:=by
   unfold start at h2;by_cases hi:i<vs.length
   .exact hi
   .rw [AA9 (by simpa using hi)] at h2;rw[ABQ] at h2;split at h2 <;> cases h2
  have ha:vs[i]? =some v:=by
   unfold start at h2;rw[ABJ (by simpa using hi),AAm] at h2;cases e:vs[i]? with
   | none=>rw[e] at h2;cases h2
   | some a=>rw[e] at h2;cases h2;rfl
  obtain⟨u,hu,rv⟩:=r.get ha;have hp:g[i]? =some y:=by rw[<-S.pre,List.getElem?_take_of_lt (by omega)];exact h1
  have l:g.Nodup:=by rw[<-S.pre];exact S.nd.sublist (List.take_sublist _ _)
  refine⟨u,rv, ?_⟩;rcases S.par y (ABg hp) with k|k
  .exact .inl ⟨k,Pz l hp hu k⟩
  .obtain ⟨c,e⟩:=S9 (n:=s.heap.objs.size+1) k;refine .inr ⟨.inl k,c,e, ?_⟩;have q:=x.cell y c e;rw[Px l hp hu (by show scope.names.lookup y≠_;rw[k];decide)] at q;exact q
 .exact d.hok.fresh (ACb (x.above y c (ACA h)))
 .unfold start;show _=N.length;rw[AAf,AAI,ABK];omega
def me {CX:YI}{P:zp}{w:zm}{K:AAB}{mg:Str->zt zx}{base:zl}{k:Nat}{f:zu}{name qual:Str}{params:Arguments}{body:zy Stmt}{scope:Scope}{z kV d B a ct L:zx}{C M:zt zu}{j:Array (zt zx)}{N i:zy Str}{sp:Sp}(O:K.lookup f=some ⟨L,M, .func (PySem.W.fnOf name qual params body scope z kV d B C a ct),j⟩)(R:PySem.W.codeIn K a qual=true)(S:EN N i scope)(len:∀vs H Q E,sp vs H Q E->vs.length=i.length)(T:∀(A:zk) (outer:zy Env) (s:zw) (H:Hp) (vs:zy V) (Q:VK) (E:XK),Room k (A.deeper (envOfC qual scope s.heap.objs.size f a))->sp vs H Q E-> ∃t,Um (TH CX P w K mg base N qual scope f a A outer s H E) body t/\t {nx:=λ_ c=>Q .non c,rt:=Q} (start N vs) H):Ej P w K mg base CX (k+1) f (PySem.W.fnOf name qual params body scope z kV d B C a ct) i sp:=by
 refine⟨len,λA outer s H args us vs Q E l g hb r D=> ?_⟩;have hl:=len _ _ _ _ D;have F:K.In s.heap:=g.mod.kin.keeps λb o e=>(g.bs b o e).1;have m:s.heap.NoLimit:=g.mod.nolimit.keeps λb o e=>(g.bs b o e).1;have U:∀y∈i.zip us,scope.names.lookup y.1=some .local\/(scope.names.lookup y.1=some .cell/\((cellsFrom (s.heap.objs.size+1) scope.names []).lookup y.1).isSome=true):=λ⟨n,v⟩ hy=>by
  rcases S.par n (ABf hy).1 with q|q
  .exact .inl q
  .exact .inr ⟨q,ADj _ _ _ (.inl q)⟩
 refine codeAny_call_function l.depth (F _ _ O) rfl S.co S.gen rfl (PySem.W.codeRec_of F R) (hb _ _ _ _ ?_);refine wpAny_newFunctionEnv_cells S.kind U λenv he G x=> ?_;subst he;refine⟨m.keeps x.toInCall.keep,codeAny_func ?_⟩;obtain⟨t,X,hq⟩:=T A outer s H vs Q E (l.deeper _) D;have I:Inv (TH CX P w K mg base N qual scope f a A outer s H E) [] (start N vs) H G:=Yw S l.hd g hl r x;refine AA5 (X [] G (start N vs) H _ I hq) (λY p hs=> ?_) λe p hs=>hs;have h:∀{σ':St} {c:Hp} {v:V} {u:zx},Inv (TH CX P w K mg base N qual scope f a A outer s H E) [] σ' c p->RelV v u->Q v c->CE outer P w H s Q u p:=
  λ{σ' c v u} J rv q=>⟨v,c,J.os,J.bare,J.base,J.hok,rv,q⟩
 cases Y with
 | ret u=> obtain⟨v,σ',c,J,rv,q⟩:=hs;exact h J rv q
 | next=> obtain⟨σ',c,J,q⟩:=hs;exact h (v:=V.non) (u:=Value.none) J rfl q
 | brk=> obtain⟨_,_,_,q⟩:=hs;exact False.elim q
 | cont=> obtain⟨_,_,_,q⟩:=hs;exact False.elim q
section
variable {X:Cx}{x:Str}{p pos:Pos}{e:zr}{es:zy zr}{t:TA}{id T:String}{r:zy V->Hp->VK->Prop}
def rp (r:zy V->Hp->VK->Prop)(t:TA):TE:=λa H Q=>t a H λvs H1=>r vs H1 Q
def KB (hc:Cs X (.builtin id) r)(b:Gl X x)(c:X.mg x=none)(hv:bootBuiltins x=some (.builtin id))(ha:PA X (e::es) t)(d:x≠"__name__" :=by decide)(hdb:(x==("__debug__" :Str))=false:=by decide)(he:starEach (e::es) X.env=(false,eval e X.env)::starEach es X.env:=by rfl)(hpl:(backTo pos (starEach es X.env)).any (·.1)=false:=by rfl):PE X (.Call (.Name x p) (e::es) [] pos) (rp r t):=by intro zj s a H Q I h;refine ADJ (K6 I b c hv ?_ d hdb);exact PyProof.Rows.callWith_builtin1 (BM (ha pos zj s a H _ I h) λus f ⟨vs,H1,g,i,j⟩=>hc zj f a H1 vs us Q g i j) he hpl
def LH (hc:Cs X (.type T) r)(b:Gl X x)(c:X.mg x=none)(hv:bootBuiltins x=some (.type T))(ha:PA X (e::es) t)(d:x≠"__name__" :=by decide)(hdb:(x==("__debug__" :Str))=false:=by decide)(he:starEach (e::es) X.env=(false,eval e X.env)::starEach es X.env:=by rfl)(hpl:(backTo pos (starEach es X.env)).any (·.1)=false:=by rfl):PE X (.Call (.Name x p) (e::es) [] pos) (rp r t):=by intro zj s a H Q I h;refine ADJ (K6 I b c hv ?_ d hdb);exact AB7 (BM (ha pos zj s a H _ I h) λus f ⟨vs,H1,g,i,j⟩=>hc zj f a H1 vs us Q g i j) he hpl
end
end L2
namespace HT
open PySem PyProof.Rows
section
variable {prog:zp}{w:zm}{A:zk}{E:zx->zw->Prop}{s:zw}
def cat_tup {t b:zu}{vs a:zy zx}{Q:zx->zw->Prop}(o:IsTup s.heap t vs.toArray)(hb:IsTup s.heap b a.toArray)(hv:vs≠ [])(h1:a= [] ->Q (.ref t) s)(h2:a≠ [] ->Q (.ref s.heap.objs.size) {s with heap:=s.heap.push {cls:= .type "tuple",data:= .seq (vs++a).toArray}})(hsz:vs.length+a.length<=sizeLine):wpAny (model prog w) A (binaryOp .Add (.ref t) (.ref b)) Q E s:=by
 obtain⟨⟨cls,h,data,i⟩,f,hc,n,hd⟩:=id o;obtain⟨⟨j,c,data2,d⟩,g,k,l,m⟩:=id hb;simp only at hc hd k m;subst hc hd k m;have e:vs.toArray++a.toArray=(vs++a).toArray:=by simp
 by_cases hw:a= []
 .exact concat_meets ⟨_,f,rfl⟩ ⟨_,g,rfl⟩ ADL seq_tuple_add ADM ADN (ADO _ _)
   (tuple_addW1 t b vs.toArray a.toArray n l h c i d (by simpa using hv) (by simp[hw])) ⟨f,g,h1 hw⟩
 .refine concat_meets ⟨_,f,rfl⟩ ⟨_,g,rfl⟩ ADL seq_tuple_add ADM ADN (ADO _ _)
   (tuple_addW2 t b vs.toArray a.toArray n l h c i d (by simpa using hv) (by simpa using hw) (by rw[AAU,AAU];exact hsz)) ⟨f,g, ?_⟩
  rw[e];exact h2 hw
def sIx (n d:Nat):zt Int->Nat
 | none=>d
 | some v=>if v<0 then (v+(n:Int)).toNat else min v.toNat n
def sIx_none (n d:Nat):sIx n d none=d:=rfl
def sIx_nat (n d k:Nat):sIx n d (some (k:Int))=min k n:=by show (if (k:Int)<0 then ((k:Int)+(n:Int)).toNat else min (k:Int).toNat n)=min k n;rw[AAD (by omega),ABt]
def kb (n d:Nat)(hd:d<=n)(o:zt Int):sIx n d o<=n:=by
 cases o with
 | none=>exact hd
 | some v=>
   show (if v<0 then (v+(n:Int)).toNat else min v.toNat n)<=n;by_cases hv:v<0
   .rw [AAE hv];omega
   .rw [AAD hv];exact Nat.min_le_right _ _
def W7 (v:Int)(n d:Nat):(if v<0 then max (v+(n:Int)) 0 else min v (n:Int))=((sIx n d (some v):Nat):Int):=by
 show (if v<0 then max (v+(n:Int)) 0 else min v (n:Int))=(((if v<0 then (v+(n:Int)).toNat else min v.toNat n):Nat):Int);by_cases hv:v<0
 .simp only[AAE hv];omega
 .simp only[AAD hv];omega
def VE (lo hi:zt Int)(n:Nat):Builtin.Slice.sliceAdjust lo hi 1 (n:Int)=(((sIx n 0 lo:Nat):Int),((sIx n n hi:Nat):Int)):=by
 have h1:¬((1:Int)<0):=by omega
 unfold Builtin.Slice.sliceAdjust;simp only[h1,AAc];refine ACB ?_ ?_
 .cases lo with
  | none=>rfl
  | some v=>exact W7 v n 0
 .cases hi with
  | none=>rfl
  | some v=>exact W7 v n n
def V9 (i j:Nat):Builtin.Slice.slicePlaces (i:Int) (j:Int) 1=j-i:=by
 unfold Builtin.Slice.slicePlaces;have h1:(1:Int)>0:=by omega
 simp only[h1,ABE,Int.ediv_one];split <;> omega
def Oa {v:zx}{o:zt Int}{Q:zt Int->zw->Prop}(p:IsPart v o)(h:Q o s):wpAny (model prog w) A (Builtin.Slice.slicePartIndex v) Q E s:=by
 cases p with
 | none=>exact slicePart_none h
 | int i t=>exact slicePart_int h
def sliceApplied_gen {e:zu}{a b:zx}{lo hi:zt Int}{n:Nat}{Q:Int×Int×Nat->zw->Prop}(hs:s.heap.IsSliceOf e a b .none)(f:IsPart a lo)(g:IsPart b hi)(h:Q (((sIx n 0 lo:Nat):Int),1,sIx n n hi-sIx n 0 lo) s):wpAny (model prog w) A (Builtin.Slice.sliceApplied (.ref e) (pure (n:Int))) Q E s:=by obtain⟨os,c,i,d⟩:=id hs;unfold Builtin.Slice.sliceApplied Builtin.Slice.sliceFields;refine AAA (AAA (AAr c d (x:=a) rfl (AAA (AAr c d (x:=b) rfl (AAA (AAr c d (x:= .none) rfl (AAC ?_)))))));refine AAA (slicePart_none ?_);show wpAny _ _ (if ((1:Int)==0)=true then _ else _) _ _ s;rw[AAD (by decide)];refine AAA (Oa f (AAA (Oa g (AAA (AAC ?_)))));show wpAny _ _ (match Builtin.Slice.sliceAdjust lo hi 1 (n:Int) with | (lo,hi)=>pure (lo,(1:Int),Builtin.Slice.slicePlaces lo hi 1)) _ _ s;rw[VE lo hi n];show wpAny _ _ (pure (((sIx n 0 lo:Nat):Int),(1:Int),Builtin.Slice.slicePlaces ((sIx n 0 lo:Nat):Int) ((sIx n n hi:Nat):Int) 1)) _ _ s;rw[V9];exact AAC h
def b9 (xs:Array zx)(i k:Nat):((List.range k).filterMap λ(m:Nat)=>xs[((i:Int)+(m:Int)*1).toNat]?).toArray=((xs.toList.drop i).take k).toArray:=by
 have e:(λ(m:Nat)=>xs[((i:Int)+(m:Int)*1).toNat]?)=λm=>xs[i+m]? :=by
  funext m
  have:((i:Int)+(m:Int)*1).toNat=i+m:=by omega
  rw[this]
 rw[e];have:=pick_run xs i k;rw[List.filterMap_map] at this;have a:((λx=>xs[x]?) ∘ λx=>i+x)=λm=>xs[i+m]? :=rfl;rw[a] at this;rw[this]
def getItem_tuple_cut {t c:zu}{items:Array zx}{d e:zx}{lo hi:zt Int}{Q:zx->zw->Prop}(a:IsTup s.heap t items)(hs:s.heap.IsSliceOf c d e .none)(f:IsPart d lo)(g:IsPart e hi)(hw:¬(sIx items.size 0 lo=0/\sIx items.size items.size hi=items.size))(h:Q (.ref s.heap.objs.size) {s with heap:=s.heap.push {cls:= .type "tuple",data:= .seq ((items.toList.drop (sIx items.size 0 lo)).take (sIx items.size items.size hi-sIx items.size 0 lo)).toArray}})(hsz:items.size<=sizeLine):wpAny (model prog w) A (getItem (.ref t) (.ref c)) Q E s:=by
 have b:sizeOk (.seq ((items.toList.drop (sIx items.size 0 lo)).take (sIx items.size items.size hi-sIx items.size 0 lo)).toArray):=by show ((items.toList.drop (sIx items.size 0 lo)).take (sIx items.size items.size hi-sIx items.size 0 lo)).toArray.size<=sizeLine;rw[AAU,ADK,List.length_drop,ABc];omega
 have hj:sIx items.size items.size hi<=items.size:=kb _ _ (AAJ _) hi;obtain⟨os,i,j,n⟩:=id hs;have k:s.TypeIs (.ref c) "slice" :=⟨os,i,j⟩;unfold getItem;try with_reducible refine AAl ?_
 first | refine AAA (AAC ?_)|skip
 refine AAA (wpAny_sequenceKey a.typeIs (by decide) ?_);refine AAA (ABR (name:=Str.ofString "__getitem__") a.typeIs ABu
  (AA4 ABu a.typeIs entry_tuple_getitem ?_ (args_tuple_getitem _ _)))
 show wpAny _ _ (Builtin.Tuple.tupleItemsOf (.ref t) >>= _) _ _ s;refine AAA (tupleItemsOf_ a ?_);refine AAA (ACC k ?_);rw[AAE (by decide)];refine AAA (sliceApplied_gen hs f g ?_);have l:¬((((sIx items.size 0 lo:Nat):Int)==0&&(1:Int)==1&&(sIx items.size items.size hi-sIx items.size 0 lo)==items.size)=true):=by intro q;rw[AAn,AAn] at q;have o:((sIx items.size 0 lo:Nat):Int)=0:=eq_of_beq q.1.1;have p:sIx items.size items.size hi-sIx items.size 0 lo=items.size:=eq_of_beq q.2;exact hw ⟨by omega,by omega⟩
 show wpAny _ _ (if (((sIx items.size 0 lo:Nat):Int)==0&&(1:Int)==1&&(sIx items.size items.size hi-sIx items.size 0 lo)==items.size)=true then _ else _) _ _ s;rw[AAD l,b9];first
  | exact AAA (m:=Builtin.Tuple.tupleExact _) (AAz (AAC ⟨_,rfl,AAC h⟩) b)
  | exact AAA (m:=Builtin.Tuple.tupleExact _) (AAz (AAA (AAC (AAC ⟨_,rfl,AAC h⟩))) b)
  | exact AAA (AAA (m:=Builtin.Tuple.tupleExact _) (AAz (AAC (AAC ⟨_,rfl,AAC h⟩)) b))
  | exact AAA (AAA (m:=Builtin.Tuple.tupleExact _) (AAz (AAC ⟨_,rfl,AAC h⟩) b))
end
end HT
namespace L2
open PySem PySem.Spec PyProof.Rows
abbrev TO:=St->Hp->(zt Int->Hp->Prop)->Prop
def PO (X:Cx)(e:zt zr)(t:TO):Prop:=
 ∀(zj:zy (zu×Obj)) (s:zw) (a:St) (H:Hp) (Q:zt Int->Hp->Prop),Inv X zj a H s->t a H Q->
  wpAny (model X.prog X.w) X.A (evalPart e X.env) (λu c=>∃o b,Inv X zj a b c/\IsPart u o/\Q o b) X.xe s
def gk:TO:=λ_ H Q=>Q none H
def ox (t:TE):TO:=λa H Q=>t a H λx H1=>∃i,x= .int i/\Q (some i) H1
section
variable {X:Cx}{e:zr}{te:TE}{lo hi:zt zr}{tl th:TO}{pos p2:Pos}
def fz:PO X none gk:=by intro zj s a H Q I h;rw[evalPart_none];exact AAC ⟨none,H,I, .none,h⟩
def gA (h:PE X e te):PO X (some e) (ox te):=by intro zj s a H Q I hw;rw[evalPart_some];refine BM (h zj s a H _ I hw) λu f ⟨x,H1,b,c,d⟩=> ?_;obtain⟨i,rfl,q⟩:=d;obtain⟨t,rfl⟩:=c;exact⟨some i,H1,b, .int i t,q⟩
def hI (X:Cx)(r:V->zt Int->zt Int->Hp->VK->Prop):Prop:=
 ∀(zj:zy (zu×Obj)) (s:zw) (a:St) (H:Hp) (x:V) (v b c:zx) (lo hi:zt Int) (d:zu) (Q:VK),Inv X zj a H s->RelV x v->s.heap.IsSliceOf d b c .none->IsPart b lo->IsPart c hi->r x lo hi H Q->
  ∃T id,typeLookup (.type T) "__getitem__" =pure (some (.builtin id))/\s.TypeIs v T/\wpAny (model X.prog X.w) X.A (getItem v (.ref d)) (EP X zj a Q) X.xe s
def hI.or {r a:V->zt Int->zt Int->Hp->VK->Prop}(h:hI X r)(h':hI X a):hI X (λx lo hi H Q=>r x lo hi H Q\/a x lo hi H Q):=by
 intro zj s b H x v c d lo hi f Q I g hs i j q;rcases q with q|q
 .exact h zj s b H x v c d lo hi f Q I g hs i j q
 .exact h' zj s b H x v c d lo hi f Q I g hs i j q
def x4 (r:V->zt Int->zt Int->Hp->VK->Prop)(te:TE)(tl th:TO):TE:=λa H Q=>te a H λx H1=>tl a H1 λl b=>th a b λu c=>r x l u c Q
def bo {r:V->zt Int->zt Int->Hp->VK->Prop}(i:hI X r)(he:PE X e te)(hl:PO X lo tl)(hu:PO X hi th):PE X (.Subscript e (.Slice lo hi none p2) pos) (x4 r te tl th):=by intro zj s c H Q I h;refine Subscript_ (BM (he zj s c H _ I h) λv j ⟨x,H1,k,m,n⟩=> ?_);refine wpAny_Slice (BM (hl zj j c H1 _ k n) λd o ⟨l,p,t,y,z⟩=>BM (hu zj o c p _ t z) λf a ⟨u,g,B,C,D⟩=> ?_);rw[evalPart_none];refine AAC ?_;have E:Inv X zj c g {a with heap:=a.heap.push {cls:= .type "slice",data:= .fields #[d,f, .none] }}:=B.kept (t':=a.toks) λb K q=>AAH _ q;obtain⟨T,id,F,G,J⟩:=i zj {a with heap:=a.heap.push {cls:= .type "slice",data:= .fields #[d,f, .none] }} c g x v d f l u a.heap.objs.size Q E m (Heap.IsSliceOf.new ..) y C D;show wpAny (model X.prog X.w) X.A (subscriptTail e (.Slice lo hi none p2) v (.ref a.heap.objs.size)) (EP X zj c Q) X.xe {a with heap:=a.heap.push {cls:= .type "slice",data:= .fields #[d,f, .none] }};exact tail_any (ops:= [.ref a.heap.objs.size,v]) G F J (by with_unfolding_all rfl)
def PB (xs:zy V)(lo hi:zt Int):zy V:=(xs.drop (HT.sIx xs.length 0 lo)).take (HT.sIx xs.length xs.length hi-HT.sIx xs.length 0 lo)
def Ll (xs:zy V)(lo hi:zt Int):(PB xs lo hi).length<=xs.length:=by unfold PB;rw[ADK,List.length_drop];omega
def rZ (K:AAB):V->zt Int->zt Int->Hp->VK->Prop:=λx lo hi H Q=>∃a xs,x= .ref a/\MG K H a xs/\
 ¬(HT.sIx xs.length 0 lo=0/\HT.sIx xs.length xs.length hi=xs.length)/\∀p,H p=none->Q (.ref p) (upd H p (.tup (PB xs lo hi)))
def lD:hI X (rZ X.K):=by
 intro zj s k H x v l m lo hi n Q I g hs i j h;obtain⟨a,xs,rfl,hx,hw,q⟩:=h;cases g;obtain⟨c,r,f,hz⟩:=I.tuple hx;have d:c.toArray.size=xs.length:=by rw[AAU];exact r.length.symm
 refine⟨"tuple",_,ABu.lookup,f.typeIs, ?_⟩;refine HT.getItem_tuple_cut f hs i j (by rw[d];exact hw) ?_ (by rw[d];exact hz);rw[d];refine⟨.ref s.heap.objs.size,_,I.laid (t':=s.toks) (o:= .tup (PB xs lo hi)) (λb p q=>AAH _ q) (AAJ _) ?_,rfl,q _ (I.hok.fresh (AAJ _))⟩;exact⟨AAh (Ll xs lo hi) hz,_,(r.drop (HT.sIx xs.length 0 lo)).take (HT.sIx xs.length xs.length hi-HT.sIx xs.length 0 lo),IsTup.new _ _⟩
def iT (K:AAB):R2:=λx y H Q=>∃a b xs ys,x= .ref a/\y= .ref b/\MG K H a xs/\MG K H b ys/\xs≠ [] /\xs.length+ys.length<=sizeLine/\
 (ys= [] ->Q (.ref a) H)/\(ys≠ [] ->∀p,H p=none->Q (.ref p) (upd H p (.tup (xs++ys))))
def Ap.nil_iff {xs:zy V}{us:zy zx}(r:Ap xs us):us= [] ↔xs= [] :=by
 cases r with
 | nil=>simp
 | cons _ _=>simp
def fY:EZ X (binaryOp .Add) (iT X.K):=by intro zj s n H x y v u Q I g i h;obtain⟨a,b,xs,ys,rfl,rfl,ha,hb,hx,hz,j,k⟩:=h;cases g;cases i;obtain⟨l,d,m,_⟩:=I.tuple ha;obtain⟨f,c,p2,_⟩:=I.tuple hb;refine HT.cat_tup m p2 (λz=>hx (d.nil_iff.mp z)) (λz=>⟨.ref a,H,I,rfl,j (c.nil_iff.mp z)⟩) (λz=> ?_) (by rw[<-d.length,<-c.length];exact hz);refine⟨.ref s.heap.objs.size,_,I.laid (t':=s.toks) (o:= .tup (xs++ys)) (λb p q=>AAH _ q) (AAJ _) ?_,rfl,k (λw=>z (c.nil_iff.mpr w)) _ (I.hok.fresh (AAJ _))⟩;exact⟨by rw[AAf];exact hz,_,d.append c,IsTup.new _ _⟩
end
def Vp (n:Nat)(i:Int):zt Nat:=if 0<=i then (if i<n then some i.toNat else none) else if -(n:Int)<=i then some (i+n).toNat else none
def JV {a:Type}(xs:zy a)(i:Int):zt a:=(Vp xs.length i).bind λj=>xs[j]?
def Xa {n:Nat}{i:Int}{j:Nat}(h:Vp n i=some j):seqIndex? i n=some j/\j<n/\ -(n:Int)<=i/\i<n:=by
 unfold Vp at h;by_cases a:0<=i
 .rw [AAE a] at h;by_cases h1:i<n
  .rw [AAE h1] at h;have e:i.toNat=j:=AAY h;exact⟨by rw[seqIndex_of a h1,e],by omega,by omega,h1⟩
  .rw [AAD h1] at h;cases h
 .rw [AAD a] at h;by_cases h1: -(n:Int)<=i
  .rw [AAE h1] at h;have e:(i+n).toNat=j:=AAY h;exact⟨by rw[seqIndex_neg (by omega) h1,e],by omega,h1,by omega⟩
  .rw [AAD h1] at h;cases h
def W3 {a:Type}{xs:zy a}{i:Int}{v:a}(h:JV xs i=some v):∃j,seqIndex? i xs.length=some j/\xs[j]? =some v/\j<xs.length/\ -(xs.length:Int)<=i/\i<xs.length:=by
 unfold JV at h;cases e:Vp xs.length i with
 | none=>rw[e] at h;cases h
 | some j=> rw[e] at h;obtain⟨h1,h2,b,c⟩:=Xa e;exact⟨j,h1,h,h2,b,c⟩
def Cj {a:Type}{xs:zy a}{j:Nat}{v:a}(h:xs[j]? =some v):JV xs (j:Int)=some v:=by
 have hj:j<xs.length:=(AAx.mp h).1;have e:Vp xs.length (j:Int)=some j:=by unfold Vp;rw[AAE (by omega),AAE (by omega)];simp
 unfold JV;rw[e];exact h
def Ql (b:zr):Prop:=∀o i,subscripted b false o i=operate [o,i] (getItem o i)
def d3 (X:Cx)(r:R2):Prop:=
 ∀(value slice:zr) (zj:zy (zu×Obj)) (s:zw) (a:St) (H:Hp) (x y:V) (v u:zx) (Q:VK),Inv X zj a H s->RelV x v->RelV y u->r x y H Q->
  subscripted slice false v u=operate [v,u] (getItem v u)->wpAny (model X.prog X.w) X.A (subscriptTail value slice v u) (EP X zj a Q) X.xe s
def wU (X:Cx)(id:String)(r:V->zy V->Hp->VK->Prop):Prop:=
 ∀(zj:zy (zu×Obj)) (s:zw) (a:St) (H:Hp) (x:V) (xs:zy V) (v:zx) (us:zy zx) (Q:VK),Inv X zj a H s->RelV x v->Ap xs us->r x xs H Q->
  wpAny (model X.prog X.w) X.A (call (.builtin id) (v::us)) (EP X zj a Q) X.xe s
section
variable {X:Cx}{a b:zr}{ta tb:TE}{pos:Pos}
def d3.or {r c:R2}(h:d3 X r)(h':d3 X c):d3 X (λx y H Q=>r x y H Q\/c x y H Q):=by
 intro value slice zj s d H x y v u Q I e f q hs;rcases q with q|q
 .exact h value slice zj s d H x y v u Q I e f q hs
 .exact h' value slice zj s d H x y v u Q I e f q hs
def Lq {r:R2}(c:d3 X r)(ha:PE X a ta)(hb:PE X b tb)(hs:Ql b):PE X (.Subscript a b pos) (ZU r ta tb):=by intro zj s d H Q I h;exact Subscript_ (jL ha hb I h λv u e x y f g i j q=>c a b zj e d f x y v u Q g i j q (hs _ _))
def oD (K:AAB):R2:=λx y H Q=>∃p xs i v,x= .ref p/\y= .int i/\FH K H p xs/\JV xs i=some v/\Q v H
def oF (K:AAB):R2:=λx y H Q=>∃p xs i v,x= .ref p/\y= .int i/\MG K H p xs/\JV xs i=some v/\Q v H
def E8:d3 X (oD X.K):=by
 intro value slice zj s g H x y v u Q I l m h hs;obtain⟨p,xs,i,z,rfl,rfl,hq,he,q⟩:=h;cases l;obtain⟨t,rfl⟩:=m;obtain⟨d,r,e,hz⟩:=I.list hq;obtain⟨j,h1,h2,B,n,o⟩:=W3 he;obtain⟨w,ew,f⟩:=r.get h2;have hl:=r.length;have C:=K7;have c:EP X zj g Q w s:=⟨z,H,I,f,q⟩;by_cases k:0<=i
 .have hj:i.toNat=j:=by rw[seqIndex_of k o] at h1;exact AAY h1
  exact item_listR e.isList k (by omega) (by rw[hj];simpa using ew) c hs
 .have hj:(i+(d.toArray.size:Int)).toNat=j:=by rw[seqIndex_neg (by omega) n] at h1;rw[AAU,<-hl];exact AAY h1
  exact subscriptTail_builtinR (x:=w) e.isList.typeIs slot_list_getitem.lookup
   (wpAny_getItem_list_neg (Q:=λr A=>r=w/\EP X zj g Q r A) e.isList (by omega) (by rw[AAU] <;> omega) (by omega) (by rw[hj];simpa using ew) ⟨rfl,c⟩) hs
def jl:d3 X (oF X.K):=by
 intro value slice zj s e H x y v u Q I g k h hs;obtain⟨p,xs,i,z,rfl,rfl,hq,he,q⟩:=h;cases g;obtain⟨t,rfl⟩:=k;obtain⟨l,r,f,hz⟩:=I.tuple hq;obtain⟨j,h1,h2,n,o,A⟩:=W3 he;obtain⟨w,ew,c⟩:=r.get h2;have hl:=r.length;have B:=K7;have d:EP X zj e Q w s:=⟨z,H,I,c,q⟩;exact subscriptTail_builtinR (x:=w) f.typeIs slot_tuple_getitem.lookup
  (getItem_tuple (j:=j) (Q:=λr m=>r=w/\EP X zj e Q r m) f (by omega) (by omega) (by rw[AAU,<-hl];exact h1) (by simpa using ew) ⟨rfl,d⟩) hs
def Vw (c:zy zx)(n j:Nat)(u:zx):Obj.mapSeq (·.setIfInBounds j u) {cls:= .type "list",data:= .seq c.toArray n}={cls:= .type "list",data:= .seq (c.set j u).toArray n}:=by simp[Obj.mapSeq]
def Inv.lst {zj:zy (zu×Obj)}{d:St}{H:Hp}{s:zw}{p:zu}{xs:zy V}(I:Inv X zj d H s)(h:H p=some (.lst xs)):∃(c:zy zx) (n:Nat),Ap xs c/\s.heap.get? p=some {cls:= .type "list",data:= .seq c.toArray n}/\xs.length<=sizeLine:=by obtain⟨z,c,n,r,e⟩:=I.hok p _ h;exact⟨c,n,r,e,z⟩
def Inv.lstUpd {zj:zy (zu×Obj)}{g:St}{H:Hp}{s:zw}{p:zu}{xs ys:zy V}{c its':zy zx}{n d:Nat}{f:Obj->Obj}(I:Inv X zj g H s)(h:H p=some (.lst xs))(j:s.heap.get? p=some {cls:= .type "list",data:= .seq c.toArray n})(i:f {cls:= .type "list",data:= .seq c.toArray n}={cls:= .type "list",data:= .seq its'.toArray d})(r:Ap ys its')(hz:ys.length<=sizeLine)(t:Nat):Inv X zj g (upd H p (.lst ys)) {s with heap:=s.heap.update p f,toks:=t}:=by
 have e:(s.heap.update p f).get? p=some {cls:= .type "list",data:= .seq its'.toArray d}:=by rw[ABv f j (by rw[i] <;> rfl),i]
 refine I.write (x:=p) (e:=p) (by rw[h];trivial) (.inl rfl) (λb u hb q=>(ACD _ _ (AAi hb)).trans q) ⟨_,e⟩ ?_;exact⟨hz,its',d,r,e⟩
def oI:V->V->V->Hp->(Hp->Prop)->Prop:=λo i v H Q=>∃p xs k j,o= .ref p/\i= .int k/\H p=some (.lst xs)/\Vp xs.length k=some j/\Q (upd H p (.lst (xs.set j v)))
def OW:mR X oI:=by
 intro zj s m H o i v y z u Q I w x rv h;obtain⟨p,xs,k,j,rfl,rfl,hp,hj,q⟩:=h;cases w;obtain⟨t,rfl⟩:=x;obtain⟨c,n,r,d,hz⟩:=I.lst hp;obtain⟨h1,h2,e,f⟩:=Xa hj;have hl:=r.length;have A:=K7;have g:Inv X zj m (upd H p (.lst (xs.set j v))) {s with heap:=s.heap.update p (Obj.mapSeq (·.setIfInBounds j u))}:=
  I.lstUpd hp d (Vw c n j u) (r.set rv j) (by rw[List.length_set];exact hz) s.toks
 by_cases l:0<=k
 .have hk:k.toNat=j:=by rw[seqIndex_of l f] at h1;exact AAY h1
  exact PySem.W.ki_setAt d l (by omega) (by rw[AAU,<-hl];exact f) (by rw[hk];exact⟨_,g,q⟩)
 .have hk:(k+(c.toArray.size:Int)).toNat=j:=by rw[seqIndex_neg (by omega) e] at h1;rw[AAU,<-hl];exact AAY h1
  exact PySem.W.ki_setBack d (by omega) (by rw[AAU,<-hl];exact e) (by omega) (by rw[hk];exact⟨_,g,q⟩)
def SJ (lo hi:zt Int)(n:Nat):(sliceBounds lo hi none n).1=((HT.sIx n 0 lo:Nat):Int)/\(sliceBounds lo hi none n).2.1=((HT.sIx n n hi:Nat):Int)/\(sliceBounds lo hi none n).2.2=1:=by
 refine⟨?_, ?_,rfl⟩
 .cases lo with
  | none=>simp[sliceBounds,HT.sIx]
  | some i=>
    simp only[sliceBounds,HT.sIx,Option.getD_none,show (1:Int)>0 by decide,ABE];by_cases h:i<0
    .simp only[h,ABE] <;> omega
    .simp only[h,AAc] <;> omega
 .cases hi with
  | none=>simp[sliceBounds,HT.sIx]
  | some i=>
    simp only[sliceBounds,HT.sIx,Option.getD_none,show (1:Int)>0 by decide,ABE];by_cases h:i<0
    .simp only[h,ABE] <;> omega
    .simp only[h,AAc] <;> omega
def Pi (c:zy zx)(lo hi:zt Int):slicePick c.toArray lo hi none=((c.drop (HT.sIx c.length 0 lo)).take (HT.sIx c.length c.length hi-HT.sIx c.length 0 lo)).toArray:=by obtain⟨h1,h2,d⟩:=SJ lo hi c.toArray.size;unfold slicePick;rw[h1,h2,d];simp only[sliceRange_one,pick_run,AAU] <;> rfl
def rY (K:AAB):V->zt Int->zt Int->Hp->VK->Prop:=λx lo hi H Q=>∃a xs,x= .ref a/\FH K H a xs/\∀p,H p=none->Q (.ref p) (upd H p (.lst (PB xs lo hi)))
def gX:hI X (rY X.K):=by intro zj s j H x v k l lo hi m Q I d hs e f h;obtain⟨a,xs,rfl,hx,q⟩:=h;cases d;obtain⟨g,r,c,hz⟩:=I.list hx;have i:=r.length;refine⟨"list",_,slot_list_getitem.lookup,c.isList.typeIs, ?_⟩;refine wpAny_getItem_list_slice c.isList hs e f .none (by simp) ?_ (by rw[AAU] <;> omega);rw[Pi,<-i];refine⟨.ref s.heap.objs.size,_,I.laid (t':=s.toks) (o:= .lst (PB xs lo hi)) (λb n q=>AAH _ q) (AAJ _) ?_,rfl,q _ (I.hok.fresh (AAJ _))⟩;exact⟨AAh (Ll xs lo hi) hz,_,0,(r.drop (HT.sIx xs.length 0 lo)).take (HT.sIx xs.length xs.length hi-HT.sIx xs.length 0 lo),AAS _ rfl⟩
def Jr:Cs X (.builtin "len") (λxs H Q=>∃p ys,xs= [.ref p] /\(FH X.K H p ys\/MG X.K H p ys)/\Q (.int ys.length) H):=by
 intro zj s i H xs us Q I r h;obtain⟨p,ys,rfl,hq,q⟩:=h;obtain⟨u,rfl,g⟩:=vals1 r;cases g;have j:=K7;rcases hq with hq|hq
 .obtain ⟨c,d,e,hz⟩:=I.list hq;have f:=d.length;exact Calls.call_len_list e.isList (by simp only[AAU] <;> omega) ⟨.int ys.length,H,I.tok _,⟨s.toks+1,by rw[AAU,f]⟩,q⟩
 .obtain ⟨c,d,e,hz⟩:=I.tuple hq;have f:=d.length;exact len_tuple e (by simp only[AAU] <;> omega) ⟨.int ys.length,H,I.tok _,⟨s.toks+1,by rw[AAU,f]⟩,q⟩
def O9:Cs X (.type "tuple") (λxs H Q=>∃p ys,xs= [.ref p] /\((FH X.K H p ys/\∀l,H l=none->Q (.ref l) (upd H l (.tup ys)))\/(MG X.K H p ys/\Q (.ref p) H))):=by
 intro zj s g H xs us Q I r h;obtain⟨p,ys,rfl,h⟩:=h;obtain⟨u,rfl,j⟩:=vals1 r;cases j;rcases h with⟨hq,q⟩|⟨hq,q⟩
 .obtain ⟨c,d,f,hz⟩:=I.list hq;have n:=d.length;refine call_tuple_list f.isList (λh' k=> ?_) (by simp only[AAU] <;> omega);have i:Inv X zj g H {s with heap:=h'}:=I.kept (t':=s.toks) k;have m:Inv X zj g (upd H h'.objs.size (.tup ys)) {s with heap:=h'.push {cls:= .type "tuple",data:= .seq c.toArray}}:=
   i.laid (t':=s.toks) (λb o e=>AAH _ e) (AAJ _) (show CI X.prog X.w _ _ _ (.tup ys) from⟨hz,c,d,IsTup.new _ _⟩)
  exact⟨.ref h'.objs.size,_,m,rfl,q _ (i.hok.fresh (AAJ _))⟩
 .obtain ⟨c,d,f,hz⟩:=I.tuple hq;exact call_tuple_same f ⟨.ref p,H,I,rfl,q⟩
def uc (K:AAB)(T:String)(x:V)(H:Hp):Prop:=match x with
 | .str _=>T="str"
 | .int _=>T="int"
 | .ref p=>(T="list" /\∃xs,FH K H p xs)\/(T="tuple" /\∃o,K.lookup p=some o/\o.cls= .type "tuple" /\o.dict=none)\/
     (T="dict" /\((∃kvs,H p=some (.dK kvs))\/∃kvs,H p=some (.dT kvs)))\/(T="set" /\∃S n,H p=some (.set S n))
 | _=>False
def lS {zj:zy (zu×Obj)}{j:St}{H:Hp}{s:zw}{T:String}{x:V}{v:zx}(I:Inv X zj j H s)(r:RelV x v)(d:uc X.K T x H):s.TypeIs v T/\∀a,v= .ref a->∃g,s.heap.get? a=some g/\g.dict=none:=by
 cases x with
 | str z=> obtain⟨t,rfl⟩:=r;cases (show T="str" from d);exact⟨typeIs_str s z t,λ_ e=>nomatch e⟩
 | int i=> obtain⟨t,rfl⟩:=r;cases (show T="int" from d);exact⟨typeIs_int s i t,λ_ e=>nomatch e⟩
 | ref p=>
   cases r;rcases d with⟨rfl,xs,hq⟩|⟨rfl,o,hk,hc,hd⟩|⟨rfl,hk⟩|⟨rfl,S,n,hk⟩
   .obtain ⟨k,_,h,_⟩:=I.list hq;refine⟨h.isList.typeIs,λa e=> ?_⟩;cases e;obtain⟨o,n,e,c,hd,_⟩:=h;exact⟨o,e,hd⟩
   .refine ⟨⟨o,I.kIn p o hk,hc⟩,λa e=> ?_⟩;cases e;exact⟨o,I.kIn _ o hk,hd⟩
   .have z:∃o,s.heap.get? p=some o/\o.ExactDict:=by
     rcases hk with⟨kvs,hk⟩|⟨kvs,hk⟩
     .obtain ⟨_,_,_,_,o,_,_,e,ex,_⟩:=I.hok p _ hk;exact⟨o,e,ex⟩
     .obtain ⟨_,_,_,_,o,_,_,e,ex,_⟩:=I.hok p _ hk;exact⟨o,e,ex⟩
    obtain⟨o,e,ex⟩:=z;refine⟨⟨o,e,ex.1⟩,λa f=> ?_⟩;cases f;exact⟨o,e,ex.2.1⟩
   .obtain ⟨o,_,_,_,e,ex,_⟩:=I.hok p _ hk;refine⟨⟨o,e,ex.1⟩,λa f=> ?_⟩;cases f;exact⟨o,e,ex.2.1⟩
 | _=>exact False.elim d
def uZ (K:AAB)(T:String)(r:V->zy V->Hp->VK->Prop)(d:TE)(t:TA):TE:=λc H Q=>d c H λx H1=>uc K T x H1/\t c H1 λxs e=>r x xs e Q
variable {o e:zr}{es:zy zr}{to:TE}{t:TA}{name:Str}{apos cpos:Pos}{T id:String}{r:V->zy V->Hp->VK->Prop}
def nz (i:PlainAttrs T)(slot:Slot T name id)(j:typeOf (.builtin id)=pure (.type "method_descriptor"))(k:wU X id r)(l:PE X o to)(ha:PA X (e::es) t)(m:attributeBase o name X.env (eval o X.env)=eval o X.env:=by rfl)(n:((backTo cpos (starEach (e::es) X.env)).all (λx=> !x.1)&&(backToKw cpos (keywordEach [] X.env)).all (λx=>x.1.isSome) && decide ((e::es).length+([] :zy Keyword).length+(if ([] :zy Keyword).isEmpty then 0 else 1)<30))=true:=by rfl)(p:(apos.endLine==cpos.line)=true:=by rfl)(hs:starEach (e::es) X.env=(false,eval e X.env)::starEach es X.env:=by rfl)(u:(backTo cpos (starEach es X.env)).any (·.1)=false:=by rfl):PE X (.Call (.Attribute o name apos) (e::es) [] cpos) (uZ X.K T r to t):=by intro zj s c H Q I h;refine wpAny_Call_method_late m n p rfl (BM (l zj s c H _ I h) λv w ⟨x,H1,d,f,y,z⟩=> ?_);obtain⟨h1,h2⟩:=lS d f y;refine⟨T,id,i,slot,j,h1,h2, ?_⟩;have g:=ha cpos zj w c H1 _ d z;rw[hs] at g ⊢;refine ACe (by show (false||(backTo cpos (starEach es X.env)).any (·.1))=false;rw[u] <;> rfl) (ADP ?_);exact BM g λus A ⟨vs,B,C,D,E⟩=>k zj A c B x vs v us Q C f D E
end
def mP (X:Cx)(id:String)(r:V->zy V->Hp->VK->Prop):Prop:=
 ∀(zj:zy (zu×Obj)) (s:zw) (a:St) (H:Hp) (x:V) (xs:zy V) (v:zx) (us:zy zx) (Q:VK),Inv X zj a H s->RelV x v->Ap xs us->r x xs H Q->
  wpAny (model X.prog X.w) X.A (call (.builtin id) (v::us)) (EP X zj a Q) X.xe s
def Ap.one:∀{x:V} {us:zy zx},Ap [x] us->∃u,us= [u] /\RelV x u
 | _,_, .cons r .nil=>⟨_,rfl,r⟩
def Ap.two:∀{x y:V} {us:zy zx},Ap [x,y] us->∃u v,us= [u,v] /\RelV x u/\RelV y v
 | _,_,_, .cons r (.cons q .nil)=>⟨_,_,rfl,r,q⟩
def Ap.zero:∀{us:zy zx},Ap [] us->us= []
 | _, .nil=>rfl
def Ap.dropLast {xs:zy V}{us:zy zx}(h:Ap xs us):Ap xs.dropLast us.dropLast:=by
 induction h with
 | nil=>exact .nil
 | cons r t ih=>
   cases t with
   | nil=>exact .nil
   | cons q t'=>exact .cons r ih
def Ap.reverse {xs:zy V}{us:zy zx}(h:Ap xs us):Ap xs.reverse us.reverse:=by
 induction h with
 | nil=>exact .nil
 | cons r t ih=>rw[ACf,ACf];exact Ap.append ih (.cons r .nil)
section
variable {X:Cx}{zj:zy (zu×Obj)}{σ:St}{H:Hp}{s:zw}{l b:zu}{xs ys zs:zy V}
def Inv.lset {a its':zy zx}{n:Nat}{f:Array zx->Array zx}{t':Nat}(I:Inv X zj σ H s)(c:H l=some (.lst xs))(e:s.heap.get? l=some {cls:= .type "list",data:= .seq a.toArray n})(d:f a.toArray=its'.toArray)(hv:Ap ys its')(hz:ys.length<=sizeLine):Inv X zj σ (upd H l (.lst ys)) {s with heap:=s.heap.update l (Obj.mapSeq f),toks:=t'}:=by have q:=PySem.IsL.update e f;rw[d] at q;refine I.write (x:=l) (e:=l) (by rw[c];exact trivial) (.inl rfl) (λg u hb hu=>(ACD s.heap (Obj.mapSeq f) (AAi hb)).trans hu) ⟨_,q⟩ ?_;exact⟨hz,its',_,hv,q⟩
def Inv.lnew {a:zy zx}{t':Nat}(I:Inv X zj σ H s)(hv:Ap ys a)(hz:ys.length<=sizeLine):Inv X zj σ (upd H s.heap.objs.size (.lst ys)) {s with heap:=s.heap.push {cls:= .type "list",data:= .seq a.toArray},toks:=t'}:=
 I.laid (λ_ _ q=>AAH _ q) (AAJ _) ⟨hz,a,0,hv,AAS _ rfl⟩
def Inv.fresh (I:Inv X zj σ H s):H s.heap.objs.size=none:=I.hok.fresh (AAJ _)
def Inv.lstM (I:Inv X zj σ H s)(c:H l=some (.lst xs)):xs.length<=sizeLine/\∃(a:zy zx) (n:Nat),Ap xs a/\xs.length=a.length/\s.heap.get? l=some {cls:= .type "list",data:= .seq a.toArray n}:=by obtain⟨z,a,n,r,e⟩:=I.hok l _ c;exact⟨z,a,n,r,r.length,e⟩
end
section
variable {X:Cx}
def Rh:V->zy V->Hp->VK->Prop:=λx vs H Q=>∃l xs y,x= .ref l/\vs= [y] /\H l=some (.lst xs)/\xs.length<sizeLine/\Q .non (upd H l (.lst (xs ++ [y])))
def LA:mP X "list.append" Rh:=by intro zj s f H x vs v us Q I c rv h;obtain⟨l,xs,y,rfl,rfl,b,hz,q⟩:=h;cases c;obtain⟨u,rfl,d⟩:=rv.one;obtain⟨z,a,n,r,hl,e⟩:=I.lstM b;refine call_meets F.slot_list_append ⟨_,e,rfl⟩ F.entry_list_append (F.args_list_append_2 _ _) (PySem.list_append l a.toArray n u (by rw[AAU];omega)) ⟨e, ?_⟩;refine⟨.non,_,I.lset (its':=a ++ [u]) b e (by simp) (r.append (.cons d .nil)) ?_,rfl,q⟩;rw[AAf,List.length_singleton];omega
def oB:R2:=λx y H Q=>∃l b xs a,x= .ref l/\y= .ref b/\H l=some (.lst xs)/\H b=some (.lst a)/\xs.length+a.length<=sizeLine/\∀p,H p=none->Q (.ref p) (upd H p (.lst (xs++a)))
def kA:EZ X (binaryOp .Add) oB:=by
 intro zj s o H x y v u Q I d f h;obtain⟨l,b,xs,p,rfl,rfl,g,i,hz,q⟩:=h;cases d;cases f;obtain⟨z,c,n,r,hl,e⟩:=I.lstM g;obtain⟨t,a,w,j,A,k⟩:=I.lstM i;refine PySem.P.add_list e k ?_ (by rw[AAU,AAU];omega);have m:c.toArray++a.toArray=(c++a).toArray:=by simp
 rw[m];exact⟨.ref _,_,I.lnew (t':=s.toks) (r.append j) (by rw[AAf];omega),rfl,q _ I.fresh⟩
end
section
variable {prog:zp}{w:zm}{A:zk}{E:zx->zw->Prop}{s:zw}
set_option maxRecDepth 100000 in
end
end L2
namespace Att
open PySem PySem.W PySem.Calls PyProof.Rows
def MN {P:Params}{h:zl}:∀(c:zy Int) (vs:zy zx),WellAll P h vs (c.map WData.int)->IntsAre vs c:=by
 intro c;induction c with
 | nil=> intro vs w;rw[ABS] at w;cases w;exact .nil
 | cons n c ih=>
   intro vs w;rw[AAK] at w;cases w with
   | cons a b=> cases a;exact .cons _ _ (ih _ b)
def ZO {l:OpenLaw}{n:Nat}(g:l.most=some n){P:Params}{h:zl}{args:zy WData}{vals:zy zx}(f:l.row.toRowW.claim.pre args=true)(i:WellAll P h vals args):∃a vs b,vals= [Value.ref a] /\args= [WData.list (b.map WData.int)] /\h.get? a=some {cls:= .type "list",data:= .seq vs.toArray}/\IntsAre vs b/\b.length<=n:=by
 have j:WShape.hasAll [] args [.list .int] =true:=(pre_splitW f).1;have hc:l.pre.holds [] {args:=args}=true:=(pre_splitW f).2;obtain⟨d,r,rfl,h1,h2⟩:=hasAllW_cons j;obtain rfl:=hasAllW_nil h2;obtain⟨xs,rfl,k⟩:=hasW_list h1;obtain⟨b,rfl⟩:=items_int k;have m:b.length<=n:=by
  unfold OpenLaw.pre at hc;have c:(WTm.not (.lt (.lit (.int (n:Int))) (.len (.arg 0)))).holds [] {args:= [.list (b.map .int)] }=true:=by have c:=(holds_andW hc).1;rw[g] at c;exact c
  have e:=condW_of c (w_not (w_lt w_lit (w_len_list (w_arg rfl))));rw[AAI] at e;refine Nat.le_of_not_lt λq=> ?_;have o:(n:Int)<((b.length:Nat):Int):=by omega
  first
   | (rw[AAk o] at e;exact absurd e (by decide))
   | (simp at e;omega)
 cases i with
 | cons p s=>
   cases s;cases p with
   | list t u=>exact⟨_,_,b,rfl,rfl,t,MN b _ u,m⟩
def ZJ (l:OpenLaw)(args:zy WData):l.row.toRowW.claim.post args (.bool true) args=true:=
 postW_of (r:=l.row.toRowW) (X:=(true==true))
  (show WShape.has [] (.bool true) .bool=true by first | rfl|decide|simp[WShape.has,WShape.arms,WShape.armsAll])
  (show (WTm.eq .res (.lit (.bool true))).value [] {args:=args,res:=some (.bool true),after:=args}=some (.bool (true==true)) from w_eq_bool (w_res rfl) w_lit) rfl
def attach_call {l:OpenLaw}{n:Nat}{q:zp}{loose:zy Str}{XP:(Str->zt zx)->zl->Prop}{YP:zm->zl->Prop}{d:DefRec}(p:l.most=some n)(s:d.params.defaults= [])(call:∀(w:zm) (s₀ b:zw) (mg j:Str->zt zx) (e:zu) (o:Obj) (k g c:zx) (a:zu) (vs:zy zx) (h:zy Int),Ground q loose [] XP w s₀ mg j b.heap->YP w b.heap-> b.heap.get? e=some o->o.data= .func (docDef d.name d.params d.body d.scope k g c)->b.heap.CodeRec g d.name->mg d.name=some (.ref e)-> b.heap.get? a=some {cls:= .type "list",data:= .seq vs.toArray}->IntsAre vs h->h.length<=n->b.gens= #[] -> codeAny (model l.prog w) callerA (.call (.ref e) ⟨[.ref a], []⟩) (λr i=>r= .ok (.ret (.bool true))/\OldK b.heap i.heap/\i.os=b.os/\AllBare i.gens) b):WalkO q loose XP YP l.row.toRowW d [] (λf vs=>PySem.call f vs):=by intro w s₀ b mg j G Y e o k g c t kV u hd v m x y args vals as z I J A K;obtain rfl:t= .none:=Dflts.none m s;obtain rfl:kV= .none:=Dflts.noKw m;obtain⟨a,vs,h,rfl,rfl,B,C,D⟩:=ZO p z A;refine enter_call (AB9 (call w s₀ b mg j e o k g c a vs h G Y u (fd_plain hd) v x B C D y) λr i hq=> ?_);obtain⟨rfl,h2,E,F⟩:=hq;exact⟨.inl ⟨.bool true, .bool true, [],rfl,λ_=>rfl, .bool true,ZJ l _,λ_=>⟨List.Pairwise.nil,λ_ H=>(nomatch H)⟩⟩,h2,E,F⟩
section
variable {prog:zp}{w:zm}{A:zk}{E:zx->zw->Prop}{s:zw}{K:Frag}
def rP (h:zl)(L d:zu):zy (zu×Obj):=(List.range h.objs.size).filterMap λa=>if a=L\/a=d then none else (h.get? a).map λo=>(a,o)
end
end Att
namespace L2
open PySem PySem.Spec PyProof.Rows
theorem QX:∀{vs:zy zx} {a:zy Int},IntsAre vs a->Ap (a.map V.int) vs
 | _,_, .nil=> .nil
 | _,_, .cons n t h=> .cons ⟨t,rfl⟩ (QX h)
def i6 (H:Hp):Prop:=∀b,H b=none\/∃o xs,H b=some (.frz o (.lst xs))
def bI {P:zp}{w:zm}{K:AAB}{mg t:Str->zt zx}{CX:YI}{k:Nat}{y a:zu}{C:FuncData}{x:Str}{sp:Sp}{c:zw}{vs:zy zx}{j:zy Int}(D:K.In c.heap)(E:c.heap.Ns mainGlobals mg)(hb:c.heap.Ns builtinsNs t)(M:∀x:Str,x≠"__name__" ->t x=bootBuiltins x)(N:c.heap.NoLimit)(O:c.gens= #[])(ha:c.heap.get? a=some {cls:= .type "list",data:= .seq vs.toArray})(hi:IntsAre vs j)(hl:j.length<=sizeLine)(Q:Room k callerA)(F:∀base:zl,K.In base->base.Ns mainGlobals mg->Ej P w K mg base CX k y C [x] sp)(R:∀(s:zw) (u:zx),BindsTo s C ⟨[u], []⟩ [(x,u)])(S:∀H:Hp,i6 H->FH K H a (j.map V.int)->sp [.ref a] H (λv _=>v= .bl true) λ_ _ _=>False)(T:∀H e g,CX [] H c (λ_ _ _=>False) e g->False):codeAny (model P w) callerA (.call (.ref y) ⟨[.ref a], []⟩) (λr g=>r= .ok (.ret (.bool true))/\OldK c.heap g.heap/\g.os=c.os/\AllBare g.gens) c:=by
 have rv:=QX hi;have l:=hi.length;have core:∀H:Hp,i6 H->FH K H a (j.map V.int)->IZ P w H c.heap->(∀b,H b≠none->b=a)->(H a≠none->K.lookup a=none)->
  codeAny (model P w) callerA (.call (.ref y) ⟨[.ref a], []⟩) (λr g=>r= .ok (.ret (.bool true))/\OldK c.heap g.heap/\g.os=c.os/\AllBare g.gens) c:=by
  intro H G U hok I W;have f:∀{b:zu} {o:Obj},c.heap.get? b=some o->H b=none->(Q8 c.heap H).get? b=some o:=λe n=>aq e n;have A:∀{b:zu} {o:Obj} {es:Array DictEntry} {ep:Nat},c.heap.get? b=some o->o.data= .dict es ep->H b=none:=λ{b o es ep} e d=>by
   cases q:H b with
   | none=>rfl
   | some u=> have B:b=a:=I b (by rw[q];simp);subst B;rw[ha] at e;cases e;have d':Data.seq vs.toArray _=Data.dict es ep:=d;cases d'
  have i:∀{b:zu} {m:Str->zt zx},c.heap.Ns b m->(Q8 c.heap H).Ns b m:=λ{b m} ⟨o,es,ep,e,d,r⟩=>⟨o,es,ep,f e (A e d),d,r⟩;have J:K.In (Q8 c.heap H):=λb o e=>f (D b o e) (by
   cases q:H b with
   | none=>rfl
   | some u=>
     have B:b=a:=I b (by rw[q];simp);subst B;rw[W (by rw[q];simp)] at e;cases e)
  have X:Mod K mg (Q8 c.heap H):=⟨J,i E,⟨t,i hb,M⟩,let ⟨Y,h1,h2⟩:=N;⟨Y,i h1,h2⟩⟩;have Z:O4 P w K mg (Q8 c.heap H) callerA [] c H:=⟨rfl,X,λb o e=>fS e,Nat.le_of_eq (Yr _ _),trivial,λb hb=>absurd (show b∈([] :zy zu) from hb) (by simp),hok, .of_eq O⟩;refine AB9 ((F _ J (i E)).run callerA [] c H ⟨[.ref a], []⟩ [.ref a] [.ref a] _ _ Q Z (R c (.ref a)) (.cons rfl .nil) (S H G U)) λr g h=> ?_;cases r with
  | error e=>exact(T H e g h).elim
  | ok fl=>
    cases fl with
    | next=>exact False.elim h
    | brk=>exact False.elim h
    | cont=>exact False.elim h
    | ret u=>
      obtain⟨v,H',os,bare,un,qz,r',q⟩:=h;have q':v= .bl true:=q;subst q';obtain rfl:u=Value.bool true:=r';refine⟨rfl,OldK.of_keep λb o e=> ?_,os,bare⟩;cases q:H b with
      | none=>exact un.keep b o e q (by intro z;exact absurd (show b∈([] :zy zu) from z) (by simp)) (by simp)
      | some u=>
        rcases G b with z|⟨ob,xs,z⟩
        .rw [q] at z;cases z
        .have z2:=un.frzs b ob _ z;obtain⟨L,_⟩:=hok b _ z;obtain⟨e2,_⟩:=qz b _ z2;rw[e] at L;cases L;exact e2
 cases hk:K.lookup a with
 | some o=> have e:=D a o hk;rw[ha] at e;cases e;refine core (λ_=>none) (λ_=> .inl rfl) (.inr ⟨_,vs.toArray,_,hk,rfl,rfl,rfl,by rw[AAU,l];exact hl,by simpa using rv⟩) (λb u z=>by have p:(none:zt HO)=some u:=z;cases p) (λb z=>absurd rfl z) λz=>absurd rfl z
 | none=>
   refine core (λb=>if b=a then some (.frz {cls:= .type "list",data:= .seq vs.toArray} (.lst (j.map V.int))) else none) (λb=> ?_) (.inl (.inr ⟨{cls:= .type "list",data:= .seq vs.toArray},AAE rfl⟩)) (λb u z=> ?_) (λb z=> ?_) λ_=>hk
   .by_cases hb:b=a
    .exact .inr ⟨_,_,AAE hb⟩
    .exact .inl (AAD hb)
   .by_cases hb:b=a
    .have p:=(AAE hb).symm.trans z;cases p;subst hb;exact⟨ha,by rw[AAI];exact hl,vs,_,rv,ha⟩
    .have p:=(AAD hb).symm.trans z;cases p
   .by_cases hb:b=a
    .exact hb
    .exact absurd (AAD hb) z
abbrev yV {K:AAB}{h:zl}(_:K.In h):AAB:=K
def walk_of {l:PySem.W.OpenLaw}{n k:Nat}{q:zp}{loose:zy Str}{XP:(Str->zt zx)->zl->Prop}{YP:zm->zl->Prop}{d:DefRec}{K:Params->AAB}{CX:zm->YI}{sp:zm->Sp}{x:Str}(y:l.most=some n)(z:n<=sizeLine)(A:d.params.defaults= [])(B:Room k callerA)(C:∀(w:zm) (h:zl),YP w h->(K w.params).In h)(F:∀(w:zm) (mg:Str->zt zx) (i:zu) (h:zl),(K w.params).In h->h.Ns mainGlobals mg->mg d.name=some (.ref i)-> ∃m:FuncData,(∀(s:zw) (u:zx),BindsTo s m ⟨[u], []⟩ [(x,u)])/\ ∀base:zl,(K w.params).In base->base.Ns mainGlobals mg->Ej l.prog w (K w.params) mg base (CX w) k i m [x] (sp w))(D:∀(w:zm) (H:Hp) (a:zu) (j:zy Int),j.length<=n->i6 H->FH (K w.params) H a (j.map V.int)->sp w [.ref a] H (λv _=>v= .bl true) λ_ _ _=>False)(E:∀(w:zm) (H:Hp) (s:zw) (e:zx) (p:zw),CX w [] H s (λ_ _ _=>False) e p->False):PySem.W.WalkO q loose XP YP l.row.toRowW d [] (λf vs=>PySem.call f vs):=by refine Att.attach_call y A λw s₀ c mg Q i o R S I a vs j G Y U hd X J L M r N=> ?_;have t:=C w _ Y;obtain⟨m,hb,hF⟩:=F w mg i _ t G.T.g J;exact bI t G.T.g G.T.b G.T.builtins G.T.nolimit N L M (AAh r z) B hF hb (λH O P=>D w H a j r O P) λH e p=>E w H c e p
abbrev Sy:YI:=λ_ _ _ _ _ _=>False
abbrev E0:XK:=λ_ _ _=>False
def nu {X:Cx}:Passes Sy X E0:=λ_ _ _ _ _ _ _ h=>h.elim
structure U6 (K:AAB) (x qual:Str) (st:Stmt) (f:Addr) (fd:FuncData):Prop where
 ex:∃(oc:Value) (od:Option Addr) (kV doc pm:Value) (an:Option Addr) (cdv ct:Value) (osl:Array (Option Value)),
  fd=PySem.W.fnOf x qual (F2 st) (D9 st) (BQ st) .none kV doc pm an cdv ct/\K.lookup f=some ⟨oc,od, .func fd,osl⟩/\PySem.W.codeIn K cdv qual=true
 kp:PySem.W.keepIn K (.ref f)=true
section
variable {P:zp}{w:zm}{K:AAB}{mg:Str->zt zx}{base:zl}
def U6.ok {x qual:Str}{st:Stmt}{f:zu}{c:FuncData}{N b:zy Str}{k:Nat}{sp:Sp}(F:U6 K x qual st f c)(S:EN N b (BQ st))(len:∀vs H Q E,sp vs H Q E->vs.length=b.length)(d:∀(a:zx) (A:zk) (outer:zy Env) (s:zw) (H:Hp) (vs:zy V) (Q:VK) (E:XK),Room k (A.deeper (envOfC qual (BQ st) s.heap.objs.size f a))->sp vs H Q E-> ∃t,Um (TH Sy P w K mg base N qual (BQ st) f a A outer s H E).nox (D9 st) t/\t {nx:=λ_ e=>Q .non e,rt:=Q} (start N vs) H):Ej P w K mg base Sy (k+1) f c b sp:=by obtain⟨o,p,kV,g,r,u,a,ct,i,rfl,j,l⟩:=F.ex;refine me j l S len λA outer s H vs Q E m n=> ?_;obtain⟨t,h,q⟩:=d a A outer s H vs Q E m n;exact⟨t,h.nox,q⟩
def U6.binds {x qual:Str}{st:Stmt}{f:zu}{g:FuncData}{c:zy Str}(F:U6 K x qual st f g)(h:∀(kV a d:zx) (e:zt zu) (b ct:zx) (us:zy zx),us.length=c.length->bindArgs (PySem.W.fnOf x qual (F2 st) (D9 st) (BQ st) .none kV a d e b ct) ⟨us, []⟩=pure (c.zip us)):Binds K g c [] :=by obtain⟨j,k,kV,a,d,e,b,ct,i,rfl,l,m⟩:=F.ex;exact .all (h kV a d e b ct)
def aY {x qual:Str}{st:Stmt}{f:zu}{h:zx}{i e:zt zu}{d:Array (zt zx)}{kV b g a ct:zx}(l:K.lookup f=some ⟨h,i, .func (PySem.W.fnOf x qual (F2 st) (D9 st) (BQ st) .none kV b g e a ct),d⟩)(c:PySem.W.codeIn K a qual=true)(k:PySem.W.keepIn K (.ref f)=true):U6 K x qual st f (PySem.W.fnOf x qual (F2 st) (D9 st) (BQ st) .none kV b g e a ct):=⟨⟨h,i,kV,b,g,e,a,ct,d,rfl,l,c⟩,k⟩
end
section
variable {X:Cx}
def pv (i:Nat){x:Str}{a:Pos}(hN:X.N[i]? =some x:=by rfl)(hv:jC X.env.scope x:=by first | exact Or.inl rfl|exact Or.inr (Or.inl rfl)|exact Or.inr (Or.inr rfl))(hd:(x==("__debug__" :Str))=false:=by decide)(b:(x==("__classdict__" :Str))=false:=by decide):PE X (.Name x a) (DN i):=Re hN hv hd b
end
def nO {c A B:Prop}[Decidable c](h1:c->A)(h2:¬c->B):if c then A else B:=by
 by_cases h:c
 .rw [AAE h];exact h1 h
 .rw [AAD h];exact h2 h
def S3 (H a:Hp):Prop:=∀b o,H b=some o->a b=some o
def S3.free {H a:Hp}(e:S3 H a){l:zu}(h:a l=Option.none):H l=Option.none:=by
 cases q:H l with
 | none=>rfl
 | some o=> rw[e l o q] at h;cases h
def S3.seq {K:AAB}{H b:Hp}{a:zu}{xs:zy V}(e:S3 H b)(h:FH K H a xs):FH K b a xs:=by
 rcases h with(h|⟨o,h⟩)|h
 .exact .inl (.inl (e _ _ h))
 .exact .inl (.inr ⟨o,e _ _ h⟩)
 .exact .inr h
theorem G5 {c d:Type}[BEq c][LawfulBEq c]{k:c}{a:d}:∀{l:zy (c×d)},l.lookup k=some a->(k,a)∈l
 | [],h=>by simp at h
 | (n,b)::r,h=>by
   rw[List.lookup_cons] at h;cases e:k==n with
   | true=>
     rw[e] at h;have f:k=n:=by simpa using e
     have hb:b=a:=by simpa using h
     subst f hb;exact ABd
   | false=> rw[e] at h;exact ABG _ (G5 h)
theorem QM {c d:Type}[BEq c][LawfulBEq c]{k:c}{a:d}:∀{l:zy (c×d)},(k,a)∈l->∃b,l.lookup k=some b
 | [],h=>nomatch h
 | (n,b)::r,h=>by
   rw[List.lookup_cons];cases e:k==n with
   | true=>exact⟨b,rfl⟩
   | false=>
     rcases AAF.mp h with z|z
     .have:k=n:=congrArg Prod.fst z;rw[this] at e;simp at e
     .exact QM z
theorem G2 {env:Env}{F:Str×NameKind->zy (Str×zu)->Sem (ForInStep (zy (Str×zu)))}(h1:∀n r c,env.cells.lookup n=some c->F (n, .free) r=pure (.yield ((n,c)::r)))(h2:∀n k r,k≠NameKind.free->F (n,k) r=pure (.yield r)):∀(names:zy (Str×NameKind)) (f:zy (Str×zu)),(∀x∈names,x.2= .free->∃c,env.cells.lookup x.1=some c)-> ∃cl,(forIn names f F:Sem _)=pure cl/\(∀p∈cl,p∈f\/env.cells.lookup p.1=some p.2)/\(∀p∈f,p∈cl)/\∀x∈names,x.2= .free->∃c,(x.1,c)∈cl
 | [],f,_=>⟨f,rfl,λp hp=> .inl hp,λp hp=>hp,λx hx=>nomatch hx⟩
 | (n,k)::r,f,h=>by
   by_cases hk:k= .free
   .subst hk;obtain⟨c,hc⟩:=h (n, .free) ABd rfl;obtain⟨cl,e,a,b,d⟩:=G2 h1 h2 r ((n,c)::f) (λx hx=>h x (ABG _ hx));refine⟨cl, ?_,λp hp=> ?_,λp hp=>b p (ABG _ hp),λx hx g=> ?_⟩
    .rw [ACg,h1 n f c hc];exact e
    .rcases a p hp with z|z
     .rcases AAF.mp z with z|z
      .subst z;exact .inr hc
      .exact .inl z
     .exact .inr z
    .rcases AAF.mp hx with z|z
     .subst z;exact⟨c,b _ ABd⟩
     .exact d x z g
   .obtain ⟨cl,e,a,b,d⟩:=G2 h1 h2 r f (λx hx=>h x (ABG _ hx));refine⟨cl, ?_,a,b,λx hx g=> ?_⟩
    .rw [ACg,h2 n k f hk];exact e
    .rcases AAF.mp hx with z|z
     .subst z;exact absurd g hk
     .exact d x z g
def F1 {env:Env}{scope:Scope}(h:∀x∈scope.names,x.2= .free->∃c,env.cells.lookup x.1=some c):∃cl,closureFor scope env=pure cl/\(∀y c,cl.lookup y=some c->env.cells.lookup y=some c)/\∀y,(y,NameKind.free)∈scope.names->∃c,cl.lookup y=some c:=by
 obtain⟨cl,e,a,_,d⟩:=G2 (env:=env) (F:=λx cs=>match x with | (name,kind)=>if (kind==NameKind.free)=true then do let a <-cellOf env name;pure (ForInStep.yield ((name,a)::cs)) else pure (ForInStep.yield cs))
  (λn r c hc=>by
    show (do let a <-cellOf env n;pure (ForInStep.yield ((n,a)::r)):Sem _)=_;unfold cellOf;rw[hc];rfl)
  (λn k r hk=>by
    have:(k==NameKind.free)=false:=by simpa using hk
    simp[this]) scope.names [] h
 refine⟨cl, ?_,λy c q=> ?_,λy hy=> ?_⟩
 .unfold closureFor;have b:(forIn scope.names ([] :zy (Str×zu)) λx cs=>match x with | (name,kind)=>if (kind==NameKind.free)=true then do let a <-cellOf env name;pure (ForInStep.yield ((name,a)::cs)) else pure (ForInStep.yield cs):Sem _) >>= (λr=>pure r)=pure cl:=by rw[e];rfl
  exact b
 .rcases a _ (G5 q) with z|z
  .exact nomatch z
  .exact z
 .obtain ⟨c,hc⟩:=d (y, .free) hy rfl;exact QM hc
def FJ (env:Env)(sc:Scope)(cl:zy (Str×zu))(C:zu):Env:=
 {scope:=sc,locals:=C,globals:=env.globals,cells:=cl,qual:=env.qual,func:=none,code:=env.code,frame:=env.frame,builtins:=env.builtins}
def blk (X:Cx)(sc:Scope)(N:zy Str)(cl:zy (Str×zu))(C:zu)(s:zw)(H:Hp)(ex:zy zu)(pn:zy (zu×Obj)):Cx where
 prog:=X.prog
 w:=X.w
 K:=X.K
 mg:=X.mg
 base:=X.base
 A:=X.A
 N:=N
 s₀:=s
 H₀:=H
 env:=FJ X.env sc cl C
 outer:=X.stack
 stack:=X.stack
 ex:=ex
 fn:=λ_=>false
 calm:=X.calm
 pn:=pn
 xe:=λ_ _=>False
section
variable {X:Cx}{zj:zy (zu×Obj)}{σ:St}{H:Hp}{s:zw}{fp:zy zu}{sc:Scope}{N:zy Str}{cl:zy (Str×zu)}
def Inv.notStk (I:Inv X zj σ H s){b:zu}(h1:b≠X.env.locals)(h2:b ∉ X.fs):b ∉ Ze X.stack:=λz=>by
 rcases AAF.mp (I.stkSub b z) with e|e
 .exact h1 e
 .exact h2 e
def Inv.szLt (I:Inv X zj σ H s){x:Str}{c:zu}(e:X.env.cells.lookup x=some c):c<s.heap.objs.size:=by obtain⟨v,q⟩:=I.cell x c e;exact q.lt
def jM (I:Inv X zj σ H s)(d:∀b∈fp,EO X zj H b)(f:∀b∈fp,b<s.heap.objs.size)(hk:sc.kind= .function)(h1:∀y c,cl.lookup y=some c->X.env.cells.lookup y=some c)(h2:∀y,(sc.names.lookup y=some .cell\/sc.names.lookup y=some .free)->∃c,cl.lookup y=some c):(blk X sc N cl s.heap.objs.size s H fp (X.pn++zj)).Ok where
 mod:=I.ok.mod
 kind:=hk
 glob:=I.ok.glob
 blt:=I.ok.blt
 above:=AAJ _
 inj:=λx y c a b=>I.ok.inj x y c (h1 x c a) (h1 y c b)
 has:=λx hx=>h2 x hx
 cab:=λx c z=>nomatch z
 hd:=I.ok.hd
 frames:=I.ok.frames
 stk:= .inl rfl
 exf:=λb hb=>⟨AAL (f b hb),λx c e=>(d b hb).2.2.2.2.1 x c (h1 x c e)⟩
 bs:=I.bs
 bsz:=AAh I.ok.bsz I.sz
 noex:=λb o e hb=>by
  rcases (d b hb).2.2.2.1 with z|z
  .exact I.ok.noex b o e z
  .exact absurd (AAX (AAG (I.ok.bs b o e).1) z) (ABH _)
 exfs:=λb hb=>I.notStk (d b hb).2.1 (d b hb).2.2.1
 funs:=I.stack
 frf:=I.stkFree
def Bo (own:Nat)(ix:zy Nat)(σ:St):St:=List.replicate own none++ix.map λi=>(σ[i]?).getD none
def P1 {own:Nat}{ix:zy Nat}{σ:St}:(Bo own ix σ).length=own+ix.length:=by simp[Bo]
def Fy {own:Nat}{ix:zy Nat}{σ:St}{j:Nat}{v:V}(h:(Bo own ix σ)[j]? =some (some v)):own<=j/\∃i,ix[j-own]? =some i/\σ[i]? =some (some v):=by
 unfold Bo at h;by_cases hj:j<own
 .rw [ABJ (by simpa using hj),ABQ] at h;simp[hj] at h
 .have Zf:own<=j:=by omega
  rw[AA9 (by simpa using Zf),ABK,AAm] at h;refine⟨Zf, ?_⟩;cases e:ix[j-own]? with
  | none=>rw[e] at h;simp at h
  | some i=>
    rw[e] at h;refine⟨i,rfl, ?_⟩;have h':(σ[i]?).getD none=some v:=by simpa using h
    cases a:σ[i]? with
    | none=>rw[a] at h';simp at h'
    | some o=>
      rw[a] at h';have:o=some v:=by simpa using h'
      rw[this]
structure Wu (X:Cx) (sc:Scope) (own:Nat) (ix:List Nat) (N:List Str):Prop where
 len:N.length=own+ix.length
 out:∀j i,ix[j]? =some i->∃x,N[own+j]? =some x/\X.N[i]? =some x/\X.env.scope.names.lookup x=some .cell/\sc.names.lookup x=some .cell
def VG {own:Nat}{ix:zy Nat}{h':zl}{m:Str->zt zx}{t':Nat}(I:Inv X zj σ H s)(B:∀b∈fp,EO X zj H b)(C:∀b∈fp,b<s.heap.objs.size)(hk:sc.kind= .function)(h1:∀y c,cl.lookup y=some c->X.env.cells.lookup y=some c)(h2:∀y,(sc.names.lookup y=some .cell\/sc.names.lookup y=some .free)->∃c,cl.lookup y=some c)(F:Wu X sc own ix N)(D:h'.Ns s.heap.objs.size m)(k:∀b o,s.heap.get? b=some o->h'.get? b=some o):Inv (blk X sc N cl s.heap.objs.size s H fp (X.pn++zj)) [] (Bo own ix σ) H {s with heap:=h',toks:=t'} where
 ok:=jM I B C hk h1 h2
 os:=rfl
 bare:=I.bare
 base:=Un.kept k
 loc:=by
  refine⟨m,D,λi x v E G R=> ?_⟩;obtain⟨Zf,J,K,es⟩:=Fy G;obtain⟨y,n,L,t,w⟩:=F.out _ _ K;have g:x=y:=by have h:N[i]? =some x:=E;rw[show own+(i-own)=i by omega,h] at n;exact AAY n
  subst g;obtain⟨m0,S,M⟩:=I.loc;obtain⟨u,r,l⟩:=M J x v L es (.inr (.inl t));refine⟨u,r, ?_⟩;rcases l with⟨z,_⟩|⟨_,c,O,z⟩
  .have A:X.env.scope.names.lookup x=some .local:=z;rw[t] at A;cases A
  .obtain ⟨P,f⟩:=h2 x (.inl w);have:=h1 x P f;rw[O] at this;cases this;obtain⟨o,j,hd⟩:=z;exact .inr ⟨.inl w,c,f,o,k c o j,hd⟩
 cell:=λx c e=>by obtain⟨v,o,j,hd⟩:=I.cell x c (h1 x c e);exact⟨v,o,k c o j,hd⟩
 free:=I.hok.fresh (AAJ _)
 freeC:=λx c e=>I.freeC x c (h1 x c e)
 pin:=λp hp=>by
  have Q:p∈X.pn++zj:=by simpa[blk] using hp
  obtain⟨a,b,c,d,e⟩:=I.pin p Q;exact⟨k _ _ a,b,AAL (AAG a),I.notStk c d,e⟩
 hok:=I.hok.kept k
 len:=by rw[P1];exact F.len.symm
def Qo {own:Nat}{ix:zy Nat}{σ':St}{d:Hp}{e:zw}{a:zy (zu×Obj)}(I:Inv X zj σ H s)(c:∀b∈fp,EO X zj H b)(f:∀b∈fp,b<s.heap.objs.size)(B:Inv (blk X sc N cl s.heap.objs.size s H fp (X.pn++zj)) a σ' d e):Inv X zj σ d e:=
 I.call' (ch:=fp) B.os B.base B.hok B.bare λb hb=>⟨(c b hb).2.2.2.1,(c b hb).2.1,(c b hb).2.2.2.2.1,(c b hb).2.2.2.2.2⟩
def Na {d:Hp}{σ':St}{a:zw}{C:zu}{h':zl}(I:Inv X zj σ H s)(f:C=s.heap.objs.size)(g:Inv X zj σ' d a)(h:d C=none)(hs:Heap.SameBut C a.heap h'):Inv X zj σ' d {a with heap:=h'}:=by subst f;refine g.turned (t':=a.toks) (it:=s.heap.objs.size) (λb o hb e=>(hs.2 b hb).trans e) h (AAt I.lt) (.inr I.sz) (λx c e=>AAL (I.szLt e)) λp hp=>AAL (AAG (I.pin p hp).1)
end
def YU (X:Cx)(a:zy zr)(t:TT):Prop:=
 ∀(zj:zy (zu×Obj)) (s:zw) (b:St) (H:Hp) (Q:zq->Hp->Prop),Inv X zj b H s->t b H Q->
  wpAny (model X.prog X.w) X.A (forIn a true λc r=>if r=true then do let ok <-isTrue c X.env (eval c X.env);pure (ForInStep.yield ok) else pure (ForInStep.yield r)) (TP X zj b Q) X.xe s
def gt:TT:=λ_ H Q=>Q true H
def Xl {X:Cx}:YU X [] gt:=λ_ _ _ H _ I h=>wpAny_tests_nil ⟨H,I,h⟩
def fy {X:Cx}{c:zr}{t:TT}(hc:PT X c t):YU X [c] t:=λzj s a H Q I h=>wpAny_tests_one (hc zj s a H Q I h)
def IM (own:Nat)(g:TG):Prop:=∀v b H Q,g v b H Q->g v b H λa c=>Q a c/\a.length=b.length/\∀j,own<=j->a[j]? =b[j]?
def NT (own:Nat)(g:VA):Prop:=∀vs b H Q,g vs b H Q->g vs b H λa c=>Q a c/\a.length=b.length/\∀j,own<=j->a[j]? =b[j]?
def Qz {own i:Nat}(h:i<own):IM own (Bh i):=λv a H Q q=>⟨q,by simp,λj hj=>AAa (by omega)⟩
def XN {own:Nat}:NT own MJ:=λvs a H Q q=>⟨q.1,q.2,rfl,λ_ _=>rfl⟩
def Nr {own:Nat}{t:TG}{u:VA}(h1:IM own t)(m1:∀v b H Q d,(∀a c,Q a c->d a c)->t v b H Q->t v b H d)(h2:NT own u)(m2:∀v b H Q d,(∀a c,Q a c->d a c)->u v b H Q->u v b H d):NT own (C8 t u):=by intro vs b H Q q;obtain⟨v,r,e,q⟩:=q;refine⟨v,r,e,m1 _ _ _ _ _ (λa c z=> ?_) (h1 _ _ _ _ q)⟩;obtain⟨z,l,g⟩:=z;refine m2 _ _ _ _ _ (λh m f=> ?_) (h2 _ _ _ _ z);obtain⟨f,i,k⟩:=f;exact⟨f,i.trans l,λj hj=>(k j hj).trans (g j hj)⟩
def Ma {i:Nat}:∀v b H Q c,(∀a d,Q a d->c a d)->Bh i v b H Q->Bh i v b H c:=λ_ _ _ _ _ m q=>m _ _ q
def Q0:∀v b H Q c,(∀a d,Q a d->c a d)->MJ v b H Q->MJ v b H c:=λ_ _ _ _ _ m q=>⟨q.1,m _ _ q.2⟩
def TN {t:TG}{u:VA}(m1:∀v b H Q c,(∀a d,Q a d->c a d)->t v b H Q->t v b H c)(m2:∀v b H Q c,(∀a d,Q a d->c a d)->u v b H Q->u v b H c):∀v b H Q c,(∀a d,Q a d->c a d)->C8 t u v b H Q->C8 t u v b H c:=λ_ _ _ _ _ m ⟨v,r,e,q⟩=>⟨v,r,e,m1 _ _ _ _ _ (λ_ _ z=>m2 _ _ _ _ _ m z) q⟩
def Nb (J:It)(D:zu)(σ0:St)(g:TG)(f:TT)(te:TE)(Q:Hp->Prop)(W:Nat->Nat->Hp->Prop):Prop:=
 ∀i m H,W i m H->(J.stop i H/\Q H)\/(J.go i H/\∀x c,J.yld i H x c->g x σ0 c λa h=>f a h λok d=>
  if ok=true then te a d λy e=>∃ys,e D=some (.lst ys)/\ys.length<sizeLine/\∃b,b<m/\W (i+1) b (upd e D (.lst (ys ++ [y]))) else ∃b,b<m/\W (i+1) b d)
def dF (b:TI)(own:Nat)(ix:zy Nat)(g:TG)(c:TT)(te:TE):TE:=λa H Q=>b a H λJ H1=>∀D,H1 D=none->
 ∃W:Nat->Nat->Hp->Prop,(∃m,W 0 m (upd H1 D (.lst [])))/\Nb J D (Bo own ix a) g c te (Q (.ref D)) W
section
variable {X:Cx}{tg elt iter:zr}{ifs:zy zr}{scope:Scope}{pos:Pos}{wi:TI}{own:Nat}{ix:zy Nat}{N:zy Str}{g:TG}{tt:TT}{te:TE}
structure Fv (X:Cx) (tg elt:Expr) (ifs:List Expr) (scope:Scope) (own:Nat) (ix:List Nat) (N:List Str) (g:TG) (tt:TT) (te:TE):Prop where
 kind:scope.kind= .function
 nocell:∀y∈scope.names,y.2≠ .cell
 names:∀y∈scope.names,y.2= .local->scope.names.lookup y.1=some .local
 frees:∀y∈scope.names,y.2= .free->X.env.scope.names.lookup y.1=some .cell
 ins:Wu X (relabel scope X.env) own ix N
 keep:IM own g
 tgt:∀cl C s H ex pn,PG (blk X (relabel scope X.env) N cl C s H ex pn) tg g
 tst:∀cl C s H ex pn,YU (blk X (relabel scope X.env) N cl C s H ex pn) ifs tt
 val:∀cl C s H ex pn,PE (blk X (relabel scope X.env) N cl C s H ex pn) elt te
def Dc {env:Env}{y:Str}{k:NameKind}(c:∀y∈scope.names,y.2≠ .cell)(h:(y,k)∈(relabel scope env).names)(hk:k= .cell\/k= .free):(y,NameKind.free)∈scope.names:=by
 obtain⟨⟨n,b⟩,a,e⟩:=AAR.mp (show (y,k)∈scope.names.map _ from h);dsimp only at e;split at e
 .rename_i hc;cases e;have:b= .free:=by cases b <;> simp_all
  subst this;exact a
 .cases e;rcases hk with z|z
  .subst z;exact absurd rfl (c _ a)
  .subst z;exact a
def Yh {zj:zy (zu×Obj)}{L:St}{H:Hp}{s:zw}{fp:zy zu}{cl:zy (Str×zu)}{it:zu}{tn:Nat->zl->Prop}{J:It}{D:zu}{R:Result->zw->Prop}{Qh:Hp->Prop}{W:Nat->Nat->Hp->Prop}(hc:X.calm=true)(O:Fv X tg elt ifs scope own ix N g tt te)(T:Ib X.prog X.w X.K tg J fp it tn)(I:Inv X zj L H s)(hf:∀b∈fp,EO X zj H b)(EG:∀b∈fp,b<s.heap.objs.size)(hW:Nb J D (Bo own ix L) g tt te Qh W)(hR:∀σ' a M,Inv (blk X (relabel scope X.env) N cl s.heap.objs.size s H fp (X.pn++zj)) [] σ' a M->Qh a->R (.ok .next) M)(n:Nat)(s0:zw)(h0:∃i a,Inv (blk X (relabel scope X.env) N cl s.heap.objs.size s H fp (X.pn++zj)) [] (Bo own ix L) a s0/\tn i s0.heap/\(∀b∈fp,a b=none)/\W i n a):codeAny (model X.prog X.w) X.A (.compLoop (.ListComp elt [⟨tg,iter,ifs,0⟩] scope pos) 0 (.ref it) (.ref D) (FJ X.env (relabel scope X.env) cl s.heap.objs.size)) R s0:=by
 refine ACh rfl (λn M=>∃i a,Inv (blk X (relabel scope X.env) N cl s.heap.objs.size s H fp (X.pn++zj)) [] (Bo own ix L) a M/\tn i M.heap/\(∀b∈fp,a b=none)/\W i n a) (λn s1 h1=> ?_) n h0;obtain⟨i,H1,B1,P,S,w1⟩:=h1;generalize f:blk X (relabel scope X.env) N cl s.heap.objs.size s H fp (X.pn++zj)=Y at *;have eA:Y.A=X.A:=by rw[<-f];rfl
 have U:Y.prog=X.prog:=by rw[<-f];rfl
 have Z:Y.w=X.w:=by rw[<-f];rfl
 have eK:Y.K=X.K:=by rw[<-f];rfl
 have eE:FJ X.env (relabel scope X.env) cl s.heap.objs.size=Y.env:=by rw[<-f];rfl
 have eX:Y.xe=λ_ _=>False:=by rw[<-f];rfl
 have eC:Y.calm=true:=by rw[<-f];exact hc
 have hg:PG Y tg g:=by rw[<-f];exact O.tgt _ _ _ _ _ _
 have ht:YU Y ifs tt:=by rw[<-f];exact O.tst _ _ _ _ _ _
 have hv:PE Y elt te:=by rw[<-f];exact O.val _ _ _ _ _ _
 have k:∀{a:Hp},(∀b∈fp,a b=none)->∀b∈fp,EO Y [] a b:=λ{a} hn b hb=>by
  obtain⟨_,a1,a2,a3,a4,a5⟩:=hf b hb;refine⟨hn b hb, ?_, ?_, ?_, ?_, ?_⟩
  .rw [<-f];exact AAL (EG b hb)
  .rw [<-f];exact I.notStk a1 a2
  .rw [<-f];exact .inl hb
  .intro x c e;exact(B1.ok.exf b (by rw[<-f];exact hb)).2 x c e
  .intro p hp;have:p∈X.pn++zj:=by rw[<-f] at hp;simpa[blk] using hp
   exact a5 p this
 rw[eE,<-eA,<-U,<-Z];show wpAny _ _ ((compTurn (.ListComp elt [⟨tg,iter,ifs,0⟩] scope pos) 0 (.ref it) (.ref D) Y.env).onRaise (λx=>do noteFrame x Y.env;theTreesLotGoes x)) _ _ s1;refine ACi ?_;rw[compTurn_list];have ff:∀{α:Type} {t:Sem α} {Q:α->zw->Prop} {E:zx->zw->Prop} {s:zw},wpAny (model Y.prog Y.w) Y.A t Q Y.xe s->wpAny (model Y.prog Y.w) Y.A t Q E s:=λh=>AA5 h (λ_ _ q=>q) λ_ _ z=>by rw[eX] at z;exact z.elim
 refine AAA (AAy (AAA ?_));rcases hW i n H1 w1 with⟨stop,qn⟩|⟨go,step⟩
 .have zd:=λE=>T.done Y U Z eK eC i [] s1 _ H1 E B1 (k S) P stop;rw[<-U,<-Z] at zd;refine BM (zd _) λr s4 ⟨hr,I4⟩=> ?_;subst hr;exact AAC (hR _ _ _ I4 qn)
 .have zi:=λE=>T.item Y U Z eK eC i [] s1 _ H1 E B1 (k S) P go;rw[<-U,<-Z] at zi;refine BM (zi _) λr s4 ⟨u,hr,h4⟩=> ?_;subst hr;refine AAA (BM h4 λ_ s5 ⟨x,H5,I5,r5,y5,B,fr5⟩=> ?_);have I5':=I5.pinned (k fr5) (T.obj _ _ B);refine AAA (BM (ff (hg _ s5 _ H5 x u _ I5' r5 (O.keep _ _ _ _ (step x H5 y5)))) λ_ s6 ⟨l,H6,I6,q6,l6,k6⟩=> ?_);refine AAA (BM (ff (ht _ s6 l H6 _ I6 q6)) λok s7 ⟨H7,I7,q7⟩=> ?_);have back:∀{C:Hp} {F:zw} {G:Nat},Inv Y ([] ++ FP fp s5.heap) l C F->G<n->W (i+1) G C->
   ∃m,m<n/\∃i a,Inv Y [] (Bo own ix L) a F/\tn i F.heap/\(∀b∈fp,a b=none)/\W i m a:=λ{C F G} I8 hm w8=>by
   refine⟨G,hm,i+1,C,I8.unpinned.weak l6.symm (λj v hj=> ?_),T.keep _ _ _ B λb hb o e=>(I8.pin (b,o) (AAW _ (AAW _ (CC hb e)))).1,λb hb=> ?_,w8⟩
   .rw [k6 j (Fy hj).1];exact hj
   .obtain ⟨o,e,d⟩:=T.obj _ _ B b hb;exact(I8.pin (b,o) (AAW _ (AAW _ (CC hb e)))).2.1
  cases ok with
  | false=> obtain⟨G,hm,w8⟩:=q7;exact AAC ⟨rfl,back I7 hm w8⟩
  | true=> refine AAA (AAA (BM (ff (hv _ s7 l H7 _ I7 q7)) λyv F ⟨y,C,I8,r8,ys,hD,hz,G,hm,w8⟩=> ?_));refine AAA (BM (ff (LA _ F l C (.ref D) [y] (.ref D) [yv] (λ_ H9=>H9=upd C D (.lst (ys ++ [y]))) I8 rfl (.cons r8 .nil) ⟨D,ys,y,rfl,rfl,hD,hz,rfl⟩)) λ_ s9 ⟨_,H9,I9,_,e9⟩=> ?_);subst e9;exact AAC (AAC ⟨rfl,back I9 hm w8⟩)
def TD {zj:zy (zu×Obj)}{t:St}{H:Hp}{s:zw}{use:zt (zx->Sem Unit)}{Q:zx->zw->Prop}{it:zu}{fp:zy zu}{cl:zy (Str×zu)}{tn:Nat->zl->Prop}{J:It}{Qd:zu->Hp->Prop}(hc:X.calm=true)(O:Fv X tg elt ifs scope own ix N g tt te)(T:Ib X.prog X.w X.K tg J fp it tn)(I:Inv X zj t H s)(M:∀b∈fp,EO X zj H b)(st:tn 0 s.heap)(h1:∀y c,cl.lookup y=some c->X.env.cells.lookup y=some c)(h2:∀y,(y,NameKind.free)∈scope.names->∃c,cl.lookup y=some c)(hq:∀D,H D=none->∃W:Nat->Nat->Hp->Prop,(∃m,W 0 m (upd H D (.lst [])))/\Nb J D (Bo own ix t) g tt te (Qd D) W)(P:∀D C i j,(∃m,j.heap.Ns C m)->Inv X zj t i j->(∀f u,Inv X zj f i u->∀h',Heap.SameBut C u.heap h'->Inv X zj f i {u with heap:=h'})->C≠X.env.locals->(∀x c,X.env.cells.lookup x=some c->C≠c)->Qd D i-> compPost (model X.prog X.w) X.A X.xe use Q (.ref D) C (.ok .next) j):wpAny (model X.prog X.w) X.A (newList []) (λk l=>wpAny (model X.prog X.w) X.A (newFunctionEnv scope X.env.globals cl [] X.env.qual none .none (some X.env)) (λd n=> codeAny (model X.prog X.w) X.A (.compStart (.ListComp elt [⟨tg,iter,ifs,0⟩] scope pos) 0 (.ref it) k {d with scope:=relabel scope X.env}) (compPost (model X.prog X.w) X.A X.xe use Q k d.locals) n) X.xe l) X.xe s:=by
 refine AAz ?_ (by simp[sizeOk]);have h:Inv X zj t (upd H s.heap.objs.size (.lst [])) {s with heap:=s.heap.push {cls:= .type "list",data:= .seq ([] :zy zx).toArray}}:=I.lnew (t':=s.toks) .nil (AAu _);have R:=I.fresh;obtain⟨W,⟨m0,S⟩,U⟩:=hq _ R;have Y:∀b∈fp,b<s.heap.objs.size:=λb hb=>by obtain⟨o,e,_⟩:=T.obj _ _ st b hb;exact AAG e
 have v:∀b∈fp,EO X zj (upd H s.heap.objs.size (.lst [])) b:=λb hb=>by obtain⟨Z,ar⟩:=M b hb;exact⟨by rw[Aa (AAL (Y b hb))];exact Z,ar⟩
 generalize nH:({s with heap:=s.heap.push {cls:= .type "list",data:= .seq ([] :zy zx).toArray}}:zw)=s3 at h;have p:tn 0 s3.heap:=T.keep _ _ _ st λb hb o e=>by rw[<-nH];exact AAH _ e
 have E:∀b∈fp,b<s3.heap.objs.size:=λb hb=>by obtain⟨o,e,_⟩:=T.obj _ _ p b hb;exact AAG e
 refine ADQ O.nocell (by intro y hy;simp at hy) (λa iG nI=> ?_) O.kind;have L:∀b o,s3.heap.get? b=some o->a.get? b=some o:=λb o e=>nI.extBut b o (AAL (AAG e)) (AAH _ e);have df:∀y,((relabel scope X.env).names.lookup y=some .cell\/(relabel scope X.env).names.lookup y=some .free)->∃c,cl.lookup y=some c:=λy hy=>by
  rcases hy with z|z
  .exact h2 y (Dc O.nocell (G5 z) (.inl rfl))
  .exact h2 y (Dc O.nocell (G5 z) (.inr rfl))
 have B:=VG (N:=N) (t':=s3.toks+([] :zy (Str×zx)).length) h v E (sc:=relabel scope X.env) O.kind h1 df O.ins iG L;have r:tn 0 a:=T.keep _ _ _ p λb hb o e=>L b o e;have loop:∀F:zw,F={s3 with heap:=a,toks:=s3.toks+([] :zy (Str×zx)).length}->
  codeAny (model X.prog X.w) X.A (.compLoop (.ListComp elt [⟨tg,iter,ifs,0⟩] scope pos) 0 (.ref it) (.ref s.heap.objs.size) (FJ X.env (relabel scope X.env) cl s3.heap.objs.size)) (compPost (model X.prog X.w) X.A X.xe use Q (.ref s.heap.objs.size) s3.heap.objs.size) F:=by rintro F rfl;refine Yh (cl:=cl) (Qh:=Qd s.heap.objs.size) hc O T h v E U (λσ' i j G q'=> ?_) m0 _ ⟨0,_,B,r,λb hb=>(v b hb).1,S⟩;refine P _ _ i j (let ⟨m,hm,_⟩:=G.loc;⟨m,hm⟩) (Qo (own:=own) (ix:=ix) h v E G) (λf u I2 h' hs=>Na h rfl I2 G.free hs) (AAt h.lt) (λx c e=>AAt (h.szLt e)) q'
 exact codeAny_compStart_list (loop _ rfl) (T.self _ 0 _ _ _ r (loop _ rfl))
def fj (hc:X.calm=true)(hi:PI X tg iter wi)(O:Fv X tg elt ifs scope own ix N g tt te)(hs:∀x,foldedSetIterable iter X.env x=pure x:=by intro _;rfl):PE X (.ListComp elt [⟨tg,iter,ifs,0⟩] scope pos) (dF wi own ix g tt te):=by intro zj s c H Q I h;obtain⟨cl,d,h1,h2⟩:=F1 (env:=X.env) (scope:=scope) λy hy e=>I.ok.has y.1 (.inl (O.frees y hy e));rw[eval_ListComp];refine ACj (use:=none) rfl hs d O.kind O.names (BM (hi zj s c H _ I h) λv t hv=>BM hv λf u i=> ?_);obtain⟨it,fp,tn,J,w,rfl,j,T,a,k,q⟩:=i;exact TD (Qd:=λD b=>Q (.ref D) b) hc O T j k a h1 h2 q λD C b l n o gone z A p=>by obtain⟨m,r⟩:=n;exact⟨m,r,λh' hs=>⟨.ref D,b,gone c l o h' hs,rfl,p⟩⟩
def Xn {i:Nat}{x:Str}{pos' b:Pos}(hc:X.calm=true)(hN:X.N.Nodup)(l:X.N[i]? =some x)(hx:Loc X.env.scope x)(hi:PI X tg iter wi)(O:Fv X tg elt ifs scope own ix N g tt te)(n:swapsWith (.ListComp elt [⟨tg,iter,ifs,0⟩] scope pos) (some (.Name x pos')) b.line X.env=pure true:=by rfl)(hs:∀x,foldedSetIterable iter X.env x=pure x:=by intro _;rfl)(o:X.fn x=true\/X.env.scope.names.lookup x=some .local:=by first | exact .inl rfl|exact .inr rfl|assumption):PS X (.Assign [.Name x pos'] (.ListComp elt [⟨tg,iter,ifs,0⟩] scope pos) b) (Pj (dF wi own ix g tt te) (Bh i)):=by
 intro zj s k H D I h;obtain⟨cl,p,h1,h2⟩:=F1 (env:=X.env) (scope:=scope) λy hy e=>I.ok.has y.1 (.inl (O.frees y hy e));rw[exec_Assign_Name_used _ _ _ _ n];refine AAA (AAy (AAA ?_));show wpAny _ _ (do let _ <-comprehension (.ListComp elt [⟨tg,iter,ifs,0⟩] scope pos) scope X.env _ (newList []) false (eval iter X.env) (some (assign (.Name x pos') X.env))) _ _ s;refine AAA (BM (ACj (use:=some (assign (.Name x pos') X.env)) (Q:=λ_ c=>SP X zj D .next c) rfl hs p O.kind O.names (BM (hi zj s k H _ I h) λv S hv=>BM hv λr U t=> ?_)) λ_ c hq=>AAC (AAC hq));obtain⟨it,fp,tn,J,W,rfl,u,T,f,w,q⟩:=t;refine TD (Qd:=λd j=>Bh i (.ref d) k j D.nx) hc O T u w f h1 h2 q λd C j c A B gone E F G=> ?_;obtain⟨m,K⟩:=A;show wpAny _ _ (assign (.Name x pos') X.env (.ref d)) _ _ c;refine ADG (LX (v:= .ref d) B hN l hx rfl (λL M ⟨a,P,ha⟩=> ?_) o);have R:C≠a:=by
  rcases ha with z|z
  .rw [z];exact E
  .exact F x a z
 exact⟨m,K.sameBut P R,λh' hs=>⟨_,j,gone _ L M h' hs,G⟩⟩
end
def J5 {n k:Nat}(h:n<2^k)(hk:0<k):n.log2<k:=by
 by_cases e:n=0
 .subst e;simpa using hk
 .exact (Nat.log2_lt e).mpr h
def Hc {i:Int}{k:Nat}(h:i.natAbs<2^k):Builtin.Int.intBits i<=k:=by
 unfold Builtin.Int.intBits;by_cases e:i=0
 .subst e;simp
 .have a:(i==0)=false:=by simpa using e
  rw[a];simp only[AAq,AAc];have b:i.natAbs≠0:=by omega
  have:=(Nat.log2_lt b).mpr h;omega
section
variable {X:Cx}
def pz (i j:Int):Prop:=i.natAbs<2^8000/\j.natAbs<2^8000
def mK (i j:Int):Prop:=NH i j\/pz i j
def Hj:EZ X (binaryOp .Mult) (rI mK λi j=> .int (i*j)):=j9 λ_ _ _ _ _ _ _ hc q=>mul_int q (by
 rcases hc with z|z
 .exact z.ok
 .exact .of_le (Hc z.1) (Hc z.2) (by decide))
def mJ (_ j:Int):Prop:=0<j/\j.natAbs<2^8000
def bU:EZ X (binaryOp .FloorDiv) (rI mJ λi j=> .int (i/j)):=j9 λi j _ _ _ _ _ hc q=>by have h1:(0:Int)<j:=hc.1;refine floordiv_int (by omega) ?_ (.inl (ADk (ACk (J5 hc.2 (by decide)) (by decide))));rw[ABT _ (Int.le_of_lt h1)];exact q
inductive Kd where
 | int|bl|non|str|lst|tup
 deriving DecidableEq
def Yx:Kd->String->zq
 | .int,T=>T == "int"
 | .bl,T=>T == "bool" || T == "int"
 | .non,_=>false
 | .str,_=>false
 | .lst,T=>T == "list"
 | .tup,T=>T == "tuple"
def ZK (bs:zy zq):(List.range bs.length).all (λi=>bs.getD i true)=bs.all id:=by
 rw[AA0,ABw,ABw];constructor
 .intro h b hb;obtain⟨i,hi,e⟩:=List.mem_iff_getElem.mp hb;have:=h i (ABq.mpr hi);rw[ACE,AAT hi] at this;subst e;simpa using this
 .intro h i hi;have a:=ABq.mp hi;rw[ACE,AAT a];simpa using h _ (ABU a)
def ZL (bs:zy zq):(List.range bs.length).any (λi=>bs.getD i true)=bs.any id:=by
 rw[AA0,AAo,AAo];constructor
 .rintro ⟨i,hi,h⟩;have a:=ABq.mp hi;rw[ACE,AAT a] at h;exact⟨_,ABU a,by simpa using h⟩
 .rintro ⟨b,hb,h⟩;obtain⟨i,hi,e⟩:=List.mem_iff_getElem.mp hb;refine⟨i,ABq.mpr hi, ?_⟩;rw[ACE,AAT hi];subst e;simpa using h
def Inv.walked {zj:zy (zu×Obj)}{g:St}{H:Hp}{s c:zw}{o:Obj}(I:Inv X zj g H s)(m:Moved [s.heap.objs.size] (λa b=>b=a) {s with heap:=s.heap.push o} c):Inv X zj g H c:=by
 obtain⟨h',g',d',t',h⟩:=c;obtain⟨hk,d,hd,f,_⟩:=m;have i:∀b u,s.heap.get? b=some u->h'.get? b=some u:=λb u e=>hk b u (by
  intro z;have j:b=s.heap.objs.size:=by simpa using z
  exact absurd (AAG e) (by rw[j];exact ABH _)) (AAH _ e)
 have d:g'=s.gens:=d;have hd:d'=s.drawn:=hd;have f:h=s.os:=f;subst d hd f;exact I.kept (t':=t') i
def Uh {bs:zy zq}{a:zy zx}{A:zk}(r:Ap (bs.map V.bl) a):TruthOf X.prog X.w A (λi v=>a.toArray[i]? =some v) (λi=>bs.getD i true):=by
 intro i v s Q E hv hQ;have c:a[i]? =some v:=by simpa using hv
 cases e:(bs.map V.bl)[i]? with
 | none=>rw[r.none_of e] at c;cases c
 | some x=>
   obtain⟨u,hu,f⟩:=r.get e;rw[c] at hu;cases hu;rw[AAm] at e;cases d:bs[i]? with
   | none=>rw[d] at e;cases e
   | some b=>
     rw[d] at e;cases e;cases f
     replace hQ:Q (bs.getD i true) s:=hQ
     rw[ACE,d] at hQ;unfold truthy;exact AAC hQ
def WB (K:AAB)(f:zy zq->zq):zy V->Hp->VK->Prop:=λxs H Q=>∃p bs,xs= [.ref p] /\FH K H p (bs.map V.bl)/\Q (.bl (f bs)) H
def Yb (hc:X.calm=true):Cs X (.builtin "all") (WB X.K λbs=>bs.all id):=by
 intro zj s k H xs us Q I r h;obtain⟨p,bs,rfl,hq,q⟩:=h;obtain⟨u,rfl,e⟩:=vals1 r;cases e;obtain⟨a,b,c,hz⟩:=I.list hq;obtain⟨ol,d,f⟩:=id c.isList;have g:p≠s.heap.objs.size:=AAL (AAG d);have j:a.toArray.size=bs.length:=by have:=b.length;simp at this;simp[this]
 refine call_all_walkS (ACF c.isList ?_);refine⟨_,_,_,_,_,_,_,λi=>bs.getD i true,rfl,(Walks.list (A:=X.A.in1) (show X.A.in1.handled=none from I.ok.hd hc) s.heap.objs.size p g a.toArray).toS,⟨⟨_,AAS _ rfl,rfl,rfl⟩,⟨ol,AAH _ d,f⟩⟩,Uh b,λl m=> ?_⟩;rw[j,ZK];exact⟨.bl (bs.all id),H,I.walked m,rfl,q⟩
def Yc (hc:X.calm=true):Cs X (.builtin "any") (WB X.K λbs=>bs.any id):=by
 intro zj s k H xs us Q I r h;obtain⟨p,bs,rfl,hq,q⟩:=h;obtain⟨u,rfl,e⟩:=vals1 r;cases e;obtain⟨a,b,c,hz⟩:=I.list hq;obtain⟨ol,d,f⟩:=id c.isList;have g:p≠s.heap.objs.size:=AAL (AAG d);have j:a.toArray.size=bs.length:=by have:=b.length;simp at this;simp[this]
 refine call_any_walkS (ACF c.isList ?_);refine⟨_,_,_,_,_,_,_,λi=>bs.getD i true,rfl,(Walks.list (A:=X.A.in1) (show X.A.in1.handled=none from I.ok.hd hc) s.heap.objs.size p g a.toArray).toS,⟨⟨_,AAS _ rfl,rfl,rfl⟩,⟨ol,AAH _ d,f⟩⟩,Uh b,λl m=> ?_⟩;rw[j,ZL];exact⟨.bl (bs.any id),H,I.walked m,rfl,q⟩
def fF (xs:zy V)(k:Nat)(y:V):zy V:=xs.take k++y::xs.drop k
def Ap.ins {xs:zy V}{us:zy zx}{y:V}{u:zx}(r:Ap xs us)(a:RelV y u)(k:Nat):Ap (fF xs k y) (us.take k++u::us.drop k):=Ap.append (r.take k) (.cons a (r.drop k))
def Ri:V->zy V->Hp->VK->Prop:=λx vs H Q=>∃l xs i y,x= .ref l/\vs= [.int i,y] /\H l=some (.lst xs)/\0<=i/\i<=(xs.length:Int)/\xs.length<sizeLine/\Q .non (upd H l (.lst (fF xs i.toNat y)))
def Y7:mP X "list.insert" Ri:=by
 intro zj s o H x vs v us Q I f rv h;obtain⟨l,xs,i,y,rfl,rfl,c,p,h1,hz,q⟩:=h;cases f;cases rv with
 | cons g b=>
 cases b with
 | cons j b=>
 cases b;rename_i d;obtain⟨t,rfl⟩:=g;obtain⟨z,a,n,r,hl,e⟩:=I.lstM c;have u:=K7;have m:¬(!Builtin.List.listFitsIndex i)=true:=by have:=fitsIndex_both (k:=i) (by omega) (by omega);simp[this]
 refine call_meets F.slot_list_insert ⟨_,e,rfl⟩ F.entry_list_insert (F.args_list_insert_3 _ _ _) (AutoSeq1.list_insert_list_int_val_1 l a.toArray n i t d m (by rw[AAU];omega)) ⟨e, ?_⟩;refine⟨.non,_,I.lset (ys:=fF xs i.toNat y) (its':=a.take i.toNat++d::a.drop i.toNat) c e ?_ (r.ins j _) ?_,rfl,q⟩
 .dsimp only;rw[AAD (by omega),AAU,Nat.min_eq_left (by omega)];apply Array.toList_inj.mp;simp;exact ABV (by simp)
 .unfold fF;simp;omega
end
def O5:zq->zl->zu->zu->Nat->Prop
 | true,h,q,l,k=>h.IsListIter q l k
 | false,h,q,l,k=>h.IsTupleIter q l k
def MY:zq->zl->zu->Array zx->Prop
 | true,h,l,xs=>h.IsList l xs
 | false,h,l,xs=>h.IsTuple l xs
def O5.mv {b:zq}{h h':zl}{q l:zu}{k:Nat}(x:O5 b h q l k)(e:∀o,h.get? q=some o->h'.get? q=some o):O5 b h' q l k:=by
 cases b with
 | true=>obtain⟨o,a,r⟩:=x;exact⟨o,e o a,r⟩
 | false=>obtain⟨o,a,r⟩:=x;exact⟨o,e o a,r⟩
def O5.obj {b:zq}{h:zl}{q l:zu}{k:Nat}(x:O5 b h q l k):∃o,h.get? q=some o/\∀v,o.data≠ .cell v:=by
 cases b with
 | true=> obtain⟨o,a,_,d⟩:=x;exact⟨o,a,λv z=>by rw[d] at z;cases z⟩
 | false=> obtain⟨o,a,_,d⟩:=x;exact⟨o,a,λv z=>by rw[d] at z;cases z⟩
def MY.mv {b:zq}{h h':zl}{l:zu}{xs:Array zx}(x:MY b h l xs)(e:∀o,h.get? l=some o->h'.get? l=some o):MY b h' l xs:=by
 cases b with
 | true=>obtain⟨o,a,r⟩:=x;exact⟨o,e o a,r⟩
 | false=>obtain⟨o,a,r⟩:=x;exact⟨o,e o a,r⟩
section
variable {prog:zp}{w:zm}{A:zk}{E:zx->zw->Prop}{s:zw}
def Ju {b:zq}{q l:zu}{k:Nat}{xs:Array zx}{x:zx}{Q:zx->zw->Prop}(hq:O5 b s.heap q l k)(hl:MY b s.heap l xs)(hx:xs[k]? =some x)(hQ:∀h',O5 b h' q l (k+1)->Heap.SameBut q s.heap h'->Q x {s with heap:=h'}):wpAny (model prog w) A (Builtin.SmallTypes.nextOf (.ref q)) Q E s:=by
 cases b with
 | true=>exact wpAny_nextOf_list_item hq hl hx hQ
 | false=> have d:s.heap.IsTupleIter q l k:=hq;obtain⟨f,c,e,a⟩:=id d;obtain⟨ol,gl,_,g,dl⟩:=hl;unfold Builtin.SmallTypes.nextOf;refine AAA (ABR (name:=Str.ofString "__next__") d.typeIs ACl (AA4 ACl d.typeIs ADl ?_ (ADm _)));show wpAny _ _ (field (.ref q) 0 >>= _) _ _ _;refine AAA (AAr c a (x:= .ref l) rfl ?_);show wpAny _ _ (if (Value.ref l==Value.none)=true then _ else _) _ _ _;rw[AAD (by intro z;cases z)];show wpAny _ _ (field (.ref q) 1 >>= _) _ _ _;refine AAA (AAr c a (x:= .int k 0) rfl ?_);show wpAny _ _ (seqItems? (.ref l) >>= _) _ _ _;refine AAA (AA8 gl dl ?_);simp only[ABt,hx];refine AAA (ACm c a (by simp) (AAC ⟨x,rfl,AAC (hQ _ ?_ (ACn ..))⟩));refine⟨_,ABv _ c (Obj.isFreed_of_fields (ACo a _)),(Obj.cls_mapFields ..).trans e, ?_⟩;rw[ACo a];simp[rawInt]
def He {b:zq}{q l:zu}{k:Nat}{xs:Array zx}{Q:zx->zw->Prop}(c:A.handled=none)(hq:O5 b s.heap q l k)(hl:MY b s.heap l xs)(hx:xs[k]? =none)(h:∀h' e,Heap.ExtBut q s.heap h'->(∃o,h'.get? e=some o/\o.cls= .type "StopIteration")->E (.ref e) {s with heap:=h'}):wpAny (model prog w) A (Builtin.SmallTypes.nextOf (.ref q)) Q E s:=by
 cases b with
 | true=>exact wpAny_nextOf_list_end c hq hl hx h
 | false=>
   have d:s.heap.IsTupleIter q l k:=hq;obtain⟨i,f,j,g⟩:=id d;obtain⟨ol,gl,_,n,dl⟩:=hl;unfold Builtin.SmallTypes.nextOf;refine AAA (ABR (name:=Str.ofString "__next__") d.typeIs ACl (AA4 ACl d.typeIs ADl ?_ (ADm _)));show wpAny _ _ (field (.ref q) 0 >>= _) _ _ _;refine AAA (AAr f g (x:= .ref l) rfl ?_);show wpAny _ _ (if (Value.ref l==Value.none)=true then _ else _) _ _ _;rw[AAD (by intro z;cases z)];show wpAny _ _ (field (.ref q) 1 >>= _) _ _ _;refine AAA (AAr f g (x:= .int k 0) rfl ?_);show wpAny _ _ (seqItems? (.ref l) >>= _) _ _ _;refine AAA (AA8 gl dl ?_);simp only[ABt,hx];refine AAA (ABD (AAA (ACm f g (by simp) ?_)));refine AAA (m:=newExc (.type "StopIteration") []) ?_;simp only[newExc,newTuple];refine AAA (AAz ?_ (by size_fits));refine AAA (m:=firstArgMember _ _) (wpAny_of_eq (a:=Value.none) (by first | rfl|(simp only[firstArgMember];rfl)) (AAz ?_ (by size_fits)));simp only[raiseNew];refine AAA (wpAny_handled ?_);first | rw[show A.in1.handled=none from c] | rw[c]
   exact AAA (AAC (wpAny_throw (h _ _ (((ACn ..).extBut.push _).push _) ⟨_,AAS _ rfl,rfl⟩)))
structure jD (b c:Bool) (z TI TO i j l m:Addr) (k:Nat) (f:Value) (h:Heap):Prop where
 zip:IsZip h z TI TO f
 its:IsPair h TI (.ref i) (.ref j)
 own:∃x y,IsPair h TO x y
 one:O5 b h i l k
 two:O5 c h j m k
def jD.mv {b c:zq}{z TI TO i j l m:zu}{k:Nat}{f:zx}{h h':zl}(Z:jD b c z TI TO i j l m k f h)(e:∀p∈ [z,TI,TO,i,j],∀o,h.get? p=some o->h'.get? p=some o):jD b c z TI TO i j l m k f h':=by obtain⟨a,d,⟨x,y,g⟩,n,r⟩:=Z;exact⟨e z (by simp) _ a,e TI (by simp) _ d,⟨x,y,e TO (by simp) _ g⟩,n.mv (e i (by simp)),r.mv (e j (by simp))⟩
variable {b c:zq}{z TI TO i j l m:zu}{k:Nat}{xs ys:Array zx}
def o8 {x y:zx}{Q:zx->zw->Prop}(D:ZipApart z TI TO i j l m)(Z:jD b c z TI TO i j l m k .none s.heap)(hl:MY b s.heap l xs)(hm:MY c s.heap m ys)(hx:xs[k]? =some x)(hy:ys[k]? =some y)(hQ:∀h',IsZip h' z TI TO (rawInt s.heap.objs.size)->IsPair h' TI (.ref i) (.ref j)->IsPair h' TO x y->O5 b h' i l (k+1)->O5 c h' j m (k+1)->IsPair h' s.heap.objs.size x y-> (∀p o,p≠z->p≠TO->p≠i->p≠j->s.heap.get? p=some o->h'.get? p=some o)->Q (.ref s.heap.objs.size) {s with heap:=h'}):wpAny (model prog w) A (Builtin.«zip.__next__» ⟨[.ref z], []⟩) (λL s'=>∃v,L= .done (.ret v)/\Q v s') E s:=by
 obtain⟨n,T,⟨x0,M,zo⟩,z1,z2⟩:=Z;show wpAny _ _ (field (.ref z) 2 >>= _) _ _ _;refine AAA (AAr n rfl (x:= .bool false) rfl ?_);show wpAny _ _ (field (.ref z) 3 >>= _) _ _ _;refine AAA (AAr n rfl (x:= .ref TI) rfl (AAA (AA8 T rfl ?_)));refine AAA (m:=Builtin.SmallTypes.ownedTupleIsFree (.ref z)) ?_;unfold Builtin.SmallTypes.ownedTupleIsFree;refine AAA (AAr n rfl (x:= .none) rfl (AAC ?_));simp only[ABE];refine AAA (ABD (AAA (AAr n rfl (x:= .ref TO) rfl (AAA (ABx n (by simp) λg1 N g=> ?_)))));have N:IsZip g1 z TI TO .ellipsis:=N;refine AAA ?_;simp only[List.zipIdx_cons,List.zipIdx_nil,ACg,List.forIn_nil];refine AAA (AAA (ACp ?_));refine AAA (m:=Builtin.SmallTypes.nextOf (.ref i)) (Ju (z1.mv λo=>g.extBut _ o D.i1z) (hl.mv λo=>g.extBut _ o D.l1z) hx λg2 e2 b2=>AAC ?_);have U:IsPair g2 TO x0 M:=b2.extBut _ _ D.TOi1 (g.extBut _ _ D.TOz zo);refine AAA (AA8 U rfl (AAA (ADR U λg3 O h=>AAA (ACq (AAC ?_)))));have O:IsPair g3 TO x M:=O;refine AAA (AAA (ACp ?_));refine AAA (m:=Builtin.SmallTypes.nextOf (.ref j)) (Ju (((z2.mv λo=>g.extBut _ o D.i2z).mv λo=>b2.extBut _ o D.i12.symm).mv λo=>h.extBut _ o D.TOi2.symm)
  (((hm.mv λo=>g.extBut _ o D.l2z).mv λo=>b2.extBut _ o D.l2i1).mv λo=>h.extBut _ o D.l2TO) hy λg4 e4 r=>AAC ?_)
 have W:IsPair g4 TO x M:=r.extBut _ _ D.TOi2 O;refine AAA (AA8 W rfl (AAA (ADR W λa G t=>AAA (ACq (AAC (AAC ?_))))));have G:IsPair a TO x y:=G;refine AAA (AA8 G rfl (AAA (wpAny_newTuple ?_)));have sz:a.objs.size=s.heap.objs.size:=by rw[t.1,r.1,h.1,b2.1,g.1]
 have X:IsZip a z TI TO .ellipsis:=t.extBut _ _ D.TOz.symm (r.extBut _ _ D.i2z.symm (h.extBut _ _ D.TOz.symm (b2.extBut _ _ D.i1z.symm N)));have d:∀p o,p≠z->p≠TO->p≠i->p≠j->s.heap.get? p=some o->a.get? p=some o:=λp o H I P R e=>
  t.extBut _ _ I (r.extBut _ _ R (h.extBut _ _ I (b2.extBut _ _ P (g.extBut _ _ H e))))
 have u:O5 b a i l (k+1):=((e2.mv λo=>h.extBut _ o D.TOi1.symm).mv λo=>r.extBut _ o D.i12).mv λo=>t.extBut _ o D.TOi1.symm;have B:O5 c a j m (k+1):=e4.mv λo=>t.extBut _ o D.TOi2.symm;have C:z<a.objs.size:=AAG X;refine AAA (m:=Builtin.SmallTypes.ownedTupleHandOut (.ref z) (.ref a.objs.size)) ?_;unfold Builtin.SmallTypes.ownedTupleHandOut;have k6:IsZip (a.push {cls:= .type "tuple",data:= .seq #[x,y] }) z TI TO .ellipsis:=AAH _ X;refine AAA (ABx k6 (by simp) λg7 S Y=> ?_);have S:IsZip g7 z TI TO (rawInt a.objs.size):=S;refine ABx S (by simp) λJ K b8=> ?_;have K:IsZip J z TI TO (rawInt a.objs.size):=K;have F:∀p o,p≠z->a.get? p=some o->J.get? p=some o:=λp o q e=>b8.extBut _ _ q (Y.extBut _ _ q (AAH _ e));have f:IsPair J a.objs.size x y:=b8.extBut _ _ (AAt C) (Y.extBut _ _ (AAt C) (AAS _ rfl));rw[sz] at K f;refine AAC ⟨_,rfl, ?_⟩;show Q (.ref a.objs.size) _;rw[sz];exact hQ J K (F _ _ D.TIz (d _ _ D.TIz D.TITO D.TIi1 D.TIi2 T)) (F _ _ D.TOz G) (u.mv λo=>F _ o D.i1z) (B.mv λo=>F _ o D.i2z) f λp o H I P R e=>F p o H (d p o H I P R e)
def tT {Q:Fin->zw->Prop}(B:A.handled=none)(D:ZipApart z TI TO i j l m)(Z:jD b c z TI TO i j l m k .none s.heap)(hl:MY b s.heap l xs)(M:MY c s.heap m ys)(N:xs[k]? =none\/ys[k]? =none)(C:∀h' e,(∀p o,p≠z->p≠TO->p≠i->p≠j->s.heap.get? p=some o->h'.get? p=some o)->(∃o,h'.get? e=some o/\o.cls= .type "StopIteration")->E (.ref e) {s with heap:=h'}):wpAny (model prog w) A (Builtin.«zip.__next__» ⟨[.ref z], []⟩) Q E s:=by
 obtain⟨g,O,⟨P,R,S⟩,F,T⟩:=Z;show wpAny _ _ (field (.ref z) 2 >>= _) _ _ _;refine AAA (AAr g rfl (x:= .bool false) rfl ?_);show wpAny _ _ (field (.ref z) 3 >>= _) _ _ _;refine AAA (AAr g rfl (x:= .ref TI) rfl (AAA (AA8 O rfl ?_)));refine AAA (m:=Builtin.SmallTypes.ownedTupleIsFree (.ref z)) ?_;unfold Builtin.SmallTypes.ownedTupleIsFree;refine AAA (AAr g rfl (x:= .none) rfl (AAC ?_));simp only[ABE];refine AAA (ABD (AAA (AAr g rfl (x:= .ref TO) rfl (AAA (ABx g (by simp) λU r a=> ?_)))));have r:IsZip U z TI TO .ellipsis:=r;refine AAA ?_;simp only[List.zipIdx_cons,List.zipIdx_nil,ACg,List.forIn_nil];refine AAA (AAA (ACp ?_));cases hx:xs[k]? with
 | none=>
   refine AAA (m:=Builtin.SmallTypes.nextOf (.ref i)) (He B (F.mv λo=>a.extBut _ o D.i1z) (hl.mv λo=>a.extBut _ o D.l1z) hx λt e b2 he=> ?_);obtain⟨u,d,h⟩:=he;have G:IsZip t z TI TO .ellipsis:=b2 _ _ D.i1z.symm r;have v:e≠z:=λq=>by subst q;rw[G] at d;cases d;simp at h
   refine ABx G (by simp) λH _ f=>C H e (λp o n _ y _ q=>f.extBut _ _ n (b2 _ _ y (a.extBut _ _ n q))) ⟨u,f.extBut _ _ v d,h⟩
 | some x=>
   have hy:ys[k]? =none:=by
    rcases N with q|q
    .rw [hx] at q;cases q
    .exact q
   refine AAA (m:=Builtin.SmallTypes.nextOf (.ref i)) (Ju (F.mv λo=>a.extBut _ o D.i1z) (hl.mv λo=>a.extBut _ o D.l1z) hx λt e2 b2=>AAC ?_);have I:IsPair t TO P R:=b2.extBut _ _ D.TOi1 (a.extBut _ _ D.TOz S);refine AAA (AA8 I rfl (AAA (ADR I λH o3 f=>AAA (ACq (AAC ?_)))));refine AAA (AAA (ACp ?_));refine AAA (m:=Builtin.SmallTypes.nextOf (.ref j)) (He B (((T.mv λo=>a.extBut _ o D.i2z).mv λo=>b2.extBut _ o D.i12.symm).mv λo=>f.extBut _ o D.TOi2.symm)
    (((M.mv λo=>a.extBut _ o D.l2z).mv λo=>b2.extBut _ o D.l2i1).mv λo=>f.extBut _ o D.l2TO) hy λW e J he=> ?_)
   obtain⟨u,d,h⟩:=he;have K:IsZip W z TI TO .ellipsis:=J _ _ D.i2z.symm (f.extBut _ _ D.TOz.symm (b2.extBut _ _ D.i1z.symm r));have v:e≠z:=λq=>by subst q;rw[K] at d;cases d;simp at h
   refine ABx K (by simp) λX _ L=>C X e (λp o n Y y q4 q=>L.extBut _ _ n (J _ _ q4 (f.extBut _ _ Y (b2.extBut _ _ y (a.extBut _ _ n q))))) ⟨u,L.extBut _ _ v d,h⟩
end
def Vo (b:zq)(l:zu):Obj:={cls:= .type (match b with | true=>"list_iterator" | false=>"tuple_iterator"),data:= .fields #[.ref l, .int 0 0] }
abbrev zA (b:zq)(h:zl)(l:zu):zl:=h.push (Vo b l)
abbrev zB (b c:zq)(h:zl)(l m:zu):zl:=(zA b h l).push (Vo c m)
abbrev zC (b c:zq)(h:zl)(l m:zu):zl:=(zB b c h l m).push {cls:= .type "tuple",data:= .seq #[.ref h.objs.size, .ref (zA b h l).objs.size] }
abbrev zD (b c:zq)(h:zl)(l m:zu):zl:=(zC b c h l m).push {cls:= .type "tuple",data:= .seq #[.none, .none] }
abbrev zF (b c:zq)(h:zl)(l m:zu):zl:=(zD b c h l m).push {cls:= .type "zip",data:= .fields #[.none, .bool false, .bool false, .ref (zB b c h l m).objs.size, .ref (zC b c h l m).objs.size] }
def K5 {prog:zp}{w:zm}{A:zk}{E:zx->zw->Prop}{h:zl}{g:Array GenState}{d:Drawn}{a:Nat}{os:OsState}{b:zq}{l:zu}{xs:Array zx}{Q:zx->zw->Prop}(hl:MY b h l xs)(q:Q (.ref h.objs.size) ⟨h.push (Vo b l),g,d,a,os⟩):wpAny (model prog w) A (pyIter (.ref l)) Q E ⟨h,g,d,a,os⟩:=by
 cases b with
 | true=>exact ACF (s:=⟨h,g,d,a,os⟩) hl q
 | false=>exact wpAny_pyIter_tuple (s:=⟨h,g,d,a,os⟩) hl q
def Zb (b c:zq)(l m:zu)(xs ys:Array zx):Meets (Builtin.«zip.__new__» ⟨[.type "zip", .ref l, .ref m], []⟩) (λ_ R s=>MY b s.heap l xs/\MY c s.heap m ys/\R (.ok (.ret (.ref (zD b c s.heap l m).objs.size))) {s with heap:=zF b c s.heap l m}):=
 .of_wp λprog w A R s h=>by
   obtain⟨hp,g,d,j,os⟩:=s;obtain⟨hl,a,h⟩:=h;have k:=sub_zip;have f:MY b hp l xs:=hl;have i:MY c (hp.push (Vo b l)) m ys:=a.mv λo e=>AAH _ e
   wp_walk using K5 f,K5 i
   exact⟨_,rfl,h⟩
section
variable {prog:zp}{w:zm}{A:zk}{E:zx->zw->Prop}{s:zw}{b c:zq}{l m:zu}{xs ys:Array zx}
def bE {h:zl}{q:zu}(e:h.get? q=some (Vo b l)):O5 b h q l 0:=by
 cases b with
 | true=>exact⟨_,e,rfl,rfl⟩
 | false=>exact⟨_,e,rfl,rfl⟩
def lX (hl:MY b s.heap l xs)(r:MY c s.heap m ys){Q:zx->zw->Prop}(h:∀h',jD b c (s.heap.objs.size+4) (s.heap.objs.size+2) (s.heap.objs.size+3) s.heap.objs.size (s.heap.objs.size+1) l m 0 .none h'->(∀p o,s.heap.get? p=some o->h'.get? p=some o)->Q (.ref (s.heap.objs.size+4)) {s with heap:=h'}):wpAny (model prog w) A (call (.type "zip") [.ref l, .ref m]) Q E s:=by
 refine callType_new F.called_zip (by decide) (F.typeCall_zip_2 _ _) (F.newCall_zip_2 _ _) (λobj=>F.args_object_init_3 obj _ _) F.entry_zip_new (Zb b c l m xs ys) ⟨hl,r, ?_⟩;have a:(zA b s.heap l).objs.size=s.heap.objs.size+1:=ABI ..;have d:(zB b c s.heap l m).objs.size=s.heap.objs.size+2:=by rw[ABI,a]
 have f:(zC b c s.heap l m).objs.size=s.heap.objs.size+3:=by rw[ABI,d]
 have i:(zD b c s.heap l m).objs.size=s.heap.objs.size+4:=by rw[ABI,f]
 have g:(zF b c s.heap l m).get? (zD b c s.heap l m).objs.size=some _:=AAS _ rfl;have j:(zF b c s.heap l m).get? (zC b c s.heap l m).objs.size=some _:=AAH _ (AAS _ rfl);have k:(zF b c s.heap l m).get? (zB b c s.heap l m).objs.size=some _:=AAH _ (AAH _ (AAS _ rfl));have n:(zF b c s.heap l m).get? (zA b s.heap l).objs.size=some (Vo c m):=AAH _ (AAH _ (AAH _ (AAS _ rfl)));have t:(zF b c s.heap l m).get? s.heap.objs.size=some (Vo b l):=AAH _ (AAH _ (AAH _ (AAH _ (AAS _ rfl))));rw[d,f,i] at g;rw[a,d] at k;rw[f] at j;rw[a] at n;show _/\_;rw[i];exact⟨⟨_,g,rfl⟩,h _ ⟨g,k,⟨_,_,j⟩,bE t,bE n⟩ λp o e=>AAH _ (AAH _ (AAH _ (AAH _ (AAH _ e))))⟩
end
def Sq (K:AAB):zq->Hp->zu->zy V->Prop
 | true,H,a,xs=>FH K H a xs
 | false,H,a,xs=>MG K H a xs
section
variable {X:Cx}{zj:zy (zu×Obj)}{σ:St}{H:Hp}{s:zw}{a:zu}{ys xs:zy V}{b:zq}{h':zl}
def Inv.sq (I:Inv X zj σ H s)(h:Sq X.K b H a xs):∃c:zy zx,Ap xs c/\MY b s.heap a c.toArray/\xs.length<=sizeLine:=by
 cases b with
 | true=> obtain⟨c,r,p,z⟩:=I.list h;exact⟨c,r,p.isList,z⟩
 | false=> obtain⟨c,r,p,z⟩:=I.tuple h;exact⟨c,r,p,z⟩
def Inv.sq_inj (I:Inv X zj σ H s)(h:Sq X.K b H a xs)(h2:Sq X.K b H a ys):xs=ys:=by
 cases b with
 | true=>exact I.list_inj h h2
 | false=>exact I.tuple_inj h h2
def Inv.turnedL {ch:zy zu}{t':Nat}(I:Inv X zj σ H s)(c:∀p∈ch,EO X zj H p)(k:∀p o,p ∉ ch->s.heap.get? p=some o->h'.get? p=some o):Inv X zj σ H {s with heap:=h',toks:=t'}:=by
 have d:∀p u,H p=some u->p ∉ ch:=λp u e z=>by rw[(c p z).1] at e;cases e
 refine I.step (g':=s.gens) (d':=s.drawn) (ch:=ch) (λp hp=>⟨(c p hp).2.2.2.1,(c p hp).2.1,(c p hp).2.2.2.2.1,(c p hp).2.2.2.2.2⟩) (λp o _ _ hc e _=>k p o hc e) (λp o _ _ hc e _=>⟨o.slots,k p o hc e⟩)
  (λ_ _ _ _ n=>n) (λp o hc e=>⟨o,k p o hc e⟩) (λ_ _ e=>e) (λ_ _ _ e=>e) (λp i e=>⟨#[],by rw[e];simp⟩) (λm f=> ?_) (λp u e=> ?_) I.bare
 .obtain ⟨o,es,ep,g,r⟩:=f;exact⟨o,es,ep,k _ o (λz=>(c _ z).2.1 rfl) g,r⟩
 .refine (I.hok p u e).stay (λq v hq h=>k q v ?_ h) (λ_ q=>q) λ_ _ q=>q;rcases hq with z|z
  .rw [z];exact d p u e
  .exact d q _ z
def Inv.turnedN {ch:zy zu}{t':Nat}{n:zu}{o:HO}(I:Inv X zj σ H s)(c:∀p∈ch,EO X zj H p)(j:∀p∈ch,p<s.heap.objs.size)(k:∀p o,p ∉ ch->s.heap.get? p=some o->h'.get? p=some o)(f:s.heap.objs.size<=n)(new:CI X.prog X.w (upd H n o) h' n o):Inv X zj σ (upd H n o) {s with heap:=h',toks:=t'}:=by
 have g:Inv X zj σ H {s with heap:=h',toks:=t'}:=I.turnedL c k;have d:H n=none:=I.hok.fresh f;have hx:∀p u,s.heap.get? p=some u->p≠n:=λp u e=>AAL (AAX (AAG e) f);refine I.step (g':=s.gens) (d':=s.drawn) (ch:=ch) (λp hp=>⟨(c p hp).2.2.2.1,(c p hp).2.1,(c p hp).2.2.2.2.1,(c p hp).2.2.2.2.2⟩) (λp o _ _ hc e _=>k p o hc e) (λp o _ _ hc e _=>⟨o.slots,k p o hc e⟩)
  (λp u _ e z=>by rw[Aa (hx p u e)];exact z) (λp o hc e=>⟨o,k p o hc e⟩) (λp xs e=>by rw[Aa (Ah e d)];exact e) (λp o xs e=>by rw[Aa (Ah e d)];exact e)
  (λp l e=>⟨#[],by rw[Aa (Ah e d),e];simp⟩) (λm h=> ?_) (λp u e=> ?_) I.bare
 .obtain ⟨o,es,ep,i,r⟩:=h;exact⟨o,es,ep,k _ o (λz=>(c _ z).2.1 rfl) i,r⟩
 .by_cases hp:p=n
  .subst hp;rw[Ad] at e;cases e;exact new
  .rw [Aa hp] at e;exact(g.hok p u e).stay (λ_ _ _ q=>q) (λq hq=>by rw[Aa (Ah hq d)];exact hq) λq xs hq=>by rw[Aa (Ah hq d)];exact hq
end
def qH (K:AAB)(b c:zq)(l m:zu):It:=
 ⟨λi H=>∃xs ys x y,Sq K b H l xs/\Sq K c H m ys/\xs[i]? =some x/\ys[i]? =some y,
  λi H v a=>∃T x y,v= .ref T/\H T=none/\a=upd H T (.tup [x,y])/\(∀xs,Sq K b H l xs->xs[i]? =some x)/\∀ys,Sq K c H m ys->ys[i]? =some y,
  λi H=>∃xs ys,Sq K b H l xs/\Sq K c H m ys/\(xs.length<=i\/ys.length<=i)⟩
def dS {P:zp}{w:zm}{K:AAB}{es:zy zr}{M:Nat}{r:Pos}{b c:zq}{z TI TO i j l m:zu}(D:ZipApart z TI TO i j l m):Ib P w K (.Tuple es M r) (qH K b c l m) [z,TI,TO,i,j] z (λk h=>jD b c z TI TO i j l m k .none h) where
 mem:=by simp
 obj:=λk h Z p hp=>by
  have a:p=z\/p=TI\/p=TO\/p=i\/p=j:=by simpa using hp
  rcases a with e|e|e|e|e
  .subst e;exact⟨_,Z.zip,λv q=>nomatch q⟩
  .subst e;exact⟨_,Z.its,λv q=>nomatch q⟩
  .subst e;obtain⟨x,y,q⟩:=Z.own;exact⟨_,q,λv q=>nomatch q⟩
  .subst e;exact Z.one.obj
  .subst e;exact Z.two.obj
 keep:=λk h h' Z e=>Z.mv e
 item:=by
  intro X t hw A hc k zj s L H E I g Z B;subst t hw A;obtain⟨xs,ys,x,y,hl,n,hx,hy⟩:=B;obtain⟨us,C,G,_⟩:=I.sq hl;obtain⟨vs,rv,sv,_⟩:=I.sq n;obtain⟨u,hu,N⟩:=C.get hx;obtain⟨v,hv,O⟩:=rv.get hy;have f:s.TypeIs (.ref z) "zip" :=⟨_,Z.zip,rfl⟩;unfold pyNext;refine AAA (ACr (ABR (name:=Str.ofString "__next__") f ACs (AA4 ACs f F.entry_zip_next
   (o8 D Z G sv (x:=u) (y:=v) (by simpa using hu) (by simpa using hv) λh1 Q R S U W Y a7=>AAC ?_) (F.args_zip_next_1 _))))
  refine⟨_,rfl,wpAny_letOwnedTupleGo_zip (s:={s with heap:=h1}) Q λh2 c1 c2=> ?_⟩;have J:∀p∈ [z,TI,TO,i,j],p<s.heap.objs.size:=λp hp=>by
   have a:p=z\/p=TI\/p=TO\/p=i\/p=j:=by simpa using hp
   rcases a with e|e|e|e|e
   .subst e;exact AAG Z.zip
   .subst e;exact AAG Z.its
   .subst e;obtain⟨x,y,q⟩:=Z.own;exact AAG q
   .subst e;obtain⟨o,q,_⟩:=Z.one.obj;exact AAG q
   .subst e;obtain⟨o,q,_⟩:=Z.two.obj;exact AAG q
  have d:∀p o,p≠z->h1.get? p=some o->h2.get? p=some o:=λp o q e=>c2.extBut _ _ q e;have kp:∀p o,p ∉ [z,TI,TO,i,j] ->s.heap.get? p=some o->h2.get? p=some o:=λp o hp e=>by
   have a:p≠z/\p≠TI/\p≠TO/\p≠i/\p≠j:=by simpa using hp
   exact d p o a.1 (a7 p o a.1 a.2.2.1 a.2.2.2.1 a.2.2.2.2 e)
  have xm:s.heap.objs.size≠z:=AAt (J z (by simp));have I2:Inv X zj L (upd H s.heap.objs.size (.tup [x,y])) {s with heap:=h2,toks:=s.toks}:=I.turnedN g J kp (AAJ _)
   ⟨(by show 2<=sizeLine;decide), [u,v], .cons N (.cons O .nil),⟨_,d _ _ xm Y,rfl,_,rfl⟩⟩
  have Th:H s.heap.objs.size=none:=I.fresh;refine⟨.ref s.heap.objs.size,upd H s.heap.objs.size (.tup [x,y]),I2,rfl,⟨_,x,y,rfl,Th,rfl,λxs' h'=> ?_,λys' h'=> ?_⟩, ?_,λp hp=> ?_⟩
  .rw [I.sq_inj h' hl];exact hx
  .rw [I.sq_inj h' n];exact hy
  .exact ⟨c1,d _ _ D.TIz R,⟨_,_,d _ _ D.TOz S⟩,U.mv λo=>d _ o D.i1z,W.mv λo=>d _ o D.i2z⟩
  .rw [Aa (AAL (J p hp))];exact(g p hp).1
 done:=by
  intro X t hw A hc k zj s L H E I g Z B;subst t hw A;obtain⟨xs,ys,hl,n,he⟩:=B;obtain⟨us,C,G,_⟩:=I.sq hl;obtain⟨vs,rv,sv,_⟩:=I.sq n;have e1:=C.length;have e2:=rv.length;have jb:us.toArray[k]? =none\/vs.toArray[k]? =none:=by
   rcases he with q|q
   .exact .inl (by simp;omega)
   .exact .inr (by simp;omega)
  have f:s.TypeIs (.ref z) "zip" :=⟨_,Z.zip,rfl⟩;unfold pyNext;refine AAA (ACr (ABR (name:=Str.ofString "__next__") f ACs (AA4 ACs f F.entry_zip_next
   (tT (I.ok.hd hc) D Z G sv jb λh1 e hk he=> ?_) (F.args_zip_next_1 _))))
  obtain⟨o,ho,wz⟩:=he;refine AAA (ABo (T:="StopIteration") (b:=true) ⟨o,ho,wz⟩ isSubtype_stop (AAC ⟨rfl, ?_⟩));exact I.turnedL (t':=s.toks) g λp o hp e=>by
   have a:p≠z/\p≠TI/\p≠TO/\p≠i/\p≠j:=by simpa using hp
   exact hk p o a.1 a.2.2.1 a.2.2.2.1 a.2.2.2.2 e
 self:=λ_ _ _ _ _ Z h=>wpAny_pyIter_zip Z.zip h
structure Has (P:Program) (w:World) (K:AAB) (mg:Str->Option Value) (base:Heap) (k:Nat) (x:Str) (ps:List Str) (sp:Sp):Prop where
 ex:∃f fd,mg x=some (.ref f)/\PySem.W.keepIn K (.ref f)=true/\Binds K fd ps [] /\Ej P w K mg base Sy k f fd ps sp
def Has.mono {P:zp}{w:zm}{K:AAB}{mg:Str->zt zx}{base:zl}{j k:Nat}{x:Str}{e:zy Str}{sp:Sp}(h:Has P w K mg base j x e sp)(hk:j<=k):Has P w K mg base k x e sp:=by obtain⟨f,g,a,b,c,d⟩:=h.ex;exact⟨f,g,a,b,c,d.mono hk⟩
section
variable {X:Cx}{x:Str}{p pos:Pos}{e:zr}{es:zy zr}{t:TA}{k:Nat}{ps:zy Str}{sp:Sp}
def kH (D:Has X.prog X.w X.K X.mg X.base k x ps sp)(a:Room k X.A)(b:Gl X x)(ha:PA X (e::es) t)(hs:starEach (e::es) X.env=(false,eval e X.env)::starEach es X.env:=by rfl)(hpl:(backTo pos (starEach es X.env)).any (·.1)=false:=by rfl)(hd:(x==("__debug__" :Str))=false:=by decide):PE X (.Call (.Name x p) (e::es) [] pos) (iY sp [] E0 t):=by obtain⟨f,h,c,d,g,G⟩:=D.ex;exact fg G a b c d g .nil nu ha (hdb:=hd) (he:=hs) (hpl:=hpl)
end
section
variable {X:Cx}{tg elt:zr}{ifs:zy zr}{scope:Scope}{own:Nat}{ix:zy Nat}{N:zy Str}{g:TG}{tt:TT}{te:TE}
def Qw (X:Cx)(sc:Scope)(own:Nat)(ix:zy Nat)(N:zy Str):zq:=
 (List.range ix.length).all λj=>match ix[j]? with
   | none=>false
   | some i=>match N[own+j]?,X.N[i]? with
     | some x,some y=>decide (x=y)&&decide (X.env.scope.names.lookup x=some .cell)&&decide (sc.names.lookup x=some .cell)
     | _,_=>false
def aX {sc:Scope}(h1:N.length=own+ix.length)(h2:Qw X sc own ix N=true):Wu X sc own ix N:=by
 refine⟨h1,λj i hj=> ?_⟩;have c:j<ix.length:=(AAx.mp hj).1;have h:=ABw.mp h2 j (ABq.mpr c);rw[hj] at h;dsimp only at h;cases a:N[own+j]? with
 | none=>rw[a] at h;simp at h
 | some x=>
   cases b:X.N[i]? with
   | none=>rw[a,b] at h;simp at h
   | some y=> rw[a,b] at h;simp only[AAn,ABW] at h;obtain⟨⟨d,e⟩,f⟩:=h;subst d;exact⟨x,rfl,rfl,e,f⟩
def Qq (h1:scope.kind= .function)(h2:(scope.names.all λy=> !decide (y.2= .cell))=true)(c:(scope.names.all λy=> !decide (y.2= .local)||decide (scope.names.lookup y.1=some .local))=true)(d:(scope.names.all λy=> !decide (y.2= .free)||decide (X.env.scope.names.lookup y.1=some .cell))=true)(f:N.length=own+ix.length)(h:Qw X (relabel scope X.env) own ix N=true)(hk:IM own g)(a:∀cl C s H ex pn,PG (blk X (relabel scope X.env) N cl C s H ex pn) tg g)(b:∀cl C s H ex pn,YU (blk X (relabel scope X.env) N cl C s H ex pn) ifs tt)(val:∀cl C s H ex pn,PE (blk X (relabel scope X.env) N cl C s H ex pn) elt te):Fv X tg elt ifs scope own ix N g tt te:=by
 refine⟨h1,λy hy e=> ?_,λy hy e=> ?_,λy hy e=> ?_,aX f h,hk,a,b,val⟩
 .have:=ABw.mp h2 y hy;simp[e] at this
 .have:=ABw.mp c y hy;simpa[e] using this
 .have:=ABw.mp d y hy;simpa[e] using this
end
def S3.new {H:Hp}{p:zu}{o:HO}(h:H p=none):S3 H (upd H p o):=λb u q=>by rw[Aa (Ah q h)];exact q
def vc (p:zu)(H a:Hp):Prop:=∀b o,b≠p->H b=some o->a b=some o
def S3.but {p:zu}{H H1:Hp}(a:S3 H H1):vc p H H1:=λc o _ h=>a c o h
end L2
namespace PL
open PySem PySem.Spec PyProof.Rows L2
inductive PV where
 | non|bl (b:Bool)|int (i:Int)|str (x:Str)|ty (n:String)
 | tup (xs:List PV)|lst (xs:List PV)|tape|scr (ns:List Int)|dct (kvs:List (FK×Int))|dk (kvs:List (Int×Int))
def Ek (H:Hp)(p:zu):Prop:=∃d x:Int,H p=some (.lst [.int d, .int x])/\0<=d/\0<=x/\x<2147483647
def Kv (o:HO):Prop:=(∀vs,o≠ .tup vs)/\∀q u,o≠ .frz q u
def Kv.lst {xs:zy V}:Kv (.lst xs):=⟨(λ_ e=>nomatch e),(λ_ _ e=>nomatch e)⟩
def Ek.mut {H:Hp}{p:zu}(h:Ek H p):∃o,H p=some o/\Kv o:=by obtain⟨d,x,e,_⟩:=h;exact⟨_,e,Kv.lst⟩
def pE (K:AAB)(H:Hp)(a:zu)(xs:zy V):Prop:=H a=some (.tup xs)\/∃(o:Obj) (b:Array zx) (n:Nat),K.lookup a=some o/\o.cls= .type "tuple" /\o.data= .seq b n/\b.size<=sizeLine/\Ap xs b.toList
def pE.sq {K:AAB}{H:Hp}{a:zu}{xs:zy V}(h:pE K H a xs):MG K H a xs:=h.elim (λz=> .inl (.inl z)) .inr
def CD (kvs:zy (FK×Int)):zy (FK×V):=kvs.map λp=>(p.1,V.int p.2)
def Ik (kvs:zy (Int×Int)):zy (Cr×V):=kvs.map λp=>(.inl p.1,V.int p.2)
mutual
inductive CL (K:AAB) (T M:Addr->Prop) (H:Hp):V->PV->Prop where
 | non:CL K T M H .non .non
 | bl (b:Bool):CL K T M H (.bl b) (.bl b)
 | int (i:Int):CL K T M H (.int i) (.int i)
 | str (x:Str):CL K T M H (.str x) (.str x)
 | ty (n:String):CL K T M H (.ty n) (.ty n)
 | tup {a:Addr} {vs:List V} {xs:List PV} (h:pE K H a vs) (r:Aw K T M H vs xs):CL K T M H (.ref a) (.tup xs)
 | lst {a:Addr} {vs:List V} {xs:List PV} (h:H a=some (.lst vs)) (t:¬T a) (m:¬M a) (r:Aw K T M H vs xs):CL K T M H (.ref a) (.lst xs)
 | tape {a:Addr} (t:T a):CL K T M H (.ref a) .tape
 | dct {a:Addr} {kvs:List (FK×Int)} (h:H a=some (.dN K (CD kvs))) (t:¬T a) (m:¬M a):CL K T M H (.ref a) (.dct kvs)
 | dk {a:Addr} {o:Obj} {es:Array DictEntry} {ep:Nat} {kvs:List (Int×Int)} (h:H a=some (.frz o (.dK (Ik kvs)))) (e:o.data= .dict es ep):CL K T M H (.ref a) (.dk kvs)
 | scr {a:Addr} {ns:List Int} (h:(Rd H a (.lst (ns.map V.int))/\¬T a/\¬M a)\/∀H,FH K H a (ns.map V.int)):CL K T M H (.ref a) (.scr ns)
inductive Aw (K:AAB) (T M:Addr->Prop) (H:Hp):List V->List PV->Prop where
 | nil:Aw K T M H [] []
 | cons {v:V} {x:PV} {vs:List V} {xs:List PV} (h:CL K T M H v x) (t:Aw K T M H vs xs):Aw K T M H (v::vs) (x::xs)
end
structure Gb (T M:Addr->Prop) (H:Hp):Prop where
 tp:∀a,T a->Ek H a
 mu:∀a,M a->∃o,H a=some o/\Kv o
def Gb.noFrz {T M:zu->Prop}{H:Hp}(v:Gb T M H){a:zu}{q:Obj}{u:HO}(r:H a=some (.frz q u)):¬T a/\¬M a:=by
 refine⟨λz=> ?_,λz=> ?_⟩
 .obtain ⟨o,e,_,n⟩:=(v.tp a z).mut;rw[r] at e;cases e;exact n _ _ rfl
 .obtain ⟨o,e,_,n⟩:=v.mu a z;rw[r] at e;cases e;exact n _ _ rfl
def Gb.noTup {T M:zu->Prop}{H:Hp}(v:Gb T M H){a:zu}{vs:zy V}(r:Rd H a (.tup vs)):¬T a/\¬M a:=by
 have go:∀o,H a=some o->Kv o->False:=λo e m=>by
  rcases r with r|⟨q,r⟩
  .rw [e] at r;cases r;exact m.1 _ rfl
  .rw [e] at r;cases r;exact m.2 _ _ rfl
 exact⟨λt=>let ⟨o,e,m⟩:=(v.tp a t).mut;go o e m,λt=>let ⟨o,e,m⟩:=v.mu a t;go o e m⟩
structure Mv (K:AAB) (T M:Addr->Prop) (H:Hp) (T' M':Addr->Prop) (H':Hp):Prop where
 va:Gb T M H
 keep:∀b o,¬T b->¬M b->H b=some o->H' b=some o
 sub:∀b,T b->T' b
 tn:∀b,H b≠none->T' b->T b
 mn:∀b,H b≠none->M' b->M b
def Xs {H:Hp}{a:zu}{u:HO}(r:Rd H a u):H a≠none:=by rcases r with r|⟨o,r⟩ <;> rw[r] <;> exact λe=>nomatch e
def oJ {H b:Hp}{a:zu}{u:HO}(r:Rd H a u)(k:∀o,H a=some o->b a=some o):Rd b a u:=by
 rcases r with r|⟨o,r⟩
 .exact .inl (k _ r)
 .exact .inr ⟨o,k _ r⟩
section
variable {K:AAB}{T M T' M':zu->Prop}{H H':Hp}
mutual
theorem CL.mv (m:Mv K T M H T' M' H'):∀{v:V} {x:PV},CL K T M H v x->CL K T' M' H' v x
 | _,_, .non=> .non
 | _,_, .bl b=> .bl b
 | _,_, .int i=> .int i
 | _,_, .str x=> .str x
 | _,_, .ty n=> .ty n
 | _,_, .tup (a:=a) (vs:=vs) h r=>by
   refine .tup (vs:=vs) ?_ (Aw.mv m r);rcases h with h|h
   .obtain ⟨t,u⟩:=m.va.noTup (.inl h);exact .inl (m.keep _ _ t u h)
   .exact .inr h
 | _,_, .lst (a:=a) h t u r=> .lst (m.keep _ _ t u h) (λz=>t (m.tn a (by rw[h];exact λe=>nomatch e) z)) (λz=>u (m.mn a (by rw[h];exact λe=>nomatch e) z)) (Aw.mv m r)
 | _,_, .tape t=> .tape (m.sub _ t)
 | _,_, .dct (a:=a) h t u=> .dct (m.keep _ _ t u h) (λz=>t (m.tn a (by rw[h];exact λe=>nomatch e) z)) (λz=>u (m.mn a (by rw[h];exact λe=>nomatch e) z))
 | _,_, .dk h e=>by obtain⟨t,u⟩:=m.va.noFrz h;exact .dk (m.keep _ _ t u h) e
 | _,_, .scr (a:=a) (.inl ⟨h,t,u⟩)=> .scr (.inl ⟨oJ h λo e=>m.keep _ o t u e,λz=>t (m.tn a (Xs h) z),λz=>u (m.mn a (Xs h) z)⟩)
 | _,_, .scr (.inr h)=> .scr (.inr h)
theorem Aw.mv (m:Mv K T M H T' M' H'):∀{vs:zy V} {xs:zy PV},Aw K T M H vs xs->Aw K T' M' H' vs xs
 | _,_, .nil=> .nil
 | _,_, .cons h t=> .cons (CL.mv m h) (Aw.mv m t)
end
end
def Aw.length {K:AAB}{T M:zu->Prop}{H:Hp}:∀{vs:zy V} {xs:zy PV},Aw K T M H vs xs->vs.length=xs.length
 | _,_, .nil=>rfl
 | _,_, .cons _ t=>by simp[t.length]
theorem Aw.get {K:AAB}{T M:zu->Prop}{H:Hp}:∀{vs:zy V} {xs:zy PV} {i:Nat} {x:PV},Aw K T M H vs xs->xs[i]? =some x->∃v,vs[i]? =some v/\CL K T M H v x
 | _,_,_,_, .nil,e=>by simp at e
 | _,_,0,_, .cons h _,e=>by simp at e;subst e;exact⟨_,rfl,h⟩
 | _,_,i+1,x, .cons _ t,e=>by obtain⟨u,h1,h2⟩:=Aw.get (i:=i) (x:=x) t (by simpa using e);exact⟨u,by simpa using h1,h2⟩
def Aw.get' {K:AAB}{T M:zu->Prop}{H:Hp}{vs:zy V}{xs:zy PV}{i:Nat}{v:V}(h:Aw K T M H vs xs)(e:vs[i]? =some v):∃x,xs[i]? =some x/\CL K T M H v x:=by have hl:=h.length;have hi:i<vs.length:=(AAx.mp e).1;obtain⟨w,a,r⟩:=h.get (i:=i) (x:=xs[i]'(by omega)) (AAT (by omega));rw[e] at a;cases a;exact⟨_,AAT (by omega),r⟩
def Aw.append {K:AAB}{T M:zu->Prop}{H:Hp}:∀{vs a:zy V} {xs ys:zy PV},Aw K T M H vs xs->Aw K T M H a ys->Aw K T M H (vs++a) (xs++ys)
 | _,_,_,_, .nil,s=>s
 | _,_,_,_, .cons h t,s=> .cons h (t.append s)
def Aw.take {K:AAB}{T M:zu->Prop}{H:Hp}:∀{vs:zy V} {xs:zy PV} (n:Nat),Aw K T M H vs xs->Aw K T M H (vs.take n) (xs.take n)
 | _,_,0,_=> .nil
 | _,_,_+1, .nil=> .nil
 | _,_,n+1, .cons r t=> .cons r (t.take n)
def Aw.drop {K:AAB}{T M:zu->Prop}{H:Hp}:∀{vs:zy V} {xs:zy PV} (n:Nat),Aw K T M H vs xs->Aw K T M H (vs.drop n) (xs.drop n)
 | _,_,0,r=>r
 | _,_,_+1, .nil=> .nil
 | _,_,n+1, .cons _ t=>t.drop n
theorem Aw.set {K:AAB}{T M:zu->Prop}{H:Hp}{v:V}{x:PV}(r:CL K T M H v x):∀{vs:zy V} {xs:zy PV} (i:Nat),Aw K T M H vs xs->Aw K T M H (vs.set i v) (xs.set i x)
 | _,_,_, .nil=> .nil
 | _,_,0, .cons _ t=> .cons r t
 | _,_,i+1, .cons q t=> .cons q (Aw.set r i t)
def Aw.reverse {K:AAB}{T M:zu->Prop}{H:Hp}{vs:zy V}{xs:zy PV}(h:Aw K T M H vs xs):Aw K T M H vs.reverse xs.reverse:=by
 induction vs generalizing xs with
 | nil=>cases h;exact .nil
 | cons v vs ih=>
   cases h with
   | cons h t=>rw[ACf,ACf];exact(ih t).append (.cons h .nil)
structure DB (T:Addr->Prop) (H:Hp) (T':Addr->Prop) (H':Hp):Prop where
 keep:∀b o,¬T b->H b=some o->H' b=some o
 sub:∀b,T b->T' b
 new:∀b,T' b->T b\/H b=none
 tp:∀a,T' a->Ek H' a
def DB.refl {T:zu->Prop}{H:Hp}(h:∀a,T a->Ek H a):DB T H T H:=⟨λ_ _ _ e=>e,λ_ e=>e,λ_ e=> .inl e,h⟩
def DB.some {T c:zu->Prop}{H a:Hp}(s:DB T H c a){b:zu}(h:H b≠none):a b≠none:=by
 by_cases t:T b
 .obtain ⟨o,e,_⟩:=(s.tp b (s.sub b t)).mut;rw[e];exact λe=>nomatch e
 .cases e:H b with
  | none=>exact absurd e h
  | some o=>rw[s.keep b o t e];exact λe=>nomatch e
def DB.none {T c:zu->Prop}{H a:Hp}(s:DB T H c a){b:zu}(h:a b=none):H b=none:=by
 cases e:H b with
 | none=>rfl
 | some o=>exact absurd h (s.some (by rw[e];exact λe=>nomatch e))
def DB.trans {T d f:zu->Prop}{H H1 g:Hp}(a:DB T H d H1)(b:DB d H1 f g):DB T H f g where
 keep:=λc o t e=>b.keep c o (λz=>(a.new c z).elim t λn=>by rw[n] at e;cases e) (a.keep c o t e)
 sub:=λc t=>b.sub c (a.sub c t)
 new:=λc t=>(b.new c t).elim (λz=>a.new c z) λz=> .inr (a.none z)
 tp:=b.tp
def DB.lay {T:zu->Prop}{H:Hp}{p:zu}{o:HO}(h:∀a,T a->Ek H a)(hp:H p=Option.none):DB T H T (upd H p o) where
 keep:=λb u _ e=>by rw[Aa (Ah e hp)];exact e
 sub:=λ_ t=>t
 new:=λ_ t=> .inl t
 tp:=λa t=>by obtain⟨d,x,e,z⟩:=h a t;exact⟨d,x,by rw[Aa (Ah e hp)];exact e,z⟩
def DB.mv {K:AAB}{T a M:zu->Prop}{H c:Hp}(s:DB T H a c)(v:Gb T M H):Mv K T M H a M c where
 va:=v
 keep:=λb o t _ e=>s.keep b o t e
 sub:=s.sub
 tn:=λb n t=>(s.new b t).elim id λz=>absurd z n
 mn:=λ_ _ z=>z
def CL.stp {K:AAB}{T a M:zu->Prop}{H b:Hp}{v:V}{x:PV}(r:CL K T M H v x)(s:DB T H a b)(va:Gb T M H):CL K a M b v x:=r.mv (s.mv va)
def Aw.stp {K:AAB}{T a M:zu->Prop}{H b:Hp}{v:zy V}{x:zy PV}(r:Aw K T M H v x)(s:DB T H a b)(va:Gb T M H):Aw K a M b v x:=r.mv (s.mv va)
def Mv.anti {K:AAB}{T M c:zu->Prop}{H:Hp}(v:Gb T M H)(h:∀a,c a->M a):Mv K T M H T c H:=⟨v,λ_ _ _ _ e=>e,λ_ t=>t,λ_ _ t=>t,λb _ t=>h b t⟩
inductive AV where
 | val (x:PV)
 | own (xs:List PV)
abbrev A6:=zy (zt AV)
structure C3 where
 T:Addr->Prop
 H:Hp
 M:Addr->Prop
def C3.add (B:C3)(p:zu):C3:=⟨B.T,B.H,λa=>B.M a\/a=p⟩
def Co (a:L2.St)(τ:A6)(p:zu):Prop:=∃(i:Nat) (xs:zy PV),τ[i]? =some (some (.own xs))/\a[i]? =some (some (.ref p))
def mt (B:C3)(a:L2.St)(τ:A6)(p:zu):Prop:=B.M p\/Co a τ p
structure SR (K:AAB) (B:C3) (T:Addr->Prop) (H:Hp) (σ:L2.St) (τ:A6):Prop where
 len:σ.length=τ.length
 val:∀(i:Nat) (x:PV),τ[i]? =some (some (.val x))->∃v,σ[i]? =some (some v)/\CL K T (mt B σ τ) H v x
 own:∀(i:Nat) (xs:List PV),τ[i]? =some (some (.own xs))->∃p vs,σ[i]? =some (some (.ref p))/\H p=some (.lst vs)/\Aw K T (mt B σ τ) H vs xs/\B.H p=none/\¬T p/\¬B.M p
 dist:∀(i j:Nat) (xs ys:List PV) (p:Addr),τ[i]? =some (some (.own xs))->τ[j]? =some (some (.own ys))->σ[i]? =some (some (.ref p))->σ[j]? =some (some (.ref p))->i=j
 tp:∀a,T a->Ek H a
 bm:∀a,B.M a->∃o,H a=some o/\Kv o
 bt:∀a,B.M a->¬T a
 st:DB B.T B.H T H
section
variable {K:AAB}{B:C3}{T T':zu->Prop}{H H':Hp}{σ:L2.St}{τ:A6}
def SR.ownH (s:SR K B T H σ τ){p:zu}(o:Co σ τ p):∃vs,H p=some (.lst vs)/\B.H p=none/\¬T p/\¬B.M p:=by obtain⟨i,xs,h1,h2⟩:=o;obtain⟨q,vs,e,h,_,b,t,m⟩:=s.own i xs h1;rw[h2] at e;cases e;exact⟨vs,h,b,t,m⟩
def SR.va (s:SR K B T H σ τ):Gb T (mt B σ τ) H:=⟨s.tp,λa m=>m.elim (s.bm a) λo=>let ⟨vs,h,_⟩:=s.ownH o;⟨_,h,Kv.lst⟩⟩
def SR.nt (s:SR K B T H σ τ){a:zu}(m:mt B σ τ a):¬T a:=m.elim (s.bt a) λo=>let ⟨_,_,_,t,_⟩:=s.ownH o;t
def SR.stp (s:SR K B T H σ τ)(p:DB T H T' H'):SR K B T' H' σ τ where
 len:=s.len
 val:=λi x e=>let ⟨v,h,r⟩:=s.val i x e;⟨v,h,r.stp p s.va⟩
 own:=λi xs e=>by obtain⟨q,vs,c,h,r,b,t,m⟩:=s.own i xs e;exact⟨q,vs,c,p.keep _ _ t h,r.stp p s.va,b,(λz=>(p.new q z).elim t λn=>by rw[n] at h;cases h),m⟩
 dist:=s.dist
 tp:=p.tp
 bm:=λa m=>let ⟨o,e,q⟩:=s.bm a m;⟨o,p.keep a o (s.bt a m) e,q⟩
 bt:=λa m z=>by obtain⟨o,e,_⟩:=s.bm a m;exact(p.new a z).elim (s.bt a m) λn=>by rw[n] at e;cases e
 st:=s.st.trans p
def SR.add {p:zu}{o:HO}(s:SR K B T H σ τ)(q:DB T H T' H')(f:H p=none)(k:H' p=some o)(l:Kv o)(u:¬T' p):SR K (B.add p) T' H' σ τ:=by
 have c:=s.stp q;have g:Mv K T (mt B σ τ) H T' (mt (B.add p) σ τ) H':=⟨s.va,λb o t _ e=>q.keep b o t e,q.sub,λb n t=>(q.new b t).elim id λz=>absurd z n,λb n z=>by
  rcases z with(z|z)|z
  .exact .inl z
  .subst z;exact absurd f n
  .exact .inr z⟩
 refine⟨s.len,λi x e=> ?_,λi xs e=> ?_,s.dist,c.tp,λa m=> ?_,λa m=> ?_,c.st⟩
 .obtain ⟨v,h,r⟩:=s.val i x e;exact⟨v,h,r.mv g⟩
 .obtain ⟨a,vs,j,h,r,b,t,m⟩:=s.own i xs e;obtain⟨y,w,d,h',_,A,t',C⟩:=c.own i xs e;rw[j] at d;cases d;rw[q.keep _ _ t h] at h';cases h';refine⟨a,vs,j,q.keep _ _ t h,r.mv g,b,t',λz=> ?_⟩;rcases z with z|z
  .exact m z
  .subst z;rw[f] at h;cases h
 .rcases m with m|m
  .exact c.bm a m
  .subst m;exact⟨o,k,l⟩
 .rcases m with m|m
  .exact c.bt a m
  .subst m;exact u
end
def eO:zt AV->zt AV
 | some (.own xs)=>some (.val (.lst xs))
 | o=>o
def frz (τ:A6):A6:=τ.map eO
def XJ {τ:A6}{i:Nat}:(frz τ)[i]? =(τ[i]?).map eO:=by simp[frz]
def eQ {τ:A6}{i:Nat}{x:PV}(h:(frz τ)[i]? =some (some (.val x))):τ[i]? =some (some (.val x))\/∃xs,x= .lst xs/\τ[i]? =some (some (.own xs)):=by
 rw[XJ] at h;cases e:τ[i]? with
 | none=>rw[e] at h;cases h
 | some o=>
   rw[e] at h;cases o with
   | none=>cases h
   | some a=>
     cases a with
     | val y=>cases h;exact .inl rfl
     | own xs=>cases h;exact .inr ⟨xs,rfl,rfl⟩
def Qx {τ:A6}{i:Nat}{xs:zy PV}:(frz τ)[i]? ≠some (some (.own xs)):=by
 rw[XJ];cases e:τ[i]? with
 | none=>exact λz=>nomatch z
 | some o=>
   cases o with
   | none=>exact λz=>nomatch z
   | some a=>cases a <;> exact λz=>nomatch z
def UP {a:L2.St}{τ:A6}{p:zu}:¬Co a (frz τ) p:=λ⟨_,_,h,_⟩=>Qx h
section
variable {K:AAB}{B:C3}{T T':zu->Prop}{H H':Hp}{σ:L2.St}{τ:A6}
def SR.frz (s:SR K B T H σ τ):SR K B T H σ (frz τ):=by
 have d:Mv K T (mt B σ τ) H T (mt B σ (PL.frz τ)) H:= .anti s.va λa m=>m.elim .inl λz=>absurd z UP;refine⟨by simp[PL.frz,s.len],λi x e=> ?_,λi xs e=>absurd e Qx,λi j xs ys p e=>absurd e Qx,s.tp,s.bm,s.bt,s.st⟩;rcases eQ e with c|⟨xs,f,c⟩
 .obtain ⟨v,h,r⟩:=s.val i x c;exact⟨v,h,r.mv d⟩
 .subst f;obtain⟨p,vs,g,h,r,b,t,m⟩:=s.own i xs c;exact⟨.ref p,g, .lst h t (λz=>z.elim m UP) (r.mv d)⟩
end
mutual
def Xg:PV->zq
 | .lst _=>false
 | .tape=>false
 | .scr _=>false
 | .dct _=>false
 | .tup xs=>Tw xs
 | _=>true
def Tw:zy PV->zq
 | [] =>true
 | x::xs=>Xg x&&Tw xs
end
section
variable {K:AAB}{T M M':zu->Prop}{H:Hp}
mutual
theorem CL.free:∀{v:V} {x:PV},Xg x=true->CL K T M H v x->CL K T M' H v x
 | _,_,_, .non=> .non
 | _,_,_, .bl b=> .bl b
 | _,_,_, .int i=> .int i
 | _,_,_, .str x=> .str x
 | _,_,_, .ty n=> .ty n
 | _,_,n, .tup h r=> .tup h (Aw.free (by rw[Xg] at n;exact n) r)
 | _,_,n, .lst _ _ _ _=>by rw[Xg] at n;cases n
 | _,_,n, .tape _=>by rw[Xg] at n;cases n
 | _,_,n, .scr _=>by rw[Xg] at n;cases n
 | _,_,n, .dct _ _ _=>by rw[Xg] at n;cases n
 | _,_,_, .dk h e=> .dk h e
theorem Aw.free:∀{vs:zy V} {xs:zy PV},Tw xs=true->Aw K T M H vs xs->Aw K T M' H vs xs
 | _,_,_, .nil=> .nil
 | _,_,n, .cons h t=>by rw[Tw,AAn] at n;exact .cons (CL.free n.1 h) (Aw.free n.2 t)
end
end
abbrev AE:=A6->(PV->Prop)->Prop
abbrev AT:=A6->(zq->Prop)->Prop
abbrev AA:=A6->(zy PV->Prop)->Prop
abbrev AF:=zy PV->(PV->Prop)->Prop
def Sd:A6->Nat->zt AV
 | [],_=>none
 | x::_,0=>x
 | _::r,n+1=>Sd r n
theorem N6:∀{τ:A6} {i:Nat} {a:AV},Sd τ i=some a->τ[i]? =some (some a)
 | [],_,_,h=>by simp[Sd] at h
 | x::_,0,_,h=>by simpa[Sd] using h
 | _::r,n+1,a,h=>by have:=N6 (τ:=r) (i:=n) (a:=a) (by simpa[Sd] using h);simpa using this
def V6 (x:PV)(R:Int->Prop):Prop:=match x with | .int i=>R i|_=>False
def j5 (x y:PV)(R:Int->Int->Prop):Prop:=match x,y with | .int i, .int j=>R i j|_,_=>False
def dh (x:PV)(R:zq->Prop):Prop:=match x with | .bl b=>R b|_=>False
def di (o:zt PV)(R:PV->Prop):Prop:=match o with | some z=>R z|none=>False
def j7 {o:zt PV}{R:PV->Prop}(h:di o R):∃z,o=some z/\R z:=by cases o <;> first | exact⟨_,rfl,h⟩|exact h.elim
def Om (x:PV)(R:zy PV->Prop):Prop:=match x with | .tup xs=>R xs | .lst xs=>R xs|_=>False
def RZ {x:PV}{R:Int->Prop}(h:V6 x R):∃i,x= .int i/\R i:=by cases x <;> first | exact⟨_,rfl,h⟩|exact h.elim
def Md {x y:PV}{R:Int->Int->Prop}(h:j5 x y R):∃i j,x= .int i/\y= .int j/\R i j:=by cases x <;> cases y <;> first | exact⟨_,_,rfl,rfl,h⟩|exact h.elim
def RY {x:PV}{R:zq->Prop}(h:dh x R):∃b,x= .bl b/\R b:=by cases x <;> first | exact⟨_,rfl,h⟩|exact h.elim
def Ir {x:PV}{R:zy PV->Prop}(h:Om x R):∃xs,(x= .tup xs\/x= .lst xs)/\R xs:=by cases x <;> first | exact⟨_, .inl rfl,h⟩|exact⟨_, .inr rfl,h⟩|exact h.elim
def CL.toI {K:AAB}{T M:zu->Prop}{H:Hp}{v:V}{i:Int}(r:CL K T M H v (.int i)):v= .int i:=by cases r;rfl
def CL.toB {K:AAB}{T M:zu->Prop}{H:Hp}{v:V}{i:zq}(r:CL K T M H v (.bl i)):v= .bl i:=by cases r;rfl
def GX (K:AAB)(t:TE)(a:AE):Prop:=∀(B:C3) (T:zu->Prop) (b:L2.St) (τ:A6) (H:Hp) (Q:VK) (d:PV->Prop),SR K B T H b τ->a τ d->
 (∀v x e c,DB T H e c->CL K e (mt B b τ) c v x->d x->Q v c)->t b H Q
def NV (K:AAB)(t:TT)(a:AT):Prop:=∀(B:C3) (T:zu->Prop) (c:L2.St) (τ:A6) (H:Hp) (Q:zq->Hp->Prop) (d:zq->Prop),SR K B T H c τ->a τ d->
 (∀b f e,DB T H f e->d b->Q b e)->t c H Q
def i9 (K:AAB)(t:TA)(a:AA):Prop:=∀(B:C3) (T:zu->Prop) (b:L2.St) (τ:A6) (H:Hp) (Q:zy V->Hp->Prop) (d:zy PV->Prop),SR K B T H b τ->a τ d->
 (∀vs xs e c,DB T H e c->Aw K e (mt B b τ) c vs xs->d xs->Q vs c)->t b H Q
def Zy (K:AAB)(t:TE)(a:AA):Prop:=∀(B:C3) (T:zu->Prop) (c:L2.St) (τ:A6) (H:Hp) (Q:VK) (e:zy PV->Prop),SR K B T H c τ->a τ e->
 (∀p vs xs d b,DB T H d b->SR K (B.add p) d b c τ->H p=none->b p=some (.lst vs)->¬d p->Aw K d (mt (B.add p) c τ) b vs xs->e xs->Q (.ref p) b)->t c H Q
def SE (X:Cx)(e:zr)(a:AE):Prop:=∃t,PE X e t/\GX X.K t a
def Sc (X:Cx)(e:zr)(a:AT):Prop:=∃t,PT X e t/\NV X.K t a
def SW (X:Cx)(e:zr)(a:AT):Prop:=∃t,PW X e t/\NV X.K t a
def SA (X:Cx)(es:zy zr)(a:AA):Prop:=∃t,PA X es t/\i9 X.K t a
def SF (X:Cx)(e:zr)(a:AA):Prop:=∃t,PE X e t/\Zy X.K t a
abbrev JT:=PV->PV->(PV->Prop)->Prop
def CW (K:AAB)(r:R2)(f:JT):Prop:=∀(T M:zu->Prop) (H:Hp) (u v:V) (x y:PV) (Q:VK) (b:PV->Prop),Gb T M H->CL K T M H u x->CL K T M H v y->f x y b->
 (∀w z c a,DB T H c a->CL K c M a w z->b z->Q w a)->r u v H Q
def E4 (K:AAB)(r:zy V->Hp->VK->Prop)(f:AF):Prop:=∀(T M:zu->Prop) (H:Hp) (us:zy V) (xs:zy PV) (Q:VK) (b:PV->Prop),Gb T M H->Aw K T M H us xs->f xs b->
 (∀w z c a,DB T H c a->CL K c M a w z->b z->Q w a)->r us H Q
section
variable {X:Cx}{a b c:zr}{es:zy zr}{pos:Pos}{ta tb:AE}{tA tB':AT}
def aV (i:Nat):AE:=λτ Q=>match Sd τ i with | some (.val x)=>Q x|_=>False
def mV {i:Nat}{τ:A6}{Q:PV->Prop}(h:aV i τ Q):∃x,τ[i]? =some (some (.val x))/\Q x:=by
 unfold aV at h;cases e:Sd τ i with
 | none=>rw[e] at h;exact h.elim
 | some z=>
   rw[e] at h;cases z with
   | own xs=>exact h.elim
   | val x=>exact⟨x,N6 e,h⟩
def AH (i:Nat){x:Str}{pos:Pos}(hN:X.N[i]? =some x:=by rfl)(hv:jC X.env.scope x:=by first | exact Or.inl rfl|exact Or.inr (Or.inl rfl)|exact Or.inr (Or.inr rfl))(hd:(x==("__debug__" :Str))=false:=by decide)(d:(x==("__classdict__" :Str))=false:=by decide):SE X (.Name x pos) (aV i):=by refine⟨_,Re hN hv hd d,λB T g τ H Q j s h k=> ?_⟩;obtain⟨x,e,q⟩:=mV h;obtain⟨v,f,r⟩:=s.val i x e;exact⟨v,f,k v x T H (.refl s.tp) r q⟩
def aC (x:PV):AE:=λ_ Q=>Q x
def Ud {v:V}{x:PV}(h:∀T M H,CL X.K T M H v x):GX X.K (tC v) (aC x):=λB T d τ H Q e s h' k=>k v x T H (.refl s.tp) (h _ _ _) h'
def AJ {i:Int}{j pos}:SE X (.Constant (.int i) j pos) (aC (.int i)):=⟨_,A3,Ud λ_ _ _=> .int i⟩
def OT {i:zq}{j pos}:SE X (.Constant (.bool i) j pos) (aC (.bl i)):=⟨_,nw,Ud λ_ _ _=> .bl i⟩
def Bm {j pos}:SE X (.Constant .none j pos) (aC .non):=⟨_,bn,Ud λ_ _ _=> .non⟩
def WN {i:Str}{j pos}:SE X (.Constant (.str i) j pos) (aC (.str i)):=⟨_,kK,Ud λ_ _ _=> .str i⟩
def AW (f:JT)(ta tb:AE):AE:=λτ Q=>ta τ λx=>tb τ λy=>f x y Q
def SB {r:R2}{f:JT}{t u:TE}(i:CW X.K r f)(ha:GX X.K t ta)(hb:GX X.K u tb):GX X.K (ZU r t u) (AW f ta tb):=by intro B T g τ H Q j s h k;refine ha B T g τ H _ _ s h λv x l H1 d m h1=> ?_;refine hb B l g τ H1 _ _ (s.stp d) h1 λw y n o e p h2=> ?_;have A:=(s.stp d).stp e;exact i n _ o v w x y Q j A.va (m.stp e (s.stp d).va) p h2 λw z T3 C D E q=>k w z T3 C ((d.trans e).trans D) E q
def Af {op:Operator}{r:R2}{f:JT}(d:EZ X (binaryOp op) r/\CW X.K r f)(ha:SE X a ta)(hb:SE X b tb):SE X (.BinOp a op b pos) (AW f ta tb):=
 let ⟨_,p,s⟩:=ha;let ⟨_,e,g⟩:=hb;⟨_,B8 d.1 p e,SB d.2 s g⟩
def C0 {op:CmpOp}{r:R2}{f:JT}(d:EZ X (compareOp op) r/\CW X.K r f)(ha:SE X a ta)(hb:SE X b tb)(e:behindInMarks op b=false):SE X (.Compare a [op] [b] pos) (AW f ta tb):=
 let ⟨_,p,s⟩:=ha;let ⟨_,g,h⟩:=hb;⟨_,Xk d.1 p g e,SB d.2 s h⟩
def oT {r:R2}{f:JT}(d:d3 X r/\CW X.K r f)(ha:SE X a ta)(hb:SE X b tb)(hs:Ql b):SE X (.Subscript a b pos) (AW f ta tb):=
 let ⟨_,p,s⟩:=ha;let ⟨_,e,g⟩:=hb;⟨_,Lq d.1 p e hs,SB d.2 s g⟩
def fI (g:Int->Int->PV):JT:=λx y Q=>j5 x y λi j=>Q (g i j)
def lh (C:Int->Int->Prop)(g:Int->Int->PV):JT:=λx y Q=>j5 x y λi j=>C i j/\Q (g i j)
def X3 {g:Int->Int->V}{g':Int->Int->PV}(d:∀i j T M H,CL X.K T M H (g i j) (g' i j)):CW X.K (Pb g) (fI g'):=by intro T M H u v x y Q f va e rv h k;obtain⟨i,j,rfl,rfl,q⟩:=Md h;exact⟨i,j,e.toI,rv.toI,k _ _ T H (.refl va.tp) (d i j T M H) q⟩
def R6 {C:Int->Int->Prop}{g:Int->Int->V}{g':Int->Int->PV}(d:∀i j T M H,CL X.K T M H (g i j) (g' i j)):CW X.K (rI C g) (lh C g'):=by intro T M H u v x y Q f va e rv h k;obtain⟨i,j,rfl,rfl,c,q⟩:=Md h;exact⟨i,j,e.toI,rv.toI,c,k _ _ T H (.refl va.tp) (d i j T M H) q⟩
abbrev ma:JT:=fI λi j=> .int (i+j)
abbrev IC:JT:=fI λi j=> .int (i-j)
abbrev aS:JT:=fI λi j=> .bl (decide (i<j))
abbrev aR:JT:=fI λi j=> .bl (decide (j<i))
abbrev pG:JT:=fI λi j=> .bl (decide (j<=i))
def DT:EZ X (binaryOp .Sub) (Pb λi j=> .int (i-j))/\CW X.K (Pb λi j=> .int (i-j)) IC:=⟨V7,X3 λi j _ _ _=> .int _⟩
def HN:EZ X (compareOp .Lt) (Pb λi j=> .bl (decide (i<j)))/\CW X.K (Pb λi j=> .bl (decide (i<j))) aS:=⟨iR,X3 λi j _ _ _=> .bl _⟩
def KZ:EZ X (compareOp .Gt) (Pb λi j=> .bl (decide (j<i)))/\CW X.K (Pb λi j=> .bl (decide (j<i))) aR:=⟨iQ,X3 λi j _ _ _=> .bl _⟩
def c3:EZ X (compareOp .GtE) (Pb λi j=> .bl (decide (j<=i)))/\CW X.K (Pb λi j=> .bl (decide (j<=i))) pG:=⟨iP,X3 λi j _ _ _=> .bl _⟩
structure MulOk (i j:Int):Prop where
 l:i.natAbs<2^1000000
 r:j.natAbs<2^1000000
def Ra:EZ X (binaryOp .Mult) (rI MulOk λi j=> .int (i*j)):=j9 λ_ _ _ _ _ _ _ hc q=>mul_int q (.of_le (Hc hc.l) (Hc hc.r) (by decide))
abbrev DJ:JT:=lh MulOk λi j=> .int (i*j)
def BG:EZ X (binaryOp .Mult) (rI MulOk λi j=> .int (i*j))/\CW X.K (rI MulOk λi j=> .int (i*j)) DJ:=⟨Ra,R6 λi j _ _ _=> .int _⟩
structure Wt (i j:Int):Prop where
 ne:j≠0
 lt:j.natAbs<2^8900
def bV:EZ X (binaryOp .FloorDiv) (rI Wt λi j=> .int (i.fdiv j)):=j9 λi j _ _ _ _ _ hc q=>
 floordiv_int hc.ne q (.inl (ADk (ACk (J5 hc.lt (by decide)) (by decide))))
abbrev TK:JT:=lh Wt λi j=> .int (i.fdiv j)
def GH:EZ X (binaryOp .FloorDiv) (rI Wt λi j=> .int (i.fdiv j))/\CW X.K (rI Wt λi j=> .int (i.fdiv j)) TK:=⟨bV,R6 λi j _ _ _=> .int _⟩
abbrev TL:JT:=lh (λ_ j=>j≠0) λi j=> .int (i.fmod j)
def Oc:EZ X (binaryOp .Mod) (rI (λ_ j=>j≠0) λi j=> .int (i.fmod j))/\CW X.K (rI (λ_ j=>j≠0) λi j=> .int (i.fmod j)) TL:=⟨fZ,R6 λi j _ _ _=> .int _⟩
abbrev md:JT:=lh du λi j=> .int (i^j.toNat)
def lE:EZ X (binaryOp .Pow) (rI du λi j=> .int (i^j.toNat))/\CW X.K (rI du λi j=> .int (i^j.toNat)) md:=⟨bW,R6 λi j _ _ _=> .int _⟩
def pN:PV->zq | .non=>true|_=>false
def IB:JT:=λx y Q=>match y with | .non=>Q (.bl (pN x))|_=>False
def P9:JT:=λx y Q=>match y with | .non=>Q (.bl (!pN x))|_=>False
def XZ {K:AAB}{T M:zu->Prop}{H:Hp}{v:V}{x:PV}(r:CL K T M H v x):decide (v= .non)=pN x:=by cases r <;> simp[pN]
def GI:EZ X (compareOp .Is) (λx y H Q=>y= .non/\Q (.bl (decide (x= .non))) H)/\CW X.K (λx y H Q=>y= .non/\Q (.bl (decide (x= .non))) H) IB:=by
 refine⟨kC,λT M H u v x y Q e va d rv h k=> ?_⟩;cases y <;> first | exact h.elim|skip
 cases rv;refine⟨rfl, ?_⟩;rw[XZ d];exact k _ _ T H (.refl va.tp) (.bl _) h
def SL:EZ X (compareOp .IsNot) (λx y H Q=>y= .non/\Q (.bl (!decide (x= .non))) H)/\CW X.K (λx y H Q=>y= .non/\Q (.bl (!decide (x= .non))) H) P9:=by
 refine⟨Xj,λT M H u v x y Q e va d rv h k=> ?_⟩;cases y <;> first | exact h.elim|skip
 cases rv;refine⟨rfl, ?_⟩;rw[XZ d];exact k _ _ T H (.refl va.tp) (.bl _) h
def Am:JT:=λx y Q=>Om x λxs=>V6 y λi=>di (JV xs i) Q
def W4 {K:AAB}{T M:zu->Prop}{H:Hp}{vs:zy V}{xs:zy PV}{i:Int}{z:PV}(r:Aw K T M H vs xs)(h:JV xs i=some z):∃v,JV vs i=some v/\CL K T M H v z:=by
 unfold JV at h ⊢;rw[r.length];cases e:Vp xs.length i with
 | none=>rw[e] at h;cases h
 | some j=> rw[e] at h;exact r.get h
def oE (K:AAB):R2:=λx y H Q=>oD K x y H Q\/oF K x y H Q
def oZ:d3 X (oE X.K)/\CW X.K (oE X.K) Am:=by
 refine⟨E8.or jl,λT M H u v x y Q g va f rv h k=> ?_⟩;obtain⟨xs,hx,h1⟩:=Ir h;obtain⟨i,rfl,h2⟩:=RZ h1;cases rv.toI;obtain⟨z,e,q⟩:=j7 h2;rcases hx with rfl|rfl
 .cases f with
  | tup hq r=> obtain⟨w,ew,d⟩:=W4 r e;exact .inr ⟨_,_,i,w,rfl,rfl,hq.sq,ew,k w z T H (.refl va.tp) d q⟩
 .cases f with
  | lst hq t m r=> obtain⟨w,ew,d⟩:=W4 r e;exact .inl ⟨_,_,i,w,rfl,rfl, .inl (.inl hq),ew,k w z T H (.refl va.tp) d q⟩
def YY (f:PV->(PV->Prop)->Prop)(ta:AE):AE:=λτ Q=>ta τ λx=>f x Q
def Nj (x:PV)(Q:PV->Prop):Prop:=V6 x λi=>Q (.int (-i))
def GE (ha:SE X a ta):SE X (.UnaryOp .USub a pos) (YY Nj ta):=by obtain⟨t,p,s⟩:=ha;refine⟨_,n9 lU p,λB T d τ H Q l e h k=>s B T d τ H _ _ e h λv x f H1 g j h1=> ?_⟩;obtain⟨i,rfl,q⟩:=RZ h1;exact⟨i,j.toI,k _ _ f H1 g (.int _) q⟩
def jU (x:PV)(Q:PV->Prop):Prop:=dh x λi=>Q (.bl (!i))
def kz (ha:SE X a ta):SE X (.UnaryOp .Not a pos) (YY jU ta):=by obtain⟨t,p,s⟩:=ha;refine⟨_,kI p,λB T d τ H Q l e h k=>s B T d τ H _ _ e h λv x f H1 g j h1=> ?_⟩;obtain⟨i,rfl,q⟩:=RY h1;exact⟨i,j.toB,k _ _ f H1 g (.bl _) q⟩
def VB (ta tb:AE):AE:=λτ Q=>ta τ λx=>dh x λc=>if c=true then tb τ Q else Q (.bl false)
def pF (ta tb:AE):AE:=λτ Q=>ta τ λx=>dh x λc=>if c=true then Q (.bl true) else tb τ Q
def LS {op}(h:SE X a ta):SE X (.BoolOp op [a] pos) ta:=let ⟨_,p,s⟩:=h;⟨_,kJ p,s⟩
def OS {rest:zy zr}(ha:SE X a ta)(hb:SE X (.BoolOp .And (b::rest) pos) tb):SE X (.BoolOp .And (a::b::rest) pos) (VB ta tb):=by
 obtain⟨t,p,s⟩:=ha;obtain⟨t',j,l⟩:=hb;refine⟨_,kF p j,λB T e τ H Q z f h k=>s B T e τ H _ _ f h λv x g H1 d m h1=> ?_⟩;obtain⟨i,rfl,q⟩:=RY h1;refine⟨i,m.toB, ?_⟩;cases i with
 | true=>rw[AAE rfl] at q ⊢;exact l B g e τ H1 _ _ (f.stp d) q λw y n o r u h2=>k w y n o (d.trans r) u h2
 | false=>rw[AAD AAQ] at q ⊢;exact k _ _ g H1 d (.bl _) q
def iX {rest:zy zr}(ha:SE X a ta)(hb:SE X (.BoolOp .Or (b::rest) pos) tb):SE X (.BoolOp .Or (a::b::rest) pos) (pF ta tb):=by
 obtain⟨t,p,s⟩:=ha;obtain⟨t',j,l⟩:=hb;refine⟨_,n8 p j,λB T e τ H Q z f h k=>s B T e τ H _ _ f h λv x g H1 d m h1=> ?_⟩;obtain⟨i,rfl,q⟩:=RY h1;refine⟨i,m.toB, ?_⟩;cases i with
 | false=>rw[AAD AAQ] at q ⊢;exact l B g e τ H1 _ _ (f.stp d) q λw y n o r u h2=>k w y n o (d.trans r) u h2
 | true=>rw[AAE rfl] at q ⊢;exact k _ _ g H1 d (.bl _) q
def A1 (ta:AE):AT:=λτ Q=>ta τ λx=>dh x Q
def SD {t:TE}(s:GX X.K t ta):NV X.K (dL t) (A1 ta):=λB T d τ H Q l e h k=>s B T d τ H _ _ e h λv x f H1 g j h1=>by obtain⟨i,rfl,q⟩:=RY h1;exact⟨i,j.toB,k _ f H1 g q⟩
def lH {op:CmpOp}{r:R2}{f:JT}(d:EZ X (compareOp op) r/\CW X.K r f)(ha:SE X a ta)(hb:SE X b tb)(e:behindInMarks op b=false):Sc X (.Compare a [op] [b] pos) (A1 (AW f ta tb)):=
 let ⟨_,p,s⟩:=ha;let ⟨_,g,h⟩:=hb;⟨_,Mf d.1 p g e,SD (SB d.2 s h)⟩
def CK {e:zr}(h:SE X e ta)(he:∀whole,isTrue e X.env whole=(do let v <-whole;standAt e.pos;holding [v] (truthy v)):=by intro _;rfl):Sc X e (A1 ta):=
 let ⟨_,p,s⟩:=h;⟨_,kR p he,SD s⟩
def Pu (t:AT):AT:=λτ Q=>t τ λc=>Q (!c)
def Fi (t u:AT):AT:=λτ Q=>t τ λc=>if c=true then u τ Q else Q false
def S7 (t u:AT):AT:=λτ Q=>t τ λc=>if c=true then Q true else u τ Q
def SV (ha:Sc X a tA):Sc X (.UnaryOp .Not a pos) (Pu tA):=by obtain⟨t,p,s⟩:=ha;exact⟨_,kQ p,λB T d τ H Q i e h k=>s B T d τ H _ _ e h λv f H1 g h1=>k _ f H1 g h1⟩
def Dq (ha:Sc X a tA):SW X (.BoolOp .And [a] pos) tA:=let ⟨_,p,s⟩:=ha;⟨_,gG p,s⟩
def LY (ha:Sc X a tA):SW X (.BoolOp .Or [a] pos) tA:=let ⟨_,p,s⟩:=ha;⟨_,kT p,s⟩
def Ev {rest:zy zr}(ha:Sc X a tA)(hb:SW X (.BoolOp .And (b::rest) pos) tB'):SW X (.BoolOp .And (a::b::rest) pos) (Fi tA tB'):=by
 obtain⟨t,p,s⟩:=ha;obtain⟨t',j,l⟩:=hb;refine⟨_,kS p j,λB T e τ H Q r f h k=>s B T e τ H _ _ f h λi g H1 d q=> ?_⟩;cases i with
 | true=>rw[AAE rfl] at q ⊢;exact l B g e τ H1 _ _ (f.stp d) q λb m n o h2=>k b m n (d.trans o) h2
 | false=>rw[AAD AAQ] at q ⊢;exact k _ g H1 d q
def QV {rest:zy zr}(ha:Sc X a tA)(hb:SW X (.BoolOp .Or (b::rest) pos) tB'):SW X (.BoolOp .Or (a::b::rest) pos) (S7 tA tB'):=by
 obtain⟨t,p,s⟩:=ha;obtain⟨t',j,l⟩:=hb;refine⟨_,oA p j,λB T e τ H Q r f h k=>s B T e τ H _ _ f h λi g H1 d q=> ?_⟩;cases i with
 | false=>rw[AAD AAQ] at q ⊢;exact l B g e τ H1 _ _ (f.stp d) q λb m n o h2=>k b m n (d.trans o) h2
 | true=>rw[AAE rfl] at q ⊢;exact k _ g H1 d q
def HR (h:SW X a tA):Sc X a tA:=let ⟨_,p,s⟩:=h;⟨_,p.pt,s⟩
def jE (t:AT)(ta tb:AE):AE:=λτ Q=>t τ λc=>if c=true then ta τ Q else tb τ Q
def Uc (hc:Sc X c tA)(ha:SE X a ta)(hb:SE X b tb):SE X (.IfExp c a b pos) (jE tA ta tb):=by
 obtain⟨t,p,s⟩:=hc;obtain⟨x,u,e⟩:=ha;obtain⟨z,v,f⟩:=hb;refine⟨_,bi p u v,λB T g τ H Q A j h k=>s B T g τ H _ _ j h λi r H1 d q=> ?_⟩;cases i with
 | true=>rw[AAE rfl] at q ⊢;exact e B r g τ H1 _ _ (j.stp d) q λw y l m n o h2=>k w y l m (d.trans n) o h2
 | false=>rw[AAD AAQ] at q ⊢;exact f B r g τ H1 _ _ (j.stp d) q λw y l m n o h2=>k w y l m (d.trans n) o h2
def AL:AA:=λ_ Q=>Q []
def AB (ta:AE)(r:AA):AA:=λτ Q=>ta τ λx=>r τ λxs=>Q (x::xs)
def Dp:SA X [] AL:=⟨_,FO,λB T e τ H Q f d h k=>k [] [] T H (.refl d.tp) .nil h⟩
def Ck {e:zr}{r:AA}(ha:SE X e ta)(j:SA X es r)(hs:starEach (e::es) X.env=(false,eval e X.env)::starEach es X.env:=by rfl):SA X (e::es) (AB ta r):=by obtain⟨t,p,s⟩:=ha;obtain⟨t',l,m⟩:=j;refine⟨_,CP p l hs,λB T g τ H Q z d h k=>s B T g τ H _ _ d h λv x n H1 f o h1=> ?_⟩;exact m B n g τ H1 _ _ (d.stp f) h1 λvs xs u w i y h2=>k _ _ u w (f.trans i) (.cons (o.stp i (d.stp f).va) y) h2
def BL (r:AA):AE:=λτ Q=>r τ λxs=>xs.length<=sizeLine/\Q (.tup xs)
def Ag {x1}{r:AA}(h:SA X es r):SE X (.Tuple es x1 pos) (BL r):=by obtain⟨t,p,s⟩:=h;refine⟨_,OF p,λB T g τ H Q j d h k=>s B T g τ H _ _ d h λvs xs i H1 e f h1=>⟨by rw[f.length];exact h1.1,λq hq=> ?_⟩⟩;have l:=DB.lay (o:= .tup vs) (d.stp e).tp hq;exact k _ _ i _ (e.trans l) (.tup (.inl Ad) (f.stp l (d.stp e).va)) h1.2
def DI (r:AA):AA:=λτ Q=>r τ λxs=>xs.length<=sizeLine/\Q xs
def Xb {K:AAB}{B:C3}{T:zu->Prop}{H:Hp}{d:L2.St}{τ:A6}{p:zu}{vs:zy V}{xs:zy PV}(f:SR K B T H d τ)(hq:H p=none)(r:Aw K T (mt B d τ) H vs xs):DB T H T (upd H p (.lst vs))/\SR K (B.add p) T (upd H p (.lst vs)) d τ/\¬T p/\Aw K T (mt (B.add p) d τ) (upd H p (.lst vs)) vs xs:=by
 have l:=DB.lay (o:= .lst vs) f.tp hq;have g:¬T p:=λz=>by obtain⟨o,e,_⟩:=(f.tp p z).mut;rw[hq] at e;cases e
 refine⟨l,f.add l hq Ad Kv.lst g,g,r.mv ⟨f.va,λb o t _ e=>l.keep b o t e,l.sub,λb n t=>t,λb n z=> ?_⟩⟩;rcases z with(z|z)|z
 .exact .inl z
 .subst z;exact absurd hq n
 .exact .inr z
def BJ {r:AA}(h:SA X es r):SF X (.List es pos) (DI r):=by obtain⟨t,p,s⟩:=h;refine⟨_,bj p,λB T i τ H Q o f h k=>s B T i τ H _ _ f h λvs xs j H1 d g h1=>⟨by rw[g.length];exact h1.1,λq hq=> ?_⟩⟩;obtain⟨l,e,m,n⟩:=Xb (f.stp d) hq g;exact k q vs xs j _ (d.trans l) e (d.none hq) Ad m n h1.2
def Ex (r:AA):AE:=λτ Q=>r τ λxs=>Q (.lst xs)
def cx {t:TE}{r:AA}(s:Zy X.K t r):GX X.K t (Ex r):=λB T g τ H Q w d h k=>s B T g τ H _ _ d h λp vs xs j H1 l f i hp n u h1=>by
 have v:¬Co g τ p:=λo=>by obtain⟨_,e,_⟩:=d.ownH o;rw[i] at e;cases e
 have hb:¬B.M p:=λo=>by obtain⟨_,e,_⟩:=d.bm p o;rw[i] at e;cases e
 exact k _ _ j H1 l (.lst hp n (λz=>z.elim hb v) (u.mv (.anti f.va λa m=>m.elim (λz=> .inl (.inl z)) .inr))) h1
def Cq {r:AA}(h:SF X a r):SE X a (Ex r):=let ⟨_,p,s⟩:=h;⟨_,p,cx s⟩
def Cc (K:AAB)(n:Nat)(F:AF):Sp:=λvs H Q _=>∃(T M:zu->Prop) (xs:zy PV) (e:PV->Prop),Gb T M H/\(∀a,M a->¬T a)/\Aw K T M H vs xs/\xs.length=n/\F xs e/\
 ∀v x f d,DB T H f d->CL K f M d v x->e x->Q v d
def AN (n:Nat)(F:AF)(r:AA):AE:=λτ Q=>r τ λxs=>xs.length=n/\F xs Q
def AK {x:Str}{p:Pos}{e:zr}{k n:Nat}{g:zy Str}{F:AF}{r:AA}(D:Has X.prog X.w X.K X.mg X.base k x g (Cc X.K n F))(i:Room k X.A)(j:Gl X x)(ha:SA X (e::es) r)(hs:starEach (e::es) X.env=(false,eval e X.env)::starEach es X.env:=by rfl)(hpl:(backTo pos (starEach es X.env)).any (·.1)=false:=by rfl)(hd:(x==("__debug__" :Str))=false:=by decide):SE X (.Call (.Name x p) (e::es) [] pos) (AN n F r):=by obtain⟨t,l,s⟩:=ha;refine⟨_,kH D i j l hs hpl hd,λB T o τ H Q u d h k=>s B T o τ H _ _ d h λvs xs y H1 f z h1=> ?_⟩;rw[ABP];exact⟨y,_,xs,u,(d.stp f).va,λa m=>(d.stp f).nt m,z,h1.1,h1.2,λv x C E G I q=>k v x C E (f.trans G) I q⟩
def FI (f:AF)(r:AA):AE:=λτ Q=>r τ λxs=>f xs Q
def cw {d:zy V->Hp->VK->Prop}{f:AF}{t:TA}{r:AA}(i:E4 X.K d f)(s:i9 X.K t r):GX X.K (rp d t) (FI f r):=λB T j τ H Q l e h k=>s B T j τ H _ _ e h λvs xs m H1 g n h1=>
 i m _ H1 vs xs Q l (e.stp g).va n h1 λw z o p u v q=>k w z o p (g.trans u) v q
def BU {id:String}{x:Str}{p:Pos}{e:zr}{d:zy V->Hp->VK->Prop}{f:AF}{r:AA}(hc:Cs X (.builtin id) d/\E4 X.K d f)(g:Gl X x)(h:X.mg x=none)(hv:bootBuiltins x=some (.builtin id))(ha:SA X (e::es) r)(i:x≠"__name__" :=by decide)(hdb:(x==("__debug__" :Str))=false:=by decide)(he:starEach (e::es) X.env=(false,eval e X.env)::starEach es X.env:=by rfl)(hpl:(backTo pos (starEach es X.env)).any (·.1)=false:=by rfl):SE X (.Call (.Name x p) (e::es) [] pos) (FI f r):=by obtain⟨t,j,s⟩:=ha;exact⟨_,KB hc.1 g h hv j i hdb he hpl,cw hc.2 s⟩
def BA {T:String}{x:Str}{p:Pos}{e:zr}{d:zy V->Hp->VK->Prop}{f:AF}{r:AA}(hc:Cs X (.type T) d/\E4 X.K d f)(g:Gl X x)(h:X.mg x=none)(hv:bootBuiltins x=some (.type T))(ha:SA X (e::es) r)(i:x≠"__name__" :=by decide)(hdb:(x==("__debug__" :Str))=false:=by decide)(he:starEach (e::es) X.env=(false,eval e X.env)::starEach es X.env:=by rfl)(hpl:(backTo pos (starEach es X.env)).any (·.1)=false:=by rfl):SE X (.Call (.Name x p) (e::es) [] pos) (FI f r):=by obtain⟨t,j,s⟩:=ha;exact⟨_,LH hc.1 g h hv j i hdb he hpl,cw hc.2 s⟩
end
section
variable {X:Cx}
def Eu {K:AAB}{T M:zu->Prop}{H:Hp}{v:V}{xs:zy PV}(r:CL K T M H v (.tup xs)):∃a vs,v= .ref a/\MG K H a vs/\Aw K T M H vs xs:=by
 cases r with
 | tup h r=>exact⟨_,_,rfl,h.sq,r⟩
def c4 {K:AAB}{T M:zu->Prop}{H:Hp}{v:V}{xs:zy PV}(r:CL K T M H v (.tup xs)):∃a vs,v= .ref a/\pE K H a vs/\Aw K T M H vs xs:=by
 cases r with
 | tup h r=>exact⟨_,_,rfl,h,r⟩
def DU {K:AAB}{T M:zu->Prop}{H:Hp}{v:V}{xs:zy PV}(r:CL K T M H v (.lst xs)):∃a vs,v= .ref a/\H a=some (.lst vs)/\¬T a/\¬M a/\Aw K T M H vs xs:=by
 cases r with
 | lst h t m r=>exact⟨_,_,rfl,h,t,m,r⟩
def cg {K:AAB}{T M:zu->Prop}{H:Hp}{v:V}{b:zy Int}(r:CL K T M H v (.scr b)):∃a,v= .ref a/\FH K H a (b.map V.int):=by
 cases r with
 | scr h=>
   rcases h with⟨h,_,_⟩|h
   .exact ⟨_,rfl, .inl h⟩
   .exact ⟨_,rfl,h H⟩
def ID:AF:=λxs Q=>match xs with | [.tup ys] =>Q (.int ys.length) | [.lst ys] =>Q (.int ys.length) | [.scr ns] =>Q (.int ns.length)|_=>False
def oG (K:AAB):zy V->Hp->VK->Prop:=λxs H Q=>∃p ys,xs= [.ref p] /\(FH K H p ys\/MG K H p ys)/\Q (.int ys.length) H
def FV:Cs X (.builtin "len") (oG X.K)/\E4 X.K (oG X.K) ID:=by
 refine⟨Jr,λT M H us xs Q b va r h k=> ?_⟩;unfold ID at h;split at h <;> first | exact h.elim|skip
 .rename_i ys;cases r with | cons r t=>cases t;obtain⟨a,vs,rfl,hq,r⟩:=Eu r;refine⟨a,vs,rfl, .inr hq, ?_⟩;rw[r.length];exact k _ _ T H (.refl va.tp) (.int _) h
 .rename_i ys;cases r with | cons r t=>cases t;obtain⟨a,vs,rfl,hq,_,_,r⟩:=DU r;refine⟨a,vs,rfl, .inl (.inl (.inl hq)), ?_⟩;rw[r.length];exact k _ _ T H (.refl va.tp) (.int _) h
 .rename_i c;cases r with | cons r t=>cases t;obtain⟨a,rfl,hq⟩:=cg r;refine⟨a,_,rfl, .inl hq, ?_⟩;rw[AAI];exact k _ _ T H (.refl va.tp) (.int _) h
def Yo:AF:=λxs Q=>match xs with | [.int i] =>Q (.int i.natAbs)|_=>False
def Rz:Cs X (.builtin "abs") (λxs H Q=>∃i,xs= [.int i] /\Q (.int (if i<0 then -i else i)) H)/\E4 X.K (λxs H Q=>∃i,xs= [.int i] /\Q (.int (if i<0 then -i else i)) H) Yo:=by
 refine⟨Nc,λT M H us xs Q a va r h k=> ?_⟩;unfold Yo at h;split at h <;> first | exact h.elim|skip
 rename_i i;cases r with
 | cons r t=> cases t;cases r;refine⟨i,rfl, ?_⟩;rw[show (if i<0 then -i else i)=(i.natAbs:Int) by split <;> omega];exact k _ _ T H (.refl va.tp) (.int _) h
def hZ (g:Int->Int->Int):AF:=λxs Q=>match xs with | [.int i, .int j] =>Q (.int (g i j))|_=>False
def cv {g g':Int->Int->Int}(a:∀i j,g i j=g' i j):E4 X.K (λxs H Q=>∃i j,xs= [.int i, .int j] /\Q (.int (g i j)) H) (hZ g'):=by
 intro T M H us xs Q c va r h k;unfold hZ at h;split at h <;> first | exact h.elim|skip
 rename_i i j;cases r with
 | cons r t=>
   cases t with
   | cons b t=> cases t;cases r;cases b;refine⟨i,j,rfl, ?_⟩;rw[a];exact k _ _ T H (.refl va.tp) (.int _) h
def kq (hc:X.calm=true):Cs X (.builtin "min") (λxs H Q=>∃i j,xs= [.int i, .int j] /\Q (.int (if j<i then j else i)) H)/\E4 X.K (λxs H Q=>∃i j,xs= [.int i, .int j] /\Q (.int (if j<i then j else i)) H) (hZ min):=
 ⟨Ye hc,cv λi j=>by split <;> omega⟩
def ca (hc:X.calm=true):Cs X (.builtin "max") (λxs H Q=>∃i j,xs= [.int i, .int j] /\Q (.int (if j>i then j else i)) H)/\E4 X.K (λxs H Q=>∃i j,xs= [.int i, .int j] /\Q (.int (if j>i then j else i)) H) (hZ max):=
 ⟨Yd hc,cv λi j=>by split <;> omega⟩
def aZ:AF:=λxs Q=>match xs with | [.int i] =>Q (.int i) | [.bl k] =>Q (.int (if k then 1 else 0))|_=>False
def cZ:Cs X (.type "int") (λxs H Q=>(∃i,xs= [.int i] /\Q (.int i) H)\/∃k,xs= [.bl k] /\Q (.int (if k then 1 else 0)) H)/\E4 X.K (λxs H Q=>(∃i,xs= [.int i] /\Q (.int i) H)\/∃k,xs= [.bl k] /\Q (.int (if k then 1 else 0)) H) aZ:=by
 refine⟨P2,λT M H us xs Q a va r h k=> ?_⟩;unfold aZ at h;split at h <;> first | exact h.elim|skip
 .cases r with | cons r t=>cases t;cases r;exact .inl ⟨_,rfl,k _ _ T H (.refl va.tp) (.int _) h⟩
 .cases r with | cons r t=>cases t;cases r;exact .inr ⟨_,rfl,k _ _ T H (.refl va.tp) (.int _) h⟩
def DS:AF:=λxs Q=>match xs with | [.tup ys] =>Q (.tup ys) | [.lst ys] =>Q (.tup ys)|_=>False
def cK (K:AAB):zy V->Hp->VK->Prop:=λxs H Q=>∃p ys,xs= [.ref p] /\((FH K H p ys/\∀l,H l=none->Q (.ref l) (upd H l (.tup ys)))\/(MG K H p ys/\Q (.ref p) H))
def Ca:Cs X (.type "tuple") (cK X.K)/\E4 X.K (cK X.K) DS:=by
 refine⟨O9,λT M H us xs Q c va r h k=> ?_⟩;unfold DS at h;split at h <;> first | exact h.elim|skip
 .cases r with | cons r t=>cases t;obtain⟨a,vs,rfl,hq,b⟩:=c4 r;exact⟨a,vs,rfl, .inr ⟨hq.sq,k _ _ T H (.refl va.tp) (.tup hq b) h⟩⟩
 .cases r with
  | cons r t=> cases t;obtain⟨a,vs,rfl,hq,_,_,b⟩:=DU r;refine⟨a,vs,rfl, .inl ⟨.inl (.inl hq),λl hl=> ?_⟩⟩;have s:=DB.lay (o:= .tup vs) va.tp hl;exact k _ _ T _ s (.tup (.inl Ad) (b.stp s va)) h
def Jp:zy PV->zt (zy zq)
 | [] =>some []
 | .bl b::r=>(Jp r).map (b :: ·)
 | _=>none
theorem W6 {K:AAB}{T M:zu->Prop}{H:Hp}:∀{vs:zy V} {xs:zy PV} {bs:zy zq},Aw K T M H vs xs->Jp xs=some bs->vs=bs.map V.bl
 | _,_,_, .nil,e=>by simp[Jp] at e;subst e;rfl
 | _,_,bs, .cons h t,e=>by cases h <;> simp[Jp] at e;obtain⟨c,a,b⟩:=e;subst b;simp[W6 t a]
def VU (g:zy zq->zq):AF:=λxs Q=>match xs with | [.lst ys] =>(match Jp ys with | some bs=>Q (.bl (g bs))|none=>False)|_=>False
def X4 {g:zy zq->zq}:E4 X.K (WB X.K g) (VU g):=by
 intro T M H us xs Q c va r h k;unfold VU at h;split at h <;> first | exact h.elim|skip
 split at h <;> first | exact h.elim|skip
 rename_i bs e;cases r with
 | cons r t=> cases t;obtain⟨a,d,rfl,hq,_,_,b⟩:=DU r;have:=W6 b e;subst this;exact⟨a,bs,rfl, .inl (.inl hq),k _ _ T H (.refl va.tp) (.bl _) h⟩
def kh (hc:X.calm=true):Cs X (.builtin "all") (WB X.K λbs=>bs.all id)/\E4 X.K (WB X.K λbs=>bs.all id) (VU λbs=>bs.all id):=⟨Yb hc,X4⟩
def ko (hc:X.calm=true):Cs X (.builtin "any") (WB X.K λbs=>bs.any id)/\E4 X.K (WB X.K λbs=>bs.any id) (VU λbs=>bs.any id):=⟨Yc hc,X4⟩
def cf:PV->PV->zt zq
 | .non, .non=>some true | .non, .int _=>some false | .int _, .non=>some false | .non, .bl _=>some false | .bl _, .non=>some false | .non, .str _=>some false | .str _, .non=>some false
 | .int i, .int j=>some (decide (i=j)) | .bl i, .bl j=>some (decide (i=j)) | .str i, .str j=>some (decide (i=j))
 | .int _, .str _=>some false | .str _, .int _=>some false | .bl _, .str _=>some false | .str _, .bl _=>some false
 | _,_=>none
def Ua {K:AAB}{T M:zu->Prop}{H:Hp}{u v:V}{x y:PV}{b:zq}(r:CL K T M H u x)(a:CL K T M H v y)(e:cf x y=some b):kr u v=true/\decide (u=v)=b:=by cases r <;> cases a <;> first | (cases e;done)|(cases e;exact⟨rfl,rfl⟩)|(cases e;exact⟨rfl,by simp⟩)
def gw:PV->zt zq
 | .non=>some false | .bl b=>some b | .int i=>some (i != 0) | .tup xs=>some (!xs.isEmpty) | .lst xs=>some (!xs.isEmpty)|_=>none
def jG (a:AE):AT:=λτ Q=>a τ λx=>match gw x with | some b=>Q b|none=>False
def J0 {K:AAB}{T M:zu->Prop}{H:Hp}{vs:zy V}{xs:zy PV}(r:Aw K T M H vs xs):vs.isEmpty=xs.isEmpty:=by cases r <;> rfl
def lJ {a:zr}{d:AE}(ha:SE X a d)(he:∀whole,isTrue a X.env whole=(do let v <-whole;standAt a.pos;holding [v] (truthy v)):=by intro _;rfl):Sc X a (jG d):=by
 obtain⟨t,p,s⟩:=ha;refine⟨_,cG p he,λB T f τ H Q m g h k=>s B T f τ H _ _ g h λv x i H1 j l h1=> ?_⟩;cases e:gw x with
 | none=>rw[e] at h1;exact h1.elim
 | some b=>
   rw[e] at h1;refine⟨b, ?_,k b i H1 j h1⟩;cases l <;> simp[gw] at e
   .exact e
   .exact e.symm
   .exact e.symm
   .rename_i hq c;exact .inr (.inl ⟨_,hq.sq,by rw[J0 c,e];simp⟩)
   .rename_i hq _ _ c;exact .inl ⟨_, .inl (.inl hq),by rw[J0 c,e];simp⟩
end
structure Gd where
 nx:A6->Prop
 rt:PV->Prop
 bk:A6->Prop
 ct:A6->Prop
abbrev AS:=Gd->A6->Prop
structure FG (T:Addr->Prop) (H:Hp) (σ:L2.St) (τ:A6) (T':Addr->Prop) (H':Hp) (σ':L2.St) (τ':A6):Prop where
 keep:∀b o,¬T b->¬Co σ τ b->H b=some o->H' b=some o
 sub:∀b,T b->T' b
 new:∀b,T' b->T b\/H b=none
 own:∀b,Co σ' τ' b->Co σ τ b\/H b=none
 some:∀b,H b≠none->H' b≠none
section
variable {K:AAB}{B:C3}{T T' T1 T2:zu->Prop}{H H' H1 H2:Hp}{σ σ' σ1 σ2:L2.St}{τ τ' τ1 τ2:A6}
def FG.refl:FG T H σ τ T H σ τ:=⟨λ_ _ _ _ e=>e,λ_ t=>t,λ_ t=> .inl t,λ_ o=> .inl o,λ_ h=>h⟩
def FG.trans (a:FG T H σ τ T1 H1 σ1 τ1)(b:FG T1 H1 σ1 τ1 T2 H2 σ2 τ2):FG T H σ τ T2 H2 σ2 τ2 where
 keep:=λc o t w e=>b.keep c o (λz=>(a.new c z).elim t λn=>by rw[n] at e;cases e) (λz=>(a.own c z).elim w λn=>by rw[n] at e;cases e) (a.keep c o t w e)
 sub:=λc t=>b.sub c (a.sub c t)
 new:=λc t=>(b.new c t).elim (λz=>a.new c z) λz=> .inr (by
  cases e:H c with
  | none=>rfl
  | some o=>exact absurd z (a.some c (by rw[e];exact λe=>nomatch e)))
 own:=λc t=>(b.own c t).elim (λz=>a.own c z) λz=> .inr (by
  cases e:H c with
  | none=>rfl
  | some o=>exact absurd z (a.some c (by rw[e];exact λe=>nomatch e)))
 some:=λc h=>b.some c (a.some c h)
def DB.prog (s:DB T H T' H'):FG T H σ τ T' H' σ τ:=⟨λb o t _ e=>s.keep b o t e,s.sub,s.new,λ_ o=> .inl o,λ_ h=>s.some h⟩
def FG.less (h:∀b,Co σ' τ' b->Co σ τ b):FG T H σ τ T H σ' τ':=⟨λ_ _ _ _ e=>e,λ_ t=>t,λ_ t=> .inl t,λb o=> .inl (h b o),λ_ h=>h⟩
structure ER (K:AAB) (B:C3) (T:Addr->Prop) (H:Hp) (σ:L2.St) (τ:A6) (D:ME) (AD:Gd):Prop where
 nx:∀T' H' σ' τ',FG T H σ τ T' H' σ' τ'->SR K B T' H' σ' τ'->AD.nx τ'->D.nx σ' H'
 bk:∀T' H' σ' τ',FG T H σ τ T' H' σ' τ'->SR K B T' H' σ' τ'->AD.bk τ'->D.bk σ' H'
 ct:∀T' H' σ' τ',FG T H σ τ T' H' σ' τ'->SR K B T' H' σ' τ'->AD.ct τ'->D.ct σ' H'
 rt:∀v x T' H',DB B.T B.H T' H'->CL K T' B.M H' v x->AD.rt x->D.rt v H'
def ER.shift {D:ME}{a:Gd}(e:ER K B T H σ τ D a)(p:FG T H σ τ T1 H1 σ1 τ1):ER K B T1 H1 σ1 τ1 D a:=
 ⟨λ_ _ _ _ q=>e.nx _ _ _ _ (p.trans q),λ_ _ _ _ q=>e.bk _ _ _ _ (p.trans q),λ_ _ _ _ q=>e.ct _ _ _ _ (p.trans q),e.rt⟩
end
def Zz (K:AAB)(t:TS)(a:AS):Prop:=∀(B:C3) (T:zu->Prop) (b:L2.St) (τ:A6) (H:Hp) (D:ME) (c:Gd),SR K B T H b τ->a c τ->ER K B T H b τ D c->t D b H
def SS (X:Cx)(st:Stmt)(a:AS):Prop:=∃t,PS X st t/\Zz X.K t a
def Zd (X:Cx)(st:zy Stmt)(a:AS):Prop:=∃t,Um X st t/\Zz X.K t a
def BR {a:Type}{l:zy a}{i j:Nat}{x y:a}(h:(l.set i x)[j]? =some y):(j=i/\y=x/\i<l.length)\/(j≠i/\l[j]? =some y):=by
 by_cases e:j=i
 .subst e;rw[ACt] at h;simp at h;obtain⟨h1,h2⟩:=h;exact .inl ⟨rfl,h2.symm,h1⟩
 .rw [AAa (λz=>e z.symm)] at h;exact .inr ⟨e,h⟩
section
variable {K:AAB}{B:C3}{T:zu->Prop}{H:Hp}{σ:L2.St}{τ:A6}
def Cz {i:Nat}{v:V}{x:PV}{b:zu}(h:Co (σ.set i (some v)) (τ.set i (some (.val x))) b):Co σ τ b:=by
 obtain⟨j,xs,h1,h2⟩:=h;rcases BR h1 with⟨_,e,_⟩|⟨n,a⟩
 .cases e
 .rw [AAa (λz=>n z.symm)] at h2;exact⟨j,xs,a,h2⟩
def SR.set {i:Nat}{v:V}{x:PV}(s:SR K B T H σ τ)(r:CL K T (mt B σ τ) H v x):SR K B T H (σ.set i (some v)) (τ.set i (some (.val x))):=by
 have c:Mv K T (mt B σ τ) H T (mt B (σ.set i (some v)) (τ.set i (some (.val x)))) H:= .anti s.va λa m=>m.elim .inl λz=> .inr (Cz z);refine⟨by simp[s.len],λj y e=> ?_,λj ys e=> ?_,λj k ys o p t u h l=> ?_,s.tp,s.bm,s.bt,s.st⟩
 .rcases BR e with⟨rfl,b,hl⟩|⟨n,b⟩
  .cases b;refine⟨v,by rw[ACt];simp[s.len,hl],r.mv c⟩
  .obtain ⟨w,hw,d⟩:=s.val j y b;exact⟨w,by rw[AAa (λz=>n z.symm)];exact hw,d.mv c⟩
 .rcases BR e with⟨_,b,_⟩|⟨n,b⟩
  .cases b
  .obtain ⟨p,vs,h1,h2,A,C⟩:=s.own j ys b;exact⟨p,vs,by rw[AAa (λz=>n z.symm)];exact h1,h2,A.mv c,C⟩
 .rcases BR t with⟨_,b,_⟩|⟨n,f⟩
  .cases b
  .rcases BR u with⟨_,b,_⟩|⟨D,g⟩
   .cases b
   .rw [AAa (λz=>n z.symm)] at h;rw[AAa (λz=>D z.symm)] at l;exact s.dist j k ys o p f g h l
def Lp {i:Nat}{p:zu}{xs:zy PV}{b:zu}(h:Co (σ.set i (some (.ref p))) (τ.set i (some (.own xs))) b):Co σ τ b\/b=p:=by
 obtain⟨j,ys,h1,h2⟩:=h;rcases BR h1 with⟨rfl,e,_⟩|⟨n,a⟩
 .rcases BR h2 with⟨_,c,_⟩|⟨n,_⟩
  .cases c;exact .inr rfl
  .exact absurd rfl n
 .rw [AAa (λz=>n z.symm)] at h2;exact .inl ⟨j,ys,a,h2⟩
def SR.take {i:Nat}{p:zu}{vs:zy V}{xs:zy PV}(s:SR K (B.add p) T H σ τ)(hp:H p=some (.lst vs))(C:¬T p)(u:¬Co σ τ p)(D:¬B.M p)(E:B.H p=none)(r:Aw K T (mt (B.add p) σ τ) H vs xs):SR K B T H (σ.set i (some (.ref p))) (τ.set i (some (.own xs))):=by
 have h:Mv K T (mt (B.add p) σ τ) H T (mt B (σ.set i (some (.ref p))) (τ.set i (some (.own xs)))) H:= .anti s.va λa m=>by
  rcases m with m|m
  .exact .inl (.inl m)
  .rcases Lp m with z|z
   .exact .inr z
   .exact .inl (.inr z)
 refine⟨by simp[s.len],λj y e=> ?_,λj ys e=> ?_,λj k ys v q F x g d=> ?_,s.tp,λa m=>s.bm a (.inl m),λa m=>s.bt a (.inl m),s.st⟩
 .rcases BR e with⟨_,b,_⟩|⟨n,b⟩
  .cases b
  .obtain ⟨w,hw,l⟩:=s.val j y b;exact⟨w,by rw[AAa (λz=>n z.symm)];exact hw,l.mv h⟩
 .rcases BR e with⟨rfl,b,hl⟩|⟨n,b⟩
  .cases b;exact⟨p,vs,by rw[ACt];simp[s.len,hl],hp,r.mv h,E,C,D⟩
  .obtain ⟨q,G,h1,h2,I,J,L,N⟩:=s.own j ys b;exact⟨q,G,by rw[AAa (λz=>n z.symm)];exact h1,h2,I.mv h,J,L,λz=>N (.inl z)⟩
 .rcases BR F with⟨A,_,_⟩|⟨n,f⟩
  .rcases BR x with⟨o,_,_⟩|⟨t,c⟩
   .rw [A,o]
   .subst A;rw[AAa (λz=>t z.symm)] at d;rcases BR g with⟨_,b,_⟩|⟨n,_⟩
    .cases b;exact absurd ⟨k,v,c,d⟩ u
    .exact absurd rfl n
  .rw [AAa (λz=>n z.symm)] at g;rcases BR x with⟨o,_,_⟩|⟨t,c⟩
   .subst o;rcases BR d with⟨_,b,_⟩|⟨n,_⟩
    .cases b;exact absurd ⟨j,ys,f,g⟩ u
    .exact absurd rfl n
   .rw [AAa (λz=>t z.symm)] at d;exact s.dist j k ys v q f c g d
def SR.write {i:Nat}{p:zu}{M vs:zy V}{xs ys:zy PV}(s:SR K B T H σ τ)(g:τ[i]? =some (some (.own xs)))(hs:σ[i]? =some (some (.ref p)))(hp:H p=some (.lst M))(r:Aw K T (mt B σ τ) H vs ys):SR K B T (upd H p (.lst vs)) σ (τ.set i (some (.own ys)))/\FG T H σ τ T (upd H p (.lst vs)) σ (τ.set i (some (.own ys))):=by
 obtain⟨Q,N,G,R,S,I,D,J⟩:=s.own i xs g;rw[hs] at G;cases G;have U:σ.set i (some (.ref p))=σ:=by
  apply List.ext_getElem?;intro k;by_cases hk:i=k
  .subst hk;rw[ACt,hs];simp[(AAx.mp hs).1]
  .rw [AAa hk]
 have l:Co σ τ p:=⟨i,xs,g,hs⟩;have L:∀b,Co σ (τ.set i (some (.own ys))) b->Co σ τ b:=λb h=>by
  obtain⟨j,f,h1,h2⟩:=h;rcases BR h1 with⟨rfl,e,_⟩|⟨n,C⟩
  .exact ⟨j,xs,g,h2⟩
  .exact ⟨j,f,C,h2⟩
 have E:Mv K T (mt B σ τ) H T (mt B σ (τ.set i (some (.own ys)))) (upd H p (.lst vs)):=⟨s.va,λb o _ m e=>by
  rw[Aa (λz=>m (by subst z;exact .inr l))];exact e,λ_ t=>t,λ_ _ t=>t,λb _ m=>m.elim .inl λz=> .inr (L b z)⟩
 refine⟨⟨by simp[s.len],λj y e=> ?_,λj f e=> ?_,λj k f us q h1 h2 u A=> ?_,λa t=> ?_,λa m=> ?_,s.bt, ?_⟩,⟨λb o t w e=>by rw[Aa (λz=>w (by subst z;exact l))];exact e,λ_ t=>t,λ_ t=> .inl t,λb o=> .inl (L b o),λb h=> ?_⟩⟩
 .rcases BR e with⟨_,c,_⟩|⟨n,c⟩
  .cases c
  .obtain ⟨v,h,O⟩:=s.val j y c;exact⟨v,h,O.mv E⟩
 .rcases BR e with⟨rfl,c,_⟩|⟨n,c⟩
  .cases c;exact⟨p,vs,hs,Ad,r.mv E,I,D,J⟩
  .obtain ⟨q,us,h1,h2,u,A⟩:=s.own j f c;have hq:q≠p:=λz=>by subst z;exact n (s.dist j i f xs q c g h1 hs)
   exact⟨q,us,h1,by rw[Aa hq];exact h2,u.mv E,A⟩
 .rcases BR h1 with⟨rfl,_,_⟩|⟨n,C⟩
  .rcases BR h2 with⟨rfl,_,_⟩|⟨P,F⟩
   .rfl
   .exact s.dist _ k xs us q g F u A
  .rcases BR h2 with⟨rfl,_,_⟩|⟨P,F⟩
   .exact s.dist j _ f xs q C g u A
   .exact s.dist j k f us q C F u A
 .obtain ⟨d,x,e,z⟩:=s.tp a t;exact⟨d,x,by rw[Aa (λw=>by subst w;exact D t)];exact e,z⟩
 .obtain ⟨o,e,z⟩:=s.bm a m;exact⟨o,by rw[Aa (λw=>by subst w;exact J m)];exact e,z⟩
 .refine ⟨λb o t e=> ?_,s.st.sub,s.st.new,λa t=> ?_⟩
  .rw [Aa (λw=>by subst w;rw[I] at e;cases e)];exact s.st.keep b o t e
  .obtain ⟨d,x,e,z⟩:=s.tp a t;exact⟨d,x,by rw[Aa (λw=>by subst w;exact D t)];exact e,z⟩
 .by_cases z:b=p
  .subst z;rw[Ad];exact λe=>nomatch e
  .rw [Aa z];exact h
end
section
variable {X:Cx}{st:Stmt}{rest:zy Stmt}{e:zr}{pos:Pos}{a b:AS}{ta:AE}
def S5 (ta:AE):AE:=λτ Q=>ta (frz τ) λx=>Xg x=true/\Q x
def OU (h:SE X e ta):SE X e (S5 ta):=by obtain⟨t,p,s⟩:=h;refine⟨t,p,λB T c τ H Q j d h k=>s B T c (frz τ) H _ _ d.frz h λv x f H1 g i h1=> ?_⟩;exact k v x f H1 g (i.free h1.1) h1.2
def S6 (c:AT):AT:=λτ Q=>c (frz τ) Q
def c9 {c:AT}(h:Sc X e c):Sc X e (S6 c):=by obtain⟨t,p,s⟩:=h;exact⟨t,p,λB T d τ H Q j f h k=>s B T d (frz τ) H _ _ f.frz h λb g H1 i h1=>k b g H1 i h1⟩
def BZ:AS:=λD τ=>D.nx τ
def AY (a b:AS):AS:=λD τ=>a {D with nx:=b D} τ
def A5:Zd X [] BZ:=⟨_,Me,λB T c τ H D g d h f=>f.nx T H c τ .refl d h⟩
def AM (h1:SS X st a)(h2:Zd X rest b):Zd X (st::rest) (AY a b):=by obtain⟨t,p,s⟩:=h1;obtain⟨t',f,g⟩:=h2;exact⟨_,Bi p f,λB T i τ H D j k h c=>s B T i τ H _ _ k h ⟨λl m σ' τ' q d h'=>g B l σ' τ' m D j d h' (c.shift q),c.bk,c.ct,c.rt⟩⟩
def AR (h1:SS X st a):Zd X [st] a:=let ⟨_,p,s⟩:=h1;⟨_,ES p,s⟩
def Ar (ta:AE):AS:=λD τ=>ta (frz τ) D.rt
def AX (h:SE X e ta):SS X (.Return (some e) pos) (Ar ta):=by obtain⟨t,p,s⟩:=h;refine⟨_,OI p,λB T f τ H D k c h g=>s B T f (frz τ) H _ _ c.frz h λv x i H1 d j h1=> ?_⟩;exact g.rt v x i H1 (c.st.trans d) (j.mv (.anti (c.frz.stp d).va λa m=> .inl m)) h1
def CZ (c:AT)(a b:AS):AS:=λD τ=>c τ λk=>if k=true then a D τ else b D τ
def BY {c:zr}{x y:zy Stmt}{l:AT}(hc:Sc X c l)(ha:Zd X x a)(hb:Zd X y b):SS X (.If c x y pos) (CZ l a b):=by
 obtain⟨t,p,s⟩:=hc;obtain⟨v,r,f⟩:=ha;obtain⟨w,u,g⟩:=hb;refine⟨_,Xo p r u,λB T i τ H D m j h n=>s B T i τ H _ _ j h λk o H1 d h1=> ?_⟩;cases k with
 | true=>rw[AAE rfl] at h1 ⊢;exact f B o i τ H1 D m (j.stp d) h1 (n.shift d.prog)
 | false=>rw[AAD AAQ] at h1 ⊢;exact g B o i τ H1 D m (j.stp d) h1 (n.shift d.prog)
abbrev AG:=PV->A6->(A6->Prop)->Prop
abbrev Up:=zy PV->A6->(A6->Prop)->Prop
def Ky (K:AAB)(g:TG)(ag:AG):Prop:=∀(B:C3) (T:zu->Prop) (c:L2.St) (τ:A6) (H:Hp) (v:V) (x:PV) (Q:L2.St->Hp->Prop) (d:A6->Prop),SR K B T H c τ->CL K T (mt B c τ) H v x->ag x τ d->
 (∀σ' τ',SR K B T H σ' τ'->(∀b,Co σ' τ' b->Co c τ b)->d τ'->Q σ' H)->g v c H Q
def Pt (K:AAB)(g:VA)(ag:Up):Prop:=∀(B:C3) (T:zu->Prop) (c:L2.St) (τ:A6) (H:Hp) (vs:zy V) (xs:zy PV) (Q:L2.St->Hp->Prop) (d:A6->Prop),SR K B T H c τ->Aw K T (mt B c τ) H vs xs->ag xs τ d->
 (∀σ' τ',SR K B T H σ' τ'->(∀b,Co σ' τ' b->Co c τ b)->d τ'->Q σ' H)->g vs c H Q
def SG (X:Cx)(c:zr)(ag:AG):Prop:=∃g,PG X c g/\Ky X.K g ag
def pC (X:Cx)(c:zy zr)(ag:Up):Prop:=∃g,lc X c g/\Pt X.K g ag
def An (i:Nat):AG:=λx τ Q=>Q (τ.set i (some (.val x)))
def R8 {K:AAB}{i:Nat}:Ky K (Bh i) (An i):=λB T d τ H v x Q f c r h k=>k _ _ (c.set r) (λb o=>Cz o) h
def R4 {i:Nat}{x:Str}(hN:X.N.Nodup)(hi:X.N[i]? =some x)(hx:Loc X.env.scope x)(c:X.fn x=true\/X.env.scope.names.lookup x=some .local:=by first | exact .inl rfl|exact .inr rfl|assumption):SG X (.Name x pos) (An i):=
 ⟨_,EQ hN hi hx c,R8⟩
def Bz:Up:=λxs τ Q=>match xs with | [] =>Q τ|_=>False
def Ab (g:AG)(r:Up):Up:=λxs τ Q=>match xs with | x::t=>g x τ λτ'=>r t τ' Q | [] =>False
def Ue {K:AAB}:Pt K MJ Bz:=λB T c τ H vs xs Q f d r h k=>by
 cases r with
 | nil=>exact⟨rfl,k c τ d (λ_ o=>o) h⟩
 | cons _ _=>exact h.elim
def QP {K:AAB}{g:TG}{gs:VA}{ag:AG}{c:Up}(h1:Ky K g ag)(h2:Pt K gs c):Pt K (C8 g gs) (Ab ag c):=λB T u τ H vs xs Q v p r h k=>by
 cases r with
 | nil=>exact h.elim
 | cons r t=> refine⟨_,_,rfl,h1 B T u τ H _ _ _ _ p r h λd f i s w=> ?_⟩;exact h2 B T d f H _ _ Q v i (t.mv (.anti p.va λa m=>m.elim .inl λz=> .inr (s a z))) w λj l n x y=>k j l n (λb o=>s b (x b o)) y
def Bx:pC X [] Bz:=⟨_,KC,Ue⟩
def Ae {es:zy zr}{ag:AG}{c:Up}(h1:SG X e ag)(h2:pC X es c)(hs:(assignEach (e::es) X.env).map (·.2)=assign e X.env::(assignEach es X.env).map (·.2):=by rfl):pC X (e::es) (Ab ag c):=
 let ⟨_,p,s⟩:=h1;let ⟨_,d,f⟩:=h2;⟨_,Dn p d hs,QP s f⟩
def Aj (ta:AE)(g:AG):AS:=λD τ=>ta τ λx=>g x τ D.nx
def R7 {K:AAB}{t:TE}{g:TG}{ag:AG}(s:GX K t ta)(m:Ky K g ag):Zz K (Pj t g) (Aj ta ag):=λB T i τ H D u j h n=>s B T i τ H _ _ j h λv x k H1 l o h1=>
 m B k i τ H1 v x _ _ (j.stp l) o h1 λc d f p r=>n.nx k H1 c d (l.prog.trans (.less p)) f r
def SU {c:zr}{ag:AG}(he:SE X e ta)(d:SG X c ag)(hs:swapsWithSole [c] e pos.line X.env=pure false:=by rfl)(hw:swappedStores [c] e X.env=pure none:=by rfl)(h1:(assignEach [c] X.env).map (·.2)= [assign c X.env] :=by rfl):SS X (.Assign [c] e pos) (Aj ta ag):=
 let ⟨_,p,s⟩:=he;let ⟨_,f,g⟩:=d;⟨_,Rf p f hs hw h1,R7 s g⟩
def GJ {i:Nat}{x:Str}{pos':Pos}(hN:X.N.Nodup)(hi:X.N[i]? =some x)(hx:Loc X.env.scope x)(he:SE X e ta)(hs:swapsWith e (some (.Name x pos')) pos.line X.env=pure false:=by rfl)(c:X.fn x=true\/X.env.scope.names.lookup x=some .local:=by first | exact .inl rfl|exact .inr rfl|assumption):SS X (.Assign [.Name x pos'] e pos) (Aj ta (An i)):=let ⟨_,p,s⟩:=he;⟨_,FQ hN hi hx p hs c,R7 s R8⟩
def GY (r:AA)(i:Nat):AS:=λD τ=>r τ λxs=>D.nx (τ.set i (some (.own xs)))
def X6 {K:AAB}{t:TE}{r:AA}{i:Nat}(s:Zy K t r):Zz K (Pj t (Bh i)) (GY r i):=λB T j τ H D w c h k=>s B T j τ H _ _ c h λp vs xs l H1 d g f hp m n h1=>by
 have u:¬Co j τ p:=λo=>by obtain⟨_,e,_⟩:=c.ownH o;rw[f] at e;cases e
 have v:¬B.M p:=λo=>by obtain⟨_,e,_⟩:=c.bm p o;rw[f] at e;cases e
 refine k.nx l H1 _ _ ⟨λb o t _ e=>d.keep b o t e,d.sub,d.new,λb o=> ?_,λb h=>d.some h⟩ (g.take hp m u v (c.st.none f) n) h1;rcases Lp o with z|z
 .exact .inl z
 .subst z;exact .inr f
def D7 {i:Nat}{x:Str}{pos':Pos}{r:AA}(hN:X.N.Nodup)(hi:X.N[i]? =some x)(hx:Loc X.env.scope x)(he:SF X e r)(hs:swapsWith e (some (.Name x pos')) pos.line X.env=pure false:=by rfl)(c:X.fn x=true\/X.env.scope.names.lookup x=some .local:=by first | exact .inl rfl|exact .inr rfl|assumption):SS X (.Assign [.Name x pos'] e pos) (GY r i):=let ⟨_,p,s⟩:=he;⟨_,FQ hN hi hx p hs c,X6 s⟩
def YX (i j:Nat)(r:AA):AS:=λD τ=>r τ λxs=>match xs with | [x,y] =>D.nx ((τ.set i (some (.val x))).set j (some (.val y)))|_=>False
def WU {i j:Nat}{x y:Str}{c d:zr}{r:AA}{g k l:Pos}{kt k2 pt2}(hc:X.calm=true)(hN:X.N.Nodup)(hi:X.N[i]? =some x)(hj:X.N[j]? =some y)(v:i≠j)(hx:X.env.scope.names.lookup x=some .local)(hy:X.env.scope.names.lookup y=some .local)(ha:SA X [c,d] r)(hw:swappedStores [.Tuple [.Name x g, .Name y k] kt l] (.Tuple [c,d] k2 pt2) X.env=pure (some [x,y]))(hs:swapsWithSole [.Tuple [.Name x g, .Name y k] kt l] (.Tuple [c,d] k2 pt2) pos.line X.env=pure false:=by rfl):SS X (.Assign [.Tuple [.Name x g, .Name y k] kt l] (.Tuple [c,d] k2 pt2) pos) (YX i j r):=by
 obtain⟨t,p,s⟩:=ha;refine⟨_,kO hc hN hi hj v hx hy p hw hs,λB T w τ H D I n h A=>s B T w τ H _ _ n h λvs xs C H1 u E h1=> ?_⟩;cases E with
 | nil=>exact h1.elim
 | cons ra ta=>
   cases ta with
   | nil=>exact h1.elim
   | cons F G=>
     cases G with
     | cons _ _=>exact h1.elim
     | nil=> have f:=n.stp u;refine⟨_,_,rfl,A.nx C H1 _ _ ?_ ((f.set (i:=i) ra).set (i:=j) (F.mv (.anti f.va λa m=>m.elim .inl λz=> .inr (Cz z)))) h1⟩;exact u.prog.trans (.less λb o=>Cz (Cz o))
def VC (i:Nat)(f:JT)(ta:AE):AS:=λD τ=>match Sd τ i with | some (.val x)=>ta τ λy=>f x y λz=>D.nx (τ.set i (some (.val z)))|_=>False
def c5 {i:Nat}{x:Str}{op:Operator}{g:mT}{f:JT}{pos':Pos}(hN:X.N.Nodup)(hi:X.N[i]? =some x)(hx:Loc X.env.scope x)(he:SE X e ta)(j:lf X op g/\CW X.K g f)(l:X.fn x=true\/X.env.scope.names.lookup x=some .local:=by first | exact .inl rfl|exact .inr rfl|assumption):SS X (.AugAssign (.Name x pos') op e pos) (VC i f ta):=by
 obtain⟨t,p,s⟩:=he;refine⟨_,kN hN hi hx p j.1 l,λB T m τ H D I c h n=> ?_⟩;unfold VC at h;split at h <;> first | exact h.elim|skip
 rename_i y r;obtain⟨v,ev,rv⟩:=c.val i y (N6 r);refine⟨v,ev,s B T m τ H _ _ c h λw z A H1 d C h1=> ?_⟩;refine j.2 A _ H1 v w y z _ _ (c.stp d).va (rv.stp d c.va) C h1 λu q E F k G h2=> ?_;exact n.nx E F _ _ ((d.trans k).prog.trans (.less λb o=>Cz o)) (((c.stp d).stp k).set G) h2
def lB:lf X .Add (rH λi j=>i+j)/\CW X.K (rH λi j=>i+j) ma:=⟨jj,λT M H u v x y Q d va c rv h k=>by
 obtain⟨i,j,rfl,rfl,q⟩:=Md h;exact⟨i,j,c.toI,rv.toI,k _ _ T H (.refl va.tp) (.int _) q⟩⟩
def MH (i:Nat)(τ:A6)(R:zy PV->Prop):Prop:=match Sd τ i with | some (.own xs)=>R xs|_=>False
def Wz {i:Nat}{τ:A6}{R:zy PV->Prop}(h:MH i τ R):∃xs,τ[i]? =some (some (.own xs))/\R xs:=by
 unfold MH at h;cases e:Sd τ i with
 | none=>rw[e] at h;exact h.elim
 | some z=>
   rw[e] at h;cases z with
   | val x=>exact h.elim
   | own xs=>exact⟨xs,N6 e,h⟩
abbrev i7:=zy PV->zy PV->(zy PV->Prop)->Prop
def d5 (K:AAB)(r:V->zy V->Hp->VK->Prop)(f:i7):Prop:=∀(T M:zu->Prop) (H:Hp) (l:zu) (g vs:zy V) (xs ys:zy PV) (Q:VK) (h:zy PV->Prop),H l=some (.lst g)->Aw K T M H g xs->Aw K T M H vs ys->f xs ys h->
 (∀c d,Aw K T M H c d->h d->Q .non (upd H l (.lst c)))->r (.ref l) vs H Q
def DX (i:Nat)(f:i7)(r:AA):AS:=λD τ=>MH i τ λxs=>r τ λys=>f xs ys λc=>D.nx (τ.set i (some (.own c)))
def cz {K:AAB}{i:Nat}{l:V->zy V->Hp->VK->Prop}{f:i7}{t:TA}{r:AA}(v:d5 K l f)(s:i9 K t r):Zz K (iZ (uZ K "list" l (DN i) t)) (DX i f r):=λB T m τ H D E d h w=>by obtain⟨xs,e,h⟩:=Wz h;obtain⟨p,vs,n,hp,x,F,o,G⟩:=d.own i xs e;refine⟨.ref p,n, .inl ⟨rfl,vs, .inl (.inl hp)⟩,s B T m τ H _ _ d h λus ys u H1 c y h2=> ?_⟩;have g:=d.stp c;refine v u (mt B m τ) H1 p vs us xs ys _ _ (c.keep _ _ o hp) (x.stp c d.va) y h2 λz I A C=> ?_;obtain⟨j,k⟩:=g.write (i:=i) (xs:=xs) e n (c.keep _ _ o hp) A;exact w.nx u _ _ _ (c.prog.trans k) j C
def CF {i:Nat}{x name:Str}{es:zy zr}{id:String}{d:V->zy V->Hp->VK->Prop}{f:i7}{r:AA}{p apos c:Pos}(slot:Slot "list" name id)(h:typeOf (.builtin id)=pure (.type "method_descriptor"))(g:mP X id d/\d5 X.K d f)(ha:SA X (e::es) r)(hN:X.N[i]? =some x:=by rfl)(hv:jC X.env.scope x:=by first | exact Or.inl rfl|exact Or.inr (Or.inl rfl)|exact Or.inr (Or.inr rfl))(hd:(x==("__debug__" :Str))=false:=by decide)(j:(x==("__classdict__" :Str))=false:=by decide)(k:attributeBase (.Name x p) name X.env (eval (.Name x p) X.env)=eval (.Name x p) X.env:=by rfl)(l:((backTo c (starEach (e::es) X.env)).all (λx=> !x.1)&&(backToKw c (keywordEach [] X.env)).all (λx=>x.1.isSome) && decide ((e::es).length+([] :zy Keyword).length+(if ([] :zy Keyword).isEmpty then 0 else 1)<30))=true:=by rfl)(m:(apos.endLine==c.line)=true:=by rfl)(hs:starEach (e::es) X.env=(false,eval e X.env)::starEach es X.env:=by rfl)(n:(backTo c (starEach es X.env)).any (·.1)=false:=by rfl)(o:swapsWith (.Call (.Attribute (.Name x p) name apos) (e::es) [] c) none pos.line X.env=pure false:=by rfl):SS X (.Expr (.Call (.Attribute (.Name x p) name apos) (e::es) [] c) pos) (DX i f r):=by obtain⟨t,u,s⟩:=ha;exact⟨_,gE (nz PySem.F.plainAttrs_list slot h g.1 (Re hN hv hd j) u k l m hs n) o,cz g.2 s⟩
def Ga:i7:=λxs ys Q=>match ys with | [y] =>xs.length<sizeLine/\Q (xs ++ [y])|_=>False
def Bb:mP X "list.append" Rh/\d5 X.K Rh Ga:=by
 refine⟨LA,λT M H l d vs xs ys Q i hl c f h k=> ?_⟩;unfold Ga at h;split at h <;> first | exact h.elim|skip
 cases f with
 | cons g t=> cases t;exact⟨l,d,_,rfl,rfl,hl,by rw[c.length];exact h.1,k _ _ (c.append (.cons g .nil)) h.2⟩
def bL:i7:=λxs ys Q=>match ys with | [.int i,y] =>(0<=i/\i<=(xs.length:Int)/\xs.length<sizeLine)/\Q (xs.take i.toNat++y::xs.drop i.toNat)|_=>False
def QQ:mP X "list.insert" Ri/\d5 X.K Ri bL:=by
 refine⟨Y7,λT M H l d vs xs ys Q n hl c f h k=> ?_⟩;unfold bL at h;split at h <;> first | exact h.elim|skip
 cases f with
 | cons g t=>
   cases t with
   | cons i t=> cases t;cases g;obtain⟨⟨h1,h2,j⟩,m⟩:=h;exact⟨l,d,_,_,rfl,rfl,hl,h1,by rw[c.length];exact h2,by rw[c.length];exact j,k _ _ ((c.take _).append (.cons i (c.drop _))) m⟩
def ni (o:zt Nat)(R:Nat->Prop):Prop:=match o with | some j=>R j|none=>False
def j6 {o:zt Nat}{R:Nat->Prop}(h:ni o R):∃z,o=some z/\R z:=by cases o <;> first | exact⟨_,rfl,h⟩|exact h.elim
def jF (i:Nat)(c ta:AE):AS:=λD τ=>ta τ λy=>MH i τ λxs=>c τ λk=>V6 k λk=>ni (Vp xs.length k) λj=>D.nx (τ.set i (some (.own (xs.set j y))))
def lG {i:Nat}{x:Str}{ix:zr}{z:AE}{p c:Pos}(hi:SE X ix z)(he:SE X e ta)(hN:X.N[i]? =some x:=by rfl)(hv:jC X.env.scope x:=by first | exact Or.inl rfl|exact Or.inr (Or.inl rfl)|exact Or.inr (Or.inr rfl))(hd:(x==("__debug__" :Str))=false:=by decide)(J:(x==("__classdict__" :Str))=false:=by decide)(ha:∀v,assign (.Subscript (.Name x p) ix c) X.env v=(do
   let l <-holding [v] (eval (.Name x p) X.env);let m <-holding [v,l] (eval ix X.env)
   standAt c
   holding [v,l,m] (setItem l m v)
   release [v,l,m] []):=by intro _;rfl)(hs:swapsWithSole [.Subscript (.Name x p) ix c] e pos.line X.env=pure false:=by rfl)(hw:swappedStores [.Subscript (.Name x p) ix c] e X.env=pure none:=by rfl)(h1:(assignEach [.Subscript (.Name x p) ix c] X.env).map (·.2)= [assign (.Subscript (.Name x p) ix c) X.env] :=by rfl):SS X (.Assign [.Subscript (.Name x p) ix c] e pos) (jF i z ta):=by obtain⟨t,K,s⟩:=hi;obtain⟨t',n,L⟩:=he;refine⟨_,Rf n (V8 (Re hN hv hd J) K OW ha) hs hw h1,λB T A τ H D U C h M=>L B T A τ H _ _ C h λv y O H1 E P h1=> ?_⟩;have d:=C.stp E;obtain⟨xs,e,h1⟩:=Wz h1;obtain⟨q,vs,F,hp,G,W,I,Y⟩:=d.own i xs e;refine⟨.ref q,F,s B O A τ H1 _ _ d h1 λw k Q Z f R g=> ?_⟩;obtain⟨k,rfl,g⟩:=RZ g;obtain⟨j,S,g⟩:=j6 g;cases R.toI;have o:=d.stp f;obtain⟨r,u⟩:=o.write (i:=i) (xs:=xs) e F (f.keep _ _ I hp) (((G.stp f d.va)).set (P.stp f d.va) j);exact⟨q,vs,k,j,rfl,rfl,f.keep _ _ I hp,by rw[G.length];exact S,M.nx Q _ _ _ ((E.trans f).prog.trans u) r g⟩
end
section
variable {X:Cx}{st:Stmt}{e:zr}{pos:Pos}{a b:AS}{ta:AE}
def Uk (c:AT)(b:AS)(D:Gd):Nat->A6->Prop
 | 0,_=>False
 | n+1,τ=>c (frz τ) λk=>if k=true then b {D with nx:=Uk c b D n,ct:=Uk c b D n,bk:=D.nx} τ else D.nx τ
def Ic (c:AT)(b:AS):AS:=λD τ=>∃n,Uk c b D n τ
def HQ {c:zr}{body:zy Stmt}{v:AT}(hp:PassesOwn (model X.prog X.w) X.A X.env X.xe)(hc:Sc X c v)(hb:Zd X body b):SS X (.While c body [] pos) (Ic v b):=by
 obtain⟨t,p,s⟩:=hc;obtain⟨t',I,J⟩:=hb;refine⟨_,cF hp p I,λB T z τ H D C L h E=> ?_⟩;obtain⟨n,h⟩:=h;refine⟨λm f H1=>∃x d,SR X.K B x H1 f d/\FG T H z τ x H1 f d/\Uk v b C m d,⟨n,T,τ,L, .refl,h⟩, ?_⟩;rintro m f H1 ⟨x,d,l,g,h1⟩;cases m with
 | zero=>exact h1.elim
 | succ m=>
   refine s B x f (frz d) H1 _ _ l.frz h1 λk F G y h2=> ?_;have o:=l.stp y;have r:=(E.shift g).shift y.prog;cases k with
   | false=>rw[AAD AAQ] at h2 ⊢;exact r.nx F G f d .refl o h2
   | true=> rw[AAE rfl] at h2 ⊢;refine⟨λσ' u=>∃j τ',SR X.K B j u σ' τ'/\FG T H z τ j u σ' τ'/\Uk v b C m τ',λσ' u q=>⟨m,Nat.lt_succ_self m,q⟩, ?_⟩;exact J B F f d G _ _ o h2 ⟨λj u σ' τ' q i h'=>⟨j,τ',i,(g.trans y.prog).trans q,h'⟩,r.nx,λj u σ' τ' q i h'=>⟨j,τ',i,(g.trans y.prog).trans q,h'⟩,E.rt⟩
abbrev AI:=A6->(zy PV->Prop)->Prop
structure S2 (K:AAB) (M:Addr->Prop) (J:It) (xs:List PV) (T:Addr->Prop) (H:Hp):Prop where
 go:∀i y,xs[i]? =some y->J.go i H
 yld:∀i y v H',xs[i]? =some y->J.yld i H v H'->DB T H T H'/\CL K T M H' v y
 stop:∀i,xs.length<=i->J.stop i H
def Ww (T:zu->Prop)(H c:Hp):Prop:=∀b o,¬T b->H b=some o->c b=some o
def YW (K:AAB)(s:zq)(j:TI)(k:AI):Prop:=∀(B:C3) (T:zu->Prop) (f:L2.St) (τ:A6) (H:Hp) (R:It->Hp->Prop) (i:zy PV->Prop),SR K B T H f τ->k τ i->
 (∀J xs g c,DB T H g c->(∀M2 h d,Mv K g (mt B f τ) c h M2 d->Gb h M2 d->(s=true\/Ww g c d)->S2 K M2 J xs h d)->i xs->R J c)->j f H R
def SI (X:Cx)(d iter:zr)(s:zq)(f:AI):Prop:=∃c,PI X d iter c/\YW X.K s c f
def nM (K:AAB)(c:TE):TI:=λd H R=>c d H λx H1=>∃a,x= .ref a/\(((∃xs,FH K H1 a xs)/\R (qF K a) H1)\/((∃xs,MG K H1 a xs)/\R (qG K a) H1))
def b6 {i l:zr}{g:TE}(hl:PE X l g):PI X i l (nM X.K g):=by
 intro zj s j H R I h;refine BM (hl zj s j H _ I h) λv c ⟨x,H1,d,k,m⟩=> ?_;obtain⟨a,e,q⟩:=m;subst e;cases k;rcases q with⟨⟨xs,hq⟩,q⟩|⟨⟨xs,hq⟩,q⟩
 .obtain ⟨f,rv,p,hz⟩:=d.list hq;refine ACF p.isList ?_;refine⟨c.heap.objs.size, [c.heap.objs.size],_,_,H1,rfl,d.kept (t':=c.toks) λb o e=>AAH _ e,ZX a _,⟨_,AAS _ rfl,rfl,rfl⟩,λb hb=> ?_,q⟩;have e:b=c.heap.objs.size:=by simpa using hb
  subst e;exact d.fpOk (AAJ _) (d.hok.fresh (AAJ _))
 .obtain ⟨f,rv,p,hz⟩:=d.tuple hq;refine wpAny_pyIter_tuple (show c.heap.IsTuple a f.toArray from p) ?_;refine⟨c.heap.objs.size, [c.heap.objs.size],_,_,H1,rfl,d.kept (t':=c.toks) λb o e=>AAH _ e,Wm a _,⟨_,AAS _ rfl,rfl,rfl⟩,λb hb=> ?_,q⟩;have e:b=c.heap.objs.size:=by simpa using hb
  subst e;exact d.fpOk (AAJ _) (d.hok.fresh (AAJ _))
def Ha (ta:AE):AI:=λτ Q=>ta τ λx=>Om x Q
def bC {K:AAB}{T M:zu->Prop}{H:Hp}{a:zu}{xs:zy PV}(va:Gb T M H)(r:CL K T M H (.ref a) (.tup xs)):S2 K M (qG K a) xs T H:=by
 obtain⟨g,vs,e,hq,c⟩:=Eu r;cases e;refine⟨λi y h=> ?_,λi y v j h d=> ?_,λi h=>⟨vs,hq,by rw[c.length];exact h⟩⟩
 .obtain ⟨v,hv,_⟩:=c.get h;exact⟨vs,v,hq,hv⟩
 .obtain ⟨rfl,d⟩:=d;obtain⟨z,hz,f⟩:=c.get' (d vs hq);rw[h] at hz;cases hz;exact⟨.refl va.tp,f⟩
def bA {K:AAB}{T M:zu->Prop}{H:Hp}{a:zu}{vs:zy V}{xs:zy PV}(va:Gb T M H)(hq:H a=some (.lst vs))(c:Aw K T M H vs xs):S2 K M (qF K a) xs T H:=by
 have d:FH K H a vs:= .inl (.inl hq);refine⟨λi y h=> ?_,λi y v j h f=> ?_,λi h=>⟨vs,d,by rw[c.length];exact h⟩⟩
 .obtain ⟨v,hv,_⟩:=c.get h;exact⟨vs,v,d,hv⟩
 .obtain ⟨rfl,f⟩:=f;obtain⟨z,hz,g⟩:=c.get' (f vs d);rw[h] at hz;cases hz;exact⟨.refl va.tp,g⟩
def DM {j:zr}(h:SE X e ta):SI X j e true (Ha ta):=by
 obtain⟨t,p,s⟩:=h;refine⟨_,b6 p,λB T l τ H R z m h k=>s B T l τ H _ _ m h λv x g H1 i c h1=> ?_⟩;obtain⟨xs,hx,q⟩:=Ir h1;rcases hx with rfl|rfl
 .obtain ⟨a,vs,rfl,hq,n⟩:=Eu c;refine⟨a,rfl, .inr ⟨⟨vs,hq⟩,k _ xs g H1 i (λM2 o r d va _=>bC va (c.mv d)) q⟩⟩
 .obtain ⟨a,vs,rfl,hq,A,C,n⟩:=DU c;refine⟨a,rfl, .inl ⟨⟨vs, .inl (.inl hq)⟩,k _ xs g H1 i (λM2 o r d va _=> ?_) q⟩⟩;obtain⟨D,u,w,y,_,_,f⟩:=DU (c.mv d);cases w;exact bA va y f
def rng (lo:Int)(n:Nat):zy PV:=(List.range n).map λ(k:Nat)=> .int (lo+(k:Int))
def bB {K:AAB}{T M:zu->Prop}{H:Hp}{lo:Int}{n:Nat}(va:Gb T M H):S2 K M (pA lo n) (rng lo n) T H:=by
 have hl:(rng lo n).length=n:=by simp[rng]
 refine⟨λi y h=> ?_,λi y v d h c=> ?_,λi h=>by rw[hl] at h;exact h⟩
 .have:=(AAx.mp h).1;rw[hl] at this;exact this
 .obtain ⟨rfl,rfl⟩:=c;have hi:=(AAx.mp h).1;rw[hl] at hi;have:y= .int (lo+(i:Int)):=by simp[rng,List.getElem?_range hi] at h;exact h.symm
  subst this;exact⟨.refl va.tp, .int _⟩
def NY (r:AA):AI:=λτ Q=>r τ λxs=>match xs with | [.int j] =>(-(2^62)<=j/\j<2^62)/\Q (rng 0 j.toNat)|_=>False
def KW {d c:zr}{r:AA}{p:Pos}(f:Gl X "range")(g:X.mg "range" =none)(ha:SA X [c] r)(hs:starEach [c] X.env= [(false,eval c X.env)] :=by rfl):SI X d (.Call (.Name "range" p) [c] [] pos) true (NY r):=by
 obtain⟨t,i,s⟩:=ha;refine⟨_,ZG f g i hs,λB T j τ H R u l h k=>s B T j τ H _ _ l h λvs xs m H1 n o h1=> ?_⟩;split at h1 <;> first | exact h1.elim|skip
 cases o with
 | cons r t=> cases t;cases r;exact⟨_,rfl,h1.1.1,h1.1.2,k _ _ m H1 n (λM2 v w x va _=>bB va) h1.2⟩
def IH (xs ys:zy PV):zy PV:=List.zipWith (λx y=> .tup [x,y]) xs ys
def nN (K:AAB)(ta:TA):TI:=λd H R=>ta d H λvs H1=>∃b c l m,vs= [.ref l, .ref m] /\(∃xs,Sq K b H1 l xs)/\(∃ys,Sq K c H1 m ys)/\R (qH K b c l m) H1
def fx {e f:zr}{ta:TA}{p pos g:Pos}{es:zy zr}{w:Nat}(x:Gl X "zip")(y:X.mg "zip" =none)(ha:PA X [e,f] ta)(hs:starEach [e,f] X.env= [(false,eval e X.env),(false,eval f X.env)] :=by rfl)(t:starEach [f] X.env= [(false,eval f X.env)] :=by rfl):PI X (.Tuple es w g) (.Call (.Name "zip" p) [e,f] [] pos) (nN X.K ta):=by
 intro zj s z H R I h;refine Call_ (K6 I x y boot_zip (AB7 (BM (ha pos zj s z H _ I h) λus d ⟨vs,H1,i,A,B⟩=> ?_) (by rw[hs,t]) (by rw[t];rfl)));obtain⟨b,c,l,m,rfl,⟨xs,hl⟩,⟨ys,C⟩,q⟩:=B;cases A with
 | cons r j=>
 cases j with
 | cons D j=>
 cases j;cases r;cases D;obtain⟨us,G,u,_⟩:=i.sq hl;obtain⟨vs,rv,sv,_⟩:=i.sq C;have k:l<d.heap.objs.size:=by cases b <;> (obtain⟨o,e,_⟩:=u;exact AAG e)
 have n:m<d.heap.objs.size:=by cases c <;> (obtain⟨o,e,_⟩:=sv;exact AAG e)
 refine lX u sv λh1 Z E=>wpAny_pyIter_zip Z.zip ?_;refine⟨_,_,_,_,H1,rfl,i.kept (t':=d.toks) E,dS (zipApart_new k n),Z,λp hp=> ?_,q⟩;have v:d.heap.objs.size<=p:=by
  have F:p=d.heap.objs.size+4\/p=d.heap.objs.size+2\/p=d.heap.objs.size+3\/p=d.heap.objs.size\/p=d.heap.objs.size+1:=by simpa using hp
  rcases F with e|e|e|e|e <;> (rw[e];omega)
 exact i.fpOk v (i.hok.fresh v)
def jJ:PV->zq | .lst _=>true|_=>false
def QS {K:AAB}{T M:zu->Prop}{H:Hp}{v:V}{x:PV}{xs:zy PV}(hx:x= .tup xs\/x= .lst xs)(r:CL K T M H v x):∃a vs,v= .ref a/\Sq K (jJ x) H a vs/\Aw K T M H vs xs:=by
 rcases hx with rfl|rfl
 .obtain ⟨a,vs,rfl,hq,c⟩:=Eu r;exact⟨a,vs,rfl,hq,c⟩
 .obtain ⟨a,vs,rfl,hq,_,_,c⟩:=DU r;exact⟨a,vs,rfl, .inl (.inl hq),c⟩
def bD {K:AAB}{T M:zu->Prop}{H:Hp}{l m:zu}{x y:PV}{xs ys:zy PV}(va:Gb T M H)(hx:x= .tup xs\/x= .lst xs)(hy:y= .tup ys\/y= .lst ys)(r:CL K T M H (.ref l) x)(t:CL K T M H (.ref m) y):S2 K M (qH K (jJ x) (jJ y) l m) (IH xs ys) T H:=by
 obtain⟨_,vs,e,hq,f⟩:=QS hx r;cases e;obtain⟨_,g,e,j,c⟩:=QS hy t;cases e;have hz:∀i z,(IH xs ys)[i]? =some z->∃a b,xs[i]? =some a/\ys[i]? =some b/\z=PV.tup [a,b] :=λi z h=>by
  unfold IH at h;rw[List.getElem?_zipWith] at h;cases d:xs[i]? with
  | none=>rw[d] at h;cases h
  | some a=>
    cases k:ys[i]? with
    | none=>rw[d,k] at h;cases h
    | some b=>rw[d,k] at h;cases h;exact⟨a,b,by first | rfl|exact d,by first | rfl|exact k,rfl⟩
 refine⟨λi z h=> ?_,λi z v D h A=> ?_,λi h=>⟨vs,g,hq,j, ?_⟩⟩
 .obtain ⟨a,b,ha,hb,_⟩:=hz i z h;obtain⟨u,hu,_⟩:=f.get ha;obtain⟨w,hw,_⟩:=c.get hb;exact⟨vs,g,u,w,hq,j,hu,hw⟩
 .obtain ⟨a,b,ha,hb,rfl⟩:=hz i z h;obtain⟨p,u,w,rfl,B,rfl,hu,hw⟩:=A;obtain⟨E,n,ra⟩:=f.get' (hu vs hq);obtain⟨F,s,C⟩:=c.get' (hw g j);rw[ha] at n;cases n;rw[hb] at s;cases s;have st:=DB.lay (o:= .tup [u,w]) va.tp B;exact⟨st, .tup (.inl Ad) (.cons (ra.stp st va) (.cons (C.stp st va) .nil))⟩
 .rw [f.length,c.length];have:(IH xs ys).length=min xs.length ys.length:=by simp[IH]
  omega
def hJ (r:AA):AI:=λτ Q=>r τ λc=>match c with | [x,y] =>Om x λxs=>Om y λys=>Q (IH xs ys)|_=>False
def ZP {e f:zr}{r:AA}{p pos c:Pos}{es:zy zr}{i:Nat}(j:Gl X "zip")(n:X.mg "zip" =none)(ha:SA X [e,f] r)(hs:starEach [e,f] X.env= [(false,eval e X.env),(false,eval f X.env)] :=by rfl)(o:starEach [f] X.env= [(false,eval f X.env)] :=by rfl):SI X (.Tuple es i c) (.Call (.Name "zip" p) [e,f] [] pos) true (hJ r):=by
 obtain⟨t,u,s⟩:=ha;refine⟨_,fx j n u hs o,λB T v τ H R I w h k=>s B T v τ H _ _ w h λvs xs z H1 A C h1=> ?_⟩;split at h1 <;> first | exact h1.elim|skip
 rename_i x y;obtain⟨xs,hx,h2⟩:=Ir h1;obtain⟨ys,hy,D⟩:=Ir h2;cases C with
 | cons ra t=>
   cases t with
   | cons d t=> cases t;obtain⟨l,us,rfl,hq,J⟩:=QS hx ra;obtain⟨m,E,rfl,F,G⟩:=QS hy d;exact⟨jJ x,jJ y,l,m,rfl,⟨us,hq⟩,⟨E,F⟩,k _ _ z H1 A (λM2 K L g va _=>bD va hx hy (ra.mv g) (d.mv g)) D⟩
def DK (g:AG)(b:AS)(D:Gd):zy PV->A6->Prop
 | [],τ=>D.nx τ
 | x::r,τ=>g x τ λc=>b {D with nx:=DK g b D r,ct:=DK g b D r,bk:=D.nx} c
def EF (c:AI)(g:AG)(b:AS):AS:=λD τ=>c τ λxs=>DK g b D xs τ
def FG.mvv {K:AAB}{B:C3}{T d:zu->Prop}{H f:Hp}{c σ':L2.St}{τ τ':A6}(s:SR K B T H c τ)(p:FG T H c τ d f σ' τ'):Mv K T (mt B c τ) H d (mt B σ' τ') f:=
 ⟨s.va,λb o t m e=>p.keep b o t (λz=>m (.inr z)) e,p.sub,λb n t=>(p.new b t).elim id λz=>absurd z n,λb n m=>m.elim .inl λz=>(p.own b z).elim .inr λz=>absurd z n⟩
def Bn {E iter:zr}{body:zy Stmt}{O:AI}{g:AG}(hp:PassesOwn (model X.prog X.w) X.A X.env X.xe)(hc:X.calm=true)(hi:SI X E iter true O)(W:SG X E g)(hb:Zd X body b)(hs:∀x,foldedSetIterable iter X.env x=pure x:=by intro _;rfl):SS X (.For E iter body [] pos) (EF O g b):=by
 obtain⟨wi,Y,Z⟩:=hi;obtain⟨tg',pg,sg⟩:=W;obtain⟨tb,pb,sb⟩:=hb;refine⟨_,WA hp hc Y pg pb hs,λB T y τ H D P Q h F=>Z B T y τ H _ _ Q h λJ xs z H1 G walk h1=> ?_⟩;have p:=Q.stp G;refine⟨λi m d r=>m=xs.length-i/\∃f c,SR X.K B f r d c/\FG z H1 y τ f r d c/\DK g b P (xs.drop i) c,⟨_,rfl,z,τ,p, .refl,h1⟩, ?_⟩;rintro i m d r ⟨rfl,f,c,k,l,h2⟩;have w:=walk _ f r (l.mvv p) k.va (.inl rfl);have I:=(F.shift G.prog).shift l;by_cases R:i<xs.length
 .have S:xs[i]? =some xs[i] :=AAT R;rw[ABh R] at h2;refine .inr ⟨w.go i _ S,λσ' s=>∃j τ',SR X.K B j s σ' τ'/\FG z H1 y τ j s σ' τ'/\DK g b P (xs.drop (i+1)) τ',λσ' s ⟨j,τ',q1,q2,q3⟩=>⟨_,by omega,rfl,j,τ',q1,q2,q3⟩,λv C yl=> ?_⟩;obtain⟨U,r3⟩:=w.yld i _ v C S yl;have L:=k.stp U;refine sg B f d c C v _ _ _ L r3 h2 λt u M o4 h4=> ?_;have n:FG z H1 y τ f C t u:=(l.trans U.prog).trans (.less o4);have N:=(F.shift G.prog).shift n;exact sb B f t u C _ _ M h4 ⟨λj s σ' τ' q o h'=>⟨j,τ',o,n.trans q,h'⟩,N.nx,λj s σ' τ' q o h'=>⟨j,τ',o,n.trans q,h'⟩,F.rt⟩
 .rw [ACG (by omega)] at h2;exact .inl ⟨w.stop i (by omega),I.nx f r d c .refl k h2⟩
def Ya:zt AV->zt AV|some (.val x)=>some (.val x)|_=>none
def Jo (own:Nat)(ix:zy Nat)(τ:A6):A6:=List.replicate own none++ix.map λi=>Ya (Sd τ i)
def CJ (g:AG)(t:AT)(te:AE)(c:A6)(Q:zy PV->Prop):zy PV->zy PV->Prop
 | [],acc=>Q acc
 | x::r,acc=>g x c λd=>t d λok=>if ok=true then te d λy=>CJ g t te c Q r (acc ++ [y]) else CJ g t te c Q r acc
def B7 (c:AI)(own:Nat)(ix:zy Nat)(g:AG)(t:AT)(te:AE):AA:=λτ Q=>c τ λxs=>xs.length<sizeLine/\CJ g t te (Jo own ix τ) Q xs []
def Z9 {own:Nat}{ix:zy Nat}{τ:A6}{j:Nat}{x:PV}(h:(Jo own ix τ)[j]? =some (some (.val x))):own<=j/\∃i,ix[j-own]? =some i/\τ[i]? =some (some (.val x)):=by
 unfold Jo at h;by_cases hj:j<own
 .rw [ABJ (by simpa using hj),ABQ,AAE hj] at h;cases h
 .rw [AA9 (by simpa using hj),ABK,AAm] at h;cases e:ix[j-own]? with
  | none=>rw[e] at h;cases h
  | some i=>
    rw[e] at h;refine⟨by omega,i,rfl,N6 ?_⟩;cases c:Sd τ i with
    | none=>simp[c,Ya] at h
    | some z=>cases z <;> simp[c,Ya] at h;subst h;rfl
def Fj {own:Nat}{ix:zy Nat}{τ:A6}{j:Nat}{xs:zy PV}:(Jo own ix τ)[j]? ≠some (some (.own xs)):=λh=>by
 unfold Jo at h;by_cases hj:j<own
 .rw [ABJ (by simpa using hj),ABQ,AAE hj] at h;cases h
 .rw [AA9 (by simpa using hj),ABK,AAm] at h;cases e:ix[j-own]? with
  | none=>rw[e] at h;cases h
  | some i=>
    rw[e] at h;cases c:Sd τ i with
    | none=>simp[c,Ya] at h
    | some z=>cases z <;> simp[c,Ya] at h
def C3.blk (B:C3)(c:L2.St)(τ:A6)(D:zu):C3:=⟨B.T,B.H,λa=>mt B c τ a\/a=D⟩
def SR.blk {K:AAB}{B:C3}{T d:zu->Prop}{H f:Hp}{c:L2.St}{τ:A6}{D:zu}{h:zy V}{own:Nat}{ix:zy Nat}(s:SR K B T H c τ)(q:DB T H d f)(l:H D=none)(hd:f D=some (.lst h))(u:¬d D):SR K (B.blk c τ D) d f (Bo own ix c) (Jo own ix τ):=by
 have g:=s.stp q;have w:Mv K T (mt B c τ) H d (mt (B.blk c τ D) (Bo own ix c) (Jo own ix τ)) f:=⟨s.va,λb o t _ e=>q.keep b o t e,q.sub,λb n t=>(q.new b t).elim id λz=>absurd z n,λb n z=>by
  rcases z with(z|z)|⟨_,_,z,_⟩
  .exact z
  .subst z;exact absurd l n
  .exact absurd z Fj⟩
 refine⟨by simp[Bo,Jo],λj x e=> ?_,λj xs e=>absurd e Fj,λj k xs ys p e=>absurd e Fj,g.tp,λa m=> ?_,λa m=> ?_,g.st⟩
 .obtain ⟨hj,i,hi,y⟩:=Z9 e;obtain⟨v,hv,r⟩:=s.val i x y;refine⟨v, ?_,r.mv w⟩;unfold Bo;rw[AA9 (by simpa using hj),ABK,AAm,hi];simp[hv]
 .rcases m with m|m
  .exact g.va.mu a m
  .subst m;exact⟨_,hd,Kv.lst⟩
 .rcases m with m|m
  .exact g.nt m
  .subst m;exact u
def i8 (X:Cx)(c:zy zr)(t:AT):Prop:=∃d,YU X c d/\NV X.K d t
def Dg:AT:=λ_ Q=>Q true
def BI:i8 X [] Dg:=⟨_,Xl,λB T d τ H Q f c h k=>k true T H (.refl c.tp) h⟩
def gQ {c:zr}{t:AT}(h:Sc X c t):i8 X [c] t:=let ⟨_,p,s⟩:=h;⟨_,fy p,s⟩
def OY {K:AAB}{s:zq}{wi:TI}{ai:AI}{own:Nat}{ix:zy Nat}{g:TG}{ag:AG}{tt:TT}{C:AT}{te:TE}(hi:YW K s wi ai)(hg:Ky K g ag)(ht:NV K tt C)(he:GX K te ta):Zy K (dF wi own ix g tt te) (B7 ai own ix ag C ta):=by
 intro B T E τ H Q AQ sr h k;refine hi B T E τ H _ _ sr h λJ xs T1 H1 s1 walk h1 D F=> ?_;obtain⟨hl,h1⟩:=h1;have j:=sr.stp s1;have nt1:¬T1 D:=λz=>by obtain⟨o,e,_⟩:=(j.tp D z).mut;rw[F] at e;cases e
 have lay:=DB.lay (o:= .lst []) j.tp F;refine⟨λi m G=>m=xs.length-i/\∃p vs c,DB T1 H1 p G/\G D=some (.lst vs)/\¬p D/\Aw K p (λa=>mt B E τ a\/a=D) G vs c/\c.length<=i/\CJ ag C ta (Jo own ix τ) AQ (xs.drop i) c,
  ⟨_,rfl,T1, [], [],lay,Ad,nt1, .nil,AAJ _,h1⟩, ?_⟩
 rintro i m G ⟨rfl,p,vs,c,r,Z,f,r2,eZ,h2⟩;have I:=j.blk (own:=own) (ix:=ix) r F Z f;have L:Gb p (λa=>mt B E τ a\/a=D) G:=⟨I.tp,I.bm⟩;have w:=walk (λa=>mt B E τ a\/a=D) p G ⟨j.va,λb o t _ e=>r.keep b o t e,r.sub,λb n t=>(r.new b t).elim id λz=>absurd z n,λb n z=>z.elim id λz=>by subst z;exact absurd F n⟩ L (.inr r.keep);by_cases EG:i<xs.length
 .have Ti:xs[i]? =some xs[i] :=AAT EG;rw[ABh EG] at h2;refine .inr ⟨w.go i _ Ti,λv H3 yl=> ?_⟩;obtain⟨P,r3⟩:=w.yld i _ v H3 Ti yl;have l:=I.stp P;refine hg _ p _ _ H3 v _ _ _ l (r3.mv (.anti ⟨l.tp,l.bm⟩ λa z=>z.elim id λ⟨_,_,z,_⟩=>absurd z Fj)) h2 λR S U o4 h4=> ?_;refine ht _ p R S H3 _ _ U h4 λok T5 H5 N h5=> ?_;have u:=U.stp N;have dc:=P.keep D _ f Z;have eU:=N.keep D _ f dc;have M:¬T5 D:=λz=>(N.new D z).elim f λn=>by rw[n] at dc;cases dc
  have r5:=(r2.stp P L).stp N ⟨l.tp,l.bm⟩;cases ok with
  | false=> rw[AAD AAQ] at h5 ⊢;exact⟨_,by omega,rfl,T5,vs,c,(r.trans P).trans N,eU,M,r5,by omega,h5⟩
  | true=>
    rw[AAE rfl] at h5 ⊢;refine he _ T5 R S H5 _ _ u h5 λvy y O H6 W r6 h6=> ?_;have A:=u.stp W;have qX:=W.keep D _ M eU;have Y:¬O D:=λz=>(W.new D z).elim M λn=>by rw[n] at eU;cases eU
    have va6:Gb O (λa=>mt B E τ a\/a=D) H6:=⟨A.tp,A.bm⟩;have r7:=r5.stp W ⟨u.tp,u.bm⟩;have s7:=((r.trans P).trans N).trans W;have tp8:∀a,O a->Ek (upd H6 D (.lst (vs ++ [vy]))) a:=λa t=>by obtain⟨d,x,e,z⟩:=A.tp a t;exact⟨d,x,by rw[Aa (λw=>by subst w;exact Y t)];exact e,z⟩
    have mv8:Mv K O (λa=>mt B E τ a\/a=D) H6 O (λa=>mt B E τ a\/a=D) (upd H6 D (.lst (vs ++ [vy]))):=⟨va6,λb o _ m e=>by rw[Aa (λw=>m (.inr w))];exact e,λ_ t=>t,λ_ _ t=>t,λ_ _ z=>z⟩;refine⟨vs,qX,by rw[r2.length];omega,_,(by omega:xs.length-(i+1)<xs.length-i),rfl,O,vs ++ [vy],c ++ [y],⟨λb o t e=> ?_,s7.sub,s7.new,tp8⟩,Ad,Y,(r7.append (.cons (r6.mv (.anti A.va λa z=> .inl z)) .nil)).mv mv8,by simp;omega,h6⟩;rw[Aa (Ah e F)];exact s7.keep b o t e
 .rw [ACG (by omega)] at h2;refine .inl ⟨w.stop i (by omega), ?_⟩;exact k D vs c p G (s1.trans r) (j.add r F Z Kv.lst f) (s1.none F) Z f (r2.mv (.anti L λa z=>by
   rcases z with(z|z)|z
   .exact .inl (.inl z)
   .exact .inr z
   .exact .inl (.inr z))) h2
structure Ws (X:Cx) (tg elt:Expr) (ifs:List Expr) (scope:Scope) (own:Nat) (ix:List Nat) (N:List Str) (g:AG) (t:AT) (te:AE):Prop where
 ex:∃g' t' te',Fv X tg elt ifs scope own ix N g' t' te'/\Ky X.K g' g/\NV X.K t' t/\GX X.K te' te
def B9 {f c iter:zr}{d:zy zr}{scope:Scope}{own:Nat}{ix:zy Nat}{N:zy Str}{g:AG}{t:AT}{s:zq}{h:AI}(hc:X.calm=true)(hi:SI X f iter s h)(O:Ws X f c d scope own ix N g t ta)(hs:∀x,foldedSetIterable iter X.env x=pure x:=by intro _;rfl):SF X (.ListComp c [⟨f,iter,d,0⟩] scope pos) (B7 h own ix g t ta):=by obtain⟨n,i,j⟩:=hi;obtain⟨g',t',k,O,l,st,m⟩:=O.ex;exact⟨_,fj hc i O hs,OY j l st m⟩
def c6 {i:Nat}{x:Str}{pos' c:Pos}{h d iter:zr}{f:zy zr}{scope:Scope}{own:Nat}{ix:zy Nat}{N:zy Str}{g:AG}{t:AT}{s:zq}{j:AI}(hc:X.calm=true)(hN:X.N.Nodup)(k:X.N[i]? =some x)(hx:Loc X.env.scope x)(hi:SI X h iter s j)(O:Ws X h d f scope own ix N g t ta)(l:swapsWith (.ListComp d [⟨h,iter,f,0⟩] scope pos) (some (.Name x pos')) c.line X.env=pure true:=by rfl)(hs:∀x,foldedSetIterable iter X.env x=pure x:=by intro _;rfl)(m:X.fn x=true\/X.env.scope.names.lookup x=some .local:=by first | exact .inl rfl|exact .inr rfl|assumption):SS X (.Assign [.Name x pos'] (.ListComp d [⟨h,iter,f,0⟩] scope pos) c) (GY (B7 j own ix g t ta) i):=by obtain⟨v,n,o⟩:=hi;obtain⟨g',t',p,O,r,st,u⟩:=O.ex;exact⟨_,Xn hc hN k hx n O l hs m,X6 (OY o r st u)⟩
def HP {i:Nat}{x:Str}{pos' c:Pos}{h d iter:zr}{f:zy zr}{scope:Scope}{own:Nat}{ix:zy Nat}{N:zy Str}{g:AG}{t:AT}{s:zq}{j:AI}(hc:X.calm=true)(hN:X.N.Nodup)(k:X.N[i]? =some x)(hx:Loc X.env.scope x)(hi:SI X h iter s j)(O:Ws X h d f scope own ix N g t ta)(l:swapsWith (.ListComp d [⟨h,iter,f,0⟩] scope pos) (some (.Name x pos')) c.line X.env=pure true:=by rfl)(hs:∀x,foldedSetIterable iter X.env x=pure x:=by intro _;rfl)(m:X.fn x=true\/X.env.scope.names.lookup x=some .local:=by first | exact .inl rfl|exact .inr rfl|assumption):SS X (.Assign [.Name x pos'] (.ListComp d [⟨h,iter,f,0⟩] scope pos) c) (Aj (Ex (B7 j own ix g t ta)) (An i)):=by obtain⟨v,n,o⟩:=hi;obtain⟨g',t',p,O,r,st,u⟩:=O.ex;exact⟨_,Xn hc hN k hx n O l hs m,R7 (cx (OY o r st u)) R8⟩
end
def LW (N:Nat)(xs:zy PV):A6:=xs.map (λx=>some (.val x))++List.replicate (N-xs.length) none
def Ak (N:Nat)(b:AS):AF:=λxs Q=>b {nx:=λ_=>Q .non,rt:=Q,bk:=λ_=>False,ct:=λ_=>False} (LW N xs)
def dA {K:AAB}{T M:zu->Prop}{H:Hp}{N:zy Str}{vs:zy V}{xs:zy PV}(va:Gb T M H)(b:∀a,M a->¬T a)(r:Aw K T M H vs xs):SR K ⟨T,H,M⟩ T H (start N vs) (LW N.length xs):=by
 have c:∀(j:Nat) (ys:zy PV),(LW N.length xs)[j]? ≠some (some (.own ys)):=λj ys h=>by
  unfold LW at h;by_cases hj:j<xs.length
  .rw [ABJ (by simpa using hj),AAm,AAT hj] at h;cases h
  .rw [AA9 (by simpa using hj),ABQ] at h;split at h <;> cases h
 refine⟨by simp[L2.start,LW,r.length],λj x h=> ?_,λj ys h=>absurd h (c j ys),λj k ys d p h=>absurd h (c j ys),va.tp,va.mu,b, .refl va.tp⟩;unfold LW at h;by_cases hj:j<xs.length
 .rw [ABJ (by simpa using hj),AAm,AAT hj] at h;cases h;obtain⟨v,hv,rv⟩:=r.get (AAT hj);refine⟨v, ?_,rv.mv (.anti va λa m=>m.elim id λ⟨_,_,z,_⟩=>absurd z (c _ _))⟩;unfold L2.start;rw[ABJ (by rw[AAI,r.length];exact hj),AAm,hv];rfl
 .rw [AA9 (by simpa using hj),ABQ] at h;split at h <;> cases h
section
variable {P:zp}{w:zm}{K:AAB}{mg:Str->zt zx}{base:zl}
def eM {x qual:Str}{st:Stmt}{f:zu}{i:FuncData}{N c:zy Str}{k n:Nat}{b:AS}(F:U6 K x qual st f i)(S:EN N c (BQ st))(j:n=c.length)(l:∀(a:zx) (A:zk) (outer:zy Env) (s:zw) (H:Hp) (E:XK),Room k (A.deeper (envOfC qual (BQ st) s.heap.objs.size f a))-> Zd (TH Sy P w K mg base N qual (BQ st) f a A outer s H E).nox (D9 st) b):Ej P w K mg base Sy (k+1) f i c (Cc K n (Ak N.length b)):=by
 refine F.ok S (λvs H Q E h=> ?_) (λa A outer s H vs Q E m h=> ?_)
 .obtain ⟨T,M,xs,o,_,_,r,hl,_⟩:=h;rw[r.length,hl,j]
 .obtain ⟨T,M,xs,o,va,d,r,hl,hF,hQ⟩:=h;obtain⟨t,p,u⟩:=l a A outer s H E m;refine⟨t,p,u ⟨T,H,M⟩ T _ _ H _ _ (dA va d r) hF ⟨λe g σ' τ' _ y q=> ?_,λ_ _ _ _ _ _ q=>q.elim,λ_ _ _ _ _ _ q=>q.elim,λv x e g z B q=>hQ v x e g z B q⟩⟩;exact hQ _ _ e g y.st .non q
end
section
variable {X:Cx}
def aB {prog:zp}{w:zm}{A:zk}{E:zx->zw->Prop}{s:zw}{t b:zu}{d:zy zx}{Q:zx->zw->Prop}(j:IsTup s.heap t #[])(hb:IsTup s.heap b d.toArray)(k:Q (.ref b) s):wpAny (model prog w) A (binaryOp .Add (.ref t) (.ref b)) Q E s:=by
 obtain⟨⟨cls,l,data,m⟩,e,hc,n,hd⟩:=id j;obtain⟨⟨f,a,data2,c⟩,g,h,o,i⟩:=id hb;simp only at hc hd h i;subst hc hd h i;exact concat_meets ⟨_,e,rfl⟩ ⟨_,g,rfl⟩ ADL seq_tuple_add ADM ADN (ADO _ _)
  (tuple_addW0 t b #[] d.toArray n o l a m c (by simp)) ⟨e,g,k⟩
def cI (K:AAB):R2:=λx y H Q=>∃a b ys,x= .ref a/\y= .ref b/\MG K H a [] /\MG K H b ys/\Q (.ref b) H
def bT:EZ X (binaryOp .Add) (cI X.K):=by intro zj s k H x y v u Q I d e h;obtain⟨a,b,ys,rfl,rfl,ha,hb,q⟩:=h;cases d;cases e;obtain⟨f,g,i,_⟩:=I.tuple ha;obtain⟨c,l,j,_⟩:=I.tuple hb;cases g;exact aB i j ⟨.ref b,H,I,rfl,q⟩
def iS (K:AAB):R2:=λx y H Q=>((Pb (λi j=>V.int (i+j)) x y H Q\/oB x y H Q)\/iT K x y H Q)\/cI K x y H Q
def BX:JT:=λx y Q=>match x,y with
 | .int i, .int j=>Q (.int (i+j))
 | .lst xs, .lst ys=>xs.length+ys.length<=sizeLine/\Q (.lst (xs++ys))
 | .tup xs, .tup ys=>xs.length+ys.length<=sizeLine/\Q (.tup (xs++ys))
 | _,_=>False
def Ay:EZ X (binaryOp .Add) (iS X.K)/\CW X.K (iS X.K) BX:=by
 refine⟨((G6.or kA).or fY).or bT,λT M H u v x y Q r va g rv h k=> ?_⟩;unfold BX at h;split at h <;> first | exact h.elim|skip
 .exact .inl (.inl (.inl ⟨_,_,g.toI,rv.toI,k _ _ T H (.refl va.tp) (.int _) h⟩))
 .obtain ⟨a,vs,rfl,hq,s,t,d⟩:=DU g;obtain⟨b,f,rfl,i,j,l,c⟩:=DU rv;refine .inl (.inl (.inr ⟨a,b,vs,f,rfl,rfl,hq,i,by rw[d.length,c.length];exact h.1,λp hp=> ?_⟩));have st:=DB.lay (o:= .lst (vs++f)) va.tp hp;have m:¬T p:=λz=>by obtain⟨o,e,_⟩:=(va.tp p z).mut;rw[hp] at e;cases e
  have n:¬M p:=λz=>by obtain⟨o,e,_⟩:=va.mu p z;rw[hp] at e;cases e
  exact k _ _ T _ st (.lst Ad m n ((d.append c).stp st va)) h.2
 .obtain ⟨a,vs,rfl,hq,d⟩:=Eu g;obtain⟨b,f,rfl,i,c⟩:=Eu rv;by_cases e:vs= []
  .subst e;cases d;exact .inr ⟨a,b,f,rfl,rfl,hq,i,k _ _ T H (.refl va.tp) rv (by simpa using h.2)⟩
  .refine .inl (.inr ⟨a,b,vs,f,rfl,rfl,hq,i,e,by rw[d.length,c.length];exact h.1,λz=> ?_,λz p hp=> ?_⟩)
   .subst z;cases c;exact k _ _ T H (.refl va.tp) g (by simpa using h.2)
   .have st:=DB.lay (o:= .tup (vs++f)) va.tp hp;exact k _ _ T _ st (.tup (.inl Ad) ((d.append c).stp st va)) h.2
def IE {prog:zp}{w:zm}{A:zk}{E:zx->zw->Prop}{s:zw}{t b:zu}{items:Array zx}{c d:zx}{lo hi:zt Int}{Q:zx->zw->Prop}(a:IsTup s.heap t items)(hs:s.heap.IsSliceOf b c d .none)(e:IsPart c lo)(f:IsPart d hi)(hw:HT.sIx items.size 0 lo=0/\HT.sIx items.size items.size hi=items.size)(h:Q (.ref t) s):wpAny (model prog w) A (getItem (.ref t) (.ref b)) Q E s:=by
 obtain⟨os,g,i,l⟩:=id hs;have j:s.TypeIs (.ref b) "slice" :=⟨os,g,i⟩;obtain⟨m,n,o,p,r⟩:=id a;unfold getItem;try with_reducible refine AAl ?_
 first | refine AAA (AAC ?_)|skip
 refine AAA (wpAny_sequenceKey a.typeIs (by decide) ?_);refine AAA (ABR (name:=Str.ofString "__getitem__") a.typeIs ABu
  (AA4 ABu a.typeIs entry_tuple_getitem ?_ (args_tuple_getitem _ _)))
 show wpAny _ _ (Builtin.Tuple.tupleItemsOf (.ref t) >>= _) _ _ s;refine AAA (tupleItemsOf_ a ?_);refine AAA (ACC j ?_);rw[AAE (by decide)];refine AAA (HT.sliceApplied_gen hs e f ?_);have k:((((HT.sIx items.size 0 lo:Nat):Int)==0&&(1:Int)==1&&(HT.sIx items.size items.size hi-HT.sIx items.size 0 lo)==items.size)=true):=by rw[hw.1,hw.2];simp
 show wpAny _ _ (if (((HT.sIx items.size 0 lo:Nat):Int)==0&&(1:Int)==1&&(HT.sIx items.size items.size hi-HT.sIx items.size 0 lo)==items.size)=true then _ else _) _ _ s;rw[AAE k];unfold Builtin.Tuple.tupleIsExact;simp only[bind_assoc,pure_bind];refine AAA (ACC a.typeIs ?_);rw[AAE (by decide)];exact AAA (ABD (AAC ⟨_,rfl,AAC h⟩))
def rc (K:AAB):V->zt Int->zt Int->Hp->VK->Prop:=λx lo hi H Q=>∃a xs,x= .ref a/\MG K H a xs/\
 (HT.sIx xs.length 0 lo=0/\HT.sIx xs.length xs.length hi=xs.length)/\Q (.ref a) H
def gY:hI X (rc X.K):=by
 intro zj s i H x v j k lo hi l Q I d hs e f h;obtain⟨a,xs,rfl,hx,hw,q⟩:=h;cases d;obtain⟨b,r,c,hz⟩:=I.tuple hx;have g:b.toArray.size=xs.length:=by rw[AAU];exact r.length.symm
 refine⟨"tuple",_,ABu.lookup,c.typeIs, ?_⟩;exact IE c hs e f (by rw[g];exact hw) ⟨.ref a,H,I,rfl,q⟩
def G3 (xs:zy PV)(lo hi:zt Int):zy PV:=(xs.drop (HT.sIx xs.length 0 lo)).take (HT.sIx xs.length xs.length hi-HT.sIx xs.length 0 lo)
def XA {K:AAB}{T M:zu->Prop}{H:Hp}{vs:zy V}{xs:zy PV}(r:Aw K T M H vs xs)(lo hi:zt Int):Aw K T M H (PB vs lo hi) (G3 xs lo hi):=by unfold PB G3;rw[r.length];exact(r.drop _).take _
abbrev AO:=A6->(zt Int->Prop)->Prop
def qJ (K:AAB)(t:TO)(a:AO):Prop:=∀(B:C3) (T:zu->Prop) (b:L2.St) (τ:A6) (H:Hp) (Q:zt Int->Hp->Prop) (c:zt Int->Prop),SR K B T H b τ->a τ c->
 (∀o e d,DB T H e d->c o->Q o d)->t b H Q
def SO (X:Cx)(e:zt zr)(a:AO):Prop:=∃t,PO X e t/\qJ X.K t a
def Z7:AO:=λ_ Q=>Q none
def Z8 (a:AE):AO:=λτ Q=>a τ λx=>V6 x λi=>Q (some i)
def gZ:SO X none Z7:=⟨_,fz,λB T b τ H Q c a h k=>k _ T H (.refl a.tp) h⟩
def ga {e:zr}{a:AE}(h:SE X e a):SO X (some e) (Z8 a):=by obtain⟨t,p,s⟩:=h;refine⟨_,gA p,λB T b τ H Q j c h k=>s B T b τ H _ _ c h λv x d H1 f g h1=> ?_⟩;obtain⟨i,rfl,q⟩:=RZ h1;exact⟨i,g.toI,k _ d H1 f q⟩
@[irreducible] def Yn (x:PV)(lo hi:zt Int)(Q:PV->Prop):Prop:=match x with | .tup xs=>Q (.tup (G3 xs lo hi)) | .lst xs=>Q (.lst (G3 xs lo hi))|_=>False
def SH {xs:zy PV}{lo hi:zt Int}{Q:PV->Prop}(h:Q (.tup (G3 xs lo hi))):Yn (.tup xs) lo hi Q:=by unfold Yn;exact h
def ET {xs:zy PV}{lo hi:zt Int}{Q:PV->Prop}(h:Q (.lst (G3 xs lo hi))):Yn (.lst xs) lo hi Q:=by unfold Yn;exact h
def Z6 (a:AE)(l h:AO):AE:=λτ Q=>a τ λx=>l τ λlo=>h τ λhi=>Yn x lo hi Q
def KU {e:zr}{lo hi:zt zr}{E r:Pos}{D:AE}{l h:AO}(he:SE X e D)(hl:SO X lo l)(F:SO X hi h):SE X (.Subscript e (.Slice lo hi none E) r) (Z6 D l h):=by
 obtain⟨t,p,s⟩:=he;obtain⟨P,G,u⟩:=hl;obtain⟨R,w,y⟩:=F;refine⟨_,bo ((gX.or lD).or gY) p G w,λB T n τ H Q S f h k=>s B T n τ H _ _ f h λv x I H1 g J h1=> ?_⟩;refine u B I n τ H1 _ _ (f.stp g) h1 λlo K L i h2=> ?_;refine y B K n τ L _ _ ((f.stp g).stp i) h2 λhi T3 M A d=> ?_;have b:=((f.stp g).stp i).stp A;have C:=(J.stp i (f.stp g).va).stp A ((f.stp g).stp i).va;have c:=(g.trans i).trans A;unfold Yn at d;split at d <;> first | exact d.elim|skip
 .obtain ⟨a,vs,rfl,hq,j⟩:=Eu C;by_cases hw:HT.sIx vs.length 0 lo=0/\HT.sIx vs.length vs.length hi=vs.length
  .refine .inr ⟨a,vs,rfl,hq,hw,k _ _ T3 M c C ?_⟩;rename_i xs;have:G3 xs lo hi=xs:=by unfold G3;rw[<-j.length,hw.1,hw.2,j.length];simp
   rw[this] at d;exact d
  .refine .inl (.inr ⟨a,vs,rfl,hq,hw,λq m=> ?_⟩);have st:=DB.lay (o:= .tup (PB vs lo hi)) b.tp m;exact k _ _ T3 _ (c.trans st) (.tup (.inl Ad) ((XA j lo hi).stp st b.va)) d
 .obtain ⟨a,vs,rfl,hq,U,W,j⟩:=DU C;refine .inl (.inl ⟨a,vs,rfl, .inl (.inl hq),λq m=> ?_⟩);have st:=DB.lay (o:= .lst (PB vs lo hi)) b.tp m;have N:¬T3 q:=λz=>by obtain⟨o,e,_⟩:=(b.tp q z).mut;rw[m] at e;cases e
  have O:¬mt B n τ q:=λz=>by obtain⟨o,e,_⟩:=b.va.mu q z;rw[m] at e;cases e
  exact k _ _ T3 _ (c.trans st) (.lst Ad N O ((XA j lo hi).stp st b.va)) d
end
def A4:AF:=λxs Q=>match xs with | [.tape, .int m] =>(0<m/\m<4611686018427387904)/\∀r,0<=r->r<m->Q (.int r)|_=>False
def NS:AF:=λxs Q=>match xs with | [.scr ns, .int k] =>(0<=k/\k<=1000)/\Q .tape|_=>False
def mM (g:TG):Prop:=∀v b H Q c,(∀a d,Q a d->c a d)->g v b H Q->g v b H c
def iu (g:VA):Prop:=∀v b H Q c,(∀a d,Q a d->c a d)->g v b H Q->g v b H c
def SK (own:Nat)(X:Cx)(a:zr)(ag:AG):Prop:=∃g,PG X a g/\Ky X.K g ag/\IM own g/\mM g
def pD (own:Nat)(X:Cx)(a:zy zr)(ag:Up):Prop:=∃g,lc X a g/\Pt X.K g ag/\NT own g/\iu g
section
variable {X:Cx}{pos:Pos}{own:Nat}
def gW {i:Nat}{x:Str}(hN:X.N.Nodup)(hi:X.N[i]? =some x)(hx:Loc X.env.scope x)(hk:i<own)(a:X.fn x=true\/X.env.scope.names.lookup x=some .local:=by first | exact .inl rfl|exact .inr rfl|assumption):SK own X (.Name x pos) (An i):=
 ⟨_,EQ hN hi hx a,R8,Qz hk,Ma⟩
def KY:pD own X [] Bz:=⟨_,KC,Ue,XN,Q0⟩
def C1 {e:zr}{es:zy zr}{ag:AG}{a:Up}(h1:SK own X e ag)(h2:pD own X es a)(hs:(assignEach (e::es) X.env).map (·.2)=assign e X.env::(assignEach es X.env).map (·.2):=by rfl):pD own X (e::es) (Ab ag a):=
 let ⟨_,p,s,k,m⟩:=h1;let ⟨_,c,d,f,b⟩:=h2;⟨_,Dn p c hs,QP s d,Nr k m f b,TN m b⟩
end
def lj (K:AAB)(own:Nat)(ag:AG):TG:=λv a H Q=>∃(B:C3) (T:zu->Prop) (τ:A6) (x:PV) (c:A6->Prop),SR K B T H a τ/\CL K T (mt B a τ) H v x/\ag x τ c/\
 ∀σ' τ',SR K B T H σ' τ'->(∀b,Co σ' τ' b->Co a τ b)->c τ'->(σ'.length=a.length/\∀j,own<=j->σ'[j]? =a[j]?)->Q σ' H
def ou (K:AAB)(a:AT):TT:=λe H Q=>∃(B:C3) (T:zu->Prop) (τ:A6) (c:zq->Prop),SR K B T H e τ/\a τ c/\∀b f d,DB T H f d->c b->Q b d
def mZ (K:AAB)(a:AE):TE:=λc H Q=>∃(B:C3) (T:zu->Prop) (τ:A6) (d:PV->Prop),SR K B T H c τ/\a τ d/\∀v x e b,DB T H e b->CL K e (mt B c τ) b v x->d x->Q v b
def R9 {K:AAB}{own:Nat}{ag:AG}:Ky K (lj K own ag) ag:=λB T c τ H v x Q a b r h k=>⟨B,T,τ,x,a,b,r,h,λσ' τ' s o q _=>k σ' τ' s o q⟩
def N0 {K:AAB}{own:Nat}{ag:AG}:IM own (lj K own ag):=λv c H Q ⟨B,T,τ,x,a,b,r,h,k⟩=>⟨B,T,τ,x,a,b,r,h,λσ' τ' s o q z=>⟨k σ' τ' s o q z,z⟩⟩
def SC {K:AAB}{a:AT}:NV K (ou K a) a:=λB T d τ H Q b c h k=>⟨B,T,τ,b,c,h,k⟩
def X5 {K:AAB}{a:AE}:GX K (mZ K a) a:=λB T d τ H Q b c h k=>⟨B,T,τ,b,c,h,k⟩
section
variable {X:Cx}
def SK.of {own:Nat}{e:zr}{ag:AG}(h:SK own X e ag):PG X e (lj X.K own ag):=by obtain⟨g,p,s,k,m⟩:=h;intro zj i a H v u Q I r hw;obtain⟨B,T,τ,x,f,j,l,h,c⟩:=hw;have h1:g v a H λσ' n=>n=H/\∃τ',SR X.K B T H σ' τ'/\(∀b,Co σ' τ' b->Co a τ b)/\f τ':=s B T a τ H v x _ f j l h λσ' τ' s o q=>⟨rfl,τ',s,o,q⟩;have h2:=k v a H _ h1;refine p zj i a H v u Q I r (m v a H _ _ (λd A q=> ?_) h2);obtain⟨⟨rfl,τ',t,w,y⟩,z⟩:=q;exact c d τ' t w y z
def i8.of {b:zy zr}{a:AT}(h:i8 X b a):YU X b (ou X.K a):=by obtain⟨t,p,s⟩:=h;intro zj e d H Q I hw;obtain⟨B,T,τ,f,g,h,c⟩:=hw;exact p zj e d H Q I (s B T d τ H Q f g h c)
def SE.of {e:zr}{a:AE}(h:SE X e a):PE X e (mZ X.K a):=by obtain⟨t,p,s⟩:=h;intro zj d b H Q I hw;obtain⟨B,T,τ,f,g,h,c⟩:=hw;exact p zj d b H Q I (s B T b τ H Q f g h c)
def Bu {e a:zr}{b:zy zr}{scope:Scope}{own:Nat}{ix:zy Nat}{N:zy Str}{g:AG}{t:AT}{te:AE}(h1:scope.kind= .function)(h2:(scope.names.all λy=> !decide (y.2= .cell))=true)(f:(scope.names.all λy=> !decide (y.2= .local)||decide (scope.names.lookup y.1=some .local))=true)(h:(scope.names.all λy=> !decide (y.2= .free)||decide (X.env.scope.names.lookup y.1=some .cell))=true)(i:N.length=own+ix.length)(j:Qw X (relabel scope X.env) own ix N=true)(c:∀cl C s H ex pn,SK own (blk X (relabel scope X.env) N cl C s H ex pn) e g)(d:∀cl C s H ex pn,i8 (blk X (relabel scope X.env) N cl C s H ex pn) b t)(val:∀cl C s H ex pn,SE (blk X (relabel scope X.env) N cl C s H ex pn) a te):Ws X e a b scope own ix N g t te:=
 ⟨lj X.K own g,ou X.K t,mZ X.K te,Qq h1 h2 f h i j N0 (λcl C s H ex pn=>(c cl C s H ex pn).of) (λcl C s H ex pn=>(d cl C s H ex pn).of) (λcl C s H ex pn=>(val cl C s H ex pn).of),R9,SC,X5⟩
end
mutual
def pd:PV->PyData
 | .bl b=> .bool b
 | .int i=> .int i
 | .str x=> .str x
 | .tup xs=> .tuple (Rc xs)
 | .lst xs=> .list (Rc xs)
 | _=> .none
def Rc:zy PV->zy PyData
 | [] => []
 | x::xs=>pd x::Rc xs
end
mutual
def EM:Nat->PV->zq
 | _, .non=>true
 | _, .bl _=>true
 | _, .int _=>true
 | _, .str x=>PyData.strOk x
 | n+1, .tup xs=>LB n xs
 | n+1, .lst xs=>LB n xs
 | _,_=>false
def LB:Nat->zy PV->zq
 | _, [] =>true
 | n,x::xs=>EM n x&&LB n xs
end
mutual
theorem F4:∀(n:Nat) (x:PV),EM n x=true->(pd x).canLay0=true/\(pd x).depth<=n/\(pd x).hasDict=false
 | n, .non,_=>⟨rfl,AAu _,rfl⟩
 | n, .bl _,_=>⟨rfl,AAu _,rfl⟩
 | n, .int _,_=>⟨rfl,AAu _,rfl⟩
 | n, .str x,h=>⟨by simpa[pd,PyData.canLay0,EM] using h,AAu _,rfl⟩
 | 0, .tup xs,h=>by simp[EM] at h
 | 0, .lst xs,h=>by simp[EM] at h
 | n+1, .tup xs,h=>by obtain⟨a,b,c⟩:=N9 n xs (by simpa[EM] using h);exact⟨by simpa[pd,PyData.canLay0] using a,by simpa[pd,PyData.depth] using b,by simpa[pd,PyData.hasDict] using c⟩
 | n+1, .lst xs,h=>by obtain⟨a,b,c⟩:=N9 n xs (by simpa[EM] using h);exact⟨by simpa[pd,PyData.canLay0] using a,by simpa[pd,PyData.depth] using b,by simpa[pd,PyData.hasDict] using c⟩
 | n, .tape,h=>by simp[EM] at h
 | n, .scr _,h=>by simp[EM] at h
 | n, .ty _,h=>by simp[EM] at h
 | n, .dct _,h=>by simp[EM] at h
 | n, .dk _,h=>by simp[EM] at h
theorem N9:∀(n:Nat) (xs:zy PV),LB n xs=true->PyData.canLayAll0 (Rc xs)=true/\PyData.depthAll (Rc xs)<=n/\PyData.hasDictAll (Rc xs)=false
 | n, [],_=>⟨rfl,AAu _,rfl⟩
 | n,x::xs,h=>by simp only[LB,AAn] at h;obtain⟨a,b,c⟩:=F4 n x h.1;obtain⟨d,f,e⟩:=N9 n xs h.2;exact⟨by simp[Rc,PyData.canLayAll0,a,d],by simp only[Rc,PyData.depthAll];omega,by simp[Rc,PyData.hasDictAll,c,e]⟩
end
section
variable {X:Cx}{zj:zy (zu×Obj)}{σ:L2.St}{H:Hp}{s:zw}
mutual
theorem Fs (I:Inv X zj σ H s){T M:zu->Prop}:∀(n:Nat) {x:PV} {v:V} {u:zx},CL X.K T M H v x->EM n x=true->RelV v u->∃as,Reads s.heap u (pd x) as
 | _,_,_,_, .non,_,r=>by cases r;exact⟨_, .none⟩
 | _,_,_,_, .bl b,_,r=>by cases r;exact⟨_, .bool b⟩
 | _,_,_,_, .int i,_,r=>by obtain⟨t,rfl⟩:=r;exact⟨_, .int i t⟩
 | _,_,_,_, .str x,_,r=>by obtain⟨t,rfl⟩:=r;exact⟨_, .str x t⟩
 | _,_,_,_, .ty n,h,r=>by simp[EM] at h
 | 0,_,_,_, .tup hq rs,h,r=>by simp[EM] at h
 | 0,_,_,_, .lst hq t m rs,h,r=>by simp[EM] at h
 | n+1,_,_,_, .tup hq rs,h,r=>by cases r;obtain⟨a,rv,⟨o,c,hc,k,hd⟩,_⟩:=I.tuple hq.sq;obtain⟨as,ra⟩:=G7 I n rs (by simpa[EM] using h) rv;exact⟨_, .tuple c hc hd (by simpa using ra)⟩
 | n+1,_,_,_, .lst hq t m rs,h,r=>by cases r;obtain⟨a,rv,⟨o,k,c,hc,_,hd⟩,_⟩:=I.list (FH.of hq);obtain⟨as,ra⟩:=G7 I n rs (by simpa[EM] using h) rv;exact⟨_, .list c hc hd (by simpa using ra)⟩
 | _,_,_,_, .tape _,h,r=>by simp[EM] at h
 | _,_,_,_, .scr _,h,r=>by simp[EM] at h
 | _,_,_,_, .dct _ _ _,h,r=>by simp[EM] at h
 | _,_,_,_, .dk _ _,h,r=>by simp[EM] at h
theorem G7 (I:Inv X zj σ H s){T M:zu->Prop}:∀(n:Nat) {xs:zy PV} {vs:zy V} {us:zy zx},Aw X.K T M H vs xs->LB n xs=true->Ap vs us->∃as,ReadsAll s.heap us (Rc xs) as
 | _,_,_,_, .nil,_,r=>by cases r;exact⟨_, .nil⟩
 | n,_,_,_, .cons h t,hk,r=>by
   simp only[LB,AAn] at hk;cases r with
   | cons r a=> obtain⟨as,ra⟩:=Fs I n h hk.1 r;obtain⟨bs,b⟩:=G7 I n t hk.2 a;exact⟨_, .cons ra b⟩
end
end
section
variable {X:Cx}
def jT (x y:PV):zq:=PyData.eqv (pd x) (pd y)
def gH (K:AAB)(neg:zq):R2:=λu v H Q=>∃(T M:zu->Prop) (x y:PV),CL K T M H u x/\CL K T M H v y/\EM 30 x=true/\EM 30 y=true/\Q (.bl (if neg then !jT x y else jT x y)) H
def kB {k:Nat}(c:Room k X.A):EZ X (compareOp .Eq) (gH X.K false):=by intro zj s l H u v m n Q I d rv h;obtain⟨T,M,x,y,e,f,a,b,q⟩:=h;obtain⟨as,ra⟩:=Fs I 30 e a d;obtain⟨bs,g⟩:=Fs I 30 f b rv;obtain⟨i,o,_⟩:=F4 30 x a;obtain⟨j,b2,_⟩:=F4 30 y b;exact SeqAt.compareEq_reads ra g i j (by have:=c.un;omega) ⟨.bl _,H,I,rfl,q⟩
def kD {k:Nat}(c:Room k X.A):EZ X (compareOp .NotEq) (gH X.K true):=by intro zj s l H u v m n Q I d rv h;obtain⟨T,M,x,y,e,f,a,b,q⟩:=h;obtain⟨as,ra⟩:=Fs I 30 e a d;obtain⟨bs,g⟩:=Fs I 30 f b rv;obtain⟨i,o,_⟩:=F4 30 x a;obtain⟨j,b2,_⟩:=F4 30 y b;exact SeqAt.compareNe_reads ra g i j (by have:=c.un;omega) ⟨.bl _,H,I,rfl,q⟩
def MZ:JT:=λx y Q=>match cf x y with | some b=>Q (.bl b)|none=>(EM 30 x=true/\EM 30 y=true)/\Q (.bl (jT x y))
def Ym:JT:=λx y Q=>match cf x y with | some b=>Q (.bl (!b))|none=>(EM 30 x=true/\EM 30 y=true)/\Q (.bl (!jT x y))
def oC (K:AAB):R2:=λx y H Q=>uX x y H Q\/gH K false x y H Q
def oH (K:AAB):R2:=λx y H Q=>uY x y H Q\/gH K true x y H Q
def Du {k:Nat}(c:Room k X.A):EZ X (compareOp .Eq) (oC X.K)/\CW X.K (oC X.K) MZ:=by
 refine⟨nk.or (kB c),λT M H u v x y Q d va a rv h k=> ?_⟩;unfold MZ at h;split at h
 .rename_i b e;obtain⟨h1,h2⟩:=Ua a rv e;refine .inl ⟨h1, ?_⟩;rw[h2];exact k _ _ T H (.refl va.tp) (.bl _) h
 .exact .inr ⟨T,M,x,y,a,rv,h.1.1,h.1.2,k _ _ T H (.refl va.tp) (.bl _) h.2⟩
def QR {k:Nat}(c:Room k X.A):EZ X (compareOp .NotEq) (oH X.K)/\CW X.K (oH X.K) Ym:=by
 refine⟨nr.or (kD c),λT M H u v x y Q d va a rv h k=> ?_⟩;unfold Ym at h;split at h
 .rename_i b e;obtain⟨h1,h2⟩:=Ua a rv e;refine .inl ⟨h1, ?_⟩;rw[h2];exact k _ _ T H (.refl va.tp) (.bl _) h
 .exact .inr ⟨T,M,x,y,a,rv,h.1.1,h.1.2,k _ _ T H (.refl va.tp) (.bl _) h.2⟩
def J3:PV->zq | .tup _=>true | .lst _=>true|_=>false
@[irreducible] def oU (x:PV):Str:=(pd x).shown
structure O6 (x:PV):Prop where
 ok:EM 30 x=true
 sh:(pd x).showable=true
 sz:(pd x).shown.length<=sizeLine
@[irreducible] def Np:AF:=λxs Q=>match xs with | [.non] =>Q (.str "None") | [x] =>J3 x=true/\O6 x/\Q (.str (oU x))|_=>False
def kW (K:AAB):zy V->Hp->VK->Prop:=λus H Q=>(us= [.non] /\Q (.str "None") H)\/∃(T M:zu->Prop) (u:V) (x:PV),us= [u] /\CL K T M H u x/\J3 x=true/\O6 x/\Q (.str (oU x)) H
def Yf {k:Nat}(c:Room k X.A):Cs X (.type "str") (kW X.K):=by
 intro zj s j H us vs Q I r h;rcases h with⟨rfl,q⟩|⟨T,M,u,x,rfl,d,hq,ok,q⟩
 .cases r with
  | cons r t=> cases t;cases r;exact P.str_of_none ⟨.str _,H,I.tok _,⟨_,rfl⟩,q⟩
 .cases r with
  | cons r t=>
    cases t;obtain⟨as,ra⟩:=Fs I 30 d ok.ok r;obtain⟨l,m,f⟩:=F4 30 x ok.ok;have hv:∃a,u= .ref a:=by cases d <;> first | exact⟨_,rfl⟩|(simp[J3] at hq)
    obtain⟨a,rfl⟩:=hv;cases r;have g:Q (.str (pd x).shown) H:=by unfold oU at q;exact q
    refine str_of_reads ra ok.sh (λz=>by rw[f] at z;cases z) c.gd (by have:=c.un;omega) (λb o e=>e) (λh' t i hk=> ?_) ok.sz;exact⟨.str _,H,I.kept (t':=i) hk,⟨_,rfl⟩,g⟩
def R0 {k:Nat}(a:Room k X.A):Cs X (.type "str") (kW X.K)/\E4 X.K (kW X.K) Np:=by
 refine⟨Yf a,λT M H us xs Q b va r h k=> ?_⟩;unfold Np at h;split at h <;> first | exact h.elim|skip
 .cases r with | cons r t=>cases t;cases r;exact .inl ⟨rfl,k _ _ T H (.refl va.tp) (.str _) h⟩
 .cases r with | cons r t=>cases t;exact .inr ⟨T,M,_,_,rfl,r,h.1,h.2.1,k _ _ T H (.refl va.tp) (.str _) h.2.2⟩
end
section
variable {prog:zp}{w:zm}{A:zk}{E:zx->zw->Prop}{s:zw}
def Lo {h:zl}{l:zu}{items:Array zx}(hl:h.IsList l items)(o:Obj):(h.push o).IsList l items:=by obtain⟨a,e,r⟩:=hl;exact⟨a,AAH _ e,r⟩
theorem P6 {it t:zu}{items:Array zx}(f:t≠it):∀(n i:Nat) (s:zw) (Q:zy zx->zw->Prop),s.heap.IsListIter it t i->s.heap.IsList t items->i+n<=items.size-> (∀h',h'.IsListIter it t (i+n)->Heap.SameBut it s.heap h'->Q ((items.toList.drop i).take n) {s with heap:=h'})->wpAny (model prog w) A (draw (.ref it) n) Q E s
 | 0,i,s,Q,hit,_,_,hQ=>by show wpAny _ _ (pure []) Q E s;exact AAC (by simpa using hQ s.heap hit (Heap.SameBut.refl ..))
 | n+1,i,s,Q,hit,ht,Zf,hQ=>by
   have g:i<items.size:=by omega
   show wpAny _ _ (pyNext (.ref it) >>= _) Q E s;refine AAA (wpAny_pyNext_list_item hit ht (x:=items[i]) (by simp[g]) λh b a=> ?_);refine AAA (AAl (P6 f n (i+1) _ _ b (ht.extBut a.extBut f) (by omega) λe c d=>AAC ?_));have hd:items.toList.drop i=items[i] :: items.toList.drop (i+1):=by simp[ABh,g]
   have:=hQ e (by rw[show i+(n+1)=i+1+n by omega];exact c) (a.trans d);rw[hd,ADS] at this;exact this
def LZ {t:zu}{items:Array zx}{Q:zy zx->zw->Prop}(k:A.handled=none)(g:s.heap.IsList t items)(hQ:∀h',Heap.ExtBut s.heap.objs.size s.heap h'->Q items.toList {s with heap:=h'}):wpAny (model prog w) A (unpackItems (.ref t) items.size none) Q E s:=by
 have j:t≠s.heap.objs.size:=by obtain⟨o,l,_⟩:=g;exact AAL (AAG l)
 unfold unpackItems;refine AAA ?_
 .unfold notIterableAtAll;refine AAA (ABb g.typeIs slot_list_iter.lookup ?_);refine AAC ?_;simp only[AAq,AAc];refine AAA (AAl (ACF g ?_));refine AAA (AAl (P6 j items.size 0 _ _ ⟨_,AAS _ rfl,rfl,rfl⟩ (Lo g _) (by omega) λh c a=> ?_));have m:List.take items.size (List.drop 0 items.toList)=items.toList:=by rw[List.drop_zero];exact ABV (by simp)
  rw[m];rw[AAD (by simp)];have d:h.IsList t items:=(Lo g _).extBut a.extBut j;refine AAA (AAl (wpAny_pyNext_list_end k c d (by simp) λi f=> ?_));simp only[Option.isSome_none,AAq,AAc];refine AAC (hQ i λb o hb e=>f b o hb (a.extBut b o hb (AAH _ e)))
def Jn {env:Env}{elts:zy zr}{x1}{a:Pos}{t:zu}{items:Array zx}{Q:Unit->zw->Prop}(b:A.handled=none)(c:s.heap.IsList t items)(d:(assignEach elts env).length=items.size)(e:(assignEach elts env).findIdx? (·.1)=none)(h:∀h',Heap.ExtBut s.heap.objs.size s.heap h'->wpAny (model prog w) A (assignInOrder ((assignEach elts env).map (·.2)) items.toList) Q E {s with heap:=h'}):wpAny (model prog w) A (assign (.Tuple elts x1 a) env (.ref t)) Q E s:=by rw[assign_Tuple];refine AAA (AAy ?_);unfold unpack;rw[d,e];exact AAA (AAl (LZ b c h))
end
section
variable {X:Cx}{pos:Pos}
def PH (K:AAB)(n:Nat)(t:VA):TG:=λv b H Q=>∃a xs,v= .ref a/\(MG K H a xs\/FH K H a xs)/\xs.length=n/\t xs b H Q
def OG {es:zy zr}{k:Nat}{t:VA}{n:Nat}(hc:X.calm=true)(h:lc X es t)(i:(assignEach es X.env).length=n:=by rfl)(j:(assignEach es X.env).findIdx? (·.1)=none:=by rfl):PG X (.Tuple es k pos) (PH X.K n t):=by
 intro zj s c H v u Q I r hw;obtain⟨a,xs,l,hq,hl,hw⟩:=hw;subst l;cases r;rcases hq with hq|hq
 .obtain ⟨d,rv,f,hz⟩:=I.tuple hq;refine assign_Tuple_tuple (I.ok.hd hc) f (by simp[i,<-hl,rv.length]) j λh' hx=> ?_;have g:Inv X zj c H {s with heap:=h'}:=I.kept (t':=s.toks) λb o e=>hx b o (AAL (AAG e)) e;exact h zj _ c H xs _ Q g (by simpa using rv) hw
 .obtain ⟨d,rv,f,hz⟩:=I.list hq;refine Jn (I.ok.hd hc) f.isList (by simp[i,<-hl,rv.length]) j λh' hx=> ?_;have g:Inv X zj c H {s with heap:=h'}:=I.kept (t':=s.toks) λb o e=>hx b o (AAL (AAG e)) e;exact h zj _ c H xs _ Q g (by simpa using rv) hw
def JU (n:Nat)(r:Up):AG:=λx τ Q=>Om x λxs=>xs.length=n/\r xs τ Q
def cy {K:AAB}{n:Nat}{gs:VA}{a:Up}(s:Pt K gs a):Ky K (PH K n gs) (JU n a):=λB T c τ H v x Q d e r h k=>by
 obtain⟨xs,hx,h⟩:=Ir h;rcases hx with rfl|rfl
 .obtain ⟨p,vs,rfl,hq,b⟩:=Eu r;exact⟨p,vs,rfl, .inl hq,by rw[b.length];exact h.1,s B T c τ H vs _ Q d e b h.2 k⟩
 .obtain ⟨p,vs,rfl,hq,f,g,b⟩:=DU r;exact⟨p,vs,rfl, .inr (.inl (.inl hq)),by rw[b.length];exact h.1,s B T c τ H vs _ Q d e b h.2 k⟩
def Cg {es:zy zr}{k:Nat}{a:Up}{n:Nat}(hc:X.calm=true)(h:pC X es a)(b:(assignEach es X.env).length=n:=by rfl)(c:(assignEach es X.env).findIdx? (·.1)=none:=by rfl):SG X (.Tuple es k pos) (JU n a):=
 let ⟨_,p,s⟩:=h;⟨_,OG hc p b c,cy s⟩
def ab {own:Nat}{K:AAB}{n:Nat}{t:VA}(h:NT own t):IM own (PH K n t):=λv b H Q ⟨a,xs,e,h1,h2,c⟩=>⟨a,xs,e,h1,h2,h xs b H Q c⟩
def OZ {own:Nat}{es:zy zr}{k:Nat}{b:Up}{n:Nat}(hc:X.calm=true)(h:pD own X es b)(c:(assignEach es X.env).length=n:=by rfl)(d:(assignEach es X.env).findIdx? (·.1)=none:=by rfl):SK own X (.Tuple es k pos) (JU n b):=
 let ⟨_,p,s,f,m⟩:=h;⟨_,OG hc p c d,cy s,ab f,λv i H Q j z ⟨a,xs,e,h1,h2,g⟩=>⟨a,xs,e,h1,h2,m _ _ _ _ _ z g⟩⟩
def jk:lf X .Mult (λx y H Q=>∃i j,x= .int i/\y= .int j/\MulOk i j/\Q (.int (i*j)) H):=by intro zj s f H x y v u Q I a b h;obtain⟨i,j,d,e,c,q⟩:=h;subst d;subst e;obtain⟨t,rfl⟩:=a;obtain⟨t',rfl⟩:=b;exact AutoIntOps.imul_0 (show (Made.int (i*j)).post _ _ from⟨.int _,H,I.tok _,⟨_,rfl⟩,q⟩) (.of_le (Hc c.l) (Hc c.r) (by decide))
def lC:lf X .Mult (λx y H Q=>∃i j,x= .int i/\y= .int j/\MulOk i j/\Q (.int (i*j)) H)/\CW X.K (λx y H Q=>∃i j,x= .int i/\y= .int j/\MulOk i j/\Q (.int (i*j)) H) DJ:=⟨jk,λT M H u v x y Q b va a rv h k=>by
 obtain⟨i,j,rfl,rfl,c,q⟩:=Md h;exact⟨i,j,a.toI,rv.toI,c,k _ _ T H (.refl va.tp) (.int _) q⟩⟩
end
def Ob {i:Int}(a:0<=i)(b:i<2147483647): -(2^64)<i/\i<2^64:=⟨by omega,by omega⟩
def wX (b:zq):(0:Int)<=(if b=true then 1 else 0):=by cases b <;> decide
def t6 (b:zq): -(2^64)<(if b=true then (1:Int) else 0)/\(if b=true then (1:Int) else 0)<2^64:=by cases b <;> decide
def dO {T:zu->Prop}{H:Hp}{p:zu}{d x:Int}(tp:∀a,T a->Ek H a)(t:T p)(c:0<=d)(f:0<=x)(g:x<2147483647):DB T H T (upd H p (.lst [.int d, .int x])) where
 keep:=λb o n e=>by rw[Aa (λz=>n (by subst z;exact t))];exact e
 sub:=λ_ t=>t
 new:=λ_ t=> .inl t
 tp:=λa h=>by
  by_cases z:a=p
  .subst z;exact⟨d,x,Ad,c,f,g⟩
  .obtain ⟨d',i,e,q⟩:=tp a h;exact⟨d',i,by rw[Aa z];exact e,q⟩
def dM {T:zu->Prop}{H:Hp}{p:zu}{d x:Int}(tp:∀a,T a->Ek H a)(hp:H p=none)(f:0<=d)(g:0<=x)(h:x<2147483647):DB T H (λb=>T b\/b=p) (upd H p (.lst [.int d, .int x])) where
 keep:=λb o n e=>by rw[Aa (Ah e hp)];exact e
 sub:=λ_ t=> .inl t
 new:=λb t=>t.elim .inl λz=> .inr (by subst z;exact hp)
 tp:=λa c=>by
  by_cases z:a=p
  .subst z;exact⟨d,x,Ad,f,g,h⟩
  .rcases c with c|c
   .obtain ⟨d',i,e,q⟩:=tp a c;exact⟨d',i,by rw[Aa z];exact e,q⟩
   .exact absurd c z
def law_sp {K:AAB}{H:Hp}{a:zu}{b:zy Int}{F:AF}(c:FH K H a (b.map V.int))(h:F [.scr b] λx=>x= .bl true):Cc K 1 F [.ref a] H (λv _=>v= .bl true) λ_ _ _=>False:=by
 refine⟨λ_=>False,λ_=>False, [.scr b],_,⟨λ_ z=>z.elim,λ_ z=>z.elim⟩,λ_ z=>z.elim, .cons (.scr ?_) .nil,rfl,h,λv x d f _ r e=> ?_⟩
 .rcases c with h|h
  .exact .inl ⟨h,id,id⟩
  .exact .inr λH=> .inr h
 .subst e;cases r;rfl
theorem Hg {g:AG}{b:AS}{D:Gd}(a:zy PV->A6->Prop)(hd:∀τ,a [] τ->D.nx τ)(hs:∀x r τ (R:A6->Prop),(∀τ,a r τ->R τ)->a (x::r) τ->g x τ λc=>b {D with nx:=R,ct:=R,bk:=D.nx} c):∀xs τ,a xs τ->DK g b D xs τ
 | [],τ,h=>hd τ h
 | x::r,τ,h=>hs x r τ _ (λd h2=>Hg a hd hs r d h2) h
theorem W8 {g:AG}{t:AT}{te:AE}{b:A6}{Q:zy PV->Prop}(c:zy PV->zy PV->Prop)(hd:∀a,c [] a->Q a)(hs:∀x r a (R:zy PV->Prop),(∀a,c r a->R a)->c (x::r) a->g x b λd=>t d λok=>if ok=true then te d λy=>R (a ++ [y]) else R a):∀xs a,c xs a->CJ g t te b Q xs a
 | [],a,h=>hd a h
 | x::r,a,h=>hs x r a _ (λe h2=>W8 c hd hs r e h2) h
theorem Wo {c:AT}{b:AS}{D:Gd}(a:Nat->A6->Prop)(e:∀τ,¬a 0 τ)(hs:∀n τ (R:A6->Prop),(∀τ,a n τ->R τ)->a (n+1) τ->c (frz τ) λk=>if k=true then b {D with nx:=R,ct:=R,bk:=D.nx} τ else D.nx τ):∀n τ,a n τ->Uk c b D n τ
 | 0,τ,h=>absurd h (e τ)
 | n+1,τ,h=>hs n τ _ (λd h2=>Wo a e hs n d h2) h
def KH (lo:Int)(n:Nat):rng lo (n+1)= .int lo::rng (lo+1) n:=by
 unfold rng;rw[List.range_succ_eq_map,AAK,AAd];congr 1
 .simp
 .apply AA6;intro k _;simp only[Function.comp];congr 1;omega
def WD (lo:Int)(n:Nat):(rng lo n).length=n:=by simp[rng]
end PL
namespace PL
open PySem L2 PyProof.Rows
def fr (r:Rat):PV:= .tup [.int r.num, .int (r.den:Int)]
def Il {b:zq}{A B:Prop}(h1:b=true->A)(h2:b=false->B):if b=true then A else B:=by
 cases b with
 | true=>rw[AAE rfl];exact h1 rfl
 | false=>rw[AAD AAQ];exact h2 rfl
structure Bd (n:Nat) (r:Rat):Prop where
 top:r.num.natAbs<2^n
 bot:r.den<2^n
def Bd.botI {n:Nat}{r:Rat}(b:Bd n r):(r.den:Int).natAbs<2^n:=by simpa using b.bot
def OH {m n:Nat}(h:m<=n):2^m<=2^n:=Nat.pow_le_pow_right (by decide) h
def Bd.mono {m n:Nat}{r:Rat}(b:Bd m r)(h:m<=n):Bd n r:=⟨AAX b.top (OH h),AAX b.bot (OH h)⟩
def Vz {a b m n:Nat}(ha:a<2^m)(hb:b<2^n):a*b<2^(m+n):=by rw[Nat.pow_add];exact Nat.mul_lt_mul_of_lt_of_le ha (ACb hb) (Nat.pos_of_ne_zero (by intro z;rw[z] at hb;omega)) |> λh=>h
def Bk {a b:Int}{m n:Nat}(ha:a.natAbs<2^m)(hb:b.natAbs<2^n):(a*b).natAbs<2^(m+n):=by rw[ADT];exact Vz ha hb
def W0 {a b:Int}{n:Nat}(ha:a.natAbs<2^n)(hb:b.natAbs<2^n):(a+b).natAbs<2^(n+1):=by rw[Nat.pow_succ];omega
def YD {a b:Int}{n:Nat}(ha:a.natAbs<2^n)(hb:b.natAbs<2^n):(a-b).natAbs<2^(n+1):=by rw[Nat.pow_succ];omega
def A7 {a m n:Nat}(h:a<2^m)(b:m<=n):a<2^n:=AAX h (OH b)
def MulOk.of {a b:Int}{m n:Nat}(ha:a.natAbs<2^m)(hb:b.natAbs<2^n)(c:m<=1000000:=by omega)(d:n<=1000000:=by omega):MulOk a b:=⟨A7 ha c,A7 hb d⟩
def VR (t b:Int):(Rat.divInt t b).num.natAbs<=t.natAbs:=by
 rw[ACu];by_cases h:b=0
 .subst h;simp
 .have e:(b.gcd t:Int) ∣ b.sign*t:=Int.dvd_trans (Int.gcd_dvd_right ..) (Int.dvd_mul_left ..);rw[Int.natAbs_ediv_of_dvd e,ADT];refine AAh (ABi _ _) ?_;rw[Int.natAbs_sign_of_ne_zero h];omega
def VQ (t b:Int)(h:b≠0):(Rat.divInt t b).den<=b.natAbs:=by rw[ADU,AAD h];exact ABi _ _
def Bd.divInt {n:Nat}{t b:Int}(h:b≠0)(a:t.natAbs<2^n)(hb:b.natAbs<2^n):Bd n (Rat.divInt t b):=
 ⟨AA1 (VR t b) a,AA1 (VQ t b h) hb⟩
def Bf (a:Rat):(a.den:Int)≠0:=by have:=a.den_pos;omega
def Ie (a b:Rat):a+b=Rat.divInt (a.num*b.den+b.num*a.den) (a.den*b.den):=by have h:=ADn a.num b.num (Bf a) (Bf b);rw[ABL,ABL] at h;exact h
def JQ (a b:Rat):a-b=Rat.divInt (a.num*b.den-b.num*a.den) (a.den*b.den):=by have h:=Rat.divInt_sub_divInt a.num b.num (Bf a) (Bf b);rw[ABL,ABL] at h;exact h
def Ip (a b:Rat):a*b=Rat.divInt (a.num*b.num) (a.den*b.den):=by have h:=ADo a.num b.num (d₁:=a.den) (d₂:=b.den);rw[ABL,ABL] at h;exact h
def Ii (a b:Rat):a/b=Rat.divInt (a.num*b.den) (a.den*b.num):=by rw[ACv,Rat.inv_def];have h:=ADo a.num b.den (d₁:=a.den) (d₂:=b.num);rw[ABL] at h;exact h
def Dm {a b:Int}(ha:a≠0)(hb:b≠0):a*b≠0:=Int.mul_ne_zero ha hb
def V0 {b:Rat}(h:b≠0):b.num≠0:=λz=>h (Rat.num_eq_zero.mp z)
def Bd.add {m n:Nat}{a b:Rat}(ha:Bd m a)(hb:Bd n b):Bd (m+n+1) (a+b):=by
 rw[Ie];refine .divInt (Dm (Bf a) (Bf b)) (W0 (Bk ha.top (by simpa using hb.bot)) ?_) ?_
 .rw [Nat.add_comm m n];exact Bk hb.top (by simpa using ha.bot)
 .exact A7 (Bk (by simpa using ha.bot) (by simpa using hb.bot)) (by omega)
def Bd.sub {m n:Nat}{a b:Rat}(ha:Bd m a)(hb:Bd n b):Bd (m+n+1) (a-b):=by
 rw[JQ];refine .divInt (Dm (Bf a) (Bf b)) (YD (Bk ha.top (by simpa using hb.bot)) ?_) ?_
 .rw [Nat.add_comm m n];exact Bk hb.top (by simpa using ha.bot)
 .exact A7 (Bk (by simpa using ha.bot) (by simpa using hb.bot)) (by omega)
def Bd.mul {m n:Nat}{a b:Rat}(ha:Bd m a)(hb:Bd n b):Bd (m+n) (a*b):=by rw[Ip];exact .divInt (Dm (Bf a) (Bf b)) (Bk ha.top hb.top) (Bk (by simpa using ha.bot) (by simpa using hb.bot))
def Bd.div {m n:Nat}{a b:Rat}(h:b≠0)(ha:Bd m a)(hb:Bd n b):Bd (m+n) (a/b):=by rw[Ii];exact .divInt (Dm (Bf a) (V0 h)) (Bk ha.top (by simpa using hb.bot)) (Bk (by simpa using ha.bot) hb.top)
def Bd.neg {n:Nat}{a:Rat}(ha:Bd n a):Bd n (-a):=⟨by show (-a.num).natAbs<_;rw[ABy];exact ha.top,ha.bot⟩
def aW (n:Int):fr (n:Rat)= .tup [.int n, .int 1] :=by simp[fr]
def Bd.int {n:Int}{k:Nat}(h:n.natAbs<2^k)(hk:1<=k):Bd k (n:Rat):=⟨by simpa using h,by simp;omega⟩
def Zl:AS:=
 (AY (Ic (A1 (AW Ym (aV 1) (aC (.int 0)))) (YX 0 1 (AB (aV 1) (AB (AW TL (aV 0) (aV 1)) AL))))
   (Ar (aV 0)))
def Gy:AF:=Ak 2 Zl
def Lh (x y:Nat)(Q:PV->Prop)(h:Q (.int (Nat.gcd x y:Nat))):Gy [.int x, .int y] Q:=by
 have go:∀y x:Nat,∀D:Gd,D.nx [some (.val (.int (Nat.gcd x y:Nat))),some (.val (.int 0))] ->∃n,Uk (A1 (AW Ym (aV 1) (aC (.int 0)))) (YX 0 1 (AB (aV 1) (AB (AW TL (aV 0) (aV 1)) AL))) D n [some (.val (.int x)),some (.val (.int y))] :=by
  intro y;induction y using Nat.strongRecOn with
  | _ y ih=>
    intro x D c;by_cases hy:y=0
    .subst hy;refine⟨1, ?_⟩;rw[Nat.gcd_zero_right] at c;exact c
    .obtain ⟨n,a⟩:=ih (x % y) (Nat.mod_lt _ (by omega)) y D (by rw[ABz y,<-Nat.gcd_rec,ABz y];exact c);refine⟨n+1, ?_⟩;refine Il (b:= !decide ((y:Int)=0)) (λ_=> ?_) (λz=> ?_)
     .have d:(x:Int).fmod (y:Int)=((x % y:Nat):Int):=by rw[ADH _ (by omega)];simp
      refine⟨by omega, ?_⟩;rw[<-d] at a;exact a
     .have:(y:Int)=0:=by simpa using z
      omega
 obtain⟨n,a⟩:=go y x {nx:=λτ=>Ar (aV 0) {nx:=λ_=>Q .non,rt:=Q,bk:=λ_=>False,ct:=λ_=>False} τ,rt:=Q,bk:=λ_=>False,ct:=λ_=>False} h;exact⟨n,a⟩
def YH:AS:=
 (AY (CZ (A1 (AW aS (aV 1) (aC (.int 0)))) (Aj (YY Nj (aV 2)) (An 2)) BZ)
   (Ar (BL (AB (AW TK (aV 0) (aV 2)) (AB (AW TK (aV 1) (aV 2)) AL)))))
def ij:AS:=
 (AY (Aj (AN 2 Gy (AB (FI Yo (AB (aV 0) AL)) (AB (FI Yo (AB (aV 1) AL)) AL))) (An 2))
   YH)
def Fw:AF:=Ak 3 ij
def bY (t b:Int)(hb:b≠0):∀s:Int,s=(if b<0 then -(Nat.gcd t.natAbs b.natAbs:Int) else (Nat.gcd t.natAbs b.natAbs:Int))->s≠0/\t.fdiv s=(Rat.divInt t b).num/\b.fdiv s=((Rat.divInt t b).den:Int):=by
 intro s hs;have g:0<Nat.gcd t.natAbs b.natAbs:=AB0 _ (by omega);have f:b.gcd t=Nat.gcd t.natAbs b.natAbs:=by rw[ADp,ABz]
 have a:(Nat.gcd t.natAbs b.natAbs:Int) ∣ t:=by rw[<-Int.dvd_natAbs];exact Int.ofNat_dvd.mpr (Nat.gcd_dvd_left ..)
 have c:(Nat.gcd t.natAbs b.natAbs:Int) ∣ b:=by rw[<-Int.dvd_natAbs];exact Int.ofNat_dvd.mpr (ACH ..)
 have d:s ∣ t:=by rw[hs];split <;> first | exact Int.neg_dvd.mpr a|exact a
 have e:s ∣ b:=by rw[hs];split <;> first | exact Int.neg_dvd.mpr c|exact c
 refine⟨by rw[hs];split <;> omega, ?_, ?_⟩
 .rw [ADq d,ACu,f,hs];by_cases h:b<0
  .rw [AAE h,ADr h,Int.ediv_neg];have:(-1:Int)*t= -t:=by omega
   rw[this,Int.neg_ediv_of_dvd a]
  .rw [AAD h,ADV (by omega),Int.one_mul]
 .rw [ADq e,ADU,AAD hb,f,hs];by_cases h:b<0
  .rw [AAE h,Int.ediv_neg];have:(b.natAbs:Int)= -b:=by omega
   rw[ABj,this,Int.neg_ediv_of_dvd c]
  .rw [AAD h];have:(b.natAbs:Int)=b:=by omega
   rw[ABj,this]
def EX (t b:Int)(hb:b≠0)(f:b.natAbs<2^8900)(Q:PV->Prop)(h:Q (fr (Rat.divInt t b))):Fw [.int t, .int b] Q:=by
 have g:0<Nat.gcd t.natAbs b.natAbs:=AB0 _ (by omega);have gl:Nat.gcd t.natAbs b.natAbs<2^8900:=AA1 (ACw (by omega) (ACH ..)) f;obtain⟨a,c,d⟩:=bY t b hb _ rfl;refine⟨rfl,Lh _ _ _ ?_⟩;refine Il (b:=decide (b<0)) (λz=> ?_) (λz=> ?_)
 .have e:b<0:=ABX z;rw[AAE e] at a c d;refine⟨⟨a,by rw[ABy];exact gl⟩,⟨a,by rw[ABy];exact gl⟩,(show 2<=sizeLine by decide), ?_⟩;unfold fr at h;rw[<-c,<-d] at h;exact h
 .have e:¬b<0:=ABY z;rw[AAD e] at a c d;refine⟨⟨a,gl⟩,⟨a,gl⟩,(show 2<=sizeLine by decide), ?_⟩;unfold fr at h;rw[<-c,<-d] at h;exact h
def Bd.mt {n:Nat}{a b:Rat}(ha:Bd 4000 a)(hb:Bd 4000 b):MulOk a.num b.den/\MulOk b.num a.den/\MulOk a.den b.den/\MulOk a.num b.num/\MulOk a.den b.num:=
 ⟨.of ha.top (by simpa using hb.bot), .of hb.top (by simpa using ha.bot), .of (by simpa using ha.bot) (by simpa using hb.bot), .of ha.top hb.top, .of (by simpa using ha.bot) hb.top⟩
def P4 {a b:Rat}(ha:Bd 4000 a)(hb:Bd 4000 b):((a.den:Int)*(b.den:Int)).natAbs<2^8900:=A7 (Bk (a:=(a.den:Int)) (by simpa using ha.bot) (by simpa using hb.bot)) (by omega)
def ik:AS:=
 (Ar (AN 2 Fw (AB (AW BX (AW DJ (AW Am (aV 0) (aC (.int 0))) (AW Am (aV 1) (aC (.int 1)))) (AW DJ (AW Am (aV 1) (aC (.int 0))) (AW Am (aV 0) (aC (.int 1))))) (AB (AW DJ (AW Am (aV 0) (aC (.int 1))) (AW Am (aV 1) (aC (.int 1)))) AL))))
def Ku:AF:=Ak 2 ik
def YT {a b:Rat}(ha:Bd 4000 a)(hb:Bd 4000 b){Q:PV->Prop}(h:Q (fr (a+b))):Ku [fr a,fr b] Q:=by obtain⟨m1,m2,m3,_⟩:=Bd.mt (n:=0) ha hb;refine⟨m1,m2,m3,rfl,EX _ _ (Dm (Bf a) (Bf b)) (P4 ha hb) _ ?_⟩;rw[Ie] at h;exact h
def dn:AS:=
 (Ar (AN 2 Fw (AB (AW IC (AW DJ (AW Am (aV 0) (aC (.int 0))) (AW Am (aV 1) (aC (.int 1)))) (AW DJ (AW Am (aV 1) (aC (.int 0))) (AW Am (aV 0) (aC (.int 1))))) (AB (AW DJ (AW Am (aV 0) (aC (.int 1))) (AW Am (aV 1) (aC (.int 1)))) AL))))
def D8:AF:=Ak 2 dn
def U3 {a b:Rat}(ha:Bd 4000 a)(hb:Bd 4000 b){Q:PV->Prop}(h:Q (fr (a-b))):D8 [fr a,fr b] Q:=by obtain⟨m1,m2,m3,_⟩:=Bd.mt (n:=0) ha hb;refine⟨m1,m2,m3,rfl,EX _ _ (Dm (Bf a) (Bf b)) (P4 ha hb) _ ?_⟩;rw[JQ] at h;exact h
def dt:AS:=
 (Ar (AN 2 Fw (AB (AW DJ (AW Am (aV 0) (aC (.int 0))) (AW Am (aV 1) (aC (.int 0)))) (AB (AW DJ (AW Am (aV 0) (aC (.int 1))) (AW Am (aV 1) (aC (.int 1)))) AL))))
def Jj:AF:=Ak 2 dt
def U5 {a b:Rat}(ha:Bd 4000 a)(hb:Bd 4000 b){Q:PV->Prop}(h:Q (fr (a*b))):Jj [fr a,fr b] Q:=by obtain⟨_,_,m3,m4,_⟩:=Bd.mt (n:=0) ha hb;refine⟨m4,m3,rfl,EX _ _ (Dm (Bf a) (Bf b)) (P4 ha hb) _ ?_⟩;rw[Ip] at h;exact h
def ii:AS:=
 (Ar (AN 2 Fw (AB (AW DJ (AW Am (aV 0) (aC (.int 0))) (AW Am (aV 1) (aC (.int 1)))) (AB (AW DJ (AW Am (aV 0) (aC (.int 1))) (AW Am (aV 1) (aC (.int 0)))) AL))))
def NR:AF:=Ak 2 ii
def YS {a b:Rat}(c:b≠0)(ha:Bd 4000 a)(hb:Bd 4000 b){Q:PV->Prop}(h:Q (fr (a/b))):NR [fr a,fr b] Q:=by obtain⟨m1,_,_,_,m5⟩:=Bd.mt (n:=0) ha hb;refine⟨m1,m5,rfl,EX _ _ (Dm (Bf a) (V0 c)) (A7 (Bk (a:=(a.den:Int)) (by simpa using ha.bot) hb.top) (by omega)) _ ?_⟩;rw[Ii] at h;exact h
def Mq:AS:=
 (AY (Aj (AW IC (aC (.int 1)) (AW DJ (aC (.int 2)) (FI aZ (AB (AW aS (aV 1) (aC (.int 0))) AL)))) (An 2))
   (Ar (BL (AB (AW TK (AW DJ (aV 2) (aV 0)) (aV 3)) (AB (AW TK (AW DJ (aV 2) (aV 1)) (aV 3)) AL)))))
def Mp:AS:=
 (AY (Ic (A1 (AW aR (aV 4) (aC (.int 0)))) (YX 3 4 (AB (aV 4) (AB (AW TL (aV 3) (aV 4)) AL))))
   Mq)
def Se:AS:=
 (AY (YX 3 4 (AB (FI Yo (AB (aV 0) AL)) (AB (FI Yo (AB (aV 1) AL)) AL)))
   Mp)
def Az:AF:=Ak 5 Se
def RD (t b:Int)(hb:b≠0):∀s:Int,s=(if b<0 then -1 else 1)->(s*t).fdiv (Nat.gcd t.natAbs b.natAbs:Int)=(Rat.divInt t b).num/\(s*b).fdiv (Nat.gcd t.natAbs b.natAbs:Int)=((Rat.divInt t b).den:Int):=by
 intro s hs;have c:0<Nat.gcd t.natAbs b.natAbs:=AB0 _ (by omega);have a:b.gcd t=Nat.gcd t.natAbs b.natAbs:=by rw[ADp,ABz]
 have es:b.sign=s:=by
  rw[hs];split
  .rename_i h;exact ADr h
  .exact ADV (by omega)
 rw[ACu,ADU,AAD hb,a,es,ABT _ (by omega),ABT _ (by omega)];refine⟨rfl, ?_⟩;rw[ABj];congr 1;rw[hs];split <;> omega
def Ct (t b:Int)(hb:b≠0)(i:t.natAbs<2^900000)(d:b.natAbs<2^8900){Q:PV->Prop}(h:Q (fr (Rat.divInt t b))):Az [.int t, .int b] Q:=by
 have k:0<Nat.gcd t.natAbs b.natAbs:=AB0 _ (by omega);have gl:Nat.gcd t.natAbs b.natAbs<2^8900:=AA1 (ACw (by omega) (ACH ..)) d;have e:(1:Int)-2*(if decide (b<0)=true then 1 else 0)=(if b<0 then -1 else 1):=by by_cases z:b<0 <;> simp[z]
 obtain⟨j,a⟩:=RD t b hb _ e;have go:∀y x:Nat,∀D:Gd,∀u v w,D.nx [u,v,w,some (.val (.int (Nat.gcd x y:Nat))),some (.val (.int 0))] ->∃n,Uk (A1 (AW aR (aV 4) (aC (.int 0)))) (YX 3 4 (AB (aV 4) (AB (AW TL (aV 3) (aV 4)) AL))) D n [u,v,w,some (.val (.int x)),some (.val (.int y))] :=by
  intro y;induction y using Nat.strongRecOn with
  | _ y ih=>
    intro x D u v w c;by_cases hy:y=0
    .subst hy;refine⟨1, ?_⟩;rw[Nat.gcd_zero_right] at c;exact c
    .obtain ⟨n,f⟩:=ih (x % y) (Nat.mod_lt _ (by omega)) y D u v w (by rw[ABz y,<-Nat.gcd_rec,ABz y];exact c);refine⟨n+1, ?_⟩;refine Il (b:=decide (0<(y:Int))) (λ_=> ?_) (λz=> ?_)
     .have a:(x:Int).fmod (y:Int)=((x % y:Nat):Int):=by rw[ADH _ (by omega)];simp
      refine⟨by omega, ?_⟩;rw[<-a] at f;exact f
     .have:¬(0:Int)<y:=ABY z;omega
 refine go b.natAbs t.natAbs _ (some (.val (.int t))) (some (.val (.int b))) none ?_;have one:(1:Int).natAbs<2^1:=by decide
 have g:((1:Int)-2*(if decide (b<0)=true then 1 else 0)).natAbs<2^1:=by rw[e];split <;> decide
 refine⟨.of (m:=2) (n:=1) (by decide) (by split <;> decide), .of g i,⟨by omega,gl⟩, .of g d,⟨by omega,gl⟩,(show 2<=sizeLine by decide), ?_⟩;unfold fr at h;rw[<-j,<-a] at h;exact h
def C6 {m:Int}{Q:PV->Prop}(m0:0<m)(m1:m<4611686018427387904)(h:∀r,0<=r->r<m->Q (.int r)):A4 [.tape, .int m] Q:=⟨⟨m0,m1⟩,h⟩
mutual
def xn:Nat->PV->zq
 | 0,_=>false
 | _+1, .non=>true
 | _+1, .bl _=>true
 | _+1, .int _=>true
 | n+1, .tup xs=>nZ n xs&&decide (xs.length<sizeLine)
 | _+1,_=>false
def nZ:Nat->zy PV->zq
 | _, [] =>true
 | n,x::xs=>xn n x&&nZ n xs
end
def gi {t:Int}{n:Nat}(h:t.natAbs<2^n)(a:n<=900000:=by omega):t.natAbs<2^900000:=A7 h a
section
variable {a b:Rat}{Q:PV->Prop}
theorem jt (ha:Bd 4000 a)(hb:Bd 4000 b)(h:Q (fr (a+b))):Az [.int (a.num*b.den+b.num*a.den), .int (a.den*b.den)] Q:=
 Ct _ _ (Dm (Bf a) (Bf b)) (gi (W0 (n:=8000) (Bk ha.top hb.botI) (Bk hb.top ha.botI))) (P4 ha hb) (by rw[<-Ie];exact h)
theorem jw (ha:Bd 4000 a)(hb:Bd 4000 b)(h:Q (fr (a-b))):Az [.int (a.num*b.den-b.num*a.den), .int (a.den*b.den)] Q:=
 Ct _ _ (Dm (Bf a) (Bf b)) (gi (YD (n:=8000) (Bk ha.top hb.botI) (Bk hb.top ha.botI))) (P4 ha hb) (by rw[<-JQ];exact h)
theorem jv (ha:Bd 4000 a)(hb:Bd 4000 b)(h:Q (fr (a*b))):Az [.int (a.num*b.num), .int (a.den*b.den)] Q:=
 Ct _ _ (Dm (Bf a) (Bf b)) (gi (Bk ha.top hb.top)) (P4 ha hb) (by rw[<-Ip];exact h)
theorem ju (c:b≠0)(ha:Bd 4000 a)(hb:Bd 4000 b)(h:Q (fr (a/b))):Az [.int (a.num*b.den), .int (a.den*b.num)] Q:=
 Ct _ _ (Dm (Bf a) (V0 c)) (gi (Bk ha.top (by simpa using hb.bot))) (A7 (Bk (a:=(a.den:Int)) (by simpa using ha.bot) hb.top) (by omega)) (by rw[<-Ii];exact h)
end
def SZ {n:Int}{Q:PV->Prop}(h:Q (fr (n:Rat))):Q (.tup [.int n, .int 1]):=by rw[<-aW];exact h
def Bd.part {t b:Int}{n:Nat}(h:b≠0)(a:t.natAbs<2^n)(hb:b.natAbs<2^n):Bd n (Rat.divInt t b):= .divInt h a hb
def lz {a b:Nat}(h:Nat.ble a b=true:=by rfl):a<=b:=AAs h
structure Sh (d n:Nat) (x:PV):Prop where
 ok:EM d x=true
 sh:(pd x).showable=true
 sz:(pd x).shown.length<=n
mutual
theorem N7:∀{d e:Nat} (x:PV),d<=e->EM d x=true->EM e x=true
 | _,_, .non,_,_=>by simp[EM]
 | _,_, .bl _,_,_=>by simp[EM]
 | _,_, .int _,_,_=>by simp[EM]
 | _,_, .str x,_,h=>by simpa[EM] using h
 | 0,_, .tup xs,_,h=>by simp[EM] at h
 | 0,_, .lst xs,_,h=>by simp[EM] at h
 | d+1,0, .tup xs,h,_=>by omega
 | d+1,0, .lst xs,h,_=>by omega
 | d+1,e+1, .tup xs,h,k=>by simp only[EM] at k ⊢;exact LC xs (by omega) k
 | d+1,e+1, .lst xs,h,k=>by simp only[EM] at k ⊢;exact LC xs (by omega) k
 | _,_, .tape,_,h=>by simp[EM] at h
 | _,_, .scr _,_,h=>by simp[EM] at h
 | _,_, .dct _,_,h=>by simp[EM] at h
 | _,_, .dk _,_,h=>by simp[EM] at h
 | _,_, .ty _,_,h=>by simp[EM] at h
theorem LC:∀{d e:Nat} (xs:zy PV),d<=e->LB d xs=true->LB e xs=true
 | _,_, [],_,_=>by simp[LB]
 | _,_,x::xs,h,k=>by simp only[LB,AAn] at k ⊢;exact⟨N7 x h k.1,LC xs h k.2⟩
end
def Sh.mono {d n e m:Nat}{x:PV}(s:Sh d n x)(h1:d<=e)(h2:n<=m):Sh e m x:=⟨N7 x h1 s.ok,s.sh,AAh s.sz h2⟩
def Sh.go {d n:Nat}{x:PV}(s:Sh d n x)(h1:d<=30:=by omega)(h2:n<=16777216:=by omega):O6 x:=⟨N7 x h1 s.ok,s.sh,AAh s.sz h2⟩
def Sh.int {i:Int}(h:i.natAbs<2^1900):Sh 0 1902 (.int i):=by
 refine⟨rfl, ?_, ?_⟩
 .show decide (i.natAbs.log2<1920)=true;exact AAk (ACk (J5 h (by decide)) (by decide))
 .show (Str.ofString (toString i)).length<=1902;rw[PySem.ofString_length];exact AAh (int_text_length_le (k:=1900) (by decide) (J5 h (by decide))) (by decide)
theorem N8 {d:Nat}:∀{xs:zy PV},(∀x∈xs,EM d x=true)->LB d xs=true
 | [],_=>rfl
 | x::xs,h=>by simp only[LB,AAn];exact⟨h x (by simp),N8 λy hy=>h y (by simp[hy])⟩
theorem WQ:∀{xs:zy PV},(∀x∈xs,(pd x).showable=true)->PyData.showableAll (Rc xs)=true
 | [],_=>rfl
 | x::xs,h=>by simp only[Rc,PyData.showableAll,AAn];exact⟨h x (by simp),WQ λy hy=>h y (by simp[hy])⟩
theorem SX {n:Nat}:∀{xs:zy PV},(∀x∈xs,(pd x).shown.length<=n)->((PyData.shownAll (Rc xs)).map (·.length)).sum<=xs.length*n
 | [],_=>by simp[Rc,PyData.shownAll]
 | x::xs,h=>by simp only[Rc,PyData.shownAll,AAK,ACI,AAb];have h1:=h x (by simp);have h2:=SX (n:=n) (xs:=xs) λy hy=>h y (by simp[hy]);rw[Nat.succ_mul];omega
theorem GF:∀(xs:zy PV),(PyData.shownAll (Rc xs)).length=xs.length
 | [] =>rfl
 | x::xs=>by simp[Rc,PyData.shownAll,GF xs]
def Sh.tup {d n:Nat}{xs:zy PV}(h:∀x∈xs,Sh d n x):Sh (d+1) (xs.length*(n+2)+3) (.tup xs):=by refine⟨by simp only[EM];exact N8 λx hx=>(h x hx).ok,by simp only[pd,PyData.showable];exact WQ λx hx=>(h x hx).sh, ?_⟩;have h1:=SX (n:=n) (xs:=xs) λx hx=>(h x hx).sz;have h2:=tupleText_len_le (PyData.shownAll (Rc xs));rw[GF] at h2;simp only[pd,PyData.shown];rw[Nat.mul_add];omega
def Sh.lst {d n:Nat}{xs:zy PV}(h:∀x∈xs,Sh d n x):Sh (d+1) (xs.length*(n+2)+3) (.lst xs):=by refine⟨by simp only[EM];exact N8 λx hx=>(h x hx).ok,by simp only[pd,PyData.showable];exact WQ λx hx=>(h x hx).sh, ?_⟩;have h1:=SX (n:=n) (xs:=xs) λx hx=>(h x hx).sz;have h2:=listText_len_le (PyData.shownAll (Rc xs));rw[GF] at h2;simp only[pd,PyData.shown];rw[Nat.mul_add];omega
def nX {c:Type}{P:c->Prop}{a b:c}(ha:P a)(hb:P b):∀x∈ [a,b],P x:=λx hx=>by
 simp only[AAF,AAg,AAe] at hx;rcases hx with rfl|rfl
 .exact ha
 .exact hb
def Y6 {d:Type}{P:d->Prop}{a b c:d}(ha:P a)(hb:P b)(hc:P c):∀x∈ [a,b,c],P x:=λx hx=>by
 simp only[AAF,AAg,AAe] at hx;rcases hx with rfl|rfl|rfl
 .exact ha
 .exact hb
 .exact hc
def nY {e:Type}{P:e->Prop}{a b c d:e}(ha:P a)(hb:P b)(hc:P c)(hd:P d):∀x∈ [a,b,c,d],P x:=λx hx=>by
 simp only[AAF,AAg,AAe] at hx;rcases hx with rfl|rfl|rfl|rfl
 .exact ha
 .exact hb
 .exact hc
 .exact hd
def Sh.fr {r:Rat}(h:Bd 1900 r):Sh 1 4000 (fr r):=(Sh.tup (nX (Sh.int h.top) (Sh.int h.botI))).mono (by omega) lz
def aQ {d:Nat}{x:PV}(h:EM d x=true):jT x x=true:=SeqAt.eqv_refl _ (F4 d x h).1
def aP (a b:Rat):jT (fr a) (fr b)=decide (a=b):=by
 show (PyData.eqvAll [.int a.num, .int a.den] [.int b.num, .int b.den])=_;simp only[PyData.eqvAll,PyData.eqv];by_cases h:a=b
 .subst h;simp
 .have:¬(a.num=b.num/\(a.den:Int)=b.den):=λz=>h (Rat.ext z.1 (by omega));rw[AAZ h];simp only[Bool.and_true,Bool.and_eq_false_iff,ACa];by_cases h1:a.num=b.num
  .exact .inr λz=>this ⟨h1,z⟩
  .exact .inl h1
def Xh (d:Nat)(a:Rat):EM (d+1) (fr a)=true:=rfl
def nW {a b:Rat}:decide (a.num*(b.den:Int)<b.num*(a.den:Int))=decide (a<b):=by rw[ABM];exact(Rat.lt_iff a b).symm
def Zk:AS:=
 (Ar (AW aS (AW DJ (AW Am (aV 0) (aC (.int 0))) (AW Am (aV 1) (aC (.int 1)))) (AW DJ (AW Am (aV 1) (aC (.int 0))) (AW Am (aV 0) (aC (.int 1))))))
def A0:AF:=Ak 2 Zk
section
variable {a b:Rat}{Q:PV->Prop}
theorem E3 (ha:Bd 4000 a)(hb:Bd 4000 b)(h:Q (.bl (decide (a<b)))):A0 [fr a,fr b] Q:=by obtain⟨m1,m2,_⟩:=Bd.mt (n:=0) ha hb;refine⟨m1,m2, ?_⟩;rw[<-nW] at h;exact h
def Ur:AS:=
 (Ar (AN 2 Az (AB (AW BX (AW DJ (AW Am (aV 0) (aC (.int 0))) (AW Am (aV 1) (aC (.int 1)))) (AW DJ (AW Am (aV 1) (aC (.int 0))) (AW Am (aV 0) (aC (.int 1))))) (AB (AW DJ (AW Am (aV 0) (aC (.int 1))) (AW Am (aV 1) (aC (.int 1)))) AL))))
def BP:AF:=Ak 2 Ur
theorem DG (ha:Bd 4000 a)(hb:Bd 4000 b)(h:Q (fr (a+b))):BP [fr a,fr b] Q:=by obtain⟨m1,m2,m3,_⟩:=Bd.mt (n:=0) ha hb;exact⟨m1,m2,m3,rfl,jt ha hb h⟩
def Uq:AS:=
 (Ar (AN 2 Az (AB (AW IC (AW DJ (AW Am (aV 0) (aC (.int 0))) (AW Am (aV 1) (aC (.int 1)))) (AW DJ (AW Am (aV 1) (aC (.int 0))) (AW Am (aV 0) (aC (.int 1))))) (AB (AW DJ (AW Am (aV 0) (aC (.int 1))) (AW Am (aV 1) (aC (.int 1)))) AL))))
def BW:AF:=Ak 2 Uq
theorem Cd (ha:Bd 4000 a)(hb:Bd 4000 b)(h:Q (fr (a-b))):BW [fr a,fr b] Q:=by obtain⟨m1,m2,m3,_⟩:=Bd.mt (n:=0) ha hb;exact⟨m1,m2,m3,rfl,jw ha hb h⟩
def Mx:AS:=
 (Ar (AN 2 Az (AB (AW DJ (AW Am (aV 0) (aC (.int 0))) (AW Am (aV 1) (aC (.int 0)))) (AB (AW DJ (AW Am (aV 0) (aC (.int 1))) (AW Am (aV 1) (aC (.int 1)))) AL))))
def Bt:AF:=Ak 2 Mx
theorem Ci (ha:Bd 4000 a)(hb:Bd 4000 b)(h:Q (fr (a*b))):Bt [fr a,fr b] Q:=by obtain⟨m1,m2,m3,m4,_⟩:=Bd.mt (n:=0) ha hb;exact⟨m4,m3,rfl,jv ha hb h⟩
def Qa:AS:=
 (Ar (AN 2 Az (AB (AW DJ (AW Am (aV 0) (aC (.int 0))) (AW Am (aV 1) (aC (.int 1)))) (AB (AW DJ (AW Am (aV 0) (aC (.int 1))) (AW Am (aV 1) (aC (.int 0)))) AL))))
def C5:AF:=Ak 2 Qa
theorem GU (c:b≠0)(ha:Bd 4000 a)(hb:Bd 4000 b)(h:Q (fr (a/b))):C5 [fr a,fr b] Q:=by obtain⟨m1,m2,m3,m4,m5⟩:=Bd.mt (n:=0) ha hb;exact⟨m1,m5,rfl,ju c ha hb h⟩
end
def qR {t b:Int}(a:0<t)(hb:0<b):0<Rat.divInt t b:=by
 rw[Rat.lt_iff];have h1:=ACu t b;show (0:Int)*_<_*1;rw[Int.zero_mul,Int.mul_one,h1,ADV hb,Int.one_mul];have g:0<(b.gcd t:Int):=by have:=Int.gcd_pos_of_ne_zero_left t (show b≠0 by omega);omega
 exact Int.ediv_pos_of_pos_of_dvd a (by omega) (Int.gcd_dvd_right ..)
def JP {t b:Int}{Q:PV->Prop}(k:Nat)(hb:b≠0)(a:t.natAbs<2^k)(c:b.natAbs<2^k)(hk:k<=2000)(h:Bd k (Rat.divInt t b)->Q (fr (Rat.divInt t b))):Az [.int t, .int b] Q:=
 Ct t b hb (A7 a (by omega)) (A7 c (by omega)) (h (.part hb a c))
def Mul (D N:Nat)(a:Rat):Prop:=0<D/\∃k:Int,a=Rat.divInt k D/\k.natAbs<=N
def Mul.bd {D N n:Nat}{a:Rat}(h:Mul D N a)(h1:N<2^n)(h2:D<2^n):Bd n a:=by obtain⟨b,k,rfl,hk⟩:=h;exact .divInt (by omega) (by omega) (by simpa using h2)
def Mul.part {t b:Int}{c:Nat}(hb:0<b)(hc:0<c){N:Nat}(h:(t*c).natAbs<=N):Mul (b.toNat*c) N (Rat.divInt t b):=by
 refine⟨Nat.mul_pos (by omega) hc,t*c, ?_,h⟩;have e:((b.toNat*c:Nat):Int)=b*c:=by rw[ACx];congr 1;omega
 rw[e,(ADs (by omega) (Dm (by omega) (by omega)))];rw[Int.mul_comm b,Int.mul_assoc]
def Mul.add {D N M:Nat}{a b:Rat}(ha:Mul D N a)(hb:Mul D M b):Mul D (N+M) (a+b):=by obtain⟨c,k,rfl,hk⟩:=ha;obtain⟨_,l,rfl,hl⟩:=hb;refine⟨c,k+l, ?_,by omega⟩;rw[ADn _ _ (by omega) (by omega),ADs (Dm (by omega) (by omega)) (by omega)];rw[<-Int.add_mul,Int.mul_assoc]
def Mul.mono {D N M:Nat}{a:Rat}(h:Mul D N a)(b:N<=M):Mul D M a:=⟨h.1,let ⟨k,e,hk⟩:=h.2;⟨k,e,by omega⟩⟩
def Mul.int {n:Int}{D N:Nat}(a:0<D)(h:(n*D).natAbs<=N):Mul D N (n:Rat):=by
 have e:(n:Rat)=Rat.divInt n 1:=by rw[<-ABL (n:Rat)];simp
 rw[e];have:=Mul.part (t:=n) (b:=1) (c:=D) (by decide) a h;simpa using this
def Mz:AS:=
 (AY (CZ (A1 (AW aS (aV 1) (aC (.int 3)))) (Ar (BL (AB (AW BX (aC (.int 1)) (AN 2 A4 (AB (aV 0) (AB (aC (.int 5)) AL)))) (AB (aC (.int 1)) AL)))) BZ)
   (Ar (AN 2 Az (AB (AW BX (aC (.int 1)) (AN 2 A4 (AB (aV 0) (AB (aC (.int 8)) AL)))) (AB (AW IC (aV 1) (aC (.int 1))) AL)))))
def Sg:AS:=
 (AY (Aj (AN 2 A4 (AB (aV 0) (AB (aC (.int 5)) AL))) (An 1))
   Mz)
def Cu:AF:=Ak 2 Sg
def GV {Q:PV->Prop}(h:∀a,Bd 8 a->0<a->Mul 6 48 a->Q (fr a)):Cu [.tape] Q:=by
 refine⟨rfl,C6 (by decide) (by decide) λw g i=> ?_⟩;refine Il (b:=decide (w<3)) (λ_=> ?_) (λz=> ?_)
 .refine ⟨rfl,C6 (by decide) (by decide) λr d f=>⟨lz, ?_⟩⟩;exact SZ (h _ (.int (by omega) (by decide)) (by exact_mod_cast (by omega:(0:Int)<1+r)) (.int (by decide) (by omega)))
 .have j:¬w<3:=ABY z;have hw:w-1=2\/w-1=3:=by omega
  refine⟨rfl,C6 (by decide) (by decide) λr d f=>⟨rfl, ?_⟩⟩;refine JP 8 (by omega) (by omega) (by omega) (by decide) λb=>h _ b (qR (by omega) (by omega)) ?_;rcases hw with e|e
  .rw [e];exact Mul.part (t:=1+r) (b:=2) (c:=3) (by decide) (by decide) (by omega)
  .rw [e];exact Mul.part (t:=1+r) (b:=3) (c:=2) (by decide) (by decide) (by omega)
def NP {Q:PV->Prop}(h:∀a,Bd 8 a->0<a->Q (fr a)):Cu [.tape] Q:=GV λa b p _=>h a b p
def L0:AS:=
 (AY (CZ (A1 (AW MZ (aV 1) (aC (.int 6)))) (Ar (AN 2 Az (AB (AW IC (AN 2 A4 (AB (aV 0) (AB (aC (.int 25)) AL))) (aC (.int 6))) (AB (aC (.int 2)) AL)))) BZ)
   (Ar (AN 2 Az (AB (AW IC (AN 2 A4 (AB (aV 0) (AB (aC (.int 31)) AL))) (aC (.int 9))) (AB (aC (.int 3)) AL)))))
def Lz:AS:=
 (AY (CZ (A1 (AW aS (aV 1) (aC (.int 6)))) (Ar (BL (AB (AW IC (AN 2 A4 (AB (aV 0) (AB (aC (.int 10)) AL))) (aC (.int 3))) (AB (aC (.int 1)) AL)))) BZ)
   L0)
def QZ:AS:=
 (AY (Aj (AN 2 A4 (AB (aV 0) (AB (aC (.int 8)) AL))) (An 1))
   Lz)
def BC:AF:=Ak 2 QZ
def A2 {Q:PV->Prop}(h:∀a,Mul 6 60 a->Q (fr a)):BC [.tape] Q:=by
 refine⟨rfl,C6 (by decide) (by decide) λw f g=> ?_⟩;refine Il (b:=decide (w<6)) (λ_=> ?_) (λz=> ?_)
 .refine ⟨rfl,C6 (by decide) (by decide) λr d e=>⟨lz, ?_⟩⟩;exact SZ (h _ (.int (by decide) (by omega)))
 refine Il (b:=decide (w=6)) (λ_=> ?_) (λz=> ?_)
 .exact ⟨rfl,C6 (by decide) (by decide) λr d e=>⟨rfl,JP 8 (by omega) (by omega) (by omega) (by decide) λb=>h _ (Mul.part (t:=r-6) (b:=2) (c:=3) (by decide) (by decide) (by omega))⟩⟩
 .exact ⟨rfl,C6 (by decide) (by decide) λr d e=>⟨rfl,JP 8 (by omega) (by omega) (by omega) (by decide) λb=>h _ (Mul.part (t:=r-9) (b:=3) (c:=2) (by decide) (by decide) (by omega))⟩⟩
abbrev C4:=Rat×Rat×Rat×Rat
def cor (c:C4):PV:= .tup [fr c.1,fr c.2.1,fr c.2.2.1,fr c.2.2.2]
def corL (c:C4):PV:= .lst [fr c.1,fr c.2.1,fr c.2.2.1,fr c.2.2.2]
def Ba (cs:zy C4):PV:= .tup (cs.map cor)
structure FX (B:Nat) (c:C4):Prop where
 m:Bd B c.1
 x:Bd B c.2.1
 y:Bd B c.2.2.1
 z:Bd B c.2.2.2
def FX.mono {B a:Nat}{c:C4}(h:FX B c)(k:B<=a):FX a c:=⟨h.m.mono k,h.x.mono k,h.y.mono k,h.z.mono k⟩
structure NH (D N:Nat) (c:C4):Prop where
 m:Mul D N c.1
 x:Mul D N c.2.1
 y:Mul D N c.2.2.1
 z:Mul D N c.2.2.2
def NH.mono {D N M:Nat}{c:C4}(h:NH D N c)(k:N<=M):NH D M c:=⟨h.m.mono k,h.x.mono k,h.y.mono k,h.z.mono k⟩
def NH.bd {D N n:Nat}{c:C4}(h:NH D N c)(h1:N<2^n)(h2:D<2^n):FX n c:=⟨h.m.bd h1 h2,h.x.bd h1 h2,h.y.bd h1 h2,h.z.bd h1 h2⟩
def Lj (cs:zy C4):Prop:=cs.Pairwise λa b=>a.1<b.1
structure Wx (n D N:Nat) (cs:List C4):Prop where
 two:2<=cs.length
 few:cs.length<=n
 mu:∀c∈cs,NH D N c
 ris:Lj cs
structure FF (n B:Nat) (cs:List C4):Prop where
 two:2<=cs.length
 few:cs.length<=n
 bd:∀c∈cs,FX B c
 ris:Lj cs
def cT {cs:zy C4}{c d:C4}(h:Lj (cs ++ [c]))(hd:c.1<d.1):Lj (cs ++ [c] ++ [d]):=by
 refine AB1.mpr ⟨h,by simp,λa ha b hb=> ?_⟩;simp at hb;subst hb;rcases AAN.mp ha with ha|ha
 .have:=(AB1.mp h).2.2 a ha c (by simp);grind
 .simp at ha;subst ha;exact hd
def Jb:AS:=
 (AY (CZ (A1 (AW aR (aV 5) (aC (.int 3)))) (Aj (Ex (DI (AB (AN 1 BC (AB (aV 0) AL)) (AB (AN 1 BC (AB (aV 0) AL)) (AB (AN 1 BC (AB (aV 0) AL)) AL))))) (An 3)) (CZ (A1 (AW aR (aV 5) (aC (.int 0)))) (Aj (AW BX (AW BX (Z6 (aV 3) Z7 (Z8 (AW IC (aV 5) (aC (.int 1))))) (Ex (DI (AB (AN 1 BC (AB (aV 0) AL)) AL)))) (Z6 (aV 3) (Z8 (aV 5)) Z7)) (An 3)) BZ))
   (DX 4 Ga (AB (BL (AB (aV 2) (AB (AW Am (aV 3) (aC (.int 0))) (AB (AW Am (aV 3) (aC (.int 1))) (AB (AW Am (aV 3) (aC (.int 2))) AL))))) AL)))
def Ja:AS:=
 (AY (Aj (AN 2 A4 (AB (aV 0) (AB (aC (.int 6)) AL))) (An 5))
   Jb)
def Mr:AS:=
 (AY (Aj (AN 2 BP (AB (aV 2) (AB (AN 1 Cu (AB (aV 0) AL)) AL))) (An 2))
   Ja)
def Mw:AS:=
 (AY (Ic (A1 (AW aS (FI ID (AB (aV 4) AL)) (aV 1))) Mr)
   (Ar (FI DS (AB (aV 4) AL))))
def Mu:AS:=
 (AY (GY (DI (AB (BL (AB (aV 2) (AB (AW Am (aV 3) (aC (.int 0))) (AB (AW Am (aV 3) (aC (.int 1))) (AB (AW Am (aV 3) (aC (.int 2))) AL))))) AL)) 4)
   Mw)
def Mt:AS:=
 (AY (Aj (Ex (DI (AB (AN 1 BC (AB (aV 0) AL)) (AB (AN 1 BC (AB (aV 0) AL)) (AB (AN 1 BC (AB (aV 0) AL)) AL))))) (An 3))
   Mu)
def Gk:AS:=
 (AY (Aj (BL (AB (AN 2 A4 (AB (aV 0) (AB (aC (.int 12)) AL))) (AB (aC (.int 1)) AL))) (An 2))
   Mt)
def Ms:AS:=
 (AY (CZ (A1 (AW MZ (AN 2 A4 (AB (aV 0) (AB (aC (.int 8)) AL))) (aC (.int 0)))) (Aj (AW BX (aC (.int 7)) (AN 2 A4 (AB (aV 0) (AB (aC (.int 3)) AL)))) (An 1)) BZ)
   Gk)
def Sf:AS:=
 (AY (Aj (AW BX (aC (.int 2)) (AN 2 A4 (AB (aV 0) (AB (aC (.int 4)) AL)))) (An 1))
   Ms)
def E1:AF:=Ak 6 Sf
def Xm (many:Int)(B k f:zt AV)(j:zt AV)(I:2<=many)(h1:many<=9){Q:PV->Prop}(h:∀cs,Wx 9 6 512 cs->Q (Ba cs)):Gk {nx:=λ_=>Q .non,rt:=Q,bk:=λ_=>False,ct:=λ_=>False} [some (.val .tape),some (.val (.int many)),B,k,j,f] :=by
 refine⟨rfl,C6 (by decide) (by decide) λm m0 m1=>⟨lz, ?_⟩⟩;refine⟨rfl,A2 λx hx=>⟨rfl,A2 λy hy=>⟨rfl,A2 λz hz=>⟨lz, ?_⟩⟩⟩⟩;refine⟨lz,lz, ?_⟩;refine⟨(many-1).toNat+1,Wo (λn τ=>∃(cs:zy C4) (c:C4) (f:zt AV),n+(cs.length+1)=many.toNat+1/\1<=n/\(∀d∈cs ++ [c],NH 6 (66+48*cs.length) d)/\(Mul 6 60 c.2.1/\Mul 6 60 c.2.2.1/\Mul 6 60 c.2.2.2)/\Lj (cs ++ [c])/\
  τ= [some (.val .tape),some (.val (.int many)),some (.val (fr c.1)),some (.val (.lst [fr c.2.1,fr c.2.2.1,fr c.2.2.2])),some (.own ((cs ++ [c]).map cor)),f]) ?_ ?_ _ _ ⟨[],((m:Rat),x,y,z),f, ?_, ?_, ?_, ?_, ?_, ?_⟩⟩
 .rintro τ ⟨cs,c,f,_,C,_⟩;omega
 .rintro n τ R D ⟨cs,c,f,C,J,hb,g,r,rfl⟩;have t:(((cs ++ [c]).map cor).length:Int)=(cs.length:Int)+1:=by simp
  refine Il (b:=decide ((((cs ++ [c]).map cor).length:Int)<many)) (λz=> ?_) (λz=> ?_)
  .have l:(((cs ++ [c]).map cor).length:Int)<many:=ABX z;rw[t] at l;have u:=hb c (by simp);refine⟨rfl,GV λs E K F=>⟨rfl,DG ((u.m.bd (n:=12) (by omega) (by decide)).mono (by omega)) (E.mono (by omega)) ?_⟩⟩;refine⟨rfl,C6 (by decide) (by decide) λw L M=> ?_⟩;have a:∀(o:Gd) (x y z:Rat) (f:zt AV),o.nx=R->Mul 6 60 x->Mul 6 60 y->Mul 6 60 z->DX 4 Ga (AB (BL (AB (aV 2) (AB (AW Am (aV 3) (aC (.int 0))) (AB (AW Am (aV 3) (aC (.int 1))) (AB (AW Am (aV 3) (aC (.int 2))) AL))))) AL)
    o [some (.val .tape),some (.val (.int many)),some (.val (fr (c.1+s))),some (.val (.lst [fr x,fr y,fr z])),some (.own ((cs ++ [c]).map cor)),f] :=by
    intro o x y z f G v i A;refine⟨lz, ?_, ?_⟩
    .show _<16777216;omega
    .rw [G];have H:Mul 6 (66+48*(cs.length+1)) (c.1+s):=(u.m.add F).mono (by omega);refine D _ ⟨cs ++ [c],(c.1+s,x,y,z),f,by simp;omega,by omega, ?_,⟨v,i,A⟩,cT r ?_, ?_⟩
     .intro d hd;rcases AAN.mp hd with hd|hd
      .exact (hb d hd).mono (by simp;omega)
      .simp at hd;subst hd;have e:(cs ++ [c]).length=cs.length+1:=by simp
       rw[e];exact⟨H,v.mono (by omega),i.mono (by omega),A.mono (by omega)⟩
     .show c.1<c.1+s;grind
     .rw [AAO (l₁:=cs ++ [c])];rfl
   refine Il (b:=decide (3<w)) (λ_=> ?_) (λk=> ?_)
   .exact ⟨rfl,A2 λx hx=>⟨rfl,A2 λy hy=>⟨rfl,A2 λz hz=>⟨lz,a _ x y z _ rfl hx hy hz⟩⟩⟩⟩
   refine Il (b:=decide (0<w)) (λj=> ?_) (λj=> ?_)
   .have N:¬3<w:=ABY k;have O:0<w:=ABX j;have hw:w=1\/w=2\/w=3:=by omega
    rcases hw with rfl|rfl|rfl
    .exact ET ⟨rfl,A2 λp hp=>⟨lz,lz,ET ⟨lz,a _ p _ _ _ rfl hp g.2.1 g.2.2⟩⟩⟩
    .exact ET ⟨rfl,A2 λp hp=>⟨lz,lz,ET ⟨lz,a _ _ p _ _ rfl g.1 hp g.2.2⟩⟩⟩
    .exact ET ⟨rfl,A2 λp hp=>⟨lz,lz,ET ⟨lz,a _ _ _ p _ rfl g.1 g.2.1 hp⟩⟩⟩
   .exact a _ _ _ _ _ rfl g.1 g.2.1 g.2.2
  .have l:¬(((cs ++ [c]).map cor).length:Int)<many:=ABY z;rw[t] at l;refine h (cs ++ [c]) ⟨by simp;omega,by simp;omega,λd hd=>(hb d hd).mono (by omega),r⟩
 .simp;omega
 .omega
 .intro d hd;simp at hd;subst hd;exact⟨.int (by decide) (by simp;omega),hx.mono (by decide),hy.mono (by decide),hz.mono (by decide)⟩
 .exact ⟨hx,hy,hz⟩
 .exact List.pairwise_singleton _ _
 .simp only[cor,aW,AAp,AAK,ABS];rfl
def NO {Q:PV->Prop}(h:∀cs,Wx 9 6 512 cs->Q (Ba cs)):E1 [.tape] Q:=by
 refine⟨rfl,C6 (by decide) (by decide) λa d e=>⟨rfl,C6 (by decide) (by decide) λb f g=> ?_⟩⟩;refine Il (b:=decide (b=0)) (λ_=> ?_) (λ_=> ?_)
 .exact ⟨rfl,C6 (by decide) (by decide) λc c0 i=>Xm (7+c) _ _ _ _ (by omega) (by omega) h⟩
 .exact Xm (2+a) _ _ _ _ (by omega) (by omega) h
def jP {cs:zy C4}{i:Int}{k:Nat}(hk:i=(k:Int))(h:k<=cs.length):G3 (cs.map cor) none (some i)=(cs.take k).map cor:=by unfold G3;rw[hk,HT.sIx_none,HT.sIx_nat];rw[show min k (cs.map cor).length=k by simp;omega,ACy];simp
def aF {cs:zy C4}{i:Int}{k:Nat}(hk:i=(k:Int))(h:k<=cs.length):G3 (cs.map cor) (some i) none=(cs.drop k).map cor:=by unfold G3;rw[hk,HT.sIx_none,HT.sIx_nat];rw[show min k (cs.map cor).length=k by simp;omega,ACJ];exact ABV (by simp)
def X7 {cs:zy C4}{i:Int}{k:Nat}{Q:PV->Prop}(hk:i=(k:Int))(h:k<=cs.length)(q:Q (Ba (cs.drop k))):Yn (Ba cs) (some i) none Q:=by refine SH ?_;rw[aF hk h];exact q
def Wx.ok {n D N m:Nat}{cs:zy C4}(p:Wx n D N cs)(h1:N<2^m)(h2:D<2^m):FF n m cs:=⟨p.two,p.few,λc hc=>(p.mu c hc).bd h1 h2,p.ris⟩
def Li (cs:zy C4)(v:PV):Prop:=∃f:C4->PV,(f=cor\/f=corL)/\(v= .tup (cs.map f)\/v= .lst (cs.map f))
def Li.self (cs:zy C4):Li cs (Ba cs):=⟨cor, .inl rfl, .inl rfl⟩
def Li.lists (cs:zy C4):Li cs (.lst (cs.map corL)):=⟨corL, .inr rfl, .inr rfl⟩
def laterC (b:Rat)(cs:zy C4):zy C4:=cs.map λc=>(c.1+b,c.2)
def FX.laterC {B m:Nat}{b:Rat}{cs:zy C4}(h:∀c∈cs,FX B c)(hb:Bd m b):∀c∈laterC b cs,FX (B+m+1) c:=λc hc=>by obtain⟨d,hd,rfl⟩:=AAR.mp hc;have q:=h d hd;exact⟨q.m.add hb,q.x.mono (by omega),q.y.mono (by omega),q.z.mono (by omega)⟩
theorem CN {i l:Type}{g:AG}{te:AE}{d:A6}{Q:zy PV->Prop}(f:i->PV)(k:l->PV)(e:i->l)(P:i->Prop)(hs:∀a,P a->∀R:PV->Prop,R (k (e a))->g (f a) d λj=>te j R):∀(xs:zy i) (c:zy PV),(∀a∈xs,P a)->Q (c++(xs.map e).map k)->CJ g Dg te d Q (xs.map f) c
 | [],c,_,h=>(by simpa using h:Q c)
 | a::xs,c,hp,h=>by refine hs a (hp a (by simp)) (λy=>CJ g Dg te d Q (xs.map f) (c ++ [y])) (CN f k e P hs xs _ (λb hb=>hp b (by simp[hb])) ?_);simpa using h
def Sh.cor {c:C4}(h:FX 1900 c):Sh 2 17000 (cor c):=(Sh.tup (nY (Sh.fr h.m) (Sh.fr h.x) (Sh.fr h.y) (Sh.fr h.z))).mono (by decide) lz
def Sh.corL {c:C4}(h:FX 1900 c):Sh 2 17000 (corL c):=(Sh.lst (nY (Sh.fr h.m) (Sh.fr h.x) (Sh.fr h.y) (Sh.fr h.z))).mono (by decide) lz
def Wb {x:PV}{Q:PV->Prop}(a:O6 x)(hq:J3 x=true)(h:Q (.str (oU x))):Np [x] Q:=by unfold Np;cases x <;> first | exact⟨hq,a,h⟩|(simp[J3] at hq)
abbrev T3:=Rat×Rat×Rat
def inter (a b:C4)(m:Rat):T3:=(a.2.1+(m-a.1)/(b.1-a.1)*(b.2.1-a.2.1),a.2.2.1+(m-a.1)/(b.1-a.1)*(b.2.2.1-a.2.2.1),a.2.2.2+(m-a.1)/(b.1-a.1)*(b.2.2.2-a.2.2.2))
def spotG:C4->zy C4->Rat->zt T3
 | _, [],_=>none
 | a,b::r,m=>if b.1<m then spotG b r m else some (inter a b m)
def spotC:zy C4->Rat->zt T3
 | [],_=>none
 | a::r,m=>if m<a.1 then none else spotG a r m
def DC (t:T3):PV:= .tup [fr t.1,fr t.2.1,fr t.2.2]
def X8:zt T3->PV
 | none=> .non
 | some t=>DC t
structure Cn (B:Nat) (t:T3):Prop where
 x:Bd B t.1
 y:Bd B t.2.1
 z:Bd B t.2.2
section
variable {B M:Nat}{a b:C4}{m:Rat}
theorem dE {x y:Rat}(h:x<y):y-x≠0:=by grind
theorem Bd.share (ha:FX B a)(hb:FX B b)(c:Bd M m)(h:a.1<b.1):Bd (M+B+1+(B+B+1)) ((m-a.1)/(b.1-a.1)):=(c.sub ha.m).div (dE h) (hb.m.sub ha.m)
theorem Cn.inter (ha:FX B a)(hb:FX B b)(c:Bd M m)(h:a.1<b.1):Cn (M+6*B+10) (inter a b m):=by have s:=Bd.share ha hb c h;exact⟨(ha.x.add (s.mul (hb.x.sub ha.x))).mono (by omega),(ha.y.add (s.mul (hb.y.sub ha.y))).mono (by omega),(ha.z.add (s.mul (hb.z.sub ha.z))).mono (by omega)⟩
end
theorem Cn.spotG {B M:Nat}{m:Rat}(d:Bd M m):∀{a:C4} {r:zy C4},Lj (a::r)->(∀c∈a::r,FX B c)->∀t,spotG a r m=some t->Cn (M+6*B+10) t
 | a, [],_,_,t,e=>by cases e
 | a,b::r,hr,hb,t,e=>by
   unfold PL.spotG at e;split at e
   .exact Cn.spotG d (AAM.mp hr).2 (λc hc=>hb c (by simp[hc])) t e
   .cases e;exact .inter (hb a (by simp)) (hb b (by simp)) d ((AAM.mp hr).1 b (by simp))
def Cn.spotC {B M:Nat}{m:Rat}{cs:zy C4}(b:Bd M m)(d:Lj cs)(hb:∀c∈cs,FX B c):∀t,spotC cs m=some t->Cn (M+6*B+10) t:=λt e=>by
 cases cs with
 | nil=>cases e
 | cons a r=>
   simp only[PL.spotC] at e;split at e
   .cases e
   .exact Cn.spotG b d hb t e
def Qy {f:C4->PV}{cs:zy C4}{i:Int}{k:Nat}{c:C4}{Q:PV->Prop}(hk:i=(k:Int))(e:cs[k]? =some c)(h:Q (f c)):di (JV (cs.map f) i) Q:=by have q:JV (cs.map f) ((k:Nat):Int)=some (f c):=Cj (by rw[AAm,e] <;> rfl);rw[hk,q];exact h
def TM {f:C4->PV}{cs:zy C4}{c:C4}{Q:PV->Prop}(e:cs.getLast?=some c)(h:Q (f c)):di (JV (cs.map f) (-1)) Q:=by
 have a:cs≠ [] :=by intro z;subst z;cases e
 have hl:0<cs.length:=List.length_pos_iff.mpr a;have q:JV (cs.map f) (-1)=some (f c):=by
  unfold JV Vp;rw[AAI,AAD (by decide),AAE (by omega)];have b:(-1+(cs.length:Int)).toNat=cs.length-1:=by omega
  rw[Option.bind_some,b,AAm,<-List.getLast?_eq_getElem?,e];rfl
 rw[q];exact h
def Xz {cs:zy C4}(h:Lj cs){k:Nat}{a b:C4}(c:cs[k]? =some a)(d:cs[k+1]? =some b):a.1<b.1:=by have h1:=(AAx.mp c);have h2:=(AAx.mp d);obtain⟨e,rfl⟩:=h1;obtain⟨f,rfl⟩:=h2;exact List.pairwise_iff_getElem.mp h k (k+1) e f (by omega)
theorem Od {m:Rat}:∀{a:C4} {r:zy C4},Lj (a::r)->(∀l,(a::r).getLast?=some l->l.1<m)->spotG a r m=none
 | a, [],_,_=>rfl
 | a,b::r,hr,h=>by
   have d:Lj (b::r):=(AAM.mp hr).2;have hb:b.1<m:=by
    cases r with
    | nil=>exact h b rfl
    | cons c r=> obtain⟨l,hl⟩:∃l,(c::r).getLast?=some l:=⟨_,ACK (by simp)⟩;have h1:l.1<m:=h l (by simpa[ACL] using hl);have h2:b.1<l.1:=(AAM.mp d).1 l (ACz hl);grind
   simp only[spotG,AAE hb];exact Od d λl hl=>h l (by simpa[ACL] using hl)
def Tj {a b:C4}(h:a.1<b.1):inter a b a.1=a.2:=by
 have s:(a.1-a.1)/(b.1-a.1)=0:=by grind
 simp only[inter,s];obtain⟨m,x,y,z⟩:=a;show (x+0*(b.2.1-x),y+0*(b.2.2.1-y),z+0*(b.2.2.2-z))=(x,y,z);rw[show x+0*(b.2.1-x)=x by grind,show y+0*(b.2.2.1-y)=y by grind,show z+0*(b.2.2.2-z)=z by grind]
def Vl {a b:C4}(h:a.1<b.1):inter a b b.1=b.2:=by
 have s:(b.1-a.1)/(b.1-a.1)=1:=by grind
 simp only[inter,s];obtain⟨m,x,y,z⟩:=b;show (a.2.1+1*(x-a.2.1),a.2.2.1+1*(y-a.2.2.1),a.2.2.2+1*(z-a.2.2.2))=(x,y,z);rw[show a.2.1+1*(x-a.2.1)=x by grind,show a.2.2.1+1*(y-a.2.2.1)=y by grind,show a.2.2.2+1*(z-a.2.2.2)=z by grind]
def Lv {a:C4}{r:zy C4}{m:Rat}(h:m<a.1):spotC (a::r) m=none:=by simp only[spotC,AAE h]
def SM {a:C4}{r:zy C4}{m:Rat}(b:Lj (a::r))(h:∀l,(a::r).getLast?=some l->l.1<m):spotC (a::r) m=none:=by
 simp only[spotC];split
 .rfl
 .exact Od b h
def Jg:AS:=
 (AY (Aj (Ex (B7 (Ha (BL (AB (aC (.int 1)) (AB (aC (.int 2)) (AB (aC (.int 3)) AL))))) 1 [4,3,2] (An 0) Dg (AN 2 Bt (AB (aV 1) (AB (AN 2 BW (AB (AW Am (aV 2) (aV 0)) (AB (AW Am (aV 3) (aV 0)) AL))) AL))))) (An 5))
   (Ar (FI DS (AB (Ex (B7 (NY (AB (aC (.int 3)) AL)) 1 [2,5] (An 0) Dg (AN 2 BP (AB (AW Am (aV 1) (AW BX (aV 0) (aC (.int 1)))) (AB (AW Am (aV 2) (aV 0)) AL))))) AL))))
def M0:AS:=
 (AY (Aj (AN 2 C5 (AB (AN 2 BW (AB (aV 1) (AB (AW Am (aV 2) (aC (.int 0))) AL))) (AB (AN 2 BW (AB (AW Am (aV 3) (aC (.int 0))) (AB (AW Am (aV 2) (aC (.int 0))) AL))) AL))) (An 4))
   Jg)
def M1:AS:=
 (AY (EF (hJ (AB (aV 0) (AB (Z6 (aV 0) (Z8 (aC (.int 1))) Z7) AL))) (JU 2 (Ab (An 2) (Ab (An 3) Bz))) (CZ (Pu (A1 (AN 2 A0 (AB (AW Am (aV 3) (aC (.int 0))) (AB (aV 1) AL))))) M0 BZ))
   (Ar (aC .non)))
def Si:AS:=
 (AY (CZ (S7 (A1 (AN 2 A0 (AB (aV 1) (AB (AW Am (AW Am (aV 0) (aC (.int 0))) (aC (.int 0))) AL)))) (A1 (AN 2 A0 (AB (AW Am (AW Am (aV 0) (YY Nj (aC (.int 1)))) (aC (.int 0))) (AB (aV 1) AL))))) (Ar (aC .non)) BZ)
   M1)
def E2:AF:=Ak 6 Si
def NQ {cs:zy C4}{B M:Nat}{m:Rat}(hc:∀c∈cs,FX B c)(E:Lj cs)(I:cs≠ [])(hl:cs.length<=1000)(t:Bd M m)(P:M+6*B+10<=3990){Q:PV->Prop}(q:Q (X8 (spotC cs m))):E2 [Ba cs,fr m] Q:=by
 have m1:=t.mono (n:=4000) (by omega);cases cs with
 | nil=>exact absurd rfl I
 | cons a r=>
   have J:=hc a (by simp);have K:=J.m.mono (n:=4000) (by omega);obtain⟨l,u⟩:∃l,(a::r).getLast?=some l:=⟨_,ACK (by simp)⟩;have L:=hc l (ACz u);refine Qy (f:=cor) (k:=0) (c:=a) rfl rfl ⟨rfl,E3 m1 K ?_⟩;refine Il (b:=decide (m<a.1)) (λz=> ?_) (λz=> ?_)
   .rw [Lv (ABX z)] at q;exact q
   refine TM (f:=cor) u ⟨rfl,E3 (L.m.mono (by omega)) m1 ?_⟩;refine Il (b:=decide (l.1<m)) (λo=> ?_) (λo=> ?_)
   .rw [SM E (λS F=>by rw[u] at F;cases F;exact ABX o)] at q;exact q
   simp only[spotC,AAD (ABY z)] at q;have N:r.length+1<=1000:=hl;refine X7 (cs:=a::r) (i:=1) (k:=1) rfl (by simp) ?_;refine Hg (λG τ=>∃(c:C4) (h:zy C4) (o v w A:zt AV),G=IH ((c::h).map cor) (h.map cor)/\Lj (c::h)/\(∀d∈c::h,FX B d)/\spotG c h m=spotG a r m/\τ= [some (.val (Ba (a::r))),some (.val (fr m)),o,v,w,A]) ?_ ?_ _ _ ⟨a,r,none,none,none,none,rfl,E,hc,rfl,rfl⟩
   .rintro τ ⟨c,h,o,v,w,A,p,C,hb,es,rfl⟩;have:h= [] :=by cases h with | nil=>rfl|cons d h=>cases p
    subst this;rw[<-es] at q;exact q
   .rintro x G τ R O ⟨c,h,o,v,w,A,p,C,hb,es,rfl⟩;cases h with
    | nil=>cases p
    | cons d h=>
      cases p;have g:=hb c (by simp);have j:=hb d (by simp);have H:=(AAM.mp C).1 d (by simp);refine⟨rfl,rfl,E3 (j.m.mono (by omega)) m1 ?_⟩;refine Il (b:= !decide (d.1<m)) (λz=> ?_) (λz=> ?_)
      .have D:¬d.1<m:=by simpa using z
       rw[<-es] at q;simp only[spotG,AAD D,X8,DC,inter] at q;have s:=Bd.share g j t H;refine⟨rfl,Cd m1 (g.m.mono (by omega)) ⟨rfl,Cd (j.m.mono (by omega)) (g.m.mono (by omega)) ⟨rfl,GU (dE H) ((t.sub g.m).mono (by omega)) ((j.m.sub g.m).mono (by omega)) ?_⟩⟩⟩;refine⟨lz,lz, ?_⟩;refine⟨rfl,Cd (j.x.mono (by omega)) (g.x.mono (by omega)) ⟨rfl,Ci (s.mono (by omega)) ((j.x.sub g.x).mono (by omega)) ?_⟩⟩;refine⟨rfl,Cd (j.y.mono (by omega)) (g.y.mono (by omega)) ⟨rfl,Ci (s.mono (by omega)) ((j.y.sub g.y).mono (by omega)) ?_⟩⟩;refine⟨rfl,Cd (j.z.mono (by omega)) (g.z.mono (by omega)) ⟨rfl,Ci (s.mono (by omega)) ((j.z.sub g.z).mono (by omega)) ?_⟩⟩;refine⟨⟨by decide,by decide⟩,lz, ?_⟩;refine⟨rfl,DG (g.x.mono (by omega)) ((s.mul (j.x.sub g.x)).mono (by omega)) ?_⟩;refine⟨rfl,DG (g.y.mono (by omega)) ((s.mul (j.y.sub g.y)).mono (by omega)) ?_⟩;exact⟨rfl,DG (g.z.mono (by omega)) ((s.mul (j.z.sub g.z)).mono (by omega)) q⟩
      .have D:d.1<m:=by simpa using z
       exact O _ ⟨d,h,_,_,_,_,rfl,(AAM.mp C).2,λe he=>hb e (by simp[he]),by rw[<-es];simp only[spotG,AAE D],rfl⟩
def O6.t3 {t:T3}(h:Cn 1900 t):O6 (DC t):=(Sh.tup (Y6 (Sh.fr h.x) (Sh.fr h.y) (Sh.fr h.z))).go (by decide) lz
def sp (cs:zy C4)(m:Rat):C4:=(m,(spotC cs m).getD (0,0,0))
def mX (f t:Rat)(c:C4):zq:=decide (f<c.1)&&decide (c.1<t)
def Y1 {a b l:C4}{r:zy C4}(e:(a::b::r).getLast?=some l):(b::r).getLast?=some l:=by simpa[ACL] using e
def mx (b a:Rat):Rat:=if b<a then a else b
def mn (e l:Rat):Rat:=if e<l then e else l
theorem Ih {i:Type}{g:AG}{j:AT}{te:AE}{d:A6}{Q:zy PV->Prop}(f k:i->PV)(p:i->zq)(P:i->Prop)(hs:∀a,P a->∀(R:PV->Prop) (N:Prop),(p a=true->R (k a))->(p a=false->N)->g (f a) d λe=>j e λok=>if ok=true then te e R else N):∀(xs:zy i) (c:zy PV),(∀a∈xs,P a)->Q (c++(xs.filter p).map k)->CJ g j te d Q (xs.map f) c
 | [],c,_,h=>(by simpa using h:Q c)
 | a::xs,c,hp,h=>by
   refine hs a (hp a (by simp)) (λy=>CJ g j te d Q (xs.map f) (c ++ [y])) _ (λz=> ?_) (λz=> ?_)
   .exact Ih f k p P hs xs _ (λb hb=>hp b (by simp[hb])) (by simpa[ABA,z] using h)
   .exact Ih f k p P hs xs _ (λb hb=>hp b (by simp[hb])) (by simpa[ABA,z] using h)
def both {f t:Rat}{c:C4}{b:(zq->Prop)->Prop}{A:Prop}{N:Prop}(h1:mX f t c=true->A)(h2:mX f t c=false->N):if decide (f<c.1)=true then (if decide (c.1<t)=true then A else N) else N:=by unfold mX at h1 h2;refine Il (λz=>Il (λa=>h1 (by rw[z,a];rfl)) (λa=>h2 (by rw[z,a];rfl))) (λz=>h2 (by rw[z];rfl))
def Bd.mx {n:Nat}{a b:Rat}(ha:Bd n a)(hb:Bd n b):Bd n (mx a b):=by unfold PL.mx;split <;> assumption
def Bd.mn {n:Nat}{a b:Rat}(ha:Bd n a)(hb:Bd n b):Bd n (mn a b):=by unfold PL.mn;split <;> assumption
section
variable {a b:AS}{ta tb:AE}{tt tu:AT}{g:AG}{gs:Up}{nx bk ct:A6->Prop}{rt:PV->Prop}{τ:A6}{Q:PV->Prop}{QB:zq->Prop}{QL:zy PV->Prop}{QT:A6->Prop}{r:AA}{ai:AI}{F:AF}{n i j:Nat}{x y z:PV}{xs ys:zy PV}
def oK {f:JT}(e:Sd τ i=some (.val x))(h:ta τ λy=>f x y λz=>nx (τ.set i (some (.val z)))):VC i f ta ⟨nx,rt,bk,ct⟩ τ:=by unfold VC;rw[e];exact h
def oS (e:Sd τ i=some (.own xs))(h:QL xs):MH i τ QL:=by unfold MH;rw[e];exact h
def xp (e:Sd τ i=some (.val x))(h:Q x):aV i τ Q:=by unfold aV;rw[e];exact h
def uO (x:PV)(i:Int):zt PV:=match x with | .tup xs=>JV xs i | .lst xs=>JV xs i|_=>none
def rf {i:Int}(e:uO x i=some z)(h:Q z):Am x (.int i) Q:=by cases x <;> first | (cases e;done)|(show di (JV _ i) Q;rw[show JV _ i=some z from e];exact h)
def kg {l:C4}{cs:zy C4}(c:cs.getLast?=some l)(h:Q (cor l)):Am (Ba cs) (.int (-1)) Q:=TM c h
def oM {a b:Rat}(h:Q (.bl (decide (a=b)))):MZ (fr a) (fr b) Q:=⟨⟨Xh 29 _,Xh 29 _⟩,by rw[aP];exact h⟩
def oR {a b:Rat}(h:Q (.bl (!decide (a=b)))):Ym (fr a) (fr b) Q:=⟨⟨Xh 29 _,Xh 29 _⟩,by rw[aP];exact h⟩
def iW {g:zy zq->zq}{bs:zy zq}(e:Jp xs=some bs)(h:Q (.bl (g bs))):VU g [.lst xs] Q:=by show (match Jp xs with | some bs=>Q (.bl (g bs))|none=>False);rw[e];exact h
def oO {c:zq}{A B:Prop}(e:c=true)(h:A):if c=true then A else B:=by rw[AAE e];exact h
def oN {c:zq}{A B:Prop}(e:c=false)(h:B):if c=true then A else B:=by rw[AAD (by rw[e];exact AAQ)];exact h
def oP {p:Prop}[Decidable p]{A B:Prop}(h1:p->A)(h2:¬p->B):if decide p=true then A else B:=by
 by_cases h:p
 .rw [AAE (AAk h)];exact h1 h
 .rw [AAD (by simp[h])];exact h2 h
def oQ {p:Prop}[Decidable p]{A B:Prop}(h1:¬p->A)(h2:p->B):if (!decide p)=true then A else B:=by
 by_cases h:p
 .rw [AAD (by simp[h])];exact h2 h
 .rw [AAE (by simp[h])];exact h1 h
end
def wY:Bd 1 (0:Rat):=⟨by decide,by decide⟩
def mW:Bd 1 (1:Rat):=⟨by decide,by decide⟩
section
variable {g:AG}{b:AS}{nx bk ct:A6->Prop}{rt:PV->Prop}
def XI (P:Nat->A6->Prop){lo:Int}{n:Nat}(hd:∀τ,P n τ->nx τ)(hs:∀i,i<n->∀τ (R:A6->Prop),(∀τ,P (i+1) τ->R τ)->P i τ->g (.int (lo+i)) τ λc=>b ⟨R,rt,nx,R⟩ c){τ:A6}(f:P 0 τ):DK g b ⟨nx,rt,bk,ct⟩ (rng lo n) τ:=by
 refine Hg (λr τ=>∃i,i<=n/\r=rng (lo+i) (n-i)/\P i τ) ?_ ?_ _ _ ⟨0,AAu _,by simp,f⟩
 .rintro τ ⟨i,hi,a,hp⟩;have:n-i=0:=by
   cases e:n-i with
   | zero=>rfl
   | succ k=>rw[e,KH] at a;cases a
  have:i=n:=by omega
  subst this;exact hd τ hp
 .rintro x r τ R h ⟨i,hi,a,hp⟩;cases e:n-i with
  | zero=>rw[e] at a;cases a
  | succ k=> rw[e,KH] at a;cases a;exact hs i (by omega) τ R (λd h2=>h d ⟨i+1,by omega,by rw[show n-(i+1)=k by omega,show lo+((i+1:Nat):Int)=lo+i+1 by omega],h2⟩) hp
def CO {a:Type}(f:a->PV)(P:zy a->zy a->A6->Prop){cs:zy a}(hd:∀τ,P cs [] τ->nx τ)(hs:∀us c vs,us++c::vs=cs->∀τ (R:A6->Prop),(∀τ,P (us ++ [c]) vs τ->R τ)->P us (c::vs) τ->g (f c) τ λh=>b ⟨R,rt,nx,R⟩ h){τ:A6}(j:P [] cs τ):DK g b ⟨nx,rt,bk,ct⟩ (cs.map f) τ:=by
 refine Hg (λr τ=>∃us vs,us++vs=cs/\r=vs.map f/\P us vs τ) ?_ ?_ _ _ ⟨[],cs,rfl,rfl,j⟩
 .rintro τ ⟨us,vs,e,d,hp⟩;cases vs with
  | nil=>rw[ABP] at e;subst e;exact hd τ hp
  | cons v vs=>cases d
 .rintro x r τ R k ⟨us,vs,e,d,hp⟩;cases vs with
  | nil=>cases d
  | cons c vs=> cases d;exact hs us c vs e τ R (λi h2=>k i ⟨us ++ [c],vs,by simpa using e,rfl,h2⟩) hp
def ig {c:AT}(P:Nat->A6->Prop)(hs:∀n τ (R:A6->Prop),(∀τ,P n τ->R τ)->P (n+1) τ->c (frz τ) λk=>if k=true then b ⟨R,rt,nx,R⟩ τ else nx τ)(a:∀τ,¬P 0 τ){n:Nat}{τ:A6}(d:P n τ):Ic c b ⟨nx,rt,bk,ct⟩ τ:=
 ⟨n,Wo P a (λn τ R e hp=>hs n τ R e hp) n τ d⟩
end
section
variable {g:AG}{tt:AT}{te:AE}{τ0:A6}{Q:zy PV->Prop}
def W9 (P:Nat->zy PV->Prop){lo:Int}{n:Nat}(hd:∀a,P n a->Q a)(hs:∀i,i<n->∀a (R:zy PV->Prop),(∀a,P (i+1) a->R a)->P i a->g (.int (lo+i)) τ0 λc=>tt c λok=>if ok=true then te c λy=>R (a ++ [y]) else R a)(f:P 0 []):CJ g tt te τ0 Q (rng lo n) [] :=by
 refine W8 (λr a=>∃i,i<=n/\r=rng (lo+i) (n-i)/\P i a) ?_ ?_ _ _ ⟨0,AAu _,by simp,f⟩
 .rintro a ⟨i,hi,b,hp⟩;have:n-i=0:=by
   cases e:n-i with
   | zero=>rfl
   | succ k=>rw[e,KH] at b;cases b
  have:i=n:=by omega
  subst this;exact hd a hp
 .rintro x r a R h ⟨i,hi,b,hp⟩;cases e:n-i with
  | zero=>rw[e] at b;cases b
  | succ k=> rw[e,KH] at b;cases b;exact hs i (by omega) a R (λd h2=>h d ⟨i+1,by omega,by rw[show n-(i+1)=k by omega,show lo+((i+1:Nat):Int)=lo+i+1 by omega],h2⟩) hp
end
end PL
namespace PL
open PySem PySem.Spec PyProof.Rows L2
def Kc (K:AAB)(mg:Str->zt zx)(x:Str)(v:PV):Prop:=∃(u:zx) (V:V),mg x=some u/\RelV V u/\∀T M H,CL K T M H V v
section
variable {K:AAB}{T M:zu->Prop}{H:Hp}
def Mh {i:Int}{t:Tok}:∃V,RelV V (.int i t)/\∀T M H,CL K T M H V (.int i):=⟨.int i,⟨t,rfl⟩,λ_ _ _=> .int i⟩
inductive KR (K:AAB):List Value->List PV->Prop where
 | nil:KR K [] []
 | cons {u:Value} {x:PV} {us:List Value} {xs:List PV} (h:∃V,RelV V u/\∀T M H,CL K T M H V x) (t:KR K us xs):KR K (u::us) (x::xs)
theorem KR.reps:∀{us:zy zx} {xs:zy PV},KR K us xs->∃vs,Ap vs us/\∀T M H,Aw K T M H vs xs
 | _,_, .nil=>⟨[], .nil,λ_ _ _=> .nil⟩
 | _,_, .cons ⟨V,r,h⟩ t=>by obtain⟨vs,a,h2⟩:=KR.reps t;exact⟨V::vs, .cons r a,λT M H=> .cons (h T M H) (h2 T M H)⟩
def KR.length:∀{us:zy zx} {xs:zy PV},KR K us xs->us.length=xs.length
 | _,_, .nil=>rfl
 | _,_, .cons _ t=>by simp[t.length]
def Xw {a:zu}{us:zy zx}{xs:zy PV}{n:Nat}{b:zt zu}{c:Array (zt zx)}(hl:K.lookup a=some ⟨.type "tuple",b, .seq us.toArray n,c⟩)(h:KR K us xs)(hs:xs.length<=sizeLine:=by decide):∃V,RelV V (.ref a)/\∀T M H,CL K T M H V (.tup xs):=by obtain⟨vs,r,q⟩:=h.reps;refine⟨.ref a,rfl,λT M H=> .tup (vs:=vs) (.inr ⟨_,us.toArray,n,hl,rfl,rfl, ?_,by simpa using r⟩) (q T M H)⟩;rw[AAU,h.length];exact hs
end
def iK {K:AAB}{mg:Str->zt zx}{x:Str}{u:zx}{v:PV}(a:mg x=some u)(h:∃V,RelV V u/\∀T M H,CL K T M H V v):Kc K mg x v:=let ⟨V,r,q⟩:=h;⟨u,V,a,r,q⟩
section
variable {X:Cx}
def Ub {x:Str}{v:PV}{a:Pos}(c:Kc X.K X.mg x v)(b:Gl X x)(hd:(x==("__debug__" :Str))=false:=by decide):SE X (.Name x a) (aC v):=by obtain⟨u,V,d,r,h⟩:=c;exact⟨_,fk b d r hd,Ud h⟩
end
end PL
namespace PL
open PySem L2 PyProof.Rows
class Wp (P:Prop) (P':outParam Prop):Prop where
 go:P'->P
class S4 (P:Prop) (C P':outParam Prop):Prop where
 go:C->P'->P
class t5 (P:Prop) (P':outParam Prop):Prop where
 go:P'->P
class qM (P:Prop) (A B:outParam Prop):Prop where
 go:A->B->P
class hG (τ:A6) (i:Nat) (x:outParam AV):Prop where
 e:Sd τ i=some x
instance{v:AV}{r:A6}:hG (some v::r) 0 v:=⟨rfl⟩
instance{y:zt AV}{r:A6}{i:Nat}{v:AV}[h:hG r i v] :hG (y::r) (i+1) v:=⟨h.e⟩
class Zx (τ:A6) (i:Nat) (v:AV) (τ':outParam A6):Prop where
 e:τ.set i (some v)=τ'
instance{y:zt AV}{r:A6}{v:AV}:Zx (y::r) 0 v (some v::r):=⟨rfl⟩
instance{y:zt AV}{r a:A6}{i:Nat}{v:AV}[h:Zx r i v a] :Zx (y::r) (i+1) v (y::a):=⟨by rw[List.set_cons_succ,h.e]⟩
class Zc (τ:A6) (τ':outParam A6):Prop where
 e:frz τ=τ'
instance:Zc [] [] :=⟨rfl⟩
instance (priority:=low){z:zt AV}{r a:A6}[h:Zc r a] :Zc (z::r) (eO z::a):=⟨by rw[<-h.e];rfl⟩
instance{r a:A6}[h:Zc r a] :Zc (none::r) (none::a):=⟨by rw[<-h.e];rfl⟩
instance{x:PV}{r a:A6}[h:Zc r a] :Zc (some (.val x)::r) (some (.val x)::a):=⟨by rw[<-h.e];rfl⟩
instance{x:zy PV}{r a:A6}[h:Zc r a] :Zc (some (.own x)::r) (some (.val (.lst x))::a):=⟨by rw[<-h.e];rfl⟩
class mI (ix:List Nat) (τ:A6) (τ':outParam A6):Prop where
 e:(ix.map λi=>Ya (Sd τ i))=τ'
instance{τ:A6}:mI [] τ [] :=⟨rfl⟩
instance{τ r:A6}{i:Nat}{ix:zy Nat}{x:PV}[h:hG τ i (.val x)][h2:mI ix τ r] :mI (i::ix) τ (some (.val x)::r):=⟨by rw[AAK,h.e,h2.e];rfl⟩
class mS (n:Nat) (τ:outParam A6):Prop where
 e:List.replicate n none=τ
instance:mS 0 [] :=⟨rfl⟩
instance{n:Nat}{τ:A6}[h:mS n τ] :mS (n+1) (none::τ):=⟨by rw[List.replicate_succ,h.e]⟩
class Zn (xs ys:A6) (zs:outParam A6):Prop where
 e:xs++ys=zs
instance{ys:A6}:Zn [] ys ys:=⟨rfl⟩
instance{x:zt AV}{xs ys a:A6}[h:Zn xs ys a] :Zn (x::xs) ys (x::a):=⟨by rw[ADW,h.e]⟩
class Zo (xs ys:List PV) (zs:outParam (List PV)):Prop where
 e:xs++ys=zs
instance{ys:zy PV}:Zo [] ys ys:=⟨rfl⟩
instance{x:PV}{xs ys a:zy PV}[h:Zo xs ys a] :Zo (x::xs) ys (x::a):=⟨by rw[ADW,h.e]⟩
class d4 (xs:List PV) (n:outParam Nat):Prop where
 e:xs.length=n
instance:d4 [] 0:=⟨rfl⟩
instance{x:PV}{xs:zy PV}{n:Nat}[h:d4 xs n] :d4 (x::xs) (n+1):=⟨by rw[AAb,h.e]⟩
class Ix (x:PV) (i:Int) (y:outParam PV):Prop where
 e:uO x i=some y
section
variable {a b:AS}{ta tb:AE}{tt tu:AT}{g:AG}{gs:Up}{nx bk ct:A6->Prop}{rt:PV->Prop}{τ τ' τ2:A6}{Q:PV->Prop}{QB:zq->Prop}{QL:zy PV->Prop}{QT:A6->Prop}{r:AA}{ai:AI}{F:AF}{n i j:Nat}{x y z:PV}{xs ys zs:zy PV}
instance{c:PV}{q:zy PV}:Ix (.tup (c::q)) 0 c:=⟨Cj (j:=0) rfl⟩
instance{c:PV}{q:zy PV}:Ix (.lst (c::q)) 0 c:=⟨Cj (j:=0) rfl⟩
instance{d c:PV}{q:zy PV}:Ix (.tup (d::c::q)) 1 c:=⟨Cj (j:=1) rfl⟩
instance{d c:PV}{q:zy PV}:Ix (.lst (d::c::q)) 1 c:=⟨Cj (j:=1) rfl⟩
instance{d e c:PV}{q:zy PV}:Ix (.tup (d::e::c::q)) 2 c:=⟨Cj (j:=2) rfl⟩
instance{d e c:PV}{q:zy PV}:Ix (.lst (d::e::c::q)) 2 c:=⟨Cj (j:=2) rfl⟩
instance{d e f c:PV}{q:zy PV}:Ix (.tup (d::e::f::c::q)) 3 c:=⟨Cj (j:=3) rfl⟩
instance{q:Rat}:Ix (fr q) 0 (.int q.num):=⟨rfl⟩
instance{q:Rat}:Ix (fr q) 1 (.int q.den):=⟨rfl⟩
instance{c:C4}:Ix (cor c) 0 (fr c.1):=⟨rfl⟩
instance{c:C4}:Ix (corL c) 0 (fr c.1):=⟨rfl⟩
instance{t:T3}:Ix (DC t) 0 (fr t.1):=⟨rfl⟩
instance{t:T3}:Ix (DC t) 1 (fr t.2.1):=⟨rfl⟩
instance{t:T3}:Ix (DC t) 2 (fr t.2.2):=⟨rfl⟩
instance:Wp (AY a b ⟨nx,rt,bk,ct⟩ τ) (a ⟨b ⟨nx,rt,bk,ct⟩,rt,bk,ct⟩ τ):=⟨id⟩
instance:Wp (Aj ta g ⟨nx,rt,bk,ct⟩ τ) (ta τ λx=>g x τ nx):=⟨id⟩
instance[h:Zc τ τ'] :Wp (Ar ta ⟨nx,rt,bk,ct⟩ τ) (ta τ' rt):=⟨λk=>by unfold Ar;rw[h.e];exact k⟩
instance:Wp (BZ ⟨nx,rt,bk,ct⟩ τ) (nx τ):=⟨id⟩
instance:Wp (CZ tt a b ⟨nx,rt,bk,ct⟩ τ) (tt τ λk=>if k=true then a ⟨nx,rt,bk,ct⟩ τ else b ⟨nx,rt,bk,ct⟩ τ):=⟨id⟩
def WO (τ:A6)(i:Nat)(v:AV)(QT:A6->Prop):Prop:=QT (τ.set i (some v))
instance{v:AV}[h:Zx τ i v τ'] :Wp (WO τ i v QT) (QT τ'):=⟨λk=>by unfold WO;rw[h.e];exact k⟩
instance:Wp (GY r i ⟨nx,rt,bk,ct⟩ τ) (r τ λxs=>WO τ i (.own xs) nx):=⟨id⟩
instance[h:Zx τ i (.val x) τ'] :Wp (An i x τ QT) (QT τ'):=⟨λk=>by unfold An;rw[h.e];exact k⟩
instance{f:JT}[h:hG τ i (.val x)] :Wp (VC i f ta ⟨nx,rt,bk,ct⟩ τ) (ta τ λy=>f x y λz=>WO τ i (.val z) nx):=⟨λk=>oK h.e k⟩
instance[h:hG τ i (.own xs)] :Wp (MH i τ QL) (QL xs):=⟨λk=>oS h.e k⟩
instance{f:i7}:Wp (DX i f r ⟨nx,rt,bk,ct⟩ τ) (MH i τ λxs=>r τ λys=>f xs ys λzs=>WO τ i (.own zs) nx):=⟨id⟩
instance:Wp (Ga xs [y] QL) (xs.length<sizeLine/\QL (xs ++ [y])):=⟨id⟩
instance{k:Int}:Wp (bL xs [.int k,y] QL) ((0<=k/\k<=(xs.length:Int)/\xs.length<sizeLine)/\QL (xs.take k.toNat++y::xs.drop k.toNat)):=⟨id⟩
instance:Wp (EF ai g b ⟨nx,rt,bk,ct⟩ τ) (ai τ λxs=>DK g b ⟨nx,rt,bk,ct⟩ xs τ):=⟨id⟩
instance:Wp (DK g b ⟨nx,rt,bk,ct⟩ [] τ) (nx τ):=⟨id⟩
instance{q:zy PV}:t5 (DK g b ⟨nx,rt,bk,ct⟩ (x::q) τ) (g x τ λc=>b ⟨DK g b ⟨nx,rt,bk,ct⟩ q,rt,nx,DK g b ⟨nx,rt,bk,ct⟩ q⟩ c):=⟨id⟩
instance:Wp (Bz [] τ QT) (QT τ):=⟨id⟩
instance{t:zy PV}:Wp (Ab g gs (x::t) τ QT) (g x τ λτ'=>gs t τ' QT):=⟨id⟩
instance:Wp (JU n gs x τ QT) (Om x λxs=>xs.length=n/\gs xs τ QT):=⟨id⟩
instance[h:hG τ i (.val x)] :Wp (aV i τ Q) (Q x):=⟨λk=>xp h.e k⟩
instance:Wp (aC x τ Q) (Q x):=⟨id⟩
instance{f:JT}:Wp (AW f ta tb τ Q) (ta τ λx=>tb τ λy=>f x y Q):=⟨id⟩
instance{f:PV->(PV->Prop)->Prop}:Wp (YY f ta τ Q) (ta τ λx=>f x Q):=⟨id⟩
instance:Wp (VB ta tb τ Q) (ta τ λx=>dh x λc=>if c=true then tb τ Q else Q (.bl false)):=⟨id⟩
instance:Wp (pF ta tb τ Q) (ta τ λx=>dh x λc=>if c=true then Q (.bl true) else tb τ Q):=⟨id⟩
instance:Wp (A1 ta τ QB) (ta τ λx=>dh x QB):=⟨id⟩
def uW (x:PV)(QB:zq->Prop):Prop:=match gw x with | some b=>QB b|none=>False
instance:Wp (jG ta τ QB) (ta τ λx=>uW x QB):=⟨id⟩
instance{c:zq}:Wp (uW (.bl c) QB) (QB c):=⟨id⟩
instance:Wp (Pu tt τ QB) (tt τ λc=>QB (!c)):=⟨id⟩
instance:Wp (Fi tt tu τ QB) (tt τ λc=>if c=true then tu τ QB else QB false):=⟨id⟩
instance:Wp (S7 tt tu τ QB) (tt τ λc=>if c=true then QB true else tu τ QB):=⟨id⟩
instance:Wp (jE tt ta tb τ Q) (tt τ λc=>if c=true then ta τ Q else tb τ Q):=⟨id⟩
instance:Wp (Dg τ QB) (QB true):=⟨id⟩
instance[h:Zc τ τ'] :Wp (S5 ta τ Q) (ta τ' λx=>Xg x=true/\Q x):=⟨λk=>by unfold S5;rw[h.e];exact k⟩
instance[h:Zc τ τ'] :Wp (S6 tt τ QB) (tt τ' QB):=⟨λk=>by unfold S6;rw[h.e];exact k⟩
instance:Wp (AL τ QL) (QL []):=⟨id⟩
instance:Wp (AB ta r τ QL) (ta τ λx=>r τ λxs=>QL (x::xs)):=⟨id⟩
def dg (xs:zy PV)(Q:PV->Prop):Prop:=xs.length<=sizeLine/\Q (.tup xs)
instance:Wp (BL r τ Q) (r τ λxs=>dg xs Q):=⟨id⟩
instance:Wp (DI r τ QL) (r τ λxs=>xs.length<=sizeLine/\QL xs):=⟨id⟩
instance:Wp (Ex r τ Q) (r τ λxs=>Q (.lst xs)):=⟨id⟩
instance:Wp (AN n F r τ Q) (r τ λxs=>xs.length=n/\F xs Q):=⟨id⟩
instance:Wp (FI F r τ Q) (r τ λxs=>F xs Q):=⟨id⟩
instance{own:Nat}{ix:zy Nat}{te:AE}{c d:A6}[h1:mS own c][h2:mI ix τ d][f:Zn c d τ'] :Wp (B7 ai own ix g tt te τ QL) (ai τ λxs=>xs.length<sizeLine/\CJ g tt te τ' QL xs []):=⟨λk=>by unfold B7 Jo;rw[h1.e,h2.e,f.e];exact k⟩
instance{te:AE}{c:zy PV}:Wp (CJ g tt te τ QL [] c) (QL c):=⟨id⟩
instance{te:AE}{c q:zy PV}:Wp (CJ g tt te τ QL (x::q) c) (g x τ λd=>tt d λok=>if ok=true then te d λy=>CJ g tt te τ QL q (c ++ [y]) else CJ g tt te τ QL q c):=⟨id⟩
instance:Wp (Ha ta τ QL) (ta τ λx=>Om x QL):=⟨id⟩
instance:Wp (NY (AB ta AL) τ QL) (ta τ λx=>V6 x λj=>(-(2^62)<=j/\j<2^62)/\QL (rng 0 j.toNat)):=⟨λh=>by have e:(λx=>V6 x λj=>(-(2^62)<=j/\j<2^62)/\QL (rng 0 j.toNat))=(λx=>match [x] with | [.int j] =>(-(2^62)<=j/\j<2^62)/\QL (rng 0 j.toNat)|_=>False):=(funext λx=>by cases x <;> rfl);rw[e] at h;exact h⟩
instance:Wp (hJ (AB ta (AB tb AL)) τ QL) (ta τ λx=>tb τ λy=>Om x λxs=>Om y λys=>QL (IH xs ys)):=⟨id⟩
instance{R:Int->Prop}{k:Int}:Wp (V6 (.int k) R) (R k):=⟨id⟩
instance{R:zq->Prop}{c:zq}:Wp (dh (.bl c) R) (R c):=⟨id⟩
instance:Wp (Om (.tup xs) QL) (QL xs):=⟨id⟩
instance:Wp (Om (.lst xs) QL) (QL xs):=⟨id⟩
instance{q:Rat}:Wp (Om (fr q) QL) (QL [.int q.num, .int q.den]):=⟨id⟩
instance{cs:zy C4}:Wp (Om (Ba cs) QL) (QL (cs.map cor)):=⟨id⟩
instance{f:Int->Int->PV}{k l:Int}:Wp (fI f (.int k) (.int l) Q) (Q (f k l)):=⟨id⟩
instance{C:Int->Int->Prop}{f:Int->Int->PV}{k l:Int}:Wp (lh C f (.int k) (.int l) Q) (C k l/\Q (f k l)):=⟨id⟩
instance:Wp (IB .non .non Q) (Q (.bl true)):=⟨id⟩
instance:Wp (P9 .non .non Q) (Q (.bl false)):=⟨id⟩
instance:Wp (IB (.tup xs) .non Q) (Q (.bl false)):=⟨id⟩
instance:Wp (P9 (.tup xs) .non Q) (Q (.bl true)):=⟨id⟩
instance{k:T3}:Wp (IB (DC k) .non Q) (Q (.bl false)):=⟨id⟩
instance{k:Int}[h:Ix x k z] :Wp (Am x (.int k) Q) (Q z):=⟨λq=>rf h.e q⟩
instance{k:Int}:Wp (Nj (.int k) Q) (Q (.int (-k))):=⟨id⟩
instance w_not {c:zq}:Wp (jU (.bl c) Q) (Q (.bl (!c))):=⟨id⟩
instance{k l:Int}:Wp (BX (.int k) (.int l) Q) (Q (.int (k+l))):=⟨id⟩
instance (priority:=high)[h:Zo xs ys zs]{n:Nat}[h2:d4 zs n] :Wp (BX (.tup xs) (.tup ys) Q) (n<=sizeLine/\Q (.tup zs)):=⟨λk=>⟨by have e:=h2.e;rw[<-h.e,AAf] at e;rw[e];exact k.1,by rw[h.e];exact k.2⟩⟩
instance:Wp (BX (.lst xs) (.lst ys) Q) (xs.length+ys.length<=sizeLine/\Q (.lst (xs++ys))):=⟨id⟩
instance{k l:Int}:Wp (MZ (.int k) (.int l) Q) (Q (.bl (decide (k=l)))):=⟨id⟩
instance{k l:Int}:Wp (Ym (.int k) (.int l) Q) (Q (.bl (!decide (k=l)))):=⟨id⟩
instance{k l:Str}:Wp (Ym (.str k) (.str l) Q) (Q (.bl (!decide (k=l)))):=⟨id⟩
instance{k l:Rat}:Wp (MZ (fr k) (fr l) Q) (Q (.bl (decide (k=l)))):=⟨oM⟩
instance{k l:Rat}:Wp (Ym (fr k) (fr l) Q) (Q (.bl (!decide (k=l)))):=⟨oR⟩
instance:Wp (ID [.lst xs] Q) (Q (.int xs.length)):=⟨id⟩
instance{c:zy Int}:Wp (ID [.scr c] Q) (Q (.int c.length)):=⟨id⟩
instance (priority:=high){c:Type}{f:c->PV}{cs:zy c}:Wp (ID [.tup (cs.map f)] Q) (Q (.int cs.length)):=⟨λh=>by show Q (.int (cs.map f).length);rw[AAI];exact h⟩
instance (priority:=high){c:Type}{f:c->PV}{cs:zy c}:Wp (ID [.lst (cs.map f)] Q) (Q (.int cs.length)):=⟨λh=>by show Q (.int (cs.map f).length);rw[AAI];exact h⟩
instance{f:Int->Int->Int}{k l:Int}:Wp (hZ f [.int k, .int l] Q) (Q (.int (f k l))):=⟨id⟩
instance{c:zq}:Wp (aZ [.bl c] Q) (Q (.int (if c then 1 else 0))):=⟨id⟩
instance:Wp (DS [.lst xs] Q) (Q (.tup xs)):=⟨id⟩
instance{lo hi:zt Int}:Wp (Yn (.lst xs) lo hi Q) (Q (.lst (G3 xs lo hi))):=⟨ET⟩
instance{l h:AO}:Wp (Z6 ta l h τ Q) (ta τ λx=>l τ λlo=>h τ λhi=>Yn x lo hi Q):=⟨id⟩
instance{R:zt Int->Prop}:Wp (Z7 τ R) (R none):=⟨id⟩
instance{R:zt Int->Prop}:Wp (Z8 ta τ R) (ta τ λx=>V6 x λi=>R (some i)):=⟨id⟩
instance{A B:Prop}:Wp (if true=true then A else B) (A):=⟨λh=>by rw[AAE rfl];exact h⟩
instance{A B:Prop}:Wp (if false=true then A else B) (B):=⟨λh=>by rw[AAD AAQ];exact h⟩
instance{A B:Prop}:Wp (if (!true)=true then A else B) (B):=⟨λh=>h⟩
instance{A B:Prop}:Wp (if (!false)=true then A else B) (A):=⟨λh=>h⟩
instance{p A B:Prop}[Decidable p] :qM (if decide p=true then A else B) (p->A) (¬p->B):=⟨oP⟩
instance{p A B:Prop}[Decidable p] :qM (if (!decide p)=true then A else B) (¬p->A) (p->B):=⟨oQ⟩
instance{A:Prop}:Wp (([] :zy PV).length<=sizeLine/\A) (A):=⟨λh=>⟨lz,h⟩⟩
instance{A:Prop}:Wp (([] :zy PV).length<sizeLine/\A) (A):=⟨λh=>⟨lz,h⟩⟩
instance{c:PV}{A:Prop}:Wp ([c].length=1/\A) (A):=⟨λh=>⟨rfl,h⟩⟩
instance{c:PV}{A:Prop}:Wp ([c].length<=sizeLine/\A) (A):=⟨λh=>⟨lz,h⟩⟩
instance{c d:PV}{A:Prop}:Wp ([c,d].length=2/\A) (A):=⟨λh=>⟨rfl,h⟩⟩
instance{c d:PV}{A:Prop}:Wp ([c,d].length<=sizeLine/\A) (A):=⟨λh=>⟨lz,h⟩⟩
instance{c d:PV}{A:Prop}:Wp ([c,d].length<sizeLine/\A) (A):=⟨λh=>⟨lz,h⟩⟩
instance{c d e:PV}{A:Prop}:Wp ([c,d,e].length=3/\A) (A):=⟨λh=>⟨rfl,h⟩⟩
instance{c d e:PV}{A:Prop}:Wp ([c,d,e].length<=sizeLine/\A) (A):=⟨λh=>⟨lz,h⟩⟩
instance{c d e f:PV}{A:Prop}:Wp ([c,d,e,f].length=4/\A) (A):=⟨λh=>⟨rfl,h⟩⟩
instance{c d e f:PV}{A:Prop}:Wp ([c,d,e,f].length<=sizeLine/\A) (A):=⟨λh=>⟨lz,h⟩⟩
instance{c d e f k l:PV}{A:Prop}:Wp ([c,d,e,f,k,l].length<=sizeLine/\A) (A):=⟨λh=>⟨lz,h⟩⟩
instance{c:PV}:Wp (dg [c] Q) (Q (.tup [c])):=⟨λh=>⟨lz,h⟩⟩
instance{c d:PV}:Wp (dg [c,d] Q) (Q (.tup [c,d])):=⟨λh=>⟨lz,h⟩⟩
instance{c d e:PV}:Wp (dg [c,d,e] Q) (Q (.tup [c,d,e])):=⟨λh=>⟨lz,h⟩⟩
instance{c d e f:PV}:Wp (dg [c,d,e,f] Q) (Q (.tup [c,d,e,f])):=⟨λh=>⟨lz,h⟩⟩
instance (priority:=high+10):Wp (dg [.int 0, .int 1] Q) (Q (fr 0)):=⟨λh=>⟨lz,h⟩⟩
instance (priority:=high+10):Wp (dg [.int 1, .int 1] Q) (Q (fr 1)):=⟨λh=>⟨lz,h⟩⟩
instance (priority:=high){k:Int}:Wp (dg [.int k, .int 1] Q) (Q (fr (k:Rat))):=⟨λh=>⟨lz,SZ h⟩⟩
instance (priority:=high){k:Rat}{p q r:Rat}:Wp (BX (.tup [fr k]) (.tup [fr p,fr q,fr r]) Q) (Q (cor (k,p,q,r))):=⟨λh=>⟨lz,h⟩⟩
def jV:PV.tup [.int 1, .int 2] =fr (1/2):=by unfold fr;rw[show ((1:Rat)/2).num=1 by decide +kernel,show ((1:Rat)/2).den=2 by decide +kernel];rfl
instance (priority:=high):Wp (dg [.int 1, .int 2] Q) (Q (fr (1/2))):=⟨λh=>⟨lz,by rw[jV];exact h⟩⟩
def jW:PV.tup [.int 1, .int 3] =fr (1/3):=by unfold fr;rw[show ((1:Rat)/3).num=1 by decide +kernel,show ((1:Rat)/3).den=3 by decide +kernel];rfl
instance (priority:=high):Wp (dg [.int 1, .int 3] Q) (Q (fr (1/3))):=⟨λh=>⟨lz,by rw[jW];exact h⟩⟩
instance{k:Int}{A:Prop}:Wp (Xg (.int k)=true/\A) (A):=⟨λh=>⟨rfl,h⟩⟩
theorem Tx {d:Type}{f:d->PV}(e:∀a,Xg (f a)=true):∀cs:zy d,Tw (cs.map f)=true
 | [] =>rfl
 | c::cs=>by rw[AAK,Tw,e,Tx e cs];rfl
class Zp (xs ys:List PV) (zs:outParam (List PV)):Prop where
 e:IH xs ys=zs
instance:Zp [] [] [] :=⟨rfl⟩
instance[h:Zp xs ys zs] :Zp (x::xs) (y::ys) (.tup [x,y] :: zs):=⟨by rw[<-h.e];rfl⟩
instance[h:Zp xs ys zs] :Wp (DK g b ⟨nx,rt,bk,ct⟩ (IH xs ys) τ) (DK g b ⟨nx,rt,bk,ct⟩ zs τ):=⟨λk=>by rw[h.e];exact k⟩
instance{te:AE}{c:zy PV}[h:Zp xs ys zs] :Wp (CJ g tt te τ QL (IH xs ys) c) (CJ g tt te τ QL zs c):=⟨λk=>by rw[h.e];exact k⟩
instance{A:Prop}[h:Zp xs ys zs] :Wp ((IH xs ys).length<sizeLine/\A) (zs.length<sizeLine/\A):=⟨λk=>by rw[h.e];exact k⟩
instance (priority:=high){te:AE}{c q zs:zy PV}[h:Zo c [y] zs] :Wp (CJ g tt te τ QL q (c ++ [y])) (CJ g tt te τ QL q zs):=⟨λk=>by rw[h.e];exact k⟩
instance{m:Int}:S4 (A4 [.tape, .int m] Q) (0<m/\m<4611686018427387904) (∀r,0<=r->r<m->Q (.int r)):=⟨λc h=>C6 c.1 c.2 h⟩
instance{d:zy Int}{k:Int}:S4 (NS [.scr d, .int k] Q) (0<=k/\k<=1000) (Q .tape):=⟨λc h=>⟨c,h⟩⟩
instance{a b:Rat}:S4 (Ku [fr a,fr b] Q) (Bd 4000 a/\Bd 4000 b) (Q (fr (a+b))):=⟨λc h=>YT c.1 c.2 h⟩
instance{a b:Rat}:S4 (D8 [fr a,fr b] Q) (Bd 4000 a/\Bd 4000 b) (Q (fr (a-b))):=⟨λc h=>U3 c.1 c.2 h⟩
instance{a b:Rat}:S4 (Jj [fr a,fr b] Q) (Bd 4000 a/\Bd 4000 b) (Q (fr (a*b))):=⟨λc h=>U5 c.1 c.2 h⟩
instance{a b:Rat}:S4 (BP [fr a,fr b] Q) (Bd 4000 a/\Bd 4000 b) (Q (fr (a+b))):=⟨λc h=>DG c.1 c.2 h⟩
instance{a b:Rat}:S4 (BW [fr a,fr b] Q) (Bd 4000 a/\Bd 4000 b) (Q (fr (a-b))):=⟨λc h=>Cd c.1 c.2 h⟩
instance{a b:Rat}:S4 (Bt [fr a,fr b] Q) (Bd 4000 a/\Bd 4000 b) (Q (fr (a*b))):=⟨λc h=>Ci c.1 c.2 h⟩
instance{a b:Rat}:S4 (A0 [fr a,fr b] Q) (Bd 4000 a/\Bd 4000 b) (Q (.bl (decide (a<b)))):=⟨λc h=>E3 c.1 c.2 h⟩
instance{a b:Rat}:S4 (NR [fr a,fr b] Q) (b≠0/\Bd 4000 a/\Bd 4000 b) (Q (fr (a/b))):=⟨λc h=>YS c.1 c.2.1 c.2.2 h⟩
instance{a b:Rat}:S4 (C5 [fr a,fr b] Q) (b≠0/\Bd 4000 a/\Bd 4000 b) (Q (fr (a/b))):=⟨λc h=>GU c.1 c.2.1 c.2.2 h⟩
instance:S4 (Cu [.tape] Q) (True) (∀a,Bd 8 a->0<a->Q (fr a)):=⟨λ_ h=>NP h⟩
instance:S4 (BC [.tape] Q) (True) (∀a,Bd 8 a->Q (fr a)):=⟨λ_ h=>A2 λa m=>h a (m.bd (by decide) (by decide))⟩
instance{lo:Int}{A:Prop}:Wp ((rng lo n).length<sizeLine/\A) (n<16777216/\A):=⟨λk=>⟨by rw[WD];exact k.1,k.2⟩⟩
instance{c:Type}{f:c->PV}{cs:zy c}{A:Prop}:Wp ((cs.map f).length<sizeLine/\A) (cs.length<16777216/\A):=⟨λk=>⟨by rw[AAI];exact k.1,k.2⟩⟩
instance (priority:=high){c:Type}{k:c}[Decidable (k=k)]{A B:Prop}:Wp (if decide (k=k)=true then A else B) A:=⟨λh=>by rw[AAE (AAk rfl)];exact h⟩
instance (priority:=high){c:Type}{k:c}[Decidable (k=k)]{A B:Prop}:Wp (if (!decide (k=k))=true then A else B) B:=⟨λh=>by rw[AAD (by simp)];exact h⟩
instance{cs:zy C4}{k:Int}:S4 (Yn (Ba cs) (some k) none Q) (0<=k/\k<=cs.length) (Q (Ba (cs.drop k.toNat))):=⟨λc h=>X7 (k:=k.toNat) (by omega) (by omega) h⟩
def nP {d:Type}{f:d->PV}{cs:zy d}{k:Int}{R:PV->Prop}(c:0<=k/\k<cs.length)(h:∀c,cs[k.toNat]? =some c->c∈cs->R (f c)):di (JV (cs.map f) k) R:=by
 have hk:k.toNat<cs.length:=by omega
 have e:JV (cs.map f) ((k.toNat:Nat):Int)=some (f cs[k.toNat]):=Cj (by rw[AAm,AAT hk] <;> rfl);rw[show k=((k.toNat:Nat):Int) by omega,e];exact h _ (AAT hk) (ABU hk)
instance{d:Type}{f:d->PV}{cs:zy d}{k:Int}:S4 (Am (.lst (cs.map f)) (.int k) Q) (0<=k/\k<cs.length) (∀c,cs[k.toNat]? =some c->c∈cs->Q (f c)):=⟨λc h=>nP c h⟩
instance{c:C4}:Wp (Yn (cor c) (some 1) none Q) (Q (.tup [fr c.2.1,fr c.2.2.1,fr c.2.2.2])):=⟨λh=>SH h⟩
instance:S4 (Np [x] Q) (J3 x=true/\O6 x) (Q (.str (oU x))):=⟨λc h=>Wb c.2 c.1 h⟩
end
end PL
namespace L2
open PySem PySem.Spec PyProof.Rows
abbrev y1 (b:zq)(h:zl)(l:zu):zl:=h.push (Vo b l)
abbrev y2 (b c:zq)(h:zl)(l m:zu):zl:=(y1 b h l).push (Vo c m)
abbrev y3 (b c d:zq)(h:zl)(l m n:zu):zl:=(y2 b c h l m).push (Vo d n)
abbrev y4 (b c d:zq)(h:zl)(l m n:zu):zl:=(y3 b c d h l m n).push {cls:= .type "tuple",data:= .seq #[.ref h.objs.size, .ref (y1 b h l).objs.size, .ref (y2 b c h l m).objs.size] }
abbrev y5 (b c d:zq)(h:zl)(l m n:zu):zl:=(y4 b c d h l m n).push {cls:= .type "tuple",data:= .seq #[.none, .none, .none] }
end L2
namespace PL
open PySem L2 PyProof.Rows
class Zw (Ts:List String):Prop where
 q:Ts.any (Yx .tup)=true/\Ts.any (Yx .lst)=true/\Ts.any (Yx .int)=false/\Ts.any (Yx .bl)=false/\Ts.any (Yx .non)=false/\Ts.any (Yx .str)=false
instance:Zw ["tuple","list"] :=⟨by decide⟩
instance:Zw ["list","tuple"] :=⟨by decide⟩
end PL
namespace L2
open PySem PySem.Spec PyProof.Rows
section
variable {κ:Type}[DecidableEq κ]
def EU (kvs:zy (κ×V))(k:κ):zt V:=(kvs.find? λa=>decide (a.1=k)).map (·.2)
def D3 (kvs:zy (κ×V))(k:κ)(v:V):zy (κ×V):=
 if (kvs.any λa=>decide (a.1=k))=true then kvs.map (λa=>if a.1=k then (a.1,v) else a) else kvs ++ [(k,v)]
def HW {p:κ×V}{r:zy (κ×V)}{k:κ}(e:p.1=k):EU (p::r) k=some p.2:=by simp[EU,ABZ,e]
def HV {p:κ×V}{r:zy (κ×V)}{k:κ}(e:¬p.1=k):EU (p::r) k=EU r k:=by simp[EU,ABZ,e]
theorem Oi (k:κ):∀kvs:zy (κ×V),(kvs.any λa=>decide (a.1=k))=(EU kvs k).isSome
 | [] =>rfl
 | p::r=>by
   rw[AA2];by_cases e:p.1=k
   .simp only[HW e,AAk e,Bool.true_or,Option.isSome_some]
   .rw [HV e,AAZ e,Bool.false_or];exact Oi k r
def EH (kvs:zy (κ×V))(k:κ)(v:V):(D3 kvs k v).length<=kvs.length+1:=by
 unfold D3;split
 .rw [AAI];omega
 .rw [AAf,AAb,AC0];omega
def MF.isSome_eq {o:zt V}{u:zt zx}(r:MF o u):o.isSome=u.isSome:=by
 cases o with
 | none=>cases u with
   | none=>rfl
   | some _=>exact(show False from r).elim
 | some _=>cases u with
   | none=>exact(show False from r).elim
   | some _=>rfl
def MF.getD {o:zt V}{u:zt zx}{d:V}{d':zx}(r:MF o u)(a:RelV d d'):RelV (o.getD d) (u.getD d'):=by
 cases o with
 | none=>cases u with
   | none=>exact a
   | some _=>exact(show False from r).elim
 | some _=>cases u with
   | none=>exact(show False from r).elim
   | some _=>exact r
def KV.val {kvs:zy (κ×V)}{vs:zy (κ×zx)}(r:KV kvs vs)(k:κ):MF (EU kvs k) (valueAt vs k):=by
 unfold KV at r;induction r with
 | nil=>exact True.intro
 | @cons p q c qs h t ih=>
   obtain⟨h1,h2⟩:=h;by_cases e:p.1=k
   .have a:q.1=k:=h1.symm.trans e;have b:valueAt (q::qs) k=some q.2:=by simp[valueAt,ABZ,a]
    rw[HW e,b];exact h2
   .have a:¬q.1=k:=λz=>e (h1.trans z);have b:valueAt (q::qs) k=valueAt qs k:=by simp[valueAt,ABZ,a]
    rw[HV e,b];exact ih
def KV.any {kvs:zy (κ×V)}{vs:zy (κ×zx)}(r:KV kvs vs)(k:κ):(kvs.any λa=>decide (a.1=k))=vs.any λa=>decide (a.1=k):=by
 unfold KV at r;induction r with
 | nil=>rfl
 | cons h t ih=>rw[AA2,AA2,ih,h.1]
def KV.repl {kvs:zy (κ×V)}{vs:zy (κ×zx)}(r:KV kvs vs)(k:κ){y:V}{u:zx}(b:RelV y u):KV (kvs.map λa=>if a.1=k then (a.1,y) else a) (vs.map λa=>if a.1=k then (a.1,u) else a):=by
 unfold KV at r ⊢;induction r with
 | nil=>exact .nil
 | @cons p q c qs h t ih=>
   rw[AAK,AAK];refine .cons ?_ ih;obtain⟨h1,h2⟩:=h;by_cases e:p.1=k
   .rw [AAE e,AAE (h1.symm.trans e)];exact⟨h1,b⟩
   .rw [AAD e,AAD (λz=>e (h1.trans z))];exact⟨h1,h2⟩
def KV.put {kvs:zy (κ×V)}{vs:zy (κ×zx)}(r:KV kvs vs)(k:κ){y:V}{u:zx}(a:RelV y u):KV (D3 kvs k y) (stored vs k u):=by
 unfold D3 stored;rw[r.any k];by_cases e:(vs.any λb=>decide (b.1=k))=true
 .rw [AAE e,AAE e];exact r.repl k a
 .rw [AAD e,AAD e];exact Paired.snoc r ⟨rfl,a⟩
def KV.keys {kvs:zy (κ×V)}{vs:zy (κ×zx)}(r:KV kvs vs):kvs.map (·.1)=vs.map (·.1):=by
 unfold KV at r;induction r with
 | nil=>rfl
 | cons h t ih=>rw[AAK,AAK,ih,h.1]
def KV.length {kvs:zy (κ×V)}{vs:zy (κ×zx)}(r:KV kvs vs):kvs.length=vs.length:=ABp r
end
def Tl {P:zp}{w:zm}{k:Cr}{u:zx}(r:RelV (kV k) u):(A8 P w).is k u=true:=by
 cases k with
 | inl i=>obtain⟨t,e⟩:=(show ∃t,u=Value.int i t from r);subst e;exact Tt P w i t
 | inr x=>obtain⟨t,e⟩:=(show ∃t,u=Value.str x t from r);subst e;exact Tu P w x t
theorem QJ {P:zp}{w:zm}:∀{a:zy Cr} {us:zy zx},Ap (a.map kV) us->ItemsAre (A8 P w) a us
 | [],_,r=>by rw[ABS] at r;cases r;exact .nil
 | k::a,_,r=>by
   rw[AAK] at r;cases r with
   | cons h t=>exact .cons (Tl h) (QJ t)
abbrev KT (H:Hp):zy (zy Cr×V)->zy (zy Cr×zu×zx)->Prop:=Paired λp q=>p.1=q.1/\H q.2.1=some (.tup (p.1.map kV))/\RelV p.2 q.2.2
def KT.val {H:Hp}{kvs:zy (zy Cr×V)}{xs:zy (zy Cr×zu×zx)}(r:KT H kvs xs)(k:zy Cr):MF (EU kvs k) ((atKey xs k).map (·.2)):=by
 induction r with
 | nil=>exact True.intro
 | @cons p q c qs h t ih=>
   obtain⟨h1,_,h2⟩:=h;by_cases e:p.1=k
   .have a:q.1=k:=h1.symm.trans e;have b:atKey (q::qs) k=some q.2:=by simp[atKey,ABZ,a]
    rw[HW e,b];exact h2
   .have a:¬q.1=k:=λz=>e (h1.trans z);have b:atKey (q::qs) k=atKey qs k:=by simp[atKey,ABZ,a]
    rw[HV e,b];exact ih
def KT.repl {H:Hp}{kvs:zy (zy Cr×V)}{xs:zy (zy Cr×zu×zx)}(r:KT H kvs xs)(k:zy Cr){y:V}{u:zx}(b:RelV y u):KT H (kvs.map λa=>if a.1=k then (a.1,y) else a) (xs.map (putAt k u)):=by
 induction r with
 | nil=>exact .nil
 | @cons p q d qs h t ih=>
   rw[AAK,AAK];refine .cons ?_ ih;obtain⟨h1,h2,c⟩:=h;unfold putAt;by_cases e:p.1=k
   .rw [AAE e,AAE (h1.symm.trans e)];exact⟨h1,h2,b⟩
   .rw [AAD e,AAD (λz=>e (h1.trans z))];exact⟨h1,h2,c⟩
def KT.put {H:Hp}{kvs:zy (zy Cr×V)}{xs:zy (zy Cr×zu×zx)}(r:KT H kvs xs)(k:zy Cr){b:zu}{y:V}{u:zx}(hb:H b=some (.tup (k.map kV)))(a:RelV y u):KT H (D3 kvs k y) (storedH xs k b u):=by
 have e:(kvs.any λc=>decide (c.1=k))=(atKey xs k).isSome:=by rw[Oi,(r.val k).isSome_eq,ACN]
 unfold D3 storedH;rw[e];by_cases q:(atKey xs k).isSome=true
 .rw [AAE q,AAE q];exact r.repl k a
 .rw [AAD q,AAD q];exact Paired.snoc r ⟨rfl,hb,a⟩
def KT.keeps {H a:Hp}{kvs:zy (zy Cr×V)}{xs:zy (zy Cr×zu×zx)}(r:KT H kvs xs)(c:∀b ys,H b=some (.tup ys)->a b=some (.tup ys)):KT a kvs xs:=
 Paired.mapP r λ_ _ z=>⟨z.1,c _ _ z.2.1,z.2.2⟩
section
variable {P:zp}{w:zm}{H:Hp}{h:zl}{a:zu}
def iU {u:HO}(ok:IZ P w H h)(e:Rd H a u):CI P w H h a u:=e.ok ok
def aH {kvs:zy (Cr×V)}(ok:IZ P w H h)(e:Rd H a (.dK kvs)):kvs.length<=sizeLine/\(a==sysModules)=false/\∃vs,KV kvs vs/\h.DictOf (A8 P w) a vs:=
 show CI P w H h a (.dK kvs) from iU ok e
def XE {kvs:zy (Cr×V)}(ok:IZ P w H h)(e:H a=some (.dK kvs)):kvs.length<=sizeLine/\(a==sysModules)=false/\∃vs,KV kvs vs/\h.DictOf (A8 P w) a vs:=aH ok (.inl e)
def Vr {b:zy Cr}(ok:IZ P w H h)(e:H a=some (.tup (b.map kV))):(tupleKind (A8 P w)).is h b a:=by obtain⟨_,c,r,o,h1,h2,n,d⟩:=(show CI P w H h a (.tup (b.map kV)) from ok a _ e);exact⟨o,c.toArray,n,h1,h2,d,by simpa using QJ r⟩
def aK {kvs:zy (zy Cr×V)}(ok:IZ P w H h)(e:Rd H a (.dT kvs)):kvs.length<=sizeLine/\(a==sysModules)=false/\ ∃xs,KT H kvs xs/\h.DictOfH (tupleKind (A8 P w)) a xs:=by
 obtain⟨z,y,xs,r,o,es,ep,h1,h2,b,c,d⟩:=(show CI P w H h a (.dT kvs) from iU ok e);refine⟨z,y,xs,r,o,es,ep,h1,h2,b,c,λx hx=> ?_,d⟩;have all:∀{l:zy (zy Cr×V)} {m:zy (zy Cr×zu×zx)},KT H l m->∀x∈m,(tupleKind (A8 P w)).is h x.1 x.2.1:=by
  intro l m q;induction q with
  | nil=>intro x hx;exact nomatch hx
  | @cons p q f qs hq t ih=>
    intro x hx;rcases AAF.mp hx with e|hx
    .subst e;exact Vr ok (by rw[<-hq.1];exact hq.2.1)
    .exact ih x hx
 exact all r x hx
def mY {kvs:zy (zy Cr×V)}(ok:IZ P w H h)(e:H a=some (.dT kvs)):kvs.length<=sizeLine/\(a==sysModules)=false/\ ∃xs,KT H kvs xs/\h.DictOfH (tupleKind (A8 P w)) a xs:=aK ok (.inl e)
end
def Us (H:Hp)(a:zu)(y:V)(r:zt V):Prop:=
 (∃kvs k,Rd H a (.dK kvs)/\y=kV k/\r=EU kvs k)\/∃kvs k b,Rd H a (.dT kvs)/\y= .ref b/\H b=some (.tup (k.map kV))/\r=EU kvs k
def Ut (H:Hp)(a:zu)(y v:V)(c:Hp):Prop:=
 (∃kvs k,H a=some (.dK kvs)/\y=kV k/\kvs.length<sizeLine/\c=upd H a (.dK (D3 kvs k v)))\/
 ∃kvs k b,H a=some (.dT kvs)/\y= .ref b/\H b=some (.tup (k.map kV))/\kvs.length<sizeLine/\c=upd H a (.dT (D3 kvs k v))
def Us.k {H:Hp}{a:zu}{kvs:zy (Cr×V)}{k:Cr}(e:H a=some (.dK kvs)):Us H a (kV k) (EU kvs k):= .inl ⟨kvs,k, .inl e,rfl,rfl⟩
def Us.t {H:Hp}{a b:zu}{kvs:zy (zy Cr×V)}{k:zy Cr}(e:H a=some (.dT kvs))(c:H b=some (.tup (k.map kV))):Us H a (.ref b) (EU kvs k):= .inr ⟨kvs,k,b, .inl e,rfl,c,rfl⟩
def Ut.k {H:Hp}{a:zu}{kvs:zy (Cr×V)}{k:Cr}{v:V}(e:H a=some (.dK kvs))(hl:kvs.length<sizeLine):Ut H a (kV k) v (upd H a (.dK (D3 kvs k v))):= .inl ⟨kvs,k,e,rfl,hl,rfl⟩
def Ut.t {H:Hp}{a b:zu}{kvs:zy (zy Cr×V)}{k:zy Cr}{v:V}(e:H a=some (.dT kvs))(c:H b=some (.tup (k.map kV)))(hl:kvs.length<sizeLine):Ut H a (.ref b) v (upd H a (.dT (D3 kvs k v))):= .inr ⟨kvs,k,b,e,rfl,c,hl,rfl⟩
section
variable {X:Cx}{zj:zy (zu×Obj)}{σ:St}{H:Hp}{s:zw}{a:zu}{y v:V}{u r:zx}{o:zt V}{A:zk}{E:zx->zw->Prop}
def Inv.big (I:Inv X zj σ H s):sysModules<s.heap.objs.size:=by have h:mainGlobals<s.heap.objs.size:=(I.mod.glob.keeps I.bk).lt;exact ACk (by decide) h
def Hd {h':zl}{t':Nat}{c:HO}(I:Inv X zj σ H s)(d:mQ (H a))(hs:Heap.SameBut a s.heap h')(he:∃q,h'.get? a=some q)(new:CI X.prog X.w (upd H a c) h' a c):Inv X zj σ (upd H a c) {s with heap:=h',toks:=t'}:=
 I.write (x:=a) (e:=a) d (.inl rfl) (λb q hb z=>(hs.2 b hb).trans z) he new
def Qt {P:zp}{w:zm}{c:Hp}{h':zl}{kvs:zy (Cr×V)}{vs:zy (Cr×zx)}(z:kvs.length<=sizeLine)(hd:(a==sysModules)=false)(b:KV kvs vs)(d:h'.DictOf (A8 P w) a vs):CI P w c h' a (.dK kvs):=⟨z,hd,vs,b,d⟩
def Yj {n:Hp}{Q:Unit->zw->Prop}(hu:A.units+1<cLine)(I:Inv X zj σ H s)(g:Ut H a y v n)(p:RelV y u)(rv:RelV v r)(h:∀t,Inv X zj σ n t->Q () t):wpAny (model X.prog X.w) A (setItem (.ref a) u r) Q E s:=by
 rcases g with⟨kvs,k,e,i,l,j⟩|⟨kvs,k,b,e,i,x,l,j⟩
 .subst i j;obtain⟨z,hd,vs,d,m⟩:=XE I.hok e;have hz:vs.length<=sizeLine:=by rw[<-d.length];exact z
  have hl:(D3 kvs k v).length<=sizeLine:=by have:=EH kvs k v;omega
  refine wpAny_setItem_pairs (hsz:=hz) (Tl p) m λh' f hs=>h _ ?_;have he:∃q,h'.get? a=some q:=let ⟨q,_,_,hq,_⟩:=f;⟨q,hq⟩;exact Hd I (by rw[e];exact True.intro) hs he (Qt hl hd (d.put k rv) f)
 .subst i j;cases (show u=Value.ref b from p);obtain⟨z,hd,xs,d,m⟩:=mY I.hok e;have hz:xs.length<=sizeLine:=by rw[<-ABp d];exact z
  have hl:(D3 kvs k v).length<=sizeLine:=by have:=EH kvs k v;omega
  refine wpAny_setItem_heap (hsz:=hz) (tupleKind_room_in1 hu) (Vr I.hok x) m λh' f hs=>h _ ?_;obtain⟨q,es,ep,hq,h2,C,D,_,F⟩:=f;refine Hd I (by rw[e];exact True.intro) hs ⟨q,hq⟩ ⟨hl,hd,_,(d.put k x rv).keeps λc ys B=> ?_,q,es,ep,hq,h2,C,D,F⟩;rw[Aa (iO B e (λz=>nomatch z))];exact B
end
def i5 (i:zr):Prop:=∀a b,subscripted i false a b=operate [a,b] (getItem a b)
def gh {prog:zp}{w:zm}{A:zk}{E:zx->zw->Prop}{s:zw}{env:Env}{value slice:zr}{j:Pos}{T id:String}{Q:zx->zw->Prop}(hl:typeLookup (.type T) "__getitem__" =pure (some (.builtin id)))(hs:i5 slice)(h:wpAny (model prog w) A (eval value env) (λo c=>wpAny (model prog w) A (eval slice env) (λi a=>a.TypeIs o T/\wpAny (model prog w) A (getItem o i) Q E a) E c) E s):wpAny (model prog w) A (eval (.Subscript value slice j) env) Q E s:=by
 refine Subscript_ (AA5 h (λo c f=>AA5 f (λi a b=> ?_) λ_ _ x=>x) λ_ _ x=>x);obtain⟨k,b⟩:=b;unfold subscriptTail;refine AAA ?_;rw[getitemInPython_of_ne k.not_modules];refine AAA (ABb k hl ?_);have e:wpAny (model prog w) A (subscripted slice false o i) (λr d=>wpAny (model prog w) A (letTemporaryGo value o r >>= λ_=>pure r) Q E d) E a:=by rw[hs o i];exact wpAny_operating (AA5 b (λr d g=>AAA (wpAny_letTemporaryGo (AAC g))) λ_ _ x=>x)
 first
  | exact AAC (AAA e)
  | exact AAA (AAC (AAA e))
  | exact AAA e
def iV (d e f:TE):TS:=λD b H=>f b H λv H1=>d b H1 λx g=>e b g λy h=>∃a c,x= .ref a/\Ut h a y v c/\D.nx b c
section
variable {X:Cx}{o i e value:zr}{pos pos' tpos:Pos}{td ty tv:TE}
def gD (hu:X.A.units+1<cLine)(c:PE X o td)(hi:PE X i ty)(hv:PE X value tv)(hs:swapsWith value (some (.Subscript o i pos')) pos.line X.env=pure false):PS X (.Assign [.Subscript o i pos'] value pos) (iV td ty tv):=by intro zj s b H D I h;refine wpAny_Assign_Subscript (BM (hv zj s b H _ I h) λr d ⟨v,H1,f,rv,j⟩=>BM (c zj d b H1 _ f j) λu k ⟨x,l,m,n,p⟩=>BM (hi zj k b l _ m p) λE F ⟨y,G,t,w,a,z,ex,g,B⟩=> ?_) hs;subst ex;obtain rfl:u=Value.ref a:=n;exact Yj hu t g w rv λJ C=>⟨b,z,C,B⟩
end
def TJ {P:zp}{w:zm}{H:Hp}(h:zl)(hb:sysModules<h.objs.size):CI P w H (h.push {cls:= .type "dict",data:= .dict #[] }) h.objs.size (.dK []):=
 ⟨AAu _,ACa.mpr (AAi (AAL hb)), [], .nil,Heap.DictOf.new h⟩
def Wd:zy (TE×TE)->St->Hp->(zy (V×V)->Hp->Prop)->Prop
 | [],_,H,Q=>Q [] H
 | (tk,tv)::r,σ,H,Q=>tk σ H λx H1=>tv σ H1 λy a=>Wd r σ a λb c=>Q ((x,y)::b) c
abbrev VV:zy (V×V)->zy (zx×zx)->Prop:=Paired λp q=>RelV p.1 q.1/\RelV p.2 q.2
def pB (X:Cx)(a:Pos)(keys:zy (zt zr))(values:zy zr)(b:zy (TE×TE)):Prop:=
 ∀(zj:zy (zu×Obj)) (s:zw) (c:St) (H:Hp) (Q:zy (V×V)->Hp->Prop),Inv X zj c H s->Wd b c H Q->
  wpAny (model X.prog X.w) X.A (evalPairs (pairTrees keys values X.env a)) (λvs f=>∃d e,Inv X zj c e f/\VV d vs/\Q d e) X.xe s
def gB {X:Cx}{a:Pos}:pB X a [] [] [] :=λzj s b H Q I h=>pairTrees_nil_walk ⟨[],H,I, .nil,h⟩
def cD {X:Cx}{a:Pos}{k v:zr}{e:zy (zt zr)}{vs:zy zr}{f g:TE}{b:zy (TE×TE)}(hk:PE X k f)(hv:PE X v g)(i:pB X a e vs b):pB X a (some k::e) (v::vs) ((f,g)::b):=λzj s c H Q I h=>
 pairTrees_cons_walk (BM (hk zj s c H _ I h) λu j ⟨x,H1,l,m,n⟩=>BM (hv zj j c H1 _ l n) λD o ⟨y,p,r,t,w⟩=>
  BM (i zj o c p _ r w) λE F ⟨z,A,B,d,C⟩=>⟨(x,y)::z,A,B, .cons ⟨m,t⟩ d,C⟩)
def N4 (kvs more:zy (Cr×V)):zy (Cr×V):=more.foldl (λa b=>D3 a b.1 b.2) kvs
def KV.merge:∀{more:zy (Cr×V)} {a:zy (Cr×zx)} {kvs:zy (Cr×V)} {vs:zy (Cr×zx)},KV more a->KV kvs vs->KV (N4 kvs more) (merged vs a):=by
 intro more a kvs vs r;unfold KV at r;induction r generalizing kvs vs with
 | nil=>intro q;exact q
 | @cons p q c qs h t ih=>
   intro b;have e:KV (D3 kvs p.1 p.2) (stored vs q.1 q.2):=by have:=b.put p.1 h.2;rw[<-h.1];exact this
   exact ih e
theorem IN:∀(more kvs:zy (Cr×V)),(N4 kvs more).length<=kvs.length+more.length
 | [],kvs=>by show kvs.length<=kvs.length+0;omega
 | p::r,kvs=>by have h1:=IN r (D3 kvs p.1 p.2);have h2:=EH kvs p.1 p.2;show (N4 (D3 kvs p.1 p.2) r).length<=_;rw[AAb];omega
theorem Ng {P:zp}{w:zm}:∀{kvs:zy (Cr×V)} {e:zy (zx×zx)},VV (kvs.map λf=>(kV f.1,f.2)) e->∃d,Carries (A8 P w) e d/\KV kvs d
 | [],_,r=>by rw[ABS] at r;cases r;exact⟨[],True.intro, .nil⟩
 | p::kvs,_,r=>by
   rw[AAK] at r;cases r with
   | @cons a b as bs h t=> obtain⟨d,c,q⟩:=Ng (P:=P) (w:=w) t;obtain⟨g,b2⟩:=b;exact⟨(p.1,b2)::d,⟨Tl h.1,rfl,c⟩, .cons ⟨rfl,h.2⟩ q⟩
structure M2 (X:Cx) (o:Expr) (m:Str) (apos:Pos) (e f:Expr) (cpos:Pos):Prop where
 base:attributeBase o m X.env (eval o X.env)=eval o X.env
 few:((backTo cpos (starEach [e,f] X.env)).all (λx=> !x.1)&&(backToKw cpos (keywordEach [] X.env)).all (λx=>x.1.isSome)
  && decide (([e,f] :List Expr).length+([] :List Keyword).length+(if ([] :List Keyword).isEmpty then 0 else 1)<30))=true
 line:(apos.endLine==cpos.line)=true
 trees:backTo cpos (starEach [e,f] X.env)= [(false,eval e X.env),(false,eval f X.env)]
def tz (H:Hp)(a:zu):Prop:=(∃kvs,Rd H a (.dK kvs))\/∃kvs,Rd H a (.dT kvs)
def az {X:Cx}{zj:zy (zu×Obj)}{g:St}{H:Hp}{s:zw}{a:zu}(I:Inv X zj g H s)(d:tz H a):s.TypeIs (.ref a) "dict" /\(∀b,Value.ref a= .ref b->∃c,s.heap.get? b=some c/\c.dict=none)/\(a==sysModules)=false:=by
 rcases d with⟨kvs,e⟩|⟨kvs,e⟩
 .obtain ⟨_,hd,vs,_,f⟩:=aH I.hok e;refine⟨f.typeIs,λb q=> ?_,hd⟩;cases q;obtain⟨c,_,_,h1,h2,_⟩:=f;exact⟨c,h1,h2.2.1⟩
 .obtain ⟨_,hd,xs,_,f⟩:=aK I.hok e;refine⟨f.typeIs,λb q=> ?_,hd⟩;cases q;obtain⟨c,_,_,h1,h2,_⟩:=f;exact⟨c,h1,h2.2.1⟩
section
variable {X:Cx}{zj:zy (zu×Obj)}{σ:St}{H:Hp}{s:zw}{a:zu}{y d:V}{u r:zx}{o:zt V}{A:zk}{E:zx->zw->Prop}
def jQ {Q:zx->zw->Prop}(hu:A.units+1<cLine)(I:Inv X zj σ H s)(g:Us H a y o)(j:RelV y u)(m:RelV d r)(h:∀n p,Inv X zj σ H p->RelV (o.getD d) n->Q n p):wpAny (model X.prog X.w) A (call (.builtin "dict.get") [.ref a,u,r]) Q E s:=by
 rcases g with⟨kvs,k,e,i,l⟩|⟨kvs,k,b,e,i,t,l⟩
 .subst i;obtain⟨z,hd,vs,c,f⟩:=aH I.hok e;refine AC1 ACO f.typeIs ADX (ADY _ _ _) (meets_dict_get_default (A8 X.prog X.w) a (Tl j) hd r) ⟨_,f.mapOf,h _ _ (I.tok _) ?_⟩;rw[l];exact(c.val k).getD m
 .subst i;cases (show u=Value.ref b from j);obtain⟨z,hd,xs,c,f⟩:=aK I.hok e;refine AC1 ACO f.typeIs ADX (ADY _ _ _) (meetsH_dict_get_default (tupleKind (A8 X.prog X.w)) a b hd r) ⟨tupleKind_room_in1 hu,k,xs,Vr I.hok t,f,h _ _ (I.tok _) ?_⟩;rw[l];exact(c.val k).getD m
end
def dI (d e f:TE):TE:=λb H Q=>d b H λx H1=>∃a,x= .ref a/\tz H1 a/\e b H1 λy g=>f b g λz c=>∃o,Us c a y o/\Q (o.getD z) c
section
variable {X:Cx}{o e f:zr}{apos cpos:Pos}{td ty tx:TE}
def bf (hu:X.A.units+1<cLine)(j:PE X o td)(he:PE X e ty)(k:PE X f tx)(m:M2 X o "get" apos e f cpos):PE X (.Call (.Attribute o "get" apos) [e,f] [] cpos) (dI td ty tx):=by
 intro zj s b H Q I h;refine ADZ m.base m.few m.line ADa ACO ADt (BM (j zj s b H _ I h) λu l ⟨x,H1,i,n,a,ex,d,p⟩=> ?_);subst ex;obtain rfl:u=Value.ref a:=n;obtain⟨r,t,_⟩:=az i d;refine⟨r,t, ?_⟩;rw[m.trees];refine ACe rfl (ADP (AB8 (BM (he zj l b H1 _ i p) λL v ⟨y,w,B,C,D⟩=>
  AB8 (BM (k zj v b w _ B D) λM N ⟨z,E,F,G,O,g,J⟩=>ADI ?_))))
 exact jQ hu F g C G λP R K c=>⟨_,E,K,c,J⟩
end
abbrev KN (K:AAB)(H:Hp):zy (FK×V)->zy (FK×zu×zx)->Prop:=Paired λp q=>p.1=q.1/\Fx K H q.2.1 p.1/\RelV p.2 q.2.2
def KN.val {K:AAB}{H:Hp}{kvs:zy (FK×V)}{xs:zy (FK×zu×zx)}(r:KN K H kvs xs)(k:FK):MF (EU kvs k) ((atKey xs k).map (·.2)):=by
 induction r with
 | nil=>exact True.intro
 | @cons p q c qs h t ih=>
   obtain⟨h1,_,h2⟩:=h;by_cases e:p.1=k
   .have a:q.1=k:=h1.symm.trans e;have b:atKey (q::qs) k=some q.2:=by simp[atKey,ABZ,a]
    rw[HW e,b];exact h2
   .have a:¬q.1=k:=λz=>e (h1.trans z);have b:atKey (q::qs) k=atKey qs k:=by simp[atKey,ABZ,a]
    rw[HV e,b];exact ih
def KN.repl {K:AAB}{H:Hp}{kvs:zy (FK×V)}{xs:zy (FK×zu×zx)}(r:KN K H kvs xs)(k:FK){y:V}{u:zx}(b:RelV y u):KN K H (kvs.map λa=>if a.1=k then (a.1,y) else a) (xs.map (putAt k u)):=by
 induction r with
 | nil=>exact .nil
 | @cons p q d qs h t ih=>
   rw[AAK,AAK];refine .cons ?_ ih;obtain⟨h1,h2,c⟩:=h;unfold putAt;by_cases e:p.1=k
   .rw [AAE e,AAE (h1.symm.trans e)];exact⟨h1,h2,b⟩
   .rw [AAD e,AAD (λz=>e (h1.trans z))];exact⟨h1,h2,c⟩
def KN.put {K:AAB}{H:Hp}{kvs:zy (FK×V)}{xs:zy (FK×zu×zx)}(r:KN K H kvs xs)(k:FK){b:zu}{y:V}{u:zx}(hb:Fx K H b k)(a:RelV y u):KN K H (D3 kvs k y) (storedH xs k b u):=by
 have e:(kvs.any λc=>decide (c.1=k))=(atKey xs k).isSome:=by rw[Oi,(r.val k).isSome_eq,ACN]
 unfold D3 storedH;rw[e];by_cases q:(atKey xs k).isSome=true
 .rw [AAE q,AAE q];exact r.repl k a
 .rw [AAD q,AAD q];exact Paired.snoc r ⟨rfl,hb,a⟩
def KN.keeps {K:AAB}{H a:Hp}{kvs:zy (FK×V)}{xs:zy (FK×zu×zx)}(r:KN K H kvs xs)(c:∀b ys,H b=some (.tup ys)->a b=some (.tup ys)):KN K a kvs xs:=
 Paired.mapP r λ_ _ z=>⟨z.1,z.2.1.stay c,z.2.2⟩
section
variable {P:zp}{w:zm}{H:Hp}{h:zl}{a:zu}{K:AAB}
def J4 {k:FK}(ok:IZ P w H h)(d:K.In h)(e:Fx K H a k):(fkKind P w).is h k a:=by
 obtain⟨b,h1,h2⟩:=e;obtain⟨_,j,r,o,l,m,n,p⟩:=(show CI P w H h a (.tup [.ref b, .int k.2]) from ok a _ h1);cases r with
 | cons s r=>
 cases r with
 | cons f r=>
 cases r;cases s;obtain⟨u,rfl⟩:=f;have two:∀{us:zy zx},Ap [.int k.1.1, .int k.1.2] us->ItemsAre (intKind P w) [k.1.1,k.1.2] us:=λhv=>by
  cases hv with
  | cons t hv=>
  cases hv with
  | cons v hv=> cases hv;obtain⟨E,rfl⟩:=t;obtain⟨F,rfl⟩:=v;exact .cons (by simp[intKind,Value.isInt]) (.cons (by simp[intKind,Value.isInt]) .nil)
 refine⟨o,_,n,b,u,l,m,p,by simp, ?_⟩;rcases h2 with h2|⟨i,c,g,x,y,z,A⟩
 .obtain ⟨_,c,f,B,f1,C,g,D⟩:=(show CI P w H h b (.tup [.int k.1.1, .int k.1.2]) from ok b _ h2);exact⟨B,c.toArray,g,f1,C,D,by simpa using two f⟩
 .exact ⟨i,c,g,d b i x,y,z,two A⟩
def P5 {kvs:zy (FK×V)}(ok:IZ P w H h)(b:K.In h)(e:H a=some (.dN K kvs)):kvs.length<=sizeLine/\(a==sysModules)=false/\∃xs,KN K H kvs xs/\h.DictOfH (fkKind P w) a xs:=by
 obtain⟨z,y,xs,r,o,es,ep,h1,h2,c,d,f⟩:=(show CI P w H h a (.dN K kvs) from ok a _ e);refine⟨z,y,xs,r,o,es,ep,h1,h2,c,d,λx hx=> ?_,f⟩;have all:∀{l:zy (FK×V)} {m:zy (FK×zu×zx)},KN K H l m->∀x∈m,(fkKind P w).is h x.1 x.2.1:=by
  intro l m q;induction q with
  | nil=>intro x hx;exact nomatch hx
  | @cons p q g qs hq t ih=>
    intro x hx;rcases AAF.mp hx with e|hx
    .subst e;exact J4 ok b (by rw[<-hq.1];exact hq.2.1)
    .exact ih x hx
 exact all r x hx
end
section
variable {X:Cx}{zj:zy (zu×Obj)}{σ:St}{H:Hp}{s:zw}{a b:zu}{v d:V}{r:zx}{kvs:zy (FK×V)}{k:FK}{A:zk}{E:zx->zw->Prop}
def Y8 {Q:zx->zw->Prop}(hu:A.units+2<cLine)(I:Inv X zj σ H s)(e:H a=some (.dN X.K kvs))(hb:Fx X.K H b k)(l:EU kvs k=some v)(h:∀c i,Inv X zj σ H i->RelV v c->Q c i):wpAny (model X.prog X.w) A (getItem (.ref a) (.ref b)) Q E s:=by obtain⟨z,hd,xs,f,j⟩:=P5 I.hok I.kIn e;obtain⟨c,hw,g⟩:=MF.some_of (v:=v) (o:=(atKey xs k).map (·.2)) (by rw[<-l];exact f.val k);obtain⟨p,hp,m⟩:=ABN.mp hw;refine wpAny_getItem_heap (DP hu) (J4 I.hok I.kIn hb) j hp ?_;rw[m];exact h c _ (I.tok _) g
def rR {Q:zx->zw->Prop}(hu:A.units+2<cLine)(I:Inv X zj σ H s)(e:H a=some (.dN X.K kvs))(hb:Fx X.K H b k)(h:∀f,Inv X zj σ H f->Q (.bool (EU kvs k).isSome) f):wpAny (model X.prog X.w) A (compareOp .In (.ref b) (.ref a)) Q E s:=by obtain⟨z,hd,xs,c,g⟩:=P5 I.hok I.kIn e;refine wpAny_in_heap (DP hu) (J4 I.hok I.kIn hb) hd g ?_;have q:=(c.val k).isSome_eq;rw[ACN] at q;rw[<-q];exact h _ (I.tok _)
def Y9 {Q:Unit->zw->Prop}(hu:A.units+2<cLine)(I:Inv X zj σ H s)(e:H a=some (.dN X.K kvs))(hb:Fx X.K H b k)(hl:kvs.length<sizeLine)(rv:RelV v r)(h:∀i,Inv X zj σ (upd H a (.dN X.K (D3 kvs k v))) i->Q () i):wpAny (model X.prog X.w) A (setItem (.ref a) (.ref b) r) Q E s:=by
 obtain⟨z,hd,xs,f,l⟩:=P5 I.hok I.kIn e;have hz:xs.length<=sizeLine:=by rw[<-ABp f];exact z
 have hl:(D3 kvs k v).length<=sizeLine:=by have:=EH kvs k v;omega
 refine wpAny_setItem_heap (hsz:=hz) (DP hu) (J4 I.hok I.kIn hb) l λh' g hs=>h _ ?_;obtain⟨q,es,ep,hq,h2,m,n,_,o⟩:=g;refine Hd I (by rw[e];exact True.intro) hs ⟨q,hq⟩ ⟨hl,hd,_,(f.put k hb rv).keeps λc ys j=> ?_,q,es,ep,hq,h2,m,n,o⟩;rw[Aa (iO j e (λz=>nomatch z))];exact j
def jy {Q:zx->zw->Prop}(hu:A.units+2<cLine)(I:Inv X zj σ H s)(e:H a=some (.dN X.K kvs))(hb:Fx X.K H b k)(j:RelV d r)(h:∀f g,Inv X zj σ H g->RelV ((EU kvs k).getD d) f->Q f g):wpAny (model X.prog X.w) A (call (.builtin "dict.get") [.ref a, .ref b,r]) Q E s:=by obtain⟨z,hd,xs,c,i⟩:=P5 I.hok I.kIn e;refine AC1 ACO i.typeIs ADX (ADY _ _ _) (meetsH_dict_get_default (fkKind X.prog X.w) a b hd r) ⟨DP hu,k,xs,J4 I.hok I.kIn hb,i,h _ _ (I.tok _) ?_⟩;exact(c.val k).getD j
end
def ia (K:AAB):TE:=λ_ H Q=>∀p,H p=none->Q (.ref p) (upd H p (.dN K []))
def oj (K:AAB)(e f:TE):TE:=λd H Q=>e d H λx H1=>f d H1 λy c=>∃a b kvs k v,x= .ref a/\y= .ref b/\c a=some (.dN K kvs)/\Fx K c b k/\EU kvs k=some v/\Q v c
def om (K:AAB)(e f:TE):TE:=λd H Q=>e d H λy H1=>f d H1 λx c=>∃a b kvs k,x= .ref a/\y= .ref b/\c a=some (.dN K kvs)/\Fx K c b k/\Q (.bl (EU kvs k).isSome) c
def cW (K:AAB)(e f g:TE):TS:=λD c H=>g c H λv H1=>e c H1 λx h=>f c h λy d=>∃a b kvs k,x= .ref a/\y= .ref b/\d a=some (.dN K kvs)/\Fx K d b k/\kvs.length<sizeLine/\D.nx c (upd d a (.dN K (D3 kvs k v)))
def Wc (K:AAB)(e f g:TE):TE:=λc H Q=>e c H λx H1=>∃a kvs,x= .ref a/\H1 a=some (.dN K kvs)/\f c H1 λy h=>g c h λz d=>∃b kvs k,y= .ref b/\d a=some (.dN K kvs)/\Fx K d b k/\Q ((EU kvs k).getD z) d
section
variable {X:Cx}{o i e f value:zr}{pos pos' apos cpos:Pos}{td ty tv tx:TE}
def aI {P:zp}{w:zm}{H:Hp}{K:AAB}(h:zl)(hb:sysModules<h.objs.size):CI P w H (h.push {cls:= .type "dict",data:= .dict #[] }) h.objs.size (.dN K []):=
 ⟨AAu _,ACa.mpr (AAi (AAL hb)), [], .nil,_, #[],0,AAS _ rfl,⟨rfl,rfl,rfl⟩,rfl,rfl,List.nodup_nil⟩
def ft:PE X (.Dict [] [] pos) (ia X.K):=λzj s b H Q I h=>
 wpAny_Dict_empty ⟨.ref s.heap.objs.size,_,I.laid (a:=s.heap.objs.size) (o:= .dN X.K []) (t':=s.toks) (λ_ _ q=>AAH _ q) (AAJ _) (aI s.heap I.big),rfl,h _ (I.hok.fresh (AAJ _))⟩
def hV {zj:zy (zu×Obj)}{g:St}{H:Hp}{s:zw}{a:zu}{kvs:zy (FK×V)}(I:Inv X zj g H s)(e:H a=some (.dN X.K kvs)):s.TypeIs (.ref a) "dict" /\(∀b,Value.ref a= .ref b->∃c,s.heap.get? b=some c/\c.dict=none):=by obtain⟨_,hd,xs,_,d⟩:=P5 I.hok I.kIn e;refine⟨d.typeIs,λb q=> ?_⟩;cases q;obtain⟨c,_,_,h1,h2,_⟩:=d;exact⟨c,h1,h2.2.1⟩
def fq (hu:X.A.units+2<cLine)(j:PE X o td)(hi:PE X i ty)(hs:i5 i):PE X (.Subscript o i pos) (oj X.K td ty):=by intro zj s d H Q I h;refine gh PySem.F.slot_dict_getitem.lookup hs (BM (j zj s d H _ I h) λu m ⟨x,H1,n,p,r⟩=>BM (hi zj m d H1 _ n r) λt E ⟨y,w,g,z,a,b,kvs,k,v,ex,B,e,hb,l,C⟩=> ?_);subst ex B;obtain rfl:u=Value.ref a:=p;obtain rfl:t=Value.ref b:=z;exact⟨(hV g e).1,Y8 hu g e hb l λG J D c=>⟨v,w,D,c,C⟩⟩
def kE (hu:X.A.units+2<cLine)(hi:PE X i ty)(d:PE X o td):PC X .In i o (om X.K ty td):=by intro zj s c H Q I h;refine BM (hi zj s c H _ I h) λg j ⟨y,H1,l,m,n⟩=>BM (d zj j c H1 _ l n) λu B ⟨x,p,r,t,a,b,kvs,k,ex,v,e,hb,w⟩=> ?_;subst ex v;obtain rfl:u=Value.ref a:=t;obtain rfl:g=Value.ref b:=m;exact rR hu r e hb λC z=>⟨.bl _,p,z,rfl,w⟩
def Xp (hu:X.A.units+2<cLine)(d:PE X o td)(hi:PE X i ty)(hv:PE X value tv)(hs:swapsWith value (some (.Subscript o i pos')) pos.line X.env=pure false):PS X (.Assign [.Subscript o i pos'] value pos) (cW X.K td ty tv):=by intro zj s c H D I h;refine wpAny_Assign_Subscript (BM (hv zj s c H _ I h) λr g ⟨v,H1,j,rv,l⟩=>BM (d zj g c H1 _ j l) λu m ⟨x,n,p,t,w⟩=>BM (hi zj m c n _ p w) λz J ⟨y,L,B,C,a,b,kvs,k,ex,E,e,hb,hl,F⟩=> ?_) hs;subst ex E;obtain rfl:u=Value.ref a:=t;obtain rfl:z=Value.ref b:=C;exact Y9 hu B e hb hl rv λM G=>⟨c,_,G,F⟩
def UQ (hu:X.A.units+2<cLine)(l:PE X o td)(he:PE X e ty)(n:PE X f tx)(m:M2 X o "get" apos e f cpos):PE X (.Call (.Attribute o "get" apos) [e,f] [] cpos) (Wc X.K td ty tx):=by
 intro zj s c H Q I h;refine ADZ m.base m.few m.line ADa ACO ADt (BM (l zj s c H _ I h) λu p ⟨x,H1,g,r,a,j,ex,t,v⟩=> ?_);subst ex;obtain rfl:u=Value.ref a:=r;obtain⟨w,B⟩:=hV g t;refine⟨w,B, ?_⟩;rw[m.trees];refine ACe rfl (ADP (AB8 (BM (he zj p c H1 _ g v) λC D ⟨y,E,F,G,J⟩=>
  AB8 (BM (n zj D c E _ F J) λS T ⟨z,L,M,N,b,kvs,k,O,e,hb,P⟩=>ADI ?_))))
 subst O;obtain rfl:C=Value.ref b:=G;exact jy hu M e hb N λU W R d=>⟨_,L,R,d,P⟩
end
end L2
namespace PySem
open Sem (wp)
def Kx (h:zl)(d:zu)(es:Array DictEntry)(ep:Nat):Prop:=∃o,h.get? d=some o/\o.ExactDict/\o.data= .dict es ep
section
variable {prog:zp}{w:zm}{A:zk}{E:zx->zw->Prop}{s:zw}{d it:zu}{es:Array DictEntry}{ep i:Nat}
def Kx.typeIs (x:Kx s.heap d es ep):s.TypeIs (.ref d) "dict" :=let ⟨o,a,hc,_⟩:=x;⟨o,a,hc.1⟩
def Kx.at {h h':zl}(x:Kx h d es ep)(e:∀o,h.get? d=some o->h'.get? d=some o):Kx h' d es ep:=let ⟨o,a,r⟩:=x;⟨o,e _ a,r⟩
def cP {Q:zx->zw->Prop}(hd:(d==sysModules)=false)(b:Kx s.heap d es ep)(hQ:Q (.ref s.heap.objs.size) {s with heap:=s.heap.push {cls:= .type "dict_keyiterator",data:= .fields #[.ref d, .int 0 0, .int es.size 0, .int ep 0] }}):wpAny (model prog w) A (pyIter (.ref d)) Q E s:=by have a:=b.typeIs;obtain⟨o,c,hc,e⟩:=b;refine wpAny_pyIter_slot a F.slot_dict_iter (AA4 F.slot_dict_iter a F.entry_dict_iter ?_ (F.args_dict_iter_1 _));unfold Builtin.«dict.__iter__»;refine AAA ?_;unfold Builtin.Dict.dictSlotNone;refine AAA (wpAny_notOrdered_dict a (AAC ?_));show wpAny _ _ (Builtin.Dict.showsAll d >>= _) _ _ s;unfold Builtin.Dict.showsAll;rw[AAD (by rw[hd];exact AAQ)];refine AAA (AAC (AAA (ADb c e (AAA (ADc c e ?_)))));exact AAA (AAz (AAC ⟨_,rfl,"dict_keyiterator",_,⟨_,AAS _ rfl,rfl⟩,ACP.lookup,by simpa[rawInt] using hQ⟩))
def cQ {Q:zt zx->zw->Prop}(a:s.heap.IsKeyIter it d i es.size ep)(h:Kx s.heap d es ep)(j:i<es.size)(hQ:∀h',h'.IsKeyIter it d (i+1) es.size ep->Heap.SameBut it s.heap h'->Q (some es[i].key) {s with heap:=h'}):wpAny (model prog w) A (pyNext (.ref it)) Q E s:=by
 have b:=a.typeIs;obtain⟨o,c,hc,hd⟩:=a;obtain⟨k,e,l,f⟩:=h;unfold pyNext;refine AAA (ACr (ABR (name:=Str.ofString "__next__") b ACP (AA4 ACP b ADu ?_ (ADv _))));refine AAA (AAC (AAA (AAA ?_)));refine AAA (AC2 b (AAC (AAA (wpAny_fieldsOf c hd ?_))));simp only[show Builtin.Dict_items.ownsTuple "dict_keyiterator" =false by decide,AAq,AAc];show wpAny _ _ (if (Value.ref d==Value.none)=true then _ else _) _ _ s;rw[AAD (show ¬((Value.ref d==Value.none)=true) from AAQ)];refine AAA (AAC (AAA (ADb e f ?_)));rw[AAD (by simp)];refine AAA (AAC (AAA (ADc e f ?_)));rw[AAD (by simp)];refine AAC ?_;simp only[show ¬((i:Int)<0) from by omega,AAc,ABt,ADw j];refine AAA ?_;refine AAA (AC2 b (AAC (AAA (wpAny_isOneOf_keyiter b ?_))));show wpAny _ _ (setField (.ref it) 1 (rawInt ((i:Int)+1)) >>= _) _ _ s;refine AAA (ACm c hd (by simp) ?_);have g:(s.heap.update it (Obj.mapFields (·.setIfInBounds 1 (rawInt ((i:Int)+1))))).IsKeyIter it d (i+1) es.size ep:=
  ⟨_,ABv _ c (Obj.isFreed_of_fields (ACo hd _)),(Obj.cls_mapFields ..).trans hc,by rw[ACo hd];simp[rawInt]⟩
 refine AAA (AAl (AAA (wpAny_isOneOf_keyiter (s:={s with heap:=s.heap.update it (Obj.mapFields (·.setIfInBounds 1 (rawInt ((i:Int)+1))))}) g.typeIs ?_)));show wpAny _ _ (pure es[i].key) _ _ _;exact AAC (AAC ⟨_,rfl,AAC (hQ _ g (ACn ..))⟩)
def gI {Q:zt zx->zw->Prop}(j:A.handled=none)(c:s.heap.IsKeyIter it d es.size es.size ep)(k:Kx s.heap d es ep)(hQ:∀h',Heap.ExtBut it s.heap h'->Q none {s with heap:=h'}):wpAny (model prog w) A (pyNext (.ref it)) Q E s:=by have e:=c.typeIs;obtain⟨o,f,hc,hd⟩:=c;obtain⟨l,g,n,h⟩:=k;unfold pyNext;refine AAA (ACr (ABR (name:=Str.ofString "__next__") e ACP (AA4 ACP e ADu ?_ (ADv _))));refine AAA (AAC (AAA (AAA ?_)));refine AAA (AC2 e (AAC (AAA (wpAny_fieldsOf f hd ?_))));simp only[show Builtin.Dict_items.ownsTuple "dict_keyiterator" =false by decide,AAq,AAc];show wpAny _ _ (if (Value.ref d==Value.none)=true then _ else _) _ _ s;rw[AAD (show ¬((Value.ref d==Value.none)=true) from AAQ)];refine AAA (AAC (AAA (ADb g h ?_)));rw[AAD (by simp)];refine AAA (AAC (AAA (ADc g h ?_)));rw[AAD (by simp)];refine AAC ?_;simp only[show ¬((es.size:Int)<0) from by omega,AAc,ABt,Array.getElem?_eq_none (AAJ es.size)];refine AAA ?_;refine AAA (AC2 e (AAC ?_));show wpAny _ _ (setField (.ref it) 0 .none >>= _) _ _ s;refine AAA (ACm f hd (by simp) ?_);show wpAny _ _ (newExc (.type "StopIteration") [] >>= _) _ _ _;refine AAA ?_;simp only[newExc,newTuple];refine AAA (AAz ?_ (by size_fits));refine AAA (m:=firstArgMember _ _) (wpAny_of_eq (a:=Value.none) (by first | rfl|(simp only[firstArgMember];rfl)) (AAz ?_ (by size_fits)));simp only[raiseNew];refine AAA (wpAny_handled ?_);rw[show A.in1.handled=none from j];refine AAA (AAC (wpAny_throw ?_));refine AAA (ABo (T:="StopIteration") (b:=true) ⟨_,AAS _ rfl,rfl⟩ isSubtype_stop ?_);exact AAC (hQ _ (((ACn ..).extBut.push _).push _))
def Za (c:A.handled=none)(f:d≠it):Walks prog w A it [it,d] [it] es.size (λi v=>∃e,es[i]? =some e/\v=e.key) (λi h=>h.IsKeyIter it d i es.size ep/\Kx h d es ep) where
 sub:=λb hb=>by simp at hb;simp[hb]
 frame:=λ_ _ _ st hk=>⟨st.1.at λo e=>hk it (by simp) o e,st.2.at λo e=>hk d (by simp) o e⟩
 item:=λi s Q E hi st hQ=>cQ st.1 st.2 hi λh' g a=>
  hQ _ h' s.toks ⟨es[i],by simp[hi],rfl⟩ ⟨g,st.2.at λo e=>a.extBut d o f e⟩ λb o hb e=>a.extBut b o (λh=>hb (by simp[h])) e
 done:=λs Q E st hQ=>gI c st.1 st.2 λh' j=>hQ h' s.toks λb o hb e=>j b o (λh=>hb (by simp[h])) e
 self:=λ_ _ _ _ st hQ=>wpAny_pyIter_keyiter st.1 hQ
end
def cO {prog:zp}{w:zm}{A:zk}{E:zx->zw->Prop}{s:zw}{d:zu}{es:Array DictEntry}{ep:Nat}{Q:zq->zw->Prop}(b:Kx s.heap d es ep)(h:Q false s):wpAny (model prog w) A (Builtin.List.listLengthHint (.ref d)) Q E s:=by
 have a:=b.typeIs;unfold Builtin.List.listLengthHint;refine AAA (ABb a F.slot_dict_len.lookup ?_);have hs:splitId "dict.__len__" =some ("dict","__len__"):=by decide +kernel
 simp only[hs];refine AAA (ABo a (by rw[isSubtype_type];kernel_rfl:isSubtype (.type "dict") (.type "dict")=pure true) ?_);simp only[ABF,AAq,AAc];rw[AAE (by decide +kernel)];refine AAA (ACC a ?_);exact AAC h
section
variable {prog:zp}{w:zm}{A:zk}{s:zw}{R:Result->zw->Prop}{d:zu}{es:Array DictEntry}{ep:Nat}
def WC (G:A.handled=none)(S:zu)(res:zx)(h:Nat)(hd:(d==sysModules)=false)(n:Kx s.heap d es ep)(H:es.size<=sizeLine)(p:d≠S)(x:s.heap.get? S=some {cls:= .type "list",data:= .seq #[] h})(I:∀h' J a l,(∀b o,b≠S->s.heap.get? b=some o->h'.get? b=some o)->h'.get? S=some {cls:= .type "list",dict:=none,data:= .seq a l,slots:= #[] }->ItemsOf (λi v=>∃e,es[i]? =some e/\v=e.key) a es.size->R (.ok (.ret res)) {s with heap:=h',toks:=J}):wpAny (model prog w) A.in1 (Builtin.List.listExtendWith (.ref S) (.ref d) res) (λr c=>match r with | .done f=>R (.ok f) c | .again l=>l.quiet=true/\codeAny (model prog w) A l R c) (λe c=>R (.error e) c) s:=by
 have K:=n.typeIs;unfold Builtin.List.listExtendWith;refine AAA (ACC K ?_);have h1:Builtin.List.listSameRef (.ref S) (.ref d)=false:=by simp[Builtin.List.listSameRef,AAi p]
 have h2:(Value.type "dict" == Value.type "list")=false:=by decide
 have L:(Value.type "dict" == Value.type "tuple")=false:=by decide
 simp only[h1,h2,L,Bool.or_false,AAq,AAc];refine AAA (cP hd n ?_);have M:d<s.heap.objs.size:=let ⟨o,N,_⟩:=n;AAG N;have O:S<s.heap.objs.size:=AAG x;have t:Kx (s.heap.push {cls:= .type "dict_keyiterator",data:= .fields #[.ref d, .int 0 0, .int es.size 0, .int ep 0] }) d es ep:=n.at λo e=>AAH _ e;refine AAA (AAl (cO (s:={s with heap:=s.heap.push {cls:= .type "dict_keyiterator",data:= .fields #[.ref d, .int 0 0, .int es.size 0, .int ep 0] }}) t ?_));generalize u:({cls:= .type "dict_keyiterator",data:= .fields #[.ref d, .int 0 0, .int es.size 0, .int ep 0] }:Obj)=io at t ⊢;have y:(s.heap.push io).get? S=some {cls:= .type "list",data:= .seq #[] h}:=AAH _ x;have P:(s.heap.push io).get? s.heap.objs.size=some io:=AAS _ (by rw[<-u];rfl);have z:S≠s.heap.objs.size:=AAL O;rw[AAE (by decide +kernel)];refine AAA (ABD (AAA ?_));show wpAny _ A.in1 (updateSeq S (·.push .none) >>= λ_=>updateSeq S (·.pop)) _ _ _;refine AAA (ADd (s:={s with heap:=s.heap.push io}) y rfl ?_);have g:=ABv (Obj.mapSeq (·.push Value.none)) y rfl;refine ADd (hz:=by seq_fits) g rfl ?_;have j:=ABv (Obj.mapSeq (·.pop)) g rfl;have k:∀b o,b≠S->(s.heap.push io).get? b=some o->(((s.heap.push io).update S (Obj.mapSeq (·.push Value.none))).update S (Obj.mapSeq (·.pop))).get? b=some o:=
  λb o hb e=>(ACD _ _ (AAi hb)).trans ((ACD _ _ (AAi hb)).trans e)
 have W:=(Za (prog:=prog) (w:=w) (A:=A.in1) (d:=d) (it:=s.heap.objs.size) (es:=es) (ep:=ep) G (AAL M)).toS;refine AAC ⟨plainId_quiet F.plain_extend_loop _,codeAny_extend_loopS W H S ?_ res es.size 0 _ _ _ rfl (AAu _) ⟨⟨io,k _ _ (AAi z) P,by rw[<-u],by rw[<-u];rfl⟩,t.at λo e=>k _ _ p e⟩ j (ItemsOf.nil _) λc a l Q T U=> ?_⟩
 .intro m;simp only[AAF,AAg,AAe] at m;rcases m with e|e
  .exact z e
  .exact p e.symm
 .obtain ⟨X,B,C,D,Y⟩:=Q;have e:c={s with heap:=c.heap,toks:=c.toks}:=by obtain⟨Z,a2,a3,a4,a5⟩:=c;simp only at B C D;subst B;subst C;subst D;rfl
  rw[e];refine I c.heap c.toks a l (λb o hb E=>X b o ?_ (k b o hb (AAH _ E))) T U;intro m;simp only[AAF,AAg,AAe] at m;rcases m with e|e
  .exact hb e
  .exact AAL (AAG E) e
end
section
variable {prog:zp}{w:zm}{A:zk}{E:zx->zw->Prop}{s:zw}{d:zu}{es:Array DictEntry}{ep:Nat}
def O8 {Q:zx->zw->Prop}(r:A.handled=none)(hd:(d==sysModules)=false)(n:Kx s.heap d es ep)(t:es.size<=sizeLine)(hQ:∀h' k l,(∀b o,s.heap.get? b=some o->h'.get? b=some o)->h'.get? s.heap.objs.size=some {cls:= .type "list",dict:=none,data:= .seq (es.map (·.key)) l,slots:= #[] }->Q (.ref s.heap.objs.size) {s with heap:=h',toks:=k}):wpAny (model prog w) A (call (.type "list") [.ref d]) Q E s:=by
 have u:d<s.heap.objs.size:=let ⟨o,v,_⟩:=n;AAG v;refine callType_codes (Q₁:=λobj c=>obj= .ref s.heap.objs.size/\c={s with heap:=s.heap.push {cls:= .type "list",data:= .seq #[] }}) F.called_list (F.typeCall_list_1 _) F.entry_list_init (code_list_new _ ⟨rfl,rfl⟩) λobj c g=> ?_;obtain⟨rfl,rfl⟩:=g;have j:(s.heap.push {cls:= .type "list",data:= .seq #[] }).get? s.heap.objs.size=some {cls:= .type "list",data:= .seq #[] }:=AAS _ rfl;refine⟨⟨_,j,rfl⟩,F.args_list_init_2 _ _, ?_⟩;show wpAny _ A.in1.in1 (do let m <-Builtin.List.listItems (.ref s.heap.objs.size);Builtin.List.listUpdate (.ref s.heap.objs.size) (λ_=> #[]);letGo m.toList.reverse;Builtin.List.listExtendWith (.ref s.heap.objs.size) (.ref d) .none) _ _ _;refine AAA ?_;unfold Builtin.List.listItems;refine AAA (AA8 j rfl (AAC ?_));refine AAA (ADd j rfl ?_);have f:=ABv (Obj.mapSeq (λ_=>(#[] :Array zx))) j rfl;refine AAA (ACq ?_);have h:∀b o,s.heap.get? b=some o->((s.heap.push {cls:= .type "list",data:= .seq #[] }).update s.heap.objs.size (Obj.mapSeq (λ_=>(#[] :Array zx)))).get? b=some o:=λb o e=>by have hb:b≠s.heap.objs.size:=λz=>ABH _ (z ▸ AAG e);exact(ACD _ _ (AAi hb)).trans (AAH _ e)
 refine WC (s:={s with heap:=(s.heap.push {cls:= .type "list",data:= .seq #[] }).update s.heap.objs.size (Obj.mapSeq (λ_=>(#[] :Array zx)))}) (d:=d) (es:=es) (ep:=ep) (A:=A.in1) r s.heap.objs.size .none _ hd (n.at λo e=>h d o e) t (AAL u) f ?_;intro h' k a l x y B;refine⟨rfl,hQ h' k l (λb o e=>x b o (λz=>ABH _ (z ▸ AAG e)) (h b o e)) ?_⟩;have C:a=es.map (·.key):=by
  obtain⟨h1,h2⟩:=B;refine Array.ext (by simp[h1]) λi hi hj=> ?_;obtain⟨e,p,D⟩:=h2 i _ (by simp[hi] :a[i]? =some a[i]);have G:i<es.size:=by simpa using hj
  rw[ADw G] at p;cases p;rw[D];simp
 rw[<-C];exact y
end
end PySem
namespace L2
open PySem PySem.Spec PyProof.Rows
section
variable {X:Cx}
def kU (K:AAB):zy V->Hp->VK->Prop:=λxs H Q=>∃p kvs,xs= [.ref p] /\H p=some (.dN K kvs)/\∀l cs,H l=none->Paired (λ(q:FK×V) (c:zu)=>Fx K H c q.1) kvs cs->Q (.ref l) (upd H l (.lst (cs.map V.ref)))
def VH {k:Nat}(g:Room k X.A):Cs X (.type "list") (kU X.K):=by
 intro zj s B H xs us Q I r h;obtain⟨p,kvs,rfl,hp,q⟩:=h;obtain⟨u,rfl,i⟩:=vals1 r;cases i;obtain⟨z,hd,ys,b,o,es,ep,h1,h2,j,c,m,n⟩:=P5 I.hok I.kIn hp;have hl:ys.length=kvs.length:=(ABp b).symm;have d:es.size=ys.length:=by rw[<-ABc,c,AAI]
 refine O8 (es:=es) (ep:=ep) g.hd hd ⟨o,h1,h2,j⟩ (by rw[d,hl];exact z) λh' v x y e=> ?_;have f:es.map (·.key)=((ys.map (·.2.1)).map Value.ref).toArray:=by apply Array.ext';rw[Array.toList_map,c];simp[entryOfKey]
 rw[f] at e;have hv:∀l:zy zu,Ap (l.map V.ref) (l.map Value.ref):=λl=>by
  induction l with
  | nil=>exact .nil
  | cons a l ih=>exact .cons rfl ih
 refine⟨.ref s.heap.objs.size,_,I.laid (t':=v) y (AAJ _) (show CI X.prog X.w _ h' _ (.lst ((ys.map (·.2.1)).map V.ref)) from⟨by simp only[AAI];rw[hl];exact z,_,x,hv _,e⟩),rfl,q _ _ (I.hok.fresh (AAJ _)) ?_⟩;clear q e f c n m d hl z hp;induction b with
 | nil=>exact .nil
 | cons h t ih=>exact .cons h.2.1 ih
end
end L2
namespace PL
open PySem PySem.Spec PyProof.Rows L2
def Vq (k:FK):PV:= .tup [.tup [.int k.1.1, .int k.1.2], .int k.2]
def BK (kvs:zy (FK×Int))(k:FK):zt Int:=(kvs.find? λp=>decide (p.1=k)).map (·.2)
def Wn (kvs:zy (FK×Int))(k:FK):EU (CD kvs) k=(BK kvs k).map V.int:=by
 induction kvs with
 | nil=>rfl
 | cons p r ih=>
   by_cases e:p.1=k
   .simp [BK,CD,EU,e]
   .simpa [BK,CD,EU,e] using ih
section
variable {K:AAB}{T M:zu->Prop}{H:Hp}
def Mj {v:V}{t d:Int}(r:CL K T M H v (.tup [.int t, .int d])):∃b,v= .ref b/\Z0 K H b t d:=by
 obtain⟨a,vs,rfl,hq,c⟩:=c4 r;cases c with
 | cons f c=>
 cases c with
 | cons g c=>
 cases c;cases f;cases g;refine⟨a,rfl, ?_⟩;rcases hq with h|⟨o,e,n,h1,h2,i,_,j⟩
 .exact .inl h
 .exact .inr ⟨o,e,n,h1,h2,i,j⟩
def cS {b:zu}{t d:Int}(h:Z0 K H b t d):CL K T M H (.ref b) (.tup [.int t, .int d]):=by
 refine .tup (vs:= [.int t, .int d]) ?_ (.cons (.int _) (.cons (.int _) .nil));rcases h with h|⟨o,a,n,h1,h2,e,c⟩
 .exact .inl h
 .refine .inr ⟨o,a,n,h1,h2,e, ?_,c⟩;have:=c.length;simp only[AAb,AC0,ABc] at this;rw[<-this];exact AAs rfl
def cR {c:zu}{k:FK}(h:Fx K H c k):CL K T M H (.ref c) (Vq k):=by obtain⟨b,h1,h2⟩:=h;exact .tup (.inl h1) (.cons (cS h2) (.cons (.int _) .nil))
end
section
variable {X:Cx}{a b d:zr}{pos p1:Pos}{ta tb td:AE}
def OE (x y:PV)(R:FK->Prop):Prop:=match x,y with | .tup [.int t, .int e], .int s=>R ((t,e),s)|_,_=>False
def UO {x y:PV}{R:FK->Prop}(h:OE x y R):∃t e s,x= .tup [.int t, .int e] /\y= .int s/\R ((t,e),s):=by
 unfold OE at h;split at h
 .exact ⟨_,_,_,rfl,rfl,h⟩
 .exact h.elim
def lv (m:PV)(R:zy (FK×Int)->Prop):Prop:=match m with | .dct kvs=>R kvs|_=>False
def bR {m:PV}{R:zy (FK×Int)->Prop}(h:lv m R):∃kvs,m= .dct kvs/\R kvs:=by cases m <;> first | exact⟨_,rfl,h⟩|exact h.elim
def d8 (ta tb td:AE):AE:=λτ Q=>ta τ λx=>tb τ λy=>td τ λm=>lv m λkvs=>OE x y λk=>Q (.bl (BK kvs k).isSome)
def Z5 (td ta tb:AE):AE:=λτ Q=>td τ λm=>ta τ λx=>tb τ λy=>lv m λkvs=>OE x y λk=>match BK kvs k with | some i=>Q (.int i)|none=>False
def To {K:AAB}{B:C3}{T:zu->Prop}{H:Hp}{f:L2.St}{τ:A6}{q:zu}{vs:zy V}(c:SR K B T H f τ)(hq:H q=none):DB T H T (upd H q (.tup vs))/\¬T q:=by refine⟨DB.lay c.tp hq,λz=> ?_⟩;obtain⟨o,e,_⟩:=(c.tp q z).mut;rw[hq] at e;cases e
def gS {r z A:TE}(D:GX X.K r ta)(E:GX X.K z tb)(F:GX X.K A td):GX X.K (om X.K (gr (Oh r (Oh z gj))) A) (d8 ta tb td):=by
 intro B T p τ H Q Y C h k;refine D B T p τ H _ _ C h λv x G H1 n I h1=> ?_;have f:=C.stp n;refine E B G p τ H1 _ _ f h1 λw y J Z g L h2=> ?_;have i:=f.stp g;refine⟨AAs rfl,λq hq=> ?_⟩;obtain⟨j,M⟩:=To (vs:= [v,w]) i hq;have o:=i.stp j;refine F B J p τ _ _ _ o h2 λu m N O l P R=> ?_;obtain⟨kvs,rfl,S⟩:=bR R;obtain⟨t,e,s,rfl,rfl,U⟩:=UO S;have rv:=((I.stp g f.va).stp j i.va).stp l o.va;obtain⟨c,rfl,tn⟩:=Mj rv;cases L;cases P with
 | dct W _ _=> refine⟨_,q,_,((t,e),s),rfl,rfl,W,⟨c,l.keep _ _ M Ad,tn⟩, ?_⟩;rw[Wn,ACN];exact k _ _ N O (((n.trans g).trans j).trans l) (.bl _) U
def lI {c:Nat}{k:Nat}(e:Room k X.A)(ha:SE X a ta)(hb:SE X b tb)(hd:SE X d td)(f:behindInMarks .In d=false:=by rfl)(g:starEach (a :: [b]) X.env=(false,eval a X.env)::starEach [b] X.env:=by rfl)(h:starEach [b] X.env=(false,eval b X.env)::starEach [] X.env:=by rfl):Sc X (.Compare (.Tuple [a,b] c p1) [.In] [d] pos) (A1 (d8 ta tb td)):=by obtain⟨p,i,j⟩:=ha;obtain⟨r,l,m⟩:=hb;obtain⟨s,n,o⟩:=hd;exact⟨_,kP (kE (by have:=e.un;omega) (OF (CP i (CP l FO h) g)) n) f,SD (gS j m o)⟩
def gN {C:Nat}{k:Nat}(E:Room k X.A)(hd:SE X d td)(ha:SE X a ta)(hb:SE X b tb)(hs:i5 (.Tuple [a,b] C p1))(F:starEach (a :: [b]) X.env=(false,eval a X.env)::starEach [b] X.env:=by rfl)(G:starEach [b] X.env=(false,eval b X.env)::starEach [] X.env:=by rfl):SE X (.Subscript d (.Tuple [a,b] C p1) pos) (Z5 td ta tb):=by
 obtain⟨t1,I,J⟩:=ha;obtain⟨t2,K,L⟩:=hb;obtain⟨t3,M,N⟩:=hd;refine⟨_,fq (by have:=E.un;omega) M (OF (CP I (CP K FO G) F)) hs,λB T z τ H Q AQ D h k=> ?_⟩;refine N B T z τ H _ _ D h λu m O P p R S=> ?_;have j:=D.stp p;refine J B O z τ P _ _ j S λv x U H1 l W h1=> ?_;have f:=j.stp l;refine L B U z τ H1 _ _ f h1 λw y Y H2 g Z h2=> ?_;have n:=f.stp g;refine⟨AAs rfl,λq hq=> ?_⟩;obtain⟨o,nt⟩:=To (vs:= [v,w]) n hq;obtain⟨kvs,rfl,h5⟩:=bR h2;obtain⟨t,e,s,rfl,rfl,r⟩:=UO h5;have rv:=(W.stp g f.va).stp o n.va;have r3:=((R.stp l j.va).stp g f.va).stp o n.va;obtain⟨c,rfl,tn⟩:=Mj rv;cases Z;cases ev:BK kvs ((t,e),s) with
 | none=>rw[ev] at r;exact r.elim
 | some i=>
   rw[ev] at r;cases r3 with
   | dct hh _ _=> exact⟨_,q,_,((t,e),s), .int i,rfl,rfl,hh,⟨c,Ad,tn⟩,by rw[Wn,ev];rfl,k _ _ Y _ (((p.trans l).trans g).trans o) (.int _) r⟩
def VD (r:AA):AA:=λτ Q=>r τ λxs=>match xs with | [.dct kvs] =>Q (kvs.map λp=>Vq p.1)|_=>False
def cr {x:Str}{p pos:Pos}{e:zr}{es:zy zr}{r:AA}{k:Nat}(v:Room k X.A)(w:Gl X x)(y:X.mg x=none)(hv:bootBuiltins x=some (.type "list"))(ha:SA X (e::es) r)(z:x≠"__name__" :=by decide)(hdb:(x==("__debug__" :Str))=false:=by decide)(he:starEach (e::es) X.env=(false,eval e X.env)::starEach es X.env:=by rfl)(hpl:(backTo pos (starEach es X.env)).any (·.1)=false:=by rfl):SF X (.Call (.Name x p) (e::es) [] pos) (VD r):=by
 obtain⟨t,C,s⟩:=ha;refine⟨_,LH (VH v) w y hv C z hdb he hpl,λB T j τ H Q I m h k=>s B T j τ H _ _ m h λvs xs n H1 c D h1=> ?_⟩;have f:=m.stp c;split at h1 <;> first | exact h1.elim|skip
 rename_i kvs;cases D with
 | cons r t=>
   cases t;cases r with
   | dct o J L=>
     refine⟨_,_,rfl,o,λl cs hl u=> ?_⟩;have E:Aw X.K n (mt B j τ) H1 (cs.map V.ref) (kvs.map λp=>Vq p.1):=by
      clear h1 o;induction kvs generalizing cs with
      | nil=>cases u;exact .nil
      | cons q r ih=>
        cases u with
        | cons h t=>exact .cons (cR h) (ih _ t)
     obtain⟨F,g,i,G⟩:=Xb f hl E;exact k l _ _ n _ (c.trans F) g (c.none hl) Ad i G h1
end
def Pa (m:zy (FK×Int))(k:FK)(v:Int):zy (FK×Int):=if (m.any λp=>decide (p.1=k)) then m.map λp=>if p.1=k then (p.1,v) else p else m ++ [(k,v)]
def bump (m:zy (FK×Int))(k:FK)(d:Int):zy (FK×Int):=Pa m k ((BK m k).getD 0+d)
def cH (m:zy (FK×Int))(k:FK)(v:Int):D3 (CD m) k (.int v)=CD (Pa m k v):=by
 unfold D3 Pa;have e:((CD m).any λa=>decide (a.1=k))=(m.any λp=>decide (p.1=k)):=by unfold CD;rw[List.any_map];rfl
 rw[e];split
 .unfold CD;rw[AAd,AAd];apply AA6;intro p _;by_cases h:p.1=k <;> simp[h]
 .simp [CD]
def KF (m:zy (FK×Int))(k:FK)(v:Int):(Pa m k v).length<=m.length+1:=by unfold Pa;split <;> simp
def aa (m:zy (FK×Int))(k:FK):(EU (CD m) k).getD (.int 0)= .int ((BK m k).getD 0):=by rw[Wn];cases BK m k <;> rfl
def P7:PV->zt (zt (Int×Int))
 | .non=>some none
 | .tup [.int t, .int d] =>some (some (t,d))
 | _=>none
def iJ:PV->zt Int
 | .int i=>some i
 | _=>none
def X0:zy PV->zt ((Int×Int)×Int×zt (Int×Int))
 | [b,h,e] =>(P7 b).bind λo=>o.bind λp=>(iJ h).bind λi=>(P7 e).map λq=>(p,i,q)
 | _=>none
def X1 (x:PV):zt ((Int×Int)×Int×zt (Int×Int)):=
 match x with
 | .tup xs=>X0 xs
 | .lst xs=>X0 xs
 | _=>none
def GK (m:zy (FK×Int))(b:Int×Int)(h:Int)(e:zt (Int×Int)):zy (FK×Int):=
 match e with
 | none=>bump m (b,1-h) 1
 | some e=>bump (bump m (b,1-h) 1) (e,0) (-1)
def FW:zy PV->zy (FK×Int)->zt (zy (FK×Int))
 | [],m=>some m
 | x::r,m=>match X1 x with | some (b,h,e)=>FW r (GK m b h e)|none=>none
def cJ:R2:=λx y H Q=>y= .non/\Q (.bl (!decide (x= .non))) H
def WY (K:AAB):TS:=
 We (Pj (gr (Oh (DN 2) (Oh (ZU (Pb λi j=> .int (i-j)) (tC (.int 1)) (DN 3)) gj))) (Bh 5))
  (We (cW K (DN 1) (DN 5) (ZU (Pb λi j=> .int (i+j)) (Wc K (DN 1) (DN 5) (tC (.int 0))) (tC (.int 1))))
    (oi (dL (ZU cJ (DN 4) (tC .non)))
      (We (Pj (gr (Oh (DN 4) (Oh (tC (.int 0)) gj))) (Bh 6))
        (cW K (DN 1) (DN 6) (ZU (Pb λi j=> .int (i-j)) (Wc K (DN 1) (DN 6) (tC (.int 0))) (tC (.int 1))))) ib))
def lK (K:AAB):TS:=
 We (Pj (ia K) (Bh 1)) (We (lN (nM K (DN 0)) (PH K 3 (C8 (Bh 2) (C8 (Bh 3) (C8 (Bh 4) MJ)))) (WY K)) (dJ (DN 1)))
section
variable {K:AAB}{T M:zu->Prop}{H H':Hp}
def Gb.ext (va:Gb T M H)(ex:∀b o,H b=some o->H' b=some o):Mv K T M H T M H':=⟨va,λb o _ _ e=>ex b o e,λ_ t=>t,λ_ _ t=>t,λ_ _ m=>m⟩
def kY {v:V}{x:PV}{b:Int×Int}{h:Int}{e:zt (Int×Int)}(r:CL K T M H v x)(m:X1 x=some (b,h,e)):∃a n f,v= .ref a/\(MG K H a [n, .int h,f] \/FH K H a [n, .int h,f])/\CL K T M H n (.tup [.int b.1, .int b.2])/\((e=none/\f= .non)\/∃t d,e=some (t,d)/\CL K T M H f (.tup [.int t, .int d])):=by
 have g:∀{f:V} {ep:PV},CL K T M H f ep->P7 ep=some e->((e=none/\f= .non)\/∃t d,e=some (t,d)/\CL K T M H f (.tup [.int t, .int d])):=by
  intro f ep y he;unfold P7 at he;split at he
  .cases he;cases y;exact .inl ⟨rfl,rfl⟩
  .cases he;exact .inr ⟨_,_,rfl,y⟩
  .cases he
 have j:∀{xs:zy PV},X0 xs=some (b,h,e)->∃ep,xs= [.tup [.int b.1, .int b.2], .int h,ep] /\P7 ep=some e:=λ{xs} hx=>by
  unfold X0 at hx;split at hx
  .rename_i bp hp ep;obtain⟨o,k,hx⟩:=ADe.mp hx;obtain⟨p,z,hx⟩:=ADe.mp hx;obtain⟨i,l,hx⟩:=ADe.mp hx;obtain⟨q,A,hx⟩:=ABN.mp hx;cases hx;subst z;unfold P7 at k;split at k
   .cases k
   .cases k;unfold iJ at l;split at l
    .cases l;exact⟨ep,rfl,A⟩
    .cases l
   .cases k
  .cases hx
 cases x with
 | tup xs=>
   obtain⟨ep,rfl,he⟩:=j m;obtain⟨a,vs,rfl,hq,c⟩:=Eu r;cases c with
   | cons s c=>
   cases c with
   | cons u c=>
   cases c with
   | cons w c=> cases c;cases u;exact⟨a,_,_,rfl, .inl hq,s,g w he⟩
 | lst xs=>
   obtain⟨ep,rfl,he⟩:=j m;obtain⟨a,vs,rfl,hq,_,_,c⟩:=DU r;cases c with
   | cons s c=>
   cases c with
   | cons u c=>
   cases c with
   | cons w c=> cases c;cases u;exact⟨a,_,_,rfl, .inr (.inl (.inl hq)),s,g w he⟩
 | _=>cases m
def Wa {D:ME}{p:zu}{P s u w A B:zt V}{f:Hp}{m:zy (FK×Int)}{v:V}{b:Int×Int}{h:Int}{e:zt (Int×Int)}{x:PV}(va:Gb T M H)(ex:∀b o,H b=some o->f b=some o)(Q:H p=none)(hp:f p=some (.dN K (CD m)))(hl:m.length+2<sizeLine)(r:CL K T M f v x)(U:X1 x=some (b,h,e))(nx:∀s u w A B k,(∀b o,H b=some o->k b=some o)->k p=some (.dN K (CD (GK m b h e)))->D.nx [P,some (.ref p),s,u,w,A,B] k):PH K 3 (C8 (Bh 2) (C8 (Bh 3) (C8 (Bh 4) MJ))) v [P,some (.ref p),s,u,w,A,B] f λC k=>WY K D C k:=by
 obtain⟨a,E,ve,rfl,hq,W,F⟩:=kY r U;refine⟨a,_,rfl,hq,rfl,_,_,rfl,_,_,rfl,_,_,rfl,rfl, ?_⟩;have Y:Gb T M H:=va;refine⟨E,rfl,_,rfl,_,_,rfl,rfl,AAs rfl,λq R=> ?_⟩;have g:∀b o,f b=some o->upd f q (.tup [E, .int (1-h)]) b=some o:=λb o e=>by rw[Aa (Ah e R)];exact e
 have G:upd f q (.tup [E, .int (1-h)]) p=some (.dN K (CD m)):=g _ _ hp;have qp:q≠p:=λz=>by subst z;rw[R] at hp;cases hp
 obtain⟨c,rfl,tn⟩:=Mj W;have I:Z0 K (upd f q (.tup [.ref c, .int (1-h)])) c b.1 b.2:=tn.elim (λz=> .inl (g _ _ z)) .inr;have S:Fx K (upd f q (.tup [.ref c, .int (1-h)])) q (b,1-h):=⟨c,Ad,I⟩;refine⟨_,rfl,p,_,rfl,G,_,rfl,q,_,(b,1-h),rfl,G,S,_,_,aa m (b,1-h),rfl,_,rfl,_,rfl,p,q,_,(b,1-h),rfl,rfl,G,S,by rw[CD,AAI];omega, ?_⟩;rw[cH];have Z:CD (Pa m (b,1-h) ((BK m (b,1-h)).getD 0+1))=CD (bump m (b,1-h) 1):=rfl;rw[Z];have hb:∀o,f p=some o->True:=λ_ _=>trivial;have ext2:∀(X:HO) b o,H b=some o->upd (upd f q (.tup [.ref c, .int (1-h)])) p X b=some o:=λX b o e=>by rw[Aa (Ah e Q)];exact g _ _ (ex _ _ e)
 have bl:(bump m (b,1-h) 1).length<=m.length+1:=KF _ _ _;rcases F with⟨rfl,rfl⟩|⟨t,d,rfl,F⟩
 .refine ⟨_,rfl,rfl,false,rfl, ?_⟩;exact nx _ _ _ _ _ _ (ext2 _) Ad
 .obtain ⟨l,rfl,J⟩:=Mj F;refine⟨_,rfl,rfl,true,rfl, ?_⟩;refine⟨_,rfl,AAs rfl,λi L=> ?_⟩;have q2p:p≠i:=λz=>by subst z;rw[Ad] at L;cases L
  have j:∀(a:zu) o,upd (upd f q (.tup [.ref c, .int (1-h)])) p (.dN K (CD (bump m (b,1-h) 1))) a=some o->upd (upd (upd f q (.tup [.ref c, .int (1-h)])) p (.dN K (CD (bump m (b,1-h) 1)))) i (.tup [.ref l, .int 0]) a=some o:=λa o e=>by rw[Aa (Ah e L)];exact e
  have N:=j p _ Ad;have O:Z0 K (upd (upd (upd f q (.tup [.ref c, .int (1-h)])) p (.dN K (CD (bump m (b,1-h) 1)))) i (.tup [.ref l, .int 0])) l t d:=J.elim (λz=> .inl (j _ _ (by
   rw[Aa (λy=>by subst y;rw[hp] at z;cases z)];exact g _ _ z))) .inr
  have n:Fx K (upd (upd (upd f q (.tup [.ref c, .int (1-h)])) p (.dN K (CD (bump m (b,1-h) 1)))) i (.tup [.ref l, .int 0])) i ((t,d),0):=⟨l,Ad,O⟩;refine⟨_,rfl,p,_,rfl,N,_,rfl,i,_,((t,d),0),rfl,N,n,_,_,aa _ ((t,d),0),rfl,_,rfl,_,rfl,p,i,_,((t,d),0),rfl,rfl,N,n,by rw[CD,AAI];omega, ?_⟩;rw[cH];refine nx _ _ _ _ _ _ (λa o e=> ?_) Ad;rw[Aa (Ah e Q)];exact j _ _ (ext2 _ _ _ e)
def Lw {m:zy (FK×Int)}{b:Int×Int}{h:Int}{e:zt (Int×Int)}:(GK m b h e).length<=m.length+2:=by
 unfold GK;cases e with
 | none=>have:=KF m (b,1-h) ((BK m (b,1-h)).getD 0+1);unfold bump;simp only;omega
 | some e=> have h1:=KF m (b,1-h) ((BK m (b,1-h)).getD 0+1);have h2:=KF (bump m (b,1-h) 1) (e,0) ((BK (bump m (b,1-h) 1) (e,0)).getD 0 + -1);unfold bump at *;simp only;omega
theorem Xx:∀{vs:zy V} {ys:zy PV},Aw K T M H vs ys->∀{i:Nat} {x:V},vs[i]? =some x->∃y,ys[i]? =some y/\CL K T M H x y
 | _,_, .nil,i,x,ev=>by simp at ev
 | _,_, .cons h t,0,x,ev=>by simp at ev;subst ev;exact⟨_,rfl,h⟩
 | _,_, .cons h t,i+1,x,ev=>by simpa using Xx t (i:=i) (by simpa using ev)
def Og {D:ME}{J:It}{s:V}{p:zu}{ys:zy PV}{a:zy (FK×Int)}{H1:Hp}(va:Gb T M H)(C:H p=none)(go:∀H',(∀b o,H b=some o->H' b=some o)->∃vs,Aw K T M H' vs ys/\(∀i,i<ys.length->J.go i H')/\(∀i,ys.length<=i->J.stop i H')/\∀i x d,J.yld i H' x d->d=H'/\vs[i]? =some x)(E:∀b o,H b=some o->H1 b=some o)(hp:H1 p=some (.dN K (CD [])))(hl:2*ys.length+2<sizeLine)(hs:FW ys [] =some a)(t:∀f g j k l H',(∀b o,H b=some o->H' b=some o)->H' p=some (.dN K (CD a))->D.nx [some s,some (.ref p),f,g,j,k,l] H'):∃W:Nat->Nat->L2.St->Hp->Prop,(∃m,W 0 m [some s,some (.ref p),none,none,none,none,none] H1)/\∀i m n H,W i m n H-> (J.stop i H/\D.nx n H)\/(J.go i H/\∃N:L2.St->Hp->Prop,(∀σ' H',N σ' H'->∃z,z<m/\W (i+1) z σ' H')/\∀x H',J.yld i H x H'->PH K 3 (C8 (Bh 2) (C8 (Bh 3) (C8 (Bh 4) MJ))) x n H' λu d=>WY K {D with nx:=N,ct:=N,bk:=D.nx} u d):=by
 let W:Nat->Nat->L2.St->Hp->Prop:=λi m n H'=>i+m=ys.length/\∃f g j k l r,n= [some s,some (.ref p),f,g,j,k,l] /\(∀b o,H b=some o->H' b=some o)/\H' p=some (.dN K (CD r))/\FW (ys.drop i) r=some a/\r.length<=2*i;refine⟨W,⟨ys.length,ACQ _,_,_,_,_,_, [],rfl,E,hp,hs,AAu _⟩, ?_⟩;rintro i m n H' ⟨hi,f,g,j,k,l,r,rfl,ex,A,c,S⟩;obtain⟨vs,F,G,I,L⟩:=go H' ex;cases m with
 | zero=> left;refine⟨I i (by omega),t _ _ _ _ _ _ ex ?_⟩;rw[ACG (by omega)] at c;cases c;exact A
 | succ m=>
   right;refine⟨G i (by omega),λσ' H'=>W (i+1) m σ' H',λσ' H' h=>⟨m,by omega,h⟩,λx d O=> ?_⟩;obtain⟨rfl,ev⟩:=L i x d O;have hy:ys[i]? =some ys[i] :=AAT (by omega);obtain⟨y,B,P⟩:=Xx F ev;rw[ABh (by omega:i<ys.length)] at c;have v:ys[i] =y:=by rw[hy] at B;exact AAY B
   rw[v] at c;unfold FW at c;split at c
   .rename_i b h e Q;refine Wa (H:=H) (m:=r) (b:=b) (h:=h) (e:=e) (x:=y) va ex C A (by omega) P Q λf g j k l U w R=>⟨by omega,f,g,j,k,l,_,rfl,w,R,c, ?_⟩
    .have:=Lw (m:=r) (b:=b) (h:=h) (e:=e);omega
   .cases c
def WZ {D:ME}{l:V}{x:PV}{ys:zy PV}{f:zy (FK×Int)}(va:Gb T M H)(r:CL K T M H l x)(hx:x= .tup ys\/x= .lst ys)(hl:2*ys.length+2<sizeLine)(hs:FW ys [] =some f)(m:∀p H',(∀b o,H b=some o->H' b=some o)->H p=none->H' p=some (.dN K (CD f))->D.rt (.ref p) H'):lK K D [some l,none,none,none,none,none,none] H:=by
 intro p hp;have k:∀b o,H b=some o->upd H p (.dN K []) b=some o:=λb o e=>by rw[Aa (Ah e hp)];exact e
 have last:∀n s t u v H',(∀b o,H b=some o->H' b=some o)->H' p=some (.dN K (CD f))->(dJ (DN 1)) D [some l,some (.ref p),n,s,t,u,v] H':=λn s t u v H' ex h=>⟨_,rfl,m p H' ex hp h⟩;rcases hx with rfl|rfl
 .obtain ⟨a,vs,rfl,hq,w⟩:=Eu (r.mv (va.ext k));refine⟨_,rfl,a,rfl, .inr ⟨⟨vs,hq⟩, ?_⟩⟩;refine Og (D:={D with nx:=(dJ (DN 1)) D}) va hp (λH' ex=> ?_) k Ad hl hs last;obtain⟨y,c,e,g,d⟩:=Eu (r.mv (va.ext ex));cases e;refine⟨c,d,λi hi=>⟨c,c[i]'(by rw[d.length];exact hi),g,AAT _⟩,λi hi=>⟨c,g,by rw[d.length];exact hi⟩,λi x z j=>⟨j.1,j.2 c g⟩⟩
 .obtain ⟨a,vs,rfl,hq,_,_,w⟩:=DU (r.mv (va.ext k));refine⟨_,rfl,a,rfl, .inl ⟨⟨vs, .inl (.inl hq)⟩, ?_⟩⟩;refine Og (D:={D with nx:=(dJ (DN 1)) D}) va hp (λH' ex=> ?_) k Ad hl hs last;obtain⟨y,c,e,g,_,_,d⟩:=DU (r.mv (va.ext ex));cases e;refine⟨c,d,λi hi=>⟨c,c[i]'(by rw[d.length];exact hi), .inl (.inl g),AAT _⟩,λi hi=>⟨c, .inl (.inl g),by rw[d.length];exact hi⟩,λi x z j=>⟨j.1,j.2 c (.inl (.inl g))⟩⟩
end
def HZ:AF:=λxs Q=>match xs with | [x] =>Om x λys=>2*ys.length+2<sizeLine/\∃m,FW ys [] =some m/\Q (.dct m)|_=>False
def U4 {xs:zy PV}{Q:PV->Prop}(h:HZ xs Q):∃x ys m,xs= [x] /\(x= .tup ys\/x= .lst ys)/\2*ys.length+2<sizeLine/\FW ys [] =some m/\Q (.dct m):=by
 unfold HZ at h;split at h
 .obtain ⟨ys,hx,hz,m,a,q⟩:=Ir h;exact⟨_,ys,m,rfl,hx,hz,a,q⟩
 .exact h.elim
section
variable {K:AAB}{T M:zu->Prop}{H H':Hp}
def gL {k:Nat}{A:zk}(a:Room k A):A.units+2<cLine:=by have:=a.un;omega
def YC (va:Gb T M H)(ex:∀b o,H b=some o->H' b=some o):DB T H T H' where
 keep:=λb u _ e=>ex b u e
 sub:=λ_ t=>t
 new:=λ_ t=> .inl t
 tp:=λa t=>let ⟨d,x,e,q⟩:=va.tp a t;⟨d,x,ex _ _ e,q⟩
def gJ {p:zu}{m:zy (FK×Int)}(va:Gb T M H)(a:H p=none)(hp:H' p=some (.dN K (CD m))):CL K T M H' (.ref p) (.dct m):=by
 refine .dct hp (λz=> ?_) (λz=> ?_)
 .obtain ⟨o,e,_⟩:=(va.tp p z).mut;rw[a] at e;cases e
 .obtain ⟨o,e,_⟩:=va.mu p z;rw[a] at e;cases e
end
end PL
namespace L2
open PySem PySem.Spec PyProof.Rows
section
variable {elt tg iter tg2 iter2:zr}{ifs ifs2:zy zr}{scope:Scope}{pos:Pos}{it acc:zx}{env:Env}
def ZY:compTurn (.ListComp elt [⟨tg,iter,ifs,0⟩,⟨tg2,iter2,ifs2,0⟩] scope pos) 0 it acc env=(do
 standAt iter.pos
 match <-pyNext it with
 | none=>pure (.done .next)
 | some v=>
   letOwnedTupleGo tg it v
   assign tg env v
   let mut ok:=true
   for c in ifs do
    if ok then ok <-isTrue c env (eval c env)
   if ok then
    let x <-eval iter2 env
    standAt iter2.pos
    let x <-foldedSetIterable iter2 env x;let _ <-runOwn (.compStart (.ListComp elt [⟨tg,iter,ifs,0⟩,⟨tg2,iter2,ifs2,0⟩] scope pos) 1 (<-holding [x] (pyIter x)) acc env) env
   again (.compLoop (.ListComp elt [⟨tg,iter,ifs,0⟩,⟨tg2,iter2,ifs2,0⟩] scope pos) 0 it acc env)):=by rfl
def ZZ:compTurn (.ListComp elt [⟨tg,iter,ifs,0⟩,⟨tg2,iter2,ifs2,0⟩] scope pos) 1 it acc env=(do
 standAt iter2.pos
 match <-pyNext it with
 | none=>pure (.done .next)
 | some v=>
   letOwnedTupleGo tg2 it v
   assign tg2 env v
   let mut ok:=true
   for c in ifs2 do
    if ok then ok <-isTrue c env (eval c env)
   if ok then
    (do let _ <-call (.builtin "list.append") [acc,<-eval elt env])
   again (.compLoop (.ListComp elt [⟨tg,iter,ifs,0⟩,⟨tg2,iter2,ifs2,0⟩] scope pos) 1 it acc env)):=by rfl
variable {prog:zp}{w:zm}{A:zk}{R:Result->zw->Prop}{s:zw}
def WV (c:codeAny (model prog w) A (.compLoop (.ListComp elt [⟨tg,iter,ifs,0⟩,⟨tg2,iter2,ifs2,0⟩] scope pos) 1 it acc env) R s)(h:wpAny (model prog w) A (pyIter it) (λa b=>codeAny (model prog w) A (.compLoop (.ListComp elt [⟨tg,iter,ifs,0⟩,⟨tg2,iter2,ifs2,0⟩] scope pos) 1 a acc env) R b) (notedBy (model prog w) A env λx b=>R (.error x) b) s):codeAny (model prog w) A (.compStart (.ListComp elt [⟨tg,iter,ifs,0⟩,⟨tg2,iter2,ifs2,0⟩] scope pos) 1 it acc env) R s:=by
 refine codeAny_of_tree ?_;show wpAny _ _ ((compStart (.ListComp elt [⟨tg,iter,ifs,0⟩,⟨tg2,iter2,ifs2,0⟩] scope pos) 1 it acc env).onRaise (λx=>do noteFrame x env;standAt theWindowsPlace)) _ _ s;refine wpAny_notedAt ?_;unfold compStart;show wpAny _ _ (ask >>= _) _ _ s;refine AAA (wpAny_askSetting (wpAny_ite ?_));split
 .first
   | exact AAA (AAC (AAC (And.intro rfl c)))
   | exact AAC (And.intro rfl c)
 .first
   | exact AAA (ABD (AAA (AAy (AAA (AA5 h (λa b h'=>AAC (And.intro rfl h')) λ_ _ x=>x)))))
   | (refine AAA (ABD ?_);show wpAny _ _ (standAt iter2.pos >>= _) _ _ s;exact AAA (AAy (AAA (AA5 h (λa b h'=>AAC (And.intro rfl h')) λ_ _ x=>x))))
end
def MI (own:Nat)(a:St):St:=List.replicate own none++a.drop own
def K0 {own:Nat}{a:St}{j:Nat}{v:V}(h:(MI own a)[j]? =some (some v)):own<=j/\a[j]? =some (some v):=by
 unfold MI at h;by_cases hj:j<own
 .rw [ABJ (by simpa using hj),ABQ,AAE hj] at h;cases h
 .have Zf:own<=j:=by omega
  rw[AA9 (by simpa using Zf),ABK,ACR] at h;rw[show own+(j-own)=j by omega] at h;exact⟨Zf,h⟩
def TF {own:Nat}{a:St}(h:own<=a.length):(MI own a).length=a.length:=by simp[MI];omega
def Qp (J:It)(D:zu)(σ0:St)(g:TG)(j:TT)(c:TI)(own2:Nat)(k:TG)(d:TT)(te:TE)(Q:Hp->Prop)(W:Nat->Nat->Hp->Prop):Prop:=
 ∀i m H,W i m H->(J.stop i H/\Q H)\/(J.go i H/\∀x e,J.yld i H x e->g x σ0 e λa l=>j a l λok f=>
  if ok=true then c a f λn o=>∃h:Nat->Nat->Hp->Prop,(∃m2,h 0 m2 o)/\Nb n D (MI own2 a) k d te (λp=>∃b,b<m/\W (i+1) b p) h else ∃b,b<m/\W (i+1) b f)
def dG (d:TI)(own:Nat)(ix:zy Nat)(g:TG)(e:TT)(a:TI)(own2:Nat)(f:TG)(b:TT)(te:TE):TE:=λc H Q=>d c H λJ H1=>∀D,H1 D=none->
 ∃W:Nat->Nat->Hp->Prop,(∃m,W 0 m (upd H1 D (.lst [])))/\Qp J D (Bo own ix c) g e a own2 f b te (Q (.ref D)) W
section
variable {X:Cx}{tg elt iter tg2 iter2:zr}{ifs ifs2:zy zr}{scope:Scope}{pos:Pos}{wi wi2:TI}{own own2:Nat}{ix:zy Nat}{N:zy Str}{g g2:TG}{tt tt2:TT}{te:TE}
structure MW (X:Cx) (tg elt:Expr) (ifs:List Expr) (tg2 iter2:Expr) (ifs2:List Expr) (scope:Scope) (own:Nat) (ix:List Nat) (N:List Str) (g:TG) (tt:TT) (wi2:TI) (own2:Nat) (g2:TG) (tt2:TT) (te:TE):Prop where
 kind:scope.kind= .function
 nocell:∀y∈scope.names,y.2≠ .cell
 names:∀y∈scope.names,y.2= .local->scope.names.lookup y.1=some .local
 frees:∀y∈scope.names,y.2= .free->X.env.scope.names.lookup y.1=some .cell
 ins:Wu X (relabel scope X.env) own ix N
 keep:IM own g
 keep2:IM own2 g2
 le2:own2<=own
 tgt:∀cl C s H ex pn,PG (blk X (relabel scope X.env) N cl C s H ex pn) tg g
 tst:∀cl C s H ex pn,YU (blk X (relabel scope X.env) N cl C s H ex pn) ifs tt
 itr2:∀cl C s H ex pn,PI (blk X (relabel scope X.env) N cl C s H ex pn) tg2 iter2 wi2
 set2:∀cl C s H ex pn x,foldedSetIterable iter2 (blk X (relabel scope X.env) N cl C s H ex pn).env x=pure x
 tgt2:∀cl C s H ex pn,PG (blk X (relabel scope X.env) N cl C s H ex pn) tg2 g2
 tst2:∀cl C s H ex pn,YU (blk X (relabel scope X.env) N cl C s H ex pn) ifs2 tt2
 val:∀cl C s H ex pn,PE (blk X (relabel scope X.env) N cl C s H ex pn) elt te
def eB {Y:Cx}{c0:Comprehension}{zj:zy (zu×Obj)}{σ0:St}{fp:zy zu}{it:zu}{tn:Nat->zl->Prop}{J:It}{D:zu}{R:Result->zw->Prop}{Qh:Hp->Prop}{W:Nat->Nat->Hp->Prop}(xa:∀it l,compTurn (.ListComp elt [c0,⟨tg2,iter2,ifs2,0⟩] scope pos) 1 it l Y.env=(do
   standAt iter2.pos
   match <-pyNext it with
   | none=>pure (.done .next)
   | some v=>
     letOwnedTupleGo tg2 it v
     assign tg2 Y.env v
     let mut ok:=true
     for c in ifs2 do
      if ok then ok <-isTrue c Y.env (eval c Y.env)
     if ok then
      (do let _ <-call (.builtin "list.append") [l,<-eval elt Y.env])
     again (.compLoop (.ListComp elt [c0,⟨tg2,iter2,ifs2,0⟩] scope pos) 1 it l Y.env)))(eX:Y.xe=λ_ _=>False)(eC:Y.calm=true)(hg:PG Y tg2 g2)(hk:IM own2 g2)(ht:YU Y ifs2 tt2)(hv:PE Y elt te)(T:Ib Y.prog Y.w Y.K tg2 J fp it tn)(wo:∀j v,σ0[j]? =some (some v)->own2<=j)(f:∀{a:Hp},(∀b∈fp,a b=none)->∀b∈fp,EO Y zj a b)(hW:Nb J D σ0 g2 tt2 te Qh W)(hR:∀a G,Inv Y zj σ0 a G->Qh a->R (.ok .next) G)(n:Nat)(S:zw)(h0:∃i a,Inv Y zj σ0 a S/\tn i S.heap/\(∀b∈fp,a b=none)/\W i n a):
 codeAny (model Y.prog Y.w) Y.A (.compLoop (.ListComp elt [c0,⟨tg2,iter2,ifs2,0⟩] scope pos) 1 (.ref it) (.ref D) Y.env) R S:=by
 refine ACh rfl (λn G=>∃i a,Inv Y zj σ0 a G/\tn i G.heap/\(∀b∈fp,a b=none)/\W i n a) (λn U h1=> ?_) n h0;obtain⟨i,H1,B1,H,I,w1⟩:=h1;show wpAny _ _ ((compTurn (.ListComp elt [c0,⟨tg2,iter2,ifs2,0⟩] scope pos) 1 (.ref it) (.ref D) Y.env).onRaise (λx=>do noteFrame x Y.env;theTreesLotGoes x)) _ _ U;refine ACi ?_;rw[xa];have P:∀{α:Type} {t:Sem α} {Q:α->zw->Prop} {E:zx->zw->Prop} {s:zw},wpAny (model Y.prog Y.w) Y.A t Q Y.xe s->wpAny (model Y.prog Y.w) Y.A t Q E s:=λh=>AA5 h (λ_ _ q=>q) λ_ _ z=>by rw[eX] at z;exact z.elim
 refine AAA (AAy (AAA ?_));rcases hW i n H1 w1 with⟨stop,qn⟩|⟨go,step⟩
 .refine BM (T.done Y rfl rfl rfl eC i zj U _ H1 _ B1 (f I) H stop) λr s4 ⟨Z,I4⟩=> ?_;subst Z;exact AAC (hR _ _ I4 qn)
 .refine BM (T.item Y rfl rfl rfl eC i zj U _ H1 _ B1 (f I) H go) λr s4 ⟨u,Z,h4⟩=> ?_;subst Z;refine AAA (BM h4 λ_ s5 ⟨x,H5,I5,r5,y5,p,fr5⟩=> ?_);have I5':=I5.pinned (f fr5) (T.obj _ _ p);refine AAA (BM (P (hg _ s5 _ H5 x u _ I5' r5 (hk _ _ _ _ (step x H5 y5)))) λ_ s6 ⟨k,H6,I6,q6,l6,k6⟩=> ?_);refine AAA (BM (P (ht _ s6 k H6 _ I6 q6)) λok s7 ⟨H7,I7,q7⟩=> ?_);have back:∀{B:Hp} {C:zw} {F:Nat},Inv Y (zj++FP fp s5.heap) k B C->F<n->W (i+1) F B->
   ∃m,m<n/\∃i a,Inv Y zj σ0 a C/\tn i C.heap/\(∀b∈fp,a b=none)/\W i m a:=λ{B C F} L M O=>by
   refine⟨F,M,i+1,B,L.unpinned.weak l6.symm (λj v hj=> ?_),T.keep _ _ _ p λb hb o e=>(L.pin (b,o) (AAW _ (AAW _ (CC hb e)))).1,λb hb=> ?_,O⟩
   .rw [k6 j (wo j v hj)];exact hj
   .obtain ⟨o,e,d⟩:=T.obj _ _ p b hb;exact(L.pin (b,o) (AAW _ (AAW _ (CC hb e)))).2.1
  cases ok with
  | false=> obtain⟨F,M,O⟩:=q7;exact AAC ⟨rfl,back I7 M O⟩
  | true=> refine AAA (AAA (BM (P (hv _ s7 k H7 _ I7 q7)) λyv C ⟨y,B,L,r8,ys,hD,hz,F,M,O⟩=> ?_));refine AAA (BM (P (LA _ C k B (.ref D) [y] (.ref D) [yv] (λ_ H9=>H9=upd B D (.lst (ys ++ [y]))) L rfl (.cons r8 .nil) ⟨D,ys,y,rfl,rfl,hD,hz,rfl⟩)) λ_ s9 ⟨_,H9,I9,_,e9⟩=> ?_);subst e9;exact AAC (AAC ⟨rfl,back I9 M O⟩)
def VL {zj:zy (zu×Obj)}{G:St}{H:Hp}{s:zw}{fp:zy zu}{cl:zy (Str×zu)}{it:zu}{tn:Nat->zl->Prop}{J:It}{D:zu}{R:Result->zw->Prop}{Qh:Hp->Prop}{W:Nat->Nat->Hp->Prop}(hc:X.calm=true)(O:MW X tg elt ifs tg2 iter2 ifs2 scope own ix N g tt wi2 own2 g2 tt2 te)(T:Ib X.prog X.w X.K tg J fp it tn)(I:Inv X zj G H s)(hf:∀b∈fp,EO X zj H b)(EG:∀b∈fp,b<s.heap.objs.size)(hW:Qp J D (Bo own ix G) g tt wi2 own2 g2 tt2 te Qh W)(hR:∀σ' a l,Inv (blk X (relabel scope X.env) N cl s.heap.objs.size s H fp (X.pn++zj)) [] σ' a l->Qh a->R (.ok .next) l)(n:Nat)(s0:zw)(h0:∃i a,Inv (blk X (relabel scope X.env) N cl s.heap.objs.size s H fp (X.pn++zj)) [] (Bo own ix G) a s0/\tn i s0.heap/\(∀b∈fp,a b=none)/\W i n a):codeAny (model X.prog X.w) X.A (.compLoop (.ListComp elt [⟨tg,iter,ifs,0⟩,⟨tg2,iter2,ifs2,0⟩] scope pos) 0 (.ref it) (.ref D) (FJ X.env (relabel scope X.env) cl s.heap.objs.size)) R s0:=by
 refine ACh rfl (λn l=>∃i a,Inv (blk X (relabel scope X.env) N cl s.heap.objs.size s H fp (X.pn++zj)) [] (Bo own ix G) a l/\tn i l.heap/\(∀b∈fp,a b=none)/\W i n a) (λn s1 h1=> ?_) n h0;obtain⟨i,H1,B1,P,S,w1⟩:=h1;have F:own2<=(Bo own ix G).length:=by rw[P1];exact AAh O.le2 (ADf _ _)
 generalize k:blk X (relabel scope X.env) N cl s.heap.objs.size s H fp (X.pn++zj)=Y at *;have eA:Y.A=X.A:=by rw[<-k];rfl
 have U:Y.prog=X.prog:=by rw[<-k];rfl
 have Z:Y.w=X.w:=by rw[<-k];rfl
 have eK:Y.K=X.K:=by rw[<-k];rfl
 have eE:FJ X.env (relabel scope X.env) cl s.heap.objs.size=Y.env:=by rw[<-k];rfl
 have eX:Y.xe=λ_ _=>False:=by rw[<-k];rfl
 have eC:Y.calm=true:=by rw[<-k];exact hc
 have hg:PG Y tg g:=by rw[<-k];exact O.tgt _ _ _ _ _ _
 have ht:YU Y ifs tt:=by rw[<-k];exact O.tst _ _ _ _ _ _
 have qm:PI Y tg2 iter2 wi2:=by rw[<-k];exact O.itr2 _ _ _ _ _ _
 have Yt:∀x,foldedSetIterable iter2 Y.env x=pure x:=by rw[<-k];exact O.set2 _ _ _ _ _ _
 have qk:PG Y tg2 g2:=by rw[<-k];exact O.tgt2 _ _ _ _ _ _
 have rB:YU Y ifs2 tt2:=by rw[<-k];exact O.tst2 _ _ _ _ _ _
 have hv:PE Y elt te:=by rw[<-k];exact O.val _ _ _ _ _ _
 have y:∀{a:Hp},(∀b∈fp,a b=none)->∀b∈fp,EO Y [] a b:=λ{a} hn b hb=>by
  obtain⟨_,a1,a2,a3,a4,a5⟩:=hf b hb;refine⟨hn b hb, ?_, ?_, ?_, ?_, ?_⟩
  .rw [<-k];exact AAL (EG b hb)
  .rw [<-k];exact I.notStk a1 a2
  .rw [<-k];exact .inl hb
  .intro x c e;exact(B1.ok.exf b (by rw[<-k];exact hb)).2 x c e
  .intro p hp;have:p∈X.pn++zj:=by rw[<-k] at hp;simpa[blk] using hp
   exact a5 p this
 rw[eE,<-eA,<-U,<-Z];show wpAny _ _ ((compTurn (.ListComp elt [⟨tg,iter,ifs,0⟩,⟨tg2,iter2,ifs2,0⟩] scope pos) 0 (.ref it) (.ref D) Y.env).onRaise (λx=>do noteFrame x Y.env;theTreesLotGoes x)) _ _ s1;refine ACi ?_;rw[ZY];have ff:∀{α:Type} {t:Sem α} {Q:α->zw->Prop} {E:zx->zw->Prop} {s:zw},wpAny (model Y.prog Y.w) Y.A t Q Y.xe s->wpAny (model Y.prog Y.w) Y.A t Q E s:=λh=>AA5 h (λ_ _ q=>q) λ_ _ z=>by rw[eX] at z;exact z.elim
 refine AAA (AAy (AAA ?_));rcases hW i n H1 w1 with⟨stop,qn⟩|⟨go,step⟩
 .have zd:=λE=>T.done Y U Z eK eC i [] s1 _ H1 E B1 (y S) P stop;rw[<-U,<-Z] at zd;refine BM (zd _) λr s4 ⟨hr,I4⟩=> ?_;subst hr;exact AAC (hR _ _ _ I4 qn)
 .have zi:=λE=>T.item Y U Z eK eC i [] s1 _ H1 E B1 (y S) P go;rw[<-U,<-Z] at zi;refine BM (zi _) λr s4 ⟨u,hr,h4⟩=> ?_;subst hr;refine AAA (BM h4 λ_ s5 ⟨x,H5,I5,r5,y5,L,fr5⟩=> ?_);have I5':=I5.pinned (y fr5) (T.obj _ _ L);refine AAA (BM (ff (hg _ s5 _ H5 x u _ I5' r5 (O.keep _ _ _ _ (step x H5 y5)))) λ_ s6 ⟨B,H6,I6,q6,l6,k6⟩=> ?_);refine AAA (BM (ff (ht _ s6 B H6 _ I6 q6)) λok s7 ⟨H7,I7,q7⟩=> ?_);have back:∀{C:St} {H8:Hp} {s8:zw} {M:Nat},Inv Y ([] ++ FP fp s5.heap) C H8 s8->C.length=B.length->(∀j v,own<=j->B[j]? =some (some v)->C[j]? =some (some v))->M<n->W (i+1) M H8->
   ∃m,m<n/\∃i a,Inv Y [] (Bo own ix G) a s8/\tn i s8.heap/\(∀b∈fp,a b=none)/\W i m a:=λ{C H8 s8 M} I8 hl xZ hm w8=>by
   refine⟨M,hm,i+1,H8,I8.unpinned.weak (hl.trans l6).symm (λj v hj=> ?_),T.keep _ _ _ L λb hb o e=>(I8.pin (b,o) (AAW _ (AAW _ (CC hb e)))).1,λb hb=> ?_,w8⟩
   .have uK:=(Fy hj).1;exact xZ j v uK (by rw[k6 j uK];exact hj)
   .obtain ⟨o,e,d⟩:=T.obj _ _ L b hb;exact(I8.pin (b,o) (AAW _ (AAW _ (CC hb e)))).2.1
  cases ok with
  | false=> obtain⟨M,hm,w8⟩:=q7;exact AAC ⟨rfl,back I7 rfl (λ_ _ _ z=>z) hm w8⟩
  | true=>
    rw[AAE rfl] at q7;refine AAA (BM (ff (qm _ s7 B H7 _ I7 q7)) λv2 s8 fB=> ?_);refine AAA (AAy (AAA (wpAny_of_eq (Yt v2) (AAA (AAl (BM (ff fB) λitv s9 xf=> ?_))))));obtain⟨it2,fp2,tn2,J2,H9,rfl,I9,T2,st9,f9,W2,⟨m2,w2⟩,wx⟩:=xf;have I9':Inv Y ([] ++ FP fp s5.heap) (MI own2 B) H9 s9:=I9.weak (TF (by rw[l6];exact F)) (λj v hj=>(K0 hj).2);have loop:codeAny (model Y.prog Y.w) Y.A (.compLoop (.ListComp elt [⟨tg,iter,ifs,0⟩,⟨tg2,iter2,ifs2,0⟩] scope pos) 1 (.ref it2) (.ref D) Y.env) (λr l=>match r with | .ok f=>∃m,m<n/\∃i a,Inv Y [] (Bo own ix G) a l/\tn i l.heap/\(∀b∈fp,a b=none)/\W i m a | .error e=>cameBackBy (model Y.prog Y.w) Y.A Y.env (notedBy (model Y.prog Y.w) Y.A Y.env λx l=>R (.error x) l) e l) s9:=by refine eB (own2:=own2) (zj:= [] ++ FP fp s5.heap) (λ_ _=>ZZ) eX eC qk O.keep2 rB hv T2 (λj v hj=>(K0 hj).1) (λhn b hb=>⟨hn b hb,(f9 b hb).2⟩) wx (λa l I' q'=> ?_) m2 s9 ⟨0,H9,I9',st9,λb hb=>(f9 b hb).1,w2⟩;obtain⟨M,hm,w8⟩:=q';refine back I' (TF (by rw[l6];exact F)) (λj v hj e=> ?_) hm w8;have wt:own2<=j:=AAh O.le2 hj;unfold MI;rw[AA9 (by simpa using wt),ABK,ACR,show own2+(j-own2)=j by omega];exact e
    refine AAA (wpAny_runOwn (h:=none) (WV ?_ ?_))
    .exact AB9 loop (λr l h'=>by
      cases r with
      | ok f=>exact AAC ⟨rfl,h'⟩
      | error e=>exact h')
    .exact T2.self _ 0 _ _ _ st9 (AB9 loop (λr l h'=>by
      cases r with
      | ok f=>exact AAC ⟨rfl,h'⟩
      | error e=>exact h'))
def Yi {zj:zy (zu×Obj)}{t:St}{H:Hp}{s:zw}{use:zt (zx->Sem Unit)}{Q:zx->zw->Prop}{it:zu}{fp:zy zu}{cl:zy (Str×zu)}{tn:Nat->zl->Prop}{J:It}{Qd:zu->Hp->Prop}(hc:X.calm=true)(O:MW X tg elt ifs tg2 iter2 ifs2 scope own ix N g tt wi2 own2 g2 tt2 te)(T:Ib X.prog X.w X.K tg J fp it tn)(I:Inv X zj t H s)(M:∀b∈fp,EO X zj H b)(st:tn 0 s.heap)(h1:∀y c,cl.lookup y=some c->X.env.cells.lookup y=some c)(h2:∀y,(y,NameKind.free)∈scope.names->∃c,cl.lookup y=some c)(hq:∀D,H D=none->∃W:Nat->Nat->Hp->Prop,(∃m,W 0 m (upd H D (.lst [])))/\Qp J D (Bo own ix t) g tt wi2 own2 g2 tt2 te (Qd D) W)(P:∀D C i j,(∃m,j.heap.Ns C m)->Inv X zj t i j->(∀f u,Inv X zj f i u->∀h',Heap.SameBut C u.heap h'->Inv X zj f i {u with heap:=h'})->C≠X.env.locals->(∀x c,X.env.cells.lookup x=some c->C≠c)->Qd D i-> compPost (model X.prog X.w) X.A X.xe use Q (.ref D) C (.ok .next) j):wpAny (model X.prog X.w) X.A (newList []) (λk l=>wpAny (model X.prog X.w) X.A (newFunctionEnv scope X.env.globals cl [] X.env.qual none .none (some X.env)) (λd n=> codeAny (model X.prog X.w) X.A (.compStart (.ListComp elt [⟨tg,iter,ifs,0⟩,⟨tg2,iter2,ifs2,0⟩] scope pos) 0 (.ref it) k {d with scope:=relabel scope X.env}) (compPost (model X.prog X.w) X.A X.xe use Q k d.locals) n) X.xe l) X.xe s:=by
 refine AAz ?_ (by simp[sizeOk]);have h:Inv X zj t (upd H s.heap.objs.size (.lst [])) {s with heap:=s.heap.push {cls:= .type "list",data:= .seq ([] :zy zx).toArray}}:=I.lnew (t':=s.toks) .nil (AAu _);have R:=I.fresh;obtain⟨W,⟨m0,S⟩,U⟩:=hq _ R;have Y:∀b∈fp,b<s.heap.objs.size:=λb hb=>by obtain⟨o,e,_⟩:=T.obj _ _ st b hb;exact AAG e
 have v:∀b∈fp,EO X zj (upd H s.heap.objs.size (.lst [])) b:=λb hb=>by obtain⟨Z,ar⟩:=M b hb;exact⟨by rw[Aa (AAL (Y b hb))];exact Z,ar⟩
 generalize nH:({s with heap:=s.heap.push {cls:= .type "list",data:= .seq ([] :zy zx).toArray}}:zw)=s3 at h;have p:tn 0 s3.heap:=T.keep _ _ _ st λb hb o e=>by rw[<-nH];exact AAH _ e
 have E:∀b∈fp,b<s3.heap.objs.size:=λb hb=>by obtain⟨o,e,_⟩:=T.obj _ _ p b hb;exact AAG e
 refine ADQ O.nocell (by intro y hy;simp at hy) (λa iG nI=> ?_) O.kind;have L:∀b o,s3.heap.get? b=some o->a.get? b=some o:=λb o e=>nI.extBut b o (AAL (AAG e)) (AAH _ e);have df:∀y,((relabel scope X.env).names.lookup y=some .cell\/(relabel scope X.env).names.lookup y=some .free)->∃c,cl.lookup y=some c:=λy hy=>by
  rcases hy with z|z
  .exact h2 y (Dc O.nocell (G5 z) (.inl rfl))
  .exact h2 y (Dc O.nocell (G5 z) (.inr rfl))
 have B:=VG (N:=N) (t':=s3.toks+([] :zy (Str×zx)).length) h v E (sc:=relabel scope X.env) O.kind h1 df O.ins iG L;have r:tn 0 a:=T.keep _ _ _ p λb hb o e=>L b o e;have loop:∀F:zw,F={s3 with heap:=a,toks:=s3.toks+([] :zy (Str×zx)).length}->
  codeAny (model X.prog X.w) X.A (.compLoop (.ListComp elt [⟨tg,iter,ifs,0⟩,⟨tg2,iter2,ifs2,0⟩] scope pos) 0 (.ref it) (.ref s.heap.objs.size) (FJ X.env (relabel scope X.env) cl s3.heap.objs.size)) (compPost (model X.prog X.w) X.A X.xe use Q (.ref s.heap.objs.size) s3.heap.objs.size) F:=by rintro F rfl;refine VL (cl:=cl) (Qh:=Qd s.heap.objs.size) hc O T h v E U (λσ' i j G q'=> ?_) m0 _ ⟨0,_,B,r,λb hb=>(v b hb).1,S⟩;refine P _ _ i j (let ⟨m,hm,_⟩:=G.loc;⟨m,hm⟩) (Qo (own:=own) (ix:=ix) h v E G) (λf u I2 h' hs=>Na h rfl I2 G.free hs) (AAt h.lt) (λx c e=>AAt (h.szLt e)) q'
 exact codeAny_compStart_list (loop _ rfl) (T.self _ 0 _ _ _ r (loop _ rfl))
def bZ (hc:X.calm=true)(hi:PI X tg iter wi)(O:MW X tg elt ifs tg2 iter2 ifs2 scope own ix N g tt wi2 own2 g2 tt2 te)(hs:∀x,foldedSetIterable iter X.env x=pure x:=by intro _;rfl):PE X (.ListComp elt [⟨tg,iter,ifs,0⟩,⟨tg2,iter2,ifs2,0⟩] scope pos) (dG wi own ix g tt wi2 own2 g2 tt2 te):=by intro zj s c H Q I h;obtain⟨cl,d,h1,h2⟩:=F1 (env:=X.env) (scope:=scope) λy hy e=>I.ok.has y.1 (.inl (O.frees y hy e));rw[eval_ListComp];refine ACj (use:=none) rfl hs d O.kind O.names (BM (hi zj s c H _ I h) λv t hv=>BM hv λf u i=> ?_);obtain⟨it,fp,tn,J,w,rfl,j,T,a,k,q⟩:=i;exact Yi (Qd:=λD b=>Q (.ref D) b) hc O T j k a h1 h2 q λD C b l n o gone z A p=>by obtain⟨m,r⟩:=n;exact⟨m,r,λh' hs=>⟨.ref D,b,gone c l o h' hs,rfl,p⟩⟩
end
end L2
namespace PL
open PySem PySem.Spec PyProof.Rows L2
def Qr (own:Nat)(τ:A6):A6:=List.replicate own none++τ.drop own
def Ig (g:AG)(t:AT)(a:AI)(own2:Nat)(d:AG)(e:AT)(te:AE)(b:A6)(Q:zy PV->Prop):zy PV->zy PV->Prop
 | [],acc=>Q acc
 | x::r,acc=>g x b λc=>t c λok=>if ok=true then a c λys=>acc.length+ys.length<sizeLine/\CJ d e te (Qr own2 c) (Ig g t a own2 d e te b Q r) ys acc else Ig g t a own2 d e te b Q r acc
def NX (b:AI)(own:Nat)(ix:zy Nat)(g:AG)(t:AT)(a:AI)(own2:Nat)(c:AG)(d:AT)(te:AE):AA:=λτ Q=>b τ λxs=>Ig g t a own2 c d te (Jo own ix τ) Q xs []
def SR.noOwn {K:AAB}{B:C3}{T:zu->Prop}{H:Hp}{a:L2.St}{τ:A6}(s:SR K B T H a τ)(c:∀b,¬Co a τ b){i:Nat}{xs:zy PV}:τ[i]? ≠some (some (.own xs)):=λe=>by obtain⟨p,vs,d,_⟩:=s.own i xs e;exact c p ⟨i,xs,e,d⟩
def SR.swap {K:AAB}{B:C3}{l f:zu->Prop}{m g:Hp}{a σ0:L2.St}{τ k:A6}(c:SR K B l m a τ)(n:∀b,¬Co a τ b)(d:SR K B f g σ0 k)(o:Mv K l (mt B a τ) m f (mt B a τ) g):SR K B f g a τ:=
 ⟨c.len,λi x e=>let ⟨v,h,r⟩:=c.val i x e;⟨v,h,r.mv o⟩,λi xs e=>absurd e (c.noOwn n),λi j xs ys p e=>absurd e (c.noOwn n),d.tp,d.bm,d.bt,d.st⟩
def Jt {own:Nat}{τ:A6}{j:Nat}{x:AV}(h:(Qr own τ)[j]? =some (some x)):own<=j/\τ[j]? =some (some x):=by
 unfold Qr at h;by_cases hj:j<own
 .rw [ABJ (by simpa using hj),ABQ,AAE hj] at h;cases h
 .have Zf:own<=j:=by omega
  rw[AA9 (by simpa using Zf),ABK,ACR] at h;rw[show own+(j-own)=j by omega] at h;exact⟨Zf,h⟩
def SR.cut {K:AAB}{B:C3}{T:zu->Prop}{H:Hp}{c:L2.St}{τ:A6}{own:Nat}(s:SR K B T H c τ)(d:∀b,¬Co c τ b):SR K B T H (MI own c) (Qr own τ)/\∀b,¬Co (MI own c) (Qr own τ) b:=by have g:∀b,¬Co (MI own c) (Qr own τ) b:=λb ⟨i,xs,h,f⟩=>d b ⟨i,xs,(Jt h).2,(K0 f).2⟩;refine⟨⟨by simp[MI,Qr,s.len],λi x e=> ?_,λi xs e=>absurd (Jt e).2 (s.noOwn d),λi j xs ys p e=>absurd (Jt e).2 (s.noOwn d),s.tp,s.bm,s.bt,s.st⟩,g⟩;obtain⟨Zf,f⟩:=Jt e;obtain⟨v,hv,r⟩:=s.val i x f;refine⟨v, ?_,r.mv (.anti s.va λa z=>z.elim .inl λz=>absurd z (g a))⟩;unfold MI;rw[AA9 (by simpa using Zf),ABK,ACR,show own+(i-own)=i by omega];exact hv
structure O7 (D:Addr) (T:Addr->Prop) (H:Hp) (T':Addr->Prop) (H':Hp):Prop where
 keep:∀b o,¬T b->b≠D->H b=some o->H' b=some o
 sub:∀b,T b->T' b
 new:∀b,T' b->T b\/H b=none
 tp:∀b,H b≠none->H' b≠none
def O7.refl {D:zu}{T:zu->Prop}{H:Hp}:O7 D T H T H:=⟨λ_ _ _ _ e=>e,λ_ e=>e,λ_ e=> .inl e,λ_ e=>e⟩
def DB.atD {D:zu}{T a:zu->Prop}{H c:Hp}(s:DB T H a c):O7 D T H a c:=⟨λb o t _ e=>s.keep b o t e,s.sub,s.new,λb e=>s.some e⟩
def O7.upd {D:zu}{T:zu->Prop}{H:Hp}{o:HO}:O7 D T H T (upd H D o):=⟨λb a _ n e=>by rw[Aa n];exact e,λ_ e=>e,λ_ e=> .inl e,λb e=>by
 by_cases h:b=D
 .subst h;rw[Ad];exact λz=>nomatch z
 .rw [Aa h];exact e⟩
def O7.trans {D:zu}{T c d:zu->Prop}{H H1 f:Hp}(a:O7 D T H c H1)(b:O7 D c H1 d f):O7 D T H d f where
 keep:=λx o t n e=>b.keep x o (λz=>(a.new x z).elim t λz=>by rw[e] at z;cases z) n (a.keep x o t n e)
 sub:=λx t=>b.sub x (a.sub x t)
 new:=λx t=>(b.new x t).elim (λz=>a.new x z) λz=> .inr (by
  cases e:H x with
  | none=>rfl
  | some o=>exact absurd z (a.tp x (by rw[e];exact λz=>nomatch z)))
 tp:=λx e=>b.tp x (a.tp x e)
def ZQ {K:AAB}{s:zq}{wi wi2:TI}{ai Y:AI}{own own2:Nat}{ix:zy Nat}{g g2:TG}{ag N:AG}{tt tt2:TT}{Z O:AT}{te:TE}{ta:AE}(hi:YW K s wi ai)(hg:Ky K g ag)(ht:NV K tt Z)(qm:YW K true wi2 Y)(qk:Ky K g2 N)(rB:NV K tt2 O)(he:GX K te ta):Zy K (dG wi own ix g tt wi2 own2 g2 tt2 te) (NX ai own ix ag Z Y own2 N O ta):=by
 intro B T j τ H Q AQ sr h k;refine hi B T j τ H _ _ sr h λJ xs T1 H1 s1 walk h1 D hD=> ?_;have E:=sr.stp s1;have nt1:¬T1 D:=λz=>by obtain⟨o,e,_⟩:=(E.tp D z).mut;rw[hD] at e;cases e
 have lay:=DB.lay (o:= .lst []) E.tp hD;refine⟨λi m H2=>m=xs.length-i/\∃T2 vs r,DB T1 H1 T2 H2/\H2 D=some (.lst vs)/\¬T2 D/\Aw K T2 (λa=>mt B j τ a\/a=D) H2 vs r/\Ig ag Z Y own2 N O ta (Jo own ix τ) AQ (xs.drop i) r,
  ⟨_,rfl,T1, [], [],lay,Ad,nt1, .nil,h1⟩, ?_⟩
 rintro i m H2 ⟨rfl,T2,vs,r,s2,XO,F,r2,h2⟩;have srb:=E.blk (own:=own) (ix:=ix) s2 hD XO F;have va2:Gb T2 (λa=>mt B j τ a\/a=D) H2:=⟨srb.tp,srb.bm⟩;have w:=walk (λa=>mt B j τ a\/a=D) T2 H2 ⟨E.va,λb o t _ e=>s2.keep b o t e,s2.sub,λb n t=>(s2.new b t).elim id λz=>absurd z n,λb n z=>z.elim id λz=>by subst z;exact absurd hD n⟩ va2 (.inr s2.keep);by_cases EG:i<xs.length
 .have Ti:xs[i]? =some xs[i] :=AAT EG;rw[ABh EG] at h2;refine .inr ⟨w.go i _ Ti,λv H3 yl=> ?_⟩;obtain⟨s3,r3⟩:=w.yld i _ v H3 Ti yl;have P:=srb.stp s3;refine hg _ T2 _ _ H3 v _ _ _ P (r3.mv (.anti ⟨P.tp,P.bm⟩ λa z=>z.elim id λ⟨_,_,z,_⟩=>absurd z Fj)) h2 λu l sr4 o4 h4=> ?_;have no4:∀b,¬Co u l b:=λb z=>by obtain⟨_,_,z,_⟩:=o4 b z;exact absurd z Fj
  refine ht _ T2 u l H3 _ _ sr4 h4 λok T5 H5 s5 h5=> ?_;have sr5:=sr4.stp s5;have dc:=s3.keep D _ F XO;have eU:=s5.keep D _ F dc;have nt5:¬T5 D:=λz=>(s5.new D z).elim F λn=>by rw[n] at dc;cases dc
  have r5:=(r2.stp s3 va2).stp s5 ⟨P.tp,P.bm⟩;cases ok with
  | false=> rw[AAD AAQ] at h5 ⊢;exact⟨_,by omega,rfl,T5,vs,r,(s2.trans s3).trans s5,eU,nt5,r5,h5⟩
  | true=>
    rw[AAE rfl] at h5 ⊢;refine qm _ T5 u l H5 _ _ sr5 h5 λJ2 ys T6 H6 s6 walk2 h6=> ?_;obtain⟨hl,h6⟩:=h6;have R:=sr5.stp s6;have qX:=s6.keep D _ nt5 eU;have nt6:¬T6 D:=λz=>(s6.new D z).elim nt5 λn=>by rw[n] at eU;cases eU
    have va6:Gb T6 (λa=>mt B j τ a\/a=D) H6:=⟨R.tp,R.bm⟩;have r6:=r5.stp s6 ⟨sr5.tp,sr5.bm⟩;have s06:=((s2.trans s3).trans s5).trans s6;refine⟨λG m2 H7=>m2=ys.length-G/\∃M f c,DB T1 H1 M H7/\O7 D T6 H6 M H7/\H7 D=some (.lst f)/\¬M D/\Aw K M (λa=>mt B j τ a\/a=D) H7 f c/\c.length<=r.length+G/\
     CJ N O ta (Qr own2 l) (Ig ag Z Y own2 N O ta (Jo own ix τ) AQ (xs.drop (i+1))) (ys.drop G) c,
     ⟨_,rfl,T6,vs,r,s06, .refl,qX,nt6,r6,AAJ _,h6⟩, ?_⟩
    rintro G m2 H7 ⟨rfl,M,f,c,s7,d7,qY,S,r7,ya,h7⟩;have U:=E.blk (own:=own) (ix:=ix) s7 hD qY S;have mEq:∀a,mt (B.blk j τ D) u l a->mt B j τ a\/a=D:=λa z=>z.elim id λz=>absurd z (no4 a);have mv7:Mv K T6 (mt (B.blk j τ D) u l) H6 M (mt (B.blk j τ D) u l) H7:=⟨R.va,λb o t m e=>d7.keep b o t (λz=>m (.inl (.inr z))) e,d7.sub,λb n t=>(d7.new b t).elim id λz=>absurd z n,λ_ _ z=>z⟩;have mv7':Mv K T6 (mt (B.blk j τ D) u l) H6 M (λa=>mt B j τ a\/a=D) H7:=⟨R.va,λb o t m e=>d7.keep b o t (λz=>m (.inl (.inr z))) e,d7.sub,λb n t=>(d7.new b t).elim id λz=>absurd z n,λ_ _ z=> .inl z⟩;have sr7:=R.swap no4 U mv7;have va7:Gb M (λa=>mt B j τ a\/a=D) H7:=⟨U.tp,U.bm⟩;obtain⟨sc7,no7⟩:=sr7.cut (own:=own2) no4;have w2:=walk2 (λa=>mt B j τ a\/a=D) M H7 mv7' va7 (.inl rfl);by_cases m8:G<ys.length
    .have iF:ys[G]? =some ys[G] :=AAT m8;rw[ABh m8] at h7;refine .inr ⟨w2.go G _ iF,λv8 H8 yl8=> ?_⟩;obtain⟨s8,r8⟩:=w2.yld G _ v8 H8 iF yl8;have W:=sc7.stp s8;refine qk _ M _ _ H8 v8 _ _ _ W (r8.mv (.anti ⟨W.tp,W.bm⟩ λa z=>z.elim id λz=>absurd z (no7 a))) h7 λσ9 τ9 sr9 o9 h9=> ?_;refine rB _ M σ9 τ9 H8 _ _ sr9 h9 λok T10 gz p pH=> ?_;have A:=sr9.stp p;have qZ:=s8.keep D _ S qY;have eT:=p.keep D _ S qZ;have X:¬T10 D:=λz=>(p.new D z).elim S λn=>by rw[n] at qZ;cases qZ
     have r10:=(r7.stp s8 va7).stp p ⟨W.tp,W.bm⟩;cases ok with
     | false=> rw[AAD AAQ] at pH ⊢;exact⟨_,by omega,rfl,T10,f,c,(s7.trans s8).trans p,(d7.trans s8.atD).trans p.atD,eT,X,r10,by omega,pH⟩
     | true=>
       rw[AAE rfl] at pH ⊢;refine he _ T10 σ9 τ9 gz _ _ A pH λvy y I lZ L r11 wq=> ?_;have C:=A.stp L;have qW:=L.keep D _ X eT;have nt11:¬I D:=λz=>(L.new D z).elim X λn=>by rw[n] at eT;cases eT
       have va11:Gb I (λa=>mt B j τ a\/a=D) lZ:=⟨C.tp,C.bm⟩;have r12:=r10.stp L ⟨A.tp,A.bm⟩;have s12:=((s7.trans s8).trans p).trans L;have tp13:∀a,I a->Ek (upd lZ D (.lst (f ++ [vy]))) a:=λa t=>by obtain⟨d,x,e,z⟩:=C.tp a t;exact⟨d,x,by rw[Aa (λw=>by subst w;exact nt11 t)];exact e,z⟩
       have mv13:Mv K I (λa=>mt B j τ a\/a=D) lZ I (λa=>mt B j τ a\/a=D) (upd lZ D (.lst (f ++ [vy]))):=⟨va11,λb o _ m e=>by rw[Aa (λw=>m (.inr w))];exact e,λ_ t=>t,λ_ _ t=>t,λ_ _ z=>z⟩;refine⟨f,qW,by rw[r7.length];omega,_,(by omega:ys.length-(G+1)<ys.length-G),rfl,I,f ++ [vy],c ++ [y],⟨λb o t e=> ?_,s12.sub,s12.new,tp13⟩,((((d7.trans s8.atD).trans p.atD).trans L.atD).trans .upd),Ad,nt11,(r12.append (.cons (r11.mv (.anti C.va λa z=> .inl z)) .nil)).mv mv13,by simp;omega,wq⟩;rw[Aa (Ah e hD)];exact s12.keep b o t e
    .rw [ACG (as:=ys) (i:=G) (by omega)] at h7;exact .inl ⟨w2.stop G (by omega),_,(by omega:xs.length-(i+1)<xs.length-i),rfl,M,f,c,s7,qY,S,r7,h7⟩
 .rw [ACG (by omega)] at h2;refine .inl ⟨w.stop i (by omega), ?_⟩;exact k D vs r T2 H2 (s1.trans s2) (E.add s2 hD XO Kv.lst F) (s1.none hD) XO F (r2.mv (.anti va2 λa z=>by
   rcases z with(z|z)|z
   .exact .inl (.inl z)
   .exact .inr z
   .exact .inl (.inr z))) h2
def rG (K:AAB)(s:zq)(a:AI):TI:=λf H R=>∃(B:C3) (T:zu->Prop) (τ:A6) (g:zy PV->Prop),SR K B T H f τ/\a τ g/\
 ∀J xs d b,DB T H d b->(∀M2 e c,Mv K d (mt B f τ) b e M2 c->Gb e M2 c->(s=true\/Ww d b c)->S2 K M2 J xs e c)->g xs->R J b
def gR {K:AAB}{s:zq}{a:AI}:YW K s (rG K s a) a:=λB T d τ H R b c h k=>⟨B,T,τ,b,c,h,k⟩
section
variable {X:Cx}
def SI.of {b iter:zr}{s:zq}{a:AI}(h:SI X b iter s a):PI X b iter (rG X.K s a):=by obtain⟨t,p,e⟩:=h;intro zj f d H R I hw;obtain⟨B,T,τ,g,i,h,c⟩:=hw;exact p zj f d H R I (e B T d τ H R g i h c)
structure Zq (X:Cx) (tg elt:Expr) (ifs:List Expr) (tg2 iter2:Expr) (ifs2:List Expr) (scope:Scope) (own:Nat) (ix:List Nat) (N:List Str) (g:AG) (t:AT) (ai2:AI) (own2:Nat) (g2:AG) (t2:AT) (te:AE):Prop where
 ex:∃g' t' wi2 g2' t2' te',MW X tg elt ifs tg2 iter2 ifs2 scope own ix N g' t' wi2 own2 g2' t2' te'/\Ky X.K g' g/\NV X.K t' t/\YW X.K true wi2 ai2/\Ky X.K g2' g2/\NV X.K t2' t2/\GX X.K te' te
def cm {h c iter d a:zr}{e b:zy zr}{scope:Scope}{i:Pos}{own own2:Nat}{ix:zy Nat}{N:zy Str}{g m:AG}{t n:AT}{s:zq}{o f:AI}{p:AE}(hc:X.calm=true)(hi:SI X h iter s o)(O:Zq X h c e d a b scope own ix N g t f own2 m n p)(hs:∀x,foldedSetIterable iter X.env x=pure x:=by intro _;rfl):SF X (.ListComp c [⟨h,iter,e,0⟩,⟨d,a,b,0⟩] scope i) (NX o own ix g t f own2 m n p):=by obtain⟨C,r,u⟩:=hi;obtain⟨g',t',v,w,y,z,O,A,st,j,k,l,B⟩:=O.ex;exact⟨_,bZ hc r O hs,ZQ u A st j k l B⟩
def eF {o e c a:zr}{f b:zy zr}{scope:Scope}{own own2:Nat}{ix:zy Nat}{N:zy Str}{g k:AG}{t l:AT}{d:AI}{te:AE}(h1:scope.kind= .function)(h2:(scope.names.all λy=> !decide (y.2= .cell))=true)(p:(scope.names.all λy=> !decide (y.2= .local)||decide (scope.names.lookup y.1=some .local))=true)(r:(scope.names.all λy=> !decide (y.2= .free)||decide (X.env.scope.names.lookup y.1=some .cell))=true)(u:N.length=own+ix.length)(v:Qw X (relabel scope X.env) own ix N=true)(w:own2<=own)(m:∀cl C s H ex pn,SK own (blk X (relabel scope X.env) N cl C s H ex pn) o g)(n:∀cl C s H ex pn,i8 (blk X (relabel scope X.env) N cl C s H ex pn) f t)(h:∀cl C s H ex pn,SI (blk X (relabel scope X.env) N cl C s H ex pn) c a true d)(i:∀cl C s H ex pn,SK own2 (blk X (relabel scope X.env) N cl C s H ex pn) c k)(j:∀cl C s H ex pn,i8 (blk X (relabel scope X.env) N cl C s H ex pn) b l)(val:∀cl C s H ex pn,SE (blk X (relabel scope X.env) N cl C s H ex pn) e te)(z:∀cl C s H ex pn x,foldedSetIterable a (blk X (relabel scope X.env) N cl C s H ex pn).env x=pure x:=by intro _ _ _ _ _ _ _;rfl):Zq X o e f c a b scope own ix N g t d own2 k l te:=
 have O:=Qq (te:=mZ X.K te) h1 h2 p r u v (N0 (K:=X.K) (ag:=g)) (λcl C s H ex pn=>(m cl C s H ex pn).of) (λcl C s H ex pn=>(n cl C s H ex pn).of) (λcl C s H ex pn=>(val cl C s H ex pn).of)
 ⟨lj X.K own g,ou X.K t,rG X.K true d,lj X.K own2 k,ou X.K l,mZ X.K te,⟨O.kind,O.nocell,O.names,O.frees,O.ins,O.keep,N0,w,O.tgt,O.tst,λcl C s H ex pn=>(h cl C s H ex pn).of,z,λcl C s H ex pn=>(i cl C s H ex pn).of,λcl C s H ex pn=>(j cl C s H ex pn).of,O.val⟩,R9,SC,gR,R9,SC,X5⟩
end
end PL
namespace PL
open PySem L2 PyProof.Rows
section
variable {ai ai2:AI}{g g2:AG}{tt t2:AT}{te:AE}{τ τ':A6}{QL:zy PV->Prop}{own own2:Nat}{ix:zy Nat}
instance{a b:A6}[h1:mS own a][h2:mI ix τ b][c:Zn a b τ'] :Wp (NX ai own ix g tt ai2 own2 g2 t2 te τ QL) (ai τ λxs=>Ig g tt ai2 own2 g2 t2 te τ' QL xs []):=⟨λk=>by unfold NX Jo;rw[h1.e,h2.e,c.e];exact k⟩
instance{i:Nat}{a b:AE}{nx bk ct:A6->Prop}{rt:PV->Prop}:Wp (jF i a b ⟨nx,rt,bk,ct⟩ τ) (b τ λy=>MH i τ λxs=>a τ λk=>V6 k λk=>ni (Vp xs.length k) λj=>WO τ i (.own (xs.set j y)) nx):=⟨id⟩
theorem TB (d:zy PV->zy PV->Prop)(hd:∀a,d [] a->QL a)(hs:∀x r a (R:zy PV->Prop),(∀b,d r b->R b)->d (x::r) a->g x τ λc=>tt c λok=>if ok=true then ai2 c λys=>a.length+ys.length<sizeLine/\CJ g2 t2 te (Qr own2 c) R ys a else R a):∀xs a,d xs a->Ig g tt ai2 own2 g2 t2 te τ QL xs a
 | [],a,h=>hd a h
 | x::r,a,h=>hs x r a _ (λb h2=>TB d hd hs r b h2) h
theorem aD {r:A6}:∀(ys a:zy PV),QL (a++ys)->CJ (An 0) Dg (aV 0) (none::r) QL ys a
 | [],a,h=>by rw[ABP] at h;exact h
 | y::ys,a,h=>aD ys (a ++ [y]) (by rw[ADg];exact h)
end
end PL
namespace L2
open PySem PySem.Spec PyProof.Rows
def wb {P:zp}{w:zm}{h:zl}{d:zu}{o:Obj}{es:Array DictEntry}{ep:Nat}{vs:zy (Cr×zx)}(g:h.get? d=some o)(e:o.data= .dict es ep)(x:h.DictOf (A8 P w) d vs):h.DictAt (A8 P w) d vs ep:=by obtain⟨i,b,f,g',c,a,r⟩:=x;rw[g] at g';cases g';rw[e] at a;cases a;exact⟨o,es,g,c,e,r⟩
def Ul (H:Hp)(d:zu)(n ep:Nat)(kvs:zy (Cr×V)):Prop:=∃o es,H d=some (.frz o (.dK kvs))/\o.data= .dict es ep/\kvs.length=n
def Itm (d:zu)(n ep:Nat):It:=
 ⟨λi H=>∃kvs k x,Ul H d n ep kvs/\kvs[i]? =some (k,x),
  λi H v a=>∃T k x,v= .ref T/\H T=none/\a=upd H T (.tup [kV k,x])/\∀kvs,Ul H d n ep kvs->kvs[i]? =some (k,x),
  λi H=>∃kvs,Ul H d n ep kvs/\kvs.length<=i⟩
def Ul.one {H:Hp}{d:zu}{n ep:Nat}{a b:zy (Cr×V)}(x:Ul H d n ep a)(y:Ul H d n ep b):a=b:=by obtain⟨o,es,e,_⟩:=x;obtain⟨g,f,c,_⟩:=y;rw[e] at c;cases c;rfl
def Ul.at {X:Cx}{zj:zy (zu×Obj)}{b:St}{H:Hp}{s:zw}{d:zu}{n ep:Nat}{kvs:zy (Cr×V)}(I:Inv X zj b H s)(x:Ul H d n ep kvs):∃vs,KV kvs vs/\s.heap.DictAt (A8 X.prog X.w) d vs ep:=by obtain⟨o,es,e,c,_⟩:=x;obtain⟨g,z,hd,vs,a,f⟩:=(show CI X.prog X.w H s.heap d (.frz o (.dK kvs)) from I.hok d _ e);exact⟨vs,a,wb g c f⟩
def jm {P:zp}{w:zm}{k:Cr}{u:zx}(h:(A8 P w).is k u=true):RelV (kV k) u:=by
 rcases Bp h with⟨i,t,rfl,rfl⟩|⟨x,t,rfl,rfl⟩
 .exact ⟨_,rfl⟩
 .exact ⟨_,rfl⟩
def js {kvs:zy (Cr×V)}{vs:zy (Cr×zx)}(r:KV kvs vs):∀{i:Nat} {k:Cr} {x:V},kvs[i]? =some (k,x)->∃u,vs[i]? =some (k,u)/\RelV x u:=by
 unfold KV at r;induction r with
 | nil=>intro i k x h;simp at h
 | @cons p q c qs h t ih=>
   intro i k x e;cases i with
   | zero=> simp at e;subst e;obtain⟨d,a⟩:=q;obtain⟨h1,h2⟩:=h;exact⟨a,by simp at h1;simp[h1],h2⟩
   | succ i=> obtain⟨u,hu,b⟩:=ih (i:=i) (k:=k) (x:=x) (by simpa using e);exact⟨u,by simpa using hu,b⟩
def PD:entryFor table "dict_itemiterator.__iter__" =some Builtin.«dict_keyiterator.__iter__»:=
 entryFor_alias (id':="dict_keyiterator.__iter__") (by kernel_rfl) (by first | rfl|decide +kernel|(unfold String.splitOn;simp +decide [String.splitOnAux])) (by decide +kernel) (by kernel_rfl)
def PP {prog:zp}{w:zm}{A:zk}{E:zx->zw->Prop}{s:zw}{it d:zu}{k n ep:Nat}{ok b:zx}{Q:zx->zw->Prop}(he:IsItemIter s.heap it d k n ep ok b)(h:Q (.ref it) s):wpAny (model prog w) A (pyIter (.ref it)) Q E s:=by have a:s.TypeIs (.ref it) "dict_itemiterator" :=⟨_,he,rfl⟩;refine wpAny_pyIter_slot a ADx (AA4 ADx a PD ?_ (F.args_dict_itemiterator_iter_1 _));show wpAny _ _ (ret (.ref it)) _ _ s;exact AAC ⟨_,rfl,"dict_itemiterator",_,a,F.slot_dict_itemiterator_next.lookup,h⟩
def Wk {P:zp}{w:zm}{K:AAB}{es:zy zr}{F:Nat}{j:Pos}{it d:zu}{n ep:Nat}:Ib P w K (.Tuple es F j) (Itm d n ep) [it] it (λk h=>∃ok c,IsItemIter h it d k n ep ok c) where
 mem:=by simp
 obj:=λk h st p hp=>by
  obtain⟨ok,c,he⟩:=st;have b:p=it:=by simpa using hp
  subst b;exact⟨_,he,λv z=>nomatch z⟩
 keep:=λk h h' st l=>by obtain⟨ok,c,he⟩:=st;exact⟨ok,c,l it (by simp) _ he⟩
 item:=by
  intro X m hw r hc k zj s B H E I i st t;subst m hw r;obtain⟨ok,c,he⟩:=st;obtain⟨kvs,y,x,hq,hx⟩:=t;obtain⟨vs,a,A⟩:=hq.at I;have hl:vs.length=n:=by obtain⟨_,_,_,_,e⟩:=hq;rw[<-e];exact a.length.symm
  subst hl;obtain⟨u,hu,G⟩:=js a hx;have f:it<s.heap.objs.size:=AAG he;refine wpAny_pyNext_items_item he A hu λkey h1 J L M T N=> ?_;refine⟨_,rfl,wpAny_letOwnedTupleGo_items (s:={s with heap:=h1}) L λh2 O Q=> ?_⟩;have g:∀p o,p≠it->h1.get? p=some o->h2.get? p=some o:=λp o q z=>Q.extBut _ _ q z;have C:∀p∈ [it],p<s.heap.objs.size:=λp hp=>by
   have b:p=it:=by simpa using hp
   rw[b];exact f
  have l:∀p o,p ∉ [it] ->s.heap.get? p=some o->h2.get? p=some o:=λp o hp z=>by
   have b:p≠it:=by simpa using hp
   exact g p o b (N p o b z)
  have R:Inv X zj B (upd H s.heap.objs.size (.tup [kV y,x])) {s with heap:=h2,toks:=s.toks}:=I.turnedN i C l (AAJ _)
   ⟨(by show 2<=sizeLine;decide), [key,u], .cons (jm J) (.cons G .nil),⟨_,g _ _ (AAt f) M,rfl,_,rfl⟩⟩
  refine⟨.ref s.heap.objs.size,upd H s.heap.objs.size (.tup [kV y,x]),R,rfl,⟨_,y,x,rfl,I.fresh,rfl,λD h'=> ?_⟩,⟨key,u,O⟩,λp hp=> ?_⟩
  .rw [h'.one hq];exact hx
  .rw [Aa (AAL (C p hp))];exact(i p hp).1
 done:=by
  intro X m hw r hc k zj s B H E I i st t;subst m hw r;obtain⟨ok,c,he⟩:=st;obtain⟨kvs,hq,hx⟩:=t;obtain⟨vs,a,A⟩:=hq.at I;have hl:vs.length=n:=by obtain⟨_,_,_,_,e⟩:=hq;rw[<-e];exact a.length.symm
  have U:=a.length;subst hl;refine wpAny_pyNext_items_end (I.ok.hd hc) he A (by rw[ADE];omega) λh' S=>⟨rfl, ?_⟩;exact I.turnedL (t':=s.toks) i λp o hp z=>by
   have b:p≠it:=by simpa using hp
   exact S p o b z
 self:=λ_ _ _ _ _ st h=>by obtain⟨ok,c,he⟩:=st;exact PP he h
section
variable {X:Cx}
def UR {e:zr}{te:TE}{apos f j:Pos}{es:zy zr}{B:Nat}(he:PE X e te)(hb:attributeBase e "items" X.env (eval e X.env)=eval e X.env)(C:((backTo f (starEach [] X.env)).all (λx=> !x.1)&&(backToKw f (keywordEach [] X.env)).all (λx=>x.1.isSome)&&decide (([] :zy zr).length+([] :zy Keyword).length+(if ([] :zy Keyword).isEmpty then 0 else 1)<30))=true)(hl:(apos.endLine==f.line)=true)(D:backTo f (starEach [] X.env)= []):PI X (.Tuple es B j) (.Call (.Attribute e "items" apos) [] [] f) (λm H R=>te m H λv H1=>∃d n ep kvs,v= .ref d/\Ul H1 d n ep kvs/\R (Itm d n ep) H1):=by
 intro zj s m H R I h;refine ADZ hb C hl ADa ADy PySem.F.type_dict_items (BM (he zj s m H _ I h) λu i ⟨x,H1,k,E,d,n,ep,kvs,ex,t,G⟩=> ?_);subst ex;obtain rfl:u=Value.ref d:=E;obtain⟨vs,y,z⟩:=t.at k;have J:vs.length=n:=by obtain⟨_,_,_,_,e⟩:=t;rw[<-e];exact y.length.symm
 obtain⟨o,K,L,S,_⟩:=id t;obtain⟨M,N,O⟩:=az k (.inl ⟨kvs, .inr ⟨o,L⟩⟩);have A:i.heap.DictOf (A8 X.prog X.w) d vs:=let ⟨o,es,a,b,c,r⟩:=z;⟨o,es,ep,a,b,c,r⟩;refine⟨M,N, ?_⟩;rw[D];refine ACe rfl (PySem.evalArgs_none ?_);refine AC1 ADy A.typeIs PySem.F.entry_dict_items (PySem.F.args_dict_items_1 _) (meets_dict_items (A8 X.prog X.w) d O) ⟨⟨vs,A⟩, ?_⟩;have P:(i.heap.push {cls:= .type "dict_items",data:= .fields #[.ref d] }).DictAt (A8 X.prog X.w) d vs ep:=by obtain⟨o,es,g,r⟩:=z;exact⟨o,es,AAH _ g,r⟩
 refine wpAny_pyIter_items (s:={i with heap:=i.heap.push {cls:= .type "dict_items",data:= .fields #[.ref d] }}) (knd:=A8 X.prog X.w) (d:=d) ?_ P ?_
 .exact ⟨_,AAS _ rfl,rfl,rfl⟩
 subst J;have l:(i.heap.push {cls:= .type "dict_items",data:= .fields #[.ref d] }).objs.size=i.heap.objs.size+1:=ABI ..;refine⟨_, [i.heap.objs.size+1],_,_,H1,congrArg Value.ref l,k.kept (t':=i.toks) λb T q=>AAH _ (AAH _ q),Wk,⟨.none, .none, ?_⟩,λp hp=> ?_,G⟩
 .have:=AAS (i.heap.push {cls:= .type "dict_items",data:= .fields #[.ref d] }) (o:={cls:= .type "dict_itemiterator",data:= .fields #[Value.none,Value.bool false,Value.ref d,Value.int 0 0,Value.int (vs.length:Int) 0,Value.int (ep:Int) 0,Value.none,Value.none] }) rfl;rw[l] at this;exact this
 .have Q:p=i.heap.objs.size+1:=by simpa using hp
  subst Q;exact k.fpOk (ADf _ _) (k.hok.fresh (ADf _ _))
end
end L2
namespace PL
open PySem PySem.Spec PyProof.Rows L2
section
variable {X:Cx}
def lM (a:zy (TE×TE)):TE:=λd H Q=>∀p,H p=none->Wd a d (upd H p (.dK [])) λe b=>b p=some (.dK [])/\∃kvs:zy (Cr×V),e=kvs.map (λc=>(kV c.1,c.2))/\kvs.length<=15/\∀o es ep,o.data= .dict es ep->Q (.ref p) (upd b p (.frz o (.dK (N4 [] kvs))))
def bg {b:Pos}{keys:zy (zt zr)}{values:zy zr}{d:zy (TE×TE)}(h:pB X b keys values d)(k:keys.all (·.isSome)=true)(hl:keys.length=values.length)(l:keys≠ [])(m:keys.length<=15):PE X (.Dict keys values b) (lM d):=by
 intro zj s n H Q I q;have p:=I.hok.fresh (AAJ s.heap.objs.size);have r:=I.laid (a:=s.heap.objs.size) (o:= .dK []) (h':=s.heap.push {cls:= .type "dict",data:= .dict #[] }) (t':=s.toks) (λ_ _ q=>AAH _ q) (AAJ _) (TJ s.heap I.big);refine wpAny_Dict_walk (knd:=A8 X.prog X.w) k hl l m (BM (h zj _ n _ _ r (q _ p)) λC D ⟨E,F,i,g,e,kvs,ep,G,t⟩=> ?_);subst ep;obtain⟨u,c,v⟩:=Ng (P:=X.prog) (w:=X.w) g;obtain⟨z,hd,x,y,A⟩:=XE i.hok e;cases y;have hz:(N4 [] kvs).length<=sizeLine:=by have h1:=IN kvs [];rw[AC0] at h1;rw[sizeLine_eq];omega
 refine⟨u,c,A,λh' f hs=> ?_⟩;obtain⟨o,es,ep,j,B⟩:=id f;refine⟨.ref s.heap.objs.size,_, ?_,rfl,t o es ep B.2.1⟩;exact Hd i (by rw[e];exact True.intro) hs ⟨o,j⟩ ⟨j,Qt hz hd (v.merge .nil) f⟩
def gg {T c:zu->Prop}{H f:Hp}{d:zu}{o:HO}(s:DB T H c f)(hd:H d=none)(g:¬c d):DB T H c (upd f d o) where
 keep b q t e:=by
  have n:b≠d:=λz=>by subst z;rw[hd] at e;cases e
  rw[Aa n];exact s.keep b q t e
 sub:=s.sub
 new:=s.new
 tp a t:=by
  have n:a≠d:=λz=>by subst z;exact g t
  obtain⟨x,y,e,r⟩:=s.tp a t;exact⟨x,y,by rw[Aa n];exact e,r⟩
def Z3 (a b:AE):AE:=λτ Q=>a τ λx=>b τ λy=>match x,y with | .int i, .int j=>Q (.dk [(i,j)])|_,_=>False
def ku {a b:zr}{u w:AE}{p:Pos}(ha:SE X a u)(hb:SE X b w):SE X (.Dict [some a] [b] p) (Z3 u w):=by
 obtain⟨t,E,s⟩:=ha;obtain⟨t',h,F⟩:=hb;refine⟨_,bg (cD E h gB) rfl rfl (List.cons_ne_nil _ _) (AAs rfl),λB T y τ H Q O k q G=> ?_⟩;intro d hd;have c:DB T H T (upd H d (.dK [])):=DB.lay k.tp hd;have f:=k.stp c;have A:¬T d:=λz=>by obtain⟨o,e,_⟩:=(k.tp d z).mut;rw[hd] at e;cases e
 refine s B T y τ _ _ _ f q λv x I H1 l J K=>F B I y τ _ _ _ (f.stp l) K λP R C L D M m=> ?_;split at m <;> first | exact m.elim|skip
 rename_i i j;cases J;cases M;have n:L d=some (.dK []):=(l.trans D).keep _ _ A Ad;have g:=l.trans D;have r:¬C d:=λz=>by
  rcases g.new d z with z|z
  .exact A z
  .rw [Ad] at z;cases z
 refine⟨n, [(.inl i, .int j)],rfl,AAs rfl,λo es ep N=> ?_⟩;exact G _ _ C _ (gg (c.trans g) hd r) (.dk (kvs:= [(i,j)]) Ad N) m
end
end PL
namespace L2
open PySem PySem.Spec PyProof.Rows
def Qs (J:It)(D:zu)(σ0:St)(g:TG)(f:TT)(h j:TE)(Q:Hp->Prop)(W:Nat->Nat->Hp->Prop):Prop:=
 ∀i m H,W i m H->(J.stop i H/\Q H)\/(J.go i H/\∀x c,J.yld i H x c->g x σ0 c λa l=>f a l λok d=>
  if ok=true then h a d λy n=>j a n λz e=>∃k kvs,y=kV k/\e D=some (.dK kvs)/\kvs.length<sizeLine/\∃b,b<m/\W (i+1) b (upd e D (.dK (D3 kvs k z))) else ∃b,b<m/\W (i+1) b d)
def dH (b:TI)(own:Nat)(ix:zy Nat)(g:TG)(c:TT)(d e:TE):TE:=λa H Q=>b a H λJ H1=>∀D,H1 D=none->
 ∃W:Nat->Nat->Hp->Prop,(∃m,W 0 m (upd H1 D (.dK [])))/\Qs J D (Bo own ix a) g c d e (Q (.ref D)) W
section
variable {X:Cx}{tg kx vx iter:zr}{ifs:zy zr}{scope:Scope}{pos:Pos}{wi:TI}{own:Nat}{ix:zy Nat}{N:zy Str}{g:TG}{tt:TT}{tk tv:TE}
def VP {zj:zy (zu×Obj)}{P:St}{H:Hp}{s:zw}{fp:zy zu}{cl:zy (Str×zu)}{it:zu}{tn:Nat->zl->Prop}{J:It}{D:zu}{R:Result->zw->Prop}{Qh:Hp->Prop}{W:Nat->Nat->Hp->Prop}(hc:X.calm=true)(O:Fv X tg kx ifs scope own ix N g tt tk)(OV:∀cl C s H ex pn,PE (blk X (relabel scope X.env) N cl C s H ex pn) vx tv)(T:Ib X.prog X.w X.K tg J fp it tn)(I:Inv X zj P H s)(hf:∀b∈fp,EO X zj H b)(EG:∀b∈fp,b<s.heap.objs.size)(hW:Qs J D (Bo own ix P) g tt tk tv Qh W)(hR:∀σ' a S,Inv (blk X (relabel scope X.env) N cl s.heap.objs.size s H fp (X.pn++zj)) [] σ' a S->Qh a->R (.ok .next) S)(n:Nat)(s0:zw)(h0:∃i a,Inv (blk X (relabel scope X.env) N cl s.heap.objs.size s H fp (X.pn++zj)) [] (Bo own ix P) a s0/\tn i s0.heap/\(∀b∈fp,a b=none)/\W i n a):codeAny (model X.prog X.w) X.A (.compLoop (.DictComp kx vx [⟨tg,iter,ifs,0⟩] scope pos) 0 (.ref it) (.ref D) (FJ X.env (relabel scope X.env) cl s.heap.objs.size)) R s0:=by
 refine ACh rfl (λn S=>∃i a,Inv (blk X (relabel scope X.env) N cl s.heap.objs.size s H fp (X.pn++zj)) [] (Bo own ix P) a S/\tn i S.heap/\(∀b∈fp,a b=none)/\W i n a) (λn s1 h1=> ?_) n h0;obtain⟨i,H1,B1,U,Z,w1⟩:=h1;generalize f:blk X (relabel scope X.env) N cl s.heap.objs.size s H fp (X.pn++zj)=Y at *;have eA:Y.A=X.A:=by rw[<-f];rfl
 have eP:Y.prog=X.prog:=by rw[<-f];rfl
 have eW:Y.w=X.w:=by rw[<-f];rfl
 have eK:Y.K=X.K:=by rw[<-f];rfl
 have eE:FJ X.env (relabel scope X.env) cl s.heap.objs.size=Y.env:=by rw[<-f];rfl
 have eX:Y.xe=λ_ _=>False:=by rw[<-f];rfl
 have eC:Y.calm=true:=by rw[<-f];exact hc
 have hg:PG Y tg g:=by rw[<-f];exact O.tgt _ _ _ _ _ _
 have ht:YU Y ifs tt:=by rw[<-f];exact O.tst _ _ _ _ _ _
 have hk:PE Y kx tk:=by rw[<-f];exact O.val _ _ _ _ _ _
 have hv:PE Y vx tv:=by rw[<-f];exact OV _ _ _ _ _ _
 have l:∀{a:Hp},(∀b∈fp,a b=none)->∀b∈fp,EO Y [] a b:=λ{a} hn b hb=>by
  obtain⟨_,a1,a2,a3,a4,a5⟩:=hf b hb;refine⟨hn b hb, ?_, ?_, ?_, ?_, ?_⟩
  .rw [<-f];exact AAL (EG b hb)
  .rw [<-f];exact I.notStk a1 a2
  .rw [<-f];exact .inl hb
  .intro x c e;exact(B1.ok.exf b (by rw[<-f];exact hb)).2 x c e
  .intro p hp;have:p∈X.pn++zj:=by rw[<-f] at hp;simpa[blk] using hp
   exact a5 p this
 rw[eE,<-eA,<-eP,<-eW];show wpAny _ _ ((compTurn (.DictComp kx vx [⟨tg,iter,ifs,0⟩] scope pos) 0 (.ref it) (.ref D) Y.env).onRaise (λx=>do noteFrame x Y.env;theTreesLotGoes x)) _ _ s1;refine ACi ?_;rw[compTurn_dict];have ff:∀{α:Type} {t:Sem α} {Q:α->zw->Prop} {E:zx->zw->Prop} {s:zw},wpAny (model Y.prog Y.w) Y.A t Q Y.xe s->wpAny (model Y.prog Y.w) Y.A t Q E s:=λh=>AA5 h (λ_ _ q=>q) λ_ _ z=>by rw[eX] at z;exact z.elim
 refine AAA (AAy (AAA ?_));rcases hW i n H1 w1 with⟨stop,qn⟩|⟨go,step⟩
 .have zd:=λE=>T.done Y eP eW eK eC i [] s1 _ H1 E B1 (l Z) U stop;rw[<-eP,<-eW] at zd;refine BM (zd _) λr s4 ⟨hr,I4⟩=> ?_;subst hr;exact AAC (hR _ _ _ I4 qn)
 .have zi:=λE=>T.item Y eP eW eK eC i [] s1 _ H1 E B1 (l Z) U go;rw[<-eP,<-eW] at zi;refine BM (zi _) λr s4 ⟨u,hr,h4⟩=> ?_;subst hr;refine AAA (BM h4 λ_ s5 ⟨x,H5,I5,r5,y5,F,fr5⟩=> ?_);have I5':=I5.pinned (l fr5) (T.obj _ _ F);refine AAA (BM (ff (hg _ s5 _ H5 x u _ I5' r5 (O.keep _ _ _ _ (step x H5 y5)))) λ_ s6 ⟨B,H6,I6,q6,l6,k6⟩=> ?_);refine AAA (BM (ff (ht _ s6 B H6 _ I6 q6)) λok s7 ⟨H7,I7,q7⟩=> ?_);have back:∀{G:Hp} {L:zw} {M:Nat},Inv Y ([] ++ FP fp s5.heap) B G L->M<n->W (i+1) M G->
   ∃m,m<n/\∃i a,Inv Y [] (Bo own ix P) a L/\tn i L.heap/\(∀b∈fp,a b=none)/\W i m a:=λ{G L M} I8 hm w8=>by
   refine⟨M,hm,i+1,G,I8.unpinned.weak l6.symm (λj v hj=> ?_),T.keep _ _ _ F λb hb o e=>(I8.pin (b,o) (AAW _ (AAW _ (CC hb e)))).1,λb hb=> ?_,w8⟩
   .rw [k6 j (Fy hj).1];exact hj
   .obtain ⟨o,e,d⟩:=T.obj _ _ F b hb;exact(I8.pin (b,o) (AAW _ (AAW _ (CC hb e)))).2.1
  cases ok with
  | false=> obtain⟨M,hm,w8⟩:=q7;exact AAC ⟨rfl,back I7 hm w8⟩
  | true=>
    refine AAA (AAA (BM (ff (hk _ s7 B H7 _ I7 q7)) λkv L ⟨y,G,I8,r8,q8⟩=> ?_));refine AAA (AAl (BM (ff (hv _ L B G _ I8 q8)) λvv s9 ⟨z,H9,I9,r9,k,kvs,ey,hD,hz,M,hm,w9⟩=> ?_));subst ey;refine AAA (AAy (AAl ?_));obtain⟨z1,w4,vs,rel,dd⟩:=XE I9.hok hD;have xk:vs.length<=sizeLine:=by rw[<-rel.length];exact z1
    have hl:(D3 kvs k z).length<=sizeLine:=by have:=EH kvs k z;omega
    refine wpAny_dictSet_pairs (hsz:=xk) (Tl r8) dd λh' dd' hs=> ?_;have he:∃q,h'.get? D=some q:=let ⟨q,_,_,hq,_⟩:=dd';⟨q,hq⟩;have I10:=Hd (t':=s9.toks+1) I9 (by rw[hD];exact True.intro) hs he (Qt hl w4 (rel.put k r9) dd');exact AAC ⟨rfl,back I10 hm w9⟩
def Yk {zj:zy (zu×Obj)}{u:St}{H:Hp}{s:zw}{use:zt (zx->Sem Unit)}{Q:zx->zw->Prop}{it:zu}{fp:zy zu}{cl:zy (Str×zu)}{tn:Nat->zl->Prop}{J:It}{Qd:zu->Hp->Prop}(hc:X.calm=true)(O:Fv X tg kx ifs scope own ix N g tt tk)(P:∀cl C s H ex pn,PE (blk X (relabel scope X.env) N cl C s H ex pn) vx tv)(T:Ib X.prog X.w X.K tg J fp it tn)(I:Inv X zj u H s)(R:∀b∈fp,EO X zj H b)(st:tn 0 s.heap)(h1:∀y c,cl.lookup y=some c->X.env.cells.lookup y=some c)(h2:∀y,(y,NameKind.free)∈scope.names->∃c,cl.lookup y=some c)(hq:∀D,H D=none->∃W:Nat->Nat->Hp->Prop,(∃m,W 0 m (upd H D (.dK [])))/\Qs J D (Bo own ix u) g tt tk tv (Qd D) W)(S:∀D C j k,(∃m,k.heap.Ns C m)->Inv X zj u j k->(∀h v,Inv X zj h j v->∀h',Heap.SameBut C v.heap h'->Inv X zj h j {v with heap:=h'})->C≠X.env.locals->(∀x c,X.env.cells.lookup x=some c->C≠c)->Qd D j-> compPost (model X.prog X.w) X.A X.xe use Q (.ref D) C (.ok .next) k):wpAny (model X.prog X.w) X.A (newDict #[]) (λl n=>wpAny (model X.prog X.w) X.A (newFunctionEnv scope X.env.globals cl [] X.env.qual none .none (some X.env)) (λf p=> codeAny (model X.prog X.w) X.A (.compStart (.DictComp kx vx [⟨tg,iter,ifs,0⟩] scope pos) 0 (.ref it) l {f with scope:=relabel scope X.env}) (compPost (model X.prog X.w) X.A X.xe use Q l f.locals) p) X.xe n) X.xe s:=by
 refine AAz ?_ (by simp[sizeOk]);have i:Inv X zj u (upd H s.heap.objs.size (.dK [])) {s with heap:=s.heap.push {cls:= .type "dict",data:= .dict #[] }}:=I.laid (a:=s.heap.objs.size) (o:= .dK []) (t':=s.toks) (λ_ _ q=>AAH _ q) (AAJ _) (TJ s.heap I.big);have U:=I.fresh;obtain⟨W,⟨m0,Y⟩,Z⟩:=hq _ U;have av:∀b∈fp,b<s.heap.objs.size:=λb hb=>by obtain⟨o,e,_⟩:=T.obj _ _ st b hb;exact AAG e
 have E:∀b∈fp,EO X zj (upd H s.heap.objs.size (.dK [])) b:=λb hb=>by obtain⟨a0,ar⟩:=R b hb;exact⟨by rw[Aa (AAL (av b hb))];exact a0,ar⟩
 generalize nH:({s with heap:=s.heap.push {cls:= .type "dict",data:= .dict #[] }}:zw)=s3 at i;have r:tn 0 s3.heap:=T.keep _ _ _ st λb hb o e=>by rw[<-nH];exact AAH _ e
 have F:∀b∈fp,b<s3.heap.objs.size:=λb hb=>by obtain⟨o,e,_⟩:=T.obj _ _ r b hb;exact AAG e
 refine ADQ O.nocell (by intro y hy;simp at hy) (λd iG nI=> ?_) O.kind;have M:∀b o,s3.heap.get? b=some o->d.get? b=some o:=λb o e=>nI.extBut b o (AAL (AAG e)) (AAH _ e);have df:∀y,((relabel scope X.env).names.lookup y=some .cell\/(relabel scope X.env).names.lookup y=some .free)->∃c,cl.lookup y=some c:=λy hy=>by
  rcases hy with z|z
  .exact h2 y (Dc O.nocell (G5 z) (.inl rfl))
  .exact h2 y (Dc O.nocell (G5 z) (.inr rfl))
 have B:=VG (N:=N) (t':=s3.toks+([] :zy (Str×zx)).length) i E F (sc:=relabel scope X.env) O.kind h1 df O.ins iG M;have t:tn 0 d:=T.keep _ _ _ r λb hb o e=>M b o e;have loop:∀G:zw,G={s3 with heap:=d,toks:=s3.toks+([] :zy (Str×zx)).length}->
  codeAny (model X.prog X.w) X.A (.compLoop (.DictComp kx vx [⟨tg,iter,ifs,0⟩] scope pos) 0 (.ref it) (.ref s.heap.objs.size) (FJ X.env (relabel scope X.env) cl s3.heap.objs.size)) (compPost (model X.prog X.w) X.A X.xe use Q (.ref s.heap.objs.size) s3.heap.objs.size) G:=by rintro G rfl;refine VP (cl:=cl) (Qh:=Qd s.heap.objs.size) hc O P T i E F Z (λσ' j k L q'=> ?_) m0 _ ⟨0,_,B,t,λb hb=>(E b hb).1,Y⟩;refine S _ _ j k (let ⟨m,hm,_⟩:=L.loc;⟨m,hm⟩) (Qo (own:=own) (ix:=ix) i E F L) (λh v I2 h' hs=>Na i rfl I2 L.free hs) (AAt i.lt) (λx c e=>AAt (i.szLt e)) q'
 exact codeAny_compStart_dict (loop _ rfl) (T.self _ 0 _ _ _ t (loop _ rfl))
def cE {i:Nat}{x:Str}{pos' b:Pos}(hc:X.calm=true)(hN:X.N.Nodup)(l:X.N[i]? =some x)(hx:Loc X.env.scope x)(hi:PI X tg iter wi)(O:Fv X tg kx ifs scope own ix N g tt tk)(n:∀cl C s H ex pn,PE (blk X (relabel scope X.env) N cl C s H ex pn) vx tv)(o:swapsWith (.DictComp kx vx [⟨tg,iter,ifs,0⟩] scope pos) (some (.Name x pos')) b.line X.env=pure true:=by rfl)(hs:∀x,foldedSetIterable iter X.env x=pure x:=by intro _;rfl)(p:X.fn x=true\/X.env.scope.names.lookup x=some .local:=by first | exact .inl rfl|exact .inr rfl|assumption):PS X (.Assign [.Name x pos'] (.DictComp kx vx [⟨tg,iter,ifs,0⟩] scope pos) b) (Pj (dH wi own ix g tt tk tv) (Bh i)):=by
 intro zj s k H D I h;obtain⟨cl,r,h1,h2⟩:=F1 (env:=X.env) (scope:=scope) λy hy e=>I.ok.has y.1 (.inl (O.frees y hy e));rw[exec_Assign_Name_used _ _ _ _ o];refine AAA (AAy (AAA ?_));show wpAny _ _ (do let _ <-comprehension (.DictComp kx vx [⟨tg,iter,ifs,0⟩] scope pos) scope X.env _ (newDict #[]) false (eval iter X.env) (some (assign (.Name x pos') X.env))) _ _ s;refine AAA (BM (ACj (use:=some (assign (.Name x pos') X.env)) (Q:=λ_ c=>SP X zj D .next c) rfl hs r O.kind O.names (BM (hi zj s k H _ I h) λv U hv=>BM hv λt W u=> ?_)) λ_ c hq=>AAC (AAC hq));obtain⟨it,fp,tn,J,Y,rfl,w,T,f,A,q⟩:=u;refine Yk (Qd:=λd j=>Bh i (.ref d) k j D.nx) hc O n T w A f h1 h2 q λd C j c B E gone F G K=> ?_;obtain⟨m,L⟩:=B;show wpAny _ _ (assign (.Name x pos') X.env (.ref d)) _ _ c;refine ADG (LX (v:= .ref d) E hN l hx rfl (λM P ⟨a,R,ha⟩=> ?_) p);have S:C≠a:=by
  rcases ha with z|z
  .rw [z];exact F
  .exact G x a z
 exact⟨m,L.sameBut R S,λh' hs=>⟨_,j,gone _ M P h' hs,K⟩⟩
end
section
variable {X:Cx}
def lO (i:Nat)(t:TS):TS:=λD b H=>∃a kvs,b[i]? =some (some (.ref a))/\H a=some (.dK kvs)/\∀o es ep,o.data= .dict es ep->t D b (upd H a (.frz o (.dK kvs)))
def gF {rest:zy Stmt}{t:TS}{i:Nat}(h:Um X rest t):Um X rest (lO i t):=by intro zj s c H D I q;obtain⟨a,kvs,_,e,q⟩:=q;obtain⟨z,hd,vs,b,d⟩:=XE I.hok e;obtain⟨o,es,ep,f,g⟩:=id d;have j:Inv X zj c (upd H a (.frz o (.dK kvs))) {s with heap:=s.heap,toks:=s.toks}:=Hd (h':=s.heap) I (by rw[e];exact True.intro) ⟨rfl,λ_ _=>rfl⟩ ⟨o,f⟩ ⟨f,Qt z hd b d⟩;exact h zj s c _ D j (q o es ep g.2.1)
end
end L2
namespace PL
open PySem PySem.Spec PyProof.Rows L2
def OJ (m:zy (Int×Int))(k v:Int):zy (Int×Int):=if (m.any λp=>decide (p.1=k))=true then m.map (λp=>if p.1=k then (p.1,v) else p) else m ++ [(k,v)]
def Nq (m:zy (Int×Int))(k:Int):Int:=((m.find? λp=>decide (p.1=k)).map (·.2)).getD 0
def fD (m:zy (Int×Int))(k:Int):((Ik m).any λa=>decide (a.1=(.inl k:Cr)))=m.any λp=>decide (p.1=k):=by
 induction m with
 | nil=>rfl
 | cons p r ih=> unfold Ik at ih ⊢;rw[AAK,AA2,AA2,ih];congr 1;simp
def XX (m:zy (Int×Int))(k v:Int):Ik (OJ m k v)=D3 (Ik m) (.inl k) (.int v):=by
 unfold OJ D3;rw[fD];split
 .unfold Ik;rw[AAd,AAd];apply AA6;intro p _;simp only[Function.comp];by_cases h:p.1=k
  .simp [h]
  .simp [h]
 .unfold Ik;rw[AAO];rfl
def fE (m:zy (Int×Int))(k:Int):(EU (Ik m) (.inl k)).getD (.int 0)= .int (Nq m k):=by
 induction m with
 | nil=>rfl
 | cons p r ih=>
   unfold Ik at ih ⊢;rw[AAK];by_cases h:p.1=k
   .rw [HW (by simp[h])];simp[Nq,h]
   .rw [HV (by simp[h]),ih];simp[Nq,h]
def OK (m:zy (Int×Int))(k v:Int):(OJ m k v).length<=m.length+1:=by
 unfold OJ;split
 .rw [AAI];omega
 .simp
def CQ (many:Int)(m:zy (Int×Int)):zy (Int×Int):=m.foldl (λa p=>OJ a p.1 (many*p.2)) []
def RA {m:zy (Int×Int)}{i:Nat}(h:i<m.length):(Ik m)[i]? =some (.inl m[i].1, .int m[i].2):=by unfold Ik;rw[AAm,AAT h];rfl
def Hl {c a:Type}{f:a->c->a}{b:a}{m:zy c}{i:Nat}(h:i<m.length):(m.take (i+1)).foldl f b=f ((m.take i).foldl f b) m[i] :=by rw[List.take_succ_eq_append_getElem h,ABa];rfl
def eG {K:AAB}{H:Hp}{r:L2.St}{s:Nat}{many:Int}{d n ep:Nat}{m:zy (Int×Int)}{Q:V->Hp->Prop}(y:Ul H d n ep (Ik m))(A:r[s]? =some (some (.int many)))(hl:m.length<sizeLine)(ok:∀p∈m,MulOk many p.2)(q:∀D c,H D=none->(∀b o,H b=some o->c b=some o)->c D=some (.dK (Ik (CQ many m)))->Q (.ref D) c):∀D,H D=none->∃W:Nat->Nat->Hp->Prop,(∃k,W 0 k (upd H D (.dK [])))/\Qs (Itm d n ep) D (Bo 2 [s] r) (PH K 2 (C8 (Bh 0) (C8 (Bh 1) MJ))) gt (DN 0) (ZU (rI MulOk λi j=> .int (i*j)) (DN 2) (DN 1)) (Q (.ref D)) W:=by
 intro D u;have B:Bo 2 [s] r= [none,none,some (.int many)] :=by unfold Bo;simp[A]
 rw[B];let W:Nat->Nat->Hp->Prop:=λi k c=>i+k=m.length/\(∀b o,H b=some o->c b=some o)/\c D=some (.dK (Ik (CQ many (m.take i))))/\(CQ many (m.take i)).length<=i;refine⟨W,⟨m.length,ACQ _,λb o e=>by rw[Aa (Ah e u)];exact e,Ad,AAJ _⟩, ?_⟩;rintro i k c ⟨hi,ex,l,C⟩;have f:Ul c d n ep (Ik m):=let ⟨o,es,a,b⟩:=y;⟨o,es,ex _ _ a,b⟩;cases k with
 | zero=> left;refine⟨⟨_,f,by unfold Ik;rw[AAI];omega⟩,q D c u ex ?_⟩;rw[ABV (by omega)] at l;exact l
 | succ k=>
   right;have g:i<m.length:=by omega
   refine⟨⟨_,_,_,f,RA g⟩,λx F E=> ?_⟩;obtain⟨t,G,I,rfl,v,rfl,hu⟩:=E;have hx:=hu _ f;rw[RA g] at hx;cases hx;have J:D≠t:=λz=>by subst z;rw[l] at v;cases v
   have h:∀b o,c b=some o->upd c t (.tup [kV (.inl m[i].1), .int m[i].2]) b=some o:=λb o e=>by rw[Aa (Ah e v)];exact e
   refine⟨t,_,rfl, .inl (.inl (.inl Ad)),rfl,_,_,rfl,_,_,rfl,rfl, ?_⟩;dsimp only[gt];rw[AAE rfl];refine⟨_,rfl,_,rfl,_,rfl,many,m[i].2,rfl,rfl,ok _ (ABU g), ?_⟩;refine⟨.inl m[i].1,_,rfl,h _ _ l,by unfold Ik;rw[AAI];omega,k,by omega,by omega,λb o e=> ?_, ?_, ?_⟩
   .rw [Aa (Ah e u)];exact h _ _ (ex _ _ e)
   .rw [Ad];unfold CQ;rw[Hl g,XX]
   .unfold CQ at C ⊢;rw[Hl g];have:=OK ((m.take i).foldl (λw p=>OJ w p.1 (many*p.2)) []) m[i].1 (many*m[i].2);omega
def D2 (more:Int)(a m:zy (Int×Int)):zy (Int×Int):=m.foldl (λa p=>OJ a p.1 (Nq a p.1+more*p.2)) a
def bM (d a b c:Nat):TS:=iV (DN d) (DN a) (ZU (Pb λi j=> .int (i+j)) (dI (DN d) (DN a) (tC (.int 0))) (ZU (rI MulOk λi j=> .int (i*j)) (DN c) (DN b)))
def fQ {K:AAB}{H H1:Hp}{σ0:L2.St}{D:ME}{B c f s:Nat}{more:Int}{d n ep a:Nat}{m acc0:zy (Int×Int)}(U:B≠c)(X:B≠f)(Y:s≠c)(Z:s≠f)(n5:c≠f)(l1:c<σ0.length)(l2:f<σ0.length)(fd:Ul H d n ep (Ik m))(ha:H a=none)(J:∀b o,H b=some o->H1 b=some o)(h1:H1 a=some (.dK (Ik acc0)))(hw:σ0[B]? =some (some (.ref a)))(hm:σ0[s]? =some (some (.int more)))(ok:∀p∈m,MulOk more p.2)(hl:acc0.length+m.length<sizeLine)(L:∀σ' g,σ'.length=σ0.length->(∀j,j≠c->j≠f->σ'[j]? =σ0[j]?)->(∀b o,H b=some o->g b=some o)->g a=some (.dK (Ik (D2 more acc0 m)))->D.nx σ' g):∃W:Nat->Nat->L2.St->Hp->Prop,(∃k,W 0 k σ0 H1)/\∀i k v g,W i k v g-> ((Itm d n ep).stop i g/\D.nx v g)\/((Itm d n ep).go i g/\∃N:L2.St->Hp->Prop,(∀σ' w,N σ' w->∃Q,Q<k/\W (i+1) Q σ' w)/\∀x w,(Itm d n ep).yld i g x w->PH K 2 (C8 (Bh c) (C8 (Bh f) MJ)) x v w λl R=>bM B c f s {D with nx:=N,ct:=N,bk:=D.nx} l R):=by
 let W:Nat->Nat->L2.St->Hp->Prop:=λi k v g=>i+k=m.length/\(v.length=σ0.length/\∀j,j≠c->j≠f->v[j]? =σ0[j]?)/\(∀b o,H b=some o->g b=some o)/\g a=some (.dK (Ik (D2 more acc0 (m.take i))))/\(D2 more acc0 (m.take i)).length<=acc0.length+i;refine⟨W,⟨m.length,ACQ _,⟨rfl,λ_ _ _=>rfl⟩,J,h1,AAJ _⟩, ?_⟩;rintro i k v g ⟨hi,⟨S,T⟩,ex,M,xM⟩;have y:Ul g d n ep (Ik m):=let ⟨o,es,a,b⟩:=fd;⟨o,es,ex _ _ a,b⟩;cases k with
 | zero=> left;refine⟨⟨_,y,by unfold Ik;rw[AAI];omega⟩,L v g S T ex ?_⟩;rw[ABV (by omega)] at M;exact M
 | succ k=>
   right;have C:i<m.length:=by omega
   refine⟨⟨_,_,_,y,RA C⟩,λσ' w=>W (i+1) k σ' w,λσ' w h=>⟨k,by omega,h⟩,λx w yl=> ?_⟩;obtain⟨t,kk,xx,rfl,hn,rfl,hu⟩:=yl;have hx:=hu _ y;rw[RA C] at hx;cases hx;have z:∀b o,g b=some o->upd g t (.tup [kV (.inl m[i].1), .int m[i].2]) b=some o:=λb o e=>by rw[Aa (Ah e hn)];exact e
   refine⟨t,_,rfl, .inl (.inl (.inl Ad)),rfl,_,_,rfl,_,_,rfl,rfl, ?_⟩;generalize G:(v.set c (some (kV (.inl m[i].1)))).set f (some (V.int m[i].2))=l;have A:l.length=σ0.length:=by rw[<-G];simp[S]
   have r:∀j,j≠c->j≠f->l[j]? =σ0[j]? :=λj h h'=>by rw[<-G,AAa (AAi h'),AAa (AAi h)];exact T j h h'
   have E:l[c]? =some (some (.int m[i].1)):=by rw[<-G,AAa (AAi n5),ABs (by omega)];rfl
   have O:l[f]? =some (some (.int m[i].2)):=by rw[<-G,ABs (by simp;omega)]
   have F:l[B]? =some (some (.ref a)):=by rw[r B U X];exact hw
   have P:l[s]? =some (some (.int more)):=by rw[r s Y Z];exact hm
   have I:=z _ _ M;generalize hH:upd g t (.tup [kV (.inl m[i].1), .int m[i].2])=R at z I;refine⟨_,F,a,rfl, .inl ⟨_, .inl I⟩,_,E,_,Us.k (k:= .inl m[i].1) I,_,P,_,O,more,m[i].2,rfl,rfl,ok _ (ABU C), ?_⟩;rw[fE];refine⟨_,_,rfl,rfl,_,F,_,E,a,_,rfl,Ut.k (k:= .inl m[i].1) I (by unfold Ik;rw[AAI];omega),by omega,⟨A,r⟩,λb o e=> ?_, ?_, ?_⟩
   .rw [Aa (Ah e ha)];exact z _ _ (ex _ _ e)
   .rw [Ad];unfold D2;rw[Hl C,XX]
   .unfold D2 at xM ⊢;rw[Hl C];have:=OK ((m.take i).foldl (λu p=>OJ u p.1 (Nq u p.1+more*p.2)) acc0) m[i].1 (Nq ((m.take i).foldl (λu p=>OJ u p.1 (Nq u p.1+more*p.2)) acc0) m[i].1+more*m[i].2);omega
def uN (te:TE):TI:=λa H R=>te a H λv H1=>∃d n ep kvs,v= .ref d/\Ul H1 d n ep kvs/\R (Itm d n ep) H1
def wc (K:AAB)(te:TE)(a b:Nat):TS:=Pj (dH (uN te) 2 [b] (PH K 2 (C8 (Bh 0) (C8 (Bh 1) MJ))) gt (DN 0) (ZU (rI MulOk λi j=> .int (i*j)) (DN 2) (DN 1))) (Bh a)
def uV (K:AAB)(te:TE)(d a b c:Nat):TS:=lN (uN te) (PH K 2 (C8 (Bh a) (C8 (Bh b) MJ))) (bM d a b c)
section
variable {K:AAB}{B:C3}{T:zu->Prop}{H:Hp}{σ σ':L2.St}{τ τ':A6}
def SR.loose (s:SR K B T H σ τ)(hl:σ'.length=τ'.length)(h:∀(j:Nat) (a:AV),τ'[j]? =some (some a)->τ[j]? =some (some a)/\σ'[j]? =σ[j]?):SR K B T H σ' τ'/\∀b,Co σ' τ' b->Co σ τ b:=by
 have g:∀b,Co σ' τ' b->Co σ τ b:=λb ⟨j,xs,h1,h2⟩=>let ⟨c,d⟩:=h j _ h1;⟨j,xs,c,by rw[<-d];exact h2⟩;have i:Mv K T (mt B σ τ) H T (mt B σ' τ') H:= .anti s.va λa m=>m.elim .inl λz=> .inr (g a z);refine⟨⟨hl,λj y e=> ?_,λj ys e=> ?_,λj k ys o p r t l n=> ?_,s.tp,s.bm,s.bt,s.st⟩,g⟩
 .obtain ⟨c,d⟩:=h j _ e;obtain⟨w,hw,f⟩:=s.val j y c;exact⟨w,by rw[d];exact hw,f.mv i⟩
 .obtain ⟨c,d⟩:=h j _ e;obtain⟨p,vs,h1,h2,u,v⟩:=s.own j ys c;exact⟨p,vs,by rw[d];exact h1,h2,u.mv i,v⟩
 .obtain ⟨c,d⟩:=h j _ r;obtain⟨x,b2⟩:=h k _ t;rw[d] at l;rw[b2] at n;exact s.dist j k ys o p c x l n
end
def j4 (x:PV)(R:zy (Int×Int)->Prop):Prop:=match x with | .dk m=>R m|_=>False
def Xi {x:PV}{R:zy (Int×Int)->Prop}(h:j4 x R):∃m,x= .dk m/\R m:=by cases x <;> first | exact⟨_,rfl,h⟩|exact h.elim
def Z4 (c a b e d:Nat)(f g:AE):AS:=λD τ=>(c<τ.length/\a<τ.length/\b<τ.length)/\f τ λx=>j4 x λm1=>∃many,τ[e]? =some (some (.val (.int many)))/\m1.length<sizeLine/\(∀p∈m1,MulOk many p.2)/\
 g (τ.set c none) λy=>j4 y λm2=>∃more,τ[d]? =some (some (.val (.int more)))/\(CQ many m1).length+m2.length<sizeLine/\(∀p∈m2,MulOk more p.2)/\
 D.nx (((τ.set c (some (.val (.dk (D2 more (CQ many m1) m2))))).set a none).set b none)
def ud {k:Nat}{A:zk}(a:Room k A):A.units+1<cLine:=by have:=a.un;omega
section
variable {X:Cx}
def c7 {e1 e2:zr}{ta tb:AE}{m p:Stmt}{rest:zy Stmt}{b:AS}{f g k im s:Nat}(n1:f≠g)(n2:f≠k)(n3:s≠g)(n4:s≠k)(n5:g≠k)(n6:s≠f)(h1:SE X e1 ta)(h2:SE X e2 tb)(p1:∀te,PE X e1 te->PS X m (wc X.K te f im))(p2:∀te,PE X e2 te->PS X p (uV X.K te f g k s))(h3:Zd X rest b):Zd X (m::p::rest) (AY (Z4 f g k im s ta tb) b):=by
 obtain⟨t1,q1,s1⟩:=h1;obtain⟨t2,q2,s2⟩:=h2;obtain⟨t3,q3,s3⟩:=h3;refine⟨_,Bi (p1 t1 q1) (Bi (p2 t2 q2) (gF (i:=f) q3)),λB T I τ H D AD A h er=> ?_⟩;obtain⟨⟨l0,l1,l2⟩,h⟩:=h;refine s1 B T I τ H _ _ A h λv x S H1 m r1 h1=> ?_;obtain⟨m1,rfl,many,m9,Y,Z,h1⟩:=Xi h1;have u:=A.stp m;obtain⟨vm,xg,rvm⟩:=u.val _ _ m9;cases rvm;cases r1 with
 | dk hh eo=>
 rename_i d o es ep;have J:Ul H1 d m1.length ep (Ik m1):=⟨o,es,hh,eo,by unfold Ik;rw[AAI]⟩;refine⟨_,_,_,_,rfl,J, ?_⟩;refine eG (K:=X.K) (Q:=λx H1=>Bh f x I H1 (We (uV X.K t2 f g k s) (lO f t3) D)) J xg Y Z λa H2 ha ex hD=> ?_;have L:¬S a:=λz=>by obtain⟨o,e,_⟩:=(u.tp a z).mut;rw[ha] at e;cases e
 have M:DB S H1 S H2:=YC u.va ex;have sr2:=u.stp M;obtain⟨N,_⟩:=sr2.loose (σ':=I.set f (some (.ref a))) (τ':=τ.set f none) (by simp[A.len]) λj c e=>by
  rcases BR e with⟨_,C,_⟩|⟨n,C⟩
  .cases C
  .exact ⟨C,AAa (λz=>n z.symm)⟩
 refine s2 B S _ _ H2 _ _ N h1 λv2 y U G p r2 h2=> ?_;obtain⟨m2,rfl,more,nB,hsz,ok2,h2⟩:=Xi h2;obtain⟨vr,xh,rvr⟩:=A.val _ _ nB;cases rvr;have dc:G a=some (.dK (Ik (CQ many m1))):=p.keep _ _ L hD;have na2:¬U a:=λz=>by
  rcases p.new a z with z|z
  .exact L z
  .rw [hD] at z;cases z
 cases r2 with
 | dk W O=>
 rename_i d2 o2 P ep2;have da:d2≠a:=λz=>by subst z;rw[dc] at W;cases W
 have fd2:Ul G d2 m2.length ep2 (Ik m2):=⟨o2,P,W,O,by unfold Ik;rw[AAI]⟩;refine⟨_,_,_,_,rfl,fd2, ?_⟩;let H0:Hp:=λb=>if b=a then none else G b
 have E:(I.set f (some (V.ref a))).length=τ.length:=by simp[A.len]
 refine fQ (K:=X.K) (H:=H0) (H1:=G) (σ0:=I.set f (some (V.ref a))) (D:={D with nx:=lO f t3 D}) (acc0:=CQ many m1) (a:=a) (more:=more) n1 n2 n3 n4 n5 (by rw[E];exact l1) (by rw[E];exact l2) ⟨o2,P,(AAD da).trans W,O,by unfold Ik;rw[AAI]⟩ (AAE rfl) (λb o e=> ?_) dc ?_ ?_ ok2 hsz λσ' H4 sl so R wu=> ?_
 .by_cases z:b=a
  .rw [show H0 b=none from AAE z] at e;cases e
  .rw [show H0 b=G b from AAD z] at e;exact e
 .rw [ABs (by rw[A.len];exact l0)]
 .rw [AAa (λz=>n6 z.symm)];exact xh
 refine⟨a,_, ?_,wu,λo es ep eo=> ?_⟩
 .rw [so f n1 n2,ABs (by rw[A.len];exact l0)]
 have l:DB T H U G:=(m.trans M).trans p;have St:DB T H U (upd H4 a (.frz o (.dK (Ik (D2 more (CQ many m1) m2))))):=by
  refine⟨λb q nt e=> ?_,l.sub,l.new,λx t=> ?_⟩
  .have z:b≠a:=λz=>by subst z;have:=m.keep _ _ nt e;rw[ha] at this;cases this
   rw[Aa z];exact R b q ((AAD z).trans (l.keep b q nt e))
  .have z:x≠a:=λz=>by subst z;exact na2 t
   obtain⟨d,w,e,r⟩:=l.tp x t;exact⟨d,w,by rw[Aa z];exact R _ _ ((AAD z).trans e),r⟩
 have sr5:=A.stp St;have sr6:=sr5.set (i:=f) (v:= .ref a) (x:= .dk (D2 more (CQ many m1) m2)) (.dk Ad eo);obtain⟨sr7,ow⟩:=sr6.loose (σ':=σ') (τ':=((τ.set f (some (.val (.dk (D2 more (CQ many m1) m2))))).set g none).set k none) (by rw[sl,E];simp) λj c e=>by
  rcases BR e with⟨_,C,_⟩|⟨k2,C⟩
  .cases C
  .rcases BR C with⟨_,F,_⟩|⟨k1,F⟩
   .cases F
   .exact ⟨F,so j k1 k2⟩
 exact s3 B U σ' _ _ D AD sr7 h2 (er.shift (St.prog.trans (.less λb z=>Cz (ow b z))))
end
end PL
namespace L2
open PySem PySem.Spec PyProof.Rows
def qE (K:AAB)(l:zu):It:=
 ⟨λi H=>∃xs x,FH K H l xs/\xs[i]? =some x,
  λi H v a=>∃T x,v= .ref T/\H T=none/\a=upd H T (.tup [.int i,x])/\∀xs,FH K H l xs->xs[i]? =some x,
  λi H=>∃xs,FH K H l xs/\xs.length<=i⟩
def ZW {P:zp}{w:zm}{K:AAB}{es:zy zr}{G:Nat}{n:Pos}{e it l:zu}(C:e≠it):Ib P w K (.Tuple es G n) (qE K l) [e,it] e (λk h=>(∃b,IsEnum h e it (k:Nat) b)/\h.IsListIter it l k) where
 mem:=by simp
 obj:=λk h st p hp=>by
  obtain⟨⟨b,he⟩,hi⟩:=st;have f:p=e\/p=it:=by simpa using hp
  rcases f with q|q
  .subst q;exact⟨_,he,λv z=>nomatch z⟩
  .subst q;obtain⟨o,a,c,d⟩:=hi;exact⟨o,a,λv z=>by rw[d] at z;cases z⟩
 keep:=λk h h' st j=>by obtain⟨⟨b,he⟩,hi⟩:=st;exact⟨⟨b,j e (by simp) _ he⟩,hi.at λo a=>j it (by simp) o a⟩
 item:=by
  intro X r hw t hc k zj s D H E I m st y;subst r hw t;obtain⟨⟨b,he⟩,hi⟩:=st;obtain⟨xs,x,hq,hx⟩:=y;obtain⟨A,rv,p,hz⟩:=I.list hq;obtain⟨u,hu,J⟩:=rv.get hx;have i:e<s.heap.objs.size:=AAG he;have B:it<s.heap.objs.size:=by obtain⟨o,a,_⟩:=id hi;exact AAG a
  refine wpAny_pyNext_enum_item he hi p.isList (x:=u) (by simpa using hu) C λh1 L M N Y O=> ?_;refine⟨_,rfl,wpAny_letOwnedTupleGo_enum (s:={s with heap:=h1,toks:=s.toks+1}) L λh2 Q R=> ?_⟩;have g:∀p o,p≠e->h1.get? p=some o->h2.get? p=some o:=λp o q z=>R.extBut _ _ q z;have F:∀p∈ [e,it],p<s.heap.objs.size:=λp hp=>by
   have f:p=e\/p=it:=by simpa using hp
   rcases f with q|q
   .rw [q];exact i
   .rw [q];exact B
  have j:∀p o,p ∉ [e,it] ->s.heap.get? p=some o->h2.get? p=some o:=λp o hp z=>by
   have f:p≠e/\p≠it:=by simpa using hp
   exact g p o f.1 (O p o f.1 f.2 z)
  have S:Inv X zj D (upd H s.heap.objs.size (.tup [.int k,x])) {s with heap:=h2,toks:=s.toks+1}:=I.turnedN m F j (AAJ _)
   ⟨(by show 2<=sizeLine;decide), [.int k s.toks,u], .cons ⟨_,rfl⟩ (.cons J .nil),⟨_,g _ _ (AAt i) N,rfl,_,rfl⟩⟩
  have T:H s.heap.objs.size=none:=I.fresh;refine⟨.ref s.heap.objs.size,upd H s.heap.objs.size (.tup [.int k,x]),S,rfl,⟨_,x,rfl,T,rfl,λU h'=> ?_⟩,⟨⟨u, ?_⟩, ?_⟩,λp hp=> ?_⟩
  .rw [I.list_inj h' hq];exact hx
  .have:((k+1:Nat):Int)=(k:Int)+1:=by push_cast;rfl
   rw[this];exact Q
  .exact M.at λo z=>g it o C.symm z
  .rw [Aa (AAL (F p hp))];exact(m p hp).1
 done:=by
  intro X r hw t hc k zj s D H E I m st y;subst r hw t;obtain⟨⟨b,he⟩,hi⟩:=st;obtain⟨xs,hq,hx⟩:=y;obtain⟨A,rv,p,hz⟩:=I.list hq;have hl:=rv.length;refine wpAny_pyNext_enum_end (I.ok.hd hc) he hi p.isList (by simp;omega) λh' W=>⟨rfl, ?_⟩;exact I.turnedL (t':=s.toks) m λp o hp z=>by
   have f:p≠e/\p≠it:=by simpa using hp
   exact W p o f.2 z
 self:=λ_ _ _ _ _ st h=>by obtain⟨⟨b,he⟩,_⟩:=st;exact AC3 he h
section
variable {X:Cx}
def nK (K:AAB)(a:TA):TI:=λb H R=>a b H λvs H1=>∃l,vs= [.ref l] /\(∃xs,FH K H1 l xs)/\R (qE K l) H1
def fu {e:zr}{f:TA}{p b c:Pos}{es:zy zr}{j:Nat}(k:Gl X "enumerate")(m:X.mg "enumerate" =none)(ha:PA X [e] f)(hs:starEach [e] X.env= [(false,eval e X.env)] :=by rfl):PI X (.Tuple es j c) (.Call (.Name "enumerate" p) [e] [] b) (nK X.K f):=by
 intro zj s n H R I h;refine Call_ (K6 I k m boot_enumerate (AB7 (BM (ha b zj s n H _ I h) λus a ⟨vs,H1,d,o,t⟩=> ?_) (by rw[hs];rfl) rfl));obtain⟨l,rfl,⟨xs,hl⟩,q⟩:=t;cases o with
 | cons r u=>
 cases u;cases r;obtain⟨v,rv,p,hz⟩:=d.list hl;refine call_enumerate_list p.isList λh' g b2 x w=> ?_;refine AC3 g ?_;have i:∀p∈ [a.heap.objs.size+1,a.heap.objs.size],a.heap.objs.size<=p:=λp hp=>by
  have y:p=a.heap.objs.size+1\/p=a.heap.objs.size:=by simpa using hp
  omega
 exact⟨_,_,_,_,H1,rfl,d.kept (t':=a.toks) w,ZW (Nat.succ_ne_self _),⟨⟨.none,g⟩,b2⟩,λp hp=>d.fpOk (i p hp) (d.hok.fresh (i p hp)),q⟩
end
end L2
namespace PL
open PySem PySem.Spec PyProof.Rows L2
def Dt (k:Nat):zy PV->zy PV
 | [] => []
 | x::r=> .tup [.int k,x] :: Dt (k+1) r
theorem K1:∀(xs:zy PV) (k:Nat),(Dt k xs).length=xs.length
 | [],_=>rfl
 | _::r,k=>by rw[Dt,AAb,K1 r,AAb]
theorem Fo:∀(xs:zy PV) (k i:Nat) (z:PV),(Dt k xs)[i]? =some z->∃x,xs[i]? =some x/\z= .tup [.int ((k+i:Nat):Int),x]
 | [],_,_,_,h=>by simp[Dt] at h
 | x::r,k,0,z,h=>⟨x,rfl,by simp[Dt] at h;rw[<-h];rfl⟩
 | x::r,k,i+1,z,h=>by obtain⟨y,h1,h2⟩:=Fo r (k+1) i z (by simpa[Dt] using h);refine⟨y,by simpa using h1, ?_⟩;rw[h2,show k+1+i=k+(i+1) by omega]
def Yy {K:AAB}{T M:zu->Prop}{H:Hp}{l:zu}{xs:zy PV}(va:Gb T M H)(r:CL K T M H (.ref l) (.lst xs)):S2 K M (qE K l) (Dt 0 xs) T H:=by
 obtain⟨a,vs,e,hq,k,m,b⟩:=DU r;cases e;have c:FH K H l vs:= .inl (.inl hq);refine⟨λi z h=> ?_,λi z v n h f=> ?_,λi h=>⟨vs,c, ?_⟩⟩
 .obtain ⟨x,hx,_⟩:=Fo xs 0 i z h;obtain⟨u,hu,_⟩:=b.get hx;exact⟨vs,u,c,hu⟩
 .obtain ⟨x,hx,rfl⟩:=Fo xs 0 i z h;obtain⟨p,u,rfl,g,rfl,hu⟩:=f;obtain⟨s,d,j⟩:=b.get' (hu vs c);rw[hx] at d;cases d;have st:=DB.lay (o:= .tup [.int (i:Nat),u]) va.tp g;rw[ACQ];exact⟨st, .tup (.inl Ad) (.cons (.int _) (.cons (j.stp st va) .nil))⟩
 .rw [b.length];rw[K1] at h;exact h
section
variable {X:Cx}
def qO (r:AA):AI:=λτ Q=>r τ λa=>match a with | [.lst xs] =>Q (Dt 0 xs)|_=>False
def rg {e:zr}{r:AA}{p c b:Pos}{es:zy zr}{d:Nat}(f:Gl X "enumerate")(g:X.mg "enumerate" =none)(ha:SA X [e] r)(hs:starEach [e] X.env= [(false,eval e X.env)] :=by rfl):SI X (.Tuple es d b) (.Call (.Name "enumerate" p) [e] [] c) true (qO r):=by
 obtain⟨t,i,s⟩:=ha;refine⟨_,fu f g i hs,λB T j τ H R v l h k=>s B T j τ H _ _ l h λvs xs m H1 n o h1=> ?_⟩;split at h1 <;> first | exact h1.elim|skip
 cases o with
 | cons ra t=> cases t;obtain⟨a,us,rfl,hq,_,_,w⟩:=DU ra;exact⟨a,rfl,⟨us, .inl (.inl hq)⟩,k _ _ m H1 n (λM2 x y u va _=>Yy va (ra.mv u)) h1⟩
end
end PL
namespace L2
open PySem PySem.Spec PyProof.Rows
def aJ {prog:zp}{w:zm}{A:zk}(c:A.handled=none)(b:zq)(it l:zu)(d:l≠it)(items:Array zx):Draws prog w A it [it,l] items.size (λi v=>items[i]? =some v) (λi h=>O5 b h it l i/\MY b h l items) where
 live:=λ_ _ st=>let ⟨o,f,_⟩:=st.1.obj;⟨o,f⟩
 frame:=λ_ _ _ st hk=>⟨st.1.mv λo e=>hk it (by simp) o e,st.2.mv λo e=>hk l (by simp) o e⟩
 item:=λi s Q E hi st hQ=>by refine Ju st.1 st.2 (x:=items[i]) (by simp[hi]) λh' g a=> ?_;exact hQ _ h' s.toks (by simp[hi]) ⟨g,st.2.mv λo e=>a.extBut _ _ d e⟩ a
 done:=λs Q E st j=>He c st.1 st.2 (by simp) j
def iz (K:AAB)(b:zq)(l:zu):It:=
 ⟨λi H=>∃xs x,Sq K b H l xs/\xs[i]? =some x,
  λi H v a=>∃T x,v= .ref T/\H T=none/\a=upd H T (.tup [.int i,x])/\∀xs,Sq K b H l xs->xs[i]? =some x,
  λi H=>∃xs,Sq K b H l xs/\xs.length<=i⟩
def gT {b:zq}{h:zl}{q l:zu}{k:Nat}(x:O5 b h q l k):∃o,h.get? q=some o/\(o.cls= .type "list_iterator" \/o.cls= .type "tuple_iterator"):=by
 cases b with
 | true=>obtain⟨o,a,c,_⟩:=x;exact⟨o,a, .inl c⟩
 | false=>obtain⟨o,a,c,_⟩:=x;exact⟨o,a, .inr c⟩
def gc {b:zq}{h:zl}{l:zu}{xs:Array zx}(x:MY b h l xs):∃o,h.get? l=some o/\(o.cls= .type "list" \/o.cls= .type "tuple"):=by
 cases b with
 | true=>obtain⟨o,a,c,_⟩:=x;exact⟨o,a, .inl c⟩
 | false=>obtain⟨o,a,c,_⟩:=x;exact⟨o,a, .inr c⟩
def c8 {b:zq}{h:zl}{e it l:zu}{k:Nat}{i:Int}{f:zx}{xs:Array zx}(x:MY b h l xs)(y:O5 b h it l k)(z:IsEnum h e it i f):l≠it/\l≠e:=by
 obtain⟨o,a,c⟩:=gc x;obtain⟨j,g,d⟩:=gT y;refine⟨λq=> ?_,λq=> ?_⟩
 .subst q;rw[a] at g;cases g;rcases c with c|c <;> rcases d with d|d <;> (rw[c] at d;simp at d)
 .subst q;rw[z] at a;cases a;rcases c with c|c <;> simp at c
def Wj {P:zp}{w:zm}{K:AAB}{es:zy zr}{R:Nat}{t:Pos}{b:zq}{e it l:zu}(B:e≠it):Ib P w K (.Tuple es R t) (iz K b l) [e,it] e (λk h=>(∃c,IsEnum h e it (k:Nat) c)/\O5 b h it l k) where
 mem:=by simp
 obj:=λk h st p hp=>by
  obtain⟨⟨c,he⟩,hi⟩:=st;have f:p=e\/p=it:=by simpa using hp
  rcases f with q|q
  .subst q;exact⟨_,he,λv z=>nomatch z⟩
  .subst q;exact hi.obj
 keep:=λk h h' st m=>by obtain⟨⟨c,he⟩,hi⟩:=st;exact⟨⟨c,m e (by simp) _ he⟩,hi.mv λo a=>m it (by simp) o a⟩
 item:=by
  intro X C hw D hc k zj s L H E I r st F;subst C hw D;obtain⟨⟨c,he⟩,hi⟩:=st;obtain⟨xs,x,hq,hx⟩:=F;obtain⟨d,rv,p,hz⟩:=I.sq hq;obtain⟨u,hu,S⟩:=rv.get hx;have j:e<s.heap.objs.size:=AAG he;have G:it<s.heap.objs.size:=by obtain⟨o,a,_⟩:=hi.obj;exact AAG a
  obtain⟨M,N⟩:=c8 p hi he;have T:k<d.toArray.size:=by have:=(AAx.mp hu).1;simpa using this
  refine wpAny_pyNext_enum_itemD (aJ (prog:=X.prog) (w:=X.w) (A:=X.A.in1) (I.ok.hd hc) b it l M d.toArray) he ⟨hi,p⟩ T B (by simp only[AAF,AAg,AAe];rintro(z|z);exact B z;exact N z.symm) λy h1 J hy U W Y a4 Z=> ?_;have xj:y=u:=by
   have:d[k]? =some y:=by simpa using hy
   rw[hu] at this;exact(AAY this).symm
  subst xj;refine⟨_,rfl,wpAny_letOwnedTupleGo_enum (s:={s with heap:=h1,toks:=J+1}) U λh2 c1 c2=> ?_⟩;have g:∀p o,p≠e->h1.get? p=some o->h2.get? p=some o:=λp o q z=>c2.extBut _ _ q z;have O:∀p∈ [e,it],p<s.heap.objs.size:=λp hp=>by
   have f:p=e\/p=it:=by simpa using hp
   rcases f with q|q
   .rw [q];exact j
   .rw [q];exact G
  have m:∀p o,p ∉ [e,it] ->s.heap.get? p=some o->h2.get? p=some o:=λp o hp z=>by
   have f:p≠e/\p≠it:=by simpa using hp
   exact g p o f.1 (Z p o f.1 f.2 z)
  have I2:Inv X zj L (upd H s.heap.objs.size (.tup [.int k,x])) {s with heap:=h2,toks:=J+1}:=I.turnedN r O m (AAJ _)
   ⟨(by show 2<=sizeLine;decide), [.int k J,y], .cons ⟨_,rfl⟩ (.cons S .nil),⟨_,g _ _ (AAt j) Y,rfl,_,rfl⟩⟩
  have Th:H s.heap.objs.size=none:=I.fresh;refine⟨.ref s.heap.objs.size,upd H s.heap.objs.size (.tup [.int k,x]),I2,rfl,⟨_,x,rfl,Th,rfl,λxs' h'=> ?_⟩,⟨⟨y, ?_⟩, ?_⟩,λp hp=> ?_⟩
  .rw [I.sq_inj h' hq];exact hx
  .have:((k+1:Nat):Int)=(k:Int)+1:=by push_cast;rfl
   rw[this];exact c1
  .exact W.1.mv λo z=>g it o B.symm z
  .rw [Aa (AAL (O p hp))];exact(r p hp).1
 done:=by
  intro X C hw D hc k zj s L H E I r st F;subst C hw D;obtain⟨⟨c,he⟩,hi⟩:=st;obtain⟨xs,hq,hx⟩:=F;obtain⟨d,rv,p,hz⟩:=I.sq hq;have hl:=rv.length;have sz:d.toArray.size<=k:=by simp;omega
  obtain⟨M,N⟩:=c8 p hi he;refine wpAny_pyNext_enum_endD (n:=k) (P:=λ_ _=>True) (St:=λi h=>i=k/\O5 b h it l k/\MY b h l d.toArray) (fp:= [it,l]) ⟨λ_ _ st=>let ⟨o,ho,_⟩:=st.2.1.obj;⟨o,ho⟩,λ_ _ _ st hk=>⟨st.1,st.2.1.mv λo e=>hk it (by simp) o e,st.2.2.mv λo e=>hk l (by simp) o e⟩,λi s Q E hi st hQ=>absurd hi (by rw[st.1];omega),λs Q E st hE=>He (A:=X.A.in1) (I.ok.hd hc) st.2.1 st.2.2 (by simp;simpa using sz) hE⟩ he ⟨rfl,hi,p⟩ λh' eb=>⟨rfl, ?_⟩;exact I.turnedL (t':=s.toks) r λp o hp z=>by
   have f:p≠e/\p≠it:=by simpa using hp
   exact eb p o f.2 z
 self:=λ_ _ _ _ _ st h=>by obtain⟨⟨c,he⟩,_⟩:=st;exact AC3 he h
def Io (b:zq)(l:zu)(items:Array zx):Meets (Builtin.«enumerate.__new__» ⟨[.type "enumerate", .ref l], []⟩) (λ_ R s=>MY b s.heap l items/\ R (.ok (.ret (.ref (s.heap.push (Vo b l)).objs.size))) {s with heap:=(s.heap.push (Vo b l)).push {cls:= .type "enumerate",data:= .fields #[.none, .bool false, .ref s.heap.objs.size,rawInt 0, .none, .none] }}):=
 .of_wp λprog w A R s h=>by
   obtain⟨hp,g,d,e,os⟩:=s;obtain⟨hl,h⟩:=h;have f:=sub_enumerate;have a:MY b hp l items:=hl
   wp_walk using K5 a
   refine wpAny_stack_any λst=>AAC ?_;split
   .rename_i c _ _ _ _ _;cases (c==Value.type "enumerate")
    .wp_walk using K5 a
     exact⟨_,rfl,h⟩
    .wp_walk using K5 a
     exact⟨_,rfl,h⟩
   .wp_walk using K5 a
    exact⟨_,rfl,h⟩
section
variable {prog:zp}{w:zm}{A:zk}{E:zx->zw->Prop}{s:zw}
def Jq {b:zq}{l:zu}{items:Array zx}{Q:zx->zw->Prop}(a:MY b s.heap l items)(h:∀h',IsEnum h' (s.heap.objs.size+1) s.heap.objs.size 0 .none->O5 b h' s.heap.objs.size l 0->h'.objs.size=s.heap.objs.size+2-> (∀b o,s.heap.get? b=some o->h'.get? b=some o)->Q (.ref (s.heap.objs.size+1)) {s with heap:=h'}):wpAny (model prog w) A (call (.type "enumerate") [.ref l]) Q E s:=by
 refine callType_new F.called_enumerate (by decide) (F.typeCall_enumerate_1 _) (F.newCall_enumerate_1 _) (λobj=>F.args_object_init_2 obj _) F.entry_enumerate_new
  (Io b l items) ⟨a, ?_⟩
 have hz:(s.heap.push (Vo b l)).objs.size=s.heap.objs.size+1:=ABI ..;show _/\_;rw[hz];have he:IsEnum ((s.heap.push (Vo b l)).push
  {cls:= .type "enumerate",data:= .fields #[.none, .bool false, .ref s.heap.objs.size,rawInt 0, .none, .none] }) (s.heap.objs.size+1) s.heap.objs.size 0 .none:=by
  have:=AAS (s.heap.push (Vo b l))
   (o:={cls:= .type "enumerate",data:= .fields #[.none, .bool false, .ref s.heap.objs.size,rawInt 0, .none, .none] }) rfl
  rw[hz] at this;exact this
 exact⟨⟨_,he,rfl⟩,h _ he (bE (AAH _ (AAS _ rfl))) (by rw[ABI,hz]) λb o x=>AAH _ (AAH _ x)⟩
end
section
variable {X:Cx}
def ji (K:AAB)(a:TA):TI:=λc H R=>a c H λvs H1=>∃b l,vs= [.ref l] /\(∃xs,Sq K b H1 l xs)/\R (iz K b l) H1
def bq {e:zr}{g:TA}{p c d:Pos}{es:zy zr}{k:Nat}(m:Gl X "enumerate")(n:X.mg "enumerate" =none)(ha:PA X [e] g)(hs:starEach [e] X.env= [(false,eval e X.env)] :=by rfl):PI X (.Tuple es k d) (.Call (.Name "enumerate" p) [e] [] c) (ji X.K g):=by
 intro zj s o H R I h;refine Call_ (K6 I m n boot_enumerate (AB7 (BM (ha c zj s o H _ I h) λus a ⟨vs,H1,f,t,u⟩=> ?_) (by rw[hs];rfl) rfl));obtain⟨b,l,rfl,⟨xs,hl⟩,q⟩:=u;cases t with
 | cons r v=>
 cases v;cases r;obtain⟨w,rv,p,hz⟩:=f.sq hl;refine Jq p λh' i b2 y x=> ?_;refine AC3 i ?_;have j:∀p∈ [a.heap.objs.size+1,a.heap.objs.size],a.heap.objs.size<=p:=λp hp=>by
  have z:p=a.heap.objs.size+1\/p=a.heap.objs.size:=by simpa using hp
  omega
 exact⟨_,_,_,_,H1,rfl,f.kept (t':=a.toks) x,Wj (Nat.succ_ne_self _),⟨⟨.none,i⟩,b2⟩,λp hp=>f.fpOk (j p hp) (f.hok.fresh (j p hp)),q⟩
end
end L2
namespace PL
open PySem PySem.Spec PyProof.Rows L2
def Vn {K:AAB}{T M:zu->Prop}{H:Hp}{l:zu}{x:PV}{xs:zy PV}(va:Gb T M H)(hx:x= .tup xs\/x= .lst xs)(r:CL K T M H (.ref l) x):S2 K M (iz K (jJ x) l) (Dt 0 xs) T H:=by
 obtain⟨_,vs,e,hq,a⟩:=QS hx r;cases e;refine⟨λi z h=> ?_,λi z v g h c=> ?_,λi h=>⟨vs,hq, ?_⟩⟩
 .obtain ⟨x,hx,_⟩:=Fo xs 0 i z h;obtain⟨u,hu,_⟩:=a.get hx;exact⟨vs,u,hq,hu⟩
 .obtain ⟨x,hx,rfl⟩:=Fo xs 0 i z h;obtain⟨p,u,rfl,d,rfl,hu⟩:=c;obtain⟨j,b,f⟩:=a.get' (hu vs hq);rw[hx] at b;cases b;have st:=DB.lay (o:= .tup [.int (i:Nat),u]) va.tp d;rw[ACQ];exact⟨st, .tup (.inl Ad) (.cons (.int _) (.cons (f.stp st va) .nil))⟩
 .rw [a.length];rw[K1] at h;exact h
section
variable {X:Cx}
def jH (r:AA):AI:=λτ Q=>r τ λa=>match a with | [x] =>Om x λxs=>Q (Dt 0 xs)|_=>False
def oY {e:zr}{r:AA}{p b a:Pos}{es:zy zr}{c:Nat}(d:Gl X "enumerate")(f:X.mg "enumerate" =none)(ha:SA X [e] r)(hs:starEach [e] X.env= [(false,eval e X.env)] :=by rfl):SI X (.Tuple es c a) (.Call (.Name "enumerate" p) [e] [] b) true (jH r):=by
 obtain⟨t,g,s⟩:=ha;refine⟨_,bq d f g hs,λB T i τ H R v j h k=>s B T i τ H _ _ j h λvs xs m H1 n o h1=> ?_⟩;split at h1 <;> first | exact h1.elim|skip
 rename_i x;obtain⟨xs,hx,h2⟩:=Ir h1;cases o with
 | cons ra t=> cases t;obtain⟨l,us,rfl,hq,w⟩:=QS hx ra;exact⟨jJ x,l,rfl,⟨us,hq⟩,k _ _ m H1 n (λM2 y z u va _=>Vn va hx (ra.mv u)) h2⟩
end
instance{r:AA}{τ:A6}{a:zy PV->Prop}:Wp (jH r τ a) (r τ λb=>match b with | [x] =>Om x λxs=>a (Dt 0 xs)|_=>False):=⟨id⟩
section
variable {X:Cx}{a b c d e:zr}{ta tb tc td:AE}{pos:Pos}
def Bl (ha:SE X a ta)(h:starEach [a] X.env=(false,eval a X.env)::starEach [] X.env:=by rfl):SA X [a] (AB ta AL):=Ck ha Dp h
def Ao (ha:SE X a ta)(hb:SE X b tb)(h:starEach [a,b] X.env=(false,eval a X.env)::starEach [b] X.env:=by rfl)(h2:starEach [b] X.env=(false,eval b X.env)::starEach [] X.env:=by rfl):SA X [a,b] (AB ta (AB tb AL)):=Ck ha (Bl hb h2) h
def Ew (ha:SE X a ta)(hb:SE X b tb)(hc:SE X c tc)(h:starEach [a,b,c] X.env=(false,eval a X.env)::starEach [b,c] X.env:=by rfl)(h2:starEach [b,c] X.env=(false,eval b X.env)::starEach [c] X.env:=by rfl)(f:starEach [c] X.env=(false,eval c X.env)::starEach [] X.env:=by rfl):SA X [a,b,c] (AB ta (AB tb (AB tc AL))):=Ck ha (Ao hb hc h2 f) h
def AU (ha:SE X a ta)(hb:SE X b tb)(hs:Ql b:=by exact λ_ _=>rfl):SE X (.Subscript a b pos) (AW Am ta tb):=oT oZ ha hb hs
def FY {op:CmpOp}{r:R2}{f:JT}(g:EZ X (compareOp op) r/\CW X.K r f)(ha:SE X a ta)(hb:SE X b tb)(h:behindInMarks op b=false:=by exact B2 _):Sc X (.Compare a [op] [b] pos) (A1 (AW f ta tb)):=lH g ha hb h
def Ch (i:Nat){x:Str}{pos':Pos}(hN:X.N.Nodup)(he:SE X e ta)(hi:X.N[i]? =some x:=by rfl)(hx:Loc X.env.scope x:=by exact Or.inl rfl)(hs:swapsWith e (some (.Name x pos')) pos.line X.env=pure false:=by rfl)(f:X.fn x=true\/X.env.scope.names.lookup x=some .local:=by first | exact .inl rfl|exact .inr rfl|assumption):SS X (.Assign [.Name x pos'] e pos) (Aj ta (An i)):=GJ hN hi hx he hs f
def EI (i:Nat){x:Str}(hN:X.N.Nodup)(hi:X.N[i]? =some x:=by rfl)(hx:Loc X.env.scope x:=by exact Or.inl rfl)(f:X.fn x=true\/X.env.scope.names.lookup x=some .local:=by first | exact .inl rfl|exact .inr rfl|assumption):SG X (.Name x pos) (An i):=R4 hN hi hx f
def JO (i:Nat){own:Nat}{x:Str}(hN:X.N.Nodup)(hi:X.N[i]? =some x:=by rfl)(hx:Loc X.env.scope x:=by exact Or.inl rfl)(hk:i<own:=by decide)(f:X.fn x=true\/X.env.scope.names.lookup x=some .local:=by first | exact .inl rfl|exact .inr rfl|assumption):SK own X (.Name x pos) (An i):=gW hN hi hx hk f
end
def map_pair {a b c:Type}{o:zt a}{f:a->b}{g:a->c}{x:b}{y:c}(h1:o.map f=some x)(h2:o.map g=some y):o.map (λs=>(f s,g s))=some (x,y):=by
 cases o with
 | none=>cases h1
 | some s=>cases h1;cases h2;rfl
def map5 {a A B C D E:Type}{o:zt a}{F:a->A×B×C×D×E}{X:A×B×C×D×E}(h1:o.map (λs=>(F s).1)=some X.1)(h2:o.map (λs=>(F s).2.1)=some X.2.1)(b:o.map (λs=>(F s).2.2.1)=some X.2.2.1)(c:o.map (λs=>(F s).2.2.2.1)=some X.2.2.2.1)(d:o.map (λs=>(F s).2.2.2.2)=some X.2.2.2.2):o.map F=some X:=by
 cases o with
 | none=>cases h1
 | some s=>exact congrArg some (ACB (AAY h1) (ACB (AAY h2) (ACB (AAY b) (ACB (AAY c) (AAY d)))))
def BS {P:zp}{w:zm}{K:AAB}{mg:Str->zt zx}{base:zl}{k a:Nat}{x:Str}{b:zy Str}{sp:Sp}(H:Has P w K mg base k x b sp)(h:k<=a:=by decide):Has P w K mg base a x b sp:=H.mono h
end PL
open PySem L2 PL PyProof.Rows
local macro_rules | `(tactic| decreasing_trivial_pre_omega)=> `(tactic| first | assumption|omega|((apply Bd.mono);(focus (repeat' (first | assumption|exact FX.m (by assumption)|exact FX.x (by assumption)|exact FX.y (by assumption)|exact FX.z (by assumption)|exact wY|exact mW|with_reducible apply Bd.add|with_reducible apply Bd.sub|with_reducible apply Bd.mul|with_reducible apply Bd.neg|with_reducible apply Bd.mx|with_reducible apply Bd.mn)));first | omega|decide)|decide|(simp only [List.length_map,List.length_append,List.length_cons,List.length_nil,List.length_take,List.length_drop,List.length_zip,List.length_reverse];omega)|(show _<=16777216;simp only [List.length_map,List.length_append,List.length_cons,List.length_nil,List.length_take,List.length_drop,List.length_zip,List.length_reverse];omega)|(show _<16777216;simp only [List.length_map,List.length_append,List.length_cons,List.length_nil,List.length_take,List.length_drop,List.length_zip,List.length_reverse];omega)|(refine And.intro ?_ ?_ <;> decreasing_trivial_pre_omega)|exact rfl)
local macro_rules | `(tactic| array_mem_dec)=> `(tactic| first
 | refine Wp.go ?_
 | ((refine S4.go ?_ ?_);focus (first | exact True.intro|decreasing_trivial_pre_omega))
 | ((with_reducible apply And.intro);focus decreasing_trivial_pre_omega)
 | ((with_reducible apply s_ifdT);focus decide)
 | ((with_reducible apply s_ifdF);focus decide)
 | ((with_reducible apply s_ifnT);focus decide)
 | ((with_reducible apply s_ifnF);focus decide)
 | refine qM.go (λ_=> ?_) (λ_=> ?_)
 | ((with_reducible apply kg);focus assumption)
 | ((with_reducible apply iW);focus exact rfl)
 | ((with_reducible apply s_isi);(focus (first | exact .inl rfl|exact .inr (.inl rfl)|exact .inr (.inr (.inl rfl))|exact .inr (.inr (.inr rfl))));(focus exact rfl))
 | ((with_reducible apply oO);focus exact rfl)
 | ((with_reducible apply oN);focus exact rfl)
 | intro _
 | with_reducible rfl)
local macro_rules | `(tactic| array_get_dec)=> `(tactic| first | array_mem_dec|refine t5.go ?_|fail)
local macro_rules | `(tactic| ac_rfl)=> `(tactic| repeat' array_mem_dec)
namespace PL
open PySem L2 PyProof.Rows
def FF.open {n B:Nat}{cs:zy C4}(p:FF n B cs):∃a r l,cs=a::r/\r≠ [] /\(a::r).getLast?=some l/\a.1<l.1:=by
 obtain⟨two,c,d,b⟩:=p;match cs,two,b with
 | a::b0::r,_,b=>exact⟨a,b0::r,_,rfl,by simp,ACK (by simp),(AAM.mp b).1 _ (ACz (Y1 (ACK (by simp))))⟩
abbrev M6:AS:=
 (Ar (BL (AB (YY Nj (AW Am (aV 0) (aC (.int 0)))) (AB (AW Am (aV 0) (aC (.int 1))) AL))))
def Dy:AF:=Ak 1 M6
def Rp {a:PV}{Q:PV->Prop}(h:M6 ⟨λ_=>Q .non,Q,λ_=>False,λ_=>False⟩ [some (.val a)]):Dy [a] Q:=h
abbrev Pp:AS:=
 (Ar (jE (A1 (AW MZ (aV 1) (aC (.int 2)))) (AW Am (aV 0) (aC (.int 1))) (AW Am (aV 0) (aC (.int 0)))))
def EY:AF:=Ak 2 Pp
def UY {a b:PV}{Q:PV->Prop}(h:Pp ⟨λ_=>Q .non,Q,λ_=>False,λ_=>False⟩ [some (.val a),some (.val b)]):EY [a,b] Q:=h
def Sx (b:T3)(v:PV):Prop:=v=DC b\/v= .lst [fr b.1,fr b.2.1,fr b.2.2]
def dz (cs:zy C4)(b:T3)(v:PV):Prop:=∃p w,Li cs p/\Sx b w/\(v= .tup [p,w] \/v= .lst [p,w])
def jz (r:Rat):PV.tup [.int (-r.num), .int r.den] =fr (-r):=by unfold fr;rw[Rat.neg_num,Rat.neg_den]
def RI {r:Rat}{Q:PV->Prop}(q:Q (fr (-r))):Dy [fr r] Q:=by
 apply Rp;repeat' array_get_dec
 rw[jz];exact q
def c0 {x:PV}{c:C4}{R:PV->Prop}(hx:x=cor c\/x=corL c)(h:R (fr c.1)):Am x (.int 0) R:=by rcases hx with rfl|rfl <;> exact h
def f0 {cs:zy C4}{b:T3}{v:PV}{R:PV->Prop}(hv:dz cs b v)(h:∀p,Li cs p->R p):Am v (.int 0) R:=by obtain⟨p,w,hp,hw,hv⟩:=hv;rcases hv with rfl|rfl <;> exact h p hp
def f1 {cs:zy C4}{b:T3}{v:PV}{R:PV->Prop}(hv:dz cs b v)(h:∀w,Sx b w->R w):Am v (.int 1) R:=by obtain⟨p,w,hp,hw,hv⟩:=hv;rcases hv with rfl|rfl <;> exact h w hw
def b2 {b:T3}{w:PV}{R:PV->Prop}(hw:Sx b w)(h:R (fr b.2.2)):Am w (.int 2) R:=by rcases hw with rfl|rfl <;> exact h
def iL {k n:Nat}(h:k<=n)(a:n<1000000):k<sizeLine:=AA1 h (AAX a (AAs rfl))
def gU {w:PV}{x y:Rat}{k:Int}(a:∀{R:PV->Prop},R (fr x)->Am w (.int 0) R)(h1:∀{R:PV->Prop},R (fr y)->Am w (.int 1) R){Q:PV->Prop}(q:Q (fr (if k=2 then y else x))):EY [w, .int k] Q:=by
 apply UY;ac_rfl
 .rename_i h;rw[AAE h] at q;exact h1 q
 .rename_i h;rw[AAD h] at q;exact a q
def Fk {b:T3}{w:PV}{k:Int}(hw:Sx b w){Q:PV->Prop}(q:Q (fr (if k=2 then b.2.1 else b.1))):EY [w, .int k] Q:=
 gU (λh=>by rcases hw with rfl|rfl <;> exact h) (λh=>by rcases hw with rfl|rfl <;> exact h) q
def fK {xs:zy PV}{k:Int}{R:PV->Prop}(a:0<=k)(h1:k<xs.length)(h:∀x∈xs,R x):Am (.lst xs) (.int k) R:=by show di (JV xs k) R;have hk:xs[k.toNat]? =some (xs[k.toNat]'(by omega)):=AAT (by omega);have e:=Cj hk;rw[show ((k.toNat:Nat):Int)=k by omega] at e;rw[e];exact h _ (ABU _)
def Nz {xs:zy Rat}{k:Int}{R:PV->Prop}(a:0<=k)(h1:k<xs.length)(h:∀x∈xs,R (fr x)):Am (.lst (xs.map fr)) (.int k) R:=by refine fK a (by simpa using h1) λx hx=> ?_;obtain⟨y,hy,rfl⟩:=AAR.mp hx;exact h y hy
def pW {r:Rat}(h:r.num.natAbs<2^8:=by decide +kernel)(h2:r.den<2^8:=by decide +kernel):Bd 8 r:=⟨h,h2⟩
section
variable {τ:A6}
instance{i:Nat}{xs:zy PV}{P:zy PV->Prop}[h:hG τ i (.own xs)] :Wp (MH i τ P) (P xs):=⟨λk=>by unfold MH;rw[h.e];exact k⟩
end
def absR (r:Rat):Rat:=if r<0 then -r else r
def Bd.absR {n:Nat}{r:Rat}(h:Bd n r):Bd n (absR r):=by unfold PL.absR;split;exact h.neg;exact h
def rS (p q:T3)(d:Rat×Rat):T3:=((p.1-q.1)/d.1,(p.2.1-q.2.1)/d.1,(p.2.2-q.2.2)/d.2)
def qT (o:T3):Rat:=mx (mx (mx 0 (absR o.1)) (absR o.2.1)) (absR o.2.2)
def dP (a l b c:C4)(m:Rat):Prop:=(¬m<a.1/\¬m<b.1)/\m<l.1/\m<c.1
instance {a l b c:C4}{m:Rat}:Decidable (dP a l b c m):=by unfold dP;infer_instance
abbrev Kh:AS:=
 (AY (Aj (AW TK (AW BX (aV 2) (aV 3)) (aC (.int 2))) (An 4))
   (CZ (A1 (AN 2 A0 (AB (AW Am (aV 0) (aV 4)) (AB (aV 1) AL)))) (Aj (AW BX (aV 4) (aC (.int 1))) (An 2)) (Aj (aV 4) (An 3))))
abbrev Ko:AS:=
 (AY (Ic (A1 (AW aS (aV 2) (aV 3))) Kh)
   (Ar (aV 2)))
abbrev Kk:AS:=
 (AY (Aj (FI ID (AB (aV 0) AL)) (An 3))
   Ko)
abbrev IK:AS:=
 (AY (Aj (aC (.int 0)) (An 2))
   Kk)
def DH:AF:=Ak 5 IK
def MT {a b:PV}{Q:PV->Prop}(h:IK ⟨λ_=>Q .non,Q,λ_=>False,λ_=>False⟩ [some (.val a),some (.val b),none,none,none]):DH [a,b] Q:=h
abbrev Lf:AS:=
 (AY (Aj (S5 (AN 2 DH (AB (aV 1) (AB (aV 2) AL)))) (An 3))
   (CZ (S6 (S7 (A1 (AW MZ (aV 3) (FI ID (AB (aV 1) AL)))) (A1 (AW Ym (AW Am (aV 1) (aV 3)) (aV 2))))) (DX 1 bL (AB (aV 3) (AB (aV 2) AL))) BZ))
abbrev Su:AS:=
 (AY (EF (Ha (aV 0)) (An 2) Lf)
   (Ar (aV 1)))
abbrev Ss:AS:=
 (AY (GY (DI AL) 1)
   Su)
def G0:AF:=Ak 4 Ss
def WG {a:PV}{Q:PV->Prop}(h:Ss ⟨λ_=>Q .non,Q,λ_=>False,λ_=>False⟩ [some (.val a),none,none,none]):G0 [a] Q:=h
abbrev Sk:AS:=
 (AY (VC 3 ma (Z5 (aV 1) (aV 4) (aV 5)))
   (DX 2 Ga (AB (BL (AB (aV 4) (AB (aV 5) (AB (aV 3) AL)))) AL)))
abbrev So:AS:=
 (AY (EF (Ha (AN 1 G0 (AB (Ex (B7 (Ha (Ex (VD (AB (aV 1) AL)))) 2 [] (JU 2 (Ab (An 0) (Ab (An 1) Bz))) Dg (aV 0))) AL))) (An 4) (EF (Ha (BL (AB (aC (.int 0)) (AB (aC (.int 1)) AL)))) (An 5) (CZ (A1 (d8 (aV 4) (aV 5) (aV 1))) Sk BZ)))
   (Ar (aV 2)))
abbrev Sn:AS:=
 (AY (Aj (aC (.int 0)) (An 3))
   So)
abbrev Sm:AS:=
 (AY (GY (DI AL) 2)
   Sn)
abbrev Sj:AS:=
 (AY (Aj (AN 1 HZ (AB (aV 0) AL)) (An 1))
   Sm)
def Gz:AF:=Ak 6 Sj
def WF {a:PV}{Q:PV->Prop}(h:Sj ⟨λ_=>Q .non,Q,λ_=>False,λ_=>False⟩ [some (.val a),none,none,none,none,none]):Gz [a] Q:=h
abbrev Qb:AS:=
 (AY (DX 2 Ga (AB (BL (AB (AW Am (aV 3) (aC (.int 0))) (AB (AW Am (aV 3) (aC (.int 1))) (AB (aV 4) AL)))) AL))
   (Aj (aC .non) (An 3)))
abbrev Fu:AS:=
 (AY (CZ (A1 (AW P9 (aV 3) (aC .non))) (DX 2 Ga (AB (BL (AB (AW Am (aV 3) (aC (.int 0))) (AB (AW Am (aV 3) (aC (.int 1))) (AB (aC .non) AL)))) AL)) BZ)
   (Ar (FI DS (AB (aV 2) AL))))
abbrev Qe:AS:=
 (AY (EF (Ha (AN 1 Gz (AB (aV 0) AL))) (JU 3 (Ab (An 4) (Ab (An 5) (Ab (An 6) Bz)))) (CZ (Fi (A1 (AW IB (aV 3) (aC .non))) (A1 (AW pG (aV 6) (aV 1)))) (Aj (BL (AB (aV 4) (AB (AW IC (aC (.int 1)) (aV 5)) AL))) (An 3)) (CZ (Fi (A1 (AW P9 (aV 3) (aC .non))) (A1 (AW aS (aV 6) (aV 1)))) Qb BZ)))
   Fu)
abbrev Qc:AS:=
 (AY (Aj (aC .non) (An 3))
   Qe)
abbrev Pk:AS:=
 (AY (GY (DI AL) 2)
   Qc)
def Dw:AF:=Ak 7 Pk
def UU {a b:PV}{Q:PV->Prop}(h:Pk ⟨λ_=>Q .non,Q,λ_=>False,λ_=>False⟩ [some (.val a),some (.val b),none,none,none,none,none]):Dw [a,b] Q:=h
abbrev NF:AS:=
 (Ar (AN 2 Dw (AB (aV 0) (AB (aC (.int 1)) AL))))
def Dz:AF:=Ak 1 NF
def Rt {a:PV}{Q:PV->Prop}(h:NF ⟨λ_=>Q .non,Q,λ_=>False,λ_=>False⟩ [some (.val a)]):Dz [a] Q:=h
def ins:zy Rat->Rat->zy Rat
 | [],x=> [x]
 | q::r,x=>if q<x then q::ins r x else if q=x then q::r else x::q::r
abbrev Uo (qs:zy Rat):Prop:=qs.Pairwise (· < ·)
theorem RF {x y:Rat}:∀{qs:zy Rat},y∈ins qs x↔y=x\/y∈qs
 | [] =>by simp[ins]
 | q::r=>by
   unfold ins;split
   .rw [AAF,RF,AAF];grind
   .split
    .rename_i h;subst h;simp
    .simp
theorem YB {x:Rat}:∀{qs:zy Rat},Uo qs->Uo (ins qs x)
 | [],_=>by simp[ins]
 | q::r,h=>by
   obtain⟨h1,h2⟩:=AAM.mp h;unfold ins;split
   .rename_i hq;refine AAM.mpr ⟨λy hy=> ?_,YB h2⟩;rcases RF.mp hy with rfl|hy
    .exact hq
    .exact h1 y hy
   .split
    .exact h
    .refine AAM.mpr ⟨λy hy=> ?_,h⟩;rcases AAF.mp hy with rfl|hy
     .grind
     .have:=h1 y hy;grind
theorem XY {x:Rat}:∀{qs:zy Rat},(ins qs x).length<=qs.length+1
 | [] =>by simp[ins]
 | q::r=>by
   have:=XY (x:=x) (qs:=r);unfold ins;split
   .simp;omega
   .split <;> simp
structure At (qs:List Rat) (x:Rat) (k:Nat):Prop where
 le:k<=qs.length
 lo:∀q∈qs.take k,q<x
 hi:∀q∈qs.drop k,¬q<x
theorem VF:∀{qs:zy Rat} {x:Rat} {k:Nat},Uo qs->At qs x k->ins qs x=if qs[k]? =some x then qs else qs.take k++x::qs.drop k
 | [],x,k,_,h=>by have:=h.le;simp at this;subst this;simp[ins]
 | q::r,x,0,_,h=>by
   have:=h.hi q (by simp);unfold ins;rw[AAD this];by_cases e:q=x
   .rw [AAE e,AAE (by simp[e])]
   .rw [AAD e,AAD (by simp[e])];rfl
 | q::r,x,k+1,hs,h=>by have hq:=h.lo q (by simp);have ih:=VF (qs:=r) (x:=x) (k:=k) (AAM.mp hs).2 ⟨by have:=h.le;simp at this;exact this,λy hy=>h.lo y (by simp[hy]),λy hy=>h.hi y (by simpa using hy)⟩;unfold ins;rw[AAE hq,ih];simp only[List.getElem?_cons_succ,ADS,List.drop_succ_cons];split <;> rfl
theorem SQ:∀{a b:zy Rat},Uo a->Uo b->(∀x,x∈a↔x∈b)->a=b
 | [], [],_,_,_=>rfl
 | [],y::b,_,_,h=>by have:=(h y).mpr (by simp);simp at this
 | x::a, [],_,_,h=>by have:=(h x).mp (by simp);simp at this
 | x::a,y::b,ha,hb,h=>by
   obtain⟨f,i⟩:=AAM.mp ha;obtain⟨g,b2⟩:=AAM.mp hb;have c:x=y:=by
    rcases AAF.mp ((h x).mp (by simp)) with e|e
    .exact e
    .rcases AAF.mp ((h y).mpr (by simp)) with d|d
     .exact d.symm
     .have:=g x e;have:=f y d;grind
   subst c;congr 1;refine SQ i b2 λz=>⟨λhz=> ?_,λhz=> ?_⟩
   .rcases AAF.mp ((h z).mp (by simp[hz])) with e|e
    .subst e;have:=f z hz;grind
    .exact e
   .rcases AAF.mp ((h z).mpr (by simp[hz])) with e|e
    .subst e;have:=g z hz;grind
    .exact e
def A9 (xs:zy Rat):zy Rat:=xs.foldl ins []
theorem Mi:∀(xs qs:zy Rat),Uo qs->Uo (xs.foldl ins qs)/\(∀y,y∈xs.foldl ins qs↔y∈xs\/y∈qs)/\(xs.foldl ins qs).length<=qs.length+xs.length
 | [],qs,h=>⟨h,by simp,by simp⟩
 | x::xs,qs,h=>by
   obtain⟨h1,h2,a⟩:=Mi xs (ins qs x) (YB h);refine⟨h1,λy=> ?_, ?_⟩
   .rw [ABB,h2,RF,AAF];grind
   .have:=XY (x:=x) (qs:=qs);rw[ABB,AAb];omega
def Bj {xs:zy Rat}:Uo (A9 xs):=(Mi xs [] .nil).1
def Ax {xs:zy Rat}{y:Rat}:y∈A9 xs↔y∈xs:=by rw[A9,(Mi xs [] .nil).2.1];simp
def DL {xs:zy Rat}:(A9 xs).length<=xs.length:=by have:=(Mi xs [] .nil).2.2;unfold A9;simpa using this
def KG {a b:zy Rat}(h:∀x,x∈a↔x∈b):A9 a=A9 b:=SQ Bj Bj λx=>by rw[Ax,Ax,h]
theorem SY:∀{qs:zy Rat} {m:Nat} {c x:Rat},Uo qs->qs[m]? =some c->c<x->∀q∈qs.take (m+1),q<x
 | [],m,c,x,_,e,_=>by simp at e
 | a::r,0,c,x,_,e,h=>by simp at e;subst e;simp[h]
 | a::r,m+1,c,x,hs,e,h=>by
   obtain⟨h1,h2⟩:=AAM.mp hs;have b:r[m]? =some c:=by simpa using e
   intro q hq;rw[ADS] at hq;rcases AAF.mp hq with rfl|hq
   .have:=h1 c (ABg b);grind
   .exact SY h2 b h q hq
theorem XF:∀{qs:zy Rat} {m:Nat} {c x:Rat},Uo qs->qs[m]? =some c->¬c<x->∀q∈qs.drop m,¬q<x
 | [],m,c,x,_,e,_=>by simp at e
 | a::r,0,c,x,hs,e,h=>by
   simp at e;subst e;intro q hq;rcases AAF.mp hq with rfl|hq
   .exact h
   .have:=(AAM.mp hs).1 q hq;grind
 | a::r,m+1,c,x,hs,e,h=>by intro q hq;exact XF (AAM.mp hs).2 (by simpa using e) h q (by simpa using hq)
def aE {qs:zy Rat}{x:Rat}{B M:Nat}(hs:Uo qs)(hl:qs.length<=1000000)(hq:∀q∈qs,Bd B q)(hx:Bd M x)(r:B<=4000)(s:M<=4000){Q:PV->Prop}(q:∀k:Nat,At qs x k->Q (.int k)):DH [.lst (qs.map fr),fr x] Q:=by
 apply MT;repeat' array_get_dec
 refine ig (λn τ=>∃(lo hi:Nat) (z:zt AV),hi-lo<n/\lo<=hi/\hi<=qs.length/\(∀q∈qs.take lo,q<x)/\(∀q∈qs.drop hi,¬q<x)/\τ= [some (.val (.lst (qs.map fr))),some (.val (fr x)),some (.val (.int lo)),some (.val (.int hi)),z]) ?_ ?_ (n:=qs.length+1) ⟨0,qs.length,none,by omega,by omega,by omega,by simp,by simp,rfl⟩
 .rintro n τ R d ⟨lo,hi,z,h1,h2,i,f,g,rfl⟩;have j:frz [some (.val (.lst (qs.map fr))),some (.val (fr x)),some (.val (.int lo)),some (.val (.int hi)),z] = [some (.val (.lst (qs.map fr))),some (.val (fr x)),some (.val (.int lo)),some (.val (.int hi)),eO z] :=rfl;rw[j];repeat' array_get_dec
  .rename_i l;refine⟨⟨by decide,by decide⟩, ?_⟩;have o:((lo:Int)+hi).fdiv 2=((lo+hi)/2:Nat):=by rw[ABT _ (by decide)];omega
   rw[o];have m1:(lo+hi)/2<hi:=by omega
   have m2:lo<=(lo+hi)/2:=by omega
   generalize (lo+hi)/2=m at *;repeat' array_get_dec
   rename_i c p hc;have a:qs[m]? =some c:=p;have t:=hq c hc;repeat' array_get_dec
   .rename_i b;refine d _ ⟨m+1,hi,_,by omega,by omega,i,SY hs a b,g,rfl⟩
   .rename_i b;refine d _ ⟨lo,m,_,by omega,m2,by omega,f,XF hs a b,rfl⟩
  .rename_i l;have e:lo=hi:=by omega
   subst e;exact q lo ⟨by omega,f,g⟩
 .rintro τ ⟨lo,hi,z,h,_⟩;omega
def ZM {v:PV}{xs:zy Rat}{B:Nat}(hv:v= .lst (xs.map fr)\/v= .tup (xs.map fr))(hl:xs.length<=1000)(hx:∀x∈xs,Bd B x)(m:B<=4000){Q:PV->Prop}(q:Q (.lst ((A9 xs).map fr))):G0 [v] Q:=by
 apply WG;have key:∀{a b:zt AV},DK (An 2) Lf ⟨Ar (aV 1) ⟨λ_=>Q .non,Q,λ_=>False,λ_=>False⟩,Q,λ_=>False,λ_=>False⟩ (xs.map fr) [some (.val v),some (.own []),a,b] :=by
  intro a b;refine CO fr (λus vs τ=>∃a b,τ= [some (.val v),some (.own ((A9 us).map fr)),a,b]) ?_ ?_ ⟨_,_,rfl⟩
  .rintro τ ⟨a,b,rfl⟩;repeat' array_get_dec
   exact q
  .rintro us c vs e τ R n ⟨a,b,rfl⟩;have ul:us.length<=1000:=by have:=congrArg List.length e;simp at this;omega
   have r:=DL (xs:=us);have o:∀y∈A9 us,Bd B y:=λy hy=>hx y (by rw[<-e];simp[Ax.mp hy]);have p:Bd B c:=hx c (by rw[<-e];simp);have f:∀(l:zy Rat) a b,l=ins (A9 us) c->R [some (.val v),some (.own (l.map fr)),a,b] :=λl a b h=>n _ ⟨a,b,by rw[h,show A9 (us ++ [c])=ins (A9 us) c by unfold A9;rw[ABa];rfl]⟩;repeat' array_get_dec
   refine aE Bj (by omega) o p m m λk hk=> ?_;have s:=hk.le;have i:=VF Bj hk;repeat' array_get_dec
   .rename_i h1;have j:(A9 us)[k]? =none:=List.getElem?_eq_none (by omega);rw[j,AAD (by simp)] at i;have:=f _ (some (.val (fr c))) (some (.val (.int k))) i.symm;rw[AAO,AAK,ACy,ACJ] at this;exact this
   .rename_i h1 d j _ h2;have g:(A9 us)[k]? =some d:=j;rw[g,AAD (by simpa using h2)] at i;have:=f _ (some (.val (fr c))) (some (.val (.int k))) i.symm;rw[AAO,AAK,ACy,ACJ] at this;exact this
   .rename_i h1 d j _ h2;have g:(A9 us)[k]? =some d:=j;rw[g,AAE (by rw[h2])] at i;exact f _ _ _ i.symm
 rcases hv with rfl|rfl;all_goals
  ac_rfl;exact key
abbrev Pl:=Rat×Int
abbrev Au:=Rat×Int×zt Rat
def bp (s:Au):Pl:=(s.1,1-s.2.1)
def ep (s:Au):zt Pl:=s.2.2.map λe=>(e,0)
def E9 (p:Pl):FK:=((p.1.num,p.1.den),p.2)
def RB {p q:Pl}(h:E9 p=E9 q):p=q:=by obtain⟨a,i⟩:=p;obtain⟨b,j⟩:=q;unfold E9 at h;simp only[ADh,Int.ofNat_inj] at h;obtain⟨⟨h1,h2⟩,c⟩:=h;have:a=b:=Rat.ext h1 h2;rw[this,c]
def Yl:zt Rat->PV|none=> .non|some e=>fr e
def Aq (s:Au):PV:= .tup [fr s.1, .int s.2.1,Yl s.2.2]
def cV (s:Au):PV:= .lst [fr s.1, .int s.2.1,Yl s.2.2]
def kX {s:Au}{x:PV}(h:x=Aq s\/x=cV s):X1 x=some ((s.1.num,(s.1.den:Int)),s.2.1,s.2.2.map λe=>(e.num,(e.den:Int))):=by obtain⟨b,i,e⟩:=s;rcases h with rfl|rfl <;> cases e <;> rfl
def dU {m:zy (FK×Int)}{k a:FK}{v:Int}:BK (Pa m k v) a=if a=k then some v else BK m a:=by
 unfold Pa;by_cases hk:(m.any λp=>decide (p.1=k))=true
 .rw [AAE hk];induction m with
  | nil=>simp at hk
  | cons p r ih=>
    by_cases e:p.1=k
    .by_cases b:a=k
     .subst b;simp[BK,e]
     .have:¬k=a:=λz=>b z.symm;by_cases d:(r.any λp=>decide (p.1=k))=true
      .have:=ih d;simpa[BK,e,b,this, ‹¬k=a›] using this
      .have f:r.map (λp=>if p.1=k then (p.1,v) else p)=r:=by
        conv=>rhs;rw[<-List.map_id r]
        apply AA6;intro q hq;have:¬q.1=k:=λz=>d (AAo.mpr ⟨q,hq,by simpa using z⟩);rw[AAD this];rfl
       simp only[AAK,e,ABE,f];simp[BK,e,b,this]
    .have d:(r.any λp=>decide (p.1=k))=true:=by simpa[e] using hk
     have:=ih d;by_cases c:p.1=a
     .have:¬a=k:=λz=>e (c.trans z);simp[BK,e,c,this]
     .simpa [BK,e,c] using this
 .rw [AAD hk];induction m with
  | nil=>
    by_cases b:a=k
    .subst b;simp[BK]
    .have:¬k=a:=λz=>b z.symm;simp[BK,b,this]
  | cons p r ih=>
    have e:¬p.1=k:=λz=>hk (by simp[z]);have d:¬(r.any λp=>decide (p.1=k))=true:=λz=>hk (by simp only[AA2,z,Bool.or_true]);have:=ih d;by_cases c:p.1=a
    .have:¬a=k:=λz=>e (c.trans z);simp[BK,c,this]
    .simpa [BK,c] using this
def fL {m:zy (FK×Int)}{k a:FK}{v:Int}:a∈(Pa m k v).map (·.1)↔a=k\/a∈m.map (·.1):=by
 unfold Pa;split
 .rename_i hk;obtain⟨q,hq,e⟩:=AAo.mp hk;have e:q.1=k:=by simpa using e
  have:(m.map λp=>if p.1=k then (p.1,v) else p).map (·.1)=m.map (·.1):=by rw[AAd];apply AA6;intro p _;by_cases z:p.1=k <;> simp[z]
  rw[this];refine⟨.inr,λh=>h.elim (λz=> ?_) id⟩;rw[z,<-e];exact AAR.mpr ⟨q,hq,rfl⟩
 .rw [AAO,AAN];simp only[AAK,ABS,AAV];exact Or.comm
def gx {m:zy (FK×Int)}{k:FK}:(BK m k).isSome=true↔k∈m.map (·.1):=by
 unfold BK;rw[ACN,List.find?_isSome,AAR];constructor
 .rintro ⟨p,hp,e⟩;exact⟨p,hp,by simpa using e⟩
 .rintro ⟨p,hp,e⟩;exact⟨p,hp,by simpa using e⟩
def J9 (s:Au)(p:Pl):Int:=(if bp s=p then 1 else 0)-(if ep s=some p then 1 else 0)
def cnt (ss:zy Au)(p:Pl):Int:=(ss.map λs=>J9 s p).sum
def J1 (ss:zy Au)(p:Pl):Prop:=∃s∈ss,bp s=p\/ep s=some p
def K2 {m:zy (FK×Int)}{k a:FK}{d:Int}:(BK (bump m k d) a).getD 0=(BK m a).getD 0+if a=k then d else 0:=by
 unfold bump;rw[dU];by_cases e:a=k
 .subst e;simp
 .simp [e]
def N1 {m:zy (FK×Int)}{k a:FK}{d:Int}:a∈(bump m k d).map (·.1)↔a=k\/a∈m.map (·.1):=fL
inductive EE:List PV->List Au->Prop where
 | nil:EE [] []
 | cons {x:PV} {s:Au} {xs:List PV} {ss:List Au} (h:x=Aq s\/x=cV s) (t:EE xs ss):EE (x::xs) (s::ss)
def EE.length:∀{xs:zy PV} {ss:zy Au},EE xs ss->xs.length=ss.length
 | _,_, .nil=>rfl
 | _,_, .cons _ t=>by simp[t.length]
def Ft (ss:zy Au):EE (ss.map Aq) ss:=by
 induction ss with
 | nil=>exact .nil
 | cons s ss ih=>exact .cons (.inl rfl) ih
def Ug {m:zy (FK×Int)}{s:Au}:(∀p,(BK (GK m (s.1.num,(s.1.den:Int)) s.2.1 (s.2.2.map λe=>(e.num,(e.den:Int)))) (E9 p)).getD 0=(BK m (E9 p)).getD 0+J9 s p)/\ ∀k,k∈(GK m (s.1.num,(s.1.den:Int)) s.2.1 (s.2.2.map λe=>(e.num,(e.den:Int)))).map (·.1)↔k∈m.map (·.1)\/∃p,(bp s=p\/ep s=some p)/\k=E9 p:=by
 obtain⟨b,h,e⟩:=s;have a:∀p:Pl,(E9 p=((b.num,(b.den:Int)),1-h))↔bp (b,h,e)=p:=λp=>⟨λz=>(RB (p:=p) (q:=(b,1-h)) z).symm,λz=>by rw[<-z];rfl⟩;cases e with
 | none=>
   refine⟨λp=> ?_,λk=> ?_⟩
   .show (BK (bump m ((b.num,(b.den:Int)),1-h) 1) (E9 p)).getD 0=_;rw[K2];simp only[a,J9,ep];simp
   .show k∈(bump m ((b.num,(b.den:Int)),1-h) 1).map (·.1)↔_;rw[N1];constructor
    .rintro (z|z)
     .exact .inr ⟨_, .inl rfl,z⟩
     .exact .inl z
    .rintro (z|⟨p,z|z,hk⟩)
     .exact .inr z
     .exact .inl (by rw[hk,<-z];rfl)
     .cases z
 | some e=>
   have c:∀p:Pl,(E9 p=((e.num,(e.den:Int)),0))↔ep (b,h,some e)=some p:=λp=>⟨λz=>by rw[<-RB (p:=(e,0)) (q:=p) z.symm];rfl,λz=>by cases z;rfl⟩;refine⟨λp=> ?_,λk=> ?_⟩
   .show (BK (bump (bump m ((b.num,(b.den:Int)),1-h) 1) ((e.num,(e.den:Int)),0) (-1)) (E9 p)).getD 0=_;rw[K2,K2];simp only[a,c,J9];split <;> split <;> omega
   .show k∈(bump (bump m ((b.num,(b.den:Int)),1-h) 1) ((e.num,(e.den:Int)),0) (-1)).map (·.1)↔_;rw[N1,N1];constructor
    .rintro (z|z|z)
     .exact .inr ⟨(e,0), .inr rfl,z⟩
     .exact .inr ⟨_, .inl rfl,z⟩
     .exact .inl z
    .rintro (z|⟨p,z|z,hk⟩)
     .exact .inr (.inr z)
     .exact .inr (.inl (by rw[hk,<-z];rfl))
     .exact .inl (by rw[hk];exact(c p).mpr z)
theorem QU:∀{xs:zy PV} {ss:zy Au} (m0:zy (FK×Int)),EE xs ss->∃m,FW xs m0=some m/\(∀p,(BK m (E9 p)).getD 0=(BK m0 (E9 p)).getD 0+cnt ss p)/\(∀k,k∈m.map (·.1)↔k∈m0.map (·.1)\/∃p,J1 ss p/\k=E9 p)/\m.length<=m0.length+2*ss.length
 | _,_,m0, .nil=>⟨m0,rfl,λp=>by simp[cnt],λk=>by simp[J1],by simp⟩
 | x::xs,s::ss,m0, .cons h t=>by
   obtain⟨m,h1,h2,d,i⟩:=QU (GK m0 (s.1.num,(s.1.den:Int)) s.2.1 (s.2.2.map λe=>(e.num,(e.den:Int)))) t;obtain⟨f,g⟩:=Ug (m:=m0) (s:=s);refine⟨m, ?_,λp=> ?_,λk=> ?_, ?_⟩
   .unfold FW;rw[kX h];exact h1
   .rw [h2,f];simp[cnt];omega
   .rw [d,g];constructor
    .rintro ((z|⟨p,z,e⟩)|⟨p,⟨c,a,z⟩,e⟩)
     .exact .inl z
     .exact .inr ⟨p,⟨s,by simp,z⟩,e⟩
     .exact .inr ⟨p,⟨c,by simp[a],z⟩,e⟩
    .rintro (z|⟨p,⟨c,a,z⟩,e⟩)
     .exact .inl (.inl z)
     .rcases AAF.mp a with rfl|a
      .exact .inl (.inr ⟨p,z,e⟩)
      .exact .inr ⟨p,⟨c,a,z⟩,e⟩
   .have:=Lw (m:=m0) (b:=(s.1.num,(s.1.den:Int))) (h:=s.2.1) (e:=s.2.2.map λe=>(e.num,(e.den:Int)));simp only[AAb];omega
def JW (x p:Pl):zq:=decide (x.1<p.1)||(decide (x.1=p.1)&&decide (x.2<=p.2))
def Al (s:Au)(p:Pl):zq:=(decide (s.1<p.1)||(decide (s.1=p.1)&&decide (0<s.2.1+p.2)))&&(match s.2.2 with | none=>true|some e=>decide (p.1<e))
structure BD (B:Nat) (s:Au):Prop where
 b:Bd B s.1
 h:s.2.1=0\/s.2.1=1
 e:∀e,s.2.2=some e->s.1<e/\Bd B e
def tm (s:Au)(p:Pl):Int:=(if JW (bp s) p=true then 1 else 0)-(if (ep s).any (JW · p)=true then 1 else 0)
def oz {B:Nat}{s:Au}{p:Pl}(ok:BD B s)(hp:0<=p.2):tm s p=if Al s p=true then 1 else 0:=by
 obtain⟨b,h,e⟩:=s;obtain⟨q,i⟩:=p;have g:h=0\/h=1:=ok.h;have hp:0<=i:=hp;have d:JW (bp (b,h,e)) (q,i)=(decide (b<q)||(decide (b=q)&&decide (0<h+i))):=by unfold JW bp;congr 2;exact ABM.mpr (by show 1-h<=i↔0<h+i;omega)
 cases e with
 | none=> unfold tm Al;rw[d];simp[ep]
 | some e=>
   have j:b<e:=(ok.e e rfl).1;have f:(ep (b,h,some e)).any (JW · (q,i))= !decide (q<e):=by
    show JW (e,0) (q,i)=_;unfold JW;by_cases z:q<e
    .have a:¬e<q:=by grind
     have c:¬e=q:=by grind
     simp[z,a,c]
    .by_cases a:e<q
     .simp [z,a]
     .have c:e=q:=by grind
      simp[c,hp]
   unfold tm Al;rw[d,f];by_cases z:q<e
   .simp [z]
   .have a:b<q:=by grind
    simp[z,a]
def Hn (ss:zy Au)(p:Pl):Nat:=(ss.filter (Al · p)).length
theorem Vi {B:Nat}{p:Pl}(hp:0<=p.2):∀{ss:zy Au},(∀s∈ss,BD B s)->(Hn ss p:Int)=(ss.map λs=>tm s p).sum
 | [],_=>rfl
 | s::ss,h=>by
   have ih:=Vi hp (ss:=ss) λx hx=>h x (by simp[hx]);have e:=oz (p:=p) (h s (by simp)) hp;rw[AAK,ACI,<-ih,e];unfold Hn;rw[ABA];split
   .simp;omega
   .simp
def Im (x p:Pl):Prop:=x.1<p.1\/(x.1=p.1/\x.2<p.2)
def Fp {a b c:Pl}(h:Im a b)(h2:Im b c):Im a c:=by
 unfold Im at *;rcases h with h|⟨h,h'⟩ <;> rcases h2 with h2|⟨h2,d⟩
 .left;grind
 .left;grind
 .left;grind
 .right;exact⟨by grind,by omega⟩
def Ce {x p:Pl}:JW x p=true↔Im x p\/x=p:=by
 obtain⟨a,i⟩:=x;obtain⟨b,j⟩:=p;unfold JW Im;simp only[ABk,AAn,AC4,ADh];constructor
 .rintro (h|⟨h,h2⟩)
  .exact .inl (.inl h)
  .by_cases e:i=j
   .exact .inr ⟨h,e⟩
   .exact .inl (.inr ⟨h,by omega⟩)
 .rintro ((h|⟨h,h2⟩)|⟨h,h2⟩)
  .exact .inl h
  .exact .inr ⟨h,by omega⟩
  .exact .inr ⟨h,by omega⟩
def Hi {p:Pl}:¬Im p p:=by
 unfold Im;rintro(h|⟨_,h⟩)
 .grind
 .omega
def Tp (x:Pl):zt Pl->zq|none=>false|some p=>JW x p
def gu (s:Au)(o:zt Pl):Int:=(if Tp (bp s) o=true then 1 else 0)-(if (ep s).any (Tp · o)=true then 1 else 0)
def rQ:zt Pl->Pl->Prop|none,_=>True|some q,p=>Im q p
def Ka {x p:Pl}{o:zt Pl}(hx:Tp x o=true\/x=p\/Im p x)(a:rQ o p):JW x p=(Tp x o||decide (x=p))/\¬(Tp x o=true/\x=p):=by
 have h1:Tp x o=true->Im x p:=λh=>by
  cases o with
  | none=>cases h
  | some q=>rcases Ce.mp h with h|h
            .exact Fp h a
            .rw [h];exact a
 refine⟨?_,λh=>by rw[h.2] at h1;exact Hi (h1 (h.2 ▸ h.1))⟩;rw[AA0,ABk,AC4,Ce];constructor
 .rintro (h|h)
  .rcases hx with z|z|z
   .exact .inl z
   .exact .inr z
   .exact absurd (Fp h z) Hi
  .exact .inr h
 .rintro (h|h)
  .exact .inl (h1 h)
  .exact .inr h
def ax {A:zq}{E:Prop}[Decidable E](h:¬(A=true/\E)):(if (A||decide E)=true then (1:Int) else 0)=(if A=true then 1 else 0)+if E then 1 else 0:=by cases A <;> by_cases e:E <;> simp_all
def gv {s:Au}{p:Pl}{o:zt Pl}(hb:Tp (bp s) o=true\/bp s=p\/Im p (bp s))(he:∀x,ep s=some x->Tp x o=true\/x=p\/Im p x)(a:rQ o p):tm s p=gu s o+J9 s p:=by
 obtain⟨b,b2⟩:=Ka hb a;unfold tm gu J9;rw[b,ax b2];cases e:ep s with
 | none=>simp
 | some x=>
   obtain⟨c,d⟩:=Ka (he x e) a;have h1:(if (some x).any (JW · p)=true then (1:Int) else 0)=(if Tp x o=true then 1 else 0)+if x=p then 1 else 0:=by show (if JW x p=true then (1:Int) else 0)=_;rw[c,ax d]
   rw[h1];show _=(_-(if Tp x o=true then (1:Int) else 0))+(_-(if some x=some p then (1:Int) else 0));have h2:(if some x=some p then (1:Int) else 0)=if x=p then 1 else 0:=by by_cases z:x=p <;> simp[z]
   rw[h2];omega
def YV (X:zy Pl):Prop:=X.Pairwise Im
def Gs (ss:zy Au):Int->zy Pl->Prop
 | _, [] =>True
 | c,p::r=>(Hn ss p:Int)=c+cnt ss p/\Gs ss (Hn ss p) r
theorem YE {a:Type}(f g:a->Int):∀xs:zy a,(xs.map λx=>f x+g x).sum=(xs.map f).sum+(xs.map g).sum
 | [] =>rfl
 | x::xs=>by simp only[AAK,ACI,YE f g xs];omega
theorem Nh {B:Nat}{ss:zy Au}(ok:∀s∈ss,BD B s):∀(X:zy Pl) (o:zt Pl),YV X->(∀p∈X,rQ o p/\0<=p.2)->(∀s∈ss,(Tp (bp s) o=true\/bp s∈X)/\∀x,ep s=some x->Tp x o=true\/x∈X)->Gs ss ((ss.map λs=>gu s o).sum) X
 | [],_,_,_,_=>True.intro
 | p::r,o,hs,ho,hk=>by
   obtain⟨h1,h2⟩:=AAM.mp hs;obtain⟨op,a⟩:=ho p (by simp);have cls:∀x,(Tp x o=true\/x∈p::r)->Tp x o=true\/x=p\/Im p x:=λx h=>by
    rcases h with h|h
    .exact .inl h
    .rcases AAF.mp h with h|h
     .exact .inr (.inl h)
     .exact .inr (.inr (h1 x h))
   have e:(Hn ss p:Int)=(ss.map λs=>gu s o).sum+cnt ss p:=by rw[Vi a ok];unfold cnt;rw[<-YE];congr 1;apply AA6;intro s hs;exact gv (cls _ (hk s hs).1) (λx ex=>cls x ((hk s hs).2 x ex)) op
   refine⟨e, ?_⟩;have:=Nh ok r (some p) h2 (λq hq=>⟨h1 q hq,(ho q (by simp[hq])).2⟩) (λs hs=>⟨?_,λx ex=> ?_⟩)
   .rw [show (ss.map λs=>gu s (some p)).sum=(Hn ss p:Int) from(Vi a ok).symm] at this;exact this
   .rcases cls _ (hk s hs).1 with z|z|z
    .exact .inl (by rw[show Tp (bp s) (some p)=JW (bp s) p from rfl,(Ka (.inl z) op).1,z];rfl)
    .exact .inl (Ce.mpr (.inr z))
    .rcases (hk s hs).1 with y|y
     .exact .inl (by rw[show Tp (bp s) (some p)=JW (bp s) p from rfl,(Ka (.inl y) op).1,y];rfl)
     .rcases AAF.mp y with y|y
      .exact .inl (Ce.mpr (.inr y))
      .exact .inr y
   .rcases (hk s hs).2 x ex with y|y
    .exact .inl (by rw[show Tp x (some p)=JW x p from rfl,(Ka (.inl y) op).1,y];rfl)
    .rcases AAF.mp y with y|y
     .exact .inl (Ce.mpr (.inr y))
     .exact .inr y
def places (qs:zy Rat):zy Pl:=qs.flatMap λq=> [(q,0),(q,1)]
def BF {qs:zy Rat}{p:Pl}:p∈places qs↔p.1∈qs/\(p.2=0\/p.2=1):=by
 obtain⟨a,i⟩:=p;unfold places;simp only[AAj,AAF,AAg,AAe,ADh];constructor
 .rintro ⟨q,hq,⟨rfl,rfl⟩|⟨rfl,rfl⟩⟩
  .exact ⟨hq, .inl rfl⟩
  .exact ⟨hq, .inr rfl⟩
 .rintro ⟨h,h2⟩;exact⟨a,h,h2.elim (λz=> .inl ⟨rfl,z⟩) (λz=> .inr ⟨rfl,z⟩)⟩
theorem D6:∀{qs:zy Rat},Uo qs->YV (places qs)
 | [],_=>List.Pairwise.nil
 | q::r,h=>by
   obtain⟨h1,h2⟩:=AAM.mp h;have ih:=D6 h2;have a:∀(i:Int),∀p∈places r,Im (q,i) p:=λi p hp=> .inl (h1 _ (BF.mp hp).1);show YV ((q,0)::(q,1)::places r);refine AAM.mpr ⟨λp hp=> ?_,AAM.mpr ⟨a 1,ih⟩⟩;rcases AAF.mp hp with rfl|hp
   .exact .inr ⟨rfl,by show (0:Int)<1;decide⟩
   .exact a 0 p hp
def Ai (ss:zy Au):zy Rat:=ss.flatMap λs=>s.1::s.2.2.toList
def C9 (ss:zy Au):zy Pl:=places (A9 (Ai ss))
def N2 {B:Nat}{ss:zy Au}(ok:∀s∈ss,BD B s){s:Au}(hs:s∈ss):bp s∈C9 ss/\∀x,ep s=some x->x∈C9 ss:=by
 refine⟨BF.mpr ⟨Ax.mpr (AAj.mpr ⟨s,hs,by simp[bp]⟩), ?_⟩,λx ex=> ?_⟩
 .have:=(ok s hs).h;unfold bp;simp only;omega
 .obtain ⟨e,he,rfl⟩:=ABN.mp ex;exact BF.mpr ⟨Ax.mpr (AAj.mpr ⟨s,hs,by simp[he]⟩), .inl rfl⟩
def E5 {B:Nat}{ss:zy Au}(ok:∀s∈ss,BD B s):Gs ss 0 (C9 ss):=by
 have h:=Nh ok (C9 ss) none (D6 Bj) (λp hp=>⟨True.intro,by rcases (BF.mp hp).2 with z|z <;> omega⟩) (λs hs=>⟨.inr (N2 ok hs).1,λx ex=> .inr ((N2 ok hs).2 x ex)⟩);have:(ss.map λs=>gu s none).sum=0:=by
  clear h ok;induction ss with
  | nil=>rfl
  | cons s ss ih=> rw[AAK,ACI,ih];unfold gu;cases ep s <;> rfl
 rw[this] at h;exact h
def Cm (val:Pl->zt Int)(st:zy (Pl×Int)×Int)(p:Pl):zy (Pl×Int)×Int:=match val p with | some v=>(st.1 ++ [(p,st.2+v)],st.2+v)|none=>st
theorem Sa {ss:zy Au}{val:Pl->zt Int}(h1:∀p v,val p=some v->v=cnt ss p)(h2:∀p,val p=none->cnt ss p=0):∀(X:zy Pl) (a:zy (Pl×Int)) (c:Int),Gs ss c X->(X.foldl (Cm val) (a,c)).1=a++(X.filter λp=>(val p).isSome).map λp=>(p,(Hn ss p:Int))
 | [],a,c,_=>by simp
 | p::r,a,c,h=>by
   rw[ABB];cases e:val p with
   | none=>
     have hc:(Hn ss p:Int)=c:=by rw[h.1,h2 p e];omega
     rw[show Cm val (a,c) p=(a,c) by unfold Cm;rw[e],Sa h1 h2 r a c (hc ▸ h.2),ABA,AAD (by rw[e];decide)]
   | some v=>
     have hc:c+v=(Hn ss p:Int):=by rw[h.1,h1 p v e]
     rw[show Cm val (a,c) p=(a ++ [(p,c+v)],c+v) by unfold Cm;rw[e],hc,Sa h1 h2 r _ _ h.2,ABA,AAE (by rw[e];rfl),AAK,ADg];rfl
section
variable {ta tb td:AE}{r:AA}{τ:A6}{Q:PV->Prop}{QL:zy PV->Prop}{m:zy (FK×Int)}
def ng (xs:zy PV)(Q:zy PV->Prop):Prop:=match xs with | [.dct kvs] =>Q (kvs.map λp=>Vq p.1)|_=>False
instance:Wp (VD r τ QL) (r τ λxs=>ng xs QL):=⟨id⟩
instance:Wp (ng [.dct m] QL) (QL (m.map λp=>Vq p.1)):=⟨id⟩
class d6 (m:List (FK×Int)) (k:FK) (i:outParam Int):Prop where
 e:BK m k=some i
def rW (m:zy (FK×Int))(k:FK)(Q:PV->Prop):Prop:=match BK m k with | some i=>Q (.int i)|none=>False
instance:Wp (d8 ta tb td τ Q) (ta τ λx=>tb τ λy=>td τ λm=>lv m λkvs=>OE x y λk=>Q (.bl (BK kvs k).isSome)):=⟨id⟩
instance:Wp (Z5 td ta tb τ Q) (td τ λm=>ta τ λx=>tb τ λy=>lv m λkvs=>OE x y λk=>rW kvs k Q):=⟨id⟩
instance{k:FK}{i:Int}[h:d6 m k i] :Wp (rW m k Q) (Q (.int i)):=⟨λz=>by unfold rW;rw[h.e];exact z⟩
instance{R:zy (FK×Int)->Prop}:Wp (lv (.dct m) R) (R m):=⟨id⟩
instance{q:Rat}{i:Int}{R:FK->Prop}:Wp (OE (fr q) (.int i) R) (R (E9 (q,i))):=⟨id⟩
end
def dD {v:PV}{xs:zy PV}{m:zy (FK×Int)}(hv:v= .tup xs\/v= .lst xs)(hl:xs.length<=1000)(h:FW xs [] =some m){Q:PV->Prop}(q:Q (.dct m)):HZ [v] Q:=by
 have hz:2*xs.length+2<sizeLine:=AA1 (by omega:_<=2002) (AAX (by decide:2002<2003) (AAs rfl));rcases hv with rfl|rfl
 .exact ⟨hz,m,h,q⟩
 .exact ⟨hz,m,h,q⟩
def un (k:FK):Rat:=mkRat k.1.1 k.1.2.toNat
def lT (p:Pl):un (E9 p)=p.1:=by unfold un E9;show mkRat p.1.num ((p.1.den:Int).toNat)=p.1;rw[ABt];exact Rat.mkRat_self p.1
def jn (p:Pl):Vq (E9 p)= .tup [fr p.1, .int p.2] :=rfl
def pV (x:Pl×Int):PV:= .tup [fr x.1.1, .int x.1.2, .int x.2]
def RE (ss:zy Au)(key:Pl->zq):zy (Pl×Int):=((C9 ss).filter key).map λp=>(p,(Hn ss p:Int))
def Y3 {v:PV}{xs:zy PV}{ss:zy Au}{B:Nat}(hv:v= .tup xs\/v= .lst xs)(E:EE xs ss)(ok:∀s∈ss,BD B s)(hl:ss.length<=400)(I:B<=4000){Q:PV->Prop}(q:∀key:Pl->zq,(∀p,key p=true↔J1 ss p)->Q (.lst ((RE ss key).map pV))):Gz [v] Q:=by
 obtain⟨m,J,F,C,K⟩:=QU [] E;have hx:=E.length;have M:∀p:Pl,(BK m (E9 p)).isSome=true↔J1 ss p:=λp=>by
  rw[gx,C];constructor
  .rintro (z|⟨T,z,e⟩)
   .cases z
   .rw [RB e];exact z
  .exact λz=> .inr ⟨p,z,rfl⟩
 have G:=q (λp=>(BK m (E9 p)).isSome) M;have g:∀p w,BK m (E9 p)=some w->w=cnt ss p:=λp w e=>by have:=F p;rw[e] at this;simpa[BK] using this
 have N:∀p,BK m (E9 p)=none->cnt ss p=0:=λp e=>by have:=F p;rw[e] at this;simp[BK] at this;omega
 have O:=Sa g N (C9 ss) [] 0 (E5 ok);have mk:∀k∈m,∃p,k.1=E9 p/\J1 ss p:=λk hk=>by
  rcases (C k.1).mp (AAR.mpr ⟨k,hk,rfl⟩) with z|⟨p,z,e⟩
  .cases z
  .exact ⟨p,e,z⟩
 have ms:∀x,x∈m.map (λk=>un k.1)↔x∈Ai ss:=λx=>by
  rw[AAR];unfold Ai;rw[AAj];constructor
  .rintro ⟨k,hk,rfl⟩;obtain⟨p,e,s,hs,z⟩:=mk k hk;rw[e,lT];refine⟨s,hs, ?_⟩;rcases z with z|z
   .rw [<-z];simp[bp]
   .obtain ⟨U,he,rfl⟩:=ABN.mp z;simp[he]
  .rintro ⟨s,hs,hx⟩;have go:∀p:Pl,J1 ss p->∃a∈m,un a.1=p.1:=λp hp=>by obtain⟨a,ha,e⟩:=AAR.mp ((C (E9 p)).mpr (.inr ⟨p,hp,rfl⟩));exact⟨a,ha,by rw[e,lT]⟩
   rcases AAF.mp hx with rfl|hx
   .exact go (bp s) ⟨s,hs, .inl rfl⟩
   .have hx:s.2.2=some x:=by simpa using hx
    exact go (x,0) ⟨s,hs, .inr (by unfold ep;rw[hx];rfl)⟩
 have bm:∀x∈m.map (λk=>un k.1),Bd B x:=λx h=>by
  obtain⟨s,hs,hx⟩:=AAj.mp ((ms x).mp h);rcases AAF.mp hx with rfl|hx
  .exact (ok s hs).b
  .exact ((ok s hs).e x (by simpa using hx)).2
 have H:A9 (m.map λk=>un k.1)=A9 (Ai ss):=KG ms;have W:m.length<=800:=by simp at K;omega
 apply WF;ac_rfl;refine dD hv (by omega) J ?_;ac_rfl;refine CN (λk:FK×Int=>Vq k.1) fr (λk=>un k.1) (λk=>k∈m) (λk hk R y=> ?_) m [] (λ_ h=>h) ?_
 .obtain ⟨p,e,_⟩:=mk k hk;rw[e,lT] at y;rw[e,jn];repeat' array_get_dec
  exact y
 ac_rfl;rw[AAp];refine ZM (.inl rfl) (by rw[AAI];omega) bm I ?_;rw[H];have Y:(A9 (Ai ss)).length<=800:=by rw[<-H];exact AAh DL (by rw[AAI];omega)
 ac_rfl;refine CO fr (λus vs τ=>∃r t,τ= [some (.val v),some (.val (.dct m)),some (.own (((places us).foldl (Cm λp=>BK m (E9 p)) ([],0)).1.map pV)),some (.val (.int ((places us).foldl (Cm λp=>BK m (E9 p)) ([],0)).2)),r,t]) ?_ ?_ ⟨_,_,rfl⟩
 .rintro τ ⟨r,t,rfl⟩;repeat' array_get_dec
  have e:RE ss (λp=>(BK m (E9 p)).isSome)=((places (A9 (Ai ss))).foldl (Cm λp=>BK m (E9 p)) ([],0)).1:=by rw[show places (A9 (Ai ss))=C9 ss from rfl,O];rfl
  rw[e] at G;exact G
 .rintro us c vs e τ R y ⟨r,t,rfl⟩;have ep:places (us ++ [c])=places us ++ [(c,0),(c,1)] :=by unfold places;simp
  have es:(places (us ++ [c])).foldl (Cm λp=>BK m (E9 p)) ([],0)=Cm (λp=>BK m (E9 p)) (Cm (λp=>BK m (E9 p)) ((places us).foldl (Cm λp=>BK m (E9 p)) ([],0)) (c,0)) (c,1):=by rw[ep,ABa];rfl
  have P:((places us).foldl (Cm λp=>BK m (E9 p)) ([],0)).1.length<=2*us.length:=by
   have go:∀(X:zy Pl) (st:zy (Pl×Int)×Int),(X.foldl (Cm λp=>BK m (E9 p)) st).1.length<=st.1.length+X.length:=by
    intro X;induction X with
    | nil=>intro st;simp
    | cons p X ih=>
      intro st;have h1:=ih (Cm (λp=>BK m (E9 p)) st p);have h2:(Cm (λp=>BK m (E9 p)) st p).1.length<=st.1.length+1:=by unfold Cm;split <;> simp
      rw[ABB,AAb];omega
   have h1:=go (places us) ([],0);have h2:(places us).length=2*us.length:=by
    unfold places;clear y es ep e h1;induction us with
    | nil=>rfl
    | cons u us ih=>rw[AB2,AAf,ih];simp;omega
   simp at h1;omega
  have ul:us.length<=800:=by have:=congrArg List.length e;simp at this;omega
  generalize (places us).foldl (Cm λp=>BK m (E9 p)) ([],0)=st at *;obtain⟨L,n⟩:=st;have i:∀(L2:zy (Pl×Int)) D r t,(L2,D)=Cm (λp=>BK m (E9 p)) (Cm (λp=>BK m (E9 p)) (L,n) (c,0)) (c,1)->R [some (.val v),some (.val (.dct m)),some (.own (L2.map pV)),some (.val (.int D)),r,t] :=λL2 D r t h=>y _ ⟨r,t,by rw[es,<-h]⟩;clear y;have l:(Rat.num 0:Int)=0:=rfl;have o:((Rat.den 0:Nat):Int)=1:=rfl;have S:L.length<=1600:=by have h:L.length<=2*us.length:=P;omega
  cases j:BK m (E9 (c,0)) with
  | none=>
    cases d:BK m (E9 (c,1)) with
    | none=>
      have f:=i L n;repeat' array_get_dec
      simp only[l,o,j];repeat' array_get_dec
      simp only[l,o,d];repeat' array_get_dec
      exact f _ _ (by unfold Cm;simp only[j,d])
    | some g=>
      have f:=i (L ++ [((c,1),n+g)]) (n+g);rw[AAO] at f;haveI:d6 m (E9 (c,1)) g:=⟨d⟩;repeat' array_get_dec
      simp only[l,o,j];repeat' array_get_dec
      simp only[l,o,d];repeat' array_get_dec
      exact f _ _ (by unfold Cm;simp only[j,d])
  | some A=>
    haveI:d6 m (E9 (c,0)) A:=⟨j⟩;cases d:BK m (E9 (c,1)) with
    | none=>
      have f:=i (L ++ [((c,0),n+A)]) (n+A);rw[AAO] at f;repeat' array_get_dec
      simp only[l,o,j];repeat' array_get_dec
      simp only[l,o,d];repeat' array_get_dec
      exact f _ _ (by unfold Cm;simp only[j,d])
    | some g=>
      have f:=i (L ++ [((c,0),n+A)] ++ [((c,1),n+A+g)]) (n+A+g);rw[AAO,AAO] at f;haveI:d6 m (E9 (c,1)) g:=⟨d⟩;repeat' array_get_dec
      simp only[l,o,j];repeat' array_get_dec
      simp only[l,o,d];repeat' array_get_dec
      exact f _ _ (by unfold Cm;simp only[j,d])
def stepI (st:zy Au×zt Pl)(x:Pl×zq):zy Au×zt Pl:=
 match st.2,x.2 with
 | none,true=>(st.1,some x.1)
 | some b,false=>(st.1 ++ [(b.1,1-b.2,some x.1.1)],none)
 | _,_=>st
def PF (st:zy Au×zt Pl):zy Au:=match st.2 with | none=>st.1|some b=>st.1 ++ [(b.1,1-b.2,none)]
def Dd (X:zy (Pl×zq)):zy Au:=PF (X.foldl stepI ([],none))
def YZ:zt Pl->PV|none=> .non|some b=> .tup [fr b.1, .int (1-b.2)]
def ZS {st:zy Au×zt Pl}{x:Pl×zq}:(stepI st x).1.length<=st.1.length+1:=by unfold stepI;split <;> simp
theorem Hf:∀(X:zy (Pl×zq)) (st:zy Au×zt Pl),(X.foldl stepI st).1.length<=st.1.length+X.length
 | [],st=>by simp
 | x::X,st=>by have h1:=Hf X (stepI st x);have h2:=ZS (st:=st) (x:=x);rw[ABB,AAb];omega
theorem Eb:∀{ss:zy Au},(Ai ss).length<=2*ss.length
 | [] =>by simp[Ai]
 | s::ss=>by
   have ih:=Eb (ss:=ss);unfold Ai at *;rw[AB2,AAf,AAb,AAb];have:s.2.2.toList.length<=1:=by cases s.2.2 <;> simp
   omega
theorem F6:∀{qs:zy Rat},(places qs).length=2*qs.length
 | [] =>rfl
 | q::qs=>by have ih:=F6 (qs:=qs);unfold places at *;rw[AB2,AAf,ih,AAb];simp;omega
def bK {ss:zy Au}{key:Pl->zq}:(RE ss key).length<=4*ss.length:=by unfold RE C9;rw[AAI];have h1:=List.length_filter_le key (places (A9 (Ai ss)));have h2:=F6 (qs:=A9 (Ai ss));have a:=DL (xs:=Ai ss);have b:=Eb (ss:=ss);omega
def VN {v:PV}{xs:zy PV}{ss:zy Au}{B:Nat}{n:Int}(hv:v= .tup xs\/v= .lst xs)(t:EE xs ss)(ok:∀s∈ss,BD B s)(hl:ss.length<=400)(u:B<=4000){Q:PV->Prop}(q:∀key:Pl->zq,(∀p,key p=true↔J1 ss p)->Q (.tup ((Dd ((RE ss key).map λx=>(x.1,decide (n<=x.2)))).map Aq))):Dw [v, .int n] Q:=by
 apply UU;ac_rfl;refine Y3 hv t ok hl u λkey hk=> ?_;have l:=q key hk;have w:(RE ss key).length<=2000:=AAh bK (by omega);clear q;generalize RE ss key=Ls at *;ac_rfl;refine CO pV (λus vs τ=>∃a d g,τ= [some (.val v),some (.val (.int n)),some (.own (((us.map λx=>(x.1,decide (n<=x.2))).foldl stepI ([],none)).1.map Aq)),some (.val (YZ ((us.map λx=>(x.1,decide (n<=x.2))).foldl stepI ([],none)).2)),a,d,g]) ?_ ?_ ⟨_,_,_,rfl⟩
 .rintro τ ⟨a,d,g,rfl⟩;have m:=Hf (Ls.map λx=>(x.1,decide (n<=x.2))) ([],none);unfold Dd at l;generalize (Ls.map λx=>(x.1,decide (n<=x.2))).foldl stepI ([],none)=st at *;obtain⟨L,b⟩:=st;have o:L.length<=2000:=by have h:L.length<=0+_:=m;rw[AAI] at h;omega
  cases b with
  | none=>
    have j:Q (.tup (L.map Aq)):=l;show Fu _ [some (.val v),some (.val (.int n)),some (.own (L.map Aq)),some (.val .non),a,d,g];repeat' array_get_dec
    exact j
  | some b=>
    have j:Q (.tup ((L ++ [(b.1,1-b.2,none)]).map Aq)):=l;rw[AAO] at j;show Fu _ [some (.val v),some (.val (.int n)),some (.own (L.map Aq)),some (.val (.tup [fr b.1, .int (1-b.2)])),a,d,g];repeat' array_get_dec
    exact j
 .rintro us c vs e τ R r ⟨a,d,g,rfl⟩;have m:=Hf (us.map λx=>(x.1,decide (n<=x.2))) ([],none);have ul:us.length<=2000:=by have:=congrArg List.length e;simp at this;omega
  have es:((us ++ [c]).map λx=>(x.1,decide (n<=x.2))).foldl stepI ([],none)=stepI ((us.map λx=>(x.1,decide (n<=x.2))).foldl stepI ([],none)) (c.1,decide (n<=c.2)):=by rw[AAO,ABa];rfl
  generalize (us.map λx=>(x.1,decide (n<=x.2))).foldl stepI ([],none)=st at *;obtain⟨L,b⟩:=st;have o:L.length<=2000:=by have h:L.length<=0+_:=m;rw[AAI] at h;omega
  have i:∀L2 b2 a d g,(L2,b2)=stepI (L,b) (c.1,decide (n<=c.2))->R [some (.val v),some (.val (.int n)),some (.own (L2.map Aq)),some (.val (YZ b2)),a,d,g] :=λL2 b2 a d g h=>r _ ⟨a,d,g,by rw[es,<-h]⟩;clear r;obtain⟨p,k⟩:=c;show JU 3 (Ab (An 4) (Ab (An 5) (Ab (An 6) Bz))) (.tup [fr p.1, .int p.2, .int k]) _ _;cases b with
  | none=>
    show JU 3 (Ab (An 4) (Ab (An 5) (Ab (An 6) Bz))) (.tup [fr p.1, .int p.2, .int k]) [some (.val v),some (.val (.int n)),some (.own (L.map Aq)),some (.val .non),a,d,g] _;repeat' array_get_dec
    .rename_i h;exact i L (some p) _ _ _ (by unfold stepI;simp only[AAk h])
    .rename_i h;exact i L none _ _ _ (by unfold stepI;simp only[AAZ h])
  | some b=>
    show JU 3 (Ab (An 4) (Ab (An 5) (Ab (An 6) Bz))) (.tup [fr p.1, .int p.2, .int k]) [some (.val v),some (.val (.int n)),some (.own (L.map Aq)),some (.val (.tup [fr b.1, .int (1-b.2)])),a,d,g] _;repeat' array_get_dec
    .rename_i h;have f:=i (L ++ [(b.1,1-b.2,some p.1)]) none (some (.val (fr p.1))) (some (.val (.int p.2))) (some (.val (.int k))) (by unfold stepI;simp only[AAZ (show ¬n<=k by omega)]);rw[AAO] at f;exact f
    .rename_i h;exact i L (some b) _ _ _ (by unfold stepI;simp only[AAk (show n<=k by omega)])
def U9 (In key:Pl->zq):zq->zy Pl->Prop
 | _, [] =>True
 | c,p::r=>(key p=false->In p=c)/\U9 In key (In p) r
def WX {st:zy Au×zt Pl}{p:Pl}{i:zq}:(stepI st (p,i)).2.isSome=i:=by obtain⟨L,b⟩:=st;cases b <;> cases i <;> rfl
def WW {st:zy Au×zt Pl}{p:Pl}{i:zq}(h:i=st.2.isSome):stepI st (p,i)=st:=by obtain⟨L,b⟩:=st;cases b <;> cases i <;> first | rfl|cases h
theorem Hk {In key:Pl->zq}:∀(X:zy Pl) (st:zy Au×zt Pl),U9 In key st.2.isSome X->(X.map λp=>(p,In p)).foldl stepI st=((X.filter key).map λp=>(p,In p)).foldl stepI st
 | [],st,_=>rfl
 | p::r,st,h=>by
   rw[AAK,ABB,ABA];cases k:key p with
   | true=> rw[AAE rfl,AAK,ABB];exact Hk r _ (by rw[WX];exact h.2)
   | false=> have e:=h.1 k;rw[AAD (by decide),WW e];exact Hk r st (by have:=h.2;rw[e] at this;exact this)
theorem JN {ss:zy Au}{key:Pl->zq}{n:Int}(hk:∀p,key p=false->cnt ss p=0):∀(X:zy Pl) (c:Int),Gs ss c X->U9 (λp=>decide (n<=(Hn ss p:Int))) key (decide (n<=c)) X
 | [],_,_=>True.intro
 | p::r,c,h=>⟨λk=>(by show decide (n<=(Hn ss p:Int))=_;rw[h.1,hk p k,Int.add_zero]),JN hk r _ h.2⟩
def canon (n:Int)(ss:zy Au):zy Au:=Dd ((C9 ss).map λp=>(p,decide (n<=(Hn ss p:Int))))
def TC {ss:zy Au}{p:Pl}(h:¬J1 ss p):cnt ss p=0:=by
 have key:∀ss:zy Au,(∀s∈ss,¬(bp s=p\/ep s=some p))->cnt ss p=0:=by
  intro ss;induction ss with
  | nil=>intro _;rfl
  | cons s ss ih=>
    intro h;have h1:=h s (by simp);have e:cnt (s::ss) p=J9 s p+cnt ss p:=by simp[cnt]
    rw[e,ih λx hx=>h x (by simp[hx])];unfold J9;rw[AAD λz=>h1 (.inl z),AAD λz=>h1 (.inr z)];rfl
 exact key ss λs hs z=>h ⟨s,hs,z⟩
def aA {ss:zy Au}{B:Nat}{n:Int}{key:Pl->zq}(ok:∀s∈ss,BD B s)(a:0<n)(hk:∀p,key p=true↔J1 ss p):Dd ((RE ss key).map λx=>(x.1,decide (n<=x.2)))=canon n ss:=by
 unfold canon Dd RE;rw[AAd];have h:=Hk (In:=λp=>decide (n<=(Hn ss p:Int))) (key:=key) (C9 ss) ([],none) (by
  have:=JN (n:=n) (key:=key) (λp z=>TC λy=>by rw[(hk p).mpr y] at z;cases z) (C9 ss) 0 (E5 ok);rw[AAZ (by omega)] at this;exact this)
 rw[h];rfl
def Ni {v:PV}{xs:zy PV}{ss:zy Au}{B:Nat}{n:Int}(hv:v= .tup xs\/v= .lst xs)(a:EE xs ss)(ok:∀s∈ss,BD B s)(hl:ss.length<=400)(b:B<=4000)(c:0<n){Q:PV->Prop}(q:Q (.tup ((canon n ss).map Aq))):Dw [v, .int n] Q:=
 VN hv a ok hl b λkey hk=>by rw[aA ok c hk];exact q
def Lx {v:PV}{xs:zy PV}{ss:zy Au}{B:Nat}(hv:v= .tup xs\/v= .lst xs)(a:EE xs ss)(ok:∀s∈ss,BD B s)(hl:ss.length<=400)(b:B<=4000){Q:PV->Prop}(q:Q (.tup ((canon 1 ss).map Aq))):Dz [v] Q:=by
 apply Rt;repeat' array_get_dec
 exact Ni hv a ok hl b (by decide) q
def FN {ss:zy Au}{p:Pl}:decide ((1:Int)<=(Hn ss p:Int))=ss.any (Al · p):=by
 rw[AA0,AC4,AAo];unfold Hn;constructor
 .intro h;obtain⟨s,hs⟩:=List.exists_mem_of_length_pos (l:=ss.filter (Al · p)) (by omega);have:=AB6.mp hs;exact⟨s,this.1,this.2⟩
 .rintro ⟨s,hs,h⟩;have:=List.length_pos_of_mem (AB6.mpr ⟨hs,h⟩:s∈ss.filter (Al · p));omega
def Cp (In:Pl->zq):zy Pl->zt Pl->zy Au
 | [],none=> []
 | [],some b=> [(b.1,1-b.2,none)]
 | p::r,none=>if In p=true then Cp In r (some p) else Cp In r none
 | p::r,some b=>if In p=true then Cp In r (some b) else (b.1,1-b.2,some p.1)::Cp In r none
theorem OL {In:Pl->zq}:∀(X:zy Pl) (a:zy Au) (b:zt Pl),PF ((X.map λp=>(p,In p)).foldl stepI (a,b))=a++Cp In X b
 | [],a,none=>by simp[PF,Cp]
 | [],a,some b=>by simp[PF,Cp]
 | p::r,a,none=>by
   rw[AAK,ABB];unfold Cp;cases e:In p with
   | true=>exact OL r a (some p)
   | false=>exact OL r a none
 | p::r,a,some b=>by
   rw[AAK,ABB];unfold Cp;cases e:In p with
   | true=>exact OL r a (some b)
   | false=> show PF ((r.map λp=>(p,In p)).foldl stepI (a ++ [(b.1,1-b.2,some p.1)],none))=a++((b.1,1-b.2,some p.1)::Cp In r none);rw[OL r _ none];simp
def LJ {In:Pl->zq}{X:zy Pl}:Dd (X.map λp=>(p,In p))=Cp In X none:=by unfold Dd;rw[OL];rfl
def E7 {q p:Pl}{e:zt Rat}(hq:q.2=0\/q.2=1)(hp:0<=p.2):Al (q.1,1-q.2,e) p=(JW q p&&(match e with | none=>true|some e=>decide (p.1<e))):=by unfold Al JW;congr 2;congr 1;exact ABM.mpr (by show 0<1-q.2+p.2↔q.2<=p.2;omega)
def Gw (In:Pl->zq):zq->zy Pl->Prop
 | _, [] =>True
 | c,p::r=>(c=true->In p=false->p.2=0)/\Gw In (In p) r
theorem Xv {In:Pl->zq}:∀(X:zy Pl),YV X->(∀x∈X,x.2=0\/x.2=1)-> (Gw In false X->(∀p:Pl,0<=p.2->(∀x∈X,Im p x)->(Cp In X none).any (Al · p)=false)/\∀p∈X,(Cp In X none).any (Al · p)=In p)/\ (Gw In true X->∀q:Pl,(q.2=0\/q.2=1)->(∀x∈X,Im q x)->(∀p:Pl,0<=p.2->(∀x∈X,Im p x)->(Cp In X (some q)).any (Al · p)=JW q p)/\∀p∈X,(Cp In X (some q)).any (Al · p)=In p)
 | [],_,_=>⟨λ_=>⟨λp _ _=>rfl,λp hp=>by cases hp⟩,λ_ q hq _=>⟨λp hp _=>by show (Al (q.1,1-q.2,none) p||false)=_;rw[E7 hq hp];simp,λp hp=>by cases hp⟩⟩
 | x::r,hs,PJ=>by
   obtain⟨h1,h2⟩:=AAM.mp hs;have ih:=Xv (In:=In) r h2 λy hy=>PJ y (by simp[hy]);have j:=PJ x (by simp);have f:0<=x.2:=by omega
   have g:∀p:Pl,(∀y∈x::r,Im p y)->∀y∈r,Im p y:=λp h y hy=>h y (by simp[hy]);have l:∀p:Pl,Im p x->JW x p=false:=λp h=>by
    rw[<-AC5,Ce];rintro(z|z)
    .exact Hi (Fp z h)
    .rw [z] at h;exact Hi h
   have m:JW x x=true:=Ce.mpr (.inr rfl);refine⟨λhd=> ?_,λhd q hq k=> ?_⟩
   .unfold Cp;cases e:In x with
    | true=>
      have a:=hd.2;rw[e] at a;obtain⟨b,d⟩:=ih.2 a x j h1;rw[AAE rfl];refine⟨λp c hp=> ?_,λp hp=> ?_⟩
      .rw [b p c (g p hp),l p (hp x (by simp))]
      .rcases AAF.mp hp with rfl|hp
       .rw [b p f h1,m,e]
       .exact d p hp
    | false=>
      have a:=hd.2;rw[e] at a;obtain⟨b,d⟩:=ih.1 a;rw[AAD (by decide)];refine⟨λp c hp=>b p c (g p hp),λp hp=> ?_⟩;rcases AAF.mp hp with rfl|hp
      .rw [b p f h1,e]
      .exact d p hp
   .unfold Cp;have n:JW q x=true:=Ce.mpr (.inl (k x (by simp)));cases e:In x with
    | true=>
      have a:=hd.2;rw[e] at a;obtain⟨b,d⟩:=ih.2 a q hq (g q k);rw[AAE rfl];refine⟨λp c hp=>b p c (g p hp),λp hp=> ?_⟩;rcases AAF.mp hp with rfl|hp
      .rw [b p f h1,n,e]
      .exact d p hp
    | false=>
      have a:=hd.2;rw[e] at a;obtain⟨b,d⟩:=ih.1 a;have s:=hd.1 rfl e;rw[AAD (by decide)];have i:∀p:Pl,(p=x\/Im x p)->¬p.1<x.1:=λp h=>by rcases h with h|h|⟨h,_⟩ <;> grind
      refine⟨λp c hp=> ?_,λp hp=> ?_⟩
      .have o:p.1<x.1:=by
        rcases hp x (by simp) with z|⟨_,z⟩
        .exact z
        .omega
       show (Al (q.1,1-q.2,some x.1) p||(Cp In r none).any (Al · p))=_;rw[E7 hq c,b p c (g p hp)];simp[o]
      .show (Al (q.1,1-q.2,some x.1) p||(Cp In r none).any (Al · p))=_;rcases AAF.mp hp with rfl|hp
       .rw [E7 hq f,b p f h1,e];simp[i p (.inl rfl)]
       .rw [E7 hq (by have:=PJ p (by simp[hp]);omega),d p hp];simp[i p (.inr (h1 p hp))]
theorem UT {In:Pl->zq}(P:Rat->Prop):∀(X:zy Pl) (b:zt Pl),YV X->(∀x∈X,(x.2=0\/x.2=1)/\P x.1)->Gw In b.isSome X->(∀q,b=some q->(q.2=0\/q.2=1)/\P q.1/\∀x∈X,Im q x)-> ∀s∈Cp In X b,P s.1/\(s.2.1=0\/s.2.1=1)/\∀e,s.2.2=some e->s.1<e/\P e
 | [],none,_,_,_,_=>λs hs=>by cases hs
 | [],some q,_,_,_,hb=>λs hs=>by obtain⟨h1,h2,_⟩:=hb q rfl;simp only[Cp,AAV] at hs;subst hs;exact⟨h2,by show 1-q.2=0\/1-q.2=1;omega,λe he=>by cases he⟩
 | x::r,b,hs,PJ,hd,hb=>by
   obtain⟨h1,h2⟩:=AAM.mp hs;have ih:=λb d hb=>UT (In:=In) P r b h2 (λy hy=>PJ y (by simp[hy])) d hb;have a:=hd.2;cases b with
   | none=>
     unfold Cp;cases e:In x with
     | true=> rw[AAE rfl];rw[e] at a;exact ih (some x) a λq hq=>by cases hq;exact⟨(PJ x (by simp)).1,(PJ x (by simp)).2,h1⟩
     | false=> rw[AAD (by decide)];rw[e] at a;exact ih none a λq hq=>by cases hq
   | some q=>
     obtain⟨g,c,f⟩:=hb q rfl;unfold Cp;cases e:In x with
     | true=> rw[AAE rfl];rw[e] at a;exact ih (some q) a λh hq=>by cases hq;exact⟨g,c,λy hy=>f y (by simp[hy])⟩
     | false=>
       rw[AAD (by decide)];rw[e] at a;have i:=hd.1 rfl e;intro s hs;rcases AAF.mp hs with rfl|hs
       .refine ⟨c,by show 1-q.2=0\/1-q.2=1;omega,λj he=> ?_⟩;cases he;refine⟨?_,(PJ x (by simp)).2⟩;rcases f x (by simp) with z|⟨_,z⟩
        .exact z
        .omega
       .exact ih none a (λq hq=>by cases hq) s hs
theorem F3 {ss:zy Au}:∀(X:zy Pl) (c:Int),(∀x∈X,x.2=0\/x.2=1)->Gs ss c X->Gw (λp=>ss.any (Al · p)) (decide (1<=c)) X
 | [],_,_,_=>True.intro
 | p::r,c,PJ,h=>by
   have ih:=F3 r (Hn ss p) (λx hx=>PJ x (by simp[hx])) h.2;rw[FN] at ih;refine⟨λhc hi=> ?_,ih⟩;rcases PJ p (by simp) with z|z
   .exact z
   .have hc:1<=c:=by simpa using hc
    have hi:ss.any (Al · p)=false:=hi;rw[<-FN] at hi;have hi:¬(1:Int)<=Hn ss p:=by simpa using hi
    have c0:0<=cnt ss p:=by
     have go:∀ss:zy Au,0<=cnt ss p:=by
      intro ss;induction ss with
      | nil=>exact Int.le_refl _
      | cons s ss ih=>
        have e:cnt (s::ss) p=J9 s p+cnt ss p:=by simp[cnt]
        have o:0<=J9 s p:=by
         unfold J9;have:¬ep s=some p:=λy=>by obtain⟨b,_,a⟩:=ABN.mp y;have:(0:Int)=p.2:=congrArg Prod.snd a;omega
         rw[AAD this];split <;> decide
        omega
     exact go ss
    have:=h.1;omega
def X9 {ss:zy Au}:∀x∈C9 ss,x.2=0\/x.2=1:=λx hx=>(BF.mp hx).2
def P3 {ss:zy Au}:canon 1 ss=Cp (λp=>ss.any (Al · p)) (C9 ss) none:=by unfold canon;rw[<-LJ];congr 1;apply AA6;intro p _;rw[FN]
def WT {ss:zy Au}{B:Nat}(ok:∀s∈ss,BD B s):Gw (λp=>ss.any (Al · p)) false (C9 ss):=F3 (C9 ss) 0 X9 (E5 ok)
def Nf {ss:zy Au}{B:Nat}(ok:∀s∈ss,BD B s):∀s∈canon 1 ss,s.1∈Ai ss/\(s.2.1=0\/s.2.1=1)/\∀e,s.2.2=some e->s.1<e/\e∈Ai ss:=by rw[P3];exact UT (· ∈Ai ss) (C9 ss) none (D6 Bj) (λx hx=>⟨X9 x hx,Ax.mp (BF.mp hx).1⟩) (WT ok) λq hq=>by cases hq
def Mc {ss:zy Au}{B:Nat}(ok:∀s∈ss,BD B s):∀x∈Ai ss,Bd B x:=λx h=>by
 obtain⟨s,hs,hx⟩:=AAj.mp h;rcases AAF.mp hx with rfl|hx
 .exact (ok s hs).b
 .exact ((ok s hs).e x (by simpa using hx)).2
def Fn {ss:zy Au}{B:Nat}(ok:∀s∈ss,BD B s):∀s∈canon 1 ss,BD B s:=λs hs=>by obtain⟨h1,h2,a⟩:=Nf ok s hs;exact⟨Mc ok _ h1,h2,λe he=>⟨(a e he).1,Mc ok _ (a e he).2⟩⟩
theorem IP (f:Rat->zq):∀qs:zy Rat,(places qs).filter (λp=>f p.1)=places (qs.filter f)
 | [] =>rfl
 | q::qs=>by show ((q,0)::(q,1)::places qs).filter (λp=>f p.1)=_;rw[ABA,ABA,ABA,IP f qs];cases f q <;> rfl
def bF {xs:zy PV}{k:Int}{R:PV->Prop}(a:0<=k)(h1:k<xs.length)(h:∀x∈xs,R x):Am (.lst xs) (.int k) R:=by
 have hk:k.toNat<xs.length:=by omega
 have e:JV xs ((k.toNat:Nat):Int)=some xs[k.toNat] :=Cj (AAT hk);rw[show ((k.toNat:Nat):Int)=k by omega] at e;show di (JV xs k) R;rw[e];exact h _ (ABU hk)
def fH {o:zt Rat}{Q:PV->Prop}(h:Q (.bl (decide (o=none)))):IB (Yl o) .non Q:=by cases o <;> exact h
instance{o:zt Rat}{Q:PV->Prop}:Wp (IB (Yl o) .non Q) (Q (.bl (decide (o=none)))):=⟨fH⟩
theorem ay:∀{qs:zy Rat} {x:Rat},Uo qs->x∈qs->ins qs x=qs
 | [],x,_,h=>by cases h
 | q::r,x,hs,h=>by
   obtain⟨h1,h2⟩:=AAM.mp hs;unfold ins;rcases AAF.mp h with e|h
   .subst e;rw[AAD (by grind),AAE rfl]
   .have:=h1 x h;rw[AAE this,ay h2 h]
def cU (xs ys:zy Rat):A9 (xs++ys)=ys.foldl ins (A9 xs):=by unfold A9;rw[ABa]
def Y5 (a b:zy Au):Ai (a++b)=Ai a++Ai b:=by unfold Ai;rw[List.flatMap_append]
def SN (sets:zy (zy Au)):zy Pl:=places (A9 (Ai sets.flatten))
def nS (sets:zy (zy Au))(p:Pl):Nat:=(sets.filter λss=>ss.any (Al · p)).length
def G4 (n:Int)(sets:zy (zy Au)):zy Au:=Dd ((SN sets).map λp=>(p,decide (n<=(nS sets p:Int))))
def Bg (ms:zy Rat)(ss:zy Au):zy Pl:=places (A9 (ms++Ai ss))
def F0 {B:Nat}{ms:zy Rat}{ss:zy Au}(ok:∀s∈ss,BD B s):Gs ss 0 (Bg ms ss):=by
 have c:∀s∈ss,bp s∈Bg ms ss/\∀x,ep s=some x->x∈Bg ms ss:=λs hs=>by
  obtain⟨h1,h2⟩:=N2 ok hs;have d:∀x∈C9 ss,x∈Bg ms ss:=λx hx=>by obtain⟨a,b⟩:=BF.mp hx;exact BF.mpr ⟨Ax.mpr (AAW _ (Ax.mp a)),b⟩
  exact⟨d _ h1,λx ex=>d _ (h2 x ex)⟩
 have h:=Nh ok (Bg ms ss) none (D6 Bj) (λp hp=>⟨True.intro,by rcases (BF.mp hp).2 with z|z <;> omega⟩) (λs hs=>⟨.inr (c s hs).1,λx ex=> .inr ((c s hs).2 x ex)⟩);have z:(ss.map λs=>gu s none).sum=0:=by
  clear h c ok;induction ss with
  | nil=>rfl
  | cons s ss ih=> rw[AAK,ACI,ih];unfold gu;cases ep s <;> rfl
 rw[z] at h;exact h
def D0 {B:Nat}{ms:zy Rat}{ss:zy Au}{n:Int}(ok:∀s∈ss,BD B s)(c:0<n):Dd ((Bg ms ss).map λp=>(p,decide (n<=(Hn ss p:Int))))=canon n ss:=by
 have hk:∀p:Pl,decide (p.1∈Ai ss)=false->cnt ss p=0:=λp hp=>TC λ⟨s,hs,z⟩=>by
  have hp:¬p.1∈Ai ss:=by simpa using hp
  refine hp (AAj.mpr ⟨s,hs, ?_⟩);rcases z with z|z
  .rw [<-z];simp[bp]
  .obtain ⟨d,he,rfl⟩:=ABN.mp z;simp[he]
 have a:=JN (n:=n) (ss:=ss) (key:=λp=>decide (p.1∈Ai ss)) hk (Bg ms ss) 0 (F0 ok);rw[AAZ (by omega)] at a;have h:=Hk (Bg ms ss) ([],none) a;have b:(Bg ms ss).filter (λp=>decide (p.1∈Ai ss))=C9 ss:=by unfold Bg C9;rw[IP (λx=>decide (x∈Ai ss))];congr 1;refine SQ (Bj.filter _) Bj λx=> ?_;rw[AB6,Ax,Ax,AC4];exact⟨λh=>h.2,λh=>⟨AAW _ h,h⟩⟩
 rw[b] at h;show PF _=PF _;rw[h]
def Js {B:Nat}{ss:zy Au}(ok:∀s∈ss,BD B s){p:Pl}(hp:p.2=0\/p.2=1):(canon 1 ss).any (Al · p)=ss.any (Al · p):=by
 have b:p∈Bg [p.1] ss:=BF.mpr ⟨Ax.mpr (by simp),hp⟩;have a:∀x∈Bg [p.1] ss,x.2=0\/x.2=1:=λx hx=>(BF.mp hx).2;have c:=F3 (Bg [p.1] ss) 0 a (F0 ok);have e:canon 1 ss=Cp (λp=>ss.any (Al · p)) (Bg [p.1] ss) none:=by rw[<-D0 (ms:= [p.1]) ok (by decide),<-LJ];congr 1;apply AA6;intro q _;rw[FN]
 rw[e];exact((Xv (Bg [p.1] ss) (D6 Bj) a).1 c).2 p b
def hU (b:zq):Nat:=if b=true then 1 else 0
def hN (L:zy Au)(p:Pl):Nat:=(L.filter (Al · p)).length
def Q1 (s:Au)(L:zy Au)(p:Pl):hN (s::L) p=hU (Al s p)+hN L p:=by
 unfold hN hU;rw[ABA];split
 .simp;omega
 .simp
theorem Xu {In:Pl->zq}:∀(X:zy Pl),YV X->(∀x∈X,x.2=0\/x.2=1)-> (Gw In false X->(∀p:Pl,0<=p.2->(∀x∈X,Im p x)->hN (Cp In X none) p=0)/\∀p∈X,hN (Cp In X none) p=hU (In p))/\ (Gw In true X->∀q:Pl,(q.2=0\/q.2=1)->(∀x∈X,Im q x)->(∀p:Pl,0<=p.2->(∀x∈X,Im p x)->hN (Cp In X (some q)) p=hU (JW q p))/\∀p∈X,hN (Cp In X (some q)) p=hU (In p))
 | [],_,_=>⟨λ_=>⟨λp _ _=>rfl,λp hp=>by cases hp⟩,λ_ q hq _=>⟨λp hp _=>by show hN [(q.1,1-q.2,none)] p=_;rw[Q1,E7 hq hp];simp[hN],λp hp=>by cases hp⟩⟩
 | x::r,hs,PJ=>by
   obtain⟨h1,h2⟩:=AAM.mp hs;have ih:=Xu (In:=In) r h2 λy hy=>PJ y (by simp[hy]);have j:=PJ x (by simp);have f:0<=x.2:=by omega
   have g:∀p:Pl,(∀y∈x::r,Im p y)->∀y∈r,Im p y:=λp h y hy=>h y (by simp[hy]);have l:∀p:Pl,Im p x->JW x p=false:=λp h=>by
    rw[<-AC5,Ce];rintro(z|z)
    .exact Hi (Fp z h)
    .rw [z] at h;exact Hi h
   have m:JW x x=true:=Ce.mpr (.inr rfl);refine⟨λhd=> ?_,λhd q hq k=> ?_⟩
   .unfold Cp;cases e:In x with
    | true=>
      have a:=hd.2;rw[e] at a;obtain⟨b,d⟩:=ih.2 a x j h1;rw[AAE rfl];refine⟨λp c hp=> ?_,λp hp=> ?_⟩
      .rw [b p c (g p hp),l p (hp x (by simp))];rfl
      .rcases AAF.mp hp with rfl|hp
       .rw [b p f h1,m,e]
       .exact d p hp
    | false=>
      have a:=hd.2;rw[e] at a;obtain⟨b,d⟩:=ih.1 a;rw[AAD (by decide)];refine⟨λp c hp=>b p c (g p hp),λp hp=> ?_⟩;rcases AAF.mp hp with rfl|hp
      .rw [b p f h1,e];rfl
      .exact d p hp
   .unfold Cp;have n:JW q x=true:=Ce.mpr (.inl (k x (by simp)));cases e:In x with
    | true=>
      have a:=hd.2;rw[e] at a;obtain⟨b,d⟩:=ih.2 a q hq (g q k);rw[AAE rfl];refine⟨λp c hp=>b p c (g p hp),λp hp=> ?_⟩;rcases AAF.mp hp with rfl|hp
      .rw [b p f h1,n,e]
      .exact d p hp
    | false=>
      have a:=hd.2;rw[e] at a;obtain⟨b,d⟩:=ih.1 a;have s:=hd.1 rfl e;rw[AAD (by decide)];have i:∀p:Pl,(p=x\/Im x p)->¬p.1<x.1:=λp h=>by rcases h with h|h|⟨h,_⟩ <;> grind
      refine⟨λp c hp=> ?_,λp hp=> ?_⟩
      .have o:p.1<x.1:=by
        rcases hp x (by simp) with z|⟨_,z⟩
        .exact z
        .omega
       rw[Q1,E7 hq c,b p c (g p hp)];simp[o]
      .rw [Q1];rcases AAF.mp hp with rfl|hp
       .rw [E7 hq f,b p f h1,e];simp[i p (.inl rfl)]
       .rw [E7 hq (by have:=PJ p (by simp[hp]);omega),d p hp];simp[i p (.inr (h1 p hp)),hU]
def VI {B:Nat}{ss:zy Au}(ok:∀s∈ss,BD B s){p:Pl}(hp:p.2=0\/p.2=1):Hn (canon 1 ss) p=hU (ss.any (Al · p)):=by
 have b:p∈Bg [p.1] ss:=BF.mpr ⟨Ax.mpr (by simp),hp⟩;have a:∀x∈Bg [p.1] ss,x.2=0\/x.2=1:=λx hx=>(BF.mp hx).2;have c:=F3 (Bg [p.1] ss) 0 a (F0 ok);have e:canon 1 ss=Cp (λp=>ss.any (Al · p)) (Bg [p.1] ss) none:=by rw[<-D0 (ms:= [p.1]) ok (by decide),<-LJ];congr 1;apply AA6;intro q _;rw[FN]
 show hN (canon 1 ss) p=_;rw[e];exact((Xu (Bg [p.1] ss) (D6 Bj) a).1 c).2 p b
def iy (a b:zy Au)(p:Pl):Hn (a++b) p=Hn a p+Hn b p:=by unfold Hn;rw[List.filter_append,AAf]
theorem Wv {B:Nat}{p:Pl}(hp:p.2=0\/p.2=1):∀{sets:zy (zy Au)},(∀ss∈sets,∀s∈ss,BD B s)->Hn (sets.flatMap (canon 1)) p=nS sets p
 | [],_=>rfl
 | ss::sets,ok=>by
   rw[AB2,iy,VI (ok ss (by simp)) hp,Wv hp λx hx=>ok x (by simp[hx])];unfold nS hU;rw[ABA];split
   .simp;omega
   .simp
def VJ {B:Nat}{sets:zy (zy Au)}{n:Int}(g:0<n)(ok:∀ss∈sets,∀s∈ss,BD B s):canon n (sets.flatMap (canon 1))=G4 n sets:=by
 have d:∀s∈sets.flatMap (canon 1),BD B s:=λs hs=>by obtain⟨ss,h1,h2⟩:=AAj.mp hs;exact Fn (ok ss h1) s h2
 have sub:∀x∈Ai (sets.flatMap (canon 1)),x∈Ai sets.flatten:=λx hx=>by
  obtain⟨s,hs,hx⟩:=AAj.mp hx;obtain⟨ss,h1,h2⟩:=AAj.mp hs;obtain⟨a,b,c⟩:=Nf (ok ss h1) s h2;have f:∀y∈Ai ss,y∈Ai sets.flatten:=λy hy=>by obtain⟨i,j,hy⟩:=AAj.mp hy;exact AAj.mpr ⟨i,ABl.mpr ⟨ss,h1,j⟩,hy⟩
  rcases AAF.mp hx with rfl|hx
  .exact f _ a
  .exact f _ (c x (by simpa using hx)).2
 rw[<-D0 (ms:=Ai sets.flatten) d g];have e:Bg (Ai sets.flatten) (sets.flatMap (canon 1))=SN sets:=by unfold Bg SN;rw[KG λx=> ?_];rw[AAN];exact⟨λh=>h.elim id (sub x), .inl⟩
 rw[e];unfold G4;congr 1;apply AA6;intro p hp;rw[Wv (BF.mp hp).2 ok]
def Zu (ss:zy Au)(In:Pl->zq):zq->zy Pl->Prop
 | _, [] =>True
 | c,p::r=>(c=true->In p=false->∃s∈ss,ep s=some p)/\Zu ss In (In p) r
theorem P8 {ss:zy Au}:∀(X:zy Pl) (c:Int),Gs ss c X->Zu ss (λp=>ss.any (Al · p)) (decide (1<=c)) X
 | [],_,_=>True.intro
 | p::r,c,h=>by
   have ih:=P8 r (Hn ss p) h.2;rw[FN] at ih;refine⟨λhc hi=> ?_,ih⟩;have hc:1<=c:=by simpa using hc
   have hi:ss.any (Al · p)=false:=hi;rw[<-FN] at hi;have hi:¬(1:Int)<=Hn ss p:=by simpa using hi
   have c0:cnt ss p<0:=by have:=h.1;omega
   refine ACS λd=> ?_;have go:∀a:zy Au,(∀s∈a,ep s≠some p)->0<=cnt a p:=by
    intro a;induction a with
    | nil=>intro _;exact Int.le_refl _
    | cons s a ih=>
      intro b;have e:cnt (s::a) p=J9 s p+cnt a p:=by simp[cnt]
      have o:0<=J9 s p:=by unfold J9;rw[AAD (b s (by simp))];split <;> decide
      have:=ih λx hx=>b x (by simp[hx]);omega
   have:=go ss λs hs z=>d ⟨s,hs,z⟩;omega
theorem G8 {ss:zy Au}{In:Pl->zq}:∀(X:zy Pl) (b:zt Pl),Zu ss In b.isSome X->∀s∈Cp In X b,∀e,s.2.2=some e->(∃t∈ss,t.2.2=some e)/\In (e,0)=false
 | [],none,_=>λs hs=>by cases hs
 | [],some q,_=>λs hs e he=>by simp only[Cp,AAV] at hs;subst hs;cases he
 | x::r,b,hd=>by
   have a:=hd.2;cases b with
   | none=>
     unfold Cp;cases e:In x with
     | true=>rw[AAE rfl];rw[e] at a;exact G8 r (some x) a
     | false=>rw[AAD (by decide)];rw[e] at a;exact G8 r none a
   | some q=>
     unfold Cp;cases e:In x with
     | true=>rw[AAE rfl];rw[e] at a;exact G8 r (some q) a
     | false=>
       rw[AAD (by decide)];rw[e] at a;intro s hs d he;rcases AAF.mp hs with rfl|hs
       .cases he;obtain⟨t,f,g⟩:=hd.1 rfl e;obtain⟨h,h2,i⟩:=ABN.mp g;have c:x=(h,0):=i.symm;refine⟨⟨t,f,by rw[h2,c]⟩, ?_⟩;rw[<-e,c]
       .exact G8 r none a s hs d he
def Nd {B:Nat}{ss:zy Au}(ok:∀s∈ss,BD B s):∀r∈canon 1 ss,∀e,r.2.2=some e->(∃t∈ss,t.2.2=some e)/\ss.any (Al · (e,0))=false:=by rw[P3];exact G8 (C9 ss) none (P8 (C9 ss) 0 (E5 ok))
def S8 {B:Nat}{ss a:zy Au}(ok:∀s∈ss,BD B s)(b:∀s∈a,BD B s)(h:∀p:Pl,(p.2=0\/p.2=1)->ss.any (Al · p)=a.any (Al · p)):canon 1 ss=canon 1 a:=by
 rw[<-D0 (ms:=Ai a) ok (by decide),<-D0 (ms:=Ai ss) b (by decide)];have e:Bg (Ai a) ss=Bg (Ai ss) a:=by unfold Bg;rw[KG λx=> ?_];rw[AAN,AAN];exact Or.comm
 rw[e];congr 1;apply AA6;intro p hp;rw[FN,FN,h p (BF.mp hp).2]
def Gc (y:Rat)(s:Au):Au:=(s.1,s.2.1,s.2.2.map (· + y))
def K8 {B C:Nat}{y:Rat}(hy:0<=y)(c:Bd C y){s:Au}(o:BD B s):BD (B+C+1) (Gc y s):=by refine⟨o.b.mono (by omega),o.h,λe he=> ?_⟩;obtain⟨d,h1,rfl⟩:=ABN.mp he;obtain⟨a,b⟩:=o.e d h1;exact⟨by show s.1<d+y;grind,b.add c⟩
def Hh {B:Nat}{s:Au}(o:BD B s){p:Pl}(hp:p.2=0\/p.2=1):Al s p=true↔JW (bp s) p=true/\∀e,s.2.2=some e->p.1<e:=by
 obtain⟨a,b,c⟩:=s;have hb:b=0\/b=1:=o.h;have d:JW (bp (a,b,c)) p=(decide (a<p.1)||(decide (a=p.1)&&decide (0<b+p.2))):=by unfold JW bp;congr 2;exact ABM.mpr (by show 1-b<=p.2↔0<b+p.2;omega)
 unfold Al;rw[AAn,d];cases c with
 | none=>simp
 | some c=>simp
def N3 {B C:Nat}{ss:zy Au}{y:Rat}(ok:∀s∈ss,BD B s)(hy:0<=y)(b:Bd C y):canon 1 ((canon 1 ss).map (Gc y))=canon 1 (ss.map (Gc y)):=by
 have c:=Fn ok;have k:∀s∈(canon 1 ss).map (Gc y),BD (B+C+1) s:=λs hs=>by obtain⟨t,a,rfl⟩:=AAR.mp hs;exact K8 hy b (c t a)
 have l:∀s∈ss.map (Gc y),BD (B+C+1) s:=λs hs=>by obtain⟨t,a,rfl⟩:=AAR.mp hs;exact K8 hy b (ok t a)
 refine S8 k l λp hp=> ?_;have gl:∀{s:Au},BD B s->(Al (Gc y s) p=true↔JW (bp s) p=true/\∀e,s.2.2=some e->p.1<e+y):=λ{s} o=>by
  rw[Hh (K8 hy b o) hp];constructor
  .rintro ⟨h1,h2⟩;exact⟨h1,λe he=>h2 (e+y) (by show s.2.2.map (· + y)=_;rw[he];rfl)⟩
  .rintro ⟨h1,h2⟩;refine⟨h1,λe he=> ?_⟩;obtain⟨v,g,rfl⟩:=ABN.mp he;exact h2 v g
 rw[AA0,AAo,AAo];constructor
 .rintro ⟨s,hs,h⟩;obtain⟨r,d,rfl⟩:=AAR.mp hs;have o:=c r d;obtain⟨h1,h2⟩:=(gl o).mp h;by_cases x:Al r p=true
  .have:ss.any (Al · p)=true:=by rw[<-Js ok hp];exact AAo.mpr ⟨r,d,x⟩
   obtain⟨t,a,g⟩:=AAo.mp this;obtain⟨m,n⟩:=(Hh (ok t a) hp).mp g;exact⟨Gc y t,AAR.mpr ⟨t,a,rfl⟩,(gl (ok t a)).mpr ⟨m,λe he=>by have:=n e he;grind⟩⟩
  .have:∃e,r.2.2=some e/\¬p.1<e:=ACS λj=>x ((Hh o hp).mpr ⟨h1,λe he=>ACS λz=>j ⟨e,he,z⟩⟩);obtain⟨e,he,H⟩:=this;obtain⟨⟨t,a,A⟩,_⟩:=Nd ok r d e he;have I:=((ok t a).e e A).1;refine⟨Gc y t,AAR.mpr ⟨t,a,rfl⟩,(gl (ok t a)).mpr ⟨Ce.mpr (.inl (.inl (by show t.1<p.1;grind))),λv D=> ?_⟩⟩;rw[A] at D;cases D;exact h2 e he
 .rintro ⟨s,hs,h⟩;obtain⟨t,a,rfl⟩:=AAR.mp hs;have o:=ok t a;obtain⟨h1,h2⟩:=(gl o).mp h;have bt:(bp t).2=0\/(bp t).2=1:=by have:=o.h;unfold bp;simp only;omega
  have hb:Al t (bp t)=true:=(Hh o bt).mpr ⟨Ce.mpr (.inr rfl),λe he=>(o.e e he).1⟩;have:(canon 1 ss).any (Al · (bp t))=true:=by rw[Js ok bt];exact AAo.mpr ⟨t,a,hb⟩
  obtain⟨r,d,g⟩:=AAo.mp this;have i:=c r d;obtain⟨m,n⟩:=(Hh i bt).mp g;refine⟨Gc y r,AAR.mpr ⟨r,d,rfl⟩,(gl i).mpr ⟨?_,λe he=> ?_⟩⟩
  .rcases Ce.mp m with z|z
   .rcases Ce.mp h1 with w|w
    .exact Ce.mpr (.inl (Fp z w))
    .rw [<-w];exact Ce.mpr (.inl z)
   .rw [z];exact h1
  .have E:t.1<e:=n e he;obtain⟨_,j⟩:=Nd ok r d e he;have F:¬Al t (e,0)=true:=λz=>by rw[AB3] at j;exact j t a z
   have:∃f,t.2.2=some f/\¬e<f:=ACS λG=>F ((Hh o (.inl rfl)).mpr ⟨Ce.mpr (.inl (.inl E)),λf u=>ACS λz=>G ⟨f,u,z⟩⟩);obtain⟨f,u,hl⟩:=this;have:=h2 f u;grind
def bS {v:PV}{xs:zy PV}{a:zy PV->Prop}(hv:v= .tup xs\/v= .lst xs)(h:a xs):Om v a:=by rcases hv with rfl|rfl <;> exact h
def WE {x:PV}{r:zy PV}{ss:zy Au}(h:EE (x::r) ss):∃s c,ss=s::c/\(x=Aq s\/x=cV s)/\EE r c:=by
 cases h with
 | cons a b=>exact⟨_,_,rfl,a,b⟩
def fX {x:PV}{s:Au}{a:zy PV->Prop}(h:x=Aq s\/x=cV s)(q:a [fr s.1, .int s.2.1,Yl s.2.2]):Om x a:=by rcases h with rfl|rfl <;> exact q
theorem W5 {a:Type}(f:a->zq):∀xs:zy a,Jp (xs.map λx=> .bl (f x))=some (xs.map f)
 | [] =>rfl
 | x::xs=>by show (Jp (xs.map λx=> .bl (f x))).map (f x :: ·)=_;rw[W5 f xs];rfl
def qP (xs:zy PV):G3 xs (some 1) none=xs.drop 1:=by
 unfold G3;rw[HT.sIx_none,show ((1:Int))=((1:Nat):Int) from rfl,HT.sIx_nat];cases xs with
 | nil=>rfl
 | cons x xs=> rw[Nat.min_eq_left (by simp)];simp
def lY (a b:zy Rat):IH (a.map fr) (b.map fr)=(a.zip b).map λp=> .tup [fr p.1,fr p.2] :=by unfold IH;rw[List.zipWith_map,List.zip,List.map_zipWith]
theorem Nk:∀(X:zy (Pl×zq)) (st:zy Au×zt Pl),2*(X.foldl stepI st).1.length+(if (X.foldl stepI st).2.isSome then 1 else 0)<=2*st.1.length+(if st.2.isSome then 1 else 0)+X.length
 | [],st=>AAJ _
 | x::X,st=>by
   have h1:=Nk X (stepI st x);have h2:2*(stepI st x).1.length+(if (stepI st x).2.isSome then 1 else 0)<=2*st.1.length+(if st.2.isSome then 1 else 0)+1:=by obtain⟨L,b⟩:=st;obtain⟨p,c⟩:=x;cases b <;> cases c <;> simp[stepI] <;> omega
   rw[ABB,AAb];omega
def QN (X:zy (Pl×zq)):2*(Dd X).length<=X.length+1:=by have h:=Nk X ([],none);unfold Dd;generalize X.foldl stepI ([],none)=st at *;obtain⟨L,b⟩:=st;cases b <;> simp[PF] at * <;> omega
def El {n:Int}{ss:zy Au}:(canon n ss).length<=2*ss.length:=by unfold canon C9;have h:=QN ((places (A9 (Ai ss))).map λp=>(p,decide (n<=(Hn ss p:Int))));have a:=DL (xs:=Ai ss);have b:=Eb (ss:=ss);have c:=F6 (qs:=A9 (Ai ss));rw[AAI] at h;omega
def eI {n:Int}{sets:zy (zy Au)}:(G4 n sets).length<=2*sets.flatten.length:=by unfold G4 SN;have h:=QN ((places (A9 (Ai sets.flatten))).map λp=>(p,decide (n<=(nS sets p:Int))));have a:=DL (xs:=Ai sets.flatten);have b:=Eb (ss:=sets.flatten);have c:=F6 (qs:=A9 (Ai sets.flatten));rw[AAI] at h;omega
theorem Qn:∀{sets:zy (zy Au)},(sets.flatMap (canon 1)).length<=2*sets.flatten.length
 | [] =>by simp
 | s::r=>by have ih:=Qn (sets:=r);have h:=El (n:=1) (ss:=s);rw[AB2,AAf,AC6,AAf];omega
inductive Jl:List PV->List (List Au)->Prop where
 | nil:Jl [] []
 | cons {x:PV} {xs:List PV} {ss:List Au} {r:List PV} {rs:List (List Au)} (h:x= .tup xs\/x= .lst xs) (hr:EE xs ss) (t:Jl r rs):Jl (x::r) (ss::rs)
def WP {x:PV}{r:zy PV}{ss:zy (zy Au)}(h:Jl (x::r) ss):∃s d xs,ss=s::d/\(x= .tup xs\/x= .lst xs)/\EE xs s/\Jl r d:=by
 cases h with
 | cons a b c=>exact⟨_,_,_,rfl,a,b,c⟩
def lt_size {k n:Nat}(h:k<=n)(a:n<1000000):k<sizeLine:=AA1 h (AAX a (AAs rfl))
abbrev GP:AS:=
 (Ar (Ex (NX (Ha (aV 0)) 2 [] (An 1) Dg (Ha (AN 1 Dz (AB (aV 1) AL))) 1 (An 0) Dg (aV 0))))
def CU:AF:=Ak 1 GP
def KM {a:PV}{Q:PV->Prop}(h:GP ⟨λ_=>Q .non,Q,λ_=>False,λ_=>False⟩ [some (.val a)]):CU [a] Q:=h
abbrev Po:AS:=
 (Ar (AN 2 Dw (AB (AN 1 CU (AB (aV 0) AL)) (AB (aV 1) AL))))
def EW:AF:=Ak 2 Po
def UX {a b:PV}{Q:PV->Prop}(h:Po ⟨λ_=>Q .non,Q,λ_=>False,λ_=>False⟩ [some (.val a),some (.val b)]):EW [a,b] Q:=h
def jI {v:PV}{vs:zy PV}{sets:zy (zy Au)}{B:Nat}(hv:v= .tup vs\/v= .lst vs)(d:Jl vs sets)(ok:∀ss∈sets,∀s∈ss,BD B s)(hl:sets.flatten.length<=400)(f:B<=4000){Q:PV->Prop}(q:Q (.lst ((sets.flatMap (canon 1)).map Aq))):CU [v] Q:=by
 apply KM;ac_rfl;refine bS hv ?_;refine TB (λr a=>∃us b,us++b=sets/\Jl r b/\a=(us.flatMap (canon 1)).map Aq) ?_ ?_ _ _ ⟨[],sets,rfl,d,rfl⟩
 .rintro a ⟨us,b,e,hv,rfl⟩;cases hv;rw[ABP] at e;subst e;exact q
 .rintro y r a R g ⟨us,b,e,hv,rfl⟩;obtain⟨s,h,xs,rfl,hy,i,j⟩:=WP hv;have os:=ok s (by rw[<-e];simp);have k:us.flatten.length+s.length<=400:=by have:=congrArg (λx=>x.flatten.length) e;simp only[List.flatten_append,AC6,AAf] at this;omega
  have c:R ((us.flatMap (canon 1)).map Aq++(canon 1 s).map Aq):=g _ ⟨us ++ [s],h,by simpa using e,j,by simp⟩;have l:=El (n:=1) (ss:=s);have m:=Qn (sets:=us);repeat' array_get_dec
  refine Lx hy i os (by omega) f ?_;refine⟨lt_size (n:=2000) (by rw[AAI,AAI];omega) (by decide), ?_⟩;exact aD _ _ c
def Xd {v:PV}{vs:zy PV}{sets:zy (zy Au)}{B:Nat}{n:Int}(hv:v= .tup vs\/v= .lst vs)(c:Jl vs sets)(ok:∀ss∈sets,∀s∈ss,BD B s)(hl:sets.flatten.length<=200)(a:B<=4000)(b:0<n){Q:PV->Prop}(q:Q (.tup ((G4 n sets).map Aq))):EW [v, .int n] Q:=by
 apply UX;ac_rfl;refine jI hv c ok (by omega) a ?_;ac_rfl;have d:=Qn (sets:=sets);refine Ni (.inr rfl) (Ft _) (B:=B) (λs hs=> ?_) (by omega) a b ?_
 .obtain ⟨ss,h1,h2⟩:=AAj.mp hs;exact Fn (ok ss h1) s h2
 .rw [VJ b ok];exact q
def QG {B:Nat}{ss:zy Au}(ok:∀s∈ss,BD B s)(m:Rat):∀k:Rat,m<k->∃n:Rat,m<n/\n<k/\∀x:Rat,m<x->x<n->ss.any (Al · (x,0))=ss.any (Al · (m,1)):=by
 induction ss with
 | nil=>intro k hk;exact⟨(m+k)/2,by grind,by grind,λ_ _ _=>rfl⟩
 | cons s ss ih=>
   intro k hk;obtain⟨n,h1,h2,j⟩:=ih (λt l=>ok t (by simp[l])) k hk;have os:=ok s (by simp);obtain⟨b,h,e⟩:=s;have p:h=0\/h=1:=os.h;have one:∃c:Rat,m<c/\∀x:Rat,m<x->x<c->Al (b,h,e) (x,0)=Al (b,h,e) (m,1):=by
    have key:∃c:Rat,m<c/\(m<b->c<=b)/\(∀a,e=some a->m<a->c<=a):=by
     cases e with
     | none=>
       by_cases z:m<b
       .exact ⟨b,z,λ_=>by grind,λ_ h=>by cases h⟩
       .exact ⟨m+1,by grind,λh=>absurd h z,λ_ h=>by cases h⟩
     | some a=>
       by_cases z:m<b
       .by_cases y:m<a
        .by_cases w:b<a
         .exact ⟨b,z,λ_=>by grind,λ_ h _=>by cases h;grind⟩
         .exact ⟨a,y,λ_=>by grind,λ_ h _=>by cases h;grind⟩
        .exact ⟨b,z,λ_=>by grind,λ_ h k=>by cases h;exact absurd k y⟩
       .by_cases y:m<a
        .exact ⟨a,y,λk=>absurd k z,λ_ h _=>by cases h;grind⟩
        .exact ⟨m+1,by grind,λk=>absurd k z,λ_ h k=>by cases h;exact absurd k y⟩
    obtain⟨c,i,f,o⟩:=key;refine⟨c,i,λx d g=> ?_⟩;unfold Al;have A:(decide (b<x)||(decide (b=x)&&decide (0<h+0)))=(decide (b<m)||(decide (b=m)&&decide (0<h+1))):=by
     by_cases z:m<b
     .have:=f z;rw[AAZ (show ¬b<x by grind),AAZ (show ¬b=x by grind),AAZ (show ¬b<m by grind),AAZ (show ¬b=m by grind)];rfl
     .rw [AAk (show b<x by grind)];by_cases y:b=m
      .rw [AAk y,AAk (show 0<h+1 by omega)];simp
      .rw [AAk (show b<m by grind)];rfl
    show ((decide (b<x)||(decide (b=x)&&decide (0<h+0)))&&_)=((decide (b<m)||(decide (b=m)&&decide (0<h+1)))&&_);rw[A];congr 1;cases e with
    | none=>rfl
    | some a=> show decide (x<a)=decide (m<a);refine ABM.mpr ⟨λ_=>by grind,λy=> ?_⟩;have:=o a rfl y;grind
   obtain⟨c,i,f⟩:=one;by_cases z:n<c
   .exact ⟨n,h1,h2,λx d g=>by rw[AA2,AA2,j x d g,f x d (by grind)]⟩
   .exact ⟨c,i,by grind,λx d g=>by rw[AA2,AA2,j x d (by grind),f x d g]⟩
def Vy {B C:Nat}{ss b:zy Au}(ok:∀s∈ss,BD B s)(c:∀s∈b,BD C s)(h:∀m:Rat,ss.any (Al · (m,0))=b.any (Al · (m,0))):∀p:Pl,(p.2=0\/p.2=1)->ss.any (Al · p)=b.any (Al · p):=by
 rintro⟨m,i⟩ hi;have hi:i=0\/i=1:=hi;rcases hi with rfl|rfl
 .exact h m
 .obtain ⟨n,h1,h2,e⟩:=QG ok m (m+1) (by grind);obtain⟨a,j,k,f⟩:=QG c m n h1;have d:m<(m+a)/2:=by grind
  have g:(m+a)/2<a:=by grind
  rw[<-e ((m+a)/2) d (by grind),<-f ((m+a)/2) d g];exact h _
def BD.mono {B C:Nat}{s:Au}(h:BD B s)(k:B<=C):BD C s:=⟨h.b.mono k,h.h,λe he=>⟨(h.e e he).1,(h.e e he).2.mono k⟩⟩
def Yg {B C:Nat}{ss b:zy Au}(ok:∀s∈ss,BD B s)(a:∀s∈b,BD C s)(h:∀m:Rat,ss.any (Al · (m,0))=b.any (Al · (m,0))):canon 1 ss=canon 1 b:=
 S8 (B:=B+C) (λs hs=>(ok s hs).mono (by omega)) (λs hs=>(a s hs).mono (by omega)) (Vy ok a h)
def e5 {B:Nat}{s:Au}{m x:Rat}(os:BD B s)(hx:s.2.2=some x):Al s (m,0)=true↔(s.1<m\/(s.1=m/\s.2.1=1))/\m<x:=by
 unfold Al;rw[hx];have:0<s.2.1+0↔s.2.1=1:=by have:=os.h;omega
 simp only[AAn,ABk,ABW,this]
abbrev IW:AS:=
 (AY (EF (Ha (aV 0)) (JU 2 (Ab (An 2) (Ab (An 3) Bz))) (VC 1 DJ (AW TK (aV 3) (AN 2 Gy (AB (aV 1) (AB (aV 3) AL))))))
   (Ar (aV 1)))
abbrev GS:AS:=
 (AY (Aj (aC (.int 1)) (An 1))
   IW)
def CV:AF:=Ak 4 GS
def KP {a:PV}{Q:PV->Prop}(h:GS ⟨λ_=>Q .non,Q,λ_=>False,λ_=>False⟩ [some (.val a),none,none,none]):CV [a] Q:=h
def LV (xs:zy Rat):Nat:=xs.foldl (λN r=>N*(r.den/Nat.gcd N r.den)) 1
def X2 (xs:zy Rat)(r:Rat):LV (xs ++ [r])=LV xs*(r.den/Nat.gcd (LV xs) r.den):=by unfold LV;rw[ABa];rfl
def gP {N d:Nat}(hN:0<N)(hd:0<d):0<N*(d/Nat.gcd N d)/\N ∣ N*(d/Nat.gcd N d)/\d ∣ N*(d/Nat.gcd N d)/\N*(d/Nat.gcd N d)<=N*d:=by have g:Nat.gcd N d ∣ d:=ACH ..;have a:0<Nat.gcd N d:=AB0 _ hd;refine⟨Nat.mul_pos hN (Nat.div_pos (ACw hd g) a),Nat.dvd_mul_right .., ?_,Nat.mul_le_mul_left _ (ABi ..)⟩;rw[<-Nat.mul_div_assoc _ g];exact Nat.dvd_lcm_right ..
theorem R5 {W:Nat}:∀(n:Nat) (xs:zy Rat),xs.length=n->(∀x∈xs,Bd W x)->0<LV xs/\(∀x∈xs,x.den ∣ LV xs)/\LV xs<2^(n*W+1)
 | 0,xs,e,_=>by have:xs= [] :=ABm.mp e;subst this;exact⟨by decide,by simp,by simp[LV]⟩
 | n+1,xs,e,h=>by
   obtain⟨ys,r,rfl⟩:∃ys r,xs=ys ++ [r] :=⟨xs.dropLast,xs.getLast (by intro z;subst z;cases e),(ABn _).symm⟩;have a:ys.length=n:=by simpa using e
   obtain⟨h1,h2,b⟩:=R5 n ys a λx hx=>h x (by simp[hx]);have c:=(h r (by simp)).bot;rw[X2];obtain⟨d,f,g,i⟩:=gP h1 r.den_pos;refine⟨d,λx hx=> ?_, ?_⟩
   .rcases AAN.mp hx with hx|hx
    .exact Nat.dvd_trans (h2 x hx) f
    .simp at hx;subst hx;exact g
   .refine AA1 i ?_;have:=Vz b c;rw[show n*W+1+W=(n+1)*W+1 by rw[Nat.succ_mul];omega] at this;exact this
def gM (N:Nat)(r:Rat):Int:=r.num*((N:Int).fdiv (r.den:Int))
def R3 {N:Nat}{r:Rat}(h:r.den ∣ N):(gM N r:Rat)=r*N:=by
 obtain⟨k,rfl⟩:=h;have hd:=r.den_pos;unfold gM;rw[ACx,Int.mul_fdiv_cancel_left _ (by omega),AC7];have b:((r.den:Int):Rat)≠0:=λz=>by have:(r.den:Int)=0:=Rat.intCast_inj.mp z;omega
 have e:r=(r.num:Rat)/((r.den:Int):Rat):=by rw[<-Rat.divInt_eq_div,ABL]
 have a:r*((r.den:Int):Rat)=r.num:=by
  conv=>lhs;arg 1;rw[e]
  grind
 rw[<-a,show ((r.den*k:Nat):Rat)=((r.den:Int):Rat)*((k:Int):Rat) by rw[<-AC7,<-ACx,Rat.intCast_natCast]];grind
structure Pc where
 b:Rat
 e:Rat
 o0:T3
 o1:T3
def Pc.six (p:Pc):zy Rat:= [p.o0.1,p.o0.2.1,p.o0.2.2,p.o1.1,p.o1.2.1,p.o1.2.2]
def Pc.N (p:Pc):Nat:=LV p.six
def lR (cs a:zy C4)(b e:Rat):zy Rat:=A9 ([b,e] ++ ((cs.filter (mX b e)++a.filter (mX b e)).map (·.1)))
def rT (cs a:zy C4)(d:Rat×Rat)(m:Rat):T3:=rS ((spotC cs m).getD (0,0,0)) ((spotC a m).getD (0,0,0)) d
def rX (cs a:zy C4)(d:Rat×Rat)(b:zy Rat):zy Pc:=(b.zip b.tail).map λp=>⟨p.1,p.2,rT cs a d p.1,rT cs a d p.2⟩
def mf (cs:zy C4):Rat:=(cs.head?.getD (0,0,0,0)).1
def lstM (cs:zy C4):Rat:=(cs.getLast?.getD (0,0,0,0)).1
def jK (cs a:zy C4):Rat:=mx (mf cs) (mf a)
def jS (cs a:zy C4):Rat:=mn (lstM cs) (lstM a)
def x6 (cs a:zy C4):zy Rat:=lR cs a (jK cs a) (jS cs a)
def xo (cs a:zy C4)(d:Rat×Rat):zy Pc:=if jK cs a<jS cs a then rX cs a d (x6 cs a) else []
abbrev Ou:AS:=
 (AY (Aj (FI DS (AB (Ex (B7 (Ha (aV 0)) 2 [3] (JU 2 (Ab (An 0) (Ab (An 1) Bz))) Dg (AW DJ (aV 0) (AW TK (aV 2) (aV 1))))) AL)) (An 4))
   (Ar (BL (AB (aV 4) (AB (aV 1) (AB (Z3 (aV 2) (aV 3)) AL))))))
abbrev M9:AS:=
 (AY (Aj (AN 1 CV (AB (aV 0) AL)) (An 3))
   Ou)
def CM:AF:=Ak 5 M9
def Rq {a b c:PV}{Q:PV->Prop}(h:M9 ⟨λ_=>Q .non,Q,λ_=>False,λ_=>False⟩ [some (.val a),some (.val b),some (.val c),none,none]):CM [a,b,c] Q:=h
abbrev Sw:AS:=
 (AY (Z4 5 6 7 1 3 (AW Am (aV 0) (aC (.int 2))) (AW Am (aV 2) (aC (.int 2))))
   (Ar (BL (AB (aV 4) (AB (FI (hZ max) (AB (AW Am (aV 0) (aC (.int 1))) (AB (AW Am (aV 2) (aC (.int 1))) AL))) (AB (aV 5) AL))))))
abbrev Sv:AS:=
 (AY (Aj (FI DS (AB (Ex (B7 (hJ (AB (AW Am (aV 0) (aC (.int 0))) (AB (AW Am (aV 2) (aC (.int 0))) AL))) 2 [1,3] (JU 2 (Ab (An 0) (Ab (An 1) Bz))) Dg (AW BX (AW DJ (aV 2) (aV 0)) (AW DJ (aV 3) (aV 1))))) AL)) (An 4))
   Sw)
def G1:AF:=Ak 8 Sv
def WH {a b c d:PV}{Q:PV->Prop}(h:Sv ⟨λ_=>Q .non,Q,λ_=>False,λ_=>False⟩ [some (.val a),some (.val b),some (.val c),some (.val d),none,none,none,none]):G1 [a,b,c,d] Q:=h
abbrev Pm:AS:=
 (Ar (AN 4 G1 (AB (aV 0) (AB (YY Nj (AW Am (AW Am (aV 1) (aC (.int 0))) (aV 2))) (AB (aV 1) (AB (AW Am (AW Am (aV 0) (aC (.int 0))) (aV 2)) AL))))))
def Fh:AF:=Ak 3 Pm
def UV {a b c:PV}{Q:PV->Prop}(h:Pm ⟨λ_=>Q .non,Q,λ_=>False,λ_=>False⟩ [some (.val a),some (.val b),some (.val c)]):Fh [a,b,c] Q:=h
abbrev M4:AS:=
 (AY (Aj (AW Am (AW Am (aV 0) (aC (.int 0))) (aC (.int 0))) (An 1))
   (Ar (pF (AW aS (aV 1) (aC (.int 0))) (VB (AW MZ (aV 1) (aC (.int 0))) (AW MZ (AW Am (aV 0) (aC (.int 1))) (aC (.int 1)))))))
def Dx:AF:=Ak 2 M4
def Rn {a:PV}{Q:PV->Prop}(h:M4 ⟨λ_=>Q .non,Q,λ_=>False,λ_=>False⟩ [some (.val a),none]):Dx [a] Q:=h
abbrev Qg:AS:=
 (AY (Aj (AW Am (AW Am (aV 0) (aC (.int 0))) (aV 1)) (An 3))
   (Ar (jE (A1 (AW aR (aV 3) (aC (.int 0)))) (BL (AB (YY Nj (aV 2)) (AB (aV 3) AL))) (BL (AB (aV 2) (AB (YY Nj (aV 3)) AL))))))
abbrev Pq:AS:=
 (AY (Aj (AW Am (AW Am (aV 0) (aC (.int 0))) (aC (.int 0))) (An 2))
   Qg)
def DW:AF:=Ak 4 Pq
def UZ {a b:PV}{Q:PV->Prop}(h:Pq ⟨λ_=>Q .non,Q,λ_=>False,λ_=>False⟩ [some (.val a),some (.val b),none,none]):DW [a,b] Q:=h
abbrev L4:AS:=
 (AY (CZ (A1 (AN 2 A0 (AB (aV 4) (AB (aV 3) AL)))) (Ar (AW aR (AW Am (AW Am (aV 0) (aC (.int 0))) (aV 2)) (aC (.int 0)))) BZ)
   (Ar (AW aR (AW Am (aV 0) (aC (.int 1))) (AW Am (aV 1) (aC (.int 1))))))
abbrev L3:AS:=
 (AY (CZ (A1 (AN 2 A0 (AB (aV 3) (AB (aV 4) AL)))) (Ar (AW aS (AW Am (AW Am (aV 0) (aC (.int 0))) (aV 2)) (aC (.int 0)))) BZ)
   L4)
abbrev L1:AS:=
 (AY (Aj (AN 2 DW (AB (aV 1) (AB (aV 2) AL))) (An 4))
   L3)
abbrev Jh:AS:=
 (AY (Aj (AN 2 DW (AB (aV 0) (AB (aV 2) AL))) (An 3))
   L1)
def Dj:AF:=Ak 5 Jh
def OM {a b c:PV}{Q:PV->Prop}(h:Jh ⟨λ_=>Q .non,Q,λ_=>False,λ_=>False⟩ [some (.val a),some (.val b),some (.val c),none,none]):Dj [a,b,c] Q:=h
abbrev O0:AS:=
 (AY (EF (Ha (aV 0)) (An 4) (CZ (Fi (A1 (AW aR (AW DJ (AW Am (AW Am (aV 4) (aC (.int 0))) (aV 1)) (aV 2)) (aC (.int 0)))) (S7 (A1 (AW IB (aV 3) (aC .non))) (A1 (AN 3 Dj (AB (aV 4) (AB (aV 3) (AB (aV 1) AL))))))) (Aj (aV 4) (An 3)) BZ))
   (Ar (aV 3)))
abbrev NE:AS:=
 (AY (Aj (aC .non) (An 3))
   O0)
def Cv:AF:=Ak 5 NE
def Rs {a b c:PV}{Q:PV->Prop}(h:NE ⟨λ_=>Q .non,Q,λ_=>False,λ_=>False⟩ [some (.val a),some (.val b),some (.val c),none,none]):Cv [a,b,c] Q:=h
abbrev Os:AS:=
 (AY (Aj (AN 3 Fh (AB (AN 3 Cv (AB (aV 0) (AB (aV 1) (AB (aC (.int 1)) AL)))) (AB (aV 3) (AB (aV 1) AL)))) (An 4))
   (Ar (jE (A1 (AN 1 Dx (AB (aV 4) AL))) (aV 4) (aC .non))))
abbrev Oq:AS:=
 (AY (CZ (A1 (AW IB (aV 3) (aC .non))) (Ar (aC .non)) BZ)
   Os)
abbrev Op:AS:=
 (AY (Aj (AN 3 Cv (AB (aV 0) (AB (aV 1) (AB (YY Nj (aC (.int 1))) AL)))) (An 3))
   Oq)
abbrev M3:AS:=
 (AY (EF (Ha (aV 0)) (An 2) (CZ (Fi (A1 (AW MZ (AW Am (AW Am (aV 2) (aC (.int 0))) (aV 1)) (aC (.int 0)))) (A1 (AN 1 Dx (AB (aV 2) AL)))) (Ar (aV 2)) BZ))
   Op)
def Ef:AF:=Ak 5 M3
def Rm {a b:PV}{Q:PV->Prop}(h:M3 ⟨λ_=>Q .non,Q,λ_=>False,λ_=>False⟩ [some (.val a),some (.val b),none,none,none]):Ef [a,b] Q:=h
abbrev Oz:AS:=
 (AY (Aj (AN 2 DW (AB (aV 4) (AB (aV 1) AL))) (An 5))
   (Ar (BL (AB (aV 3) (AB (AW IC (aC (.int 1)) (AW Am (aV 2) (aC (.int 1)))) (AB (AN 2 Fw (AB (AW Am (aV 5) (aC (.int 0))) (AB (AW Am (aV 5) (aC (.int 1))) AL))) AL))))))
abbrev Oy:AS:=
 (AY (CZ (A1 (AW IB (aV 4) (aC .non))) (Ar (BL (AB (aV 3) (AB (AW IC (aC (.int 1)) (AW Am (aV 2) (aC (.int 1)))) (AB (aC .non) AL))))) BZ)
   Oz)
abbrev Ox:AS:=
 (AY (Aj (AN 3 Cv (AB (aV 0) (AB (aV 1) (AB (YY Nj (aC (.int 1))) AL)))) (An 4))
   Oy)
abbrev Ow:AS:=
 (AY (Aj (AN 2 Fw (AB (AW Am (aV 3) (aC (.int 0))) (AB (AW Am (aV 3) (aC (.int 1))) AL))) (An 3))
   Ox)
abbrev Ov:AS:=
 (AY (Aj (AN 2 DW (AB (aV 2) (AB (aV 1) AL))) (An 3))
   Ow)
abbrev ND:AS:=
 (AY (Aj (AN 3 Cv (AB (aV 0) (AB (aV 1) (AB (aC (.int 1)) AL)))) (An 2))
   Ov)
def Eh:AF:=Ak 6 ND
def Rr {a b:PV}{Q:PV->Prop}(h:ND ⟨λ_=>Q .non,Q,λ_=>False,λ_=>False⟩ [some (.val a),some (.val b),none,none,none,none]):Eh [a,b] Q:=h
structure Df where
 c0:Int
 c1:Int
 s:Int
 w:List (Int×Int)
def Cf (p:Df):PV:= .tup [.tup [.int p.c0, .int p.c1], .int p.s, .dk p.w]
structure IA (N:Nat) (p:Df):Prop where
 a:p.c0.natAbs<2^N
 b:p.c1.natAbs<2^N
 w:∀e∈p.w,e.2.natAbs<2^N
 l:p.w.length<=12
 s:p.s=0\/p.s=1
instance{p:Df}:Ix (Cf p) 0 (.tup [.int p.c0, .int p.c1]):=⟨rfl⟩
instance{p:Df}:Ix (Cf p) 1 (.int p.s):=⟨rfl⟩
instance{p:Df}:Ix (Cf p) 2 (.dk p.w):=⟨rfl⟩
def jR {a b:AE}{τ:A6}{Q:PV->Prop}:Z3 a b τ Q=a τ λx=>b τ λy=>V6 x λi=>V6 y λj=>Q (.dk [(i,j)]):=by
 unfold Z3;congr 1
 funext x
 congr 1
 funext y
 cases x <;> cases y <;> rfl
instance{a b:AE}{τ:A6}{Q:PV->Prop}:Wp (Z3 a b τ Q) (a τ λx=>b τ λy=>V6 x λi=>V6 y λj=>Q (.dk [(i,j)])):=⟨λh=>by rw[jR];exact h⟩
def US (p:Df)(t:Rat):Rat:=p.c0+p.c1*t
def R1 {S:Nat}{r:Rat}{W N:Nat}(b:Bd W r)(h:S<2^N):(gM S r).natAbs<2^(W+N):=by unfold gM;rw[ADT];refine Vz b.top ?_;rw[ABT _ (by omega),<-ABj,AB4];exact AA1 (ABi ..) h
def WR {a b:Rat}{W:Nat}(i:Bd W a)(j:Bd W b)(g:W<=1400){Q:PV->Prop}(q:Q (.int (LV [a,b] :Nat))):CV [.tup [fr a,fr b]] Q:=by
 have hx:∀x∈ [a,b],Bd W x:=by simp;exact⟨i,j⟩
 apply KP;ac_rfl;show DK _ _ _ ([a,b].map fr) _;refine CO fr (λus vs τ=>∃d f,τ= [some (.val (.tup [fr a,fr b])),some (.val (.int (LV us:Nat))),d,f]) ?_ ?_ ⟨_,_,rfl⟩
 .rintro τ ⟨d,f,rfl⟩;ac_rfl;exact q
 .rintro us c vs e τ R k ⟨d,f,rfl⟩;have hu:∀x∈us,Bd W x:=λx l=>hx x (by rw[<-e];simp[l]);have ul:us.length<=6:=by have:=congrArg List.length e;simp at this;omega
  obtain⟨h1,h2,o⟩:=R5 us.length us rfl hu;have h:=(hx c (by rw[<-e];simp)).bot;have r:us.length*W<=6*1400:=Nat.mul_le_mul ul g;have s:0<Nat.gcd (LV us) c.den:=AB0 _ c.den_pos;have gl:Nat.gcd (LV us) c.den<2^8900:=A7 (AA1 (ACw c.den_pos (ACH ..)) h) (by omega);ac_rfl;refine Lh _ _ _ ?_;ac_rfl;refine⟨⟨by omega,by simpa using gl⟩, ?_⟩;have p:((c.den:Nat):Int).fdiv ((Nat.gcd (LV us) c.den:Nat):Int)=((c.den/Nat.gcd (LV us) c.den:Nat):Int):=by rw[ABT _ (by omega),ABj]
  rw[p];have dl:c.den/Nat.gcd (LV us) c.den<2^1400:=A7 (AA1 (ABi ..) h) g;ac_rfl;refine⟨MulOk.of (m:=8401) (n:=1400) (by simpa using A7 o (by omega)) (by rw[AB4];exact dl), ?_⟩;exact k _ ⟨some (.val (.int c.num)),some (.val (.int c.den)),by rw[X2,ACx];rfl⟩
def cC {a b:Rat}{W:Nat}{s n:Int}(c:Bd W a)(d:Bd W b)(e:W<=1400)(hs:s=0\/s=1){Q:PV->Prop}(q:∀(p:Df) (S:Rat),p.s=s->IA (3*W+1) p->0<S->(p.c1:Rat)=b*S->(p.c0:Rat)=a*S->Q (Cf p)):CM [.tup [fr a,fr b], .int s, .int n] Q:=by
 obtain⟨h1,h2,f⟩:=R5 (W:=W) 2 [a,b] rfl (by simp;exact⟨c,d⟩);have h:(0:Rat)<((LV [a,b] :Nat):Rat):=by exact_mod_cast h1
 have i:=R3 (h2 a (by simp));have j:=R3 (h2 b (by simp));have k:=R1 c f;have l:=R1 d f;have g:=q ⟨gM (LV [a,b]) a,gM (LV [a,b]) b,s, [(n,(LV [a,b] :Nat))]⟩ ((LV [a,b] :Nat):Rat) rfl ⟨A7 k (by omega),A7 l (by omega),by simp;exact A7 f (by omega),by simp,hs⟩ h j i;have m:((LV [a,b] :Int).fdiv (a.den:Int)).natAbs<2^2801:=by rw[ABT _ (by omega),<-ABj,AB4];exact AA1 (ABi ..) (A7 f (by omega))
 have o:((LV [a,b] :Int).fdiv (b.den:Int)).natAbs<2^2801:=by rw[ABT _ (by omega),<-ABj,AB4];exact AA1 (ABi ..) (A7 f (by omega))
 have u:0<a.den:=a.den_pos;have v:0<b.den:=b.den_pos;have r:=(c.mono e).bot;have t:=(d.mono e).bot;apply Rq;ac_rfl;refine WR c d e ?_;unfold gM at g;generalize LV [a,b] =S at *;repeat' array_get_dec
 refine⟨⟨by omega,by rw[AB4];exact A7 r (by decide)⟩, ?_⟩;repeat' array_get_dec
 refine⟨MulOk.of (c.mono e).top m, ?_⟩;repeat' array_get_dec
 refine⟨⟨by omega,by rw[AB4];exact A7 t (by decide)⟩, ?_⟩;repeat' array_get_dec
 refine⟨MulOk.of (d.mono e).top o, ?_⟩;repeat' array_get_dec
 exact g
def WM {many:Int}{m:zy (Int×Int)}:(CQ many m).length<=m.length:=by
 have key:∀(m a:zy (Int×Int)),(m.foldl (λa p=>OJ a p.1 (many*p.2)) a).length<=a.length+m.length:=by
  intro m;induction m with
  | nil=>intro a;simp
  | cons x r ih=> intro a;rw[ABB,AAb];have:=ih (OJ a x.1 (many*x.2));have:=OK a x.1 (many*x.2);omega
 have:=key m [];simpa[CQ] using this
def ZT {p r:Df}{N:Nat}{many more:Int}(hp:IA N p)(d:IA N r)(h1:many.natAbs<2^N)(h2:more.natAbs<2^N)(hN:N<=10000){Q:PV->Prop}(q:Q (Cf ⟨many*p.c0+more*r.c0,many*p.c1+more*r.c1,max p.s r.s,D2 more (CQ many p.w) r.w⟩)):G1 [Cf p, .int many,Cf r, .int more] Q:=by
 have c:∀x y:Int,x.natAbs<2^N->y.natAbs<2^N->MulOk x y:=λx y a b=> .of a b;have g:(CQ many p.w).length<=p.w.length:=WM;have f:=hp.l;have h:=d.l;apply WH;repeat' array_get_dec
 refine⟨c _ _ h1 hp.a, ?_⟩;repeat' array_get_dec
 refine⟨c _ _ h2 d.a, ?_⟩;repeat' array_get_dec
 refine⟨c _ _ h1 hp.b, ?_⟩;repeat' array_get_dec
 refine⟨c _ _ h2 d.b, ?_⟩;repeat' array_get_dec
 refine⟨⟨AAs rfl,AAs rfl,AAs rfl⟩, ?_⟩;repeat' array_get_dec
 refine⟨many,rfl,iL (n:=12) f (by decide),λe he=>c _ _ h1 (hp.w e he), ?_⟩;show AW Am (aV 2) (aC (.int 2)) [some (AV.val (Cf p)),some (AV.val (PV.int many)),some (AV.val (Cf r)),some (AV.val (PV.int more)),some (AV.val (PV.tup [PV.int (many*p.c0+more*r.c0),PV.int (many*p.c1+more*r.c1)])),none,none,none] _;repeat' array_get_dec
 refine⟨more,rfl,iL (n:=24) (by omega) (by decide),λe he=>c _ _ h2 (d.w e he), ?_⟩;simp only[List.set_cons_succ,List.set_cons_zero];repeat' array_get_dec
 exact q
def VO {p r:Df}{N:Nat}(hp:IA N p)(a:IA N r)(hN:N<=10000){Q:PV->Prop}(q:Q (Cf ⟨-r.c1*p.c0+p.c1*r.c0, -r.c1*p.c1+p.c1*r.c1,max p.s r.s,D2 p.c1 (CQ (-r.c1) p.w) r.w⟩)):Fh [Cf p,Cf r, .int 1] Q:=by
 apply UV;repeat' array_get_dec
 exact ZT hp a (by rw[ABy];exact a.b) hp.b hN q
def Iq (p:Df):zq:=decide (p.c0<0\/(p.c0=0/\p.s=1))
def Tv {p:Df}{Q:PV->Prop}(q:Q (.bl (Iq p))):Dx [Cf p] Q:=by
 unfold Iq at q;apply Rn;repeat' array_get_dec
 .rename_i h;rw[AAk (.inl h)] at q;exact q
 .rename_i h1 h2;rw[show decide (p.c0<0\/p.c0=0/\p.s=1)=decide (p.s=1) by rw[ABM];omega] at q;exact q
 .rename_i h1 h2;rw[AAZ (by omega)] at q;exact q
def B0 (p:Df):Int×Int:=if 0<p.c1 then (-p.c0,p.c1) else (p.c0, -p.c1)
def Ml {p:Df}{Q:PV->Prop}(q:Q (.tup [.int (B0 p).1, .int (B0 p).2])):DW [Cf p, .int 1] Q:=by
 unfold B0 at q;apply UZ;repeat' array_get_dec
 .rename_i h;rw[AAE h] at q;exact q
 .rename_i h;rw[AAD h] at q;exact q
def Dr (p:Df):Rat:= -(p.c0:Rat)/p.c1
def Wg (p r:Df):zq:=if (B0 p).1*(B0 r).2<(B0 r).1*(B0 p).2 then decide (p.c1<0) else if (B0 r).1*(B0 p).2<(B0 p).1*(B0 r).2 then decide (0<p.c1) else decide (r.s<p.s)
def HU {p:Df}{N:Nat}(h:IA N p):(B0 p).1.natAbs<2^N/\(B0 p).2.natAbs<2^N:=by
 unfold B0;have:=h.a;have:=h.b;split
 .rw [ABy];exact⟨h.a,h.b⟩
 .rw [ABy];exact⟨h.a,h.b⟩
def NZ {a b c d:Int}{N:Nat}(h1:a.natAbs<2^N)(h2:b.natAbs<2^N)(e:c.natAbs<2^N)(f:d.natAbs<2^N)(hN:N<=10000){Q:PV->Prop}(q:Q (.bl (decide (a*d<c*b)))):A0 [.tup [.int a, .int b], .tup [.int c, .int d]] Q:=by refine⟨.of h1 f, .of e h2,q⟩
def Wh {p r:Df}{N:Nat}(hp:IA N p)(d:IA N r)(hN:N<=10000){Q:PV->Prop}(q:Q (.bl (Wg p r))):Dj [Cf p,Cf r, .int 1] Q:=by
 obtain⟨a,b⟩:=HU hp;obtain⟨c,b2⟩:=HU d;unfold Wg at q;apply OM;ac_rfl;refine Ml ?_;ac_rfl;refine Ml ?_;ac_rfl;refine NZ a b c b2 hN ?_;ac_rfl
 .rename_i h;rw[AAE h] at q;exact q
 rename_i h;rw[AAD h] at q;refine NZ c b2 a b hN ?_;ac_rfl
 .rename_i h;rw[AAE h] at q;exact q
 .rename_i h;rw[AAD h] at q;exact q
def holds (p:Df)(t:Rat):Prop:=0<US p t\/(US p t=0/\p.s=0)
def DO {p:Df}(h:p.c1≠0):0<(B0 p).2/\((B0 p).1:Rat)=Dr p*((B0 p).2:Rat)/\(p.c0:Rat)= - (Dr p*p.c1):=by
 have hc:(p.c1:Rat)≠0:=by exact_mod_cast h
 have e:Dr p*(p.c1:Rat)= -(p.c0:Rat):=by unfold Dr;exact Rat.div_mul_cancel hc
 unfold B0;split
 .rename_i h1;refine⟨h1, ?_, ?_⟩
  .rw [e];push_cast;rfl
  .rw [e];grind
 .rename_i h1;refine⟨by show 0 < -p.c1;omega, ?_, ?_⟩
  .push_cast;grind
  .rw [e];grind
def YF {p r:Df}(hp:p.c1≠0)(a:r.c1≠0):(B0 p).1*(B0 r).2<(B0 r).1*(B0 p).2↔Dr p<Dr r:=by
 obtain⟨b,c,_⟩:=DO hp;obtain⟨d,b2,_⟩:=DO a;have e:(0:Rat)<((B0 p).2:Rat):=by exact_mod_cast b
 have f:(0:Rat)<((B0 r).2:Rat):=by exact_mod_cast d
 rw[<-AC8,AC7,AC7,c,b2];generalize ((B0 p).2:Rat)=x at *;generalize ((B0 r).2:Rat)=y at *;have g:0<x*y:=Rat.mul_pos e f;rw[show Dr p*x*y=Dr p*(x*y) by grind,show Dr r*y*x=Dr r*(x*y) by grind];exact Rat.mul_lt_mul_right g
def Xr {p:Df}(h:p.c1≠0)(t:Rat):US p t=p.c1*(t-Dr p):=by obtain⟨_,_,e⟩:=DO h;unfold US;rw[e];grind
def Ea {p:Df}(h:0<p.c1)(t:Rat):holds p t↔(Dr p<t\/(Dr p=t/\p.s=0)):=by
 have hc:(0:Rat)<p.c1:=by exact_mod_cast h
 unfold holds;rw[Xr (by omega)];have a:0<(p.c1:Rat)*(t-Dr p)↔Dr p<t:=by rw[AB5 hc];grind
 have b:(p.c1:Rat)*(t-Dr p)=0↔Dr p=t:=by rw[ACT];grind
 rw[a,b]
def D1 {p:Df}(h:p.c1<0)(t:Rat):holds p t↔(t<Dr p\/(Dr p=t/\p.s=0)):=by
 have hc:(0:Rat) < -(p.c1:Rat):=by
  have:(p.c1:Rat)<0:=by exact_mod_cast h
  grind
 unfold holds;rw[Xr (by omega)];have a:0<(p.c1:Rat)*(t-Dr p)↔t<Dr p:=by rw[show (p.c1:Rat)*(t-Dr p)= -(p.c1:Rat)*(Dr p-t) by grind,AB5 hc];grind
 have b:(p.c1:Rat)*(t-Dr p)=0↔Dr p=t:=by rw[ACT];grind
 rw[a,b]
instance{p:Df}{Q:PV->Prop}:Wp (IB (Cf p) .non Q) (Q (.bl false)):=⟨id⟩
def Rb:zt Df->PV|none=> .non|some p=>Cf p
def Ui (a:Int)(o:zt Df)(p:Df):zt Df:=if 0<p.c1*a then (match o with | none=>some p|some r=>if Wg p r=true then some p else some r) else o
def tight (a:Int)(b:zy Df):zt Df:=b.foldl (Ui a) none
def dQ {p r:Df}{b:Int}(h:b=1\/b= -1)(hp:0<p.c1*b)(a:0<r.c1*b)(sp:p.s=0\/p.s=1)(e:r.s=0\/r.s=1)(t:Rat):(Wg p r=true->holds p t->holds r t)/\(Wg p r=false->holds r t->holds p t):=by
 have c:p.c1≠0:=by intro z;rw[z] at hp;simp at hp
 have d:r.c1≠0:=by intro z;rw[z] at a;simp at a
 unfold Wg;simp only[YF c d,YF d c];rcases h with rfl|rfl
 .have hp:0<p.c1:=by omega
  have a:0<r.c1:=by omega
  rw[Ea hp,Ea a];split
  .simp [show ¬p.c1<0 by omega];grind
  .split
   .simp [hp];grind
   .simp;grind
 .have hp:p.c1<0:=by omega
  have a:r.c1<0:=by omega
  rw[D1 hp,D1 a];split
  .simp [hp];grind
  .split
   .simp [show ¬0<p.c1 by omega];grind
   .simp;grind
structure jA (sg:Int) (ps:List Df) (o:Option Df):Prop where
 no:o=none->∀p∈ps,¬0<p.c1*sg
 so:∀r,o=some r->r∈ps/\0<r.c1*sg/\∀p∈ps,0<p.c1*sg->∀t,holds r t->holds p t
def ZV {c:Int}(h:c=1\/c= -1){g:zy Df}{o:zt Df}{p:Df}(hs:∀p∈g,p.s=0\/p.s=1)(hp:p.s=0\/p.s=1)(i:jA c g o):jA c (g ++ [p]) (Ui c o p):=by
 unfold Ui;split
 .rename_i h1;cases o with
  | none=>
    refine⟨λz=>(by cases z),λr e=> ?_⟩;cases e;refine⟨by simp,h1,λx hx h2 t a=> ?_⟩;rcases AAN.mp hx with hx|hx
    .exact absurd h2 (i.no rfl x hx)
    .rw [AAV.mp hx];exact a
  | some r=>
    obtain⟨m,d,f⟩:=i.so r rfl;have j:=dQ h h1 d hp (hs r m);dsimp only;split
    .rename_i h2;refine⟨λz=>(by cases z),λk e=> ?_⟩;cases e;refine⟨by simp,h1,λx hx b t a=> ?_⟩;rcases AAN.mp hx with hx|hx
     .exact f x hx b t ((j t).1 h2 a)
     .rw [AAV.mp hx];exact a
    .rename_i h2;refine⟨λz=>(by cases z),λk e=> ?_⟩;cases e;refine⟨by simp[m],d,λx hx b t a=> ?_⟩;rcases AAN.mp hx with hx|hx
     .exact f x hx b t a
     .rw [AAV.mp hx];exact(j t).2 (by simpa using h2) a
 .rename_i h1;refine⟨λz x hx=> ?_,λr e=> ?_⟩
  .rcases AAN.mp hx with hx|hx
   .exact i.no z x hx
   .rw [AAV.mp hx];exact h1
  .obtain ⟨m,d,f⟩:=i.so r e;refine⟨by simp[m],d,λx hx b t a=> ?_⟩;rcases AAN.mp hx with hx|hx
   .exact f x hx b t a
   .rw [AAV.mp hx] at b;exact absurd b h1
def QW (a:Int)(us:zy Df)(p:Df):tight a (us ++ [p])=Ui a (tight a us) p:=by unfold tight;rw[ABa];rfl
theorem B4 {b:Int}(h:b=1\/b= -1):∀(n:Nat) (a:zy Df),a.length=n->(∀p∈a,p.s=0\/p.s=1)->jA b a (tight b a)
 | 0,a,e,_=>by have:a= [] :=ABm.mp e;subst this;exact⟨λ_=>by simp,λr e=>by cases e⟩
 | n+1,a,e,hs=>by obtain⟨ys,r,rfl⟩:∃ys r,a=ys ++ [r] :=⟨a.dropLast,a.getLast (by intro z;subst z;cases e),(ABn _).symm⟩;rw[QW];exact ZV h (λp hp=>hs p (by simp[hp])) (hs r (by simp)) (B4 h n ys (by simpa using e) λp hp=>hs p (by simp[hp]))
def FE {v:PV}{d:zy Df}{N:Nat}{c:Int}(hv:v= .lst (d.map Cf))(h:c=1\/c= -1)(ok:∀p∈d,IA N p)(hN:N<=10000)(hl:d.length<=100){Q:PV->Prop}(q:Q (Rb (tight c d))):Cv [v, .int 1, .int c] Q:=by
 subst hv;have o:c.natAbs<2^N\/N=0:=by
  rcases Nat.eq_zero_or_pos N with z|z
  .exact .inr z
  .left;have:2^1<=2^N:=Nat.pow_le_pow_right (by decide) z;omega
 apply Rs;ac_rfl;refine CO Cf (λus vs τ=>∃f,τ= [some (.val (.lst (d.map Cf))),some (.val (.int 1)),some (.val (.int c)),some (.val (Rb (tight c us))),f]) ?_ ?_ ⟨_,rfl⟩
 .rintro τ ⟨f,rfl⟩;ac_rfl;exact q
 .rintro us p vs e τ R g ⟨f,rfl⟩;have i:IA N p:=ok p (by rw[<-e];simp);have j:∀x∈us,IA N x:=λx hx=>ok x (by rw[<-e];simp[hx]);have k:=B4 h us.length us rfl λx hx=>(j x hx).s;have a:=g [some (.val (.lst (d.map Cf))),some (.val (.int 1)),some (.val (.int c)),some (.val (Rb (tight c (us ++ [p])))),some (.val (Cf p))] ⟨_,rfl⟩;clear g;rw[QW] at a;unfold Ui at a;have m1:MulOk p.c1 c:= .of (m:=10000) (n:=10000) (A7 i.b hN) (A7 (m:=1) (by omega) (by decide));cases hq:tight c us with
  | none=>
    rw[hq] at a;rw[show Rb none=PV.non from rfl];ac_rfl
    .rename_i z;rw[AAE z] at a;exact a
    .rename_i z;rw[AAD z] at a;exact a
  | some r=>
    rw[hq] at a;have l:=j r (k.so r hq).1;rw[show Rb (some r)=Cf r from rfl];ac_rfl
    .rename_i z;rw[AAE z] at a;refine Wh i l hN ?_;dsimp only at a;cases hb:Wg p r with
     | true=> rw[hb,AAE rfl] at a;ac_rfl;exact a
     | false=> rw[hb,AAD (by decide)] at a;ac_rfl;exact a
    .rename_i z;rw[AAD z] at a;exact a
def Wi {p:Df}(h:p.c1≠0):Rat.divInt (B0 p).1 (B0 p).2=Dr p:=by
 obtain⟨a,b,_⟩:=DO h;have hz:((B0 p).2:Rat)≠0:=by
  have:(0:Rat)<((B0 p).2:Rat):=by exact_mod_cast a
  grind
 rw[Rat.divInt_eq_div,b];exact Rat.mul_div_cancel hz
def cN {v:PV}{a:zy Df}{N:Nat}{l h:Df}(hv:v= .lst (a.map Cf))(ok:∀p∈a,IA N p)(hN:N<=8900)(hl:a.length<=100)(b:tight 1 a=some l)(c:tight (-1) a=some h){Q:PV->Prop}(q:Q (.tup [fr (Dr l), .int (1-l.s),fr (Dr h)])):Eh [v, .int 1] Q:=by
 have d:=(B4 (.inl rfl) a.length a rfl λx hx=>(ok x hx).s).so l b;have e:=(B4 (.inr rfl) a.length a rfl λx hx=>(ok x hx).s).so h c;have f:l.c1≠0:=by have:=d.2.1;omega
 have g:h.c1≠0:=by have:=e.2.1;omega
 have i:=HU (ok l d.1);have b2:=HU (ok h e.1);have j:=(DO f).1;have k:=(DO g).1;rw[<-Wi f,<-Wi g] at q;apply Rr;ac_rfl;refine FE hv (.inl rfl) ok (by omega) hl ?_;rw[b,show Rb (some l)=Cf l from rfl];ac_rfl;refine Ml ?_;ac_rfl;refine EX _ _ (by omega) (A7 i.2 hN) _ ?_;ac_rfl;refine FE hv (.inr rfl) ok (by omega) hl ?_;rw[c,show Rb (some h)=Cf h from rfl];ac_rfl;refine Ml ?_;ac_rfl;refine EX _ _ (by omega) (A7 b2.2 hN) _ ?_;ac_rfl;exact q
def W1 {a:zy Df}{l h:Df}(hs:∀p∈a,p.s=0\/p.s=1)(m:tight 1 a=some l)(n:tight (-1) a=some h)(h1:h.s=1)(o:∀p∈a,p.c1=0->Iq p=false)(t:Rat):(∀p∈a,holds p t)↔((Dr l<t\/(Dr l=t/\l.s=0))/\t<Dr h):=by
 have c:=(B4 (.inl rfl) a.length a rfl hs).so l m;have d:=(B4 (.inr rfl) a.length a rfl hs).so h n;have f:0<l.c1:=by have:=c.2.1;omega
 have g:h.c1<0:=by have:=d.2.1;omega
 constructor
 .intro i;have e:=(Ea f t).mp (i l c.1);have b:=(D1 g t).mp (i h d.1);refine⟨e, ?_⟩;rcases b with b|b
  .exact b
  .omega
 .rintro ⟨e,b⟩ p hp;rcases Int.lt_trichotomy p.c1 0 with z|z|z
  .exact d.2.2 p hp (by omega) t ((D1 g t).mpr (.inl b))
  .have:=o p hp z;unfold Iq at this;have this:=ABY this;unfold holds US;rw[z];rcases hs p hp with j|j
   .have:0<=p.c0:=by omega
    rcases Int.lt_or_eq_of_le this with k|k
    .left;have:(0:Rat)<p.c0:=by exact_mod_cast k
     grind
    .right;rw[<-k];exact⟨by grind,j⟩
   .have k:0<p.c0:=by omega
    left;have:(0:Rat)<p.c0:=by exact_mod_cast k
    grind
  .exact c.2.2 p hp (by omega) t ((Ea f t).mpr e)
def aU {v:PV}{a:zy Df}{N:Nat}(hv:v= .lst (a.map Cf))(ok:∀p∈a,IA N p)(hN:N<=8900)(hl:a.length<=100)(lo:∃p∈a,0<p.c1)(hi:∃p∈a,p.c1<0)(hs:∀p∈a,p.c1<0->p.s=1){Q:PV->Prop}(J:∀l h,tight 1 a=some l->tight (-1) a=some h->Dr l<Dr h->h.s=1->(∀p∈a,p.c1=0->Iq p=false)->Q .non)(E:∀p,(∀t,¬∀p∈a,holds p t)->Q (Cf p)):Ef [v, .int 1] Q:=by
 have F:=B4 (.inl rfl) a.length a rfl λx hx=>(ok x hx).s;have G:=B4 (.inr rfl) a.length a rfl λx hx=>(ok x hx).s;obtain⟨l,n⟩:∃l,tight 1 a=some l:=by
  cases e:tight 1 a with
  | some l=>exact⟨l,rfl⟩
  | none=>obtain⟨p,hp,h⟩:=lo;exact absurd (by omega) (F.no e p hp)
 obtain⟨h,o⟩:∃h,tight (-1) a=some h:=by
  cases e:tight (-1) a with
  | some l=>exact⟨l,rfl⟩
  | none=>obtain⟨p,hp,h⟩:=hi;exact absurd (by omega) (G.no e p hp)
 have f:=F.so l n;have g:=G.so h o;have H:0<l.c1:=by have:=f.2.1;omega
 have r:h.c1<0:=by have:=g.2.1;omega
 have K:=hs h g.1 r;apply Rm;ac_rfl;subst hv;refine CO Cf (λus vs τ=>(∀p∈us,p.c1=0->Iq p=false)/\∃u i j,τ= [some (.val (.lst (a.map Cf))),some (.val (.int 1)),u,i,j]) ?_ ?_ ⟨by simp,_,_,_,rfl⟩
 .rintro τ ⟨y,u,i,j,rfl⟩;have A:(0:Rat)<l.c1:=by exact_mod_cast H
  have B:(0:Rat) < -(h.c1:Rat):=by
   have:(h.c1:Rat)<0:=by exact_mod_cast r
   grind
  have L:((-h.c1*l.c0+l.c1*h.c0:Int):Rat)=(l.c1 * -(h.c1:Rat))*(Dr h-Dr l):=by
   push_cast
   rw[(DO (p:=l) (by omega)).2.2,(DO (p:=h) (by omega)).2.2];grind
  have M:max l.s h.s=1:=by have:=(ok l f.1).s;omega
  have C:=Rat.mul_pos A B;have key:Dr l<Dr h↔0 < -h.c1*l.c0+l.c1*h.c0:=by rw[<-AC8,L,ADi,AB5 C];grind
  ac_rfl;refine FE rfl (.inr rfl) ok (by omega) hl ?_;rw[o,show Rb (some h)=Cf h from rfl];ac_rfl;refine FE rfl (.inl rfl) ok (by omega) hl ?_;rw[n,show Rb (some l)=Cf l from rfl];ac_rfl;refine VO (ok l f.1) (ok h g.1) (by omega) ?_;have f1:=E ⟨-h.c1*l.c0+l.c1*h.c0, -h.c1*l.c1+l.c1*h.c1,max l.s h.s,D2 l.c1 (CQ (-h.c1) l.w) h.w⟩;have O:=J l h n o;generalize hb:(⟨-h.c1*l.c0+l.c1*h.c0, -h.c1*l.c1+l.c1*h.c1,max l.s h.s,D2 l.c1 (CQ (-h.c1) l.w) h.w⟩:Df)=b at *;have T:b.c0= -h.c1*l.c0+l.c1*h.c0:=by rw[<-hb]
  have bs:b.s=1:=by rw[<-hb];exact M
  ac_rfl;refine Tv ?_;cases c:Iq b with
  | true=>
    unfold Iq at c;have c:=ABX c;ac_rfl;refine f1 λt m=> ?_;have U:=(Ea H t).mp (m l f.1);have D:=(D1 r t).mp (m h g.1);have:Dr l<Dr h:=by
     rcases D with D|D
     .grind
     .omega
    have:=key.mp this;omega
  | false=> unfold Iq at c;have c:=ABY c;ac_rfl;exact O (key.mpr (by omega)) K y
 .rintro us p vs e τ R I ⟨y,u,i,j,rfl⟩;have P:p∈a:=by rw[<-e];simp
  have d:(p.c1=0->Iq p=false)->R [some (AV.val (PV.lst (List.map Cf a))),some (AV.val (PV.int 1)),some (AV.val (Cf p)),i,j] :=λh=>I _ ⟨λx hx=>by
   rcases AAN.mp hx with hx|hx
   .exact y x hx
   .rw [AAV.mp hx];exact h,_,_,_,rfl⟩
  clear I;ac_rfl
  .rename_i z;refine Tv ?_;cases c:Iq p with
   | true=>
     ac_rfl;refine E p λt m=> ?_;have:=m p P;unfold Iq at c;have c:=ABX c;unfold holds US at this;rw[z] at this;have S:(p.c0:Rat)+((0:Int):Rat)*t=(p.c0:Rat):=by grind
     rw[S] at this;rcases this with k|⟨k,W⟩
     .have:0<p.c0:=by exact_mod_cast k
      omega
     .have:p.c0=0:=by exact_mod_cast k
      omega
   | false=> ac_rfl;exact d λ_=>c
  .rename_i z;exact d λh=>absurd h z
abbrev Ot:AS:=
 (AY (EF (Ha (aV 0)) (JU 3 (Ab (An 3) (Ab (An 4) (Ab (An 5) Bz)))) (DX 2 Ga (AB (BL (AB (aV 3) (AB (aV 4) (AB (jE (A1 (AW IB (aV 5) (aC .non))) (aC .non) (AN 2 Ku (AB (aV 5) (AB (aV 1) AL)))) AL)))) AL)))
   (Ar (AN 1 Dz (AB (aV 2) AL))))
abbrev M5:AS:=
 (AY (GY (DI AL) 2)
   Ot)
def Eg:AF:=Ak 6 M5
def Ro {a b:PV}{Q:PV->Prop}(h:M5 ⟨λ_=>Q .non,Q,λ_=>False,λ_=>False⟩ [some (.val a),some (.val b),none,none,none,none]):Eg [a,b] Q:=h
def Tn {v:PV}{xs:zy PV}{ss:zy Au}{x:Rat}{B C:Nat}(hv:v= .tup xs\/v= .lst xs)(i:EE xs ss)(ok:∀s∈ss,BD B s)(hl:ss.length<=400)(hx:0<=x)(l:Bd C x)(m:B+C+1<=4000){Q:PV->Prop}(q:Q (.tup ((canon 1 (ss.map (Gc x))).map Aq))):Eg [v,fr x] Q:=by
 have A:=i.length;apply Ro;ac_rfl;refine bS hv ?_;refine Hg (λr τ=>∃us vs b c d,us++vs=ss/\EE r vs/\τ= [some (.val v),some (.val (fr x)),some (.own ((us.map (Gc x)).map Aq)),b,c,d]) ?_ ?_ _ _ ⟨[],ss,_,_,_,rfl,i,rfl⟩
 .rintro τ ⟨us,vs,b,c,d,e,hv,rfl⟩;cases hv;rw[ABP] at e;subst e;repeat' array_get_dec
  refine Lx (.inr rfl) (Ft (us.map (Gc x))) (B:=B+C+1) (λs hs=> ?_) (by rw[AAI];exact hl) m q;obtain⟨t,n,rfl⟩:=AAR.mp hs;exact K8 hx l (ok t n)
 .rintro y r τ R j ⟨us,vs,b,c,d,e,hv,rfl⟩;obtain⟨s,p,rfl,hy,u⟩:=WE hv;have os:=ok s (by rw[<-e];simp);have ul:us.length<=400:=by have:=congrArg List.length e;simp at this;omega
  have f:∀g b c d,g=(us.map (Gc x)).map Aq ++ [Aq (Gc x s)] ->R [some (.val v),some (.val (fr x)),some (.own g),b,c,d] :=λg b c d h=>j _ ⟨us ++ [s],p,b,c,d,by simpa using e,u,by rw[h];simp⟩;clear j;show Om y _;refine fX hy ⟨rfl, ?_⟩;obtain⟨a,k,o⟩:=s;cases o with
  | none=>
    repeat' array_get_dec
    exact f _ _ _ _ rfl
  | some t=>
    have bt:Bd B t:=(os.e t rfl).2;have w:Yl (a,k,some t).2.2=fr t:=rfl;repeat' array_get_dec
    .exact absurd ‹(a,k,some t).2.2=none› (λz=>by cases z)
    rw[w];repeat' array_get_dec
    exact f _ _ _ _ rfl
abbrev IT:AS:=
 (AY (Aj (AN 2 NR (AB (AN 2 D8 (AB (aV 5) (AB (aV 4) AL))) (AB (aV 2) AL))) (An 6))
   (DX 3 Ga (AB (BL (AB (AN 2 D8 (AB (aV 4) (AB (AN 2 Jj (AB (aV 6) (AB (AW Am (aV 0) (aC (.int 0))) AL))) AL))) (AB (aV 6) AL))) AL)))
abbrev IV:AS:=
 (AY (EF (hJ (AB (Z6 (aV 0) (Z8 (aC (.int 1))) Z7) (AB (Z6 (aV 1) (Z8 (aC (.int 1))) Z7) AL))) (JU 2 (Ab (An 4) (Ab (An 5) Bz))) IT)
   (Ar (BL (AB (AW Am (aV 0) (aC (.int 0))) (AB (AW Am (aV 1) (aC (.int 0))) (AB (aV 3) AL))))))
abbrev IU:AS:=
 (AY (GY (DI AL) 3)
   IV)
abbrev GR:AS:=
 (AY (Aj (AN 2 D8 (AB (AW Am (aV 1) (aC (.int 0))) (AB (AW Am (aV 0) (aC (.int 0))) AL))) (An 2))
   IU)
def B3:AF:=Ak 7 GR
def KO {a b:PV}{Q:PV->Prop}(h:GR ⟨λ_=>Q .non,Q,λ_=>False,λ_=>False⟩ [some (.val a),some (.val b),none,none,none,none,none]):B3 [a,b] Q:=h
abbrev Ld:AS:=
 (Ar (Ex (B7 (NY (AB (AW IC (FI ID (AB (aV 0) AL)) (aC (.int 1))) AL)) 1 [0] (An 0) Dg (AN 2 B3 (AB (AW Am (aV 1) (aV 0)) (AB (AW Am (aV 1) (AW BX (aV 0) (aC (.int 1)))) AL))))))
def EC:AF:=Ak 1 Ld
def Pg {a:PV}{Q:PV->Prop}(h:Ld ⟨λ_=>Q .non,Q,λ_=>False,λ_=>False⟩ [some (.val a)]):EC [a] Q:=h
abbrev O1:AS:=
 (AY (Aj (AN 2 EY (AB (aV 1) (AB (aV 3) AL))) (An 4))
   (DX 2 Ga (AB (BL (AB (AN 2 D8 (AB (AW Am (AW Am (aV 0) (aC (.int 1))) (aV 3)) (AB (aV 4) AL))) (AB (AN 2 Ku (AB (AW Am (AW Am (aV 0) (aC (.int 2))) (aV 3)) (AB (aV 4) AL))) AL))) AL)))
abbrev O2:AS:=
 (AY (EF (NY (AB (aC (.int 3)) AL)) (An 3) O1)
   (Ar (aV 2)))
abbrev NG:AS:=
 (AY (GY (DI AL) 2)
   O2)
def Ei:AF:=Ak 5 NG
def Ru {a b:PV}{Q:PV->Prop}(h:NG ⟨λ_=>Q .non,Q,λ_=>False,λ_=>False⟩ [some (.val a),some (.val b),none,none,none]):Ei [a,b] Q:=h
abbrev NA:AS:=
 (AY (DX 2 Ga (AB (S5 (AN 3 CM (AB (BL (AB (AN 2 D8 (AB (aV 6) (AB (aV 8) AL))) (AB (aV 7) AL))) (AB (aC (.int 1)) (AB (FI ID (AB (aV 2) AL)) AL))))) AL))
   (DX 2 Ga (AB (S5 (AN 3 CM (AB (BL (AB (AN 2 D8 (AB (aV 9) (AB (aV 6) AL))) (AB (AN 1 Dy (AB (aV 7) AL)) AL))) (AB (aC (.int 1)) (AB (FI ID (AB (aV 2) AL)) AL))))) AL)))
abbrev NC:AS:=
 (AY (EF (hJ (AB (aV 5) (AB (aV 1) AL))) (JU 2 (Ab (JU 2 (Ab (An 6) (Ab (An 7) Bz))) (Ab (JU 2 (Ab (An 8) (Ab (An 9) Bz))) Bz))) NA)
   (Ar (aV 2)))
abbrev NB:AS:=
 (AY (GY (DI (AB (AN 3 CM (AB (BL (AB (AN 1 Dy (AB (aV 3) AL)) (AB (aC (.tup [(.int 1),(.int 1)])) AL))) (AB (aC (.int 0)) (AB (aC (.int 0)) AL)))) (AB (AN 3 CM (AB (BL (AB (aV 4) (AB (aC (.tup [(.int (-1)),(.int 1)])) AL))) (AB (aC (.int 1)) (AB (aC (.int 1)) AL)))) AL))) 2)
   NC)
abbrev Le:AS:=
 (AY (Aj (aV 0) (JU 3 (Ab (An 3) (Ab (An 4) (Ab (An 5) Bz)))))
   NB)
def ED:AF:=Ak 10 Le
def Ph {a b:PV}{Q:PV->Prop}(h:Le ⟨λ_=>Q .non,Q,λ_=>False,λ_=>False⟩ [some (.val a),some (.val b),none,none,none,none,none,none,none,none]):ED [a,b] Q:=h
abbrev M7:AS:=
 (AY (Aj (AN 2 ED (AB (aV 3) (AB (aV 1) AL))) (An 4))
   (CZ (A1 (AW IB (AN 2 Ef (AB (aV 4) (AB (aC (.int 1)) AL))) (aC .non))) (DX 2 Ga (AB (AN 2 Eh (AB (aV 4) (AB (aC (.int 1)) AL))) AL)) BZ))
abbrev M8:AS:=
 (AY (EF (Ha (AN 1 EC (AB (aV 0) AL))) (An 3) M7)
   (Ar (aV 2)))
abbrev Lc:AS:=
 (AY (GY (DI AL) 2)
   M8)
def EB:AF:=Ak 5 Lc
def Pf {a b:PV}{Q:PV->Prop}(h:Lc ⟨λ_=>Q .non,Q,λ_=>False,λ_=>False⟩ [some (.val a),some (.val b),none,none,none]):EB [a,b] Q:=h
abbrev Wr:AS:=
 (AY (Aj (aV 0) (JU 2 (Ab (An 2) (Ab (An 3) Bz))))
   (Ar (AN 2 Eg (AB (AN 2 EB (AB (aV 2) (AB (AN 2 Ei (AB (aV 1) (AB (aV 3) AL))) AL))) (AB (AW Am (aV 3) (aC (.int 2))) AL)))))
def HY:AF:=Ak 4 Wr
def ZN {a b:PV}{Q:PV->Prop}(h:Wr ⟨λ_=>Q .non,Q,λ_=>False,λ_=>False⟩ [some (.val a),some (.val b),none,none]):HY [a,b] Q:=h
def Lu (b e:C4)(x y:Rat):Rat:=(y-x)/(e.1-b.1)
def Oj (b e:C4)(x y:Rat):Rat:=x-Lu b e x y*b.1
def fM (b e:C4)(x y:Rat):PV:= .tup [fr (Oj b e x y),fr (Lu b e x y)]
def Iu (b e:C4):PV:= .tup [fr b.1,fr e.1, .lst [fM b e b.2.1 e.2.1,fM b e b.2.2.1 e.2.2.1,fM b e b.2.2.2 e.2.2.2]]
def GG {b e:C4}{x y:Rat}{B:Nat}(hb:Bd B b.1)(he:Bd B e.1)(hx:Bd B x)(hy:Bd B y)(h:b.1<e.1):Bd (4*B+2) (Lu b e x y)/\Bd (6*B+3) (Oj b e x y):=by have s:Bd (4*B+2) (Lu b e x y):=(Bd.div (by grind) (hy.sub hx) (he.sub hb)).mono (by omega);exact⟨s,(hx.sub (s.mul hb)).mono (by omega)⟩
def cA {f:C4->PV}(a:f=cor\/f=corL){b e:C4}{B:Nat}(hb:FX B b)(he:FX B e)(h:b.1<e.1)(l:6*B+3<=3900){Q:PV->Prop}(q:Q (Iu b e)):B3 [f b,f e] Q:=by
 obtain⟨c,d⟩:=GG hb.m he.m hb.x he.x h;obtain⟨g,i⟩:=GG hb.m he.m hb.y he.y h;obtain⟨j,k⟩:=GG hb.m he.m hb.z he.z h;have n:e.1-b.1≠0:=by grind
 have bs:=he.m.sub hb.m;apply KO;rcases a with rfl|rfl
 .repeat' array_get_dec
  exact q
 .repeat' array_get_dec
  show Yn (.lst [fr b.1,fr b.2.1,fr b.2.2.1,fr b.2.2.2]) (some 1) none _;refine ET ?_;repeat' array_get_dec
  show Yn (.lst [fr e.1,fr e.2.1,fr e.2.2.1,fr e.2.2.2]) (some 1) none _;refine ET ?_;show Om (.lst [fr b.2.1,fr b.2.2.1,fr b.2.2.2]) λxs=>Om (.lst [fr e.2.1,fr e.2.2.1,fr e.2.2.2]) λys=>_;repeat' array_get_dec
  exact q
def Fq (cs:zy C4):zy (C4×C4):=cs.zip cs.tail
def gC {cs:zy C4}{i:Nat}(h:i+1<cs.length):∃b e,cs[i]? =some b/\cs[i+1]? =some e/\(Fq cs)[i]? =some (b,e):=by refine⟨cs[i],cs[i+1],AAT _,AAT _, ?_⟩;unfold Fq;rw[ADz];refine⟨AAT _, ?_⟩;rw[List.getElem?_tail];exact AAT _
def FA {cs:zy C4}(a:Lj cs){p:C4×C4}(h:p∈Fq cs):p.1∈cs/\p.2∈cs/\p.1.1<p.2.1:=by obtain⟨i,hi⟩:=List.getElem?_of_mem h;unfold Fq at hi;rw[ADz] at hi;obtain⟨h1,h2⟩:=hi;rw[List.getElem?_tail] at h2;exact⟨ABg h1,ABg h2,Xz a h1 h2⟩
def kM {cs:zy C4}{v:PV}{B:Nat}(hv:Li cs v)(hc:∀c∈cs,FX B c)(o:Lj cs)(h2:2<=cs.length)(hl:cs.length<=1000)(r:6*B+3<=3900){Q:PV->Prop}(q:Q (.lst ((Fq cs).map λp=>Iu p.1 p.2))):EC [v] Q:=by
 obtain⟨f,s,hv⟩:=hv;apply Pg;have t:(Fq cs).length=cs.length-1:=by unfold Fq;simp
 have go:∀w:PV,(∀(k:Int) (j:Nat) (c:C4) {R:PV->Prop},k=(j:Int)->cs[j]? =some c->R (f c)->Am w (.int k) R)->CJ (An 0) Dg (AN 2 B3 (AB (AW Am (aV 1) (aV 0)) (AB (AW Am (aV 1) (AW BX (aV 0) (aC (PV.int 1)))) AL))) [none,some (AV.val w)] (λxs=>Q (PV.lst xs)) (rng 0 ((cs.length:Int)-1).toNat) [] :=λw ix=>by
  refine W9 (λi a=>a=((Fq cs).map λp=>Iu p.1 p.2).take i) (λa e=> ?_) (λi hi a R n e=> ?_) rfl
  .rw [e,ABV (by rw[AAI,t];omega)];exact q
  .obtain ⟨b,d,g,l,ep⟩:=gC (cs:=cs) (i:=i) (by omega);have m:=n (a ++ [Iu b d]) (by rw[e,List.take_add_one,AAm,ep];rfl);clear n;ac_rfl;refine ix _ i b (by omega) g ?_;ac_rfl;refine ix _ (i+1) d (by omega) l ?_;ac_rfl;refine cA s (hc b (ABg g)) (hc d (ABg l)) (Xz o g l) r ?_;exact m
 rcases hv with rfl|rfl
 .ac_rfl;exact go _ λk j c R hk e h=>Qy hk e h
 .ac_rfl;exact go _ λk j c R hk e h=>Qy hk e h
def Wy (lo hi:T3)(v:PV):Prop:=∃a b l h,Sx lo l/\Sx hi h/\(v= .tup [a,l,h,b] \/v= .lst [a,l,h,b])
def JR (lo hi:T3):PV:= .lst [.tup [fr lo.1,fr hi.1], .tup [fr lo.2.1,fr hi.2.1], .tup [fr lo.2.2,fr hi.2.2]]
def Dk {b:T3}{w:PV}(hw:Sx b w){R:PV->Prop}:(R (fr b.1)->Am w (.int 0) R)/\(R (fr b.2.1)->Am w (.int 1) R)/\(R (fr b.2.2)->Am w (.int 2) R):=by rcases hw with rfl|rfl <;> exact⟨id,id,id⟩
def Uj {lo hi b:T3}{v w:PV}(hv:Wy lo hi v)(hw:Sx b w)(c:Cn 100 lo)(d:Cn 100 hi)(e:Cn 100 b){Q:PV->Prop}(q:Q (JR (lo.1-b.1,lo.2.1-b.1,lo.2.2-b.2.1) (hi.1+b.1,hi.2.1+b.1,hi.2.2+b.2.1))):Ei [v,w] Q:=by
 obtain⟨p,r,l,h,hl,a,hv⟩:=hv;have f:=c.x;have g:=c.y;have i:=c.z;have j:=d.x;have k:=d.y;have m:=d.z;have n:=e.x;have o:=e.y;apply Ru;rcases hv with rfl|rfl
 .ac_rfl;show DK _ _ _ [.int 0, .int 1, .int 2] _;repeat' array_get_dec
  refine Fk hw ?_;rw[AAD (by decide)];repeat' array_get_dec
  refine(Dk hl).1 ?_;repeat' array_get_dec
  refine(Dk a).1 ?_;repeat' array_get_dec
  refine Fk hw ?_;rw[AAD (by decide)];repeat' array_get_dec
  refine(Dk hl).2.1 ?_;repeat' array_get_dec
  refine(Dk a).2.1 ?_;repeat' array_get_dec
  refine Fk hw ?_;rw[AAE (by decide)];repeat' array_get_dec
  refine(Dk hl).2.2 ?_;repeat' array_get_dec
  refine(Dk a).2.2 ?_;repeat' array_get_dec
  exact q
 .ac_rfl;show DK _ _ _ [.int 0, .int 1, .int 2] _;repeat' array_get_dec
  refine Fk hw ?_;rw[AAD (by decide)];repeat' array_get_dec
  refine(Dk hl).1 ?_;repeat' array_get_dec
  refine(Dk a).1 ?_;repeat' array_get_dec
  refine Fk hw ?_;rw[AAD (by decide)];repeat' array_get_dec
  refine(Dk hl).2.1 ?_;repeat' array_get_dec
  refine(Dk a).2.1 ?_;repeat' array_get_dec
  refine Fk hw ?_;rw[AAE (by decide)];repeat' array_get_dec
  refine(Dk hl).2.2 ?_;repeat' array_get_dec
  refine(Dk a).2.2 ?_;repeat' array_get_dec
  exact q
abbrev Fm:=Rat×Rat×Int
def hF (f:Fm)(t:Rat):Prop:=0<f.1+f.2.1*t\/(f.1+f.2.1*t=0/\f.2.2=0)
structure Zv (N:Nat) (f:Fm) (p:Df):Prop where
 ok:IA N p
 s:p.s=f.2.2
 ex:∃S:Rat,0<S/\(p.c0:Rat)=f.1*S/\(p.c1:Rat)=f.2.1*S
inductive NU (N:Nat):List Fm->List Df->Prop where
 | nil:NU N [] []
 | cons {f:Fm} {p:Df} {fs:List Fm} {ps:List Df} (h:Zv N f p) (t:NU N fs ps):NU N (f::fs) (p::ps)
def Zv.hold {N:Nat}{f:Fm}{p:Df}(h:Zv N f p)(t:Rat):holds p t↔hF f t:=by
 obtain⟨S,a,b,c⟩:=h.ex;unfold holds hF US;rw[b,c,h.s,show f.1*S+f.2.1*S*t=S*(f.1+f.2.1*t) by grind,AB5 a,ACT];have:S≠0:=by grind
 simp[this]
def Zv.sign {N:Nat}{f:Fm}{p:Df}(h:Zv N f p):(0<p.c1↔0<f.2.1)/\(p.c1<0↔f.2.1<0):=by
 obtain⟨S,c,e,d⟩:=h.ex;have a:0<p.c1↔(0:Rat)<(p.c1:Rat):=by rw[<-ADi,AC8]
 have b:p.c1<0↔(p.c1:Rat)<0:=by rw[<-ADi,AC8]
 rw[a,b,d];refine⟨?_, ?_⟩
 .rw [Rat.mul_comm,AB5 c]
 .constructor
  .intro k;have:0<S*(-f.2.1):=by grind
   rw[AB5 c] at this;grind
  .intro k;have:0<S*(-f.2.1):=Rat.mul_pos c (by grind);grind
def Zv.turn {N:Nat}{f:Fm}{p:Df}(h:Zv N f p)(e:f.2.1≠0):f.1+f.2.1*Dr p=0:=by
 obtain⟨S,g,b,a⟩:=h.ex;have hs:S≠0:=by grind
 have c:(p.c1:Rat)≠0:=by rw[a];intro z;rcases ACT.mp z with z|z <;> contradiction
 have d:p.c1≠0:=by intro z;rw[z] at c;exact c rfl
 have:=(DO d).2.2;rw[b,a] at this;have:S*(f.1+f.2.1*Dr p)=0:=by grind
 rcases ACT.mp this with z|z
 .contradiction
 .exact z
def NU.mem {N:Nat}:∀{e:zy Fm} {g:zy Df},NU N e g->(∀p∈g,∃f∈e,Zv N f p)/\(∀f∈e,∃p∈g,Zv N f p)/\g.length=e.length
 | _,_, .nil=>⟨by simp,by simp,rfl⟩
 | _,_, .cons h t=>by
   obtain⟨a,b,c⟩:=t.mem;refine⟨λp hp=> ?_,λf d=> ?_,by simp[c]⟩
   .rcases AAF.mp hp with rfl|hp
    .exact ⟨_,by simp,h⟩
    .obtain ⟨f,d,k⟩:=a p hp;exact⟨f,by simp[d],k⟩
   .rcases AAF.mp d with rfl|d
    .exact ⟨_,by simp,h⟩
    .obtain ⟨p,hp,k⟩:=b f d;exact⟨p,by simp[hp],k⟩
def Db {a b:Rat}{W:Nat}{s n:Int}(c:Bd W a)(d:Bd W b)(e:W<=1400)(hs:s=0\/s=1){Q:PV->Prop}(q:∀p:Df,Zv (3*W+1) (a,b,s) p->Q (Cf p)):CM [.tup [fr a,fr b], .int s, .int n] Q:=
 cC c d e hs λp S h1 h2 f g h=>q p ⟨h2,h1,S,f,h,g⟩
def Qv (b e:C4)(lo hi:T3):zy Fm:= [(-b.1,1,0),(e.1, -1,1),
 (Oj b e b.2.1 e.2.1-lo.1,Lu b e b.2.1 e.2.1,1),(hi.1-Oj b e b.2.1 e.2.1, -Lu b e b.2.1 e.2.1,1),
 (Oj b e b.2.2.1 e.2.2.1-lo.2.1,Lu b e b.2.2.1 e.2.2.1,1),(hi.2.1-Oj b e b.2.2.1 e.2.2.1, -Lu b e b.2.2.1 e.2.2.1,1),
 (Oj b e b.2.2.2 e.2.2.2-lo.2.2,Lu b e b.2.2.2 e.2.2.2,1),(hi.2.2-Oj b e b.2.2.2 e.2.2.2, -Lu b e b.2.2.2 e.2.2.2,1)]
def ZI {b e:C4}{lo hi:T3}{B:Nat}(hb:FX B b)(he:FX B e)(h:b.1<e.1)(k:Cn 201 lo)(l:Cn 201 hi)(a:6*B+205<=1400){Q:PV->Prop}(q:∀u,NU (3*(6*B+205)+1) (Qv b e lo hi) u->Q (.lst (u.map Cf))):ED [Iu b e,JR lo hi] Q:=by
 obtain⟨c,d⟩:=GG hb.m he.m hb.x he.x h;obtain⟨f,g⟩:=GG hb.m he.m hb.y he.y h;obtain⟨i,j⟩:=GG hb.m he.m hb.z he.z h;have n:=k.x;have o:=k.y;have p:=k.z;have r:=l.x;have s:=l.y;have t:=l.z;have bm:=hb.m;have v:=he.m;unfold Iu JR fM;unfold Qv at q;generalize Oj b e b.2.1 e.2.1=x0 at *;generalize Oj b e b.2.2.1 e.2.2.1=y0 at *;generalize Oj b e b.2.2.2 e.2.2.2=z0 at *;generalize Lu b e b.2.1 e.2.1=x1 at *;generalize Lu b e b.2.2.1 e.2.2.1=y1 at *;generalize Lu b e b.2.2.2 e.2.2.2=z1 at *;have w:Bd (6*B+205) (1:Rat):=mW.mono (by omega);have A:Bd (6*B+205) (-1:Rat):=mW.neg.mono (by omega);apply Ph;repeat' array_get_dec
 refine RI ?_;repeat' array_get_dec
 rw[show PV.tup [PV.int 1,PV.int 1] =fr 1 from rfl];refine Db (W:=6*B+205) (bm.neg.mono (by omega)) w a (.inl rfl) λC f0=> ?_;repeat' array_get_dec
 rw[show PV.tup [PV.int (-1),PV.int 1] =fr (-1) from rfl];refine Db (W:=6*B+205) (v.mono (by omega)) A a (.inr rfl) λD f1=> ?_;repeat' array_get_dec
 refine Db (W:=6*B+205) ((d.sub n).mono (by omega)) (c.mono (by omega)) a (.inr rfl) λE F=> ?_;repeat' array_get_dec
 refine RI ?_;repeat' array_get_dec
 refine Db (W:=6*B+205) ((r.sub d).mono (by omega)) (c.neg.mono (by omega)) a (.inr rfl) λG H=> ?_;repeat' array_get_dec
 refine Db (W:=6*B+205) ((g.sub o).mono (by omega)) (f.mono (by omega)) a (.inr rfl) λI J=> ?_;repeat' array_get_dec
 refine RI ?_;repeat' array_get_dec
 refine Db (W:=6*B+205) ((s.sub g).mono (by omega)) (f.neg.mono (by omega)) a (.inr rfl) λK L=> ?_;repeat' array_get_dec
 refine Db (W:=6*B+205) ((j.sub p).mono (by omega)) (i.mono (by omega)) a (.inr rfl) λM N=> ?_;repeat' array_get_dec
 refine RI ?_;repeat' array_get_dec
 refine Db (W:=6*B+205) ((t.sub j).mono (by omega)) (i.neg.mono (by omega)) a (.inr rfl) λO P=> ?_;repeat' array_get_dec
 exact q [C,D,E,G,I,K,M,O] (.cons f0 (.cons f1 (.cons F (.cons H (.cons J (.cons L (.cons N (.cons P .nil))))))))
def g6 (lo hi p:T3):Prop:=(lo.1<p.1/\p.1<hi.1)/\(lo.2.1<p.2.1/\p.2.1<hi.2.1)/\(lo.2.2<p.2.2/\p.2.2<hi.2.2)
instance (lo hi p:T3):Decidable (g6 lo hi p):=by unfold g6;infer_instance
def Jz (lo hi:T3)(p:C4×C4)(t:Rat):Prop:=p.1.1<=t/\t<p.2.1/\g6 lo hi (inter p.1 p.2 t)
def la (lo hi:T3)(p:C4×C4)(m:Rat):Prop:=m=p.1.1\/m=p.2.1\/(p.1.1<m/\m<p.2.1/\((p.1.2.1≠p.2.2.1/\((inter p.1 p.2 m).1=lo.1\/(inter p.1 p.2 m).1=hi.1))\/(p.1.2.2.1≠p.2.2.2.1/\((inter p.1 p.2 m).2.1=lo.2.1\/(inter p.1 p.2 m).2.1=hi.2.1))\/(p.1.2.2.2≠p.2.2.2.2/\((inter p.1 p.2 m).2.2=lo.2.2\/(inter p.1 p.2 m).2.2=hi.2.2))))
def Vs {b e:C4}(x y t:Rat):x+(t-b.1)/(e.1-b.1)*(y-x)=Oj b e x y+Lu b e x y*t:=by unfold Oj Lu;rw[ACv,ACv];grind
def Tk (b e:C4)(t:Rat):inter b e t=(Oj b e b.2.1 e.2.1+Lu b e b.2.1 e.2.1*t,Oj b e b.2.2.1 e.2.2.1+Lu b e b.2.2.1 e.2.2.1*t,Oj b e b.2.2.2 e.2.2.2+Lu b e b.2.2.2 e.2.2.2*t):=by rw[<-Vs,<-Vs,<-Vs];rfl
def eJ {b e:C4}{lo hi:T3}(t:Rat):(∀f∈Qv b e lo hi,hF f t)↔Jz lo hi (b,e) t:=by
 unfold Jz g6;simp only[Tk];unfold Qv hF;simp only[AAF,AAg,AAe,forall_eq_or_imp,forall_eq];generalize Oj b e b.2.1 e.2.1=x0 at *;generalize Oj b e b.2.2.1 e.2.2.1=y0 at *;generalize Oj b e b.2.2.2 e.2.2.2=z0 at *;generalize Lu b e b.2.1 e.2.1=x1 at *;generalize Lu b e b.2.2.1 e.2.2.1=y1 at *;generalize Lu b e b.2.2.2 e.2.2.2=z1 at *;have m:(0 < -b.1+1*t\/ -b.1+1*t=0/\True)↔b.1<=t:=by grind
 have n:(0<e.1 + -1*t)↔t<e.1:=by grind
 have a:∀l x y:Rat,0<x-l+y*t↔l<x+y*t:=by intro l x y;grind
 have c:∀l x y:Rat,0<l-x + -y*t↔x+y*t<l:=by intro l x y;grind
 have z:¬((1:Int)=0):=by decide
 simp only[z,and_false,AAe,n,a lo.1 x0 x1,c hi.1 x0 x1,a lo.2.1 y0 y1,c hi.2.1 y0 y1,a lo.2.2 z0 z1,c hi.2.2 z0 z1];rw[m];constructor
 .rintro ⟨d,h1,h2,g,h,i,j,k⟩;exact⟨d,h1,⟨h2,g⟩,⟨h,i⟩,j,k⟩
 .rintro ⟨d,h1,⟨h2,g⟩,⟨h,i⟩,j,k⟩;exact⟨d,h1,h2,g,h,i,j,k⟩
def Rg {N:Nat}{b e:C4}{lo hi:T3}{c:zy Df}(h:NU N (Qv b e lo hi) c)(t:Rat):(∀p∈c,holds p t)↔Jz lo hi (b,e) t:=by
 obtain⟨m1,m2,_⟩:=h.mem;rw[<-eJ];constructor
 .intro k f a;obtain⟨p,hp,r⟩:=m2 f a;exact(r.hold t).mp (k p hp)
 .intro k p hp;obtain⟨f,a,r⟩:=m1 p hp;exact(r.hold t).mpr (k f a)
def WS {b e:C4}{x y:Rat}(h:Lu b e x y≠0):x≠y:=by intro z;subst z;apply h;unfold Lu;rw[ACv];grind
def XH {b e:C4}{lo hi:T3}{f:Fm}{m:Rat}(d:f∈Qv b e lo hi)(a:f.2.1≠0)(c:f.1+f.2.1*m=0)(h1:b.1<=m)(h2:m<=e.1):la lo hi (b,e) m:=by
 unfold la;by_cases g:m=b.1
 .exact .inl g
 by_cases h:m=e.1
 .exact .inr (.inl h)
 refine .inr (.inr ⟨by show b.1<m;grind,by show m<e.1;grind, ?_⟩);simp only[Tk];unfold Qv at d;simp only[AAF,AAg,AAe] at d;have i:= @WS b e b.2.1 e.2.1;have j:= @WS b e b.2.2.1 e.2.2.1;have sz:= @WS b e b.2.2.2 e.2.2.2;generalize Oj b e b.2.1 e.2.1=x0 at *;generalize Oj b e b.2.2.1 e.2.2.1=y0 at *;generalize Oj b e b.2.2.2 e.2.2.2=z0 at *;generalize Lu b e b.2.1 e.2.1=x1 at *;generalize Lu b e b.2.2.1 e.2.2.1=y1 at *;generalize Lu b e b.2.2.2 e.2.2.2=z1 at *;rcases d with rfl|rfl|rfl|rfl|rfl|rfl|rfl|rfl
 .exact absurd (by dsimp only at c;grind) g
 .exact absurd (by dsimp only at c;grind) h
 .exact .inl ⟨i (by dsimp only at a;exact a), .inl (by dsimp only at c ⊢;grind)⟩
 .exact .inl ⟨i (by dsimp only at a;grind), .inr (by dsimp only at c ⊢;grind)⟩
 .exact .inr (.inl ⟨j (by dsimp only at a;exact a), .inl (by dsimp only at c ⊢;grind)⟩)
 .exact .inr (.inl ⟨j (by dsimp only at a;grind), .inr (by dsimp only at c ⊢;grind)⟩)
 .exact .inr (.inr ⟨sz (by dsimp only at a;exact a), .inl (by dsimp only at c ⊢;grind)⟩)
 .exact .inr (.inr ⟨sz (by dsimp only at a;grind), .inr (by dsimp only at c ⊢;grind)⟩)
def dR {p:Df}{N:Nat}(h:IA N p)(c:p.c1≠0):Bd N (Dr p):=by obtain⟨a,b⟩:=HU h;rw[<-Wi c];exact .divInt (by have:=(DO c).1;omega) a b
structure Qm (N:Nat) (lo hi:T3) (p:C4×C4) (s:Au):Prop where
 ok:BD N s
 fin:∃x,s.2.2=some x/\la lo hi p x
 bmk:la lo hi p s.1
 sem:∀t,Al s (t,0)=true↔Jz lo hi p t
def Uf {N:Nat}{b e:C4}{lo hi:T3}{a:zy Df}{l h:Df}(hp:NU N (Qv b e lo hi) a)(v:tight 1 a=some l)(w:tight (-1) a=some h)(D:Dr l<Dr h)(hs:h.s=1)(E:∀p∈a,p.c1=0->Iq p=false):Qm N lo hi (b,e) (Dr l,1-l.s,some (Dr h)):=by
 obtain⟨m1,m2,_⟩:=hp.mem;have g:∀p∈a,p.s=0\/p.s=1:=λp hp=>by obtain⟨f,_,r⟩:=m1 p hp;exact r.ok.s
 have i:=(B4 (.inl rfl) a.length a rfl g).so l v;have j:=(B4 (.inr rfl) a.length a rfl g).so h w;have y:0<l.c1:=by have:=i.2.1;omega
 have A:h.c1<0:=by have:=j.2.1;omega
 obtain⟨F,G,c⟩:=m1 l i.1;obtain⟨H,I,m⟩:=m1 h j.1;have J:=W1 g v w hs E;have n:∀t,((Dr l<t\/(Dr l=t/\l.s=0))/\t<Dr h)↔Jz lo hi (b,e) t:=λt=>by rw[<-J t,Rg hp]
 have K:b.1<=Dr l:=by
  obtain⟨o,u,d⟩:=m2 (-b.1,1,0) (by simp[Qv]);by_cases z:b.1<=Dr l
  .exact z
  exfalso;have k:=i.2.2 o u (by have:=d.sign.1.mpr (by show (0:Rat)<1;decide);omega) ((Dr l+b.1)/2) ((Ea y _).mpr (.inl (by grind)));have k:=(d.hold _).mp k;unfold hF at k;dsimp only at k;grind
 have he:Dr h<=e.1:=by
  obtain⟨o,u,d⟩:=m2 (e.1, -1,1) (by simp[Qv]);by_cases z:Dr h<=e.1
  .exact z
  exfalso;have k:=j.2.2 o u (by have:=d.sign.2.mpr (by show (-1:Rat)<0;decide);omega) ((Dr h+e.1)/2) ((D1 A _).mpr (.inl (by grind)));have k:=(d.hold _).mp k;unfold hF at k;dsimp only at k;grind
 have B:F.2.1≠0:=by have:=c.sign.1.mp y;grind
 have C:H.2.1≠0:=by have:=m.sign.2.mp A;grind
 refine⟨⟨dR c.ok (by omega),by have:=c.ok.s;show 1-l.s=0\/1-l.s=1;omega,λx hx=> ?_⟩,⟨_,rfl,XH I C (m.turn C) (by grind) he⟩,XH G B (c.turn B) K (by grind),λt=> ?_⟩
 .cases hx;exact⟨D,dR m.ok (by omega)⟩
 .rw [<-n t];have:=c.ok.s;simp only[Al,AAn,ABk,ABW];have:(0<1-l.s+0)↔l.s=0:=by omega
  rw[this]
structure CY (N:Nat) (lo hi:T3) (us:List (C4×C4)) (ss:List Au):Prop where
 ok:∀s∈ss,∃p∈us,Qm N lo hi p s
 all:∀p∈us,∀t,Jz lo hi p t->∃s∈ss,Al s (t,0)=true
 len:ss.length<=us.length
def CY.more {N:Nat}{lo hi:T3}{us:zy (C4×C4)}{ss:zy Au}{p:C4×C4}{s:Au}(h:CY N lo hi us ss)(k:Qm N lo hi p s):CY N lo hi (us ++ [p]) (ss ++ [s]):=by
 refine⟨λx hx=> ?_,λq hq t a=> ?_,by have:=h.len;simp;omega⟩
 .rcases AAN.mp hx with hx|hx
  .obtain ⟨q,hq,r⟩:=h.ok x hx;exact⟨q,by simp[hq],r⟩
  .rw [AAV.mp hx];exact⟨p,by simp,k⟩
 .rcases AAN.mp hq with hq|hq
  .obtain ⟨x,hx,r⟩:=h.all q hq t a;exact⟨x,by simp[hx],r⟩
  .rw [AAV.mp hq] at a;exact⟨s,by simp,(k.sem t).mpr a⟩
def CY.less {N:Nat}{lo hi:T3}{us:zy (C4×C4)}{ss:zy Au}{p:C4×C4}(h:CY N lo hi us ss)(k:∀t,¬Jz lo hi p t):CY N lo hi (us ++ [p]) ss:=by
 refine⟨λx hx=> ?_,λq hq t a=> ?_,by have:=h.len;simp;omega⟩
 .obtain ⟨q,hq,r⟩:=h.ok x hx;exact⟨q,by simp[hq],r⟩
 .rcases AAN.mp hq with hq|hq
  .exact h.all q hq t a
  .rw [AAV.mp hq] at a;exact absurd a (k t)
def bX {cs:zy C4}{lo hi:T3}{v:PV}{B:Nat}(hv:Li cs v)(hc:∀c∈cs,FX B c)(o:Lj cs)(h2:2<=cs.length)(hl:cs.length<=1000)(E:Cn 201 lo)(F:Cn 201 hi)(G:6*B+205<=1400){Q:PV->Prop}(q:∀ss,CY (3*(6*B+205)+1) lo hi (Fq cs) ss->Q (.lst (ss.map Aq))):EB [v,JR lo hi] Q:=by
 have N:(Fq cs).length=cs.length-1:=by unfold Fq;simp
 apply Pf;ac_rfl;refine kM hv hc o h2 hl (by omega) ?_;ac_rfl;refine CO (λp:C4×C4=>Iu p.1 p.2) (λus vs τ=>∃ss a d,CY (3*(6*B+205)+1) lo hi us ss/\τ= [some (.val v),some (.val (JR lo hi)),some (.own (ss.map Aq)),a,d]) ?_ ?_ ⟨[],_,_,⟨by simp,by simp,by simp⟩,rfl⟩
 .rintro τ ⟨ss,a,d,h,rfl⟩;ac_rfl;exact q ss h
 .rintro us p vs e τ R j ⟨ss,a,d,h,rfl⟩;obtain⟨m1,m2,m3⟩:=FA o (p:=p) (by rw[<-e];simp);have ul:us.length<=1000:=by have:=congrArg List.length e;simp at this;omega
  have O:=h.len;ac_rfl;refine ZI (hc _ m1) (hc _ m2) m3 E F G λu hp=> ?_;obtain⟨w,y,H⟩:=hp.mem;have z:∀p∈u,IA (3*(6*B+205)+1) p:=λp hp=>by obtain⟨f,_,r⟩:=w p hp;exact r.ok
  have A:u.length<=100:=by rw[H];exact AAs rfl
  ac_rfl;refine aU rfl z (by omega) A ?_ ?_ ?_ (λl h' C D I J K=> ?_) (λb L=> ?_)
  .obtain ⟨k,i,m⟩:=y (-p.1.1,1,0) (by simp[Qv]);exact⟨k,i,m.sign.1.mpr (by show (0:Rat)<1;decide)⟩
  .obtain ⟨k,i,m⟩:=y (p.2.1, -1,1) (by simp[Qv]);exact⟨k,i,m.sign.2.mpr (by show (-1:Rat)<0;decide)⟩
  .intro x hx i;obtain⟨f,n,r⟩:=w x hx;have:=r.sign.2.mp i;rw[r.s];unfold Qv at n;simp only[AAF,AAg,AAe] at n;rcases n with rfl|rfl|rfl|rfl|rfl|rfl|rfl|rfl
   .exact absurd this (by show ¬(1:Rat)<0;decide)
   all_goals rfl
  .have st:=Uf hp C D I J K;ac_rfl;refine cN rfl z (by omega) A C D ?_;have g:∀a d,R [some (.val v),some (.val (JR lo hi)),some (.own ((ss ++ [(Dr l,1-l.s,some (Dr h'))]).map Aq)),a,d] :=λa d=>j _ ⟨_,a,d,h.more st,rfl⟩;clear j;rw[AAO] at g;ac_rfl;exact g _ _
  .have g:∀a d,R [some (.val v),some (.val (JR lo hi)),some (.own (ss.map Aq)),a,d] :=λa d=>j _ ⟨_,a,d,h.less λt M=>L t ((Rg hp t).mpr M),rfl⟩;clear j;ac_rfl;exact g _ _
def CY.st {N:Nat}{lo hi:T3}{us:zy (C4×C4)}{ss:zy Au}(h:CY N lo hi us ss):∀s∈ss,BD N s:=λs hs=>let ⟨_,_,k⟩:=h.ok s hs;k.ok
def dC {cs:zy C4}{lo hi b:T3}{v w:PV}{B:Nat}(hv:dz cs b v)(hw:Wy lo hi w)(hc:∀c∈cs,FX B c)(o:Lj cs)(h2:2<=cs.length)(hl:cs.length<=400)(e:Cn 100 lo)(f:Cn 100 hi)(g:Cn 100 b)(r:0<=b.2.2)(t:6*B+205<=1266){Q:PV->Prop}(q:∀ss,CY (3*(6*B+205)+1) (lo.1-b.1,lo.2.1-b.1,lo.2.2-b.2.1) (hi.1+b.1,hi.2.1+b.1,hi.2.2+b.2.1) (Fq cs) ss->Q (.tup ((canon 1 (ss.map (Gc b.2.2))).map Aq))):HY [v,w] Q:=by
 obtain⟨p,u,hp,hu,hv⟩:=hv;have A:(Fq cs).length=cs.length-1:=by unfold Fq;simp
 have h:=e.x;have i:=e.y;have j:=e.z;have k:=f.x;have l:=f.y;have m:=f.z;have a:=g.x;have d:=g.y;have n:=g.z;apply ZN;rcases hv with rfl|rfl
 .ac_rfl;refine Uj hw hu e f g ?_;ac_rfl;refine bX hp hc o h2 (by omega) ⟨(h.sub a).mono (by decide),(i.sub a).mono (by decide),(j.sub d).mono (by decide)⟩ ⟨(k.add a).mono (by decide),(l.add a).mono (by decide),(m.add d).mono (by decide)⟩ (by omega) λss hs=> ?_;have s:=hs.len;ac_rfl;refine(Dk hu).2.2 ?_;ac_rfl;exact Tn (.inr rfl) (Ft ss) hs.st (by omega) r n (by omega) (q ss hs)
 .ac_rfl;refine Uj hw hu e f g ?_;ac_rfl;refine bX hp hc o h2 (by omega) ⟨(h.sub a).mono (by decide),(i.sub a).mono (by decide),(j.sub d).mono (by decide)⟩ ⟨(k.add a).mono (by decide),(l.add a).mono (by decide),(m.add d).mono (by decide)⟩ (by omega) λss hs=> ?_;have s:=hs.len;ac_rfl;refine(Dk hu).2.2 ?_;ac_rfl;exact Tn (.inr rfl) (Ft ss) hs.st (by omega) r n (by omega) (q ss hs)
instance{r:AA}{τ:A6}{a:zy PV->Prop}:Wp (qO r τ a) (r τ λb=>match b with | [.lst xs] =>a (Dt 0 xs)|_=>False):=⟨id⟩
abbrev Fd:AS:=
 (AY (Ic (Fi (A1 (AW aR (aV 3) (aC (.int 0)))) (A1 (AN 2 A0 (AB (aV 2) (AB (AW Am (aV 1) (AW IC (aV 3) (aC (.int 1)))) AL))))) (Aj (AW IC (aV 3) (aC (.int 1))) (An 3)))
   (CZ (S6 (S7 (A1 (AW MZ (aV 3) (aC (.int 0)))) (A1 (AW Ym (AW Am (aV 1) (AW IC (aV 3) (aC (.int 1)))) (aV 2))))) (DX 1 bL (AB (aV 3) (AB (aV 2) AL))) BZ))
abbrev Gm:AS:=
 (AY (Aj (S5 (FI ID (AB (aV 1) AL))) (An 3))
   Fd)
abbrev Go:AS:=
 (AY (EF (Ha (aV 0)) (An 2) Gm)
   (Ar (aV 1)))
abbrev Ez:AS:=
 (AY (GY (DI AL) 1)
   Go)
def BN:AF:=Ak 4 Ez
def IG {a:PV}{Q:PV->Prop}(h:Ez ⟨λ_=>Q .non,Q,λ_=>False,λ_=>False⟩ [some (.val a),none,none,none]):BN [a] Q:=h
abbrev Gj:AS:=
 (Ar (Ex (B7 (hJ (AB (aV 0) (AB (Z6 (aV 0) (Z8 (aC (.int 1))) Z7) AL))) 2 [] (JU 2 (Ab (An 0) (Ab (An 1) Bz))) Dg (AN 2 Bt (AB (AN 2 BP (AB (aV 0) (AB (aV 1) AL))) (AB (BL (AB (aC (.int 1)) (AB (aC (.int 2)) AL))) AL))))))
def Bs:AF:=Ak 1 Gj
def LL {a:PV}{Q:PV->Prop}(h:Gj ⟨λ_=>Q .non,Q,λ_=>False,λ_=>False⟩ [some (.val a)]):Bs [a] Q:=h
abbrev Jc:AS:=
 (AY (DX 3 Ga (AB (AW BX (aV 4) (BL (AB (aV 6) AL))) AL))
   (Aj (aC .non) (An 4)))
abbrev Gr:AS:=
 (AY (CZ (Fi (A1 (AW IB (aV 4) (aC .non))) (A1 (AW Am (aV 1) (aV 5)))) (Aj (BL (AB (aV 6) (AB (aC (.int 1)) AL))) (An 4)) BZ)
   (CZ (Fi (A1 (AW IB (aV 4) (aC .non))) (A1 (AW Am (AW BX (aV 2) (Ex (DI (AB (aC (.bl false)) AL)))) (aV 5)))) (Aj (BL (AB (aV 6) (AB (aC (.int 0)) AL))) (An 4)) BZ))
abbrev Jd:AS:=
 (AY (CZ (Fi (A1 (AW P9 (aV 4) (aC .non))) (Pu (A1 (AW Am (aV 1) (aV 5))))) Jc BZ)
   Gr)
abbrev Jf:AS:=
 (AY (EF (qO (AB (aV 0) AL)) (JU 2 (Ab (An 5) (Ab (An 6) Bz))) Jd)
   (Ar (FI DS (AB (aV 3) AL))))
abbrev Je:AS:=
 (AY (Aj (aC .non) (An 4))
   Jf)
abbrev Gq:AS:=
 (AY (GY (DI AL) 3)
   Je)
def BO:AF:=Ak 7 Gq
def LM {a b c:PV}{Q:PV->Prop}(h:Gq ⟨λ_=>Q .non,Q,λ_=>False,λ_=>False⟩ [some (.val a),some (.val b),some (.val c),none,none,none,none]):BO [a,b,c] Q:=h
def fG {qs:zy Rat}{x:Rat}{k:Nat}(hs:Uo qs)(hk:k<=qs.length)(hi:∀q∈qs.drop k,x<q)(lo:∀c,qs[k-1]? =some c->0<k->c<x):ins qs x=qs.take k++x::qs.drop k:=by
 have a:At qs x k:=by
  refine⟨hk,λq hq=> ?_,λq hq=>by have:=hi q hq;grind⟩;by_cases b:k=0
  .subst b;simp at hq
  .have e:qs[k-1]? =some qs[k-1] :=AAT (by omega);have:=SY hs e (lo _ e (by omega));rw[show k-1+1=k by omega] at this;exact this q hq
 rw[VF hs a,AAD];intro e;have:x∈qs.drop k:=by have:=ACR (xs:=qs) (i:=k) (j:=0);rw[Nat.add_zero,e] at this;exact ABg this
 have:=hi x this;grind
def LI {xs:zy Rat}{B:Nat}(hl:xs.length<=1000)(hx:∀x∈xs,Bd B x)(E:B<=4000){Q:PV->Prop}(q:Q (.lst ((A9 xs).map fr))):BN [.lst (xs.map fr)] Q:=by
 apply IG;ac_rfl;refine CO fr (λus vs τ=>∃b f,τ= [some (.val (.lst (xs.map fr))),some (.own ((A9 us).map fr)),b,f]) ?_ ?_ ⟨_,_,rfl⟩
 .rintro τ ⟨b,f,rfl⟩;repeat' array_get_dec
  exact q
 .rintro us x vs e τ R o ⟨b,f,rfl⟩;have F:=hx x (by rw[<-e];simp);have l:∀b f,R [some (.val (.lst (xs.map fr))),some (.own ((ins (A9 us) x).map fr)),b,f] :=λb f=>o _ ⟨b,f,by rw[cU];rfl⟩;clear o q;have u:∀c∈A9 us,Bd B c:=λc hc=>hx c (by rw[<-e];exact ABr _ (Ax.mp hc));have G:(A9 us).length<=1000:=by have:=DL (xs:=us);have:=congrArg List.length e;simp only[AAf,AAb] at this;omega
  have qs:=Bj (xs:=us);generalize A9 us=ks at *;ac_rfl;refine ig (λn τ=>∃k:Nat,n=k+1/\k<=ks.length/\(∀q∈ks.drop k,x<q)/\τ= [some (.val (.lst (xs.map fr))),some (.own (ks.map fr)),some (.val (fr x)),some (.val (.int k))]) ?_ ?_ (n:=ks.length+1) ⟨ks.length,rfl,AAJ _,by simp,by simp⟩
  .rintro n τ R2 v ⟨k,w,hk,hi,rfl⟩;rw[show frz [some (AV.val (PV.lst (xs.map fr))),some (AV.own (ks.map fr)),some (AV.val (fr x)),some (AV.val (PV.int k))] = [some (AV.val (PV.lst (xs.map fr))),some (AV.val (.lst (ks.map fr))),some (AV.val (fr x)),some (AV.val (PV.int k))] from rfl];have a:(∀c,ks[k-1]? =some c->0<k->c<x)->R [some (.val (.lst (xs.map fr))),some (.own (List.take (k:Int).toNat (ks.map fr)++fr x::List.drop (k:Int).toNat (ks.map fr))),some (.val (fr x)),some (.val (.int k))] :=λlo=>by have:=l (some (.val (fr x))) (some (.val (.int k)));rw[fG qs hk hi lo,AAO,AAK,ACy,ACJ] at this;exact this
   have keep:x∈ks->R [some (.val (.lst (xs.map fr))),some (.own (ks.map fr)),some (.val (fr x)),some (.val (.int k))] :=λh=>by have:=l (some (.val (fr x))) (some (.val (.int k)));rw[ay qs h] at this;exact this
   ac_rfl
   .rename_i y c p hc;have H:=u c hc;have y:0<k:=by omega
    have g:ks[k-1]? =some c:=by rw[show ((k:Int)-1).toNat=k-1 by omega] at p;exact p
    have z:ks.drop (k-1)=c::ks.drop k:=by obtain⟨h1,h2⟩:=AAx.mp g;rw[ABh h1,h2,show k-1+1=k by omega]
    have A:x<c->R2 [some (.val (.lst (xs.map fr))),some (.own (ks.map fr)),some (.val (fr x)),some (.val (.int (k-1)))] :=λC=>v _ ⟨k-1,by omega,by omega,by
     intro q hq;rw[z] at hq;rcases AAF.mp hq with h|h
     .rw [h];exact C
     .exact hi q h,by rw[show ((k-1:Nat):Int)=(k:Int)-1 by omega]⟩
    ac_rfl
    .exact A (by assumption)
    .exact a λ_ _ _=>by exfalso;omega
    .rename_i m _ j i r s;have D:j=c:=by rw[show ((k:Int)-1).toNat=k-1 by omega,g] at i;exact(AAY i).symm
     subst D;exact a λd hd _=>by rw[g] at hd;cases hd;have s:¬j=x:=s;have m:¬x<j:=m;grind
    .rename_i m _ j i r t;have t:j=x:=by by_cases h:j=x <;> simp_all
     exact keep (t ▸ r)
   .exact a λ_ _ _=>by exfalso;omega
   .exact a λ_ _ _=>by exfalso;omega
   .exfalso;omega
  .rintro τ ⟨k,w,_⟩;omega
abbrev Tr:=Rat×zq×zq
def ic (t:Tr):zy (Pl×zq):= [((t.1,0),t.2.1),((t.1,1),t.2.2)]
def Bw (T:zy Tr):zy Au×zt Pl:=(T.flatMap ic).foldl stepI ([],none)
def Em (T:zy Tr)(t:Tr):Bw (T ++ [t])=stepI (stepI (Bw T) ((t.1,0),t.2.1)) ((t.1,1),t.2.2):=by unfold Bw;rw[List.flatMap_append,ABa];rfl
theorem QC:∀(T:zy Tr),(T.flatMap ic).length=2*T.length
 | [] =>rfl
 | t::T=>by rw[AB2,AAf,QC T,AAb];simp[ic];omega
def bH {us vs:zy PV}{x:PV}{R:PV->Prop}(h:R x):Am (.lst (us++x::vs)) (.int us.length) R:=by show di (JV (us++x::vs) (us.length:Nat)) R;rw[show JV (us++x::vs) ((us.length:Nat):Int)=some x from Cj (j:=us.length) (by simp)];exact h
def ci {T:zy Tr}{gs:zy zq}(s:T= [] \/gs ++ [false] =T.map (·.2.2))(mono:∀t∈T,t.2.1=true->t.2.2=true)(hl:T.length<=1000)(l:(Bw T).2=none){Q:PV->Prop}(q:Q (.tup ((Dd (T.flatMap ic)).map Aq))):BO [.lst (T.map λt=>fr t.1), .lst (T.map λt=> .bl t.2.1), .lst (gs.map .bl)] Q:=by
 apply LM;ac_rfl;show DK _ _ _ (Dt 0 (T.map λt=>fr t.1)) _;refine Hg (λr τ=>∃us vs f i,us++vs=T/\r=Dt us.length (vs.map λt:Tr=>fr t.1)/\τ= [some (.val (.lst (T.map λt=>fr t.1))),some (.val (.lst (T.map λt=> .bl t.2.1))),some (.val (.lst (gs.map .bl))),some (.own ((Bw us).1.map Aq)),some (.val (YZ (Bw us).2)),f,i]) ?_ ?_ _ _ ⟨[],T,_,_,rfl,rfl,rfl⟩
 .rintro τ ⟨us,vs,f,i,e,n,rfl⟩;cases vs with
  | cons a b=>simp[Dt] at n
  | nil=>
    rw[ABP] at e;subst e;repeat' array_get_dec
    have w:Dd (us.flatMap ic)=(Bw us).1:=by unfold Dd PF;show (match (Bw us).2 with | none=>(Bw us).1|some b=>(Bw us).1 ++ [(b.1,1-b.2,none)])=_;rw[l]
    rw[w] at q;exact q
 .rintro y r τ R u ⟨us,vs,f,i,e,n,rfl⟩;cases vs with
  | nil=>simp[Dt] at n
  | cons t vs=>
    rw[AAK,Dt] at n;obtain⟨rfl,rfl⟩:=List.cons.inj n;have mt:=mono t (by rw[<-e];simp);have es:=Em us t;have v:(Bw us).1.length<=2000:=by have h:=Hf (us.flatMap ic) ([],none);rw[QC] at h;have:=congrArg List.length e;simp only[AAf,AAb] at this;have h:(Bw us).1.length<=0+_:=h;omega
    have c:∀{j:PV->Prop},j (.bl t.2.1)->Am (.lst (T.map λt=> .bl t.2.1)) (.int us.length) j:=λ{j} h=>by rw[<-e,AAO,AAK];have:=bH (us:=us.map λt=>PV.bl t.2.1) (vs:=vs.map λt=>PV.bl t.2.1) h;rw[AAI] at this;exact this
    have o:∀{j:PV->Prop},j (.bl t.2.2)->Am (.lst (gs.map PV.bl ++ [.bl false])) (.int us.length) j:=λ{j} h=>by
     have p:gs.map PV.bl ++ [.bl false] =T.map λt=>PV.bl t.2.2:=by
      rcases s with k|k
      .rw [k] at e;simp at e
      .have:=congrArg (List.map PV.bl) k;rw[AAO,AAd] at this;exact this
     rw[p,<-e,AAO,AAK];have:=bH (us:=us.map λt=>PV.bl t.2.2) (vs:=vs.map λt=>PV.bl t.2.2) h;rw[AAI] at this;exact this
    have gl:gs.length<=1000:=by
     rcases s with k|k
     .rw [k] at e;simp at e
     .have:=congrArg List.length k;simp only[AAf,AAI,AAb,AC0] at this;omega
    have d:∀L2 b2 f i,(L2,b2)=stepI (stepI (Bw us) ((t.1,0),t.2.1)) ((t.1,1),t.2.2)->R [some (.val (.lst (T.map λt=>fr t.1))),some (.val (.lst (T.map λt=> .bl t.2.1))),some (.val (.lst (gs.map .bl))),some (.own (L2.map Aq)),some (.val (YZ b2)),f,i] :=λL2 b2 f i h=>u _ ⟨us ++ [t],vs,f,i,by simpa using e,by simp,by rw[es,<-h]⟩;clear u;generalize Bw us=st at *;obtain⟨A,b⟩:=st;obtain⟨m,h,g⟩:=t;have v:A.length<=2000:=v;cases b with
    | none=>
      rw[show YZ (A,(none:zt Pl)).2= .non from rfl];cases h with
      | true=> have p:g=true:=mt rfl;subst p;ac_rfl;refine c ?_;ac_rfl;exact d A (some (m,0)) _ _ rfl
      | false=>
        ac_rfl;refine c ?_;ac_rfl;refine o ?_;cases g with
        | true=> ac_rfl;exact d A (some (m,1)) _ _ rfl
        | false=> ac_rfl;exact d A none _ _ rfl
    | some b=>
      rw[show YZ (A,some b).2= .tup [fr b.1, .int (1-b.2)] from rfl];cases h with
      | true=> have p:g=true:=mt rfl;subst p;ac_rfl;refine c ?_;ac_rfl;exact d A (some b) _ _ rfl
      | false=>
        have f1:=λb2 f i=>d (A ++ [(b.1,1-b.2,some m)]) b2 f i;rw[AAO] at f1;ac_rfl;refine c ?_;ac_rfl;refine c ?_;ac_rfl;refine o ?_;cases g with
        | true=> ac_rfl;exact f1 (some (m,1)) _ _ rfl
        | false=> ac_rfl;exact f1 none _ _ rfl
def J6 (qs:zy Rat):zy Rat:=(qs.zip (qs.drop 1)).map λp=>(p.1+p.2)*(1/2:Rat)
def K9 {qs:zy Rat}(hl:qs.length<=1000)(hb:∀x∈qs,Bd 1000 x){Q:PV->Prop}(q:Q (.lst ((J6 qs).map fr))):Bs [.lst (qs.map fr)] Q:=by
 apply LL;ac_rfl;rw[qP,<-ACJ,lY];have a:∀p∈qs.zip (qs.drop 1),Bd 1000 p.1/\Bd 1000 p.2:=λp hp=>⟨hb _ (ABf hp).1,hb _ (List.mem_of_mem_drop (ABf hp).2)⟩;refine⟨lt_size (n:=1000) (by simp;omega) (by decide), ?_⟩;refine CN (λp:Rat×Rat=> .tup [fr p.1,fr p.2]) fr (λp=>(p.1+p.2)*(1/2:Rat)) (λp=>Bd 1000 p.1/\Bd 1000 p.2) (λp hp R h=> ?_) _ [] a ?_
 .obtain ⟨b,b2⟩:=hp;have bs:=b.add b2;have c:Bd 3 ((1/2:Rat)):=⟨by decide +kernel,by decide +kernel⟩;ac_rfl;exact h
 .rw [AAp];exact q
theorem Tq {f g:Rat->zq}:∀(qs:zy Rat),qs≠ [] ->(∀us q c vs,us++q::c::vs=qs->f ((q+c)*(1/2:Rat))=g q)->(∀us q,us ++ [q] =qs->g q=false)->(J6 qs).map f ++ [false] =qs.map g
 | [],h,_,_=>absurd rfl h
 | [q],_,_,h=>by have:=h [] q rfl;simp[J6,this]
 | q::c::r,_,h1,h2=>by have ih:=Tq (f:=f) (g:=g) (c::r) (by simp) (λus a b vs e=>h1 (q::us) a b vs (by rw[<-e];rfl)) (λus a e=>h2 (q::us) a (by rw[<-e];rfl));have d:=h1 [] q c r rfl;have i:J6 (q::c::r)=(q+c)*(1/2:Rat)::J6 (c::r):=rfl;rw[i,AAK,ADW,ih,d];rfl
def YA {us vs:zy Rat}{q a:Rat}(hs:Uo (us++q::a::vs)):q<a/\∀x∈us++q::a::vs,¬q<x\/¬x<a:=by
 obtain⟨h1,h2,b⟩:=AB1.mp hs;obtain⟨c,d⟩:=AAM.mp h2;obtain⟨e,f⟩:=AAM.mp d;refine⟨c a (by simp),λx hx=> ?_⟩;rcases AAN.mp hx with h|h
 .have:=b x h q (by simp);exact .inl (by grind)
 .rcases AAF.mp h with rfl|h
  .exact .inl (by grind)
  .rcases AAF.mp h with rfl|h
   .exact .inr (by grind)
   .have:=e x h;exact .inr (by grind)
def Oe {us:zy Rat}{q:Rat}(hs:Uo (us ++ [q])):∀x∈us ++ [q],¬q<x:=λx hx=>by
 obtain⟨h1,h2,a⟩:=AB1.mp hs;rcases AAN.mp hx with h|h
 .have:=a x h q (by simp);grind
 .rw [AAV.mp h];grind
abbrev My:AS:=
 (Ar (VB (AW MZ (aV 0) (aV 1)) (AW MZ (FI Np (AB (aV 0) AL)) (FI Np (AB (aV 1) AL)))))
def Di:AF:=Ak 2 My
theorem Nm:∀(n:Nat) (T:zy Tr),T.length=n->(T.map (·.1)).Pairwise (· < ·)->(∀t∈T,t.2.1=true->t.2.2=true)->(∀r∈(Bw T).1,r.1∈T.map (·.1)/\∃e,r.2.2=some e/\e∈T.map (·.1))/\(∀b,(Bw T).2=some b->b.1∈T.map (·.1))/\(Bw T).1.Pairwise λr j=>∀e c,r.2.2=some e->j.2.2=some c->¬c<e
 | 0,T,h,_,_=>by have:T= [] :=ABm.mp h;subst this;exact⟨by simp[Bw],by simp[Bw],by simp[Bw]⟩
 | n+1,T,h,hs,mo=>by
   obtain⟨us,t,rfl⟩:∃us t,T=us ++ [t] :=by
    have s:T≠ [] :=λz=>by rw[z] at h;simp at h
    exact⟨T.dropLast,T.getLast s,(ABn s).symm⟩
   rw[AAO] at hs;obtain⟨h1,h2,B⟩:=AB1.mp hs;obtain⟨k,C,d⟩:=Nm n us (by simpa using h) h1 (λt D=>mo t (by simp[D]));have E:∀x∈us.map (·.1),x<t.1:=λx hx=>B x hx t.1 (by simp);rw[Em];generalize Bw us=st at *;obtain⟨A,b⟩:=st;obtain⟨m,a,g⟩:=t;have mt:a=true->g=true:=mo (m,a,g) (by simp);have k:∀r∈A,r.1∈us.map (·.1)/\∃e,r.2.2=some e/\e∈us.map (·.1):=k;have f:∀r∈A,r.1∈(us ++ [(m,a,g)]).map (·.1)/\∃e,r.2.2=some e/\e∈(us ++ [(m,a,g)]).map (·.1):=λr i=>by obtain⟨F,e,l,p⟩:=k r i;rw[AAO];exact⟨ABr _ F,e,l,ABr _ p⟩
   have o:m∈(us ++ [(m,a,g)]).map (·.1):=by simp
   cases b with
   | none=>
     cases a with
     | true=> have:g=true:=mt rfl;subst this;exact⟨f,λb hb=>by simp[stepI] at hb;rw[<-hb];exact o,d⟩
     | false=>
       cases g with
       | true=>exact⟨f,λb hb=>by simp[stepI] at hb;rw[<-hb];exact o,d⟩
       | false=>exact⟨f,λb hb=>by simp[stepI] at hb,d⟩
   | some b=>
     have G:b.1∈us.map (·.1):=C b rfl;have u:b.1∈(us ++ [(m,a,g)]).map (·.1):=by rw[AAO];exact ABr _ G
     have v:∀r∈A ++ [(b.1,1-b.2,some m)],r.1∈(us ++ [(m,a,g)]).map (·.1)/\∃e,r.2.2=some e/\e∈(us ++ [(m,a,g)]).map (·.1):=λr i=>by
      rcases AAN.mp i with h|h
      .exact f r h
      .rw [AAV.mp h];exact⟨u,m,rfl,o⟩
     have w:(A ++ [((b.1,1-b.2,some m):Au)]).Pairwise λr j=>∀e c,r.2.2=some e->j.2.2=some c->¬c<e:=by refine AB1.mpr ⟨d,by simp,λr i j H e c he y=> ?_⟩;rw[AAV.mp H] at y;cases y;obtain⟨_,I,l,p⟩:=k r i;rw[he] at l;cases l;have:=E e p;grind
     cases a with
     | true=> have:g=true:=mt rfl;subst this;exact⟨f,λb hb=>by simp[stepI] at hb;rw[<-hb];exact u,d⟩
     | false=>
       cases g with
       | true=>exact⟨v,λb hb=>by simp[stepI] at hb;rw[<-hb];exact o,w⟩
       | false=>exact⟨v,λb hb=>by simp[stepI] at hb,w⟩
def U7 (st:zy Au×zt Pl):Prop:=(∀r∈st.1,r.2.1=0\/r.2.1=1)/\∀b,st.2=some b->b.2=0\/b.2=1
def QH {st:zy Au×zt Pl}{x:Pl×zq}(h:U7 st)(hx:x.1.2=0\/x.1.2=1):U7 (stepI st x):=by
 obtain⟨A,b⟩:=st;obtain⟨p,c⟩:=x;obtain⟨h1,h2⟩:=h;cases b with
 | none=>
   cases c with
   | true=>exact⟨h1,λb hb=>by simp[stepI] at hb;rw[<-hb];exact hx⟩
   | false=>exact⟨h1,h2⟩
 | some b=>
   have hb:=h2 b rfl;cases c with
   | true=>exact⟨h1,h2⟩
   | false=>
     refine⟨λr a=> ?_,λb hb=>by simp[stepI] at hb⟩;have a:r∈A ++ [(b.1,1-b.2,some p.1)] :=a;rcases AAN.mp a with h|h
     .exact h1 r h
     .rw [AAV.mp h];show 1-b.2=0\/1-b.2=1;omega
theorem Nn:∀(n:Nat) (T:zy Tr),T.length=n->U7 (Bw T)
 | 0,T,h=>by have:T= [] :=ABm.mp h;subst this;exact⟨by simp[Bw],by simp[Bw]⟩
 | n+1,T,h=>by
   obtain⟨us,t,rfl⟩:∃us t,T=us ++ [t] :=by
    have a:T≠ [] :=λz=>by rw[z] at h;simp at h
    exact⟨T.dropLast,T.getLast a,(ABn a).symm⟩
   rw[Em];exact QH (QH (Nn n us (by simpa using h)) (.inl rfl)) (.inr rfl)
def lA {s:Au}(b:Bd 740 s.1)(k:s.2.1=0\/s.2.1=1)(e:∃e,s.2.2=some e/\Bd 740 e):Sh 2 13000 (Aq s)/\Sh 2 13000 (cV s):=by obtain⟨ev,he,c⟩:=e;obtain⟨a,i,o⟩:=s;have he:o=some ev:=he;subst he;have k:i=0\/i=1:=k;have hi:Sh 1 4000 (.int i):=(Sh.int (by rcases k with rfl|rfl <;> decide)).mono (by decide) (by decide);exact⟨(Sh.tup (Y6 (Sh.fr (b.mono (by decide))) hi (Sh.fr (c.mono (by decide))))).mono (by decide) lz,(Sh.lst (Y6 (Sh.fr (b.mono (by decide))) hi (Sh.fr (c.mono (by decide))))).mono (by decide) lz⟩
def cY {x:PV}{Q:PV->Prop}(a:O6 x)(hq:J3 x=true)(q:Q (.bl true)):Di [x,x] Q:=by
 have e:=aQ a.ok;have b:∀c,c=true->Q (.bl c):=λc e=>by rw[e];exact q
 have go:dh (.bl (jT x x)) λc=>if c=true then AW MZ (FI Np (AB (aV 0) AL)) (FI Np (AB (aV 1) AL)) [some (.val x),some (.val x)] Q else Q (.bl false):=by rw[e];exact Wb a hq (Wb a hq (b _ (AAk rfl)))
 cases x with
 | tup xs=>exact⟨⟨a.ok,a.ok⟩,go⟩
 | lst xs=>exact⟨⟨a.ok,a.ok⟩,go⟩
 | _=>simp[J3] at hq
abbrev Mn:AS:=
 (Ar (FI DS (AB (Ex (B7 (Ha (aV 0)) 1 [] (An 0) Dg (AW BX (BL (AB (AN 2 BP (AB (AW Am (aV 0) (aC (.int 0))) (AB (BL (AB (AW md (aC (.int 10)) (aC (.int 18))) (AB (aC (.int 1)) AL))) AL))) AL)) (Z6 (aV 0) (Z8 (aC (.int 1))) Z7)))) AL)))
def Ed:AF:=Ak 1 Mn
def Rk {a:PV}{Q:PV->Prop}(h:Mn ⟨λ_=>Q .non,Q,λ_=>False,λ_=>False⟩ [some (.val a)]):Ed [a] Q:=h
abbrev IQ:AS:=
 (AY (Aj (AN 2 BP (AB (AN 1 Cu (AB (aV 0) AL)) (AB (AW Am (Ex (DI (AB (BL (AB (aC (.int 0)) (AB (aC (.int 1)) AL))) (AB (BL (AB (aC (.int 4)) (AB (aC (.int 1)) AL))) (AB (BL (AB (aC (.int 12)) (AB (aC (.int 1)) AL))) AL))))) (AN 2 A4 (AB (aV 0) (AB (aC (.int 3)) AL)))) AL))) (An 4))
   (DX 2 Ga (AB (AN 2 BP (AB (aV 3) (AB (aV 4) AL))) AL)))
abbrev IS:AS:=
 (AY (EF (Ha (aV 1)) (An 3) IQ)
   (Ar (BL (AB (AW Am (Ex (DI (AB (aC (.str "a")) (AB (aC (.str "room")) (AB (aC (.str "abcdefgh")) AL))))) (AN 2 A4 (AB (aV 0) (AB (aC (.int 3)) AL)))) (AB (FI DS (AB (aV 1) AL)) (AB (FI DS (AB (aV 2) AL)) (AB (AW BX (aC (.int 1)) (AN 2 A4 (AB (aV 0) (AB (aC (.int 4)) AL)))) AL)))))))
abbrev IR:AS:=
 (AY (GY (DI AL) 2)
   IS)
abbrev GO:AS:=
 (AY (Aj (Ex (B7 (NY (AB (aC (.int 3)) AL)) 1 [0] (An 0) Dg (AN 2 BW (AB (AN 1 BC (AB (aV 1) AL)) (AB (AW Am (Ex (DI (AB (BL (AB (aC (.int 0)) (AB (aC (.int 1)) AL))) (AB (BL (AB (aC (.int 3)) (AB (aC (.int 1)) AL))) (AB (BL (AB (aC (.int 9)) (AB (aC (.int 1)) AL))) AL))))) (AN 2 A4 (AB (aV 1) (AB (aC (.int 3)) AL)))) AL))))) (An 1))
   IR)
def CT:AF:=Ak 5 GO
def KL {a:PV}{Q:PV->Prop}(h:GO ⟨λ_=>Q .non,Q,λ_=>False,λ_=>False⟩ [some (.val a),none,none,none,none]):CT [a] Q:=h
abbrev Hq:AS:=
 (AY (Aj (AN 2 C5 (AB (AN 2 BW (AB (aV 8) (AB (AW Am (aV 4) (AW BX (AW TL (aV 7) (aC (.int 3))) (aC (.int 1)))) AL))) (AB (aV 9) AL))) (An 10))
   (CZ (Fi (A1 (AN 2 A0 (AB (BL (AB (aC (.int 0)) (AB (aC (.int 1)) AL))) (AB (aV 10) AL)))) (A1 (AN 2 A0 (AB (aV 10) (AB (BL (AB (aC (.int 1)) (AB (aC (.int 1)) AL))) AL))))) (DX 3 Ga (AB (AN 2 BP (AB (AW Am (aV 4) (aC (.int 0))) (AB (AN 2 Bt (AB (aV 10) (AB (aV 6) AL))) AL))) AL)) BZ))
abbrev Hr:AS:=
 (AY (Aj (AN 2 BW (AB (AW Am (aV 5) (AW BX (AW TL (aV 7) (aC (.int 3))) (aC (.int 1)))) (AB (AW Am (aV 4) (AW BX (AW TL (aV 7) (aC (.int 3))) (aC (.int 1)))) AL))) (An 9))
   (CZ (A1 (AW Ym (AW Am (aV 9) (aC (.int 0))) (aC (.int 0)))) Hq BZ))
abbrev Hs:AS:=
 (AY (Aj (AN 2 BW (AB (AW Am (aV 5) (aC (.int 0))) (AB (AW Am (aV 4) (aC (.int 0))) AL))) (An 6))
   (EF (jH (AB (AW BX (aV 1) (aV 2)) AL)) (JU 2 (Ab (An 7) (Ab (An 8) Bz))) Hr))
abbrev Ht:AS:=
 (AY (EF (hJ (AB (aV 0) (AB (Z6 (aV 0) (Z8 (aC (.int 1))) Z7) AL))) (JU 2 (Ab (An 4) (Ab (An 5) Bz))) Hs)
   (Ar (AN 1 BN (AB (aV 3) AL))))
abbrev Fc:AS:=
 (AY (GY (B7 (Ha (aV 0)) 1 [] (An 0) Dg (AW Am (aV 0) (aC (.int 0)))) 3)
   Ht)
def CH:AF:=Ak 11 Fc
def Iw {a b c:PV}{Q:PV->Prop}(h:Fc ⟨λ_=>Q .non,Q,λ_=>False,λ_=>False⟩ [some (.val a),some (.val b),some (.val c),none,none,none,none,none,none,none,none]):CH [a,b,c] Q:=h
abbrev Ho:AS:=
 (AY (CZ (A1 (AW IB (aV 4) (aC .non))) (Ar (aC (.bl false))) BZ)
   (Ar (FI (VU λbs=>bs.all id) (AB (Ex (B7 (NY (AB (aC (.int 3)) AL)) 1 [1,4,2] (An 0) Dg (VB (AN 2 A0 (AB (AW Am (aV 1) (aV 0)) (AB (AW Am (aV 2) (aV 0)) AL))) (AN 2 A0 (AB (AW Am (aV 2) (aV 0)) (AB (AW Am (aV 3) (aV 0)) AL)))))) AL))))
abbrev Hm:AS:=
 (AY (Aj (AN 2 E2 (AB (aV 0) (AB (aV 3) AL))) (An 4))
   Ho)
abbrev Fb:AS:=
 (AY (CZ (Pu (A1 (AN 2 A0 (AB (aV 3) (AB (AW Am (AW Am (aV 0) (YY Nj (aC (.int 1)))) (aC (.int 0))) AL))))) (Ar (aC (.bl false))) BZ)
   Hm)
def BV:AF:=Ak 5 Fb
def Iv {a b c d:PV}{Q:PV->Prop}(h:Fb ⟨λ_=>Q .non,Q,λ_=>False,λ_=>False⟩ [some (.val a),some (.val b),some (.val c),some (.val d),none]):BV [a,b,c,d] Q:=h
abbrev Oo:AS:=
 (AY (Aj (Ex (B7 (Ha (aV 3)) 1 [0,1,2] (An 0) Dg (AN 4 BV (AB (aV 1) (AB (aV 2) (AB (aV 3) (AB (aV 0) AL))))))) (An 4))
   (Ar (AN 3 BO (AB (aV 3) (AB (aV 4) (AB (Ex (B7 (Ha (AN 1 Bs (AB (aV 3) AL))) 1 [0,1,2] (An 0) Dg (AN 4 BV (AB (aV 1) (AB (aV 2) (AB (aV 3) (AB (aV 0) AL))))))) AL))))))
abbrev Mo:AS:=
 (AY (Aj (AN 3 CH (AB (aV 0) (AB (aV 1) (AB (aV 2) AL)))) (An 3))
   Oo)
def Ee:AF:=Ak 5 Mo
def Rl {a b c:PV}{Q:PV->Prop}(h:Mo ⟨λ_=>Q .non,Q,λ_=>False,λ_=>False⟩ [some (.val a),some (.val b),some (.val c),none,none]):Ee [a,b,c] Q:=h
def aT {cs:zy C4}{B:Nat}(hl:cs.length<=1000)(hc:∀c∈cs,FX B c)(d:B<=3000){Q:PV->Prop}(q:Q (Ba (laterC (10^18) cs))):Ed [Ba cs] Q:=by
 have bk:Bd 60 ((10:Rat)^18):=⟨by decide +kernel,by decide +kernel⟩;apply Rk;ac_rfl;refine CN cor cor (λc=>(c.1+10^18,c.2)) (FX B) (λc a R b=> ?_) cs [] hc ?_
 .have bm:=a.m;ac_rfl;rw[show (((10:Int)^Int.toNat 18:Int):Rat)=10^18 by decide +kernel];exact b
 .rw [AAp];ac_rfl;exact q
def gK {Q:PV->Prop}(q:∀(s:Str) (lo hi:T3) (d:Int),(s="a" \/s="room" \/s="abcdefgh")->Cn 40 lo->Cn 40 hi->1<=d->d<=4->Q (.tup [.str s,DC lo,DC hi, .int d])):CT [.tape] Q:=by
 have v:∀{k:Int} {R:PV->Prop},0<=k->k<3->(∀x,Bd 8 x->R (fr x))->Am (.lst [fr 0,fr ((3:Int):Rat),fr ((9:Int):Rat)]) (.int k) R:=λj h1 h=>Nz (xs:= [0,((3:Int):Rat),((9:Int):Rat)]) j h1 λx hx=>h x (by
  simp only[AAF,AAg,AAe] at hx;rcases hx with rfl|rfl|rfl <;> exact⟨by decide +kernel,by decide +kernel⟩)
 have A:∀{k:Int} {R:PV->Prop},0<=k->k<3->(∀x,Bd 8 x->R (fr x))->Am (.lst [fr 0,fr ((4:Int):Rat),fr ((12:Int):Rat)]) (.int k) R:=λj h1 h=>Nz (xs:= [0,((4:Int):Rat),((12:Int):Rat)]) j h1 λx hx=>h x (by
  simp only[AAF,AAg,AAe] at hx;rcases hx with rfl|rfl|rfl <;> exact⟨by decide +kernel,by decide +kernel⟩)
 apply KL;ac_rfl;refine W9 (λi b=>∃xs:zy Rat,xs.length=i/\(∀x∈xs,Bd 20 x)/\b=xs.map fr) (λb h=> ?_) (λi hi b R B h=> ?_) ⟨[],rfl,by simp,rfl⟩
 .obtain ⟨xs,l,c,rfl⟩:=h;obtain⟨x,y,z,rfl⟩:∃x y z,xs= [x,y,z] :=by
   match xs,l with
   | [x,y,z],_=>exact⟨x,y,z,rfl⟩
  have C:=c x (by simp);have m:=c y (by simp);have D:=c z (by simp);ac_rfl;refine CO fr (λus vs τ=>∃hs:zy Rat,∃n o,hs.length=us.length/\(∀x∈hs,Bd 40 x)/\τ= [some (.val .tape),some (.val (.lst ([x,y,z].map fr))),some (.own (hs.map fr)),n,o]) ?_ ?_ ⟨[],_,_,rfl,by simp,rfl⟩
  .rintro τ ⟨hs,n,o,hl,hb,rfl⟩;obtain⟨E,F,G,rfl⟩:∃x y z,hs= [x,y,z] :=by
    match hs,hl with
    | [x,y,z],_=>exact⟨x,y,z,rfl⟩
   have p:=λs d hs h1 h2=>q s (x,y,z) (E,F,G) d hs ⟨C.mono (by decide),m.mono (by decide),D.mono (by decide)⟩ ⟨hb _ (by simp),hb _ (by simp),hb _ (by simp)⟩ h1 h2;ac_rfl;rename_i k f g;refine bF f g λu hu=> ?_;obtain⟨s,rfl,hs⟩:∃s:Str,u= .str s/\(s="a" \/s="room" \/s="abcdefgh"):=by
    simp only[AAF,AAg,AAe] at hu;rcases hu with rfl|rfl|rfl
    .exact ⟨_,rfl, .inl rfl⟩
    .exact ⟨_,rfl, .inr (.inl rfl)⟩
    .exact ⟨_,rfl, .inr (.inr rfl)⟩
   ac_rfl;exact p s _ hs (by omega) (by omega)
  .rintro us a vs e τ R2 H ⟨hs,n,o,hl,hb,rfl⟩;have r:Bd 20 a:=by
    have:a∈ [x,y,z] :=by rw[<-e];simp
    exact c a this
   have ul:us.length<=3:=by have:=congrArg List.length e;simp at this;omega
   ac_rfl;rename_i w I J k f g;refine A f g λu t=> ?_;ac_rfl;exact H _ ⟨hs ++ [a+(w+u)],_,_,by simp[hl],λx hx=>by
    rcases AAN.mp hx with hx|hx
    .exact hb x hx
    .rw [AAV.mp hx];exact(r.add (I.add t)).mono (by decide),by rw[AAO];rfl⟩
 .obtain ⟨xs,l,c,rfl⟩:=h;ac_rfl;rename_i a r k f g;refine v f g λu t=> ?_;ac_rfl;exact B _ ⟨xs ++ [a-u],by simp[l],λx hx=>by
   rcases AAN.mp hx with hx|hx
   .exact c x hx
   .rw [AAV.mp hx];exact(r.sub t).mono (by decide),by rw[AAO];rfl⟩
def KD (a b:C4)(r:zy C4):Fq (a::b::r)=(a,b)::Fq (b::r):=rfl
theorem RC:∀{cs:zy C4} {l:C4},Lj cs->cs.getLast?=some l->∀c∈cs,c.1<=l.1
 | [],_,_,e,_,_=>by cases e
 | [a],l,_,e,c,hc=>by cases e;rw[AAV.mp hc];exact AC9
 | a::b::r,l,h,e,c,hc=>by
   rw[ACL] at e;have h':=AAM.mp h;have ih:=RC h'.2 e;rcases AAF.mp hc with rfl|hc
   .have:=h'.1 b (by simp);have:=ih b (by simp);grind
   .exact ih c hc
def gb {lo hi:T3}{m:Rat}:∀(r:zy C4) (a b l:C4),Lj (a::b::r)->a.1<=m->(a::b::r).getLast?=some l->((∃t,spotG a (b::r) m=some t/\g6 lo hi t)/\m<l.1↔∃p∈Fq (a::b::r),Jz lo hi p m):=by
 intro r;induction r with
 | nil=>
   intro a b l h ha e;cases e;have g:=(AAM.mp h).1 b (by simp);simp only[KD,show Fq [b] = [] from rfl,AAV,exists_eq_left,spotG];unfold Jz;constructor
   .rintro ⟨⟨t,e,k⟩,d⟩;rw[AAD (by grind)] at e;cases e;exact⟨ha,d,k⟩
   .rintro ⟨_,d,k⟩;rw[AAD (by grind)];exact⟨⟨_,rfl,k⟩,d⟩
 | cons c r ih=>
   intro a b l h ha e;have h':=AAM.mp h;have g:=h'.1 b (by simp);have i:=(AAM.mp h'.2).1 c (by simp);have u:=RC h e b (by simp);have cl:=RC h e c (by simp);rw[ACL] at e;rw[KD];have f:m<b.1->∀p∈Fq (b::c::r),¬Jz lo hi p m:=λd p hp k=>by
    have q:=(FA h'.2 hp).1;have:b.1<=p.1.1:=by
     rcases AAF.mp q with z|z
     .rw [z];exact AC9
     .have:=(AAM.mp h'.2).1 _ z;grind
    have:=k.1;grind
   by_cases j:b.1<m
   .rw [show spotG a (b::c::r) m=spotG b (c::r) m by rw[spotG,AAE j],ih b c l h'.2 (by grind) e];constructor
    .rintro ⟨p,hp,k⟩;exact⟨p,by simp[hp],k⟩
    .rintro ⟨p,hp,k⟩;rcases AAF.mp hp with rfl|hp
     .exact absurd k.2.1 (by show ¬m<b.1;grind)
     .exact ⟨p,hp,k⟩
   .rw [show spotG a (b::c::r) m=some (inter a b m) by rw[spotG,AAD j]];by_cases n:m<b.1
    .constructor
     .rintro ⟨⟨t,e,k⟩,_⟩;cases e;exact⟨(a,b),by simp,ha,n,k⟩
     .rintro ⟨p,hp,k⟩;rcases AAF.mp hp with rfl|hp
      .exact ⟨⟨_,rfl,k.2.2⟩,by grind⟩
      .exact absurd k (f n p hp)
    .have d:m=b.1:=by grind
     subst d;have s:inter a b b.1=b.2:=Vl g;have o:inter b c b.1=b.2:=Tj i;rw[s];constructor
     .rintro ⟨⟨t,e,k⟩,_⟩;cases e;exact⟨(b,c),by rw[KD];simp,AC9,i,by rw[o];exact k⟩
     .rintro ⟨p,hp,k⟩;rcases AAF.mp hp with rfl|hp
      .exact absurd k.2.1 (by show ¬b.1<b.1;grind)
      .rw [KD] at hp;rcases AAF.mp hp with rfl|hp
       .refine ⟨⟨_,rfl, ?_⟩,by grind⟩;have:=k.2.2;rw[o] at this;exact this
       .exfalso;have q:=(FA (AAM.mp h'.2).2 hp).1;have:=(AAM.mp h'.2).1 _ q;have:=k.1;grind
def Yv {cs:zy C4}{lo hi:T3}{m:Rat}{B M:Nat}(hc:∀c∈cs,FX B c)(d:Lj cs)(h2:2<=cs.length)(hl:cs.length<=1000)(g:Cn 100 lo)(i:Cn 100 hi)(bm:Bd M m)(G:M+6*B+10<=3900){Q:PV->Prop}(q:∀b:zq,(b=true↔∃p∈Fq cs,Jz lo hi p m)->Q (.bl b)):BV [Ba cs,DC lo,DC hi,fr m] Q:=by
 obtain⟨a,b,r,rfl⟩:∃a b r,cs=a::b::r:=by
  match cs,h2 with
  | a::b::r,_=>exact⟨a,b,r,rfl⟩
 obtain⟨l,n⟩:∃l,(a::b::r).getLast?=some l:=⟨_,ACK (by simp)⟩;have s:l∈a::b::r:=ACz n;have u:=(hc l s).m;have sp:=gb (lo:=lo) (hi:=hi) (m:=m) r a b l d;have o:=Cn.spotC bm d hc;have v:=g.x;have w:=g.y;have A:=g.z;have C:=i.x;have D:=i.y;have E:=i.z;have key:(∃p∈Fq (a::b::r),Jz lo hi p m)↔(∃t,spotC (a::b::r) m=some t/\g6 lo hi t)/\m<l.1:=by
  by_cases h:m<a.1
  .rw [Lv h];constructor
   .rintro ⟨p,hp,k⟩;exfalso;have q:=(FA d hp).1;have:a.1<=p.1.1:=by
     rcases AAF.mp q with z|z
     .rw [z];exact AC9
     .have:=(AAM.mp d).1 _ z;grind
    have:=k.1;grind
   .rintro ⟨⟨t,e,_⟩,_⟩;cases e
  .rw [show spotC (a::b::r) m=spotG a (b::r) m by rw[spotC,AAD h],sp (by grind) n]
 rw[key] at q;apply Iv;ac_rfl
 .rename_i h;exact q false ⟨λz=>(by cases z),λz=>absurd z.2 h⟩
 rename_i F;refine NQ hc d (by simp) hl bm (by omega) ?_;cases hs:spotC (a::b::r) m with
 | none=> rw[show X8 none=PV.non from rfl];ac_rfl;exact q false ⟨λz=>(by cases z),λz=>by obtain⟨⟨t,e,_⟩,_⟩:=z;rw[hs] at e;cases e⟩
 | some t=>
   have j:=o t hs;have H:=j.x;have I:=j.y;have J:=j.z;rw[show X8 (some t)=DC t from rfl];have f:=λb (h:b=true↔g6 lo hi t)=>q b (by rw[h,hs];exact⟨λz=>⟨⟨t,rfl,z⟩,F⟩,λz=>by obtain⟨⟨t',e,k⟩,_⟩:=z;cases e;exact k⟩);clear q key sp o;unfold g6 at f;ac_rfl;show CJ _ _ _ _ _ [.int 0, .int 1, .int 2] [];repeat' array_get_dec
   all_goals (refine f _ ?_;simp_all)
def FD (k:Int)(c:C4):Rat:=if k % 3=0 then c.2.1 else if k % 3=1 then c.2.2.1 else c.2.2.2
def E6 (lo hi:T3):zy (Int×Rat):= [(0,lo.1),(1,lo.2.1),(2,lo.2.2),(3,hi.1),(4,hi.2.1),(5,hi.2.2)]
def rJ (p:Int×Rat):PV:= .tup [.int p.1,fr p.2]
def db (cs:zy C4):IH (cs.map cor) (List.map cor (List.drop (Int.toNat 1) cs))=(Fq cs).map λp=> .tup [cor p.1,cor p.2] :=by rw[show Int.toNat 1=1 from rfl,List.drop_one];unfold IH Fq;rw[List.zipWith_map,List.zip,List.map_zipWith]
def ir (p:C4×C4)(u:Int×Rat)(m:Rat):Prop:=p.1.1<m/\m<p.2.1/\FD u.1 p.1≠FD u.1 p.2/\FD u.1 p.1+(m-p.1.1)/(p.2.1-p.1.1)*(FD u.1 p.2-FD u.1 p.1)=u.2
structure i0 (W:Nat) (cs:List C4) (us:List (C4×C4)) (lo hi:T3) (ms:List Rat):Prop where
 bd:∀m∈ms,Bd W m
 crn:∀c∈cs,c.1∈ms
 ed:∀p∈us,∀u∈E6 lo hi,∀m,ir p u m->m∈ms
 len:ms.length<=cs.length+6*us.length
structure U8 (W:Nat) (cs:List C4) (us:List (C4×C4)) (lo hi:T3) (p:C4×C4) (ws:List (Int×Rat)) (ms:List Rat):Prop where
 bd:∀m∈ms,Bd W m
 crn:∀c∈cs,c.1∈ms
 ed:∀p∈us,∀u∈E6 lo hi,∀m,ir p u m->m∈ms
 ed2:∀u∈ws,∀m,ir p u m->m∈ms
 len:ms.length<=cs.length+6*us.length+ws.length
def U8.more {W:Nat}{cs:zy C4}{us:zy (C4×C4)}{lo hi:T3}{p:C4×C4}{b:zy (Int×Rat)}{ms:zy Rat}{u:Int×Rat}(h:U8 W cs us lo hi p b ms){x:Rat}(d:Bd W x)(k:∀m,ir p u m->m=x):U8 W cs us lo hi p (b ++ [u]) (ms ++ [x]):=by
 refine⟨λm a=> ?_,λc hc=>by simp[h.crn c hc],λq hq v hv m a=>by simp[h.ed q hq v hv m a],λv hv m a=> ?_,by have:=h.len;simp;omega⟩
 .rcases AAN.mp a with a|a
  .exact h.bd m a
  .rw [AAV.mp a];exact d
 .rcases AAN.mp hv with hv|hv
  .simp [h.ed2 v hv m a]
  .rw [AAV.mp hv] at a;simp[k m a]
def U8.less {W:Nat}{cs:zy C4}{us:zy (C4×C4)}{lo hi:T3}{p:C4×C4}{b:zy (Int×Rat)}{ms:zy Rat}{u:Int×Rat}(h:U8 W cs us lo hi p b ms)(k:∀m,¬ir p u m):U8 W cs us lo hi p (b ++ [u]) ms:=by
 refine⟨h.bd,h.crn,h.ed,λv hv m a=> ?_,by have:=h.len;simp;omega⟩;rcases AAN.mp hv with hv|hv
 .exact h.ed2 v hv m a
 .rw [AAV.mp hv] at a;exact absurd a (k m)
def aO {p:C4×C4}{u:Int×Rat}{m:Rat}(h:ir p u m):(m-p.1.1)/(p.2.1-p.1.1)=(u.2-FD u.1 p.1)/(FD u.1 p.2-FD u.1 p.1)/\0<(m-p.1.1)/(p.2.1-p.1.1)/\(m-p.1.1)/(p.2.1-p.1.1)<1/\m=p.1.1+(m-p.1.1)/(p.2.1-p.1.1)*(p.2.1-p.1.1):=by
 obtain⟨h1,h2,c,a⟩:=h;have d:(0:Rat)<p.2.1-p.1.1:=by grind
 have d':p.2.1-p.1.1≠0:=by grind
 have w:FD u.1 p.2-FD u.1 p.1≠0:=by grind
 have b:(m-p.1.1)/(p.2.1-p.1.1)*(p.2.1-p.1.1)=m-p.1.1:=Rat.div_mul_cancel d';refine⟨?_, ?_, ?_,by rw[b];grind⟩
 .rw [<-a,show FD u.1 p.1+(m-p.1.1)/(p.2.1-p.1.1)*(FD u.1 p.2-FD u.1 p.1)-FD u.1 p.1=(m-p.1.1)/(p.2.1-p.1.1)*(FD u.1 p.2-FD u.1 p.1) by grind,Rat.mul_div_cancel w]
 .rw [Rat.lt_div_iff d];grind
 .rw [Rat.div_lt_iff d];grind
def hX {lo hi:T3}{u:Int×Rat}{B:Nat}(a:Cn 100 lo)(b:Cn 100 hi)(hu:u∈E6 lo hi):(∀(d:C4) {R:PV->Prop},R (fr (FD u.1 d))->Am (cor d) (.int (u.1.fmod 3+1)) R)/\Bd 100 u.2/\∀d,FX B d->Bd B (FD u.1 d):=by
 unfold E6 at hu;simp only[AAF,AAg,AAe] at hu;rcases hu with rfl|rfl|rfl|rfl|rfl|rfl
 .exact ⟨λd R h=>(show R (fr d.2.1) from h),a.x,λd h=>h.x⟩
 .exact ⟨λd R h=>(show R (fr d.2.2.1) from h),a.y,λd h=>h.y⟩
 .exact ⟨λd R h=>(show R (fr d.2.2.2) from h),a.z,λd h=>h.z⟩
 .exact ⟨λd R h=>(show R (fr d.2.1) from h),b.x,λd h=>h.x⟩
 .exact ⟨λd R h=>(show R (fr d.2.2.1) from h),b.y,λd h=>h.y⟩
 .exact ⟨λd R h=>(show R (fr d.2.2.2) from h),b.z,λd h=>h.z⟩
def Vx {cs:zy C4}{lo hi:T3}{B:Nat}(hc:∀c∈cs,FX B c)(J:Lj cs)(h2:2<=cs.length)(hl:cs.length<=100)(K:Cn 100 lo)(L:Cn 100 hi)(T:B<=140){Q:PV->Prop}(q:∀ms,i0 (6*B+105) cs (Fq cs) lo hi ms->Q (.lst ((A9 ms).map fr))):CH [Ba cs,DC lo,DC hi] Q:=by
 have U:(Fq cs).length=cs.length-1:=by unfold Fq;simp
 apply Iw;ac_rfl;refine CN cor fr (λc=>c.1) (λ_=>True) (λc _ R s=> ?_) cs [] (λ_ _=>True.intro) ?_
 .ac_rfl;exact s
 rw[AAp];ac_rfl;rw[db];refine CO (λp:C4×C4=> .tup [cor p.1,cor p.2]) (λus vs τ=>∃ms v y A d f g a,i0 (6*B+105) cs us lo hi ms/\τ= [some (.val (Ba cs)),some (.val (DC lo)),some (.val (DC hi)),some (.own (ms.map fr)),v,y,A,d,f,g,a]) ?_ ?_ ⟨cs.map λc=>c.1,_,_,_,_,_,_,_,⟨λm i=> ?_,λc hc=>List.mem_map_of_mem hc,by simp,by simp⟩,rfl⟩
 .rintro τ ⟨ms,v,y,A,d,f,g,a,h,rfl⟩;have:=h.len;ac_rfl;exact LI (B:=6*B+105) (by omega) h.bd (by omega) (q ms h)
 .rintro us p vs e τ R s ⟨ms,v,y,A,d,f,g,a,h,rfl⟩;obtain⟨m1,m2,m3⟩:=FA J (p:=p) (by rw[<-e];simp);have ul:us.length<=100:=by have:=congrArg List.length e;simp at this;omega
  obtain⟨b,c⟩:=p;have G:=(hc b m1).m;have M:=(hc c m2).m;ac_rfl;show BX (.tup [fr lo.1,fr lo.2.1,fr lo.2.2]) (.tup [fr hi.1,fr hi.2.1,fr hi.2.2]) _;ac_rfl;show DK _ _ _ ((E6 lo hi).map rJ) _;refine CO rJ (λC vs τ=>∃ms d f g a,U8 (6*B+105) cs us lo hi (b,c) C ms/\τ= [some (.val (Ba cs)),some (.val (DC lo)),some (.val (DC hi)),some (.own (ms.map fr)),some (.val (cor b)),some (.val (cor c)),some (.val (fr (c.1-b.1))),d,f,g,a]) ?_ ?_ ⟨ms,_,_,_,_,⟨h.bd,h.crn,h.ed,by simp,h.len⟩,rfl⟩
  .rintro τ ⟨ms,d,f,g,a,k,rfl⟩;refine s _ ⟨ms,_,_,_,_,_,_,_,⟨k.bd,k.crn,λx hx u hu m i=> ?_,by have:=k.len;simp[E6] at this ⊢;omega⟩,rfl⟩;rcases AAN.mp hx with hx|hx
   .exact k.ed x hx u hu m i
   .rw [AAV.mp hx] at i;exact k.ed2 u hu m i
  .rintro C u N H τ R2 D ⟨ms,d,f,g,a,k,rfl⟩;have W:C.length<=6:=by have:=congrArg List.length H;simp[E6] at this;omega
   have hu:u∈E6 lo hi:=by rw[<-H];simp
   have X:=k.len;obtain⟨E,I,r⟩:=hX (B:=B) K L hu;have t:=r b (hc b m1);have sc:=r c (hc c m2);have j:=λm=> @aO (b,c) u m;have new:∀d f g a,R2 [some (.val (Ba cs)),some (.val (DC lo)),some (.val (DC hi)),some (.own (ms.map fr ++ [fr (b.1+(u.2-FD u.1 b)/(FD u.1 c-FD u.1 b)*(c.1-b.1))])),some (.val (cor b)),some (.val (cor c)),some (.val (fr (c.1-b.1))),d,f,g,a] \/FD u.1 c-FD u.1 b=0:=λd f g a=>by
    by_cases w:FD u.1 c-FD u.1 b=0
    .exact .inr w
    .refine .inl (D _ ⟨ms ++ [b.1+(u.2-FD u.1 b)/(FD u.1 c-FD u.1 b)*(c.1-b.1)],d,f,g,a,k.more ((G.add ((Bd.div w (I.sub t) (sc.sub t)).mul (M.sub G))).mono (by omega)) λm i=> ?_,by rw[AAO];rfl⟩);have z:=j m i;have o:=z.1;have l:=z.2.2.2;dsimp only at o l;rw[o] at l;exact l
   have n:∀d f g a,(∀m,¬ir (b,c) u m)->R2 [some (.val (Ba cs)),some (.val (DC lo)),some (.val (DC hi)),some (.own (ms.map fr)),some (.val (cor b)),some (.val (cor c)),some (.val (fr (c.1-b.1))),d,f,g,a] :=λd f g a O=>D _ ⟨ms,d,f,g,a,k.less O,rfl⟩;clear D s;unfold rJ;ac_rfl;refine E c ?_;ac_rfl;refine E b ?_;ac_rfl
   .rename_i w;have w:FD u.1 c-FD u.1 b≠0:=λz=>w (by rw[z];rfl);have new:=λd f g a=>(new d f g a).resolve_right w;have P:=I.sub t;have b2:=sc.sub t;have Y:=Bd.div w P b2;refine E b ?_;ac_rfl
    .exact new _ _ _ _
    .rename_i h1 h2;refine n _ _ _ _ λm i=> ?_;obtain⟨o,l,F,_⟩:=j m i;rw[o] at F;exact h2 F
    .rename_i h1;refine n _ _ _ _ λm i=> ?_;obtain⟨o,l,F,_⟩:=j m i;rw[o] at l;exact h1 l
   .rename_i w;refine n _ _ _ _ λm i=> ?_;have:=i.2.2.1;have w:FD u.1 c-FD u.1 b=0:=Rat.num_eq_zero.mp w;dsimp only at this;grind
 .obtain ⟨c,S,rfl⟩:=AAR.mp i;exact(hc c S).m.mono (by omega)
def iN {cs:zy C4}{W:Nat}{lo hi:T3}{ms:zy Rat}(c:Lj cs)(h:i0 W cs (Fq cs) lo hi ms){p:C4×C4}(hp:p∈Fq cs){m:Rat}(k:la lo hi p m):m∈ms:=by
 obtain⟨m1,m2,m3⟩:=FA c hp;rcases k with rfl|rfl|⟨h1,h2,k⟩
 .exact h.crn _ m1
 .exact h.crn _ m2
 .have go:∀u∈E6 lo hi,FD u.1 p.1≠FD u.1 p.2->FD u.1 p.1+(m-p.1.1)/(p.2.1-p.1.1)*(FD u.1 p.2-FD u.1 p.1)=u.2->m∈ms:=λu hu a b=>h.ed p hp u hu m ⟨h1,h2,a,b⟩;rcases k with⟨n,k|k⟩|⟨n,k|k⟩|⟨n,k|k⟩
  .exact go (0,lo.1) (by simp[E6]) n k
  .exact go (3,hi.1) (by simp[E6]) n k
  .exact go (1,lo.2.1) (by simp[E6]) n k
  .exact go (4,hi.2.1) (by simp[E6]) n k
  .exact go (2,lo.2.2) (by simp[E6]) n k
  .exact go (5,hi.2.2) (by simp[E6]) n k
def sv (p:Int×Int):Rat:=(p.1:Rat)/(p.2:Rat)
section
variable {cs ds:zy C4}{d:Rat×Rat}{M W:Nat}
def RH (cs ds:zy C4)(d:Rat×Rat)(m:Rat):Prop:=jK cs ds<=m/\m<jS cs ds/\qT (rT cs ds d m)<1
instance {m:Rat}:Decidable (RH cs ds d m):=by unfold RH;infer_instance
structure g9 (cs ds:List C4) (d:Rat×Rat) (B:Nat) (ss:List Au):Prop where
 few:ss.length<=201
 ok:∀s∈ss,BD B s
 fin:∀s∈ss,∃x,s.2.2=some x
 sem:∀m,ss.any (Al · (m,0))=true↔RH cs ds d m
 pf:ss.length<=(xo cs ds d).length
end
def eu {ss:zy Au}(a:∀s∈ss,∃x,s.2.2=some x)(k:Rat):∃m,k<m/\ss.any (Al · (m,0))=false:=by
 induction ss with
 | nil=>exact⟨k+1,by grind,rfl⟩
 | cons s ss ih=>
   obtain⟨x,hx⟩:=a s (by simp);have c:∀(b:zy Au),(∀s∈b,∃x,s.2.2=some x)->∃n:Rat,k<n/\∀s∈b,∀x,s.2.2=some x->x<n:=by
    intro b;induction b with
    | nil=>intro _;exact⟨k+1,by grind,by simp⟩
    | cons t b d=>
      intro e;obtain⟨n,h1,h2⟩:=d λs hs=>e s (by simp[hs]);obtain⟨y,hy⟩:=e t (by simp);by_cases z:y<n
      .refine ⟨n,h1,λs hs x hx=> ?_⟩;rcases AAF.mp hs with rfl|hs
       .rw [hy] at hx;cases hx;exact z
       .exact h2 s hs x hx
      .refine ⟨y+1,by grind,λs hs x hx=> ?_⟩;rcases AAF.mp hs with rfl|hs
       .rw [hy] at hx;cases hx;grind
       .have:=h2 s hs x hx;grind
   obtain⟨n,h1,h2⟩:=c (s::ss) a;refine⟨n,h1, ?_⟩;rw[AB3];intro t f z;obtain⟨y,hy⟩:=a t f;have:=h2 t f y hy;unfold Al at z;rw[hy] at z;simp at z;grind
def Kz {B:Nat}{ss:zy Au}(ok:∀s∈ss,BD B s)(a:∀s∈ss,∃x,s.2.2=some x):∀r∈canon 1 ss,∃x,r.2.2=some x:=by
 intro r b;cases e:r.2.2 with
 | some x=>exact⟨x,rfl⟩
 | none=> exfalso;obtain⟨m,h1,h2⟩:=eu a r.1;rw[<-Js ok (p:=(m,0)) (.inl rfl)] at h2;rw[AB3] at h2;refine h2 r b ?_;unfold Al;rw[e];simp;exact .inl h1
structure Told (P:Rat->Prop) (B:Nat) (cc:List Au):Prop where
 ok:∀s∈cc,BD B s
 fin:∀s∈cc,∃x,s.2.2=some x
 few:cc.length<=2000
 sem:∀m,cc.any (Al · (m,0))=true↔P m
def g9.told {cs a:zy C4}{d:Rat×Rat}{B:Nat}{ss:zy Au}(n:g9 cs a d B ss):Told (RH cs a d) B (canon 1 ss):=
 ⟨Fn n.ok,Kz n.ok n.fin,by have:=El (n:=1) (ss:=ss);have:=n.few;omega,λm=>by rw[Js n.ok (p:=(m,0)) (.inl rfl)];exact n.sem m⟩
def cB {a b:Rat}{W:Nat}{s:Int}(c:Bd W a)(d:Bd W b)(hs:s=0\/s=1):∃p,Zv (3*W+1) (a,b,s) p:=by
 obtain⟨h1,h2,e⟩:=R5 (W:=W) 2 [a,b] rfl (by simp;exact⟨c,d⟩);have f:(0:Rat)<((LV [a,b] :Nat):Rat):=by exact_mod_cast h1
 exact⟨⟨gM (LV [a,b]) a,gM (LV [a,b]) b,s, []⟩,⟨A7 (R1 c e) (by omega),A7 (R1 d e) (by omega),by simp,by simp,hs⟩,rfl,_,f,R3 (h2 a (by simp)),R3 (h2 b (by simp))⟩
def ZH {b e:C4}{lo hi:T3}{B:Nat}(hb:FX B b)(he:FX B e)(h:b.1<e.1)(r:Cn 201 lo)(s:Cn 201 hi):∃a,NU (3*(6*B+205)+1) (Qv b e lo hi) a:=by
 obtain⟨c,d⟩:=GG hb.m he.m hb.x he.x h;obtain⟨i,j⟩:=GG hb.m he.m hb.y he.y h;obtain⟨l,n⟩:=GG hb.m he.m hb.z he.z h;have all:∀o:zy Fm,(∀f∈o,Bd (6*B+205) f.1/\Bd (6*B+205) f.2.1/\(f.2.2=0\/f.2.2=1))->∃a,NU (3*(6*B+205)+1) o a:=by
  intro o;induction o with
  | nil=>intro _;exact⟨[], .nil⟩
  | cons f o ih=> intro k;obtain⟨u,v,w⟩:=k f (by simp);obtain⟨p,hp⟩:=cB u v w;obtain⟨a,A⟩:=ih λg C=>k g (by simp[C]);exact⟨p::a, .cons hp A⟩
 refine all _ λf t=> ?_;unfold Qv at t;simp only[AAF,AAg,AAe] at t;rcases t with rfl|rfl|rfl|rfl|rfl|rfl|rfl|rfl
 .exact ⟨hb.m.neg.mono (by omega),mW.mono (by omega), .inl rfl⟩
 .exact ⟨he.m.mono (by omega),mW.neg.mono (by omega), .inr rfl⟩
 .exact ⟨(d.sub r.x).mono (by omega),c.mono (by omega), .inr rfl⟩
 .exact ⟨(s.x.sub d).mono (by omega),c.neg.mono (by omega), .inr rfl⟩
 .exact ⟨(j.sub r.y).mono (by omega),i.mono (by omega), .inr rfl⟩
 .exact ⟨(s.y.sub j).mono (by omega),i.neg.mono (by omega), .inr rfl⟩
 .exact ⟨(n.sub r.z).mono (by omega),l.mono (by omega), .inr rfl⟩
 .exact ⟨(s.z.sub n).mono (by omega),l.neg.mono (by omega), .inr rfl⟩
def gf {N:Nat}{b e:C4}{lo hi:T3}{a:zy Df}(hp:NU N (Qv b e lo hi) a):(∃s,Qm N lo hi (b,e) s)\/∀t,¬Jz lo hi (b,e) t:=by
 obtain⟨u,v,G⟩:=hp.mem;have d:∀p∈a,p.s=0\/p.s=1:=λp hp=>by obtain⟨f,_,r⟩:=u p hp;exact r.ok.s
 by_cases g:∀p∈a,p.c1=0->Iq p=false
 .have B:=B4 (.inl rfl) a.length a rfl d;have w:=B4 (.inr rfl) a.length a rfl d;obtain⟨l,x⟩:∃l,tight 1 a=some l:=by
   cases z:tight 1 a with
   | some l=>exact⟨l,rfl⟩
   | none=> obtain⟨i,j,k⟩:=v (-b.1,1,0) (by simp[Qv]);exact absurd (by have:=k.sign.1.mpr (by show (0:Rat)<1;decide);omega) (B.no z i j)
  obtain⟨h,m⟩:∃h,tight (-1) a=some h:=by
   cases z:tight (-1) a with
   | some l=>exact⟨l,rfl⟩
   | none=> obtain⟨i,j,k⟩:=v (e.1, -1,1) (by simp[Qv]);exact absurd (by have:=k.sign.2.mpr (by show (-1:Rat)<0;decide);omega) (w.no z i j)
  have y:=w.so h m;have A:h.s=1:=by
   obtain⟨f,n,r⟩:=u h y.1;have:=r.sign.2.mp (by have:=y.2.1;omega);rw[r.s];unfold Qv at n;simp only[AAF,AAg,AAe] at n;rcases n with rfl|rfl|rfl|rfl|rfl|rfl|rfl|rfl
   .exact absurd this (by show ¬(1:Rat)<0;decide)
   all_goals rfl
  by_cases C:Dr l<Dr h
  .exact .inl ⟨_,Uf hp x m C A g⟩
  .refine .inr λt o=> ?_;have:=(W1 d x m A g t).mp ((Rg hp t).mpr o);grind
 .refine .inr λt o=>g λp D c0=> ?_;have c:=(Rg hp t).mpr o p D;unfold holds US at c;rw[c0] at c;have:¬((p.c0:Int)<0\/(p.c0=0/\p.s=1)):=by
   rintro(z|⟨E,H⟩)
   .have z:(p.c0:Rat)<0:=by exact_mod_cast z
    have F:((0:Int):Rat)=0:=rfl;grind
   .rw [E] at c;have F:((0:Int):Rat)=0:=rfl;rcases c with c|⟨_,c⟩
    .grind
    .omega
  unfold Iq;exact AAZ this
def dB {cs:zy C4}{lo hi:T3}{B:Nat}(hc:∀c∈cs,FX B c)(b:Lj cs)(d:Cn 201 lo)(e:Cn 201 hi):∃ss,CY (3*(6*B+205)+1) lo hi (Fq cs) ss:=by
 have all:∀(n:Nat) (us:zy (C4×C4)),us.length=n->(∀p∈us,p∈Fq cs)->∃ss,CY (3*(6*B+205)+1) lo hi us ss:=by
  intro n;induction n with
  | zero=> intro us h _;have:us= [] :=ABm.mp h;subst this;exact⟨[],by simp,by simp,by simp⟩
  | succ n ih=>
    intro us h k;obtain⟨vs,p,rfl⟩:∃vs t,us=vs ++ [t] :=by
     have a:us≠ [] :=λz=>by rw[z] at h;simp at h
     exact⟨us.dropLast,us.getLast a,(ABn a).symm⟩
    obtain⟨ss,hs⟩:=ih vs (by simpa using h) λq hq=>k q (by simp[hq]);obtain⟨m1,m2,m3⟩:=FA b (k p (by simp));obtain⟨f,hp⟩:=ZH (hc _ m1) (hc _ m2) m3 d e;rcases gf hp with⟨s,h⟩|h
    .exact ⟨_,hs.more h⟩
    .exact ⟨_,hs.less h⟩
 exact all _ _ rfl λ_ h=>h
def CY.sem {N:Nat}{lo hi:T3}{us:zy (C4×C4)}{ss:zy Au}(h:CY N lo hi us ss)(m:Rat):ss.any (Al · (m,0))=true↔∃p∈us,Jz lo hi p m:=by
 rw[AAo];constructor
 .rintro ⟨s,hs,k⟩;obtain⟨p,hp,o⟩:=h.ok s hs;exact⟨p,hp,(o.sem m).mp k⟩
 .rintro ⟨p,hp,k⟩;exact h.all p hp m k
def cj {qs:zy Rat}{In:Pl->zq}(mono:∀x∈qs,In (x,0)=true->In (x,1)=true)(c:∀us x d vs,us++x::d::vs=qs->In ((x+d)*(1/2:Rat),0)=In (x,1))(last:∀us x,us ++ [x] =qs->In (x,0)=false/\In (x,1)=false)(hl:qs.length<=1000){Q:PV->Prop}(q:Q (.tup ((Dd ((places qs).map λp=>(p,In p))).map Aq))):BO [.lst (qs.map fr), .lst (qs.map λm=> .bl (In (m,0))), .lst ((J6 qs).map λm=> .bl (In (m,0)))] Q:=by
 have ep:((places qs).map λp=>(p,In p))=(qs.map λx=>((x,In (x,0),In (x,1)):Tr)).flatMap ic:=by unfold places;rw[List.map_flatMap,List.flatMap_map];rfl
 rw[ep] at q;have key:=ci (T:=qs.map λx=>((x,In (x,0),In (x,1)):Tr)) (gs:=(J6 qs).map λm=>In (m,0)) ?_ ?_ (by rw[AAI];omega) ?_ q
 .rw [AAd,AAd,AAd] at key;exact key
 .by_cases a:qs= []
  .exact .inl (by rw[a];rfl)
  .refine .inr ?_;rw[AAd];exact Tq (f:=λm=>In (m,0)) (g:=λx=>In (x,1)) qs a c λus x e=>(last us x e).2
 .intro t i h;obtain⟨x,hx,rfl⟩:=AAR.mp i;exact mono x hx h
 .by_cases a:qs= []
  .rw [a];rfl
  .obtain ⟨us,x,rfl⟩:∃us x,qs=us ++ [x] :=⟨qs.dropLast,qs.getLast a,(ABn a).symm⟩;obtain⟨f0,f1⟩:=last us x rfl;rw[AAO,AAK,ABS,Em,f0,f1];generalize Bw _=st;obtain⟨A,b⟩:=st;cases b <;> rfl
def XQ {s:Au}{B:Nat}(o:BD B s){x a:Rat}(j:x<a)(d:¬x<s.1\/¬s.1<a)(f:∀e,s.2.2=some e->¬x<e\/¬e<a):Al s ((x+a)*(1/2:Rat),0)=Al s (x,1):=by
 have m1:x<(x+a)*(1/2:Rat):=by grind
 have m2:(x+a)*(1/2:Rat)<a:=by grind
 generalize (x+a)*(1/2:Rat)=m at *;obtain⟨b,h,e⟩:=s;have l:h=0\/h=1:=o.h;have d:¬x<b\/¬b<a:=d;have g:(decide (b<m)||(decide (b=m)&&decide (0<h+0)))=(decide (b<x)||(decide (b=x)&&decide (0<h+1))):=by
  rw[AA0];simp only[ABk,AAn,ABW];have k:0<h+1:=by omega
  constructor
  .intro z;have:¬x<b:=by rcases z with z|z <;> grind
   by_cases c:b=x
   .exact .inr ⟨c,k⟩
   .exact .inl (by grind)
  .intro z;exact .inl (by rcases z with z|z <;> grind)
 cases e with
 | none=>simp only[Al,g]
 | some e=>
   have f:=f e rfl;have i:decide (m<e)=decide (x<e):=by rw[ABM];constructor <;> intro z <;> grind
   simp only[Al,g,i]
def Pw {ss:zy Au}{f g:Au->zq}(h:∀s∈ss,f s=g s):ss.any f=ss.any g:=by
 induction ss with
 | nil=>rfl
 | cons a r ih=>rw[AA2,AA2,h a (by simp),ih λs hs=>h s (by simp[hs])]
def am {s:Au}{x:Rat}(h:Al s (x,0)=true):Al s (x,1)=true:=by
 simp only[Al,AAn,ABk,ABW] at h ⊢;refine⟨?_,h.2⟩;rcases h.1 with h1|⟨h1,h2⟩
 .exact .inl h1
 .exact .inr ⟨h1,by omega⟩
def ck {ss:zy Au}{ms:zy Rat}{B:Nat}(ok:∀s∈ss,BD B s)(a:∀s∈ss,∃x,s.2.2=some x)(sub:∀s∈ss,s.1∈ms/\∀e,s.2.2=some e->e∈ms)(hl:ms.length<=1000){Q:PV->Prop}(q:Q (.tup ((canon 1 ss).map Aq))):BO [.lst ((A9 ms).map fr), .lst ((A9 ms).map λm=> .bl (ss.any (Al · (m,0)))), .lst ((J6 (A9 ms)).map λm=> .bl (ss.any (Al · (m,0))))] Q:=by
 have j:=DL (xs:=ms);have b:=Bj (xs:=ms);have d:canon 1 ss=Dd ((places (A9 ms)).map λp=>(p,ss.any (Al · p))):=by
  have f:A9 ms=A9 (ms++Ai ss):=KG λx=>by
   rw[AAN];refine⟨.inl,λh=>h.elim id λh=> ?_⟩;obtain⟨s,hs,k⟩:=AAj.mp h;rcases AAF.mp k with rfl|k
   .exact (sub s hs).1
   .exact (sub s hs).2 x (by simpa using k)
  rw[<-D0 (ms:=ms) ok (by decide),f];show Dd _=Dd _;congr 1;apply AA6;intro p _;rw[FN]
 rw[d] at q;refine cj (In:=λp=>ss.any (Al · p)) (λx _ h=> ?_) (λus x l vs e=> ?_) (λus x e=> ?_) (by omega) q
 .obtain ⟨s,hs,k⟩:=AAo.mp h;exact AAo.mpr ⟨s,hs,am k⟩
 .obtain ⟨g,c⟩:=YA (e ▸ b);refine Pw λs hs=>XQ (ok s hs) g (c _ (by rw[e];exact Ax.mpr (sub s hs).1)) λz hz=>c _ (by rw[e];exact Ax.mpr ((sub s hs).2 z hz))
 .have key:∀i:Int,ss.any (Al · (x,i))=false:=λi=>by rw[AB3];intro s hs;obtain⟨ev,he⟩:=a s hs;have h1:=Ax.mpr ((sub s hs).2 ev he);rw[<-e] at h1;have h2:=Oe (e ▸ b) ev h1;simp only[Al,he];simp[h2]
  exact⟨key 0,key 1⟩
def RG {qs:zy Rat}{W:Nat}(h:∀x∈qs,Bd W x):∀x∈J6 qs,Bd (2*W+4) x:=λx hx=>by obtain⟨p,hp,rfl⟩:=AAR.mp hx;have a:=h _ (ABf hp).1;have b2:=h _ (List.mem_of_mem_drop (ABf hp).2);have b:Bd 3 (1/2:Rat):=⟨by decide +kernel,by decide +kernel⟩;exact((a.add b2).mul b).mono (by omega)
def N5 (qs:zy Rat):(J6 qs).length<=qs.length:=by unfold J6;rw[AAI,List.length_zip];omega
def CY.fin {N:Nat}{lo hi:T3}{us:zy (C4×C4)}{ss:zy Au}(h:CY N lo hi us ss):∀s∈ss,∃x,s.2.2=some x:=λs hs=>by obtain⟨p,hp,k⟩:=h.ok s hs;obtain⟨x,hx,_⟩:=k.fin;exact⟨x,hx⟩
def CY.one {N M:Nat}{lo hi:T3}{us:zy (C4×C4)}{ss a:zy Au}(h:CY N lo hi us ss)(k:CY M lo hi us a):canon 1 ss=canon 1 a:=
 Yg h.st k.st λm=>by rw[AA0,h.sem,k.sem]
def Y2 {cs:zy C4}{lo hi:T3}{B:Nat}{ss:zy Au}(hs:CY (3*(6*B+205)+1) lo hi (Fq cs) ss)(hc:∀c∈cs,FX B c)(f:Lj cs)(h2:2<=cs.length)(hl:cs.length<=100)(l:Cn 100 lo)(n:Cn 100 hi)(o:B<=140){Q:PV->Prop}(q:(∀s∈ss,BD (6*B+105) s)->Q (.tup ((canon 1 ss).map Aq))):Ee [Ba cs,DC lo,DC hi] Q:=by
 have w:(Fq cs).length=cs.length-1:=by unfold Fq;simp
 apply Rl;ac_rfl;refine Vx hc f h2 hl l n o λms a=> ?_;have sub:∀s∈ss,s.1∈ms/\∀e,s.2.2=some e->e∈ms:=λs d=>by obtain⟨p,hp,k⟩:=hs.ok s d;obtain⟨x,hx,r⟩:=k.fin;exact⟨iN f a hp k.bmk,λe he=>by rw[hx] at he;cases he;exact iN f a hp r⟩
 have g:=hs.fin;have y:=a.len;have i:∀s∈ss,BD (6*B+105) s:=λs d=>⟨a.bd _ (sub s d).1,(hs.st s d).h,λe he=>⟨((hs.st s d).e e he).1,a.bd _ ((sub s d).2 e he)⟩⟩;have t:=ck hs.st g sub (by omega) (q i);have z:=DL (xs:=ms);have j:∀x∈A9 ms,Bd 945 x:=λx hx=>(a.bd x (Ax.mp hx)).mono (by omega);have u:=RG j;have v:=N5 (A9 ms);have ins:∀m,Bd 1894 m->∀{R:PV->Prop},R (.bl (ss.any (Al · (m,0))))->BV [Ba cs,DC lo,DC hi,fr m] R:=λm bm {R} h=>Yv hc f h2 (by omega) l n bm (by omega) λb hb=>by rw[show b=ss.any (Al · (m,0)) by rw[AA0,hb,hs.sem]];exact h
 generalize A9 ms=qs at *;ac_rfl;refine CN fr PV.bl (λm=>ss.any (Al · (m,0))) (Bd 945) (λm bm R2 h=> ?_) qs [] j ?_
 .ac_rfl;refine ins m (bm.mono (by decide)) ?_;ac_rfl;exact h
 rw[AAp];ac_rfl;refine K9 (by omega) (λx hx=>(j x hx).mono (by decide)) ?_;ac_rfl;refine CN fr PV.bl (λm=>ss.any (Al · (m,0))) (Bd 1894) (λm bm R2 h=> ?_) (J6 qs) [] u ?_
 .ac_rfl;refine ins m bm ?_;ac_rfl;exact h
 rw[AAp];ac_rfl;rw[AAd,AAd];exact t
end PL
namespace PL.K31
open PySem L2 PL PyProof.Rows
abbrev Kg:AS:=
 (AY (CZ (A1 (AW MZ (AN 2 A4 (AB (aV 0) (AB (aC (.int 2)) AL))) (aC (.int 0)))) (Ar (BL (AB (BL (AB (aC (.int 0)) (AB (aC (.int 1)) AL))) (AB (BL (AB (aC (.int 0)) (AB (aC (.int 1)) AL))) (AB (BL (AB (aC (.int 0)) (AB (aC (.int 1)) AL))) AL))))) BZ)
   (Ar (BL (AB (AW Am (aV 1) (AN 2 A4 (AB (aV 0) (AB (aC (.int 4)) AL)))) (AB (AW Am (aV 1) (AN 2 A4 (AB (aV 0) (AB (aC (.int 4)) AL)))) (AB (AW Am (aV 1) (AN 2 A4 (AB (aV 0) (AB (aC (.int 6)) AL)))) AL))))))
abbrev II:AS:=
 (AY (Aj (Ex (DI (AB (BL (AB (aC (.int 0)) (AB (aC (.int 1)) AL))) (AB (BL (AB (aC (.int 1)) (AB (aC (.int 2)) AL))) (AB (BL (AB (aC (.int 1)) (AB (aC (.int 1)) AL))) (AB (BL (AB (aC (.int 1)) (AB (aC (.int 3)) AL))) (AB (BL (AB (aC (.int 3)) (AB (aC (.int 1)) AL))) (AB (BL (AB (aC (.int 40)) (AB (aC (.int 1)) AL))) AL)))))))) (An 1))
   Kg)
def DF:AF:=Ak 2 II
def MR {a:PV}{Q:PV->Prop}(h:II ⟨λ_=>Q .non,Q,λ_=>False,λ_=>False⟩ [some (.val a),none]):DF [a] Q:=h
def jO {cs:zy C4}(p:FF 9 40 cs):FF 9 40 (cs.take 3):=by have:=p.two;exact⟨by simp;omega,by simp;omega,λc hc=>p.bd c (List.mem_of_mem_take hc),List.Pairwise.sublist (List.take_sublist _ _) p.ris⟩
def qQ (xs:zy C4):G3 (xs.map cor) none (some 3)=(xs.take 3).map cor:=by
 by_cases h:3<=xs.length
 .exact jP (k:=3) rfl h
 .rw [ABV (by omega)];unfold G3 HT.sIx;simp;rw[ABV (by simp;omega)]
end PL.K31
namespace PL
open PySem L2 PyProof.Rows PL.K31
abbrev GN:AS:=
 (Ar (FI (VU λbs=>bs.any id) (AB (Ex (B7 (Ha (aV 0)) 3 [1] (JU 3 (Ab (An 0) (Ab (An 1) (Ab (An 2) Bz)))) Dg (VB (YY jU (AN 2 A0 (AB (aV 3) (AB (aV 0) AL)))) (VB (AN 2 A0 (AB (aV 3) (AB (aV 2) AL))) (pF (AW MZ (aV 1) (aC (.int 1))) (AW Ym (aV 3) (aV 0))))))) AL)))
def CS:AF:=Ak 2 GN
def KJ {a b:PV}{Q:PV->Prop}(h:GN ⟨λ_=>Q .non,Q,λ_=>False,λ_=>False⟩ [some (.val a),some (.val b)]):CS [a,b] Q:=h
abbrev On:AS:=
 (AY (Aj (FI DS (AB (Ex (B7 (NY (AB (aC (.int 3)) AL)) 1 [2,1] (An 0) Dg (AN 2 BW (AB (AW Am (AW Am (aV 2) (aC (.int 1))) (aV 0)) (AB (AW Am (aV 1) (aV 0)) AL))))) AL)) (An 3))
   (Ar (BL (AB (aV 3) (AB (FI DS (AB (Ex (B7 (NY (AB (aC (.int 3)) AL)) 1 [2,1] (An 0) Dg (AN 2 BP (AB (AW Am (AW Am (aV 2) (aC (.int 2))) (aV 0)) (AB (AW Am (aV 1) (aV 0)) AL))))) AL)) AL)))))
abbrev Mm:AS:=
 (AY (Aj (Ex (DI (AB (AW Am (AW Am (aV 0) (aC (.int 1))) (aC (.int 0))) (AB (AW Am (AW Am (aV 0) (aC (.int 1))) (aC (.int 0))) (AB (AW Am (AW Am (aV 0) (aC (.int 1))) (aC (.int 1))) AL))))) (An 2))
   On)
def Ec:AF:=Ak 4 Mm
def Rj {a b:PV}{Q:PV->Prop}(h:Mm ⟨λ_=>Q .non,Q,λ_=>False,λ_=>False⟩ [some (.val a),some (.val b),none,none]):Ec [a,b] Q:=h
abbrev IJ:AS:=
 (AY (EF (Ha (aV 0)) (JU 3 (Ab (An 3) (Ab (An 4) (Ab (An 5) Bz)))) (CZ (Fi (A1 (AN 2 A0 (AB (AN 2 BW (AB (aV 2) (AB (aV 1) AL))) (AB (aV 5) AL)))) (S7 (A1 (AN 2 A0 (AB (aV 3) (AB (aV 2) AL)))) (Fi (A1 (AW MZ (aV 4) (aC (.int 1)))) (A1 (AW MZ (aV 3) (aV 2)))))) (Ar (aC (.bl true))) BZ))
   (Ar (aC (.bl false))))
def CB:AF:=Ak 6 IJ
def MS {a b c:PV}{Q:PV->Prop}(h:IJ ⟨λ_=>Q .non,Q,λ_=>False,λ_=>False⟩ [some (.val a),some (.val b),some (.val c),none,none,none]):CB [a,b,c] Q:=h
abbrev Hz:AS:=
 (AY (Aj (Ex (B7 (Ha (aV 5)) 1 [3,2] (An 0) Dg (AN 3 CB (AB (aV 1) (AB (aV 2) (AB (aV 0) AL)))))) (An 6))
   (Ar (AN 3 BO (AB (aV 5) (AB (aV 6) (AB (Ex (B7 (Ha (AN 1 Bs (AB (aV 5) AL))) 1 [3,2] (An 0) Dg (AN 3 CB (AB (aV 1) (AB (aV 2) (AB (aV 0) AL)))))) AL))))))
abbrev Hy:AS:=
 (AY (Aj (AN 1 BN (AB (aV 4) AL)) (An 5))
   Hz)
abbrev Hx:AS:=
 (AY (EF (Ha (aV 3)) (JU 3 (Ab (An 9) (Ab (An 10) (Ab (An 11) Bz)))) (Aj (AW BX (aV 4) (Ex (DI (AB (aV 9) (AB (aV 11) (AB (AN 2 BP (AB (aV 9) (AB (aV 2) AL))) (AB (AN 2 BP (AB (aV 11) (AB (aV 2) AL))) AL))))))) (An 4)))
   Hy)
abbrev Hw:AS:=
 (AY (Aj (Ex (DI AL)) (An 4))
   Hx)
abbrev Hv:AS:=
 (AY (Aj (AN 3 Ee (AB (AW Am (aV 0) (aC (.int 0))) (AB (aV 7) (AB (aV 8) AL)))) (An 3))
   Hw)
abbrev Hu:AS:=
 (AY (Aj (AW Am (AW Am (aV 0) (aC (.int 1))) (aC (.int 2))) (An 2))
   Hv)
abbrev Fe:AS:=
 (AY (Aj (AN 2 Ec (AB (aV 0) (AB (aV 1) AL))) (JU 2 (Ab (An 7) (Ab (An 8) Bz))))
   Hu)
def Br:AF:=Ak 12 Fe
def Iy {a b:PV}{Q:PV->Prop}(h:Fe ⟨λ_=>Q .non,Q,λ_=>False,λ_=>False⟩ [some (.val a),some (.val b),none,none,none,none,none,none,none,none,none,none]):Br [a,b] Q:=h
def Fz {Q:PV->Prop}(q:∀b:T3,Cn 8 b->0<=b.1->0<=b.2.1->0<=b.2.2->Q (DC b)):DF [.tape] Q:=by
 apply MR;have all:∀x∈ [(0:Rat),1/2,1,1/3,3,40],Bd 8 x/\0<=x:=by intro x hx;simp only[AAF,AAg,AAe] at hx;rcases hx with rfl|rfl|rfl|rfl|rfl|rfl <;> exact⟨pW,by decide +kernel⟩
 ac_rfl
 .exact q (0,0,0) ⟨pW,pW,pW⟩ (by decide) (by decide) (by decide)
 refine Nz (xs:= [(0:Rat),1/2,1,1/3,3,40]) (by omega) (by show _<(6:Int);omega) λx hx=> ?_;ac_rfl;refine Nz (xs:= [(0:Rat),1/2,1,1/3,3,40]) (by omega) (by show _<(6:Int);omega) λy hy=> ?_;ac_rfl;refine Nz (xs:= [(0:Rat),1/2,1,1/3,3,40]) (by omega) (by show _<(6:Int);omega) λz hz=> ?_;ac_rfl;exact q (x,y,z) ⟨(all x hx).1,(all y hy).1,(all z hz).1⟩ (all x hx).2 (all y hy).2 (all z hz).2
def fP (lo b:T3):T3:=(lo.1-b.1,lo.2.1-b.1,lo.2.2-b.2.1)
def e6 (hi b:T3):T3:=(hi.1+b.1,hi.2.1+b.1,hi.2.2+b.2.1)
def jN {cs:zy C4}{lo hi b:T3}{e f:PV}(a:Cn 80 lo)(c:Cn 80 hi)(d:Cn 80 b){Q:PV->Prop}(q:Q (.tup [DC (fP lo b),DC (e6 hi b)])):Ec [.tup [Ba cs,DC b], .tup [e,DC lo,DC hi,f]] Q:=by
 have g:=a.x;have h:=a.y;have i:=a.z;have j:=c.x;have k:=c.y;have l:=c.z;have m:=d.x;have n:=d.y;apply Rj;unfold fP e6 DC at *;repeat' array_get_dec
 show CJ _ _ _ _ _ [.int 0, .int 1, .int 2] [];repeat' array_get_dec
 show CJ _ _ _ _ _ [.int 0, .int 1, .int 2] [];repeat' array_get_dec
 exact q
def fN {W:Nat}{s:Au}{x y m:Rat}(o:BD W s)(hx:s.2.2=some x):Al (Gc y s) (m,0)=(decide (m-y<x)&&(decide (s.1<m)||(decide (s.2.1=1)&&decide (s.1=m)))):=by
 have e:(Gc y s).2.2=some (x+y):=by unfold Gc;rw[hx];rfl
 have k:decide (0<s.2.1+0)=decide (s.2.1=1):=by rw[ABM];have:=o.h;omega
 unfold Al;rw[e];show ((decide (s.1<m)||(decide (s.1=m)&&decide (0<s.2.1+0)))&&decide (m<x+y))=_;rw[k,show decide (m<x+y)=decide (m-y<x) by rw[ABM];constructor <;> intro z <;> grind];cases decide (s.1<m) <;> cases decide (s.1=m) <;> cases decide (s.2.1=1) <;> cases decide (m-y<x) <;> rfl
def jx {a:zy Au}{W:Nat}{y m:Rat}(ok:∀s∈a,BD W s)(i:∀s∈a,∃x,s.2.2=some x)(hl:a.length<=1000)(t:W<=3000)(bm:Bd 2000 m)(j:Bd 80 y){Q:PV->Prop}(q:Q (.bl ((a.map (Gc y)).any (Al · (m,0))))):CB [.tup (a.map Aq),fr y,fr m] Q:=by
 have bs:=bm.sub j;apply MS;ac_rfl;refine CO Aq (λus vs τ=>(us.map (Gc y)).any (Al · (m,0))=false/\∃c d f,τ= [some (.val (.tup (a.map Aq))),some (.val (fr y)),some (.val (fr m)),c,d,f]) ?_ ?_ ⟨rfl,_,_,_,rfl⟩
 .rintro τ ⟨h,c,d,f,rfl⟩;rw[h] at q;ac_rfl;exact q
 .rintro us s vs e τ R l ⟨h,c,d,f,rfl⟩;have n:s∈a:=by rw[<-e];simp
  obtain⟨x,hx⟩:=i s n;have o:=ok s n;have u:=o.b;have b2:=(o.e x hx).2;have r:=fN (y:=y) (m:=m) o hx;have g:Al (Gc y s) (m,0)=true->Q (.bl true):=λk=>by rw[<-e,AAO,AAK,List.any_append,AA2,k,Bool.true_or,Bool.or_true] at q;exact q
  have p:Al (Gc y s) (m,0)=false->∀c d f,R [some (.val (.tup (a.map Aq))),some (.val (fr y)),some (.val (fr m)),c,d,f] :=λk c d f=>l _ ⟨by rw[AAO,List.any_append,h];simp[k],c,d,f,rfl⟩;clear l q;rw[r] at g p;rw[show Aq s= .tup [fr s.1, .int s.2.1,fr x] by unfold Aq;rw[hx];rfl];ac_rfl;all_goals first
   | exact g (by simp_all)
   | exact p (by simp_all) _ _ _
def fJ {d:zy Au}{W:Nat}{m:Rat}(ok:∀s∈d,BD W s)(f:∀s∈d,∃x,s.2.2=some x)(hl:d.length<=1000)(i:W<=3900)(bm:Bd 2000 m){Q:PV->Prop}(q:Q (.bl (d.any (Al · (m,0))))):CS [.tup (d.map Aq),fr m] Q:=by
 apply KJ;ac_rfl;refine CN Aq PV.bl (λs=>Al s (m,0)) (λs=>BD W s/\∃x,s.2.2=some x) (λs hs R h=> ?_) d [] (λs hs=>⟨ok s hs,f s hs⟩) ?_
 .obtain ⟨o,x,hx⟩:=hs;have j:=o.b;have b2:=(o.e x hx).2;have g:Al s (m,0)=(!decide (m<s.1)&&(decide (m<x)&&(decide (s.2.1=1)||!decide (m=s.1)))):=by
   rw[AA0,e5 o hx];simp only[AAn,ABk,Bool.not_eq_true',ABW,decide_eq_false_iff_not];constructor
   .rintro ⟨a|⟨a,b⟩,c⟩
    .exact ⟨by grind,c, .inr (by grind)⟩
    .exact ⟨by grind,c, .inl b⟩
   .rintro ⟨a,c,b|b⟩
    .by_cases z:s.1=m
     .exact ⟨.inr ⟨z,b⟩,c⟩
     .exact ⟨.inl (by grind),c⟩
    .exact ⟨.inl (by grind),c⟩
  rw[g] at h;rw[show Aq s= .tup [fr s.1, .int s.2.1,fr x] by unfold Aq;rw[hx];rfl];ac_rfl;all_goals
   refine cast (congrArg (λz=>R (.bl z)) ?_) h
   simp_all
 .rw [AAp];ac_rfl;rw[AAd];refine iW (W5 (λs=>Al s (m,0)) d) ?_;rw[List.any_map];exact q
def aM {cs:zy C4}{lo hi b:T3}{A C:PV}{B:Nat}{ss:zy Au}(hs:CY (3*(6*B+205)+1) (fP lo b) (e6 hi b) (Fq cs) ss)(hc:∀c∈cs,FX B c)(K:Lj cs)(h2:2<=cs.length)(hl:cs.length<=60)(r:Cn 80 lo)(u:Cn 80 hi)(g:Cn 10 b)(G:0<=b.2.2)(T:B<=130){Q:PV->Prop}(q:(∀s∈ss,BD (6*B+105) s)->Q (.tup ((canon 1 (ss.map (Gc b.2.2))).map Aq))):Br [.tup [Ba cs,DC b], .tup [A,DC lo,DC hi,C]] Q:=by
 have l:Cn 80 b:=⟨g.x.mono (by decide),g.y.mono (by decide),g.z.mono (by decide)⟩;have v:=g.z;have U:=hs.len;have W:(Fq cs).length=cs.length-1:=by unfold Fq;simp
 have cl:=El (n:=1) (ss:=ss);apply Iy;ac_rfl;refine jN r u l ?_;ac_rfl;refine Y2 hs hc K h2 (by omega) ⟨(r.x.sub g.x).mono (by decide),(r.y.sub g.x).mono (by decide),(r.z.sub g.y).mono (by decide)⟩ ⟨(u.x.add g.x).mono (by decide),(u.y.add g.x).mono (by decide),(u.z.add g.y).mono (by decide)⟩ (by omega) λst=> ?_;have q:=q st;have j:=Fn st;have f:=Kz hs.st hs.fin;rw[<-N3 st G v] at q;generalize canon 1 ss=cc at *;ac_rfl;refine CO Aq (λus vs τ=>∃(ms:zy Rat) (k a d:zt AV),ms.length=4*us.length/\(∀x∈ms,Bd 900 x)/\(∀s∈us.map (Gc b.2.2),s.1∈ms/\∀e,s.2.2=some e->e∈ms)/\τ= [some (.val (.tup [Ba cs,DC b])),some (.val (.tup [A,DC lo,DC hi,C])),some (.val (fr b.2.2)),some (.val (.tup (cc.map Aq))),some (.val (.lst (ms.map fr))),none,none,some (.val (DC (fP lo b))),some (.val (DC (e6 hi b))),k,a,d]) ?_ ?_ ⟨[],none,none,none,rfl,by simp,by simp,rfl⟩
 .rintro τ ⟨ms,k,a,d,L,w,sub,rfl⟩;have D:∀s∈cc.map (Gc b.2.2),BD (6*B+105+10+1) s:=λs hs=>by obtain⟨t,i,rfl⟩:=AAR.mp hs;exact K8 G v (j t i)
  have p:∀s∈cc.map (Gc b.2.2),∃x,s.2.2=some x:=λs hs=>by obtain⟨t,i,rfl⟩:=AAR.mp hs;obtain⟨x,hx⟩:=f t i;exact⟨x+b.2.2,by unfold Gc;rw[hx];rfl⟩
  have M:=ck D p sub (by omega) q;have X:=DL (xs:=ms);have E:∀x∈A9 ms,Bd 900 x:=λx hx=>w x (Ax.mp hx);have N:=RG E;have O:=N5 (A9 ms);have ins:∀m,Bd 2000 m->∀{R:PV->Prop},R (.bl ((cc.map (Gc b.2.2)).any (Al · (m,0))))->CB [.tup (cc.map Aq),fr b.2.2,fr m] R:=λm bm {R} h=>jx j f (by omega) (by omega) bm l.z h;ac_rfl;refine LI (B:=900) (by omega) w (by decide) ?_;generalize A9 ms=qs at *;ac_rfl;refine CN fr PV.bl (λm=>(cc.map (Gc b.2.2)).any (Al · (m,0))) (Bd 900) (λm bm R2 h=> ?_) qs [] E ?_
  .ac_rfl;refine ins m (bm.mono (by decide)) ?_;ac_rfl;exact h
  rw[AAp];ac_rfl;refine K9 (by omega) (λx hx=>(E x hx).mono (by decide)) ?_;ac_rfl;refine CN fr PV.bl (λm=>(cc.map (Gc b.2.2)).any (Al · (m,0))) (Bd (2*900+4)) (λm bm R2 h=> ?_) (J6 qs) [] N ?_
  .ac_rfl;refine ins m (bm.mono (by decide)) ?_;ac_rfl;exact h
  rw[AAp];ac_rfl;rw[AAd,AAd];exact M
 .rintro us s vs e τ R H ⟨ms,k,a,d,L,w,sub,rfl⟩;have I:s∈cc:=by rw[<-e];simp
  obtain⟨x,hx⟩:=f s I;have o:=j s I;have J:=o.b;have b2:=(o.e x hx).2;have ul:us.length<=200:=by have:=congrArg List.length e;simp at this;omega
  have F:∀k a d,R [some (.val (.tup [Ba cs,DC b])),some (.val (.tup [A,DC lo,DC hi,C])),some (.val (fr b.2.2)),some (.val (.tup (cc.map Aq))),some (.val (.lst (ms.map fr ++ [fr s.1,fr x,fr (s.1+b.2.2),fr (x+b.2.2)]))),none,none,some (.val (DC (fP lo b))),some (.val (DC (e6 hi b))),k,a,d] :=λk a d=>H _ ⟨ms ++ [s.1,x,s.1+b.2.2,x+b.2.2],k,a,d,by simp;omega,λy hy=>by
   rcases AAN.mp hy with hy|hy
   .exact w y hy
   .simp only[AAF,AAg,AAe] at hy;rcases hy with rfl|rfl|rfl|rfl
    .exact J.mono (by omega)
    .exact b2.mono (by omega)
    .exact (J.add v).mono (by omega)
    .exact (b2.add v).mono (by omega),λt i=>by
   rw[AAO,AAK,ABS] at i;rcases AAN.mp i with i|i
   .obtain ⟨P,S⟩:=sub t i;exact⟨by simp[P],λe he=>by simp[S e he]⟩
   .rw [AAV.mp i];refine⟨by simp[Gc],λe he=> ?_⟩;unfold Gc at he;rw[hx] at he;cases he;simp,by rw[AAO];rfl⟩
  clear H;rw[show Aq s= .tup [fr s.1, .int s.2.1,fr x] by unfold Aq;rw[hx];rfl];ac_rfl;exact F _ _ _
abbrev Fa:AS:=
 (AY (DX 3 Ga (AB (BL (AB (jE (jG (aV 2)) (AN 1 Ed (AB (aV 5) AL)) (aV 5)) (AB (AN 1 DF (AB (aV 0) AL)) AL))) AL))
   (CZ (A1 (AW MZ (AN 2 A4 (AB (aV 0) (AB (aC (.int 6)) AL))) (aC (.int 0)))) (jF 3 (aV 4) (S5 (AW Am (aV 3) (AN 2 A4 (AB (aV 0) (AB (AW BX (aV 4) (aC (.int 1))) AL)))))) BZ))
abbrev FZ:AS:=
 (AY (CZ (A1 (AW aR (aV 1) (aC (.int 4)))) (Aj (Z6 (aV 5) Z7 (Z8 (aC (.int 3)))) (An 5)) BZ)
   Fa)
abbrev Ge:AS:=
 (AY (Aj (AN 1 E1 (AB (aV 0) AL)) (An 5))
   FZ)
abbrev Gh:AS:=
 (AY (EF (NY (AB (aV 1) AL)) (An 4) Ge)
   (Ar (aV 3)))
abbrev Gg:AS:=
 (AY (GY (DI AL) 3)
   Gh)
abbrev Gf:AS:=
 (AY (Aj (AW MZ (AN 2 A4 (AB (aV 0) (AB (aC (.int 6)) AL))) (aC (.int 0))) (An 2))
   Gg)
abbrev Ey:AS:=
 (AY (Aj (AW Am (Ex (DI (AB (AN 2 A4 (AB (aV 0) (AB (aC (.int 5)) AL))) (AB (AW BX (aC (.int 7)) (AN 2 A4 (AB (aV 0) (AB (aC (.int 6)) AL)))) AL)))) (FI aZ (AB (AW MZ (AN 2 A4 (AB (aV 0) (AB (aC (.int 8)) AL))) (aC (.int 0))) AL))) (An 1))
   Gf)
def B6:AF:=Ak 6 Ey
def IF {a:PV}{Q:PV->Prop}(h:Ey ⟨λ_=>Q .non,Q,λ_=>False,λ_=>False⟩ [some (.val a),none,none,none,none,none]):B6 [a] Q:=h
abbrev GM:AS:=
 (Ar (FI ID (AB (Ex (B7 (Ha (aV 0)) 1 [1] (An 0) (A1 (AN 2 CS (AB (aV 0) (AB (aV 1) AL)))) (aV 0))) AL)))
def Be:AF:=Ak 2 GM
def KI {a b:PV}{Q:PV->Prop}(h:GM ⟨λ_=>Q .non,Q,λ_=>False,λ_=>False⟩ [some (.val a),some (.val b)]):Be [a,b] Q:=h
abbrev JZ:AS:=
 (AY (Aj (Ex (B7 (Ha (aV 4)) 1 [1,0] (An 0) Dg (AW pG (AN 2 Be (AB (aV 2) (AB (aV 0) AL))) (aV 1)))) (An 5))
   (Ar (AN 3 BO (AB (aV 4) (AB (aV 5) (AB (Ex (B7 (Ha (AN 1 Bs (AB (aV 4) AL))) 1 [1,0] (An 0) Dg (AW pG (AN 2 Be (AB (aV 2) (AB (aV 0) AL))) (aV 1)))) AL))))))
abbrev JY:AS:=
 (AY (Aj (AN 1 BN (AB (aV 2) AL)) (An 4))
   JZ)
abbrev JX:AS:=
 (AY (EF (Ha (aV 0)) (An 3) (EF (Ha (aV 3)) (JU 3 (Ab (An 6) (Ab (An 7) (Ab (An 8) Bz)))) (Aj (AW BX (aV 2) (Ex (DI (AB (aV 6) (AB (aV 8) AL))))) (An 2))))
   JY)
abbrev Gi:AS:=
 (AY (Aj (Ex (DI AL)) (An 2))
   JX)
def CG:AF:=Ak 9 Gi
def LK {a b:PV}{Q:PV->Prop}(h:Gi ⟨λ_=>Q .non,Q,λ_=>False,λ_=>False⟩ [some (.val a),some (.val b),none,none,none,none,none,none,none]):CG [a,b] Q:=h
abbrev La:AS:=
 (Ar (Ex (B7 (Ha (aV 0)) 1 [1] (An 0) Dg (AN 2 HY (AB (aV 0) (AB (aV 1) AL))))))
def DV:AF:=Ak 2 La
def Pd {a b:PV}{Q:PV->Prop}(h:La ⟨λ_=>Q .non,Q,λ_=>False,λ_=>False⟩ [some (.val a),some (.val b)]):DV [a,b] Q:=h
abbrev Fl:=zy C4×T3
def GZ (f:Fl):PV:= .tup [Ba f.1,DC f.2]
structure DR (f:Fl):Prop where
 p:FF 9 101 f.1
 b:Cn 8 f.2
 n1:0<=f.2.1
 n2:0<=f.2.2.1
 n3:0<=f.2.2.2
def iM {p:C4×C4}{lo hi:T3}{m:Rat}{B:Nat}(h1:FX B p.1)(h2:FX B p.2)(c:Cn 100 lo)(d:Cn 100 hi)(k:la lo hi p m):Bd (6*B+105) m:=by
 rcases k with rfl|rfl|⟨e,f,k⟩
 .exact h1.m.mono (by omega)
 .exact h2.m.mono (by omega)
 .have go:∀u∈E6 lo hi,FD u.1 p.1≠FD u.1 p.2->FD u.1 p.1+(m-p.1.1)/(p.2.1-p.1.1)*(FD u.1 p.2-FD u.1 p.1)=u.2->Bd (6*B+105) m:=λu hu a b=>by
   obtain⟨g,_,_,h⟩:=aO (p:=p) (u:=u) ⟨e,f,a,b⟩;obtain⟨_,i,bs⟩:=hX (B:=B) c d hu;have w:FD u.1 p.2-FD u.1 p.1≠0:=by grind
   rw[h,g];exact(h1.m.add ((Bd.div w (i.sub (bs _ h1)) ((bs _ h2).sub (bs _ h1))).mul (h2.m.sub h1.m))).mono (by omega)
  rcases k with⟨n,k|k⟩|⟨n,k|k⟩|⟨n,k|k⟩
  .exact go (0,lo.1) (by simp[E6]) n k
  .exact go (3,hi.1) (by simp[E6]) n k
  .exact go (1,lo.2.1) (by simp[E6]) n k
  .exact go (4,hi.2.1) (by simp[E6]) n k
  .exact go (2,lo.2.2) (by simp[E6]) n k
  .exact go (5,hi.2.2) (by simp[E6]) n k
noncomputable def og (lo hi:T3)(f:Fl):zy Au:=Classical.epsilon λss=>CY (3*(6*101+205)+1) (fP lo f.2) (e6 hi f.2) (Fq f.1) ss
noncomputable def HM (lo hi:T3)(f:Fl):zy Au:=canon 1 ((og lo hi f).map (Gc f.2.2.2))
section
variable {lo hi:T3}{f:Fl}
def Cn.up {n m:Nat}{t:T3}(h:Cn n t)(k:n<=m):Cn m t:=⟨h.x.mono k,h.y.mono k,h.z.mono k⟩
def Vt (h:DR f)(a:Cn 40 lo):Cn 100 (fP lo f.2):=⟨(a.x.sub h.b.x).mono (by decide),(a.y.sub h.b.x).mono (by decide),(a.z.sub h.b.y).mono (by decide)⟩
def Vh (h:DR f)(a:Cn 40 hi):Cn 100 (e6 hi f.2):=⟨(a.x.add h.b.x).mono (by decide),(a.y.add h.b.x).mono (by decide),(a.z.add h.b.y).mono (by decide)⟩
def Of (h:DR f)(a:Cn 40 lo)(b:Cn 40 hi):CY (3*(6*101+205)+1) (fP lo f.2) (e6 hi f.2) (Fq f.1) (og lo hi f):=
 Classical.epsilon_spec (dB h.p.bd h.p.ris ((Vt h a).up (by decide)) ((Vh h b).up (by decide)))
def lF (h:DR f)(a:Cn 40 lo)(b:Cn 40 hi):∀s∈og lo hi f,BD 711 s:=λs hs=>by have k:=Of h a b;obtain⟨p,hp,o⟩:=k.ok s hs;obtain⟨m1,m2,m3⟩:=FA h.p.ris hp;obtain⟨x,hx,mx⟩:=o.fin;have c:=h.p.bd _ m1;have d:=h.p.bd _ m2;refine⟨iM c d (Vt h a) (Vh h b) o.bmk,o.ok.h,λe he=>⟨(o.ok.e e he).1, ?_⟩⟩;rw[hx] at he;cases he;exact iM c d (Vt h a) (Vh h b) mx
structure Jk (cc:List Au):Prop where
 ok:∀s∈cc,BD 722 s
 fin:∀s∈cc,∃x,s.2.2=some x
 len:cc.length<=16
def gO (h:DR f)(d:Cn 40 lo)(e:Cn 40 hi):Jk (HM lo hi f):=by
 have st:=lF h d e;have k:=Of h d e;have a:∀s∈(og lo hi f).map (Gc f.2.2.2),BD (711+10+1) s:=λs hs=>by obtain⟨t,c,rfl⟩:=AAR.mp hs;exact K8 (C:=10) h.n3 (h.b.z.mono (by decide)) (st t c)
 refine⟨Fn a,Kz a λs hs=> ?_, ?_⟩
 .obtain ⟨t,c,rfl⟩:=AAR.mp hs;obtain⟨x,hx⟩:=k.fin t c;exact⟨x+f.2.2.2,by unfold Gc;rw[hx];rfl⟩
 .have cl:=El (n:=1) (ss:=(og lo hi f).map (Gc f.2.2.2));have g:=k.len;have i:(Fq f.1).length=f.1.length-1:=by unfold Fq;simp
  have:=h.p.few;rw[AAI] at cl;show (canon 1 _).length<=16;omega
def XG {d e:PV}(h:DR f)(a:Cn 40 lo)(c:Cn 40 hi){Q:PV->Prop}(q:Q (.tup ((HM lo hi f).map Aq))):Br [GZ f, .tup [d,DC lo,DC hi,e]] Q:=
 aM (Of h a c) h.p.bd h.p.ris h.p.two (by have:=h.p.few;omega) (a.up (by decide)) (c.up (by decide)) (h.b.up (by decide)) h.n3 (by decide) λ_=>q
def ZR {v w:PV}(h:DR f)(c:Cn 40 lo)(d:Cn 40 hi)(hv:dz f.1 f.2 v)(hw:Wy lo hi w){Q:PV->Prop}(q:Q (.tup ((HM lo hi f).map Aq))):HY [v,w] Q:=by refine dC hv hw h.p.bd h.p.ris h.p.two (by have:=h.p.few;omega) (c.up (by decide)) (d.up (by decide)) (h.b.up (by decide)) h.n3 (by decide) λg a=> ?_;have a:CY (3*(6*101+205)+1) (fP lo f.2) (e6 hi f.2) (Fq f.1) g:=a;have e:=h.b.z.mono (n:=10) (by decide);unfold HM at q;rw[<-N3 (Of h c d).st h.n3 e,<-a.one (Of h c d),N3 a.st h.n3 e] at q;exact q
end
def Jm {v w:PV}{a:zy Fl}{lo hi:T3}(hv:v= .tup (a.map GZ)\/v= .lst (a.map GZ))(hl:a.length<=1000)(h:∀f∈a,DR f)(b:Cn 40 lo)(c:Cn 40 hi)(hw:Wy lo hi w){Q:PV->Prop}(q:Q (.lst ((a.map (HM lo hi)).map λss=> .tup (ss.map Aq)))):DV [v,w] Q:=by
 apply Pd;rcases hv with rfl|rfl;all_goals
  ac_rfl;refine CN GZ (λss=> .tup (ss.map Aq)) (HM lo hi) DR (λf d R e=> ?_) a [] h ?_
  .ac_rfl;exact ZR d b c ⟨_,_,⟨cor, .inl rfl, .inl rfl⟩, .inl rfl, .inl rfl⟩ hw e
  .rw [AAp];ac_rfl;exact q
theorem LU:∀(sets:zy (zy Au)),Jl (sets.map λss=> .tup (ss.map Aq)) sets
 | [] => .nil
 | s::r=> .cons (.inl rfl) (Ft s) (LU r)
def VM {sets:zy (zy Au)}{m:Rat}(h:∀ss∈sets,Jk ss)(hl:sets.length<=100)(bm:Bd 2000 m){Q:PV->Prop}(q:Q (.int (nS sets (m,0)))):Be [.lst (sets.map λss=> .tup (ss.map Aq)),fr m] Q:=by
 apply KI;ac_rfl;refine Ih (λss:zy Au=> .tup (ss.map Aq)) (λss:zy Au=> .tup (ss.map Aq)) (λss=>ss.any (Al · (m,0))) Jk (λss os R N h1 h2=> ?_) sets [] h ?_
 .ac_rfl;refine fJ os.ok os.fin (by have:=os.len;omega) (by decide) bm ?_;ac_rfl;split
  .rename_i k;ac_rfl;exact h1 k
  .rename_i k;exact h2 (by simpa using k)
 .rw [AAp];ac_rfl;exact q
def Xe (sets:zy (zy Au))(x:Rat):nS sets (x,0)<=nS sets (x,1):=by unfold nS;rw[<-AD0,<-AD0];refine List.countP_mono_left λss _ h=> ?_;obtain⟨s,hs,k⟩:=AAo.mp h;exact AAo.mpr ⟨s,hs,am k⟩
def Jv {sets:zy (zy Au)}(h:∀ss∈sets,Jk ss):sets.flatten.length<=16*sets.length:=by
 induction sets with
 | nil=>simp
 | cons a r ih=> have:=ih λs hs=>h s (by simp[hs]);have:=(h a (by simp)).len;simp only[AC6,AAf,AAb];omega
def Y4 {sets:zy (zy Au)}{n:Int}(h:∀ss∈sets,Jk ss)(hl:sets.length<=12)(P:0<n){Q:PV->Prop}(q:Q (.tup ((G4 n sets).map Aq))):CG [.lst (sets.map λss=> .tup (ss.map Aq)), .int n] Q:=by
 have S:=Jv h;have u:∀s∈sets.flatten,BD 722 s:=λs hs=>by obtain⟨ss,a,b⟩:=ABl.mp hs;exact(h ss a).ok s b
 have v:∀s∈sets.flatten,∃x,s.2.2=some x:=λs hs=>by obtain⟨ss,a,b⟩:=ABl.mp hs;exact(h ss a).fin s b
 have w:=Mc u;have T:=Eb (ss:=sets.flatten);apply LK;ac_rfl;refine CO (λss:zy Au=> .tup (ss.map Aq)) (λus vs τ=>∃c d f g j l,τ= [some (.val (.lst (sets.map λss=> .tup (ss.map Aq)))),some (.val (.int n)),some (.val (.lst ((Ai us.flatten).map fr))),c,d,f,g,j,l]) ?_ ?_ ⟨_,_,_,_,_,_,rfl⟩
 .rintro τ ⟨c,d,f,g,j,l,rfl⟩;ac_rfl;refine LI (B:=722) (by omega) w (by decide) ?_;have U:=DL (xs:=Ai sets.flatten);have D:=Bj (xs:=Ai sets.flatten);have y:∀x∈A9 (Ai sets.flatten),Bd 722 x:=λx hx=>w x (Ax.mp hx);have J:=RG y;have K:=N5 (A9 (Ai sets.flatten));have E:∀m,Bd 2000 m->∀{R:PV->Prop},R (.int (nS sets (m,0)))->Be [.lst (sets.map λss=> .tup (ss.map Aq)),fr m] R:=λm bm {R} k=>VM h (by omega) bm k;have o:∀s∈sets.flatten,s.1∈A9 (Ai sets.flatten)/\∀e,s.2.2=some e->e∈A9 (Ai sets.flatten):=λs hs=>⟨Ax.mpr (AAj.mpr ⟨s,hs,by simp⟩),λe he=>Ax.mpr (AAj.mpr ⟨s,hs,by simp[he]⟩)⟩;have L:=cj (qs:=A9 (Ai sets.flatten)) (In:=λp=>decide (n<=(nS sets p:Int))) (Q:=Q) (λx _ k=>by
   have:=Xe sets x;simp only[ABW] at k ⊢;omega) (λus x M vs e=>by
   obtain⟨N,F⟩:=YA (e ▸ D);have:nS sets ((x+M)*(1/2:Rat),0)=nS sets (x,1):=by unfold nS;rw[List.filter_congr λss A=>Pw λs hs=> ?_];have r:=ABl.mpr ⟨ss,A,hs⟩;exact XQ (u s r) N (F _ (by rw[e];exact(o s r).1)) λz hz=>F _ (by rw[e];exact(o s r).2 z hz)
   simp only[this]) (λus x e=>by
   have key:∀i:Int,nS sets (x,i)=0:=λi=>by unfold nS;rw[ABm,AD1];intro ss A;rw[AC5,AB3];intro s hs;have r:=ABl.mpr ⟨ss,A,hs⟩;obtain⟨ev,he⟩:=v s r;have h1:=(o s r).2 ev he;rw[<-e] at h1;have h2:=Oe (e ▸ D) ev h1;simp only[Al,he];simp[h2]
   simp only[key];simp;omega) (by omega) q
  generalize A9 (Ai sets.flatten)=qs at *;ac_rfl;refine CN fr PV.bl (λm=>decide (n<=(nS sets (m,0):Int))) (Bd 722) (λm bm R2 k=> ?_) qs [] y ?_
  .ac_rfl;refine E m (bm.mono (by decide)) ?_;ac_rfl;exact k
  rw[AAp];ac_rfl;refine K9 (by omega) (λx hx=>(y x hx).mono (by decide)) ?_;ac_rfl;refine CN fr PV.bl (λm=>decide (n<=(nS sets (m,0):Int))) (Bd (2*722+4)) (λm bm R2 k=> ?_) (J6 qs) [] J ?_
  .ac_rfl;refine E m (bm.mono (by decide)) ?_;ac_rfl;exact k
  rw[AAp];ac_rfl;rw[AAd,AAd];exact L
 .rintro us ss vs e τ R G ⟨c,d,f,g,j,l,rfl⟩;have O:ss∈sets:=by rw[<-e];simp
  have os:=h ss O;ac_rfl;refine CO Aq (λt xs τ=>∃c d f g j l,τ= [some (.val (.lst (sets.map λss=> .tup (ss.map Aq)))),some (.val (.int n)),some (.val (.lst ((Ai (us.flatten++t)).map fr))),c,d,f,g,j,l]) ?_ ?_ ⟨_,_,_,_,_,_,by rw[ABP]⟩
  .rintro τ ⟨c,d,f,g,j,l,rfl⟩;exact G _ ⟨c,d,f,g,j,l,by simp⟩
  .rintro t s xs H τ R2 I ⟨c,d,f,g,j,l,rfl⟩;obtain⟨x,hx⟩:=os.fin s (by rw[<-H];simp);have len:(Ai (us.flatten++t)).length<=1000:=by
    have a:=Eb (ss:=us.flatten++t);have b:(us.flatten++t).length<=sets.flatten.length:=by rw[<-e,<-H];simp only[List.flatten_append,AC6,AAf];omega
    omega
   have C:∀c d f g j l,R2 [some (.val (.lst (sets.map λss=> .tup (ss.map Aq)))),some (.val (.int n)),some (.val (.lst ((Ai (us.flatten++t)).map fr ++ [fr s.1,fr x]))),c,d,f,g,j,l] :=λc d f g j l=>I _ ⟨c,d,f,g,j,l,by
    rw[<-ADg,Y5 _ [s],AAO,show Ai [s] = [s.1,x] by unfold Ai;simp[hx]];rfl⟩
   clear G I;rw[show Aq s= .tup [fr s.1, .int s.2.1,fr x] by unfold Aq;rw[hx];rfl];ac_rfl;exact C _ _ _ _ _ _
def kZ {qs:zy Rat}{In:Pl->zq}(last:∀us x,us ++ [x] =qs->In (x,0)=false/\In (x,1)=false):Dd ((places qs).map λp=>(p,In p))=(Bw (qs.map λx=>((x,In (x,0),In (x,1)):Tr))).1:=by
 have ep:((places qs).map λp=>(p,In p))=(qs.map λx=>((x,In (x,0),In (x,1)):Tr)).flatMap ic:=by unfold places;rw[List.map_flatMap,List.flatMap_map];rfl
 have f0:(Bw (qs.map λx=>((x,In (x,0),In (x,1)):Tr))).2=none:=by
  by_cases a:qs= []
  .rw [a];rfl
  .obtain ⟨us,x,rfl⟩:∃us x,qs=us ++ [x] :=⟨qs.dropLast,qs.getLast a,(ABn a).symm⟩;obtain⟨f0,f1⟩:=last us x rfl;rw[AAO,AAK,ABS,Em,f0,f1];generalize Bw _=st;obtain⟨A,b⟩:=st;cases b <;> rfl
 rw[ep];unfold Dd PF;show (match (Bw _).2 with | none=>(Bw _).1|some b=>(Bw _).1 ++ [(b.1,1-b.2,none)])=_;rw[f0]
def fR {sets:zy (zy Au)}(h:∀ss∈sets,Jk ss):∀us x,us ++ [x] =A9 (Ai sets.flatten)->∀i:Int,nS sets (x,i)=0:=λus x e i=>by unfold nS;rw[ABm,AD1];intro ss a;rw[AC5,AB3];intro s hs;have b:=ABl.mpr ⟨ss,a,hs⟩;obtain⟨ev,he⟩:=(h ss a).fin s hs;have h1:ev∈A9 (Ai sets.flatten):=Ax.mpr (AAj.mpr ⟨s,b,by simp[he]⟩);rw[<-e] at h1;have h2:=Oe (e ▸ Bj (xs:=Ai sets.flatten)) ev h1;simp only[Al,he];simp[h2]
def aN {sets:zy (zy Au)}{n:Int}(h:∀ss∈sets,Jk ss)(m:0<n):∀r∈G4 n sets,Bd 722 r.1/\(r.2.1=0\/r.2.1=1)/\∃e,r.2.2=some e/\Bd 722 e:=by
 have f:∀s∈sets.flatten,BD 722 s:=λs hs=>by obtain⟨ss,a,b⟩:=ABl.mp hs;exact(h ss a).ok s b
 have d:=Mc f;have e:G4 n sets=_:=kZ (qs:=A9 (Ai sets.flatten)) (In:=λp=>decide (n<=(nS sets p:Int))) λus x e=>by simp only[fR h us x e];simp;omega
 rw[e];intro r g;have j:=(Nn _ ((A9 (Ai sets.flatten)).map λx=>((x,decide (n<=(nS sets (x,0):Int)),decide (n<=(nS sets (x,1):Int))):Tr)) rfl).1 r g;have i:((A9 (Ai sets.flatten)).map λx=>((x,decide (n<=(nS sets (x,0):Int)),decide (n<=(nS sets (x,1):Int))):Tr)).map (·.1)=A9 (Ai sets.flatten):=by rw[AAd];exact List.map_id' _
 obtain⟨a,e,b,c⟩:=(Nm _ _ rfl (by rw[i];exact Bj) (λt l k=>by
  obtain⟨x,_,rfl⟩:=AAR.mp l;have k:decide (n<=(nS sets (x,0):Int))=true:=k;show decide (n<=(nS sets (x,1):Int))=true;have:=Xe sets x;rw[ABW] at k ⊢;omega)).1 r g
 rw[i] at a c;exact⟨d _ (Ax.mp a),j,e,b,d _ (Ax.mp c)⟩
def cu {sets:zy (zy Au)}{n:Int}(h:∀ss∈sets,Jk ss)(hl:sets.length<=12)(a:0<n):Sh 3 4992771 (.tup ((G4 n sets).map Aq))/\∀r∈G4 n sets,Sh 2 13000 (Aq r):=by
 have key:∀r∈G4 n sets,Sh 2 13000 (Aq r):=λr c=>by obtain⟨b,k,e,he,f⟩:=aN h a r c;exact(lA (b.mono (by decide)) k ⟨e,he,f.mono (by decide)⟩).1
 have:=eI (n:=n) (sets:=sets);have:=Jv h;refine⟨(Sh.tup (d:=2) (n:=13000) λx hx=> ?_).mono (by decide) (by rw[AAI];omega),key⟩;obtain⟨s,hs,rfl⟩:=AAR.mp hx;exact key s hs
def QA {cs:zy C4}(p:FF 9 40 cs):FF 9 101 (laterC (10^18) cs):=by
 have bk:Bd 60 ((10:Rat)^18):=⟨by decide +kernel,by decide +kernel⟩;have l:(laterC (10^18) cs).length=cs.length:=by unfold laterC;rw[AAI]
 refine⟨by rw[l];exact p.two,by rw[l];exact p.few,FX.laterC p.bd bk, ?_⟩;unfold Lj laterC;rw[List.pairwise_map];exact p.ris.imp λh=>by dsimp only;grind
def j0 (f:Fl):Xg (GZ f)=true:=by show Tw [Ba f.1,DC f.2] =true;rw[Tw,Ba,Xg,Tx (λ_=>rfl) f.1];rfl
def Xf {c:zy Fl}{f:Fl}{i:Nat}{x y:zt AV}{d e:zt AV}{R:A6->Prop}(l:c.length=i)(h:∀f∈c,DR f)(k:DR f)(j:∀a:zy Fl,a.length=i+1->(∀f∈a,DR f)->∀e d,R [some (.val .tape),x,y,some (.own (a.map GZ)),e,d]):R [some (.val .tape),x,y,some (.own (c.map GZ ++ [.tup [Ba f.1,DC f.2]])),e,d] :=by
 have:=j (c ++ [f]) (by simp[l]) (λg b=>by
  rcases AAN.mp b with b|b
  .exact h g b
  .rw [AAV.mp b];exact k) e d
 rw[AAO] at this;exact this
def Xq {a:zy Fl}{f:Fl}{i:Nat}{k:Int}{x y:zt AV}{c:zt AV}{R:A6->Prop}(l:a.length=i)(h:∀f∈a,DR f)(r:DR f)(w:0<=k)(z:k<i+1)(m:∀b:zy Fl,b.length=i+1->(∀f∈b,DR f)->∀s c,R [some (.val .tape),x,y,some (.own (b.map GZ)),s,c]):Am (.lst (a.map GZ ++ [.tup [Ba f.1,DC f.2]])) (.int k) λv=>Xg v=true/\MH 3 [some (.val .tape),x,y,some (.own (a.map GZ ++ [.tup [Ba f.1,DC f.2]])),some (.val (.int (0+(i:Int)))),c] λxs=>aV 4 [some (.val .tape),x,y,some (.own (a.map GZ ++ [.tup [Ba f.1,DC f.2]])),some (.val (.int (0+(i:Int)))),c] λk=>V6 k λk=>ni (Vp xs.length k) λj=>WO [some (.val .tape),x,y,some (.own (a.map GZ ++ [.tup [Ba f.1,DC f.2]])),some (.val (.int (0+(i:Int)))),c] 3 (AV.own (xs.set j v)) R:=by
 have e:a.map GZ ++ [.tup [Ba f.1,DC f.2]] =(a ++ [f]).map GZ:=by rw[AAO];rfl
 rw[e];have n:∀g∈a ++ [f],DR g:=λg d=>by
  rcases AAN.mp d with d|d
  .exact h g d
  .rw [AAV.mp d];exact r
 have o:(a ++ [f]).length=i+1:=by simp[l]
 generalize a ++ [f] =gs at *;have hk:k.toNat<gs.length:=by omega
 have t:gs[k.toNat]? =some gs[k.toNat] :=AAT hk;have u:gs[k.toNat] ∈gs:=ABU hk;generalize gs[k.toNat] =g at *;show di (JV (gs.map GZ) k) _;rw[show JV (gs.map GZ) k=some (GZ g) from by
  have:=Cj (xs:=gs.map GZ) (j:=k.toNat) (v:=GZ g) (by rw[AAm,t];rfl);rw[show ((k.toNat:Nat):Int)=k by omega] at this;exact this]
 have p:=m (gs.set i g) (by rw[List.length_set];exact o) (λq hq=>by
  rcases List.mem_or_eq_of_mem_set hq with hq|hq
  .exact n q hq
  .rw [hq];exact n g u) (some (.val (.int (0+(i:Int))))) c
 rw[List.map_set] at p;refine⟨j0 g, ?_⟩;show ni (Vp (gs.map GZ).length (0+(i:Int))) _;rw[show Vp (gs.map GZ).length (0+(i:Int))=some i from by
  unfold Vp;rw[AAI,o];simp;omega]
 exact p
def Qu {Q:PV->Prop}(q:∀m:zy Fl,m.length<=12->(∀f∈m,DR f)->Q (.lst (m.map GZ))):B6 [.tape] Q:=by
 apply IF;ac_rfl;rename_i a E F b G H c c0 I;obtain⟨n,J,p,z⟩:∃n:Int,0<=n/\n<=12/\∀{R:PV->Prop},R (.int n)->Am (PV.lst [PV.int a,PV.int (7+b)]) (PV.int (if decide (c=0)=true then 1 else 0)) R:=by
  by_cases h:c=0
  .exact ⟨7+b,by omega,by omega,λk=>by rw[AAk h,AAE rfl];exact k⟩
  .exact ⟨a,by omega,by omega,λk=>by rw[AAZ h,AAD (by decide)];exact k⟩
 refine z ?_;clear z;ac_rfl;rename_i d K L;refine XI (λi τ=>∃m r s,m.length=i/\(∀f∈m,DR f)/\τ= [some (.val .tape),some (.val (.int n)),some (.val (.bl (decide (d=0)))),some (.own (m.map GZ)),r,s]) ?_ ?_ ⟨[],_,_,rfl,by simp,rfl⟩
 .rintro τ ⟨m,r,s,l,h,rfl⟩;ac_rfl;exact q m (by omega) h
 .rintro i hi τ R A ⟨m,r,s,l,h,rfl⟩;ac_rfl;refine NO λcs x=> ?_;have o:FF 9 40 cs:=x.ok (by decide) (by decide);have e:∀g:zy Fl,g.length=i+1->(∀f∈g,DR f)->∀r s,R [some (.val .tape),some (.val (.int n)),some (.val (.bl (decide (d=0)))),some (.own (g.map GZ)),r,s] :=λg C h' r s=>A _ ⟨g,r,s,C,h',rfl⟩;clear A;ac_rfl
  .refine SH ?_;rw[qQ];have t:=jO o;generalize cs.take 3=cs at *;ac_rfl
   .have D:=t.few;refine aT (B:=40) (by omega) t.bd (by decide) ?_;ac_rfl;have y:=QA t;clear o x;generalize laterC (10^18) cs=cs at *;refine Fz λb u p v w=> ?_;have j:DR (cs,b):=⟨y,u,p,v,w⟩;ac_rfl
    .exact Xq (f:=(cs,b)) l h j (by omega) (by omega) e
    .exact Xf (f:=(cs,b)) l h j e
   .refine Fz λb u p v w=> ?_;have j:DR (cs,b):=⟨⟨t.two,t.few,λc hc=>(t.bd c hc).mono (by decide),t.ris⟩,u,p,v,w⟩;ac_rfl
    .exact Xq (f:=(cs,b)) l h j (by omega) (by omega) e
    .exact Xf (f:=(cs,b)) l h j e
  .have D:=o.few;refine aT (B:=40) (by omega) o.bd (by decide) ?_;ac_rfl;have y:=QA o;clear o x;generalize laterC (10^18) cs=cs at *;refine Fz λb u p v w=> ?_;have j:DR (cs,b):=⟨y,u,p,v,w⟩;ac_rfl
   .exact Xq (f:=(cs,b)) l h j (by omega) (by omega) e
   .exact Xf (f:=(cs,b)) l h j e
  .refine Fz λb u p v w=> ?_;have j:DR (cs,b):=⟨⟨o.two,o.few,λc hc=>(o.bd c hc).mono (by decide),o.ris⟩,u,p,v,w⟩;ac_rfl
   .exact Xq (f:=(cs,b)) l h j (by omega) (by omega) e
   .exact Xf (f:=(cs,b)) l h j e
end PL
namespace PL.K40
open PySem L2 PL PyProof.Rows
def oX {t:T3}(h:Cn 40 t):Sh 2 13000 (DC t)/\Sh 2 13000 (.lst [fr t.1,fr t.2.1,fr t.2.2]):=by have a:=Sh.fr (h.x.mono (n:=1900) (by decide));have b:=Sh.fr (h.y.mono (n:=1900) (by decide));have c:=Sh.fr (h.z.mono (n:=1900) (by decide));exact⟨(Sh.tup (Y6 a b c)).mono (by decide) lz,(Sh.lst (Y6 a b c)).mono (by decide) lz⟩
def oV {cs:zy C4}(p:FF 9 101 cs):Sh 3 160000 (Ba cs)/\Sh 3 160000 (.lst (cs.map corL)):=by
 have a:=p.few;constructor
 .refine (Sh.tup (d:=2) (n:=17000) λx hx=> ?_).mono (by decide) (by rw[AAI];omega);obtain⟨c,hc,rfl⟩:=AAR.mp hx;exact .cor ((p.bd c hc).mono (by decide))
 .refine (Sh.lst (d:=2) (n:=17000) λx hx=> ?_).mono (by decide) (by rw[AAI];omega);obtain⟨c,hc,rfl⟩:=AAR.mp hx;exact .corL ((p.bd c hc).mono (by decide))
end PL.K40
namespace PL.K42
open PySem L2 PL PyProof.Rows PL.K31 PL.K40
abbrev Zm:AS:=
 (Ar (AN 2 EW (AB (AN 2 DV (AB (aV 0) (AB (aV 1) AL))) (AB (AW Am (aV 1) (aC (.int 3))) AL))))
def Kr:AF:=Ak 2 Zm
def cX {a b:PV}{Q:PV->Prop}(h:Zm ⟨λ_=>Q .non,Q,λ_=>False,λ_=>False⟩ [some (.val a),some (.val b)]):Kr [a,b] Q:=h
abbrev Lb:AS:=
 (Ar (AN 2 EW (AB (AN 2 DV (AB (aV 0) (AB (aV 1) AL))) (AB (AW BX (AW Am (aV 1) (aC (.int 3))) (aC (.int 1))) AL))))
def EA:AF:=Ak 2 Lb
def Pe {a b:PV}{Q:PV->Prop}(h:Lb ⟨λ_=>Q .non,Q,λ_=>False,λ_=>False⟩ [some (.val a),some (.val b)]):EA [a,b] Q:=h
abbrev MC:AS:=
 (AY (Aj (AN 2 CG (AB (aV 5) (AB (aV 13) AL))) (An 9))
   (CZ (S7 (Pu (A1 (AN 2 Di (AB (aV 8) (AB (Ex (DI (AB (aV 9) (AB (AN 2 CG (AB (aV 5) (AB (AW BX (aV 13) (aC (.int 1))) AL))) (AB (aV 9) AL))))) AL))))) (A1 (AW Ym (FI Np (AB (aV 6) AL)) (aV 7)))) (Ar (aC (.bl false))) BZ))
abbrev MB:AS:=
 (AY (Aj (Ex (DI (AB (AN 2 Kr (AB (aV 6) (AB (aV 4) AL))) (AB (AN 2 EA (AB (aV 6) (AB (aV 4) AL))) (AB (AN 2 Kr (AB (aV 6) (AB (aV 4) AL))) AL))))) (An 8))
   MC)
abbrev MA:AS:=
 (AY (Aj (FI Np (AB (aV 6) AL)) (An 7))
   MB)
abbrev GQ:AS:=
 (AY (Aj (AW Am (Ex (DI (AB (aV 3) (AB (FI DS (AB (aV 3) AL)) AL)))) (AN 2 A4 (AB (aV 2) (AB (aC (.int 2)) AL)))) (An 6))
   MA)
abbrev L9:AS:=
 (AY (Aj (Ex (B7 (Ha (aV 3)) 1 [4] (An 0) Dg (AN 2 Br (AB (aV 0) (AB (aV 1) AL))))) (An 5))
   GQ)
abbrev L8:AS:=
 (AY (Aj (BL (AB (aV 10) (AB (aV 11) (AB (aV 12) (AB (aV 13) AL))))) (An 4))
   L9)
abbrev L7:AS:=
 (AY (CZ (A1 (AW MZ (AN 2 A4 (AB (aV 2) (AB (aC (.int 3)) AL))) (aC (.int 0)))) (Aj (FI (hZ max) (AB (aC (.int 1)) (AB (FI ID (AB (aV 3) AL)) AL))) (An 13)) BZ)
   L8)
abbrev L6:AS:=
 (AY (Aj (AN 1 CT (AB (aV 2) AL)) (JU 4 (Ab (An 10) (Ab (An 11) (Ab (An 12) (Ab (An 13) Bz))))))
   L7)
abbrev L5:AS:=
 (AY (Aj (AN 1 B6 (AB (aV 2) AL)) (An 3))
   L6)
abbrev Qf:AS:=
 (AY (Aj (AN 2 NS (AB (aV 0) (AB (aV 1) AL))) (An 2))
   L5)
abbrev Pn:AS:=
 (AY (EF (NY (AB (AW BX (aC (.int 1)) (FI (hZ min) (AB (aC (.int 4)) (AB (FI ID (AB (aV 0) AL)) AL)))) AL)) (An 1) Qf)
   (Ar (aC (.bl true))))
def EV:AF:=Ak 14 Pn
def UW {a:PV}{Q:PV->Prop}(h:Pn ⟨λ_=>Q .non,Q,λ_=>False,λ_=>False⟩ [some (.val a),none,none,none,none,none,none,none,none,none,none,none,none,none]):EV [a] Q:=h
section
variable {v w nm:PV}{mo:Int}{fs:zy Fl}{lo hi:T3}
def OX (h:∀f∈fs,DR f)(a:Cn 40 lo)(b:Cn 40 hi):∀ss∈fs.map (HM lo hi),Jk ss:=λss hs=>by obtain⟨f,c,rfl⟩:=AAR.mp hs;exact gO (h f c) a b
def XM (hv:v= .tup (fs.map GZ)\/v= .lst (fs.map GZ))(hl:fs.length<=12)(h:∀f∈fs,DR f)(a:Cn 40 lo)(b:Cn 40 hi)(e:1<=mo){Q:PV->Prop}(q:Q (.tup ((G4 mo (fs.map (HM lo hi))).map Aq))):Kr [v, .tup [nm,DC lo,DC hi, .int mo]] Q:=by have c:=OX h a b;have d:=Jv c;rw[AAI] at d;apply cX;ac_rfl;refine Jm hv (by omega) h a b ⟨_,_,_,_, .inl rfl, .inl rfl, .inl rfl⟩ ?_;ac_rfl;exact Xd (.inr rfl) (LU _) (λss hs=>(c ss hs).ok) (by omega) (by decide) (by omega) q
def fb (hv:v= .tup (fs.map GZ)\/v= .lst (fs.map GZ))(hl:fs.length<=12)(h:∀f∈fs,DR f)(a:Cn 40 lo)(b:Cn 40 hi)(e:1<=mo){Q:PV->Prop}(q:Q (.tup ((G4 (mo+1) (fs.map (HM lo hi))).map Aq))):EA [v, .tup [nm,DC lo,DC hi, .int mo]] Q:=by have c:=OX h a b;have d:=Jv c;rw[AAI] at d;apply Pe;ac_rfl;refine Jm hv (by omega) h a b ⟨_,_,_,_, .inl rfl, .inl rfl, .inl rfl⟩ ?_;ac_rfl;exact Xd (.inr rfl) (LU _) (λss hs=>(c ss hs).ok) (by omega) (by decide) (by omega) q
end
def oW {f:Fl}(h:DR f):Sh 4 400000 (GZ f):=by obtain⟨a,d⟩:=oV h.p;obtain⟨c,e⟩:=oX (h.b.up (m:=40) (by decide));exact(Sh.tup (nX a (c.mono (by decide) (by decide)))).mono (by decide) (by simp)
def k9 {a:zy Fl}{v:PV}(hv:v= .tup (a.map GZ)\/v= .lst (a.map GZ))(hl:a.length<=12)(h:∀f∈a,DR f):O6 v/\J3 v=true:=by
 have key:∀x∈a.map GZ,Sh 4 400000 x:=λx hx=>by obtain⟨f,b,rfl⟩:=AAR.mp hx;exact oW (h f b)
 rcases hv with rfl|rfl
 .exact ⟨(Sh.tup key).go (by decide) (by rw[AAI];omega),rfl⟩
 .exact ⟨(Sh.lst key).go (by decide) (by rw[AAI];omega),rfl⟩
def Xy {u:zy Int}{i w:PV}{b:Int}{a:zy Fl}{lo hi:T3}{R bk:A6->Prop}{g j k l:zt AV}(hl:a.length<=12)(h:∀f∈a,DR f)(d:Cn 40 lo)(e:Cn 40 hi)(m1:1<=b)(again:∀z A B C D g j k l m o p r,R [some (.val (.scr u)),z,A,B,C,D,g,j,k,l,m,o,p,r]):GQ {nx:=R,rt:=λx=>x= .bl true,bk:=bk,ct:=R} [some (.val (.scr u)),some (.val i),some (.val .tape),some (.val (.lst (a.map GZ))),some (.val (.tup [w,DC lo,DC hi, .int b])),some (.val (.lst ((a.map (HM lo hi)).map λss=> .tup (ss.map Aq)))),g,j,k,l,some (.val w),some (.val (DC lo)),some (.val (DC hi)),some (.val (.int b))] :=by
 have s:=OX h d e;have t:(a.map (HM lo hi)).length<=12:=by rw[AAI];exact hl
 ac_rfl;refine bF (by omega) (by show _<(2:Int);omega) λv hv=> ?_;have hv:v= .tup (a.map GZ)\/v= .lst (a.map GZ):=by simp only[AAF,AAg,AAe] at hv;exact hv.symm
 obtain⟨sv,G⟩:=k9 hv hl h;have y:=cu s t (n:=b) (by omega);have E:=cu s t (n:=b+1) (by omega);have sc:O6 (.lst [.tup ((G4 b (a.map (HM lo hi))).map Aq), .tup ((G4 (b+1) (a.map (HM lo hi))).map Aq), .tup ((G4 b (a.map (HM lo hi))).map Aq)]):=(Sh.lst (Y6 y.1 E.1 y.1)).go (by decide) (by simp);have c:=λ{n:Int} (F:0<n) {Q:PV->Prop} (q:Q (.tup ((G4 n (a.map (HM lo hi))).map Aq)))=>Y4 s t F q;ac_rfl;refine XM hv hl h d e m1 ?_;ac_rfl;refine fb hv hl h d e m1 ?_;ac_rfl;refine XM hv hl h d e m1 ?_;ac_rfl;refine c (by omega) ?_;ac_rfl;refine c (by omega) ?_;ac_rfl;refine cY sc rfl ?_;ac_rfl;exact again _ _ _ _ _ _ _ _ _ _ _ _ _
def bJ (s:zy Int)(y:s.length<=63):EV [.scr s] λx=>x= .bl true:=by
 apply UW;repeat' array_get_dec
 refine XI (λi τ=>∃e g j k l m n o p a b c d,τ= [some (.val (.scr s)),e,g,j,k,l,m,n,o,p,a,b,c,d]) ?_ ?_ ⟨_,_,_,_,_,_,_,_,_,_,_,_,_,rfl⟩
 .rintro τ ⟨e,g,j,k,l,m,n,o,p,a,b,c,d,rfl⟩;repeat' array_get_dec
 .rintro i hi τ R r ⟨e,g,j,k,l,m,n,o,p,a,b,c,d,rfl⟩;have again:∀e g j k l m n o p a b c d,R [some (.val (.scr s)),e,g,j,k,l,m,n,o,p,a,b,c,d] :=λe g j k l m n o p a b c d=>r _ ⟨e,g,j,k,l,m,n,o,p,a,b,c,d,rfl⟩;clear r;ac_rfl;refine Qu λw hl h=> ?_;ac_rfl;refine gK λz lo hi A B t u m1 m2=> ?_;ac_rfl
  .refine CN GZ (λss=> .tup (ss.map Aq)) (HM lo hi) DR (λf v R r=> ?_) w [] h ?_
   .ac_rfl;exact XG v t u r
   .rw [AAp];exact Xy hl h t u (by omega) again
  .refine CN GZ (λss=> .tup (ss.map Aq)) (HM lo hi) DR (λf v R r=> ?_) w [] h ?_
   .ac_rfl;exact XG v t u r
   .rw [AAp];exact Xy hl h t u (by omega) again
end PL.K42
section
namespace K42
open PySem L2 PL PL.K42 PL.K31 PL.K40 PyProof.Rows
def DA {N Q:zy Str}{s:Scope}(a:s.kind= .function:=by rfl)(b:s.isCoroutine=false:=by rfl)(c:s.isGenerator=false:=by rfl)(d:N.Nodup:=by decide +kernel)(e:N.take Q.length=Q:=by rfl)(f:∀x∈Q,s.names.lookup x=some .local\/s.names.lookup x=some .cell:=by decide +kernel)(g:∀y∈s.names,y.2≠ .free:=by decide +kernel):EN N Q s:=⟨a,b,c,d,e,f,g⟩
section
variable (P:zp)(w:zm)(K:AAB)(Z:Str->zt zx)(Y:zl)(n:Nat)
abbrev Cw:=Has P w K Z Y n "_law_draw" ["_law_tape_here","_law_many_here"] (Cc K 2 A4)
abbrev PK:=Has P w K Z Y n "_law_bounds" ["_law_tape_here"] (Cc K 1 DF)
abbrev DZ:=Has P w K Z Y n "_law_part" ["_law_top","_law_bottom"] (Cc K 2 Az)
abbrev Cy:=Has P w K Z Y n "_law_sum" ["_law_one","_law_other"] (Cc K 2 BP)
abbrev VX:=Has P w K Z Y n "_law_far" ["_law_plan_here"] (Cc K 1 Ed)
abbrev Jw:=Has P w K Z Y n "_law_place" ["_law_tape_here"] (Cc K 1 BC)
abbrev Lm:=Has P w K Z Y n "_law_span" ["_law_tape_here"] (Cc K 1 Cu)
abbrev TR:=Has P w K Z Y n "_law_plan" ["_law_tape_here"] (Cc K 1 E1)
abbrev Nt:=Has P w K Z Y n "_law_flights" ["_law_tape_here"] (Cc K 1 B6)
abbrev DY:=Has P w K Z Y n "_law_less" ["_law_one","_law_other"] (Cc K 2 A0)
abbrev Q4:=Has P w K Z Y n "_law_is_in" ["_law_stretches","_law_m"] (Cc K 2 CS)
abbrev Q3:=Has P w K Z Y n "_law_count" ["_law_sets","_law_m"] (Cc K 2 Be)
abbrev Ep:=Has P w K Z Y n "_law_product" ["_law_one","_law_other"] (Cc K 2 Bt)
abbrev En:=Has P w K Z Y n "_law_middles" ["_law_marks_here"] (Cc K 1 Bs)
abbrev FM:=Has P w K Z Y n "_law_rising" ["_law_some"] (Cc K 1 BN)
abbrev Ij:=Has P w K Z Y n "_law_set" ["_law_marks_here","_law_here","_law_gaps"] (Cc K 3 BO)
abbrev TQ:=Has P w K Z Y n "_law_many" ["_law_sets","_law_many_here"] (Cc K 2 CG)
abbrev Eo:=Has P w K Z Y n "_law_off" ["_law_one","_law_other"] (Cc K 2 BW)
abbrev TU:=Has P w K Z Y n "_law_room" ["_law_tape_here"] (Cc K 1 CT)
abbrev TV:=Has P w K Z Y n "_law_same" ["_law_found","_law_due"] (Cc K 2 Di)
abbrev VW:=Has P w K Z Y n "_law_box" ["_law_flight","_law_room_here"] (Cc K 2 Ec)
abbrev PM:=Has P w K Z Y n "_law_may_be" ["_law_own_here","_law_late","_law_m"] (Cc K 3 CB)
abbrev Jx:=Has P w K Z Y n "_law_ratio" ["_law_one","_law_other"] (Cc K 2 C5)
abbrev TW:=Has P w K Z Y n "_law_spot" ["_law_plan_here","_law_m"] (Cc K 2 E2)
abbrev K3:=Has P w K Z Y n "_law_is_inside" ["_law_plan_here","_law_low","_law_high","_law_m"] (Cc K 4 BV)
abbrev Q5:=Has P w K Z Y n "_law_marks" ["_law_plan_here","_law_low","_law_high"] (Cc K 3 CH)
abbrev VY:=Has P w K Z Y n "_law_own" ["_law_plan_here","_law_low","_law_high"] (Cc K 3 Ee)
abbrev K4:=Has P w K Z Y n "_law_stays_due" ["_law_flight","_law_room_here"] (Cc K 2 Br)
abbrev TX:=Has P w K Z Y n "_law_tape" ["_law_script","_law_k"] (Cc K 2 NS)
abbrev TZ:=Has P w K Z Y n "common" ["one","other"] (Cc K 2 Gy)
abbrev Nu:=Has P w K Z Y n "part" ["top","bottom"] (Cc K 2 Fw)
abbrev ah:=Has P w K Z Y n "plus" ["one","other"] (Cc K 2 Ku)
abbrev TY:=Has P w K Z Y n "before" ["one","other"] (Cc K 2 A0)
abbrev PN:=Has P w K Z Y n "count_below" ["numbers","number"] (Cc K 2 DH)
abbrev aj:=Has P w K Z Y n "rising" ["numbers"] (Cc K 1 G0)
abbrev Vf:=Has P w K Z Y n "steps_of" ["stretches"] (Cc K 1 HZ)
abbrev af:=Has P w K Z Y n "levels" ["stretches"] (Cc K 1 Gz)
abbrev QD:=Has P w K Z Y n "counted" ["stretches","n"] (Cc K 2 Dw)
abbrev Nw:=Has P w K Z Y n "told_set" ["stretches"] (Cc K 1 Dz)
abbrev Vb:=Has P w K Z Y n "later_by" ["stretches","by"] (Cc K 2 Eg)
abbrev ak:=Has P w K Z Y n "summed" ["one","many","other","more"] (Cc K 4 G1)
abbrev Yp:=Has P w K Z Y n "crossed" ["low","high","at"] (Cc K 3 Fh)
abbrev Va:=Has P w K Z Y n "is_never" ["plane"] (Cc K 1 Dx)
abbrev QF:=Has P w K Z Y n "turn_of" ["plane","at"] (Cc K 2 DW)
abbrev Q6:=Has P w K Z Y n "is_tighter" ["plane","other","at"] (Cc K 3 Dj)
abbrev Nv:=Has P w K Z Y n "tightest" ["planes","at","sign"] (Cc K 3 Cv)
abbrev VZ:=Has P w K Z Y n "fault_in" ["planes","at"] (Cc K 2 Ef)
abbrev Q7:=Has P w K Z Y n "minus" ["one","other"] (Cc K 2 D8)
abbrev jY:=Has P w K Z Y n "over" ["one","other"] (Cc K 2 NR)
abbrev eY:=Has P w K Z Y n "times" ["one","other"] (Cc K 2 Jj)
abbrev ML:=Has P w K Z Y n "piece_between" ["former","latter"] (Cc K 2 B3)
abbrev Td:=Has P w K Z Y n "pieces_of" ["plan"] (Cc K 1 EC)
abbrev Vc:=Has P w K Z Y n "negative" ["number"] (Cc K 1 Dy)
abbrev MM:=Has P w K Z Y n "shared_bottom" ["numbers"] (Cc K 1 CV)
abbrev Vd:=Has P w K Z Y n "plane_of" ["form","strict","number"] (Cc K 3 CM)
abbrev Te:=Has P w K Z Y n "planes_in" ["piece","walls"] (Cc K 2 ED)
abbrev Ve:=Has P w K Z Y n "range_in" ["planes","at"] (Cc K 2 Eh)
abbrev Tc:=Has P w K Z Y n "own_stays" ["plan","walls"] (Cc K 2 EB)
abbrev Yq:=Has P w K Z Y n "size_of" ["apart","side"] (Cc K 2 EY)
abbrev Vg:=Has P w K Z Y n "walls_of" ["room","bounds"] (Cc K 2 Ei)
abbrev eV:=Has P w K Z Y n "stays" ["flight","room"] (Cc K 2 HY)
abbrev Ln:=Has P w K Z Y n "all_stays" ["flights","room"] (Cc K 2 DV)
abbrev MK:=Has P w K Z Y n "all_stretches" ["sets"] (Cc K 1 CU)
abbrev QE:=Has P w K Z Y n "many_of" ["sets","n"] (Cc K 2 EW)
abbrev jX:=Has P w K Z Y n "full" ["flights","room"] (Cc K 2 Kr)
abbrev Ta:=Has P w K Z Y n "over_full" ["flights","room"] (Cc K 2 EA)
end
section
variable {P:zp}{w:zm}{K:AAB}{Z:Str->zt zx}{Y:zl}{n m:Nat}{f:zu}{U:FuncData}
theorem KQ:EN ["_law_tape_here","_law_many_here","_law_once","_law_found"] ["_law_tape_here","_law_many_here"] (BQ FB):=DA
theorem RJ (F:U6 K "_law_draw" "_law_draw" FB f U):Ej P w K Z Y Sy (n+1) f U ["_law_tape_here","_law_many_here"] (Cc K 2 A4):=by
 have k:=KQ.nd;refine F.ok KQ (λvs H Q E h=> ?_) (λu A outer s H vs Q E J h=> ?_)
 .obtain ⟨T,M,xs,v,_,_,r,hl,_⟩:=h;rw[r.length,hl] <;> rfl
 obtain⟨T,M,xs,v,va,_,r,hl,hF,hQ⟩:=h;unfold A4 at hF;split at hF <;> first | exact hF.elim|skip
 rename_i m;obtain⟨⟨m0,m1⟩,hF⟩:=hF;cases r with
 | cons r j=>
 cases j with
 | cons y j=>
 cases j;cases y;cases r with
 | tape tp=>
 rename_i p;obtain⟨d,x,hp,l,z,B⟩:=va.tp p tp;refine⟨_,(Bi (Xo (Mf iQ (Lq E8 (pv 0) A3 (λ_ _=>rfl)) A3 (B2 _)) (Bi (FQ (i:=3) k rfl (Or.inl rfl) (B8 F5 (Lq E8 (pv 0) A3 (λ_ _=>rfl)) (pv 1)))
  (Bi (Rf (B8 bU (Lq E8 (pv 0) A3 (λ_ _=>rfl)) (pv 1)) (V8 (pv 0) A3 OW))
  (ES (OI (pv 3))))) Me)
  (Bi (Rf (B8 F5 (B8 G6 (B8 Hj (Lq E8 (pv 0) A3 (λ_ _=>rfl)) A3) A3) A3) (V8 (pv 0) A3 OW))
  (Bi (FQ (i:=2) k rfl (Or.inl rfl) (B8 F5 (B8 Hj (Lq E8 (pv 0) A3 (λ_ _=>rfl)) (B8 G6 (B8 F5 (Lq E8 (pv 0) A3 (λ_ _=>rfl)) A3) A3)) A3))
  (ES (OI (B8 F5 (B8 F5 (B8 Hj (pv 2) (B8 G6 (B8 F5 (pv 2) A3) A3)) A3) (pv 1))))))), ?_⟩
 have e:∀(r d' g:Int),0<=r->r<m->0<=d'->0<=g->g<2147483647->Q (.int r) (upd H p (.lst [.int d', .int g])):=λr d' g C D a b c=>
  hQ _ (.int r) T _ (dO va.tp tp a b c) (.int r) (hF r C D)
 refine⟨_,rfl,p,_,_,_,rfl,rfl,FH.of hp,rfl,_,_,rfl,rfl,_,rfl, ?_⟩;refine nO (λc=> ?_) (λc=> ?_)
 .refine ⟨_,rfl,p,_,_,_,rfl,rfl,FH.of hp,rfl,_,rfl,_,_,rfl,rfl,m0, ?_⟩;refine⟨_,rfl,p,_,_,_,rfl,rfl,FH.of hp,rfl,_,rfl,_,_,rfl,rfl,⟨m0,by omega⟩, ?_⟩;refine⟨_,rfl,p,_,_,_,rfl,rfl,hp,rfl, ?_⟩;exact⟨_,rfl,e _ _ _ (ACU _ (by omega)) (ACV _ m0) (Int.ediv_nonneg l (by omega)) z B⟩
 .refine ⟨_,rfl,p,_,_,_,rfl,rfl,FH.of hp,rfl,_,_,rfl,rfl, .inl (.inr ⟨by decide,by decide⟩),_,_,rfl,rfl,_,_,rfl,rfl,(show (0:Int)<2147483647 by decide), ?_⟩;refine⟨_,rfl,p,_,_,_,rfl,rfl,hp,rfl, ?_⟩;have o:0<=(x*48271+12345) % 2147483647:=ACU _ (by decide);have y1:(x*48271+12345) % 2147483647<2147483647:=ACV _ (by decide);have t:upd H p (.lst ([V.int d,V.int x].set (Int.toNat 1) (V.int ((x*48271+12345) % 2147483647)))) p=some (.lst [.int d, .int ((x*48271+12345) % 2147483647)]):=Ad;have G:0<=(x*48271+12345) % 2147483647*((x*48271+12345) % 2147483647 % 1009+3) % 2147483629:=ACU _ (by decide);have I:(x*48271+12345) % 2147483647*((x*48271+12345) % 2147483647 % 1009+3) % 2147483629<2147483629:=ACV _ (by decide);refine⟨_,rfl,p,_,_,_,rfl,rfl,FH.of t,rfl,_,rfl,p,_,_,_,rfl,rfl,FH.of t,rfl,_,_,rfl,rfl,(show (0:Int)<1009 by decide),_,_,rfl,rfl,_,_,rfl,rfl, .inl (.inl (Ob o y1)),_,_,rfl,rfl,(show (0:Int)<2147483629 by decide), ?_⟩;refine⟨_,rfl,_,rfl,_,_,rfl,rfl,(show (0:Int)<997 by decide),_,_,rfl,rfl,_,_,rfl,rfl, .inl (.inl (Ob G (Int.lt_trans I (by decide)))),_,_,rfl,rfl,(show (0:Int)<998244353 by decide),_,rfl,_,_,rfl,rfl,m0, ?_⟩;exact e _ _ _ (ACU _ (by omega)) (ACV _ m0) l o y1
theorem DQ {P:zp}{w:zm}{K:AAB}{Z:Str->zt zx}{Y:zl}{x q:Str}{st:Stmt}{f:zu}{U:FuncData}{N:zy Str}{k n:Nat}{b:AS}(F:U6 K x q st f U)(S:EN N (N.take n) (BQ st))(a:n=(N.take n).length)(h:∀(v:zx) (A:zk) (o:zy Env) (s:zw) (H:Hp) (E:XK),Room k (A.deeper (envOfC q (BQ st) s.heap.objs.size f v))->N.Nodup->Zd (TH Sy P w K Z Y N q (BQ st) f v A o s H E).nox (D9 st) b):Ej P w K Z Y Sy (k+1) f U (N.take n) (Cc K n (Ak N.length b)):=
 eM F S a λv A o s H E r=>h v A o s H E r S.nd
abbrev Z1 (K:AAB)(x:Str)(s:Stmt)(f:zu)(d:FuncData):=U6 K x x s f d
abbrev Z2 (P:zp)(w:zm)(K:AAB)(Z:Str->zt zx)(b:zl)(n:Nat)(f:zu)(d:FuncData)(N:zy Str)(k:Nat)(F:AF):=Ej P w K Z b Sy (n+1) f d (N.take k) (Cc K k F)
theorem OA (F:Z1 K "_law_bounds" FR f U)(b:Cw P w K Z Y n):Z2 P w K Z Y n f U ["_law_tape_here","_law_some"] 1 DF:=DQ F DA rfl λ_ _ _ _ _ _ a c=>(AM (Ch 1 c (Cq (BJ (Ck (Ag (Ao AJ AJ)) (Ck (Ag (Ao AJ AJ)) (Ck (Ag (Ao AJ AJ)) (Ew (Ag (Ao AJ AJ)) (Ag (Ao AJ AJ)) (Ag (Ao AJ AJ))))))))) (AM (BY (FY (Du a) (AK b a rfl (Ao (AH 0) AJ)) AJ) (AR (AX (Ag (Ew (Ag (Ao AJ AJ)) (Ag (Ao AJ AJ)) (Ag (Ao AJ AJ)))))) A5) (AR (AX (Ag (Ew (AU (AH 1) (AK b a rfl (Ao (AH 0) AJ))) (AU (AH 1) (AK b a rfl (Ao (AH 0) AJ))) (AU (AH 1) (AK b a rfl (Ao (AH 0) AJ)))))))))
theorem RM (F:Z1 K "_law_part" HB f U)(b:Z "abs" =none)(c:Z "int" =none):Z2 P w K Z Y n f U ["_law_top","_law_bottom","_law_sign","_law_one","_law_other"] 2 Az:=DQ F DA rfl λ_ _ _ _ _ _ _ a=>(AM (WU (i:=3) (j:=4) rfl a rfl rfl (by decide) rfl rfl (Ao (BU Rz rfl b boot_abs (Bl (AH 0))) (BU Rz rfl b boot_abs (Bl (AH 1)))) rfl) (AM (HQ AAP (FY KZ (AH 4) AJ) (AR (WU (i:=3) (j:=4) rfl a rfl rfl (by decide) rfl rfl (Ao (AH 4) (Af Oc (AH 3) (AH 4))) rfl))) (AM (Ch 2 a (Af DT AJ (Af BG AJ (BA cZ rfl c boot_int (Bl (C0 HN (AH 1) AJ (B2 _))))))) (AR (AX (Ag (Ao (Af GH (Af BG (AH 2) (AH 0)) (AH 3)) (Af GH (Af BG (AH 2) (AH 1)) (AH 3)))))))))
theorem UD (F:Z1 K "_law_sum" JD f U)(a:DZ P w K Z Y n):Z2 P w K Z Y n f U ["_law_one","_law_other"] 2 BP:=DQ F DA rfl λ_ _ _ _ _ _ b _=>(AR (AX (AK a b rfl (Ao (Af Ay (Af BG (AU (AH 0) AJ) (AU (AH 1) AJ)) (Af BG (AU (AH 1) AJ) (AU (AH 0) AJ))) (Af BG (AU (AH 0) AJ) (AU (AH 1) AJ))))))
theorem T9 (F:Z1 K "_law_far" I0 f U)(b:Cy P w K Z Y n)(c:Z "tuple" =none):Z2 P w K Z Y n f U ["_law_plan_here"] 1 Ed:=by
 have a:(["_law_corner"] :zy Str).Nodup:=by decide +kernel
 exact DQ F DA rfl λ_ _ _ _ _ _ d _=>(AR (AX (BA Ca rfl c AA7 (Bl (Cq (B9 rfl (DM (AH 0)) (Bu (own:=1) (ix:= []) (N:= ["_law_corner"]) rfl rfl rfl rfl rfl rfl (λ_ _ _ _ _ _=>(JO 0 a)) (λ_ _ _ _ _ _=>BI) (λ_ _ _ _ _ _=>(Af Ay (Ag (Bl (AK b d rfl (Ao (AU (AH 0) AJ) (Ag (Ao (Af lE AJ AJ) AJ)))))) (KU (AH 0) (ga AJ) gZ))))))))))
theorem PX (F:Z1 K "_law_place" GA f U)(b:Cw P w K Z Y n)(c:DZ P w K Z Y n):Z2 P w K Z Y n f U ["_law_tape_here","_law_kind"] 1 BC:=DQ F DA rfl λ_ _ _ _ _ _ a d=>(AM (Ch 1 d (AK b a rfl (Ao (AH 0) AJ))) (AM (BY (FY HN (AH 1) AJ) (AR (AX (Ag (Ao (Af DT (AK b a rfl (Ao (AH 0) AJ)) AJ) AJ)))) A5) (AM (BY (FY (Du a) (AH 1) AJ) (AR (AX (AK c a rfl (Ao (Af DT (AK b a rfl (Ao (AH 0) AJ)) AJ) AJ)))) A5) (AR (AX (AK c a rfl (Ao (Af DT (AK b a rfl (Ao (AH 0) AJ)) AJ) AJ)))))))
theorem RQ (F:Z1 K "_law_span" HF f U)(b:Cw P w K Z Y n)(c:DZ P w K Z Y n):Z2 P w K Z Y n f U ["_law_tape_here","_law_way"] 1 Cu:=DQ F DA rfl λ_ _ _ _ _ _ a d=>(AM (Ch 1 d (AK b a rfl (Ao (AH 0) AJ))) (AM (BY (FY HN (AH 1) AJ) (AR (AX (Ag (Ao (Af Ay AJ (AK b a rfl (Ao (AH 0) AJ))) AJ)))) A5) (AR (AX (AK c a rfl (Ao (Af Ay AJ (AK b a rfl (Ao (AH 0) AJ))) (Af DT (AH 1) AJ)))))))
theorem RN (F:Z1 K "_law_plan" HC f U)(d:Cw P w K Z Y n)(c:Jw P w K Z Y n)(e:Lm P w K Z Y n)(g:Cy P w K Z Y n)(h:Z "len" =none)(j:Z "tuple" =none):Z2 P w K Z Y n f U ["_law_tape_here","_law_many_here","_law_m","_law_spot_here","_law_corners","_law_way"] 1 E1:=DQ F DA rfl λ_ _ _ _ _ _ a b=>(AM (Ch 1 b (Af Ay AJ (AK d a rfl (Ao (AH 0) AJ)))) (AM (BY (FY (Du a) (AK d a rfl (Ao (AH 0) AJ)) AJ) (AR (Ch 1 b (Af Ay AJ (AK d a rfl (Ao (AH 0) AJ))))) A5) (AM (Ch 2 b (Ag (Ao (AK d a rfl (Ao (AH 0) AJ)) AJ))) (AM (Ch 3 b (Cq (BJ (Ew (AK c a rfl (Bl (AH 0))) (AK c a rfl (Bl (AH 0))) (AK c a rfl (Bl (AH 0))))))) (AM (D7 (i:=4) b rfl (Or.inl rfl) (BJ (Bl (Ag (Ck (AH 2) (Ew (AU (AH 3) AJ) (AU (AH 3) AJ) (AU (AH 3) AJ))))))) (AM (HQ AAP (FY HN (BU FV rfl h ABC (Bl (AH 4))) (AH 1)) (AM (Ch 2 b (AK g a rfl (Ao (AH 2) (AK e a rfl (Bl (AH 0)))))) (AM (Ch 5 b (AK d a rfl (Ao (AH 0) AJ))) (AM (BY (FY KZ (AH 5) AJ) (AR (Ch 3 b (Cq (BJ (Ew (AK c a rfl (Bl (AH 0))) (AK c a rfl (Bl (AH 0))) (AK c a rfl (Bl (AH 0)))))))) (AR (BY (FY KZ (AH 5) AJ) (AR (Ch 3 b (Af Ay (Af Ay (KU (AH 3) gZ (ga (Af DT (AH 5) AJ))) (Cq (BJ (Bl (AK c a rfl (Bl (AH 0))))))) (KU (AH 3) (ga (AH 5)) gZ)))) A5))) (AR (CF (i:=4) AAv AAw Bb (Bl (Ag (Ck (AH 2) (Ew (AU (AH 3) AJ) (AU (AH 3) AJ) (AU (AH 3) AJ))))))))))) (AR (AX (BA Ca rfl j AA7 (Bl (AH 4)))))))))))
theorem MO (F:Z1 K "_law_flights" Er f U)(d:PK P w K Z Y n)(b:Cw P w K Z Y n)(e:VX P w K Z Y n)(g:TR P w K Z Y n)(h:Z "int" =none)(j:Z "range" =none):Z2 P w K Z Y n f U ["_law_tape_here","_law_many_here","_law_far_here","_law_found","_law_k","_law_plan_here"] 1 B6:=DQ F DA rfl λ_ _ _ _ _ _ a c=>(AM (Ch 1 c (AU (Cq (BJ (Ao (AK b a rfl (Ao (AH 0) AJ)) (Af Ay AJ (AK b a rfl (Ao (AH 0) AJ)))))) (BA cZ rfl h boot_int (Bl (C0 (Du a) (AK b a rfl (Ao (AH 0) AJ)) AJ (B2 _)))))) (AM (Ch 2 c (C0 (Du a) (AK b a rfl (Ao (AH 0) AJ)) AJ (B2 _))) (AM (D7 (i:=3) c rfl (Or.inl rfl) (BJ Dp)) (AM (Bn AAP rfl (KW rfl j (Bl (AH 1))) (EI 4 c) (AM (Ch 5 c (AK g a rfl (Bl (AH 0)))) (AM (BY (FY KZ (AH 1) AJ) (AR (Ch 5 c (KU (AH 5) gZ (ga AJ)))) A5) (AM (CF (i:=3) AAv AAw Bb (Bl (Ag (Ao (Uc (lJ (AH 2)) (AK e a rfl (Bl (AH 5))) (AH 5)) (AK d a rfl (Bl (AH 0))))))) (AR (BY (FY (Du a) (AK b a rfl (Ao (AH 0) AJ)) AJ) (AR (lG (i:=3) (AH 4) (OU (AU (AH 3) (AK b a rfl (Ao (AH 0) (Af Ay (AH 4) AJ))))))) A5)))))) (AR (AX (AH 3)))))))
theorem RK (F:Z1 K "_law_less" G9 f U):Z2 P w K Z Y n f U ["_law_one","_law_other"] 2 A0:=DQ F DA rfl λ_ _ _ _ _ _ _ _=>(AR (AX (C0 HN (Af BG (AU (AH 0) AJ) (AU (AH 1) AJ)) (Af BG (AU (AH 1) AJ) (AU (AH 0) AJ)) (B2 _))))
theorem PR (F:Z1 K "_law_is_in" F8 f U)(c:DY P w K Z Y n)(d:Z "any" =none):Z2 P w K Z Y n f U ["_law_stretches","_law_m"] 2 CS:=by
 have a:(["_law_begin","_law_held","_law_end","_law_m"] :zy Str).Nodup:=by decide +kernel
 exact DQ F DA rfl λ_ _ _ _ _ _ b _=>(AR (AX (BU (ko rfl) rfl d boot_any (Bl (Cq (B9 rfl (DM (AH 0)) (Bu (own:=3) (ix:= [1]) (N:= ["_law_begin","_law_held" ,"_law_end" ,"_law_m" ]) rfl rfl rfl rfl rfl rfl (λ_ _ _ _ _ _=>(OZ (n:=3) rfl (C1 (JO 0 a) (C1 (JO 1 a) (C1 (JO 2 a) KY))))) (λ_ _ _ _ _ _=>BI) (λ_ _ _ _ _ _=>(OS (kz (AK c b rfl (Ao (AH 3) (AH 0)))) (OS (AK c b rfl (Ao (AH 3) (AH 2))) (LS (iX (C0 (Du b) (AH 1) AJ (B2 _)) (LS (C0 (QR b) (AH 3) (AH 0) (B2 _)))))))))))))))
theorem PQ (F:Z1 K "_law_count" F7 f U)(b:Q4 P w K Z Y n)(c:Z "len" =none):Z2 P w K Z Y n f U ["_law_sets","_law_m"] 2 Be:=by
 have a:(["_law_stretches","_law_m"] :zy Str).Nodup:=by decide +kernel
 exact DQ F DA rfl λ_ _ _ _ _ _ d _=>(AR (AX (BU FV rfl c ABC (Bl (Cq (B9 rfl (DM (AH 0)) (Bu (own:=1) (ix:= [1]) (N:= ["_law_stretches","_law_m" ]) rfl rfl rfl rfl rfl rfl (λ_ _ _ _ _ _=>(JO 0 a)) (λ_ _ _ _ _ _=>(gQ (CK (AK b d rfl (Ao (AH 0) (AH 1)))))) (λ_ _ _ _ _ _=>(AH 0)))))))))
theorem MQ (F:Z1 K "_law_product" Et f U)(a:DZ P w K Z Y n):Z2 P w K Z Y n f U ["_law_one","_law_other"] 2 Bt:=DQ F DA rfl λ_ _ _ _ _ _ b _=>(AR (AX (AK a b rfl (Ao (Af BG (AU (AH 0) AJ) (AU (AH 1) AJ)) (Af BG (AU (AH 0) AJ) (AU (AH 1) AJ))))))
theorem MP (F:Z1 K "_law_middles" Es f U)(c:Ep P w K Z Y n)(d:Cy P w K Z Y n)(e:Z "zip" =none):Z2 P w K Z Y n f U ["_law_marks_here"] 1 Bs:=by
 have a:(["_law_one","_law_other"] :zy Str).Nodup:=by decide +kernel
 exact DQ F DA rfl λ_ _ _ _ _ _ b _=>(AR (AX (Cq (B9 rfl (ZP rfl e (Ao (AH 0) (KU (AH 0) (ga AJ) gZ))) (Bu (own:=2) (ix:= []) (N:= ["_law_one","_law_other" ]) rfl rfl rfl rfl rfl rfl (λ_ _ _ _ _ _=>(OZ (n:=2) rfl (C1 (JO 0 a) (C1 (JO 1 a) KY)))) (λ_ _ _ _ _ _=>BI) (λ_ _ _ _ _ _=>(AK c b rfl (Ao (AK d b rfl (Ao (AH 0) (AH 1))) (Ag (Ao AJ AJ))))))))))
theorem OC (F:Z1 K "_law_rising" FT f U)(c:DY P w K Z Y n)(d:Z "len" =none):Z2 P w K Z Y n f U ["_law_some","_law_found","_law_one","_law_at"] 1 BN:=DQ F DA rfl λ_ _ _ _ _ _ b a=>(AM (D7 (i:=1) a rfl (Or.inl rfl) (BJ Dp)) (AM (Bn AAP rfl (DM (AH 0)) (EI 2 a) (AM (Ch 3 a (OU (BU FV rfl d ABC (Bl (AH 1))))) (AM (HQ AAP (HR (Ev (FY KZ (AH 3) AJ) (Dq (CK (AK c b rfl (Ao (AH 2) (AU (AH 1) (Af DT (AH 3) AJ)))))))) (AR (Ch 3 a (Af DT (AH 3) AJ)))) (AR (BY (c9 (HR (QV (FY (Du b) (AH 3) AJ) (LY (FY (QR b) (AU (AH 1) (Af DT (AH 3) AJ)) (AH 2)))))) (AR (CF (i:=1) AD2 AD3 QQ (Ao (AH 3) (AH 2)))) A5))))) (AR (AX (AH 1)))))
theorem UC (F:Z1 K "_law_set" JC f U)(b:Z "enumerate" =none)(c:Z "tuple" =none):Z2 P w K Z Y n f U ["_law_marks_here","_law_here","_law_gaps","_law_found","_law_begun","_law_k","_law_m"] 3 BO:=DQ F DA rfl λ_ _ _ _ _ _ _ a=>(AM (D7 (i:=3) a rfl (Or.inl rfl) (BJ Dp)) (AM (Ch 4 a Bm) (AM (Bn AAP rfl (rg rfl b (Bl (AH 0))) (Cg (n:=2) rfl (Ae (EI 5 a) (Ae (EI 6 a) Bx))) (AM (BY (HR (Ev (FY SL (AH 4) Bm) (Dq (SV (CK (AU (AH 1) (AH 5))))))) (AM (CF (i:=3) AAv AAw Bb (Bl (Af Ay (AH 4) (Ag (Bl (AH 6)))))) (AR (Ch 4 a Bm))) A5) (AM (BY (HR (Ev (FY GI (AH 4) Bm) (Dq (CK (AU (AH 1) (AH 5)))))) (AR (Ch 4 a (Ag (Ao (AH 6) AJ)))) A5) (AR (BY (HR (Ev (FY GI (AH 4) Bm) (Dq (CK (AU (Af Ay (AH 2) (Cq (BJ (Bl OT)))) (AH 5)))))) (AR (Ch 4 a (Ag (Ao (AH 6) AJ)))) A5))))) (AR (AX (BA Ca rfl c AA7 (Bl (AH 3))))))))
theorem RL (F:Z1 K "_law_many" HA f U)(e:Q3 P w K Z Y n)(g:En P w K Z Y n)(h:FM P w K Z Y n)(j:Ij P w K Z Y n):Z2 P w K Z Y n f U ["_law_sets","_law_many_here","_law_some","_law_stretches","_law_marks_here","_law_here","_law_begin","_law_held","_law_end"] 2 CG:=by
 have c:(["_law_m","_law_many_here","_law_sets"] :zy Str).Nodup:=by decide +kernel
 have d:(["_law_m","_law_many_here","_law_sets"] :zy Str).Nodup:=by decide +kernel
 exact DQ F DA rfl λ_ _ _ _ _ _ b a=>(AM (Ch 2 a (Cq (BJ Dp))) (AM (Bn AAP rfl (DM (AH 0)) (EI 3 a) (AR (Bn AAP rfl (DM (AH 3)) (Cg (n:=3) rfl (Ae (EI 6 a) (Ae (EI 7 a) (Ae (EI 8 a) Bx)))) (AR (Ch 2 a (Af Ay (AH 2) (Cq (BJ (Ao (AH 6) (AH 8)))))))))) (AM (Ch 4 a (AK h b rfl (Bl (AH 2)))) (AM (HP (i:=5) rfl a rfl (Or.inl rfl) (DM (AH 4)) (Bu (own:=1) (ix:= [1,0]) (N:= ["_law_m","_law_many_here" ,"_law_sets" ]) rfl rfl rfl rfl rfl rfl (λ_ _ _ _ _ _=>(JO 0 c)) (λ_ _ _ _ _ _=>BI) (λ_ _ _ _ _ _=>(C0 c3 (AK e b rfl (Ao (AH 2) (AH 0))) (AH 1) (B2 _))))) (AR (AX (AK j b rfl (Ew (AH 4) (AH 5) (Cq (B9 rfl (DM (AK g b rfl (Bl (AH 4)))) (Bu (own:=1) (ix:= [1,0]) (N:= ["_law_m","_law_many_here" ,"_law_sets" ]) rfl rfl rfl rfl rfl rfl (λ_ _ _ _ _ _=>(JO 0 d)) (λ_ _ _ _ _ _=>BI) (λ_ _ _ _ _ _=>(C0 c3 (AK e b rfl (Ao (AH 2) (AH 0))) (AH 1) (B2 _))))))))))))))
theorem UA (F:Z1 K "_law_off" JA f U)(a:DZ P w K Z Y n):Z2 P w K Z Y n f U ["_law_one","_law_other"] 2 BW:=DQ F DA rfl λ_ _ _ _ _ _ b _=>(AR (AX (AK a b rfl (Ao (Af DT (Af BG (AU (AH 0) AJ) (AU (AH 1) AJ)) (Af BG (AU (AH 1) AJ) (AU (AH 0) AJ))) (Af BG (AU (AH 0) AJ) (AU (AH 1) AJ))))))
theorem RO (F:Z1 K "_law_room" HD f U)(b:Cw P w K Z Y n)(h:Eo P w K Z Y n)(j:Jw P w K Z Y n)(k:Lm P w K Z Y n)(e:Cy P w K Z Y n)(l:Z "range" =none)(g:Z "tuple" =none):Z2 P w K Z Y n f U ["_law_tape_here","_law_low","_law_high","_law_one","_law_wide"] 1 CT:=by
 have d:(["_law_k","_law_tape_here"] :zy Str).Nodup:=by decide +kernel
 exact DQ F DA rfl λ_ _ _ _ _ _ a c=>(AM (HP (i:=1) rfl c rfl (Or.inl rfl) (KW rfl l (Bl AJ)) (Bu (own:=1) (ix:= [0]) (N:= ["_law_k","_law_tape_here" ]) rfl rfl rfl rfl rfl rfl (λ_ _ _ _ _ _=>(JO 0 d)) (λ_ _ _ _ _ _=>BI) (λ_ _ _ _ _ _=>(AK h a rfl (Ao (AK j a rfl (Bl (AH 1))) (AU (Cq (BJ (Ew (Ag (Ao AJ AJ)) (Ag (Ao AJ AJ)) (Ag (Ao AJ AJ))))) (AK b a rfl (Ao (AH 1) AJ)))))))) (AM (D7 (i:=2) c rfl (Or.inl rfl) (BJ Dp)) (AM (Bn AAP rfl (DM (AH 1)) (EI 3 c) (AM (Ch 4 c (AK e a rfl (Ao (AK k a rfl (Bl (AH 0))) (AU (Cq (BJ (Ew (Ag (Ao AJ AJ)) (Ag (Ao AJ AJ)) (Ag (Ao AJ AJ))))) (AK b a rfl (Ao (AH 0) AJ)))))) (AR (CF (i:=2) AAv AAw Bb (Bl (AK e a rfl (Ao (AH 3) (AH 4)))))))) (AR (AX (Ag (Ck (AU (Cq (BJ (Ew WN WN WN))) (AK b a rfl (Ao (AH 0) AJ))) (Ew (BA Ca rfl g AA7 (Bl (AH 1))) (BA Ca rfl g AA7 (Bl (AH 2))) (Af Ay AJ (AK b a rfl (Ao (AH 0) AJ)))))))))))
theorem RP (F:Z1 K "_law_same" HE f U)(b:Z "str" =none):Z2 P w K Z Y n f U ["_law_found","_law_due"] 2 Di:=DQ F DA rfl λ_ _ _ _ _ _ a _=>(AR (AX (OS (C0 (Du a) (AH 0) (AH 1) (B2 _)) (LS (C0 (Du a) (BA (R0 a) rfl b boot_str (Bl (AH 0))) (BA (R0 a) rfl b boot_str (Bl (AH 1))) (B2 _))))))
theorem T8 (F:Z1 K "_law_box" Iz f U)(h:Eo P w K Z Y n)(j:Cy P w K Z Y n)(c:Z "range" =none)(d:Z "tuple" =none):Z2 P w K Z Y n f U ["_law_flight","_law_room_here","_law_off_here","_law_low"] 2 Ec:=by
 have a:(["_law_k","_law_off_here","_law_room_here"] :zy Str).Nodup:=by decide +kernel
 have b:(["_law_k","_law_off_here","_law_room_here"] :zy Str).Nodup:=by decide +kernel
 exact DQ F DA rfl λ_ _ _ _ _ _ e g=>(AM (GJ (i:=2) g rfl (Or.inr rfl) (Cq (BJ (Ew (AU (AU (AH 0) AJ) AJ) (AU (AU (AH 0) AJ) AJ) (AU (AU (AH 0) AJ) AJ))))) (AM (Ch 3 g (BA Ca rfl d AA7 (Bl (Cq (B9 rfl (KW rfl c (Bl AJ)) (Bu (own:=1) (ix:= [2,1]) (N:= ["_law_k","_law_off_here" ,"_law_room_here" ]) rfl rfl rfl rfl rfl rfl (λ_ _ _ _ _ _=>(JO 0 a)) (λ_ _ _ _ _ _=>BI) (λ_ _ _ _ _ _=>(AK h e rfl (Ao (AU (AU (AH 2) AJ) (AH 0)) (AU (AH 1) (AH 0))))))))))) (AR (AX (Ag (Ao (AH 3) (BA Ca rfl d AA7 (Bl (Cq (B9 rfl (KW rfl c (Bl AJ)) (Bu (own:=1) (ix:= [2,1]) (N:= ["_law_k","_law_off_here" ,"_law_room_here" ]) rfl rfl rfl rfl rfl rfl (λ_ _ _ _ _ _=>(JO 0 b)) (λ_ _ _ _ _ _=>BI) (λ_ _ _ _ _ _=>(AK j e rfl (Ao (AU (AU (AH 2) AJ) (AH 0)) (AU (AH 1) (AH 0))))))))))))))))
theorem OB (F:Z1 K "_law_may_be" FS f U)(c:DY P w K Z Y n)(d:Eo P w K Z Y n):Z2 P w K Z Y n f U ["_law_own_here","_law_late","_law_m","_law_begin","_law_held","_law_end"] 3 CB:=DQ F DA rfl λ_ _ _ _ _ _ a b=>(AM (Bn AAP rfl (DM (AH 0)) (Cg (n:=3) rfl (Ae (EI 3 b) (Ae (EI 4 b) (Ae (EI 5 b) Bx)))) (AR (BY (HR (Ev (CK (AK c a rfl (Ao (AK d a rfl (Ao (AH 2) (AH 1))) (AH 5)))) (Dq (HR (QV (CK (AK c a rfl (Ao (AH 3) (AH 2)))) (LY (HR (Ev (FY (Du a) (AH 4) AJ) (Dq (FY (Du a) (AH 3) (AH 2))))))))))) (AR (AX OT)) A5))) (AR (AX OT)))
theorem PY (F:Z1 K "_law_ratio" GB f U)(a:DZ P w K Z Y n):Z2 P w K Z Y n f U ["_law_one","_law_other"] 2 C5:=DQ F DA rfl λ_ _ _ _ _ _ b _=>(AR (AX (AK a b rfl (Ao (Af BG (AU (AH 0) AJ) (AU (AH 1) AJ)) (Af BG (AU (AH 0) AJ) (AU (AH 1) AJ))))))
theorem RR (F:Z1 K "_law_spot" HG f U)(c:DY P w K Z Y n)(d:Eo P w K Z Y n)(h:Ep P w K Z Y n)(j:Jx P w K Z Y n)(k:Cy P w K Z Y n)(l:Z "range" =none)(o:Z "tuple" =none)(p:Z "zip" =none):Z2 P w K Z Y n f U ["_law_plan_here","_law_m","_law_one","_law_other","_law_share","_law_gone"] 2 E2:=by
 have e:(["_law_k","_law_share","_law_other","_law_one"] :zy Str).Nodup:=by decide +kernel
 have g:(["_law_k","_law_one","_law_gone"] :zy Str).Nodup:=by decide +kernel
 exact DQ F DA rfl λ_ _ _ _ _ _ a b=>(AM (BY (HR (QV (CK (AK c a rfl (Ao (AH 1) (AU (AU (AH 0) AJ) AJ)))) (LY (CK (AK c a rfl (Ao (AU (AU (AH 0) (GE AJ)) AJ) (AH 1))))))) (AR (AX Bm)) A5) (AM (Bn AAP rfl (ZP rfl p (Ao (AH 0) (KU (AH 0) (ga AJ) gZ))) (Cg (n:=2) rfl (Ae (R4 (i:=2) b rfl (Or.inr rfl)) (Ae (R4 (i:=3) b rfl (Or.inr rfl)) Bx))) (AR (BY (SV (CK (AK c a rfl (Ao (AU (AH 3) AJ) (AH 1))))) (AM (GJ (i:=4) b rfl (Or.inr rfl) (AK j a rfl (Ao (AK d a rfl (Ao (AH 1) (AU (AH 2) AJ))) (AK d a rfl (Ao (AU (AH 3) AJ) (AU (AH 2) AJ)))))) (AM (GJ (i:=5) b rfl (Or.inr rfl) (Cq (B9 rfl (DM (Ag (Ew AJ AJ AJ))) (Bu (own:=1) (ix:= [4,3,2]) (N:= ["_law_k","_law_share" ,"_law_other" ,"_law_one" ]) rfl rfl rfl rfl rfl rfl (λ_ _ _ _ _ _=>(JO 0 e)) (λ_ _ _ _ _ _=>BI) (λ_ _ _ _ _ _=>(AK h a rfl (Ao (AH 1) (AK d a rfl (Ao (AU (AH 2) (AH 0)) (AU (AH 3) (AH 0))))))))))) (AR (AX (BA Ca rfl o AA7 (Bl (Cq (B9 rfl (KW rfl l (Bl AJ)) (Bu (own:=1) (ix:= [2,5]) (N:= ["_law_k","_law_one" ,"_law_gone" ]) rfl rfl rfl rfl rfl rfl (λ_ _ _ _ _ _=>(JO 0 g)) (λ_ _ _ _ _ _=>BI) (λ_ _ _ _ _ _=>(AK k a rfl (Ao (AU (AH 1) (Af Ay (AH 0) AJ)) (AU (AH 2) (AH 0)))))))))))))) A5))) (AR (AX Bm))))
theorem J7 (F:Z1 K "_law_is_inside" D4 f U)(b:DY P w K Z Y n)(d:TW P w K Z Y n)(e:Z "all" =none)(g:Z "range" =none):Z2 P w K Z Y n f U ["_law_plan_here","_law_low","_law_high","_law_m","_law_spot_here"] 4 BV:=by
 have c:(["_law_k","_law_low","_law_spot_here","_law_high"] :zy Str).Nodup:=by decide +kernel
 exact DQ F DA rfl λ_ _ _ _ _ _ a h=>(AM (BY (SV (CK (AK b a rfl (Ao (AH 3) (AU (AU (AH 0) (GE AJ)) AJ))))) (AR (AX OT)) A5) (AM (GJ (i:=4) h rfl (Or.inr rfl) (AK d a rfl (Ao (AH 0) (AH 3)))) (AM (BY (FY GI (AH 4) Bm) (AR (AX OT)) A5) (AR (AX (BU (kh rfl) rfl e boot_all (Bl (Cq (B9 rfl (KW rfl g (Bl AJ)) (Bu (own:=1) (ix:= [1,4,2]) (N:= ["_law_k","_law_low" ,"_law_spot_here" ,"_law_high" ]) rfl rfl rfl rfl rfl rfl (λ_ _ _ _ _ _=>(JO 0 c)) (λ_ _ _ _ _ _=>BI) (λ_ _ _ _ _ _=>(OS (AK b a rfl (Ao (AU (AH 1) (AH 0)) (AU (AH 2) (AH 0)))) (LS (AK b a rfl (Ao (AU (AH 2) (AH 0)) (AU (AH 3) (AH 0)))))))))))))))))
theorem PU (F:Z1 K "_law_marks" F9 f U)(e:DY P w K Z Y n)(c:Eo P w K Z Y n)(g:Ep P w K Z Y n)(h:Jx P w K Z Y n)(j:FM P w K Z Y n)(k:Cy P w K Z Y n)(l:Z "enumerate" =none)(o:Z "zip" =none):Z2 P w K Z Y n f U ["_law_plan_here","_law_low","_law_high","_law_some","_law_one","_law_other","_law_span_here","_law_k","_law_edge","_law_way","_law_share"] 3 CH:=by
 have d:(["_law_corner"] :zy Str).Nodup:=by decide +kernel
 exact DQ F DA rfl λ_ _ _ _ _ _ a b=>(AM (c6 (i:=3) rfl b rfl (Or.inl rfl) (DM (AH 0)) (Bu (own:=1) (ix:= []) (N:= ["_law_corner"]) rfl rfl rfl rfl rfl rfl (λ_ _ _ _ _ _=>(JO 0 d)) (λ_ _ _ _ _ _=>BI) (λ_ _ _ _ _ _=>(AU (AH 0) AJ)))) (AM (Bn AAP rfl (ZP rfl o (Ao (AH 0) (KU (AH 0) (ga AJ) gZ))) (Cg (n:=2) rfl (Ae (EI 4 b) (Ae (EI 5 b) Bx))) (AM (Ch 6 b (AK c a rfl (Ao (AU (AH 5) AJ) (AU (AH 4) AJ)))) (AR (Bn AAP rfl (oY rfl l (Bl (Af Ay (AH 1) (AH 2)))) (Cg (n:=2) rfl (Ae (EI 7 b) (Ae (EI 8 b) Bx))) (AM (Ch 9 b (AK c a rfl (Ao (AU (AH 5) (Af Ay (Af Oc (AH 7) AJ) AJ)) (AU (AH 4) (Af Ay (Af Oc (AH 7) AJ) AJ))))) (AR (BY (FY (QR a) (AU (AH 9) AJ) AJ) (AM (Ch 10 b (AK h a rfl (Ao (AK c a rfl (Ao (AH 8) (AU (AH 4) (Af Ay (Af Oc (AH 7) AJ) AJ)))) (AH 9)))) (AR (BY (HR (Ev (CK (AK e a rfl (Ao (Ag (Ao AJ AJ)) (AH 10)))) (Dq (CK (AK e a rfl (Ao (AH 10) (Ag (Ao AJ AJ)))))))) (AR (CF (i:=3) AAv AAw Bb (Bl (AK k a rfl (Ao (AU (AH 4) AJ) (AK g a rfl (Ao (AH 10) (AH 6)))))))) A5))) A5))))))) (AR (AX (AK j a rfl (Bl (AH 3)))))))
theorem UB (F:Z1 K "_law_own" JB f U)(d:K3 P w K Z Y n)(g:Q5 P w K Z Y n)(h:En P w K Z Y n)(j:Ij P w K Z Y n):Z2 P w K Z Y n f U ["_law_plan_here","_law_low","_law_high","_law_marks_here","_law_here"] 3 Ee:=by
 have b:(["_law_m","_law_plan_here","_law_low","_law_high"] :zy Str).Nodup:=by decide +kernel
 have c:(["_law_m","_law_plan_here","_law_low","_law_high"] :zy Str).Nodup:=by decide +kernel
 exact DQ F DA rfl λ_ _ _ _ _ _ a e=>(AM (Ch 3 e (AK g a rfl (Ew (AH 0) (AH 1) (AH 2)))) (AM (HP (i:=4) rfl e rfl (Or.inl rfl) (DM (AH 3)) (Bu (own:=1) (ix:= [0,1,2]) (N:= ["_law_m","_law_plan_here" ,"_law_low" ,"_law_high" ]) rfl rfl rfl rfl rfl rfl (λ_ _ _ _ _ _=>(JO 0 b)) (λ_ _ _ _ _ _=>BI) (λ_ _ _ _ _ _=>(AK d a rfl (Ck (AH 1) (Ew (AH 2) (AH 3) (AH 0))))))) (AR (AX (AK j a rfl (Ew (AH 3) (AH 4) (Cq (B9 rfl (DM (AK h a rfl (Bl (AH 3)))) (Bu (own:=1) (ix:= [0,1,2]) (N:= ["_law_m","_law_plan_here" ,"_law_low" ,"_law_high" ]) rfl rfl rfl rfl rfl rfl (λ_ _ _ _ _ _=>(JO 0 c)) (λ_ _ _ _ _ _=>BI) (λ_ _ _ _ _ _=>(AK d a rfl (Ck (AH 1) (Ew (AH 2) (AH 3) (AH 0))))))))))))))
theorem J8 (F:Z1 K "_law_stays_due" D5 f U)(h:VW P w K Z Y n)(e:PM P w K Z Y n)(j:En P w K Z Y n)(k:VY P w K Z Y n)(l:FM P w K Z Y n)(o:Ij P w K Z Y n)(g:Cy P w K Z Y n):Z2 P w K Z Y n f U ["_law_flight","_law_room_here","_law_late","_law_own_here","_law_some","_law_marks_here","_law_here","_law_low","_law_high","_law_begin","_law_held","_law_end"] 2 Br:=by
 have c:(["_law_m","_law_own_here","_law_late"] :zy Str).Nodup:=by decide +kernel
 have d:(["_law_m","_law_own_here","_law_late"] :zy Str).Nodup:=by decide +kernel
 exact DQ F DA rfl λ_ _ _ _ _ _ b a=>(AM (SU (AK h b rfl (Ao (AH 0) (AH 1))) (Cg (n:=2) rfl (Ae (EI 7 a) (Ae (EI 8 a) Bx)))) (AM (GJ (i:=2) a rfl (Or.inr rfl) (AU (AU (AH 0) AJ) AJ)) (AM (GJ (i:=3) a rfl (Or.inr rfl) (AK k b rfl (Ew (AU (AH 0) AJ) (AH 7) (AH 8)))) (AM (Ch 4 a (Cq (BJ Dp))) (AM (Bn AAP rfl (DM (AH 3)) (Cg (n:=3) rfl (Ae (EI 9 a) (Ae (EI 10 a) (Ae (EI 11 a) Bx)))) (AR (Ch 4 a (Af Ay (AH 4) (Cq (BJ (Ck (AH 9) (Ew (AH 11) (AK g b rfl (Ao (AH 9) (AH 2))) (AK g b rfl (Ao (AH 11) (AH 2))))))))))) (AM (Ch 5 a (AK l b rfl (Bl (AH 4)))) (AM (HP (i:=6) rfl a rfl (Or.inl rfl) (DM (AH 5)) (Bu (own:=1) (ix:= [3,2]) (N:= ["_law_m","_law_own_here" ,"_law_late" ]) rfl rfl rfl rfl rfl rfl (λ_ _ _ _ _ _=>(JO 0 c)) (λ_ _ _ _ _ _=>BI) (λ_ _ _ _ _ _=>(AK e b rfl (Ew (AH 1) (AH 2) (AH 0)))))) (AR (AX (AK o b rfl (Ew (AH 5) (AH 6) (Cq (B9 rfl (DM (AK j b rfl (Bl (AH 5)))) (Bu (own:=1) (ix:= [3,2]) (N:= ["_law_m","_law_own_here" ,"_law_late" ]) rfl rfl rfl rfl rfl rfl (λ_ _ _ _ _ _=>(JO 0 d)) (λ_ _ _ _ _ _=>BI) (λ_ _ _ _ _ _=>(AK e b rfl (Ew (AH 1) (AH 2) (AH 0))))))))))))))))))
theorem KS:EN ["_law_script","_law_k","_law_cell","_law_digits"] ["_law_script","_law_k"] (BQ FC):=DA
theorem RS (F:U6 K "_law_tape" "_law_tape" FC f U)(l:Z "abs" =none)(t:Z "int" =none)(u:Z "len" =none):Ej P w K Z Y Sy (n+1) f U ["_law_script","_law_k"] (Cc K 2 NS):=by
 have g:=KS.nd;refine F.ok KS (λvs H Q E h=> ?_) (λv A outer s H vs Q E B h=> ?_)
 .obtain ⟨T,M,xs,x,_,_,r,hl,_⟩:=h;rw[r.length,hl] <;> rfl
 obtain⟨T,M,xs,x,va,_,r,hl,hF,hQ⟩:=h;unfold NS at hF;split at hF <;> first | exact hF.elim|skip
 rename_i d k;obtain⟨⟨C,D⟩,hF⟩:=hF;cases r with
 | cons r j=>
 cases j with
 | cons y j=>
 cases j;cases y;obtain⟨a,rfl,o⟩:=cg r;refine⟨_,(Bi (FQ (i:=2) g rfl (Or.inl rfl) A3)
  (Bi (Xo (Mf iR (pv 1) (KB Jr rfl u ABC (CP (pv 0) FO)) (B2 _)) (ES (FQ (i:=2) g rfl (Or.inl rfl) (Lq E8 (pv 0) (pv 1) (λ_ _=>rfl)))) Me)
  (Bi (FQ (i:=3) g rfl (Or.inl rfl) (B8 Hj (KB Nc rfl l boot_abs (CP (pv 2) FO)) (LH P2 rfl t PyProof.Rows.boot_int (CP (Xk iP (KB Nc rfl l boot_abs (CP (pv 2) FO)) (B8 bW A3 A3) (B2 _)) FO))))
  (ES (OI (bj (CP (pv 3) (CP (B8 F5 (B8 Hj (B8 F5 (B8 G6 (B8 G6 (pv 2) (B8 Hj A3 (pv 1))) A3) A3) A3) A3) FO)))))))), ?_⟩
 have hl:(d.map V.int).length=d.length:=AAI _;have e:∀(c:Int) (p:zu),H p=none->Q (.ref p) (upd H p (.lst [.int ((if c<0 then -c else c)*(if decide ((10:Int)^18<=(if c<0 then -c else c)) then 1 else 0)), .int ((c+7919*k+1) % 2147483647*48271 % 2147483647)])):=λc p hp=>
  hQ _ .tape (λb=>T b\/b=p) _ (dM va.tp hp (Int.mul_nonneg (by split <;> omega) (wX _)) (ACU _ (by decide)) (ACV _ (by decide))) (.tape (.inr rfl)) hF
 refine⟨_,rfl,_,rfl,a,_,rfl, .inl o,_,_,rfl,rfl,_,rfl, ?_⟩;refine nO (λc=> ?_) (λc=> ?_)
 .have z:k<(((d.map V.int).length:Nat):Int):=ABX c;rw[hl] at z;have hk:k.toNat<d.length:=by omega
  have hv:JV (d.map V.int) k=some (.int d[k.toNat]):=by
   have q:JV (d.map V.int) ((k.toNat:Nat):Int)=some (.int d[k.toNat]):=Cj (by rw[AAm,AAT hk] <;> rfl)
   rwa [show ((k.toNat:Nat):Int)=k by omega] at q
  refine⟨_,rfl,_,rfl,a,_,_,_,rfl,rfl,o,hv, ?_⟩;refine⟨_,rfl,_,rfl,_,rfl,_,rfl,_,_,rfl,rfl,⟨by decide,by decide,by decide⟩,_,_,rfl,rfl, .inr ⟨_,rfl,_,_,rfl,rfl, .inl (.inr (t6 _)), ?_⟩⟩;exact⟨_,rfl,_,rfl,_,rfl,_,_,rfl,rfl, .inl (.inl ⟨by decide,by decide⟩),_,_,rfl,rfl,_,_,rfl,rfl,_,_,rfl,rfl,(show (0:Int)<2147483647 by decide),_,_,rfl,rfl, .inl (.inr ⟨by decide,by decide⟩),_,_,rfl,rfl,(show (0:Int)<2147483647 by decide),(show 2<=sizeLine by decide),λp hp=>e _ p hp⟩
 .refine ⟨_,rfl,_,rfl,_,rfl,_,rfl,_,_,rfl,rfl,⟨by decide,by decide,by decide⟩,_,_,rfl,rfl, .inr ⟨_,rfl,_,_,rfl,rfl, .inl (.inr (t6 _)), ?_⟩⟩;exact⟨_,rfl,_,rfl,_,rfl,_,_,rfl,rfl, .inl (.inl ⟨by decide,by decide⟩),_,_,rfl,rfl,_,_,rfl,rfl,_,_,rfl,rfl,(show (0:Int)<2147483647 by decide),_,_,rfl,rfl, .inl (.inr ⟨by decide,by decide⟩),_,_,rfl,rfl,(show (0:Int)<2147483647 by decide),(show 2<=sizeLine by decide),λp hp=>e 0 p hp⟩
theorem ZC (F:Z1 K "common" OO f U):Z2 P w K Z Y n f U ["one","other"] 2 Gy:=DQ F DA rfl λ_ _ _ _ _ _ a b=>(AM (HQ AAP (FY (QR a) (AH 1) AJ) (AR (WU (i:=0) (j:=1) rfl b rfl rfl (by decide) rfl rfl (Ao (AH 1) (Af Oc (AH 0) (AH 1))) rfl))) (AR (AX (AH 0))))
theorem fV (F:Z1 K "part" WK f U)(c:TZ P w K Z Y n)(a:Z "abs" =none):Z2 P w K Z Y n f U ["top","bottom","shared"] 2 Fw:=DQ F DA rfl λ_ _ _ _ _ _ d b=>(AM (Ch 2 b (AK c d rfl (Ao (BU Rz rfl a boot_abs (Bl (AH 0))) (BU Rz rfl a boot_abs (Bl (AH 1)))))) (AM (BY (FY HN (AH 1) AJ) (AR (Ch 2 b (GE (AH 2)))) A5) (AR (AX (Ag (Ao (Af GH (AH 0) (AH 2)) (Af GH (AH 1) (AH 2))))))))
theorem fW (F:Z1 K "plus" WL f U)(a:Nu P w K Z Y n):Z2 P w K Z Y n f U ["one","other"] 2 Ku:=DQ F DA rfl λ_ _ _ _ _ _ b _=>(AR (AX (AK a b rfl (Ao (Af Ay (Af BG (AU (AH 0) AJ) (AU (AH 1) AJ)) (Af BG (AU (AH 1) AJ) (AU (AH 0) AJ))) (Af BG (AU (AH 0) AJ) (AU (AH 1) AJ))))))
theorem ZB (F:Z1 K "before" ON f U):Z2 P w K Z Y n f U ["one","other"] 2 A0:=DQ F DA rfl λ_ _ _ _ _ _ _ _=>(AR (AX (C0 HN (Af BG (AU (AH 0) AJ) (AU (AH 1) AJ)) (Af BG (AU (AH 1) AJ) (AU (AH 0) AJ)) (B2 _))))
theorem OD (F:Z1 K "count_below" FU f U)(b:TY P w K Z Y n)(c:Z "len" =none):Z2 P w K Z Y n f U ["numbers","number","low","high","middle"] 2 DH:=DQ F DA rfl λ_ _ _ _ _ _ d a=>(AM (Ch 2 a AJ) (AM (Ch 3 a (BU FV rfl c ABC (Bl (AH 0)))) (AM (HQ AAP (FY HN (AH 2) (AH 3)) (AM (Ch 4 a (Af GH (Af Ay (AH 2) (AH 3)) AJ)) (AR (BY (CK (AK b d rfl (Ao (AU (AH 0) (AH 4)) (AH 1)))) (AR (Ch 2 a (Af Ay (AH 4) AJ))) (AR (Ch 3 a (AH 4))))))) (AR (AX (AH 2))))))
theorem ZE (F:Z1 K "rising" OQ f U)(c:PN P w K Z Y n)(d:Z "len" =none):Z2 P w K Z Y n f U ["numbers","told","number","at"] 1 G0:=DQ F DA rfl λ_ _ _ _ _ _ a b=>(AM (D7 (i:=1) b rfl (Or.inl rfl) (BJ Dp)) (AM (Bn AAP rfl (DM (AH 0)) (EI 2 b) (AM (Ch 3 b (OU (AK c a rfl (Ao (AH 1) (AH 2))))) (AR (BY (c9 (HR (QV (FY (Du a) (AH 3) (BU FV rfl d ABC (Bl (AH 1)))) (LY (FY (QR a) (AU (AH 1) (AH 3)) (AH 2)))))) (AR (CF (i:=1) AD2 AD3 QQ (Ao (AH 3) (AH 2)))) A5)))) (AR (AX (AH 1)))))
theorem Lr:EN ["stretches","steps","begin","held","end","first","last"] ["stretches"] (BQ GD):=DA
theorem UK (F:U6 K "steps_of" "steps_of" GD f U):Ej P w K Z Y Sy (n+1) f U ["stretches"] (Cc K 1 HZ):=by
 have a:=Lr.nd;refine F.ok Lr (λvs H Q E h=> ?_) (λb A outer s H vs Q E c h=> ?_)
 .obtain ⟨T,M,xs,d,_,_,r,hl,_⟩:=h;rw[r.length,hl] <;> rfl
 obtain⟨T,M,xs,d,va,_,r,hl,hF,hQ⟩:=h;have hu:=gL c;obtain⟨x,ys,m,rfl,hx,hz,e,hq⟩:=U4 hF;cases r with
 | cons r g=> cases g;refine⟨_,(Bi (FQ (i:=1) a rfl (Or.inl rfl) ft) (Bi (WA AAP rfl (b6 (pv 0)) (OG rfl (Dn (EQ (i:=2) a rfl (Or.inl rfl)) (Dn (EQ (i:=3) a rfl (Or.inl rfl)) (Dn (EQ (i:=4) a rfl (Or.inl rfl)) KC)))) (Bi (FQ (i:=5) a rfl (Or.inl rfl) (OF (CP (pv 2) (CP (B8 V7 A3 (pv 3)) FO)))) (Bi (Xp hu (pv 1) (pv 5) (B8 G6 (UQ hu (pv 1) (pv 5) A3 ⟨rfl,rfl,rfl,rfl⟩) A3) rfl) (ES (Xo (Mf Xj (pv 4) bn (B2 _)) (Bi (FQ (i:=6) a rfl (Or.inl rfl) (OF (CP (pv 4) (CP A3 FO)))) (ES (Xp hu (pv 1) (pv 6) (B8 V7 (UQ hu (pv 1) (pv 6) A3 ⟨rfl,rfl,rfl,rfl⟩) A3) rfl))) Me))))) (ES (OI (pv 1))))), ?_⟩;exact WZ va r hx hz e λp j ex k hp=>hQ _ (.dct m) T j (YC va ex) (gJ va k hp) hq
theorem ZD (F:Z1 K "levels" OP f U)(d:aj P w K Z Y n)(e:Vf P w K Z Y n)(g:Z "list" =none):Z2 P w K Z Y n f U ["stretches","steps","told","count","moment","side"] 1 Gz:=by
 have b:(["moment","side"] :zy Str).Nodup:=by decide +kernel
 exact DQ F DA rfl λ_ _ _ _ _ _ c a=>(AM (Ch 1 a (AK e c rfl (Bl (AH 0)))) (AM (D7 (i:=2) a rfl (Or.inl rfl) (BJ Dp)) (AM (Ch 3 a AJ) (AM (Bn AAP rfl (DM (AK d c rfl (Bl (Cq (B9 rfl (DM (Cq (cr c rfl g boot_list (Bl (AH 1))))) (Bu (own:=2) (ix:= []) (N:= ["moment","side" ]) rfl rfl rfl rfl rfl rfl (λ_ _ _ _ _ _=>(OZ (n:=2) rfl (C1 (JO 0 b) (C1 (JO 1 b) KY)))) (λ_ _ _ _ _ _=>BI) (λ_ _ _ _ _ _=>(AH 0)))))))) (EI 4 a) (AR (Bn AAP rfl (DM (Ag (Ao AJ AJ))) (EI 5 a) (AR (BY (lI c (AH 4) (AH 5) (AH 1)) (AM (c5 (i:=3) a rfl (Or.inl rfl) (gN c (AH 1) (AH 4) (AH 5) (λ_ _=>rfl)) lB) (AR (CF (i:=2) AAv AAw Bb (Bl (Ag (Ew (AH 4) (AH 5) (AH 3))))))) A5))))) (AR (AX (AH 2)))))))
theorem V1 (F:Z1 K "counted" LN f U)(b:af P w K Z Y n)(c:Z "tuple" =none):Z2 P w K Z Y n f U ["stretches","n","told","begin","moment","side","count"] 2 Dw:=DQ F DA rfl λ_ _ _ _ _ _ d a=>(AM (D7 (i:=2) a rfl (Or.inl rfl) (BJ Dp)) (AM (Ch 3 a Bm) (AM (Bn AAP rfl (DM (AK b d rfl (Bl (AH 0)))) (Cg (n:=3) rfl (Ae (EI 4 a) (Ae (EI 5 a) (Ae (EI 6 a) Bx)))) (AR (BY (HR (Ev (FY GI (AH 3) Bm) (Dq (FY c3 (AH 6) (AH 1))))) (AR (Ch 3 a (Ag (Ao (AH 4) (Af DT AJ (AH 5)))))) (AR (BY (HR (Ev (FY SL (AH 3) Bm) (Dq (FY HN (AH 6) (AH 1))))) (AM (CF (i:=2) AAv AAw Bb (Bl (Ag (Ew (AU (AH 3) AJ) (AU (AH 3) AJ) (AH 4))))) (AR (Ch 3 a Bm))) A5))))) (AM (BY (FY SL (AH 3) Bm) (AR (CF (i:=2) AAv AAw Bb (Bl (Ag (Ew (AU (AH 3) AJ) (AU (AH 3) AJ) Bm))))) A5) (AR (AX (BA Ca rfl c AA7 (Bl (AH 2)))))))))
theorem UM (F:Z1 K "told_set" JL f U)(a:QD P w K Z Y n):Z2 P w K Z Y n f U ["stretches"] 1 Dz:=DQ F DA rfl λ_ _ _ _ _ _ b _=>(AR (AX (AK a b rfl (Ao (AH 0) AJ))))
theorem UG (F:Z1 K "later_by" JG f U)(c:ah P w K Z Y n)(d:Nw P w K Z Y n):Z2 P w K Z Y n f U ["stretches","by","longer","begin","held","end"] 2 Eg:=DQ F DA rfl λ_ _ _ _ _ _ b a=>(AM (D7 (i:=2) a rfl (Or.inl rfl) (BJ Dp)) (AM (Bn AAP rfl (DM (AH 0)) (Cg (n:=3) rfl (Ae (EI 3 a) (Ae (EI 4 a) (Ae (EI 5 a) Bx)))) (AR (CF (i:=2) AAv AAw Bb (Bl (Ag (Ew (AH 3) (AH 4) (Uc (FY GI (AH 5) Bm) Bm (AK c b rfl (Ao (AH 5) (AH 1)))))))))) (AR (AX (AK d b rfl (Bl (AH 2)))))))
theorem ZF (F:Z1 K "summed" OR f U)(g:Z "max" =none)(h:Z "tuple" =none)(j:Z "zip" =none):Z2 P w K Z Y n f U ["one","many","other","more","numbers","weights","number","weight"] 4 G1:=by
 have a:(["former","latter","many","more"] :zy Str).Nodup:=by decide +kernel
 have b:(["number","weight","many"] :zy Str).Nodup:=by decide +kernel
 exact DQ F DA rfl λ_ _ _ _ _ _ e c=>(AM (Ch 4 c (BA Ca rfl h AA7 (Bl (Cq (B9 rfl (ZP rfl j (Ao (AU (AH 0) AJ) (AU (AH 2) AJ))) (Bu (own:=2) (ix:= [1,3]) (N:= ["former","latter" ,"many" ,"more" ]) rfl rfl rfl rfl rfl rfl (λ_ _ _ _ _ _=>(OZ (n:=2) rfl (C1 (JO 0 a) (C1 (JO 1 a) KY)))) (λ_ _ _ _ _ _=>BI) (λ_ _ _ _ _ _=>(Af Ay (Af BG (AH 2) (AH 0)) (Af BG (AH 3) (AH 1)))))))))) (c7 (by decide) (by decide) (by decide) (by decide) (by decide) (by decide) (AU (AH 0) AJ) (AU (AH 2) AJ) (λte d=>cE (i:=5) rfl c rfl (Or.inl rfl) (UR d rfl rfl rfl rfl) (Qq (own:=2) (ix:= [1]) (N:= ["number","weight" ,"many" ]) rfl rfl rfl rfl rfl rfl (ab (Nr (Qz (by decide)) Ma (Nr (Qz (by decide)) Ma XN Q0) (TN Ma Q0))) (λ_ _ _ _ _ _=>(OG rfl (Dn (EQ (i:=0) b rfl (Or.inl rfl)) (Dn (EQ (i:=1) b rfl (Or.inl rfl)) KC)))) (λ_ _ _ _ _ _=>Xl) (λ_ _ _ _ _ _=>(pv 0))) (λ_ _ _ _ _ _=>(B8 Ra (pv 2) (pv 1)))) (λte d=>WA AAP rfl (UR d rfl rfl rfl rfl) (OG rfl (Dn (EQ (i:=6) c rfl (Or.inl rfl)) (Dn (EQ (i:=7) c rfl (Or.inl rfl)) KC))) (ES (gD (ud e) (pv 5) (pv 6) (B8 G6 (bf (ud e) (pv 5) (pv 6) A3 ⟨rfl,rfl,rfl,rfl⟩) (B8 Ra (pv 3) (pv 7))) rfl))) (AR (AX (Ag (Ew (AH 4) (BU (ca rfl) rfl g boot_max (Ao (AU (AH 0) AJ) (AU (AH 2) AJ))) (AH 5)))))))
theorem V2 (F:Z1 K "crossed" LO f U)(a:ak P w K Z Y n):Z2 P w K Z Y n f U ["low","high","at"] 3 Fh:=DQ F DA rfl λ_ _ _ _ _ _ b _=>(AR (AX (AK a b rfl (Ck (AH 0) (Ew (GE (AU (AU (AH 1) AJ) (AH 2))) (AH 1) (AU (AU (AH 0) AJ) (AH 2)))))))
theorem UF (F:Z1 K "is_never" JF f U):Z2 P w K Z Y n f U ["plane","total"] 1 Dx:=DQ F DA rfl λ_ _ _ _ _ _ a b=>(AM (Ch 1 b (AU (AU (AH 0) AJ) AJ)) (AR (AX (iX (C0 HN (AH 1) AJ (B2 _)) (LS (OS (C0 (Du a) (AH 1) AJ (B2 _)) (LS (C0 (Du a) (AU (AH 0) AJ) AJ (B2 _)))))))))
theorem V5 (F:Z1 K "turn_of" LR f U):Z2 P w K Z Y n f U ["plane","at","total","factor"] 2 DW:=DQ F DA rfl λ_ _ _ _ _ _ _ a=>(AM (Ch 2 a (AU (AU (AH 0) AJ) AJ)) (AM (Ch 3 a (AU (AU (AH 0) AJ) (AH 1))) (AR (AX (Uc (FY KZ (AH 3) AJ) (Ag (Ao (GE (AH 2)) (AH 3))) (Ag (Ao (AH 2) (GE (AH 3)))))))))
theorem PZ (F:Z1 K "is_tighter" GC f U)(b:TY P w K Z Y n)(c:QF P w K Z Y n):Z2 P w K Z Y n f U ["plane","other","at","here","there"] 3 Dj:=DQ F DA rfl λ_ _ _ _ _ _ a d=>(AM (Ch 3 d (AK c a rfl (Ao (AH 0) (AH 2)))) (AM (Ch 4 d (AK c a rfl (Ao (AH 1) (AH 2)))) (AM (BY (CK (AK b a rfl (Ao (AH 3) (AH 4)))) (AR (AX (C0 HN (AU (AU (AH 0) AJ) (AH 2)) AJ (B2 _)))) A5) (AM (BY (CK (AK b a rfl (Ao (AH 4) (AH 3)))) (AR (AX (C0 KZ (AU (AU (AH 0) AJ) (AH 2)) AJ (B2 _)))) A5) (AR (AX (C0 KZ (AU (AH 0) AJ) (AU (AH 1) AJ) (B2 _))))))))
theorem UL (F:Z1 K "tightest" JK f U)(b:Q6 P w K Z Y n):Z2 P w K Z Y n f U ["planes","at","sign","told","plane"] 3 Cv:=DQ F DA rfl λ_ _ _ _ _ _ c a=>(AM (Ch 3 a Bm) (AM (Bn AAP rfl (DM (AH 0)) (EI 4 a) (AR (BY (HR (Ev (FY KZ (Af BG (AU (AU (AH 4) AJ) (AH 1)) (AH 2)) AJ) (Dq (HR (QV (FY GI (AH 3) Bm) (LY (CK (AK b c rfl (Ew (AH 4) (AH 3) (AH 1)))))))))) (AR (Ch 3 a (AH 4))) A5))) (AR (AX (AH 3)))))
theorem UE (F:Z1 K "fault_in" JE f U)(e:Yp P w K Z Y n)(c:Va P w K Z Y n)(d:Nv P w K Z Y n):Z2 P w K Z Y n f U ["planes","at","plane","high","both"] 2 Ef:=DQ F DA rfl λ_ _ _ _ _ _ a b=>(AM (Bn AAP rfl (DM (AH 0)) (EI 2 b) (AR (BY (HR (Ev (FY (Du a) (AU (AU (AH 2) AJ) (AH 1)) AJ) (Dq (CK (AK c a rfl (Bl (AH 2))))))) (AR (AX (AH 2))) A5))) (AM (Ch 3 b (AK d a rfl (Ew (AH 0) (AH 1) (GE AJ)))) (AM (BY (FY GI (AH 3) Bm) (AR (AX Bm)) A5) (AM (Ch 4 b (AK e a rfl (Ew (AK d a rfl (Ew (AH 0) (AH 1) AJ)) (AH 3) (AH 1)))) (AR (AX (Uc (CK (AK c a rfl (Bl (AH 4)))) (AH 4) Bm)))))))
theorem bO (F:Z1 K "minus" Rv f U)(a:Nu P w K Z Y n):Z2 P w K Z Y n f U ["one","other"] 2 D8:=DQ F DA rfl λ_ _ _ _ _ _ b _=>(AR (AX (AK a b rfl (Ao (Af DT (Af BG (AU (AH 0) AJ) (AU (AH 1) AJ)) (Af BG (AU (AH 1) AJ) (AU (AH 0) AJ))) (Af BG (AU (AH 0) AJ) (AU (AH 1) AJ))))))
theorem fU (F:Z1 K "over" WJ f U)(a:Nu P w K Z Y n):Z2 P w K Z Y n f U ["one","other"] 2 NR:=DQ F DA rfl λ_ _ _ _ _ _ b _=>(AR (AX (AK a b rfl (Ao (Af BG (AU (AH 0) AJ) (AU (AH 1) AJ)) (Af BG (AU (AH 0) AJ) (AU (AH 1) AJ))))))
theorem bQ (F:Z1 K "times" Ry f U)(a:Nu P w K Z Y n):Z2 P w K Z Y n f U ["one","other"] 2 Jj:=DQ F DA rfl λ_ _ _ _ _ _ b _=>(AR (AX (AK a b rfl (Ao (Af BG (AU (AH 0) AJ) (AU (AH 1) AJ)) (Af BG (AU (AH 0) AJ) (AU (AH 1) AJ))))))
theorem LF (F:Z1 K "piece_between" EK f U)(c:Q7 P w K Z Y n)(d:jY P w K Z Y n)(e:eY P w K Z Y n)(g:Z "zip" =none):Z2 P w K Z Y n f U ["former","latter","span","lines","low","high","slope"] 2 B3:=DQ F DA rfl λ_ _ _ _ _ _ a b=>(AM (Ch 2 b (AK c a rfl (Ao (AU (AH 1) AJ) (AU (AH 0) AJ)))) (AM (D7 (i:=3) b rfl (Or.inl rfl) (BJ Dp)) (AM (Bn AAP rfl (ZP rfl g (Ao (KU (AH 0) (ga AJ) gZ) (KU (AH 1) (ga AJ) gZ))) (Cg (n:=2) rfl (Ae (EI 4 b) (Ae (EI 5 b) Bx))) (AM (Ch 6 b (AK d a rfl (Ao (AK c a rfl (Ao (AH 5) (AH 4))) (AH 2)))) (AR (CF (i:=3) AAv AAw Bb (Bl (Ag (Ao (AK c a rfl (Ao (AH 4) (AK e a rfl (Ao (AH 6) (AU (AH 0) AJ))))) (AH 6)))))))) (AR (AX (Ag (Ew (AU (AH 0) AJ) (AU (AH 1) AJ) (AH 3))))))))
theorem RW (F:Z1 K "pieces_of" HK f U)(b:ML P w K Z Y n)(c:Z "len" =none)(d:Z "range" =none):Z2 P w K Z Y n f U ["plan"] 1 EC:=by
 have a:(["at","plan"] :zy Str).Nodup:=by decide +kernel
 exact DQ F DA rfl λ_ _ _ _ _ _ e _=>(AR (AX (Cq (B9 rfl (KW rfl d (Bl (Af DT (BU FV rfl c ABC (Bl (AH 0))) AJ))) (Bu (own:=1) (ix:= [0]) (N:= ["at","plan" ]) rfl rfl rfl rfl rfl rfl (λ_ _ _ _ _ _=>(JO 0 a)) (λ_ _ _ _ _ _=>BI) (λ_ _ _ _ _ _=>(AK b e rfl (Ao (AU (AH 1) (AH 0)) (AU (AH 1) (Af Ay (AH 0) AJ))))))))))
theorem UH (F:Z1 K "negative" JH f U):Z2 P w K Z Y n f U ["number"] 1 Dy:=DQ F DA rfl λ_ _ _ _ _ _ _ _=>(AR (AX (Ag (Ao (GE (AU (AH 0) AJ)) (AU (AH 0) AJ)))))
theorem LG (F:Z1 K "shared_bottom" EL f U)(b:TZ P w K Z Y n):Z2 P w K Z Y n f U ["numbers","told","top","bottom"] 1 CV:=DQ F DA rfl λ_ _ _ _ _ _ c a=>(AM (Ch 1 a AJ) (AM (Bn AAP rfl (DM (AH 0)) (Cg (n:=2) rfl (Ae (EI 2 a) (Ae (EI 3 a) Bx))) (AR (c5 (i:=1) a rfl (Or.inl rfl) (Af GH (AH 3) (AK b c rfl (Ao (AH 1) (AH 3)))) lC))) (AR (AX (AH 1)))))
theorem UI (F:Z1 K "plane_of" JI f U)(c:MM P w K Z Y n)(d:Z "tuple" =none):Z2 P w K Z Y n f U ["form","strict","number","shared","numbers"] 3 CM:=by
 have a:(["top","bottom","shared"] :zy Str).Nodup:=by decide +kernel
 exact DQ F DA rfl λ_ _ _ _ _ _ e b=>(AM (GJ (i:=3) b rfl (Or.inr rfl) (AK c e rfl (Bl (AH 0)))) (AM (Ch 4 b (BA Ca rfl d AA7 (Bl (Cq (B9 rfl (DM (AH 0)) (Bu (own:=2) (ix:= [3]) (N:= ["top","bottom" ,"shared" ]) rfl rfl rfl rfl rfl rfl (λ_ _ _ _ _ _=>(OZ (n:=2) rfl (C1 (JO 0 a) (C1 (JO 1 a) KY)))) (λ_ _ _ _ _ _=>BI) (λ_ _ _ _ _ _=>(Af BG (AH 0) (Af GH (AH 2) (AH 1)))))))))) (AR (AX (Ag (Ew (AH 4) (AH 1) (ku (AH 2) (AH 3))))))))
theorem RX (F:Z1 K "planes_in" HL f U)(g:Q7 P w K Z Y n)(h:Vc P w K Z Y n)(e:Vd P w K Z Y n)(j:Z "len" =none)(k:Z "zip" =none)(a:Kc K Z "BACK" (.tup [(.int (-1)),(.int 1)]))(b:Kc K Z "ONCE" (.tup [(.int 1),(.int 1)])):Z2 P w K Z Y n f U ["piece","walls","planes","begin","end","lines","base","slope","low","high"] 2 ED:=DQ F DA rfl λ_ _ _ _ _ _ c d=>(AM (SU (AH 0) (Cg (n:=3) rfl (Ae (EI 3 d) (Ae (EI 4 d) (Ae (EI 5 d) Bx))))) (AM (D7 (i:=2) d rfl (Or.inl rfl) (BJ (Ao (AK e c rfl (Ew (Ag (Ao (AK h c rfl (Bl (AH 3))) (Ub b rfl))) AJ AJ)) (AK e c rfl (Ew (Ag (Ao (AH 4) (Ub a rfl))) AJ AJ))))) (AM (Bn AAP rfl (ZP rfl k (Ao (AH 5) (AH 1))) (Cg (n:=2) rfl (Ae (Cg (n:=2) rfl (Ae (EI 6 d) (Ae (EI 7 d) Bx))) (Ae (Cg (n:=2) rfl (Ae (EI 8 d) (Ae (EI 9 d) Bx))) Bx))) (AM (CF (i:=2) AAv AAw Bb (Bl (OU (AK e c rfl (Ew (Ag (Ao (AK g c rfl (Ao (AH 6) (AH 8))) (AH 7))) AJ (BU FV rfl j ABC (Bl (AH 2)))))))) (AR (CF (i:=2) AAv AAw Bb (Bl (OU (AK e c rfl (Ew (Ag (Ao (AK g c rfl (Ao (AH 9) (AH 6))) (AK h c rfl (Bl (AH 7))))) AJ (BU FV rfl j ABC (Bl (AH 2))))))))))) (AR (AX (AH 2))))))
theorem UJ (F:Z1 K "range_in" JJ f U)(c:Nu P w K Z Y n)(d:Nv P w K Z Y n)(e:QF P w K Z Y n):Z2 P w K Z Y n f U ["planes","at","low","least","high","greatest"] 2 Eh:=DQ F DA rfl λ_ _ _ _ _ _ a b=>(AM (Ch 2 b (AK d a rfl (Ew (AH 0) (AH 1) AJ))) (AM (Ch 3 b (AK e a rfl (Ao (AH 2) (AH 1)))) (AM (Ch 3 b (AK c a rfl (Ao (AU (AH 3) AJ) (AU (AH 3) AJ)))) (AM (Ch 4 b (AK d a rfl (Ew (AH 0) (AH 1) (GE AJ)))) (AM (BY (FY GI (AH 4) Bm) (AR (AX (Ag (Ew (AH 3) (Af DT AJ (AU (AH 2) AJ)) Bm)))) A5) (AM (Ch 5 b (AK e a rfl (Ao (AH 4) (AH 1)))) (AR (AX (Ag (Ew (AH 3) (Af DT AJ (AU (AH 2) AJ)) (AK c a rfl (Ao (AU (AH 5) AJ) (AU (AH 5) AJ)))))))))))))
theorem RV (F:Z1 K "own_stays" HJ f U)(c:VZ P w K Z Y n)(d:Td P w K Z Y n)(e:Te P w K Z Y n)(g:Ve P w K Z Y n):Z2 P w K Z Y n f U ["plan","walls","told","piece","planes"] 2 EB:=DQ F DA rfl λ_ _ _ _ _ _ a b=>(AM (D7 (i:=2) b rfl (Or.inl rfl) (BJ Dp)) (AM (Bn AAP rfl (DM (AK d a rfl (Bl (AH 0)))) (EI 3 b) (AM (Ch 4 b (AK e a rfl (Ao (AH 3) (AH 1)))) (AR (BY (FY GI (AK c a rfl (Ao (AH 4) AJ)) Bm) (AR (CF (i:=2) AAv AAw Bb (Bl (AK g a rfl (Ao (AH 4) AJ))))) A5)))) (AR (AX (AH 2)))))
theorem V4 (F:Z1 K "size_of" LQ f U):Z2 P w K Z Y n f U ["apart","side"] 2 EY:=DQ F DA rfl λ_ _ _ _ _ _ a _=>(AR (AX (Uc (FY (Du a) (AH 1) AJ) (AU (AH 0) AJ) (AU (AH 0) AJ))))
theorem UN (F:Z1 K "walls_of" JM f U)(c:Q7 P w K Z Y n)(d:ah P w K Z Y n)(e:Yq P w K Z Y n)(g:Z "range" =none):Z2 P w K Z Y n f U ["room","bounds","told","side","off"] 2 Ei:=DQ F DA rfl λ_ _ _ _ _ _ a b=>(AM (D7 (i:=2) b rfl (Or.inl rfl) (BJ Dp)) (AM (Bn AAP rfl (KW rfl g (Bl AJ)) (EI 3 b) (AM (Ch 4 b (AK e a rfl (Ao (AH 1) (AH 3)))) (AR (CF (i:=2) AAv AAw Bb (Bl (Ag (Ao (AK c a rfl (Ao (AU (AU (AH 0) AJ) (AH 3)) (AH 4))) (AK d a rfl (Ao (AU (AU (AH 0) AJ) (AH 3)) (AH 4)))))))))) (AR (AX (AH 2)))))
theorem bP (F:Z1 K "stays" Rx f U)(c:Vb P w K Z Y n)(d:Tc P w K Z Y n)(e:Vg P w K Z Y n):Z2 P w K Z Y n f U ["flight","room","plan","bounds"] 2 HY:=DQ F DA rfl λ_ _ _ _ _ _ a b=>(AM (SU (AH 0) (Cg (n:=2) rfl (Ae (EI 2 b) (Ae (EI 3 b) Bx)))) (AR (AX (AK c a rfl (Ao (AK d a rfl (Ao (AH 2) (AK e a rfl (Ao (AH 1) (AH 3))))) (AU (AH 3) AJ))))))
theorem RT (F:Z1 K "all_stays" HH f U)(b:eV P w K Z Y n):Z2 P w K Z Y n f U ["flights","room"] 2 DV:=by
 have a:(["flight","room"] :zy Str).Nodup:=by decide +kernel
 exact DQ F DA rfl λ_ _ _ _ _ _ c _=>(AR (AX (Cq (B9 rfl (DM (AH 0)) (Bu (own:=1) (ix:= [1]) (N:= ["flight","room" ]) rfl rfl rfl rfl rfl rfl (λ_ _ _ _ _ _=>(JO 0 a)) (λ_ _ _ _ _ _=>BI) (λ_ _ _ _ _ _=>(AK b c rfl (Ao (AH 0) (AH 1)))))))))
theorem LD (F:Z1 K "all_stretches" EJ f U)(b:Nw P w K Z Y n):Z2 P w K Z Y n f U ["sets"] 1 CU:=by
 have a:(["stretch","stretches"] :zy Str).Nodup:=by decide +kernel
 exact DQ F DA rfl λ_ _ _ _ _ _ c _=>(AR (AX (Cq (cm rfl (DM (AH 0)) (eF (own:=2) (own2:=1) (ix:= []) (N:= ["stretch","stretches" ]) rfl rfl rfl rfl rfl rfl (by decide) (λ_ _ _ _ _ _=>(JO 1 a)) (λ_ _ _ _ _ _=>BI) (λ_ _ _ _ _ _=>(DM (AK b c rfl (Bl (AH 1))))) (λ_ _ _ _ _ _=>(JO 0 a)) (λ_ _ _ _ _ _=>BI) (λ_ _ _ _ _ _=>(AH 0)))))))
theorem V3 (F:Z1 K "many_of" LP f U)(b:MK P w K Z Y n)(c:QD P w K Z Y n):Z2 P w K Z Y n f U ["sets","n"] 2 EW:=DQ F DA rfl λ_ _ _ _ _ _ a _=>(AR (AX (AK c a rfl (Ao (AK b a rfl (Bl (AH 0))) (AH 1)))))
theorem fT (F:Z1 K "full" WI f U)(b:Ln P w K Z Y n)(c:QE P w K Z Y n):Z2 P w K Z Y n f U ["flights","room"] 2 Kr:=DQ F DA rfl λ_ _ _ _ _ _ a _=>(AR (AX (AK c a rfl (Ao (AK b a rfl (Ao (AH 0) (AH 1))) (AU (AH 1) AJ)))))
theorem RU (F:Z1 K "over_full" HI f U)(b:Ln P w K Z Y n)(c:QE P w K Z Y n):Z2 P w K Z Y n f U ["flights","room"] 2 EA:=DQ F DA rfl λ_ _ _ _ _ _ a _=>(AR (AX (AK c a rfl (Ao (AK b a rfl (Ao (AH 0) (AH 1))) (Af Ay (AU (AH 1) AJ) AJ)))))
theorem j3 (F:Z1 K "law" QO f U)(d:Cw P w K Z Y n)(k:Nt P w K Z Y n)(e:TQ P w K Z Y n)(l:TU P w K Z Y n)(o:TV P w K Z Y n)(p:K4 P w K Z Y n)(r:TX P w K Z Y n)(g:jX P w K Z Y n)(s:Ta P w K Z Y n)(h:Z "len" =none)(t:Z "max" =none)(u:Z "min" =none)(v:Z "range" =none)(j:Z "str" =none)(x:Z "tuple" =none):Z2 P w K Z Y n f U ["_law_script","_law_k","_law_tape_here","_law_flights_here","_law_room_here","_law_sets","_law_handed","_law_kept","_law_found","_law_due","_law_name","_law_low","_law_high","_law_most"] 1 EV:=by
 have c:(["_law_flight","_law_room_here"] :zy Str).Nodup:=by decide +kernel
 exact DQ F DA rfl λ_ _ _ _ _ _ a b=>(AM (Bn AAP rfl (KW rfl v (Bl (Af Ay AJ (BU (kq rfl) rfl u boot_min (Ao AJ (BU FV rfl h ABC (Bl (AH 0)))))))) (EI 1 b) (AM (Ch 2 b (AK r a rfl (Ao (AH 0) (AH 1)))) (AM (Ch 3 b (AK k a rfl (Bl (AH 2)))) (AM (SU (AK l a rfl (Bl (AH 2))) (Cg (n:=4) rfl (Ae (EI 10 b) (Ae (EI 11 b) (Ae (EI 12 b) (Ae (EI 13 b) Bx)))))) (AM (BY (FY (Du a) (AK d a rfl (Ao (AH 2) AJ)) AJ) (AR (Ch 13 b (BU (ca rfl) rfl t boot_max (Ao AJ (BU FV rfl h ABC (Bl (AH 3))))))) A5) (AM (GJ (i:=4) b rfl (Or.inr rfl) (Ag (Ck (AH 10) (Ew (AH 11) (AH 12) (AH 13))))) (AM (HP (i:=5) rfl b rfl (Or.inl rfl) (DM (AH 3)) (Bu (own:=1) (ix:= [4]) (N:= ["_law_flight","_law_room_here" ]) rfl rfl rfl rfl rfl rfl (λ_ _ _ _ _ _=>(JO 0 c)) (λ_ _ _ _ _ _=>BI) (λ_ _ _ _ _ _=>(AK p a rfl (Ao (AH 0) (AH 1)))))) (AM (Ch 6 b (AU (Cq (BJ (Ao (AH 3) (BA Ca rfl x AA7 (Bl (AH 3)))))) (AK d a rfl (Ao (AH 2) AJ)))) (AM (Ch 7 b (BA (R0 a) rfl j boot_str (Bl (AH 6)))) (AM (Ch 8 b (Cq (BJ (Ew (AK g a rfl (Ao (AH 6) (AH 4))) (AK s a rfl (Ao (AH 6) (AH 4))) (AK g a rfl (Ao (AH 6) (AH 4))))))) (AM (Ch 9 b (AK e a rfl (Ao (AH 5) (AH 13)))) (AR (BY (HR (QV (SV (CK (AK o a rfl (Ao (AH 8) (Cq (BJ (Ew (AH 9) (AK e a rfl (Ao (AH 5) (Af Ay (AH 13) AJ))) (AH 9)))))))) (LY (FY (QR a) (BA (R0 a) rfl j boot_str (Bl (AH 6))) (AH 7))))) (AR (AX OT)) A5))))))))))))) (AR (AX OT)))
end
def jZ {P:zp}{w:zm}{K:AAB}{Z:Str->zt zx}{Y:zl}{k:Nat}{x:Str}{st:Stmt}{a:zy Str}{sp:Sp}{f:zu}{U:FuncData}(F:U6 K x x st f U)(b:Binds K U a [])(m:Z x=some (.ref f))(G:Ej P w K Z Y Sy k f U a sp):Has P w K Z Y k x a sp:=⟨f,U,m,F.kp,b,G⟩
def nQ {us:zy zx}(hl:us.length=1):∃a:zx,us= [a] :=by match us,hl with | [a],_=>exact⟨_,rfl⟩
def nR {us:zy zx}(hl:us.length=2):∃a b:zx,us= [a,b] :=by match us,hl with | [a,b],_=>exact⟨_,_,rfl⟩
def nU {us:zy zx}(hl:us.length=3):∃a b c:zx,us= [a,b,c] :=by match us,hl with | [a,b,c],_=>exact⟨_,_,_,rfl⟩
def nV {us:zy zx}(hl:us.length=4):∃a b c d:zx,us= [a,b,c,d] :=by match us,hl with | [a,b,c,d],_=>exact⟨_,_,_,_,rfl⟩
def C2 (K:AAB)(x:Str)(st:Stmt)(f:zu):Prop:=PySem.W.nsIn K mainGlobals x=some (some (.ref f))/\∃U,U6 K x x st f U
def wW {K:AAB}{x:Str}{st:Stmt}{f:zu}{g:zx}{h i:zt zu}{d:Array (zt zx)}{kV e j b ct:zx}(a:PySem.W.nsIn K mainGlobals x=some (some (.ref f)))(l:K.lookup f=some ⟨g,h, .func (PySem.W.fnOf x x (F2 st) (D9 st) (BQ st) .none kV e j i b ct),d⟩)(c:PySem.W.codeIn K b x=true)(k:PySem.W.keepIn K (.ref f)=true):C2 K x st f:=⟨a,_,aY l c k⟩
def qd {P:zp}{w:zm}{K:AAB}{h Y:zl}{Z:Str->zt zx}{k:Nat}{x:Str}{st:Stmt}{c:zy Str}{sp:Sp}{f:zu}(A:C2 K x st f)(X:K.In h)(G:h.Ns mainGlobals Z)(g:∀U,U6 K x x st f U->Binds K U c [] ->Z x=some (.ref f)->Ej P w K Z Y Sy k f U c sp)(b:∀U,U6 K x x st f U->Binds K U c [] :=by exact λ_ F=>F.binds λ_ _ _ _ _ _ us hl=>by first | (obtain⟨_,rfl⟩:=nQ hl;rfl)|(obtain⟨_,_,rfl⟩:=nR hl;rfl)|(obtain⟨_,_,_,rfl⟩:=nU hl;rfl)|(obtain⟨_,_,_,_,rfl⟩:=nV hl;rfl)):Has P w K Z Y k x c sp:=
 let ⟨a,U,F⟩:=A;jZ F (b U F) (ACW X G a) (g U F (b U F) (ACW X G a))
def all_mk {l:PySem.W.OpenLaw}{w:zm}{K:AAB}{h:zl}{Z:Str->zt zx}{fa f1 f2 f3 f4 f5 f6 f7 f8 f9 J L M N O P Q R S T f20 f21 f22 f23 f24 f25 f26 f27 f28 f29 f30 f31 f32 f33 f34 f35 f36 f37 f38 f39 f40 f41 f42 f43 f44 f45 f46 f47 f48 f49 f50 f51 f52 f53 f54 f55 f56 f57 f58 f59 f60 f61 f62 f63 f64 f65 f66 f67:zu}(X:K.In h)(G:h.Ns mainGlobals Z)(w6:Z "law" =some (.ref fa))(a1:C2 K "_law_draw" FB f1)(a2:C2 K "_law_bounds" FR f2)(a3:C2 K "_law_part" HB f3)(a4:C2 K "_law_sum" JD f4)(a5:C2 K "_law_far" I0 f5)(a6:C2 K "_law_place" GA f6)(a7:C2 K "_law_span" HF f7)(a8:C2 K "_law_plan" HC f8)(a9:C2 K "_law_flights" Er f9)(a10:C2 K "_law_less" G9 J)(a11:C2 K "_law_is_in" F8 L)(a12:C2 K "_law_count" F7 M)(a13:C2 K "_law_product" Et N)(a14:C2 K "_law_middles" Es O)(a15:C2 K "_law_rising" FT P)(a16:C2 K "_law_set" JC Q)(a17:C2 K "_law_many" HA R)(a18:C2 K "_law_off" JA S)(a19:C2 K "_law_room" HD T)(a20:C2 K "_law_same" HE f20)(a21:C2 K "_law_box" Iz f21)(a22:C2 K "_law_may_be" FS f22)(a23:C2 K "_law_ratio" GB f23)(a24:C2 K "_law_spot" HG f24)(a25:C2 K "_law_is_inside" D4 f25)(a26:C2 K "_law_marks" F9 f26)(a27:C2 K "_law_own" JB f27)(a28:C2 K "_law_stays_due" D5 f28)(a29:C2 K "_law_tape" FC f29)(a30:C2 K "common" OO f30)(a31:C2 K "part" WK f31)(a32:C2 K "plus" WL f32)(a33:C2 K "before" ON f33)(a34:C2 K "count_below" FU f34)(a35:C2 K "rising" OQ f35)(a36:C2 K "steps_of" GD f36)(a37:C2 K "levels" OP f37)(a38:C2 K "counted" LN f38)(a39:C2 K "told_set" JL f39)(a40:C2 K "later_by" JG f40)(a41:C2 K "summed" OR f41)(a42:C2 K "crossed" LO f42)(a43:C2 K "is_never" JF f43)(a44:C2 K "turn_of" LR f44)(a45:C2 K "is_tighter" GC f45)(a46:C2 K "tightest" JK f46)(a47:C2 K "fault_in" JE f47)(a48:C2 K "minus" Rv f48)(a49:C2 K "over" WJ f49)(a50:C2 K "times" Ry f50)(a51:C2 K "piece_between" EK f51)(a52:C2 K "pieces_of" HK f52)(a53:C2 K "negative" JH f53)(a54:C2 K "shared_bottom" EL f54)(a55:C2 K "plane_of" JI f55)(a56:C2 K "planes_in" HL f56)(a57:C2 K "range_in" JJ f57)(a58:C2 K "own_stays" HJ f58)(a59:C2 K "size_of" LQ f59)(a60:C2 K "walls_of" JM f60)(a61:C2 K "stays" Rx f61)(a62:C2 K "all_stays" HH f62)(a63:C2 K "all_stretches" EJ f63)(a64:C2 K "many_of" LP f64)(a65:C2 K "full" WI f65)(a66:C2 K "over_full" HI f66)(E:C2 K "law" QO f67)(o:PySem.W.nsIn K mainGlobals "abs" =some none)(p:PySem.W.nsIn K mainGlobals "all" =some none)(r:PySem.W.nsIn K mainGlobals "any" =some none)(a:PySem.W.nsIn K mainGlobals "enumerate" =some none)(t:PySem.W.nsIn K mainGlobals "int" =some none)(u:PySem.W.nsIn K mainGlobals "len" =some none)(f:PySem.W.nsIn K mainGlobals "list" =some none)(x:PySem.W.nsIn K mainGlobals "max" =some none)(y:PySem.W.nsIn K mainGlobals "min" =some none)(b:PySem.W.nsIn K mainGlobals "range" =some none)(z:PySem.W.nsIn K mainGlobals "str" =some none)(c:PySem.W.nsIn K mainGlobals "tuple" =some none)(A:PySem.W.nsIn K mainGlobals "zip" =some none){qBACK_2:Tok}{qBACK_3:Tok}{qBACK_1:zu}{qBACK_1n:Nat}{qBACK_1d:zt zu}{qBACK_1s:Array (zt zx)}{qONCE_5:Tok}{qONCE_6:Tok}{qONCE_4:zu}{qONCE_4n:Nat}{qONCE_4d:zt zu}{qONCE_4s:Array (zt zx)}(a_ONCE:PySem.W.nsIn K mainGlobals "ONCE" =some (some (.ref qONCE_4)))(a_BACK:PySem.W.nsIn K mainGlobals "BACK" =some (some (.ref qBACK_1)))(h_qBACK_1:K.lookup qBACK_1=some ⟨.type "tuple",qBACK_1d, .seq (List.toArray [(.int (-1) qBACK_2),(.int 1 qBACK_3)]) qBACK_1n,qBACK_1s⟩)(h_qONCE_4:K.lookup qONCE_4=some ⟨.type "tuple",qONCE_4d, .seq (List.toArray [(.int 1 qONCE_5),(.int 1 qONCE_6)]) qONCE_4n,qONCE_4s⟩):∃U:FuncData,(∀(s:zw) (v:zx),BindsTo s U ⟨[v], []⟩ [("_law_script",v)])/\∀Y:zl,K.In Y->Y.Ns mainGlobals Z->Ej l.prog w K Z Y Sy 11 fa U ["_law_script"] (Cc K 1 EV):=by have e:=w6.symm.trans (ACW X G E.1);cases e;obtain⟨aL,fdL,FL⟩:=E;obtain⟨⟨oc,od,kV,doc,pm,an,cdv,ct,osl,eL,lL,cL⟩,kL⟩:=FL;subst eL;have FL:=aY lL cL kL;have GW:=AA3 X G o;have dX:=AA3 X G p;have dY:=AA3 X G r;have De:=AA3 X G a;have Kb:=AA3 X G t;have g:=AA3 X G u;have Wq:=AA3 X G f;have QY:=AA3 X G x;have dZ:=AA3 X G y;have k:=AA3 X G b;have Ly:=AA3 X G z;have d:=AA3 X G c;have B:=AA3 X G A;have i:Kc K Z "BACK" (.tup [(.int (-1)),(.int 1)]):=iK (ACW X G a_BACK) (Xw h_qBACK_1 (.cons Mh (.cons Mh .nil)));have j:Kc K Z "ONCE" (.tup [(.int 1),(.int 1)]):=iK (ACW X G a_ONCE) (Xw h_qONCE_4 (.cons Mh (.cons Mh .nil)));refine⟨PySem.W.fnOf "law" "law" (F2 QO) (D9 QO) (BQ QO) .none kV doc pm an cdv ct,λs v=> .of_eq rfl,λY _ _=> ?_⟩;have hs:= @qd l.prog w K h Y Z;have H1:=hs a1 X G λ_ F _ _=>RJ (n:=0) F;have H2:=hs a2 X G λ_ F _ _=>OA (n:=1) F (BS H1);have C:=hs a3 X G λ_ F _ _=>RM (n:=0) F GW Kb;have m:=hs a4 X G λ_ F _ _=>UD (n:=1) F (BS C);have H5:=hs a5 X G λ_ F _ _=>T9 (n:=2) F (BS m) d;have H6:=hs a6 X G λ_ F _ _=>PX (n:=1) F (BS H1) (BS C);have H7:=hs a7 X G λ_ F _ _=>RQ (n:=1) F (BS H1) (BS C);have H8:=hs a8 X G λ_ F _ _=>RN (n:=2) F (BS H1) (BS H6) (BS H7) (BS m) g d;have H9:=hs a9 X G λ_ F _ _=>MO (n:=3) F (BS H2) (BS H1) (BS H5) (BS H8) Kb k;have D:=hs a10 X G λ_ F _ _=>RK (n:=0) F;have lZ:=hs a11 X G λ_ F _ _=>PR (n:=1) F (BS D) dY;have vf:=hs a12 X G λ_ F _ _=>PQ (n:=2) F (BS lZ) g;have p9:=hs a13 X G λ_ F _ _=>MQ (n:=1) F (BS C);have qA:=hs a14 X G λ_ F _ _=>MP (n:=2) F (BS p9) (BS m) B;have qB:=hs a15 X G λ_ F _ _=>OC (n:=1) F (BS D) g;have qC:=hs a16 X G λ_ F _ _=>UC (n:=0) F De d;have vg:=hs a17 X G λ_ F _ _=>RL (n:=3) F (BS vf) (BS qA) (BS qB) (BS qC);have H:=hs a18 X G λ_ F _ _=>UA (n:=1) F (BS C);have vh:=hs a19 X G λ_ F _ _=>RO (n:=2) F (BS H1) (BS H) (BS H6) (BS H7) (BS m) k d;have vi:=hs a20 X G λ_ F _ _=>RP (n:=0) F Ly;have vj:=hs a21 X G λ_ F _ _=>T8 (n:=2) F (BS H) (BS m) k d;have vk:=hs a22 X G λ_ F _ _=>OB (n:=2) F (BS D) (BS H);have tU:=hs a23 X G λ_ F _ _=>PY (n:=1) F (BS C);have vn:=hs a24 X G λ_ F _ _=>RR (n:=2) F (BS D) (BS H) (BS p9) (BS tU) (BS m) k d B;have vo:=hs a25 X G λ_ F _ _=>J7 (n:=3) F (BS D) (BS vn) dX k;have vp:=hs a26 X G λ_ F _ _=>PU (n:=2) F (BS D) (BS H) (BS p9) (BS tU) (BS qB) (BS m) De B;have vq:=hs a27 X G λ_ F _ _=>UB (n:=4) F (BS vo) (BS vp) (BS qA) (BS qC);have vt:=hs a28 X G λ_ F _ _=>J8 (n:=5) F (BS vj) (BS vk) (BS qA) (BS vq) (BS qB) (BS qC) (BS m);have vw:=hs a29 X G λ_ F _ _=>RS (n:=0) F GW Kb g;have tV:=hs a30 X G λ_ F _ _=>ZC (n:=0) F;have I:=hs a31 X G λ_ F _ _=>fV (n:=1) F (BS tV) GW;have tW:=hs a32 X G λ_ F _ _=>fW (n:=2) F (BS I);have tX:=hs a33 X G λ_ F _ _=>ZB (n:=0) F;have vz:=hs a34 X G λ_ F _ _=>OD (n:=1) F (BS tX) g;have v3:=hs a35 X G λ_ F _ _=>ZE (n:=2) F (BS vz) g;have v4:=hs a36 X G λ_ F _ _=>UK (n:=0) F;have v5:=hs a37 X G λ_ F _ _=>ZD (n:=3) F (BS v3) (BS v4) Wq;have tY:=hs a38 X G λ_ F _ _=>V1 (n:=4) F (BS v5) d;have tZ:=hs a39 X G λ_ F _ _=>UM (n:=5) F (BS tY);have v6:=hs a40 X G λ_ F _ _=>UG (n:=6) F (BS tW) (BS tZ);have v7:=hs a41 X G λ_ F _ _=>ZF (n:=0) F QY d B;have v9:=hs a42 X G λ_ F _ _=>V2 (n:=1) F (BS v7);have wA:=hs a43 X G λ_ F _ _=>UF (n:=0) F;have tf:=hs a44 X G λ_ F _ _=>V5 (n:=0) F;have wB:=hs a45 X G λ_ F _ _=>PZ (n:=1) F (BS tX) (BS tf);have tj:=hs a46 X G λ_ F _ _=>UL (n:=2) F (BS wB);have wC:=hs a47 X G λ_ F _ _=>UE (n:=3) F (BS v9) (BS wA) (BS tj);have qD:=hs a48 X G λ_ F _ _=>bO (n:=2) F (BS I);have wD:=hs a49 X G λ_ F _ _=>fU (n:=2) F (BS I);have wE:=hs a50 X G λ_ F _ _=>bQ (n:=2) F (BS I);have wF:=hs a51 X G λ_ F _ _=>LF (n:=3) F (BS qD) (BS wD) (BS wE) B;have wG:=hs a52 X G λ_ F _ _=>RW (n:=4) F (BS wF) g k;have wH:=hs a53 X G λ_ F _ _=>UH (n:=0) F;have wI:=hs a54 X G λ_ F _ _=>LG (n:=1) F (BS tV);have wJ:=hs a55 X G λ_ F _ _=>UI (n:=2) F (BS wI) d;have wK:=hs a56 X G λ_ F _ _=>RX (n:=3) F (BS qD) (BS wH) (BS wJ) g B i j;have wL:=hs a57 X G λ_ F _ _=>UJ (n:=3) F (BS I) (BS tj) (BS tf);have wM:=hs a58 X G λ_ F _ _=>RV (n:=5) F (BS wC) (BS wG) (BS wK) (BS wL);have wN:=hs a59 X G λ_ F _ _=>V4 (n:=0) F;have wO:=hs a60 X G λ_ F _ _=>UN (n:=3) F (BS qD) (BS tW) (BS wN) k;have wP:=hs a61 X G λ_ F _ _=>bP (n:=7) F (BS v6) (BS wM) (BS wO);have tq:=hs a62 X G λ_ F _ _=>RT (n:=8) F (BS wP);have wQ:=hs a63 X G λ_ F _ _=>LD (n:=6) F (BS tZ);have tw:=hs a64 X G λ_ F _ _=>V3 (n:=7) F (BS wQ) (BS tY);have wR:=hs a65 X G λ_ F _ _=>fT (n:=9) F (BS tq) (BS tw);have wS:=hs a66 X G λ_ F _ _=>RU (n:=9) F (BS tq) (BS tw);exact j3 (n:=10) FL (BS H1) (BS H9) (BS vg) (BS vh) (BS vi) (BS vt) (BS vw) (BS wR) (BS wS) g QY dZ k Ly d
def walk {l:PySem.W.OpenLaw}{q:zp}{loose:zy Str}{XP:(Str->zt zx)->zl->Prop}{YP:zm->zl->Prop}{d:DefRec}{K:Params->AAB}(c:l.most=some 63)(e:d.params.defaults= [])(g:∀(w:zm) (h:zl),YP w h->(K w.params).In h)(F:∀(w:zm) (Z:Str->zt zx) (b:zu) (h:zl),(K w.params).In h->h.Ns mainGlobals Z->Z d.name=some (.ref b)-> ∃U:FuncData,(∀(s:zw) (u:zx),BindsTo s U ⟨[u], []⟩ [("_law_script",u)])/\∀Y:zl,(K w.params).In Y->Y.Ns mainGlobals Z->Ej l.prog w (K w.params) Z Y Sy 11 b U ["_law_script"] (Cc (K w.params) 1 EV)):PySem.W.WalkO q loose XP YP l.row.toRowW d [] (λf vs=>PySem.call f vs):=
 L2.walk_of (n:=63) (k:=11) (x:="_law_script") (CX:=λ_=>Sy) (sp:=λw=>Cc (K w.params) 1 EV) c (by decide) e ⟨rfl,by decide,by decide,rfl⟩ g F (λ_ _ a i hl _ j=>PL.law_sp j (bJ i hl)) λ_ _ _ _ _ z=>z
def atK {K:AAB}{x:String}{s:Stmt}(m:String)(i c f:Nat)(a:PySem.W.nsIn K mainGlobals (Str.ofString x)=some (some (.ref f)):=by kernel_rfl)(l:K.lookup f=some (fO x s m i c):=by kernel_rfl)(d:PySem.W.codeIn K (.ref c) (Str.ofString x)=true:=by kernel_rfl)(k:PySem.W.keepIn K (.ref f)=true:=by kernel_rfl):C2 K (Str.ofString x) s f:=wW a l d k
end K42
open PySem PySem.W PyProof.Rows
def K42.lg:LeftO K42.pwA K42.q [] (λs=>xlAt K42.q [] s&&recOk [] s) (λs=>K42.KA.map s.heap.get?) (λw=>(K42.KK w.params).map λp=>some p.2) 6000:=λw=>PL.map_pair (PL.map5 (K42.l0 w) (K42.l1 w) (K42.l2 w) (K42.l3 w) (K42.l4 w)) (K42.l5 w)
theorem PySem.Challenge.cw_skylanes_k42_full_and_over_full_holds : PySem.Challenge.rw_skylanes_k42_full_and_over_full.Holds := by
 refine ⟨K42.w1, ?_⟩
 refine PySem.W.holds_open (q:=K42.q) (loose:= []) (Xt:=λs=>xlAt K42.q [] s&&recOk [] s) (XP:=XL K42.q []) (YP:=InK K42.KK) (N:=6000) K42.lg (InK.of (as:=K42.KA) λ_=>by kernel_rfl) InK.keeps (λs e=>xl_of s (Bool.and_eq_true_iff.mp e).1) XL.keeps (by rfl) (by rfl) (by rfl) (λs e=>recFacts_of (Bool.and_eq_true_iff.mp e).2) (by rfl) K42.w0 (by decide +kernel) ⟨rfl,rfl,rfl,rfl,rfl,by decide +kernel⟩ ?hw ?hc
 (case hw=>w_witness2)
 case hc=>
 refine K42.walk (l:=PySem.Challenge.rw_skylanes_k42_full_and_over_full) (K:=K42.KK) rfl rfl (λw h Y=>Y) ?F
 intro w mg fa h KX G nA
 refine' K42.all_mk KX G nA (K42.atK K42.m0 547 276 277) (K42.atK K42.m0 547 346 347) (K42.atK K42.m0 547 283 284) (K42.atK K42.m0 547 297 298) (K42.atK K42.m0 547 417 418) (K42.atK K42.m0 547 325 326) (K42.atK K42.m0 547 332 333) (K42.atK K42.m0 547 339 340) (K42.atK K42.m0 547 424 425) (K42.atK K42.m0 547 290 291) (K42.atK K42.m0 547 395 396) (K42.atK K42.m0 547 429 430) (K42.atK K42.m0 547 311 312) (K42.atK K42.m0 547 378 379) (K42.atK K42.m0 547 363 364) (K42.atK K42.m0 547 385 386) (K42.atK K42.m0 547 434 435) (K42.atK K42.m0 547 304 305) (K42.atK K42.m0 547 356 357) (K42.atK K42.m0 547 441 442) (K42.atK K42.m0 547 400 401) (K42.atK K42.m0 547 407 408) (K42.atK K42.m0 547 318 319) (K42.atK K42.m0 547 351 352) (K42.atK K42.m0 547 373 374) (K42.atK K42.m0 547 368 369) (K42.atK K42.m0 547 390 391) (K42.atK K42.m0 547 412 413) (K42.atK K42.m0 547 269 270) (K42.atK K42.m1 187 20 21) (K42.atK K42.m1 187 27 28) (K42.atK K42.m1 187 34 35) (K42.atK K42.m1 187 62 63) (K42.atK K42.m1 187 76 77) (K42.atK K42.m1 187 83 84) (K42.atK K42.m2 277 90 91) (K42.atK K42.m2 277 95 96) (K42.atK K42.m2 277 102 103) (K42.atK K42.m2 277 109 110) (K42.atK K42.m2 277 128 129) (K42.atK K42.m3 354 145 146) (K42.atK K42.m3 354 152 153) (K42.atK K42.m3 354 159 160) (K42.atK K42.m3 354 166 167) (K42.atK K42.m3 354 173 174) (K42.atK K42.m3 354 180 181) (K42.atK K42.m3 354 187 188) (K42.atK K42.m1 187 41 42) (K42.atK K42.m1 187 55 56) (K42.atK K42.m1 187 48 49) (K42.atK K42.m4 440 210 211) (K42.atK K42.m4 440 215 216) (K42.atK K42.m4 440 203 204) (K42.atK K42.m1 187 69 70) (K42.atK K42.m3 354 140 141) (K42.atK K42.m5 475 229 230) (K42.atK K42.m3 354 194 195) (K42.atK K42.m5 475 236 237) (K42.atK K42.m6 344 135 136) (K42.atK K42.m5 475 222 223) (K42.atK K42.m5 475 243 244) (K42.atK K42.m5 475 248 249) (K42.atK K42.m2 277 114 115) (K42.atK K42.m2 277 121 122) (K42.atK K42.m5 475 255 256) (K42.atK K42.m5 475 262 263) (K42.atK K42.m0 547 446 447) (by kernel_rfl) (by kernel_rfl) (by kernel_rfl) (by kernel_rfl) (by kernel_rfl) (by kernel_rfl) (by kernel_rfl) (by kernel_rfl) (by kernel_rfl) (by kernel_rfl) (by kernel_rfl) (by kernel_rfl) (by kernel_rfl) ?a_ONCE ?a_BACK ?h_qBACK_1 ?h_qONCE_4 (qBACK_1:=197) (qBACK_1n:=0) (qBACK_1d:=none) (qBACK_1s:= #[]) (qBACK_2:=446) (qBACK_3:=447) (qONCE_4:=196) (qONCE_4n:=0) (qONCE_4d:=none) (qONCE_4s:= #[]) (qONCE_5:=442) (qONCE_6:=443)
 (case a_ONCE=>kernel_rfl)
 (case a_BACK=>kernel_rfl)
 (case h_qBACK_1=>kernel_rfl)
 (case h_qONCE_4=>kernel_rfl)
end
