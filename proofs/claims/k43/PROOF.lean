import PyProof.Rows.All
import KE.KItem
import KE.IntBitsLaws
import PySem.Challenge.RW_skylanes_k43_fullest
set_option Elab.async false
set_option linter.all false
set_option maxRecDepth 100000
set_option maxHeartbeats 0
abbrev zy:=@List
abbrev zx:=PySem.Value
abbrev zw:=PySem.Shared
abbrev zu:=PySem.Addr
abbrev zt:=@Option
abbrev zr:=PySem.Expr
abbrev km:=Bool
abbrev kj:=PySem.Program
abbrev ki:=PySem.World
abbrev kf:=PySem.Heap
abbrev ke:=PySem.Around
abbrev AAA:=@PySem.wpAny_bind
abbrev AAB:=PySem.W.Frag
abbrev AAC:=@PySem.wpAny_pure
abbrev AAD:=@if_neg
abbrev AAE:=@if_pos
abbrev AAF:=@List.mem_cons
abbrev AAG:=@PySem.Heap.lt_size
abbrev AAH:=@PySem.Heap.get?_push_of_some
abbrev AAI:=@List.length_map
abbrev AAJ:=@Nat.le_refl
abbrev AAK:=@List.map_cons
abbrev AAL:=@Nat.ne_of_lt
abbrev AAM:=@List.mem_map
abbrev AAN:=@List.pairwise_cons
abbrev AAO:=@List.mem_append
abbrev AAP:=@List.map_append
abbrev AAQ:=@PySem.PassesOwn.never
abbrev AAR:=@Bool.false_ne_true
abbrev AAS:=@PySem.Heap.get?_push_size
abbrev AAT:=@List.getElem?_eq_getElem
abbrev AAU:=@List.mem_singleton
abbrev AAV:=@List.size_toArray
abbrev AAW:=@List.mem_append_right
abbrev AAX:=@Nat.lt_of_lt_of_le
abbrev AAY:=@Option.some.inj
abbrev AAZ:=@if_false
abbrev AAa:=@decide_eq_false
abbrev AAb:=@List.getElem?_set_ne
abbrev AAc:=@List.length_cons
abbrev AAd:=@Ne.symm
abbrev AAe:=@List.map_map
abbrev AAf:=@Nat.le_trans
abbrev AAg:=@List.length_append
abbrev AAh:=@or_false
abbrev AAi:=@PySem.wpAny_holding
abbrev AAj:=@List.not_mem_nil
abbrev AAk:=@List.any_eq_true
abbrev AAl:=@List.nil_append
abbrev AAm:=@List.mem_flatMap
abbrev AAn:=@Bool.false_eq_true
abbrev AAo:=@decide_eq_true
abbrev AAp:=@List.getElem?_map
abbrev AAq:=@Bool.and_eq_true
abbrev AAr:=@PySem.wpAny_seqItems
abbrev AAs:=@PySem.wpAny_field
abbrev AAt:=@Nat.le_of_ble_eq_true
abbrev AAu:=@PySem.wpAny_newObj_type
abbrev AAv:=@Nat.ne_of_gt
abbrev AAw:=@Nat.zero_le
abbrev AAx:=@List.foldl_cons
abbrev AAy:=@PySem.F.slot_list_append
abbrev AAz:=@PySem.F.type_list_append
abbrev AA0:=@List.getElem?_eq_some_iff
abbrev AA1:=@PySem.wpAny_standAt
abbrev AA2:=@Bool.eq_iff_iff
abbrev AA3:=@Nat.lt_of_le_of_lt
abbrev AA4:=@List.any_cons
abbrev AA5:=@PySem.W.mg_none_of
abbrev AA6:=@PySem.wpAny_call_entry
abbrev AA7:=@PySem.wpAny_mono
abbrev AA8:=@decide_eq_true_eq
abbrev AA9:=@List.map_congr_left
abbrev ABA:=@PySem.wpAny_rule
abbrev ABB:=@if_true
abbrev ABC:=@Nat.lt_irrefl
abbrev ABD:=@List.getElem?_append_right
abbrev ABE:=@List.filter_cons
abbrev ABF:=@PyProof.Rows.boot_tuple
abbrev ABG:=@PySem.boot_len
abbrev ABH:=@PySem.Heap.size_push
abbrev ABI:=@PySem.Heap.get?_update_other
abbrev ABJ:=@Bool.not_true
abbrev ABK:=@PySem.wpAny_truthy_bool
abbrev ABL:=@List.mem_cons_of_mem
abbrev ABM:=@List.getElem?_append_left
abbrev ABN:=@List.length_replicate
abbrev ABO:=@Rat.num_divInt_den
abbrev ABP:=@decide_eq_decide
abbrev ABQ:=@Option.map_eq_some_iff
abbrev ABR:=@PySem.F.plain_max_loop
abbrev ABS:=@Classical.byContradiction
abbrev ABT:=@Array.length_toList
abbrev ABU:=@List.append_nil
abbrev ABV:=@List.getElem?_replicate
abbrev ABW:=@PySem.wpAny_callSpecial?_slot
abbrev ABX:=@PySem.Heap.get?_update_self
abbrev ABY:=@List.map_nil
abbrev ABZ:=@Int.fdiv_eq_ediv_of_nonneg
abbrev ABa:=@List.getElem_mem
abbrev ABb:=@List.take_of_length_le
abbrev ABc:=@PySem.wpAny_letGo
abbrev ABd:=@of_decide_eq_true
abbrev ABe:=@of_decide_eq_false
abbrev ABf:=@List.find?_cons
abbrev ABg:=@List.foldl_append
abbrev ABh:=@List.length_eq_zero_iff
abbrev ABi:=@PySem.wpAny_specialOf
abbrev ABj:=@List.mem_cons_self
abbrev ABk:=@PySem.wpAny_passesOwn
abbrev ABl:=@List.of_mem_zip
abbrev ABm:=@List.mem_of_getElem?
abbrev ABn:=@List.drop_eq_getElem_cons
abbrev ABo:=@Nat.div_le_self
abbrev ABp:=@Int.natCast_ediv
abbrev ABq:=@Bool.or_eq_true
abbrev ABr:=@List.mem_flatten
abbrev ABs:=@List.dropLast_concat_getLast
abbrev ABt:=@PySem.wpAny_isInstance
abbrev ABu:=@PySem.Paired.length
abbrev ABv:=@List.mem_range
abbrev ABw:=@List.mem_append_left
abbrev ABx:=@List.getElem?_set_self
abbrev ABy:=@PySem.Calls.spliced_cons
abbrev ABz:=@Int.toNat_natCast
abbrev AB0:=@PyProof.Rows.slot_tuple_getitem
abbrev AB1:=@List.all_eq_true
abbrev AB2:=@PySem.wpAny_setField_rec
abbrev AB3:=@Int.natAbs_neg
abbrev AB4:=@Nat.gcd_comm
abbrev AB5:=@Nat.gcd_pos_of_pos_right
abbrev AB6:=@List.pairwise_append
abbrev AB7:=@PySem.wpAny_updateSeq
abbrev AB8:=@PySem.plainId_quiet
abbrev AB9:=@List.flatMap_cons
abbrev ACA:=@Int.le_refl
abbrev ACB:=@List.any_eq_false
abbrev ACC:=@Int.natAbs_natCast
abbrev ACD:=@Rat.mul_pos_iff_of_pos_left
abbrev ACE:=@List.mem_filter
abbrev ACF:=@PyProof.Rows.callWith_type1
abbrev ACG:=@PySem.codeAny_mono
abbrev ACH:=@PySem.mem_of_lookup
abbrev ACI:=@Prod.ext
abbrev ACJ:=@PySem.wpAny_typeOf
abbrev ACK:=@List.getD_eq_getElem?_getD
abbrev ACL:=@PySem.wpAny_pyIter_list
abbrev ACN:=@List.drop_eq_nil_of_le
abbrev ACO:=@Nat.gcd_dvd_right
abbrev ACP:=@List.sum_cons
abbrev ACQ:=@List.map_drop
abbrev ACR:=@List.getLast?_eq_some_getLast
abbrev ACS:=@List.getLast?_cons_cons
abbrev ACT:=@Option.isSome_map
abbrev ACU:=@PySem.F.slot_dict_get
abbrev ACV:=@PySem.F.slot_dict_keyiterator_next
abbrev ACW:=@Nat.zero_add
abbrev ACX:=@List.getElem?_drop
abbrev ACY:=@PySem.wpAny_tryCatch
abbrev ACZ:=@Rat.mul_eq_zero
abbrev ACa:=@Int.emod_nonneg
abbrev ACb:=@Int.emod_lt_of_pos
abbrev ACc:=@PySem.W.mg_of
abbrev ACd:=@PySem.F.slot_tuple_hash
abbrev ACe:=@PySem.wpAny_forIn_list
abbrev ACf:=@PySem.F.slot_tuple_eq
abbrev ACg:=@beq_eq_false_iff_ne
abbrev ACh:=@Nat.le_of_lt
abbrev ACi:=@PySem.wpAny_execs_nil
abbrev ACj:=@PySem.Calls.spliced_nil
abbrev ACk:=@PySem.wpAny_Call_Name_kw
abbrev ACl:=@List.nodup_cons
abbrev ACm:=@PySem.Calls.callWith_builtin
abbrev ACn:=@List.reverse_cons
abbrev ACo:=@List.forIn_cons
abbrev ACp:=@PySem.codeAny_loop
abbrev ACq:=@PySem.wpAny_noted
abbrev ACr:=@PySem.wpAny_comprehension_free
abbrev ACs:=@Nat.lt_trans
abbrev ACt:=@PySem.F.slot_tuple_iterator_next
abbrev ACu:=@PySem.wpAny_setField
abbrev ACv:=@PySem.Heap.SameBut.update
abbrev ACw:=@PySem.Obj.data_mapFields
abbrev ACx:=@PySem.wpAny_of_eq
abbrev ACy:=@PySem.wpAny_onRaise
abbrev ACz:=@PySem.wpAny_attempt
abbrev AC0:=@PySem.F.slot_zip_next
abbrev AC1:=@List.getElem?_set
abbrev AC2:=@Rat.num_divInt
abbrev AC3:=@Rat.div_def
abbrev AC4:=@Nat.le_of_dvd
abbrev AC5:=@Int.natCast_mul
abbrev AC6:=@List.map_take
abbrev AC7:=@List.mem_of_getLast?
abbrev AC8:=@List.length_nil
abbrev AC9:=@PySem.call_meetsIn
abbrev ADA:=@PySem.wpAny_typeNameOfWhole_keyiter
abbrev ADB:=@PySem.wpAny_pyIter_enum
abbrev ADC:=@PySem.codeAny_builtin
abbrev ADD:=@PySem.F.entry_max_loop
abbrev ADE:=@PySem.Around.under_plainId
abbrev ADF:=@decide_eq_true_iff
abbrev ADG:=@Bool.not_eq_true
abbrev ADH:=@List.flatten_cons
abbrev ADI:=@Rat.intCast_mul
abbrev ADJ:=@Rat.intCast_lt_intCast
abbrev ADK:=@Rat.le_refl
abbrev ADL:=@List.countP_eq_length_filter
abbrev ADM:=@PySem.wpAny_tupleItemsOf
abbrev ADN:=@Array.forIn_toList
abbrev ADO:=@Nat.add_assoc
abbrev ADP:=@PySem.isSubtype_tuple_tuple
abbrev ADQ:=@List.getElem?_eq_none_iff
abbrev ADR:=@List.filterMap_cons
abbrev ADS:=@PySem.wpAny_assign_Name
abbrev ADT:=@Int.fmod_eq_emod_of_nonneg
abbrev ADU:=@List.length_take
abbrev ADV:=@PySem.noFill_tuple_add
abbrev ADW:=@PySem.F.slot_tuple_add
abbrev ADX:=@PySem.F.entry_tuple_add
abbrev ADY:=@PySem.F.args_tuple_add_2
abbrev ADZ:=@PySem.Calls.evalArgs_plain
abbrev ADa:=@PySem.wpAny_newFunctionEnv
abbrev ADb:=@PySem.wpAny_updateSeq_pair
abbrev ADc:=@List.take_succ_cons
abbrev ADd:=@Nat.pow_le_pow_right
abbrev ADe:=@Int.natAbs_mul
abbrev ADf:=@Rat.den_divInt
abbrev ADg:=@Int.sign_eq_one_of_pos
abbrev ADh:=@List.cons_append
abbrev ADi:=@PySem.F.entry_dict_get
abbrev ADj:=@PySem.F.args_dict_get_3
abbrev ADk:=@PySem.wpAny_Call_method
abbrev ADl:=@PySem.F.plainAttrs_dict
abbrev ADm:=@PySem.wpAny_dictEntries
abbrev ADn:=@PySem.wpAny_dictEpoch
abbrev ADo:=@Option.bind_eq_some_iff
abbrev ADp:=@Nat.le_add_right
abbrev ADq:=@List.append_assoc
abbrev ADr:=@Prod.mk.injEq
abbrev ADs:=@Rat.intCast_zero
abbrev ADt:=@PySem.W.cellsFrom_some
abbrev ADu:=@PyProof.noPylong_of_log2
abbrev ADv:=@PySem.F.entry_tuple_iterator_next
abbrev ADw:=@PySem.F.args_tuple_iterator_next_1
abbrev ADx:=@Rat.divInt_add_divInt
abbrev ADy:=@Rat.divInt_mul_divInt
abbrev ADz:=@Int.gcd_eq_natAbs_gcd_natAbs
abbrev AD0:=@Int.fdiv_eq_ediv_of_dvd
abbrev AD1:=@Int.sign_eq_neg_one_of_neg
abbrev AD2:=@Rat.divInt_eq_divInt_iff
abbrev AD3:=@PySem.F.type_dict_get
abbrev AD4:=@PySem.F.entry_dict_keyiterator_next
abbrev AD5:=@PySem.F.args_dict_keyiterator_next_1
abbrev AD6:=@Array.getElem?_eq_getElem
abbrev AD7:=@PySem.F.slot_dict_itemiterator_iter
abbrev AD8:=@PySem.F.slot_dict_items
abbrev AD9:=@List.length_filter_le
abbrev AEA:=@List.getElem?_zip_eq_some
abbrev AEB:=@List.countP_mono_left
abbrev AEC:=@List.filter_eq_nil_iff
abbrev AED:=@PySem.F.slot_list_insert
abbrev AEE:=@PySem.F.type_list_insert
section
namespace L2
open PySem
def F8 (s:Stmt):Arguments:=match s with
 | .FunctionDef _ a _ _ _ _ _ _ _ _=>a
 | _=>{posonlyargs:= [],args:= [],vararg:=none,kwonlyargs:= [],kw_defaults:= [],kwarg:=none,defaults:= [] }
def EB (s:Stmt):zy Stmt:=match s with
 | .FunctionDef _ _ b _ _ _ _ _ _ _=>b
 | _=> []
def BO (s:Stmt):Scope:=match s with
 | .FunctionDef _ _ _ _ _ _ sc _ _ _=>sc
 | _=>{kind:= .function,names:= [],isGenerator:=false,isCoroutine:=false}
end L2
namespace K43
open PySem L2 PyProof.Rows
abbrev pwA:=PySem.Challenge.pw_skylanes_k43_fullest
def top (i:Nat):Stmt:=K43.pwA.main.body.getD i (.Pass ⟨0,0,0,0⟩)
abbrev FF:Stmt:=top 46
abbrev FS:Stmt:=top 56
abbrev HJ:Stmt:=top 47
abbrev JL:Stmt:=top 49
abbrev JH:Stmt:=top 69
abbrev GH:Stmt:=top 53
abbrev HN:Stmt:=top 54
abbrev HK:Stmt:=top 55
abbrev Eu:Stmt:=top 70
abbrev HH:Stmt:=top 48
abbrev GF:Stmt:=top 65
abbrev GE:Stmt:=top 71
abbrev Ew:Stmt:=top 51
abbrev Ev:Stmt:=top 62
abbrev FU:Stmt:=top 59
abbrev JK:Stmt:=top 63
abbrev HI:Stmt:=top 72
abbrev JI:Stmt:=top 50
abbrev HL:Stmt:=top 58
abbrev HM:Stmt:=top 73
abbrev JG:Stmt:=top 66
abbrev FT:Stmt:=top 67
abbrev GI:Stmt:=top 52
abbrev HP:Stmt:=top 57
abbrev D6:Stmt:=top 61
abbrev GG:Stmt:=top 60
abbrev JJ:Stmt:=top 64
abbrev D7:Stmt:=top 68
abbrev FG:Stmt:=top 45
abbrev OR:Stmt:=top 1
abbrev WX:Stmt:=top 2
abbrev WY:Stmt:=top 3
abbrev OQ:Stmt:=top 7
abbrev FV:Stmt:=top 9
abbrev OT:Stmt:=top 10
abbrev GK:Stmt:=top 12
abbrev OS:Stmt:=top 13
abbrev LO:Stmt:=top 14
abbrev JT:Stmt:=top 15
abbrev JO:Stmt:=top 18
abbrev OU:Stmt:=top 23
abbrev LP:Stmt:=top 24
abbrev JN:Stmt:=top 25
abbrev LU:Stmt:=top 26
abbrev GJ:Stmt:=top 27
abbrev JS:Stmt:=top 28
abbrev JM:Stmt:=top 29
abbrev R0:Stmt:=top 4
abbrev WW:Stmt:=top 6
abbrev R3:Stmt:=top 5
abbrev EK:Stmt:=top 35
abbrev HS:Stmt:=top 36
abbrev JP:Stmt:=top 34
abbrev EL:Stmt:=top 8
abbrev JQ:Stmt:=top 22
abbrev HU:Stmt:=top 39
abbrev JR:Stmt:=top 30
abbrev HR:Stmt:=top 40
abbrev LS:Stmt:=top 20
abbrev JU:Stmt:=top 38
abbrev R1:Stmt:=top 41
abbrev HQ:Stmt:=top 42
abbrev EJ:Stmt:=top 16
abbrev LR:Stmt:=top 17
abbrev LQ:Stmt:=top 43
abbrev QR:Stmt:=top 74
def m0:String:="law_skylanes_k43_fullest"
def m1:String:="skylanes.fractions"
def m2:String:="skylanes.stretches"
def m3:String:="skylanes.planes"
def m4:String:="skylanes.wedges"
def m5:String:="skylanes.rooms"
def m6:String:="skylanes.nearness"
def eN (P:Params)(x:String)(i:Nat)(v:zx):DictEntry:=⟨PyData.keyHash P (Str.ofString x), .str (Str.ofString x) i,v⟩
abbrev eR (P:Params)(x:String)(i f:Nat):=eN P x i (.ref f)
def fO (x:String)(s:Stmt)(m:String)(i c:Nat):Obj:=⟨.type "function",none, .func (PySem.W.fnOf (Str.ofString x) (Str.ofString x) (F8 s) (EB s) (BO s) .none .none .none (.str (Str.ofString m) i) none (.ref c) .none), #[]⟩
def rV:Nat->zx
 | 0=> .none
 | n+1=> .ref (n+1)
def fc (x:String)(s:Stmt)(m:String)(a c f i l n g b d e h j u:Nat)(r:AAB):AAB:=
 (c,⟨.type "code",none, .fields #[.str (Str.ofString x) i, .str (Str.ofString x) (i+1), .str (Str.ofString "/claim/cut.py") (i+2), .int l 0, .int n 0, .int 0 0, .int 0 0, .int g 0,rV b, .bool true, .int 181 0,rV d, .none,rV e,rV h,rV j, .int u 0, .int l 0, .str (Str.ofString "/claim/cut.py") (u+1)], #[]⟩) ::
 (f,fO x s m a c)::r
def tQ (P:Params):Obj:=⟨.type "dict",none, .dict #[eN P "__name__" 165 (.str (Str.ofString "law_skylanes_k43_fullest") 537),eN P "__doc__" 166 .none,eN P "__package__" 167 .none,eN P "__loader__" 168 (.builtin "__main__.__loader__#opaque"),eN P "__spec__" 169 .none,eR P "__annotations__" 170 6,eR P "__builtins__" 171 4,eN P "__file__" 173 (.str (Str.ofString "/claim/cut.py") 172),eN P "__cached__" 174 .none,eR P "common" 196 21,eR P "part" 205 28,eR P "plus" 213 35,eR P "minus" 221 42,eR P "times" 229 49,eR P "over" 237 56,eR P "before" 245 63,eR P "shared_bottom" 255 70,eR P "count_below" 266 77,eR P "rising" 276 84,eR P "steps_of" 291 91,eR P "levels" 297 96,eR P "counted" 310 103,eR P "told_set" 317 110,eR P "all_stretches" 323 115,eR P "most_in" 329 120,eR P "later_by" 341 127,eR P "size_of" 351 134,eR P "plane_of" 359 139,eR P "summed" 365 144,eR P "crossed" 374 151,eR P "is_never" 382 158,eR P "turn_of" 392 165,eR P "is_tighter" 403 172,eR P "tightest" 414 179,eR P "fault_in" 425 186,eR P "range_in" 437 193,eR P "ONCE" 442 194,eR P "BACK" 446 195,eR P "negative" 453 202,eR P "piece_between" 466 209,eR P "pieces_of" 472 214,eR P "walls_of" 485 221,eR P "planes_in" 501 228,eR P "own_stays" 512 235,eR P "stays" 522 242,eR P "all_stays" 528 247,eR P "fullest" 536 254,eR P "_law_tape" 548 261,eR P "_law_draw" 558 268,eR P "_law_part" 569 275,eR P "_law_less" 577 282,eR P "_law_sum" 585 289,eR P "_law_off" 593 296,eR P "_law_product" 601 303,eR P "_law_ratio" 609 310,eR P "_law_place" 617 317,eR P "_law_span" 625 324,eR P "_law_plan" 637 331,eR P "_law_bounds" 645 338,eR P "_law_spot" 651 343,eR P "_law_room" 657 348,eR P "_law_rising" 667 355,eR P "_law_marks" 673 360,eR P "_law_is_inside" 679 365,eR P "_law_middles" 685 370,eR P "_law_set" 698 377,eR P "_law_own" 704 382,eR P "_law_is_in" 710 387,eR P "_law_box" 716 392,eR P "_law_may_be" 728 399,eR P "_law_stays_due" 734 404,eR P "_law_far" 740 409,eR P "_law_flights" 752 416,eR P "_law_count" 758 421,eR P "_law_many" 764 426,eR P "_law_same" 772 433,eR P "law" 778 438] 77, #[]⟩
def KK (P:Params):AAB:=(3,tQ P)::(fc "_law_draw" FF m0 537 267 268 549 194 2 3 262 263 264 265 266 556 <| fc "_law_bounds" FS m0 537 337 338 638 246 1 3 332 333 334 335 336 643 <| fc "_law_part" HJ m0 537 274 275 559 202 2 3 269 270 271 272 273 567 <| fc "_law_sum" JL m0 537 288 289 578 210 2 3 283 284 285 286 287 583 <| fc "_law_far" JH m0 537 408 409 735 333 1 3 405 406 0 0 407 738 <| fc "_law_place" GH m0 537 316 317 610 218 1 3 311 312 313 314 315 615 <| fc "_law_span" HN m0 537 323 324 618 225 1 3 318 319 320 321 322 623 <| fc "_law_plan" HK m0 537 330 331 626 230 1 3 325 326 327 328 329 635 <| fc "_law_flights" Eu m0 537 415 416 741 335 1 3 410 411 412 413 414 750 <| fc "_law_less" HH m0 537 281 282 570 208 2 3 276 277 278 279 280 575 <| fc "_law_is_in" GF m0 537 386 387 705 312 2 3 383 384 0 0 385 708 <| fc "_law_count" GE m0 537 420 421 753 347 2 3 417 418 0 0 419 756 <| fc "_law_product" Ew m0 537 302 303 594 214 2 3 297 298 299 300 301 599 <| fc "_law_middles" Ev m0 537 369 370 680 294 1 3 366 367 0 0 368 683 <| fc "_law_rising" FU m0 537 354 355 658 267 1 3 349 350 351 352 353 665 <| fc "_law_set" JK m0 537 376 377 686 296 3 3 371 372 373 374 375 696 <| fc "_law_many" HI m0 537 425 426 759 349 2 3 422 423 0 0 424 762 <| fc "_law_off" JI m0 537 295 296 586 212 2 3 290 291 292 293 294 591 <| fc "_law_room" HL m0 537 347 348 652 260 1 3 344 345 0 0 346 655 <| fc "_law_same" HM m0 537 432 433 765 357 2 3 427 428 429 430 431 770 <| fc "_law_box" JG m0 537 391 392 711 314 2 3 388 389 0 0 390 714 <| fc "_law_may_be" FT m0 537 398 399 717 318 3 3 393 394 395 396 397 726 <| fc "_law_ratio" GI m0 537 309 310 602 216 2 3 304 305 306 307 308 607 <| fc "_law_spot" HP m0 537 342 343 646 251 2 3 339 340 0 0 341 649 <| fc "_law_is_inside" D6 m0 537 364 365 674 287 4 3 361 362 0 0 363 677 <| fc "_law_marks" GG m0 537 359 360 668 276 3 3 356 357 0 0 358 671 <| fc "_law_own" JJ m0 537 381 382 699 308 3 3 378 379 0 0 380 702 <| fc "_law_stays_due" D7 m0 537 403 404 729 323 2 3 400 401 0 0 402 732 <| fc "_law_tape" FG m0 537 260 261 539 188 2 3 255 256 257 258 259 546 <| fc "common" OR m1 187 20 21 189 2 2 3 15 16 17 18 19 194 <| fc "part" WX m1 187 27 28 197 6 2 3 22 23 24 25 26 203 <| fc "plus" WY m1 187 34 35 206 11 2 3 29 30 31 32 33 211 <| fc "before" OQ m1 187 62 63 238 19 2 3 57 58 59 60 61 243 <| fc "count_below" FV m1 187 76 77 256 26 2 3 71 72 73 74 75 264 <| fc "rising" OT m1 187 83 84 267 36 1 3 78 79 80 81 82 274 <| fc "steps_of" GK m2 277 90 91 279 44 1 3 85 86 87 88 89 289 <| fc "levels" OS m2 277 95 96 292 53 1 3 92 93 0 0 94 295 <| fc "counted" LO m2 277 102 103 298 63 2 3 97 98 99 100 101 308 <| fc "told_set" JT m2 277 109 110 311 75 1 3 104 105 106 107 108 315 <| fc "later_by" JO m2 277 126 127 330 85 2 3 121 122 123 124 125 339 <| fc "summed" OU m3 352 143 144 360 98 4 3 140 141 0 0 142 363 <| fc "crossed" LP m3 352 150 151 366 104 3 3 145 146 147 148 149 372 <| fc "is_never" JN m3 352 157 158 375 106 1 3 152 153 154 155 156 380 <| fc "turn_of" LU m3 352 164 165 383 109 2 3 159 160 161 162 163 390 <| fc "is_tighter" GJ m3 352 171 172 393 113 3 3 166 167 168 169 170 401 <| fc "tightest" JS m3 352 178 179 404 121 3 3 173 174 175 176 177 412 <| fc "fault_in" JM m3 352 185 186 415 127 2 3 180 181 182 183 184 423 <| fc "minus" R0 m1 187 41 42 214 13 2 3 36 37 38 39 40 219 <| fc "over" WW m1 187 55 56 230 17 2 3 50 51 52 53 54 235 <| fc "times" R3 m1 187 48 49 222 15 2 3 43 44 45 46 47 227 <| fc "piece_between" EK m4 438 208 209 454 150 2 3 203 204 205 206 207 464 <| fc "pieces_of" HS m4 438 213 214 467 157 1 3 210 211 0 0 212 470 <| fc "negative" JP m4 438 201 202 447 148 1 3 196 197 198 199 200 451 <| fc "shared_bottom" EL m1 187 69 70 246 21 1 3 64 65 66 67 68 253 <| fc "plane_of" JQ m3 352 138 139 354 94 3 3 135 136 0 0 137 357 <| fc "planes_in" HU m5 473 227 228 486 166 2 3 222 223 224 225 226 499 <| fc "range_in" JR m3 352 192 193 426 136 2 3 187 188 189 190 191 435 <| fc "own_stays" HR m5 473 234 235 502 173 2 3 229 230 231 232 233 510 <| fc "size_of" LS m6 342 133 134 344 91 2 3 128 129 130 131 132 349 <| fc "walls_of" JU m5 473 220 221 475 160 2 3 215 216 217 218 219 483 <| fc "stays" R1 m5 473 241 242 513 180 2 3 236 237 238 239 240 520 <| fc "all_stays" HQ m5 473 246 247 523 183 2 3 243 244 0 0 245 526 <| fc "all_stretches" EJ m2 277 114 115 318 77 1 3 111 112 0 0 113 321 <| fc "most_in" LR m2 277 119 120 324 79 1 3 116 117 0 0 118 327 <| fc "fullest" LQ m5 473 253 254 529 185 2 3 248 249 250 251 252 534 <| fc "law" QR m0 537 437 438 773 359 1 3 434 435 0 0 436 776 <| [(194,⟨.type "tuple",none, .seq #[(.int 1 440),(.int 1 441)] 0, #[]⟩),(195,⟨.type "tuple",none, .seq #[(.int (-1) 444),(.int 1 445)] 0, #[]⟩)])
def KA:zy zu:= [3,267,268,337,338,274,275,288,289,408,409,316,317,323,324,330,331,415,416,281,282,386,387,420,421,302,303,369,370,354,355,376,377,425,426,295,296,347,348,432,433,391,392,398,399,309,310,342,343,364,365,359,360,381,382,403,404,260,261,20,21,27,28,34,35,62,63,76,77,83,84,90,91,95,96,102,103,109,110,126,127,143,144,150,151,157,158,164,165,171,172,178,179,185,186,41,42,55,56,48,49,208,209,213,214,201,202,69,70,138,139,227,228,192,193,234,235,133,134,220,221,241,242,246,247,114,115,119,120,253,254,437,438,194,195]
def q:kj:={K43.pwA with main:={K43.pwA.main with body:= [top 1,top 2,top 3,top 4,top 5,top 6,top 7,top 8,top 9,top 10,top 12,top 13,top 14,top 15,top 16,top 17,top 18,top 20,top 22,top 23,top 24,top 25,top 26,top 27,top 28,top 29,top 30,top 32,top 33,top 34,top 35,top 36,top 38,top 39,top 40,top 41,top 42,top 43,top 45,top 46,top 47,top 48,top 49,top 50,top 51,top 52,top 53,top 54,top 55,top 56,top 57,top 58,top 59,top 60,top 61,top 62,top 63,top 64,top 65,top 66,top 67,top 68,top 69,top 70,top 71,top 72,top 73,top 74] }}
end K43
open PySem PySem.W PyProof.Rows
def K43.se (s:zw):=openSeen K43.q [] (importedModules (K43.pwA).main.body) (λs=>xlAt K43.q [] s&&recOk [] s) true s
def K43.go:=openGood K43.q []
def K43.rn (w:ki):=openEnds treeTable K43.pwA w 6000
def K43.l0:∀w,(K43.rn w).map (λs=>(K43.se s).1)=some (K43.go.1):=by intro w;kernel_rfl
def K43.l1:∀w,(K43.rn w).map (λs=>(K43.se s).2.1)=some (K43.go.2.1):=by intro w;kernel_rfl
def K43.l2:∀w,(K43.rn w).map (λs=>(K43.se s).2.2.1)=some (K43.go.2.2.1):=by intro w;kernel_rfl
def K43.l3:∀w,(K43.rn w).map (λs=>(K43.se s).2.2.2.1)=some (K43.go.2.2.2.1):=by intro w;kernel_rfl
def K43.l4:∀w,(K43.rn w).map (λs=>(K43.se s).2.2.2.2)=some (K43.go.2.2.2.2):=by intro w;kernel_rfl
def K43.l5:∀w,(K43.rn w).map (λs=>K43.KA.map s.heap.get?)=some ((K43.KK w.params).map λp=>some p.2):=by intro w;kernel_rfl
def K43.w1:PySem.Challenge.rw_skylanes_k43_fullest.wellSaid=true:=by
 kernel_rfl
def K43.w0:PySem.Challenge.rw_skylanes_k43_fullest.row.wellSaid=true:=by
 kernel_rfl
end
namespace PySem
open Sem (wp)
abbrev FK:=(Int×Int)×Int
section
variable {prog:kj}{w:ki}
def Ik (prog:kj)(w:ki)(h:kf)(k:FK)(a:zu):Prop:=∃o items n b u,h.get? a=some o/\o.cls= .type "tuple" /\o.data= .seq items n/\items.toList= [.ref b, .int k.2 u] /\IsTupleKey (intKind prog w) h [k.1.1,k.1.2] b
def Ik.typeIs {s:zw}{k:FK}{a:zu}(x:Ik prog w s.heap k a):s.TypeIs (.ref a) "tuple" :=let ⟨o,_,_,_,_,b,hc,_⟩:=x;⟨o,b,hc⟩
def Ik.inj {h:kf}{a:zu}{x y:FK}(hx:Ik prog w h x a)(hy:Ik prog w h y a):x=y:=by obtain⟨o,items,n,b,u,i,_,hd,hi,hk⟩:=hx;obtain⟨j,c,m,p,r,k,_,e,f,l⟩:=hy;obtain rfl:o=j:=AAY (i.symm.trans k);rw[hd] at e;injection e with h1 _;subst h1;rw[hi] at f;injection f with h1 h2;injection h1 with h1;subst h1;injection h2 with h2 _;injection h2 with h2 _;have:=hk.inj l;obtain⟨⟨s,t⟩,v⟩:=x;obtain⟨⟨y1,y2⟩,y3⟩:=y;injection this with g d;injection d with d _;simp only at h2 g d;subst h2;subst g;subst d;rfl
def Ik.keeps {h h':kf}{k:FK}{a d:zu}{o:Obj}{es ep}(x:Ik prog w h k a)(e:h.get? d=some o)(hd:o.data= .dict es ep)(hs:Heap.SameBut d h h'):Ik prog w h' k a:=by
 obtain⟨f,items,n,b,u,g,hc,c,hi,hk⟩:=x;have i:a≠d:=by rintro rfl;obtain rfl:f=o:=AAY (g.symm.trans e);rw[hd] at c;exact nomatch c
 exact⟨f,items,n,b,u,(hs.2 a i).trans g,hc,c,hi,hk.keeps e hd hs⟩
def Vg (prog:kj)(w:ki)(k:FK):Int:=reduceHash (Builtin.Tuple.tupleHashOf [tupleKeyHash (intKind prog w) [k.1.1,k.1.2],hashInt k.2])
variable {A:ke}{E:zx->zw->Prop}{s:zw}
def MU {k:FK}{a:zu}{Q:Int->zw->Prop}(hu:A.units+1<cLine)(hk:Ik prog w s.heap k a)(h:Q (Vg prog w k) {s with toks:=s.toks+5}):wpAny (model prog w) A (pyHash (.ref a)) Q E s:=by
 have f:=hk.typeIs;obtain⟨o,items,n,b,u,i,_,hd,hi,j⟩:=hk;unfold pyHash;first | unfold pyHashByItsType|skip
 first | refine AAA (wpAny_cRoomFor_or (.inr (by omega)) ?_)|skip
 refine AAA (ABi f ACd.lookup ?_);show wpAny _ _ (if (some (Value.builtin "tuple.__hash__")==some Value.none)=true then _ else _) Q E s;rw[AAD (by rw[beq_builtin_none];exact AAR)];refine AAA (ABi f ACd.lookup ?_);show wpAny _ _ (callSpecialIfBoundUnlessNone? (.ref a) "__hash__" _ >>= _) Q E s;refine AAA (wpAny_callSpecialIfBoundUnlessNone?_slot f ACd (AA6 ACd f F.entry_tuple_hash ?_ (F.args_tuple_hash_1 _)));show wpAny _ _ (Builtin.Tuple.tupleItemsOf (.ref a) >>= _) _ _ s;refine AAA (ADM i hd ?_);refine AAA ?_;rw[<-ADN,hi];refine ACe _
  (λrest (r:Array Int) d=>(rest= [.ref b, .int k.2 u] /\r.toList= [] /\d=s)\/(rest= [.int k.2 u] /\r.toList= [tupleKeyHash (intKind prog w) [k.1.1,k.1.2]] /\d={s with toks:=s.toks+3})\/
    (rest= [] /\r.toList= [tupleKeyHash (intKind prog w) [k.1.1,k.1.2],hashInt k.2] /\d={s with toks:=s.toks+4}))
  _ ?_ ?_ _ _ (.inl ⟨rfl,rfl,rfl⟩)
 .rintro x rest r d (⟨c,e,rfl⟩|⟨c,e,rfl⟩|⟨c,_⟩)
  .cases c;refine AAA (wpAny_pyHash_tuple (knd:=intKind prog w) (by first | exact hu|omega) j ?_);exact AAC (.inr (.inl ⟨rfl,by simp[e],rfl⟩))
  .cases c;refine AAA (wpAny_pyHash_int ?_);exact AAC (.inr (.inr ⟨rfl,by simp[e],by simp[ADO]⟩))
  .cases c
 .rintro r d (⟨c,_⟩|⟨c,_⟩|⟨_,e,rfl⟩)
  .cases c
  .cases c
  .show wpAny _ _ (retInt (Builtin.Tuple.tupleHashOf r.toList)) _ _ _;rw[e];refine wpAny_ret_mkInt ?_;show wpAny _ _ (if (decide (-(2:Int)^63<=Builtin.Tuple.tupleHashOf [tupleKeyHash (intKind prog w) [k.1.1,k.1.2],hashInt k.2])&&decide (Builtin.Tuple.tupleHashOf [tupleKeyHash (intKind prog w) [k.1.1,k.1.2],hashInt k.2] < 2^63))=true then _ else _) Q E _;unfold Vg reduceHash at h;by_cases g:(decide (-(2:Int)^63<=Builtin.Tuple.tupleHashOf [tupleKeyHash (intKind prog w) [k.1.1,k.1.2],hashInt k.2])&&decide (Builtin.Tuple.tupleHashOf [tupleKeyHash (intKind prog w) [k.1.1,k.1.2],hashInt k.2] < 2^63))=true
   .rw [AAE g];rw[AAE g] at h;exact AAC (by simpa[ADO] using h)
   .rw [AAD g];rw[AAD g] at h;exact AAA (ABA (AAC (by simpa[ADO] using h)))
def Vh {x y:FK}{a b:zu}{P:Fin->zw->Prop}(hu:A.units<cLine)(hx:Ik prog w s.heap x a)(hy:Ik prog w s.heap y b)(h:P (.done (.ret (.bool (decide (x=y))))) s):wpAny (model prog w) A (Builtin.«tuple.__eq__» ⟨[.ref a, .ref b], []⟩) P E s:=by
 have B:=hy.typeIs;obtain⟨Q,xs,R,C,n,D,_,F,o,G⟩:=hx;obtain⟨S,ys,T,H,p,I,_,hdb,t,J⟩:=hy;have K:xs.size=2:=by rw[<-ABT,o];rfl
 have L:ys.size=2:=by rw[<-ABT,t];rfl
 obtain⟨⟨e,f⟩,c⟩:=x;obtain⟨⟨y1,y2⟩,y3⟩:=y;show wpAny _ _ (isInstance (.ref b) (.type "tuple") >>= _) _ _ s;refine AAA (ABt B ADP ?_);simp only[ABJ,AAn,AAZ];refine AAA (ADM D F ?_);refine AAA (ADM I hdb ?_);refine AAA ?_;rw[o,t];refine ACe _
  (λrest r g=>r.1=none/\g=s/\(rest= [(.ref C, .ref H),(.int c n, .int y3 p)] \/(rest= [(.int c n, .int y3 p)] /\e=y1/\f=y2)\/(rest= [] /\e=y1/\f=y2/\c=y3)))
  _ ?_ ?_ _ _ ⟨rfl,rfl, .inl rfl⟩
 .rintro ⟨u,v⟩ rest r g ⟨j,rfl,(hz|⟨hz,k,l⟩|⟨hz,_⟩)⟩
  .cases hz;refine AAA (wpAny_eqBool_tuple (knd:=intKind prog w) (by first | exact hu|omega) G J ?_);by_cases hk:e=y1/\f=y2
   .rw [AAo (by rw[hk.1,hk.2])];simp only[ABJ,AAn,AAZ];exact AAC ⟨rfl,rfl, .inr (.inl ⟨by first | trivial|rfl,hk⟩)⟩
   .rw [AAa (by intro z;injection z with i d;injection d with d _;exact hk ⟨i,d⟩)];simp only[Bool.not_false,ABB];have m:decide ((((e,f),c):FK)=((y1,y2),y3))=false:=by apply AAa;intro z;injection z with i d;injection i with M N;exact hk ⟨M,N⟩
    rw[m] at h;exact AAA (AAC (AAC (AAC h)))
  .cases hz;refine AAA (wpAny_eqBool_int ?_);by_cases hk:c=y3
   .rw [show (c==y3)=true by simp[hk]];simp only[ABJ,AAn,AAZ];exact AAC ⟨rfl,rfl, .inr (.inr ⟨by first | trivial|rfl,k,l,hk⟩)⟩
   .rw [show (c==y3)=false by simp[hk]];simp only[Bool.not_false,ABB];have m:decide ((((e,f),c):FK)=((y1,y2),y3))=false:=by apply AAa;intro z;injection z with i d;exact hk d
    rw[m] at h;exact AAA (AAC (AAC (AAC h)))
  .cases hz
 .rintro ⟨U,W⟩ g ⟨j,rfl,(hz|⟨hz,_⟩|⟨_,k,l,O⟩)⟩
  .cases hz
  .cases hz
  .simp only at j;subst j;refine AAC ?_;show P (.done (.ret (.bool (xs.size==ys.size)))) g;rw[K,L];rw[AAo (by rw[k,l,O])] at h;exact h
def MT {x y:FK}{a b:zu}{Q:km->zw->Prop}(hu:A.units+1<cLine)(hx:Ik prog w s.heap x a)(hy:Ik prog w s.heap y b)(h:Q (decide (x=y)) s):wpAny (model prog w) A (eqBool (.ref a) (.ref b)) Q E s:=by
 unfold eqBool;try with_reducible refine AAi ?_
 show wpAny _ _ (if (Value.ref a==Value.ref b)=true then _ else _) Q E s;by_cases c:(Value.ref a==Value.ref b)=true
 .rw [AAE c];have e:a=b:=by have:=eq_of_beq c;injection this
  subst e;obtain rfl:=hx.inj hy;exact AAA (ABA (AAC (by simpa using h)))
 .rw [AAD c];exact AAA (wpAny_richCompare_same_room (op:= .Eq) hx.typeIs hy.typeIs ACf
   (AA6 ACf hx.typeIs F.entry_tuple_eq (Vh (by first | exact hu|omega) hx hy ⟨_,rfl,(λe=>nomatch e),ABK h⟩) (F.args_tuple_eq_2 _ _)) (by omega))
def GS {K:Type}[DecidableEq K]{knd:KeyKind prog w K}{f:zy K}{a:zu}{Q:km->zw->Prop}(m:Nat)(hk:IsTupleKey knd s.heap f a)(h:Q true s):wpAny (model prog w) A (eqIsQuiet (m+1) (.ref a)) Q E s:=by
 have d:=hk.typeIs;obtain⟨o,items,n,g,_,hd,hi⟩:=hk;unfold eqIsQuiet;refine AAA (ABi d ACf.lookup ?_);show wpAny _ _ (isInstance (.ref a) (.type "tuple") >>= _) _ _ s;refine AAA (ABt d ADP ?_);simp only[ABJ,AAn,AAZ];refine AAA (AAr g hd ?_);refine AAA ?_;show wpAny _ _ (forIn items _ _) _ _ s;rw[<-ADN];refine ACe _ (λrest r b=>r.1=none/\b=s/\∀v∈rest,carriedByValue v=true) _ ?_ ?_ _ _ ⟨rfl,rfl,hi.byValue⟩
 .rintro v rest r b ⟨c,rfl,e⟩;rw[eqIsQuiet_byValue _ (e v ABj)];refine AAA (AAC ?_);simp only[ABJ,AAn,AAZ];exact AAC ⟨rfl,rfl,λu i=>e u (ABL _ i)⟩
 .rintro ⟨j,k⟩ b ⟨c,rfl,_⟩;simp only at c;subst c;exact AAC h
def JZ {k:FK}{a:zu}{Q:km->zw->Prop}(hk:Ik prog w s.heap k a)(h:Q true s):wpAny (model prog w) A (eqIsQuiet 8 (.ref a)) Q E s:=by
 have e:=hk.typeIs;obtain⟨o,items,n,b,u,f,_,hd,hi,g⟩:=hk;unfold eqIsQuiet;refine AAA (ABi e ACf.lookup ?_);show wpAny _ _ (isInstance (.ref a) (.type "tuple") >>= _) _ _ s;refine AAA (ABt e ADP ?_);simp only[ABJ,AAn,AAZ];refine AAA (AAr f hd ?_);refine AAA ?_;show wpAny _ _ (forIn items _ _) _ _ s;rw[<-ADN,hi];refine ACe _ (λrest r c=>r.1=none/\c=s/\(rest= [.ref b, .int k.2 u] \/rest= [.int k.2 u] \/rest= [])) _ ?_ ?_ _ _ ⟨rfl,rfl, .inl rfl⟩
 .rintro v rest r c ⟨d,rfl,(hz|hz|hz)⟩
  .cases hz;refine AAA (GS (knd:=intKind prog w) 6 g ?_);simp only[ABJ,AAn,AAZ];exact AAC ⟨rfl,rfl, .inr (.inl (by first | trivial|rfl))⟩
  .cases hz;rw[eqIsQuiet_byValue _ rfl];refine AAA (AAC ?_);simp only[ABJ,AAn,AAZ];exact AAC ⟨rfl,rfl, .inr (.inr (by first | trivial|rfl))⟩
  .cases hz
 .rintro ⟨i,j⟩ c ⟨d,rfl,_⟩;simp only at d;subst d;exact AAC h
end
def fkKind (prog:kj)(w:ki):HeapKind prog w FK where
 is:=Ik prog w
 hash:=Vg prog w
 draws:=λ_=>5
 room:=λA=>A.units+1<cLine
 inj:=λhx hy=>hx.inj hy
 keeps:=λx a hd hs=>x.keeps a hd hs
 pyHash:=λhu hk h=>MU hu hk h
 eqBool:=λhu hx hy h=>MT hu hx hy h
 quiet:=λhk h=>JZ hk h
def DU {prog:kj}{w:ki}{A:ke}(h:A.units+2<cLine):(fkKind prog w).room A.in1:=by show A.units+1+1<cLine;omega
end PySem
namespace L2
open PySem PySem.Spec PyProof.Rows
abbrev Cp:=Sum Int Str
def QK:Cp->zx->km
 | .inl k,v=>Value.isInt k v
 | .inr x,v=>Value.isStrOf x v
def sW (w:ki):Cp->Int
 | .inl k=>hashInt k
 | .inr x=>hashStr w x
def Br:∀{k:Cp} {v:zx},QK k v=true->(∃i t,k=Sum.inl i/\v=Value.int i t)\/(∃x t,k=Sum.inr x/\v=Value.str x t)
 | .inl i,v,h=>by obtain⟨t,e⟩:=Value.isInt_shape (k:=i) (v:=v) h;exact .inl ⟨i,t,rfl,e⟩
 | .inr x,v,h=>by obtain⟨t,e⟩:=Value.isStrOf_shape (x:=x) (v:=v) h;exact .inr ⟨x,t,rfl,e⟩
def ZE (i:Int)(t:Tok):QK (.inl i) (.int i t)=true:=by simp[QK,Value.isInt]
def ZF (x:Str)(t:Tok):QK (.inr x) (.str x t)=true:=by simp[QK,Value.isStrOf]
def kQ (a b:Int):decide ((Sum.inl a:Cp)=Sum.inl b)=(a==b):=by
 by_cases e:a=b
 .subst e;simp
 .have h:¬(Sum.inl a:Cp)=Sum.inl b:=λq=>e (Sum.inl.inj q);rw[AAa h];exact(ACg.mpr e).symm
def kT (a b:Str):decide ((Sum.inr a:Cp)=Sum.inr b)=decide (a=b):=by
 by_cases e:a=b
 .subst e;simp
 .have h:¬(Sum.inr a:Cp)=Sum.inr b:=λq=>e (Sum.inr.inj q);rw[AAa h,AAa e]
def kR (a:Int)(b:Str):decide ((Sum.inl a:Cp)=Sum.inr b)=false:=AAa (λq=>nomatch q)
def kS (a:Str)(b:Int):decide ((Sum.inr a:Cp)=Sum.inl b)=false:=AAa (λq=>nomatch q)
def A7 (prog:kj)(w:ki):PySem.KeyKind prog w Cp where
 is:=QK
 hash:=sW w
 inj:=λv a b ha hb=>by
  rcases Br ha with⟨i,t,rfl,rfl⟩|⟨x,t,rfl,rfl⟩
  .rcases Br hb with⟨j,u,rfl,e⟩|⟨y,u,rfl,e⟩
   .injection e with c _;rw[c]
   .exact nomatch e
  .rcases Br hb with⟨j,u,rfl,e⟩|⟨y,u,rfl,e⟩
   .exact nomatch e
   .injection e with c _;rw[c]
 byValue:=λk v h=>by rcases Br h with⟨i,t,rfl,rfl⟩|⟨x,t,rfl,rfl⟩ <;> rfl
 pyHash:=λhv h=>by
  rcases Br hv with⟨i,t,rfl,rfl⟩|⟨x,t,rfl,rfl⟩
  .exact wpAny_pyHash_int h
  .exact wpAny_pyHash_str h
 eqBool:=λhu hv h=>by
  rcases Br hu with⟨i,t,rfl,rfl⟩|⟨x,t,rfl,rfl⟩
  .rcases Br hv with⟨j,u,rfl,rfl⟩|⟨y,u,rfl,rfl⟩
   .rw [kQ] at h;exact wpAny_eqBool_int h
   .rw [kR] at h;exact SeqAt.EqAt.int_str i t y u _ _ _ _ h
  .rcases Br hv with⟨j,u,rfl,rfl⟩|⟨y,u,rfl,rfl⟩
   .rw [kS] at h;exact SeqAt.EqAt.str_int x t j u _ _ _ _ h
   .rw [kT] at h;exact wpAny_eqBool_str h
 «strs»:=λk x t v h=>by
  rcases Br h with⟨i,u,rfl,e⟩|⟨y,u,rfl,e⟩
  .exact nomatch e
  .injection e with c _;subst c;cases v <;> rfl
def T8 (prog:kj)(w:ki)(i:Int)(t:Tok):(A7 prog w).is (.inl i) (.int i t)=true:=ZE i t
def T9 (prog:kj)(w:ki)(x:Str)(t:Tok):(A7 prog w).is (.inr x) (.str x t)=true:=ZF x t
inductive V where
 | non|bl (b:Bool)|int (i:Int)|str (x:Str)|byt (b:Array UInt8)|flt (b:UInt64)|ref (a:Addr)|ty (n:String)
 deriving DecidableEq
def RelV:V->zx->Prop
 | .non,u=>u=Value.none
 | .bl b,u=>u=Value.bool b
 | .int i,u=>∃t,u=Value.int i t
 | .str x,u=>∃t,u=Value.str x t
 | .byt b,u=>∃t,u=Value.bytes b t
 | .flt b,u=>∃t,u=Value.float b t
 | .ref a,u=>u=Value.ref a
 | .ty n,u=>u=Value.type n
abbrev Aq:zy V->zy zx->Prop:=Paired RelV
def Aq.length {xs:zy V}{us:zy zx}(r:Aq xs us):xs.length=us.length:=ABu r
theorem Aq.get:∀{xs:zy V} {us:zy zx} {i:Nat} {x:V},Aq xs us->xs[i]? =some x->∃u,us[i]? =some u/\RelV x u
 | _,_,_,_, .nil,e=>by simp at e
 | _,_,0,_, .cons r _,e=>by simp at e;subst e;exact⟨_,rfl,r⟩
 | _,_,i+1,x, .cons _ t,e=>by obtain⟨u,h1,h2⟩:=Aq.get (i:=i) (x:=x) t (by simpa using e);exact⟨u,by simpa using h1,h2⟩
theorem Aq.set {x:V}{u:zx}(r:RelV x u):∀{xs:zy V} {us:zy zx} (i:Nat),Aq xs us->Aq (xs.set i x) (us.set i u)
 | _,_,_, .nil=> .nil
 | _,_,0, .cons _ t=> .cons r t
 | _,_,i+1, .cons q t=> .cons q (Aq.set r i t)
theorem Aq.append:∀{xs ys:zy V} {us a:zy zx},Aq xs us->Aq ys a->Aq (xs++ys) (us++a)
 | _,_,_,_, .nil,s=>s
 | _,_,_,_, .cons r t,s=> .cons r (Aq.append t s)
theorem Aq.take:∀{xs:zy V} {us:zy zx} (n:Nat),Aq xs us->Aq (xs.take n) (us.take n)
 | _,_,0,_=> .nil
 | _,_,_+1, .nil=> .nil
 | _,_,n+1, .cons r t=> .cons r (Aq.take n t)
theorem Aq.drop:∀{xs:zy V} {us:zy zx} (n:Nat),Aq xs us->Aq (xs.drop n) (us.drop n)
 | _,_,0,r=>r
 | _,_,_+1, .nil=> .nil
 | _,_,n+1, .cons _ t=>Aq.drop n t
def Aq.none_of:∀{xs:zy V} {us:zy zx} {i:Nat},Aq xs us->xs[i]? =none->us[i]? =none:=λ{xs us i} r e=>by have h1:=r.length;have h2:xs.length<=i:=ADQ.mp e;exact ADQ.mpr (by omega)
def ME:zt V->zt zx->Prop
 | some v,some u=>RelV v u
 | none,none=>True
 | _,_=>False
def KV {a:Type}:zy (a×V)->zy (a×zx)->Prop:=Paired λ(p:a×V) (q:a×zx)=>p.1=q.1/\RelV p.2 q.2
def kV:Cp->V
 | .inl i=> .int i
 | .inr x=> .str x
inductive HO where
 | lst (xs:List V)
 | tup (xs:List V)
 | dK (kvs:List (Cp×V))|dT (kvs:List (List Cp×V))|dN (K:AAB) (kvs:List (PySem.FK×V))
 | set (S:Int->Bool) (n:Nat)
 | ins (C dx:Addr) (fs:List (Str×V))
 | own (x:Addr)
 | xd (fs:List (Str×V))
 | met (f x:Addr)
 | rng (lo hi:Int)
 | frz (o:Obj) (u:HO)
 | tbl (ps:Array Value)
 | ext (φ:Heap->Prop)
abbrev Hp:=zu->zt HO
def upd (H:Hp)(a:zu)(o:HO):Hp:=λb=>if b=a then some o else H b
def Aa {H:Hp}{a:zu}{o:HO}:upd H a o a=some o:=by unfold upd;rw[AAE rfl]
def AZ {H:Hp}{a b:zu}{o:HO}(h:b≠a):upd H a o b=H b:=by unfold upd;rw[AAD h]
def jA {H:Hp}{a b:zu}{o u:HO}(h:H a=some o)(h':H b=some u)(d:o≠u):a≠b:=by intro e;subst e;rw[h] at h';exact d (AAY h')
def Ah {H:Hp}{a b:zu}{o:HO}(h:H a=some o)(h':H b=none):a≠b:=by intro e;subst e;rw[h] at h';cases h'
def aN (K:AAB)(H:Hp)(b:zu)(t d:Int):Prop:=H b=some (.tup [.int t, .int d])\/∃(o:Obj) (a:Array zx) (n:Nat),K.lookup b=some o/\o.cls= .type "tuple" /\o.data= .seq a n/\Aq [.int t, .int d] a.toList
def F0 (K:AAB)(H:Hp)(a:zu)(k:PySem.FK):Prop:=∃b,H a=some (.tup [.ref b, .int k.2])/\aN K H b k.1.1 k.1.2
def F0.stay {K:AAB}{H c:Hp}{a:zu}{k:PySem.FK}(x:F0 K H a k)(d:∀b xs,H b=some (.tup xs)->c b=some (.tup xs)):F0 K c a k:=let ⟨b,h1,h2⟩:=x;⟨b,d _ _ h1,h2.elim (λz=> .inl (d _ _ z)) .inr⟩
section
variable (P:kj)(w:ki)
def CJ (H:Hp)(h:kf)(a:zu):HO->Prop
 | .lst xs=>xs.length<=sizeLine/\∃(b:zy zx) (n:Nat),Aq xs b/\h.get? a=some {cls:= .type "list",data:= .seq b.toArray n}
 | .tup xs=>xs.length<=sizeLine/\∃b:zy zx,Aq xs b/\IsTup h a b.toArray
 | .dK kvs=>kvs.length<=sizeLine/\(a==sysModules)=false/\∃vs,KV kvs vs/\h.DictOf (A7 P w) a vs
 | .dT kvs=>kvs.length<=sizeLine/\(a==sysModules)=false/\∃xs:zy (zy Cp×zu×zx),
     Paired (λ(p:zy Cp×V) (q:zy Cp×zu×zx)=>p.1=q.1/\H q.2.1=some (.tup (p.1.map kV))/\RelV p.2 q.2.2) kvs xs/\
     ∃o es ep,h.get? a=some o/\o.ExactDict/\o.data= .dict es ep/\es.toList=xs.map (entryOfKey (tupleKind (A7 P w)))/\(xs.map (·.1)).Nodup
 | .dN K kvs=>kvs.length<=sizeLine/\(a==sysModules)=false/\∃xs:zy (PySem.FK×zu×zx),Paired (λ(p:PySem.FK×V) (q:PySem.FK×zu×zx)=>p.1=q.1/\F0 K H q.2.1 p.1/\RelV p.2 q.2.2) kvs xs/\∃o es ep,h.get? a=some o/\o.ExactDict/\o.data= .dict es ep/\es.toList=xs.map (entryOfKey (PySem.fkKind P w))/\(xs.map (·.1)).Nodup
 | .set S n=>h.SetOf (intKind P w) a S n
 | .ins C e d=>H e=some (.own a)/\d.length<=1000/\e≠a/\h.get? a=some (PySem.W.instObj C e)/\
     ∃c,h.Ns1 e c/\(∀f,ME (d.lookup f) (c f))/\PySem.Within c (d.map (·.1))
 | .own _=>∃o,h.get? a=some o
 | .xd d=>∃c,h.Ns1 a c/\∀f,ME (d.lookup f) (c f)
 | .rng lo hi=>∃t u v,h.get? a=some {cls:= .type "range",data:= .fields #[.int lo t, .int hi u, .int 1 v] }
 | .frz o u=>h.get? a=some o/\CJ H h a u
 | .tbl i=>h.get? a=some {cls:= .none,data:= .fields i}
 | .met f x=>h.get? a=some (PySem.W.methodObj (.ref f) (.ref x))
 | .ext g=>g h/\(∃o,h.get? a=some o)/\∀h1 h2:kf,g h1->(∀o,h1.get? a=some o->h2.get? a=some o)->g h2
def Ij (H:Hp)(h:kf):Prop:=∀a o,H a=some o->CJ P w H h a o
end
section
variable {P:kj}{w:ki}{H H':Hp}{h h':kf}{a:zu}{o:HO}
def CJ.lt (x:CJ P w H h a o):a<h.objs.size:=by
 cases o with
 | lst xs=>obtain⟨_,_,_,_,e⟩:=x;exact AAG e
 | tup xs=>obtain⟨_,_,_,p⟩:=x;exact p.lt
 | dK kvs=>obtain⟨_,_,_,_,o,_,_,e,_⟩:=x;exact AAG e
 | dT kvs=>obtain⟨_,_,_,_,o,_,_,e,_⟩:=x;exact AAG e
 | dN K kvs=>obtain⟨_,_,_,_,o,_,_,e,_⟩:=x;exact AAG e
 | set S n=>obtain⟨o,_,_,_,e,_⟩:=x;exact AAG e
 | ins C c b=>obtain⟨_,_,_,e,_⟩:=x;exact AAG e
 | own y=>obtain⟨_,e⟩:=x;exact AAG e
 | xd b=>obtain⟨_,⟨_,_,_,e,_⟩,_⟩:=x;exact AAG e
 | rng lo hi=>obtain⟨_,_,_,e⟩:=x;exact AAG e
 | frz d u=>obtain⟨e,_⟩:=x;exact AAG e
 | tbl g=>exact AAG (show h.get? a=some _ from x)
 | met f y=>exact AAG (show h.get? a=some _ from x)
 | ext i=>obtain⟨_,⟨_,e⟩,_⟩:=x;exact AAG e
theorem Paired.mapP {d e:Type}{F G:d->e->Prop}:∀{l₁:zy d} {c:zy e},Paired F l₁ c->(∀a b,F a b->G a b)->Paired G l₁ c
 | _,_, .nil,_=> .nil
 | _,_, .cons r t,f=> .cons (f _ _ r) (Paired.mapP t f)
def CJ.stay (x:CJ P w H h a o)(k:∀b u,(b=a\/H b=some (.own a))->h.get? b=some u->h'.get? b=some u)(A:∀b,H b=some (.own a)->H' b=some (.own a))(m:∀b xs,H b=some (.tup xs)->H' b=some (.tup xs)):CJ P w H' h' a o:=by
 induction o with
 | lst xs=>obtain⟨z,i,n,r,e⟩:=x;exact⟨z,i,n,r,k _ _ (.inl rfl) e⟩
 | tup xs=>obtain⟨z,i,r,g,e,c⟩:=x;exact⟨z,i,r,g,k _ _ (.inl rfl) e,c⟩
 | dK kvs=>obtain⟨z,y,vs,r,g,es,ep,e,c⟩:=x;exact⟨z,y,vs,r,g,es,ep,k _ _ (.inl rfl) e,c⟩
 | dT kvs=> obtain⟨z,y,xs,r,g,es,ep,e,c⟩:=x;exact⟨z,y,xs,Paired.mapP r λp q z=>⟨z.1,m _ _ z.2.1,z.2.2⟩,g,es,ep,k _ _ (.inl rfl) e,c⟩
 | dN K kvs=> obtain⟨z,y,xs,r,g,es,ep,e,c⟩:=x;exact⟨z,y,xs,Paired.mapP r λp q z=>⟨z.1,z.2.1.stay m,z.2.2⟩,g,es,ep,k _ _ (.inl rfl) e,c⟩
 | set S n=>obtain⟨g,es,ep,t,e,c⟩:=x;exact⟨g,es,ep,t,k _ _ (.inl rfl) e,c⟩
 | ins C F B=> obtain⟨d,z,D,e,j,⟨l,es,ep,E,c⟩,r⟩:=x;exact⟨A _ d,z,D,k _ _ (.inl rfl) e,j,⟨l,es,ep,k _ _ (.inr d) E,c⟩,r⟩
 | own y=>obtain⟨g,e⟩:=x;exact⟨g,k _ _ (.inl rfl) e⟩
 | xd B=>obtain⟨j,⟨l,es,ep,e,c⟩,r⟩:=x;exact⟨j,⟨l,es,ep,k _ _ (.inl rfl) e,c⟩,r⟩
 | rng lo hi=>obtain⟨t,u,v,e⟩:=x;exact⟨t,u,v,k _ _ (.inl rfl) e⟩
 | frz g u ih=>obtain⟨e,q⟩:=x;exact⟨k _ _ (.inl rfl) e,ih q⟩
 | tbl s=> have e:h.get? a=some {cls:= .none,data:= .fields s}:=x;show h'.get? a=some {cls:= .none,data:= .fields s};exact k a _ (.inl rfl) e
 | met f y=> have e:h.get? a=some (PySem.W.methodObj (.ref f) (.ref y)):=x;show h'.get? a=some (PySem.W.methodObj (.ref f) (.ref y));exact k a _ (.inl rfl) e
 | ext G=>obtain⟨p,⟨o,e⟩,st⟩:=x;exact⟨st _ _ p λo q=>k _ _ (.inl rfl) q,⟨o,k _ _ (.inl rfl) e⟩,st⟩
def Ij.lt (x:Ij P w H h)(e:H a=some o):a<h.objs.size:=(x a o e).lt
def Ij.fresh (x:Ij P w H h)(e:h.objs.size<=a):H a=none:=by
 cases q:H a with
 | none=>rfl
 | some u=>exact absurd (AAX (x.lt q) e) (ABC _)
def Ij.kept (x:Ij P w H h)(k:∀b u,h.get? b=some u->h'.get? b=some u):Ij P w H h':=λa o e=>
 (x a o e).stay (λb u _ q=>k b u q) (λ_ q=>q) λ_ _ q=>q
def Ij.laid (x:Ij P w H h)(k:∀b u,h.get? b=some u->h'.get? b=some u)(hp:h.objs.size<=a)(new:CJ P w (upd H a o) h' a o):Ij P w (upd H a o) h':=λb u e=>by
 have d:=x.fresh hp;by_cases hb:b=a
 .subst hb;rw[Aa] at e;cases e;exact new
 .rw [AZ hb] at e;exact(x b u e).stay (λc v _ q=>k c v q) (λc q=>by rw[AZ (Ah q d)];exact q) λc xs q=>by rw[AZ (Ah q d)];exact q
end
def Rd (H:Hp)(a:zu)(u:HO):Prop:=H a=some u\/∃o,H a=some (.frz o u)
def Rd.ok {P:kj}{w:ki}{H:Hp}{h:kf}{a:zu}{u:HO}(r:Rd H a u)(x:Ij P w H h):CJ P w H h a u:=by
 rcases r with r|⟨o,r⟩
 .exact x a u r
 .obtain ⟨_,q⟩:=x a _ r;exact q
def nM:zt HO->Prop
 | some (.lst _)=>True
 | some (.dK _)=>True
 | some (.dT _)=>True
 | some (.dN _ _)=>True
 | some (.set _ _)=>True
 | some (.ins _ _ _)=>True
 | some (.ext _)=>True
 | _=>False
section
variable {P:kj}{w:ki}{H:Hp}{h h':kf}{x e:zu}{o':HO}
def Ij.write (ok:Ij P w H h)(f:nM (H x))(he:e=x\/H e=some (.own x))(k:∀b u,b≠e->h.get? b=some u->h'.get? b=some u)(j:∃u,h'.get? e=some u)(new:CJ P w (upd H x o') h' x o'):Ij P w (upd H x o') h':=λb u q=>by
 have a:∀c y,H c=some (.own y)->c≠x:=λc y r z=>by subst z;rw[r] at f;exact f
 have d:∀c xs,H c=some (.tup xs)->c≠x:=λc xs r z=>by subst z;rw[r] at f;exact f
 by_cases hb:b=x
 .subst hb;rw[Aa] at q;cases q;exact new
 .rw [AZ hb] at q;by_cases g:b=e
  .have i:H b=some (.own x):=by
    rcases he with z|z
    .exact absurd (g.trans z) hb
    .rw [g];exact z
   rw[q] at i;cases i;obtain⟨v,hv⟩:=j;exact⟨v,by rw[g];exact hv⟩
  .refine (ok b u q).stay (λc v hc r=>k c v ?_ r) (λc r=>by rw[AZ (a c b r)];exact r) λc xs r=>by rw[AZ (d c xs r)];exact r
   rcases hc with rfl|hc
   .exact g
   .rintro rfl;rcases he with z|z
    .exact a c b hc z
    .rw [hc] at z;cases z;exact hb rfl
end
structure Un (fs ex:List Addr) (H H':Hp) (h h':Heap):Prop where
 keep:∀b o,h.get? b=some o->H b=none->b ∉ fs->b ∉ ex->h'.get? b=some o
 slot:∀b o,h.get? b=some o->H b=none->b∈fs->b ∉ ex->∃sl,h'.get? b=some {o with slots:=sl}
 free:∀b o,h.get? b=some o->H b=none->b ∉ ex->H' b=none
 there:∀b o,h.get? b=some o->b ∉ ex->∃o',h'.get? b=some o'
 tups:∀b xs,H b=some (.tup xs)->H' b=some (.tup xs)
 frzs:∀b o u,H b=some (.frz o u)->H' b=some (.frz o u)
 tbls:∀b ps,H b=some (.tbl ps)->∃more,H' b=some (.tbl (ps++more))
section
variable {fs fs' ex ex':zy zu}{H H1 H2:Hp}{h h1 h2 h':kf}{a x e:zu}{o:HO}
def Un.any (u:Un fs ex H H1 h h1){b:zu}{c:Obj}(q:h.get? b=some c)(n:H b=none)(hx:b ∉ ex):∃d,h1.get? b=some {c with slots:=d}:=by
 by_cases hb:b∈fs
 .exact u.slot b c q n hb hx
 .exact ⟨c.slots,u.keep b c q n hb hx⟩
def Un.kept (k:∀b u,h.get? b=some u->h'.get? b=some u):Un fs ex H H h h':=
 ⟨λb c q _ _ _=>k b c q,λb c q _ _ _=>⟨c.slots,k b c q⟩,λ_ _ _ n _=>n,λb c q _=>⟨c,k b c q⟩,λ_ _ q=>q,λ_ _ _ q=>q,λ_ d q=>⟨#[],by rw[q];simp⟩⟩
def Un.refl:Un fs ex H H h h:=Un.kept λ_ _ q=>q
def Un.laid (k:∀b u,h.get? b=some u->h'.get? b=some u)(hp:h.objs.size<=a)(c:H a=none):Un fs ex H (upd H a o) h h' where
 keep:=λb u q _ _ _=>k b u q
 slot:=λb u q _ _ _=>⟨u.slots,k b u q⟩
 free:=λb u q n _=>by rw[AZ (AAL (AAX (AAG q) hp))];exact n
 there:=λb u q _=>⟨u,k b u q⟩
 tups:=λb xs q=>by rw[AZ (Ah q c)];exact q
 frzs:=λb u xs q=>by rw[AZ (Ah q c)];exact q
 tbls:=λb d q=>⟨#[],by rw[AZ (Ah q c),q];simp⟩
def Un.write (c:nM (H x))(he:e=x\/H e=some (.own x))(k:∀b u,b≠e->h.get? b=some u->h'.get? b=some u)(g:∃u,h'.get? e=some u):Un fs ex H (upd H x o) h h':=by
 have hx:∀b,H b=none->b≠x:=λb n z=>by subst z;rw[n] at c;exact c
 have hb:∀b,H b=none->b≠e:=λb n z=>by
  subst z;rcases he with r|r
  .exact hx b n r
  .rw [n] at r;cases r
 have d:∀b u,H b=some u->¬nM (some u)->b≠x:=λb u q nm z=>by subst z;rw[q] at c;exact nm c
 refine⟨λb u q n _ _=>k b u (hb b n) q,λb u q n _ _=>⟨u.slots,k b u (hb b n) q⟩,λb u q n _=>by rw[AZ (hx b n)];exact n,λb u q _=> ?_,
  λb xs q=>by rw[AZ (d b _ q λz=>z)];exact q,λb u xs q=>by rw[AZ (d b _ q λz=>z)];exact q,λb i q=>⟨#[],by rw[AZ (d b _ q λz=>z),q];simp⟩⟩
 by_cases f:b=e
 .subst f;exact g
 .exact ⟨u,k b u f q⟩
end
def qZ (h:kf)(H:Hp):zy zu:=(List.range h.objs.size).filter λa=>(H a).isSome
def RE (h:kf)(H:Hp):kf:=PySem.W.hideAll h (qZ h H)
def Y5 (h:kf)(H:Hp):(RE h H).objs.size=h.objs.size:=PySem.W.hideAll_size _ _
def bJ {h:kf}{H:Hp}{b:zu}{o:Obj}(e:h.get? b=some o)(n:H b=none):(RE h H).get? b=some o:=
 PySem.W.hideAll_get _ e λa=>by have q:(H b).isSome=true:=(ACE.mp a).2;rw[n] at q;simp at q
def gL {h:kf}{H:Hp}{b:zu}{o:Obj}(e:(RE h H).get? b=some o):h.get? b=some o/\H b=none:=by
 have a:h.get? b=some o:=PySem.W.of_hideAll (qZ h H) e;refine⟨a, ?_⟩;cases q:H b with
 | none=>rfl
 | some x=> have c:b∈qZ h H:=ACE.mpr ⟨ABv.mpr (AAG a),by simp[q]⟩;have z:(RE h H).get? b=none:=PySem.W.hideAll_none (qZ h H) c;rw[z] at e;cases e
def fC (g h:kf)(L:zu):zy (zu×Obj):=(List.range h.objs.size).filterMap λa=>if a=L\/(g.get? a).isSome=true then none else (h.get? a).map λo=>(a,o)
def rest (g h:kf)(L d:zu):zy (zu×Obj):=(fC g h L).filter λp=>decide (p.1≠d)
structure Mod (K:AAB) (mg:Str->Option Value) (base:Heap):Prop where
 kin:K.In base
 glob:base.Ns mainGlobals mg
 blt:∃mb,base.Ns builtinsNs mb/\∀x:Str,x≠"__name__" ->mb x=bootBuiltins x
 nolimit:base.NoLimit
structure Cx where
 prog:Program
 w:World
 K:AAB
 mg:Str->Option Value
 base:Heap
 A:Around
 N:List Str
 s₀:Shared
 H₀:Hp
 env:Env
 outer:List Env
 stack:List Env
 ex:List Addr
 fn:Str->Bool
 calm:Bool
 pn:List (Addr×Obj)
 xe:Value->Shared->Prop
def Zv (l:zy Env):zy zu:=l.filterMap (·.frame)
abbrev Cx.fs (X:Cx):zy zu:=Zv X.outer
def jh (sc:Scope)(x:Str):Prop:=sc.names.lookup x=some .local\/sc.names.lookup x=some .cell\/sc.names.lookup x=some .free
def Loc (sc:Scope)(x:Str):Prop:=sc.names.lookup x=some .local\/sc.names.lookup x=some .cell
def Look (env:Env)(h:kf)(m:Str->zt zx)(x:Str)(u:zx):Prop:=
 (env.kindOf x=some .local/\m x=some u)\/((env.kindOf x=some .cell\/env.kindOf x=some .free)/\∃c,env.cells.lookup x=some c/\h.IsCell c (some u))
structure Cx.Ok (X:Cx):Prop where
 mod:Mod X.K X.mg X.base
 kind:X.env.scope.kind= .function
 glob:X.env.globals=mainGlobals
 blt:X.env.builtins=builtinsNs
 above:X.s₀.heap.objs.size<=X.env.locals
 inj:∀x y c,X.env.cells.lookup x=some c->X.env.cells.lookup y=some c->x=y
 has:∀x,(X.env.kindOf x=some .cell\/X.env.kindOf x=some .free)->∃c,X.env.cells.lookup x=some c
 cab:∀x c,X.fn x=true->X.env.cells.lookup x=some c->X.s₀.heap.objs.size<=c
 hd:X.calm=true->X.A.handled=none
 frames:X.A.frames=some X.stack
 stk:X.stack=X.outer\/(X.stack=X.env::X.outer/\X.env.frame=some X.env.locals)
 exf:∀b∈X.ex,b≠X.env.locals/\∀x c,X.env.cells.lookup x=some c->c≠b
 bs:∀b o,X.base.get? b=some o->X.s₀.heap.get? b=some o/\X.H₀ b=none
 bsz:X.base.objs.size<=X.s₀.heap.objs.size
 noex:∀b o,X.base.get? b=some o->b ∉ X.ex
 exfs:∀b∈X.ex,b ∉ X.fs
 funs:X.s₀.heap.FunFrames X.base X.outer
 frf:∀b∈X.fs,X.H₀ b=none
structure Inv (X:Cx) (kd:List (Addr×Obj)) (σ:List (Option V)) (H:Hp) (s:Shared):Prop where
 ok:X.Ok
 os:s.os=X.s₀.os
 bare:AllBare s.gens
 base:Un X.fs X.ex X.H₀ H X.s₀.heap s.heap
 loc:∃m,s.heap.Ns X.env.locals m/\∀(i:Nat) (x:Str) (v:V),X.N[i]? =some x->σ[i]? =some (some v)->jh X.env.scope x->∃u,RelV v u/\Look X.env s.heap m x u
 cell:∀x c,X.env.cells.lookup x=some c->∃v,s.heap.IsCell c v
 free:H X.env.locals=none
 freeC:∀x c,X.env.cells.lookup x=some c->H c=none
 pin:∀p∈X.pn++kd,s.heap.get? p.1=some p.2/\H p.1=none/\p.1≠X.env.locals/\p.1 ∉ X.fs/\∀v,p.2.data≠ .cell v
 hok:Ij X.prog X.w H s.heap
 len:σ.length=X.N.length
section
variable {X:Cx}{kd:zy (zu×Obj)}{σ:zy (zt V)}{H H':Hp}{s:zw}{h':kf}
def Cx.Ok.nofr (ok:X.Ok){b:zu}{o:Obj}(e:X.base.get? b=some o):b ∉ X.fs:=λhb=>by have:=(ok.funs.mem hb).1;rw[e] at this;cases this
def Inv.bs (I:Inv X kd σ H s):∀b o,X.base.get? b=some o->s.heap.get? b=some o/\H b=none:=λb o e=>
 ⟨I.base.keep b o (I.ok.bs b o e).1 (I.ok.bs b o e).2 (I.ok.nofr e) (I.ok.noex b o e),I.base.free b o (I.ok.bs b o e).1 (I.ok.bs b o e).2 (I.ok.noex b o e)⟩
def Inv.bk (I:Inv X kd σ H s):∀b o,X.base.get? b=some o->s.heap.get? b=some o:=λb o e=>(I.bs b o e).1
def Inv.mod (I:Inv X kd σ H s):Mod X.K X.mg X.base:=I.ok.mod
def Inv.kIn (I:Inv X kd σ H s):X.K.In s.heap:=I.ok.mod.kin.keeps I.bk
def Inv.nolimit (I:Inv X kd σ H s):s.heap.NoLimit:=I.ok.mod.nolimit.keeps I.bk
def Inv.lt (I:Inv X kd σ H s):X.env.locals<s.heap.objs.size:=let ⟨_,a,_⟩:=I.loc;a.lt
def Inv.sz (I:Inv X kd σ H s):X.s₀.heap.objs.size<=s.heap.objs.size:=AAf I.ok.above (ACh I.lt)
def Inv.nofs (I:Inv X kd σ H s){a:zu}(h:s.heap.objs.size<=a):a ∉ X.fs:=λhb=>by obtain⟨_,o,b,_⟩:=I.ok.funs.mem hb;exact absurd (AAX (AAG b) (AAf I.sz h)) (ABC _)
def Inv.cne (I:Inv X kd σ H s):∀x c,X.env.cells.lookup x=some c->c≠X.env.locals:=λx c e z=>by obtain⟨v,o,a,hd⟩:=I.cell x c e;obtain⟨m,⟨f,es,ep,b,d,_⟩,_⟩:=I.loc;rw[z,b] at a;cases a;rw[d] at hd;cases hd
def Inv.funs (I:Inv X kd σ H s):s.heap.FunFrames X.base X.outer:=by
 have all:∀(l:zy Env),(∀b∈Zv l,b∈X.fs)->X.s₀.heap.FunFrames X.base l->s.heap.FunFrames X.base l:=by
  intro l;induction l with
  | nil=>intro _ _;trivial
  | cons env r ih=> intro hs hl;obtain⟨hk,⟨L,o,a,d,f,hd⟩,g⟩:=hl;have c:L∈X.fs:=hs L (by unfold Zv;rw[ADR,a];exact ABj);obtain⟨h,e⟩:=I.base.slot L o f (I.ok.frf L c) c λz=>I.ok.exfs L z c;exact⟨hk,⟨L,_,a,d,e,hd⟩,ih (λb hb=>hs b (by unfold Zv;rw[ADR,a];exact ABL _ hb)) g⟩
 exact all X.outer (λ_ hb=>hb) I.ok.funs
def Inv.stack (I:Inv X kd σ H s):s.heap.FunFrames X.base X.stack:=by
 rcases I.ok.stk with e|⟨e,a⟩
 .rw [e];exact I.funs
 .rw [e];obtain⟨m,b,_⟩:=I.loc;refine .cons (by rw[I.ok.kind];decide) a b ?_ I.funs;exact Heap.get?_none_of_le (AAf I.ok.bsz I.ok.above)
def Inv.stkSub (I:Inv X kd σ H s):∀b∈Zv X.stack,b∈X.env.locals::X.fs:=λb hb=>by
 rcases I.ok.stk with e|⟨e,a⟩
 .rw [e] at hb;exact ABL _ hb
 .rw [e] at hb;unfold Zv at hb;rw[ADR,a] at hb;exact hb
def Inv.stkFree (I:Inv X kd σ H s):∀b∈Zv X.stack,H b=none:=λb hb=>by
 rcases AAF.mp (I.stkSub b hb) with e|hb
 .rw [e];exact I.free
 .obtain ⟨_,o,a,_⟩:=I.ok.funs.mem hb;exact I.base.free b o a (I.ok.frf b hb) λz=>I.ok.exfs b z hb
def Inv.step {g':Array GenState}{t':Nat}{d':Drawn}{ch:zy zu}(I:Inv X kd σ H s)(j:∀b∈ch,(b∈X.ex\/X.s₀.heap.objs.size<=b)/\b≠X.env.locals/\(∀x c,X.env.cells.lookup x=some c->c≠b)/\∀p∈X.pn++kd,p.1≠b)(keep:∀b o,b≠X.env.locals->b ∉ X.fs->b ∉ ch->s.heap.get? b=some o->H b=none->h'.get? b=some o)(slot:∀b o,b≠X.env.locals->b∈X.fs->b ∉ ch->s.heap.get? b=some o->H b=none->∃C,h'.get? b=some {o with slots:=C})(free:∀b o,b ∉ ch->s.heap.get? b=some o->H b=none->H' b=none)(there:∀b o,b ∉ ch->s.heap.get? b=some o->∃t,h'.get? b=some t)(tups:∀b xs,H b=some (.tup xs)->H' b=some (.tup xs))(frzs:∀b o u,H b=some (.frz o u)->H' b=some (.frz o u))(tbls:∀b B,H b=some (.tbl B)->∃more,H' b=some (.tbl (B++more)))(G:∀m,s.heap.Ns X.env.locals m->h'.Ns X.env.locals m)(hok:Ij X.prog X.w H' h')(J:AllBare g'):Inv X kd σ H' {s with heap:=h',gens:=g',drawn:=d',toks:=t'}:=by
 have y:∀b o,X.s₀.heap.get? b=some o->b≠X.env.locals:=λb o e=>AAL (AAX (AAG e) I.ok.above);have f:∀b o,X.s₀.heap.get? b=some o->b ∉ X.ex->b ∉ ch:=λb o e hx hb=>by
  rcases (j b hb).1 with z|z
  .exact hx z
  .exact absurd (AAX (AAG e) z) (ABC _)
 have cellK:∀x c,X.env.cells.lookup x=some c->∀v,s.heap.IsCell c v->h'.IsCell c v:=λx c e v ⟨o,h,hd⟩=>by
  have a:c ∉ ch:=λz=>(j c z).2.2.1 x c e rfl;by_cases hc:c∈X.fs
  .obtain ⟨C,q⟩:=slot c o (I.cne x c e) hc a h (I.freeC x c e);exact⟨_,q,hd⟩
  .exact ⟨o,keep c o (I.cne x c e) hc a h (I.freeC x c e),hd⟩
 refine⟨I.ok,I.os,J,⟨λb o e n hb hx=> ?_,λb o e n hb hx=> ?_,λb o e n hx=> ?_,λb o e hx=> ?_,λb xs e=>tups b xs (I.base.tups b xs e),λb o xs e=>frzs b o xs (I.base.frzs b o xs e),λb B e=> ?_⟩, ?_,λx c e=> ?_, ?_,λx c e=> ?_,λp hp=> ?_,hok,I.len⟩
 .exact keep b o (y b o e) hb (f b o e hx) (I.base.keep b o e n hb hx) (I.base.free b o e n hx)
 .obtain ⟨C,g⟩:=I.base.slot b o e n hb hx;obtain⟨D,A⟩:=slot b _ (y b o e) hb (f b o e hx) g (I.base.free b o e n hx);exact⟨D,A⟩
 .obtain ⟨t,g⟩:=I.base.there b o e hx;exact free b t (f b o e hx) g (I.base.free b o e n hx)
 .obtain ⟨t,g⟩:=I.base.there b o e hx;exact there b t (f b o e hx) g
 .obtain ⟨m1,g⟩:=I.base.tbls b B e;obtain⟨m2,A⟩:=tbls b _ g;exact⟨m1++m2,by rw[A,Array.append_assoc]⟩
 .obtain ⟨m,K,hl⟩:=I.loc;refine⟨m,G m K,λi x v g A L=> ?_⟩;obtain⟨u,r,l⟩:=hl i x v g A L;refine⟨u,r, ?_⟩;rcases l with l|⟨k,c,e,z⟩
  .exact .inl l
  .exact .inr ⟨k,c,e,cellK x c e _ z⟩
 .obtain ⟨v,z⟩:=I.cell x c e;exact⟨v,cellK x c e v z⟩
 .obtain ⟨m,⟨o,_,_,h,_⟩,_⟩:=I.loc;exact free _ o (λz=>(j _ z).2.1 rfl) h I.free
 .obtain ⟨v,o,h,hd⟩:=I.cell x c e;exact free c o (λz=>(j c z).2.2.1 x c e rfl) h (I.freeC x c e)
 .obtain ⟨e,n,E,F,d⟩:=I.pin p hp;have a:p.1 ∉ ch:=λz=>(j p.1 z).2.2.2 p hp rfl;exact⟨keep p.1 p.2 E F a e n,free p.1 p.2 a e n,E,F,d⟩
def Inv.un {t':Nat}(I:Inv X kd σ H s)(u:Un X.fs [] H H' s.heap h')(hok:Ij X.prog X.w H' h'):Inv X kd σ H' {s with heap:=h',toks:=t'}:=by
 obtain⟨m,⟨o,es,ep,d,r⟩,_⟩:=id I.loc;obtain⟨j,g⟩:=u.any d I.free (by simp);exact I.step (g':=s.gens) (d':=s.drawn) (ch:= []) (λ_ z=>nomatch z) (λb o _ hb _ e n=>u.keep b o e n hb (by simp)) (λb o _ hb _ e n=>u.slot b o e n hb (by simp)) (λb o _ e n=>u.free b o e n (by simp)) (λb o _ e=>u.there b o e (by simp)) u.tups u.frzs u.tbls (λk h=>by
  obtain⟨l,a,c,f,i⟩:=h;rw[d] at f;cases f;exact⟨_,a,c,g,i⟩) hok I.bare
def Inv.call {g':Array GenState}{t':Nat}{d':Drawn}{ch:zy zu}(I:Inv X kd σ H s)(u:Un (Zv X.stack) ch H H' s.heap h')(hok:Ij X.prog X.w H' h')(j:AllBare g')(g:∀b∈ch,(b∈X.ex\/X.s₀.heap.objs.size<=b)/\b≠X.env.locals/\(∀x c,X.env.cells.lookup x=some c->c≠b)/\∀p∈X.pn++kd,p.1≠b):Inv X kd σ H' {s with heap:=h',gens:=g',drawn:=d',toks:=t'}:=by
 obtain⟨m,⟨o,es,ep,h,r⟩,_⟩:=id I.loc;obtain⟨t,a⟩:=u.any h I.free λz=>(g _ z).2.1 rfl;exact I.step (ch:=ch) g (λb o a hb hc e n=>u.keep b o e n (λz=>(AAF.mp (I.stkSub b z)).elim a hb) hc) (λb o _ _ hc e n=>u.any e n hc) (λb o hc e n=>u.free b o e n hc) (λb o hc e=>u.there b o e hc) u.tups u.frzs u.tbls (λv k=>by
  obtain⟨y,d,f,i,l⟩:=k;rw[h] at i;cases i;exact⟨_,d,f,a,l⟩) hok j
def Inv.turned {t':Nat}{it:zu}(I:Inv X kd σ H s)(k:∀b o,b≠it->s.heap.get? b=some o->h'.get? b=some o)(f:H it=none)(d:it≠X.env.locals)(h1:it∈X.ex\/X.s₀.heap.objs.size<=it)(h2:∀x c,X.env.cells.lookup x=some c->c≠it)(g:∀p∈X.pn++kd,p.1≠it):Inv X kd σ H {s with heap:=h',toks:=t'}:=by
 have a:∀b u,H b=some u->b≠it:=λb u e z=>by rw[z,f] at e;cases e
 refine I.step (g':=s.gens) (d':=s.drawn) (ch:= [it]) (λb hb=> ?_) (λb o _ _ hc e _=>k b o (λz=>hc (by simp[z])) e) (λb o _ _ hc e _=>⟨o.slots,k b o (λz=>hc (by simp[z])) e⟩) (λ_ _ _ _ n=>n)
  (λb o hc e=>⟨o,k b o (λz=>hc (by simp[z])) e⟩) (λ_ _ e=>e) (λ_ _ _ e=>e) (λb j e=>⟨#[],by rw[e];simp⟩) (λm h=> ?_) (λb u e=> ?_) I.bare
 .have e:b=it:=by simpa using hb
  subst e;exact⟨h1,d,h2,g⟩
 .obtain ⟨o,es,ep,i,r⟩:=h;exact⟨o,es,ep,k _ o (AAd d) i,r⟩
 .refine (I.hok b u e).stay (λc v hc q=>k c v ?_ q) (λ_ q=>q) λ_ _ q=>q;rcases hc with z|z
  .rw [z];exact a b u e
  .exact a c _ z
def Inv.tok (I:Inv X kd σ H s)(t:Nat):Inv X kd σ H {s with toks:=t}:=I.un (h':=s.heap) (t':=t) Un.refl I.hok
def Inv.kept {t':Nat}(I:Inv X kd σ H s)(k:∀b u,s.heap.get? b=some u->h'.get? b=some u):Inv X kd σ H {s with heap:=h',toks:=t'}:=I.un (Un.kept k) (I.hok.kept k)
def Inv.laid {a:zu}{o:HO}{t':Nat}(I:Inv X kd σ H s)(k:∀b u,s.heap.get? b=some u->h'.get? b=some u)(hp:s.heap.objs.size<=a)(new:CJ X.prog X.w (upd H a o) h' a o):Inv X kd σ (upd H a o) {s with heap:=h',toks:=t'}:=I.un (Un.laid k hp (I.hok.fresh hp)) (I.hok.laid k hp new)
def Inv.write {x e:zu}{o:HO}{t':Nat}(I:Inv X kd σ H s)(a:nM (H x))(he:e=x\/H e=some (.own x))(k:∀b u,b≠e->s.heap.get? b=some u->h'.get? b=some u)(c:∃u,h'.get? e=some u)(new:CJ X.prog X.w (upd H x o) h' x o):Inv X kd σ (upd H x o) {s with heap:=h',toks:=t'}:=I.un (Un.write a he k c) (I.hok.write a he k c new)
def Inv.weak {σ':zy (zt V)}(I:Inv X kd σ H s)(hl:σ'.length=σ.length)(w:∀(i:Nat) v,σ'[i]? =some (some v)->σ[i]? =some (some v)):Inv X kd σ' H s:=
 ⟨I.ok,I.os,I.bare,I.base,let ⟨m,a,b⟩:=I.loc;⟨m,a,λi x v c d e=>b i x v c (w i v d) e⟩,I.cell,I.free,I.freeC,I.pin,I.hok,hl.trans I.len⟩
def Inv.pins_of {a:zy (zu×Obj)}(I:Inv X kd σ H s)(h:∀p∈a,s.heap.get? p.1=some p.2/\H p.1=none/\p.1≠X.env.locals/\p.1 ∉ X.fs/\∀v,p.2.data≠ .cell v):Inv X a σ H s:=
 ⟨I.ok,I.os,I.bare,I.base,I.loc,I.cell,I.free,I.freeC,λp hp=>(AAO.mp hp).elim (λz=>I.pin p (ABw _ z)) (h p),I.hok,I.len⟩
def UD {N:zy Str}(hN:N.Nodup){i j:Nat}{x:Str}(a:N[i]? =some x)(b:N[j]? =some x):i=j:=by obtain⟨h1,c⟩:=AA0.mp a;obtain⟨h2,d⟩:=AA0.mp b;exact(List.getElem_inj hN).mp (c.trans d.symm)
def La {M:Model}{A:ke}{E:zx->zw->Prop}{i:Nat}{x:Str}{v:V}{u:zx}{Q:Unit->zw->Prop}(I:Inv X kd σ H s)(hN:X.N.Nodup)(hi:X.N[i]? =some x)(hx:Loc X.env.scope x)(r:RelV v u)(h:∀F,Inv X kd (σ.set i (some v)) H F->(∃a,Heap.SameBut a s.heap F.heap/\(a=X.env.locals\/X.env.cells.lookup x=some a))->Q () F)(hf:X.fn x=true\/X.env.scope.names.lookup x=some .local:=by first | exact .inl rfl|exact .inr rfl|assumption):wpAny M A (storeName X.env x u) Q E s:=by
 obtain⟨m,G,hl⟩:=id I.loc;have rY:(X.env.scope.kind == .class||(X.env.scope.kind == .module&&X.env.locals != X.env.globals))=false:=by rw[I.ok.kind];rfl
 have l:i<σ.length:=by rw[I.len];exact(AA0.mp hi).1
 have t:=I.cne;have tracked:∀{a:zu} {h':kf},(∃o,s.heap.get? a=some o/\H a=none)->Heap.SameBut a s.heap h'->Ij X.prog X.w H h':=λ{a h'} ha hs b ob e=>by
  obtain⟨_,_,U⟩:=ha;refine(I.hok b ob e).stay (λc B hc q=>(hs.2 c ?_).trans q) (λ_ q=>q) λ_ _ q=>q;rintro rfl;rcases hc with rfl|hc
  .rw [U] at e;cases e
  .rw [U] at hc;cases hc
 rcases hx with hk|hk
 .refine wpAny_storeName_local hk G (λh' yK hs=> ?_) rY;obtain⟨oL,_,_,yM,_⟩:=id G;refine h _ ⟨I.ok,I.os,I.bare,⟨λb o e n hb hx=> ?_,λb o e n hb hx=> ?_,I.base.free,λb o e hx=> ?_,I.base.tups,I.base.frzs,I.base.tbls⟩,⟨_,yK,λj y J f g K=> ?_⟩,λy c e=> ?_,I.free,I.freeC,λp hp=> ?_,tracked ⟨oL,yM,I.free⟩ hs,by simpa using I.len⟩ ⟨_,hs, .inl rfl⟩
  .exact (hs.2 b (AAL (AAX (AAG e) I.ok.above))).trans (I.base.keep b o e n hb hx)
  .obtain ⟨L,f⟩:=I.base.slot b o e n hb hx;exact⟨L,(hs.2 b (AAL (AAX (AAG e) I.ok.above))).trans f⟩
  .obtain ⟨O,f⟩:=I.base.there b o e hx;exact⟨O,(hs.2 b (AAL (AAX (AAG e) I.ok.above))).trans f⟩
  .by_cases hj:j=i
   .subst hj;rw[hi] at f;cases f;rw[ABx l] at g;cases g;exact⟨u,r, .inl ⟨hk,by simp⟩⟩
   .rw [AAb (AAd hj)] at g;obtain⟨P,R,q⟩:=hl j y J f g K;refine⟨P,R, ?_⟩;rcases q with⟨k,e⟩|⟨k,c,e,z⟩
    .refine .inl ⟨k, ?_⟩;have:y≠x:=λe=>hj (UD hN f (e ▸ hi));simp[this,e]
    .exact .inr ⟨k,c,e,z.sameBut hs (t y c e)⟩
  .obtain ⟨B,z⟩:=I.cell y c e;exact⟨B,z.sameBut hs (t y c e)⟩
  .obtain ⟨e,n,C,S,d⟩:=I.pin p hp;exact⟨(hs.2 p.1 C).trans e,n,C,S,d⟩
 .have T:X.fn x=true:=by
   rcases hf with z|z
   .exact z
   .rw [z] at hk;cases hk
  obtain⟨c,hc⟩:=I.ok.has x (.inl hk);obtain⟨B,z⟩:=I.cell x c hc;refine wpAny_storeName_cell I.ok.kind hk hc z (λh' W hs=> ?_);obtain⟨Y,Z,sD⟩:=id z;refine h {s with heap:=h'} ⟨I.ok,I.os,I.bare,⟨λb o e n hb hx=> ?_,λb o e n hb hx=> ?_,I.base.free,λb o e hx=> ?_,I.base.tups,I.base.frzs,I.base.tbls⟩,⟨m,G.sameBut hs (AAd (t x c hc)),λj y J f g K=> ?_⟩,λy D e=> ?_,I.free,I.freeC,λp hp=> ?_,tracked ⟨Y,Z,I.freeC x c hc⟩ hs,by simpa using I.len⟩ ⟨c,hs, .inr hc⟩
  .exact (hs.2 b (AAL (AAX (AAG e) (I.ok.cab x c T hc)))).trans (I.base.keep b o e n hb hx)
  .obtain ⟨L,f⟩:=I.base.slot b o e n hb hx;exact⟨L,(hs.2 b (AAL (AAX (AAG e) (I.ok.cab x c T hc)))).trans f⟩
  .obtain ⟨O,f⟩:=I.base.there b o e hx;exact⟨O,(hs.2 b (AAL (AAX (AAG e) (I.ok.cab x c T hc)))).trans f⟩
  .by_cases hj:j=i
   .subst hj;rw[hi] at f;cases f;rw[ABx l] at g;cases g;exact⟨u,r, .inr ⟨.inl hk,c,hc,W⟩⟩
   .rw [AAb (AAd hj)] at g;obtain⟨P,R,q⟩:=hl j y J f g K;refine⟨P,R, ?_⟩;rcases q with q|⟨k,D,e,z'⟩
    .exact .inl q
    .refine .inr ⟨k,D,e,z'.sameBut hs ?_⟩;rintro rfl;exact hj (UD hN f (I.ok.inj _ _ _ e hc ▸ hi))
  .by_cases uz:D=c
   .subst uz;exact⟨_,W⟩
   .obtain ⟨w2,z2⟩:=I.cell y D e;exact⟨w2,z2.sameBut hs uz⟩
  .obtain ⟨e,n,C,S,d⟩:=I.pin p hp;refine⟨(hs.2 p.1 ?_).trans e,n,C,S,d⟩;intro q;rw[q,Z] at e;have q':Y=p.2:=AAY e;exact d B (by rw[<-q'];exact sD)
def Ha {M:Model}{A:ke}{E:zx->zw->Prop}{i:Nat}{x:Str}{v:V}{u:zx}{Q:Unit->zw->Prop}(I:Inv X kd σ H s)(hN:X.N.Nodup)(hi:X.N[i]? =some x)(hx:Loc X.env.scope x)(r:RelV v u)(h:∀a,Inv X kd (σ.set i (some v)) H a->Q () a)(b:X.fn x=true\/X.env.scope.names.lookup x=some .local:=by first | exact .inl rfl|exact .inr rfl|assumption):wpAny M A (storeName X.env x u) Q E s:=
 La I hN hi hx r (λa c _=>h a c) b
def Inv.call' {a:zw}{ch:zy zu}(I:Inv X kd σ H s)(d:a.os=s.os)(u:Un (Zv X.stack) ch H H' s.heap a.heap)(hok:Ij X.prog X.w H' a.heap)(f:AllBare a.gens)(g:∀b∈ch,(b∈X.ex\/X.s₀.heap.objs.size<=b)/\b≠X.env.locals/\(∀x c,X.env.cells.lookup x=some c->c≠b)/\∀p∈X.pn++kd,p.1≠b):Inv X kd σ H' a:=by obtain⟨h',g',d',t',h⟩:=a;have e:h=s.os:=d;subst e;exact I.call (g':=g') (t':=t') (d':=d') u hok f g
end
abbrev XK:=zx->zt zu->Hp->Prop
abbrev St:=zy (zt V)
abbrev VK:=V->Hp->Prop
abbrev TE:=St->Hp->VK->Prop
abbrev TT:=St->Hp->(km->Hp->Prop)->Prop
abbrev TA:=St->Hp->(zy V->Hp->Prop)->Prop
structure MD where
 nx:St->Hp->Prop
 rt:VK
 bk:St->Hp->Prop:=λ_ _=>False
 ct:St->Hp->Prop:=λ_ _=>False
abbrev TS:=MD->St->Hp->Prop
def EP (X:Cx)(kd:zy (zu×Obj))(b:St)(Q:VK)(u:zx)(c:zw):Prop:=∃v a,Inv X kd b a c/\RelV v u/\Q v a
def TP (X:Cx)(kd:zy (zu×Obj))(c:St)(Q:km->Hp->Prop)(b:km)(d:zw):Prop:=∃a,Inv X kd c a d/\Q b a
def AP (X:Cx)(kd:zy (zu×Obj))(b:St)(Q:zy V->Hp->Prop)(us:zy zx)(c:zw):Prop:=∃vs a,Inv X kd b a c/\Aq vs us/\Q vs a
def SP (X:Cx)(kd:zy (zu×Obj))(D:MD)(f:Flow)(b:zw):Prop:=
 match f with
 | .next=>∃σ' a,Inv X kd σ' a b/\D.nx σ' a
 | .brk=>∃σ' a,Inv X kd σ' a b/\D.bk σ' a
 | .cont=>∃σ' a,Inv X kd σ' a b/\D.ct σ' a
 | .ret u=>∃v σ' a,Inv X kd σ' a b/\RelV v u/\D.rt v a
def PE (X:Cx)(e:zr)(t:TE):Prop:=
 ∀(kd:zy (zu×Obj)) (s:zw) (a:St) (H:Hp) (Q:VK),Inv X kd a H s->t a H Q->wpAny (model X.prog X.w) X.A (eval e X.env) (EP X kd a Q) X.xe s
def PT (X:Cx)(e:zr)(t:TT):Prop:=
 ∀(kd:zy (zu×Obj)) (s:zw) (a:St) (H:Hp) (Q:km->Hp->Prop),Inv X kd a H s->t a H Q->wpAny (model X.prog X.w) X.A (isTrue e X.env (eval e X.env)) (TP X kd a Q) X.xe s
def PW (X:Cx)(e:zr)(t:TT):Prop:=
 ∀(whole:Sem zx) (kd:zy (zu×Obj)) (s:zw) (a:St) (H:Hp) (Q:km->Hp->Prop),Inv X kd a H s->t a H Q->wpAny (model X.prog X.w) X.A (isTrue e X.env whole) (TP X kd a Q) X.xe s
def PW.pt {X:Cx}{e:zr}{t:TT}(h:PW X e t):PT X e t:=h _
def PA (X:Cx)(es:zy zr)(t:TA):Prop:=
 ∀(a:Pos) (kd:zy (zu×Obj)) (s:zw) (b:St) (H:Hp) (Q:zy V->Hp->Prop),Inv X kd b H s->t b H Q->wpAny (model X.prog X.w) X.A (spliced (backTo a (starEach es X.env))) (AP X kd b Q) X.xe s
def PS (X:Cx)(st:Stmt)(t:TS):Prop:=
 ∀(kd:zy (zu×Obj)) (s:zw) (a:St) (H:Hp) (D:MD),Inv X kd a H s->t D a H->wpAny (model X.prog X.w) X.A (exec st X.env) (SP X kd D) X.xe s
def Uw (X:Cx)(st:zy Stmt)(t:TS):Prop:=
 ∀(kd:zy (zu×Obj)) (s:zw) (a:St) (H:Hp) (D:MD),Inv X kd a H s->t D a H->wpAny (model X.prog X.w) X.A (execs st X.env) (SP X kd D) X.xe s
def BK {b:Type}{t:Sem b}{Q c:b->zw->Prop}{M:Model}{A:ke}{E:zx->zw->Prop}{s:zw}(h:wpAny M A t Q E s)(hQ:∀a s,Q a s->c a s):wpAny M A t c E s:=AA7 h hQ λ_ _ x=>x
section
variable {X:Cx}
def DS (i:Nat):TE:=λa H Q=>∃v,a[i]? =some (some v)/\Q v H
def tC (v:V):TE:=λ_ H Q=>Q v H
def Ri {i:Nat}{x:Str}{b:Pos}(hN:X.N[i]? =some x)(hv:jh X.env.scope x)(hd:(x==("__debug__" :Str))=false:=by decide)(f:(x==("__classdict__" :Str))=false:=by decide):PE X (.Name x b) (DS i):=by
 intro kd s g H Q I h;obtain⟨v,e,h⟩:=h;obtain⟨m,j,hl⟩:=I.loc;obtain⟨u,r,l⟩:=hl i x v hN e hv;have a:EP X kd g Q u s:=⟨v,H,I,r,h⟩;rcases l with⟨hk,k⟩|⟨hk,c,hc,d⟩
 .exact wpAny_Name (wpAny_loadName_local I.ok.kind hk j k a) hd
 .rcases hk with hk|hk
  .exact wpAny_Name (wpAny_loadName_cell I.ok.kind hk hc d a) hd
  .exact wpAny_Name (wpAny_loadName_free I.ok.kind hk hc d a f) hd
def A3 {i j pos}:PE X (.Constant (.int i) j pos) (tC (.int i)):=λ_ _ _ H _ I h=>wpAny_Constant_int ⟨.int i,H,I.tok _,⟨_,rfl⟩,h⟩
def o6 {b j pos}:PE X (.Constant (.bool b) j pos) (tC (.bl b)):=λ_ _ _ H _ I h=>Constant_bool ⟨.bl b,H,I,rfl,h⟩
def cN {j pos}:PE X (.Constant .none j pos) (tC .non):=λ_ _ _ H _ I h=>Constant_none ⟨.non,H,I,rfl,h⟩
def lM {x j pos}:PE X (.Constant (.str x) j pos) (tC (.str x)):=λ_ _ _ H _ I h=>Calls.Constant_str ⟨.str x,H,I.tok _,⟨_,rfl⟩,h⟩
def Gl (X:Cx)(x:Str):Prop:=X.env.kindOf x=some .globalImplicit
def Xm {E:zx->zw->Prop}{kd:zy (zu×Obj)}{s:zw}{b:St}{H:Hp}{x:Str}{u:zx}{a:Pos}{Q:zx->zw->Prop}(I:Inv X kd b H s)(c:Gl X x)(d:X.mg x=some u)(h:Q u s)(hd:(x==("__debug__" :Str))=false:=by decide):wpAny (model X.prog X.w) X.A (eval (.Name x a) X.env) Q E s:=
 Calls.Name_function_global I.ok.kind c (Calls.loadGlobal_global (by rw[I.ok.glob];exact I.mod.glob.keeps I.bk) d h) hd
def Iw {E:zx->zw->Prop}{kd:zy (zu×Obj)}{s:zw}{b:St}{H:Hp}{x:Str}{u:zx}{a:Pos}{Q:zx->zw->Prop}(I:Inv X kd b H s)(c:Gl X x)(d:X.mg x=none)(hv:bootBuiltins x=some u)(h:Q u s)(e:x≠"__name__" :=by decide)(hd:(x==("__debug__" :Str))=false:=by decide):wpAny (model X.prog X.w) X.A (eval (.Name x a) X.env) Q E s:=by obtain⟨f,h1,h2⟩:=I.mod.blt;exact Calls.Name_function_global I.ok.kind c (Calls.loadGlobal_builtin (by rw[I.ok.glob];exact I.mod.glob.keeps I.bk) d (by rw[I.ok.blt];exact h1.keeps I.bk) ((h2 x e).trans hv) h) hd
def gU {x:Str}{v:V}{u:zx}{a:Pos}(b:Gl X x)(c:X.mg x=some u)(r:RelV v u)(hd:(x==("__debug__" :Str))=false:=by decide):PE X (.Name x a) (tC v):=
 λ_ _ _ H _ I h=>Xm I b c ⟨v,H,I,r,h⟩ hd
variable {a b:zr}{ta tb:TE}{pos:Pos}
def PC (X:Cx)(op:CmpOp)(a b:zr)(t:TE):Prop:=
 ∀(kd:zy (zu×Obj)) (s:zw) (e:St) (H:Hp) (Q:VK),Inv X kd e H s->t e H Q->
  wpAny (model X.prog X.w) X.A (eval a X.env) (λv c=>wpAny (model X.prog X.w) X.A (eval b X.env) (λu d=>wpAny (model X.prog X.w) X.A (compareOp op v u) (EP X kd e Q) X.xe d) X.xe c) X.xe s
def bn (b:zr){op:CmpOp}(h:op≠ .In)(h2:op≠ .NotIn):behindInMarks op b=false:=by
 have c:(op==CmpOp.In)=false:=by cases op <;> first | rfl|exact absurd rfl h
 have d:(op==CmpOp.NotIn)=false:=by cases op <;> first | rfl|exact absurd rfl h2
 cases b <;> simp[behindInMarks,c,d]
def tB (t:TE):TT:=λd H Q=>t d H λx H1=>∃c,x= .bl c/\Q c H1
def lQ {op:CmpOp}{t:TE}(h:PC X op a b t)(h1:behindInMarks op b=false:=by first | exact bn _ (by decide) (by decide)|rfl):PT X (.Compare a [op] [b] pos) (tB t):=by intro kd s e H Q I hw;refine wpAny_isTrue_Compare1 (BK (h kd s e H _ I hw) λv j h1=>BK h1 λu k h2=>BK h2 λc l ⟨x,H1,f,g,i⟩=> ?_) h1;obtain⟨d,rfl,q⟩:=i;cases g;exact ABK ⟨H1,f,q⟩
def lS {e:zr}{t:TE}(h:PE X e t)(he:∀whole,isTrue e X.env whole=(do let v <-whole;standAt e.pos;holding [v] (truthy v)):=by intro _;rfl):PT X e (tB t):=by intro kd s c H Q I hw;refine isTrue_plain (BK (h kd s c H _ I hw) λv j ⟨x,H1,f,g,i⟩=> ?_) (he _);obtain⟨d,rfl,q⟩:=i;cases g;exact ABK ⟨H1,f,q⟩
variable {tA tB':TT}{rest:zy zr}
def tJ (t u:TT):TT:=λd H Q=>t d H λc H1=>if c=true then u d H1 Q else Q false H1
def ym (t u:TT):TT:=λd H Q=>t d H λc H1=>if c=true then Q true H1 else u d H1 Q
def tN (t:TT):TT:=λd H Q=>t d H λc H1=>Q (!c) H1
def gr (ha:PT X a tA):PW X (.BoolOp .And [a] pos) tA:=by
 intro f kd s d H Q I h;refine isTrue_and (BK (ha kd s d H Q I h) λc g e=> ?_);cases c with
 | true=>exact isTrue_and_nil e
 | false=>exact e
def lU (ha:PT X a tA):PW X (.BoolOp .Or [a] pos) tA:=by
 intro f kd s d H Q I h;refine isTrue_or (BK (ha kd s d H Q I h) λc g e=> ?_);cases c with
 | false=>exact isTrue_or_nil e
 | true=>exact e
def lT (ha:PT X a tA)(hb:PW X (.BoolOp .And (b::rest) pos) tB'):PW X (.BoolOp .And (a::b::rest) pos) (tJ tA tB'):=by
 intro g kd s d H Q I h;refine isTrue_and (BK (ha kd s d H _ I h) λc i ⟨H1,e,f⟩=> ?_);cases c with
 | true=>exact hb g kd i d H1 Q e f
 | false=>exact⟨H1,e,f⟩
def pB (ha:PT X a tA)(hb:PW X (.BoolOp .Or (b::rest) pos) tB'):PW X (.BoolOp .Or (a::b::rest) pos) (ym tA tB'):=by
 intro g kd s d H Q I h;refine isTrue_or (BK (ha kd s d H _ I h) λc i ⟨H1,e,f⟩=> ?_);cases c with
 | true=>exact⟨H1,e,f⟩
 | false=>exact hb g kd i d H1 Q e f
def lR (ha:PT X a tA):PT X (.UnaryOp .Not a pos) (tN tA):=by intro kd s d H Q I h;exact isTrue_not (ha kd s d H (λc H1=>Q (!c) H1) I h)
def pX (ta tb:TE):TE:=λd H Q=>ta d H λx H1=>∃c,x= .bl c/\if c=true then tb d H1 Q else Q (.bl false) H1
def tO (ta tb:TE):TE:=λd H Q=>ta d H λx H1=>∃c,x= .bl c/\if c=true then Q (.bl true) H1 else tb d H1 Q
def pj (ta:TE):TE:=λd H Q=>ta d H λx H1=>∃c,x= .bl c/\Q (.bl (!c)) H1
def lK {op}{t:TE}(h:PE X a t):PE X (.BoolOp op [a] pos) t:=λkd s c H Q I hw=>BoolOp_one (h kd s c H Q I hw)
def lH (ha:PE X a ta)(hb:PE X (.BoolOp .And (b::rest) pos) tb):PE X (.BoolOp .And (a::b::rest) pos) (pX ta tb):=by
 intro kd s e H Q I h;refine BoolOp_and (BK (ha kd s e H _ I h) λv g ⟨x,H1,f,i,d⟩=> ?_);obtain⟨c,rfl,d⟩:=d;cases i;refine ABK ?_;cases c with
 | true=>exact hb kd g e H1 Q f d
 | false=>exact⟨.bl false,H1,f,rfl,d⟩
def o8 (ha:PE X a ta)(hb:PE X (.BoolOp .Or (b::rest) pos) tb):PE X (.BoolOp .Or (a::b::rest) pos) (tO ta tb):=by
 intro kd s e H Q I h;refine BoolOp_or (BK (ha kd s e H _ I h) λv g ⟨x,H1,f,i,d⟩=> ?_);obtain⟨c,rfl,d⟩:=d;cases i;refine ABK ?_;cases c with
 | false=>exact hb kd g e H1 Q f d
 | true=>exact⟨.bl true,H1,f,rfl,d⟩
def lJ (ha:PE X a ta):PE X (.UnaryOp .Not a pos) (pj ta):=by intro kd s e H Q I h;refine UnaryOp_ (BK (ha kd s e H _ I h) λv i ⟨x,H1,f,g,d⟩=> ?_);obtain⟨c,rfl,d⟩:=d;cases g;exact not_of (ABK ⟨.bl (!c),H1,f,rfl,d⟩)
def yk (t:TT)(ta tb:TE):TE:=λd H Q=>t d H λc H1=>if c=true then ta d H1 Q else tb d H1 Q
def cK {c:zr}(hc:PT X c tA)(ha:PE X a ta)(hb:PE X b tb):PE X (.IfExp c a b pos) (yk tA ta tb):=by
 intro kd s e H Q I h;refine wpAny_IfExp (BK (hc kd s e H _ I h) λd f ⟨H1,g,i⟩=> ?_);cases d with
 | true=>exact ha kd f e H1 Q g i
 | false=>exact hb kd f e H1 Q g i
end
def E8 (K:AAB)(H:Hp)(a:zu)(xs:zy V):Prop:=
 Rd H a (.lst xs)\/
  ∃(o:Obj) (b:Array zx) (n:Nat),K.lookup a=some o/\o.cls= .type "list" /\o.dict=none/\o.data= .seq b n/\b.size<=sizeLine/\Aq xs b.toList
def MF (K:AAB)(H:Hp)(a:zu)(xs:zy V):Prop:=
 Rd H a (.tup xs)\/
  ∃(o:Obj) (b:Array zx) (n:Nat),K.lookup a=some o/\o.cls= .type "tuple" /\o.data= .seq b n/\b.size<=sizeLine/\Aq xs b.toList
def rF:zx->zt V
 | .none=>some .non
 | .bool b=>some (.bl b)
 | .int i _=>some (.int i)
 | .str x _=>some (.str x)
 | .bytes b _=>some (.byt b)
 | .float b _=>some (.flt b)
 | .ref a=>some (.ref a)
 | .type n=>some (.ty n)
 | _=>none
def RelV.abs {x:V}{u:zx}(r:RelV x u):rF u=some x:=by
 cases x with
 | non=>cases r;rfl
 | bl _=>cases r;rfl
 | int _=>obtain⟨t,rfl⟩:=r;rfl
 | str _=>obtain⟨t,rfl⟩:=r;rfl
 | byt _=>obtain⟨t,rfl⟩:=r;rfl
 | flt _=>obtain⟨t,rfl⟩:=r;rfl
 | ref _=>cases r;rfl
 | ty _=>cases r;rfl
def RelV.inj {x y:V}{u:zx}(r:RelV x u)(q:RelV y u):x=y:=AAY (r.abs.symm.trans q.abs)
theorem Aq.inj:∀{xs ys:zy V} {us:zy zx},Aq xs us->Aq ys us->xs=ys
 | _,_,_, .nil, .nil=>rfl
 | _,_,_, .cons r t, .cons a t'=>by rw[r.inj a,Aq.inj t t']
section
variable {X:Cx}{kd:zy (zu×Obj)}{σ:St}{H:Hp}{s:zw}{a:zu}{xs ys:zy V}
def E8.of {K:AAB}(h:H a=some (.lst xs)):E8 K H a xs:= .inl (.inl h)
def Inv.list (I:Inv X kd σ H s)(h:E8 X.K H a xs):∃b:zy zx,Aq xs b/\PlainL s.heap a b.toArray/\xs.length<=sizeLine:=by
 rcases h with h|⟨o,b,n,hk,hc,hd,hs,hz,r⟩
 .obtain ⟨z,b,n,r,e⟩:=h.ok I.hok;exact⟨b,r,⟨_,n,e,rfl,rfl,rfl⟩,z⟩
 .refine ⟨b.toList,r,⟨o,n,I.kIn a o hk,hc,hd,by simpa using hs⟩, ?_⟩;have e:=r.length;simp only[ABT] at e;omega
def Inv.tuple (I:Inv X kd σ H s)(h:MF X.K H a xs):∃b:zy zx,Aq xs b/\IsTup s.heap a b.toArray/\xs.length<=sizeLine:=by
 rcases h with h|⟨o,b,n,hk,hc,hs,hz,r⟩
 .obtain ⟨z,b,r,p⟩:=h.ok I.hok;exact⟨b,r,p,z⟩
 .refine ⟨b.toList,r,⟨o,I.kIn a o hk,hc,n,by simpa using hs⟩, ?_⟩;have e:=r.length;simp only[ABT] at e;omega
def Inv.list_inj (I:Inv X kd σ H s)(h:E8 X.K H a xs)(h':E8 X.K H a ys):xs=ys:=by
 obtain⟨b,r,⟨o,n,e,_,_,d⟩,_⟩:=I.list h;obtain⟨its',f,⟨i,j,c,_,_,d'⟩,_⟩:=I.list h';rw[e] at c;cases c;rw[d] at d';injection d' with g _;have:b=its':=by simpa using congrArg Array.toList g
 subst this;exact r.inj f
def Inv.tuple_inj (I:Inv X kd σ H s)(h:MF X.K H a xs)(h':MF X.K H a ys):xs=ys:=by
 obtain⟨b,r,⟨o,e,_,n,d⟩,_⟩:=I.tuple h;obtain⟨its',f,⟨i,c,_,j,d'⟩,_⟩:=I.tuple h';rw[e] at c;cases c;rw[d] at d';injection d' with g _;have:b=its':=by simpa using congrArg Array.toList g
 subst this;exact r.inj f
end
abbrev Cx.wish (X:Cx)(E:zx->zw->Prop):Cx:={X with xe:=E}
abbrev Cx.nox (X:Cx):Cx:=X.wish λ_ _=>False
def Cx.Ok.wish {X:Cx}(ok:X.Ok)(E:zx->zw->Prop):(X.wish E).Ok:=
 ⟨ok.mod,ok.kind,ok.glob,ok.blt,ok.above,ok.inj,ok.has,ok.cab,ok.hd,ok.frames,ok.stk,ok.exf,ok.bs,ok.bsz,ok.noex,ok.exfs,ok.funs,ok.frf⟩
def Cx.Ok.unwish {X:Cx}{E:zx->zw->Prop}(ok:(X.wish E).Ok):X.Ok:=
 ⟨ok.mod,ok.kind,ok.glob,ok.blt,ok.above,ok.inj,ok.has,ok.cab,ok.hd,ok.frames,ok.stk,ok.exf,ok.bs,ok.bsz,ok.noex,ok.exfs,ok.funs,ok.frf⟩
section
variable {X:Cx}{kd:zy (zu×Obj)}{σ:St}{H:Hp}{s:zw}{E:zx->zw->Prop}
def Inv.wish (I:Inv X kd σ H s)(E:zx->zw->Prop):Inv (X.wish E) kd σ H s:=⟨I.ok.wish E,I.os,I.bare,I.base,I.loc,I.cell,I.free,I.freeC,I.pin,I.hok,I.len⟩
def Inv.unwish (I:Inv (X.wish E) kd σ H s):Inv X kd σ H s:=⟨I.ok.unwish,I.os,I.bare,I.base,I.loc,I.cell,I.free,I.freeC,I.pin,I.hok,I.len⟩
def SP.unwish {D:MD}{f:Flow}{b:zw}(h:SP (X.wish E) kd D f b):SP X kd D f b:=by
 cases f with
 | next=>obtain⟨σ',a,I,q⟩:=h;exact⟨σ',a,I.unwish,q⟩
 | brk=>obtain⟨σ',a,I,q⟩:=h;exact⟨σ',a,I.unwish,q⟩
 | cont=>obtain⟨σ',a,I,q⟩:=h;exact⟨σ',a,I.unwish,q⟩
 | ret u=>obtain⟨v,σ',a,I,r,q⟩:=h;exact⟨v,σ',a,I.unwish,r,q⟩
def Uw.nox {st:zy Stmt}{t:TS}(h:Uw X.nox st t):Uw X st t:=λkd s σ H D I hw=>
 AA7 (h kd s σ H D (I.wish _) hw) (λ_ _ q=>q.unwish) λ_ _ z=>False.elim z
end
section
variable {X:Cx}{st:Stmt}{rest:zy Stmt}{t u:TS}{e:zr}{te:TE}{pos:Pos}
def jN:TS:=λD a H=>D.nx a H
def Wt (t u:TS):TS:=λD a H=>t {D with nx:=u D} a H
def Mc:Uw X [] jN:=λ_ _ a H _ I h=>ACi ⟨a,H,I,h⟩
def Bk (h1:PS X st t)(h2:Uw X rest u):Uw X (st::rest) (Wt t u):=by
 intro kd s a H D I h;refine wpAny_execs_cons (BK (h1 kd s a H {D with nx:=u D} I h) λf b q=> ?_);cases f with
 | next=> obtain⟨σ',c,d,q⟩:=q;exact h2 kd b σ' c D d q
 | ret v=>exact q
 | brk=>exact q
 | cont=>exact q
def ET (h1:PS X st t):Uw X [st] t:=by
 intro kd s a H D I h;refine wpAny_execs_cons (BK (h1 kd s a H D I h) λf b q=> ?_);cases f with
 | next=>exact ACi q
 | ret v=>exact q
 | brk=>exact q
 | cont=>exact q
def Inv.quiet {kd:zy (zu×Obj)}{a:St}{H:Hp}{s:zw}(I:Inv X kd a H s):interactive X.env=false:=by simp[interactive,I.ok.kind]
def jL (te:TE):TS:=λD a H=>te a H λ_ H1=>D.nx a H1
def gj (he:PE X e te)(hs:swapsWith e none pos.line X.env=pure false:=by rfl):PS X (.Expr e pos) (jL te):=by intro kd s a H D I h;exact wpAny_Expr_any (BK (he kd s a H _ I h) λv d ⟨x,H1,b,f,c⟩=>⟨a,H1,b,c⟩) I.quiet hs
def di (te:TE):TS:=λD a H=>te a H D.rt
def OL (he:PE X e te):PS X (.Return (some e) pos) (di te):=by intro kd s a H D I h;exact wpAny_Return_some (BK (he kd s a H _ I h) λv f ⟨x,H1,b,c,d⟩=>⟨x,a,H1,b,c,d⟩)
def pY (c:TT)(t u:TS):TS:=λD a H=>c a H λb H1=>if b=true then t D a H1 else u D a H1
def Xz {c:zr}{a b:zy Stmt}{g:TT}(hc:PT X c g)(ha:Uw X a t)(hb:Uw X b u):PS X (.If c a b pos) (pY g t u):=by
 intro kd s f H D I h;refine wpAny_If (BK (hc kd s f H _ I h) λd i ⟨H1,j,k⟩=> ?_);cases d with
 | true=>exact ha kd i f H1 D j k
 | false=>exact hb kd i f H1 D j k
end
abbrev TG:=V->St->Hp->(St->Hp->Prop)->Prop
abbrev VM:=zy V->St->Hp->(St->Hp->Prop)->Prop
def PG (X:Cx)(target:zr)(t:TG):Prop:=
 ∀(kd:zy (zu×Obj)) (s:zw) (a:St) (H:Hp) (v:V) (u:zx) (Q:St->Hp->Prop),Inv X kd a H s->RelV v u->t v a H Q->
  wpAny (model X.prog X.w) X.A (assign target X.env u) (λ_ c=>∃σ' b,Inv X kd σ' b c/\Q σ' b) X.xe s
def mX (X:Cx)(c:zy zr)(t:VM):Prop:=
 ∀(kd:zy (zu×Obj)) (s:zw) (a:St) (H:Hp) (vs:zy V) (us:zy zx) (Q:St->Hp->Prop),Inv X kd a H s->Aq vs us->t vs a H Q->
  wpAny (model X.prog X.w) X.A (assignInOrder ((assignEach c X.env).map (·.2)) us) (λ_ d=>∃σ' b,Inv X kd σ' b d/\Q σ' b) X.xe s
abbrev jg:=V->V->V->Hp->(Hp->Prop)->Prop
def nN (X:Cx)(t:jg):Prop:=
 ∀(kd:zy (zu×Obj)) (s:zw) (a:St) (H:Hp) (o i v:V) (b c u:zx) (Q:Hp->Prop),Inv X kd a H s->RelV o b->RelV i c->RelV v u->t o i v H Q->
  wpAny (model X.prog X.w) X.A (setItem b c u) (λ_ e=>∃d,Inv X kd a d e/\Q d) X.xe s
abbrev nP:=V->V->Hp->VK->Prop
def mY (X:Cx)(op:Operator)(t:nP):Prop:=
 ∀(kd:zy (zu×Obj)) (s:zw) (a:St) (H:Hp) (x y:V) (v u:zx) (Q:VK),Inv X kd a H s->RelV x v->RelV y u->t x y H Q->
  wpAny (model X.prog X.w) X.A (inplaceOp op v u) (EP X kd a Q) X.xe s
section
variable {X:Cx}{pos:Pos}
def Bj (i:Nat):TG:=λv a H Q=>Q (a.set i (some v)) H
def ES {i:Nat}{x:Str}(hN:X.N.Nodup)(hi:X.N[i]? =some x)(hx:Loc X.env.scope x)(a:X.fn x=true\/X.env.scope.names.lookup x=some .local:=by first | exact .inl rfl|exact .inr rfl|assumption):PG X (.Name x pos) (Bj i):=by intro kd s c H v u Q I r h;exact ADS (Ha I hN hi hx r (λd b=>⟨_,H,b,h⟩) a)
def MI:VM:=λvs a H Q=>vs= [] /\Q a H
def DC (t:TG)(u:VM):VM:=λvs a H Q=>∃v r,vs=v::r/\t v a H λσ' b=>u r σ' b Q
def KG:mX X [] MI:=by intro kd s a H vs us Q I r h;obtain⟨e,h⟩:=h;subst e;cases r;exact assignInOrder_nil ⟨a,H,I,h⟩
def Dp {e:zr}{es:zy zr}{t:TG}{u:VM}(h1:PG X e t)(h2:mX X es u)(hs:(assignEach (e::es) X.env).map (·.2)=assign e X.env::(assignEach es X.env).map (·.2):=by rfl):mX X (e::es) (DC t u):=by
 intro kd s b H vs us Q I r h;obtain⟨v,j,c,h⟩:=h;subst c;cases r with
 | cons r d=> rw[hs];refine assignInOrder_cons (BK (h1 kd s b H _ _ _ I r h) λ_ f ⟨a,H1,g,i⟩=> ?_);exact h2 kd f a H1 _ _ Q g d i
def rL (b c:TE)(t:jg):TG:=λv a H Q=>b a H λo H1=>c a H1 λi d=>t o i v d λe=>Q a e
def WM {o i:zr}{d e:TE}{t:jg}(f:PE X o d)(hi:PE X i e)(hs:nN X t)(ha:∀v,assign (.Subscript o i pos) X.env v=(do
   let a <-holding [v] (eval o X.env);let b <-holding [v,a] (eval i X.env)
   standAt pos
   holding [v,a,b] (setItem a b v)
   release [v,a,b] []):=by intro _;rfl):PG X (.Subscript o i pos) (rL d e t):=by intro kd s c H v u Q I r h;rw[ha];refine AAA (AAi (BK (f kd s c H _ I h) λa g ⟨x,H1,j,k,l⟩=> ?_));refine AAA (AAi (BK (hi kd g c H1 _ j l) λb m ⟨y,n,p,w,z⟩=> ?_));refine AAA (AA1 (AAA (AAi (BK (hs kd m c n x y v a b u _ p k w r z) λ_ D ⟨A,B,C⟩=> ?_))));exact wpAny_release ⟨c,A,B,C⟩
def Pm (te:TE)(g:TG):TS:=λD a H=>te a H λx H1=>g x a H1 D.nx
def Rj {a e:zr}{te:TE}{g:TG}(he:PE X e te)(c:PG X a g)(hs:swapsWithSole [a] e pos.line X.env=pure false:=by rfl)(hw:swappedStores [a] e X.env=pure none:=by rfl)(h1:(assignEach [a] X.env).map (·.2)= [assign a X.env] :=by rfl):PS X (.Assign [a] e pos) (Pm te g):=by intro kd s b H D I h;refine wpAny_Assign_stores (BK (he kd s b H _ I h) λv d ⟨x,H1,f,i,j⟩=> ?_) hs hw;rw[h1];exact BK (c kd d b H1 x v _ f i j) λ_ k q=>q
def FR {i:Nat}{x:Str}{e:zr}{te:TE}{pos':Pos}(hN:X.N.Nodup)(hi:X.N[i]? =some x)(hx:Loc X.env.scope x)(he:PE X e te)(hs:swapsWith e (some (.Name x pos')) pos.line X.env=pure false:=by rfl)(a:X.fn x=true\/X.env.scope.names.lookup x=some .local:=by first | exact .inl rfl|exact .inr rfl|assumption):PS X (.Assign [.Name x pos'] e pos) (Pm te (Bj i)):=by intro kd s b H D I h;refine wpAny_Assign_Name (BK (he kd s b H _ I h) λv j ⟨y,H1,c,d,f⟩=> ?_) hs;exact Ha c hN hi hx d (λk g=>⟨_,H1,g,f⟩) a
def tP (i j:Nat)(b:TA):TS:=λD a H=>b a H λvs H1=>∃v w,vs= [v,w] /\D.nx ((a.set i (some v)).set j (some w)) H1
def lP {i j:Nat}{x y:Str}{a b:zr}{r:TA}{g k l:Pos}{kt k2 pt2}(hc:X.calm=true)(hN:X.N.Nodup)(hi:X.N[i]? =some x)(hj:X.N[j]? =some y)(z:i≠j)(hx:X.env.scope.names.lookup x=some .local)(hy:X.env.scope.names.lookup y=some .local)(ha:PA X [a,b] r)(hw:swappedStores [.Tuple [.Name x g, .Name y k] kt l] (.Tuple [a,b] k2 pt2) X.env=pure (some [x,y]))(hs:swapsWithSole [.Tuple [.Name x g, .Name y k] kt l] (.Tuple [a,b] k2 pt2) pos.line X.env=pure false:=by rfl):PS X (.Assign [.Tuple [.Name x g, .Name y k] kt l] (.Tuple [a,b] k2 pt2) pos) (tP i j r):=by
 intro kd s t H D I h;rw[exec_Assign_arm];refine AAA (AA1 ?_);rw[hs];refine AAA (AAC ?_);rw[AAD (by decide)];refine AAA (Tuple_ (BK (ha _ kd s t H _ I h) λus c ⟨vs,H1,B,C,m⟩=> ?_));obtain⟨v,w,E,m⟩:=m;subst E;obtain⟨d,f,rfl,rv,n⟩:∃d f,us= [d,f] /\RelV v d/\RelV w f:=by
  cases C with
  | cons p q=>
    cases q with
    | cons F G=> cases G;exact⟨_,_,rfl,p,F⟩
 refine AAu ?_ (by show 2<=sizeLine;decide);have J:Inv X kd t H1 {c with heap:=c.heap.push {cls:= .type "tuple",data:= .seq [d,f].toArray}}:=B.kept (t':=c.toks) λb o e=>AAH _ e;rw[hw];refine AAA (AAC ?_);show wpAny (model X.prog X.w) X.A (do rule "assign.swapped-stores";let items <-unpackItems (.ref c.heap.objs.size) 2 none;assignInOrder [λv=>bindName X.env y v,λv=>bindName X.env x v] items.reverse;pure Flow.next) _ _ _;refine AAA (ABA (AAA (unpackItems_tuple (items:= #[d,f]) (I.ok.hd hc) (IsTup.new c.heap _) λh' K=> ?_)));have L:=J.kept (h':=h') (t':=c.toks) λb o e=>K b o (AAL (AAG e)) e;show wpAny _ _ (assignInOrder [λv=>bindName X.env y v,λv=>bindName X.env x v] [f,d] >>= λ_=>pure Flow.next) _ _ _;refine AAA (assignInOrder_cons (wpAny_bindName (Ha L hN hj (.inl hy) n (λO M=> ?_) (.inr hy))));refine assignInOrder_cons (wpAny_bindName (Ha M hN hi (.inl hx) rv (λP u=>assignInOrder_nil (AAC ?_)) (.inr hx)));rw[List.set_comm _ _ (AAd z)] at u;exact⟨_,H1,u,m⟩
def tK (i:Nat)(te:TE)(b:nP):TS:=λD a H=>∃x,a[i]? =some (some x)/\te a H λy H1=>b x y H1 λz c=>D.nx (a.set i (some z)) c
def lO {i:Nat}{x:Str}{e:zr}{te:TE}{op:Operator}{f:nP}{pos':Pos}(hN:X.N.Nodup)(hi:X.N[i]? =some x)(hx:Loc X.env.scope x)(he:PE X e te)(j:mY X op f)(n:X.fn x=true\/X.env.scope.names.lookup x=some .local:=by first | exact .inl rfl|exact .inr rfl|assumption):PS X (.AugAssign (.Name x pos') op e pos) (tK i te f):=by
 intro kd s g H D I h;obtain⟨v,o,h⟩:=h;obtain⟨m,p,hl⟩:=I.loc;have d:jh X.env.scope x:=by rcases hx with k|k;exact .inl k;exact .inr (.inl k)
 obtain⟨u,r,l⟩:=hl i x v hi o d;refine wpAny_AugAssign_Name ?_;have go:wpAny (model X.prog X.w) X.A (eval e X.env) (λw a=>wpAny (model X.prog X.w) X.A (inplaceOp op u w) (λr b=>wpAny (model X.prog X.w) X.A (storeName X.env x r) (λ_=>SP X kd D .next) X.xe b) X.xe a) X.xe s:=by refine BK (he kd s g H _ I h) λw t ⟨y,H1,B,C,E⟩=> ?_;refine BK (j kd t g H1 v y u w _ B r C E) λz P ⟨Q,F,G,J,K⟩=> ?_;exact Ha G hN hi hx J (λR L=>⟨_,F,L,K⟩) n
 rcases l with⟨hk,M⟩|⟨hk,c,hc,O⟩
 .exact wpAny_loadName_local I.ok.kind hk p M go
 .rcases hk with hk|hk
  .exact wpAny_loadName_cell I.ok.kind hk hc O go
  .rcases hx with k|k
   .have:X.env.scope.names.lookup x=some .free:=hk;rw[k] at this;cases this
   .have:X.env.scope.names.lookup x=some .free:=hk;rw[k] at this;cases this
def sQ (f:Int->Int->Int):nP:=λx y H Q=>∃i j,x= .int i/\y= .int j/\Q (.int (f i j)) H
def kJ:mY X .Add (sQ λi j=>i+j):=by intro kd s e H x y v u Q I a b h;obtain⟨i,j,c,d,q⟩:=h;subst c;subst d;obtain⟨t,rfl⟩:=a;obtain⟨t',rfl⟩:=b;exact iadd_int ⟨.int _,H,I.tok _,⟨_,rfl⟩,q⟩
def mL (c:TT)(f:TS):TS:=λD a H=>∃W:Nat->St->Hp->Prop,(∃m,W m a H)/\∀m a H,W m a H->
 c a H λb H1=>if b=true then ∃N:St->Hp->Prop,(∀σ' d,N σ' d->∃e,e<m/\W e σ' d)/\f {D with nx:=N,ct:=N,bk:=D.nx} a H1 else D.nx a H1
def cX {c:zr}{body:zy Stmt}{p:TT}{r:TS}(hp:PassesOwn (model X.prog X.w) X.A X.env X.xe)(hc:PT X c p)(hb:Uw X body r):PS X (.While c body [] pos) (mL p r):=by
 intro kd s y H D I h;obtain⟨W,⟨m0,z⟩,turn⟩:=h;refine wpAny_While (codeAny_whileLoop (λn B=>∃σ' t,Inv X kd σ' t B/\W n σ' t) ?_ m0 ⟨y,H,I,z⟩);rintro n C ⟨d,H1,E,F⟩;refine ABk hp (BK (hc kd C d H1 _ E (turn n d H1 F)) λb G ⟨u,x,g⟩=> ?_);cases b with
 | true=>
   obtain⟨N,hN,g⟩:=g;rw[AAE rfl];refine ABk hp (BK (hb kd G d u _ x g) λf J i=> ?_);cases f with
   | next=> obtain⟨a,e,j,k⟩:=i;obtain⟨l,m,o⟩:=hN a e k;exact⟨l,m,a,e,j,o⟩
   | cont=> obtain⟨a,e,j,k⟩:=i;obtain⟨l,m,o⟩:=hN a e k;exact⟨l,m,a,e,j,o⟩
   | brk=>exact i
   | ret v=>exact i
 | false=> rw[AAD AAR];exact ACi ⟨d,u,x,g⟩
end
structure It where
 go:Nat->Hp->Prop
 yld:Nat->Hp->V->Hp->Prop
 stop:Nat->Hp->Prop
def EQ (X:Cx)(kd:zy (zu×Obj))(H:Hp)(b:zu):Prop:=
 H b=none/\b≠X.env.locals/\b ∉ X.fs/\(b∈X.ex\/X.s₀.heap.objs.size<=b)/\(∀x c,X.env.cells.lookup x=some c->c≠b)/\∀p∈X.pn++kd,p.1≠b
def Inv.fpOk {X:Cx}{kd:zy (zu×Obj)}{d:St}{H a:Hp}{s:zw}{b:zu}(I:Inv X kd d H s)(hb:s.heap.objs.size<=b)(f:a b=none):EQ X kd a b:=by
 refine⟨f,AAv (AAX I.lt hb),I.nofs hb, .inr (AAf I.sz hb),λx c e z=> ?_,λp hp z=> ?_⟩
 .obtain ⟨v,q⟩:=I.cell x c e;exact absurd (AAX q.lt (by rw[z];exact hb)) (ABC _)
 .exact absurd (AAX (AAG (I.pin p hp).1) (by rw[z];exact hb)) (ABC _)
structure Il (P:Program) (w:World) (K:AAB) (tg:Expr) (J:It) (fp:List Addr) (it:Addr) (tn:Nat->Heap->Prop):Prop where
 mem:it∈fp
 obj:∀i h,tn i h->∀b∈fp,∃o,h.get? b=some o/\∀v,o.data≠ .cell v
 keep:∀i h h',tn i h->(∀b∈fp,∀o,h.get? b=some o->h'.get? b=some o)->tn i h'
 item:∀(X:Cx),X.prog=P->X.w=w->X.K=K->X.calm=true->∀(i:Nat) (kd:List (Addr×Obj)) (s:Shared) (σ:St) (H:Hp) (E:Value->Shared->Prop),Inv X kd σ H s->(∀b∈fp,EQ X kd H b)->tn i s.heap->J.go i H->
  wpAny (model P w) X.A (pyNext (.ref it)) (λr s1=>∃u,r=some u/\
   wpAny (model P w) X.A (letOwnedTupleGo tg (.ref it) u) (λ_ s2=>∃x H',Inv X kd σ H' s2/\RelV x u/\J.yld i H x H'/\tn (i+1) s2.heap/\∀b∈fp,H' b=none) E s1) E s
 done:∀(X:Cx),X.prog=P->X.w=w->X.K=K->X.calm=true->∀(i:Nat) (kd:List (Addr×Obj)) (s:Shared) (σ:St) (H:Hp) (E:Value->Shared->Prop),Inv X kd σ H s->(∀b∈fp,EQ X kd H b)->tn i s.heap->J.stop i H->
  wpAny (model P w) X.A (pyNext (.ref it)) (λr s1=>r=none/\Inv X kd σ H s1) E s
 self:∀(A:Around) (i:Nat) (s:Shared) (Q:Value->Shared->Prop) (E:Value->Shared->Prop),tn i s.heap->Q (.ref it) s->wpAny (model P w) A (pyIter (.ref it)) Q E s
abbrev TI:=St->Hp->(It->Hp->Prop)->Prop
def uk (X:Cx)(kd:zy (zu×Obj))(e:St)(f:zr)(R:It->Hp->Prop)(a:zx)(d:zw):Prop:=
 ∃(it:zu) (fp:zy zu) (tn:Nat->kf->Prop) (J:It) (c:Hp),a= .ref it/\Inv X kd e c d/\Il X.prog X.w X.K f J fp it tn/\tn 0 d.heap/\(∀b∈fp,EQ X kd c b)/\R J c
def PI (X:Cx)(b iter:zr)(c:TI):Prop:=
 ∀(kd:zy (zu×Obj)) (s:zw) (a:St) (H:Hp) (R:It->Hp->Prop),Inv X kd a H s->c a H R->
  wpAny (model X.prog X.w) X.A (eval iter X.env) (λv d=>wpAny (model X.prog X.w) X.A (pyIter v) (uk X kd a b R) X.xe d) X.xe s
def bB {M:Model}{A:ke}{E:zx->zw->Prop}{s:zw}{a:zr}{it:zu}{u:zx}{o:Obj}{n:String}{vs:Array zx}{Q:Unit->zw->Prop}(b:s.heap.get? it=some o)(hc:o.cls= .type n)(hd:o.data= .fields vs)(c: ["enumerate","zip","dict_itemiterator","dict_reverseitemiterator","odict_iterator","itertools.zip_longest","itertools.pairwise"].contains n=false)(hQ:Q () s):wpAny M A (letOwnedTupleGo a (.ref it) u) Q E s:=by
 unfold letOwnedTupleGo;cases a <;> first
  | exact AAC hQ
  | (cases u <;> first
      | exact AAC hQ
      | (refine AAA (wpAny_load b ?_)
         rw[hc,hd];show wpAny M A (if (["enumerate","zip","dict_itemiterator","dict_reverseitemiterator","odict_iterator","itertools.zip_longest","itertools.pairwise"].contains n&&vs[0]?==some (rawInt _))=true then _ else _) Q E s;rw[AAD (by intro h;rw[c,Bool.false_and] at h;cases h)];exact AAC hQ))
def qz (K:AAB)(a:zu):It:=
 ⟨λi H=>∃xs x,E8 K H a xs/\xs[i]? =some x,λi H x b=>b=H/\∀xs,E8 K H a xs->xs[i]? =some x,λi H=>∃xs,E8 K H a xs/\xs.length<=i⟩
def q5 (K:AAB)(a:zu):It:=
 ⟨λi H=>∃xs x,MF K H a xs/\xs[i]? =some x,λi H x b=>b=H/\∀xs,MF K H a xs->xs[i]? =some x,λi H=>∃xs,MF K H a xs/\xs.length<=i⟩
def p9 (lo:Int)(n:Nat):It:=⟨λi _=>i<n,λi H x a=>a=H/\x= .int (lo+i),λi _=>n<=i⟩
def Zk {P:kj}{w:ki}{K:AAB}{B:zr}(a it:zu):Il P w K B (qz K a) [it] it (λi h=>h.IsListIter it a i) where
 mem:=by simp
 obj:=λi h st b hb=>by
  have e:b=it:=by simpa using hb
  subst e;obtain⟨o,e,c,d⟩:=st;exact⟨o,e,λv z=>by rw[d] at z;cases z⟩
 keep:=λi h h' st k=>st.at λo e=>k it (by simp) o e
 item:=by intro X j hw l hc i kd s A H E I g st m;subst j hw l;obtain⟨xs,x,hq,hx⟩:=m;obtain⟨n,rv,p,hz⟩:=I.list hq;obtain⟨u,hu,C⟩:=rv.get hx;obtain⟨f0,f1,D,r,t,y⟩:=g it (by simp);refine wpAny_pyNext_list_item st p.isList (x:=u) (by simpa using hu) λh' f F=> ?_;have G:Inv X kd A H {s with heap:=h'}:=I.turned (t':=s.toks) (λb o hb e=>(F.2 b hb).trans e) f0 f1 r t y;obtain⟨o,e,c,d⟩:=id f;exact⟨u,rfl,bB (s:={s with heap:=h'}) e c d (by decide) ⟨x,H,G,C,⟨rfl,λys hy=>by rw[I.list_inj hy hq];exact hx⟩,f,λb hb=>(g b hb).1⟩⟩
 done:=by intro X j hw l hc i kd s A H E I g st m;subst j hw l;obtain⟨xs,hq,hx⟩:=m;obtain⟨n,rv,p,hz⟩:=I.list hq;obtain⟨f0,f1,D,r,t,y⟩:=g it (by simp);have hl:=rv.length;exact wpAny_pyNext_list_end (I.ok.hd hc) st p.isList (by simp;omega) λh' J=>⟨rfl,I.turned (t':=s.toks) (λb o hb e=>J b o hb e) f0 f1 r t y⟩
 self:=λ_ _ _ _ _ st h=>wpAny_pyIter_listiter st h
def W0 {P:kj}{w:ki}{K:AAB}{B:zr}(a it:zu):Il P w K B (q5 K a) [it] it (λi h=>h.IsTupleIter it a i) where
 mem:=by simp
 obj:=λi h st b hb=>by
  have e:b=it:=by simpa using hb
  subst e;obtain⟨o,e,c,d⟩:=st;exact⟨o,e,λv z=>by rw[d] at z;cases z⟩
 keep:=λi h h' st k=>st.at λo e=>k it (by simp) o e
 item:=by intro X l hw m hc i kd s A H E I j st n;subst l hw m;obtain⟨xs,x,hq,hx⟩:=n;obtain⟨f,rv,p,hz⟩:=I.tuple hq;obtain⟨u,hu,C⟩:=rv.get hx;obtain⟨f0,f1,D,r,t,y⟩:=j it (by simp);refine wpAny_pyNext_tuple_item st (show s.heap.IsTuple a f.toArray from p) (x:=u) (by simpa using hu) λh' g F=> ?_;have G:Inv X kd A H {s with heap:=h'}:=I.turned (t':=s.toks) (λb o hb e=>(F.2 b hb).trans e) f0 f1 r t y;obtain⟨o,e,c,d⟩:=id g;exact⟨u,rfl,bB (s:={s with heap:=h'}) e c d (by decide) ⟨x,H,G,C,⟨rfl,λys hy=>by rw[I.tuple_inj hy hq];exact hx⟩,g,λb hb=>(j b hb).1⟩⟩
 done:=by intro X l hw m hc i kd s A H E I j st n;subst l hw m;obtain⟨xs,hq,hx⟩:=n;obtain⟨f,rv,p,hz⟩:=I.tuple hq;obtain⟨f0,f1,D,r,t,y⟩:=j it (by simp);have hl:=rv.length;exact wpAny_pyNext_tuple_end (I.ok.hd hc) st (show s.heap.IsTuple a f.toArray from p) (by simp;omega) λh' J=>⟨rfl,I.turned (t':=s.toks) (λb o hb e=>J b o hb e) f0 f1 r t y⟩
 self:=λ_ _ _ _ _ st h=>wpAny_pyIter_tupleiter st h
def Wz {P:kj}{w:ki}{K:AAB}{u:zr}(it:zu)(lo:Int)(n:Nat):Il P w K u (p9 lo n) [it] it (λi h=>IsRangeIter h it (lo+(i:Nat)*1) ((n:Int)-(i:Nat)) 1) where
 mem:=by simp
 obj:=λi h st b hb=>by
  have e:b=it:=by simpa using hb
  subst e;exact⟨_,st,λv z=>by
   have x:Data.fields _=Data.cell v:=z;cases x⟩
 keep:=λi h h' st k=>k it (by simp) _ st
 item:=by intro X d hw f hc i kd s p H E I c st g;subst d hw f;obtain⟨f0,f1,y,j,l,m⟩:=c it (by simp);have W:=Walks.range (prog:=X.prog) (w:=X.w) (I.ok.hd hc) it lo 1 n;refine W.item i s _ _ g st λv h' r hv a A=> ?_;obtain⟨t,rfl⟩:=hv;have B:Inv X kd p H {s with heap:=h',toks:=r}:=I.turned (λb o hb e=>A b o (by simpa using hb) e) f0 f1 j l m;refine⟨_,rfl,bB (s:={s with heap:=h',toks:=r}) (n:="range_iterator") a rfl rfl (by decide) ⟨.int (lo+i),H,B,⟨t, ?_⟩,⟨rfl,rfl⟩,a,λb hb=>(c b hb).1⟩⟩;rw[Int.mul_one]
 done:=by intro X d hw f hc i kd s p H E I c st g;subst d hw f;obtain⟨f0,f1,y,j,l,m⟩:=c it (by simp);exact wpAny_pyNext_range_end (I.ok.hd hc) st (by have:n<=i:=g;omega) λh' C=>⟨rfl,I.turned (t':=s.toks) (λb o hb e=>C b o hb e) f0 f1 j l m⟩
 self:=λ_ _ _ _ _ st h=>wpAny_pyIter_rangeiter st h
section
variable {X:Cx}{tg:zr}
def cj {kd:zy (zu×Obj)}{a:St}{H:Hp}{s:zw}{R:It->Hp->Prop}{E:zx->zw->Prop}{lo hi:Int}{t u v:Tok}{c:Nat}(I:Inv X kd a H s)(h1: -(2^62)<=lo)(h2:lo<2^62)(f: -(2^62)<=hi)(g:hi<2^62)(q:R (p9 lo (hi-lo).toNat) H):wpAny (model X.prog X.w) X.A (pyIter (.ref s.heap.objs.size)) (uk X kd a tg R) E {s with heap:=s.heap.push {cls:= .type "range",data:= .fields #[.int lo t, .int hi u, .int 1 v] },toks:=c}:=by
 refine wpAny_pyIter_range (IsRange.new ..) (small_one h1 h2 f g) ?_;have d:Inv X kd a H {s with heap:=s.heap.push {cls:= .type "range",data:= .fields #[.int lo t, .int hi u, .int 1 v] },toks:=c}:=I.kept λb o e=>AAH _ e;refine⟨(s.heap.push {cls:= .type "range",data:= .fields #[.int lo t, .int hi u, .int 1 v] }).objs.size, [(s.heap.push {cls:= .type "range",data:= .fields #[.int lo t, .int hi u, .int 1 v] }).objs.size],_,_,H,rfl,
  d.kept (t':=c) λb o e=>AAH _ e,Wz _ lo (hi-lo).toNat, ?_,λb hb=> ?_,q⟩
 .have h:lo+((0:Nat):Int)*1=lo:=by simp
  have i:(((hi-lo).toNat:Nat):Int)-((0:Nat):Int)=Builtin.Range.rangeSize lo hi 1:=by rw[rangeSize_one];split <;> omega
  show IsRangeIter _ _ (lo+((0:Nat):Int)*1) ((((hi-lo).toNat:Nat):Int)-((0:Nat):Int)) 1;rw[h,i];exact AAS _ rfl
 .have e:b=(s.heap.push {cls:= .type "range",data:= .fields #[.int lo t, .int hi u, .int 1 v] }).objs.size:=by simpa using hb
  subst e;exact d.fpOk (AAJ _) (d.hok.fresh (AAJ _))
def oO (a:TA):TI:=λb H R=>a b H λvs H1=>∃j:Int,vs= [.int j] /\ -(2^62)<=j/\j<2^62/\R (p9 0 j.toNat) H1
def ZT {a:zr}{d:TA}{p b:Pos}(f:Gl X "range")(g:X.mg "range" =none)(ha:PA X [a] d)(hs:starEach [a] X.env= [(false,eval a X.env)] :=by rfl):PI X tg (.Call (.Name "range" p) [a] [] b) (oO d):=by
 intro kd s i H R I h;refine Call_ (Iw I f g boot_range (ACF (BK (ha b kd s i H _ I h) λus o ⟨vs,H1,k,l,c⟩=> ?_) hs rfl));obtain⟨j,e,c,m,q⟩:=c;subst e;cases l with
 | cons r n=> cases n;obtain⟨t,rfl⟩:=r;exact call_range_1 (cj k (by omega) (by omega) c m (by simpa using q))
def mJ (e:TI)(g:TG)(f:TS):TS:=λD a H=>e a H λJ H1=>∃W:Nat->Nat->St->Hp->Prop,(∃m,W 0 m a H1)/\∀i m a H,W i m a H->
 (J.stop i H/\D.nx a H)\/(J.go i H/\∃N:St->Hp->Prop,(∀σ' b,N σ' b->∃d,d<m/\W (i+1) d σ' b)/\∀x b,J.yld i H x b->g x a b λc h=>f {D with nx:=N,ct:=N,bk:=D.nx} c h)
def FQ (fp:zy zu)(h:kf):zy (zu×Obj):=fp.filterMap λb=>(h.get? b).map λo=>(b,o)
def CD {fp:zy zu}{h:kf}{b:zu}{o:Obj}(hb:b∈fp)(e:h.get? b=some o):(b,o)∈FQ fp h:=List.mem_filterMap.mpr ⟨b,hb,by rw[e];rfl⟩
def ZN {fp:zy zu}{h:kf}{p:zu×Obj}(hp:p∈FQ fp h):p.1∈fp/\h.get? p.1=some p.2:=by
 obtain⟨b,hb,e⟩:=List.mem_filterMap.mp hp;cases q:h.get? b with
 | none=>rw[q] at e;cases e
 | some o=> rw[q] at e;have a:(b,o)=p:=AAY e;subst a;exact⟨hb,q⟩
def Inv.pinned {kd:zy (zu×Obj)}{a:St}{H:Hp}{s:zw}{fp:zy zu}(I:Inv X kd a H s)(f:∀b∈fp,EQ X kd H b)(g:∀b∈fp,∃o,s.heap.get? b=some o/\∀v,o.data≠ .cell v):Inv X (kd++FQ fp s.heap) a H s:=
 I.pins_of λp hp=>(AAO.mp hp).elim (λz=>I.pin p (AAW _ z)) λz=>by obtain⟨hb,e⟩:=ZN z;obtain⟨f0,f1,h,_⟩:=f p.1 hb;obtain⟨o,c,d⟩:=g p.1 hb;rw[e] at c;cases c;exact⟨e,f0,f1,h,d⟩
def Inv.unpinned {kd b:zy (zu×Obj)}{a:St}{H:Hp}{s:zw}(I:Inv X (kd++b) a H s):Inv X kd a H s:=I.pins_of λp hp=>I.pin p (AAW _ (ABw _ hp))
def WO {iter:zr}{body:zy Stmt}{Q:TI}{g:TG}{R:TS}{F:Pos}(hp:PassesOwn (model X.prog X.w) X.A X.env X.xe)(hc:X.calm=true)(hi:PI X tg iter Q)(hg:PG X tg g)(hb:Uw X body R)(hs:∀x,foldedSetIterable iter X.env x=pure x:=by intro _;rfl):PS X (.For tg iter body [] F) (mJ Q g R):=by
 intro kd s S H D I h;refine wpAny_For (BK (hi kd s S H _ I h) λv s1 h1=>BK h1 λitv s2 h2=> ?_) hs;obtain⟨it,fp,tn,J,H2,e,I2,T,G,U,W,⟨m0,w0⟩,turn⟩:=h2;subst e;have c:∀{p:Hp},(∀b∈fp,p b=none)->∀b∈fp,EQ X kd p b:=λhn b hb=>⟨hn b hb,(U b hb).2⟩;refine codeAny_forLoop_any (λn Y=>∃i σ' p,Inv X kd σ' p Y/\tn i Y.heap/\(∀b∈fp,p b=none)/\W i n σ' p) ?_ m0 ⟨0,S,H2,I2,G,λb hb=>(U b hb).1,w0⟩;rintro n Z ⟨i,j,E,I3,z,B,w3⟩;rcases turn i n j E w3 with⟨stop,qn⟩|⟨go,N,hN,step⟩
 .refine ABk hp (BK (T.done X rfl rfl rfl hc i kd Z j E X.xe I3 (c B) z stop) λr s4 ⟨K,I4⟩=> ?_);subst K;exact ACi ⟨j,E,I4,qn⟩
 .refine ABk hp (BK (T.item X rfl rfl rfl hc i kd Z j E X.xe I3 (c B) z go) λr s4 ⟨u,K,h4⟩=> ?_);subst K;refine ABk hp (BK h4 λ_ s5 ⟨x,H5,I5,r5,y5,y,L⟩=> ?_);have M:=I5.pinned (c L) (T.obj _ _ y);refine ABk hp (BK (hg _ s5 j H5 x u _ M r5 (step x H5 y5)) λ_ s6 ⟨O,H6,I6,q6⟩=> ?_);refine ABk hp (BK (hb _ s6 O H6 _ I6 q6) λf P t=> ?_);have again:∀{a:St} {k:Hp},Inv X (kd++FQ fp s5.heap) a k P->N a k->∃m,m<n/\∃i σ' p,Inv X kd σ' p P/\tn i P.heap/\(∀b∈fp,p b=none)/\W i m σ' p:=λ{a k} l C=>by obtain⟨m',hm,w7⟩:=hN a k C;refine⟨m',hm,i+1,a,k,l.unpinned,T.keep _ _ _ y λb hb o e=>(l.pin (b,o) (AAW _ (AAW _ (CD hb e)))).1,λb hb=> ?_,w7⟩;obtain⟨o,e,d⟩:=T.obj _ _ y b hb;exact(l.pin (b,o) (AAW _ (AAW _ (CD hb e)))).2.1
  cases f with
  | next=>obtain⟨a,k,l,C⟩:=t;exact again l C
  | cont=>obtain⟨a,k,l,C⟩:=t;exact again l C
  | brk=>obtain⟨a,k,l,t⟩:=t;exact⟨a,k,l.unpinned,t⟩
  | ret v=>obtain⟨x7,a,k,l,r7,t⟩:=t;exact⟨x7,a,k,l.unpinned,r7,t⟩
end
abbrev R2:=V->V->Hp->VK->Prop
def EZ (X:Cx)(f:zx->zx->Sem zx)(r:R2):Prop:=
 ∀(kd:zy (zu×Obj)) (s:zw) (a:St) (H:Hp) (x y:V) (v u:zx) (Q:VK),Inv X kd a H s->RelV x v->RelV y u->r x y H Q->
  wpAny (model X.prog X.w) X.A (f v u) (EP X kd a Q) X.xe s
def rD (X:Cx)(f:zx->Sem zx)(r:V->Hp->VK->Prop):Prop:=
 ∀(kd:zy (zu×Obj)) (s:zw) (a:St) (H:Hp) (x:V) (v:zx) (Q:VK),Inv X kd a H s->RelV x v->r x H Q->
  wpAny (model X.prog X.w) X.A (f v) (EP X kd a Q) X.xe s
def Cr (X:Cx)(f:zx)(r:zy V->Hp->VK->Prop):Prop:=
 ∀(kd:zy (zu×Obj)) (s:zw) (a:St) (H:Hp) (xs:zy V) (us:zy zx) (Q:VK),Inv X kd a H s->Aq xs us->r xs H Q->
  wpAny (model X.prog X.w) X.A (call f us) (EP X kd a Q) X.xe s
def rC (X:Cx)(r:V->Hp->(km->Hp->Prop)->Prop):Prop:=
 ∀(kd:zy (zu×Obj)) (s:zw) (a:St) (H:Hp) (x:V) (v:zx) (Q:km->Hp->Prop),Inv X kd a H s->RelV x v->r x H Q->
  wpAny (model X.prog X.w) X.A (truthy v) (TP X kd a Q) X.xe s
def Zh (r:R2)(b c:TE):TE:=λa H Q=>b a H λx H1=>c a H1 λy d=>r x y d Q
def yo (r:V->Hp->VK->Prop)(a:TE):TE:=λb H Q=>a b H λx H1=>r x H1 Q
def rI (C:Int->Int->Prop)(g:Int->Int->V):R2:=λx y H Q=>∃i j,x= .int i/\y= .int j/\C i j/\Q (g i j) H
def Pf (g:Int->Int->V):R2:=λx y H Q=>∃i j,x= .int i/\y= .int j/\Q (g i j) H
def rU (g:Int->V):V->Hp->VK->Prop:=λx H Q=>∃i,x= .int i/\Q (g i) H
section
variable {X:Cx}{a b c:zr}{ta tb tc:TE}{pos:Pos}
def jq (ha:PE X a ta)(hb:PE X b tb){kd:zy (zu×Obj)}{s:zw}{d:St}{H:Hp}{R:V->V->Hp->Prop}(I:Inv X kd d H s)(h:ta d H λx H1=>tb d H1 λy e=>R x y e){Q:zx->zw->Prop}{f:zx->zx->Sem zx}(k:∀v u j x y e,Inv X kd d e j->RelV x v->RelV y u->R x y e->wpAny (model X.prog X.w) X.A (f v u) Q X.xe j):wpAny (model X.prog X.w) X.A (eval a X.env) (λv g=>wpAny (model X.prog X.w) X.A (eval b X.env) (λu i=>wpAny (model X.prog X.w) X.A (f v u) Q X.xe i) X.xe g) X.xe s:=by refine BK (ha kd s d H _ I h) λv l ⟨x,H1,m,n,o⟩=> ?_;refine BK (hb kd l d H1 _ m o) λu j ⟨y,e,p,r,t⟩=> ?_;exact k v u j x y e p n r t
def B8 {op:Operator}{r:R2}(d:EZ X (binaryOp op) r)(ha:PE X a ta)(hb:PE X b tb):PE X (.BinOp a op b pos) (Zh r ta tb):=by intro kd s e H Q I h;exact wpAny_BinOp (jq ha hb I h λv u f x y g i j k q=>d kd f e g x y v u Q i j k q)
def pA {op:UnaryOp}{r:V->Hp->VK->Prop}(e:rD X (unaryOp op) r)(ha:PE X a ta):PE X (.UnaryOp op a pos) (yo r ta):=by intro kd s d H Q I h;exact UnaryOp_ (BK (ha kd s d H _ I h) λv f ⟨x,H1,g,i,j⟩=>e kd f d H1 x v Q g i j)
def lB {f:zx->zx->Sem zx}{C:Int->Int->Prop}{g:Int->Int->Int}(rule:∀(i j:Int) (t u:Tok) (s:zw) (Q:zx->zw->Prop) (E:zx->zw->Prop),C i j->Q (.int (g i j) s.toks) {s with toks:=s.toks+1}->wpAny (model X.prog X.w) X.A (f (.int i t) (.int j u)) Q E s):EZ X f (rI C λi j=> .int (g i j)):=by intro kd s k H x y v u Q I d e h;obtain⟨i,j,rfl,rfl,hc,q⟩:=h;obtain⟨t,rfl⟩:=d;obtain⟨t',rfl⟩:=e;exact rule i j t t' s _ _ hc ⟨.int (g i j),H,I.tok _,⟨_,rfl⟩,q⟩
def oo {f:zx->zx->Sem zx}{g:Int->Int->Int}(rule:∀(i j:Int) (t u:Tok) (s:zw) (Q:zx->zw->Prop) (E:zx->zw->Prop),Q (.int (g i j) s.toks) {s with toks:=s.toks+1}->wpAny (model X.prog X.w) X.A (f (.int i t) (.int j u)) Q E s):EZ X f (Pf λi j=> .int (g i j)):=by intro kd s k H x y v u Q I d e h;obtain⟨i,j,rfl,rfl,q⟩:=h;obtain⟨t,rfl⟩:=d;obtain⟨t',rfl⟩:=e;exact rule i j t t' s _ _ ⟨.int (g i j),H,I.tok _,⟨_,rfl⟩,q⟩
def lA {f:zx->zx->Sem zx}{g:Int->Int->km}(rule:∀(i j:Int) (t u:Tok) (s:zw) (Q:zx->zw->Prop) (E:zx->zw->Prop),Q (.bool (g i j)) s->wpAny (model X.prog X.w) X.A (f (.int i t) (.int j u)) Q E s):EZ X f (Pf λi j=> .bl (g i j)):=by intro kd s k H x y v u Q I d e h;obtain⟨i,j,rfl,rfl,q⟩:=h;obtain⟨t,rfl⟩:=d;obtain⟨t',rfl⟩:=e;exact rule i j t t' s _ _ ⟨.bl (g i j),H,I,rfl,q⟩
def eY (i j:Int):Prop:=0<=j/\j<=1000000/\i.natAbs<2^64
def NH (i j:Int):Prop:=(-(2^64)<i/\i<2^64)\/(-(2^64)<j/\j<2^64)
def NH.ok {i j:Int}(h:NH i j):IntMulOk i j:=by
 rcases h with⟨h1,h2⟩|⟨h1,h2⟩
 .exact .of_left (intBits_le_64 h1 h2)
 .exact .of_right (intBits_le_64 h1 h2)
def HE:EZ X (binaryOp .Add) (Pf λi j=> .int (i+j)):=oo λ_ _ _ _ _ _ _ q=>add_int q
def WL:EZ X (binaryOp .Sub) (Pf λi j=> .int (i-j)):=oo λ_ _ _ _ _ _ _ q=>sub_int q
def GC:EZ X (binaryOp .Mod) (rI (λ_ j=>0<j) λi j=> .int (i % j)):=lB λi j _ _ _ _ _ hc q=>by have h1:(0:Int)<j:=hc;exact mod_int' (by omega) (by rw[ADT i (by omega)];exact q)
def gR:EZ X (binaryOp .Mod) (rI (λ_ j=>j≠0) λi j=> .int (i.fmod j)):=lB λ_ _ _ _ _ _ _ hc q=>mod_int' hc q
def cE:EZ X (binaryOp .Pow) (rI eY λi j=> .int (i^j.toNat)):=lB λ_ _ _ _ _ _ _ hc q=>pow_int_small hc.1 hc.2.1 hc.2.2 q
def yq {f:zx->Sem zx}{g:Int->Int}(rule:∀(i:Int) (t:Tok) (s:zw) (Q:zx->zw->Prop) (E:zx->zw->Prop),Q (.int (g i) s.toks) {s with toks:=s.toks+1}->wpAny (model X.prog X.w) X.A (f (.int i t)) Q E s):rD X f (rU λi=> .int (g i)):=by intro kd s e H x v Q I d h;obtain⟨i,rfl,q⟩:=h;obtain⟨t,rfl⟩:=d;exact rule i t s _ _ ⟨.int (g i),H,I.tok _,⟨_,rfl⟩,q⟩
def mQ:rD X (unaryOp .USub) (rU λi=> .int (-i)):=yq λ_ _ _ _ _ q=>neg_int q
end
def lq:V->V->km
 | .non, .non=>true | .non, .int _=>true | .int _, .non=>true | .non, .bl _=>true | .bl _, .non=>true | .non, .str _=>true | .str _, .non=>true
 | .int _, .int _=>true | .bl _, .bl _=>true | .str _, .str _=>true | .byt _, .byt _=>true
 | .int _, .str _=>true | .str _, .int _=>true | .bl _, .str _=>true | .str _, .bl _=>true
 | _,_=>false
def vL:R2:=λx y H Q=>lq x y=true/\Q (.bl (decide (x=y))) H
def vM:R2:=λx y H Q=>lq x y=true/\Q (.bl (!decide (x=y))) H
def XR {i j:Int}:decide (V.int i=V.int j)=(i==j):=by rw[AA2];simp
def aZ {i j:km}:decide (V.bl i=V.bl j)=(i==j):=by rw[AA2];simp
def XS {i j:Str}:decide (V.str i=V.str j)=(i==j):=by rw[AA2];simp
def XQ {i j:Array UInt8}:decide (V.byt i=V.byt j)=(i.toList==j.toList):=by rw[AA2];cases i;cases j;simp
section
variable {X:Cx}{a b c:zr}{ta tb tc:TE}{pos:Pos}
def BC {kd:zy (zu×Obj)}{d:St}{H:Hp}{s:zw}{Q:VK}{k f:km}(I:Inv X kd d H s)(q:Q (.bl k) H)(e:k=f):EP X kd d Q (.bool f) s:=by subst e;exact⟨.bl k,H,I,rfl,q⟩
def ou:EZ X (compareOp .Eq) vL:=by
 intro kd s f H x y v u Q I e d h;obtain⟨hs,q⟩:=h;cases x with
 | non=>
   cases e;cases y with
   | non=>cases d;exact PySem.EqNone.eq_none_none (BC I q (by simp))
   | bl j=>cases d;exact PySem.EqNone.eq_none_bool (BC I q (by simp))
   | int j=>obtain⟨t',rfl⟩:=d;exact PySem.EqNone.eq_none_int (BC I q (by simp))
   | str j=>obtain⟨t',rfl⟩:=d;exact PySem.EqNone.eq_none_str (BC I q (by simp))
   | _=>exact absurd (show false=true from hs) AAR
 | bl i=>
   cases e;cases y with
   | non=>cases d;exact PySem.EqNone.eq_bool_none (BC I q (by simp))
   | bl j=>cases d;exact eq_bool (BC I q aZ)
   | str j=>obtain⟨t',rfl⟩:=d;exact PySem.EqMixed.eq_bool_str (BC I q (by simp))
   | _=>exact absurd (show false=true from hs) AAR
 | int i=>
   obtain⟨t,rfl⟩:=e;cases y with
   | non=>cases d;exact PySem.EqNone.eq_int_none (BC I q (by simp))
   | int j=>obtain⟨t',rfl⟩:=d;exact eq_int (BC I q XR)
   | str j=>obtain⟨t',rfl⟩:=d;exact PySem.EqMixed.eq_int_str (BC I q (by simp))
   | _=>exact absurd (show false=true from hs) AAR
 | str i=>
   obtain⟨t,rfl⟩:=e;cases y with
   | non=>cases d;exact PySem.EqNone.eq_str_none (BC I q (by simp))
   | bl j=>cases d;exact PySem.EqMixed.eq_str_bool (BC I q (by simp))
   | int j=>obtain⟨t',rfl⟩:=d;exact PySem.EqMixed.eq_str_int (BC I q (by simp))
   | str j=>obtain⟨t',rfl⟩:=d;exact eq_str (BC I q XS)
   | _=>exact absurd (show false=true from hs) AAR
 | byt i=>
   obtain⟨t,rfl⟩:=e;cases y with
   | byt j=>obtain⟨t',rfl⟩:=d;exact PySem.W.eq_bytes (BC I q XQ)
   | _=>exact absurd (show false=true from hs) AAR
 | _=>cases y <;> exact absurd (show false=true from hs) AAR
def ox:EZ X (compareOp .NotEq) vM:=by
 intro kd s f H x y v u Q I e d h;obtain⟨hs,q⟩:=h;cases x with
 | non=>
   cases e;cases y with
   | non=>cases d;exact PySem.EqNone.ne_none_none (BC I q (by simp))
   | bl j=>cases d;exact PySem.EqNone.ne_none_bool (BC I q (by simp))
   | int j=>obtain⟨t',rfl⟩:=d;exact PySem.EqNone.ne_none_int (BC I q (by simp))
   | str j=>obtain⟨t',rfl⟩:=d;exact PySem.EqNone.ne_none_str (BC I q (by simp))
   | _=>exact absurd (show false=true from hs) AAR
 | bl i=>
   cases e;cases y with
   | non=>cases d;exact PySem.EqNone.ne_bool_none (BC I q (by simp))
   | bl j=>cases d;exact ne_bool (BC I q (congrArg not aZ))
   | str j=>obtain⟨t',rfl⟩:=d;exact PySem.EqMixed.ne_bool_str (BC I q (by simp))
   | _=>exact absurd (show false=true from hs) AAR
 | int i=>
   obtain⟨t,rfl⟩:=e;cases y with
   | non=>cases d;exact PySem.EqNone.ne_int_none (BC I q (by simp))
   | int j=>obtain⟨t',rfl⟩:=d;exact ne_int (BC I q (congrArg not XR))
   | str j=>obtain⟨t',rfl⟩:=d;exact PySem.EqMixed.ne_int_str (BC I q (by simp))
   | _=>exact absurd (show false=true from hs) AAR
 | str i=>
   obtain⟨t,rfl⟩:=e;cases y with
   | non=>cases d;exact PySem.EqNone.ne_str_none (BC I q (by simp))
   | bl j=>cases d;exact PySem.EqMixed.ne_str_bool (BC I q (by simp))
   | int j=>obtain⟨t',rfl⟩:=d;exact PySem.EqMixed.ne_str_int (BC I q (by simp))
   | str j=>obtain⟨t',rfl⟩:=d;exact ne_str (BC I q (congrArg not XS))
   | _=>exact absurd (show false=true from hs) AAR
 | byt i=>
   obtain⟨t,rfl⟩:=e;cases y with
   | byt j=>obtain⟨t',rfl⟩:=d;exact PySem.W.ne_bytes (BC I q (congrArg not XQ))
   | _=>exact absurd (show false=true from hs) AAR
 | _=>cases y <;> exact absurd (show false=true from hs) AAR
def jD:EZ X (compareOp .Lt) (Pf λi j=> .bl (decide (i<j))):=lA λ_ _ _ _ _ _ _ q=>lt_int q
def jC:EZ X (compareOp .Gt) (Pf λi j=> .bl (decide (j<i))):=lA λ_ _ _ _ _ _ _ q=>gt_int q
def jB:EZ X (compareOp .GtE) (Pf λi j=> .bl (decide (j<=i))):=lA λ_ _ _ _ _ _ _ q=>ge_int q
def lE:EZ X (compareOp .Is) (λx y H Q=>y= .non/\Q (.bl (decide (x= .non))) H):=by
 intro kd s f H x y v u Q I d e h;obtain⟨rfl,q⟩:=h;cases e;refine is_none_gen (BC I q ?_);cases x <;> first
  | (cases d;rfl)
  | (obtain⟨t,rfl⟩:=d;rfl)
def Xu:EZ X (compareOp .IsNot) (λx y H Q=>y= .non/\Q (.bl (!decide (x= .non))) H):=by
 intro kd s f H x y v u Q I d e h;obtain⟨rfl,q⟩:=h;cases e;refine isnot_none_gen (BC I q ?_);cases x <;> first
  | (cases d;rfl)
  | (obtain⟨t,rfl⟩:=d;rfl)
def EZ.or {f:zx->zx->Sem zx}{r d:R2}(h:EZ X f r)(h':EZ X f d):EZ X f (λx y H Q=>r x y H Q\/d x y H Q):=by
 intro kd s e H x y v u Q I g i q;rcases q with q|q
 .exact h kd s e H x y v u Q I g i q
 .exact h' kd s e H x y v u Q I g i q
def B3 (b:zr){op:CmpOp}(h:op≠ .In:=by decide)(h2:op≠ .NotIn:=by decide):behindInMarks op b=false:=by
 have d:(op==CmpOp.In)=false:=by cases op <;> first | rfl|exact absurd rfl h
 have e:(op==CmpOp.NotIn)=false:=by cases op <;> first | rfl|exact absurd rfl h2
 cases b <;> simp[behindInMarks,d,e]
def Xv {op:CmpOp}{r:R2}(d:EZ X (compareOp op) r)(ha:PE X a ta)(hb:PE X b tb)(e:behindInMarks op b=false):PE X (.Compare a [op] [b] pos) (Zh r ta tb):=by intro kd s f H Q I h;exact wpAny_Compare1 (jq ha hb I h λv u g x y i j k l q=>d kd g f i x y v u Q j k l q) e
def dj (t:TE):TT:=λd H Q=>t d H λx e=>∃k,x= .bl k/\Q k e
def Md {op:CmpOp}{r:R2}(f:EZ X (compareOp op) r)(ha:PE X a ta)(hb:PE X b tb)(g:behindInMarks op b=false):PT X (.Compare a [op] [b] pos) (dj (Zh r ta tb)):=by
 intro kd s d H Q I h;refine wpAny_isTrue_Compare1 (BK (ha kd s d H _ I h) λv i ⟨x,H1,j,l,m⟩=>BK (hb kd i d H1 _ j m) λu n ⟨y,o,p,t,w⟩=>
  BK (f kd n d o x y v u _ p l t w) λc E ⟨z,A,B,C,k,e,D⟩=> ?_) g
 subst e;cases C;exact ABK ⟨A,B,D⟩
def nQ (K:AAB)(x:V)(H:Hp)(k:km):Prop:=
 match x with
 | .non=>k=false
 | .bl b=>k=b
 | .int i=>k=(i != 0)
 | .str y=>y.length<=sizeLine/\k=((y.length:Int) != 0)
 | .byt y=>y.size<=sizeLine/\k=((y.size:Int) != 0)
 | .ref p=>(∃xs,E8 K H p xs/\k= !xs.isEmpty)\/(∃xs,MF K H p xs/\k= !xs.isEmpty)\/∃kvs,H p=some (.dK kvs)/\k= !kvs.isEmpty
 | _=>False
def Vz {d:Type}{kvs:zy (d×V)}{vs:zy (d×zx)}(r:KV kvs vs):(!vs.isEmpty)= !kvs.isEmpty:=by cases r <;> rfl
def N0 {xs:zy V}{d:zy zx}(r:Aq xs d):(!d.toArray.isEmpty)= !xs.isEmpty:=by cases r <;> simp
def K6:(sizeLine:Nat)<2^63:=by rw[sizeLine_eq];decide
def mM:rC X (λx H Q=>∃k,nQ X.K x H k/\Q k H):=by
 intro kd s o H x v Q I f h;obtain⟨k,e,q⟩:=h;have hl:=K6;have hs:sizeLine=16777216:=sizeLine_eq;cases x with
 | non=> cases f;have d:k=false:=e;subst d;exact truthy_none ⟨H,I,q⟩
 | bl b=> cases f;have d:k=b:=e;subst d;exact ABK ⟨H,I,q⟩
 | int i=> obtain⟨t,rfl⟩:=f;have d:k=(i != 0):=e;subst d;exact PySem.P.truthy_int ⟨H,I,q⟩
 | str y=> obtain⟨t,rfl⟩:=f;obtain⟨hy,d⟩:y.length<=sizeLine/\k=((y.length:Int) != 0):=e;subst d;exact PySem.P.truthy_str (by omega) ⟨H,I.tok _,q⟩
 | byt y=> obtain⟨t,rfl⟩:=f;obtain⟨hy,d⟩:y.size<=sizeLine/\k=((y.size:Int) != 0):=e;subst d;exact PySem.W.truthy_bytes (by omega) ⟨H,I.tok _,q⟩
 | ref p=>
   cases f;have d:(∃xs,E8 X.K H p xs/\k= !xs.isEmpty)\/(∃xs,MF X.K H p xs/\k= !xs.isEmpty)\/∃kvs,H p=some (.dK kvs)/\k= !kvs.isEmpty:=e;rcases d with⟨xs,hx,d⟩|⟨xs,hx,d⟩|⟨kvs,hx,d⟩
   .subst d;obtain⟨g,r,j,hz⟩:=I.list hx;have l:=r.length;exact wpAny_truthy_list j.isList (by simp only[AAV];omega) ⟨H,I.tok _,by rw[N0 r];exact q⟩
   .subst d;obtain⟨g,r,j,hz⟩:=I.tuple hx;have l:=r.length;exact truthy_tuple j (by simp only[AAV];omega) ⟨H,I.tok _,by rw[N0 r];exact q⟩
   .subst d;obtain⟨hz,n,vs,r,m⟩:kvs.length<=sizeLine/\(p==sysModules)=false/\∃vs,KV kvs vs/\s.heap.DictOf (A7 X.prog X.w) p vs:=I.hok p _ hx;have l:kvs.length=vs.length:=ABu r;exact wpAny_truthy_dict n m (by omega) ⟨H,I.tok _,by rw[Vz r];exact q⟩
 | _=>exact(show False from e).elim
def cY (ha:PE X a ta)(he:∀whole,isTrue a X.env whole=(do let v <-whole;standAt a.pos;holding [v] (truthy v))):
 PT X a (λd H Q=>ta d H λx e=>∃k,nQ X.K x e k/\Q k e):=by intro kd s d H Q I h;exact isTrue_plain (BK (ha kd s d H _ I h) λv f ⟨x,H1,g,i,j⟩=>mM kd f d H1 x v Q g i j) (he _)
def vals1 {x:V}{us:zy zx}(r:Aq [x] us):∃u,us= [u] /\RelV x u:=by
 cases r with
 | cons d e=>cases e;exact⟨_,rfl,d⟩
def vals2 {x y:V}{us:zy zx}(r:Aq [x,y] us):∃u d,us= [u,d] /\RelV x u/\RelV y d:=by
 cases r with
 | cons e f=>
   cases f with
   | cons g h=>cases h;exact⟨_,_,rfl,e,g⟩
def Nc:Cr X (.builtin "abs") (λxs H Q=>∃i,xs= [.int i] /\Q (.int (if i<0 then -i else i)) H):=by intro kd s d H xs us Q I r h;obtain⟨i,rfl,q⟩:=h;obtain⟨u,rfl,t,rfl⟩:=vals1 r;exact call_abs_int λu e=>⟨.int (if i<0 then -i else i),H,I.tok _,⟨_,rfl⟩,q⟩
def Yo (hc:X.calm=true):Cr X (.builtin "max") (λxs H Q=>∃i j,xs= [.int i, .int j] /\Q (.int (if j>i then j else i)) H):=by
 intro kd s d H xs us Q I r h;obtain⟨i,j,rfl,q⟩:=h;obtain⟨u,e,rfl,⟨t,rfl⟩,⟨t',rfl⟩⟩:=vals2 r;refine max_two_ints (I.ok.hd hc) λh' f k=>⟨_,H,I.kept k, ?_,q⟩;by_cases hj:j>i
 .rw [AAE hj,AAE hj];exact⟨_,rfl⟩
 .rw [AAD hj,AAD hj];exact⟨_,rfl⟩
def Yp (hc:X.calm=true):Cr X (.builtin "min") (λxs H Q=>∃i j,xs= [.int i, .int j] /\Q (.int (if j<i then j else i)) H):=by
 intro kd s d H xs us Q I r h;obtain⟨i,j,rfl,q⟩:=h;obtain⟨u,e,rfl,⟨t,rfl⟩,⟨t',rfl⟩⟩:=vals2 r;refine min_two_ints (I.ok.hd hc) λh' f k=>⟨_,H,I.kept k, ?_,q⟩;by_cases hj:j<i
 .rw [AAE hj,AAE hj];exact⟨_,rfl⟩
 .rw [AAD hj,AAD hj];exact⟨_,rfl⟩
def P4:Cr X (.type "int") (λxs H Q=>(∃i,xs= [.int i] /\Q (.int i) H)\/∃k,xs= [.bl k] /\Q (.int (if k then 1 else 0)) H):=by
 intro kd s e H xs us Q I r h;rcases h with⟨i,rfl,q⟩|⟨k,rfl,q⟩
 .obtain ⟨u,rfl,t,rfl⟩:=vals1 r;exact call_int_int ⟨.int i,H,I,⟨_,rfl⟩,q⟩
 .obtain ⟨u,rfl,d⟩:=vals1 r;cases d;exact call_int_bool ⟨.int (if k then 1 else 0),H,I.tok _,⟨_,rfl⟩,q⟩
end
structure xP (h:Heap) (x dx C:Addr) (mA:Str->Option Value):Prop where
 obj:h.get? x=some (PySem.W.instObj C dx)
 ns:h.Ns1 dx mA
 ne:dx≠x
def ME.some_of {v:V}{o:zt zx}(r:ME (some v) o):∃u,o=some u/\RelV v u:=by
 cases o with
 | none=>exact(show False from r).elim
 | some u=>exact⟨u,rfl,r⟩
structure wV (K:AAB) (C:Addr):Prop where
 pg:PySem.W.plainGet K C Str.empty=true
 hd:PySem.W.hasDictIn K C=true
 po:PySem.W.plainOver K C=true
 sa:PySem.W.findIn K (.ref C) "__setattr__" =some (some (.builtin "object.__setattr__"))
structure zP (K:AAB) (C:Addr) (f:Str) (v:V) (u:Value):Prop where
 at_:PySem.W.findIn K (.ref C) f=some (some u)
 rel:RelV v u
 get:PySem.W.specialIn K u "__get__" =some none
 cp:PySem.W.copiedNames.contains f=false
structure xN (K:AAB) (C:Addr) (m:Str) (f:Addr):Prop where
 at_:PySem.W.findIn K (.ref C) m=some (some (.ref f))
 fn:PySem.W.isFn K (.ref f)=true
 kp:PySem.W.keepIn K (.ref f)=true
section
variable {X:Cx}{kd:zy (zu×Obj)}{σ:St}{H:Hp}{s:zw}{a C dx:zu}{fs:zy (Str×V)}{f:Str}{v:V}{A:ke}{E:zx->zw->Prop}
def Inv.made (I:Inv X kd σ H s):Inv X kd σ (upd (upd H s.heap.objs.size (.own (s.heap.objs.size+1))) (s.heap.objs.size+1) (.ins C s.heap.objs.size [])) {s with heap:=(s.heap.push PySem.W.emptyDict).push (PySem.W.instObj C s.heap.objs.size)}:=by
 have c:(s.heap.push PySem.W.emptyDict).get? s.heap.objs.size=some PySem.W.emptyDict:=AAS s.heap rfl;have g:((s.heap.push PySem.W.emptyDict).push (PySem.W.instObj C s.heap.objs.size)).get? (s.heap.objs.size+1)=some (PySem.W.instObj C s.heap.objs.size):=by
  have:=AAS (s.heap.push PySem.W.emptyDict) (o:=PySem.W.instObj C s.heap.objs.size) rfl
  rwa [ABH] at this
 have h:(s.heap.push PySem.W.emptyDict).Ns s.heap.objs.size (λ_=>none):=⟨PySem.W.emptyDict, #[],_,c,rfl,(λe he=>absurd he (by simp)),λ_=>rfl⟩;have i:=I.laid (a:=s.heap.objs.size) (o:= .own (s.heap.objs.size+1)) (h':=s.heap.push PySem.W.emptyDict) (t':=s.toks) (λb u q=>AAH _ q) (AAJ _) ⟨_,c⟩;refine i.laid (a:=s.heap.objs.size+1) (o:= .ins C s.heap.objs.size []) (t':=s.toks) (λb u q=>AAH _ q) (Nat.le_of_eq (ABH _ _)) ?_;have d:s.heap.objs.size≠s.heap.objs.size+1:=AAL (Nat.lt_succ_self _);refine⟨by rw[AZ d,Aa],AAw _,d,g,λ_=>none,(Heap.Ns1.of_empty h).at λo q=>AAH _ q,λ_=>True.intro,λy hy=>absurd rfl hy⟩
end
section
variable {X:Cx}{kd:zy (zu×Obj)}{σ:St}{H:Hp}{s:zw}{A:ke}{E:zx->zw->Prop}{Q:zx->zw->Prop}{c:zx}{b:km}
inductive NV (K:AAB) (H:Hp):V->Value->Prop where
 | non:NV K H .non (.type "NoneType")
 | bl (x:Bool):NV K H (.bl x) (.type "bool")
 | int (i:Int):NV K H (.int i) (.type "int")
 | str (x:Str):NV K H (.str x) (.type "str")
 | flt (x:UInt64):NV K H (.flt x) (.type "float")
 | lst {a:Addr} {xs:List V} (e:H a=some (.lst xs)):NV K H (.ref a) (.type "list")
 | frz {a:Addr} {o:Obj} {xs:List V} (e:H a=some (.frz o (.lst xs))):NV K H (.ref a) (.type "list")
 | tup {a:Addr} {xs:List V} (e:H a=some (.tup xs)):NV K H (.ref a) (.type "tuple")
 | dK {a:Addr} {kvs:List (Cp×V)} (e:H a=some (.dK kvs)):NV K H (.ref a) (.type "dict")
 | dT {a:Addr} {kvs:List (List Cp×V)} (e:H a=some (.dT kvs)):NV K H (.ref a) (.type "dict")
 | ins {a C dx:Addr} {fs:List (Str×V)} (e:H a=some (.ins C dx fs)) (cl:wV K C) (ha:PySem.W.findIn K (.ref C) "__class__" =some (some (.builtin "object.__class__")))
    (hn:PySem.W.specialIn K (.builtin "object.__class__") "__get__" =some (some (.builtin "getset_descriptor.__get__"))) (zg:PySem.W.takesIn K (.builtin "object.__class__")=some true)
    (hm:PySem.W.mroIn K C (.type "object")=some true):NV K H (.ref a) (.ref C)
end
structure Room (k:Nat) (A:Around):Prop where
 hd:A.handled=none
 dp:A.depth+3*k+5<recursionLimit
 un:A.units+16*k+200<cLine
 gd:A.guards=some []
def Room.mono {j k:Nat}{A:ke}(r:Room k A)(h:j<=k):Room j A:=⟨r.hd,by have:=r.dp;omega,by have:=r.un;omega,r.gd⟩
def Room.deeper {k:Nat}{A:ke}(r:Room (k+1) A)(env:Env):Room k (A.deeper env):=
 ⟨r.hd,by have:=r.dp;show A.depth+1+3*k+5<_;omega,by have:=r.un;show A.units+3+16*k+200<_;omega,r.gd⟩
def Room.in1 {k:Nat}{A:ke}(r:Room (k+1) A):Room k A.in1:=
 ⟨r.hd,by have:=r.dp;show A.depth+3*k+5<_;omega,by have:=r.un;show A.units+1+16*k+200<_;omega,r.gd⟩
def V7 {A:ke}{C:zu}{us:zy zx}{a:zy (Str×zx)}:(A.under (.builtin "type.__call__" ⟨.ref C::us,a⟩)).depth=A.depth+1:=by first | rfl|simp[Around.under,Code.weight,Code.isCreation,Code.isGuard,Code.isCaller,Code.frames,Code.isFrame,guardIds]
def V8 {A:ke}{C:zu}{us:zy zx}{a:zy (Str×zx)}:(A.under (.builtin "type.__call__" ⟨.ref C::us,a⟩)).units=A.units+1:=by first | rfl|simp[Around.under,Code.cUnits,Code.frames,Code.isFrame]
def Room.make {k:Nat}{A:ke}(r:Room (k+1) A)(C:zu)(us:zy zx)(a:zy (Str×zx)):Room k (A.under (.builtin "type.__call__" ⟨.ref C::us,a⟩)):=
 ⟨r.hd,by have:=r.dp;rw[V7];omega,by have:=r.un;rw[V8];omega,by first | exact r.gd|simpa[Around.under,pushGuards,Code.guards,Code.isGuard,guardIds] using r.gd⟩
def Room.depth {k:Nat}{A:ke}(r:Room k A):A.depth<recursionLimit:=by have:=r.dp;omega
def Room.units {k:Nat}{A:ke}(r:Room k A):A.units+64<cLine:=by have:=r.un;omega
def iM:TA:=λ_ H Q=>Q [] H
def Ol (b:TE)(c:TA):TA:=λa H Q=>b a H λx H1=>c a H1 λxs d=>Q (x::xs) d
section
variable {X:Cx}{e:zr}{es:zy zr}{te:TE}{t:TA}{pos:Pos}
def FP:PA X [] iM:=λ_ _ _ _ H Q I h=>ACj ⟨[],H,I, .nil,h⟩
def CS (ha:PE X e te)(b:PA X es t)(hs:starEach (e::es) X.env=(false,eval e X.env)::starEach es X.env:=by rfl):PA X (e::es) (Ol te t):=by intro pos kd s a H Q I h;rw[hs];show wpAny _ _ (spliced ((false,eval e X.env)::backTo pos (starEach es X.env))) _ _ s;refine ABy (BK (ha kd s a H _ I h) λu c ⟨x,H1,d,f,g⟩=> ?_);exact BK (b pos kd c a H1 _ d g) λus m ⟨xs,i,j,k,l⟩=>⟨x::xs,i,j, .cons f k,l⟩
def iO (t:TA):TE:=λa H Q=>t a H λxs H1=>xs.length<=sizeLine/\∀p,H1 p=none->Q (.ref p) (upd H1 p (.tup xs))
def tM (t:TA):TE:=λa H Q=>t a H λxs H1=>xs.length<=sizeLine/\∀p,H1 p=none->Q (.ref p) (upd H1 p (.lst xs))
def OI {x1}(h:PA X es t):PE X (.Tuple es x1 pos) (iO t):=by intro kd s d H Q I hq;refine wpAny_Tuple_spliced (BK (h pos kd s d H _ I hq) λus a ⟨xs,H1,c,r,z,q⟩=>⟨by rw[<-r.length];exact z, ?_⟩);have f:H1 a.heap.objs.size=none:=c.hok.fresh (AAJ _);refine⟨.ref a.heap.objs.size,upd H1 a.heap.objs.size (.tup xs),c.laid (t':=a.toks) (λb u e=>AAH _ e) (AAJ _) ?_,rfl,q _ f⟩;exact⟨z,us,r,⟨_,AAS _ rfl,rfl,_,rfl⟩⟩
def cM (h:PA X es t):PE X (.List es pos) (tM t):=by intro kd s d H Q I hq;refine wpAny_List_spliced (BK (h pos kd s d H _ I hq) λus a ⟨xs,H1,c,r,z,q⟩=>⟨by rw[<-r.length];exact z, ?_⟩);have f:H1 a.heap.objs.size=none:=c.hok.fresh (AAJ _);refine⟨.ref a.heap.objs.size,upd H1 a.heap.objs.size (.lst xs),c.laid (t':=a.toks) (λb u e=>AAH _ e) (AAJ _) ?_,rfl,q _ f⟩;exact⟨z,us,0,r,AAS _ rfl⟩
end
abbrev Sp:=zy V->Hp->VK->XK->Prop
abbrev YU:=zy Env->Hp->zw->XK->zx->zw->Prop
structure O8 (P:Program) (w:World) (K:AAB) (mg:Str->Option Value) (base:Heap) (A:Around) (outer:List Env) (s:Shared) (H:Hp):Prop where
 frames:A.frames=some outer
 mod:Mod K mg base
 bs:∀b o,base.get? b=some o->s.heap.get? b=some o/\H b=none
 bsz:base.objs.size<=s.heap.objs.size
 funs:s.heap.FunFrames base outer
 frf:∀b∈Zv outer,H b=none
 hok:Ij P w H s.heap
 bare:AllBare s.gens
def CE (outer:zy Env)(P:kj)(w:ki)(H:Hp)(s:zw)(Q:VK)(u:zx)(a:zw):Prop:=
 ∃v b,a.os=s.os/\AllBare a.gens/\Un (Zv outer) [] H b s.heap a.heap/\Ij P w b a.heap/\RelV v u/\Q v b
def CR (CX:YU)(outer:zy Env)(P:kj)(w:ki)(H:Hp)(s:zw)(Q:VK)(E:XK)(r:Result)(a:zw):Prop:=
 match r with
 | .ok (.ret u)=>CE outer P w H s Q u a
 | .ok _=>False
 | .error e=>CX outer H s E e a
structure Em (P:Program) (w:World) (K:AAB) (mg:Str->Option Value) (base:Heap) (CX:YU) (k:Nat) (f:Addr) (fd:FuncData) (ps:List Str) (sp:Sp):Prop where
 len:∀vs H Q E,sp vs H Q E->vs.length=ps.length
 run:∀(A:Around) (outer:List Env) (s:Shared) (H:Hp) (args:Args) (us:List Value) (vs:List V) (Q:VK) (E:XK),Room k A->O8 P w K mg base A outer s H->BindsTo s fd args (ps.zip us)->Aq vs us->sp vs H Q E->
  codeAny (model P w) A (.call (.ref f) args) (CR CX outer P w H s Q E) s
def Em.mono {P:kj}{w:ki}{K:AAB}{mg:Str->zt zx}{base:kf}{CX:YU}{j k:Nat}{f:zu}{a:FuncData}{b:zy Str}{sp:Sp}(F:Em P w K mg base CX j f a b sp)(h:j<=k):Em P w K mg base CX k f a b sp:=⟨F.len,λA outer s H args us vs Q E c=>F.run A outer s H args us vs Q E (c.mono h)⟩
def Em.imp {P:kj}{w:ki}{K:AAB}{mg:Str->zt zx}{base:kf}{CX:YU}{k:Nat}{f:zu}{b:FuncData}{c:zy Str}{sp a:Sp}(F:Em P w K mg base CX k f b c sp)(h:∀vs H Q E,a vs H Q E->sp vs H Q E):Em P w K mg base CX k f b c a:=
 ⟨λvs H Q E q=>F.len vs H Q E (h _ _ _ _ q),λA outer s H args us vs Q E d he hb hv hs=>F.run A outer s H args us vs Q E d he hb hv (h _ _ _ _ hs)⟩
def O8.make {P:kj}{w:ki}{K:AAB}{mg:Str->zt zx}{base:kf}{A:ke}{outer:zy Env}{s:zw}{H:Hp}(e:O8 P w K mg base A outer s H)(C:zu)(us:zy zx)(a:zy (Str×zx)):O8 P w K mg base (A.under (.builtin "type.__call__" ⟨.ref C::us,a⟩)) outer s H:=⟨by first | exact e.frames|(simpa[Around.under,Code.envs,Code.isFrame,pushEnvs] using e.frames),e.mod,e.bs,e.bsz,e.funs,e.frf,e.hok,e.bare⟩
def O8.in1 {P:kj}{w:ki}{K:AAB}{mg:Str->zt zx}{base:kf}{A:ke}{outer:zy Env}{s:zw}{H:Hp}(e:O8 P w K mg base A outer s H):O8 P w K mg base A.in1 outer s H:=⟨e.frames,e.mod,e.bs,e.bsz,e.funs,e.frf,e.hok,e.bare⟩
section
variable {X:Cx}{kd:zy (zu×Obj)}{σ:St}{H:Hp}{s s':zw}
def Inv.env0 (I:Inv X kd σ H s):O8 X.prog X.w X.K X.mg X.base X.A X.stack s H:=
 ⟨I.ok.frames,I.ok.mod,I.bs,AAf I.ok.bsz I.sz,I.stack,I.stkFree,I.hok,I.bare⟩
def Inv.after {Q:VK}{u:zx}(I:Inv X kd σ H s)(h:CE X.stack X.prog X.w H s Q u s'):EP X kd σ Q u s':=by obtain⟨v,c,os,bare,un,hok,r,q⟩:=h;obtain⟨e,g,d,t,a⟩:=s';obtain rfl:a=s.os:=os;exact⟨v,c,I.call (h':=e) (g':=g) (d':=d) (t':=t) (ch:= []) un hok bare (λb z=>absurd z (by simp)),r,q⟩
end
def jK (sp:Sp)(a:zy V)(E:XK)(t:TA):TE:=λb H Q=>t b H λvs H1=>sp (vs++a) H1 Q E
def Binds (K:AAB)(c:FuncData)(a:zy Str)(b:zy zx):Prop:=
 ∀(s:zw) (us:zy zx),K.In s.heap->(us++b).length=a.length->BindsTo s c ⟨us, []⟩ (a.zip (us++b))
def Binds.all {K:AAB}{b:FuncData}{a:zy Str}(h:∀us:zy zx,us.length=a.length->bindArgs b ⟨us, []⟩=pure (a.zip us)):Binds K b a [] :=λs us _ hl=>by rw[ABU] at hl ⊢;exact .of_eq (h us hl)
def Passes (CX:YU)(X:Cx)(E:XK):Prop:=∀(kd:zy (zu×Obj)) (b:St) (H:Hp) (s:zw) (e:zx) (a:zw),Inv X kd b H s->CX X.stack H s E e a->X.xe e a
section
variable {X:Cx}{CX:YU}{k:Nat}{f C:zu}{fd:FuncData}{ps:zy Str}{sp:Sp}{dvs:zy V}{ds:zy zx}{E:XK}{x m:Str}{p pos apos:Pos}{e o:zr}{es:zy zr}{ta:TE}{t:TA}
theorem la {kd:zy (zu×Obj)}{a:St}{H:Hp}{s:zw}{Q:VK}{us:zy zx}{vs:zy V}(F:Em X.prog X.w X.K X.mg X.base CX k f fd ps sp)(c:Room k X.A)(hb:Binds X.K fd ps ds)(hd:Aq dvs ds)(hx:Passes CX X E)(I:Inv X kd a H s)(r:Aq vs us)(h:sp (vs++dvs) H Q E):wpAny (model X.prog X.w) X.A (call (.ref f) us) (EP X kd a Q) X.xe s:=by
 have b:Aq (vs++dvs) (us++ds):=r.append hd;have hl:(us++ds).length=ps.length:=by rw[<-b.length];exact F.len _ _ _ _ h
 refine wpAny_call (ACG (F.run X.A X.stack s H ⟨us, []⟩ (us++ds) (vs++dvs) Q E c I.env0 (hb s us I.kIn hl) b h) λr d hq=> ?_);cases r with
 | error e=>exact hx kd a H s e d I hq
 | ok g=>
   cases g with
   | ret u=>exact I.after hq
   | next=>exact False.elim hq
   | brk=>exact False.elim hq
   | cont=>exact False.elim hq
theorem gS (F:Em X.prog X.w X.K X.mg X.base CX k f fd ps sp)(b:Room k X.A)(c:Gl X x)(d:X.mg x=some (.ref f))(hk:PySem.W.keepIn X.K (.ref f)=true)(hb:Binds X.K fd ps ds)(hd:Aq dvs ds)(hx:Passes CX X E)(ha:PA X (e::es) t)(hdb:(x==("__debug__" :Str))=false:=by decide)(he:starEach (e::es) X.env=(false,eval e X.env)::starEach es X.env:=by rfl)(hpl:(backTo pos (starEach es X.env)).any (·.1)=false:=by rfl):PE X (.Call (.Name x p) (e::es) [] pos) (jK sp dvs E t):=by intro kd s g H Q I h;refine ACk (Xm I c d ?_ hdb);refine PySem.W.callWith_K (h₀:=X.base) I.ok.mod.kin hk (BK (ha pos kd s g H _ I h) λus i ⟨vs,H1,a,r,q⟩=>⟨a.kIn, ?_⟩) he hpl;exact la F b hb hd hx a r q
structure Mk (K:AAB) (C f:Addr):Prop where
 makes:PySem.W.makesIn K C=true
 init:PySem.W.findIn K (.ref C) "__init__" =some (some (.ref f))
 fn:PySem.W.isFn K (.ref f)=true
 kp:PySem.W.keepIn K (.ref C)=true
end
section
variable {X:Cx}{CX:YU}{k:Nat}{f C:zu}{fd:FuncData}{ps ks:zy Str}{sp:Sp}{E:XK}{x m:Str}{p pos apos kpos:Pos}{e o:zr}{es:zy zr}{kws:zy Keyword}{te ta:TE}{t tk:TA}{nm:zt Str}
structure rA (K:AAB) (fd:FuncData) (ps ks:List Str) (g:List Value->List Value->List Value) (gV:List V->List V->List V):Prop where
 to:∀(s:Shared) (us ws:List Value),K.In s.heap->(g us ws).length=ps.length->BindsTo s fd ⟨us,ks.zip ws⟩ (ps.zip (g us ws))
 rel:∀{vs:List V} {us:List Value} {zs:List V} {ws:List Value},Aq vs us->Aq zs ws->Aq (gV vs zs) (g us ws)
variable {g:zy zx->zy zx->zy zx}{gV:zy V->zy V->zy V}
end
structure EO (N P:List Str) (sc:Scope):Prop where
 kind:sc.kind= .function
 co:sc.isCoroutine=false
 gen:sc.isGenerator=false
 nd:N.Nodup
 pre:N.take P.length=P
 par:∀x∈P,sc.names.lookup x=some .local\/sc.names.lookup x=some .cell
 nofree:∀y∈sc.names,y.2≠ .free
theorem P2 {kindOf:Str->zt NameKind}{x:Str}:∀{binds:zy (Str×zx)} {m:Str->zt zx},(∀v,(x,v) ∉ binds)->bindL kindOf binds m x=m x
 | [],_,_=>rfl
 | (n,v)::r,m,h=>by
   unfold bindL;rw[P2 λw hw=>h w (ABL _ hw)];split
   .have:x≠n:=by rintro rfl;exact h v ABj
    simp[this]
   .rfl
theorem P0 {kindOf:Str->zt NameKind}{x:Str}:∀{binds:zy (Str×zx)} {m:Str->zt zx},(∀v,(x,v) ∉ binds)->bindC kindOf binds m x=m x
 | [],_,_=>rfl
 | (n,v)::r,m,h=>by
   unfold bindC;rw[P0 λw hw=>h w (ABL _ hw)];split
   .rfl
   .have:x≠n:=by rintro rfl;exact h v ABj
    simp[this]
theorem P1 {kindOf:Str->zt NameKind}{x:Str}{v:zx}:∀{P:zy Str} {vs:zy zx} {i:Nat} {m:Str->zt zx},P.Nodup->P[i]? =some x->vs[i]? =some v->kindOf x=some .local-> bindL kindOf (P.zip vs) m x=some v
 | [],_,_,_,_,h,_,_=>by simp at h
 | _::_, [],_,_,_,_,h,_=>by simp at h
 | p::P,w::vs,0,m,nd,h1,h2,hk=>by simp at h1 h2;subst h1;subst h2;show bindL kindOf ((p,w)::P.zip vs) m p=_;unfold bindL;rw[P2 λv hv=>(ACl.mp nd).1 (ABl hv).1,AAE hk];simp
 | p::P,w::vs,i+1,m,nd,h1,h2,hk=>by show bindL kindOf ((p,w)::P.zip vs) m x=_;unfold bindL;exact P1 (i:=i) (ACl.mp nd).2 (by simpa using h1) (by simpa using h2) hk
theorem Pz {kindOf:Str->zt NameKind}{x:Str}{v:zx}:∀{P:zy Str} {vs:zy zx} {i:Nat} {m:Str->zt zx},P.Nodup->P[i]? =some x->vs[i]? =some v->kindOf x≠some .local-> bindC kindOf (P.zip vs) m x=some v
 | [],_,_,_,_,h,_,_=>by simp at h
 | _::_, [],_,_,_,_,h,_=>by simp at h
 | p::P,w::vs,0,m,nd,h1,h2,hk=>by simp at h1 h2;subst h1;subst h2;show bindC kindOf ((p,w)::P.zip vs) m p=_;unfold bindC;rw[P0 λv hv=>(ACl.mp nd).1 (ABl hv).1,AAD hk];simp
 | p::P,w::vs,i+1,m,nd,h1,h2,hk=>by show bindC kindOf ((p,w)::P.zip vs) m x=_;unfold bindC;exact Pz (i:=i) (ACl.mp nd).2 (by simpa using h1) (by simpa using h2) hk
def start (N:zy Str)(vs:zy V):St:=vs.map some++List.replicate (N.length-vs.length) none
def TK (CX:YU)(P:kj)(w:ki)(K:AAB)(mg:Str->zt zx)(base:kf)(N:zy Str)(qual:Str)(scope:Scope)(f:zu)(b:zx)(A:ke)(outer:zy Env)(s:zw)(H:Hp)(E:XK):Cx where
 prog:=P
 w:=w
 K:=K
 mg:=mg
 base:=base
 A:=A.deeper (envOfC qual scope s.heap.objs.size f b)
 N:=N
 s₀:=s
 H₀:=H
 env:=envOfC qual scope s.heap.objs.size f b
 outer:=outer
 stack:=envOfC qual scope s.heap.objs.size f b::outer
 ex:= []
 calm:=true
 fn:=λ_=>true
 pn:= []
 xe:=λe c=>wpAny (model P w) (A.deeper (envOfC qual scope s.heap.objs.size f b)) (leaving (envOfC qual scope s.heap.objs.size f b) e) (λ_ a=>CX outer H s E e a) (λd a=>CX outer H s E d a) c
def TC {sc:Scope}{n:Nat}{x:Str}(h:sc.names.lookup x=some .cell):∃c,(cellsFrom n sc.names []).lookup x=some c:=by have q:=ADt sc.names n [] (.inl h);exact Option.isSome_iff_exists.mp q
def ZB {CX:YU}{P:kj}{w:ki}{K:AAB}{mg:Str->zt zx}{base:kf}{N g:zy Str}{qual:Str}{scope:Scope}{f:zu}{m:zx}{A:ke}{outer:zy Env}{s o:zw}{H:Hp}{E:XK}{us:zy zx}{vs:zy V}(S:EO N g scope)(hd:A.handled=none)(d:O8 P w K mg base A outer s H)(hl:vs.length=g.length)(r:Aq vs us)(x:InCallC s s.heap.objs.size (bindL (envOfC qual scope s.heap.objs.size f m).kindOf (g.zip us) λ_=>none) (cellsFrom (s.heap.objs.size+1) scope.names []) (bindC (envOfC qual scope s.heap.objs.size f m).kindOf (g.zip us) λ_=>none) o):Inv (TK CX P w K mg base N qual scope f m A outer s H E) [] (start N vs) H o:=by
 have hpl:g.length<=N.length:=by have:=congrArg List.length S.pre;rw[ADU] at this;omega
 obtain⟨h1,t,rfl,hk⟩:=x.done;have j:∀b:zu,b ∉ (TK CX P w K mg base N qual scope f m A outer s H E).ex:=λb z=>absurd (show b∈([] :zy zu) from z) (by simp);refine⟨⟨d.mod,S.kind,rfl,rfl,AAJ _,λy z c h1 h2=> ?_,λy hy=> ?_,λy c _ h=> ?_,λ_=>hd,Around.frames_deeper d.frames, .inr ⟨rfl,rfl⟩,λb z=>absurd z (j b),d.bs,d.bsz,λb _ _=>j b,λb z=>absurd z (j b),d.funs,d.frf⟩,
  rfl,d.bare,Un.kept hk,⟨_,x.toInCall.ns,λi y v h1 h2 B=> ?_⟩,λy c h=>⟨_,x.cell y c h⟩,d.hok.fresh (AAJ _),λy c h=> ?_,λp hp=>absurd (show p∈([] :zy (zu×Obj)) from hp) (by simp),d.hok.kept hk, ?_⟩
 .exact name_of_addr x.apart (ACH h1) (ACH h2)
 .have hy:scope.names.lookup y=some .cell\/scope.names.lookup y=some .free:=hy;rcases hy with hy|hy
  .exact TC hy
  .exact absurd rfl (S.nofree _ (ACH hy))
 .exact ACh (x.above y c (ACH h))
 .have hi:i<vs.length:=by
   unfold start at h2;by_cases hi:i<vs.length
   .exact hi
   .rw [ABD (by simpa using hi)] at h2;rw[ABV] at h2;split at h2 <;> cases h2
  have ha:vs[i]? =some v:=by
   unfold start at h2;rw[ABM (by simpa using hi),AAp] at h2;cases e:vs[i]? with
   | none=>rw[e] at h2;cases h2
   | some a=>rw[e] at h2;cases h2;rfl
  obtain⟨u,hu,rv⟩:=r.get ha;have hp:g[i]? =some y:=by rw[<-S.pre,List.getElem?_take_of_lt (by omega)];exact h1
  have l:g.Nodup:=by rw[<-S.pre];exact S.nd.sublist (List.take_sublist _ _)
  refine⟨u,rv, ?_⟩;rcases S.par y (ABm hp) with k|k
  .exact .inl ⟨k,P1 l hp hu k⟩
  .obtain ⟨c,e⟩:=TC (n:=s.heap.objs.size+1) k;refine .inr ⟨.inl k,c,e, ?_⟩;have q:=x.cell y c e;rw[Pz l hp hu (by show scope.names.lookup y≠_;rw[k];decide)] at q;exact q
 .exact d.hok.fresh (ACh (x.above y c (ACH h)))
 .unfold start;show _=N.length;rw[AAg,AAI,ABN];omega
def ng {CX:YU}{P:kj}{w:ki}{K:AAB}{mg:Str->zt zx}{base:kf}{k:Nat}{f:zu}{name qual:Str}{params:Arguments}{body:zy Stmt}{scope:Scope}{z kV d B a ct L:zx}{C M:zt zu}{j:Array (zt zx)}{N i:zy Str}{sp:Sp}(O:K.lookup f=some ⟨L,M, .func (PySem.W.fnOf name qual params body scope z kV d B C a ct),j⟩)(R:PySem.W.codeIn K a qual=true)(S:EO N i scope)(len:∀vs H Q E,sp vs H Q E->vs.length=i.length)(T:∀(A:ke) (outer:zy Env) (s:zw) (H:Hp) (vs:zy V) (Q:VK) (E:XK),Room k (A.deeper (envOfC qual scope s.heap.objs.size f a))->sp vs H Q E-> ∃t,Uw (TK CX P w K mg base N qual scope f a A outer s H E) body t/\t {nx:=λ_ c=>Q .non c,rt:=Q} (start N vs) H):Em P w K mg base CX (k+1) f (PySem.W.fnOf name qual params body scope z kV d B C a ct) i sp:=by
 refine⟨len,λA outer s H args us vs Q E l g hb r D=> ?_⟩;have hl:=len _ _ _ _ D;have F:K.In s.heap:=g.mod.kin.keeps λb o e=>(g.bs b o e).1;have m:s.heap.NoLimit:=g.mod.nolimit.keeps λb o e=>(g.bs b o e).1;have U:∀y∈i.zip us,scope.names.lookup y.1=some .local\/(scope.names.lookup y.1=some .cell/\((cellsFrom (s.heap.objs.size+1) scope.names []).lookup y.1).isSome=true):=λ⟨n,v⟩ hy=>by
  rcases S.par n (ABl hy).1 with q|q
  .exact .inl q
  .exact .inr ⟨q,ADt _ _ _ (.inl q)⟩
 refine codeAny_call_function l.depth (F _ _ O) rfl S.co S.gen rfl (PySem.W.codeRec_of F R) (hb _ _ _ _ ?_);refine wpAny_newFunctionEnv_cells S.kind U λenv he G x=> ?_;subst he;refine⟨m.keeps x.toInCall.keep,codeAny_func ?_⟩;obtain⟨t,X,hq⟩:=T A outer s H vs Q E (l.deeper _) D;have I:Inv (TK CX P w K mg base N qual scope f a A outer s H E) [] (start N vs) H G:=ZB S l.hd g hl r x;refine AA7 (X [] G (start N vs) H _ I hq) (λY p hs=> ?_) λe p hs=>hs;have h:∀{σ':St} {c:Hp} {v:V} {u:zx},Inv (TK CX P w K mg base N qual scope f a A outer s H E) [] σ' c p->RelV v u->Q v c->CE outer P w H s Q u p:=
  λ{σ' c v u} J rv q=>⟨v,c,J.os,J.bare,J.base,J.hok,rv,q⟩
 cases Y with
 | ret u=> obtain⟨v,σ',c,J,rv,q⟩:=hs;exact h J rv q
 | next=> obtain⟨σ',c,J,q⟩:=hs;exact h (v:=V.non) (u:=Value.none) J rfl q
 | brk=> obtain⟨_,_,_,q⟩:=hs;exact False.elim q
 | cont=> obtain⟨_,_,_,q⟩:=hs;exact False.elim q
section
variable {X:Cx}{x:Str}{p pos:Pos}{e:zr}{es:zy zr}{t:TA}{id T:String}{r:zy V->Hp->VK->Prop}
def tL (r:zy V->Hp->VK->Prop)(t:TA):TE:=λa H Q=>t a H λvs H1=>r vs H1 Q
def KF (hc:Cr X (.builtin id) r)(b:Gl X x)(c:X.mg x=none)(hv:bootBuiltins x=some (.builtin id))(ha:PA X (e::es) t)(d:x≠"__name__" :=by decide)(hdb:(x==("__debug__" :Str))=false:=by decide)(he:starEach (e::es) X.env=(false,eval e X.env)::starEach es X.env:=by rfl)(hpl:(backTo pos (starEach es X.env)).any (·.1)=false:=by rfl):PE X (.Call (.Name x p) (e::es) [] pos) (tL r t):=by intro kd s a H Q I h;refine ACk (Iw I b c hv ?_ d hdb);exact PyProof.Rows.callWith_builtin1 (BK (ha pos kd s a H _ I h) λus f ⟨vs,H1,g,i,j⟩=>hc kd f a H1 vs us Q g i j) he hpl
def LI (hc:Cr X (.type T) r)(b:Gl X x)(c:X.mg x=none)(hv:bootBuiltins x=some (.type T))(ha:PA X (e::es) t)(d:x≠"__name__" :=by decide)(hdb:(x==("__debug__" :Str))=false:=by decide)(he:starEach (e::es) X.env=(false,eval e X.env)::starEach es X.env:=by rfl)(hpl:(backTo pos (starEach es X.env)).any (·.1)=false:=by rfl):PE X (.Call (.Name x p) (e::es) [] pos) (tL r t):=by intro kd s a H Q I h;refine ACk (Iw I b c hv ?_ d hdb);exact ACF (BK (ha pos kd s a H _ I h) λus f ⟨vs,H1,g,i,j⟩=>hc kd f a H1 vs us Q g i j) he hpl
end
end L2
namespace HT
open PySem PyProof.Rows
section
variable {prog:kj}{w:ki}{A:ke}{E:zx->zw->Prop}{s:zw}
def cat_tup {t b:zu}{vs a:zy zx}{Q:zx->zw->Prop}(o:IsTup s.heap t vs.toArray)(hb:IsTup s.heap b a.toArray)(hv:vs≠ [])(h1:a= [] ->Q (.ref t) s)(h2:a≠ [] ->Q (.ref s.heap.objs.size) {s with heap:=s.heap.push {cls:= .type "tuple",data:= .seq (vs++a).toArray}})(hsz:vs.length+a.length<=sizeLine):wpAny (model prog w) A (binaryOp .Add (.ref t) (.ref b)) Q E s:=by
 obtain⟨⟨cls,h,data,i⟩,f,hc,n,hd⟩:=id o;obtain⟨⟨j,c,data2,d⟩,g,k,l,m⟩:=id hb;simp only at hc hd k m;subst hc hd k m;have e:vs.toArray++a.toArray=(vs++a).toArray:=by simp
 by_cases hw:a= []
 .exact concat_meets ⟨_,f,rfl⟩ ⟨_,g,rfl⟩ ADV seq_tuple_add ADW ADX (ADY _ _)
   (tuple_addW1 t b vs.toArray a.toArray n l h c i d (by simpa using hv) (by simp[hw])) ⟨f,g,h1 hw⟩
 .refine concat_meets ⟨_,f,rfl⟩ ⟨_,g,rfl⟩ ADV seq_tuple_add ADW ADX (ADY _ _)
   (tuple_addW2 t b vs.toArray a.toArray n l h c i d (by simpa using hv) (by simpa using hw) (by rw[AAV,AAV];exact hsz)) ⟨f,g, ?_⟩
  rw[e];exact h2 hw
def sIx (n d:Nat):zt Int->Nat
 | none=>d
 | some v=>if v<0 then (v+(n:Int)).toNat else min v.toNat n
def sIx_none (n d:Nat):sIx n d none=d:=rfl
def sIx_nat (n d k:Nat):sIx n d (some (k:Int))=min k n:=by show (if (k:Int)<0 then ((k:Int)+(n:Int)).toNat else min (k:Int).toNat n)=min k n;rw[AAD (by omega),ABz]
def lc (n d:Nat)(hd:d<=n)(o:zt Int):sIx n d o<=n:=by
 cases o with
 | none=>exact hd
 | some v=>
   show (if v<0 then (v+(n:Int)).toNat else min v.toNat n)<=n;by_cases hv:v<0
   .rw [AAE hv];omega
   .rw [AAD hv];exact Nat.min_le_right _ _
def XJ (v:Int)(n d:Nat):(if v<0 then max (v+(n:Int)) 0 else min v (n:Int))=((sIx n d (some v):Nat):Int):=by
 show (if v<0 then max (v+(n:Int)) 0 else min v (n:Int))=(((if v<0 then (v+(n:Int)).toNat else min v.toNat n):Nat):Int);by_cases hv:v<0
 .simp only[AAE hv];omega
 .simp only[AAD hv];omega
def VR (lo hi:zt Int)(n:Nat):Builtin.Slice.sliceAdjust lo hi 1 (n:Int)=(((sIx n 0 lo:Nat):Int),((sIx n n hi:Nat):Int)):=by
 have h1:¬((1:Int)<0):=by omega
 unfold Builtin.Slice.sliceAdjust;simp only[h1,AAZ];refine ACI ?_ ?_
 .cases lo with
  | none=>rfl
  | some v=>exact XJ v n 0
 .cases hi with
  | none=>rfl
  | some v=>exact XJ v n n
def WN (i j:Nat):Builtin.Slice.slicePlaces (i:Int) (j:Int) 1=j-i:=by
 unfold Builtin.Slice.slicePlaces;have h1:(1:Int)>0:=by omega
 simp only[h1,ABB,Int.ediv_one];split <;> omega
def Oc {v:zx}{o:zt Int}{Q:zt Int->zw->Prop}(p:IsPart v o)(h:Q o s):wpAny (model prog w) A (Builtin.Slice.slicePartIndex v) Q E s:=by
 cases p with
 | none=>exact slicePart_none h
 | int i t=>exact slicePart_int h
def sliceApplied_gen {e:zu}{a b:zx}{lo hi:zt Int}{n:Nat}{Q:Int×Int×Nat->zw->Prop}(hs:s.heap.IsSliceOf e a b .none)(f:IsPart a lo)(g:IsPart b hi)(h:Q (((sIx n 0 lo:Nat):Int),1,sIx n n hi-sIx n 0 lo) s):wpAny (model prog w) A (Builtin.Slice.sliceApplied (.ref e) (pure (n:Int))) Q E s:=by obtain⟨os,c,i,d⟩:=id hs;unfold Builtin.Slice.sliceApplied Builtin.Slice.sliceFields;refine AAA (AAA (AAs c d (x:=a) rfl (AAA (AAs c d (x:=b) rfl (AAA (AAs c d (x:= .none) rfl (AAC ?_)))))));refine AAA (slicePart_none ?_);show wpAny _ _ (if ((1:Int)==0)=true then _ else _) _ _ s;rw[AAD (by decide)];refine AAA (Oc f (AAA (Oc g (AAA (AAC ?_)))));show wpAny _ _ (match Builtin.Slice.sliceAdjust lo hi 1 (n:Int) with | (lo,hi)=>pure (lo,(1:Int),Builtin.Slice.slicePlaces lo hi 1)) _ _ s;rw[VR lo hi n];show wpAny _ _ (pure (((sIx n 0 lo:Nat):Int),(1:Int),Builtin.Slice.slicePlaces ((sIx n 0 lo:Nat):Int) ((sIx n n hi:Nat):Int) 1)) _ _ s;rw[WN];exact AAC h
def cR (xs:Array zx)(i k:Nat):((List.range k).filterMap λ(m:Nat)=>xs[((i:Int)+(m:Int)*1).toNat]?).toArray=((xs.toList.drop i).take k).toArray:=by
 have e:(λ(m:Nat)=>xs[((i:Int)+(m:Int)*1).toNat]?)=λm=>xs[i+m]? :=by
  funext m
  have:((i:Int)+(m:Int)*1).toNat=i+m:=by omega
  rw[this]
 rw[e];have:=pick_run xs i k;rw[List.filterMap_map] at this;have a:((λx=>xs[x]?) ∘ λx=>i+x)=λm=>xs[i+m]? :=rfl;rw[a] at this;rw[this]
def getItem_tuple_cut {t c:zu}{items:Array zx}{d e:zx}{lo hi:zt Int}{Q:zx->zw->Prop}(a:IsTup s.heap t items)(hs:s.heap.IsSliceOf c d e .none)(f:IsPart d lo)(g:IsPart e hi)(hw:¬(sIx items.size 0 lo=0/\sIx items.size items.size hi=items.size))(h:Q (.ref s.heap.objs.size) {s with heap:=s.heap.push {cls:= .type "tuple",data:= .seq ((items.toList.drop (sIx items.size 0 lo)).take (sIx items.size items.size hi-sIx items.size 0 lo)).toArray}})(hsz:items.size<=sizeLine):wpAny (model prog w) A (getItem (.ref t) (.ref c)) Q E s:=by
 have b:sizeOk (.seq ((items.toList.drop (sIx items.size 0 lo)).take (sIx items.size items.size hi-sIx items.size 0 lo)).toArray):=by show ((items.toList.drop (sIx items.size 0 lo)).take (sIx items.size items.size hi-sIx items.size 0 lo)).toArray.size<=sizeLine;rw[AAV,ADU,List.length_drop,ABT];omega
 have hj:sIx items.size items.size hi<=items.size:=lc _ _ (AAJ _) hi;obtain⟨os,i,j,n⟩:=id hs;have k:s.TypeIs (.ref c) "slice" :=⟨os,i,j⟩;unfold getItem;try with_reducible refine AAi ?_
 first | refine AAA (AAC ?_)|skip
 refine AAA (wpAny_sequenceKey a.typeIs (by decide) ?_);refine AAA (ABW (name:=Str.ofString "__getitem__") a.typeIs AB0
  (AA6 AB0 a.typeIs entry_tuple_getitem ?_ (args_tuple_getitem _ _)))
 show wpAny _ _ (Builtin.Tuple.tupleItemsOf (.ref t) >>= _) _ _ s;refine AAA (tupleItemsOf_ a ?_);refine AAA (ACJ k ?_);rw[AAE (by decide)];refine AAA (sliceApplied_gen hs f g ?_);have l:¬((((sIx items.size 0 lo:Nat):Int)==0&&(1:Int)==1&&(sIx items.size items.size hi-sIx items.size 0 lo)==items.size)=true):=by intro q;rw[AAq,AAq] at q;have o:((sIx items.size 0 lo:Nat):Int)=0:=eq_of_beq q.1.1;have p:sIx items.size items.size hi-sIx items.size 0 lo=items.size:=eq_of_beq q.2;exact hw ⟨by omega,by omega⟩
 show wpAny _ _ (if (((sIx items.size 0 lo:Nat):Int)==0&&(1:Int)==1&&(sIx items.size items.size hi-sIx items.size 0 lo)==items.size)=true then _ else _) _ _ s;rw[AAD l,cR];first
  | exact AAA (m:=Builtin.Tuple.tupleExact _) (AAu (AAC ⟨_,rfl,AAC h⟩) b)
  | exact AAA (m:=Builtin.Tuple.tupleExact _) (AAu (AAA (AAC (AAC ⟨_,rfl,AAC h⟩))) b)
  | exact AAA (AAA (m:=Builtin.Tuple.tupleExact _) (AAu (AAC (AAC ⟨_,rfl,AAC h⟩)) b))
  | exact AAA (AAA (m:=Builtin.Tuple.tupleExact _) (AAu (AAC ⟨_,rfl,AAC h⟩) b))
end
end HT
namespace L2
open PySem PySem.Spec PyProof.Rows
abbrev TO:=St->Hp->(zt Int->Hp->Prop)->Prop
def PO (X:Cx)(e:zt zr)(t:TO):Prop:=
 ∀(kd:zy (zu×Obj)) (s:zw) (a:St) (H:Hp) (Q:zt Int->Hp->Prop),Inv X kd a H s->t a H Q->
  wpAny (model X.prog X.w) X.A (evalPart e X.env) (λu c=>∃o b,Inv X kd a b c/\IsPart u o/\Q o b) X.xe s
def iN:TO:=λ_ H Q=>Q none H
def pp (t:TE):TO:=λa H Q=>t a H λx H1=>∃i,x= .int i/\Q (some i) H1
section
variable {X:Cx}{e:zr}{te:TE}{lo hi:zt zr}{tl th:TO}{pos p2:Pos}
def gc:PO X none iN:=by intro kd s a H Q I h;rw[evalPart_none];exact AAC ⟨none,H,I, .none,h⟩
def gf (h:PE X e te):PO X (some e) (pp te):=by intro kd s a H Q I hw;rw[evalPart_some];refine BK (h kd s a H _ I hw) λu f ⟨x,H1,b,c,d⟩=> ?_;obtain⟨i,rfl,q⟩:=d;obtain⟨t,rfl⟩:=c;exact⟨some i,H1,b, .int i t,q⟩
def iY (X:Cx)(r:V->zt Int->zt Int->Hp->VK->Prop):Prop:=
 ∀(kd:zy (zu×Obj)) (s:zw) (a:St) (H:Hp) (x:V) (v b c:zx) (lo hi:zt Int) (d:zu) (Q:VK),Inv X kd a H s->RelV x v->s.heap.IsSliceOf d b c .none->IsPart b lo->IsPart c hi->r x lo hi H Q->
  ∃T id,typeLookup (.type T) "__getitem__" =pure (some (.builtin id))/\s.TypeIs v T/\wpAny (model X.prog X.w) X.A (getItem v (.ref d)) (EP X kd a Q) X.xe s
def iY.or {r a:V->zt Int->zt Int->Hp->VK->Prop}(h:iY X r)(h':iY X a):iY X (λx lo hi H Q=>r x lo hi H Q\/a x lo hi H Q):=by
 intro kd s b H x v c d lo hi f Q I g hs i j q;rcases q with q|q
 .exact h kd s b H x v c d lo hi f Q I g hs i j q
 .exact h' kd s b H x v c d lo hi f Q I g hs i j q
def yn (r:V->zt Int->zt Int->Hp->VK->Prop)(te:TE)(tl th:TO):TE:=λa H Q=>te a H λx H1=>tl a H1 λl b=>th a b λu c=>r x l u c Q
def cO {r:V->zt Int->zt Int->Hp->VK->Prop}(i:iY X r)(he:PE X e te)(hl:PO X lo tl)(hu:PO X hi th):PE X (.Subscript e (.Slice lo hi none p2) pos) (yn r te tl th):=by intro kd s c H Q I h;refine Subscript_ (BK (he kd s c H _ I h) λv j ⟨x,H1,k,m,n⟩=> ?_);refine wpAny_Slice (BK (hl kd j c H1 _ k n) λd o ⟨l,p,t,y,z⟩=>BK (hu kd o c p _ t z) λf a ⟨u,g,B,C,D⟩=> ?_);rw[evalPart_none];refine AAC ?_;have E:Inv X kd c g {a with heap:=a.heap.push {cls:= .type "slice",data:= .fields #[d,f, .none] }}:=B.kept (t':=a.toks) λb K q=>AAH _ q;obtain⟨T,id,F,G,J⟩:=i kd {a with heap:=a.heap.push {cls:= .type "slice",data:= .fields #[d,f, .none] }} c g x v d f l u a.heap.objs.size Q E m (Heap.IsSliceOf.new ..) y C D;show wpAny (model X.prog X.w) X.A (subscriptTail e (.Slice lo hi none p2) v (.ref a.heap.objs.size)) (EP X kd c Q) X.xe {a with heap:=a.heap.push {cls:= .type "slice",data:= .fields #[d,f, .none] }};exact tail_any (ops:= [.ref a.heap.objs.size,v]) G F J (by with_unfolding_all rfl)
def PJ (xs:zy V)(lo hi:zt Int):zy V:=(xs.drop (HT.sIx xs.length 0 lo)).take (HT.sIx xs.length xs.length hi-HT.sIx xs.length 0 lo)
def Lm (xs:zy V)(lo hi:zt Int):(PJ xs lo hi).length<=xs.length:=by unfold PJ;rw[ADU,List.length_drop];omega
def tF (K:AAB):V->zt Int->zt Int->Hp->VK->Prop:=λx lo hi H Q=>∃a xs,x= .ref a/\MF K H a xs/\
 ¬(HT.sIx xs.length 0 lo=0/\HT.sIx xs.length xs.length hi=xs.length)/\∀p,H p=none->Q (.ref p) (upd H p (.tup (PJ xs lo hi)))
def l8:iY X (tF X.K):=by
 intro kd s k H x v l m lo hi n Q I g hs i j h;obtain⟨a,xs,rfl,hx,hw,q⟩:=h;cases g;obtain⟨c,r,f,hz⟩:=I.tuple hx;have d:c.toArray.size=xs.length:=by rw[AAV];exact r.length.symm
 refine⟨"tuple",_,AB0.lookup,f.typeIs, ?_⟩;refine HT.getItem_tuple_cut f hs i j (by rw[d];exact hw) ?_ (by rw[d];exact hz);rw[d];refine⟨.ref s.heap.objs.size,_,I.laid (t':=s.toks) (o:= .tup (PJ xs lo hi)) (λb p q=>AAH _ q) (AAJ _) ?_,rfl,q _ (I.hok.fresh (AAJ _))⟩;exact⟨AAf (Lm xs lo hi) hz,_,(r.drop (HT.sIx xs.length 0 lo)).take (HT.sIx xs.length xs.length hi-HT.sIx xs.length 0 lo),IsTup.new _ _⟩
def jF (K:AAB):R2:=λx y H Q=>∃a b xs ys,x= .ref a/\y= .ref b/\MF K H a xs/\MF K H b ys/\xs≠ [] /\xs.length+ys.length<=sizeLine/\
 (ys= [] ->Q (.ref a) H)/\(ys≠ [] ->∀p,H p=none->Q (.ref p) (upd H p (.tup (xs++ys))))
def Aq.nil_iff {xs:zy V}{us:zy zx}(r:Aq xs us):us= [] ↔xs= [] :=by
 cases r with
 | nil=>simp
 | cons _ _=>simp
def gQ:EZ X (binaryOp .Add) (jF X.K):=by intro kd s n H x y v u Q I g i h;obtain⟨a,b,xs,ys,rfl,rfl,ha,hb,hx,hz,j,k⟩:=h;cases g;cases i;obtain⟨l,d,m,_⟩:=I.tuple ha;obtain⟨f,c,p2,_⟩:=I.tuple hb;refine HT.cat_tup m p2 (λz=>hx (d.nil_iff.mp z)) (λz=>⟨.ref a,H,I,rfl,j (c.nil_iff.mp z)⟩) (λz=> ?_) (by rw[<-d.length,<-c.length];exact hz);refine⟨.ref s.heap.objs.size,_,I.laid (t':=s.toks) (o:= .tup (xs++ys)) (λb p q=>AAH _ q) (AAJ _) ?_,rfl,k (λw=>z (c.nil_iff.mpr w)) _ (I.hok.fresh (AAJ _))⟩;exact⟨by rw[AAg];exact hz,_,d.append c,IsTup.new _ _⟩
end
def V2 (n:Nat)(i:Int):zt Nat:=if 0<=i then (if i<n then some i.toNat else none) else if -(n:Int)<=i then some (i+n).toNat else none
def Jc {a:Type}(xs:zy a)(i:Int):zt a:=(V2 xs.length i).bind λj=>xs[j]?
def Xk {n:Nat}{i:Int}{j:Nat}(h:V2 n i=some j):seqIndex? i n=some j/\j<n/\ -(n:Int)<=i/\i<n:=by
 unfold V2 at h;by_cases h0:0<=i
 .rw [AAE h0] at h;by_cases h1:i<n
  .rw [AAE h1] at h;have e:i.toNat=j:=AAY h;exact⟨by rw[seqIndex_of h0 h1,e],by omega,by omega,h1⟩
  .rw [AAD h1] at h;cases h
 .rw [AAD h0] at h;by_cases h1: -(n:Int)<=i
  .rw [AAE h1] at h;have e:(i+n).toNat=j:=AAY h;exact⟨by rw[seqIndex_neg (by omega) h1,e],by omega,h1,by omega⟩
  .rw [AAD h1] at h;cases h
def XF {a:Type}{xs:zy a}{i:Int}{v:a}(h:Jc xs i=some v):∃j,seqIndex? i xs.length=some j/\xs[j]? =some v/\j<xs.length/\ -(xs.length:Int)<=i/\i<xs.length:=by
 unfold Jc at h;cases e:V2 xs.length i with
 | none=>rw[e] at h;cases h
 | some j=> rw[e] at h;obtain⟨h1,h2,b,c⟩:=Xk e;exact⟨j,h1,h,h2,b,c⟩
def Ck {a:Type}{xs:zy a}{j:Nat}{v:a}(h:xs[j]? =some v):Jc xs (j:Int)=some v:=by
 have hj:j<xs.length:=(AA0.mp h).1;have e:V2 xs.length (j:Int)=some j:=by unfold V2;rw[AAE (by omega),AAE (by omega)];simp
 unfold Jc;rw[e];exact h
def Qq (b:zr):Prop:=∀o i,subscripted b false o i=operate [o,i] (getItem o i)
def e6 (X:Cx)(r:R2):Prop:=
 ∀(value slice:zr) (kd:zy (zu×Obj)) (s:zw) (a:St) (H:Hp) (x y:V) (v u:zx) (Q:VK),Inv X kd a H s->RelV x v->RelV y u->r x y H Q->
  subscripted slice false v u=operate [v,u] (getItem v u)->wpAny (model X.prog X.w) X.A (subscriptTail value slice v u) (EP X kd a Q) X.xe s
def xO (X:Cx)(id:String)(r:V->zy V->Hp->VK->Prop):Prop:=
 ∀(kd:zy (zu×Obj)) (s:zw) (a:St) (H:Hp) (x:V) (xs:zy V) (v:zx) (us:zy zx) (Q:VK),Inv X kd a H s->RelV x v->Aq xs us->r x xs H Q->
  wpAny (model X.prog X.w) X.A (call (.builtin id) (v::us)) (EP X kd a Q) X.xe s
section
variable {X:Cx}{a b:zr}{ta tb:TE}{pos:Pos}
def e6.or {r c:R2}(h:e6 X r)(h':e6 X c):e6 X (λx y H Q=>r x y H Q\/c x y H Q):=by
 intro value slice kd s d H x y v u Q I e f q hs;rcases q with q|q
 .exact h value slice kd s d H x y v u Q I e f q hs
 .exact h' value slice kd s d H x y v u Q I e f q hs
def Lr {r:R2}(c:e6 X r)(ha:PE X a ta)(hb:PE X b tb)(hs:Qq b):PE X (.Subscript a b pos) (Zh r ta tb):=by intro kd s d H Q I h;exact Subscript_ (jq ha hb I h λv u e x y f g i j q=>c a b kd e d f x y v u Q g i j q (hs _ _))
def pE (K:AAB):R2:=λx y H Q=>∃p xs i v,x= .ref p/\y= .int i/\E8 K H p xs/\Jc xs i=some v/\Q v H
def pG (K:AAB):R2:=λx y H Q=>∃p xs i v,x= .ref p/\y= .int i/\MF K H p xs/\Jc xs i=some v/\Q v H
def FC:e6 X (pE X.K):=by
 intro value slice kd s g H x y v u Q I k l h hs;obtain⟨p,xs,i,z,rfl,rfl,hq,he,q⟩:=h;cases k;obtain⟨t,rfl⟩:=l;obtain⟨d,r,e,hz⟩:=I.list hq;obtain⟨j,h1,h2,A,m,n⟩:=XF he;obtain⟨w,ew,f⟩:=r.get h2;have hl:=r.length;have B:=K6;have c:EP X kd g Q w s:=⟨z,H,I,f,q⟩;by_cases h0:0<=i
 .have hj:i.toNat=j:=by rw[seqIndex_of h0 n] at h1;exact AAY h1
  exact item_listR e.isList h0 (by omega) (by rw[hj];simpa using ew) c hs
 .have hj:(i+(d.toArray.size:Int)).toNat=j:=by rw[seqIndex_neg (by omega) m] at h1;rw[AAV,<-hl];exact AAY h1
  exact subscriptTail_builtinR (x:=w) e.isList.typeIs slot_list_getitem.lookup
   (wpAny_getItem_list_neg (Q:=λr o=>r=w/\EP X kd g Q r o) e.isList (by omega) (by rw[AAV] <;> omega) (by omega) (by rw[hj];simpa using ew) ⟨rfl,c⟩) hs
def kN:e6 X (pG X.K):=by
 intro value slice kd s e H x y v u Q I g k h hs;obtain⟨p,xs,i,z,rfl,rfl,hq,he,q⟩:=h;cases g;obtain⟨t,rfl⟩:=k;obtain⟨l,r,f,hz⟩:=I.tuple hq;obtain⟨j,h1,h2,n,o,A⟩:=XF he;obtain⟨w,ew,c⟩:=r.get h2;have hl:=r.length;have B:=K6;have d:EP X kd e Q w s:=⟨z,H,I,c,q⟩;exact subscriptTail_builtinR (x:=w) f.typeIs slot_tuple_getitem.lookup
  (getItem_tuple (j:=j) (Q:=λr m=>r=w/\EP X kd e Q r m) f (by omega) (by omega) (by rw[AAV,<-hl];exact h1) (by simpa using ew) ⟨rfl,d⟩) hs
def V9 (c:zy zx)(n j:Nat)(u:zx):Obj.mapSeq (·.setIfInBounds j u) {cls:= .type "list",data:= .seq c.toArray n}={cls:= .type "list",data:= .seq (c.set j u).toArray n}:=by simp[Obj.mapSeq]
def Inv.lst {kd:zy (zu×Obj)}{d:St}{H:Hp}{s:zw}{p:zu}{xs:zy V}(I:Inv X kd d H s)(h:H p=some (.lst xs)):∃(c:zy zx) (n:Nat),Aq xs c/\s.heap.get? p=some {cls:= .type "list",data:= .seq c.toArray n}/\xs.length<=sizeLine:=by obtain⟨z,c,n,r,e⟩:=I.hok p _ h;exact⟨c,n,r,e,z⟩
def Inv.lstUpd {kd:zy (zu×Obj)}{g:St}{H:Hp}{s:zw}{p:zu}{xs ys:zy V}{c its':zy zx}{n d:Nat}{f:Obj->Obj}(I:Inv X kd g H s)(h:H p=some (.lst xs))(j:s.heap.get? p=some {cls:= .type "list",data:= .seq c.toArray n})(i:f {cls:= .type "list",data:= .seq c.toArray n}={cls:= .type "list",data:= .seq its'.toArray d})(r:Aq ys its')(hz:ys.length<=sizeLine)(t:Nat):Inv X kd g (upd H p (.lst ys)) {s with heap:=s.heap.update p f,toks:=t}:=by
 have e:(s.heap.update p f).get? p=some {cls:= .type "list",data:= .seq its'.toArray d}:=by rw[ABX f j (by rw[i] <;> rfl),i]
 refine I.write (x:=p) (e:=p) (by rw[h];trivial) (.inl rfl) (λb u hb q=>(ABI _ _ (AAd hb)).trans q) ⟨_,e⟩ ?_;exact⟨hz,its',d,r,e⟩
def pJ:V->V->V->Hp->(Hp->Prop)->Prop:=λo i v H Q=>∃p xs k j,o= .ref p/\i= .int k/\H p=some (.lst xs)/\V2 xs.length k=some j/\Q (upd H p (.lst (xs.set j v)))
def OZ:nN X pJ:=by
 intro kd s l H o i v x y u Q I m w rv h;obtain⟨p,xs,k,j,rfl,rfl,hp,hj,q⟩:=h;cases m;obtain⟨t,rfl⟩:=w;obtain⟨c,n,r,d,hz⟩:=I.lst hp;obtain⟨h1,h2,e,f⟩:=Xk hj;have hl:=r.length;have z:=K6;have g:Inv X kd l (upd H p (.lst (xs.set j v))) {s with heap:=s.heap.update p (Obj.mapSeq (·.setIfInBounds j u))}:=
  I.lstUpd hp d (V9 c n j u) (r.set rv j) (by rw[List.length_set];exact hz) s.toks
 by_cases h0:0<=k
 .have hk:k.toNat=j:=by rw[seqIndex_of h0 f] at h1;exact AAY h1
  exact PySem.W.ki_setAt d h0 (by omega) (by rw[AAV,<-hl];exact f) (by rw[hk];exact⟨_,g,q⟩)
 .have hk:(k+(c.toArray.size:Int)).toNat=j:=by rw[seqIndex_neg (by omega) e] at h1;rw[AAV,<-hl];exact AAY h1
  exact PySem.W.ki_setBack d (by omega) (by rw[AAV,<-hl];exact e) (by omega) (by rw[hk];exact⟨_,g,q⟩)
def SM (lo hi:zt Int)(n:Nat):(sliceBounds lo hi none n).1=((HT.sIx n 0 lo:Nat):Int)/\(sliceBounds lo hi none n).2.1=((HT.sIx n n hi:Nat):Int)/\(sliceBounds lo hi none n).2.2=1:=by
 refine⟨?_, ?_,rfl⟩
 .cases lo with
  | none=>simp[sliceBounds,HT.sIx]
  | some i=>
    simp only[sliceBounds,HT.sIx,Option.getD_none,show (1:Int)>0 by decide,ABB];by_cases h:i<0
    .simp only[h,ABB] <;> omega
    .simp only[h,AAZ] <;> omega
 .cases hi with
  | none=>simp[sliceBounds,HT.sIx]
  | some i=>
    simp only[sliceBounds,HT.sIx,Option.getD_none,show (1:Int)>0 by decide,ABB];by_cases h:i<0
    .simp only[h,ABB] <;> omega
    .simp only[h,AAZ] <;> omega
def Pk (c:zy zx)(lo hi:zt Int):slicePick c.toArray lo hi none=((c.drop (HT.sIx c.length 0 lo)).take (HT.sIx c.length c.length hi-HT.sIx c.length 0 lo)).toArray:=by obtain⟨h1,h2,d⟩:=SM lo hi c.toArray.size;unfold slicePick;rw[h1,h2,d];simp only[sliceRange_one,pick_run,AAV] <;> rfl
def tE (K:AAB):V->zt Int->zt Int->Hp->VK->Prop:=λx lo hi H Q=>∃a xs,x= .ref a/\E8 K H a xs/\∀p,H p=none->Q (.ref p) (upd H p (.lst (PJ xs lo hi)))
def iE:iY X (tE X.K):=by intro kd s j H x v k l lo hi m Q I d hs e f h;obtain⟨a,xs,rfl,hx,q⟩:=h;cases d;obtain⟨g,r,c,hz⟩:=I.list hx;have i:=r.length;refine⟨"list",_,slot_list_getitem.lookup,c.isList.typeIs, ?_⟩;refine wpAny_getItem_list_slice c.isList hs e f .none (by simp) ?_ (by rw[AAV] <;> omega);rw[Pk,<-i];refine⟨.ref s.heap.objs.size,_,I.laid (t':=s.toks) (o:= .lst (PJ xs lo hi)) (λb n q=>AAH _ q) (AAJ _) ?_,rfl,q _ (I.hok.fresh (AAJ _))⟩;exact⟨AAf (Lm xs lo hi) hz,_,0,(r.drop (HT.sIx xs.length 0 lo)).take (HT.sIx xs.length xs.length hi-HT.sIx xs.length 0 lo),AAS _ rfl⟩
def Jx:Cr X (.builtin "len") (λxs H Q=>∃p ys,xs= [.ref p] /\(E8 X.K H p ys\/MF X.K H p ys)/\Q (.int ys.length) H):=by
 intro kd s i H xs us Q I r h;obtain⟨p,ys,rfl,hq,q⟩:=h;obtain⟨u,rfl,g⟩:=vals1 r;cases g;have j:=K6;rcases hq with hq|hq
 .obtain ⟨c,d,e,hz⟩:=I.list hq;have f:=d.length;exact Calls.call_len_list e.isList (by simp only[AAV] <;> omega) ⟨.int ys.length,H,I.tok _,⟨s.toks+1,by rw[AAV,f]⟩,q⟩
 .obtain ⟨c,d,e,hz⟩:=I.tuple hq;have f:=d.length;exact len_tuple e (by simp only[AAV] <;> omega) ⟨.int ys.length,H,I.tok _,⟨s.toks+1,by rw[AAV,f]⟩,q⟩
def PH:Cr X (.type "tuple") (λxs H Q=>∃p ys,xs= [.ref p] /\((E8 X.K H p ys/\∀l,H l=none->Q (.ref l) (upd H l (.tup ys)))\/(MF X.K H p ys/\Q (.ref p) H))):=by
 intro kd s g H xs us Q I r h;obtain⟨p,ys,rfl,h⟩:=h;obtain⟨u,rfl,j⟩:=vals1 r;cases j;rcases h with⟨hq,q⟩|⟨hq,q⟩
 .obtain ⟨c,d,f,hz⟩:=I.list hq;have n:=d.length;refine call_tuple_list f.isList (λh' k=> ?_) (by simp only[AAV] <;> omega);have i:Inv X kd g H {s with heap:=h'}:=I.kept (t':=s.toks) k;have m:Inv X kd g (upd H h'.objs.size (.tup ys)) {s with heap:=h'.push {cls:= .type "tuple",data:= .seq c.toArray}}:=
   i.laid (t':=s.toks) (λb o e=>AAH _ e) (AAJ _) (show CJ X.prog X.w _ _ _ (.tup ys) from⟨hz,c,d,IsTup.new _ _⟩)
  exact⟨.ref h'.objs.size,_,m,rfl,q _ (i.hok.fresh (AAJ _))⟩
 .obtain ⟨c,d,f,hz⟩:=I.tuple hq;exact call_tuple_same f ⟨.ref p,H,I,rfl,q⟩
def vO (K:AAB)(T:String)(x:V)(H:Hp):Prop:=match x with
 | .str _=>T="str"
 | .int _=>T="int"
 | .ref p=>(T="list" /\∃xs,E8 K H p xs)\/(T="tuple" /\∃o,K.lookup p=some o/\o.cls= .type "tuple" /\o.dict=none)\/
     (T="dict" /\((∃kvs,H p=some (.dK kvs))\/∃kvs,H p=some (.dT kvs)))\/(T="set" /\∃S n,H p=some (.set S n))
 | _=>False
def mO {kd:zy (zu×Obj)}{j:St}{H:Hp}{s:zw}{T:String}{x:V}{v:zx}(I:Inv X kd j H s)(r:RelV x v)(d:vO X.K T x H):s.TypeIs v T/\∀a,v= .ref a->∃g,s.heap.get? a=some g/\g.dict=none:=by
 cases x with
 | str z=> obtain⟨t,rfl⟩:=r;cases (show T="str" from d);exact⟨typeIs_str s z t,λ_ e=>nomatch e⟩
 | int i=> obtain⟨t,rfl⟩:=r;cases (show T="int" from d);exact⟨typeIs_int s i t,λ_ e=>nomatch e⟩
 | ref p=>
   cases r;rcases d with⟨rfl,xs,hq⟩|⟨rfl,o,hk,hc,hd⟩|⟨rfl,hk⟩|⟨rfl,S,n,hk⟩
   .obtain ⟨k,_,h,_⟩:=I.list hq;refine⟨h.isList.typeIs,λa e=> ?_⟩;cases e;obtain⟨o,n,e,c,hd,_⟩:=h;exact⟨o,e,hd⟩
   .refine ⟨⟨o,I.kIn p o hk,hc⟩,λa e=> ?_⟩;cases e;exact⟨o,I.kIn _ o hk,hd⟩
   .have z:∃o,s.heap.get? p=some o/\o.ExactDict:=by
     rcases hk with⟨kvs,hk⟩|⟨kvs,hk⟩
     .obtain ⟨_,_,_,_,o,_,_,e,ex,_⟩:=I.hok p _ hk;exact⟨o,e,ex⟩
     .obtain ⟨_,_,_,_,o,_,_,e,ex,_⟩:=I.hok p _ hk;exact⟨o,e,ex⟩
    obtain⟨o,e,ex⟩:=z;refine⟨⟨o,e,ex.1⟩,λa f=> ?_⟩;cases f;exact⟨o,e,ex.2.1⟩
   .obtain ⟨o,_,_,_,e,ex,_⟩:=I.hok p _ hk;refine⟨⟨o,e,ex.1⟩,λa f=> ?_⟩;cases f;exact⟨o,e,ex.2.1⟩
 | _=>exact False.elim d
def vN (K:AAB)(T:String)(r:V->zy V->Hp->VK->Prop)(d:TE)(t:TA):TE:=λc H Q=>d c H λx H1=>vO K T x H1/\t c H1 λxs e=>r x xs e Q
variable {o e:zr}{es:zy zr}{to:TE}{t:TA}{name:Str}{apos cpos:Pos}{T id:String}{r:V->zy V->Hp->VK->Prop}
def o7 (i:PlainAttrs T)(slot:Slot T name id)(j:typeOf (.builtin id)=pure (.type "method_descriptor"))(k:xO X id r)(l:PE X o to)(ha:PA X (e::es) t)(m:attributeBase o name X.env (eval o X.env)=eval o X.env:=by rfl)(n:((backTo cpos (starEach (e::es) X.env)).all (λx=> !x.1)&&(backToKw cpos (keywordEach [] X.env)).all (λx=>x.1.isSome) && decide ((e::es).length+([] :zy Keyword).length+(if ([] :zy Keyword).isEmpty then 0 else 1)<30))=true:=by rfl)(p:(apos.endLine==cpos.line)=true:=by rfl)(hs:starEach (e::es) X.env=(false,eval e X.env)::starEach es X.env:=by rfl)(u:(backTo cpos (starEach es X.env)).any (·.1)=false:=by rfl):PE X (.Call (.Attribute o name apos) (e::es) [] cpos) (vN X.K T r to t):=by intro kd s c H Q I h;refine wpAny_Call_method_late m n p rfl (BK (l kd s c H _ I h) λv w ⟨x,H1,d,f,y,z⟩=> ?_);obtain⟨h1,h2⟩:=mO d f y;refine⟨T,id,i,slot,j,h1,h2, ?_⟩;have g:=ha cpos kd w c H1 _ d z;rw[hs] at g ⊢;refine ACm (by show (false||(backTo cpos (starEach es X.env)).any (·.1))=false;rw[u] <;> rfl) (ADZ ?_);exact BK g λus A ⟨vs,B,C,D,E⟩=>k kd A c B x vs v us Q C f D E
end
def nL (X:Cx)(id:String)(r:V->zy V->Hp->VK->Prop):Prop:=
 ∀(kd:zy (zu×Obj)) (s:zw) (a:St) (H:Hp) (x:V) (xs:zy V) (v:zx) (us:zy zx) (Q:VK),Inv X kd a H s->RelV x v->Aq xs us->r x xs H Q->
  wpAny (model X.prog X.w) X.A (call (.builtin id) (v::us)) (EP X kd a Q) X.xe s
def Aq.one:∀{x:V} {us:zy zx},Aq [x] us->∃u,us= [u] /\RelV x u
 | _,_, .cons r .nil=>⟨_,rfl,r⟩
def Aq.two:∀{x y:V} {us:zy zx},Aq [x,y] us->∃u v,us= [u,v] /\RelV x u/\RelV y v
 | _,_,_, .cons r (.cons q .nil)=>⟨_,_,rfl,r,q⟩
def Aq.zero:∀{us:zy zx},Aq [] us->us= []
 | _, .nil=>rfl
def Aq.dropLast {xs:zy V}{us:zy zx}(h:Aq xs us):Aq xs.dropLast us.dropLast:=by
 induction h with
 | nil=>exact .nil
 | cons r t ih=>
   cases t with
   | nil=>exact .nil
   | cons q t'=>exact .cons r ih
def Aq.reverse {xs:zy V}{us:zy zx}(h:Aq xs us):Aq xs.reverse us.reverse:=by
 induction h with
 | nil=>exact .nil
 | cons r t ih=>rw[ACn,ACn];exact Aq.append ih (.cons r .nil)
section
variable {X:Cx}{kd:zy (zu×Obj)}{σ:St}{H:Hp}{s:zw}{l b:zu}{xs ys zs:zy V}
def Inv.lset {a its':zy zx}{n:Nat}{f:Array zx->Array zx}{t':Nat}(I:Inv X kd σ H s)(c:H l=some (.lst xs))(e:s.heap.get? l=some {cls:= .type "list",data:= .seq a.toArray n})(d:f a.toArray=its'.toArray)(hv:Aq ys its')(hz:ys.length<=sizeLine):Inv X kd σ (upd H l (.lst ys)) {s with heap:=s.heap.update l (Obj.mapSeq f),toks:=t'}:=by have q:=PySem.IsL.update e f;rw[d] at q;refine I.write (x:=l) (e:=l) (by rw[c];exact trivial) (.inl rfl) (λg u hb hu=>(ABI s.heap (Obj.mapSeq f) (AAd hb)).trans hu) ⟨_,q⟩ ?_;exact⟨hz,its',_,hv,q⟩
def Inv.lnew {a:zy zx}{t':Nat}(I:Inv X kd σ H s)(hv:Aq ys a)(hz:ys.length<=sizeLine):Inv X kd σ (upd H s.heap.objs.size (.lst ys)) {s with heap:=s.heap.push {cls:= .type "list",data:= .seq a.toArray},toks:=t'}:=
 I.laid (λ_ _ q=>AAH _ q) (AAJ _) ⟨hz,a,0,hv,AAS _ rfl⟩
def Inv.fresh (I:Inv X kd σ H s):H s.heap.objs.size=none:=I.hok.fresh (AAJ _)
def Inv.lstM (I:Inv X kd σ H s)(c:H l=some (.lst xs)):xs.length<=sizeLine/\∃(a:zy zx) (n:Nat),Aq xs a/\xs.length=a.length/\s.heap.get? l=some {cls:= .type "list",data:= .seq a.toArray n}:=by obtain⟨z,a,n,r,e⟩:=I.hok l _ c;exact⟨z,a,n,r,r.length,e⟩
end
section
variable {X:Cx}
def Rl:V->zy V->Hp->VK->Prop:=λx vs H Q=>∃l xs y,x= .ref l/\vs= [y] /\H l=some (.lst xs)/\xs.length<sizeLine/\Q .non (upd H l (.lst (xs ++ [y])))
def LB:nL X "list.append" Rl:=by intro kd s f H x vs v us Q I c rv h;obtain⟨l,xs,y,rfl,rfl,b,hz,q⟩:=h;cases c;obtain⟨u,rfl,d⟩:=rv.one;obtain⟨z,a,n,r,hl,e⟩:=I.lstM b;refine call_meets F.slot_list_append ⟨_,e,rfl⟩ F.entry_list_append (F.args_list_append_2 _ _) (PySem.list_append l a.toArray n u (by rw[AAV];omega)) ⟨e, ?_⟩;refine⟨.non,_,I.lset (its':=a ++ [u]) b e (by simp) (r.append (.cons d .nil)) ?_,rfl,q⟩;rw[AAg,List.length_singleton];omega
def pC:R2:=λx y H Q=>∃l b xs a,x= .ref l/\y= .ref b/\H l=some (.lst xs)/\H b=some (.lst a)/\xs.length+a.length<=sizeLine/\∀p,H p=none->Q (.ref p) (upd H p (.lst (xs++a)))
def lC:EZ X (binaryOp .Add) pC:=by
 intro kd s o H x y v u Q I d f h;obtain⟨l,b,xs,p,rfl,rfl,g,i,hz,q⟩:=h;cases d;cases f;obtain⟨z,c,n,r,hl,e⟩:=I.lstM g;obtain⟨t,a,w,j,A,k⟩:=I.lstM i;refine PySem.P.add_list e k ?_ (by rw[AAV,AAV];omega);have m:c.toArray++a.toArray=(c++a).toArray:=by simp
 rw[m];exact⟨.ref _,_,I.lnew (t':=s.toks) (r.append j) (by rw[AAg];omega),rfl,q _ I.fresh⟩
end
section
variable {prog:kj}{w:ki}{A:ke}{E:zx->zw->Prop}{s:zw}
set_option maxRecDepth 100000 in
end
end L2
namespace Att
open PySem PySem.W PySem.Calls PyProof.Rows
def MM {P:Params}{h:kf}:∀(c:zy Int) (vs:zy zx),WellAll P h vs (c.map WData.int)->IntsAre vs c:=by
 intro c;induction c with
 | nil=> intro vs w;rw[ABY] at w;cases w;exact .nil
 | cons n c ih=>
   intro vs w;rw[AAK] at w;cases w with
   | cons a b=> cases a;exact .cons _ _ (ih _ b)
def Zb {l:OpenLaw}{n:Nat}(g:l.most=some n){P:Params}{h:kf}{args:zy WData}{vals:zy zx}(f:l.row.toRowW.claim.pre args=true)(i:WellAll P h vals args):∃a vs b,vals= [Value.ref a] /\args= [WData.list (b.map WData.int)] /\h.get? a=some {cls:= .type "list",data:= .seq vs.toArray}/\IntsAre vs b/\b.length<=n:=by
 have j:WShape.hasAll [] args [.list .int] =true:=(pre_splitW f).1;have hc:l.pre.holds [] {args:=args}=true:=(pre_splitW f).2;obtain⟨d,r,rfl,h1,h2⟩:=hasAllW_cons j;obtain rfl:=hasAllW_nil h2;obtain⟨xs,rfl,k⟩:=hasW_list h1;obtain⟨b,rfl⟩:=items_int k;have m:b.length<=n:=by
  unfold OpenLaw.pre at hc;have c:(WTm.not (.lt (.lit (.int (n:Int))) (.len (.arg 0)))).holds [] {args:= [.list (b.map .int)] }=true:=by have c:=(holds_andW hc).1;rw[g] at c;exact c
  have e:=condW_of c (w_not (w_lt w_lit (w_len_list (w_arg rfl))));rw[AAI] at e;refine Nat.le_of_not_lt λq=> ?_;have o:(n:Int)<((b.length:Nat):Int):=by omega
  first
   | (rw[AAo o] at e;exact absurd e (by decide))
   | (simp at e;omega)
 cases i with
 | cons p s=>
   cases s;cases p with
   | list t u=>exact⟨_,_,b,rfl,rfl,t,MM b _ u,m⟩
def ZW (l:OpenLaw)(args:zy WData):l.row.toRowW.claim.post args (.bool true) args=true:=
 postW_of (r:=l.row.toRowW) (X:=(true==true))
  (show WShape.has [] (.bool true) .bool=true by first | rfl|decide|simp[WShape.has,WShape.arms,WShape.armsAll])
  (show (WTm.eq .res (.lit (.bool true))).value [] {args:=args,res:=some (.bool true),after:=args}=some (.bool (true==true)) from w_eq_bool (w_res rfl) w_lit) rfl
def attach_call {l:OpenLaw}{n:Nat}{q:kj}{loose:zy Str}{XP:(Str->zt zx)->kf->Prop}{YP:ki->kf->Prop}{d:DefRec}(p:l.most=some n)(s:d.params.defaults= [])(call:∀(w:ki) (s₀ b:zw) (mg j:Str->zt zx) (e:zu) (o:Obj) (k g c:zx) (a:zu) (vs:zy zx) (h:zy Int),Ground q loose [] XP w s₀ mg j b.heap->YP w b.heap-> b.heap.get? e=some o->o.data= .func (docDef d.name d.params d.body d.scope k g c)->b.heap.CodeRec g d.name->mg d.name=some (.ref e)-> b.heap.get? a=some {cls:= .type "list",data:= .seq vs.toArray}->IntsAre vs h->h.length<=n->b.gens= #[] -> codeAny (model l.prog w) callerA (.call (.ref e) ⟨[.ref a], []⟩) (λr i=>r= .ok (.ret (.bool true))/\OldK b.heap i.heap/\i.os=b.os/\AllBare i.gens) b):WalkO q loose XP YP l.row.toRowW d [] (λf vs=>PySem.call f vs):=by intro w s₀ b mg j G Y e o k g c t kV u hd v m x y args vals as z I J A K;obtain rfl:t= .none:=Dflts.none m s;obtain rfl:kV= .none:=Dflts.noKw m;obtain⟨a,vs,h,rfl,rfl,B,C,D⟩:=Zb p z A;refine enter_call (ACG (call w s₀ b mg j e o k g c a vs h G Y u (fd_plain hd) v x B C D y) λr i hq=> ?_);obtain⟨rfl,h2,E,F⟩:=hq;exact⟨.inl ⟨.bool true, .bool true, [],rfl,λ_=>rfl, .bool true,ZW l _,λ_=>⟨List.Pairwise.nil,λ_ H=>(nomatch H)⟩⟩,h2,E,F⟩
section
variable {prog:kj}{w:ki}{A:ke}{E:zx->zw->Prop}{s:zw}{K:Frag}
def sX (h:kf)(L d:zu):zy (zu×Obj):=(List.range h.objs.size).filterMap λa=>if a=L\/a=d then none else (h.get? a).map λo=>(a,o)
end
end Att
namespace L2
open PySem PySem.Spec PyProof.Rows
theorem Qa:∀{vs:zy zx} {a:zy Int},IntsAre vs a->Aq (a.map V.int) vs
 | _,_, .nil=> .nil
 | _,_, .cons n t h=> .cons ⟨t,rfl⟩ (Qa h)
def jb (H:Hp):Prop:=∀b,H b=none\/∃o xs,H b=some (.frz o (.lst xs))
def bX {P:kj}{w:ki}{K:AAB}{mg t:Str->zt zx}{CX:YU}{k:Nat}{y a:zu}{C:FuncData}{x:Str}{sp:Sp}{c:zw}{vs:zy zx}{j:zy Int}(D:K.In c.heap)(E:c.heap.Ns mainGlobals mg)(hb:c.heap.Ns builtinsNs t)(M:∀x:Str,x≠"__name__" ->t x=bootBuiltins x)(N:c.heap.NoLimit)(O:c.gens= #[])(ha:c.heap.get? a=some {cls:= .type "list",data:= .seq vs.toArray})(hi:IntsAre vs j)(hl:j.length<=sizeLine)(Q:Room k callerA)(F:∀base:kf,K.In base->base.Ns mainGlobals mg->Em P w K mg base CX k y C [x] sp)(R:∀(s:zw) (u:zx),BindsTo s C ⟨[u], []⟩ [(x,u)])(S:∀H:Hp,jb H->E8 K H a (j.map V.int)->sp [.ref a] H (λv _=>v= .bl true) λ_ _ _=>False)(T:∀H e g,CX [] H c (λ_ _ _=>False) e g->False):codeAny (model P w) callerA (.call (.ref y) ⟨[.ref a], []⟩) (λr g=>r= .ok (.ret (.bool true))/\OldK c.heap g.heap/\g.os=c.os/\AllBare g.gens) c:=by
 have rv:=Qa hi;have l:=hi.length;have core:∀H:Hp,jb H->E8 K H a (j.map V.int)->Ij P w H c.heap->(∀b,H b≠none->b=a)->(H a≠none->K.lookup a=none)->
  codeAny (model P w) callerA (.call (.ref y) ⟨[.ref a], []⟩) (λr g=>r= .ok (.ret (.bool true))/\OldK c.heap g.heap/\g.os=c.os/\AllBare g.gens) c:=by
  intro H G U hok I W;have f:∀{b:zu} {o:Obj},c.heap.get? b=some o->H b=none->(RE c.heap H).get? b=some o:=λe n=>bJ e n;have A:∀{b:zu} {o:Obj} {es:Array DictEntry} {ep:Nat},c.heap.get? b=some o->o.data= .dict es ep->H b=none:=λ{b o es ep} e d=>by
   cases q:H b with
   | none=>rfl
   | some u=> have B:b=a:=I b (by rw[q];simp);subst B;rw[ha] at e;cases e;have d':Data.seq vs.toArray _=Data.dict es ep:=d;cases d'
  have i:∀{b:zu} {m:Str->zt zx},c.heap.Ns b m->(RE c.heap H).Ns b m:=λ{b m} ⟨o,es,ep,e,d,r⟩=>⟨o,es,ep,f e (A e d),d,r⟩;have J:K.In (RE c.heap H):=λb o e=>f (D b o e) (by
   cases q:H b with
   | none=>rfl
   | some u=>
     have B:b=a:=I b (by rw[q];simp);subst B;rw[W (by rw[q];simp)] at e;cases e)
  have X:Mod K mg (RE c.heap H):=⟨J,i E,⟨t,i hb,M⟩,let ⟨Y,h1,h2⟩:=N;⟨Y,i h1,h2⟩⟩;have Z:O8 P w K mg (RE c.heap H) callerA [] c H:=⟨rfl,X,λb o e=>gL e,Nat.le_of_eq (Y5 _ _),trivial,λb hb=>absurd (show b∈([] :zy zu) from hb) (by simp),hok, .of_eq O⟩;refine ACG ((F _ J (i E)).run callerA [] c H ⟨[.ref a], []⟩ [.ref a] [.ref a] _ _ Q Z (R c (.ref a)) (.cons rfl .nil) (S H G U)) λr g h=> ?_;cases r with
  | error e=>exact(T H e g h).elim
  | ok fl=>
    cases fl with
    | next=>exact False.elim h
    | brk=>exact False.elim h
    | cont=>exact False.elim h
    | ret u=>
      obtain⟨v,H',os,bare,un,sE,r',q⟩:=h;have q':v= .bl true:=q;subst q';obtain rfl:u=Value.bool true:=r';refine⟨rfl,OldK.of_keep λb o e=> ?_,os,bare⟩;cases q:H b with
      | none=>exact un.keep b o e q (by intro z;exact absurd (show b∈([] :zy zu) from z) (by simp)) (by simp)
      | some u=>
        rcases G b with z|⟨ob,xs,z⟩
        .rw [q] at z;cases z
        .have z2:=un.frzs b ob _ z;obtain⟨L,_⟩:=hok b _ z;obtain⟨e2,_⟩:=sE b _ z2;rw[e] at L;cases L;exact e2
 cases hk:K.lookup a with
 | some o=> have e:=D a o hk;rw[ha] at e;cases e;refine core (λ_=>none) (λ_=> .inl rfl) (.inr ⟨_,vs.toArray,_,hk,rfl,rfl,rfl,by rw[AAV,l];exact hl,by simpa using rv⟩) (λb u z=>by have p:(none:zt HO)=some u:=z;cases p) (λb z=>absurd rfl z) λz=>absurd rfl z
 | none=>
   refine core (λb=>if b=a then some (.frz {cls:= .type "list",data:= .seq vs.toArray} (.lst (j.map V.int))) else none) (λb=> ?_) (.inl (.inr ⟨{cls:= .type "list",data:= .seq vs.toArray},AAE rfl⟩)) (λb u z=> ?_) (λb z=> ?_) λ_=>hk
   .by_cases hb:b=a
    .exact .inr ⟨_,_,AAE hb⟩
    .exact .inl (AAD hb)
   .by_cases hb:b=a
    .have p:=(AAE hb).symm.trans z;cases p;subst hb;exact⟨ha,by rw[AAI];exact hl,vs,_,rv,ha⟩
    .have p:=(AAD hb).symm.trans z;cases p
   .by_cases hb:b=a
    .exact hb
    .exact absurd (AAD hb) z
abbrev zQ {K:AAB}{h:kf}(_:K.In h):AAB:=K
def walk_of {l:PySem.W.OpenLaw}{n k:Nat}{q:kj}{loose:zy Str}{XP:(Str->zt zx)->kf->Prop}{YP:ki->kf->Prop}{d:DefRec}{K:Params->AAB}{CX:ki->YU}{sp:ki->Sp}{x:Str}(y:l.most=some n)(z:n<=sizeLine)(A:d.params.defaults= [])(B:Room k callerA)(C:∀(w:ki) (h:kf),YP w h->(K w.params).In h)(F:∀(w:ki) (mg:Str->zt zx) (i:zu) (h:kf),(K w.params).In h->h.Ns mainGlobals mg->mg d.name=some (.ref i)-> ∃m:FuncData,(∀(s:zw) (u:zx),BindsTo s m ⟨[u], []⟩ [(x,u)])/\ ∀base:kf,(K w.params).In base->base.Ns mainGlobals mg->Em l.prog w (K w.params) mg base (CX w) k i m [x] (sp w))(D:∀(w:ki) (H:Hp) (a:zu) (j:zy Int),j.length<=n->jb H->E8 (K w.params) H a (j.map V.int)->sp w [.ref a] H (λv _=>v= .bl true) λ_ _ _=>False)(E:∀(w:ki) (H:Hp) (s:zw) (e:zx) (p:zw),CX w [] H s (λ_ _ _=>False) e p->False):PySem.W.WalkO q loose XP YP l.row.toRowW d [] (λf vs=>PySem.call f vs):=by refine Att.attach_call y A λw s₀ c mg Q i o R S I a vs j G Y U hd X J L M r N=> ?_;have t:=C w _ Y;obtain⟨m,hb,hF⟩:=F w mg i _ t G.T.g J;exact bX t G.T.g G.T.b G.T.builtins G.T.nolimit N L M (AAf r z) B hF hb (λH O P=>D w H a j r O P) λH e p=>E w H c e p
abbrev Sy:YU:=λ_ _ _ _ _ _=>False
abbrev E0:XK:=λ_ _ _=>False
def oz {X:Cx}:Passes Sy X E0:=λ_ _ _ _ _ _ _ h=>h.elim
structure VH (K:AAB) (x qual:Str) (st:Stmt) (f:Addr) (fd:FuncData):Prop where
 ex:∃(oc:Value) (od:Option Addr) (kV doc pm:Value) (an:Option Addr) (cdv ct:Value) (osl:Array (Option Value)),
  fd=PySem.W.fnOf x qual (F8 st) (EB st) (BO st) .none kV doc pm an cdv ct/\K.lookup f=some ⟨oc,od, .func fd,osl⟩/\PySem.W.codeIn K cdv qual=true
 kp:PySem.W.keepIn K (.ref f)=true
section
variable {P:kj}{w:ki}{K:AAB}{mg:Str->zt zx}{base:kf}
def VH.ok {x qual:Str}{st:Stmt}{f:zu}{c:FuncData}{N b:zy Str}{k:Nat}{sp:Sp}(F:VH K x qual st f c)(S:EO N b (BO st))(len:∀vs H Q E,sp vs H Q E->vs.length=b.length)(d:∀(a:zx) (A:ke) (outer:zy Env) (s:zw) (H:Hp) (vs:zy V) (Q:VK) (E:XK),Room k (A.deeper (envOfC qual (BO st) s.heap.objs.size f a))->sp vs H Q E-> ∃t,Uw (TK Sy P w K mg base N qual (BO st) f a A outer s H E).nox (EB st) t/\t {nx:=λ_ e=>Q .non e,rt:=Q} (start N vs) H):Em P w K mg base Sy (k+1) f c b sp:=by obtain⟨o,p,kV,g,r,u,a,ct,i,rfl,j,l⟩:=F.ex;refine ng j l S len λA outer s H vs Q E m n=> ?_;obtain⟨t,h,q⟩:=d a A outer s H vs Q E m n;exact⟨t,h.nox,q⟩
def VH.binds {x qual:Str}{st:Stmt}{f:zu}{g:FuncData}{c:zy Str}(F:VH K x qual st f g)(h:∀(kV a d:zx) (e:zt zu) (b ct:zx) (us:zy zx),us.length=c.length->bindArgs (PySem.W.fnOf x qual (F8 st) (EB st) (BO st) .none kV a d e b ct) ⟨us, []⟩=pure (c.zip us)):Binds K g c [] :=by obtain⟨j,k,kV,a,d,e,b,ct,i,rfl,l,m⟩:=F.ex;exact .all (h kV a d e b ct)
def ax {x qual:Str}{st:Stmt}{f:zu}{h:zx}{i e:zt zu}{d:Array (zt zx)}{kV b g a ct:zx}(l:K.lookup f=some ⟨h,i, .func (PySem.W.fnOf x qual (F8 st) (EB st) (BO st) .none kV b g e a ct),d⟩)(c:PySem.W.codeIn K a qual=true)(k:PySem.W.keepIn K (.ref f)=true):VH K x qual st f (PySem.W.fnOf x qual (F8 st) (EB st) (BO st) .none kV b g e a ct):=⟨⟨h,i,kV,b,g,e,a,ct,d,rfl,l,c⟩,k⟩
end
section
variable {X:Cx}
def pv (i:Nat){x:Str}{a:Pos}(hN:X.N[i]? =some x:=by rfl)(hv:jh X.env.scope x:=by first | exact Or.inl rfl|exact Or.inr (Or.inl rfl)|exact Or.inr (Or.inr rfl))(hd:(x==("__debug__" :Str))=false:=by decide)(b:(x==("__classdict__" :Str))=false:=by decide):PE X (.Name x a) (DS i):=Ri hN hv hd b
end
def oR {c A B:Prop}[Decidable c](h1:c->A)(h2:¬c->B):if c then A else B:=by
 by_cases h:c
 .rw [AAE h];exact h1 h
 .rw [AAD h];exact h2 h
def S5 (H a:Hp):Prop:=∀b o,H b=some o->a b=some o
def S5.free {H a:Hp}(e:S5 H a){l:zu}(h:a l=Option.none):H l=Option.none:=by
 cases q:H l with
 | none=>rfl
 | some o=> rw[e l o q] at h;cases h
def S5.seq {K:AAB}{H b:Hp}{a:zu}{xs:zy V}(e:S5 H b)(h:E8 K H a xs):E8 K b a xs:=by
 rcases h with(h|⟨o,h⟩)|h
 .exact .inl (.inl (e _ _ h))
 .exact .inl (.inr ⟨o,e _ _ h⟩)
 .exact .inr h
theorem HD {c d:Type}[BEq c][LawfulBEq c]{k:c}{a:d}:∀{l:zy (c×d)},l.lookup k=some a->(k,a)∈l
 | [],h=>by simp at h
 | (n,b)::r,h=>by
   rw[List.lookup_cons] at h;cases e:k==n with
   | true=>
     rw[e] at h;have f:k=n:=by simpa using e
     have hb:b=a:=by simpa using h
     subst f hb;exact ABj
   | false=> rw[e] at h;exact ABL _ (HD h)
theorem QN {c d:Type}[BEq c][LawfulBEq c]{k:c}{a:d}:∀{l:zy (c×d)},(k,a)∈l->∃b,l.lookup k=some b
 | [],h=>nomatch h
 | (n,b)::r,h=>by
   rw[List.lookup_cons];cases e:k==n with
   | true=>exact⟨b,rfl⟩
   | false=>
     rcases AAF.mp h with z|z
     .have:k=n:=congrArg Prod.fst z;rw[this] at e;simp at e
     .exact QN z
theorem HB {env:Env}{F:Str×NameKind->zy (Str×zu)->Sem (ForInStep (zy (Str×zu)))}(h1:∀n r c,env.cells.lookup n=some c->F (n, .free) r=pure (.yield ((n,c)::r)))(h2:∀n k r,k≠NameKind.free->F (n,k) r=pure (.yield r)):∀(names:zy (Str×NameKind)) (f:zy (Str×zu)),(∀x∈names,x.2= .free->∃c,env.cells.lookup x.1=some c)-> ∃cl,(forIn names f F:Sem _)=pure cl/\(∀p∈cl,p∈f\/env.cells.lookup p.1=some p.2)/\(∀p∈f,p∈cl)/\∀x∈names,x.2= .free->∃c,(x.1,c)∈cl
 | [],f,_=>⟨f,rfl,λp hp=> .inl hp,λp hp=>hp,λx hx=>nomatch hx⟩
 | (n,k)::r,f,h=>by
   by_cases hk:k= .free
   .subst hk;obtain⟨c,hc⟩:=h (n, .free) ABj rfl;obtain⟨cl,e,a,b,d⟩:=HB h1 h2 r ((n,c)::f) (λx hx=>h x (ABL _ hx));refine⟨cl, ?_,λp hp=> ?_,λp hp=>b p (ABL _ hp),λx hx g=> ?_⟩
    .rw [ACo,h1 n f c hc];exact e
    .rcases a p hp with z|z
     .rcases AAF.mp z with z|z
      .subst z;exact .inr hc
      .exact .inl z
     .exact .inr z
    .rcases AAF.mp hx with z|z
     .subst z;exact⟨c,b _ ABj⟩
     .exact d x z g
   .obtain ⟨cl,e,a,b,d⟩:=HB h1 h2 r f (λx hx=>h x (ABL _ hx));refine⟨cl, ?_,a,b,λx hx g=> ?_⟩
    .rw [ACo,h2 n k f hk];exact e
    .rcases AAF.mp hx with z|z
     .subst z;exact absurd g hk
     .exact d x z g
def F6 {env:Env}{scope:Scope}(h:∀x∈scope.names,x.2= .free->∃c,env.cells.lookup x.1=some c):∃cl,closureFor scope env=pure cl/\(∀y c,cl.lookup y=some c->env.cells.lookup y=some c)/\∀y,(y,NameKind.free)∈scope.names->∃c,cl.lookup y=some c:=by
 obtain⟨cl,e,a,_,d⟩:=HB (env:=env) (F:=λx cs=>match x with | (name,kind)=>if (kind==NameKind.free)=true then do let a <-cellOf env name;pure (ForInStep.yield ((name,a)::cs)) else pure (ForInStep.yield cs))
  (λn r c hc=>by
    show (do let a <-cellOf env n;pure (ForInStep.yield ((n,a)::r)):Sem _)=_;unfold cellOf;rw[hc];rfl)
  (λn k r hk=>by
    have:(k==NameKind.free)=false:=by simpa using hk
    simp[this]) scope.names [] h
 refine⟨cl, ?_,λy c q=> ?_,λy hy=> ?_⟩
 .unfold closureFor;have b:(forIn scope.names ([] :zy (Str×zu)) λx cs=>match x with | (name,kind)=>if (kind==NameKind.free)=true then do let a <-cellOf env name;pure (ForInStep.yield ((name,a)::cs)) else pure (ForInStep.yield cs):Sem _) >>= (λr=>pure r)=pure cl:=by rw[e];rfl
  exact b
 .rcases a _ (HD q) with z|z
  .exact nomatch z
  .exact z
 .obtain ⟨c,hc⟩:=d (y, .free) hy rfl;exact QN hc
def FM (env:Env)(sc:Scope)(cl:zy (Str×zu))(C:zu):Env:=
 {scope:=sc,locals:=C,globals:=env.globals,cells:=cl,qual:=env.qual,func:=none,code:=env.code,frame:=env.frame,builtins:=env.builtins}
def blk (X:Cx)(sc:Scope)(N:zy Str)(cl:zy (Str×zu))(C:zu)(s:zw)(H:Hp)(ex:zy zu)(pn:zy (zu×Obj)):Cx where
 prog:=X.prog
 w:=X.w
 K:=X.K
 mg:=X.mg
 base:=X.base
 A:=X.A
 N:=N
 s₀:=s
 H₀:=H
 env:=FM X.env sc cl C
 outer:=X.stack
 stack:=X.stack
 ex:=ex
 fn:=λ_=>false
 calm:=X.calm
 pn:=pn
 xe:=λ_ _=>False
section
variable {X:Cx}{kd:zy (zu×Obj)}{σ:St}{H:Hp}{s:zw}{fp:zy zu}{sc:Scope}{N:zy Str}{cl:zy (Str×zu)}
def Inv.notStk (I:Inv X kd σ H s){b:zu}(h1:b≠X.env.locals)(h2:b ∉ X.fs):b ∉ Zv X.stack:=λz=>by
 rcases AAF.mp (I.stkSub b z) with e|e
 .exact h1 e
 .exact h2 e
def Inv.szLt (I:Inv X kd σ H s){x:Str}{c:zu}(e:X.env.cells.lookup x=some c):c<s.heap.objs.size:=by obtain⟨v,q⟩:=I.cell x c e;exact q.lt
def jr (I:Inv X kd σ H s)(d:∀b∈fp,EQ X kd H b)(f:∀b∈fp,b<s.heap.objs.size)(hk:sc.kind= .function)(h1:∀y c,cl.lookup y=some c->X.env.cells.lookup y=some c)(h2:∀y,(sc.names.lookup y=some .cell\/sc.names.lookup y=some .free)->∃c,cl.lookup y=some c):(blk X sc N cl s.heap.objs.size s H fp (X.pn++kd)).Ok where
 mod:=I.ok.mod
 kind:=hk
 glob:=I.ok.glob
 blt:=I.ok.blt
 above:=AAJ _
 inj:=λx y c a b=>I.ok.inj x y c (h1 x c a) (h1 y c b)
 has:=λx hx=>h2 x hx
 cab:=λx c z=>nomatch z
 hd:=I.ok.hd
 frames:=I.ok.frames
 stk:= .inl rfl
 exf:=λb hb=>⟨AAL (f b hb),λx c e=>(d b hb).2.2.2.2.1 x c (h1 x c e)⟩
 bs:=I.bs
 bsz:=AAf I.ok.bsz I.sz
 noex:=λb o e hb=>by
  rcases (d b hb).2.2.2.1 with z|z
  .exact I.ok.noex b o e z
  .exact absurd (AAX (AAG (I.ok.bs b o e).1) z) (ABC _)
 exfs:=λb hb=>I.notStk (d b hb).2.1 (d b hb).2.2.1
 funs:=I.stack
 frf:=I.stkFree
def Bq (own:Nat)(ix:zy Nat)(σ:St):St:=List.replicate own none++ix.map λi=>(σ[i]?).getD none
def P3 {own:Nat}{ix:zy Nat}{σ:St}:(Bq own ix σ).length=own+ix.length:=by simp[Bq]
def F3 {own:Nat}{ix:zy Nat}{σ:St}{j:Nat}{v:V}(h:(Bq own ix σ)[j]? =some (some v)):own<=j/\∃i,ix[j-own]? =some i/\σ[i]? =some (some v):=by
 unfold Bq at h;by_cases hj:j<own
 .rw [ABM (by simpa using hj),ABV] at h;simp[hj] at h
 .have Zz:own<=j:=by omega
  rw[ABD (by simpa using Zz),ABN,AAp] at h;refine⟨Zz, ?_⟩;cases e:ix[j-own]? with
  | none=>rw[e] at h;simp at h
  | some i=>
    rw[e] at h;refine⟨i,rfl, ?_⟩;have h':(σ[i]?).getD none=some v:=by simpa using h
    cases a:σ[i]? with
    | none=>rw[a] at h';simp at h'
    | some o=>
      rw[a] at h';have:o=some v:=by simpa using h'
      rw[this]
structure W8 (X:Cx) (sc:Scope) (own:Nat) (ix:List Nat) (N:List Str):Prop where
 len:N.length=own+ix.length
 out:∀j i,ix[j]? =some i->∃x,N[own+j]? =some x/\X.N[i]? =some x/\X.env.scope.names.lookup x=some .cell/\sc.names.lookup x=some .cell
def VT {own:Nat}{ix:zy Nat}{h':kf}{m:Str->zt zx}{t':Nat}(I:Inv X kd σ H s)(B:∀b∈fp,EQ X kd H b)(C:∀b∈fp,b<s.heap.objs.size)(hk:sc.kind= .function)(h1:∀y c,cl.lookup y=some c->X.env.cells.lookup y=some c)(h2:∀y,(sc.names.lookup y=some .cell\/sc.names.lookup y=some .free)->∃c,cl.lookup y=some c)(F:W8 X sc own ix N)(D:h'.Ns s.heap.objs.size m)(k:∀b o,s.heap.get? b=some o->h'.get? b=some o):Inv (blk X sc N cl s.heap.objs.size s H fp (X.pn++kd)) [] (Bq own ix σ) H {s with heap:=h',toks:=t'} where
 ok:=jr I B C hk h1 h2
 os:=rfl
 bare:=I.bare
 base:=Un.kept k
 loc:=by
  refine⟨m,D,λi x v E G R=> ?_⟩;obtain⟨Zz,J,K,es⟩:=F3 G;obtain⟨y,n,L,t,w⟩:=F.out _ _ K;have g:x=y:=by have h:N[i]? =some x:=E;rw[show own+(i-own)=i by omega,h] at n;exact AAY n
  subst g;obtain⟨m0,S,M⟩:=I.loc;obtain⟨u,r,l⟩:=M J x v L es (.inr (.inl t));refine⟨u,r, ?_⟩;rcases l with⟨z,_⟩|⟨_,c,O,z⟩
  .have A:X.env.scope.names.lookup x=some .local:=z;rw[t] at A;cases A
  .obtain ⟨P,f⟩:=h2 x (.inl w);have:=h1 x P f;rw[O] at this;cases this;obtain⟨o,j,hd⟩:=z;exact .inr ⟨.inl w,c,f,o,k c o j,hd⟩
 cell:=λx c e=>by obtain⟨v,o,j,hd⟩:=I.cell x c (h1 x c e);exact⟨v,o,k c o j,hd⟩
 free:=I.hok.fresh (AAJ _)
 freeC:=λx c e=>I.freeC x c (h1 x c e)
 pin:=λp hp=>by
  have Q:p∈X.pn++kd:=by simpa[blk] using hp
  obtain⟨a,b,c,d,e⟩:=I.pin p Q;exact⟨k _ _ a,b,AAL (AAG a),I.notStk c d,e⟩
 hok:=I.hok.kept k
 len:=by rw[P3];exact F.len.symm
def Qu {own:Nat}{ix:zy Nat}{σ':St}{d:Hp}{e:zw}{a:zy (zu×Obj)}(I:Inv X kd σ H s)(c:∀b∈fp,EQ X kd H b)(f:∀b∈fp,b<s.heap.objs.size)(B:Inv (blk X sc N cl s.heap.objs.size s H fp (X.pn++kd)) a σ' d e):Inv X kd σ d e:=
 I.call' (ch:=fp) B.os B.base B.hok B.bare λb hb=>⟨(c b hb).2.2.2.1,(c b hb).2.1,(c b hb).2.2.2.2.1,(c b hb).2.2.2.2.2⟩
def Na {d:Hp}{σ':St}{a:zw}{C:zu}{h':kf}(I:Inv X kd σ H s)(f:C=s.heap.objs.size)(g:Inv X kd σ' d a)(h:d C=none)(hs:Heap.SameBut C a.heap h'):Inv X kd σ' d {a with heap:=h'}:=by subst f;refine g.turned (t':=a.toks) (it:=s.heap.objs.size) (λb o hb e=>(hs.2 b hb).trans e) h (AAv I.lt) (.inr I.sz) (λx c e=>AAL (I.szLt e)) λp hp=>AAL (AAG (I.pin p hp).1)
end
def Yf (X:Cx)(a:zy zr)(t:TT):Prop:=
 ∀(kd:zy (zu×Obj)) (s:zw) (b:St) (H:Hp) (Q:km->Hp->Prop),Inv X kd b H s->t b H Q->
  wpAny (model X.prog X.w) X.A (forIn a true λc r=>if r=true then do let ok <-isTrue c X.env (eval c X.env);pure (ForInStep.yield ok) else pure (ForInStep.yield r)) (TP X kd b Q) X.xe s
def iP:TT:=λ_ H Q=>Q true H
def Xw {X:Cx}:Yf X [] iP:=λ_ _ _ H _ I h=>wpAny_tests_nil ⟨H,I,h⟩
def gb {X:Cx}{c:zr}{t:TT}(hc:PT X c t):Yf X [c] t:=λkd s a H Q I h=>wpAny_tests_one (hc kd s a H Q I h)
def IT (own:Nat)(g:TG):Prop:=∀v b H Q,g v b H Q->g v b H λa c=>Q a c/\a.length=b.length/\∀j,own<=j->a[j]? =b[j]?
def NS (own:Nat)(g:VM):Prop:=∀vs b H Q,g vs b H Q->g vs b H λa c=>Q a c/\a.length=b.length/\∀j,own<=j->a[j]? =b[j]?
def Q6 {own i:Nat}(h:i<own):IT own (Bj i):=λv a H Q q=>⟨q,by simp,λj hj=>AAb (by omega)⟩
def XZ {own:Nat}:NS own MI:=λvs a H Q q=>⟨q.1,q.2,rfl,λ_ _=>rfl⟩
def Nt {own:Nat}{t:TG}{u:VM}(h1:IT own t)(m1:∀v b H Q d,(∀a c,Q a c->d a c)->t v b H Q->t v b H d)(h2:NS own u)(m2:∀v b H Q d,(∀a c,Q a c->d a c)->u v b H Q->u v b H d):NS own (DC t u):=by intro vs b H Q q;obtain⟨v,r,e,q⟩:=q;refine⟨v,r,e,m1 _ _ _ _ _ (λa c z=> ?_) (h1 _ _ _ _ q)⟩;obtain⟨z,l,g⟩:=z;refine m2 _ _ _ _ _ (λh m f=> ?_) (h2 _ _ _ _ z);obtain⟨f,i,k⟩:=f;exact⟨f,i.trans l,λj hj=>(k j hj).trans (g j hj)⟩
def MY {i:Nat}:∀v b H Q c,(∀a d,Q a d->c a d)->Bj i v b H Q->Bj i v b H c:=λ_ _ _ _ _ m q=>m _ _ q
def Q7:∀v b H Q c,(∀a d,Q a d->c a d)->MI v b H Q->MI v b H c:=λ_ _ _ _ _ m q=>⟨q.1,m _ _ q.2⟩
def TU {t:TG}{u:VM}(m1:∀v b H Q c,(∀a d,Q a d->c a d)->t v b H Q->t v b H c)(m2:∀v b H Q c,(∀a d,Q a d->c a d)->u v b H Q->u v b H c):∀v b H Q c,(∀a d,Q a d->c a d)->DC t u v b H Q->DC t u v b H c:=λ_ _ _ _ _ m ⟨v,r,e,q⟩=>⟨v,r,e,m1 _ _ _ _ _ (λ_ _ z=>m2 _ _ _ _ _ m z) q⟩
def Nb (J:It)(D:zu)(σ0:St)(g:TG)(f:TT)(te:TE)(Q:Hp->Prop)(W:Nat->Nat->Hp->Prop):Prop:=
 ∀i m H,W i m H->(J.stop i H/\Q H)\/(J.go i H/\∀x c,J.yld i H x c->g x σ0 c λa h=>f a h λok d=>
  if ok=true then te a d λy e=>∃ys,e D=some (.lst ys)/\ys.length<sizeLine/\∃b,b<m/\W (i+1) b (upd e D (.lst (ys ++ [y]))) else ∃b,b<m/\W (i+1) b d)
def de (b:TI)(own:Nat)(ix:zy Nat)(g:TG)(c:TT)(te:TE):TE:=λa H Q=>b a H λJ H1=>∀D,H1 D=none->
 ∃W:Nat->Nat->Hp->Prop,(∃m,W 0 m (upd H1 D (.lst [])))/\Nb J D (Bq own ix a) g c te (Q (.ref D)) W
section
variable {X:Cx}{tg elt iter:zr}{ifs:zy zr}{scope:Scope}{pos:Pos}{wi:TI}{own:Nat}{ix:zy Nat}{N:zy Str}{g:TG}{tt:TT}{te:TE}
structure Fy (X:Cx) (tg elt:Expr) (ifs:List Expr) (scope:Scope) (own:Nat) (ix:List Nat) (N:List Str) (g:TG) (tt:TT) (te:TE):Prop where
 kind:scope.kind= .function
 nocell:∀y∈scope.names,y.2≠ .cell
 names:∀y∈scope.names,y.2= .local->scope.names.lookup y.1=some .local
 frees:∀y∈scope.names,y.2= .free->X.env.scope.names.lookup y.1=some .cell
 ins:W8 X (relabel scope X.env) own ix N
 keep:IT own g
 tgt:∀cl C s H ex pn,PG (blk X (relabel scope X.env) N cl C s H ex pn) tg g
 tst:∀cl C s H ex pn,Yf (blk X (relabel scope X.env) N cl C s H ex pn) ifs tt
 val:∀cl C s H ex pn,PE (blk X (relabel scope X.env) N cl C s H ex pn) elt te
def Df {env:Env}{y:Str}{k:NameKind}(c:∀y∈scope.names,y.2≠ .cell)(h:(y,k)∈(relabel scope env).names)(hk:k= .cell\/k= .free):(y,NameKind.free)∈scope.names:=by
 obtain⟨⟨n,b⟩,a,e⟩:=AAM.mp (show (y,k)∈scope.names.map _ from h);dsimp only at e;split at e
 .rename_i hc;cases e;have:b= .free:=by cases b <;> simp_all
  subst this;exact a
 .cases e;rcases hk with z|z
  .subst z;exact absurd rfl (c _ a)
  .subst z;exact a
def Ys {kd:zy (zu×Obj)}{L:St}{H:Hp}{s:zw}{fp:zy zu}{cl:zy (Str×zu)}{it:zu}{tn:Nat->kf->Prop}{J:It}{D:zu}{R:Result->zw->Prop}{Qh:Hp->Prop}{W:Nat->Nat->Hp->Prop}(hc:X.calm=true)(O:Fy X tg elt ifs scope own ix N g tt te)(T:Il X.prog X.w X.K tg J fp it tn)(I:Inv X kd L H s)(hf:∀b∈fp,EQ X kd H b)(Dt:∀b∈fp,b<s.heap.objs.size)(hW:Nb J D (Bq own ix L) g tt te Qh W)(hR:∀σ' a M,Inv (blk X (relabel scope X.env) N cl s.heap.objs.size s H fp (X.pn++kd)) [] σ' a M->Qh a->R (.ok .next) M)(n:Nat)(s0:zw)(h0:∃i a,Inv (blk X (relabel scope X.env) N cl s.heap.objs.size s H fp (X.pn++kd)) [] (Bq own ix L) a s0/\tn i s0.heap/\(∀b∈fp,a b=none)/\W i n a):codeAny (model X.prog X.w) X.A (.compLoop (.ListComp elt [⟨tg,iter,ifs,0⟩] scope pos) 0 (.ref it) (.ref D) (FM X.env (relabel scope X.env) cl s.heap.objs.size)) R s0:=by
 refine ACp rfl (λn M=>∃i a,Inv (blk X (relabel scope X.env) N cl s.heap.objs.size s H fp (X.pn++kd)) [] (Bq own ix L) a M/\tn i M.heap/\(∀b∈fp,a b=none)/\W i n a) (λn s1 h1=> ?_) n h0;obtain⟨i,H1,B1,P,S,w1⟩:=h1;generalize f:blk X (relabel scope X.env) N cl s.heap.objs.size s H fp (X.pn++kd)=Y at *;have eA:Y.A=X.A:=by rw[<-f];rfl
 have U:Y.prog=X.prog:=by rw[<-f];rfl
 have Z:Y.w=X.w:=by rw[<-f];rfl
 have eK:Y.K=X.K:=by rw[<-f];rfl
 have eE:FM X.env (relabel scope X.env) cl s.heap.objs.size=Y.env:=by rw[<-f];rfl
 have eX:Y.xe=λ_ _=>False:=by rw[<-f];rfl
 have eC:Y.calm=true:=by rw[<-f];exact hc
 have hg:PG Y tg g:=by rw[<-f];exact O.tgt _ _ _ _ _ _
 have ht:Yf Y ifs tt:=by rw[<-f];exact O.tst _ _ _ _ _ _
 have hv:PE Y elt te:=by rw[<-f];exact O.val _ _ _ _ _ _
 have k:∀{a:Hp},(∀b∈fp,a b=none)->∀b∈fp,EQ Y [] a b:=λ{a} hn b hb=>by
  obtain⟨_,a1,a2,a3,a4,a5⟩:=hf b hb;refine⟨hn b hb, ?_, ?_, ?_, ?_, ?_⟩
  .rw [<-f];exact AAL (Dt b hb)
  .rw [<-f];exact I.notStk a1 a2
  .rw [<-f];exact .inl hb
  .intro x c e;exact(B1.ok.exf b (by rw[<-f];exact hb)).2 x c e
  .intro p hp;have:p∈X.pn++kd:=by rw[<-f] at hp;simpa[blk] using hp
   exact a5 p this
 rw[eE,<-eA,<-U,<-Z];show wpAny _ _ ((compTurn (.ListComp elt [⟨tg,iter,ifs,0⟩] scope pos) 0 (.ref it) (.ref D) Y.env).onRaise (λx=>do noteFrame x Y.env;theTreesLotGoes x)) _ _ s1;refine ACq ?_;rw[compTurn_list];have ff:∀{α:Type} {t:Sem α} {Q:α->zw->Prop} {E:zx->zw->Prop} {s:zw},wpAny (model Y.prog Y.w) Y.A t Q Y.xe s->wpAny (model Y.prog Y.w) Y.A t Q E s:=λh=>AA7 h (λ_ _ q=>q) λ_ _ z=>by rw[eX] at z;exact z.elim
 refine AAA (AA1 (AAA ?_));rcases hW i n H1 w1 with⟨stop,qn⟩|⟨go,step⟩
 .have zd:=λE=>T.done Y U Z eK eC i [] s1 _ H1 E B1 (k S) P stop;rw[<-U,<-Z] at zd;refine BK (zd _) λr s4 ⟨hr,I4⟩=> ?_;subst hr;exact AAC (hR _ _ _ I4 qn)
 .have zi:=λE=>T.item Y U Z eK eC i [] s1 _ H1 E B1 (k S) P go;rw[<-U,<-Z] at zi;refine BK (zi _) λr s4 ⟨u,hr,h4⟩=> ?_;subst hr;refine AAA (BK h4 λ_ s5 ⟨x,H5,I5,r5,y5,B,fr5⟩=> ?_);have I5':=I5.pinned (k fr5) (T.obj _ _ B);refine AAA (BK (ff (hg _ s5 _ H5 x u _ I5' r5 (O.keep _ _ _ _ (step x H5 y5)))) λ_ s6 ⟨l,H6,I6,q6,l6,k6⟩=> ?_);refine AAA (BK (ff (ht _ s6 l H6 _ I6 q6)) λok s7 ⟨H7,I7,q7⟩=> ?_);have back:∀{C:Hp} {F:zw} {G:Nat},Inv Y ([] ++ FQ fp s5.heap) l C F->G<n->W (i+1) G C->
   ∃m,m<n/\∃i a,Inv Y [] (Bq own ix L) a F/\tn i F.heap/\(∀b∈fp,a b=none)/\W i m a:=λ{C F G} I8 hm w8=>by
   refine⟨G,hm,i+1,C,I8.unpinned.weak l6.symm (λj v hj=> ?_),T.keep _ _ _ B λb hb o e=>(I8.pin (b,o) (AAW _ (AAW _ (CD hb e)))).1,λb hb=> ?_,w8⟩
   .rw [k6 j (F3 hj).1];exact hj
   .obtain ⟨o,e,d⟩:=T.obj _ _ B b hb;exact(I8.pin (b,o) (AAW _ (AAW _ (CD hb e)))).2.1
  cases ok with
  | false=> obtain⟨G,hm,w8⟩:=q7;exact AAC ⟨rfl,back I7 hm w8⟩
  | true=> refine AAA (AAA (BK (ff (hv _ s7 l H7 _ I7 q7)) λyv F ⟨y,C,I8,r8,ys,hD,hz,G,hm,w8⟩=> ?_));refine AAA (BK (ff (LB _ F l C (.ref D) [y] (.ref D) [yv] (λ_ H9=>H9=upd C D (.lst (ys ++ [y]))) I8 rfl (.cons r8 .nil) ⟨D,ys,y,rfl,rfl,hD,hz,rfl⟩)) λ_ s9 ⟨_,H9,I9,_,e9⟩=> ?_);subst e9;exact AAC (AAC ⟨rfl,back I9 hm w8⟩)
def TH {kd:zy (zu×Obj)}{t:St}{H:Hp}{s:zw}{use:zt (zx->Sem Unit)}{Q:zx->zw->Prop}{it:zu}{fp:zy zu}{cl:zy (Str×zu)}{tn:Nat->kf->Prop}{J:It}{Qd:zu->Hp->Prop}(hc:X.calm=true)(O:Fy X tg elt ifs scope own ix N g tt te)(T:Il X.prog X.w X.K tg J fp it tn)(I:Inv X kd t H s)(M:∀b∈fp,EQ X kd H b)(st:tn 0 s.heap)(h1:∀y c,cl.lookup y=some c->X.env.cells.lookup y=some c)(h2:∀y,(y,NameKind.free)∈scope.names->∃c,cl.lookup y=some c)(hq:∀D,H D=none->∃W:Nat->Nat->Hp->Prop,(∃m,W 0 m (upd H D (.lst [])))/\Nb J D (Bq own ix t) g tt te (Qd D) W)(P:∀D C i j,(∃m,j.heap.Ns C m)->Inv X kd t i j->(∀f u,Inv X kd f i u->∀h',Heap.SameBut C u.heap h'->Inv X kd f i {u with heap:=h'})->C≠X.env.locals->(∀x c,X.env.cells.lookup x=some c->C≠c)->Qd D i-> compPost (model X.prog X.w) X.A X.xe use Q (.ref D) C (.ok .next) j):wpAny (model X.prog X.w) X.A (newList []) (λk l=>wpAny (model X.prog X.w) X.A (newFunctionEnv scope X.env.globals cl [] X.env.qual none .none (some X.env)) (λd n=> codeAny (model X.prog X.w) X.A (.compStart (.ListComp elt [⟨tg,iter,ifs,0⟩] scope pos) 0 (.ref it) k {d with scope:=relabel scope X.env}) (compPost (model X.prog X.w) X.A X.xe use Q k d.locals) n) X.xe l) X.xe s:=by
 refine AAu ?_ (by simp[sizeOk]);have h:Inv X kd t (upd H s.heap.objs.size (.lst [])) {s with heap:=s.heap.push {cls:= .type "list",data:= .seq ([] :zy zx).toArray}}:=I.lnew (t':=s.toks) .nil (AAw _);have R:=I.fresh;obtain⟨W,⟨m0,S⟩,U⟩:=hq _ R;have Y:∀b∈fp,b<s.heap.objs.size:=λb hb=>by obtain⟨o,e,_⟩:=T.obj _ _ st b hb;exact AAG e
 have v:∀b∈fp,EQ X kd (upd H s.heap.objs.size (.lst [])) b:=λb hb=>by obtain⟨Z,ar⟩:=M b hb;exact⟨by rw[AZ (AAL (Y b hb))];exact Z,ar⟩
 generalize oJ:({s with heap:=s.heap.push {cls:= .type "list",data:= .seq ([] :zy zx).toArray}}:zw)=s3 at h;have p:tn 0 s3.heap:=T.keep _ _ _ st λb hb o e=>by rw[<-oJ];exact AAH _ e
 have E:∀b∈fp,b<s3.heap.objs.size:=λb hb=>by obtain⟨o,e,_⟩:=T.obj _ _ p b hb;exact AAG e
 refine ADa O.nocell (by intro y hy;simp at hy) (λa iy oK=> ?_) O.kind;have L:∀b o,s3.heap.get? b=some o->a.get? b=some o:=λb o e=>oK.extBut b o (AAL (AAG e)) (AAH _ e);have eI:∀y,((relabel scope X.env).names.lookup y=some .cell\/(relabel scope X.env).names.lookup y=some .free)->∃c,cl.lookup y=some c:=λy hy=>by
  rcases hy with z|z
  .exact h2 y (Df O.nocell (HD z) (.inl rfl))
  .exact h2 y (Df O.nocell (HD z) (.inr rfl))
 have B:=VT (N:=N) (t':=s3.toks+([] :zy (Str×zx)).length) h v E (sc:=relabel scope X.env) O.kind h1 eI O.ins iy L;have r:tn 0 a:=T.keep _ _ _ p λb hb o e=>L b o e;have loop:∀F:zw,F={s3 with heap:=a,toks:=s3.toks+([] :zy (Str×zx)).length}->
  codeAny (model X.prog X.w) X.A (.compLoop (.ListComp elt [⟨tg,iter,ifs,0⟩] scope pos) 0 (.ref it) (.ref s.heap.objs.size) (FM X.env (relabel scope X.env) cl s3.heap.objs.size)) (compPost (model X.prog X.w) X.A X.xe use Q (.ref s.heap.objs.size) s3.heap.objs.size) F:=by rintro F rfl;refine Ys (cl:=cl) (Qh:=Qd s.heap.objs.size) hc O T h v E U (λσ' i j G q'=> ?_) m0 _ ⟨0,_,B,r,λb hb=>(v b hb).1,S⟩;refine P _ _ i j (let ⟨m,hm,_⟩:=G.loc;⟨m,hm⟩) (Qu (own:=own) (ix:=ix) h v E G) (λf u I2 h' hs=>Na h rfl I2 G.free hs) (AAv h.lt) (λx c e=>AAv (h.szLt e)) q'
 exact codeAny_compStart_list (loop _ rfl) (T.self _ 0 _ _ _ r (loop _ rfl))
def gT (hc:X.calm=true)(hi:PI X tg iter wi)(O:Fy X tg elt ifs scope own ix N g tt te)(hs:∀x,foldedSetIterable iter X.env x=pure x:=by intro _;rfl):PE X (.ListComp elt [⟨tg,iter,ifs,0⟩] scope pos) (de wi own ix g tt te):=by intro kd s c H Q I h;obtain⟨cl,d,h1,h2⟩:=F6 (env:=X.env) (scope:=scope) λy hy e=>I.ok.has y.1 (.inl (O.frees y hy e));rw[eval_ListComp];refine ACr (use:=none) rfl hs d O.kind O.names (BK (hi kd s c H _ I h) λv t hv=>BK hv λf u i=> ?_);obtain⟨it,fp,tn,J,w,rfl,j,T,a,k,q⟩:=i;exact TH (Qd:=λD b=>Q (.ref D) b) hc O T j k a h1 h2 q λD C b l n o gone z A p=>by obtain⟨m,r⟩:=n;exact⟨m,r,λh' hs=>⟨.ref D,b,gone c l o h' hs,rfl,p⟩⟩
def Xy {i:Nat}{x:Str}{pos' b:Pos}(hc:X.calm=true)(hN:X.N.Nodup)(l:X.N[i]? =some x)(hx:Loc X.env.scope x)(hi:PI X tg iter wi)(O:Fy X tg elt ifs scope own ix N g tt te)(n:swapsWith (.ListComp elt [⟨tg,iter,ifs,0⟩] scope pos) (some (.Name x pos')) b.line X.env=pure true:=by rfl)(hs:∀x,foldedSetIterable iter X.env x=pure x:=by intro _;rfl)(o:X.fn x=true\/X.env.scope.names.lookup x=some .local:=by first | exact .inl rfl|exact .inr rfl|assumption):PS X (.Assign [.Name x pos'] (.ListComp elt [⟨tg,iter,ifs,0⟩] scope pos) b) (Pm (de wi own ix g tt te) (Bj i)):=by
 intro kd s k H D I h;obtain⟨cl,p,h1,h2⟩:=F6 (env:=X.env) (scope:=scope) λy hy e=>I.ok.has y.1 (.inl (O.frees y hy e));rw[exec_Assign_Name_used _ _ _ _ n];refine AAA (AA1 (AAA ?_));show wpAny _ _ (do let _ <-comprehension (.ListComp elt [⟨tg,iter,ifs,0⟩] scope pos) scope X.env _ (newList []) false (eval iter X.env) (some (assign (.Name x pos') X.env))) _ _ s;refine AAA (BK (ACr (use:=some (assign (.Name x pos') X.env)) (Q:=λ_ c=>SP X kd D .next c) rfl hs p O.kind O.names (BK (hi kd s k H _ I h) λv S hv=>BK hv λr U t=> ?_)) λ_ c hq=>AAC (AAC hq));obtain⟨it,fp,tn,J,W,rfl,u,T,f,w,q⟩:=t;refine TH (Qd:=λd j=>Bj i (.ref d) k j D.nx) hc O T u w f h1 h2 q λd C j c A B gone E F G=> ?_;obtain⟨m,K⟩:=A;show wpAny _ _ (assign (.Name x pos') X.env (.ref d)) _ _ c;refine ADS (La (v:= .ref d) B hN l hx rfl (λL M ⟨a,P,ha⟩=> ?_) o);have R:C≠a:=by
  rcases ha with z|z
  .rw [z];exact E
  .exact F x a z
 exact⟨m,K.sameBut P R,λh' hs=>⟨_,j,gone _ L M h' hs,G⟩⟩
end
def J8 {n k:Nat}(h:n<2^k)(hk:0<k):n.log2<k:=by
 by_cases e:n=0
 .subst e;simpa using hk
 .exact (Nat.log2_lt e).mpr h
def Hi {i:Int}{k:Nat}(h:i.natAbs<2^k):Builtin.Int.intBits i<=k:=by
 unfold Builtin.Int.intBits;by_cases e:i=0
 .subst e;simp
 .have a:(i==0)=false:=by simpa using e
  rw[a];simp only[AAn,AAZ];have b:i.natAbs≠0:=by omega
  have:=(Nat.log2_lt b).mpr h;omega
section
variable {X:Cx}
def qo (i j:Int):Prop:=i.natAbs<2^8000/\j.natAbs<2^8000
def nG (i j:Int):Prop:=NH i j\/qo i j
def Hr:EZ X (binaryOp .Mult) (rI nG λi j=> .int (i*j)):=lB λ_ _ _ _ _ _ _ hc q=>mul_int q (by
 rcases hc with z|z
 .exact z.ok
 .exact .of_le (Hi z.1) (Hi z.2) (by decide))
def nF (_ j:Int):Prop:=0<j/\j.natAbs<2^8000
def cC:EZ X (binaryOp .FloorDiv) (rI nF λi j=> .int (i/j)):=lB λi j _ _ _ _ _ hc q=>by have h1:(0:Int)<j:=hc.1;refine floordiv_int (by omega) ?_ (.inl (ADu (ACs (J8 hc.2 (by decide)) (by decide))));rw[ABZ _ (Int.le_of_lt h1)];exact q
inductive Kd where
 | int|bl|non|str|lst|tup
 deriving DecidableEq
def ZC:Kd->String->km
 | .int,T=>T == "int"
 | .bl,T=>T == "bool" || T == "int"
 | .non,_=>false
 | .str,_=>false
 | .lst,T=>T == "list"
 | .tup,T=>T == "tuple"
def ZX (bs:zy km):(List.range bs.length).all (λi=>bs.getD i true)=bs.all id:=by
 rw[AA2,AB1,AB1];constructor
 .intro h b hb;obtain⟨i,hi,e⟩:=List.mem_iff_getElem.mp hb;have:=h i (ABv.mpr hi);rw[ACK,AAT hi] at this;subst e;simpa using this
 .intro h i hi;have a:=ABv.mp hi;rw[ACK,AAT a];simpa using h _ (ABa a)
def ZY (bs:zy km):(List.range bs.length).any (λi=>bs.getD i true)=bs.any id:=by
 rw[AA2,AAk,AAk];constructor
 .rintro ⟨i,hi,h⟩;have a:=ABv.mp hi;rw[ACK,AAT a] at h;exact⟨_,ABa a,by simpa using h⟩
 .rintro ⟨b,hb,h⟩;obtain⟨i,hi,e⟩:=List.mem_iff_getElem.mp hb;refine⟨i,ABv.mpr hi, ?_⟩;rw[ACK,AAT hi];subst e;simpa using h
def Inv.walked {kd:zy (zu×Obj)}{g:St}{H:Hp}{s c:zw}{o:Obj}(I:Inv X kd g H s)(m:Moved [s.heap.objs.size] (λa b=>b=a) {s with heap:=s.heap.push o} c):Inv X kd g H c:=by
 obtain⟨h',g',d',t',h⟩:=c;obtain⟨hk,d,hd,f,_⟩:=m;have i:∀b u,s.heap.get? b=some u->h'.get? b=some u:=λb u e=>hk b u (by
  intro z;have j:b=s.heap.objs.size:=by simpa using z
  exact absurd (AAG e) (by rw[j];exact ABC _)) (AAH _ e)
 have d:g'=s.gens:=d;have hd:d'=s.drawn:=hd;have f:h=s.os:=f;subst d hd f;exact I.kept (t':=t') i
def Ur {bs:zy km}{a:zy zx}{A:ke}(r:Aq (bs.map V.bl) a):TruthOf X.prog X.w A (λi v=>a.toArray[i]? =some v) (λi=>bs.getD i true):=by
 intro i v s Q E hv hQ;have c:a[i]? =some v:=by simpa using hv
 cases e:(bs.map V.bl)[i]? with
 | none=>rw[r.none_of e] at c;cases c
 | some x=>
   obtain⟨u,hu,f⟩:=r.get e;rw[c] at hu;cases hu;rw[AAp] at e;cases d:bs[i]? with
   | none=>rw[d] at e;cases e
   | some b=>
     rw[d] at e;cases e;cases f
     replace hQ:Q (bs.getD i true) s:=hQ
     rw[ACK,d] at hQ;unfold truthy;exact AAC hQ
def WP (K:AAB)(f:zy km->km):zy V->Hp->VK->Prop:=λxs H Q=>∃p bs,xs= [.ref p] /\E8 K H p (bs.map V.bl)/\Q (.bl (f bs)) H
def Ym (hc:X.calm=true):Cr X (.builtin "all") (WP X.K λbs=>bs.all id):=by
 intro kd s k H xs us Q I r h;obtain⟨p,bs,rfl,hq,q⟩:=h;obtain⟨u,rfl,e⟩:=vals1 r;cases e;obtain⟨a,b,c,hz⟩:=I.list hq;obtain⟨ol,d,f⟩:=id c.isList;have g:p≠s.heap.objs.size:=AAL (AAG d);have j:a.toArray.size=bs.length:=by have:=b.length;simp at this;simp[this]
 refine call_all_walkS (ACL c.isList ?_);refine⟨_,_,_,_,_,_,_,λi=>bs.getD i true,rfl,(Walks.list (A:=X.A.in1) (show X.A.in1.handled=none from I.ok.hd hc) s.heap.objs.size p g a.toArray).toS,⟨⟨_,AAS _ rfl,rfl,rfl⟩,⟨ol,AAH _ d,f⟩⟩,Ur b,λl m=> ?_⟩;rw[j,ZX];exact⟨.bl (bs.all id),H,I.walked m,rfl,q⟩
def Yn (hc:X.calm=true):Cr X (.builtin "any") (WP X.K λbs=>bs.any id):=by
 intro kd s k H xs us Q I r h;obtain⟨p,bs,rfl,hq,q⟩:=h;obtain⟨u,rfl,e⟩:=vals1 r;cases e;obtain⟨a,b,c,hz⟩:=I.list hq;obtain⟨ol,d,f⟩:=id c.isList;have g:p≠s.heap.objs.size:=AAL (AAG d);have j:a.toArray.size=bs.length:=by have:=b.length;simp at this;simp[this]
 refine call_any_walkS (ACL c.isList ?_);refine⟨_,_,_,_,_,_,_,λi=>bs.getD i true,rfl,(Walks.list (A:=X.A.in1) (show X.A.in1.handled=none from I.ok.hd hc) s.heap.objs.size p g a.toArray).toS,⟨⟨_,AAS _ rfl,rfl,rfl⟩,⟨ol,AAH _ d,f⟩⟩,Ur b,λl m=> ?_⟩;rw[j,ZY];exact⟨.bl (bs.any id),H,I.walked m,rfl,q⟩
def ft (xs:zy V)(k:Nat)(y:V):zy V:=xs.take k++y::xs.drop k
def Aq.ins {xs:zy V}{us:zy zx}{y:V}{u:zx}(r:Aq xs us)(a:RelV y u)(k:Nat):Aq (ft xs k y) (us.take k++u::us.drop k):=Aq.append (r.take k) (.cons a (r.drop k))
def Rm:V->zy V->Hp->VK->Prop:=λx vs H Q=>∃l xs i y,x= .ref l/\vs= [.int i,y] /\H l=some (.lst xs)/\0<=i/\i<=(xs.length:Int)/\xs.length<sizeLine/\Q .non (upd H l (.lst (ft xs i.toNat y)))
def ZK:nL X "list.insert" Rm:=by
 intro kd s o H x vs v us Q I f rv h;obtain⟨l,xs,i,y,rfl,rfl,c,h0,h1,hz,q⟩:=h;cases f;cases rv with
 | cons g b=>
 cases b with
 | cons j b=>
 cases b;rename_i d;obtain⟨t,rfl⟩:=g;obtain⟨z,a,n,r,hl,e⟩:=I.lstM c;have p:=K6;have m:¬(!Builtin.List.listFitsIndex i)=true:=by have:=fitsIndex_both (k:=i) (by omega) (by omega);simp[this]
 refine call_meets F.slot_list_insert ⟨_,e,rfl⟩ F.entry_list_insert (F.args_list_insert_3 _ _ _) (AutoSeq1.list_insert_list_int_val_1 l a.toArray n i t d m (by rw[AAV];omega)) ⟨e, ?_⟩;refine⟨.non,_,I.lset (ys:=ft xs i.toNat y) (its':=a.take i.toNat++d::a.drop i.toNat) c e ?_ (r.ins j _) ?_,rfl,q⟩
 .dsimp only;rw[AAD (by omega),AAV,Nat.min_eq_left (by omega)];apply Array.toList_inj.mp;simp;exact ABb (by simp)
 .unfold ft;simp;omega
end
def O9:km->kf->zu->zu->Nat->Prop
 | true,h,q,l,k=>h.IsListIter q l k
 | false,h,q,l,k=>h.IsTupleIter q l k
def MX:km->kf->zu->Array zx->Prop
 | true,h,l,xs=>h.IsList l xs
 | false,h,l,xs=>h.IsTuple l xs
def O9.mv {b:km}{h h':kf}{q l:zu}{k:Nat}(x:O9 b h q l k)(e:∀o,h.get? q=some o->h'.get? q=some o):O9 b h' q l k:=by
 cases b with
 | true=>obtain⟨o,a,r⟩:=x;exact⟨o,e o a,r⟩
 | false=>obtain⟨o,a,r⟩:=x;exact⟨o,e o a,r⟩
def O9.obj {b:km}{h:kf}{q l:zu}{k:Nat}(x:O9 b h q l k):∃o,h.get? q=some o/\∀v,o.data≠ .cell v:=by
 cases b with
 | true=> obtain⟨o,a,_,d⟩:=x;exact⟨o,a,λv z=>by rw[d] at z;cases z⟩
 | false=> obtain⟨o,a,_,d⟩:=x;exact⟨o,a,λv z=>by rw[d] at z;cases z⟩
def MX.mv {b:km}{h h':kf}{l:zu}{xs:Array zx}(x:MX b h l xs)(e:∀o,h.get? l=some o->h'.get? l=some o):MX b h' l xs:=by
 cases b with
 | true=>obtain⟨o,a,r⟩:=x;exact⟨o,e o a,r⟩
 | false=>obtain⟨o,a,r⟩:=x;exact⟨o,e o a,r⟩
section
variable {prog:kj}{w:ki}{A:ke}{E:zx->zw->Prop}{s:zw}
def J0 {b:km}{q l:zu}{k:Nat}{xs:Array zx}{x:zx}{Q:zx->zw->Prop}(hq:O9 b s.heap q l k)(hl:MX b s.heap l xs)(hx:xs[k]? =some x)(hQ:∀h',O9 b h' q l (k+1)->Heap.SameBut q s.heap h'->Q x {s with heap:=h'}):wpAny (model prog w) A (Builtin.SmallTypes.nextOf (.ref q)) Q E s:=by
 cases b with
 | true=>exact wpAny_nextOf_list_item hq hl hx hQ
 | false=> have d:s.heap.IsTupleIter q l k:=hq;obtain⟨f,c,e,a⟩:=id d;obtain⟨ol,gl,_,g,dl⟩:=hl;unfold Builtin.SmallTypes.nextOf;refine AAA (ABW (name:=Str.ofString "__next__") d.typeIs ACt (AA6 ACt d.typeIs ADv ?_ (ADw _)));show wpAny _ _ (field (.ref q) 0 >>= _) _ _ _;refine AAA (AAs c a (x:= .ref l) rfl ?_);show wpAny _ _ (if (Value.ref l==Value.none)=true then _ else _) _ _ _;rw[AAD (by intro z;cases z)];show wpAny _ _ (field (.ref q) 1 >>= _) _ _ _;refine AAA (AAs c a (x:= .int k 0) rfl ?_);show wpAny _ _ (seqItems? (.ref l) >>= _) _ _ _;refine AAA (AAr gl dl ?_);simp only[ABz,hx];refine AAA (ACu c a (by simp) (AAC ⟨x,rfl,AAC (hQ _ ?_ (ACv ..))⟩));refine⟨_,ABX _ c (Obj.isFreed_of_fields (ACw a _)),(Obj.cls_mapFields ..).trans e, ?_⟩;rw[ACw a];simp[rawInt]
def Hk {b:km}{q l:zu}{k:Nat}{xs:Array zx}{Q:zx->zw->Prop}(c:A.handled=none)(hq:O9 b s.heap q l k)(hl:MX b s.heap l xs)(hx:xs[k]? =none)(h:∀h' e,Heap.ExtBut q s.heap h'->(∃o,h'.get? e=some o/\o.cls= .type "StopIteration")->E (.ref e) {s with heap:=h'}):wpAny (model prog w) A (Builtin.SmallTypes.nextOf (.ref q)) Q E s:=by
 cases b with
 | true=>exact wpAny_nextOf_list_end c hq hl hx h
 | false=>
   have d:s.heap.IsTupleIter q l k:=hq;obtain⟨i,f,j,g⟩:=id d;obtain⟨ol,gl,_,n,dl⟩:=hl;unfold Builtin.SmallTypes.nextOf;refine AAA (ABW (name:=Str.ofString "__next__") d.typeIs ACt (AA6 ACt d.typeIs ADv ?_ (ADw _)));show wpAny _ _ (field (.ref q) 0 >>= _) _ _ _;refine AAA (AAs f g (x:= .ref l) rfl ?_);show wpAny _ _ (if (Value.ref l==Value.none)=true then _ else _) _ _ _;rw[AAD (by intro z;cases z)];show wpAny _ _ (field (.ref q) 1 >>= _) _ _ _;refine AAA (AAs f g (x:= .int k 0) rfl ?_);show wpAny _ _ (seqItems? (.ref l) >>= _) _ _ _;refine AAA (AAr gl dl ?_);simp only[ABz,hx];refine AAA (ABA (AAA (ACu f g (by simp) ?_)));refine AAA (m:=newExc (.type "StopIteration") []) ?_;simp only[newExc,newTuple];refine AAA (AAu ?_ (by size_fits));refine AAA (m:=firstArgMember _ _) (ACx (a:=Value.none) (by first | rfl|(simp only[firstArgMember];rfl)) (AAu ?_ (by size_fits)));simp only[raiseNew];refine AAA (wpAny_handled ?_);first | rw[show A.in1.handled=none from c] | rw[c]
   exact AAA (AAC (wpAny_throw (h _ _ (((ACv ..).extBut.push _).push _) ⟨_,AAS _ rfl,rfl⟩)))
structure ji (b c:Bool) (z TI TO i j l m:Addr) (k:Nat) (f:Value) (h:Heap):Prop where
 zip:IsZip h z TI TO f
 its:IsPair h TI (.ref i) (.ref j)
 own:∃x y,IsPair h TO x y
 one:O9 b h i l k
 two:O9 c h j m k
def ji.mv {b c:km}{z TI TO i j l m:zu}{k:Nat}{f:zx}{h h':kf}(Z:ji b c z TI TO i j l m k f h)(e:∀p∈ [z,TI,TO,i,j],∀o,h.get? p=some o->h'.get? p=some o):ji b c z TI TO i j l m k f h':=by obtain⟨a,d,⟨x,y,g⟩,n,r⟩:=Z;exact⟨e z (by simp) _ a,e TI (by simp) _ d,⟨x,y,e TO (by simp) _ g⟩,n.mv (e i (by simp)),r.mv (e j (by simp))⟩
variable {b c:km}{z TI TO i j l m:zu}{k:Nat}{xs ys:Array zx}
def pz {x y:zx}{Q:zx->zw->Prop}(D:ZipApart z TI TO i j l m)(Z:ji b c z TI TO i j l m k .none s.heap)(hl:MX b s.heap l xs)(hm:MX c s.heap m ys)(hx:xs[k]? =some x)(hy:ys[k]? =some y)(hQ:∀h',IsZip h' z TI TO (rawInt s.heap.objs.size)->IsPair h' TI (.ref i) (.ref j)->IsPair h' TO x y->O9 b h' i l (k+1)->O9 c h' j m (k+1)->IsPair h' s.heap.objs.size x y-> (∀p o,p≠z->p≠TO->p≠i->p≠j->s.heap.get? p=some o->h'.get? p=some o)->Q (.ref s.heap.objs.size) {s with heap:=h'}):wpAny (model prog w) A (Builtin.«zip.__next__» ⟨[.ref z], []⟩) (λL s'=>∃v,L= .done (.ret v)/\Q v s') E s:=by
 obtain⟨n,T,⟨x0,M,zo⟩,z1,z2⟩:=Z;show wpAny _ _ (field (.ref z) 2 >>= _) _ _ _;refine AAA (AAs n rfl (x:= .bool false) rfl ?_);show wpAny _ _ (field (.ref z) 3 >>= _) _ _ _;refine AAA (AAs n rfl (x:= .ref TI) rfl (AAA (AAr T rfl ?_)));refine AAA (m:=Builtin.SmallTypes.ownedTupleIsFree (.ref z)) ?_;unfold Builtin.SmallTypes.ownedTupleIsFree;refine AAA (AAs n rfl (x:= .none) rfl (AAC ?_));simp only[ABB];refine AAA (ABA (AAA (AAs n rfl (x:= .ref TO) rfl (AAA (AB2 n (by simp) λg1 N g=> ?_)))));have N:IsZip g1 z TI TO .ellipsis:=N;refine AAA ?_;simp only[List.zipIdx_cons,List.zipIdx_nil,ACo,List.forIn_nil];refine AAA (AAA (ACy ?_));refine AAA (m:=Builtin.SmallTypes.nextOf (.ref i)) (J0 (z1.mv λo=>g.extBut _ o D.i1z) (hl.mv λo=>g.extBut _ o D.l1z) hx λg2 e2 b2=>AAC ?_);have U:IsPair g2 TO x0 M:=b2.extBut _ _ D.TOi1 (g.extBut _ _ D.TOz zo);refine AAA (AAr U rfl (AAA (ADb U λg3 O h=>AAA (ABc (AAC ?_)))));have O:IsPair g3 TO x M:=O;refine AAA (AAA (ACy ?_));refine AAA (m:=Builtin.SmallTypes.nextOf (.ref j)) (J0 (((z2.mv λo=>g.extBut _ o D.i2z).mv λo=>b2.extBut _ o D.i12.symm).mv λo=>h.extBut _ o D.TOi2.symm)
  (((hm.mv λo=>g.extBut _ o D.l2z).mv λo=>b2.extBut _ o D.l2i1).mv λo=>h.extBut _ o D.l2TO) hy λg4 e4 r=>AAC ?_)
 have W:IsPair g4 TO x M:=r.extBut _ _ D.TOi2 O;refine AAA (AAr W rfl (AAA (ADb W λa G t=>AAA (ABc (AAC (AAC ?_))))));have G:IsPair a TO x y:=G;refine AAA (AAr G rfl (AAA (wpAny_newTuple ?_)));have sz:a.objs.size=s.heap.objs.size:=by rw[t.1,r.1,h.1,b2.1,g.1]
 have X:IsZip a z TI TO .ellipsis:=t.extBut _ _ D.TOz.symm (r.extBut _ _ D.i2z.symm (h.extBut _ _ D.TOz.symm (b2.extBut _ _ D.i1z.symm N)));have d:∀p o,p≠z->p≠TO->p≠i->p≠j->s.heap.get? p=some o->a.get? p=some o:=λp o H I P R e=>
  t.extBut _ _ I (r.extBut _ _ R (h.extBut _ _ I (b2.extBut _ _ P (g.extBut _ _ H e))))
 have u:O9 b a i l (k+1):=((e2.mv λo=>h.extBut _ o D.TOi1.symm).mv λo=>r.extBut _ o D.i12).mv λo=>t.extBut _ o D.TOi1.symm;have B:O9 c a j m (k+1):=e4.mv λo=>t.extBut _ o D.TOi2.symm;have C:z<a.objs.size:=AAG X;refine AAA (m:=Builtin.SmallTypes.ownedTupleHandOut (.ref z) (.ref a.objs.size)) ?_;unfold Builtin.SmallTypes.ownedTupleHandOut;have k6:IsZip (a.push {cls:= .type "tuple",data:= .seq #[x,y] }) z TI TO .ellipsis:=AAH _ X;refine AAA (AB2 k6 (by simp) λg7 S Y=> ?_);have S:IsZip g7 z TI TO (rawInt a.objs.size):=S;refine AB2 S (by simp) λJ K b8=> ?_;have K:IsZip J z TI TO (rawInt a.objs.size):=K;have F:∀p o,p≠z->a.get? p=some o->J.get? p=some o:=λp o q e=>b8.extBut _ _ q (Y.extBut _ _ q (AAH _ e));have f:IsPair J a.objs.size x y:=b8.extBut _ _ (AAv C) (Y.extBut _ _ (AAv C) (AAS _ rfl));rw[sz] at K f;refine AAC ⟨_,rfl, ?_⟩;show Q (.ref a.objs.size) _;rw[sz];exact hQ J K (F _ _ D.TIz (d _ _ D.TIz D.TITO D.TIi1 D.TIi2 T)) (F _ _ D.TOz G) (u.mv λo=>F _ o D.i1z) (B.mv λo=>F _ o D.i2z) f λp o H I P R e=>F p o H (d p o H I P R e)
def uX {Q:Fin->zw->Prop}(B:A.handled=none)(D:ZipApart z TI TO i j l m)(Z:ji b c z TI TO i j l m k .none s.heap)(hl:MX b s.heap l xs)(M:MX c s.heap m ys)(N:xs[k]? =none\/ys[k]? =none)(C:∀h' e,(∀p o,p≠z->p≠TO->p≠i->p≠j->s.heap.get? p=some o->h'.get? p=some o)->(∃o,h'.get? e=some o/\o.cls= .type "StopIteration")->E (.ref e) {s with heap:=h'}):wpAny (model prog w) A (Builtin.«zip.__next__» ⟨[.ref z], []⟩) Q E s:=by
 obtain⟨g,O,⟨P,R,S⟩,F,T⟩:=Z;show wpAny _ _ (field (.ref z) 2 >>= _) _ _ _;refine AAA (AAs g rfl (x:= .bool false) rfl ?_);show wpAny _ _ (field (.ref z) 3 >>= _) _ _ _;refine AAA (AAs g rfl (x:= .ref TI) rfl (AAA (AAr O rfl ?_)));refine AAA (m:=Builtin.SmallTypes.ownedTupleIsFree (.ref z)) ?_;unfold Builtin.SmallTypes.ownedTupleIsFree;refine AAA (AAs g rfl (x:= .none) rfl (AAC ?_));simp only[ABB];refine AAA (ABA (AAA (AAs g rfl (x:= .ref TO) rfl (AAA (AB2 g (by simp) λU r a=> ?_)))));have r:IsZip U z TI TO .ellipsis:=r;refine AAA ?_;simp only[List.zipIdx_cons,List.zipIdx_nil,ACo,List.forIn_nil];refine AAA (AAA (ACy ?_));cases hx:xs[k]? with
 | none=>
   refine AAA (m:=Builtin.SmallTypes.nextOf (.ref i)) (Hk B (F.mv λo=>a.extBut _ o D.i1z) (hl.mv λo=>a.extBut _ o D.l1z) hx λt e b2 he=> ?_);obtain⟨u,d,h⟩:=he;have G:IsZip t z TI TO .ellipsis:=b2 _ _ D.i1z.symm r;have v:e≠z:=λq=>by subst q;rw[G] at d;cases d;simp at h
   refine AB2 G (by simp) λH _ f=>C H e (λp o n _ y _ q=>f.extBut _ _ n (b2 _ _ y (a.extBut _ _ n q))) ⟨u,f.extBut _ _ v d,h⟩
 | some x=>
   have hy:ys[k]? =none:=by
    rcases N with q|q
    .rw [hx] at q;cases q
    .exact q
   refine AAA (m:=Builtin.SmallTypes.nextOf (.ref i)) (J0 (F.mv λo=>a.extBut _ o D.i1z) (hl.mv λo=>a.extBut _ o D.l1z) hx λt e2 b2=>AAC ?_);have I:IsPair t TO P R:=b2.extBut _ _ D.TOi1 (a.extBut _ _ D.TOz S);refine AAA (AAr I rfl (AAA (ADb I λH o3 f=>AAA (ABc (AAC ?_)))));refine AAA (AAA (ACy ?_));refine AAA (m:=Builtin.SmallTypes.nextOf (.ref j)) (Hk B (((T.mv λo=>a.extBut _ o D.i2z).mv λo=>b2.extBut _ o D.i12.symm).mv λo=>f.extBut _ o D.TOi2.symm)
    (((M.mv λo=>a.extBut _ o D.l2z).mv λo=>b2.extBut _ o D.l2i1).mv λo=>f.extBut _ o D.l2TO) hy λW e J he=> ?_)
   obtain⟨u,d,h⟩:=he;have K:IsZip W z TI TO .ellipsis:=J _ _ D.i2z.symm (f.extBut _ _ D.TOz.symm (b2.extBut _ _ D.i1z.symm r));have v:e≠z:=λq=>by subst q;rw[K] at d;cases d;simp at h
   refine AB2 K (by simp) λX _ L=>C X e (λp o n Y y q4 q=>L.extBut _ _ n (J _ _ q4 (f.extBut _ _ Y (b2.extBut _ _ y (a.extBut _ _ n q))))) ⟨u,L.extBut _ _ v d,h⟩
end
def V1 (b:km)(l:zu):Obj:={cls:= .type (match b with | true=>"list_iterator" | false=>"tuple_iterator"),data:= .fields #[.ref l, .int 0 0] }
abbrev zA (b:km)(h:kf)(l:zu):kf:=h.push (V1 b l)
abbrev zB (b c:km)(h:kf)(l m:zu):kf:=(zA b h l).push (V1 c m)
abbrev zC (b c:km)(h:kf)(l m:zu):kf:=(zB b c h l m).push {cls:= .type "tuple",data:= .seq #[.ref h.objs.size, .ref (zA b h l).objs.size] }
abbrev zD (b c:km)(h:kf)(l m:zu):kf:=(zC b c h l m).push {cls:= .type "tuple",data:= .seq #[.none, .none] }
abbrev zF (b c:km)(h:kf)(l m:zu):kf:=(zD b c h l m).push {cls:= .type "zip",data:= .fields #[.none, .bool false, .bool false, .ref (zB b c h l m).objs.size, .ref (zC b c h l m).objs.size] }
def K5 {prog:kj}{w:ki}{A:ke}{E:zx->zw->Prop}{h:kf}{g:Array GenState}{d:Drawn}{a:Nat}{os:OsState}{b:km}{l:zu}{xs:Array zx}{Q:zx->zw->Prop}(hl:MX b h l xs)(q:Q (.ref h.objs.size) ⟨h.push (V1 b l),g,d,a,os⟩):wpAny (model prog w) A (pyIter (.ref l)) Q E ⟨h,g,d,a,os⟩:=by
 cases b with
 | true=>exact ACL (s:=⟨h,g,d,a,os⟩) hl q
 | false=>exact wpAny_pyIter_tuple (s:=⟨h,g,d,a,os⟩) hl q
def Zo (b c:km)(l m:zu)(xs ys:Array zx):Meets (Builtin.«zip.__new__» ⟨[.type "zip", .ref l, .ref m], []⟩) (λ_ R s=>MX b s.heap l xs/\MX c s.heap m ys/\R (.ok (.ret (.ref (zD b c s.heap l m).objs.size))) {s with heap:=zF b c s.heap l m}):=
 .of_wp λprog w A R s h=>by
   obtain⟨hp,g,d,j,os⟩:=s;obtain⟨hl,a,h⟩:=h;have k:=sub_zip;have f:MX b hp l xs:=hl;have i:MX c (hp.push (V1 b l)) m ys:=a.mv λo e=>AAH _ e
   wp_walk using K5 f,K5 i
   exact⟨_,rfl,h⟩
section
variable {prog:kj}{w:ki}{A:ke}{E:zx->zw->Prop}{s:zw}{b c:km}{l m:zu}{xs ys:Array zx}
def bV {h:kf}{q:zu}(e:h.get? q=some (V1 b l)):O9 b h q l 0:=by
 cases b with
 | true=>exact⟨_,e,rfl,rfl⟩
 | false=>exact⟨_,e,rfl,rfl⟩
def mT (hl:MX b s.heap l xs)(r:MX c s.heap m ys){Q:zx->zw->Prop}(h:∀h',ji b c (s.heap.objs.size+4) (s.heap.objs.size+2) (s.heap.objs.size+3) s.heap.objs.size (s.heap.objs.size+1) l m 0 .none h'->(∀p o,s.heap.get? p=some o->h'.get? p=some o)->Q (.ref (s.heap.objs.size+4)) {s with heap:=h'}):wpAny (model prog w) A (call (.type "zip") [.ref l, .ref m]) Q E s:=by
 refine callType_new F.called_zip (by decide) (F.typeCall_zip_2 _ _) (F.newCall_zip_2 _ _) (λobj=>F.args_object_init_3 obj _ _) F.entry_zip_new (Zo b c l m xs ys) ⟨hl,r, ?_⟩;have a:(zA b s.heap l).objs.size=s.heap.objs.size+1:=ABH ..;have d:(zB b c s.heap l m).objs.size=s.heap.objs.size+2:=by rw[ABH,a]
 have f:(zC b c s.heap l m).objs.size=s.heap.objs.size+3:=by rw[ABH,d]
 have i:(zD b c s.heap l m).objs.size=s.heap.objs.size+4:=by rw[ABH,f]
 have g:(zF b c s.heap l m).get? (zD b c s.heap l m).objs.size=some _:=AAS _ rfl;have j:(zF b c s.heap l m).get? (zC b c s.heap l m).objs.size=some _:=AAH _ (AAS _ rfl);have k:(zF b c s.heap l m).get? (zB b c s.heap l m).objs.size=some _:=AAH _ (AAH _ (AAS _ rfl));have n:(zF b c s.heap l m).get? (zA b s.heap l).objs.size=some (V1 c m):=AAH _ (AAH _ (AAH _ (AAS _ rfl)));have t:(zF b c s.heap l m).get? s.heap.objs.size=some (V1 b l):=AAH _ (AAH _ (AAH _ (AAH _ (AAS _ rfl))));rw[d,f,i] at g;rw[a,d] at k;rw[f] at j;rw[a] at n;show _/\_;rw[i];exact⟨⟨_,g,rfl⟩,h _ ⟨g,k,⟨_,_,j⟩,bV t,bV n⟩ λp o e=>AAH _ (AAH _ (AAH _ (AAH _ (AAH _ e))))⟩
end
def Sq (K:AAB):km->Hp->zu->zy V->Prop
 | true,H,a,xs=>E8 K H a xs
 | false,H,a,xs=>MF K H a xs
section
variable {X:Cx}{kd:zy (zu×Obj)}{σ:St}{H:Hp}{s:zw}{a:zu}{ys xs:zy V}{b:km}{h':kf}
def Inv.sq (I:Inv X kd σ H s)(h:Sq X.K b H a xs):∃c:zy zx,Aq xs c/\MX b s.heap a c.toArray/\xs.length<=sizeLine:=by
 cases b with
 | true=> obtain⟨c,r,p,z⟩:=I.list h;exact⟨c,r,p.isList,z⟩
 | false=> obtain⟨c,r,p,z⟩:=I.tuple h;exact⟨c,r,p,z⟩
def Inv.sq_inj (I:Inv X kd σ H s)(h:Sq X.K b H a xs)(h2:Sq X.K b H a ys):xs=ys:=by
 cases b with
 | true=>exact I.list_inj h h2
 | false=>exact I.tuple_inj h h2
def Inv.turnedL {ch:zy zu}{t':Nat}(I:Inv X kd σ H s)(c:∀p∈ch,EQ X kd H p)(k:∀p o,p ∉ ch->s.heap.get? p=some o->h'.get? p=some o):Inv X kd σ H {s with heap:=h',toks:=t'}:=by
 have d:∀p u,H p=some u->p ∉ ch:=λp u e z=>by rw[(c p z).1] at e;cases e
 refine I.step (g':=s.gens) (d':=s.drawn) (ch:=ch) (λp hp=>⟨(c p hp).2.2.2.1,(c p hp).2.1,(c p hp).2.2.2.2.1,(c p hp).2.2.2.2.2⟩) (λp o _ _ hc e _=>k p o hc e) (λp o _ _ hc e _=>⟨o.slots,k p o hc e⟩)
  (λ_ _ _ _ n=>n) (λp o hc e=>⟨o,k p o hc e⟩) (λ_ _ e=>e) (λ_ _ _ e=>e) (λp i e=>⟨#[],by rw[e];simp⟩) (λm f=> ?_) (λp u e=> ?_) I.bare
 .obtain ⟨o,es,ep,g,r⟩:=f;exact⟨o,es,ep,k _ o (λz=>(c _ z).2.1 rfl) g,r⟩
 .refine (I.hok p u e).stay (λq v hq h=>k q v ?_ h) (λ_ q=>q) λ_ _ q=>q;rcases hq with z|z
  .rw [z];exact d p u e
  .exact d q _ z
def Inv.turnedN {ch:zy zu}{t':Nat}{n:zu}{o:HO}(I:Inv X kd σ H s)(c:∀p∈ch,EQ X kd H p)(j:∀p∈ch,p<s.heap.objs.size)(k:∀p o,p ∉ ch->s.heap.get? p=some o->h'.get? p=some o)(f:s.heap.objs.size<=n)(new:CJ X.prog X.w (upd H n o) h' n o):Inv X kd σ (upd H n o) {s with heap:=h',toks:=t'}:=by
 have g:Inv X kd σ H {s with heap:=h',toks:=t'}:=I.turnedL c k;have d:H n=none:=I.hok.fresh f;have hx:∀p u,s.heap.get? p=some u->p≠n:=λp u e=>AAL (AAX (AAG e) f);refine I.step (g':=s.gens) (d':=s.drawn) (ch:=ch) (λp hp=>⟨(c p hp).2.2.2.1,(c p hp).2.1,(c p hp).2.2.2.2.1,(c p hp).2.2.2.2.2⟩) (λp o _ _ hc e _=>k p o hc e) (λp o _ _ hc e _=>⟨o.slots,k p o hc e⟩)
  (λp u _ e z=>by rw[AZ (hx p u e)];exact z) (λp o hc e=>⟨o,k p o hc e⟩) (λp xs e=>by rw[AZ (Ah e d)];exact e) (λp o xs e=>by rw[AZ (Ah e d)];exact e)
  (λp l e=>⟨#[],by rw[AZ (Ah e d),e];simp⟩) (λm h=> ?_) (λp u e=> ?_) I.bare
 .obtain ⟨o,es,ep,i,r⟩:=h;exact⟨o,es,ep,k _ o (λz=>(c _ z).2.1 rfl) i,r⟩
 .by_cases hp:p=n
  .subst hp;rw[Aa] at e;cases e;exact new
  .rw [AZ hp] at e;exact(g.hok p u e).stay (λ_ _ _ q=>q) (λq hq=>by rw[AZ (Ah hq d)];exact hq) λq xs hq=>by rw[AZ (Ah hq d)];exact hq
end
def q9 (K:AAB)(b c:km)(l m:zu):It:=
 ⟨λi H=>∃xs ys x y,Sq K b H l xs/\Sq K c H m ys/\xs[i]? =some x/\ys[i]? =some y,
  λi H v a=>∃T x y,v= .ref T/\H T=none/\a=upd H T (.tup [x,y])/\(∀xs,Sq K b H l xs->xs[i]? =some x)/\∀ys,Sq K c H m ys->ys[i]? =some y,
  λi H=>∃xs ys,Sq K b H l xs/\Sq K c H m ys/\(xs.length<=i\/ys.length<=i)⟩
def dy {P:kj}{w:ki}{K:AAB}{es:zy zr}{M:Nat}{r:Pos}{b c:km}{z TI TO i j l m:zu}(D:ZipApart z TI TO i j l m):Il P w K (.Tuple es M r) (q9 K b c l m) [z,TI,TO,i,j] z (λk h=>ji b c z TI TO i j l m k .none h) where
 mem:=by simp
 obj:=λk h Z p hp=>by
  have a:p=z\/p=TI\/p=TO\/p=i\/p=j:=by simpa using hp
  rcases a with e|e|e|e|e
  .subst e;exact⟨_,Z.zip,λv q=>nomatch q⟩
  .subst e;exact⟨_,Z.its,λv q=>nomatch q⟩
  .subst e;obtain⟨x,y,q⟩:=Z.own;exact⟨_,q,λv q=>nomatch q⟩
  .subst e;exact Z.one.obj
  .subst e;exact Z.two.obj
 keep:=λk h h' Z e=>Z.mv e
 item:=by
  intro X t hw A hc k kd s L H E I g Z B;subst t hw A;obtain⟨xs,ys,x,y,hl,n,hx,hy⟩:=B;obtain⟨us,C,G,_⟩:=I.sq hl;obtain⟨vs,rv,sv,_⟩:=I.sq n;obtain⟨u,hu,N⟩:=C.get hx;obtain⟨v,hv,O⟩:=rv.get hy;have f:s.TypeIs (.ref z) "zip" :=⟨_,Z.zip,rfl⟩;unfold pyNext;refine AAA (ACz (ABW (name:=Str.ofString "__next__") f AC0 (AA6 AC0 f F.entry_zip_next
   (pz D Z G sv (x:=u) (y:=v) (by simpa using hu) (by simpa using hv) λh1 Q R S U W Y a7=>AAC ?_) (F.args_zip_next_1 _))))
  refine⟨_,rfl,wpAny_letOwnedTupleGo_zip (s:={s with heap:=h1}) Q λh2 c1 c2=> ?_⟩;have J:∀p∈ [z,TI,TO,i,j],p<s.heap.objs.size:=λp hp=>by
   have a:p=z\/p=TI\/p=TO\/p=i\/p=j:=by simpa using hp
   rcases a with e|e|e|e|e
   .subst e;exact AAG Z.zip
   .subst e;exact AAG Z.its
   .subst e;obtain⟨x,y,q⟩:=Z.own;exact AAG q
   .subst e;obtain⟨o,q,_⟩:=Z.one.obj;exact AAG q
   .subst e;obtain⟨o,q,_⟩:=Z.two.obj;exact AAG q
  have d:∀p o,p≠z->h1.get? p=some o->h2.get? p=some o:=λp o q e=>c2.extBut _ _ q e;have kp:∀p o,p ∉ [z,TI,TO,i,j] ->s.heap.get? p=some o->h2.get? p=some o:=λp o hp e=>by
   have a:p≠z/\p≠TI/\p≠TO/\p≠i/\p≠j:=by simpa using hp
   exact d p o a.1 (a7 p o a.1 a.2.2.1 a.2.2.2.1 a.2.2.2.2 e)
  have yc:s.heap.objs.size≠z:=AAv (J z (by simp));have I2:Inv X kd L (upd H s.heap.objs.size (.tup [x,y])) {s with heap:=h2,toks:=s.toks}:=I.turnedN g J kp (AAJ _)
   ⟨(by show 2<=sizeLine;decide), [u,v], .cons N (.cons O .nil),⟨_,d _ _ yc Y,rfl,_,rfl⟩⟩
  have Tl:H s.heap.objs.size=none:=I.fresh;refine⟨.ref s.heap.objs.size,upd H s.heap.objs.size (.tup [x,y]),I2,rfl,⟨_,x,y,rfl,Tl,rfl,λxs' h'=> ?_,λys' h'=> ?_⟩, ?_,λp hp=> ?_⟩
  .rw [I.sq_inj h' hl];exact hx
  .rw [I.sq_inj h' n];exact hy
  .exact ⟨c1,d _ _ D.TIz R,⟨_,_,d _ _ D.TOz S⟩,U.mv λo=>d _ o D.i1z,W.mv λo=>d _ o D.i2z⟩
  .rw [AZ (AAL (J p hp))];exact(g p hp).1
 done:=by
  intro X t hw A hc k kd s L H E I g Z B;subst t hw A;obtain⟨xs,ys,hl,n,he⟩:=B;obtain⟨us,C,G,_⟩:=I.sq hl;obtain⟨vs,rv,sv,_⟩:=I.sq n;have e1:=C.length;have e2:=rv.length;have j9:us.toArray[k]? =none\/vs.toArray[k]? =none:=by
   rcases he with q|q
   .exact .inl (by simp;omega)
   .exact .inr (by simp;omega)
  have f:s.TypeIs (.ref z) "zip" :=⟨_,Z.zip,rfl⟩;unfold pyNext;refine AAA (ACz (ABW (name:=Str.ofString "__next__") f AC0 (AA6 AC0 f F.entry_zip_next
   (uX (I.ok.hd hc) D Z G sv j9 λh1 e hk he=> ?_) (F.args_zip_next_1 _))))
  obtain⟨o,ho,xq⟩:=he;refine AAA (ABt (T:="StopIteration") (b:=true) ⟨o,ho,xq⟩ isSubtype_stop (AAC ⟨rfl, ?_⟩));exact I.turnedL (t':=s.toks) g λp o hp e=>by
   have a:p≠z/\p≠TI/\p≠TO/\p≠i/\p≠j:=by simpa using hp
   exact hk p o a.1 a.2.2.1 a.2.2.2.1 a.2.2.2.2 e
 self:=λ_ _ _ _ _ Z h=>wpAny_pyIter_zip Z.zip h
structure Has (P:Program) (w:World) (K:AAB) (mg:Str->Option Value) (base:Heap) (k:Nat) (x:Str) (ps:List Str) (sp:Sp):Prop where
 ex:∃f fd,mg x=some (.ref f)/\PySem.W.keepIn K (.ref f)=true/\Binds K fd ps [] /\Em P w K mg base Sy k f fd ps sp
def Has.mono {P:kj}{w:ki}{K:AAB}{mg:Str->zt zx}{base:kf}{j k:Nat}{x:Str}{e:zy Str}{sp:Sp}(h:Has P w K mg base j x e sp)(hk:j<=k):Has P w K mg base k x e sp:=by obtain⟨f,g,a,b,c,d⟩:=h.ex;exact⟨f,g,a,b,c,d.mono hk⟩
section
variable {X:Cx}{x:Str}{p pos:Pos}{e:zr}{es:zy zr}{t:TA}{k:Nat}{ps:zy Str}{sp:Sp}
def lI (D:Has X.prog X.w X.K X.mg X.base k x ps sp)(a:Room k X.A)(b:Gl X x)(ha:PA X (e::es) t)(hs:starEach (e::es) X.env=(false,eval e X.env)::starEach es X.env:=by rfl)(hpl:(backTo pos (starEach es X.env)).any (·.1)=false:=by rfl)(hd:(x==("__debug__" :Str))=false:=by decide):PE X (.Call (.Name x p) (e::es) [] pos) (jK sp [] E0 t):=by obtain⟨f,h,c,d,g,G⟩:=D.ex;exact gS G a b c d g .nil oz ha (hdb:=hd) (he:=hs) (hpl:=hpl)
end
section
variable {X:Cx}{tg elt:zr}{ifs:zy zr}{scope:Scope}{own:Nat}{ix:zy Nat}{N:zy Str}{g:TG}{tt:TT}{te:TE}
def Q3 (X:Cx)(sc:Scope)(own:Nat)(ix:zy Nat)(N:zy Str):km:=
 (List.range ix.length).all λj=>match ix[j]? with
   | none=>false
   | some i=>match N[own+j]?,X.N[i]? with
     | some x,some y=>decide (x=y)&&decide (X.env.scope.names.lookup x=some .cell)&&decide (sc.names.lookup x=some .cell)
     | _,_=>false
def aw {sc:Scope}(h1:N.length=own+ix.length)(h2:Q3 X sc own ix N=true):W8 X sc own ix N:=by
 refine⟨h1,λj i hj=> ?_⟩;have c:j<ix.length:=(AA0.mp hj).1;have h:=AB1.mp h2 j (ABv.mpr c);rw[hj] at h;dsimp only at h;cases a:N[own+j]? with
 | none=>rw[a] at h;simp at h
 | some x=>
   cases b:X.N[i]? with
   | none=>rw[a,b] at h;simp at h
   | some y=> rw[a,b] at h;simp only[AAq,AA8] at h;obtain⟨⟨d,e⟩,f⟩:=h;subst d;exact⟨x,rfl,rfl,e,f⟩
def Qw (h1:scope.kind= .function)(h2:(scope.names.all λy=> !decide (y.2= .cell))=true)(c:(scope.names.all λy=> !decide (y.2= .local)||decide (scope.names.lookup y.1=some .local))=true)(d:(scope.names.all λy=> !decide (y.2= .free)||decide (X.env.scope.names.lookup y.1=some .cell))=true)(f:N.length=own+ix.length)(h:Q3 X (relabel scope X.env) own ix N=true)(hk:IT own g)(a:∀cl C s H ex pn,PG (blk X (relabel scope X.env) N cl C s H ex pn) tg g)(b:∀cl C s H ex pn,Yf (blk X (relabel scope X.env) N cl C s H ex pn) ifs tt)(val:∀cl C s H ex pn,PE (blk X (relabel scope X.env) N cl C s H ex pn) elt te):Fy X tg elt ifs scope own ix N g tt te:=by
 refine⟨h1,λy hy e=> ?_,λy hy e=> ?_,λy hy e=> ?_,aw f h,hk,a,b,val⟩
 .have:=AB1.mp h2 y hy;simp[e] at this
 .have:=AB1.mp c y hy;simpa[e] using this
 .have:=AB1.mp d y hy;simpa[e] using this
end
def S5.new {H:Hp}{p:zu}{o:HO}(h:H p=none):S5 H (upd H p o):=λb u q=>by rw[AZ (Ah q h)];exact q
def wU (p:zu)(H a:Hp):Prop:=∀b o,b≠p->H b=some o->a b=some o
def S5.but {p:zu}{H H1:Hp}(a:S5 H H1):wU p H H1:=λc o _ h=>a c o h
end L2
namespace PL
open PySem PySem.Spec PyProof.Rows L2
inductive PV where
 | non|bl (b:Bool)|int (i:Int)|str (x:Str)|ty (n:String)
 | tup (xs:List PV)|lst (xs:List PV)|tape|scr (ns:List Int)|dct (kvs:List (FK×Int))|dk (kvs:List (Int×Int))
def En (H:Hp)(p:zu):Prop:=∃d x:Int,H p=some (.lst [.int d, .int x])/\0<=d/\0<=x/\x<2147483647
def Ku (o:HO):Prop:=(∀vs,o≠ .tup vs)/\∀q u,o≠ .frz q u
def Ku.lst {xs:zy V}:Ku (.lst xs):=⟨(λ_ e=>nomatch e),(λ_ _ e=>nomatch e)⟩
def En.mut {H:Hp}{p:zu}(h:En H p):∃o,H p=some o/\Ku o:=by obtain⟨d,x,e,_⟩:=h;exact⟨_,e,Ku.lst⟩
def qD (K:AAB)(H:Hp)(a:zu)(xs:zy V):Prop:=H a=some (.tup xs)\/∃(o:Obj) (b:Array zx) (n:Nat),K.lookup a=some o/\o.cls= .type "tuple" /\o.data= .seq b n/\b.size<=sizeLine/\Aq xs b.toList
def qD.sq {K:AAB}{H:Hp}{a:zu}{xs:zy V}(h:qD K H a xs):MF K H a xs:=h.elim (λz=> .inl (.inl z)) .inr
def CF (kvs:zy (FK×Int)):zy (FK×V):=kvs.map λp=>(p.1,V.int p.2)
def Iu (kvs:zy (Int×Int)):zy (Cp×V):=kvs.map λp=>(.inl p.1,V.int p.2)
mutual
inductive CM (K:AAB) (T M:Addr->Prop) (H:Hp):V->PV->Prop where
 | non:CM K T M H .non .non
 | bl (b:Bool):CM K T M H (.bl b) (.bl b)
 | int (i:Int):CM K T M H (.int i) (.int i)
 | str (x:Str):CM K T M H (.str x) (.str x)
 | ty (n:String):CM K T M H (.ty n) (.ty n)
 | tup {a:Addr} {vs:List V} {xs:List PV} (h:qD K H a vs) (r:Au K T M H vs xs):CM K T M H (.ref a) (.tup xs)
 | lst {a:Addr} {vs:List V} {xs:List PV} (h:H a=some (.lst vs)) (t:¬T a) (m:¬M a) (r:Au K T M H vs xs):CM K T M H (.ref a) (.lst xs)
 | tape {a:Addr} (t:T a):CM K T M H (.ref a) .tape
 | dct {a:Addr} {kvs:List (FK×Int)} (h:H a=some (.dN K (CF kvs))) (t:¬T a) (m:¬M a):CM K T M H (.ref a) (.dct kvs)
 | dk {a:Addr} {o:Obj} {es:Array DictEntry} {ep:Nat} {kvs:List (Int×Int)} (h:H a=some (.frz o (.dK (Iu kvs)))) (e:o.data= .dict es ep):CM K T M H (.ref a) (.dk kvs)
 | scr {a:Addr} {ns:List Int} (h:(Rd H a (.lst (ns.map V.int))/\¬T a/\¬M a)\/∀H,E8 K H a (ns.map V.int)):CM K T M H (.ref a) (.scr ns)
inductive Au (K:AAB) (T M:Addr->Prop) (H:Hp):List V->List PV->Prop where
 | nil:Au K T M H [] []
 | cons {v:V} {x:PV} {vs:List V} {xs:List PV} (h:CM K T M H v x) (t:Au K T M H vs xs):Au K T M H (v::vs) (x::xs)
end
structure Gi (T M:Addr->Prop) (H:Hp):Prop where
 tp:∀a,T a->En H a
 mu:∀a,M a->∃o,H a=some o/\Ku o
def Gi.noFrz {T M:zu->Prop}{H:Hp}(v:Gi T M H){a:zu}{q:Obj}{u:HO}(r:H a=some (.frz q u)):¬T a/\¬M a:=by
 refine⟨λz=> ?_,λz=> ?_⟩
 .obtain ⟨o,e,_,n⟩:=(v.tp a z).mut;rw[r] at e;cases e;exact n _ _ rfl
 .obtain ⟨o,e,_,n⟩:=v.mu a z;rw[r] at e;cases e;exact n _ _ rfl
def Gi.noTup {T M:zu->Prop}{H:Hp}(v:Gi T M H){a:zu}{vs:zy V}(r:Rd H a (.tup vs)):¬T a/\¬M a:=by
 have go:∀o,H a=some o->Ku o->False:=λo e m=>by
  rcases r with r|⟨q,r⟩
  .rw [e] at r;cases r;exact m.1 _ rfl
  .rw [e] at r;cases r;exact m.2 _ _ rfl
 exact⟨λt=>let ⟨o,e,m⟩:=(v.tp a t).mut;go o e m,λt=>let ⟨o,e,m⟩:=v.mu a t;go o e m⟩
structure Mv (K:AAB) (T M:Addr->Prop) (H:Hp) (T' M':Addr->Prop) (H':Hp):Prop where
 va:Gi T M H
 keep:∀b o,¬T b->¬M b->H b=some o->H' b=some o
 sub:∀b,T b->T' b
 tn:∀b,H b≠none->T' b->T b
 mn:∀b,H b≠none->M' b->M b
def X3 {H:Hp}{a:zu}{u:HO}(r:Rd H a u):H a≠none:=by rcases r with r|⟨o,r⟩ <;> rw[r] <;> exact λe=>nomatch e
def pK {H b:Hp}{a:zu}{u:HO}(r:Rd H a u)(k:∀o,H a=some o->b a=some o):Rd b a u:=by
 rcases r with r|⟨o,r⟩
 .exact .inl (k _ r)
 .exact .inr ⟨o,k _ r⟩
section
variable {K:AAB}{T M T' M':zu->Prop}{H H':Hp}
mutual
theorem CM.mv (m:Mv K T M H T' M' H'):∀{v:V} {x:PV},CM K T M H v x->CM K T' M' H' v x
 | _,_, .non=> .non
 | _,_, .bl b=> .bl b
 | _,_, .int i=> .int i
 | _,_, .str x=> .str x
 | _,_, .ty n=> .ty n
 | _,_, .tup (a:=a) (vs:=vs) h r=>by
   refine .tup (vs:=vs) ?_ (Au.mv m r);rcases h with h|h
   .obtain ⟨t,u⟩:=m.va.noTup (.inl h);exact .inl (m.keep _ _ t u h)
   .exact .inr h
 | _,_, .lst (a:=a) h t u r=> .lst (m.keep _ _ t u h) (λz=>t (m.tn a (by rw[h];exact λe=>nomatch e) z)) (λz=>u (m.mn a (by rw[h];exact λe=>nomatch e) z)) (Au.mv m r)
 | _,_, .tape t=> .tape (m.sub _ t)
 | _,_, .dct (a:=a) h t u=> .dct (m.keep _ _ t u h) (λz=>t (m.tn a (by rw[h];exact λe=>nomatch e) z)) (λz=>u (m.mn a (by rw[h];exact λe=>nomatch e) z))
 | _,_, .dk h e=>by obtain⟨t,u⟩:=m.va.noFrz h;exact .dk (m.keep _ _ t u h) e
 | _,_, .scr (a:=a) (.inl ⟨h,t,u⟩)=> .scr (.inl ⟨pK h λo e=>m.keep _ o t u e,λz=>t (m.tn a (X3 h) z),λz=>u (m.mn a (X3 h) z)⟩)
 | _,_, .scr (.inr h)=> .scr (.inr h)
theorem Au.mv (m:Mv K T M H T' M' H'):∀{vs:zy V} {xs:zy PV},Au K T M H vs xs->Au K T' M' H' vs xs
 | _,_, .nil=> .nil
 | _,_, .cons h t=> .cons (CM.mv m h) (Au.mv m t)
end
end
def Au.length {K:AAB}{T M:zu->Prop}{H:Hp}:∀{vs:zy V} {xs:zy PV},Au K T M H vs xs->vs.length=xs.length
 | _,_, .nil=>rfl
 | _,_, .cons _ t=>by simp[t.length]
theorem Au.get {K:AAB}{T M:zu->Prop}{H:Hp}:∀{vs:zy V} {xs:zy PV} {i:Nat} {x:PV},Au K T M H vs xs->xs[i]? =some x->∃v,vs[i]? =some v/\CM K T M H v x
 | _,_,_,_, .nil,e=>by simp at e
 | _,_,0,_, .cons h _,e=>by simp at e;subst e;exact⟨_,rfl,h⟩
 | _,_,i+1,x, .cons _ t,e=>by obtain⟨u,h1,h2⟩:=Au.get (i:=i) (x:=x) t (by simpa using e);exact⟨u,by simpa using h1,h2⟩
def Au.get' {K:AAB}{T M:zu->Prop}{H:Hp}{vs:zy V}{xs:zy PV}{i:Nat}{v:V}(h:Au K T M H vs xs)(e:vs[i]? =some v):∃x,xs[i]? =some x/\CM K T M H v x:=by have hl:=h.length;have hi:i<vs.length:=(AA0.mp e).1;obtain⟨w,a,r⟩:=h.get (i:=i) (x:=xs[i]'(by omega)) (AAT (by omega));rw[e] at a;cases a;exact⟨_,AAT (by omega),r⟩
def Au.append {K:AAB}{T M:zu->Prop}{H:Hp}:∀{vs a:zy V} {xs ys:zy PV},Au K T M H vs xs->Au K T M H a ys->Au K T M H (vs++a) (xs++ys)
 | _,_,_,_, .nil,s=>s
 | _,_,_,_, .cons h t,s=> .cons h (t.append s)
def Au.take {K:AAB}{T M:zu->Prop}{H:Hp}:∀{vs:zy V} {xs:zy PV} (n:Nat),Au K T M H vs xs->Au K T M H (vs.take n) (xs.take n)
 | _,_,0,_=> .nil
 | _,_,_+1, .nil=> .nil
 | _,_,n+1, .cons r t=> .cons r (t.take n)
def Au.drop {K:AAB}{T M:zu->Prop}{H:Hp}:∀{vs:zy V} {xs:zy PV} (n:Nat),Au K T M H vs xs->Au K T M H (vs.drop n) (xs.drop n)
 | _,_,0,r=>r
 | _,_,_+1, .nil=> .nil
 | _,_,n+1, .cons _ t=>t.drop n
theorem Au.set {K:AAB}{T M:zu->Prop}{H:Hp}{v:V}{x:PV}(r:CM K T M H v x):∀{vs:zy V} {xs:zy PV} (i:Nat),Au K T M H vs xs->Au K T M H (vs.set i v) (xs.set i x)
 | _,_,_, .nil=> .nil
 | _,_,0, .cons _ t=> .cons r t
 | _,_,i+1, .cons q t=> .cons q (Au.set r i t)
def Au.reverse {K:AAB}{T M:zu->Prop}{H:Hp}{vs:zy V}{xs:zy PV}(h:Au K T M H vs xs):Au K T M H vs.reverse xs.reverse:=by
 induction vs generalizing xs with
 | nil=>cases h;exact .nil
 | cons v vs ih=>
   cases h with
   | cons h t=>rw[ACn,ACn];exact(ih t).append (.cons h .nil)
structure DI (T:Addr->Prop) (H:Hp) (T':Addr->Prop) (H':Hp):Prop where
 keep:∀b o,¬T b->H b=some o->H' b=some o
 sub:∀b,T b->T' b
 new:∀b,T' b->T b\/H b=none
 tp:∀a,T' a->En H' a
def DI.refl {T:zu->Prop}{H:Hp}(h:∀a,T a->En H a):DI T H T H:=⟨λ_ _ _ e=>e,λ_ e=>e,λ_ e=> .inl e,h⟩
def DI.some {T c:zu->Prop}{H a:Hp}(s:DI T H c a){b:zu}(h:H b≠none):a b≠none:=by
 by_cases t:T b
 .obtain ⟨o,e,_⟩:=(s.tp b (s.sub b t)).mut;rw[e];exact λe=>nomatch e
 .cases e:H b with
  | none=>exact absurd e h
  | some o=>rw[s.keep b o t e];exact λe=>nomatch e
def DI.none {T c:zu->Prop}{H a:Hp}(s:DI T H c a){b:zu}(h:a b=none):H b=none:=by
 cases e:H b with
 | none=>rfl
 | some o=>exact absurd h (s.some (by rw[e];exact λe=>nomatch e))
def DI.trans {T d f:zu->Prop}{H H1 g:Hp}(a:DI T H d H1)(b:DI d H1 f g):DI T H f g where
 keep:=λc o t e=>b.keep c o (λz=>(a.new c z).elim t λn=>by rw[n] at e;cases e) (a.keep c o t e)
 sub:=λc t=>b.sub c (a.sub c t)
 new:=λc t=>(b.new c t).elim (λz=>a.new c z) λz=> .inr (a.none z)
 tp:=b.tp
def DI.lay {T:zu->Prop}{H:Hp}{p:zu}{o:HO}(h:∀a,T a->En H a)(hp:H p=Option.none):DI T H T (upd H p o) where
 keep:=λb u _ e=>by rw[AZ (Ah e hp)];exact e
 sub:=λ_ t=>t
 new:=λ_ t=> .inl t
 tp:=λa t=>by obtain⟨d,x,e,z⟩:=h a t;exact⟨d,x,by rw[AZ (Ah e hp)];exact e,z⟩
def DI.mv {K:AAB}{T a M:zu->Prop}{H c:Hp}(s:DI T H a c)(v:Gi T M H):Mv K T M H a M c where
 va:=v
 keep:=λb o t _ e=>s.keep b o t e
 sub:=s.sub
 tn:=λb n t=>(s.new b t).elim id λz=>absurd z n
 mn:=λ_ _ z=>z
def CM.stp {K:AAB}{T a M:zu->Prop}{H b:Hp}{v:V}{x:PV}(r:CM K T M H v x)(s:DI T H a b)(va:Gi T M H):CM K a M b v x:=r.mv (s.mv va)
def Au.stp {K:AAB}{T a M:zu->Prop}{H b:Hp}{v:zy V}{x:zy PV}(r:Au K T M H v x)(s:DI T H a b)(va:Gi T M H):Au K a M b v x:=r.mv (s.mv va)
def Mv.anti {K:AAB}{T M c:zu->Prop}{H:Hp}(v:Gi T M H)(h:∀a,c a->M a):Mv K T M H T c H:=⟨v,λ_ _ _ _ e=>e,λ_ t=>t,λ_ _ t=>t,λb _ t=>h b t⟩
inductive AV where
 | val (x:PV)
 | own (xs:List PV)
abbrev A5:=zy (zt AV)
structure C5 where
 T:Addr->Prop
 H:Hp
 M:Addr->Prop
def C5.add (B:C5)(p:zu):C5:=⟨B.T,B.H,λa=>B.M a\/a=p⟩
def Cn (a:L2.St)(τ:A5)(p:zu):Prop:=∃(i:Nat) (xs:zy PV),τ[i]? =some (some (.own xs))/\a[i]? =some (some (.ref p))
def mt (B:C5)(a:L2.St)(τ:A5)(p:zu):Prop:=B.M p\/Cn a τ p
structure SR (K:AAB) (B:C5) (T:Addr->Prop) (H:Hp) (σ:L2.St) (τ:A5):Prop where
 len:σ.length=τ.length
 val:∀(i:Nat) (x:PV),τ[i]? =some (some (.val x))->∃v,σ[i]? =some (some v)/\CM K T (mt B σ τ) H v x
 own:∀(i:Nat) (xs:List PV),τ[i]? =some (some (.own xs))->∃p vs,σ[i]? =some (some (.ref p))/\H p=some (.lst vs)/\Au K T (mt B σ τ) H vs xs/\B.H p=none/\¬T p/\¬B.M p
 dist:∀(i j:Nat) (xs ys:List PV) (p:Addr),τ[i]? =some (some (.own xs))->τ[j]? =some (some (.own ys))->σ[i]? =some (some (.ref p))->σ[j]? =some (some (.ref p))->i=j
 tp:∀a,T a->En H a
 bm:∀a,B.M a->∃o,H a=some o/\Ku o
 bt:∀a,B.M a->¬T a
 st:DI B.T B.H T H
section
variable {K:AAB}{B:C5}{T T':zu->Prop}{H H':Hp}{σ:L2.St}{τ:A5}
def SR.ownH (s:SR K B T H σ τ){p:zu}(o:Cn σ τ p):∃vs,H p=some (.lst vs)/\B.H p=none/\¬T p/\¬B.M p:=by obtain⟨i,xs,h1,h2⟩:=o;obtain⟨q,vs,e,h,_,b,t,m⟩:=s.own i xs h1;rw[h2] at e;cases e;exact⟨vs,h,b,t,m⟩
def SR.va (s:SR K B T H σ τ):Gi T (mt B σ τ) H:=⟨s.tp,λa m=>m.elim (s.bm a) λo=>let ⟨vs,h,_⟩:=s.ownH o;⟨_,h,Ku.lst⟩⟩
def SR.nt (s:SR K B T H σ τ){a:zu}(m:mt B σ τ a):¬T a:=m.elim (s.bt a) λo=>let ⟨_,_,_,t,_⟩:=s.ownH o;t
def SR.stp (s:SR K B T H σ τ)(p:DI T H T' H'):SR K B T' H' σ τ where
 len:=s.len
 val:=λi x e=>let ⟨v,h,r⟩:=s.val i x e;⟨v,h,r.stp p s.va⟩
 own:=λi xs e=>by obtain⟨q,vs,c,h,r,b,t,m⟩:=s.own i xs e;exact⟨q,vs,c,p.keep _ _ t h,r.stp p s.va,b,(λz=>(p.new q z).elim t λn=>by rw[n] at h;cases h),m⟩
 dist:=s.dist
 tp:=p.tp
 bm:=λa m=>let ⟨o,e,q⟩:=s.bm a m;⟨o,p.keep a o (s.bt a m) e,q⟩
 bt:=λa m z=>by obtain⟨o,e,_⟩:=s.bm a m;exact(p.new a z).elim (s.bt a m) λn=>by rw[n] at e;cases e
 st:=s.st.trans p
def SR.add {p:zu}{o:HO}(s:SR K B T H σ τ)(q:DI T H T' H')(f:H p=none)(k:H' p=some o)(l:Ku o)(u:¬T' p):SR K (B.add p) T' H' σ τ:=by
 have c:=s.stp q;have g:Mv K T (mt B σ τ) H T' (mt (B.add p) σ τ) H':=⟨s.va,λb o t _ e=>q.keep b o t e,q.sub,λb n t=>(q.new b t).elim id λz=>absurd z n,λb n z=>by
  rcases z with(z|z)|z
  .exact .inl z
  .subst z;exact absurd f n
  .exact .inr z⟩
 refine⟨s.len,λi x e=> ?_,λi xs e=> ?_,s.dist,c.tp,λa m=> ?_,λa m=> ?_,c.st⟩
 .obtain ⟨v,h,r⟩:=s.val i x e;exact⟨v,h,r.mv g⟩
 .obtain ⟨a,vs,j,h,r,b,t,m⟩:=s.own i xs e;obtain⟨y,w,d,h',_,A,t',C⟩:=c.own i xs e;rw[j] at d;cases d;rw[q.keep _ _ t h] at h';cases h';refine⟨a,vs,j,q.keep _ _ t h,r.mv g,b,t',λz=> ?_⟩;rcases z with z|z
  .exact m z
  .subst z;rw[f] at h;cases h
 .rcases m with m|m
  .exact c.bm a m
  .subst m;exact⟨o,k,l⟩
 .rcases m with m|m
  .exact c.bt a m
  .subst m;exact u
end
def Yz:zt AV->zt AV
 | some (.own xs)=>some (.val (.lst xs))
 | o=>o
def frz (τ:A5):A5:=τ.map Yz
def XY {τ:A5}{i:Nat}:(frz τ)[i]? =(τ[i]?).map Yz:=by simp[frz]
def fM {τ:A5}{i:Nat}{x:PV}(h:(frz τ)[i]? =some (some (.val x))):τ[i]? =some (some (.val x))\/∃xs,x= .lst xs/\τ[i]? =some (some (.own xs)):=by
 rw[XY] at h;cases e:τ[i]? with
 | none=>rw[e] at h;cases h
 | some o=>
   rw[e] at h;cases o with
   | none=>cases h
   | some a=>
     cases a with
     | val y=>cases h;exact .inl rfl
     | own xs=>cases h;exact .inr ⟨xs,rfl,rfl⟩
def Q4 {τ:A5}{i:Nat}{xs:zy PV}:(frz τ)[i]? ≠some (some (.own xs)):=by
 rw[XY];cases e:τ[i]? with
 | none=>exact λz=>nomatch z
 | some o=>
   cases o with
   | none=>exact λz=>nomatch z
   | some a=>cases a <;> exact λz=>nomatch z
def UV {a:L2.St}{τ:A5}{p:zu}:¬Cn a (frz τ) p:=λ⟨_,_,h,_⟩=>Q4 h
section
variable {K:AAB}{B:C5}{T T':zu->Prop}{H H':Hp}{σ:L2.St}{τ:A5}
def SR.frz (s:SR K B T H σ τ):SR K B T H σ (frz τ):=by
 have d:Mv K T (mt B σ τ) H T (mt B σ (PL.frz τ)) H:= .anti s.va λa m=>m.elim .inl λz=>absurd z UV;refine⟨by simp[PL.frz,s.len],λi x e=> ?_,λi xs e=>absurd e Q4,λi j xs ys p e=>absurd e Q4,s.tp,s.bm,s.bt,s.st⟩;rcases fM e with c|⟨xs,f,c⟩
 .obtain ⟨v,h,r⟩:=s.val i x c;exact⟨v,h,r.mv d⟩
 .subst f;obtain⟨p,vs,g,h,r,b,t,m⟩:=s.own i xs c;exact⟨.ref p,g, .lst h t (λz=>z.elim m UV) (r.mv d)⟩
end
mutual
def Xq:PV->km
 | .lst _=>false
 | .tape=>false
 | .scr _=>false
 | .dct _=>false
 | .tup xs=>UB xs
 | _=>true
def UB:zy PV->km
 | [] =>true
 | x::xs=>Xq x&&UB xs
end
section
variable {K:AAB}{T M M':zu->Prop}{H:Hp}
mutual
theorem CM.free:∀{v:V} {x:PV},Xq x=true->CM K T M H v x->CM K T M' H v x
 | _,_,_, .non=> .non
 | _,_,_, .bl b=> .bl b
 | _,_,_, .int i=> .int i
 | _,_,_, .str x=> .str x
 | _,_,_, .ty n=> .ty n
 | _,_,n, .tup h r=> .tup h (Au.free (by rw[Xq] at n;exact n) r)
 | _,_,n, .lst _ _ _ _=>by rw[Xq] at n;cases n
 | _,_,n, .tape _=>by rw[Xq] at n;cases n
 | _,_,n, .scr _=>by rw[Xq] at n;cases n
 | _,_,n, .dct _ _ _=>by rw[Xq] at n;cases n
 | _,_,_, .dk h e=> .dk h e
theorem Au.free:∀{vs:zy V} {xs:zy PV},UB xs=true->Au K T M H vs xs->Au K T M' H vs xs
 | _,_,_, .nil=> .nil
 | _,_,n, .cons h t=>by rw[UB,AAq] at n;exact .cons (CM.free n.1 h) (Au.free n.2 t)
end
end
abbrev AE:=A5->(PV->Prop)->Prop
abbrev AT:=A5->(km->Prop)->Prop
abbrev AA:=A5->(zy PV->Prop)->Prop
abbrev AF:=zy PV->(PV->Prop)->Prop
def Sd:A5->Nat->zt AV
 | [],_=>none
 | x::_,0=>x
 | _::r,n+1=>Sd r n
theorem N9:∀{τ:A5} {i:Nat} {a:AV},Sd τ i=some a->τ[i]? =some (some a)
 | [],_,_,h=>by simp[Sd] at h
 | x::_,0,_,h=>by simpa[Sd] using h
 | _::r,n+1,a,h=>by have:=N9 (τ:=r) (i:=n) (a:=a) (by simpa[Sd] using h);simpa using this
def WK (x:PV)(R:Int->Prop):Prop:=match x with | .int i=>R i|_=>False
def ku (x y:PV)(R:Int->Int->Prop):Prop:=match x,y with | .int i, .int j=>R i j|_,_=>False
def eJ (x:PV)(R:km->Prop):Prop:=match x with | .bl b=>R b|_=>False
def eM (o:zt PV)(R:PV->Prop):Prop:=match o with | some z=>R z|none=>False
def k9 {o:zt PV}{R:PV->Prop}(h:eM o R):∃z,o=some z/\R z:=by cases o <;> first | exact⟨_,rfl,h⟩|exact h.elim
def Oq (x:PV)(R:zy PV->Prop):Prop:=match x with | .tup xs=>R xs | .lst xs=>R xs|_=>False
def Re {x:PV}{R:Int->Prop}(h:WK x R):∃i,x= .int i/\R i:=by cases x <;> first | exact⟨_,rfl,h⟩|exact h.elim
def Mb {x y:PV}{R:Int->Int->Prop}(h:ku x y R):∃i j,x= .int i/\y= .int j/\R i j:=by cases x <;> cases y <;> first | exact⟨_,_,rfl,rfl,h⟩|exact h.elim
def Rc {x:PV}{R:km->Prop}(h:eJ x R):∃b,x= .bl b/\R b:=by cases x <;> first | exact⟨_,rfl,h⟩|exact h.elim
def JB {x:PV}{R:zy PV->Prop}(h:Oq x R):∃xs,(x= .tup xs\/x= .lst xs)/\R xs:=by cases x <;> first | exact⟨_, .inl rfl,h⟩|exact⟨_, .inr rfl,h⟩|exact h.elim
def CM.toI {K:AAB}{T M:zu->Prop}{H:Hp}{v:V}{i:Int}(r:CM K T M H v (.int i)):v= .int i:=by cases r;rfl
def CM.toB {K:AAB}{T M:zu->Prop}{H:Hp}{v:V}{i:km}(r:CM K T M H v (.bl i)):v= .bl i:=by cases r;rfl
def Ge (K:AAB)(t:TE)(a:AE):Prop:=∀(B:C5) (T:zu->Prop) (b:L2.St) (τ:A5) (H:Hp) (Q:VK) (d:PV->Prop),SR K B T H b τ->a τ d->
 (∀v x e c,DI T H e c->CM K e (mt B b τ) c v x->d x->Q v c)->t b H Q
def NU (K:AAB)(t:TT)(a:AT):Prop:=∀(B:C5) (T:zu->Prop) (c:L2.St) (τ:A5) (H:Hp) (Q:km->Hp->Prop) (d:km->Prop),SR K B T H c τ->a τ d->
 (∀b f e,DI T H f e->d b->Q b e)->t c H Q
def je (K:AAB)(t:TA)(a:AA):Prop:=∀(B:C5) (T:zu->Prop) (b:L2.St) (τ:A5) (H:Hp) (Q:zy V->Hp->Prop) (d:zy PV->Prop),SR K B T H b τ->a τ d->
 (∀vs xs e c,DI T H e c->Au K e (mt B b τ) c vs xs->d xs->Q vs c)->t b H Q
def aK (K:AAB)(t:TE)(a:AA):Prop:=∀(B:C5) (T:zu->Prop) (c:L2.St) (τ:A5) (H:Hp) (Q:VK) (e:zy PV->Prop),SR K B T H c τ->a τ e->
 (∀p vs xs d b,DI T H d b->SR K (B.add p) d b c τ->H p=none->b p=some (.lst vs)->¬d p->Au K d (mt (B.add p) c τ) b vs xs->e xs->Q (.ref p) b)->t c H Q
def SE (X:Cx)(e:zr)(a:AE):Prop:=∃t,PE X e t/\Ge X.K t a
def Sc (X:Cx)(e:zr)(a:AT):Prop:=∃t,PT X e t/\NU X.K t a
def SW (X:Cx)(e:zr)(a:AT):Prop:=∃t,PW X e t/\NU X.K t a
def SA (X:Cx)(es:zy zr)(a:AA):Prop:=∃t,PA X es t/\je X.K t a
def SF (X:Cx)(e:zr)(a:AA):Prop:=∃t,PE X e t/\aK X.K t a
abbrev Ja:=PV->PV->(PV->Prop)->Prop
def CZ (K:AAB)(r:R2)(f:Ja):Prop:=∀(T M:zu->Prop) (H:Hp) (u v:V) (x y:PV) (Q:VK) (b:PV->Prop),Gi T M H->CM K T M H u x->CM K T M H v y->f x y b->
 (∀w z c a,DI T H c a->CM K c M a w z->b z->Q w a)->r u v H Q
def E7 (K:AAB)(r:zy V->Hp->VK->Prop)(f:AF):Prop:=∀(T M:zu->Prop) (H:Hp) (us:zy V) (xs:zy PV) (Q:VK) (b:PV->Prop),Gi T M H->Au K T M H us xs->f xs b->
 (∀w z c a,DI T H c a->CM K c M a w z->b z->Q w a)->r us H Q
section
variable {X:Cx}{a b c:zr}{es:zy zr}{pos:Pos}{ta tb:AE}{tA tB':AT}
def aV (i:Nat):AE:=λτ Q=>match Sd τ i with | some (.val x)=>Q x|_=>False
def nR {i:Nat}{τ:A5}{Q:PV->Prop}(h:aV i τ Q):∃x,τ[i]? =some (some (.val x))/\Q x:=by
 unfold aV at h;cases e:Sd τ i with
 | none=>rw[e] at h;exact h.elim
 | some z=>
   rw[e] at h;cases z with
   | own xs=>exact h.elim
   | val x=>exact⟨x,N9 e,h⟩
def AJ (i:Nat){x:Str}{pos:Pos}(hN:X.N[i]? =some x:=by rfl)(hv:jh X.env.scope x:=by first | exact Or.inl rfl|exact Or.inr (Or.inl rfl)|exact Or.inr (Or.inr rfl))(hd:(x==("__debug__" :Str))=false:=by decide)(d:(x==("__classdict__" :Str))=false:=by decide):SE X (.Name x pos) (aV i):=by refine⟨_,Ri hN hv hd d,λB T g τ H Q j s h k=> ?_⟩;obtain⟨x,e,q⟩:=nR h;obtain⟨v,f,r⟩:=s.val i x e;exact⟨v,f,k v x T H (.refl s.tp) r q⟩
def aC (x:PV):AE:=λ_ Q=>Q x
def Ul {v:V}{x:PV}(h:∀T M H,CM X.K T M H v x):Ge X.K (tC v) (aC x):=λB T d τ H Q e s h' k=>k v x T H (.refl s.tp) (h _ _ _) h'
def AH {i:Int}{j pos}:SE X (.Constant (.int i) j pos) (aC (.int i)):=⟨_,A3,Ul λ_ _ _=> .int i⟩
def OX {i:km}{j pos}:SE X (.Constant (.bool i) j pos) (aC (.bl i)):=⟨_,o6,Ul λ_ _ _=> .bl i⟩
def Ba {j pos}:SE X (.Constant .none j pos) (aC .non):=⟨_,cN,Ul λ_ _ _=> .non⟩
def Wa {i:Str}{j pos}:SE X (.Constant (.str i) j pos) (aC (.str i)):=⟨_,lM,Ul λ_ _ _=> .str i⟩
def AW (f:Ja)(ta tb:AE):AE:=λτ Q=>ta τ λx=>tb τ λy=>f x y Q
def SH {r:R2}{f:Ja}{t u:TE}(i:CZ X.K r f)(ha:Ge X.K t ta)(hb:Ge X.K u tb):Ge X.K (Zh r t u) (AW f ta tb):=by intro B T g τ H Q j s h k;refine ha B T g τ H _ _ s h λv x l H1 d m h1=> ?_;refine hb B l g τ H1 _ _ (s.stp d) h1 λw y n o e p h2=> ?_;have A:=(s.stp d).stp e;exact i n _ o v w x y Q j A.va (m.stp e (s.stp d).va) p h2 λw z T3 C D E q=>k w z T3 C ((d.trans e).trans D) E q
def Ae {op:Operator}{r:R2}{f:Ja}(d:EZ X (binaryOp op) r/\CZ X.K r f)(ha:SE X a ta)(hb:SE X b tb):SE X (.BinOp a op b pos) (AW f ta tb):=
 let ⟨_,p,s⟩:=ha;let ⟨_,e,g⟩:=hb;⟨_,B8 d.1 p e,SH d.2 s g⟩
def C1 {op:CmpOp}{r:R2}{f:Ja}(d:EZ X (compareOp op) r/\CZ X.K r f)(ha:SE X a ta)(hb:SE X b tb)(e:behindInMarks op b=false):SE X (.Compare a [op] [b] pos) (AW f ta tb):=
 let ⟨_,p,s⟩:=ha;let ⟨_,g,h⟩:=hb;⟨_,Xv d.1 p g e,SH d.2 s h⟩
def pT {r:R2}{f:Ja}(d:e6 X r/\CZ X.K r f)(ha:SE X a ta)(hb:SE X b tb)(hs:Qq b):SE X (.Subscript a b pos) (AW f ta tb):=
 let ⟨_,p,s⟩:=ha;let ⟨_,e,g⟩:=hb;⟨_,Lr d.1 p e hs,SH d.2 s g⟩
def fI (g:Int->Int->PV):Ja:=λx y Q=>ku x y λi j=>Q (g i j)
def mZ (C:Int->Int->Prop)(g:Int->Int->PV):Ja:=λx y Q=>ku x y λi j=>C i j/\Q (g i j)
def YD {g:Int->Int->V}{g':Int->Int->PV}(d:∀i j T M H,CM X.K T M H (g i j) (g' i j)):CZ X.K (Pf g) (fI g'):=by intro T M H u v x y Q f va e rv h k;obtain⟨i,j,rfl,rfl,q⟩:=Mb h;exact⟨i,j,e.toI,rv.toI,k _ _ T H (.refl va.tp) (d i j T M H) q⟩
def R9 {C:Int->Int->Prop}{g:Int->Int->V}{g':Int->Int->PV}(d:∀i j T M H,CM X.K T M H (g i j) (g' i j)):CZ X.K (rI C g) (mZ C g'):=by intro T M H u v x y Q f va e rv h k;obtain⟨i,j,rfl,rfl,c,q⟩:=Mb h;exact⟨i,j,e.toI,rv.toI,c,k _ _ T H (.refl va.tp) (d i j T M H) q⟩
abbrev nY:Ja:=fI λi j=> .int (i+j)
abbrev HC:Ja:=fI λi j=> .int (i-j)
abbrev ap:Ja:=fI λi j=> .bl (decide (i<j))
abbrev Yx:Ja:=fI λi j=> .bl (decide (j<i))
abbrev qF:Ja:=fI λi j=> .bl (decide (j<=i))
def DG:EZ X (binaryOp .Sub) (Pf λi j=> .int (i-j))/\CZ X.K (Pf λi j=> .int (i-j)) HC:=⟨WL,YD λi j _ _ _=> .int _⟩
def HX:EZ X (compareOp .Lt) (Pf λi j=> .bl (decide (i<j)))/\CZ X.K (Pf λi j=> .bl (decide (i<j))) ap:=⟨jD,YD λi j _ _ _=> .bl _⟩
def HW:EZ X (compareOp .Gt) (Pf λi j=> .bl (decide (j<i)))/\CZ X.K (Pf λi j=> .bl (decide (j<i))) Yx:=⟨jC,YD λi j _ _ _=> .bl _⟩
def dM:EZ X (compareOp .GtE) (Pf λi j=> .bl (decide (j<=i)))/\CZ X.K (Pf λi j=> .bl (decide (j<=i))) qF:=⟨jB,YD λi j _ _ _=> .bl _⟩
structure MulOk (i j:Int):Prop where
 l:i.natAbs<2^1000000
 r:j.natAbs<2^1000000
def Rf:EZ X (binaryOp .Mult) (rI MulOk λi j=> .int (i*j)):=lB λ_ _ _ _ _ _ _ hc q=>mul_int q (.of_le (Hi hc.l) (Hi hc.r) (by decide))
abbrev DP:Ja:=mZ MulOk λi j=> .int (i*j)
def BH:EZ X (binaryOp .Mult) (rI MulOk λi j=> .int (i*j))/\CZ X.K (rI MulOk λi j=> .int (i*j)) DP:=⟨Rf,R9 λi j _ _ _=> .int _⟩
structure W7 (i j:Int):Prop where
 ne:j≠0
 lt:j.natAbs<2^8900
def cD:EZ X (binaryOp .FloorDiv) (rI W7 λi j=> .int (i.fdiv j)):=lB λi j _ _ _ _ _ hc q=>
 floordiv_int hc.ne q (.inl (ADu (ACs (J8 hc.lt (by decide)) (by decide))))
abbrev TM:Ja:=mZ W7 λi j=> .int (i.fdiv j)
def GO:EZ X (binaryOp .FloorDiv) (rI W7 λi j=> .int (i.fdiv j))/\CZ X.K (rI W7 λi j=> .int (i.fdiv j)) TM:=⟨cD,R9 λi j _ _ _=> .int _⟩
abbrev TN:Ja:=mZ (λ_ j=>j≠0) λi j=> .int (i.fmod j)
def Oe:EZ X (binaryOp .Mod) (rI (λ_ j=>j≠0) λi j=> .int (i.fmod j))/\CZ X.K (rI (λ_ j=>j≠0) λi j=> .int (i.fmod j)) TN:=⟨gR,R9 λi j _ _ _=> .int _⟩
abbrev nZ:Ja:=mZ eY λi j=> .int (i^j.toNat)
def l9:EZ X (binaryOp .Pow) (rI eY λi j=> .int (i^j.toNat))/\CZ X.K (rI eY λi j=> .int (i^j.toNat)) nZ:=⟨cE,R9 λi j _ _ _=> .int _⟩
def qP:PV->km | .non=>true|_=>false
def II:Ja:=λx y Q=>match y with | .non=>Q (.bl (qP x))|_=>False
def QC:Ja:=λx y Q=>match y with | .non=>Q (.bl (!qP x))|_=>False
def Xj {K:AAB}{T M:zu->Prop}{H:Hp}{v:V}{x:PV}(r:CM K T M H v x):decide (v= .non)=qP x:=by cases r <;> simp[qP]
def GP:EZ X (compareOp .Is) (λx y H Q=>y= .non/\Q (.bl (decide (x= .non))) H)/\CZ X.K (λx y H Q=>y= .non/\Q (.bl (decide (x= .non))) H) II:=by
 refine⟨lE,λT M H u v x y Q e va d rv h k=> ?_⟩;cases y <;> first | exact h.elim|skip
 cases rv;refine⟨rfl, ?_⟩;rw[Xj d];exact k _ _ T H (.refl va.tp) (.bl _) h
def SN:EZ X (compareOp .IsNot) (λx y H Q=>y= .non/\Q (.bl (!decide (x= .non))) H)/\CZ X.K (λx y H Q=>y= .non/\Q (.bl (!decide (x= .non))) H) QC:=by
 refine⟨Xu,λT M H u v x y Q e va d rv h k=> ?_⟩;cases y <;> first | exact h.elim|skip
 cases rv;refine⟨rfl, ?_⟩;rw[Xj d];exact k _ _ T H (.refl va.tp) (.bl _) h
def Am:Ja:=λx y Q=>Oq x λxs=>WK y λi=>eM (Jc xs i) Q
def XG {K:AAB}{T M:zu->Prop}{H:Hp}{vs:zy V}{xs:zy PV}{i:Int}{z:PV}(r:Au K T M H vs xs)(h:Jc xs i=some z):∃v,Jc vs i=some v/\CM K T M H v z:=by
 unfold Jc at h ⊢;rw[r.length];cases e:V2 xs.length i with
 | none=>rw[e] at h;cases h
 | some j=> rw[e] at h;exact r.get h
def pF (K:AAB):R2:=λx y H Q=>pE K x y H Q\/pG K x y H Q
def pV:e6 X (pF X.K)/\CZ X.K (pF X.K) Am:=by
 refine⟨FC.or kN,λT M H u v x y Q g va f rv h k=> ?_⟩;obtain⟨xs,hx,h1⟩:=JB h;obtain⟨i,rfl,h2⟩:=Re h1;cases rv.toI;obtain⟨z,e,q⟩:=k9 h2;rcases hx with rfl|rfl
 .cases f with
  | tup hq r=> obtain⟨w,ew,d⟩:=XG r e;exact .inr ⟨_,_,i,w,rfl,rfl,hq.sq,ew,k w z T H (.refl va.tp) d q⟩
 .cases f with
  | lst hq t m r=> obtain⟨w,ew,d⟩:=XG r e;exact .inl ⟨_,_,i,w,rfl,rfl, .inl (.inl hq),ew,k w z T H (.refl va.tp) d q⟩
def Yj (f:PV->(PV->Prop)->Prop)(ta:AE):AE:=λτ Q=>ta τ λx=>f x Q
def Nj (x:PV)(Q:PV->Prop):Prop:=WK x λi=>Q (.int (-i))
def GL (ha:SE X a ta):SE X (.UnaryOp .USub a pos) (Yj Nj ta):=by obtain⟨t,p,s⟩:=ha;refine⟨_,pA mQ p,λB T d τ H Q l e h k=>s B T d τ H _ _ e h λv x f H1 g j h1=> ?_⟩;obtain⟨i,rfl,q⟩:=Re h1;exact⟨i,j.toI,k _ _ f H1 g (.int _) q⟩
def jz (x:PV)(Q:PV->Prop):Prop:=eJ x λi=>Q (.bl (!i))
def lv (ha:SE X a ta):SE X (.UnaryOp .Not a pos) (Yj jz ta):=by obtain⟨t,p,s⟩:=ha;refine⟨_,lJ p,λB T d τ H Q l e h k=>s B T d τ H _ _ e h λv x f H1 g j h1=> ?_⟩;obtain⟨i,rfl,q⟩:=Rc h1;exact⟨i,j.toB,k _ _ f H1 g (.bl _) q⟩
def VN (ta tb:AE):AE:=λτ Q=>ta τ λx=>eJ x λc=>if c=true then tb τ Q else Q (.bl false)
def qE (ta tb:AE):AE:=λτ Q=>ta τ λx=>eJ x λc=>if c=true then Q (.bl true) else tb τ Q
def LV {op}(h:SE X a ta):SE X (.BoolOp op [a] pos) ta:=let ⟨_,p,s⟩:=h;⟨_,lK p,s⟩
def OW {rest:zy zr}(ha:SE X a ta)(hb:SE X (.BoolOp .And (b::rest) pos) tb):SE X (.BoolOp .And (a::b::rest) pos) (VN ta tb):=by
 obtain⟨t,p,s⟩:=ha;obtain⟨t',j,l⟩:=hb;refine⟨_,lH p j,λB T e τ H Q z f h k=>s B T e τ H _ _ f h λv x g H1 d m h1=> ?_⟩;obtain⟨i,rfl,q⟩:=Rc h1;refine⟨i,m.toB, ?_⟩;cases i with
 | true=>rw[AAE rfl] at q ⊢;exact l B g e τ H1 _ _ (f.stp d) q λw y n o r u h2=>k w y n o (d.trans r) u h2
 | false=>rw[AAD AAR] at q ⊢;exact k _ _ g H1 d (.bl _) q
def jJ {rest:zy zr}(ha:SE X a ta)(hb:SE X (.BoolOp .Or (b::rest) pos) tb):SE X (.BoolOp .Or (a::b::rest) pos) (qE ta tb):=by
 obtain⟨t,p,s⟩:=ha;obtain⟨t',j,l⟩:=hb;refine⟨_,o8 p j,λB T e τ H Q z f h k=>s B T e τ H _ _ f h λv x g H1 d m h1=> ?_⟩;obtain⟨i,rfl,q⟩:=Rc h1;refine⟨i,m.toB, ?_⟩;cases i with
 | false=>rw[AAD AAR] at q ⊢;exact l B g e τ H1 _ _ (f.stp d) q λw y n o r u h2=>k w y n o (d.trans r) u h2
 | true=>rw[AAE rfl] at q ⊢;exact k _ _ g H1 d (.bl _) q
def Aw (ta:AE):AT:=λτ Q=>ta τ λx=>eJ x Q
def SL {t:TE}(s:Ge X.K t ta):NU X.K (dj t) (Aw ta):=λB T d τ H Q l e h k=>s B T d τ H _ _ e h λv x f H1 g j h1=>by obtain⟨i,rfl,q⟩:=Rc h1;exact⟨i,j.toB,k _ f H1 g q⟩
def mD {op:CmpOp}{r:R2}{f:Ja}(d:EZ X (compareOp op) r/\CZ X.K r f)(ha:SE X a ta)(hb:SE X b tb)(e:behindInMarks op b=false):Sc X (.Compare a [op] [b] pos) (Aw (AW f ta tb)):=
 let ⟨_,p,s⟩:=ha;let ⟨_,g,h⟩:=hb;⟨_,Md d.1 p g e,SL (SH d.2 s h)⟩
def CL {e:zr}(h:SE X e ta)(he:∀whole,isTrue e X.env whole=(do let v <-whole;standAt e.pos;holding [v] (truthy v)):=by intro _;rfl):Sc X e (Aw ta):=
 let ⟨_,p,s⟩:=h;⟨_,lS p he,SL s⟩
def NX (t:AT):AT:=λτ Q=>t τ λc=>Q (!c)
def E9 (t u:AT):AT:=λτ Q=>t τ λc=>if c=true then u τ Q else Q false
def VQ (t u:AT):AT:=λτ Q=>t τ λc=>if c=true then Q true else u τ Q
def SV (ha:Sc X a tA):Sc X (.UnaryOp .Not a pos) (NX tA):=by obtain⟨t,p,s⟩:=ha;exact⟨_,lR p,λB T d τ H Q i e h k=>s B T d τ H _ _ e h λv f H1 g h1=>k _ f H1 g h1⟩
def DV (ha:Sc X a tA):SW X (.BoolOp .And [a] pos) tA:=let ⟨_,p,s⟩:=ha;⟨_,gr p,s⟩
def Oj (ha:Sc X a tA):SW X (.BoolOp .Or [a] pos) tA:=let ⟨_,p,s⟩:=ha;⟨_,lU p,s⟩
def EM {rest:zy zr}(ha:Sc X a tA)(hb:SW X (.BoolOp .And (b::rest) pos) tB'):SW X (.BoolOp .And (a::b::rest) pos) (E9 tA tB'):=by
 obtain⟨t,p,s⟩:=ha;obtain⟨t',j,l⟩:=hb;refine⟨_,lT p j,λB T e τ H Q r f h k=>s B T e τ H _ _ f h λi g H1 d q=> ?_⟩;cases i with
 | true=>rw[AAE rfl] at q ⊢;exact l B g e τ H1 _ _ (f.stp d) q λb m n o h2=>k b m n (d.trans o) h2
 | false=>rw[AAD AAR] at q ⊢;exact k _ g H1 d q
def Uq {rest:zy zr}(ha:Sc X a tA)(hb:SW X (.BoolOp .Or (b::rest) pos) tB'):SW X (.BoolOp .Or (a::b::rest) pos) (VQ tA tB'):=by
 obtain⟨t,p,s⟩:=ha;obtain⟨t',j,l⟩:=hb;refine⟨_,pB p j,λB T e τ H Q r f h k=>s B T e τ H _ _ f h λi g H1 d q=> ?_⟩;cases i with
 | false=>rw[AAD AAR] at q ⊢;exact l B g e τ H1 _ _ (f.stp d) q λb m n o h2=>k b m n (d.trans o) h2
 | true=>rw[AAE rfl] at q ⊢;exact k _ g H1 d q
def HZ (h:SW X a tA):Sc X a tA:=let ⟨_,p,s⟩:=h;⟨_,p.pt,s⟩
def jj (t:AT)(ta tb:AE):AE:=λτ Q=>t τ λc=>if c=true then ta τ Q else tb τ Q
def Uk (hc:Sc X c tA)(ha:SE X a ta)(hb:SE X b tb):SE X (.IfExp c a b pos) (jj tA ta tb):=by
 obtain⟨t,p,s⟩:=hc;obtain⟨x,u,e⟩:=ha;obtain⟨z,v,f⟩:=hb;refine⟨_,cK p u v,λB T g τ H Q A j h k=>s B T g τ H _ _ j h λi r H1 d q=> ?_⟩;cases i with
 | true=>rw[AAE rfl] at q ⊢;exact e B r g τ H1 _ _ (j.stp d) q λw y l m n o h2=>k w y l m (d.trans n) o h2
 | false=>rw[AAD AAR] at q ⊢;exact f B r g τ H1 _ _ (j.stp d) q λw y l m n o h2=>k w y l m (d.trans n) o h2
def AL:AA:=λ_ Q=>Q []
def AB (ta:AE)(r:AA):AA:=λτ Q=>ta τ λx=>r τ λxs=>Q (x::xs)
def DF:SA X [] AL:=⟨_,FP,λB T e τ H Q f d h k=>k [] [] T H (.refl d.tp) .nil h⟩
def C9 {e:zr}{r:AA}(ha:SE X e ta)(j:SA X es r)(hs:starEach (e::es) X.env=(false,eval e X.env)::starEach es X.env:=by rfl):SA X (e::es) (AB ta r):=by obtain⟨t,p,s⟩:=ha;obtain⟨t',l,m⟩:=j;refine⟨_,CS p l hs,λB T g τ H Q z d h k=>s B T g τ H _ _ d h λv x n H1 f o h1=> ?_⟩;exact m B n g τ H1 _ _ (d.stp f) h1 λvs xs u w i y h2=>k _ _ u w (f.trans i) (.cons (o.stp i (d.stp f).va) y) h2
def A9 (r:AA):AE:=λτ Q=>r τ λxs=>xs.length<=sizeLine/\Q (.tup xs)
def Af {x1}{r:AA}(h:SA X es r):SE X (.Tuple es x1 pos) (A9 r):=by obtain⟨t,p,s⟩:=h;refine⟨_,OI p,λB T g τ H Q j d h k=>s B T g τ H _ _ d h λvs xs i H1 e f h1=>⟨by rw[f.length];exact h1.1,λq hq=> ?_⟩⟩;have l:=DI.lay (o:= .tup vs) (d.stp e).tp hq;exact k _ _ i _ (e.trans l) (.tup (.inl Aa) (f.stp l (d.stp e).va)) h1.2
def DE (r:AA):AA:=λτ Q=>r τ λxs=>xs.length<=sizeLine/\Q xs
def Xl {K:AAB}{B:C5}{T:zu->Prop}{H:Hp}{d:L2.St}{τ:A5}{p:zu}{vs:zy V}{xs:zy PV}(f:SR K B T H d τ)(hq:H p=none)(r:Au K T (mt B d τ) H vs xs):DI T H T (upd H p (.lst vs))/\SR K (B.add p) T (upd H p (.lst vs)) d τ/\¬T p/\Au K T (mt (B.add p) d τ) (upd H p (.lst vs)) vs xs:=by
 have l:=DI.lay (o:= .lst vs) f.tp hq;have g:¬T p:=λz=>by obtain⟨o,e,_⟩:=(f.tp p z).mut;rw[hq] at e;cases e
 refine⟨l,f.add l hq Aa Ku.lst g,g,r.mv ⟨f.va,λb o t _ e=>l.keep b o t e,l.sub,λb n t=>t,λb n z=> ?_⟩⟩;rcases z with(z|z)|z
 .exact .inl z
 .subst z;exact absurd hq n
 .exact .inr z
def BQ {r:AA}(h:SA X es r):SF X (.List es pos) (DE r):=by obtain⟨t,p,s⟩:=h;refine⟨_,cM p,λB T i τ H Q o f h k=>s B T i τ H _ _ f h λvs xs j H1 d g h1=>⟨by rw[g.length];exact h1.1,λq hq=> ?_⟩⟩;obtain⟨l,e,m,n⟩:=Xl (f.stp d) hq g;exact k q vs xs j _ (d.trans l) e (d.none hq) Aa m n h1.2
def Ea (r:AA):AE:=λτ Q=>r τ λxs=>Q (.lst xs)
def dI {t:TE}{r:AA}(s:aK X.K t r):Ge X.K t (Ea r):=λB T g τ H Q w d h k=>s B T g τ H _ _ d h λp vs xs j H1 l f i hp n u h1=>by
 have v:¬Cn g τ p:=λo=>by obtain⟨_,e,_⟩:=d.ownH o;rw[i] at e;cases e
 have hb:¬B.M p:=λo=>by obtain⟨_,e,_⟩:=d.bm p o;rw[i] at e;cases e
 exact k _ _ j H1 l (.lst hp n (λz=>z.elim hb v) (u.mv (.anti f.va λa m=>m.elim (λz=> .inl (.inl z)) .inr))) h1
def Ci {r:AA}(h:SF X a r):SE X a (Ea r):=let ⟨_,p,s⟩:=h;⟨_,p,dI s⟩
def Cf (K:AAB)(n:Nat)(F:AF):Sp:=λvs H Q _=>∃(T M:zu->Prop) (xs:zy PV) (e:PV->Prop),Gi T M H/\(∀a,M a->¬T a)/\Au K T M H vs xs/\xs.length=n/\F xs e/\
 ∀v x f d,DI T H f d->CM K f M d v x->e x->Q v d
def AN (n:Nat)(F:AF)(r:AA):AE:=λτ Q=>r τ λxs=>xs.length=n/\F xs Q
def AK {x:Str}{p:Pos}{e:zr}{k n:Nat}{g:zy Str}{F:AF}{r:AA}(D:Has X.prog X.w X.K X.mg X.base k x g (Cf X.K n F))(i:Room k X.A)(j:Gl X x)(ha:SA X (e::es) r)(hs:starEach (e::es) X.env=(false,eval e X.env)::starEach es X.env:=by rfl)(hpl:(backTo pos (starEach es X.env)).any (·.1)=false:=by rfl)(hd:(x==("__debug__" :Str))=false:=by decide):SE X (.Call (.Name x p) (e::es) [] pos) (AN n F r):=by obtain⟨t,l,s⟩:=ha;refine⟨_,lI D i j l hs hpl hd,λB T o τ H Q u d h k=>s B T o τ H _ _ d h λvs xs y H1 f z h1=> ?_⟩;rw[ABU];exact⟨y,_,xs,u,(d.stp f).va,λa m=>(d.stp f).nt m,z,h1.1,h1.2,λv x C E G I q=>k v x C E (f.trans G) I q⟩
def F2 (f:AF)(r:AA):AE:=λτ Q=>r τ λxs=>f xs Q
def dH {d:zy V->Hp->VK->Prop}{f:AF}{t:TA}{r:AA}(i:E7 X.K d f)(s:je X.K t r):Ge X.K (tL d t) (F2 f r):=λB T j τ H Q l e h k=>s B T j τ H _ _ e h λvs xs m H1 g n h1=>
 i m _ H1 vs xs Q l (e.stp g).va n h1 λw z o p u v q=>k w z o p (g.trans u) v q
def BV {id:String}{x:Str}{p:Pos}{e:zr}{d:zy V->Hp->VK->Prop}{f:AF}{r:AA}(hc:Cr X (.builtin id) d/\E7 X.K d f)(g:Gl X x)(h:X.mg x=none)(hv:bootBuiltins x=some (.builtin id))(ha:SA X (e::es) r)(i:x≠"__name__" :=by decide)(hdb:(x==("__debug__" :Str))=false:=by decide)(he:starEach (e::es) X.env=(false,eval e X.env)::starEach es X.env:=by rfl)(hpl:(backTo pos (starEach es X.env)).any (·.1)=false:=by rfl):SE X (.Call (.Name x p) (e::es) [] pos) (F2 f r):=by obtain⟨t,j,s⟩:=ha;exact⟨_,KF hc.1 g h hv j i hdb he hpl,dH hc.2 s⟩
def BZ {T:String}{x:Str}{p:Pos}{e:zr}{d:zy V->Hp->VK->Prop}{f:AF}{r:AA}(hc:Cr X (.type T) d/\E7 X.K d f)(g:Gl X x)(h:X.mg x=none)(hv:bootBuiltins x=some (.type T))(ha:SA X (e::es) r)(i:x≠"__name__" :=by decide)(hdb:(x==("__debug__" :Str))=false:=by decide)(he:starEach (e::es) X.env=(false,eval e X.env)::starEach es X.env:=by rfl)(hpl:(backTo pos (starEach es X.env)).any (·.1)=false:=by rfl):SE X (.Call (.Name x p) (e::es) [] pos) (F2 f r):=by obtain⟨t,j,s⟩:=ha;exact⟨_,LI hc.1 g h hv j i hdb he hpl,dH hc.2 s⟩
end
section
variable {X:Cx}
def Ex {K:AAB}{T M:zu->Prop}{H:Hp}{v:V}{xs:zy PV}(r:CM K T M H v (.tup xs)):∃a vs,v= .ref a/\MF K H a vs/\Au K T M H vs xs:=by
 cases r with
 | tup h r=>exact⟨_,_,rfl,h.sq,r⟩
def dO {K:AAB}{T M:zu->Prop}{H:Hp}{v:V}{xs:zy PV}(r:CM K T M H v (.tup xs)):∃a vs,v= .ref a/\qD K H a vs/\Au K T M H vs xs:=by
 cases r with
 | tup h r=>exact⟨_,_,rfl,h,r⟩
def DH {K:AAB}{T M:zu->Prop}{H:Hp}{v:V}{xs:zy PV}(r:CM K T M H v (.lst xs)):∃a vs,v= .ref a/\H a=some (.lst vs)/\¬T a/\¬M a/\Au K T M H vs xs:=by
 cases r with
 | lst h t m r=>exact⟨_,_,rfl,h,t,m,r⟩
def c9 {K:AAB}{T M:zu->Prop}{H:Hp}{v:V}{b:zy Int}(r:CM K T M H v (.scr b)):∃a,v= .ref a/\E8 K H a (b.map V.int):=by
 cases r with
 | scr h=>
   rcases h with⟨h,_,_⟩|h
   .exact ⟨_,rfl, .inl h⟩
   .exact ⟨_,rfl,h H⟩
def IJ:AF:=λxs Q=>match xs with | [.tup ys] =>Q (.int ys.length) | [.lst ys] =>Q (.int ys.length) | [.scr ns] =>Q (.int ns.length)|_=>False
def pH (K:AAB):zy V->Hp->VK->Prop:=λxs H Q=>∃p ys,xs= [.ref p] /\(E8 K H p ys\/MF K H p ys)/\Q (.int ys.length) H
def FX:Cr X (.builtin "len") (pH X.K)/\E7 X.K (pH X.K) IJ:=by
 refine⟨Jx,λT M H us xs Q b va r h k=> ?_⟩;unfold IJ at h;split at h <;> first | exact h.elim|skip
 .rename_i ys;cases r with | cons r t=>cases t;obtain⟨a,vs,rfl,hq,r⟩:=Ex r;refine⟨a,vs,rfl, .inr hq, ?_⟩;rw[r.length];exact k _ _ T H (.refl va.tp) (.int _) h
 .rename_i ys;cases r with | cons r t=>cases t;obtain⟨a,vs,rfl,hq,_,_,r⟩:=DH r;refine⟨a,vs,rfl, .inl (.inl (.inl hq)), ?_⟩;rw[r.length];exact k _ _ T H (.refl va.tp) (.int _) h
 .rename_i c;cases r with | cons r t=>cases t;obtain⟨a,rfl,hq⟩:=c9 r;refine⟨a,_,rfl, .inl hq, ?_⟩;rw[AAI];exact k _ _ T H (.refl va.tp) (.int _) h
def Y0:AF:=λxs Q=>match xs with | [.int i] =>Q (.int i.natAbs)|_=>False
def R4:Cr X (.builtin "abs") (λxs H Q=>∃i,xs= [.int i] /\Q (.int (if i<0 then -i else i)) H)/\E7 X.K (λxs H Q=>∃i,xs= [.int i] /\Q (.int (if i<0 then -i else i)) H) Y0:=by
 refine⟨Nc,λT M H us xs Q a va r h k=> ?_⟩;unfold Y0 at h;split at h <;> first | exact h.elim|skip
 rename_i i;cases r with
 | cons r t=> cases t;cases r;refine⟨i,rfl, ?_⟩;rw[show (if i<0 then -i else i)=(i.natAbs:Int) by split <;> omega];exact k _ _ T H (.refl va.tp) (.int _) h
def j4 (g:Int->Int->Int):AF:=λxs Q=>match xs with | [.int i, .int j] =>Q (.int (g i j))|_=>False
def dG {g g':Int->Int->Int}(a:∀i j,g i j=g' i j):E7 X.K (λxs H Q=>∃i j,xs= [.int i, .int j] /\Q (.int (g i j)) H) (j4 g'):=by
 intro T M H us xs Q c va r h k;unfold j4 at h;split at h <;> first | exact h.elim|skip
 rename_i i j;cases r with
 | cons r t=>
   cases t with
   | cons b t=> cases t;cases r;cases b;refine⟨i,j,rfl, ?_⟩;rw[a];exact k _ _ T H (.refl va.tp) (.int _) h
def lp (hc:X.calm=true):Cr X (.builtin "min") (λxs H Q=>∃i j,xs= [.int i, .int j] /\Q (.int (if j<i then j else i)) H)/\E7 X.K (λxs H Q=>∃i j,xs= [.int i, .int j] /\Q (.int (if j<i then j else i)) H) (j4 min):=
 ⟨Yp hc,dG λi j=>by split <;> omega⟩
def ln (hc:X.calm=true):Cr X (.builtin "max") (λxs H Q=>∃i j,xs= [.int i, .int j] /\Q (.int (if j>i then j else i)) H)/\E7 X.K (λxs H Q=>∃i j,xs= [.int i, .int j] /\Q (.int (if j>i then j else i)) H) (j4 max):=
 ⟨Yo hc,dG λi j=>by split <;> omega⟩
def ay:AF:=λxs Q=>match xs with | [.int i] =>Q (.int i) | [.bl k] =>Q (.int (if k then 1 else 0))|_=>False
def c6:Cr X (.type "int") (λxs H Q=>(∃i,xs= [.int i] /\Q (.int i) H)\/∃k,xs= [.bl k] /\Q (.int (if k then 1 else 0)) H)/\E7 X.K (λxs H Q=>(∃i,xs= [.int i] /\Q (.int i) H)\/∃k,xs= [.bl k] /\Q (.int (if k then 1 else 0)) H) ay:=by
 refine⟨P4,λT M H us xs Q a va r h k=> ?_⟩;unfold ay at h;split at h <;> first | exact h.elim|skip
 .cases r with | cons r t=>cases t;cases r;exact .inl ⟨_,rfl,k _ _ T H (.refl va.tp) (.int _) h⟩
 .cases r with | cons r t=>cases t;cases r;exact .inr ⟨_,rfl,k _ _ T H (.refl va.tp) (.int _) h⟩
def Dm:AF:=λxs Q=>match xs with | [.tup ys] =>Q (.tup ys) | [.lst ys] =>Q (.tup ys)|_=>False
def cg (K:AAB):zy V->Hp->VK->Prop:=λxs H Q=>∃p ys,xs= [.ref p] /\((E8 K H p ys/\∀l,H l=none->Q (.ref l) (upd H l (.tup ys)))\/(MF K H p ys/\Q (.ref p) H))
def C0:Cr X (.type "tuple") (cg X.K)/\E7 X.K (cg X.K) Dm:=by
 refine⟨PH,λT M H us xs Q c va r h k=> ?_⟩;unfold Dm at h;split at h <;> first | exact h.elim|skip
 .cases r with | cons r t=>cases t;obtain⟨a,vs,rfl,hq,b⟩:=dO r;exact⟨a,vs,rfl, .inr ⟨hq.sq,k _ _ T H (.refl va.tp) (.tup hq b) h⟩⟩
 .cases r with
  | cons r t=> cases t;obtain⟨a,vs,rfl,hq,_,_,b⟩:=DH r;refine⟨a,vs,rfl, .inl ⟨.inl (.inl hq),λl hl=> ?_⟩⟩;have s:=DI.lay (o:= .tup vs) va.tp hl;exact k _ _ T _ s (.tup (.inl Aa) (b.stp s va)) h
def Jv:zy PV->zt (zy km)
 | [] =>some []
 | .bl b::r=>(Jv r).map (b :: ·)
 | _=>none
theorem XI {K:AAB}{T M:zu->Prop}{H:Hp}:∀{vs:zy V} {xs:zy PV} {bs:zy km},Au K T M H vs xs->Jv xs=some bs->vs=bs.map V.bl
 | _,_,_, .nil,e=>by simp[Jv] at e;subst e;rfl
 | _,_,bs, .cons h t,e=>by cases h <;> simp[Jv] at e;obtain⟨c,a,b⟩:=e;subst b;simp[XI t a]
def Vj (g:zy km->km):AF:=λxs Q=>match xs with | [.lst ys] =>(match Jv ys with | some bs=>Q (.bl (g bs))|none=>False)|_=>False
def YE {g:zy km->km}:E7 X.K (WP X.K g) (Vj g):=by
 intro T M H us xs Q c va r h k;unfold Vj at h;split at h <;> first | exact h.elim|skip
 split at h <;> first | exact h.elim|skip
 rename_i bs e;cases r with
 | cons r t=> cases t;obtain⟨a,d,rfl,hq,_,_,b⟩:=DH r;have:=XI b e;subst this;exact⟨a,bs,rfl, .inl (.inl hq),k _ _ T H (.refl va.tp) (.bl _) h⟩
def lh (hc:X.calm=true):Cr X (.builtin "all") (WP X.K λbs=>bs.all id)/\E7 X.K (WP X.K λbs=>bs.all id) (Vj λbs=>bs.all id):=⟨Ym hc,YE⟩
def lj (hc:X.calm=true):Cr X (.builtin "any") (WP X.K λbs=>bs.any id)/\E7 X.K (WP X.K λbs=>bs.any id) (Vj λbs=>bs.any id):=⟨Yn hc,YE⟩
def c8:PV->PV->zt km
 | .non, .non=>some true | .non, .int _=>some false | .int _, .non=>some false | .non, .bl _=>some false | .bl _, .non=>some false | .non, .str _=>some false | .str _, .non=>some false
 | .int i, .int j=>some (decide (i=j)) | .bl i, .bl j=>some (decide (i=j)) | .str i, .str j=>some (decide (i=j))
 | .int _, .str _=>some false | .str _, .int _=>some false | .bl _, .str _=>some false | .str _, .bl _=>some false
 | _,_=>none
def Ui {K:AAB}{T M:zu->Prop}{H:Hp}{u v:V}{x y:PV}{b:km}(r:CM K T M H u x)(a:CM K T M H v y)(e:c8 x y=some b):lq u v=true/\decide (u=v)=b:=by cases r <;> cases a <;> first | (cases e;done)|(cases e;exact⟨rfl,rfl⟩)|(cases e;exact⟨rfl,by simp⟩)
def iS:PV->zt km
 | .non=>some false | .bl b=>some b | .int i=>some (i != 0) | .tup xs=>some (!xs.isEmpty) | .lst xs=>some (!xs.isEmpty)|_=>none
def jl (a:AE):AT:=λτ Q=>a τ λx=>match iS x with | some b=>Q b|none=>False
def J5 {K:AAB}{T M:zu->Prop}{H:Hp}{vs:zy V}{xs:zy PV}(r:Au K T M H vs xs):vs.isEmpty=xs.isEmpty:=by cases r <;> rfl
def mF {a:zr}{d:AE}(ha:SE X a d)(he:∀whole,isTrue a X.env whole=(do let v <-whole;standAt a.pos;holding [v] (truthy v)):=by intro _;rfl):Sc X a (jl d):=by
 obtain⟨t,p,s⟩:=ha;refine⟨_,cY p he,λB T f τ H Q m g h k=>s B T f τ H _ _ g h λv x i H1 j l h1=> ?_⟩;cases e:iS x with
 | none=>rw[e] at h1;exact h1.elim
 | some b=>
   rw[e] at h1;refine⟨b, ?_,k b i H1 j h1⟩;cases l <;> simp[iS] at e
   .exact e
   .exact e.symm
   .exact e.symm
   .rename_i hq c;exact .inr (.inl ⟨_,hq.sq,by rw[J5 c,e];simp⟩)
   .rename_i hq _ _ c;exact .inl ⟨_, .inl (.inl hq),by rw[J5 c,e];simp⟩
end
structure Gm where
 nx:A5->Prop
 rt:PV->Prop
 bk:A5->Prop
 ct:A5->Prop
abbrev AS:=Gm->A5->Prop
structure FJ (T:Addr->Prop) (H:Hp) (σ:L2.St) (τ:A5) (T':Addr->Prop) (H':Hp) (σ':L2.St) (τ':A5):Prop where
 keep:∀b o,¬T b->¬Cn σ τ b->H b=some o->H' b=some o
 sub:∀b,T b->T' b
 new:∀b,T' b->T b\/H b=none
 own:∀b,Cn σ' τ' b->Cn σ τ b\/H b=none
 some:∀b,H b≠none->H' b≠none
section
variable {K:AAB}{B:C5}{T T' T1 T2:zu->Prop}{H H' H1 H2:Hp}{σ σ' σ1 σ2:L2.St}{τ τ' τ1 τ2:A5}
def FJ.refl:FJ T H σ τ T H σ τ:=⟨λ_ _ _ _ e=>e,λ_ t=>t,λ_ t=> .inl t,λ_ o=> .inl o,λ_ h=>h⟩
def FJ.trans (a:FJ T H σ τ T1 H1 σ1 τ1)(b:FJ T1 H1 σ1 τ1 T2 H2 σ2 τ2):FJ T H σ τ T2 H2 σ2 τ2 where
 keep:=λc o t w e=>b.keep c o (λz=>(a.new c z).elim t λn=>by rw[n] at e;cases e) (λz=>(a.own c z).elim w λn=>by rw[n] at e;cases e) (a.keep c o t w e)
 sub:=λc t=>b.sub c (a.sub c t)
 new:=λc t=>(b.new c t).elim (λz=>a.new c z) λz=> .inr (by
  cases e:H c with
  | none=>rfl
  | some o=>exact absurd z (a.some c (by rw[e];exact λe=>nomatch e)))
 own:=λc t=>(b.own c t).elim (λz=>a.own c z) λz=> .inr (by
  cases e:H c with
  | none=>rfl
  | some o=>exact absurd z (a.some c (by rw[e];exact λe=>nomatch e)))
 some:=λc h=>b.some c (a.some c h)
def DI.prog (s:DI T H T' H'):FJ T H σ τ T' H' σ τ:=⟨λb o t _ e=>s.keep b o t e,s.sub,s.new,λ_ o=> .inl o,λ_ h=>s.some h⟩
def FJ.less (h:∀b,Cn σ' τ' b->Cn σ τ b):FJ T H σ τ T H σ' τ':=⟨λ_ _ _ _ e=>e,λ_ t=>t,λ_ t=> .inl t,λb o=> .inl (h b o),λ_ h=>h⟩
structure ER (K:AAB) (B:C5) (T:Addr->Prop) (H:Hp) (σ:L2.St) (τ:A5) (D:MD) (AD:Gm):Prop where
 nx:∀T' H' σ' τ',FJ T H σ τ T' H' σ' τ'->SR K B T' H' σ' τ'->AD.nx τ'->D.nx σ' H'
 bk:∀T' H' σ' τ',FJ T H σ τ T' H' σ' τ'->SR K B T' H' σ' τ'->AD.bk τ'->D.bk σ' H'
 ct:∀T' H' σ' τ',FJ T H σ τ T' H' σ' τ'->SR K B T' H' σ' τ'->AD.ct τ'->D.ct σ' H'
 rt:∀v x T' H',DI B.T B.H T' H'->CM K T' B.M H' v x->AD.rt x->D.rt v H'
def ER.shift {D:MD}{a:Gm}(e:ER K B T H σ τ D a)(p:FJ T H σ τ T1 H1 σ1 τ1):ER K B T1 H1 σ1 τ1 D a:=
 ⟨λ_ _ _ _ q=>e.nx _ _ _ _ (p.trans q),λ_ _ _ _ q=>e.bk _ _ _ _ (p.trans q),λ_ _ _ _ q=>e.ct _ _ _ _ (p.trans q),e.rt⟩
end
def aM (K:AAB)(t:TS)(a:AS):Prop:=∀(B:C5) (T:zu->Prop) (b:L2.St) (τ:A5) (H:Hp) (D:MD) (c:Gm),SR K B T H b τ->a c τ->ER K B T H b τ D c->t D b H
def SS (X:Cx)(st:Stmt)(a:AS):Prop:=∃t,PS X st t/\aM X.K t a
def Zr (X:Cx)(st:zy Stmt)(a:AS):Prop:=∃t,Uw X st t/\aM X.K t a
def BP {a:Type}{l:zy a}{i j:Nat}{x y:a}(h:(l.set i x)[j]? =some y):(j=i/\y=x/\i<l.length)\/(j≠i/\l[j]? =some y):=by
 by_cases e:j=i
 .subst e;rw[AC1] at h;simp at h;obtain⟨h1,h2⟩:=h;exact .inl ⟨rfl,h2.symm,h1⟩
 .rw [AAb (λz=>e z.symm)] at h;exact .inr ⟨e,h⟩
section
variable {K:AAB}{B:C5}{T:zu->Prop}{H:Hp}{σ:L2.St}{τ:A5}
def Cz {i:Nat}{v:V}{x:PV}{b:zu}(h:Cn (σ.set i (some v)) (τ.set i (some (.val x))) b):Cn σ τ b:=by
 obtain⟨j,xs,h1,h2⟩:=h;rcases BP h1 with⟨_,e,_⟩|⟨n,a⟩
 .cases e
 .rw [AAb (λz=>n z.symm)] at h2;exact⟨j,xs,a,h2⟩
def SR.set {i:Nat}{v:V}{x:PV}(s:SR K B T H σ τ)(r:CM K T (mt B σ τ) H v x):SR K B T H (σ.set i (some v)) (τ.set i (some (.val x))):=by
 have c:Mv K T (mt B σ τ) H T (mt B (σ.set i (some v)) (τ.set i (some (.val x)))) H:= .anti s.va λa m=>m.elim .inl λz=> .inr (Cz z);refine⟨by simp[s.len],λj y e=> ?_,λj ys e=> ?_,λj k ys o p t u h l=> ?_,s.tp,s.bm,s.bt,s.st⟩
 .rcases BP e with⟨rfl,b,hl⟩|⟨n,b⟩
  .cases b;refine⟨v,by rw[AC1];simp[s.len,hl],r.mv c⟩
  .obtain ⟨w,hw,d⟩:=s.val j y b;exact⟨w,by rw[AAb (λz=>n z.symm)];exact hw,d.mv c⟩
 .rcases BP e with⟨_,b,_⟩|⟨n,b⟩
  .cases b
  .obtain ⟨p,vs,h1,h2,A,C⟩:=s.own j ys b;exact⟨p,vs,by rw[AAb (λz=>n z.symm)];exact h1,h2,A.mv c,C⟩
 .rcases BP t with⟨_,b,_⟩|⟨n,f⟩
  .cases b
  .rcases BP u with⟨_,b,_⟩|⟨D,g⟩
   .cases b
   .rw [AAb (λz=>n z.symm)] at h;rw[AAb (λz=>D z.symm)] at l;exact s.dist j k ys o p f g h l
def Lq {i:Nat}{p:zu}{xs:zy PV}{b:zu}(h:Cn (σ.set i (some (.ref p))) (τ.set i (some (.own xs))) b):Cn σ τ b\/b=p:=by
 obtain⟨j,ys,h1,h2⟩:=h;rcases BP h1 with⟨rfl,e,_⟩|⟨n,a⟩
 .rcases BP h2 with⟨_,c,_⟩|⟨n,_⟩
  .cases c;exact .inr rfl
  .exact absurd rfl n
 .rw [AAb (λz=>n z.symm)] at h2;exact .inl ⟨j,ys,a,h2⟩
def SR.take {i:Nat}{p:zu}{vs:zy V}{xs:zy PV}(s:SR K (B.add p) T H σ τ)(hp:H p=some (.lst vs))(C:¬T p)(u:¬Cn σ τ p)(D:¬B.M p)(E:B.H p=none)(r:Au K T (mt (B.add p) σ τ) H vs xs):SR K B T H (σ.set i (some (.ref p))) (τ.set i (some (.own xs))):=by
 have h:Mv K T (mt (B.add p) σ τ) H T (mt B (σ.set i (some (.ref p))) (τ.set i (some (.own xs)))) H:= .anti s.va λa m=>by
  rcases m with m|m
  .exact .inl (.inl m)
  .rcases Lq m with z|z
   .exact .inr z
   .exact .inl (.inr z)
 refine⟨by simp[s.len],λj y e=> ?_,λj ys e=> ?_,λj k ys v q F x g d=> ?_,s.tp,λa m=>s.bm a (.inl m),λa m=>s.bt a (.inl m),s.st⟩
 .rcases BP e with⟨_,b,_⟩|⟨n,b⟩
  .cases b
  .obtain ⟨w,hw,l⟩:=s.val j y b;exact⟨w,by rw[AAb (λz=>n z.symm)];exact hw,l.mv h⟩
 .rcases BP e with⟨rfl,b,hl⟩|⟨n,b⟩
  .cases b;exact⟨p,vs,by rw[AC1];simp[s.len,hl],hp,r.mv h,E,C,D⟩
  .obtain ⟨q,G,h1,h2,I,J,L,N⟩:=s.own j ys b;exact⟨q,G,by rw[AAb (λz=>n z.symm)];exact h1,h2,I.mv h,J,L,λz=>N (.inl z)⟩
 .rcases BP F with⟨A,_,_⟩|⟨n,f⟩
  .rcases BP x with⟨o,_,_⟩|⟨t,c⟩
   .rw [A,o]
   .subst A;rw[AAb (λz=>t z.symm)] at d;rcases BP g with⟨_,b,_⟩|⟨n,_⟩
    .cases b;exact absurd ⟨k,v,c,d⟩ u
    .exact absurd rfl n
  .rw [AAb (λz=>n z.symm)] at g;rcases BP x with⟨o,_,_⟩|⟨t,c⟩
   .subst o;rcases BP d with⟨_,b,_⟩|⟨n,_⟩
    .cases b;exact absurd ⟨j,ys,f,g⟩ u
    .exact absurd rfl n
   .rw [AAb (λz=>t z.symm)] at d;exact s.dist j k ys v q f c g d
def SR.write {i:Nat}{p:zu}{M vs:zy V}{xs ys:zy PV}(s:SR K B T H σ τ)(g:τ[i]? =some (some (.own xs)))(hs:σ[i]? =some (some (.ref p)))(hp:H p=some (.lst M))(r:Au K T (mt B σ τ) H vs ys):SR K B T (upd H p (.lst vs)) σ (τ.set i (some (.own ys)))/\FJ T H σ τ T (upd H p (.lst vs)) σ (τ.set i (some (.own ys))):=by
 obtain⟨Q,N,G,R,S,I,D,J⟩:=s.own i xs g;rw[hs] at G;cases G;have U:σ.set i (some (.ref p))=σ:=by
  apply List.ext_getElem?;intro k;by_cases hk:i=k
  .subst hk;rw[AC1,hs];simp[(AA0.mp hs).1]
  .rw [AAb hk]
 have l:Cn σ τ p:=⟨i,xs,g,hs⟩;have L:∀b,Cn σ (τ.set i (some (.own ys))) b->Cn σ τ b:=λb h=>by
  obtain⟨j,f,h1,h2⟩:=h;rcases BP h1 with⟨rfl,e,_⟩|⟨n,C⟩
  .exact ⟨j,xs,g,h2⟩
  .exact ⟨j,f,C,h2⟩
 have E:Mv K T (mt B σ τ) H T (mt B σ (τ.set i (some (.own ys)))) (upd H p (.lst vs)):=⟨s.va,λb o _ m e=>by
  rw[AZ (λz=>m (by subst z;exact .inr l))];exact e,λ_ t=>t,λ_ _ t=>t,λb _ m=>m.elim .inl λz=> .inr (L b z)⟩
 refine⟨⟨by simp[s.len],λj y e=> ?_,λj f e=> ?_,λj k f us q h1 h2 u A=> ?_,λa t=> ?_,λa m=> ?_,s.bt, ?_⟩,⟨λb o t w e=>by rw[AZ (λz=>w (by subst z;exact l))];exact e,λ_ t=>t,λ_ t=> .inl t,λb o=> .inl (L b o),λb h=> ?_⟩⟩
 .rcases BP e with⟨_,c,_⟩|⟨n,c⟩
  .cases c
  .obtain ⟨v,h,O⟩:=s.val j y c;exact⟨v,h,O.mv E⟩
 .rcases BP e with⟨rfl,c,_⟩|⟨n,c⟩
  .cases c;exact⟨p,vs,hs,Aa,r.mv E,I,D,J⟩
  .obtain ⟨q,us,h1,h2,u,A⟩:=s.own j f c;have hq:q≠p:=λz=>by subst z;exact n (s.dist j i f xs q c g h1 hs)
   exact⟨q,us,h1,by rw[AZ hq];exact h2,u.mv E,A⟩
 .rcases BP h1 with⟨rfl,_,_⟩|⟨n,C⟩
  .rcases BP h2 with⟨rfl,_,_⟩|⟨P,F⟩
   .rfl
   .exact s.dist _ k xs us q g F u A
  .rcases BP h2 with⟨rfl,_,_⟩|⟨P,F⟩
   .exact s.dist j _ f xs q C g u A
   .exact s.dist j k f us q C F u A
 .obtain ⟨d,x,e,z⟩:=s.tp a t;exact⟨d,x,by rw[AZ (λw=>by subst w;exact D t)];exact e,z⟩
 .obtain ⟨o,e,z⟩:=s.bm a m;exact⟨o,by rw[AZ (λw=>by subst w;exact J m)];exact e,z⟩
 .refine ⟨λb o t e=> ?_,s.st.sub,s.st.new,λa t=> ?_⟩
  .rw [AZ (λw=>by subst w;rw[I] at e;cases e)];exact s.st.keep b o t e
  .obtain ⟨d,x,e,z⟩:=s.tp a t;exact⟨d,x,by rw[AZ (λw=>by subst w;exact D t)];exact e,z⟩
 .by_cases z:b=p
  .subst z;rw[Aa];exact λe=>nomatch e
  .rw [AZ z];exact h
end
section
variable {X:Cx}{st:Stmt}{rest:zy Stmt}{e:zr}{pos:Pos}{a b:AS}{ta:AE}
def S6 (ta:AE):AE:=λτ Q=>ta (frz τ) λx=>Xq x=true/\Q x
def OY (h:SE X e ta):SE X e (S6 ta):=by obtain⟨t,p,s⟩:=h;refine⟨t,p,λB T c τ H Q j d h k=>s B T c (frz τ) H _ _ d.frz h λv x f H1 g i h1=> ?_⟩;exact k v x f H1 g (i.free h1.1) h1.2
def S7 (c:AT):AT:=λτ Q=>c (frz τ) Q
def dU {c:AT}(h:Sc X e c):Sc X e (S7 c):=by obtain⟨t,p,s⟩:=h;exact⟨t,p,λB T d τ H Q j f h k=>s B T d (frz τ) H _ _ f.frz h λb g H1 i h1=>k b g H1 i h1⟩
def BU:AS:=λD τ=>D.nx τ
def AY (a b:AS):AS:=λD τ=>a {D with nx:=b D} τ
def A4:Zr X [] BU:=⟨_,Mc,λB T c τ H D g d h f=>f.nx T H c τ .refl d h⟩
def AM (h1:SS X st a)(h2:Zr X rest b):Zr X (st::rest) (AY a b):=by obtain⟨t,p,s⟩:=h1;obtain⟨t',f,g⟩:=h2;exact⟨_,Bk p f,λB T i τ H D j k h c=>s B T i τ H _ _ k h ⟨λl m σ' τ' q d h'=>g B l σ' τ' m D j d h' (c.shift q),c.bk,c.ct,c.rt⟩⟩
def AR (h1:SS X st a):Zr X [st] a:=let ⟨_,p,s⟩:=h1;⟨_,ET p,s⟩
def As (ta:AE):AS:=λD τ=>ta (frz τ) D.rt
def AX (h:SE X e ta):SS X (.Return (some e) pos) (As ta):=by obtain⟨t,p,s⟩:=h;refine⟨_,OL p,λB T f τ H D k c h g=>s B T f (frz τ) H _ _ c.frz h λv x i H1 d j h1=> ?_⟩;exact g.rt v x i H1 (c.st.trans d) (j.mv (.anti (c.frz.stp d).va λa m=> .inl m)) h1
def CN (c:AT)(a b:AS):AS:=λD τ=>c τ λk=>if k=true then a D τ else b D τ
def BW {c:zr}{x y:zy Stmt}{l:AT}(hc:Sc X c l)(ha:Zr X x a)(hb:Zr X y b):SS X (.If c x y pos) (CN l a b):=by
 obtain⟨t,p,s⟩:=hc;obtain⟨v,r,f⟩:=ha;obtain⟨w,u,g⟩:=hb;refine⟨_,Xz p r u,λB T i τ H D m j h n=>s B T i τ H _ _ j h λk o H1 d h1=> ?_⟩;cases k with
 | true=>rw[AAE rfl] at h1 ⊢;exact f B o i τ H1 D m (j.stp d) h1 (n.shift d.prog)
 | false=>rw[AAD AAR] at h1 ⊢;exact g B o i τ H1 D m (j.stp d) h1 (n.shift d.prog)
abbrev AG:=PV->A5->(A5->Prop)->Prop
abbrev U0:=zy PV->A5->(A5->Prop)->Prop
def Kx (K:AAB)(g:TG)(ag:AG):Prop:=∀(B:C5) (T:zu->Prop) (c:L2.St) (τ:A5) (H:Hp) (v:V) (x:PV) (Q:L2.St->Hp->Prop) (d:A5->Prop),SR K B T H c τ->CM K T (mt B c τ) H v x->ag x τ d->
 (∀σ' τ',SR K B T H σ' τ'->(∀b,Cn σ' τ' b->Cn c τ b)->d τ'->Q σ' H)->g v c H Q
def Px (K:AAB)(g:VM)(ag:U0):Prop:=∀(B:C5) (T:zu->Prop) (c:L2.St) (τ:A5) (H:Hp) (vs:zy V) (xs:zy PV) (Q:L2.St->Hp->Prop) (d:A5->Prop),SR K B T H c τ->Au K T (mt B c τ) H vs xs->ag xs τ d->
 (∀σ' τ',SR K B T H σ' τ'->(∀b,Cn σ' τ' b->Cn c τ b)->d τ'->Q σ' H)->g vs c H Q
def SG (X:Cx)(c:zr)(ag:AG):Prop:=∃g,PG X c g/\Kx X.K g ag
def qB (X:Cx)(c:zy zr)(ag:U0):Prop:=∃g,mX X c g/\Px X.K g ag
def Ak (i:Nat):AG:=λx τ Q=>Q (τ.set i (some (.val x)))
def SC {K:AAB}{i:Nat}:Kx K (Bj i) (Ak i):=λB T d τ H v x Q f c r h k=>k _ _ (c.set r) (λb o=>Cz o) h
def R7 {i:Nat}{x:Str}(hN:X.N.Nodup)(hi:X.N[i]? =some x)(hx:Loc X.env.scope x)(c:X.fn x=true\/X.env.scope.names.lookup x=some .local:=by first | exact .inl rfl|exact .inr rfl|assumption):SG X (.Name x pos) (Ak i):=
 ⟨_,ES hN hi hx c,SC⟩
def B0:U0:=λxs τ Q=>match xs with | [] =>Q τ|_=>False
def Ad (g:AG)(r:U0):U0:=λxs τ Q=>match xs with | x::t=>g x τ λτ'=>r t τ' Q | [] =>False
def Um {K:AAB}:Px K MI B0:=λB T c τ H vs xs Q f d r h k=>by
 cases r with
 | nil=>exact⟨rfl,k c τ d (λ_ o=>o) h⟩
 | cons _ _=>exact h.elim
def QU {K:AAB}{g:TG}{gs:VM}{ag:AG}{c:U0}(h1:Kx K g ag)(h2:Px K gs c):Px K (DC g gs) (Ad ag c):=λB T u τ H vs xs Q v p r h k=>by
 cases r with
 | nil=>exact h.elim
 | cons r t=> refine⟨_,_,rfl,h1 B T u τ H _ _ _ _ p r h λd f i s w=> ?_⟩;exact h2 B T d f H _ _ Q v i (t.mv (.anti p.va λa m=>m.elim .inl λz=> .inr (s a z))) w λj l n x y=>k j l n (λb o=>s b (x b o)) y
def B9:qB X [] B0:=⟨_,KG,Um⟩
def Ag {es:zy zr}{ag:AG}{c:U0}(h1:SG X e ag)(h2:qB X es c)(hs:(assignEach (e::es) X.env).map (·.2)=assign e X.env::(assignEach es X.env).map (·.2):=by rfl):qB X (e::es) (Ad ag c):=
 let ⟨_,p,s⟩:=h1;let ⟨_,d,f⟩:=h2;⟨_,Dp p d hs,QU s f⟩
def Aj (ta:AE)(g:AG):AS:=λD τ=>ta τ λx=>g x τ D.nx
def SB {K:AAB}{t:TE}{g:TG}{ag:AG}(s:Ge K t ta)(m:Kx K g ag):aM K (Pm t g) (Aj ta ag):=λB T i τ H D u j h n=>s B T i τ H _ _ j h λv x k H1 l o h1=>
 m B k i τ H1 v x _ _ (j.stp l) o h1 λc d f p r=>n.nx k H1 c d (l.prog.trans (.less p)) f r
def Wi {c:zr}{ag:AG}(he:SE X e ta)(d:SG X c ag)(hs:swapsWithSole [c] e pos.line X.env=pure false:=by rfl)(hw:swappedStores [c] e X.env=pure none:=by rfl)(h1:(assignEach [c] X.env).map (·.2)= [assign c X.env] :=by rfl):SS X (.Assign [c] e pos) (Aj ta ag):=
 let ⟨_,p,s⟩:=he;let ⟨_,f,g⟩:=d;⟨_,Rj p f hs hw h1,SB s g⟩
def GQ {i:Nat}{x:Str}{pos':Pos}(hN:X.N.Nodup)(hi:X.N[i]? =some x)(hx:Loc X.env.scope x)(he:SE X e ta)(hs:swapsWith e (some (.Name x pos')) pos.line X.env=pure false:=by rfl)(c:X.fn x=true\/X.env.scope.names.lookup x=some .local:=by first | exact .inl rfl|exact .inr rfl|assumption):SS X (.Assign [.Name x pos'] e pos) (Aj ta (Ak i)):=let ⟨_,p,s⟩:=he;⟨_,FR hN hi hx p hs c,SB s SC⟩
def Gf (r:AA)(i:Nat):AS:=λD τ=>r τ λxs=>D.nx (τ.set i (some (.own xs)))
def YG {K:AAB}{t:TE}{r:AA}{i:Nat}(s:aK K t r):aM K (Pm t (Bj i)) (Gf r i):=λB T j τ H D w c h k=>s B T j τ H _ _ c h λp vs xs l H1 d g f hp m n h1=>by
 have u:¬Cn j τ p:=λo=>by obtain⟨_,e,_⟩:=c.ownH o;rw[f] at e;cases e
 have v:¬B.M p:=λo=>by obtain⟨_,e,_⟩:=c.bm p o;rw[f] at e;cases e
 refine k.nx l H1 _ _ ⟨λb o t _ e=>d.keep b o t e,d.sub,d.new,λb o=> ?_,λb h=>d.some h⟩ (g.take hp m u v (c.st.none f) n) h1;rcases Lq o with z|z
 .exact .inl z
 .subst z;exact .inr f
def D9 {i:Nat}{x:Str}{pos':Pos}{r:AA}(hN:X.N.Nodup)(hi:X.N[i]? =some x)(hx:Loc X.env.scope x)(he:SF X e r)(hs:swapsWith e (some (.Name x pos')) pos.line X.env=pure false:=by rfl)(c:X.fn x=true\/X.env.scope.names.lookup x=some .local:=by first | exact .inl rfl|exact .inr rfl|assumption):SS X (.Assign [.Name x pos'] e pos) (Gf r i):=let ⟨_,p,s⟩:=he;⟨_,FR hN hi hx p hs c,YG s⟩
def Yi (i j:Nat)(r:AA):AS:=λD τ=>r τ λxs=>match xs with | [x,y] =>D.nx ((τ.set i (some (.val x))).set j (some (.val y)))|_=>False
def Wj {i j:Nat}{x y:Str}{c d:zr}{r:AA}{g k l:Pos}{kt k2 pt2}(hc:X.calm=true)(hN:X.N.Nodup)(hi:X.N[i]? =some x)(hj:X.N[j]? =some y)(v:i≠j)(hx:X.env.scope.names.lookup x=some .local)(hy:X.env.scope.names.lookup y=some .local)(ha:SA X [c,d] r)(hw:swappedStores [.Tuple [.Name x g, .Name y k] kt l] (.Tuple [c,d] k2 pt2) X.env=pure (some [x,y]))(hs:swapsWithSole [.Tuple [.Name x g, .Name y k] kt l] (.Tuple [c,d] k2 pt2) pos.line X.env=pure false:=by rfl):SS X (.Assign [.Tuple [.Name x g, .Name y k] kt l] (.Tuple [c,d] k2 pt2) pos) (Yi i j r):=by
 obtain⟨t,p,s⟩:=ha;refine⟨_,lP hc hN hi hj v hx hy p hw hs,λB T w τ H D I n h A=>s B T w τ H _ _ n h λvs xs C H1 u E h1=> ?_⟩;cases E with
 | nil=>exact h1.elim
 | cons ra ta=>
   cases ta with
   | nil=>exact h1.elim
   | cons F G=>
     cases G with
     | cons _ _=>exact h1.elim
     | nil=> have f:=n.stp u;refine⟨_,_,rfl,A.nx C H1 _ _ ?_ ((f.set (i:=i) ra).set (i:=j) (F.mv (.anti f.va λa m=>m.elim .inl λz=> .inr (Cz z)))) h1⟩;exact u.prog.trans (.less λb o=>Cz (Cz o))
def VO (i:Nat)(f:Ja)(ta:AE):AS:=λD τ=>match Sd τ i with | some (.val x)=>ta τ λy=>f x y λz=>D.nx (τ.set i (some (.val z)))|_=>False
def dP {i:Nat}{x:Str}{op:Operator}{g:nP}{f:Ja}{pos':Pos}(hN:X.N.Nodup)(hi:X.N[i]? =some x)(hx:Loc X.env.scope x)(he:SE X e ta)(j:mY X op g/\CZ X.K g f)(l:X.fn x=true\/X.env.scope.names.lookup x=some .local:=by first | exact .inl rfl|exact .inr rfl|assumption):SS X (.AugAssign (.Name x pos') op e pos) (VO i f ta):=by
 obtain⟨t,p,s⟩:=he;refine⟨_,lO hN hi hx p j.1 l,λB T m τ H D I c h n=> ?_⟩;unfold VO at h;split at h <;> first | exact h.elim|skip
 rename_i y r;obtain⟨v,ev,rv⟩:=c.val i y (N9 r);refine⟨v,ev,s B T m τ H _ _ c h λw z A H1 d C h1=> ?_⟩;refine j.2 A _ H1 v w y z _ _ (c.stp d).va (rv.stp d c.va) C h1 λu q E F k G h2=> ?_;exact n.nx E F _ _ ((d.trans k).prog.trans (.less λb o=>Cz o)) (((c.stp d).stp k).set G) h2
def ly:mY X .Add (sQ λi j=>i+j)/\CZ X.K (sQ λi j=>i+j) nY:=⟨kJ,λT M H u v x y Q d va c rv h k=>by
 obtain⟨i,j,rfl,rfl,q⟩:=Mb h;exact⟨i,j,c.toI,rv.toI,k _ _ T H (.refl va.tp) (.int _) q⟩⟩
def MG (i:Nat)(τ:A5)(R:zy PV->Prop):Prop:=match Sd τ i with | some (.own xs)=>R xs|_=>False
def XC {i:Nat}{τ:A5}{R:zy PV->Prop}(h:MG i τ R):∃xs,τ[i]? =some (some (.own xs))/\R xs:=by
 unfold MG at h;cases e:Sd τ i with
 | none=>rw[e] at h;exact h.elim
 | some z=>
   rw[e] at h;cases z with
   | val x=>exact h.elim
   | own xs=>exact⟨xs,N9 e,h⟩
abbrev jc:=zy PV->zy PV->(zy PV->Prop)->Prop
def e8 (K:AAB)(r:V->zy V->Hp->VK->Prop)(f:jc):Prop:=∀(T M:zu->Prop) (H:Hp) (l:zu) (g vs:zy V) (xs ys:zy PV) (Q:VK) (h:zy PV->Prop),H l=some (.lst g)->Au K T M H g xs->Au K T M H vs ys->f xs ys h->
 (∀c d,Au K T M H c d->h d->Q .non (upd H l (.lst c)))->r (.ref l) vs H Q
def Db (i:Nat)(f:jc)(r:AA):AS:=λD τ=>MG i τ λxs=>r τ λys=>f xs ys λc=>D.nx (τ.set i (some (.own c)))
def dL {K:AAB}{i:Nat}{l:V->zy V->Hp->VK->Prop}{f:jc}{t:TA}{r:AA}(v:e8 K l f)(s:je K t r):aM K (jL (vN K "list" l (DS i) t)) (Db i f r):=λB T m τ H D E d h w=>by obtain⟨xs,e,h⟩:=XC h;obtain⟨p,vs,n,hp,x,F,o,G⟩:=d.own i xs e;refine⟨.ref p,n, .inl ⟨rfl,vs, .inl (.inl hp)⟩,s B T m τ H _ _ d h λus ys u H1 c y h2=> ?_⟩;have g:=d.stp c;refine v u (mt B m τ) H1 p vs us xs ys _ _ (c.keep _ _ o hp) (x.stp c d.va) y h2 λz I A C=> ?_;obtain⟨j,k⟩:=g.write (i:=i) (xs:=xs) e n (c.keep _ _ o hp) A;exact w.nx u _ _ _ (c.prog.trans k) j C
def CG {i:Nat}{x name:Str}{es:zy zr}{id:String}{d:V->zy V->Hp->VK->Prop}{f:jc}{r:AA}{p apos c:Pos}(slot:Slot "list" name id)(h:typeOf (.builtin id)=pure (.type "method_descriptor"))(g:nL X id d/\e8 X.K d f)(ha:SA X (e::es) r)(hN:X.N[i]? =some x:=by rfl)(hv:jh X.env.scope x:=by first | exact Or.inl rfl|exact Or.inr (Or.inl rfl)|exact Or.inr (Or.inr rfl))(hd:(x==("__debug__" :Str))=false:=by decide)(j:(x==("__classdict__" :Str))=false:=by decide)(k:attributeBase (.Name x p) name X.env (eval (.Name x p) X.env)=eval (.Name x p) X.env:=by rfl)(l:((backTo c (starEach (e::es) X.env)).all (λx=> !x.1)&&(backToKw c (keywordEach [] X.env)).all (λx=>x.1.isSome) && decide ((e::es).length+([] :zy Keyword).length+(if ([] :zy Keyword).isEmpty then 0 else 1)<30))=true:=by rfl)(m:(apos.endLine==c.line)=true:=by rfl)(hs:starEach (e::es) X.env=(false,eval e X.env)::starEach es X.env:=by rfl)(n:(backTo c (starEach es X.env)).any (·.1)=false:=by rfl)(o:swapsWith (.Call (.Attribute (.Name x p) name apos) (e::es) [] c) none pos.line X.env=pure false:=by rfl):SS X (.Expr (.Call (.Attribute (.Name x p) name apos) (e::es) [] c) pos) (Db i f r):=by obtain⟨t,u,s⟩:=ha;exact⟨_,gj (o7 PySem.F.plainAttrs_list slot h g.1 (Ri hN hv hd j) u k l m hs n) o,dL g.2 s⟩
def Gh:jc:=λxs ys Q=>match ys with | [y] =>xs.length<sizeLine/\Q (xs ++ [y])|_=>False
def Bc:nL X "list.append" Rl/\e8 X.K Rl Gh:=by
 refine⟨LB,λT M H l d vs xs ys Q i hl c f h k=> ?_⟩;unfold Gh at h;split at h <;> first | exact h.elim|skip
 cases f with
 | cons g t=> cases t;exact⟨l,d,_,rfl,rfl,hl,by rw[c.length];exact h.1,k _ _ (c.append (.cons g .nil)) h.2⟩
def bZ:jc:=λxs ys Q=>match ys with | [.int i,y] =>(0<=i/\i<=(xs.length:Int)/\xs.length<sizeLine)/\Q (xs.take i.toNat++y::xs.drop i.toNat)|_=>False
def QV:nL X "list.insert" Rm/\e8 X.K Rm bZ:=by
 refine⟨ZK,λT M H l d vs xs ys Q n hl c f h k=> ?_⟩;unfold bZ at h;split at h <;> first | exact h.elim|skip
 cases f with
 | cons g t=>
   cases t with
   | cons i t=> cases t;cases g;obtain⟨⟨h1,h2,j⟩,m⟩:=h;exact⟨l,d,_,_,rfl,rfl,hl,h1,by rw[c.length];exact h2,by rw[c.length];exact j,k _ _ ((c.take _).append (.cons i (c.drop _))) m⟩
def om (o:zt Nat)(R:Nat->Prop):Prop:=match o with | some j=>R j|none=>False
def kz {o:zt Nat}{R:Nat->Prop}(h:om o R):∃z,o=some z/\R z:=by cases o <;> first | exact⟨_,rfl,h⟩|exact h.elim
def jk (i:Nat)(c ta:AE):AS:=λD τ=>ta τ λy=>MG i τ λxs=>c τ λk=>WK k λk=>om (V2 xs.length k) λj=>D.nx (τ.set i (some (.own (xs.set j y))))
def mC {i:Nat}{x:Str}{ix:zr}{z:AE}{p c:Pos}(hi:SE X ix z)(he:SE X e ta)(hN:X.N[i]? =some x:=by rfl)(hv:jh X.env.scope x:=by first | exact Or.inl rfl|exact Or.inr (Or.inl rfl)|exact Or.inr (Or.inr rfl))(hd:(x==("__debug__" :Str))=false:=by decide)(J:(x==("__classdict__" :Str))=false:=by decide)(ha:∀v,assign (.Subscript (.Name x p) ix c) X.env v=(do
   let l <-holding [v] (eval (.Name x p) X.env);let m <-holding [v,l] (eval ix X.env)
   standAt c
   holding [v,l,m] (setItem l m v)
   release [v,l,m] []):=by intro _;rfl)(hs:swapsWithSole [.Subscript (.Name x p) ix c] e pos.line X.env=pure false:=by rfl)(hw:swappedStores [.Subscript (.Name x p) ix c] e X.env=pure none:=by rfl)(h1:(assignEach [.Subscript (.Name x p) ix c] X.env).map (·.2)= [assign (.Subscript (.Name x p) ix c) X.env] :=by rfl):SS X (.Assign [.Subscript (.Name x p) ix c] e pos) (jk i z ta):=by obtain⟨t,K,s⟩:=hi;obtain⟨t',n,L⟩:=he;refine⟨_,Rj n (WM (Ri hN hv hd J) K OZ ha) hs hw h1,λB T A τ H D U C h M=>L B T A τ H _ _ C h λv y O H1 E P h1=> ?_⟩;have d:=C.stp E;obtain⟨xs,e,h1⟩:=XC h1;obtain⟨q,vs,F,hp,G,W,I,Y⟩:=d.own i xs e;refine⟨.ref q,F,s B O A τ H1 _ _ d h1 λw k Q Z f R g=> ?_⟩;obtain⟨k,rfl,g⟩:=Re g;obtain⟨j,S,g⟩:=kz g;cases R.toI;have o:=d.stp f;obtain⟨r,u⟩:=o.write (i:=i) (xs:=xs) e F (f.keep _ _ I hp) (((G.stp f d.va)).set (P.stp f d.va) j);exact⟨q,vs,k,j,rfl,rfl,f.keep _ _ I hp,by rw[G.length];exact S,M.nx Q _ _ _ ((E.trans f).prog.trans u) r g⟩
end
section
variable {X:Cx}{st:Stmt}{e:zr}{pos:Pos}{a b:AS}{ta:AE}
def Uu (c:AT)(b:AS)(D:Gm):Nat->A5->Prop
 | 0,_=>False
 | n+1,τ=>c (frz τ) λk=>if k=true then b {D with nx:=Uu c b D n,ct:=Uu c b D n,bk:=D.nx} τ else D.nx τ
def HA (c:AT)(b:AS):AS:=λD τ=>∃n,Uu c b D n τ
def Fw {c:zr}{body:zy Stmt}{v:AT}(hp:PassesOwn (model X.prog X.w) X.A X.env X.xe)(hc:Sc X c v)(hb:Zr X body b):SS X (.While c body [] pos) (HA v b):=by
 obtain⟨t,p,s⟩:=hc;obtain⟨t',I,J⟩:=hb;refine⟨_,cX hp p I,λB T z τ H D C L h E=> ?_⟩;obtain⟨n,h⟩:=h;refine⟨λm f H1=>∃x d,SR X.K B x H1 f d/\FJ T H z τ x H1 f d/\Uu v b C m d,⟨n,T,τ,L, .refl,h⟩, ?_⟩;rintro m f H1 ⟨x,d,l,g,h1⟩;cases m with
 | zero=>exact h1.elim
 | succ m=>
   refine s B x f (frz d) H1 _ _ l.frz h1 λk F G y h2=> ?_;have o:=l.stp y;have r:=(E.shift g).shift y.prog;cases k with
   | false=>rw[AAD AAR] at h2 ⊢;exact r.nx F G f d .refl o h2
   | true=> rw[AAE rfl] at h2 ⊢;refine⟨λσ' u=>∃j τ',SR X.K B j u σ' τ'/\FJ T H z τ j u σ' τ'/\Uu v b C m τ',λσ' u q=>⟨m,Nat.lt_succ_self m,q⟩, ?_⟩;exact J B F f d G _ _ o h2 ⟨λj u σ' τ' q i h'=>⟨j,τ',i,(g.trans y.prog).trans q,h'⟩,r.nx,λj u σ' τ' q i h'=>⟨j,τ',i,(g.trans y.prog).trans q,h'⟩,E.rt⟩
abbrev AI:=A5->(zy PV->Prop)->Prop
structure S3 (K:AAB) (M:Addr->Prop) (J:It) (xs:List PV) (T:Addr->Prop) (H:Hp):Prop where
 go:∀i y,xs[i]? =some y->J.go i H
 yld:∀i y v H',xs[i]? =some y->J.yld i H v H'->DI T H T H'/\CM K T M H' v y
 stop:∀i,xs.length<=i->J.stop i H
def XA (T:zu->Prop)(H c:Hp):Prop:=∀b o,¬T b->H b=some o->c b=some o
def Yh (K:AAB)(s:km)(j:TI)(k:AI):Prop:=∀(B:C5) (T:zu->Prop) (f:L2.St) (τ:A5) (H:Hp) (R:It->Hp->Prop) (i:zy PV->Prop),SR K B T H f τ->k τ i->
 (∀J xs g c,DI T H g c->(∀M2 h d,Mv K g (mt B f τ) c h M2 d->Gi h M2 d->(s=true\/XA g c d)->S3 K M2 J xs h d)->i xs->R J c)->j f H R
def SI (X:Cx)(d iter:zr)(s:km)(f:AI):Prop:=∃c,PI X d iter c/\Yh X.K s c f
def oP (K:AAB)(c:TE):TI:=λd H R=>c d H λx H1=>∃a,x= .ref a/\(((∃xs,E8 K H1 a xs)/\R (qz K a) H1)\/((∃xs,MF K H1 a xs)/\R (q5 K a) H1))
def cQ {i l:zr}{g:TE}(hl:PE X l g):PI X i l (oP X.K g):=by
 intro kd s j H R I h;refine BK (hl kd s j H _ I h) λv c ⟨x,H1,d,k,m⟩=> ?_;obtain⟨a,e,q⟩:=m;subst e;cases k;rcases q with⟨⟨xs,hq⟩,q⟩|⟨⟨xs,hq⟩,q⟩
 .obtain ⟨f,rv,p,hz⟩:=d.list hq;refine ACL p.isList ?_;refine⟨c.heap.objs.size, [c.heap.objs.size],_,_,H1,rfl,d.kept (t':=c.toks) λb o e=>AAH _ e,Zk a _,⟨_,AAS _ rfl,rfl,rfl⟩,λb hb=> ?_,q⟩;have e:b=c.heap.objs.size:=by simpa using hb
  subst e;exact d.fpOk (AAJ _) (d.hok.fresh (AAJ _))
 .obtain ⟨f,rv,p,hz⟩:=d.tuple hq;refine wpAny_pyIter_tuple (show c.heap.IsTuple a f.toArray from p) ?_;refine⟨c.heap.objs.size, [c.heap.objs.size],_,_,H1,rfl,d.kept (t':=c.toks) λb o e=>AAH _ e,W0 a _,⟨_,AAS _ rfl,rfl,rfl⟩,λb hb=> ?_,q⟩;have e:b=c.heap.objs.size:=by simpa using hb
  subst e;exact d.fpOk (AAJ _) (d.hok.fresh (AAJ _))
def Gj (ta:AE):AI:=λτ Q=>ta τ λx=>Oq x Q
def bT {K:AAB}{T M:zu->Prop}{H:Hp}{a:zu}{xs:zy PV}(va:Gi T M H)(r:CM K T M H (.ref a) (.tup xs)):S3 K M (q5 K a) xs T H:=by
 obtain⟨g,vs,e,hq,c⟩:=Ex r;cases e;refine⟨λi y h=> ?_,λi y v j h d=> ?_,λi h=>⟨vs,hq,by rw[c.length];exact h⟩⟩
 .obtain ⟨v,hv,_⟩:=c.get h;exact⟨vs,v,hq,hv⟩
 .obtain ⟨rfl,d⟩:=d;obtain⟨z,hz,f⟩:=c.get' (d vs hq);rw[h] at hz;cases hz;exact⟨.refl va.tp,f⟩
def bR {K:AAB}{T M:zu->Prop}{H:Hp}{a:zu}{vs:zy V}{xs:zy PV}(va:Gi T M H)(hq:H a=some (.lst vs))(c:Au K T M H vs xs):S3 K M (qz K a) xs T H:=by
 have d:E8 K H a vs:= .inl (.inl hq);refine⟨λi y h=> ?_,λi y v j h f=> ?_,λi h=>⟨vs,d,by rw[c.length];exact h⟩⟩
 .obtain ⟨v,hv,_⟩:=c.get h;exact⟨vs,v,d,hv⟩
 .obtain ⟨rfl,f⟩:=f;obtain⟨z,hz,g⟩:=c.get' (f vs d);rw[h] at hz;cases hz;exact⟨.refl va.tp,g⟩
def DA {j:zr}(h:SE X e ta):SI X j e true (Gj ta):=by
 obtain⟨t,p,s⟩:=h;refine⟨_,cQ p,λB T l τ H R z m h k=>s B T l τ H _ _ m h λv x g H1 i c h1=> ?_⟩;obtain⟨xs,hx,q⟩:=JB h1;rcases hx with rfl|rfl
 .obtain ⟨a,vs,rfl,hq,n⟩:=Ex c;refine⟨a,rfl, .inr ⟨⟨vs,hq⟩,k _ xs g H1 i (λM2 o r d va _=>bT va (c.mv d)) q⟩⟩
 .obtain ⟨a,vs,rfl,hq,A,nm,n⟩:=DH c;refine⟨a,rfl, .inl ⟨⟨vs, .inl (.inl hq)⟩,k _ xs g H1 i (λM2 o r d va _=> ?_) q⟩⟩;obtain⟨C,u,w,y,_,_,f⟩:=DH (c.mv d);cases w;exact bR va y f
def rng (lo:Int)(n:Nat):zy PV:=(List.range n).map λ(k:Nat)=> .int (lo+(k:Int))
def bS {K:AAB}{T M:zu->Prop}{H:Hp}{lo:Int}{n:Nat}(va:Gi T M H):S3 K M (p9 lo n) (rng lo n) T H:=by
 have hl:(rng lo n).length=n:=by simp[rng]
 refine⟨λi y h=> ?_,λi y v d h c=> ?_,λi h=>by rw[hl] at h;exact h⟩
 .have:=(AA0.mp h).1;rw[hl] at this;exact this
 .obtain ⟨rfl,rfl⟩:=c;have hi:=(AA0.mp h).1;rw[hl] at hi;have:y= .int (lo+(i:Int)):=by simp[rng,List.getElem?_range hi] at h;exact h.symm
  subst this;exact⟨.refl va.tp, .int _⟩
def NY (r:AA):AI:=λτ Q=>r τ λxs=>match xs with | [.int j] =>(-(2^62)<=j/\j<2^62)/\Q (rng 0 j.toNat)|_=>False
def KZ {d c:zr}{r:AA}{p:Pos}(f:Gl X "range")(g:X.mg "range" =none)(ha:SA X [c] r)(hs:starEach [c] X.env= [(false,eval c X.env)] :=by rfl):SI X d (.Call (.Name "range" p) [c] [] pos) true (NY r):=by
 obtain⟨t,i,s⟩:=ha;refine⟨_,ZT f g i hs,λB T j τ H R u l h k=>s B T j τ H _ _ l h λvs xs m H1 n o h1=> ?_⟩;split at h1 <;> first | exact h1.elim|skip
 cases o with
 | cons r t=> cases t;cases r;exact⟨_,rfl,h1.1.1,h1.1.2,k _ _ m H1 n (λM2 v w x va _=>bS va) h1.2⟩
def IN (xs ys:zy PV):zy PV:=List.zipWith (λx y=> .tup [x,y]) xs ys
def oQ (K:AAB)(ta:TA):TI:=λd H R=>ta d H λvs H1=>∃b c l m,vs= [.ref l, .ref m] /\(∃xs,Sq K b H1 l xs)/\(∃ys,Sq K c H1 m ys)/\R (q9 K b c l m) H1
def ga {e f:zr}{ta:TA}{p pos g:Pos}{es:zy zr}{w:Nat}(x:Gl X "zip")(y:X.mg "zip" =none)(ha:PA X [e,f] ta)(hs:starEach [e,f] X.env= [(false,eval e X.env),(false,eval f X.env)] :=by rfl)(t:starEach [f] X.env= [(false,eval f X.env)] :=by rfl):PI X (.Tuple es w g) (.Call (.Name "zip" p) [e,f] [] pos) (oQ X.K ta):=by
 intro kd s z H R I h;refine Call_ (Iw I x y boot_zip (ACF (BK (ha pos kd s z H _ I h) λus d ⟨vs,H1,i,A,B⟩=> ?_) (by rw[hs,t]) (by rw[t];rfl)));obtain⟨b,c,l,m,rfl,⟨xs,hl⟩,⟨ys,C⟩,q⟩:=B;cases A with
 | cons r j=>
 cases j with
 | cons D j=>
 cases j;cases r;cases D;obtain⟨us,G,u,_⟩:=i.sq hl;obtain⟨vs,rv,sv,_⟩:=i.sq C;have k:l<d.heap.objs.size:=by cases b <;> (obtain⟨o,e,_⟩:=u;exact AAG e)
 have n:m<d.heap.objs.size:=by cases c <;> (obtain⟨o,e,_⟩:=sv;exact AAG e)
 refine mT u sv λh1 Z E=>wpAny_pyIter_zip Z.zip ?_;refine⟨_,_,_,_,H1,rfl,i.kept (t':=d.toks) E,dy (zipApart_new k n),Z,λp hp=> ?_,q⟩;have v:d.heap.objs.size<=p:=by
  have F:p=d.heap.objs.size+4\/p=d.heap.objs.size+2\/p=d.heap.objs.size+3\/p=d.heap.objs.size\/p=d.heap.objs.size+1:=by simpa using hp
  rcases F with e|e|e|e|e <;> (rw[e];omega)
 exact i.fpOk v (i.hok.fresh v)
def jo:PV->km | .lst _=>true|_=>false
def QX {K:AAB}{T M:zu->Prop}{H:Hp}{v:V}{x:PV}{xs:zy PV}(hx:x= .tup xs\/x= .lst xs)(r:CM K T M H v x):∃a vs,v= .ref a/\Sq K (jo x) H a vs/\Au K T M H vs xs:=by
 rcases hx with rfl|rfl
 .obtain ⟨a,vs,rfl,hq,c⟩:=Ex r;exact⟨a,vs,rfl,hq,c⟩
 .obtain ⟨a,vs,rfl,hq,_,_,c⟩:=DH r;exact⟨a,vs,rfl, .inl (.inl hq),c⟩
def bU {K:AAB}{T M:zu->Prop}{H:Hp}{l m:zu}{x y:PV}{xs ys:zy PV}(va:Gi T M H)(hx:x= .tup xs\/x= .lst xs)(hy:y= .tup ys\/y= .lst ys)(r:CM K T M H (.ref l) x)(t:CM K T M H (.ref m) y):S3 K M (q9 K (jo x) (jo y) l m) (IN xs ys) T H:=by
 obtain⟨_,vs,e,hq,f⟩:=QX hx r;cases e;obtain⟨_,g,e,j,c⟩:=QX hy t;cases e;have hz:∀i z,(IN xs ys)[i]? =some z->∃a b,xs[i]? =some a/\ys[i]? =some b/\z=PV.tup [a,b] :=λi z h=>by
  unfold IN at h;rw[List.getElem?_zipWith] at h;cases d:xs[i]? with
  | none=>rw[d] at h;cases h
  | some a=>
    cases k:ys[i]? with
    | none=>rw[d,k] at h;cases h
    | some b=>rw[d,k] at h;cases h;exact⟨a,b,by first | rfl|exact d,by first | rfl|exact k,rfl⟩
 refine⟨λi z h=> ?_,λi z v D h A=> ?_,λi h=>⟨vs,g,hq,j, ?_⟩⟩
 .obtain ⟨a,b,ha,hb,_⟩:=hz i z h;obtain⟨u,hu,_⟩:=f.get ha;obtain⟨w,hw,_⟩:=c.get hb;exact⟨vs,g,u,w,hq,j,hu,hw⟩
 .obtain ⟨a,b,ha,hb,rfl⟩:=hz i z h;obtain⟨p,u,w,rfl,B,rfl,hu,hw⟩:=A;obtain⟨E,n,ra⟩:=f.get' (hu vs hq);obtain⟨F,s,C⟩:=c.get' (hw g j);rw[ha] at n;cases n;rw[hb] at s;cases s;have st:=DI.lay (o:= .tup [u,w]) va.tp B;exact⟨st, .tup (.inl Aa) (.cons (ra.stp st va) (.cons (C.stp st va) .nil))⟩
 .rw [f.length,c.length];have:(IN xs ys).length=min xs.length ys.length:=by simp[IN]
  omega
def iZ (r:AA):AI:=λτ Q=>r τ λc=>match c with | [x,y] =>Oq x λxs=>Oq y λys=>Q (IN xs ys)|_=>False
def Zc {e f:zr}{r:AA}{p pos c:Pos}{es:zy zr}{i:Nat}(j:Gl X "zip")(n:X.mg "zip" =none)(ha:SA X [e,f] r)(hs:starEach [e,f] X.env= [(false,eval e X.env),(false,eval f X.env)] :=by rfl)(o:starEach [f] X.env= [(false,eval f X.env)] :=by rfl):SI X (.Tuple es i c) (.Call (.Name "zip" p) [e,f] [] pos) true (iZ r):=by
 obtain⟨t,u,s⟩:=ha;refine⟨_,ga j n u hs o,λB T v τ H R I w h k=>s B T v τ H _ _ w h λvs xs z H1 A C h1=> ?_⟩;split at h1 <;> first | exact h1.elim|skip
 rename_i x y;obtain⟨xs,hx,h2⟩:=JB h1;obtain⟨ys,hy,D⟩:=JB h2;cases C with
 | cons ra t=>
   cases t with
   | cons d t=> cases t;obtain⟨l,us,rfl,hq,J⟩:=QX hx ra;obtain⟨m,E,rfl,F,G⟩:=QX hy d;exact⟨jo x,jo y,l,m,rfl,⟨us,hq⟩,⟨E,F⟩,k _ _ z H1 A (λM2 K L g va _=>bU va hx hy (ra.mv g) (d.mv g)) D⟩
def DQ (g:AG)(b:AS)(D:Gm):zy PV->A5->Prop
 | [],τ=>D.nx τ
 | x::r,τ=>g x τ λc=>b {D with nx:=DQ g b D r,ct:=DQ g b D r,bk:=D.nx} c
def EH (c:AI)(g:AG)(b:AS):AS:=λD τ=>c τ λxs=>DQ g b D xs τ
def FJ.mvv {K:AAB}{B:C5}{T d:zu->Prop}{H f:Hp}{c σ':L2.St}{τ τ':A5}(s:SR K B T H c τ)(p:FJ T H c τ d f σ' τ'):Mv K T (mt B c τ) H d (mt B σ' τ') f:=
 ⟨s.va,λb o t m e=>p.keep b o t (λz=>m (.inr z)) e,p.sub,λb n t=>(p.new b t).elim id λz=>absurd z n,λb n m=>m.elim .inl λz=>(p.own b z).elim .inr λz=>absurd z n⟩
def Bp {E iter:zr}{body:zy Stmt}{O:AI}{g:AG}(hp:PassesOwn (model X.prog X.w) X.A X.env X.xe)(hc:X.calm=true)(hi:SI X E iter true O)(W:SG X E g)(hb:Zr X body b)(hs:∀x,foldedSetIterable iter X.env x=pure x:=by intro _;rfl):SS X (.For E iter body [] pos) (EH O g b):=by
 obtain⟨wi,Y,Z⟩:=hi;obtain⟨tg',pg,sg⟩:=W;obtain⟨tb,pb,sb⟩:=hb;refine⟨_,WO hp hc Y pg pb hs,λB T y τ H D P Q h F=>Z B T y τ H _ _ Q h λJ xs z H1 G walk h1=> ?_⟩;have p:=Q.stp G;refine⟨λi m d r=>m=xs.length-i/\∃f c,SR X.K B f r d c/\FJ z H1 y τ f r d c/\DQ g b P (xs.drop i) c,⟨_,rfl,z,τ,p, .refl,h1⟩, ?_⟩;rintro i m d r ⟨rfl,f,c,k,l,h2⟩;have w:=walk _ f r (l.mvv p) k.va (.inl rfl);have I:=(F.shift G.prog).shift l;by_cases R:i<xs.length
 .have S:xs[i]? =some xs[i] :=AAT R;rw[ABn R] at h2;refine .inr ⟨w.go i _ S,λσ' s=>∃j τ',SR X.K B j s σ' τ'/\FJ z H1 y τ j s σ' τ'/\DQ g b P (xs.drop (i+1)) τ',λσ' s ⟨j,τ',q1,q2,q3⟩=>⟨_,by omega,rfl,j,τ',q1,q2,q3⟩,λv C yl=> ?_⟩;obtain⟨U,r3⟩:=w.yld i _ v C S yl;have L:=k.stp U;refine sg B f d c C v _ _ _ L r3 h2 λt u M o4 h4=> ?_;have n:FJ z H1 y τ f C t u:=(l.trans U.prog).trans (.less o4);have N:=(F.shift G.prog).shift n;exact sb B f t u C _ _ M h4 ⟨λj s σ' τ' q o h'=>⟨j,τ',o,n.trans q,h'⟩,N.nx,λj s σ' τ' q o h'=>⟨j,τ',o,n.trans q,h'⟩,F.rt⟩
 .rw [ACN (by omega)] at h2;exact .inl ⟨w.stop i (by omega),I.nx f r d c .refl k h2⟩
def Yl:zt AV->zt AV|some (.val x)=>some (.val x)|_=>none
def Ju (own:Nat)(ix:zy Nat)(τ:A5):A5:=List.replicate own none++ix.map λi=>Yl (Sd τ i)
def CK (g:AG)(t:AT)(te:AE)(c:A5)(Q:zy PV->Prop):zy PV->zy PV->Prop
 | [],acc=>Q acc
 | x::r,acc=>g x c λd=>t d λok=>if ok=true then te d λy=>CK g t te c Q r (acc ++ [y]) else CK g t te c Q r acc
def Bx (c:AI)(own:Nat)(ix:zy Nat)(g:AG)(t:AT)(te:AE):AA:=λτ Q=>c τ λxs=>xs.length<sizeLine/\CK g t te (Ju own ix τ) Q xs []
def aT {own:Nat}{ix:zy Nat}{τ:A5}{j:Nat}{x:PV}(h:(Ju own ix τ)[j]? =some (some (.val x))):own<=j/\∃i,ix[j-own]? =some i/\τ[i]? =some (some (.val x)):=by
 unfold Ju at h;by_cases hj:j<own
 .rw [ABM (by simpa using hj),ABV,AAE hj] at h;cases h
 .rw [ABD (by simpa using hj),ABN,AAp] at h;cases e:ix[j-own]? with
  | none=>rw[e] at h;cases h
  | some i=>
    rw[e] at h;refine⟨by omega,i,rfl,N9 ?_⟩;cases c:Sd τ i with
    | none=>simp[c,Yl] at h
    | some z=>cases z <;> simp[c,Yl] at h;subst h;rfl
def Fo {own:Nat}{ix:zy Nat}{τ:A5}{j:Nat}{xs:zy PV}:(Ju own ix τ)[j]? ≠some (some (.own xs)):=λh=>by
 unfold Ju at h;by_cases hj:j<own
 .rw [ABM (by simpa using hj),ABV,AAE hj] at h;cases h
 .rw [ABD (by simpa using hj),ABN,AAp] at h;cases e:ix[j-own]? with
  | none=>rw[e] at h;cases h
  | some i=>
    rw[e] at h;cases c:Sd τ i with
    | none=>simp[c,Yl] at h
    | some z=>cases z <;> simp[c,Yl] at h
def C5.blk (B:C5)(c:L2.St)(τ:A5)(D:zu):C5:=⟨B.T,B.H,λa=>mt B c τ a\/a=D⟩
def SR.blk {K:AAB}{B:C5}{T d:zu->Prop}{H f:Hp}{c:L2.St}{τ:A5}{D:zu}{h:zy V}{own:Nat}{ix:zy Nat}(s:SR K B T H c τ)(q:DI T H d f)(l:H D=none)(hd:f D=some (.lst h))(u:¬d D):SR K (B.blk c τ D) d f (Bq own ix c) (Ju own ix τ):=by
 have g:=s.stp q;have w:Mv K T (mt B c τ) H d (mt (B.blk c τ D) (Bq own ix c) (Ju own ix τ)) f:=⟨s.va,λb o t _ e=>q.keep b o t e,q.sub,λb n t=>(q.new b t).elim id λz=>absurd z n,λb n z=>by
  rcases z with(z|z)|⟨_,_,z,_⟩
  .exact z
  .subst z;exact absurd l n
  .exact absurd z Fo⟩
 refine⟨by simp[Bq,Ju],λj x e=> ?_,λj xs e=>absurd e Fo,λj k xs ys p e=>absurd e Fo,g.tp,λa m=> ?_,λa m=> ?_,g.st⟩
 .obtain ⟨hj,i,hi,y⟩:=aT e;obtain⟨v,hv,r⟩:=s.val i x y;refine⟨v, ?_,r.mv w⟩;unfold Bq;rw[ABD (by simpa using hj),ABN,AAp,hi];simp[hv]
 .rcases m with m|m
  .exact g.va.mu a m
  .subst m;exact⟨_,hd,Ku.lst⟩
 .rcases m with m|m
  .exact g.nt m
  .subst m;exact u
def jd (X:Cx)(c:zy zr)(t:AT):Prop:=∃d,Yf X c d/\NU X.K d t
def DW:AT:=λ_ Q=>Q true
def BE:jd X [] DW:=⟨_,Xw,λB T d τ H Q f c h k=>k true T H (.refl c.tp) h⟩
def YC {c:zr}{t:AT}(h:Sc X c t):jd X [c] t:=let ⟨_,p,s⟩:=h;⟨_,gb p,s⟩
def Ob {K:AAB}{s:km}{wi:TI}{ai:AI}{own:Nat}{ix:zy Nat}{g:TG}{ag:AG}{tt:TT}{C:AT}{te:TE}(hi:Yh K s wi ai)(hg:Kx K g ag)(ht:NU K tt C)(he:Ge K te ta):aK K (de wi own ix g tt te) (Bx ai own ix ag C ta):=by
 intro B T E τ H Q AQ sr h k;refine hi B T E τ H _ _ sr h λJ xs T1 H1 s1 walk h1 D F=> ?_;obtain⟨hl,h1⟩:=h1;have j:=sr.stp s1;have nt1:¬T1 D:=λz=>by obtain⟨o,e,_⟩:=(j.tp D z).mut;rw[F] at e;cases e
 have lay:=DI.lay (o:= .lst []) j.tp F;refine⟨λi m G=>m=xs.length-i/\∃p vs c,DI T1 H1 p G/\G D=some (.lst vs)/\¬p D/\Au K p (λa=>mt B E τ a\/a=D) G vs c/\c.length<=i/\CK ag C ta (Ju own ix τ) AQ (xs.drop i) c,
  ⟨_,rfl,T1, [], [],lay,Aa,nt1, .nil,AAJ _,h1⟩, ?_⟩
 rintro i m G ⟨rfl,p,vs,c,r,Z,f,r2,fT,h2⟩;have I:=j.blk (own:=own) (ix:=ix) r F Z f;have L:Gi p (λa=>mt B E τ a\/a=D) G:=⟨I.tp,I.bm⟩;have w:=walk (λa=>mt B E τ a\/a=D) p G ⟨j.va,λb o t _ e=>r.keep b o t e,r.sub,λb n t=>(r.new b t).elim id λz=>absurd z n,λb n z=>z.elim id λz=>by subst z;exact absurd F n⟩ L (.inr r.keep);by_cases Dt:i<xs.length
 .have Tn:xs[i]? =some xs[i] :=AAT Dt;rw[ABn Dt] at h2;refine .inr ⟨w.go i _ Tn,λv H3 yl=> ?_⟩;obtain⟨P,r3⟩:=w.yld i _ v H3 Tn yl;have l:=I.stp P;refine hg _ p _ _ H3 v _ _ _ l (r3.mv (.anti ⟨l.tp,l.bm⟩ λa z=>z.elim id λ⟨_,_,z,_⟩=>absurd z Fo)) h2 λR S U o4 h4=> ?_;refine ht _ p R S H3 _ _ U h4 λok T5 H5 N h5=> ?_;have u:=U.stp N;have eB:=P.keep D _ f Z;have fQ:=N.keep D _ f eB;have M:¬T5 D:=λz=>(N.new D z).elim f λn=>by rw[n] at eB;cases eB
  have r5:=(r2.stp P L).stp N ⟨l.tp,l.bm⟩;cases ok with
  | false=> rw[AAD AAR] at h5 ⊢;exact⟨_,by omega,rfl,T5,vs,c,(r.trans P).trans N,fQ,M,r5,by omega,h5⟩
  | true=>
    rw[AAE rfl] at h5 ⊢;refine he _ T5 R S H5 _ _ u h5 λvy y O H6 W r6 h6=> ?_;have A:=u.stp W;have rQ:=W.keep D _ M fQ;have Y:¬O D:=λz=>(W.new D z).elim M λn=>by rw[n] at fQ;cases fQ
    have va6:Gi O (λa=>mt B E τ a\/a=D) H6:=⟨A.tp,A.bm⟩;have r7:=r5.stp W ⟨u.tp,u.bm⟩;have s7:=((r.trans P).trans N).trans W;have tp8:∀a,O a->En (upd H6 D (.lst (vs ++ [vy]))) a:=λa t=>by obtain⟨d,x,e,z⟩:=A.tp a t;exact⟨d,x,by rw[AZ (λw=>by subst w;exact Y t)];exact e,z⟩
    have mv8:Mv K O (λa=>mt B E τ a\/a=D) H6 O (λa=>mt B E τ a\/a=D) (upd H6 D (.lst (vs ++ [vy]))):=⟨va6,λb o _ m e=>by rw[AZ (λw=>m (.inr w))];exact e,λ_ t=>t,λ_ _ t=>t,λ_ _ z=>z⟩;refine⟨vs,rQ,by rw[r2.length];omega,_,(by omega:xs.length-(i+1)<xs.length-i),rfl,O,vs ++ [vy],c ++ [y],⟨λb o t e=> ?_,s7.sub,s7.new,tp8⟩,Aa,Y,(r7.append (.cons (r6.mv (.anti A.va λa z=> .inl z)) .nil)).mv mv8,by simp;omega,h6⟩;rw[AZ (Ah e F)];exact s7.keep b o t e
 .rw [ACN (by omega)] at h2;refine .inl ⟨w.stop i (by omega), ?_⟩;exact k D vs c p G (s1.trans r) (j.add r F Z Ku.lst f) (s1.none F) Z f (r2.mv (.anti L λa z=>by
   rcases z with(z|z)|z
   .exact .inl (.inl z)
   .exact .inr z
   .exact .inl (.inr z))) h2
structure W6 (X:Cx) (tg elt:Expr) (ifs:List Expr) (scope:Scope) (own:Nat) (ix:List Nat) (N:List Str) (g:AG) (t:AT) (te:AE):Prop where
 ex:∃g' t' te',Fy X tg elt ifs scope own ix N g' t' te'/\Kx X.K g' g/\NU X.K t' t/\Ge X.K te' te
def Bo {f c iter:zr}{d:zy zr}{scope:Scope}{own:Nat}{ix:zy Nat}{N:zy Str}{g:AG}{t:AT}{s:km}{h:AI}(hc:X.calm=true)(hi:SI X f iter s h)(O:W6 X f c d scope own ix N g t ta)(hs:∀x,foldedSetIterable iter X.env x=pure x:=by intro _;rfl):SF X (.ListComp c [⟨f,iter,d,0⟩] scope pos) (Bx h own ix g t ta):=by obtain⟨n,i,j⟩:=hi;obtain⟨g',t',k,O,l,st,m⟩:=O.ex;exact⟨_,gT hc i O hs,Ob j l st m⟩
def dQ {i:Nat}{x:Str}{pos' c:Pos}{h d iter:zr}{f:zy zr}{scope:Scope}{own:Nat}{ix:zy Nat}{N:zy Str}{g:AG}{t:AT}{s:km}{j:AI}(hc:X.calm=true)(hN:X.N.Nodup)(k:X.N[i]? =some x)(hx:Loc X.env.scope x)(hi:SI X h iter s j)(O:W6 X h d f scope own ix N g t ta)(l:swapsWith (.ListComp d [⟨h,iter,f,0⟩] scope pos) (some (.Name x pos')) c.line X.env=pure true:=by rfl)(hs:∀x,foldedSetIterable iter X.env x=pure x:=by intro _;rfl)(m:X.fn x=true\/X.env.scope.names.lookup x=some .local:=by first | exact .inl rfl|exact .inr rfl|assumption):SS X (.Assign [.Name x pos'] (.ListComp d [⟨h,iter,f,0⟩] scope pos) c) (Gf (Bx j own ix g t ta) i):=by obtain⟨v,n,o⟩:=hi;obtain⟨g',t',p,O,r,st,u⟩:=O.ex;exact⟨_,Xy hc hN k hx n O l hs m,YG (Ob o r st u)⟩
def HY {i:Nat}{x:Str}{pos' c:Pos}{h d iter:zr}{f:zy zr}{scope:Scope}{own:Nat}{ix:zy Nat}{N:zy Str}{g:AG}{t:AT}{s:km}{j:AI}(hc:X.calm=true)(hN:X.N.Nodup)(k:X.N[i]? =some x)(hx:Loc X.env.scope x)(hi:SI X h iter s j)(O:W6 X h d f scope own ix N g t ta)(l:swapsWith (.ListComp d [⟨h,iter,f,0⟩] scope pos) (some (.Name x pos')) c.line X.env=pure true:=by rfl)(hs:∀x,foldedSetIterable iter X.env x=pure x:=by intro _;rfl)(m:X.fn x=true\/X.env.scope.names.lookup x=some .local:=by first | exact .inl rfl|exact .inr rfl|assumption):SS X (.Assign [.Name x pos'] (.ListComp d [⟨h,iter,f,0⟩] scope pos) c) (Aj (Ea (Bx j own ix g t ta)) (Ak i)):=by obtain⟨v,n,o⟩:=hi;obtain⟨g',t',p,O,r,st,u⟩:=O.ex;exact⟨_,Xy hc hN k hx n O l hs m,SB (dI (Ob o r st u)) SC⟩
end
def LZ (N:Nat)(xs:zy PV):A5:=xs.map (λx=>some (.val x))++List.replicate (N-xs.length) none
def An (N:Nat)(b:AS):AF:=λxs Q=>b {nx:=λ_=>Q .non,rt:=Q,bk:=λ_=>False,ct:=λ_=>False} (LZ N xs)
def dW {K:AAB}{T M:zu->Prop}{H:Hp}{N:zy Str}{vs:zy V}{xs:zy PV}(va:Gi T M H)(b:∀a,M a->¬T a)(r:Au K T M H vs xs):SR K ⟨T,H,M⟩ T H (start N vs) (LZ N.length xs):=by
 have c:∀(j:Nat) (ys:zy PV),(LZ N.length xs)[j]? ≠some (some (.own ys)):=λj ys h=>by
  unfold LZ at h;by_cases hj:j<xs.length
  .rw [ABM (by simpa using hj),AAp,AAT hj] at h;cases h
  .rw [ABD (by simpa using hj),ABV] at h;split at h <;> cases h
 refine⟨by simp[L2.start,LZ,r.length],λj x h=> ?_,λj ys h=>absurd h (c j ys),λj k ys d p h=>absurd h (c j ys),va.tp,va.mu,b, .refl va.tp⟩;unfold LZ at h;by_cases hj:j<xs.length
 .rw [ABM (by simpa using hj),AAp,AAT hj] at h;cases h;obtain⟨v,hv,rv⟩:=r.get (AAT hj);refine⟨v, ?_,rv.mv (.anti va λa m=>m.elim id λ⟨_,_,z,_⟩=>absurd z (c _ _))⟩;unfold L2.start;rw[ABM (by rw[AAI,r.length];exact hj),AAp,hv];rfl
 .rw [ABD (by simpa using hj),ABV] at h;split at h <;> cases h
section
variable {P:kj}{w:ki}{K:AAB}{mg:Str->zt zx}{base:kf}
def fL {x qual:Str}{st:Stmt}{f:zu}{i:FuncData}{N c:zy Str}{k n:Nat}{b:AS}(F:VH K x qual st f i)(S:EO N c (BO st))(j:n=c.length)(l:∀(a:zx) (A:ke) (outer:zy Env) (s:zw) (H:Hp) (E:XK),Room k (A.deeper (envOfC qual (BO st) s.heap.objs.size f a))-> Zr (TK Sy P w K mg base N qual (BO st) f a A outer s H E).nox (EB st) b):Em P w K mg base Sy (k+1) f i c (Cf K n (An N.length b)):=by
 refine F.ok S (λvs H Q E h=> ?_) (λa A outer s H vs Q E m h=> ?_)
 .obtain ⟨T,M,xs,o,_,_,r,hl,_⟩:=h;rw[r.length,hl,j]
 .obtain ⟨T,M,xs,o,va,d,r,hl,hF,hQ⟩:=h;obtain⟨t,p,u⟩:=l a A outer s H E m;refine⟨t,p,u ⟨T,H,M⟩ T _ _ H _ _ (dW va d r) hF ⟨λe g σ' τ' _ y q=> ?_,λ_ _ _ _ _ _ q=>q.elim,λ_ _ _ _ _ _ q=>q.elim,λv x e g z B q=>hQ v x e g z B q⟩⟩;exact hQ _ _ e g y.st .non q
end
section
variable {X:Cx}
def aU {prog:kj}{w:ki}{A:ke}{E:zx->zw->Prop}{s:zw}{t b:zu}{d:zy zx}{Q:zx->zw->Prop}(j:IsTup s.heap t #[])(hb:IsTup s.heap b d.toArray)(h0:Q (.ref b) s):wpAny (model prog w) A (binaryOp .Add (.ref t) (.ref b)) Q E s:=by
 obtain⟨⟨cls,k,data,l⟩,e,hc,n,hd⟩:=id j;obtain⟨⟨f,a,data2,c⟩,g,h,m,i⟩:=id hb;simp only at hc hd h i;subst hc hd h i;exact concat_meets ⟨_,e,rfl⟩ ⟨_,g,rfl⟩ ADV seq_tuple_add ADW ADX (ADY _ _)
  (tuple_addW0 t b #[] d.toArray n m k a l c (by simp)) ⟨e,g,h0⟩
def ca (K:AAB):R2:=λx y H Q=>∃a b ys,x= .ref a/\y= .ref b/\MF K H a [] /\MF K H b ys/\Q (.ref b) H
def cB:EZ X (binaryOp .Add) (ca X.K):=by intro kd s k H x y v u Q I d e h;obtain⟨a,b,ys,rfl,rfl,ha,hb,q⟩:=h;cases d;cases e;obtain⟨f,g,i,_⟩:=I.tuple ha;obtain⟨c,l,j,_⟩:=I.tuple hb;cases g;exact aU i j ⟨.ref b,H,I,rfl,q⟩
def jE (K:AAB):R2:=λx y H Q=>((Pf (λi j=>V.int (i+j)) x y H Q\/pC x y H Q)\/jF K x y H Q)\/ca K x y H Q
def BS:Ja:=λx y Q=>match x,y with
 | .int i, .int j=>Q (.int (i+j))
 | .lst xs, .lst ys=>xs.length+ys.length<=sizeLine/\Q (.lst (xs++ys))
 | .tup xs, .tup ys=>xs.length+ys.length<=sizeLine/\Q (.tup (xs++ys))
 | _,_=>False
def Ay:EZ X (binaryOp .Add) (jE X.K)/\CZ X.K (jE X.K) BS:=by
 refine⟨((HE.or lC).or gQ).or cB,λT M H u v x y Q r va g rv h k=> ?_⟩;unfold BS at h;split at h <;> first | exact h.elim|skip
 .exact .inl (.inl (.inl ⟨_,_,g.toI,rv.toI,k _ _ T H (.refl va.tp) (.int _) h⟩))
 .obtain ⟨a,vs,rfl,hq,s,nm,d⟩:=DH g;obtain⟨b,f,rfl,i,j,l,c⟩:=DH rv;refine .inl (.inl (.inr ⟨a,b,vs,f,rfl,rfl,hq,i,by rw[d.length,c.length];exact h.1,λp hp=> ?_⟩));have st:=DI.lay (o:= .lst (vs++f)) va.tp hp;have m:¬T p:=λz=>by obtain⟨o,e,_⟩:=(va.tp p z).mut;rw[hp] at e;cases e
  have n:¬M p:=λz=>by obtain⟨o,e,_⟩:=va.mu p z;rw[hp] at e;cases e
  exact k _ _ T _ st (.lst Aa m n ((d.append c).stp st va)) h.2
 .obtain ⟨a,vs,rfl,hq,d⟩:=Ex g;obtain⟨b,f,rfl,i,c⟩:=Ex rv;by_cases e:vs= []
  .subst e;cases d;exact .inr ⟨a,b,f,rfl,rfl,hq,i,k _ _ T H (.refl va.tp) rv (by simpa using h.2)⟩
  .refine .inl (.inr ⟨a,b,vs,f,rfl,rfl,hq,i,e,by rw[d.length,c.length];exact h.1,λz=> ?_,λz p hp=> ?_⟩)
   .subst z;cases c;exact k _ _ T H (.refl va.tp) g (by simpa using h.2)
   .have st:=DI.lay (o:= .tup (vs++f)) va.tp hp;exact k _ _ T _ st (.tup (.inl Aa) ((d.append c).stp st va)) h.2
def IK {prog:kj}{w:ki}{A:ke}{E:zx->zw->Prop}{s:zw}{t b:zu}{items:Array zx}{c d:zx}{lo hi:zt Int}{Q:zx->zw->Prop}(a:IsTup s.heap t items)(hs:s.heap.IsSliceOf b c d .none)(e:IsPart c lo)(f:IsPart d hi)(hw:HT.sIx items.size 0 lo=0/\HT.sIx items.size items.size hi=items.size)(h:Q (.ref t) s):wpAny (model prog w) A (getItem (.ref t) (.ref b)) Q E s:=by
 obtain⟨os,g,i,l⟩:=id hs;have j:s.TypeIs (.ref b) "slice" :=⟨os,g,i⟩;obtain⟨ot,m,n,o,p⟩:=id a;unfold getItem;try with_reducible refine AAi ?_
 first | refine AAA (AAC ?_)|skip
 refine AAA (wpAny_sequenceKey a.typeIs (by decide) ?_);refine AAA (ABW (name:=Str.ofString "__getitem__") a.typeIs AB0
  (AA6 AB0 a.typeIs entry_tuple_getitem ?_ (args_tuple_getitem _ _)))
 show wpAny _ _ (Builtin.Tuple.tupleItemsOf (.ref t) >>= _) _ _ s;refine AAA (tupleItemsOf_ a ?_);refine AAA (ACJ j ?_);rw[AAE (by decide)];refine AAA (HT.sliceApplied_gen hs e f ?_);have k:((((HT.sIx items.size 0 lo:Nat):Int)==0&&(1:Int)==1&&(HT.sIx items.size items.size hi-HT.sIx items.size 0 lo)==items.size)=true):=by rw[hw.1,hw.2];simp
 show wpAny _ _ (if (((HT.sIx items.size 0 lo:Nat):Int)==0&&(1:Int)==1&&(HT.sIx items.size items.size hi-HT.sIx items.size 0 lo)==items.size)=true then _ else _) _ _ s;rw[AAE k];unfold Builtin.Tuple.tupleIsExact;simp only[bind_assoc,pure_bind];refine AAA (ACJ a.typeIs ?_);rw[AAE (by decide)];exact AAA (ABA (AAC ⟨_,rfl,AAC h⟩))
def tG (K:AAB):V->zt Int->zt Int->Hp->VK->Prop:=λx lo hi H Q=>∃a xs,x= .ref a/\MF K H a xs/\
 (HT.sIx xs.length 0 lo=0/\HT.sIx xs.length xs.length hi=xs.length)/\Q (.ref a) H
def iF:iY X (tG X.K):=by
 intro kd s i H x v j k lo hi l Q I d hs e f h;obtain⟨a,xs,rfl,hx,hw,q⟩:=h;cases d;obtain⟨b,r,c,hz⟩:=I.tuple hx;have g:b.toArray.size=xs.length:=by rw[AAV];exact r.length.symm
 refine⟨"tuple",_,AB0.lookup,c.typeIs, ?_⟩;exact IK c hs e f (by rw[g];exact hw) ⟨.ref a,H,I,rfl,q⟩
def Gg (xs:zy PV)(lo hi:zt Int):zy PV:=(xs.drop (HT.sIx xs.length 0 lo)).take (HT.sIx xs.length xs.length hi-HT.sIx xs.length 0 lo)
def XO {K:AAB}{T M:zu->Prop}{H:Hp}{vs:zy V}{xs:zy PV}(r:Au K T M H vs xs)(lo hi:zt Int):Au K T M H (PJ vs lo hi) (Gg xs lo hi):=by unfold PJ Gg;rw[r.length];exact(r.drop _).take _
abbrev AO:=A5->(zt Int->Prop)->Prop
def rB (K:AAB)(t:TO)(a:AO):Prop:=∀(B:C5) (T:zu->Prop) (b:L2.St) (τ:A5) (H:Hp) (Q:zt Int->Hp->Prop) (c:zt Int->Prop),SR K B T H b τ->a τ c->
 (∀o e d,DI T H e d->c o->Q o d)->t b H Q
def SO (X:Cx)(e:zt zr)(a:AO):Prop:=∃t,PO X e t/\rB X.K t a
def Zt:AO:=λ_ Q=>Q none
def Zu (a:AE):AO:=λτ Q=>a τ λx=>WK x λi=>Q (some i)
def eO:SO X none Zt:=⟨_,gc,λB T b τ H Q c a h k=>k _ T H (.refl a.tp) h⟩
def eQ {e:zr}{a:AE}(h:SE X e a):SO X (some e) (Zu a):=by obtain⟨t,p,s⟩:=h;refine⟨_,gf p,λB T b τ H Q j c h k=>s B T b τ H _ _ c h λv x d H1 f g h1=> ?_⟩;obtain⟨i,rfl,q⟩:=Re h1;exact⟨i,g.toI,k _ d H1 f q⟩
@[irreducible] def XW (x:PV)(lo hi:zt Int)(Q:PV->Prop):Prop:=match x with | .tup xs=>Q (.tup (Gg xs lo hi)) | .lst xs=>Q (.lst (Gg xs lo hi))|_=>False
def Mh {xs:zy PV}{lo hi:zt Int}{Q:PV->Prop}(h:Q (.tup (Gg xs lo hi))):XW (.tup xs) lo hi Q:=by unfold XW;exact h
def EU {xs:zy PV}{lo hi:zt Int}{Q:PV->Prop}(h:Q (.lst (Gg xs lo hi))):XW (.lst xs) lo hi Q:=by unfold XW;exact h
def Zs (a:AE)(l h:AO):AE:=λτ Q=>a τ λx=>l τ λlo=>h τ λhi=>XW x lo hi Q
def IY {e:zr}{lo hi:zt zr}{E r:Pos}{D:AE}{l h:AO}(he:SE X e D)(hl:SO X lo l)(F:SO X hi h):SE X (.Subscript e (.Slice lo hi none E) r) (Zs D l h):=by
 obtain⟨t,p,s⟩:=he;obtain⟨P,G,u⟩:=hl;obtain⟨R,w,y⟩:=F;refine⟨_,cO ((iE.or l8).or iF) p G w,λB T n τ H Q S f h k=>s B T n τ H _ _ f h λv x I H1 g J h1=> ?_⟩;refine u B I n τ H1 _ _ (f.stp g) h1 λlo K L i h2=> ?_;refine y B K n τ L _ _ ((f.stp g).stp i) h2 λhi T3 M A d=> ?_;have b:=((f.stp g).stp i).stp A;have C:=(J.stp i (f.stp g).va).stp A ((f.stp g).stp i).va;have c:=(g.trans i).trans A;unfold XW at d;split at d <;> first | exact d.elim|skip
 .obtain ⟨a,vs,rfl,hq,j⟩:=Ex C;by_cases hw:HT.sIx vs.length 0 lo=0/\HT.sIx vs.length vs.length hi=vs.length
  .refine .inr ⟨a,vs,rfl,hq,hw,k _ _ T3 M c C ?_⟩;rename_i xs;have:Gg xs lo hi=xs:=by unfold Gg;rw[<-j.length,hw.1,hw.2,j.length];simp
   rw[this] at d;exact d
  .refine .inl (.inr ⟨a,vs,rfl,hq,hw,λq m=> ?_⟩);have st:=DI.lay (o:= .tup (PJ vs lo hi)) b.tp m;exact k _ _ T3 _ (c.trans st) (.tup (.inl Aa) ((XO j lo hi).stp st b.va)) d
 .obtain ⟨a,vs,rfl,hq,U,nm,j⟩:=DH C;refine .inl (.inl ⟨a,vs,rfl, .inl (.inl hq),λq m=> ?_⟩);have st:=DI.lay (o:= .lst (PJ vs lo hi)) b.tp m;have N:¬T3 q:=λz=>by obtain⟨o,e,_⟩:=(b.tp q z).mut;rw[m] at e;cases e
  have O:¬mt B n τ q:=λz=>by obtain⟨o,e,_⟩:=b.va.mu q z;rw[m] at e;cases e
  exact k _ _ T3 _ (c.trans st) (.lst Aa N O ((XO j lo hi).stp st b.va)) d
end
def BB:AF:=λxs Q=>match xs with | [.tape, .int m] =>(0<m/\m<4611686018427387904)/\∀r,0<=r->r<m->Q (.int r)|_=>False
def NR:AF:=λxs Q=>match xs with | [.scr ns, .int k] =>(0<=k/\k<=1000)/\Q .tape|_=>False
def nI (g:TG):Prop:=∀v b H Q c,(∀a d,Q a d->c a d)->g v b H Q->g v b H c
def jW (g:VM):Prop:=∀v b H Q c,(∀a d,Q a d->c a d)->g v b H Q->g v b H c
def SK (own:Nat)(X:Cx)(a:zr)(ag:AG):Prop:=∃g,PG X a g/\Kx X.K g ag/\IT own g/\nI g
def qC (own:Nat)(X:Cx)(a:zy zr)(ag:U0):Prop:=∃g,mX X a g/\Px X.K g ag/\NS own g/\jW g
section
variable {X:Cx}{pos:Pos}{own:Nat}
def iD {i:Nat}{x:Str}(hN:X.N.Nodup)(hi:X.N[i]? =some x)(hx:Loc X.env.scope x)(hk:i<own)(a:X.fn x=true\/X.env.scope.names.lookup x=some .local:=by first | exact .inl rfl|exact .inr rfl|assumption):SK own X (.Name x pos) (Ak i):=
 ⟨_,ES hN hi hx a,SC,Q6 hk,MY⟩
def Ht:qC own X [] B0:=⟨_,KG,Um,XZ,Q7⟩
def CA {e:zr}{es:zy zr}{ag:AG}{a:U0}(h1:SK own X e ag)(h2:qC own X es a)(hs:(assignEach (e::es) X.env).map (·.2)=assign e X.env::(assignEach es X.env).map (·.2):=by rfl):qC own X (e::es) (Ad ag a):=
 let ⟨_,p,s,k,m⟩:=h1;let ⟨_,c,d,f,b⟩:=h2;⟨_,Dp p c hs,QU s d,Nt k m f b,TU m b⟩
end
def ma (K:AAB)(own:Nat)(ag:AG):TG:=λv a H Q=>∃(B:C5) (T:zu->Prop) (τ:A5) (x:PV) (c:A5->Prop),SR K B T H a τ/\CM K T (mt B a τ) H v x/\ag x τ c/\
 ∀σ' τ',SR K B T H σ' τ'->(∀b,Cn σ' τ' b->Cn a τ b)->c τ'->(σ'.length=a.length/\∀j,own<=j->σ'[j]? =a[j]?)->Q σ' H
def pk (K:AAB)(a:AT):TT:=λe H Q=>∃(B:C5) (T:zu->Prop) (τ:A5) (c:km->Prop),SR K B T H e τ/\a τ c/\∀b f d,DI T H f d->c b->Q b d
def nX (K:AAB)(a:AE):TE:=λc H Q=>∃(B:C5) (T:zu->Prop) (τ:A5) (d:PV->Prop),SR K B T H c τ/\a τ d/\∀v x e b,DI T H e b->CM K e (mt B c τ) b v x->d x->Q v b
def SD {K:AAB}{own:Nat}{ag:AG}:Kx K (ma K own ag) ag:=λB T c τ H v x Q a b r h k=>⟨B,T,τ,x,a,b,r,h,λσ' τ' s o q _=>k σ' τ' s o q⟩
def N3 {K:AAB}{own:Nat}{ag:AG}:IT own (ma K own ag):=λv c H Q ⟨B,T,τ,x,a,b,r,h,k⟩=>⟨B,T,τ,x,a,b,r,h,λσ' τ' s o q z=>⟨k σ' τ' s o q z,z⟩⟩
def SJ {K:AAB}{a:AT}:NU K (pk K a) a:=λB T d τ H Q b c h k=>⟨B,T,τ,b,c,h,k⟩
def YF {K:AAB}{a:AE}:Ge K (nX K a) a:=λB T d τ H Q b c h k=>⟨B,T,τ,b,c,h,k⟩
section
variable {X:Cx}
def SK.of {own:Nat}{e:zr}{ag:AG}(h:SK own X e ag):PG X e (ma X.K own ag):=by obtain⟨g,p,s,k,m⟩:=h;intro kd i a H v u Q I r hw;obtain⟨B,T,τ,x,f,j,l,h,c⟩:=hw;have h1:g v a H λσ' n=>n=H/\∃τ',SR X.K B T H σ' τ'/\(∀b,Cn σ' τ' b->Cn a τ b)/\f τ':=s B T a τ H v x _ f j l h λσ' τ' s o q=>⟨rfl,τ',s,o,q⟩;have h2:=k v a H _ h1;refine p kd i a H v u Q I r (m v a H _ _ (λd A q=> ?_) h2);obtain⟨⟨rfl,τ',t,w,y⟩,z⟩:=q;exact c d τ' t w y z
def jd.of {b:zy zr}{a:AT}(h:jd X b a):Yf X b (pk X.K a):=by obtain⟨t,p,s⟩:=h;intro kd e d H Q I hw;obtain⟨B,T,τ,f,g,h,c⟩:=hw;exact p kd e d H Q I (s B T d τ H Q f g h c)
def SE.of {e:zr}{a:AE}(h:SE X e a):PE X e (nX X.K a):=by obtain⟨t,p,s⟩:=h;intro kd d b H Q I hw;obtain⟨B,T,τ,f,g,h,c⟩:=hw;exact p kd d b H Q I (s B T b τ H Q f g h c)
def Bg {e a:zr}{b:zy zr}{scope:Scope}{own:Nat}{ix:zy Nat}{N:zy Str}{g:AG}{t:AT}{te:AE}(h1:scope.kind= .function)(h2:(scope.names.all λy=> !decide (y.2= .cell))=true)(f:(scope.names.all λy=> !decide (y.2= .local)||decide (scope.names.lookup y.1=some .local))=true)(h:(scope.names.all λy=> !decide (y.2= .free)||decide (X.env.scope.names.lookup y.1=some .cell))=true)(i:N.length=own+ix.length)(j:Q3 X (relabel scope X.env) own ix N=true)(c:∀cl C s H ex pn,SK own (blk X (relabel scope X.env) N cl C s H ex pn) e g)(d:∀cl C s H ex pn,jd (blk X (relabel scope X.env) N cl C s H ex pn) b t)(val:∀cl C s H ex pn,SE (blk X (relabel scope X.env) N cl C s H ex pn) a te):W6 X e a b scope own ix N g t te:=
 ⟨ma X.K own g,pk X.K t,nX X.K te,Qw h1 h2 f h i j N3 (λcl C s H ex pn=>(c cl C s H ex pn).of) (λcl C s H ex pn=>(d cl C s H ex pn).of) (λcl C s H ex pn=>(val cl C s H ex pn).of),SD,SJ,YF⟩
end
mutual
def pd:PV->PyData
 | .bl b=> .bool b
 | .int i=> .int i
 | .str x=> .str x
 | .tup xs=> .tuple (Rh xs)
 | .lst xs=> .list (Rh xs)
 | _=> .none
def Rh:zy PV->zy PyData
 | [] => []
 | x::xs=>pd x::Rh xs
end
mutual
def EN:Nat->PV->km
 | _, .non=>true
 | _, .bl _=>true
 | _, .int _=>true
 | _, .str x=>PyData.strOk x
 | n+1, .tup xs=>LC n xs
 | n+1, .lst xs=>LC n xs
 | _,_=>false
def LC:Nat->zy PV->km
 | _, [] =>true
 | n,x::xs=>EN n x&&LC n xs
end
mutual
theorem GB:∀(n:Nat) (x:PV),EN n x=true->(pd x).canLay0=true/\(pd x).depth<=n/\(pd x).hasDict=false
 | n, .non,_=>⟨rfl,AAw _,rfl⟩
 | n, .bl _,_=>⟨rfl,AAw _,rfl⟩
 | n, .int _,_=>⟨rfl,AAw _,rfl⟩
 | n, .str x,h=>⟨by simpa[pd,PyData.canLay0,EN] using h,AAw _,rfl⟩
 | 0, .tup xs,h=>by simp[EN] at h
 | 0, .lst xs,h=>by simp[EN] at h
 | n+1, .tup xs,h=>by obtain⟨a,b,c⟩:=OC n xs (by simpa[EN] using h);exact⟨by simpa[pd,PyData.canLay0] using a,by simpa[pd,PyData.depth] using b,by simpa[pd,PyData.hasDict] using c⟩
 | n+1, .lst xs,h=>by obtain⟨a,b,c⟩:=OC n xs (by simpa[EN] using h);exact⟨by simpa[pd,PyData.canLay0] using a,by simpa[pd,PyData.depth] using b,by simpa[pd,PyData.hasDict] using c⟩
 | n, .tape,h=>by simp[EN] at h
 | n, .scr _,h=>by simp[EN] at h
 | n, .ty _,h=>by simp[EN] at h
 | n, .dct _,h=>by simp[EN] at h
 | n, .dk _,h=>by simp[EN] at h
theorem OC:∀(n:Nat) (xs:zy PV),LC n xs=true->PyData.canLayAll0 (Rh xs)=true/\PyData.depthAll (Rh xs)<=n/\PyData.hasDictAll (Rh xs)=false
 | n, [],_=>⟨rfl,AAw _,rfl⟩
 | n,x::xs,h=>by simp only[LC,AAq] at h;obtain⟨a,b,c⟩:=GB n x h.1;obtain⟨d,f,e⟩:=OC n xs h.2;exact⟨by simp[Rh,PyData.canLayAll0,a,d],by simp only[Rh,PyData.depthAll];omega,by simp[Rh,PyData.hasDictAll,c,e]⟩
end
section
variable {X:Cx}{kd:zy (zu×Obj)}{σ:L2.St}{H:Hp}{s:zw}
mutual
theorem Fv (I:Inv X kd σ H s){T M:zu->Prop}:∀(n:Nat) {x:PV} {v:V} {u:zx},CM X.K T M H v x->EN n x=true->RelV v u->∃as,Reads s.heap u (pd x) as
 | _,_,_,_, .non,_,r=>by cases r;exact⟨_, .none⟩
 | _,_,_,_, .bl b,_,r=>by cases r;exact⟨_, .bool b⟩
 | _,_,_,_, .int i,_,r=>by obtain⟨t,rfl⟩:=r;exact⟨_, .int i t⟩
 | _,_,_,_, .str x,_,r=>by obtain⟨t,rfl⟩:=r;exact⟨_, .str x t⟩
 | _,_,_,_, .ty n,h,r=>by simp[EN] at h
 | 0,_,_,_, .tup hq rs,h,r=>by simp[EN] at h
 | 0,_,_,_, .lst hq t m rs,h,r=>by simp[EN] at h
 | n+1,_,_,_, .tup hq rs,h,r=>by cases r;obtain⟨a,rv,⟨o,c,hc,k,hd⟩,_⟩:=I.tuple hq.sq;obtain⟨as,ra⟩:=HF I n rs (by simpa[EN] using h) rv;exact⟨_, .tuple c hc hd (by simpa using ra)⟩
 | n+1,_,_,_, .lst hq t m rs,h,r=>by cases r;obtain⟨a,rv,⟨o,k,c,hc,_,hd⟩,_⟩:=I.list (E8.of hq);obtain⟨as,ra⟩:=HF I n rs (by simpa[EN] using h) rv;exact⟨_, .list c hc hd (by simpa using ra)⟩
 | _,_,_,_, .tape _,h,r=>by simp[EN] at h
 | _,_,_,_, .scr _,h,r=>by simp[EN] at h
 | _,_,_,_, .dct _ _ _,h,r=>by simp[EN] at h
 | _,_,_,_, .dk _ _,h,r=>by simp[EN] at h
theorem HF (I:Inv X kd σ H s){T M:zu->Prop}:∀(n:Nat) {xs:zy PV} {vs:zy V} {us:zy zx},Au X.K T M H vs xs->LC n xs=true->Aq vs us->∃as,ReadsAll s.heap us (Rh xs) as
 | _,_,_,_, .nil,_,r=>by cases r;exact⟨_, .nil⟩
 | n,_,_,_, .cons h t,hk,r=>by
   simp only[LC,AAq] at hk;cases r with
   | cons r a=> obtain⟨as,ra⟩:=Fv I n h hk.1 r;obtain⟨bs,b⟩:=HF I n t hk.2 a;exact⟨_, .cons ra b⟩
end
end
section
variable {X:Cx}
def ie (x y:PV):km:=PyData.eqv (pd x) (pd y)
def gt (K:AAB)(neg:km):R2:=λu v H Q=>∃(T M:zu->Prop) (x y:PV),CM K T M H u x/\CM K T M H v y/\EN 30 x=true/\EN 30 y=true/\Q (.bl (if neg then !ie x y else ie x y)) H
def lD {k:Nat}(c:Room k X.A):EZ X (compareOp .Eq) (gt X.K false):=by intro kd s l H u v m n Q I d rv h;obtain⟨T,M,x,y,e,f,a,b,q⟩:=h;obtain⟨as,ra⟩:=Fv I 30 e a d;obtain⟨bs,g⟩:=Fv I 30 f b rv;obtain⟨i,o,_⟩:=GB 30 x a;obtain⟨j,b2,_⟩:=GB 30 y b;exact SeqAt.compareEq_reads ra g i j (by have:=c.un;omega) ⟨.bl _,H,I,rfl,q⟩
def lF {k:Nat}(c:Room k X.A):EZ X (compareOp .NotEq) (gt X.K true):=by intro kd s l H u v m n Q I d rv h;obtain⟨T,M,x,y,e,f,a,b,q⟩:=h;obtain⟨as,ra⟩:=Fv I 30 e a d;obtain⟨bs,g⟩:=Fv I 30 f b rv;obtain⟨i,o,_⟩:=GB 30 x a;obtain⟨j,b2,_⟩:=GB 30 y b;exact SeqAt.compareNe_reads ra g i j (by have:=c.un;omega) ⟨.bl _,H,I,rfl,q⟩
def Ln:Ja:=λx y Q=>match c8 x y with | some b=>Q (.bl b)|none=>(EN 30 x=true/\EN 30 y=true)/\Q (.bl (ie x y))
def Yy:Ja:=λx y Q=>match c8 x y with | some b=>Q (.bl (!b))|none=>(EN 30 x=true/\EN 30 y=true)/\Q (.bl (!ie x y))
def pD (K:AAB):R2:=λx y H Q=>vL x y H Q\/gt K false x y H Q
def pI (K:AAB):R2:=λx y H Q=>vM x y H Q\/gt K true x y H Q
def Dq {k:Nat}(c:Room k X.A):EZ X (compareOp .Eq) (pD X.K)/\CZ X.K (pD X.K) Ln:=by
 refine⟨ou.or (lD c),λT M H u v x y Q d va a rv h k=> ?_⟩;unfold Ln at h;split at h
 .rename_i b e;obtain⟨h1,h2⟩:=Ui a rv e;refine .inl ⟨h1, ?_⟩;rw[h2];exact k _ _ T H (.refl va.tp) (.bl _) h
 .exact .inr ⟨T,M,x,y,a,rv,h.1.1,h.1.2,k _ _ T H (.refl va.tp) (.bl _) h.2⟩
def QW {k:Nat}(c:Room k X.A):EZ X (compareOp .NotEq) (pI X.K)/\CZ X.K (pI X.K) Yy:=by
 refine⟨ox.or (lF c),λT M H u v x y Q d va a rv h k=> ?_⟩;unfold Yy at h;split at h
 .rename_i b e;obtain⟨h1,h2⟩:=Ui a rv e;refine .inl ⟨h1, ?_⟩;rw[h2];exact k _ _ T H (.refl va.tp) (.bl _) h
 .exact .inr ⟨T,M,x,y,a,rv,h.1.1,h.1.2,k _ _ T H (.refl va.tp) (.bl _) h.2⟩
def N1:PV->km | .tup _=>true | .lst _=>true|_=>false
@[irreducible] def qX (x:PV):Str:=(pd x).shown
structure PB (x:PV):Prop where
 ok:EN 30 x=true
 sh:(pd x).showable=true
 sz:(pd x).shown.length<=sizeLine
@[irreducible] def TQ:AF:=λxs Q=>match xs with | [.non] =>Q (.str "None") | [x] =>N1 x=true/\PB x/\Q (.str (qX x))|_=>False
def lW (K:AAB):zy V->Hp->VK->Prop:=λus H Q=>(us= [.non] /\Q (.str "None") H)\/∃(T M:zu->Prop) (u:V) (x:PV),us= [u] /\CM K T M H u x/\N1 x=true/\PB x/\Q (.str (qX x)) H
def Yq {k:Nat}(c:Room k X.A):Cr X (.type "str") (lW X.K):=by
 intro kd s j H us vs Q I r h;rcases h with⟨rfl,q⟩|⟨T,M,u,x,rfl,d,hq,ok,q⟩
 .cases r with
  | cons r t=> cases t;cases r;exact P.str_of_none ⟨.str _,H,I.tok _,⟨_,rfl⟩,q⟩
 .cases r with
  | cons r t=>
    cases t;obtain⟨as,ra⟩:=Fv I 30 d ok.ok r;obtain⟨l,m,f⟩:=GB 30 x ok.ok;have hv:∃a,u= .ref a:=by cases d <;> first | exact⟨_,rfl⟩|(simp[N1] at hq)
    obtain⟨a,rfl⟩:=hv;cases r;have g:Q (.str (pd x).shown) H:=by unfold qX at q;exact q
    refine str_of_reads ra ok.sh (λz=>by rw[f] at z;cases z) c.gd (by have:=c.un;omega) (λb o e=>e) (λh' t i hk=> ?_) ok.sz;exact⟨.str _,H,I.kept (t':=i) hk,⟨_,rfl⟩,g⟩
def c7 {k:Nat}(a:Room k X.A):Cr X (.type "str") (lW X.K)/\E7 X.K (lW X.K) TQ:=by
 refine⟨Yq a,λT M H us xs Q b va r h k=> ?_⟩;unfold TQ at h;split at h <;> first | exact h.elim|skip
 .cases r with | cons r t=>cases t;cases r;exact .inl ⟨rfl,k _ _ T H (.refl va.tp) (.str _) h⟩
 .cases r with | cons r t=>cases t;exact .inr ⟨T,M,_,_,rfl,r,h.1,h.2.1,k _ _ T H (.refl va.tp) (.str _) h.2.2⟩
end
section
variable {prog:kj}{w:ki}{A:ke}{E:zx->zw->Prop}{s:zw}
def Lp {h:kf}{l:zu}{items:Array zx}(hl:h.IsList l items)(o:Obj):(h.push o).IsList l items:=by obtain⟨a,e,r⟩:=hl;exact⟨a,AAH _ e,r⟩
theorem P8 {it t:zu}{items:Array zx}(f:t≠it):∀(n i:Nat) (s:zw) (Q:zy zx->zw->Prop),s.heap.IsListIter it t i->s.heap.IsList t items->i+n<=items.size-> (∀h',h'.IsListIter it t (i+n)->Heap.SameBut it s.heap h'->Q ((items.toList.drop i).take n) {s with heap:=h'})->wpAny (model prog w) A (draw (.ref it) n) Q E s
 | 0,i,s,Q,hit,_,_,hQ=>by show wpAny _ _ (pure []) Q E s;exact AAC (by simpa using hQ s.heap hit (Heap.SameBut.refl ..))
 | n+1,i,s,Q,hit,ht,Zz,hQ=>by
   have g:i<items.size:=by omega
   show wpAny _ _ (pyNext (.ref it) >>= _) Q E s;refine AAA (wpAny_pyNext_list_item hit ht (x:=items[i]) (by simp[g]) λh b a=> ?_);refine AAA (AAi (P8 f n (i+1) _ _ b (ht.extBut a.extBut f) (by omega) λe c d=>AAC ?_));have hd:items.toList.drop i=items[i] :: items.toList.drop (i+1):=by simp[ABn,g]
   have:=hQ e (by rw[show i+(n+1)=i+1+n by omega];exact c) (a.trans d);rw[hd,ADc] at this;exact this
def Lb {t:zu}{items:Array zx}{Q:zy zx->zw->Prop}(k:A.handled=none)(g:s.heap.IsList t items)(hQ:∀h',Heap.ExtBut s.heap.objs.size s.heap h'->Q items.toList {s with heap:=h'}):wpAny (model prog w) A (unpackItems (.ref t) items.size none) Q E s:=by
 have j:t≠s.heap.objs.size:=by obtain⟨o,l,_⟩:=g;exact AAL (AAG l)
 unfold unpackItems;refine AAA ?_
 .unfold notIterableAtAll;refine AAA (ABi g.typeIs slot_list_iter.lookup ?_);refine AAC ?_;simp only[AAn,AAZ];refine AAA (AAi (ACL g ?_));refine AAA (AAi (P8 j items.size 0 _ _ ⟨_,AAS _ rfl,rfl,rfl⟩ (Lp g _) (by omega) λh c a=> ?_));have m:List.take items.size (List.drop 0 items.toList)=items.toList:=by rw[List.drop_zero];exact ABb (by simp)
  rw[m];rw[AAD (by simp)];have d:h.IsList t items:=(Lp g _).extBut a.extBut j;refine AAA (AAi (wpAny_pyNext_list_end k c d (by simp) λi f=> ?_));simp only[Option.isSome_none,AAn,AAZ];refine AAC (hQ i λb o hb e=>f b o hb (a.extBut b o hb (AAH _ e)))
def Jt {env:Env}{elts:zy zr}{x1}{a:Pos}{t:zu}{items:Array zx}{Q:Unit->zw->Prop}(b:A.handled=none)(c:s.heap.IsList t items)(d:(assignEach elts env).length=items.size)(e:(assignEach elts env).findIdx? (·.1)=none)(h:∀h',Heap.ExtBut s.heap.objs.size s.heap h'->wpAny (model prog w) A (assignInOrder ((assignEach elts env).map (·.2)) items.toList) Q E {s with heap:=h'}):wpAny (model prog w) A (assign (.Tuple elts x1 a) env (.ref t)) Q E s:=by rw[assign_Tuple];refine AAA (AA1 ?_);unfold unpack;rw[d,e];exact AAA (AAi (Lb b c h))
end
section
variable {X:Cx}{pos:Pos}
def PM (K:AAB)(n:Nat)(t:VM):TG:=λv b H Q=>∃a xs,v= .ref a/\(MF K H a xs\/E8 K H a xs)/\xs.length=n/\t xs b H Q
def OJ {es:zy zr}{k:Nat}{t:VM}{n:Nat}(hc:X.calm=true)(h:mX X es t)(i:(assignEach es X.env).length=n:=by rfl)(j:(assignEach es X.env).findIdx? (·.1)=none:=by rfl):PG X (.Tuple es k pos) (PM X.K n t):=by
 intro kd s c H v u Q I r hw;obtain⟨a,xs,l,hq,hl,hw⟩:=hw;subst l;cases r;rcases hq with hq|hq
 .obtain ⟨d,rv,f,hz⟩:=I.tuple hq;refine assign_Tuple_tuple (I.ok.hd hc) f (by simp[i,<-hl,rv.length]) j λh' hx=> ?_;have g:Inv X kd c H {s with heap:=h'}:=I.kept (t':=s.toks) λb o e=>hx b o (AAL (AAG e)) e;exact h kd _ c H xs _ Q g (by simpa using rv) hw
 .obtain ⟨d,rv,f,hz⟩:=I.list hq;refine Jt (I.ok.hd hc) f.isList (by simp[i,<-hl,rv.length]) j λh' hx=> ?_;have g:Inv X kd c H {s with heap:=h'}:=I.kept (t':=s.toks) λb o e=>hx b o (AAL (AAG e)) e;exact h kd _ c H xs _ Q g (by simpa using rv) hw
def Jb (n:Nat)(r:U0):AG:=λx τ Q=>Oq x λxs=>xs.length=n/\r xs τ Q
def dJ {K:AAB}{n:Nat}{gs:VM}{a:U0}(s:Px K gs a):Kx K (PM K n gs) (Jb n a):=λB T c τ H v x Q d e r h k=>by
 obtain⟨xs,hx,h⟩:=JB h;rcases hx with rfl|rfl
 .obtain ⟨p,vs,rfl,hq,b⟩:=Ex r;exact⟨p,vs,rfl, .inl hq,by rw[b.length];exact h.1,s B T c τ H vs _ Q d e b h.2 k⟩
 .obtain ⟨p,vs,rfl,hq,f,nm,b⟩:=DH r;exact⟨p,vs,rfl, .inr (.inl (.inl hq)),by rw[b.length];exact h.1,s B T c τ H vs _ Q d e b h.2 k⟩
def C2 {es:zy zr}{k:Nat}{a:U0}{n:Nat}(hc:X.calm=true)(h:qB X es a)(b:(assignEach es X.env).length=n:=by rfl)(c:(assignEach es X.env).findIdx? (·.1)=none:=by rfl):SG X (.Tuple es k pos) (Jb n a):=
 let ⟨_,p,s⟩:=h;⟨_,OJ hc p b c,dJ s⟩
def bA {own:Nat}{K:AAB}{n:Nat}{t:VM}(h:NS own t):IT own (PM K n t):=λv b H Q ⟨a,xs,e,h1,h2,c⟩=>⟨a,xs,e,h1,h2,h xs b H Q c⟩
def LX {own:Nat}{es:zy zr}{k:Nat}{b:U0}{n:Nat}(hc:X.calm=true)(h:qC own X es b)(c:(assignEach es X.env).length=n:=by rfl)(d:(assignEach es X.env).findIdx? (·.1)=none:=by rfl):SK own X (.Tuple es k pos) (Jb n b):=
 let ⟨_,p,s,f,m⟩:=h;⟨_,OJ hc p c d,dJ s,bA f,λv i H Q j z ⟨a,xs,e,h1,h2,g⟩=>⟨a,xs,e,h1,h2,m _ _ _ _ _ z g⟩⟩
def kK:mY X .Mult (λx y H Q=>∃i j,x= .int i/\y= .int j/\MulOk i j/\Q (.int (i*j)) H):=by intro kd s f H x y v u Q I a b h;obtain⟨i,j,d,e,c,q⟩:=h;subst d;subst e;obtain⟨t,rfl⟩:=a;obtain⟨t',rfl⟩:=b;exact AutoIntOps.imul_0 (show (Made.int (i*j)).post _ _ from⟨.int _,H,I.tok _,⟨_,rfl⟩,q⟩) (.of_le (Hi c.l) (Hi c.r) (by decide))
def l7:mY X .Mult (λx y H Q=>∃i j,x= .int i/\y= .int j/\MulOk i j/\Q (.int (i*j)) H)/\CZ X.K (λx y H Q=>∃i j,x= .int i/\y= .int j/\MulOk i j/\Q (.int (i*j)) H) DP:=⟨kK,λT M H u v x y Q b va a rv h k=>by
 obtain⟨i,j,rfl,rfl,c,q⟩:=Mb h;exact⟨i,j,a.toI,rv.toI,c,k _ _ T H (.refl va.tp) (.int _) q⟩⟩
end
def Od {i:Int}(a:0<=i)(b:i<2147483647): -(2^64)<i/\i<2^64:=⟨by omega,by omega⟩
def xR (b:km):(0:Int)<=(if b=true then 1 else 0):=by cases b <;> decide
def uo (b:km): -(2^64)<(if b=true then (1:Int) else 0)/\(if b=true then (1:Int) else 0)<2^64:=by cases b <;> decide
def dn {T:zu->Prop}{H:Hp}{p:zu}{d x:Int}(tp:∀a,T a->En H a)(t:T p)(c:0<=d)(f:0<=x)(g:x<2147483647):DI T H T (upd H p (.lst [.int d, .int x])) where
 keep:=λb o n e=>by rw[AZ (λz=>n (by subst z;exact t))];exact e
 sub:=λ_ t=>t
 new:=λ_ t=> .inl t
 tp:=λa h=>by
  by_cases z:a=p
  .subst z;exact⟨d,x,Aa,c,f,g⟩
  .obtain ⟨d',i,e,q⟩:=tp a h;exact⟨d',i,by rw[AZ z];exact e,q⟩
def dm {T:zu->Prop}{H:Hp}{p:zu}{d x:Int}(tp:∀a,T a->En H a)(hp:H p=none)(f:0<=d)(g:0<=x)(h:x<2147483647):DI T H (λb=>T b\/b=p) (upd H p (.lst [.int d, .int x])) where
 keep:=λb o n e=>by rw[AZ (Ah e hp)];exact e
 sub:=λ_ t=> .inl t
 new:=λb t=>t.elim .inl λz=> .inr (by subst z;exact hp)
 tp:=λa c=>by
  by_cases z:a=p
  .subst z;exact⟨d,x,Aa,f,g,h⟩
  .rcases c with c|c
   .obtain ⟨d',i,e,q⟩:=tp a c;exact⟨d',i,by rw[AZ z];exact e,q⟩
   .exact absurd c z
def law_sp {K:AAB}{H:Hp}{a:zu}{b:zy Int}{F:AF}(c:E8 K H a (b.map V.int))(h:F [.scr b] λx=>x= .bl true):Cf K 1 F [.ref a] H (λv _=>v= .bl true) λ_ _ _=>False:=by
 refine⟨λ_=>False,λ_=>False, [.scr b],_,⟨λ_ z=>z.elim,λ_ z=>z.elim⟩,λ_ z=>z.elim, .cons (.scr ?_) .nil,rfl,h,λv x d f _ r e=> ?_⟩
 .rcases c with h|h
  .exact .inl ⟨h,id,id⟩
  .exact .inr λH=> .inr h
 .subst e;cases r;rfl
theorem Hm {g:AG}{b:AS}{D:Gm}(a:zy PV->A5->Prop)(hd:∀τ,a [] τ->D.nx τ)(hs:∀x r τ (R:A5->Prop),(∀τ,a r τ->R τ)->a (x::r) τ->g x τ λc=>b {D with nx:=R,ct:=R,bk:=D.nx} c):∀xs τ,a xs τ->DQ g b D xs τ
 | [],τ,h=>hd τ h
 | x::r,τ,h=>hs x r τ _ (λd h2=>Hm a hd hs r d h2) h
theorem XM {g:AG}{t:AT}{te:AE}{b:A5}{Q:zy PV->Prop}(c:zy PV->zy PV->Prop)(hd:∀a,c [] a->Q a)(hs:∀x r a (R:zy PV->Prop),(∀a,c r a->R a)->c (x::r) a->g x b λd=>t d λok=>if ok=true then te d λy=>R (a ++ [y]) else R a):∀xs a,c xs a->CK g t te b Q xs a
 | [],a,h=>hd a h
 | x::r,a,h=>hs x r a _ (λe h2=>XM c hd hs r e h2) h
theorem W3 {c:AT}{b:AS}{D:Gm}(a:Nat->A5->Prop)(h0:∀τ,¬a 0 τ)(hs:∀n τ (R:A5->Prop),(∀τ,a n τ->R τ)->a (n+1) τ->c (frz τ) λk=>if k=true then b {D with nx:=R,ct:=R,bk:=D.nx} τ else D.nx τ):∀n τ,a n τ->Uu c b D n τ
 | 0,τ,h=>absurd h (h0 τ)
 | n+1,τ,h=>hs n τ _ (λd h2=>W3 a h0 hs n d h2) h
def KL (lo:Int)(n:Nat):rng lo (n+1)= .int lo::rng (lo+1) n:=by
 unfold rng;rw[List.range_succ_eq_map,AAK,AAe];congr 1
 .simp
 .apply AA9;intro k _;simp only[Function.comp];congr 1;omega
def WR (lo:Int)(n:Nat):(rng lo n).length=n:=by simp[rng]
end PL
namespace PL
open PySem L2 PyProof.Rows
def fr (r:Rat):PV:= .tup [.int r.num, .int (r.den:Int)]
def Iv {b:km}{A B:Prop}(h1:b=true->A)(h2:b=false->B):if b=true then A else B:=by
 cases b with
 | true=>rw[AAE rfl];exact h1 rfl
 | false=>rw[AAD AAR];exact h2 rfl
structure Bd (n:Nat) (r:Rat):Prop where
 top:r.num.natAbs<2^n
 bot:r.den<2^n
def Bd.botI {n:Nat}{r:Rat}(b:Bd n r):(r.den:Int).natAbs<2^n:=by simpa using b.bot
def OK {m n:Nat}(h:m<=n):2^m<=2^n:=ADd (by decide) h
def Bd.mono {m n:Nat}{r:Rat}(b:Bd m r)(h:m<=n):Bd n r:=⟨AAX b.top (OK h),AAX b.bot (OK h)⟩
def WC {a b m n:Nat}(ha:a<2^m)(hb:b<2^n):a*b<2^(m+n):=by rw[Nat.pow_add];exact Nat.mul_lt_mul_of_lt_of_le ha (ACh hb) (Nat.pos_of_ne_zero (by intro z;rw[z] at hb;omega)) |> λh=>h
def Bm {a b:Int}{m n:Nat}(ha:a.natAbs<2^m)(hb:b.natAbs<2^n):(a*b).natAbs<2^(m+n):=by rw[ADe];exact WC ha hb
def XD {a b:Int}{n:Nat}(ha:a.natAbs<2^n)(hb:b.natAbs<2^n):(a+b).natAbs<2^(n+1):=by rw[Nat.pow_succ];omega
def YN {a b:Int}{n:Nat}(ha:a.natAbs<2^n)(hb:b.natAbs<2^n):(a-b).natAbs<2^(n+1):=by rw[Nat.pow_succ];omega
def A6 {a m n:Nat}(h:a<2^m)(b:m<=n):a<2^n:=AAX h (OK b)
def MulOk.of {a b:Int}{m n:Nat}(ha:a.natAbs<2^m)(hb:b.natAbs<2^n)(c:m<=1000000:=by omega)(d:n<=1000000:=by omega):MulOk a b:=⟨A6 ha c,A6 hb d⟩
def Ve (t b:Int):(Rat.divInt t b).num.natAbs<=t.natAbs:=by
 rw[AC2];by_cases h:b=0
 .subst h;simp
 .have e:(b.gcd t:Int) ∣ b.sign*t:=Int.dvd_trans (Int.gcd_dvd_right ..) (Int.dvd_mul_left ..);rw[Int.natAbs_ediv_of_dvd e,ADe];refine AAf (ABo _ _) ?_;rw[Int.natAbs_sign_of_ne_zero h];omega
def Vd (t b:Int)(h:b≠0):(Rat.divInt t b).den<=b.natAbs:=by rw[ADf,AAD h];exact ABo _ _
def Bd.divInt {n:Nat}{t b:Int}(h:b≠0)(a:t.natAbs<2^n)(hb:b.natAbs<2^n):Bd n (Rat.divInt t b):=
 ⟨AA3 (Ve t b) a,AA3 (Vd t b h) hb⟩
def Bh (a:Rat):(a.den:Int)≠0:=by have:=a.den_pos;omega
def Im (a b:Rat):a+b=Rat.divInt (a.num*b.den+b.num*a.den) (a.den*b.den):=by have h:=ADx a.num b.num (Bh a) (Bh b);rw[ABO,ABO] at h;exact h
def JX (a b:Rat):a-b=Rat.divInt (a.num*b.den-b.num*a.den) (a.den*b.den):=by have h:=Rat.divInt_sub_divInt a.num b.num (Bh a) (Bh b);rw[ABO,ABO] at h;exact h
def I0 (a b:Rat):a*b=Rat.divInt (a.num*b.num) (a.den*b.den):=by have h:=ADy a.num b.num (d₁:=a.den) (d₂:=b.den);rw[ABO,ABO] at h;exact h
def Ip (a b:Rat):a/b=Rat.divInt (a.num*b.den) (a.den*b.num):=by rw[AC3,Rat.inv_def];have h:=ADy a.num b.den (d₁:=a.den) (d₂:=b.num);rw[ABO] at h;exact h
def Dn {a b:Int}(ha:a≠0)(hb:b≠0):a*b≠0:=Int.mul_ne_zero ha hb
def WD {b:Rat}(h:b≠0):b.num≠0:=λz=>h (Rat.num_eq_zero.mp z)
def Bd.add {m n:Nat}{a b:Rat}(ha:Bd m a)(hb:Bd n b):Bd (m+n+1) (a+b):=by
 rw[Im];refine .divInt (Dn (Bh a) (Bh b)) (XD (Bm ha.top (by simpa using hb.bot)) ?_) ?_
 .rw [Nat.add_comm m n];exact Bm hb.top (by simpa using ha.bot)
 .exact A6 (Bm (by simpa using ha.bot) (by simpa using hb.bot)) (by omega)
def Bd.sub {m n:Nat}{a b:Rat}(ha:Bd m a)(hb:Bd n b):Bd (m+n+1) (a-b):=by
 rw[JX];refine .divInt (Dn (Bh a) (Bh b)) (YN (Bm ha.top (by simpa using hb.bot)) ?_) ?_
 .rw [Nat.add_comm m n];exact Bm hb.top (by simpa using ha.bot)
 .exact A6 (Bm (by simpa using ha.bot) (by simpa using hb.bot)) (by omega)
def Bd.mul {m n:Nat}{a b:Rat}(ha:Bd m a)(hb:Bd n b):Bd (m+n) (a*b):=by rw[I0];exact .divInt (Dn (Bh a) (Bh b)) (Bm ha.top hb.top) (Bm (by simpa using ha.bot) (by simpa using hb.bot))
def Bd.div {m n:Nat}{a b:Rat}(h:b≠0)(ha:Bd m a)(hb:Bd n b):Bd (m+n) (a/b):=by rw[Ip];exact .divInt (Dn (Bh a) (WD h)) (Bm ha.top (by simpa using hb.bot)) (Bm (by simpa using ha.bot) hb.top)
def Bd.neg {n:Nat}{a:Rat}(ha:Bd n a):Bd n (-a):=⟨by show (-a.num).natAbs<_;rw[AB3];exact ha.top,ha.bot⟩
def av (n:Int):fr (n:Rat)= .tup [.int n, .int 1] :=by simp[fr]
def Bd.int {n:Int}{k:Nat}(h:n.natAbs<2^k)(hk:1<=k):Bd k (n:Rat):=⟨by simpa using h,by simp;omega⟩
def Z7:AS:=
 (AY (HA (Aw (AW Yy (aV 1) (aC (.int 0)))) (Yi 0 1 (AB (aV 1) (AB (AW TN (aV 0) (aV 1)) AL))))
   (As (aV 0)))
def G6:AF:=An 2 Z7
def Li (x y:Nat)(Q:PV->Prop)(h:Q (.int (Nat.gcd x y:Nat))):G6 [.int x, .int y] Q:=by
 have go:∀y x:Nat,∀D:Gm,D.nx [some (.val (.int (Nat.gcd x y:Nat))),some (.val (.int 0))] ->∃n,Uu (Aw (AW Yy (aV 1) (aC (.int 0)))) (Yi 0 1 (AB (aV 1) (AB (AW TN (aV 0) (aV 1)) AL))) D n [some (.val (.int x)),some (.val (.int y))] :=by
  intro y;induction y using Nat.strongRecOn with
  | _ y ih=>
    intro x D c;by_cases hy:y=0
    .subst hy;refine⟨1, ?_⟩;rw[Nat.gcd_zero_right] at c;exact c
    .obtain ⟨n,a⟩:=ih (x % y) (Nat.mod_lt _ (by omega)) y D (by rw[AB4 y,<-Nat.gcd_rec,AB4 y];exact c);refine⟨n+1, ?_⟩;refine Iv (b:= !decide ((y:Int)=0)) (λ_=> ?_) (λz=> ?_)
     .have d:(x:Int).fmod (y:Int)=((x % y:Nat):Int):=by rw[ADT _ (by omega)];simp
      refine⟨by omega, ?_⟩;rw[<-d] at a;exact a
     .have:(y:Int)=0:=by simpa using z
      omega
 obtain⟨n,a⟩:=go y x {nx:=λτ=>As (aV 0) {nx:=λ_=>Q .non,rt:=Q,bk:=λ_=>False,ct:=λ_=>False} τ,rt:=Q,bk:=λ_=>False,ct:=λ_=>False} h;exact⟨n,a⟩
def YT:AS:=
 (AY (CN (Aw (AW ap (aV 1) (aC (.int 0)))) (Aj (Yj Nj (aV 2)) (Ak 2)) BU)
   (As (A9 (AB (AW TM (aV 0) (aV 2)) (AB (AW TM (aV 1) (aV 2)) AL)))))
def jR:AS:=
 (AY (Aj (AN 2 G6 (AB (F2 Y0 (AB (aV 0) AL)) (AB (F2 Y0 (AB (aV 1) AL)) AL))) (Ak 2))
   YT)
def Fz:AF:=An 3 jR
def cG (t b:Int)(hb:b≠0):∀s:Int,s=(if b<0 then -(Nat.gcd t.natAbs b.natAbs:Int) else (Nat.gcd t.natAbs b.natAbs:Int))->s≠0/\t.fdiv s=(Rat.divInt t b).num/\b.fdiv s=((Rat.divInt t b).den:Int):=by
 intro s hs;have g:0<Nat.gcd t.natAbs b.natAbs:=AB5 _ (by omega);have f:b.gcd t=Nat.gcd t.natAbs b.natAbs:=by rw[ADz,AB4]
 have a:(Nat.gcd t.natAbs b.natAbs:Int) ∣ t:=by rw[<-Int.dvd_natAbs];exact Int.ofNat_dvd.mpr (Nat.gcd_dvd_left ..)
 have c:(Nat.gcd t.natAbs b.natAbs:Int) ∣ b:=by rw[<-Int.dvd_natAbs];exact Int.ofNat_dvd.mpr (ACO ..)
 have d:s ∣ t:=by rw[hs];split <;> first | exact Int.neg_dvd.mpr a|exact a
 have e:s ∣ b:=by rw[hs];split <;> first | exact Int.neg_dvd.mpr c|exact c
 refine⟨by rw[hs];split <;> omega, ?_, ?_⟩
 .rw [AD0 d,AC2,f,hs];by_cases h:b<0
  .rw [AAE h,AD1 h,Int.ediv_neg];have:(-1:Int)*t= -t:=by omega
   rw[this,Int.neg_ediv_of_dvd a]
  .rw [AAD h,ADg (by omega),Int.one_mul]
 .rw [AD0 e,ADf,AAD hb,f,hs];by_cases h:b<0
  .rw [AAE h,Int.ediv_neg];have:(b.natAbs:Int)= -b:=by omega
   rw[ABp,this,Int.neg_ediv_of_dvd c]
  .rw [AAD h];have:(b.natAbs:Int)=b:=by omega
   rw[ABp,this]
def EX (t b:Int)(hb:b≠0)(f:b.natAbs<2^8900)(Q:PV->Prop)(h:Q (fr (Rat.divInt t b))):Fz [.int t, .int b] Q:=by
 have g:0<Nat.gcd t.natAbs b.natAbs:=AB5 _ (by omega);have gl:Nat.gcd t.natAbs b.natAbs<2^8900:=AA3 (AC4 (by omega) (ACO ..)) f;obtain⟨a,c,d⟩:=cG t b hb _ rfl;refine⟨rfl,Li _ _ _ ?_⟩;refine Iv (b:=decide (b<0)) (λz=> ?_) (λz=> ?_)
 .have e:b<0:=ABd z;rw[AAE e] at a c d;refine⟨⟨a,by rw[AB3];exact gl⟩,⟨a,by rw[AB3];exact gl⟩,(show 2<=sizeLine by decide), ?_⟩;unfold fr at h;rw[<-c,<-d] at h;exact h
 .have e:¬b<0:=ABe z;rw[AAD e] at a c d;refine⟨⟨a,gl⟩,⟨a,gl⟩,(show 2<=sizeLine by decide), ?_⟩;unfold fr at h;rw[<-c,<-d] at h;exact h
def Bd.mt {n:Nat}{a b:Rat}(ha:Bd 4000 a)(hb:Bd 4000 b):MulOk a.num b.den/\MulOk b.num a.den/\MulOk a.den b.den/\MulOk a.num b.num/\MulOk a.den b.num:=
 ⟨.of ha.top (by simpa using hb.bot), .of hb.top (by simpa using ha.bot), .of (by simpa using ha.bot) (by simpa using hb.bot), .of ha.top hb.top, .of (by simpa using ha.bot) hb.top⟩
def P6 {a b:Rat}(ha:Bd 4000 a)(hb:Bd 4000 b):((a.den:Int)*(b.den:Int)).natAbs<2^8900:=A6 (Bm (a:=(a.den:Int)) (by simpa using ha.bot) (by simpa using hb.bot)) (by omega)
def jS:AS:=
 (As (AN 2 Fz (AB (AW BS (AW DP (AW Am (aV 0) (aC (.int 0))) (AW Am (aV 1) (aC (.int 1)))) (AW DP (AW Am (aV 1) (aC (.int 0))) (AW Am (aV 0) (aC (.int 1))))) (AB (AW DP (AW Am (aV 0) (aC (.int 1))) (AW Am (aV 1) (aC (.int 1)))) AL))))
def Kr:AF:=An 2 jS
def Ye {a b:Rat}(ha:Bd 4000 a)(hb:Bd 4000 b){Q:PV->Prop}(h:Q (fr (a+b))):Kr [fr a,fr b] Q:=by obtain⟨m1,m2,m3,_⟩:=Bd.mt (n:=0) ha hb;refine⟨m1,m2,m3,rfl,EX _ _ (Dn (Bh a) (Bh b)) (P6 ha hb) _ ?_⟩;rw[Im] at h;exact h
def eU:AS:=
 (As (AN 2 Fz (AB (AW HC (AW DP (AW Am (aV 0) (aC (.int 0))) (AW Am (aV 1) (aC (.int 1)))) (AW DP (AW Am (aV 1) (aC (.int 0))) (AW Am (aV 0) (aC (.int 1))))) (AB (AW DP (AW Am (aV 0) (aC (.int 1))) (AW Am (aV 1) (aC (.int 1)))) AL))))
def EA:AF:=An 2 eU
def VE {a b:Rat}(ha:Bd 4000 a)(hb:Bd 4000 b){Q:PV->Prop}(h:Q (fr (a-b))):EA [fr a,fr b] Q:=by obtain⟨m1,m2,m3,_⟩:=Bd.mt (n:=0) ha hb;refine⟨m1,m2,m3,rfl,EX _ _ (Dn (Bh a) (Bh b)) (P6 ha hb) _ ?_⟩;rw[JX] at h;exact h
def eV:AS:=
 (As (AN 2 Fz (AB (AW DP (AW Am (aV 0) (aC (.int 0))) (AW Am (aV 1) (aC (.int 0)))) (AB (AW DP (AW Am (aV 0) (aC (.int 1))) (AW Am (aV 1) (aC (.int 1)))) AL))))
def Jr:AF:=An 2 eV
def VG {a b:Rat}(ha:Bd 4000 a)(hb:Bd 4000 b){Q:PV->Prop}(h:Q (fr (a*b))):Jr [fr a,fr b] Q:=by obtain⟨_,_,m3,m4,_⟩:=Bd.mt (n:=0) ha hb;refine⟨m4,m3,rfl,EX _ _ (Dn (Bh a) (Bh b)) (P6 ha hb) _ ?_⟩;rw[I0] at h;exact h
def jQ:AS:=
 (As (AN 2 Fz (AB (AW DP (AW Am (aV 0) (aC (.int 0))) (AW Am (aV 1) (aC (.int 1)))) (AB (AW DP (AW Am (aV 0) (aC (.int 1))) (AW Am (aV 1) (aC (.int 0)))) AL))))
def NQ:AF:=An 2 jQ
def Yd {a b:Rat}(h0:b≠0)(ha:Bd 4000 a)(hb:Bd 4000 b){Q:PV->Prop}(h:Q (fr (a/b))):NQ [fr a,fr b] Q:=by obtain⟨m1,_,_,_,m5⟩:=Bd.mt (n:=0) ha hb;refine⟨m1,m5,rfl,EX _ _ (Dn (Bh a) (WD h0)) (A6 (Bm (a:=(a.den:Int)) (by simpa using ha.bot) hb.top) (by omega)) _ ?_⟩;rw[Ip] at h;exact h
def Mp:AS:=
 (AY (Aj (AW HC (aC (.int 1)) (AW DP (aC (.int 2)) (F2 ay (AB (AW ap (aV 1) (aC (.int 0))) AL)))) (Ak 2))
   (As (A9 (AB (AW TM (AW DP (aV 2) (aV 0)) (aV 3)) (AB (AW TM (AW DP (aV 2) (aV 1)) (aV 3)) AL)))))
def Mo:AS:=
 (AY (HA (Aw (AW Yx (aV 4) (aC (.int 0)))) (Yi 3 4 (AB (aV 4) (AB (AW TN (aV 3) (aV 4)) AL))))
   Mp)
def Se:AS:=
 (AY (Yi 3 4 (AB (F2 Y0 (AB (aV 0) AL)) (AB (F2 Y0 (AB (aV 1) AL)) AL)))
   Mo)
def A0:AF:=An 5 Se
def RJ (t b:Int)(hb:b≠0):∀s:Int,s=(if b<0 then -1 else 1)->(s*t).fdiv (Nat.gcd t.natAbs b.natAbs:Int)=(Rat.divInt t b).num/\(s*b).fdiv (Nat.gcd t.natAbs b.natAbs:Int)=((Rat.divInt t b).den:Int):=by
 intro s hs;have c:0<Nat.gcd t.natAbs b.natAbs:=AB5 _ (by omega);have a:b.gcd t=Nat.gcd t.natAbs b.natAbs:=by rw[ADz,AB4]
 have es:b.sign=s:=by
  rw[hs];split
  .rename_i h;exact AD1 h
  .exact ADg (by omega)
 rw[AC2,ADf,AAD hb,a,es,ABZ _ (by omega),ABZ _ (by omega)];refine⟨rfl, ?_⟩;rw[ABp];congr 1;rw[hs];split <;> omega
def Cs (t b:Int)(hb:b≠0)(i:t.natAbs<2^900000)(d:b.natAbs<2^8900){Q:PV->Prop}(h:Q (fr (Rat.divInt t b))):A0 [.int t, .int b] Q:=by
 have k:0<Nat.gcd t.natAbs b.natAbs:=AB5 _ (by omega);have gl:Nat.gcd t.natAbs b.natAbs<2^8900:=AA3 (AC4 (by omega) (ACO ..)) d;have e:(1:Int)-2*(if decide (b<0)=true then 1 else 0)=(if b<0 then -1 else 1):=by by_cases z:b<0 <;> simp[z]
 obtain⟨j,a⟩:=RJ t b hb _ e;have go:∀y x:Nat,∀D:Gm,∀u v w,D.nx [u,v,w,some (.val (.int (Nat.gcd x y:Nat))),some (.val (.int 0))] ->∃n,Uu (Aw (AW Yx (aV 4) (aC (.int 0)))) (Yi 3 4 (AB (aV 4) (AB (AW TN (aV 3) (aV 4)) AL))) D n [u,v,w,some (.val (.int x)),some (.val (.int y))] :=by
  intro y;induction y using Nat.strongRecOn with
  | _ y ih=>
    intro x D u v w c;by_cases hy:y=0
    .subst hy;refine⟨1, ?_⟩;rw[Nat.gcd_zero_right] at c;exact c
    .obtain ⟨n,f⟩:=ih (x % y) (Nat.mod_lt _ (by omega)) y D u v w (by rw[AB4 y,<-Nat.gcd_rec,AB4 y];exact c);refine⟨n+1, ?_⟩;refine Iv (b:=decide (0<(y:Int))) (λ_=> ?_) (λz=> ?_)
     .have a:(x:Int).fmod (y:Int)=((x % y:Nat):Int):=by rw[ADT _ (by omega)];simp
      refine⟨by omega, ?_⟩;rw[<-a] at f;exact f
     .have:¬(0:Int)<y:=ABe z;omega
 refine go b.natAbs t.natAbs _ (some (.val (.int t))) (some (.val (.int b))) none ?_;have one:(1:Int).natAbs<2^1:=by decide
 have g:((1:Int)-2*(if decide (b<0)=true then 1 else 0)).natAbs<2^1:=by rw[e];split <;> decide
 refine⟨.of (m:=2) (n:=1) (by decide) (by split <;> decide), .of g i,⟨by omega,gl⟩, .of g d,⟨by omega,gl⟩,(show 2<=sizeLine by decide), ?_⟩;unfold fr at h;rw[<-j,<-a] at h;exact h
def C7 {m:Int}{Q:PV->Prop}(m0:0<m)(m1:m<4611686018427387904)(h:∀r,0<=r->r<m->Q (.int r)):BB [.tape, .int m] Q:=⟨⟨m0,m1⟩,h⟩
mutual
def yd:Nat->PV->km
 | 0,_=>false
 | _+1, .non=>true
 | _+1, .bl _=>true
 | _+1, .int _=>true
 | n+1, .tup xs=>oi n xs&&decide (xs.length<sizeLine)
 | _+1,_=>false
def oi:Nat->zy PV->km
 | _, [] =>true
 | n,x::xs=>yd n x&&oi n xs
end
def iL {t:Int}{n:Nat}(h:t.natAbs<2^n)(a:n<=900000:=by omega):t.natAbs<2^900000:=A6 h a
section
variable {a b:Rat}{Q:PV->Prop}
theorem kW (ha:Bd 4000 a)(hb:Bd 4000 b)(h:Q (fr (a+b))):A0 [.int (a.num*b.den+b.num*a.den), .int (a.den*b.den)] Q:=
 Cs _ _ (Dn (Bh a) (Bh b)) (iL (XD (n:=8000) (Bm ha.top hb.botI) (Bm hb.top ha.botI))) (P6 ha hb) (by rw[<-Im];exact h)
theorem kZ (ha:Bd 4000 a)(hb:Bd 4000 b)(h:Q (fr (a-b))):A0 [.int (a.num*b.den-b.num*a.den), .int (a.den*b.den)] Q:=
 Cs _ _ (Dn (Bh a) (Bh b)) (iL (YN (n:=8000) (Bm ha.top hb.botI) (Bm hb.top ha.botI))) (P6 ha hb) (by rw[<-JX];exact h)
theorem kY (ha:Bd 4000 a)(hb:Bd 4000 b)(h:Q (fr (a*b))):A0 [.int (a.num*b.num), .int (a.den*b.den)] Q:=
 Cs _ _ (Dn (Bh a) (Bh b)) (iL (Bm ha.top hb.top)) (P6 ha hb) (by rw[<-I0];exact h)
theorem kX (h0:b≠0)(ha:Bd 4000 a)(hb:Bd 4000 b)(h:Q (fr (a/b))):A0 [.int (a.num*b.den), .int (a.den*b.num)] Q:=
 Cs _ _ (Dn (Bh a) (WD h0)) (iL (Bm ha.top (by simpa using hb.bot))) (A6 (Bm (a:=(a.den:Int)) (by simpa using ha.bot) hb.top) (by omega)) (by rw[<-Ip];exact h)
end
def SZ {n:Int}{Q:PV->Prop}(h:Q (fr (n:Rat))):Q (.tup [.int n, .int 1]):=by rw[<-av];exact h
def Bd.part {t b:Int}{n:Nat}(h:b≠0)(a:t.natAbs<2^n)(hb:b.natAbs<2^n):Bd n (Rat.divInt t b):= .divInt h a hb
def lz {a b:Nat}(h:Nat.ble a b=true:=by rfl):a<=b:=AAt h
structure Sh (d n:Nat) (x:PV):Prop where
 ok:EN d x=true
 sh:(pd x).showable=true
 sz:(pd x).shown.length<=n
mutual
theorem OA:∀{d e:Nat} (x:PV),d<=e->EN d x=true->EN e x=true
 | _,_, .non,_,_=>by simp[EN]
 | _,_, .bl _,_,_=>by simp[EN]
 | _,_, .int _,_,_=>by simp[EN]
 | _,_, .str x,_,h=>by simpa[EN] using h
 | 0,_, .tup xs,_,h=>by simp[EN] at h
 | 0,_, .lst xs,_,h=>by simp[EN] at h
 | d+1,0, .tup xs,h,_=>by omega
 | d+1,0, .lst xs,h,_=>by omega
 | d+1,e+1, .tup xs,h,k=>by simp only[EN] at k ⊢;exact LD xs (by omega) k
 | d+1,e+1, .lst xs,h,k=>by simp only[EN] at k ⊢;exact LD xs (by omega) k
 | _,_, .tape,_,h=>by simp[EN] at h
 | _,_, .scr _,_,h=>by simp[EN] at h
 | _,_, .dct _,_,h=>by simp[EN] at h
 | _,_, .dk _,_,h=>by simp[EN] at h
 | _,_, .ty _,_,h=>by simp[EN] at h
theorem LD:∀{d e:Nat} (xs:zy PV),d<=e->LC d xs=true->LC e xs=true
 | _,_, [],_,_=>by simp[LC]
 | _,_,x::xs,h,k=>by simp only[LC,AAq] at k ⊢;exact⟨OA x h k.1,LD xs h k.2⟩
end
def Sh.mono {d n e m:Nat}{x:PV}(s:Sh d n x)(h1:d<=e)(h2:n<=m):Sh e m x:=⟨OA x h1 s.ok,s.sh,AAf s.sz h2⟩
def Sh.go {d n:Nat}{x:PV}(s:Sh d n x)(h1:d<=30:=by omega)(h2:n<=16777216:=by omega):PB x:=⟨OA x h1 s.ok,s.sh,AAf s.sz h2⟩
def Sh.int {i:Int}(h:i.natAbs<2^1900):Sh 0 1902 (.int i):=by
 refine⟨rfl, ?_, ?_⟩
 .show decide (i.natAbs.log2<1920)=true;exact AAo (ACs (J8 h (by decide)) (by decide))
 .show (Str.ofString (toString i)).length<=1902;rw[PySem.ofString_length];exact AAf (int_text_length_le (k:=1900) (by decide) (J8 h (by decide))) (by decide)
theorem OB {d:Nat}:∀{xs:zy PV},(∀x∈xs,EN d x=true)->LC d xs=true
 | [],_=>rfl
 | x::xs,h=>by simp only[LC,AAq];exact⟨h x (by simp),OB λy hy=>h y (by simp[hy])⟩
theorem Wd:∀{xs:zy PV},(∀x∈xs,(pd x).showable=true)->PyData.showableAll (Rh xs)=true
 | [],_=>rfl
 | x::xs,h=>by simp only[Rh,PyData.showableAll,AAq];exact⟨h x (by simp),Wd λy hy=>h y (by simp[hy])⟩
theorem SX {n:Nat}:∀{xs:zy PV},(∀x∈xs,(pd x).shown.length<=n)->((PyData.shownAll (Rh xs)).map (·.length)).sum<=xs.length*n
 | [],_=>by simp[Rh,PyData.shownAll]
 | x::xs,h=>by simp only[Rh,PyData.shownAll,AAK,ACP,AAc];have h1:=h x (by simp);have h2:=SX (n:=n) (xs:=xs) λy hy=>h y (by simp[hy]);rw[Nat.succ_mul];omega
theorem GM:∀(xs:zy PV),(PyData.shownAll (Rh xs)).length=xs.length
 | [] =>rfl
 | x::xs=>by simp[Rh,PyData.shownAll,GM xs]
def Sh.tup {d n:Nat}{xs:zy PV}(h:∀x∈xs,Sh d n x):Sh (d+1) (xs.length*(n+2)+3) (.tup xs):=by refine⟨by simp only[EN];exact OB λx hx=>(h x hx).ok,by simp only[pd,PyData.showable];exact Wd λx hx=>(h x hx).sh, ?_⟩;have h1:=SX (n:=n) (xs:=xs) λx hx=>(h x hx).sz;have h2:=tupleText_len_le (PyData.shownAll (Rh xs));rw[GM] at h2;simp only[pd,PyData.shown];rw[Nat.mul_add];omega
def Sh.lst {d n:Nat}{xs:zy PV}(h:∀x∈xs,Sh d n x):Sh (d+1) (xs.length*(n+2)+3) (.lst xs):=by refine⟨by simp only[EN];exact OB λx hx=>(h x hx).ok,by simp only[pd,PyData.showable];exact Wd λx hx=>(h x hx).sh, ?_⟩;have h1:=SX (n:=n) (xs:=xs) λx hx=>(h x hx).sz;have h2:=listText_len_le (PyData.shownAll (Rh xs));rw[GM] at h2;simp only[pd,PyData.shown];rw[Nat.mul_add];omega
def gF {c:Type}{P:c->Prop}{a b:c}(ha:P a)(hb:P b):∀x∈ [a,b],P x:=λx hx=>by
 simp only[AAF,AAj,AAh] at hx;rcases hx with rfl|rfl
 .exact ha
 .exact hb
def gG {d:Type}{P:d->Prop}{a b c:d}(ha:P a)(hb:P b)(hc:P c):∀x∈ [a,b,c],P x:=λx hx=>by
 simp only[AAF,AAj,AAh] at hx;rcases hx with rfl|rfl|rfl
 .exact ha
 .exact hb
 .exact hc
def og {e:Type}{P:e->Prop}{a b c d:e}(ha:P a)(hb:P b)(hc:P c)(hd:P d):∀x∈ [a,b,c,d],P x:=λx hx=>by
 simp only[AAF,AAj,AAh] at hx;rcases hx with rfl|rfl|rfl|rfl
 .exact ha
 .exact hb
 .exact hc
 .exact hd
def Sh.fr {r:Rat}(h:Bd 1900 r):Sh 1 4000 (fr r):=(Sh.tup (gF (Sh.int h.top) (Sh.int h.botI))).mono (by omega) lz
def ao {d:Nat}{x:PV}(h:EN d x=true):ie x x=true:=SeqAt.eqv_refl _ (GB d x h).1
def am (a b:Rat):ie (fr a) (fr b)=decide (a=b):=by
 show (PyData.eqvAll [.int a.num, .int a.den] [.int b.num, .int b.den])=_;simp only[PyData.eqvAll,PyData.eqv];by_cases h:a=b
 .subst h;simp
 .have:¬(a.num=b.num/\(a.den:Int)=b.den):=λz=>h (Rat.ext z.1 (by omega));rw[AAa h];simp only[Bool.and_true,Bool.and_eq_false_iff,ACg];by_cases h1:a.num=b.num
  .exact .inr λz=>this ⟨h1,z⟩
  .exact .inl h1
def Xr (d:Nat)(a:Rat):EN (d+1) (fr a)=true:=rfl
def oX {a b:Rat}:decide (a.num*(b.den:Int)<b.num*(a.den:Int))=decide (a<b):=by rw[ABP];exact(Rat.lt_iff a b).symm
def Z6:AS:=
 (As (AW ap (AW DP (AW Am (aV 0) (aC (.int 0))) (AW Am (aV 1) (aC (.int 1)))) (AW DP (AW Am (aV 1) (aC (.int 0))) (AW Am (aV 0) (aC (.int 1))))))
def A1:AF:=An 2 Z6
section
variable {a b:Rat}{Q:PV->Prop}
theorem E5 (ha:Bd 4000 a)(hb:Bd 4000 b)(h:Q (.bl (decide (a<b)))):A1 [fr a,fr b] Q:=by obtain⟨m1,m2,_⟩:=Bd.mt (n:=0) ha hb;refine⟨m1,m2, ?_⟩;rw[<-oX] at h;exact h
def U2:AS:=
 (As (AN 2 A0 (AB (AW BS (AW DP (AW Am (aV 0) (aC (.int 0))) (AW Am (aV 1) (aC (.int 1)))) (AW DP (AW Am (aV 1) (aC (.int 0))) (AW Am (aV 0) (aC (.int 1))))) (AB (AW DP (AW Am (aV 0) (aC (.int 1))) (AW Am (aV 1) (aC (.int 1)))) AL))))
def BN:AF:=An 2 U2
theorem DN (ha:Bd 4000 a)(hb:Bd 4000 b)(h:Q (fr (a+b))):BN [fr a,fr b] Q:=by obtain⟨m1,m2,m3,_⟩:=Bd.mt (n:=0) ha hb;exact⟨m1,m2,m3,rfl,kW ha hb h⟩
def U1:AS:=
 (As (AN 2 A0 (AB (AW HC (AW DP (AW Am (aV 0) (aC (.int 0))) (AW Am (aV 1) (aC (.int 1)))) (AW DP (AW Am (aV 1) (aC (.int 0))) (AW Am (aV 0) (aC (.int 1))))) (AB (AW DP (AW Am (aV 0) (aC (.int 1))) (AW Am (aV 1) (aC (.int 1)))) AL))))
def BY:AF:=An 2 U1
theorem Ce (ha:Bd 4000 a)(hb:Bd 4000 b)(h:Q (fr (a-b))):BY [fr a,fr b] Q:=by obtain⟨m1,m2,m3,_⟩:=Bd.mt (n:=0) ha hb;exact⟨m1,m2,m3,rfl,kZ ha hb h⟩
def Mw:AS:=
 (As (AN 2 A0 (AB (AW DP (AW Am (aV 0) (aC (.int 0))) (AW Am (aV 1) (aC (.int 0)))) (AB (AW DP (AW Am (aV 0) (aC (.int 1))) (AW Am (aV 1) (aC (.int 1)))) AL))))
def Bw:AF:=An 2 Mw
theorem Cj (ha:Bd 4000 a)(hb:Bd 4000 b)(h:Q (fr (a*b))):Bw [fr a,fr b] Q:=by obtain⟨m1,m2,m3,m4,_⟩:=Bd.mt (n:=0) ha hb;exact⟨m4,m3,rfl,kY ha hb h⟩
def Qe:AS:=
 (As (AN 2 A0 (AB (AW DP (AW Am (aV 0) (aC (.int 0))) (AW Am (aV 1) (aC (.int 1)))) (AB (AW DP (AW Am (aV 0) (aC (.int 1))) (AW Am (aV 1) (aC (.int 0)))) AL))))
def C6:AF:=An 2 Qe
theorem Gb (h0:b≠0)(ha:Bd 4000 a)(hb:Bd 4000 b)(h:Q (fr (a/b))):C6 [fr a,fr b] Q:=by obtain⟨m1,m2,m3,m4,m5⟩:=Bd.mt (n:=0) ha hb;exact⟨m1,m5,rfl,kX h0 ha hb h⟩
end
def rK {t b:Int}(a:0<t)(hb:0<b):0<Rat.divInt t b:=by
 rw[Rat.lt_iff];have h1:=AC2 t b;show (0:Int)*_<_*1;rw[Int.zero_mul,Int.mul_one,h1,ADg hb,Int.one_mul];have g:0<(b.gcd t:Int):=by have:=Int.gcd_pos_of_ne_zero_left t (show b≠0 by omega);omega
 exact Int.ediv_pos_of_pos_of_dvd a (by omega) (Int.gcd_dvd_right ..)
def JW {t b:Int}{Q:PV->Prop}(k:Nat)(hb:b≠0)(a:t.natAbs<2^k)(c:b.natAbs<2^k)(hk:k<=2000)(h:Bd k (Rat.divInt t b)->Q (fr (Rat.divInt t b))):A0 [.int t, .int b] Q:=
 Cs t b hb (A6 a (by omega)) (A6 c (by omega)) (h (.part hb a c))
def Mul (D N:Nat)(a:Rat):Prop:=0<D/\∃k:Int,a=Rat.divInt k D/\k.natAbs<=N
def Mul.bd {D N n:Nat}{a:Rat}(h:Mul D N a)(h1:N<2^n)(h2:D<2^n):Bd n a:=by obtain⟨h0,k,rfl,hk⟩:=h;exact .divInt (by omega) (by omega) (by simpa using h2)
def Mul.part {t b:Int}{c:Nat}(hb:0<b)(hc:0<c){N:Nat}(h:(t*c).natAbs<=N):Mul (b.toNat*c) N (Rat.divInt t b):=by
 refine⟨Nat.mul_pos (by omega) hc,t*c, ?_,h⟩;have e:((b.toNat*c:Nat):Int)=b*c:=by rw[AC5];congr 1;omega
 rw[e,(AD2 (by omega) (Dn (by omega) (by omega)))];rw[Int.mul_comm b,Int.mul_assoc]
def Mul.add {D N M:Nat}{a b:Rat}(ha:Mul D N a)(hb:Mul D M b):Mul D (N+M) (a+b):=by obtain⟨h0,k,rfl,hk⟩:=ha;obtain⟨_,l,rfl,hl⟩:=hb;refine⟨h0,k+l, ?_,by omega⟩;rw[ADx _ _ (by omega) (by omega),AD2 (Dn (by omega) (by omega)) (by omega)];rw[<-Int.add_mul,Int.mul_assoc]
def Mul.mono {D N M:Nat}{a:Rat}(h:Mul D N a)(b:N<=M):Mul D M a:=⟨h.1,let ⟨k,e,hk⟩:=h.2;⟨k,e,by omega⟩⟩
def Mul.int {n:Int}{D N:Nat}(a:0<D)(h:(n*D).natAbs<=N):Mul D N (n:Rat):=by
 have e:(n:Rat)=Rat.divInt n 1:=by rw[<-ABO (n:Rat)];simp
 rw[e];have:=Mul.part (t:=n) (b:=1) (c:=D) (by decide) a h;simpa using this
def My:AS:=
 (AY (CN (Aw (AW ap (aV 1) (aC (.int 3)))) (As (A9 (AB (AW BS (aC (.int 1)) (AN 2 BB (AB (aV 0) (AB (aC (.int 5)) AL)))) (AB (aC (.int 1)) AL)))) BU)
   (As (AN 2 A0 (AB (AW BS (aC (.int 1)) (AN 2 BB (AB (aV 0) (AB (aC (.int 8)) AL)))) (AB (AW HC (aV 1) (aC (.int 1))) AL)))))
def Sg:AS:=
 (AY (Aj (AN 2 BB (AB (aV 0) (AB (aC (.int 5)) AL))) (Ak 1))
   My)
def Cu:AF:=An 2 Sg
def Gc {Q:PV->Prop}(h:∀a,Bd 8 a->0<a->Mul 6 48 a->Q (fr a)):Cu [.tape] Q:=by
 refine⟨rfl,C7 (by decide) (by decide) λw g i=> ?_⟩;refine Iv (b:=decide (w<3)) (λ_=> ?_) (λz=> ?_)
 .refine ⟨rfl,C7 (by decide) (by decide) λr d f=>⟨lz, ?_⟩⟩;exact SZ (h _ (.int (by omega) (by decide)) (by exact_mod_cast (by omega:(0:Int)<1+r)) (.int (by decide) (by omega)))
 .have j:¬w<3:=ABe z;have hw:w-1=2\/w-1=3:=by omega
  refine⟨rfl,C7 (by decide) (by decide) λr d f=>⟨rfl, ?_⟩⟩;refine JW 8 (by omega) (by omega) (by omega) (by decide) λb=>h _ b (rK (by omega) (by omega)) ?_;rcases hw with e|e
  .rw [e];exact Mul.part (t:=1+r) (b:=2) (c:=3) (by decide) (by decide) (by omega)
  .rw [e];exact Mul.part (t:=1+r) (b:=3) (c:=2) (by decide) (by decide) (by omega)
def NO {Q:PV->Prop}(h:∀a,Bd 8 a->0<a->Q (fr a)):Cu [.tape] Q:=Gc λa b p _=>h a b p
def L0:AS:=
 (AY (CN (Aw (AW Ln (aV 1) (aC (.int 6)))) (As (AN 2 A0 (AB (AW HC (AN 2 BB (AB (aV 0) (AB (aC (.int 25)) AL))) (aC (.int 6))) (AB (aC (.int 2)) AL)))) BU)
   (As (AN 2 A0 (AB (AW HC (AN 2 BB (AB (aV 0) (AB (aC (.int 31)) AL))) (aC (.int 9))) (AB (aC (.int 3)) AL)))))
def Lz:AS:=
 (AY (CN (Aw (AW ap (aV 1) (aC (.int 6)))) (As (A9 (AB (AW HC (AN 2 BB (AB (aV 0) (AB (aC (.int 10)) AL))) (aC (.int 3))) (AB (aC (.int 1)) AL)))) BU)
   L0)
def Qc:AS:=
 (AY (Aj (AN 2 BB (AB (aV 0) (AB (aC (.int 8)) AL))) (Ak 1))
   Lz)
def BD:AF:=An 2 Qc
def A2 {Q:PV->Prop}(h:∀a,Mul 6 60 a->Q (fr a)):BD [.tape] Q:=by
 refine⟨rfl,C7 (by decide) (by decide) λw f g=> ?_⟩;refine Iv (b:=decide (w<6)) (λ_=> ?_) (λz=> ?_)
 .refine ⟨rfl,C7 (by decide) (by decide) λr d e=>⟨lz, ?_⟩⟩;exact SZ (h _ (.int (by decide) (by omega)))
 refine Iv (b:=decide (w=6)) (λ_=> ?_) (λz=> ?_)
 .exact ⟨rfl,C7 (by decide) (by decide) λr d e=>⟨rfl,JW 8 (by omega) (by omega) (by omega) (by decide) λb=>h _ (Mul.part (t:=r-6) (b:=2) (c:=3) (by decide) (by decide) (by omega))⟩⟩
 .exact ⟨rfl,C7 (by decide) (by decide) λr d e=>⟨rfl,JW 8 (by omega) (by omega) (by omega) (by decide) λb=>h _ (Mul.part (t:=r-9) (b:=3) (c:=2) (by decide) (by decide) (by omega))⟩⟩
abbrev C4:=Rat×Rat×Rat×Rat
def cor (c:C4):PV:= .tup [fr c.1,fr c.2.1,fr c.2.2.1,fr c.2.2.2]
def corL (c:C4):PV:= .lst [fr c.1,fr c.2.1,fr c.2.2.1,fr c.2.2.2]
def Bb (cs:zy C4):PV:= .tup (cs.map cor)
structure Fa (B:Nat) (c:C4):Prop where
 m:Bd B c.1
 x:Bd B c.2.1
 y:Bd B c.2.2.1
 z:Bd B c.2.2.2
def Fa.mono {B a:Nat}{c:C4}(h:Fa B c)(k:B<=a):Fa a c:=⟨h.m.mono k,h.x.mono k,h.y.mono k,h.z.mono k⟩
structure NH (D N:Nat) (c:C4):Prop where
 m:Mul D N c.1
 x:Mul D N c.2.1
 y:Mul D N c.2.2.1
 z:Mul D N c.2.2.2
def NH.mono {D N M:Nat}{c:C4}(h:NH D N c)(k:N<=M):NH D M c:=⟨h.m.mono k,h.x.mono k,h.y.mono k,h.z.mono k⟩
def NH.bd {D N n:Nat}{c:C4}(h:NH D N c)(h1:N<2^n)(h2:D<2^n):Fa n c:=⟨h.m.bd h1 h2,h.x.bd h1 h2,h.y.bd h1 h2,h.z.bd h1 h2⟩
def Ll (cs:zy C4):Prop:=cs.Pairwise λa b=>a.1<b.1
structure XB (n D N:Nat) (cs:List C4):Prop where
 two:2<=cs.length
 few:cs.length<=n
 mu:∀c∈cs,NH D N c
 ris:Ll cs
structure F1 (n B:Nat) (cs:List C4):Prop where
 two:2<=cs.length
 few:cs.length<=n
 bd:∀c∈cs,Fa B c
 ris:Ll cs
def cx {cs:zy C4}{c d:C4}(h:Ll (cs ++ [c]))(hd:c.1<d.1):Ll (cs ++ [c] ++ [d]):=by
 refine AB6.mpr ⟨h,by simp,λa ha b hb=> ?_⟩;simp at hb;subst hb;rcases AAO.mp ha with ha|ha
 .have:=(AB6.mp h).2.2 a ha c (by simp);grind
 .simp at ha;subst ha;exact hd
def Ji:AS:=
 (AY (CN (Aw (AW Yx (aV 5) (aC (.int 3)))) (Aj (Ea (DE (AB (AN 1 BD (AB (aV 0) AL)) (AB (AN 1 BD (AB (aV 0) AL)) (AB (AN 1 BD (AB (aV 0) AL)) AL))))) (Ak 3)) (CN (Aw (AW Yx (aV 5) (aC (.int 0)))) (Aj (AW BS (AW BS (Zs (aV 3) Zt (Zu (AW HC (aV 5) (aC (.int 1))))) (Ea (DE (AB (AN 1 BD (AB (aV 0) AL)) AL)))) (Zs (aV 3) (Zu (aV 5)) Zt)) (Ak 3)) BU))
   (Db 4 Gh (AB (A9 (AB (aV 2) (AB (AW Am (aV 3) (aC (.int 0))) (AB (AW Am (aV 3) (aC (.int 1))) (AB (AW Am (aV 3) (aC (.int 2))) AL))))) AL)))
def Jh:AS:=
 (AY (Aj (AN 2 BB (AB (aV 0) (AB (aC (.int 6)) AL))) (Ak 5))
   Ji)
def Mq:AS:=
 (AY (Aj (AN 2 BN (AB (aV 2) (AB (AN 1 Cu (AB (aV 0) AL)) AL))) (Ak 2))
   Jh)
def Mu:AS:=
 (AY (HA (Aw (AW ap (F2 IJ (AB (aV 4) AL)) (aV 1))) Mq)
   (As (F2 Dm (AB (aV 4) AL))))
def Mt:AS:=
 (AY (Gf (DE (AB (A9 (AB (aV 2) (AB (AW Am (aV 3) (aC (.int 0))) (AB (AW Am (aV 3) (aC (.int 1))) (AB (AW Am (aV 3) (aC (.int 2))) AL))))) AL)) 4)
   Mu)
def Ms:AS:=
 (AY (Aj (Ea (DE (AB (AN 1 BD (AB (aV 0) AL)) (AB (AN 1 BD (AB (aV 0) AL)) (AB (AN 1 BD (AB (aV 0) AL)) AL))))) (Ak 3))
   Mt)
def Gw:AS:=
 (AY (Aj (A9 (AB (AN 2 BB (AB (aV 0) (AB (aC (.int 12)) AL))) (AB (aC (.int 1)) AL))) (Ak 2))
   Ms)
def Mr:AS:=
 (AY (CN (Aw (AW Ln (AN 2 BB (AB (aV 0) (AB (aC (.int 8)) AL))) (aC (.int 0)))) (Aj (AW BS (aC (.int 7)) (AN 2 BB (AB (aV 0) (AB (aC (.int 3)) AL)))) (Ak 1)) BU)
   Gw)
def Sf:AS:=
 (AY (Aj (AW BS (aC (.int 2)) (AN 2 BB (AB (aV 0) (AB (aC (.int 4)) AL)))) (Ak 1))
   Mr)
def E3:AF:=An 6 Sf
def Xx (many:Int)(B k f:zt AV)(j:zt AV)(h0:2<=many)(h1:many<=9){Q:PV->Prop}(h:∀cs,XB 9 6 512 cs->Q (Bb cs)):Gw {nx:=λ_=>Q .non,rt:=Q,bk:=λ_=>False,ct:=λ_=>False} [some (.val .tape),some (.val (.int many)),B,k,j,f] :=by
 refine⟨rfl,C7 (by decide) (by decide) λm m0 m1=>⟨lz, ?_⟩⟩;refine⟨rfl,A2 λx hx=>⟨rfl,A2 λy hy=>⟨rfl,A2 λz hz=>⟨lz, ?_⟩⟩⟩⟩;refine⟨lz,lz, ?_⟩;refine⟨(many-1).toNat+1,W3 (λn τ=>∃(cs:zy C4) (c:C4) (f:zt AV),n+(cs.length+1)=many.toNat+1/\1<=n/\(∀d∈cs ++ [c],NH 6 (66+48*cs.length) d)/\(Mul 6 60 c.2.1/\Mul 6 60 c.2.2.1/\Mul 6 60 c.2.2.2)/\Ll (cs ++ [c])/\
  τ= [some (.val .tape),some (.val (.int many)),some (.val (fr c.1)),some (.val (.lst [fr c.2.1,fr c.2.2.1,fr c.2.2.2])),some (.own ((cs ++ [c]).map cor)),f]) ?_ ?_ _ _ ⟨[],((m:Rat),x,y,z),f, ?_, ?_, ?_, ?_, ?_, ?_⟩⟩
 .rintro τ ⟨cs,c,f,_,C,_⟩;omega
 .rintro n τ R D ⟨cs,c,f,C,I,hb,g,r,rfl⟩;have t:(((cs ++ [c]).map cor).length:Int)=(cs.length:Int)+1:=by simp
  refine Iv (b:=decide ((((cs ++ [c]).map cor).length:Int)<many)) (λz=> ?_) (λz=> ?_)
  .have l:(((cs ++ [c]).map cor).length:Int)<many:=ABd z;rw[t] at l;have u:=hb c (by simp);refine⟨rfl,Gc λs E J F=>⟨rfl,DN ((u.m.bd (n:=12) (by omega) (by decide)).mono (by omega)) (E.mono (by omega)) ?_⟩⟩;refine⟨rfl,C7 (by decide) (by decide) λw K L=> ?_⟩;have a:∀(o:Gm) (x y z:Rat) (f:zt AV),o.nx=R->Mul 6 60 x->Mul 6 60 y->Mul 6 60 z->Db 4 Gh (AB (A9 (AB (aV 2) (AB (AW Am (aV 3) (aC (.int 0))) (AB (AW Am (aV 3) (aC (.int 1))) (AB (AW Am (aV 3) (aC (.int 2))) AL))))) AL)
    o [some (.val .tape),some (.val (.int many)),some (.val (fr (c.1+s))),some (.val (.lst [fr x,fr y,fr z])),some (.own ((cs ++ [c]).map cor)),f] :=by
    intro o x y z f G v i A;refine⟨lz, ?_, ?_⟩
    .show _<16777216;omega
    .rw [G];have H:Mul 6 (66+48*(cs.length+1)) (c.1+s):=(u.m.add F).mono (by omega);refine D _ ⟨cs ++ [c],(c.1+s,x,y,z),f,by simp;omega,by omega, ?_,⟨v,i,A⟩,cx r ?_, ?_⟩
     .intro d hd;rcases AAO.mp hd with hd|hd
      .exact (hb d hd).mono (by simp;omega)
      .simp at hd;subst hd;have e:(cs ++ [c]).length=cs.length+1:=by simp
       rw[e];exact⟨H,v.mono (by omega),i.mono (by omega),A.mono (by omega)⟩
     .show c.1<c.1+s;grind
     .rw [AAP (l₁:=cs ++ [c])];rfl
   refine Iv (b:=decide (3<w)) (λ_=> ?_) (λk=> ?_)
   .exact ⟨rfl,A2 λx hx=>⟨rfl,A2 λy hy=>⟨rfl,A2 λz hz=>⟨lz,a _ x y z _ rfl hx hy hz⟩⟩⟩⟩
   refine Iv (b:=decide (0<w)) (λj=> ?_) (λj=> ?_)
   .have M:¬3<w:=ABe k;have N:0<w:=ABd j;have hw:w=1\/w=2\/w=3:=by omega
    rcases hw with rfl|rfl|rfl
    .exact EU ⟨rfl,A2 λp hp=>⟨lz,lz,EU ⟨lz,a _ p _ _ _ rfl hp g.2.1 g.2.2⟩⟩⟩
    .exact EU ⟨rfl,A2 λp hp=>⟨lz,lz,EU ⟨lz,a _ _ p _ _ rfl g.1 hp g.2.2⟩⟩⟩
    .exact EU ⟨rfl,A2 λp hp=>⟨lz,lz,EU ⟨lz,a _ _ _ p _ rfl g.1 g.2.1 hp⟩⟩⟩
   .exact a _ _ _ _ _ rfl g.1 g.2.1 g.2.2
  .have l:¬(((cs ++ [c]).map cor).length:Int)<many:=ABe z;rw[t] at l;refine h (cs ++ [c]) ⟨by simp;omega,by simp;omega,λd hd=>(hb d hd).mono (by omega),r⟩
 .simp;omega
 .omega
 .intro d hd;simp at hd;subst hd;exact⟨.int (by decide) (by simp;omega),hx.mono (by decide),hy.mono (by decide),hz.mono (by decide)⟩
 .exact ⟨hx,hy,hz⟩
 .exact List.pairwise_singleton _ _
 .simp only[cor,av,AAl,AAK,ABY];rfl
def NN {Q:PV->Prop}(h:∀cs,XB 9 6 512 cs->Q (Bb cs)):E3 [.tape] Q:=by
 refine⟨rfl,C7 (by decide) (by decide) λa d e=>⟨rfl,C7 (by decide) (by decide) λb f g=> ?_⟩⟩;refine Iv (b:=decide (b=0)) (λ_=> ?_) (λ_=> ?_)
 .exact ⟨rfl,C7 (by decide) (by decide) λc c0 i=>Xx (7+c) _ _ _ _ (by omega) (by omega) h⟩
 .exact Xx (2+a) _ _ _ _ (by omega) (by omega) h
def ju {cs:zy C4}{i:Int}{k:Nat}(hk:i=(k:Int))(h:k<=cs.length):Gg (cs.map cor) none (some i)=(cs.take k).map cor:=by unfold Gg;rw[hk,HT.sIx_none,HT.sIx_nat];rw[show min k (cs.map cor).length=k by simp;omega,AC6];simp
def aY {cs:zy C4}{i:Int}{k:Nat}(hk:i=(k:Int))(h:k<=cs.length):Gg (cs.map cor) (some i) none=(cs.drop k).map cor:=by unfold Gg;rw[hk,HT.sIx_none,HT.sIx_nat];rw[show min k (cs.map cor).length=k by simp;omega,ACQ];exact ABb (by simp)
def YH {cs:zy C4}{i:Int}{k:Nat}{Q:PV->Prop}(hk:i=(k:Int))(h:k<=cs.length)(q:Q (Bb (cs.drop k))):XW (Bb cs) (some i) none Q:=by refine Mh ?_;rw[aY hk h];exact q
def XB.ok {n D N m:Nat}{cs:zy C4}(p:XB n D N cs)(h1:N<2^m)(h2:D<2^m):F1 n m cs:=⟨p.two,p.few,λc hc=>(p.mu c hc).bd h1 h2,p.ris⟩
def Lj (cs:zy C4)(v:PV):Prop:=∃f:C4->PV,(f=cor\/f=corL)/\(v= .tup (cs.map f)\/v= .lst (cs.map f))
def Lj.self (cs:zy C4):Lj cs (Bb cs):=⟨cor, .inl rfl, .inl rfl⟩
def Lj.lists (cs:zy C4):Lj cs (.lst (cs.map corL)):=⟨corL, .inr rfl, .inr rfl⟩
def laterC (b:Rat)(cs:zy C4):zy C4:=cs.map λc=>(c.1+b,c.2)
def Fa.laterC {B m:Nat}{b:Rat}{cs:zy C4}(h:∀c∈cs,Fa B c)(hb:Bd m b):∀c∈laterC b cs,Fa (B+m+1) c:=λc hc=>by obtain⟨d,hd,rfl⟩:=AAM.mp hc;have q:=h d hd;exact⟨q.m.add hb,q.x.mono (by omega),q.y.mono (by omega),q.z.mono (by omega)⟩
theorem CP {i l:Type}{g:AG}{te:AE}{d:A5}{Q:zy PV->Prop}(f:i->PV)(k:l->PV)(e:i->l)(P:i->Prop)(hs:∀a,P a->∀R:PV->Prop,R (k (e a))->g (f a) d λj=>te j R):∀(xs:zy i) (c:zy PV),(∀a∈xs,P a)->Q (c++(xs.map e).map k)->CK g DW te d Q (xs.map f) c
 | [],c,_,h=>(by simpa using h:Q c)
 | a::xs,c,hp,h=>by refine hs a (hp a (by simp)) (λy=>CK g DW te d Q (xs.map f) (c ++ [y])) (CP f k e P hs xs _ (λb hb=>hp b (by simp[hb])) ?_);simpa using h
def Sh.cor {c:C4}(h:Fa 1900 c):Sh 2 17000 (cor c):=(Sh.tup (og (Sh.fr h.m) (Sh.fr h.x) (Sh.fr h.y) (Sh.fr h.z))).mono (by decide) lz
def Sh.corL {c:C4}(h:Fa 1900 c):Sh 2 17000 (corL c):=(Sh.lst (og (Sh.fr h.m) (Sh.fr h.x) (Sh.fr h.y) (Sh.fr h.z))).mono (by decide) lz
def db {x:PV}{Q:PV->Prop}(a:PB x)(hq:N1 x=true)(h:Q (.str (qX x))):TQ [x] Q:=by unfold TQ;cases x <;> first | exact⟨hq,a,h⟩|(simp[N1] at hq)
abbrev T3:=Rat×Rat×Rat
def inter (a b:C4)(m:Rat):T3:=(a.2.1+(m-a.1)/(b.1-a.1)*(b.2.1-a.2.1),a.2.2.1+(m-a.1)/(b.1-a.1)*(b.2.2.1-a.2.2.1),a.2.2.2+(m-a.1)/(b.1-a.1)*(b.2.2.2-a.2.2.2))
def spotG:C4->zy C4->Rat->zt T3
 | _, [],_=>none
 | a,b::r,m=>if b.1<m then spotG b r m else some (inter a b m)
def spotC:zy C4->Rat->zt T3
 | [],_=>none
 | a::r,m=>if m<a.1 then none else spotG a r m
def DB (t:T3):PV:= .tup [fr t.1,fr t.2.1,fr t.2.2]
def YI:zt T3->PV
 | none=> .non
 | some t=>DB t
structure Cq (B:Nat) (t:T3):Prop where
 x:Bd B t.1
 y:Bd B t.2.1
 z:Bd B t.2.2
section
variable {B M:Nat}{a b:C4}{m:Rat}
theorem dc {x y:Rat}(h:x<y):y-x≠0:=by grind
theorem Bd.share (ha:Fa B a)(hb:Fa B b)(c:Bd M m)(h:a.1<b.1):Bd (M+B+1+(B+B+1)) ((m-a.1)/(b.1-a.1)):=(c.sub ha.m).div (dc h) (hb.m.sub ha.m)
theorem Cq.inter (ha:Fa B a)(hb:Fa B b)(c:Bd M m)(h:a.1<b.1):Cq (M+6*B+10) (inter a b m):=by have s:=Bd.share ha hb c h;exact⟨(ha.x.add (s.mul (hb.x.sub ha.x))).mono (by omega),(ha.y.add (s.mul (hb.y.sub ha.y))).mono (by omega),(ha.z.add (s.mul (hb.z.sub ha.z))).mono (by omega)⟩
end
theorem Cq.spotG {B M:Nat}{m:Rat}(d:Bd M m):∀{a:C4} {r:zy C4},Ll (a::r)->(∀c∈a::r,Fa B c)->∀t,spotG a r m=some t->Cq (M+6*B+10) t
 | a, [],_,_,t,e=>by cases e
 | a,b::r,hr,hb,t,e=>by
   unfold PL.spotG at e;split at e
   .exact Cq.spotG d (AAN.mp hr).2 (λc hc=>hb c (by simp[hc])) t e
   .cases e;exact .inter (hb a (by simp)) (hb b (by simp)) d ((AAN.mp hr).1 b (by simp))
def Cq.spotC {B M:Nat}{m:Rat}{cs:zy C4}(b:Bd M m)(d:Ll cs)(hb:∀c∈cs,Fa B c):∀t,spotC cs m=some t->Cq (M+6*B+10) t:=λt e=>by
 cases cs with
 | nil=>cases e
 | cons a r=>
   simp only[PL.spotC] at e;split at e
   .cases e
   .exact Cq.spotG b d hb t e
def Q5 {f:C4->PV}{cs:zy C4}{i:Int}{k:Nat}{c:C4}{Q:PV->Prop}(hk:i=(k:Int))(e:cs[k]? =some c)(h:Q (f c)):eM (Jc (cs.map f) i) Q:=by have q:Jc (cs.map f) ((k:Nat):Int)=some (f c):=Ck (by rw[AAp,e] <;> rfl);rw[hk,q];exact h
def TR {f:C4->PV}{cs:zy C4}{c:C4}{Q:PV->Prop}(e:cs.getLast?=some c)(h:Q (f c)):eM (Jc (cs.map f) (-1)) Q:=by
 have a:cs≠ [] :=by intro z;subst z;cases e
 have hl:0<cs.length:=List.length_pos_iff.mpr a;have q:Jc (cs.map f) (-1)=some (f c):=by
  unfold Jc V2;rw[AAI,AAD (by decide),AAE (by omega)];have b:(-1+(cs.length:Int)).toNat=cs.length-1:=by omega
  rw[Option.bind_some,b,AAp,<-List.getLast?_eq_getElem?,e];rfl
 rw[q];exact h
def X8 {cs:zy C4}(h:Ll cs){k:Nat}{a b:C4}(c:cs[k]? =some a)(d:cs[k+1]? =some b):a.1<b.1:=by have h1:=(AA0.mp c);have h2:=(AA0.mp d);obtain⟨e,rfl⟩:=h1;obtain⟨f,rfl⟩:=h2;exact List.pairwise_iff_getElem.mp h k (k+1) e f (by omega)
theorem Of {m:Rat}:∀{a:C4} {r:zy C4},Ll (a::r)->(∀l,(a::r).getLast?=some l->l.1<m)->spotG a r m=none
 | a, [],_,_=>rfl
 | a,b::r,hr,h=>by
   have d:Ll (b::r):=(AAN.mp hr).2;have hb:b.1<m:=by
    cases r with
    | nil=>exact h b rfl
    | cons c r=> obtain⟨l,hl⟩:∃l,(c::r).getLast?=some l:=⟨_,ACR (by simp)⟩;have h1:l.1<m:=h l (by simpa[ACS] using hl);have h2:b.1<l.1:=(AAN.mp d).1 l (AC7 hl);grind
   simp only[spotG,AAE hb];exact Of d λl hl=>h l (by simpa[ACS] using hl)
def To {a b:C4}(h:a.1<b.1):inter a b a.1=a.2:=by
 have s:(a.1-a.1)/(b.1-a.1)=0:=by grind
 simp only[inter,s];obtain⟨m,x,y,z⟩:=a;show (x+0*(b.2.1-x),y+0*(b.2.2.1-y),z+0*(b.2.2.2-z))=(x,y,z);rw[show x+0*(b.2.1-x)=x by grind,show y+0*(b.2.2.1-y)=y by grind,show z+0*(b.2.2.2-z)=z by grind]
def Vy {a b:C4}(h:a.1<b.1):inter a b b.1=b.2:=by
 have s:(b.1-a.1)/(b.1-a.1)=1:=by grind
 simp only[inter,s];obtain⟨m,x,y,z⟩:=b;show (a.2.1+1*(x-a.2.1),a.2.2.1+1*(y-a.2.2.1),a.2.2.2+1*(z-a.2.2.2))=(x,y,z);rw[show a.2.1+1*(x-a.2.1)=x by grind,show a.2.2.1+1*(y-a.2.2.1)=y by grind,show a.2.2.2+1*(z-a.2.2.2)=z by grind]
def Lw {a:C4}{r:zy C4}{m:Rat}(h:m<a.1):spotC (a::r) m=none:=by simp only[spotC,AAE h]
def SQ {a:C4}{r:zy C4}{m:Rat}(b:Ll (a::r))(h:∀l,(a::r).getLast?=some l->l.1<m):spotC (a::r) m=none:=by
 simp only[spotC];split
 .rfl
 .exact Of b h
def Jn:AS:=
 (AY (Aj (Ea (Bx (Gj (A9 (AB (aC (.int 1)) (AB (aC (.int 2)) (AB (aC (.int 3)) AL))))) 1 [4,3,2] (Ak 0) DW (AN 2 Bw (AB (aV 1) (AB (AN 2 BY (AB (AW Am (aV 2) (aV 0)) (AB (AW Am (aV 3) (aV 0)) AL))) AL))))) (Ak 5))
   (As (F2 Dm (AB (Ea (Bx (NY (AB (aC (.int 3)) AL)) 1 [2,5] (Ak 0) DW (AN 2 BN (AB (AW Am (aV 1) (AW BS (aV 0) (aC (.int 1)))) (AB (AW Am (aV 2) (aV 0)) AL))))) AL))))
def Mz:AS:=
 (AY (Aj (AN 2 C6 (AB (AN 2 BY (AB (aV 1) (AB (AW Am (aV 2) (aC (.int 0))) AL))) (AB (AN 2 BY (AB (AW Am (aV 3) (aC (.int 0))) (AB (AW Am (aV 2) (aC (.int 0))) AL))) AL))) (Ak 4))
   Jn)
def M0:AS:=
 (AY (EH (iZ (AB (aV 0) (AB (Zs (aV 0) (Zu (aC (.int 1))) Zt) AL))) (Jb 2 (Ad (Ak 2) (Ad (Ak 3) B0))) (CN (NX (Aw (AN 2 A1 (AB (AW Am (aV 3) (aC (.int 0))) (AB (aV 1) AL))))) Mz BU))
   (As (aC .non)))
def Si:AS:=
 (AY (CN (VQ (Aw (AN 2 A1 (AB (aV 1) (AB (AW Am (AW Am (aV 0) (aC (.int 0))) (aC (.int 0))) AL)))) (Aw (AN 2 A1 (AB (AW Am (AW Am (aV 0) (Yj Nj (aC (.int 1)))) (aC (.int 0))) (AB (aV 1) AL))))) (As (aC .non)) BU)
   M0)
def E4:AF:=An 6 Si
def NP {cs:zy C4}{B M:Nat}{m:Rat}(hc:∀c∈cs,Fa B c)(E:Ll cs)(h0:cs≠ [])(hl:cs.length<=1000)(t:Bd M m)(O:M+6*B+10<=3990){Q:PV->Prop}(q:Q (YI (spotC cs m))):E4 [Bb cs,fr m] Q:=by
 have m1:=t.mono (n:=4000) (by omega);cases cs with
 | nil=>exact absurd rfl h0
 | cons a r=>
   have I:=hc a (by simp);have J:=I.m.mono (n:=4000) (by omega);obtain⟨l,u⟩:∃l,(a::r).getLast?=some l:=⟨_,ACR (by simp)⟩;have K:=hc l (AC7 u);refine Q5 (f:=cor) (k:=0) (c:=a) rfl rfl ⟨rfl,E5 m1 J ?_⟩;refine Iv (b:=decide (m<a.1)) (λz=> ?_) (λz=> ?_)
   .rw [Lw (ABd z)] at q;exact q
   refine TR (f:=cor) u ⟨rfl,E5 (K.m.mono (by omega)) m1 ?_⟩;refine Iv (b:=decide (l.1<m)) (λo=> ?_) (λo=> ?_)
   .rw [SQ E (λP F=>by rw[u] at F;cases F;exact ABd o)] at q;exact q
   simp only[spotC,AAD (ABe z)] at q;have L:r.length+1<=1000:=hl;refine YH (cs:=a::r) (i:=1) (k:=1) rfl (by simp) ?_;refine Hm (λG τ=>∃(c:C4) (h:zy C4) (o v w A:zt AV),G=IN ((c::h).map cor) (h.map cor)/\Ll (c::h)/\(∀d∈c::h,Fa B d)/\spotG c h m=spotG a r m/\τ= [some (.val (Bb (a::r))),some (.val (fr m)),o,v,w,A]) ?_ ?_ _ _ ⟨a,r,none,none,none,none,rfl,E,hc,rfl,rfl⟩
   .rintro τ ⟨c,h,o,v,w,A,p,C,hb,es,rfl⟩;have:h= [] :=by cases h with | nil=>rfl|cons d h=>cases p
    subst this;rw[<-es] at q;exact q
   .rintro x G τ R N ⟨c,h,o,v,w,A,p,C,hb,es,rfl⟩;cases h with
    | nil=>cases p
    | cons d h=>
      cases p;have g:=hb c (by simp);have j:=hb d (by simp);have H:=(AAN.mp C).1 d (by simp);refine⟨rfl,rfl,E5 (j.m.mono (by omega)) m1 ?_⟩;refine Iv (b:= !decide (d.1<m)) (λz=> ?_) (λz=> ?_)
      .have D:¬d.1<m:=by simpa using z
       rw[<-es] at q;simp only[spotG,AAD D,YI,DB,inter] at q;have s:=Bd.share g j t H;refine⟨rfl,Ce m1 (g.m.mono (by omega)) ⟨rfl,Ce (j.m.mono (by omega)) (g.m.mono (by omega)) ⟨rfl,Gb (dc H) ((t.sub g.m).mono (by omega)) ((j.m.sub g.m).mono (by omega)) ?_⟩⟩⟩;refine⟨lz,lz, ?_⟩;refine⟨rfl,Ce (j.x.mono (by omega)) (g.x.mono (by omega)) ⟨rfl,Cj (s.mono (by omega)) ((j.x.sub g.x).mono (by omega)) ?_⟩⟩;refine⟨rfl,Ce (j.y.mono (by omega)) (g.y.mono (by omega)) ⟨rfl,Cj (s.mono (by omega)) ((j.y.sub g.y).mono (by omega)) ?_⟩⟩;refine⟨rfl,Ce (j.z.mono (by omega)) (g.z.mono (by omega)) ⟨rfl,Cj (s.mono (by omega)) ((j.z.sub g.z).mono (by omega)) ?_⟩⟩;refine⟨⟨by decide,by decide⟩,lz, ?_⟩;refine⟨rfl,DN (g.x.mono (by omega)) ((s.mul (j.x.sub g.x)).mono (by omega)) ?_⟩;refine⟨rfl,DN (g.y.mono (by omega)) ((s.mul (j.y.sub g.y)).mono (by omega)) ?_⟩;exact⟨rfl,DN (g.z.mono (by omega)) ((s.mul (j.z.sub g.z)).mono (by omega)) q⟩
      .have D:d.1<m:=by simpa using z
       exact N _ ⟨d,h,_,_,_,_,rfl,(AAN.mp C).2,λe he=>hb e (by simp[he]),by rw[<-es];simp only[spotG,AAE D],rfl⟩
def PB.t3 {t:T3}(h:Cq 1900 t):PB (DB t):=(Sh.tup (gG (Sh.fr h.x) (Sh.fr h.y) (Sh.fr h.z))).go (by decide) lz
def sp (cs:zy C4)(m:Rat):C4:=(m,(spotC cs m).getD (0,0,0))
def nV (f t:Rat)(c:C4):km:=decide (f<c.1)&&decide (c.1<t)
def ZG {a b l:C4}{r:zy C4}(e:(a::b::r).getLast?=some l):(b::r).getLast?=some l:=by simpa[ACS] using e
def mx (b a:Rat):Rat:=if b<a then a else b
def mn (e l:Rat):Rat:=if e<l then e else l
theorem F7 {i:Type}{g:AG}{j:AT}{te:AE}{d:A5}{Q:zy PV->Prop}(f k:i->PV)(p:i->km)(P:i->Prop)(hs:∀a,P a->∀(R:PV->Prop) (N:Prop),(p a=true->R (k a))->(p a=false->N)->g (f a) d λe=>j e λok=>if ok=true then te e R else N):∀(xs:zy i) (c:zy PV),(∀a∈xs,P a)->Q (c++(xs.filter p).map k)->CK g j te d Q (xs.map f) c
 | [],c,_,h=>(by simpa using h:Q c)
 | a::xs,c,hp,h=>by
   refine hs a (hp a (by simp)) (λy=>CK g j te d Q (xs.map f) (c ++ [y])) _ (λz=> ?_) (λz=> ?_)
   .exact F7 f k p P hs xs _ (λb hb=>hp b (by simp[hb])) (by simpa[ABE,z] using h)
   .exact F7 f k p P hs xs _ (λb hb=>hp b (by simp[hb])) (by simpa[ABE,z] using h)
def both {f t:Rat}{c:C4}{b:(km->Prop)->Prop}{A:Prop}{N:Prop}(h1:nV f t c=true->A)(h2:nV f t c=false->N):if decide (f<c.1)=true then (if decide (c.1<t)=true then A else N) else N:=by unfold nV at h1 h2;refine Iv (λz=>Iv (λa=>h1 (by rw[z,a];rfl)) (λa=>h2 (by rw[z,a];rfl))) (λz=>h2 (by rw[z];rfl))
def Bd.mx {n:Nat}{a b:Rat}(ha:Bd n a)(hb:Bd n b):Bd n (mx a b):=by unfold PL.mx;split <;> assumption
def Bd.mn {n:Nat}{a b:Rat}(ha:Bd n a)(hb:Bd n b):Bd n (mn a b):=by unfold PL.mn;split <;> assumption
section
variable {a b:AS}{ta tb:AE}{tt tu:AT}{g:AG}{gs:U0}{nx bk ct:A5->Prop}{rt:PV->Prop}{τ:A5}{Q:PV->Prop}{QB:km->Prop}{QL:zy PV->Prop}{QT:A5->Prop}{r:AA}{ai:AI}{F:AF}{n i j:Nat}{x y z:PV}{xs ys:zy PV}
def pL {f:Ja}(e:Sd τ i=some (.val x))(h:ta τ λy=>f x y λz=>nx (τ.set i (some (.val z)))):VO i f ta ⟨nx,rt,bk,ct⟩ τ:=by unfold VO;rw[e];exact h
def pS (e:Sd τ i=some (.own xs))(h:QL xs):MG i τ QL:=by unfold MG;rw[e];exact h
def yf (e:Sd τ i=some (.val x))(h:Q x):aV i τ Q:=by unfold aV;rw[e];exact h
def vC (x:PV)(i:Int):zt PV:=match x with | .tup xs=>Jc xs i | .lst xs=>Jc xs i|_=>none
def tH {i:Int}(e:vC x i=some z)(h:Q z):Am x (.int i) Q:=by cases x <;> first | (cases e;done)|(show eM (Jc _ i) Q;rw[show Jc _ i=some z from e];exact h)
def lf {l:C4}{cs:zy C4}(c:cs.getLast?=some l)(h:Q (cor l)):Am (Bb cs) (.int (-1)) Q:=TR c h
def pM {a b:Rat}(h:Q (.bl (decide (a=b)))):Ln (fr a) (fr b) Q:=⟨⟨Xr 29 _,Xr 29 _⟩,by rw[am];exact h⟩
def pR {a b:Rat}(h:Q (.bl (!decide (a=b)))):Yy (fr a) (fr b) Q:=⟨⟨Xr 29 _,Xr 29 _⟩,by rw[am];exact h⟩
def jI {g:zy km->km}{bs:zy km}(e:Jv xs=some bs)(h:Q (.bl (g bs))):Vj g [.lst xs] Q:=by show (match Jv xs with | some bs=>Q (.bl (g bs))|none=>False);rw[e];exact h
def pO {c:km}{A B:Prop}(e:c=true)(h:A):if c=true then A else B:=by rw[AAE e];exact h
def pN {c:km}{A B:Prop}(e:c=false)(h:B):if c=true then A else B:=by rw[AAD (by rw[e];exact AAR)];exact h
def pP {p:Prop}[Decidable p]{A B:Prop}(h1:p->A)(h2:¬p->B):if decide p=true then A else B:=by
 by_cases h:p
 .rw [AAE (AAo h)];exact h1 h
 .rw [AAD (by simp[h])];exact h2 h
def pQ {p:Prop}[Decidable p]{A B:Prop}(h1:¬p->A)(h2:p->B):if (!decide p)=true then A else B:=by
 by_cases h:p
 .rw [AAD (by simp[h])];exact h2 h
 .rw [AAE (by simp[h])];exact h1 h
end
def xS:Bd 1 (0:Rat):=⟨by decide,by decide⟩
def nU:Bd 1 (1:Rat):=⟨by decide,by decide⟩
section
variable {g:AG}{b:AS}{nx bk ct:A5->Prop}{rt:PV->Prop}
def XX (P:Nat->A5->Prop){lo:Int}{n:Nat}(hd:∀τ,P n τ->nx τ)(hs:∀i,i<n->∀τ (R:A5->Prop),(∀τ,P (i+1) τ->R τ)->P i τ->g (.int (lo+i)) τ λc=>b ⟨R,rt,nx,R⟩ c){τ:A5}(h0:P 0 τ):DQ g b ⟨nx,rt,bk,ct⟩ (rng lo n) τ:=by
 refine Hm (λr τ=>∃i,i<=n/\r=rng (lo+i) (n-i)/\P i τ) ?_ ?_ _ _ ⟨0,AAw _,by simp,h0⟩
 .rintro τ ⟨i,hi,a,hp⟩;have:n-i=0:=by
   cases e:n-i with
   | zero=>rfl
   | succ k=>rw[e,KL] at a;cases a
  have:i=n:=by omega
  subst this;exact hd τ hp
 .rintro x r τ R f ⟨i,hi,a,hp⟩;cases e:n-i with
  | zero=>rw[e] at a;cases a
  | succ k=> rw[e,KL] at a;cases a;exact hs i (by omega) τ R (λd h2=>f d ⟨i+1,by omega,by rw[show n-(i+1)=k by omega,show lo+((i+1:Nat):Int)=lo+i+1 by omega],h2⟩) hp
def CQ {a:Type}(f:a->PV)(P:zy a->zy a->A5->Prop){cs:zy a}(hd:∀τ,P cs [] τ->nx τ)(hs:∀us c vs,us++c::vs=cs->∀τ (R:A5->Prop),(∀τ,P (us ++ [c]) vs τ->R τ)->P us (c::vs) τ->g (f c) τ λh=>b ⟨R,rt,nx,R⟩ h){τ:A5}(h0:P [] cs τ):DQ g b ⟨nx,rt,bk,ct⟩ (cs.map f) τ:=by
 refine Hm (λr τ=>∃us vs,us++vs=cs/\r=vs.map f/\P us vs τ) ?_ ?_ _ _ ⟨[],cs,rfl,rfl,h0⟩
 .rintro τ ⟨us,vs,e,d,hp⟩;cases vs with
  | nil=>rw[ABU] at e;subst e;exact hd τ hp
  | cons v vs=>cases d
 .rintro x r τ R j ⟨us,vs,e,d,hp⟩;cases vs with
  | nil=>cases d
  | cons c vs=> cases d;exact hs us c vs e τ R (λi h2=>j i ⟨us ++ [c],vs,by simpa using e,rfl,h2⟩) hp
def d4 {c:AT}(P:Nat->A5->Prop)(hs:∀n τ (R:A5->Prop),(∀τ,P n τ->R τ)->P (n+1) τ->c (frz τ) λk=>if k=true then b ⟨R,rt,nx,R⟩ τ else nx τ)(a:∀τ,¬P 0 τ){n:Nat}{τ:A5}(h0:P n τ):HA c b ⟨nx,rt,bk,ct⟩ τ:=
 ⟨n,W3 P a (λn τ R d hp=>hs n τ R d hp) n τ h0⟩
end
section
variable {g:AG}{tt:AT}{te:AE}{τ0:A5}{Q:zy PV->Prop}
def XN (P:Nat->zy PV->Prop){lo:Int}{n:Nat}(hd:∀a,P n a->Q a)(hs:∀i,i<n->∀a (R:zy PV->Prop),(∀a,P (i+1) a->R a)->P i a->g (.int (lo+i)) τ0 λc=>tt c λok=>if ok=true then te c λy=>R (a ++ [y]) else R a)(h0:P 0 []):CK g tt te τ0 Q (rng lo n) [] :=by
 refine XM (λr a=>∃i,i<=n/\r=rng (lo+i) (n-i)/\P i a) ?_ ?_ _ _ ⟨0,AAw _,by simp,h0⟩
 .rintro a ⟨i,hi,b,hp⟩;have:n-i=0:=by
   cases e:n-i with
   | zero=>rfl
   | succ k=>rw[e,KL] at b;cases b
  have:i=n:=by omega
  subst this;exact hd a hp
 .rintro x r a R f ⟨i,hi,b,hp⟩;cases e:n-i with
  | zero=>rw[e] at b;cases b
  | succ k=> rw[e,KL] at b;cases b;exact hs i (by omega) a R (λd h2=>f d ⟨i+1,by omega,by rw[show n-(i+1)=k by omega,show lo+((i+1:Nat):Int)=lo+i+1 by omega],h2⟩) hp
end
end PL
namespace PL
open PySem PySem.Spec PyProof.Rows L2
def Kc (K:AAB)(mg:Str->zt zx)(x:Str)(v:PV):Prop:=∃(u:zx) (V:V),mg x=some u/\RelV V u/\∀T M H,CM K T M H V v
section
variable {K:AAB}{T M:zu->Prop}{H:Hp}
def Me {i:Int}{t:Tok}:∃V,RelV V (.int i t)/\∀T M H,CM K T M H V (.int i):=⟨.int i,⟨t,rfl⟩,λ_ _ _=> .int i⟩
inductive KR (K:AAB):List Value->List PV->Prop where
 | nil:KR K [] []
 | cons {u:Value} {x:PV} {us:List Value} {xs:List PV} (h:∃V,RelV V u/\∀T M H,CM K T M H V x) (t:KR K us xs):KR K (u::us) (x::xs)
theorem KR.reps:∀{us:zy zx} {xs:zy PV},KR K us xs->∃vs,Aq vs us/\∀T M H,Au K T M H vs xs
 | _,_, .nil=>⟨[], .nil,λ_ _ _=> .nil⟩
 | _,_, .cons ⟨V,r,h⟩ t=>by obtain⟨vs,a,h2⟩:=KR.reps t;exact⟨V::vs, .cons r a,λT M H=> .cons (h T M H) (h2 T M H)⟩
def KR.length:∀{us:zy zx} {xs:zy PV},KR K us xs->us.length=xs.length
 | _,_, .nil=>rfl
 | _,_, .cons _ t=>by simp[t.length]
def X6 {a:zu}{us:zy zx}{xs:zy PV}{n:Nat}{b:zt zu}{c:Array (zt zx)}(hl:K.lookup a=some ⟨.type "tuple",b, .seq us.toArray n,c⟩)(h:KR K us xs)(hs:xs.length<=sizeLine:=by decide):∃V,RelV V (.ref a)/\∀T M H,CM K T M H V (.tup xs):=by obtain⟨vs,r,q⟩:=h.reps;refine⟨.ref a,rfl,λT M H=> .tup (vs:=vs) (.inr ⟨_,us.toArray,n,hl,rfl,rfl, ?_,by simpa using r⟩) (q T M H)⟩;rw[AAV,h.length];exact hs
end
def i6 {K:AAB}{mg:Str->zt zx}{x:Str}{u:zx}{v:PV}(a:mg x=some u)(h:∃V,RelV V u/\∀T M H,CM K T M H V v):Kc K mg x v:=let ⟨V,r,q⟩:=h;⟨u,V,a,r,q⟩
section
variable {X:Cx}
def Uj {x:Str}{v:PV}{a:Pos}(c:Kc X.K X.mg x v)(b:Gl X x)(hd:(x==("__debug__" :Str))=false:=by decide):SE X (.Name x a) (aC v):=by obtain⟨u,V,d,r,h⟩:=c;exact⟨_,gU b d r hd,Ul h⟩
end
end PL
namespace PL
open PySem L2 PyProof.Rows
class Wp (P:Prop) (P':outParam Prop):Prop where
 go:P'->P
class Uy (P:Prop) (C P':outParam Prop):Prop where
 go:C->P'->P
class um (P:Prop) (P':outParam Prop):Prop where
 go:P'->P
class rE (P:Prop) (A B:outParam Prop):Prop where
 go:A->B->P
class iX (τ:A5) (i:Nat) (x:outParam AV):Prop where
 e:Sd τ i=some x
instance{v:AV}{r:A5}:iX (some v::r) 0 v:=⟨rfl⟩
instance{y:zt AV}{r:A5}{i:Nat}{v:AV}[h:iX r i v] :iX (y::r) (i+1) v:=⟨h.e⟩
class aJ (τ:A5) (i:Nat) (v:AV) (τ':outParam A5):Prop where
 e:τ.set i (some v)=τ'
instance{y:zt AV}{r:A5}{v:AV}:aJ (y::r) 0 v (some v::r):=⟨rfl⟩
instance{y:zt AV}{r a:A5}{i:Nat}{v:AV}[h:aJ r i v a] :aJ (y::r) (i+1) v (y::a):=⟨by rw[List.set_cons_succ,h.e]⟩
class Zq (τ:A5) (τ':outParam A5):Prop where
 e:frz τ=τ'
instance:Zq [] [] :=⟨rfl⟩
instance (priority:=low){z:zt AV}{r a:A5}[h:Zq r a] :Zq (z::r) (Yz z::a):=⟨by rw[<-h.e];rfl⟩
instance{r a:A5}[h:Zq r a] :Zq (none::r) (none::a):=⟨by rw[<-h.e];rfl⟩
instance{x:PV}{r a:A5}[h:Zq r a] :Zq (some (.val x)::r) (some (.val x)::a):=⟨by rw[<-h.e];rfl⟩
instance{x:zy PV}{r a:A5}[h:Zq r a] :Zq (some (.own x)::r) (some (.val (.lst x))::a):=⟨by rw[<-h.e];rfl⟩
class nE (ix:List Nat) (τ:A5) (τ':outParam A5):Prop where
 e:(ix.map λi=>Yl (Sd τ i))=τ'
instance{τ:A5}:nE [] τ [] :=⟨rfl⟩
instance{τ r:A5}{i:Nat}{ix:zy Nat}{x:PV}[h:iX τ i (.val x)][h2:nE ix τ r] :nE (i::ix) τ (some (.val x)::r):=⟨by rw[AAK,h.e,h2.e];rfl⟩
class nO (n:Nat) (τ:outParam A5):Prop where
 e:List.replicate n none=τ
instance:nO 0 [] :=⟨rfl⟩
instance{n:Nat}{τ:A5}[h:nO n τ] :nO (n+1) (none::τ):=⟨by rw[List.replicate_succ,h.e]⟩
class Z8 (xs ys:A5) (zs:outParam A5):Prop where
 e:xs++ys=zs
instance{ys:A5}:Z8 [] ys ys:=⟨rfl⟩
instance{x:zt AV}{xs ys a:A5}[h:Z8 xs ys a] :Z8 (x::xs) ys (x::a):=⟨by rw[ADh,h.e]⟩
class Z9 (xs ys:List PV) (zs:outParam (List PV)):Prop where
 e:xs++ys=zs
instance{ys:zy PV}:Z9 [] ys ys:=⟨rfl⟩
instance{x:PV}{xs ys a:zy PV}[h:Z9 xs ys a] :Z9 (x::xs) ys (x::a):=⟨by rw[ADh,h.e]⟩
class e7 (xs:List PV) (n:outParam Nat):Prop where
 e:xs.length=n
instance:e7 [] 0:=⟨rfl⟩
instance{x:PV}{xs:zy PV}{n:Nat}[h:e7 xs n] :e7 (x::xs) (n+1):=⟨by rw[AAc,h.e]⟩
class Ix (x:PV) (i:Int) (y:outParam PV):Prop where
 e:vC x i=some y
section
variable {a b:AS}{ta tb:AE}{tt tu:AT}{g:AG}{gs:U0}{nx bk ct:A5->Prop}{rt:PV->Prop}{τ τ' τ2:A5}{Q:PV->Prop}{QB:km->Prop}{QL:zy PV->Prop}{QT:A5->Prop}{r:AA}{ai:AI}{F:AF}{n i j:Nat}{x y z:PV}{xs ys zs:zy PV}
instance{c:PV}{q:zy PV}:Ix (.tup (c::q)) 0 c:=⟨Ck (j:=0) rfl⟩
instance{c:PV}{q:zy PV}:Ix (.lst (c::q)) 0 c:=⟨Ck (j:=0) rfl⟩
instance{d c:PV}{q:zy PV}:Ix (.tup (d::c::q)) 1 c:=⟨Ck (j:=1) rfl⟩
instance{d c:PV}{q:zy PV}:Ix (.lst (d::c::q)) 1 c:=⟨Ck (j:=1) rfl⟩
instance{d e c:PV}{q:zy PV}:Ix (.tup (d::e::c::q)) 2 c:=⟨Ck (j:=2) rfl⟩
instance{d e c:PV}{q:zy PV}:Ix (.lst (d::e::c::q)) 2 c:=⟨Ck (j:=2) rfl⟩
instance{d e f c:PV}{q:zy PV}:Ix (.tup (d::e::f::c::q)) 3 c:=⟨Ck (j:=3) rfl⟩
instance{q:Rat}:Ix (fr q) 0 (.int q.num):=⟨rfl⟩
instance{q:Rat}:Ix (fr q) 1 (.int q.den):=⟨rfl⟩
instance{c:C4}:Ix (cor c) 0 (fr c.1):=⟨rfl⟩
instance{c:C4}:Ix (corL c) 0 (fr c.1):=⟨rfl⟩
instance{t:T3}:Ix (DB t) 0 (fr t.1):=⟨rfl⟩
instance{t:T3}:Ix (DB t) 1 (fr t.2.1):=⟨rfl⟩
instance{t:T3}:Ix (DB t) 2 (fr t.2.2):=⟨rfl⟩
instance:Wp (AY a b ⟨nx,rt,bk,ct⟩ τ) (a ⟨b ⟨nx,rt,bk,ct⟩,rt,bk,ct⟩ τ):=⟨id⟩
instance:Wp (Aj ta g ⟨nx,rt,bk,ct⟩ τ) (ta τ λx=>g x τ nx):=⟨id⟩
instance[h:Zq τ τ'] :Wp (As ta ⟨nx,rt,bk,ct⟩ τ) (ta τ' rt):=⟨λk=>by unfold As;rw[h.e];exact k⟩
instance:Wp (BU ⟨nx,rt,bk,ct⟩ τ) (nx τ):=⟨id⟩
instance:Wp (CN tt a b ⟨nx,rt,bk,ct⟩ τ) (tt τ λk=>if k=true then a ⟨nx,rt,bk,ct⟩ τ else b ⟨nx,rt,bk,ct⟩ τ):=⟨id⟩
def Wb (τ:A5)(i:Nat)(v:AV)(QT:A5->Prop):Prop:=QT (τ.set i (some v))
instance{v:AV}[h:aJ τ i v τ'] :Wp (Wb τ i v QT) (QT τ'):=⟨λk=>by unfold Wb;rw[h.e];exact k⟩
instance:Wp (Gf r i ⟨nx,rt,bk,ct⟩ τ) (r τ λxs=>Wb τ i (.own xs) nx):=⟨id⟩
instance[h:aJ τ i (.val x) τ'] :Wp (Ak i x τ QT) (QT τ'):=⟨λk=>by unfold Ak;rw[h.e];exact k⟩
instance{f:Ja}[h:iX τ i (.val x)] :Wp (VO i f ta ⟨nx,rt,bk,ct⟩ τ) (ta τ λy=>f x y λz=>Wb τ i (.val z) nx):=⟨λk=>pL h.e k⟩
instance[h:iX τ i (.own xs)] :Wp (MG i τ QL) (QL xs):=⟨λk=>pS h.e k⟩
instance{f:jc}:Wp (Db i f r ⟨nx,rt,bk,ct⟩ τ) (MG i τ λxs=>r τ λys=>f xs ys λzs=>Wb τ i (.own zs) nx):=⟨id⟩
instance:Wp (Gh xs [y] QL) (xs.length<sizeLine/\QL (xs ++ [y])):=⟨id⟩
instance{k:Int}:Wp (bZ xs [.int k,y] QL) ((0<=k/\k<=(xs.length:Int)/\xs.length<sizeLine)/\QL (xs.take k.toNat++y::xs.drop k.toNat)):=⟨id⟩
instance:Wp (EH ai g b ⟨nx,rt,bk,ct⟩ τ) (ai τ λxs=>DQ g b ⟨nx,rt,bk,ct⟩ xs τ):=⟨id⟩
instance:Wp (DQ g b ⟨nx,rt,bk,ct⟩ [] τ) (nx τ):=⟨id⟩
instance{q:zy PV}:um (DQ g b ⟨nx,rt,bk,ct⟩ (x::q) τ) (g x τ λc=>b ⟨DQ g b ⟨nx,rt,bk,ct⟩ q,rt,nx,DQ g b ⟨nx,rt,bk,ct⟩ q⟩ c):=⟨id⟩
instance:Wp (B0 [] τ QT) (QT τ):=⟨id⟩
instance{t:zy PV}:Wp (Ad g gs (x::t) τ QT) (g x τ λτ'=>gs t τ' QT):=⟨id⟩
instance:Wp (Jb n gs x τ QT) (Oq x λxs=>xs.length=n/\gs xs τ QT):=⟨id⟩
instance[h:iX τ i (.val x)] :Wp (aV i τ Q) (Q x):=⟨λk=>yf h.e k⟩
instance:Wp (aC x τ Q) (Q x):=⟨id⟩
instance{f:Ja}:Wp (AW f ta tb τ Q) (ta τ λx=>tb τ λy=>f x y Q):=⟨id⟩
instance{f:PV->(PV->Prop)->Prop}:Wp (Yj f ta τ Q) (ta τ λx=>f x Q):=⟨id⟩
instance:Wp (VN ta tb τ Q) (ta τ λx=>eJ x λc=>if c=true then tb τ Q else Q (.bl false)):=⟨id⟩
instance:Wp (qE ta tb τ Q) (ta τ λx=>eJ x λc=>if c=true then Q (.bl true) else tb τ Q):=⟨id⟩
instance:Wp (Aw ta τ QB) (ta τ λx=>eJ x QB):=⟨id⟩
def vK (x:PV)(QB:km->Prop):Prop:=match iS x with | some b=>QB b|none=>False
instance:Wp (jl ta τ QB) (ta τ λx=>vK x QB):=⟨id⟩
instance{c:km}:Wp (vK (.bl c) QB) (QB c):=⟨id⟩
instance:Wp (NX tt τ QB) (tt τ λc=>QB (!c)):=⟨id⟩
instance:Wp (E9 tt tu τ QB) (tt τ λc=>if c=true then tu τ QB else QB false):=⟨id⟩
instance:Wp (VQ tt tu τ QB) (tt τ λc=>if c=true then QB true else tu τ QB):=⟨id⟩
instance:Wp (jj tt ta tb τ Q) (tt τ λc=>if c=true then ta τ Q else tb τ Q):=⟨id⟩
instance:Wp (DW τ QB) (QB true):=⟨id⟩
instance[h:Zq τ τ'] :Wp (S6 ta τ Q) (ta τ' λx=>Xq x=true/\Q x):=⟨λk=>by unfold S6;rw[h.e];exact k⟩
instance[h:Zq τ τ'] :Wp (S7 tt τ QB) (tt τ' QB):=⟨λk=>by unfold S7;rw[h.e];exact k⟩
instance:Wp (AL τ QL) (QL []):=⟨id⟩
instance:Wp (AB ta r τ QL) (ta τ λx=>r τ λxs=>QL (x::xs)):=⟨id⟩
def bg (xs:zy PV)(Q:PV->Prop):Prop:=xs.length<=sizeLine/\Q (.tup xs)
instance:Wp (A9 r τ Q) (r τ λxs=>bg xs Q):=⟨id⟩
instance:Wp (DE r τ QL) (r τ λxs=>xs.length<=sizeLine/\QL xs):=⟨id⟩
instance:Wp (Ea r τ Q) (r τ λxs=>Q (.lst xs)):=⟨id⟩
instance:Wp (AN n F r τ Q) (r τ λxs=>xs.length=n/\F xs Q):=⟨id⟩
instance:Wp (F2 F r τ Q) (r τ λxs=>F xs Q):=⟨id⟩
instance{own:Nat}{ix:zy Nat}{te:AE}{c d:A5}[h1:nO own c][h2:nE ix τ d][f:Z8 c d τ'] :Wp (Bx ai own ix g tt te τ QL) (ai τ λxs=>xs.length<sizeLine/\CK g tt te τ' QL xs []):=⟨λk=>by unfold Bx Ju;rw[h1.e,h2.e,f.e];exact k⟩
instance{te:AE}{c:zy PV}:Wp (CK g tt te τ QL [] c) (QL c):=⟨id⟩
instance{te:AE}{c q:zy PV}:Wp (CK g tt te τ QL (x::q) c) (g x τ λd=>tt d λok=>if ok=true then te d λy=>CK g tt te τ QL q (c ++ [y]) else CK g tt te τ QL q c):=⟨id⟩
instance:Wp (Gj ta τ QL) (ta τ λx=>Oq x QL):=⟨id⟩
instance:Wp (NY (AB ta AL) τ QL) (ta τ λx=>WK x λj=>(-(2^62)<=j/\j<2^62)/\QL (rng 0 j.toNat)):=⟨λh=>by have e:(λx=>WK x λj=>(-(2^62)<=j/\j<2^62)/\QL (rng 0 j.toNat))=(λx=>match [x] with | [.int j] =>(-(2^62)<=j/\j<2^62)/\QL (rng 0 j.toNat)|_=>False):=(funext λx=>by cases x <;> rfl);rw[e] at h;exact h⟩
instance:Wp (iZ (AB ta (AB tb AL)) τ QL) (ta τ λx=>tb τ λy=>Oq x λxs=>Oq y λys=>QL (IN xs ys)):=⟨id⟩
instance{R:Int->Prop}{k:Int}:Wp (WK (.int k) R) (R k):=⟨id⟩
instance{R:km->Prop}{c:km}:Wp (eJ (.bl c) R) (R c):=⟨id⟩
instance:Wp (Oq (.tup xs) QL) (QL xs):=⟨id⟩
instance:Wp (Oq (.lst xs) QL) (QL xs):=⟨id⟩
instance{q:Rat}:Wp (Oq (fr q) QL) (QL [.int q.num, .int q.den]):=⟨id⟩
instance{cs:zy C4}:Wp (Oq (Bb cs) QL) (QL (cs.map cor)):=⟨id⟩
instance{f:Int->Int->PV}{k l:Int}:Wp (fI f (.int k) (.int l) Q) (Q (f k l)):=⟨id⟩
instance{C:Int->Int->Prop}{f:Int->Int->PV}{k l:Int}:Wp (mZ C f (.int k) (.int l) Q) (C k l/\Q (f k l)):=⟨id⟩
instance:Wp (II .non .non Q) (Q (.bl true)):=⟨id⟩
instance:Wp (QC .non .non Q) (Q (.bl false)):=⟨id⟩
instance:Wp (II (.tup xs) .non Q) (Q (.bl false)):=⟨id⟩
instance:Wp (QC (.tup xs) .non Q) (Q (.bl true)):=⟨id⟩
instance{k:T3}:Wp (II (DB k) .non Q) (Q (.bl false)):=⟨id⟩
instance{k:Int}[h:Ix x k z] :Wp (Am x (.int k) Q) (Q z):=⟨λq=>tH h.e q⟩
instance{k:Int}:Wp (Nj (.int k) Q) (Q (.int (-k))):=⟨id⟩
instance w_not {c:km}:Wp (jz (.bl c) Q) (Q (.bl (!c))):=⟨id⟩
instance{k l:Int}:Wp (BS (.int k) (.int l) Q) (Q (.int (k+l))):=⟨id⟩
instance:Wp (BS (.tup xs) (.tup ys) Q) (xs.length+ys.length<=sizeLine/\Q (.tup (xs++ys))):=⟨id⟩
instance (priority:=high)[h:Z9 xs ys zs]{n:Nat}[h2:e7 zs n] :Wp (BS (.tup xs) (.tup ys) Q) (n<=sizeLine/\Q (.tup zs)):=⟨λk=>⟨by have e:=h2.e;rw[<-h.e,AAg] at e;rw[e];exact k.1,by rw[h.e];exact k.2⟩⟩
instance:Wp (BS (.lst xs) (.lst ys) Q) (xs.length+ys.length<=sizeLine/\Q (.lst (xs++ys))):=⟨id⟩
instance{k l:Int}:Wp (Ln (.int k) (.int l) Q) (Q (.bl (decide (k=l)))):=⟨id⟩
instance{k l:Int}:Wp (Yy (.int k) (.int l) Q) (Q (.bl (!decide (k=l)))):=⟨id⟩
instance{k l:Rat}:Wp (Ln (fr k) (fr l) Q) (Q (.bl (decide (k=l)))):=⟨pM⟩
instance{k l:Rat}:Wp (Yy (fr k) (fr l) Q) (Q (.bl (!decide (k=l)))):=⟨pR⟩
instance:Wp (IJ [.lst xs] Q) (Q (.int xs.length)):=⟨id⟩
instance{c:zy Int}:Wp (IJ [.scr c] Q) (Q (.int c.length)):=⟨id⟩
instance (priority:=high){c:Type}{f:c->PV}{cs:zy c}:Wp (IJ [.tup (cs.map f)] Q) (Q (.int cs.length)):=⟨λh=>by show Q (.int (cs.map f).length);rw[AAI];exact h⟩
instance (priority:=high){c:Type}{f:c->PV}{cs:zy c}:Wp (IJ [.lst (cs.map f)] Q) (Q (.int cs.length)):=⟨λh=>by show Q (.int (cs.map f).length);rw[AAI];exact h⟩
instance{f:Int->Int->Int}{k l:Int}:Wp (j4 f [.int k, .int l] Q) (Q (.int (f k l))):=⟨id⟩
instance{c:km}:Wp (ay [.bl c] Q) (Q (.int (if c then 1 else 0))):=⟨id⟩
instance:Wp (Dm [.lst xs] Q) (Q (.tup xs)):=⟨id⟩
instance{lo hi:zt Int}:Wp (XW (.tup xs) lo hi Q) (Q (.tup (Gg xs lo hi))):=⟨Mh⟩
instance{lo hi:zt Int}:Wp (XW (.lst xs) lo hi Q) (Q (.lst (Gg xs lo hi))):=⟨EU⟩
instance{l h:AO}:Wp (Zs ta l h τ Q) (ta τ λx=>l τ λlo=>h τ λhi=>XW x lo hi Q):=⟨id⟩
instance{R:zt Int->Prop}:Wp (Zt τ R) (R none):=⟨id⟩
instance{R:zt Int->Prop}:Wp (Zu ta τ R) (ta τ λx=>WK x λi=>R (some i)):=⟨id⟩
instance{A B:Prop}:Wp (if true=true then A else B) (A):=⟨λh=>by rw[AAE rfl];exact h⟩
instance{A B:Prop}:Wp (if false=true then A else B) (B):=⟨λh=>by rw[AAD AAR];exact h⟩
instance{A B:Prop}:Wp (if (!true)=true then A else B) (B):=⟨λh=>h⟩
instance{A B:Prop}:Wp (if (!false)=true then A else B) (A):=⟨λh=>h⟩
instance{p A B:Prop}[Decidable p] :rE (if decide p=true then A else B) (p->A) (¬p->B):=⟨pP⟩
instance{p A B:Prop}[Decidable p] :rE (if (!decide p)=true then A else B) (¬p->A) (p->B):=⟨pQ⟩
instance{A:Prop}:Wp (([] :zy PV).length<=sizeLine/\A) (A):=⟨λh=>⟨lz,h⟩⟩
instance{A:Prop}:Wp (([] :zy PV).length<sizeLine/\A) (A):=⟨λh=>⟨lz,h⟩⟩
instance{c:PV}{A:Prop}:Wp ([c].length=1/\A) (A):=⟨λh=>⟨rfl,h⟩⟩
instance{c:PV}{A:Prop}:Wp ([c].length<=sizeLine/\A) (A):=⟨λh=>⟨lz,h⟩⟩
instance{c d:PV}{A:Prop}:Wp ([c,d].length=2/\A) (A):=⟨λh=>⟨rfl,h⟩⟩
instance{c d:PV}{A:Prop}:Wp ([c,d].length<=sizeLine/\A) (A):=⟨λh=>⟨lz,h⟩⟩
instance{c d:PV}{A:Prop}:Wp ([c,d].length<sizeLine/\A) (A):=⟨λh=>⟨lz,h⟩⟩
instance{c d e:PV}{A:Prop}:Wp ([c,d,e].length=3/\A) (A):=⟨λh=>⟨rfl,h⟩⟩
instance{c d e:PV}{A:Prop}:Wp ([c,d,e].length<=sizeLine/\A) (A):=⟨λh=>⟨lz,h⟩⟩
instance{c d e f:PV}{A:Prop}:Wp ([c,d,e,f].length=4/\A) (A):=⟨λh=>⟨rfl,h⟩⟩
instance{c d e f:PV}{A:Prop}:Wp ([c,d,e,f].length<=sizeLine/\A) (A):=⟨λh=>⟨lz,h⟩⟩
instance{c d e f k l:PV}{A:Prop}:Wp ([c,d,e,f,k,l].length<=sizeLine/\A) (A):=⟨λh=>⟨lz,h⟩⟩
instance:Wp (bg [] Q) (Q (.tup [])):=⟨λh=>⟨lz,h⟩⟩
instance{c:PV}:Wp (bg [c] Q) (Q (.tup [c])):=⟨λh=>⟨lz,h⟩⟩
instance{c d:PV}:Wp (bg [c,d] Q) (Q (.tup [c,d])):=⟨λh=>⟨lz,h⟩⟩
instance{c d e:PV}:Wp (bg [c,d,e] Q) (Q (.tup [c,d,e])):=⟨λh=>⟨lz,h⟩⟩
instance{c d e f:PV}:Wp (bg [c,d,e,f] Q) (Q (.tup [c,d,e,f])):=⟨λh=>⟨lz,h⟩⟩
instance (priority:=high+10):Wp (bg [.int 0, .int 1] Q) (Q (fr 0)):=⟨λh=>⟨lz,h⟩⟩
instance (priority:=high+10):Wp (bg [.int 1, .int 1] Q) (Q (fr 1)):=⟨λh=>⟨lz,h⟩⟩
instance (priority:=high){k:Int}:Wp (bg [.int k, .int 1] Q) (Q (fr (k:Rat))):=⟨λh=>⟨lz,SZ h⟩⟩
instance (priority:=high){k:Rat}{p q r:Rat}:Wp (BS (.tup [fr k]) (.tup [fr p,fr q,fr r]) Q) (Q (cor (k,p,q,r))):=⟨λh=>⟨lz,h⟩⟩
def j0:PV.tup [.int 1, .int 2] =fr (1/2):=by unfold fr;rw[show ((1:Rat)/2).num=1 by decide +kernel,show ((1:Rat)/2).den=2 by decide +kernel];rfl
instance (priority:=high):Wp (bg [.int 1, .int 2] Q) (Q (fr (1/2))):=⟨λh=>⟨lz,by rw[j0];exact h⟩⟩
def j3:PV.tup [.int 1, .int 3] =fr (1/3):=by unfold fr;rw[show ((1:Rat)/3).num=1 by decide +kernel,show ((1:Rat)/3).den=3 by decide +kernel];rfl
instance (priority:=high):Wp (bg [.int 1, .int 3] Q) (Q (fr (1/3))):=⟨λh=>⟨lz,by rw[j3];exact h⟩⟩
instance{k:Int}{A:Prop}:Wp (Xq (.int k)=true/\A) (A):=⟨λh=>⟨rfl,h⟩⟩
theorem UC {d:Type}{f:d->PV}(e:∀a,Xq (f a)=true):∀cs:zy d,UB (cs.map f)=true
 | [] =>rfl
 | c::cs=>by rw[AAK,UB,e,UC e cs];rfl
class Zp (xs ys:List PV) (zs:outParam (List PV)):Prop where
 e:IN xs ys=zs
instance:Zp [] [] [] :=⟨rfl⟩
instance[h:Zp xs ys zs] :Zp (x::xs) (y::ys) (.tup [x,y] :: zs):=⟨by rw[<-h.e];rfl⟩
instance[h:Zp xs ys zs] :Wp (DQ g b ⟨nx,rt,bk,ct⟩ (IN xs ys) τ) (DQ g b ⟨nx,rt,bk,ct⟩ zs τ):=⟨λk=>by rw[h.e];exact k⟩
instance{te:AE}{c:zy PV}[h:Zp xs ys zs] :Wp (CK g tt te τ QL (IN xs ys) c) (CK g tt te τ QL zs c):=⟨λk=>by rw[h.e];exact k⟩
instance{A:Prop}[h:Zp xs ys zs] :Wp ((IN xs ys).length<sizeLine/\A) (zs.length<sizeLine/\A):=⟨λk=>by rw[h.e];exact k⟩
instance (priority:=high){te:AE}{c q zs:zy PV}[h:Z9 c [y] zs] :Wp (CK g tt te τ QL q (c ++ [y])) (CK g tt te τ QL q zs):=⟨λk=>by rw[h.e];exact k⟩
instance{m:Int}:Uy (BB [.tape, .int m] Q) (0<m/\m<4611686018427387904) (∀r,0<=r->r<m->Q (.int r)):=⟨λc h=>C7 c.1 c.2 h⟩
instance{d:zy Int}{k:Int}:Uy (NR [.scr d, .int k] Q) (0<=k/\k<=1000) (Q .tape):=⟨λc h=>⟨c,h⟩⟩
instance{a b:Rat}:Uy (Kr [fr a,fr b] Q) (Bd 4000 a/\Bd 4000 b) (Q (fr (a+b))):=⟨λc h=>Ye c.1 c.2 h⟩
instance{a b:Rat}:Uy (EA [fr a,fr b] Q) (Bd 4000 a/\Bd 4000 b) (Q (fr (a-b))):=⟨λc h=>VE c.1 c.2 h⟩
instance{a b:Rat}:Uy (Jr [fr a,fr b] Q) (Bd 4000 a/\Bd 4000 b) (Q (fr (a*b))):=⟨λc h=>VG c.1 c.2 h⟩
instance{a b:Rat}:Uy (BN [fr a,fr b] Q) (Bd 4000 a/\Bd 4000 b) (Q (fr (a+b))):=⟨λc h=>DN c.1 c.2 h⟩
instance{a b:Rat}:Uy (BY [fr a,fr b] Q) (Bd 4000 a/\Bd 4000 b) (Q (fr (a-b))):=⟨λc h=>Ce c.1 c.2 h⟩
instance{a b:Rat}:Uy (Bw [fr a,fr b] Q) (Bd 4000 a/\Bd 4000 b) (Q (fr (a*b))):=⟨λc h=>Cj c.1 c.2 h⟩
instance{a b:Rat}:Uy (A1 [fr a,fr b] Q) (Bd 4000 a/\Bd 4000 b) (Q (.bl (decide (a<b)))):=⟨λc h=>E5 c.1 c.2 h⟩
instance{a b:Rat}:Uy (NQ [fr a,fr b] Q) (b≠0/\Bd 4000 a/\Bd 4000 b) (Q (fr (a/b))):=⟨λc h=>Yd c.1 c.2.1 c.2.2 h⟩
instance{a b:Rat}:Uy (C6 [fr a,fr b] Q) (b≠0/\Bd 4000 a/\Bd 4000 b) (Q (fr (a/b))):=⟨λc h=>Gb c.1 c.2.1 c.2.2 h⟩
instance:Uy (Cu [.tape] Q) (True) (∀a,Bd 8 a->0<a->Q (fr a)):=⟨λ_ h=>NO h⟩
instance:Uy (BD [.tape] Q) (True) (∀a,Bd 8 a->Q (fr a)):=⟨λ_ h=>A2 λa m=>h a (m.bd (by decide) (by decide))⟩
instance{lo:Int}{A:Prop}:Wp ((rng lo n).length<sizeLine/\A) (n<16777216/\A):=⟨λk=>⟨by rw[WR];exact k.1,k.2⟩⟩
instance{c:Type}{f:c->PV}{cs:zy c}{A:Prop}:Wp ((cs.map f).length<sizeLine/\A) (cs.length<16777216/\A):=⟨λk=>⟨by rw[AAI];exact k.1,k.2⟩⟩
instance (priority:=high){c:Type}{k:c}[Decidable (k=k)]{A B:Prop}:Wp (if decide (k=k)=true then A else B) A:=⟨λh=>by rw[AAE (AAo rfl)];exact h⟩
instance{cs:zy C4}{k:Int}:Uy (XW (Bb cs) (some k) none Q) (0<=k/\k<=cs.length) (Q (Bb (cs.drop k.toNat))):=⟨λc h=>YH (k:=k.toNat) (by omega) (by omega) h⟩
def oS {d:Type}{f:d->PV}{cs:zy d}{k:Int}{R:PV->Prop}(c:0<=k/\k<cs.length)(h:∀c,cs[k.toNat]? =some c->c∈cs->R (f c)):eM (Jc (cs.map f) k) R:=by
 have hk:k.toNat<cs.length:=by omega
 have e:Jc (cs.map f) ((k.toNat:Nat):Int)=some (f cs[k.toNat]):=Ck (by rw[AAp,AAT hk] <;> rfl);rw[show k=((k.toNat:Nat):Int) by omega,e];exact h _ (AAT hk) (ABa hk)
instance{d:Type}{f:d->PV}{cs:zy d}{k:Int}:Uy (Am (.lst (cs.map f)) (.int k) Q) (0<=k/\k<cs.length) (∀c,cs[k.toNat]? =some c->c∈cs->Q (f c)):=⟨λc h=>oS c h⟩
instance{c:C4}:Wp (XW (cor c) (some 1) none Q) (Q (.tup [fr c.2.1,fr c.2.2.1,fr c.2.2.2])):=⟨λh=>Mh h⟩
end
end PL
namespace L2
open PySem PySem.Spec PyProof.Rows
abbrev y1 (b:km)(h:kf)(l:zu):kf:=h.push (V1 b l)
abbrev y2 (b c:km)(h:kf)(l m:zu):kf:=(y1 b h l).push (V1 c m)
abbrev y3 (b c d:km)(h:kf)(l m n:zu):kf:=(y2 b c h l m).push (V1 d n)
abbrev y4 (b c d:km)(h:kf)(l m n:zu):kf:=(y3 b c d h l m n).push {cls:= .type "tuple",data:= .seq #[.ref h.objs.size, .ref (y1 b h l).objs.size, .ref (y2 b c h l m).objs.size] }
abbrev y5 (b c d:km)(h:kf)(l m n:zu):kf:=(y4 b c d h l m n).push {cls:= .type "tuple",data:= .seq #[.none, .none, .none] }
end L2
namespace PL
open PySem L2 PyProof.Rows
class aI (Ts:List String):Prop where
 q:Ts.any (ZC .tup)=true/\Ts.any (ZC .lst)=true/\Ts.any (ZC .int)=false/\Ts.any (ZC .bl)=false/\Ts.any (ZC .non)=false/\Ts.any (ZC .str)=false
instance:aI ["tuple","list"] :=⟨by decide⟩
instance:aI ["list","tuple"] :=⟨by decide⟩
end PL
namespace L2
open PySem PySem.Spec PyProof.Rows
section
variable {κ:Type}[DecidableEq κ]
def EV (kvs:zy (κ×V))(k:κ):zt V:=(kvs.find? λa=>decide (a.1=k)).map (·.2)
def D5 (kvs:zy (κ×V))(k:κ)(v:V):zy (κ×V):=
 if (kvs.any λa=>decide (a.1=k))=true then kvs.map (λa=>if a.1=k then (a.1,v) else a) else kvs ++ [(k,v)]
def He {p:κ×V}{r:zy (κ×V)}{k:κ}(e:p.1=k):EV (p::r) k=some p.2:=by simp[EV,ABf,e]
def Hd {p:κ×V}{r:zy (κ×V)}{k:κ}(e:¬p.1=k):EV (p::r) k=EV r k:=by simp[EV,ABf,e]
theorem Om (k:κ):∀kvs:zy (κ×V),(kvs.any λa=>decide (a.1=k))=(EV kvs k).isSome
 | [] =>rfl
 | p::r=>by
   rw[AA4];by_cases e:p.1=k
   .simp only[He e,AAo e,Bool.true_or,Option.isSome_some]
   .rw [Hd e,AAa e,Bool.false_or];exact Om k r
def EI (kvs:zy (κ×V))(k:κ)(v:V):(D5 kvs k v).length<=kvs.length+1:=by
 unfold D5;split
 .rw [AAI];omega
 .rw [AAg,AAc,AC8];omega
def ME.isSome_eq {o:zt V}{u:zt zx}(r:ME o u):o.isSome=u.isSome:=by
 cases o with
 | none=>cases u with
   | none=>rfl
   | some _=>exact(show False from r).elim
 | some _=>cases u with
   | none=>exact(show False from r).elim
   | some _=>rfl
def ME.getD {o:zt V}{u:zt zx}{d:V}{d':zx}(r:ME o u)(a:RelV d d'):RelV (o.getD d) (u.getD d'):=by
 cases o with
 | none=>cases u with
   | none=>exact a
   | some _=>exact(show False from r).elim
 | some _=>cases u with
   | none=>exact(show False from r).elim
   | some _=>exact r
def KV.val {kvs:zy (κ×V)}{vs:zy (κ×zx)}(r:KV kvs vs)(k:κ):ME (EV kvs k) (valueAt vs k):=by
 unfold KV at r;induction r with
 | nil=>exact True.intro
 | @cons p q c qs h t ih=>
   obtain⟨h1,h2⟩:=h;by_cases e:p.1=k
   .have a:q.1=k:=h1.symm.trans e;have b:valueAt (q::qs) k=some q.2:=by simp[valueAt,ABf,a]
    rw[He e,b];exact h2
   .have a:¬q.1=k:=λz=>e (h1.trans z);have b:valueAt (q::qs) k=valueAt qs k:=by simp[valueAt,ABf,a]
    rw[Hd e,b];exact ih
def KV.any {kvs:zy (κ×V)}{vs:zy (κ×zx)}(r:KV kvs vs)(k:κ):(kvs.any λa=>decide (a.1=k))=vs.any λa=>decide (a.1=k):=by
 unfold KV at r;induction r with
 | nil=>rfl
 | cons h t ih=>rw[AA4,AA4,ih,h.1]
def KV.repl {kvs:zy (κ×V)}{vs:zy (κ×zx)}(r:KV kvs vs)(k:κ){y:V}{u:zx}(b:RelV y u):KV (kvs.map λa=>if a.1=k then (a.1,y) else a) (vs.map λa=>if a.1=k then (a.1,u) else a):=by
 unfold KV at r ⊢;induction r with
 | nil=>exact .nil
 | @cons p q c qs h t ih=>
   rw[AAK,AAK];refine .cons ?_ ih;obtain⟨h1,h2⟩:=h;by_cases e:p.1=k
   .rw [AAE e,AAE (h1.symm.trans e)];exact⟨h1,b⟩
   .rw [AAD e,AAD (λz=>e (h1.trans z))];exact⟨h1,h2⟩
def KV.put {kvs:zy (κ×V)}{vs:zy (κ×zx)}(r:KV kvs vs)(k:κ){y:V}{u:zx}(a:RelV y u):KV (D5 kvs k y) (stored vs k u):=by
 unfold D5 stored;rw[r.any k];by_cases e:(vs.any λb=>decide (b.1=k))=true
 .rw [AAE e,AAE e];exact r.repl k a
 .rw [AAD e,AAD e];exact Paired.snoc r ⟨rfl,a⟩
def KV.keys {kvs:zy (κ×V)}{vs:zy (κ×zx)}(r:KV kvs vs):kvs.map (·.1)=vs.map (·.1):=by
 unfold KV at r;induction r with
 | nil=>rfl
 | cons h t ih=>rw[AAK,AAK,ih,h.1]
def KV.length {kvs:zy (κ×V)}{vs:zy (κ×zx)}(r:KV kvs vs):kvs.length=vs.length:=ABu r
end
def Tt {P:kj}{w:ki}{k:Cp}{u:zx}(r:RelV (kV k) u):(A7 P w).is k u=true:=by
 cases k with
 | inl i=>obtain⟨t,e⟩:=(show ∃t,u=Value.int i t from r);subst e;exact T8 P w i t
 | inr x=>obtain⟨t,e⟩:=(show ∃t,u=Value.str x t from r);subst e;exact T9 P w x t
theorem QJ {P:kj}{w:ki}:∀{a:zy Cp} {us:zy zx},Aq (a.map kV) us->ItemsAre (A7 P w) a us
 | [],_,r=>by rw[ABY] at r;cases r;exact .nil
 | k::a,_,r=>by
   rw[AAK] at r;cases r with
   | cons h t=>exact .cons (Tt h) (QJ t)
abbrev KT (H:Hp):zy (zy Cp×V)->zy (zy Cp×zu×zx)->Prop:=Paired λp q=>p.1=q.1/\H q.2.1=some (.tup (p.1.map kV))/\RelV p.2 q.2.2
def KT.val {H:Hp}{kvs:zy (zy Cp×V)}{xs:zy (zy Cp×zu×zx)}(r:KT H kvs xs)(k:zy Cp):ME (EV kvs k) ((atKey xs k).map (·.2)):=by
 induction r with
 | nil=>exact True.intro
 | @cons p q c qs h t ih=>
   obtain⟨h1,_,h2⟩:=h;by_cases e:p.1=k
   .have a:q.1=k:=h1.symm.trans e;have b:atKey (q::qs) k=some q.2:=by simp[atKey,ABf,a]
    rw[He e,b];exact h2
   .have a:¬q.1=k:=λz=>e (h1.trans z);have b:atKey (q::qs) k=atKey qs k:=by simp[atKey,ABf,a]
    rw[Hd e,b];exact ih
def KT.repl {H:Hp}{kvs:zy (zy Cp×V)}{xs:zy (zy Cp×zu×zx)}(r:KT H kvs xs)(k:zy Cp){y:V}{u:zx}(b:RelV y u):KT H (kvs.map λa=>if a.1=k then (a.1,y) else a) (xs.map (putAt k u)):=by
 induction r with
 | nil=>exact .nil
 | @cons p q d qs h t ih=>
   rw[AAK,AAK];refine .cons ?_ ih;obtain⟨h1,h2,c⟩:=h;unfold putAt;by_cases e:p.1=k
   .rw [AAE e,AAE (h1.symm.trans e)];exact⟨h1,h2,b⟩
   .rw [AAD e,AAD (λz=>e (h1.trans z))];exact⟨h1,h2,c⟩
def KT.put {H:Hp}{kvs:zy (zy Cp×V)}{xs:zy (zy Cp×zu×zx)}(r:KT H kvs xs)(k:zy Cp){b:zu}{y:V}{u:zx}(hb:H b=some (.tup (k.map kV)))(a:RelV y u):KT H (D5 kvs k y) (storedH xs k b u):=by
 have e:(kvs.any λc=>decide (c.1=k))=(atKey xs k).isSome:=by rw[Om,(r.val k).isSome_eq,ACT]
 unfold D5 storedH;rw[e];by_cases q:(atKey xs k).isSome=true
 .rw [AAE q,AAE q];exact r.repl k a
 .rw [AAD q,AAD q];exact Paired.snoc r ⟨rfl,hb,a⟩
def KT.keeps {H a:Hp}{kvs:zy (zy Cp×V)}{xs:zy (zy Cp×zu×zx)}(r:KT H kvs xs)(c:∀b ys,H b=some (.tup ys)->a b=some (.tup ys)):KT a kvs xs:=
 Paired.mapP r λ_ _ z=>⟨z.1,c _ _ z.2.1,z.2.2⟩
section
variable {P:kj}{w:ki}{H:Hp}{h:kf}{a:zu}
def jG {u:HO}(ok:Ij P w H h)(e:Rd H a u):CJ P w H h a u:=e.ok ok
def aa {kvs:zy (Cp×V)}(ok:Ij P w H h)(e:Rd H a (.dK kvs)):kvs.length<=sizeLine/\(a==sysModules)=false/\∃vs,KV kvs vs/\h.DictOf (A7 P w) a vs:=
 show CJ P w H h a (.dK kvs) from jG ok e
def XT {kvs:zy (Cp×V)}(ok:Ij P w H h)(e:H a=some (.dK kvs)):kvs.length<=sizeLine/\(a==sysModules)=false/\∃vs,KV kvs vs/\h.DictOf (A7 P w) a vs:=aa ok (.inl e)
def V4 {b:zy Cp}(ok:Ij P w H h)(e:H a=some (.tup (b.map kV))):(tupleKind (A7 P w)).is h b a:=by obtain⟨_,c,r,o,h1,h2,n,d⟩:=(show CJ P w H h a (.tup (b.map kV)) from ok a _ e);exact⟨o,c.toArray,n,h1,h2,d,by simpa using QJ r⟩
def af {kvs:zy (zy Cp×V)}(ok:Ij P w H h)(e:Rd H a (.dT kvs)):kvs.length<=sizeLine/\(a==sysModules)=false/\ ∃xs,KT H kvs xs/\h.DictOfH (tupleKind (A7 P w)) a xs:=by
 obtain⟨z,y,xs,r,o,es,ep,h1,h2,b,c,d⟩:=(show CJ P w H h a (.dT kvs) from jG ok e);refine⟨z,y,xs,r,o,es,ep,h1,h2,b,c,λx hx=> ?_,d⟩;have all:∀{l:zy (zy Cp×V)} {m:zy (zy Cp×zu×zx)},KT H l m->∀x∈m,(tupleKind (A7 P w)).is h x.1 x.2.1:=by
  intro l m q;induction q with
  | nil=>intro x hx;exact nomatch hx
  | @cons p q f qs hq t ih=>
    intro x hx;rcases AAF.mp hx with e|hx
    .subst e;exact V4 ok (by rw[<-hq.1];exact hq.2.1)
    .exact ih x hx
 exact all r x hx
def nW {kvs:zy (zy Cp×V)}(ok:Ij P w H h)(e:H a=some (.dT kvs)):kvs.length<=sizeLine/\(a==sysModules)=false/\ ∃xs,KT H kvs xs/\h.DictOfH (tupleKind (A7 P w)) a xs:=af ok (.inl e)
end
def U3 (H:Hp)(a:zu)(y:V)(r:zt V):Prop:=
 (∃kvs k,Rd H a (.dK kvs)/\y=kV k/\r=EV kvs k)\/∃kvs k b,Rd H a (.dT kvs)/\y= .ref b/\H b=some (.tup (k.map kV))/\r=EV kvs k
def U4 (H:Hp)(a:zu)(y v:V)(c:Hp):Prop:=
 (∃kvs k,H a=some (.dK kvs)/\y=kV k/\kvs.length<sizeLine/\c=upd H a (.dK (D5 kvs k v)))\/
 ∃kvs k b,H a=some (.dT kvs)/\y= .ref b/\H b=some (.tup (k.map kV))/\kvs.length<sizeLine/\c=upd H a (.dT (D5 kvs k v))
def U3.k {H:Hp}{a:zu}{kvs:zy (Cp×V)}{k:Cp}(e:H a=some (.dK kvs)):U3 H a (kV k) (EV kvs k):= .inl ⟨kvs,k, .inl e,rfl,rfl⟩
def U3.t {H:Hp}{a b:zu}{kvs:zy (zy Cp×V)}{k:zy Cp}(e:H a=some (.dT kvs))(c:H b=some (.tup (k.map kV))):U3 H a (.ref b) (EV kvs k):= .inr ⟨kvs,k,b, .inl e,rfl,c,rfl⟩
def U4.k {H:Hp}{a:zu}{kvs:zy (Cp×V)}{k:Cp}{v:V}(e:H a=some (.dK kvs))(hl:kvs.length<sizeLine):U4 H a (kV k) v (upd H a (.dK (D5 kvs k v))):= .inl ⟨kvs,k,e,rfl,hl,rfl⟩
def U4.t {H:Hp}{a b:zu}{kvs:zy (zy Cp×V)}{k:zy Cp}{v:V}(e:H a=some (.dT kvs))(c:H b=some (.tup (k.map kV)))(hl:kvs.length<sizeLine):U4 H a (.ref b) v (upd H a (.dT (D5 kvs k v))):= .inr ⟨kvs,k,b,e,rfl,c,hl,rfl⟩
section
variable {X:Cx}{kd:zy (zu×Obj)}{σ:St}{H:Hp}{s:zw}{a:zu}{y v:V}{u r:zx}{o:zt V}{A:ke}{E:zx->zw->Prop}
def Inv.big (I:Inv X kd σ H s):sysModules<s.heap.objs.size:=by have h:mainGlobals<s.heap.objs.size:=(I.mod.glob.keeps I.bk).lt;exact ACs (by decide) h
def Hj {h':kf}{t':Nat}{c:HO}(I:Inv X kd σ H s)(d:nM (H a))(hs:Heap.SameBut a s.heap h')(he:∃q,h'.get? a=some q)(new:CJ X.prog X.w (upd H a c) h' a c):Inv X kd σ (upd H a c) {s with heap:=h',toks:=t'}:=
 I.write (x:=a) (e:=a) d (.inl rfl) (λb q hb z=>(hs.2 b hb).trans z) he new
def Qz {P:kj}{w:ki}{c:Hp}{h':kf}{kvs:zy (Cp×V)}{vs:zy (Cp×zx)}(z:kvs.length<=sizeLine)(hd:(a==sysModules)=false)(b:KV kvs vs)(d:h'.DictOf (A7 P w) a vs):CJ P w c h' a (.dK kvs):=⟨z,hd,vs,b,d⟩
def Yu {n:Hp}{Q:Unit->zw->Prop}(hu:A.units+1<cLine)(I:Inv X kd σ H s)(g:U4 H a y v n)(p:RelV y u)(rv:RelV v r)(h:∀t,Inv X kd σ n t->Q () t):wpAny (model X.prog X.w) A (setItem (.ref a) u r) Q E s:=by
 rcases g with⟨kvs,k,e,i,l,j⟩|⟨kvs,k,b,e,i,x,l,j⟩
 .subst i j;obtain⟨z,hd,vs,d,m⟩:=XT I.hok e;have hz:vs.length<=sizeLine:=by rw[<-d.length];exact z
  have hl:(D5 kvs k v).length<=sizeLine:=by have:=EI kvs k v;omega
  refine wpAny_setItem_pairs (hsz:=hz) (Tt p) m λh' f hs=>h _ ?_;have he:∃q,h'.get? a=some q:=let ⟨q,_,_,hq,_⟩:=f;⟨q,hq⟩;exact Hj I (by rw[e];exact True.intro) hs he (Qz hl hd (d.put k rv) f)
 .subst i j;cases (show u=Value.ref b from p);obtain⟨z,hd,xs,d,m⟩:=nW I.hok e;have hz:xs.length<=sizeLine:=by rw[<-ABu d];exact z
  have hl:(D5 kvs k v).length<=sizeLine:=by have:=EI kvs k v;omega
  refine wpAny_setItem_heap (hsz:=hz) (tupleKind_room_in1 hu) (V4 I.hok x) m λh' f hs=>h _ ?_;obtain⟨q,es,ep,hq,h2,C,D,_,F⟩:=f;refine Hj I (by rw[e];exact True.intro) hs ⟨q,hq⟩ ⟨hl,hd,_,(d.put k x rv).keeps λc ys B=> ?_,q,es,ep,hq,h2,C,D,F⟩;rw[AZ (jA B e (λz=>nomatch z))];exact B
end
def ja (i:zr):Prop:=∀a b,subscripted i false a b=operate [a,b] (getItem a b)
def iK {prog:kj}{w:ki}{A:ke}{E:zx->zw->Prop}{s:zw}{env:Env}{value slice:zr}{j:Pos}{T id:String}{Q:zx->zw->Prop}(hl:typeLookup (.type T) "__getitem__" =pure (some (.builtin id)))(hs:ja slice)(h:wpAny (model prog w) A (eval value env) (λo c=>wpAny (model prog w) A (eval slice env) (λi a=>a.TypeIs o T/\wpAny (model prog w) A (getItem o i) Q E a) E c) E s):wpAny (model prog w) A (eval (.Subscript value slice j) env) Q E s:=by
 refine Subscript_ (AA7 h (λo c f=>AA7 f (λi a b=> ?_) λ_ _ x=>x) λ_ _ x=>x);obtain⟨k,b⟩:=b;unfold subscriptTail;refine AAA ?_;rw[getitemInPython_of_ne k.not_modules];refine AAA (ABi k hl ?_);have e:wpAny (model prog w) A (subscripted slice false o i) (λr d=>wpAny (model prog w) A (letTemporaryGo value o r >>= λ_=>pure r) Q E d) E a:=by rw[hs o i];exact wpAny_operating (AA7 b (λr d g=>AAA (wpAny_letTemporaryGo (AAC g))) λ_ _ x=>x)
 first
  | exact AAC (AAA e)
  | exact AAA (AAC (AAA e))
  | exact AAA e
def jH (d e f:TE):TS:=λD b H=>f b H λv H1=>d b H1 λx g=>e b g λy h=>∃a c,x= .ref a/\U4 h a y v c/\D.nx b c
section
variable {X:Cx}{o i e value:zr}{pos pos' tpos:Pos}{td ty tv:TE}
def gi (hu:X.A.units+1<cLine)(c:PE X o td)(hi:PE X i ty)(hv:PE X value tv)(hs:swapsWith value (some (.Subscript o i pos')) pos.line X.env=pure false):PS X (.Assign [.Subscript o i pos'] value pos) (jH td ty tv):=by intro kd s b H D I h;refine wpAny_Assign_Subscript (BK (hv kd s b H _ I h) λr d ⟨v,H1,f,rv,j⟩=>BK (c kd d b H1 _ f j) λu k ⟨x,l,m,n,p⟩=>BK (hi kd k b l _ m p) λE F ⟨y,G,t,w,a,z,ex,g,B⟩=> ?_) hs;subst ex;obtain rfl:u=Value.ref a:=n;exact Yu hu t g w rv λJ C=>⟨b,z,C,B⟩
end
def TL {P:kj}{w:ki}{H:Hp}(h:kf)(hb:sysModules<h.objs.size):CJ P w H (h.push {cls:= .type "dict",data:= .dict #[] }) h.objs.size (.dK []):=
 ⟨AAw _,ACg.mpr (AAd (AAL hb)), [], .nil,Heap.DictOf.new h⟩
def Ws:zy (TE×TE)->St->Hp->(zy (V×V)->Hp->Prop)->Prop
 | [],_,H,Q=>Q [] H
 | (tk,tv)::r,σ,H,Q=>tk σ H λx H1=>tv σ H1 λy a=>Ws r σ a λb c=>Q ((x,y)::b) c
abbrev VV:zy (V×V)->zy (zx×zx)->Prop:=Paired λp q=>RelV p.1 q.1/\RelV p.2 q.2
def qA (X:Cx)(a:Pos)(keys:zy (zt zr))(values:zy zr)(b:zy (TE×TE)):Prop:=
 ∀(kd:zy (zu×Obj)) (s:zw) (c:St) (H:Hp) (Q:zy (V×V)->Hp->Prop),Inv X kd c H s->Ws b c H Q->
  wpAny (model X.prog X.w) X.A (evalPairs (pairTrees keys values X.env a)) (λvs f=>∃d e,Inv X kd c e f/\VV d vs/\Q d e) X.xe s
def gg {X:Cx}{a:Pos}:qA X a [] [] [] :=λkd s b H Q I h=>pairTrees_nil_walk ⟨[],H,I, .nil,h⟩
def cV {X:Cx}{a:Pos}{k v:zr}{e:zy (zt zr)}{vs:zy zr}{f g:TE}{b:zy (TE×TE)}(hk:PE X k f)(hv:PE X v g)(i:qA X a e vs b):qA X a (some k::e) (v::vs) ((f,g)::b):=λkd s c H Q I h=>
 pairTrees_cons_walk (BK (hk kd s c H _ I h) λu j ⟨x,H1,l,m,n⟩=>BK (hv kd j c H1 _ l n) λD o ⟨y,p,r,t,w⟩=>
  BK (i kd o c p _ r w) λE F ⟨z,A,B,d,C⟩=>⟨(x,y)::z,A,B, .cons ⟨m,t⟩ d,C⟩)
def N7 (kvs more:zy (Cp×V)):zy (Cp×V):=more.foldl (λa b=>D5 a b.1 b.2) kvs
def KV.merge:∀{more:zy (Cp×V)} {a:zy (Cp×zx)} {kvs:zy (Cp×V)} {vs:zy (Cp×zx)},KV more a->KV kvs vs->KV (N7 kvs more) (merged vs a):=by
 intro more a kvs vs r;unfold KV at r;induction r generalizing kvs vs with
 | nil=>intro q;exact q
 | @cons p q c qs h t ih=>
   intro b;have e:KV (D5 kvs p.1 p.2) (stored vs q.1 q.2):=by have:=b.put p.1 h.2;rw[<-h.1];exact this
   exact ih e
theorem IV:∀(more kvs:zy (Cp×V)),(N7 kvs more).length<=kvs.length+more.length
 | [],kvs=>by show kvs.length<=kvs.length+0;omega
 | p::r,kvs=>by have h1:=IV r (D5 kvs p.1 p.2);have h2:=EI kvs p.1 p.2;show (N7 (D5 kvs p.1 p.2) r).length<=_;rw[AAc];omega
theorem Ng {P:kj}{w:ki}:∀{kvs:zy (Cp×V)} {e:zy (zx×zx)},VV (kvs.map λf=>(kV f.1,f.2)) e->∃d,Carries (A7 P w) e d/\KV kvs d
 | [],_,r=>by rw[ABY] at r;cases r;exact⟨[],True.intro, .nil⟩
 | p::kvs,_,r=>by
   rw[AAK] at r;cases r with
   | @cons a b as bs h t=> obtain⟨d,c,q⟩:=Ng (P:=P) (w:=w) t;obtain⟨g,b2⟩:=b;exact⟨(p.1,b2)::d,⟨Tt h.1,rfl,c⟩, .cons ⟨rfl,h.2⟩ q⟩
structure M1 (X:Cx) (o:Expr) (m:Str) (apos:Pos) (e:Expr) (cpos:Pos):Prop where
 base:attributeBase o m X.env (eval o X.env)=eval o X.env
 few:((backTo cpos (starEach [e] X.env)).all (λx=> !x.1)&&(backToKw cpos (keywordEach [] X.env)).all (λx=>x.1.isSome)
  && decide (([e] :List Expr).length+([] :List Keyword).length+(if ([] :List Keyword).isEmpty then 0 else 1)<30))=true
 line:(apos.endLine==cpos.line)=true
 trees:backTo cpos (starEach [e] X.env)= [(false,eval e X.env)]
structure M2 (X:Cx) (o:Expr) (m:Str) (apos:Pos) (e f:Expr) (cpos:Pos):Prop where
 base:attributeBase o m X.env (eval o X.env)=eval o X.env
 few:((backTo cpos (starEach [e,f] X.env)).all (λx=> !x.1)&&(backToKw cpos (keywordEach [] X.env)).all (λx=>x.1.isSome)
  && decide (([e,f] :List Expr).length+([] :List Keyword).length+(if ([] :List Keyword).isEmpty then 0 else 1)<30))=true
 line:(apos.endLine==cpos.line)=true
 trees:backTo cpos (starEach [e,f] X.env)= [(false,eval e X.env),(false,eval f X.env)]
def uj (H:Hp)(a:zu):Prop:=(∃kvs,Rd H a (.dK kvs))\/∃kvs,Rd H a (.dT kvs)
def bQ {X:Cx}{kd:zy (zu×Obj)}{g:St}{H:Hp}{s:zw}{a:zu}(I:Inv X kd g H s)(d:uj H a):s.TypeIs (.ref a) "dict" /\(∀b,Value.ref a= .ref b->∃c,s.heap.get? b=some c/\c.dict=none)/\(a==sysModules)=false:=by
 rcases d with⟨kvs,e⟩|⟨kvs,e⟩
 .obtain ⟨_,hd,vs,_,f⟩:=aa I.hok e;refine⟨f.typeIs,λb q=> ?_,hd⟩;cases q;obtain⟨c,_,_,h1,h2,_⟩:=f;exact⟨c,h1,h2.2.1⟩
 .obtain ⟨_,hd,xs,_,f⟩:=af I.hok e;refine⟨f.typeIs,λb q=> ?_,hd⟩;cases q;obtain⟨c,_,_,h1,h2,_⟩:=f;exact⟨c,h1,h2.2.1⟩
section
variable {X:Cx}{kd:zy (zu×Obj)}{σ:St}{H:Hp}{s:zw}{a:zu}{y d:V}{u r:zx}{o:zt V}{A:ke}{E:zx->zw->Prop}
def jv {Q:zx->zw->Prop}(hu:A.units+1<cLine)(I:Inv X kd σ H s)(g:U3 H a y o)(j:RelV y u)(m:RelV d r)(h:∀n p,Inv X kd σ H p->RelV (o.getD d) n->Q n p):wpAny (model X.prog X.w) A (call (.builtin "dict.get") [.ref a,u,r]) Q E s:=by
 rcases g with⟨kvs,k,e,i,l⟩|⟨kvs,k,b,e,i,t,l⟩
 .subst i;obtain⟨z,hd,vs,c,f⟩:=aa I.hok e;refine AC9 ACU f.typeIs ADi (ADj _ _ _) (meets_dict_get_default (A7 X.prog X.w) a (Tt j) hd r) ⟨_,f.mapOf,h _ _ (I.tok _) ?_⟩;rw[l];exact(c.val k).getD m
 .subst i;cases (show u=Value.ref b from j);obtain⟨z,hd,xs,c,f⟩:=af I.hok e;refine AC9 ACU f.typeIs ADi (ADj _ _ _) (meetsH_dict_get_default (tupleKind (A7 X.prog X.w)) a b hd r) ⟨tupleKind_room_in1 hu,k,xs,V4 I.hok t,f,h _ _ (I.tok _) ?_⟩;rw[l];exact(c.val k).getD m
end
def dh (d e f:TE):TE:=λb H Q=>d b H λx H1=>∃a,x= .ref a/\uj H1 a/\e b H1 λy g=>f b g λz c=>∃o,U3 c a y o/\Q (o.getD z) c
section
variable {X:Cx}{o e f:zr}{apos cpos:Pos}{td ty tx:TE}
def cI (hu:X.A.units+1<cLine)(j:PE X o td)(he:PE X e ty)(k:PE X f tx)(m:M2 X o "get" apos e f cpos):PE X (.Call (.Attribute o "get" apos) [e,f] [] cpos) (dh td ty tx):=by
 intro kd s b H Q I h;refine ADk m.base m.few m.line ADl ACU AD3 (BK (j kd s b H _ I h) λu l ⟨x,H1,i,n,a,ex,d,p⟩=> ?_);subst ex;obtain rfl:u=Value.ref a:=n;obtain⟨r,t,_⟩:=bQ i d;refine⟨r,t, ?_⟩;rw[m.trees];refine ACm rfl (ADZ (ABy (BK (he kd l b H1 _ i p) λL v ⟨y,w,B,C,D⟩=>
  ABy (BK (k kd v b w _ B D) λM N ⟨z,E,F,G,O,g,J⟩=>ACj ?_))))
 exact jv hu F g C G λP R K c=>⟨_,E,K,c,J⟩
end
abbrev KN (K:AAB)(H:Hp):zy (FK×V)->zy (FK×zu×zx)->Prop:=Paired λp q=>p.1=q.1/\F0 K H q.2.1 p.1/\RelV p.2 q.2.2
def KN.val {K:AAB}{H:Hp}{kvs:zy (FK×V)}{xs:zy (FK×zu×zx)}(r:KN K H kvs xs)(k:FK):ME (EV kvs k) ((atKey xs k).map (·.2)):=by
 induction r with
 | nil=>exact True.intro
 | @cons p q c qs h t ih=>
   obtain⟨h1,_,h2⟩:=h;by_cases e:p.1=k
   .have a:q.1=k:=h1.symm.trans e;have b:atKey (q::qs) k=some q.2:=by simp[atKey,ABf,a]
    rw[He e,b];exact h2
   .have a:¬q.1=k:=λz=>e (h1.trans z);have b:atKey (q::qs) k=atKey qs k:=by simp[atKey,ABf,a]
    rw[Hd e,b];exact ih
def KN.repl {K:AAB}{H:Hp}{kvs:zy (FK×V)}{xs:zy (FK×zu×zx)}(r:KN K H kvs xs)(k:FK){y:V}{u:zx}(b:RelV y u):KN K H (kvs.map λa=>if a.1=k then (a.1,y) else a) (xs.map (putAt k u)):=by
 induction r with
 | nil=>exact .nil
 | @cons p q d qs h t ih=>
   rw[AAK,AAK];refine .cons ?_ ih;obtain⟨h1,h2,c⟩:=h;unfold putAt;by_cases e:p.1=k
   .rw [AAE e,AAE (h1.symm.trans e)];exact⟨h1,h2,b⟩
   .rw [AAD e,AAD (λz=>e (h1.trans z))];exact⟨h1,h2,c⟩
def KN.put {K:AAB}{H:Hp}{kvs:zy (FK×V)}{xs:zy (FK×zu×zx)}(r:KN K H kvs xs)(k:FK){b:zu}{y:V}{u:zx}(hb:F0 K H b k)(a:RelV y u):KN K H (D5 kvs k y) (storedH xs k b u):=by
 have e:(kvs.any λc=>decide (c.1=k))=(atKey xs k).isSome:=by rw[Om,(r.val k).isSome_eq,ACT]
 unfold D5 storedH;rw[e];by_cases q:(atKey xs k).isSome=true
 .rw [AAE q,AAE q];exact r.repl k a
 .rw [AAD q,AAD q];exact Paired.snoc r ⟨rfl,hb,a⟩
def KN.keeps {K:AAB}{H a:Hp}{kvs:zy (FK×V)}{xs:zy (FK×zu×zx)}(r:KN K H kvs xs)(c:∀b ys,H b=some (.tup ys)->a b=some (.tup ys)):KN K a kvs xs:=
 Paired.mapP r λ_ _ z=>⟨z.1,z.2.1.stay c,z.2.2⟩
section
variable {P:kj}{w:ki}{H:Hp}{h:kf}{a:zu}{K:AAB}
def J7 {k:FK}(ok:Ij P w H h)(d:K.In h)(e:F0 K H a k):(fkKind P w).is h k a:=by
 obtain⟨b,h1,h2⟩:=e;obtain⟨_,j,r,o,l,m,n,p⟩:=(show CJ P w H h a (.tup [.ref b, .int k.2]) from ok a _ h1);cases r with
 | cons s r=>
 cases r with
 | cons f r=>
 cases r;cases s;obtain⟨u,rfl⟩:=f;have two:∀{us:zy zx},Aq [.int k.1.1, .int k.1.2] us->ItemsAre (intKind P w) [k.1.1,k.1.2] us:=λhv=>by
  cases hv with
  | cons t hv=>
  cases hv with
  | cons v hv=> cases hv;obtain⟨E,rfl⟩:=t;obtain⟨F,rfl⟩:=v;exact .cons (by simp[intKind,Value.isInt]) (.cons (by simp[intKind,Value.isInt]) .nil)
 refine⟨o,_,n,b,u,l,m,p,by simp, ?_⟩;rcases h2 with h2|⟨i,c,g,x,y,z,A⟩
 .obtain ⟨_,c,f,B,f1,C,g,D⟩:=(show CJ P w H h b (.tup [.int k.1.1, .int k.1.2]) from ok b _ h2);exact⟨B,c.toArray,g,f1,C,D,by simpa using two f⟩
 .exact ⟨i,c,g,d b i x,y,z,two A⟩
def P7 {kvs:zy (FK×V)}(ok:Ij P w H h)(b:K.In h)(e:H a=some (.dN K kvs)):kvs.length<=sizeLine/\(a==sysModules)=false/\∃xs,KN K H kvs xs/\h.DictOfH (fkKind P w) a xs:=by
 obtain⟨z,y,xs,r,o,es,ep,h1,h2,c,d,f⟩:=(show CJ P w H h a (.dN K kvs) from ok a _ e);refine⟨z,y,xs,r,o,es,ep,h1,h2,c,d,λx hx=> ?_,f⟩;have all:∀{l:zy (FK×V)} {m:zy (FK×zu×zx)},KN K H l m->∀x∈m,(fkKind P w).is h x.1 x.2.1:=by
  intro l m q;induction q with
  | nil=>intro x hx;exact nomatch hx
  | @cons p q g qs hq t ih=>
    intro x hx;rcases AAF.mp hx with e|hx
    .subst e;exact J7 ok b (by rw[<-hq.1];exact hq.2.1)
    .exact ih x hx
 exact all r x hx
end
section
variable {X:Cx}{kd:zy (zu×Obj)}{σ:St}{H:Hp}{s:zw}{a b:zu}{v d:V}{r:zx}{kvs:zy (FK×V)}{k:FK}{A:ke}{E:zx->zw->Prop}
def ZL {Q:zx->zw->Prop}(hu:A.units+2<cLine)(I:Inv X kd σ H s)(e:H a=some (.dN X.K kvs))(hb:F0 X.K H b k)(l:EV kvs k=some v)(h:∀c i,Inv X kd σ H i->RelV v c->Q c i):wpAny (model X.prog X.w) A (getItem (.ref a) (.ref b)) Q E s:=by obtain⟨z,hd,xs,f,j⟩:=P7 I.hok I.kIn e;obtain⟨c,hw,g⟩:=ME.some_of (v:=v) (o:=(atKey xs k).map (·.2)) (by rw[<-l];exact f.val k);obtain⟨p,hp,m⟩:=ABQ.mp hw;refine wpAny_getItem_heap (DU hu) (J7 I.hok I.kIn hb) j hp ?_;rw[m];exact h c _ (I.tok _) g
def sZ {Q:zx->zw->Prop}(hu:A.units+2<cLine)(I:Inv X kd σ H s)(e:H a=some (.dN X.K kvs))(hb:F0 X.K H b k)(h:∀f,Inv X kd σ H f->Q (.bool (EV kvs k).isSome) f):wpAny (model X.prog X.w) A (compareOp .In (.ref b) (.ref a)) Q E s:=by obtain⟨z,hd,xs,c,g⟩:=P7 I.hok I.kIn e;refine wpAny_in_heap (DU hu) (J7 I.hok I.kIn hb) hd g ?_;have q:=(c.val k).isSome_eq;rw[ACT] at q;rw[<-q];exact h _ (I.tok _)
def ZM {Q:Unit->zw->Prop}(hu:A.units+2<cLine)(I:Inv X kd σ H s)(e:H a=some (.dN X.K kvs))(hb:F0 X.K H b k)(hl:kvs.length<sizeLine)(rv:RelV v r)(h:∀i,Inv X kd σ (upd H a (.dN X.K (D5 kvs k v))) i->Q () i):wpAny (model X.prog X.w) A (setItem (.ref a) (.ref b) r) Q E s:=by
 obtain⟨z,hd,xs,f,l⟩:=P7 I.hok I.kIn e;have hz:xs.length<=sizeLine:=by rw[<-ABu f];exact z
 have hl:(D5 kvs k v).length<=sizeLine:=by have:=EI kvs k v;omega
 refine wpAny_setItem_heap (hsz:=hz) (DU hu) (J7 I.hok I.kIn hb) l λh' g hs=>h _ ?_;obtain⟨q,es,ep,hq,h2,m,n,_,o⟩:=g;refine Hj I (by rw[e];exact True.intro) hs ⟨q,hq⟩ ⟨hl,hd,_,(f.put k hb rv).keeps λc ys j=> ?_,q,es,ep,hq,h2,m,n,o⟩;rw[AZ (jA j e (λz=>nomatch z))];exact j
def kg {Q:zx->zw->Prop}(hu:A.units+2<cLine)(I:Inv X kd σ H s)(e:H a=some (.dN X.K kvs))(hb:F0 X.K H b k)(j:RelV d r)(h:∀f g,Inv X kd σ H g->RelV ((EV kvs k).getD d) f->Q f g):wpAny (model X.prog X.w) A (call (.builtin "dict.get") [.ref a, .ref b,r]) Q E s:=by obtain⟨z,hd,xs,c,i⟩:=P7 I.hok I.kIn e;refine AC9 ACU i.typeIs ADi (ADj _ _ _) (meetsH_dict_get_default (fkKind X.prog X.w) a b hd r) ⟨DU hu,k,xs,J7 I.hok I.kIn hb,i,h _ _ (I.tok _) ?_⟩;exact(c.val k).getD j
end
def jM (K:AAB):TE:=λ_ H Q=>∀p,H p=none->Q (.ref p) (upd H p (.dN K []))
def pc (K:AAB)(e f:TE):TE:=λd H Q=>e d H λx H1=>f d H1 λy c=>∃a b kvs k v,x= .ref a/\y= .ref b/\c a=some (.dN K kvs)/\F0 K c b k/\EV kvs k=some v/\Q v c
def ph (K:AAB)(e f:TE):TE:=λd H Q=>e d H λy H1=>f d H1 λx c=>∃a b kvs k,x= .ref a/\y= .ref b/\c a=some (.dN K kvs)/\F0 K c b k/\Q (.bl (EV kvs k).isSome) c
def c4 (K:AAB)(e f g:TE):TS:=λD c H=>g c H λv H1=>e c H1 λx h=>f c h λy d=>∃a b kvs k,x= .ref a/\y= .ref b/\d a=some (.dN K kvs)/\F0 K d b k/\kvs.length<sizeLine/\D.nx c (upd d a (.dN K (D5 kvs k v)))
def Wr (K:AAB)(e f g:TE):TE:=λc H Q=>e c H λx H1=>∃a kvs,x= .ref a/\H1 a=some (.dN K kvs)/\f c H1 λy h=>g c h λz d=>∃b kvs k,y= .ref b/\d a=some (.dN K kvs)/\F0 K d b k/\Q ((EV kvs k).getD z) d
section
variable {X:Cx}{o i e f value:zr}{pos pos' apos cpos:Pos}{td ty tv tx:TE}
def ab {P:kj}{w:ki}{H:Hp}{K:AAB}(h:kf)(hb:sysModules<h.objs.size):CJ P w H (h.push {cls:= .type "dict",data:= .dict #[] }) h.objs.size (.dN K []):=
 ⟨AAw _,ACg.mpr (AAd (AAL hb)), [], .nil,_, #[],0,AAS _ rfl,⟨rfl,rfl,rfl⟩,rfl,rfl,List.nodup_nil⟩
def gY:PE X (.Dict [] [] pos) (jM X.K):=λkd s b H Q I h=>
 wpAny_Dict_empty ⟨.ref s.heap.objs.size,_,I.laid (a:=s.heap.objs.size) (o:= .dN X.K []) (t':=s.toks) (λ_ _ q=>AAH _ q) (AAJ _) (ab s.heap I.big),rfl,h _ (I.hok.fresh (AAJ _))⟩
def ib {kd:zy (zu×Obj)}{g:St}{H:Hp}{s:zw}{a:zu}{kvs:zy (FK×V)}(I:Inv X kd g H s)(e:H a=some (.dN X.K kvs)):s.TypeIs (.ref a) "dict" /\(∀b,Value.ref a= .ref b->∃c,s.heap.get? b=some c/\c.dict=none):=by obtain⟨_,hd,xs,_,d⟩:=P7 I.hok I.kIn e;refine⟨d.typeIs,λb q=> ?_⟩;cases q;obtain⟨c,_,_,h1,h2,_⟩:=d;exact⟨c,h1,h2.2.1⟩
def gX (hu:X.A.units+2<cLine)(j:PE X o td)(hi:PE X i ty)(hs:ja i):PE X (.Subscript o i pos) (pc X.K td ty):=by intro kd s d H Q I h;refine iK PySem.F.slot_dict_getitem.lookup hs (BK (j kd s d H _ I h) λu m ⟨x,H1,n,p,r⟩=>BK (hi kd m d H1 _ n r) λt E ⟨y,w,g,z,a,b,kvs,k,v,ex,B,e,hb,l,C⟩=> ?_);subst ex B;obtain rfl:u=Value.ref a:=p;obtain rfl:t=Value.ref b:=z;exact⟨(ib g e).1,ZL hu g e hb l λG J D c=>⟨v,w,D,c,C⟩⟩
def lG (hu:X.A.units+2<cLine)(hi:PE X i ty)(d:PE X o td):PC X .In i o (ph X.K ty td):=by intro kd s c H Q I h;refine BK (hi kd s c H _ I h) λg j ⟨y,H1,l,m,n⟩=>BK (d kd j c H1 _ l n) λu B ⟨x,p,r,t,a,b,kvs,k,ex,v,e,hb,w⟩=> ?_;subst ex v;obtain rfl:u=Value.ref a:=t;obtain rfl:g=Value.ref b:=m;exact sZ hu r e hb λC z=>⟨.bl _,p,z,rfl,w⟩
def X0 (hu:X.A.units+2<cLine)(d:PE X o td)(hi:PE X i ty)(hv:PE X value tv)(hs:swapsWith value (some (.Subscript o i pos')) pos.line X.env=pure false):PS X (.Assign [.Subscript o i pos'] value pos) (c4 X.K td ty tv):=by intro kd s c H D I h;refine wpAny_Assign_Subscript (BK (hv kd s c H _ I h) λr g ⟨v,H1,j,rv,l⟩=>BK (d kd g c H1 _ j l) λu m ⟨x,n,p,t,w⟩=>BK (hi kd m c n _ p w) λz J ⟨y,L,B,C,a,b,kvs,k,ex,E,e,hb,hl,F⟩=> ?_) hs;subst ex E;obtain rfl:u=Value.ref a:=t;obtain rfl:z=Value.ref b:=C;exact ZM hu B e hb hl rv λM G=>⟨c,_,G,F⟩
def UW (hu:X.A.units+2<cLine)(l:PE X o td)(he:PE X e ty)(n:PE X f tx)(m:M2 X o "get" apos e f cpos):PE X (.Call (.Attribute o "get" apos) [e,f] [] cpos) (Wr X.K td ty tx):=by
 intro kd s c H Q I h;refine ADk m.base m.few m.line ADl ACU AD3 (BK (l kd s c H _ I h) λu p ⟨x,H1,g,r,a,j,ex,t,v⟩=> ?_);subst ex;obtain rfl:u=Value.ref a:=r;obtain⟨w,B⟩:=ib g t;refine⟨w,B, ?_⟩;rw[m.trees];refine ACm rfl (ADZ (ABy (BK (he kd p c H1 _ g v) λC D ⟨y,E,F,G,J⟩=>
  ABy (BK (n kd D c E _ F J) λS T ⟨z,L,M,N,b,kvs,k,O,e,hb,P⟩=>ACj ?_))))
 subst O;obtain rfl:C=Value.ref b:=G;exact kg hu M e hb N λU W R d=>⟨_,L,R,d,P⟩
end
end L2
namespace PySem
open Sem (wp)
def Kv (h:kf)(d:zu)(es:Array DictEntry)(ep:Nat):Prop:=∃o,h.get? d=some o/\o.ExactDict/\o.data= .dict es ep
section
variable {prog:kj}{w:ki}{A:ke}{E:zx->zw->Prop}{s:zw}{d it:zu}{es:Array DictEntry}{ep i:Nat}
def Kv.typeIs (x:Kv s.heap d es ep):s.TypeIs (.ref d) "dict" :=let ⟨o,a,hc,_⟩:=x;⟨o,a,hc.1⟩
def Kv.at {h h':kf}(x:Kv h d es ep)(e:∀o,h.get? d=some o->h'.get? d=some o):Kv h' d es ep:=let ⟨o,a,r⟩:=x;⟨o,e _ a,r⟩
def cr {Q:zx->zw->Prop}(hd:(d==sysModules)=false)(b:Kv s.heap d es ep)(hQ:Q (.ref s.heap.objs.size) {s with heap:=s.heap.push {cls:= .type "dict_keyiterator",data:= .fields #[.ref d, .int 0 0, .int es.size 0, .int ep 0] }}):wpAny (model prog w) A (pyIter (.ref d)) Q E s:=by have a:=b.typeIs;obtain⟨o,c,hc,e⟩:=b;refine wpAny_pyIter_slot a F.slot_dict_iter (AA6 F.slot_dict_iter a F.entry_dict_iter ?_ (F.args_dict_iter_1 _));unfold Builtin.«dict.__iter__»;refine AAA ?_;unfold Builtin.Dict.dictSlotNone;refine AAA (wpAny_notOrdered_dict a (AAC ?_));show wpAny _ _ (Builtin.Dict.showsAll d >>= _) _ _ s;unfold Builtin.Dict.showsAll;rw[AAD (by rw[hd];exact AAR)];refine AAA (AAC (AAA (ADm c e (AAA (ADn c e ?_)))));exact AAA (AAu (AAC ⟨_,rfl,"dict_keyiterator",_,⟨_,AAS _ rfl,rfl⟩,ACV.lookup,by simpa[rawInt] using hQ⟩))
def cu {Q:zt zx->zw->Prop}(a:s.heap.IsKeyIter it d i es.size ep)(h:Kv s.heap d es ep)(j:i<es.size)(hQ:∀h',h'.IsKeyIter it d (i+1) es.size ep->Heap.SameBut it s.heap h'->Q (some es[i].key) {s with heap:=h'}):wpAny (model prog w) A (pyNext (.ref it)) Q E s:=by
 have b:=a.typeIs;obtain⟨o,c,hc,hd⟩:=a;obtain⟨k,e,l,f⟩:=h;unfold pyNext;refine AAA (ACz (ABW (name:=Str.ofString "__next__") b ACV (AA6 ACV b AD4 ?_ (AD5 _))));refine AAA (AAC (AAA (AAA ?_)));refine AAA (ADA b (AAC (AAA (wpAny_fieldsOf c hd ?_))));simp only[show Builtin.Dict_items.ownsTuple "dict_keyiterator" =false by decide,AAn,AAZ];show wpAny _ _ (if (Value.ref d==Value.none)=true then _ else _) _ _ s;rw[AAD (show ¬((Value.ref d==Value.none)=true) from AAR)];refine AAA (AAC (AAA (ADm e f ?_)));rw[AAD (by simp)];refine AAA (AAC (AAA (ADn e f ?_)));rw[AAD (by simp)];refine AAC ?_;simp only[show ¬((i:Int)<0) from by omega,AAZ,ABz,AD6 j];refine AAA ?_;refine AAA (ADA b (AAC (AAA (wpAny_isOneOf_keyiter b ?_))));show wpAny _ _ (setField (.ref it) 1 (rawInt ((i:Int)+1)) >>= _) _ _ s;refine AAA (ACu c hd (by simp) ?_);have g:(s.heap.update it (Obj.mapFields (·.setIfInBounds 1 (rawInt ((i:Int)+1))))).IsKeyIter it d (i+1) es.size ep:=
  ⟨_,ABX _ c (Obj.isFreed_of_fields (ACw hd _)),(Obj.cls_mapFields ..).trans hc,by rw[ACw hd];simp[rawInt]⟩
 refine AAA (AAi (AAA (wpAny_isOneOf_keyiter (s:={s with heap:=s.heap.update it (Obj.mapFields (·.setIfInBounds 1 (rawInt ((i:Int)+1))))}) g.typeIs ?_)));show wpAny _ _ (pure es[i].key) _ _ _;exact AAC (AAC ⟨_,rfl,AAC (hQ _ g (ACv ..))⟩)
def gu {Q:zt zx->zw->Prop}(j:A.handled=none)(c:s.heap.IsKeyIter it d es.size es.size ep)(k:Kv s.heap d es ep)(hQ:∀h',Heap.ExtBut it s.heap h'->Q none {s with heap:=h'}):wpAny (model prog w) A (pyNext (.ref it)) Q E s:=by have e:=c.typeIs;obtain⟨o,f,hc,hd⟩:=c;obtain⟨l,g,n,h⟩:=k;unfold pyNext;refine AAA (ACz (ABW (name:=Str.ofString "__next__") e ACV (AA6 ACV e AD4 ?_ (AD5 _))));refine AAA (AAC (AAA (AAA ?_)));refine AAA (ADA e (AAC (AAA (wpAny_fieldsOf f hd ?_))));simp only[show Builtin.Dict_items.ownsTuple "dict_keyiterator" =false by decide,AAn,AAZ];show wpAny _ _ (if (Value.ref d==Value.none)=true then _ else _) _ _ s;rw[AAD (show ¬((Value.ref d==Value.none)=true) from AAR)];refine AAA (AAC (AAA (ADm g h ?_)));rw[AAD (by simp)];refine AAA (AAC (AAA (ADn g h ?_)));rw[AAD (by simp)];refine AAC ?_;simp only[show ¬((es.size:Int)<0) from by omega,AAZ,ABz,Array.getElem?_eq_none (AAJ es.size)];refine AAA ?_;refine AAA (ADA e (AAC ?_));show wpAny _ _ (setField (.ref it) 0 .none >>= _) _ _ s;refine AAA (ACu f hd (by simp) ?_);show wpAny _ _ (newExc (.type "StopIteration") [] >>= _) _ _ _;refine AAA ?_;simp only[newExc,newTuple];refine AAA (AAu ?_ (by size_fits));refine AAA (m:=firstArgMember _ _) (ACx (a:=Value.none) (by first | rfl|(simp only[firstArgMember];rfl)) (AAu ?_ (by size_fits)));simp only[raiseNew];refine AAA (wpAny_handled ?_);rw[show A.in1.handled=none from j];refine AAA (AAC (wpAny_throw ?_));refine AAA (ABt (T:="StopIteration") (b:=true) ⟨_,AAS _ rfl,rfl⟩ isSubtype_stop ?_);exact AAC (hQ _ (((ACv ..).extBut.push _).push _))
def Zn (c:A.handled=none)(f:d≠it):Walks prog w A it [it,d] [it] es.size (λi v=>∃e,es[i]? =some e/\v=e.key) (λi h=>h.IsKeyIter it d i es.size ep/\Kv h d es ep) where
 sub:=λb hb=>by simp at hb;simp[hb]
 frame:=λ_ _ _ st hk=>⟨st.1.at λo e=>hk it (by simp) o e,st.2.at λo e=>hk d (by simp) o e⟩
 item:=λi s Q E hi st hQ=>cu st.1 st.2 hi λh' g a=>
  hQ _ h' s.toks ⟨es[i],by simp[hi],rfl⟩ ⟨g,st.2.at λo e=>a.extBut d o f e⟩ λb o hb e=>a.extBut b o (λh=>hb (by simp[h])) e
 done:=λs Q E st hQ=>gu c st.1 st.2 λh' j=>hQ h' s.toks λb o hb e=>j b o (λh=>hb (by simp[h])) e
 self:=λ_ _ _ _ st hQ=>wpAny_pyIter_keyiter st.1 hQ
end
def cm {prog:kj}{w:ki}{A:ke}{E:zx->zw->Prop}{s:zw}{d:zu}{es:Array DictEntry}{ep:Nat}{Q:km->zw->Prop}(b:Kv s.heap d es ep)(h:Q false s):wpAny (model prog w) A (Builtin.List.listLengthHint (.ref d)) Q E s:=by
 have a:=b.typeIs;unfold Builtin.List.listLengthHint;refine AAA (ABi a F.slot_dict_len.lookup ?_);have hs:splitId "dict.__len__" =some ("dict","__len__"):=by decide +kernel
 simp only[hs];refine AAA (ABt a (by rw[isSubtype_type];kernel_rfl:isSubtype (.type "dict") (.type "dict")=pure true) ?_);simp only[ABJ,AAn,AAZ];rw[AAE (by decide +kernel)];refine AAA (ACJ a ?_);exact AAC h
section
variable {prog:kj}{w:ki}{A:ke}{s:zw}{R:Result->zw->Prop}{d:zu}{es:Array DictEntry}{ep:Nat}
def WQ (G:A.handled=none)(S:zu)(res:zx)(h:Nat)(hd:(d==sysModules)=false)(n:Kv s.heap d es ep)(H:es.size<=sizeLine)(p:d≠S)(x:s.heap.get? S=some {cls:= .type "list",data:= .seq #[] h})(I:∀h' J a l,(∀b o,b≠S->s.heap.get? b=some o->h'.get? b=some o)->h'.get? S=some {cls:= .type "list",dict:=none,data:= .seq a l,slots:= #[] }->ItemsOf (λi v=>∃e,es[i]? =some e/\v=e.key) a es.size->R (.ok (.ret res)) {s with heap:=h',toks:=J}):wpAny (model prog w) A.in1 (Builtin.List.listExtendWith (.ref S) (.ref d) res) (λr c=>match r with | .done f=>R (.ok f) c | .again l=>l.quiet=true/\codeAny (model prog w) A l R c) (λe c=>R (.error e) c) s:=by
 have K:=n.typeIs;unfold Builtin.List.listExtendWith;refine AAA (ACJ K ?_);have h1:Builtin.List.listSameRef (.ref S) (.ref d)=false:=by simp[Builtin.List.listSameRef,AAd p]
 have h2:(Value.type "dict" == Value.type "list")=false:=by decide
 have L:(Value.type "dict" == Value.type "tuple")=false:=by decide
 simp only[h1,h2,L,Bool.or_false,AAn,AAZ];refine AAA (cr hd n ?_);have M:d<s.heap.objs.size:=let ⟨o,N,_⟩:=n;AAG N;have O:S<s.heap.objs.size:=AAG x;have t:Kv (s.heap.push {cls:= .type "dict_keyiterator",data:= .fields #[.ref d, .int 0 0, .int es.size 0, .int ep 0] }) d es ep:=n.at λo e=>AAH _ e;refine AAA (AAi (cm (s:={s with heap:=s.heap.push {cls:= .type "dict_keyiterator",data:= .fields #[.ref d, .int 0 0, .int es.size 0, .int ep 0] }}) t ?_));generalize u:({cls:= .type "dict_keyiterator",data:= .fields #[.ref d, .int 0 0, .int es.size 0, .int ep 0] }:Obj)=io at t ⊢;have y:(s.heap.push io).get? S=some {cls:= .type "list",data:= .seq #[] h}:=AAH _ x;have P:(s.heap.push io).get? s.heap.objs.size=some io:=AAS _ (by rw[<-u];rfl);have z:S≠s.heap.objs.size:=AAL O;rw[AAE (by decide +kernel)];refine AAA (ABA (AAA ?_));show wpAny _ A.in1 (updateSeq S (·.push .none) >>= λ_=>updateSeq S (·.pop)) _ _ _;refine AAA (AB7 (s:={s with heap:=s.heap.push io}) y rfl ?_);have g:=ABX (Obj.mapSeq (·.push Value.none)) y rfl;refine AB7 (hz:=by seq_fits) g rfl ?_;have j:=ABX (Obj.mapSeq (·.pop)) g rfl;have k:∀b o,b≠S->(s.heap.push io).get? b=some o->(((s.heap.push io).update S (Obj.mapSeq (·.push Value.none))).update S (Obj.mapSeq (·.pop))).get? b=some o:=
  λb o hb e=>(ABI _ _ (AAd hb)).trans ((ABI _ _ (AAd hb)).trans e)
 have W:=(Zn (prog:=prog) (w:=w) (A:=A.in1) (d:=d) (it:=s.heap.objs.size) (es:=es) (ep:=ep) G (AAL M)).toS;refine AAC ⟨AB8 F.plain_extend_loop _,codeAny_extend_loopS W H S ?_ res es.size 0 _ _ _ rfl (AAw _) ⟨⟨io,k _ _ (AAd z) P,by rw[<-u],by rw[<-u];rfl⟩,t.at λo e=>k _ _ p e⟩ j (ItemsOf.nil _) λc a l Q T U=> ?_⟩
 .intro m;simp only[AAF,AAj,AAh] at m;rcases m with e|e
  .exact z e
  .exact p e.symm
 .obtain ⟨X,B,C,D,Y⟩:=Q;have e:c={s with heap:=c.heap,toks:=c.toks}:=by obtain⟨Z,a2,a3,a4,a5⟩:=c;simp only at B C D;subst B;subst C;subst D;rfl
  rw[e];refine I c.heap c.toks a l (λb o hb E=>X b o ?_ (k b o hb (AAH _ E))) T U;intro m;simp only[AAF,AAj,AAh] at m;rcases m with e|e
  .exact hb e
  .exact AAL (AAG E) e
end
section
variable {prog:kj}{w:ki}{A:ke}{E:zx->zw->Prop}{s:zw}{d:zu}{es:Array DictEntry}{ep:Nat}
def PF {Q:zx->zw->Prop}(r:A.handled=none)(hd:(d==sysModules)=false)(n:Kv s.heap d es ep)(t:es.size<=sizeLine)(hQ:∀h' k l,(∀b o,s.heap.get? b=some o->h'.get? b=some o)->h'.get? s.heap.objs.size=some {cls:= .type "list",dict:=none,data:= .seq (es.map (·.key)) l,slots:= #[] }->Q (.ref s.heap.objs.size) {s with heap:=h',toks:=k}):wpAny (model prog w) A (call (.type "list") [.ref d]) Q E s:=by
 have u:d<s.heap.objs.size:=let ⟨o,v,_⟩:=n;AAG v;refine callType_codes (Q₁:=λobj c=>obj= .ref s.heap.objs.size/\c={s with heap:=s.heap.push {cls:= .type "list",data:= .seq #[] }}) F.called_list (F.typeCall_list_1 _) F.entry_list_init (code_list_new _ ⟨rfl,rfl⟩) λobj c g=> ?_;obtain⟨rfl,rfl⟩:=g;have j:(s.heap.push {cls:= .type "list",data:= .seq #[] }).get? s.heap.objs.size=some {cls:= .type "list",data:= .seq #[] }:=AAS _ rfl;refine⟨⟨_,j,rfl⟩,F.args_list_init_2 _ _, ?_⟩;show wpAny _ A.in1.in1 (do let m <-Builtin.List.listItems (.ref s.heap.objs.size);Builtin.List.listUpdate (.ref s.heap.objs.size) (λ_=> #[]);letGo m.toList.reverse;Builtin.List.listExtendWith (.ref s.heap.objs.size) (.ref d) .none) _ _ _;refine AAA ?_;unfold Builtin.List.listItems;refine AAA (AAr j rfl (AAC ?_));refine AAA (AB7 j rfl ?_);have f:=ABX (Obj.mapSeq (λ_=>(#[] :Array zx))) j rfl;refine AAA (ABc ?_);have h:∀b o,s.heap.get? b=some o->((s.heap.push {cls:= .type "list",data:= .seq #[] }).update s.heap.objs.size (Obj.mapSeq (λ_=>(#[] :Array zx)))).get? b=some o:=λb o e=>by have hb:b≠s.heap.objs.size:=λz=>ABC _ (z ▸ AAG e);exact(ABI _ _ (AAd hb)).trans (AAH _ e)
 refine WQ (s:={s with heap:=(s.heap.push {cls:= .type "list",data:= .seq #[] }).update s.heap.objs.size (Obj.mapSeq (λ_=>(#[] :Array zx)))}) (d:=d) (es:=es) (ep:=ep) (A:=A.in1) r s.heap.objs.size .none _ hd (n.at λo e=>h d o e) t (AAL u) f ?_;intro h' k a l x y B;refine⟨rfl,hQ h' k l (λb o e=>x b o (λz=>ABC _ (z ▸ AAG e)) (h b o e)) ?_⟩;have C:a=es.map (·.key):=by
  obtain⟨h1,h2⟩:=B;refine Array.ext (by simp[h1]) λi hi hj=> ?_;obtain⟨e,p,D⟩:=h2 i _ (by simp[hi] :a[i]? =some a[i]);have G:i<es.size:=by simpa using hj
  rw[AD6 G] at p;cases p;rw[D];simp
 rw[<-C];exact y
end
end PySem
namespace L2
open PySem PySem.Spec PyProof.Rows
section
variable {X:Cx}
def lV (K:AAB):zy V->Hp->VK->Prop:=λxs H Q=>∃p kvs,xs= [.ref p] /\H p=some (.dN K kvs)/\∀l cs,H l=none->Paired (λ(q:FK×V) (c:zu)=>F0 K H c q.1) kvs cs->Q (.ref l) (upd H l (.lst (cs.map V.ref)))
def VU {k:Nat}(g:Room k X.A):Cr X (.type "list") (lV X.K):=by
 intro kd s B H xs us Q I r h;obtain⟨p,kvs,rfl,hp,q⟩:=h;obtain⟨u,rfl,i⟩:=vals1 r;cases i;obtain⟨z,hd,ys,b,o,es,ep,h1,h2,j,c,m,n⟩:=P7 I.hok I.kIn hp;have hl:ys.length=kvs.length:=(ABu b).symm;have d:es.size=ys.length:=by rw[<-ABT,c,AAI]
 refine PF (es:=es) (ep:=ep) g.hd hd ⟨o,h1,h2,j⟩ (by rw[d,hl];exact z) λh' v x y e=> ?_;have f:es.map (·.key)=((ys.map (·.2.1)).map Value.ref).toArray:=by apply Array.ext';rw[Array.toList_map,c];simp[entryOfKey]
 rw[f] at e;have hv:∀l:zy zu,Aq (l.map V.ref) (l.map Value.ref):=λl=>by
  induction l with
  | nil=>exact .nil
  | cons a l ih=>exact .cons rfl ih
 refine⟨.ref s.heap.objs.size,_,I.laid (t':=v) y (AAJ _) (show CJ X.prog X.w _ h' _ (.lst ((ys.map (·.2.1)).map V.ref)) from⟨by simp only[AAI];rw[hl];exact z,_,x,hv _,e⟩),rfl,q _ _ (I.hok.fresh (AAJ _)) ?_⟩;clear q e f c n m d hl z hp;induction b with
 | nil=>exact .nil
 | cons h t ih=>exact .cons h.2.1 ih
end
end L2
namespace PL
open PySem PySem.Spec PyProof.Rows L2
def V3 (k:FK):PV:= .tup [.tup [.int k.1.1, .int k.1.2], .int k.2]
def BJ (kvs:zy (FK×Int))(k:FK):zt Int:=(kvs.find? λp=>decide (p.1=k)).map (·.2)
def W1 (kvs:zy (FK×Int))(k:FK):EV (CF kvs) k=(BJ kvs k).map V.int:=by
 induction kvs with
 | nil=>rfl
 | cons p r ih=>
   by_cases e:p.1=k
   .simp [BJ,CF,EV,e]
   .simpa [BJ,CF,EV,e] using ih
section
variable {K:AAB}{T M:zu->Prop}{H:Hp}
def Mi {v:V}{t d:Int}(r:CM K T M H v (.tup [.int t, .int d])):∃b,v= .ref b/\aN K H b t d:=by
 obtain⟨a,vs,rfl,hq,c⟩:=dO r;cases c with
 | cons f c=>
 cases c with
 | cons g c=>
 cases c;cases f;cases g;refine⟨a,rfl, ?_⟩;rcases hq with h|⟨o,e,n,h1,h2,i,_,j⟩
 .exact .inl h
 .exact .inr ⟨o,e,n,h1,h2,i,j⟩
def cw {b:zu}{t d:Int}(h:aN K H b t d):CM K T M H (.ref b) (.tup [.int t, .int d]):=by
 refine .tup (vs:= [.int t, .int d]) ?_ (.cons (.int _) (.cons (.int _) .nil));rcases h with h|⟨o,a,n,h1,h2,e,c⟩
 .exact .inl h
 .refine .inr ⟨o,a,n,h1,h2,e, ?_,c⟩;have:=c.length;simp only[AAc,AC8,ABT] at this;rw[<-this];exact AAt rfl
def cv {c:zu}{k:FK}(h:F0 K H c k):CM K T M H (.ref c) (V3 k):=by obtain⟨b,h1,h2⟩:=h;exact .tup (.inl h1) (.cons (cw h2) (.cons (.int _) .nil))
end
section
variable {X:Cx}{a b d:zr}{pos p1:Pos}{ta tb td:AE}
def OH (x y:PV)(R:FK->Prop):Prop:=match x,y with | .tup [.int t, .int e], .int s=>R ((t,e),s)|_,_=>False
def UU {x y:PV}{R:FK->Prop}(h:OH x y R):∃t e s,x= .tup [.int t, .int e] /\y= .int s/\R ((t,e),s):=by
 unfold OH at h;split at h
 .exact ⟨_,_,_,rfl,rfl,h⟩
 .exact h.elim
def mj (m:PV)(R:zy (FK×Int)->Prop):Prop:=match m with | .dct kvs=>R kvs|_=>False
def b9 {m:PV}{R:zy (FK×Int)->Prop}(h:mj m R):∃kvs,m= .dct kvs/\R kvs:=by cases m <;> first | exact⟨_,rfl,h⟩|exact h.elim
def fB (ta tb td:AE):AE:=λτ Q=>ta τ λx=>tb τ λy=>td τ λm=>mj m λkvs=>OH x y λk=>Q (.bl (BJ kvs k).isSome)
def aR (td ta tb:AE):AE:=λτ Q=>td τ λm=>ta τ λx=>tb τ λy=>mj m λkvs=>OH x y λk=>match BJ kvs k with | some i=>Q (.int i)|none=>False
def Tv {K:AAB}{B:C5}{T:zu->Prop}{H:Hp}{f:L2.St}{τ:A5}{q:zu}{vs:zy V}(c:SR K B T H f τ)(hq:H q=none):DI T H T (upd H q (.tup vs))/\¬T q:=by refine⟨DI.lay c.tp hq,λz=> ?_⟩;obtain⟨o,e,_⟩:=(c.tp q z).mut;rw[hq] at e;cases e
def iA {r z A:TE}(D:Ge X.K r ta)(E:Ge X.K z tb)(F:Ge X.K A td):Ge X.K (ph X.K (iO (Ol r (Ol z iM))) A) (fB ta tb td):=by
 intro B T p τ H Q Y C h k;refine D B T p τ H _ _ C h λv x G H1 n I h1=> ?_;have f:=C.stp n;refine E B G p τ H1 _ _ f h1 λw y J Z g L h2=> ?_;have i:=f.stp g;refine⟨AAt rfl,λq hq=> ?_⟩;obtain⟨j,M⟩:=Tv (vs:= [v,w]) i hq;have o:=i.stp j;refine F B J p τ _ _ _ o h2 λu m N O l P R=> ?_;obtain⟨kvs,rfl,S⟩:=b9 R;obtain⟨t,e,s,rfl,rfl,U⟩:=UU S;have rv:=((I.stp g f.va).stp j i.va).stp l o.va;obtain⟨c,rfl,tn⟩:=Mi rv;cases L;cases P with
 | dct W _ _=> refine⟨_,q,_,((t,e),s),rfl,rfl,W,⟨c,l.keep _ _ M Aa,tn⟩, ?_⟩;rw[W1,ACT];exact k _ _ N O (((n.trans g).trans j).trans l) (.bl _) U
def mE {c:Nat}{k:Nat}(e:Room k X.A)(ha:SE X a ta)(hb:SE X b tb)(hd:SE X d td)(f:behindInMarks .In d=false:=by rfl)(g:starEach (a :: [b]) X.env=(false,eval a X.env)::starEach [b] X.env:=by rfl)(h:starEach [b] X.env=(false,eval b X.env)::starEach [] X.env:=by rfl):Sc X (.Compare (.Tuple [a,b] c p1) [.In] [d] pos) (Aw (fB ta tb td)):=by obtain⟨p,i,j⟩:=ha;obtain⟨r,l,m⟩:=hb;obtain⟨s,n,o⟩:=hd;exact⟨_,lQ (lG (by have:=e.un;omega) (OI (CS i (CS l FP h) g)) n) f,SL (iA j m o)⟩
def hI {C:Nat}{k:Nat}(E:Room k X.A)(hd:SE X d td)(ha:SE X a ta)(hb:SE X b tb)(hs:ja (.Tuple [a,b] C p1))(F:starEach (a :: [b]) X.env=(false,eval a X.env)::starEach [b] X.env:=by rfl)(G:starEach [b] X.env=(false,eval b X.env)::starEach [] X.env:=by rfl):SE X (.Subscript d (.Tuple [a,b] C p1) pos) (aR td ta tb):=by
 obtain⟨t1,I,J⟩:=ha;obtain⟨t2,K,L⟩:=hb;obtain⟨t3,M,N⟩:=hd;refine⟨_,gX (by have:=E.un;omega) M (OI (CS I (CS K FP G) F)) hs,λB T z τ H Q AQ D h k=> ?_⟩;refine N B T z τ H _ _ D h λu m O P p R h0=> ?_;have j:=D.stp p;refine J B O z τ P _ _ j h0 λv x S H1 l U h1=> ?_;have f:=j.stp l;refine L B S z τ H1 _ _ f h1 λw y W H2 g Y h2=> ?_;have n:=f.stp g;refine⟨AAt rfl,λq hq=> ?_⟩;obtain⟨o,nt⟩:=Tv (vs:= [v,w]) n hq;obtain⟨kvs,rfl,Z⟩:=b9 h2;obtain⟨t,e,s,rfl,rfl,r⟩:=UU Z;have rv:=(U.stp g f.va).stp o n.va;have r3:=((R.stp l j.va).stp g f.va).stp o n.va;obtain⟨c,rfl,tn⟩:=Mi rv;cases Y;cases ev:BJ kvs ((t,e),s) with
 | none=>rw[ev] at r;exact r.elim
 | some i=>
   rw[ev] at r;cases r3 with
   | dct hh _ _=> exact⟨_,q,_,((t,e),s), .int i,rfl,rfl,hh,⟨c,Aa,tn⟩,by rw[W1,ev];rfl,k _ _ W _ (((p.trans l).trans g).trans o) (.int _) r⟩
def VP (r:AA):AA:=λτ Q=>r τ λxs=>match xs with | [.dct kvs] =>Q (kvs.map λp=>V3 p.1)|_=>False
def dE {x:Str}{p pos:Pos}{e:zr}{es:zy zr}{r:AA}{k:Nat}(v:Room k X.A)(w:Gl X x)(y:X.mg x=none)(hv:bootBuiltins x=some (.type "list"))(ha:SA X (e::es) r)(z:x≠"__name__" :=by decide)(hdb:(x==("__debug__" :Str))=false:=by decide)(he:starEach (e::es) X.env=(false,eval e X.env)::starEach es X.env:=by rfl)(hpl:(backTo pos (starEach es X.env)).any (·.1)=false:=by rfl):SF X (.Call (.Name x p) (e::es) [] pos) (VP r):=by
 obtain⟨t,C,s⟩:=ha;refine⟨_,LI (VU v) w y hv C z hdb he hpl,λB T j τ H Q I m h k=>s B T j τ H _ _ m h λvs xs n H1 c D h1=> ?_⟩;have f:=m.stp c;split at h1 <;> first | exact h1.elim|skip
 rename_i kvs;cases D with
 | cons r t=>
   cases t;cases r with
   | dct o J nm=>
     refine⟨_,_,rfl,o,λl cs hl u=> ?_⟩;have E:Au X.K n (mt B j τ) H1 (cs.map V.ref) (kvs.map λp=>V3 p.1):=by
      clear h1 o;induction kvs generalizing cs with
      | nil=>cases u;exact .nil
      | cons q r ih=>
        cases u with
        | cons h t=>exact .cons (cv h) (ih _ t)
     obtain⟨F,g,i,G⟩:=Xl f hl E;exact k l _ _ n _ (c.trans F) g (c.none hl) Aa i G h1
end
def Pe (m:zy (FK×Int))(k:FK)(v:Int):zy (FK×Int):=if (m.any λp=>decide (p.1=k)) then m.map λp=>if p.1=k then (p.1,v) else p else m ++ [(k,v)]
def bump (m:zy (FK×Int))(k:FK)(d:Int):zy (FK×Int):=Pe m k ((BJ m k).getD 0+d)
def cZ (m:zy (FK×Int))(k:FK)(v:Int):D5 (CF m) k (.int v)=CF (Pe m k v):=by
 unfold D5 Pe;have e:((CF m).any λa=>decide (a.1=k))=(m.any λp=>decide (p.1=k)):=by unfold CF;rw[List.any_map];rfl
 rw[e];split
 .unfold CF;rw[AAe,AAe];apply AA9;intro p _;by_cases h:p.1=k <;> simp[h]
 .simp [CF]
def KI (m:zy (FK×Int))(k:FK)(v:Int):(Pe m k v).length<=m.length+1:=by unfold Pe;split <;> simp
def az (m:zy (FK×Int))(k:FK):(EV (CF m) k).getD (.int 0)= .int ((BJ m k).getD 0):=by rw[W1];cases BJ m k <;> rfl
def P9:PV->zt (zt (Int×Int))
 | .non=>some none
 | .tup [.int t, .int d] =>some (some (t,d))
 | _=>none
def i5:PV->zt Int
 | .int i=>some i
 | _=>none
def X9:zy PV->zt ((Int×Int)×Int×zt (Int×Int))
 | [b,h,e] =>(P9 b).bind λo=>o.bind λp=>(i5 h).bind λi=>(P9 e).map λq=>(p,i,q)
 | _=>none
def YA (x:PV):zt ((Int×Int)×Int×zt (Int×Int)):=
 match x with
 | .tup xs=>X9 xs
 | .lst xs=>X9 xs
 | _=>none
def GR (m:zy (FK×Int))(b:Int×Int)(h:Int)(e:zt (Int×Int)):zy (FK×Int):=
 match e with
 | none=>bump m (b,1-h) 1
 | some e=>bump (bump m (b,1-h) 1) (e,0) (-1)
def FZ:zy PV->zy (FK×Int)->zt (zy (FK×Int))
 | [],m=>some m
 | x::r,m=>match YA x with | some (b,h,e)=>FZ r (GR m b h e)|none=>none
def cf:R2:=λx y H Q=>y= .non/\Q (.bl (!decide (x= .non))) H
def Wn (K:AAB):TS:=
 Wt (Pm (iO (Ol (DS 2) (Ol (Zh (Pf λi j=> .int (i-j)) (tC (.int 1)) (DS 3)) iM))) (Bj 5))
  (Wt (c4 K (DS 1) (DS 5) (Zh (Pf λi j=> .int (i+j)) (Wr K (DS 1) (DS 5) (tC (.int 0))) (tC (.int 1))))
    (pY (dj (Zh cf (DS 4) (tC .non)))
      (Wt (Pm (iO (Ol (DS 4) (Ol (tC (.int 0)) iM))) (Bj 6))
        (c4 K (DS 1) (DS 6) (Zh (Pf λi j=> .int (i-j)) (Wr K (DS 1) (DS 6) (tC (.int 0))) (tC (.int 1))))) jN))
def mH (K:AAB):TS:=
 Wt (Pm (jM K) (Bj 1)) (Wt (mJ (oP K (DS 0)) (PM K 3 (DC (Bj 2) (DC (Bj 3) (DC (Bj 4) MI)))) (Wn K)) (di (DS 1)))
section
variable {K:AAB}{T M:zu->Prop}{H H':Hp}
def Gi.ext (va:Gi T M H)(ex:∀b o,H b=some o->H' b=some o):Mv K T M H T M H':=⟨va,λb o _ _ e=>ex b o e,λ_ t=>t,λ_ _ t=>t,λ_ _ m=>m⟩
def lY {v:V}{x:PV}{b:Int×Int}{h:Int}{e:zt (Int×Int)}(r:CM K T M H v x)(m:YA x=some (b,h,e)):∃a n f,v= .ref a/\(MF K H a [n, .int h,f] \/E8 K H a [n, .int h,f])/\CM K T M H n (.tup [.int b.1, .int b.2])/\((e=none/\f= .non)\/∃t d,e=some (t,d)/\CM K T M H f (.tup [.int t, .int d])):=by
 have g:∀{f:V} {ep:PV},CM K T M H f ep->P9 ep=some e->((e=none/\f= .non)\/∃t d,e=some (t,d)/\CM K T M H f (.tup [.int t, .int d])):=by
  intro f ep y he;unfold P9 at he;split at he
  .cases he;cases y;exact .inl ⟨rfl,rfl⟩
  .cases he;exact .inr ⟨_,_,rfl,y⟩
  .cases he
 have j:∀{xs:zy PV},X9 xs=some (b,h,e)->∃ep,xs= [.tup [.int b.1, .int b.2], .int h,ep] /\P9 ep=some e:=λ{xs} hx=>by
  unfold X9 at hx;split at hx
  .rename_i bp hp ep;obtain⟨o,k,hx⟩:=ADo.mp hx;obtain⟨p,z,hx⟩:=ADo.mp hx;obtain⟨i,l,hx⟩:=ADo.mp hx;obtain⟨q,A,hx⟩:=ABQ.mp hx;cases hx;subst z;unfold P9 at k;split at k
   .cases k
   .cases k;unfold i5 at l;split at l
    .cases l;exact⟨ep,rfl,A⟩
    .cases l
   .cases k
  .cases hx
 cases x with
 | tup xs=>
   obtain⟨ep,rfl,he⟩:=j m;obtain⟨a,vs,rfl,hq,c⟩:=Ex r;cases c with
   | cons s c=>
   cases c with
   | cons u c=>
   cases c with
   | cons w c=> cases c;cases u;exact⟨a,_,_,rfl, .inl hq,s,g w he⟩
 | lst xs=>
   obtain⟨ep,rfl,he⟩:=j m;obtain⟨a,vs,rfl,hq,_,_,c⟩:=DH r;cases c with
   | cons s c=>
   cases c with
   | cons u c=>
   cases c with
   | cons w c=> cases c;cases u;exact⟨a,_,_,rfl, .inr (.inl (.inl hq)),s,g w he⟩
 | _=>cases m
def Wq {D:MD}{p:zu}{P s u w A B:zt V}{f:Hp}{m:zy (FK×Int)}{v:V}{b:Int×Int}{h:Int}{e:zt (Int×Int)}{x:PV}(va:Gi T M H)(ex:∀b o,H b=some o->f b=some o)(Q:H p=none)(hp:f p=some (.dN K (CF m)))(hl:m.length+2<sizeLine)(r:CM K T M f v x)(U:YA x=some (b,h,e))(nx:∀s u w A B k,(∀b o,H b=some o->k b=some o)->k p=some (.dN K (CF (GR m b h e)))->D.nx [P,some (.ref p),s,u,w,A,B] k):PM K 3 (DC (Bj 2) (DC (Bj 3) (DC (Bj 4) MI))) v [P,some (.ref p),s,u,w,A,B] f λC k=>Wn K D C k:=by
 obtain⟨a,E,ve,rfl,hq,W,F⟩:=lY r U;refine⟨a,_,rfl,hq,rfl,_,_,rfl,_,_,rfl,_,_,rfl,rfl, ?_⟩;have Y:Gi T M H:=va;refine⟨E,rfl,_,rfl,_,_,rfl,rfl,AAt rfl,λq R=> ?_⟩;have g:∀b o,f b=some o->upd f q (.tup [E, .int (1-h)]) b=some o:=λb o e=>by rw[AZ (Ah e R)];exact e
 have G:upd f q (.tup [E, .int (1-h)]) p=some (.dN K (CF m)):=g _ _ hp;have qp:q≠p:=λz=>by subst z;rw[R] at hp;cases hp
 obtain⟨c,rfl,tn⟩:=Mi W;have I:aN K (upd f q (.tup [.ref c, .int (1-h)])) c b.1 b.2:=tn.elim (λz=> .inl (g _ _ z)) .inr;have S:F0 K (upd f q (.tup [.ref c, .int (1-h)])) q (b,1-h):=⟨c,Aa,I⟩;refine⟨_,rfl,p,_,rfl,G,_,rfl,q,_,(b,1-h),rfl,G,S,_,_,az m (b,1-h),rfl,_,rfl,_,rfl,p,q,_,(b,1-h),rfl,rfl,G,S,by rw[CF,AAI];omega, ?_⟩;rw[cZ];have Z:CF (Pe m (b,1-h) ((BJ m (b,1-h)).getD 0+1))=CF (bump m (b,1-h) 1):=rfl;rw[Z];have hb:∀o,f p=some o->True:=λ_ _=>trivial;have ext2:∀(X:HO) b o,H b=some o->upd (upd f q (.tup [.ref c, .int (1-h)])) p X b=some o:=λX b o e=>by rw[AZ (Ah e Q)];exact g _ _ (ex _ _ e)
 have bl:(bump m (b,1-h) 1).length<=m.length+1:=KI _ _ _;rcases F with⟨rfl,rfl⟩|⟨t,d,rfl,F⟩
 .refine ⟨_,rfl,rfl,false,rfl, ?_⟩;exact nx _ _ _ _ _ _ (ext2 _) Aa
 .obtain ⟨l,rfl,J⟩:=Mi F;refine⟨_,rfl,rfl,true,rfl, ?_⟩;refine⟨_,rfl,AAt rfl,λi L=> ?_⟩;have q2p:p≠i:=λz=>by subst z;rw[Aa] at L;cases L
  have j:∀(a:zu) o,upd (upd f q (.tup [.ref c, .int (1-h)])) p (.dN K (CF (bump m (b,1-h) 1))) a=some o->upd (upd (upd f q (.tup [.ref c, .int (1-h)])) p (.dN K (CF (bump m (b,1-h) 1)))) i (.tup [.ref l, .int 0]) a=some o:=λa o e=>by rw[AZ (Ah e L)];exact e
  have N:=j p _ Aa;have O:aN K (upd (upd (upd f q (.tup [.ref c, .int (1-h)])) p (.dN K (CF (bump m (b,1-h) 1)))) i (.tup [.ref l, .int 0])) l t d:=J.elim (λz=> .inl (j _ _ (by
   rw[AZ (λy=>by subst y;rw[hp] at z;cases z)];exact g _ _ z))) .inr
  have n:F0 K (upd (upd (upd f q (.tup [.ref c, .int (1-h)])) p (.dN K (CF (bump m (b,1-h) 1)))) i (.tup [.ref l, .int 0])) i ((t,d),0):=⟨l,Aa,O⟩;refine⟨_,rfl,p,_,rfl,N,_,rfl,i,_,((t,d),0),rfl,N,n,_,_,az _ ((t,d),0),rfl,_,rfl,_,rfl,p,i,_,((t,d),0),rfl,rfl,N,n,by rw[CF,AAI];omega, ?_⟩;rw[cZ];refine nx _ _ _ _ _ _ (λa o e=> ?_) Aa;rw[AZ (Ah e Q)];exact j _ _ (ext2 _ _ _ e)
def Lx {m:zy (FK×Int)}{b:Int×Int}{h:Int}{e:zt (Int×Int)}:(GR m b h e).length<=m.length+2:=by
 unfold GR;cases e with
 | none=>have:=KI m (b,1-h) ((BJ m (b,1-h)).getD 0+1);unfold bump;simp only;omega
 | some e=> have h1:=KI m (b,1-h) ((BJ m (b,1-h)).getD 0+1);have h2:=KI (bump m (b,1-h) 1) (e,0) ((BJ (bump m (b,1-h) 1) (e,0)).getD 0 + -1);unfold bump at *;simp only;omega
theorem X7:∀{vs:zy V} {ys:zy PV},Au K T M H vs ys->∀{i:Nat} {x:V},vs[i]? =some x->∃y,ys[i]? =some y/\CM K T M H x y
 | _,_, .nil,i,x,ev=>by simp at ev
 | _,_, .cons h t,0,x,ev=>by simp at ev;subst ev;exact⟨_,rfl,h⟩
 | _,_, .cons h t,i+1,x,ev=>by simpa using X7 t (i:=i) (by simpa using ev)
def Oi {D:MD}{J:It}{s:V}{p:zu}{ys:zy PV}{a:zy (FK×Int)}{H1:Hp}(va:Gi T M H)(C:H p=none)(go:∀H',(∀b o,H b=some o->H' b=some o)->∃vs,Au K T M H' vs ys/\(∀i,i<ys.length->J.go i H')/\(∀i,ys.length<=i->J.stop i H')/\∀i x d,J.yld i H' x d->d=H'/\vs[i]? =some x)(E:∀b o,H b=some o->H1 b=some o)(hp:H1 p=some (.dN K (CF [])))(hl:2*ys.length+2<sizeLine)(hs:FZ ys [] =some a)(t:∀f g j k l H',(∀b o,H b=some o->H' b=some o)->H' p=some (.dN K (CF a))->D.nx [some s,some (.ref p),f,g,j,k,l] H'):∃W:Nat->Nat->L2.St->Hp->Prop,(∃m,W 0 m [some s,some (.ref p),none,none,none,none,none] H1)/\∀i m n H,W i m n H-> (J.stop i H/\D.nx n H)\/(J.go i H/\∃N:L2.St->Hp->Prop,(∀σ' H',N σ' H'->∃z,z<m/\W (i+1) z σ' H')/\∀x H',J.yld i H x H'->PM K 3 (DC (Bj 2) (DC (Bj 3) (DC (Bj 4) MI))) x n H' λu d=>Wn K {D with nx:=N,ct:=N,bk:=D.nx} u d):=by
 let W:Nat->Nat->L2.St->Hp->Prop:=λi m n H'=>i+m=ys.length/\∃f g j k l r,n= [some s,some (.ref p),f,g,j,k,l] /\(∀b o,H b=some o->H' b=some o)/\H' p=some (.dN K (CF r))/\FZ (ys.drop i) r=some a/\r.length<=2*i;refine⟨W,⟨ys.length,ACW _,_,_,_,_,_, [],rfl,E,hp,hs,AAw _⟩, ?_⟩;rintro i m n H' ⟨hi,f,g,j,k,l,r,rfl,ex,A,c,S⟩;obtain⟨vs,F,G,I,L⟩:=go H' ex;cases m with
 | zero=> left;refine⟨I i (by omega),t _ _ _ _ _ _ ex ?_⟩;rw[ACN (by omega)] at c;cases c;exact A
 | succ m=>
   right;refine⟨G i (by omega),λσ' H'=>W (i+1) m σ' H',λσ' H' h=>⟨m,by omega,h⟩,λx d O=> ?_⟩;obtain⟨rfl,ev⟩:=L i x d O;have hy:ys[i]? =some ys[i] :=AAT (by omega);obtain⟨y,B,P⟩:=X7 F ev;rw[ABn (by omega:i<ys.length)] at c;have v:ys[i] =y:=by rw[hy] at B;exact AAY B
   rw[v] at c;unfold FZ at c;split at c
   .rename_i b h e Q;refine Wq (H:=H) (m:=r) (b:=b) (h:=h) (e:=e) (x:=y) va ex C A (by omega) P Q λf g j k l U w R=>⟨by omega,f,g,j,k,l,_,rfl,w,R,c, ?_⟩
    .have:=Lx (m:=r) (b:=b) (h:=h) (e:=e);omega
   .cases c
def Wo {D:MD}{l:V}{x:PV}{ys:zy PV}{f:zy (FK×Int)}(va:Gi T M H)(r:CM K T M H l x)(hx:x= .tup ys\/x= .lst ys)(hl:2*ys.length+2<sizeLine)(hs:FZ ys [] =some f)(m:∀p H',(∀b o,H b=some o->H' b=some o)->H p=none->H' p=some (.dN K (CF f))->D.rt (.ref p) H'):mH K D [some l,none,none,none,none,none,none] H:=by
 intro p hp;have k:∀b o,H b=some o->upd H p (.dN K []) b=some o:=λb o e=>by rw[AZ (Ah e hp)];exact e
 have last:∀n s t u v H',(∀b o,H b=some o->H' b=some o)->H' p=some (.dN K (CF f))->(di (DS 1)) D [some l,some (.ref p),n,s,t,u,v] H':=λn s t u v H' ex h=>⟨_,rfl,m p H' ex hp h⟩;rcases hx with rfl|rfl
 .obtain ⟨a,vs,rfl,hq,w⟩:=Ex (r.mv (va.ext k));refine⟨_,rfl,a,rfl, .inr ⟨⟨vs,hq⟩, ?_⟩⟩;refine Oi (D:={D with nx:=(di (DS 1)) D}) va hp (λH' ex=> ?_) k Aa hl hs last;obtain⟨y,c,e,g,d⟩:=Ex (r.mv (va.ext ex));cases e;refine⟨c,d,λi hi=>⟨c,c[i]'(by rw[d.length];exact hi),g,AAT _⟩,λi hi=>⟨c,g,by rw[d.length];exact hi⟩,λi x z j=>⟨j.1,j.2 c g⟩⟩
 .obtain ⟨a,vs,rfl,hq,_,_,w⟩:=DH (r.mv (va.ext k));refine⟨_,rfl,a,rfl, .inl ⟨⟨vs, .inl (.inl hq)⟩, ?_⟩⟩;refine Oi (D:={D with nx:=(di (DS 1)) D}) va hp (λH' ex=> ?_) k Aa hl hs last;obtain⟨y,c,e,g,_,_,d⟩:=DH (r.mv (va.ext ex));cases e;refine⟨c,d,λi hi=>⟨c,c[i]'(by rw[d.length];exact hi), .inl (.inl g),AAT _⟩,λi hi=>⟨c, .inl (.inl g),by rw[d.length];exact hi⟩,λi x z j=>⟨j.1,j.2 c (.inl (.inl g))⟩⟩
end
def Hh:AF:=λxs Q=>match xs with | [x] =>Oq x λys=>2*ys.length+2<sizeLine/\∃m,FZ ys [] =some m/\Q (.dct m)|_=>False
def VF {xs:zy PV}{Q:PV->Prop}(h:Hh xs Q):∃x ys m,xs= [x] /\(x= .tup ys\/x= .lst ys)/\2*ys.length+2<sizeLine/\FZ ys [] =some m/\Q (.dct m):=by
 unfold Hh at h;split at h
 .obtain ⟨ys,hx,hz,m,a,q⟩:=JB h;exact⟨_,ys,m,rfl,hx,hz,a,q⟩
 .exact h.elim
section
variable {K:AAB}{T M:zu->Prop}{H H':Hp}
def gy {k:Nat}{A:ke}(a:Room k A):A.units+2<cLine:=by have:=a.un;omega
def YM (va:Gi T M H)(ex:∀b o,H b=some o->H' b=some o):DI T H T H' where
 keep:=λb u _ e=>ex b u e
 sub:=λ_ t=>t
 new:=λ_ t=> .inl t
 tp:=λa t=>let ⟨d,x,e,q⟩:=va.tp a t;⟨d,x,ex _ _ e,q⟩
def gv {p:zu}{m:zy (FK×Int)}(va:Gi T M H)(a:H p=none)(hp:H' p=some (.dN K (CF m))):CM K T M H' (.ref p) (.dct m):=by
 refine .dct hp (λz=> ?_) (λz=> ?_)
 .obtain ⟨o,e,_⟩:=(va.tp p z).mut;rw[a] at e;cases e
 .obtain ⟨o,e,_⟩:=va.mu p z;rw[a] at e;cases e
end
end PL
namespace L2
open PySem PySem.Spec PyProof.Rows
section
variable {elt tg iter tg2 iter2:zr}{ifs ifs2:zy zr}{scope:Scope}{pos:Pos}{it acc:zx}{env:Env}
def Zl:compTurn (.ListComp elt [⟨tg,iter,ifs,0⟩,⟨tg2,iter2,ifs2,0⟩] scope pos) 0 it acc env=(do
 standAt iter.pos
 match <-pyNext it with
 | none=>pure (.done .next)
 | some v=>
   letOwnedTupleGo tg it v
   assign tg env v
   let mut ok:=true
   for c in ifs do
    if ok then ok <-isTrue c env (eval c env)
   if ok then
    let x <-eval iter2 env
    standAt iter2.pos
    let x <-foldedSetIterable iter2 env x;let _ <-runOwn (.compStart (.ListComp elt [⟨tg,iter,ifs,0⟩,⟨tg2,iter2,ifs2,0⟩] scope pos) 1 (<-holding [x] (pyIter x)) acc env) env
   again (.compLoop (.ListComp elt [⟨tg,iter,ifs,0⟩,⟨tg2,iter2,ifs2,0⟩] scope pos) 0 it acc env)):=by rfl
def Zm:compTurn (.ListComp elt [⟨tg,iter,ifs,0⟩,⟨tg2,iter2,ifs2,0⟩] scope pos) 1 it acc env=(do
 standAt iter2.pos
 match <-pyNext it with
 | none=>pure (.done .next)
 | some v=>
   letOwnedTupleGo tg2 it v
   assign tg2 env v
   let mut ok:=true
   for c in ifs2 do
    if ok then ok <-isTrue c env (eval c env)
   if ok then
    (do let _ <-call (.builtin "list.append") [acc,<-eval elt env])
   again (.compLoop (.ListComp elt [⟨tg,iter,ifs,0⟩,⟨tg2,iter2,ifs2,0⟩] scope pos) 1 it acc env)):=by rfl
variable {prog:kj}{w:ki}{A:ke}{R:Result->zw->Prop}{s:zw}
def Wk (h0:codeAny (model prog w) A (.compLoop (.ListComp elt [⟨tg,iter,ifs,0⟩,⟨tg2,iter2,ifs2,0⟩] scope pos) 1 it acc env) R s)(h:wpAny (model prog w) A (pyIter it) (λa b=>codeAny (model prog w) A (.compLoop (.ListComp elt [⟨tg,iter,ifs,0⟩,⟨tg2,iter2,ifs2,0⟩] scope pos) 1 a acc env) R b) (notedBy (model prog w) A env λx b=>R (.error x) b) s):codeAny (model prog w) A (.compStart (.ListComp elt [⟨tg,iter,ifs,0⟩,⟨tg2,iter2,ifs2,0⟩] scope pos) 1 it acc env) R s:=by
 refine codeAny_of_tree ?_;show wpAny _ _ ((compStart (.ListComp elt [⟨tg,iter,ifs,0⟩,⟨tg2,iter2,ifs2,0⟩] scope pos) 1 it acc env).onRaise (λx=>do noteFrame x env;standAt theWindowsPlace)) _ _ s;refine wpAny_notedAt ?_;unfold compStart;show wpAny _ _ (ask >>= _) _ _ s;refine AAA (wpAny_askSetting (wpAny_ite ?_));split
 .first
   | exact AAA (AAC (AAC (And.intro rfl h0)))
   | exact AAC (And.intro rfl h0)
 .first
   | exact AAA (ABA (AAA (AA1 (AAA (AA7 h (λa b h'=>AAC (And.intro rfl h')) λ_ _ x=>x)))))
   | (refine AAA (ABA ?_);show wpAny _ _ (standAt iter2.pos >>= _) _ _ s;exact AAA (AA1 (AAA (AA7 h (λa b h'=>AAC (And.intro rfl h')) λ_ _ x=>x))))
end
def MH (own:Nat)(a:St):St:=List.replicate own none++a.drop own
def Kz {own:Nat}{a:St}{j:Nat}{v:V}(h:(MH own a)[j]? =some (some v)):own<=j/\a[j]? =some (some v):=by
 unfold MH at h;by_cases hj:j<own
 .rw [ABM (by simpa using hj),ABV,AAE hj] at h;cases h
 .have Zz:own<=j:=by omega
  rw[ABD (by simpa using Zz),ABN,ACX] at h;rw[show own+(j-own)=j by omega] at h;exact⟨Zz,h⟩
def TJ {own:Nat}{a:St}(h:own<=a.length):(MH own a).length=a.length:=by simp[MH];omega
def Qv (J:It)(D:zu)(σ0:St)(g:TG)(j:TT)(c:TI)(own2:Nat)(k:TG)(d:TT)(te:TE)(Q:Hp->Prop)(W:Nat->Nat->Hp->Prop):Prop:=
 ∀i m H,W i m H->(J.stop i H/\Q H)\/(J.go i H/\∀x e,J.yld i H x e->g x σ0 e λa l=>j a l λok f=>
  if ok=true then c a f λn o=>∃h:Nat->Nat->Hp->Prop,(∃m2,h 0 m2 o)/\Nb n D (MH own2 a) k d te (λp=>∃b,b<m/\W (i+1) b p) h else ∃b,b<m/\W (i+1) b f)
def df (d:TI)(own:Nat)(ix:zy Nat)(g:TG)(e:TT)(a:TI)(own2:Nat)(f:TG)(b:TT)(te:TE):TE:=λc H Q=>d c H λJ H1=>∀D,H1 D=none->
 ∃W:Nat->Nat->Hp->Prop,(∃m,W 0 m (upd H1 D (.lst [])))/\Qv J D (Bq own ix c) g e a own2 f b te (Q (.ref D)) W
section
variable {X:Cx}{tg elt iter tg2 iter2:zr}{ifs ifs2:zy zr}{scope:Scope}{pos:Pos}{wi wi2:TI}{own own2:Nat}{ix:zy Nat}{N:zy Str}{g g2:TG}{tt tt2:TT}{te:TE}
structure MV (X:Cx) (tg elt:Expr) (ifs:List Expr) (tg2 iter2:Expr) (ifs2:List Expr) (scope:Scope) (own:Nat) (ix:List Nat) (N:List Str) (g:TG) (tt:TT) (wi2:TI) (own2:Nat) (g2:TG) (tt2:TT) (te:TE):Prop where
 kind:scope.kind= .function
 nocell:∀y∈scope.names,y.2≠ .cell
 names:∀y∈scope.names,y.2= .local->scope.names.lookup y.1=some .local
 frees:∀y∈scope.names,y.2= .free->X.env.scope.names.lookup y.1=some .cell
 ins:W8 X (relabel scope X.env) own ix N
 keep:IT own g
 keep2:IT own2 g2
 le2:own2<=own
 tgt:∀cl C s H ex pn,PG (blk X (relabel scope X.env) N cl C s H ex pn) tg g
 tst:∀cl C s H ex pn,Yf (blk X (relabel scope X.env) N cl C s H ex pn) ifs tt
 itr2:∀cl C s H ex pn,PI (blk X (relabel scope X.env) N cl C s H ex pn) tg2 iter2 wi2
 set2:∀cl C s H ex pn x,foldedSetIterable iter2 (blk X (relabel scope X.env) N cl C s H ex pn).env x=pure x
 tgt2:∀cl C s H ex pn,PG (blk X (relabel scope X.env) N cl C s H ex pn) tg2 g2
 tst2:∀cl C s H ex pn,Yf (blk X (relabel scope X.env) N cl C s H ex pn) ifs2 tt2
 val:∀cl C s H ex pn,PE (blk X (relabel scope X.env) N cl C s H ex pn) elt te
def fE {Y:Cx}{c0:Comprehension}{kd:zy (zu×Obj)}{σ0:St}{fp:zy zu}{it:zu}{tn:Nat->kf->Prop}{J:It}{D:zu}{R:Result->zw->Prop}{Qh:Hp->Prop}{W:Nat->Nat->Hp->Prop}(yU:∀it l,compTurn (.ListComp elt [c0,⟨tg2,iter2,ifs2,0⟩] scope pos) 1 it l Y.env=(do
   standAt iter2.pos
   match <-pyNext it with
   | none=>pure (.done .next)
   | some v=>
     letOwnedTupleGo tg2 it v
     assign tg2 Y.env v
     let mut ok:=true
     for c in ifs2 do
      if ok then ok <-isTrue c Y.env (eval c Y.env)
     if ok then
      (do let _ <-call (.builtin "list.append") [l,<-eval elt Y.env])
     again (.compLoop (.ListComp elt [c0,⟨tg2,iter2,ifs2,0⟩] scope pos) 1 it l Y.env)))(eX:Y.xe=λ_ _=>False)(eC:Y.calm=true)(hg:PG Y tg2 g2)(hk:IT own2 g2)(ht:Yf Y ifs2 tt2)(hv:PE Y elt te)(T:Il Y.prog Y.w Y.K tg2 J fp it tn)(xg:∀j v,σ0[j]? =some (some v)->own2<=j)(f:∀{a:Hp},(∀b∈fp,a b=none)->∀b∈fp,EQ Y kd a b)(hW:Nb J D σ0 g2 tt2 te Qh W)(hR:∀a G,Inv Y kd σ0 a G->Qh a->R (.ok .next) G)(n:Nat)(S:zw)(h0:∃i a,Inv Y kd σ0 a S/\tn i S.heap/\(∀b∈fp,a b=none)/\W i n a):
 codeAny (model Y.prog Y.w) Y.A (.compLoop (.ListComp elt [c0,⟨tg2,iter2,ifs2,0⟩] scope pos) 1 (.ref it) (.ref D) Y.env) R S:=by
 refine ACp rfl (λn G=>∃i a,Inv Y kd σ0 a G/\tn i G.heap/\(∀b∈fp,a b=none)/\W i n a) (λn U h1=> ?_) n h0;obtain⟨i,H1,B1,H,I,w1⟩:=h1;show wpAny _ _ ((compTurn (.ListComp elt [c0,⟨tg2,iter2,ifs2,0⟩] scope pos) 1 (.ref it) (.ref D) Y.env).onRaise (λx=>do noteFrame x Y.env;theTreesLotGoes x)) _ _ U;refine ACq ?_;rw[yU];have P:∀{α:Type} {t:Sem α} {Q:α->zw->Prop} {E:zx->zw->Prop} {s:zw},wpAny (model Y.prog Y.w) Y.A t Q Y.xe s->wpAny (model Y.prog Y.w) Y.A t Q E s:=λh=>AA7 h (λ_ _ q=>q) λ_ _ z=>by rw[eX] at z;exact z.elim
 refine AAA (AA1 (AAA ?_));rcases hW i n H1 w1 with⟨stop,qn⟩|⟨go,step⟩
 .refine BK (T.done Y rfl rfl rfl eC i kd U _ H1 _ B1 (f I) H stop) λr s4 ⟨Z,I4⟩=> ?_;subst Z;exact AAC (hR _ _ I4 qn)
 .refine BK (T.item Y rfl rfl rfl eC i kd U _ H1 _ B1 (f I) H go) λr s4 ⟨u,Z,h4⟩=> ?_;subst Z;refine AAA (BK h4 λ_ s5 ⟨x,H5,I5,r5,y5,p,fr5⟩=> ?_);have I5':=I5.pinned (f fr5) (T.obj _ _ p);refine AAA (BK (P (hg _ s5 _ H5 x u _ I5' r5 (hk _ _ _ _ (step x H5 y5)))) λ_ s6 ⟨k,H6,I6,q6,l6,k6⟩=> ?_);refine AAA (BK (P (ht _ s6 k H6 _ I6 q6)) λok s7 ⟨H7,I7,q7⟩=> ?_);have back:∀{B:Hp} {C:zw} {F:Nat},Inv Y (kd++FQ fp s5.heap) k B C->F<n->W (i+1) F B->
   ∃m,m<n/\∃i a,Inv Y kd σ0 a C/\tn i C.heap/\(∀b∈fp,a b=none)/\W i m a:=λ{B C F} L M O=>by
   refine⟨F,M,i+1,B,L.unpinned.weak l6.symm (λj v hj=> ?_),T.keep _ _ _ p λb hb o e=>(L.pin (b,o) (AAW _ (AAW _ (CD hb e)))).1,λb hb=> ?_,O⟩
   .rw [k6 j (xg j v hj)];exact hj
   .obtain ⟨o,e,d⟩:=T.obj _ _ p b hb;exact(L.pin (b,o) (AAW _ (AAW _ (CD hb e)))).2.1
  cases ok with
  | false=> obtain⟨F,M,O⟩:=q7;exact AAC ⟨rfl,back I7 M O⟩
  | true=> refine AAA (AAA (BK (P (hv _ s7 k H7 _ I7 q7)) λyv C ⟨y,B,L,r8,ys,hD,hz,F,M,O⟩=> ?_));refine AAA (BK (P (LB _ C k B (.ref D) [y] (.ref D) [yv] (λ_ H9=>H9=upd B D (.lst (ys ++ [y]))) L rfl (.cons r8 .nil) ⟨D,ys,y,rfl,rfl,hD,hz,rfl⟩)) λ_ s9 ⟨_,H9,I9,_,e9⟩=> ?_);subst e9;exact AAC (AAC ⟨rfl,back I9 M O⟩)
def VY {kd:zy (zu×Obj)}{G:St}{H:Hp}{s:zw}{fp:zy zu}{cl:zy (Str×zu)}{it:zu}{tn:Nat->kf->Prop}{J:It}{D:zu}{R:Result->zw->Prop}{Qh:Hp->Prop}{W:Nat->Nat->Hp->Prop}(hc:X.calm=true)(O:MV X tg elt ifs tg2 iter2 ifs2 scope own ix N g tt wi2 own2 g2 tt2 te)(T:Il X.prog X.w X.K tg J fp it tn)(I:Inv X kd G H s)(hf:∀b∈fp,EQ X kd H b)(Dt:∀b∈fp,b<s.heap.objs.size)(hW:Qv J D (Bq own ix G) g tt wi2 own2 g2 tt2 te Qh W)(hR:∀σ' a l,Inv (blk X (relabel scope X.env) N cl s.heap.objs.size s H fp (X.pn++kd)) [] σ' a l->Qh a->R (.ok .next) l)(n:Nat)(s0:zw)(h0:∃i a,Inv (blk X (relabel scope X.env) N cl s.heap.objs.size s H fp (X.pn++kd)) [] (Bq own ix G) a s0/\tn i s0.heap/\(∀b∈fp,a b=none)/\W i n a):codeAny (model X.prog X.w) X.A (.compLoop (.ListComp elt [⟨tg,iter,ifs,0⟩,⟨tg2,iter2,ifs2,0⟩] scope pos) 0 (.ref it) (.ref D) (FM X.env (relabel scope X.env) cl s.heap.objs.size)) R s0:=by
 refine ACp rfl (λn l=>∃i a,Inv (blk X (relabel scope X.env) N cl s.heap.objs.size s H fp (X.pn++kd)) [] (Bq own ix G) a l/\tn i l.heap/\(∀b∈fp,a b=none)/\W i n a) (λn s1 h1=> ?_) n h0;obtain⟨i,H1,B1,P,S,w1⟩:=h1;have F:own2<=(Bq own ix G).length:=by rw[P3];exact AAf O.le2 (ADp _ _)
 generalize k:blk X (relabel scope X.env) N cl s.heap.objs.size s H fp (X.pn++kd)=Y at *;have eA:Y.A=X.A:=by rw[<-k];rfl
 have U:Y.prog=X.prog:=by rw[<-k];rfl
 have Z:Y.w=X.w:=by rw[<-k];rfl
 have eK:Y.K=X.K:=by rw[<-k];rfl
 have eE:FM X.env (relabel scope X.env) cl s.heap.objs.size=Y.env:=by rw[<-k];rfl
 have eX:Y.xe=λ_ _=>False:=by rw[<-k];rfl
 have eC:Y.calm=true:=by rw[<-k];exact hc
 have hg:PG Y tg g:=by rw[<-k];exact O.tgt _ _ _ _ _ _
 have ht:Yf Y ifs tt:=by rw[<-k];exact O.tst _ _ _ _ _ _
 have rm:PI Y tg2 iter2 wi2:=by rw[<-k];exact O.itr2 _ _ _ _ _ _
 have Y8:∀x,foldedSetIterable iter2 Y.env x=pure x:=by rw[<-k];exact O.set2 _ _ _ _ _ _
 have rj:PG Y tg2 g2:=by rw[<-k];exact O.tgt2 _ _ _ _ _ _
 have sK:Yf Y ifs2 tt2:=by rw[<-k];exact O.tst2 _ _ _ _ _ _
 have hv:PE Y elt te:=by rw[<-k];exact O.val _ _ _ _ _ _
 have y:∀{a:Hp},(∀b∈fp,a b=none)->∀b∈fp,EQ Y [] a b:=λ{a} hn b hb=>by
  obtain⟨_,a1,a2,a3,a4,a5⟩:=hf b hb;refine⟨hn b hb, ?_, ?_, ?_, ?_, ?_⟩
  .rw [<-k];exact AAL (Dt b hb)
  .rw [<-k];exact I.notStk a1 a2
  .rw [<-k];exact .inl hb
  .intro x c e;exact(B1.ok.exf b (by rw[<-k];exact hb)).2 x c e
  .intro p hp;have:p∈X.pn++kd:=by rw[<-k] at hp;simpa[blk] using hp
   exact a5 p this
 rw[eE,<-eA,<-U,<-Z];show wpAny _ _ ((compTurn (.ListComp elt [⟨tg,iter,ifs,0⟩,⟨tg2,iter2,ifs2,0⟩] scope pos) 0 (.ref it) (.ref D) Y.env).onRaise (λx=>do noteFrame x Y.env;theTreesLotGoes x)) _ _ s1;refine ACq ?_;rw[Zl];have ff:∀{α:Type} {t:Sem α} {Q:α->zw->Prop} {E:zx->zw->Prop} {s:zw},wpAny (model Y.prog Y.w) Y.A t Q Y.xe s->wpAny (model Y.prog Y.w) Y.A t Q E s:=λh=>AA7 h (λ_ _ q=>q) λ_ _ z=>by rw[eX] at z;exact z.elim
 refine AAA (AA1 (AAA ?_));rcases hW i n H1 w1 with⟨stop,qn⟩|⟨go,step⟩
 .have zd:=λE=>T.done Y U Z eK eC i [] s1 _ H1 E B1 (y S) P stop;rw[<-U,<-Z] at zd;refine BK (zd _) λr s4 ⟨hr,I4⟩=> ?_;subst hr;exact AAC (hR _ _ _ I4 qn)
 .have zi:=λE=>T.item Y U Z eK eC i [] s1 _ H1 E B1 (y S) P go;rw[<-U,<-Z] at zi;refine BK (zi _) λr s4 ⟨u,hr,h4⟩=> ?_;subst hr;refine AAA (BK h4 λ_ s5 ⟨x,H5,I5,r5,y5,L,fr5⟩=> ?_);have I5':=I5.pinned (y fr5) (T.obj _ _ L);refine AAA (BK (ff (hg _ s5 _ H5 x u _ I5' r5 (O.keep _ _ _ _ (step x H5 y5)))) λ_ s6 ⟨B,H6,I6,q6,l6,k6⟩=> ?_);refine AAA (BK (ff (ht _ s6 B H6 _ I6 q6)) λok s7 ⟨H7,I7,q7⟩=> ?_);have back:∀{C:St} {H8:Hp} {s8:zw} {M:Nat},Inv Y ([] ++ FQ fp s5.heap) C H8 s8->C.length=B.length->(∀j v,own<=j->B[j]? =some (some v)->C[j]? =some (some v))->M<n->W (i+1) M H8->
   ∃m,m<n/\∃i a,Inv Y [] (Bq own ix G) a s8/\tn i s8.heap/\(∀b∈fp,a b=none)/\W i m a:=λ{C H8 s8 M} I8 hl yT hm w8=>by
   refine⟨M,hm,i+1,H8,I8.unpinned.weak (hl.trans l6).symm (λj v hj=> ?_),T.keep _ _ _ L λb hb o e=>(I8.pin (b,o) (AAW _ (AAW _ (CD hb e)))).1,λb hb=> ?_,w8⟩
   .have u8:=(F3 hj).1;exact yT j v u8 (by rw[k6 j u8];exact hj)
   .obtain ⟨o,e,d⟩:=T.obj _ _ L b hb;exact(I8.pin (b,o) (AAW _ (AAW _ (CD hb e)))).2.1
  cases ok with
  | false=> obtain⟨M,hm,w8⟩:=q7;exact AAC ⟨rfl,back I7 rfl (λ_ _ _ z=>z) hm w8⟩
  | true=>
    rw[AAE rfl] at q7;refine AAA (BK (ff (rm _ s7 B H7 _ I7 q7)) λv2 s8 fg=> ?_);refine AAA (AA1 (AAA (ACx (Y8 v2) (AAA (AAi (BK (ff fg) λitv s9 yW=> ?_))))));obtain⟨it2,fp2,tn2,J2,H9,rfl,I9,T2,st9,f9,W2,⟨m2,w2⟩,xo⟩:=yW;have I9':Inv Y ([] ++ FQ fp s5.heap) (MH own2 B) H9 s9:=I9.weak (TJ (by rw[l6];exact F)) (λj v hj=>(Kz hj).2);have loop:codeAny (model Y.prog Y.w) Y.A (.compLoop (.ListComp elt [⟨tg,iter,ifs,0⟩,⟨tg2,iter2,ifs2,0⟩] scope pos) 1 (.ref it2) (.ref D) Y.env) (λr l=>match r with | .ok f=>∃m,m<n/\∃i a,Inv Y [] (Bq own ix G) a l/\tn i l.heap/\(∀b∈fp,a b=none)/\W i m a | .error e=>cameBackBy (model Y.prog Y.w) Y.A Y.env (notedBy (model Y.prog Y.w) Y.A Y.env λx l=>R (.error x) l) e l) s9:=by refine fE (own2:=own2) (kd:= [] ++ FQ fp s5.heap) (λ_ _=>Zm) eX eC rj O.keep2 sK hv T2 (λj v hj=>(Kz hj).1) (λhn b hb=>⟨hn b hb,(f9 b hb).2⟩) xo (λa l I' q'=> ?_) m2 s9 ⟨0,H9,I9',st9,λb hb=>(f9 b hb).1,w2⟩;obtain⟨M,hm,w8⟩:=q';refine back I' (TJ (by rw[l6];exact F)) (λj v hj e=> ?_) hm w8;have xj:own2<=j:=AAf O.le2 hj;unfold MH;rw[ABD (by simpa using xj),ABN,ACX,show own2+(j-own2)=j by omega];exact e
    refine AAA (wpAny_runOwn (h:=none) (Wk ?_ ?_))
    .exact ACG loop (λr l h'=>by
      cases r with
      | ok f=>exact AAC ⟨rfl,h'⟩
      | error e=>exact h')
    .exact T2.self _ 0 _ _ _ st9 (ACG loop (λr l h'=>by
      cases r with
      | ok f=>exact AAC ⟨rfl,h'⟩
      | error e=>exact h'))
def Yt {kd:zy (zu×Obj)}{t:St}{H:Hp}{s:zw}{use:zt (zx->Sem Unit)}{Q:zx->zw->Prop}{it:zu}{fp:zy zu}{cl:zy (Str×zu)}{tn:Nat->kf->Prop}{J:It}{Qd:zu->Hp->Prop}(hc:X.calm=true)(O:MV X tg elt ifs tg2 iter2 ifs2 scope own ix N g tt wi2 own2 g2 tt2 te)(T:Il X.prog X.w X.K tg J fp it tn)(I:Inv X kd t H s)(M:∀b∈fp,EQ X kd H b)(st:tn 0 s.heap)(h1:∀y c,cl.lookup y=some c->X.env.cells.lookup y=some c)(h2:∀y,(y,NameKind.free)∈scope.names->∃c,cl.lookup y=some c)(hq:∀D,H D=none->∃W:Nat->Nat->Hp->Prop,(∃m,W 0 m (upd H D (.lst [])))/\Qv J D (Bq own ix t) g tt wi2 own2 g2 tt2 te (Qd D) W)(P:∀D C i j,(∃m,j.heap.Ns C m)->Inv X kd t i j->(∀f u,Inv X kd f i u->∀h',Heap.SameBut C u.heap h'->Inv X kd f i {u with heap:=h'})->C≠X.env.locals->(∀x c,X.env.cells.lookup x=some c->C≠c)->Qd D i-> compPost (model X.prog X.w) X.A X.xe use Q (.ref D) C (.ok .next) j):wpAny (model X.prog X.w) X.A (newList []) (λk l=>wpAny (model X.prog X.w) X.A (newFunctionEnv scope X.env.globals cl [] X.env.qual none .none (some X.env)) (λd n=> codeAny (model X.prog X.w) X.A (.compStart (.ListComp elt [⟨tg,iter,ifs,0⟩,⟨tg2,iter2,ifs2,0⟩] scope pos) 0 (.ref it) k {d with scope:=relabel scope X.env}) (compPost (model X.prog X.w) X.A X.xe use Q k d.locals) n) X.xe l) X.xe s:=by
 refine AAu ?_ (by simp[sizeOk]);have h:Inv X kd t (upd H s.heap.objs.size (.lst [])) {s with heap:=s.heap.push {cls:= .type "list",data:= .seq ([] :zy zx).toArray}}:=I.lnew (t':=s.toks) .nil (AAw _);have R:=I.fresh;obtain⟨W,⟨m0,S⟩,U⟩:=hq _ R;have Y:∀b∈fp,b<s.heap.objs.size:=λb hb=>by obtain⟨o,e,_⟩:=T.obj _ _ st b hb;exact AAG e
 have v:∀b∈fp,EQ X kd (upd H s.heap.objs.size (.lst [])) b:=λb hb=>by obtain⟨Z,ar⟩:=M b hb;exact⟨by rw[AZ (AAL (Y b hb))];exact Z,ar⟩
 generalize oJ:({s with heap:=s.heap.push {cls:= .type "list",data:= .seq ([] :zy zx).toArray}}:zw)=s3 at h;have p:tn 0 s3.heap:=T.keep _ _ _ st λb hb o e=>by rw[<-oJ];exact AAH _ e
 have E:∀b∈fp,b<s3.heap.objs.size:=λb hb=>by obtain⟨o,e,_⟩:=T.obj _ _ p b hb;exact AAG e
 refine ADa O.nocell (by intro y hy;simp at hy) (λa iy oK=> ?_) O.kind;have L:∀b o,s3.heap.get? b=some o->a.get? b=some o:=λb o e=>oK.extBut b o (AAL (AAG e)) (AAH _ e);have eI:∀y,((relabel scope X.env).names.lookup y=some .cell\/(relabel scope X.env).names.lookup y=some .free)->∃c,cl.lookup y=some c:=λy hy=>by
  rcases hy with z|z
  .exact h2 y (Df O.nocell (HD z) (.inl rfl))
  .exact h2 y (Df O.nocell (HD z) (.inr rfl))
 have B:=VT (N:=N) (t':=s3.toks+([] :zy (Str×zx)).length) h v E (sc:=relabel scope X.env) O.kind h1 eI O.ins iy L;have r:tn 0 a:=T.keep _ _ _ p λb hb o e=>L b o e;have loop:∀F:zw,F={s3 with heap:=a,toks:=s3.toks+([] :zy (Str×zx)).length}->
  codeAny (model X.prog X.w) X.A (.compLoop (.ListComp elt [⟨tg,iter,ifs,0⟩,⟨tg2,iter2,ifs2,0⟩] scope pos) 0 (.ref it) (.ref s.heap.objs.size) (FM X.env (relabel scope X.env) cl s3.heap.objs.size)) (compPost (model X.prog X.w) X.A X.xe use Q (.ref s.heap.objs.size) s3.heap.objs.size) F:=by rintro F rfl;refine VY (cl:=cl) (Qh:=Qd s.heap.objs.size) hc O T h v E U (λσ' i j G q'=> ?_) m0 _ ⟨0,_,B,r,λb hb=>(v b hb).1,S⟩;refine P _ _ i j (let ⟨m,hm,_⟩:=G.loc;⟨m,hm⟩) (Qu (own:=own) (ix:=ix) h v E G) (λf u I2 h' hs=>Na h rfl I2 G.free hs) (AAv h.lt) (λx c e=>AAv (h.szLt e)) q'
 exact codeAny_compStart_list (loop _ rfl) (T.self _ 0 _ _ _ r (loop _ rfl))
def cH (hc:X.calm=true)(hi:PI X tg iter wi)(O:MV X tg elt ifs tg2 iter2 ifs2 scope own ix N g tt wi2 own2 g2 tt2 te)(hs:∀x,foldedSetIterable iter X.env x=pure x:=by intro _;rfl):PE X (.ListComp elt [⟨tg,iter,ifs,0⟩,⟨tg2,iter2,ifs2,0⟩] scope pos) (df wi own ix g tt wi2 own2 g2 tt2 te):=by intro kd s c H Q I h;obtain⟨cl,d,h1,h2⟩:=F6 (env:=X.env) (scope:=scope) λy hy e=>I.ok.has y.1 (.inl (O.frees y hy e));rw[eval_ListComp];refine ACr (use:=none) rfl hs d O.kind O.names (BK (hi kd s c H _ I h) λv t hv=>BK hv λf u i=> ?_);obtain⟨it,fp,tn,J,w,rfl,j,T,a,k,q⟩:=i;exact Yt (Qd:=λD b=>Q (.ref D) b) hc O T j k a h1 h2 q λD C b l n o gone z A p=>by obtain⟨m,r⟩:=n;exact⟨m,r,λh' hs=>⟨.ref D,b,gone c l o h' hs,rfl,p⟩⟩
end
end L2
namespace PL
open PySem PySem.Spec PyProof.Rows L2
def Qx (own:Nat)(τ:A5):A5:=List.replicate own none++τ.drop own
def Io (g:AG)(t:AT)(a:AI)(own2:Nat)(d:AG)(e:AT)(te:AE)(b:A5)(Q:zy PV->Prop):zy PV->zy PV->Prop
 | [],acc=>Q acc
 | x::r,acc=>g x b λc=>t c λok=>if ok=true then a c λys=>acc.length+ys.length<sizeLine/\CK d e te (Qx own2 c) (Io g t a own2 d e te b Q r) ys acc else Io g t a own2 d e te b Q r acc
def NW (b:AI)(own:Nat)(ix:zy Nat)(g:AG)(t:AT)(a:AI)(own2:Nat)(c:AG)(d:AT)(te:AE):AA:=λτ Q=>b τ λxs=>Io g t a own2 c d te (Ju own ix τ) Q xs []
def SR.noOwn {K:AAB}{B:C5}{T:zu->Prop}{H:Hp}{a:L2.St}{τ:A5}(s:SR K B T H a τ)(c:∀b,¬Cn a τ b){i:Nat}{xs:zy PV}:τ[i]? ≠some (some (.own xs)):=λe=>by obtain⟨p,vs,d,_⟩:=s.own i xs e;exact c p ⟨i,xs,e,d⟩
def SR.swap {K:AAB}{B:C5}{l f:zu->Prop}{m g:Hp}{a σ0:L2.St}{τ k:A5}(c:SR K B l m a τ)(n:∀b,¬Cn a τ b)(d:SR K B f g σ0 k)(o:Mv K l (mt B a τ) m f (mt B a τ) g):SR K B f g a τ:=
 ⟨c.len,λi x e=>let ⟨v,h,r⟩:=c.val i x e;⟨v,h,r.mv o⟩,λi xs e=>absurd e (c.noOwn n),λi j xs ys p e=>absurd e (c.noOwn n),d.tp,d.bm,d.bt,d.st⟩
def Jz {own:Nat}{τ:A5}{j:Nat}{x:AV}(h:(Qx own τ)[j]? =some (some x)):own<=j/\τ[j]? =some (some x):=by
 unfold Qx at h;by_cases hj:j<own
 .rw [ABM (by simpa using hj),ABV,AAE hj] at h;cases h
 .have Zz:own<=j:=by omega
  rw[ABD (by simpa using Zz),ABN,ACX] at h;rw[show own+(j-own)=j by omega] at h;exact⟨Zz,h⟩
def SR.cut {K:AAB}{B:C5}{T:zu->Prop}{H:Hp}{c:L2.St}{τ:A5}{own:Nat}(s:SR K B T H c τ)(d:∀b,¬Cn c τ b):SR K B T H (MH own c) (Qx own τ)/\∀b,¬Cn (MH own c) (Qx own τ) b:=by have g:∀b,¬Cn (MH own c) (Qx own τ) b:=λb ⟨i,xs,h,f⟩=>d b ⟨i,xs,(Jz h).2,(Kz f).2⟩;refine⟨⟨by simp[MH,Qx,s.len],λi x e=> ?_,λi xs e=>absurd (Jz e).2 (s.noOwn d),λi j xs ys p e=>absurd (Jz e).2 (s.noOwn d),s.tp,s.bm,s.bt,s.st⟩,g⟩;obtain⟨Zz,f⟩:=Jz e;obtain⟨v,hv,r⟩:=s.val i x f;refine⟨v, ?_,r.mv (.anti s.va λa z=>z.elim .inl λz=>absurd z (g a))⟩;unfold MH;rw[ABD (by simpa using Zz),ABN,ACX,show own+(i-own)=i by omega];exact hv
structure PD (D:Addr) (T:Addr->Prop) (H:Hp) (T':Addr->Prop) (H':Hp):Prop where
 keep:∀b o,¬T b->b≠D->H b=some o->H' b=some o
 sub:∀b,T b->T' b
 new:∀b,T' b->T b\/H b=none
 tp:∀b,H b≠none->H' b≠none
def PD.refl {D:zu}{T:zu->Prop}{H:Hp}:PD D T H T H:=⟨λ_ _ _ _ e=>e,λ_ e=>e,λ_ e=> .inl e,λ_ e=>e⟩
def DI.atD {D:zu}{T a:zu->Prop}{H c:Hp}(s:DI T H a c):PD D T H a c:=⟨λb o t _ e=>s.keep b o t e,s.sub,s.new,λb e=>s.some e⟩
def PD.upd {D:zu}{T:zu->Prop}{H:Hp}{o:HO}:PD D T H T (upd H D o):=⟨λb a _ n e=>by rw[AZ n];exact e,λ_ e=>e,λ_ e=> .inl e,λb e=>by
 by_cases h:b=D
 .subst h;rw[Aa];exact λz=>nomatch z
 .rw [AZ h];exact e⟩
def PD.trans {D:zu}{T c d:zu->Prop}{H H1 f:Hp}(a:PD D T H c H1)(b:PD D c H1 d f):PD D T H d f where
 keep:=λx o t n e=>b.keep x o (λz=>(a.new x z).elim t λz=>by rw[e] at z;cases z) n (a.keep x o t n e)
 sub:=λx t=>b.sub x (a.sub x t)
 new:=λx t=>(b.new x t).elim (λz=>a.new x z) λz=> .inr (by
  cases e:H x with
  | none=>rfl
  | some o=>exact absurd z (a.tp x (by rw[e];exact λz=>nomatch z)))
 tp:=λx e=>b.tp x (a.tp x e)
def Zd {K:AAB}{s:km}{wi wi2:TI}{ai Y:AI}{own own2:Nat}{ix:zy Nat}{g g2:TG}{ag N:AG}{tt tt2:TT}{Z O:AT}{te:TE}{ta:AE}(hi:Yh K s wi ai)(hg:Kx K g ag)(ht:NU K tt Z)(rm:Yh K true wi2 Y)(rj:Kx K g2 N)(sK:NU K tt2 O)(he:Ge K te ta):aK K (df wi own ix g tt wi2 own2 g2 tt2 te) (NW ai own ix ag Z Y own2 N O ta):=by
 intro B T j τ H Q AQ sr h k;refine hi B T j τ H _ _ sr h λJ xs T1 H1 s1 walk h1 D hD=> ?_;have E:=sr.stp s1;have nt1:¬T1 D:=λz=>by obtain⟨o,e,_⟩:=(E.tp D z).mut;rw[hD] at e;cases e
 have lay:=DI.lay (o:= .lst []) E.tp hD;refine⟨λi m H2=>m=xs.length-i/\∃T2 vs r,DI T1 H1 T2 H2/\H2 D=some (.lst vs)/\¬T2 D/\Au K T2 (λa=>mt B j τ a\/a=D) H2 vs r/\Io ag Z Y own2 N O ta (Ju own ix τ) AQ (xs.drop i) r,
  ⟨_,rfl,T1, [], [],lay,Aa,nt1, .nil,h1⟩, ?_⟩
 rintro i m H2 ⟨rfl,T2,vs,r,s2,Xa,F,r2,h2⟩;have srb:=E.blk (own:=own) (ix:=ix) s2 hD Xa F;have va2:Gi T2 (λa=>mt B j τ a\/a=D) H2:=⟨srb.tp,srb.bm⟩;have w:=walk (λa=>mt B j τ a\/a=D) T2 H2 ⟨E.va,λb o t _ e=>s2.keep b o t e,s2.sub,λb n t=>(s2.new b t).elim id λz=>absurd z n,λb n z=>z.elim id λz=>by subst z;exact absurd hD n⟩ va2 (.inr s2.keep);by_cases Dt:i<xs.length
 .have Tn:xs[i]? =some xs[i] :=AAT Dt;rw[ABn Dt] at h2;refine .inr ⟨w.go i _ Tn,λv H3 yl=> ?_⟩;obtain⟨s3,r3⟩:=w.yld i _ v H3 Tn yl;have P:=srb.stp s3;refine hg _ T2 _ _ H3 v _ _ _ P (r3.mv (.anti ⟨P.tp,P.bm⟩ λa z=>z.elim id λ⟨_,_,z,_⟩=>absurd z Fo)) h2 λu l sr4 o4 h4=> ?_;have no4:∀b,¬Cn u l b:=λb z=>by obtain⟨_,_,z,_⟩:=o4 b z;exact absurd z Fo
  refine ht _ T2 u l H3 _ _ sr4 h4 λok T5 H5 s5 h5=> ?_;have sr5:=sr4.stp s5;have eB:=s3.keep D _ F Xa;have fQ:=s5.keep D _ F eB;have nt5:¬T5 D:=λz=>(s5.new D z).elim F λn=>by rw[n] at eB;cases eB
  have r5:=(r2.stp s3 va2).stp s5 ⟨P.tp,P.bm⟩;cases ok with
  | false=> rw[AAD AAR] at h5 ⊢;exact⟨_,by omega,rfl,T5,vs,r,(s2.trans s3).trans s5,fQ,nt5,r5,h5⟩
  | true=>
    rw[AAE rfl] at h5 ⊢;refine rm _ T5 u l H5 _ _ sr5 h5 λJ2 ys T6 H6 s6 walk2 h6=> ?_;obtain⟨hl,h6⟩:=h6;have R:=sr5.stp s6;have rQ:=s6.keep D _ nt5 fQ;have nt6:¬T6 D:=λz=>(s6.new D z).elim nt5 λn=>by rw[n] at fQ;cases fQ
    have va6:Gi T6 (λa=>mt B j τ a\/a=D) H6:=⟨R.tp,R.bm⟩;have r6:=r5.stp s6 ⟨sr5.tp,sr5.bm⟩;have s06:=((s2.trans s3).trans s5).trans s6;refine⟨λG m2 H7=>m2=ys.length-G/\∃M f c,DI T1 H1 M H7/\PD D T6 H6 M H7/\H7 D=some (.lst f)/\¬M D/\Au K M (λa=>mt B j τ a\/a=D) H7 f c/\c.length<=r.length+G/\
     CK N O ta (Qx own2 l) (Io ag Z Y own2 N O ta (Ju own ix τ) AQ (xs.drop (i+1))) (ys.drop G) c,
     ⟨_,rfl,T6,vs,r,s06, .refl,rQ,nt6,r6,AAJ _,h6⟩, ?_⟩
    rintro G m2 H7 ⟨rfl,M,f,c,s7,d7,rR,S,r7,zV,h7⟩;have U:=E.blk (own:=own) (ix:=ix) s7 hD rR S;have mEq:∀a,mt (B.blk j τ D) u l a->mt B j τ a\/a=D:=λa z=>z.elim id λz=>absurd z (no4 a);have mv7:Mv K T6 (mt (B.blk j τ D) u l) H6 M (mt (B.blk j τ D) u l) H7:=⟨R.va,λb o t m e=>d7.keep b o t (λz=>m (.inl (.inr z))) e,d7.sub,λb n t=>(d7.new b t).elim id λz=>absurd z n,λ_ _ z=>z⟩;have mv7':Mv K T6 (mt (B.blk j τ D) u l) H6 M (λa=>mt B j τ a\/a=D) H7:=⟨R.va,λb o t m e=>d7.keep b o t (λz=>m (.inl (.inr z))) e,d7.sub,λb n t=>(d7.new b t).elim id λz=>absurd z n,λ_ _ z=> .inl z⟩;have sr7:=R.swap no4 U mv7;have va7:Gi M (λa=>mt B j τ a\/a=D) H7:=⟨U.tp,U.bm⟩;obtain⟨sc7,no7⟩:=sr7.cut (own:=own2) no4;have w2:=walk2 (λa=>mt B j τ a\/a=D) M H7 mv7' va7 (.inl rfl);by_cases oB:G<ys.length
    .have ir:ys[G]? =some ys[G] :=AAT oB;rw[ABn oB] at h7;refine .inr ⟨w2.go G _ ir,λv8 H8 yl8=> ?_⟩;obtain⟨s8,r8⟩:=w2.yld G _ v8 H8 ir yl8;have W:=sc7.stp s8;refine rj _ M _ _ H8 v8 _ _ _ W (r8.mv (.anti ⟨W.tp,W.bm⟩ λa z=>z.elim id λz=>absurd z (no7 a))) h7 λσ9 τ9 sr9 o9 h9=> ?_;refine sK _ M σ9 τ9 H8 _ _ sr9 h9 λok T10 iU p qG=> ?_;have A:=sr9.stp p;have rS:=s8.keep D _ S rR;have fP:=p.keep D _ S rS;have X:¬T10 D:=λz=>(p.new D z).elim S λn=>by rw[n] at rS;cases rS
     have r10:=(r7.stp s8 va7).stp p ⟨W.tp,W.bm⟩;cases ok with
     | false=> rw[AAD AAR] at qG ⊢;exact⟨_,by omega,rfl,T10,f,c,(s7.trans s8).trans p,(d7.trans s8.atD).trans p.atD,fP,X,r10,by omega,qG⟩
     | true=>
       rw[AAE rfl] at qG ⊢;refine he _ T10 σ9 τ9 iU _ _ A qG λvy y I mV L r11 xh=> ?_;have C:=A.stp L;have rP:=L.keep D _ X fP;have nt11:¬I D:=λz=>(L.new D z).elim X λn=>by rw[n] at fP;cases fP
       have va11:Gi I (λa=>mt B j τ a\/a=D) mV:=⟨C.tp,C.bm⟩;have r12:=r10.stp L ⟨A.tp,A.bm⟩;have s12:=((s7.trans s8).trans p).trans L;have tp13:∀a,I a->En (upd mV D (.lst (f ++ [vy]))) a:=λa t=>by obtain⟨d,x,e,z⟩:=C.tp a t;exact⟨d,x,by rw[AZ (λw=>by subst w;exact nt11 t)];exact e,z⟩
       have mv13:Mv K I (λa=>mt B j τ a\/a=D) mV I (λa=>mt B j τ a\/a=D) (upd mV D (.lst (f ++ [vy]))):=⟨va11,λb o _ m e=>by rw[AZ (λw=>m (.inr w))];exact e,λ_ t=>t,λ_ _ t=>t,λ_ _ z=>z⟩;refine⟨f,rP,by rw[r7.length];omega,_,(by omega:ys.length-(G+1)<ys.length-G),rfl,I,f ++ [vy],c ++ [y],⟨λb o t e=> ?_,s12.sub,s12.new,tp13⟩,((((d7.trans s8.atD).trans p.atD).trans L.atD).trans .upd),Aa,nt11,(r12.append (.cons (r11.mv (.anti C.va λa z=> .inl z)) .nil)).mv mv13,by simp;omega,xh⟩;rw[AZ (Ah e hD)];exact s12.keep b o t e
    .rw [ACN (as:=ys) (i:=G) (by omega)] at h7;exact .inl ⟨w2.stop G (by omega),_,(by omega:xs.length-(i+1)<xs.length-i),rfl,M,f,c,s7,rR,S,r7,h7⟩
 .rw [ACN (by omega)] at h2;refine .inl ⟨w.stop i (by omega), ?_⟩;exact k D vs r T2 H2 (s1.trans s2) (E.add s2 hD Xa Ku.lst F) (s1.none hD) Xa F (r2.mv (.anti va2 λa z=>by
   rcases z with(z|z)|z
   .exact .inl (.inl z)
   .exact .inr z
   .exact .inl (.inr z))) h2
def sP (K:AAB)(s:km)(a:AI):TI:=λf H R=>∃(B:C5) (T:zu->Prop) (τ:A5) (g:zy PV->Prop),SR K B T H f τ/\a τ g/\
 ∀J xs d b,DI T H d b->(∀M2 e c,Mv K d (mt B f τ) b e M2 c->Gi e M2 c->(s=true\/XA d b c)->S3 K M2 J xs e c)->g xs->R J b
def hZ {K:AAB}{s:km}{a:AI}:Yh K s (sP K s a) a:=λB T d τ H R b c h k=>⟨B,T,τ,b,c,h,k⟩
section
variable {X:Cx}
def SI.of {b iter:zr}{s:km}{a:AI}(h:SI X b iter s a):PI X b iter (sP X.K s a):=by obtain⟨t,p,e⟩:=h;intro kd f d H R I hw;obtain⟨B,T,τ,g,i,h,c⟩:=hw;exact p kd f d H R I (e B T d τ H R g i h c)
structure aA (X:Cx) (tg elt:Expr) (ifs:List Expr) (tg2 iter2:Expr) (ifs2:List Expr) (scope:Scope) (own:Nat) (ix:List Nat) (N:List Str) (g:AG) (t:AT) (ai2:AI) (own2:Nat) (g2:AG) (t2:AT) (te:AE):Prop where
 ex:∃g' t' wi2 g2' t2' te',MV X tg elt ifs tg2 iter2 ifs2 scope own ix N g' t' wi2 own2 g2' t2' te'/\Kx X.K g' g/\NU X.K t' t/\Yh X.K true wi2 ai2/\Kx X.K g2' g2/\NU X.K t2' t2/\Ge X.K te' te
def dD {h c iter d a:zr}{e b:zy zr}{scope:Scope}{i:Pos}{own own2:Nat}{ix:zy Nat}{N:zy Str}{g m:AG}{t n:AT}{s:km}{o f:AI}{p:AE}(hc:X.calm=true)(hi:SI X h iter s o)(O:aA X h c e d a b scope own ix N g t f own2 m n p)(hs:∀x,foldedSetIterable iter X.env x=pure x:=by intro _;rfl):SF X (.ListComp c [⟨h,iter,e,0⟩,⟨d,a,b,0⟩] scope i) (NW o own ix g t f own2 m n p):=by obtain⟨C,r,u⟩:=hi;obtain⟨g',t',v,w,y,z,O,A,st,j,k,l,B⟩:=O.ex;exact⟨_,cH hc r O hs,Zd u A st j k l B⟩
def fF {o e c a:zr}{f b:zy zr}{scope:Scope}{own own2:Nat}{ix:zy Nat}{N:zy Str}{g k:AG}{t l:AT}{d:AI}{te:AE}(h1:scope.kind= .function)(h2:(scope.names.all λy=> !decide (y.2= .cell))=true)(p:(scope.names.all λy=> !decide (y.2= .local)||decide (scope.names.lookup y.1=some .local))=true)(r:(scope.names.all λy=> !decide (y.2= .free)||decide (X.env.scope.names.lookup y.1=some .cell))=true)(u:N.length=own+ix.length)(v:Q3 X (relabel scope X.env) own ix N=true)(w:own2<=own)(m:∀cl C s H ex pn,SK own (blk X (relabel scope X.env) N cl C s H ex pn) o g)(n:∀cl C s H ex pn,jd (blk X (relabel scope X.env) N cl C s H ex pn) f t)(h:∀cl C s H ex pn,SI (blk X (relabel scope X.env) N cl C s H ex pn) c a true d)(i:∀cl C s H ex pn,SK own2 (blk X (relabel scope X.env) N cl C s H ex pn) c k)(j:∀cl C s H ex pn,jd (blk X (relabel scope X.env) N cl C s H ex pn) b l)(val:∀cl C s H ex pn,SE (blk X (relabel scope X.env) N cl C s H ex pn) e te)(z:∀cl C s H ex pn x,foldedSetIterable a (blk X (relabel scope X.env) N cl C s H ex pn).env x=pure x:=by intro _ _ _ _ _ _ _;rfl):aA X o e f c a b scope own ix N g t d own2 k l te:=
 have O:=Qw (te:=nX X.K te) h1 h2 p r u v (N3 (K:=X.K) (ag:=g)) (λcl C s H ex pn=>(m cl C s H ex pn).of) (λcl C s H ex pn=>(n cl C s H ex pn).of) (λcl C s H ex pn=>(val cl C s H ex pn).of)
 ⟨ma X.K own g,pk X.K t,sP X.K true d,ma X.K own2 k,pk X.K l,nX X.K te,⟨O.kind,O.nocell,O.names,O.frees,O.ins,O.keep,N3,w,O.tgt,O.tst,λcl C s H ex pn=>(h cl C s H ex pn).of,z,λcl C s H ex pn=>(i cl C s H ex pn).of,λcl C s H ex pn=>(j cl C s H ex pn).of,O.val⟩,SD,SJ,hZ,SD,SJ,YF⟩
end
end PL
namespace PL
open PySem L2 PyProof.Rows
section
variable {ai ai2:AI}{g g2:AG}{tt t2:AT}{te:AE}{τ τ':A5}{QL:zy PV->Prop}{own own2:Nat}{ix:zy Nat}
instance{a b:A5}[h1:nO own a][h2:nE ix τ b][c:Z8 a b τ'] :Wp (NW ai own ix g tt ai2 own2 g2 t2 te τ QL) (ai τ λxs=>Io g tt ai2 own2 g2 t2 te τ' QL xs []):=⟨λk=>by unfold NW Ju;rw[h1.e,h2.e,c.e];exact k⟩
instance{i:Nat}{a b:AE}{nx bk ct:A5->Prop}{rt:PV->Prop}:Wp (jk i a b ⟨nx,rt,bk,ct⟩ τ) (b τ λy=>MG i τ λxs=>a τ λk=>WK k λk=>om (V2 xs.length k) λj=>Wb τ i (.own (xs.set j y)) nx):=⟨id⟩
theorem TD (d:zy PV->zy PV->Prop)(hd:∀a,d [] a->QL a)(hs:∀x r a (R:zy PV->Prop),(∀b,d r b->R b)->d (x::r) a->g x τ λc=>tt c λok=>if ok=true then ai2 c λys=>a.length+ys.length<sizeLine/\CK g2 t2 te (Qx own2 c) R ys a else R a):∀xs a,d xs a->Io g tt ai2 own2 g2 t2 te τ QL xs a
 | [],a,h=>hd a h
 | x::r,a,h=>hs x r a _ (λb h2=>TD d hd hs r b h2) h
theorem aW {r:A5}:∀(ys a:zy PV),QL (a++ys)->CK (Ak 0) DW (aV 0) (none::r) QL ys a
 | [],a,h=>by rw[ABU] at h;exact h
 | y::ys,a,h=>aW ys (a ++ [y]) (by rw[ADq];exact h)
end
end PL
namespace L2
open PySem PySem.Spec PyProof.Rows
def xV {P:kj}{w:ki}{h:kf}{d:zu}{o:Obj}{es:Array DictEntry}{ep:Nat}{vs:zy (Cp×zx)}(g:h.get? d=some o)(e:o.data= .dict es ep)(x:h.DictOf (A7 P w) d vs):h.DictAt (A7 P w) d vs ep:=by obtain⟨i,b,f,g',c,a,r⟩:=x;rw[g] at g';cases g';rw[e] at a;cases a;exact⟨o,es,g,c,e,r⟩
def Uv (H:Hp)(d:zu)(n ep:Nat)(kvs:zy (Cp×V)):Prop:=∃o es,H d=some (.frz o (.dK kvs))/\o.data= .dict es ep/\kvs.length=n
def Itm (d:zu)(n ep:Nat):It:=
 ⟨λi H=>∃kvs k x,Uv H d n ep kvs/\kvs[i]? =some (k,x),
  λi H v a=>∃T k x,v= .ref T/\H T=none/\a=upd H T (.tup [kV k,x])/\∀kvs,Uv H d n ep kvs->kvs[i]? =some (k,x),
  λi H=>∃kvs,Uv H d n ep kvs/\kvs.length<=i⟩
def Uv.one {H:Hp}{d:zu}{n ep:Nat}{a b:zy (Cp×V)}(x:Uv H d n ep a)(y:Uv H d n ep b):a=b:=by obtain⟨o,es,e,_⟩:=x;obtain⟨g,f,c,_⟩:=y;rw[e] at c;cases c;rfl
def Uv.at {X:Cx}{kd:zy (zu×Obj)}{b:St}{H:Hp}{s:zw}{d:zu}{n ep:Nat}{kvs:zy (Cp×V)}(I:Inv X kd b H s)(x:Uv H d n ep kvs):∃vs,KV kvs vs/\s.heap.DictAt (A7 X.prog X.w) d vs ep:=by obtain⟨o,es,e,c,_⟩:=x;obtain⟨g,z,hd,vs,a,f⟩:=(show CJ X.prog X.w H s.heap d (.frz o (.dK kvs)) from I.hok d _ e);exact⟨vs,a,xV g c f⟩
def kO {P:kj}{w:ki}{k:Cp}{u:zx}(h:(A7 P w).is k u=true):RelV (kV k) u:=by
 rcases Br h with⟨i,t,rfl,rfl⟩|⟨x,t,rfl,rfl⟩
 .exact ⟨_,rfl⟩
 .exact ⟨_,rfl⟩
def kU {kvs:zy (Cp×V)}{vs:zy (Cp×zx)}(r:KV kvs vs):∀{i:Nat} {k:Cp} {x:V},kvs[i]? =some (k,x)->∃u,vs[i]? =some (k,u)/\RelV x u:=by
 unfold KV at r;induction r with
 | nil=>intro i k x h;simp at h
 | @cons p q c qs h t ih=>
   intro i k x e;cases i with
   | zero=> simp at e;subst e;obtain⟨d,a⟩:=q;obtain⟨h1,h2⟩:=h;exact⟨a,by simp at h1;simp[h1],h2⟩
   | succ i=> obtain⟨u,hu,b⟩:=ih (i:=i) (k:=k) (x:=x) (by simpa using e);exact⟨u,by simpa using hu,b⟩
def PK:entryFor table "dict_itemiterator.__iter__" =some Builtin.«dict_keyiterator.__iter__»:=
 entryFor_alias (id':="dict_keyiterator.__iter__") (by kernel_rfl) (by first | rfl|decide +kernel|(unfold String.splitOn;simp +decide [String.splitOnAux])) (by decide +kernel) (by kernel_rfl)
def PU {prog:kj}{w:ki}{A:ke}{E:zx->zw->Prop}{s:zw}{it d:zu}{k n ep:Nat}{ok b:zx}{Q:zx->zw->Prop}(he:IsItemIter s.heap it d k n ep ok b)(h:Q (.ref it) s):wpAny (model prog w) A (pyIter (.ref it)) Q E s:=by have a:s.TypeIs (.ref it) "dict_itemiterator" :=⟨_,he,rfl⟩;refine wpAny_pyIter_slot a AD7 (AA6 AD7 a PK ?_ (F.args_dict_itemiterator_iter_1 _));show wpAny _ _ (ret (.ref it)) _ _ s;exact AAC ⟨_,rfl,"dict_itemiterator",_,a,F.slot_dict_itemiterator_next.lookup,h⟩
def Wy {P:kj}{w:ki}{K:AAB}{es:zy zr}{F:Nat}{j:Pos}{it d:zu}{n ep:Nat}:Il P w K (.Tuple es F j) (Itm d n ep) [it] it (λk h=>∃ok c,IsItemIter h it d k n ep ok c) where
 mem:=by simp
 obj:=λk h st p hp=>by
  obtain⟨ok,c,he⟩:=st;have b:p=it:=by simpa using hp
  subst b;exact⟨_,he,λv z=>nomatch z⟩
 keep:=λk h h' st l=>by obtain⟨ok,c,he⟩:=st;exact⟨ok,c,l it (by simp) _ he⟩
 item:=by
  intro X m hw r hc k kd s B H E I i st t;subst m hw r;obtain⟨ok,c,he⟩:=st;obtain⟨kvs,y,x,hq,hx⟩:=t;obtain⟨vs,a,A⟩:=hq.at I;have hl:vs.length=n:=by obtain⟨_,_,_,_,e⟩:=hq;rw[<-e];exact a.length.symm
  subst hl;obtain⟨u,hu,G⟩:=kU a hx;have f:it<s.heap.objs.size:=AAG he;refine wpAny_pyNext_items_item he A hu λkey h1 J L M T N=> ?_;refine⟨_,rfl,wpAny_letOwnedTupleGo_items (s:={s with heap:=h1}) L λh2 O Q=> ?_⟩;have g:∀p o,p≠it->h1.get? p=some o->h2.get? p=some o:=λp o q z=>Q.extBut _ _ q z;have C:∀p∈ [it],p<s.heap.objs.size:=λp hp=>by
   have b:p=it:=by simpa using hp
   rw[b];exact f
  have l:∀p o,p ∉ [it] ->s.heap.get? p=some o->h2.get? p=some o:=λp o hp z=>by
   have b:p≠it:=by simpa using hp
   exact g p o b (N p o b z)
  have R:Inv X kd B (upd H s.heap.objs.size (.tup [kV y,x])) {s with heap:=h2,toks:=s.toks}:=I.turnedN i C l (AAJ _)
   ⟨(by show 2<=sizeLine;decide), [key,u], .cons (kO J) (.cons G .nil),⟨_,g _ _ (AAv f) M,rfl,_,rfl⟩⟩
  refine⟨.ref s.heap.objs.size,upd H s.heap.objs.size (.tup [kV y,x]),R,rfl,⟨_,y,x,rfl,I.fresh,rfl,λD h'=> ?_⟩,⟨key,u,O⟩,λp hp=> ?_⟩
  .rw [h'.one hq];exact hx
  .rw [AZ (AAL (C p hp))];exact(i p hp).1
 done:=by
  intro X m hw r hc k kd s B H E I i st t;subst m hw r;obtain⟨ok,c,he⟩:=st;obtain⟨kvs,hq,hx⟩:=t;obtain⟨vs,a,A⟩:=hq.at I;have hl:vs.length=n:=by obtain⟨_,_,_,_,e⟩:=hq;rw[<-e];exact a.length.symm
  have U:=a.length;subst hl;refine wpAny_pyNext_items_end (I.ok.hd hc) he A (by rw[ADQ];omega) λh' S=>⟨rfl, ?_⟩;exact I.turnedL (t':=s.toks) i λp o hp z=>by
   have b:p≠it:=by simpa using hp
   exact S p o b z
 self:=λ_ _ _ _ _ st h=>by obtain⟨ok,c,he⟩:=st;exact PU he h
section
variable {X:Cx}
def UX {e:zr}{te:TE}{apos f j:Pos}{es:zy zr}{B:Nat}(he:PE X e te)(hb:attributeBase e "items" X.env (eval e X.env)=eval e X.env)(C:((backTo f (starEach [] X.env)).all (λx=> !x.1)&&(backToKw f (keywordEach [] X.env)).all (λx=>x.1.isSome)&&decide (([] :zy zr).length+([] :zy Keyword).length+(if ([] :zy Keyword).isEmpty then 0 else 1)<30))=true)(hl:(apos.endLine==f.line)=true)(D:backTo f (starEach [] X.env)= []):PI X (.Tuple es B j) (.Call (.Attribute e "items" apos) [] [] f) (λm H R=>te m H λv H1=>∃d n ep kvs,v= .ref d/\Uv H1 d n ep kvs/\R (Itm d n ep) H1):=by
 intro kd s m H R I h;refine ADk hb C hl ADl AD8 PySem.F.type_dict_items (BK (he kd s m H _ I h) λu i ⟨x,H1,k,E,d,n,ep,kvs,ex,t,G⟩=> ?_);subst ex;obtain rfl:u=Value.ref d:=E;obtain⟨vs,y,z⟩:=t.at k;have J:vs.length=n:=by obtain⟨_,_,_,_,e⟩:=t;rw[<-e];exact y.length.symm
 obtain⟨o,K,L,S,_⟩:=id t;obtain⟨M,N,O⟩:=bQ k (.inl ⟨kvs, .inr ⟨o,L⟩⟩);have A:i.heap.DictOf (A7 X.prog X.w) d vs:=let ⟨o,es,a,b,c,r⟩:=z;⟨o,es,ep,a,b,c,r⟩;refine⟨M,N, ?_⟩;rw[D];refine ACm rfl (PySem.evalArgs_none ?_);refine AC9 AD8 A.typeIs PySem.F.entry_dict_items (PySem.F.args_dict_items_1 _) (meets_dict_items (A7 X.prog X.w) d O) ⟨⟨vs,A⟩, ?_⟩;have P:(i.heap.push {cls:= .type "dict_items",data:= .fields #[.ref d] }).DictAt (A7 X.prog X.w) d vs ep:=by obtain⟨o,es,g,r⟩:=z;exact⟨o,es,AAH _ g,r⟩
 refine wpAny_pyIter_items (s:={i with heap:=i.heap.push {cls:= .type "dict_items",data:= .fields #[.ref d] }}) (knd:=A7 X.prog X.w) (d:=d) ?_ P ?_
 .exact ⟨_,AAS _ rfl,rfl,rfl⟩
 subst J;have l:(i.heap.push {cls:= .type "dict_items",data:= .fields #[.ref d] }).objs.size=i.heap.objs.size+1:=ABH ..;refine⟨_, [i.heap.objs.size+1],_,_,H1,congrArg Value.ref l,k.kept (t':=i.toks) λb T q=>AAH _ (AAH _ q),Wy,⟨.none, .none, ?_⟩,λp hp=> ?_,G⟩
 .have:=AAS (i.heap.push {cls:= .type "dict_items",data:= .fields #[.ref d] }) (o:={cls:= .type "dict_itemiterator",data:= .fields #[Value.none,Value.bool false,Value.ref d,Value.int 0 0,Value.int (vs.length:Int) 0,Value.int (ep:Int) 0,Value.none,Value.none] }) rfl;rw[l] at this;exact this
 .have Q:p=i.heap.objs.size+1:=by simpa using hp
  subst Q;exact k.fpOk (ADp _ _) (k.hok.fresh (ADp _ _))
end
end L2
namespace PL
open PySem PySem.Spec PyProof.Rows L2
section
variable {X:Cx}
def mI (a:zy (TE×TE)):TE:=λd H Q=>∀p,H p=none->Ws a d (upd H p (.dK [])) λe b=>b p=some (.dK [])/\∃kvs:zy (Cp×V),e=kvs.map (λc=>(kV c.1,c.2))/\kvs.length<=15/\∀o es ep,o.data= .dict es ep->Q (.ref p) (upd b p (.frz o (.dK (N7 [] kvs))))
def cJ {b:Pos}{keys:zy (zt zr)}{values:zy zr}{d:zy (TE×TE)}(h:qA X b keys values d)(k:keys.all (·.isSome)=true)(hl:keys.length=values.length)(h0:keys≠ [])(l:keys.length<=15):PE X (.Dict keys values b) (mI d):=by
 intro kd s m H Q I q;have n:=I.hok.fresh (AAJ s.heap.objs.size);have p:=I.laid (a:=s.heap.objs.size) (o:= .dK []) (h':=s.heap.push {cls:= .type "dict",data:= .dict #[] }) (t':=s.toks) (λ_ _ q=>AAH _ q) (AAJ _) (TL s.heap I.big);refine wpAny_Dict_walk (knd:=A7 X.prog X.w) k hl h0 l (BK (h kd _ m _ _ p (q _ n)) λB C ⟨D,E,i,g,e,kvs,ep,F,r⟩=> ?_);subst ep;obtain⟨t,c,u⟩:=Ng (P:=X.prog) (w:=X.w) g;obtain⟨z,hd,v,x,y⟩:=XT i.hok e;cases x;have hz:(N7 [] kvs).length<=sizeLine:=by have h1:=IV kvs [];rw[AC8] at h1;rw[sizeLine_eq];omega
 refine⟨t,c,y,λh' f hs=> ?_⟩;obtain⟨o,es,ep,j,A⟩:=id f;refine⟨.ref s.heap.objs.size,_, ?_,rfl,r o es ep A.2.1⟩;exact Hj i (by rw[e];exact True.intro) hs ⟨o,j⟩ ⟨j,Qz hz hd (u.merge .nil) f⟩
def iJ {T c:zu->Prop}{H f:Hp}{d:zu}{o:HO}(s:DI T H c f)(hd:H d=none)(g:¬c d):DI T H c (upd f d o) where
 keep b q t e:=by
  have n:b≠d:=λz=>by subst z;rw[hd] at e;cases e
  rw[AZ n];exact s.keep b q t e
 sub:=s.sub
 new:=s.new
 tp a t:=by
  have n:a≠d:=λz=>by subst z;exact g t
  obtain⟨x,y,e,r⟩:=s.tp a t;exact⟨x,y,by rw[AZ n];exact e,r⟩
def aO (a b:AE):AE:=λτ Q=>a τ λx=>b τ λy=>match x,y with | .int i, .int j=>Q (.dk [(i,j)])|_,_=>False
def lu {a b:zr}{u w:AE}{p:Pos}(ha:SE X a u)(hb:SE X b w):SE X (.Dict [some a] [b] p) (aO u w):=by
 obtain⟨t,E,s⟩:=ha;obtain⟨t',h,F⟩:=hb;refine⟨_,cJ (cV E h gg) rfl rfl (List.cons_ne_nil _ _) (AAt rfl),λB T y τ H Q O k q G=> ?_⟩;intro d hd;have c:DI T H T (upd H d (.dK [])):=DI.lay k.tp hd;have f:=k.stp c;have A:¬T d:=λz=>by obtain⟨o,e,_⟩:=(k.tp d z).mut;rw[hd] at e;cases e
 refine s B T y τ _ _ _ f q λv x I H1 l J K=>F B I y τ _ _ _ (f.stp l) K λP R C L D M m=> ?_;split at m <;> first | exact m.elim|skip
 rename_i i j;cases J;cases M;have n:L d=some (.dK []):=(l.trans D).keep _ _ A Aa;have g:=l.trans D;have r:¬C d:=λz=>by
  rcases g.new d z with z|z
  .exact A z
  .rw [Aa] at z;cases z
 refine⟨n, [(.inl i, .int j)],rfl,AAt rfl,λo es ep N=> ?_⟩;exact G _ _ C _ (iJ (c.trans g) hd r) (.dk (kvs:= [(i,j)]) Aa N) m
end
end PL
namespace L2
open PySem PySem.Spec PyProof.Rows
def Qy (J:It)(D:zu)(σ0:St)(g:TG)(f:TT)(h j:TE)(Q:Hp->Prop)(W:Nat->Nat->Hp->Prop):Prop:=
 ∀i m H,W i m H->(J.stop i H/\Q H)\/(J.go i H/\∀x c,J.yld i H x c->g x σ0 c λa l=>f a l λok d=>
  if ok=true then h a d λy n=>j a n λz e=>∃k kvs,y=kV k/\e D=some (.dK kvs)/\kvs.length<sizeLine/\∃b,b<m/\W (i+1) b (upd e D (.dK (D5 kvs k z))) else ∃b,b<m/\W (i+1) b d)
def dg (b:TI)(own:Nat)(ix:zy Nat)(g:TG)(c:TT)(d e:TE):TE:=λa H Q=>b a H λJ H1=>∀D,H1 D=none->
 ∃W:Nat->Nat->Hp->Prop,(∃m,W 0 m (upd H1 D (.dK [])))/\Qy J D (Bq own ix a) g c d e (Q (.ref D)) W
section
variable {X:Cx}{tg kx vx iter:zr}{ifs:zy zr}{scope:Scope}{pos:Pos}{wi:TI}{own:Nat}{ix:zy Nat}{N:zy Str}{g:TG}{tt:TT}{tk tv:TE}
def Vc {kd:zy (zu×Obj)}{P:St}{H:Hp}{s:zw}{fp:zy zu}{cl:zy (Str×zu)}{it:zu}{tn:Nat->kf->Prop}{J:It}{D:zu}{R:Result->zw->Prop}{Qh:Hp->Prop}{W:Nat->Nat->Hp->Prop}(hc:X.calm=true)(O:Fy X tg kx ifs scope own ix N g tt tk)(OV:∀cl C s H ex pn,PE (blk X (relabel scope X.env) N cl C s H ex pn) vx tv)(T:Il X.prog X.w X.K tg J fp it tn)(I:Inv X kd P H s)(hf:∀b∈fp,EQ X kd H b)(Dt:∀b∈fp,b<s.heap.objs.size)(hW:Qy J D (Bq own ix P) g tt tk tv Qh W)(hR:∀σ' a S,Inv (blk X (relabel scope X.env) N cl s.heap.objs.size s H fp (X.pn++kd)) [] σ' a S->Qh a->R (.ok .next) S)(n:Nat)(s0:zw)(h0:∃i a,Inv (blk X (relabel scope X.env) N cl s.heap.objs.size s H fp (X.pn++kd)) [] (Bq own ix P) a s0/\tn i s0.heap/\(∀b∈fp,a b=none)/\W i n a):codeAny (model X.prog X.w) X.A (.compLoop (.DictComp kx vx [⟨tg,iter,ifs,0⟩] scope pos) 0 (.ref it) (.ref D) (FM X.env (relabel scope X.env) cl s.heap.objs.size)) R s0:=by
 refine ACp rfl (λn S=>∃i a,Inv (blk X (relabel scope X.env) N cl s.heap.objs.size s H fp (X.pn++kd)) [] (Bq own ix P) a S/\tn i S.heap/\(∀b∈fp,a b=none)/\W i n a) (λn s1 h1=> ?_) n h0;obtain⟨i,H1,B1,U,Z,w1⟩:=h1;generalize f:blk X (relabel scope X.env) N cl s.heap.objs.size s H fp (X.pn++kd)=Y at *;have eA:Y.A=X.A:=by rw[<-f];rfl
 have eP:Y.prog=X.prog:=by rw[<-f];rfl
 have eW:Y.w=X.w:=by rw[<-f];rfl
 have eK:Y.K=X.K:=by rw[<-f];rfl
 have eE:FM X.env (relabel scope X.env) cl s.heap.objs.size=Y.env:=by rw[<-f];rfl
 have eX:Y.xe=λ_ _=>False:=by rw[<-f];rfl
 have eC:Y.calm=true:=by rw[<-f];exact hc
 have hg:PG Y tg g:=by rw[<-f];exact O.tgt _ _ _ _ _ _
 have ht:Yf Y ifs tt:=by rw[<-f];exact O.tst _ _ _ _ _ _
 have hk:PE Y kx tk:=by rw[<-f];exact O.val _ _ _ _ _ _
 have hv:PE Y vx tv:=by rw[<-f];exact OV _ _ _ _ _ _
 have l:∀{a:Hp},(∀b∈fp,a b=none)->∀b∈fp,EQ Y [] a b:=λ{a} hn b hb=>by
  obtain⟨_,a1,a2,a3,a4,a5⟩:=hf b hb;refine⟨hn b hb, ?_, ?_, ?_, ?_, ?_⟩
  .rw [<-f];exact AAL (Dt b hb)
  .rw [<-f];exact I.notStk a1 a2
  .rw [<-f];exact .inl hb
  .intro x c e;exact(B1.ok.exf b (by rw[<-f];exact hb)).2 x c e
  .intro p hp;have:p∈X.pn++kd:=by rw[<-f] at hp;simpa[blk] using hp
   exact a5 p this
 rw[eE,<-eA,<-eP,<-eW];show wpAny _ _ ((compTurn (.DictComp kx vx [⟨tg,iter,ifs,0⟩] scope pos) 0 (.ref it) (.ref D) Y.env).onRaise (λx=>do noteFrame x Y.env;theTreesLotGoes x)) _ _ s1;refine ACq ?_;rw[compTurn_dict];have ff:∀{α:Type} {t:Sem α} {Q:α->zw->Prop} {E:zx->zw->Prop} {s:zw},wpAny (model Y.prog Y.w) Y.A t Q Y.xe s->wpAny (model Y.prog Y.w) Y.A t Q E s:=λh=>AA7 h (λ_ _ q=>q) λ_ _ z=>by rw[eX] at z;exact z.elim
 refine AAA (AA1 (AAA ?_));rcases hW i n H1 w1 with⟨stop,qn⟩|⟨go,step⟩
 .have zd:=λE=>T.done Y eP eW eK eC i [] s1 _ H1 E B1 (l Z) U stop;rw[<-eP,<-eW] at zd;refine BK (zd _) λr s4 ⟨hr,I4⟩=> ?_;subst hr;exact AAC (hR _ _ _ I4 qn)
 .have zi:=λE=>T.item Y eP eW eK eC i [] s1 _ H1 E B1 (l Z) U go;rw[<-eP,<-eW] at zi;refine BK (zi _) λr s4 ⟨u,hr,h4⟩=> ?_;subst hr;refine AAA (BK h4 λ_ s5 ⟨x,H5,I5,r5,y5,F,fr5⟩=> ?_);have I5':=I5.pinned (l fr5) (T.obj _ _ F);refine AAA (BK (ff (hg _ s5 _ H5 x u _ I5' r5 (O.keep _ _ _ _ (step x H5 y5)))) λ_ s6 ⟨B,H6,I6,q6,l6,k6⟩=> ?_);refine AAA (BK (ff (ht _ s6 B H6 _ I6 q6)) λok s7 ⟨H7,I7,q7⟩=> ?_);have back:∀{G:Hp} {L:zw} {M:Nat},Inv Y ([] ++ FQ fp s5.heap) B G L->M<n->W (i+1) M G->
   ∃m,m<n/\∃i a,Inv Y [] (Bq own ix P) a L/\tn i L.heap/\(∀b∈fp,a b=none)/\W i m a:=λ{G L M} I8 hm w8=>by
   refine⟨M,hm,i+1,G,I8.unpinned.weak l6.symm (λj v hj=> ?_),T.keep _ _ _ F λb hb o e=>(I8.pin (b,o) (AAW _ (AAW _ (CD hb e)))).1,λb hb=> ?_,w8⟩
   .rw [k6 j (F3 hj).1];exact hj
   .obtain ⟨o,e,d⟩:=T.obj _ _ F b hb;exact(I8.pin (b,o) (AAW _ (AAW _ (CD hb e)))).2.1
  cases ok with
  | false=> obtain⟨M,hm,w8⟩:=q7;exact AAC ⟨rfl,back I7 hm w8⟩
  | true=>
    refine AAA (AAA (BK (ff (hk _ s7 B H7 _ I7 q7)) λkv L ⟨y,G,I8,r8,q8⟩=> ?_));refine AAA (AAi (BK (ff (hv _ L B G _ I8 q8)) λvv s9 ⟨z,H9,I9,r9,k,kvs,ey,hD,hz,M,hm,w9⟩=> ?_));subst ey;refine AAA (AA1 (AAi ?_));obtain⟨z1,xr,vs,rel,dd⟩:=XT I9.hok hD;have yb:vs.length<=sizeLine:=by rw[<-rel.length];exact z1
    have hl:(D5 kvs k z).length<=sizeLine:=by have:=EI kvs k z;omega
    refine wpAny_dictSet_pairs (hsz:=yb) (Tt r8) dd λh' dd' hs=> ?_;have he:∃q,h'.get? D=some q:=let ⟨q,_,_,hq,_⟩:=dd';⟨q,hq⟩;have I10:=Hj (t':=s9.toks+1) I9 (by rw[hD];exact True.intro) hs he (Qz hl xr (rel.put k r9) dd');exact AAC ⟨rfl,back I10 hm w9⟩
def Yv {kd:zy (zu×Obj)}{u:St}{H:Hp}{s:zw}{use:zt (zx->Sem Unit)}{Q:zx->zw->Prop}{it:zu}{fp:zy zu}{cl:zy (Str×zu)}{tn:Nat->kf->Prop}{J:It}{Qd:zu->Hp->Prop}(hc:X.calm=true)(O:Fy X tg kx ifs scope own ix N g tt tk)(P:∀cl C s H ex pn,PE (blk X (relabel scope X.env) N cl C s H ex pn) vx tv)(T:Il X.prog X.w X.K tg J fp it tn)(I:Inv X kd u H s)(R:∀b∈fp,EQ X kd H b)(st:tn 0 s.heap)(h1:∀y c,cl.lookup y=some c->X.env.cells.lookup y=some c)(h2:∀y,(y,NameKind.free)∈scope.names->∃c,cl.lookup y=some c)(hq:∀D,H D=none->∃W:Nat->Nat->Hp->Prop,(∃m,W 0 m (upd H D (.dK [])))/\Qy J D (Bq own ix u) g tt tk tv (Qd D) W)(S:∀D C j k,(∃m,k.heap.Ns C m)->Inv X kd u j k->(∀h v,Inv X kd h j v->∀h',Heap.SameBut C v.heap h'->Inv X kd h j {v with heap:=h'})->C≠X.env.locals->(∀x c,X.env.cells.lookup x=some c->C≠c)->Qd D j-> compPost (model X.prog X.w) X.A X.xe use Q (.ref D) C (.ok .next) k):wpAny (model X.prog X.w) X.A (newDict #[]) (λl n=>wpAny (model X.prog X.w) X.A (newFunctionEnv scope X.env.globals cl [] X.env.qual none .none (some X.env)) (λf p=> codeAny (model X.prog X.w) X.A (.compStart (.DictComp kx vx [⟨tg,iter,ifs,0⟩] scope pos) 0 (.ref it) l {f with scope:=relabel scope X.env}) (compPost (model X.prog X.w) X.A X.xe use Q l f.locals) p) X.xe n) X.xe s:=by
 refine AAu ?_ (by simp[sizeOk]);have i:Inv X kd u (upd H s.heap.objs.size (.dK [])) {s with heap:=s.heap.push {cls:= .type "dict",data:= .dict #[] }}:=I.laid (a:=s.heap.objs.size) (o:= .dK []) (t':=s.toks) (λ_ _ q=>AAH _ q) (AAJ _) (TL s.heap I.big);have U:=I.fresh;obtain⟨W,⟨m0,Y⟩,Z⟩:=hq _ U;have bM:∀b∈fp,b<s.heap.objs.size:=λb hb=>by obtain⟨o,e,_⟩:=T.obj _ _ st b hb;exact AAG e
 have E:∀b∈fp,EQ X kd (upd H s.heap.objs.size (.dK [])) b:=λb hb=>by obtain⟨a0,ar⟩:=R b hb;exact⟨by rw[AZ (AAL (bM b hb))];exact a0,ar⟩
 generalize oJ:({s with heap:=s.heap.push {cls:= .type "dict",data:= .dict #[] }}:zw)=s3 at i;have r:tn 0 s3.heap:=T.keep _ _ _ st λb hb o e=>by rw[<-oJ];exact AAH _ e
 have F:∀b∈fp,b<s3.heap.objs.size:=λb hb=>by obtain⟨o,e,_⟩:=T.obj _ _ r b hb;exact AAG e
 refine ADa O.nocell (by intro y hy;simp at hy) (λd iy oK=> ?_) O.kind;have M:∀b o,s3.heap.get? b=some o->d.get? b=some o:=λb o e=>oK.extBut b o (AAL (AAG e)) (AAH _ e);have eI:∀y,((relabel scope X.env).names.lookup y=some .cell\/(relabel scope X.env).names.lookup y=some .free)->∃c,cl.lookup y=some c:=λy hy=>by
  rcases hy with z|z
  .exact h2 y (Df O.nocell (HD z) (.inl rfl))
  .exact h2 y (Df O.nocell (HD z) (.inr rfl))
 have B:=VT (N:=N) (t':=s3.toks+([] :zy (Str×zx)).length) i E F (sc:=relabel scope X.env) O.kind h1 eI O.ins iy M;have t:tn 0 d:=T.keep _ _ _ r λb hb o e=>M b o e;have loop:∀G:zw,G={s3 with heap:=d,toks:=s3.toks+([] :zy (Str×zx)).length}->
  codeAny (model X.prog X.w) X.A (.compLoop (.DictComp kx vx [⟨tg,iter,ifs,0⟩] scope pos) 0 (.ref it) (.ref s.heap.objs.size) (FM X.env (relabel scope X.env) cl s3.heap.objs.size)) (compPost (model X.prog X.w) X.A X.xe use Q (.ref s.heap.objs.size) s3.heap.objs.size) G:=by rintro G rfl;refine Vc (cl:=cl) (Qh:=Qd s.heap.objs.size) hc O P T i E F Z (λσ' j k L q'=> ?_) m0 _ ⟨0,_,B,t,λb hb=>(E b hb).1,Y⟩;refine S _ _ j k (let ⟨m,hm,_⟩:=L.loc;⟨m,hm⟩) (Qu (own:=own) (ix:=ix) i E F L) (λh v I2 h' hs=>Na i rfl I2 L.free hs) (AAv i.lt) (λx c e=>AAv (i.szLt e)) q'
 exact codeAny_compStart_dict (loop _ rfl) (T.self _ 0 _ _ _ t (loop _ rfl))
def cW {i:Nat}{x:Str}{pos' b:Pos}(hc:X.calm=true)(hN:X.N.Nodup)(l:X.N[i]? =some x)(hx:Loc X.env.scope x)(hi:PI X tg iter wi)(O:Fy X tg kx ifs scope own ix N g tt tk)(n:∀cl C s H ex pn,PE (blk X (relabel scope X.env) N cl C s H ex pn) vx tv)(o:swapsWith (.DictComp kx vx [⟨tg,iter,ifs,0⟩] scope pos) (some (.Name x pos')) b.line X.env=pure true:=by rfl)(hs:∀x,foldedSetIterable iter X.env x=pure x:=by intro _;rfl)(p:X.fn x=true\/X.env.scope.names.lookup x=some .local:=by first | exact .inl rfl|exact .inr rfl|assumption):PS X (.Assign [.Name x pos'] (.DictComp kx vx [⟨tg,iter,ifs,0⟩] scope pos) b) (Pm (dg wi own ix g tt tk tv) (Bj i)):=by
 intro kd s k H D I h;obtain⟨cl,r,h1,h2⟩:=F6 (env:=X.env) (scope:=scope) λy hy e=>I.ok.has y.1 (.inl (O.frees y hy e));rw[exec_Assign_Name_used _ _ _ _ o];refine AAA (AA1 (AAA ?_));show wpAny _ _ (do let _ <-comprehension (.DictComp kx vx [⟨tg,iter,ifs,0⟩] scope pos) scope X.env _ (newDict #[]) false (eval iter X.env) (some (assign (.Name x pos') X.env))) _ _ s;refine AAA (BK (ACr (use:=some (assign (.Name x pos') X.env)) (Q:=λ_ c=>SP X kd D .next c) rfl hs r O.kind O.names (BK (hi kd s k H _ I h) λv U hv=>BK hv λt W u=> ?_)) λ_ c hq=>AAC (AAC hq));obtain⟨it,fp,tn,J,Y,rfl,w,T,f,A,q⟩:=u;refine Yv (Qd:=λd j=>Bj i (.ref d) k j D.nx) hc O n T w A f h1 h2 q λd C j c B E gone F G K=> ?_;obtain⟨m,L⟩:=B;show wpAny _ _ (assign (.Name x pos') X.env (.ref d)) _ _ c;refine ADS (La (v:= .ref d) E hN l hx rfl (λM P ⟨a,R,ha⟩=> ?_) p);have S:C≠a:=by
  rcases ha with z|z
  .rw [z];exact F
  .exact G x a z
 exact⟨m,L.sameBut R S,λh' hs=>⟨_,j,gone _ M P h' hs,K⟩⟩
end
section
variable {X:Cx}
def mK (i:Nat)(t:TS):TS:=λD b H=>∃a kvs,b[i]? =some (some (.ref a))/\H a=some (.dK kvs)/\∀o es ep,o.data= .dict es ep->t D b (upd H a (.frz o (.dK kvs)))
def gk {rest:zy Stmt}{t:TS}{i:Nat}(h:Uw X rest t):Uw X rest (mK i t):=by intro kd s c H D I q;obtain⟨a,kvs,_,e,q⟩:=q;obtain⟨z,hd,vs,b,d⟩:=XT I.hok e;obtain⟨o,es,ep,f,g⟩:=id d;have j:Inv X kd c (upd H a (.frz o (.dK kvs))) {s with heap:=s.heap,toks:=s.toks}:=Hj (h':=s.heap) I (by rw[e];exact True.intro) ⟨rfl,λ_ _=>rfl⟩ ⟨o,f⟩ ⟨f,Qz z hd b d⟩;exact h kd s c _ D j (q o es ep g.2.1)
end
end L2
namespace PL
open PySem PySem.Spec PyProof.Rows L2
def OM (m:zy (Int×Int))(k v:Int):zy (Int×Int):=if (m.any λp=>decide (p.1=k))=true then m.map (λp=>if p.1=k then (p.1,v) else p) else m ++ [(k,v)]
def Nr (m:zy (Int×Int))(k:Int):Int:=((m.find? λp=>decide (p.1=k)).map (·.2)).getD 0
def fk (m:zy (Int×Int))(k:Int):((Iu m).any λa=>decide (a.1=(.inl k:Cp)))=m.any λp=>decide (p.1=k):=by
 induction m with
 | nil=>rfl
 | cons p r ih=> unfold Iu at ih ⊢;rw[AAK,AA4,AA4,ih];congr 1;simp
def Xh (m:zy (Int×Int))(k v:Int):Iu (OM m k v)=D5 (Iu m) (.inl k) (.int v):=by
 unfold OM D5;rw[fk];split
 .unfold Iu;rw[AAe,AAe];apply AA9;intro p _;simp only[Function.comp];by_cases h:p.1=k
  .simp [h]
  .simp [h]
 .unfold Iu;rw[AAP];rfl
def fq (m:zy (Int×Int))(k:Int):(EV (Iu m) (.inl k)).getD (.int 0)= .int (Nr m k):=by
 induction m with
 | nil=>rfl
 | cons p r ih=>
   unfold Iu at ih ⊢;rw[AAK];by_cases h:p.1=k
   .rw [He (by simp[h])];simp[Nr,h]
   .rw [Hd (by simp[h]),ih];simp[Nr,h]
def ON (m:zy (Int×Int))(k v:Int):(OM m k v).length<=m.length+1:=by
 unfold OM;split
 .rw [AAI];omega
 .simp
def CT (many:Int)(m:zy (Int×Int)):zy (Int×Int):=m.foldl (λa p=>OM a p.1 (many*p.2)) []
def RG {m:zy (Int×Int)}{i:Nat}(h:i<m.length):(Iu m)[i]? =some (.inl m[i].1, .int m[i].2):=by unfold Iu;rw[AAp,AAT h];rfl
def Hu {c a:Type}{f:a->c->a}{b:a}{m:zy c}{i:Nat}(h:i<m.length):(m.take (i+1)).foldl f b=f ((m.take i).foldl f b) m[i] :=by rw[List.take_succ_eq_append_getElem h,ABg];rfl
def fG {K:AAB}{H:Hp}{r:L2.St}{s:Nat}{many:Int}{d n ep:Nat}{m:zy (Int×Int)}{Q:V->Hp->Prop}(y:Uv H d n ep (Iu m))(A:r[s]? =some (some (.int many)))(hl:m.length<sizeLine)(ok:∀p∈m,MulOk many p.2)(q:∀D c,H D=none->(∀b o,H b=some o->c b=some o)->c D=some (.dK (Iu (CT many m)))->Q (.ref D) c):∀D,H D=none->∃W:Nat->Nat->Hp->Prop,(∃k,W 0 k (upd H D (.dK [])))/\Qy (Itm d n ep) D (Bq 2 [s] r) (PM K 2 (DC (Bj 0) (DC (Bj 1) MI))) iP (DS 0) (Zh (rI MulOk λi j=> .int (i*j)) (DS 2) (DS 1)) (Q (.ref D)) W:=by
 intro D u;have B:Bq 2 [s] r= [none,none,some (.int many)] :=by unfold Bq;simp[A]
 rw[B];let W:Nat->Nat->Hp->Prop:=λi k c=>i+k=m.length/\(∀b o,H b=some o->c b=some o)/\c D=some (.dK (Iu (CT many (m.take i))))/\(CT many (m.take i)).length<=i;refine⟨W,⟨m.length,ACW _,λb o e=>by rw[AZ (Ah e u)];exact e,Aa,AAJ _⟩, ?_⟩;rintro i k c ⟨hi,ex,l,C⟩;have f:Uv c d n ep (Iu m):=let ⟨o,es,a,b⟩:=y;⟨o,es,ex _ _ a,b⟩;cases k with
 | zero=> left;refine⟨⟨_,f,by unfold Iu;rw[AAI];omega⟩,q D c u ex ?_⟩;rw[ABb (by omega)] at l;exact l
 | succ k=>
   right;have g:i<m.length:=by omega
   refine⟨⟨_,_,_,f,RG g⟩,λx F E=> ?_⟩;obtain⟨t,G,I,rfl,v,rfl,hu⟩:=E;have hx:=hu _ f;rw[RG g] at hx;cases hx;have J:D≠t:=λz=>by subst z;rw[l] at v;cases v
   have h:∀b o,c b=some o->upd c t (.tup [kV (.inl m[i].1), .int m[i].2]) b=some o:=λb o e=>by rw[AZ (Ah e v)];exact e
   refine⟨t,_,rfl, .inl (.inl (.inl Aa)),rfl,_,_,rfl,_,_,rfl,rfl, ?_⟩;dsimp only[iP];rw[AAE rfl];refine⟨_,rfl,_,rfl,_,rfl,many,m[i].2,rfl,rfl,ok _ (ABa g), ?_⟩;refine⟨.inl m[i].1,_,rfl,h _ _ l,by unfold Iu;rw[AAI];omega,k,by omega,by omega,λb o e=> ?_, ?_, ?_⟩
   .rw [AZ (Ah e u)];exact h _ _ (ex _ _ e)
   .rw [Aa];unfold CT;rw[Hu g,Xh]
   .unfold CT at C ⊢;rw[Hu g];have:=ON ((m.take i).foldl (λw p=>OM w p.1 (many*p.2)) []) m[i].1 (many*m[i].2);omega
def D4 (more:Int)(a m:zy (Int×Int)):zy (Int×Int):=m.foldl (λa p=>OM a p.1 (Nr a p.1+more*p.2)) a
def bf (d a b c:Nat):TS:=jH (DS d) (DS a) (Zh (Pf λi j=> .int (i+j)) (dh (DS d) (DS a) (tC (.int 0))) (Zh (rI MulOk λi j=> .int (i*j)) (DS c) (DS b)))
def gH {K:AAB}{H H1:Hp}{σ0:L2.St}{D:MD}{B c f s:Nat}{more:Int}{d n ep a:Nat}{m acc0:zy (Int×Int)}(U:B≠c)(X:B≠f)(Y:s≠c)(Z:s≠f)(n5:c≠f)(l1:c<σ0.length)(l2:f<σ0.length)(fd:Uv H d n ep (Iu m))(ha:H a=none)(J:∀b o,H b=some o->H1 b=some o)(h1:H1 a=some (.dK (Iu acc0)))(hw:σ0[B]? =some (some (.ref a)))(hm:σ0[s]? =some (some (.int more)))(ok:∀p∈m,MulOk more p.2)(hl:acc0.length+m.length<sizeLine)(L:∀σ' g,σ'.length=σ0.length->(∀j,j≠c->j≠f->σ'[j]? =σ0[j]?)->(∀b o,H b=some o->g b=some o)->g a=some (.dK (Iu (D4 more acc0 m)))->D.nx σ' g):∃W:Nat->Nat->L2.St->Hp->Prop,(∃k,W 0 k σ0 H1)/\∀i k v g,W i k v g-> ((Itm d n ep).stop i g/\D.nx v g)\/((Itm d n ep).go i g/\∃N:L2.St->Hp->Prop,(∀σ' w,N σ' w->∃Q,Q<k/\W (i+1) Q σ' w)/\∀x w,(Itm d n ep).yld i g x w->PM K 2 (DC (Bj c) (DC (Bj f) MI)) x v w λl R=>bf B c f s {D with nx:=N,ct:=N,bk:=D.nx} l R):=by
 let W:Nat->Nat->L2.St->Hp->Prop:=λi k v g=>i+k=m.length/\(v.length=σ0.length/\∀j,j≠c->j≠f->v[j]? =σ0[j]?)/\(∀b o,H b=some o->g b=some o)/\g a=some (.dK (Iu (D4 more acc0 (m.take i))))/\(D4 more acc0 (m.take i)).length<=acc0.length+i;refine⟨W,⟨m.length,ACW _,⟨rfl,λ_ _ _=>rfl⟩,J,h1,AAJ _⟩, ?_⟩;rintro i k v g ⟨hi,⟨S,T⟩,ex,M,yG⟩;have y:Uv g d n ep (Iu m):=let ⟨o,es,a,b⟩:=fd;⟨o,es,ex _ _ a,b⟩;cases k with
 | zero=> left;refine⟨⟨_,y,by unfold Iu;rw[AAI];omega⟩,L v g S T ex ?_⟩;rw[ABb (by omega)] at M;exact M
 | succ k=>
   right;have C:i<m.length:=by omega
   refine⟨⟨_,_,_,y,RG C⟩,λσ' w=>W (i+1) k σ' w,λσ' w h=>⟨k,by omega,h⟩,λx w yl=> ?_⟩;obtain⟨t,kk,xx,rfl,hn,rfl,hu⟩:=yl;have hx:=hu _ y;rw[RG C] at hx;cases hx;have z:∀b o,g b=some o->upd g t (.tup [kV (.inl m[i].1), .int m[i].2]) b=some o:=λb o e=>by rw[AZ (Ah e hn)];exact e
   refine⟨t,_,rfl, .inl (.inl (.inl Aa)),rfl,_,_,rfl,_,_,rfl,rfl, ?_⟩;generalize G:(v.set c (some (kV (.inl m[i].1)))).set f (some (V.int m[i].2))=l;have A:l.length=σ0.length:=by rw[<-G];simp[S]
   have r:∀j,j≠c->j≠f->l[j]? =σ0[j]? :=λj h h'=>by rw[<-G,AAb (AAd h'),AAb (AAd h)];exact T j h h'
   have E:l[c]? =some (some (.int m[i].1)):=by rw[<-G,AAb (AAd n5),ABx (by omega)];rfl
   have O:l[f]? =some (some (.int m[i].2)):=by rw[<-G,ABx (by simp;omega)]
   have F:l[B]? =some (some (.ref a)):=by rw[r B U X];exact hw
   have P:l[s]? =some (some (.int more)):=by rw[r s Y Z];exact hm
   have I:=z _ _ M;generalize hH:upd g t (.tup [kV (.inl m[i].1), .int m[i].2])=R at z I;refine⟨_,F,a,rfl, .inl ⟨_, .inl I⟩,_,E,_,U3.k (k:= .inl m[i].1) I,_,P,_,O,more,m[i].2,rfl,rfl,ok _ (ABa C), ?_⟩;rw[fq];refine⟨_,_,rfl,rfl,_,F,_,E,a,_,rfl,U4.k (k:= .inl m[i].1) I (by unfold Iu;rw[AAI];omega),by omega,⟨A,r⟩,λb o e=> ?_, ?_, ?_⟩
   .rw [AZ (Ah e ha)];exact z _ _ (ex _ _ e)
   .rw [Aa];unfold D4;rw[Hu C,Xh]
   .unfold D4 at yG ⊢;rw[Hu C];have:=ON ((m.take i).foldl (λu p=>OM u p.1 (Nr u p.1+more*p.2)) acc0) m[i].1 (Nr ((m.take i).foldl (λu p=>OM u p.1 (Nr u p.1+more*p.2)) acc0) m[i].1+more*m[i].2);omega
def vB (te:TE):TI:=λa H R=>te a H λv H1=>∃d n ep kvs,v= .ref d/\Uv H1 d n ep kvs/\R (Itm d n ep) H1
def xW (K:AAB)(te:TE)(a b:Nat):TS:=Pm (dg (vB te) 2 [b] (PM K 2 (DC (Bj 0) (DC (Bj 1) MI))) iP (DS 0) (Zh (rI MulOk λi j=> .int (i*j)) (DS 2) (DS 1))) (Bj a)
def vJ (K:AAB)(te:TE)(d a b c:Nat):TS:=mJ (vB te) (PM K 2 (DC (Bj a) (DC (Bj b) MI))) (bf d a b c)
section
variable {K:AAB}{B:C5}{T:zu->Prop}{H:Hp}{σ σ':L2.St}{τ τ':A5}
def SR.loose (s:SR K B T H σ τ)(hl:σ'.length=τ'.length)(h:∀(j:Nat) (a:AV),τ'[j]? =some (some a)->τ[j]? =some (some a)/\σ'[j]? =σ[j]?):SR K B T H σ' τ'/\∀b,Cn σ' τ' b->Cn σ τ b:=by
 have g:∀b,Cn σ' τ' b->Cn σ τ b:=λb ⟨j,xs,h1,h2⟩=>let ⟨c,d⟩:=h j _ h1;⟨j,xs,c,by rw[<-d];exact h2⟩;have i:Mv K T (mt B σ τ) H T (mt B σ' τ') H:= .anti s.va λa m=>m.elim .inl λz=> .inr (g a z);refine⟨⟨hl,λj y e=> ?_,λj ys e=> ?_,λj k ys o p r t l n=> ?_,s.tp,s.bm,s.bt,s.st⟩,g⟩
 .obtain ⟨c,d⟩:=h j _ e;obtain⟨w,hw,f⟩:=s.val j y c;exact⟨w,by rw[d];exact hw,f.mv i⟩
 .obtain ⟨c,d⟩:=h j _ e;obtain⟨p,vs,h1,h2,u,v⟩:=s.own j ys c;exact⟨p,vs,by rw[d];exact h1,h2,u.mv i,v⟩
 .obtain ⟨c,d⟩:=h j _ r;obtain⟨x,b2⟩:=h k _ t;rw[d] at l;rw[b2] at n;exact s.dist j k ys o p c x l n
end
def kr (x:PV)(R:zy (Int×Int)->Prop):Prop:=match x with | .dk m=>R m|_=>False
def Xs {x:PV}{R:zy (Int×Int)->Prop}(h:kr x R):∃m,x= .dk m/\R m:=by cases x <;> first | exact⟨_,rfl,h⟩|exact h.elim
def aQ (c a b e d:Nat)(f g:AE):AS:=λD τ=>(c<τ.length/\a<τ.length/\b<τ.length)/\f τ λx=>kr x λm1=>∃many,τ[e]? =some (some (.val (.int many)))/\m1.length<sizeLine/\(∀p∈m1,MulOk many p.2)/\
 g (τ.set c none) λy=>kr y λm2=>∃more,τ[d]? =some (some (.val (.int more)))/\(CT many m1).length+m2.length<sizeLine/\(∀p∈m2,MulOk more p.2)/\
 D.nx (((τ.set c (some (.val (.dk (D4 more (CT many m1) m2))))).set a none).set b none)
def vP {k:Nat}{A:ke}(a:Room k A):A.units+1<cLine:=by have:=a.un;omega
section
variable {X:Cx}
def dR {e1 e2:zr}{ta tb:AE}{m p:Stmt}{rest:zy Stmt}{b:AS}{f g k im s:Nat}(n1:f≠g)(n2:f≠k)(n3:s≠g)(n4:s≠k)(n5:g≠k)(n6:s≠f)(h1:SE X e1 ta)(h2:SE X e2 tb)(p1:∀te,PE X e1 te->PS X m (xW X.K te f im))(p2:∀te,PE X e2 te->PS X p (vJ X.K te f g k s))(h3:Zr X rest b):Zr X (m::p::rest) (AY (aQ f g k im s ta tb) b):=by
 obtain⟨t1,q1,s1⟩:=h1;obtain⟨t2,q2,s2⟩:=h2;obtain⟨t3,q3,s3⟩:=h3;refine⟨_,Bk (p1 t1 q1) (Bk (p2 t2 q2) (gk (i:=f) q3)),λB T I τ H D AD A h er=> ?_⟩;obtain⟨⟨l0,l1,l2⟩,h⟩:=h;refine s1 B T I τ H _ _ A h λv x S H1 m r1 h1=> ?_;obtain⟨m1,rfl,many,oC,Y,Z,h1⟩:=Xs h1;have u:=A.stp m;obtain⟨vm,yX,rvm⟩:=u.val _ _ oC;cases rvm;cases r1 with
 | dk hh eo=>
 rename_i d o es ep;have J:Uv H1 d m1.length ep (Iu m1):=⟨o,es,hh,eo,by unfold Iu;rw[AAI]⟩;refine⟨_,_,_,_,rfl,J, ?_⟩;refine fG (K:=X.K) (Q:=λx H1=>Bj f x I H1 (Wt (vJ X.K t2 f g k s) (mK f t3) D)) J yX Y Z λa H2 ha ex hD=> ?_;have L:¬S a:=λz=>by obtain⟨o,e,_⟩:=(u.tp a z).mut;rw[ha] at e;cases e
 have M:DI S H1 S H2:=YM u.va ex;have sr2:=u.stp M;obtain⟨N,_⟩:=sr2.loose (σ':=I.set f (some (.ref a))) (τ':=τ.set f none) (by simp[A.len]) λj c e=>by
  rcases BP e with⟨_,C,_⟩|⟨n,C⟩
  .cases C
  .exact ⟨C,AAb (λz=>n z.symm)⟩
 refine s2 B S _ _ H2 _ _ N h1 λv2 y U G p r2 h2=> ?_;obtain⟨m2,rfl,more,oE,hsz,ok2,h2⟩:=Xs h2;obtain⟨vr,yY,rvr⟩:=A.val _ _ oE;cases rvr;have eB:G a=some (.dK (Iu (CT many m1))):=p.keep _ _ L hD;have na2:¬U a:=λz=>by
  rcases p.new a z with z|z
  .exact L z
  .rw [hD] at z;cases z
 cases r2 with
 | dk W O=>
 rename_i d2 o2 P ep2;have da:d2≠a:=λz=>by subst z;rw[eB] at W;cases W
 have fd2:Uv G d2 m2.length ep2 (Iu m2):=⟨o2,P,W,O,by unfold Iu;rw[AAI]⟩;refine⟨_,_,_,_,rfl,fd2, ?_⟩;let H0:Hp:=λb=>if b=a then none else G b
 have E:(I.set f (some (V.ref a))).length=τ.length:=by simp[A.len]
 refine gH (K:=X.K) (H:=H0) (H1:=G) (σ0:=I.set f (some (V.ref a))) (D:={D with nx:=mK f t3 D}) (acc0:=CT many m1) (a:=a) (more:=more) n1 n2 n3 n4 n5 (by rw[E];exact l1) (by rw[E];exact l2) ⟨o2,P,(AAD da).trans W,O,by unfold Iu;rw[AAI]⟩ (AAE rfl) (λb o e=> ?_) eB ?_ ?_ ok2 hsz λσ' H4 sl so R xk=> ?_
 .by_cases z:b=a
  .rw [show H0 b=none from AAE z] at e;cases e
  .rw [show H0 b=G b from AAD z] at e;exact e
 .rw [ABx (by rw[A.len];exact l0)]
 .rw [AAb (λz=>n6 z.symm)];exact yY
 refine⟨a,_, ?_,xk,λo es ep eo=> ?_⟩
 .rw [so f n1 n2,ABx (by rw[A.len];exact l0)]
 have l:DI T H U G:=(m.trans M).trans p;have St:DI T H U (upd H4 a (.frz o (.dK (Iu (D4 more (CT many m1) m2))))):=by
  refine⟨λb q nt e=> ?_,l.sub,l.new,λx t=> ?_⟩
  .have z:b≠a:=λz=>by subst z;have:=m.keep _ _ nt e;rw[ha] at this;cases this
   rw[AZ z];exact R b q ((AAD z).trans (l.keep b q nt e))
  .have z:x≠a:=λz=>by subst z;exact na2 t
   obtain⟨d,w,e,r⟩:=l.tp x t;exact⟨d,w,by rw[AZ z];exact R _ _ ((AAD z).trans e),r⟩
 have sr5:=A.stp St;have sr6:=sr5.set (i:=f) (v:= .ref a) (x:= .dk (D4 more (CT many m1) m2)) (.dk Aa eo);obtain⟨sr7,ow⟩:=sr6.loose (σ':=σ') (τ':=((τ.set f (some (.val (.dk (D4 more (CT many m1) m2))))).set g none).set k none) (by rw[sl,E];simp) λj c e=>by
  rcases BP e with⟨_,C,_⟩|⟨k2,C⟩
  .cases C
  .rcases BP C with⟨_,F,_⟩|⟨k1,F⟩
   .cases F
   .exact ⟨F,so j k1 k2⟩
 exact s3 B U σ' _ _ D AD sr7 h2 (er.shift (St.prog.trans (.less λb z=>Cz (ow b z))))
end
end PL
namespace L2
open PySem PySem.Spec PyProof.Rows
def qy (K:AAB)(l:zu):It:=
 ⟨λi H=>∃xs x,E8 K H l xs/\xs[i]? =some x,
  λi H v a=>∃T x,v= .ref T/\H T=none/\a=upd H T (.tup [.int i,x])/\∀xs,E8 K H l xs->xs[i]? =some x,
  λi H=>∃xs,E8 K H l xs/\xs.length<=i⟩
def Zj {P:kj}{w:ki}{K:AAB}{es:zy zr}{G:Nat}{n:Pos}{e it l:zu}(C:e≠it):Il P w K (.Tuple es G n) (qy K l) [e,it] e (λk h=>(∃b,IsEnum h e it (k:Nat) b)/\h.IsListIter it l k) where
 mem:=by simp
 obj:=λk h st p hp=>by
  obtain⟨⟨b,he⟩,hi⟩:=st;have f:p=e\/p=it:=by simpa using hp
  rcases f with q|q
  .subst q;exact⟨_,he,λv z=>nomatch z⟩
  .subst q;obtain⟨o,a,c,d⟩:=hi;exact⟨o,a,λv z=>by rw[d] at z;cases z⟩
 keep:=λk h h' st j=>by obtain⟨⟨b,he⟩,hi⟩:=st;exact⟨⟨b,j e (by simp) _ he⟩,hi.at λo a=>j it (by simp) o a⟩
 item:=by
  intro X r hw t hc k kd s D H E I m st y;subst r hw t;obtain⟨⟨b,he⟩,hi⟩:=st;obtain⟨xs,x,hq,hx⟩:=y;obtain⟨A,rv,p,hz⟩:=I.list hq;obtain⟨u,hu,J⟩:=rv.get hx;have i:e<s.heap.objs.size:=AAG he;have B:it<s.heap.objs.size:=by obtain⟨o,a,_⟩:=id hi;exact AAG a
  refine wpAny_pyNext_enum_item he hi p.isList (x:=u) (by simpa using hu) C λh1 L M N Y O=> ?_;refine⟨_,rfl,wpAny_letOwnedTupleGo_enum (s:={s with heap:=h1,toks:=s.toks+1}) L λh2 Q R=> ?_⟩;have g:∀p o,p≠e->h1.get? p=some o->h2.get? p=some o:=λp o q z=>R.extBut _ _ q z;have F:∀p∈ [e,it],p<s.heap.objs.size:=λp hp=>by
   have f:p=e\/p=it:=by simpa using hp
   rcases f with q|q
   .rw [q];exact i
   .rw [q];exact B
  have j:∀p o,p ∉ [e,it] ->s.heap.get? p=some o->h2.get? p=some o:=λp o hp z=>by
   have f:p≠e/\p≠it:=by simpa using hp
   exact g p o f.1 (O p o f.1 f.2 z)
  have S:Inv X kd D (upd H s.heap.objs.size (.tup [.int k,x])) {s with heap:=h2,toks:=s.toks+1}:=I.turnedN m F j (AAJ _)
   ⟨(by show 2<=sizeLine;decide), [.int k s.toks,u], .cons ⟨_,rfl⟩ (.cons J .nil),⟨_,g _ _ (AAv i) N,rfl,_,rfl⟩⟩
  have T:H s.heap.objs.size=none:=I.fresh;refine⟨.ref s.heap.objs.size,upd H s.heap.objs.size (.tup [.int k,x]),S,rfl,⟨_,x,rfl,T,rfl,λU h'=> ?_⟩,⟨⟨u, ?_⟩, ?_⟩,λp hp=> ?_⟩
  .rw [I.list_inj h' hq];exact hx
  .have:((k+1:Nat):Int)=(k:Int)+1:=by push_cast;rfl
   rw[this];exact Q
  .exact M.at λo z=>g it o C.symm z
  .rw [AZ (AAL (F p hp))];exact(m p hp).1
 done:=by
  intro X r hw t hc k kd s D H E I m st y;subst r hw t;obtain⟨⟨b,he⟩,hi⟩:=st;obtain⟨xs,hq,hx⟩:=y;obtain⟨A,rv,p,hz⟩:=I.list hq;have hl:=rv.length;refine wpAny_pyNext_enum_end (I.ok.hd hc) he hi p.isList (by simp;omega) λh' W=>⟨rfl, ?_⟩;exact I.turnedL (t':=s.toks) m λp o hp z=>by
   have f:p≠e/\p≠it:=by simpa using hp
   exact W p o f.2 z
 self:=λ_ _ _ _ _ st h=>by obtain⟨⟨b,he⟩,_⟩:=st;exact ADB he h
section
variable {X:Cx}
def oN (K:AAB)(a:TA):TI:=λb H R=>a b H λvs H1=>∃l,vs= [.ref l] /\(∃xs,E8 K H1 l xs)/\R (qy K l) H1
def gZ {e:zr}{f:TA}{p b c:Pos}{es:zy zr}{j:Nat}(k:Gl X "enumerate")(m:X.mg "enumerate" =none)(ha:PA X [e] f)(hs:starEach [e] X.env= [(false,eval e X.env)] :=by rfl):PI X (.Tuple es j c) (.Call (.Name "enumerate" p) [e] [] b) (oN X.K f):=by
 intro kd s n H R I h;refine Call_ (Iw I k m boot_enumerate (ACF (BK (ha b kd s n H _ I h) λus a ⟨vs,H1,d,o,t⟩=> ?_) (by rw[hs];rfl) rfl));obtain⟨l,rfl,⟨xs,hl⟩,q⟩:=t;cases o with
 | cons r u=>
 cases u;cases r;obtain⟨v,rv,p,hz⟩:=d.list hl;refine call_enumerate_list p.isList λh' g b2 x w=> ?_;refine ADB g ?_;have i:∀p∈ [a.heap.objs.size+1,a.heap.objs.size],a.heap.objs.size<=p:=λp hp=>by
  have y:p=a.heap.objs.size+1\/p=a.heap.objs.size:=by simpa using hp
  omega
 exact⟨_,_,_,_,H1,rfl,d.kept (t':=a.toks) w,Zj (Nat.succ_ne_self _),⟨⟨.none,g⟩,b2⟩,λp hp=>d.fpOk (i p hp) (d.hok.fresh (i p hp)),q⟩
end
end L2
namespace PL
open PySem PySem.Spec PyProof.Rows L2
def Dv (k:Nat):zy PV->zy PV
 | [] => []
 | x::r=> .tup [.int k,x] :: Dv (k+1) r
theorem K0:∀(xs:zy PV) (k:Nat),(Dv k xs).length=xs.length
 | [],_=>rfl
 | _::r,k=>by rw[Dv,AAc,K0 r,AAc]
theorem Fs:∀(xs:zy PV) (k i:Nat) (z:PV),(Dv k xs)[i]? =some z->∃x,xs[i]? =some x/\z= .tup [.int ((k+i:Nat):Int),x]
 | [],_,_,_,h=>by simp[Dv] at h
 | x::r,k,0,z,h=>⟨x,rfl,by simp[Dv] at h;rw[<-h];rfl⟩
 | x::r,k,i+1,z,h=>by obtain⟨y,h1,h2⟩:=Fs r (k+1) i z (by simpa[Dv] using h);refine⟨y,by simpa using h1, ?_⟩;rw[h2,show k+1+i=k+(i+1) by omega]
def ZD {K:AAB}{T M:zu->Prop}{H:Hp}{l:zu}{xs:zy PV}(va:Gi T M H)(r:CM K T M H (.ref l) (.lst xs)):S3 K M (qy K l) (Dv 0 xs) T H:=by
 obtain⟨a,vs,e,hq,k,nm,b⟩:=DH r;cases e;have c:E8 K H l vs:= .inl (.inl hq);refine⟨λi z h=> ?_,λi z v m h f=> ?_,λi h=>⟨vs,c, ?_⟩⟩
 .obtain ⟨x,hx,_⟩:=Fs xs 0 i z h;obtain⟨u,hu,_⟩:=b.get hx;exact⟨vs,u,c,hu⟩
 .obtain ⟨x,hx,rfl⟩:=Fs xs 0 i z h;obtain⟨p,u,rfl,g,rfl,hu⟩:=f;obtain⟨n,d,j⟩:=b.get' (hu vs c);rw[hx] at d;cases d;have st:=DI.lay (o:= .tup [.int (i:Nat),u]) va.tp g;rw[ACW];exact⟨st, .tup (.inl Aa) (.cons (.int _) (.cons (j.stp st va) .nil))⟩
 .rw [b.length];rw[K0] at h;exact h
section
variable {X:Cx}
def rG (r:AA):AI:=λτ Q=>r τ λa=>match a with | [.lst xs] =>Q (Dv 0 xs)|_=>False
def tI {e:zr}{r:AA}{p c b:Pos}{es:zy zr}{d:Nat}(f:Gl X "enumerate")(g:X.mg "enumerate" =none)(ha:SA X [e] r)(hs:starEach [e] X.env= [(false,eval e X.env)] :=by rfl):SI X (.Tuple es d b) (.Call (.Name "enumerate" p) [e] [] c) true (rG r):=by
 obtain⟨t,i,s⟩:=ha;refine⟨_,gZ f g i hs,λB T j τ H R v l h k=>s B T j τ H _ _ l h λvs xs m H1 n o h1=> ?_⟩;split at h1 <;> first | exact h1.elim|skip
 cases o with
 | cons ra t=> cases t;obtain⟨a,us,rfl,hq,_,_,w⟩:=DH ra;exact⟨a,rfl,⟨us, .inl (.inl hq)⟩,k _ _ m H1 n (λM2 x y u va _=>ZD va (ra.mv u)) h1⟩
end
end PL
namespace L2
open PySem PySem.Spec PyProof.Rows
def ae {prog:kj}{w:ki}{A:ke}(c:A.handled=none)(b:km)(it l:zu)(d:l≠it)(items:Array zx):Draws prog w A it [it,l] items.size (λi v=>items[i]? =some v) (λi h=>O9 b h it l i/\MX b h l items) where
 live:=λ_ _ st=>let ⟨o,f,_⟩:=st.1.obj;⟨o,f⟩
 frame:=λ_ _ _ st hk=>⟨st.1.mv λo e=>hk it (by simp) o e,st.2.mv λo e=>hk l (by simp) o e⟩
 item:=λi s Q E hi st hQ=>by refine J0 st.1 st.2 (x:=items[i]) (by simp[hi]) λh' g a=> ?_;exact hQ _ h' s.toks (by simp[hi]) ⟨g,st.2.mv λo e=>a.extBut _ _ d e⟩ a
 done:=λs Q E st j=>Hk c st.1 st.2 (by simp) j
def jY (K:AAB)(b:km)(l:zu):It:=
 ⟨λi H=>∃xs x,Sq K b H l xs/\xs[i]? =some x,
  λi H v a=>∃T x,v= .ref T/\H T=none/\a=upd H T (.tup [.int i,x])/\∀xs,Sq K b H l xs->xs[i]? =some x,
  λi H=>∃xs,Sq K b H l xs/\xs.length<=i⟩
def iB {b:km}{h:kf}{q l:zu}{k:Nat}(x:O9 b h q l k):∃o,h.get? q=some o/\(o.cls= .type "list_iterator" \/o.cls= .type "tuple_iterator"):=by
 cases b with
 | true=>obtain⟨o,a,c,_⟩:=x;exact⟨o,a, .inl c⟩
 | false=>obtain⟨o,a,c,_⟩:=x;exact⟨o,a, .inr c⟩
def iH {b:km}{h:kf}{l:zu}{xs:Array zx}(x:MX b h l xs):∃o,h.get? l=some o/\(o.cls= .type "list" \/o.cls= .type "tuple"):=by
 cases b with
 | true=>obtain⟨o,a,c,_⟩:=x;exact⟨o,a, .inl c⟩
 | false=>obtain⟨o,a,c,_⟩:=x;exact⟨o,a, .inr c⟩
def dS {b:km}{h:kf}{e it l:zu}{k:Nat}{i:Int}{f:zx}{xs:Array zx}(x:MX b h l xs)(y:O9 b h it l k)(z:IsEnum h e it i f):l≠it/\l≠e:=by
 obtain⟨o,a,c⟩:=iH x;obtain⟨j,g,d⟩:=iB y;refine⟨λq=> ?_,λq=> ?_⟩
 .subst q;rw[a] at g;cases g;rcases c with c|c <;> rcases d with d|d <;> (rw[c] at d;simp at d)
 .subst q;rw[z] at a;cases a;rcases c with c|c <;> simp at c
def Wx {P:kj}{w:ki}{K:AAB}{es:zy zr}{R:Nat}{t:Pos}{b:km}{e it l:zu}(B:e≠it):Il P w K (.Tuple es R t) (jY K b l) [e,it] e (λk h=>(∃c,IsEnum h e it (k:Nat) c)/\O9 b h it l k) where
 mem:=by simp
 obj:=λk h st p hp=>by
  obtain⟨⟨c,he⟩,hi⟩:=st;have f:p=e\/p=it:=by simpa using hp
  rcases f with q|q
  .subst q;exact⟨_,he,λv z=>nomatch z⟩
  .subst q;exact hi.obj
 keep:=λk h h' st m=>by obtain⟨⟨c,he⟩,hi⟩:=st;exact⟨⟨c,m e (by simp) _ he⟩,hi.mv λo a=>m it (by simp) o a⟩
 item:=by
  intro X C hw D hc k kd s L H E I r st F;subst C hw D;obtain⟨⟨c,he⟩,hi⟩:=st;obtain⟨xs,x,hq,hx⟩:=F;obtain⟨d,rv,p,hz⟩:=I.sq hq;obtain⟨u,hu,S⟩:=rv.get hx;have j:e<s.heap.objs.size:=AAG he;have G:it<s.heap.objs.size:=by obtain⟨o,a,_⟩:=hi.obj;exact AAG a
  obtain⟨M,N⟩:=dS p hi he;have T:k<d.toArray.size:=by have:=(AA0.mp hu).1;simpa using this
  refine wpAny_pyNext_enum_itemD (ae (prog:=X.prog) (w:=X.w) (A:=X.A.in1) (I.ok.hd hc) b it l M d.toArray) he ⟨hi,p⟩ T B (by simp only[AAF,AAj,AAh];rintro(z|z);exact B z;exact N z.symm) λy h1 J hy U W Y a4 Z=> ?_;have ya:y=u:=by
   have:d[k]? =some y:=by simpa using hy
   rw[hu] at this;exact(AAY this).symm
  subst ya;refine⟨_,rfl,wpAny_letOwnedTupleGo_enum (s:={s with heap:=h1,toks:=J+1}) U λh2 c1 c2=> ?_⟩;have g:∀p o,p≠e->h1.get? p=some o->h2.get? p=some o:=λp o q z=>c2.extBut _ _ q z;have O:∀p∈ [e,it],p<s.heap.objs.size:=λp hp=>by
   have f:p=e\/p=it:=by simpa using hp
   rcases f with q|q
   .rw [q];exact j
   .rw [q];exact G
  have m:∀p o,p ∉ [e,it] ->s.heap.get? p=some o->h2.get? p=some o:=λp o hp z=>by
   have f:p≠e/\p≠it:=by simpa using hp
   exact g p o f.1 (Z p o f.1 f.2 z)
  have I2:Inv X kd L (upd H s.heap.objs.size (.tup [.int k,x])) {s with heap:=h2,toks:=J+1}:=I.turnedN r O m (AAJ _)
   ⟨(by show 2<=sizeLine;decide), [.int k J,y], .cons ⟨_,rfl⟩ (.cons S .nil),⟨_,g _ _ (AAv j) Y,rfl,_,rfl⟩⟩
  have Tl:H s.heap.objs.size=none:=I.fresh;refine⟨.ref s.heap.objs.size,upd H s.heap.objs.size (.tup [.int k,x]),I2,rfl,⟨_,x,rfl,Tl,rfl,λxs' h'=> ?_⟩,⟨⟨y, ?_⟩, ?_⟩,λp hp=> ?_⟩
  .rw [I.sq_inj h' hq];exact hx
  .have:((k+1:Nat):Int)=(k:Int)+1:=by push_cast;rfl
   rw[this];exact c1
  .exact W.1.mv λo z=>g it o B.symm z
  .rw [AZ (AAL (O p hp))];exact(r p hp).1
 done:=by
  intro X C hw D hc k kd s L H E I r st F;subst C hw D;obtain⟨⟨c,he⟩,hi⟩:=st;obtain⟨xs,hq,hx⟩:=F;obtain⟨d,rv,p,hz⟩:=I.sq hq;have hl:=rv.length;have sz:d.toArray.size<=k:=by simp;omega
  obtain⟨M,N⟩:=dS p hi he;refine wpAny_pyNext_enum_endD (n:=k) (P:=λ_ _=>True) (St:=λi h=>i=k/\O9 b h it l k/\MX b h l d.toArray) (fp:= [it,l]) ⟨λ_ _ st=>let ⟨o,ho,_⟩:=st.2.1.obj;⟨o,ho⟩,λ_ _ _ st hk=>⟨st.1,st.2.1.mv λo e=>hk it (by simp) o e,st.2.2.mv λo e=>hk l (by simp) o e⟩,λi s Q E hi st hQ=>absurd hi (by rw[st.1];omega),λs Q E st hE=>Hk (A:=X.A.in1) (I.ok.hd hc) st.2.1 st.2.2 (by simp;simpa using sz) hE⟩ he ⟨rfl,hi,p⟩ λh' eb=>⟨rfl, ?_⟩;exact I.turnedL (t':=s.toks) r λp o hp z=>by
   have f:p≠e/\p≠it:=by simpa using hp
   exact eb p o f.2 z
 self:=λ_ _ _ _ _ st h=>by obtain⟨⟨c,he⟩,_⟩:=st;exact ADB he h
def Iz (b:km)(l:zu)(items:Array zx):Meets (Builtin.«enumerate.__new__» ⟨[.type "enumerate", .ref l], []⟩) (λ_ R s=>MX b s.heap l items/\ R (.ok (.ret (.ref (s.heap.push (V1 b l)).objs.size))) {s with heap:=(s.heap.push (V1 b l)).push {cls:= .type "enumerate",data:= .fields #[.none, .bool false, .ref s.heap.objs.size,rawInt 0, .none, .none] }}):=
 .of_wp λprog w A R s h=>by
   obtain⟨hp,g,d,e,os⟩:=s;obtain⟨hl,h⟩:=h;have f:=sub_enumerate;have a:MX b hp l items:=hl
   wp_walk using K5 a
   refine wpAny_stack_any λst=>AAC ?_;split
   .rename_i c _ _ _ _ _;cases (c==Value.type "enumerate")
    .wp_walk using K5 a
     exact⟨_,rfl,h⟩
    .wp_walk using K5 a
     exact⟨_,rfl,h⟩
   .wp_walk using K5 a
    exact⟨_,rfl,h⟩
section
variable {prog:kj}{w:ki}{A:ke}{E:zx->zw->Prop}{s:zw}
def Jw {b:km}{l:zu}{items:Array zx}{Q:zx->zw->Prop}(a:MX b s.heap l items)(h:∀h',IsEnum h' (s.heap.objs.size+1) s.heap.objs.size 0 .none->O9 b h' s.heap.objs.size l 0->h'.objs.size=s.heap.objs.size+2-> (∀b o,s.heap.get? b=some o->h'.get? b=some o)->Q (.ref (s.heap.objs.size+1)) {s with heap:=h'}):wpAny (model prog w) A (call (.type "enumerate") [.ref l]) Q E s:=by
 refine callType_new F.called_enumerate (by decide) (F.typeCall_enumerate_1 _) (F.newCall_enumerate_1 _) (λobj=>F.args_object_init_2 obj _) F.entry_enumerate_new
  (Iz b l items) ⟨a, ?_⟩
 have hz:(s.heap.push (V1 b l)).objs.size=s.heap.objs.size+1:=ABH ..;show _/\_;rw[hz];have he:IsEnum ((s.heap.push (V1 b l)).push
  {cls:= .type "enumerate",data:= .fields #[.none, .bool false, .ref s.heap.objs.size,rawInt 0, .none, .none] }) (s.heap.objs.size+1) s.heap.objs.size 0 .none:=by
  have:=AAS (s.heap.push (V1 b l))
   (o:={cls:= .type "enumerate",data:= .fields #[.none, .bool false, .ref s.heap.objs.size,rawInt 0, .none, .none] }) rfl
  rw[hz] at this;exact this
 exact⟨⟨_,he,rfl⟩,h _ he (bV (AAH _ (AAS _ rfl))) (by rw[ABH,hz]) λb o x=>AAH _ (AAH _ x)⟩
end
section
variable {X:Cx}
def kI (K:AAB)(a:TA):TI:=λc H R=>a c H λvs H1=>∃b l,vs= [.ref l] /\(∃xs,Sq K b H1 l xs)/\R (jY K b l) H1
def cP {e:zr}{g:TA}{p c d:Pos}{es:zy zr}{k:Nat}(m:Gl X "enumerate")(n:X.mg "enumerate" =none)(ha:PA X [e] g)(hs:starEach [e] X.env= [(false,eval e X.env)] :=by rfl):PI X (.Tuple es k d) (.Call (.Name "enumerate" p) [e] [] c) (kI X.K g):=by
 intro kd s o H R I h;refine Call_ (Iw I m n boot_enumerate (ACF (BK (ha c kd s o H _ I h) λus a ⟨vs,H1,f,t,u⟩=> ?_) (by rw[hs];rfl) rfl));obtain⟨b,l,rfl,⟨xs,hl⟩,q⟩:=u;cases t with
 | cons r v=>
 cases v;cases r;obtain⟨w,rv,p,hz⟩:=f.sq hl;refine Jw p λh' i b2 y x=> ?_;refine ADB i ?_;have j:∀p∈ [a.heap.objs.size+1,a.heap.objs.size],a.heap.objs.size<=p:=λp hp=>by
  have z:p=a.heap.objs.size+1\/p=a.heap.objs.size:=by simpa using hp
  omega
 exact⟨_,_,_,_,H1,rfl,f.kept (t':=a.toks) x,Wx (Nat.succ_ne_self _),⟨⟨.none,i⟩,b2⟩,λp hp=>f.fpOk (j p hp) (f.hok.fresh (j p hp)),q⟩
end
end L2
namespace PL
open PySem PySem.Spec PyProof.Rows L2
def V0 {K:AAB}{T M:zu->Prop}{H:Hp}{l:zu}{x:PV}{xs:zy PV}(va:Gi T M H)(hx:x= .tup xs\/x= .lst xs)(r:CM K T M H (.ref l) x):S3 K M (jY K (jo x) l) (Dv 0 xs) T H:=by
 obtain⟨_,vs,e,hq,a⟩:=QX hx r;cases e;refine⟨λi z h=> ?_,λi z v g h c=> ?_,λi h=>⟨vs,hq, ?_⟩⟩
 .obtain ⟨x,hx,_⟩:=Fs xs 0 i z h;obtain⟨u,hu,_⟩:=a.get hx;exact⟨vs,u,hq,hu⟩
 .obtain ⟨x,hx,rfl⟩:=Fs xs 0 i z h;obtain⟨p,u,rfl,d,rfl,hu⟩:=c;obtain⟨j,b,f⟩:=a.get' (hu vs hq);rw[hx] at b;cases b;have st:=DI.lay (o:= .tup [.int (i:Nat),u]) va.tp d;rw[ACW];exact⟨st, .tup (.inl Aa) (.cons (.int _) (.cons (f.stp st va) .nil))⟩
 .rw [a.length];rw[K0] at h;exact h
section
variable {X:Cx}
def jm (r:AA):AI:=λτ Q=>r τ λa=>match a with | [x] =>Oq x λxs=>Q (Dv 0 xs)|_=>False
def pU {e:zr}{r:AA}{p b a:Pos}{es:zy zr}{c:Nat}(d:Gl X "enumerate")(f:X.mg "enumerate" =none)(ha:SA X [e] r)(hs:starEach [e] X.env= [(false,eval e X.env)] :=by rfl):SI X (.Tuple es c a) (.Call (.Name "enumerate" p) [e] [] b) true (jm r):=by
 obtain⟨t,g,s⟩:=ha;refine⟨_,cP d f g hs,λB T i τ H R v j h k=>s B T i τ H _ _ j h λvs xs m H1 n o h1=> ?_⟩;split at h1 <;> first | exact h1.elim|skip
 rename_i x;obtain⟨xs,hx,h2⟩:=JB h1;cases o with
 | cons ra t=> cases t;obtain⟨l,us,rfl,hq,w⟩:=QX hx ra;exact⟨jo x,l,rfl,⟨us,hq⟩,k _ _ m H1 n (λM2 y z u va _=>V0 va hx (ra.mv u)) h2⟩
end
instance{r:AA}{τ:A5}{a:zy PV->Prop}:Wp (jm r τ a) (r τ λb=>match b with | [x] =>Oq x λxs=>a (Dv 0 xs)|_=>False):=⟨id⟩
end PL
namespace L2
open PySem PySem.Spec PyProof.Rows
section
variable {prog:kj}{w:ki}{A:ke}{E:zx->zw->Prop}{R:Result->zw->Prop}{I:zu}{fp wr:zy zu}{n:Nat}{P:Nat->zx->Prop}{St:Nat->kf->Prop}{kw:zy (Str×zx)}
def gI (W:Walks prog w A.in1 I fp wr n P St)(bt:Nat->Nat->km)(L:CmpOf prog w A.in1 .Gt P bt)(S:zu)(F:S ∉ fp):∀(k j:Nat) (s:zw) (d:zx) (c:Nat),n-(j+1)=k->j+1<=n->St (j+1) s.heap->P (argBest bt j) d-> s.heap.get? S=some {cls:= .type "list",dict:=none,data:= .seq #[d,d] c,slots:= #[] }-> (∀v h' r,P (argBest bt (n-1)) v->(∀b o,b ∉ wr->b≠S->s.heap.get? b=some o->h'.get? b=some o)->R (.ok (.ret v)) {s with heap:=h',toks:=r})-> codeAny (model prog w) A (.builtin "max.loop" ⟨[.ref I, .none, .ref S],kw⟩) R s:=by
 have G:S ∉ wr:=λh=>F (W.sub _ h);have nm:(toString "max" ++ toString ".loop" :String)="max.loop" :=by decide
 intro k;induction k with
 | zero=>
   intro j s d c hk hj x t l u;have H:j+1=n:=by omega
   refine ADC ADD ?_;rw[ADE ABR _];refine AAA (m:=seqItems? (.ref S)) (AAr l rfl ?_);refine AAA (m:=tryCatch (pyNext (.ref I)) _) (ACY (W.done s _ _ (H ▸ x) λh' r g=> ?_));have p:=g S _ G l;refine AAA (m:=updateSeq S (λ_=> #[])) (AB7 p rfl (AAA (ABc (AAC ?_))));exact u d _ r (by rw[<-H];exact t) λb o f i e=>by rw[ABI _ _ (AAd i)];exact g b o f e
 | succ k ih=>
   intro j s d c hk hj x t l u;have y:j+1<n:=by omega
   refine ADC ADD ?_;rw[ADE ABR _];refine AAA (m:=seqItems? (.ref S)) (AAr l rfl ?_);refine AAA (m:=tryCatch (pyNext (.ref I)) _) (ACY (W.item (j+1) s _ _ y x λv h' r J K g=> ?_));have p:=g S _ G l;refine AAA (m:=tryCatch (holding [v,v] (richCompare .Gt v d >>= _)) _) (ACY (AAi (AAA (L (j+1) (argBest bt j) v d _ _ _ J t (AAA (AAi (ABK (AAA (ABc (AAC ?_))))))))));cases hb:bt (j+1) (argBest bt j) with
   | true=>
     rw[AAE rfl];refine AAA (AB7 p rfl (AAA (ABc ?_)));rw[nm];refine AAC ⟨AB8 ABR _,ih (j+1) _ v _ (by omega) y (W.frame _ _ _ K λb M o e=> ?_) (by simp only[argBest,hb,ABB];exact J) (ABX _ p rfl) λz B a C D=> ?_⟩
     .rw [ABI _ _ (λh:S=b=>F (by rw[h];exact M))];exact e
     .exact u z B a C λb o f i e=>D b o f i (by rw[ABI _ _ (AAd i)];exact g b o f e)
   | false=> rw[AAD AAR];refine AAA (ABc ?_);rw[nm];refine AAC ⟨AB8 ABR _,ih (j+1) _ d c (by omega) y K (by simp only[argBest,hb,AAn,AAZ];exact t) p λz B a C D=> ?_⟩;exact u z B a C λb o f i e=>D b o f i (g b o f e)
def bj (W:Walks prog w A.in1 I fp wr n P St)(bt:Nat->Nat->km)(r:CmpOf prog w A.in1 .Gt P bt)(S:zu)(d:S ∉ fp)(f:0<n){s:zw}{c:Nat}(t:St 0 s.heap)(g:s.heap.get? S=some {cls:= .type "list",dict:=none,data:= .seq #[] c,slots:= #[] })(u:∀v h' i,P (argBest bt (n-1)) v->(∀b o,b ∉ wr->b≠S->s.heap.get? b=some o->h'.get? b=some o)->R (.ok (.ret v)) {s with heap:=h',toks:=i}):codeAny (model prog w) A (.builtin "max.loop" ⟨[.ref I, .none, .ref S],kw⟩) R s:=by
 have x:S ∉ wr:=λh=>d (W.sub _ h);have nm:(toString "max" ++ toString ".loop" :String)="max.loop" :=by decide
 refine ADC ADD ?_;rw[ADE ABR _];refine AAA (m:=seqItems? (.ref S)) (AAr g rfl ?_);refine AAA (m:=tryCatch (pyNext (.ref I)) _) (ACY (W.item 0 s _ _ f t λv h' i y z j=> ?_));have k:=j S _ x g;refine AAA (m:=updateSeq S (λ_=> #[v,v])) (AB7 k rfl ?_);rw[nm];refine AAC ⟨AB8 ABR _,gI W bt r S d _ 0 _ v _ rfl f (W.frame _ _ _ z λb B o e=> ?_) y (ABX _ k rfl) λC D a F G=> ?_⟩
 .rw [ABI _ _ (λh:S=b=>d (by rw[h];exact B))];exact e
 .exact u C D a F λb o l p e=>G b o l p (by rw[ABI _ _ (AAd p)];exact j b o l e)
def gJ (W:Walks prog w A.in1 I fp wr 0 P St)(S:zu)(k:S ∉ fp){a:Str}{d:zx}{s:zw}{c:Nat}(g:St 0 s.heap)(h:s.heap.get? S=some {cls:= .type "list",dict:=none,data:= .seq #[] c,slots:= #[] })(i:∀h' f,(∀b o,b ∉ wr->b≠S->s.heap.get? b=some o->h'.get? b=some o)->R (.ok (.ret d)) {s with heap:=h',toks:=f}):codeAny (model prog w) A (.builtin "max.loop" ⟨[.ref I, .none, .ref S], [(a,d)]⟩) R s:=by refine ADC ADD ?_;rw[ADE ABR _];refine AAA (m:=seqItems? (.ref S)) (AAr h rfl ?_);refine AAA (m:=tryCatch (pyNext (.ref I)) _) (ACY (W.done s _ _ g λh' f j=> ?_));exact AAA (ABA (AAC (i h' f λb o h1 _ e=>j b o h1 e)))
end
section
variable {prog:kj}{w:ki}{A:ke}{E:zx->zw->Prop}{s:zw}
def Vi {id:String}{b:Builtin}{args:zy zx}{c:zy (Str×zx)}{Q:zx->zw->Prop}(hk:builtinKind id=none)(hp:plainId id=true)(hb:entryFor table id=some b)(ha:argsOk id ⟨args,c⟩)(hc:wpAny (model prog w) A.in1 (b ⟨args,c⟩) (λd a=>match d with
   | .done f=>(match (Except.ok f:Result) with | .ok (.ret v)=>Q v a | .ok _=>False | .error e=>E e a)
   | .again h=>h.quiet=true/\codeAny (model prog w) A h (λr a=>match r with | .ok (.ret v)=>Q v a | .ok _=>False | .error e=>E e a) a) E s):
 wpAny (model prog w) A (call (.builtin id) args c) Q E s:=by
 refine wpAny_call (codeAny_call_builtin hp hb ?_);simp only[checkBuiltinCall,hk];cases i:Manifest.signature? id with
 | none=>exact AAC hc
 | some g=>
   have j:Bind.checkArgs id g ⟨args,c⟩=pure ():=by simpa only[argsOk,i] using ha
   simp only[j];exact AAC hc
def S8 (a d:zx):argsOk "max" ⟨[a], [(Str.ofString "default",d)]⟩:=by unfold argsOk;kernel_rfl
def aS (d:zx):Builtin.Builtins.bindParams "max" ["key","default"] 0 ⟨[], [(Str.ofString "default",d)]⟩=pure [none,some d] :=by rfl
def ka {l:zu}{xs:Array (Int×Tok)}{d:zx}{Q:zx->zw->Prop}(r:A.handled=none)(hl:s.heap.IsList l (intItems xs))(h0:xs.size=0->∀h' a,(∀b o,s.heap.get? b=some o->h'.get? b=some o)->Q d {s with heap:=h',toks:=a})(h:0<xs.size->∀v h' a,(intItems xs)[argBest (λi j=>decide (numAt xs i>numAt xs j)) (xs.size-1)]? =some v->(∀b o,s.heap.get? b=some o->h'.get? b=some o)->Q v {s with heap:=h',toks:=a}):wpAny (model prog w) A (call (.builtin "max") [.ref l] [(Str.ofString "default",d)]) Q E s:=by
 have nm:(toString "max" ++ toString ".loop" :String)="max.loop" :=by decide
 refine Vi F.kind_max F.plain_max F.entry_max (S8 _ _) ?_;refine AAA (m:=Builtin.Builtins.bindParams "max" ["key","default"] 0 ⟨[], [(Str.ofString "default",d)]⟩) (ACx (aS d) ?_);refine AAA (AAC (AAA (iter_intList hl λg e st t u=> ?_)));subst e;refine AAA (AAu ?_);have W:=Walks.list (prog:=prog) (w:=w) (A:=A.in1) r _ l u (intItems xs);have sz:(intItems xs).size=xs.size:=by simp[intItems]
 have k:(s.heap.push {cls:= .type "list_iterator",data:= .fields #[.ref l, .int 0 0] }).objs.size ∉ [s.heap.objs.size,l] :=λf=>ABC _ (t _ f);have n:∀h':kf,(∀b o,b ∉ [s.heap.objs.size] ->b≠(s.heap.push {cls:= .type "list_iterator",data:= .fields #[.ref l, .int 0 0] }).objs.size->((s.heap.push {cls:= .type "list_iterator",data:= .fields #[.ref l, .int 0 0] }).push {cls:= .type "list",data:= .seq #[] }).get? b=some o->h'.get? b=some o)->∀b o,s.heap.get? b=some o->h'.get? b=some o:=λh' hk b o e=>by
  have c:=AAG e;refine hk b o (λf=> ?_) (λhz=> ?_) (AAH _ (AAH _ e))
  .rw [AAU.mp f] at c;exact ABC _ c
  .have x:(s.heap.push {cls:= .type "list_iterator",data:= .fields #[.ref l, .int 0 0] }).objs.size=s.heap.objs.size+1:=ABH ..;rw[x] at hz;rw[hz] at c;exact absurd c (Nat.not_lt.mpr (Nat.le_succ _))
 rw[nm];by_cases hz:xs.size=0
 .rw [sz,hz] at W;refine AAC ⟨AB8 ABR _,gJ W _ k (W.frame _ _ _ st λb _ o e=>AAH _ e) (AAS _ rfl) λh' a hk=> ?_⟩;exact h0 hz h' a (n h' hk)
 .have hp:0<xs.size:=by omega
  refine AAC ⟨AB8 ABR _,bj W _ (CmpOf.ints_gt (numAt xs) (λ_ _=>intItems_at)) _ k (by rw[sz];exact hp) (W.frame _ _ _ st λb _ o e=>AAH _ e) (AAS _ rfl) λv h' a p hk=> ?_⟩;exact h hp v h' a (by rw[sz] at p;exact p) (n h' hk)
end
section
variable {X:Cx}{kd:zy (zu×Obj)}{σ:St}{H:Hp}
theorem ints_of:∀{b:zy Int} {a:zy zx},Aq (b.map V.int) a->∃xs:Array (Int×Tok),a.toArray=intItems xs/\xs.toList.map (·.1)=b
 | [],_,h=>by cases h;exact⟨#[],by simp[intItems],rfl⟩
 | n::b,_,h=>by
   cases h with
   | cons r t=> obtain⟨d,rfl⟩:=r;obtain⟨xs,e,f⟩:=ints_of t;refine⟨((n,d)::xs.toList).toArray, ?_,by simp[f]⟩;have c:=congrArg Array.toList e;apply Array.ext';simp only[intItems,List.map_toArray,AAK] at c ⊢;simp only[Array.toList_map] at c;rw[<-c]
def fD {xs:Array (Int×Tok)}{c:zy Int}{v:zx}(hx:xs.toList.map (·.1)=c)(hp:0<xs.size)(h:(intItems xs)[argBest (λi j=>decide (numAt xs i>numAt xs j)) (xs.size-1)]? =some v):∃M t,v= .int M t/\M∈c/\∀a∈c,a<=M:=by
 obtain⟨t,rfl⟩:=intItems_at h;obtain⟨h1,h2⟩:=argBest_gt (numAt xs) (xs.size-1);have b:∀i (hi:i<xs.size),numAt xs i=(xs[i]).1:=λi hi=>by simp[numAt,hi]
 refine⟨_,t,rfl, ?_,λa ha=> ?_⟩
 .rw [b _ (by omega),<-hx];exact AAM.mpr ⟨_,by simp,rfl⟩
 .rw [<-hx] at ha;obtain⟨p,d,rfl⟩:=AAM.mp ha;obtain⟨i,hi,e⟩:=List.getElem_of_mem d;have f:i<xs.size:=by simpa using hi
  have:=h2 i (by omega);rw[b i f] at this;have g:xs[i] =p:=by simpa using e
  rw[g] at this;exact this
def pZ (K:AAB)(te d:TE):TE:=λσ H Q=>te σ H λx H1=>d σ H1 λy c=>∃p b,x= .ref p/\E8 K c p (b.map V.int)/\(b= [] ->Q y c)/\(b≠ [] ->∀M,M∈b->(∀a∈b,a<=M)->Q (.int M) c)
def gW {e d:zr}{te i:TE}{p b j:Pos}(hc:X.calm=true)(l:Gl X "max")(m:X.mg "max" =none)(he:PE X e te)(hd:PE X d i)(hs:starEach [e] X.env= [(false,eval e X.env)] :=by rfl)(hk:keywordEach [⟨some (Str.ofString "default"),d,j⟩] X.env= [(some (Str.ofString "default"),eval d X.env)] :=by rfl):PE X (.Call (.Name "max" p) [e] [⟨some (Str.ofString "default"),d,j⟩] b) (pZ X.K te i):=by
 intro kd s σ H Q I h;refine ACk (Iw I l m PyProof.Rows.boot_max ?_);refine callWith_kw ?_ (by rw[hs];rfl) (by rw[hs];rfl) (by rw[hk];rfl) (by rw[hk];rfl);rw[hs];refine ABy (BK (he kd s σ H _ I h) λv n ⟨x,H1,o,r,u⟩=>ACj ?_);refine kws_cons (BK (hd kd n σ H1 _ o u) λG J ⟨y,k,c,w,A⟩=>kws_nil ?_);obtain⟨a,L,rfl,hq,B,q⟩:=A;cases r;obtain⟨C,D,E,hz⟩:=c.list hq;obtain⟨xs,F,f⟩:=ints_of D;have hl:=E.isList;rw[F] at hl;have sz:=congrArg List.length f;simp only[AAI,ABT] at sz;refine ka (I.ok.hd hc) hl (λh0 h' g hk=> ?_) (λhp v h' g hv hk=> ?_)
 .exact ⟨y,k,c.kept (t':=g) hk,w,B (ABh.mp (by omega))⟩
 .obtain ⟨M,t,rfl,m1,m2⟩:=fD f hp hv;exact⟨.int M,k,c.kept (t':=g) hk,⟨t,rfl⟩,q (λz=>by rw[z] at sz;have:xs.size=0:=sz;omega) M m1 m2⟩
end
end L2
namespace PL
open PySem PySem.Spec PyProof.Rows L2
def GA:zy PV->zt (zy Int)
 | [] =>some []
 | .int i::r=>(GA r).map (i :: ·)
 | _=>none
theorem Tq {K:AAB}{T M:zu->Prop}{H:Hp}:∀{vs:zy V} {xs:zy PV} {a:zy Int},Au K T M H vs xs->GA xs=some a->vs=a.map V.int
 | _,_,_, .nil,e=>by simp[GA] at e;subst e;rfl
 | _,_,a, .cons h t,e=>by cases h <;> simp[GA] at e;obtain⟨c,b,d⟩:=e;subst d;simp[Tq t b]
def ints_map (c:zy Int):GA (c.map PV.int)=some c:=by
 induction c with
 | nil=>rfl
 | cons a b ih=>show (GA (b.map PV.int)).map (a :: ·)=_;rw[ih];rfl
section
variable {X:Cx}
def aP (c d:AE):AE:=λτ Q=>c τ λx=>d τ λy=>match x with | .lst ys=>(match GA ys with | some b=>(b= [] ->Q y)/\(b≠ [] ->∀M,M∈b->(∀a∈b,a<=M)->Q (.int M))|none=>False)|_=>False
def hG {e d:zr}{j l:AE}{p g m:Pos}(hc:X.calm=true)(u:Gl X "max")(z:X.mg "max" =none)(he:SE X e j)(hd:SE X d l)(hs:starEach [e] X.env= [(false,eval e X.env)] :=by rfl)(hk:keywordEach [⟨some (Str.ofString "default"),d,m⟩] X.env= [(some (Str.ofString "default"),eval d X.env)] :=by rfl):SE X (.Call (.Name "max" p) [e] [⟨some (Str.ofString "default"),d,m⟩] g) (aP j l):=by
 obtain⟨t,A,s⟩:=he;obtain⟨t',C,D⟩:=hd;refine⟨_,gW hc u z A C hs hk,λB T n τ H Q L i h k=>s B T n τ H _ _ i h λv x E H1 c F h1=>D B E n τ H1 _ _ (i.stp c) h1 λw y o r f G h2=> ?_⟩;split at h2 <;> first | exact h2.elim|skip
 split at h2 <;> first | exact h2.elim|skip
 rename_i I e;have b:=i.stp c;have J:=b.stp f;obtain⟨a,N,rfl,hq,_,_,K⟩:=DH (F.stp f b.va);have:=Tq K e;subst this;exact⟨a,I,rfl, .inl (.inl hq),λh0=>k _ _ o r (c.trans f) G (h2.1 h0),λh0 M m1 m2=>k _ _ o r (c.trans f) (.int _) (h2.2 h0 M m1 m2)⟩
end
section
variable {X:Cx}{a b c d e:zr}{ta tb tc td:AE}{pos:Pos}
def Bn (ha:SE X a ta)(h:starEach [a] X.env=(false,eval a X.env)::starEach [] X.env:=by rfl):SA X [a] (AB ta AL):=C9 ha DF h
def Ap (ha:SE X a ta)(hb:SE X b tb)(h:starEach [a,b] X.env=(false,eval a X.env)::starEach [b] X.env:=by rfl)(h2:starEach [b] X.env=(false,eval b X.env)::starEach [] X.env:=by rfl):SA X [a,b] (AB ta (AB tb AL)):=C9 ha (Bn hb h2) h
def FW (ha:SE X a ta)(hb:SE X b tb)(hc:SE X c tc)(h:starEach [a,b,c] X.env=(false,eval a X.env)::starEach [b,c] X.env:=by rfl)(h2:starEach [b,c] X.env=(false,eval b X.env)::starEach [c] X.env:=by rfl)(f:starEach [c] X.env=(false,eval c X.env)::starEach [] X.env:=by rfl):SA X [a,b,c] (AB ta (AB tb (AB tc AL))):=C9 ha (Ap hb hc h2 f) h
def AU (ha:SE X a ta)(hb:SE X b tb)(hs:Qq b:=by exact λ_ _=>rfl):SE X (.Subscript a b pos) (AW Am ta tb):=pT pV ha hb hs
def Ez {op:CmpOp}{r:R2}{f:Ja}(g:EZ X (compareOp op) r/\CZ X.K r f)(ha:SE X a ta)(hb:SE X b tb)(h:behindInMarks op b=false:=by exact B3 _):Sc X (.Compare a [op] [b] pos) (Aw (AW f ta tb)):=mD g ha hb h
def Cd (i:Nat){x:Str}{pos':Pos}(hN:X.N.Nodup)(he:SE X e ta)(hi:X.N[i]? =some x:=by rfl)(hx:Loc X.env.scope x:=by exact Or.inl rfl)(hs:swapsWith e (some (.Name x pos')) pos.line X.env=pure false:=by rfl)(f:X.fn x=true\/X.env.scope.names.lookup x=some .local:=by first | exact .inl rfl|exact .inr rfl|assumption):SS X (.Assign [.Name x pos'] e pos) (Aj ta (Ak i)):=GQ hN hi hx he hs f
def Ee (i:Nat){x:Str}(hN:X.N.Nodup)(hi:X.N[i]? =some x:=by rfl)(hx:Loc X.env.scope x:=by exact Or.inl rfl)(f:X.fn x=true\/X.env.scope.names.lookup x=some .local:=by first | exact .inl rfl|exact .inr rfl|assumption):SG X (.Name x pos) (Ak i):=R7 hN hi hx f
def HV (i:Nat){own:Nat}{x:Str}(hN:X.N.Nodup)(hi:X.N[i]? =some x:=by rfl)(hx:Loc X.env.scope x:=by exact Or.inl rfl)(hk:i<own:=by decide)(f:X.fn x=true\/X.env.scope.names.lookup x=some .local:=by first | exact .inl rfl|exact .inr rfl|assumption):SK own X (.Name x pos) (Ak i):=iD hN hi hx hk f
end
def map_pair {a b c:Type}{o:zt a}{f:a->b}{g:a->c}{x:b}{y:c}(h1:o.map f=some x)(h2:o.map g=some y):o.map (λs=>(f s,g s))=some (x,y):=by
 cases o with
 | none=>cases h1
 | some s=>cases h1;cases h2;rfl
def map5 {a A B C D E:Type}{o:zt a}{F:a->A×B×C×D×E}{X:A×B×C×D×E}(h1:o.map (λs=>(F s).1)=some X.1)(h2:o.map (λs=>(F s).2.1)=some X.2.1)(b:o.map (λs=>(F s).2.2.1)=some X.2.2.1)(c:o.map (λs=>(F s).2.2.2.1)=some X.2.2.2.1)(d:o.map (λs=>(F s).2.2.2.2)=some X.2.2.2.2):o.map F=some X:=by
 cases o with
 | none=>cases h1
 | some s=>exact congrArg some (ACI (AAY h1) (ACI (AAY h2) (ACI (AAY b) (ACI (AAY c) (AAY d)))))
def BR {P:kj}{w:ki}{K:AAB}{mg:Str->zt zx}{base:kf}{k a:Nat}{x:Str}{b:zy Str}{sp:Sp}(H:Has P w K mg base k x b sp)(h:k<=a:=by decide):Has P w K mg base a x b sp:=H.mono h
end PL
open PySem L2 PL PyProof.Rows
local macro_rules | `(tactic| decreasing_trivial_pre_omega)=> `(tactic| first | assumption|omega|((apply Bd.mono);(focus (repeat' (first | assumption|exact Fa.m (by assumption)|exact Fa.x (by assumption)|exact Fa.y (by assumption)|exact Fa.z (by assumption)|exact xS|exact nU|with_reducible apply Bd.add|with_reducible apply Bd.sub|with_reducible apply Bd.mul|with_reducible apply Bd.neg|with_reducible apply Bd.mx|with_reducible apply Bd.mn)));first | omega|decide)|decide|(simp only [List.length_map,List.length_append,List.length_cons,List.length_nil,List.length_take,List.length_drop,List.length_zip,List.length_reverse];omega)|(show _<=16777216;simp only [List.length_map,List.length_append,List.length_cons,List.length_nil,List.length_take,List.length_drop,List.length_zip,List.length_reverse];omega)|(show _<16777216;simp only [List.length_map,List.length_append,List.length_cons,List.length_nil,List.length_take,List.length_drop,List.length_zip,List.length_reverse];omega)|(refine And.intro ?_ ?_ <;> decreasing_trivial_pre_omega)|exact rfl)
local macro_rules | `(tactic| array_mem_dec)=> `(tactic| first
 | refine Wp.go ?_
 | ((refine Uy.go ?_ ?_);focus (first | exact True.intro|decreasing_trivial_pre_omega))
 | ((with_reducible apply And.intro);focus decreasing_trivial_pre_omega)
 | ((with_reducible apply s_ifdT);focus decide)
 | ((with_reducible apply s_ifdF);focus decide)
 | ((with_reducible apply s_ifnT);focus decide)
 | ((with_reducible apply s_ifnF);focus decide)
 | refine rE.go (λ_=> ?_) (λ_=> ?_)
 | ((with_reducible apply lf);focus assumption)
 | ((with_reducible apply jI);focus exact rfl)
 | ((with_reducible apply s_isi);(focus (first | exact .inl rfl|exact .inr (.inl rfl)|exact .inr (.inr (.inl rfl))|exact .inr (.inr (.inr rfl))));(focus exact rfl))
 | ((with_reducible apply pO);focus exact rfl)
 | ((with_reducible apply pN);focus exact rfl)
 | intro _
 | with_reducible rfl)
local macro_rules | `(tactic| array_get_dec)=> `(tactic| first | array_mem_dec|refine um.go ?_|fail)
local macro_rules | `(tactic| ac_rfl)=> `(tactic| repeat' array_mem_dec)
namespace PL
open PySem L2 PyProof.Rows
def F1.open {n B:Nat}{cs:zy C4}(p:F1 n B cs):∃a r l,cs=a::r/\r≠ [] /\(a::r).getLast?=some l/\a.1<l.1:=by
 obtain⟨two,c,d,b⟩:=p;match cs,two,b with
 | a::b0::r,_,b=>exact⟨a,b0::r,_,rfl,by simp,ACR (by simp),(AAN.mp b).1 _ (AC7 (ZG (ACR (by simp))))⟩
abbrev M6:AS:=
 (As (A9 (AB (Yj Nj (AW Am (aV 0) (aC (.int 0)))) (AB (AW Am (aV 0) (aC (.int 1))) AL))))
def Dz:AF:=An 1 M6
def Rt {a:PV}{Q:PV->Prop}(h:M6 ⟨λ_=>Q .non,Q,λ_=>False,λ_=>False⟩ [some (.val a)]):Dz [a] Q:=h
abbrev Ps:AS:=
 (As (jj (Aw (AW Ln (aV 1) (aC (.int 2)))) (AW Am (aV 0) (aC (.int 1))) (AW Am (aV 0) (aC (.int 0)))))
def EY:AF:=An 2 Ps
def Ug {a b:PV}{Q:PV->Prop}(h:Ps ⟨λ_=>Q .non,Q,λ_=>False,λ_=>False⟩ [some (.val a),some (.val b)]):EY [a,b] Q:=h
def Sx (b:T3)(v:PV):Prop:=v=DB b\/v= .lst [fr b.1,fr b.2.1,fr b.2.2]
def e5 (cs:zy C4)(b:T3)(v:PV):Prop:=∃p w,Lj cs p/\Sx b w/\(v= .tup [p,w] \/v= .lst [p,w])
def kh (r:Rat):PV.tup [.int (-r.num), .int r.den] =fr (-r):=by unfold fr;rw[Rat.neg_num,Rat.neg_den]
def RN {r:Rat}{Q:PV->Prop}(q:Q (fr (-r))):Dz [fr r] Q:=by
 apply Rt;repeat' array_get_dec
 rw[kh];exact q
def c0 {x:PV}{c:C4}{R:PV->Prop}(hx:x=cor c\/x=corL c)(h:R (fr c.1)):Am x (.int 0) R:=by rcases hx with rfl|rfl <;> exact h
def f0 {cs:zy C4}{b:T3}{v:PV}{R:PV->Prop}(hv:e5 cs b v)(h:∀p,Lj cs p->R p):Am v (.int 0) R:=by obtain⟨p,w,hp,hw,hv⟩:=hv;rcases hv with rfl|rfl <;> exact h p hp
def f1 {cs:zy C4}{b:T3}{v:PV}{R:PV->Prop}(hv:e5 cs b v)(h:∀w,Sx b w->R w):Am v (.int 1) R:=by obtain⟨p,w,hp,hw,hv⟩:=hv;rcases hv with rfl|rfl <;> exact h w hw
def b2 {b:T3}{w:PV}{R:PV->Prop}(hw:Sx b w)(h:R (fr b.2.2)):Am w (.int 2) R:=by rcases hw with rfl|rfl <;> exact h
def i7 {k n:Nat}(h:k<=n)(a:n<1000000):k<sizeLine:=AA3 h (AAX a (AAt rfl))
def iC {w:PV}{x y:Rat}{k:Int}(h0:∀{R:PV->Prop},R (fr x)->Am w (.int 0) R)(h1:∀{R:PV->Prop},R (fr y)->Am w (.int 1) R){Q:PV->Prop}(q:Q (fr (if k=2 then y else x))):EY [w, .int k] Q:=by
 apply Ug;ac_rfl
 .rename_i h;rw[AAE h] at q;exact h1 q
 .rename_i h;rw[AAD h] at q;exact h0 q
def Fp {b:T3}{w:PV}{k:Int}(hw:Sx b w){Q:PV->Prop}(q:Q (fr (if k=2 then b.2.1 else b.1))):EY [w, .int k] Q:=
 iC (λh=>by rcases hw with rfl|rfl <;> exact h) (λh=>by rcases hw with rfl|rfl <;> exact h) q
def fz {xs:zy PV}{k:Int}{R:PV->Prop}(h0:0<=k)(h1:k<xs.length)(h:∀x∈xs,R x):Am (.lst xs) (.int k) R:=by show eM (Jc xs k) R;have hk:xs[k.toNat]? =some (xs[k.toNat]'(by omega)):=AAT (by omega);have e:=Ck hk;rw[show ((k.toNat:Nat):Int)=k by omega] at e;rw[e];exact h _ (ABa _)
def N2 {xs:zy Rat}{k:Int}{R:PV->Prop}(h0:0<=k)(h1:k<xs.length)(h:∀x∈xs,R (fr x)):Am (.lst (xs.map fr)) (.int k) R:=by refine fz h0 (by simpa using h1) λx hx=> ?_;obtain⟨y,hy,rfl⟩:=AAM.mp hx;exact h y hy
def qY {r:Rat}(h:r.num.natAbs<2^8:=by decide +kernel)(h2:r.den<2^8:=by decide +kernel):Bd 8 r:=⟨h,h2⟩
section
variable {τ:A5}
instance{i:Nat}{xs:zy PV}{P:zy PV->Prop}[h:iX τ i (.own xs)] :Wp (MG i τ P) (P xs):=⟨λk=>by unfold MG;rw[h.e];exact k⟩
end
def absR (r:Rat):Rat:=if r<0 then -r else r
def Bd.absR {n:Nat}{r:Rat}(h:Bd n r):Bd n (absR r):=by unfold PL.absR;split;exact h.neg;exact h
def sf (p q:T3)(d:Rat×Rat):T3:=((p.1-q.1)/d.1,(p.2.1-q.2.1)/d.1,(p.2.2-q.2.2)/d.2)
def rM (o:T3):Rat:=mx (mx (mx 0 (absR o.1)) (absR o.2.1)) (absR o.2.2)
def dt (a l b c:C4)(m:Rat):Prop:=(¬m<a.1/\¬m<b.1)/\m<l.1/\m<c.1
instance {a l b c:C4}{m:Rat}:Decidable (dt a l b c m):=by unfold dt;infer_instance
abbrev Kh:AS:=
 (AY (Aj (AW TM (AW BS (aV 2) (aV 3)) (aC (.int 2))) (Ak 4))
   (CN (Aw (AN 2 A1 (AB (AW Am (aV 0) (aV 4)) (AB (aV 1) AL)))) (Aj (AW BS (aV 4) (aC (.int 1))) (Ak 2)) (Aj (aV 4) (Ak 3))))
abbrev Ko:AS:=
 (AY (HA (Aw (AW ap (aV 2) (aV 3))) Kh)
   (As (aV 2)))
abbrev Kk:AS:=
 (AY (Aj (F2 IJ (AB (aV 0) AL)) (Ak 3))
   Ko)
abbrev IR:AS:=
 (AY (Aj (aC (.int 0)) (Ak 2))
   Kk)
def DO:AF:=An 5 IR
def MS {a b:PV}{Q:PV->Prop}(h:IR ⟨λ_=>Q .non,Q,λ_=>False,λ_=>False⟩ [some (.val a),some (.val b),none,none,none]):DO [a,b] Q:=h
abbrev Lg:AS:=
 (AY (Aj (S6 (AN 2 DO (AB (aV 1) (AB (aV 2) AL)))) (Ak 3))
   (CN (S7 (VQ (Aw (AW Ln (aV 3) (F2 IJ (AB (aV 1) AL)))) (Aw (AW Yy (AW Am (aV 1) (aV 3)) (aV 2))))) (Db 1 bZ (AB (aV 3) (AB (aV 2) AL))) BU))
abbrev Su:AS:=
 (AY (EH (Gj (aV 0)) (Ak 2) Lg)
   (As (aV 1)))
abbrev Ss:AS:=
 (AY (Gf (DE AL) 1)
   Su)
def G7:AF:=An 4 Ss
def WU {a:PV}{Q:PV->Prop}(h:Ss ⟨λ_=>Q .non,Q,λ_=>False,λ_=>False⟩ [some (.val a),none,none,none]):G7 [a] Q:=h
abbrev Sk:AS:=
 (AY (VO 3 nY (aR (aV 1) (aV 4) (aV 5)))
   (Db 2 Gh (AB (A9 (AB (aV 4) (AB (aV 5) (AB (aV 3) AL)))) AL)))
abbrev So:AS:=
 (AY (EH (Gj (AN 1 G7 (AB (Ea (Bx (Gj (Ea (VP (AB (aV 1) AL)))) 2 [] (Jb 2 (Ad (Ak 0) (Ad (Ak 1) B0))) DW (aV 0))) AL))) (Ak 4) (EH (Gj (A9 (AB (aC (.int 0)) (AB (aC (.int 1)) AL)))) (Ak 5) (CN (Aw (fB (aV 4) (aV 5) (aV 1))) Sk BU)))
   (As (aV 2)))
abbrev Sn:AS:=
 (AY (Aj (aC (.int 0)) (Ak 3))
   So)
abbrev Sm:AS:=
 (AY (Gf (DE AL) 2)
   Sn)
abbrev Sj:AS:=
 (AY (Aj (AN 1 Hh (AB (aV 0) AL)) (Ak 1))
   Sm)
def Fk:AF:=An 6 Sj
def WT {a:PV}{Q:PV->Prop}(h:Sj ⟨λ_=>Q .non,Q,λ_=>False,λ_=>False⟩ [some (.val a),none,none,none,none,none]):Fk [a] Q:=h
abbrev Qf:AS:=
 (AY (Db 2 Gh (AB (A9 (AB (AW Am (aV 3) (aC (.int 0))) (AB (AW Am (aV 3) (aC (.int 1))) (AB (aV 4) AL)))) AL))
   (Aj (aC .non) (Ak 3)))
abbrev Fx:AS:=
 (AY (CN (Aw (AW QC (aV 3) (aC .non))) (Db 2 Gh (AB (A9 (AB (AW Am (aV 3) (aC (.int 0))) (AB (AW Am (aV 3) (aC (.int 1))) (AB (aC .non) AL)))) AL)) BU)
   (As (F2 Dm (AB (aV 2) AL))))
abbrev Qi:AS:=
 (AY (EH (Gj (AN 1 Fk (AB (aV 0) AL))) (Jb 3 (Ad (Ak 4) (Ad (Ak 5) (Ad (Ak 6) B0)))) (CN (E9 (Aw (AW II (aV 3) (aC .non))) (Aw (AW qF (aV 6) (aV 1)))) (Aj (A9 (AB (aV 4) (AB (AW HC (aC (.int 1)) (aV 5)) AL))) (Ak 3)) (CN (E9 (Aw (AW QC (aV 3) (aC .non))) (Aw (AW ap (aV 6) (aV 1)))) Qf BU)))
   Fx)
abbrev Qg:AS:=
 (AY (Aj (aC .non) (Ak 3))
   Qi)
abbrev Pn:AS:=
 (AY (Gf (DE AL) 2)
   Qg)
def Dx:AF:=An 7 Pn
def Ub {a b:PV}{Q:PV->Prop}(h:Pn ⟨λ_=>Q .non,Q,λ_=>False,λ_=>False⟩ [some (.val a),some (.val b),none,none,none,none,none]):Dx [a,b] Q:=h
abbrev NF:AS:=
 (As (AN 2 Dx (AB (aV 0) (AB (aC (.int 1)) AL))))
def D0:AF:=An 1 NF
def Ry {a:PV}{Q:PV->Prop}(h:NF ⟨λ_=>Q .non,Q,λ_=>False,λ_=>False⟩ [some (.val a)]):D0 [a] Q:=h
def ins:zy Rat->Rat->zy Rat
 | [],x=> [x]
 | q::r,x=>if q<x then q::ins r x else if q=x then q::r else x::q::r
abbrev Ux (qs:zy Rat):Prop:=qs.Pairwise (· < ·)
theorem RK {x y:Rat}:∀{qs:zy Rat},y∈ins qs x↔y=x\/y∈qs
 | [] =>by simp[ins]
 | q::r=>by
   unfold ins;split
   .rw [AAF,RK,AAF];grind
   .split
    .rename_i h;subst h;simp
    .simp
theorem YL {x:Rat}:∀{qs:zy Rat},Ux qs->Ux (ins qs x)
 | [],_=>by simp[ins]
 | q::r,h=>by
   obtain⟨h1,h2⟩:=AAN.mp h;unfold ins;split
   .rename_i hq;refine AAN.mpr ⟨λy hy=> ?_,YL h2⟩;rcases RK.mp hy with rfl|hy
    .exact hq
    .exact h1 y hy
   .split
    .exact h
    .refine AAN.mpr ⟨λy hy=> ?_,h⟩;rcases AAF.mp hy with rfl|hy
     .grind
     .have:=h1 y hy;grind
theorem Xi {x:Rat}:∀{qs:zy Rat},(ins qs x).length<=qs.length+1
 | [] =>by simp[ins]
 | q::r=>by
   have:=Xi (x:=x) (qs:=r);unfold ins;split
   .simp;omega
   .split <;> simp
structure At (qs:List Rat) (x:Rat) (k:Nat):Prop where
 le:k<=qs.length
 lo:∀q∈qs.take k,q<x
 hi:∀q∈qs.drop k,¬q<x
theorem VS:∀{qs:zy Rat} {x:Rat} {k:Nat},Ux qs->At qs x k->ins qs x=if qs[k]? =some x then qs else qs.take k++x::qs.drop k
 | [],x,k,_,h=>by have:=h.le;simp at this;subst this;simp[ins]
 | q::r,x,0,_,h=>by
   have:=h.hi q (by simp);unfold ins;rw[AAD this];by_cases e:q=x
   .rw [AAE e,AAE (by simp[e])]
   .rw [AAD e,AAD (by simp[e])];rfl
 | q::r,x,k+1,hs,h=>by have hq:=h.lo q (by simp);have ih:=VS (qs:=r) (x:=x) (k:=k) (AAN.mp hs).2 ⟨by have:=h.le;simp at this;exact this,λy hy=>h.lo y (by simp[hy]),λy hy=>h.hi y (by simpa using hy)⟩;unfold ins;rw[AAE hq,ih];simp only[List.getElem?_cons_succ,ADc,List.drop_succ_cons];split <;> rfl
theorem SU:∀{a b:zy Rat},Ux a->Ux b->(∀x,x∈a↔x∈b)->a=b
 | [], [],_,_,_=>rfl
 | [],y::b,_,_,h=>by have:=(h y).mpr (by simp);simp at this
 | x::a, [],_,_,h=>by have:=(h x).mp (by simp);simp at this
 | x::a,y::b,ha,hb,h=>by
   obtain⟨f,i⟩:=AAN.mp ha;obtain⟨g,b2⟩:=AAN.mp hb;have c:x=y:=by
    rcases AAF.mp ((h x).mp (by simp)) with e|e
    .exact e
    .rcases AAF.mp ((h y).mpr (by simp)) with d|d
     .exact d.symm
     .have:=g x e;have:=f y d;grind
   subst c;congr 1;refine SU i b2 λz=>⟨λhz=> ?_,λhz=> ?_⟩
   .rcases AAF.mp ((h z).mp (by simp[hz])) with e|e
    .subst e;have:=f z hz;grind
    .exact e
   .rcases AAF.mp ((h z).mpr (by simp[hz])) with e|e
    .subst e;have:=g z hz;grind
    .exact e
def BA (xs:zy Rat):zy Rat:=xs.foldl ins []
theorem Mf:∀(xs qs:zy Rat),Ux qs->Ux (xs.foldl ins qs)/\(∀y,y∈xs.foldl ins qs↔y∈xs\/y∈qs)/\(xs.foldl ins qs).length<=qs.length+xs.length
 | [],qs,h=>⟨h,by simp,by simp⟩
 | x::xs,qs,h=>by
   obtain⟨h1,h2,a⟩:=Mf xs (ins qs x) (YL h);refine⟨h1,λy=> ?_, ?_⟩
   .rw [AAx,h2,RK,AAF];grind
   .have:=Xi (x:=x) (qs:=qs);rw[AAx,AAc];omega
def Bl {xs:zy Rat}:Ux (BA xs):=(Mf xs [] .nil).1
def Ax {xs:zy Rat}{y:Rat}:y∈BA xs↔y∈xs:=by rw[BA,(Mf xs [] .nil).2.1];simp
def DR {xs:zy Rat}:(BA xs).length<=xs.length:=by have:=(Mf xs [] .nil).2.2;unfold BA;simpa using this
def KJ {a b:zy Rat}(h:∀x,x∈a↔x∈b):BA a=BA b:=SU Bl Bl λx=>by rw[Ax,Ax,h]
theorem SY:∀{qs:zy Rat} {m:Nat} {c x:Rat},Ux qs->qs[m]? =some c->c<x->∀q∈qs.take (m+1),q<x
 | [],m,c,x,_,e,_=>by simp at e
 | a::r,0,c,x,_,e,h=>by simp at e;subst e;simp[h]
 | a::r,m+1,c,x,hs,e,h=>by
   obtain⟨h1,h2⟩:=AAN.mp hs;have b:r[m]? =some c:=by simpa using e
   intro q hq;rw[ADc] at hq;rcases AAF.mp hq with rfl|hq
   .have:=h1 c (ABm b);grind
   .exact SY h2 b h q hq
theorem XU:∀{qs:zy Rat} {m:Nat} {c x:Rat},Ux qs->qs[m]? =some c->¬c<x->∀q∈qs.drop m,¬q<x
 | [],m,c,x,_,e,_=>by simp at e
 | a::r,0,c,x,hs,e,h=>by
   simp at e;subst e;intro q hq;rcases AAF.mp hq with rfl|hq
   .exact h
   .have:=(AAN.mp hs).1 q hq;grind
 | a::r,m+1,c,x,hs,e,h=>by intro q hq;exact XU (AAN.mp hs).2 (by simpa using e) h q (by simpa using hq)
def aX {qs:zy Rat}{x:Rat}{B M:Nat}(hs:Ux qs)(hl:qs.length<=1000000)(hq:∀q∈qs,Bd B q)(hx:Bd M x)(r:B<=4000)(s:M<=4000){Q:PV->Prop}(q:∀k:Nat,At qs x k->Q (.int k)):DO [.lst (qs.map fr),fr x] Q:=by
 apply MS;repeat' array_get_dec
 refine d4 (λn τ=>∃(lo hi:Nat) (z:zt AV),hi-lo<n/\lo<=hi/\hi<=qs.length/\(∀q∈qs.take lo,q<x)/\(∀q∈qs.drop hi,¬q<x)/\τ= [some (.val (.lst (qs.map fr))),some (.val (fr x)),some (.val (.int lo)),some (.val (.int hi)),z]) ?_ ?_ (n:=qs.length+1) ⟨0,qs.length,none,by omega,by omega,by omega,by simp,by simp,rfl⟩
 .rintro n τ R d ⟨lo,hi,z,h1,h2,i,f,g,rfl⟩;have j:frz [some (.val (.lst (qs.map fr))),some (.val (fr x)),some (.val (.int lo)),some (.val (.int hi)),z] = [some (.val (.lst (qs.map fr))),some (.val (fr x)),some (.val (.int lo)),some (.val (.int hi)),Yz z] :=rfl;rw[j];repeat' array_get_dec
  .rename_i l;refine⟨⟨by decide,by decide⟩, ?_⟩;have o:((lo:Int)+hi).fdiv 2=((lo+hi)/2:Nat):=by rw[ABZ _ (by decide)];omega
   rw[o];have m1:(lo+hi)/2<hi:=by omega
   have m2:lo<=(lo+hi)/2:=by omega
   generalize (lo+hi)/2=m at *;repeat' array_get_dec
   rename_i c p hc;have a:qs[m]? =some c:=p;have t:=hq c hc;repeat' array_get_dec
   .rename_i b;refine d _ ⟨m+1,hi,_,by omega,by omega,i,SY hs a b,g,rfl⟩
   .rename_i b;refine d _ ⟨lo,m,_,by omega,m2,by omega,f,XU hs a b,rfl⟩
  .rename_i l;have e:lo=hi:=by omega
   subst e;exact q lo ⟨by omega,f,g⟩
 .rintro τ ⟨lo,hi,z,h,_⟩;omega
def ZZ {v:PV}{xs:zy Rat}{B:Nat}(hv:v= .lst (xs.map fr)\/v= .tup (xs.map fr))(hl:xs.length<=1000)(hx:∀x∈xs,Bd B x)(m:B<=4000){Q:PV->Prop}(q:Q (.lst ((BA xs).map fr))):G7 [v] Q:=by
 apply WU;have key:∀{a b:zt AV},DQ (Ak 2) Lg ⟨As (aV 1) ⟨λ_=>Q .non,Q,λ_=>False,λ_=>False⟩,Q,λ_=>False,λ_=>False⟩ (xs.map fr) [some (.val v),some (.own []),a,b] :=by
  intro a b;refine CQ fr (λus vs τ=>∃a b,τ= [some (.val v),some (.own ((BA us).map fr)),a,b]) ?_ ?_ ⟨_,_,rfl⟩
  .rintro τ ⟨a,b,rfl⟩;repeat' array_get_dec
   exact q
  .rintro us c vs e τ R n ⟨a,b,rfl⟩;have ul:us.length<=1000:=by have:=congrArg List.length e;simp at this;omega
   have r:=DR (xs:=us);have o:∀y∈BA us,Bd B y:=λy hy=>hx y (by rw[<-e];simp[Ax.mp hy]);have p:Bd B c:=hx c (by rw[<-e];simp);have f:∀(l:zy Rat) a b,l=ins (BA us) c->R [some (.val v),some (.own (l.map fr)),a,b] :=λl a b h=>n _ ⟨a,b,by rw[h,show BA (us ++ [c])=ins (BA us) c by unfold BA;rw[ABg];rfl]⟩;repeat' array_get_dec
   refine aX Bl (by omega) o p m m λk hk=> ?_;have s:=hk.le;have i:=VS Bl hk;repeat' array_get_dec
   .rename_i h1;have j:(BA us)[k]? =none:=List.getElem?_eq_none (by omega);rw[j,AAD (by simp)] at i;have:=f _ (some (.val (fr c))) (some (.val (.int k))) i.symm;rw[AAP,AAK,AC6,ACQ] at this;exact this
   .rename_i h1 d j _ h2;have g:(BA us)[k]? =some d:=j;rw[g,AAD (by simpa using h2)] at i;have:=f _ (some (.val (fr c))) (some (.val (.int k))) i.symm;rw[AAP,AAK,AC6,ACQ] at this;exact this
   .rename_i h1 d j _ h2;have g:(BA us)[k]? =some d:=j;rw[g,AAE (by rw[h2])] at i;exact f _ _ _ i.symm
 rcases hv with rfl|rfl;all_goals
  ac_rfl;exact key
abbrev Pl:=Rat×Int
abbrev Ar:=Rat×Int×zt Rat
def bp (s:Ar):Pl:=(s.1,1-s.2.1)
def ep (s:Ar):zt Pl:=s.2.2.map λe=>(e,0)
def FD (p:Pl):FK:=((p.1.num,p.1.den),p.2)
def RH {p q:Pl}(h:FD p=FD q):p=q:=by obtain⟨a,i⟩:=p;obtain⟨b,j⟩:=q;unfold FD at h;simp only[ADr,Int.ofNat_inj] at h;obtain⟨⟨h1,h2⟩,c⟩:=h;have:a=b:=Rat.ext h1 h2;rw[this,c]
def Yw:zt Rat->PV|none=> .non|some e=>fr e
def Ao (s:Ar):PV:= .tup [fr s.1, .int s.2.1,Yw s.2.2]
def cz (s:Ar):PV:= .lst [fr s.1, .int s.2.1,Yw s.2.2]
def lX {s:Ar}{x:PV}(h:x=Ao s\/x=cz s):YA x=some ((s.1.num,(s.1.den:Int)),s.2.1,s.2.2.map λe=>(e.num,(e.den:Int))):=by obtain⟨b,i,e⟩:=s;rcases h with rfl|rfl <;> cases e <;> rfl
def dz {m:zy (FK×Int)}{k a:FK}{v:Int}:BJ (Pe m k v) a=if a=k then some v else BJ m a:=by
 unfold Pe;by_cases hk:(m.any λp=>decide (p.1=k))=true
 .rw [AAE hk];induction m with
  | nil=>simp at hk
  | cons p r ih=>
    by_cases e:p.1=k
    .by_cases b:a=k
     .subst b;simp[BJ,e]
     .have:¬k=a:=λz=>b z.symm;by_cases d:(r.any λp=>decide (p.1=k))=true
      .have:=ih d;simpa[BJ,e,b,this, ‹¬k=a›] using this
      .have f:r.map (λp=>if p.1=k then (p.1,v) else p)=r:=by
        conv=>rhs;rw[<-List.map_id r]
        apply AA9;intro q hq;have:¬q.1=k:=λz=>d (AAk.mpr ⟨q,hq,by simpa using z⟩);rw[AAD this];rfl
       simp only[AAK,e,ABB,f];simp[BJ,e,b,this]
    .have d:(r.any λp=>decide (p.1=k))=true:=by simpa[e] using hk
     have:=ih d;by_cases c:p.1=a
     .have:¬a=k:=λz=>e (c.trans z);simp[BJ,e,c,this]
     .simpa [BJ,e,c] using this
 .rw [AAD hk];induction m with
  | nil=>
    by_cases b:a=k
    .subst b;simp[BJ]
    .have:¬k=a:=λz=>b z.symm;simp[BJ,b,this]
  | cons p r ih=>
    have e:¬p.1=k:=λz=>hk (by simp[z]);have d:¬(r.any λp=>decide (p.1=k))=true:=λz=>hk (by simp only[AA4,z,Bool.or_true]);have:=ih d;by_cases c:p.1=a
    .have:¬a=k:=λz=>e (c.trans z);simp[BJ,c,this]
    .simpa [BJ,c] using this
def gA {m:zy (FK×Int)}{k a:FK}{v:Int}:a∈(Pe m k v).map (·.1)↔a=k\/a∈m.map (·.1):=by
 unfold Pe;split
 .rename_i hk;obtain⟨q,hq,e⟩:=AAk.mp hk;have e:q.1=k:=by simpa using e
  have:(m.map λp=>if p.1=k then (p.1,v) else p).map (·.1)=m.map (·.1):=by rw[AAe];apply AA9;intro p _;by_cases z:p.1=k <;> simp[z]
  rw[this];refine⟨.inr,λh=>h.elim (λz=> ?_) id⟩;rw[z,<-e];exact AAM.mpr ⟨q,hq,rfl⟩
 .rw [AAP,AAO];simp only[AAK,ABY,AAU];exact Or.comm
def iT {m:zy (FK×Int)}{k:FK}:(BJ m k).isSome=true↔k∈m.map (·.1):=by
 unfold BJ;rw[ACT,List.find?_isSome,AAM];constructor
 .rintro ⟨p,hp,e⟩;exact⟨p,hp,by simpa using e⟩
 .rintro ⟨p,hp,e⟩;exact⟨p,hp,by simpa using e⟩
def KD (s:Ar)(p:Pl):Int:=(if bp s=p then 1 else 0)-(if ep s=some p then 1 else 0)
def cnt (ss:zy Ar)(p:Pl):Int:=(ss.map λs=>KD s p).sum
def J6 (ss:zy Ar)(p:Pl):Prop:=∃s∈ss,bp s=p\/ep s=some p
def K2 {m:zy (FK×Int)}{k a:FK}{d:Int}:(BJ (bump m k d) a).getD 0=(BJ m a).getD 0+if a=k then d else 0:=by
 unfold bump;rw[dz];by_cases e:a=k
 .subst e;simp
 .simp [e]
def N4 {m:zy (FK×Int)}{k a:FK}{d:Int}:a∈(bump m k d).map (·.1)↔a=k\/a∈m.map (·.1):=gA
inductive EG:List PV->List Ar->Prop where
 | nil:EG [] []
 | cons {x:PV} {s:Ar} {xs:List PV} {ss:List Ar} (h:x=Ao s\/x=cz s) (t:EG xs ss):EG (x::xs) (s::ss)
def EG.length:∀{xs:zy PV} {ss:zy Ar},EG xs ss->xs.length=ss.length
 | _,_, .nil=>rfl
 | _,_, .cons _ t=>by simp[t.length]
def Ed (ss:zy Ar):EG (ss.map Ao) ss:=by
 induction ss with
 | nil=>exact .nil
 | cons s ss ih=>exact .cons (.inl rfl) ih
def Up {m:zy (FK×Int)}{s:Ar}:(∀p,(BJ (GR m (s.1.num,(s.1.den:Int)) s.2.1 (s.2.2.map λe=>(e.num,(e.den:Int)))) (FD p)).getD 0=(BJ m (FD p)).getD 0+KD s p)/\ ∀k,k∈(GR m (s.1.num,(s.1.den:Int)) s.2.1 (s.2.2.map λe=>(e.num,(e.den:Int)))).map (·.1)↔k∈m.map (·.1)\/∃p,(bp s=p\/ep s=some p)/\k=FD p:=by
 obtain⟨b,h,e⟩:=s;have a:∀p:Pl,(FD p=((b.num,(b.den:Int)),1-h))↔bp (b,h,e)=p:=λp=>⟨λz=>(RH (p:=p) (q:=(b,1-h)) z).symm,λz=>by rw[<-z];rfl⟩;cases e with
 | none=>
   refine⟨λp=> ?_,λk=> ?_⟩
   .show (BJ (bump m ((b.num,(b.den:Int)),1-h) 1) (FD p)).getD 0=_;rw[K2];simp only[a,KD,ep];simp
   .show k∈(bump m ((b.num,(b.den:Int)),1-h) 1).map (·.1)↔_;rw[N4];constructor
    .rintro (z|z)
     .exact .inr ⟨_, .inl rfl,z⟩
     .exact .inl z
    .rintro (z|⟨p,z|z,hk⟩)
     .exact .inr z
     .exact .inl (by rw[hk,<-z];rfl)
     .cases z
 | some e=>
   have c:∀p:Pl,(FD p=((e.num,(e.den:Int)),0))↔ep (b,h,some e)=some p:=λp=>⟨λz=>by rw[<-RH (p:=(e,0)) (q:=p) z.symm];rfl,λz=>by cases z;rfl⟩;refine⟨λp=> ?_,λk=> ?_⟩
   .show (BJ (bump (bump m ((b.num,(b.den:Int)),1-h) 1) ((e.num,(e.den:Int)),0) (-1)) (FD p)).getD 0=_;rw[K2,K2];simp only[a,c,KD];split <;> split <;> omega
   .show k∈(bump (bump m ((b.num,(b.den:Int)),1-h) 1) ((e.num,(e.den:Int)),0) (-1)).map (·.1)↔_;rw[N4,N4];constructor
    .rintro (z|z|z)
     .exact .inr ⟨(e,0), .inr rfl,z⟩
     .exact .inr ⟨_, .inl rfl,z⟩
     .exact .inl z
    .rintro (z|⟨p,z|z,hk⟩)
     .exact .inr (.inr z)
     .exact .inr (.inl (by rw[hk,<-z];rfl))
     .exact .inl (by rw[hk];exact(c p).mpr z)
theorem QY:∀{xs:zy PV} {ss:zy Ar} (m0:zy (FK×Int)),EG xs ss->∃m,FZ xs m0=some m/\(∀p,(BJ m (FD p)).getD 0=(BJ m0 (FD p)).getD 0+cnt ss p)/\(∀k,k∈m.map (·.1)↔k∈m0.map (·.1)\/∃p,J6 ss p/\k=FD p)/\m.length<=m0.length+2*ss.length
 | _,_,m0, .nil=>⟨m0,rfl,λp=>by simp[cnt],λk=>by simp[J6],by simp⟩
 | x::xs,s::ss,m0, .cons h t=>by
   obtain⟨m,h1,h2,d,i⟩:=QY (GR m0 (s.1.num,(s.1.den:Int)) s.2.1 (s.2.2.map λe=>(e.num,(e.den:Int)))) t;obtain⟨f,g⟩:=Up (m:=m0) (s:=s);refine⟨m, ?_,λp=> ?_,λk=> ?_, ?_⟩
   .unfold FZ;rw[lX h];exact h1
   .rw [h2,f];simp[cnt];omega
   .rw [d,g];constructor
    .rintro ((z|⟨p,z,e⟩)|⟨p,⟨c,a,z⟩,e⟩)
     .exact .inl z
     .exact .inr ⟨p,⟨s,by simp,z⟩,e⟩
     .exact .inr ⟨p,⟨c,by simp[a],z⟩,e⟩
    .rintro (z|⟨p,⟨c,a,z⟩,e⟩)
     .exact .inl (.inl z)
     .rcases AAF.mp a with rfl|a
      .exact .inl (.inr ⟨p,z,e⟩)
      .exact .inr ⟨p,⟨c,a,z⟩,e⟩
   .have:=Lx (m:=m0) (b:=(s.1.num,(s.1.den:Int))) (h:=s.2.1) (e:=s.2.2.map λe=>(e.num,(e.den:Int)));simp only[AAc];omega
def Jd (x p:Pl):km:=decide (x.1<p.1)||(decide (x.1=p.1)&&decide (x.2<=p.2))
def Al (s:Ar)(p:Pl):km:=(decide (s.1<p.1)||(decide (s.1=p.1)&&decide (0<s.2.1+p.2)))&&(match s.2.2 with | none=>true|some e=>decide (p.1<e))
structure A8 (B:Nat) (s:Ar):Prop where
 b:Bd B s.1
 h:s.2.1=0\/s.2.1=1
 e:∀e,s.2.2=some e->s.1<e/\Bd B e
def tm (s:Ar)(p:Pl):Int:=(if Jd (bp s) p=true then 1 else 0)-(if (ep s).any (Jd · p)=true then 1 else 0)
def pq {B:Nat}{s:Ar}{p:Pl}(ok:A8 B s)(hp:0<=p.2):tm s p=if Al s p=true then 1 else 0:=by
 obtain⟨b,h,e⟩:=s;obtain⟨q,i⟩:=p;have g:h=0\/h=1:=ok.h;have hp:0<=i:=hp;have d:Jd (bp (b,h,e)) (q,i)=(decide (b<q)||(decide (b=q)&&decide (0<h+i))):=by unfold Jd bp;congr 2;exact ABP.mpr (by show 1-h<=i↔0<h+i;omega)
 cases e with
 | none=> unfold tm Al;rw[d];simp[ep]
 | some e=>
   have j:b<e:=(ok.e e rfl).1;have f:(ep (b,h,some e)).any (Jd · (q,i))= !decide (q<e):=by
    show Jd (e,0) (q,i)=_;unfold Jd;by_cases z:q<e
    .have a:¬e<q:=by grind
     have c:¬e=q:=by grind
     simp[z,a,c]
    .by_cases a:e<q
     .simp [z,a]
     .have c:e=q:=by grind
      simp[c,hp]
   unfold tm Al;rw[d,f];by_cases z:q<e
   .simp [z]
   .have a:b<q:=by grind
    simp[z,a]
def Hn (ss:zy Ar)(p:Pl):Nat:=(ss.filter (Al · p)).length
theorem Vw {B:Nat}{p:Pl}(hp:0<=p.2):∀{ss:zy Ar},(∀s∈ss,A8 B s)->(Hn ss p:Int)=(ss.map λs=>tm s p).sum
 | [],_=>rfl
 | s::ss,h=>by
   have ih:=Vw hp (ss:=ss) λx hx=>h x (by simp[hx]);have e:=pq (p:=p) (h s (by simp)) hp;rw[AAK,ACP,<-ih,e];unfold Hn;rw[ABE];split
   .simp;omega
   .simp
def Iy (x p:Pl):Prop:=x.1<p.1\/(x.1=p.1/\x.2<p.2)
def Ft {a b c:Pl}(h:Iy a b)(h2:Iy b c):Iy a c:=by
 unfold Iy at *;rcases h with h|⟨h,h'⟩ <;> rcases h2 with h2|⟨h2,d⟩
 .left;grind
 .left;grind
 .left;grind
 .right;exact⟨by grind,by omega⟩
def Cg {x p:Pl}:Jd x p=true↔Iy x p\/x=p:=by
 obtain⟨a,i⟩:=x;obtain⟨b,j⟩:=p;unfold Jd Iy;simp only[ABq,AAq,ADF,ADr];constructor
 .rintro (h|⟨h,h2⟩)
  .exact .inl (.inl h)
  .by_cases e:i=j
   .exact .inr ⟨h,e⟩
   .exact .inl (.inr ⟨h,by omega⟩)
 .rintro ((h|⟨h,h2⟩)|⟨h,h2⟩)
  .exact .inl h
  .exact .inr ⟨h,by omega⟩
  .exact .inr ⟨h,by omega⟩
def Hq {p:Pl}:¬Iy p p:=by
 unfold Iy;rintro(h|⟨_,h⟩)
 .grind
 .omega
def Tw (x:Pl):zt Pl->km|none=>false|some p=>Jd x p
def iQ (s:Ar)(o:zt Pl):Int:=(if Tw (bp s) o=true then 1 else 0)-(if (ep s).any (Tw · o)=true then 1 else 0)
def sY:zt Pl->Pl->Prop|none,_=>True|some q,p=>Iy q p
def Ka {x p:Pl}{o:zt Pl}(hx:Tw x o=true\/x=p\/Iy p x)(a:sY o p):Jd x p=(Tw x o||decide (x=p))/\¬(Tw x o=true/\x=p):=by
 have h1:Tw x o=true->Iy x p:=λh=>by
  cases o with
  | none=>cases h
  | some q=>rcases Cg.mp h with h|h
            .exact Ft h a
            .rw [h];exact a
 refine⟨?_,λh=>by rw[h.2] at h1;exact Hq (h1 (h.2 ▸ h.1))⟩;rw[AA2,ABq,ADF,Cg];constructor
 .rintro (h|h)
  .rcases hx with z|z|z
   .exact .inl z
   .exact .inr z
   .exact absurd (Ft h z) Hq
  .exact .inr h
 .rintro (h|h)
  .exact .inl (h1 h)
  .exact .inr h
def bO {A:km}{E:Prop}[Decidable E](h:¬(A=true/\E)):(if (A||decide E)=true then (1:Int) else 0)=(if A=true then 1 else 0)+if E then 1 else 0:=by cases A <;> by_cases e:E <;> simp_all
def iR {s:Ar}{p:Pl}{o:zt Pl}(hb:Tw (bp s) o=true\/bp s=p\/Iy p (bp s))(he:∀x,ep s=some x->Tw x o=true\/x=p\/Iy p x)(a:sY o p):tm s p=iQ s o+KD s p:=by
 obtain⟨b,b2⟩:=Ka hb a;unfold tm iQ KD;rw[b,bO b2];cases e:ep s with
 | none=>simp
 | some x=>
   obtain⟨c,d⟩:=Ka (he x e) a;have h1:(if (some x).any (Jd · p)=true then (1:Int) else 0)=(if Tw x o=true then 1 else 0)+if x=p then 1 else 0:=by show (if Jd x p=true then (1:Int) else 0)=_;rw[c,bO d]
   rw[h1];show _=(_-(if Tw x o=true then (1:Int) else 0))+(_-(if some x=some p then (1:Int) else 0));have h2:(if some x=some p then (1:Int) else 0)=if x=p then 1 else 0:=by by_cases z:x=p <;> simp[z]
   rw[h2];omega
def Yg (X:zy Pl):Prop:=X.Pairwise Iy
def G1 (ss:zy Ar):Int->zy Pl->Prop
 | _, [] =>True
 | c,p::r=>(Hn ss p:Int)=c+cnt ss p/\G1 ss (Hn ss p) r
theorem YO {a:Type}(f g:a->Int):∀xs:zy a,(xs.map λx=>f x+g x).sum=(xs.map f).sum+(xs.map g).sum
 | [] =>rfl
 | x::xs=>by simp only[AAK,ACP,YO f g xs];omega
theorem Nh {B:Nat}{ss:zy Ar}(ok:∀s∈ss,A8 B s):∀(X:zy Pl) (o:zt Pl),Yg X->(∀p∈X,sY o p/\0<=p.2)->(∀s∈ss,(Tw (bp s) o=true\/bp s∈X)/\∀x,ep s=some x->Tw x o=true\/x∈X)->G1 ss ((ss.map λs=>iQ s o).sum) X
 | [],_,_,_,_=>True.intro
 | p::r,o,hs,ho,hk=>by
   obtain⟨h1,h2⟩:=AAN.mp hs;obtain⟨op,a⟩:=ho p (by simp);have cls:∀x,(Tw x o=true\/x∈p::r)->Tw x o=true\/x=p\/Iy p x:=λx h=>by
    rcases h with h|h
    .exact .inl h
    .rcases AAF.mp h with h|h
     .exact .inr (.inl h)
     .exact .inr (.inr (h1 x h))
   have e:(Hn ss p:Int)=(ss.map λs=>iQ s o).sum+cnt ss p:=by rw[Vw a ok];unfold cnt;rw[<-YO];congr 1;apply AA9;intro s hs;exact iR (cls _ (hk s hs).1) (λx ex=>cls x ((hk s hs).2 x ex)) op
   refine⟨e, ?_⟩;have:=Nh ok r (some p) h2 (λq hq=>⟨h1 q hq,(ho q (by simp[hq])).2⟩) (λs hs=>⟨?_,λx ex=> ?_⟩)
   .rw [show (ss.map λs=>iQ s (some p)).sum=(Hn ss p:Int) from(Vw a ok).symm] at this;exact this
   .rcases cls _ (hk s hs).1 with z|z|z
    .exact .inl (by rw[show Tw (bp s) (some p)=Jd (bp s) p from rfl,(Ka (.inl z) op).1,z];rfl)
    .exact .inl (Cg.mpr (.inr z))
    .rcases (hk s hs).1 with y|y
     .exact .inl (by rw[show Tw (bp s) (some p)=Jd (bp s) p from rfl,(Ka (.inl y) op).1,y];rfl)
     .rcases AAF.mp y with y|y
      .exact .inl (Cg.mpr (.inr y))
      .exact .inr y
   .rcases (hk s hs).2 x ex with y|y
    .exact .inl (by rw[show Tw x (some p)=Jd x p from rfl,(Ka (.inl y) op).1,y];rfl)
    .rcases AAF.mp y with y|y
     .exact .inl (Cg.mpr (.inr y))
     .exact .inr y
def places (qs:zy Rat):zy Pl:=qs.flatMap λq=> [(q,0),(q,1)]
def BG {qs:zy Rat}{p:Pl}:p∈places qs↔p.1∈qs/\(p.2=0\/p.2=1):=by
 obtain⟨a,i⟩:=p;unfold places;simp only[AAm,AAF,AAj,AAh,ADr];constructor
 .rintro ⟨q,hq,⟨rfl,rfl⟩|⟨rfl,rfl⟩⟩
  .exact ⟨hq, .inl rfl⟩
  .exact ⟨hq, .inr rfl⟩
 .rintro ⟨h,h2⟩;exact⟨a,h,h2.elim (λz=> .inl ⟨rfl,z⟩) (λz=> .inr ⟨rfl,z⟩)⟩
theorem D8:∀{qs:zy Rat},Ux qs->Yg (places qs)
 | [],_=>List.Pairwise.nil
 | q::r,h=>by
   obtain⟨h1,h2⟩:=AAN.mp h;have ih:=D8 h2;have a:∀(i:Int),∀p∈places r,Iy (q,i) p:=λi p hp=> .inl (h1 _ (BG.mp hp).1);show Yg ((q,0)::(q,1)::places r);refine AAN.mpr ⟨λp hp=> ?_,AAN.mpr ⟨a 1,ih⟩⟩;rcases AAF.mp hp with rfl|hp
   .exact .inr ⟨rfl,by show (0:Int)<1;decide⟩
   .exact a 0 p hp
def Ai (ss:zy Ar):zy Rat:=ss.flatMap λs=>s.1::s.2.2.toList
def DD (ss:zy Ar):zy Pl:=places (BA (Ai ss))
def N5 {B:Nat}{ss:zy Ar}(ok:∀s∈ss,A8 B s){s:Ar}(hs:s∈ss):bp s∈DD ss/\∀x,ep s=some x->x∈DD ss:=by
 refine⟨BG.mpr ⟨Ax.mpr (AAm.mpr ⟨s,hs,by simp[bp]⟩), ?_⟩,λx ex=> ?_⟩
 .have:=(ok s hs).h;unfold bp;simp only;omega
 .obtain ⟨e,he,rfl⟩:=ABQ.mp ex;exact BG.mpr ⟨Ax.mpr (AAm.mpr ⟨s,hs,by simp[he]⟩), .inl rfl⟩
def FA {B:Nat}{ss:zy Ar}(ok:∀s∈ss,A8 B s):G1 ss 0 (DD ss):=by
 have h:=Nh ok (DD ss) none (D8 Bl) (λp hp=>⟨True.intro,by rcases (BG.mp hp).2 with z|z <;> omega⟩) (λs hs=>⟨.inr (N5 ok hs).1,λx ex=> .inr ((N5 ok hs).2 x ex)⟩);have:(ss.map λs=>iQ s none).sum=0:=by
  clear h ok;induction ss with
  | nil=>rfl
  | cons s ss ih=> rw[AAK,ACP,ih];unfold iQ;cases ep s <;> rfl
 rw[this] at h;exact h
def Cm (val:Pl->zt Int)(st:zy (Pl×Int)×Int)(p:Pl):zy (Pl×Int)×Int:=match val p with | some v=>(st.1 ++ [(p,st.2+v)],st.2+v)|none=>st
theorem Sa {ss:zy Ar}{val:Pl->zt Int}(h1:∀p v,val p=some v->v=cnt ss p)(h2:∀p,val p=none->cnt ss p=0):∀(X:zy Pl) (a:zy (Pl×Int)) (c:Int),G1 ss c X->(X.foldl (Cm val) (a,c)).1=a++(X.filter λp=>(val p).isSome).map λp=>(p,(Hn ss p:Int))
 | [],a,c,_=>by simp
 | p::r,a,c,h=>by
   rw[AAx];cases e:val p with
   | none=>
     have hc:(Hn ss p:Int)=c:=by rw[h.1,h2 p e];omega
     rw[show Cm val (a,c) p=(a,c) by unfold Cm;rw[e],Sa h1 h2 r a c (hc ▸ h.2),ABE,AAD (by rw[e];decide)]
   | some v=>
     have hc:c+v=(Hn ss p:Int):=by rw[h.1,h1 p v e]
     rw[show Cm val (a,c) p=(a ++ [(p,c+v)],c+v) by unfold Cm;rw[e],hc,Sa h1 h2 r _ _ h.2,ABE,AAE (by rw[e];rfl),AAK,ADq];rfl
section
variable {ta tb td:AE}{r:AA}{τ:A5}{Q:PV->Prop}{QL:zy PV->Prop}{m:zy (FK×Int)}
def oj (xs:zy PV)(Q:zy PV->Prop):Prop:=match xs with | [.dct kvs] =>Q (kvs.map λp=>V3 p.1)|_=>False
instance:Wp (VP r τ QL) (r τ λxs=>oj xs QL):=⟨id⟩
instance:Wp (oj [.dct m] QL) (QL (m.map λp=>V3 p.1)):=⟨id⟩
class fA (m:List (FK×Int)) (k:FK) (i:outParam Int):Prop where
 e:BJ m k=some i
def sn (m:zy (FK×Int))(k:FK)(Q:PV->Prop):Prop:=match BJ m k with | some i=>Q (.int i)|none=>False
instance:Wp (fB ta tb td τ Q) (ta τ λx=>tb τ λy=>td τ λm=>mj m λkvs=>OH x y λk=>Q (.bl (BJ kvs k).isSome)):=⟨id⟩
instance:Wp (aR td ta tb τ Q) (td τ λm=>ta τ λx=>tb τ λy=>mj m λkvs=>OH x y λk=>sn kvs k Q):=⟨id⟩
instance{k:FK}{i:Int}[h:fA m k i] :Wp (sn m k Q) (Q (.int i)):=⟨λz=>by unfold sn;rw[h.e];exact z⟩
instance{R:zy (FK×Int)->Prop}:Wp (mj (.dct m) R) (R m):=⟨id⟩
instance{q:Rat}{i:Int}{R:FK->Prop}:Wp (OH (fr q) (.int i) R) (R (FD (q,i))):=⟨id⟩
end
def dZ {v:PV}{xs:zy PV}{m:zy (FK×Int)}(hv:v= .tup xs\/v= .lst xs)(hl:xs.length<=1000)(h:FZ xs [] =some m){Q:PV->Prop}(q:Q (.dct m)):Hh [v] Q:=by
 have hz:2*xs.length+2<sizeLine:=AA3 (by omega:_<=2002) (AAX (by decide:2002<2003) (AAt rfl));rcases hv with rfl|rfl
 .exact ⟨hz,m,h,q⟩
 .exact ⟨hz,m,h,q⟩
def un (k:FK):Rat:=mkRat k.1.1 k.1.2.toNat
def mP (p:Pl):un (FD p)=p.1:=by unfold un FD;show mkRat p.1.num ((p.1.den:Int).toNat)=p.1;rw[ABz];exact Rat.mkRat_self p.1
def kP (p:Pl):V3 (FD p)= .tup [fr p.1, .int p.2] :=rfl
def oY (x:Pl×Int):PV:= .tup [fr x.1.1, .int x.1.2, .int x.2]
def K9 (ss:zy Ar)(key:Pl->km):zy (Pl×Int):=((DD ss).filter key).map λp=>(p,(Hn ss p:Int))
def QM {v:PV}{xs:zy PV}{ss:zy Ar}{B:Nat}(hv:v= .tup xs\/v= .lst xs)(E:EG xs ss)(ok:∀s∈ss,A8 B s)(hl:ss.length<=400)(I:B<=4000){Q:PV->Prop}(q:∀key:Pl->km,(∀p,key p=true↔J6 ss p)->Q (.lst ((K9 ss key).map oY))):Fk [v] Q:=by
 obtain⟨m,J,F,C,K⟩:=QY [] E;have hx:=E.length;have M:∀p:Pl,(BJ m (FD p)).isSome=true↔J6 ss p:=λp=>by
  rw[iT,C];constructor
  .rintro (z|⟨T,z,e⟩)
   .cases z
   .rw [RH e];exact z
  .exact λz=> .inr ⟨p,z,rfl⟩
 have G:=q (λp=>(BJ m (FD p)).isSome) M;have g:∀p w,BJ m (FD p)=some w->w=cnt ss p:=λp w e=>by have:=F p;rw[e] at this;simpa[BJ] using this
 have N:∀p,BJ m (FD p)=none->cnt ss p=0:=λp e=>by have:=F p;rw[e] at this;simp[BJ] at this;omega
 have O:=Sa g N (DD ss) [] 0 (FA ok);have mk:∀k∈m,∃p,k.1=FD p/\J6 ss p:=λk hk=>by
  rcases (C k.1).mp (AAM.mpr ⟨k,hk,rfl⟩) with z|⟨p,z,e⟩
  .cases z
  .exact ⟨p,e,z⟩
 have ms:∀x,x∈m.map (λk=>un k.1)↔x∈Ai ss:=λx=>by
  rw[AAM];unfold Ai;rw[AAm];constructor
  .rintro ⟨k,hk,rfl⟩;obtain⟨p,e,s,hs,z⟩:=mk k hk;rw[e,mP];refine⟨s,hs, ?_⟩;rcases z with z|z
   .rw [<-z];simp[bp]
   .obtain ⟨U,he,rfl⟩:=ABQ.mp z;simp[he]
  .rintro ⟨s,hs,hx⟩;have go:∀p:Pl,J6 ss p->∃a∈m,un a.1=p.1:=λp hp=>by obtain⟨a,ha,e⟩:=AAM.mp ((C (FD p)).mpr (.inr ⟨p,hp,rfl⟩));exact⟨a,ha,by rw[e,mP]⟩
   rcases AAF.mp hx with rfl|hx
   .exact go (bp s) ⟨s,hs, .inl rfl⟩
   .have hx:s.2.2=some x:=by simpa using hx
    exact go (x,0) ⟨s,hs, .inr (by unfold ep;rw[hx];rfl)⟩
 have bm:∀x∈m.map (λk=>un k.1),Bd B x:=λx h=>by
  obtain⟨s,hs,hx⟩:=AAm.mp ((ms x).mp h);rcases AAF.mp hx with rfl|hx
  .exact (ok s hs).b
  .exact ((ok s hs).e x (by simpa using hx)).2
 have H:BA (m.map λk=>un k.1)=BA (Ai ss):=KJ ms;have W:m.length<=800:=by simp at K;omega
 apply WT;ac_rfl;refine dZ hv (by omega) J ?_;ac_rfl;refine CP (λk:FK×Int=>V3 k.1) fr (λk=>un k.1) (λk=>k∈m) (λk hk R y=> ?_) m [] (λ_ h=>h) ?_
 .obtain ⟨p,e,_⟩:=mk k hk;rw[e,mP] at y;rw[e,kP];repeat' array_get_dec
  exact y
 ac_rfl;rw[AAl];refine ZZ (.inl rfl) (by rw[AAI];omega) bm I ?_;rw[H];have Y:(BA (Ai ss)).length<=800:=by rw[<-H];exact AAf DR (by rw[AAI];omega)
 ac_rfl;refine CQ fr (λus vs τ=>∃r t,τ= [some (.val v),some (.val (.dct m)),some (.own (((places us).foldl (Cm λp=>BJ m (FD p)) ([],0)).1.map oY)),some (.val (.int ((places us).foldl (Cm λp=>BJ m (FD p)) ([],0)).2)),r,t]) ?_ ?_ ⟨_,_,rfl⟩
 .rintro τ ⟨r,t,rfl⟩;repeat' array_get_dec
  have e:K9 ss (λp=>(BJ m (FD p)).isSome)=((places (BA (Ai ss))).foldl (Cm λp=>BJ m (FD p)) ([],0)).1:=by rw[show places (BA (Ai ss))=DD ss from rfl,O];rfl
  rw[e] at G;exact G
 .rintro us c vs e τ R y ⟨r,t,rfl⟩;have ep:places (us ++ [c])=places us ++ [(c,0),(c,1)] :=by unfold places;simp
  have es:(places (us ++ [c])).foldl (Cm λp=>BJ m (FD p)) ([],0)=Cm (λp=>BJ m (FD p)) (Cm (λp=>BJ m (FD p)) ((places us).foldl (Cm λp=>BJ m (FD p)) ([],0)) (c,0)) (c,1):=by rw[ep,ABg];rfl
  have P:((places us).foldl (Cm λp=>BJ m (FD p)) ([],0)).1.length<=2*us.length:=by
   have go:∀(X:zy Pl) (st:zy (Pl×Int)×Int),(X.foldl (Cm λp=>BJ m (FD p)) st).1.length<=st.1.length+X.length:=by
    intro X;induction X with
    | nil=>intro st;simp
    | cons p X ih=>
      intro st;have h1:=ih (Cm (λp=>BJ m (FD p)) st p);have h2:(Cm (λp=>BJ m (FD p)) st p).1.length<=st.1.length+1:=by unfold Cm;split <;> simp
      rw[AAx,AAc];omega
   have h1:=go (places us) ([],0);have h2:(places us).length=2*us.length:=by
    unfold places;clear y es ep e h1;induction us with
    | nil=>rfl
    | cons u us ih=>rw[AB9,AAg,ih];simp;omega
   simp at h1;omega
  have ul:us.length<=800:=by have:=congrArg List.length e;simp at this;omega
  generalize (places us).foldl (Cm λp=>BJ m (FD p)) ([],0)=st at *;obtain⟨L,n⟩:=st;have i:∀(L2:zy (Pl×Int)) D r t,(L2,D)=Cm (λp=>BJ m (FD p)) (Cm (λp=>BJ m (FD p)) (L,n) (c,0)) (c,1)->R [some (.val v),some (.val (.dct m)),some (.own (L2.map oY)),some (.val (.int D)),r,t] :=λL2 D r t h=>y _ ⟨r,t,by rw[es,<-h]⟩;clear y;have l:(Rat.num 0:Int)=0:=rfl;have o:((Rat.den 0:Nat):Int)=1:=rfl;have S:L.length<=1600:=by have h:L.length<=2*us.length:=P;omega
  cases j:BJ m (FD (c,0)) with
  | none=>
    cases d:BJ m (FD (c,1)) with
    | none=>
      have f:=i L n;repeat' array_get_dec
      simp only[l,o,j];repeat' array_get_dec
      simp only[l,o,d];repeat' array_get_dec
      exact f _ _ (by unfold Cm;simp only[j,d])
    | some g=>
      have f:=i (L ++ [((c,1),n+g)]) (n+g);rw[AAP] at f;haveI:fA m (FD (c,1)) g:=⟨d⟩;repeat' array_get_dec
      simp only[l,o,j];repeat' array_get_dec
      simp only[l,o,d];repeat' array_get_dec
      exact f _ _ (by unfold Cm;simp only[j,d])
  | some A=>
    haveI:fA m (FD (c,0)) A:=⟨j⟩;cases d:BJ m (FD (c,1)) with
    | none=>
      have f:=i (L ++ [((c,0),n+A)]) (n+A);rw[AAP] at f;repeat' array_get_dec
      simp only[l,o,j];repeat' array_get_dec
      simp only[l,o,d];repeat' array_get_dec
      exact f _ _ (by unfold Cm;simp only[j,d])
    | some g=>
      have f:=i (L ++ [((c,0),n+A)] ++ [((c,1),n+A+g)]) (n+A+g);rw[AAP,AAP] at f;haveI:fA m (FD (c,1)) g:=⟨d⟩;repeat' array_get_dec
      simp only[l,o,j];repeat' array_get_dec
      simp only[l,o,d];repeat' array_get_dec
      exact f _ _ (by unfold Cm;simp only[j,d])
def stepI (st:zy Ar×zt Pl)(x:Pl×km):zy Ar×zt Pl:=
 match st.2,x.2 with
 | none,true=>(st.1,some x.1)
 | some b,false=>(st.1 ++ [(b.1,1-b.2,some x.1.1)],none)
 | _,_=>st
def Nk (st:zy Ar×zt Pl):zy Ar:=match st.2 with | none=>st.1|some b=>st.1 ++ [(b.1,1-b.2,none)]
def Cc (X:zy (Pl×km)):zy Ar:=Nk (X.foldl stepI ([],none))
def Yk:zt Pl->PV|none=> .non|some b=> .tup [fr b.1, .int (1-b.2)]
def Zf {st:zy Ar×zt Pl}{x:Pl×km}:(stepI st x).1.length<=st.1.length+1:=by unfold stepI;split <;> simp
theorem Hl:∀(X:zy (Pl×km)) (st:zy Ar×zt Pl),(X.foldl stepI st).1.length<=st.1.length+X.length
 | [],st=>by simp
 | x::X,st=>by have h1:=Hl X (stepI st x);have h2:=Zf (st:=st) (x:=x);rw[AAx,AAc];omega
theorem Ec:∀{ss:zy Ar},(Ai ss).length<=2*ss.length
 | [] =>by simp[Ai]
 | s::ss=>by
   have ih:=Ec (ss:=ss);unfold Ai at *;rw[AB9,AAg,AAc,AAc];have:s.2.2.toList.length<=1:=by cases s.2.2 <;> simp
   omega
theorem GD:∀{qs:zy Rat},(places qs).length=2*qs.length
 | [] =>rfl
 | q::qs=>by have ih:=GD (qs:=qs);unfold places at *;rw[AB9,AAg,ih,AAc];simp;omega
def Tx {ss:zy Ar}{key:Pl->km}:(K9 ss key).length<=4*ss.length:=by unfold K9 DD;rw[AAI];have h1:=AD9 key (places (BA (Ai ss)));have h2:=GD (qs:=BA (Ai ss));have a:=DR (xs:=Ai ss);have b:=Ec (ss:=ss);omega
def Va {v:PV}{xs:zy PV}{ss:zy Ar}{B:Nat}{n:Int}(hv:v= .tup xs\/v= .lst xs)(t:EG xs ss)(ok:∀s∈ss,A8 B s)(hl:ss.length<=400)(u:B<=4000){Q:PV->Prop}(q:∀key:Pl->km,(∀p,key p=true↔J6 ss p)->Q (.tup ((Cc ((K9 ss key).map λx=>(x.1,decide (n<=x.2)))).map Ao))):Dx [v, .int n] Q:=by
 apply Ub;ac_rfl;refine QM hv t ok hl u λkey hk=> ?_;have l:=q key hk;have w:(K9 ss key).length<=2000:=AAf Tx (by omega);clear q;generalize K9 ss key=Ls at *;ac_rfl;refine CQ oY (λus vs τ=>∃a d g,τ= [some (.val v),some (.val (.int n)),some (.own (((us.map λx=>(x.1,decide (n<=x.2))).foldl stepI ([],none)).1.map Ao)),some (.val (Yk ((us.map λx=>(x.1,decide (n<=x.2))).foldl stepI ([],none)).2)),a,d,g]) ?_ ?_ ⟨_,_,_,rfl⟩
 .rintro τ ⟨a,d,g,rfl⟩;have m:=Hl (Ls.map λx=>(x.1,decide (n<=x.2))) ([],none);unfold Cc at l;generalize (Ls.map λx=>(x.1,decide (n<=x.2))).foldl stepI ([],none)=st at *;obtain⟨L,b⟩:=st;have o:L.length<=2000:=by have h:L.length<=0+_:=m;rw[AAI] at h;omega
  cases b with
  | none=>
    have j:Q (.tup (L.map Ao)):=l;show Fx _ [some (.val v),some (.val (.int n)),some (.own (L.map Ao)),some (.val .non),a,d,g];repeat' array_get_dec
    exact j
  | some b=>
    have j:Q (.tup ((L ++ [(b.1,1-b.2,none)]).map Ao)):=l;rw[AAP] at j;show Fx _ [some (.val v),some (.val (.int n)),some (.own (L.map Ao)),some (.val (.tup [fr b.1, .int (1-b.2)])),a,d,g];repeat' array_get_dec
    exact j
 .rintro us c vs e τ R r ⟨a,d,g,rfl⟩;have m:=Hl (us.map λx=>(x.1,decide (n<=x.2))) ([],none);have ul:us.length<=2000:=by have:=congrArg List.length e;simp at this;omega
  have es:((us ++ [c]).map λx=>(x.1,decide (n<=x.2))).foldl stepI ([],none)=stepI ((us.map λx=>(x.1,decide (n<=x.2))).foldl stepI ([],none)) (c.1,decide (n<=c.2)):=by rw[AAP,ABg];rfl
  generalize (us.map λx=>(x.1,decide (n<=x.2))).foldl stepI ([],none)=st at *;obtain⟨L,b⟩:=st;have o:L.length<=2000:=by have h:L.length<=0+_:=m;rw[AAI] at h;omega
  have i:∀L2 b2 a d g,(L2,b2)=stepI (L,b) (c.1,decide (n<=c.2))->R [some (.val v),some (.val (.int n)),some (.own (L2.map Ao)),some (.val (Yk b2)),a,d,g] :=λL2 b2 a d g h=>r _ ⟨a,d,g,by rw[es,<-h]⟩;clear r;obtain⟨p,k⟩:=c;show Jb 3 (Ad (Ak 4) (Ad (Ak 5) (Ad (Ak 6) B0))) (.tup [fr p.1, .int p.2, .int k]) _ _;cases b with
  | none=>
    show Jb 3 (Ad (Ak 4) (Ad (Ak 5) (Ad (Ak 6) B0))) (.tup [fr p.1, .int p.2, .int k]) [some (.val v),some (.val (.int n)),some (.own (L.map Ao)),some (.val .non),a,d,g] _;repeat' array_get_dec
    .rename_i h;exact i L (some p) _ _ _ (by unfold stepI;simp only[AAo h])
    .rename_i h;exact i L none _ _ _ (by unfold stepI;simp only[AAa h])
  | some b=>
    show Jb 3 (Ad (Ak 4) (Ad (Ak 5) (Ad (Ak 6) B0))) (.tup [fr p.1, .int p.2, .int k]) [some (.val v),some (.val (.int n)),some (.own (L.map Ao)),some (.val (.tup [fr b.1, .int (1-b.2)])),a,d,g] _;repeat' array_get_dec
    .rename_i h;have f:=i (L ++ [(b.1,1-b.2,some p.1)]) none (some (.val (fr p.1))) (some (.val (.int p.2))) (some (.val (.int k))) (by unfold stepI;simp only[AAa (show ¬n<=k by omega)]);rw[AAP] at f;exact f
    .rename_i h;exact i L (some b) _ _ _ (by unfold stepI;simp only[AAo (show n<=k by omega)])
def VL (In key:Pl->km):km->zy Pl->Prop
 | _, [] =>True
 | c,p::r=>(key p=false->In p=c)/\VL In key (In p) r
def Wm {st:zy Ar×zt Pl}{p:Pl}{i:km}:(stepI st (p,i)).2.isSome=i:=by obtain⟨L,b⟩:=st;cases b <;> cases i <;> rfl
def Wl {st:zy Ar×zt Pl}{p:Pl}{i:km}(h:i=st.2.isSome):stepI st (p,i)=st:=by obtain⟨L,b⟩:=st;cases b <;> cases i <;> first | rfl|cases h
theorem Hs {In key:Pl->km}:∀(X:zy Pl) (st:zy Ar×zt Pl),VL In key st.2.isSome X->(X.map λp=>(p,In p)).foldl stepI st=((X.filter key).map λp=>(p,In p)).foldl stepI st
 | [],st,_=>rfl
 | p::r,st,h=>by
   rw[AAK,AAx,ABE];cases k:key p with
   | true=> rw[AAE rfl,AAK,AAx];exact Hs r _ (by rw[Wm];exact h.2)
   | false=> have e:=h.1 k;rw[AAD (by decide),Wl e];exact Hs r st (by have:=h.2;rw[e] at this;exact this)
theorem JV {ss:zy Ar}{key:Pl->km}{n:Int}(hk:∀p,key p=false->cnt ss p=0):∀(X:zy Pl) (c:Int),G1 ss c X->VL (λp=>decide (n<=(Hn ss p:Int))) key (decide (n<=c)) X
 | [],_,_=>True.intro
 | p::r,c,h=>⟨λk=>(by show decide (n<=(Hn ss p:Int))=_;rw[h.1,hk p k,Int.add_zero]),JV hk r _ h.2⟩
def canon (n:Int)(ss:zy Ar):zy Ar:=Cc ((DD ss).map λp=>(p,decide (n<=(Hn ss p:Int))))
def TF {ss:zy Ar}{p:Pl}(h:¬J6 ss p):cnt ss p=0:=by
 have key:∀ss:zy Ar,(∀s∈ss,¬(bp s=p\/ep s=some p))->cnt ss p=0:=by
  intro ss;induction ss with
  | nil=>intro _;rfl
  | cons s ss ih=>
    intro h;have h1:=h s (by simp);have e:cnt (s::ss) p=KD s p+cnt ss p:=by simp[cnt]
    rw[e,ih λx hx=>h x (by simp[hx])];unfold KD;rw[AAD λz=>h1 (.inl z),AAD λz=>h1 (.inr z)];rfl
 exact key ss λs hs z=>h ⟨s,hs,z⟩
def TB {ss:zy Ar}{B:Nat}{n:Int}{key:Pl->km}(ok:∀s∈ss,A8 B s)(a:0<n)(hk:∀p,key p=true↔J6 ss p):Cc ((K9 ss key).map λx=>(x.1,decide (n<=x.2)))=canon n ss:=by
 unfold canon Cc K9;rw[AAe];have h:=Hs (In:=λp=>decide (n<=(Hn ss p:Int))) (key:=key) (DD ss) ([],none) (by
  have:=JV (n:=n) (key:=key) (λp z=>TF λy=>by rw[(hk p).mpr y] at z;cases z) (DD ss) 0 (FA ok);rw[AAa (by omega)] at this;exact this)
 rw[h];rfl
def Ni {v:PV}{xs:zy PV}{ss:zy Ar}{B:Nat}{n:Int}(hv:v= .tup xs\/v= .lst xs)(a:EG xs ss)(ok:∀s∈ss,A8 B s)(hl:ss.length<=400)(b:B<=4000)(c:0<n){Q:PV->Prop}(q:Q (.tup ((canon n ss).map Ao))):Dx [v, .int n] Q:=
 Va hv a ok hl b λkey hk=>by rw[TB ok c hk];exact q
def Ly {v:PV}{xs:zy PV}{ss:zy Ar}{B:Nat}(hv:v= .tup xs\/v= .lst xs)(a:EG xs ss)(ok:∀s∈ss,A8 B s)(hl:ss.length<=400)(b:B<=4000){Q:PV->Prop}(q:Q (.tup ((canon 1 ss).map Ao))):D0 [v] Q:=by
 apply Ry;repeat' array_get_dec
 exact Ni hv a ok hl b (by decide) q
def FO {ss:zy Ar}{p:Pl}:decide ((1:Int)<=(Hn ss p:Int))=ss.any (Al · p):=by
 rw[AA2,ADF,AAk];unfold Hn;constructor
 .intro h;obtain⟨s,hs⟩:=List.exists_mem_of_length_pos (l:=ss.filter (Al · p)) (by omega);have:=ACE.mp hs;exact⟨s,this.1,this.2⟩
 .rintro ⟨s,hs,h⟩;have:=List.length_pos_of_mem (ACE.mpr ⟨hs,h⟩:s∈ss.filter (Al · p));omega
def Co (In:Pl->km):zy Pl->zt Pl->zy Ar
 | [],none=> []
 | [],some b=> [(b.1,1-b.2,none)]
 | p::r,none=>if In p=true then Co In r (some p) else Co In r none
 | p::r,some b=>if In p=true then Co In r (some b) else (b.1,1-b.2,some p.1)::Co In r none
theorem OO {In:Pl->km}:∀(X:zy Pl) (a:zy Ar) (b:zt Pl),Nk ((X.map λp=>(p,In p)).foldl stepI (a,b))=a++Co In X b
 | [],a,none=>by simp[Nk,Co]
 | [],a,some b=>by simp[Nk,Co]
 | p::r,a,none=>by
   rw[AAK,AAx];unfold Co;cases e:In p with
   | true=>exact OO r a (some p)
   | false=>exact OO r a none
 | p::r,a,some b=>by
   rw[AAK,AAx];unfold Co;cases e:In p with
   | true=>exact OO r a (some b)
   | false=> show Nk ((r.map λp=>(p,In p)).foldl stepI (a ++ [(b.1,1-b.2,some p.1)],none))=a++((b.1,1-b.2,some p.1)::Co In r none);rw[OO r _ none];simp
def LK {In:Pl->km}{X:zy Pl}:Cc (X.map λp=>(p,In p))=Co In X none:=by unfold Cc;rw[OO];rfl
def FB {q p:Pl}{e:zt Rat}(hq:q.2=0\/q.2=1)(hp:0<=p.2):Al (q.1,1-q.2,e) p=(Jd q p&&(match e with | none=>true|some e=>decide (p.1<e))):=by unfold Al Jd;congr 2;congr 1;exact ABP.mpr (by show 0<1-q.2+p.2↔q.2<=p.2;omega)
def G4 (In:Pl->km):km->zy Pl->Prop
 | _, [] =>True
 | c,p::r=>(c=true->In p=false->p.2=0)/\G4 In (In p) r
theorem X5 {In:Pl->km}:∀(X:zy Pl),Yg X->(∀x∈X,x.2=0\/x.2=1)-> (G4 In false X->(∀p:Pl,0<=p.2->(∀x∈X,Iy p x)->(Co In X none).any (Al · p)=false)/\∀p∈X,(Co In X none).any (Al · p)=In p)/\ (G4 In true X->∀q:Pl,(q.2=0\/q.2=1)->(∀x∈X,Iy q x)->(∀p:Pl,0<=p.2->(∀x∈X,Iy p x)->(Co In X (some q)).any (Al · p)=Jd q p)/\∀p∈X,(Co In X (some q)).any (Al · p)=In p)
 | [],_,_=>⟨λ_=>⟨λp _ _=>rfl,λp hp=>by cases hp⟩,λ_ q hq _=>⟨λp hp _=>by show (Al (q.1,1-q.2,none) p||false)=_;rw[FB hq hp];simp,λp hp=>by cases hp⟩⟩
 | x::r,hs,PN=>by
   obtain⟨h1,h2⟩:=AAN.mp hs;have ih:=X5 (In:=In) r h2 λy hy=>PN y (by simp[hy]);have j:=PN x (by simp);have f:0<=x.2:=by omega
   have g:∀p:Pl,(∀y∈x::r,Iy p y)->∀y∈r,Iy p y:=λp h y hy=>h y (by simp[hy]);have l:∀p:Pl,Iy p x->Jd x p=false:=λp h=>by
    rw[<-ADG,Cg];rintro(z|z)
    .exact Hq (Ft z h)
    .rw [z] at h;exact Hq h
   have m:Jd x x=true:=Cg.mpr (.inr rfl);refine⟨λhd=> ?_,λhd q hq k=> ?_⟩
   .unfold Co;cases e:In x with
    | true=>
      have a:=hd.2;rw[e] at a;obtain⟨b,d⟩:=ih.2 a x j h1;rw[AAE rfl];refine⟨λp c hp=> ?_,λp hp=> ?_⟩
      .rw [b p c (g p hp),l p (hp x (by simp))]
      .rcases AAF.mp hp with rfl|hp
       .rw [b p f h1,m,e]
       .exact d p hp
    | false=>
      have a:=hd.2;rw[e] at a;obtain⟨b,d⟩:=ih.1 a;rw[AAD (by decide)];refine⟨λp c hp=>b p c (g p hp),λp hp=> ?_⟩;rcases AAF.mp hp with rfl|hp
      .rw [b p f h1,e]
      .exact d p hp
   .unfold Co;have n:Jd q x=true:=Cg.mpr (.inl (k x (by simp)));cases e:In x with
    | true=>
      have a:=hd.2;rw[e] at a;obtain⟨b,d⟩:=ih.2 a q hq (g q k);rw[AAE rfl];refine⟨λp c hp=>b p c (g p hp),λp hp=> ?_⟩;rcases AAF.mp hp with rfl|hp
      .rw [b p f h1,n,e]
      .exact d p hp
    | false=>
      have a:=hd.2;rw[e] at a;obtain⟨b,d⟩:=ih.1 a;have s:=hd.1 rfl e;rw[AAD (by decide)];have i:∀p:Pl,(p=x\/Iy x p)->¬p.1<x.1:=λp h=>by rcases h with h|h|⟨h,_⟩ <;> grind
      refine⟨λp c hp=> ?_,λp hp=> ?_⟩
      .have o:p.1<x.1:=by
        rcases hp x (by simp) with z|⟨_,z⟩
        .exact z
        .omega
       show (Al (q.1,1-q.2,some x.1) p||(Co In r none).any (Al · p))=_;rw[FB hq c,b p c (g p hp)];simp[o]
      .show (Al (q.1,1-q.2,some x.1) p||(Co In r none).any (Al · p))=_;rcases AAF.mp hp with rfl|hp
       .rw [FB hq f,b p f h1,e];simp[i p (.inl rfl)]
       .rw [FB hq (by have:=PN p (by simp[hp]);omega),d p hp];simp[i p (.inr (h1 p hp))]
theorem UZ {In:Pl->km}(P:Rat->Prop):∀(X:zy Pl) (b:zt Pl),Yg X->(∀x∈X,(x.2=0\/x.2=1)/\P x.1)->G4 In b.isSome X->(∀q,b=some q->(q.2=0\/q.2=1)/\P q.1/\∀x∈X,Iy q x)-> ∀s∈Co In X b,P s.1/\(s.2.1=0\/s.2.1=1)/\∀e,s.2.2=some e->s.1<e/\P e
 | [],none,_,_,_,_=>λs hs=>by cases hs
 | [],some q,_,_,_,hb=>λs hs=>by obtain⟨h1,h2,_⟩:=hb q rfl;simp only[Co,AAU] at hs;subst hs;exact⟨h2,by show 1-q.2=0\/1-q.2=1;omega,λe he=>by cases he⟩
 | x::r,b,hs,PN,hd,hb=>by
   obtain⟨h1,h2⟩:=AAN.mp hs;have ih:=λb d hb=>UZ (In:=In) P r b h2 (λy hy=>PN y (by simp[hy])) d hb;have a:=hd.2;cases b with
   | none=>
     unfold Co;cases e:In x with
     | true=> rw[AAE rfl];rw[e] at a;exact ih (some x) a λq hq=>by cases hq;exact⟨(PN x (by simp)).1,(PN x (by simp)).2,h1⟩
     | false=> rw[AAD (by decide)];rw[e] at a;exact ih none a λq hq=>by cases hq
   | some q=>
     obtain⟨g,c,f⟩:=hb q rfl;unfold Co;cases e:In x with
     | true=> rw[AAE rfl];rw[e] at a;exact ih (some q) a λh hq=>by cases hq;exact⟨g,c,λy hy=>f y (by simp[hy])⟩
     | false=>
       rw[AAD (by decide)];rw[e] at a;have i:=hd.1 rfl e;intro s hs;rcases AAF.mp hs with rfl|hs
       .refine ⟨c,by show 1-q.2=0\/1-q.2=1;omega,λj he=> ?_⟩;cases he;refine⟨?_,(PN x (by simp)).2⟩;rcases f x (by simp) with z|⟨_,z⟩
        .exact z
        .omega
       .exact ih none a (λq hq=>by cases hq) s hs
theorem F9 {ss:zy Ar}:∀(X:zy Pl) (c:Int),(∀x∈X,x.2=0\/x.2=1)->G1 ss c X->G4 (λp=>ss.any (Al · p)) (decide (1<=c)) X
 | [],_,_,_=>True.intro
 | p::r,c,PN,h=>by
   have ih:=F9 r (Hn ss p) (λx hx=>PN x (by simp[hx])) h.2;rw[FO] at ih;refine⟨λhc hi=> ?_,ih⟩;rcases PN p (by simp) with z|z
   .exact z
   .have hc:1<=c:=by simpa using hc
    have hi:ss.any (Al · p)=false:=hi;rw[<-FO] at hi;have hi:¬(1:Int)<=Hn ss p:=by simpa using hi
    have c0:0<=cnt ss p:=by
     have go:∀ss:zy Ar,0<=cnt ss p:=by
      intro ss;induction ss with
      | nil=>exact ACA _
      | cons s ss ih=>
        have e:cnt (s::ss) p=KD s p+cnt ss p:=by simp[cnt]
        have o:0<=KD s p:=by
         unfold KD;have:¬ep s=some p:=λy=>by obtain⟨b,_,a⟩:=ABQ.mp y;have:(0:Int)=p.2:=congrArg Prod.snd a;omega
         rw[AAD this];split <;> decide
        omega
     exact go ss
    have:=h.1;omega
def YJ {ss:zy Ar}:∀x∈DD ss,x.2=0\/x.2=1:=λx hx=>(BG.mp hx).2
def P5 {ss:zy Ar}:canon 1 ss=Co (λp=>ss.any (Al · p)) (DD ss) none:=by unfold canon;rw[<-LK];congr 1;apply AA9;intro p _;rw[FO]
def Wh {ss:zy Ar}{B:Nat}(ok:∀s∈ss,A8 B s):G4 (λp=>ss.any (Al · p)) false (DD ss):=F9 (DD ss) 0 YJ (FA ok)
def Nf {ss:zy Ar}{B:Nat}(ok:∀s∈ss,A8 B s):∀s∈canon 1 ss,s.1∈Ai ss/\(s.2.1=0\/s.2.1=1)/\∀e,s.2.2=some e->s.1<e/\e∈Ai ss:=by rw[P5];exact UZ (· ∈Ai ss) (DD ss) none (D8 Bl) (λx hx=>⟨YJ x hx,Ax.mp (BG.mp hx).1⟩) (Wh ok) λq hq=>by cases hq
def Ma {ss:zy Ar}{B:Nat}(ok:∀s∈ss,A8 B s):∀x∈Ai ss,Bd B x:=λx h=>by
 obtain⟨s,hs,hx⟩:=AAm.mp h;rcases AAF.mp hx with rfl|hx
 .exact (ok s hs).b
 .exact ((ok s hs).e x (by simpa using hx)).2
def Fq {ss:zy Ar}{B:Nat}(ok:∀s∈ss,A8 B s):∀s∈canon 1 ss,A8 B s:=λs hs=>by obtain⟨h1,h2,a⟩:=Nf ok s hs;exact⟨Ma ok _ h1,h2,λe he=>⟨(a e he).1,Ma ok _ (a e he).2⟩⟩
theorem IX (f:Rat->km):∀qs:zy Rat,(places qs).filter (λp=>f p.1)=places (qs.filter f)
 | [] =>rfl
 | q::qs=>by show ((q,0)::(q,1)::places qs).filter (λp=>f p.1)=_;rw[ABE,ABE,ABE,IX f qs];cases f q <;> rfl
def kM {xs:zy PV}{k:Int}{R:PV->Prop}(h0:0<=k)(h1:k<xs.length)(h:∀x∈xs,R x):Am (.lst xs) (.int k) R:=by
 have hk:k.toNat<xs.length:=by omega
 have e:Jc xs ((k.toNat:Nat):Int)=some xs[k.toNat] :=Ck (AAT hk);rw[show ((k.toNat:Nat):Int)=k by omega] at e;show eM (Jc xs k) R;rw[e];exact h _ (ABa hk)
def fx {o:zt Rat}{Q:PV->Prop}(h:Q (.bl (decide (o=none)))):II (Yw o) .non Q:=by cases o <;> exact h
instance{o:zt Rat}{Q:PV->Prop}:Wp (II (Yw o) .non Q) (Q (.bl (decide (o=none)))):=⟨fx⟩
theorem bP:∀{qs:zy Rat} {x:Rat},Ux qs->x∈qs->ins qs x=qs
 | [],x,_,h=>by cases h
 | q::r,x,hs,h=>by
   obtain⟨h1,h2⟩:=AAN.mp hs;unfold ins;rcases AAF.mp h with e|h
   .subst e;rw[AAD (by grind),AAE rfl]
   .have:=h1 x h;rw[AAE this,bP h2 h]
def cy (xs ys:zy Rat):BA (xs++ys)=ys.foldl ins (BA xs):=by unfold BA;rw[ABg]
def ZJ (a b:zy Ar):Ai (a++b)=Ai a++Ai b:=by unfold Ai;rw[List.flatMap_append]
def LY (sets:zy (zy Ar)):zy Pl:=places (BA (Ai sets.flatten))
def nS (sets:zy (zy Ar))(p:Pl):Nat:=(sets.filter λss=>ss.any (Al · p)).length
def Ey (n:Int)(sets:zy (zy Ar)):zy Ar:=Cc ((LY sets).map λp=>(p,decide (n<=(nS sets p:Int))))
def Bi (ms:zy Rat)(ss:zy Ar):zy Pl:=places (BA (ms++Ai ss))
def F5 {B:Nat}{ms:zy Rat}{ss:zy Ar}(ok:∀s∈ss,A8 B s):G1 ss 0 (Bi ms ss):=by
 have c:∀s∈ss,bp s∈Bi ms ss/\∀x,ep s=some x->x∈Bi ms ss:=λs hs=>by
  obtain⟨h1,h2⟩:=N5 ok hs;have d:∀x∈DD ss,x∈Bi ms ss:=λx hx=>by obtain⟨a,b⟩:=BG.mp hx;exact BG.mpr ⟨Ax.mpr (AAW _ (Ax.mp a)),b⟩
  exact⟨d _ h1,λx ex=>d _ (h2 x ex)⟩
 have h:=Nh ok (Bi ms ss) none (D8 Bl) (λp hp=>⟨True.intro,by rcases (BG.mp hp).2 with z|z <;> omega⟩) (λs hs=>⟨.inr (c s hs).1,λx ex=> .inr ((c s hs).2 x ex)⟩);have z:(ss.map λs=>iQ s none).sum=0:=by
  clear h c ok;induction ss with
  | nil=>rfl
  | cons s ss ih=> rw[AAK,ACP,ih];unfold iQ;cases ep s <;> rfl
 rw[z] at h;exact h
def D2 {B:Nat}{ms:zy Rat}{ss:zy Ar}{n:Int}(ok:∀s∈ss,A8 B s)(c:0<n):Cc ((Bi ms ss).map λp=>(p,decide (n<=(Hn ss p:Int))))=canon n ss:=by
 have hk:∀p:Pl,decide (p.1∈Ai ss)=false->cnt ss p=0:=λp hp=>TF λ⟨s,hs,z⟩=>by
  have hp:¬p.1∈Ai ss:=by simpa using hp
  refine hp (AAm.mpr ⟨s,hs, ?_⟩);rcases z with z|z
  .rw [<-z];simp[bp]
  .obtain ⟨d,he,rfl⟩:=ABQ.mp z;simp[he]
 have a:=JV (n:=n) (ss:=ss) (key:=λp=>decide (p.1∈Ai ss)) hk (Bi ms ss) 0 (F5 ok);rw[AAa (by omega)] at a;have h:=Hs (Bi ms ss) ([],none) a;have b:(Bi ms ss).filter (λp=>decide (p.1∈Ai ss))=DD ss:=by unfold Bi DD;rw[IX (λx=>decide (x∈Ai ss))];congr 1;refine SU (Bl.filter _) Bl λx=> ?_;rw[ACE,Ax,Ax,ADF];exact⟨λh=>h.2,λh=>⟨AAW _ h,h⟩⟩
 rw[b] at h;show Nk _=Nk _;rw[h]
def Jy {B:Nat}{ss:zy Ar}(ok:∀s∈ss,A8 B s){p:Pl}(hp:p.2=0\/p.2=1):(canon 1 ss).any (Al · p)=ss.any (Al · p):=by
 have b:p∈Bi [p.1] ss:=BG.mpr ⟨Ax.mpr (by simp),hp⟩;have a:∀x∈Bi [p.1] ss,x.2=0\/x.2=1:=λx hx=>(BG.mp hx).2;have c:=F9 (Bi [p.1] ss) 0 a (F5 ok);have e:canon 1 ss=Co (λp=>ss.any (Al · p)) (Bi [p.1] ss) none:=by rw[<-D2 (ms:= [p.1]) ok (by decide),<-LK];congr 1;apply AA9;intro q _;rw[FO]
 rw[e];exact((X5 (Bi [p.1] ss) (D8 Bl) a).1 c).2 p b
def ia (b:km):Nat:=if b=true then 1 else 0
def hN (L:zy Ar)(p:Pl):Nat:=(L.filter (Al · p)).length
def Q8 (s:Ar)(L:zy Ar)(p:Pl):hN (s::L) p=ia (Al s p)+hN L p:=by
 unfold hN ia;rw[ABE];split
 .simp;omega
 .simp
theorem X4 {In:Pl->km}:∀(X:zy Pl),Yg X->(∀x∈X,x.2=0\/x.2=1)-> (G4 In false X->(∀p:Pl,0<=p.2->(∀x∈X,Iy p x)->hN (Co In X none) p=0)/\∀p∈X,hN (Co In X none) p=ia (In p))/\ (G4 In true X->∀q:Pl,(q.2=0\/q.2=1)->(∀x∈X,Iy q x)->(∀p:Pl,0<=p.2->(∀x∈X,Iy p x)->hN (Co In X (some q)) p=ia (Jd q p))/\∀p∈X,hN (Co In X (some q)) p=ia (In p))
 | [],_,_=>⟨λ_=>⟨λp _ _=>rfl,λp hp=>by cases hp⟩,λ_ q hq _=>⟨λp hp _=>by show hN [(q.1,1-q.2,none)] p=_;rw[Q8,FB hq hp];simp[hN],λp hp=>by cases hp⟩⟩
 | x::r,hs,PN=>by
   obtain⟨h1,h2⟩:=AAN.mp hs;have ih:=X4 (In:=In) r h2 λy hy=>PN y (by simp[hy]);have j:=PN x (by simp);have f:0<=x.2:=by omega
   have g:∀p:Pl,(∀y∈x::r,Iy p y)->∀y∈r,Iy p y:=λp h y hy=>h y (by simp[hy]);have l:∀p:Pl,Iy p x->Jd x p=false:=λp h=>by
    rw[<-ADG,Cg];rintro(z|z)
    .exact Hq (Ft z h)
    .rw [z] at h;exact Hq h
   have m:Jd x x=true:=Cg.mpr (.inr rfl);refine⟨λhd=> ?_,λhd q hq k=> ?_⟩
   .unfold Co;cases e:In x with
    | true=>
      have a:=hd.2;rw[e] at a;obtain⟨b,d⟩:=ih.2 a x j h1;rw[AAE rfl];refine⟨λp c hp=> ?_,λp hp=> ?_⟩
      .rw [b p c (g p hp),l p (hp x (by simp))];rfl
      .rcases AAF.mp hp with rfl|hp
       .rw [b p f h1,m,e]
       .exact d p hp
    | false=>
      have a:=hd.2;rw[e] at a;obtain⟨b,d⟩:=ih.1 a;rw[AAD (by decide)];refine⟨λp c hp=>b p c (g p hp),λp hp=> ?_⟩;rcases AAF.mp hp with rfl|hp
      .rw [b p f h1,e];rfl
      .exact d p hp
   .unfold Co;have n:Jd q x=true:=Cg.mpr (.inl (k x (by simp)));cases e:In x with
    | true=>
      have a:=hd.2;rw[e] at a;obtain⟨b,d⟩:=ih.2 a q hq (g q k);rw[AAE rfl];refine⟨λp c hp=>b p c (g p hp),λp hp=> ?_⟩;rcases AAF.mp hp with rfl|hp
      .rw [b p f h1,n,e]
      .exact d p hp
    | false=>
      have a:=hd.2;rw[e] at a;obtain⟨b,d⟩:=ih.1 a;have s:=hd.1 rfl e;rw[AAD (by decide)];have i:∀p:Pl,(p=x\/Iy x p)->¬p.1<x.1:=λp h=>by rcases h with h|h|⟨h,_⟩ <;> grind
      refine⟨λp c hp=> ?_,λp hp=> ?_⟩
      .have o:p.1<x.1:=by
        rcases hp x (by simp) with z|⟨_,z⟩
        .exact z
        .omega
       rw[Q8,FB hq c,b p c (g p hp)];simp[o]
      .rw [Q8];rcases AAF.mp hp with rfl|hp
       .rw [FB hq f,b p f h1,e];simp[i p (.inl rfl)]
       .rw [FB hq (by have:=PN p (by simp[hp]);omega),d p hp];simp[i p (.inr (h1 p hp)),ia]
def VW {B:Nat}{ss:zy Ar}(ok:∀s∈ss,A8 B s){p:Pl}(hp:p.2=0\/p.2=1):Hn (canon 1 ss) p=ia (ss.any (Al · p)):=by
 have b:p∈Bi [p.1] ss:=BG.mpr ⟨Ax.mpr (by simp),hp⟩;have a:∀x∈Bi [p.1] ss,x.2=0\/x.2=1:=λx hx=>(BG.mp hx).2;have c:=F9 (Bi [p.1] ss) 0 a (F5 ok);have e:canon 1 ss=Co (λp=>ss.any (Al · p)) (Bi [p.1] ss) none:=by rw[<-D2 (ms:= [p.1]) ok (by decide),<-LK];congr 1;apply AA9;intro q _;rw[FO]
 show hN (canon 1 ss) p=_;rw[e];exact((X4 (Bi [p.1] ss) (D8 Bl) a).1 c).2 p b
def jX (a b:zy Ar)(p:Pl):Hn (a++b) p=Hn a p+Hn b p:=by unfold Hn;rw[List.filter_append,AAg]
theorem W9 {B:Nat}{p:Pl}(hp:p.2=0\/p.2=1):∀{sets:zy (zy Ar)},(∀ss∈sets,∀s∈ss,A8 B s)->Hn (sets.flatMap (canon 1)) p=nS sets p
 | [],_=>rfl
 | ss::sets,ok=>by
   rw[AB9,jX,VW (ok ss (by simp)) hp,W9 hp λx hx=>ok x (by simp[hx])];unfold nS ia;rw[ABE];split
   .simp;omega
   .simp
def VX {B:Nat}{sets:zy (zy Ar)}{n:Int}(g:0<n)(ok:∀ss∈sets,∀s∈ss,A8 B s):canon n (sets.flatMap (canon 1))=Ey n sets:=by
 have d:∀s∈sets.flatMap (canon 1),A8 B s:=λs hs=>by obtain⟨ss,h1,h2⟩:=AAm.mp hs;exact Fq (ok ss h1) s h2
 have sub:∀x∈Ai (sets.flatMap (canon 1)),x∈Ai sets.flatten:=λx hx=>by
  obtain⟨s,hs,hx⟩:=AAm.mp hx;obtain⟨ss,h1,h2⟩:=AAm.mp hs;obtain⟨a,b,c⟩:=Nf (ok ss h1) s h2;have f:∀y∈Ai ss,y∈Ai sets.flatten:=λy hy=>by obtain⟨i,j,hy⟩:=AAm.mp hy;exact AAm.mpr ⟨i,ABr.mpr ⟨ss,h1,j⟩,hy⟩
  rcases AAF.mp hx with rfl|hx
  .exact f _ a
  .exact f _ (c x (by simpa using hx)).2
 rw[<-D2 (ms:=Ai sets.flatten) d g];have e:Bi (Ai sets.flatten) (sets.flatMap (canon 1))=LY sets:=by unfold Bi LY;rw[KJ λx=> ?_];rw[AAO];exact⟨λh=>h.elim id (sub x), .inl⟩
 rw[e];unfold Ey;congr 1;apply AA9;intro p hp;rw[W9 (BG.mp hp).2 ok]
def aG (ss:zy Ar)(In:Pl->km):km->zy Pl->Prop
 | _, [] =>True
 | c,p::r=>(c=true->In p=false->∃s∈ss,ep s=some p)/\aG ss In (In p) r
theorem QA {ss:zy Ar}:∀(X:zy Pl) (c:Int),G1 ss c X->aG ss (λp=>ss.any (Al · p)) (decide (1<=c)) X
 | [],_,_=>True.intro
 | p::r,c,h=>by
   have ih:=QA r (Hn ss p) h.2;rw[FO] at ih;refine⟨λhc hi=> ?_,ih⟩;have hc:1<=c:=by simpa using hc
   have hi:ss.any (Al · p)=false:=hi;rw[<-FO] at hi;have hi:¬(1:Int)<=Hn ss p:=by simpa using hi
   have c0:cnt ss p<0:=by have:=h.1;omega
   refine ABS λd=> ?_;have go:∀a:zy Ar,(∀s∈a,ep s≠some p)->0<=cnt a p:=by
    intro a;induction a with
    | nil=>intro _;exact ACA _
    | cons s a ih=>
      intro b;have e:cnt (s::a) p=KD s p+cnt a p:=by simp[cnt]
      have o:0<=KD s p:=by unfold KD;rw[AAD (b s (by simp))];split <;> decide
      have:=ih λx hx=>b x (by simp[hx]);omega
   have:=go ss λs hs z=>d ⟨s,hs,z⟩;omega
theorem HG {ss:zy Ar}{In:Pl->km}:∀(X:zy Pl) (b:zt Pl),aG ss In b.isSome X->∀s∈Co In X b,∀e,s.2.2=some e->(∃t∈ss,t.2.2=some e)/\In (e,0)=false
 | [],none,_=>λs hs=>by cases hs
 | [],some q,_=>λs hs e he=>by simp only[Co,AAU] at hs;subst hs;cases he
 | x::r,b,hd=>by
   have a:=hd.2;cases b with
   | none=>
     unfold Co;cases e:In x with
     | true=>rw[AAE rfl];rw[e] at a;exact HG r (some x) a
     | false=>rw[AAD (by decide)];rw[e] at a;exact HG r none a
   | some q=>
     unfold Co;cases e:In x with
     | true=>rw[AAE rfl];rw[e] at a;exact HG r (some q) a
     | false=>
       rw[AAD (by decide)];rw[e] at a;intro s hs d he;rcases AAF.mp hs with rfl|hs
       .cases he;obtain⟨t,f,g⟩:=hd.1 rfl e;obtain⟨h,h2,i⟩:=ABQ.mp g;have c:x=(h,0):=i.symm;refine⟨⟨t,f,by rw[h2,c]⟩, ?_⟩;rw[<-e,c]
       .exact HG r none a s hs d he
def Nd {B:Nat}{ss:zy Ar}(ok:∀s∈ss,A8 B s):∀r∈canon 1 ss,∀e,r.2.2=some e->(∃t∈ss,t.2.2=some e)/\ss.any (Al · (e,0))=false:=by rw[P5];exact HG (DD ss) none (QA (DD ss) 0 (FA ok))
def S9 {B:Nat}{ss a:zy Ar}(ok:∀s∈ss,A8 B s)(b:∀s∈a,A8 B s)(h:∀p:Pl,(p.2=0\/p.2=1)->ss.any (Al · p)=a.any (Al · p)):canon 1 ss=canon 1 a:=by
 rw[<-D2 (ms:=Ai a) ok (by decide),<-D2 (ms:=Ai ss) b (by decide)];have e:Bi (Ai a) ss=Bi (Ai ss) a:=by unfold Bi;rw[KJ λx=> ?_];rw[AAO,AAO];exact Or.comm
 rw[e];congr 1;apply AA9;intro p hp;rw[FO,FO,h p (BG.mp hp).2]
def Gk (y:Rat)(s:Ar):Ar:=(s.1,s.2.1,s.2.2.map (· + y))
def K8 {B C:Nat}{y:Rat}(hy:0<=y)(c:Bd C y){s:Ar}(o:A8 B s):A8 (B+C+1) (Gk y s):=by refine⟨o.b.mono (by omega),o.h,λe he=> ?_⟩;obtain⟨d,h1,rfl⟩:=ABQ.mp he;obtain⟨a,b⟩:=o.e d h1;exact⟨by show s.1<d+y;grind,b.add c⟩
def Ho {B:Nat}{s:Ar}(o:A8 B s){p:Pl}(hp:p.2=0\/p.2=1):Al s p=true↔Jd (bp s) p=true/\∀e,s.2.2=some e->p.1<e:=by
 obtain⟨a,b,c⟩:=s;have hb:b=0\/b=1:=o.h;have d:Jd (bp (a,b,c)) p=(decide (a<p.1)||(decide (a=p.1)&&decide (0<b+p.2))):=by unfold Jd bp;congr 2;exact ABP.mpr (by show 1-b<=p.2↔0<b+p.2;omega)
 unfold Al;rw[AAq,d];cases c with
 | none=>simp
 | some c=>simp
def N6 {B C:Nat}{ss:zy Ar}{y:Rat}(ok:∀s∈ss,A8 B s)(hy:0<=y)(b:Bd C y):canon 1 ((canon 1 ss).map (Gk y))=canon 1 (ss.map (Gk y)):=by
 have c:=Fq ok;have k:∀s∈(canon 1 ss).map (Gk y),A8 (B+C+1) s:=λs hs=>by obtain⟨t,a,rfl⟩:=AAM.mp hs;exact K8 hy b (c t a)
 have l:∀s∈ss.map (Gk y),A8 (B+C+1) s:=λs hs=>by obtain⟨t,a,rfl⟩:=AAM.mp hs;exact K8 hy b (ok t a)
 refine S9 k l λp hp=> ?_;have gl:∀{s:Ar},A8 B s->(Al (Gk y s) p=true↔Jd (bp s) p=true/\∀e,s.2.2=some e->p.1<e+y):=λ{s} o=>by
  rw[Ho (K8 hy b o) hp];constructor
  .rintro ⟨h1,h2⟩;exact⟨h1,λe he=>h2 (e+y) (by show s.2.2.map (· + y)=_;rw[he];rfl)⟩
  .rintro ⟨h1,h2⟩;refine⟨h1,λe he=> ?_⟩;obtain⟨v,g,rfl⟩:=ABQ.mp he;exact h2 v g
 rw[AA2,AAk,AAk];constructor
 .rintro ⟨s,hs,h⟩;obtain⟨r,d,rfl⟩:=AAM.mp hs;have o:=c r d;obtain⟨h1,h2⟩:=(gl o).mp h;by_cases x:Al r p=true
  .have:ss.any (Al · p)=true:=by rw[<-Jy ok hp];exact AAk.mpr ⟨r,d,x⟩
   obtain⟨t,a,g⟩:=AAk.mp this;obtain⟨m,n⟩:=(Ho (ok t a) hp).mp g;exact⟨Gk y t,AAM.mpr ⟨t,a,rfl⟩,(gl (ok t a)).mpr ⟨m,λe he=>by have:=n e he;grind⟩⟩
  .have:∃e,r.2.2=some e/\¬p.1<e:=ABS λj=>x ((Ho o hp).mpr ⟨h1,λe he=>ABS λz=>j ⟨e,he,z⟩⟩);obtain⟨e,he,H⟩:=this;obtain⟨⟨t,a,A⟩,_⟩:=Nd ok r d e he;have I:=((ok t a).e e A).1;refine⟨Gk y t,AAM.mpr ⟨t,a,rfl⟩,(gl (ok t a)).mpr ⟨Cg.mpr (.inl (.inl (by show t.1<p.1;grind))),λv D=> ?_⟩⟩;rw[A] at D;cases D;exact h2 e he
 .rintro ⟨s,hs,h⟩;obtain⟨t,a,rfl⟩:=AAM.mp hs;have o:=ok t a;obtain⟨h1,h2⟩:=(gl o).mp h;have bt:(bp t).2=0\/(bp t).2=1:=by have:=o.h;unfold bp;simp only;omega
  have hb:Al t (bp t)=true:=(Ho o bt).mpr ⟨Cg.mpr (.inr rfl),λe he=>(o.e e he).1⟩;have:(canon 1 ss).any (Al · (bp t))=true:=by rw[Jy ok bt];exact AAk.mpr ⟨t,a,hb⟩
  obtain⟨r,d,g⟩:=AAk.mp this;have i:=c r d;obtain⟨m,n⟩:=(Ho i bt).mp g;refine⟨Gk y r,AAM.mpr ⟨r,d,rfl⟩,(gl i).mpr ⟨?_,λe he=> ?_⟩⟩
  .rcases Cg.mp m with z|z
   .rcases Cg.mp h1 with w|w
    .exact Cg.mpr (.inl (Ft z w))
    .rw [<-w];exact Cg.mpr (.inl z)
   .rw [z];exact h1
  .have E:t.1<e:=n e he;obtain⟨_,j⟩:=Nd ok r d e he;have F:¬Al t (e,0)=true:=λz=>by rw[ACB] at j;exact j t a z
   have:∃f,t.2.2=some f/\¬e<f:=ABS λG=>F ((Ho o (.inl rfl)).mpr ⟨Cg.mpr (.inl (.inl E)),λf u=>ABS λz=>G ⟨f,u,z⟩⟩);obtain⟨f,u,hl⟩:=this;have:=h2 f u;grind
def cA {v:PV}{xs:zy PV}{a:zy PV->Prop}(hv:v= .tup xs\/v= .lst xs)(h:a xs):Oq v a:=by rcases hv with rfl|rfl <;> exact h
def WS {x:PV}{r:zy PV}{ss:zy Ar}(h:EG (x::r) ss):∃s c,ss=s::c/\(x=Ao s\/x=cz s)/\EG r c:=by
 cases h with
 | cons a b=>exact⟨_,_,rfl,a,b⟩
def gP {x:PV}{s:Ar}{a:zy PV->Prop}(h:x=Ao s\/x=cz s)(q:a [fr s.1, .int s.2.1,Yw s.2.2]):Oq x a:=by rcases h with rfl|rfl <;> exact q
theorem XH {a:Type}(f:a->km):∀xs:zy a,Jv (xs.map λx=> .bl (f x))=some (xs.map f)
 | [] =>rfl
 | x::xs=>by show (Jv (xs.map λx=> .bl (f x))).map (f x :: ·)=_;rw[XH f xs];rfl
def rH (xs:zy PV):Gg xs (some 1) none=xs.drop 1:=by
 unfold Gg;rw[HT.sIx_none,show ((1:Int))=((1:Nat):Int) from rfl,HT.sIx_nat];cases xs with
 | nil=>rfl
 | cons x xs=> rw[Nat.min_eq_left (by simp)];simp
def mU (a b:zy Rat):IN (a.map fr) (b.map fr)=(a.zip b).map λp=> .tup [fr p.1,fr p.2] :=by unfold IN;rw[List.zipWith_map,List.zip,List.map_zipWith]
theorem Nm:∀(X:zy (Pl×km)) (st:zy Ar×zt Pl),2*(X.foldl stepI st).1.length+(if (X.foldl stepI st).2.isSome then 1 else 0)<=2*st.1.length+(if st.2.isSome then 1 else 0)+X.length
 | [],st=>AAJ _
 | x::X,st=>by
   have h1:=Nm X (stepI st x);have h2:2*(stepI st x).1.length+(if (stepI st x).2.isSome then 1 else 0)<=2*st.1.length+(if st.2.isSome then 1 else 0)+1:=by obtain⟨L,b⟩:=st;obtain⟨p,c⟩:=x;cases b <;> cases c <;> simp[stepI] <;> omega
   rw[AAx,AAc];omega
def QQ (X:zy (Pl×km)):2*(Cc X).length<=X.length+1:=by have h:=Nm X ([],none);unfold Cc;generalize X.foldl stepI ([],none)=st at *;obtain⟨L,b⟩:=st;cases b <;> simp[Nk] at * <;> omega
def Eo {n:Int}{ss:zy Ar}:(canon n ss).length<=2*ss.length:=by unfold canon DD;have h:=QQ ((places (BA (Ai ss))).map λp=>(p,decide (n<=(Hn ss p:Int))));have a:=DR (xs:=Ai ss);have b:=Ec (ss:=ss);have c:=GD (qs:=BA (Ai ss));rw[AAI] at h;omega
def fJ {n:Int}{sets:zy (zy Ar)}:(Ey n sets).length<=2*sets.flatten.length:=by unfold Ey LY;have h:=QQ ((places (BA (Ai sets.flatten))).map λp=>(p,decide (n<=(nS sets p:Int))));have a:=DR (xs:=Ai sets.flatten);have b:=Ec (ss:=sets.flatten);have c:=GD (qs:=BA (Ai sets.flatten));rw[AAI] at h;omega
theorem Qs:∀{sets:zy (zy Ar)},(sets.flatMap (canon 1)).length<=2*sets.flatten.length
 | [] =>by simp
 | s::r=>by have ih:=Qs (sets:=r);have h:=Eo (n:=1) (ss:=s);rw[AB9,AAg,ADH,AAg];omega
inductive Js:List PV->List (List Ar)->Prop where
 | nil:Js [] []
 | cons {x:PV} {xs:List PV} {ss:List Ar} {r:List PV} {rs:List (List Ar)} (h:x= .tup xs\/x= .lst xs) (hr:EG xs ss) (t:Js r rs):Js (x::r) (ss::rs)
def Wc {x:PV}{r:zy PV}{ss:zy (zy Ar)}(h:Js (x::r) ss):∃s d xs,ss=s::d/\(x= .tup xs\/x= .lst xs)/\EG xs s/\Js r d:=by
 cases h with
 | cons a b c=>exact⟨_,_,_,rfl,a,b,c⟩
def lt_size {k n:Nat}(h:k<=n)(a:n<1000000):k<sizeLine:=AA3 h (AAX a (AAt rfl))
abbrev GW:AS:=
 (As (Ea (NW (Gj (aV 0)) 2 [] (Ak 1) DW (Gj (AN 1 D0 (AB (aV 1) AL))) 1 (Ak 0) DW (aV 0))))
def CW:AF:=An 1 GW
def KQ {a:PV}{Q:PV->Prop}(h:GW ⟨λ_=>Q .non,Q,λ_=>False,λ_=>False⟩ [some (.val a)]):CW [a] Q:=h
def jn {v:PV}{vs:zy PV}{sets:zy (zy Ar)}{B:Nat}(hv:v= .tup vs\/v= .lst vs)(d:Js vs sets)(ok:∀ss∈sets,∀s∈ss,A8 B s)(hl:sets.flatten.length<=400)(f:B<=4000){Q:PV->Prop}(q:Q (.lst ((sets.flatMap (canon 1)).map Ao))):CW [v] Q:=by
 apply KQ;ac_rfl;refine cA hv ?_;refine TD (λr a=>∃us b,us++b=sets/\Js r b/\a=(us.flatMap (canon 1)).map Ao) ?_ ?_ _ _ ⟨[],sets,rfl,d,rfl⟩
 .rintro a ⟨us,b,e,hv,rfl⟩;cases hv;rw[ABU] at e;subst e;exact q
 .rintro y r a R g ⟨us,b,e,hv,rfl⟩;obtain⟨s,h,xs,rfl,hy,i,j⟩:=Wc hv;have os:=ok s (by rw[<-e];simp);have k:us.flatten.length+s.length<=400:=by have:=congrArg (λx=>x.flatten.length) e;simp only[List.flatten_append,ADH,AAg] at this;omega
  have c:R ((us.flatMap (canon 1)).map Ao++(canon 1 s).map Ao):=g _ ⟨us ++ [s],h,by simpa using e,j,by simp⟩;have l:=Eo (n:=1) (ss:=s);have m:=Qs (sets:=us);repeat' array_get_dec
  refine Ly hy i os (by omega) f ?_;refine⟨lt_size (n:=2000) (by rw[AAI,AAI];omega) (by decide), ?_⟩;exact aW _ _ c
def c3:∀{X:zy (Pl×km)},(∀x∈X,x.2=false)->Cc X= [] :=λ{X} h=>by
 have:X.foldl stepI ([],none)=([],none):=by
  induction X with
  | nil=>rfl
  | cons x X ih=>
    rw[AAx];have e:stepI ([],none) x=([],none):=by obtain⟨p,c⟩:=x;have:c=false:=h (p,c) (by simp);subst this;rfl
    rw[e];exact ih λy hy=>h y (by simp[hy])
 unfold Cc;rw[this];rfl
def QH {B:Nat}{ss:zy Ar}(ok:∀s∈ss,A8 B s)(m:Rat):∀k:Rat,m<k->∃n:Rat,m<n/\n<k/\∀x:Rat,m<x->x<n->ss.any (Al · (x,0))=ss.any (Al · (m,1)):=by
 induction ss with
 | nil=>intro k hk;exact⟨(m+k)/2,by grind,by grind,λ_ _ _=>rfl⟩
 | cons s ss ih=>
   intro k hk;obtain⟨n,h1,h2,j⟩:=ih (λt l=>ok t (by simp[l])) k hk;have os:=ok s (by simp);obtain⟨b,h,e⟩:=s;have p:h=0\/h=1:=os.h;have one:∃c:Rat,m<c/\∀x:Rat,m<x->x<c->Al (b,h,e) (x,0)=Al (b,h,e) (m,1):=by
    have key:∃c:Rat,m<c/\(m<b->c<=b)/\(∀a,e=some a->m<a->c<=a):=by
     cases e with
     | none=>
       by_cases z:m<b
       .exact ⟨b,z,λ_=>by grind,λ_ h=>by cases h⟩
       .exact ⟨m+1,by grind,λh=>absurd h z,λ_ h=>by cases h⟩
     | some a=>
       by_cases z:m<b
       .by_cases y:m<a
        .by_cases w:b<a
         .exact ⟨b,z,λ_=>by grind,λ_ h _=>by cases h;grind⟩
         .exact ⟨a,y,λ_=>by grind,λ_ h _=>by cases h;grind⟩
        .exact ⟨b,z,λ_=>by grind,λ_ h k=>by cases h;exact absurd k y⟩
       .by_cases y:m<a
        .exact ⟨a,y,λk=>absurd k z,λ_ h _=>by cases h;grind⟩
        .exact ⟨m+1,by grind,λk=>absurd k z,λ_ h k=>by cases h;exact absurd k y⟩
    obtain⟨c,i,f,o⟩:=key;refine⟨c,i,λx d g=> ?_⟩;unfold Al;have A:(decide (b<x)||(decide (b=x)&&decide (0<h+0)))=(decide (b<m)||(decide (b=m)&&decide (0<h+1))):=by
     by_cases z:m<b
     .have:=f z;rw[AAa (show ¬b<x by grind),AAa (show ¬b=x by grind),AAa (show ¬b<m by grind),AAa (show ¬b=m by grind)];rfl
     .rw [AAo (show b<x by grind)];by_cases y:b=m
      .rw [AAo y,AAo (show 0<h+1 by omega)];simp
      .rw [AAo (show b<m by grind)];rfl
    show ((decide (b<x)||(decide (b=x)&&decide (0<h+0)))&&_)=((decide (b<m)||(decide (b=m)&&decide (0<h+1)))&&_);rw[A];congr 1;cases e with
    | none=>rfl
    | some a=> show decide (x<a)=decide (m<a);refine ABP.mpr ⟨λ_=>by grind,λy=> ?_⟩;have:=o a rfl y;grind
   obtain⟨c,i,f⟩:=one;by_cases z:n<c
   .exact ⟨n,h1,h2,λx d g=>by rw[AA4,AA4,j x d g,f x d (by grind)]⟩
   .exact ⟨c,i,by grind,λx d g=>by rw[AA4,AA4,j x d (by grind),f x d g]⟩
def WB {B C:Nat}{ss b:zy Ar}(ok:∀s∈ss,A8 B s)(c:∀s∈b,A8 C s)(h:∀m:Rat,ss.any (Al · (m,0))=b.any (Al · (m,0))):∀p:Pl,(p.2=0\/p.2=1)->ss.any (Al · p)=b.any (Al · p):=by
 rintro⟨m,i⟩ hi;have hi:i=0\/i=1:=hi;rcases hi with rfl|rfl
 .exact h m
 .obtain ⟨n,h1,h2,e⟩:=QH ok m (m+1) (by grind);obtain⟨a,j,k,f⟩:=QH c m n h1;have d:m<(m+a)/2:=by grind
  have g:(m+a)/2<a:=by grind
  rw[<-e ((m+a)/2) d (by grind),<-f ((m+a)/2) d g];exact h _
def A8.mono {B C:Nat}{s:Ar}(h:A8 B s)(k:B<=C):A8 C s:=⟨h.b.mono k,h.h,λe he=>⟨(h.e e he).1,(h.e e he).2.mono k⟩⟩
def Yr {B C:Nat}{ss b:zy Ar}(ok:∀s∈ss,A8 B s)(a:∀s∈b,A8 C s)(h:∀m:Rat,ss.any (Al · (m,0))=b.any (Al · (m,0))):canon 1 ss=canon 1 b:=
 S9 (B:=B+C) (λs hs=>(ok s hs).mono (by omega)) (λs hs=>(a s hs).mono (by omega)) (WB ok a h)
def fV {B:Nat}{s:Ar}{m x:Rat}(os:A8 B s)(hx:s.2.2=some x):Al s (m,0)=true↔(s.1<m\/(s.1=m/\s.2.1=1))/\m<x:=by
 unfold Al;rw[hx];have:0<s.2.1+0↔s.2.1=1:=by have:=os.h;omega
 simp only[AAq,ABq,AA8,this]
abbrev Ih:AS:=
 (AY (EH (Gj (aV 0)) (Jb 2 (Ad (Ak 2) (Ad (Ak 3) B0))) (VO 1 DP (AW TM (aV 3) (AN 2 G6 (AB (aV 1) (AB (aV 3) AL))))))
   (As (aV 1)))
abbrev GZ:AS:=
 (AY (Aj (aC (.int 1)) (Ak 1))
   Ih)
def CY:AF:=An 4 GZ
def KU {a:PV}{Q:PV->Prop}(h:GZ ⟨λ_=>Q .non,Q,λ_=>False,λ_=>False⟩ [some (.val a),none,none,none]):CY [a] Q:=h
def LW (xs:zy Rat):Nat:=xs.foldl (λN r=>N*(r.den/Nat.gcd N r.den)) 1
def YB (xs:zy Rat)(r:Rat):LW (xs ++ [r])=LW xs*(r.den/Nat.gcd (LW xs) r.den):=by unfold LW;rw[ABg];rfl
def hV {N d:Nat}(hN:0<N)(hd:0<d):0<N*(d/Nat.gcd N d)/\N ∣ N*(d/Nat.gcd N d)/\d ∣ N*(d/Nat.gcd N d)/\N*(d/Nat.gcd N d)<=N*d:=by have g:Nat.gcd N d ∣ d:=ACO ..;have a:0<Nat.gcd N d:=AB5 _ hd;refine⟨Nat.mul_pos hN (Nat.div_pos (AC4 hd g) a),Nat.dvd_mul_right .., ?_,Nat.mul_le_mul_left _ (ABo ..)⟩;rw[<-Nat.mul_div_assoc _ g];exact Nat.dvd_lcm_right ..
theorem R8 {W:Nat}:∀(n:Nat) (xs:zy Rat),xs.length=n->(∀x∈xs,Bd W x)->0<LW xs/\(∀x∈xs,x.den ∣ LW xs)/\LW xs<2^(n*W+1)
 | 0,xs,e,_=>by have:xs= [] :=ABh.mp e;subst this;exact⟨by decide,by simp,by simp[LW]⟩
 | n+1,xs,e,h=>by
   obtain⟨ys,r,rfl⟩:∃ys r,xs=ys ++ [r] :=⟨xs.dropLast,xs.getLast (by intro z;subst z;cases e),(ABs _).symm⟩;have a:ys.length=n:=by simpa using e
   obtain⟨h1,h2,b⟩:=R8 n ys a λx hx=>h x (by simp[hx]);have c:=(h r (by simp)).bot;rw[YB];obtain⟨d,f,g,i⟩:=hV h1 r.den_pos;refine⟨d,λx hx=> ?_, ?_⟩
   .rcases AAO.mp hx with hx|hx
    .exact Nat.dvd_trans (h2 x hx) f
    .simp at hx;subst hx;exact g
   .refine AA3 i ?_;have:=WC b c;rw[show n*W+1+W=(n+1)*W+1 by rw[Nat.succ_mul];omega] at this;exact this
def g9 (N:Nat)(r:Rat):Int:=r.num*((N:Int).fdiv (r.den:Int))
def R6 {N:Nat}{r:Rat}(h:r.den ∣ N):(g9 N r:Rat)=r*N:=by
 obtain⟨k,rfl⟩:=h;have hd:=r.den_pos;unfold g9;rw[AC5,Int.mul_fdiv_cancel_left _ (by omega),ADI];have b:((r.den:Int):Rat)≠0:=λz=>by have:(r.den:Int)=0:=Rat.intCast_inj.mp z;omega
 have e:r=(r.num:Rat)/((r.den:Int):Rat):=by rw[<-Rat.divInt_eq_div,ABO]
 have a:r*((r.den:Int):Rat)=r.num:=by
  conv=>lhs;arg 1;rw[e]
  grind
 rw[<-a,show ((r.den*k:Nat):Rat)=((r.den:Int):Rat)*((k:Int):Rat) by rw[<-ADI,<-AC5,Rat.intCast_natCast]];grind
structure Pc where
 b:Rat
 e:Rat
 o0:T3
 o1:T3
def Pc.six (p:Pc):zy Rat:= [p.o0.1,p.o0.2.1,p.o0.2.2,p.o1.1,p.o1.2.1,p.o1.2.2]
def Pc.N (p:Pc):Nat:=LW p.six
def mN (cs a:zy C4)(b e:Rat):zy Rat:=BA ([b,e] ++ ((cs.filter (nV b e)++a.filter (nV b e)).map (·.1)))
def sj (cs a:zy C4)(d:Rat×Rat)(m:Rat):T3:=sf ((spotC cs m).getD (0,0,0)) ((spotC a m).getD (0,0,0)) d
def sw (cs a:zy C4)(d:Rat×Rat)(b:zy Rat):zy Pc:=(b.zip b.tail).map λp=>⟨p.1,p.2,sj cs a d p.1,sj cs a d p.2⟩
def ni (cs:zy C4):Rat:=(cs.head?.getD (0,0,0,0)).1
def lstM (cs:zy C4):Rat:=(cs.getLast?.getD (0,0,0,0)).1
def jp (cs a:zy C4):Rat:=mx (ni cs) (ni a)
def jx (cs a:zy C4):Rat:=mn (lstM cs) (lstM a)
def yp (cs a:zy C4):zy Rat:=mN cs a (jp cs a) (jx cs a)
def ye (cs a:zy C4)(d:Rat×Rat):zy Pc:=if jp cs a<jx cs a then sw cs a d (yp cs a) else []
abbrev Oy:AS:=
 (AY (Aj (F2 Dm (AB (Ea (Bx (Gj (aV 0)) 2 [3] (Jb 2 (Ad (Ak 0) (Ad (Ak 1) B0))) DW (AW DP (aV 0) (AW TM (aV 2) (aV 1))))) AL)) (Ak 4))
   (As (A9 (AB (aV 4) (AB (aV 1) (AB (aO (aV 2) (aV 3)) AL))))))
abbrev M9:AS:=
 (AY (Aj (AN 1 CY (AB (aV 0) AL)) (Ak 3))
   Oy)
def CO:AF:=An 5 M9
def Ru {a b c:PV}{Q:PV->Prop}(h:M9 ⟨λ_=>Q .non,Q,λ_=>False,λ_=>False⟩ [some (.val a),some (.val b),some (.val c),none,none]):CO [a,b,c] Q:=h
abbrev Sw:AS:=
 (AY (aQ 5 6 7 1 3 (AW Am (aV 0) (aC (.int 2))) (AW Am (aV 2) (aC (.int 2))))
   (As (A9 (AB (aV 4) (AB (F2 (j4 max) (AB (AW Am (aV 0) (aC (.int 1))) (AB (AW Am (aV 2) (aC (.int 1))) AL))) (AB (aV 5) AL))))))
abbrev Sv:AS:=
 (AY (Aj (F2 Dm (AB (Ea (Bx (iZ (AB (AW Am (aV 0) (aC (.int 0))) (AB (AW Am (aV 2) (aC (.int 0))) AL))) 2 [1,3] (Jb 2 (Ad (Ak 0) (Ad (Ak 1) B0))) DW (AW BS (AW DP (aV 2) (aV 0)) (AW DP (aV 3) (aV 1))))) AL)) (Ak 4))
   Sw)
def G8:AF:=An 8 Sv
def WV {a b c d:PV}{Q:PV->Prop}(h:Sv ⟨λ_=>Q .non,Q,λ_=>False,λ_=>False⟩ [some (.val a),some (.val b),some (.val c),some (.val d),none,none,none,none]):G8 [a,b,c,d] Q:=h
abbrev Po:AS:=
 (As (AN 4 G8 (AB (aV 0) (AB (Yj Nj (AW Am (AW Am (aV 1) (aC (.int 0))) (aV 2))) (AB (aV 1) (AB (AW Am (AW Am (aV 0) (aC (.int 0))) (aV 2)) AL))))))
def Fj:AF:=An 3 Po
def Uc {a b c:PV}{Q:PV->Prop}(h:Po ⟨λ_=>Q .non,Q,λ_=>False,λ_=>False⟩ [some (.val a),some (.val b),some (.val c)]):Fj [a,b,c] Q:=h
abbrev M4:AS:=
 (AY (Aj (AW Am (AW Am (aV 0) (aC (.int 0))) (aC (.int 0))) (Ak 1))
   (As (qE (AW ap (aV 1) (aC (.int 0))) (VN (AW Ln (aV 1) (aC (.int 0))) (AW Ln (AW Am (aV 0) (aC (.int 1))) (aC (.int 1)))))))
def Dy:AF:=An 2 M4
def Rr {a:PV}{Q:PV->Prop}(h:M4 ⟨λ_=>Q .non,Q,λ_=>False,λ_=>False⟩ [some (.val a),none]):Dy [a] Q:=h
abbrev Ql:AS:=
 (AY (Aj (AW Am (AW Am (aV 0) (aC (.int 0))) (aV 1)) (Ak 3))
   (As (jj (Aw (AW Yx (aV 3) (aC (.int 0)))) (A9 (AB (Yj Nj (aV 2)) (AB (aV 3) AL))) (A9 (AB (aV 2) (AB (Yj Nj (aV 3)) AL))))))
abbrev Pt:AS:=
 (AY (Aj (AW Am (AW Am (aV 0) (aC (.int 0))) (aC (.int 0))) (Ak 2))
   Ql)
def DZ:AF:=An 4 Pt
def Uh {a b:PV}{Q:PV->Prop}(h:Pt ⟨λ_=>Q .non,Q,λ_=>False,λ_=>False⟩ [some (.val a),some (.val b),none,none]):DZ [a,b] Q:=h
abbrev L4:AS:=
 (AY (CN (Aw (AN 2 A1 (AB (aV 4) (AB (aV 3) AL)))) (As (AW Yx (AW Am (AW Am (aV 0) (aC (.int 0))) (aV 2)) (aC (.int 0)))) BU)
   (As (AW Yx (AW Am (aV 0) (aC (.int 1))) (AW Am (aV 1) (aC (.int 1))))))
abbrev L3:AS:=
 (AY (CN (Aw (AN 2 A1 (AB (aV 3) (AB (aV 4) AL)))) (As (AW ap (AW Am (AW Am (aV 0) (aC (.int 0))) (aV 2)) (aC (.int 0)))) BU)
   L4)
abbrev L1:AS:=
 (AY (Aj (AN 2 DZ (AB (aV 1) (AB (aV 2) AL))) (Ak 4))
   L3)
abbrev Jo:AS:=
 (AY (Aj (AN 2 DZ (AB (aV 0) (AB (aV 2) AL))) (Ak 3))
   L1)
def Dj:AF:=An 5 Jo
def OP {a b c:PV}{Q:PV->Prop}(h:Jo ⟨λ_=>Q .non,Q,λ_=>False,λ_=>False⟩ [some (.val a),some (.val b),some (.val c),none,none]):Dj [a,b,c] Q:=h
abbrev O4:AS:=
 (AY (EH (Gj (aV 0)) (Ak 4) (CN (E9 (Aw (AW Yx (AW DP (AW Am (AW Am (aV 4) (aC (.int 0))) (aV 1)) (aV 2)) (aC (.int 0)))) (VQ (Aw (AW II (aV 3) (aC .non))) (Aw (AN 3 Dj (AB (aV 4) (AB (aV 3) (AB (aV 1) AL))))))) (Aj (aV 4) (Ak 3)) BU))
   (As (aV 3)))
abbrev NE:AS:=
 (AY (Aj (aC .non) (Ak 3))
   O4)
def Cv:AF:=An 5 NE
def Rx {a b c:PV}{Q:PV->Prop}(h:NE ⟨λ_=>Q .non,Q,λ_=>False,λ_=>False⟩ [some (.val a),some (.val b),some (.val c),none,none]):Cv [a,b,c] Q:=h
abbrev Ow:AS:=
 (AY (Aj (AN 3 Fj (AB (AN 3 Cv (AB (aV 0) (AB (aV 1) (AB (aC (.int 1)) AL)))) (AB (aV 3) (AB (aV 1) AL)))) (Ak 4))
   (As (jj (Aw (AN 1 Dy (AB (aV 4) AL))) (aV 4) (aC .non))))
abbrev Ov:AS:=
 (AY (CN (Aw (AW II (aV 3) (aC .non))) (As (aC .non)) BU)
   Ow)
abbrev Ou:AS:=
 (AY (Aj (AN 3 Cv (AB (aV 0) (AB (aV 1) (AB (Yj Nj (aC (.int 1))) AL)))) (Ak 3))
   Ov)
abbrev M3:AS:=
 (AY (EH (Gj (aV 0)) (Ak 2) (CN (E9 (Aw (AW Ln (AW Am (AW Am (aV 2) (aC (.int 0))) (aV 1)) (aC (.int 0)))) (Aw (AN 1 Dy (AB (aV 2) AL)))) (As (aV 2)) BU))
   Ou)
def Ei:AF:=An 5 M3
def Rq {a b:PV}{Q:PV->Prop}(h:M3 ⟨λ_=>Q .non,Q,λ_=>False,λ_=>False⟩ [some (.val a),some (.val b),none,none,none]):Ei [a,b] Q:=h
abbrev O3:AS:=
 (AY (Aj (AN 2 DZ (AB (aV 4) (AB (aV 1) AL))) (Ak 5))
   (As (A9 (AB (aV 3) (AB (AW HC (aC (.int 1)) (AW Am (aV 2) (aC (.int 1)))) (AB (AN 2 Fz (AB (AW Am (aV 5) (aC (.int 0))) (AB (AW Am (aV 5) (aC (.int 1))) AL))) AL))))))
abbrev O2:AS:=
 (AY (CN (Aw (AW II (aV 4) (aC .non))) (As (A9 (AB (aV 3) (AB (AW HC (aC (.int 1)) (AW Am (aV 2) (aC (.int 1)))) (AB (aC .non) AL))))) BU)
   O3)
abbrev O1:AS:=
 (AY (Aj (AN 3 Cv (AB (aV 0) (AB (aV 1) (AB (Yj Nj (aC (.int 1))) AL)))) (Ak 4))
   O2)
abbrev O0:AS:=
 (AY (Aj (AN 2 Fz (AB (AW Am (aV 3) (aC (.int 0))) (AB (AW Am (aV 3) (aC (.int 1))) AL))) (Ak 3))
   O1)
abbrev Oz:AS:=
 (AY (Aj (AN 2 DZ (AB (aV 2) (AB (aV 1) AL))) (Ak 3))
   O0)
abbrev ND:AS:=
 (AY (Aj (AN 3 Cv (AB (aV 0) (AB (aV 1) (AB (aC (.int 1)) AL)))) (Ak 2))
   Oz)
def Ek:AF:=An 6 ND
def Rv {a b:PV}{Q:PV->Prop}(h:ND ⟨λ_=>Q .non,Q,λ_=>False,λ_=>False⟩ [some (.val a),some (.val b),none,none,none,none]):Ek [a,b] Q:=h
structure Dh where
 c0:Int
 c1:Int
 s:Int
 w:List (Int×Int)
def Ch (p:Dh):PV:= .tup [.tup [.int p.c0, .int p.c1], .int p.s, .dk p.w]
structure IH (N:Nat) (p:Dh):Prop where
 a:p.c0.natAbs<2^N
 b:p.c1.natAbs<2^N
 w:∀e∈p.w,e.2.natAbs<2^N
 l:p.w.length<=12
 s:p.s=0\/p.s=1
instance{p:Dh}:Ix (Ch p) 0 (.tup [.int p.c0, .int p.c1]):=⟨rfl⟩
instance{p:Dh}:Ix (Ch p) 1 (.int p.s):=⟨rfl⟩
instance{p:Dh}:Ix (Ch p) 2 (.dk p.w):=⟨rfl⟩
def jw {a b:AE}{τ:A5}{Q:PV->Prop}:aO a b τ Q=a τ λx=>b τ λy=>WK x λi=>WK y λj=>Q (.dk [(i,j)]):=by
 unfold aO;congr 1
 funext x
 congr 1
 funext y
 cases x <;> cases y <;> rfl
instance{a b:AE}{τ:A5}{Q:PV->Prop}:Wp (aO a b τ Q) (a τ λx=>b τ λy=>WK x λi=>WK y λj=>Q (.dk [(i,j)])):=⟨λh=>by rw[jw];exact h⟩
def UY (p:Dh)(t:Rat):Rat:=p.c0+p.c1*t
def R5 {S:Nat}{r:Rat}{W N:Nat}(b:Bd W r)(h:S<2^N):(g9 S r).natAbs<2^(W+N):=by unfold g9;rw[ADe];refine WC b.top ?_;rw[ABZ _ (by omega),<-ABp,ACC];exact AA3 (ABo ..) h
def We {a b:Rat}{W:Nat}(i:Bd W a)(j:Bd W b)(g:W<=1400){Q:PV->Prop}(q:Q (.int (LW [a,b] :Nat))):CY [.tup [fr a,fr b]] Q:=by
 have hx:∀x∈ [a,b],Bd W x:=by simp;exact⟨i,j⟩
 apply KU;ac_rfl;show DQ _ _ _ ([a,b].map fr) _;refine CQ fr (λus vs τ=>∃d f,τ= [some (.val (.tup [fr a,fr b])),some (.val (.int (LW us:Nat))),d,f]) ?_ ?_ ⟨_,_,rfl⟩
 .rintro τ ⟨d,f,rfl⟩;ac_rfl;exact q
 .rintro us c vs e τ R k ⟨d,f,rfl⟩;have hu:∀x∈us,Bd W x:=λx l=>hx x (by rw[<-e];simp[l]);have ul:us.length<=6:=by have:=congrArg List.length e;simp at this;omega
  obtain⟨h1,h2,o⟩:=R8 us.length us rfl hu;have h:=(hx c (by rw[<-e];simp)).bot;have r:us.length*W<=6*1400:=Nat.mul_le_mul ul g;have s:0<Nat.gcd (LW us) c.den:=AB5 _ c.den_pos;have gl:Nat.gcd (LW us) c.den<2^8900:=A6 (AA3 (AC4 c.den_pos (ACO ..)) h) (by omega);ac_rfl;refine Li _ _ _ ?_;ac_rfl;refine⟨⟨by omega,by simpa using gl⟩, ?_⟩;have p:((c.den:Nat):Int).fdiv ((Nat.gcd (LW us) c.den:Nat):Int)=((c.den/Nat.gcd (LW us) c.den:Nat):Int):=by rw[ABZ _ (by omega),ABp]
  rw[p];have dl:c.den/Nat.gcd (LW us) c.den<2^1400:=A6 (AA3 (ABo ..) h) g;ac_rfl;refine⟨MulOk.of (m:=8401) (n:=1400) (by simpa using A6 o (by omega)) (by rw[ACC];exact dl), ?_⟩;exact k _ ⟨some (.val (.int c.num)),some (.val (.int c.den)),by rw[YB,AC5];rfl⟩
def cU {a b:Rat}{W:Nat}{s n:Int}(c:Bd W a)(d:Bd W b)(e:W<=1400)(hs:s=0\/s=1){Q:PV->Prop}(q:∀(p:Dh) (S:Rat),p.s=s->IH (3*W+1) p->0<S->(p.c1:Rat)=b*S->(p.c0:Rat)=a*S->Q (Ch p)):CO [.tup [fr a,fr b], .int s, .int n] Q:=by
 obtain⟨h1,h2,f⟩:=R8 (W:=W) 2 [a,b] rfl (by simp;exact⟨c,d⟩);have h:(0:Rat)<((LW [a,b] :Nat):Rat):=by exact_mod_cast h1
 have i:=R6 (h2 a (by simp));have j:=R6 (h2 b (by simp));have k:=R5 c f;have l:=R5 d f;have g:=q ⟨g9 (LW [a,b]) a,g9 (LW [a,b]) b,s, [(n,(LW [a,b] :Nat))]⟩ ((LW [a,b] :Nat):Rat) rfl ⟨A6 k (by omega),A6 l (by omega),by simp;exact A6 f (by omega),by simp,hs⟩ h j i;have m:((LW [a,b] :Int).fdiv (a.den:Int)).natAbs<2^2801:=by rw[ABZ _ (by omega),<-ABp,ACC];exact AA3 (ABo ..) (A6 f (by omega))
 have o:((LW [a,b] :Int).fdiv (b.den:Int)).natAbs<2^2801:=by rw[ABZ _ (by omega),<-ABp,ACC];exact AA3 (ABo ..) (A6 f (by omega))
 have u:0<a.den:=a.den_pos;have v:0<b.den:=b.den_pos;have r:=(c.mono e).bot;have t:=(d.mono e).bot;apply Ru;ac_rfl;refine We c d e ?_;unfold g9 at g;generalize LW [a,b] =S at *;repeat' array_get_dec
 refine⟨⟨by omega,by rw[ACC];exact A6 r (by decide)⟩, ?_⟩;repeat' array_get_dec
 refine⟨MulOk.of (c.mono e).top m, ?_⟩;repeat' array_get_dec
 refine⟨⟨by omega,by rw[ACC];exact A6 t (by decide)⟩, ?_⟩;repeat' array_get_dec
 refine⟨MulOk.of (d.mono e).top o, ?_⟩;repeat' array_get_dec
 exact g
def WZ {many:Int}{m:zy (Int×Int)}:(CT many m).length<=m.length:=by
 have key:∀(m a:zy (Int×Int)),(m.foldl (λa p=>OM a p.1 (many*p.2)) a).length<=a.length+m.length:=by
  intro m;induction m with
  | nil=>intro a;simp
  | cons x r ih=> intro a;rw[AAx,AAc];have:=ih (OM a x.1 (many*x.2));have:=ON a x.1 (many*x.2);omega
 have:=key m [];simpa[CT] using this
def Zg {p r:Dh}{N:Nat}{many more:Int}(hp:IH N p)(c:IH N r)(h1:many.natAbs<2^N)(h2:more.natAbs<2^N)(hN:N<=10000){Q:PV->Prop}(q:Q (Ch ⟨many*p.c0+more*r.c0,many*p.c1+more*r.c1,max p.s r.s,D4 more (CT many p.w) r.w⟩)):G8 [Ch p, .int many,Ch r, .int more] Q:=by
 have mo:∀x y:Int,x.natAbs<2^N->y.natAbs<2^N->MulOk x y:=λx y a b=> .of a b;have f:(CT many p.w).length<=p.w.length:=WZ;have d:=hp.l;have g:=c.l;apply WV;repeat' array_get_dec
 refine⟨mo _ _ h1 hp.a, ?_⟩;repeat' array_get_dec
 refine⟨mo _ _ h2 c.a, ?_⟩;repeat' array_get_dec
 refine⟨mo _ _ h1 hp.b, ?_⟩;repeat' array_get_dec
 refine⟨mo _ _ h2 c.b, ?_⟩;repeat' array_get_dec
 refine⟨⟨AAt rfl,AAt rfl,AAt rfl⟩, ?_⟩;repeat' array_get_dec
 refine⟨many,rfl,i7 (n:=12) d (by decide),λe he=>mo _ _ h1 (hp.w e he), ?_⟩;show AW Am (aV 2) (aC (.int 2)) [some (AV.val (Ch p)),some (AV.val (PV.int many)),some (AV.val (Ch r)),some (AV.val (PV.int more)),some (AV.val (PV.tup [PV.int (many*p.c0+more*r.c0),PV.int (many*p.c1+more*r.c1)])),none,none,none] _;repeat' array_get_dec
 refine⟨more,rfl,i7 (n:=24) (by omega) (by decide),λe he=>mo _ _ h2 (c.w e he), ?_⟩;simp only[List.set_cons_succ,List.set_cons_zero];repeat' array_get_dec
 exact q
def Vb {p r:Dh}{N:Nat}(hp:IH N p)(a:IH N r)(hN:N<=10000){Q:PV->Prop}(q:Q (Ch ⟨-r.c1*p.c0+p.c1*r.c0, -r.c1*p.c1+p.c1*r.c1,max p.s r.s,D4 p.c1 (CT (-r.c1) p.w) r.w⟩)):Fj [Ch p,Ch r, .int 1] Q:=by
 apply Uc;repeat' array_get_dec
 exact Zg hp a (by rw[AB3];exact a.b) hp.b hN q
def JA (p:Dh):km:=decide (p.c0<0\/(p.c0=0/\p.s=1))
def UA {p:Dh}{Q:PV->Prop}(q:Q (.bl (JA p))):Dy [Ch p] Q:=by
 unfold JA at q;apply Rr;repeat' array_get_dec
 .rename_i h;rw[AAo (.inl h)] at q;exact q
 .rename_i h1 h2;rw[show decide (p.c0<0\/p.c0=0/\p.s=1)=decide (p.s=1) by rw[ABP];omega] at q;exact q
 .rename_i h1 h2;rw[AAa (by omega)] at q;exact q
def B2 (p:Dh):Int×Int:=if 0<p.c1 then (-p.c0,p.c1) else (p.c0, -p.c1)
def Mj {p:Dh}{Q:PV->Prop}(q:Q (.tup [.int (B2 p).1, .int (B2 p).2])):DZ [Ch p, .int 1] Q:=by
 unfold B2 at q;apply Uh;repeat' array_get_dec
 .rename_i h;rw[AAE h] at q;exact q
 .rename_i h;rw[AAD h] at q;exact q
def Dr (p:Dh):Rat:= -(p.c0:Rat)/p.c1
def Wu (p r:Dh):km:=if (B2 p).1*(B2 r).2<(B2 r).1*(B2 p).2 then decide (p.c1<0) else if (B2 r).1*(B2 p).2<(B2 p).1*(B2 r).2 then decide (0<p.c1) else decide (r.s<p.s)
def Hc {p:Dh}{N:Nat}(h:IH N p):(B2 p).1.natAbs<2^N/\(B2 p).2.natAbs<2^N:=by
 unfold B2;have:=h.a;have:=h.b;split
 .rw [AB3];exact⟨h.a,h.b⟩
 .rw [AB3];exact⟨h.a,h.b⟩
def NZ {a b c d:Int}{N:Nat}(h1:a.natAbs<2^N)(h2:b.natAbs<2^N)(e:c.natAbs<2^N)(f:d.natAbs<2^N)(hN:N<=10000){Q:PV->Prop}(q:Q (.bl (decide (a*d<c*b)))):A1 [.tup [.int a, .int b], .tup [.int c, .int d]] Q:=by refine⟨.of h1 f, .of e h2,q⟩
def Wv {p r:Dh}{N:Nat}(hp:IH N p)(d:IH N r)(hN:N<=10000){Q:PV->Prop}(q:Q (.bl (Wu p r))):Dj [Ch p,Ch r, .int 1] Q:=by
 obtain⟨a,b⟩:=Hc hp;obtain⟨c,b2⟩:=Hc d;unfold Wu at q;apply OP;ac_rfl;refine Mj ?_;ac_rfl;refine Mj ?_;ac_rfl;refine NZ a b c b2 hN ?_;ac_rfl
 .rename_i h;rw[AAE h] at q;exact q
 rename_i h;rw[AAD h] at q;refine NZ c b2 a b hN ?_;ac_rfl
 .rename_i h;rw[AAE h] at q;exact q
 .rename_i h;rw[AAD h] at q;exact q
def holds (p:Dh)(t:Rat):Prop:=0<UY p t\/(UY p t=0/\p.s=0)
def DT {p:Dh}(h:p.c1≠0):0<(B2 p).2/\((B2 p).1:Rat)=Dr p*((B2 p).2:Rat)/\(p.c0:Rat)= - (Dr p*p.c1):=by
 have hc:(p.c1:Rat)≠0:=by exact_mod_cast h
 have e:Dr p*(p.c1:Rat)= -(p.c0:Rat):=by unfold Dr;exact Rat.div_mul_cancel hc
 unfold B2;split
 .rename_i h1;refine⟨h1, ?_, ?_⟩
  .rw [e];push_cast;rfl
  .rw [e];grind
 .rename_i h1;refine⟨by show 0 < -p.c1;omega, ?_, ?_⟩
  .push_cast;grind
  .rw [e];grind
def YQ {p r:Dh}(hp:p.c1≠0)(a:r.c1≠0):(B2 p).1*(B2 r).2<(B2 r).1*(B2 p).2↔Dr p<Dr r:=by
 obtain⟨b,c,_⟩:=DT hp;obtain⟨d,b2,_⟩:=DT a;have e:(0:Rat)<((B2 p).2:Rat):=by exact_mod_cast b
 have f:(0:Rat)<((B2 r).2:Rat):=by exact_mod_cast d
 rw[<-ADJ,ADI,ADI,c,b2];generalize ((B2 p).2:Rat)=x at *;generalize ((B2 r).2:Rat)=y at *;have g:0<x*y:=Rat.mul_pos e f;rw[show Dr p*x*y=Dr p*(x*y) by grind,show Dr r*y*x=Dr r*(x*y) by grind];exact Rat.mul_lt_mul_right g
def X2 {p:Dh}(h:p.c1≠0)(t:Rat):UY p t=p.c1*(t-Dr p):=by obtain⟨_,_,e⟩:=DT h;unfold UY;rw[e];grind
def Eb {p:Dh}(h:0<p.c1)(t:Rat):holds p t↔(Dr p<t\/(Dr p=t/\p.s=0)):=by
 have hc:(0:Rat)<p.c1:=by exact_mod_cast h
 unfold holds;rw[X2 (by omega)];have a:0<(p.c1:Rat)*(t-Dr p)↔Dr p<t:=by rw[ACD hc];grind
 have b:(p.c1:Rat)*(t-Dr p)=0↔Dr p=t:=by rw[ACZ];grind
 rw[a,b]
def D3 {p:Dh}(h:p.c1<0)(t:Rat):holds p t↔(t<Dr p\/(Dr p=t/\p.s=0)):=by
 have hc:(0:Rat) < -(p.c1:Rat):=by
  have:(p.c1:Rat)<0:=by exact_mod_cast h
  grind
 unfold holds;rw[X2 (by omega)];have a:0<(p.c1:Rat)*(t-Dr p)↔t<Dr p:=by rw[show (p.c1:Rat)*(t-Dr p)= -(p.c1:Rat)*(Dr p-t) by grind,ACD hc];grind
 have b:(p.c1:Rat)*(t-Dr p)=0↔Dr p=t:=by rw[ACZ];grind
 rw[a,b]
instance{p:Dh}{Q:PV->Prop}:Wp (II (Ch p) .non Q) (Q (.bl false)):=⟨id⟩
def Rg:zt Dh->PV|none=> .non|some p=>Ch p
def Us (a:Int)(o:zt Dh)(p:Dh):zt Dh:=if 0<p.c1*a then (match o with | none=>some p|some r=>if Wu p r=true then some p else some r) else o
def tight (a:Int)(b:zy Dh):zt Dh:=b.foldl (Us a) none
def du {p r:Dh}{b:Int}(h:b=1\/b= -1)(hp:0<p.c1*b)(a:0<r.c1*b)(sp:p.s=0\/p.s=1)(e:r.s=0\/r.s=1)(t:Rat):(Wu p r=true->holds p t->holds r t)/\(Wu p r=false->holds r t->holds p t):=by
 have c:p.c1≠0:=by intro z;rw[z] at hp;simp at hp
 have d:r.c1≠0:=by intro z;rw[z] at a;simp at a
 unfold Wu;simp only[YQ c d,YQ d c];rcases h with rfl|rfl
 .have hp:0<p.c1:=by omega
  have a:0<r.c1:=by omega
  rw[Eb hp,Eb a];split
  .simp [show ¬p.c1<0 by omega];grind
  .split
   .simp [hp];grind
   .simp;grind
 .have hp:p.c1<0:=by omega
  have a:r.c1<0:=by omega
  rw[D3 hp,D3 a];split
  .simp [hp];grind
  .split
   .simp [show ¬0<p.c1 by omega];grind
   .simp;grind
structure jf (sg:Int) (ps:List Dh) (o:Option Dh):Prop where
 no:o=none->∀p∈ps,¬0<p.c1*sg
 so:∀r,o=some r->r∈ps/\0<r.c1*sg/\∀p∈ps,0<p.c1*sg->∀t,holds r t->holds p t
def Zi {c:Int}(h:c=1\/c= -1){g:zy Dh}{o:zt Dh}{p:Dh}(hs:∀p∈g,p.s=0\/p.s=1)(hp:p.s=0\/p.s=1)(i:jf c g o):jf c (g ++ [p]) (Us c o p):=by
 unfold Us;split
 .rename_i h1;cases o with
  | none=>
    refine⟨λz=>(by cases z),λr e=> ?_⟩;cases e;refine⟨by simp,h1,λx hx h2 t a=> ?_⟩;rcases AAO.mp hx with hx|hx
    .exact absurd h2 (i.no rfl x hx)
    .rw [AAU.mp hx];exact a
  | some r=>
    obtain⟨m,d,f⟩:=i.so r rfl;have j:=du h h1 d hp (hs r m);dsimp only;split
    .rename_i h2;refine⟨λz=>(by cases z),λk e=> ?_⟩;cases e;refine⟨by simp,h1,λx hx b t a=> ?_⟩;rcases AAO.mp hx with hx|hx
     .exact f x hx b t ((j t).1 h2 a)
     .rw [AAU.mp hx];exact a
    .rename_i h2;refine⟨λz=>(by cases z),λk e=> ?_⟩;cases e;refine⟨by simp[m],d,λx hx b t a=> ?_⟩;rcases AAO.mp hx with hx|hx
     .exact f x hx b t a
     .rw [AAU.mp hx];exact(j t).2 (by simpa using h2) a
 .rename_i h1;refine⟨λz x hx=> ?_,λr e=> ?_⟩
  .rcases AAO.mp hx with hx|hx
   .exact i.no z x hx
   .rw [AAU.mp hx];exact h1
  .obtain ⟨m,d,f⟩:=i.so r e;refine⟨by simp[m],d,λx hx b t a=> ?_⟩;rcases AAO.mp hx with hx|hx
   .exact f x hx b t a
   .rw [AAU.mp hx] at b;exact absurd b h1
def QZ (a:Int)(us:zy Dh)(p:Dh):tight a (us ++ [p])=Us a (tight a us) p:=by unfold tight;rw[ABg];rfl
theorem B5 {b:Int}(h:b=1\/b= -1):∀(n:Nat) (a:zy Dh),a.length=n->(∀p∈a,p.s=0\/p.s=1)->jf b a (tight b a)
 | 0,a,e,_=>by have:a= [] :=ABh.mp e;subst this;exact⟨λ_=>by simp,λr e=>by cases e⟩
 | n+1,a,e,hs=>by obtain⟨ys,r,rfl⟩:∃ys r,a=ys ++ [r] :=⟨a.dropLast,a.getLast (by intro z;subst z;cases e),(ABs _).symm⟩;rw[QZ];exact Zi h (λp hp=>hs p (by simp[hp])) (hs r (by simp)) (B5 h n ys (by simpa using e) λp hp=>hs p (by simp[hp]))
def FI {v:PV}{d:zy Dh}{N:Nat}{c:Int}(hv:v= .lst (d.map Ch))(h:c=1\/c= -1)(ok:∀p∈d,IH N p)(hN:N<=10000)(hl:d.length<=100){Q:PV->Prop}(q:Q (Rg (tight c d))):Cv [v, .int 1, .int c] Q:=by
 subst hv;have o:c.natAbs<2^N\/N=0:=by
  rcases Nat.eq_zero_or_pos N with z|z
  .exact .inr z
  .left;have:2^1<=2^N:=ADd (by decide) z;omega
 apply Rx;ac_rfl;refine CQ Ch (λus vs τ=>∃f,τ= [some (.val (.lst (d.map Ch))),some (.val (.int 1)),some (.val (.int c)),some (.val (Rg (tight c us))),f]) ?_ ?_ ⟨_,rfl⟩
 .rintro τ ⟨f,rfl⟩;ac_rfl;exact q
 .rintro us p vs e τ R g ⟨f,rfl⟩;have i:IH N p:=ok p (by rw[<-e];simp);have j:∀x∈us,IH N x:=λx hx=>ok x (by rw[<-e];simp[hx]);have k:=B5 h us.length us rfl λx hx=>(j x hx).s;have a:=g [some (.val (.lst (d.map Ch))),some (.val (.int 1)),some (.val (.int c)),some (.val (Rg (tight c (us ++ [p])))),some (.val (Ch p))] ⟨_,rfl⟩;clear g;rw[QZ] at a;unfold Us at a;have m1:MulOk p.c1 c:= .of (m:=10000) (n:=10000) (A6 i.b hN) (A6 (m:=1) (by omega) (by decide));cases hq:tight c us with
  | none=>
    rw[hq] at a;rw[show Rg none=PV.non from rfl];ac_rfl
    .rename_i z;rw[AAE z] at a;exact a
    .rename_i z;rw[AAD z] at a;exact a
  | some r=>
    rw[hq] at a;have l:=j r (k.so r hq).1;rw[show Rg (some r)=Ch r from rfl];ac_rfl
    .rename_i z;rw[AAE z] at a;refine Wv i l hN ?_;dsimp only at a;cases hb:Wu p r with
     | true=> rw[hb,AAE rfl] at a;ac_rfl;exact a
     | false=> rw[hb,AAD (by decide)] at a;ac_rfl;exact a
    .rename_i z;rw[AAD z] at a;exact a
def Ww {p:Dh}(h:p.c1≠0):Rat.divInt (B2 p).1 (B2 p).2=Dr p:=by
 obtain⟨a,b,_⟩:=DT h;have hz:((B2 p).2:Rat)≠0:=by
  have:(0:Rat)<((B2 p).2:Rat):=by exact_mod_cast a
  grind
 rw[Rat.divInt_eq_div,b];exact Rat.mul_div_cancel hz
def ck {v:PV}{a:zy Dh}{N:Nat}{l h:Dh}(hv:v= .lst (a.map Ch))(ok:∀p∈a,IH N p)(hN:N<=8900)(hl:a.length<=100)(b:tight 1 a=some l)(c:tight (-1) a=some h){Q:PV->Prop}(q:Q (.tup [fr (Dr l), .int (1-l.s),fr (Dr h)])):Ek [v, .int 1] Q:=by
 have d:=(B5 (.inl rfl) a.length a rfl λx hx=>(ok x hx).s).so l b;have e:=(B5 (.inr rfl) a.length a rfl λx hx=>(ok x hx).s).so h c;have f:l.c1≠0:=by have:=d.2.1;omega
 have g:h.c1≠0:=by have:=e.2.1;omega
 have i:=Hc (ok l d.1);have b2:=Hc (ok h e.1);have j:=(DT f).1;have k:=(DT g).1;rw[<-Ww f,<-Ww g] at q;apply Rv;ac_rfl;refine FI hv (.inl rfl) ok (by omega) hl ?_;rw[b,show Rg (some l)=Ch l from rfl];ac_rfl;refine Mj ?_;ac_rfl;refine EX _ _ (by omega) (A6 i.2 hN) _ ?_;ac_rfl;refine FI hv (.inr rfl) ok (by omega) hl ?_;rw[c,show Rg (some h)=Ch h from rfl];ac_rfl;refine Mj ?_;ac_rfl;refine EX _ _ (by omega) (A6 b2.2 hN) _ ?_;ac_rfl;exact q
def XE {a:zy Dh}{l h:Dh}(hs:∀p∈a,p.s=0\/p.s=1)(m:tight 1 a=some l)(n:tight (-1) a=some h)(h1:h.s=1)(o:∀p∈a,p.c1=0->JA p=false)(t:Rat):(∀p∈a,holds p t)↔((Dr l<t\/(Dr l=t/\l.s=0))/\t<Dr h):=by
 have c:=(B5 (.inl rfl) a.length a rfl hs).so l m;have d:=(B5 (.inr rfl) a.length a rfl hs).so h n;have f:0<l.c1:=by have:=c.2.1;omega
 have g:h.c1<0:=by have:=d.2.1;omega
 constructor
 .intro i;have e:=(Eb f t).mp (i l c.1);have b:=(D3 g t).mp (i h d.1);refine⟨e, ?_⟩;rcases b with b|b
  .exact b
  .omega
 .rintro ⟨e,b⟩ p hp;rcases Int.lt_trichotomy p.c1 0 with z|z|z
  .exact d.2.2 p hp (by omega) t ((D3 g t).mpr (.inl b))
  .have:=o p hp z;unfold JA at this;have this:=ABe this;unfold holds UY;rw[z];rcases hs p hp with j|j
   .have:0<=p.c0:=by omega
    rcases Int.lt_or_eq_of_le this with k|k
    .left;have:(0:Rat)<p.c0:=by exact_mod_cast k
     grind
    .right;rw[<-k];exact⟨by grind,j⟩
   .have k:0<p.c0:=by omega
    left;have:(0:Rat)<p.c0:=by exact_mod_cast k
    grind
  .exact c.2.2 p hp (by omega) t ((Eb f t).mpr e)
def au {v:PV}{a:zy Dh}{N:Nat}(hv:v= .lst (a.map Ch))(ok:∀p∈a,IH N p)(hN:N<=8900)(hl:a.length<=100)(lo:∃p∈a,0<p.c1)(hi:∃p∈a,p.c1<0)(hs:∀p∈a,p.c1<0->p.s=1){Q:PV->Prop}(J:∀l h,tight 1 a=some l->tight (-1) a=some h->Dr l<Dr h->h.s=1->(∀p∈a,p.c1=0->JA p=false)->Q .non)(E:∀p,(∀t,¬∀p∈a,holds p t)->Q (Ch p)):Ei [v, .int 1] Q:=by
 have F:=B5 (.inl rfl) a.length a rfl λx hx=>(ok x hx).s;have G:=B5 (.inr rfl) a.length a rfl λx hx=>(ok x hx).s;obtain⟨l,n⟩:∃l,tight 1 a=some l:=by
  cases e:tight 1 a with
  | some l=>exact⟨l,rfl⟩
  | none=>obtain⟨p,hp,h⟩:=lo;exact absurd (by omega) (F.no e p hp)
 obtain⟨h,o⟩:∃h,tight (-1) a=some h:=by
  cases e:tight (-1) a with
  | some l=>exact⟨l,rfl⟩
  | none=>obtain⟨p,hp,h⟩:=hi;exact absurd (by omega) (G.no e p hp)
 have f:=F.so l n;have g:=G.so h o;have H:0<l.c1:=by have:=f.2.1;omega
 have r:h.c1<0:=by have:=g.2.1;omega
 have K:=hs h g.1 r;apply Rq;ac_rfl;subst hv;refine CQ Ch (λus vs τ=>(∀p∈us,p.c1=0->JA p=false)/\∃u i j,τ= [some (.val (.lst (a.map Ch))),some (.val (.int 1)),u,i,j]) ?_ ?_ ⟨by simp,_,_,_,rfl⟩
 .rintro τ ⟨y,u,i,j,rfl⟩;have A:(0:Rat)<l.c1:=by exact_mod_cast H
  have B:(0:Rat) < -(h.c1:Rat):=by
   have:(h.c1:Rat)<0:=by exact_mod_cast r
   grind
  have L:((-h.c1*l.c0+l.c1*h.c0:Int):Rat)=(l.c1 * -(h.c1:Rat))*(Dr h-Dr l):=by
   push_cast
   rw[(DT (p:=l) (by omega)).2.2,(DT (p:=h) (by omega)).2.2];grind
  have M:max l.s h.s=1:=by have:=(ok l f.1).s;omega
  have C:=Rat.mul_pos A B;have key:Dr l<Dr h↔0 < -h.c1*l.c0+l.c1*h.c0:=by rw[<-ADJ,L,ADs,ACD C];grind
  ac_rfl;refine FI rfl (.inr rfl) ok (by omega) hl ?_;rw[o,show Rg (some h)=Ch h from rfl];ac_rfl;refine FI rfl (.inl rfl) ok (by omega) hl ?_;rw[n,show Rg (some l)=Ch l from rfl];ac_rfl;refine Vb (ok l f.1) (ok h g.1) (by omega) ?_;have f1:=E ⟨-h.c1*l.c0+l.c1*h.c0, -h.c1*l.c1+l.c1*h.c1,max l.s h.s,D4 l.c1 (CT (-h.c1) l.w) h.w⟩;have O:=J l h n o;generalize hb:(⟨-h.c1*l.c0+l.c1*h.c0, -h.c1*l.c1+l.c1*h.c1,max l.s h.s,D4 l.c1 (CT (-h.c1) l.w) h.w⟩:Dh)=b at *;have T:b.c0= -h.c1*l.c0+l.c1*h.c0:=by rw[<-hb]
  have bs:b.s=1:=by rw[<-hb];exact M
  ac_rfl;refine UA ?_;cases c:JA b with
  | true=>
    unfold JA at c;have c:=ABd c;ac_rfl;refine f1 λt m=> ?_;have U:=(Eb H t).mp (m l f.1);have D:=(D3 r t).mp (m h g.1);have:Dr l<Dr h:=by
     rcases D with D|D
     .grind
     .omega
    have:=key.mp this;omega
  | false=> unfold JA at c;have c:=ABe c;ac_rfl;exact O (key.mpr (by omega)) K y
 .rintro us p vs e τ R I ⟨y,u,i,j,rfl⟩;have P:p∈a:=by rw[<-e];simp
  have d:(p.c1=0->JA p=false)->R [some (AV.val (PV.lst (List.map Ch a))),some (AV.val (PV.int 1)),some (AV.val (Ch p)),i,j] :=λh=>I _ ⟨λx hx=>by
   rcases AAO.mp hx with hx|hx
   .exact y x hx
   .rw [AAU.mp hx];exact h,_,_,_,rfl⟩
  clear I;ac_rfl
  .rename_i z;refine UA ?_;cases c:JA p with
   | true=>
     ac_rfl;refine E p λt m=> ?_;have:=m p P;unfold JA at c;have c:=ABd c;unfold holds UY at this;rw[z] at this;have S:(p.c0:Rat)+((0:Int):Rat)*t=(p.c0:Rat):=by grind
     rw[S] at this;rcases this with k|⟨k,W⟩
     .have:0<p.c0:=by exact_mod_cast k
      omega
     .have:p.c0=0:=by exact_mod_cast k
      omega
   | false=> ac_rfl;exact d λ_=>c
  .rename_i z;exact d λh=>absurd h z
abbrev Ox:AS:=
 (AY (EH (Gj (aV 0)) (Jb 3 (Ad (Ak 3) (Ad (Ak 4) (Ad (Ak 5) B0)))) (Db 2 Gh (AB (A9 (AB (aV 3) (AB (aV 4) (AB (jj (Aw (AW II (aV 5) (aC .non))) (aC .non) (AN 2 Kr (AB (aV 5) (AB (aV 1) AL)))) AL)))) AL)))
   (As (AN 1 D0 (AB (aV 2) AL))))
abbrev M5:AS:=
 (AY (Gf (DE AL) 2)
   Ox)
def Ej:AF:=An 6 M5
def Rs {a b:PV}{Q:PV->Prop}(h:M5 ⟨λ_=>Q .non,Q,λ_=>False,λ_=>False⟩ [some (.val a),some (.val b),none,none,none,none]):Ej [a,b] Q:=h
def Tu {v:PV}{xs:zy PV}{ss:zy Ar}{x:Rat}{B C:Nat}(hv:v= .tup xs\/v= .lst xs)(i:EG xs ss)(ok:∀s∈ss,A8 B s)(hl:ss.length<=400)(hx:0<=x)(l:Bd C x)(m:B+C+1<=4000){Q:PV->Prop}(q:Q (.tup ((canon 1 (ss.map (Gk x))).map Ao))):Ej [v,fr x] Q:=by
 have A:=i.length;apply Rs;ac_rfl;refine cA hv ?_;refine Hm (λr τ=>∃us vs b c d,us++vs=ss/\EG r vs/\τ= [some (.val v),some (.val (fr x)),some (.own ((us.map (Gk x)).map Ao)),b,c,d]) ?_ ?_ _ _ ⟨[],ss,_,_,_,rfl,i,rfl⟩
 .rintro τ ⟨us,vs,b,c,d,e,hv,rfl⟩;cases hv;rw[ABU] at e;subst e;repeat' array_get_dec
  refine Ly (.inr rfl) (Ed (us.map (Gk x))) (B:=B+C+1) (λs hs=> ?_) (by rw[AAI];exact hl) m q;obtain⟨t,n,rfl⟩:=AAM.mp hs;exact K8 hx l (ok t n)
 .rintro y r τ R j ⟨us,vs,b,c,d,e,hv,rfl⟩;obtain⟨s,p,rfl,hy,u⟩:=WS hv;have os:=ok s (by rw[<-e];simp);have ul:us.length<=400:=by have:=congrArg List.length e;simp at this;omega
  have f:∀g b c d,g=(us.map (Gk x)).map Ao ++ [Ao (Gk x s)] ->R [some (.val v),some (.val (fr x)),some (.own g),b,c,d] :=λg b c d h=>j _ ⟨us ++ [s],p,b,c,d,by simpa using e,u,by rw[h];simp⟩;clear j;show Oq y _;refine gP hy ⟨rfl, ?_⟩;obtain⟨a,k,o⟩:=s;cases o with
  | none=>
    repeat' array_get_dec
    exact f _ _ _ _ rfl
  | some t=>
    have bt:Bd B t:=(os.e t rfl).2;have w:Yw (a,k,some t).2.2=fr t:=rfl;repeat' array_get_dec
    .exact absurd ‹(a,k,some t).2.2=none› (λz=>by cases z)
    rw[w];repeat' array_get_dec
    exact f _ _ _ _ rfl
abbrev Ic:AS:=
 (AY (Aj (AN 2 NQ (AB (AN 2 EA (AB (aV 5) (AB (aV 4) AL))) (AB (aV 2) AL))) (Ak 6))
   (Db 3 Gh (AB (A9 (AB (AN 2 EA (AB (aV 4) (AB (AN 2 Jr (AB (aV 6) (AB (AW Am (aV 0) (aC (.int 0))) AL))) AL))) (AB (aV 6) AL))) AL)))
abbrev Ig:AS:=
 (AY (EH (iZ (AB (Zs (aV 0) (Zu (aC (.int 1))) Zt) (AB (Zs (aV 1) (Zu (aC (.int 1))) Zt) AL))) (Jb 2 (Ad (Ak 4) (Ad (Ak 5) B0))) Ic)
   (As (A9 (AB (AW Am (aV 0) (aC (.int 0))) (AB (AW Am (aV 1) (aC (.int 0))) (AB (aV 3) AL))))))
abbrev Ie:AS:=
 (AY (Gf (DE AL) 3)
   Ig)
abbrev GY:AS:=
 (AY (Aj (AN 2 EA (AB (AW Am (aV 1) (aC (.int 0))) (AB (AW Am (aV 0) (aC (.int 0))) AL))) (Ak 2))
   Ie)
def B4:AF:=An 7 GY
def KS {a b:PV}{Q:PV->Prop}(h:GY ⟨λ_=>Q .non,Q,λ_=>False,λ_=>False⟩ [some (.val a),some (.val b),none,none,none,none,none]):B4 [a,b] Q:=h
abbrev Le:AS:=
 (As (Ea (Bx (NY (AB (AW HC (F2 IJ (AB (aV 0) AL)) (aC (.int 1))) AL)) 1 [0] (Ak 0) DW (AN 2 B4 (AB (AW Am (aV 1) (aV 0)) (AB (AW Am (aV 1) (AW BS (aV 0) (aC (.int 1)))) AL))))))
def EE:AF:=An 1 Le
def Pi {a:PV}{Q:PV->Prop}(h:Le ⟨λ_=>Q .non,Q,λ_=>False,λ_=>False⟩ [some (.val a)]):EE [a] Q:=h
abbrev O5:AS:=
 (AY (Aj (AN 2 EY (AB (aV 1) (AB (aV 3) AL))) (Ak 4))
   (Db 2 Gh (AB (A9 (AB (AN 2 EA (AB (AW Am (AW Am (aV 0) (aC (.int 1))) (aV 3)) (AB (aV 4) AL))) (AB (AN 2 Kr (AB (AW Am (AW Am (aV 0) (aC (.int 2))) (aV 3)) (AB (aV 4) AL))) AL))) AL)))
abbrev O6:AS:=
 (AY (EH (NY (AB (aC (.int 3)) AL)) (Ak 3) O5)
   (As (aV 2)))
abbrev NG:AS:=
 (AY (Gf (DE AL) 2)
   O6)
def El:AF:=An 5 NG
def Rz {a b:PV}{Q:PV->Prop}(h:NG ⟨λ_=>Q .non,Q,λ_=>False,λ_=>False⟩ [some (.val a),some (.val b),none,none,none]):El [a,b] Q:=h
abbrev NA:AS:=
 (AY (Db 2 Gh (AB (S6 (AN 3 CO (AB (A9 (AB (AN 2 EA (AB (aV 6) (AB (aV 8) AL))) (AB (aV 7) AL))) (AB (aC (.int 1)) (AB (F2 IJ (AB (aV 2) AL)) AL))))) AL))
   (Db 2 Gh (AB (S6 (AN 3 CO (AB (A9 (AB (AN 2 EA (AB (aV 9) (AB (aV 6) AL))) (AB (AN 1 Dz (AB (aV 7) AL)) AL))) (AB (aC (.int 1)) (AB (F2 IJ (AB (aV 2) AL)) AL))))) AL)))
abbrev NC:AS:=
 (AY (EH (iZ (AB (aV 5) (AB (aV 1) AL))) (Jb 2 (Ad (Jb 2 (Ad (Ak 6) (Ad (Ak 7) B0))) (Ad (Jb 2 (Ad (Ak 8) (Ad (Ak 9) B0))) B0))) NA)
   (As (aV 2)))
abbrev NB:AS:=
 (AY (Gf (DE (AB (AN 3 CO (AB (A9 (AB (AN 1 Dz (AB (aV 3) AL)) (AB (aC (.tup [(.int 1),(.int 1)])) AL))) (AB (aC (.int 0)) (AB (aC (.int 0)) AL)))) (AB (AN 3 CO (AB (A9 (AB (aV 4) (AB (aC (.tup [(.int (-1)),(.int 1)])) AL))) (AB (aC (.int 1)) (AB (aC (.int 1)) AL)))) AL))) 2)
   NC)
abbrev Lf:AS:=
 (AY (Aj (aV 0) (Jb 3 (Ad (Ak 3) (Ad (Ak 4) (Ad (Ak 5) B0)))))
   NB)
def EF:AF:=An 10 Lf
def Pj {a b:PV}{Q:PV->Prop}(h:Lf ⟨λ_=>Q .non,Q,λ_=>False,λ_=>False⟩ [some (.val a),some (.val b),none,none,none,none,none,none,none,none]):EF [a,b] Q:=h
abbrev M7:AS:=
 (AY (Aj (AN 2 EF (AB (aV 3) (AB (aV 1) AL))) (Ak 4))
   (CN (Aw (AW II (AN 2 Ei (AB (aV 4) (AB (aC (.int 1)) AL))) (aC .non))) (Db 2 Gh (AB (AN 2 Ek (AB (aV 4) (AB (aC (.int 1)) AL))) AL)) BU))
abbrev M8:AS:=
 (AY (EH (Gj (AN 1 EE (AB (aV 0) AL))) (Ak 3) M7)
   (As (aV 2)))
abbrev Ld:AS:=
 (AY (Gf (DE AL) 2)
   M8)
def ED:AF:=An 5 Ld
def Ph {a b:PV}{Q:PV->Prop}(h:Ld ⟨λ_=>Q .non,Q,λ_=>False,λ_=>False⟩ [some (.val a),some (.val b),none,none,none]):ED [a,b] Q:=h
abbrev W5:AS:=
 (AY (Aj (aV 0) (Jb 2 (Ad (Ak 2) (Ad (Ak 3) B0))))
   (As (AN 2 Ej (AB (AN 2 ED (AB (aV 2) (AB (AN 2 El (AB (aV 1) (AB (aV 3) AL))) AL))) (AB (AW Am (aV 3) (aC (.int 2))) AL)))))
def Hg:AF:=An 4 W5
def Za {a b:PV}{Q:PV->Prop}(h:W5 ⟨λ_=>Q .non,Q,λ_=>False,λ_=>False⟩ [some (.val a),some (.val b),none,none]):Hg [a,b] Q:=h
def Lv (b e:C4)(x y:Rat):Rat:=(y-x)/(e.1-b.1)
def On (b e:C4)(x y:Rat):Rat:=x-Lv b e x y*b.1
def gB (b e:C4)(x y:Rat):PV:= .tup [fr (On b e x y),fr (Lv b e x y)]
def JC (b e:C4):PV:= .tup [fr b.1,fr e.1, .lst [gB b e b.2.1 e.2.1,gB b e b.2.2.1 e.2.2.1,gB b e b.2.2.2 e.2.2.2]]
def GN {b e:C4}{x y:Rat}{B:Nat}(hb:Bd B b.1)(he:Bd B e.1)(hx:Bd B x)(hy:Bd B y)(h:b.1<e.1):Bd (4*B+2) (Lv b e x y)/\Bd (6*B+3) (On b e x y):=by have s:Bd (4*B+2) (Lv b e x y):=(Bd.div (by grind) (hy.sub hx) (he.sub hb)).mono (by omega);exact⟨s,(hx.sub (s.mul hb)).mono (by omega)⟩
def cS {f:C4->PV}(a:f=cor\/f=corL){b e:C4}{B:Nat}(hb:Fa B b)(he:Fa B e)(h:b.1<e.1)(l:6*B+3<=3900){Q:PV->Prop}(q:Q (JC b e)):B4 [f b,f e] Q:=by
 obtain⟨c,d⟩:=GN hb.m he.m hb.x he.x h;obtain⟨g,i⟩:=GN hb.m he.m hb.y he.y h;obtain⟨j,k⟩:=GN hb.m he.m hb.z he.z h;have n:e.1-b.1≠0:=by grind
 have bs:=he.m.sub hb.m;apply KS;rcases a with rfl|rfl
 .repeat' array_get_dec
  exact q
 .repeat' array_get_dec
  show XW (.lst [fr b.1,fr b.2.1,fr b.2.2.1,fr b.2.2.2]) (some 1) none _;refine EU ?_;repeat' array_get_dec
  show XW (.lst [fr e.1,fr e.2.1,fr e.2.2.1,fr e.2.2.2]) (some 1) none _;refine EU ?_;show Oq (.lst [fr b.2.1,fr b.2.2.1,fr b.2.2.2]) λxs=>Oq (.lst [fr e.2.1,fr e.2.2.1,fr e.2.2.2]) λys=>_;repeat' array_get_dec
  exact q
def Fu (cs:zy C4):zy (C4×C4):=cs.zip cs.tail
def gh {cs:zy C4}{i:Nat}(h:i+1<cs.length):∃b e,cs[i]? =some b/\cs[i+1]? =some e/\(Fu cs)[i]? =some (b,e):=by refine⟨cs[i],cs[i+1],AAT _,AAT _, ?_⟩;unfold Fu;rw[AEA];refine⟨AAT _, ?_⟩;rw[List.getElem?_tail];exact AAT _
def FE {cs:zy C4}(a:Ll cs){p:C4×C4}(h:p∈Fu cs):p.1∈cs/\p.2∈cs/\p.1.1<p.2.1:=by obtain⟨i,hi⟩:=List.getElem?_of_mem h;unfold Fu at hi;rw[AEA] at hi;obtain⟨h1,h2⟩:=hi;rw[List.getElem?_tail] at h2;exact⟨ABm h1,ABm h2,X8 a h1 h2⟩
def lN {cs:zy C4}{v:PV}{B:Nat}(hv:Lj cs v)(hc:∀c∈cs,Fa B c)(o:Ll cs)(h2:2<=cs.length)(hl:cs.length<=1000)(r:6*B+3<=3900){Q:PV->Prop}(q:Q (.lst ((Fu cs).map λp=>JC p.1 p.2))):EE [v] Q:=by
 obtain⟨f,s,hv⟩:=hv;apply Pi;have t:(Fu cs).length=cs.length-1:=by unfold Fu;simp
 have go:∀w:PV,(∀(k:Int) (j:Nat) (c:C4) {R:PV->Prop},k=(j:Int)->cs[j]? =some c->R (f c)->Am w (.int k) R)->CK (Ak 0) DW (AN 2 B4 (AB (AW Am (aV 1) (aV 0)) (AB (AW Am (aV 1) (AW BS (aV 0) (aC (PV.int 1)))) AL))) [none,some (AV.val w)] (λxs=>Q (PV.lst xs)) (rng 0 ((cs.length:Int)-1).toNat) [] :=λw ix=>by
  refine XN (λi a=>a=((Fu cs).map λp=>JC p.1 p.2).take i) (λa e=> ?_) (λi hi a R n e=> ?_) rfl
  .rw [e,ABb (by rw[AAI,t];omega)];exact q
  .obtain ⟨b,d,g,l,ep⟩:=gh (cs:=cs) (i:=i) (by omega);have m:=n (a ++ [JC b d]) (by rw[e,List.take_add_one,AAp,ep];rfl);clear n;ac_rfl;refine ix _ i b (by omega) g ?_;ac_rfl;refine ix _ (i+1) d (by omega) l ?_;ac_rfl;refine cS s (hc b (ABm g)) (hc d (ABm l)) (X8 o g l) r ?_;exact m
 rcases hv with rfl|rfl
 .ac_rfl;exact go _ λk j c R hk e h=>Q5 hk e h
 .ac_rfl;exact go _ λk j c R hk e h=>Q5 hk e h
def S4 (lo hi:T3)(v:PV):Prop:=∃nm mo l h,Sx lo l/\Sx hi h/\(v= .tup [nm,l,h,mo] \/v= .lst [nm,l,h,mo])
def JY (lo hi:T3):PV:= .lst [.tup [fr lo.1,fr hi.1], .tup [fr lo.2.1,fr hi.2.1], .tup [fr lo.2.2,fr hi.2.2]]
def Dk {b:T3}{w:PV}(hw:Sx b w){R:PV->Prop}:(R (fr b.1)->Am w (.int 0) R)/\(R (fr b.2.1)->Am w (.int 1) R)/\(R (fr b.2.2)->Am w (.int 2) R):=by rcases hw with rfl|rfl <;> exact⟨id,id,id⟩
def Ut {lo hi b:T3}{v w:PV}(hv:S4 lo hi v)(hw:Sx b w)(c:Cq 100 lo)(d:Cq 100 hi)(e:Cq 100 b){Q:PV->Prop}(q:Q (JY (lo.1-b.1,lo.2.1-b.1,lo.2.2-b.2.1) (hi.1+b.1,hi.2.1+b.1,hi.2.2+b.2.1))):El [v,w] Q:=by
 obtain⟨nm,mo,l,h,hl,a,hv⟩:=hv;have f:=c.x;have g:=c.y;have i:=c.z;have j:=d.x;have k:=d.y;have m:=d.z;have n:=e.x;have o:=e.y;apply Rz;rcases hv with rfl|rfl
 .ac_rfl;show DQ _ _ _ [.int 0, .int 1, .int 2] _;repeat' array_get_dec
  refine Fp hw ?_;rw[AAD (by decide)];repeat' array_get_dec
  refine(Dk hl).1 ?_;repeat' array_get_dec
  refine(Dk a).1 ?_;repeat' array_get_dec
  refine Fp hw ?_;rw[AAD (by decide)];repeat' array_get_dec
  refine(Dk hl).2.1 ?_;repeat' array_get_dec
  refine(Dk a).2.1 ?_;repeat' array_get_dec
  refine Fp hw ?_;rw[AAE (by decide)];repeat' array_get_dec
  refine(Dk hl).2.2 ?_;repeat' array_get_dec
  refine(Dk a).2.2 ?_;repeat' array_get_dec
  exact q
 .ac_rfl;show DQ _ _ _ [.int 0, .int 1, .int 2] _;repeat' array_get_dec
  refine Fp hw ?_;rw[AAD (by decide)];repeat' array_get_dec
  refine(Dk hl).1 ?_;repeat' array_get_dec
  refine(Dk a).1 ?_;repeat' array_get_dec
  refine Fp hw ?_;rw[AAD (by decide)];repeat' array_get_dec
  refine(Dk hl).2.1 ?_;repeat' array_get_dec
  refine(Dk a).2.1 ?_;repeat' array_get_dec
  refine Fp hw ?_;rw[AAE (by decide)];repeat' array_get_dec
  refine(Dk hl).2.2 ?_;repeat' array_get_dec
  refine(Dk a).2.2 ?_;repeat' array_get_dec
  exact q
abbrev Fm:=Rat×Rat×Int
def hF (f:Fm)(t:Rat):Prop:=0<f.1+f.2.1*t\/(f.1+f.2.1*t=0/\f.2.2=0)
structure aH (N:Nat) (f:Fm) (p:Dh):Prop where
 ok:IH N p
 s:p.s=f.2.2
 ex:∃S:Rat,0<S/\(p.c0:Rat)=f.1*S/\(p.c1:Rat)=f.2.1*S
inductive NT (N:Nat):List Fm->List Dh->Prop where
 | nil:NT N [] []
 | cons {f:Fm} {p:Dh} {fs:List Fm} {ps:List Dh} (h:aH N f p) (t:NT N fs ps):NT N (f::fs) (p::ps)
def aH.hold {N:Nat}{f:Fm}{p:Dh}(h:aH N f p)(t:Rat):holds p t↔hF f t:=by
 obtain⟨S,a,b,c⟩:=h.ex;unfold holds hF UY;rw[b,c,h.s,show f.1*S+f.2.1*S*t=S*(f.1+f.2.1*t) by grind,ACD a,ACZ];have:S≠0:=by grind
 simp[this]
def aH.sign {N:Nat}{f:Fm}{p:Dh}(h:aH N f p):(0<p.c1↔0<f.2.1)/\(p.c1<0↔f.2.1<0):=by
 obtain⟨S,c,e,d⟩:=h.ex;have a:0<p.c1↔(0:Rat)<(p.c1:Rat):=by rw[<-ADs,ADJ]
 have b:p.c1<0↔(p.c1:Rat)<0:=by rw[<-ADs,ADJ]
 rw[a,b,d];refine⟨?_, ?_⟩
 .rw [Rat.mul_comm,ACD c]
 .constructor
  .intro k;have:0<S*(-f.2.1):=by grind
   rw[ACD c] at this;grind
  .intro k;have:0<S*(-f.2.1):=Rat.mul_pos c (by grind);grind
def aH.turn {N:Nat}{f:Fm}{p:Dh}(h:aH N f p)(h0:f.2.1≠0):f.1+f.2.1*Dr p=0:=by
 obtain⟨S,e,b,a⟩:=h.ex;have hs:S≠0:=by grind
 have c:(p.c1:Rat)≠0:=by rw[a];intro z;rcases ACZ.mp z with z|z <;> contradiction
 have d:p.c1≠0:=by intro z;rw[z] at c;exact c rfl
 have:=(DT d).2.2;rw[b,a] at this;have:S*(f.1+f.2.1*Dr p)=0:=by grind
 rcases ACZ.mp this with z|z
 .contradiction
 .exact z
def NT.mem {N:Nat}:∀{e:zy Fm} {g:zy Dh},NT N e g->(∀p∈g,∃f∈e,aH N f p)/\(∀f∈e,∃p∈g,aH N f p)/\g.length=e.length
 | _,_, .nil=>⟨by simp,by simp,rfl⟩
 | _,_, .cons h t=>by
   obtain⟨a,b,c⟩:=t.mem;refine⟨λp hp=> ?_,λf d=> ?_,by simp[c]⟩
   .rcases AAF.mp hp with rfl|hp
    .exact ⟨_,by simp,h⟩
    .obtain ⟨f,d,k⟩:=a p hp;exact⟨f,by simp[d],k⟩
   .rcases AAF.mp d with rfl|d
    .exact ⟨_,by simp,h⟩
    .obtain ⟨p,hp,k⟩:=b f d;exact⟨p,by simp[hp],k⟩
def De {a b:Rat}{W:Nat}{s n:Int}(c:Bd W a)(d:Bd W b)(e:W<=1400)(hs:s=0\/s=1){Q:PV->Prop}(q:∀p:Dh,aH (3*W+1) (a,b,s) p->Q (Ch p)):CO [.tup [fr a,fr b], .int s, .int n] Q:=
 cU c d e hs λp S h1 h2 f g h=>q p ⟨h2,h1,S,f,h,g⟩
def Q1 (b e:C4)(lo hi:T3):zy Fm:= [(-b.1,1,0),(e.1, -1,1),
 (On b e b.2.1 e.2.1-lo.1,Lv b e b.2.1 e.2.1,1),(hi.1-On b e b.2.1 e.2.1, -Lv b e b.2.1 e.2.1,1),
 (On b e b.2.2.1 e.2.2.1-lo.2.1,Lv b e b.2.2.1 e.2.2.1,1),(hi.2.1-On b e b.2.2.1 e.2.2.1, -Lv b e b.2.2.1 e.2.2.1,1),
 (On b e b.2.2.2 e.2.2.2-lo.2.2,Lv b e b.2.2.2 e.2.2.2,1),(hi.2.2-On b e b.2.2.2 e.2.2.2, -Lv b e b.2.2.2 e.2.2.2,1)]
def ZV {b e:C4}{lo hi:T3}{B:Nat}(hb:Fa B b)(he:Fa B e)(h:b.1<e.1)(k:Cq 201 lo)(l:Cq 201 hi)(a:6*B+205<=1400){Q:PV->Prop}(q:∀u,NT (3*(6*B+205)+1) (Q1 b e lo hi) u->Q (.lst (u.map Ch))):EF [JC b e,JY lo hi] Q:=by
 obtain⟨c,d⟩:=GN hb.m he.m hb.x he.x h;obtain⟨f,g⟩:=GN hb.m he.m hb.y he.y h;obtain⟨i,j⟩:=GN hb.m he.m hb.z he.z h;have n:=k.x;have o:=k.y;have p:=k.z;have r:=l.x;have s:=l.y;have t:=l.z;have bm:=hb.m;have v:=he.m;unfold JC JY gB;unfold Q1 at q;generalize On b e b.2.1 e.2.1=x0 at *;generalize On b e b.2.2.1 e.2.2.1=y0 at *;generalize On b e b.2.2.2 e.2.2.2=z0 at *;generalize Lv b e b.2.1 e.2.1=x1 at *;generalize Lv b e b.2.2.1 e.2.2.1=y1 at *;generalize Lv b e b.2.2.2 e.2.2.2=z1 at *;have w:Bd (6*B+205) (1:Rat):=nU.mono (by omega);have A:Bd (6*B+205) (-1:Rat):=nU.neg.mono (by omega);apply Pj;repeat' array_get_dec
 refine RN ?_;repeat' array_get_dec
 rw[show PV.tup [PV.int 1,PV.int 1] =fr 1 from rfl];refine De (W:=6*B+205) (bm.neg.mono (by omega)) w a (.inl rfl) λC f0=> ?_;repeat' array_get_dec
 rw[show PV.tup [PV.int (-1),PV.int 1] =fr (-1) from rfl];refine De (W:=6*B+205) (v.mono (by omega)) A a (.inr rfl) λD f1=> ?_;repeat' array_get_dec
 refine De (W:=6*B+205) ((d.sub n).mono (by omega)) (c.mono (by omega)) a (.inr rfl) λE F=> ?_;repeat' array_get_dec
 refine RN ?_;repeat' array_get_dec
 refine De (W:=6*B+205) ((r.sub d).mono (by omega)) (c.neg.mono (by omega)) a (.inr rfl) λG H=> ?_;repeat' array_get_dec
 refine De (W:=6*B+205) ((g.sub o).mono (by omega)) (f.mono (by omega)) a (.inr rfl) λI J=> ?_;repeat' array_get_dec
 refine RN ?_;repeat' array_get_dec
 refine De (W:=6*B+205) ((s.sub g).mono (by omega)) (f.neg.mono (by omega)) a (.inr rfl) λK L=> ?_;repeat' array_get_dec
 refine De (W:=6*B+205) ((j.sub p).mono (by omega)) (i.mono (by omega)) a (.inr rfl) λM N=> ?_;repeat' array_get_dec
 refine RN ?_;repeat' array_get_dec
 refine De (W:=6*B+205) ((t.sub j).mono (by omega)) (i.neg.mono (by omega)) a (.inr rfl) λO P=> ?_;repeat' array_get_dec
 exact q [C,D,E,G,I,K,M,O] (.cons f0 (.cons f1 (.cons F (.cons H (.cons J (.cons L (.cons N (.cons P .nil))))))))
def iV (lo hi p:T3):Prop:=(lo.1<p.1/\p.1<hi.1)/\(lo.2.1<p.2.1/\p.2.1<hi.2.1)/\(lo.2.2<p.2.2/\p.2.2<hi.2.2)
instance (lo hi p:T3):Decidable (iV lo hi p):=by unfold iV;infer_instance
def J4 (lo hi:T3)(p:C4×C4)(t:Rat):Prop:=p.1.1<=t/\t<p.2.1/\iV lo hi (inter p.1 p.2 t)
def mW (lo hi:T3)(p:C4×C4)(m:Rat):Prop:=m=p.1.1\/m=p.2.1\/(p.1.1<m/\m<p.2.1/\((p.1.2.1≠p.2.2.1/\((inter p.1 p.2 m).1=lo.1\/(inter p.1 p.2 m).1=hi.1))\/(p.1.2.2.1≠p.2.2.2.1/\((inter p.1 p.2 m).2.1=lo.2.1\/(inter p.1 p.2 m).2.1=hi.2.1))\/(p.1.2.2.2≠p.2.2.2.2/\((inter p.1 p.2 m).2.2=lo.2.2\/(inter p.1 p.2 m).2.2=hi.2.2))))
def V5 {b e:C4}(x y t:Rat):x+(t-b.1)/(e.1-b.1)*(y-x)=On b e x y+Lv b e x y*t:=by unfold On Lv;rw[AC3,AC3];grind
def Tp (b e:C4)(t:Rat):inter b e t=(On b e b.2.1 e.2.1+Lv b e b.2.1 e.2.1*t,On b e b.2.2.1 e.2.2.1+Lv b e b.2.2.1 e.2.2.1*t,On b e b.2.2.2 e.2.2.2+Lv b e b.2.2.2 e.2.2.2*t):=by rw[<-V5,<-V5,<-V5];rfl
def fK {b e:C4}{lo hi:T3}(t:Rat):(∀f∈Q1 b e lo hi,hF f t)↔J4 lo hi (b,e) t:=by
 unfold J4 iV;simp only[Tp];unfold Q1 hF;simp only[AAF,AAj,AAh,forall_eq_or_imp,forall_eq];generalize On b e b.2.1 e.2.1=x0 at *;generalize On b e b.2.2.1 e.2.2.1=y0 at *;generalize On b e b.2.2.2 e.2.2.2=z0 at *;generalize Lv b e b.2.1 e.2.1=x1 at *;generalize Lv b e b.2.2.1 e.2.2.1=y1 at *;generalize Lv b e b.2.2.2 e.2.2.2=z1 at *;have k:(0 < -b.1+1*t\/ -b.1+1*t=0/\True)↔b.1<=t:=by grind
 have m:(0<e.1 + -1*t)↔t<e.1:=by grind
 have a:∀l x y:Rat,0<x-l+y*t↔l<x+y*t:=by intro l x y;grind
 have c:∀l x y:Rat,0<l-x + -y*t↔x+y*t<l:=by intro l x y;grind
 have z:¬((1:Int)=0):=by decide
 simp only[z,and_false,AAh,m,a lo.1 x0 x1,c hi.1 x0 x1,a lo.2.1 y0 y1,c hi.2.1 y0 y1,a lo.2.2 z0 z1,c hi.2.2 z0 z1];rw[k];constructor
 .rintro ⟨h0,h1,h2,d,g,h,i,j⟩;exact⟨h0,h1,⟨h2,d⟩,⟨g,h⟩,i,j⟩
 .rintro ⟨h0,h1,⟨h2,d⟩,⟨g,h⟩,i,j⟩;exact⟨h0,h1,h2,d,g,h,i,j⟩
def Rk {N:Nat}{b e:C4}{lo hi:T3}{c:zy Dh}(h:NT N (Q1 b e lo hi) c)(t:Rat):(∀p∈c,holds p t)↔J4 lo hi (b,e) t:=by
 obtain⟨m1,m2,_⟩:=h.mem;rw[<-fK];constructor
 .intro k f a;obtain⟨p,hp,r⟩:=m2 f a;exact(r.hold t).mp (k p hp)
 .intro k p hp;obtain⟨f,a,r⟩:=m1 p hp;exact(r.hold t).mpr (k f a)
def Wg {b e:C4}{x y:Rat}(h:Lv b e x y≠0):x≠y:=by intro z;subst z;apply h;unfold Lv;rw[AC3];grind
def XV {b e:C4}{lo hi:T3}{f:Fm}{m:Rat}(c:f∈Q1 b e lo hi)(h0:f.2.1≠0)(a:f.1+f.2.1*m=0)(h1:b.1<=m)(h2:m<=e.1):mW lo hi (b,e) m:=by
 unfold mW;by_cases d:m=b.1
 .exact .inl d
 by_cases g:m=e.1
 .exact .inr (.inl g)
 refine .inr (.inr ⟨by show b.1<m;grind,by show m<e.1;grind, ?_⟩);simp only[Tp];unfold Q1 at c;simp only[AAF,AAj,AAh] at c;have h:= @Wg b e b.2.1 e.2.1;have i:= @Wg b e b.2.2.1 e.2.2.1;have sz:= @Wg b e b.2.2.2 e.2.2.2;generalize On b e b.2.1 e.2.1=x0 at *;generalize On b e b.2.2.1 e.2.2.1=y0 at *;generalize On b e b.2.2.2 e.2.2.2=z0 at *;generalize Lv b e b.2.1 e.2.1=x1 at *;generalize Lv b e b.2.2.1 e.2.2.1=y1 at *;generalize Lv b e b.2.2.2 e.2.2.2=z1 at *;rcases c with rfl|rfl|rfl|rfl|rfl|rfl|rfl|rfl
 .exact absurd (by dsimp only at a;grind) d
 .exact absurd (by dsimp only at a;grind) g
 .exact .inl ⟨h (by dsimp only at h0;exact h0), .inl (by dsimp only at a ⊢;grind)⟩
 .exact .inl ⟨h (by dsimp only at h0;grind), .inr (by dsimp only at a ⊢;grind)⟩
 .exact .inr (.inl ⟨i (by dsimp only at h0;exact h0), .inl (by dsimp only at a ⊢;grind)⟩)
 .exact .inr (.inl ⟨i (by dsimp only at h0;grind), .inr (by dsimp only at a ⊢;grind)⟩)
 .exact .inr (.inr ⟨sz (by dsimp only at h0;exact h0), .inl (by dsimp only at a ⊢;grind)⟩)
 .exact .inr (.inr ⟨sz (by dsimp only at h0;grind), .inr (by dsimp only at a ⊢;grind)⟩)
def dw {p:Dh}{N:Nat}(h:IH N p)(h0:p.c1≠0):Bd N (Dr p):=by obtain⟨a,b⟩:=Hc h;rw[<-Ww h0];exact .divInt (by have:=(DT h0).1;omega) a b
structure Qr (N:Nat) (lo hi:T3) (p:C4×C4) (s:Ar):Prop where
 ok:A8 N s
 fin:∃x,s.2.2=some x/\mW lo hi p x
 bmk:mW lo hi p s.1
 sem:∀t,Al s (t,0)=true↔J4 lo hi p t
def Uo {N:Nat}{b e:C4}{lo hi:T3}{a:zy Dh}{l h:Dh}(hp:NT N (Q1 b e lo hi) a)(u:tight 1 a=some l)(v:tight (-1) a=some h)(C:Dr l<Dr h)(hs:h.s=1)(D:∀p∈a,p.c1=0->JA p=false):Qr N lo hi (b,e) (Dr l,1-l.s,some (Dr h)):=by
 obtain⟨m1,m2,_⟩:=hp.mem;have g:∀p∈a,p.s=0\/p.s=1:=λp hp=>by obtain⟨f,_,r⟩:=m1 p hp;exact r.ok.s
 have i:=(B5 (.inl rfl) a.length a rfl g).so l u;have j:=(B5 (.inr rfl) a.length a rfl g).so h v;have w:0<l.c1:=by have:=i.2.1;omega
 have y:h.c1<0:=by have:=j.2.1;omega
 obtain⟨E,F,c⟩:=m1 l i.1;obtain⟨G,H,m⟩:=m1 h j.1;have I:=XE g u v hs D;have n:∀t,((Dr l<t\/(Dr l=t/\l.s=0))/\t<Dr h)↔J4 lo hi (b,e) t:=λt=>by rw[<-I t,Rk hp]
 have J:b.1<=Dr l:=by
  obtain⟨o,h0,d⟩:=m2 (-b.1,1,0) (by simp[Q1]);by_cases z:b.1<=Dr l
  .exact z
  exfalso;have k:=i.2.2 o h0 (by have:=d.sign.1.mpr (by show (0:Rat)<1;decide);omega) ((Dr l+b.1)/2) ((Eb w _).mpr (.inl (by grind)));have k:=(d.hold _).mp k;unfold hF at k;dsimp only at k;grind
 have he:Dr h<=e.1:=by
  obtain⟨o,h0,d⟩:=m2 (e.1, -1,1) (by simp[Q1]);by_cases z:Dr h<=e.1
  .exact z
  exfalso;have k:=j.2.2 o h0 (by have:=d.sign.2.mpr (by show (-1:Rat)<0;decide);omega) ((Dr h+e.1)/2) ((D3 y _).mpr (.inl (by grind)));have k:=(d.hold _).mp k;unfold hF at k;dsimp only at k;grind
 have A:E.2.1≠0:=by have:=c.sign.1.mp w;grind
 have B:G.2.1≠0:=by have:=m.sign.2.mp y;grind
 refine⟨⟨dw c.ok (by omega),by have:=c.ok.s;show 1-l.s=0\/1-l.s=1;omega,λx hx=> ?_⟩,⟨_,rfl,XV H B (m.turn B) (by grind) he⟩,XV F A (c.turn A) J (by grind),λt=> ?_⟩
 .cases hx;exact⟨C,dw m.ok (by omega)⟩
 .rw [<-n t];have:=c.ok.s;simp only[Al,AAq,ABq,AA8];have:(0<1-l.s+0)↔l.s=0:=by omega
  rw[this]
structure Ca (N:Nat) (lo hi:T3) (us:List (C4×C4)) (ss:List Ar):Prop where
 ok:∀s∈ss,∃p∈us,Qr N lo hi p s
 all:∀p∈us,∀t,J4 lo hi p t->∃s∈ss,Al s (t,0)=true
 len:ss.length<=us.length
def Ca.more {N:Nat}{lo hi:T3}{us:zy (C4×C4)}{ss:zy Ar}{p:C4×C4}{s:Ar}(h:Ca N lo hi us ss)(k:Qr N lo hi p s):Ca N lo hi (us ++ [p]) (ss ++ [s]):=by
 refine⟨λx hx=> ?_,λq hq t a=> ?_,by have:=h.len;simp;omega⟩
 .rcases AAO.mp hx with hx|hx
  .obtain ⟨q,hq,r⟩:=h.ok x hx;exact⟨q,by simp[hq],r⟩
  .rw [AAU.mp hx];exact⟨p,by simp,k⟩
 .rcases AAO.mp hq with hq|hq
  .obtain ⟨x,hx,r⟩:=h.all q hq t a;exact⟨x,by simp[hx],r⟩
  .rw [AAU.mp hq] at a;exact⟨s,by simp,(k.sem t).mpr a⟩
def Ca.less {N:Nat}{lo hi:T3}{us:zy (C4×C4)}{ss:zy Ar}{p:C4×C4}(h:Ca N lo hi us ss)(k:∀t,¬J4 lo hi p t):Ca N lo hi (us ++ [p]) ss:=by
 refine⟨λx hx=> ?_,λq hq t a=> ?_,by have:=h.len;simp;omega⟩
 .obtain ⟨q,hq,r⟩:=h.ok x hx;exact⟨q,by simp[hq],r⟩
 .rcases AAO.mp hq with hq|hq
  .exact h.all q hq t a
  .rw [AAU.mp hq] at a;exact absurd a (k t)
def cF {cs:zy C4}{lo hi:T3}{v:PV}{B:Nat}(hv:Lj cs v)(hc:∀c∈cs,Fa B c)(n:Ll cs)(h2:2<=cs.length)(hl:cs.length<=1000)(D:Cq 201 lo)(E:Cq 201 hi)(F:6*B+205<=1400){Q:PV->Prop}(q:∀ss,Ca (3*(6*B+205)+1) lo hi (Fu cs) ss->Q (.lst (ss.map Ao))):ED [v,JY lo hi] Q:=by
 have M:(Fu cs).length=cs.length-1:=by unfold Fu;simp
 apply Ph;ac_rfl;refine lN hv hc n h2 hl (by omega) ?_;ac_rfl;refine CQ (λp:C4×C4=>JC p.1 p.2) (λus vs τ=>∃ss a d,Ca (3*(6*B+205)+1) lo hi us ss/\τ= [some (.val v),some (.val (JY lo hi)),some (.own (ss.map Ao)),a,d]) ?_ ?_ ⟨[],_,_,⟨by simp,by simp,by simp⟩,rfl⟩
 .rintro τ ⟨ss,a,d,h,rfl⟩;ac_rfl;exact q ss h
 .rintro us p vs e τ R i ⟨ss,a,d,h,rfl⟩;obtain⟨m1,m2,m3⟩:=FE n (p:=p) (by rw[<-e];simp);have ul:us.length<=1000:=by have:=congrArg List.length e;simp at this;omega
  have N:=h.len;ac_rfl;refine ZV (hc _ m1) (hc _ m2) m3 D E F λo hp=> ?_;obtain⟨u,w,G⟩:=hp.mem;have y:∀p∈o,IH (3*(6*B+205)+1) p:=λp hp=>by obtain⟨f,_,r⟩:=u p hp;exact r.ok
  have z:o.length<=100:=by rw[G];exact AAt rfl
  ac_rfl;refine au rfl y (by omega) z ?_ ?_ ?_ (λl h' A C H I J=> ?_) (λb K=> ?_)
  .obtain ⟨j,h0,k⟩:=w (-p.1.1,1,0) (by simp[Q1]);exact⟨j,h0,k.sign.1.mpr (by show (0:Rat)<1;decide)⟩
  .obtain ⟨j,h0,k⟩:=w (p.2.1, -1,1) (by simp[Q1]);exact⟨j,h0,k.sign.2.mpr (by show (-1:Rat)<0;decide)⟩
  .intro x hx h0;obtain⟨f,m,r⟩:=u x hx;have:=r.sign.2.mp h0;rw[r.s];unfold Q1 at m;simp only[AAF,AAj,AAh] at m;rcases m with rfl|rfl|rfl|rfl|rfl|rfl|rfl|rfl
   .exact absurd this (by show ¬(1:Rat)<0;decide)
   all_goals rfl
  .have st:=Uo hp A C H I J;ac_rfl;refine ck rfl y (by omega) z A C ?_;have g:∀a d,R [some (.val v),some (.val (JY lo hi)),some (.own ((ss ++ [(Dr l,1-l.s,some (Dr h'))]).map Ao)),a,d] :=λa d=>i _ ⟨_,a,d,h.more st,rfl⟩;clear i;rw[AAP] at g;ac_rfl;exact g _ _
  .have g:∀a d,R [some (.val v),some (.val (JY lo hi)),some (.own (ss.map Ao)),a,d] :=λa d=>i _ ⟨_,a,d,h.less λt L=>K t ((Rk hp t).mpr L),rfl⟩;clear i;ac_rfl;exact g _ _
def Ca.st {N:Nat}{lo hi:T3}{us:zy (C4×C4)}{ss:zy Ar}(h:Ca N lo hi us ss):∀s∈ss,A8 N s:=λs hs=>let ⟨_,_,k⟩:=h.ok s hs;k.ok
def dY {cs:zy C4}{lo hi b:T3}{v w:PV}{B:Nat}(hv:e5 cs b v)(hw:S4 lo hi w)(hc:∀c∈cs,Fa B c)(o:Ll cs)(h2:2<=cs.length)(hl:cs.length<=400)(e:Cq 100 lo)(f:Cq 100 hi)(g:Cq 100 b)(r:0<=b.2.2)(t:6*B+205<=1266){Q:PV->Prop}(q:∀ss,Ca (3*(6*B+205)+1) (lo.1-b.1,lo.2.1-b.1,lo.2.2-b.2.1) (hi.1+b.1,hi.2.1+b.1,hi.2.2+b.2.1) (Fu cs) ss->Q (.tup ((canon 1 (ss.map (Gk b.2.2))).map Ao))):Hg [v,w] Q:=by
 obtain⟨p,u,hp,hu,hv⟩:=hv;have A:(Fu cs).length=cs.length-1:=by unfold Fu;simp
 have h:=e.x;have i:=e.y;have j:=e.z;have k:=f.x;have l:=f.y;have m:=f.z;have a:=g.x;have d:=g.y;have n:=g.z;apply Za;rcases hv with rfl|rfl
 .ac_rfl;refine Ut hw hu e f g ?_;ac_rfl;refine cF hp hc o h2 (by omega) ⟨(h.sub a).mono (by decide),(i.sub a).mono (by decide),(j.sub d).mono (by decide)⟩ ⟨(k.add a).mono (by decide),(l.add a).mono (by decide),(m.add d).mono (by decide)⟩ (by omega) λss hs=> ?_;have s:=hs.len;ac_rfl;refine(Dk hu).2.2 ?_;ac_rfl;exact Tu (.inr rfl) (Ed ss) hs.st (by omega) r n (by omega) (q ss hs)
 .ac_rfl;refine Ut hw hu e f g ?_;ac_rfl;refine cF hp hc o h2 (by omega) ⟨(h.sub a).mono (by decide),(i.sub a).mono (by decide),(j.sub d).mono (by decide)⟩ ⟨(k.add a).mono (by decide),(l.add a).mono (by decide),(m.add d).mono (by decide)⟩ (by omega) λss hs=> ?_;have s:=hs.len;ac_rfl;refine(Dk hu).2.2 ?_;ac_rfl;exact Tu (.inr rfl) (Ed ss) hs.st (by omega) r n (by omega) (q ss hs)
instance{r:AA}{τ:A5}{a:zy PV->Prop}:Wp (rG r τ a) (r τ λb=>match b with | [.lst xs] =>a (Dv 0 xs)|_=>False):=⟨id⟩
abbrev Ff:AS:=
 (AY (HA (E9 (Aw (AW Yx (aV 3) (aC (.int 0)))) (Aw (AN 2 A1 (AB (aV 2) (AB (AW Am (aV 1) (AW HC (aV 3) (aC (.int 1)))) AL))))) (Aj (AW HC (aV 3) (aC (.int 1))) (Ak 3)))
   (CN (S7 (VQ (Aw (AW Ln (aV 3) (aC (.int 0)))) (Aw (AW Yy (AW Am (aV 1) (AW HC (aV 3) (aC (.int 1)))) (aV 2))))) (Db 1 bZ (AB (aV 3) (AB (aV 2) AL))) BU))
abbrev Gx:AS:=
 (AY (Aj (S6 (F2 IJ (AB (aV 1) AL))) (Ak 3))
   Ff)
abbrev Gy:AS:=
 (AY (EH (Gj (aV 0)) (Ak 2) Gx)
   (As (aV 1)))
abbrev E2:AS:=
 (AY (Gf (DE AL) 1)
   Gy)
def BL:AF:=An 4 E2
def IM {a:PV}{Q:PV->Prop}(h:E2 ⟨λ_=>Q .non,Q,λ_=>False,λ_=>False⟩ [some (.val a),none,none,none]):BL [a] Q:=h
abbrev Gv:AS:=
 (As (Ea (Bx (iZ (AB (aV 0) (AB (Zs (aV 0) (Zu (aC (.int 1))) Zt) AL))) 2 [] (Jb 2 (Ad (Ak 0) (Ad (Ak 1) B0))) DW (AN 2 Bw (AB (AN 2 BN (AB (aV 0) (AB (aV 1) AL))) (AB (A9 (AB (aC (.int 1)) (AB (aC (.int 2)) AL))) AL))))))
def Bu:AF:=An 1 Gv
def LM {a:PV}{Q:PV->Prop}(h:Gv ⟨λ_=>Q .non,Q,λ_=>False,λ_=>False⟩ [some (.val a)]):Bu [a] Q:=h
abbrev Jj:AS:=
 (AY (Db 3 Gh (AB (AW BS (aV 4) (A9 (AB (aV 6) AL))) AL))
   (Aj (aC .non) (Ak 4)))
abbrev G0:AS:=
 (AY (CN (E9 (Aw (AW II (aV 4) (aC .non))) (Aw (AW Am (aV 1) (aV 5)))) (Aj (A9 (AB (aV 6) (AB (aC (.int 1)) AL))) (Ak 4)) BU)
   (CN (E9 (Aw (AW II (aV 4) (aC .non))) (Aw (AW Am (AW BS (aV 2) (Ea (DE (AB (aC (.bl false)) AL)))) (aV 5)))) (Aj (A9 (AB (aV 6) (AB (aC (.int 0)) AL))) (Ak 4)) BU))
abbrev Jk:AS:=
 (AY (CN (E9 (Aw (AW QC (aV 4) (aC .non))) (NX (Aw (AW Am (aV 1) (aV 5))))) Jj BU)
   G0)
abbrev Jm:AS:=
 (AY (EH (rG (AB (aV 0) AL)) (Jb 2 (Ad (Ak 5) (Ad (Ak 6) B0))) Jk)
   (As (F2 Dm (AB (aV 3) AL))))
abbrev Jl:AS:=
 (AY (Aj (aC .non) (Ak 4))
   Jm)
abbrev Gz:AS:=
 (AY (Gf (DE AL) 3)
   Jl)
def BM:AF:=An 7 Gz
def LN {a b c:PV}{Q:PV->Prop}(h:Gz ⟨λ_=>Q .non,Q,λ_=>False,λ_=>False⟩ [some (.val a),some (.val b),some (.val c),none,none,none,none]):BM [a,b,c] Q:=h
def fu {qs:zy Rat}{x:Rat}{k:Nat}(hs:Ux qs)(hk:k<=qs.length)(hi:∀q∈qs.drop k,x<q)(lo:∀c,qs[k-1]? =some c->0<k->c<x):ins qs x=qs.take k++x::qs.drop k:=by
 have a:At qs x k:=by
  refine⟨hk,λq hq=> ?_,λq hq=>by have:=hi q hq;grind⟩;by_cases b:k=0
  .subst b;simp at hq
  .have e:qs[k-1]? =some qs[k-1] :=AAT (by omega);have:=SY hs e (lo _ e (by omega));rw[show k-1+1=k by omega] at this;exact this q hq
 rw[VS hs a,AAD];intro e;have:x∈qs.drop k:=by have:=ACX (xs:=qs) (i:=k) (j:=0);rw[Nat.add_zero,e] at this;exact ABm this
 have:=hi x this;grind
def LJ {xs:zy Rat}{B:Nat}(hl:xs.length<=1000)(hx:∀x∈xs,Bd B x)(E:B<=4000){Q:PV->Prop}(q:Q (.lst ((BA xs).map fr))):BL [.lst (xs.map fr)] Q:=by
 apply IM;ac_rfl;refine CQ fr (λus vs τ=>∃b f,τ= [some (.val (.lst (xs.map fr))),some (.own ((BA us).map fr)),b,f]) ?_ ?_ ⟨_,_,rfl⟩
 .rintro τ ⟨b,f,rfl⟩;repeat' array_get_dec
  exact q
 .rintro us x vs e τ R o ⟨b,f,rfl⟩;have F:=hx x (by rw[<-e];simp);have l:∀b f,R [some (.val (.lst (xs.map fr))),some (.own ((ins (BA us) x).map fr)),b,f] :=λb f=>o _ ⟨b,f,by rw[cy];rfl⟩;clear o q;have u:∀c∈BA us,Bd B c:=λc hc=>hx c (by rw[<-e];exact ABw _ (Ax.mp hc));have G:(BA us).length<=1000:=by have:=DR (xs:=us);have:=congrArg List.length e;simp only[AAg,AAc] at this;omega
  have qs:=Bl (xs:=us);generalize BA us=ks at *;ac_rfl;refine d4 (λn τ=>∃k:Nat,n=k+1/\k<=ks.length/\(∀q∈ks.drop k,x<q)/\τ= [some (.val (.lst (xs.map fr))),some (.own (ks.map fr)),some (.val (fr x)),some (.val (.int k))]) ?_ ?_ (n:=ks.length+1) ⟨ks.length,rfl,AAJ _,by simp,by simp⟩
  .rintro n τ R2 v ⟨k,w,hk,hi,rfl⟩;rw[show frz [some (AV.val (PV.lst (xs.map fr))),some (AV.own (ks.map fr)),some (AV.val (fr x)),some (AV.val (PV.int k))] = [some (AV.val (PV.lst (xs.map fr))),some (AV.val (.lst (ks.map fr))),some (AV.val (fr x)),some (AV.val (PV.int k))] from rfl];have a:(∀c,ks[k-1]? =some c->0<k->c<x)->R [some (.val (.lst (xs.map fr))),some (.own (List.take (k:Int).toNat (ks.map fr)++fr x::List.drop (k:Int).toNat (ks.map fr))),some (.val (fr x)),some (.val (.int k))] :=λlo=>by have:=l (some (.val (fr x))) (some (.val (.int k)));rw[fu qs hk hi lo,AAP,AAK,AC6,ACQ] at this;exact this
   have keep:x∈ks->R [some (.val (.lst (xs.map fr))),some (.own (ks.map fr)),some (.val (fr x)),some (.val (.int k))] :=λh=>by have:=l (some (.val (fr x))) (some (.val (.int k)));rw[bP qs h] at this;exact this
   ac_rfl
   .rename_i y c p hc;have H:=u c hc;have y:0<k:=by omega
    have g:ks[k-1]? =some c:=by rw[show ((k:Int)-1).toNat=k-1 by omega] at p;exact p
    have z:ks.drop (k-1)=c::ks.drop k:=by obtain⟨h1,h2⟩:=AA0.mp g;rw[ABn h1,h2,show k-1+1=k by omega]
    have A:x<c->R2 [some (.val (.lst (xs.map fr))),some (.own (ks.map fr)),some (.val (fr x)),some (.val (.int (k-1)))] :=λC=>v _ ⟨k-1,by omega,by omega,by
     intro q hq;rw[z] at hq;rcases AAF.mp hq with h|h
     .rw [h];exact C
     .exact hi q h,by rw[show ((k-1:Nat):Int)=(k:Int)-1 by omega]⟩
    ac_rfl
    .exact A (by assumption)
    .exact a λ_ _ _=>by exfalso;omega
    .rename_i m _ j i r s;have D:j=c:=by rw[show ((k:Int)-1).toNat=k-1 by omega,g] at i;exact(AAY i).symm
     subst D;exact a λd hd _=>by rw[g] at hd;cases hd;have s:¬j=x:=s;have m:¬x<j:=m;grind
    .rename_i m _ j i r t;have t:j=x:=by by_cases h:j=x <;> simp_all
     exact keep (t ▸ r)
   .exact a λ_ _ _=>by exfalso;omega
   .exact a λ_ _ _=>by exfalso;omega
   .exfalso;omega
  .rintro τ ⟨k,w,_⟩;omega
abbrev Tr:=Rat×km×km
def jO (t:Tr):zy (Pl×km):= [((t.1,0),t.2.1),((t.1,1),t.2.2)]
def Bz (T:zy Tr):zy Ar×zt Pl:=(T.flatMap jO).foldl stepI ([],none)
def Ep (T:zy Tr)(t:Tr):Bz (T ++ [t])=stepI (stepI (Bz T) ((t.1,0),t.2.1)) ((t.1,1),t.2.2):=by unfold Bz;rw[List.flatMap_append,ABg];rfl
theorem QE:∀(T:zy Tr),(T.flatMap jO).length=2*T.length
 | [] =>rfl
 | t::T=>by rw[AB9,AAg,QE T,AAc];simp[jO];omega
def bW {us vs:zy PV}{x:PV}{R:PV->Prop}(h:R x):Am (.lst (us++x::vs)) (.int us.length) R:=by show eM (Jc (us++x::vs) (us.length:Nat)) R;rw[show Jc (us++x::vs) ((us.length:Nat):Int)=some x from Ck (j:=us.length) (by simp)];exact h
def dA {T:zy Tr}{gs:zy km}(p:T= [] \/gs ++ [false] =T.map (·.2.2))(mono:∀t∈T,t.2.1=true->t.2.2=true)(hl:T.length<=1000)(k:(Bz T).2=none){Q:PV->Prop}(q:Q (.tup ((Cc (T.flatMap jO)).map Ao))):BM [.lst (T.map λt=>fr t.1), .lst (T.map λt=> .bl t.2.1), .lst (gs.map .bl)] Q:=by
 apply LN;ac_rfl;show DQ _ _ _ (Dv 0 (T.map λt=>fr t.1)) _;refine Hm (λr τ=>∃us vs f i,us++vs=T/\r=Dv us.length (vs.map λt:Tr=>fr t.1)/\τ= [some (.val (.lst (T.map λt=>fr t.1))),some (.val (.lst (T.map λt=> .bl t.2.1))),some (.val (.lst (gs.map .bl))),some (.own ((Bz us).1.map Ao)),some (.val (Yk (Bz us).2)),f,i]) ?_ ?_ _ _ ⟨[],T,_,_,rfl,rfl,rfl⟩
 .rintro τ ⟨us,vs,f,i,e,l,rfl⟩;cases vs with
  | cons a b=>simp[Dv] at l
  | nil=>
    rw[ABU] at e;subst e;repeat' array_get_dec
    have v:Cc (us.flatMap jO)=(Bz us).1:=by unfold Cc Nk;show (match (Bz us).2 with | none=>(Bz us).1|some b=>(Bz us).1 ++ [(b.1,1-b.2,none)])=_;rw[k]
    rw[v] at q;exact q
 .rintro y r τ R s ⟨us,vs,f,i,e,l,rfl⟩;cases vs with
  | nil=>simp[Dv] at l
  | cons t vs=>
    rw[AAK,Dv] at l;obtain⟨rfl,rfl⟩:=List.cons.inj l;have mt:=mono t (by rw[<-e];simp);have es:=Ep us t;have u:(Bz us).1.length<=2000:=by have h:=Hl (us.flatMap jO) ([],none);rw[QE] at h;have:=congrArg List.length e;simp only[AAg,AAc] at this;have h:(Bz us).1.length<=0+_:=h;omega
    have c:∀{j:PV->Prop},j (.bl t.2.1)->Am (.lst (T.map λt=> .bl t.2.1)) (.int us.length) j:=λ{j} h=>by rw[<-e,AAP,AAK];have:=bW (us:=us.map λt=>PV.bl t.2.1) (vs:=vs.map λt=>PV.bl t.2.1) h;rw[AAI] at this;exact this
    have n:∀{j:PV->Prop},j (.bl t.2.2)->Am (.lst (gs.map PV.bl ++ [.bl false])) (.int us.length) j:=λ{j} h=>by
     have o:gs.map PV.bl ++ [.bl false] =T.map λt=>PV.bl t.2.2:=by
      rcases p with h0|h0
      .rw [h0] at e;simp at e
      .have:=congrArg (List.map PV.bl) h0;rw[AAP,AAe] at this;exact this
     rw[o,<-e,AAP,AAK];have:=bW (us:=us.map λt=>PV.bl t.2.2) (vs:=vs.map λt=>PV.bl t.2.2) h;rw[AAI] at this;exact this
    have gl:gs.length<=1000:=by
     rcases p with h0|h0
     .rw [h0] at e;simp at e
     .have:=congrArg List.length h0;simp only[AAg,AAI,AAc,AC8] at this;omega
    have d:∀L2 b2 f i,(L2,b2)=stepI (stepI (Bz us) ((t.1,0),t.2.1)) ((t.1,1),t.2.2)->R [some (.val (.lst (T.map λt=>fr t.1))),some (.val (.lst (T.map λt=> .bl t.2.1))),some (.val (.lst (gs.map .bl))),some (.own (L2.map Ao)),some (.val (Yk b2)),f,i] :=λL2 b2 f i h=>s _ ⟨us ++ [t],vs,f,i,by simpa using e,by simp,by rw[es,<-h]⟩;clear s;generalize Bz us=st at *;obtain⟨A,b⟩:=st;obtain⟨m,h,g⟩:=t;have u:A.length<=2000:=u;cases b with
    | none=>
      rw[show Yk (A,(none:zt Pl)).2= .non from rfl];cases h with
      | true=> have o:g=true:=mt rfl;subst o;ac_rfl;refine c ?_;ac_rfl;exact d A (some (m,0)) _ _ rfl
      | false=>
        ac_rfl;refine c ?_;ac_rfl;refine n ?_;cases g with
        | true=> ac_rfl;exact d A (some (m,1)) _ _ rfl
        | false=> ac_rfl;exact d A none _ _ rfl
    | some b=>
      rw[show Yk (A,some b).2= .tup [fr b.1, .int (1-b.2)] from rfl];cases h with
      | true=> have o:g=true:=mt rfl;subst o;ac_rfl;refine c ?_;ac_rfl;exact d A (some b) _ _ rfl
      | false=>
        have f1:=λb2 f i=>d (A ++ [(b.1,1-b.2,some m)]) b2 f i;rw[AAP] at f1;ac_rfl;refine c ?_;ac_rfl;refine c ?_;ac_rfl;refine n ?_;cases g with
        | true=> ac_rfl;exact f1 (some (m,1)) _ _ rfl
        | false=> ac_rfl;exact f1 none _ _ rfl
def J9 (qs:zy Rat):zy Rat:=(qs.zip (qs.drop 1)).map λp=>(p.1+p.2)*(1/2:Rat)
def LA {qs:zy Rat}(hl:qs.length<=1000)(hb:∀x∈qs,Bd 1000 x){Q:PV->Prop}(q:Q (.lst ((J9 qs).map fr))):Bu [.lst (qs.map fr)] Q:=by
 apply LM;ac_rfl;rw[rH,<-ACQ,mU];have a:∀p∈qs.zip (qs.drop 1),Bd 1000 p.1/\Bd 1000 p.2:=λp hp=>⟨hb _ (ABl hp).1,hb _ (List.mem_of_mem_drop (ABl hp).2)⟩;refine⟨lt_size (n:=1000) (by simp;omega) (by decide), ?_⟩;refine CP (λp:Rat×Rat=> .tup [fr p.1,fr p.2]) fr (λp=>(p.1+p.2)*(1/2:Rat)) (λp=>Bd 1000 p.1/\Bd 1000 p.2) (λp hp R h=> ?_) _ [] a ?_
 .obtain ⟨b,b2⟩:=hp;have bs:=b.add b2;have c:Bd 3 ((1/2:Rat)):=⟨by decide +kernel,by decide +kernel⟩;ac_rfl;exact h
 .rw [AAl];exact q
theorem Tz {f g:Rat->km}:∀(qs:zy Rat),qs≠ [] ->(∀us q c vs,us++q::c::vs=qs->f ((q+c)*(1/2:Rat))=g q)->(∀us q,us ++ [q] =qs->g q=false)->(J9 qs).map f ++ [false] =qs.map g
 | [],h,_,_=>absurd rfl h
 | [q],_,_,h=>by have:=h [] q rfl;simp[J9,this]
 | q::c::r,_,h1,h2=>by have ih:=Tz (f:=f) (g:=g) (c::r) (by simp) (λus a b vs e=>h1 (q::us) a b vs (by rw[<-e];rfl)) (λus a e=>h2 (q::us) a (by rw[<-e];rfl));have d:=h1 [] q c r rfl;have i:J9 (q::c::r)=(q+c)*(1/2:Rat)::J9 (c::r):=rfl;rw[i,AAK,ADh,ih,d];rfl
def YK {us vs:zy Rat}{q a:Rat}(hs:Ux (us++q::a::vs)):q<a/\∀x∈us++q::a::vs,¬q<x\/¬x<a:=by
 obtain⟨h1,h2,b⟩:=AB6.mp hs;obtain⟨c,d⟩:=AAN.mp h2;obtain⟨e,f⟩:=AAN.mp d;refine⟨c a (by simp),λx hx=> ?_⟩;rcases AAO.mp hx with h|h
 .have:=b x h q (by simp);exact .inl (by grind)
 .rcases AAF.mp h with rfl|h
  .exact .inl (by grind)
  .rcases AAF.mp h with rfl|h
   .exact .inr (by grind)
   .have:=e x h;exact .inr (by grind)
def Og {us:zy Rat}{q:Rat}(hs:Ux (us ++ [q])):∀x∈us ++ [q],¬q<x:=λx hx=>by
 obtain⟨h1,h2,a⟩:=AB6.mp hs;rcases AAO.mp hx with h|h
 .have:=a x h q (by simp);grind
 .rw [AAU.mp h];grind
abbrev Mx:AS:=
 (As (VN (AW Ln (aV 0) (aV 1)) (AW Ln (F2 TQ (AB (aV 0) AL)) (F2 TQ (AB (aV 1) AL)))))
def Ct:AF:=An 2 Mx
theorem Nn:∀(n:Nat) (T:zy Tr),T.length=n->(T.map (·.1)).Pairwise (· < ·)->(∀t∈T,t.2.1=true->t.2.2=true)->(∀r∈(Bz T).1,r.1∈T.map (·.1)/\∃e,r.2.2=some e/\e∈T.map (·.1))/\(∀b,(Bz T).2=some b->b.1∈T.map (·.1))/\(Bz T).1.Pairwise λr j=>∀e c,r.2.2=some e->j.2.2=some c->¬c<e
 | 0,T,h,_,_=>by have:T= [] :=ABh.mp h;subst this;exact⟨by simp[Bz],by simp[Bz],by simp[Bz]⟩
 | n+1,T,h,hs,mo=>by
   obtain⟨us,t,rfl⟩:∃us t,T=us ++ [t] :=by
    have h0:T≠ [] :=λz=>by rw[z] at h;simp at h
    exact⟨T.dropLast,T.getLast h0,(ABs h0).symm⟩
   rw[AAP] at hs;obtain⟨h1,h2,y⟩:=AB6.mp hs;obtain⟨k,B,d⟩:=Nn n us (by simpa using h) h1 (λt C=>mo t (by simp[C]));have D:∀x∈us.map (·.1),x<t.1:=λx hx=>y x hx t.1 (by simp);rw[Ep];generalize Bz us=st at *;obtain⟨A,b⟩:=st;obtain⟨m,a,g⟩:=t;have mt:a=true->g=true:=mo (m,a,g) (by simp);have k:∀r∈A,r.1∈us.map (·.1)/\∃e,r.2.2=some e/\e∈us.map (·.1):=k;have f:∀r∈A,r.1∈(us ++ [(m,a,g)]).map (·.1)/\∃e,r.2.2=some e/\e∈(us ++ [(m,a,g)]).map (·.1):=λr i=>by obtain⟨E,e,l,p⟩:=k r i;rw[AAP];exact⟨ABw _ E,e,l,ABw _ p⟩
   have o:m∈(us ++ [(m,a,g)]).map (·.1):=by simp
   cases b with
   | none=>
     cases a with
     | true=> have:g=true:=mt rfl;subst this;exact⟨f,λb hb=>by simp[stepI] at hb;rw[<-hb];exact o,d⟩
     | false=>
       cases g with
       | true=>exact⟨f,λb hb=>by simp[stepI] at hb;rw[<-hb];exact o,d⟩
       | false=>exact⟨f,λb hb=>by simp[stepI] at hb,d⟩
   | some b=>
     have F:b.1∈us.map (·.1):=B b rfl;have s:b.1∈(us ++ [(m,a,g)]).map (·.1):=by rw[AAP];exact ABw _ F
     have u:∀r∈A ++ [(b.1,1-b.2,some m)],r.1∈(us ++ [(m,a,g)]).map (·.1)/\∃e,r.2.2=some e/\e∈(us ++ [(m,a,g)]).map (·.1):=λr i=>by
      rcases AAO.mp i with h|h
      .exact f r h
      .rw [AAU.mp h];exact⟨s,m,rfl,o⟩
     have v:(A ++ [((b.1,1-b.2,some m):Ar)]).Pairwise λr j=>∀e c,r.2.2=some e->j.2.2=some c->¬c<e:=by refine AB6.mpr ⟨d,by simp,λr i j G e c he w=> ?_⟩;rw[AAU.mp G] at w;cases w;obtain⟨_,H,l,p⟩:=k r i;rw[he] at l;cases l;have:=D e p;grind
     cases a with
     | true=> have:g=true:=mt rfl;subst this;exact⟨f,λb hb=>by simp[stepI] at hb;rw[<-hb];exact s,d⟩
     | false=>
       cases g with
       | true=>exact⟨u,λb hb=>by simp[stepI] at hb;rw[<-hb];exact o,v⟩
       | false=>exact⟨u,λb hb=>by simp[stepI] at hb,v⟩
def VI (st:zy Ar×zt Pl):Prop:=(∀r∈st.1,r.2.1=0\/r.2.1=1)/\∀b,st.2=some b->b.2=0\/b.2=1
def QI {st:zy Ar×zt Pl}{x:Pl×km}(h:VI st)(hx:x.1.2=0\/x.1.2=1):VI (stepI st x):=by
 obtain⟨A,b⟩:=st;obtain⟨p,c⟩:=x;obtain⟨h1,h2⟩:=h;cases b with
 | none=>
   cases c with
   | true=>exact⟨h1,λb hb=>by simp[stepI] at hb;rw[<-hb];exact hx⟩
   | false=>exact⟨h1,h2⟩
 | some b=>
   have hb:=h2 b rfl;cases c with
   | true=>exact⟨h1,h2⟩
   | false=>
     refine⟨λr a=> ?_,λb hb=>by simp[stepI] at hb⟩;have a:r∈A ++ [(b.1,1-b.2,some p.1)] :=a;rcases AAO.mp a with h|h
     .exact h1 r h
     .rw [AAU.mp h];show 1-b.2=0\/1-b.2=1;omega
theorem Np:∀(n:Nat) (T:zy Tr),T.length=n->VI (Bz T)
 | 0,T,h=>by have:T= [] :=ABh.mp h;subst this;exact⟨by simp[Bz],by simp[Bz]⟩
 | n+1,T,h=>by
   obtain⟨us,t,rfl⟩:∃us t,T=us ++ [t] :=by
    have h0:T≠ [] :=λz=>by rw[z] at h;simp at h
    exact⟨T.dropLast,T.getLast h0,(ABs h0).symm⟩
   rw[Ep];exact QI (QI (Np n us (by simpa using h)) (.inl rfl)) (.inr rfl)
def lw {s:Ar}(b:Bd 740 s.1)(k:s.2.1=0\/s.2.1=1)(e:∃e,s.2.2=some e/\Bd 740 e):Sh 2 13000 (Ao s)/\Sh 2 13000 (cz s):=by obtain⟨ev,he,c⟩:=e;obtain⟨a,i,o⟩:=s;have he:o=some ev:=he;subst he;have k:i=0\/i=1:=k;have hi:Sh 1 4000 (.int i):=(Sh.int (by rcases k with rfl|rfl <;> decide)).mono (by decide) (by decide);exact⟨(Sh.tup (gG (Sh.fr (b.mono (by decide))) hi (Sh.fr (c.mono (by decide))))).mono (by decide) lz,(Sh.lst (gG (Sh.fr (b.mono (by decide))) hi (Sh.fr (c.mono (by decide))))).mono (by decide) lz⟩
def c5 {x:PV}{Q:PV->Prop}(a:PB x)(hq:N1 x=true)(q:Q (.bl true)):Ct [x,x] Q:=by
 have e:=ao a.ok;have b:∀c,c=true->Q (.bl c):=λc e=>by rw[e];exact q
 have go:eJ (.bl (ie x x)) λc=>if c=true then AW Ln (F2 TQ (AB (aV 0) AL)) (F2 TQ (AB (aV 1) AL)) [some (.val x),some (.val x)] Q else Q (.bl false):=by rw[e];exact db a hq (db a hq (b _ (AAo rfl)))
 cases x with
 | tup xs=>exact⟨⟨a.ok,a.ok⟩,go⟩
 | lst xs=>exact⟨⟨a.ok,a.ok⟩,go⟩
 | _=>simp[N1] at hq
abbrev Mm:AS:=
 (As (F2 Dm (AB (Ea (Bx (Gj (aV 0)) 1 [] (Ak 0) DW (AW BS (A9 (AB (AN 2 BN (AB (AW Am (aV 0) (aC (.int 0))) (AB (A9 (AB (AW nZ (aC (.int 10)) (aC (.int 18))) (AB (aC (.int 1)) AL))) AL))) AL)) (Zs (aV 0) (Zu (aC (.int 1))) Zt)))) AL)))
def Eg:AF:=An 1 Mm
def Ro {a:PV}{Q:PV->Prop}(h:Mm ⟨λ_=>Q .non,Q,λ_=>False,λ_=>False⟩ [some (.val a)]):Eg [a] Q:=h
abbrev IZ:AS:=
 (AY (Aj (AN 2 BN (AB (AN 1 Cu (AB (aV 0) AL)) (AB (AW Am (Ea (DE (AB (A9 (AB (aC (.int 0)) (AB (aC (.int 1)) AL))) (AB (A9 (AB (aC (.int 4)) (AB (aC (.int 1)) AL))) (AB (A9 (AB (aC (.int 12)) (AB (aC (.int 1)) AL))) AL))))) (AN 2 BB (AB (aV 0) (AB (aC (.int 3)) AL)))) AL))) (Ak 4))
   (Db 2 Gh (AB (AN 2 BN (AB (aV 3) (AB (aV 4) AL))) AL)))
abbrev Ib:AS:=
 (AY (EH (Gj (aV 1)) (Ak 3) IZ)
   (As (A9 (AB (AW Am (Ea (DE (AB (aC (.str "a")) (AB (aC (.str "room")) (AB (aC (.str "abcdefgh")) AL))))) (AN 2 BB (AB (aV 0) (AB (aC (.int 3)) AL)))) (AB (F2 Dm (AB (aV 1) AL)) (AB (F2 Dm (AB (aV 2) AL)) (AB (AW BS (aC (.int 1)) (AN 2 BB (AB (aV 0) (AB (aC (.int 4)) AL)))) AL)))))))
abbrev Ia:AS:=
 (AY (Gf (DE AL) 2)
   Ib)
abbrev GV:AS:=
 (AY (Aj (Ea (Bx (NY (AB (aC (.int 3)) AL)) 1 [0] (Ak 0) DW (AN 2 BY (AB (AN 1 BD (AB (aV 1) AL)) (AB (AW Am (Ea (DE (AB (A9 (AB (aC (.int 0)) (AB (aC (.int 1)) AL))) (AB (A9 (AB (aC (.int 3)) (AB (aC (.int 1)) AL))) (AB (A9 (AB (aC (.int 9)) (AB (aC (.int 1)) AL))) AL))))) (AN 2 BB (AB (aV 1) (AB (aC (.int 3)) AL)))) AL))))) (Ak 1))
   Ia)
def CV:AF:=An 5 GV
def KP {a:PV}{Q:PV->Prop}(h:GV ⟨λ_=>Q .non,Q,λ_=>False,λ_=>False⟩ [some (.val a),none,none,none,none]):CV [a] Q:=h
abbrev Hx:AS:=
 (AY (Aj (AN 2 C6 (AB (AN 2 BY (AB (aV 8) (AB (AW Am (aV 4) (AW BS (AW TN (aV 7) (aC (.int 3))) (aC (.int 1)))) AL))) (AB (aV 9) AL))) (Ak 10))
   (CN (E9 (Aw (AN 2 A1 (AB (A9 (AB (aC (.int 0)) (AB (aC (.int 1)) AL))) (AB (aV 10) AL)))) (Aw (AN 2 A1 (AB (aV 10) (AB (A9 (AB (aC (.int 1)) (AB (aC (.int 1)) AL))) AL))))) (Db 3 Gh (AB (AN 2 BN (AB (AW Am (aV 4) (aC (.int 0))) (AB (AN 2 Bw (AB (aV 10) (AB (aV 6) AL))) AL))) AL)) BU))
abbrev Hy:AS:=
 (AY (Aj (AN 2 BY (AB (AW Am (aV 5) (AW BS (AW TN (aV 7) (aC (.int 3))) (aC (.int 1)))) (AB (AW Am (aV 4) (AW BS (AW TN (aV 7) (aC (.int 3))) (aC (.int 1)))) AL))) (Ak 9))
   (CN (Aw (AW Yy (AW Am (aV 9) (aC (.int 0))) (aC (.int 0)))) Hx BU))
abbrev Hz:AS:=
 (AY (Aj (AN 2 BY (AB (AW Am (aV 5) (aC (.int 0))) (AB (AW Am (aV 4) (aC (.int 0))) AL))) (Ak 6))
   (EH (jm (AB (AW BS (aV 1) (aV 2)) AL)) (Jb 2 (Ad (Ak 7) (Ad (Ak 8) B0))) Hy))
abbrev IA:AS:=
 (AY (EH (iZ (AB (aV 0) (AB (Zs (aV 0) (Zu (aC (.int 1))) Zt) AL))) (Jb 2 (Ad (Ak 4) (Ad (Ak 5) B0))) Hz)
   (As (AN 1 BL (AB (aV 3) AL))))
abbrev Fe:AS:=
 (AY (Gf (Bx (Gj (aV 0)) 1 [] (Ak 0) DW (AW Am (aV 0) (aC (.int 0)))) 3)
   IA)
def CI:AF:=An 11 Fe
def JE {a b c:PV}{Q:PV->Prop}(h:Fe ⟨λ_=>Q .non,Q,λ_=>False,λ_=>False⟩ [some (.val a),some (.val b),some (.val c),none,none,none,none,none,none,none,none]):CI [a,b,c] Q:=h
abbrev Hw:AS:=
 (AY (CN (Aw (AW II (aV 4) (aC .non))) (As (aC (.bl false))) BU)
   (As (F2 (Vj λbs=>bs.all id) (AB (Ea (Bx (NY (AB (aC (.int 3)) AL)) 1 [1,4,2] (Ak 0) DW (VN (AN 2 A1 (AB (AW Am (aV 1) (aV 0)) (AB (AW Am (aV 2) (aV 0)) AL))) (AN 2 A1 (AB (AW Am (aV 2) (aV 0)) (AB (AW Am (aV 3) (aV 0)) AL)))))) AL))))
abbrev Hv:AS:=
 (AY (Aj (AN 2 E4 (AB (aV 0) (AB (aV 3) AL))) (Ak 4))
   Hw)
abbrev Fd:AS:=
 (AY (CN (NX (Aw (AN 2 A1 (AB (aV 3) (AB (AW Am (AW Am (aV 0) (Yj Nj (aC (.int 1)))) (aC (.int 0))) AL))))) (As (aC (.bl false))) BU)
   Hv)
def BX:AF:=An 5 Fd
def JD {a b c d:PV}{Q:PV->Prop}(h:Fd ⟨λ_=>Q .non,Q,λ_=>False,λ_=>False⟩ [some (.val a),some (.val b),some (.val c),some (.val d),none]):BX [a,b,c,d] Q:=h
abbrev Ot:AS:=
 (AY (Aj (Ea (Bx (Gj (aV 3)) 1 [0,1,2] (Ak 0) DW (AN 4 BX (AB (aV 1) (AB (aV 2) (AB (aV 3) (AB (aV 0) AL))))))) (Ak 4))
   (As (AN 3 BM (AB (aV 3) (AB (aV 4) (AB (Ea (Bx (Gj (AN 1 Bu (AB (aV 3) AL))) 1 [0,1,2] (Ak 0) DW (AN 4 BX (AB (aV 1) (AB (aV 2) (AB (aV 3) (AB (aV 0) AL))))))) AL))))))
abbrev Mn:AS:=
 (AY (Aj (AN 3 CI (AB (aV 0) (AB (aV 1) (AB (aV 2) AL)))) (Ak 3))
   Ot)
def Eh:AF:=An 5 Mn
def Rp {a b c:PV}{Q:PV->Prop}(h:Mn ⟨λ_=>Q .non,Q,λ_=>False,λ_=>False⟩ [some (.val a),some (.val b),some (.val c),none,none]):Eh [a,b,c] Q:=h
def aq {cs:zy C4}{B:Nat}(hl:cs.length<=1000)(hc:∀c∈cs,Fa B c)(d:B<=3000){Q:PV->Prop}(q:Q (Bb (laterC (10^18) cs))):Eg [Bb cs] Q:=by
 have bk:Bd 60 ((10:Rat)^18):=⟨by decide +kernel,by decide +kernel⟩;apply Ro;ac_rfl;refine CP cor cor (λc=>(c.1+10^18,c.2)) (Fa B) (λc a R b=> ?_) cs [] hc ?_
 .have bm:=a.m;ac_rfl;rw[show (((10:Int)^Int.toNat 18:Int):Rat)=10^18 by decide +kernel];exact b
 .rw [AAl];ac_rfl;exact q
def gx {Q:PV->Prop}(q:∀(s:Str) (lo hi:T3) (mo:Int),(s="a" \/s="room" \/s="abcdefgh")->Cq 40 lo->Cq 40 hi->1<=mo->mo<=4->Q (.tup [.str s,DB lo,DB hi, .int mo])):CV [.tape] Q:=by
 have r:∀{k:Int} {R:PV->Prop},0<=k->k<3->(∀x,Bd 8 x->R (fr x))->Am (.lst [fr 0,fr ((3:Int):Rat),fr ((9:Int):Rat)]) (.int k) R:=λh0 h1 h=>N2 (xs:= [0,((3:Int):Rat),((9:Int):Rat)]) h0 h1 λx hx=>h x (by
  simp only[AAF,AAj,AAh] at hx;rcases hx with rfl|rfl|rfl <;> exact⟨by decide +kernel,by decide +kernel⟩)
 have t:∀{k:Int} {R:PV->Prop},0<=k->k<3->(∀x,Bd 8 x->R (fr x))->Am (.lst [fr 0,fr ((4:Int):Rat),fr ((12:Int):Rat)]) (.int k) R:=λh0 h1 h=>N2 (xs:= [0,((4:Int):Rat),((12:Int):Rat)]) h0 h1 λx hx=>h x (by
  simp only[AAF,AAj,AAh] at hx;rcases hx with rfl|rfl|rfl <;> exact⟨by decide +kernel,by decide +kernel⟩)
 apply KP;ac_rfl;refine XN (λi b=>∃xs:zy Rat,xs.length=i/\(∀x∈xs,Bd 20 x)/\b=xs.map fr) (λb h=> ?_) (λi hi b R v h=> ?_) ⟨[],rfl,by simp,rfl⟩
 .obtain ⟨xs,g,c,rfl⟩:=h;obtain⟨x,y,z,rfl⟩:∃x y z,xs= [x,y,z] :=by
   match xs,g with
   | [x,y,z],_=>exact⟨x,y,z,rfl⟩
  have A:=c x (by simp);have j:=c y (by simp);have B:=c z (by simp);ac_rfl;refine CQ fr (λus vs τ=>∃hs:zy Rat,∃l m,hs.length=us.length/\(∀x∈hs,Bd 40 x)/\τ= [some (.val .tape),some (.val (.lst ([x,y,z].map fr))),some (.own (hs.map fr)),l,m]) ?_ ?_ ⟨[],_,_,rfl,by simp,rfl⟩
  .rintro τ ⟨hs,l,m,hl,hb,rfl⟩;obtain⟨C,D,E,rfl⟩:∃x y z,hs= [x,y,z] :=by
    match hs,hl with
    | [x,y,z],_=>exact⟨x,y,z,rfl⟩
   have n:=λs mo hs h1 h2=>q s (x,y,z) (C,D,E) mo hs ⟨A.mono (by decide),j.mono (by decide),B.mono (by decide)⟩ ⟨hb _ (by simp),hb _ (by simp),hb _ (by simp)⟩ h1 h2;ac_rfl;rename_i k d f;refine kM d f λu hu=> ?_;obtain⟨s,rfl,hs⟩:∃s:Str,u= .str s/\(s="a" \/s="room" \/s="abcdefgh"):=by
    simp only[AAF,AAj,AAh] at hu;rcases hu with rfl|rfl|rfl
    .exact ⟨_,rfl, .inl rfl⟩
    .exact ⟨_,rfl, .inr (.inl rfl)⟩
    .exact ⟨_,rfl, .inr (.inr rfl)⟩
   ac_rfl;exact n s _ hs (by omega) (by omega)
  .rintro us a vs e τ R2 F ⟨hs,l,m,hl,hb,rfl⟩;have o:Bd 20 a:=by
    have:a∈ [x,y,z] :=by rw[<-e];simp
    exact c a this
   have ul:us.length<=3:=by have:=congrArg List.length e;simp at this;omega
   ac_rfl;rename_i w G H k d f;refine t d f λu p=> ?_;ac_rfl;exact F _ ⟨hs ++ [a+(w+u)],_,_,by simp[hl],λx hx=>by
    rcases AAO.mp hx with hx|hx
    .exact hb x hx
    .rw [AAU.mp hx];exact(o.add (G.add p)).mono (by decide),by rw[AAP];rfl⟩
 .obtain ⟨xs,g,c,rfl⟩:=h;ac_rfl;rename_i a o k d f;refine r d f λu p=> ?_;ac_rfl;exact v _ ⟨xs ++ [a-u],by simp[g],λx hx=>by
   rcases AAO.mp hx with hx|hx
   .exact c x hx
   .rw [AAU.mp hx];exact(o.sub p).mono (by decide),by rw[AAP];rfl⟩
def KH (a b:C4)(r:zy C4):Fu (a::b::r)=(a,b)::Fu (b::r):=rfl
theorem RI:∀{cs:zy C4} {l:C4},Ll cs->cs.getLast?=some l->∀c∈cs,c.1<=l.1
 | [],_,_,e,_,_=>by cases e
 | [a],l,_,e,c,hc=>by cases e;rw[AAU.mp hc];exact ADK
 | a::b::r,l,h,e,c,hc=>by
   rw[ACS] at e;have h':=AAN.mp h;have ih:=RI h'.2 e;rcases AAF.mp hc with rfl|hc
   .have:=h'.1 b (by simp);have:=ih b (by simp);grind
   .exact ih c hc
def iG {lo hi:T3}{m:Rat}:∀(r:zy C4) (a b l:C4),Ll (a::b::r)->a.1<=m->(a::b::r).getLast?=some l->((∃t,spotG a (b::r) m=some t/\iV lo hi t)/\m<l.1↔∃p∈Fu (a::b::r),J4 lo hi p m):=by
 intro r;induction r with
 | nil=>
   intro a b l h ha e;cases e;have g:=(AAN.mp h).1 b (by simp);simp only[KH,show Fu [b] = [] from rfl,AAU,exists_eq_left,spotG];unfold J4;constructor
   .rintro ⟨⟨t,e,k⟩,d⟩;rw[AAD (by grind)] at e;cases e;exact⟨ha,d,k⟩
   .rintro ⟨_,d,k⟩;rw[AAD (by grind)];exact⟨⟨_,rfl,k⟩,d⟩
 | cons c r ih=>
   intro a b l h ha e;have h':=AAN.mp h;have g:=h'.1 b (by simp);have i:=(AAN.mp h'.2).1 c (by simp);have u:=RI h e b (by simp);have cl:=RI h e c (by simp);rw[ACS] at e;rw[KH];have f:m<b.1->∀p∈Fu (b::c::r),¬J4 lo hi p m:=λd p hp k=>by
    have q:=(FE h'.2 hp).1;have:b.1<=p.1.1:=by
     rcases AAF.mp q with z|z
     .rw [z];exact ADK
     .have:=(AAN.mp h'.2).1 _ z;grind
    have:=k.1;grind
   by_cases j:b.1<m
   .rw [show spotG a (b::c::r) m=spotG b (c::r) m by rw[spotG,AAE j],ih b c l h'.2 (by grind) e];constructor
    .rintro ⟨p,hp,k⟩;exact⟨p,by simp[hp],k⟩
    .rintro ⟨p,hp,k⟩;rcases AAF.mp hp with rfl|hp
     .exact absurd k.2.1 (by show ¬m<b.1;grind)
     .exact ⟨p,hp,k⟩
   .rw [show spotG a (b::c::r) m=some (inter a b m) by rw[spotG,AAD j]];by_cases n:m<b.1
    .constructor
     .rintro ⟨⟨t,e,k⟩,_⟩;cases e;exact⟨(a,b),by simp,ha,n,k⟩
     .rintro ⟨p,hp,k⟩;rcases AAF.mp hp with rfl|hp
      .exact ⟨⟨_,rfl,k.2.2⟩,by grind⟩
      .exact absurd k (f n p hp)
    .have d:m=b.1:=by grind
     subst d;have s:inter a b b.1=b.2:=Vy g;have o:inter b c b.1=b.2:=To i;rw[s];constructor
     .rintro ⟨⟨t,e,k⟩,_⟩;cases e;exact⟨(b,c),by rw[KH];simp,ADK,i,by rw[o];exact k⟩
     .rintro ⟨p,hp,k⟩;rcases AAF.mp hp with rfl|hp
      .exact absurd k.2.1 (by show ¬b.1<b.1;grind)
      .rw [KH] at hp;rcases AAF.mp hp with rfl|hp
       .refine ⟨⟨_,rfl, ?_⟩,by grind⟩;have:=k.2.2;rw[o] at this;exact this
       .exfalso;have q:=(FE (AAN.mp h'.2).2 hp).1;have:=(AAN.mp h'.2).1 _ q;have:=k.1;grind
def ZA {cs:zy C4}{lo hi:T3}{m:Rat}{B M:Nat}(hc:∀c∈cs,Fa B c)(d:Ll cs)(h2:2<=cs.length)(hl:cs.length<=1000)(g:Cq 100 lo)(i:Cq 100 hi)(bm:Bd M m)(G:M+6*B+10<=3900){Q:PV->Prop}(q:∀b:km,(b=true↔∃p∈Fu cs,J4 lo hi p m)->Q (.bl b)):BX [Bb cs,DB lo,DB hi,fr m] Q:=by
 obtain⟨a,b,r,rfl⟩:∃a b r,cs=a::b::r:=by
  match cs,h2 with
  | a::b::r,_=>exact⟨a,b,r,rfl⟩
 obtain⟨l,n⟩:∃l,(a::b::r).getLast?=some l:=⟨_,ACR (by simp)⟩;have s:l∈a::b::r:=AC7 n;have u:=(hc l s).m;have sp:=iG (lo:=lo) (hi:=hi) (m:=m) r a b l d;have o:=Cq.spotC bm d hc;have v:=g.x;have w:=g.y;have A:=g.z;have C:=i.x;have D:=i.y;have E:=i.z;have key:(∃p∈Fu (a::b::r),J4 lo hi p m)↔(∃t,spotC (a::b::r) m=some t/\iV lo hi t)/\m<l.1:=by
  by_cases h:m<a.1
  .rw [Lw h];constructor
   .rintro ⟨p,hp,k⟩;exfalso;have q:=(FE d hp).1;have:a.1<=p.1.1:=by
     rcases AAF.mp q with z|z
     .rw [z];exact ADK
     .have:=(AAN.mp d).1 _ z;grind
    have:=k.1;grind
   .rintro ⟨⟨t,e,_⟩,_⟩;cases e
  .rw [show spotC (a::b::r) m=spotG a (b::r) m by rw[spotC,AAD h],sp (by grind) n]
 rw[key] at q;apply JD;ac_rfl
 .rename_i h;exact q false ⟨λz=>(by cases z),λz=>absurd z.2 h⟩
 rename_i F;refine NP hc d (by simp) hl bm (by omega) ?_;cases hs:spotC (a::b::r) m with
 | none=> rw[show YI none=PV.non from rfl];ac_rfl;exact q false ⟨λz=>(by cases z),λz=>by obtain⟨⟨t,e,_⟩,_⟩:=z;rw[hs] at e;cases e⟩
 | some t=>
   have j:=o t hs;have H:=j.x;have I:=j.y;have J:=j.z;rw[show YI (some t)=DB t from rfl];have f:=λb (h:b=true↔iV lo hi t)=>q b (by rw[h,hs];exact⟨λz=>⟨⟨t,rfl,z⟩,F⟩,λz=>by obtain⟨⟨t',e,k⟩,_⟩:=z;cases e;exact k⟩);clear q key sp o;unfold iV at f;ac_rfl;show CK _ _ _ _ _ [.int 0, .int 1, .int 2] [];repeat' array_get_dec
   all_goals (refine f _ ?_;simp_all)
def FH (k:Int)(c:C4):Rat:=if k % 3=0 then c.2.1 else if k % 3=1 then c.2.2.1 else c.2.2.2
def E6 (lo hi:T3):zy (Int×Rat):= [(0,lo.1),(1,lo.2.1),(2,lo.2.2),(3,hi.1),(4,hi.2.1),(5,hi.2.2)]
def sR (p:Int×Rat):PV:= .tup [.int p.1,fr p.2]
def d9 (cs:zy C4):IN (cs.map cor) (List.map cor (List.drop (Int.toNat 1) cs))=(Fu cs).map λp=> .tup [cor p.1,cor p.2] :=by rw[show Int.toNat 1=1 from rfl,List.drop_one];unfold IN Fu;rw[List.zipWith_map,List.zip,List.map_zipWith]
def jV (p:C4×C4)(u:Int×Rat)(m:Rat):Prop:=p.1.1<m/\m<p.2.1/\FH u.1 p.1≠FH u.1 p.2/\FH u.1 p.1+(m-p.1.1)/(p.2.1-p.1.1)*(FH u.1 p.2-FH u.1 p.1)=u.2
structure jZ (W:Nat) (cs:List C4) (us:List (C4×C4)) (lo hi:T3) (ms:List Rat):Prop where
 bd:∀m∈ms,Bd W m
 crn:∀c∈cs,c.1∈ms
 ed:∀p∈us,∀u∈E6 lo hi,∀m,jV p u m->m∈ms
 len:ms.length<=cs.length+6*us.length
structure VJ (W:Nat) (cs:List C4) (us:List (C4×C4)) (lo hi:T3) (p:C4×C4) (ws:List (Int×Rat)) (ms:List Rat):Prop where
 bd:∀m∈ms,Bd W m
 crn:∀c∈cs,c.1∈ms
 ed:∀p∈us,∀u∈E6 lo hi,∀m,jV p u m->m∈ms
 ed2:∀u∈ws,∀m,jV p u m->m∈ms
 len:ms.length<=cs.length+6*us.length+ws.length
def VJ.more {W:Nat}{cs:zy C4}{us:zy (C4×C4)}{lo hi:T3}{p:C4×C4}{b:zy (Int×Rat)}{ms:zy Rat}{u:Int×Rat}(h:VJ W cs us lo hi p b ms){x:Rat}(d:Bd W x)(k:∀m,jV p u m->m=x):VJ W cs us lo hi p (b ++ [u]) (ms ++ [x]):=by
 refine⟨λm a=> ?_,λc hc=>by simp[h.crn c hc],λq hq v hv m a=>by simp[h.ed q hq v hv m a],λv hv m a=> ?_,by have:=h.len;simp;omega⟩
 .rcases AAO.mp a with a|a
  .exact h.bd m a
  .rw [AAU.mp a];exact d
 .rcases AAO.mp hv with hv|hv
  .simp [h.ed2 v hv m a]
  .rw [AAU.mp hv] at a;simp[k m a]
def VJ.less {W:Nat}{cs:zy C4}{us:zy (C4×C4)}{lo hi:T3}{p:C4×C4}{b:zy (Int×Rat)}{ms:zy Rat}{u:Int×Rat}(h:VJ W cs us lo hi p b ms)(k:∀m,¬jV p u m):VJ W cs us lo hi p (b ++ [u]) ms:=by
 refine⟨h.bd,h.crn,h.ed,λv hv m a=> ?_,by have:=h.len;simp;omega⟩;rcases AAO.mp hv with hv|hv
 .exact h.ed2 v hv m a
 .rw [AAU.mp hv] at a;exact absurd a (k m)
def ak {p:C4×C4}{u:Int×Rat}{m:Rat}(h:jV p u m):(m-p.1.1)/(p.2.1-p.1.1)=(u.2-FH u.1 p.1)/(FH u.1 p.2-FH u.1 p.1)/\0<(m-p.1.1)/(p.2.1-p.1.1)/\(m-p.1.1)/(p.2.1-p.1.1)<1/\m=p.1.1+(m-p.1.1)/(p.2.1-p.1.1)*(p.2.1-p.1.1):=by
 obtain⟨h1,h2,c,a⟩:=h;have d:(0:Rat)<p.2.1-p.1.1:=by grind
 have d':p.2.1-p.1.1≠0:=by grind
 have w:FH u.1 p.2-FH u.1 p.1≠0:=by grind
 have b:(m-p.1.1)/(p.2.1-p.1.1)*(p.2.1-p.1.1)=m-p.1.1:=Rat.div_mul_cancel d';refine⟨?_, ?_, ?_,by rw[b];grind⟩
 .rw [<-a,show FH u.1 p.1+(m-p.1.1)/(p.2.1-p.1.1)*(FH u.1 p.2-FH u.1 p.1)-FH u.1 p.1=(m-p.1.1)/(p.2.1-p.1.1)*(FH u.1 p.2-FH u.1 p.1) by grind,Rat.mul_div_cancel w]
 .rw [Rat.lt_div_iff d];grind
 .rw [Rat.div_lt_iff d];grind
def ic {lo hi:T3}{u:Int×Rat}{B:Nat}(a:Cq 100 lo)(b:Cq 100 hi)(hu:u∈E6 lo hi):(∀(d:C4) {R:PV->Prop},R (fr (FH u.1 d))->Am (cor d) (.int (u.1.fmod 3+1)) R)/\Bd 100 u.2/\∀d,Fa B d->Bd B (FH u.1 d):=by
 unfold E6 at hu;simp only[AAF,AAj,AAh] at hu;rcases hu with rfl|rfl|rfl|rfl|rfl|rfl
 .exact ⟨λd R h=>(show R (fr d.2.1) from h),a.x,λd h=>h.x⟩
 .exact ⟨λd R h=>(show R (fr d.2.2.1) from h),a.y,λd h=>h.y⟩
 .exact ⟨λd R h=>(show R (fr d.2.2.2) from h),a.z,λd h=>h.z⟩
 .exact ⟨λd R h=>(show R (fr d.2.1) from h),b.x,λd h=>h.x⟩
 .exact ⟨λd R h=>(show R (fr d.2.2.1) from h),b.y,λd h=>h.y⟩
 .exact ⟨λd R h=>(show R (fr d.2.2.2) from h),b.z,λd h=>h.z⟩
def WA {cs:zy C4}{lo hi:T3}{B:Nat}(hc:∀c∈cs,Fa B c)(J:Ll cs)(h2:2<=cs.length)(hl:cs.length<=100)(K:Cq 100 lo)(L:Cq 100 hi)(T:B<=140){Q:PV->Prop}(q:∀ms,jZ (6*B+105) cs (Fu cs) lo hi ms->Q (.lst ((BA ms).map fr))):CI [Bb cs,DB lo,DB hi] Q:=by
 have U:(Fu cs).length=cs.length-1:=by unfold Fu;simp
 apply JE;ac_rfl;refine CP cor fr (λc=>c.1) (λ_=>True) (λc _ R s=> ?_) cs [] (λ_ _=>True.intro) ?_
 .ac_rfl;exact s
 rw[AAl];ac_rfl;rw[d9];refine CQ (λp:C4×C4=> .tup [cor p.1,cor p.2]) (λus vs τ=>∃ms v y A d f g a,jZ (6*B+105) cs us lo hi ms/\τ= [some (.val (Bb cs)),some (.val (DB lo)),some (.val (DB hi)),some (.own (ms.map fr)),v,y,A,d,f,g,a]) ?_ ?_ ⟨cs.map λc=>c.1,_,_,_,_,_,_,_,⟨λm i=> ?_,λc hc=>List.mem_map_of_mem hc,by simp,by simp⟩,rfl⟩
 .rintro τ ⟨ms,v,y,A,d,f,g,a,h,rfl⟩;have:=h.len;ac_rfl;exact LJ (B:=6*B+105) (by omega) h.bd (by omega) (q ms h)
 .rintro us p vs e τ R s ⟨ms,v,y,A,d,f,g,a,h,rfl⟩;obtain⟨m1,m2,m3⟩:=FE J (p:=p) (by rw[<-e];simp);have ul:us.length<=100:=by have:=congrArg List.length e;simp at this;omega
  obtain⟨b,c⟩:=p;have G:=(hc b m1).m;have M:=(hc c m2).m;ac_rfl;show BS (.tup [fr lo.1,fr lo.2.1,fr lo.2.2]) (.tup [fr hi.1,fr hi.2.1,fr hi.2.2]) _;ac_rfl;show DQ _ _ _ ((E6 lo hi).map sR) _;refine CQ sR (λC vs τ=>∃ms d f g a,VJ (6*B+105) cs us lo hi (b,c) C ms/\τ= [some (.val (Bb cs)),some (.val (DB lo)),some (.val (DB hi)),some (.own (ms.map fr)),some (.val (cor b)),some (.val (cor c)),some (.val (fr (c.1-b.1))),d,f,g,a]) ?_ ?_ ⟨ms,_,_,_,_,⟨h.bd,h.crn,h.ed,by simp,h.len⟩,rfl⟩
  .rintro τ ⟨ms,d,f,g,a,k,rfl⟩;refine s _ ⟨ms,_,_,_,_,_,_,_,⟨k.bd,k.crn,λx hx u hu m i=> ?_,by have:=k.len;simp[E6] at this ⊢;omega⟩,rfl⟩;rcases AAO.mp hx with hx|hx
   .exact k.ed x hx u hu m i
   .rw [AAU.mp hx] at i;exact k.ed2 u hu m i
  .rintro C u N H τ R2 D ⟨ms,d,f,g,a,k,rfl⟩;have W:C.length<=6:=by have:=congrArg List.length H;simp[E6] at this;omega
   have hu:u∈E6 lo hi:=by rw[<-H];simp
   have X:=k.len;obtain⟨E,I,r⟩:=ic (B:=B) K L hu;have t:=r b (hc b m1);have sc:=r c (hc c m2);have j:=λm=> @ak (b,c) u m;have new:∀d f g a,R2 [some (.val (Bb cs)),some (.val (DB lo)),some (.val (DB hi)),some (.own (ms.map fr ++ [fr (b.1+(u.2-FH u.1 b)/(FH u.1 c-FH u.1 b)*(c.1-b.1))])),some (.val (cor b)),some (.val (cor c)),some (.val (fr (c.1-b.1))),d,f,g,a] \/FH u.1 c-FH u.1 b=0:=λd f g a=>by
    by_cases w:FH u.1 c-FH u.1 b=0
    .exact .inr w
    .refine .inl (D _ ⟨ms ++ [b.1+(u.2-FH u.1 b)/(FH u.1 c-FH u.1 b)*(c.1-b.1)],d,f,g,a,k.more ((G.add ((Bd.div w (I.sub t) (sc.sub t)).mul (M.sub G))).mono (by omega)) λm i=> ?_,by rw[AAP];rfl⟩);have z:=j m i;have o:=z.1;have l:=z.2.2.2;dsimp only at o l;rw[o] at l;exact l
   have n:∀d f g a,(∀m,¬jV (b,c) u m)->R2 [some (.val (Bb cs)),some (.val (DB lo)),some (.val (DB hi)),some (.own (ms.map fr)),some (.val (cor b)),some (.val (cor c)),some (.val (fr (c.1-b.1))),d,f,g,a] :=λd f g a O=>D _ ⟨ms,d,f,g,a,k.less O,rfl⟩;clear D s;unfold sR;ac_rfl;refine E c ?_;ac_rfl;refine E b ?_;ac_rfl
   .rename_i w;have w:FH u.1 c-FH u.1 b≠0:=λz=>w (by rw[z];rfl);have new:=λd f g a=>(new d f g a).resolve_right w;have P:=I.sub t;have b2:=sc.sub t;have Y:=Bd.div w P b2;refine E b ?_;ac_rfl
    .exact new _ _ _ _
    .rename_i h1 h2;refine n _ _ _ _ λm i=> ?_;obtain⟨o,l,F,_⟩:=j m i;rw[o] at F;exact h2 F
    .rename_i h1;refine n _ _ _ _ λm i=> ?_;obtain⟨o,l,F,_⟩:=j m i;rw[o] at l;exact h1 l
   .rename_i w;refine n _ _ _ _ λm i=> ?_;have:=i.2.2.1;have w:FH u.1 c-FH u.1 b=0:=Rat.num_eq_zero.mp w;dsimp only at this;grind
 .obtain ⟨c,S,rfl⟩:=AAM.mp i;exact(hc c S).m.mono (by omega)
def i9 {cs:zy C4}{W:Nat}{lo hi:T3}{ms:zy Rat}(c:Ll cs)(h:jZ W cs (Fu cs) lo hi ms){p:C4×C4}(hp:p∈Fu cs){m:Rat}(k:mW lo hi p m):m∈ms:=by
 obtain⟨m1,m2,m3⟩:=FE c hp;rcases k with rfl|rfl|⟨h1,h2,k⟩
 .exact h.crn _ m1
 .exact h.crn _ m2
 .have go:∀u∈E6 lo hi,FH u.1 p.1≠FH u.1 p.2->FH u.1 p.1+(m-p.1.1)/(p.2.1-p.1.1)*(FH u.1 p.2-FH u.1 p.1)=u.2->m∈ms:=λu hu a b=>h.ed p hp u hu m ⟨h1,h2,a,b⟩;rcases k with⟨n,k|k⟩|⟨n,k|k⟩|⟨n,k|k⟩
  .exact go (0,lo.1) (by simp[E6]) n k
  .exact go (3,hi.1) (by simp[E6]) n k
  .exact go (1,lo.2.1) (by simp[E6]) n k
  .exact go (4,hi.2.1) (by simp[E6]) n k
  .exact go (2,lo.2.2) (by simp[E6]) n k
  .exact go (5,hi.2.2) (by simp[E6]) n k
def sv (p:Int×Int):Rat:=(p.1:Rat)/(p.2:Rat)
section
variable {cs ds:zy C4}{d:Rat×Rat}{M W:Nat}
def RM (cs ds:zy C4)(d:Rat×Rat)(m:Rat):Prop:=jp cs ds<=m/\m<jx cs ds/\rM (sj cs ds d m)<1
instance {m:Rat}:Decidable (RM cs ds d m):=by unfold RM;infer_instance
structure iW (cs ds:List C4) (d:Rat×Rat) (B:Nat) (ss:List Ar):Prop where
 few:ss.length<=201
 ok:∀s∈ss,A8 B s
 fin:∀s∈ss,∃x,s.2.2=some x
 sem:∀m,ss.any (Al · (m,0))=true↔RM cs ds d m
 pf:ss.length<=(ye cs ds d).length
end
def fU {ss:zy Ar}(a:∀s∈ss,∃x,s.2.2=some x)(k:Rat):∃m,k<m/\ss.any (Al · (m,0))=false:=by
 induction ss with
 | nil=>exact⟨k+1,by grind,rfl⟩
 | cons s ss ih=>
   obtain⟨x,hx⟩:=a s (by simp);have c:∀(b:zy Ar),(∀s∈b,∃x,s.2.2=some x)->∃n:Rat,k<n/\∀s∈b,∀x,s.2.2=some x->x<n:=by
    intro b;induction b with
    | nil=>intro _;exact⟨k+1,by grind,by simp⟩
    | cons t b d=>
      intro e;obtain⟨n,h1,h2⟩:=d λs hs=>e s (by simp[hs]);obtain⟨y,hy⟩:=e t (by simp);by_cases z:y<n
      .refine ⟨n,h1,λs hs x hx=> ?_⟩;rcases AAF.mp hs with rfl|hs
       .rw [hy] at hx;cases hx;exact z
       .exact h2 s hs x hx
      .refine ⟨y+1,by grind,λs hs x hx=> ?_⟩;rcases AAF.mp hs with rfl|hs
       .rw [hy] at hx;cases hx;grind
       .have:=h2 s hs x hx;grind
   obtain⟨n,h1,h2⟩:=c (s::ss) a;refine⟨n,h1, ?_⟩;rw[ACB];intro t f z;obtain⟨y,hy⟩:=a t f;have:=h2 t f y hy;unfold Al at z;rw[hy] at z;simp at z;grind
def Ky {B:Nat}{ss:zy Ar}(ok:∀s∈ss,A8 B s)(a:∀s∈ss,∃x,s.2.2=some x):∀r∈canon 1 ss,∃x,r.2.2=some x:=by
 intro r b;cases e:r.2.2 with
 | some x=>exact⟨x,rfl⟩
 | none=> exfalso;obtain⟨m,h1,h2⟩:=fU a r.1;rw[<-Jy ok (p:=(m,0)) (.inl rfl)] at h2;rw[ACB] at h2;refine h2 r b ?_;unfold Al;rw[e];simp;exact .inl h1
structure Told (P:Rat->Prop) (B:Nat) (cc:List Ar):Prop where
 ok:∀s∈cc,A8 B s
 fin:∀s∈cc,∃x,s.2.2=some x
 few:cc.length<=2000
 sem:∀m,cc.any (Al · (m,0))=true↔P m
def iW.told {cs a:zy C4}{d:Rat×Rat}{B:Nat}{ss:zy Ar}(n:iW cs a d B ss):Told (RM cs a d) B (canon 1 ss):=
 ⟨Fq n.ok,Ky n.ok n.fin,by have:=Eo (n:=1) (ss:=ss);have:=n.few;omega,λm=>by rw[Jy n.ok (p:=(m,0)) (.inl rfl)];exact n.sem m⟩
def cT {a b:Rat}{W:Nat}{s:Int}(c:Bd W a)(d:Bd W b)(hs:s=0\/s=1):∃p,aH (3*W+1) (a,b,s) p:=by
 obtain⟨h1,h2,e⟩:=R8 (W:=W) 2 [a,b] rfl (by simp;exact⟨c,d⟩);have f:(0:Rat)<((LW [a,b] :Nat):Rat):=by exact_mod_cast h1
 exact⟨⟨g9 (LW [a,b]) a,g9 (LW [a,b]) b,s, []⟩,⟨A6 (R5 c e) (by omega),A6 (R5 d e) (by omega),by simp,by simp,hs⟩,rfl,_,f,R6 (h2 a (by simp)),R6 (h2 b (by simp))⟩
def ZU {b e:C4}{lo hi:T3}{B:Nat}(hb:Fa B b)(he:Fa B e)(h:b.1<e.1)(r:Cq 201 lo)(s:Cq 201 hi):∃a,NT (3*(6*B+205)+1) (Q1 b e lo hi) a:=by
 obtain⟨c,d⟩:=GN hb.m he.m hb.x he.x h;obtain⟨i,j⟩:=GN hb.m he.m hb.y he.y h;obtain⟨l,n⟩:=GN hb.m he.m hb.z he.z h;have all:∀o:zy Fm,(∀f∈o,Bd (6*B+205) f.1/\Bd (6*B+205) f.2.1/\(f.2.2=0\/f.2.2=1))->∃a,NT (3*(6*B+205)+1) o a:=by
  intro o;induction o with
  | nil=>intro _;exact⟨[], .nil⟩
  | cons f o ih=> intro k;obtain⟨u,v,w⟩:=k f (by simp);obtain⟨p,hp⟩:=cT u v w;obtain⟨a,A⟩:=ih λg C=>k g (by simp[C]);exact⟨p::a, .cons hp A⟩
 refine all _ λf t=> ?_;unfold Q1 at t;simp only[AAF,AAj,AAh] at t;rcases t with rfl|rfl|rfl|rfl|rfl|rfl|rfl|rfl
 .exact ⟨hb.m.neg.mono (by omega),nU.mono (by omega), .inl rfl⟩
 .exact ⟨he.m.mono (by omega),nU.neg.mono (by omega), .inr rfl⟩
 .exact ⟨(d.sub r.x).mono (by omega),c.mono (by omega), .inr rfl⟩
 .exact ⟨(s.x.sub d).mono (by omega),c.neg.mono (by omega), .inr rfl⟩
 .exact ⟨(j.sub r.y).mono (by omega),i.mono (by omega), .inr rfl⟩
 .exact ⟨(s.y.sub j).mono (by omega),i.neg.mono (by omega), .inr rfl⟩
 .exact ⟨(n.sub r.z).mono (by omega),l.mono (by omega), .inr rfl⟩
 .exact ⟨(s.z.sub n).mono (by omega),l.neg.mono (by omega), .inr rfl⟩
def iI {N:Nat}{b e:C4}{lo hi:T3}{a:zy Dh}(hp:NT N (Q1 b e lo hi) a):(∃s,Qr N lo hi (b,e) s)\/∀t,¬J4 lo hi (b,e) t:=by
 obtain⟨o,u,F⟩:=hp.mem;have d:∀p∈a,p.s=0\/p.s=1:=λp hp=>by obtain⟨f,_,r⟩:=o p hp;exact r.ok.s
 by_cases g:∀p∈a,p.c1=0->JA p=false
 .have A:=B5 (.inl rfl) a.length a rfl d;have v:=B5 (.inr rfl) a.length a rfl d;obtain⟨l,w⟩:∃l,tight 1 a=some l:=by
   cases z:tight 1 a with
   | some l=>exact⟨l,rfl⟩
   | none=> obtain⟨i,h0,j⟩:=u (-b.1,1,0) (by simp[Q1]);exact absurd (by have:=j.sign.1.mpr (by show (0:Rat)<1;decide);omega) (A.no z i h0)
  obtain⟨h,k⟩:∃h,tight (-1) a=some h:=by
   cases z:tight (-1) a with
   | some l=>exact⟨l,rfl⟩
   | none=> obtain⟨i,h0,j⟩:=u (e.1, -1,1) (by simp[Q1]);exact absurd (by have:=j.sign.2.mpr (by show (-1:Rat)<0;decide);omega) (v.no z i h0)
  have x:=v.so h k;have y:h.s=1:=by
   obtain⟨f,m,r⟩:=o h x.1;have:=r.sign.2.mp (by have:=x.2.1;omega);rw[r.s];unfold Q1 at m;simp only[AAF,AAj,AAh] at m;rcases m with rfl|rfl|rfl|rfl|rfl|rfl|rfl|rfl
   .exact absurd this (by show ¬(1:Rat)<0;decide)
   all_goals rfl
  by_cases B:Dr l<Dr h
  .exact .inl ⟨_,Uo hp w k B y g⟩
  .refine .inr λt n=> ?_;have:=(XE d w k y g t).mp ((Rk hp t).mpr n);grind
 .refine .inr λt n=>g λp C c0=> ?_;have c:=(Rk hp t).mpr n p C;unfold holds UY at c;rw[c0] at c;have:¬((p.c0:Int)<0\/(p.c0=0/\p.s=1)):=by
   rintro(z|⟨D,G⟩)
   .have z:(p.c0:Rat)<0:=by exact_mod_cast z
    have E:((0:Int):Rat)=0:=rfl;grind
   .rw [D] at c;have E:((0:Int):Rat)=0:=rfl;rcases c with c|⟨_,c⟩
    .grind
    .omega
  unfold JA;exact AAa this
def dX {cs:zy C4}{lo hi:T3}{B:Nat}(hc:∀c∈cs,Fa B c)(a:Ll cs)(b:Cq 201 lo)(d:Cq 201 hi):∃ss,Ca (3*(6*B+205)+1) lo hi (Fu cs) ss:=by
 have all:∀(n:Nat) (us:zy (C4×C4)),us.length=n->(∀p∈us,p∈Fu cs)->∃ss,Ca (3*(6*B+205)+1) lo hi us ss:=by
  intro n;induction n with
  | zero=> intro us h _;have:us= [] :=ABh.mp h;subst this;exact⟨[],by simp,by simp,by simp⟩
  | succ n ih=>
    intro us h k;obtain⟨vs,p,rfl⟩:∃vs t,us=vs ++ [t] :=by
     have h0:us≠ [] :=λz=>by rw[z] at h;simp at h
     exact⟨us.dropLast,us.getLast h0,(ABs h0).symm⟩
    obtain⟨ss,hs⟩:=ih vs (by simpa using h) λq hq=>k q (by simp[hq]);obtain⟨m1,m2,m3⟩:=FE a (k p (by simp));obtain⟨e,hp⟩:=ZU (hc _ m1) (hc _ m2) m3 b d;rcases iI hp with⟨s,h⟩|h
    .exact ⟨_,hs.more h⟩
    .exact ⟨_,hs.less h⟩
 exact all _ _ rfl λ_ h=>h
def Ca.sem {N:Nat}{lo hi:T3}{us:zy (C4×C4)}{ss:zy Ar}(h:Ca N lo hi us ss)(m:Rat):ss.any (Al · (m,0))=true↔∃p∈us,J4 lo hi p m:=by
 rw[AAk];constructor
 .rintro ⟨s,hs,k⟩;obtain⟨p,hp,o⟩:=h.ok s hs;exact⟨p,hp,(o.sem m).mp k⟩
 .rintro ⟨p,hp,k⟩;exact h.all p hp m k
def dB {qs:zy Rat}{In:Pl->km}(mono:∀x∈qs,In (x,0)=true->In (x,1)=true)(a:∀us x c vs,us++x::c::vs=qs->In ((x+c)*(1/2:Rat),0)=In (x,1))(last:∀us x,us ++ [x] =qs->In (x,0)=false/\In (x,1)=false)(hl:qs.length<=1000){Q:PV->Prop}(q:Q (.tup ((Cc ((places qs).map λp=>(p,In p))).map Ao))):BM [.lst (qs.map fr), .lst (qs.map λm=> .bl (In (m,0))), .lst ((J9 qs).map λm=> .bl (In (m,0)))] Q:=by
 have ep:((places qs).map λp=>(p,In p))=(qs.map λx=>((x,In (x,0),In (x,1)):Tr)).flatMap jO:=by unfold places;rw[List.map_flatMap,List.flatMap_map];rfl
 rw[ep] at q;have key:=dA (T:=qs.map λx=>((x,In (x,0),In (x,1)):Tr)) (gs:=(J9 qs).map λm=>In (m,0)) ?_ ?_ (by rw[AAI];omega) ?_ q
 .rw [AAe,AAe,AAe] at key;exact key
 .by_cases h0:qs= []
  .exact .inl (by rw[h0];rfl)
  .refine .inr ?_;rw[AAe];exact Tz (f:=λm=>In (m,0)) (g:=λx=>In (x,1)) qs h0 a λus x e=>(last us x e).2
 .intro t d h;obtain⟨x,hx,rfl⟩:=AAM.mp d;exact mono x hx h
 .by_cases h0:qs= []
  .rw [h0];rfl
  .obtain ⟨us,x,rfl⟩:∃us x,qs=us ++ [x] :=⟨qs.dropLast,qs.getLast h0,(ABs h0).symm⟩;obtain⟨f0,f1⟩:=last us x rfl;rw[AAP,AAK,ABY,Ep,f0,f1];generalize Bz _=st;obtain⟨A,b⟩:=st;cases b <;> rfl
def Xb {s:Ar}{B:Nat}(o:A8 B s){x a:Rat}(j:x<a)(d:¬x<s.1\/¬s.1<a)(f:∀e,s.2.2=some e->¬x<e\/¬e<a):Al s ((x+a)*(1/2:Rat),0)=Al s (x,1):=by
 have m1:x<(x+a)*(1/2:Rat):=by grind
 have m2:(x+a)*(1/2:Rat)<a:=by grind
 generalize (x+a)*(1/2:Rat)=m at *;obtain⟨b,h,e⟩:=s;have l:h=0\/h=1:=o.h;have d:¬x<b\/¬b<a:=d;have g:(decide (b<m)||(decide (b=m)&&decide (0<h+0)))=(decide (b<x)||(decide (b=x)&&decide (0<h+1))):=by
  rw[AA2];simp only[ABq,AAq,AA8];have k:0<h+1:=by omega
  constructor
  .intro z;have:¬x<b:=by rcases z with z|z <;> grind
   by_cases c:b=x
   .exact .inr ⟨c,k⟩
   .exact .inl (by grind)
  .intro z;exact .inl (by rcases z with z|z <;> grind)
 cases e with
 | none=>simp only[Al,g]
 | some e=>
   have f:=f e rfl;have i:decide (m<e)=decide (x<e):=by rw[ABP];constructor <;> intro z <;> grind
   simp only[Al,g,i]
def Py {ss:zy Ar}{f g:Ar->km}(h:∀s∈ss,f s=g s):ss.any f=ss.any g:=by
 induction ss with
 | nil=>rfl
 | cons a r ih=>rw[AA4,AA4,h a (by simp),ih λs hs=>h s (by simp[hs])]
def bF {s:Ar}{x:Rat}(h:Al s (x,0)=true):Al s (x,1)=true:=by
 simp only[Al,AAq,ABq,AA8] at h ⊢;refine⟨?_,h.2⟩;rcases h.1 with h1|⟨h1,h2⟩
 .exact .inl h1
 .exact .inr ⟨h1,by omega⟩
def dC {ss:zy Ar}{ms:zy Rat}{B:Nat}(ok:∀s∈ss,A8 B s)(a:∀s∈ss,∃x,s.2.2=some x)(sub:∀s∈ss,s.1∈ms/\∀e,s.2.2=some e->e∈ms)(hl:ms.length<=1000){Q:PV->Prop}(q:Q (.tup ((canon 1 ss).map Ao))):BM [.lst ((BA ms).map fr), .lst ((BA ms).map λm=> .bl (ss.any (Al · (m,0)))), .lst ((J9 (BA ms)).map λm=> .bl (ss.any (Al · (m,0))))] Q:=by
 have j:=DR (xs:=ms);have b:=Bl (xs:=ms);have d:canon 1 ss=Cc ((places (BA ms)).map λp=>(p,ss.any (Al · p))):=by
  have f:BA ms=BA (ms++Ai ss):=KJ λx=>by
   rw[AAO];refine⟨.inl,λh=>h.elim id λh=> ?_⟩;obtain⟨s,hs,k⟩:=AAm.mp h;rcases AAF.mp k with rfl|k
   .exact (sub s hs).1
   .exact (sub s hs).2 x (by simpa using k)
  rw[<-D2 (ms:=ms) ok (by decide),f];show Cc _=Cc _;congr 1;apply AA9;intro p _;rw[FO]
 rw[d] at q;refine dB (In:=λp=>ss.any (Al · p)) (λx _ h=> ?_) (λus x l vs e=> ?_) (λus x e=> ?_) (by omega) q
 .obtain ⟨s,hs,k⟩:=AAk.mp h;exact AAk.mpr ⟨s,hs,bF k⟩
 .obtain ⟨g,c⟩:=YK (e ▸ b);refine Py λs hs=>Xb (ok s hs) g (c _ (by rw[e];exact Ax.mpr (sub s hs).1)) λz hz=>c _ (by rw[e];exact Ax.mpr ((sub s hs).2 z hz))
 .have key:∀i:Int,ss.any (Al · (x,i))=false:=λi=>by rw[ACB];intro s hs;obtain⟨ev,he⟩:=a s hs;have h1:=Ax.mpr ((sub s hs).2 ev he);rw[<-e] at h1;have h2:=Og (e ▸ b) ev h1;simp only[Al,he];simp[h2]
  exact⟨key 0,key 1⟩
def RL {qs:zy Rat}{W:Nat}(h:∀x∈qs,Bd W x):∀x∈J9 qs,Bd (2*W+4) x:=λx hx=>by obtain⟨p,hp,rfl⟩:=AAM.mp hx;have a:=h _ (ABl hp).1;have b2:=h _ (List.mem_of_mem_drop (ABl hp).2);have b:Bd 3 (1/2:Rat):=⟨by decide +kernel,by decide +kernel⟩;exact((a.add b2).mul b).mono (by omega)
def N8 (qs:zy Rat):(J9 qs).length<=qs.length:=by unfold J9;rw[AAI,List.length_zip];omega
def Ca.fin {N:Nat}{lo hi:T3}{us:zy (C4×C4)}{ss:zy Ar}(h:Ca N lo hi us ss):∀s∈ss,∃x,s.2.2=some x:=λs hs=>by obtain⟨p,hp,k⟩:=h.ok s hs;obtain⟨x,hx,_⟩:=k.fin;exact⟨x,hx⟩
def Ca.one {N M:Nat}{lo hi:T3}{us:zy (C4×C4)}{ss a:zy Ar}(h:Ca N lo hi us ss)(k:Ca M lo hi us a):canon 1 ss=canon 1 a:=
 Yr h.st k.st λm=>by rw[AA2,h.sem,k.sem]
def hX {a:zy Ar}{W:Nat}(ok:∀s∈a,A8 W s)(c:∀s∈a,∃x,s.2.2=some x)(f:W<=1900)(hl:a.length<=1000):Sh 3 13003000 (.tup (a.map Ao)):=by refine(Sh.tup (d:=2) (n:=13000) λx hx=> ?_).mono (by decide) (by rw[AAI];omega);obtain⟨s,hs,rfl⟩:=AAM.mp hx;obtain⟨ev,he⟩:=c s hs;have o:=ok s hs;have b2:=(o.e ev he).2;have hi:Sh 1 4000 (.int s.2.1):=(Sh.int (by rcases o.h with h|h <;> rw[h] <;> decide)).mono (by decide) (by decide);rw[show Ao s= .tup [fr s.1, .int s.2.1,fr ev] by unfold Ao;rw[he];rfl];exact(Sh.tup (gG (Sh.fr (o.b.mono f)) hi (Sh.fr (b2.mono f)))).mono (by decide) lz
def ZH {cs:zy C4}{lo hi:T3}{B:Nat}{ss:zy Ar}(hs:Ca (3*(6*B+205)+1) lo hi (Fu cs) ss)(hc:∀c∈cs,Fa B c)(f:Ll cs)(h2:2<=cs.length)(hl:cs.length<=100)(l:Cq 100 lo)(n:Cq 100 hi)(o:B<=140){Q:PV->Prop}(q:(∀s∈ss,A8 (6*B+105) s)->Q (.tup ((canon 1 ss).map Ao))):Eh [Bb cs,DB lo,DB hi] Q:=by
 have w:(Fu cs).length=cs.length-1:=by unfold Fu;simp
 apply Rp;ac_rfl;refine WA hc f h2 hl l n o λms a=> ?_;have sub:∀s∈ss,s.1∈ms/\∀e,s.2.2=some e->e∈ms:=λs d=>by obtain⟨p,hp,k⟩:=hs.ok s d;obtain⟨x,hx,r⟩:=k.fin;exact⟨i9 f a hp k.bmk,λe he=>by rw[hx] at he;cases he;exact i9 f a hp r⟩
 have g:=hs.fin;have y:=a.len;have i:∀s∈ss,A8 (6*B+105) s:=λs d=>⟨a.bd _ (sub s d).1,(hs.st s d).h,λe he=>⟨((hs.st s d).e e he).1,a.bd _ ((sub s d).2 e he)⟩⟩;have t:=dC hs.st g sub (by omega) (q i);have z:=DR (xs:=ms);have j:∀x∈BA ms,Bd 945 x:=λx hx=>(a.bd x (Ax.mp hx)).mono (by omega);have u:=RL j;have v:=N8 (BA ms);have ins:∀m,Bd 1894 m->∀{R:PV->Prop},R (.bl (ss.any (Al · (m,0))))->BX [Bb cs,DB lo,DB hi,fr m] R:=λm bm {R} h=>ZA hc f h2 (by omega) l n bm (by omega) λb hb=>by rw[show b=ss.any (Al · (m,0)) by rw[AA2,hb,hs.sem]];exact h
 generalize BA ms=qs at *;ac_rfl;refine CP fr PV.bl (λm=>ss.any (Al · (m,0))) (Bd 945) (λm bm R2 h=> ?_) qs [] j ?_
 .ac_rfl;refine ins m (bm.mono (by decide)) ?_;ac_rfl;exact h
 rw[AAl];ac_rfl;refine LA (by omega) (λx hx=>(j x hx).mono (by decide)) ?_;ac_rfl;refine CP fr PV.bl (λm=>ss.any (Al · (m,0))) (Bd 1894) (λm bm R2 h=> ?_) (J9 qs) [] u ?_
 .ac_rfl;refine ins m bm ?_;ac_rfl;exact h
 rw[AAl];ac_rfl;rw[AAe,AAe];exact t
end PL
namespace PL.K31
open PySem L2 PL PyProof.Rows
abbrev Kg:AS:=
 (AY (CN (Aw (AW Ln (AN 2 BB (AB (aV 0) (AB (aC (.int 2)) AL))) (aC (.int 0)))) (As (A9 (AB (A9 (AB (aC (.int 0)) (AB (aC (.int 1)) AL))) (AB (A9 (AB (aC (.int 0)) (AB (aC (.int 1)) AL))) (AB (A9 (AB (aC (.int 0)) (AB (aC (.int 1)) AL))) AL))))) BU)
   (As (A9 (AB (AW Am (aV 1) (AN 2 BB (AB (aV 0) (AB (aC (.int 4)) AL)))) (AB (AW Am (aV 1) (AN 2 BB (AB (aV 0) (AB (aC (.int 4)) AL)))) (AB (AW Am (aV 1) (AN 2 BB (AB (aV 0) (AB (aC (.int 6)) AL)))) AL))))))
abbrev IP:AS:=
 (AY (Aj (Ea (DE (AB (A9 (AB (aC (.int 0)) (AB (aC (.int 1)) AL))) (AB (A9 (AB (aC (.int 1)) (AB (aC (.int 2)) AL))) (AB (A9 (AB (aC (.int 1)) (AB (aC (.int 1)) AL))) (AB (A9 (AB (aC (.int 1)) (AB (aC (.int 3)) AL))) (AB (A9 (AB (aC (.int 3)) (AB (aC (.int 1)) AL))) (AB (A9 (AB (aC (.int 40)) (AB (aC (.int 1)) AL))) AL)))))))) (Ak 1))
   Kg)
def DM:AF:=An 2 IP
def MQ {a:PV}{Q:PV->Prop}(h:IP ⟨λ_=>Q .non,Q,λ_=>False,λ_=>False⟩ [some (.val a),none]):DM [a] Q:=h
def jt {cs:zy C4}(p:F1 9 40 cs):F1 9 40 (cs.take 3):=by have:=p.two;exact⟨by simp;omega,by simp;omega,λc hc=>p.bd c (List.mem_of_mem_take hc),List.Pairwise.sublist (List.take_sublist _ _) p.ris⟩
def rJ (xs:zy C4):Gg (xs.map cor) none (some 3)=(xs.take 3).map cor:=by
 by_cases h:3<=xs.length
 .exact ju (k:=3) rfl h
 .rw [ABb (by omega)];unfold Gg HT.sIx;simp;rw[ABb (by simp;omega)]
end PL.K31
namespace PL
open PySem L2 PyProof.Rows PL.K31
abbrev GU:AS:=
 (As (F2 (Vj λbs=>bs.any id) (AB (Ea (Bx (Gj (aV 0)) 3 [1] (Jb 3 (Ad (Ak 0) (Ad (Ak 1) (Ad (Ak 2) B0)))) DW (VN (Yj jz (AN 2 A1 (AB (aV 3) (AB (aV 0) AL)))) (VN (AN 2 A1 (AB (aV 3) (AB (aV 2) AL))) (qE (AW Ln (aV 1) (aC (.int 1))) (AW Yy (aV 3) (aV 0))))))) AL)))
def CU:AF:=An 2 GU
def KO {a b:PV}{Q:PV->Prop}(h:GU ⟨λ_=>Q .non,Q,λ_=>False,λ_=>False⟩ [some (.val a),some (.val b)]):CU [a,b] Q:=h
abbrev Os:AS:=
 (AY (Aj (F2 Dm (AB (Ea (Bx (NY (AB (aC (.int 3)) AL)) 1 [2,1] (Ak 0) DW (AN 2 BY (AB (AW Am (AW Am (aV 2) (aC (.int 1))) (aV 0)) (AB (AW Am (aV 1) (aV 0)) AL))))) AL)) (Ak 3))
   (As (A9 (AB (aV 3) (AB (F2 Dm (AB (Ea (Bx (NY (AB (aC (.int 3)) AL)) 1 [2,1] (Ak 0) DW (AN 2 BN (AB (AW Am (AW Am (aV 2) (aC (.int 2))) (aV 0)) (AB (AW Am (aV 1) (aV 0)) AL))))) AL)) AL)))))
abbrev Ml:AS:=
 (AY (Aj (Ea (DE (AB (AW Am (AW Am (aV 0) (aC (.int 1))) (aC (.int 0))) (AB (AW Am (AW Am (aV 0) (aC (.int 1))) (aC (.int 0))) (AB (AW Am (AW Am (aV 0) (aC (.int 1))) (aC (.int 1))) AL))))) (Ak 2))
   Os)
def Ef:AF:=An 4 Ml
def Rn {a b:PV}{Q:PV->Prop}(h:Ml ⟨λ_=>Q .non,Q,λ_=>False,λ_=>False⟩ [some (.val a),some (.val b),none,none]):Ef [a,b] Q:=h
abbrev IQ:AS:=
 (AY (EH (Gj (aV 0)) (Jb 3 (Ad (Ak 3) (Ad (Ak 4) (Ad (Ak 5) B0)))) (CN (E9 (Aw (AN 2 A1 (AB (AN 2 BY (AB (aV 2) (AB (aV 1) AL))) (AB (aV 5) AL)))) (VQ (Aw (AN 2 A1 (AB (aV 3) (AB (aV 2) AL)))) (E9 (Aw (AW Ln (aV 4) (aC (.int 1)))) (Aw (AW Ln (aV 3) (aV 2)))))) (As (aC (.bl true))) BU))
   (As (aC (.bl false))))
def CC:AF:=An 6 IQ
def MR {a b c:PV}{Q:PV->Prop}(h:IQ ⟨λ_=>Q .non,Q,λ_=>False,λ_=>False⟩ [some (.val a),some (.val b),some (.val c),none,none,none]):CC [a,b,c] Q:=h
abbrev IG:AS:=
 (AY (Aj (Ea (Bx (Gj (aV 5)) 1 [3,2] (Ak 0) DW (AN 3 CC (AB (aV 1) (AB (aV 2) (AB (aV 0) AL)))))) (Ak 6))
   (As (AN 3 BM (AB (aV 5) (AB (aV 6) (AB (Ea (Bx (Gj (AN 1 Bu (AB (aV 5) AL))) 1 [3,2] (Ak 0) DW (AN 3 CC (AB (aV 1) (AB (aV 2) (AB (aV 0) AL)))))) AL))))))
abbrev IF:AS:=
 (AY (Aj (AN 1 BL (AB (aV 4) AL)) (Ak 5))
   IG)
abbrev IE:AS:=
 (AY (EH (Gj (aV 3)) (Jb 3 (Ad (Ak 9) (Ad (Ak 10) (Ad (Ak 11) B0)))) (Aj (AW BS (aV 4) (Ea (DE (AB (aV 9) (AB (aV 11) (AB (AN 2 BN (AB (aV 9) (AB (aV 2) AL))) (AB (AN 2 BN (AB (aV 11) (AB (aV 2) AL))) AL))))))) (Ak 4)))
   IF)
abbrev ID:AS:=
 (AY (Aj (Ea (DE AL)) (Ak 4))
   IE)
abbrev IC:AS:=
 (AY (Aj (AN 3 Eh (AB (AW Am (aV 0) (aC (.int 0))) (AB (aV 7) (AB (aV 8) AL)))) (Ak 3))
   ID)
abbrev IB:AS:=
 (AY (Aj (AW Am (AW Am (aV 0) (aC (.int 1))) (aC (.int 2))) (Ak 2))
   IC)
abbrev Fg:AS:=
 (AY (Aj (AN 2 Ef (AB (aV 0) (AB (aV 1) AL))) (Jb 2 (Ad (Ak 7) (Ad (Ak 8) B0))))
   IB)
def Bt:AF:=An 12 Fg
def JF {a b:PV}{Q:PV->Prop}(h:Fg ⟨λ_=>Q .non,Q,λ_=>False,λ_=>False⟩ [some (.val a),some (.val b),none,none,none,none,none,none,none,none,none,none]):Bt [a,b] Q:=h
def F4 {Q:PV->Prop}(q:∀b:T3,Cq 8 b->0<=b.1->0<=b.2.1->0<=b.2.2->Q (DB b)):DM [.tape] Q:=by
 apply MQ;have all:∀x∈ [(0:Rat),1/2,1,1/3,3,40],Bd 8 x/\0<=x:=by intro x hx;simp only[AAF,AAj,AAh] at hx;rcases hx with rfl|rfl|rfl|rfl|rfl|rfl <;> exact⟨qY,by decide +kernel⟩
 ac_rfl
 .exact q (0,0,0) ⟨qY,qY,qY⟩ (by decide) (by decide) (by decide)
 refine N2 (xs:= [(0:Rat),1/2,1,1/3,3,40]) (by omega) (by show _<(6:Int);omega) λx hx=> ?_;ac_rfl;refine N2 (xs:= [(0:Rat),1/2,1,1/3,3,40]) (by omega) (by show _<(6:Int);omega) λy hy=> ?_;ac_rfl;refine N2 (xs:= [(0:Rat),1/2,1,1/3,3,40]) (by omega) (by show _<(6:Int);omega) λz hz=> ?_;ac_rfl;exact q (x,y,z) ⟨(all x hx).1,(all y hy).1,(all z hz).1⟩ (all x hx).2 (all y hy).2 (all z hz).2
def gD (lo b:T3):T3:=(lo.1-b.1,lo.2.1-b.1,lo.2.2-b.2.1)
def fX (hi b:T3):T3:=(hi.1+b.1,hi.2.1+b.1,hi.2.2+b.2.1)
def js {cs:zy C4}{lo hi b:T3}{nm mo:PV}(a:Cq 80 lo)(c:Cq 80 hi)(d:Cq 80 b){Q:PV->Prop}(q:Q (.tup [DB (gD lo b),DB (fX hi b)])):Ef [.tup [Bb cs,DB b], .tup [nm,DB lo,DB hi,mo]] Q:=by
 have e:=a.x;have f:=a.y;have g:=a.z;have h:=c.x;have i:=c.y;have j:=c.z;have k:=d.x;have l:=d.y;apply Rn;unfold gD fX DB at *;repeat' array_get_dec
 show CK _ _ _ _ _ [.int 0, .int 1, .int 2] [];repeat' array_get_dec
 show CK _ _ _ _ _ [.int 0, .int 1, .int 2] [];repeat' array_get_dec
 exact q
def gC {W:Nat}{s:Ar}{x y m:Rat}(o:A8 W s)(hx:s.2.2=some x):Al (Gk y s) (m,0)=(decide (m-y<x)&&(decide (s.1<m)||(decide (s.2.1=1)&&decide (s.1=m)))):=by
 have e:(Gk y s).2.2=some (x+y):=by unfold Gk;rw[hx];rfl
 have k:decide (0<s.2.1+0)=decide (s.2.1=1):=by rw[ABP];have:=o.h;omega
 unfold Al;rw[e];show ((decide (s.1<m)||(decide (s.1=m)&&decide (0<s.2.1+0)))&&decide (m<x+y))=_;rw[k,show decide (m<x+y)=decide (m-y<x) by rw[ABP];constructor <;> intro z <;> grind];cases decide (s.1<m) <;> cases decide (s.1=m) <;> cases decide (s.2.1=1) <;> cases decide (m-y<x) <;> rfl
def kb {a:zy Ar}{W:Nat}{y m:Rat}(ok:∀s∈a,A8 W s)(i:∀s∈a,∃x,s.2.2=some x)(hl:a.length<=1000)(t:W<=3000)(bm:Bd 2000 m)(j:Bd 80 y){Q:PV->Prop}(q:Q (.bl ((a.map (Gk y)).any (Al · (m,0))))):CC [.tup (a.map Ao),fr y,fr m] Q:=by
 have bs:=bm.sub j;apply MR;ac_rfl;refine CQ Ao (λus vs τ=>(us.map (Gk y)).any (Al · (m,0))=false/\∃c d f,τ= [some (.val (.tup (a.map Ao))),some (.val (fr y)),some (.val (fr m)),c,d,f]) ?_ ?_ ⟨rfl,_,_,_,rfl⟩
 .rintro τ ⟨h,c,d,f,rfl⟩;rw[h] at q;ac_rfl;exact q
 .rintro us s vs e τ R l ⟨h,c,d,f,rfl⟩;have n:s∈a:=by rw[<-e];simp
  obtain⟨x,hx⟩:=i s n;have o:=ok s n;have u:=o.b;have b2:=(o.e x hx).2;have r:=gC (y:=y) (m:=m) o hx;have g:Al (Gk y s) (m,0)=true->Q (.bl true):=λk=>by rw[<-e,AAP,AAK,List.any_append,AA4,k,Bool.true_or,Bool.or_true] at q;exact q
  have p:Al (Gk y s) (m,0)=false->∀c d f,R [some (.val (.tup (a.map Ao))),some (.val (fr y)),some (.val (fr m)),c,d,f] :=λk c d f=>l _ ⟨by rw[AAP,List.any_append,h];simp[k],c,d,f,rfl⟩;clear l q;rw[r] at g p;rw[show Ao s= .tup [fr s.1, .int s.2.1,fr x] by unfold Ao;rw[hx];rfl];ac_rfl;all_goals first
   | exact g (by simp_all)
   | exact p (by simp_all) _ _ _
def fy {d:zy Ar}{W:Nat}{m:Rat}(ok:∀s∈d,A8 W s)(f:∀s∈d,∃x,s.2.2=some x)(hl:d.length<=1000)(i:W<=3900)(bm:Bd 2000 m){Q:PV->Prop}(q:Q (.bl (d.any (Al · (m,0))))):CU [.tup (d.map Ao),fr m] Q:=by
 apply KO;ac_rfl;refine CP Ao PV.bl (λs=>Al s (m,0)) (λs=>A8 W s/\∃x,s.2.2=some x) (λs hs R h=> ?_) d [] (λs hs=>⟨ok s hs,f s hs⟩) ?_
 .obtain ⟨o,x,hx⟩:=hs;have j:=o.b;have b2:=(o.e x hx).2;have g:Al s (m,0)=(!decide (m<s.1)&&(decide (m<x)&&(decide (s.2.1=1)||!decide (m=s.1)))):=by
   rw[AA2,fV o hx];simp only[AAq,ABq,Bool.not_eq_true',AA8,decide_eq_false_iff_not];constructor
   .rintro ⟨a|⟨a,b⟩,c⟩
    .exact ⟨by grind,c, .inr (by grind)⟩
    .exact ⟨by grind,c, .inl b⟩
   .rintro ⟨a,c,b|b⟩
    .by_cases z:s.1=m
     .exact ⟨.inr ⟨z,b⟩,c⟩
     .exact ⟨.inl (by grind),c⟩
    .exact ⟨.inl (by grind),c⟩
  rw[g] at h;rw[show Ao s= .tup [fr s.1, .int s.2.1,fr x] by unfold Ao;rw[hx];rfl];ac_rfl;all_goals
   refine cast (congrArg (λz=>R (.bl z)) ?_) h
   simp_all
 .rw [AAl];ac_rfl;rw[AAe];refine jI (XH (λs=>Al s (m,0)) d) ?_;rw[List.any_map];exact q
def ah {cs:zy C4}{lo hi b:T3}{nm mo:PV}{B:Nat}{ss:zy Ar}(hs:Ca (3*(6*B+205)+1) (gD lo b) (fX hi b) (Fu cs) ss)(hc:∀c∈cs,Fa B c)(I:Ll cs)(h2:2<=cs.length)(hl:cs.length<=60)(r:Cq 80 lo)(u:Cq 80 hi)(g:Cq 10 b)(E:0<=b.2.2)(P:B<=130){Q:PV->Prop}(q:(∀s∈ss,A8 (6*B+105) s)->Q (.tup ((canon 1 (ss.map (Gk b.2.2))).map Ao))):Bt [.tup [Bb cs,DB b], .tup [nm,DB lo,DB hi,mo]] Q:=by
 have l:Cq 80 b:=⟨g.x.mono (by decide),g.y.mono (by decide),g.z.mono (by decide)⟩;have v:=g.z;have S:=hs.len;have T:(Fu cs).length=cs.length-1:=by unfold Fu;simp
 have cl:=Eo (n:=1) (ss:=ss);apply JF;ac_rfl;refine js r u l ?_;ac_rfl;refine ZH hs hc I h2 (by omega) ⟨(r.x.sub g.x).mono (by decide),(r.y.sub g.x).mono (by decide),(r.z.sub g.y).mono (by decide)⟩ ⟨(u.x.add g.x).mono (by decide),(u.y.add g.x).mono (by decide),(u.z.add g.y).mono (by decide)⟩ (by omega) λst=> ?_;have q:=q st;have j:=Fq st;have f:=Ky hs.st hs.fin;rw[<-N6 st E v] at q;generalize canon 1 ss=cc at *;ac_rfl;refine CQ Ao (λus vs τ=>∃(ms:zy Rat) (k a d:zt AV),ms.length=4*us.length/\(∀x∈ms,Bd 900 x)/\(∀s∈us.map (Gk b.2.2),s.1∈ms/\∀e,s.2.2=some e->e∈ms)/\τ= [some (.val (.tup [Bb cs,DB b])),some (.val (.tup [nm,DB lo,DB hi,mo])),some (.val (fr b.2.2)),some (.val (.tup (cc.map Ao))),some (.val (.lst (ms.map fr))),none,none,some (.val (DB (gD lo b))),some (.val (DB (fX hi b))),k,a,d]) ?_ ?_ ⟨[],none,none,none,rfl,by simp,by simp,rfl⟩
 .rintro τ ⟨ms,k,a,d,J,w,sub,rfl⟩;have A:∀s∈cc.map (Gk b.2.2),A8 (6*B+105+10+1) s:=λs hs=>by obtain⟨t,i,rfl⟩:=AAM.mp hs;exact K8 E v (j t i)
  have p:∀s∈cc.map (Gk b.2.2),∃x,s.2.2=some x:=λs hs=>by obtain⟨t,i,rfl⟩:=AAM.mp hs;obtain⟨x,hx⟩:=f t i;exact⟨x+b.2.2,by unfold Gk;rw[hx];rfl⟩
  have K:=dC A p sub (by omega) q;have U:=DR (xs:=ms);have C:∀x∈BA ms,Bd 900 x:=λx hx=>w x (Ax.mp hx);have L:=RL C;have M:=N8 (BA ms);have ins:∀m,Bd 2000 m->∀{R:PV->Prop},R (.bl ((cc.map (Gk b.2.2)).any (Al · (m,0))))->CC [.tup (cc.map Ao),fr b.2.2,fr m] R:=λm bm {R} h=>kb j f (by omega) (by omega) bm l.z h;ac_rfl;refine LJ (B:=900) (by omega) w (by decide) ?_;generalize BA ms=qs at *;ac_rfl;refine CP fr PV.bl (λm=>(cc.map (Gk b.2.2)).any (Al · (m,0))) (Bd 900) (λm bm R2 h=> ?_) qs [] C ?_
  .ac_rfl;refine ins m (bm.mono (by decide)) ?_;ac_rfl;exact h
  rw[AAl];ac_rfl;refine LA (by omega) (λx hx=>(C x hx).mono (by decide)) ?_;ac_rfl;refine CP fr PV.bl (λm=>(cc.map (Gk b.2.2)).any (Al · (m,0))) (Bd (2*900+4)) (λm bm R2 h=> ?_) (J9 qs) [] L ?_
  .ac_rfl;refine ins m (bm.mono (by decide)) ?_;ac_rfl;exact h
  rw[AAl];ac_rfl;rw[AAe,AAe];exact K
 .rintro us s vs e τ R F ⟨ms,k,a,d,J,w,sub,rfl⟩;have G:s∈cc:=by rw[<-e];simp
  obtain⟨x,hx⟩:=f s G;have o:=j s G;have H:=o.b;have b2:=(o.e x hx).2;have ul:us.length<=200:=by have:=congrArg List.length e;simp at this;omega
  have D:∀k a d,R [some (.val (.tup [Bb cs,DB b])),some (.val (.tup [nm,DB lo,DB hi,mo])),some (.val (fr b.2.2)),some (.val (.tup (cc.map Ao))),some (.val (.lst (ms.map fr ++ [fr s.1,fr x,fr (s.1+b.2.2),fr (x+b.2.2)]))),none,none,some (.val (DB (gD lo b))),some (.val (DB (fX hi b))),k,a,d] :=λk a d=>F _ ⟨ms ++ [s.1,x,s.1+b.2.2,x+b.2.2],k,a,d,by simp;omega,λy hy=>by
   rcases AAO.mp hy with hy|hy
   .exact w y hy
   .simp only[AAF,AAj,AAh] at hy;rcases hy with rfl|rfl|rfl|rfl
    .exact H.mono (by omega)
    .exact b2.mono (by omega)
    .exact (H.add v).mono (by omega)
    .exact (b2.add v).mono (by omega),λt i=>by
   rw[AAP,AAK,ABY] at i;rcases AAO.mp i with i|i
   .obtain ⟨N,O⟩:=sub t i;exact⟨by simp[N],λe he=>by simp[O e he]⟩
   .rw [AAU.mp i];refine⟨by simp[Gk],λe he=> ?_⟩;unfold Gk at he;rw[hx] at he;cases he;simp,by rw[AAP];rfl⟩
  clear F;rw[show Ao s= .tup [fr s.1, .int s.2.1,fr x] by unfold Ao;rw[hx];rfl];ac_rfl;exact D _ _ _
abbrev Fc:AS:=
 (AY (Db 3 Gh (AB (A9 (AB (jj (jl (aV 2)) (AN 1 Eg (AB (aV 5) AL)) (aV 5)) (AB (AN 1 DM (AB (aV 0) AL)) AL))) AL))
   (CN (Aw (AW Ln (AN 2 BB (AB (aV 0) (AB (aC (.int 6)) AL))) (aC (.int 0)))) (jk 3 (aV 4) (S6 (AW Am (aV 3) (AN 2 BB (AB (aV 0) (AB (AW BS (aV 4) (aC (.int 1))) AL)))))) BU))
abbrev Fb:AS:=
 (AY (CN (Aw (AW Yx (aV 1) (aC (.int 4)))) (Aj (Zs (aV 5) Zt (Zu (aC (.int 3)))) (Ak 5)) BU)
   Fc)
abbrev Go:AS:=
 (AY (Aj (AN 1 E3 (AB (aV 0) AL)) (Ak 5))
   Fb)
abbrev Gs:AS:=
 (AY (EH (NY (AB (aV 1) AL)) (Ak 4) Go)
   (As (aV 3)))
abbrev Gr:AS:=
 (AY (Gf (DE AL) 3)
   Gs)
abbrev Gq:AS:=
 (AY (Aj (AW Ln (AN 2 BB (AB (aV 0) (AB (aC (.int 6)) AL))) (aC (.int 0))) (Ak 2))
   Gr)
abbrev E1:AS:=
 (AY (Aj (AW Am (Ea (DE (AB (AN 2 BB (AB (aV 0) (AB (aC (.int 5)) AL))) (AB (AW BS (aC (.int 7)) (AN 2 BB (AB (aV 0) (AB (aC (.int 6)) AL)))) AL)))) (F2 ay (AB (AW Ln (AN 2 BB (AB (aV 0) (AB (aC (.int 8)) AL))) (aC (.int 0))) AL))) (Ak 1))
   Gq)
def B7:AF:=An 6 E1
def IL {a:PV}{Q:PV->Prop}(h:E1 ⟨λ_=>Q .non,Q,λ_=>False,λ_=>False⟩ [some (.val a),none,none,none,none,none]):B7 [a] Q:=h
abbrev GT:AS:=
 (As (F2 IJ (AB (Ea (Bx (Gj (aV 0)) 1 [1] (Ak 0) (Aw (AN 2 CU (AB (aV 0) (AB (aV 1) AL)))) (aV 0))) AL)))
def Bf:AF:=An 2 GT
def KM {a b:PV}{Q:PV->Prop}(h:GT ⟨λ_=>Q .non,Q,λ_=>False,λ_=>False⟩ [some (.val a),some (.val b)]):Bf [a,b] Q:=h
abbrev Jg:AS:=
 (AY (Aj (Ea (Bx (Gj (aV 4)) 1 [1,0] (Ak 0) DW (AW qF (AN 2 Bf (AB (aV 2) (AB (aV 0) AL))) (aV 1)))) (Ak 5))
   (As (AN 3 BM (AB (aV 4) (AB (aV 5) (AB (Ea (Bx (Gj (AN 1 Bu (AB (aV 4) AL))) 1 [1,0] (Ak 0) DW (AW qF (AN 2 Bf (AB (aV 2) (AB (aV 0) AL))) (aV 1)))) AL))))))
abbrev Jf:AS:=
 (AY (Aj (AN 1 BL (AB (aV 2) AL)) (Ak 4))
   Jg)
abbrev Je:AS:=
 (AY (EH (Gj (aV 0)) (Ak 3) (EH (Gj (aV 3)) (Jb 3 (Ad (Ak 6) (Ad (Ak 7) (Ad (Ak 8) B0)))) (Aj (AW BS (aV 2) (Ea (DE (AB (aV 6) (AB (aV 8) AL))))) (Ak 2))))
   Jf)
abbrev Gu:AS:=
 (AY (Aj (Ea (DE AL)) (Ak 2))
   Je)
def CH:AF:=An 9 Gu
def LL {a b:PV}{Q:PV->Prop}(h:Gu ⟨λ_=>Q .non,Q,λ_=>False,λ_=>False⟩ [some (.val a),some (.val b),none,none,none,none,none,none,none]):CH [a,b] Q:=h
abbrev Lc:AS:=
 (As (Ea (Bx (Gj (aV 0)) 1 [1] (Ak 0) DW (AN 2 Hg (AB (aV 0) (AB (aV 1) AL))))))
def EC:AF:=An 2 Lc
def Pg {a b:PV}{Q:PV->Prop}(h:Lc ⟨λ_=>Q .non,Q,λ_=>False,λ_=>False⟩ [some (.val a),some (.val b)]):EC [a,b] Q:=h
abbrev Fl:=zy C4×T3
def IU (f:Fl):PV:= .tup [Bb f.1,DB f.2]
structure Ds (f:Fl):Prop where
 p:F1 9 101 f.1
 b:Cq 8 f.2
 n1:0<=f.2.1
 n2:0<=f.2.2.1
 n3:0<=f.2.2.2
def i8 {p:C4×C4}{lo hi:T3}{m:Rat}{B:Nat}(h1:Fa B p.1)(h2:Fa B p.2)(c:Cq 100 lo)(d:Cq 100 hi)(k:mW lo hi p m):Bd (6*B+105) m:=by
 rcases k with rfl|rfl|⟨e,f,k⟩
 .exact h1.m.mono (by omega)
 .exact h2.m.mono (by omega)
 .have go:∀u∈E6 lo hi,FH u.1 p.1≠FH u.1 p.2->FH u.1 p.1+(m-p.1.1)/(p.2.1-p.1.1)*(FH u.1 p.2-FH u.1 p.1)=u.2->Bd (6*B+105) m:=λu hu a b=>by
   obtain⟨g,_,_,h⟩:=ak (p:=p) (u:=u) ⟨e,f,a,b⟩;obtain⟨_,i,bs⟩:=ic (B:=B) c d hu;have w:FH u.1 p.2-FH u.1 p.1≠0:=by grind
   rw[h,g];exact(h1.m.add ((Bd.div w (i.sub (bs _ h1)) ((bs _ h2).sub (bs _ h1))).mul (h2.m.sub h1.m))).mono (by omega)
  rcases k with⟨n,k|k⟩|⟨n,k|k⟩|⟨n,k|k⟩
  .exact go (0,lo.1) (by simp[E6]) n k
  .exact go (3,hi.1) (by simp[E6]) n k
  .exact go (1,lo.2.1) (by simp[E6]) n k
  .exact go (4,hi.2.1) (by simp[E6]) n k
  .exact go (2,lo.2.2) (by simp[E6]) n k
  .exact go (5,hi.2.2) (by simp[E6]) n k
noncomputable def pW (lo hi:T3)(f:Fl):zy Ar:=Classical.epsilon λss=>Ca (3*(6*101+205)+1) (gD lo f.2) (fX hi f.2) (Fu f.1) ss
noncomputable def FY (lo hi:T3)(f:Fl):zy Ar:=canon 1 ((pW lo hi f).map (Gk f.2.2.2))
section
variable {lo hi:T3}{f:Fl}
def Cq.up {n m:Nat}{t:T3}(h:Cq n t)(k:n<=m):Cq m t:=⟨h.x.mono k,h.y.mono k,h.z.mono k⟩
def V6 (h:Ds f)(a:Cq 40 lo):Cq 100 (gD lo f.2):=⟨(a.x.sub h.b.x).mono (by decide),(a.y.sub h.b.x).mono (by decide),(a.z.sub h.b.y).mono (by decide)⟩
def Vv (h:Ds f)(a:Cq 40 hi):Cq 100 (fX hi f.2):=⟨(a.x.add h.b.x).mono (by decide),(a.y.add h.b.x).mono (by decide),(a.z.add h.b.y).mono (by decide)⟩
def Oh (h:Ds f)(a:Cq 40 lo)(b:Cq 40 hi):Ca (3*(6*101+205)+1) (gD lo f.2) (fX hi f.2) (Fu f.1) (pW lo hi f):=
 Classical.epsilon_spec (dX h.p.bd h.p.ris ((V6 h a).up (by decide)) ((Vv h b).up (by decide)))
def mB (h:Ds f)(a:Cq 40 lo)(b:Cq 40 hi):∀s∈pW lo hi f,A8 711 s:=λs hs=>by have k:=Oh h a b;obtain⟨p,hp,o⟩:=k.ok s hs;obtain⟨m1,m2,m3⟩:=FE h.p.ris hp;obtain⟨x,hx,mx⟩:=o.fin;have c:=h.p.bd _ m1;have d:=h.p.bd _ m2;refine⟨i8 c d (V6 h a) (Vv h b) o.bmk,o.ok.h,λe he=>⟨(o.ok.e e he).1, ?_⟩⟩;rw[hx] at he;cases he;exact i8 c d (V6 h a) (Vv h b) mx
structure G9 (cc:List Ar):Prop where
 ok:∀s∈cc,A8 722 s
 fin:∀s∈cc,∃x,s.2.2=some x
 len:cc.length<=16
def hJ (h:Ds f)(d:Cq 40 lo)(e:Cq 40 hi):G9 (FY lo hi f):=by
 have st:=mB h d e;have k:=Oh h d e;have a:∀s∈(pW lo hi f).map (Gk f.2.2.2),A8 (711+10+1) s:=λs hs=>by obtain⟨t,c,rfl⟩:=AAM.mp hs;exact K8 (C:=10) h.n3 (h.b.z.mono (by decide)) (st t c)
 refine⟨Fq a,Ky a λs hs=> ?_, ?_⟩
 .obtain ⟨t,c,rfl⟩:=AAM.mp hs;obtain⟨x,hx⟩:=k.fin t c;exact⟨x+f.2.2.2,by unfold Gk;rw[hx];rfl⟩
 .have cl:=Eo (n:=1) (ss:=(pW lo hi f).map (Gk f.2.2.2));have g:=k.len;have i:(Fu f.1).length=f.1.length-1:=by unfold Fu;simp
  have:=h.p.few;rw[AAI] at cl;show (canon 1 _).length<=16;omega
def fH {nm mo:PV}(h:Ds f)(a:Cq 40 lo)(c:Cq 40 hi){Q:PV->Prop}(q:Q (.tup ((FY lo hi f).map Ao))):Bt [IU f, .tup [nm,DB lo,DB hi,mo]] Q:=
 ah (Oh h a c) h.p.bd h.p.ris h.p.two (by have:=h.p.few;omega) (a.up (by decide)) (c.up (by decide)) (h.b.up (by decide)) h.n3 (by decide) λ_=>q
def Ze {v w:PV}(h:Ds f)(c:Cq 40 lo)(d:Cq 40 hi)(hv:e5 f.1 f.2 v)(hw:S4 lo hi w){Q:PV->Prop}(q:Q (.tup ((FY lo hi f).map Ao))):Hg [v,w] Q:=by refine dY hv hw h.p.bd h.p.ris h.p.two (by have:=h.p.few;omega) (c.up (by decide)) (d.up (by decide)) (h.b.up (by decide)) h.n3 (by decide) λg a=> ?_;have a:Ca (3*(6*101+205)+1) (gD lo f.2) (fX hi f.2) (Fu f.1) g:=a;have e:=h.b.z.mono (n:=10) (by decide);unfold FY at q;rw[<-N6 (Oh h c d).st h.n3 e,<-a.one (Oh h c d),N6 a.st h.n3 e] at q;exact q
end
def Qt {v w:PV}{a:zy Fl}{lo hi:T3}(hv:v= .tup (a.map IU)\/v= .lst (a.map IU))(hl:a.length<=1000)(h:∀f∈a,Ds f)(b:Cq 40 lo)(c:Cq 40 hi)(hw:S4 lo hi w){Q:PV->Prop}(q:Q (.lst ((a.map (FY lo hi)).map λss=> .tup (ss.map Ao)))):EC [v,w] Q:=by
 apply Pg;rcases hv with rfl|rfl;all_goals
  ac_rfl;refine CP IU (λss=> .tup (ss.map Ao)) (FY lo hi) Ds (λf d R e=> ?_) a [] h ?_
  .ac_rfl;exact Ze d b c ⟨_,_,⟨cor, .inl rfl, .inl rfl⟩, .inl rfl, .inl rfl⟩ hw e
  .rw [AAl];ac_rfl;exact q
theorem QS:∀(sets:zy (zy Ar)),Js (sets.map λss=> .tup (ss.map Ao)) sets
 | [] => .nil
 | s::r=> .cons (.inl rfl) (Ed s) (QS r)
def VZ {sets:zy (zy Ar)}{m:Rat}(h:∀ss∈sets,G9 ss)(hl:sets.length<=100)(bm:Bd 2000 m){Q:PV->Prop}(q:Q (.int (nS sets (m,0)))):Bf [.lst (sets.map λss=> .tup (ss.map Ao)),fr m] Q:=by
 apply KM;ac_rfl;refine F7 (λss:zy Ar=> .tup (ss.map Ao)) (λss:zy Ar=> .tup (ss.map Ao)) (λss=>ss.any (Al · (m,0))) G9 (λss os R N h1 h2=> ?_) sets [] h ?_
 .ac_rfl;refine fy os.ok os.fin (by have:=os.len;omega) (by decide) bm ?_;ac_rfl;split
  .rename_i k;ac_rfl;exact h1 k
  .rename_i k;exact h2 (by simpa using k)
 .rw [AAl];ac_rfl;exact q
def Xo (sets:zy (zy Ar))(x:Rat):nS sets (x,0)<=nS sets (x,1):=by unfold nS;rw[<-ADL,<-ADL];refine AEB λss _ h=> ?_;obtain⟨s,hs,k⟩:=AAk.mp h;exact AAk.mpr ⟨s,hs,bF k⟩
def K1 {sets:zy (zy Ar)}(h:∀ss∈sets,G9 ss):sets.flatten.length<=16*sets.length:=by
 induction sets with
 | nil=>simp
 | cons a r ih=> have:=ih λs hs=>h s (by simp[hs]);have:=(h a (by simp)).len;simp only[ADH,AAg,AAc];omega
def ZI {sets:zy (zy Ar)}{n:Int}(h:∀ss∈sets,G9 ss)(hl:sets.length<=12)(P:0<n){Q:PV->Prop}(q:Q (.tup ((Ey n sets).map Ao))):CH [.lst (sets.map λss=> .tup (ss.map Ao)), .int n] Q:=by
 have S:=K1 h;have u:∀s∈sets.flatten,A8 722 s:=λs hs=>by obtain⟨ss,a,b⟩:=ABr.mp hs;exact(h ss a).ok s b
 have v:∀s∈sets.flatten,∃x,s.2.2=some x:=λs hs=>by obtain⟨ss,a,b⟩:=ABr.mp hs;exact(h ss a).fin s b
 have w:=Ma u;have T:=Ec (ss:=sets.flatten);apply LL;ac_rfl;refine CQ (λss:zy Ar=> .tup (ss.map Ao)) (λus vs τ=>∃c d f g j l,τ= [some (.val (.lst (sets.map λss=> .tup (ss.map Ao)))),some (.val (.int n)),some (.val (.lst ((Ai us.flatten).map fr))),c,d,f,g,j,l]) ?_ ?_ ⟨_,_,_,_,_,_,rfl⟩
 .rintro τ ⟨c,d,f,g,j,l,rfl⟩;ac_rfl;refine LJ (B:=722) (by omega) w (by decide) ?_;have U:=DR (xs:=Ai sets.flatten);have D:=Bl (xs:=Ai sets.flatten);have y:∀x∈BA (Ai sets.flatten),Bd 722 x:=λx hx=>w x (Ax.mp hx);have J:=RL y;have K:=N8 (BA (Ai sets.flatten));have E:∀m,Bd 2000 m->∀{R:PV->Prop},R (.int (nS sets (m,0)))->Bf [.lst (sets.map λss=> .tup (ss.map Ao)),fr m] R:=λm bm {R} k=>VZ h (by omega) bm k;have o:∀s∈sets.flatten,s.1∈BA (Ai sets.flatten)/\∀e,s.2.2=some e->e∈BA (Ai sets.flatten):=λs hs=>⟨Ax.mpr (AAm.mpr ⟨s,hs,by simp⟩),λe he=>Ax.mpr (AAm.mpr ⟨s,hs,by simp[he]⟩)⟩;have L:=dB (qs:=BA (Ai sets.flatten)) (In:=λp=>decide (n<=(nS sets p:Int))) (Q:=Q) (λx _ k=>by
   have:=Xo sets x;simp only[AA8] at k ⊢;omega) (λus x M vs e=>by
   obtain⟨N,F⟩:=YK (e ▸ D);have:nS sets ((x+M)*(1/2:Rat),0)=nS sets (x,1):=by unfold nS;rw[List.filter_congr λss A=>Py λs hs=> ?_];have r:=ABr.mpr ⟨ss,A,hs⟩;exact Xb (u s r) N (F _ (by rw[e];exact(o s r).1)) λz hz=>F _ (by rw[e];exact(o s r).2 z hz)
   simp only[this]) (λus x e=>by
   have key:∀i:Int,nS sets (x,i)=0:=λi=>by unfold nS;rw[ABh,AEC];intro ss A;rw[ADG,ACB];intro s hs;have r:=ABr.mpr ⟨ss,A,hs⟩;obtain⟨ev,he⟩:=v s r;have h1:=(o s r).2 ev he;rw[<-e] at h1;have h2:=Og (e ▸ D) ev h1;simp only[Al,he];simp[h2]
   simp only[key];simp;omega) (by omega) q
  generalize BA (Ai sets.flatten)=qs at *;ac_rfl;refine CP fr PV.bl (λm=>decide (n<=(nS sets (m,0):Int))) (Bd 722) (λm bm R2 k=> ?_) qs [] y ?_
  .ac_rfl;refine E m (bm.mono (by decide)) ?_;ac_rfl;exact k
  rw[AAl];ac_rfl;refine LA (by omega) (λx hx=>(y x hx).mono (by decide)) ?_;ac_rfl;refine CP fr PV.bl (λm=>decide (n<=(nS sets (m,0):Int))) (Bd (2*722+4)) (λm bm R2 k=> ?_) (J9 qs) [] J ?_
  .ac_rfl;refine E m (bm.mono (by decide)) ?_;ac_rfl;exact k
  rw[AAl];ac_rfl;rw[AAe,AAe];exact L
 .rintro us ss vs e τ R G ⟨c,d,f,g,j,l,rfl⟩;have O:ss∈sets:=by rw[<-e];simp
  have os:=h ss O;ac_rfl;refine CQ Ao (λt xs τ=>∃c d f g j l,τ= [some (.val (.lst (sets.map λss=> .tup (ss.map Ao)))),some (.val (.int n)),some (.val (.lst ((Ai (us.flatten++t)).map fr))),c,d,f,g,j,l]) ?_ ?_ ⟨_,_,_,_,_,_,by rw[ABU]⟩
  .rintro τ ⟨c,d,f,g,j,l,rfl⟩;exact G _ ⟨c,d,f,g,j,l,by simp⟩
  .rintro t s xs H τ R2 I ⟨c,d,f,g,j,l,rfl⟩;obtain⟨x,hx⟩:=os.fin s (by rw[<-H];simp);have len:(Ai (us.flatten++t)).length<=1000:=by
    have a:=Ec (ss:=us.flatten++t);have b:(us.flatten++t).length<=sets.flatten.length:=by rw[<-e,<-H];simp only[List.flatten_append,ADH,AAg];omega
    omega
   have C:∀c d f g j l,R2 [some (.val (.lst (sets.map λss=> .tup (ss.map Ao)))),some (.val (.int n)),some (.val (.lst ((Ai (us.flatten++t)).map fr ++ [fr s.1,fr x]))),c,d,f,g,j,l] :=λc d f g j l=>I _ ⟨c,d,f,g,j,l,by
    rw[<-ADq,ZJ _ [s],AAP,show Ai [s] = [s.1,x] by unfold Ai;simp[hx]];rfl⟩
   clear G I;rw[show Ao s= .tup [fr s.1, .int s.2.1,fr x] by unfold Ao;rw[hx];rfl];ac_rfl;exact C _ _ _ _ _ _
def lZ {qs:zy Rat}{In:Pl->km}(last:∀us x,us ++ [x] =qs->In (x,0)=false/\In (x,1)=false):Cc ((places qs).map λp=>(p,In p))=(Bz (qs.map λx=>((x,In (x,0),In (x,1)):Tr))).1:=by
 have ep:((places qs).map λp=>(p,In p))=(qs.map λx=>((x,In (x,0),In (x,1)):Tr)).flatMap jO:=by unfold places;rw[List.map_flatMap,List.flatMap_map];rfl
 have f0:(Bz (qs.map λx=>((x,In (x,0),In (x,1)):Tr))).2=none:=by
  by_cases h0:qs= []
  .rw [h0];rfl
  .obtain ⟨us,x,rfl⟩:∃us x,qs=us ++ [x] :=⟨qs.dropLast,qs.getLast h0,(ABs h0).symm⟩;obtain⟨f0,f1⟩:=last us x rfl;rw[AAP,AAK,ABY,Ep,f0,f1];generalize Bz _=st;obtain⟨A,b⟩:=st;cases b <;> rfl
 rw[ep];unfold Cc Nk;show (match (Bz _).2 with | none=>(Bz _).1|some b=>(Bz _).1 ++ [(b.1,1-b.2,none)])=_;rw[f0]
def gK {sets:zy (zy Ar)}(h:∀ss∈sets,G9 ss):∀us x,us ++ [x] =BA (Ai sets.flatten)->∀i:Int,nS sets (x,i)=0:=λus x e i=>by unfold nS;rw[ABh,AEC];intro ss a;rw[ADG,ACB];intro s hs;have b:=ABr.mpr ⟨ss,a,hs⟩;obtain⟨ev,he⟩:=(h ss a).fin s hs;have h1:ev∈BA (Ai sets.flatten):=Ax.mpr (AAm.mpr ⟨s,b,by simp[he]⟩);rw[<-e] at h1;have h2:=Og (e ▸ Bl (xs:=Ai sets.flatten)) ev h1;simp only[Al,he];simp[h2]
def aj {sets:zy (zy Ar)}{n:Int}(h:∀ss∈sets,G9 ss)(m:0<n):∀r∈Ey n sets,Bd 722 r.1/\(r.2.1=0\/r.2.1=1)/\∃e,r.2.2=some e/\Bd 722 e:=by
 have f:∀s∈sets.flatten,A8 722 s:=λs hs=>by obtain⟨ss,a,b⟩:=ABr.mp hs;exact(h ss a).ok s b
 have d:=Ma f;have e:Ey n sets=_:=lZ (qs:=BA (Ai sets.flatten)) (In:=λp=>decide (n<=(nS sets p:Int))) λus x e=>by simp only[gK h us x e];simp;omega
 rw[e];intro r g;have j:=(Np _ ((BA (Ai sets.flatten)).map λx=>((x,decide (n<=(nS sets (x,0):Int)),decide (n<=(nS sets (x,1):Int))):Tr)) rfl).1 r g;have i:((BA (Ai sets.flatten)).map λx=>((x,decide (n<=(nS sets (x,0):Int)),decide (n<=(nS sets (x,1):Int))):Tr)).map (·.1)=BA (Ai sets.flatten):=by rw[AAe];exact List.map_id' _
 obtain⟨a,e,b,c⟩:=(Nn _ _ rfl (by rw[i];exact Bl) (λt l k=>by
  obtain⟨x,_,rfl⟩:=AAM.mp l;have k:decide (n<=(nS sets (x,0):Int))=true:=k;show decide (n<=(nS sets (x,1):Int))=true;have:=Xo sets x;rw[AA8] at k ⊢;omega)).1 r g
 rw[i] at a c;exact⟨d _ (Ax.mp a),j,e,b,d _ (Ax.mp c)⟩
def dF {sets:zy (zy Ar)}{n:Int}(h:∀ss∈sets,G9 ss)(hl:sets.length<=12)(a:0<n):Sh 3 4992771 (.tup ((Ey n sets).map Ao))/\∀r∈Ey n sets,Sh 2 13000 (Ao r):=by
 have key:∀r∈Ey n sets,Sh 2 13000 (Ao r):=λr c=>by obtain⟨b,k,e,he,f⟩:=aj h a r c;exact(lw (b.mono (by decide)) k ⟨e,he,f.mono (by decide)⟩).1
 have:=fJ (n:=n) (sets:=sets);have:=K1 h;refine⟨(Sh.tup (d:=2) (n:=13000) λx hx=> ?_).mono (by decide) (by rw[AAI];omega),key⟩;obtain⟨s,hs,rfl⟩:=AAM.mp hx;exact key s hs
def QD {cs:zy C4}(p:F1 9 40 cs):F1 9 101 (laterC (10^18) cs):=by
 have bk:Bd 60 ((10:Rat)^18):=⟨by decide +kernel,by decide +kernel⟩;have l:(laterC (10^18) cs).length=cs.length:=by unfold laterC;rw[AAI]
 refine⟨by rw[l];exact p.two,by rw[l];exact p.few,Fa.laterC p.bd bk, ?_⟩;unfold Ll laterC;rw[List.pairwise_map];exact p.ris.imp λh=>by dsimp only;grind
def ko (f:Fl):Xq (IU f)=true:=by show UB [Bb f.1,DB f.2] =true;rw[UB,Bb,Xq,UC (λ_=>rfl) f.1];rfl
def Xp {c:zy Fl}{f:Fl}{i:Nat}{x y:zt AV}{d e:zt AV}{R:A5->Prop}(l:c.length=i)(h:∀f∈c,Ds f)(k:Ds f)(j:∀a:zy Fl,a.length=i+1->(∀f∈a,Ds f)->∀e d,R [some (.val .tape),x,y,some (.own (a.map IU)),e,d]):R [some (.val .tape),x,y,some (.own (c.map IU ++ [.tup [Bb f.1,DB f.2]])),e,d] :=by
 have:=j (c ++ [f]) (by simp[l]) (λg b=>by
  rcases AAO.mp b with b|b
  .exact h g b
  .rw [AAU.mp b];exact k) e d
 rw[AAP] at this;exact this
def X1 {a:zy Fl}{f:Fl}{i:Nat}{k:Int}{x y:zt AV}{c:zt AV}{R:A5->Prop}(l:a.length=i)(h:∀f∈a,Ds f)(r:Ds f)(w:0<=k)(z:k<i+1)(m:∀b:zy Fl,b.length=i+1->(∀f∈b,Ds f)->∀s c,R [some (.val .tape),x,y,some (.own (b.map IU)),s,c]):Am (.lst (a.map IU ++ [.tup [Bb f.1,DB f.2]])) (.int k) λv=>Xq v=true/\MG 3 [some (.val .tape),x,y,some (.own (a.map IU ++ [.tup [Bb f.1,DB f.2]])),some (.val (.int (0+(i:Int)))),c] λxs=>aV 4 [some (.val .tape),x,y,some (.own (a.map IU ++ [.tup [Bb f.1,DB f.2]])),some (.val (.int (0+(i:Int)))),c] λk=>WK k λk=>om (V2 xs.length k) λj=>Wb [some (.val .tape),x,y,some (.own (a.map IU ++ [.tup [Bb f.1,DB f.2]])),some (.val (.int (0+(i:Int)))),c] 3 (AV.own (xs.set j v)) R:=by
 have e:a.map IU ++ [.tup [Bb f.1,DB f.2]] =(a ++ [f]).map IU:=by rw[AAP];rfl
 rw[e];have n:∀g∈a ++ [f],Ds g:=λg d=>by
  rcases AAO.mp d with d|d
  .exact h g d
  .rw [AAU.mp d];exact r
 have o:(a ++ [f]).length=i+1:=by simp[l]
 generalize a ++ [f] =gs at *;have hk:k.toNat<gs.length:=by omega
 have t:gs[k.toNat]? =some gs[k.toNat] :=AAT hk;have u:gs[k.toNat] ∈gs:=ABa hk;generalize gs[k.toNat] =g at *;show eM (Jc (gs.map IU) k) _;rw[show Jc (gs.map IU) k=some (IU g) from by
  have:=Ck (xs:=gs.map IU) (j:=k.toNat) (v:=IU g) (by rw[AAp,t];rfl);rw[show ((k.toNat:Nat):Int)=k by omega] at this;exact this]
 have p:=m (gs.set i g) (by rw[List.length_set];exact o) (λq hq=>by
  rcases List.mem_or_eq_of_mem_set hq with hq|hq
  .exact n q hq
  .rw [hq];exact n g u) (some (.val (.int (0+(i:Int))))) c
 rw[List.map_set] at p;refine⟨ko g, ?_⟩;show om (V2 (gs.map IU).length (0+(i:Int))) _;rw[show V2 (gs.map IU).length (0+(i:Int))=some i from by
  unfold V2;rw[AAI,o];simp;omega]
 exact p
def Q0 {Q:PV->Prop}(q:∀m:zy Fl,m.length<=12->(∀f∈m,Ds f)->Q (.lst (m.map IU))):B7 [.tape] Q:=by
 apply IL;ac_rfl;rename_i a E F b G H c c0 I;obtain⟨n,J,p,z⟩:∃n:Int,0<=n/\n<=12/\∀{R:PV->Prop},R (.int n)->Am (PV.lst [PV.int a,PV.int (7+b)]) (PV.int (if decide (c=0)=true then 1 else 0)) R:=by
  by_cases h:c=0
  .exact ⟨7+b,by omega,by omega,λk=>by rw[AAo h,AAE rfl];exact k⟩
  .exact ⟨a,by omega,by omega,λk=>by rw[AAa h,AAD (by decide)];exact k⟩
 refine z ?_;clear z;ac_rfl;rename_i d K L;refine XX (λi τ=>∃m r s,m.length=i/\(∀f∈m,Ds f)/\τ= [some (.val .tape),some (.val (.int n)),some (.val (.bl (decide (d=0)))),some (.own (m.map IU)),r,s]) ?_ ?_ ⟨[],_,_,rfl,by simp,rfl⟩
 .rintro τ ⟨m,r,s,l,h,rfl⟩;ac_rfl;exact q m (by omega) h
 .rintro i hi τ R A ⟨m,r,s,l,h,rfl⟩;ac_rfl;refine NN λcs x=> ?_;have o:F1 9 40 cs:=x.ok (by decide) (by decide);have e:∀g:zy Fl,g.length=i+1->(∀f∈g,Ds f)->∀r s,R [some (.val .tape),some (.val (.int n)),some (.val (.bl (decide (d=0)))),some (.own (g.map IU)),r,s] :=λg C h' r s=>A _ ⟨g,r,s,C,h',rfl⟩;clear A;ac_rfl
  .refine Mh ?_;rw[rJ];have t:=jt o;generalize cs.take 3=cs at *;ac_rfl
   .have D:=t.few;refine aq (B:=40) (by omega) t.bd (by decide) ?_;ac_rfl;have y:=QD t;clear o x;generalize laterC (10^18) cs=cs at *;refine F4 λb u p v w=> ?_;have j:Ds (cs,b):=⟨y,u,p,v,w⟩;ac_rfl
    .exact X1 (f:=(cs,b)) l h j (by omega) (by omega) e
    .exact Xp (f:=(cs,b)) l h j e
   .refine F4 λb u p v w=> ?_;have j:Ds (cs,b):=⟨⟨t.two,t.few,λc hc=>(t.bd c hc).mono (by decide),t.ris⟩,u,p,v,w⟩;ac_rfl
    .exact X1 (f:=(cs,b)) l h j (by omega) (by omega) e
    .exact Xp (f:=(cs,b)) l h j e
  .have D:=o.few;refine aq (B:=40) (by omega) o.bd (by decide) ?_;ac_rfl;have y:=QD o;clear o x;generalize laterC (10^18) cs=cs at *;refine F4 λb u p v w=> ?_;have j:Ds (cs,b):=⟨y,u,p,v,w⟩;ac_rfl
   .exact X1 (f:=(cs,b)) l h j (by omega) (by omega) e
   .exact Xp (f:=(cs,b)) l h j e
  .refine F4 λb u p v w=> ?_;have j:Ds (cs,b):=⟨⟨o.two,o.few,λc hc=>(o.bd c hc).mono (by decide),o.ris⟩,u,p,v,w⟩;ac_rfl
   .exact X1 (f:=(cs,b)) l h j (by omega) (by omega) e
   .exact Xp (f:=(cs,b)) l h j e
end PL
namespace PL.K7
open PySem L2 PL PyProof.Rows
abbrev Jp:AS:=
 (AY (CN (Aw (AW Ln (aV 2) (aC (.int 0)))) (As (A9 (AB (aC (.int 0)) (AB (aC .non) AL)))) BU)
   (As (A9 (AB (aV 2) (AB (AW Am (AN 2 Dx (AB (aV 1) (AB (aV 2) AL))) (aC (.int 0))) AL)))))
abbrev Qk:AS:=
 (AY (Aj (aP (Ea (Bx (Gj (AN 1 Fk (AB (aV 1) AL))) 3 [] (Jb 3 (Ad (Ak 0) (Ad (Ak 1) (Ad (Ak 2) B0)))) DW (aV 2))) (aC (.int 0))) (Ak 2))
   Jp)
abbrev Pr:AS:=
 (AY (Aj (AN 1 CW (AB (aV 0) AL)) (Ak 1))
   Qk)
def Fn:AF:=An 3 Pr
def Uf {a:PV}{Q:PV->Prop}(h:Pr ⟨λ_=>Q .non,Q,λ_=>False,λ_=>False⟩ [some (.val a),none,none]):Fn [a] Q:=h
theorem QO:∀(X:zy (Pl×km)) (st:zy Ar×zt Pl),(st.1≠ [] \/st.2.isSome=true)->((X.foldl stepI st).1≠ [] \/(X.foldl stepI st).2.isSome=true)
 | [],_,h=>h
 | x::X,st,h=>by
   rw[AAx];refine QO X _ ?_;obtain⟨A,b⟩:=st;obtain⟨p,c⟩:=x;cases b with
   | none=>
     have h:A≠ [] :=by simpa using h
     cases c
     .exact .inl h
     .exact .inr rfl
   | some b=>
     cases c
     .exact .inl (by simp[stepI])
     .exact .inr rfl
theorem QP:∀(X:zy (Pl×km)) (st:zy Ar×zt Pl),(∃x∈X,x.2=true)->((X.foldl stepI st).1≠ [] \/(X.foldl stepI st).2.isSome=true)
 | [],_,h=>by simp at h
 | x::X,st,h=>by
   rw[AAx];by_cases hx:x.2=true
   .refine QO X _ ?_;obtain⟨A,b⟩:=st;obtain⟨p,c⟩:=x;have hx:c=true:=hx;subst hx;cases b <;> exact .inr rfl
   .refine QP X _ ?_;obtain⟨y,hy,h2⟩:=h;rcases AAF.mp hy with rfl|hy
    .exact absurd h2 hx
    .exact ⟨y,hy,h2⟩
def Ua (X:zy (Pl×km)):Cc X≠ [] ↔∃x∈X,x.2=true:=by
 constructor
 .intro h;refine ABS λa=>h (c3 λx hx=> ?_);cases e:x.2 with
  | false=>rfl
  | true=>exact absurd ⟨x,hx,e⟩ a
 .intro h;have:=QP X ([],none) h;unfold Cc Nk;generalize X.foldl stepI ([],none)=st at *;obtain⟨A,b⟩:=st;cases b with
  | none=>simpa using this
  | some b=>simp
def oZ (x y:PV)(Q:PV->Prop):Prop:=match x with | .lst ys=>(match GA ys with | some b=>(b= [] ->Q y)/\(b≠ [] ->∀M,M∈b->(∀a∈b,a<=M)->Q (.int M))|none=>False)|_=>False
instance{a b:AE}{τ:A5}{Q:PV->Prop}:Wp (aP a b τ Q) (a τ λx=>b τ λy=>oZ x y Q):=⟨id⟩
def gE {b:zy Int}{y:PV}{Q:PV->Prop}(h0:b= [] ->Q y)(h:b≠ [] ->∀M,M∈b->(∀a∈b,a<=M)->Q (.int M)):oZ (.lst (b.map PV.int)) y Q:=by show (match GA (b.map PV.int) with | some b=>(b= [] ->Q y)/\(b≠ [] ->∀M,M∈b->(∀a∈b,a<=M)->Q (.int M))|none=>False);rw[ints_map];exact⟨h0,h⟩
structure D1 (sets:List (List Ar)) (M:Int):Prop where
 ge:0<=M
 iff:∀n,0<n->(n<=M↔Ey n sets≠ [])
def D1.uniq {sets:zy (zy Ar)}{M N:Int}(h:D1 sets M)(g:D1 sets N):M=N:=by
 have a:∀{M N:Int},D1 sets M->D1 sets N->M<=N:=λ{M N} h g=>by
  by_cases h0:0<M
  .exact (g.iff M h0).mpr ((h.iff M h0).mp (ACA _))
  .have:=g.ge;have:=h.ge;omega
 exact Int.le_antisymm (a h g) (a g h)
def IW (sets:zy (zy Ar))(M:Int):PV:=if M=0 then .tup [.int 0, .non] else match Ey M sets with | s::_=> .tup [.int M,Ao s] | [] => .non
def bi {v:PV}{vs:zy PV}{sets:zy (zy Ar)}(hv:v= .tup vs\/v= .lst vs)(g:Js vs sets)(ok:∀ss∈sets,∀s∈ss,A8 1930 s)(hl:sets.flatten.length<=200){Q:PV->Prop}(q:∀M,D1 sets M->Q (IW sets M)):Fn [v] Q:=by
 have l:=Qs (sets:=sets);have a:∀s∈sets.flatMap (canon 1),A8 1930 s:=λs hs=>by obtain⟨ss,h1,h2⟩:=AAm.mp hs;exact Fq (ok ss h1) s h2
 have cs:∀n:Int,0<n->canon n (sets.flatMap (canon 1))=Ey n sets:=λn c=>VX c ok;apply Uf;ac_rfl;refine jn hv g ok (by omega) (by decide) ?_;generalize sets.flatMap (canon 1)=ss at *;ac_rfl;refine QM (.inr rfl) (Ed ss) a (by omega) (by decide) λkey hk=> ?_;have m:(K9 ss key).length<=2000:=AAf Tx (by omega);have i:∀n:Int,0<n->Cc ((K9 ss key).map λx=>(x.1,decide (n<=x.2)))=Ey n sets:=λn c=>by rw[TB a c hk,cs n c]
 have j:∀x∈K9 ss key,0<=x.2:=λx hx=>by obtain⟨p,_,rfl⟩:=AAM.mp hx;exact Int.natCast_nonneg _
 have d:∀M,D1 sets M->Jp ⟨λ_=>Q .non,Q,λ_=>False,λ_=>False⟩ [some (.val v),some (.val (.lst (ss.map Ao))),some (.val (.int M))] :=λM mo=>by
  have b:=q M mo;have o:=mo.ge;ac_rfl
  .rename_i h;unfold IW at b;rw[AAE h] at b;exact b
  .rename_i h;refine Ni (.inr rfl) (Ed ss) a (by omega) (by decide) (by omega) ?_;rw[cs M (by omega)];have k:=(mo.iff M (by omega)).mp (ACA _);unfold IW at b;rw[AAD h] at b;cases e:Ey M sets with
   | nil=>exact absurd e k
   | cons s r=> rw[e] at b;rw[AAK];ac_rfl;exact b
 generalize K9 ss key=L at *;have most:∀M:Int,0<=M->(∀x∈L,x.2<=M)->(0<M->∃x∈L,x.2=M)->D1 sets M:=λM h0 h1 h2=>by
  refine⟨h0,λn c=> ?_⟩;rw[<-i n c,Ua];constructor
  .intro h;obtain⟨x,hx,e⟩:=h2 (by omega);refine⟨_,AAM.mpr ⟨x,hx,rfl⟩, ?_⟩;show decide (n<=x.2)=true;rw[AA8];omega
  .rintro ⟨y,hy,f⟩;obtain⟨x,hx,rfl⟩:=AAM.mp hy;have f:decide (n<=x.2)=true:=f;rw[AA8] at f;have:=h1 x hx;omega
 ac_rfl;refine CP oY PV.int (λx=>x.2) (λ_=>True) (λx _ R h=> ?_) L [] (λ_ _=>trivial) ?_
 .ac_rfl;exact⟨rfl,h⟩
 rw[AAl];ac_rfl;refine gE (λh0=> ?_) (λh0 M m1 m2=> ?_)
 .have e:L= [] :=by simpa using h0
  exact d 0 (most 0 (ACA _) (by rw[e];simp) (by omega))
 .obtain ⟨x,hx,e⟩:=AAM.mp m1;have e:x.2=M:=e;have:=j x hx;exact d M (most M (by omega) (λy hy=>m2 _ (AAM.mpr ⟨y,hy,rfl⟩)) (λ_=>⟨x,hx,e⟩))
end PL.K7
namespace PL.K43
open PySem L2 PL PyProof.Rows PL.K31 PL.K7
abbrev Pp:AS:=
 (As (AN 1 Fn (AB (AN 2 EC (AB (aV 0) (AB (aV 1) AL))) AL)))
def DY:AF:=An 2 Pp
def Ud {a b:PV}{Q:PV->Prop}(h:Pp ⟨λ_=>Q .non,Q,λ_=>False,λ_=>False⟩ [some (.val a),some (.val b)]):DY [a,b] Q:=h
abbrev MB:AS:=
 (AY (Aj (AW BS (Zs (aV 4) Zt (Zu (aC (.int 3)))) (A9 (AB (AW BS (AW BS (AW Am (aV 4) (aC (.int 3))) (aC (.int 1))) (AN 2 BB (AB (aV 2) (AB (aC (.int 9)) AL)))) AL))) (Ak 8))
   (CN (NX (Aw (AN 2 Ct (AB (Ea (DE (AB (AN 2 DY (AB (aV 3) (AB (aV 4) AL))) (AB (AN 2 DY (AB (aV 3) (AB (aV 8) AL))) AL)))) (AB (Ea (DE (AB (aV 7) (AB (aV 7) AL)))) AL))))) (As (aC (.bl false))) BU))
abbrev MA:AS:=
 (AY (CN (Aw (AW Yx (aV 6) (aC (.int 0)))) (Aj (A9 (AB (aV 6) (AB (AW Am (AN 2 CH (AB (aV 5) (AB (aV 6) AL))) (aC (.int 0))) AL))) (Ak 7)) BU)
   MB)
abbrev L9:AS:=
 (AY (Aj (A9 (AB (aC (.int 0)) (AB (aC .non) AL))) (Ak 7))
   MA)
abbrev L8:AS:=
 (AY (HA (E9 (Aw (AW Yx (aV 6) (aC (.int 0)))) (Aw (AW Ln (AN 2 CH (AB (aV 5) (AB (aV 6) AL))) (A9 AL)))) (Aj (AW HC (aV 6) (aC (.int 1))) (Ak 6)))
   L9)
abbrev GX:AS:=
 (AY (Aj (F2 IJ (AB (Ea (Bx (Gj (aV 5)) 1 [] (Ak 0) (Aw (AW Yy (aV 0) (A9 AL))) (aV 0))) AL)) (Ak 6))
   L8)
abbrev L7:AS:=
 (AY (Aj (Ea (Bx (Gj (aV 3)) 1 [4] (Ak 0) DW (AN 2 Bt (AB (aV 0) (AB (aV 1) AL))))) (Ak 5))
   GX)
abbrev L6:AS:=
 (AY (Aj (AN 1 CV (AB (aV 2) AL)) (Ak 4))
   L7)
abbrev L5:AS:=
 (AY (Aj (AN 1 B7 (AB (aV 2) AL)) (Ak 3))
   L6)
abbrev Qj:AS:=
 (AY (Aj (AN 2 NR (AB (aV 0) (AB (aV 1) AL))) (Ak 2))
   L5)
abbrev Pq:AS:=
 (AY (EH (NY (AB (AW BS (aC (.int 1)) (F2 (j4 min) (AB (aC (.int 4)) (AB (F2 IJ (AB (aV 0) AL)) AL)))) AL)) (Ak 1) Qj)
   (As (aC (.bl true))))
def EW:AF:=An 9 Pq
def Ue {a:PV}{Q:PV->Prop}(h:Pq ⟨λ_=>Q .non,Q,λ_=>False,λ_=>False⟩ [some (.val a),none,none,none,none,none,none,none,none]):EW [a] Q:=h
def Oa {a:zy Fl}{lo hi:T3}(h:∀f∈a,Ds f)(b:Cq 40 lo)(c:Cq 40 hi):∀ss∈a.map (FY lo hi),G9 ss:=λss hs=>by obtain⟨f,d,rfl⟩:=AAM.mp hs;exact hJ (h f d) b c
def Nq {v w:PV}{a:zy Fl}{lo hi:T3}(hv:v= .tup (a.map IU)\/v= .lst (a.map IU))(hl:a.length<=12)(h:∀f∈a,Ds f)(b:Cq 40 lo)(c:Cq 40 hi)(hw:S4 lo hi w){Q:PV->Prop}(q:∀M,D1 (a.map (FY lo hi)) M->Q (IW (a.map (FY lo hi)) M)):DY [v,w] Q:=by have d:=Oa h b c;have e:=K1 d;rw[AAI] at e;apply Ud;ac_rfl;refine Qt hv (by omega) h b c hw ?_;ac_rfl;exact bi (.inr rfl) (QS _) (λss hs s g=>((d ss hs).ok s g).mono (by decide)) (by omega) q
def Vf {sets:zy (zy Ar)}{n:Int}:Ey n sets= [] ↔∀p∈LY sets,(nS sets p:Int)<n:=by
 have:=Ua ((LY sets).map λp=>(p,decide (n<=(nS sets p:Int))));constructor
 .intro e p hp;refine ABS λa=> ?_;exact this.mpr ⟨_,AAM.mpr ⟨p,hp,rfl⟩,by show decide (n<=(nS sets p:Int))=true;rw[AA8];omega⟩ e
 .intro h;refine ABS λa=> ?_;obtain⟨x,hx,k⟩:=this.mp a;obtain⟨p,hp,rfl⟩:=AAM.mp hx;have k:decide (n<=(nS sets p:Int))=true:=k;rw[AA8] at k;have:=h p hp;omega
def Xn {sets:zy (zy Ar)}{n:Int}(a:0<=n)(hi:∀k,n<k->Ey k sets= [])(lo:0<n->Ey n sets≠ []):D1 sets n:=by
 refine⟨a,λk hk=>⟨λh e=> ?_,λh=> ?_⟩⟩
 .exact lo (by omega) (Vf.mpr λp hp=>by have:=Vf.mp e p hp;omega)
 .refine ABS λb=>h (hi k (by omega))
def oh (sets:zy (zy Ar))(p:Pl):nS sets p<=(sets.filter λss=> !decide (ss= [])).length:=by
 unfold nS;rw[<-ADL,<-ADL];refine AEB λss _ h=> ?_;obtain⟨s,hs,k⟩:=AAk.mp h;cases ss with
 | nil=>simp at hs
 | cons a b=>rfl
def hU {sets:zy (zy Ar)}{M:Int}(h:∀ss∈sets,G9 ss)(hl:sets.length<=12)(m:D1 sets M)(c:M<=12):Sh 3 40000 (IW sets M):=by
 unfold IW;split
 .exact (Sh.tup (d:=2) (n:=2000) (gF ((Sh.int (i:=0) (by decide)).mono (by decide) (by decide)) ⟨rfl,rfl,by decide +kernel⟩)).mono (by decide) (by simp)
 .have m0:0<M:=by have:=m.ge;omega
  have a:=(m.iff M m0).mp (ACA _);have b:=(dF h hl m0).2;split
  .rename_i s r e;refine(Sh.tup (gF ((Sh.int (i:=M) ?_).mono (by decide) (by decide)) (b s (by rw[e];simp)))).mono (by decide) (by simp);exact AAX (show M.natAbs<2^10 by omega) (ADd (by decide) (by decide))
  .rename_i e;exact absurd e a
def ig (a:zy Ar):ie (.tup (a.map Ao)) (.tup [])=decide (a= []):=by cases a <;> rfl
def g6 {a:zy Ar}(b:PB (.tup (a.map Ao))){Q:PV->Prop}(q:Q (.bl (!decide (a= [])))):Yy (.tup (a.map Ao)) (.tup []) Q:=by refine⟨⟨b.ok,rfl⟩, ?_⟩;rw[ig];exact q
def gz {a:zy Ar}(b:PB (.tup (a.map Ao))){Q:PV->Prop}(q:Q (.bl (decide (a= [])))):Ln (.tup (a.map Ao)) (.tup []) Q:=by refine⟨⟨b.ok,rfl⟩, ?_⟩;rw[ig];exact q
def jy {d:zy Int}{i:PV}{nm:Str}{mo M ot:Int}{a:zy Fl}{lo hi:T3}{R bk:A5->Prop}(hl:a.length<=12)(h:∀f∈a,Ds f)(b:Cq 40 lo)(c:Cq 40 hi)(m:D1 (a.map (FY lo hi)) M)(g:M<=12)(again:∀j k l n o p r s,R [some (.val (.scr d)),j,k,l,n,o,p,r,s]):(CN (NX (Aw (AN 2 Ct (AB (Ea (DE (AB (AN 2 DY (AB (aV 3) (AB (aV 4) AL))) (AB (AN 2 DY (AB (aV 3) (AB (aV 8) AL))) AL)))) (AB (Ea (DE (AB (aV 7) (AB (aV 7) AL)))) AL))))) (As (aC (.bl false))) BU) {nx:=R,rt:=λx=>x= .bl true,bk:=bk,ct:=R} [some (.val (.scr d)),some (.val i),some (.val .tape),some (.val (.lst (a.map IU))),some (.val (.tup [.str nm,DB lo,DB hi, .int mo])),some (.val (.lst ((a.map (FY lo hi)).map λss=> .tup (ss.map Ao)))),some (.val (.int M)),some (.val (IW (a.map (FY lo hi)) M)),some (.val (.tup ([.str nm,DB lo,DB hi] ++ [.int ot])))] :=by
 have t:=Oa h b c;have u:(a.map (FY lo hi)).length<=12:=by rw[AAI];exact hl
 have e:=hU t u m g;have sc:PB (.lst [IW (a.map (FY lo hi)) M,IW (a.map (FY lo hi)) M]):=(Sh.lst (gF e e)).go (by decide) (by simp);ac_rfl;refine Nq (.inr rfl) hl h b c ⟨_,_,_,_, .inl rfl, .inl rfl, .inl rfl⟩ λM1 m1=> ?_;rw[m1.uniq m];ac_rfl;refine Nq (.inr rfl) hl h b c ⟨_,_,_,_, .inl rfl, .inl rfl, .inl rfl⟩ λM1 m1=> ?_;rw[m1.uniq m];ac_rfl;refine c5 sc rfl ?_;ac_rfl;exact again _ _ _ _ _ _ _ _
def gw {g:zy Int}{i:PV}{nm:Str}{mo:Int}{a:zy Fl}{lo hi:T3}{R bk:A5->Prop}{t b c:zt AV}(hl:a.length<=12)(h:∀f∈a,Ds f)(B:Cq 40 lo)(C:Cq 40 hi)(again:∀E F G H I t b c,R [some (.val (.scr g)),E,F,G,H,I,t,b,c]):GX {nx:=R,rt:=λx=>x= .bl true,bk:=bk,ct:=R} [some (.val (.scr g)),some (.val i),some (.val .tape),some (.val (.lst (a.map IU))),some (.val (.tup [.str nm,DB lo,DB hi, .int mo])),some (.val (.lst ((a.map (FY lo hi)).map λss=> .tup (ss.map Ao)))),t,b,c] :=by
 have u:=Oa h B C;have v:(a.map (FY lo hi)).length<=12:=by rw[AAI];exact hl
 have l:=λ{n:Int} (w:0<n) {Q:PV->Prop} (q:Q (.tup ((Ey n (a.map (FY lo hi))).map Ao)))=>ZI u v w q;have y:=oh (a.map (FY lo hi));have o:=λM m J ot=>jy (R:=R) (bk:=bk) (i:=i) (nm:=nm) (mo:=mo) (ot:=ot) (M:=M) hl h B C m J again;generalize a.map (FY lo hi)=sets at *;have K:(sets.filter λss=> !decide (ss= [])).length<=12:=AAf (AD9 ..) v;ac_rfl;refine F7 (λss:zy Ar=> .tup (ss.map Ao)) (λss:zy Ar=> .tup (ss.map Ao)) (λss=> !decide (ss= [])) G9 (λss os R N h1 h2=> ?_) sets [] u ?_
 .have z:=(hX os.ok os.fin (by decide) (by have:=os.len;omega)).go (by decide) (by decide);ac_rfl;refine g6 z ?_;ac_rfl
  .exact h1 (by simp_all)
  .exact h2 (by simp_all)
 rw[AAl];have L:∀k,((sets.filter λss=> !decide (ss= [])).length:Int)<k->Ey k sets= [] :=λk hk=>Vf.mpr λp _=>by have:=y p;omega
 ac_rfl;generalize (sets.filter λss=> !decide (ss= [])).length=N at *;refine d4 (λn τ=>∃(k:Nat) (b c:zt AV),n=k+1/\k<=12/\(∀j:Int,(k:Int)<j->Ey j sets= [])/\τ= [some (.val (.scr g)),some (.val i),some (.val .tape),some (.val (.lst (a.map IU))),some (.val (.tup [.str nm,DB lo,DB hi, .int mo])),some (.val (.lst (sets.map λss=> .tup (ss.map Ao)))),some (.val (.int k)),b,c]) ?_ ?_ (n:=N+1) ⟨N,b,c,rfl,K,L,rfl⟩
 .rintro n τ R2 O ⟨k,b,c,w,hk,hj,rfl⟩;rw[show frz [some (AV.val (PV.scr g)),some (AV.val i),some (AV.val PV.tape),some (AV.val (PV.lst (a.map IU))),some (AV.val (PV.tup [PV.str nm,DB lo,DB hi,PV.int mo])),some (AV.val (PV.lst (sets.map λss=>PV.tup (ss.map Ao)))),some (AV.val (PV.int k)),b,c] = [some (AV.val (PV.scr g)),some (AV.val i),some (AV.val PV.tape),some (AV.val (PV.lst (a.map IU))),some (AV.val (PV.tup [PV.str nm,DB lo,DB hi,PV.int mo])),some (AV.val (PV.lst (sets.map λss=>PV.tup (ss.map Ao)))),some (AV.val (PV.int k)),Yz b,Yz c] from rfl];ac_rfl
  .rename_i P;have P:0<k:=by omega
   have z:=(dF u v (n:=k) (by omega)).1.go (by decide) (by decide);refine l (by omega) ?_;ac_rfl;refine gz z ?_;ac_rfl
   .rename_i e;refine O _ ⟨k-1,b,c,by omega,by omega,λj U=> ?_,by rw[show ((k-1:Nat):Int)=(k:Int)-1 by omega]⟩;by_cases S:j=k
    .rw [S];exact e
    .exact hj j (by omega)
   .rename_i e _;have A:D1 sets k:=Xn (by omega) hj λ_=>e;have d:=o k A (by omega);unfold IW at d;rw[AAD (by omega)] at d;refine l (by omega) ?_;cases D:Ey k sets with
    | nil=>exact absurd D e
    | cons s r=> rw[D] at d;rw[AAK];ac_rfl;refine⟨lz, ?_⟩;exact d _
   .exfalso;omega
  .exfalso;omega
  .have T:k=0:=by omega
   subst T;have d:=o 0 (Xn (by omega) hj (by omega)) (by omega);refine⟨lz, ?_⟩;exact d _
 .rintro τ ⟨k,b,c,w,_⟩;omega
def bY (l:zy Int)(s:l.length<=63):EW [.scr l] λx=>x= .bl true:=by
 apply Ue;repeat' array_get_dec
 refine XX (λi τ=>∃a b c d e g j k,τ= [some (.val (.scr l)),a,b,c,d,e,g,j,k]) ?_ ?_ ⟨_,_,_,_,_,_,_,_,rfl⟩
 .rintro τ ⟨a,b,c,d,e,g,j,k,rfl⟩;repeat' array_get_dec
 .rintro i hi τ R m ⟨a,b,c,d,e,g,j,k,rfl⟩;have again:∀a b c d e g j k,R [some (.val (.scr l)),a,b,c,d,e,g,j,k] :=λa b c d e g j k=>m _ ⟨a,b,c,d,e,g,j,k,rfl⟩;clear m;ac_rfl;refine Q0 λp hl h=> ?_;ac_rfl;refine gx λnm lo hi mo t n o m1 m2=> ?_;ac_rfl;refine CP IU (λss=> .tup (ss.map Ao)) (FY lo hi) Ds (λf r R m=> ?_) p [] h ?_
  .ac_rfl;exact fH r n o m
  .rw [AAl];exact gw hl h n o again
end PL.K43
section
namespace K43
open PySem L2 PL PL.K43 PL.K31 PL.K7 PyProof.Rows
def DJ {N Q:zy Str}{s:Scope}(a:s.kind= .function:=by rfl)(b:s.isCoroutine=false:=by rfl)(c:s.isGenerator=false:=by rfl)(d:N.Nodup:=by decide +kernel)(e:N.take Q.length=Q:=by rfl)(f:∀x∈Q,s.names.lookup x=some .local\/s.names.lookup x=some .cell:=by decide +kernel)(g:∀y∈s.names,y.2≠ .free:=by decide +kernel):EO N Q s:=⟨a,b,c,d,e,f,g⟩
section
variable (P:kj)(w:ki)(K:AAB)(Z:Str->zt zx)(Y:kf)(n:Nat)
abbrev Cw:=Has P w K Z Y n "_law_draw" ["_law_tape_here","_law_many_here"] (Cf K 2 BB)
abbrev PP:=Has P w K Z Y n "_law_bounds" ["_law_tape_here"] (Cf K 1 DM)
abbrev Dd:=Has P w K Z Y n "_law_part" ["_law_top","_law_bottom"] (Cf K 2 A0)
abbrev Cy:=Has P w K Z Y n "_law_sum" ["_law_one","_law_other"] (Cf K 2 BN)
abbrev Vl:=Has P w K Z Y n "_law_far" ["_law_plan_here"] (Cf K 1 Eg)
abbrev J1:=Has P w K Z Y n "_law_place" ["_law_tape_here"] (Cf K 1 BD)
abbrev Lo:=Has P w K Z Y n "_law_span" ["_law_tape_here"] (Cf K 1 Cu)
abbrev TW:=Has P w K Z Y n "_law_plan" ["_law_tape_here"] (Cf K 1 E3)
abbrev Nu:=Has P w K Z Y n "_law_flights" ["_law_tape_here"] (Cf K 1 B7)
abbrev Dc:=Has P w K Z Y n "_law_less" ["_law_one","_law_other"] (Cf K 2 A1)
abbrev RA:=Has P w K Z Y n "_law_is_in" ["_law_stretches","_law_m"] (Cf K 2 CU)
abbrev Q9:=Has P w K Z Y n "_law_count" ["_law_sets","_law_m"] (Cf K 2 Bf)
abbrev Et:=Has P w K Z Y n "_law_product" ["_law_one","_law_other"] (Cf K 2 Bw)
abbrev Er:=Has P w K Z Y n "_law_middles" ["_law_marks_here"] (Cf K 1 Bu)
abbrev FN:=Has P w K Z Y n "_law_rising" ["_law_some"] (Cf K 1 BL)
abbrev Iq:=Has P w K Z Y n "_law_set" ["_law_marks_here","_law_here","_law_gaps"] (Cf K 3 BM)
abbrev TV:=Has P w K Z Y n "_law_many" ["_law_sets","_law_many_here"] (Cf K 2 CH)
abbrev Es:=Has P w K Z Y n "_law_off" ["_law_one","_law_other"] (Cf K 2 BY)
abbrev TX:=Has P w K Z Y n "_law_room" ["_law_tape_here"] (Cf K 1 CV)
abbrev TY:=Has P w K Z Y n "_law_same" ["_law_found","_law_due"] (Cf K 2 Ct)
abbrev Vk:=Has P w K Z Y n "_law_box" ["_law_flight","_law_room_here"] (Cf K 2 Ef)
abbrev PQ:=Has P w K Z Y n "_law_may_be" ["_law_own_here","_law_late","_law_m"] (Cf K 3 CC)
abbrev J3:=Has P w K Z Y n "_law_ratio" ["_law_one","_law_other"] (Cf K 2 C6)
abbrev TZ:=Has P w K Z Y n "_law_spot" ["_law_plan_here","_law_m"] (Cf K 2 E4)
abbrev K3:=Has P w K Z Y n "_law_is_inside" ["_law_plan_here","_law_low","_law_high","_law_m"] (Cf K 4 BX)
abbrev RB:=Has P w K Z Y n "_law_marks" ["_law_plan_here","_law_low","_law_high"] (Cf K 3 CI)
abbrev Vm:=Has P w K Z Y n "_law_own" ["_law_plan_here","_law_low","_law_high"] (Cf K 3 Eh)
abbrev K4:=Has P w K Z Y n "_law_stays_due" ["_law_flight","_law_room_here"] (Cf K 2 Bt)
abbrev Ta:=Has P w K Z Y n "_law_tape" ["_law_script","_law_k"] (Cf K 2 NR)
abbrev Te:=Has P w K Z Y n "common" ["one","other"] (Cf K 2 G6)
abbrev Nv:=Has P w K Z Y n "part" ["top","bottom"] (Cf K 2 Fz)
abbrev bC:=Has P w K Z Y n "plus" ["one","other"] (Cf K 2 Kr)
abbrev Td:=Has P w K Z Y n "before" ["one","other"] (Cf K 2 A1)
abbrev PR:=Has P w K Z Y n "count_below" ["numbers","number"] (Cf K 2 DO)
abbrev bD:=Has P w K Z Y n "rising" ["numbers"] (Cf K 1 G7)
abbrev Vt:=Has P w K Z Y n "steps_of" ["stretches"] (Cf K 1 Hh)
abbrev Tf:=Has P w K Z Y n "levels" ["stretches"] (Cf K 1 Fk)
abbrev QF:=Has P w K Z Y n "counted" ["stretches","n"] (Cf K 2 Dx)
abbrev Nx:=Has P w K Z Y n "told_set" ["stretches"] (Cf K 1 D0)
abbrev Vp:=Has P w K Z Y n "later_by" ["stretches","by"] (Cf K 2 Ej)
abbrev bE:=Has P w K Z Y n "summed" ["one","many","other","more"] (Cf K 4 G8)
abbrev Y1:=Has P w K Z Y n "crossed" ["low","high","at"] (Cf K 3 Fj)
abbrev Vo:=Has P w K Z Y n "is_never" ["plane"] (Cf K 1 Dy)
abbrev QG:=Has P w K Z Y n "turn_of" ["plane","at"] (Cf K 2 DZ)
abbrev RC:=Has P w K Z Y n "is_tighter" ["plane","other","at"] (Cf K 3 Dj)
abbrev Nw:=Has P w K Z Y n "tightest" ["planes","at","sign"] (Cf K 3 Cv)
abbrev Vn:=Has P w K Z Y n "fault_in" ["planes","at"] (Cf K 2 Ei)
abbrev RD:=Has P w K Z Y n "minus" ["one","other"] (Cf K 2 EA)
abbrev j5:=Has P w K Z Y n "over" ["one","other"] (Cf K 2 NQ)
abbrev fS:=Has P w K Z Y n "times" ["one","other"] (Cf K 2 Jr)
abbrev MK:=Has P w K Z Y n "piece_between" ["former","latter"] (Cf K 2 B4)
abbrev Th:=Has P w K Z Y n "pieces_of" ["plan"] (Cf K 1 EE)
abbrev Vq:=Has P w K Z Y n "negative" ["number"] (Cf K 1 Dz)
abbrev ML:=Has P w K Z Y n "shared_bottom" ["numbers"] (Cf K 1 CY)
abbrev Vr:=Has P w K Z Y n "plane_of" ["form","strict","number"] (Cf K 3 CO)
abbrev Ti:=Has P w K Z Y n "planes_in" ["piece","walls"] (Cf K 2 EF)
abbrev Vs:=Has P w K Z Y n "range_in" ["planes","at"] (Cf K 2 Ek)
abbrev Tg:=Has P w K Z Y n "own_stays" ["plan","walls"] (Cf K 2 ED)
abbrev Y4:=Has P w K Z Y n "size_of" ["apart","side"] (Cf K 2 EY)
abbrev Vu:=Has P w K Z Y n "walls_of" ["room","bounds"] (Cf K 2 El)
abbrev fR:=Has P w K Z Y n "stays" ["flight","room"] (Cf K 2 Hg)
abbrev Tc:=Has P w K Z Y n "all_stays" ["flights","room"] (Cf K 2 EC)
abbrev MJ:=Has P w K Z Y n "all_stretches" ["sets"] (Cf K 1 CW)
abbrev Y3:=Has P w K Z Y n "most_in" ["sets"] (Cf K 1 Fn)
abbrev Y2:=Has P w K Z Y n "fullest" ["flights","room"] (Cf K 2 DY)
end
section
variable {P:kj}{w:ki}{K:AAB}{Z:Str->zt zx}{Y:kf}{n m:Nat}{f:zu}{U:FuncData}
theorem KW:EO ["_law_tape_here","_law_many_here","_law_once","_law_found"] ["_law_tape_here","_law_many_here"] (BO FF):=DJ
theorem RO (F:VH K "_law_draw" "_law_draw" FF f U):Em P w K Z Y Sy (n+1) f U ["_law_tape_here","_law_many_here"] (Cf K 2 BB):=by
 have k:=KW.nd;refine F.ok KW (λvs H Q E h=> ?_) (λu A outer s H vs Q E J h=> ?_)
 .obtain ⟨T,M,xs,v,_,_,r,hl,_⟩:=h;rw[r.length,hl] <;> rfl
 obtain⟨T,M,xs,v,va,_,r,hl,hF,hQ⟩:=h;unfold BB at hF;split at hF <;> first | exact hF.elim|skip
 rename_i m;obtain⟨⟨m0,m1⟩,hF⟩:=hF;cases r with
 | cons r j=>
 cases j with
 | cons y j=>
 cases j;cases y;cases r with
 | tape tp=>
 rename_i p;obtain⟨d,x,hp,l,z,B⟩:=va.tp p tp;refine⟨_,(Bk (Xz (Md jC (Lr FC (pv 0) A3 (λ_ _=>rfl)) A3 (B3 _)) (Bk (FR (i:=3) k rfl (Or.inl rfl) (B8 GC (Lr FC (pv 0) A3 (λ_ _=>rfl)) (pv 1)))
  (Bk (Rj (B8 cC (Lr FC (pv 0) A3 (λ_ _=>rfl)) (pv 1)) (WM (pv 0) A3 OZ))
  (ET (OL (pv 3))))) Mc)
  (Bk (Rj (B8 GC (B8 HE (B8 Hr (Lr FC (pv 0) A3 (λ_ _=>rfl)) A3) A3) A3) (WM (pv 0) A3 OZ))
  (Bk (FR (i:=2) k rfl (Or.inl rfl) (B8 GC (B8 Hr (Lr FC (pv 0) A3 (λ_ _=>rfl)) (B8 HE (B8 GC (Lr FC (pv 0) A3 (λ_ _=>rfl)) A3) A3)) A3))
  (ET (OL (B8 GC (B8 GC (B8 Hr (pv 2) (B8 HE (B8 GC (pv 2) A3) A3)) A3) (pv 1))))))), ?_⟩
 have e:∀(r d' g:Int),0<=r->r<m->0<=d'->0<=g->g<2147483647->Q (.int r) (upd H p (.lst [.int d', .int g])):=λr d' g C D a b c=>
  hQ _ (.int r) T _ (dn va.tp tp a b c) (.int r) (hF r C D)
 refine⟨_,rfl,p,_,_,_,rfl,rfl,E8.of hp,rfl,_,_,rfl,rfl,_,rfl, ?_⟩;refine oR (λc=> ?_) (λc=> ?_)
 .refine ⟨_,rfl,p,_,_,_,rfl,rfl,E8.of hp,rfl,_,rfl,_,_,rfl,rfl,m0, ?_⟩;refine⟨_,rfl,p,_,_,_,rfl,rfl,E8.of hp,rfl,_,rfl,_,_,rfl,rfl,⟨m0,by omega⟩, ?_⟩;refine⟨_,rfl,p,_,_,_,rfl,rfl,hp,rfl, ?_⟩;exact⟨_,rfl,e _ _ _ (ACa _ (by omega)) (ACb _ m0) (Int.ediv_nonneg l (by omega)) z B⟩
 .refine ⟨_,rfl,p,_,_,_,rfl,rfl,E8.of hp,rfl,_,_,rfl,rfl, .inl (.inr ⟨by decide,by decide⟩),_,_,rfl,rfl,_,_,rfl,rfl,(show (0:Int)<2147483647 by decide), ?_⟩;refine⟨_,rfl,p,_,_,_,rfl,rfl,hp,rfl, ?_⟩;have o:0<=(x*48271+12345) % 2147483647:=ACa _ (by decide);have y1:(x*48271+12345) % 2147483647<2147483647:=ACb _ (by decide);have t:upd H p (.lst ([V.int d,V.int x].set (Int.toNat 1) (V.int ((x*48271+12345) % 2147483647)))) p=some (.lst [.int d, .int ((x*48271+12345) % 2147483647)]):=Aa;have G:0<=(x*48271+12345) % 2147483647*((x*48271+12345) % 2147483647 % 1009+3) % 2147483629:=ACa _ (by decide);have I:(x*48271+12345) % 2147483647*((x*48271+12345) % 2147483647 % 1009+3) % 2147483629<2147483629:=ACb _ (by decide);refine⟨_,rfl,p,_,_,_,rfl,rfl,E8.of t,rfl,_,rfl,p,_,_,_,rfl,rfl,E8.of t,rfl,_,_,rfl,rfl,(show (0:Int)<1009 by decide),_,_,rfl,rfl,_,_,rfl,rfl, .inl (.inl (Od o y1)),_,_,rfl,rfl,(show (0:Int)<2147483629 by decide), ?_⟩;refine⟨_,rfl,_,rfl,_,_,rfl,rfl,(show (0:Int)<997 by decide),_,_,rfl,rfl,_,_,rfl,rfl, .inl (.inl (Od G (Int.lt_trans I (by decide)))),_,_,rfl,rfl,(show (0:Int)<998244353 by decide),_,rfl,_,_,rfl,rfl,m0, ?_⟩;exact e _ _ _ (ACa _ (by omega)) (ACb _ m0) l o y1
theorem DX {P:kj}{w:ki}{K:AAB}{Z:Str->zt zx}{Y:kf}{x q:Str}{st:Stmt}{f:zu}{U:FuncData}{N:zy Str}{k n:Nat}{b:AS}(F:VH K x q st f U)(S:EO N (N.take n) (BO st))(a:n=(N.take n).length)(h:∀(v:zx) (A:ke) (o:zy Env) (s:zw) (H:Hp) (E:XK),Room k (A.deeper (envOfC q (BO st) s.heap.objs.size f v))->N.Nodup->Zr (TK Sy P w K Z Y N q (BO st) f v A o s H E).nox (EB st) b):Em P w K Z Y Sy (k+1) f U (N.take n) (Cf K n (An N.length b)):=
 fL F S a λv A o s H E r=>h v A o s H E r S.nd
abbrev Z1 (K:AAB)(x:Str)(s:Stmt)(f:zu)(d:FuncData):=VH K x x s f d
abbrev Z2 (P:kj)(w:ki)(K:AAB)(Z:Str->zt zx)(b:kf)(n:Nat)(f:zu)(d:FuncData)(N:zy Str)(k:Nat)(F:AF):=Em P w K Z b Sy (n+1) f d (N.take k) (Cf K k F)
theorem OD (F:Z1 K "_law_bounds" FS f U)(b:Cw P w K Z Y n):Z2 P w K Z Y n f U ["_law_tape_here","_law_some"] 1 DM:=DX F DJ rfl λ_ _ _ _ _ _ a c=>(AM (Cd 1 c (Ci (BQ (C9 (Af (Ap AH AH)) (C9 (Af (Ap AH AH)) (C9 (Af (Ap AH AH)) (FW (Af (Ap AH AH)) (Af (Ap AH AH)) (Af (Ap AH AH))))))))) (AM (BW (Ez (Dq a) (AK b a rfl (Ap (AJ 0) AH)) AH) (AR (AX (Af (FW (Af (Ap AH AH)) (Af (Ap AH AH)) (Af (Ap AH AH)))))) A4) (AR (AX (Af (FW (AU (AJ 1) (AK b a rfl (Ap (AJ 0) AH))) (AU (AJ 1) (AK b a rfl (Ap (AJ 0) AH))) (AU (AJ 1) (AK b a rfl (Ap (AJ 0) AH)))))))))
theorem RR (F:Z1 K "_law_part" HJ f U)(b:Z "abs" =none)(c:Z "int" =none):Z2 P w K Z Y n f U ["_law_top","_law_bottom","_law_sign","_law_one","_law_other"] 2 A0:=DX F DJ rfl λ_ _ _ _ _ _ _ a=>(AM (Wj (i:=3) (j:=4) rfl a rfl rfl (by decide) rfl rfl (Ap (BV R4 rfl b boot_abs (Bn (AJ 0))) (BV R4 rfl b boot_abs (Bn (AJ 1)))) rfl) (AM (Fw AAQ (Ez HW (AJ 4) AH) (AR (Wj (i:=3) (j:=4) rfl a rfl rfl (by decide) rfl rfl (Ap (AJ 4) (Ae Oe (AJ 3) (AJ 4))) rfl))) (AM (Cd 2 a (Ae DG AH (Ae BH AH (BZ c6 rfl c boot_int (Bn (C1 HX (AJ 1) AH (B3 _))))))) (AR (AX (Af (Ap (Ae GO (Ae BH (AJ 2) (AJ 0)) (AJ 3)) (Ae GO (Ae BH (AJ 2) (AJ 1)) (AJ 3)))))))))
theorem UJ (F:Z1 K "_law_sum" JL f U)(a:Dd P w K Z Y n):Z2 P w K Z Y n f U ["_law_one","_law_other"] 2 BN:=DX F DJ rfl λ_ _ _ _ _ _ b _=>(AR (AX (AK a b rfl (Ap (Ae Ay (Ae BH (AU (AJ 0) AH) (AU (AJ 1) AH)) (Ae BH (AU (AJ 1) AH) (AU (AJ 0) AH))) (Ae BH (AU (AJ 0) AH) (AU (AJ 1) AH))))))
theorem UF (F:Z1 K "_law_far" JH f U)(b:Cy P w K Z Y n)(c:Z "tuple" =none):Z2 P w K Z Y n f U ["_law_plan_here"] 1 Eg:=by
 have a:(["_law_corner"] :zy Str).Nodup:=by decide +kernel
 exact DX F DJ rfl λ_ _ _ _ _ _ d _=>(AR (AX (BZ C0 rfl c ABF (Bn (Ci (Bo rfl (DA (AJ 0)) (Bg (own:=1) (ix:= []) (N:= ["_law_corner"]) rfl rfl rfl rfl rfl rfl (λ_ _ _ _ _ _=>(HV 0 a)) (λ_ _ _ _ _ _=>BE) (λ_ _ _ _ _ _=>(Ae Ay (Af (Bn (AK b d rfl (Ap (AU (AJ 0) AH) (Af (Ap (Ae l9 AH AH) AH)))))) (IY (AJ 0) (eQ AH) eO))))))))))
theorem Pa (F:Z1 K "_law_place" GH f U)(b:Cw P w K Z Y n)(c:Dd P w K Z Y n):Z2 P w K Z Y n f U ["_law_tape_here","_law_kind"] 1 BD:=DX F DJ rfl λ_ _ _ _ _ _ a d=>(AM (Cd 1 d (AK b a rfl (Ap (AJ 0) AH))) (AM (BW (Ez HX (AJ 1) AH) (AR (AX (Af (Ap (Ae DG (AK b a rfl (Ap (AJ 0) AH)) AH) AH)))) A4) (AM (BW (Ez (Dq a) (AJ 1) AH) (AR (AX (AK c a rfl (Ap (Ae DG (AK b a rfl (Ap (AJ 0) AH)) AH) AH)))) A4) (AR (AX (AK c a rfl (Ap (Ae DG (AK b a rfl (Ap (AJ 0) AH)) AH) AH)))))))
theorem RV (F:Z1 K "_law_span" HN f U)(b:Cw P w K Z Y n)(c:Dd P w K Z Y n):Z2 P w K Z Y n f U ["_law_tape_here","_law_way"] 1 Cu:=DX F DJ rfl λ_ _ _ _ _ _ a d=>(AM (Cd 1 d (AK b a rfl (Ap (AJ 0) AH))) (AM (BW (Ez HX (AJ 1) AH) (AR (AX (Af (Ap (Ae Ay AH (AK b a rfl (Ap (AJ 0) AH))) AH)))) A4) (AR (AX (AK c a rfl (Ap (Ae Ay AH (AK b a rfl (Ap (AJ 0) AH))) (Ae DG (AJ 1) AH)))))))
theorem RS (F:Z1 K "_law_plan" HK f U)(d:Cw P w K Z Y n)(c:J1 P w K Z Y n)(e:Lo P w K Z Y n)(g:Cy P w K Z Y n)(h:Z "len" =none)(j:Z "tuple" =none):Z2 P w K Z Y n f U ["_law_tape_here","_law_many_here","_law_m","_law_spot_here","_law_corners","_law_way"] 1 E3:=DX F DJ rfl λ_ _ _ _ _ _ a b=>(AM (Cd 1 b (Ae Ay AH (AK d a rfl (Ap (AJ 0) AH)))) (AM (BW (Ez (Dq a) (AK d a rfl (Ap (AJ 0) AH)) AH) (AR (Cd 1 b (Ae Ay AH (AK d a rfl (Ap (AJ 0) AH))))) A4) (AM (Cd 2 b (Af (Ap (AK d a rfl (Ap (AJ 0) AH)) AH))) (AM (Cd 3 b (Ci (BQ (FW (AK c a rfl (Bn (AJ 0))) (AK c a rfl (Bn (AJ 0))) (AK c a rfl (Bn (AJ 0))))))) (AM (D9 (i:=4) b rfl (Or.inl rfl) (BQ (Bn (Af (C9 (AJ 2) (FW (AU (AJ 3) AH) (AU (AJ 3) AH) (AU (AJ 3) AH))))))) (AM (Fw AAQ (Ez HX (BV FX rfl h ABG (Bn (AJ 4))) (AJ 1)) (AM (Cd 2 b (AK g a rfl (Ap (AJ 2) (AK e a rfl (Bn (AJ 0)))))) (AM (Cd 5 b (AK d a rfl (Ap (AJ 0) AH))) (AM (BW (Ez HW (AJ 5) AH) (AR (Cd 3 b (Ci (BQ (FW (AK c a rfl (Bn (AJ 0))) (AK c a rfl (Bn (AJ 0))) (AK c a rfl (Bn (AJ 0)))))))) (AR (BW (Ez HW (AJ 5) AH) (AR (Cd 3 b (Ae Ay (Ae Ay (IY (AJ 3) eO (eQ (Ae DG (AJ 5) AH))) (Ci (BQ (Bn (AK c a rfl (Bn (AJ 0))))))) (IY (AJ 3) (eQ (AJ 5)) eO)))) A4))) (AR (CG (i:=4) AAy AAz Bc (Bn (Af (C9 (AJ 2) (FW (AU (AJ 3) AH) (AU (AJ 3) AH) (AU (AJ 3) AH))))))))))) (AR (AX (BZ C0 rfl j ABF (Bn (AJ 4)))))))))))
theorem MN (F:Z1 K "_law_flights" Eu f U)(d:PP P w K Z Y n)(b:Cw P w K Z Y n)(e:Vl P w K Z Y n)(g:TW P w K Z Y n)(h:Z "int" =none)(j:Z "range" =none):Z2 P w K Z Y n f U ["_law_tape_here","_law_many_here","_law_far_here","_law_found","_law_k","_law_plan_here"] 1 B7:=DX F DJ rfl λ_ _ _ _ _ _ a c=>(AM (Cd 1 c (AU (Ci (BQ (Ap (AK b a rfl (Ap (AJ 0) AH)) (Ae Ay AH (AK b a rfl (Ap (AJ 0) AH)))))) (BZ c6 rfl h boot_int (Bn (C1 (Dq a) (AK b a rfl (Ap (AJ 0) AH)) AH (B3 _)))))) (AM (Cd 2 c (C1 (Dq a) (AK b a rfl (Ap (AJ 0) AH)) AH (B3 _))) (AM (D9 (i:=3) c rfl (Or.inl rfl) (BQ DF)) (AM (Bp AAQ rfl (KZ rfl j (Bn (AJ 1))) (Ee 4 c) (AM (Cd 5 c (AK g a rfl (Bn (AJ 0)))) (AM (BW (Ez HW (AJ 1) AH) (AR (Cd 5 c (IY (AJ 5) eO (eQ AH)))) A4) (AM (CG (i:=3) AAy AAz Bc (Bn (Af (Ap (Uk (mF (AJ 2)) (AK e a rfl (Bn (AJ 5))) (AJ 5)) (AK d a rfl (Bn (AJ 0))))))) (AR (BW (Ez (Dq a) (AK b a rfl (Ap (AJ 0) AH)) AH) (AR (mC (i:=3) (AJ 4) (OY (AU (AJ 3) (AK b a rfl (Ap (AJ 0) (Ae Ay (AJ 4) AH))))))) A4)))))) (AR (AX (AJ 3)))))))
theorem RP (F:Z1 K "_law_less" HH f U):Z2 P w K Z Y n f U ["_law_one","_law_other"] 2 A1:=DX F DJ rfl λ_ _ _ _ _ _ _ _=>(AR (AX (C1 HX (Ae BH (AU (AJ 0) AH) (AU (AJ 1) AH)) (Ae BH (AU (AJ 1) AH) (AU (AJ 0) AH)) (B3 _))))
theorem PY (F:Z1 K "_law_is_in" GF f U)(c:Dc P w K Z Y n)(d:Z "any" =none):Z2 P w K Z Y n f U ["_law_stretches","_law_m"] 2 CU:=by
 have a:(["_law_begin","_law_held","_law_end","_law_m"] :zy Str).Nodup:=by decide +kernel
 exact DX F DJ rfl λ_ _ _ _ _ _ b _=>(AR (AX (BV (lj rfl) rfl d boot_any (Bn (Ci (Bo rfl (DA (AJ 0)) (Bg (own:=3) (ix:= [1]) (N:= ["_law_begin","_law_held" ,"_law_end" ,"_law_m" ]) rfl rfl rfl rfl rfl rfl (λ_ _ _ _ _ _=>(LX (n:=3) rfl (CA (HV 0 a) (CA (HV 1 a) (CA (HV 2 a) Ht))))) (λ_ _ _ _ _ _=>BE) (λ_ _ _ _ _ _=>(OW (lv (AK c b rfl (Ap (AJ 3) (AJ 0)))) (OW (AK c b rfl (Ap (AJ 3) (AJ 2))) (LV (jJ (C1 (Dq b) (AJ 1) AH (B3 _)) (LV (C1 (QW b) (AJ 3) (AJ 0) (B3 _)))))))))))))))
theorem PX (F:Z1 K "_law_count" GE f U)(b:RA P w K Z Y n)(c:Z "len" =none):Z2 P w K Z Y n f U ["_law_sets","_law_m"] 2 Bf:=by
 have a:(["_law_stretches","_law_m"] :zy Str).Nodup:=by decide +kernel
 exact DX F DJ rfl λ_ _ _ _ _ _ d _=>(AR (AX (BV FX rfl c ABG (Bn (Ci (Bo rfl (DA (AJ 0)) (Bg (own:=1) (ix:= [1]) (N:= ["_law_stretches","_law_m" ]) rfl rfl rfl rfl rfl rfl (λ_ _ _ _ _ _=>(HV 0 a)) (λ_ _ _ _ _ _=>(YC (CL (AK b d rfl (Ap (AJ 0) (AJ 1)))))) (λ_ _ _ _ _ _=>(AJ 0)))))))))
theorem MP (F:Z1 K "_law_product" Ew f U)(a:Dd P w K Z Y n):Z2 P w K Z Y n f U ["_law_one","_law_other"] 2 Bw:=DX F DJ rfl λ_ _ _ _ _ _ b _=>(AR (AX (AK a b rfl (Ap (Ae BH (AU (AJ 0) AH) (AU (AJ 1) AH)) (Ae BH (AU (AJ 0) AH) (AU (AJ 1) AH))))))
theorem MO (F:Z1 K "_law_middles" Ev f U)(c:Et P w K Z Y n)(d:Cy P w K Z Y n)(e:Z "zip" =none):Z2 P w K Z Y n f U ["_law_marks_here"] 1 Bu:=by
 have a:(["_law_one","_law_other"] :zy Str).Nodup:=by decide +kernel
 exact DX F DJ rfl λ_ _ _ _ _ _ b _=>(AR (AX (Ci (Bo rfl (Zc rfl e (Ap (AJ 0) (IY (AJ 0) (eQ AH) eO))) (Bg (own:=2) (ix:= []) (N:= ["_law_one","_law_other" ]) rfl rfl rfl rfl rfl rfl (λ_ _ _ _ _ _=>(LX (n:=2) rfl (CA (HV 0 a) (CA (HV 1 a) Ht)))) (λ_ _ _ _ _ _=>BE) (λ_ _ _ _ _ _=>(AK c b rfl (Ap (AK d b rfl (Ap (AJ 0) (AJ 1))) (Af (Ap AH AH))))))))))
theorem OF (F:Z1 K "_law_rising" FU f U)(c:Dc P w K Z Y n)(d:Z "len" =none):Z2 P w K Z Y n f U ["_law_some","_law_found","_law_one","_law_at"] 1 BL:=DX F DJ rfl λ_ _ _ _ _ _ b a=>(AM (D9 (i:=1) a rfl (Or.inl rfl) (BQ DF)) (AM (Bp AAQ rfl (DA (AJ 0)) (Ee 2 a) (AM (Cd 3 a (OY (BV FX rfl d ABG (Bn (AJ 1))))) (AM (Fw AAQ (HZ (EM (Ez HW (AJ 3) AH) (DV (CL (AK c b rfl (Ap (AJ 2) (AU (AJ 1) (Ae DG (AJ 3) AH)))))))) (AR (Cd 3 a (Ae DG (AJ 3) AH)))) (AR (BW (dU (HZ (Uq (Ez (Dq b) (AJ 3) AH) (Oj (Ez (QW b) (AU (AJ 1) (Ae DG (AJ 3) AH)) (AJ 2)))))) (AR (CG (i:=1) AED AEE QV (Ap (AJ 3) (AJ 2)))) A4))))) (AR (AX (AJ 1)))))
theorem UI (F:Z1 K "_law_set" JK f U)(b:Z "enumerate" =none)(c:Z "tuple" =none):Z2 P w K Z Y n f U ["_law_marks_here","_law_here","_law_gaps","_law_found","_law_begun","_law_k","_law_m"] 3 BM:=DX F DJ rfl λ_ _ _ _ _ _ _ a=>(AM (D9 (i:=3) a rfl (Or.inl rfl) (BQ DF)) (AM (Cd 4 a Ba) (AM (Bp AAQ rfl (tI rfl b (Bn (AJ 0))) (C2 (n:=2) rfl (Ag (Ee 5 a) (Ag (Ee 6 a) B9))) (AM (BW (HZ (EM (Ez SN (AJ 4) Ba) (DV (SV (CL (AU (AJ 1) (AJ 5))))))) (AM (CG (i:=3) AAy AAz Bc (Bn (Ae Ay (AJ 4) (Af (Bn (AJ 6)))))) (AR (Cd 4 a Ba))) A4) (AM (BW (HZ (EM (Ez GP (AJ 4) Ba) (DV (CL (AU (AJ 1) (AJ 5)))))) (AR (Cd 4 a (Af (Ap (AJ 6) AH)))) A4) (AR (BW (HZ (EM (Ez GP (AJ 4) Ba) (DV (CL (AU (Ae Ay (AJ 2) (Ci (BQ (Bn OX)))) (AJ 5)))))) (AR (Cd 4 a (Af (Ap (AJ 6) AH)))) A4))))) (AR (AX (BZ C0 rfl c ABF (Bn (AJ 3))))))))
theorem RQ (F:Z1 K "_law_many" HI f U)(e:Q9 P w K Z Y n)(g:Er P w K Z Y n)(h:FN P w K Z Y n)(j:Iq P w K Z Y n):Z2 P w K Z Y n f U ["_law_sets","_law_many_here","_law_some","_law_stretches","_law_marks_here","_law_here","_law_begin","_law_held","_law_end"] 2 CH:=by
 have c:(["_law_m","_law_many_here","_law_sets"] :zy Str).Nodup:=by decide +kernel
 have d:(["_law_m","_law_many_here","_law_sets"] :zy Str).Nodup:=by decide +kernel
 exact DX F DJ rfl λ_ _ _ _ _ _ b a=>(AM (Cd 2 a (Ci (BQ DF))) (AM (Bp AAQ rfl (DA (AJ 0)) (Ee 3 a) (AR (Bp AAQ rfl (DA (AJ 3)) (C2 (n:=3) rfl (Ag (Ee 6 a) (Ag (Ee 7 a) (Ag (Ee 8 a) B9)))) (AR (Cd 2 a (Ae Ay (AJ 2) (Ci (BQ (Ap (AJ 6) (AJ 8)))))))))) (AM (Cd 4 a (AK h b rfl (Bn (AJ 2)))) (AM (HY (i:=5) rfl a rfl (Or.inl rfl) (DA (AJ 4)) (Bg (own:=1) (ix:= [1,0]) (N:= ["_law_m","_law_many_here" ,"_law_sets" ]) rfl rfl rfl rfl rfl rfl (λ_ _ _ _ _ _=>(HV 0 c)) (λ_ _ _ _ _ _=>BE) (λ_ _ _ _ _ _=>(C1 dM (AK e b rfl (Ap (AJ 2) (AJ 0))) (AJ 1) (B3 _))))) (AR (AX (AK j b rfl (FW (AJ 4) (AJ 5) (Ci (Bo rfl (DA (AK g b rfl (Bn (AJ 4)))) (Bg (own:=1) (ix:= [1,0]) (N:= ["_law_m","_law_many_here" ,"_law_sets" ]) rfl rfl rfl rfl rfl rfl (λ_ _ _ _ _ _=>(HV 0 d)) (λ_ _ _ _ _ _=>BE) (λ_ _ _ _ _ _=>(C1 dM (AK e b rfl (Ap (AJ 2) (AJ 0))) (AJ 1) (B3 _))))))))))))))
theorem UG (F:Z1 K "_law_off" JI f U)(a:Dd P w K Z Y n):Z2 P w K Z Y n f U ["_law_one","_law_other"] 2 BY:=DX F DJ rfl λ_ _ _ _ _ _ b _=>(AR (AX (AK a b rfl (Ap (Ae DG (Ae BH (AU (AJ 0) AH) (AU (AJ 1) AH)) (Ae BH (AU (AJ 1) AH) (AU (AJ 0) AH))) (Ae BH (AU (AJ 0) AH) (AU (AJ 1) AH))))))
theorem RT (F:Z1 K "_law_room" HL f U)(b:Cw P w K Z Y n)(h:Es P w K Z Y n)(j:J1 P w K Z Y n)(k:Lo P w K Z Y n)(e:Cy P w K Z Y n)(l:Z "range" =none)(g:Z "tuple" =none):Z2 P w K Z Y n f U ["_law_tape_here","_law_low","_law_high","_law_one","_law_wide"] 1 CV:=by
 have d:(["_law_k","_law_tape_here"] :zy Str).Nodup:=by decide +kernel
 exact DX F DJ rfl λ_ _ _ _ _ _ a c=>(AM (HY (i:=1) rfl c rfl (Or.inl rfl) (KZ rfl l (Bn AH)) (Bg (own:=1) (ix:= [0]) (N:= ["_law_k","_law_tape_here" ]) rfl rfl rfl rfl rfl rfl (λ_ _ _ _ _ _=>(HV 0 d)) (λ_ _ _ _ _ _=>BE) (λ_ _ _ _ _ _=>(AK h a rfl (Ap (AK j a rfl (Bn (AJ 1))) (AU (Ci (BQ (FW (Af (Ap AH AH)) (Af (Ap AH AH)) (Af (Ap AH AH))))) (AK b a rfl (Ap (AJ 1) AH)))))))) (AM (D9 (i:=2) c rfl (Or.inl rfl) (BQ DF)) (AM (Bp AAQ rfl (DA (AJ 1)) (Ee 3 c) (AM (Cd 4 c (AK e a rfl (Ap (AK k a rfl (Bn (AJ 0))) (AU (Ci (BQ (FW (Af (Ap AH AH)) (Af (Ap AH AH)) (Af (Ap AH AH))))) (AK b a rfl (Ap (AJ 0) AH)))))) (AR (CG (i:=2) AAy AAz Bc (Bn (AK e a rfl (Ap (AJ 3) (AJ 4)))))))) (AR (AX (Af (C9 (AU (Ci (BQ (FW Wa Wa Wa))) (AK b a rfl (Ap (AJ 0) AH))) (FW (BZ C0 rfl g ABF (Bn (AJ 1))) (BZ C0 rfl g ABF (Bn (AJ 2))) (Ae Ay AH (AK b a rfl (Ap (AJ 0) AH)))))))))))
theorem RU (F:Z1 K "_law_same" HM f U)(b:Z "str" =none):Z2 P w K Z Y n f U ["_law_found","_law_due"] 2 Ct:=DX F DJ rfl λ_ _ _ _ _ _ a _=>(AR (AX (OW (C1 (Dq a) (AJ 0) (AJ 1) (B3 _)) (LV (C1 (Dq a) (BZ (c7 a) rfl b boot_str (Bn (AJ 0))) (BZ (c7 a) rfl b boot_str (Bn (AJ 1))) (B3 _))))))
theorem UE (F:Z1 K "_law_box" JG f U)(h:Es P w K Z Y n)(j:Cy P w K Z Y n)(c:Z "range" =none)(d:Z "tuple" =none):Z2 P w K Z Y n f U ["_law_flight","_law_room_here","_law_off_here","_law_low"] 2 Ef:=by
 have a:(["_law_k","_law_off_here","_law_room_here"] :zy Str).Nodup:=by decide +kernel
 have b:(["_law_k","_law_off_here","_law_room_here"] :zy Str).Nodup:=by decide +kernel
 exact DX F DJ rfl λ_ _ _ _ _ _ e g=>(AM (GQ (i:=2) g rfl (Or.inr rfl) (Ci (BQ (FW (AU (AU (AJ 0) AH) AH) (AU (AU (AJ 0) AH) AH) (AU (AU (AJ 0) AH) AH))))) (AM (Cd 3 g (BZ C0 rfl d ABF (Bn (Ci (Bo rfl (KZ rfl c (Bn AH)) (Bg (own:=1) (ix:= [2,1]) (N:= ["_law_k","_law_off_here" ,"_law_room_here" ]) rfl rfl rfl rfl rfl rfl (λ_ _ _ _ _ _=>(HV 0 a)) (λ_ _ _ _ _ _=>BE) (λ_ _ _ _ _ _=>(AK h e rfl (Ap (AU (AU (AJ 2) AH) (AJ 0)) (AU (AJ 1) (AJ 0))))))))))) (AR (AX (Af (Ap (AJ 3) (BZ C0 rfl d ABF (Bn (Ci (Bo rfl (KZ rfl c (Bn AH)) (Bg (own:=1) (ix:= [2,1]) (N:= ["_law_k","_law_off_here" ,"_law_room_here" ]) rfl rfl rfl rfl rfl rfl (λ_ _ _ _ _ _=>(HV 0 b)) (λ_ _ _ _ _ _=>BE) (λ_ _ _ _ _ _=>(AK j e rfl (Ap (AU (AU (AJ 2) AH) (AJ 0)) (AU (AJ 1) (AJ 0))))))))))))))))
theorem OE (F:Z1 K "_law_may_be" FT f U)(c:Dc P w K Z Y n)(d:Es P w K Z Y n):Z2 P w K Z Y n f U ["_law_own_here","_law_late","_law_m","_law_begin","_law_held","_law_end"] 3 CC:=DX F DJ rfl λ_ _ _ _ _ _ a b=>(AM (Bp AAQ rfl (DA (AJ 0)) (C2 (n:=3) rfl (Ag (Ee 3 b) (Ag (Ee 4 b) (Ag (Ee 5 b) B9)))) (AR (BW (HZ (EM (CL (AK c a rfl (Ap (AK d a rfl (Ap (AJ 2) (AJ 1))) (AJ 5)))) (DV (HZ (Uq (CL (AK c a rfl (Ap (AJ 3) (AJ 2)))) (Oj (HZ (EM (Ez (Dq a) (AJ 4) AH) (DV (Ez (Dq a) (AJ 3) (AJ 2))))))))))) (AR (AX OX)) A4))) (AR (AX OX)))
theorem Pb (F:Z1 K "_law_ratio" GI f U)(a:Dd P w K Z Y n):Z2 P w K Z Y n f U ["_law_one","_law_other"] 2 C6:=DX F DJ rfl λ_ _ _ _ _ _ b _=>(AR (AX (AK a b rfl (Ap (Ae BH (AU (AJ 0) AH) (AU (AJ 1) AH)) (Ae BH (AU (AJ 0) AH) (AU (AJ 1) AH))))))
theorem RW (F:Z1 K "_law_spot" HP f U)(c:Dc P w K Z Y n)(d:Es P w K Z Y n)(h:Et P w K Z Y n)(j:J3 P w K Z Y n)(k:Cy P w K Z Y n)(l:Z "range" =none)(o:Z "tuple" =none)(p:Z "zip" =none):Z2 P w K Z Y n f U ["_law_plan_here","_law_m","_law_one","_law_other","_law_share","_law_gone"] 2 E4:=by
 have e:(["_law_k","_law_share","_law_other","_law_one"] :zy Str).Nodup:=by decide +kernel
 have g:(["_law_k","_law_one","_law_gone"] :zy Str).Nodup:=by decide +kernel
 exact DX F DJ rfl λ_ _ _ _ _ _ a b=>(AM (BW (HZ (Uq (CL (AK c a rfl (Ap (AJ 1) (AU (AU (AJ 0) AH) AH)))) (Oj (CL (AK c a rfl (Ap (AU (AU (AJ 0) (GL AH)) AH) (AJ 1))))))) (AR (AX Ba)) A4) (AM (Bp AAQ rfl (Zc rfl p (Ap (AJ 0) (IY (AJ 0) (eQ AH) eO))) (C2 (n:=2) rfl (Ag (R7 (i:=2) b rfl (Or.inr rfl)) (Ag (R7 (i:=3) b rfl (Or.inr rfl)) B9))) (AR (BW (SV (CL (AK c a rfl (Ap (AU (AJ 3) AH) (AJ 1))))) (AM (GQ (i:=4) b rfl (Or.inr rfl) (AK j a rfl (Ap (AK d a rfl (Ap (AJ 1) (AU (AJ 2) AH))) (AK d a rfl (Ap (AU (AJ 3) AH) (AU (AJ 2) AH)))))) (AM (GQ (i:=5) b rfl (Or.inr rfl) (Ci (Bo rfl (DA (Af (FW AH AH AH))) (Bg (own:=1) (ix:= [4,3,2]) (N:= ["_law_k","_law_share" ,"_law_other" ,"_law_one" ]) rfl rfl rfl rfl rfl rfl (λ_ _ _ _ _ _=>(HV 0 e)) (λ_ _ _ _ _ _=>BE) (λ_ _ _ _ _ _=>(AK h a rfl (Ap (AJ 1) (AK d a rfl (Ap (AU (AJ 2) (AJ 0)) (AU (AJ 3) (AJ 0))))))))))) (AR (AX (BZ C0 rfl o ABF (Bn (Ci (Bo rfl (KZ rfl l (Bn AH)) (Bg (own:=1) (ix:= [2,5]) (N:= ["_law_k","_law_one" ,"_law_gone" ]) rfl rfl rfl rfl rfl rfl (λ_ _ _ _ _ _=>(HV 0 g)) (λ_ _ _ _ _ _=>BE) (λ_ _ _ _ _ _=>(AK k a rfl (Ap (AU (AJ 1) (Ae Ay (AJ 0) AH)) (AU (AJ 2) (AJ 0)))))))))))))) A4))) (AR (AX Ba))))
theorem KB (F:Z1 K "_law_is_inside" D6 f U)(b:Dc P w K Z Y n)(d:TZ P w K Z Y n)(e:Z "all" =none)(g:Z "range" =none):Z2 P w K Z Y n f U ["_law_plan_here","_law_low","_law_high","_law_m","_law_spot_here"] 4 BX:=by
 have c:(["_law_k","_law_low","_law_spot_here","_law_high"] :zy Str).Nodup:=by decide +kernel
 exact DX F DJ rfl λ_ _ _ _ _ _ a h=>(AM (BW (SV (CL (AK b a rfl (Ap (AJ 3) (AU (AU (AJ 0) (GL AH)) AH))))) (AR (AX OX)) A4) (AM (GQ (i:=4) h rfl (Or.inr rfl) (AK d a rfl (Ap (AJ 0) (AJ 3)))) (AM (BW (Ez GP (AJ 4) Ba) (AR (AX OX)) A4) (AR (AX (BV (lh rfl) rfl e boot_all (Bn (Ci (Bo rfl (KZ rfl g (Bn AH)) (Bg (own:=1) (ix:= [1,4,2]) (N:= ["_law_k","_law_low" ,"_law_spot_here" ,"_law_high" ]) rfl rfl rfl rfl rfl rfl (λ_ _ _ _ _ _=>(HV 0 c)) (λ_ _ _ _ _ _=>BE) (λ_ _ _ _ _ _=>(OW (AK b a rfl (Ap (AU (AJ 1) (AJ 0)) (AU (AJ 2) (AJ 0)))) (LV (AK b a rfl (Ap (AU (AJ 2) (AJ 0)) (AU (AJ 3) (AJ 0)))))))))))))))))
theorem PZ (F:Z1 K "_law_marks" GG f U)(e:Dc P w K Z Y n)(c:Es P w K Z Y n)(g:Et P w K Z Y n)(h:J3 P w K Z Y n)(j:FN P w K Z Y n)(k:Cy P w K Z Y n)(l:Z "enumerate" =none)(o:Z "zip" =none):Z2 P w K Z Y n f U ["_law_plan_here","_law_low","_law_high","_law_some","_law_one","_law_other","_law_span_here","_law_k","_law_edge","_law_way","_law_share"] 3 CI:=by
 have d:(["_law_corner"] :zy Str).Nodup:=by decide +kernel
 exact DX F DJ rfl λ_ _ _ _ _ _ a b=>(AM (dQ (i:=3) rfl b rfl (Or.inl rfl) (DA (AJ 0)) (Bg (own:=1) (ix:= []) (N:= ["_law_corner"]) rfl rfl rfl rfl rfl rfl (λ_ _ _ _ _ _=>(HV 0 d)) (λ_ _ _ _ _ _=>BE) (λ_ _ _ _ _ _=>(AU (AJ 0) AH)))) (AM (Bp AAQ rfl (Zc rfl o (Ap (AJ 0) (IY (AJ 0) (eQ AH) eO))) (C2 (n:=2) rfl (Ag (Ee 4 b) (Ag (Ee 5 b) B9))) (AM (Cd 6 b (AK c a rfl (Ap (AU (AJ 5) AH) (AU (AJ 4) AH)))) (AR (Bp AAQ rfl (pU rfl l (Bn (Ae Ay (AJ 1) (AJ 2)))) (C2 (n:=2) rfl (Ag (Ee 7 b) (Ag (Ee 8 b) B9))) (AM (Cd 9 b (AK c a rfl (Ap (AU (AJ 5) (Ae Ay (Ae Oe (AJ 7) AH) AH)) (AU (AJ 4) (Ae Ay (Ae Oe (AJ 7) AH) AH))))) (AR (BW (Ez (QW a) (AU (AJ 9) AH) AH) (AM (Cd 10 b (AK h a rfl (Ap (AK c a rfl (Ap (AJ 8) (AU (AJ 4) (Ae Ay (Ae Oe (AJ 7) AH) AH)))) (AJ 9)))) (AR (BW (HZ (EM (CL (AK e a rfl (Ap (Af (Ap AH AH)) (AJ 10)))) (DV (CL (AK e a rfl (Ap (AJ 10) (Af (Ap AH AH)))))))) (AR (CG (i:=3) AAy AAz Bc (Bn (AK k a rfl (Ap (AU (AJ 4) AH) (AK g a rfl (Ap (AJ 10) (AJ 6)))))))) A4))) A4))))))) (AR (AX (AK j a rfl (Bn (AJ 3)))))))
theorem UH (F:Z1 K "_law_own" JJ f U)(d:K3 P w K Z Y n)(g:RB P w K Z Y n)(h:Er P w K Z Y n)(j:Iq P w K Z Y n):Z2 P w K Z Y n f U ["_law_plan_here","_law_low","_law_high","_law_marks_here","_law_here"] 3 Eh:=by
 have b:(["_law_m","_law_plan_here","_law_low","_law_high"] :zy Str).Nodup:=by decide +kernel
 have c:(["_law_m","_law_plan_here","_law_low","_law_high"] :zy Str).Nodup:=by decide +kernel
 exact DX F DJ rfl λ_ _ _ _ _ _ a e=>(AM (Cd 3 e (AK g a rfl (FW (AJ 0) (AJ 1) (AJ 2)))) (AM (HY (i:=4) rfl e rfl (Or.inl rfl) (DA (AJ 3)) (Bg (own:=1) (ix:= [0,1,2]) (N:= ["_law_m","_law_plan_here" ,"_law_low" ,"_law_high" ]) rfl rfl rfl rfl rfl rfl (λ_ _ _ _ _ _=>(HV 0 b)) (λ_ _ _ _ _ _=>BE) (λ_ _ _ _ _ _=>(AK d a rfl (C9 (AJ 1) (FW (AJ 2) (AJ 3) (AJ 0))))))) (AR (AX (AK j a rfl (FW (AJ 3) (AJ 4) (Ci (Bo rfl (DA (AK h a rfl (Bn (AJ 3)))) (Bg (own:=1) (ix:= [0,1,2]) (N:= ["_law_m","_law_plan_here" ,"_law_low" ,"_law_high" ]) rfl rfl rfl rfl rfl rfl (λ_ _ _ _ _ _=>(HV 0 c)) (λ_ _ _ _ _ _=>BE) (λ_ _ _ _ _ _=>(AK d a rfl (C9 (AJ 1) (FW (AJ 2) (AJ 3) (AJ 0))))))))))))))
theorem KC (F:Z1 K "_law_stays_due" D7 f U)(h:Vk P w K Z Y n)(e:PQ P w K Z Y n)(j:Er P w K Z Y n)(k:Vm P w K Z Y n)(l:FN P w K Z Y n)(o:Iq P w K Z Y n)(g:Cy P w K Z Y n):Z2 P w K Z Y n f U ["_law_flight","_law_room_here","_law_late","_law_own_here","_law_some","_law_marks_here","_law_here","_law_low","_law_high","_law_begin","_law_held","_law_end"] 2 Bt:=by
 have c:(["_law_m","_law_own_here","_law_late"] :zy Str).Nodup:=by decide +kernel
 have d:(["_law_m","_law_own_here","_law_late"] :zy Str).Nodup:=by decide +kernel
 exact DX F DJ rfl λ_ _ _ _ _ _ b a=>(AM (Wi (AK h b rfl (Ap (AJ 0) (AJ 1))) (C2 (n:=2) rfl (Ag (Ee 7 a) (Ag (Ee 8 a) B9)))) (AM (GQ (i:=2) a rfl (Or.inr rfl) (AU (AU (AJ 0) AH) AH)) (AM (GQ (i:=3) a rfl (Or.inr rfl) (AK k b rfl (FW (AU (AJ 0) AH) (AJ 7) (AJ 8)))) (AM (Cd 4 a (Ci (BQ DF))) (AM (Bp AAQ rfl (DA (AJ 3)) (C2 (n:=3) rfl (Ag (Ee 9 a) (Ag (Ee 10 a) (Ag (Ee 11 a) B9)))) (AR (Cd 4 a (Ae Ay (AJ 4) (Ci (BQ (C9 (AJ 9) (FW (AJ 11) (AK g b rfl (Ap (AJ 9) (AJ 2))) (AK g b rfl (Ap (AJ 11) (AJ 2))))))))))) (AM (Cd 5 a (AK l b rfl (Bn (AJ 4)))) (AM (HY (i:=6) rfl a rfl (Or.inl rfl) (DA (AJ 5)) (Bg (own:=1) (ix:= [3,2]) (N:= ["_law_m","_law_own_here" ,"_law_late" ]) rfl rfl rfl rfl rfl rfl (λ_ _ _ _ _ _=>(HV 0 c)) (λ_ _ _ _ _ _=>BE) (λ_ _ _ _ _ _=>(AK e b rfl (FW (AJ 1) (AJ 2) (AJ 0)))))) (AR (AX (AK o b rfl (FW (AJ 5) (AJ 6) (Ci (Bo rfl (DA (AK j b rfl (Bn (AJ 5)))) (Bg (own:=1) (ix:= [3,2]) (N:= ["_law_m","_law_own_here" ,"_law_late" ]) rfl rfl rfl rfl rfl rfl (λ_ _ _ _ _ _=>(HV 0 d)) (λ_ _ _ _ _ _=>BE) (λ_ _ _ _ _ _=>(AK e b rfl (FW (AJ 1) (AJ 2) (AJ 0))))))))))))))))))
theorem KY:EO ["_law_script","_law_k","_law_cell","_law_digits"] ["_law_script","_law_k"] (BO FG):=DJ
theorem RX (F:VH K "_law_tape" "_law_tape" FG f U)(l:Z "abs" =none)(t:Z "int" =none)(u:Z "len" =none):Em P w K Z Y Sy (n+1) f U ["_law_script","_law_k"] (Cf K 2 NR):=by
 have g:=KY.nd;refine F.ok KY (λvs H Q E h=> ?_) (λv A outer s H vs Q E B h=> ?_)
 .obtain ⟨T,M,xs,x,_,_,r,hl,_⟩:=h;rw[r.length,hl] <;> rfl
 obtain⟨T,M,xs,x,va,_,r,hl,hF,hQ⟩:=h;unfold NR at hF;split at hF <;> first | exact hF.elim|skip
 rename_i d k;obtain⟨⟨C,D⟩,hF⟩:=hF;cases r with
 | cons r j=>
 cases j with
 | cons y j=>
 cases j;cases y;obtain⟨a,rfl,o⟩:=c9 r;refine⟨_,(Bk (FR (i:=2) g rfl (Or.inl rfl) A3)
  (Bk (Xz (Md jD (pv 1) (KF Jx rfl u ABG (CS (pv 0) FP)) (B3 _)) (ET (FR (i:=2) g rfl (Or.inl rfl) (Lr FC (pv 0) (pv 1) (λ_ _=>rfl)))) Mc)
  (Bk (FR (i:=3) g rfl (Or.inl rfl) (B8 Hr (KF Nc rfl l boot_abs (CS (pv 2) FP)) (LI P4 rfl t PyProof.Rows.boot_int (CS (Xv jB (KF Nc rfl l boot_abs (CS (pv 2) FP)) (B8 cE A3 A3) (B3 _)) FP))))
  (ET (OL (cM (CS (pv 3) (CS (B8 GC (B8 Hr (B8 GC (B8 HE (B8 HE (pv 2) (B8 Hr A3 (pv 1))) A3) A3) A3) A3) FP)))))))), ?_⟩
 have hl:(d.map V.int).length=d.length:=AAI _;have e:∀(c:Int) (p:zu),H p=none->Q (.ref p) (upd H p (.lst [.int ((if c<0 then -c else c)*(if decide ((10:Int)^18<=(if c<0 then -c else c)) then 1 else 0)), .int ((c+7919*k+1) % 2147483647*48271 % 2147483647)])):=λc p hp=>
  hQ _ .tape (λb=>T b\/b=p) _ (dm va.tp hp (Int.mul_nonneg (by split <;> omega) (xR _)) (ACa _ (by decide)) (ACb _ (by decide))) (.tape (.inr rfl)) hF
 refine⟨_,rfl,_,rfl,a,_,rfl, .inl o,_,_,rfl,rfl,_,rfl, ?_⟩;refine oR (λc=> ?_) (λc=> ?_)
 .have z:k<(((d.map V.int).length:Nat):Int):=ABd c;rw[hl] at z;have hk:k.toNat<d.length:=by omega
  have hv:Jc (d.map V.int) k=some (.int d[k.toNat]):=by
   have q:Jc (d.map V.int) ((k.toNat:Nat):Int)=some (.int d[k.toNat]):=Ck (by rw[AAp,AAT hk] <;> rfl)
   rwa [show ((k.toNat:Nat):Int)=k by omega] at q
  refine⟨_,rfl,_,rfl,a,_,_,_,rfl,rfl,o,hv, ?_⟩;refine⟨_,rfl,_,rfl,_,rfl,_,rfl,_,_,rfl,rfl,⟨by decide,by decide,by decide⟩,_,_,rfl,rfl, .inr ⟨_,rfl,_,_,rfl,rfl, .inl (.inr (uo _)), ?_⟩⟩;exact⟨_,rfl,_,rfl,_,rfl,_,_,rfl,rfl, .inl (.inl ⟨by decide,by decide⟩),_,_,rfl,rfl,_,_,rfl,rfl,_,_,rfl,rfl,(show (0:Int)<2147483647 by decide),_,_,rfl,rfl, .inl (.inr ⟨by decide,by decide⟩),_,_,rfl,rfl,(show (0:Int)<2147483647 by decide),(show 2<=sizeLine by decide),λp hp=>e _ p hp⟩
 .refine ⟨_,rfl,_,rfl,_,rfl,_,rfl,_,_,rfl,rfl,⟨by decide,by decide,by decide⟩,_,_,rfl,rfl, .inr ⟨_,rfl,_,_,rfl,rfl, .inl (.inr (uo _)), ?_⟩⟩;exact⟨_,rfl,_,rfl,_,rfl,_,_,rfl,rfl, .inl (.inl ⟨by decide,by decide⟩),_,_,rfl,rfl,_,_,rfl,rfl,_,_,rfl,rfl,(show (0:Int)<2147483647 by decide),_,_,rfl,rfl, .inl (.inr ⟨by decide,by decide⟩),_,_,rfl,rfl,(show (0:Int)<2147483647 by decide),(show 2<=sizeLine by decide),λp hp=>e 0 p hp⟩
theorem ZP (F:Z1 K "common" OR f U):Z2 P w K Z Y n f U ["one","other"] 2 G6:=DX F DJ rfl λ_ _ _ _ _ _ a b=>(AM (Fw AAQ (Ez (QW a) (AJ 1) AH) (AR (Wj (i:=0) (j:=1) rfl b rfl rfl (by decide) rfl rfl (Ap (AJ 1) (Ae Oe (AJ 0) (AJ 1))) rfl))) (AR (AX (AJ 0))))
theorem gN (F:Z1 K "part" WX f U)(c:Te P w K Z Y n)(a:Z "abs" =none):Z2 P w K Z Y n f U ["top","bottom","shared"] 2 Fz:=DX F DJ rfl λ_ _ _ _ _ _ d b=>(AM (Cd 2 b (AK c d rfl (Ap (BV R4 rfl a boot_abs (Bn (AJ 0))) (BV R4 rfl a boot_abs (Bn (AJ 1)))))) (AM (BW (Ez HX (AJ 1) AH) (AR (Cd 2 b (GL (AJ 2)))) A4) (AR (AX (Af (Ap (Ae GO (AJ 0) (AJ 2)) (Ae GO (AJ 1) (AJ 2))))))))
theorem gO (F:Z1 K "plus" WY f U)(a:Nv P w K Z Y n):Z2 P w K Z Y n f U ["one","other"] 2 Kr:=DX F DJ rfl λ_ _ _ _ _ _ b _=>(AR (AX (AK a b rfl (Ap (Ae Ay (Ae BH (AU (AJ 0) AH) (AU (AJ 1) AH)) (Ae BH (AU (AJ 1) AH) (AU (AJ 0) AH))) (Ae BH (AU (AJ 0) AH) (AU (AJ 1) AH))))))
theorem ZO (F:Z1 K "before" OQ f U):Z2 P w K Z Y n f U ["one","other"] 2 A1:=DX F DJ rfl λ_ _ _ _ _ _ _ _=>(AR (AX (C1 HX (Ae BH (AU (AJ 0) AH) (AU (AJ 1) AH)) (Ae BH (AU (AJ 1) AH) (AU (AJ 0) AH)) (B3 _))))
theorem OG (F:Z1 K "count_below" FV f U)(b:Td P w K Z Y n)(c:Z "len" =none):Z2 P w K Z Y n f U ["numbers","number","low","high","middle"] 2 DO:=DX F DJ rfl λ_ _ _ _ _ _ d a=>(AM (Cd 2 a AH) (AM (Cd 3 a (BV FX rfl c ABG (Bn (AJ 0)))) (AM (Fw AAQ (Ez HX (AJ 2) (AJ 3)) (AM (Cd 4 a (Ae GO (Ae Ay (AJ 2) (AJ 3)) AH)) (AR (BW (CL (AK b d rfl (Ap (AU (AJ 0) (AJ 4)) (AJ 1)))) (AR (Cd 2 a (Ae Ay (AJ 4) AH))) (AR (Cd 3 a (AJ 4))))))) (AR (AX (AJ 2))))))
theorem ZR (F:Z1 K "rising" OT f U)(c:PR P w K Z Y n)(d:Z "len" =none):Z2 P w K Z Y n f U ["numbers","told","number","at"] 1 G7:=DX F DJ rfl λ_ _ _ _ _ _ a b=>(AM (D9 (i:=1) b rfl (Or.inl rfl) (BQ DF)) (AM (Bp AAQ rfl (DA (AJ 0)) (Ee 2 b) (AM (Cd 3 b (OY (AK c a rfl (Ap (AJ 1) (AJ 2))))) (AR (BW (dU (HZ (Uq (Ez (Dq a) (AJ 3) (BV FX rfl d ABG (Bn (AJ 1)))) (Oj (Ez (QW a) (AU (AJ 1) (AJ 3)) (AJ 2)))))) (AR (CG (i:=1) AED AEE QV (Ap (AJ 3) (AJ 2)))) A4)))) (AR (AX (AJ 1)))))
theorem Lu:EO ["stretches","steps","begin","held","end","first","last"] ["stretches"] (BO GK):=DJ
theorem UQ (F:VH K "steps_of" "steps_of" GK f U):Em P w K Z Y Sy (n+1) f U ["stretches"] (Cf K 1 Hh):=by
 have a:=Lu.nd;refine F.ok Lu (λvs H Q E h=> ?_) (λb A outer s H vs Q E c h=> ?_)
 .obtain ⟨T,M,xs,d,_,_,r,hl,_⟩:=h;rw[r.length,hl] <;> rfl
 obtain⟨T,M,xs,d,va,_,r,hl,hF,hQ⟩:=h;have hu:=gy c;obtain⟨x,ys,m,rfl,hx,hz,e,hq⟩:=VF hF;cases r with
 | cons r g=> cases g;refine⟨_,(Bk (FR (i:=1) a rfl (Or.inl rfl) gY) (Bk (WO AAQ rfl (cQ (pv 0)) (OJ rfl (Dp (ES (i:=2) a rfl (Or.inl rfl)) (Dp (ES (i:=3) a rfl (Or.inl rfl)) (Dp (ES (i:=4) a rfl (Or.inl rfl)) KG)))) (Bk (FR (i:=5) a rfl (Or.inl rfl) (OI (CS (pv 2) (CS (B8 WL A3 (pv 3)) FP)))) (Bk (X0 hu (pv 1) (pv 5) (B8 HE (UW hu (pv 1) (pv 5) A3 ⟨rfl,rfl,rfl,rfl⟩) A3) rfl) (ET (Xz (Md Xu (pv 4) cN (B3 _)) (Bk (FR (i:=6) a rfl (Or.inl rfl) (OI (CS (pv 4) (CS A3 FP)))) (ET (X0 hu (pv 1) (pv 6) (B8 WL (UW hu (pv 1) (pv 6) A3 ⟨rfl,rfl,rfl,rfl⟩) A3) rfl))) Mc))))) (ET (OL (pv 1))))), ?_⟩;exact Wo va r hx hz e λp j ex k hp=>hQ _ (.dct m) T j (YM va ex) (gv va k hp) hq
theorem ZQ (F:Z1 K "levels" OS f U)(d:bD P w K Z Y n)(e:Vt P w K Z Y n)(g:Z "list" =none):Z2 P w K Z Y n f U ["stretches","steps","told","count","moment","side"] 1 Fk:=by
 have b:(["moment","side"] :zy Str).Nodup:=by decide +kernel
 exact DX F DJ rfl λ_ _ _ _ _ _ c a=>(AM (Cd 1 a (AK e c rfl (Bn (AJ 0)))) (AM (D9 (i:=2) a rfl (Or.inl rfl) (BQ DF)) (AM (Cd 3 a AH) (AM (Bp AAQ rfl (DA (AK d c rfl (Bn (Ci (Bo rfl (DA (Ci (dE c rfl g boot_list (Bn (AJ 1))))) (Bg (own:=2) (ix:= []) (N:= ["moment","side" ]) rfl rfl rfl rfl rfl rfl (λ_ _ _ _ _ _=>(LX (n:=2) rfl (CA (HV 0 b) (CA (HV 1 b) Ht)))) (λ_ _ _ _ _ _=>BE) (λ_ _ _ _ _ _=>(AJ 0)))))))) (Ee 4 a) (AR (Bp AAQ rfl (DA (Af (Ap AH AH))) (Ee 5 a) (AR (BW (mE c (AJ 4) (AJ 5) (AJ 1)) (AM (dP (i:=3) a rfl (Or.inl rfl) (hI c (AJ 1) (AJ 4) (AJ 5) (λ_ _=>rfl)) ly) (AR (CG (i:=2) AAy AAz Bc (Bn (Af (FW (AJ 4) (AJ 5) (AJ 3))))))) A4))))) (AR (AX (AJ 2)))))))
theorem WE (F:Z1 K "counted" LO f U)(b:Tf P w K Z Y n)(c:Z "tuple" =none):Z2 P w K Z Y n f U ["stretches","n","told","begin","moment","side","count"] 2 Dx:=DX F DJ rfl λ_ _ _ _ _ _ d a=>(AM (D9 (i:=2) a rfl (Or.inl rfl) (BQ DF)) (AM (Cd 3 a Ba) (AM (Bp AAQ rfl (DA (AK b d rfl (Bn (AJ 0)))) (C2 (n:=3) rfl (Ag (Ee 4 a) (Ag (Ee 5 a) (Ag (Ee 6 a) B9)))) (AR (BW (HZ (EM (Ez GP (AJ 3) Ba) (DV (Ez dM (AJ 6) (AJ 1))))) (AR (Cd 3 a (Af (Ap (AJ 4) (Ae DG AH (AJ 5)))))) (AR (BW (HZ (EM (Ez SN (AJ 3) Ba) (DV (Ez HX (AJ 6) (AJ 1))))) (AM (CG (i:=2) AAy AAz Bc (Bn (Af (FW (AU (AJ 3) AH) (AU (AJ 3) AH) (AJ 4))))) (AR (Cd 3 a Ba))) A4))))) (AM (BW (Ez SN (AJ 3) Ba) (AR (CG (i:=2) AAy AAz Bc (Bn (Af (FW (AU (AJ 3) AH) (AU (AJ 3) AH) Ba))))) A4) (AR (AX (BZ C0 rfl c ABF (Bn (AJ 2)))))))))
theorem US (F:Z1 K "told_set" JT f U)(a:QF P w K Z Y n):Z2 P w K Z Y n f U ["stretches"] 1 D0:=DX F DJ rfl λ_ _ _ _ _ _ b _=>(AR (AX (AK a b rfl (Ap (AJ 0) AH))))
theorem UM (F:Z1 K "later_by" JO f U)(c:bC P w K Z Y n)(d:Nx P w K Z Y n):Z2 P w K Z Y n f U ["stretches","by","longer","begin","held","end"] 2 Ej:=DX F DJ rfl λ_ _ _ _ _ _ b a=>(AM (D9 (i:=2) a rfl (Or.inl rfl) (BQ DF)) (AM (Bp AAQ rfl (DA (AJ 0)) (C2 (n:=3) rfl (Ag (Ee 3 a) (Ag (Ee 4 a) (Ag (Ee 5 a) B9)))) (AR (CG (i:=2) AAy AAz Bc (Bn (Af (FW (AJ 3) (AJ 4) (Uk (Ez GP (AJ 5) Ba) Ba (AK c b rfl (Ap (AJ 5) (AJ 1)))))))))) (AR (AX (AK d b rfl (Bn (AJ 2)))))))
theorem ZS (F:Z1 K "summed" OU f U)(g:Z "max" =none)(h:Z "tuple" =none)(j:Z "zip" =none):Z2 P w K Z Y n f U ["one","many","other","more","numbers","weights","number","weight"] 4 G8:=by
 have a:(["former","latter","many","more"] :zy Str).Nodup:=by decide +kernel
 have b:(["number","weight","many"] :zy Str).Nodup:=by decide +kernel
 exact DX F DJ rfl λ_ _ _ _ _ _ e c=>(AM (Cd 4 c (BZ C0 rfl h ABF (Bn (Ci (Bo rfl (Zc rfl j (Ap (AU (AJ 0) AH) (AU (AJ 2) AH))) (Bg (own:=2) (ix:= [1,3]) (N:= ["former","latter" ,"many" ,"more" ]) rfl rfl rfl rfl rfl rfl (λ_ _ _ _ _ _=>(LX (n:=2) rfl (CA (HV 0 a) (CA (HV 1 a) Ht)))) (λ_ _ _ _ _ _=>BE) (λ_ _ _ _ _ _=>(Ae Ay (Ae BH (AJ 2) (AJ 0)) (Ae BH (AJ 3) (AJ 1)))))))))) (dR (by decide) (by decide) (by decide) (by decide) (by decide) (by decide) (AU (AJ 0) AH) (AU (AJ 2) AH) (λte d=>cW (i:=5) rfl c rfl (Or.inl rfl) (UX d rfl rfl rfl rfl) (Qw (own:=2) (ix:= [1]) (N:= ["number","weight" ,"many" ]) rfl rfl rfl rfl rfl rfl (bA (Nt (Q6 (by decide)) MY (Nt (Q6 (by decide)) MY XZ Q7) (TU MY Q7))) (λ_ _ _ _ _ _=>(OJ rfl (Dp (ES (i:=0) b rfl (Or.inl rfl)) (Dp (ES (i:=1) b rfl (Or.inl rfl)) KG)))) (λ_ _ _ _ _ _=>Xw) (λ_ _ _ _ _ _=>(pv 0))) (λ_ _ _ _ _ _=>(B8 Rf (pv 2) (pv 1)))) (λte d=>WO AAQ rfl (UX d rfl rfl rfl rfl) (OJ rfl (Dp (ES (i:=6) c rfl (Or.inl rfl)) (Dp (ES (i:=7) c rfl (Or.inl rfl)) KG))) (ET (gi (vP e) (pv 5) (pv 6) (B8 HE (cI (vP e) (pv 5) (pv 6) A3 ⟨rfl,rfl,rfl,rfl⟩) (B8 Rf (pv 3) (pv 7))) rfl))) (AR (AX (Af (FW (AJ 4) (BV (ln rfl) rfl g boot_max (Ap (AU (AJ 0) AH) (AU (AJ 2) AH))) (AJ 5)))))))
theorem WF (F:Z1 K "crossed" LP f U)(a:bE P w K Z Y n):Z2 P w K Z Y n f U ["low","high","at"] 3 Fj:=DX F DJ rfl λ_ _ _ _ _ _ b _=>(AR (AX (AK a b rfl (C9 (AJ 0) (FW (GL (AU (AU (AJ 1) AH) (AJ 2))) (AJ 1) (AU (AU (AJ 0) AH) (AJ 2)))))))
theorem UL (F:Z1 K "is_never" JN f U):Z2 P w K Z Y n f U ["plane","total"] 1 Dy:=DX F DJ rfl λ_ _ _ _ _ _ a b=>(AM (Cd 1 b (AU (AU (AJ 0) AH) AH)) (AR (AX (jJ (C1 HX (AJ 1) AH (B3 _)) (LV (OW (C1 (Dq a) (AJ 1) AH (B3 _)) (LV (C1 (Dq a) (AU (AJ 0) AH) AH (B3 _)))))))))
theorem WJ (F:Z1 K "turn_of" LU f U):Z2 P w K Z Y n f U ["plane","at","total","factor"] 2 DZ:=DX F DJ rfl λ_ _ _ _ _ _ _ a=>(AM (Cd 2 a (AU (AU (AJ 0) AH) AH)) (AM (Cd 3 a (AU (AU (AJ 0) AH) (AJ 1))) (AR (AX (Uk (Ez HW (AJ 3) AH) (Af (Ap (GL (AJ 2)) (AJ 3))) (Af (Ap (AJ 2) (GL (AJ 3)))))))))
theorem Pd (F:Z1 K "is_tighter" GJ f U)(b:Td P w K Z Y n)(c:QG P w K Z Y n):Z2 P w K Z Y n f U ["plane","other","at","here","there"] 3 Dj:=DX F DJ rfl λ_ _ _ _ _ _ a d=>(AM (Cd 3 d (AK c a rfl (Ap (AJ 0) (AJ 2)))) (AM (Cd 4 d (AK c a rfl (Ap (AJ 1) (AJ 2)))) (AM (BW (CL (AK b a rfl (Ap (AJ 3) (AJ 4)))) (AR (AX (C1 HX (AU (AU (AJ 0) AH) (AJ 2)) AH (B3 _)))) A4) (AM (BW (CL (AK b a rfl (Ap (AJ 4) (AJ 3)))) (AR (AX (C1 HW (AU (AU (AJ 0) AH) (AJ 2)) AH (B3 _)))) A4) (AR (AX (C1 HW (AU (AJ 0) AH) (AU (AJ 1) AH) (B3 _))))))))
theorem UR (F:Z1 K "tightest" JS f U)(b:RC P w K Z Y n):Z2 P w K Z Y n f U ["planes","at","sign","told","plane"] 3 Cv:=DX F DJ rfl λ_ _ _ _ _ _ c a=>(AM (Cd 3 a Ba) (AM (Bp AAQ rfl (DA (AJ 0)) (Ee 4 a) (AR (BW (HZ (EM (Ez HW (Ae BH (AU (AU (AJ 4) AH) (AJ 1)) (AJ 2)) AH) (DV (HZ (Uq (Ez GP (AJ 3) Ba) (Oj (CL (AK b c rfl (FW (AJ 4) (AJ 3) (AJ 1)))))))))) (AR (Cd 3 a (AJ 4))) A4))) (AR (AX (AJ 3)))))
theorem UK (F:Z1 K "fault_in" JM f U)(e:Y1 P w K Z Y n)(c:Vo P w K Z Y n)(d:Nw P w K Z Y n):Z2 P w K Z Y n f U ["planes","at","plane","high","both"] 2 Ei:=DX F DJ rfl λ_ _ _ _ _ _ a b=>(AM (Bp AAQ rfl (DA (AJ 0)) (Ee 2 b) (AR (BW (HZ (EM (Ez (Dq a) (AU (AU (AJ 2) AH) (AJ 1)) AH) (DV (CL (AK c a rfl (Bn (AJ 2))))))) (AR (AX (AJ 2))) A4))) (AM (Cd 3 b (AK d a rfl (FW (AJ 0) (AJ 1) (GL AH)))) (AM (BW (Ez GP (AJ 3) Ba) (AR (AX Ba)) A4) (AM (Cd 4 b (AK e a rfl (FW (AK d a rfl (FW (AJ 0) (AJ 1) AH)) (AJ 3) (AJ 1)))) (AR (AX (Uk (CL (AK c a rfl (Bn (AJ 4)))) (AJ 4) Ba)))))))
theorem bo (F:Z1 K "minus" R0 f U)(a:Nv P w K Z Y n):Z2 P w K Z Y n f U ["one","other"] 2 EA:=DX F DJ rfl λ_ _ _ _ _ _ b _=>(AR (AX (AK a b rfl (Ap (Ae DG (Ae BH (AU (AJ 0) AH) (AU (AJ 1) AH)) (Ae BH (AU (AJ 1) AH) (AU (AJ 0) AH))) (Ae BH (AU (AJ 0) AH) (AU (AJ 1) AH))))))
theorem gM (F:Z1 K "over" WW f U)(a:Nv P w K Z Y n):Z2 P w K Z Y n f U ["one","other"] 2 NQ:=DX F DJ rfl λ_ _ _ _ _ _ b _=>(AR (AX (AK a b rfl (Ap (Ae BH (AU (AJ 0) AH) (AU (AJ 1) AH)) (Ae BH (AU (AJ 0) AH) (AU (AJ 1) AH))))))
theorem b6 (F:Z1 K "times" R3 f U)(a:Nv P w K Z Y n):Z2 P w K Z Y n f U ["one","other"] 2 Jr:=DX F DJ rfl λ_ _ _ _ _ _ b _=>(AR (AX (AK a b rfl (Ap (Ae BH (AU (AJ 0) AH) (AU (AJ 1) AH)) (Ae BH (AU (AJ 0) AH) (AU (AJ 1) AH))))))
theorem LG (F:Z1 K "piece_between" EK f U)(c:RD P w K Z Y n)(d:j5 P w K Z Y n)(e:fS P w K Z Y n)(g:Z "zip" =none):Z2 P w K Z Y n f U ["former","latter","span","lines","low","high","slope"] 2 B4:=DX F DJ rfl λ_ _ _ _ _ _ a b=>(AM (Cd 2 b (AK c a rfl (Ap (AU (AJ 1) AH) (AU (AJ 0) AH)))) (AM (D9 (i:=3) b rfl (Or.inl rfl) (BQ DF)) (AM (Bp AAQ rfl (Zc rfl g (Ap (IY (AJ 0) (eQ AH) eO) (IY (AJ 1) (eQ AH) eO))) (C2 (n:=2) rfl (Ag (Ee 4 b) (Ag (Ee 5 b) B9))) (AM (Cd 6 b (AK d a rfl (Ap (AK c a rfl (Ap (AJ 5) (AJ 4))) (AJ 2)))) (AR (CG (i:=3) AAy AAz Bc (Bn (Af (Ap (AK c a rfl (Ap (AJ 4) (AK e a rfl (Ap (AJ 6) (AU (AJ 0) AH))))) (AJ 6)))))))) (AR (AX (Af (FW (AU (AJ 0) AH) (AU (AJ 1) AH) (AJ 3))))))))
theorem Ra (F:Z1 K "pieces_of" HS f U)(b:MK P w K Z Y n)(c:Z "len" =none)(d:Z "range" =none):Z2 P w K Z Y n f U ["plan"] 1 EE:=by
 have a:(["at","plan"] :zy Str).Nodup:=by decide +kernel
 exact DX F DJ rfl λ_ _ _ _ _ _ e _=>(AR (AX (Ci (Bo rfl (KZ rfl d (Bn (Ae DG (BV FX rfl c ABG (Bn (AJ 0))) AH))) (Bg (own:=1) (ix:= [0]) (N:= ["at","plan" ]) rfl rfl rfl rfl rfl rfl (λ_ _ _ _ _ _=>(HV 0 a)) (λ_ _ _ _ _ _=>BE) (λ_ _ _ _ _ _=>(AK b e rfl (Ap (AU (AJ 1) (AJ 0)) (AU (AJ 1) (Ae Ay (AJ 0) AH))))))))))
theorem UN (F:Z1 K "negative" JP f U):Z2 P w K Z Y n f U ["number"] 1 Dz:=DX F DJ rfl λ_ _ _ _ _ _ _ _=>(AR (AX (Af (Ap (GL (AU (AJ 0) AH)) (AU (AJ 0) AH)))))
theorem LH (F:Z1 K "shared_bottom" EL f U)(b:Te P w K Z Y n):Z2 P w K Z Y n f U ["numbers","told","top","bottom"] 1 CY:=DX F DJ rfl λ_ _ _ _ _ _ c a=>(AM (Cd 1 a AH) (AM (Bp AAQ rfl (DA (AJ 0)) (C2 (n:=2) rfl (Ag (Ee 2 a) (Ag (Ee 3 a) B9))) (AR (dP (i:=1) a rfl (Or.inl rfl) (Ae GO (AJ 3) (AK b c rfl (Ap (AJ 1) (AJ 3)))) l7))) (AR (AX (AJ 1)))))
theorem UO (F:Z1 K "plane_of" JQ f U)(c:ML P w K Z Y n)(d:Z "tuple" =none):Z2 P w K Z Y n f U ["form","strict","number","shared","numbers"] 3 CO:=by
 have a:(["top","bottom","shared"] :zy Str).Nodup:=by decide +kernel
 exact DX F DJ rfl λ_ _ _ _ _ _ e b=>(AM (GQ (i:=3) b rfl (Or.inr rfl) (AK c e rfl (Bn (AJ 0)))) (AM (Cd 4 b (BZ C0 rfl d ABF (Bn (Ci (Bo rfl (DA (AJ 0)) (Bg (own:=2) (ix:= [3]) (N:= ["top","bottom" ,"shared" ]) rfl rfl rfl rfl rfl rfl (λ_ _ _ _ _ _=>(LX (n:=2) rfl (CA (HV 0 a) (CA (HV 1 a) Ht)))) (λ_ _ _ _ _ _=>BE) (λ_ _ _ _ _ _=>(Ae BH (AJ 0) (Ae GO (AJ 2) (AJ 1)))))))))) (AR (AX (Af (FW (AJ 4) (AJ 1) (lu (AJ 2) (AJ 3))))))))
theorem Rb (F:Z1 K "planes_in" HU f U)(g:RD P w K Z Y n)(h:Vq P w K Z Y n)(e:Vr P w K Z Y n)(j:Z "len" =none)(k:Z "zip" =none)(a:Kc K Z "BACK" (.tup [(.int (-1)),(.int 1)]))(b:Kc K Z "ONCE" (.tup [(.int 1),(.int 1)])):Z2 P w K Z Y n f U ["piece","walls","planes","begin","end","lines","base","slope","low","high"] 2 EF:=DX F DJ rfl λ_ _ _ _ _ _ c d=>(AM (Wi (AJ 0) (C2 (n:=3) rfl (Ag (Ee 3 d) (Ag (Ee 4 d) (Ag (Ee 5 d) B9))))) (AM (D9 (i:=2) d rfl (Or.inl rfl) (BQ (Ap (AK e c rfl (FW (Af (Ap (AK h c rfl (Bn (AJ 3))) (Uj b rfl))) AH AH)) (AK e c rfl (FW (Af (Ap (AJ 4) (Uj a rfl))) AH AH))))) (AM (Bp AAQ rfl (Zc rfl k (Ap (AJ 5) (AJ 1))) (C2 (n:=2) rfl (Ag (C2 (n:=2) rfl (Ag (Ee 6 d) (Ag (Ee 7 d) B9))) (Ag (C2 (n:=2) rfl (Ag (Ee 8 d) (Ag (Ee 9 d) B9))) B9))) (AM (CG (i:=2) AAy AAz Bc (Bn (OY (AK e c rfl (FW (Af (Ap (AK g c rfl (Ap (AJ 6) (AJ 8))) (AJ 7))) AH (BV FX rfl j ABG (Bn (AJ 2)))))))) (AR (CG (i:=2) AAy AAz Bc (Bn (OY (AK e c rfl (FW (Af (Ap (AK g c rfl (Ap (AJ 9) (AJ 6))) (AK h c rfl (Bn (AJ 7))))) AH (BV FX rfl j ABG (Bn (AJ 2))))))))))) (AR (AX (AJ 2))))))
theorem UP (F:Z1 K "range_in" JR f U)(c:Nv P w K Z Y n)(d:Nw P w K Z Y n)(e:QG P w K Z Y n):Z2 P w K Z Y n f U ["planes","at","low","least","high","greatest"] 2 Ek:=DX F DJ rfl λ_ _ _ _ _ _ a b=>(AM (Cd 2 b (AK d a rfl (FW (AJ 0) (AJ 1) AH))) (AM (Cd 3 b (AK e a rfl (Ap (AJ 2) (AJ 1)))) (AM (Cd 3 b (AK c a rfl (Ap (AU (AJ 3) AH) (AU (AJ 3) AH)))) (AM (Cd 4 b (AK d a rfl (FW (AJ 0) (AJ 1) (GL AH)))) (AM (BW (Ez GP (AJ 4) Ba) (AR (AX (Af (FW (AJ 3) (Ae DG AH (AU (AJ 2) AH)) Ba)))) A4) (AM (Cd 5 b (AK e a rfl (Ap (AJ 4) (AJ 1)))) (AR (AX (Af (FW (AJ 3) (Ae DG AH (AU (AJ 2) AH)) (AK c a rfl (Ap (AU (AJ 5) AH) (AU (AJ 5) AH)))))))))))))
theorem RZ (F:Z1 K "own_stays" HR f U)(c:Vn P w K Z Y n)(d:Th P w K Z Y n)(e:Ti P w K Z Y n)(g:Vs P w K Z Y n):Z2 P w K Z Y n f U ["plan","walls","told","piece","planes"] 2 ED:=DX F DJ rfl λ_ _ _ _ _ _ a b=>(AM (D9 (i:=2) b rfl (Or.inl rfl) (BQ DF)) (AM (Bp AAQ rfl (DA (AK d a rfl (Bn (AJ 0)))) (Ee 3 b) (AM (Cd 4 b (AK e a rfl (Ap (AJ 3) (AJ 1)))) (AR (BW (Ez GP (AK c a rfl (Ap (AJ 4) AH)) Ba) (AR (CG (i:=2) AAy AAz Bc (Bn (AK g a rfl (Ap (AJ 4) AH))))) A4)))) (AR (AX (AJ 2)))))
theorem WI (F:Z1 K "size_of" LS f U):Z2 P w K Z Y n f U ["apart","side"] 2 EY:=DX F DJ rfl λ_ _ _ _ _ _ a _=>(AR (AX (Uk (Ez (Dq a) (AJ 1) AH) (AU (AJ 0) AH) (AU (AJ 0) AH))))
theorem UT (F:Z1 K "walls_of" JU f U)(c:RD P w K Z Y n)(d:bC P w K Z Y n)(e:Y4 P w K Z Y n)(g:Z "range" =none):Z2 P w K Z Y n f U ["room","bounds","told","side","off"] 2 El:=DX F DJ rfl λ_ _ _ _ _ _ a b=>(AM (D9 (i:=2) b rfl (Or.inl rfl) (BQ DF)) (AM (Bp AAQ rfl (KZ rfl g (Bn AH)) (Ee 3 b) (AM (Cd 4 b (AK e a rfl (Ap (AJ 1) (AJ 3)))) (AR (CG (i:=2) AAy AAz Bc (Bn (Af (Ap (AK c a rfl (Ap (AU (AU (AJ 0) AH) (AJ 3)) (AJ 4))) (AK d a rfl (Ap (AU (AU (AJ 0) AH) (AJ 3)) (AJ 4)))))))))) (AR (AX (AJ 2)))))
theorem bq (F:Z1 K "stays" R1 f U)(c:Vp P w K Z Y n)(d:Tg P w K Z Y n)(e:Vu P w K Z Y n):Z2 P w K Z Y n f U ["flight","room","plan","bounds"] 2 Hg:=DX F DJ rfl λ_ _ _ _ _ _ a b=>(AM (Wi (AJ 0) (C2 (n:=2) rfl (Ag (Ee 2 b) (Ag (Ee 3 b) B9)))) (AR (AX (AK c a rfl (Ap (AK d a rfl (Ap (AJ 2) (AK e a rfl (Ap (AJ 1) (AJ 3))))) (AU (AJ 3) AH))))))
theorem RY (F:Z1 K "all_stays" HQ f U)(b:fR P w K Z Y n):Z2 P w K Z Y n f U ["flights","room"] 2 EC:=by
 have a:(["flight","room"] :zy Str).Nodup:=by decide +kernel
 exact DX F DJ rfl λ_ _ _ _ _ _ c _=>(AR (AX (Ci (Bo rfl (DA (AJ 0)) (Bg (own:=1) (ix:= [1]) (N:= ["flight","room" ]) rfl rfl rfl rfl rfl rfl (λ_ _ _ _ _ _=>(HV 0 a)) (λ_ _ _ _ _ _=>BE) (λ_ _ _ _ _ _=>(AK b c rfl (Ap (AJ 0) (AJ 1)))))))))
theorem LF (F:Z1 K "all_stretches" EJ f U)(b:Nx P w K Z Y n):Z2 P w K Z Y n f U ["sets"] 1 CW:=by
 have a:(["stretch","stretches"] :zy Str).Nodup:=by decide +kernel
 exact DX F DJ rfl λ_ _ _ _ _ _ c _=>(AR (AX (Ci (dD rfl (DA (AJ 0)) (fF (own:=2) (own2:=1) (ix:= []) (N:= ["stretch","stretches" ]) rfl rfl rfl rfl rfl rfl (by decide) (λ_ _ _ _ _ _=>(HV 1 a)) (λ_ _ _ _ _ _=>BE) (λ_ _ _ _ _ _=>(DA (AK b c rfl (Bn (AJ 1))))) (λ_ _ _ _ _ _=>(HV 0 a)) (λ_ _ _ _ _ _=>BE) (λ_ _ _ _ _ _=>(AJ 0)))))))
theorem WH (F:Z1 K "most_in" LR f U)(d:MJ P w K Z Y n)(e:QF P w K Z Y n)(g:Tf P w K Z Y n)(h:Z "max" =none):Z2 P w K Z Y n f U ["sets","stretches","most"] 1 Fn:=by
 have a:(["moment","side","count"] :zy Str).Nodup:=by decide +kernel
 exact DX F DJ rfl λ_ _ _ _ _ _ b c=>(AM (Cd 1 c (AK d b rfl (Bn (AJ 0)))) (AM (Cd 2 c (hG rfl rfl h (Ci (Bo rfl (DA (AK g b rfl (Bn (AJ 1)))) (Bg (own:=3) (ix:= []) (N:= ["moment","side" ,"count" ]) rfl rfl rfl rfl rfl rfl (λ_ _ _ _ _ _=>(LX (n:=3) rfl (CA (HV 0 a) (CA (HV 1 a) (CA (HV 2 a) Ht))))) (λ_ _ _ _ _ _=>BE) (λ_ _ _ _ _ _=>(AJ 2))))) AH)) (AM (BW (Ez (Dq b) (AJ 2) AH) (AR (AX (Af (Ap AH Ba)))) A4) (AR (AX (Af (Ap (AJ 2) (AU (AK e b rfl (Ap (AJ 1) (AJ 2))) AH))))))))
theorem WG (F:Z1 K "fullest" LQ f U)(b:Tc P w K Z Y n)(c:Y3 P w K Z Y n):Z2 P w K Z Y n f U ["flights","room"] 2 DY:=DX F DJ rfl λ_ _ _ _ _ _ a _=>(AR (AX (AK c a rfl (Bn (AK b a rfl (Ap (AJ 0) (AJ 1)))))))
theorem kq (F:Z1 K "law" QR f U)(j:Cw P w K Z Y n)(k:Nu P w K Z Y n)(e:TV P w K Z Y n)(l:TX P w K Z Y n)(o:TY P w K Z Y n)(p:K4 P w K Z Y n)(r:Ta P w K Z Y n)(g:Y2 P w K Z Y n)(h:Z "len" =none)(s:Z "min" =none)(t:Z "range" =none):Z2 P w K Z Y n f U ["_law_script","_law_k","_law_tape_here","_law_flights_here","_law_room_here","_law_sets","_law_most","_law_due","_law_other"] 1 EW:=by
 have c:(["_law_flight","_law_room_here"] :zy Str).Nodup:=by decide +kernel
 have d:(["_law_stretches"] :zy Str).Nodup:=by decide +kernel
 exact DX F DJ rfl λ_ _ _ _ _ _ a b=>(AM (Bp AAQ rfl (KZ rfl t (Bn (Ae Ay AH (BV (lp rfl) rfl s boot_min (Ap AH (BV FX rfl h ABG (Bn (AJ 0)))))))) (Ee 1 b) (AM (Cd 2 b (AK r a rfl (Ap (AJ 0) (AJ 1)))) (AM (Cd 3 b (AK k a rfl (Bn (AJ 2)))) (AM (GQ (i:=4) b rfl (Or.inr rfl) (AK l a rfl (Bn (AJ 2)))) (AM (HY (i:=5) rfl b rfl (Or.inl rfl) (DA (AJ 3)) (Bg (own:=1) (ix:= [4]) (N:= ["_law_flight","_law_room_here" ]) rfl rfl rfl rfl rfl rfl (λ_ _ _ _ _ _=>(HV 0 c)) (λ_ _ _ _ _ _=>BE) (λ_ _ _ _ _ _=>(AK p a rfl (Ap (AJ 0) (AJ 1)))))) (AM (Cd 6 b (BV FX rfl h ABG (Bn (Ci (Bo rfl (DA (AJ 5)) (Bg (own:=1) (ix:= []) (N:= ["_law_stretches"]) rfl rfl rfl rfl rfl rfl (λ_ _ _ _ _ _=>(HV 0 d)) (λ_ _ _ _ _ _=>(YC (Ez (QW a) (AJ 0) (Af DF)))) (λ_ _ _ _ _ _=>(AJ 0)))))))) (AM (Fw AAQ (HZ (EM (Ez HW (AJ 6) AH) (DV (Ez (Dq a) (AK e a rfl (Ap (AJ 5) (AJ 6))) (Af DF))))) (AR (Cd 6 b (Ae DG (AJ 6) AH)))) (AM (Cd 7 b (Af (Ap AH Ba))) (AM (BW (Ez HW (AJ 6) AH) (AR (Cd 7 b (Af (Ap (AJ 6) (AU (AK e a rfl (Ap (AJ 5) (AJ 6))) AH))))) A4) (AM (Cd 8 b (Ae Ay (IY (AJ 4) eO (eQ AH)) (Af (Bn (Ae Ay (Ae Ay (AU (AJ 4) AH) AH) (AK j a rfl (Ap (AJ 2) AH))))))) (AR (BW (SV (CL (AK o a rfl (Ap (Ci (BQ (Ap (AK g a rfl (Ap (AJ 3) (AJ 4))) (AK g a rfl (Ap (AJ 3) (AJ 8)))))) (Ci (BQ (Ap (AJ 7) (AJ 7)))))))) (AR (AX OX)) A4)))))))))))) (AR (AX OX)))
end
def j6 {P:kj}{w:ki}{K:AAB}{Z:Str->zt zx}{Y:kf}{k:Nat}{x:Str}{st:Stmt}{a:zy Str}{sp:Sp}{f:zu}{U:FuncData}(F:VH K x x st f U)(b:Binds K U a [])(m:Z x=some (.ref f))(G:Em P w K Z Y Sy k f U a sp):Has P w K Z Y k x a sp:=⟨f,U,m,F.kp,b,G⟩
def oT {us:zy zx}(hl:us.length=1):∃a:zx,us= [a] :=by match us,hl with | [a],_=>exact⟨_,rfl⟩
def oU {us:zy zx}(hl:us.length=2):∃a b:zx,us= [a,b] :=by match us,hl with | [a,b],_=>exact⟨_,_,rfl⟩
def oV {us:zy zx}(hl:us.length=3):∃a b c:zx,us= [a,b,c] :=by match us,hl with | [a,b,c],_=>exact⟨_,_,_,rfl⟩
def oW {us:zy zx}(hl:us.length=4):∃a b c d:zx,us= [a,b,c,d] :=by match us,hl with | [a,b,c,d],_=>exact⟨_,_,_,_,rfl⟩
def C3 (K:AAB)(x:Str)(st:Stmt)(f:zu):Prop:=PySem.W.nsIn K mainGlobals x=some (some (.ref f))/\∃U,VH K x x st f U
def xQ {K:AAB}{x:Str}{st:Stmt}{f:zu}{g:zx}{h i:zt zu}{d:Array (zt zx)}{kV e j b ct:zx}(a:PySem.W.nsIn K mainGlobals x=some (some (.ref f)))(l:K.lookup f=some ⟨g,h, .func (PySem.W.fnOf x x (F8 st) (EB st) (BO st) .none kV e j i b ct),d⟩)(c:PySem.W.codeIn K b x=true)(k:PySem.W.keepIn K (.ref f)=true):C3 K x st f:=⟨a,_,ax l c k⟩
def rW {P:kj}{w:ki}{K:AAB}{h Y:kf}{Z:Str->zt zx}{k:Nat}{x:Str}{st:Stmt}{c:zy Str}{sp:Sp}{f:zu}(A:C3 K x st f)(X:K.In h)(G:h.Ns mainGlobals Z)(g:∀U,VH K x x st f U->Binds K U c [] ->Z x=some (.ref f)->Em P w K Z Y Sy k f U c sp)(b:∀U,VH K x x st f U->Binds K U c [] :=by exact λ_ F=>F.binds λ_ _ _ _ _ _ us hl=>by first | (obtain⟨_,rfl⟩:=oT hl;rfl)|(obtain⟨_,_,rfl⟩:=oU hl;rfl)|(obtain⟨_,_,_,rfl⟩:=oV hl;rfl)|(obtain⟨_,_,_,_,rfl⟩:=oW hl;rfl)):Has P w K Z Y k x c sp:=
 let ⟨a,U,F⟩:=A;j6 F (b U F) (ACc X G a) (g U F (b U F) (ACc X G a))
def all_mk {l:PySem.W.OpenLaw}{w:ki}{K:AAB}{h:kf}{Z:Str->zt zx}{fa f1 f2 f3 f4 f5 f6 f7 f8 f9 J L M N O P Q R S T f20 f21 f22 f23 f24 f25 f26 f27 f28 f29 f30 f31 f32 f33 f34 f35 f36 f37 f38 f39 f40 f41 f42 f43 f44 f45 f46 f47 f48 f49 f50 f51 f52 f53 f54 f55 f56 f57 f58 f59 f60 f61 f62 f63 f64 f65 f66:zu}(X:K.In h)(G:h.Ns mainGlobals Z)(xu:Z "law" =some (.ref fa))(a1:C3 K "_law_draw" FF f1)(a2:C3 K "_law_bounds" FS f2)(a3:C3 K "_law_part" HJ f3)(a4:C3 K "_law_sum" JL f4)(a5:C3 K "_law_far" JH f5)(a6:C3 K "_law_place" GH f6)(a7:C3 K "_law_span" HN f7)(a8:C3 K "_law_plan" HK f8)(a9:C3 K "_law_flights" Eu f9)(a10:C3 K "_law_less" HH J)(a11:C3 K "_law_is_in" GF L)(a12:C3 K "_law_count" GE M)(a13:C3 K "_law_product" Ew N)(a14:C3 K "_law_middles" Ev O)(a15:C3 K "_law_rising" FU P)(a16:C3 K "_law_set" JK Q)(a17:C3 K "_law_many" HI R)(a18:C3 K "_law_off" JI S)(a19:C3 K "_law_room" HL T)(a20:C3 K "_law_same" HM f20)(a21:C3 K "_law_box" JG f21)(a22:C3 K "_law_may_be" FT f22)(a23:C3 K "_law_ratio" GI f23)(a24:C3 K "_law_spot" HP f24)(a25:C3 K "_law_is_inside" D6 f25)(a26:C3 K "_law_marks" GG f26)(a27:C3 K "_law_own" JJ f27)(a28:C3 K "_law_stays_due" D7 f28)(a29:C3 K "_law_tape" FG f29)(a30:C3 K "common" OR f30)(a31:C3 K "part" WX f31)(a32:C3 K "plus" WY f32)(a33:C3 K "before" OQ f33)(a34:C3 K "count_below" FV f34)(a35:C3 K "rising" OT f35)(a36:C3 K "steps_of" GK f36)(a37:C3 K "levels" OS f37)(a38:C3 K "counted" LO f38)(a39:C3 K "told_set" JT f39)(a40:C3 K "later_by" JO f40)(a41:C3 K "summed" OU f41)(a42:C3 K "crossed" LP f42)(a43:C3 K "is_never" JN f43)(a44:C3 K "turn_of" LU f44)(a45:C3 K "is_tighter" GJ f45)(a46:C3 K "tightest" JS f46)(a47:C3 K "fault_in" JM f47)(a48:C3 K "minus" R0 f48)(a49:C3 K "over" WW f49)(a50:C3 K "times" R3 f50)(a51:C3 K "piece_between" EK f51)(a52:C3 K "pieces_of" HS f52)(a53:C3 K "negative" JP f53)(a54:C3 K "shared_bottom" EL f54)(a55:C3 K "plane_of" JQ f55)(a56:C3 K "planes_in" HU f56)(a57:C3 K "range_in" JR f57)(a58:C3 K "own_stays" HR f58)(a59:C3 K "size_of" LS f59)(a60:C3 K "walls_of" JU f60)(a61:C3 K "stays" R1 f61)(a62:C3 K "all_stays" HQ f62)(a63:C3 K "all_stretches" EJ f63)(a64:C3 K "most_in" LR f64)(a65:C3 K "fullest" LQ f65)(E:C3 K "law" QR f66)(o:PySem.W.nsIn K mainGlobals "abs" =some none)(p:PySem.W.nsIn K mainGlobals "all" =some none)(r:PySem.W.nsIn K mainGlobals "any" =some none)(a:PySem.W.nsIn K mainGlobals "enumerate" =some none)(t:PySem.W.nsIn K mainGlobals "int" =some none)(u:PySem.W.nsIn K mainGlobals "len" =some none)(d:PySem.W.nsIn K mainGlobals "list" =some none)(x:PySem.W.nsIn K mainGlobals "max" =some none)(y:PySem.W.nsIn K mainGlobals "min" =some none)(b:PySem.W.nsIn K mainGlobals "range" =some none)(z:PySem.W.nsIn K mainGlobals "str" =some none)(c:PySem.W.nsIn K mainGlobals "tuple" =some none)(A:PySem.W.nsIn K mainGlobals "zip" =some none){qBACK_2:Tok}{qBACK_3:Tok}{qBACK_1:zu}{qBACK_1n:Nat}{qBACK_1d:zt zu}{qBACK_1s:Array (zt zx)}{qONCE_5:Tok}{qONCE_6:Tok}{qONCE_4:zu}{qONCE_4n:Nat}{qONCE_4d:zt zu}{qONCE_4s:Array (zt zx)}(a_ONCE:PySem.W.nsIn K mainGlobals "ONCE" =some (some (.ref qONCE_4)))(a_BACK:PySem.W.nsIn K mainGlobals "BACK" =some (some (.ref qBACK_1)))(h_qBACK_1:K.lookup qBACK_1=some ⟨.type "tuple",qBACK_1d, .seq (List.toArray [(.int (-1) qBACK_2),(.int 1 qBACK_3)]) qBACK_1n,qBACK_1s⟩)(h_qONCE_4:K.lookup qONCE_4=some ⟨.type "tuple",qONCE_4d, .seq (List.toArray [(.int 1 qONCE_5),(.int 1 qONCE_6)]) qONCE_4n,qONCE_4s⟩):∃U:FuncData,(∀(s:zw) (v:zx),BindsTo s U ⟨[v], []⟩ [("_law_script",v)])/\∀Y:kf,K.In Y->Y.Ns mainGlobals Z->Em l.prog w K Z Y Sy 11 fa U ["_law_script"] (Cf K 1 EW):=by have e:=xu.symm.trans (ACc X G E.1);cases e;obtain⟨aL,fdL,FL⟩:=E;obtain⟨⟨oc,od,kV,doc,pm,an,cdv,ct,osl,eL,lL,cL⟩,kL⟩:=FL;subst eL;have FL:=ax lL cL kL;have Gd:=AA5 X G o;have d5:=AA5 X G p;have d6:=AA5 X G r;have Dg:=AA5 X G a;have Kb:=AA5 X G t;have f:=AA5 X G u;have W4:=AA5 X G d;have Qb:=AA5 X G x;have d8:=AA5 X G y;have k:=AA5 X G b;have YS:=AA5 X G z;have g:=AA5 X G c;have B:=AA5 X G A;have i:Kc K Z "BACK" (.tup [(.int (-1)),(.int 1)]):=i6 (ACc X G a_BACK) (X6 h_qBACK_1 (.cons Me (.cons Me .nil)));have j:Kc K Z "ONCE" (.tup [(.int 1),(.int 1)]):=i6 (ACc X G a_ONCE) (X6 h_qONCE_4 (.cons Me (.cons Me .nil)));refine⟨PySem.W.fnOf "law" "law" (F8 QR) (EB QR) (BO QR) .none kV doc pm an cdv ct,λs v=> .of_eq rfl,λY _ _=> ?_⟩;have hs:= @rW l.prog w K h Y Z;have H1:=hs a1 X G λ_ F _ _=>RO (n:=0) F;have H2:=hs a2 X G λ_ F _ _=>OD (n:=1) F (BR H1);have C:=hs a3 X G λ_ F _ _=>RR (n:=0) F Gd Kb;have m:=hs a4 X G λ_ F _ _=>UJ (n:=1) F (BR C);have H5:=hs a5 X G λ_ F _ _=>UF (n:=2) F (BR m) g;have H6:=hs a6 X G λ_ F _ _=>Pa (n:=1) F (BR H1) (BR C);have H7:=hs a7 X G λ_ F _ _=>RV (n:=1) F (BR H1) (BR C);have H8:=hs a8 X G λ_ F _ _=>RS (n:=2) F (BR H1) (BR H6) (BR H7) (BR m) f g;have H9:=hs a9 X G λ_ F _ _=>MN (n:=3) F (BR H2) (BR H1) (BR H5) (BR H8) Kb k;have D:=hs a10 X G λ_ F _ _=>RP (n:=0) F;have mV:=hs a11 X G λ_ F _ _=>PY (n:=1) F (BR D) d6;have wW:=hs a12 X G λ_ F _ _=>PX (n:=2) F (BR mV) f;have qr:=hs a13 X G λ_ F _ _=>MP (n:=1) F (BR C);have qt:=hs a14 X G λ_ F _ _=>MO (n:=2) F (BR qr) (BR m) B;have qu:=hs a15 X G λ_ F _ _=>OF (n:=1) F (BR D) f;have qv:=hs a16 X G λ_ F _ _=>UI (n:=0) F Dg g;have wX:=hs a17 X G λ_ F _ _=>RQ (n:=3) F (BR wW) (BR qt) (BR qu) (BR qv);have H:=hs a18 X G λ_ F _ _=>UG (n:=1) F (BR C);have wY:=hs a19 X G λ_ F _ _=>RT (n:=2) F (BR H1) (BR H) (BR H6) (BR H7) (BR m) k g;have wZ:=hs a20 X G λ_ F _ _=>RU (n:=0) F YS;have wa:=hs a21 X G λ_ F _ _=>UE (n:=2) F (BR H) (BR m) k g;have wb:=hs a22 X G λ_ F _ _=>OE (n:=2) F (BR D) (BR H);have uY:=hs a23 X G λ_ F _ _=>Pb (n:=1) F (BR C);have wc:=hs a24 X G λ_ F _ _=>RW (n:=2) F (BR D) (BR H) (BR qr) (BR uY) (BR m) k g B;have wd:=hs a25 X G λ_ F _ _=>KB (n:=3) F (BR D) (BR wc) d5 k;have we:=hs a26 X G λ_ F _ _=>PZ (n:=2) F (BR D) (BR H) (BR qr) (BR uY) (BR qu) (BR m) Dg B;have wg:=hs a27 X G λ_ F _ _=>UH (n:=4) F (BR wd) (BR we) (BR qt) (BR qv);have wj:=hs a28 X G λ_ F _ _=>KC (n:=5) F (BR wa) (BR wb) (BR qt) (BR wg) (BR qu) (BR qv) (BR m);have wm:=hs a29 X G λ_ F _ _=>RX (n:=0) F Gd Kb f;have uZ:=hs a30 X G λ_ F _ _=>ZP (n:=0) F;have I:=hs a31 X G λ_ F _ _=>gN (n:=1) F (BR uZ) Gd;have uc:=hs a32 X G λ_ F _ _=>gO (n:=2) F (BR I);have ud:=hs a33 X G λ_ F _ _=>ZO (n:=0) F;have wn:=hs a34 X G λ_ F _ _=>OG (n:=1) F (BR ud) f;have wo:=hs a35 X G λ_ F _ _=>ZR (n:=2) F (BR wn) f;have wq:=hs a36 X G λ_ F _ _=>UQ (n:=0) F;have ue:=hs a37 X G λ_ F _ _=>ZQ (n:=3) F (BR wo) (BR wq) W4;have uf:=hs a38 X G λ_ F _ _=>WE (n:=4) F (BR ue) g;have ug:=hs a39 X G λ_ F _ _=>US (n:=5) F (BR uf);have wt:=hs a40 X G λ_ F _ _=>UM (n:=6) F (BR uc) (BR ug);have wu:=hs a41 X G λ_ F _ _=>ZS (n:=0) F Qb g B;have wv:=hs a42 X G λ_ F _ _=>WF (n:=1) F (BR wu);have ww:=hs a43 X G λ_ F _ _=>UL (n:=0) F;have uh:=hs a44 X G λ_ F _ _=>WJ (n:=0) F;have wx:=hs a45 X G λ_ F _ _=>Pd (n:=1) F (BR ud) (BR uh);have ui:=hs a46 X G λ_ F _ _=>UR (n:=2) F (BR wx);have wy:=hs a47 X G λ_ F _ _=>UK (n:=3) F (BR wv) (BR ww) (BR ui);have qw:=hs a48 X G λ_ F _ _=>bo (n:=2) F (BR I);have wz:=hs a49 X G λ_ F _ _=>gM (n:=2) F (BR I);have w4:=hs a50 X G λ_ F _ _=>b6 (n:=2) F (BR I);have w5:=hs a51 X G λ_ F _ _=>LG (n:=3) F (BR qw) (BR wz) (BR w4) B;have w6:=hs a52 X G λ_ F _ _=>Ra (n:=4) F (BR w5) f k;have xA:=hs a53 X G λ_ F _ _=>UN (n:=0) F;have xB:=hs a54 X G λ_ F _ _=>LH (n:=1) F (BR uZ);have xC:=hs a55 X G λ_ F _ _=>UO (n:=2) F (BR xB) g;have xD:=hs a56 X G λ_ F _ _=>Rb (n:=3) F (BR qw) (BR xA) (BR xC) f B i j;have xE:=hs a57 X G λ_ F _ _=>UP (n:=3) F (BR I) (BR ui) (BR uh);have xF:=hs a58 X G λ_ F _ _=>RZ (n:=5) F (BR wy) (BR w6) (BR xD) (BR xE);have xG:=hs a59 X G λ_ F _ _=>WI (n:=0) F;have xH:=hs a60 X G λ_ F _ _=>UT (n:=3) F (BR qw) (BR uc) (BR xG) k;have xI:=hs a61 X G λ_ F _ _=>bq (n:=7) F (BR wt) (BR xF) (BR xH);have xJ:=hs a62 X G λ_ F _ _=>RY (n:=8) F (BR xI);have xK:=hs a63 X G λ_ F _ _=>LF (n:=6) F (BR ug);have xL:=hs a64 X G λ_ F _ _=>WH (n:=7) F (BR xK) (BR uf) (BR ue) Qb;have xM:=hs a65 X G λ_ F _ _=>WG (n:=9) F (BR xJ) (BR xL);exact kq (n:=10) FL (BR H1) (BR H9) (BR wX) (BR wY) (BR wZ) (BR wj) (BR wm) (BR xM) f d8 k
def walk {l:PySem.W.OpenLaw}{q:kj}{loose:zy Str}{XP:(Str->zt zx)->kf->Prop}{YP:ki->kf->Prop}{d:DefRec}{K:Params->AAB}(c:l.most=some 63)(e:d.params.defaults= [])(g:∀(w:ki) (h:kf),YP w h->(K w.params).In h)(F:∀(w:ki) (Z:Str->zt zx) (b:zu) (h:kf),(K w.params).In h->h.Ns mainGlobals Z->Z d.name=some (.ref b)-> ∃U:FuncData,(∀(s:zw) (u:zx),BindsTo s U ⟨[u], []⟩ [("_law_script",u)])/\∀Y:kf,(K w.params).In Y->Y.Ns mainGlobals Z->Em l.prog w (K w.params) Z Y Sy 11 b U ["_law_script"] (Cf (K w.params) 1 EW)):PySem.W.WalkO q loose XP YP l.row.toRowW d [] (λf vs=>PySem.call f vs):=
 L2.walk_of (n:=63) (k:=11) (x:="_law_script") (CX:=λ_=>Sy) (sp:=λw=>Cf (K w.params) 1 EW) c (by decide) e ⟨rfl,by decide,by decide,rfl⟩ g F (λ_ _ a i hl _ j=>PL.law_sp j (bY i hl)) λ_ _ _ _ _ z=>z
def atK {K:AAB}{x:String}{s:Stmt}(m:String)(i c f:Nat)(a:PySem.W.nsIn K mainGlobals (Str.ofString x)=some (some (.ref f)):=by kernel_rfl)(l:K.lookup f=some (fO x s m i c):=by kernel_rfl)(d:PySem.W.codeIn K (.ref c) (Str.ofString x)=true:=by kernel_rfl)(k:PySem.W.keepIn K (.ref f)=true:=by kernel_rfl):C3 K (Str.ofString x) s f:=xQ a l d k
end K43
open PySem PySem.W PyProof.Rows
def K43.lg:LeftO K43.pwA K43.q [] (λs=>xlAt K43.q [] s&&recOk [] s) (λs=>K43.KA.map s.heap.get?) (λw=>(K43.KK w.params).map λp=>some p.2) 6000:=λw=>PL.map_pair (PL.map5 (K43.l0 w) (K43.l1 w) (K43.l2 w) (K43.l3 w) (K43.l4 w)) (K43.l5 w)
theorem PySem.Challenge.cw_skylanes_k43_fullest_holds : PySem.Challenge.rw_skylanes_k43_fullest.Holds := by
 refine ⟨K43.w1, ?_⟩
 refine PySem.W.holds_open (q:=K43.q) (loose:= []) (Xt:=λs=>xlAt K43.q [] s&&recOk [] s) (XP:=XL K43.q []) (YP:=InK K43.KK) (N:=6000) K43.lg (InK.of (as:=K43.KA) λ_=>by kernel_rfl) InK.keeps (λs e=>xl_of s (Bool.and_eq_true_iff.mp e).1) XL.keeps (by rfl) (by rfl) (by rfl) (λs e=>recFacts_of (Bool.and_eq_true_iff.mp e).2) (by rfl) K43.w0 (by decide +kernel) ⟨rfl,rfl,rfl,rfl,rfl,by decide +kernel⟩ ?hw ?hc
 (case hw=>w_witness2)
 case hc=>
 refine K43.walk (l:=PySem.Challenge.rw_skylanes_k43_fullest) (K:=K43.KK) rfl rfl (λw h Y=>Y) ?F
 intro w mg fa h KX G oD
 refine' K43.all_mk KX G oD (K43.atK K43.m0 537 267 268) (K43.atK K43.m0 537 337 338) (K43.atK K43.m0 537 274 275) (K43.atK K43.m0 537 288 289) (K43.atK K43.m0 537 408 409) (K43.atK K43.m0 537 316 317) (K43.atK K43.m0 537 323 324) (K43.atK K43.m0 537 330 331) (K43.atK K43.m0 537 415 416) (K43.atK K43.m0 537 281 282) (K43.atK K43.m0 537 386 387) (K43.atK K43.m0 537 420 421) (K43.atK K43.m0 537 302 303) (K43.atK K43.m0 537 369 370) (K43.atK K43.m0 537 354 355) (K43.atK K43.m0 537 376 377) (K43.atK K43.m0 537 425 426) (K43.atK K43.m0 537 295 296) (K43.atK K43.m0 537 347 348) (K43.atK K43.m0 537 432 433) (K43.atK K43.m0 537 391 392) (K43.atK K43.m0 537 398 399) (K43.atK K43.m0 537 309 310) (K43.atK K43.m0 537 342 343) (K43.atK K43.m0 537 364 365) (K43.atK K43.m0 537 359 360) (K43.atK K43.m0 537 381 382) (K43.atK K43.m0 537 403 404) (K43.atK K43.m0 537 260 261) (K43.atK K43.m1 187 20 21) (K43.atK K43.m1 187 27 28) (K43.atK K43.m1 187 34 35) (K43.atK K43.m1 187 62 63) (K43.atK K43.m1 187 76 77) (K43.atK K43.m1 187 83 84) (K43.atK K43.m2 277 90 91) (K43.atK K43.m2 277 95 96) (K43.atK K43.m2 277 102 103) (K43.atK K43.m2 277 109 110) (K43.atK K43.m2 277 126 127) (K43.atK K43.m3 352 143 144) (K43.atK K43.m3 352 150 151) (K43.atK K43.m3 352 157 158) (K43.atK K43.m3 352 164 165) (K43.atK K43.m3 352 171 172) (K43.atK K43.m3 352 178 179) (K43.atK K43.m3 352 185 186) (K43.atK K43.m1 187 41 42) (K43.atK K43.m1 187 55 56) (K43.atK K43.m1 187 48 49) (K43.atK K43.m4 438 208 209) (K43.atK K43.m4 438 213 214) (K43.atK K43.m4 438 201 202) (K43.atK K43.m1 187 69 70) (K43.atK K43.m3 352 138 139) (K43.atK K43.m5 473 227 228) (K43.atK K43.m3 352 192 193) (K43.atK K43.m5 473 234 235) (K43.atK K43.m6 342 133 134) (K43.atK K43.m5 473 220 221) (K43.atK K43.m5 473 241 242) (K43.atK K43.m5 473 246 247) (K43.atK K43.m2 277 114 115) (K43.atK K43.m2 277 119 120) (K43.atK K43.m5 473 253 254) (K43.atK K43.m0 537 437 438) (by kernel_rfl) (by kernel_rfl) (by kernel_rfl) (by kernel_rfl) (by kernel_rfl) (by kernel_rfl) (by kernel_rfl) (by kernel_rfl) (by kernel_rfl) (by kernel_rfl) (by kernel_rfl) (by kernel_rfl) (by kernel_rfl) ?a_ONCE ?a_BACK ?h_qBACK_1 ?h_qONCE_4 (qBACK_1:=195) (qBACK_1n:=0) (qBACK_1d:=none) (qBACK_1s:= #[]) (qBACK_2:=444) (qBACK_3:=445) (qONCE_4:=194) (qONCE_4n:=0) (qONCE_4d:=none) (qONCE_4s:= #[]) (qONCE_5:=440) (qONCE_6:=441)
 (case a_ONCE=>kernel_rfl)
 (case a_BACK=>kernel_rfl)
 (case h_qBACK_1=>kernel_rfl)
 (case h_qONCE_4=>kernel_rfl)
end
